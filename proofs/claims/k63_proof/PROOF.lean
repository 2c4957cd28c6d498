import PyProof.Rows.All
import Wide.All
import OpenK.AllK
import Wide.FinOn
import Lean
import PyProof.EqAt
import PyProof.EqKinds
import PyProof.TupleCall
import KE.KDictList
import KE.KDictLaws
import KE.KDictSum
import KE.KRevSl
import PyProof.DictWalks
import PySem.Challenge.RW_linkorcut_k63_whole_wishes_refereed
set_option Elab.async false
set_option compiler.extract_closed false
set_option linter.all false
set_option maxRecDepth 100000
set_option maxHeartbeats 4000000
set_option genSizeOf false
set_option backward.eqns.nonrecursive false
set_option backward.eqns.deepRecursiveSplit false
set_option bootstrap.genMatcherCode false
set_option hygiene false
local macro_rules
|`(def $n:declId $s:optDeclSig $v:declVal)=>`(noncomputable def $n:declId $s:optDeclSig $v:declVal)
|`(abbrev $n:declId $s:optDeclSig $v:declVal)=>`(noncomputable abbrev $n:declId $s:optDeclSig $v:declVal)
local macro_rules
|`(#[$a])=>`(.cons $a .nil)
|`(#[$a,$as,*])=>`(.cons $a #[$as,*])
local macro_rules
|`(!$n:num)=>`(.var $n)
local macro_rules
|`(¬$n:num)=>`(.cst (.int $n))
set_option hygiene true
open Array(getElem?_toList toList)
open Bool(and_eq_true false_eq_true not_eq_true' or_eq_true)
open PySem.Heap(get?_update_self size_push)
open Int(emod_lt_of_pos emod_nonneg eq_ofNat_of_zero_le)
open List(all_eq_true any_cons append_nil ext_getElem filter_append filter_cons_of_neg find?_cons getElem?_cons_succ getElem_map length length_append length_cons length_drop length_map length_nil length_set length_singleton length_take lookup_cons map_append map_congr_left map_cons map_id map_map map_nil mem_append mem_cons mem_filter mem_map mem_map_of_mem nil_append nodup_append nodup_cons nodup_nil not_mem_nil of_mem_zip pairwise_map prefix_append range' replicate set_cons_succ set_cons_zero size_toArray take_sublist toArray zip_cons_cons)
open Nat(le_of_lt le_succ lt_irrefl lt_succ_of_lt lt_succ_self lt_trans mod_lt ne_of_gt zero_le)
open Option(bind_some getD_none map_some)
open PySem.W(callWith_K callWith_K0 cellsFrom_some codeHdIn codeHd_of_K codeIn codeRec_of emptyDict eq_sortI findIn fnMade handedIn hasDictIn instObj kat_lt keepIn kia_one kitOne kitx_list lookIn makesIn methodObj plainGet plainGet_of plainOver sortI_perm specialIn tabObj takerIn typeIn)
def aab:=@PySem.wpAny_bind
def aac:=@Bool.false_ne_true
def aad:=@Option.bind_eq_some_iff
def aae:=@PySem.Heap.get?_push_of_some
def aaf:=@List.length_map
def aag:=@List.getElem?_eq_some_iff
def aah:=@List.getElem?_set_ne
def aai:=@PySem.wpAny_pure
def aaj:=@if_pos
def aak:=@List.mem_cons_of_mem
def aal:=@List.mem_cons_self
def aam:=@if_neg
def aan:=@PySem.Heap.lt_size
def aao:=@Nat.le_refl
def aap:=@List.map_cons
def aaq:=@Nat.lt_of_lt_of_le
def aar:=@List.getElem?_set_self
def aas:=@List.getElem?_append_left
def aat:=@List.mem_singleton
def aau:=@Nat.ne_of_lt
def aav:=@PySem.Heap.get?_push_size
def aaw:=@List.length_append
def aax:=@List.size_toArray
def aay:=@of_decide_eq_true
def aaz:=@PySem.W.mg_of
def aaA:=@List.mem_cons
def aaB:=@List.getElem?_map
def aaC:=@List.prefix_refl
def aaD:=@List.getElem?_append_right
def aaE:=@List.mem_of_getElem?
def aaF:=@List.length_cons
def aaG:=@Option.some.inj
def aaH:=@Nat.le_trans
def aaI:=@List.mem_append_right
def aaJ:=@List.getElem?_eq_getElem
def aaK:=@Array.length_toList
def aaL:=@decide_eq_true_eq
def aaM:=@PySem.wpAny_newObj_type
def aaN:=@List.map_append
def aaO:=@List.map_map
def aaP:=@List.mem_append
def aaQ:=@List.mem_append_left
def aaR:=@Option.map_eq_some_iff
def aaS:=@congrArg
def aaT:=@PySem.mem_of_lookup
def aaU:=@List.length_range
def aaW:=@List.pairwise_cons
open PySem.W(Frag sortI nsIn fnOf isFn)
section
namespace L2
open PySem PySem.Spec PyProof.Rows
abbrev Key:=Sum Int Str
def rj:Key->Value->Bool
 |.inl k,v=>Value.isInt k v
 |.inr x,v=>Value.isStrOf x v
def VS(w:World):Key->Int
 |.inl k=>hashInt k
 |.inr x=>hashStr w x
theorem bV:∀{k:Key} {v:Value},rj k v=true->(∃i t,k=Sum.inl i/\v=Value.int i t)\/(∃x t,k=Sum.inr x/\v=Value.str x t)
 | .inl i,v,h=>by
  obtain⟨t,e⟩:=Value.isInt_shape (k:=i) (v:=v) h;exact .inl ⟨i,t,rfl,e⟩
 | .inr x,v,h=>by
  obtain⟨t,e⟩:=Value.isStrOf_shape (x:=x) (v:=v) h;exact .inr ⟨x,t,rfl,e⟩
theorem CU(i:Int)(t:Tok):rj (.inl i) (.int i t)=true:=by simp[rj,Value.isInt]
theorem CV(x:Str)(t:Tok):rj (.inr x) (.str x t)=true:=by simp[rj,Value.isStrOf]
theorem MY(a b:Int):decide ((Sum.inl a:Key)=Sum.inl b)=(a==b):=by
 by_cases e:a=b
 ·subst e;simp
 ·have h:¬ (Sum.inl a:Key)=Sum.inl b:=λq=>e (Sum.inl.inj q);rw[decide_eq_false h];exact(beq_eq_false_iff_ne.mpr e).symm
theorem MZ(a b:Str):decide ((Sum.inr a:Key)=Sum.inr b)=decide (a=b):=by
 by_cases e:a=b
 ·subst e;simp
 ·have h:¬ (Sum.inr a:Key)=Sum.inr b:=λq=>e (Sum.inr.inj q);rw[decide_eq_false h,decide_eq_false e]
theorem M0(a:Int)(b:Str):decide ((Sum.inl a:Key)=Sum.inr b)=false:=decide_eq_false (λq=>nomatch q)
theorem M1(a:Str)(b:Int):decide ((Sum.inr a:Key)=Sum.inl b)=false:=decide_eq_false (λq=>nomatch q)
def bJ(prog:Program)(w:World):PySem.KeyKind prog w Key where
 is:=rj
 hash:=VS w
 inj:=λv a b ha hb=>by
  rcases bV ha with ⟨i,t,rfl,rfl⟩|⟨x,t,rfl,rfl⟩
  ·rcases bV hb with ⟨j,u,rfl,e⟩|⟨y,u,rfl,e⟩
   ·injection e with e1 _;rw[e1]
   ·exact nomatch e
  ·rcases bV hb with ⟨j,u,rfl,e⟩|⟨y,u,rfl,e⟩
   ·exact nomatch e
   ·injection e with e1 _;rw[e1]
 byValue:=λk v h=>by
  rcases bV h with ⟨i,t,rfl,rfl⟩|⟨x,t,rfl,rfl⟩<;>rfl
 pyHash:=λhv h=>by
  rcases bV hv with ⟨i,t,rfl,rfl⟩|⟨x,t,rfl,rfl⟩
  ·exact wpAny_pyHash_int h
  ·exact wpAny_pyHash_str h
 eqBool:=λhu hv h=>by
  rcases bV hu with ⟨i,t,rfl,rfl⟩|⟨x,t,rfl,rfl⟩
  ·rcases bV hv with ⟨j,u,rfl,rfl⟩|⟨y,u,rfl,rfl⟩
   ·rw[MY]at h;exact wpAny_eqBool_int h
   ·rw[M0]at h;exact SeqAt.EqAt.int_str i t y u _ _ _ _ h
  ·rcases bV hv with ⟨j,u,rfl,rfl⟩|⟨y,u,rfl,rfl⟩
   ·rw[M1]at h;exact SeqAt.EqAt.str_int x t j u _ _ _ _ h
   ·rw[MZ]at h;exact wpAny_eqBool_str h
 «strs»:=λk x t v h=>by
  rcases bV h with ⟨i,u,rfl,e⟩|⟨y,u,rfl,e⟩
  ·exact nomatch e
  ·injection e with e1 _
   subst e1;cases v<;>rfl
theorem Aa(prog:Program)(w:World)(k:Key)(v:Value):(bJ prog w).is k v=rj k v:=rfl
theorem xy(prog:Program)(w:World)(i:Int)(t:Tok):(bJ prog w).is (.inl i) (.int i t)=true:=CU i t
theorem xA(prog:Program)(w:World)(x:Str)(t:Tok):(bJ prog w).is (.inr x) (.str x t)=true:=CV x t
inductive V where
 |non|bl (b:Bool)|int (i:Int)|str (x:Str)|byt (b:Array UInt8)|flt (b:UInt64)|ref (a:Addr)|ty (n:String)
 deriving DecidableEq
def RelV:V->Value->Prop
 |.non,u=>u=Value.none
 |.bl b,u=>u=Value.bool b
 |.int i,u=>∃t,u=Value.int i t
 |.str x,u=>∃t,u=Value.str x t
 |.byt b,u=>∃t,u=Value.bytes b t
 |.flt b,u=>∃t,u=Value.float b t
 |.ref a,u=>u=Value.ref a
 |.ty n,u=>u=Value.type n
abbrev Vals:List V->List Value->Prop:=Paired RelV
theorem Vals.length(r:Vals xs us):xs.length=us.length:=Paired.length r
theorem Vals.get:∀{xs:List V} {us:List Value} {i:Nat} {x:V},Vals xs us->xs[i]?=some x->∃u,us[i]?=some u/\RelV x u
 |_,_,_,_,.nil,e=>by simp at e
 |_,_,0,_,.cons r _,e=>by simp at e;subst e;exact⟨_,rfl,r⟩
 | _,_,i+1,x,.cons _ t,e=>by
  obtain⟨u,h1,h2⟩:=Vals.get (i:=i) (x:=x) t (by simpa using e);exact⟨u,by simpa using h1,h2⟩
theorem Vals.set(r:RelV x u):∀{xs:List V} {us:List Value} (i:Nat),Vals xs us->Vals (xs.set i x) (us.set i u)
 |_,_,_,.nil=>.nil
 |_,_,0,.cons _ t=>.cons r t
 |_,_,i+1,.cons q t=>.cons q (Vals.set r i t)
theorem Vals.append:∀{xs ys:List V} {us ws:List Value},Vals xs us->Vals ys ws->Vals (xs++ys) (us++ws)
 |_,_,_,_,.nil,s=>s
 |_,_,_,_,.cons r t,s=>.cons r (Vals.append t s)
theorem Vals.take:∀{xs:List V} {us:List Value} (n:Nat),Vals xs us->Vals (xs.take n) (us.take n)
 |_,_,0,_=>.nil
 |_,_,_+1,.nil=>.nil
 |_,_,n+1,.cons r t=>.cons r (Vals.take n t)
theorem Vals.drop:∀{xs:List V} {us:List Value} (n:Nat),Vals xs us->Vals (xs.drop n) (us.drop n)
 |_,_,0,r=>r
 |_,_,_+1,.nil=>.nil
 |_,_,n+1,.cons _ t=>Vals.drop n t
def kE:Option V->Option Value->Prop
 |some v,some u=>RelV v u
 |none,none=>True
 |_,_=>False
def KV{κ:Type}:List (κ × V)->List (κ × Value)->Prop:=Paired λ(p:κ × V) (q:κ × Value)=>p.1=q.1/\RelV p.2 q.2
def kV:Key->V
 |.inl i=>.int i
 |.inr x=>.str x
inductive HO where
  |lst (xs:List V)
  |tup (xs:List V)
  |dK (kvs:List (Key×V))|dT (kvs:List (List Key×V))
  |set (S:Int->Bool) (n:Nat)
  |ins (C dx:Addr) (fs:List (Str×V))
  |own (x:Addr)
  |xd (fs:List (Str×V))
  |met (f x:Addr)
  |rng (lo hi:Int)
  |oR (o:Obj) (u:HO)
  |tbl (ps:Array Value)
  |ext (φ:Heap->Prop)
abbrev Hp:=Addr->Option HO
def upd(H:Hp)(a:Addr)(o:HO):Hp:=λb=>if b=a then some o else H b
theorem aD:upd H a o a=some o:=by unfold upd;rw[aaj rfl]
theorem ak(h:b≠a):upd H a o b=H b:=by unfold upd;rw[aam h]
theorem uv{H:Hp}{a b:Addr}{o u:HO}(h:H a=some o)(h':H b=some u)(d:o≠u):a≠b:=by
 intro e;subst e;rw[h]at h';exact d (aaG h')
theorem aC{H:Hp}{a b:Addr}{o:HO}(h:H a=some o)(h':H b=none):a≠b:=by
 intro e;subst e;rw[h]at h';cases h'
section
variable (P:Program) (w:World)
def cB(H:Hp)(h:Heap)(a:Addr):HO->Prop
 |.lst xs=>xs.length<=sizeLine/\∃(its:List Value) (n:Nat),Vals xs its/\h.get? a=some { cls:=.type "list",data:=.seq its.toArray n }
 |.tup xs=>xs.length<=sizeLine/\∃its:List Value,Vals xs its/\IsTup h a its.toArray
 |.dK kvs=>kvs.length<=sizeLine/\(a==sysModules)=false/\∃vs,KV kvs vs/\h.DictOf (bJ P w) a vs
 | .dT kvs=>kvs.length<=sizeLine/\(a==sysModules)=false/\∃xs:List (List Key×Addr×Value),
   Paired (λ(p:List Key×V) (q:List Key×Addr×Value)=>p.1=q.1/\H q.2.1=some (.tup (p.1.map kV))/\RelV p.2 q.2.2) kvs xs /\
   ∃o es ep,h.get? a=some o/\o.ExactDict/\o.data=.dict es ep/\es.toList=xs.map (entryOfKey (tupleKind (bJ P w)))/\(xs.map (·.1)).Nodup
 |.set S n=>h.SetOf (intKind P w) a S n
 | .ins C dx fs=>H dx=some (.own a)/\fs.length<=1000/\dx≠a/\h.get? a=some (instObj C dx) /\
   ∃mA,h.Ns1 dx mA/\(∀f,kE (fs.lookup f) (mA f))/\PySem.Within mA (fs.map (·.1))
 |.own _=>∃o,h.get? a=some o
 |.xd fs=>∃mA,h.Ns1 a mA/\∀f,kE (fs.lookup f) (mA f)
 |.rng lo hi=>∃t u v,h.get? a=some { cls:=.type "range",data:=.fields [.int lo t,.int hi u,.int 1 v].toArray }
 |.oR o u=>h.get? a=some o/\cB H h a u
 |.tbl ps=>h.get? a=some { cls:=.none,data:=.fields ps }
 |.met f x=>h.get? a=some (methodObj (.ref f) (.ref x))
 |.ext φ=>φ h/\(∃o,h.get? a=some o)/\∀h1 h2:Heap,φ h1->(∀o,h1.get? a=some o->h2.get? a=some o) -> φ h2
def nL(H:Hp)(h:Heap):Prop:=∀a o,H a=some o->cB P w H h a o
end
section
variable {P:Program} {w:World} {H H':Hp} {h h':Heap} {a:Addr} {o:HO}
theorem cB.lt(x:cB P w H h a o):a<h.objs.size:=by
 cases o with
 |lst xs=>obtain⟨_,_,_,_,e⟩:=x;exact aan e
 |tup xs=>obtain⟨_,_,_,p⟩:=x;exact p.lt
 |dK kvs=>obtain⟨_,_,_,_,o,_,_,e,_⟩:=x;exact aan e
 |dT kvs=>obtain⟨_,_,_,_,o,_,_,e,_⟩:=x;exact aan e
 |set S n=>obtain⟨o,_,_,_,e,_⟩:=x;exact aan e
 |ins C dx fs=>obtain⟨_,_,_,e,_⟩:=x;exact aan e
 |own y=>obtain⟨_,e⟩:=x;exact aan e
 |xd fs=>obtain⟨_,⟨_,_,_,e,_⟩,_⟩:=x;exact aan e
 |rng lo hi=>obtain⟨_,_,_,e⟩:=x;exact aan e
 |oR ob u=>obtain⟨e,_⟩:=x;exact aan e
 |tbl ps=>exact aan (show h.get? a=some _ from x)
 |met f y=>exact aan (show h.get? a=some _ from x)
 |ext φ=>obtain⟨_,⟨_,e⟩,_⟩:=x;exact aan e
theorem Paired.M3{α β:Type}{F G:α -> β -> Prop}:∀{l₁:List α} {l₂:List β},Paired F l₁ l₂->(∀a b,F a b->G a b)->Paired G l₁ l₂
 |_,_,.nil,_=>.nil
 |_,_,.cons r t,f=>.cons (f _ _ r) (Paired.M3 t f)
theorem cB.stay(x:cB P w H h a o)(k:∀b u,(b=a\/H b=some (.own a))->h.get? b=some u->h'.get? b=some u)
  (ho:∀b,H b=some (.own a)->H' b=some (.own a)) (ht:∀b xs,H b=some (.tup xs)->H' b=some (.tup xs)):cB P w H' h' a o:=by
 induction o with
 |lst xs=>obtain⟨z,its,n,r,e⟩:=x;exact⟨z,its,n,r,k _ _ (.inl rfl) e⟩
 |tup xs=>obtain⟨z,its,r,ob,e,c⟩:=x;exact⟨z,its,r,ob,k _ _ (.inl rfl) e,c⟩
 |dK kvs=>obtain⟨z,y,vs,r,ob,es,ep,e,c⟩:=x;exact⟨z,y,vs,r,ob,es,ep,k _ _ (.inl rfl) e,c⟩
 |dT kvs=>obtain⟨z,y,xs,r,ob,es,ep,e,c⟩:=x;exact⟨z,y,xs,Paired.M3 r λp q z=>⟨z.1,ht _ _ z.2.1,z.2.2⟩,ob,es,ep,k _ _ (.inl rfl) e,c⟩
 |set S n=>obtain⟨ob,es,ep,t,e,c⟩:=x;exact⟨ob,es,ep,t,k _ _ (.inl rfl) e,c⟩
 |ins C dx fs=>obtain⟨d,z,ne,e,mA,⟨od,es,ep,e2,c⟩,r⟩:=x;exact⟨ho _ d,z,ne,k _ _ (.inl rfl) e,mA,⟨od,es,ep,k _ _ (.inr d) e2,c⟩,r⟩
 |own y=>obtain⟨ob,e⟩:=x;exact⟨ob,k _ _ (.inl rfl) e⟩
 |xd fs=>obtain⟨mA,⟨od,es,ep,e,c⟩,r⟩:=x;exact⟨mA,⟨od,es,ep,k _ _ (.inl rfl) e,c⟩,r⟩
 |rng lo hi=>obtain⟨t,u,v,e⟩:=x;exact⟨t,u,v,k _ _ (.inl rfl) e⟩
 |oR ob u ih=>obtain⟨e,q⟩:=x;exact⟨k _ _ (.inl rfl) e,ih q⟩
 |tbl ps=>have e:h.get? a=some { cls:=.none,data:=.fields ps }:=x;show h'.get? a=some { cls:=.none,data:=.fields ps };exact k a _ (.inl rfl) e
 |met f y=>have e:h.get? a=some (methodObj (.ref f) (.ref y)):=x;show h'.get? a=some (methodObj (.ref f) (.ref y));exact k a _ (.inl rfl) e
 |ext φ=>obtain⟨p,⟨o,e⟩,st⟩:=x;exact⟨st _ _ p λo q=>k _ _ (.inl rfl) q,⟨o,k _ _ (.inl rfl) e⟩,st⟩
theorem nL.lt(x:nL P w H h)(e:H a=some o):a<h.objs.size:=(x a o e).lt
theorem nL.fresh(x:nL P w H h)(e:h.objs.size<=a):H a=none:=by
 cases q:H a with
 |none=>rfl
 |some u=>exact absurd (aaq (x.lt q) e) (lt_irrefl _)
theorem nL.kept(x:nL P w H h)(k:∀b u,h.get? b=some u->h'.get? b=some u):nL P w H h':=λa o e=>
 (x a o e).stay (λb u _ q=>k b u q) (λ_ q=>q) λ_ _ q=>q
theorem nL.laid(x:nL P w H h)(k:∀b u,h.get? b=some u->h'.get? b=some u)(hp:h.objs.size<=a)(new:cB P w (upd H a o) h' a o):nL P w (upd H a o) h':=λb u e=>by
 have hn:=x.fresh hp
 by_cases hb:b=a
 ·subst hb;rw[aD]at e;cases e;exact new
 ·rw[ak hb]at e;exact(x b u e).stay (λc v _ q=>k c v q) (λc q=>by rw[ak (aC q hn)];exact q) λc xs q=>by rw[ak (aC q hn)];exact q
end
def Rd(H:Hp)(a:Addr)(u:HO):Prop:=H a=some u\/∃o,H a=some (.oR o u)
theorem Rd.ok(r:Rd H a u)(x:nL P w H h):cB P w H h a u:=by
 rcases r with r|⟨o,r⟩
 ·exact x a u r
 ·obtain⟨_,q⟩:=x a _ r;exact q
def RC:Option HO->Prop
 |some (.lst _)=>True
 |some (.dK _)=>True
 |some (.dT _)=>True
 |some (.set _ _)=>True
 |some (.ins _ _ _)=>True
 |some (.ext _)=>True
 |_=>False
section
variable {P:Program} {w:World} {H:Hp} {h h':Heap} {x e:Addr} {o':HO}
theorem nL.write(ok:nL P w H h)(mu:RC (H x))(he:e=x\/H e=some (.own x))(k:∀b u,b≠e->h.get? b=some u->h'.get? b=some u)(Ro:∃u,h'.get? e=some u)
  (new:cB P w (upd H x o') h' x o'):nL P w (upd H x o') h':=λb u q=>by
 have nown:∀c y,H c=some (.own y)->c≠x:=λc y r z=>by subst z;rw[r]at mu;exact mu
 have ntup:∀c xs,H c=some (.tup xs)->c≠x:=λc xs r z=>by subst z;rw[r]at mu;exact mu
 by_cases hb:b=x
 ·subst hb;rw[aD]at q;cases q;exact new
 ·rw[ak hb]at q
  by_cases M4:b=e
  ·have q':H b=some (.own x):=by
    rcases he with z|z
    ·exact absurd (M4.trans z) hb
    ·rw[M4];exact z
   rw[q]at q';cases q';obtain⟨v,hv⟩:=Ro;exact⟨v,by rw[M4];exact hv⟩
  ·refine(ok b u q).stay (λc v hc r=>k c v ?_ r) (λc r=>by rw[ak (nown c b r)];exact r) λc xs r=>by rw[ak (ntup c xs r)];exact r
   rcases hc with rfl|hc
   ·exact M4
   ·rintro rfl
    rcases he with z|z
    ·exact nown c b hc z
    ·rw[hc]at z;cases z;exact hb rfl
end
structure Un (fs ex:List Addr) (H H':Hp) (h h':Heap):Prop where
 keep:∀b o,h.get? b=some o->H b=none->b∉fs->b∉ex->h'.get? b=some o
 slot:∀b o,h.get? b=some o->H b=none->b∈fs->b∉ex->∃sl,h'.get? b=some { o with slots:=sl }
 free:∀b o,h.get? b=some o->H b=none->b∉ex->H' b=none
 there:∀b o,h.get? b=some o->b∉ex->∃o',h'.get? b=some o'
 tups:∀b xs,H b=some (.tup xs)->H' b=some (.tup xs)
 frzs:∀b o u,H b=some (.oR o u)->H' b=some (.oR o u)
 tbls:∀b ps,H b=some (.tbl ps)->∃more,H' b=some (.tbl (ps++more))
section
variable {fs fs' ex ex':List Addr} {H H1 H2:Hp} {h h1 h2 h':Heap} {a x e:Addr} {o:HO}
theorem Un.any(u:Un fs ex H H1 h h1)(q:h.get? b=some ob)(n:H b=none)(hx:b∉ex):∃sl,h1.get? b=some { ob with slots:=sl }:=by
 by_cases hb:b∈fs
 ·exact u.slot b ob q n hb hx
 ·exact⟨ob.slots,u.keep b ob q n hb hx⟩
theorem Un.kept(k:∀b u,h.get? b=some u->h'.get? b=some u):Un fs ex H H h h' :=
 ⟨λb ob q _ _ _=>k b ob q,λb ob q _ _ _=>⟨ob.slots,k b ob q⟩,λ_ _ _ n _=>n,λb ob q _=>⟨ob,k b ob q⟩,λ_ _ q=>q,λ_ _ _ q=>q,λ_ ps q=>⟨#[],by rw[q];simp⟩⟩
theorem Un.refl:Un fs ex H H h h:=Un.kept λ_ _ q=>q
theorem Un.laid(k:∀b u,h.get? b=some u->h'.get? b=some u)(hp:h.objs.size<=a)(hn:H a=none):Un fs ex H (upd H a o) h h' where
 keep:=λb u q _ _ _=>k b u q
 slot:=λb u q _ _ _=>⟨u.slots,k b u q⟩
 free:=λb u q n _=>by rw[ak (aau (aaq (aan q) hp))];exact n
 there:=λb u q _=>⟨u,k b u q⟩
 tups:=λb xs q=>by rw[ak (aC q hn)];exact q
 frzs:=λb u xs q=>by rw[ak (aC q hn)];exact q
 tbls:=λb ps q=>⟨#[],by rw[ak (aC q hn),q];simp⟩
theorem Un.write(mu:RC (H x))(he:e=x\/H e=some (.own x))(k:∀b u,b≠e->h.get? b=some u->h'.get? b=some u)(Ro:∃u,h'.get? e=some u):Un fs ex H (upd H x o) h h':=by
 have hx:∀b,H b=none->b≠x:=λb n z=>by subst z;rw[n]at mu;exact mu
 have hb:∀b,H b=none->b≠e:=λb n z=>by
  subst z
  rcases he with r|r
  ·exact hx b n r
  ·rw[n]at r;cases r
 have hm:∀b u,H b=some u->¬ RC (some u)->b≠x:=λb u q nm z=>by subst z;rw[q]at mu;exact nm mu
 refine⟨λb u q n _ _=>k b u (hb b n) q,λb u q n _ _=>⟨u.slots,k b u (hb b n) q⟩,λb u q n _=>by rw[ak (hx b n)];exact n,λb u q _=>?_,
  λb xs q=>by rw[ak (hm b _ q λz=>z)];exact q,λb u xs q=>by rw[ak (hm b _ q λz=>z)];exact q,λb ps q=>⟨#[],by rw[ak (hm b _ q λz=>z),q];simp⟩⟩
 by_cases M4:b=e
 ·subst M4;exact Ro
 ·exact⟨u,k b u M4 q⟩
end
def Vk(h:Heap)(H:Hp):List Addr:=(List.range h.objs.size).filter λa=>(H a).isSome
def tR(h:Heap)(H:Hp):Heap:=PySem.W.hideAll h (Vk h H)
theorem CW(h:Heap)(H:Hp):(tR h H).objs.size=h.objs.size:=PySem.W.hideAll_size _ _
theorem Ew(e:h.get? b=some o)(n:H b=none):(tR h H).get? b=some o :=
 PySem.W.hideAll_get _ e λhm=>by
  have q:(H b).isSome=true:=(mem_filter.mp hm).2;rw[n]at q;simp at q
theorem JK(e:(tR h H).get? b=some o):h.get? b=some o/\H b=none:=by
 have e':h.get? b=some o:=PySem.W.of_hideAll (Vk h H) e;refine⟨e',?_⟩;cases q:H b with
 |none=>rfl
 |some x=>have hm:b∈Vk h H:=mem_filter.mpr ⟨List.mem_range.mpr (aan e'),by simp[q]⟩;have z:(tR h H).get? b=none:=PySem.W.hideAll_none (Vk h H) hm;rw[z]at e;cases e
def JL(g h:Heap)(L:Addr):List (Addr×Obj):=(List.range h.objs.size).filterMap λa=>if a=L\/(g.get? a).isSome=true then none else (h.get? a).map λo=>(a,o)
def rest(g h:Heap)(L d:Addr):List (Addr×Obj):=(JL g h L).filter λp=>decide (p.1≠d)
structure Mod (K:Frag) (mg:Str->Option Value) (base:Heap):Prop where
 Rp:K.In base
 glob:base.Ns mainGlobals mg
 blt:∃mb,base.Ns builtinsNs mb/\∀x:Str,x ≠ "__name__" -> mb x=bootBuiltins x
 nolimit:base.NoLimit
structure Cx where
 prog:Program
 w:World
 K:Frag
 mg:Str->Option Value
 base:Heap
 A:Around
 N:List Str
 s₀:Shared
 H₀:Hp
 env:Env
 outer:List Env
 stack:List Env
 ex:List Addr
 fn:Str->Bool
 calm:Bool
 pn:List (Addr×Obj)
 xe:Value->Shared->Prop
def frs(l:List Env):List Addr:=l.filterMap (·.frame)
abbrev Cx.fs(X:Cx):List Addr:=frs X.outer
def RD(sc:Scope)(x:Str):Prop:=sc.names.lookup x=some .local\/sc.names.lookup x=some .cell\/sc.names.lookup x=some .free
def Loc(sc:Scope)(x:Str):Prop:=sc.names.lookup x=some .local\/sc.names.lookup x=some .cell
def Look(env:Env)(h:Heap)(m:Str->Option Value)(x:Str)(u:Value):Prop :=
 (env.kindOf x=some .local/\m x=some u)\/((env.kindOf x=some .cell\/env.kindOf x=some .free)/\∃c,env.cells.lookup x=some c/\h.IsCell c (some u))
structure Cx.Ok (X:Cx):Prop where
 mod:Mod X.K X.mg X.base
 kind:X.env.scope.kind=.function
 glob:X.env.globals=mainGlobals
 blt:X.env.builtins=builtinsNs
 above:X.s₀.heap.objs.size<=X.env.locals
 inj:∀x y c,X.env.cells.lookup x=some c->X.env.cells.lookup y=some c->x=y
 has:∀x,(X.env.kindOf x=some .cell\/X.env.kindOf x=some .free)->∃c,X.env.cells.lookup x=some c
 Rq:∀x c,X.fn x=true->X.env.cells.lookup x=some c->X.s₀.heap.objs.size<=c
 hd:X.calm=true->X.A.handled=none
 frames:X.A.frames=some X.stack
 stk:X.stack=X.outer\/(X.stack=X.env::X.outer/\X.env.frame=some X.env.locals)
 VT:∀b∈X.ex,b≠X.env.locals/\∀x c,X.env.cells.lookup x=some c->c≠b
 bs:∀b o,X.base.get? b=some o->X.s₀.heap.get? b=some o/\X.H₀ b=none
 JM:X.base.objs.size<=X.s₀.heap.objs.size
 kQ:∀b o,X.base.get? b=some o->b∉X.ex
 Ex:∀b∈X.ex,b∉X.fs
 oS:X.s₀.heap.FunFrames X.base X.outer
 Mp:∀b∈X.fs,X.H₀ b=none
structure Inv (X:Cx) (pins:List (Addr×Obj)) (σ:List (Option V)) (H:Hp) (s:Shared):Prop where
 ok:X.Ok
 os:s.os=X.s₀.os
 bare:AllBare s.gens
 base:Un X.fs X.ex X.H₀ H X.s₀.heap s.heap
 loc:∃m,s.heap.Ns X.env.locals m/\∀(i:Nat) (x:Str) (v:V),X.N[i]?=some x -> σ[i]?=some (some v)->RD X.env.scope x->∃u,RelV v u/\Look X.env s.heap m x u
 cell:∀x c,X.env.cells.lookup x=some c->∃v,s.heap.IsCell c v
 free:H X.env.locals=none
 kh:∀x c,X.env.cells.lookup x=some c->H c=none\/(X.fn x=false/\∃o u,H c=some (.oR o u))
 pin:∀p∈X.pn++pins,s.heap.get? p.1=some p.2/\H p.1=none/\p.1≠X.env.locals/\p.1∉X.fs/\∀v,p.2.data≠.cell v
 hok:nL X.prog X.w H s.heap
 len:σ.length=X.N.length
section
variable {X:Cx} {pins:List (Addr×Obj)} {σ:List (Option V)} {H H':Hp} {s:Shared} {h':Heap}
theorem Cx.Ok.VU(ok:X.Ok)(e:X.base.get? b=some o):b∉X.fs:=λhb=>by
 have:=(ok.oS.mem hb).1;rw[e]at this;cases this
theorem Inv.bs(I:Inv X pins σ H s):∀b o,X.base.get? b=some o->s.heap.get? b=some o/\H b=none:=λb o e=>
 ⟨I.base.keep b o (I.ok.bs b o e).1 (I.ok.bs b o e).2 (I.ok.VU e) (I.ok.kQ b o e),I.base.free b o (I.ok.bs b o e).1 (I.ok.bs b o e).2 (I.ok.kQ b o e)⟩
theorem Inv.bk(I:Inv X pins σ H s):∀b o,X.base.get? b=some o->s.heap.get? b=some o:=λb o e=>(I.bs b o e).1
theorem Inv.mod(I:Inv X pins σ H s):Mod X.K X.mg X.base:=I.ok.mod
theorem Inv.qz(I:Inv X pins σ H s):X.K.In s.heap:=I.ok.mod.Rp.keeps I.bk
theorem Inv.lt(I:Inv X pins σ H s):X.env.locals<s.heap.objs.size:=let ⟨_,hn,_⟩:=I.loc;hn.lt
theorem Inv.sz(I:Inv X pins σ H s):X.s₀.heap.objs.size<=s.heap.objs.size:=aaH I.ok.above (le_of_lt I.lt)
theorem Inv.VW(I:Inv X pins σ H s)(h:s.heap.objs.size<=a):a∉X.fs:=λhb=>by
 obtain⟨_,o,ho,_⟩:=I.ok.oS.mem hb;exact absurd (aaq (aan ho) (aaH I.sz h)) (lt_irrefl _)
theorem Inv.cne(I:Inv X pins σ H s):∀x c,X.env.cells.lookup x=some c->c≠X.env.locals:=λx c e z=>by
 obtain⟨v,o,ho,hd⟩:=I.cell x c e;obtain⟨m,⟨o',es,ep,ho',hd',_⟩,_⟩:=I.loc;rw[z,ho']at ho;cases ho;rw[hd']at hd;cases hd
theorem Inv.oS(I:Inv X pins σ H s):s.heap.FunFrames X.base X.outer:=by
 have all:∀(l:List Env),(∀b∈frs l,b∈X.fs)->X.s₀.heap.FunFrames X.base l->s.heap.FunFrames X.base l:=by
  intro l
  induction l with
  |nil=>intro _ _;trivial
  |cons env r ih=>intro hs hl;obtain⟨hk,⟨L,o,hf,hn,ho,hd⟩,hr⟩:=hl;have hL:L∈X.fs:=hs L (by unfold frs;rw[List.filterMap_cons,hf];exact aal);obtain⟨sl,e⟩:=I.base.slot L o ho (I.ok.Mp L hL) hL λz=>I.ok.Ex L z hL;exact⟨hk,⟨L,_,hf,hn,e,hd⟩,ih (λb hb=>hs b (by unfold frs;rw[List.filterMap_cons,hf];exact aak _ hb)) hr⟩
 exact all X.outer (λ_ hb=>hb) I.ok.oS
theorem Inv.stack(I:Inv X pins σ H s):s.heap.FunFrames X.base X.stack:=by
 rcases I.ok.stk with e|⟨e,hf⟩
 ·rw[e];exact I.oS
 ·rw[e];obtain⟨m,hn,_⟩:=I.loc;refine .cons (by rw[I.ok.kind];decide) hf hn ?_ I.oS;exact Heap.get?_none_of_le (aaH I.ok.JM I.ok.above)
theorem Inv.Ab(I:Inv X pins σ H s):∀b∈frs X.stack,b∈X.env.locals::X.fs:=λb hb=>by
 rcases I.ok.stk with e|⟨e,hf⟩
 ·rw[e]at hb;exact aak _ hb
 ·rw[e]at hb;unfold frs at hb;rw[List.filterMap_cons,hf]at hb;exact hb
theorem Inv.BA(I:Inv X pins σ H s):∀b∈frs X.stack,H b=none:=λb hb=>by
 rcases aaA.mp (I.Ab b hb) with e|hb
 ·rw[e];exact I.free
 ·obtain⟨_,o,ho,_⟩:=I.ok.oS.mem hb;exact I.base.free b o ho (I.ok.Mp b hb) λz=>I.ok.Ex b z hb
theorem Inv.step{g':Array GenState}{t':Nat}{d':Drawn}{ch:List Addr}(I:Inv X pins σ H s)
  (hch:∀b∈ch,(b∈X.ex\/X.s₀.heap.objs.size<=b)/\b≠X.env.locals/\(∀x c,X.env.cells.lookup x=some c->c≠b)/\∀p∈X.pn++pins,p.1≠b)
  (keep:∀b o,b≠X.env.locals->b∉X.fs->b∉ch->s.heap.get? b=some o->H b=none->h'.get? b=some o)
  (slot:∀b o,b≠X.env.locals->b∈X.fs->b∉ch->s.heap.get? b=some o->H b=none->∃sl,h'.get? b=some { o with slots:=sl }) (free:∀b o,b∉ch->s.heap.get? b=some o->H b=none->H' b=none)
  (there:∀b o,b∉ch->s.heap.get? b=some o->∃o',h'.get? b=some o')
  (tups:∀b xs,H b=some (.tup xs)->H' b=some (.tup xs)) (frzs:∀b o u,H b=some (.oR o u)->H' b=some (.oR o u)) (tbls:∀b ps,H b=some (.tbl ps)->∃more,H' b=some (.tbl (ps++more)))
  (ns:∀m,s.heap.Ns X.env.locals m->h'.Ns X.env.locals m) (hok:nL X.prog X.w H' h') (hg:AllBare g') :
  Inv X pins σ H' { s with heap:=h',gens:=g',drawn:=d',toks:=t' }:=by
 have neL:∀b o,X.s₀.heap.get? b=some o->b≠X.env.locals:=λb o e=>aau (aaq (aan e) I.ok.above);have neC:∀b o,X.s₀.heap.get? b=some o->b∉X.ex->b∉ch:=λb o e hx hb=>by
  rcases(hch b hb).1 with z|z
  ·exact hx z
  ·exact absurd (aaq (aan e) z) (lt_irrefl _)
 have cellK:∀x c,X.env.cells.lookup x=some c->∀v,s.heap.IsCell c v->h'.IsCell c v:=λx c e v ⟨o,ho,hd⟩=>by
  have RE:c∉ch:=λz=>(hch c z).2.2.1 x c e rfl
  rcases I.kh x c e with fc|⟨_,o',u,fc⟩
  ·by_cases hc:c∈X.fs
   ·obtain⟨sl,q⟩:=slot c o (I.cne x c e) hc RE ho fc;exact⟨_,q,hd⟩
   ·exact⟨o,keep c o (I.cne x c e) hc RE ho fc,hd⟩
  ·have z:=(I.hok c _ fc).1;rw[ho]at z;cases z;exact⟨o,(hok c _ (frzs c _ _ fc)).1,hd⟩
 refine⟨I.ok,I.os,hg,⟨λb o e n hb hx=>?_,λb o e n hb hx=>?_,λb o e n hx=>?_,λb o e hx=>?_,λb xs e=>tups b xs (I.base.tups b xs e),λb o xs e=>frzs b o xs (I.base.frzs b o xs e),λb ps e=>?_⟩,?_,λx c e=>?_,?_,λx c e=>?_,λp hp=>?_,hok,I.len⟩
 ·exact keep b o (neL b o e) hb (neC b o e hx) (I.base.keep b o e n hb hx) (I.base.free b o e n hx)
 ·obtain⟨sl,e1⟩:=I.base.slot b o e n hb hx;obtain⟨Zz,e2⟩:=slot b _ (neL b o e) hb (neC b o e hx) e1 (I.base.free b o e n hx);exact⟨Zz,e2⟩
 ·obtain⟨o',e1⟩:=I.base.there b o e hx;exact free b o' (neC b o e hx) e1 (I.base.free b o e n hx)
 ·obtain⟨o',e1⟩:=I.base.there b o e hx;exact there b o' (neC b o e hx) e1
 ·obtain⟨m1,e1⟩:=I.base.tbls b ps e;obtain⟨m2,e2⟩:=tbls b _ e1;exact⟨m1++m2,by rw[e2,Array.append_assoc]⟩
 ·obtain⟨m,hn,hl⟩:=I.loc
  refine⟨m,ns m hn,λi x v e1 e2 e3=>?_⟩;obtain⟨u,r,l⟩:=hl i x v e1 e2 e3;refine⟨u,r,?_⟩
  rcases l with l|⟨k,c,e,z⟩
  ·exact .inl l
  ·exact .inr ⟨k,c,e,cellK x c e _ z⟩
 ·obtain⟨v,z⟩:=I.cell x c e;exact⟨v,cellK x c e v z⟩
 ·obtain⟨m,⟨o,_,_,ho,_⟩,_⟩:=I.loc;exact free _ o (λz=>(hch _ z).2.1 rfl) ho I.free
 ·obtain⟨v,o,ho,hd⟩:=I.cell x c e;exact(I.kh x c e).imp (free c o (λz=>(hch c z).2.2.1 x c e rfl) ho) λ⟨f,o,u,z⟩=>⟨f,o,u,frzs _ _ _ z⟩
 ·obtain⟨e,n,ne,nf,d⟩:=I.pin p hp;have RE:p.1∉ch:=λz=>(hch p.1 z).2.2.2 p hp rfl;exact⟨keep p.1 p.2 ne nf RE e n,free p.1 p.2 RE e n,ne,nf,d⟩
theorem Inv.un{t':Nat}(I:Inv X pins σ H s)(u:Un X.fs [] H H' s.heap h')(hok:nL X.prog X.w H' h'):Inv X pins σ H' { s with heap:=h',toks:=t' }:=by
 obtain⟨m,⟨o,es,ep,ho,r⟩,_⟩:=id I.loc;obtain⟨sl,hL⟩:=u.any ho I.free (by simp);exact I.step (g':=s.gens) (d':=s.drawn) (ch:=[]) (λ_ z=>nomatch z) (λb o _ hb _ e n=>u.keep b o e n hb (by simp)) (λb o _ hb _ e n=>u.slot b o e n hb (by simp)) (λb o _ e n=>u.free b o e n (by simp)) (λb o _ e=>u.there b o e (by simp)) u.tups u.frzs u.tbls (λm' hm=>by
  obtain⟨o',es',VX,ho',r'⟩:=hm;rw[ho]at ho';cases ho';exact⟨_,es',VX,hL,r'⟩) hok I.bare
theorem Inv.call{t':Nat}(I:Inv X pins σ H s)(u:Un (frs X.stack) ch H H' s.heap h')(hok:nL X.prog X.w H' h')(hg:AllBare g')
  (hch:∀b∈ch,(b∈X.ex\/X.s₀.heap.objs.size<=b)/\b≠X.env.locals/\(∀x c,X.env.cells.lookup x=some c->c≠b)/\∀p∈X.pn++pins,p.1≠b) :
  Inv X pins σ H' { s with heap:=h',gens:=g',drawn:=d',toks:=t' }:=by
 obtain⟨m,⟨o,es,ep,ho,r⟩,_⟩:=id I.loc;obtain⟨sl,hL⟩:=u.any ho I.free λz=>(hch _ z).2.1 rfl;exact I.step (ch:=ch) hch (λb o hL hb hc e n=>u.keep b o e n (λz=>(aaA.mp (I.Ab b z)).elim hL hb) hc) (λb o _ _ hc e n=>u.any e n hc) (λb o hc e n=>u.free b o e n hc) (λb o hc e=>u.there b o e hc) u.tups u.frzs u.tbls (λm' hm=>by
  obtain⟨o',es',VX,ho',r'⟩:=hm;rw[ho]at ho';cases ho';exact⟨_,es',VX,hL,r'⟩) hok hg
theorem Inv.turned{t':Nat}(I:Inv X pins σ H s)(k:∀b o,b≠it->s.heap.get? b=some o->h'.get? b=some o)(hn:H it=none)(hL:it≠X.env.locals)
  (h1:it∈X.ex\/X.s₀.heap.objs.size<=it) (h2:∀x c,X.env.cells.lookup x=some c->c≠it) (h3:∀p∈X.pn++pins,p.1≠it):Inv X pins σ H { s with heap:=h',toks:=t' }:=by
 have RG:∀b u,H b=some u->b≠it:=λb u e z=>by rw[z,hn]at e;cases e
 refine I.step (g':=s.gens) (d':=s.drawn) (ch:=[it]) (λb hb=>?_) (λb o _ _ hc e _=>k b o (λz=>hc (by simp[z])) e) (λb o _ _ hc e _=>⟨o.slots,k b o (λz=>hc (by simp[z])) e⟩) (λ_ _ _ _ n=>n)
  (λb o hc e=>⟨o,k b o (λz=>hc (by simp[z])) e⟩) (λ_ _ e=>e) (λ_ _ _ e=>e) (λb ps e=>⟨#[],by rw[e];simp⟩) (λm hm=>?_) (λb u e=>?_) I.bare
 ·have e:b=it:=by simpa using hb
  subst e;exact⟨h1,hL,h2,h3⟩
 ·obtain⟨o,es,ep,ho,r⟩:=hm;exact⟨o,es,ep,k _ o (Ne.symm hL) ho,r⟩
 ·refine(I.hok b u e).stay (λc v hc q=>k c v ?_ q) (λ_ q=>q) λ_ _ q=>q
  rcases hc with z|z
  ·rw[z];exact RG b u e
  ·exact RG c _ z
theorem Inv.tok(I:Inv X pins σ H s)(t:Nat):Inv X pins σ H { s with toks:=t }:=I.un (h':=s.heap) (t':=t) Un.refl I.hok
theorem Inv.kept{t':Nat}(I:Inv X pins σ H s)(k:∀b u,s.heap.get? b=some u->h'.get? b=some u):Inv X pins σ H { s with heap:=h',toks:=t' }:=I.un (Un.kept k) (I.hok.kept k)
theorem Inv.laid{t':Nat}(I:Inv X pins σ H s)(k:∀b u,s.heap.get? b=some u->h'.get? b=some u)(hp:s.heap.objs.size<=a)(new:cB X.prog X.w (upd H a o) h' a o) :
  Inv X pins σ (upd H a o) { s with heap:=h',toks:=t' }:=I.un (Un.laid k hp (I.hok.fresh hp)) (I.hok.laid k hp new)
theorem Inv.write{t':Nat}(I:Inv X pins σ H s)(mu:RC (H x))(he:e=x\/H e=some (.own x))(k:∀b u,b≠e->s.heap.get? b=some u->h'.get? b=some u)(Ro:∃u,h'.get? e=some u)
  (new:cB X.prog X.w (upd H x o) h' x o):Inv X pins σ (upd H x o) { s with heap:=h',toks:=t' }:=I.un (Un.write mu he k Ro) (I.hok.write mu he k Ro new)
theorem Inv.BB(I:Inv X pins σ H s)(h:∀p∈RH,s.heap.get? p.1=some p.2/\H p.1=none/\p.1≠X.env.locals/\p.1∉X.fs/\∀v,p.2.data≠.cell v):Inv X RH σ H s :=
 ⟨I.ok,I.os,I.bare,I.base,I.loc,I.cell,I.free,I.kh,λp hp=>(aaP.mp hp).elim (λz=>I.pin p (aaQ _ z)) (h p),I.hok,I.len⟩
theorem xB{N:List Str}(hN:N.Nodup){i j:Nat}{x:Str}(a:N[i]?=some x)(b:N[j]?=some x):i=j:=by
 obtain⟨h1,e1⟩:=aag.mp a;obtain⟨h2,e2⟩:=aag.mp b;exact(List.getElem_inj hN).mp (e1.trans e2.symm)
theorem uw{i:Nat}(I:Inv X pins σ H s)(hN:X.N.Nodup)(hi:X.N[i]?=some x)(hx:Loc X.env.scope x)(r:RelV v u)
  (h:∀s',Inv X pins (σ.set i (some v)) H s'->(∃a,Heap.SameBut a s.heap s'.heap/\(a=X.env.locals\/X.env.cells.lookup x=some a))->Q () s') (hf:X.fn x=true\/X.env.scope.names.lookup x=some .local):wpAny M A (storeName X.env x u) Q E s:=by
 obtain⟨m,hn,hl⟩:=id I.loc;have hcls:(X.env.scope.kind==.class||(X.env.scope.kind==.module&&X.env.locals != X.env.globals))=false:=by rw[I.ok.kind];rfl
 have XF:i < σ.length:=by rw[I.len];exact(aag.mp hi).1
 have cne:=I.cne;have tracked:∀{a:Addr} {h':Heap},(∃o,s.heap.get? a=some o/\H a=none)->Heap.SameBut a s.heap h'->nL X.prog X.w H h':=λ{a h'} ha hs b ob e=>by
  obtain⟨_,_,hfree⟩:=ha;refine(I.hok b ob e).stay (λc w' hc q=>(hs.2 c ?_).trans q) (λ_ q=>q) λ_ _ q=>q;rintro rfl
  rcases hc with rfl|hc
  ·rw[hfree]at e;cases e
  ·rw[hfree]at hc;cases hc
 rcases hx with hk|hk
 ·refine wpAny_storeName_local hk hn (λh' hn' hs=>?_) hcls
  obtain⟨oL,_,_,ZA,_⟩:=id hn;refine h _ ⟨I.ok,I.os,I.bare,⟨λb o e n hb hx=>?_,λb o e n hb hx=>?_,I.base.free,λb o e hx=>?_,I.base.tups,I.base.frzs,I.base.tbls⟩,⟨_,hn',λj y v' e1 e2 e3=>?_⟩,λy c e=>?_,I.free,I.kh,λp hp=>?_,tracked ⟨oL,ZA,I.free⟩ hs,by simpa using I.len⟩ ⟨_,hs,.inl rfl⟩
  ·exact(hs.2 b (aau (aaq (aan e) I.ok.above))).trans (I.base.keep b o e n hb hx)
  ·obtain⟨sl,e1⟩:=I.base.slot b o e n hb hx;exact⟨sl,(hs.2 b (aau (aaq (aan e) I.ok.above))).trans e1⟩
  ·obtain⟨o',e1⟩:=I.base.there b o e hx;exact⟨o',(hs.2 b (aau (aaq (aan e) I.ok.above))).trans e1⟩
  ·by_cases hj:j=i
   ·subst hj;rw[hi]at e1;cases e1;rw[aar XF]at e2;cases e2;exact⟨u,r,.inl ⟨hk,by simp⟩⟩
   ·rw[aah (Ne.symm hj)]at e2
    obtain⟨u',r',q⟩:=hl j y v' e1 e2 e3;refine⟨u',r',?_⟩
    rcases q with ⟨k,e⟩|⟨k,c,e,z⟩
    ·refine .inl ⟨k,?_⟩;have:y≠x:=λe=>hj (xB hN e1 (e▸hi));simp[this,e]
    ·exact .inr ⟨k,c,e,z.sameBut hs (cne y c e)⟩
  ·obtain⟨w',z⟩:=I.cell y c e;exact⟨w',z.sameBut hs (cne y c e)⟩
  ·obtain⟨e,n,ne,nf,d⟩:=I.pin p hp;exact⟨(hs.2 p.1 ne).trans e,n,ne,nf,d⟩
 ·have hfn:X.fn x=true:=by
   rcases hf with z|z
   ·exact z
   ·rw[z]at hk;cases hk
  obtain⟨c,hc⟩:=I.ok.has x (.inl hk);obtain⟨w',z⟩:=I.cell x c hc;refine wpAny_storeName_cell I.ok.kind hk hc z (λh' hc' hs=>?_);obtain⟨oc,hoc,Ey⟩:=id z;refine h { s with heap:=h' } ⟨I.ok,I.os,I.bare,⟨λb o e n hb hx=>?_,λb o e n hb hx=>?_,I.base.free,λb o e hx=>?_,I.base.tups,I.base.frzs,I.base.tbls⟩,⟨m,hn.sameBut hs (Ne.symm (cne x c hc)),λj y v' e1 e2 e3=>?_⟩,λy c' e=>?_,I.free,I.kh,λp hp=>?_,tracked ⟨oc,hoc,(I.kh x c hc).resolve_right λz=>by rw[hfn]at z;cases z.1⟩ hs,by simpa using I.len⟩ ⟨c,hs,.inr hc⟩
  ·exact(hs.2 b (aau (aaq (aan e) (I.ok.Rq x c hfn hc)))).trans (I.base.keep b o e n hb hx)
  ·obtain⟨sl,e1⟩:=I.base.slot b o e n hb hx;exact⟨sl,(hs.2 b (aau (aaq (aan e) (I.ok.Rq x c hfn hc)))).trans e1⟩
  ·obtain⟨o',e1⟩:=I.base.there b o e hx;exact⟨o',(hs.2 b (aau (aaq (aan e) (I.ok.Rq x c hfn hc)))).trans e1⟩
  ·by_cases hj:j=i
   ·subst hj;rw[hi]at e1;cases e1;rw[aar XF]at e2;cases e2;exact⟨u,r,.inr ⟨.inl hk,c,hc,hc'⟩⟩
   ·rw[aah (Ne.symm hj)]at e2
    obtain⟨u',r',q⟩:=hl j y v' e1 e2 e3;refine⟨u',r',?_⟩
    rcases q with q|⟨k,c',e,z'⟩
    ·exact .inl q
    ·refine .inr ⟨k,c',e,z'.sameBut hs ?_⟩;rintro rfl;exact hj (xB hN e1 (I.ok.inj _ _ _ e hc▸hi))
  ·by_cases hcc:c'=c
   ·subst hcc;exact⟨_,hc'⟩
   ·obtain⟨w2,z2⟩:=I.cell y c' e;exact⟨w2,z2.sameBut hs hcc⟩
  ·obtain⟨e,n,ne,nf,d⟩:=I.pin p hp;refine⟨(hs.2 p.1 ?_).trans e,n,ne,nf,d⟩;intro q;rw[q,hoc]at e;have q':oc=p.2:=aaG e;exact d w' (by rw[<-q'];exact Ey)
theorem nO{i:Nat}(I:Inv X pins σ H s)(hN:X.N.Nodup)(hi:X.N[i]?=some x)(hx:Loc X.env.scope x)(r:RelV v u)
  (h:∀s',Inv X pins (σ.set i (some v)) H s'->Q () s') (hf:X.fn x=true\/X.env.scope.names.lookup x=some .local):wpAny M A (storeName X.env x u) Q E s :=
 uw I hN hi hx r (λs' I' _=>h s' I') hf
theorem Inv.RI(I:Inv X pins σ H s)(ho:s'.os=s.os)(u:Un (frs X.stack) ch H H' s.heap s'.heap)(hok:nL X.prog X.w H' s'.heap)(hg:AllBare s'.gens)
  (hch:∀b∈ch,(b∈X.ex\/X.s₀.heap.objs.size<=b)/\b≠X.env.locals/\(∀x c,X.env.cells.lookup x=some c->c≠b)/\∀p∈X.pn++pins,p.1≠b):Inv X pins σ H' s':=by
 obtain⟨h',g',d',t',o'⟩:=s';have e:o'=s.os:=ho;subst e;exact I.call (g':=g') (t':=t') (d':=d') u hok hg hch
end
abbrev XK:=Value->Option Addr->Hp->Prop
abbrev St:=List (Option V)
abbrev VK:=V->Hp->Prop
abbrev TE:=St->Hp->VK->Prop
abbrev TT:=St->Hp->(Bool->Hp->Prop)->Prop
abbrev TA:=St->Hp->(List V->Hp->Prop)->Prop
structure Ends where
 nx:St->Hp->Prop
 rt:VK
 bk:St->Hp->Prop:=λ_ _=>False
 ct:St->Hp->Prop:=λ_ _=>False
abbrev TS:=Ends->St->Hp->Prop
def EP(X:Cx)(pins:List (Addr×Obj))(σ:St)(Q:VK)(u:Value)(s':Shared):Prop:=∃v H',Inv X pins σ H' s'/\RelV v u/\Q v H'
def TP(X:Cx)(pins:List (Addr×Obj))(σ:St)(Q:Bool->Hp->Prop)(b:Bool)(s':Shared):Prop:=∃H',Inv X pins σ H' s'/\Q b H'
def AP(X:Cx)(pins:List (Addr×Obj))(σ:St)(Q:List V->Hp->Prop)(us:List Value)(s':Shared):Prop:=∃vs H',Inv X pins σ H' s'/\Vals vs us/\Q vs H'
def SP(X:Cx)(pins:List (Addr×Obj))(D:Ends)(f:Flow)(s':Shared):Prop :=
 match f with
 |.next=>∃σ' H',Inv X pins σ' H' s'/\D.nx σ' H'
 |.brk=>∃σ' H',Inv X pins σ' H' s'/\D.bk σ' H'
 |.cont=>∃σ' H',Inv X pins σ' H' s'/\D.ct σ' H'
 |.ret u=>∃v σ' H',Inv X pins σ' H' s'/\RelV v u/\D.rt v H'
def PE(X:Cx)(e:Expr)(t:TE):Prop :=
 ∀(pins:List (Addr×Obj)) (s:Shared) (σ:St) (H:Hp) (Q:VK),Inv X pins σ H s->t σ H Q->wpAny (model X.prog X.w) X.A (eval e X.env) (EP X pins σ Q) X.xe s
def PT(X:Cx)(e:Expr)(t:TT):Prop :=
 ∀(pins:List (Addr×Obj)) (s:Shared) (σ:St) (H:Hp) (Q:Bool->Hp->Prop),Inv X pins σ H s->t σ H Q->wpAny (model X.prog X.w) X.A (isTrue e X.env (eval e X.env)) (TP X pins σ Q) X.xe s
def PW(X:Cx)(e:Expr)(t:TT):Prop :=
 ∀(whole:Sem Value) (pins:List (Addr×Obj)) (s:Shared) (σ:St) (H:Hp) (Q:Bool->Hp->Prop),Inv X pins σ H s->t σ H Q->wpAny (model X.prog X.w) X.A (isTrue e X.env whole) (TP X pins σ Q) X.xe s
theorem PW.pt(h:PW X e t):PT X e t:=h _
def PA(X:Cx)(es:List Expr)(t:TA):Prop :=
 ∀(pos:Pos) (pins:List (Addr×Obj)) (s:Shared) (σ:St) (H:Hp) (Q:List V->Hp->Prop),Inv X pins σ H s->t σ H Q->wpAny (model X.prog X.w) X.A (spliced (backTo pos (starEach es X.env))) (AP X pins σ Q) X.xe s
def PS(X:Cx)(st:Stmt)(t:TS):Prop :=
 ∀(pins:List (Addr×Obj)) (s:Shared) (σ:St) (H:Hp) (D:Ends),Inv X pins σ H s->t D σ H->wpAny (model X.prog X.w) X.A (exec st X.env) (SP X pins D) X.xe s
def xC(X:Cx)(st:List Stmt)(t:TS):Prop :=
 ∀(pins:List (Addr×Obj)) (s:Shared) (σ:St) (H:Hp) (D:Ends),Inv X pins σ H s->t D σ H->wpAny (model X.prog X.w) X.A (execs st X.env) (SP X pins D) X.xe s
theorem cK{α:Type}{t:Sem α}{Q Q':α -> Shared->Prop}(h:wpAny M A t Q E s)(hQ:∀a s,Q a s->Q' a s):wpAny M A t Q' E s:=wpAny_mono h hQ λ_ _ x=>x
section
variable {X:Cx}
theorem bin{a b:Expr}{ta tb:TE}(ha:PE X a ta)(hb:PE X b tb){pins:List (Addr×Obj)}{s:Shared}{σ:St}{H:Hp}{R:V->V->Hp->Prop}(I:Inv X pins σ H s)(h:ta σ H λx H1=>tb σ H1 λy H2=>R x y H2)
  {α:Type} {Q:α -> Shared->Prop} {f:Value->Value->Sem α}
  (hf:∀v u s2 x y H2,Inv X pins σ H2 s2->RelV x v->RelV y u->R x y H2->wpAny (model X.prog X.w) X.A (f v u) Q X.xe s2) :
  wpAny (model X.prog X.w) X.A (eval a X.env) (λv s₁=>wpAny (model X.prog X.w) X.A (eval b X.env) (λu s₂=>wpAny (model X.prog X.w) X.A (f v u) Q X.xe s₂) X.xe s₁) X.xe s:=by
 refine cK (ha pins s σ H _ I h) λv s1 aT=>?_;obtain⟨x,H1,I1,r1,q1⟩:=aT;refine cK (hb pins s1 σ H1 _ I1 q1) λu s2 aT=>?_;obtain⟨y,H2,I2,r2,q2⟩:=aT;exact hf v u s2 x y H2 I2 r1 r2 q2
def VY(i:Nat):TE:=λσ H Q=>∃v,σ[i]?=some (some v)/\Q v H
def tC(v:V):TE:=λ_ H Q=>Q v H
theorem Ez{i:Nat}(hN:X.N[i]?=some x)(hv:RD X.env.scope x)(hd:(x==("__debug__":Str))=false)(hcd:(x==("__classdict__":Str))=false):PE X (.Name x pos) (VY i):=by
 intro pins s σ H Q I h;obtain⟨v,e,h⟩:=h;obtain⟨m,hn,hl⟩:=I.loc;obtain⟨u,r,l⟩:=hl i x v hN e hv;have fin:EP X pins σ Q u s:=⟨v,H,I,r,h⟩
 rcases l with ⟨hk,hm⟩|⟨hk,c,hc,hcell⟩
 ·exact wpAny_Name (wpAny_loadName_local I.ok.kind hk hn hm fin) hd
 ·rcases hk with hk|hk
  ·exact wpAny_Name (wpAny_loadName_cell I.ok.kind hk hc hcell fin) hd
  ·exact wpAny_Name (wpAny_loadName_free I.ok.kind hk hc hcell fin hcd) hd
theorem M5{i j pos}:PE X (.Constant (.int i) j pos) (tC (.int i)):=λ_ _ _ H _ I h=>wpAny_Constant_int ⟨.int i,H,I.tok _,⟨_,rfl⟩,h⟩
theorem RJ{b j pos}:PE X (.Constant (.bool b) j pos) (tC (.bl b)):=λ_ _ _ H _ I h=>Constant_bool ⟨.bl b,H,I,rfl,h⟩
theorem M6{j pos}:PE X (.Constant .none j pos) (tC .non):=λ_ _ _ H _ I h=>Constant_none ⟨.non,H,I,rfl,h⟩
theorem M7{x j pos}:PE X (.Constant (.str x) j pos) (tC (.str x)):=λ_ _ _ H _ I h=>Calls.Constant_str ⟨.str x,H,I.tok _,⟨_,rfl⟩,h⟩
def Gl(X:Cx)(x:Str):Prop:=X.env.kindOf x=some .globalImplicit
theorem nP(I:Inv X pins σ H s)(hg:Gl X x)(hm:X.mg x=some u)(h:Q u s)
  (hd:(x==("__debug__":Str))=false):wpAny (model X.prog X.w) X.A (eval (.Name x pos) X.env) Q E s :=
 Calls.Name_function_global I.ok.kind hg (Calls.loadGlobal_global (by rw[I.ok.glob];exact I.mod.glob.keeps I.bk) hm h) hd
theorem jN(I:Inv X pins σ H s)(hg:Gl X x)(hm:X.mg x=none)(hv:bootBuiltins x=some u)(h:Q u s)
  (hn:x ≠ "__name__":=by decide) (hd:(x==("__debug__":Str))=false:=by decide):wpAny (model X.prog X.w) X.A (eval (.Name x pos) X.env) Q E s:=by
 obtain⟨mb,h1,h2⟩:=I.mod.blt;exact Calls.Name_function_global I.ok.kind hg (Calls.loadGlobal_builtin (by rw[I.ok.glob];exact I.mod.glob.keeps I.bk) hm (by rw[I.ok.blt];exact h1.keeps I.bk) ((h2 x hn).trans hv) h) hd
theorem JN(hg:Gl X x)(hm:X.mg x=some u)(r:RelV v u)(hd:(x==("__debug__":Str))=false):PE X (.Name x pos) (tC v) :=
 λ_ _ _ H _ I h=>nP I hg hm ⟨v,H,I,r,h⟩ hd
theorem JO(hg:Gl X x)(hm:X.mg x=none)(hv:bootBuiltins x=some u)(r:RelV v u)(hn:x ≠ "__name__")(hd:(x==("__debug__":Str))=false):PE X (.Name x pos) (tC v) :=
 λ_ _ _ H _ I h=>jN I hg hm hv ⟨v,H,I,r,h⟩ hn hd
variable {a b:Expr} {ta tb:TE} {pos:Pos}
variable {tA Vl:TT} {rest:List Expr}
def VZ(t u:TT):TT:=λσ H Q=>t σ H λc H1=>if c=true then u σ H1 Q else Q false H1
def ZC(t u:TT):TT:=λσ H Q=>t σ H λc H1=>if c=true then Q true H1 else u σ H1 Q
def V0(t:TT):TT:=λσ H Q=>t σ H λc H1=>Q (!c) H1
theorem JP(ha:PT X a tA):PW X (.BoolOp .And [a] pos) tA:=by
 intro wh pins s σ H Q I h;refine isTrue_and (cK (ha pins s σ H Q I h) λc s1 e=>?_);cases c with
 |true=>exact isTrue_and_nil e
 |false=>exact e
theorem M8(ha:PT X a tA):PW X (.BoolOp .Or [a] pos) tA:=by
 intro wh pins s σ H Q I h;refine isTrue_or (cK (ha pins s σ H Q I h) λc s1 e=>?_);cases c with
 |false=>exact isTrue_or_nil e
 |true=>exact e
theorem M9(ha:PT X a tA)(hb:PW X (.BoolOp .And (b::rest) pos) Vl):PW X (.BoolOp .And (a::b::rest) pos) (VZ tA Vl):=by
 intro wh pins s σ H Q I h;refine isTrue_and (cK (ha pins s σ H _ I h) λc s1 aT=>?_);obtain⟨H1,I1,q1⟩:=aT;cases c with
 |true=>exact hb wh pins s1 σ H1 Q I1 q1
 |false=>exact⟨H1,I1,q1⟩
theorem RK(ha:PT X a tA)(hb:PW X (.BoolOp .Or (b::rest) pos) Vl):PW X (.BoolOp .Or (a::b::rest) pos) (ZC tA Vl):=by
 intro wh pins s σ H Q I h;refine isTrue_or (cK (ha pins s σ H _ I h) λc s1 aT=>?_);obtain⟨H1,I1,q1⟩:=aT;cases c with
 |true=>exact⟨H1,I1,q1⟩
 |false=>exact hb wh pins s1 σ H1 Q I1 q1
theorem Na(ha:PT X a tA):PT X (.UnaryOp .Not a pos) (V0 tA):=by
 intro pins s σ H Q I h;exact isTrue_not (ha pins s σ H (λc H1=>Q (!c) H1) I h)
def RL(ta tb:TE):TE:=λσ H Q=>ta σ H λx H1=>∃c,x=.bl c/\if c=true then tb σ H1 Q else Q (.bl false) H1
def V1(ta tb:TE):TE:=λσ H Q=>ta σ H λx H1=>∃c,x=.bl c/\if c=true then Q (.bl true) H1 else tb σ H1 Q
def RM(ta:TE):TE:=λσ H Q=>ta σ H λx H1=>∃c,x=.bl c/\Q (.bl (!c)) H1
theorem EA{op}(h:PE X a t):PE X (.BoolOp op [a] pos) t:=λpins s σ H Q I hw=>BoolOp_one (h pins s σ H Q I hw)
theorem Nb(ha:PE X a ta)(hb:PE X (.BoolOp .And (b::rest) pos) tb):PE X (.BoolOp .And (a::b::rest) pos) (RL ta tb):=by
 intro pins s σ H Q I h;refine BoolOp_and (cK (ha pins s σ H _ I h) λv s1 aT=>?_);obtain⟨x,H1,I1,r1,q1⟩:=aT;obtain⟨c,rfl,q1⟩:=q1;cases r1;refine wpAny_truthy_bool ?_;cases c with
 |true=>exact hb pins s1 σ H1 Q I1 q1
 |false=>exact⟨.bl false,H1,I1,rfl,q1⟩
theorem RP(ha:PE X a ta)(hb:PE X (.BoolOp .Or (b::rest) pos) tb):PE X (.BoolOp .Or (a::b::rest) pos) (V1 ta tb):=by
 intro pins s σ H Q I h;refine BoolOp_or (cK (ha pins s σ H _ I h) λv s1 aT=>?_);obtain⟨x,H1,I1,r1,q1⟩:=aT;obtain⟨c,rfl,q1⟩:=q1;cases r1;refine wpAny_truthy_bool ?_;cases c with
 |false=>exact hb pins s1 σ H1 Q I1 q1
 |true=>exact⟨.bl true,H1,I1,rfl,q1⟩
theorem Nc(ha:PE X a ta):PE X (.UnaryOp .Not a pos) (RM ta):=by
 intro pins s σ H Q I h;refine UnaryOp_ (cK (ha pins s σ H _ I h) λv s1 aT=>?_);obtain⟨x,H1,I1,r1,q1⟩:=aT;obtain⟨c,rfl,q1⟩:=q1;cases r1;exact not_of (wpAny_truthy_bool ⟨.bl (!c),H1,I1,rfl,q1⟩)
def ZD(t:TT)(ta tb:TE):TE:=λσ H Q=>t σ H λc H1=>if c=true then ta σ H1 Q else tb σ H1 Q
theorem EB(hc:PT X c tA)(ha:PE X a ta)(hb:PE X b tb):PE X (.IfExp c a b pos) (ZD tA ta tb):=by
 intro pins s σ H Q I h;refine wpAny_IfExp (cK (hc pins s σ H _ I h) λd s1 aT=>?_);obtain⟨H1,I1,q1⟩:=aT;cases d with
 |true=>exact ha pins s1 σ H1 Q I1 q1
 |false=>exact hb pins s1 σ H1 Q I1 q1
end
def gR(K:Frag)(H:Hp)(a:Addr)(xs:List V):Prop :=
 Rd H a (.lst xs) \/
  ∃(o:Obj) (its:Array Value) (n:Nat),K.lookup a=some o/\o.cls=.type "list" /\ o.dict=none/\o.data=.seq its n/\its.size<=sizeLine/\Vals xs its.toList
def kO(K:Frag)(H:Hp)(a:Addr)(xs:List V):Prop :=
 Rd H a (.tup xs) \/
  ∃(o:Obj) (its:Array Value) (n:Nat),K.lookup a=some o/\o.cls=.type "tuple" /\ o.data=.seq its n/\its.size<=sizeLine/\Vals xs its.toList
def V3:Value->Option V
 |.none=>some .non
 |.bool b=>some (.bl b)
 |.int i _=>some (.int i)
 |.str x _=>some (.str x)
 |.bytes b _=>some (.byt b)
 |.float b _=>some (.flt b)
 |.ref a=>some (.ref a)
 |.type n=>some (.ty n)
 |_=>none
theorem RelV.abs(r:RelV x u):V3 u=some x:=by
 cases x with
 |non=>cases r;rfl
 |bl _=>cases r;rfl
 |int _=>obtain⟨t,rfl⟩:=r;rfl
 |str _=>obtain⟨t,rfl⟩:=r;rfl
 |byt _=>obtain⟨t,rfl⟩:=r;rfl
 |flt _=>obtain⟨t,rfl⟩:=r;rfl
 |ref _=>cases r;rfl
 |ty _=>cases r;rfl
theorem RelV.inj(r:RelV x u)(q:RelV y u):x=y:=aaG (r.abs.symm.trans q.abs)
theorem Vals.inj:∀{xs ys:List V} {us:List Value},Vals xs us->Vals ys us->xs=ys
 |_,_,_,.nil,.nil=>rfl
 |_,_,_,.cons r t,.cons r' t'=>by rw[r.inj r',Vals.inj t t']
section
variable {X:Cx} {pins:List (Addr×Obj)} {σ:St} {H:Hp} {s:Shared} {a:Addr} {xs ys:List V}
theorem kO.of{K:Frag}(h:H a=some (.tup xs)):kO K H a xs:=.inl (.inl h)
theorem Inv.list(I:Inv X pins σ H s)(h:gR X.K H a xs):∃its:List Value,Vals xs its/\PlainL s.heap a its.toArray/\xs.length<=sizeLine:=by
 rcases h with h|⟨o,its,n,hk,hc,hd,hs,hz,r⟩
 ·obtain⟨z,its,n,r,e⟩:=h.ok I.hok;exact⟨its,r,⟨_,n,e,rfl,rfl,rfl⟩,z⟩
 ·refine⟨its.toList,r,⟨o,n,I.qz a o hk,hc,hd,by simpa using hs⟩,?_⟩;have e:=r.length;simp only[Array.length_toList]at e;omega
theorem Inv.tuple(I:Inv X pins σ H s)(h:kO X.K H a xs):∃its:List Value,Vals xs its/\IsTup s.heap a its.toArray/\xs.length<=sizeLine:=by
 rcases h with h|⟨o,its,n,hk,hc,hs,hz,r⟩
 ·obtain⟨z,its,r,p⟩:=h.ok I.hok;exact⟨its,r,p,z⟩
 ·refine⟨its.toList,r,⟨o,I.qz a o hk,hc,n,by simpa using hs⟩,?_⟩;have e:=r.length;simp only[Array.length_toList]at e;omega
theorem Inv.rm(I:Inv X pins σ H s)(h:gR X.K H a xs)(h':gR X.K H a ys):xs=ys:=by
 obtain⟨its,r,⟨o,n,e,_,_,d⟩,_⟩:=I.list h;obtain⟨its',r',⟨o',n',e',_,_,d'⟩,_⟩:=I.list h';rw[e]at e';cases e';rw[d]at d';injection d' with d1 _
 have:its=its':=by simpa using aaS toList d1
 subst this;exact r.inj r'
theorem Inv.CY(I:Inv X pins σ H s)(h:kO X.K H a xs)(h':kO X.K H a ys):xs=ys:=by
 obtain⟨its,r,⟨o,e,_,n,d⟩,_⟩:=I.tuple h;obtain⟨its',r',⟨o',e',_,n',d'⟩,_⟩:=I.tuple h';rw[e]at e';cases e';rw[d]at d';injection d' with d1 _
 have:its=its':=by simpa using aaS toList d1
 subst this;exact r.inj r'
end
abbrev Cx.wish(X:Cx)(E:Value->Shared->Prop):Cx:={ X with xe:=E }
abbrev Cx.EC(X:Cx):Cx:=X.wish λ_ _=>False
theorem Cx.Ok.wish{X:Cx}(ok:X.Ok)(E:Value->Shared->Prop):(X.wish E).Ok :=
 ⟨ok.mod,ok.kind,ok.glob,ok.blt,ok.above,ok.inj,ok.has,ok.Rq,ok.hd,ok.frames,ok.stk,ok.VT,ok.bs,ok.JM,ok.kQ,ok.Ex,ok.oS,ok.Mp⟩
theorem Cx.Ok.jO{X:Cx}{E:Value->Shared->Prop}(ok:(X.wish E).Ok):X.Ok :=
 ⟨ok.mod,ok.kind,ok.glob,ok.blt,ok.above,ok.inj,ok.has,ok.Rq,ok.hd,ok.frames,ok.stk,ok.VT,ok.bs,ok.JM,ok.kQ,ok.Ex,ok.oS,ok.Mp⟩
section
variable {X:Cx} {pins:List (Addr×Obj)} {σ:St} {H:Hp} {s:Shared} {E:Value->Shared->Prop}
theorem Inv.wish(I:Inv X pins σ H s)(E:Value->Shared->Prop):Inv (X.wish E) pins σ H s:=⟨I.ok.wish E,I.os,I.bare,I.base,I.loc,I.cell,I.free,I.kh,I.pin,I.hok,I.len⟩
theorem Inv.jO(I:Inv (X.wish E) pins σ H s):Inv X pins σ H s:=⟨I.ok.jO,I.os,I.bare,I.base,I.loc,I.cell,I.free,I.kh,I.pin,I.hok,I.len⟩
theorem SP.jO(h:SP (X.wish E) pins D f s'):SP X pins D f s':=by
 cases f with
 |next=>obtain⟨σ',H',I,q⟩:=h;exact⟨σ',H',I.jO,q⟩
 |brk=>obtain⟨σ',H',I,q⟩:=h;exact⟨σ',H',I.jO,q⟩
 |cont=>obtain⟨σ',H',I,q⟩:=h;exact⟨σ',H',I.jO,q⟩
 |ret u=>obtain⟨v,σ',H',I,r,q⟩:=h;exact⟨v,σ',H',I.jO,r,q⟩
theorem xC.EC{st:List Stmt}{t:TS}(h:xC X.EC st t):xC X st t:=λpins s σ H D I hw=>
 wpAny_mono (h pins s σ H D (I.wish _) hw) (λ_ _ q=>q.jO) λ_ _ z=>False.elim z
end
section
variable {X:Cx} {st:Stmt} {rest:List Stmt} {t u:TS} {e:Expr} {te:TE} {pos:Pos}
def ED:TS:=λD σ H=>D.nx σ H
def V4(t u:TS):TS:=λD σ H=>t { D with nx:=u D } σ H
theorem JQ:xC X [] ED:=λ_ _ σ H _ I h=>wpAny_execs_nil ⟨σ,H,I,h⟩
theorem EE(h1:PS X st t)(h2:xC X rest u):xC X (st::rest) (V4 t u):=by
 intro pins s σ H D I h;refine wpAny_execs_cons (cK (h1 pins s σ H { D with nx:=u D } I h) λf s1 q=>?_);cases f with
 |next=>obtain⟨σ',H',I',q⟩:=q;exact h2 pins s1 σ' H' D I' q
 |ret v=>exact q
 |brk=>exact q
 |cont=>exact q
def Nd:TS:=λD σ H=>D.bk σ H
def RQ:TS:=λD σ H=>D.ct σ H
theorem JR:PS X (.Pass pos) ED:=λ_ _ σ H _ I h=>wpAny_Pass ⟨σ,H,I,h⟩
theorem EF:PS X (.Break pos) Nd:=λ_ _ σ H _ I h=>wpAny_Break ⟨σ,H,I,h⟩
theorem xD:PS X (.Continue pos) RQ:=λ_ _ σ H _ I h=>wpAny_Continue ⟨σ,H,I,h⟩
theorem Inv.quiet(I:Inv X pins σ H s):interactive X.env=false:=by simp[interactive,I.ok.kind]
theorem Nf{x j pos pos'}:PS X (.Expr (.Constant (.str x) j pos) pos') ED:=λ_ s σ H _ I h=>wpAny_Expr (Calls.Constant_str (show SP X _ _ .next { s with toks:=s.toks+1 } from⟨σ,H,I.tok _,h⟩)) I.quiet
def RS(te:TE):TS:=λD σ H=>te σ H λ_ H1=>D.nx σ H1
theorem JS(he:PE X e te)(hs:swapsWith e none pos.line X.env=pure false):PS X (.Expr e pos) (RS te):=by
 intro pins s σ H D I h;exact wpAny_Expr_any (cK (he pins s σ H _ I h) λv s1 ⟨x,H1,I1,r1,q1⟩=>⟨σ,H1,I1,q1⟩) I.quiet hs
def V5(te:TE):TS:=λD σ H=>te σ H D.rt
theorem Ng(he:PE X e te):PS X (.Return (some e) pos) (V5 te):=by
 intro pins s σ H D I h;exact wpAny_Return_some (cK (he pins s σ H _ I h) λv s1 ⟨x,H1,I1,r1,q1⟩=>⟨x,σ,H1,I1,r1,q1⟩)
def RT:TS:=λD _ H=>D.rt .non H
theorem JT:PS X (.Return none pos) RT:=λ_ _ σ H _ I h=>wpAny_Return_none ⟨.non,σ,H,I,rfl,h⟩
def V6(c:TT)(t u:TS):TS:=λD σ H=>c σ H λb H1=>if b=true then t D σ H1 else u D σ H1
theorem RU(hc:PT X c tc)(ha:xC X a t)(hb:xC X b u):PS X (.If c a b pos) (V6 tc t u):=by
 intro pins s σ H D I h;refine wpAny_If (cK (hc pins s σ H _ I h) λd s1 aT=>?_);obtain⟨H1,I1,q1⟩:=aT;cases d with
 |true=>exact ha pins s1 σ H1 D I1 q1
 |false=>exact hb pins s1 σ H1 D I1 q1
def Nh:TS:=λ_ _ _=>False
theorem rq:PS X st Nh:=λ_ _ _ _ _ _ h=>h.elim
end
abbrev TG:=V->St->Hp->(St->Hp->Prop)->Prop
abbrev Rt:=List V->St->Hp->(St->Hp->Prop)->Prop
def PG(X:Cx)(target:Expr)(t:TG):Prop :=
 ∀(pins:List (Addr×Obj)) (s:Shared) (σ:St) (H:Hp) (v:V) (u:Value) (Q:St->Hp->Prop),Inv X pins σ H s->RelV v u->t v σ H Q ->
  wpAny (model X.prog X.w) X.A (assign target X.env u) (λ_ s'=>∃σ' H',Inv X pins σ' H' s'/\Q σ' H') X.xe s
def Ru(X:Cx)(ts:List Expr)(t:Rt):Prop :=
 ∀(pins:List (Addr×Obj)) (s:Shared) (σ:St) (H:Hp) (vs:List V) (us:List Value) (Q:St->Hp->Prop),Inv X pins σ H s->Vals vs us->t vs σ H Q ->
  wpAny (model X.prog X.w) X.A (assignInOrder ((assignEach ts X.env).map (·.2)) us) (λ_ s'=>∃σ' H',Inv X pins σ' H' s'/\Q σ' H') X.xe s
abbrev Ni:=V->V->V->Hp->(Hp->Prop)->Prop
def RW(X:Cx)(t:Ni):Prop :=
 ∀(pins:List (Addr×Obj)) (s:Shared) (σ:St) (H:Hp) (o i v:V) (ov iv u:Value) (Q:Hp->Prop),Inv X pins σ H s->RelV o ov->RelV i iv->RelV v u->t o i v H Q ->
  wpAny (model X.prog X.w) X.A (setItem ov iv u) (λ_ s'=>∃H',Inv X pins σ H' s'/\Q H') X.xe s
section
variable {X:Cx} {pos:Pos}
def ux(i:Nat):TG:=λv σ H Q=>Q (σ.set i (some v)) H
theorem qM{i:Nat}(hN:X.N.Nodup)(hi:X.N[i]?=some x)(hx:Loc X.env.scope x)(hf:X.fn x=true\/X.env.scope.names.lookup x=some .local):PG X (.Name x pos) (ux i):=by
 intro pins s σ H v u Q I r h;exact wpAny_assign_Name (nO I hN hi hx r (λs' I'=>⟨_,H,I',h⟩) hf)
def RX:Rt:=λvs σ H Q=>vs=[]/\Q σ H
def Mq(t:TG)(u:Rt):Rt:=λvs σ H Q=>∃v r,vs=v::r/\t v σ H λσ' H'=>u r σ' H' Q
theorem BC:Ru X [] RX:=by
 intro pins s σ H vs us Q I r h;obtain⟨e,h⟩:=h;subst e;cases r;exact assignInOrder_nil ⟨σ,H,I,h⟩
theorem xE(h1:PG X e t)(h2:Ru X es u)
  (hs:(assignEach (e::es) X.env).map (·.2)=assign e X.env::(assignEach es X.env).map (·.2):=by rfl):Ru X (e::es) (Mq t u):=by
 intro pins s σ H vs us Q I r h;obtain⟨v,vr,e1,h⟩:=h;subst e1;cases r with
 |cons r rr=>rw[hs];refine assignInOrder_cons (cK (h1 pins s σ H _ _ _ I r h) λ_ s1 aT=>?_);obtain⟨σ1,H1,I1,q1⟩:=aT;exact h2 pins s1 σ1 H1 _ _ Q I1 rr q1
def RY(K:Frag)(n:Nat)(t:Rt):TG:=λv σ H Q=>∃a xs,v=.ref a/\kO K H a xs/\xs.length=n/\t xs σ H Q
theorem EG{k:Nat}{n:Nat}(hc:X.calm=true)(h:Ru X es t)
  (hn:(assignEach es X.env).length=n) (hst:(assignEach es X.env).findIdx? (·.1)=none):PG X (.Tuple es k pos) (RY X.K n t):=by
 intro pins s σ H v u Q I r hw;obtain⟨a,xs,e1,hq,hl,hw⟩:=hw;subst e1;cases r;obtain⟨its,rv,ht,hz⟩:=I.tuple hq;refine assign_Tuple_tuple (I.ok.hd hc) ht (by simp[hn,<-hl,rv.length]) hst λh' hx=>?_;have I1:Inv X pins σ H { s with heap:=h' }:=I.kept (t':=s.toks) λb o e=>hx b o (aau (aan e)) e;exact h pins _ σ H xs _ Q I1 (by simpa using rv) hw
def RZ(to ti:TE)(t:Ni):TG:=λv σ H Q=>to σ H λo H1=>ti σ H1 λi H2=>t o i v H2 λH3=>Q σ H3
theorem Nj(ho:PE X o to)(hi:PE X i ti)(hs:RW X t)
  (ha:∀v,assign (.Subscript o i pos) X.env v=(do
   let ov <-holding [v] (eval o X.env)
   let iv <-holding [v,ov] (eval i X.env)
   standAt pos
   holding [v,ov,iv] (setItem ov iv v)
   release [v,ov,iv] [])):PG X (.Subscript o i pos) (RZ to ti t):=by
 intro pins s σ H v u Q I r h;rw[ha];refine aab (wpAny_holding (cK (ho pins s σ H _ I h) λov s1 aT=>?_));obtain⟨x,H1,I1,r1,q1⟩:=aT;refine aab (wpAny_holding (cK (hi pins s1 σ H1 _ I1 q1) λiv s2 aT=>?_));obtain⟨y,H2,I2,r2,q2⟩:=aT;refine aab (wpAny_standAt (aab (wpAny_holding (cK (hs pins s2 σ H2 x y v ov iv u _ I2 r1 r2 r q2) λ_ s3 aT=>?_))));obtain⟨H3,I3,q3⟩:=aT;exact wpAny_release ⟨σ,H3,I3,q3⟩
def JU(te:TE)(g:TG):TS:=λD σ H=>te σ H λx H1=>g x σ H1 D.nx
theorem EH(he:PE X e te)(hg:PG X tg g)(hs:swapsWithSole [tg] e pos.line X.env=pure false)(hw:swappedStores [tg] e X.env=pure none)
  (h1:(assignEach [tg] X.env).map (·.2)=[assign tg X.env]):PS X (.Assign [tg] e pos) (JU te g):=by
 intro pins s σ H D I h;refine wpAny_Assign_stores (cK (he pins s σ H _ I h) λv s1 ⟨x,H1,I1,r1,q1⟩=>?_) hs hw;rw[h1];exact cK (hg pins s1 σ H1 x v _ I1 r1 q1) λ_ s2 q=>q
theorem EI{i:Nat}(hN:X.N.Nodup)(hi:X.N[i]?=some x)(hx:Loc X.env.scope x)(he:PE X e te)(hs:swapsWith e (some (.Name x pos')) pos.line X.env=pure false)(hf:X.fn x=true\/X.env.scope.names.lookup x=some .local) :
  PS X (.Assign [.Name x pos'] e pos) (JU te (ux i)):=by
 intro pins s σ H D I h;refine wpAny_Assign_Name (cK (he pins s σ H _ I h) λv s1 ⟨y,H1,I1,r1,q1⟩=>?_) hs;exact nO I1 hN hi hx r1 (λs2 I2=>⟨_,H1,I2,q1⟩) hf
end
section
variable {X:Cx} {pos:Pos}
def Nk(c:TT)(tb:TS):TS:=λD σ H=>∃W:Nat->St->Hp->Prop,(∃m,W m σ H)/\∀m σ H,W m σ H ->
 c σ H λb H1=>if b=true then ∃N:St->Hp->Prop,(∀σ' H',N σ' H'->∃m',m'<m/\W m' σ' H')/\tb { D with nx:=N,ct:=N,bk:=D.nx } σ H1 else D.nx σ H1
theorem EJ(hp:PassesOwn (model X.prog X.w) X.A X.env X.xe)(hc:PT X c tc)(hb:xC X body tb):PS X (.While c body [] pos) (Nk tc tb):=by
 intro pins s σ H D I h;obtain⟨W,⟨m0,w0⟩,turn⟩:=h;refine wpAny_While (codeAny_whileLoop (λn s'=>∃σ' H',Inv X pins σ' H' s'/\W n σ' H') ?_ m0 ⟨σ,H,I,w0⟩);rintro n s1 ⟨σ1,H1,I1,w1⟩;refine wpAny_passesOwn hp (cK (hc pins s1 σ1 H1 _ I1 (turn n σ1 H1 w1)) λb s2 aT=>?_);obtain⟨H2,I2,q2⟩:=aT;cases b with
 |true=>
  obtain⟨N,hN,q2⟩:=q2;rw[aaj rfl];refine wpAny_passesOwn hp (cK (hb pins s2 σ1 H2 _ I2 q2) λf s3 q3=>?_);cases f with
  |next=>obtain⟨σ3,H3,I3,n3⟩:=q3;obtain⟨m',hm,w3⟩:=hN σ3 H3 n3;exact⟨m',hm,σ3,H3,I3,w3⟩
  |cont=>obtain⟨σ3,H3,I3,n3⟩:=q3;obtain⟨m',hm,w3⟩:=hN σ3 H3 n3;exact⟨m',hm,σ3,H3,I3,w3⟩
  |brk=>exact q3
  |ret v=>exact q3
 |false=>rw[aam aac];exact wpAny_execs_nil ⟨σ1,H2,I2,q2⟩
end
structure It where
 go:Nat->Hp->Prop
 CZ:Nat->Hp->V->Hp->Prop
 stop:Nat->Hp->Prop
def qA(X:Cx)(pins:List (Addr×Obj))(H:Hp)(b:Addr):Prop :=
 H b=none/\b≠X.env.locals/\b∉X.fs/\(b∈X.ex\/X.s₀.heap.objs.size<=b)/\(∀x c,X.env.cells.lookup x=some c->c≠b)/\∀p∈X.pn++pins,p.1≠b
theorem Inv.JV(I:Inv X pins σ H s)(hb:s.heap.objs.size<=b)(hn:H' b=none):qA X pins H' b:=by
 refine⟨hn,ne_of_gt (aaq I.lt hb),I.VW hb,.inr (aaH I.sz hb),λx c e z=>?_,λp hp z=>?_⟩
 ·obtain⟨v,q⟩:=I.cell x c e;exact absurd (aaq q.lt (by rw[z];exact hb)) (lt_irrefl _)
 ·exact absurd (aaq (aan (I.pin p hp).1) (by rw[z];exact hb)) (lt_irrefl _)
structure Turn (P:Program) (w:World) (K:Frag) (tg:Expr) (J:It) (fp:List Addr) (it:Addr) (tn:Nat->Heap->Prop):Prop where
 mem:it∈fp
 obj:∀i h,tn i h->∀b∈fp,∃o,h.get? b=some o/\∀v,o.data≠.cell v
 keep:∀i h h',tn i h->(∀b∈fp,∀o,h.get? b=some o->h'.get? b=some o)->tn i h'
 item:∀(X:Cx),X.prog=P->X.w=w->X.K=K->X.calm=true->∀(i:Nat) (pins:List (Addr×Obj)) (s:Shared) (σ:St) (H:Hp) (E:Value->Shared->Prop),Inv X pins σ H s->(∀b∈fp,qA X pins H b)->tn i s.heap->J.go i H ->
  wpAny (model P w) X.A (pyNext (.ref it)) (λr s1=>∃u,r=some u /\
   wpAny (model P w) X.A (letOwnedTupleGo tg (.ref it) u) (λ_ s2=>∃x H',Inv X pins σ H' s2/\RelV x u/\J.CZ i H x H'/\tn (i+1) s2.heap/\∀b∈fp,H' b=none) E s1) E s
 done:∀(X:Cx),X.prog=P->X.w=w->X.K=K->X.calm=true->∀(i:Nat) (pins:List (Addr×Obj)) (s:Shared) (σ:St) (H:Hp) (E:Value->Shared->Prop),Inv X pins σ H s->(∀b∈fp,qA X pins H b)->tn i s.heap->J.stop i H ->
  wpAny (model P w) X.A (pyNext (.ref it)) (λr s1=>r=none/\Inv X pins σ H s1) E s
 self:∀(A:Around) (i:Nat) (s:Shared) (Q:Value->Shared->Prop) (E:Value->Shared->Prop),tn i s.heap->Q (.ref it) s->wpAny (model P w) A (pyIter (.ref it)) Q E s
abbrev TI:=St->Hp->(It->Hp->Prop)->Prop
def XG(X:Cx)(pins:List (Addr×Obj))(σ:St)(tg:Expr)(R:It->Hp->Prop)(itv:Value)(s2:Shared):Prop :=
 ∃(it:Addr) (fp:List Addr) (tn:Nat->Heap->Prop) (J:It) (H':Hp),itv=.ref it/\Inv X pins σ H' s2/\Turn X.prog X.w X.K tg J fp it tn/\tn 0 s2.heap/\(∀b∈fp,qA X pins H' b)/\R J H'
def PI(X:Cx)(tg iter:Expr)(wi:TI):Prop :=
 ∀(pins:List (Addr×Obj)) (s:Shared) (σ:St) (H:Hp) (R:It->Hp->Prop),Inv X pins σ H s->wi σ H R ->
  wpAny (model X.prog X.w) X.A (eval iter X.env) (λv s1=>wpAny (model X.prog X.w) X.A (pyIter v) (XG X pins σ tg R) X.xe s1) X.xe s
theorem EK{n:String}(ho:s.heap.get? it=some o)(hc:o.cls=.type n)(hd:o.data=.fields vs)
  (hn:["enumerate","zip","dict_itemiterator","dict_reverseitemiterator","odict_iterator","itertools.zip_longest","itertools.pairwise"].contains n=false) (hQ:Q () s):wpAny M A (letOwnedTupleGo tg (.ref it) u) Q E s:=by
 unfold letOwnedTupleGo;cases tg<;>first
  |exact aai hQ
  | (cases u<;>first
    |exact aai hQ
    | (refine aab (wpAny_load ho ?_)
       rw[hc,hd];show wpAny M A (if (["enumerate","zip","dict_itemiterator","dict_reverseitemiterator","odict_iterator","itertools.zip_longest","itertools.pairwise"].contains n&&vs[0]?==some (rawInt _))=true then _ else _) Q E s;rw[aam (by intro h;rw[hn,Bool.false_and]at h;cases h)];exact aai hQ))
def Vm(K:Frag)(a:Addr):It :=
 ⟨λi H=>∃xs x,gR K H a xs/\xs[i]?=some x,λi H x H'=>H'=H/\∀xs,gR K H a xs->xs[i]?=some x,λi H=>∃xs,gR K H a xs/\xs.length<=i⟩
def V7(K:Frag)(a:Addr):It :=
 ⟨λi H=>∃xs x,kO K H a xs/\xs[i]?=some x,λi H x H'=>H'=H/\∀xs,kO K H a xs->xs[i]?=some x,λi H=>∃xs,kO K H a xs/\xs.length<=i⟩
def R0(lo:Int)(n:Nat):It:=⟨λi _=>i<n,λi H x H'=>H'=H/\x=.int (lo+i),λi _=>n<=i⟩
theorem C0{P:Program}{w:World}{K:Frag}{tg:Expr}(a it:Addr):Turn P w K tg (Vm K a) [it] it (λi h=>h.IsListIter it a i) where
 mem:=by simp
 obj:=λi h st b hb=>by
  have e:b=it:=by simpa using hb
  subst e;obtain⟨o,e,c,d⟩:=st;exact⟨o,e,λv z=>by rw[d]at z;cases z⟩
 keep:=λi h h' st k=>st.at λo e=>k it (by simp) o e
 item:=by intro X hP hw hK hc i pins s σ H E I hf st hg;subst hP hw hK;obtain⟨xs,x,hq,hx⟩:=hg;obtain⟨its,rv,p,hz⟩:=I.list hq;obtain⟨u,hu,ru⟩:=rv.get hx;obtain⟨f0,f1,f2,f3,f4,f5⟩:=hf it (by simp);refine wpAny_pyNext_list_item st p.isList (x:=u) (by simpa using hu) λh' st' sb=>?_;have I1:Inv X pins σ H { s with heap:=h' }:=I.turned (t':=s.toks) (λb o hb e=>(sb.2 b hb).trans e) f0 f1 f3 f4 f5;obtain⟨o,e,c,d⟩:=id st';exact⟨u,rfl,EK (s:={ s with heap:=h' }) e c d (by decide) ⟨x,H,I1,ru,⟨rfl,λys hy=>by rw[I.rm hy hq];exact hx⟩,st',λb hb=>(hf b hb).1⟩⟩
 done:=by intro X hP hw hK hc i pins s σ H E I hf st hg;subst hP hw hK;obtain⟨xs,hq,hx⟩:=hg;obtain⟨its,rv,p,hz⟩:=I.list hq;obtain⟨f0,f1,f2,f3,f4,f5⟩:=hf it (by simp);have hl:=rv.length;exact wpAny_pyNext_list_end (I.ok.hd hc) st p.isList (by simp;omega) λh' eb=>⟨rfl,I.turned (t':=s.toks) (λb o hb e=>eb b o hb e) f0 f1 f3 f4 f5⟩
 self:=λ_ _ _ _ _ st h=>wpAny_pyIter_listiter st h
theorem Ac{P:Program}{w:World}{K:Frag}{tg:Expr}(a it:Addr):Turn P w K tg (V7 K a) [it] it (λi h=>h.IsTupleIter it a i) where
 mem:=by simp
 obj:=λi h st b hb=>by
  have e:b=it:=by simpa using hb
  subst e;obtain⟨o,e,c,d⟩:=st;exact⟨o,e,λv z=>by rw[d]at z;cases z⟩
 keep:=λi h h' st k=>st.at λo e=>k it (by simp) o e
 item:=by intro X hP hw hK hc i pins s σ H E I hf st hg;subst hP hw hK;obtain⟨xs,x,hq,hx⟩:=hg;obtain⟨its,rv,p,hz⟩:=I.tuple hq;obtain⟨u,hu,ru⟩:=rv.get hx;obtain⟨f0,f1,f2,f3,f4,f5⟩:=hf it (by simp);refine wpAny_pyNext_tuple_item st (show s.heap.IsTuple a its.toArray from p) (x:=u) (by simpa using hu) λh' st' sb=>?_;have I1:Inv X pins σ H { s with heap:=h' }:=I.turned (t':=s.toks) (λb o hb e=>(sb.2 b hb).trans e) f0 f1 f3 f4 f5;obtain⟨o,e,c,d⟩:=id st';exact⟨u,rfl,EK (s:={ s with heap:=h' }) e c d (by decide) ⟨x,H,I1,ru,⟨rfl,λys hy=>by rw[I.CY hy hq];exact hx⟩,st',λb hb=>(hf b hb).1⟩⟩
 done:=by intro X hP hw hK hc i pins s σ H E I hf st hg;subst hP hw hK;obtain⟨xs,hq,hx⟩:=hg;obtain⟨its,rv,p,hz⟩:=I.tuple hq;obtain⟨f0,f1,f2,f3,f4,f5⟩:=hf it (by simp);have hl:=rv.length;exact wpAny_pyNext_tuple_end (I.ok.hd hc) st (show s.heap.IsTuple a its.toArray from p) (by simp;omega) λh' eb=>⟨rfl,I.turned (t':=s.toks) (λb o hb e=>eb b o hb e) f0 f1 f3 f4 f5⟩
 self:=λ_ _ _ _ _ st h=>wpAny_pyIter_tupleiter st h
theorem Ad{P:Program}{w:World}{K:Frag}{tg:Expr}(it:Addr)(lo:Int)(n:Nat):Turn P w K tg (R0 lo n) [it] it (λi h=>IsRangeIter h it (lo+(i:Nat)*1) ((n:Int)-(i:Nat)) 1) where
 mem:=by simp
 obj:=λi h st b hb=>by
  have e:b=it:=by simpa using hb
  subst e;exact⟨_,st,λv z=>by
   have z':Data.fields _=Data.cell v:=z;cases z'⟩
 keep:=λi h h' st k=>k it (by simp) _ st
 item:=by intro X hP hw hK hc i pins s σ H E I hf st hg;subst hP hw hK;obtain⟨f0,f1,f2,f3,f4,f5⟩:=hf it (by simp);have W:=Walks.range (prog:=X.prog) (w:=X.w) (I.ok.hd hc) it lo 1 n;refine W.item i s _ _ hg st λv h' tk hv st' kk=>?_;obtain⟨t,rfl⟩:=hv;have I1:Inv X pins σ H { s with heap:=h',toks:=tk }:=I.turned (λb o hb e=>kk b o (by simpa using hb) e) f0 f1 f3 f4 f5;refine⟨_,rfl,EK (s:={ s with heap:=h',toks:=tk }) (n:="range_iterator") st' rfl rfl (by decide) ⟨.int (lo+i),H,I1,⟨t,?_⟩,⟨rfl,rfl⟩,st',λb hb=>(hf b hb).1⟩⟩;rw[Int.mul_one]
 done:=by intro X hP hw hK hc i pins s σ H E I hf st hg;subst hP hw hK;obtain⟨f0,f1,f2,f3,f4,f5⟩:=hf it (by simp);exact wpAny_pyNext_range_end (I.ok.hd hc) st (by have:n<=i:=hg;omega) λh' eb=>⟨rfl,I.turned (t':=s.toks) (λb o hb e=>eb b o hb e) f0 f1 f3 f4 f5⟩
 self:=λ_ _ _ _ _ st h=>wpAny_pyIter_rangeiter st h
section
variable {X:Cx} {tg:Expr}
def R3(K:Frag)(tl:TE):TI:=λσ H R=>tl σ H λx H1=>∃a,x=.ref a/\(∃xs,gR K H1 a xs)/\R (Vm K a) H1
def V8(K:Frag)(tl:TE):TI:=λσ H R=>tl σ H λx H1=>∃a,x=.ref a/\(∃xs,kO K H1 a xs)/\R (V7 K a) H1
theorem JW(hl:PE X l tl):PI X tg l (R3 X.K tl):=by
 intro pins s σ H R I h;refine cK (hl pins s σ H _ I h) λv s1 aT=>?_;obtain⟨x,H1,I1,r1,q1⟩:=aT;obtain⟨a,e,⟨xs,hq⟩,q⟩:=q1;subst e;cases r1;obtain⟨its,rv,p,hz⟩:=I1.list hq;refine wpAny_pyIter_list p.isList ?_;refine⟨s1.heap.objs.size,[s1.heap.objs.size],_,_,H1,rfl,I1.kept (t':=s1.toks) λb o e=>aae _ e,C0 a _,⟨_,aav _ rfl,rfl,rfl⟩,λb hb=>?_,q⟩;have e:b=s1.heap.objs.size:=by simpa using hb
 subst e;exact I1.JV (aao _) (I1.hok.fresh (aao _))
theorem Nl(hl:PE X l tl):PI X tg l (V8 X.K tl):=by
 intro pins s σ H R I h;refine cK (hl pins s σ H _ I h) λv s1 aT=>?_;obtain⟨x,H1,I1,r1,q1⟩:=aT;obtain⟨a,e,⟨xs,hq⟩,q⟩:=q1;subst e;cases r1;obtain⟨its,rv,p,hz⟩:=I1.tuple hq;refine wpAny_pyIter_tuple (show s1.heap.IsTuple a its.toArray from p) ?_;refine⟨s1.heap.objs.size,[s1.heap.objs.size],_,_,H1,rfl,I1.kept (t':=s1.toks) λb o e=>aae _ e,Ac a _,⟨_,aav _ rfl,rfl,rfl⟩,λb hb=>?_,q⟩;have e:b=s1.heap.objs.size:=by simpa using hb
 subst e;exact I1.JV (aao _) (I1.hok.fresh (aao _))
theorem xF{lo hi:Int}{tk:Nat}(I:Inv X pins σ H s)(h1:-(2 ^ 62)<=lo)(h2:lo<2 ^ 62)(h3:-(2 ^ 62)<=hi)(h4:hi<2 ^ 62)
  (q:R (R0 lo (hi-lo).toNat) H):wpAny (model X.prog X.w) X.A (pyIter (.ref s.heap.objs.size)) (XG X pins σ tg R) E { s with heap:=s.heap.push { cls:=.type "range",data:=.fields [.int lo t,.int hi u,.int 1 v].toArray },toks:=tk }:=by
 refine wpAny_pyIter_range (IsRange.new ..) (small_one h1 h2 h3 h4) ?_;have I1:Inv X pins σ H { s with heap:=s.heap.push { cls:=.type "range",data:=.fields [.int lo t,.int hi u,.int 1 v].toArray },toks:=tk }:=I.kept λb o e=>aae _ e;refine⟨(s.heap.push { cls:=.type "range",data:=.fields [.int lo t,.int hi u,.int 1 v].toArray }).objs.size,[(s.heap.push { cls:=.type "range",data:=.fields [.int lo t,.int hi u,.int 1 v].toArray }).objs.size],_,_,H,rfl,
  I1.kept (t':=tk) λb o e=>aae _ e,Ad _ lo (hi-lo).toNat,?_,λb hb=>?_,q⟩
 ·have e1:lo+((0:Nat):Int)*1=lo:=by simp
  have e2:(((hi-lo).toNat:Nat):Int)-((0:Nat):Int)=Builtin.Range.rangeSize lo hi 1:=by rw[rangeSize_one];split<;>omega
  show IsRangeIter _ _ (lo+((0:Nat):Int)*1) ((((hi-lo).toNat:Nat):Int)-((0:Nat):Int)) 1;rw[e1,e2];exact aav _ rfl
 ·have e:b=(s.heap.push { cls:=.type "range",data:=.fields [.int lo t,.int hi u,.int 1 v].toArray }).objs.size:=by simpa using hb
  subst e;exact I1.JV (aao _) (I1.hok.fresh (aao _))
def R4(ta:TA):TI:=λσ H R=>ta σ H λvs H1=>∃j:Int,vs=[.int j] /\ -(2 ^ 62)<=j/\j<2 ^ 62/\R (R0 0 j.toNat) H1
def R5(ta:TA):TI:=λσ H R=>ta σ H λvs H1=>∃i j:Int,vs=[.int i,.int j]/\(-(2 ^ 62)<=i/\i<2 ^ 62 /\ -(2 ^ 62)<=j/\j<2 ^ 62)/\R (R0 i (j-i).toNat) H1
theorem C1(hg:Gl X "range")(hm:X.mg "range" = none)(ha:PA X [a] ta)(hs:starEach [a] X.env=[(false,eval a X.env)]):PI X tg (.Call (.Name "range" p) [a] [] pos) (R4 ta):=by
 intro pins s σ H R I h;refine Call_ (jN I hg hm boot_range (PyProof.Rows.callWith_type1 (cK (ha pos pins s σ H _ I h) λus s1 aT=>?_) hs rfl));obtain⟨vs,H1,I1,r1,q1⟩:=aT;obtain⟨j,e,q1,q2,q⟩:=q1;subst e;cases r1 with
 |cons r rr=>cases rr;obtain⟨t,rfl⟩:=r;exact call_range_1 (xF I1 (by omega) (by omega) q1 q2 (by simpa using q))
theorem C2(hg:Gl X "range")(hm:X.mg "range" = none)(ha:PA X [a,b] ta)(hs:starEach [a,b] X.env=[(false,eval a X.env),(false,eval b X.env)])(hs2:starEach [b] X.env=[(false,eval b X.env)]) :
  PI X tg (.Call (.Name "range" p) [a,b] [] pos) (R5 ta):=by
 intro pins s σ H R I h;refine Call_ (jN I hg hm boot_range (PyProof.Rows.callWith_type1 (cK (ha pos pins s σ H _ I h) λus s1 ⟨vs,H1,I1,r1,q1⟩=>?_) (by rw[hs,hs2]) (by rw[hs2];rfl)));obtain⟨i,j,e,⟨q1,q2,q3,q4⟩,q⟩:=q1;subst e;cases r1 with
 |cons r rr=>
  cases rr with
  |cons r' rr=>cases rr;obtain⟨t,rfl⟩:=r;obtain⟨t',rfl⟩:=r';exact call_range_2 (xF I1 q1 q2 q3 q4 q)
def V9(wi:TI)(g:TG)(tb:TS):TS:=λD σ H=>wi σ H λJ H1=>∃W:Nat->Nat->St->Hp->Prop,(∃m,W 0 m σ H1)/\∀i m σ H,W i m σ H ->
 (J.stop i H/\D.nx σ H)\/(J.go i H/\∃N:St->Hp->Prop,(∀σ' H',N σ' H'->∃m',m'<m/\W (i+1) m' σ' H')/\∀x H',J.CZ i H x H'->g x σ H' λσ2 H2=>tb { D with nx:=N,ct:=N,bk:=D.nx } σ2 H2)
def rA(fp:List Addr)(h:Heap):List (Addr×Obj):=fp.filterMap λb=>(h.get? b).map λo=>(b,o)
theorem jQ(hb:b∈fp)(e:h.get? b=some o):(b,o)∈rA fp h:=List.mem_filterMap.mpr ⟨b,hb,by rw[e];rfl⟩
theorem C3(hp:p∈rA fp h):p.1∈fp/\h.get? p.1=some p.2:=by
 obtain⟨b,hb,e⟩:=List.mem_filterMap.mp hp;cases q:h.get? b with
 |none=>rw[q]at e;cases e
 |some o=>rw[q]at e;have e':(b,o)=p:=aaG e;subst e';exact⟨hb,q⟩
theorem Inv.pinned(I:Inv X pins σ H s)(hf:∀b∈fp,qA X pins H b)(ho:∀b∈fp,∃o,s.heap.get? b=some o/\∀v,o.data≠.cell v):Inv X (pins++rA fp s.heap) σ H s :=
 I.BB λp hp=>(aaP.mp hp).elim (λz=>I.pin p (aaI _ z)) λz=>by
  obtain⟨hb,e⟩:=C3 z;obtain⟨f0,f1,f2,_⟩:=hf p.1 hb;obtain⟨o,e',d⟩:=ho p.1 hb;rw[e]at e';cases e';exact⟨e,f0,f1,f2,d⟩
theorem Inv.nQ(I:Inv X (pins++pl) σ H s):Inv X pins σ H s:=I.BB λp hp=>I.pin p (aaI _ (aaQ _ hp))
theorem Nn(hp:PassesOwn (model X.prog X.w) X.A X.env X.xe)(hc:X.calm=true)(hi:PI X tg iter wi)(hg:PG X tg g)(hb:xC X body tb)
  (hs:∀x,foldedSetIterable iter X.env x=pure x):PS X (.For tg iter body [] pos) (V9 wi g tb):=by
 intro pins s σ H D I h;refine wpAny_For (cK (hi pins s σ H _ I h) λv s1 h1=>cK h1 λitv s2 h2=>?_) hs;obtain⟨it,fp,tn,J,H2,e,I2,T,st2,f2,W,⟨m0,w0⟩,turn⟩:=h2;subst e;have stat:∀{H':Hp},(∀b∈fp,H' b=none)->∀b∈fp,qA X pins H' b:=λhn b hb=>⟨hn b hb,(f2 b hb).2⟩;refine codeAny_forLoop_any (λn s'=>∃i σ' H',Inv X pins σ' H' s'/\tn i s'.heap/\(∀b∈fp,H' b=none)/\W i n σ' H') ?_ m0 ⟨0,σ,H2,I2,st2,λb hb=>(f2 b hb).1,w0⟩;rintro n s3 ⟨i,σ3,H3,I3,st3,XH,w3⟩
 rcases turn i n σ3 H3 w3 with ⟨stop,qn⟩|⟨go,N,hN,step⟩
 ·refine wpAny_passesOwn hp (cK (T.done X rfl rfl rfl hc i pins s3 σ3 H3 X.xe I3 (stat XH) st3 stop) λr s4 aT=>?_);obtain⟨hr,I4⟩:=aT;subst hr;exact wpAny_execs_nil ⟨σ3,H3,I4,qn⟩
 ·refine wpAny_passesOwn hp (cK (T.item X rfl rfl rfl hc i pins s3 σ3 H3 X.xe I3 (stat XH) st3 go) λr s4 aT=>?_)
  obtain⟨u,hr,h4⟩:=aT;subst hr;refine wpAny_passesOwn hp (cK h4 λ_ s5 aT=>?_);obtain⟨x,H5,I5,r5,y5,Rv,Vn⟩:=aT;have ZE:=I5.pinned (stat Vn) (T.obj _ _ Rv);refine wpAny_passesOwn hp (cK (hg _ s5 σ3 H5 x u _ ZE r5 (step x H5 y5)) λ_ s6 aT=>?_);obtain⟨σ6,H6,I6,q6⟩:=aT;refine wpAny_passesOwn hp (cK (hb _ s6 σ6 H6 _ I6 q6) λf s7 q7=>?_);have again:∀{σ7:St} {H7:Hp},Inv X (pins++rA fp s5.heap) σ7 H7 s7->N σ7 H7->∃m,m<n/\∃i σ' H',Inv X pins σ' H' s7/\tn i s7.heap/\(∀b∈fp,H' b=none)/\W i m σ' H':=λ{σ7 H7} I7 n7=>by
   obtain⟨m',hm,w7⟩:=hN σ7 H7 n7;refine⟨m',hm,i+1,σ7,H7,I7.nQ,T.keep _ _ _ Rv λb hb o e=>(I7.pin (b,o) (aaI _ (aaI _ (jQ hb e)))).1,λb hb=>?_,w7⟩;obtain⟨o,e,d⟩:=T.obj _ _ Rv b hb;exact(I7.pin (b,o) (aaI _ (aaI _ (jQ hb e)))).2.1
  cases f with
  |next=>obtain⟨σ7,H7,I7,n7⟩:=q7;exact again I7 n7
  |cont=>obtain⟨σ7,H7,I7,n7⟩:=q7;exact again I7 n7
  |brk=>obtain⟨σ7,H7,I7,q7⟩:=q7;exact⟨σ7,H7,I7.nQ,q7⟩
  |ret v=>obtain⟨x7,σ7,H7,I7,r7,q7⟩:=q7;exact⟨x7,σ7,H7,I7.nQ,r7,q7⟩
end
abbrev R2:=V->V->Hp->VK->Prop
def qO(X:Cx)(f:Value->Value->Sem Value)(r:R2):Prop :=
 ∀(pins:List (Addr×Obj)) (s:Shared) (σ:St) (H:Hp) (x y:V) (v u:Value) (Q:VK),Inv X pins σ H s->RelV x v->RelV y u->r x y H Q ->
  wpAny (model X.prog X.w) X.A (f v u) (EP X pins σ Q) X.xe s
def Vo(X:Cx)(f:Value->Sem Value)(r:V->Hp->VK->Prop):Prop :=
 ∀(pins:List (Addr×Obj)) (s:Shared) (σ:St) (H:Hp) (x:V) (v:Value) (Q:VK),Inv X pins σ H s->RelV x v->r x H Q ->
  wpAny (model X.prog X.w) X.A (f v) (EP X pins σ Q) X.xe s
def cW(X:Cx)(f:Value)(r:List V->Hp->VK->Prop):Prop :=
 ∀(pins:List (Addr×Obj)) (s:Shared) (σ:St) (H:Hp) (xs:List V) (us:List Value) (Q:VK),Inv X pins σ H s->Vals xs us->r xs H Q ->
  wpAny (model X.prog X.w) X.A (call f us) (EP X pins σ Q) X.xe s
def Wa(X:Cx)(r:V->Hp->(Bool->Hp->Prop)->Prop):Prop :=
 ∀(pins:List (Addr×Obj)) (s:Shared) (σ:St) (H:Hp) (x:V) (v:Value) (Q:Bool->Hp->Prop),Inv X pins σ H s->RelV x v->r x H Q ->
  wpAny (model X.prog X.w) X.A (truthy v) (TP X pins σ Q) X.xe s
def Vp(r:R2)(ta tb:TE):TE:=λσ H Q=>ta σ H λx H1=>tb σ H1 λy H2=>r x y H2 Q
def ZF(r:V->Hp->VK->Prop)(ta:TE):TE:=λσ H Q=>ta σ H λx H1=>r x H1 Q
def rI(C:Int->Int->Prop)(g:Int->Int->V):R2:=λx y H Q=>∃i j,x=.int i/\y=.int j/\C i j/\Q (g i j) H
def Mr(g:Int->Int->V):R2:=λx y H Q=>∃i j,x=.int i/\y=.int j/\Q (g i j) H
def rU(g:Int->V):V->Hp->VK->Prop:=λx H Q=>∃i,x=.int i/\Q (g i) H
section
variable {X:Cx} {a b c:Expr} {ta tb tc:TE} {pos:Pos}
theorem Np(ha:PE X a ta)(hb:PE X b tb){pins:List (Addr×Obj)}{s:Shared}{σ:St}{H:Hp}{R:V->V->Hp->Prop}(I:Inv X pins σ H s)
  (h:ta σ H λx H1=>tb σ H1 λy H2=>R x y H2) {Q:Value->Shared->Prop} {f:Value->Value->Sem Value}
  (hf:∀v u s2 x y H2,Inv X pins σ H2 s2->RelV x v->RelV y u->R x y H2->wpAny (model X.prog X.w) X.A (f v u) Q X.xe s2) :
  wpAny (model X.prog X.w) X.A (eval a X.env) (λv s₁=>wpAny (model X.prog X.w) X.A (eval b X.env) (λu s₂=>wpAny (model X.prog X.w) X.A (f v u) Q X.xe s₂) X.xe s₁) X.xe s:=by
 refine cK (ha pins s σ H _ I h) λv s1 aT=>?_;obtain⟨x,H1,I1,r1,q1⟩:=aT;refine cK (hb pins s1 σ H1 _ I1 q1) λu s2 aT=>?_;obtain⟨y,H2,I2,r2,q2⟩:=aT;exact hf v u s2 x y H2 I2 r1 r2 q2
theorem R6(ho:qO X (binaryOp op) r)(ha:PE X a ta)(hb:PE X b tb):PE X (.BinOp a op b pos) (Vp r ta tb):=by
 intro pins s σ H Q I h;exact wpAny_BinOp (Np ha hb I h λv u s2 x y H2 I2 rx ry q=>ho pins s2 σ H2 x y v u Q I2 rx ry q)
theorem R7(ho:Vo X (unaryOp op) r)(ha:PE X a ta):PE X (.UnaryOp op a pos) (ZF r ta):=by
 intro pins s σ H Q I h;exact UnaryOp_ (cK (ha pins s σ H _ I h) λv s1 ⟨x,H1,I1,r1,q1⟩=>ho pins s1 σ H1 x v Q I1 r1 q1)
theorem Vq{f:Value->Value->Sem Value}{C:Int->Int->Prop}{g:Int->Int->Int}
  (rule:∀(i j:Int) (t u:Tok) (s:Shared) (Q:Value->Shared->Prop) (E:Value->Shared->Prop),C i j->Q (.int (g i j) s.toks) { s with toks:=s.toks+1 }->wpAny (model X.prog X.w) X.A (f (.int i t) (.int j u)) Q E s) :
  qO X f (rI C λi j=>.int (g i j)):=by
 intro pins s σ H x y v u Q I rx ry h;obtain⟨i,j,rfl,rfl,hc,q⟩:=h;obtain⟨t,rfl⟩:=rx;obtain⟨t',rfl⟩:=ry;exact rule i j t t' s _ _ hc ⟨.int (g i j),H,I.tok _,⟨_,rfl⟩,q⟩
theorem R8{f:Value->Value->Sem Value}{g:Int->Int->Int}
  (rule:∀(i j:Int) (t u:Tok) (s:Shared) (Q:Value->Shared->Prop) (E:Value->Shared->Prop),Q (.int (g i j) s.toks) { s with toks:=s.toks+1 }->wpAny (model X.prog X.w) X.A (f (.int i t) (.int j u)) Q E s) :
  qO X f (Mr λi j=>.int (g i j)):=by
 intro pins s σ H x y v u Q I rx ry h;obtain⟨i,j,rfl,rfl,q⟩:=h;obtain⟨t,rfl⟩:=rx;obtain⟨t',rfl⟩:=ry;exact rule i j t t' s _ _ ⟨.int (g i j),H,I.tok _,⟨_,rfl⟩,q⟩
theorem JX{f:Value->Value->Sem Value}{g:Int->Int->Bool}
  (rule:∀(i j:Int) (t u:Tok) (s:Shared) (Q:Value->Shared->Prop) (E:Value->Shared->Prop),Q (.bool (g i j)) s->wpAny (model X.prog X.w) X.A (f (.int i t) (.int j u)) Q E s) :
  qO X f (Mr λi j=>.bl (g i j)):=by
 intro pins s σ H x y v u Q I rx ry h;obtain⟨i,j,rfl,rfl,q⟩:=h;obtain⟨t,rfl⟩:=rx;obtain⟨t',rfl⟩:=ry;exact rule i j t t' s _ _ ⟨.bl (g i j),H,I,rfl,q⟩
def Wb(i j:Int):Prop:=0<=j/\j<=1000000/\i.natAbs<2 ^ 64
def Nq(i j:Int):Prop:=(-(2 ^ 64)<i/\i<2 ^ 64)\/(-(2 ^ 64)<j/\j<2 ^ 64)
theorem Nq.ok{i j:Int}(h:Nq i j):IntMulOk i j:=by
 rcases h with ⟨h1,h2⟩|⟨h1,h2⟩
 ·exact .of_left (intBits_le_64 h1 h2)
 ·exact .of_right (intBits_le_64 h1 h2)
theorem Nr:qO X (binaryOp .Add) (Mr λi j=>.int (i+j)):=R8 λ_ _ _ _ _ _ _ q=>add_int q
theorem Nt:qO X (binaryOp .Sub) (Mr λi j=>.int (i-j)):=R8 λ_ _ _ _ _ _ _ q=>sub_int q
theorem Nu:qO X (binaryOp .Mult) (rI Nq λi j=>.int (i*j)):=Vq λ_ _ _ _ _ _ _ hc q=>mul_int q hc.ok
theorem Nv:qO X (binaryOp .Mod) (rI (λ_ j=>0<j) λi j=>.int (i%j)):=Vq λi j _ _ _ _ _ hc q=>by
 have h1:(0:Int)<j:=hc;exact mod_int' (by omega) (by rw[Int.fmod_eq_emod_of_nonneg i (by omega)];exact q)
theorem Nx:qO X (binaryOp .Pow) (rI Wb λi j=>.int (i ^ j.toNat)):=Vq λ_ _ _ _ _ _ _ hc q=>pow_int_small hc.1 hc.2.1 hc.2.2 q
theorem ZG{f:Value->Sem Value}{g:Int->Int}
  (rule:∀(i:Int) (t:Tok) (s:Shared) (Q:Value->Shared->Prop) (E:Value->Shared->Prop),Q (.int (g i) s.toks) { s with toks:=s.toks+1 }->wpAny (model X.prog X.w) X.A (f (.int i t)) Q E s) :
  Vo X f (rU λi=>.int (g i)):=by
 intro pins s σ H x v Q I rx h;obtain⟨i,rfl,q⟩:=h;obtain⟨t,rfl⟩:=rx;exact rule i t s _ _ ⟨.int (g i),H,I.tok _,⟨_,rfl⟩,q⟩
theorem EL:Vo X (unaryOp .USub) (rU λi=>.int (-i)):=ZG λ_ _ _ _ _ q=>neg_int q
end
section
variable {X:Cx} {a b c:Expr} {ta tb tc:TE} {pos:Pos}
theorem EM{k k':Bool}(I:Inv X pins σ H s)(q:Q (.bl k) H)(e:k=k'):EP X pins σ Q (.bool k') s:=by
 subst e;exact⟨.bl k,H,I,rfl,q⟩
theorem R9:qO X (compareOp .Lt) (Mr λi j=>.bl (decide (i<j))):=JX λ_ _ _ _ _ _ _ q=>lt_int q
theorem Sa:qO X (compareOp .LtE) (Mr λi j=>.bl (decide (i<=j))):=JX λ_ _ _ _ _ _ _ q=>le_int q
theorem Sb:qO X (compareOp .Gt) (Mr λi j=>.bl (decide (j<i))):=JX λ_ _ _ _ _ _ _ q=>gt_int q
theorem Sd:qO X (compareOp .GtE) (Mr λi j=>.bl (decide (j<=i))):=JX λ_ _ _ _ _ _ _ q=>ge_int q
theorem Ny:qO X (compareOp .Is) (λx y H Q=>y=.non/\Q (.bl (decide (x=.non))) H):=by
 intro pins s σ H x y v u Q I rx ry h;obtain⟨rfl,q⟩:=h;cases ry;refine is_none_gen (EM I q ?_);cases x<;>first
  |(cases rx;rfl)
  |(obtain⟨t,rfl⟩:=rx;rfl)
theorem JY:qO X (compareOp .IsNot) (λx y H Q=>y=.non/\Q (.bl (!decide (x=.non))) H):=by
 intro pins s σ H x y v u Q I rx ry h;obtain⟨rfl,q⟩:=h;cases ry;refine isnot_none_gen (EM I q ?_);cases x<;>first
  |(cases rx;rfl)
  |(obtain⟨t,rfl⟩:=rx;rfl)
theorem JZ(ho:qO X (compareOp op) r)(ha:PE X a ta)(hb:PE X b tb)(hm:behindInMarks op b=false):PE X (.Compare a [op] [b] pos) (Vp r ta tb):=by
 intro pins s σ H Q I h;exact wpAny_Compare1 (Np ha hb I h λv u s2 x y H2 I2 rx ry q=>ho pins s2 σ H2 x y v u Q I2 rx ry q) hm
def Se(t:TE):TT:=λσ H Q=>t σ H λx H'=>∃k,x=.bl k/\Q k H'
theorem J0(ho:qO X (compareOp op) r)(ha:PE X a ta)(hb:PE X b tb)(hm:behindInMarks op b=false):PT X (.Compare a [op] [b] pos) (Se (Vp r ta tb)):=by
 intro pins s σ H Q I h;refine wpAny_isTrue_Compare1 (cK (ha pins s σ H _ I h) λv s1 ⟨x,H1,I1,r1,q1⟩=>cK (hb pins s1 σ H1 _ I1 q1) λu s2 ⟨y,H2,I2,r2,q2⟩=>
  cK (ho pins s2 σ H2 x y v u _ I2 r1 r2 q2) λc s3 ⟨z,H3,I3,r3,k,e,q3⟩=>?_) hm
 subst e;cases r3;exact wpAny_truthy_bool ⟨H3,I3,q3⟩
def Nz(K:Frag)(x:V)(H:Hp)(k:Bool):Prop :=
 match x with
 |.non=>k=false
 |.bl b=>k=b
 |.int i=>k=(i != 0)
 |.str y=>y.length<=sizeLine/\k=((y.length:Int) != 0)
 |.byt y=>y.size<=sizeLine/\k=((y.size:Int) != 0)
 |.ref p=>(∃xs,gR K H p xs/\k = !xs.isEmpty)\/(∃xs,kO K H p xs/\k = !xs.isEmpty)\/∃kvs,H p=some (.dK kvs)/\k = !kvs.isEmpty
 |_=>False
theorem Ae{κ:Type}{kvs:List (κ × V)}{vs:List (κ × Value)}(r:KV kvs vs):(!vs.isEmpty) = !kvs.isEmpty:=by
 cases r<;>rfl
theorem rD(r:Vals xs its):(!its.toArray.isEmpty) = !xs.isEmpty:=by
 cases r<;>simp
theorem vO:(sizeLine:Nat)<2 ^ 63:=by rw[sizeLine_eq];decide
theorem NB:Wa X (λx H Q=>∃k,Nz X.K x H k/\Q k H):=by
 intro pins s σ H x v Q I rx h;obtain⟨k,e,q⟩:=h;have hl:=vO;have hs:sizeLine=16777216:=sizeLine_eq;cases x with
 |non=>cases rx;have e':k=false:=e;subst e';exact truthy_none ⟨H,I,q⟩
 |bl b=>cases rx;have e':k=b:=e;subst e';exact wpAny_truthy_bool ⟨H,I,q⟩
 |int i=>obtain⟨t,rfl⟩:=rx;have e':k=(i != 0):=e;subst e';exact PySem.P.truthy_int ⟨H,I,q⟩
 |str y=>obtain⟨t,rfl⟩:=rx;obtain⟨hy,e'⟩:y.length<=sizeLine/\k=((y.length:Int) != 0):=e;subst e';exact PySem.P.truthy_str (by omega) ⟨H,I.tok _,q⟩
 |byt y=>obtain⟨t,rfl⟩:=rx;obtain⟨hy,e'⟩:y.size<=sizeLine/\k=((y.size:Int) != 0):=e;subst e';exact PySem.W.truthy_bytes (by omega) ⟨H,I.tok _,q⟩
 |ref p=>
  cases rx;have e':(∃xs,gR X.K H p xs/\k = !xs.isEmpty)\/(∃xs,kO X.K H p xs/\k = !xs.isEmpty)\/∃kvs,H p=some (.dK kvs)/\k = !kvs.isEmpty:=e
  rcases e' with ⟨xs,hx,e'⟩|⟨xs,hx,e'⟩|⟨kvs,hx,e'⟩
  ·subst e';obtain⟨its,r,pl,hz⟩:=I.list hx;have hlen:=r.length;exact wpAny_truthy_list pl.isList (by simp only[size_toArray];omega) ⟨H,I.tok _,by rw[rD r];exact q⟩
  ·subst e';obtain⟨its,r,pl,hz⟩:=I.tuple hx;have hlen:=r.length;exact truthy_tuple pl (by simp only[size_toArray];omega) ⟨H,I.tok _,by rw[rD r];exact q⟩
  ·subst e';obtain⟨hz,hS,vs,r,m⟩:kvs.length<=sizeLine/\(p==sysModules)=false/\∃vs,KV kvs vs/\s.heap.DictOf (bJ X.prog X.w) p vs:=I.hok p _ hx;have hlen:kvs.length=vs.length:=Paired.length r;exact wpAny_truthy_dict hS m (by omega) ⟨H,I.tok _,by rw[Ae r];exact q⟩
 |_=>exact(show False from e).elim
theorem EN(ha:PE X a ta)(he:∀whole,isTrue a X.env whole=(do let v <-whole;standAt a.pos;holding [v] (truthy v))) :
  PT X a (λσ H Q=>ta σ H λx H'=>∃k,Nz X.K x H' k/\Q k H'):=by
 intro pins s σ H Q I h;exact isTrue_plain (cK (ha pins s σ H _ I h) λv s1 ⟨x,H1,I1,r1,q1⟩=>NB pins s1 σ H1 x v Q I1 r1 q1) (he _)
theorem vals1(r:Vals [x] us):∃u,us=[u]/\RelV x u:=by
 cases r with
 |cons r1 r2=>cases r2;exact⟨_,rfl,r1⟩
theorem vals2(r:Vals [x,y] us):∃u w',us=[u,w']/\RelV x u/\RelV y w':=by
 cases r with
 |cons r1 r2=>
  cases r2 with
  |cons r3 r4=>cases r4;exact⟨_,_,rfl,r1,r3⟩
theorem C4(hc:X.calm=true):cW X (.builtin "max") (λxs H Q=>∃i j,xs=[.int i,.int j]/\Q (.int (if j>i then j else i)) H):=by
 intro pins s σ H xs us Q I r h;obtain⟨i,j,rfl,q⟩:=h;obtain⟨u,w',rfl,⟨t,rfl⟩,⟨t',rfl⟩⟩:=vals2 r;refine max_two_ints (I.ok.hd hc) λh' tk k=>⟨_,H,I.kept k,?_,q⟩
 by_cases hj:j>i
 ·rw[aaj hj,aaj hj];exact⟨_,rfl⟩
 ·rw[aam hj,aam hj];exact⟨_,rfl⟩
theorem C5(hc:X.calm=true):cW X (.builtin "min") (λxs H Q=>∃i j,xs=[.int i,.int j]/\Q (.int (if j<i then j else i)) H):=by
 intro pins s σ H xs us Q I r h;obtain⟨i,j,rfl,q⟩:=h;obtain⟨u,w',rfl,⟨t,rfl⟩,⟨t',rfl⟩⟩:=vals2 r;refine min_two_ints (I.ok.hd hc) λh' tk k=>⟨_,H,I.kept k,?_,q⟩
 by_cases hj:j<i
 ·rw[aaj hj,aaj hj];exact⟨_,rfl⟩
 ·rw[aam hj,aam hj];exact⟨_,rfl⟩
theorem uy:cW X (.type "int") (λxs H Q=>(∃i,xs=[.int i]/\Q (.int i) H)\/∃k,xs=[.bl k]/\Q (.int (if k then 1 else 0)) H):=by
 intro pins s σ H xs us Q I r h
 rcases h with ⟨i,rfl,q⟩|⟨k,rfl,q⟩
 ·obtain⟨u,rfl,t,rfl⟩:=vals1 r;exact call_int_int ⟨.int i,H,I,⟨_,rfl⟩,q⟩
 ·obtain⟨u,rfl,r1⟩:=vals1 r;cases r1;exact call_int_bool ⟨.int (if k then 1 else 0),H,I.tok _,⟨_,rfl⟩,q⟩
def Wc(K:Frag)(x:V)(H:Hp)(n:Nat):Prop :=
 match x with
 |.str y=>y.length<=sizeLine/\n=y.length
 |.byt y=>y.size<=sizeLine/\n=y.size
 |.ref p=>(∃xs,gR K H p xs/\n=xs.length)\/∃xs,kO K H p xs/\n=xs.length
 |_=>False
theorem rE:cW X (.builtin "len") (λxs H Q=>∃x n,xs=[x]/\Wc X.K x H n/\Q (.int n) H):=by
 intro pins s σ H xs us Q I r h;obtain⟨x,n,rfl,e,q⟩:=h;obtain⟨u,rfl,rx⟩:=vals1 r;have hl:=vO;have hs:sizeLine=16777216:=sizeLine_eq;cases x with
 |str y=>obtain⟨t,rfl⟩:=rx;obtain⟨hy,e'⟩:y.length<=sizeLine/\n=y.length:=e;subst e';exact len_str (by omega) ⟨.int _,H,I.tok _,⟨_,rfl⟩,q⟩
 |byt y=>obtain⟨t,rfl⟩:=rx;obtain⟨hy,e'⟩:y.size<=sizeLine/\n=y.size:=e;subst e';exact PySem.W.len_bytes (by omega) ⟨.int _,H,I.tok _,⟨_,rfl⟩,q⟩
 |ref p=>
  cases rx;have e':(∃xs,gR X.K H p xs/\n=xs.length)\/∃xs,kO X.K H p xs/\n=xs.length:=e
  rcases e' with ⟨xs,hx,e'⟩|⟨xs,hx,e'⟩
  ·subst e';obtain⟨its,r',pl,hz⟩:=I.list hx;have hlen:=r'.length;exact Calls.call_len_list pl.isList (by simp only[size_toArray];omega) ⟨.int xs.length,H,I.tok _,⟨_,by simp only[size_toArray];rw[hlen]⟩,q⟩
  ·subst e';obtain⟨its,r',pl,hz⟩:=I.tuple hx;have hlen:=r'.length;exact len_tuple pl (by simp only[size_toArray];omega) ⟨.int xs.length,H,I.tok _,⟨_,by simp only[size_toArray];rw[hlen]⟩,q⟩
 |_=>exact(show False from e).elim
end
structure Af (h:Heap) (x dx C:Addr) (mA:Str->Option Value):Prop where
 obj:h.get? x=some (instObj C dx)
 ns:h.Ns1 dx mA
 ne:dx≠x
theorem C6{h:Heap}{dx:Addr}{mA:Str->Option Value}(n:h.Ns1 dx mA):∃od,h.get? dx=some od/\∀name,lookIn name od=some (mA name):=by
 obtain⟨o,es,ep,ho,hd,hk,_,hm⟩:=n;refine⟨o,ho,λname=>?_⟩;have e:=hm name;unfold nsFind findBy at e;rw[<-Array.find?_toList]at e;unfold lookIn;rw[hd];dsimp only
 split
 ·rename_i y q;rw[q]at e;exact aaS some e
 ·rename_i q
  rw[q]at e;have a:es.toList.any (·.refKey)=false:=by rw[List.any_eq_false];intro y hy;obtain⟨z,t,hkey⟩:=hk y (Array.mem_toList_iff.mp hy);simp[DictEntry.refKey,hkey]
  have a':¬ es.toList.any (·.refKey)=true:=by rw[a];exact aac
  rw[aam a'];exact aaS some e
theorem Af.look(I:Af h x dx C mA):∃od,PySem.W.InstAt h x (instObj C dx) C (some od)/\∀name,lookIn name od=some (mA name) :=
 let ⟨od,ho,hl⟩:=C6 I.ns
 ⟨od,⟨I.obj,rfl,rfl,ho⟩,hl⟩
section
variable {prog:Program} {w:World} {A:Around} {E:Value->Shared->Prop} {s:Shared} {K:Frag} {x dx C f:Addr} {mA:Str->Option Value} {name:Str} {v:Value}
theorem get_map{expr:Bool}(X:K.In s.heap)(I:Af s.heap x dx C mA)(hg:plainGet K C name=true)(hh:hasDictIn K C=true)
  (ha:findIn K (.ref C) name=some none) (hv:mA name=some v) (hv':handedIn v=true) (h:Q v { s with toks:=s.toks+1 }) :
  wpAny (model prog w) A (getAttr (.ref x) name expr) Q E s:=by
 obtain⟨od,J,hl⟩:=I.look;exact PySem.W.get_value X J (plainGet_of hg).1 (PySem.W.findObj_own hh ha rfl (by rw[hl,hv])) hv' h
theorem EO(X:K.In s.heap)(I:Af s.heap x dx C mA)(hg:plainGet K C name=true)
  (hf:findIn K (.ref C) name=some (some (.ref f))) (ht:isFn K (.ref f)=true) (hv:mA name=none) (h:Q (.ref f,[.ref x]) s) :
  wpAny (model prog w) A (getMethod (.ref x) name pl) Q E s:=by
 obtain⟨od,J,hl⟩:=I.look;exact PySem.W.method_fn X J (plainGet_of hg).1 (plainGet_of hg).2 hf (beq_iff_eq.mp ht) (by show (lookIn name od).map (·.isSome)=some false;rw[hl,hv];rfl) h
theorem J1(X:K.In s.heap)(I:Af s.heap x dx C mA)
  (hs:findIn K (.ref C) "__setattr__" = some (some (.builtin "object.__setattr__"))) (hp:plainOver K C=true) (ht:takerIn K C name=some none) (hh:hasDictIn K C=true)
  (hw:PySem.Within mA ns) (hsz:ns.length<=sizeLine)
  (h:∀h',Af h' x dx C (λy=>if y=name then some v else mA y)->Heap.SameBut dx s.heap h'->Q () { s with heap:=h',toks:=s.toks+2 }) :
  wpAny (model prog w) A (setAttr (.ref x) name v) Q E s:=by
 obtain⟨od,J,hl⟩:=I.look;refine PySem.W.set_plain X J hs (PySem.W.osa_open (s:={ s with toks:=s.toks+1 }) (r:=none) X J hp ht λb=>?_);obtain⟨cd,hc,hd'⟩:=PySem.W.any_some hh;have hx:s.heap.get? x=some ⟨.ref C,some dx,.plain,#[]⟩:=I.obj;refine aab (aai (aab (aab (wpAny_loadPart hx (aab (PySem.W.Looks.here (s:={ s with toks:=s.toks+1 }) (PySem.W.looks_clsIn X hc) ?_))))));rw[hd'];refine aai (a:=some dx) (aab (aai (aab ?_)));refine wpAny_nsSet1 (s:={ s with toks:=s.toks+1 }) I.ns λh' hn2 hs2=>?_;obtain⟨oD,esD,epD,ZH,ZI,ZJ⟩:=hn2.count (PySem.Within.cons name v hw);refine aab (wpAny_lookBehind ZH (by rw[ZI];exact pastItsLine_dict (aaH ZJ (by rw[aaF];omega))) ?_);exact aai (h _ ⟨(hs2.2 _ (Ne.symm I.ne)).trans I.obj,hn2,I.ne⟩ hs2)
theorem ES(X:K.In s.heap)(hm:makesIn K C=true)
  (hi:findIn K (.ref C) "__init__" = some (some (.ref f))) (hf:typeIn K (.ref f)=some (.type "function"))
  (h:codeAny (model prog w) (A.under (.builtin "type.__call__" ⟨.ref C::vs,kw⟩)) (.call (.ref f) ⟨.ref (s.heap.objs.size+1)::vs,kw⟩) (PySem.W.InitBack (s.heap.objs.size+1) R)
   { s with heap:=(s.heap.push emptyDict).push (instObj C s.heap.objs.size) }) :
  codeAny (model prog w) A (.call (.ref C) ⟨vs,kw⟩) R s:=by
 obtain⟨hh,g,d,t,os⟩:=s;exact PySem.W.make_core (PySem.W.makes_of X hm) (PySem.W.looks_findIn X hi) (λself=>PySem.W.bind_fn X self hf) (.inl rfl) h
end
def jR(f:Str)(v:V):List (Str×V)->List (Str×V)
 |[]=>[(f,v)]
 |(g,x)::r=>if g=f then (g,v)::r else (g,x)::jR f v r
theorem pV(f g:Str)(v:V):∀fs:List (Str×V),(jR f v fs).lookup g=if g=f then some v else fs.lookup g
 | []=>by
  show List.lookup g [(f,v)]=_
  by_cases h:g=f
  ·have hb:(g==f)=true:=beq_iff_eq.mpr h;simp only[List.lookup,hb,if_pos h]
  ·have hb:(g==f)=false:=beq_eq_false_iff_ne.mpr h;simp only[List.lookup,hb,if_neg h]
 | (k,x)::r=>by
  have ih:=pV f g v r;rw[show jR f v ((k,x)::r)=(if k=f then (k,v)::r else (k,x)::jR f v r) from rfl]
  by_cases hk:k=f
  ·rw[aaj hk]
   by_cases h:g=k
   ·have hb:(g==k)=true:=beq_iff_eq.mpr h;simp only[List.lookup,hb,if_pos (h.trans hk)]
   ·have hb:(g==k)=false:=beq_eq_false_iff_ne.mpr h;simp only[List.lookup,hb,if_neg (λe:g=f=>h (e.trans hk.symm))]
  ·rw[aam hk]
   by_cases h:g=k
   ·have hb:(g==k)=true:=beq_iff_eq.mpr h;simp only[List.lookup,hb,if_neg (λe:g=f=>hk (h.symm.trans e))]
   ·have hb:(g==k)=false:=beq_eq_false_iff_ne.mpr h;simp only[List.lookup,hb];exact ih
theorem oU(f:Str)(v:V):∀fs:List (Str×V),f∈(jR f v fs).map (·.1)/\∀g,g∈fs.map (·.1)->g∈(jR f v fs).map (·.1)
 |[]=>⟨by simp[jR],λg h=>by simp at h⟩
 | (k,x)::r=>by
  obtain⟨i1,i2⟩:=oU f v r;rw[show jR f v ((k,x)::r)=(if k=f then (k,v)::r else (k,x)::jR f v r) from rfl]
  by_cases hk:k=f
  ·rw[aaj hk];subst hk;exact⟨by simp,λg h=>by simpa using h⟩
  ·rw[aam hk]
   refine⟨?_,λg h=>?_⟩
   ·rw[aap];exact aak _ i1
   ·rw[aap]at h |-
    rcases aaA.mp h with e|e
    ·exact aaA.mpr (.inl e)
    ·exact aak _ (i2 g e)
theorem pW(f:Str)(v:V):∀fs:List (Str×V),(jR f v fs).length<=fs.length+1
 |[]=>by simp[jR]
 | (k,x)::r=>by
  have ih:=pW f v r;rw[show jR f v ((k,x)::r)=(if k=f then (k,v)::r else (k,x)::jR f v r) from rfl]
  by_cases hk:k=f
  ·rw[aaj hk,aaF,aaF];omega
  ·rw[aam hk,aaF,aaF];omega
theorem kE.some_of(r:kE (some v) o):∃u,o=some u/\RelV v u:=by
 cases o with
 |none=>exact(show False from r).elim
 |some u=>exact⟨u,rfl,r⟩
theorem kE.none_of(r:kE none o):o=none:=by
 cases o with
 |none=>rfl
 |some u=>exact(show False from r).elim
theorem C7(r:RelV v u):handedIn u=true:=by
 cases v with
 |non=>cases (show u=Value.none from r);rfl
 |bl b=>cases (show u=Value.bool b from r);rfl
 |int i=>obtain⟨t,e⟩:=(show ∃t,u=Value.int i t from r);cases e;rfl
 |str x=>obtain⟨t,e⟩:=(show ∃t,u=Value.str x t from r);cases e;rfl
 |byt b=>obtain⟨t,e⟩:=(show ∃t,u=Value.bytes b t from r);cases e;rfl
 |flt b=>obtain⟨t,e⟩:=(show ∃t,u=Value.float b t from r);cases e;rfl
 |ref a=>cases (show u=Value.ref a from r);rfl
 |ty n=>cases (show u=Value.type n from r);rfl
section
variable {P:Program} {w:World} {H H':Hp} {h h':Heap} {a C dx:Addr} {fs fs':List (Str×V)}
theorem vP(hok:nL P w H h)(e:H a=some (.ins C dx fs)):∃mA,Af h a dx C mA/\(∀f,kE (fs.lookup f) (mA f))/\PySem.Within mA (fs.map (·.1))/\fs.length<=1000/\H dx=some (.own a):=by
 obtain⟨d,z,ne,ob,mA,n,r,q⟩:=(show cB P w H h a (.ins C dx fs) from hok a _ e);exact⟨mA,⟨ob,n,ne⟩,r,q,z,d⟩
end
structure Er (K:Frag) (C:Addr):Prop where
 pg:plainGet K C Str.empty=true
 hd:hasDictIn K C=true
 po:plainOver K C=true
 sa:findIn K (.ref C) "__setattr__" = some (some (.builtin "object.__setattr__"))
theorem Er.get{K:Frag}{C:Addr}(c:Er K C)(f:Str):plainGet K C f=true:=c.pg
def kR(K:Frag)(C:Addr)(f:Str):Prop:=findIn K (.ref C) f=some none
theorem kR.Sf{K:Frag}{C:Addr}{f:Str}(n:kR K C f):takerIn K C f=some none:=by
 unfold takerIn;rw[show findIn K (.ref C) f=some none from n];rfl
structure Meth (K:Frag) (C:Addr) (m:Str) (f:Addr):Prop where
 at_:findIn K (.ref C) m=some (some (.ref f))
 fn:isFn K (.ref f)=true
 kp:keepIn K (.ref f)=true
section
variable {X:Cx} {pins:List (Addr×Obj)} {σ:St} {H:Hp} {s:Shared} {a C dx:Addr} {fs:List (Str×V)} {f:Str} {v:V} {A:Around} {E:Value->Shared->Prop}
theorem Ag{b:Bool}(I:Inv X pins σ H s)(e:H a=some (.ins C dx fs))(c:Er X.K C)(n:kR X.K C f)(l:fs.lookup f=some v)
  (h:∀u s',Inv X pins σ H s'->RelV v u->Q u s'):wpAny (model X.prog X.w) A (getAttr (.ref a) f b) Q E s:=by
 obtain⟨mA,O,r,_,_,_⟩:=vP I.hok e;obtain⟨u,hu,ru⟩:=kE.some_of (v:=v) (o:=mA f) (by rw[<-l];exact r f);exact get_map I.qz O (c.get f) c.hd n hu (C7 ru) (h u _ (I.tok _) ru)
theorem rF(I:Inv X pins σ H s)(e:H a=some (.ins C dx fs))(c:Er X.K C)(k:Meth X.K C m g)(l:fs.lookup m=none)
  (h:Q (.ref g,[.ref a]) s):wpAny (model X.prog X.w) A (getMethod (.ref a) m pl) Q E s:=by
 obtain⟨mA,O,r,_,_,_⟩:=vP I.hok e;have hn:mA m=none:=kE.none_of (by rw[<-l];exact r m);exact EO I.qz O (c.get m) k.at_ k.fn hn h
theorem Ah(I:Inv X pins σ H s)(e:H a=some (.ins C dx fs))(c:Er X.K C)(n:kR X.K C f)(hl:fs.length<1000)(ry:RelV y u)
  (h:∀s',Inv X pins σ (upd H a (.ins C dx (jR f y fs))) s'->Q () s'):wpAny (model X.prog X.w) A (setAttr (.ref a) f u) Q E s:=by
 obtain⟨mA,O,r,wi,_,ho⟩:=vP I.hok e;have hz:(fs.map (·.1)).length<=sizeLine:=by rw[aaf,sizeLine_eq];omega
 refine J1 I.qz O c.sa c.po n.Sf c.hd wi hz λh' O' sb=>h _ ?_;have hd:∃o,h'.get? dx=some o:=let ⟨o,_,_,e',_⟩:=O'.ns;⟨o,e'⟩
 refine I.write (x:=a) (e:=dx) (by rw[e];exact True.intro) (.inr ho) (λb q hb z=>(sb.2 b hb).trans z) hd ?_;refine⟨by rw[ak O.ne];exact ho,?_,O.ne,O'.obj,_,O'.ns,λg=>?_,λg hg=>?_⟩
 ·have:=pW f y fs;omega
 ·show kE ((jR f y fs).lookup g) (if g=f then some u else mA g)
  rw[pV]
  by_cases q:g=f
  ·rw[aaj q,aaj q];exact ry
  ·rw[aam q,aam q];exact r g
 ·by_cases q:g=f
  ·rw[q];exact(oU f y fs).1
  ·refine(oU f y fs).2 g (wi g λz=>hg ?_);show (if g=f then some u else mA g)=none;rw[aam q];exact z
theorem Inv.made(I:Inv X pins σ H s):Inv X pins σ (upd (upd H s.heap.objs.size (.own (s.heap.objs.size+1))) (s.heap.objs.size+1) (.ins C s.heap.objs.size []))
  { s with heap:=(s.heap.push emptyDict).push (instObj C s.heap.objs.size) }:=by
 have e1:(s.heap.push emptyDict).get? s.heap.objs.size=some emptyDict:=aav s.heap rfl;have e2:((s.heap.push emptyDict).push (instObj C s.heap.objs.size)).get? (s.heap.objs.size+1)=some (instObj C s.heap.objs.size):=by have:=aav (s.heap.push emptyDict) (o:=instObj C s.heap.objs.size) rfl;rwa [size_push]at this
 have e3:(s.heap.push emptyDict).Ns s.heap.objs.size (λ_=>none):=⟨emptyDict,#[],_,e1,rfl,(λe he=>absurd he (by simp)),λ_=>rfl⟩;have I1:=I.laid (a:=s.heap.objs.size) (o:=.own (s.heap.objs.size+1)) (h':=s.heap.push emptyDict) (t':=s.toks) (λb u q=>aae _ q) (aao _) ⟨_,e1⟩;refine I1.laid (a:=s.heap.objs.size+1) (o:=.ins C s.heap.objs.size []) (t':=s.toks) (λb u q=>aae _ q) (Nat.le_of_eq (size_push _ _)) ?_;have ne:s.heap.objs.size≠s.heap.objs.size+1:=aau (lt_succ_self _);refine⟨by rw[ak ne,aD],zero_le _,ne,e2,λ_=>none,(Heap.Ns1.of_empty e3).at λo q=>aae _ q,λ_=>True.intro,λy hy=>absurd rfl hy⟩
theorem attr_of(hb:attributeBase e f env (eval e env)=eval e env)
  (h:wpAny (model prog w) A (eval e env) (λo s₁=>wpAny (model prog w) A (getAttr o f true) Q E s₁) E s):wpAny (model prog w) A (eval (.Attribute e f pos) env) Q E s :=
 Attribute_any_ h (by rw[arm_eval_Attribute,hb])
end
def tFld(K:Frag)(ta:TE)(f:Str):TE:=λσ H Q=>ta σ H λx H1=>∃a C dx fs v,x=.ref a/\H1 a=some (.ins C dx fs)/\Er K C/\kR K C f/\fs.lookup f=some v/\Q v H1
def Wd(K:Frag)(ta tv:TE)(f:Str):TS:=λD σ H=>tv σ H λy H1=>ta σ H1 λx H2=>∃a C dx fs,x=.ref a/\H2 a=some (.ins C dx fs)/\Er K C/\kR K C f/\fs.length<1000 /\
 D.nx σ (upd H2 a (.ins C dx (jR f y fs)))
section
variable {X:Cx} {o e value:Expr} {f:Str} {pos pos' tpos:Pos} {ta tv:TE}
theorem pe_fld(he:PE X e ta)(hb:attributeBase e f X.env (eval e X.env)=eval e X.env):PE X (.Attribute e f pos) (tFld X.K ta f):=by
 intro pins s σ H Q I h;refine attr_of hb (cK (he pins s σ H _ I h) λu s1 aT=>?_);obtain⟨x,H1,I1,rx,a,C,dx,fs,v,ex,ea,c,n,l,q⟩:=aT;subst ex;obtain rfl:u=Value.ref a:=rx;exact Ag I1 ea c n l λu' s2 I2 ru=>⟨v,H1,I2,ru,q⟩
theorem NC(ha:PE X o ta)(hv:PE X value tv)(hs:swapsWith value (some (.Attribute o f pos')) pos.line X.env=pure false):PS X (.Assign [.Attribute o f pos'] value pos) (Wd X.K ta tv f):=by
 intro pins s σ H D I h;refine plainObj_wpAny_Assign_Attribute (cK (hv pins s σ H _ I h) λu s1 ⟨y,H1,I1,ry,q⟩=>cK (ha pins s1 σ H1 _ I1 q) λov s2 ⟨x,H2,I2,rx,a,C,dx,fs,ex,ea,c,n,l,q2⟩=>?_) hs;subst ex;obtain rfl:ov=Value.ref a:=rx;exact Ah I2 ea c n l ry λs3 I3=>⟨σ,_,I3,q2⟩
end
structure dD (k:Nat) (A:Around):Prop where
 hd:A.handled=none
 dp:A.depth+3*k+5<recursionLimit
 un:A.units+16*k+200<cLine
theorem dD.mono{j k:Nat}(r:dD k A)(h:j<=k):dD j A:=⟨r.hd,by have:=r.dp;omega,by have:=r.un;omega⟩
theorem dD.deeper{k:Nat}(r:dD (k+1) A)(env:Env):dD k (A.deeper env) :=
 ⟨r.hd,by have:=r.dp;show A.depth+1+3*k+5<_;omega,by have:=r.un;show A.units+3+16*k+200<_;omega⟩
theorem Ai{A:Around}{C:Addr}{us:List Value}{kw:List (Str×Value)}:(A.under (.builtin "type.__call__" ⟨.ref C::us,kw⟩)).depth=A.depth+1:=by
 first|rfl|simp[Around.under,Code.weight,Code.isCreation,Code.isGuard,Code.isCaller,Code.frames,Code.isFrame,guardIds]
theorem Aj{A:Around}{C:Addr}{us:List Value}{kw:List (Str×Value)}:(A.under (.builtin "type.__call__" ⟨.ref C::us,kw⟩)).units=A.units+1:=by
 first|rfl|simp[Around.under,Code.cUnits,Code.frames,Code.isFrame]
theorem dD.make{k:Nat}(r:dD (k+1) A)(C:Addr)(us:List Value)(kw:List (Str×Value)):dD k (A.under (.builtin "type.__call__" ⟨.ref C::us,kw⟩)) :=
 ⟨r.hd,by have:=r.dp;rw[Ai];omega,by have:=r.un;rw[Aj];omega⟩
theorem dD.depth{k:Nat}(r:dD k A):A.depth<recursionLimit:=by have:=r.dp;omega
theorem dD.units{k:Nat}(r:dD k A):A.units+64<cLine:=by have:=r.un;omega
def ND:TA:=λ_ H Q=>Q [] H
def Sg(ta:TE)(tr:TA):TA:=λσ H Q=>ta σ H λx H1=>tr σ H1 λxs H2=>Q (x::xs) H2
section
variable {X:Cx} {e:Expr} {es:List Expr} {te:TE} {t:TA} {pos:Pos}
theorem ET:PA X [] ND:=λ_ _ _ _ H Q I h=>Calls.spliced_nil ⟨[],H,I,.nil,h⟩
theorem vQ(ha:PE X e te)(hr:PA X es t)(hs:starEach (e::es) X.env=(false,eval e X.env)::starEach es X.env:=by rfl):PA X (e::es) (Sg te t):=by
 intro pos pins s σ H Q I h;rw[hs];show wpAny _ _ (spliced ((false,eval e X.env)::backTo pos (starEach es X.env))) _ _ s;refine Calls.spliced_cons (cK (ha pins s σ H _ I h) λu s1 aT=>?_);obtain⟨x,H1,I1,r1,q1⟩:=aT;exact cK (hr pos pins s1 σ H1 _ I1 q1) λus s2 ⟨xs,H2,I2,r2,q2⟩=>⟨x::xs,H2,I2,.cons r1 r2,q2⟩
def We(t:TA):TE:=λσ H Q=>t σ H λxs H1=>xs.length<=sizeLine/\∀p,H1 p=none->Q (.ref p) (upd H1 p (.tup xs))
def Wf(t:TA):TE:=λσ H Q=>t σ H λxs H1=>xs.length<=sizeLine/\∀p,H1 p=none->Q (.ref p) (upd H1 p (.lst xs))
theorem NF{x1}(h:PA X es t):PE X (.Tuple es x1 pos) (We t):=by
 intro pins s σ H Q I hq;refine wpAny_Tuple_spliced (cK (h pos pins s σ H _ I hq) λus s1 ⟨xs,H1,I1,r,z,q⟩=>⟨by rw[<-r.length];exact z,?_⟩);have hf:H1 s1.heap.objs.size=none:=I1.hok.fresh (aao _);refine⟨.ref s1.heap.objs.size,upd H1 s1.heap.objs.size (.tup xs),I1.laid (t':=s1.toks) (λb u e=>aae _ e) (aao _) ?_,rfl,q _ hf⟩;exact⟨z,us,r,⟨_,aav _ rfl,rfl,_,rfl⟩⟩
theorem NG(h:PA X es t):PE X (.List es pos) (Wf t):=by
 intro pins s σ H Q I hq;refine wpAny_List_spliced (cK (h pos pins s σ H _ I hq) λus s1 ⟨xs,H1,I1,r,z,q⟩=>⟨by rw[<-r.length];exact z,?_⟩);have hf:H1 s1.heap.objs.size=none:=I1.hok.fresh (aao _);refine⟨.ref s1.heap.objs.size,upd H1 s1.heap.objs.size (.lst xs),I1.laid (t':=s1.toks) (λb u e=>aae _ e) (aao _) ?_,rfl,q _ hf⟩;exact⟨z,us,0,r,aav _ rfl⟩
end
abbrev Sp:=List V->Hp->VK->XK->Prop
abbrev xG:=List Env->Hp->Shared->XK->Value->Shared->Prop
structure rG (P:Program) (w:World) (K:Frag) (mg:Str->Option Value) (base:Heap) (A:Around) (outer:List Env) (s:Shared) (H:Hp):Prop where
 frames:A.frames=some outer
 mod:Mod K mg base
 bs:∀b o,base.get? b=some o->s.heap.get? b=some o/\H b=none
 JM:base.objs.size<=s.heap.objs.size
 oS:s.heap.FunFrames base outer
 Mp:∀b∈frs outer,H b=none
 hok:nL P w H s.heap
 bare:AllBare s.gens
def CE(outer:List Env)(P:Program)(w:World)(H:Hp)(s:Shared)(Q:VK)(u:Value)(s':Shared):Prop :=
 ∃v H',s'.os=s.os/\AllBare s'.gens/\Un (frs outer) [] H H' s.heap s'.heap/\nL P w H' s'.heap/\RelV v u/\Q v H'
def CR(CX:xG)(outer:List Env)(P:Program)(w:World)(H:Hp)(s:Shared)(Q:VK)(E:XK)(r:Result)(s':Shared):Prop :=
 match r with
 |.ok (.ret u)=>CE outer P w H s Q u s'
 |.ok _=>False
 |.error e=>CX outer H s E e s'
structure fU (P:Program) (w:World) (K:Frag) (mg:Str->Option Value) (base:Heap) (CX:xG) (k:Nat) (f:Addr) (fd:FuncData) (ps:List Str) (sp:Sp):Prop where
 len:∀vs H Q E,sp vs H Q E->vs.length=ps.length
 run:∀(A:Around) (outer:List Env) (s:Shared) (H:Hp) (args:Args) (us:List Value) (vs:List V) (Q:VK) (E:XK),dD k A->rG P w K mg base A outer s H->BindsTo s fd args (ps.zip us)->Vals vs us->sp vs H Q E ->
  codeAny (model P w) A (.call (.ref f) args) (CR CX outer P w H s Q E) s
theorem fU.mono{P:Program}{w:World}{K:Frag}{mg:Str->Option Value}{base:Heap}{CX:xG}{j k:Nat}{f:Addr}{fd:FuncData}{ps:List Str}{sp:Sp}(F:fU P w K mg base CX j f fd ps sp)(h:j<=k) :
  fU P w K mg base CX k f fd ps sp:=⟨F.len,λA outer s H args us vs Q E hr=>F.run A outer s H args us vs Q E (hr.mono h)⟩
theorem fU.imp{P:Program}{w:World}{K:Frag}{mg:Str->Option Value}{base:Heap}{CX:xG}{k:Nat}{f:Addr}{fd:FuncData}{ps:List Str}{sp XI:Sp}(F:fU P w K mg base CX k f fd ps sp)
  (h:∀vs H Q E,XI vs H Q E->sp vs H Q E):fU P w K mg base CX k f fd ps XI :=
 ⟨λvs H Q E q=>F.len vs H Q E (h _ _ _ _ q),λA outer s H args us vs Q E hr he hb hv hs=>F.run A outer s H args us vs Q E hr he hb hv (h _ _ _ _ hs)⟩
theorem rG.make{P:Program}{w:World}{K:Frag}{mg:Str->Option Value}{base:Heap}{A:Around}{outer:List Env}{s:Shared}{H:Hp}(e:rG P w K mg base A outer s H)(C:Addr)(us:List Value)(kw:List (Str×Value)) :
  rG P w K mg base (A.under (.builtin "type.__call__" ⟨.ref C::us,kw⟩)) outer s H:=⟨by first|exact e.frames|(simpa [Around.under,Code.envs,Code.isFrame,pushEnvs] using e.frames),e.mod,e.bs,e.JM,e.oS,e.Mp,e.hok,e.bare⟩
section
variable {X:Cx} {pins:List (Addr×Obj)} {σ:St} {H:Hp} {s s':Shared}
theorem Inv.oV(I:Inv X pins σ H s):rG X.prog X.w X.K X.mg X.base X.A X.stack s H :=
 ⟨I.ok.frames,I.ok.mod,I.bs,aaH I.ok.JM I.sz,I.stack,I.BA,I.hok,I.bare⟩
theorem Inv.after(I:Inv X pins σ H s)(h:CE X.stack X.prog X.w H s Q u s'):EP X pins σ Q u s':=by
 obtain⟨v,H',os,bare,un,hok,r,q⟩:=h;obtain⟨hh,g,d,t,os'⟩:=s';obtain rfl:os'=s.os:=os;exact⟨v,H',I.call (h':=hh) (g':=g) (d':=d) (t':=t) (ch:=[]) un hok bare (λb z=>absurd z (by simp)),r,q⟩
end
def Ms(sp:Sp)(tU:List V)(E:XK)(t:TA):TE:=λσ H Q=>t σ H λvs H1=>sp (vs++tU) H1 Q E
def Mt(C:Addr)(sp:Sp)(tU:List V)(E:XK)(t:TA):TE:=λσ H Q=>t σ H λvs H1=>∀x dx,H1 x=none->H1 dx=none->dx≠x ->
 sp (.ref x::(vs++tU)) (upd (upd H1 dx (.own x)) x (.ins C dx [])) (λv H2=>v=.non/\Q (.ref x) H2) E
def Binds(K:Frag)(fd:FuncData)(ps:List Str)(ds:List Value):Prop :=
 ∀(s:Shared) (us:List Value),K.In s.heap->(us++ds).length=ps.length->BindsTo s fd ⟨us,[]⟩ (ps.zip (us++ds))
theorem Binds.all{K:Frag}{fd:FuncData}{ps:List Str}(h:∀us:List Value,us.length=ps.length->bindArgs fd ⟨us,[]⟩=pure (ps.zip us)):Binds K fd ps []:=λs us _ hl=>by
 rw[append_nil]at hl |-;exact .of_eq (h us hl)
def Passes(CX:xG)(X:Cx)(E:XK):Prop:=∀(pins:List (Addr×Obj)) (σ:St) (H:Hp) (s:Shared) (e:Value) (s':Shared),Inv X pins σ H s->CX X.stack H s E e s'->X.xe e s'
section
variable {X:Cx} {CX:xG} {k:Nat} {f C:Addr} {fd:FuncData} {ps:List Str} {sp:Sp} {tU:List V} {ds:List Value} {E:XK} {x m:Str} {p pos apos:Pos} {e o:Expr} {es:List Expr} {ta:TE} {t:TA}
theorem vS(F:fU X.prog X.w X.K X.mg X.base CX k f fd ps sp)(hr:dD k X.A)(hb:Binds X.K fd ps ds)(hd:Vals tU ds)(hx:Passes CX X E)
  (I:Inv X pins σ H s) (r:Vals vs us) (h:sp (vs++tU) H Q E):wpAny (model X.prog X.w) X.A (call (.ref f) us) (EP X pins σ Q) X.xe s:=by
 have r2:Vals (vs++tU) (us++ds):=r.append hd;have hl:(us++ds).length=ps.length:=by rw[<-r2.length];exact F.len _ _ _ _ h
 refine wpAny_call (codeAny_mono (F.run X.A X.stack s H ⟨us,[]⟩ (us++ds) (vs++tU) Q E hr I.oV (hb s us I.qz hl) r2 h) λr s' hq=>?_);cases r with
 |error e=>exact hx pins σ H s e s' I hq
 |ok fl=>
  cases fl with
  |ret u=>exact I.after hq
  |next=>exact False.elim hq
  |brk=>exact False.elim hq
  |cont=>exact False.elim hq
theorem J2(F:fU X.prog X.w X.K X.mg X.base CX k f fd ps sp)(hr:dD k X.A)(hg:Gl X x)(hm:X.mg x=some (.ref f))(hk:keepIn X.K (.ref f)=true)(hb:Binds X.K fd ps ds)(hd:Vals tU ds)(hx:Passes CX X E)
  (ha:PA X (e::es) t) (hdb:(x==("__debug__":Str))=false) (he:starEach (e::es) X.env=(false,eval e X.env)::starEach es X.env) (hpl:(backTo pos (starEach es X.env)).any (·.1)=false) :
  PE X (.Call (.Name x p) (e::es) [] pos) (Ms sp tU E t):=by
 intro pins s σ H Q I h;refine wpAny_Call_Name_kw (nP I hg hm ?_ hdb);refine callWith_K (h₀:=X.base) I.ok.mod.Rp hk (cK (ha pos pins s σ H _ I h) λus s1 ⟨vs,H1,I1,r,q⟩=>⟨I1.qz,?_⟩) he hpl;exact vS F hr hb hd hx I1 r q
theorem EU(F:fU X.prog X.w X.K X.mg X.base CX k f fd ps sp)(hr:dD k X.A)(hg:Gl X x)(hm:X.mg x=some (.ref f))(hk:keepIn X.K (.ref f)=true)(hb:Binds X.K fd ps ds)(hd:Vals tU ds)(hx:Passes CX X E)
  (hdb:(x==("__debug__":Str))=false):PE X (.Call (.Name x p) [] [] pos) (Ms sp tU E ND):=by
 intro pins s σ H Q I h;refine wpAny_Call_Name_kw (nP I hg hm ?_ hdb);exact callWith_K0 I.qz hk (vS (us:=[]) F hr hb hd hx I .nil h)
structure Mk (K:Frag) (C f:Addr):Prop where
 makes:makesIn K C=true
 init:findIn K (.ref C) "__init__" = some (some (.ref f))
 fn:isFn K (.ref f)=true
 kp:keepIn K (.ref C)=true
theorem xH(M:Mk X.K C f)(F:fU X.prog X.w X.K X.mg X.base CX k f fd ps sp)(hr:dD (k+1) X.A)(hb:Binds X.K fd ps ds)(hd:Vals tU ds)
  (hx:Passes CX X E) (I:Inv X pins σ H s) (r:Vals vs us)
  (h:∀x dx,H x=none->H dx=none->dx≠x->sp (.ref x::(vs++tU)) (upd (upd H dx (.own x)) x (.ins C dx [])) (λv H2=>v=.non/\Q (.ref x) H2) E) :
  wpAny (model X.prog X.w) X.A (call (.ref C) us) (EP X pins σ Q) X.xe s:=by
 have hq:=h (s.heap.objs.size+1) s.heap.objs.size (I.hok.fresh (le_succ _)) (I.hok.fresh (aao _)) (aau (lt_succ_self _));have I2:=Inv.made (C:=C) I;have r2:Vals (V.ref (s.heap.objs.size+1)::(vs++tU)) (Value.ref (s.heap.objs.size+1)::(us++ds)):=.cons rfl (r.append hd);have hl:(Value.ref (s.heap.objs.size+1)::us++ds).length=ps.length:=by have e:=r2.length;rw[F.len _ _ _ _ hq]at e;exact e.symm
 refine wpAny_call (ES (f:=f) I.qz M.makes M.init (beq_iff_eq.mp M.fn) (codeAny_mono (F.run _ X.stack _ _ ⟨Value.ref (s.heap.objs.size+1)::us,[]⟩ (Value.ref (s.heap.objs.size+1)::(us++ds)) _ _ E (hr.make C us [])
  (I2.oV.make C us []) (hb _ (Value.ref (s.heap.objs.size+1)::us) I2.qz hl) r2 hq) λr s' hq'=>?_))
 cases r with
 |error e=>exact hx pins σ _ _ e s' I2 hq'
 |ok fl=>
  cases fl with
  |ret u=>obtain⟨v,H',I3,rv,ev,q3⟩:=I2.after hq';subst ev;exact⟨rv,⟨V.ref (s.heap.objs.size+1),H',I3,rfl,q3⟩⟩
  |next=>exact False.elim hq'
  |brk=>exact False.elim hq'
  |cont=>exact False.elim hq'
theorem J3(M:Mk X.K C f)(F:fU X.prog X.w X.K X.mg X.base CX k f fd ps sp)(hr:dD (k+1) X.A)(hg:Gl X x)(hm:X.mg x=some (.ref C))(hb:Binds X.K fd ps ds)(hd:Vals tU ds)(hx:Passes CX X E)
  (ha:PA X (e::es) t) (hdb:(x==("__debug__":Str))=false) (he:starEach (e::es) X.env=(false,eval e X.env)::starEach es X.env) (hpl:(backTo pos (starEach es X.env)).any (·.1)=false) :
  PE X (.Call (.Name x p) (e::es) [] pos) (Mt C sp tU E t):=by
 intro pins s σ H Q I h;refine wpAny_Call_Name_kw (nP I hg hm ?_ hdb);refine callWith_K (h₀:=X.base) I.ok.mod.Rp M.kp (cK (ha pos pins s σ H _ I h) λus s1 ⟨vs,H1,I1,r,q⟩=>⟨I1.qz,?_⟩) he hpl;exact xH M F hr hb hd hx I1 r q
theorem EW(M:Mk X.K C f)(F:fU X.prog X.w X.K X.mg X.base CX k f fd ps sp)(hr:dD (k+1) X.A)(hg:Gl X x)(hm:X.mg x=some (.ref C))(hb:Binds X.K fd ps ds)(hd:Vals tU ds)(hx:Passes CX X E)
  (hdb:(x==("__debug__":Str))=false):PE X (.Call (.Name x p) [] [] pos) (Mt C sp tU E ND):=by
 intro pins s σ H Q I h;refine wpAny_Call_Name_kw (nP I hg hm ?_ hdb);exact callWith_K0 I.qz M.kp (xH (us:=[]) M F hr hb hd hx I .nil h)
end
structure nS (N P:List Str) (sc:Scope):Prop where
 kind:sc.kind=.function
 co:sc.isCoroutine=false
 gen:sc.isGenerator=false
 nd:N.Nodup
 pre:N.take P.length=P
 par:∀x∈P,sc.names.lookup x=some .local\/sc.names.lookup x=some .cell
 NH:∀y∈sc.names,y.2≠.free
theorem uz{kindOf:Str->Option NameKind}{x:Str}:∀{binds:List (Str×Value)} {m:Str->Option Value},(∀v,(x,v)∉binds)->bindL kindOf binds m x=m x
 |[],_,_=>rfl
 | (n,v)::r,m,h=>by
  unfold bindL;rw[uz λw hw=>h w (aak _ hw)]
  split
  ·have:x≠n:=by rintro rfl;exact h v aal
   simp[this]
  ·rfl
theorem uA{kindOf:Str->Option NameKind}{x:Str}:∀{binds:List (Str×Value)} {m:Str->Option Value},(∀v,(x,v)∉binds)->bindC kindOf binds m x=m x
 |[],_,_=>rfl
 | (n,v)::r,m,h=>by
  unfold bindC;rw[uA λw hw=>h w (aak _ hw)]
  split
  ·rfl
  ·have:x≠n:=by rintro rfl;exact h v aal
   simp[this]
theorem uB{kindOf:Str->Option NameKind}{x:Str}{v:Value}:∀{P:List Str} {vs:List Value} {i:Nat} {m:Str->Option Value},P.Nodup->P[i]?=some x->vs[i]?=some v->kindOf x=some .local ->
  bindL kindOf (P.zip vs) m x=some v
 |[],_,_,_,_,h,_,_=>by simp at h
 |_::_,[],_,_,_,_,h,_=>by simp at h
 | p::P,w::vs,0,m,nd,h1,h2,hk=>by
  simp at h1 h2;subst h1;subst h2;show bindL kindOf ((p,w)::P.zip vs) m p=_;unfold bindL;rw[uz λv hv=>(nodup_cons.mp nd).1 (of_mem_zip hv).1,aaj hk];simp
 | p::P,w::vs,i+1,m,nd,h1,h2,hk=>by
  show bindL kindOf ((p,w)::P.zip vs) m x=_;unfold bindL;exact uB (i:=i) (nodup_cons.mp nd).2 (by simpa using h1) (by simpa using h2) hk
theorem uC{kindOf:Str->Option NameKind}{x:Str}{v:Value}:∀{P:List Str} {vs:List Value} {i:Nat} {m:Str->Option Value},P.Nodup->P[i]?=some x->vs[i]?=some v->kindOf x≠some .local ->
  bindC kindOf (P.zip vs) m x=some v
 |[],_,_,_,_,h,_,_=>by simp at h
 |_::_,[],_,_,_,_,h,_=>by simp at h
 | p::P,w::vs,0,m,nd,h1,h2,hk=>by
  simp at h1 h2;subst h1;subst h2;show bindC kindOf ((p,w)::P.zip vs) m p=_;unfold bindC;rw[uA λv hv=>(nodup_cons.mp nd).1 (of_mem_zip hv).1,aam hk];simp
 | p::P,w::vs,i+1,m,nd,h1,h2,hk=>by
  show bindC kindOf ((p,w)::P.zip vs) m x=_;unfold bindC;exact uC (i:=i) (nodup_cons.mp nd).2 (by simpa using h1) (by simpa using h2) hk
def start(N:List Str)(vs:List V):St:=vs.map some++replicate (N.length-vs.length) none
def nT(CX:xG)(P:Program)(w:World)(K:Frag)(mg:Str->Option Value)(base:Heap)(N:List Str)(qual:Str)(scope:Scope)(f:Addr)(cd:Value)(A:Around)(outer:List Env)(s:Shared)(H:Hp)(E:XK):Cx where
 prog:=P
 w:=w
 K:=K
 mg:=mg
 base:=base
 A:=A.deeper (envOfC qual scope s.heap.objs.size f cd)
 N:=N
 s₀:=s
 H₀:=H
 env:=envOfC qual scope s.heap.objs.size f cd
 outer:=outer
 stack:=envOfC qual scope s.heap.objs.size f cd::outer
 ex:=[]
 calm:=true
 fn:=λ_=>true
 pn:=[]
 xe:=λe s'=>wpAny (model P w) (A.deeper (envOfC qual scope s.heap.objs.size f cd)) (leaving (envOfC qual scope s.heap.objs.size f cd) e) (λ_ s''=>CX outer H s E e s'') (λe' s''=>CX outer H s E e' s'') s'
theorem xJ{sc:Scope}{n:Nat}{x:Str}(h:sc.names.lookup x=some .cell):∃c,(cellsFrom n sc.names []).lookup x=some c:=by
 have q:=cellsFrom_some sc.names n [] (.inl h);exact Option.isSome_iff_exists.mp q
theorem uD{CX:xG}{P:Program}{w:World}{K:Frag}{mg:Str->Option Value}{base:Heap}{N ps:List Str}{qual:Str}{scope:Scope}{f:Addr}{cd:Value}{A:Around}{outer:List Env}{s s1:Shared}{H:Hp}{E:XK}{us:List Value}{vs:List V}
  (S:nS N ps scope) (hd:A.handled=none) (e0:rG P w K mg base A outer s H) (hl:vs.length=ps.length) (r:Vals vs us)
  (x:InCallC s s.heap.objs.size (bindL (envOfC qual scope s.heap.objs.size f cd).kindOf (ps.zip us) λ_=>none) (cellsFrom (s.heap.objs.size+1) scope.names []) (bindC (envOfC qual scope s.heap.objs.size f cd).kindOf (ps.zip us) λ_=>none) s1) :
  Inv (nT CX P w K mg base N qual scope f cd A outer s H E) [] (start N vs) H s1:=by
 have hpl:ps.length<=N.length:=by have:=aaS length S.pre;rw[length_take]at this;omega
 obtain⟨h1,tk,rfl,hk⟩:=x.done;have noA:∀b:Addr,b∉(nT CX P w K mg base N qual scope f cd A outer s H E).ex:=λb z=>absurd (show b∈([]:List Addr) from z) (by simp);refine⟨⟨e0.mod,S.kind,rfl,rfl,aao _,λy z c h1 h2=>?_,λy hy=>?_,λy c _ h=>?_,λ_=>hd,Around.frames_deeper e0.frames,.inr ⟨rfl,rfl⟩,λb z=>absurd z (noA b),e0.bs,e0.JM,λb _ _=>noA b,λb z=>absurd z (noA b),e0.oS,e0.Mp⟩,
  rfl,e0.bare,Un.kept hk,⟨_,x.toInCall.ns,λi y v h1 h2 h3=>?_⟩,λy c h=>⟨_,x.cell y c h⟩,e0.hok.fresh (aao _),λy c h=>?_,λp hp=>absurd (show p∈([]:List (Addr×Obj)) from hp) (by simp),e0.hok.kept hk,?_⟩
 ·exact name_of_addr x.apart (aaT h1) (aaT h2)
 ·have hy:scope.names.lookup y=some .cell\/scope.names.lookup y=some .free:=hy
  rcases hy with hy|hy
  ·exact xJ hy
  ·exact absurd rfl (S.NH _ (aaT hy))
 ·exact le_of_lt (x.above y c (aaT h))
 ·have hi:i<vs.length:=by
   unfold start at h2
   by_cases hi:i<vs.length
   ·exact hi
   ·rw[aaD (by simpa using hi)]at h2;rw[List.getElem?_replicate]at h2;split at h2<;>cases h2
  have ha:vs[i]?=some v:=by
   unfold start at h2;rw[aas (by simpa using hi),aaB]at h2;cases e:vs[i]? with
   |none=>rw[e]at h2;cases h2
   |some a=>rw[e]at h2;cases h2;rfl
  obtain⟨u,hu,rv⟩:=r.get ha;have hp:ps[i]?=some y:=by rw[<-S.pre,List.getElem?_take_of_lt (by omega)];exact h1
  have Vr:ps.Nodup:=by rw[<-S.pre];exact S.nd.sublist (take_sublist _ _)
  refine⟨u,rv,?_⟩
  rcases S.par y (aaE hp) with k|k
  ·exact .inl ⟨k,uB Vr hp hu k⟩
  ·obtain⟨c,e⟩:=xJ (n:=s.heap.objs.size+1) k;refine .inr ⟨.inl k,c,e,?_⟩;have q:=x.cell y c e;rw[uC Vr hp hu (by show scope.names.lookup y≠_;rw[k];decide)]at q;exact q
 ·exact .inl (e0.hok.fresh (le_of_lt (x.above y c (aaT h))))
 ·unfold start;show _=N.length;rw[aaw,aaf,List.length_replicate];omega
theorem Sh{CX:xG}{P:Program}{w:World}{K:Frag}{mg:Str->Option Value}{base:Heap}{k:Nat}{f:Addr}{name qual:Str}{params:Arguments}{body:List Stmt}{scope:Scope}{dV kV doc pm cdv ct oc:Value}{an od:Option Addr}
  {osl:Array (Option Value)} {N ps:List Str} {sp:Sp} (lk:K.lookup f=some ⟨oc,od,.func (fnOf name qual params body scope dV kV doc pm an cdv ct),osl⟩) (hcd:codeIn K cdv qual=true) (S:nS N ps scope)
  (len:∀vs H Q E,sp vs H Q E->vs.length=ps.length)
  (hbody:∀(A:Around) (outer:List Env) (s:Shared) (H:Hp) (vs:List V) (Q:VK) (E:XK),dD k (A.deeper (envOfC qual scope s.heap.objs.size f cdv))->sp vs H Q E ->
   ∃t,xC (nT CX P w K mg base N qual scope f cdv A outer s H E) body t/\t { nx:=λ_ H'=>Q .non H',rt:=Q } (start N vs) H) :
  fU P w K mg base CX (k+1) f (fnOf name qual params body scope dV kV doc pm an cdv ct) ps sp:=by
 refine⟨len,λA outer s H args us vs Q E hr e0 hb r hsp=>?_⟩;have hl:=len _ _ _ _ hsp;have KX:K.In s.heap:=e0.mod.Rp.keeps λb o e=>(e0.bs b o e).1;have lim:s.heap.NoLimit:=e0.mod.nolimit.keeps λb o e=>(e0.bs b o e).1;have hkind:∀y∈ps.zip us,scope.names.lookup y.1=some .local\/(scope.names.lookup y.1=some .cell/\((cellsFrom (s.heap.objs.size+1) scope.names []).lookup y.1).isSome=true):=λ⟨n,v⟩ hy=>by
  rcases S.par n (of_mem_zip hy).1 with q|q
  ·exact .inl q
  ·exact .inr ⟨q,cellsFrom_some _ _ _ (.inl q)⟩
 refine codeAny_call_function hr.depth (KX _ _ lk) rfl S.co S.gen rfl (codeRec_of KX hcd) (hb _ _ _ _ ?_);refine wpAny_newFunctionEnv_cells S.kind hkind λenv he s1 x=>?_;subst he;refine⟨lim.keeps x.toInCall.keep,codeAny_func ?_⟩;obtain⟨t,ht,hq⟩:=hbody A outer s H vs Q E (hr.deeper _) hsp;have I:Inv (nT CX P w K mg base N qual scope f cdv A outer s H E) [] (start N vs) H s1:=uD S hr.hd e0 hl r x;refine wpAny_mono (ht [] s1 (start N vs) H _ I hq) (λfl s' hs=>?_) λe s' hs=>hs;have fin:∀{σ':St} {H':Hp} {v:V} {u:Value},Inv (nT CX P w K mg base N qual scope f cdv A outer s H E) [] σ' H' s'->RelV v u->Q v H'->CE outer P w H s Q u s' :=
  λ{σ' H' v u} J rv q=>⟨v,H',J.os,J.bare,J.base,J.hok,rv,q⟩
 cases fl with
 |ret u=>obtain⟨v,σ',H',J,rv,q⟩:=hs;exact fin J rv q
 |next=>obtain⟨σ',H',J,q⟩:=hs;exact fin (v:=V.non) (u:=Value.none) J rfl q
 |brk=>obtain⟨_,_,_,q⟩:=hs;exact False.elim q
 |cont=>obtain⟨_,_,_,q⟩:=hs;exact False.elim q
section
variable {X:Cx} {x:Str} {p pos:Pos} {e:Expr} {es:List Expr} {t:TA} {id T:String} {r:List V->Hp->VK->Prop}
def XJ(r:List V->Hp->VK->Prop)(t:TA):TE:=λσ H Q=>t σ H λvs H1=>r vs H1 Q
theorem g9(hc:cW X (.builtin id) r)(hg:Gl X x)(hm:X.mg x=none)(hv:bootBuiltins x=some (.builtin id))(ha:PA X (e::es) t)(hn:x ≠ "__name__":=by decide)(hdb:(x==("__debug__":Str))=false:=by decide)
  (he:starEach (e::es) X.env=(false,eval e X.env)::starEach es X.env:=by rfl) (hpl:(backTo pos (starEach es X.env)).any (·.1)=false:=by rfl):PE X (.Call (.Name x p) (e::es) [] pos) (XJ r t):=by
 intro pins s σ H Q I h;refine wpAny_Call_Name_kw (jN I hg hm hv ?_ hn hdb);exact PyProof.Rows.callWith_builtin1 (cK (ha pos pins s σ H _ I h) λus s1 ⟨vs,H1,I1,r1,q1⟩=>hc pins s1 σ H1 vs us Q I1 r1 q1) he hpl
theorem l5(hc:cW X (.type T) r)(hg:Gl X x)(hm:X.mg x=none)(hv:bootBuiltins x=some (.type T))(ha:PA X (e::es) t)(hn:x ≠ "__name__")(hdb:(x==("__debug__":Str))=false)
  (he:starEach (e::es) X.env=(false,eval e X.env)::starEach es X.env) (hpl:(backTo pos (starEach es X.env)).any (·.1)=false):PE X (.Call (.Name x p) (e::es) [] pos) (XJ r t):=by
 intro pins s σ H Q I h;refine wpAny_Call_Name_kw (jN I hg hm hv ?_ hn hdb);exact PyProof.Rows.callWith_type1 (cK (ha pos pins s σ H _ I h) λus s1 ⟨vs,H1,I1,r1,q1⟩=>hc pins s1 σ H1 vs us Q I1 r1 q1) he hpl
end
end L2
namespace HT
open PySem PyProof.Rows
def lexLt:List Int->List Int->Bool
 |[],[]=>false
 |[],_::_=>true
 |_::_,[]=>false
 |x::xs,y::ys=>if x=y then lexLt xs ys else decide (x<y)
theorem ie(x y:Int)(xs ys:List Int):lexLt (x::xs) (y::ys)=if x=y then lexLt xs ys else decide (x<y):=rfl
theorem tW:lexLt [] []=false:=rfl
theorem iu(y:Int)(ys:List Int):lexLt [] (y::ys)=true:=rfl
theorem fk(x:Int)(xs:List Int):lexLt (x::xs) []=false:=rfl
section
variable {prog:Program} {w:World} {A:Around} {E:Value->Shared->Prop} {s:Shared}
def eV(n d:Nat):Option Int->Nat
 |none=>d
 |some v=>if v<0 then (v+(n:Int)).toNat else min v.toNat n
theorem NI(n d:Nat)(hd:d<=n)(o:Option Int):eV n d o<=n:=by
 cases o with
 |none=>exact hd
 |some v=>
  show (if v<0 then (v+(n:Int)).toNat else min v.toNat n)<=n
  by_cases hv:v<0
  ·rw[aaj hv];omega
  ·rw[aam hv];exact Nat.min_le_right _ _
theorem BD(v:Int)(n d:Nat):(if v<0 then max (v+(n:Int)) 0 else min v (n:Int))=((eV n d (some v):Nat):Int):=by
 show (if v<0 then max (v+(n:Int)) 0 else min v (n:Int))=(((if v<0 then (v+(n:Int)).toNat else min v.toNat n):Nat):Int)
 by_cases hv:v<0
 ·simp only[if_pos hv];omega
 ·simp only[if_neg hv];omega
theorem Ak(lo hi:Option Int)(n:Nat):Builtin.Slice.sliceAdjust lo hi 1 (n:Int)=(((eV n 0 lo:Nat):Int),((eV n n hi:Nat):Int)):=by
 have h1:¬ ((1:Int)<0):=by omega
 unfold Builtin.Slice.sliceAdjust;simp only[h1,if_false];refine Prod.ext ?_ ?_
 ·cases lo with
  |none=>rfl
  |some v=>exact BD v n 0
 ·cases hi with
  |none=>rfl
  |some v=>exact BD v n n
theorem Am(i j:Nat):Builtin.Slice.slicePlaces (i:Int) (j:Int) 1=j-i:=by
 unfold Builtin.Slice.slicePlaces;have h1:(1:Int)>0:=by omega
 simp only[h1,if_true,Int.ediv_one]
 split<;>omega
theorem rH{o:Option Int}(p:IsPart v o)(h:Q o s):wpAny (model prog w) A (Builtin.Slice.slicePartIndex v) Q E s:=by
 cases p with
 |none=>exact slicePart_none h
 |int i t=>exact slicePart_int h
theorem oW{lo hi:Option Int}{n:Nat}(hs:s.heap.IsSliceOf sl vl vu .none)(pl:IsPart vl lo)(pu:IsPart vu hi)
  (h:Q (((eV n 0 lo:Nat):Int),1,eV n n hi-eV n 0 lo) s):wpAny (model prog w) A (Builtin.Slice.sliceApplied (.ref sl) (pure (n:Int))) Q E s:=by
 obtain⟨os,hos,hcs,hds⟩:=id hs;unfold Builtin.Slice.sliceApplied Builtin.Slice.sliceFields;refine aab (aab (wpAny_field hos hds (x:=vl) rfl (aab (wpAny_field hos hds (x:=vu) rfl (aab (wpAny_field hos hds (x:=.none) rfl (aai ?_)))))));refine aab (slicePart_none ?_);show wpAny _ _ (if ((1:Int)==0)=true then _ else _) _ _ s;rw[aam (by decide)];refine aab (rH pl (aab (rH pu (aab (aai ?_)))));show wpAny _ _ (match Builtin.Slice.sliceAdjust lo hi 1 (n:Int) with|(lo,hi)=>pure (lo,(1:Int),Builtin.Slice.slicePlaces lo hi 1)) _ _ s;rw[Ak lo hi n];show wpAny _ _ (pure (((eV n 0 lo:Nat):Int),(1:Int),Builtin.Slice.slicePlaces ((eV n 0 lo:Nat):Int) ((eV n n hi:Nat):Int) 1)) _ _ s;rw[Am];exact aai h
theorem EY(xs:Array Value)(i k:Nat):((List.range k).filterMap λ(m:Nat)=>xs[((i:Int)+(m:Int)*1).toNat]?).toArray=((xs.toList.drop i).take k).toArray:=by
 have e:(λ(m:Nat)=>xs[((i:Int)+(m:Int)*1).toNat]?)=λm=>xs[i+m]?:=by
  funext m;have:((i:Int)+(m:Int)*1).toNat=i+m:=by omega
  rw[this]
 rw[e];have:=pick_run xs i k;rw[List.filterMap_map]at this;have e2:((λx=>xs[x]?)∘λx=>i+x)=λm=>xs[i+m]?:=rfl;rw[e2]at this;rw[this]
theorem nU{lo hi:Option Int}(ht:IsTup s.heap t items)(hs:s.heap.IsSliceOf sl vl vu .none)(pl:IsPart vl lo)(pu:IsPart vu hi)
  (hw:¬ (eV items.size 0 lo=0/\eV items.size items.size hi=items.size))
  (h:Q (.ref s.heap.objs.size) { s with heap:=s.heap.push { cls:=.type "tuple",data:=.seq ((items.toList.drop (eV items.size 0 lo)).take (eV items.size items.size hi-eV items.size 0 lo)).toArray } })
  (hsz:items.size<=sizeLine):wpAny (model prog w) A (getItem (.ref t) (.ref sl)) Q E s:=by
 have BE:sizeOk (.seq ((items.toList.drop (eV items.size 0 lo)).take (eV items.size items.size hi-eV items.size 0 lo)).toArray):=by show ((items.toList.drop (eV items.size 0 lo)).take (eV items.size items.size hi-eV items.size 0 lo)).toArray.size<=sizeLine;rw[aax,length_take,length_drop,aaK];omega
 have hj:eV items.size items.size hi<=items.size:=NI _ _ (aao _) hi;obtain⟨os,hos,hcs,hds⟩:=id hs;have Wg:s.TypeIs (.ref sl) "slice":=⟨os,hos,hcs⟩;unfold getItem
 try with_reducible refine wpAny_holding ?_
 first|refine aab (aai ?_)|skip
 refine aab (wpAny_sequenceKey ht.typeIs (by decide) ?_);refine aab (wpAny_callSpecial?_slot (name:=Str.ofString "__getitem__") ht.typeIs PyProof.Rows.slot_tuple_getitem
  (wpAny_call_entry PyProof.Rows.slot_tuple_getitem ht.typeIs entry_tuple_getitem ?_ (args_tuple_getitem _ _)))
 show wpAny _ _ (Builtin.Tuple.tupleItemsOf (.ref t) >>= _) _ _ s;refine aab (tupleItemsOf_ ht ?_);refine aab (wpAny_typeOf Wg ?_);rw[aaj (by decide)];refine aab (oW hs pl pu ?_);have hno:¬ ((((eV items.size 0 lo:Nat):Int)==0&&(1:Int)==1&&(eV items.size items.size hi-eV items.size 0 lo)==items.size)=true):=by intro q;rw[and_eq_true,and_eq_true]at q;have q1:((eV items.size 0 lo:Nat):Int)=0:=eq_of_beq q.1.1;have q2:eV items.size items.size hi-eV items.size 0 lo=items.size:=eq_of_beq q.2;exact hw ⟨by omega,by omega⟩
 show wpAny _ _ (if (((eV items.size 0 lo:Nat):Int)==0&&(1:Int)==1&&(eV items.size items.size hi-eV items.size 0 lo)==items.size)=true then _ else _) _ _ s;rw[aam hno,EY]
 first
  |exact aab (m:=Builtin.Tuple.tupleExact _) (aaM (aai ⟨_,rfl,aai h⟩) BE)
  |exact aab (m:=Builtin.Tuple.tupleExact _) (aaM (aab (aai (aai ⟨_,rfl,aai h⟩))) BE)
  |exact aab (aab (m:=Builtin.Tuple.tupleExact _) (aaM (aai (aai ⟨_,rfl,aai h⟩)) BE))
  |exact aab (aab (m:=Builtin.Tuple.tupleExact _) (aaM (aai ⟨_,rfl,aai h⟩) BE))
end
end HT
namespace L2
open PySem PySem.Spec PyProof.Rows
abbrev TO:=St->Hp->(Option Int->Hp->Prop)->Prop
def PO(X:Cx)(e:Option Expr)(t:TO):Prop :=
 ∀(pins:List (Addr×Obj)) (s:Shared) (σ:St) (H:Hp) (Q:Option Int->Hp->Prop),Inv X pins σ H s->t σ H Q ->
  wpAny (model X.prog X.w) X.A (evalPart e X.env) (λu s'=>∃o H',Inv X pins σ H' s'/\IsPart u o/\Q o H') X.xe s
def J4:TO:=λ_ H Q=>Q none H
def Si(t:TE):TO:=λσ H Q=>t σ H λx H1=>∃i,x=.int i/\Q (some i) H1
theorem intsAre_of{ns:List Int}:∀{us:List Value},Vals (ns.map V.int) us->IntsAre us ns:=by
 induction ns with
 |nil=>intro us r;rw[map_nil]at r;cases r;exact .nil
 |cons n ns ih=>
  intro us r;rw[aap]at r;cases r with
  |cons r1 r2=>obtain⟨t,e⟩:=r1;subst e;exact .cons n t (ih r2)
section
variable {X:Cx} {e:Expr} {te:TE} {lo hi:Option Expr} {tl th:TO} {pos p2:Pos}
theorem J5:PO X none J4:=by
 intro pins s σ H Q I h;rw[evalPart_none];exact aai ⟨none,H,I,.none,h⟩
theorem J6(h:PE X e te):PO X (some e) (Si te):=by
 intro pins s σ H Q I hw;rw[evalPart_some];refine cK (h pins s σ H _ I hw) λu s1 aT=>?_;obtain⟨x,H1,I1,r1,q1⟩:=aT;obtain⟨i,rfl,q⟩:=q1;obtain⟨t,rfl⟩:=r1;exact⟨some i,H1,I1,.int i t,q⟩
def Vs(X:Cx)(r:V->Option Int->Option Int->Hp->VK->Prop):Prop :=
 ∀(pins:List (Addr×Obj)) (s:Shared) (σ:St) (H:Hp) (x:V) (v vl vu:Value) (lo hi:Option Int) (sl:Addr) (Q:VK),Inv X pins σ H s->RelV x v->s.heap.IsSliceOf sl vl vu .none->IsPart vl lo->IsPart vu hi->r x lo hi H Q ->
  ∃T id,typeLookup (.type T) "__getitem__" = pure (some (.builtin id))/\s.TypeIs v T/\wpAny (model X.prog X.w) X.A (getItem v (.ref sl)) (EP X pins σ Q) X.xe s
def ZK(r:V->Option Int->Option Int->Hp->VK->Prop)(te:TE)(tl th:TO):TE:=λσ H Q=>te σ H λx H1=>tl σ H1 λl H2=>th σ H2 λu H3=>r x l u H3 Q
theorem EZ(hr:Vs X r)(he:PE X e te)(hl:PO X lo tl)(hu:PO X hi th):PE X (.Subscript e (.Slice lo hi none p2) pos) (ZK r te tl th):=by
 intro pins s σ H Q I h;refine Subscript_ (cK (he pins s σ H _ I h) λv s1 aT=>?_);obtain⟨x,H1,I1,r1,q1⟩:=aT;refine wpAny_Slice (cK (hl pins s1 σ H1 _ I1 q1) λvl s2 ⟨l,H2,I2,pl,q2⟩=>cK (hu pins s2 σ H2 _ I2 q2) λvu s3 aT=>?_);obtain⟨u,H3,I3,pu,q3⟩:=aT;rw[evalPart_none];refine aai ?_;have I4:Inv X pins σ H3 { s3 with heap:=s3.heap.push { cls:=.type "slice",data:=.fields [vl,vu,.none].toArray } }:=I3.kept (t':=s3.toks) λb ob q=>aae _ q;obtain⟨T,id,hT,ht,hg⟩:=hr pins { s3 with heap:=s3.heap.push { cls:=.type "slice",data:=.fields [vl,vu,.none].toArray } } σ H3 x v vl vu l u s3.heap.objs.size Q I4 r1 (Heap.IsSliceOf.new ..) pl pu q3;show wpAny (model X.prog X.w) X.A (subscriptTail e (.Slice lo hi none p2) v (.ref s3.heap.objs.size)) (EP X pins σ Q) X.xe { s3 with heap:=s3.heap.push { cls:=.type "slice",data:=.fields [vl,vu,.none].toArray } };exact tail_any (ops:=[.ref s3.heap.objs.size,v]) ht hT hg (by with_unfolding_all rfl)
def xK(xs:List V)(lo hi:Option Int):List V:=(xs.drop (HT.eV xs.length 0 lo)).take (HT.eV xs.length xs.length hi-HT.eV xs.length 0 lo)
theorem pX(xs:List V)(lo hi:Option Int):(xK xs lo hi).length<=xs.length:=by
 unfold xK;rw[length_take,length_drop];omega
def Wh(K:Frag):V->Option Int->Option Int->Hp->VK->Prop:=λx lo hi H Q=>∃a xs,x=.ref a/\kO K H a xs /\
 ¬ (HT.eV xs.length 0 lo=0/\HT.eV xs.length xs.length hi=xs.length)/\∀p,H p=none->Q (.ref p) (upd H p (.tup (xK xs lo hi)))
theorem NJ:Vs X (Wh X.K):=by
 intro pins s σ H x v vl vu lo hi sl Q I rx hs pl pu h;obtain⟨a,xs,rfl,hx,hw,q⟩:=h;cases rx;obtain⟨its,r,ht,hz⟩:=I.tuple hx;have hlen:its.toArray.size=xs.length:=by rw[aax];exact r.length.symm
 refine⟨"tuple",_,PyProof.Rows.slot_tuple_getitem.lookup,ht.typeIs,?_⟩;refine HT.nU ht hs pl pu (by rw[hlen];exact hw) ?_ (by rw[hlen];exact hz);rw[hlen];refine⟨.ref s.heap.objs.size,_,I.laid (t':=s.toks) (o:=.tup (xK xs lo hi)) (λb ob q=>aae _ q) (aao _) ?_,rfl,q _ (I.hok.fresh (aao _))⟩;exact⟨aaH (pX xs lo hi) hz,_,(r.drop (HT.eV xs.length 0 lo)).take (HT.eV xs.length xs.length hi-HT.eV xs.length 0 lo),IsTup.new _ _⟩
end
def Mv(n:Nat)(i:Int):Option Nat:=if 0<=i then (if i<n then some i.toNat else none) else if -(n:Int)<=i then some (i+n).toNat else none
def kP{α:Type}(xs:List α)(i:Int):Option α:=(Mv xs.length i).bind λj=>xs[j]?
theorem J7{n:Nat}{i:Int}{j:Nat}(h:Mv n i=some j):seqIndex? i n=some j/\j<n /\ -(n:Int)<=i/\i<n:=by
 unfold Mv at h
 by_cases h0:0<=i
 ·rw[aaj h0]at h
  by_cases h1:i<n
  ·rw[aaj h1]at h;have e:i.toNat=j:=aaG h;exact⟨by rw[seqIndex_of h0 h1,e],by omega,by omega,h1⟩
  ·rw[aam h1]at h;cases h
 ·rw[aam h0]at h
  by_cases h1:-(n:Int)<=i
  ·rw[aaj h1]at h;have e:(i+n).toNat=j:=aaG h;exact⟨by rw[seqIndex_neg (by omega) h1,e],by omega,h1,by omega⟩
  ·rw[aam h1]at h;cases h
theorem BF{α:Type}{xs:List α}{i:Int}{v:α}(h:kP xs i=some v):∃j,seqIndex? i xs.length=some j/\xs[j]?=some v/\j<xs.length /\ -(xs.length:Int)<=i/\i<xs.length:=by
 unfold kP at h;cases e:Mv xs.length i with
 |none=>rw[e]at h;cases h
 |some j=>rw[e]at h;obtain⟨h1,h2,h3,h4⟩:=J7 e;exact⟨j,h1,h,h2,h3,h4⟩
theorem ja{α:Type}{xs:List α}{j:Nat}{v:α}(h:xs[j]?=some v):kP xs (j:Int)=some v:=by
 have hj:j<xs.length:=(aag.mp h).1;have e:Mv xs.length (j:Int)=some j:=by unfold Mv;rw[aaj (by omega),aaj (by omega)];simp
 unfold kP;rw[e];exact h
def BG(b:Expr):Prop:=∀o i,subscripted b false o i=operate [o,i] (getItem o i)
def Sj(X:Cx)(r:R2):Prop :=
 ∀(value slice:Expr) (pins:List (Addr×Obj)) (s:Shared) (σ:St) (H:Hp) (x y:V) (v u:Value) (Q:VK),Inv X pins σ H s->RelV x v->RelV y u->r x y H Q ->
  subscripted slice false v u=operate [v,u] (getItem v u)->wpAny (model X.prog X.w) X.A (subscriptTail value slice v u) (EP X pins σ Q) X.xe s
def Rw(X:Cx)(id:String)(r:V->List V->Hp->VK->Prop):Prop :=
 ∀(pins:List (Addr×Obj)) (s:Shared) (σ:St) (H:Hp) (x:V) (xs:List V) (v:Value) (us:List Value) (Q:VK),Inv X pins σ H s->RelV x v->Vals xs us->r x xs H Q ->
  wpAny (model X.prog X.w) X.A (call (.builtin id) (v::us)) (EP X pins σ Q) X.xe s
section
variable {X:Cx} {a b:Expr} {ta tb:TE} {pos:Pos}
theorem Sk(hr:Sj X r)(ha:PE X a ta)(hb:PE X b tb)(hs:BG b):PE X (.Subscript a b pos) (Vp r ta tb):=by
 intro pins s σ H Q I h;exact Subscript_ (Np ha hb I h λv u s2 x y H2 I2 rx ry q=>hr a b pins s2 σ H2 x y v u Q I2 rx ry q (hs _ _))
def Wi(K:Frag):R2:=λx y H Q=>∃p xs i v,x=.ref p/\y=.int i/\gR K H p xs/\kP xs i=some v/\Q v H
def Wj(K:Frag):R2:=λx y H Q=>∃p xs i v,x=.ref p/\y=.int i/\kO K H p xs/\kP xs i=some v/\Q v H
theorem BH:Sj X (Wi X.K):=by
 intro value slice pins s σ H x y v u Q I rx ry h hs;obtain⟨p,xs,i,z,rfl,rfl,hq,he,q⟩:=h;cases rx;obtain⟨t,rfl⟩:=ry;obtain⟨its,r,pl,hz⟩:=I.list hq;obtain⟨j,h1,h2,h3,h4,h5⟩:=BF he;obtain⟨w,ew,rw'⟩:=r.get h2;have hl:=r.length;have hn:=vO;have fin:EP X pins σ Q w s:=⟨z,H,I,rw',q⟩
 by_cases h0:0<=i
 ·have hj:i.toNat=j:=by
   rw[seqIndex_of h0 h5]at h1;exact aaG h1
  exact item_listR pl.isList h0 (by omega) (by rw[hj];simpa using ew) fin hs
 ·have hj:(i+(its.toArray.size:Int)).toNat=j:=by
   rw[seqIndex_neg (by omega) h4]at h1;rw[aax,<-hl];exact aaG h1
  exact subscriptTail_builtinR (x:=w) pl.isList.typeIs slot_list_getitem.lookup
   (wpAny_getItem_list_neg (Q:=λr s'=>r=w/\EP X pins σ Q r s') pl.isList (by omega) (by rw[aax]<;>omega) (by omega) (by rw[hj];simpa using ew) ⟨rfl,fin⟩) hs
theorem NK:Sj X (Wj X.K):=by
 intro value slice pins s σ H x y v u Q I rx ry h hs;obtain⟨p,xs,i,z,rfl,rfl,hq,he,q⟩:=h;cases rx;obtain⟨t,rfl⟩:=ry;obtain⟨its,r,pl,hz⟩:=I.tuple hq;obtain⟨j,h1,h2,h3,h4,h5⟩:=BF he;obtain⟨w,ew,rw'⟩:=r.get h2;have hl:=r.length;have hn:=vO;have fin:EP X pins σ Q w s:=⟨z,H,I,rw',q⟩;exact subscriptTail_builtinR (x:=w) pl.typeIs slot_tuple_getitem.lookup
  (getItem_tuple (j:=j) (Q:=λr s'=>r=w/\EP X pins σ Q r s') pl (by omega) (by omega) (by rw[aax,<-hl];exact h1) (by simpa using ew) ⟨rfl,fin⟩) hs
theorem vU(lo hi:Option Int)(n:Nat):(sliceBounds lo hi none n).1=((HT.eV n 0 lo:Nat):Int)/\(sliceBounds lo hi none n).2.1=((HT.eV n n hi:Nat):Int)/\(sliceBounds lo hi none n).2.2=1:=by
 refine⟨?_,?_,rfl⟩
 ·cases lo with
  |none=>simp[sliceBounds,HT.eV]
  |some i=>
   simp only[sliceBounds,HT.eV,getD_none,show (1:Int)>0 by decide,if_true]
   by_cases h:i<0
   ·simp only[h,if_true]<;>omega
   ·simp only[h,if_false]<;>omega
 ·cases hi with
  |none=>simp[sliceBounds,HT.eV]
  |some i=>
   simp only[sliceBounds,HT.eV,getD_none,show (1:Int)>0 by decide,if_true]
   by_cases h:i<0
   ·simp only[h,if_true]<;>omega
   ·simp only[h,if_false]<;>omega
theorem tX(its:List Value)(lo hi:Option Int):slicePick its.toArray lo hi none=((its.drop (HT.eV its.length 0 lo)).take (HT.eV its.length its.length hi-HT.eV its.length 0 lo)).toArray:=by
 obtain⟨h1,h2,h3⟩:=vU lo hi its.toArray.size;unfold slicePick;rw[h1,h2,h3];simp only[sliceRange_one,pick_run,size_toArray]<;>rfl
def Wk(K:Frag):V->Option Int->Option Int->Hp->VK->Prop:=λx lo hi H Q=>∃a xs,x=.ref a/\gR K H a xs/\∀p,H p=none->Q (.ref p) (upd H p (.lst (xK xs lo hi)))
theorem J8:Vs X (Wk X.K):=by
 intro pins s σ H x v vl vu lo hi sl Q I rx hs pl pu h;obtain⟨a,xs,rfl,hx,q⟩:=h;cases rx;obtain⟨its,r,ht,hz⟩:=I.list hx;have hlen:=r.length;refine⟨"list",_,slot_list_getitem.lookup,ht.isList.typeIs,?_⟩;refine wpAny_getItem_list_slice ht.isList hs pl pu .none (by simp) ?_ (by rw[aax]<;>omega);rw[tX,<-hlen];refine⟨.ref s.heap.objs.size,_,I.laid (t':=s.toks) (o:=.lst (xK xs lo hi)) (λb ob q=>aae _ q) (aao _) ?_,rfl,q _ (I.hok.fresh (aao _))⟩;exact⟨aaH (pX xs lo hi) hz,_,0,(r.drop (HT.eV xs.length 0 lo)).take (HT.eV xs.length xs.length hi-HT.eV xs.length 0 lo),aav _ rfl⟩
theorem vV:cW X (.type "list") (λxs H Q=>∃p ys,xs=[.ref p]/\(gR X.K H p ys\/kO X.K H p ys)/\∀l,H l=none->Q (.ref l) (upd H l (.lst ys))):=by
 intro pins s σ H xs us Q I r h;obtain⟨p,ys,rfl,hq,q⟩:=h;obtain⟨u,rfl,rx⟩:=vals1 r;cases rx;have fin:∀(its:List Value),Vals ys its->ys.length<=sizeLine->∀(h':Heap) (c':Nat),(∀b o',s.heap.get? b=some o'->h'.get? b=some o') ->
   h'.get? s.heap.objs.size=some { cls:=.type "list",dict:=none,data:=.seq its.toArray c',slots:=#[] }->EP X pins σ Q (.ref s.heap.objs.size) { s with heap:=h' }:=λits r' hz h' c' kp e=>
  ⟨.ref s.heap.objs.size,_,I.laid (t':=s.toks) kp (aao _) (show cB X.prog X.w _ h' _ (.lst ys) from⟨hz,its,c',r',e⟩),rfl,q _ (I.hok.fresh (aao _))⟩
 rcases hq with hq|hq
 ·obtain⟨its,r',pl,hz⟩:=I.list hq;have hlen:=r'.length;obtain⟨o,ho,hc,n,hd⟩:=pl.isList;exact call_list_seq p (.inl rfl) ho hc hd (λh' c' kp e=>fin its r' hz h' c' kp e) (by simp only[size_toArray]<;>omega)
 ·obtain⟨its,r',pl,hz⟩:=I.tuple hq;have hlen:=r'.length;obtain⟨o,ho,hc,n,hd⟩:=pl;exact call_list_seq p (.inr rfl) ho hc hd (λh' c' kp e=>fin its r' hz h' c' kp e) (by simp only[size_toArray]<;>omega)
def Wl(K:Frag)(T:String)(x:V)(H:Hp):Prop:=match x with
 |.str _=>T = "str"
 |.int _=>T = "int"
 | .ref p=>(T = "list" /\ ∃xs,gR K H p xs)\/(T = "tuple" /\ ∃o,K.lookup p=some o/\o.cls=.type "tuple" /\ o.dict=none) \/
   (T = "dict" /\ ((∃kvs,H p=some (.dK kvs))\/∃kvs,H p=some (.dT kvs)))\/(T = "set" /\ ∃S n,H p=some (.set S n))
 |_=>False
theorem NL{T:String}(I:Inv X pins σ H s)(r:RelV x v)(ty:Wl X.K T x H) :
  s.TypeIs v T/\∀a,v=.ref a->∃ob,s.heap.get? a=some ob/\ob.dict=none:=by
 cases x with
 |str z=>obtain⟨t,rfl⟩:=r;cases (show T = "str" from ty);exact⟨typeIs_str s z t,λ_ e=>nomatch e⟩
 |int i=>obtain⟨t,rfl⟩:=r;cases (show T = "int" from ty);exact⟨typeIs_int s i t,λ_ e=>nomatch e⟩
 |ref p=>
  cases r
  rcases ty with ⟨rfl,xs,hq⟩|⟨rfl,o,hk,hc,hd⟩|⟨rfl,hk⟩|⟨rfl,S,n,hk⟩
  ·obtain⟨its,_,pl,_⟩:=I.list hq;refine⟨pl.isList.typeIs,λa e=>?_⟩;cases e;obtain⟨o,n,e,c,hd,_⟩:=pl;exact⟨o,e,hd⟩
  ·refine⟨⟨o,I.qz p o hk,hc⟩,λa e=>?_⟩;cases e;exact⟨o,I.qz _ o hk,hd⟩
  ·have z:∃o,s.heap.get? p=some o/\o.ExactDict:=by
    rcases hk with ⟨kvs,hk⟩|⟨kvs,hk⟩
    ·obtain⟨_,_,_,_,o,_,_,e,ex,_⟩:=I.hok p _ hk;exact⟨o,e,ex⟩
    ·obtain⟨_,_,_,_,o,_,_,e,ex,_⟩:=I.hok p _ hk;exact⟨o,e,ex⟩
   obtain⟨o,e,ex⟩:=z;refine⟨⟨o,e,ex.1⟩,λa e2=>?_⟩;cases e2;exact⟨o,e,ex.2.1⟩
  ·obtain⟨o,_,_,_,e,ex,_⟩:=I.hok p _ hk;refine⟨⟨o,e,ex.1⟩,λa e2=>?_⟩;cases e2;exact⟨o,e,ex.2.1⟩
 |_=>exact False.elim ty
def XM(K:Frag)(T:String)(r:V->List V->Hp->VK->Prop)(to:TE)(t:TA):TE:=λσ H Q=>to σ H λx H1=>Wl K T x H1/\t σ H1 λxs H2=>r x xs H2 Q
variable {o e:Expr} {es:List Expr} {to:TE} {t:TA} {name:Str} {apos cpos:Pos} {T id:String} {r:V->List V->Hp->VK->Prop}
theorem BI(pa:PlainAttrs T)(slot:Slot T name id)(hty:typeOf (.builtin id)=pure (.type "method_descriptor"))(hm:Rw X id r)(ho:PE X o to)(ha:PA X (e::es) t)
  (hbase:attributeBase o name X.env (eval o X.env)=eval o X.env)
  (hfew:((backTo cpos (starEach (e::es) X.env)).all (λx=>!x.1)&&(backToKw cpos (keywordEach [] X.env)).all (λx=>x.1.isSome)
   && decide ((e::es).length+([]:List Keyword).length+(if ([]:List Keyword).isEmpty then 0 else 1)<30))=true)
  (hline:(apos.endLine==cpos.line)=true) (hs:starEach (e::es) X.env=(false,eval e X.env)::starEach es X.env) (hplain:(backTo cpos (starEach es X.env)).any (·.1)=false) :
  PE X (.Call (.Attribute o name apos) (e::es) [] cpos) (XM X.K T r to t):=by
 intro pins s σ H Q I h;refine wpAny_Call_method_late hbase hfew hline rfl (cK (ho pins s σ H _ I h) λv s1 aT=>?_);obtain⟨x,H1,I1,r1,ty,q1⟩:=aT;obtain⟨h1,h2⟩:=NL I1 r1 ty;refine⟨T,id,pa,slot,hty,h1,h2,?_⟩;have hA:=ha cpos pins s1 σ H1 _ I1 q1;rw[hs]at hA |-;refine Calls.callWith_builtin (by show (false||(backTo cpos (starEach es X.env)).any (·.1))=false;rw[hplain]<;>rfl) (Calls.evalArgs_plain ?_);exact cK hA λus s2 ⟨vs,H2,I2,r2,q2⟩=>hm pins s2 σ H2 x vs v us Q I2 r1 r2 q2
/- xs.append(e),list.index on a Sl tuple .. are Rw facts of 06m -/
end
def Wm(X:Cx)(id:String)(r:V->List V->Hp->VK->Prop):Prop :=
 ∀(pins:List (Addr×Obj)) (s:Shared) (σ:St) (H:Hp) (x:V) (xs:List V) (v:Value) (us:List Value) (Q:VK),Inv X pins σ H s->RelV x v->Vals xs us->r x xs H Q ->
  wpAny (model X.prog X.w) X.A (call (.builtin id) (v::us)) (EP X pins σ Q) X.xe s
theorem Vals.one:∀{x:V} {us:List Value},Vals [x] us->∃u,us=[u]/\RelV x u
 |_,_,.cons r .nil=>⟨_,rfl,r⟩
theorem Vals.eraseIdx:∀{xs:List V} {us:List Value} (i:Nat),Vals xs us->Vals (xs.eraseIdx i) (us.eraseIdx i)
 |_,_,_,.nil=>.nil
 |_,_,0,.cons _ t=>t
 |_,_,i+1,.cons r t=>.cons r (Vals.eraseIdx i t)
theorem uE{α:Type}:∀(l:List α) (i:Nat),(l.eraseIdx i).length<=l.length
 |[],_=>aao _
 |_::_,0=>le_succ _
 |_::r,i+1=>Nat.succ_le_succ (uE r i)
section
variable {X:Cx} {pins:List (Addr×Obj)} {σ:St} {H:Hp} {s:Shared} {l b:Addr} {xs ys zs:List V}
theorem Inv.NN{its its':List Value}{n:Nat}{f:Array Value->Array Value}{t':Nat}(I:Inv X pins σ H s)(hH:H l=some (.lst xs))
  (e:s.heap.get? l=some { cls:=.type "list",data:=.seq its.toArray n }) (hf:f its.toArray=its'.toArray) (hv:Vals ys its') (hz:ys.length<=sizeLine) :
  Inv X pins σ (upd H l (.lst ys)) { s with heap:=s.heap.update l (Obj.mapSeq f),toks:=t' }:=by
 have q:=PySem.IsL.update e f;rw[hf]at q;refine I.write (x:=l) (e:=l) (by rw[hH];exact trivial) (.inl rfl) (λb' u hb hu=>(Heap.get?_update_other s.heap (Obj.mapSeq f) (Ne.symm hb)).trans hu) ⟨_,q⟩ ?_;exact⟨hz,its',_,hv,q⟩
theorem Inv.Wn{t':Nat}(I:Inv X pins σ H s)(hv:Vals ys its)(hz:ys.length<=sizeLine) :
  Inv X pins σ (upd H s.heap.objs.size (.lst ys)) { s with heap:=s.heap.push { cls:=.type "list",data:=.seq its.toArray },toks:=t' } :=
 I.laid (λ_ _ q=>aae _ q) (aao _) ⟨hz,its,0,hv,aav _ rfl⟩
theorem Inv.NO(I:Inv X pins σ H s)(hH:H l=some (.lst xs)):xs.length<=sizeLine/\∃(its:List Value) (n:Nat),Vals xs its/\xs.length=its.length/\s.heap.get? l=some { cls:=.type "list",data:=.seq its.toArray n }:=by
 obtain⟨z,its,n,r,e⟩:=I.hok l _ hH;exact⟨z,its,n,r,r.length,e⟩
theorem E1{n:Nat}(h:n<=sizeLine):Builtin.List.listTooLong n=false:=by
 unfold Builtin.List.listTooLong;exact decide_eq_false (by omega)
end
section
variable {X:Cx}
def J9:V->List V->Hp->VK->Prop:=λx vs H Q=>∃l xs y,x=.ref l/\vs=[y]/\H l=some (.lst xs)/\xs.length<sizeLine/\Q .non (upd H l (.lst (xs++[y])))
theorem uF:Wm X "list.append" J9:=by
 intro pins s σ H x vs v us Q I rx rv h;obtain⟨l,xs,y,rfl,rfl,hH,hz,q⟩:=h;cases rx;obtain⟨u,rfl,ru⟩:=rv.one;obtain⟨z,its,n,r,hl,e⟩:=I.NO hH;refine call_meets F.slot_list_append ⟨_,e,rfl⟩ F.entry_list_append (F.args_list_append_2 _ _) (PySem.list_append l its.toArray n u (by rw[aax];omega)) ⟨e,?_⟩;refine⟨.non,_,I.NN (its':=its++[u]) hH e (by simp) (r.append #[ru]) ?_,rfl,q⟩;rw[aaw,length_singleton];omega
def NP:V->List V->Hp->VK->Prop:=λx vs H Q=>∃l xs i k y,x=.ref l/\vs=[.int i]/\H l=some (.lst xs) /\ -(2 ^ 63)<=i/\i<2 ^ 63/\seqIndex? i xs.length=some k/\xs[k]?=some y/\Q y (upd H l (.lst (xs.eraseIdx k)))
theorem E2:Wm X "list.pop" NP:=by
 intro pins s σ H x vs v us Q I rx rv h;obtain⟨l,xs,i,k,y,rfl,rfl,hH,h1,h2,hk,hy,q⟩:=h;cases rx;obtain⟨u,rfl,ru⟩:=rv.one;obtain⟨t,rfl⟩:=ru;obtain⟨z,its,n,r,hl,e⟩:=I.NO hH;obtain⟨w,hw,rw'⟩:=r.get hy;refine call_meets F.slot_list_pop ⟨_,e,rfl⟩ F.entry_list_pop (F.args_list_pop_2 _ _)
  (MeetsSeq.list_pop_at l its.toArray n i t k w (fitsIndex_both h1 h2) (by rw[aax,<-hl];exact hk) (by rw[<-getElem?_toList];exact hw) (by rw[aax];omega)) ⟨e,?_⟩
 refine⟨y,_,I.NN (its':=its.eraseIdx k) hH e ?_ (r.eraseIdx k) ?_,rw',q⟩
 ·show its.toArray.eraseIdxIfInBounds k=(its.eraseIdx k).toArray;rw[List.eraseIdxIfInBounds_toArray]
 ·have:=uE xs k;omega
end
section
variable {κ:Type} [DecidableEq κ]
def jS(kvs:List (κ × V))(k:κ):Option V:=(kvs.find? λkv=>decide (kv.1=k)).map (·.2)
def putK(kvs:List (κ × V))(k:κ)(v:V):List (κ × V) :=
 if (kvs.any λkv=>decide (kv.1=k))=true then kvs.map (λkv=>if kv.1=k then (kv.1,v) else kv) else kvs++[(k,v)]
theorem rJ{p:κ × V}{r:List (κ × V)}{k:κ}(e:p.1=k):jS (p::r) k=some p.2:=by simp[jS,find?_cons,e]
theorem rK{p:κ × V}{r:List (κ × V)}{k:κ}(e:¬ p.1=k):jS (p::r) k=jS r k:=by simp[jS,find?_cons,e]
theorem xM(k:κ):∀kvs:List (κ × V),(kvs.any λkv=>decide (kv.1=k))=(jS kvs k).isSome
 |[]=>rfl
 | p::r=>by
  rw[any_cons]
  by_cases e:p.1=k
  ·simp only[rJ e,decide_eq_true e,Bool.true_or,Option.isSome_some]
  ·rw[rK e,decide_eq_false e,Bool.false_or];exact xM k r
theorem kT(kvs:List (κ × V))(k:κ)(v:V):(putK kvs k v).length<=kvs.length+1:=by
 unfold putK
 split
 ·rw[aaf];omega
 ·rw[aaw,aaF,length_nil];omega
theorem kE.C8(r:kE o u):o.isSome=u.isSome:=by
 cases o with
 | none=>cases u with
  |none=>rfl
  |some _=>exact(show False from r).elim
 | some _=>cases u with
  |none=>exact(show False from r).elim
  |some _=>rfl
theorem kE.getD(r:kE o u)(rd:RelV d d'):RelV (o.getD d) (u.getD d'):=by
 cases o with
 | none=>cases u with
  |none=>exact rd
  |some _=>exact(show False from r).elim
 | some _=>cases u with
  |none=>exact(show False from r).elim
  |some _=>exact r
theorem KV.val(r:KV kvs vs)(k:κ):kE (jS kvs k) (valueAt vs k):=by
 unfold KV at r
 induction r with
 |nil=>exact True.intro
 |@cons p q ps qs h t ih=>
  obtain⟨h1,h2⟩:=h
  by_cases e:p.1=k
  ·have e':q.1=k:=h1.symm.trans e
   have b:valueAt (q::qs) k=some q.2:=by simp[valueAt,find?_cons,e']
   rw[rJ e,b];exact h2
  ·have e':¬ q.1=k:=λz=>e (h1.trans z)
   have b:valueAt (q::qs) k=valueAt qs k:=by simp[valueAt,find?_cons,e']
   rw[rK e,b];exact ih
theorem KV.any(r:KV kvs vs)(k:κ):(kvs.any λkv=>decide (kv.1=k))=vs.any λkv=>decide (kv.1=k):=by
 unfold KV at r
 induction r with
 |nil=>rfl
 |cons h t ih=>rw[any_cons,any_cons,ih,h.1]
theorem KV.repl(r:KV kvs vs)(k:κ)(ry:RelV y u) :
  KV (kvs.map λkv=>if kv.1=k then (kv.1,y) else kv) (vs.map λkv=>if kv.1=k then (kv.1,u) else kv):=by
 unfold KV at r |-
 induction r with
 |nil=>exact .nil
 |@cons p q ps qs h t ih=>
  rw[aap,aap];refine .cons ?_ ih;obtain⟨h1,h2⟩:=h
  by_cases e:p.1=k
  ·rw[aaj e,aaj (h1.symm.trans e)];exact⟨h1,ry⟩
  ·rw[aam e,aam (λz=>e (h1.trans z))];exact⟨h1,h2⟩
theorem KV.put(r:KV kvs vs)(k:κ)(ry:RelV y u):KV (putK kvs k y) (stored vs k u):=by
 unfold putK stored;rw[r.any k]
 by_cases e:(vs.any λkv=>decide (kv.1=k))=true
 ·rw[aaj e,aaj e];exact r.repl k ry
 ·rw[aam e,aam e];exact Paired.snoc r ⟨rfl,ry⟩
theorem KV.length(r:KV kvs vs):kvs.length=vs.length:=Paired.length r
end
theorem xN(r:RelV (kV k) u):(bJ P w).is k u=true:=by
 cases k with
 |inl i=>obtain⟨t,e⟩:=(show ∃t,u=Value.int i t from r);subst e;exact xy P w i t
 |inr x=>obtain⟨t,e⟩:=(show ∃t,u=Value.str x t from r);subst e;exact xA P w x t
theorem uG:∀{ks:List Key} {us:List Value},Vals (ks.map kV) us->ItemsAre (bJ P w) ks us
 |[],_,r=>by rw[map_nil]at r;cases r;exact .nil
 | k::ks,_,r=>by
  rw[aap]at r;cases r with
  |cons h t=>exact .cons (xN h) (uG t)
abbrev KT(H:Hp):List (List Key×V)->List (List Key×Addr×Value)->Prop:=Paired λp q=>p.1=q.1/\H q.2.1=some (.tup (p.1.map kV))/\RelV p.2 q.2.2
theorem KT.val(r:KT H kvs xs)(k:List Key):kE (jS kvs k) ((atKey xs k).map (·.2)):=by
 induction r with
 |nil=>exact True.intro
 |@cons p q ps qs h t ih=>
  obtain⟨h1,_,h2⟩:=h
  by_cases e:p.1=k
  ·have e':q.1=k:=h1.symm.trans e
   have b:atKey (q::qs) k=some q.2:=by simp[atKey,find?_cons,e']
   rw[rJ e,b];exact h2
  ·have e':¬ q.1=k:=λz=>e (h1.trans z)
   have b:atKey (q::qs) k=atKey qs k:=by simp[atKey,find?_cons,e']
   rw[rK e,b];exact ih
theorem KT.repl(r:KT H kvs xs)(k:List Key)(ry:RelV y u) :
  KT H (kvs.map λkv=>if kv.1=k then (kv.1,y) else kv) (xs.map (putAt k u)):=by
 induction r with
 |nil=>exact .nil
 |@cons p q ps qs h t ih=>
  rw[aap,aap];refine .cons ?_ ih;obtain⟨h1,h2,h3⟩:=h;unfold putAt
  by_cases e:p.1=k
  ·rw[aaj e,aaj (h1.symm.trans e)];exact⟨h1,h2,ry⟩
  ·rw[aam e,aam (λz=>e (h1.trans z))];exact⟨h1,h2,h3⟩
theorem KT.put(r:KT H kvs xs)(k:List Key)(hb:H b=some (.tup (k.map kV)))(ry:RelV y u) :
  KT H (putK kvs k y) (storedH xs k b u):=by
 have e:(kvs.any λkv=>decide (kv.1=k))=(atKey xs k).isSome:=by rw[xM,(r.val k).C8,Option.isSome_map]
 unfold putK storedH;rw[e]
 by_cases q:(atKey xs k).isSome=true
 ·rw[aaj q,aaj q];exact r.repl k ry
 ·rw[aam q,aam q];exact Paired.snoc r ⟨rfl,hb,ry⟩
theorem KT.keeps(r:KT H kvs xs)(ht:∀b ys,H b=some (.tup ys)->H' b=some (.tup ys)):KT H' kvs xs :=
 Paired.M3 r λ_ _ z=>⟨z.1,ht _ _ z.2.1,z.2.2⟩
section
variable {P:Program} {w:World} {H:Hp} {h:Heap} {a:Addr}
theorem Mw(ok:nL P w H h)(e:Rd H a u):cB P w H h a u:=e.ok ok
theorem uH(ok:nL P w H h)(e:Rd H a (.dK kvs)):kvs.length<=sizeLine/\(a==sysModules)=false/\∃vs,KV kvs vs/\h.DictOf (bJ P w) a vs :=
 show cB P w H h a (.dK kvs) from Mw ok e
theorem E4(ok:nL P w H h)(e:H a=some (.dK kvs)):kvs.length<=sizeLine/\(a==sysModules)=false/\∃vs,KV kvs vs/\h.DictOf (bJ P w) a vs:=uH ok (.inl e)
theorem vW(ok:nL P w H h)(e:H a=some (.tup (ks.map kV))):(tupleKind (bJ P w)).is h ks a:=by
 obtain⟨_,its,r,o,h1,h2,n,h3⟩:=(show cB P w H h a (.tup (ks.map kV)) from ok a _ e);exact⟨o,its.toArray,n,h1,h2,h3,by simpa using uG r⟩
theorem xO(ok:nL P w H h)(e:Rd H a (.dT kvs)):kvs.length<=sizeLine/\(a==sysModules)=false /\
  ∃xs,KT H kvs xs/\h.DictOfH (tupleKind (bJ P w)) a xs:=by
 obtain⟨z,y,xs,r,o,es,ep,h1,h2,h3,h4,h5⟩:=(show cB P w H h a (.dT kvs) from Mw ok e);refine⟨z,y,xs,r,o,es,ep,h1,h2,h3,h4,λx hx=>?_,h5⟩;have all:∀{l:List (List Key×V)} {m:List (List Key×Addr×Value)},KT H l m->∀x∈m,(tupleKind (bJ P w)).is h x.1 x.2.1:=by
  intro l m q
  induction q with
  |nil=>intro x hx;exact nomatch hx
  |@cons p q ps qs hq t ih=>
   intro x hx
   rcases aaA.mp hx with e|hx
   ·subst e;exact vW ok (by rw[<-hq.1];exact hq.2.1)
   ·exact ih x hx
 exact all r x hx
theorem Sm(ok:nL P w H h)(e:H a=some (.dT kvs)):kvs.length<=sizeLine/\(a==sysModules)=false /\
  ∃xs,KT H kvs xs/\h.DictOfH (tupleKind (bJ P w)) a xs:=xO ok (.inl e)
end
def tY(H:Hp)(a:Addr)(y:V)(r:Option V):Prop :=
 (∃kvs k,Rd H a (.dK kvs)/\y=kV k/\r=jS kvs k)\/∃kvs k b,Rd H a (.dT kvs)/\y=.ref b/\H b=some (.tup (k.map kV))/\r=jS kvs k
def Ka(H:Hp)(a:Addr)(y v:V)(H':Hp):Prop :=
 (∃kvs k,H a=some (.dK kvs)/\y=kV k/\kvs.length<sizeLine/\H'=upd H a (.dK (putK kvs k v))) \/
 ∃kvs k b,H a=some (.dT kvs)/\y=.ref b/\H b=some (.tup (k.map kV))/\kvs.length<sizeLine/\H'=upd H a (.dT (putK kvs k v))
theorem tY.k{H:Hp}{a:Addr}{kvs:List (Key×V)}{k:Key}(e:H a=some (.dK kvs)):tY H a (kV k) (jS kvs k):=.inl ⟨kvs,k,.inl e,rfl,rfl⟩
theorem Ka.k{H:Hp}{a:Addr}{kvs:List (Key×V)}{k:Key}{v:V}(e:H a=some (.dK kvs))(hl:kvs.length<sizeLine):Ka H a (kV k) v (upd H a (.dK (putK kvs k v))):=.inl ⟨kvs,k,e,rfl,hl,rfl⟩
section
variable {X:Cx} {pins:List (Addr×Obj)} {σ:St} {H:Hp} {s:Shared} {a:Addr} {y v:V} {u r:Value} {o:Option V} {A:Around} {E:Value->Shared->Prop}
theorem Inv.big(I:Inv X pins σ H s):sysModules<s.heap.objs.size:=by
 have h:mainGlobals<s.heap.objs.size:=(I.mod.glob.keeps I.bk).lt;exact lt_trans (by decide) h
theorem C9(hu:A.units+1<cLine)(I:Inv X pins σ H s)(g:tY H a y (some v))(ry:RelV y u)(h:∀w' s',Inv X pins σ H s'->RelV v w'->Q w' s') :
  wpAny (model X.prog X.w) A (getItem (.ref a) u) Q E s:=by
 rcases g with ⟨kvs,k,e,ey,l⟩|⟨kvs,k,b,e,ey,eb,l⟩
 ·subst ey;obtain⟨z,hd,vs,rel,dd⟩:=uH I.hok e;obtain⟨w',hw,rw'⟩:=kE.some_of (v:=v) (o:=valueAt vs k) (by rw[l];exact rel.val k);exact wpAny_getItem_of (xN ry) dd.mapOf hw (h w' _ (I.tok _) rw')
 ·subst ey;cases (show u=Value.ref b from ry);obtain⟨z,hd,xs,rel,dd⟩:=xO I.hok e;obtain⟨w',hw,rw'⟩:=kE.some_of (v:=v) (o:=(atKey xs k).map (·.2)) (by rw[l];exact rel.val k);obtain⟨p,hp,hp2⟩:=aaR.mp hw;refine wpAny_getItem_heap (tupleKind_room_in1 hu) (vW I.hok eb) dd hp ?_;rw[hp2];exact h w' _ (I.tok _) rw'
theorem vX{t':Nat}(I:Inv X pins σ H s)(mu:RC (H a))(hs:Heap.SameBut a s.heap h')(he:∃q,h'.get? a=some q)(new:cB X.prog X.w (upd H a ob) h' a ob) :
  Inv X pins σ (upd H a ob) { s with heap:=h',toks:=t' } :=
 I.write (x:=a) (e:=a) mu (.inl rfl) (λb q hb z=>(hs.2 b hb).trans z) he new
theorem E5(z:kvs.length<=sizeLine)(hd:(a==sysModules)=false)(rel:KV kvs vs)(dd:h'.DictOf (bJ P w) a vs) :
  cB P w H' h' a (.dK kvs):=⟨z,hd,vs,rel,dd⟩
theorem Dc(hu:A.units+1<cLine)(I:Inv X pins σ H s)(g:Ka H a y v H')(ry:RelV y u)(rv:RelV v r)(h:∀s',Inv X pins σ H' s'->Q () s') :
  wpAny (model X.prog X.w) A (setItem (.ref a) u r) Q E s:=by
 rcases g with ⟨kvs,k,e,ey,l,eH⟩|⟨kvs,k,b,e,ey,eb,l,eH⟩
 ·subst ey eH
  obtain⟨z,hd,vs,rel,dd⟩:=E4 I.hok e;have hz:vs.length<=sizeLine:=by rw[<-rel.length];exact z
  have hl:(putK kvs k v).length<=sizeLine:=by have:=kT kvs k v;omega
  refine wpAny_setItem_pairs (hsz:=hz) (xN ry) dd λh' NQ hs=>h _ ?_;have he:∃q,h'.get? a=some q:=let ⟨q,_,_,hq,_⟩:=NQ;⟨q,hq⟩
  exact vX I (by rw[e];exact True.intro) hs he (E5 hl hd (rel.put k rv) NQ)
 ·subst ey eH
  cases (show u=Value.ref b from ry);obtain⟨z,hd,xs,rel,dd⟩:=Sm I.hok e;have hz:xs.length<=sizeLine:=by rw[<-Paired.length rel];exact z
  have hl:(putK kvs k v).length<=sizeLine:=by have:=kT kvs k v;omega
  refine wpAny_setItem_heap (hsz:=hz) (tupleKind_room_in1 hu) (vW I.hok eb) dd λh' NQ hs=>h _ ?_;obtain⟨q,es,ep,hq,h2,h3,h4,_,h5⟩:=NQ;refine vX I (by rw[e];exact True.intro) hs ⟨q,hq⟩ ⟨hl,hd,_,(rel.put k eb rv).keeps λc ys ec=>?_,q,es,ep,hq,h2,h3,h4,h5⟩;rw[ak (uv ec e (λz=>nomatch z))];exact ec
end
section
variable {X:Cx} {pins:List (Addr×Obj)} {σ:St} {H:Hp} {s:Shared} {a:Addr} {kvs:List (Key×V)} {k:Key} {u:Value} {A:Around} {E:Value->Shared->Prop}
theorem Sn(I:Inv X pins σ H s)(e:Rd H a (.dK kvs))(h:∀t s',Inv X pins σ H s'->Q (.int kvs.length t) s'):wpAny (model X.prog X.w) A (call (.builtin "len") [.ref a]) Q E s:=by
 obtain⟨z,hd,vs,rel,dd⟩:=uH I.hok e;refine call_len_dict hd dd (by rw[<-rel.length];rw[sizeLine_eq]at z;omega) ?_;rw[<-rel.length];exact h _ _ (I.tok _)
end
theorem xP(I:Inv X pins σ H s)(g:tY H a y o):s.TypeIs (.ref a) "dict":=by
 rcases g with ⟨kvs,k,e,_,_⟩|⟨kvs,k,b,e,_,_,_⟩
 ·obtain⟨_,_,vs,_,dd⟩:=uH I.hok e;exact dd.typeIs
 ·obtain⟨_,_,xs,_,dd⟩:=xO I.hok e;exact dd.typeIs
theorem xQ(h:Heap)(hb:sysModules<h.objs.size):cB P w H (h.push { cls:=.type "dict",data:=.dict #[] }) h.objs.size (.dK []) :=
 ⟨zero_le _,beq_eq_false_iff_ne.mpr (Ne.symm (aau hb)),[],.nil,Heap.DictOf.new h⟩
def NR:TE:=λ_ H Q=>∀p,H p=none->Q (.ref p) (upd H p (.dK []))
section
variable {X:Cx} {pos:Pos}
theorem E6:PE X (.Dict [] [] pos) NR:=λpins s σ H Q I h=>
 wpAny_Dict_empty ⟨.ref s.heap.objs.size,_,I.laid (a:=s.heap.objs.size) (o:=.dK []) (t':=s.toks) (λ_ _ q=>aae _ q) (aao _) (xQ s.heap I.big),rfl,h _ (I.hok.fresh (aao _))⟩
end
def An:List (TE×TE)->St->Hp->(List (V×V)->Hp->Prop)->Prop
 |[],_,H,Q=>Q [] H
 |(tk,tv)::r,σ,H,Q=>tk σ H λx H1=>tv σ H1 λy H2=>An r σ H2 λps H3=>Q ((x,y)::ps) H3
abbrev VV:List (V×V)->List (Value×Value)->Prop:=Paired λp q=>RelV p.1 q.1/\RelV p.2 q.2
def Vt(X:Cx)(pos:Pos)(keys:List (Option Expr))(values:List Expr)(NS:List (TE×TE)):Prop :=
 ∀(pins:List (Addr×Obj)) (s:Shared) (σ:St) (H:Hp) (Q:List (V×V)->Hp->Prop),Inv X pins σ H s->An NS σ H Q ->
  wpAny (model X.prog X.w) X.A (evalPairs (pairTrees keys values X.env pos)) (λvs s'=>∃ps H',Inv X pins σ H' s'/\VV ps vs/\Q ps H') X.xe s
theorem Kc:Vt X pos [] [] []:=λpins s σ H Q I h=>pairTrees_nil_walk ⟨[],H,I,.nil,h⟩
theorem E7(hk:PE X k tk)(hv:PE X v tv)(hr:Vt X pos ks vs NS) :
  Vt X pos (some k::ks) (v::vs) ((tk,tv)::NS):=λpins s σ H Q I h=>
 pairTrees_cons_walk (cK (hk pins s σ H _ I h) λu s1 ⟨x,H1,I1,rx,q1⟩=>cK (hv pins s1 σ H1 _ I1 q1) λw2 s2 ⟨y,H2,I2,ry,q2⟩=>
  cK (hr pins s2 σ H2 _ I2 q2) λws s3 ⟨ps,H3,I3,rel,q3⟩=>⟨(x,y)::ps,H3,I3,.cons ⟨rx,ry⟩ rel,q3⟩)
def oX(kvs more:List (Key×V)):List (Key×V):=more.foldl (λacc kv=>putK acc kv.1 kv.2) kvs
theorem KV.merge:∀{more:List (Key×V)} {rs:List (Key×Value)} {kvs:List (Key×V)} {vs:List (Key×Value)},KV more rs->KV kvs vs->KV (oX kvs more) (merged vs rs):=by
 intro more rs kvs vs r;unfold KV at r
 induction r generalizing kvs vs with
 |nil=>intro q;exact q
 |@cons p q ps qs h t ih=>
  intro r0;have e:KV (putK kvs p.1 p.2) (stored vs q.1 q.2):=by have:=r0.put p.1 h.2;rw[<-h.1];exact this
  exact ih e
theorem mO:∀(more kvs:List (Key×V)),(oX kvs more).length<=kvs.length+more.length
 |[],kvs=>by show kvs.length<=kvs.length+0;omega
 | p::r,kvs=>by
  have h1:=mO r (putK kvs p.1 p.2);have h2:=kT kvs p.1 p.2;show (oX (putK kvs p.1 p.2) r).length<=_;rw[aaF];omega
theorem rL:∀{kvs:List (Key×V)} {ws:List (Value×Value)},VV (kvs.map λkv=>(kV kv.1,kv.2)) ws->∃rs,Carries (bJ P w) ws rs/\KV kvs rs
 |[],_,r=>by rw[map_nil]at r;cases r;exact⟨[],True.intro,.nil⟩
 | p::kvs,_,r=>by
  rw[aap]at r;cases r with
  |@cons a b as bs h t=>obtain⟨rs,c,q⟩:=rL (P:=P) (w:=w) t;obtain⟨b1,b2⟩:=b;exact⟨(p.1,b2)::rs,⟨xN h.1,rfl,c⟩,.cons ⟨rfl,h.2⟩ q⟩
def So(NS:List (TE×TE)):TE:=λσ H Q=>∀p,H p=none->An NS σ (upd H p (.dK [])) λps H2=>H2 p=some (.dK [])/\∃kvs:List (Key×V),ps=kvs.map (λkv=>(kV kv.1,kv.2))/\kvs.length<=15/\Q (.ref p) (upd H2 p (.dK (oX [] kvs)))
theorem Kd(h:Vt X pos keys values NS)(hall:keys.all (·.isSome)=true)(hl:keys.length=values.length)(h0:keys≠[])
  (ZL:keys.length<=15):PE X (.Dict keys values pos) (So NS):=by
 intro pins s σ H Q I q;have hn:=I.hok.fresh (aao s.heap.objs.size);have I1:=I.laid (a:=s.heap.objs.size) (o:=.dK []) (h':=s.heap.push { cls:=.type "dict",data:=.dict #[] }) (t':=s.toks) (λ_ _ q=>aae _ q) (aao _) (xQ s.heap I.big);refine wpAny_Dict_walk (knd:=bJ X.prog X.w) hall hl h0 ZL (cK (h pins _ σ _ _ I1 (q _ hn)) λws s2 aT=>?_);obtain⟨ps,H2,I2,rel,e,kvs,ep,lk,q2⟩:=aT;subst ep;obtain⟨rs,c,rk⟩:=rL (P:=X.prog) (w:=X.w) rel;obtain⟨z,hd,vs0,r0,dd⟩:=E4 I2.hok e;cases r0;refine⟨rs,c,dd,λh' NQ hs=>⟨.ref s.heap.objs.size,_,?_,rfl,q2⟩⟩;have hz:(oX [] kvs).length<=sizeLine:=by have h1:=mO kvs [];rw[length_nil]at h1;rw[sizeLine_eq];omega
 have he:∃q,h'.get? s.heap.objs.size=some q:=let ⟨q,_,_,hq,_⟩:=NQ;⟨q,hq⟩
 exact vX I2 (by rw[e];exact True.intro) hs he (E5 hz hd (rk.merge .nil) NQ)
structure M2 (X:Cx) (o:Expr) (m:Str) (apos:Pos) (e f:Expr) (cpos:Pos):Prop where
 base:attributeBase o m X.env (eval o X.env)=eval o X.env
 few:((backTo cpos (starEach [e,f] X.env)).all (λx=>!x.1)&&(backToKw cpos (keywordEach [] X.env)).all (λx=>x.1.isSome)
  && decide (([e,f]:List Expr).length+([]:List Keyword).length+(if ([]:List Keyword).isEmpty then 0 else 1)<30))=true
 line:(apos.endLine==cpos.line)=true
 trees:backTo cpos (starEach [e,f] X.env)=[(false,eval e X.env),(false,eval f X.env)]
def XO(H:Hp)(a:Addr):Prop:=(∃kvs,Rd H a (.dK kvs))\/∃kvs,Rd H a (.dT kvs)
theorem E8(I:Inv X pins σ H s)(d:XO H a) :
  s.TypeIs (.ref a) "dict" /\ (∀b,Value.ref a=.ref b->∃ob,s.heap.get? b=some ob/\ob.dict=none)/\(a==sysModules)=false:=by
 rcases d with ⟨kvs,e⟩|⟨kvs,e⟩
 ·obtain⟨_,hd,vs,_,dd⟩:=uH I.hok e;refine⟨dd.typeIs,λb q=>?_,hd⟩;cases q;obtain⟨ob,_,_,h1,h2,_⟩:=dd;exact⟨ob,h1,h2.2.1⟩
 ·obtain⟨_,hd,xs,_,dd⟩:=xO I.hok e;refine⟨dd.typeIs,λb q=>?_,hd⟩;cases q;obtain⟨ob,_,_,h1,h2,_⟩:=dd;exact⟨ob,h1,h2.2.1⟩
section
variable {X:Cx} {pins:List (Addr×Obj)} {σ:St} {H:Hp} {s:Shared} {a:Addr} {y d:V} {u r:Value} {o:Option V} {A:Around} {E:Value->Shared->Prop}
theorem NT(hu:A.units+1<cLine)(I:Inv X pins σ H s)(g:tY H a y o)(ry:RelV y u)(rd:RelV d r)(h:∀w' s',Inv X pins σ H s'->RelV (o.getD d) w'->Q w' s') :
  wpAny (model X.prog X.w) A (call (.builtin "dict.get") [.ref a,u,r]) Q E s:=by
 rcases g with ⟨kvs,k,e,ey,l⟩|⟨kvs,k,b,e,ey,eb,l⟩
 ·subst ey;obtain⟨z,hd,vs,rel,dd⟩:=uH I.hok e;refine call_meetsIn PySem.F.slot_dict_get dd.typeIs PySem.F.entry_dict_get (PySem.F.args_dict_get_3 _ _ _) (meets_dict_get_default (bJ X.prog X.w) a (xN ry) hd r) ⟨_,dd.mapOf,h _ _ (I.tok _) ?_⟩;rw[l];exact(rel.val k).getD rd
 ·subst ey;cases (show u=Value.ref b from ry);obtain⟨z,hd,xs,rel,dd⟩:=xO I.hok e;refine call_meetsIn PySem.F.slot_dict_get dd.typeIs PySem.F.entry_dict_get (PySem.F.args_dict_get_3 _ _ _) (meetsH_dict_get_default (tupleKind (bJ X.prog X.w)) a b hd r) ⟨tupleKind_room_in1 hu,k,xs,vW I.hok eb,dd,h _ _ (I.tok _) ?_⟩;rw[l];exact(rel.val k).getD rd
end
def NU(td ty tx:TE):TE:=λσ H Q=>td σ H λx H1=>∃a,x=.ref a/\XO H1 a/\ty σ H1 λy H2=>tx σ H2 λz H3=>∃o,tY H3 a y o/\Q (o.getD z) H3
section
variable {X:Cx} {o e f:Expr} {apos cpos:Pos} {td ty tx:TE}
theorem E9(hu:X.A.units+1<cLine)(ho:PE X o td)(he:PE X e ty)(hf:PE X f tx)(m:M2 X o "get" apos e f cpos):PE X (.Call (.Attribute o "get" apos) [e,f] [] cpos) (NU td ty tx):=by
 intro pins s σ H Q I h;refine wpAny_Call_method m.base m.few m.line PySem.F.plainAttrs_dict PySem.F.slot_dict_get PySem.F.type_dict_get (cK (ho pins s σ H _ I h) λu s1 aT=>?_);obtain⟨x,H1,I1,rx,a,ex,d,q1⟩:=aT;subst ex;obtain rfl:u=Value.ref a:=rx;obtain⟨t1,t2,_⟩:=E8 I1 d;refine⟨t1,t2,?_⟩;rw[m.trees];refine Calls.callWith_builtin rfl (Calls.evalArgs_plain (Calls.spliced_cons (cK (he pins s1 σ H1 _ I1 q1) λiv s2 ⟨y,H2,I2,ry,q2⟩=>
  Calls.spliced_cons (cK (hf pins s2 σ H2 _ I2 q2) λfv s3 ⟨z,H3,I3,rz,ov,g,q3⟩=>Calls.spliced_nil ?_))))
 exact NT hu I3 g ry rz λw' s4 I4 rw'=>⟨_,H3,I4,rw',q3⟩
end
end L2
namespace XQ
open PySem PySem.W PySem.Calls PyProof.Rows
theorem qB:∀(ns:List Int) (vs:List Value),WellAll P h vs (ns.map WData.int)->IntsAre vs ns:=by
 intro ns
 induction ns with
 |nil=>intro vs w;rw[map_nil]at w;cases w;exact .nil
 |cons n ns ih=>
  intro vs w;rw[aap]at w;cases w with
  |cons a b=>cases a;exact .cons _ _ (ih _ b)
theorem Dd{l:OpenLaw}{n:Nat}(hn:l.most=some n){P:Params}{h:Heap}{args:List WData}{vals:List Value}
  (hpre:l.row.toRowW.claim.pre args=true) (hwl:WellAll P h vals args) :
  ∃a vs ns,vals=[Value.ref a]/\args=[WData.list (ns.map WData.int)]/\h.get? a=some { cls:=.type "list",data:=.seq vs.toArray }/\IntsAre vs ns/\ns.length<=n:=by
 have hsh:WShape.hasAll [] args [.list .int]=true:=(pre_splitW hpre).1;have hc:l.pre.holds [] { args:=args }=true:=(pre_splitW hpre).2;obtain⟨d,r,rfl,h1,h2⟩:=hasAllW_cons hsh;obtain rfl:=hasAllW_nil h2;obtain⟨xs,rfl,h3⟩:=hasW_list h1;obtain⟨ns,rfl⟩:=items_int h3;have hlen:ns.length<=n:=by
  unfold OpenLaw.pre at hc;have h4:(WTm.not (.lt (.lit (.int (n:Int))) (.len (.arg 0)))).holds [] { args:=[.list (ns.map .int)] }=true:=by have h4:=(holds_andW hc).1;rw[hn]at h4;exact h4
  have h5:=condW_of h4 (w_not (w_lt w_lit (w_len_list (w_arg rfl))));rw[aaf]at h5;refine Nat.le_of_not_lt λq=>?_;have q':(n:Int)<((ns.length:Nat):Int):=by omega
  first
   |(rw[decide_eq_true q']at h5;exact absurd h5 (by decide))
   |(simp at h5;omega)
 cases hwl with
 |cons w1 w2=>
  cases w2;cases w1 with
  |list ho hall=>exact⟨_,_,ns,rfl,rfl,ho,qB ns _ hall,hlen⟩
theorem De(l:OpenLaw)(args:List WData):l.row.toRowW.claim.post args (.bool true) args=true :=
 postW_of (r:=l.row.toRowW) (X:=(true==true))
  (show WShape.has [] (.bool true) .bool=true by first|rfl|decide|simp[WShape.has,WShape.arms,WShape.armsAll])
  (show (WTm.eq .res (.lit (.bool true))).value [] { args:=args,res:=some (.bool true),after:=args }=some (.bool (true==true)) from w_eq_bool (w_res rfl) w_lit) rfl
theorem xR{l:OpenLaw}{n:Nat}{q:Program}{loose:List Str}{XP:(Str->Option Value)->Heap->Prop}{YP:World->Heap->Prop}{d:DefRec}
  (hn:l.most=some n) (hdf:d.params.defaults=[])
  (call:∀(w:World) (s₀ s₁:Shared) (mg mb:Str->Option Value) (fa:Addr) (o:Obj) (pm cd doc:Value) (a:Addr) (vs:List Value) (ns:List Int),
   Ground q loose [] XP w s₀ mg mb s₁.heap->YP w s₁.heap ->
   s₁.heap.get? fa=some o->o.data=.func (docDef d.name d.params d.body d.scope pm cd doc)->s₁.heap.CodeRec cd d.name->mg d.name=some (.ref fa) ->
   s₁.heap.get? a=some { cls:=.type "list",data:=.seq vs.toArray }->IntsAre vs ns->ns.length<=n->s₁.gens = #[] ->
   codeAny (model l.prog w) callerA (.call (.ref fa) ⟨[.ref a],[]⟩) (λr s'=>r=.ok (.ret (.bool true))/\OldK s₁.heap s'.heap/\s'.os=s₁.os/\AllBare s'.gens) s₁) :
  WalkO q loose XP YP l.row.toRowW d [] (λf vs=>PySem.call f vs):=by
 intro w s₀ s₁ mg mb G Y fa o pm cd doc dV kV ho hd hcd hD hmg hg args vals as hpre hlay hrd hwl hlo;obtain rfl:dV=.none:=Dflts.none hD hdf;obtain rfl:kV=.none:=Dflts.noKw hD;obtain⟨a,vs,ns,rfl,rfl,hobj,hints,hlen⟩:=Dd hn hpre hwl;refine enter_call (codeAny_mono (call w s₀ s₁ mg mb fa o pm cd doc a vs ns G Y ho (fd_plain hd) hcd hmg hobj hints hlen hg) λr s' hq=>?_);obtain⟨rfl,h2,h3,h4⟩:=hq;exact⟨.inl ⟨.bool true,.bool true,[],rfl,λ_=>rfl,.bool true,De l _,λ_=>⟨List.Pairwise.nil,λ_ hm=>(nomatch hm)⟩⟩,h2,h3,h4⟩
end XQ
namespace L2
open PySem PySem.Spec PyProof.Rows
theorem l8:∀{vs:List Value} {ns:List Int},IntsAre vs ns->Vals (ns.map V.int) vs
 |_,_,.nil=>.nil
 |_,_,.cons n t h=>.cons ⟨t,rfl⟩ (l8 h)
def eG(s:Stmt):Arguments:=match s with
 |.FunctionDef _ a _ _ _ _ _ _ _ _=>a
 |_=>{ posonlyargs:=[],args:=[],vararg:=none,kwonlyargs:=[],kw_defaults:=[],kwarg:=none,defaults:=[] }
def aq(s:Stmt):List Stmt:=match s with
 |.FunctionDef _ _ b _ _ _ _ _ _ _=>b
 |_=>[]
def aa(s:Stmt):Scope:=match s with
 |.FunctionDef _ _ _ _ _ _ sc _ _ _=>sc
 |_=>{ kind:=.function,names:=[],isGenerator:=false,isCoroutine:=false }
abbrev tZ:xG:=λ_ _ _ _ _ _=>False
abbrev E0:XK:=λ_ _ _=>False
theorem uI:Passes tZ X E0:=λ_ _ _ _ _ _ _ h=>h.elim
structure Es (K:Frag) (x qual:Str) (st:Stmt) (f:Addr) (fd:FuncData):Prop where
 ex:∃(oc:Value) (od:Option Addr) (kV doc pm:Value) (an:Option Addr) (cdv ct:Value) (osl:Array (Option Value)),
  fd=fnOf x qual (eG st) (aq st) (aa st) .none kV doc pm an cdv ct/\K.lookup f=some ⟨oc,od,.func fd,osl⟩/\codeIn K cdv qual=true
 kp:keepIn K (.ref f)=true
section
variable {P:Program} {w:World} {K:Frag} {mg:Str->Option Value} {base:Heap}
theorem Es.ok{x qual:Str}{st:Stmt}{f:Addr}{fd:FuncData}{N ps:List Str}{k:Nat}{sp:Sp}(F:Es K x qual st f fd)(S:nS N ps (aa st))(len:∀vs H Q E,sp vs H Q E->vs.length=ps.length)
  (hbody:∀(cdv:Value) (A:Around) (outer:List Env) (s:Shared) (H:Hp) (vs:List V) (Q:VK) (E:XK),dD k (A.deeper (envOfC qual (aa st) s.heap.objs.size f cdv))->sp vs H Q E ->
   ∃t,xC (nT tZ P w K mg base N qual (aa st) f cdv A outer s H E).EC (aq st) t/\t { nx:=λ_ H'=>Q .non H',rt:=Q } (start N vs) H):fU P w K mg base tZ (k+1) f fd ps sp:=by
 obtain⟨oc,od,kV,doc,pm,an,cdv,ct,osl,rfl,lk,hcd⟩:=F.ex;refine Sh lk hcd S len λA outer s H vs Q E hr hsp=>?_;obtain⟨t,h,q⟩:=hbody cdv A outer s H vs Q E hr hsp;exact⟨t,h.EC,q⟩
theorem Es.binds{x qual:Str}{st:Stmt}{f:Addr}{fd:FuncData}{ps:List Str}(F:Es K x qual st f fd)
  (h:∀(kV doc pm:Value) (an:Option Addr) (cdv ct:Value) (us:List Value),us.length=ps.length->bindArgs (fnOf x qual (eG st) (aq st) (aa st) .none kV doc pm an cdv ct) ⟨us,[]⟩=pure (ps.zip us)):Binds K fd ps []:=by
 obtain⟨oc,od,kV,doc,pm,an,cdv,ct,osl,rfl,lk,hcd⟩:=F.ex;exact .all (h kV doc pm an cdv ct)
theorem fun_mk{x qual:Str}{st:Stmt}{f:Addr}{oc:Value}{od an:Option Addr}{osl:Array (Option Value)}{kV doc pm cdv ct:Value}(l:K.lookup f=some ⟨oc,od,.func (fnOf x qual (eG st) (aq st) (aa st) .none kV doc pm an cdv ct),osl⟩)
  (c:codeIn K cdv qual=true) (k:keepIn K (.ref f)=true):Es K x qual st f (fnOf x qual (eG st) (aq st) (aa st) .none kV doc pm an cdv ct):=⟨⟨oc,od,kV,doc,pm,an,cdv,ct,osl,rfl,l,c⟩,k⟩
end
section
variable {X:Cx}
theorem Df:cW X (.builtin "len") (λxs H Q=>∃a kvs,xs=[V.ref a]/\H a=some (.dK kvs)/\Q (.int kvs.length) H):=by
 intro pins s σ H xs us Q I r h;obtain⟨a,kvs,rfl,ha,q⟩:=h;obtain⟨u,rfl,ru⟩:=vals1 r;cases ru;exact Sn I (.inl ha) λt s' I'=>⟨.int kvs.length,H,I',⟨t,rfl⟩,q⟩
end
def Ao(H H':Hp):Prop:=∀b o,H b=some o->H' b=some o
theorem Ao.seq{K:Frag}{H H':Hp}{a:Addr}{xs:List V}(e:Ao H H')(h:gR K H a xs):gR K H' a xs:=by
 rcases h with (h|⟨o,h⟩)|h
 ·exact .inl (.inl (e _ _ h))
 ·exact .inl (.inr ⟨o,e _ _ h⟩)
 ·exact .inr h
theorem mW(env:Env):∀(names:List (Str×NameKind)) (acc:List (Str×Addr)),(∀y∈names,y.2=.free->∃c,env.cells.lookup y.1=some c) ->
  (∀x c,acc.lookup x=some c->env.cells.lookup x=some c) ->
  ∃cl,(forIn names acc λx r=>if (x.snd==NameKind.free)=true then do let c <-cellOf env x.fst;pure (ForInStep.yield ((x.fst,c)::r)) else pure (ForInStep.yield r))=(pure cl:Sem (List (Str×Addr))) /\
   (∀x c,cl.lookup x=some c->env.cells.lookup x=some c)/\∀x,((x,NameKind.free)∈names\/∃c,acc.lookup x=some c)->∃c,cl.lookup x=some c
 |[],acc,_,ha=>⟨acc,rfl,ha,λx h=>h.elim (λz=>nomatch z) λz=>z⟩
 | (n,k)::r,acc,hn,ha=>by
  have hr:∀y∈r,y.2=NameKind.free->∃c,env.cells.lookup y.1=some c:=λy hy=>hn y (aak _ hy)
  by_cases hk:k=.free
  ·subst hk
   obtain⟨c,hc⟩:=hn (n,.free) aal rfl;have ha':∀x d,((n,c)::acc).lookup x=some d->env.cells.lookup x=some d:=λx d h=>by
    rw[lookup_cons]at h;cases e:x==n with
    |true=>rw[e]at h;have e':x=n:=eq_of_beq e;cases h;rw[e'];exact hc
    |false=>rw[e]at h;exact ha x d h
   obtain⟨cl,e1,e2,e3⟩:=mW env r ((n,c)::acc) hr ha';refine⟨cl,?_,e2,λx h=>?_⟩
   ·rw[List.forIn_cons]
    have hco:cellOf env n=pure c:=by unfold cellOf;rw[hc]
    simp only[beq_self_eq_true,if_true,hco];exact e1
   ·by_cases hx:x=n
    ·subst hx;exact e3 x (.inr ⟨c,by simp[lookup_cons]⟩)
    ·rcases h with h|⟨d,h⟩
     ·rcases aaA.mp h with z|z
      ·exact absurd (aaS Prod.fst z) hx
      ·exact e3 x (.inl z)
     ·refine e3 x (.inr ⟨d,?_⟩);rw[lookup_cons];have:(x==n)=false:=beq_eq_false_iff_ne.mpr hx;rw[this];exact h
  ·have hb:(k==NameKind.free)=false:=beq_eq_false_iff_ne.mpr hk
   obtain⟨cl,e1,e2,e3⟩:=mW env r acc hr ha;refine⟨cl,?_,e2,λx h=>e3 x ?_⟩
   ·rw[List.forIn_cons];simp only[hb,false_eq_true,if_false];exact e1
   ·rcases h with h|h
    ·rcases aaA.mp h with z|z
     ·cases z;exact absurd rfl hk
     ·exact .inl z
    ·exact .inr h
theorem rM(h:∀y∈scope.names,y.2=.free->∃c,env.cells.lookup y.1=some c) :
  ∃cl,closureFor scope env=pure cl/\(∀x c,cl.lookup x=some c->env.cells.lookup x=some c)/\∀x,(x,NameKind.free)∈scope.names->∃c,cl.lookup x=some c:=by
 obtain⟨cl,e1,e2,e3⟩:=mW env scope.names [] h (λx c z=>by simp at z);refine⟨cl,?_,e2,λx hx=>e3 x (.inl hx)⟩;unfold closureFor;simp only[bind_pure];exact e1
def bY(X:Cx)(scope:Scope)(N':List Str)(cl:List (Str×Addr))(C:Addr)(s:Shared)(H:Hp)(fp:List Addr):Cx :=
 { prog:=X.prog,w:=X.w,K:=X.K,mg:=X.mg,base:=X.base,A:=X.A,N:=N',s₀:=s,H₀:=H,env:=compEnvC scope cl C X.env,outer:=X.stack,stack:=X.stack,ex:=fp,fn:=λ_=>false,calm:=X.calm,pn:=[],xe:=λ_ _=>False }
def jT(js:List (Option Nat))(σ:St):St:=js.map λo=>match o with
 |none=>none
 | some j=>match σ[j]? with
  |some (some v)=>some v
  |_=>none
def vY(sc:Scope)(x:Str):Bool:=sc.names.lookup x==some .cell||sc.names.lookup x==some .free
def l9(XN:List Str)(xsc scope:Scope)(N':List Str)(js:List (Option Nat)):Bool :=
 scope.kind==.function&&(scope.names.all λy=>y.2 != .local||scope.names.lookup y.1==some .local)&&(scope.names.all λy=>y.2 != .cell) &&
 (scope.names.all λy=>y.2 != .free||(vY xsc y.1&&scope.names.lookup y.1==some .free))&&js.length==N'.length &&
 ((N'.zip js).all λp=>match p.2 with|none=>true|some j=>XN[j]?==some p.1&&scope.names.lookup p.1==some .free)
structure vZ (X:Cx) (scope:Scope) (N':List Str) (js:List (Option Nat)):Prop where
 kind:scope.kind=.function
 names:∀y∈scope.names,y.2=.local->scope.names.lookup y.1=some .local
 Fb:∀y∈scope.names,y.2≠.cell
 free:∀y∈scope.names,y.2=.free->vY X.env.scope y.1=true/\scope.names.lookup y.1=some .free
 len:js.length=N'.length
 src:∀(i:Nat) (x:Str) (j:Nat),N'[i]?=some x->js[i]?=some (some j)->X.N[j]?=some x/\scope.names.lookup x=some .free
theorem uJ(h:l9 X.N X.env.scope scope N' js=true):vZ X scope N' js:=by
 unfold l9 at h;simp only[and_eq_true,all_eq_true]at h;obtain⟨⟨⟨⟨⟨h1,h2⟩,h3⟩,h4⟩,h5⟩,h6⟩:=h;refine⟨eq_of_beq h1,λy hy e=>?_,λy hy e=>?_,λy hy e=>?_,eq_of_beq h5,λi x j e1 e2=>?_⟩
 ·have:=h2 y hy;rw[e]at this;simpa using this
 ·have:=h3 y hy;rw[e]at this;simp at this
 ·have:=h4 y hy;rw[e]at this;simpa using this
 ·have hm:(x,some j)∈N'.zip js:=by
   refine List.mem_iff_getElem?.mpr ⟨i,?_⟩;rw[List.getElem?_zip_eq_some];exact⟨e1,e2⟩
  have:=h6 _ hm;simpa using this
theorem mP(js:List (Option Nat))(σ:St):(jT js σ).length=js.length:=by unfold jT;rw[aaf]
def Ke(X:Cx)(ifs:List Expr)(t:TT):Prop :=
 ∀(pins:List (Addr×Obj)) (s:Shared) (σ:St) (H:Hp) (Q:Bool->Hp->Prop),Inv X pins σ H s->t σ H Q ->
  wpAny (model X.prog X.w) X.A (forIn ifs true λc r=>if r=true then do let ok <-isTrue c X.env (eval c X.env);pure (ForInStep.yield ok) else pure (ForInStep.yield r)) (TP X pins σ Q) X.xe s
def xS:TT:=λ_ H Q=>Q true H
theorem Kf:Ke X [] xS:=λ_ _ _ H _ I h=>wpAny_tests_nil ⟨H,I,h⟩
theorem Kg(h:PT X c t):Ke X [c] t:=λpins s σ H Q I hw=>wpAny_tests_one (h pins s σ H Q I hw)
def Fc(wi:TI)(js:List (Option Nat))(g:TG)(tt:TT)(te:TE):TE:=λσ H Q=>wi σ H λJ H1=>∀D,H1 D=none->∃W:Nat->Nat->St->Hp->Prop,(∃m,W 0 m (jT js σ) (upd H1 D (.lst []))) /\
 ∀i m σ' H,W i m σ' H->(J.stop i H/\Q (.ref D) H)\/(J.go i H/\∃N:St->Hp->Prop,(∀Dg H',N Dg H'->∃m',m'<m/\W (i+1) m' Dg H') /\
  ∀x H',J.CZ i H x H'->g x σ' H' λσ2 H2=>tt σ2 H2 λb H3=>if b=true then te σ2 H3 λy H4=>∃ys,H4 D=some (.lst ys)/\ys.length<sizeLine/\N σ2 (upd H4 D (.lst (ys++[y]))) else N σ2 H3)
theorem t7(hc:∀y∈scope.names,y.2≠.cell)
  (h:(relabel scope env).names.lookup x=some .cell\/(relabel scope env).names.lookup x=some .free):(x,NameKind.free)∈scope.names:=by
 unfold relabel at h;simp only at h;generalize scope.names=ns at hc h
 induction ns with
 |nil=>simp at h
 |cons p r ih=>
  obtain⟨n,k⟩:=p;have hc':∀y∈r,y.2≠.cell:=λy hy=>hc y (aak _ hy);simp only[map_cons]at h;cases hx:x==n with
  |true=>
   have e':x=n:=eq_of_beq hx;subst e'
   by_cases hk:k=.free
   ·subst hk;exact aal
   ·have hk2:=hc (x,k) aal
    have hb:(k==NameKind.free)=false:=beq_eq_false_iff_ne.mpr hk;rw[hb]at h;simp only[Bool.false_and,false_eq_true,if_false,lookup_cons,beq_self_eq_true]at h
    rcases h with h|h
    ·exact absurd (aaG h) hk2
    ·exact absurd (aaG h) hk
  |false=>
   refine aak _ (ih hc' ?_)
   by_cases hk:(k==NameKind.free&&env.scope.kind==.function&&env.kindOf n==some .cell)=true
   ·rw[aaj hk]at h;simp only[lookup_cons,hx]at h;exact h
   ·rw[aam hk]at h;simp only[lookup_cons,hx]at h;exact h
theorem v7(h:scope.names.lookup x=some .free) :
  (relabel scope env).names.lookup x=some .cell\/(relabel scope env).names.lookup x=some .free:=by
 unfold relabel;simp only;generalize scope.names=ns at h
 induction ns with
 |nil=>simp at h
 |cons p r ih=>
  obtain⟨n,k⟩:=p;simp only[map_cons];cases hx:x==n with
  |true=>
   simp only[lookup_cons,hx]at h;have hk:=aaG h;subst hk
   by_cases hk:(NameKind.free==NameKind.free&&env.scope.kind==.function&&env.kindOf n==some .cell)=true
   ·rw[aaj hk];simp[lookup_cons,hx]
   ·rw[aam hk];simp[lookup_cons,hx]
  |false=>
   simp only[lookup_cons,hx]at h
   by_cases hk:(k==NameKind.free&&env.scope.kind==.function&&env.kindOf n==some .cell)=true
   ·rw[aaj hk];simp only[lookup_cons,hx];exact ih h
   ·rw[aam hk];simp only[lookup_cons,hx];exact ih h
section
variable {X:Cx} {pins:List (Addr×Obj)} {σ:St} {scope:Scope} {N':List Str} {js:List (Option Nat)}
theorem rN(ok:vZ X scope N' js)(xo:X.Ok):∀y∈scope.names,y.2=.free->∃c,X.env.cells.lookup y.1=some c:=λy hy e=>by
 have:=(ok.free y hy e).1;unfold vY at this;rw[or_eq_true]at this;refine xo.has y.1 ?_
 rcases this with z|z
 ·exact .inl (eq_of_beq z)
 ·exact .inr (eq_of_beq z)
theorem Aq{tk:Nat}(ok:vZ X scope N' js)(I:Inv X pins σ H s)
  (hcl1:∀x c,cl.lookup x=some c->X.env.cells.lookup x=some c) (hcl2:∀x,(x,NameKind.free)∈scope.names->∃c,cl.lookup x=some c)
  (hfp:∀b∈fp,qA X pins H b) (hlt:∀b∈fp,b<s.heap.objs.size)
  (hns:h'.Ns s.heap.objs.size (λ_=>none)) (hk:∀b o,s.heap.get? b=some o->h'.get? b=some o) :
  Inv (bY X scope N' cl s.heap.objs.size s H fp) [] (jT js σ) H { s with heap:=h',toks:=tk }:=by
 have cellK:∀x c,cl.lookup x=some c->∃v,s.heap.IsCell c v:=λx c e=>I.cell x c (hcl1 x c e);have hCf:H s.heap.objs.size=none:=I.hok.fresh (aao _);refine⟨⟨I.ok.mod,ok.kind,I.ok.glob,I.ok.blt,aao _,λx y c e1 e2=>I.ok.inj x y c (hcl1 x c e1) (hcl1 y c e2),λx hx=>hcl2 x (t7 ok.Fb hx),λx c hf _=>absurd hf (by intro z;cases z),I.ok.hd,I.ok.frames,.inl rfl,
   λb hb=>⟨aau (hlt b hb),λx c e z=>?_⟩,I.bs,aaH I.ok.JM I.sz,λb o e hb=>?_,λb hb hs=>?_,I.stack,I.BA⟩,rfl,I.bare,Un.kept hk,⟨_,hns,λi x v e1 e2 e3=>?_⟩,λx c e=>?_,hCf,λx c e=>(I.kh x c (hcl1 x c e)).imp id λz=>⟨rfl,z.2⟩,
   λp hp=>absurd (show p∈([]:List (Addr×Obj)) from hp) (by simp),I.hok.kept hk,?_⟩
 ·exact(hfp b hb).2.2.2.2.1 x c (hcl1 x c e) z
 ·rcases(hfp b hb).2.2.2.1 with z|z
  ·exact I.ok.kQ b o e z
  ·exact absurd (aaq (aan (I.ok.bs b o e).1) z) (lt_irrefl _)
 ·rcases aaA.mp (I.Ab b hs) with z|z
  ·exact(hfp b hb).2.1 z
  ·exact(hfp b hb).2.2.1 z
 ·-- a name ZM has a value: one of the def around
  have Dh:(jT js σ)[i]?=some (some v):=e2;unfold jT at Dh;rw[aaB] at Dh;cases hj:js[i]? with
  |none=>rw[hj] at Dh;cases Dh
  |some o=>
   rw[hj] at Dh;cases o with
   |none=>simp at Dh
   |some j=>
    obtain⟨hN,hf⟩:=ok.src i x j e1 hj;cases hs:σ[j]? with
    |none=>simp[hs] at Dh
    |some ov=>
     cases ov with
     |none=>simp[hs] at Dh
     |some v'=>
      simp[hs] at Dh;subst Dh;have hfr:=(ok.free (x,.free) (aaT hf) rfl).1;unfold vY at hfr;rw[or_eq_true]at hfr;have Sq:X.env.scope.names.lookup x=some .cell\/X.env.scope.names.lookup x=some .free:=hfr.imp eq_of_beq eq_of_beq;obtain⟨m,_,hl⟩:=I.loc;obtain⟨u,r,l⟩:=hl j x v' hN hs (.inr Sq);refine⟨u,r,.inr ⟨v7 hf,?_⟩⟩
      rcases l with ⟨k,_⟩|⟨_,c,e,z⟩
      ·have k':X.env.scope.names.lookup x=some .local:=k
       rcases Sq with q|q<;>(rw[q]at k';cases k')
      ·obtain⟨d,hd⟩:=hcl2 x (aaT hf);have e':=hcl1 x d hd;rw[e]at e';cases e';obtain⟨oc,hoc,Ey⟩:=z;exact⟨c,hd,oc,hk _ _ hoc,Ey⟩
 ·obtain⟨v,oc,hoc,Ey⟩:=cellK x c e;exact⟨v,oc,hk _ _ hoc,Ey⟩
 ·rw[mP];exact ok.len
theorem Di(I:Inv X pins σ H s)(hfp:∀b∈fp,qA X pins H b)
  (J:Inv (bY X scope N' cl C s H fp) [] σ' H' s'):Inv X pins σ H' s' :=
 I.RI (ch:=fp) J.os J.base J.hok J.bare λb hb=>⟨(hfp b hb).2.2.2.1,(hfp b hb).2.1,(hfp b hb).2.2.2.2.1,(hfp b hb).2.2.2.2.2⟩
end
section
variable {X:Cx} {scope:Scope} {N':List Str} {js:List (Option Nat)} {tg elt iter:Expr} {ifs:List Expr} {pos:Pos} {wi:TI} {g:TG} {tt:TT} {te:TE}
theorem xT{pins:List (Addr×Obj)}{σ:St}{H2:Hp}{s2:Shared}{it:Addr}{fp:List Addr}{tn:Nat->Heap->Prop}{J:It}{cl:List (Str×Addr)}{E:Value->Shared->Prop}{RR:Value->Addr->Result->Shared->Prop}{Q:VK}
  (ok:vZ X scope N' js) (hc:X.calm=true) (I2:Inv X pins σ H2 s2) (T:Turn X.prog X.w X.K tg J fp it tn) (st2:tn 0 s2.heap) (f2:∀b∈fp,qA X pins H2 b)
  (hcl1:∀x c,cl.lookup x=some c->X.env.cells.lookup x=some c) (hcl2:∀x,(x,NameKind.free)∈scope.names->∃c,cl.lookup x=some c)
  (hg:∀cl C s H fp,PG (bY X scope N' cl C s H fp) tg g) (ht:∀cl C s H fp,Ke (bY X scope N' cl C s H fp) ifs tt) (he:∀cl C s H fp,PE (bY X scope N' cl C s H fp) elt te)
  (rd:∀D,H2 D=none->∃W:Nat->Nat->St->Hp->Prop,(∃m,W 0 m (jT js σ) (upd H2 D (.lst []))) /\
   ∀i m σ' H,W i m σ' H->(J.stop i H/\Q (.ref D) H)\/(J.go i H/\∃N:St->Hp->Prop,(∀Dg H',N Dg H'->∃m',m'<m/\W (i+1) m' Dg H') /\
    ∀x H',J.CZ i H x H'->g x σ' H' λσ2 H2=>tt σ2 H2 λb H3=>if b=true then te σ2 H3 λy H4=>∃ys,H4 D=some (.lst ys)/\ys.length<sizeLine/\N σ2 (upd H4 D (.lst (ys++[y]))) else N σ2 H3))
  (hRR:∀(D C:Addr) (s':Shared) (H':Hp) (m:Str->Option Value),s2.heap.objs.size<=C->Inv X pins σ H' s'->H' C=none->s'.heap.Ns C m->Q (.ref D) H'->RR (.ref D) C (.ok .next) s') :
  wpAny (model X.prog X.w) X.A (newList []) (λacc s₃=>wpAny (model X.prog X.w) X.A (newFunctionEnv scope X.env.globals cl [] X.env.qual none .none (some X.env)) (λcenv s₄=>
   codeAny (model X.prog X.w) X.A (.compStart (.ListComp elt [⟨tg,iter,ifs,0⟩] scope pos) 0 (.ref it) acc { cenv with scope:=relabel scope X.env }) (RR acc cenv.locals) s₄) E s₃) E s2:=by
 have hD:H2 s2.heap.objs.size=none:=I2.hok.fresh (aao _);refine aaM (wpAny_newFunctionEnv ok.Fb (by intro y hy;simp at hy) (λh₁ Ss Su=>?_) ok.kind);dsimp only at Ss Su |-;have I3:Inv X pins σ (upd H2 s2.heap.objs.size (.lst [])) { s2 with heap:=s2.heap.push { cls:=.type "list",dict:=none,data:=.seq ([]:List Value).toArray },toks:=s2.toks } :=
  I2.laid (t':=s2.toks) (λb u e=>aae _ e) (aao _) ⟨by simp,[],0,.nil,aav _ rfl⟩
 generalize Sv:({ s2 with heap:=s2.heap.push { cls:=.type "list",dict:=none,data:=.seq ([]:List Value).toArray },toks:=s2.toks }:Shared)=s3 at I3;have hsz:s3.heap.objs.size=s2.heap.objs.size+1:=by rw[<-Sv];exact size_push ..
 have eC:(s2.heap.push { cls:=.type "list",dict:=none,data:=.seq ([]:List Value).toArray }).objs.size=s3.heap.objs.size:=by rw[<-Sv]
 have f3:∀b∈fp,qA X pins (upd H2 s2.heap.objs.size (.lst [])) b:=λb hb=>by
  obtain⟨o,e,_⟩:=T.obj _ _ st2 b hb;refine⟨?_,(f2 b hb).2⟩;rw[ak (aau (aan e))];exact(f2 b hb).1
 have hlt:∀b∈fp,b<s3.heap.objs.size:=λb hb=>by
  obtain⟨o,e,_⟩:=T.obj _ _ st2 b hb;have hb2:b<s2.heap.objs.size:=aan e;rw[hsz];exact lt_succ_of_lt hb2
 have keep:∀b o,s3.heap.get? b=some o->h₁.get? b=some o:=λb o e=>by
  have e':(s2.heap.push { cls:=.type "list",dict:=none,data:=.seq ([]:List Value).toArray }).get? b=some o:=by rw[<-Sv]at e;exact e
  exact Su.extBut b o (aau (aan e')) (aae _ e')
 have I4:=Aq (tk:=s2.toks+([]:List (Str×Value)).length) ok I3 hcl1 hcl2 f3 hlt (h':=h₁) (by rw[<-eC];simpa using Ss) keep;have XR:tn 0 h₁:=T.keep _ _ _ st2 λb hb o e=>keep b o (by rw[<-Sv];exact aae _ e);obtain⟨W,⟨m0,w0⟩,turn⟩:=rd _ hD;have stat:∀{H':Hp},(∀b∈fp,H' b=none)->∀b∈fp,qA (bY X scope N' cl s3.heap.objs.size s3 (upd H2 s2.heap.objs.size (.lst [])) fp) [] H' b:=λ{H'} hn b hb=>
  ⟨hn b hb,aau (hlt b hb),I4.ok.Ex b hb,.inl hb,(I4.ok.VT b hb).2,λp hp=>absurd (show p∈([]:List (Addr×Obj)) from hp) (by simp)⟩
 have ZN:∀tk,({ s2 with heap:=h₁,toks:=tk }:Shared)={ s3 with heap:=h₁,toks:=tk }:=λtk=>by rw[<-Sv]
 have loop:codeAny (model X.prog X.w) X.A (.compLoop (.ListComp elt [⟨tg,iter,ifs,0⟩] scope pos) 0 (.ref it) (.ref s2.heap.objs.size) (compEnvC scope cl s3.heap.objs.size X.env)) (RR (.ref s2.heap.objs.size) s3.heap.objs.size)
   { s3 with heap:=h₁,toks:=s2.toks+([]:List (Str×Value)).length }:=by
  refine codeAny_loop rfl (λn s'=>∃i σ' H',Inv (bY X scope N' cl s3.heap.objs.size s3 (upd H2 s2.heap.objs.size (.lst [])) fp) [] σ' H' s'/\tn i s'.heap/\(∀b∈fp,H' b=none)/\W i n σ' H') ?_ m0 ⟨0,_,_,I4,XR,λb hb=>(f3 b hb).1,w0⟩;rintro n s5 ⟨i,σ5,H5,I5,Rv,Vn,w5⟩;show wpAny _ X.A ((compTurn (.ListComp elt [⟨tg,iter,ifs,0⟩] scope pos) 0 (.ref it) (.ref s2.heap.objs.size) (compEnvC scope cl s3.heap.objs.size X.env)).onRaise (λx=>do noteFrame x (compEnvC scope cl s3.heap.objs.size X.env);theTreesLotGoes x)) _ _ s5;refine wpAny_noted ?_;rw[compTurn_list];refine aab (wpAny_standAt (aab ?_))
  rcases turn i n σ5 H5 w5 with ⟨stop,qn⟩|⟨go,N,hN,step⟩
  ·refine wpAny_mono (T.done (bY X scope N' cl s3.heap.objs.size s3 (upd H2 s2.heap.objs.size (.lst [])) fp) rfl rfl rfl hc i [] s5 σ5 H5 (λ_ _=>False) I5 (stat Vn) Rv stop) (λr s6 ⟨hr,I6⟩=>?_) λ_ _ z=>z.elim;subst hr;refine aai ?_;obtain⟨m,hm,_⟩:=id I6.loc;exact hRR _ _ s6 H5 m (by rw[hsz];exact le_succ _) (Di I3 f3 I6) I6.free hm qn
  ·refine wpAny_mono (T.item (bY X scope N' cl s3.heap.objs.size s3 (upd H2 s2.heap.objs.size (.lst [])) fp) rfl rfl rfl hc i [] s5 σ5 H5 (λ_ _=>False) I5 (stat Vn) Rv go) (λr s6 ⟨u,hr,h6⟩=>?_) λ_ _ z=>z.elim
   subst hr;refine aab (wpAny_mono h6 (λ_ s7 ⟨x,H7,I7,r7,y7,Wo,ZO⟩=>?_) λ_ _ z=>z.elim);have ZP:=I7.pinned (stat ZO) (T.obj _ _ Wo);refine aab (wpAny_mono (hg _ _ _ _ _ _ s7 σ5 H7 x u _ ZP r7 (step x H7 y7)) (λ_ s8 ⟨σ8,H8,I8,q8⟩=>?_) λ_ _ z=>z.elim);refine aab (wpAny_mono (ht _ _ _ _ _ _ s8 σ8 H8 _ I8 q8) (λb s9 ⟨H9,I9,q9⟩=>?_) λ_ _ z=>z.elim);have Fd:∀{sA:Shared} {σA:St} {HA:Hp},Inv (bY X scope N' cl s3.heap.objs.size s3 (upd H2 s2.heap.objs.size (.lst [])) fp) ([]++rA fp s7.heap) σA HA sA->N σA HA ->
     ∃m,m<n/\∃i σ' H',Inv (bY X scope N' cl s3.heap.objs.size s3 (upd H2 s2.heap.objs.size (.lst [])) fp) [] σ' H' sA/\tn i sA.heap/\(∀b∈fp,H' b=none)/\W i m σ' H':=λ{sA σA HA} IA nA=>by
    obtain⟨m',hm,wA⟩:=hN σA HA nA;refine⟨m',hm,i+1,σA,HA,IA.nQ,T.keep _ _ _ Wo λb hb o e=>(IA.pin (b,o) (aaI _ (aaI _ (jQ hb e)))).1,λb hb=>?_,wA⟩;obtain⟨o,e,d⟩:=T.obj _ _ Wo b hb;exact(IA.pin (b,o) (aaI _ (aaI _ (jQ hb e)))).2.1
   cases b with
   |false=>exact aai ⟨rfl,Fd I9 (by simpa using q9)⟩
   |true=>rw[aaj rfl]at q9;refine aab (aab (wpAny_mono (he _ _ _ _ _ _ s9 σ8 H9 _ I9 q9) (λv sB ⟨y,HB,IB,rB,ys,hys,hlen,nB⟩=>?_) λ_ _ z=>z.elim));refine aab (wpAny_mono (uF (X:=bY X scope N' cl s3.heap.objs.size s3 (upd H2 s2.heap.objs.size (.lst [])) fp) _ sB σ8 HB (.ref s2.heap.objs.size) [y] _ [v] (λ_ HC=>HC=upd HB s2.heap.objs.size (.lst (ys++[y]))) IB rfl #[rB] ⟨_,ys,y,rfl,rfl,hys,hlen,rfl⟩) (λv' sC ⟨_,HC,IC,_,ZQ⟩=>?_) λ_ _ z=>z.elim);subst ZQ;exact aai (aai ⟨rfl,Fd IC nB⟩)
 rw[ZN];have Wq:({ newEnv scope (s2.heap.push { cls:=.type "list",dict:=none,data:=.seq ([]:List Value).toArray }).objs.size X.env.globals cl X.env.qual none Value.none (some X.env) builtinsNs with scope:=relabel scope X.env }:Env)=compEnvC scope cl s3.heap.objs.size X.env:=by rw[eC];rfl
 have Wr:(newEnv scope (s2.heap.push { cls:=.type "list",dict:=none,data:=.seq ([]:List Value).toArray }).objs.size X.env.globals cl X.env.qual none Value.none (some X.env) builtinsNs).locals=s3.heap.objs.size:=by rw[eC];rfl
 rw[Wq,Wr];exact codeAny_compStart_list loop (T.self _ _ _ _ _ XR loop)
theorem Kh(hok:l9 X.N X.env.scope scope N' js=true)(hc:X.calm=true)(hi:PI X tg iter wi)(hg:∀cl C s H fp,PG (bY X scope N' cl C s H fp) tg g)
  (ht:∀cl C s H fp,Ke (bY X scope N' cl C s H fp) ifs tt) (he:∀cl C s H fp,PE (bY X scope N' cl C s H fp) elt te)
  (hs:∀x,foldedSetIterable iter X.env x=pure x):PE X (.ListComp elt [⟨tg,iter,ifs,0⟩] scope pos) (Fc wi js g tt te):=by
 intro pins s σ H Q I h;have ok:=uJ hok;obtain⟨cl,Ws,hcl1,hcl2⟩:=rM (rN ok I.ok);rw[eval_ListComp];refine wpAny_comprehension_free (use:=none) rfl hs Ws ok.kind ok.names (cK (hi pins s σ H _ I h) λxv s1 h1=>cK h1 λitv s2 h2=>?_);obtain⟨it,fp,tn,J,H2,rfl,I2,T,st2,f2,rd⟩:=h2;refine xT (RR:=λacc C=>compPost (model X.prog X.w) X.A X.xe none (EP X pins σ Q) acc C) ok hc I2 T st2 f2 hcl1 hcl2 hg ht he rd ?_;intro D C s' H' m hC J' fC hm q;refine⟨m,hm,λh' hs'=>⟨.ref D,H',?_,rfl,q⟩⟩;refine J'.turned (t':=s'.toks) (λb o hb e=>hs'.extBut b o hb e) fC (ne_of_gt (aaq I2.lt hC)) (.inr (aaH I2.sz hC)) (λx c e z=>?_) λp hp z=>?_
 ·obtain⟨v,q'⟩:=I2.cell x c e;exact absurd (aaq q'.lt (by rw[z];exact hC)) (lt_irrefl _)
 ·exact absurd (aaq (aan (I2.pin p hp).1) (by rw[z];exact hC)) (lt_irrefl _)
theorem Kl{i:Nat}(hN:X.N.Nodup)(hx:X.N[i]?=some x)(hl:Loc X.env.scope x)(hok:l9 X.N X.env.scope scope N' js=true)(hc:X.calm=true)(hi:PI X tg iter wi)(hg:∀cl C s H fp,PG (bY X scope N' cl C s H fp) tg g)
  (ht:∀cl C s H fp,Ke (bY X scope N' cl C s H fp) ifs tt) (he:∀cl C s H fp,PE (bY X scope N' cl C s H fp) elt te)
  (hsw:swapsWith (.ListComp elt [⟨tg,iter,ifs,0⟩] scope pos) (some (.Name x pos')) spos.line X.env=pure true)
  (hf:X.fn x=true\/X.env.scope.names.lookup x=some .local)
  (hs:∀x,foldedSetIterable iter X.env x=pure x):PS X (.Assign [.Name x pos'] (.ListComp elt [⟨tg,iter,ifs,0⟩] scope pos) spos) (JU (Fc wi js g tt te) (ux i)):=by
 intro pins s σ H D I h;have ok:=uJ hok;obtain⟨cl,Ws,hcl1,hcl2⟩:=rM (rN ok I.ok);rw[exec_Assign_Name_used _ _ _ _ hsw];refine aab (wpAny_standAt (aab ?_));show wpAny _ X.A (do let _ <-comprehension (.ListComp elt [⟨tg,iter,ifs,0⟩] scope pos) scope X.env _ (newList []) false (eval iter X.env) (some (assign (.Name x pos') X.env))) _ _ s;refine aab (wpAny_mono (wpAny_comprehension_free (use:=some (assign (.Name x pos') X.env)) (Q:=λ_ s'=>SP X pins D .next s') rfl hs Ws ok.kind ok.names
  (cK (hi pins s σ H _ I h) λxv s1 h1=>cK h1 λitv s2 h2=>?_)) (λ_ s' hq=>aai (aai hq)) λ_ _ e=>e)
 obtain⟨it,fp,tn,J,H2,rfl,I2,T,st2,f2,rd⟩:=h2;refine xT (RR:=λacc C=>compPost (model X.prog X.w) X.A X.xe (some (assign (.Name x pos') X.env)) (λ_ s'=>SP X pins D .next s') acc C) (Q:=λx H1=>ux i x σ H1 D.nx) ok hc I2 T st2 f2 hcl1 hcl2 hg ht he rd ?_;intro E C s' H' m hC J' fC hm q;have XS:C≠X.env.locals:=ne_of_gt (aaq I2.lt hC);have hCc:∀x c,X.env.cells.lookup x=some c->c≠C:=λx c e z=>by
  obtain⟨v,q'⟩:=I2.cell x c e;exact absurd (aaq q'.lt (by rw[z];exact hC)) (lt_irrefl _)
 refine cK (show wpAny _ X.A (assign (.Name x pos') X.env (.ref E)) (λ_ s''=>(∃Dg Mx,Inv X pins Dg Mx s''/\D.nx Dg Mx/\Mx C=none)/\∃m,s''.heap.Ns C m) X.xe s' from ?_) λ_ s'' ⟨⟨Dg,Mx,Wt,ZR,Wu⟩,ZS,NV⟩=>?_
 ·refine wpAny_assign_Name (uw J' hN hx hl (show RelV (.ref E) (.ref E) from rfl) (λs'' Wt ⟨a,Wv,ha⟩=>⟨⟨_,H',Wt,q,fC⟩,m,?_⟩) hf)
  refine hm.sameBut Wv ?_
  rcases ha with z|z
  ·rw[z];exact XS
  ·exact λw=>hCc _ _ z w.symm
 ·refine⟨ZS,NV,λh' hs'=>⟨Dg,Mx,?_,ZR⟩⟩;refine Wt.turned (t':=s''.toks) (λb o hb e=>hs'.extBut b o hb e) Wu XS (.inr (aaH I2.sz hC)) hCc λp hp z=>?_;exact absurd (aaq (aan (I2.pin p hp).1) (by rw[z];exact hC)) (lt_irrefl _)
end
theorem Inv.BJ{X:Cx}{pins:List (Addr×Obj)}{σ:St}{H:Hp}{s:Shared}{h':Heap}{t':Nat}{ch:List Addr}(I:Inv X pins σ H s)(hf:∀b∈ch,qA X pins H b)
  (k:∀b o,b∉ch->s.heap.get? b=some o->h'.get? b=some o):Inv X pins σ H { s with heap:=h',toks:=t' }:=by
 have RG:∀b u,H b=some u->b∉ch:=λb u e z=>by rw[(hf b z).1]at e;cases e
 refine I.step (g':=s.gens) (d':=s.drawn) (ch:=ch) (λb hb=>?_) (λb o _ _ hc e _=>k b o hc e) (λb o _ _ hc e _=>⟨o.slots,k b o hc e⟩) (λ_ _ _ _ n=>n)
  (λb o hc e=>⟨o,k b o hc e⟩) (λ_ _ e=>e) (λ_ _ _ e=>e) (λb ps e=>⟨#[],by rw[e];simp⟩) (λm hm=>?_) (λb u e=>?_) I.bare
 ·exact⟨(hf b hb).2.2.2.1,(hf b hb).2.1,(hf b hb).2.2.2.2.1,(hf b hb).2.2.2.2.2⟩
 ·obtain⟨o,es,ep,ho,r⟩:=hm;exact⟨o,es,ep,k _ o (λz=>(hf _ z).2.1 rfl) ho,r⟩
 ·refine(I.hok b u e).stay (λc v hc q=>k c v ?_ q) (λ_ q=>q) λ_ _ q=>q
  rcases hc with z|z
  ·rw[z];exact RG b u e
  ·exact RG c _ z
end L2
end
section
namespace L2
open PySem PySem.W PyProof.Rows
namespace uK
section
variable {O:KeyOrd} {key:Nat->O.α} {N:Nat} {cmp:Nat->Nat->(Bool->Shared->Prop)->Shared->Prop} {s:Shared}
def K(O:KeyOrd)(key:Nat->O.α)(p:Array Nat)(i:Nat):O.α:=key (p.getD i 0)
def Up(O:KeyOrd)(key:Nat->O.α)(p:Array Nat)(k:Nat):Prop:=∀i j,i<=j->j<k->O.kle (K O key p i) (K O key p j)
def Down(O:KeyOrd)(key:Nat->O.α)(p:Array Nat)(k:Nat):Prop:=∀i j,i<=j->j<k->O.kle (K O key p j) (K O key p i)
def Km(O:KeyOrd)(key:Nat->O.α)(N:Nat)(cmp:Nat->Nat->(Bool->Shared->Prop)->Shared->Prop)(s:Shared):Prop :=
 ∀i j (C:Bool->Shared->Prop),i<N->j<N->C (O.blt (key i) (key j)) s->cmp i j C s
def Ent(N:Nat)(p:Array Nat):Prop:=p.size=N/\0<N/\∀x∈p.toList,x<N
theorem Ent.at{p:Array Nat}(h:Ent N p)(i:Nat):p.getD i 0<N:=by
 by_cases hi:i<p.size
 ·have e:p.getD i 0=p[i]:=by simp[Array.getD,hi]
  rw[e];exact h.2.2 _ (by simp)
 ·have e:p.getD i 0=0:=by simp[Array.getD,hi]
  rw[e];exact h.2.1
theorem Ent.perm{p q:Array Nat}(h:Ent N p)(e:q.Perm p):Ent N q :=
 ⟨e.size_eq.trans h.1,h.2.1,λx hx=>h.2.2 x ((Array.perm_iff_toList_perm.mp e).mem_iff.mp hx)⟩
theorem K_congr{p q:Array Nat}{i j:Nat}(h:p[i]?=q[j]?):K O key p i=K O key q j:=by
 unfold K;rw[Array.getD_eq_getD_getElem?,Array.getD_eq_getD_getElem?,h]
theorem K_bubble{p:Array Nat}{src d:Nat}(hs:src<p.size)(hd:d<=src)(k:Nat) :
  K O key (bubble p src d) k=if k=src-d then K O key p src else if src-d<k/\k<=src then K O key p (k-1) else K O key p k:=by
 have e:=getElem?_bubble hs d hd k
 by_cases h1:k=src-d
 ·rw[aaj h1]at e |-;exact K_congr e
 ·rw[aam h1]at e |-
  by_cases h2:src-d<k/\k<=src
  ·rw[aaj h2]at e |-;exact K_congr e
  ·rw[aam h2]at e |-;exact K_congr e
theorem Fe{p:Array Nat}{i j:Nat}(hj:j<=p.size)(k:Nat):K O key (kas_rev p i j) k=if i<=k/\k<j then K O key p (i+j-1-k) else K O key p k:=by
 have e:=getElem?_mirror_all (i:=i) hj k
 by_cases h1:i<=k/\k<j
 ·rw[aaj h1]at e |-;exact K_congr e
 ·rw[aam h1]at e |-;exact K_congr e
theorem rO{p:Array Nat}{i j:Nat}(hj:j<=p.size)(h:∀k,i<=k->k<j->K O key p k=K O key p (j-1))(k:Nat):K O key (kas_rev p i j) k=K O key p k:=by
 rw[Fe hj]
 split
 ·rw[h _ (by omega) (by omega),h k (by omega) (by omega)]
 ·rfl
theorem xU{p:Array Nat}{m:Nat}(h:∀t,1<=t->t<m->O.kle (K O key p (t-1)) (K O key p t)):Up O key p m:=by
 intro i j hij hj
 induction j with
 |zero=>
  have:i=0:=by omega
  subst this;exact KeyOrd.kle_refl _
 |succ j ih=>
  by_cases e:i=j+1
  ·subst e;exact KeyOrd.kle_refl _
  ·exact KeyOrd.kle_trans (ih (by omega) (by omega)) (h (j+1) (by omega) hj)
theorem NW(hA:Km O key N cmp s){p:Array Nat}(he:Ent N p):∀(f n:Nat) {Q:Nat->Shared->Prop},1<=n ->
  (∀m,n<=m->m<=n+f->(∀t,n<=t->t<m->O.kle (K O key p (t-1)) (K O key p t))->(m<n+f->O.klt (K O key p m) (K O key p (m-1)))->Q m s)->(kas_asc p f n).kasWp cmp Q s
 |0,n,Q,hn,h=>h n (aao _) (aao _) (λt h1 h2=>by omega) λq=>by omega
 | f+1,n,Q,hn,h=>by
  show cmp _ _ _ s;refine hA _ _ _ (he.at _) (he.at _) ?_;cases hb:O.blt (key (p.getD n 0)) (key (p.getD (n-1) 0)) with
  |true=>exact h n (aao _) (by omega) (λt h1 h2=>by omega) λ_=>hb
  |false=>
   show (kas_asc p f (n+1)).kasWp cmp Q s;refine NW hA he f (n+1) (by omega) λm h1 h2 h3 h4=>h m (by omega) (by omega) (λt t1 t2=>?_) λq=>h4 (by omega)
   by_cases e:t=n
   ·subst e;exact hb
   ·exact h3 t (by omega) t2
theorem BK(hA:Km O key N cmp s):∀(f:Nat) (p:Array Nat) (n q:Nat) {Q:Array Nat×Nat×Nat->Shared->Prop},Ent N p->1<=n->n+f<=N->q+1<=n->Down O key p n->(∀i,n-(q+1)<=i->i<n->K O key p i=K O key p (n-1)) ->
  (∀p' n' q',p'.Perm p->Ent N p'->1<=n'->n<=n'->n'<=n+f->q'+1<=n'->Down O key p' n'->(∀i,n'-(q'+1)<=i->i<n'->K O key p' i=K O key p' (n'-1))->Q (p',n',q') s)->(kas_desc f p n q).kasWp cmp Q s
 |0,p,n,q,Q,he,hn,hN,hq,hd,hl,h=>h p n q (Array.Perm.refl _) he hn (aao _) (aao _) hq hd hl
 | f+1,p,n,q,Q,he,hn,hN,hq,hd,hl,h=>by
  show cmp _ _ _ s;refine hA _ _ _ (he.at _) (he.at _) ?_;cases hb:O.blt (key (p.getD n 0)) (key (p.getD (n-1) 0)) with
  |true=>
   have hlt:O.klt (K O key p n) (K O key p (n-1)):=hb;have hd1:Down O key p (n+1):=λi j hij hj=>by
    by_cases e:j=n
    ·subst e
     by_cases e2:i=j
     ·subst e2;exact KeyOrd.kle_refl _
     ·exact KeyOrd.kle_trans (KeyOrd.kle_of_klt hlt) (hd i (j-1) (by omega) (by omega))
    ·exact hd i j hij (by omega)
   show (if q>0 then kas_desc f (kas_rev p (n-(q+1)) n) (n+1) 0 else kas_desc f p (n+1) 0).kasWp cmp Q s
   by_cases XT:q>0
   ·rw[aaj XT]
    have ep:(kas_rev p (n-(q+1)) n).Perm p:=mirror_perm _ _ _ _;have eK:∀k,K O key (kas_rev p (n-(q+1)) n) k=K O key p k:=λk=>rO (by rw[he.1];omega) hl k;refine BK hA f _ (n+1) 0 (he.perm ep) (by omega) (by omega) (by omega) (λi j hij hj=>by rw[eK,eK];exact hd1 i j hij hj) (λi h1 h2=>?_) λp' n' q' g1 g2 g3 g4 g5 g6 g7 g8=>h p' n' q' (g1.trans ep) g2 g3 (by omega) (by omega) g6 g7 g8;have:i=n:=by omega
    subst this;rfl
   ·rw[aam XT]
    refine BK hA f p (n+1) 0 he (by omega) (by omega) (by omega) hd1 (λi h1 h2=>?_) λp' n' q' g1 g2 g3 g4 g5 g6 g7 g8=>h p' n' q' g1 g2 g3 (by omega) (by omega) g6 g7 g8;have:i=n:=by omega
    subst this;rfl
  |false=>
   show cmp _ _ _ s;refine hA _ _ _ (he.at _) (he.at _) ?_;cases hc:O.blt (key (p.getD (n-1) 0)) (key (p.getD n 0)) with
   |true=>exact h p n q (Array.Perm.refl _) he hn (aao _) (by omega) hq hd hl
   |false=>
    have heq:K O key p n=K O key p (n-1):=O.total _ _ hb hc;show (kas_desc f p (n+1) (q+1)).kasWp cmp Q s;refine BK hA f p (n+1) (q+1) he (by omega) (by omega) (by omega) (λi j hij hj=>?_) (λi h1 h2=>?_) λp' n' q' g1 g2 g3 g4 g5 g6 g7 g8=>h p' n' q' g1 g2 g3 (by omega) (by omega) g6 g7 g8
    ·by_cases e:j=n
     ·subst e
      by_cases e2:i=j
      ·subst e2;exact KeyOrd.kle_refl _
      ·rw[heq];exact hd i (j-1) (by omega) (by omega)
     ·exact hd i j hij (by omega)
    ·show K O key p i=K O key p (n+1-1)
     rw[Nat.add_sub_cancel]
     by_cases e:i=n
     ·subst e;rfl
     ·rw[heq];exact hl i (by omega) (by omega)
theorem Ff(hA:Km O key N cmp s){p:Array Nat}{n nrem:Nat}(he:Ent N p)(h1:1<=n)(hn:n<=nrem)(hr:nrem<=N)(hd:Down O key p n)
  (h:∀m p',p'.Perm p->Ent N p'->1<=m->m<=nrem->Up O key p' m->Q (m,p') s):(kas_tail3 n nrem p).kasWp cmp Q s:=by
 unfold kas_tail3;rw[KasT.kasWp_bind];have ep:(kas_rev p 0 n).Perm p:=mirror_perm _ _ _ _;have hz:n<=p.size:=by rw[he.1];omega
 refine NW hA (he.perm ep) _ _ h1 λm a1 a2 a3 _=>h m _ ep (he.perm ep) (by omega) (by omega) (xU λt t1 t2=>?_)
 by_cases e:t<n
 ·rw[Fe hz,Fe hz,aaj (by omega),aaj (by omega)];exact hd _ _ (by omega) (by omega)
 ·exact a3 t (by omega) t2
theorem uL(hA:Km O key N cmp s){p:Array Nat}{n nrem:Nat}(he:Ent N p)(hn:n+1<=nrem)(hr:nrem<=N)(hd:Down O key p (n+1))
  (h:∀m p',p'.Perm p->Ent N p'->1<=m->m<=nrem->Up O key p' m->Q (m,p') s):(kas_descPart n nrem p).kasWp cmp Q s:=by
 unfold kas_descPart;rw[KasT.kasWp_bind];have Sw:∀i,n+1-(0+1)<=i->i<n+1->K O key p i=K O key p (n+1-1):=λi h1 h2=>by
  have e:i=n:=by omega
  subst e;rfl
 refine BK hA (nrem-(n+1)) p (n+1) 0 he (by omega) (by omega) (by omega) hd Sw λp' n' q' g1 g2 g3 g4 g5 g6 g7 g8=>?_;show (if q'>0 then kas_tail3 n' nrem (kas_rev p' (n'-(q'+1)) n') else kas_tail3 n' nrem p').kasWp cmp Q s
 by_cases hq:q'>0
 ·rw[aaj hq];have ep:(kas_rev p' (n'-(q'+1)) n').Perm p':=mirror_perm _ _ _ _;have eK:∀k,K O key (kas_rev p' (n'-(q'+1)) n') k=K O key p' k:=λk=>rO (by rw[g2.1];omega) g8 k;exact Ff hA (g2.perm ep) g3 (by omega) hr (λi j hij hj=>by rw[eK,eK];exact g7 i j hij hj) λm p'' a1 a2 a3 a4 a5=>h m p'' ((a1.trans ep).trans g1) a2 a3 a4 a5
 ·rw[aam hq];exact Ff hA g2 g3 (by omega) hr g7 λm p'' a1 a2 a3 a4 a5=>h m p'' (a1.trans g1) a2 a3 a4 a5
theorem NX(hA:Km O key N cmp s){p:Array Nat}{nrem:Nat}(he:Ent N p)(h1:1<=nrem)(hr:nrem<=N)
  (h:∀m p',p'.Perm p->Ent N p'->1<=m->m<=nrem->Up O key p' m->Q (m,p') s):(kas_count nrem p).kasWp cmp Q s:=by
 unfold kas_count;rw[KasT.kasWp_bind];refine NW hA he _ _ (aao _) λn a1 a2 a3 a4=>?_;have hup:Up O key p n:=xU λt t1 t2=>a3 t t1 t2
 by_cases e1:(n==nrem)=true
 ·rw[aaj e1];exact h n p (Array.Perm.refl _) he a1 (by omega) hup
 ·rw[aam e1]
  have e1':n≠nrem:=λz=>e1 (by simp[z]);have hlt:O.klt (K O key p n) (K O key p (n-1)):=a4 (by omega)
  by_cases e2:n>1
  ·rw[aaj e2]
   show cmp _ _ _ s;refine hA _ _ _ (he.at _) (he.at _) ?_;cases hc:O.blt (key (p.getD 0 0)) (key (p.getD (n-1) 0)) with
   |true=>exact h n p (Array.Perm.refl _) he a1 (by omega) hup
   |false=>
    have hle:O.kle (K O key p (n-1)) (K O key p 0):=hc;have ep:(kas_rev p 0 n).Perm p:=mirror_perm _ _ _ _;have hall:∀k,0<=k->k<n->K O key p k=K O key p (n-1):=λk _ hk=>
     KeyOrd.kle_antisymm (hup k (n-1) (by omega) (by omega)) (KeyOrd.kle_trans hle (hup 0 k (by omega) hk))
    have eK:∀k,K O key (kas_rev p 0 n) k=K O key p k:=λk=>rO (by rw[he.1];omega) hall k;show (kas_descPart n nrem (kas_rev p 0 n)).kasWp cmp Q s;refine uL hA (he.perm ep) (by omega) hr (λi j hij hj=>?_) λm p' b1 b2 b3 b4 b5=>h m p' (b1.trans ep) b2 b3 b4 b5;rw[eK,eK]
    by_cases ej:j=n
    ·subst ej
     by_cases ei:i=j
     ·subst ei;exact KeyOrd.kle_refl _
     ·rw[hall i (by omega) (by omega)];exact KeyOrd.kle_of_klt hlt
    ·rw[hall i (by omega) (by omega),hall j (by omega) (by omega)];exact KeyOrd.kle_refl _
  ·rw[aam e2]
   have en:n=1:=by omega
   subst en;refine uL hA he (by omega) hr (λi j hij hj=>?_) λm p' b1 b2 b3 b4 b5=>h m p' b1 b2 b3 b4 b5
   by_cases ei:i=j
   ·subst ei;exact KeyOrd.kle_refl _
   ·have:i=0/\j=1:=by omega
    obtain⟨rfl,rfl⟩:=this;exact KeyOrd.kle_of_klt hlt
theorem Ar(hA:Km O key N cmp s){p:Array Nat}{k:Nat}(he:Ent N p)(hs:Up O key p k):∀(f l r:Nat) {Q:Nat->Shared->Prop},l<=r->r<=k->r-l<=f ->
  (∀i,i<l->O.kle (K O key p i) (K O key p k))->(∀i,r<=i->i<k->O.klt (K O key p k) (K O key p i)) ->
  (∀l',l'<=k->(∀i,i<l'->O.kle (K O key p i) (K O key p k))->(∀i,l'<=i->i<k->O.klt (K O key p k) (K O key p i))->Q l' s)->(kas_place p k f l r).kasWp cmp Q s
 | 0,l,r,Q,hlr,hrk,hf,hlo,hhi,h=>by
  have:l=r:=by omega
  subst this;exact h l hrk hlo hhi
 | f+1,l,r,Q,hlr,hrk,hf,hlo,hhi,h=>by
  show (if l≥r then KasT.ret l else _).kasWp cmp Q s
  by_cases hge:l≥r
  ·rw[aaj hge]
   have:l=r:=by omega
   subst this;exact h l hrk hlo hhi
  ·rw[aam hge]
   show cmp _ _ _ s;refine hA _ _ _ (he.at _) (he.at _) ?_;cases hb:O.blt (key (p.getD k 0)) (key (p.getD ((l+r)/2) 0)) with
   |true=>show (kas_place p k f l ((l+r)/2)).kasWp cmp Q s;exact Ar hA he hs f l ((l+r)/2) (by omega) (by omega) (by omega) hlo (λi h1 h2=>KeyOrd.klt_of_klt_of_kle hb (hs _ _ h1 h2)) h
   |false=>show (kas_place p k f ((l+r)/2+1) r).kasWp cmp Q s;exact Ar hA he hs f ((l+r)/2+1) r (by omega) (by omega) (by omega) (λi h1=>KeyOrd.kle_trans (hs i ((l+r)/2) (by omega) (by omega)) hb) hhi h
theorem Sx(hA:Km O key N cmp s):∀(f:Nat) (p:Array Nat) (k:Nat) {Q:Array Nat->Shared->Prop},Ent N p->k+f<=N->Up O key p k->(∀p',p'.Perm p->Up O key p' (k+f)->Q p' s)->(kas_bin f p k).kasWp cmp Q s
 |0,p,k,Q,he,hk,hs,h=>h p (Array.Perm.refl _) hs
 | f+1,p,k,Q,he,hk,hs,h=>by
  show ((kas_place p k k 0 k).bind λl=>kas_bin f (bubble p k (k-l)) (k+1)).kasWp cmp Q s;rw[KasT.kasWp_bind];refine Ar hA he hs k 0 k (by omega) (by omega) (by omega) (λi hi=>by omega) (λi h1 h2=>by omega) λl hl hlo hhi=>?_;have ep:(bubble p k (k-l)).Perm p:=bubble_perm _ _ _;have hks:k<p.size:=by rw[he.1];omega
  refine Sx hA f _ (k+1) (he.perm ep) (by omega) (λi j hij hj=>?_) λp' a1 a2=>h p' (a1.trans ep) (by rwa [show k+(f+1)=k+1+f by omega]);rw[K_bubble hks (by omega),K_bubble hks (by omega),show k-(k-l)=l by omega]
  repeat' split
  all_goals first
   |(exfalso;omega)
   |exact KeyOrd.kle_refl _
   |exact hlo _ (by omega)
   |exact KeyOrd.kle_of_klt (hhi _ (by omega) (by omega))
   |exact hs _ _ (by omega) (by omega)
theorem Sy(hA:Km O key N cmp s)(h1:1<=N)(h:∀p,p.Perm (toArray (List.range N))->Up O key p N->Q p s):(kas_sort N).kasWp cmp Q s:=by
 unfold kas_sort;rw[KasT.kasWp_bind];have he:Ent N (toArray (List.range N)):=⟨by simp,h1,λx hx=>by simpa using hx⟩;refine NX hA he h1 (aao _) λm p a1 a2 a3 a4 a5=>?_;show (if m<N then kas_bin (N-max m 1) p (max m 1) else KasT.ret p).kasWp cmp Q s;have em:max m 1=m:=by omega
 by_cases hlt:m<N
 ·rw[aaj hlt,em];exact Sx hA _ p m a2 (by omega) a5 λp' b1 b2=>h p' (b1.trans a1) (by rwa [show m+(N-m)=N by omega]at b2)
 ·rw[aam hlt]
  have:m=N:=by omega
  subst this;exact h p a1 a5
end
end uK
namespace uK
theorem fm{α:Type}(l:List α)(d:α):(List.range l.length).map (λi=>l.getD i d)=l:=by
 refine ext_getElem (by simp) λi h1 h2=>?_;simp[h2]
section
variable {prog:Program} {w:World} {A:Around} {E:Value->Shared->Prop} {s:Shared}
def uM(prog:Program)(w:World)(A:Around)(O:KeyOrd)(key:Nat->O.α)(vs:List Value)(s6:Shared):Prop :=
 wpAny (model prog w) A (keyKind' vs.toArray) (λκ s'=>s'=s6/\Km O key vs.length (kas_ask prog w A κ vs) s6) (λ_ _=>False) s6
structure Fg (O:KeyOrd) (key:Nat->O.α) (n:Nat) (p:List Nat):Prop where
 perm:p.Perm (List.range n)
 up:(p.map key).Pairwise O.kle
theorem Kn{n:Nat}{p:Array Nat}(h1:p.Perm (toArray (List.range n)))(h2:Up O key p n):Fg O key n p.toList:=by
 have hp:p.toList.Perm (List.range n):=by simpa using Array.perm_iff_toList_perm.mp h1
 refine⟨hp,List.pairwise_iff_getElem.mpr λi j hi hj hij=>?_⟩;have hz:p.toList.length=n:=by rw[hp.length_eq,aaU]
 rw[aaf]at hi hj;have q:=h2 i j (le_of_lt hij) (by omega);have ei:p.getD i 0=p.toList[i]:=by simp at hi;simp[Array.getD,hi]
 have ej:p.getD j 0=p.toList[j]:=by simp at hj;simp[Array.getD,hj]
 unfold K at q;rw[ei,ej]at q;rw[getElem_map,getElem_map];exact q
theorem Fi{n:Nat}(ho:s.heap.get? a=some (seqObj "list" vs.toArray n))(h64:vs.length<64)
  (hk:2<=vs.length->∀h6:Heap,(∀b o,b≠a->s.heap.get? b=some o->h6.get? b=some o)->uM prog w A O key vs { s with heap:=h6 })
  (h:∀p,Fg O key vs.length p->P (.done (.ret .none)) { s with heap:=sortedHeap s.heap a vs (p.map λi=>vs.getD i Value.none).toArray }) :
  wpAny (model prog w) A (Builtin.«list.sort» ⟨[.ref a],[]⟩) P E s:=by
 have alt:a<s.heap.objs.size:=aan ho;have big:vs.length<=sizeLine:=by rw[sizeLine_eq];omega
 rw[list_sort_plain];apply aab;apply listItems_at ho rfl;apply aab;refine listUpdate_at ho rfl ?_ (by rw[aax];exact big) (zero_le _);have q1:=get?_update_seq ho (λ_=>(#[]:Array Value));apply aab;apply seqEpoch_at q1 rfl;apply aab;refine wpAny_newTuple ?_ (by show vs.length<=sizeLine;exact big);apply aab;refine wpAny_newList ?_ (zero_le _);apply wpAny_holding;generalize hN:((s.heap.update a (Obj.mapSeq λ_=>(#[]:Array Value))).push (seqObj "tuple" vs.toArray 0)).push (seqObj "list" #[] 0)=h6;have Sz:∀b o,b≠a->s.heap.get? b=some o->h6.get? b=some o:=λb o hb e=>by
  rw[<-hN];refine aae _ (aae _ ?_);rw[Heap.get?_update_ne _ _ _ _ hb];exact e
 have q6:h6.get? a=some (seqObj "list" #[] (if (#[]:Array Value).size==vs.toArray.size then n else n+1)):=by rw[<-hN];exact aae _ (aae _ q1)
 have eS:∀out,h6.update a (Obj.mapSeq λ_=>out)=sortedHeap s.heap a vs out:=λout=>by rw[<-hN];rfl
 show wpAny (model prog w) A _ P E { s with heap:=h6 };dsimp only
 by_cases h2:vs.toArray.size<2
 ·rw[aaj h2,aaj h2]
  apply aab;apply aai;rw[StateT.run_pure];apply aab;apply aai;dsimp only;have eo:(arrOf (SortSt.mk' general' (vs.toArray.zip vs.toArray) #[] 7 none)).map (·.2)=vs.toArray:=by show (vs.toArray.zip vs.toArray).map (·.2)=vs.toArray;apply Array.toList_inj.mp;simp[List.map_snd_zip]
  rw[eo];apply aab;apply seqEpoch_at q6 rfl;apply aab;refine listUpdate_at q6 rfl ?_ (zero_le _) (by show vs.toArray.size<=_;rw[aax];omega);have hb:((if (#[]:Array Value).size==vs.toArray.size then n else n+1) != (if (#[]:Array Value).size==vs.toArray.size then n else n+1))=false:=by simp
  rw[eS];simp only[hb,false_eq_true,if_false];apply aai;have g:=h (List.range vs.length) ⟨List.Perm.refl _,?_⟩
  ·rw[fm]at g;exact g
  ·rw[aax]at h2;refine List.pairwise_iff_getElem.mpr λi j hi hj hij=>?_;simp at hi hj;omega
 ·rw[aam h2,aam h2]
  rw[aax]at h2;have ask:=hk (by omega) h6 Sz;apply aab;refine wpAny_mono ask (λκ s0 hκ=>?_) λ_ _ x=>x.elim;obtain⟨rfl,ZT⟩:=hκ;apply aab;refine wpAny_mono (kat_run (Q:=λst' s'=>s'={ s with heap:=h6 }/\∃p:Array Nat,Fg O key vs.length p.toList/\p.size=vs.length/\(arrOf st').map (·.2)=(p.toList.map λi=>vs.getD i Value.none).toArray/\failedOf st'=none)
   (G:=λp s'=>s'={ s with heap:=h6 }/\Fg O key vs.length p.toList) rfl (by omega) h64 (λp st' s' a1 a2 a3 a4=>⟨a4.1,p,a4.2,a1,kat_snds rfl a2,a3⟩)
   (Sy ZT (by omega) λp b1 b2=>⟨rfl,Kn b1 b2⟩)) ?_ λ_ _ x=>x
  rintro⟨⟨⟩,st'⟩ s' ⟨rfl,p,op,pz,er,ef⟩;dsimp only;rw[er];apply aab;apply seqEpoch_at q6 rfl;apply aab;refine listUpdate_at q6 rfl ?_ (zero_le _) (by show (toArray _).size<=_;rw[aax,aaf,aaK,pz];omega);have hb:((if (#[]:Array Value).size==vs.toArray.size then n else n+1) != (if (#[]:Array Value).size==vs.toArray.size then n else n+1))=false:=by simp
  rw[eS,ef];simp only[hb,false_eq_true,if_false];exact aai (h p.toList op)
theorem kU
  (h:wpAny (model prog w) A.in1 (collect x) (λvs s1=>vs.length<64/\∃key:Nat->O.α,(2<=vs.length->∀h6:Heap,(∀b o,s1.heap.get? b=some o->h6.get? b=some o)->uM prog w A.in1.in1 O key vs { s1 with heap:=h6 }) /\
   ∀p h',Fg O key vs.length p->(∀b o,s1.heap.get? b=some o->h'.get? b=some o)->(∃e,h'.get? s1.heap.objs.size=some (seqObj "list" (p.map λi=>vs.getD i Value.none).toArray e))->Q (.ref s1.heap.objs.size) { s1 with heap:=h' }) E s) :
  wpAny (model prog w) A (call (.builtin "sorted") [x]) Q E s:=by
 refine Calls.call_function_entry kind_sorted plain_sorted entry_sorted (args_sorted1 _) ?_;unfold Builtin.«sorted»;refine aab (m:=checkCount "sorted" 1 1 _) (aai ?_);apply aab;refine wpAny_mono h (λvs s1 ⟨h64,key,hk,hq⟩=>?_) λ_ _ z=>z;have big:vs.length<=sizeLine:=by rw[sizeLine_eq];omega
 apply aab;refine wpAny_newList ?_ big;have q:(s1.heap.push (seqObj "list" vs.toArray 0)).get? s1.heap.objs.size=some (seqObj "list" vs.toArray 0):=aav _ rfl;apply aab;apply wpAny_holding;refine wpAny_call_entry (s:={ s1 with heap:=s1.heap.push (seqObj "list" vs.toArray 0) }) slot_list_sort ⟨_,q,rfl⟩ entry_list_sort ?_ (args_list_sort _);refine Fi (key:=key) (s:={ s1 with heap:=s1.heap.push (seqObj "list" vs.toArray 0) }) q h64 (λh2 h6 k6=>?_) λp op=>⟨_,rfl,aai ⟨_,rfl,?_⟩⟩
 ·exact hk h2 h6 λb o e=>k6 b o (aau (aan e)) (aae _ e)
 ·refine hq p _ op (λb o e=>?_) (sortedHeap_at q);rw[sortedHeap_old (aau (aan e)) (by rw[size_push'];exact lt_succ_of_lt (aan e))];exact aae _ e
end
def As:KeyOrd where
 α:=Int
 blt:=λa b=>decide (a<b)
 irrefl:=λa=>by simp
 trans:=λa b c h1 h2=>by simp at *;omega
 negTrans:=λa b c h=>by simp at *;omega
 total:=λa b h1 h2=>by simp at *;omega
theorem Au{s6:Shared}{ns:List Int}(hI:IntsAre vs ns)(h2:2<=vs.length):uM prog w A As (λi=>ns.getD i 0) vs s6:=by
 have at_:∀i,i<vs.length->∃t,vs.getD i Value.none=.int (ns.getD i 0) t:=by
  intro i hi
  induction hI generalizing i with
  |nil=>simp at hi
  |cons z t r ih=>
   cases i with
   |zero=>exact⟨t,by simp⟩
   |succ i=>
    by_cases hr:2<=1
    ·omega
    ·simp only[length_cons]at hi
     have aux:∀{vs:List Value} {ns:List Int},IntsAre vs ns->∀i,i<vs.length->∃t,vs.getD i Value.none=.int (ns.getD i 0) t:=by
      intro vs ns q
      induction q with
      |nil=>intro i hi;simp at hi
      |cons z t r ih=>
       intro i hi;cases i with
       |zero=>exact⟨t,by simp⟩
       |succ i=>simp only[length_cons]at hi;obtain⟨u,e⟩:=ih i (by omega);exact⟨u,by simpa using e⟩
     obtain⟨u,e⟩:=aux r i (by omega);exact⟨u,by simpa using e⟩
 obtain⟨v₁,v₂,rest,rfl⟩:∃v₁ v₂ rest,vs=v₁::v₂::rest:=by
  match vs,h2 with
  |v₁::v₂::rest,_=>exact⟨v₁,v₂,rest,rfl⟩
 unfold uM;rw[keyKind_ints hI];refine aai ⟨rfl,λi j C hi hj hc=>?_⟩;obtain⟨t,e1⟩:=at_ i hi;obtain⟨u,e2⟩:=at_ j hj;unfold kas_ask;rw[e1,e2,keyLt'_oneType];exact oneLt_int hc
theorem jU:∀a,HT.lexLt a a=false
 |[]=>rfl
 |x::xs=>by rw[HT.ie,aaj rfl];exact jU xs
theorem jb:∀a b,HT.lexLt a b=false->HT.lexLt b a=false->a=b
 |[],[],_,_=>rfl
 |[],_::_,h,_=>by rw[HT.iu]at h;cases h
 |_::_,[],_,h=>by rw[HT.iu]at h;cases h
 | x::xs,y::ys,h1,h2=>by
  rw[HT.ie]at h1 h2
  by_cases e:x=y
  ·subst e;rw[aaj rfl]at h1 h2;rw[jb xs ys h1 h2]
  ·rw[aam e]at h1;rw[aam (λz=>e z.symm)]at h2;simp at h1 h2;omega
theorem jc:∀a b c,HT.lexLt a b=true->HT.lexLt b c=true->HT.lexLt a c=true
 |[],[],c,h,_=>by rw[HT.tW]at h;cases h
 |[],_::_,[],_,h=>by rw[HT.fk]at h;cases h
 |[],_::_,_::_,_,_=>rfl
 |_::_,[],_,h,_=>by rw[HT.fk]at h;cases h
 |_::_,_::_,[],_,h=>by rw[HT.fk]at h;cases h
 | x::xs,y::ys,z::zs,h1,h2=>by
  rw[HT.ie]at h1 h2 |-
  by_cases e1:x=y
  ·subst e1
   rw[aaj rfl]at h1
   by_cases e2:x=z
   ·subst e2;rw[aaj rfl]at h2 |-;exact jc xs ys zs h1 h2
   ·rw[aam e2]at h2 |-;exact h2
  ·rw[aam e1]at h1
   by_cases e2:y=z
   ·subst e2;rw[aam e1];exact h1
   ·rw[aam e2]at h2;simp at h1 h2;rw[aam (by omega)];simp;omega
theorem uN(a b c:List Int)(h:HT.lexLt a c=true):HT.lexLt a b=true\/HT.lexLt b c=true:=by
 cases h1:HT.lexLt a b with
 |true=>exact .inl rfl
 |false=>
  cases h2:HT.lexLt b c with
  |true=>exact .inr rfl
  |false=>
   cases h3:HT.lexLt b a with
   |true=>have:=jc _ _ _ h3 h;rw[h2]at this;cases this
   |false=>rw[jb _ _ h1 h3]at h;rw[h2]at h;cases h
def lexOrd:KeyOrd where
 α:=List Int
 blt:=HT.lexLt
 irrefl:=jU
 trans:=jc
 negTrans:=uN
 total:=jb
section
variable {prog:Program} {w:World} {A:Around} {s:Shared}
theorem pY{b fin:Bool}:∀{us vs:List Value} {ns ms:List Int} (i:Nat),IntsAre us ns->IntsAre vs ms->(ns.length<ms.length↔fin=true)->us.length=ns.length ->
  Q (HT.lexLt ns ms) s->(ns.length=ms.length\/i=i)->(∀k,k<ns.length->k<ms.length->True)->(ns.length≠ms.length->True)->(fin=decide (ns.length<ms.length))->KatLex prog w A b fin Q (us.zip vs) i s
 | _,_,_,_,i,.nil,.nil,_,_,hq,_,_,_,hf=>by
  refine kat_nil ?_;rw[hf];exact hq
 | _,_,_,_,i,.nil,.cons _ _ _,_,_,hq,_,_,_,hf=>by
  refine kat_nil ?_;rw[hf];simpa [HT.iu] using hq
 | _,_,_,_,i,.cons _ _ _,.nil,_,_,hq,_,_,_,hf=>by
  refine kat_nil ?_;rw[hf];simpa [HT.fk] using hq
 | _,_,_,_,i,.cons x t r,.cons y u r',h1,h2,hq,_,_,_,hf=>by
  refine kat_cons (wpAny_eqBool_int ?_);rw[HT.ie]at hq
  by_cases e:x=y
  ·subst e
   rw[aaj rfl]at hq;rw[beq_self_eq_true];refine kat_yes (pY (i+1) r r' ?_ ?_ hq (.inr rfl) (λ_ _ _=>trivial) (λ_=>trivial) ?_)
   ·simpa using h1
   ·simpa using h2
   ·rw[hf];simp
  ·rw[aam e]at hq
   rw[show (x==y)=false from beq_eq_false_iff_ne.mpr e];refine kat_no ?_;cases hb:(b&&i==0) with
   |true=>exact oneLt_int hq
   |false=>exact kat_one _ _ (PyProof.Rows.lt_int hq)
end
end uK
end L2
end
section
namespace L2
open PySem PySem.Spec PyProof.Rows
def Ww:Key->PyData
 |.inl i=>.int i
 |.inr x=>.str x
mutual
noncomputable def Den(K:Frag)(H:Hp):PyData->V->Prop
 |.none,v=>v=.non
 |.bool b,v=>v=.bl b
 |.int i,v=>v=.int i
 |.str x,v=>v=.str x
 |.list ds,v=>∃a xs,v=.ref a/\gR K H a xs/\ff K H ds xs
 |.tuple ds,v=>∃a xs,v=.ref a/\kO K H a xs/\ff K H ds xs
 |.dict kvs,v=>∃a ks,v=.ref a/\H a=some (.dK ks)/\nV K H kvs ks
noncomputable def ff(K:Frag)(H:Hp):List PyData->List V->Prop
 |[],xs=>xs=[]
 |d::ds,xs=>∃x r,xs=x::r/\Den K H d x/\ff K H ds r
noncomputable def nV(K:Frag)(H:Hp):List (PyData×PyData)->List (Key×V)->Prop
 |[],ks=>ks=[]
 |(k,d)::r,ks=>∃key x rest,ks=(key,x)::rest/\k=Ww key/\Den K H d x/\nV K H r rest
end
theorem Ao.tup{K:Frag}{H H':Hp}{a:Addr}{xs:List V}(e:Ao H H')(h:kO K H a xs):kO K H' a xs:=by
 rcases h with (h|⟨o,h⟩)|h
 ·exact .inl (.inl (e _ _ h))
 ·exact .inl (.inr ⟨o,e _ _ h⟩)
 ·exact .inr h
section
variable {K:Frag} {H H':Hp}
mutual
theorem Den.same(e:Ao H H'):∀(d:PyData) (v:V),Den K H d v->Den K H' d v
 |.none,_,h=>by rw[Den]at h |-;exact h
 |.bool _,_,h=>by rw[Den]at h |-;exact h
 |.int _,_,h=>by rw[Den]at h |-;exact h
 |.str _,_,h=>by rw[Den]at h |-;exact h
 | .list ds,v,h=>by
  rw[Den]at h |-;obtain⟨a,xs,q1,q2,q3⟩:=h;exact⟨a,xs,q1,e.seq q2,ff.same e ds xs q3⟩
 | .tuple ds,v,h=>by
  rw[Den]at h |-;obtain⟨a,xs,q1,q2,q3⟩:=h;exact⟨a,xs,q1,e.tup q2,ff.same e ds xs q3⟩
 | .dict kvs,v,h=>by
  rw[Den]at h |-;obtain⟨a,ks,q1,q2,q3⟩:=h;exact⟨a,ks,q1,e _ _ q2,nV.same e kvs ks q3⟩
theorem ff.same(e:Ao H H'):∀(ds:List PyData) (xs:List V),ff K H ds xs->ff K H' ds xs
 |[],_,h=>by rw[ff]at h |-;exact h
 | d::ds,xs,h=>by
  rw[ff]at h |-;obtain⟨x,r,q1,q2,q3⟩:=h;exact⟨x,r,q1,Den.same e d x q2,ff.same e ds r q3⟩
theorem nV.same(e:Ao H H'):∀(kvs:List (PyData×PyData)) (ks:List (Key×V)),nV K H kvs ks->nV K H' kvs ks
 |[],_,h=>by rw[nV]at h |-;exact h
 | (k,d)::r,ks,h=>by
  rw[nV]at h |-;obtain⟨key,x,rest,q1,q2,q3,q4⟩:=h;exact⟨key,x,rest,q1,q2,Den.same e d x q3,nV.same e r rest q4⟩
end
theorem ff.nil:ff K H [] []:=by rw[ff]
theorem ff.cons{d:PyData}{ds:List PyData}{x:V}{r:List V}(h1:Den K H d x)(h2:ff K H ds r):ff K H (d::ds) (x::r):=by rw[ff];exact⟨x,r,rfl,h1,h2⟩
theorem Den.int{i:Int}:Den K H (.int i) (.int i):=by rw[Den]
theorem Den.str:Den K H (.str x) (.str x):=by rw[Den]
theorem Den.bool{b:Bool}:Den K H (.bool b) (.bl b):=by rw[Den]
theorem Den.none:Den K H .none .non:=by rw[Den]
theorem Den.list(h:gR K H a xs)(q:ff K H ds xs):Den K H (.list ds) (.ref a):=by rw[Den];exact⟨a,xs,rfl,h,q⟩
theorem Den.tuple(h:kO K H a xs)(q:ff K H ds xs):Den K H (.tuple ds) (.ref a):=by rw[Den];exact⟨a,xs,rfl,h,q⟩
end
section
variable {X:Cx} {pins:List (Addr×Obj)} {σ:St} {H:Hp} {s:Shared}
mutual
theorem Den.reads(I:Inv X pins σ H s):∀(d:PyData) (v:V) (u:Value),d.canLay0=true->Den X.K H d v->RelV v u->∃as,Reads s.heap u d as
 |.none,v,u,_,h,r=>by rw[Den]at h;subst h;cases r;exact⟨_,.none⟩
 |.bool b,v,u,_,h,r=>by rw[Den]at h;subst h;cases r;exact⟨_,.bool b⟩
 |.int i,v,u,_,h,r=>by rw[Den]at h;subst h;obtain⟨t,rfl⟩:=r;exact⟨_,.int i t⟩
 |.str x,v,u,_,h,r=>by rw[Den]at h;subst h;obtain⟨t,rfl⟩:=r;exact⟨_,.str x t⟩
 | .list ds,v,u,c,h,r=>by
  rw[Den]at h;obtain⟨a,xs,rfl,q1,q2⟩:=h;cases r;obtain⟨its,rv,⟨o,n,e1,e2,_,e3⟩,_⟩:=I.list q1;obtain⟨as,ra⟩:=ff.reads I ds xs its (by simpa [PyData.canLay0] using c) q2 rv;exact⟨_,.list e1 e2 e3 (by simpa using ra)⟩
 | .tuple ds,v,u,c,h,r=>by
  rw[Den]at h;obtain⟨a,xs,rfl,q1,q2⟩:=h;cases r;obtain⟨its,rv,⟨o,e1,e2,n,e3⟩,_⟩:=I.tuple q1;obtain⟨as,ra⟩:=ff.reads I ds xs its (by simpa [PyData.canLay0] using c) q2 rv;exact⟨_,.tuple e1 e2 e3 (by simpa using ra)⟩
 |.dict _,_,_,c,_,_=>by simp[PyData.canLay0]at c
theorem ff.reads(I:Inv X pins σ H s):∀(ds:List PyData) (xs:List V) (us:List Value),PyData.canLayAll0 ds=true->ff X.K H ds xs->Vals xs us->∃as,ReadsAll s.heap us ds as
 |[],xs,us,_,h,r=>by rw[ff]at h;subst h;cases r;exact⟨_,.nil⟩
 | d::ds,xs,us,c,h,r=>by
  have c':d.canLay0=true/\PyData.canLayAll0 ds=true:=by simpa [PyData.canLayAll0] using c
  rw[ff]at h;obtain⟨x,rest,rfl,q1,q2⟩:=h;cases r with
  |cons r1 r2=>obtain⟨as,ra⟩:=Den.reads I d x _ c'.1 q1 r1;obtain⟨bs,rb⟩:=ff.reads I ds rest _ c'.2 q2 r2;exact⟨_,.cons ra rb⟩
end
end
section
variable {X:Cx}
def Wx(K:Frag):R2:=λx y H Q=>∃d e,Den K H d x/\Den K H e y/\d.canLay0=true/\e.canLay0=true/\d.depth<=60/\Q (.bl (PyData.eqv d e)) H
def Wy(K:Frag):R2:=λx y H Q=>∃d e,Den K H d x/\Den K H e y/\d.canLay0=true/\e.canLay0=true/\d.depth<=60/\Q (.bl (!PyData.eqv d e)) H
theorem NY(hu:X.A.units+64<cLine):qO X (compareOp .Eq) (Wx X.K):=by
 intro pins s σ H x y v u Q I rx ry h;obtain⟨d,e,hd,he,c1,c2,hz,q⟩:=h;obtain⟨as,ra⟩:=Den.reads I d x v c1 hd rx;obtain⟨bs,rb⟩:=Den.reads I e y u c2 he ry;exact SeqAt.compareEq_reads ra rb c1 c2 (by have:=Nat.min_le_left d.depth e.depth;omega) ⟨.bl _,H,I,rfl,q⟩
theorem NZ(hu:X.A.units+64<cLine):qO X (compareOp .NotEq) (Wy X.K):=by
 intro pins s σ H x y v u Q I rx ry h;obtain⟨d,e,hd,he,c1,c2,hz,q⟩:=h;obtain⟨as,ra⟩:=Den.reads I d x v c1 hd rx;obtain⟨bs,rb⟩:=Den.reads I e y u c2 he ry;exact SeqAt.compareNe_reads ra rb c1 c2 (by have:=Nat.min_le_left d.depth e.depth;omega) ⟨.bl _,H,I,rfl,q⟩
theorem rP{ns:List Int}(I:Inv X pins σ H s)(hq:gR X.K H p (ns.map V.int))(h64:ns.length<64)
  (q:∀l,H l=none->Q (.ref l) (upd H l (.lst ((sortI ns).map V.int)))):wpAny (model X.prog X.w) X.A (call (.builtin "sorted") [.ref p]) (EP X pins σ Q) X.xe s:=by
 obtain⟨its,rv,pl,hz⟩:=I.list hq;have hi:=intsAre_of rv;have hl:=hi.length;refine sorted_ints pl.isList hi (by omega) λout ns' a1 a2 a3=>?_;obtain⟨e,he⟩:=sortedAll_at s.heap its out;have es:ns'=sortI ns:=eq_sortI a2 a3;subst es;have hn:H (s.heap.objs.size+1)=none:=I.hok.fresh (le_succ _);refine⟨.ref (s.heap.objs.size+1),_,I.laid (t':=s.toks) (λb o z=>sortedAll_old z) (le_succ _) (show cB X.prog X.w _ _ _ (.lst ((sortI ns).map V.int)) from⟨?_,out.toList,e,l8 a1,by simpa using he⟩),rfl,q _ hn⟩;rw[aaf,(sortI_perm ns).length_eq,sizeLine_eq];omega
theorem oY:cW X (.builtin "sorted") (λxs H Q=>∃p ns,xs=[.ref p]/\gR X.K H p (ns.map V.int)/\ns.length<64/\∀l,H l=none->Q (.ref l) (upd H l (.lst ((sortI ns).map V.int)))):=by
 intro pins s σ H xs us Q I r h;obtain⟨p,ns,rfl,hq,h64,q⟩:=h;obtain⟨u,rfl,ru⟩:=vals1 r;cases ru;exact rP I hq h64 q
def SA(K:Frag)(H:Hp)(r:Addr×List Int):Prop:=kO K H r.1 (r.2.map V.int)/\r.2≠[]
theorem Av{pins:List (Addr×Obj)}{σ:St}{H:Hp}{s:Shared}{A:Around}{rs:List (Addr×List Int)}{h6:Heap}{s6:Shared}(I:Inv X pins σ H s)(ht:∀r∈rs,SA X.K H r)(h2:2<=rs.length)(k:∀b o,s.heap.get? b=some o->s6.heap.get? b=some o) :
  uK.uM X.prog X.w A uK.lexOrd (λi=>(rs.getD i (0,[])).2) (rs.map λr=>Value.ref r.1) s6:=by
 have tup:∀r∈rs,∃its o n,s6.heap.get? r.1=some o/\o.cls=.type "tuple" /\ o.data=.seq (toArray its) n/\IntsAre its r.2:=λr hr=>by
  obtain⟨its,rv,⟨o,e1,e2,n,e3⟩,_⟩:=I.tuple (ht r hr).1;exact⟨its,o,n,k _ _ e1,e2,e3,intsAre_of rv⟩
 have kt:∀rs:List (Addr×List Int),(∀r∈rs,∃its o n,s6.heap.get? r.1=some o/\o.cls=.type "tuple" /\ o.data=.seq (toArray its) n/\IntsAre its r.2)->(∀r∈rs,r.2≠[]) ->
   ∃fs,PySem.W.KatTups s6.heap (rs.map λr=>Value.ref r.1) fs/\fs.length=rs.length/\∀v∈fs,∃i t,v=Value.int i t:=by
  intro rs
  induction rs with
  |nil=>intro _ _;exact⟨[],PySem.W.KatTups.nil,rfl,λv hv=>nomatch hv⟩
  |cons r rs ih=>
   intro g1 g2;obtain⟨fs,q1,q2,q3⟩:=ih (λr' hr'=>g1 r' (aak _ hr')) λr' hr'=>g2 r' (aak _ hr');obtain⟨its,o,n,e1,e2,e3,hi⟩:=g1 r aal;have hne:=g2 r aal;cases hr:r.2 with
   |nil=>exact absurd hr hne
   |cons i is=>
    rw[hr]at hi;cases hi with
    |cons _ t hi'=>
     refine⟨.int i t::fs,PySem.W.KatTups.cons e1 e2 e3 (by simp) q1,by simp[q2],λv hv=>?_⟩
     rcases aaA.mp hv with z|z
     ·exact⟨i,t,z⟩
     ·exact q3 v z
 obtain⟨fs,q1,q2,q3⟩:=kt rs tup λr hr=>(ht r hr).2;unfold uK.uM;refine PySem.W.kat_kind q1 (by omega) (T:=Value.type "int") (λv hv=>?_) rfl ⟨rfl,λi j C hi hj hc=>?_⟩
 ·obtain⟨i,t,rfl⟩:=q3 v hv;exact PySem.W.Looks.of_pure rfl
 ·rw[aaf]at hi hj
  unfold PySem.W.kas_ask;have e1:(rs.map λr=>Value.ref r.1).getD i Value.none=Value.ref rs[i].1:=by simp[hi]
  have e2:(rs.map λr=>Value.ref r.1).getD j Value.none=Value.ref rs[j].1:=by simp[hj]
  have e3:rs.getD i (0,[])=rs[i]:=by simp[hi]
  have e4:rs.getD j (0,[])=rs[j]:=by simp[hj]
  rw[e1,e2];simp only[e3,e4]at hc;obtain⟨its,o,n,a1,a2,a3,a4⟩:=tup rs[i] (List.getElem_mem hi);obtain⟨its',o',n',b1,b2,b3,b4⟩:=tup rs[j] (List.getElem_mem hj);have l1:=a4.length;have l2:=b4.length;refine kat_lt a1 a3 b1 b3 (uK.pY 0 a4 b4 ?_ l1 hc (.inr rfl) (λ_ _ _=>trivial) (λ_=>trivial) ?_)
  ·rw[aax,aax,l1,l2];simp
  ·rw[aax,aax,l1,l2]
theorem Dj{rs:List (Addr×List Int)}:∀{us:List Value},Vals (rs.map λr=>V.ref r.1) us->us=rs.map λr=>Value.ref r.1:=by
 induction rs with
 |nil=>intro us r;cases r;rfl
 |cons a rs ih=>
  intro us r;cases r with
  |cons r1 r2=>cases r1;rw[ih r2];rfl
theorem oZ:cW X (.builtin "sorted") (λxs H Q=>∃(p:Addr) (rs:List (Addr×List Int)),xs=[.ref p]/\gR X.K H p (rs.map λr=>V.ref r.1)/\rs.length<64/\(∀r∈rs,SA X.K H r) /\
  ∀(l:Addr) (qs:List (Addr×List Int)),H l=none->qs.Perm rs->qs.Pairwise (λa b=>HT.lexLt b.2 a.2=false)->Q (.ref l) (upd H l (.lst (qs.map λr=>V.ref r.1)))):=by
 intro pins s σ H xs us Q I r h;obtain⟨p,rs,rfl,hq,h64,ht,q⟩:=h;obtain⟨u,rfl,ru⟩:=vals1 r;cases ru;obtain⟨its,rv,pl,hz⟩:=I.list hq;have ev:=Dj rv;subst ev;refine uK.kU (O:=uK.lexOrd) (collect_list pl.isList ?_ (by rw[aaf,sizeLine_eq];omega));have k1:∀b o,s.heap.get? b=some o->((s.heap.push (seqObj "list" #[] 0)).update s.heap.objs.size (Obj.mapSeq (· ++ (rs.map λr=>Value.ref r.1).toArray))).get? b=some o:=λb o e=>by
  rw[Heap.get?_update_ne _ _ _ _ (aau (aan e))];exact aae _ e
 have ZU:((s.heap.push (seqObj "list" #[] 0)).update s.heap.objs.size (Obj.mapSeq (· ++ (rs.map λr=>Value.ref r.1).toArray))).objs.size=s.heap.objs.size+1:=by rw[Heap.size_update,size_push']
 refine⟨by rw[aaf];exact h64,λi=>(rs.getD i (0,[])).2,λh2 h6 k6=>?_,λpp h' op k' he=>?_⟩
 ·rw[aaf]at h2;exact Av (h6:=h6) I ht h2 λb o e=>k6 b o (k1 b o e)
 ·rw[aaf]at op
  dsimp only at k' he |-;rw[ZU]at he |-;obtain⟨e,he⟩:=he;have hn:H (s.heap.objs.size+1)=none:=I.hok.fresh (le_succ _);have lp:pp.length=rs.length:=by rw[op.perm.length_eq,aaU]
  have mem:∀i∈pp,i<rs.length:=λi hi=>by simpa using op.perm.mem_iff.mp hi
  have Wz:(pp.map λi=>(rs.map λr=>Value.ref r.1).getD i Value.none)=(pp.map λi=>rs.getD i (0,[])).map λr=>Value.ref r.1:=by rw[aaO];refine map_congr_left λi hi=>?_;simp[mem i hi]
  have qp:(pp.map λi=>rs.getD i (0,[])).Perm rs:=by have:=op.perm.map λi=>rs.getD i (0,[]);rwa [uK.fm]at this
  have qs:(pp.map λi=>rs.getD i (0,[])).Pairwise (λa b=>HT.lexLt b.2 a.2=false):=by have up1:=pairwise_map.mp op.up;exact pairwise_map.mpr up1
  refine⟨.ref (s.heap.objs.size+1),_,I.laid (t':=s.toks) (λb o z=>k' b o (k1 b o z)) (le_succ _) (show cB X.prog X.w _ _ _ (.lst ((pp.map λi=>rs.getD i (0,[])).map λr=>V.ref r.1)) from⟨?_,_,e,?_,he⟩),rfl,q _ _ hn qp qs⟩
  ·rw[aaf,aaf,lp,sizeLine_eq];omega
  ·rw[Wz]
   generalize (pp.map λi=>rs.getD i (0,[]))=zs
   induction zs with
   |nil=>exact .nil
   |cons z zs ih=>exact .cons rfl ih
theorem BL{ns:List Int}(h:IntsAre us ns):∀(i:Nat) (v:Value),us[i]?=some v->∃t,v=.int (ns.getD i 0) t:=by
 induction h with
 |nil=>intro i v e;simp at e
 |cons z t r ih=>
  intro i v e;cases i with
  |zero=>simp at e;exact⟨t,by simp[<-e]⟩
  |succ i=>obtain⟨u,q⟩:=ih i v (by simpa using e);exact⟨u,by simpa using q⟩
theorem uO{pins:List (Addr×Obj)}{σ:St}{H:Hp}{s:Shared}{p:Addr}{ns:List Int}(I:Inv X pins σ H s)(hc:X.calm=true)(hq:gR X.K H p (ns.map V.int)\/kO X.K H p (ns.map V.int))(hne:0<ns.length){Q:Value->Shared->Prop}{f:String}{bt:Int->Int->Bool}{op:CmpOp}
  (hf:∀{Q:Value->Shared->Prop},wpAny (model X.prog X.w) X.A.in1 (pyIter (.ref p)) (λit s₂=>∃I fp wr n P St bt,it=.ref I/\Walks X.prog X.w X.A.in1 I fp wr n P St/\St 0 s₂.heap/\(∀b∈fp,b<s₂.heap.objs.size)/\0<n/\CmpOf X.prog X.w X.A.in1 op P bt /\
   ∀v h' tk,P (argBest bt (n-1)) v->(∀b o,b∉wr->s₂.heap.get? b=some o->h'.get? b=some o)->Q v { s₂ with heap:=h',toks:=tk }) X.xe s->wpAny (model X.prog X.w) X.A (call (.builtin f) [.ref p]) Q X.xe s)
  (hcmp:∀(P:Nat->Value->Prop),(∀i v,P i v->∃t,v=.int (ns.getD i 0) t)->CmpOf X.prog X.w X.A.in1 op P λi j=>bt (ns.getD i 0) (ns.getD j 0))
  (h:∀t h' tk,(∀b o,s.heap.get? b=some o->h'.get? b=some o)->argBest (λi j=>bt (ns.getD i 0) (ns.getD j 0)) (ns.length-1)<ns.length->Q (.int (ns.getD (argBest (λi j=>bt (ns.getD i 0) (ns.getD j 0)) (ns.length-1)) 0) t) { s with heap:=h',toks:=tk }) :
  wpAny (model X.prog X.w) X.A (call (.builtin f) [.ref p]) Q X.xe s:=by
 have hh:X.A.in1.handled=none:=I.ok.hd hc;have up:∀{us:List Value} (P:Nat->Value->Prop) (hi:IntsAre us ns),(∀i v,P i v->us.toArray[i]?=some v)->∀i v,P i v->∃t,v=.int (ns.getD i 0) t:=λP hi hP i v q=>BL hi i v (by simpa using hP i v q);have best:∀{us:List Value} (hi:IntsAre us ns) (v:Value) (h':Heap) (tk:Nat),us.toArray[argBest (λi j=>bt (ns.getD i 0) (ns.getD j 0)) (us.toArray.size-1)]?=some v->(∀b o,s.heap.get? b=some o->h'.get? b=some o)->Q v { s with heap:=h',toks:=tk }:=λ{us} hi v h' tk e k=>by
  have hl:=hi.length;rw[aax,hl]at e;have e':us[argBest (λi j=>bt (ns.getD i 0) (ns.getD j 0)) (ns.length-1)]?=some v:=by simpa using e
  obtain⟨t,rfl⟩:=BL hi _ v e';exact h t h' tk k (by have:=(aag.mp e').1;omega)
 rcases hq with hq|hq
 ·obtain⟨its,rv,pl,hz⟩:=I.list hq
  have hi:=intsAre_of rv;have hl:=hi.length;have hpl:=pl.isList;have hlt:p<s.heap.objs.size:=by obtain⟨_,e,_⟩:=hpl;exact aan e
  refine hf (wpAny_pyIter_list hpl ⟨s.heap.objs.size,[s.heap.objs.size,p],[s.heap.objs.size],its.toArray.size,_,_,λi j=>bt (ns.getD i 0) (ns.getD j 0),rfl,Walks.list hh _ p (aau hlt) its.toArray,⟨⟨_,aav _ rfl,rfl,rfl⟩,hpl.push _⟩,λb hb=>?_,by rw[aax];omega,
   hcmp _ (up _ hi λi v q=>q),λv h' tk e k=>?_⟩)
  ·simp only[size_push']
   rcases aaA.mp hb with z|z
   ·rw[z];exact lt_succ_self _
   ·rw[aat.mp z];exact lt_succ_of_lt hlt
  ·exact best hi v h' tk e λb o z=>k b o (by simp;exact aau (aan z)) (aae _ z)
 ·obtain⟨its,rv,pl,hz⟩:=I.tuple hq
  have hi:=intsAre_of rv;have hl:=hi.length;have hpl:s.heap.IsTuple p its.toArray:=pl;have hlt:p<s.heap.objs.size:=by obtain⟨_,e,_⟩:=hpl;exact aan e
  refine hf (wpAny_pyIter_tuple hpl ⟨s.heap.objs.size,[s.heap.objs.size,p],[s.heap.objs.size],its.toArray.size,_,_,λi j=>bt (ns.getD i 0) (ns.getD j 0),rfl,Walks.tuple hh _ p (aau hlt) its.toArray,⟨⟨_,aav _ rfl,rfl,rfl⟩,?_⟩,λb hb=>?_,by rw[aax];omega,
   hcmp _ (up _ hi λi v q=>q),λv h' tk e k=>?_⟩)
  ·obtain⟨o,e,c⟩:=hpl;exact⟨o,aae _ e,c⟩
  ·simp only[size_push']
   rcases aaA.mp hb with z|z
   ·rw[z];exact lt_succ_self _
   ·rw[aat.mp z];exact lt_succ_of_lt hlt
  ·exact best hi v h' tk e λb o z=>k b o (by simp;exact aau (aan z)) (aae _ z)
theorem v9(hc:X.calm=true):cW X (.builtin "min") (λxs H Q=>∃(p:Addr) (ns:List Int),xs=[.ref p]/\(gR X.K H p (ns.map V.int)\/kO X.K H p (ns.map V.int))/\0<ns.length/\∀m,m∈ns->(∀a∈ns,m<=a)->Q (.int m) H):=by
 intro pins s σ H xs us Q I r h;obtain⟨p,ns,rfl,hq,hne,q⟩:=h;obtain⟨u,rfl,ru⟩:=vals1 r;cases ru;refine uO (bt:=λa b=>decide (a<b)) (op:=.Lt) I hc hq hne (λ{Q} h=>call_min_walk h) (λP hP=>?_) λt h' tk k hb=>⟨.int _,H,I.kept k,⟨t,rfl⟩,q _ ?_ λa ha=>?_⟩
 ·intro i j x y s' Q' E' hx hy hQ;obtain⟨t,rfl⟩:=hP i x hx;obtain⟨t',rfl⟩:=hP j y hy;exact lt_int (by simpa using hQ)
 ·exact getD_mem hb
 ·obtain⟨j,hj,rfl⟩:=mem_getD ha;exact(argBest_lt (λi=>ns.getD i 0) (ns.length-1)).2 j (by omega)
theorem we(hc:X.calm=true):cW X (.builtin "max") (λxs H Q=>∃(p:Addr) (ns:List Int),xs=[.ref p]/\(gR X.K H p (ns.map V.int)\/kO X.K H p (ns.map V.int))/\0<ns.length/\∀m,m∈ns->(∀a∈ns,a<=m)->Q (.int m) H):=by
 intro pins s σ H xs us Q I r h;obtain⟨p,ns,rfl,hq,hne,q⟩:=h;obtain⟨u,rfl,ru⟩:=vals1 r;cases ru;refine uO (bt:=λa b=>decide (a>b)) (op:=.Gt) I hc hq hne (λ{Q} h=>call_max_walk h) (λP hP=>?_) λt h' tk k hb=>⟨.int _,H,I.kept k,⟨t,rfl⟩,q _ ?_ λa ha=>?_⟩
 ·intro i j x y s' Q' E' hx hy hQ;obtain⟨t,rfl⟩:=hP i x hx;obtain⟨t',rfl⟩:=hP j y hy;exact gt_int (by simpa using hQ)
 ·exact getD_mem hb
 ·obtain⟨j,hj,rfl⟩:=mem_getD ha;exact(argBest_gt (λi=>ns.getD i 0) (ns.length-1)).2 j (by omega)
end
section
variable {X:Cx}
theorem Aw{bs:List Bool}:∀{us:List Value},Vals (bs.map V.bl) us->us=bs.map Value.bool:=by
 induction bs with
 |nil=>intro us r;cases r;rfl
 |cons a bs ih=>
  intro us r;cases r with
  |cons r1 r2=>cases r1;rw[ih r2];rfl
theorem rQ(bs:List Bool):((List.range bs.length).all λi=>bs.getD i true)=bs.all id:=by
 conv=>rhs;rw[<-uK.fm bs true]
 rw[List.all_map];rfl
theorem t8(hc:X.calm=true):cW X (.builtin "all") (λxs H Q=>∃(p:Addr) (bs:List Bool),xs=[.ref p]/\gR X.K H p (bs.map V.bl)/\Q (.bl (bs.all id)) H):=by
 intro pins s σ H xs us Q I r h;obtain⟨p,bs,rfl,hq,q⟩:=h;obtain⟨u,rfl,ru⟩:=vals1 r;cases ru;obtain⟨its,rv,pl,hz⟩:=I.list hq;have ev:=Aw rv;subst ev;have hpl:=pl.isList;have hlt:p<s.heap.objs.size:=by obtain⟨_,e,_⟩:=hpl;exact aan e
 refine call_all_walk (wpAny_pyIter_list hpl ⟨s.heap.objs.size,[s.heap.objs.size,p],[s.heap.objs.size],_,_,_,λi=>bs.getD i true,rfl,Walks.list (A:=X.A.in1) (I.ok.hd hc) _ p (aau hlt) (bs.map Value.bool).toArray,
  ⟨⟨_,aav _ rfl,rfl,rfl⟩,hpl.push _⟩,λi v s' Q' E' hP hQ=>?_,λh' tk hk=>?_⟩)
 ·have hi:i<bs.length:=by simpa using (Array.getElem?_eq_some_iff.mp hP).1
  have e:v=Value.bool (bs.getD i true):=by
   have:(bs.map Value.bool)[i]?=some v:=by simpa using hP
   simp[hi]at this;simp[hi,this]
  subst e;exact wpAny_truthy_bool hQ
 ·have e:((List.range (bs.map Value.bool).toArray.size).all λi=>bs.getD i true)=bs.all id:=by rw[aax,aaf];exact rQ bs
  rw[e];exact⟨.bl _,H,I.kept λb o z=>hk b o (by simp;exact aau (aan z)) (aae _ z),rfl,q⟩
section
open PySem.AutoSeq1 (wpAny_loadPart')
theorem wg(l b:Addr)(items items2:Array Value)(n n2:Nat)(dd2:Option Addr)(sl2:Array (Option Value))(hs0:¬(!items.isEmpty&&Builtin.List.listTooLong (items.size+items2.size))=true)(hs1:items.size<=sizeLine)(hs2:items.size+items2.size<=sizeLine+1) :
  Meets (Builtin.«list.extend» ⟨[.ref l,.ref b],[]⟩) (λ_ R s=>s.heap.get? l=some { cls:=.type "list",data:=.seq items n }/\s.heap.get? b=some { cls:=.type "tuple",dict:=dd2,data:=.seq items2 n2,slots:=sl2 } /\
   R (.ok (.ret Value.none)) { s with heap:=s.heap.update l (Obj.mapSeq λx=>x++items2) }) :=
 .of_wp λprog w A R s h=>by
  obtain⟨hp,g,d,tk,os⟩:=s;obtain⟨hl,hb,h⟩:=h;have f2:=AutoSeq1.sub_tuple_tuple;have f3:=AutoSeq1.sub_list_list;have f4:=AutoSeq1.sub_tuple_list;have f5:=AutoSeq1.sub_list_tuple;have hz':(items++items2).size<=sizeLine+1:=by rw[Array.size_append];exact hs2
  wp_walk using (wpAny_updateSeq hl rfl (hz:=hs1) (_hz':=hz')),wpAny_loadPart' hl,wpAny_loadPart' hb
  exact⟨_,rfl,h⟩
end
def Fj(K:Frag):V->List V->Hp->VK->Prop:=λx vs H Q=>∃l b xs zs,x=.ref l/\vs=[.ref b]/\H l=some (.lst xs)/\kO K H b zs/\xs.length+zs.length<=sizeLine/\Q .non (upd H l (.lst (xs++zs)))
theorem Ax:Wm X "list.extend" (Fj X.K):=by
 intro pins s σ H x vs v us Q I rx rv h;obtain⟨l,b,xs,zs,rfl,rfl,hH,hB,hz,q⟩:=h;cases rx;obtain⟨u,rfl,ru⟩:=rv.one;cases ru;obtain⟨z,its,n,r,hl,e⟩:=I.NO hH;obtain⟨its2,r2,⟨⟨oc,od,ZV,osl⟩,e2,ec,n2,ed⟩,z2⟩:=I.tuple hB;cases ec;cases ed;have l2:=r2.length;have hsz:its.toArray.size+its2.toArray.size<=sizeLine:=by rw[aax,aax];omega
 have SD:¬ (!its.toArray.isEmpty&&Builtin.List.listTooLong (its.toArray.size+its2.toArray.size))=true:=by rw[E1 hsz,Bool.and_false];exact aac
 refine call_meets F.slot_list_extend ⟨_,e,rfl⟩ F.entry_list_extend (F.args_list_extend_2 _ _)
  (wg l b its.toArray its2.toArray n n2 od osl SD (by rw[aax];omega) (by omega)) ⟨e,e2,?_⟩
 refine⟨.non,_,I.NN (its':=its++its2) hH e (by simp) (r.append r2) ?_,rfl,q⟩;rw[aaw];omega
end
end L2
end
section
namespace L2
open PySem
def uP(xs:Array Nat):Prop:=xs.toList.Pairwise (· < ·)
structure Cut (xs:Array Nat) (j p:Nat):Prop where
 le:p<=xs.size
 lo:∀(i:Nat) (hi:i<xs.size),i<p->xs[i]<j
 hi:∀(i:Nat) (hi:i<xs.size),p<=i->j<=xs[i]
theorem Cut.one{xs:Array Nat}{j p q:Nat}(a:Cut xs j p)(b:Cut xs j q):p=q:=by
 rcases Nat.lt_trichotomy p q with h|h|h
 ·have hp:p<xs.size:=aaq h b.le;have:=a.hi p hp (aao _);have:=b.lo p hp h;omega
 ·exact h
 ·have hq:q<xs.size:=aaq h a.le;have:=b.hi q hq (aao _);have:=a.lo q hq h;omega
theorem uP.get{xs:Array Nat}(r:uP xs){a b:Nat}(ha:a<xs.size)(hb:b<xs.size)(h:a<b):xs[a]<xs[b]:=by
 have:=List.pairwise_iff_getElem.mp r a b (by simpa using ha) (by simpa using hb) h;simpa using this
theorem Ay{xs:Array Nat}(r:uP xs)(j:Nat):∀(fuel lo hi:Nat),lo<=hi->hi<=xs.size->hi-lo<=fuel->(∀(i:Nat) (hi:i<xs.size),i<lo->xs[i]<j)->(∀(i:Nat) (h:i<xs.size),hi<=i->j<=xs[i])->Cut xs j (SetTable.below.go xs j fuel lo hi)
 | 0,lo,hi,h1,h2,h3,a,b=>by
  have:lo=hi:=by omega
  subst this;exact⟨h2,a,b⟩
 | fuel+1,lo,hi,h1,h2,h3,a,b=>by
  unfold SetTable.below.go
  by_cases hlt:lo<hi
  ·rw[aaj hlt]
   dsimp only;have hm:(lo+hi)/2<xs.size:=by omega
   have eg:xs.getD ((lo+hi)/2) j=xs[(lo+hi)/2]:=by simp[Array.getD,hm]
   rw[eg]
   by_cases hc:xs[(lo+hi)/2]<j
   ·rw[aaj hc]
    refine Ay r j fuel _ hi (by omega) h2 (by omega) (λi hi' hl=>?_) b
    by_cases e:i=(lo+hi)/2
    ·subst e;exact hc
    ·exact lt_trans (r.get hi' hm (by omega)) hc
   ·rw[aam hc]
    refine Ay r j fuel lo _ (by omega) (by omega) (by omega) a (λi hi' hl=>?_)
    by_cases e:i=(lo+hi)/2
    ·subst e;omega
    ·have:=r.get hm hi' (by omega);omega
  ·rw[aam hlt]
   have:lo=hi:=by omega
   subst this;exact⟨h2,a,b⟩
theorem mh{xs:Array Nat}(r:uP xs)(j:Nat):Cut xs j (SetTable.below xs j) :=
 Ay r j xs.size 0 xs.size (zero_le _) (aao _) (by omega) (λi _ h=>by omega) (λi h hl=>by omega)
theorem Az{xs:Array Nat}(r:uP xs):SetTable.below xs 0=0:=(mh r 0).one ⟨zero_le _,λi _ h=>by omega,λi _ _=>zero_le _⟩
theorem AA{xs:Array Nat}(r:uP xs){i:Nat}(hi:i<xs.size):SetTable.below xs (xs[i]+1)=i+1:=by
 refine(mh r _).one ⟨hi,λk hk h=>?_,λk hk h=>?_⟩
 ·by_cases e:k=i
  ·subst e;omega
  ·have:=r.get hk hi (by omega);omega
 ·have:=r.get hi hk (by omega);omega
theorem Dk{xs:Array Nat}(r:uP xs){j:Nat}(h:j∈xs):xs[SetTable.below xs j]?=some j:=by
 obtain⟨k,hk,e⟩:=Array.mem_iff_getElem.mp h;have:SetTable.below xs j=k:=by
  refine(mh r j).one ⟨le_of_lt hk,λi hi h=>?_,λi hi h=>?_⟩
  ·have:=r.get hi hk h;omega
  ·by_cases e':i=k
   ·subst e';omega
   ·have:=r.get hk hi (by omega);omega
 rw[this,Array.getElem?_eq_getElem hk,e]
theorem Dl{xs:Array Nat}(r:uP xs){j:Nat}(h:j∉xs):uP (SetTable.insertAt xs (SetTable.below xs j) j):=by
 have c:=mh r j;unfold uP;rw[SetTable.toList_insertAt];have rl:xs.toList.Pairwise (· < ·):=r;have lo:∀a∈xs.toList.take (SetTable.below xs j),a<j:=λa ha=>by
  obtain⟨i,hi,e⟩:=List.mem_iff_getElem.mp ha;rw[length_take,aaK]at hi;rw[List.getElem_take]at e;have:=c.lo i (by omega) (by omega);rw[<-e];simpa using this
 have up:∀a∈xs.toList.drop (SetTable.below xs j),j<a:=λa ha=>by
  obtain⟨i,hi,e⟩:=List.mem_iff_getElem.mp ha;rw[length_drop,aaK]at hi;rw[List.getElem_drop]at e;have h1:=c.hi (SetTable.below xs j+i) (by omega) (by omega);have e':xs[SetTable.below xs j+i]'(by omega)=a:=by rw[<-e];simp
  rw[e']at h1;have:a≠j:=λz=>h (by rw[<-z,<-e'];exact Array.getElem_mem _);omega
 rw[List.pairwise_append];refine⟨rl.sublist (take_sublist _ _),aaW.mpr ⟨up,rl.sublist (List.drop_sublist _ _)⟩,λa ha b hb=>?_⟩
 rcases aaA.mp hb with e|hb
 ·rw[e];exact lo a ha
 ·exact lt_trans (lo a ha) (up b hb)
theorem nW(n:Nat):uP (Array.range n):=by
 unfold uP;rw[Array.toList_range];exact List.pairwise_lt_range
theorem uQ{t:SetTable}(r:uP t.place){j:Nat}(h:t.slot j=.empty\/t.slot j=.dummy):j∉t.place:=λhm=>by
 have e:=Dk r hm;unfold SetTable.slot at h;dsimp only at h;rw[e]at h;simp at h
theorem mX{h:Int}:∀(fuel:Nat) (p:SetTable.Probe) (j:Nat) (d:Option Nat),(∀k,p.dummy=some k->t.slot k=.dummy)->SetTable.probe.go t f h fuel p=some (.empty j d)->t.slot j=.empty/\∀k,d=some k->t.slot k=.dummy
 |0,p,j,d,hd,e=>by simp[SetTable.probe.go]at e
 | fuel+1,p,j,d,hd,e=>by
  have ad:∀q:SetTable.Probe,(t.advance q).dummy=q.dummy:=λq=>by unfold SetTable.advance;split<;>rfl
  unfold SetTable.probe.go at e;split at e
  ·rename_i hs;cases e;exact⟨hs,hd⟩
  ·rename_i hs;refine mX fuel _ j d (λk hk=>?_) e;rw[ad]at hk;cases hk;exact hs
  ·split at e
   ·cases e
   ·exact mX fuel _ j d (λk hk=>hd k (by rw[<-ad];exact hk)) e
theorem Fo{t:SetTable}(r:uP t.place){h:Int}{s:Nat}{b:Bool}(e:t.freeSlot h=some (s,b)):s∉t.place:=by
 unfold SetTable.freeSlot at e;split at e
 ·rename_i j d hp
  cases e;obtain⟨h1,h2⟩:=mX _ _ _ _ (λk hk=>by simp[SetTable.probeStart]at hk) hp;cases d with
  |none=>exact uQ r (.inl h1)
  |some k=>exact uQ r (.inr (h2 k rfl))
 ·cases e
theorem Dm(r:uP t.place)(es:Array (Int×Value))(h:Int)(x:Value):uP (layNew t es h x).2.1.place/\(layNew t es h x).2.1.led=t.led:=by
 unfold layNew
 split
 ·rename_i s b e
  have fr:=Fo r e;dsimp only;unfold SetTable.orStandIn
  split
  ·exact⟨Dl r fr,rfl⟩
  ·exact⟨nW _,rfl⟩
 ·exact⟨nW _,rfl⟩
theorem Fp(r:uP t.place)(es:Array (Int×Value))(n:Nat):uP (relayAll t es n).2.1.place/\(relayAll t es n).2.1.led=t.led:=by
 unfold relayAll
 split
 ·rename_i t' order e
  dsimp only
  split
  ·unfold SetTable.relaid SetTable.laid at e;obtain⟨ow,e1,e⟩:=aad.mp e;cases e;refine⟨?_,rfl⟩;show List.Pairwise _ (List.map _ _).toArray.toList;rw[List.toList_toArray,pairwise_map];refine List.Pairwise.filterMap _ (R:=(· < ·)) (λa a' hl b hb b' hb'=>?_) List.pairwise_lt_range;obtain⟨x,_,rfl⟩:=aaR.mp hb;obtain⟨y,_,rfl⟩:=aaR.mp hb';exact hl
  ·exact⟨nW _,rfl⟩
 ·exact⟨nW _,rfl⟩
end L2
end
section
namespace L2
open PySem PyProof.Rows
def t9(w:World):Bool:=w.params.followText "set-order"
structure rR (w:World) (es:Array (Int×Value)) (t:SetTable):Prop where
 few:es.size<scanBound
 fit:t.fits es.size=true
 rs:uP t.place
 led:t.led = !t9 w
structure fq (prog:Program) (w:World) (h:Heap) (a:Addr) (o:Obj) (es:Array (Int×Value)) (ep:Nat) (t:SetTable) (ks:List Int):Prop where
 at_:h.get? a=some o
 ex:o.ExactSet
 dat:o.data=.set es ep t
 el:ElemsOf (intKind prog w) es.toList
 tab:rR w es t
 XU:ks.Nodup
 mem:∀k,k∈ks↔∃e∈es.toList,(intKind prog w).is k e.2=true
 num:es.size=ks.length
def qC(prog:Program)(w:World)(h:Heap)(a:Addr)(ks:List Int):Prop:=∃o es ep t,fq prog w h a o es ep t ks
def iw(ks:List Int)(k:Int):List Int:=if k∈ks then ks else ks++[k]
section
variable {prog:Program} {w:World} {A:Around} {E:Value->Shared->Prop} {s:Shared}
theorem Fq{h:Heap}{a:Addr}{o:Obj}{es es':Array (Int×Value)}{ep:Nat}{t t':SetTable}(ho:h.get? a=some o)(hd:o.data=.set es ep t):(h.update a (Obj.putSet es' t')).get? a=some { o with data:=.set es' (ep+1) t' }:=by
 have q:=get?_update_self (Obj.putSet es' t') ho (by rw[putSet_of es' t' hd];rfl);rw[putSet_of es' t' hd]at q;exact q
theorem qC.frame{ks:List Int}(S:qC prog w h a ks)(k:∀o,h.get? a=some o->h'.get? a=some o):qC prog w h' a ks:=by
 obtain⟨o,es,ep,t,i⟩:=S;exact⟨o,es,ep,t,{ i with at_:=k o i.at_ }⟩
theorem mem_push{es es1:List (Int×Value)}{ks:List Int}{k:Int}(hx:(intKind prog w).is k x=true)(hm:∀j,j∈ks↔∃e∈es,(intKind prog w).is j e.2=true)(p:es1.Perm (es++[((intKind prog w).hash k,x)]))(j:Int) :
  j∈ks++[k]↔∃e∈es1,(intKind prog w).is j e.2=true:=by
 rw[aaP,aat,hm];constructor
 ·rintro(⟨e,he,q⟩|rfl)
  ·exact⟨e,p.mem_iff.mpr (aaQ _ he),q⟩
  ·exact⟨_,p.mem_iff.mpr (aaI _ aal),hx⟩
 ·rintro⟨e,he,q⟩
  rcases aaP.mp (p.mem_iff.mp he) with z|z
  ·exact .inl ⟨e,z,q⟩
  ·rw[aat]at z;subst z;exact .inr ((intKind prog w).inj x j k q hx)
theorem xV{g:Bool->Sem Unit}(hg:∀(b:Bool) (s₁:Shared) (Q':Unit->Shared->Prop),Q' () s₁->wpAny (model prog w) A (g b) Q' E s₁)
  {a:Addr} {o:Obj} {es es1:Array (Int×Value)} {ep:Nat} {t t2:SetTable} {ks:List Int} (ho:s.heap.get? a=some o) (hex:o.ExactSet) (hd:o.data=.set es ep t)
  (hel:ElemsOf (intKind prog w) es1.toList) (hm:∀k,k∈ks↔∃e∈es1.toList,(intKind prog w).is k e.2=true) (hnd:ks.Nodup) (hn:es1.size=ks.length) (ht:rR w es1 t2) {b:Bool} {R:Option Bool->Shared->Prop}
  (h:∀h',Heap.SameBut a s.heap h'->qC prog w h' a ks->R (some true) { s with heap:=h' }) :
  wpAny (model prog w) A (do
    storeSet a es1 t2
    if (!b&&t2.tooFull)=true then do
      g (relayAll t2 es1 (SetTable.grown es1.size)).2.2
      storeSet a (relayAll t2 es1 (SetTable.grown es1.size)).1 (relayAll t2 es1 (SetTable.grown es1.size)).2.1
      pure (some true)
     else pure (some true)) R E s:=by
 refine aab (wpAny_storeSet_of ho hd ?_ (fits_of_scanBound ht.few));have h1:=Fq (es':=es1) (t':=t2) ho hd;have b1:=Heap.SameBut.update s.heap a (Obj.putSet es1 t2)
 split
 ·have p:=relayAll_perm t2 es1 (SetTable.grown es1.size)
  have f:=relayAll_fits t2 es1 (SetTable.grown es1.size);have rr:=Fp ht.rs es1 (SetTable.grown es1.size);generalize relayAll t2 es1 (SetTable.grown es1.size)=Rl at p f rr |-;obtain⟨ua,t3,gv⟩:=Rl;dsimp only at p f rr |-;have z:ua.size=es1.size:=by rw[<-aaK,p.length_eq,aaK]
  have few:ua.size<scanBound:=by rw[z];exact ht.few
  refine aab (hg _ _ _ ?_);refine aab (wpAny_storeSet_of h1 rfl ?_ (fits_of_scanBound few));refine aai (h _ (b1.trans (Heap.SameBut.update _ a _)) ⟨_,ua,_,t3,Fq h1 rfl,hex,rfl,hel.perm p,⟨few,f,rr.1,rr.2.trans ht.led⟩,hnd,λk=>(hm k).trans ⟨λ⟨e,he,q⟩=>⟨e,p.mem_iff.mpr he,q⟩,λ⟨e,he,q⟩=>⟨e,p.mem_iff.mp he,q⟩⟩,z.trans hn⟩)
 ·exact aai (h _ b1 ⟨_,es1,_,t2,h1,hex,rfl,hel,ht,hnd,hm,hn⟩)
theorem add_int{ks:List Int}{k:Int}(S:qC prog w s.heap a ks)(room:ks.length+1<scanBound)
  (h:∀h' b,Heap.SameBut a s.heap h'->qC prog w h' a (iw ks k)->Q b { s with heap:=h' }) :
  wpAny (model prog w) A (setAddHashed a (.int k tk) ((intKind prog w).hash k)) Q E s:=by
 obtain⟨o,es,ep,t,I⟩:=S;have hx:(intKind prog w).is k (.int k tk)=true:=intKind_is _ _ _ _;have sc:(Value.int k tk).scannable=true:=rfl;unfold setAddHashed setAddHashedIn;refine wpAny_holding (aab (wpAny_setState_of I.at_ I.dat I.tab.fit ?_));dsimp only;rw[byScan_of sc I.tab.few I.el];simp only[↓reduceIte];unfold setAddByScan;refine aab (aab (wpAny_rule (aab (wpAny_setScan_of hx I.at_ I.dat I.tab.fit I.el ?_))));cases hr:List.findIdx? (λe=>(intKind prog w).is k e.2) es.toList with
 |some j=>
  dsimp only;obtain⟨hj,pj,_⟩:=List.findIdx?_eq_some_iff_getElem.mp hr;have hk:k∈ks:=(I.mem k).mpr ⟨es.toList[j],List.getElem_mem hj,pj⟩;refine aai (aai ?_);have e:s={ s with heap:=s.heap }:=by cases s;rfl
  rw[e];exact h s.heap _ (Heap.SameBut.refl a s.heap) (by unfold iw;rw[aaj hk];exact⟨o,es,ep,t,I⟩)
 |none=>
  dsimp only;have hk:k∉ks:=λz=>by
   obtain⟨e,he,p⟩:=(I.mem k).mp z;have:=List.findIdx?_eq_none_iff.mp hr e he;rw[p]at this;cases this
  have gw:∀(b:Bool) (s₁:Shared) (Q':Unit->Shared->Prop),Q' () s₁->wpAny (model prog w) A (match b with|true=>rule "set.scan.the-table-gave-way" | false=>pure ()) Q' E s₁:=λb s₁ Q' q=>by
   cases b
   ·exact aai q
   ·exact wpAny_rule q
  have p:=layNew_perm t es ((intKind prog w).hash k) (.int k tk);have f:=layNew_fits t es ((intKind prog w).hash k) (.int k tk);have rr:=Dm I.tab.rs es ((intKind prog w).hash k) (.int k tk);generalize layNew t es ((intKind prog w).hash k) (.int k tk)=Ln at p f rr |-;obtain⟨es1,t1,wd,gv⟩:=Ln;dsimp only at p f rr |-;rw[Array.toList_push]at p;have z:es1.size=(ks++[k]).length:=by rw[<-aaK,p.length_eq,aaw,aaw,aaK,I.num];rfl
  have few:es1.size<scanBound:=by rw[z,aaw];simpa using room
  have nd:(ks++[k]).Nodup:=by rw[nodup_append];exact⟨I.XU,by simp,λx hx' y hy e=>hk (by rw[aat]at hy;rw[<-hy,<-e];exact hx')⟩
  have XW:ElemsOf (intKind prog w) es1.toList:=(I.el.push hx sc).perm p;have m1:=mem_push hx I.mem p;have fin:∀h',Heap.SameBut a s.heap h'->qC prog w h' a (ks++[k])->Q true { s with heap:=h' }:=λh' sb S'=>h h' true sb (by unfold iw;rw[aam hk];exact S');refine aab (gw _ _ _ ?_)
  split
  ·refine aab ?_
   rw[hashByValue_scannable 8 sc];refine aai ?_;refine xV gw I.at_ I.ex I.dat XW m1 nd z ⟨few,?_,?_,?_⟩ λh' sb S'=>aai (fin h' sb S')
   ·split
    ·exact f
    ·exact SetTable.fits_plain_off f
   ·split
    ·exact rr.1
    ·exact rr.1
   ·split
    ·exact rr.2.trans I.tab.led
    ·exact rr.2.trans I.tab.led
  ·refine aab (aai ?_);simp only[↓reduceIte];exact xV gw I.at_ I.ex I.dat XW m1 nd z ⟨few,f,rr.1,rr.2.trans I.tab.led⟩ λh' sb S'=>aai (fin h' sb S')
end
def jj:List Int->List Int->List Int
 |ks,[]=>ks
 |ks,k::r=>jj (iw ks k) r
theorem kW(ks:List Int)(k:Int):(iw ks k).length<=ks.length+1:=by unfold iw;split<;>simp
section
variable {prog:Program} {w:World} {A:Around} {E:Value->Shared->Prop} {s:Shared}
theorem Ft{R:Result->Shared->Prop}{I:Addr}{fp wr:List Addr}{G:Array GenState->Array GenState->Prop}{n:Nat}{P:Nat->Value->Prop}{St:Nat->Shared->Prop}(W:WalksS prog w A.in1 I fp wr G n P St)(S:Addr)(hSf:S∉fp)(val:Nat->Int)(hval:∀i v,P i v->∃t,v=.int (val i) t) :
  ∀(k i:Nat) (s:Shared) (ks:List Int),n-i=k->i<=n->ks.length+k+1<scanBound->St i s->qC prog w s.heap S ks ->
   (∀s',Moved (S::wr) G s s'->qC prog w s'.heap S (jj ks ((range' i k).map val))->R (.ok (.ret .none)) s') ->
   codeAny (model prog w) A (.builtin "set.update.loop" ⟨[.ref S,.ref I],[]⟩) R s:=by
 have XX:S∉wr:=λh=>hSf (W.sub _ h);have sub:∀b∈wr,b∈S::wr:=λb hb=>aak _ hb;intro k
 induction k with
 |zero=>
  intro i s ks hk hi _ hst hS hR;have:i=n:=by omega
  subst this;refine codeAny_builtin PyProof.Rows.F.entry_set_update_loop ?_;rw[Around.under_plainId PyProof.Rows.F.plain_set_update_loop _];show wpAny _ A.in1 (pyNext (.ref I) >>= _) _ _ s;refine aab (W.done s _ _ hst λs' hm=>?_);show wpAny _ A.in1 (ret Value.none) _ _ s';exact aai (hR s' (hm.mono sub) (hS.frame λo e=>hm.heap S _ XX e))
 |succ k ih=>
  intro i s ks hk hi hl hst hS hR;have hlt:i<n:=by omega
  refine codeAny_builtin PyProof.Rows.F.entry_set_update_loop ?_;rw[Around.under_plainId PyProof.Rows.F.plain_set_update_loop _];show wpAny _ A.in1 (pyNext (.ref I) >>= _) _ _ s;refine aab (W.item i s _ _ hlt hst λv s' hP WA hm=>?_);obtain⟨t,rfl⟩:=hval i v hP;have hS':=hS.frame (h':=s'.heap) λo e=>hm.heap S _ XX e;show wpAny _ A.in1 (holding [Value.int (val i) t] (setAdd S (.int (val i) t)) >>= _) _ _ s';refine aab (wpAny_holding ?_);unfold setAdd;refine wpAny_holding (aab ((intKind prog w).pyHash (k:=val i) (intKind_is _ _ _ _) ?_));refine add_int (s:={ s' with toks:=s'.toks+1 }) hS' (by omega) λh' b sb S2=>?_;have hl2:=kW ks (val i);refine aai ⟨plainId_quiet PyProof.Rows.F.plain_set_update_loop _,ih (i+1) _ (iw ks (val i)) (by omega) hlt (by omega) (W.frame _ s' _ _ WA (le_succ _) λb hb o e=>?_) S2 λs'' NV S3=>?_⟩
  ·rw[sb.2 b λz=>hSf (by rw[<-z];exact hb)];exact e
  ·refine hR s'' (Moved.trans W.gtrans ((hm.mono sub).then_heap (le_succ _) λb o hb e=>?_) NV) ?_
   ·rw[sb.2 b λz=>hb (by rw[z];exact aal)];exact e
   ·rw[List.range'_succ,aap,jj];exact S3
abbrev rS(w:World):Obj:={ cls:=.type "set",dict:=none,data:=.set #[] 0 (.fresh 0 0 (!t9 w)) }
theorem Ko(e:h.get? a=some (rS w)):qC prog w h a [] :=
 ⟨_,#[],0,_,e,⟨rfl,rfl,rfl⟩,rfl,λx hx=>by simp at hx,⟨by show 0<4096;decide,rfl,List.Pairwise.nil,rfl⟩,nodup_nil,λk=>by simp,rfl⟩
theorem Fv(a:Value)(h:Q₁ (.ref s.heap.objs.size) { s with heap:=s.heap.push (rS w) }) :
  codeAny (model prog w) A (.call (.builtin "set.__new__") ⟨[.type "set",a],[]⟩) (wants Q₁ E) s:=by
 refine codeAny_of_tree ?_;show wpAny _ A.in1 (do checkBuiltinCall "set.__new__" ⟨[.type "set",a],[]⟩;again (.builtin "set.__new__" ⟨[.type "set",a],[]⟩)) _ _ s;refine aab (wpAny_of_eq (PySem.F.newCall_set_1 a) (aai ⟨plainId_quiet PySem.F.plain_set_new _,codeAny_builtin PySem.F.entry_set_new ?_⟩));rw[Around.under_plainId PySem.F.plain_set_new _];unfold Builtin.«set.__new__» Builtin.Frozenset.newClass;have hsub:=sub_set_self;obtain⟨hp,g,d,tk,os⟩:=s;dsimp only
 wp_walk
 refine wpAny_askSetting (aai ?_);dsimp only;simp only[newObj];refine aab (wpAny_alloc (aai ?_));exact aai h
end
section
variable {prog:Program} {w:World} {A:Around} {E:Value->Shared->Prop} {s:Shared}
theorem AB{ns:List Int}(hi:IntsAre vs ns):(range' 0 vs.length).map (λi=>ns.getD i 0)=ns:=by
 have hl:=IntsAre.length hi;apply ext_getElem
 ·rw[aaf,List.length_range',hl]
 ·intro i h1 h2;simp[List.getD,h2]
theorem xW{ns:List Int}(hh:A.handled=none)(hl:s.heap.IsList l items)(hi:IntsAre items.toList ns)(hb:items.size+1<scanBound)
  (h:∀(h':Heap) (tk:Nat),qC prog w h' s.heap.objs.size (jj [] ns)->(∀b o,b<s.heap.objs.size->s.heap.get? b=some o->h'.get? b=some o)->Q (.ref s.heap.objs.size) { s with heap:=h',toks:=tk }) :
  wpAny (model prog w) A (call (.type "set") [.ref l]) Q E s:=by
 obtain⟨c,tl,mro⟩:=PySem.F.called_set.mro;have made:=PySem.F.called_set.made;have sub:=PySem.F.called_set.sub;refine wpAny_call (codeAny_of_tree ?_);show wpAny _ _ (callAny (.type "set") _) _ _ _;refine aai ⟨Code.quiet_builtin _ (by decide +kernel),codeAny_builtin PySem.F.entry_type_call ?_⟩;rw[Around.under_plain (weight_type_call_type "set" [.ref l] []) rfl];have n1:=PySem.F.called_set.notType;have n2:=PySem.F.called_set.canCreate;have n3:=PySem.F.typeCall_set_1 (.ref l)
 repeat (any_goals (first|assumption|wp_step))
 refine codeAny_mono (Fv (.ref l) (E:=E) (Q₁:=λobj s₁=>obj=.ref s.heap.objs.size/\s₁={ s with heap:=s.heap.push (rS w) }) ⟨rfl,rfl⟩) λr s₁ hr=>?_;cases r with
 |error e=>exact hr
 |ok fl=>
  cases fl with
  |ret obj=>
   obtain⟨rfl,rfl⟩:=hr;have XY:(s.heap.push (rS w)).get? s.heap.objs.size=some (rS w):=aav _ rfl;have hT:Shared.TypeIs { s with heap:=s.heap.push (rS w) } (.ref s.heap.objs.size) "set":=⟨_,XY,rfl⟩;have look:=PySem.F.called_set.init.lookup;have bind:=PySem.F.called_set.init.bind (.ref s.heap.objs.size)
   repeat (any_goals (first|assumption|wp_step))
   refine codeAny_mono (codeAny_call_builtin (R:=wants (λr s₂=>r=.none/\∃h' tk,s₂={ s with heap:=h',toks:=tk }/\qC prog w h' s.heap.objs.size (jj [] ns) /\
     (∀b o,b<s.heap.objs.size->s.heap.get? b=some o->h'.get? b=some o)) E) PySem.F.called_set.init.plain PySem.F.entry_set_init (check_set_init_1 hT ?_)) λr₂ s₂ WB=>?_
   ·obtain⟨ol,XZ,cl,nl,dl⟩:=hl
    obtain⟨oc,od,oda,os⟩:=ol;simp only at cl dl;subst cl;subst dl;have WD:(s.heap.push (rS w)).get? l=some { cls:=.type "list",dict:=od,data:=.seq items nl,slots:=os }:=aae _ XZ;have q1:=PySem.F.sub_list_set;have q2:=PySem.F.sub_list_frozenset;have q3:(Value.type "list" == Value.type "dict")=false:=by decide
    have hl1:(s.heap.push (rS w)).IsList l items:=⟨_,WD,rfl,nl,rfl⟩;unfold Builtin.«set.__init__» noKeywords Builtin.Frozenset.updateFrom;generalize ZW:pyIter=PI
    wp_walk
    subst ZW;refine wpAny_pyIter_list hl1 (aab (wpAny_runValue ?_));have lS:l<s.heap.objs.size:=aan XZ;have h3:A.in1.in1.in1.handled=none:=by simp[hh]
    have ZX:l≠(s.heap.push (rS w)).objs.size:=by rw[size_push];exact aau (lt_succ_of_lt lS)
    have sF:s.heap.objs.size∉[(s.heap.push (rS w)).objs.size,l]:=by rw[size_push];simp only[mem_cons,not_mem_nil,or_false,not_or];exact⟨aau (lt_succ_self _),ne_of_gt lS⟩
    have val:∀(i:Nat) (v:Value),items[i]?=some v->∃t,v=.int ((λi=>ns.getD i 0) i) t:=λi v hv=>IntsAre.int_at hi i v (by rw[getElem?_toList];exact hv);refine Ft ((Walks.list h3 _ l ZX items).toS) s.heap.objs.size sF (λi=>ns.getD i 0) val (items.size-0) 0 _ [] (by omega) (zero_le _) (by simpa using hb) ⟨⟨_,aav _ rfl,rfl,rfl⟩,hl1.push _⟩ ?s0 ?sR
    case s0=>exact Ko (aae _ XY)
    case sR=>
     intro s' hm S';obtain⟨h',g',d',tk',os'⟩:=s';have eg:g'=s.gens:=hm.gens;have ed:d'=s.drawn:=hm.drawn;have eo:os'=s.os:=hm.os;subst eg;subst ed;subst eo;refine aai ?_;show wpAny _ _ (ret Value.none) _ _ _;have e0:(range' 0 (items.size-0)).map (λi=>ns.getD i 0)=ns:=by have:=AB hi;rw[aaK]at this;exact this
     rw[e0] at S';refine aai ⟨rfl,h',tk',rfl,S',λb o hb e=>?_⟩;have b1:b≠s.heap.objs.size:=aau hb;have b2:b≠(s.heap.push (rS w)).objs.size:=by rw[size_push];exact aau (lt_succ_of_lt hb)
     exact hm.heap b o (by simp only[mem_cons,not_mem_nil,or_false,not_or];exact⟨b1,b2⟩) (aae _ (aae _ e))
   ·cases r₂ with
    |error e=>exact WB
    |ok ZY=>
     cases ZY with
     |ret r=>
      obtain⟨rfl,h',tk,rfl,S',hk⟩:=WB
      repeat (any_goals (first|assumption|wp_step))
      exact h _ _ S' hk
     |_=>exact WB.elim
  |_=>exact hr.elim
end
namespace SI
theorem AD:entryFor table "set.__iter__" = some Builtin.«frozenset.__iter__» :=
 entryFor_alias (id':="frozenset.__iter__") (by kernel_rfl) rfl (by decide +kernel) (by kernel_rfl)
theorem owner:Manifest.owners.lookup (String.ofList ['r','o','t','a','r','e','t','i','_','t','e','s'].reverse)=some Manifest.sig_set_iterator:=by kernel_rfl
theorem slot_next:Slot "set_iterator" "__next__" "set_iterator.__next__" :=
 .of (owner:="set_iterator") (n:="__next__") (by rw[typeLookup_type,builtinLookup_eq_fast];kernel_rfl) (by decide +kernel) (by decide +kernel) (by decide +kernel) (by first|exact .inl (by decide +kernel)|exact .inr (by decide +kernel)) (by rw[isSubtype_type];kernel_rfl)
theorem entry_next:entryFor table "set_iterator.__next__" = some Builtin.«set_iterator.__next__»:=entryFor_of_tree (by kernel_rfl)
theorem args_next(a:Value):argsOk "set_iterator.__next__" ⟨[a],[]⟩:=by
 unfold argsOk;rw[signature?_of (id:="set_iterator.__next__") (n:=['_','_','t','x','e','n','_','_']) (o:=['r','o','t','a','r','e','t','i','_','t','e','s']) (by kernel_rfl) owner];kernel_rfl
theorem uR:Slot "set_iterator" "__iter__" "set_iterator.__iter__" :=
 .of (owner:="set_iterator") (n:="__iter__") (by rw[typeLookup_type,builtinLookup_eq_fast];kernel_rfl) (by decide +kernel) (by decide +kernel) (by decide +kernel) (by first|exact .inl (by decide +kernel)|exact .inr (by decide +kernel)) (by rw[isSubtype_type];kernel_rfl)
theorem entry_self:entryFor table "set_iterator.__iter__" = some Builtin.«dict_keyiterator.__iter__» :=
 entryFor_alias (id':="dict_keyiterator.__iter__") (by kernel_rfl) rfl (by decide +kernel) (by kernel_rfl)
theorem Dp(a:Value):argsOk "set_iterator.__iter__" ⟨[a],[]⟩:=by
 unfold argsOk;rw[signature?_of (id:="set_iterator.__iter__") (n:=['_','_','r','e','t','i','_','_']) (o:=['r','o','t','a','r','e','t','i','_','t','e','s']) (by kernel_rfl) owner];kernel_rfl
end SI
section
variable {prog:Program} {w:World} {A:Around} {E:Value->Shared->Prop} {s:Shared}
def fY(h:Heap)(it:Addr)(f:Value)(i:Nat)(a:Addr)(n ep:Nat):Prop:=∃o,h.get? it=some o/\o.cls=.type "set_iterator" /\ o.data=.fields [f,.int i 0,.ref a,.int n 0,.int ep 0].toArray
theorem fY.typeIs{i:Nat}{n ep:Nat}(x:fY s.heap it f i a n ep):s.TypeIs (.ref it) "set_iterator":=let ⟨o,ho,hc,_⟩:=x;⟨o,ho,hc⟩
theorem o5{i:Nat}{n ep:Nat}(x:fY s.heap it f i a n ep)(h:Q (.ref it) s):wpAny (model prog w) A (pyIter (.ref it)) Q E s:=by
 refine wpAny_pyIter_slot x.typeIs SI.uR (wpAny_call_entry SI.uR x.typeIs SI.entry_self ?_ (SI.Dp _));exact aai ⟨_,rfl,"set_iterator",_,x.typeIs,SI.slot_next.lookup,h⟩
end
section
variable {prog:Program} {w:World} {A:Around} {E:Value->Shared->Prop} {s:Shared}
theorem jk{ep:Nat}(ho:s.heap.get? a=some o)(hd:o.data=.set es ep t)(hf:t.fits es.size=true)(h:Q es s):wpAny (model prog w) A (setEntries a) Q E s:=by
 unfold setEntries;exact aab (wpAny_setState_of ho hd hf (aai h))
theorem mq(h:Q (t9 w) s):wpAny (model prog w) A setsByText Q E s:=by
 unfold setsByText;exact aab (wpAny_askSetting (aai h))
theorem uS{ep sl g:Nat}{ks:List Int}(S:fq prog w s.heap a o es ep t ks)(hb:t9 w=false)(hp:(!t.plain&&decide (es.size>1))=false)
  (hQ:Q (match es[SetTable.below t.place sl]?,t.place[SetTable.below t.place sl]? with|some (_,x),some j=>some (x,j+1)|_,_=>none) s):wpAny (model prog w) A (setNext a sl g ep) Q E s:=by
 have led:t.led=true:=by rw[S.tab.led,hb];rfl
 unfold setNext;refine aab (wpAny_setState_of S.at_ S.dat S.tab.fit ?_);dsimp only;refine aab (mq ?_);rw[hb];simp only[false_eq_true,↓reduceIte];rw[aam (λz=>by
  have z':(!t.plain&&decide (es.size>1))=true:=z;rw[hp]at z';cases z')]
 refine aab ?_;show wpAny _ _ (if (!t.led && !es.isEmpty)=true then Sem.unsupported "set:maker-not-led" else pure ()) _ _ _;rw[aam (by rw[led];simp)];exact aai (aai hQ)
theorem uU{ep sl g:Nat}{ks:List Int}(S:fq prog w s.heap a o es ep t ks)(hb:t9 w=true)
  (hQ:Q (((pickOrder (w.params.setOrder a ep) es)[g]?).map λe=>(e.2,sl)) s):wpAny (model prog w) A (setNext a sl g ep) Q E s:=by
 unfold setNext;refine aab (wpAny_setState_of S.at_ S.dat S.tab.fit ?_);dsimp only;refine aab (mq ?_);rw[hb];simp only[bne_self_eq_false,false_eq_true,↓reduceIte];unfold setWalk;refine aab (aab (wpAny_setState_of S.at_ S.dat S.tab.fit ?_));dsimp only;refine aab (mq ?_);rw[hb];simp only[↓reduceIte];exact aab (wpAny_askSetting (aai (aai hQ)))
theorem nX{ep:Nat}{ks:List Int}{i sl:Nat}(hh:A.handled=none)(x:fY s.heap it (.int sl 0) i a es.size ep)(S:fq prog w s.heap a o es ep t ks)
  (hn:∀(A:Around) (E:Value->Shared->Prop) (Q:Option (Value×Nat)->Shared->Prop),Q r s->wpAny (model prog w) A (setNext a sl i ep) Q E s)
  (hQ:∀v nx,r=some (v,nx)->∀h',fY h' it (.int (nx:Nat) 0) (i+1) a es.size ep->Heap.SameBut it s.heap h'->Q (some v) { s with heap:=h' })
  (hE:r=none->∀h',Heap.ExtBut it s.heap h'->Q none { s with heap:=h' }):wpAny (model prog w) A (pyNext (.ref it)) Q E s:=by
 obtain⟨oi,JG,WE,hdi⟩:=id x;unfold pyNext;refine aab (wpAny_attempt (wpAny_callSpecial?_slot (name:=Str.ofString "__next__") x.typeIs SI.slot_next (wpAny_call_entry SI.slot_next x.typeIs SI.entry_next ?_ (SI.args_next _))));unfold Builtin.«set_iterator.__next__»;refine aab (aai ?_);refine aab (wpAny_fieldsOf JG hdi ?_);dsimp only;refine aab (jk S.at_ S.dat S.tab.fit ?_);rw[aam (by simp)];refine aab (hn _ _ _ ?_);cases r with
 |some p=>
  obtain⟨v,nx⟩:=p;dsimp only;refine aab (wpAny_setField JG hdi (by simp) ?_);have h1:=get?_update_self (Obj.mapFields (·.setIfInBounds 0 (rawInt nx))) JG (Obj.isFreed_of_fields (Obj.data_mapFields hdi _));have d1:=Obj.data_mapFields hdi (·.setIfInBounds 0 (rawInt nx));refine aab (wpAny_setField h1 d1 (by simp) ?_);have h2:=get?_update_self (Obj.mapFields (·.setIfInBounds 1 (rawInt ((i:Int)+1)))) h1 (Obj.isFreed_of_fields (Obj.data_mapFields d1 _));refine aai ⟨_,rfl,aai (hQ v nx rfl _ ⟨_,h2,?_,?_⟩ ((Heap.SameBut.update ..).trans (Heap.SameBut.update ..)))⟩
  ·rw[Obj.cls_mapFields,Obj.cls_mapFields];exact WE
  ·rw[Obj.data_mapFields d1];simp[rawInt]
 |none=>dsimp only;refine aab (wpAny_setField JG hdi (by simp) ?_);refine aab ?_;simp only[newExc,newTuple];refine aab (aaM ?_ (by size_fits));refine aab (m:=firstArgMember _ _) (wpAny_of_eq (a:=Value.none) (by first|rfl|(simp only[firstArgMember];rfl)) ?_);refine aaM ?_ (by size_fits);simp only[raiseNew];refine aab (wpAny_handled ?_);rw[show A.in1.handled=none from hh];refine aab (aai (wpAny_throw ?_));refine aab (wpAny_isInstance (T:="StopIteration") (b:=true) ⟨_,aav _ rfl,rfl⟩ isSubtype_stop ?_);exact aai (hE rfl _ (((Heap.SameBut.update ..).extBut.push _).push _))
end
theorem mY{α:Type}:∀(l:List α) (i:Nat) (h:i<l.length),(l[i]::l.eraseIdx i).Perm l
 |x::l,0,_=>List.Perm.refl _
 | x::l,i+1,h=>by
  simp only[List.getElem_cons_succ,List.eraseIdx_cons_succ];exact(List.Perm.swap _ _ _).trans (List.Perm.cons x (mY l i (by simpa using h)))
section
variable {prog:Program} {w:World} {A:Around} {E:Value->Shared->Prop} {s:Shared}
theorem Dq{n:Nat}(hn:n≠0)(h:∀i d,i<n->Q i { s with drawn:=d }):wpAny (model prog w) A (choose src n) Q E s:=fun Γ p hΓ=>by
 show Sem.wp _ _ (Sem.choose src n Sem.pure) _ _ _ _;rw[Sem.wp];exact⟨hn,h _ _ (mod_lt _ (Nat.pos_of_ne_zero hn))⟩
theorem BN{α:Type}:∀(n:Nat) (xs:List α) (s:Shared) (Q:List α -> Shared->Prop),xs.length=n->(∀ys d,ys.Perm xs->Q ys { s with drawn:=d })->wpAny (model prog w) A (drawOrder n xs) Q E s
 | 0,xs,s,Q,hl,h=>by
  have:xs=[]:=List.eq_nil_of_length_eq_zero hl;subst this;unfold drawOrder;exact aai (h [] s.drawn (List.Perm.refl _))
 |n+1,[],s,Q,hl,h=>by simp at hl
 | n+1,x::xs,s,Q,hl,h=>by
  unfold drawOrder;refine aab (Dq (by simp) λi d hi=>?_);have hx:(x::xs)[i]?=some ((x::xs)[i]):=aaJ hi;rw[hx];dsimp only;refine aab (BN n ((x::xs).eraseIdx i) _ _ (by rw[List.length_eraseIdx,aaj hi];simp at hl |-;omega) λys d' p=>aai ?_);exact h _ d' (((List.Perm.cons _ p).trans (mY _ i hi)))
theorem rT{ep c:Nat}{ks:List Int}{i:Nat}{ps:List Nat}(hh:A.handled=none)(x:fY s.heap it (.ref td) i a es.size ep)(S:fq prog w s.heap a o es ep t ks)
  (hT:s.heap.get? td=some oT) (Vu:oT.data=.seq (ps.map λ(j:Nat)=>rawInt j).toArray c) (hlt:∀j∈ps,j<es.size)
  (hQ:∀j e,ps[i]?=some j->es[j]?=some e->∀h',fY h' it (.ref td) (i+1) a es.size ep->Heap.SameBut it s.heap h'->Q (some e.2) { s with heap:=h' })
  (hE:ps[i]?=none->∀h',Heap.ExtBut it s.heap h'->Q none { s with heap:=h' }):wpAny (model prog w) A (pyNext (.ref it)) Q E s:=by
 obtain⟨oi,JG,WE,hdi⟩:=id x;unfold pyNext;refine aab (wpAny_attempt (wpAny_callSpecial?_slot (name:=Str.ofString "__next__") x.typeIs SI.slot_next (wpAny_call_entry SI.slot_next x.typeIs SI.entry_next ?_ (SI.args_next _))));unfold Builtin.«set_iterator.__next__»;refine aab (aai ?_);refine aab (wpAny_fieldsOf JG hdi ?_);dsimp only;refine aab (jk S.at_ S.dat S.tab.fit ?_);rw[aam (by simp)];refine aab (wpAny_seqItems hT Vu ?_);dsimp only;have hg:((ps.map λ(j:Nat)=>rawInt j).toArray)[((i:Nat):Int).toNat]?=(ps[i]?).map λ(j:Nat)=>rawInt j:=by simp
 rw[hg];cases hp:ps[i]? with
 |some j=>
  have hj:j<es.size:=hlt j (aaE hp);simp only[map_some,rawInt];refine aab ?_;unfold setNextDrawn;refine aab (wpAny_setState_of S.at_ S.dat S.tab.fit ?_);dsimp only;rw[aam (by simp)];have ZZ:es[((j:Nat):Int).toNat]?=some es[j]:=by simp[hj]
  rw[ZZ];refine aai ?_;refine aab (wpAny_setField JG hdi (by simp) ?_);have h2:=get?_update_self (Obj.mapFields (·.setIfInBounds 1 (.int ((i:Int)+1) 0))) JG (Obj.isFreed_of_fields (Obj.data_mapFields hdi _));refine aai ⟨_,rfl,aai (hQ j _ hp (Array.getElem?_eq_getElem hj) _ ⟨_,h2,?_,?_⟩ (Heap.SameBut.update ..))⟩
  ·rw[Obj.cls_mapFields];exact WE
  ·rw[Obj.data_mapFields hdi];simp
 |none=>simp only[Option.map_none];refine aab (wpAny_setField JG hdi (by simp) ?_);have h1:=get?_update_self (Obj.mapFields (·.setIfInBounds 0 (rawInt 0))) JG (Obj.isFreed_of_fields (Obj.data_mapFields hdi _));have d1:=Obj.data_mapFields hdi (·.setIfInBounds 0 (rawInt 0));refine aab (wpAny_setField h1 d1 (by simp) ?_);refine aab ?_;simp only[newExc,newTuple];refine aab (aaM ?_ (by size_fits));refine aab (m:=firstArgMember _ _) (wpAny_of_eq (a:=Value.none) (by first|rfl|(simp only[firstArgMember];rfl)) ?_);refine aaM ?_ (by size_fits);simp only[raiseNew];refine aab (wpAny_handled ?_);rw[show A.in1.handled=none from hh];refine aab (aai (wpAny_throw ?_));refine aab (wpAny_isInstance (T:="StopIteration") (b:=true) ⟨_,aav _ rfl,rfl⟩ isSubtype_stop ?_);exact aai (hE hp _ ((((Heap.SameBut.update ..).trans (Heap.SameBut.update ..)).extBut.push _).push _))
end
theorem uV{α:Type}(f:Nat->Nat):∀(n k:Nat) (l:List α) (out:Array α),l.length=n->(pickOrder.go f n k l out).toList.Perm (out.toList++l)
 | 0,k,l,out,h=>by
  have:l=[]:=List.eq_nil_of_length_eq_zero h;subst this;unfold pickOrder.go;simp
 | n+1,k,l,out,h=>by
  unfold pickOrder.go;have hl:0<l.length:=by omega
  have hi:f k%l.length<l.length:=mod_lt _ hl;rw[aaJ hi];dsimp only;refine(uV f n (k+1) _ _ (by rw[List.length_eraseIdx,aaj hi];omega)).trans ?_;rw[Array.toList_push,List.append_assoc];exact List.Perm.append_left _ (mY l _ hi)
theorem uW{t:SetTable}{n:Nat}(h:t.fits n=true):t.place.size=n:=by
 simp only[SetTable.fits,and_eq_true,beq_iff_eq]at h;exact h.1
def Vv(t:SetTable):Nat->Nat
 |0=>0
 |i+1=>t.place.getD i 0+1
theorem uX(r:uP t.place):∀i,i<=t.place.size->SetTable.below t.place (Vv t i)=i
 |0,_=>Az r
 | i+1,h=>by
  have hi:i<t.place.size:=h;have e:Vv t (i+1)=t.place[i]+1:=by simp[Vv,Array.getD,hi]
  rw[e];exact AA r hi
section
variable {prog:Program} {w:World} {A:Around} {E:Value->Shared->Prop} {s:Shared}
theorem fq.keep{ep:Nat}{ks:List Int}(S:fq prog w h a o es ep t ks)(k:∀o,h.get? a=some o->h'.get? a=some o):fq prog w h' a o es ep t ks:={ S with at_:=k o S.at_ }
theorem fY.keep{i:Nat}{n ep:Nat}(x:fY h it f i a n ep)(k:∀o,h.get? it=some o->h'.get? it=some o):fY h' it f i a n ep:=by
 obtain⟨o,ho,r⟩:=x;exact⟨o,k o ho,r⟩
def PL(L:List (Int×Value))(i:Nat)(v:Value):Prop:=∃e,L[i]?=some e/\v=e.2
theorem Dr(hh:A.handled=none){ep:Nat}{ks:List Int}(hne:a≠I)(hb:t9 w=false)(hp:(!t.plain&&decide (es.size>1))=false) :
  Walks prog w A I [I,a] [I] es.toList.length (PL es.toList) (λi h=>fq prog w h a o es ep t ks/\fY h I (.int (Vv t i) 0) i a es.size ep) where
 sub:=λb hb=>by simp at hb;simp[hb]
 frame:=λ_ _ _ st hk=>⟨st.1.keep λo e=>hk a (by simp) o e,st.2.keep λo e=>hk I (by simp) o e⟩
 item:=λi s Q E hi st hQ=>by
  have hi:i<es.size:=by simpa using hi
  have hz:=uW st.1.tab.fit;have hb':=uX st.1.tab.rs i (by rw[hz];exact le_of_lt hi);refine nX (r:=some (es[i].2,t.place.getD i 0+1)) hh st.2 st.1 (λA E Q q=>uS st.1 hb hp ?_) (λv nx e h' x' sb=>?_) (λe=>nomatch e)
  ·rw[hb',Array.getElem?_eq_getElem hi,Array.getElem?_eq_getElem (by rw[hz];exact hi)]
   have e1:t.place[i]'(by rw[hz];exact hi)=t.place.getD i 0:=by simp[Array.getD,hz,hi]
   dsimp only;rw[e1];exact q
  ·cases e;exact hQ _ h' s.toks ⟨es[i],by simp[hi],rfl⟩ ⟨st.1.keep λo e=>sb.extBut a o hne e,x'⟩ λb o hb e=>sb.extBut b o (λz=>hb (by simp[z])) e
 done:=λs Q E st hQ=>by
  have hz:=uW st.1.tab.fit;have hb':=uX st.1.tab.rs es.toList.length (by rw[hz];simp);refine nX (r:=none) hh st.2 st.1 (λA E Q q=>uS st.1 hb hp ?_) (λv nx e=>nomatch e) (λ_ h' sb=>hQ h' s.toks λb o hb e=>sb b o (λz=>hb (by simp[z])) e);rw[hb',Array.getElem?_eq_none (by simp)];exact q
 self:=λ_ _ _ _ st hQ=>o5 st.2 hQ
theorem Ds(hh:A.handled=none){ep:Nat}{ks:List Int}(hne:a≠I)(hb:t9 w=true) :
  Walks prog w A I [I,a] [I] (pickOrder (w.params.setOrder a ep) es).toList.length (PL (pickOrder (w.params.setOrder a ep) es).toList) (λi h=>fq prog w h a o es ep t ks/\fY h I (.int (0:Nat) 0) i a es.size ep) where
 sub:=λb hb=>by simp at hb;simp[hb]
 frame:=λ_ _ _ st hk=>⟨st.1.keep λo e=>hk a (by simp) o e,st.2.keep λo e=>hk I (by simp) o e⟩
 item:=λi s Q E hi st hQ=>by
  have hi:i<(pickOrder (w.params.setOrder a ep) es).size:=by simpa using hi
  refine nX (r:=some ((pickOrder (w.params.setOrder a ep) es)[i].2,0)) hh st.2 st.1 (λA E Q q=>uU st.1 hb ?_) (λv nx e h' x' sb=>?_) (λe=>nomatch e)
  ·rw[Array.getElem?_eq_getElem hi];exact q
  ·cases e;exact hQ _ h' s.toks ⟨(pickOrder (w.params.setOrder a ep) es)[i],by simp[hi],rfl⟩ ⟨st.1.keep λo e=>sb.extBut a o hne e,x'⟩ λb o hb e=>sb.extBut b o (λz=>hb (by simp[z])) e
 done:=λs Q E st hQ=>by
  refine nX (r:=none) hh st.2 st.1 (λA E Q q=>uU st.1 hb ?_) (λv nx e=>nomatch e) (λ_ h' sb=>hQ h' s.toks λb o hb e=>sb b o (λz=>hb (by simp[z])) e);rw[Array.getElem?_eq_none (by simp)];exact q
 self:=λ_ _ _ _ st hQ=>o5 st.2 hQ
theorem AE(hh:A.handled=none){ep c:Nat}{ks:List Int}{ps:List Nat}(hne:a≠I)(hnt:td≠I)(hlt:∀j∈ps,j<es.size)(Vu:oT.data=.seq (ps.map λ(j:Nat)=>rawInt j).toArray c) :
  Walks prog w A I [I,a,td] [I] ps.length (PL (ps.map λj=>es.getD j (0,.none))) (λi h=>fq prog w h a o es ep t ks/\fY h I (.ref td) i a es.size ep/\h.get? td=some oT) where
 sub:=λb hb=>by simp at hb;simp[hb]
 frame:=λ_ _ _ st hk=>⟨st.1.keep λo e=>hk a (by simp) o e,st.2.1.keep λo e=>hk I (by simp) o e,hk td (by simp) _ st.2.2⟩
 item:=λi s Q E hi st hQ=>by
  refine rT hh st.2.1 st.1 st.2.2 Vu hlt (λj e hj he h' x' sb=>?_) (λhn=>absurd hn (by rw[aaJ hi];simp));refine hQ _ h' s.toks ⟨e,?_,rfl⟩ ⟨st.1.keep λo e=>sb.extBut a o hne e,x',sb.extBut td _ hnt st.2.2⟩ λb o hb e=>sb.extBut b o (λz=>hb (by simp[z])) e;rw[aaB,hj];have hjl:j<es.size:=(Array.getElem?_eq_some_iff.mp he).1;have:=(Array.getElem?_eq_some_iff.mp he).2;simp[Array.getD,hjl,this]
 done:=λs Q E st hQ=>rT hh st.2.1 st.1 st.2.2 Vu hlt (λj e hj=>absurd hj (by simp)) (λ_ h' sb=>hQ h' s.toks λb o hb e=>sb b o (λz=>hb (by simp[z])) e)
 self:=λ_ _ _ _ st hQ=>o5 st.2.1 hQ
end
section
variable {prog:Program} {w:World} {A:Around} {E:Value->Shared->Prop} {s:Shared}
theorem Fw{ep:Nat}{ks:List Int}(S:fq prog w s.heap a o es ep t ks)(h:Q (!t9 w&&(!t.plain&&decide (es.size>1))) s):wpAny (model prog w) A (setDrawn a) Q E s:=by
 unfold setDrawn;refine aab (wpAny_setState_of S.at_ S.dat S.tab.fit ?_);dsimp only;exact aab (mq (aai h))
theorem xX{ep:Nat}{ks:List Int}(S:fq prog w s.heap a o es ep t ks)(h:Q ep s):wpAny (model prog w) A (setEpoch a) Q E s:=wpAny_setEpoch_of S.at_ S.dat S.tab.fit h
theorem Fx(hh:A.handled=none){ep:Nat}{ks:List Int}(S:fq prog w s.heap a o es ep t ks)
  (hQ:∀(h':Heap) d (I:Addr) (fp:List Addr) (L:List (Int×Value)) (St:Nat->Heap->Prop),L.Perm es.toList->Walks prog w A I fp [I] L.length (PL L) St->St 0 h'->s.heap.objs.size<=I->I<h'.objs.size->(∀b∈fp,b=a\/s.heap.objs.size<=b)->(∀b o,s.heap.get? b=some o->h'.get? b=some o)->Q (.ref I) { s with heap:=h',drawn:=d }) :
  wpAny (model prog w) A (pyIter (.ref a)) Q E s:=by
 have hT:s.TypeIs (.ref a) "set":=⟨o,S.at_,S.ex.1⟩;have hlt:a<s.heap.objs.size:=aan S.at_;refine wpAny_pyIter_slot hT PySem.F.slot_set_iter (wpAny_call_entry PySem.F.slot_set_iter hT SI.AD ?_ (PySem.F.args_set_iter_1 _));unfold Builtin.«frozenset.__iter__» Builtin.Frozenset.slot0 Builtin.Frozenset.sizeOf;refine aab (aab (aai (aai ?_)));refine aab (aab (jk S.at_ S.dat S.tab.fit (aai ?_)));refine aab (Fw S ?_);cases hd:(!t9 w&&(!t.plain&&decide (es.size>1))) with
 |false=>
  simp only[false_eq_true,↓reduceIte];refine aab (aai ?_);refine aab (xX S ?_);refine aab (aaM (aai ⟨_,rfl,"set_iterator",_,⟨_,aav _ rfl,rfl⟩,SI.slot_next.lookup,?_⟩));have e:s={ s with drawn:=s.drawn }:=by cases s;rfl
  have X0:∀b∈[s.heap.objs.size,a],b=a\/s.heap.objs.size<=b:=λb hb=>by
   simp only[mem_cons,not_mem_nil,or_false]at hb
   rcases hb with rfl|rfl
   ·exact .inr (aao _)
   ·exact .inl rfl
  have sz:s.heap.objs.size<(s.heap.push { cls:=.type "set_iterator",data:=.fields ([rawInt 0,rawInt 0,.ref a,rawInt es.size,rawInt ep]:List Value).toArray }).objs.size:=by rw[size_push];exact lt_succ_self _
  cases hb:t9 w with
  |true=>exact hQ _ s.drawn _ _ _ _ (uV _ _ 0 es.toList #[] (by simp)) (Ds hh (aau hlt) hb) ⟨S.keep λo e=>aae _ e,⟨_,aav _ rfl,rfl,rfl⟩⟩ (aao _) sz X0 λb o e=>aae _ e
  |false=>rw[hb]at hd;exact hQ _ s.drawn _ _ _ _ (List.Perm.refl _) (Dr hh (aau hlt) hb (by simpa using hd)) ⟨S.keep λo e=>aae _ e,⟨_,aav _ rfl,rfl,rfl⟩⟩ (aao _) sz X0 λb o e=>aae _ e
 |true=>
  simp only[↓reduceIte];refine aab (BN es.size (List.range es.size) s _ (by simp) λps d pp=>?_);refine aab ?_;simp only[newTuple];refine aaM ?_ (by show (toArray _).size<=sizeLine;rw[aax,aaf,pp.length_eq,aaU];exact fits_of_scanBound S.tab.few);have S1:fq prog w (s.heap.push { cls:=.type "tuple",data:=.seq (ps.map λ(i:Nat)=>rawInt i).toArray }) a o es ep t ks:=S.keep λo e=>aae _ e;refine aab (xX S1 ?_);refine aab (aaM (aai ⟨_,rfl,"set_iterator",_,⟨_,aav _ rfl,rfl⟩,SI.slot_next.lookup,?_⟩));have hpl:∀j∈ps,j<es.size:=λj hj=>by simpa using pp.mem_iff.mp hj
  have perm:(ps.map λj=>es.getD j (0,Value.none)).Perm es.toList:=by
   have e2:(List.range es.size).map (λj=>es.getD j (0,Value.none))=es.toList:=by
    apply ext_getElem
    ·simp
    ·intro i h1 h2
     have hi:i<es.size:=by simpa using h2
     simp[Array.getD,hi]
   rw[<-e2];exact pp.map _
  have z1:(s.heap.push { cls:=.type "tuple",data:=.seq (ps.map λ(i:Nat)=>rawInt i).toArray }).objs.size=s.heap.objs.size+1:=size_push _ _;have W:=AE (prog:=prog) (w:=w) (A:=A) (o:=o) (ep:=ep) (t:=t) (ks:=ks) hh (I:=s.heap.objs.size+1) (a:=a) (td:=s.heap.objs.size) (oT:={ cls:=.type "tuple",data:=.seq (ps.map λ(i:Nat)=>rawInt i).toArray }) (es:=es) (c:=0) (ps:=ps) (aau (lt_succ_of_lt hlt)) (aau (lt_succ_self _)) hpl rfl;rw[show ps.length=(ps.map λj=>es.getD j (0,Value.none)).length by simp] at W;rw[z1];refine hQ _ d _ _ _ _ perm W ⟨S1.keep λo e=>aae _ e,⟨{ cls:=.type "set_iterator",data:=.fields ([.ref s.heap.objs.size,rawInt 0,.ref a,rawInt es.size,rawInt ep]:List Value).toArray },?_,rfl,rfl⟩,aae _ (aav _ rfl)⟩ (le_succ _) ?_ ?_ λb o e=>aae _ (aae _ e)
  ·rw[<-z1];exact aav _ rfl
  ·rw[size_push,z1];exact lt_succ_self _
  ·intro b hb
   simp only[mem_cons,not_mem_nil,or_false]at hb
   rcases hb with rfl|rfl|rfl
   ·exact .inr (le_succ _)
   ·exact .inl rfl
   ·exact .inr (aao _)
end
section
variable {prog:Program} {w:World} {A:Around} {E:Value->Shared->Prop} {s:Shared}
theorem Fy(hT:s.TypeIs (.ref r) "set")(h:Q false s):wpAny (model prog w) A (Builtin.List.listLengthHint (.ref r)) Q E s:=by
 unfold Builtin.List.listLengthHint;refine aab (wpAny_specialOf hT PySem.F.slot_set_len.lookup ?_);generalize hid:("set.__len__":String)=Z0
 wp_delta
 rw[show splitId Z0=some ("set","__len__") from by subst hid;decide +kernel];subst hid;refine aab (wpAny_isInstance (T:="set") (b:=true) hT sub_set_self ?_);refine wpAny_ite_split (λz=>absurd z (by decide)) (λ_=>?_);refine wpAny_ite_split (λ_=>?_) (λz=>absurd (by decide +kernel) z);exact aab (wpAny_typeOf hT (aai h))
theorem xY(hh:A.handled=none){ep:Nat}{ks:List Int}(S:fq prog w s.heap a o es ep t ks)
  (h:∀(h':Heap) (tk:Nat) d (L:List (Int×Value)),(∀b o,s.heap.get? b=some o->h'.get? b=some o)->s.heap.objs.size<h'.objs.size->L.Perm es.toList->R (L.map (·.2)) { s with heap:=h',toks:=tk,drawn:=d }) :
  wpAny (model prog w) A (collect (.ref a)) R E s:=by
 have hlt:a<s.heap.objs.size:=aan S.at_;unfold collect;refine aab (wpAny_runValue (codeAny_builtin entry_proto_collect' ?_));rw[Around.under_plainId PySem.F.plain_proto_collect _];show wpAny _ A.in1 (newList [] >>= λl=>again (.builtin "list.__iadd__" ⟨[l,.ref a],[]⟩)) _ _ s;refine aab (aaM ?_);refine aai ⟨plainId_quiet PySem.F.plain_list_iadd _,codeAny_builtin entry_list_iadd' ?_⟩;rw[Around.under_plainId PySem.F.plain_list_iadd _]
 let s1:Shared:={ s with heap:=s.heap.push { cls:=.type "list",data:=.seq ([]:List Value).toArray } }
 have l1:s1.heap.get? s.heap.objs.size=some { cls:=.type "list",data:=.seq #[] }:=aav _ rfl;have S1:fq prog w s1.heap a o es ep t ks:=S.keep λo e=>aae _ e;have z1:s1.heap.objs.size=s.heap.objs.size+1:=size_push _ _;have hT:s1.TypeIs (.ref a) "set":=⟨o,S1.at_,S1.ex.1⟩;show wpAny _ A.in1 (Builtin.List.listExtendWith (.ref s.heap.objs.size) (.ref a) (.ref s.heap.objs.size)) _ _ s1;unfold Builtin.List.listExtendWith;refine aab (wpAny_typeOf hT ?_);have n1:Builtin.List.listSameRef (.ref s.heap.objs.size) (.ref a)=false:=by simp[Builtin.List.listSameRef,ne_of_gt hlt]
 simp only[n1,show (Value.type "set" == Value.type "list")=false by decide,show (Value.type "set" == Value.type "tuple")=false by decide,Bool.or_false,false_eq_true,if_false];refine aab (Fx (A:=A.in1) (by simp[hh]) S1 λh2 d I fp L St perm W st zI zI2 hfp k2=>?_);have l2:h2.get? s.heap.objs.size=some { cls:=.type "list",data:=.seq #[] }:=k2 _ _ l1;have nfp:s.heap.objs.size∉fp:=λz=>by
  rcases hfp _ z with e|e
  ·exact absurd e (ne_of_gt hlt)
  ·rw[z1]at e;exact absurd e (Nat.not_succ_le_self _)
 have hl:L.length<=sizeLine:=by rw[perm.length_eq,aaK];exact fits_of_scanBound S.tab.few
 have key:∀(hp:Heap) (c₁:Nat) (Rr:Result->Shared->Prop),St 0 hp->(∀b o,b≠s.heap.objs.size->h2.get? b=some o->hp.get? b=some o)->hp.get? s.heap.objs.size=some { cls:=.type "list",data:=.seq #[] c₁ } ->
   (∀(s':Shared) (acc:Array Value) (c:Nat),s'.heap.get? s.heap.objs.size=some { cls:=.type "list",dict:=none,data:=.seq acc c,slots:=#[] }->R acc.toList s'->Rr (.ok (.ret (.ref s.heap.objs.size))) s') ->
   codeAny (model prog w) A (.builtin "list.extend.loop" ⟨[.ref s.heap.objs.size,.ref I,.ref s.heap.objs.size],[]⟩) Rr { s1 with heap:=hp,drawn:=d }:=by
  intro hp c₁ Rr hst hk hS hR;refine codeAny_extend_loopS W.toS hl s.heap.objs.size nfp (.ref s.heap.objs.size) L.length 0 _ #[] c₁ rfl (zero_le _) hst hS (ItemsOf.nil _) λs' acc c hm hS' hacc=>?_;refine hR s' acc c hS' ?_;have ea:acc.toList=L.map (·.2):=by
   apply ext_getElem
   ·rw[aaK,hacc.1,aaf]
   ·intro j h1 h2
    have hj:j<acc.size:=by simpa using h1
    obtain⟨e,he,hv⟩:=hacc.2 j acc[j] (Array.getElem?_eq_getElem hj);rw[Array.getElem_toList,hv,getElem_map];obtain⟨hj2,e2⟩:=aag.mp he;rw[e2]
  rw[ea,Moved.eq_with hm];refine h s'.heap s'.toks d L (λb o e=>?_) (aan hS') perm;have hb:b<s.heap.objs.size:=aan e;refine hm.heap b o (λz=>?_) (hk b o (aau hb) (k2 b o (aae _ e)))
  rcases aaA.mp z with z|z
  ·exact absurd z (aau hb)
  ·rw[aat]at z;rw[z]at hb;rw[z1]at zI;exact absurd (aaq hb (Nat.le_of_succ_le zI)) (lt_irrefl _)
 have fin:∀(s':Shared) (acc:Array Value) (c:Nat),s'.heap.get? s.heap.objs.size=some { cls:=.type "list",dict:=none,data:=.seq acc c,slots:=#[] }->R acc.toList s'->wpAny (model prog w) A (load s.heap.objs.size >>= λob=>(match ob.data with|.seq xs _=>pure xs.toList|_=>unsupported "internal:collect")) R E s':=λs' acc c e q=>aab (wpAny_load e (aai q));refine aab (wpAny_holding (Fy ⟨o,k2 _ _ S1.at_,S1.ex.1⟩ ?_));refine wpAny_ite_split (λ_=>?_) (λ_=>aai ⟨plainId_quiet PySem.F.plain_extend_loop _,key _ 0 _ st (λb o _ e=>e) l2 fin⟩);refine aab (wpAny_rule ?_);refine aab ?_;show wpAny _ _ (updateSeq s.heap.objs.size (·.push .none) >>= λ_=>updateSeq s.heap.objs.size (·.pop)) _ _ _;refine aab (wpAny_updateSeq l2 rfl ?_);have l3:=get?_update_self (Obj.mapSeq (·.push Value.none)) l2 rfl;refine wpAny_updateSeq (hz:=by seq_fits) l3 rfl ?_;have l4:=get?_update_self (Obj.mapSeq (·.pop)) l3 rfl;have oth:∀b o,b≠s.heap.objs.size->h2.get? b=some o->((h2.update s.heap.objs.size (Obj.mapSeq (·.push Value.none))).update s.heap.objs.size (Obj.mapSeq (·.pop))).get? b=some o:=λb o hb e=>(Heap.get?_update_other _ _ (Ne.symm hb)).trans ((Heap.get?_update_other _ _ (Ne.symm hb)).trans e);exact aai ⟨plainId_quiet PySem.F.plain_extend_loop _,key _ _ _ (W.frame 0 _ _ st λb hb o e=>oth b o (λz=>nfp (z▸hb)) e) oth l4 fin⟩
end
theorem xZ:∀(ks ns:List Int),ks.Nodup->(∀k∈ks,k∈ns)->ks.length=ns.length->ks.Perm ns
 | [],ns,_,_,h=>by
  have:ns=[]:=List.eq_nil_of_length_eq_zero h.symm;subst this;exact List.Perm.refl _
 | k::ks,ns,nd,hs,hl=>by
  have hk:=hs k aal;have X3:=nodup_cons.mp nd;have p:=List.perm_cons_erase hk;refine(List.Perm.cons k (xZ ks (ns.erase k) X3.2 (λx hx=>?_) ?_)).trans p.symm
  ·exact(List.mem_erase_of_ne λz=>X3.1 (by rw[<-z];exact hx)).mpr (hs x (aak _ hx))
  ·rw[List.length_erase_of_mem hk];simp only[length_cons]at hl;omega
def ya:Value->Int
 |.int i _=>i
 |_=>0
section
variable {prog:Program} {w:World} {A:Around} {E:Value->Shared->Prop} {s:Shared}
theorem rV:∀{L:List (Int×Value)},ElemsOf (intKind prog w) L->IntsAre (L.map (·.2)) (L.map λe=>ya e.2)
 |[],_=>.nil
 | (h,v)::L,el=>by
  obtain⟨⟨k,hk,_⟩,_⟩:=el _ aal;obtain⟨t,e⟩:=Value.isInt_shape (k:=k) (v:=v) hk;subst e;exact .cons k t (rV λx hx=>el x (aak _ hx))
theorem Fz{h:Heap}{a:Addr}{o:Obj}{es:Array (Int×Value)}{ep:Nat}{t:SetTable}{ks:List Int}(S:fq prog w h a o es ep t ks){L:List (Int×Value)}(p:L.Perm es.toList):(L.map λe=>ya e.2).Perm ks:=by
 refine(xZ ks _ S.XU (λk hk=>?_) ?_).symm
 ·obtain⟨e,he,q⟩:=(S.mem k).mp hk;obtain⟨t',ev⟩:=Value.isInt_shape (k:=k) (v:=e.2) q;exact mem_map.mpr ⟨e,p.mem_iff.mpr he,by rw[ev];rfl⟩
 ·have:=S.num;rw[aaf,p.length_eq,aaK];exact this.symm
theorem AF(hh:A.handled=none){ep:Nat}{ks:List Int}(S:fq prog w s.heap a o es ep t ks)(h64:ks.length<64)
  (hQ:∀(h':Heap) (tk:Nat) d (D:Addr) (out:List Value) (e:Nat),(∀b o,s.heap.get? b=some o->h'.get? b=some o)->s.heap.objs.size<=D->h'.get? D=some (seqObj "list" out.toArray e)->IntsAre out (sortI ks)->Q (.ref D) { s with heap:=h',toks:=tk,drawn:=d }) :
  wpAny (model prog w) A (call (.builtin "sorted") [.ref a]) Q E s:=by
 refine uK.kU (O:=uK.As) (xY (A:=A.in1) (by simp[hh]) S λh' tk d L hk hz perm=>?_);have el:ElemsOf (intKind prog w) L:=S.el.perm perm;have hI:=rV el;have pk:=Fz S perm;have hl:(L.map (·.2)).length<64:=by rw[aaf];have:=pk.length_eq;rw[aaf]at this;omega
 refine⟨hl,λi=>(L.map λe=>ya e.2).getD i 0,λh2 h6 _=>uK.Au hI h2,λp h'' outs k2 he=>?_⟩;obtain⟨e,he⟩:=he;have lv:(L.map (·.2)).length=(L.map λe=>ya e.2).length:=by rw[aaf,aaf]
 have mem:∀i∈p,i<L.length:=λi hi=>by have:=outs.perm.mem_iff.mp hi;simpa using this
 have pn:(p.map λi=>(L.map λe=>ya e.2).getD i 0).Perm ks:=by have:=outs.perm.map λi=>(L.map λe=>ya e.2).getD i 0;rw[lv,uK.fm]at this;exact this.trans pk
 have up:(p.map λi=>(L.map λe=>ya e.2).getD i 0).Pairwise (· <= ·):=by refine List.Pairwise.imp (R:=uK.As.kle) (λ{x y:Int} hxy=>?_) outs.up;have hxy:(decide (y<x):Bool)=false:=hxy;exact Int.not_lt.mp (of_decide_eq_false hxy)
 have es:=eq_sortI pn up;refine hQ h'' tk d h'.objs.size _ e (λb o z=>k2 b o (hk b o z)) (le_of_lt hz) he ?_;rw[<-es];clear he es up pn outs
 induction p with
 |nil=>exact .nil
 |cons i r ih=>
  have hi:=mem i aal;have hi2:i<(L.map (·.2)).length:=by simpa using hi
  obtain⟨t',ev⟩:=IntsAre.int_at hI i _ (aaJ hi2);rw[aap,aap];have e1:(L.map (·.2)).getD i Value.none=.int ((L.map λe=>ya e.2).getD i 0) t':=by rw[<-ev];simp[List.getD,List.getElem?_eq_getElem hi]
  rw[e1];exact .cons _ t' (ih λj hj=>mem j (aak _ hj))
end
end L2
end
section
namespace L2
open PySem PySem.Spec PyProof.Rows
section
variable {X:Cx}
theorem Inv.draws(I:Inv X pins σ H s)(d:Drawn):Inv X pins σ H { s with drawn:=d }:=⟨I.ok,I.os,I.bare,I.base,I.loc,I.cell,I.free,I.kh,I.pin,I.hok,I.len⟩
def Z1(K:Frag)(te:TE):TE:=λσ H Q=>te σ H λx H1=>∃p ns,x=.ref p/\gR K H1 p (ns.map V.int)/\ns.length<64/\∀l,H1 l=none->Q (.ref l) (upd H1 l (.lst ((sortI (jj [] ns)).map V.int)))
theorem yb:∀(ns ks:List Int),(jj ks ns).length<=ks.length+ns.length
 |[],ks=>by simp[jj]
 | n::ns,ks=>by
  rw[jj,aaF];have:=yb ns (iw ks n);have:=kW ks n;omega
theorem Kp{p1 p2 pos1 pos2:Pos}(hh:X.A.handled=none)(hg:Gl X "sorted")(hm:X.mg "sorted" = none)(Z2:Gl X "set")(hm2:X.mg "set" = none)(hv:bootBuiltins "sorted" = some (.builtin "sorted"))(hv2:bootBuiltins "set" = some (.type "set"))(he:PE X e te)
  (hs:starEach [e] X.env=[(false,eval e X.env)]):PE X (.Call (.Name "sorted" p1) [.Call (.Name "set" p2) [e] [] pos2] [] pos1) (Z1 X.K te):=by
 intro pins s σ H Q I h;refine wpAny_Call_Name_kw (jN I hg hm hv ?_ (by decide) (by decide));refine PyProof.Rows.callWith_builtin1 ?_ rfl rfl;show wpAny _ _ (spliced [(false,eval (.Call (.Name "set" p2) [e] [] pos2) X.env)]) _ _ s;refine Calls.spliced_cons ?_;refine wpAny_Call_Name_kw (jN I Z2 hm2 hv2 ?_ (by decide) (by decide));refine PyProof.Rows.callWith_type1 ?_ hs rfl;show wpAny _ _ (spliced (backTo pos2 (starEach [e] X.env))) _ _ s;rw[hs];show wpAny _ _ (spliced [(false,eval e X.env)]) _ _ s;refine Calls.spliced_cons (cK (he pins s σ H _ I h) λu s1 ⟨x,H1,I1,r1,p,ns,ex,hq,h64,q⟩=>Calls.spliced_nil ?_);subst ex;cases r1;obtain⟨its,rv,pl,hz⟩:=I1.list hq;have hi:=intsAre_of rv;have hl:=hi.length;refine xW hh pl.isList (by simpa using hi) (by show its.toArray.size+1<4096;rw[aax,hl];omega) λh2 tk S k2=>?_;obtain⟨o,es,ep,t,S⟩:=S;refine Calls.spliced_nil ?_;have hk:=yb ns [];have WG:(jj [] ns).length<64:=by simp at hk;omega
 refine AF (s:={ s1 with heap:=h2,toks:=tk }) hh S WG λh3 Z3 d D out e k3 zD eD hout=>?_;have hD:s1.heap.objs.size<=D:=aaH (le_of_lt (aan S.at_)) zD;have hn:H1 D=none:=I1.hok.fresh hD;refine⟨.ref D,_,(I1.draws d).laid (t':=Z3) (λb o z=>k3 b o (k2 b o (aan z) z)) hD (show cB X.prog X.w _ _ _ (.lst ((sortI (jj [] ns)).map V.int)) from⟨?_,out,e,l8 hout,eD⟩),rfl,q _ hn⟩;rw[aaf,(sortI_perm _).length_eq,sizeLine_eq];omega
end
end L2
end
section
namespace L2
open PySem PySem.Spec PyProof.Rows PySem.W
section
variable {X:Cx}
def X4(to:TE):TE:=λσ H Q=>to σ H λx H1=>∃a kvs,x=.ref a/\H1 a=some (.dK kvs)/\∀l,H1 l=none->Q (.ref l) (upd H1 l (.lst (kvs.map λkv=>kV kv.1)))
theorem N1(e:(bJ P w).is k u=true):RelV (kV k) u:=by
 rw[Aa]at e
 rcases bV e with ⟨i,t,rfl,rfl⟩|⟨x,t,rfl,rfl⟩
 ·exact⟨t,rfl⟩
 ·exact⟨t,rfl⟩
theorem uY:∀{kvs:List (Key×V)} {vs:List (Key×Value)} {out:List Value},KV kvs vs->out.length=vs.length->(∀(j:Nat) (v:Value),out[j]?=some v->∃(k:Key) (x:Value),vs[j]?=some (k,x)/\(bJ P w).is k v=true)->Vals (kvs.map λkv=>kV kv.1) out
 | [],vs,out,r,hl,h=>by
  cases r;cases out with
  |nil=>exact .nil
  |cons _ _=>simp at hl
 | p::kvs,vs,out,r,hl,h=>by
  cases r with
  |@cons _ q _ qs hq t=>
   cases out with
   |nil=>simp at hl
   |cons v out=>
    obtain⟨k,x,e1,e2⟩:=h 0 v rfl;simp at e1;refine .cons ?_ (uY t (by simpa using hl) λj u hu=>h (j+1) u hu);have:p.1=k:=by rw[hq.1,e1]
    show RelV (kV p.1) v;rw[this];exact N1 e2
end
end L2
end
section
namespace L2
open PySem PySem.Spec PyProof.Rows
end L2
end
section
namespace L2
open PySem PySem.Spec PyProof.Rows PySem.W
end L2
end
section
namespace L2
open PySem PySem.Spec PyProof.Rows
def WI(K:Frag)(a b:Addr):It :=
 ⟨λi H=>∃xs ys x y,gR K H a xs/\gR K H b ys/\xs[i]?=some x/\ys[i]?=some y,
   λi H x H'=>∃p u v,H p=none/\x=.ref p/\H'=upd H p (.tup [u,v])/\∀xs ys,gR K H a xs->gR K H b ys->xs[i]?=some u/\ys[i]?=some v,
   λi H=>∃xs ys,gR K H a xs/\gR K H b ys/\(xs.length<=i\/ys.length<=i)⟩
theorem FA{P:Program}{w:World}{K:Frag}{es:List Expr}{k:Nat}{pos:Pos}(a b z TI TO i1 i2:Addr)(D:ZipApart z TI TO i1 i2 a b) :
  Turn P w K (.Tuple es k pos) (WI K a b) [z,TI,TO,i1,i2] z (λi h=>IsZip h z TI TO .none/\IsPair h TI (.ref i1) (.ref i2)/\(∃u v,IsPair h TO u v)/\h.IsListIter i1 a i/\h.IsListIter i2 b i) where
 mem:=by simp
 obj:=λi h st c hc=>by
  obtain⟨hz,hTI,⟨u,v,hTO⟩,⟨o1,e1,c1,d1⟩,⟨o2,e2,c2,d2⟩⟩:=st;simp only[mem_cons,not_mem_nil,or_false]at hc
  rcases hc with q|q|q|q|q
  ·subst q;exact⟨_,hz,λv z=>nomatch z⟩
  ·subst q;exact⟨_,hTI,λv z=>nomatch z⟩
  ·subst q;exact⟨_,hTO,λv z=>nomatch z⟩
  ·subst q;exact⟨o1,e1,λv z=>by rw[d1]at z;cases z⟩
  ·subst q;exact⟨o2,e2,λv z=>by rw[d2]at z;cases z⟩
 keep:=λi h h' st k=>by
  obtain⟨hz,hTI,⟨u,v,hTO⟩,h1,h2⟩:=st;exact⟨k z (by simp) _ hz,k TI (by simp) _ hTI,⟨u,v,k TO (by simp) _ hTO⟩,h1.at λo e=>k i1 (by simp) o e,h2.at λo e=>k i2 (by simp) o e⟩
 item:=by
  intro X hP hw hK hc i pins s σ H E I hf st hg;subst hP hw hK;obtain⟨xs,ys,x,y,hq,hq',hx,hy⟩:=hg;obtain⟨its,rv,p,_⟩:=I.list hq;obtain⟨its',Vw,p',_⟩:=I.list hq';obtain⟨u,hu,ru⟩:=rv.get hx;obtain⟨v,hv,rw'⟩:=Vw.get hy;obtain⟨hz,hTI,⟨c1,c2,hTO⟩,h1,h2⟩:=st;have lz:z<s.heap.objs.size:=aan hz;have lTI:TI<s.heap.objs.size:=aan hTI;have lTO:TO<s.heap.objs.size:=aan hTO;have l1:i1<s.heap.objs.size:=by obtain⟨_,q,_⟩:=h1;exact aan q
  have l2:i2<s.heap.objs.size:=by obtain⟨_,q,_⟩:=h2;exact aan q
  refine wpAny_pyNext_zip_item D hz hTI hTO h1 h2 p.isList p'.isList (x:=u) (y:=v) (by simpa using hu) (by simpa using hv) λh' a1 a2 a3 a4 a5 a6 hk=>?_;refine⟨_,rfl,?_⟩;refine wpAny_letOwnedTupleGo_zip a1 λh2' hz2 hs2=>?_;have hT2:h2'.get? s.heap.objs.size=some { cls:=.type "tuple",data:=.seq [u,v].toArray }:=hs2.extBut _ _ (ne_of_gt lz) a5;have I1:Inv X pins σ H { s with heap:=h2' }:=I.BJ (t':=s.toks) (ch:=[z,TI,TO,i1,i2]) hf λc o hc q=>by
   have e1:c≠z:=λz=>hc (by simp[z]);have e2:c≠TO:=λz=>hc (by simp[z]);have e3:c≠i1:=λz=>hc (by simp[z]);have e4:c≠i2:=λz=>hc (by simp[z]);exact hs2.extBut c o e1 (hk c o e1 e2 e3 e4 q)
  have hn:H s.heap.objs.size=none:=I.hok.fresh (aao _);have I2:Inv X pins σ (upd H s.heap.objs.size (.tup [x,y])) { s with heap:=h2' }:=by
   refine⟨I1.ok,I1.os,I1.bare,?_,I1.loc,I1.cell,?_,λy c q=>?_,λp hp=>?_,λb o q=>?_,I1.len⟩
   ·refine⟨I1.base.keep,I1.base.slot,λb o q n hx=>?_,I1.base.there,λb ys q=>?_,λb o ys q=>?_,λb ps q=>?_⟩
    ·have hlt:b<s.heap.objs.size:=aaq (aan q) I.sz;rw[ak (aau hlt)];exact I1.base.free b o q n hx
    ·rw[ak (aC (I1.base.tups b ys q) hn)];exact I1.base.tups b ys q
    ·rw[ak (aC (I1.base.frzs b o ys q) hn)];exact I1.base.frzs b o ys q
    ·obtain⟨more,z⟩:=I1.base.tbls b ps q;exact⟨more,by rw[ak (aC z hn)];exact z⟩
   ·rw[ak (aau I.lt)];exact I1.free
   ·obtain⟨v,z⟩:=I.cell y c q;rw[ak (aau z.lt)];exact I1.kh y c q
   ·obtain⟨q1,q2,q3⟩:=I1.pin p hp;refine⟨q1,?_,q3⟩;rw[ak (aau (aan (I.pin p hp).1))];exact q2
   ·by_cases hb:b=s.heap.objs.size
    ·subst hb;rw[aD]at q;cases q;exact⟨by show 2<=sizeLine;decide,[u,v],.cons ru #[rw'],_,hT2,rfl,_,rfl⟩
    ·rw[ak hb]at q;exact(I1.hok b o q).stay (λc v _ z=>z) (λc z=>by rw[ak (aC z hn)];exact z) λc ys z=>by rw[ak (aC z hn)];exact z
  refine⟨.ref s.heap.objs.size,_,I2,rfl,⟨s.heap.objs.size,x,y,hn,rfl,rfl,λxs' ys' hy1 WJ=>⟨by rw[I.rm hy1 hq];exact hx,by rw[I.rm WJ hq'];exact hy⟩⟩,⟨hz2,?_,⟨u,v,?_⟩,?_,?_⟩,λc hc=>?_⟩
  ·exact hs2.extBut _ _ D.TIz (hk _ _ D.TIz D.TITO D.TIi1 D.TIi2 hTI)
  ·exact hs2.extBut _ _ D.TOz a2
  ·exact a3.extBut hs2.extBut D.i1z
  ·exact a4.extBut hs2.extBut D.i2z
  ·have hlt:c<s.heap.objs.size:=by
    have hc':=hc;simp only[mem_cons,not_mem_nil,or_false]at hc'
    rcases hc' with q|q|q|q|q<;>(rw[q];assumption)
   rw[ak (aau hlt)];exact(hf c hc).1
 done:=by
  intro X hP hw hK hc i pins s σ H E I hf st hg;subst hP hw hK;obtain⟨xs,ys,hq,hq',hx⟩:=hg;obtain⟨its,rv,p,_⟩:=I.list hq;obtain⟨its',Vw,p',_⟩:=I.list hq';obtain⟨hz,hTI,⟨c1,c2,hTO⟩,h1,h2⟩:=st;have hl:=rv.length;have hl':=Vw.length;refine wpAny_pyNext_zip_end (I.ok.hd hc) D hz hTI hTO h1 h2 p.isList p'.isList ?_ λh' eb=>⟨rfl,I.BJ (t':=s.toks) (ch:=[z,TI,TO,i1,i2]) hf λc o hc q=>eb c o (λz=>hc (by simp[z])) (λz=>hc (by simp[z])) (λz=>hc (by simp[z])) (λz=>hc (by simp[z])) q⟩
  rcases hx with hx|hx
  ·exact .inl (by simp;omega)
  ·exact .inr (by simp;omega)
 self:=λ_ _ _ _ _ st h=>wpAny_pyIter_zip st.1 h
theorem FD(n l m:Nat)(h1:l<n)(h2:m<n):ZipApart (n+4) (n+2) (n+3) n (n+1) l m:=by
 constructor<;>(show (_:Nat)≠_;omega)
def WK(K:Frag)(ta:TA):TI:=λσ H R=>ta σ H λvs H1=>∃a b,vs=[.ref a,.ref b]/\(∃xs,gR K H1 a xs)/\(∃ys,gR K H1 b ys)/\R (WI K a b) H1
theorem N2{k:Nat}(hg:Gl X "zip")(hm:X.mg "zip" = none)(ha:PA X [a,b] ta)(hs:starEach [a,b] X.env=[(false,eval a X.env),(false,eval b X.env)])(hs2:starEach [b] X.env=[(false,eval b X.env)]) :
  PI X (.Tuple es k tpos) (.Call (.Name "zip" p) [a,b] [] pos) (WK X.K ta):=by
 intro pins s σ H R I h;refine Call_ (jN I hg hm boot_zip (PyProof.Rows.callWith_type1 (cK (ha pos pins s σ H _ I h) λus s1 ⟨vs,H1,I1,r1,q1⟩=>?_) (by rw[hs,hs2]) (by rw[hs2];rfl)));obtain⟨l,m,e,⟨xs,hq⟩,⟨ys,hq'⟩,q⟩:=q1;subst e;cases r1 with
 |cons r rr=>
  cases rr with
  |cons r' rr=>
   cases rr;cases r;cases r';obtain⟨its,rv,pl,_⟩:=I1.list hq;obtain⟨its',Vw,X5,_⟩:=I1.list hq';have ll:l<s1.heap.objs.size:=by obtain⟨_,q,_⟩:=pl.isList;exact aan q
   have lm:m<s1.heap.objs.size:=by obtain⟨_,q,_⟩:=X5.isList;exact aan q
   refine call_zip_2 pl.isList X5.isList λh' hz hTI hTO h1 h2 hsz hk=>?_;have I2:Inv X pins σ H1 { s1 with heap:=h' }:=I1.kept (t':=s1.toks) hk;refine wpAny_pyIter_zip (s:={ s1 with heap:=h' }) hz ?_;refine⟨_,[s1.heap.objs.size+4,s1.heap.objs.size+2,s1.heap.objs.size+3,s1.heap.objs.size,s1.heap.objs.size+1],_,_,H1,rfl,I2,FA l m _ _ _ _ _ ?_,⟨hz,hTI,⟨_,_,hTO⟩,h1,h2⟩,λc hc=>?_,q⟩
   ·exact FD _ _ _ ll lm
   ·have hb':s1.heap.objs.size<=c:=by
     simp only[mem_cons,not_mem_nil,or_false]at hc
     rcases hc with q|q|q|q|q<;>(rw[q];show (_:Nat)<=_;omega)
    exact I1.JV hb' (I1.hok.fresh hb')
section
variable {X:Cx}
theorem uZ
  (hbase:attributeBase o m env (eval o env)=eval o env)
  (hfew:((backTo cp (starEach args env)).all (λx=>!x.1)&&(backToKw cp (keywordEach [] env)).all (λx=>x.1.isSome)
   && decide (args.length+([]:List Keyword).length+(if ([]:List Keyword).isEmpty then 0 else 1)<30))=true) (hline:(ap.endLine==cp.line)=true)
  (h:wpAny M A (eval o env) (λov s₁=>∀pl,wpAny M A (getMethod ov m pl) (λfx s₂=>wpAny M A (callWith cp fx.1 fx.2 (backTo cp (starEach args env)) (backToKw cp (keywordEach [] env))) Q E s₂) E s₁) E s) :
  wpAny M A (eval (.Call (.Attribute o m ap) args [] cp) env) Q E s:=by
 rw[arm_eval_Call,hbase];refine aab (wpAny_mono h (λov s₁ h₁=>?_) λ_ _ e=>e);refine aab (wpAny_standAt ?_);have SE:methodCallForm (args.length+([]:List Keyword).length) (backTo cp (starEach args env)) (backToKw cp (keywordEach [] env))=true:=hfew;have hpos:methodCallPos true o env ap cp=pure cp:=by unfold methodCallPos;simp[hline]
 unfold methodCall;rw[SE];refine aab (wpAny_holding (wpAny_mono (h₁ _) (λfx s₂ h₂=>?_) λ_ _ e=>e));exact aab (wpAny_of_eq hpos h₂)
theorem pe_mthD{k:Nat}(he:PE X o ta)(ha:PA X (l::ls) t)(hbase:attributeBase o m X.env (eval o X.env)=eval o X.env)
  (hfew:((backTo cp (starEach (l::ls) X.env)).all (λx=>!x.1)&&(backToKw cp (keywordEach [] X.env)).all (λx=>x.1.isSome)
   && decide ((l::ls).length+([]:List Keyword).length+(if ([]:List Keyword).isEmpty then 0 else 1)<30))=true) (hline:(ap.endLine==cp.line)=true) (hr:dD k X.A)
  (st:starEach (l::ls) X.env=(false,eval l X.env)::starEach ls X.env) (an:(backTo cp (starEach ls X.env)).any (·.1)=false) :
  PE X (.Call (.Attribute o m ap) (l::ls) [] cp) (λσ H Q=>ta σ H λx H1=>∃a C dx fs f fd ps sp,x=.ref a/\H1 a=some (.ins C dx fs)/\Er X.K C/\Meth X.K C m f/\fs.lookup m=none/\Binds X.K fd ps [] /\
   fU X.prog X.w X.K X.mg X.base tZ k f fd ps sp/\t σ H1 λvs H2=>sp (x::vs) H2 Q E0):=by
 intro pins s σ H Q I h;refine uZ hbase hfew hline (cK (he pins s σ H _ I h) λu s1 aT pl=>?_);obtain⟨x,H1,I1,rx,a,C,dx,fs,f,fd,ps,sp,ex,ea,c,hm,ln,hb,F,q⟩:=aT;subst ex;obtain rfl:u=Value.ref a:=rx;refine rF I1 ea c hm ln ?_;refine callWith_K (first:=[.ref a]) (h₀:=X.base) I.ok.mod.Rp hm.kp (cK (ha cp pins s1 σ H1 _ I1 q) λus s2 ⟨vs,H2,I2,r,q2⟩=>⟨I2.qz,?_⟩) st an;exact vS (us:=.ref a::us) (vs:=.ref a::vs) (tU:=[]) (ds:=[]) F hr hb .nil uI I2 (.cons rfl r) (by rw[append_nil];exact q2)
theorem pe_mth0{k:Nat}(he:PE X o ta)(hbase:attributeBase o m X.env (eval o X.env)=eval o X.env)
  (hline:(ap.endLine==cp.line)=true) (hr:dD k X.A) :
  PE X (.Call (.Attribute o m ap) [] [] cp) (λσ H Q=>ta σ H λx H1=>∃a C dx fs f fd ps sp,x=.ref a/\H1 a=some (.ins C dx fs)/\Er X.K C/\Meth X.K C m f/\fs.lookup m=none/\Binds X.K fd ps [] /\
   fU X.prog X.w X.K X.mg X.base tZ k f fd ps sp/\sp [x] H1 Q E0):=by
 intro pins s σ H Q I h;refine uZ hbase rfl hline (cK (he pins s σ H _ I h) λu s1 aT pl=>?_);obtain⟨x,H1,I1,rx,a,C,dx,fs,f,fd,ps,sp,ex,ea,c,hm,ln,hb,F,q⟩:=aT;subst ex;obtain rfl:u=Value.ref a:=rx;refine rF I1 ea c hm ln ?_;exact callWith_K0 (first:=[.ref a]) I1.qz hm.kp (vS (us:=[.ref a]) (vs:=[.ref a]) (tU:=[]) (ds:=[]) F hr hb .nil uI I1 #[rfl] q)
end
end L2
end
section
namespace L2
open PySem PySem.Spec PyProof.Rows PySem.W
section
variable {X:Cx}
theorem Dt(hh:X.A.handled=none)(hst:starEach [o] X.env=[(false,eval o X.env)])(hg:Gl X "list")(hm:X.mg "list" = none)(hv:bootBuiltins "list" = some (.type "list"))(ho:PE X o to):PE X (.Call (.Name "list" p) [o] [] pos) (X4 to):=by
 intro pins s σ H Q I h;refine wpAny_Call_Name_kw (jN I hg hm hv ?_ (by decide) (by decide));refine PyProof.Rows.callWith_type1 ?_ hst rfl;rw[hst];show wpAny _ _ (spliced [(false,eval o X.env)]) _ _ s;refine Calls.spliced_cons ?_;refine cK (ho pins s σ H _ I h) λu s1 aT=>?_;obtain⟨x,H1,I1,r1,a,kvs,ex,ea,q⟩:=aT;subst ex;cases r1;obtain⟨t1,t2,hd⟩:=E8 I1 (.inl ⟨kvs,.inl ea⟩);obtain⟨hz,_,vs,rel,dd⟩:=E4 I1.hok ea;refine Calls.spliced_nil ?_;obtain⟨ep,da⟩:=dd.dictAt;have hlen:=rel.length;refine kdl_call (kdl_dict (knd:=bJ X.prog X.w) (kvs:=vs) (ep:=ep) (d:=a) hd) hh da (by rw[<-hlen];exact hz) λh' tk acc c k2 eD hacc=>?_;have hn:H1 s1.heap.objs.size=none:=I1.hok.fresh (aao _);refine⟨.ref _,_,I1.laid (t':=tk) (λb o z=>k2 b o z) (aao _) (show cB X.prog X.w _ _ _ (.lst (kvs.map λkv=>kV kv.1)) from⟨?_,acc.toList,c,?_,?_⟩),rfl,q _ hn⟩
 ·rw[aaf];exact hz
 ·exact uY (P:=X.prog) (w:=X.w) rel (by rw[aaK];exact hacc.1) λj v e=>hacc.2 j v (by rw[<-getElem?_toList];exact e)
 ·first|(rw[Array.toArray_toList];exact eD)|simpa using eD
end
section
variable {X:Cx}
structure SG (K:Frag) (C:Addr) (m:Str) (f:Addr):Prop where
 ga:specialIn K (.ref C) "__getattribute__" = some (some (.builtin "type.__getattribute__"))
 rd:PySem.W.readsIn K C (.type "type")=true
 at_:PySem.W.findCls K (.ref C) (.type "type") m=some (.val (.ref f))
 kp:keepIn K (.ref f)=true
structure X6 (K:Frag) (C:Addr):Prop where
 ha:findIn K (.ref C) "__class__" = some (some (.builtin "object.__class__"))
 hn:specialIn K (.builtin "object.__class__") "__get__" = some (some (.builtin "getset_descriptor.__get__"))
 htk:PySem.W.takesIn K (.builtin "object.__class__")=some true
 hm:PySem.W.mroIn K C (.type "object")=some true
end
end L2
end
section
namespace L2
open PySem PySem.Spec PyProof.Rows
def Et(f:Addr)(o:Obj):HO:=.ext λh=>h.get? f=some o
def FE(c:Addr)(q:Str):HO:=.ext λh=>h.CodeRec (.ref c) q
section
variable {P:Program} {w:World} {H:Hp} {h:Heap}
theorem FF(e:h.get? f=some o):cB P w H h f (Et f o):=⟨e,⟨_,e⟩,λ_ _ e k=>k _ e⟩
theorem N3(e:h.CodeRec (.ref c) q):cB P w H h c (FE c q):=by
 obtain⟨c1,oc,vs,t,e1,g,d⟩:=id e;cases e1;exact⟨e,⟨_,g⟩,λh1 h2 ⟨c1,oc,vs,t,e1,g,d⟩ k=>by cases e1;exact⟨_,oc,vs,t,rfl,k _ g,d⟩⟩
end
section
variable {X:Cx} {pins:List (Addr×Obj)} {σ:St} {H:Hp} {s:Shared}
theorem Inv.N4{t':Nat}(I:Inv X pins σ H s)(hp:H p=some (.tbl ps))(x:Heap.ExtBut p s.heap h')(hc:s.heap.objs.size<=c)(hl:c<h'.objs.size)(rc:h'.CodeRec (.ref c) q)
  (ht:h'.get? p=some { cls:=.none,data:=.fields (ps++ps') }) (ho:o.isFreed=false) :
  Inv X pins σ (upd (upd (upd H p (.tbl (ps++ps'))) c (FE c q)) h'.objs.size (Et h'.objs.size o)) { s with heap:=h'.push o,toks:=t' }:=by
 have hc0:H c=none:=I.hok.fresh hc;have hsz:s.heap.objs.size<=h'.objs.size:=aaH hc (le_of_lt hl);have X7:H h'.objs.size=none:=I.hok.fresh hsz;have pc:p≠c:=aC hp hc0;have pf:p≠h'.objs.size:=aC hp X7;have cf:c≠h'.objs.size:=aau hl;have off:∀b,b≠p->b≠c->b≠h'.objs.size->upd (upd (upd H p (.tbl (ps++ps'))) c (FE c q)) h'.objs.size (Et h'.objs.size o) b=H b:=λb h1 h2 h3=>by rw[ak h3,ak h2,ak h1]
 have old:∀b u,b≠p->s.heap.get? b=some u->(h'.push o).get? b=some u:=λb u n e=>aae _ (x b u n e);have np:∀b,H b=none->b≠p:=λb n=>(aC hp n).symm;have lt:∀b u,s.heap.get? b=some u->b≠c/\b≠h'.objs.size:=λb u e=>⟨aau (aaq (aan e) hc),aau (aaq (aan e) hsz)⟩;have some_:∀b u,H b=some u->b≠c/\b≠h'.objs.size:=λb u e=>⟨aC e hc0,aC e X7⟩;refine I.un (t':=t') ⟨λb u e n _ _=>old b u (np b n) e,λb u e n _ _=>⟨u.slots,old b u (np b n) e⟩,λb u e n _=>?_,λb u e _=>?_,λb xs e=>?_,λb u v e=>?_,λb us e=>?_⟩ λa u e=>?_
 ·rw[off b (np b n) (lt b u e).1 (lt b u e).2];exact n
 ·by_cases hb:b=p
  ·subst hb;exact⟨_,aae _ ht⟩
  ·exact⟨u,old b u hb e⟩
 ·rw[off b (uv e hp (λz=>nomatch z)) (some_ b _ e).1 (some_ b _ e).2];exact e
 ·rw[off b (uv e hp (λz=>nomatch z)) (some_ b _ e).1 (some_ b _ e).2];exact e
 ·by_cases hb:b=p
  ·subst hb;rw[hp]at e;cases e;exact⟨ps',by rw[ak pf,ak pc,aD]⟩
  ·exact⟨#[],by rw[off b hb (some_ b _ e).1 (some_ b _ e).2,e];simp⟩
 ·by_cases h1:a=h'.objs.size
  ·subst h1;rw[aD]at e;cases e;exact FF (aav _ ho)
  ·rw[ak h1]at e
   by_cases h2:a=c
   ·subst h2;rw[aD]at e;cases e;obtain⟨c1,oc,vs,t,e1,g,d⟩:=rc;exact N3 ⟨c1,oc,vs,t,e1,aae _ g,d⟩
   ·rw[ak h2]at e
    by_cases h3:a=p
    ·subst h3;rw[aD]at e;cases e;exact aae _ ht
    ·rw[ak h3]at e
     refine(I.hok a u e).stay (λb v hb q=>old b v ?_ q) (λb q=>?_) λb xs q=>?_
     ·rcases hb with rfl|hb
      ·exact h3
      ·exact uv hb hp (λz=>nomatch z)
     ·rw[off b (uv q hp (λz=>nomatch z)) (some_ b _ q).1 (some_ b _ q).2];exact q
     ·rw[off b (uv q hp (λz=>nomatch z)) (some_ b _ q).1 (some_ b _ q).2];exact q
def WL(i:Nat)(p:Addr)(pos:Pos)(q:Str)(mk:Value->Value->Value->Obj):TS:=λD σ H=>∃ps,H p=some (.tbl ps)/\TriplesOk ps.toList /\
 ((codeAmong pos ps.toList=none/\∀f c ct doc,H c=none->H f=none->c≠f->D.nx (σ.set i (some (.ref f))) (upd (upd (upd H p (.tbl (ps ++ [rawInt pos.line,rawInt pos.col,.ref c].toArray))) c (FE c q)) f (Et f (mk (.ref c) ct doc)))) \/
   ∃cv,codeAmong pos ps.toList=some cv/\∀f ct doc,H f=none->D.nx (σ.set i (some (.ref f))) (upd H f (Et f (mk cv ct doc))))
theorem N5{i:Nat}(hN:X.N.Nodup)(hi:X.N[i]?=some name)(hx:Loc X.env.scope name)(hf:X.fn name=true)
  (hcode:X.env.code=.ref c) (hc:codeHdIn X.K c p=true) (hq:qualnameIn X.env name name=q) (hcl:closureFor scope X.env=pure clos) (h1:args.defaults=[]) (h2:args.kw_defaults=[]) (h3:annTrees args none X.env=[]) (hp:mainGlobals≠p)
  (hb:∃bm o,X.mg "__builtins__" = some (.ref bm)/\bm≠builtinsNs/\bm≠mainGlobals/\bm≠p/\X.base.get? bm=some o/\o.cls=.type "module" /\ o.dict=some builtinsNs/\o.data=.plain) :
  PS X (.FunctionDef name args body [] none [] scope none name pos) (WL i p pos q λcv ct doc=>{ cls:=.type "function",data:=.func (PySem.W.fnX name q args body scope clos .none .none doc ((X.mg "__name__").getD .none) none cv ct) }):=by
 intro pins s σ H D I h;obtain⟨ps,e1,e2,h⟩:=h;rw[exec_def,hq,defaultsOf_eq,h1,h2,h3];refine aab (wpAny_standAt (aab (wpAny_holding ?_)));refine aab (aai (aab (wpAny_holding (aai (wpAny_holding (aab (aai ?_)))))));have hg:s.heap.Ns mainGlobals X.mg:=I.mod.glob.keeps I.bk;have cd:=codeHd_of_K I.qz hc;have tb:s.heap.get? p=some (tabObj ps):=I.hok p _ e1;have bm:s.heap.BuiltinsAt X.mg p:=by obtain⟨bm,o,b1,b2,b3,b4,b5,b6⟩:=hb;exact⟨bm,o,b1,b2,b3,b4,I.bk _ _ b5,b6⟩
 rcases h with ⟨e3,h⟩|⟨cv,e3,h⟩
 ·refine PySem.W.makeFunction_K hcl I.ok.glob hg hcode cd tb e2 e3 hp bm λc' ctv doc h' tk x1 x2 x3 x4 x5=>aab (wpAny_standAt (aab (wpAny_bindName ?_)));have I1:=I.N4 (o:=fnMade name q args body scope clos doc ((X.mg "__name__").getD .none) c' ctv) (t':=tk) e1 x1 x2 x3 x4 x5 rfl;have hsz:s.heap.objs.size<=h'.objs.size:=aaH x2 (le_of_lt x3);exact nO (v:=.ref h'.objs.size) I1 hN hi hx rfl (λs2 I2=>aai ⟨_,_,I2,h _ _ _ _ (I.hok.fresh x2) (I.hok.fresh hsz) (aau x3)⟩) (.inl hf)
 ·refine PySem.W.makeFunction_hit hcl I.ok.glob hg hcode cd tb e2 e3 bm λctv doc h' tk x1 x2=>aab (wpAny_standAt (aab (wpAny_bindName ?_)));have I1:=I.laid (a:=h'.objs.size) (o:=Et h'.objs.size { cls:=.type "function",data:=.func (PySem.W.fnX name q args body scope clos .none .none doc ((X.mg "__name__").getD .none) none cv ctv) }) (t':=tk) (h':=h'.push _) (λb u e=>aae _ (x1 b u e)) x2 (FF (aav _ rfl));exact nO (v:=.ref h'.objs.size) I1 hN hi hx rfl (λs2 I2=>aai ⟨_,_,I2,h _ _ _ (I.hok.fresh x2)⟩) (.inl hf)
end
def My(o:Obj):HO:=.oR o (.own 0)
section
variable {CX:xG} {P:Program} {w:World} {K:Frag} {mg:Str->Option Value} {base:Heap} {N ps:List Str} {qual:Str} {scope:Scope} {f:Addr} {cd:Value} {A:Around} {outer:List Env} {s s':Shared} {H H':Hp} {E:XK}
theorem FG{i:Nat}(J:Inv (nT CX P w K mg base N qual scope f cd A outer s H E) [] σ' H' s')(hi:N[i]?=some x)(hσ:σ'[i]?=some (some (.ref a)))(hk:scope.names.lookup x=some .cell)(rv:RelV v u)
  (hq:∀c o,(envOfC qual scope s.heap.objs.size f cd).cells.lookup x=some c->H' c=none->o.data=.cell (some (.ref a))->Q v (upd H' c (My o))):CE outer P w H s Q u s':=by
 obtain⟨m,hn,hl⟩:=J.loc;obtain⟨u',r',l⟩:=hl i x (.ref a) hi hσ (.inr (.inl hk));have r'':u'=.ref a:=r';subst r''
 rcases l with ⟨z,_⟩|⟨_,c,e,ic⟩
 ·have z:scope.names.lookup x=some .local:=z;rw[hk]at z;cases z
 have hc:H' c=none:=(J.kh x c e).resolve_right λz=>nomatch z.1
 obtain⟨oc,gc,dc⟩:=ic;have hge:s.heap.objs.size<=c:=J.ok.Rq x c rfl e;have ne:∀b o,H' b=some o->b≠c:=λb o z=>aC z hc;refine⟨v,upd H' c (My oc),J.os,J.bare,⟨J.base.keep,J.base.slot,λb o g n hx=>?_,J.base.there,λb xs z=>?_,λb o y z=>?_,λb us z=>?_⟩,λb o z=>?_,rv,hq c oc e hc dc⟩
 ·rw[ak (aau (aaq (aan g) hge))];exact J.base.free b o g n hx
 ·have:=J.base.tups b xs z;rw[ak (ne b _ this)];exact this
 ·have:=J.base.frzs b o y z;rw[ak (ne b _ this)];exact this
 ·obtain⟨more,this⟩:=J.base.tbls b us z;exact⟨more,by rw[ak (ne b _ this)];exact this⟩
 ·by_cases hb:b=c
  ·subst hb;rw[aD]at z;cases z;exact⟨gc,oc,gc⟩
  ·rw[ak hb]at z;exact(J.hok b o z).stay (λ_ _ _ q=>q) (λd q=>by rw[ak (ne d _ q)];exact q) λd xs q=>by rw[ak (ne d _ q)];exact q
end
def X8(R:St->Hp->Prop):Ends:={ nx:=R,rt:=λ_ _=>False }
theorem Kq{CX:xG}{P:Program}{w:World}{K:Frag}{mg:Str->Option Value}{base:Heap}{k:Nat}{f:Addr}{name qual x y:Str}{params:Arguments}{s1 s2:Stmt}{py pr:Pos}{scope:Scope}{dV kV doc pm cdv ct oc:Value}{an od:Option Addr}
  {osl:Array (Option Value)} {N ps:List Str} {sp:Sp} {i j:Nat} (lk:K.lookup f=some ⟨oc,od,.func (fnOf name qual params [s1,s2,.Return (some (.Name y py)) pr] scope dV kV doc pm an cdv ct),osl⟩) (hcd:codeIn K cdv qual=true) (S:nS N ps scope)
  (len:∀vs H Q E,sp vs H Q E->vs.length=ps.length) (hi:N[i]?=some x) (hk:scope.names.lookup x=some .cell) (hj:N[j]?=some y) (hy:scope.names.lookup y=some .local) (hy1:(y==("__debug__":Str))=false) (WJ:(y==("__classdict__":Str))=false)
  (hbody:∀(A:Around) (outer:List Env) (s:Shared) (H:Hp) (vs:List V) (Q:VK) (E:XK),dD k (A.deeper (envOfC qual scope s.heap.objs.size f cdv))->sp vs H Q E ->
   ∃t1 t2,PS (nT CX P w K mg base N qual scope f cdv A outer s H E) s1 t1/\PS (nT CX P w K mg base N qual scope f cdv A outer s H E) s2 t2 /\
    t1 (X8 λσ1 H1=>t2 (X8 λσ2 H2=>∃a v,σ2[i]?=some (some (.ref a)) /\ σ2[j]?=some (some v)/\∀c o,(envOfC qual scope s.heap.objs.size f cdv).cells.lookup x=some c->H2 c=none->o.data=.cell (some (.ref a))->Q v (upd H2 c (My o))) σ1 H1) (start N vs) H) :
  fU P w K mg base CX (k+1) f (fnOf name qual params [s1,s2,.Return (some (.Name y py)) pr] scope dV kV doc pm an cdv ct) ps sp:=by
 refine⟨len,λA outer s H args us vs Q E hr e0 hb r hsp=>?_⟩;have hl:=len _ _ _ _ hsp;have KX:K.In s.heap:=e0.mod.Rp.keeps λb o e=>(e0.bs b o e).1;have lim:s.heap.NoLimit:=e0.mod.nolimit.keeps λb o e=>(e0.bs b o e).1;have hkind:∀y∈ps.zip us,scope.names.lookup y.1=some .local\/(scope.names.lookup y.1=some .cell/\((cellsFrom (s.heap.objs.size+1) scope.names []).lookup y.1).isSome=true):=λ⟨n,v⟩ hy=>by
  rcases S.par n (of_mem_zip hy).1 with q|q
  ·exact .inl q
  ·exact .inr ⟨q,cellsFrom_some _ _ _ (.inl q)⟩
 refine codeAny_call_function hr.depth (KX _ _ lk) rfl S.co S.gen rfl (codeRec_of KX hcd) (hb _ _ _ _ ?_);refine wpAny_newFunctionEnv_cells S.kind hkind λenv he st x0=>?_;subst he;refine⟨lim.keeps x0.toInCall.keep,codeAny_func ?_⟩;obtain⟨t1,t2,p1,p2,hq⟩:=hbody A outer s H vs Q E (hr.deeper _) hsp;have I:Inv (nT CX P w K mg base N qual scope f cdv A outer s H E) [] (start N vs) H st:=uD S hr.hd e0 hl r x0;refine wpAny_mono (Q:=λfl s'=>∃u,fl=.ret u/\CE outer P w H s Q u s') (wpAny_execs_cons (cK (p1 [] st (start N vs) H _ I hq) λfl s1 q=>?_)) (λfl s' hs=>?_) λe s' hs=>hs
 ·cases fl with
  |next=>
   obtain⟨σ1,H1,I1,q⟩:=q;refine wpAny_execs_cons (cK (p2 [] s1 σ1 H1 _ I1 q) λfl s2 q=>?_);cases fl with
   |next=>obtain⟨σ2,H2,I2,a,v,z1,z2,z3⟩:=q;have vis:RD (nT CX P w K mg base N qual scope f cdv A outer s H E).env.scope y:=.inl hy;refine wpAny_execs_cons (wpAny_Return_some (cK ((Ez hj vis hy1 WJ) [] s2 σ2 H2 (λv' H'=>v'=v/\H'=H2) I2 ⟨v,z2,rfl,rfl⟩) λu s3 ⟨v',H3,I3,r3,e1,e2⟩=>?_));subst e1;subst e2;exact⟨u,rfl,FG I3 hi z1 hk r3 z3⟩
   |ret _=>obtain⟨_,_,_,_,_,z⟩:=q;exact z.elim
   |brk=>obtain⟨_,_,_,z⟩:=q;exact z.elim
   |cont=>obtain⟨_,_,_,z⟩:=q;exact z.elim
  |ret _=>obtain⟨_,_,_,_,_,z⟩:=q;exact z.elim
  |brk=>obtain⟨_,_,_,z⟩:=q;exact z.elim
  |cont=>obtain⟨_,_,_,z⟩:=q;exact z.elim
 ·obtain⟨u,rfl,ce⟩:=hs;exact ce
structure rW (N ps:List Str) (x:Str) (sc:Scope):Prop where
 kind:sc.kind=.function
 co:sc.isCoroutine=false
 gen:sc.isGenerator=false
 nd:N.Nodup
 pre:N.take (ps.length+1)=ps++[x]
 par:∀y∈ps,sc.names.lookup y=some .local
 fr:sc.names.lookup x=some .free
 one:∀y,sc.names.lookup y=some .free->y=x
 WM:∀y∈sc.names,y.2≠.cell
def rX(q:Str)(scope:Scope)(L f:Addr)(cd:Value)(x:Str)(cc:Addr):Env :=
 { scope:=scope,locals:=L,globals:=mainGlobals,cells:=[(x,cc)],qual:=q ++ ".<locals>.",func:=some f,code:=cd,frame:=some L,builtins:=builtinsNs }
def yc(CX:xG)(P:Program)(w:World)(K:Frag)(mg:Str->Option Value)(base:Heap)(N:List Str)(q:Str)(scope:Scope)(f:Addr)(cd:Value)(x:Str)(cc:Addr)(A:Around)(outer:List Env)(s:Shared)(H:Hp)(E:XK):Cx where
 prog:=P
 w:=w
 K:=K
 mg:=mg
 base:=base
 A:=A.deeper (rX q scope s.heap.objs.size f cd x cc)
 N:=N
 s₀:=s
 H₀:=H
 env:=rX q scope s.heap.objs.size f cd x cc
 outer:=outer
 stack:=rX q scope s.heap.objs.size f cd x cc::outer
 ex:=[]
 calm:=true
 fn:=λy=>!(y==x)
 pn:=[]
 xe:=λe s'=>wpAny (model P w) (A.deeper (rX q scope s.heap.objs.size f cd x cc)) (leaving (rX q scope s.heap.objs.size f cd x cc) e) (λ_ s''=>CX outer H s E e s'') (λe' s''=>CX outer H s E e' s'') s'
theorem BO:∀{ps:List Str} {us:List Value} {i:Nat} {y:Str} {u:Value},ps.Nodup->ps[i]?=some y->us[i]?=some u->(ps.zip us).reverse.lookup y=some u
 | p::ps,v::us,i,y,u,nd,h1,h2=>by
  rw[nodup_cons]at nd;rw[zip_cons_cons,List.reverse_cons,List.lookup_append];cases i with
  |zero=>
   cases h1;cases h2;have:(ps.zip us).reverse.lookup p=none:=by rw[List.lookup_eq_none_iff];intro z hz;have:z.1∈ps:=(of_mem_zip (List.mem_reverse.mp hz)).1;simp only[beq_eq_false_iff_ne,bne_iff_ne,ne_eq];rintro rfl;exact nd.1 this
   rw[this];simp
  |succ i=>rw[getElem?_cons_succ]at h1 h2;rw[BO nd.2 h1 h2];rfl
 |[],_,i,y,u,_,h1,_=>by simp at h1
 |_::_,[],i,y,u,_,_,h2=>by simp at h2
section
variable {CX:xG} {P:Program} {w:World} {K:Frag} {mg:Str->Option Value} {base:Heap} {N ps:List Str} {q x:Str} {scope:Scope} {f cc a:Addr} {cd:Value} {A:Around} {outer:List Env} {s:Shared} {H:Hp} {E:XK} {us:List Value} {vs:List V} {oc:Obj}
theorem Du{h1:Heap}{tk:Nat}(S:rW N ps x scope)(hd:A.handled=none)(e0:rG P w K mg base A outer s H)(hl:vs.length=ps.length)(r:Vals vs us)(hcc:H cc=some (My oc))(hcd:oc.data=.cell (some (.ref a)))
  (hns:h1.Ns s.heap.objs.size λy=>(ps.zip us).reverse.lookup y) (hk:∀b o,s.heap.get? b=some o->h1.get? b=some o) :
  Inv (yc CX P w K mg base N q scope f cd x cc A outer s H E) [] (start N (vs++[.ref a])) H { s with heap:=h1,toks:=tk }:=by
 have hN:ps.length+1<=N.length:=by have:=aaS length S.pre;rw[length_take,aaw]at this;simp at this;omega
 have noA:∀b:Addr,b∉(yc CX P w K mg base N q scope f cd x cc A outer s H E).ex:=λb z=>absurd (show b∈([]:List Addr) from z) (by simp);have lk:∀y c,([(x,cc)]:List (Str×Addr)).lookup y=some c->y=x/\c=cc:=λy c h=>by
  rw[lookup_cons]at h;cases e:y==x with
  |true=>rw[e]at h;cases h;exact⟨eq_of_beq e,rfl⟩
  |false=>rw[e]at h;cases h
 have ic:s.heap.IsCell cc (some (.ref a)):=⟨oc,(e0.hok cc _ hcc).1,hcd⟩;refine⟨⟨e0.mod,S.kind,rfl,rfl,aao _,λy z c h1 h2=>(lk y c h1).1.trans (lk z c h2).1.symm,λy hy=>?_,λy c h1 h=>?_,λ_=>hd,Around.frames_deeper e0.frames,.inr ⟨rfl,rfl⟩,λb z=>absurd z (noA b),
   e0.bs,e0.JM,λb _ _=>noA b,λb z=>absurd z (noA b),e0.oS,e0.Mp⟩,
  rfl,e0.bare,Un.kept hk,⟨_,hns,λi y v h1 h2 h3=>?_⟩,λy c h=>?_,e0.hok.fresh (aao _),λy c h=>?_,λp hp=>absurd (show p∈([]:List (Addr×Obj)) from hp) (by simp),e0.hok.kept hk,?_⟩
 ·have hy:scope.names.lookup y=some .cell\/scope.names.lookup y=some .free:=hy
  rcases hy with hy|hy
  ·exact absurd rfl (S.WM _ (aaT hy))
  ·have:=S.one y hy;subst this;exact⟨cc,by show ([(y,cc)]:List (Str×Addr)).lookup y=_;simp[lookup_cons]⟩
 ·have:=(lk y c h).1;subst this;have h1:(!(y==y))=true:=h1;simp at h1
 ·have hi:i<(vs++[V.ref a]).length:=by
   unfold start at h2
   by_cases hi:i<(vs++[V.ref a]).length
   ·exact hi
   ·rw[aaD (by simpa using hi)]at h2;rw[List.getElem?_replicate]at h2;split at h2<;>cases h2
  have ha:(vs++[V.ref a])[i]?=some v:=by
   unfold start at h2;rw[aas (by simpa using hi),aaB]at h2;cases e:(vs++[V.ref a])[i]? with
   |none=>rw[e]at h2;cases h2
   |some a=>rw[e]at h2;cases h2;rfl
  have hi':i<ps.length+1:=by rw[aaw]at hi;simp at hi;omega
  have hy:(ps++[x])[i]?=some y:=by rw[<-S.pre,List.getElem?_take_of_lt (by omega)];exact h1
  by_cases hv:i<vs.length
  ·rw[aas hv]at ha
   rw[aas (by omega)]at hy;obtain⟨u,hu,rv⟩:=r.get ha;have Vr:ps.Nodup:=by
    have:(ps++[x]).Nodup:=by rw[<-S.pre];exact S.nd.sublist (take_sublist _ _)
    exact(nodup_append.mp this).1
   exact⟨u,rv,.inl ⟨S.par y (aaE hy),BO Vr hy hu⟩⟩
  ·have e:i=vs.length:=by rw[aaw]at hi;simp at hi;omega
   subst e;rw[aaD (aao _),Nat.sub_self]at ha;rw[aaD (by omega),hl,Nat.sub_self]at hy;cases ha;cases hy;exact⟨.ref a,rfl,.inr ⟨.inr S.fr,cc,by show ([(x,cc)]:List (Str×Addr)).lookup x=_;simp[lookup_cons],ic.keeps hk⟩⟩
 ·obtain⟨rfl,rfl⟩:=lk y c h;exact⟨_,ic.keeps hk⟩
 ·obtain⟨rfl,rfl⟩:=lk y c h;exact .inr ⟨by show (!(y==y))=false;simp,_,_,hcc⟩
 ·unfold start;show _=N.length;rw[aaw,aaf,List.length_replicate,aaw];simp;omega
theorem FH{k:Nat}{c1:Addr}(S:rW N ps x scope)(hr:dD (k+1) A)(e0:rG P w K mg base A outer s H)
  (hf:H f=some (Et f { cls:=.type "function",data:=.func (PySem.W.fnX name q params body scope [(x,cc)] .none .none doc pm none (.ref c1) ct) })) (hc1:H c1=some (FE c1 q)) (hcc:H cc=some (My oc)) (hcd:oc.data=.cell (some (.ref a)))
  (hb:BindsTo s (PySem.W.fnX name q params body scope [(x,cc)] .none .none doc pm none (.ref c1) ct) args (ps.zip us)) (r:Vals vs us) (hl:vs.length=ps.length)
  (hbody:∃t,xC (yc CX P w K mg base N q scope f (.ref c1) x cc A outer s H E) body t/\t { nx:=λ_ H'=>Q .non H',rt:=Q } (start N (vs++[.ref a])) H) :
  codeAny (model P w) A (.call (.ref f) args) (CR CX outer P w H s Q E) s:=by
 have lim:s.heap.NoLimit:=e0.mod.nolimit.keeps λb o e=>(e0.bs b o e).1;have hfo:s.heap.get? f=some { cls:=.type "function",data:=.func (PySem.W.fnX name q params body scope [(x,cc)] .none .none doc pm none (.ref c1) ct) }:=(e0.hok f _ hf).1;have Z4:s.heap.CodeRec (.ref c1) q:=(e0.hok c1 _ hc1).1;refine codeAny_call_function hr.depth hfo rfl S.co S.gen rfl Z4 (hb _ _ _ _ ?_);refine wpAny_newFunctionEnv S.WM (λy hy=>S.par y.1 (of_mem_zip hy).1) (λh1 hns Wv=>?_) S.kind;have hk:∀b o,s.heap.get? b=some o->h1.get? b=some o:=λb o e=>(Wv.2 b (aau (aan e))).trans (aae _ e);refine⟨lim.keeps hk,codeAny_func ?_⟩;obtain⟨t,ht,hq⟩:=hbody;have I:=Du (CX:=CX) (q:=q) (f:=f) (cd:=.ref c1) (E:=E) (tk:=s.toks+(ps.zip us).length) S hr.hd e0 hl r hcc hcd hns hk;refine wpAny_mono (ht [] _ (start N (vs++[.ref a])) H _ I hq) (λfl s' hs=>?_) λe s' hs=>hs;have fin:∀{σ':St} {H':Hp} {v:V} {u:Value},Inv (yc CX P w K mg base N q scope f (.ref c1) x cc A outer s H E) [] σ' H' s'->RelV v u->Q v H'->CE outer P w H s Q u s':=λ{σ' H' v u} J rv q=>⟨v,H',J.os,J.bare,J.base,J.hok,rv,q⟩;cases fl with
 |ret u=>obtain⟨v,σ',H',J,rv,q⟩:=hs;exact fin J rv q
 |next=>obtain⟨σ',H',J,q⟩:=hs;exact fin (v:=V.non) (u:=Value.none) J rfl q
 |brk=>obtain⟨_,_,_,q⟩:=hs;exact False.elim q
 |cont=>obtain⟨_,_,_,q⟩:=hs;exact False.elim q
end
def WO(tf:TE)(t:TA)(R:Addr->List V->Hp->VK->Prop):TE:=λσ H Q=>tf σ H λv H0=>∃f fd,v=.ref f/\H0 f=some (Et f { cls:=.type "function",data:=.func fd })/\t σ H0 λvs H1=>H1 f=some (Et f { cls:=.type "function",data:=.func fd })/\R f vs H1 Q
theorem N6(hv:PE X (.Name x p) tf)(ha:PA X (e::es) t)(he:starEach (e::es) X.env=(false,eval e X.env)::starEach es X.env)(hpl:(backTo pos (starEach es X.env)).any (·.1)=false)
  (run:∀(s:Shared) (H:Hp) (us:List Value) (vs:List V) (f:Addr) (Q:VK),rG X.prog X.w X.K X.mg X.base X.A X.stack s H->Vals vs us->R f vs H Q->codeAny (model X.prog X.w) X.A (.call (.ref f) ⟨us,[]⟩) (CR tZ X.stack X.prog X.w H s Q E0) s) :
  PE X (.Call (.Name x p) (e::es) [] pos) (WO tf t R):=by
 intro pins s σ H Q I h;have at_:∀{s:Shared} {H:Hp} {σ:St} {f:Addr} {fd:FuncData},Inv X pins σ H s->H f=some (Et f { cls:=.type "function",data:=.func fd })->PySem.W.FnAt f s.heap:=λI e=>⟨_,_,_,_,(I.hok _ _ e).1⟩;refine wpAny_Call_Name_kw (cK (hv pins s σ H _ I h) λu s0 ⟨v,H0,I0,r0,f,fd,e1,e2,q⟩=>?_);subst e1;have eu:u=.ref f:=r0;subst eu;refine PySem.W.callWith_F (at_ I0 e2) (cK (ha pos pins s0 σ H0 _ I0 q) λus s1 ⟨vs,H1,I1,r1,e3,q1⟩=>⟨at_ I1 e3,?_⟩) he hpl;refine wpAny_call (codeAny_mono (run s1 H1 us vs f Q I1.oV r1 q1) λr s' hq=>?_);cases r with
 |error e=>exact False.elim hq
 |ok fl=>
  cases fl with
  |ret u=>exact I1.after hq
  |next=>exact False.elim hq
  |brk=>exact False.elim hq
  |cont=>exact False.elim hq
def yd(p:Addr)(H:Hp):Prop:=H p=some (.tbl #[])/\∀b,b≠p->H b=none\/∃o xs,H b=some (.oR o (.lst xs))
def ye(mg:Str->Option Value)(p:Addr)(h:Heap):Prop:=∃bm o,mg "__builtins__" = some (.ref bm)/\bm≠builtinsNs/\bm≠mainGlobals/\bm≠p/\h.get? bm=some o/\o.cls=.type "module" /\ o.dict=some builtinsNs/\o.data=.plain
theorem Dv{P:Program}{w:World}{K:Frag}{mg mb:Str->Option Value}{CX:xG}{k:Nat}{fa a p c:Addr}{fd:FuncData}{x:Str}{sp:Sp}{s₁:Shared}{vs:List Value}{ns:List Int}
  (KX:K.In s₁.heap) (hns:s₁.heap.Ns mainGlobals mg) (hb:s₁.heap.Ns builtinsNs mb) (Z5:∀x:Str,x ≠ "__name__" -> mb x=bootBuiltins x) (hlim:s₁.heap.NoLimit) (hg:s₁.gens = #[])
  (ha:s₁.heap.get? a=some { cls:=.type "list",data:=.seq vs.toArray }) (hi:IntsAre vs ns) (hl:ns.length<=sizeLine) (hr:dD k callerA)
  (hp:s₁.heap.get? p=some (tabObj #[])) (hc:codeHdIn K c p=true) (Z6:K.lookup p=none) (hbm:ye mg p s₁.heap)
  (F:∀base:Heap,K.In base->base.Ns mainGlobals mg->ye mg p base->fU P w K mg base CX k fa fd [x] sp) (hbind:∀(s:Shared) (u:Value),BindsTo s fd ⟨[u],[]⟩ [(x,u)])
  (hsp:∀H:Hp,yd p H->gR K H a (ns.map V.int)->sp [.ref a] H (λv _=>v=.bl true) λ_ _ _=>False)
  (hCX:∀H e s',CX [] H s₁ (λ_ _ _=>False) e s'->False) :
  codeAny (model P w) callerA (.call (.ref fa) ⟨[.ref a],[]⟩) (λr s'=>r=.ok (.ret (.bool true))/\OldK s₁.heap s'.heap/\s'.os=s₁.os/\AllBare s'.gens) s₁:=by
 have rv:=l8 hi;have WQ:=hi.length;have pa:a≠p:=λz=>by rw[z,hp]at ha;cases ha
 have core:∀H:Hp,yd p H->gR K H a (ns.map V.int)->nL P w H s₁.heap->(∀b,H b≠none->b=a\/b=p)->(H a≠none->K.lookup a=none) ->
   codeAny (model P w) callerA (.call (.ref fa) ⟨[.ref a],[]⟩) (λr s'=>r=.ok (.ret (.bool true))/\OldK s₁.heap s'.heap/\s'.os=s₁.os/\AllBare s'.gens) s₁:=by
  intro H hO hS hok hA hK;have base_of:∀{b:Addr} {o:Obj},s₁.heap.get? b=some o->H b=none->(tR s₁.heap H).get? b=some o:=λe n=>Ew e n;have noA:∀{b:Addr} {o:Obj},s₁.heap.get? b=some o->(∀xs n,o.data≠.seq xs n)->(∀vs,o.data≠.fields vs)->H b=none:=λ{b o} e d1 d2=>by
   cases q:H b with
   |none=>rfl
   |some u=>
    rcases hA b (by rw[q];simp) with rfl|rfl
    ·rw[ha]at e;cases e;exact absurd rfl (d1 _ _)
    ·rw[hp]at e;cases e;exact absurd rfl (d2 _)
  have nsK:∀{b:Addr} {m:Str->Option Value},s₁.heap.Ns b m->(tR s₁.heap H).Ns b m:=λ{b m} ⟨o,es,ep,e,d,r⟩=>⟨o,es,ep,base_of e (noA e (λ_ _ z=>by rw[d]at z;cases z) λ_ z=>by rw[d]at z;cases z),d,r⟩;have Yb:K.In (tR s₁.heap H):=λb o e=>base_of (KX b o e) (by
   cases q:H b with
   |none=>rfl
   |some u=>
    rcases hA b (by rw[q];simp) with rfl|rfl
    ·rw[hK (by rw[q];simp)]at e;cases e
    ·rw[Z6]at e;cases e)
  have hM:Mod K mg (tR s₁.heap H):=⟨Yb,nsK hns,⟨mb,nsK hb,Z5⟩,let ⟨mc,h1,h2⟩:=hlim;⟨mc,nsK h1,h2⟩⟩;have WR:ye mg p (tR s₁.heap H):=by obtain⟨bm,o,b1,b2,b3,b4,b5,b6,b7,b8⟩:=hbm;exact⟨bm,o,b1,b2,b3,b4,base_of b5 (noA b5 (λ_ _ z=>by rw[b8]at z;cases z) λ_ z=>by rw[b8]at z;cases z),b6,b7,b8⟩
  have e0:rG P w K mg (tR s₁.heap H) callerA [] s₁ H:=⟨rfl,hM,λb o e=>JK e,Nat.le_of_eq (CW _ _),trivial,λb hb=>absurd (show b∈([]:List Addr) from hb) (by simp),hok,.of_eq hg⟩;refine codeAny_mono ((F _ Yb (nsK hns) WR).run callerA [] s₁ H ⟨[.ref a],[]⟩ [.ref a] [.ref a] _ _ hr e0 (hbind s₁ (.ref a)) #[rfl] (hsp H hO hS)) λr s' h=>?_;cases r with
  |error e=>exact(hCX H e s' h).elim
  |ok fl=>
   cases fl with
   |next=>exact False.elim h
   |brk=>exact False.elim h
   |cont=>exact False.elim h
   |ret u=>
    obtain⟨v,H',os,bare,un,SH,r',q⟩:=h;have q':v=.bl true:=q;subst q';obtain rfl:u=Value.bool true:=r';have kp:∀b o,b≠p->s₁.heap.get? b=some o->s'.heap.get? b=some o:=λb o n e=>by
     rcases hO.2 b n with z|⟨ob,xs,z⟩
     ·exact un.keep b o e z (by intro z;exact absurd (show b∈([]:List Addr) from z) (by simp)) (by simp)
     ·have z2:=un.frzs b ob _ z;obtain⟨e1,_⟩:=hok b _ z;obtain⟨e2,_⟩:=SH b _ z2;rw[e]at e1;cases e1;exact e2
    obtain⟨more,tb⟩:=un.tbls p _ hO.1;have tb':s'.heap.get? p=some (tabObj (#[]++more)):=SH p _ tb;obtain⟨oc,vc,_,_,_,_,_,_,_,c1,c2,c3,c4,_⟩:=codeHd_of_K KX hc;refine⟨rfl,⟨λb o e=>?_,λb o e=>?_⟩,os,bare⟩
    ·by_cases hb:b=p
     ·subst hb;rw[hp]at e;cases e;exact .inr (.inl ⟨⟨c,oc,vc,c1,c2,c3,c4⟩,rfl,#[],more,rfl,tb'⟩)
     ·exact .inl (kp b o hb e)
    ·by_cases hb:b=p
     ·subst hb;exact⟨_,tb'⟩
     ·exact⟨o,kp b o hb e⟩
 cases hk:K.lookup a with
 |some o=>
  have e:=KX a o hk;rw[ha]at e;cases e;refine core (upd (λ_=>none) p (.tbl #[])) ⟨aD,λb n=>.inl (ak n)⟩ (.inr ⟨_,vs.toArray,_,hk,rfl,rfl,rfl,by rw[aax,WQ];exact hl,by simpa using rv⟩) (λb u z=>?_) (λb z=>?_) λz=>absurd (ak pa) z
  ·by_cases hb:b=p
   ·subst hb;rw[aD]at z;cases z;exact hp
   ·rw[ak hb]at z;cases z
  ·by_cases hb:b=p
   ·exact .inr hb
   ·exact absurd (ak hb) z
 |none=>
  refine core (upd (upd (λ_=>none) a (.oR { cls:=.type "list",data:=.seq vs.toArray } (.lst (ns.map V.int)))) p (.tbl #[])) ⟨aD,λb n=>?_⟩ (.inl (.inr ⟨{ cls:=.type "list",data:=.seq vs.toArray },by rw[ak pa,aD]⟩)) (λb u z=>?_) (λb z=>?_) λ_=>hk
  ·rw[ak n]
   by_cases hb:b=a
   ·subst hb;exact .inr ⟨_,_,aD⟩
   ·exact .inl (ak hb)
  ·by_cases hb:b=p
   ·subst hb;rw[aD]at z;cases z;exact hp
   ·rw[ak hb]at z
    by_cases hb:b=a
    ·subst hb;rw[aD]at z;cases z;exact⟨ha,by rw[aaf];exact hl,vs,_,rv,ha⟩
    ·rw[ak hb]at z;cases z
  ·by_cases hb:b=p
   ·exact .inr hb
   ·rw[ak hb]at z
    by_cases hb:b=a
    ·exact .inl hb
    ·exact absurd (ak hb) z
theorem N7{l:PySem.W.OpenLaw}{n k:Nat}{q:Program}{loose:List Str}{XP:(Str->Option Value)->Heap->Prop}{YP:World->Heap->Prop}{d:DefRec}{K:Params->Frag}{CX:World->xG}{sp:World->Sp}{x:Str}{c p:Addr}
  (hn:l.most=some n) (hn2:n<=sizeLine) (hdf:d.params.defaults=[]) (hr:dD k callerA)
  (hY:∀(w:World) (h:Heap),YP w h->(K w.params).In h/\h.get? p=some (tabObj #[])) (hc:∀w:World,codeHdIn (K w.params) c p=true/\(K w.params).lookup p=none)
  (F:∀(w:World) (mg:Str->Option Value) (fa:Addr) (h:Heap),(K w.params).In h->h.Ns mainGlobals mg->mg d.name=some (.ref fa) ->
   ∃fd:FuncData,(∀(s:Shared) (u:Value),BindsTo s fd ⟨[u],[]⟩ [(x,u)]) /\
    ∀base:Heap,(K w.params).In base->base.Ns mainGlobals mg->ye mg p base->fU l.prog w (K w.params) mg base (CX w) k fa fd [x] (sp w))
  (hsp:∀(w:World) (H:Hp) (a:Addr) (ns:List Int),ns.length<=n->yd p H->gR (K w.params) H a (ns.map V.int)->sp w [.ref a] H (λv _=>v=.bl true) λ_ _ _=>False)
  (hCX:∀(w:World) (H:Hp) (s:Shared) (e:Value) (s':Shared),CX w [] H s (λ_ _ _=>False) e s'->False) :
  PySem.W.WalkO q loose XP YP l.row.toRowW d [] (λf vs=>PySem.call f vs):=by
 refine XQ.xR hn hdf λw s₀ s₁ mg mb fa o pm cd doc a vs ns G Y ho hd hcd hmg hobj hints hlen hg=>?_;have KX:=hY w _ Y;obtain⟨fd,hb,hF⟩:=F w mg fa _ KX.1 G.T.g hmg;have hbm:ye mg p s₁.heap:=by
  obtain⟨bm,ob,b1,b2,b3,b4,b5,b6⟩:=G.T.bmain;refine⟨bm,ob,b1,b2,λz=>?_,λz=>?_,b3,b4,b5,b6⟩
  ·obtain⟨o,es,ep,e,d,_⟩:=G.T.g;rw[z,e]at b3;cases b3;rw[d]at b6;cases b6
  ·rw[z,KX.2]at b3;cases b3;cases b4
 exact Dv KX.1 G.T.g G.T.b G.T.builtins G.T.nolimit hg hobj hints (aaH hlen hn2) hr KX.2 (hc w).1 (hc w).2 hbm hF hb (λH hO hS=>hsp w H a ns hlen hO hS) λH e s'=>hCX w H s₁ e s'
end L2
end
section
namespace Hv
open PySem L2 PyProof.Rows
inductive Val
 |non|bl (b:Bool)|int (i:Int)|str (x:Str)|tup (vs:List Val)|rl (vs:List Val)|dc (ks:List Key) (vs:List Val)|ob (c:Nat) (xs:List Str) (vs:List Val)|clo (v:Val)|ref (i:Nat)
inductive Ob
 |lst (xs:List Val)|dct (kvs:List (Key×Val))|ins (c:Nat) (fs:List (Str×Val))
abbrev Hs:=List Ob
inductive Out (α:Type)
 |ok (a:α) (h:Hs)|exc (c:Nat) (vs:List Val) (h:Hs)|no
abbrev M(α:Type):=Hs->Out α
def ret{α:Type}(a:α):M α:=λh=>.ok a h
def bnd{α β:Type}(m:M α)(f:α -> M β):M β:=λh=>match m h with
 |.ok a h'=>f a h'
 |.exc c vs h'=>.exc c vs h'
 |.no=>.no
def bH{α:Type}(o:Option α):M α:=λh=>match o with
 |some a=>.ok a h
 |none=>.no
def ask{α:Type}(f:Hs->Option α):M α:=λh=>bH (f h) h
def new(o:Ob):M Val:=λh=>.ok (.ref h.length) (h++[o])
def put(i:Nat)(o:Ob):M Unit:=λh=>.ok () (h.set i o)
def cD{α β:Type}(f:α -> Option β):List α -> Option (List β)
 |[]=>some []
 |a::r=>(f a).bind λb=>(cD f r).bind λbs=>some (b::bs)
inductive Mz|add|sub|mul|fdiv|mod|pow
 deriving DecidableEq
inductive MA|eq|ne|lt|le|gt|ge|isn|ntn|AG|nin
 deriving DecidableEq
inductive Bl|len|min|max|sorted|list|tuple|str|int|all|any|isin (T:String)
 deriving DecidableEq
inductive Me|join|append|extend|pop
 deriving DecidableEq
inductive AH|one (i:Nat)|tup (is:List Nat)
 deriving DecidableEq
inductive Ik|seq|range|enum|zip
 deriving DecidableEq
mutual
inductive IE
 |var (i:Nat)|cst (d:Val)|con (x:Str) (d:Val)|no
 |bin (o:Mz) (a b:IE)|neg (a:IE)|cmp (o:MA) (a b:IE)|chn (o p:MA) (a b c:IE)
 |and (a b:IE)|or (a b:IE)|not (a:IE)|ite (c a b:IE)
 |tup (es:nM)|lst (es:nM)|idx (a b:IE)|slc (a lo hi:IE)
 |call (j:Nat) (es:nM)|blt (b:Bl) (es:nM)|met (m:Me) (a:IE) (es:nM)
 |comp (N:List Str) (js:List (Option Nat)) (pat:AH) (k:Ik) (it:nM) (c elt:IE)
 |dct0
 |sset (a:IE)
 |dget (d k x:IE)
 |dct1 (k v:IE)
 |lkeys (d:IE)
 |sdef (d k x:IE)
 |svals (d:IE)
 |skeys (d:IE)
 |fld (n:Nat) (a:IE) (x:Str)
 |mth (a:IE) (m:Str) (js:List (Nat×Nat)) (es:nM)
 |rev (a s:IE)
 |dflt (N:List Str) (js:List (Option Nat)) (p q:Nat) (d w:IE)
 |isc (a:IE) (x:Str) (bs:List Bool)
inductive nM|nil|cons (e:IE) (es:nM)
end
abbrev Env:=List (Option Val)
mutual
inductive IS
 |expr (e:IE)|asg (p:AH) (e:IE)|aug (i:Nat) (o:Mz) (e:IE)|jV (o i v:IE)
 |iff (c:IE) (a b:bQ)|for (p:AH) (k:Ik) (it:nM) (body:bQ)|whl (n:Nat) (c:IE) (body:bQ)
 |ret (e:IE)|Kr|brk|cnt|pass|never|setF (n:Nat) (a:IE) (x:Str) (v:IE)
inductive bQ|nil|cons (s:IS) (r:bQ)
end
def aJ(h:Hs):Val->Option (List Val)
 |.rl vs=>some vs
 | .ref i=>match h[i]? with
  |some (.lst xs)=>some xs
  |_=>none
 |_=>none
def cN(h:Hs):Val->Option (List Val)
 |.tup vs=>some vs
 |v=>aJ h v
def BP(_:Hs):Val->Option (List Val)
 |.tup vs=>some vs
 |_=>none
def bB:List Val->Option (List Int):=cD λv=>match v with
 |.int i=>some i
 |_=>none
def fu:List Val->Option (List Bool):=cD λv=>match v with
 |.bl i=>some i
 |_=>none
def mQ:List Val->Option (List (List Int)):=cD λv=>match v with
 |.tup vs=>if vs.isEmpty then none else bB vs
 |_=>none
def toD:Nat->Hs->Val->Option PyData
 |0,_,_=>none
 |_+1,_,.non=>some .none
 |_+1,_,.bl b=>some (.bool b)
 |_+1,_,.int i=>some (.int i)
 |_+1,_,.str x=>if PyData.strOk x=true then some (.str x) else none
 |n+1,h,.tup vs=>(cD (toD n h) vs).bind λds=>some (.tuple ds)
 |n+1,h,.rl vs=>(cD (toD n h) vs).bind λds=>some (.list ds)
 |_+1,_,.dc _ _=>none
 |_+1,_,.ob _ _ _=>none
 |_+1,_,.clo _=>none
 |n+1,h,.ref i=>(aJ h (.ref i)).bind λxs=>(cD (toD n h) xs).bind λds=>some (.list ds)
def AI(h:Hs)(v w:Val):Option Bool:=(toD 16 h v).bind λd=>(toD 16 h w).bind λe=>some (PyData.eqv d e)
def wj(x:List Int):List (List Int)->List (List Int)
 |[]=>[x]
 |y::r=>if HT.lexLt y x=true then y::wj x r else x::y::r
def nY:List (List Int)->List (List Int)
 |[]=>[]
 |x::r=>wj x (nY r)
def mZ(ks:List Int):Val:=.tup (ks.map .int)
def iz(xs:List Val):Option (List Val) :=
 if xs.length<64 then
  match bB xs with
  |some ns=>some ((sortI ns).map .int)
  |none=>(mQ xs).bind λqP=>some ((nY qP).map mZ)
 else none
def uc:List Int->Option Val
 |[]=>none
 |a::r=>some (.int (r.foldl min a))
def wm:List Int->Option Val
 |[]=>none
 |a::r=>some (.int (r.foldl max a))
def kX(i j:Int):Bool:=(decide (-(2 ^ 64)<i)&&decide (i<2 ^ 64))||(decide (-(2 ^ 64)<j)&&decide (j<2 ^ 64))
def aQ{α:Type}(c:Bool)(m:M α):M α:=λh=>if c=true then m h else .no
def dP(b:Int):Bool:=decide (0<b/\b<1606938044258990275541962092341162602522202993782792835301376)
def Rx:Mz->Val->Val->M Val
 |.add,.int a,.int b=>ret (.int (a+b))
 |.add,v,w=>bnd (ask λh=>aJ h v) λa=>bnd (ask λh=>aJ h w) λb=>aQ (decide (a.length+b.length<=sizeLine)) (new (.lst (a++b)))
 |.sub,.int a,.int b=>ret (.int (a-b))
 |.mul,.int a,.int b=>aQ (kX a b) (ret (.int (a*b)))
 |.fdiv,.int a,.int b=>aQ (dP b) (ret (.int (a/b)))
 |.mod,.int a,.int b=>aQ (decide (0<b)) (ret (.int (a%b)))
 |.pow,.int a,.int b=>aQ (decide (0<=b/\b<=1000000/\a.natAbs<2 ^ 64)) (ret (.int (a ^ b.toNat)))
 |_,_,_=>bH none
def ki:Val->Bool
 |.non=>true
 |_=>false
def dF(kvs:List (Key×Val))(k:Key):Option Val:=(kvs.find? λkv=>decide (kv.1=k)).map (·.2)
def mH(kvs:List (Key×Val))(k:Key)(v:Val):List (Key×Val) :=
 if (kvs.any λkv=>decide (kv.1=k))=true then kvs.map (λkv=>if kv.1=k then (kv.1,v) else kv) else kvs++[(k,v)]
def keyOf:Val->Option Key
 |.int i=>some (.inl i)
 |.str x=>some (.inr x)
 |_=>none
def SJ(f d:PyData):Option Bool:=match f with
 |.list ds=>some (ds.any λy=>PyData.eqv y d)
 |.tuple ds=>some (ds.any λy=>PyData.eqv y d)
 |_=>none
def memD(h:Hs)(v w:Val):Option Bool:=(toD 16 h w).bind λf=>(toD 16 h v).bind λd=>SJ f d
def yf(h:Hs)(v w:Val):Option Bool:=memD h v w
def MB(v w:Val):Option Bool:=match w with
 |.non=>some (ki v)
 |_=>none
def cop(h:Hs):MA->Val->Val->Option Bool
 |.eq,v,w=>AI h v w
 |.ne,v,w=>(AI h v w).map (!·)
 |.lt,.int a,.int b=>some (decide (a<b))
 |.le,.int a,.int b=>some (decide (a<=b))
 |.gt,.int a,.int b=>some (decide (b<a))
 |.ge,.int a,.int b=>some (decide (b<=a))
 |.isn,v,w=>MB v w
 |.ntn,v,w=>(MB v w).map (!·)
 |.AG,v,w=>yf h v w
 |.nin,v,w=>(yf h v w).map (!·)
 |_,_,_=>none
def ck(h:Hs):Val->Option Bool
 |.non=>some false
 |.bl b=>some b
 |.int i=>some (i != 0)
 |.str x=>if x.length<=sizeLine then some ((x.length:Int) != 0) else none
 |.tup vs=>some (!vs.isEmpty)
 |.rl vs=>some (!vs.isEmpty)
 |.dc ks _=>some (!ks.isEmpty)
 |.ob _ _ _=>none
 |.clo _=>none
 | .ref i=>match h[i]? with
  |some (.lst xs)=>some (!xs.isEmpty)
  |some (.dct xs)=>some (!xs.isEmpty)
  |_=>none
def jl(h:Hs):Val->Val->Option Val
 |.tup vs,.int i=>kP vs i
 |.rl vs,.int i=>kP vs i
 | .ref j,.int i=>match h[j]? with
  |some (.dct kvs)=>dF kvs (.inl i)
  |_=>(aJ h (.ref j)).bind λxs=>kP xs i
 |.dc ks vs,.int i=>dF (ks.zip vs) (.inl i)
 |_,_=>none
def FI(h:Hs)(o:Val):Option Unit:=match o with
 | .ref i=>(match h[i]? with
  |some (.dct _)=>some ()
  |_=>none)
 |.dc _ _=>some ()
 |_=>none
def Dw(h:Hs)(o:Val)(k:Key):Option (Option Val):=match o with
 | .ref i=>(match h[i]? with
  |some (.dct kvs)=>some (dF kvs k)
  |_=>none)
 |.dc ks vs=>some (dF (ks.zip vs) k)
 |_=>none
def yg(h:Hs)(o:Val):Option (List Key):=match o with
 | .ref i=>(match h[i]? with
  |some (.dct kvs)=>some (kvs.map (·.1))
  |_=>none)
 |.dc ks _=>some ks
 |_=>none
def FJ:Key->Val
 |.inl i=>.int i
 |.inr x=>.str x
def bX{α:Type}(ds:List α)(lo hi:Option Int):List α:=(ds.drop (HT.eV ds.length 0 lo)).take (HT.eV ds.length ds.length hi-HT.eV ds.length 0 lo)
def ud(v:Val)(lo hi:Option Int):M Val:=match v with
 |.tup vs=>aQ (!(decide (HT.eV vs.length 0 lo=0)&&decide (HT.eV vs.length vs.length hi=vs.length))) (ret (.tup (bX vs lo hi)))
 |v=>bnd (ask λh=>aJ h v) λxs=>new (.lst (bX xs lo hi))
def yh(h:Hs):Val->Option String
 |.non=>some "NoneType" | .bl _=>some "bool" | .int _=>some "int" | .str _=>some "str" | .tup _=>some "tuple" | .rl _=>some "list" | .dc _ _=>some "dict" | .ob _ _ _=>none|.clo _=>none
 | .ref i=>match h[i]? with
  |some (.lst _)=>some "list"
  |some (.dct _)=>some "dict"
  |_=>none
def yi(T:String)(t:String):Option Bool :=
 if ["list","tuple","str","bool","int","dict"].contains T=true then some (decide (T=t\/(T = "int" /\ t = "bool"))) else none
def o6(h:Hs):Val->Option Nat
 |.tup vs=>some vs.length
 |.rl vs=>some vs.length
 |.dc ks _=>some ks.length
 | .ref i=>match h[i]? with
  |some (.lst xs)=>some xs.length
  |some (.dct xs)=>some xs.length
  |_=>none
 |_=>none
def blt:Bl->List Val->M Val
 |.len,[v]=>bnd (ask λh=>o6 h v) λn=>ret (.int n)
 |.min,[.int a,.int b]=>ret (.int (if b<a then b else a))
 |.max,[.int a,.int b]=>ret (.int (if b>a then b else a))
 |.min,[v]=>bnd (ask λh=>cN h v) λxs=>bH ((bB xs).bind uc)
 |.max,[v]=>bnd (ask λh=>cN h v) λxs=>bH ((bB xs).bind wm)
 |.sorted,[v]=>bnd (ask λh=>aJ h v) λxs=>bnd (bH (iz xs)) λys=>new (.lst ys)
 |.list,[v]=>bnd (ask λh=>cN h v) λxs=>new (.lst xs)
 |.int,[.bl b]=>ret (.int (if b=true then 1 else 0))
 |.int,[.int i]=>ret (.int i)
 |.all,[v]=>bnd (ask λh=>aJ h v) λxs=>bnd (bH (fu xs)) λbs=>ret (.bl (bs.all id))
 |.isin T,[v]=>bnd (ask λh=>yh h v) λt=>bnd (bH (yi T t)) λb=>ret (.bl b)
 |_,_=>bH none
def met:Me->Val->List Val->M Val
 |.append,.ref i,[v]=>bnd (ask λh=>match h[i]? with|some (.lst xs)=>some xs|_=>none) λxs=>aQ (decide (xs.length<sizeLine)) (bnd (put i (.lst (xs++[v]))) λ_=>ret .non)
 |.extend,.ref i,[v]=>bnd (ask λh=>match h[i]? with|some (.lst xs)=>some xs|_=>none) λxs=>bnd (ask λh=>BP h v) λys=>aQ (decide (xs.length+ys.length<=sizeLine)) (bnd (put i (.lst (xs++ys))) λ_=>ret .non)
 |.pop,.ref i,[.int k]=>bnd (ask λh=>match h[i]? with|some (.lst xs)=>some xs|_=>none) λxs=>aQ (decide (0<=k/\k<1000)) (bnd (bH xs[k.toNat]?) λv=>bnd (put i (.lst (xs.eraseIdx k.toNat))) λ_=>ret v)
 |_,_,_=>bH none
def recv(h:Hs):Me->Val->Option Unit
 |.join,.str _=>some ()
 |.append,.ref i=>match h[i]? with|some (.lst _)=>some ()|_=>none
 |.extend,.ref i=>match h[i]? with|some (.lst _)=>some ()|_=>none
 |.pop,.ref i=>match h[i]? with|some (.lst _)=>some ()|_=>none
 |_,_=>none
inductive Src
 |fix (xs:List Val)|live (i:Nat)|enum (i:Nat)|zip (v w:Val)
def rY:Nat->List Val->List Val
 |_,[]=>[]
 |i,d::r=>.tup [.int i,d]::rY (i+1) r
def dS:List Val->List Val->List Val
 |a::r,b::t=>.tup [a,b]::dS r t
 |_,_=>[]
def cz(lo:Int)(n:Nat):List Val:=(List.range n).map λ(i:Nat)=>Val.int (lo+(i:Int))
def inR(i:Int):Bool:=decide (-(2 ^ 62)<=i)&&decide (i<2 ^ 62)
def srcOf:Ik->List Val->Option Src
 |.seq,[.tup vs]=>some (.fix vs)
 |.seq,[.rl vs]=>some (.fix vs)
 |.seq,[.ref i]=>some (.live i)
 |.range,[.int n]=>if inR n then some (.fix (cz 0 n.toNat)) else none
 |.range,[.int a,.int b]=>if inR a&&inR b then some (.fix (cz a (b-a).toNat)) else none
 |.enum,[.rl vs]=>some (.fix (rY 0 vs))
 |.enum,[.ref i]=>some (.enum i)
 |.zip,[v,w]=>some (.zip v w)
 |_,_=>none
def Src.items(h:Hs):Src->Option (List Val)
 |.fix xs=>some xs
 |.live i=>aJ h (.ref i)
 |.enum i=>(aJ h (.ref i)).map (rY 0)
 |.zip v w=>(aJ h v).bind λxs=>(aJ h w).map λys=>dS xs ys
def bindAll:List Nat->List Val->Env->Option Env
 |[],[],env=>some env
 |i::is,d::ds,env=>bindAll is ds (env.set i (some d))
 |_,_,_=>none
def iA:AH->Val->Env->Option Env
 |.one i,d,env=>some (env.set i (some d))
 |.tup is,.tup ds,env=>bindAll is ds env
 |_,_,_=>none
def kY(js:List (Option Nat))(env:Env):Env:=js.map λo=>match o with
 |none=>none
 | some j=>match env[j]? with
  |some (some d)=>some d
  |_=>none
def gf(src:Src)(f:Val->M (Option Val)):Nat->Nat->List Val->M (List Val)
 |0,i,acc=>bnd (ask λh=>src.items h) λxs=>aQ (decide (xs.length<=i)) (ret acc)
 | n+1,i,acc=>bnd (ask λh=>src.items h) λxs=>match xs[i]? with
  |none=>ret acc
  |some x=>bnd (f x) λo=>gf src f n (i+1) (match o with|some e=>acc++[e]|none=>acc)
def dU:IE->Bool
 |.no=>true
 |_=>false
def kj:Val->Option Int
 |.int i=>some i
 |_=>none
def rZ:Val->M Bool
 |.bl b=>ret b
 |_=>bH none
def r8(n:Nat)(h:Hs)(o:Val)(x:Str):Option Val:=match o with
 | .ref i=>(match h[i]? with
  |some (.ins c fs)=>if c<n then fs.lookup x else none
  |_=>none)
 |.ob c xs vs=>if c<n then (xs.zip vs).lookup x else none
 |_=>none
def Dy(h:Hs)(o:Val)(m:Str)(js:List (Nat×Nat)):Option Nat:=match o with
 | .ref i=>(match h[i]? with
  |some (.ins c fs)=>if (fs.lookup m).isNone=true then js.lookup c else none
  |_=>none)
 |.ob c xs vs=>if ((xs.zip vs).lookup m).isNone=true then js.lookup c else none
 |_=>none
def kF(h:Hs)(o:Val)(m:Str)(js:List (Nat×Nat)):Option Nat:=if m=("":Str) then (match o with|.clo _=>js.lookup 0|_=>none) else Dy h o m js
theorem FL(hm:m≠("":Str)):kF h o m js=Dy h o m js:=aam hm
def iB(f:Str)(v:Val):List (Str×Val)->List (Str×Val)
 |[]=>[(f,v)]
 |(g,x)::r=>if g=f then (g,v)::r else (g,x)::iB f v r
def BQ(n:Nat)(o:Val)(x:Str)(v:Val):M Unit:=match o with
 |.ref i=>bnd (ask λh=>match h[i]? with|some (.ins c fs)=>if c<n then some (c,fs) else none|_=>none) λp=>aQ (decide (p.2.length<1000)) (put i (.ins p.1 (iB x v p.2)))
 |_=>bH none
def MC(c:Nat)(φ:List Val->M Val)(vs:List Val):M Val:=bnd (new (.ins c [])) λo=>bnd (φ (o::vs)) λr=>match r with
 |.non=>ret o
 |_=>bH none
mutual
noncomputable def aS(Φ:Nat->List Val->M Val):IE->Env->M Val
 | .var i,env=>bH (match env[i]? with
  |some (some d)=>some d
  |_=>none)
 |.cst d,_=>ret d
 |.con _ d,_=>ret d
 |.no,_=>bH none
 |.bin o a b,env=>bnd (aS Φ a env) λx=>bnd (aS Φ b env) λy=>Rx o x y
 | .neg a,env=>bnd (aS Φ a env) λx=>match x with
  |.int i=>ret (.int (-i))
  |_=>bH none
 |.cmp o a b,env=>bnd (aS Φ a env) λx=>bnd (aS Φ b env) λy=>bnd (ask λh=>cop h o x y) λt=>ret (.bl t)
 |.chn _ _ _ _ _,_=>bH none
 |.and a b,env=>bnd (aS Φ a env) λx=>bnd (rZ x) λt=>if t=true then bnd (aS Φ b env) λy=>bnd (rZ y) λu=>ret (.bl u) else ret (.bl false)
 |.or a b,env=>bnd (aS Φ a env) λx=>bnd (rZ x) λt=>if t=true then ret (.bl true) else bnd (aS Φ b env) λy=>bnd (rZ y) λu=>ret (.bl u)
 |.not a,env=>bnd (aS Φ a env) λx=>bnd (rZ x) λt=>ret (.bl (!t))
 |.ite c a b,env=>bnd (aS Φ c env) λx=>bnd (ask λh=>ck h x) λt=>if t=true then aS Φ a env else aS Φ b env
 |.tup es,env=>bnd (bC Φ es env) λds=>aQ (decide (ds.length<=sizeLine)) (ret (.tup ds))
 |.lst es,env=>bnd (bC Φ es env) λds=>aQ (decide (ds.length<=sizeLine)) (new (.lst ds))
 |.idx a b,env=>bnd (aS Φ a env) λx=>bnd (aS Φ b env) λy=>ask λh=>jl h x y
 |.slc a lo hi,env=>bnd (aS Φ a env) λx=>bnd (if dU lo=true then ret none else bnd (aS Φ lo env) λv=>bnd (bH (kj v)) λi=>ret (some i)) λl=>
   bnd (if dU hi=true then ret none else bnd (aS Φ hi env) λv=>bnd (bH (kj v)) λi=>ret (some i)) λu=>ud x l u
 |.call j es,env=>bnd (bC Φ es env) λds=>Φ j ds
 |.blt b es,env=>bnd (bC Φ es env) λds=>blt b ds
 |.met m a es,env=>bnd (aS Φ a env) λx=>bnd (ask λh=>recv h m x) λ_=>bnd (bC Φ es env) λds=>met m x ds
 | .comp _ js pat k it c elt,env=>bnd (bC Φ it env) λits=>bnd (bH (srcOf k its)) λsrc=>bnd (ask λh=>src.items h) λxs=>aQ (decide (xs.length<=100000))
   (bnd (gf src (λd=>bnd (bH (iA pat d (kY js env))) λenv'=>bnd (if dU c=true then ret true else bnd (aS Φ c env') λv=>ask λh=>ck h v) λt=>
    if t=true then bnd (aS Φ elt env') λe=>ret (some e) else ret none) xs.length 0 []) λys=>new (.lst ys))
 |.dct0,_=>new (.dct [])
 |.sset a,env=>bnd (aS Φ a env) λv=>bnd (ask λh=>aJ h v) λxs=>bnd (bH (bB xs)) λns=>aQ (decide (ns.length<64)) (new (.lst ((sortI (L2.jj [] ns)).map .int)))
 |.dget d k x,env=>bnd (aS Φ d env) λo=>bnd (ask λh=>FI h o) λ_=>bnd (aS Φ k env) λi=>bnd (bH (keyOf i)) λkk=>bnd (aS Φ x env) λz=>bnd (ask λh=>Dw h o kk) λr=>ret (r.getD z)
 |.dct1 k v,env=>bnd (aS Φ k env) λx=>bnd (bH (keyOf x)) λkk=>bnd (aS Φ v env) λy=>new (.dct [(kk,y)])
 |.lkeys d,env=>bnd (aS Φ d env) λo=>bnd (ask λh=>yg h o) λks=>new (.lst (ks.map FJ))
 |.sdef _ _ _,_=>bH none
 |.svals _,_=>bH none
 |.skeys _,_=>bH none
 |.fld n a x,env=>bnd (aS Φ a env) λo=>ask λh=>r8 n h o x
 |.mth a m js es,env=>bnd (aS Φ a env) λo=>bnd (ask λh=>kF h o m js) λj=>bnd (bC Φ es env) λds=>Φ j (o::ds)
 |.rev _ _,_=>bH none
 |.dflt _ _ _ _ _ _,_=>bH none
 |.isc _ _ _,_=>bH none
noncomputable def bC(Φ:Nat->List Val->M Val):nM->Env->M (List Val)
 |.nil,_=>ret []
 |.cons e es,env=>bnd (aS Φ e env) λd=>bnd (bC Φ es env) λds=>ret (d::ds)
end
inductive Fl
 |nx (env:Env)|rt (v:Val)|bk (env:Env)|ct (env:Env)
def forM(src:Src)(body:Val->Env->M Fl):Nat->Nat->Env->M Fl
 |0,i,env=>bnd (ask λh=>src.items h) λxs=>aQ (decide (xs.length<=i)) (ret (.nx env))
 | n+1,i,env=>bnd (ask λh=>src.items h) λxs=>match xs[i]? with
  |none=>ret (.nx env)
  | some x=>bnd (body x env) λf=>match f with
   |.nx env'=>forM src body n (i+1) env'
   |.ct env'=>forM src body n (i+1) env'
   |.bk env'=>ret (.nx env')
   |.rt v=>ret (.rt v)
def yj(c:Env->M Bool)(body:Env->M Fl):Nat->Env->M Fl
 |0,_=>bH none
 | n+1,env=>bnd (c env) λt=>if t=true then bnd (body env) λf=>(match f with
   |.nx env'=>yj c body n env'
   |.ct env'=>yj c body n env'
   |.bk env'=>ret (.nx env')
   |.rt v=>ret (.rt v)) else ret (.nx env)
def BR(o i v:Val):M Unit:=match o with
 | .ref j=>bnd (ask λh=>h[j]?) λob=>match ob with
  |.dct kvs=>bnd (bH (keyOf i)) λk=>aQ (decide (kvs.length<sizeLine)) (put j (.dct (mH kvs k v)))
  |_=>bH none
 |_=>bH none
mutual
noncomputable def dB(Φ:Nat->List Val->M Val):IS->Env->M Fl
 |.expr e,env=>bnd (aS Φ e env) λ_=>ret (.nx env)
 |.asg p e,env=>bnd (aS Φ e env) λv=>bnd (bH (iA p v env)) λenv'=>ret (.nx env')
 |.aug _ _ _,_=>bH none
 |.jV o i v,env=>bnd (aS Φ v env) λx=>bnd (aS Φ o env) λy=>bnd (aS Φ i env) λz=>bnd (BR y z x) λ_=>ret (.nx env)
 |.iff c a b,env=>bnd (aS Φ c env) λx=>bnd (ask λh=>ck h x) λt=>if t=true then fy Φ a env else fy Φ b env
 |.for p k it body,env=>bnd (bC Φ it env) λits=>bnd (bH (srcOf k its)) λsrc=>bnd (ask λh=>src.items h) λxs=>
   forM src (λx env=>bnd (bH (iA p x env)) λenv'=>fy Φ body env') xs.length 0 env
 |.whl n c body,env=>yj (λenv=>bnd (aS Φ c env) λx=>ask λh=>ck h x) (fy Φ body) n env
 |.ret e,env=>bnd (aS Φ e env) λv=>ret (.rt v)
 |.Kr,_=>ret (.rt .non)
 |.brk,env=>ret (.bk env)
 |.cnt,env=>ret (.ct env)
 |.pass,env=>ret (.nx env)
 |.never,_=>bH none
 |.setF n a x v,env=>bnd (aS Φ v env) λy=>bnd (aS Φ a env) λo=>bnd (BQ n o x y) λ_=>ret (.nx env)
noncomputable def fy(Φ:Nat->List Val->M Val):bQ->Env->M Fl
 |.nil,env=>ret (.nx env)
 | .cons s r,env=>bnd (dB Φ s env) λf=>match f with
  |.nx env'=>fy Φ r env'
  |f=>ret f
end
def fz(Φ:Nat->List Val->M Val)(n:Nat)(body:bQ)(vs:List Val):M Val :=
 bnd (fy Φ body (vs.map some++replicate (n-vs.length) none)) λf=>match f with
  |.nx _=>ret .non
  |.rt v=>ret v
  |_=>bH none
theorem kZ{b:Bool}(ho:o=.lt\/o=.le\/o=.gt\/o=.ge)(e:cop h o v w=some b):∃i j,v=.int i/\w=.int j:=by
 have one:∀{o:MA},(o=.lt\/o=.le\/o=.gt\/o=.ge)->∀{v w:Val},(∀a,v=.int a->∀b,w≠.int b)->cop h o v w=none:=λho v w n=>by
  rcases ho with rfl|rfl|rfl|rfl<;>(cases v<;>first|rfl|(cases w<;>first|rfl|exact(n _ rfl _ rfl).elim))
 by_cases c:∃i j,v=.int i/\w=.int j
 ·exact c
 ·rw[one ho λa ea b eb=>c ⟨a,b,ea,eb⟩]at e;cases e
structure Bd where
 K:Frag
 cl:Nat->Addr
def N8(K:Frag)(H:Hp)(a:Addr)(xs:List V):Prop :=
 (∃o,H a=some (.oR o (.lst xs)))\/gR K (λ_=>none) a xs
theorem N8.sq{K:Frag}{H:Hp}{a:Addr}{xs:List V}(h:N8 K H a xs):gR K H a xs:=by
 rcases h with ⟨o,h⟩|(h|⟨o,h⟩)|h
 ·exact .inl (.inr ⟨o,h⟩)
 ·cases h
 ·cases h
 ·exact .inr h
def qD:Pos:=⟨125,4,130,25⟩
def mR:Str:="wish_hand.<locals>.hand"
def Yc(o:Obj):Stmt:=match o.data with
 | .func fd=>(match fd.body with
  |.stmts b=>b.getD 1 (.Pass ⟨0,0,0,0⟩)
  |_=>.Pass ⟨0,0,0,0⟩)
 |_=>.Pass ⟨0,0,0,0⟩
def stK(K:Frag):Stmt:=match nsIn K mainGlobals "wish_hand" with
 |some (some (.ref f))=>((K.lookup f).map Yc).getD (.Pass ⟨0,0,0,0⟩)
 |_=>.Pass ⟨0,0,0,0⟩
def SK(st:Stmt)(cc c1:Addr)(doc pm ct:Value):Obj:={ cls:=.type "function",data:=.func (PySem.W.fnX "hand" mR (eG st) (aq st) (aa st) [("wishes",cc)] .none .none doc pm none (.ref c1) ct) }
def rR(p:Addr)(H:Hp):Prop:=∃ps,H p=some (.tbl ps)/\TriplesOk ps.toList/\(codeAmong qD ps.toList=none\/∃c,codeAmong qD ps.toList=some (.ref c)/\H c=some (FE c mR))
theorem rR.upd(t:rR p H)(h:∀u,H a=some u->(∀ps,u≠.tbl ps)/\∀φ,u≠.ext φ):rR p (L2.upd H a o):=by
 obtain⟨ps,e1,e2,e3⟩:=t;have n1:p≠a:=λz=>by rw[z]at e1;exact(h _ e1).1 ps rfl
 refine⟨ps,by rw[ak n1];exact e1,e2,e3.imp id λ⟨c,k1,k2⟩=>⟨c,k1,?_⟩⟩;have n2:c≠a:=λz=>by rw[z]at k2;exact(h _ k2).2 _ rfl
 rw[ak n2];exact k2
mutual
noncomputable def VR(K:Frag)(ρ:List Addr)(H:Hp):Val->V->Prop
 |.non,x=>x=.non
 |.bl b,x=>x=.bl b
 |.int i,x=>x=.int i
 |.str s,x=>x=.str s
 |.tup vs,x=>∃a xs,x=.ref a/\kO K H a xs/\aI K ρ H vs xs
 |.rl vs,x=>∃a xs,x=.ref a/\N8 K H a xs/\aI K ρ H vs xs
 |.dc _ _,_=>False
 |.ob _ _ _,_=>False
 |.clo v,x=>∃f cc c1 a doc pm ct oc,x=.ref f/\H f=some (Et f (SK (stK K) cc c1 doc pm ct))/\H c1=some (FE c1 mR)/\H cc=some (My oc)/\oc.data=.cell (some (.ref a))/\VR K ρ H v (.ref a)
 |.ref i,x=>∃a,x=.ref a /\ ρ[i]?=some a
noncomputable def aI(K:Frag)(ρ:List Addr)(H:Hp):List Val->List V->Prop
 |[],xs=>xs=[]
 |v::vs,xs=>∃x r,xs=x::r/\VR K ρ H v x/\aI K ρ H vs r
end
def je(K:Frag)(ρ:List Addr)(H:Hp):List (Key×Val)->List (Key×V)->Prop
 |[],xs=>xs=[]
 |(k,v)::vs,xs=>∃x r,xs=(k,x)::r/\VR K ρ H v x/\je K ρ H vs r
def nZ(K:Frag)(ρ:List Addr)(H:Hp):List (Str×Val)->List (Str×V)->Prop
 |[],xs=>xs=[]
 |(k,v)::vs,xs=>∃x r,xs=(k,x)::r/\VR K ρ H v x/\nZ K ρ H vs r
def OR(B:Bd)(ρ:List Addr)(H:Hp)(a:Addr):Ob->Prop
 |.lst xs=>∃ys,H a=some (.lst ys)/\aI B.K ρ H xs ys
 |.dct kvs=>∃ks,H a=some (.dK ks)/\je B.K ρ H kvs ks
 |.ins c fs=>∃dx gs,H a=some (.ins (B.cl c) dx gs)/\nZ B.K ρ H fs gs
structure HR (B:Bd) (ρ:List Addr) (h:Hs) (H:Hp):Prop where
 len:ρ.length=h.length
 nd:ρ.Nodup
 ob:∀(i:Nat) (o:Ob) (a:Addr),h[i]?=some o -> ρ[i]?=some a->OR B ρ H a o
 tab:rR (B.cl 5000) H
def Mu:HO->Bool
 |.lst _=>true|.dK _=>true|.ins ..=>true|.tbl _=>true
 |_=>false
structure Gw (ρ:List Addr) (H:Hp) (ρ':List Addr) (H':Hp):Prop where
 pre:ρ <+: ρ'
 firm:∀a o,H a=some o->Mu o=false->H' a=some o
structure Gr (ρ:List Addr) (H:Hp) (ρ':List Addr) (H':Hp):Prop where
 pre:ρ <+: ρ'
 keep:∀a o,H a=some o->(∀ps,o≠.tbl ps)->a ∉ ρ -> H' a=some o
 tbls:∀a ps,H a=some (.tbl ps)->∃ps',H' a=some (.tbl ps')
 firm:∀a o,H a=some o->Mu o=false->H' a=some o
 fresh:∀a,a ∈ ρ'->a ∉ ρ -> H a=none
section
variable {K:Frag} {B:Bd} {ρ ρ' ρ1 ρ2:List Addr} {H H' H1 H2:Hp} {h h':Hs}
theorem Gr.w(g:Gr ρ H ρ' H'):Gw ρ H ρ' H':=⟨g.pre,g.firm⟩
theorem Gr.refl:Gr ρ H ρ H:=⟨aaC _,λ_ _ e _ _=>e,λ_ ps e=>⟨ps,e⟩,λ_ _ e _=>e,λ_ e n=>absurd e n⟩
theorem Gr.trans(g:Gr ρ H ρ1 H1)(k:Gr ρ1 H1 ρ2 H2):Gr ρ H ρ2 H2 where
 pre:=g.pre.trans k.pre
 keep a o e t n:=k.keep a o (g.keep a o e t n) t λz=>by rw[g.fresh a z n]at e;cases e
 tbls a ps e:=by obtain⟨ps1,e1⟩:=g.tbls a ps e;exact k.tbls a ps1 e1
 firm a o e n:=k.firm a o (g.firm a o e n) n
 fresh a z n:=by
  by_cases hb:a ∈ ρ1
  ·exact g.fresh a hb n
  ·cases e:H a with
   |none=>rfl
   |some o=>
    by_cases ht:∃ps,o=.tbl ps
    ·obtain⟨ps,rfl⟩:=ht;obtain⟨ps1,e1⟩:=g.tbls a ps e;rw[k.fresh a z hb]at e1;cases e1
    ·have e1:=g.keep a o e (λps z=>ht ⟨ps,z⟩) n;rw[k.fresh a z hb]at e1;cases e1
theorem qQ{i:Nat}(p:ρ <+: ρ')(e:ρ[i]?=some a):ρ'[i]?=some a:=by
 obtain⟨t,rfl⟩:=p;have hi:i < ρ.length:=(aag.mp e).1;rw[aas hi];exact e
theorem Gw.Vx(g:Gw ρ H ρ' H')(e:kO K H a xs):kO K H' a xs:=by
 rcases e with (e|⟨o,e⟩)|e
 ·exact .inl (.inl (g.firm _ _ e rfl))
 ·exact .inl (.inr ⟨o,g.firm _ _ e rfl⟩)
 ·exact .inr e
theorem Gw.SM(g:Gw ρ H ρ' H')(e:N8 K H a xs):N8 K H' a xs:=by
 rcases e with ⟨o,e⟩|e
 ·exact .inl ⟨o,g.firm _ _ e rfl⟩
 ·exact .inr e
mutual
theorem VR.mw(g:Gw ρ H ρ' H'):∀(v:Val) (x:V),VR K ρ H v x->VR K ρ' H' v x
 |.non,x,e=>by rw[VR]at e |-;exact e
 |.bl b,x,e=>by rw[VR]at e |-;exact e
 |.int b,x,e=>by rw[VR]at e |-;exact e
 |.str b,x,e=>by rw[VR]at e |-;exact e
 | .tup vs,x,e=>by
  rw[VR]at e |-;obtain⟨a,xs,rfl,q1,q2⟩:=e;exact⟨a,xs,rfl,g.Vx q1,aI.mw g vs xs q2⟩
 | .rl vs,x,e=>by
  rw[VR]at e |-;obtain⟨a,xs,rfl,q1,q2⟩:=e;exact⟨a,xs,rfl,g.SM q1,aI.mw g vs xs q2⟩
 |.dc _ _,x,e=>by rw[VR]at e;exact e.elim
 |.ob _ _ _,x,e=>by rw[VR]at e;exact e.elim
 | .clo v,x,e=>by
  rw[VR]at e |-;obtain⟨f,cc,c1,a,doc,pm,ct,oc,rfl,q1,q2,q3,qd,q4⟩:=e;exact⟨f,cc,c1,a,doc,pm,ct,oc,rfl,g.firm _ _ q1 rfl,g.firm _ _ q2 rfl,g.firm _ _ q3 rfl,qd,VR.mw g v _ q4⟩
 | .ref i,x,e=>by
  rw[VR]at e |-;obtain⟨a,rfl,q⟩:=e;exact⟨a,rfl,qQ g.pre q⟩
theorem aI.mw(g:Gw ρ H ρ' H'):∀(vs:List Val) (xs:List V),aI K ρ H vs xs->aI K ρ' H' vs xs
 |[],xs,e=>by rw[aI]at e |-;exact e
 | v::vs,xs,e=>by
  rw[aI]at e |-;obtain⟨x,r,rfl,q1,q2⟩:=e;exact⟨x,r,rfl,VR.mw g v x q1,aI.mw g vs r q2⟩
end
theorem je.mw(g:Gw ρ H ρ' H'):∀(vs:List (Key×Val)) (xs:List (Key×V)),je K ρ H vs xs->je K ρ' H' vs xs
 |[],xs,e=>e
 |(k,v)::vs,xs,⟨x,r,e,q1,q2⟩=>⟨x,r,e,VR.mw g v x q1,je.mw g vs r q2⟩
theorem nZ.mw(g:Gw ρ H ρ' H'):∀(vs:List (Str×Val)) (xs:List (Str×V)),nZ K ρ H vs xs->nZ K ρ' H' vs xs
 |[],xs,e=>e
 |(k,v)::vs,xs,⟨x,r,e,q1,q2⟩=>⟨x,r,e,VR.mw g v x q1,nZ.mw g vs r q2⟩
theorem nZ.look:∀{vs:List (Str×Val)} {xs:List (Str×V)},nZ K ρ H vs xs->(vs.lookup x=none->xs.lookup x=none)/\∀v,vs.lookup x=some v->∃y,xs.lookup x=some y/\VR K ρ H v y
 |[],xs,e=>by rw[nZ]at e;subst e;exact⟨λ_=>rfl,λv z=>by cases z⟩
 | (k,v)::vs,xs,e=>by
  rw[nZ]at e;obtain⟨y,r,rfl,q1,q2⟩:=e;rw[lookup_cons,lookup_cons];cases hb:x==k with
  |true=>exact⟨λz=>(by cases z),λw z=>by cases z;exact⟨y,rfl,q1⟩⟩
  |false=>exact nZ.look q2
theorem nZ.length:∀{vs:List (Str×Val)} {xs:List (Str×V)},nZ K ρ H vs xs->vs.length=xs.length
 |[],xs,e=>by rw[nZ]at e;subst e;rfl
 |(k,v)::vs,xs,e=>by rw[nZ]at e;obtain⟨y,r,rfl,_,q⟩:=e;simp[nZ.length q]
theorem nZ.put(hw:VR K ρ H w y):∀{vs:List (Str×Val)} {xs:List (Str×V)},nZ K ρ H vs xs->nZ K ρ H (iB x w vs) (jR x y xs)
 |[],xs,e=>by rw[nZ]at e;subst e;exact⟨y,[],rfl,hw,rfl⟩
 | (k,v)::vs,xs,e=>by
  rw[nZ]at e;obtain⟨z,r,rfl,q1,q2⟩:=e;rw[iB,jR]
  by_cases hk:k=x
  ·rw[aaj hk,aaj hk];exact⟨y,r,rfl,hw,q2⟩
  ·rw[aam hk,aam hk];exact⟨z,_,rfl,q1,nZ.put hw q2⟩
theorem VR.up(g:Gr ρ H ρ' H')(v:Val)(x:V)(e:VR K ρ H v x):VR K ρ' H' v x:=VR.mw g.w v x e
theorem aI.up(g:Gr ρ H ρ' H')(v:List Val)(x:List V)(e:aI K ρ H v x):aI K ρ' H' v x:=aI.mw g.w v x e
theorem je.up(g:Gr ρ H ρ' H')(v:List (Key×Val))(x:List (Key×V))(e:je K ρ H v x):je K ρ' H' v x:=je.mw g.w v x e
theorem nZ.up(g:Gr ρ H ρ' H')(v:List (Str×Val))(x:List (Str×V))(e:nZ K ρ H v x):nZ K ρ' H' v x:=nZ.mw g.w v x e
theorem aI.nil:aI K ρ H [] []:=by rw[aI]
theorem aI.cons{v:Val}{vs:List Val}{x:V}{xs:List V}(a:VR K ρ H v x)(b:aI K ρ H vs xs):aI K ρ H (v::vs) (x::xs):=by rw[aI];exact⟨x,xs,rfl,a,b⟩
theorem aI.length:∀{vs:List Val} {xs:List V},aI K ρ H vs xs->vs.length=xs.length
 |[],xs,e=>by rw[aI]at e;subst e;rfl
 |v::vs,xs,e=>by rw[aI]at e;obtain⟨x,r,rfl,_,q⟩:=e;simp[aI.length q]
theorem aI.get:∀{vs:List Val} {xs:List V} {i:Nat} {v:Val},aI K ρ H vs xs->vs[i]?=some v->∃x,xs[i]?=some x/\VR K ρ H v x
 |[],xs,i,v,e,q=>by simp at q
 | w::vs,xs,0,v,e,q=>by
  rw[aI]at e;obtain⟨x,r,rfl,a,_⟩:=e;simp at q;subst q;exact⟨x,rfl,a⟩
 | w::vs,xs,i+1,v,e,q=>by
  rw[aI]at e;obtain⟨x,r,rfl,_,b⟩:=e;simp at q;obtain⟨y,q1,q2⟩:=aI.get b q;exact⟨y,by simpa using q1,q2⟩
theorem aI.append:∀{vs ws:List Val} {xs ys:List V},aI K ρ H vs xs->aI K ρ H ws ys->aI K ρ H (vs++ws) (xs++ys)
 |[],ws,xs,ys,e,q=>by rw[aI]at e;subst e;exact q
 | w::vs,ws,xs,ys,e,q=>by
  rw[aI]at e;obtain⟨x,r,rfl,a,b⟩:=e;exact aI.cons a (aI.append b q)
theorem aI.take:∀{vs:List Val} {xs:List V} (n:Nat),aI K ρ H vs xs->aI K ρ H (vs.take n) (xs.take n)
 |_,_,0,_=>by simp;exact aI.nil
 |[],xs,n+1,e=>by rw[aI]at e;subst e;simp;exact aI.nil
 | w::vs,xs,n+1,e=>by
  rw[aI]at e;obtain⟨x,r,rfl,a,b⟩:=e;exact aI.cons a (aI.take n b)
theorem aI.drop:∀{vs:List Val} {xs:List V} (n:Nat),aI K ρ H vs xs->aI K ρ H (vs.drop n) (xs.drop n)
 |_,_,0,e=>by simpa using e
 |[],xs,n+1,e=>by rw[aI]at e;subst e;simp;exact aI.nil
 | w::vs,xs,n+1,e=>by
  rw[aI]at e;obtain⟨x,r,rfl,a,b⟩:=e;exact aI.drop n b
theorem aI.cut(lo hi:Option Int)(e:aI K ρ H vs xs):aI K ρ H (bX vs lo hi) (xK xs lo hi):=by
 unfold bX xK;rw[e.length];exact aI.take _ (aI.drop _ e)
theorem aI.kP{i:Int}(e:aI K ρ H vs xs)(q:L2.kP vs i=some v):∃x,L2.kP xs i=some x/\VR K ρ H v x:=by
 unfold L2.kP at q |-;rw[e.length]at q;cases hi:L2.Mv xs.length i with
 |none=>rw[hi]at q;cases q
 |some n=>rw[hi]at q;exact aI.get e q
theorem aI.one(e:aI K ρ H [v] xs):∃x,xs=[x]/\VR K ρ H v x:=by
 rw[aI]at e;obtain⟨x,r,rfl,a,b⟩:=e;rw[aI]at b;subst b;exact⟨x,rfl,a⟩
theorem aI.two(e:aI K ρ H [v,w] xs):∃x y,xs=[x,y]/\VR K ρ H v x/\VR K ρ H w y:=by
 rw[aI]at e;obtain⟨x,r,rfl,a,b⟩:=e;obtain⟨y,rfl,c⟩:=aI.one b;exact⟨x,y,rfl,a,c⟩
theorem VR.int{i:Int}:VR K ρ H (.int i) (.int i):=by rw[VR]
theorem VR.str:VR K ρ H (.str i) (.str i):=by rw[VR]
theorem VR.bl{i:Bool}:VR K ρ H (.bl i) (.bl i):=by rw[VR]
theorem VR.non:VR K ρ H .non .non:=by rw[VR]
theorem VR.tup(q:kO K H a xs)(e:aI K ρ H vs xs):VR K ρ H (.tup vs) (.ref a):=by rw[VR];exact⟨a,xs,rfl,q,e⟩
theorem VR.ref{i:Nat}(q:ρ[i]?=some a):VR K ρ H (.ref i) (.ref a):=by rw[VR];exact⟨a,rfl,q⟩
theorem aI.ints:∀{ns:List Int} {xs:List V},aI K ρ H (ns.map Val.int) xs↔xs=ns.map V.int
 |[],xs=>by simp[aI]
 | n::ns,xs=>by
  simp only[map_cons];rw[aI];constructor
  ·rintro⟨x,r,rfl,a,b⟩;rw[VR]at a;subst a;rw[(aI.ints (ns:=ns)).mp b]
  ·rintro rfl;exact⟨_,_,rfl,VR.int,(aI.ints (ns:=ns)).mpr rfl⟩
theorem aI.bools:∀{ns:List Bool} {xs:List V},aI K ρ H (ns.map Val.bl) xs↔xs=ns.map V.bl
 |[],xs=>by simp[aI]
 | n::ns,xs=>by
  simp only[map_cons];rw[aI];constructor
  ·rintro⟨x,r,rfl,a,b⟩;rw[VR]at a;subst a;rw[(aI.bools (ns:=ns)).mp b]
  ·rintro rfl;exact⟨_,_,rfl,VR.bl,(aI.bools (ns:=ns)).mpr rfl⟩
theorem aI.tups:∀{qP:List (List Int)} {xs:List V},aI K ρ H (qP.map mZ) xs->∃rs:List (Addr×List Int),xs=rs.map (λr=>V.ref r.1)/\qP=rs.map (·.2)/\∀r∈rs,kO K H r.1 (r.2.map V.int)
 |[],xs,e=>by simp only[map_nil]at e;rw[aI]at e;exact⟨[],e,rfl,λ_ z=>nomatch z⟩
 | ks::qP,xs,e=>by
  simp only[map_cons]at e;rw[aI]at e;obtain⟨x,r,rfl,a,b⟩:=e;obtain⟨rs,e1,e2,e3⟩:=aI.tups b;unfold mZ at a;rw[VR]at a;obtain⟨p,ys,rfl,g1,g2⟩:=a;rw[aI.ints.mp g2]at g1;refine⟨(p,ks)::rs,by rw[e1];rfl,by rw[e2];rfl,λr hr=>?_⟩
  rcases aaA.mp hr with z|z
  ·rw[z];exact g1
  ·exact e3 r z
theorem aI.BS:∀{rs:List (Addr×List Int)},(∀r∈rs,kO K H r.1 (r.2.map V.int))->aI K ρ H ((rs.map (·.2)).map mZ) (rs.map λr=>V.ref r.1)
 |[],_=>aI.nil
 |r::rs,e=>aI.cons (VR.tup (e r aal) (aI.ints.mpr rfl)) (aI.BS λq hq=>e q (aak _ hq))
theorem OR.mu(q:OR B ρ H a o):∃u,H a=some u/\Mu u=true/\∀ps,u≠.tbl ps:=by
 cases o with
 |lst xs=>obtain⟨ys,e,_⟩:=q;exact⟨_,e,rfl,λ_ z=>nomatch z⟩
 |dct xs=>obtain⟨ys,e,_⟩:=q;exact⟨_,e,rfl,λ_ z=>nomatch z⟩
 |ins c fs=>obtain⟨dx,ys,e,_⟩:=q;exact⟨_,e,rfl,λ_ z=>nomatch z⟩
theorem HR.mu(r:HR B ρ h H)(e:a ∈ ρ):∃u,H a=some u/\Mu u=true/\∀ps,u≠.tbl ps:=by
 obtain⟨i,hi,rfl⟩:=List.getElem_of_mem e;have hi':i<h.length:=by rw[<-r.len];exact hi
 exact(r.ob i _ _ (aaJ hi') (aaJ hi)).mu
theorem HR.out(r:HR B ρ h H)(e:H p=none):p ∉ ρ:=λz=>by
 obtain⟨u,q,_⟩:=r.mu z;rw[e]at q;cases q
theorem OR.mw(g:Gw ρ H ρ' H')(e:H' a=H a)(q:OR B ρ H a o):OR B ρ' H' a o:=by
 cases o with
 |lst xs=>obtain⟨ys,e1,e2⟩:=q;exact⟨ys,e.trans e1,aI.mw g _ _ e2⟩
 |dct xs=>obtain⟨ys,e1,e2⟩:=q;exact⟨ys,e.trans e1,je.mw g _ _ e2⟩
 |ins c fs=>obtain⟨dx,ys,e1,e2⟩:=q;exact⟨dx,ys,e.trans e1,nZ.mw g _ _ e2⟩
theorem OR.up(g:Gr ρ H ρ' H')(e:H' a=H a)(q:OR B ρ H a o):OR B ρ' H' a o:=OR.mw g.w e q
theorem Gr.side(e:H p=none):Gr ρ H ρ (upd H p o) where
 pre:=aaC _
 keep a u q _ _:=by rw[ak (aC q e)];exact q
 tbls a ps q:=⟨ps,by rw[ak (aC q e)];exact q⟩
 firm a u q _:=by rw[ak (aC q e)];exact q
 fresh a z n:=absurd z n
theorem HR.side(r:HR B ρ h H)(e:H p=none):HR B ρ h (upd H p o) where
 len:=r.len
 nd:=r.nd
 ob i u a q1 q2:=by refine OR.up (Gr.side e) ?_ (r.ob i u a q1 q2);refine ak λz=>?_;subst z;exact r.out e (aaE q2)
 tab:=r.tab.upd λu z=>by rw[e]at z;cases z
theorem Gw.other(e:H p=some u)(hm:Mu u=true):Gw ρ H ρ (upd H p o) where
 pre:=aaC _
 firm a w q n:=by
  have:a≠p:=λz=>by subst z;rw[e]at q;cases q;rw[hm]at n;cases n
  rw[ak this];exact q
theorem HR.other(r:HR B ρ h H)(hp:p ∉ ρ)(e:H p=some u)(hm:Mu u=true)(ht:∀ps,u≠.tbl ps):HR B ρ h (upd H p o) where
 len:=r.len
 nd:=r.nd
 ob i w a q1 q2:=OR.mw (Gw.other e hm) (ak λz=>by subst z;exact hp (aaE q2)) (r.ob i w a q1 q2)
 tab:=r.tab.upd λv z=>by rw[e]at z;cases z;exact⟨ht,λφ z=>by rw[z]at hm;cases hm⟩
theorem Gr.new(e:H p=none):Gr ρ H (ρ ++ [p]) (upd H p o) where
 pre:=prefix_append _ _
 keep a u q _ _:=by rw[ak (aC q e)];exact q
 tbls a ps q:=⟨ps,by rw[ak (aC q e)];exact q⟩
 firm a u q _:=by rw[ak (aC q e)];exact q
 fresh a z n:=by
  rcases aaP.mp z with z|z
  ·exact absurd z n
  ·rw[aat.mp z];exact e
theorem HR.new(r:HR B ρ h H)(e:H p=none)(q:OR B (ρ ++ [p]) (upd H p o) p u):HR B (ρ ++ [p]) (h++[u]) (upd H p o) where
 len:=by simp[r.len]
 nd:=by rw[nodup_append];refine⟨r.nd,by simp,λa ha b hb=>?_⟩;rw[aat.mp hb];rintro rfl;exact r.out e ha
 ob i v a q1 q2:=by
  by_cases hi:i<h.length
  ·rw[aas hi]at q1;rw[aas (by rw[r.len];exact hi)]at q2;refine OR.up (Gr.new e) (ak λz=>?_) (r.ob i v a q1 q2);subst z;exact r.out e (aaE q2)
  ·rw[aaD (by omega)]at q1
   rw[aaD (by rw[r.len];omega)]at q2;have hi0:i-h.length=0:=by have:=(aag.mp q1).1;simp at this;omega
   rw[hi0]at q1;rw[r.len,hi0]at q2;simp at q1 q2;subst q1;subst q2;exact q
 tab:=r.tab.upd λu z=>by rw[e]at z;cases z
theorem BU(r:HR B ρ h H):VR K (ρ ++ [p]) H' (.ref h.length) (.ref p):=VR.ref (by rw[<-r.len];simp)
theorem MD{α:Type}:∀{l:List α} {i j:Nat} {a:α},l.Nodup->l[i]?=some a->l[j]?=some a->i=j
 |[],i,j,a,_,e,_=>by simp at e
 |b::l,0,0,a,_,_,_=>rfl
 | b::l,0,j+1,a,n,e,f=>by
  simp at e f;subst e;exact absurd (aaE f) (nodup_cons.mp n).1
 | b::l,i+1,0,a,n,e,f=>by
  simp at e f;subst f;exact absurd (aaE e) (nodup_cons.mp n).1
 | b::l,i+1,j+1,a,n,e,f=>by
  simp at e f;rw[MD (nodup_cons.mp n).2 e f]
theorem Gr.put(hp:p ∈ ρ)(e:H p=some u)(hm:Mu u=true)(ht:∀ps,u≠.tbl ps):Gr ρ H ρ (upd H p o) where
 pre:=aaC _
 keep a w q _ n:=by rw[ak λz=>n (by rw[z];exact hp)];exact q
 tbls a ps q:=⟨ps,by rw[ak λz=>ht ps (by rw[z,e]at q;exact aaG q)];exact q⟩
 firm a w q n:=by
  have:a≠p:=λz=>by subst z;rw[e]at q;cases q;rw[hm]at n;cases n
  rw[ak this];exact q
 fresh a z n:=absurd z n
theorem HR.put{i:Nat}(r:HR B ρ h H)(hi:ρ[i]?=some p)(e:h[i]?=some w)(q:OR B ρ (upd H p o) p u):HR B ρ (h.set i u) (upd H p o) where
 len:=by simp[r.len]
 nd:=r.nd
 ob j v a q1 q2:=by
  obtain⟨z,k1,k2,k3⟩:=(r.ob i w p e hi).mu
  by_cases hj:j=i
  ·subst hj;rw[hi]at q2;cases q2;have hlt:j<h.length:=(aag.mp e).1;rw[aar hlt]at q1;cases q1;exact q
  ·rw[aah (λz=>hj z.symm)]at q1;refine OR.up (Gr.put (aaE hi) k1 k2 k3) (ak λz=>?_) (r.ob j v a q1 q2);subst z;exact hj (MD r.nd q2 hi)
 tab:=by obtain⟨z,k1,k2,k3⟩:=(r.ob i w p e hi).mu;exact r.tab.upd λv q=>by rw[k1]at q;cases q;exact⟨k3,λφ q=>by rw[q]at k2;cases k2⟩
theorem gI(r:HR B ρ h H)(q:VR B.K ρ H v x)(e:aJ h v=some xs):∃a ys,x=.ref a/\gR B.K H a ys/\aI B.K ρ H xs ys:=by
 cases v with
 |rl vs=>simp only[aJ]at e;cases e;rw[VR]at q;obtain⟨a,ys,rfl,k1,k2⟩:=q;exact⟨a,ys,rfl,k1.sq,k2⟩
 |ref i=>
  simp only[aJ]at e;split at e
  ·rename_i zs e1;cases e;rw[VR]at q;obtain⟨a,rfl,k1⟩:=q;obtain⟨ys,k2,k3⟩:=r.ob i _ a e1 k1;exact⟨a,ys,rfl,.inl (.inl k2),k3⟩
  ·cases e
 |_=>cases e
theorem qR{i:Nat}(r:HR B ρ h H)(q:VR B.K ρ H (.ref i) x)(e:h[i]?=some (.lst xs)):∃a ys,x=.ref a /\ ρ[i]?=some a/\H a=some (.lst ys)/\aI B.K ρ H xs ys:=by
 rw[VR]at q;obtain⟨a,rfl,k1⟩:=q;obtain⟨ys,k2,k3⟩:=r.ob i _ a e k1;exact⟨a,ys,rfl,k1,k2,k3⟩
theorem AJ(r:HR B ρ h H)(q:VR B.K ρ H v x)(e:cN h v=some xs):∃a ys,x=.ref a/\(gR B.K H a ys\/kO B.K H a ys)/\aI B.K ρ H xs ys:=by
 cases v with
 |tup vs=>simp only[cN]at e;cases e;rw[VR]at q;obtain⟨a,ys,rfl,k1,k2⟩:=q;exact⟨a,ys,rfl,.inr k1,k2⟩
 |rl vs=>obtain⟨a,ys,e1,k1,k2⟩:=gI r q (show aJ h (.rl vs)=some xs from e);exact⟨a,ys,e1,.inl k1,k2⟩
 |ref vs=>obtain⟨a,ys,e1,k1,k2⟩:=gI r q (show aJ h (.ref vs)=some xs from e);exact⟨a,ys,e1,.inl k1,k2⟩
 |_=>cases e
theorem o7(r:HR B ρ h H):∀(n:Nat) (v:Val) (x:V) (d:PyData),VR B.K ρ H v x->toD n h v=some d->Den B.K H d x/\d.canLay0=true/\d.depth<=n:=by
 intro n
 induction n with
 |zero=>intro v x d _ e;simp only[toD]at e;cases e
 |succ n ih=>
  have all:∀(vs:List Val) (xs:List V) (ds:List PyData),aI B.K ρ H vs xs->cD (toD n h) vs=some ds->ff B.K H ds xs/\PyData.canLayAll0 ds=true/\PyData.depthAll ds<=n:=by
   intro vs
   induction vs with
   |nil=>intro xs ds q e;simp only[cD]at e;cases e;rw[aI]at q;subst q;exact⟨ff.nil,rfl,by simp[PyData.depthAll]⟩
   |cons v vs Z7=>intro xs ds q e;simp only[cD]at e;obtain⟨d,e1,e⟩:=aad.mp e;obtain⟨ds',e2,e⟩:=aad.mp e;cases e;rw[aI]at q;obtain⟨x,r,rfl,q1,q2⟩:=q;obtain⟨a1,a2,a3⟩:=ih v x d q1 e1;obtain⟨b1,b2,b3⟩:=Z7 r ds' q2 e2;refine⟨ff.cons a1 b1,by simp[PyData.canLayAll0,a2,b2],?_⟩;simp only[PyData.depthAll];omega
  intro v x d q e;cases v with
  |non=>simp only[toD]at e;cases e;rw[VR]at q;subst q;exact⟨Den.none,rfl,by simp[PyData.depth]⟩
  |bl b=>simp only[toD]at e;cases e;rw[VR]at q;subst q;exact⟨Den.bool,rfl,by simp[PyData.depth]⟩
  |int b=>simp only[toD]at e;cases e;rw[VR]at q;subst q;exact⟨Den.int,rfl,by simp[PyData.depth]⟩
  |str b=>
   simp only[toD]at e;split at e
   ·rename_i hs;cases e;rw[VR]at q;subst q;exact⟨Den.str,by simp[PyData.canLay0,hs],by simp[PyData.depth]⟩
   ·cases e
  |tup vs=>simp only[toD]at e;obtain⟨ds,e1,e⟩:=aad.mp e;cases e;rw[VR]at q;obtain⟨a,xs,rfl,q1,q2⟩:=q;obtain⟨b1,b2,b3⟩:=all vs xs ds q2 e1;exact⟨Den.tuple q1 b1,by simp[PyData.canLay0,b2],by simp only[PyData.depth];omega⟩
  |rl vs=>simp only[toD]at e;obtain⟨ds,e1,e⟩:=aad.mp e;cases e;rw[VR]at q;obtain⟨a,xs,rfl,q1,q2⟩:=q;obtain⟨b1,b2,b3⟩:=all vs xs ds q2 e1;exact⟨Den.list q1.sq b1,by simp[PyData.canLay0,b2],by simp only[PyData.depth];omega⟩
  |dc _ _=>rw[VR]at q;exact q.elim
  |ob _ _ _=>rw[VR]at q;exact q.elim
  |clo _=>simp[toD]at e
  |ref i=>simp only[toD]at e;obtain⟨vs,e0,e⟩:=aad.mp e;obtain⟨ds,e1,e⟩:=aad.mp e;cases e;obtain⟨a,xs,rfl,q1,q2⟩:=gI r q e0;obtain⟨b1,b2,b3⟩:=all vs xs ds q2 e1;exact⟨Den.list q1 b1,by simp[PyData.canLay0,b2],by simp only[PyData.depth];omega⟩
end
theorem o8(x:List Int):∀l,(wj x l).Perm (x::l)
 |[]=>.refl _
 | y::r=>by
  unfold wj;split
  ·exact((o8 x r).cons y).trans (.swap _ _ _)
  ·exact .refl _
theorem r9:∀l,(nY l).Perm l
 |[]=>.refl _
 |x::r=>(o8 x _).trans ((r9 r).cons x)
theorem yk{a b c:List Int}(h1:HT.lexLt b a=false)(h2:HT.lexLt c b=false):HT.lexLt c a=false:=by
 cases e:HT.lexLt c a with
 |false=>rfl
 |true=>
  rcases uK.uN c b a e with z|z
  ·rw[h2]at z;cases z
  ·rw[h1]at z;cases z
theorem yl{a b:List Int}(h:HT.lexLt a b=true):HT.lexLt b a=false:=by
 cases e:HT.lexLt b a with
 |false=>rfl
 |true=>have:=uK.jc _ _ _ h e;rw[uK.jU]at this;cases this
theorem BV(x:List Int):∀l:List (List Int),l.Pairwise (λa b=>HT.lexLt b a=false)->(wj x l).Pairwise (λa b=>HT.lexLt b a=false)
 |[],_=>by simp[wj]
 | y::r,h=>by
  obtain⟨h1,h2⟩:=aaW.mp h;unfold wj
  split
  ·rename_i hlt
   refine aaW.mpr ⟨λz hz=>?_,BV x r h2⟩
   rcases aaA.mp ((o8 x r).mem_iff.mp hz) with rfl|hz
   ·exact yl hlt
   ·exact h1 z hz
  ·rename_i hlt
   refine aaW.mpr ⟨λz hz=>?_,h⟩;have hxy:HT.lexLt y x=false:=by simpa using hlt
   rcases aaA.mp hz with rfl|hz
   ·exact hxy
   ·exact yk hxy (h1 z hz)
theorem ym:∀l,(nY l).Pairwise (λa b=>HT.lexLt b a=false)
 |[]=>.nil
 |x::r=>BV x _ (ym r)
theorem FN(hp:l.Perm qP)(hs:l.Pairwise (λa b=>HT.lexLt b a=false)):l=nY qP :=
 List.Perm.eq_of_pairwise (λa b _ _ h1 h2=>uK.jb a b h2 h1) hs (ym qP) (hp.trans (r9 qP).symm)
theorem Dz{ns:List Int}{m:Int}(h:m∈ns)(h2:∀a∈ns,m<=a):uc ns=some (.int m):=by
 cases ns with
 |nil=>cases h
 |cons a r=>
  have key:∀(r:List Int) (a:Int),(r.foldl min a)∈a::r/\∀b∈a::r,r.foldl min a<=b:=by
   intro r
   induction r with
   |nil=>intro a;simp
   |cons c r ih=>
    intro a;obtain⟨q1,q2⟩:=ih (min a c);refine⟨?_,λb hb=>?_⟩
    ·show List.foldl min (min a c) r∈_
     rcases aaA.mp q1 with z|z
     ·rw[z]
      rcases Int.le_total a c with hc|hc
      ·rw[Int.min_eq_left hc];exact aal
      ·rw[Int.min_eq_right hc];exact aak _ aal
     ·exact aak _ (aak _ z)
    ·show List.foldl min (min a c) r<=b
     have q3:=q2 (min a c) aal
     rcases aaA.mp hb with z|z
     ·subst z;omega
     ·rcases aaA.mp z with z|z
      ·subst z;omega
      ·exact q2 b (aak _ z)
  obtain⟨q1,q2⟩:=key r a;show some (Val.int (r.foldl min a))=_;rw[Int.le_antisymm (q2 m h) (h2 _ q1)]
theorem DA{ns:List Int}{m:Int}(h:m∈ns)(h2:∀a∈ns,a<=m):wm ns=some (.int m):=by
 cases ns with
 |nil=>cases h
 |cons a r=>
  have key:∀(r:List Int) (a:Int),(r.foldl max a)∈a::r/\∀b∈a::r,b<=r.foldl max a:=by
   intro r
   induction r with
   |nil=>intro a;simp
   |cons c r ih=>
    intro a;obtain⟨q1,q2⟩:=ih (max a c);refine⟨?_,λb hb=>?_⟩
    ·show List.foldl max (max a c) r∈_
     rcases aaA.mp q1 with z|z
     ·rw[z]
      rcases Int.le_total a c with hc|hc
      ·rw[Int.max_eq_right hc];exact aak _ aal
      ·rw[Int.max_eq_left hc];exact aal
     ·exact aak _ (aak _ z)
    ·show b<=List.foldl max (max a c) r
     have q3:=q2 (max a c) aal
     rcases aaA.mp hb with z|z
     ·subst z;omega
     ·rcases aaA.mp z with z|z
      ·subst z;omega
      ·exact q2 b (aak _ z)
  obtain⟨q1,q2⟩:=key r a;show some (Val.int (r.foldl max a))=_;rw[Int.le_antisymm (h2 _ q1) (q2 m h)]
def Post(B:Bd)(EX:Nat->List V->Hp->Prop)(ρ:List Addr)(H:Hp){α:Type}(W:α -> Hs->List Addr->Hp->Prop):Out α -> Prop
 |.ok a h'=>∀ρ' H',Gr ρ H ρ' H'->HR B ρ' h' H'->W a h' ρ' H'
 |.exc c vs h'=>∀ρ' H' xs,Gr ρ H ρ' H'->HR B ρ' h' H'->aI B.K ρ' H' vs xs->EX c xs H'
 |.no=>False
def WV(K:Frag)(Q:VK):Val->Hs->List Addr->Hp->Prop:=λv _ ρ' H'=>∀x,VR K ρ' H' v x->Q x H'
section
variable {B:Bd} {EX:Nat->List V->Hp->Prop} {ρ ρ':List Addr} {H H':Hp} {α β:Type} {W:β -> Hs->List Addr->Hp->Prop} {h h':Hs} {Q:VK}
theorem Post.up(g:Gr ρ H ρ' H')(p:Post B EX ρ H W o):Post B EX ρ' H' W o:=by
 cases o with
 |ok a h'=>exact λρ2 H2 g2 r=>p ρ2 H2 (g.trans g2) r
 |exc c vs h'=>exact λρ2 H2 xs g2 r=>p ρ2 H2 xs (g.trans g2) r
 |no=>exact p
theorem bu{c:Bool}(p:Post B EX ρ H W (aQ c m h)):c=true/\Post B EX ρ H W (m h):=by
 unfold aQ at p;split at p
 ·rename_i e;exact⟨e,p⟩
 ·exact p.elim
theorem aH(p:Post B EX ρ H W (bnd (ask f) g h)):∃a,f h=some a/\Post B EX ρ H W (g a h):=by
 unfold bnd ask bH at p;cases e:f h with
 |none=>rw[e]at p;exact p.elim
 |some a=>rw[e]at p;exact⟨a,rfl,p⟩
theorem dG(r:HR B ρ h H)(p:Post B EX ρ H W (ask f h)):∃a,f h=some a/\W a h ρ H:=by
 unfold ask bH at p;cases e:f h with
 |none=>rw[e]at p;exact p.elim
 |some a=>rw[e]at p;exact⟨a,rfl,p ρ H Gr.refl r⟩
theorem cO(p:Post B EX ρ H W (bnd (bH o) g h)):∃a,o=some a/\Post B EX ρ H W (g a h):=by
 unfold bnd bH at p;cases e:o with
 |none=>rw[e]at p;exact p.elim
 |some a=>rw[e]at p;exact⟨a,rfl,p⟩
theorem cT(r:HR B ρ h H)(p:Post B EX ρ H W (bH o h)):∃a,o=some a/\W a h ρ H:=by
 unfold bH at p;cases e:o with
 |none=>rw[e]at p;exact p.elim
 |some a=>rw[e]at p;exact⟨a,rfl,p ρ H Gr.refl r⟩
theorem ao(r:HR B ρ h H)(p:Post B EX ρ H W (ret a h)):W a h ρ H:=p ρ H Gr.refl r
theorem yo(r:HR B ρ h H)(hp:H p=none)(q:OR B (ρ ++ [p]) (upd H p O) p o)(w:Post B EX ρ H (WV B.K Q) (new o h)):Q (.ref p) (upd H p O) :=
 w (ρ ++ [p]) (upd H p O) (Gr.new hp) (r.new hp q) _ (BU r)
theorem eW(r:HR B ρ h H)(hp:H p=none)(q:aI B.K ρ H xs ys)(w:Post B EX ρ H (WV B.K Q) (new (.lst xs) h)):Q (.ref p) (upd H p (.lst ys)) :=
 yo (o:=.lst xs) (O:=.lst ys) r hp ⟨ys,aD,aI.up (Gr.new hp) _ _ q⟩ w
theorem yq(r:HR B ρ h H)(hp:H p=none)(q:aI B.K ρ H xs ys)(w:Post B EX ρ H (WV B.K Q) (ret (Val.tup xs) h)):Q (.ref p) (upd H p (.tup ys)) :=
 w ρ (upd H p (.tup ys)) (Gr.side hp) (r.side hp) _ (VR.tup (kO.of aD) (aI.up (Gr.side hp) _ _ q))
theorem aF(p:Post B EX ρ H W (bnd m f h))(k:∀v h1 ρ1 x H1,Gr ρ H ρ1 H1->HR B ρ1 h1 H1->VR B.K ρ1 H1 v x->Post B EX ρ1 H1 W (f v h1)->Q x H1):Post B EX ρ H (WV B.K Q) (m h):=by
 unfold bnd at p;cases e:m h with
 |ok v h1=>rw[e]at p;exact λρ1 H1 g r x q=>k v h1 ρ1 x H1 g r q (Post.up g p)
 |exc c vs h1=>rw[e]at p;exact p
 |no=>rw[e]at p;exact p
theorem bA(p:Post B EX ρ H W (bnd m f h))(k:∀v h1 ρ1 H1,Gr ρ H ρ1 H1->HR B ρ1 h1 H1->Post B EX ρ1 H1 W (f v h1)->W' v h1 ρ1 H1):Post B EX ρ H W' (m h):=by
 unfold bnd at p;cases e:m h with
 |ok v h1=>rw[e]at p;exact λρ1 H1 g r=>k v h1 ρ1 H1 g r (Post.up g p)
 |exc c vs h1=>rw[e]at p;exact p
 |no=>rw[e]at p;exact p
end
theorem gS:∀{ds:List Val} {ns:List Int},bB ds=some ns->ds=ns.map .int
 |[],ns,e=>by simp only[bB,cD]at e;cases e;rfl
 | v::r,ns,e=>by
  simp only[bB,cD]at e;obtain⟨i,e1,e⟩:=aad.mp e;obtain⟨is,e2,e⟩:=aad.mp e;cases e;cases v<;>first|cases e1|skip
  rw[gS (show bB r=some is from e2)];rfl
theorem se:∀{ds:List Val} {ns:List Bool},fu ds=some ns->ds=ns.map .bl
 |[],ns,e=>by simp only[fu,cD]at e;cases e;rfl
 | v::r,ns,e=>by
  simp only[fu,cD]at e;obtain⟨i,e1,e⟩:=aad.mp e;obtain⟨is,e2,e⟩:=aad.mp e;cases e;cases v<;>first|cases e1|skip
  rw[se (show fu r=some is from e2)];rfl
theorem u5:∀{ds:List Val} {qP:List (List Int)},mQ ds=some qP->ds=qP.map mZ/\∀ks∈qP,ks≠[]
 |[],ns,e=>by simp only[mQ,cD]at e;cases e;exact⟨rfl,λ_ z=>nomatch z⟩
 | v::r,ns,e=>by
  simp only[mQ,cD]at e;obtain⟨i,e1,e⟩:=aad.mp e;obtain⟨is,e2,e⟩:=aad.mp e;cases e;cases v<;>first|cases e1|skip
  rename_i vs;dsimp only at e1;split at e1
  ·cases e1
  ·rename_i hne
   obtain⟨q1,q2⟩:=u5 (show mQ r=some is from e2);have e3:=gS e1;subst e3;refine⟨by rw[q1];rfl,λks hk=>?_⟩
   rcases aaA.mp hk with z|z
   ·subst z;intro z;subst z;exact hne rfl
   ·exact q2 ks z
section
variable {X:Cx} {cl:Nat->Addr} {EX:Nat->List V->Hp->Prop}
abbrev bd(X:Cx)(cl:Nat->Addr):Bd:=⟨X.K,cl⟩
theorem Ks:qO X (binaryOp .Add) (λx y H Q=>∃a b xs ys,x=.ref a/\y=.ref b/\gR X.K H a xs/\gR X.K H b ys/\xs.length+ys.length<=sizeLine/\∀p,H p=none->Q (.ref p) (upd H p (.lst (xs++ys)))):=by
 intro pins s σ H x y v u Q I rx ry h;obtain⟨l,l',xs,ys,rfl,rfl,q1,q3,hl,q⟩:=h;cases rx;cases ry;obtain⟨its,r1,Z8,z1⟩:=I.list q1;obtain⟨its',r2,Z9,z2⟩:=I.list q3;have l1:=r1.length;have l2:=r2.length;obtain⟨⟨oc,od,ZV,osl⟩,n1,e1,e2,_,e4⟩:=Z8;obtain⟨⟨oc',od',aaa,WS⟩,n2,f1,f2,_,f4⟩:=Z9;cases e2;cases e4;cases f2;cases f4;refine concat_meets ⟨_,e1,rfl⟩ ⟨_,f1,rfl⟩ noFill_list_add seq_list_add PySem.F.slot_list_add PySem.F.entry_list_add (PySem.F.args_list_add_2 _ _) (list_addW l l' its.toArray its'.toArray n1 n2 od od' osl WS (by simp only[size_toArray];omega)) ⟨e1,f1,?_⟩;have ea:its.toArray++its'.toArray=(its++its').toArray:=by simp
 rw[ea];have hn:H s.heap.objs.size=none:=I.hok.fresh (aao _);exact⟨.ref s.heap.objs.size,_,I.Wn (t':=s.toks) (its:=its++its') (r1.append r2) (by rw[aaw];omega),rfl,q _ hn⟩
def FO:Mz->Operator
 |.add=>.Add|.sub=>.Sub|.mul=>.Mult|.fdiv=>.FloorDiv|.mod=>.Mod|.pow=>.Pow
def BW:MA->CmpOp
 |.eq=>.Eq|.ne=>.NotEq|.lt=>.Lt|.le=>.LtE|.gt=>.Gt|.ge=>.GtE|.isn=>.Is|.ntn=>.IsNot|.AG=>.In|.nin=>.NotIn
def rB(B:Bd)(EX:Nat->List V->Hp->Prop)(o:Mz):R2:=λx y H Q=>∃ρ h v w,HR B ρ h H/\VR B.K ρ H v x/\VR B.K ρ H w y/\Post B EX ρ H (WV B.K Q) (Rx o v w h)
theorem dP.log{j:Int}(h:dP j=true):0<j/\j.natAbs.log2<9000:=by
 have h:=aay h;refine⟨h.1,(Nat.log2_lt (by omega)).mpr ?_⟩;have e:j.natAbs<2 ^ 200:=by
  have:(2:Nat) ^ 200=1606938044258990275541962092341162602522202993782792835301376:=by decide
  omega
 exact aaq e (Nat.pow_le_pow_right (by decide) (by decide))
theorem FP:qO X (binaryOp .FloorDiv) (rI (λ_ j=>dP j=true) λi j=>.int (i/j)):=Vq λi j _ _ _ _ _ hc q=>by
 obtain⟨h1,h2⟩:=dP.log hc;exact PyProof.Rows.floordiv_int (by omega) (by rw[Int.fdiv_eq_ediv_of_nonneg i (by omega)];exact q) (.inl (PyProof.noPylong_of_log2 h2))
theorem sf(ho:o≠.add)(v w:Val)(h:Hs):(∃i j,v=.int i/\w=.int j)\/Rx o v w h=.no:=by
 cases v with
 |int i=>
  cases w with
  |int j=>exact .inl ⟨i,j,rfl,rfl⟩
  |_=>right;cases o<;>first|rfl|exact absurd rfl ho
 |_=>right;cases o<;>first|rfl|exact absurd rfl ho
theorem N9(o:Mz):qO X (binaryOp (FO o)) (rB (bd X cl) EX o):=by
 intro pins s σ H x y v' u' Q I rx ry hh;obtain⟨ρ,h,v,w,r,hv,hw,p⟩:=hh;have lists:Post (bd X cl) EX ρ H (WV X.K Q) (bnd (ask λh=>aJ h v) (λa=>bnd (ask λh=>aJ h w) λb=>aQ (decide (a.length+b.length<=sizeLine)) (new (.lst (a++b)))) h)->wpAny (model X.prog X.w) X.A (binaryOp .Add v' u') (EP X pins σ Q) X.xe s:=by intro p;obtain⟨a,e1,p⟩:=aH p;obtain⟨b,e2,p⟩:=aH p;obtain⟨e3,p⟩:=bu p;have e3:=aay e3;obtain⟨a1,WU,rfl,k1,k2⟩:=gI r hv e1;obtain⟨a2,ys2,rfl,k3,k4⟩:=gI r hw e2;exact Ks pins s σ H _ _ v' u' Q I rx ry ⟨a1,a2,WU,ys2,rfl,rfl,k1,k3,by rw[<-k2.length,<-k4.length];exact e3,λq hq=>eW r hq (aI.append k2 k4) p⟩
 cases o with
 |add=>
  cases v<;>cases w<;>first
   |exact lists p
   |skip
  ·rename_i a b;rw[VR]at hv hw;subst hv;subst hw;exact Nr pins s σ H _ _ _ _ Q I rx ry ⟨a,b,rfl,rfl,ao r p _ VR.int⟩
 |sub=>
  rcases sf (o:=.sub) (by intro z;cases z) v w h with ⟨i,j,rfl,rfl⟩|z
  case inr=>rw[z]at p;exact p.elim
  rw[VR]at hv hw;subst hv;subst hw;exact Nt pins s σ H _ _ _ _ Q I rx ry ⟨_,_,rfl,rfl,ao r p _ VR.int⟩
 |mul=>
  rcases sf (o:=.mul) (by intro z;cases z) v w h with ⟨i,j,rfl,rfl⟩|z
  case inr=>rw[z]at p;exact p.elim
  rw[VR]at hv hw;subst hv;subst hw;obtain⟨hm,p⟩:=bu p;refine Nu pins s σ H _ _ _ _ Q I rx ry ⟨_,_,rfl,rfl,?_,ao r p _ VR.int⟩;unfold kX at hm;simp only[or_eq_true,and_eq_true,decide_eq_true_eq]at hm;exact hm
 |fdiv=>
  rcases sf (o:=.fdiv) (by intro z;cases z) v w h with ⟨i,j,rfl,rfl⟩|z
  case inr=>rw[z]at p;exact p.elim
  rw[VR]at hv hw;subst hv;subst hw;obtain⟨hm,p⟩:=bu p;exact FP pins s σ H _ _ _ _ Q I rx ry ⟨_,_,rfl,rfl,hm,ao r p _ VR.int⟩
 |mod=>
  rcases sf (o:=.mod) (by intro z;cases z) v w h with ⟨i,j,rfl,rfl⟩|z
  case inr=>rw[z]at p;exact p.elim
  rw[VR]at hv hw;subst hv;subst hw;obtain⟨hm,p⟩:=bu p;exact Nv pins s σ H _ _ _ _ Q I rx ry ⟨_,_,rfl,rfl,aay hm,ao r p _ VR.int⟩
 |pow=>
  rcases sf (o:=.pow) (by intro z;cases z) v w h with ⟨i,j,rfl,rfl⟩|z
  case inr=>rw[z]at p;exact p.elim
  rw[VR]at hv hw;subst hv;subst hw;obtain⟨hm,p⟩:=bu p;have hm:=aay hm;exact Nx pins s σ H _ _ _ _ Q I rx ry ⟨_,_,rfl,rfl,hm,ao r p _ VR.int⟩
end
section
variable {X:Cx} {cl:Nat->Addr} {EX:Nat->List V->Hp->Prop}
theorem yr{b:Bool}(e:AI h v w=some b):∃d f,toD 16 h v=some d/\toD 16 h w=some f/\b=PyData.eqv d f:=by
 unfold AI at e;obtain⟨d,e1,e⟩:=aad.mp e;obtain⟨f,e2,e⟩:=aad.mp e;exact⟨d,f,e1,e2,(aaG e).symm⟩
theorem BX{K:Frag}{ρ:List Addr}{H:Hp}{v:Val}{x:V}(q:VR K ρ H v x):decide (x=.non)=ki v:=by
 cases v<;>rw[VR]at q
 ·subst q;rfl
 ·subst q;rfl
 ·subst q;rfl
 ·subst q;rfl
 ·obtain⟨a,xs,rfl,_⟩:=q;rfl
 ·obtain⟨a,xs,rfl,_⟩:=q;rfl
 ·exact q.elim
 ·exact q.elim
 ·obtain⟨f,cc,c1,a,doc,pm,ct,oc,rfl,_⟩:=q;rfl
 ·obtain⟨a,rfl,_⟩:=q;rfl
theorem Oa(hu:X.A.units+64<cLine)(neg:Bool):qO X (compareOp (if neg=true then .NotIn else .In)) (λx y H Q=>∃d f ds,Den X.K H d x/\Den X.K H f y/\d.canLay0=true/\f.canLay0=true/\d.depth<=16/\(f=.list ds\/f=.tuple ds)/\Q (.bl (if neg=true then !(ds.any λy=>PyData.eqv y d) else ds.any λy=>PyData.eqv y d)) H):=by
 intro pins s σ H x y v u Q I rx ry hh;obtain⟨d,f,ds,hd,hf,c1,c2,hz,e,q⟩:=hh;obtain⟨as,ra⟩:=Den.reads I d x v c1 hd rx;obtain⟨bs,rb⟩:=Den.reads I f y u c2 hf ry;have Vy:X.A.units+1+min (PyData.depthAll ds) d.depth<cLine:=by have:=Nat.min_le_right (PyData.depthAll ds) d.depth;omega
 rcases e with rfl|rfl
 ·have c3:PyData.canLayAll0 ds=true:=by simpa [PyData.canLay0] using c2
  cases neg with
  |true=>exact SeqAt.notIn_list_reads rb ra c3 c1 Vy ⟨.bl _,H,I,rfl,q⟩
  |false=>exact SeqAt.in_list_reads rb ra c3 c1 Vy ⟨.bl _,H,I,rfl,q⟩
 ·have c3:PyData.canLayAll0 ds=true:=by simpa [PyData.canLay0] using c2
  cases neg with
  |true=>exact SeqAt.notIn_tuple_reads rb ra c3 c1 Vy ⟨.bl _,H,I,rfl,q⟩
  |false=>exact SeqAt.in_tuple_reads rb ra c3 c1 Vy ⟨.bl _,H,I,rfl,q⟩
theorem je.val{K:Frag}{ρ:List Addr}{H:Hp}(k:Key):∀{kvs:List (Key×Val)} {ks:List (Key×V)},je K ρ H kvs ks->(dF kvs k=none->jS ks k=none)/\∀v,dF kvs k=some v->∃x,jS ks k=some x/\VR K ρ H v x
 | [],ks,e=>by
  have:ks=[]:=e;subst this;exact⟨λ_=>rfl,λv z=>by simp[dF]at z⟩
 | (k',v')::kvs,ks,⟨x,r,e,q1,q2⟩=>by
  subst e;obtain⟨a,b⟩:=je.val k q2
  by_cases hk:k'=k
  ·subst hk;refine⟨λz=>by simp[dF]at z,λv z=>⟨x,by simp[jS],?_⟩⟩;simp[dF]at z;subst z;exact q1
  ·have e1:dF ((k',v')::kvs) k=dF kvs k:=by simp[dF,hk]
   have e2:jS ((k',x)::r) k=jS r k:=by simp[jS,hk]
   rw[e1,e2];exact⟨a,b⟩
theorem je.length{K:Frag}{ρ:List Addr}{H:Hp}:∀{kvs:List (Key×Val)} {ks:List (Key×V)},je K ρ H kvs ks->kvs.length=ks.length
 |[],ks,e=>by have:ks=[]:=e;subst this;rfl
 |(k',v')::kvs,ks,⟨x,r,e,q1,q2⟩=>by subst e;simp[je.length q2]
theorem je.any{K:Frag}{ρ:List Addr}{H:Hp}(k:Key):∀{kvs:List (Key×Val)} {ks:List (Key×V)},je K ρ H kvs ks->(kvs.any λkv=>decide (kv.1=k))=(ks.any λkv=>decide (kv.1=k))
 |[],ks,e=>by have:ks=[]:=e;subst this;rfl
 |(k',v')::kvs,ks,⟨x,r,e,q1,q2⟩=>by subst e;simp only[any_cons];rw[je.any k q2]
theorem je.repl{K:Frag}{ρ:List Addr}{H:Hp}(k:Key){v:Val}{y:V}(q:VR K ρ H v y):∀{kvs:List (Key×Val)} {ks:List (Key×V)},je K ρ H kvs ks->je K ρ H (kvs.map λkv=>if kv.1=k then (kv.1,v) else kv) (ks.map λkv=>if kv.1=k then (kv.1,y) else kv)
 |[],ks,e=>by have:ks=[]:=e;subst this;rfl
 | (k',v')::kvs,ks,⟨x,r,e,q1,q2⟩=>by
  subst e;simp only[map_cons]
  by_cases hk:k'=k
  ·rw[aaj hk,aaj hk];exact⟨y,_,rfl,q,je.repl k q q2⟩
  ·rw[aam hk,aam hk];exact⟨x,_,rfl,q1,je.repl k q q2⟩
theorem je.snoc{K:Frag}{ρ:List Addr}{H:Hp}(k:Key){v:Val}{y:V}(q:VR K ρ H v y):∀{kvs:List (Key×Val)} {ks:List (Key×V)},je K ρ H kvs ks->je K ρ H (kvs++[(k,v)]) (ks++[(k,y)])
 |[],ks,e=>by have:ks=[]:=e;subst this;exact⟨y,[],rfl,q,rfl⟩
 |(k',v')::kvs,ks,⟨x,r,e,q1,q2⟩=>by subst e;exact⟨x,_,rfl,q1,je.snoc k q q2⟩
theorem je.put{K:Frag}{ρ:List Addr}{H:Hp}(k:Key){v:Val}{y:V}(q:VR K ρ H v y){kvs:List (Key×Val)}{ks:List (Key×V)}(e:je K ρ H kvs ks):je K ρ H (mH kvs k v) (putK ks k y):=by
 unfold mH putK;rw[je.any k e]
 split
 ·exact je.repl k q e
 ·exact je.snoc k q e
theorem Oc{K:Frag}{ρ:List Addr}{H:Hp}{v:Val}{x:V}{k:Key}(q:VR K ρ H v x)(e:keyOf v=some k):x=kV k:=by
 cases v<;>simp only[keyOf]at e<;>first|cases e|skip
 ·rw[VR]at q;exact q
 ·rw[VR]at q;exact q
theorem Ku(hu:X.A.units+64<cLine):Sj X (λx y H Q=>∃a v,x=.ref a/\tY H a y (some v)/\Q v H):=by
 intro value slice pins s σ H x y v u Q I rx ry h hs;obtain⟨a,z,rfl,g,q⟩:=h;cases rx;have hT:=xP I g;unfold subscriptTail;refine aab ?_;rw[getitemInPython_of_ne hT.not_modules];refine aab (wpAny_specialOf hT PySem.F.slot_dict_getitem.lookup ?_);have fin:wpAny (model X.prog X.w) X.A (subscripted slice false (.ref a) u) (λr s₃=>wpAny (model X.prog X.w) X.A (letTemporaryGo value (.ref a) r >>= λ_=>pure r) (EP X pins σ Q) X.xe s₃) X.xe s:=by rw[hs];exact wpAny_operating (C9 (by omega) I g ry λw' s' I' r'=>aab (wpAny_letTemporaryGo (aai ⟨z,H,I',r',q⟩)))
 first
  |exact aai (aab fin)
  |exact aab (aai (aab fin))
  |exact aab fin
def rC(B:Bd)(o:MA):R2:=λx y H Q=>∃ρ h v w b,HR B ρ h H/\VR B.K ρ H v x/\VR B.K ρ H w y/\cop h o v w=some b/\Q (.bl b) H
theorem FQ{b:Bool}(e:memD h v w=some b):∃d f ds,toD 16 h v=some d/\toD 16 h w=some f/\(f=.list ds\/f=.tuple ds)/\b=ds.any λy=>PyData.eqv y d:=by
 unfold memD at e;obtain⟨f,e1,e⟩:=aad.mp e;obtain⟨d,e2,e⟩:=aad.mp e;cases f<;>simp only[SJ]at e<;>first|cases e|skip
 ·exact⟨d,_,_,e2,e1,.inl rfl,rfl⟩
 ·exact⟨d,_,_,e2,e1,.inr rfl,rfl⟩
theorem FT(hu:X.A.units+64<cLine)(o:MA):qO X (compareOp (BW o)) (rC (bd X cl) o):=by
 intro pins s σ H x y v' u' Q I rx ry hh;obtain⟨ρ,h,v,w,b,r,hv,hw,e,q⟩:=hh;have mem:∀(neg:Bool),yf h v w=some (if neg=true then !b else b)->wpAny (model X.prog X.w) X.A (compareOp (if neg=true then .NotIn else .In) v' u') (EP X pins σ Q) X.xe s:=by
  intro neg e;obtain⟨d,f,ds,e1,e2,e3,eb⟩:=FQ e
  ·obtain⟨a1,a2,a3⟩:=o7 r 16 v x d hv e1
   obtain⟨b1,b2,b3⟩:=o7 r 16 w y f hw e2;refine Oa hu neg pins s σ H x y v' u' Q I rx ry ⟨d,f,ds,a1,b1,a2,b2,a3,e3,?_⟩;cases neg with
   |true=>rw[aaj rfl]at eb |-;rw[<-eb,Bool.not_not];exact q
   |false=>rw[aam aac]at eb |-;rw[<-eb];exact q
 cases o with
 |eq=>obtain⟨d,f,e1,e2,rfl⟩:=yr (show AI h v w=some b by exact e);obtain⟨a1,a2,a3⟩:=o7 r 16 v x d hv e1;obtain⟨b1,b2,b3⟩:=o7 r 16 w y f hw e2;exact NY hu pins s σ H x y v' u' Q I rx ry ⟨d,f,a1,b1,a2,b2,by omega,q⟩
 |ne=>have e':(AI h v w).map (!·)=some b:=e;obtain⟨c,e3,rfl⟩:=aaR.mp e';obtain⟨d,f,e1,e2,rfl⟩:=yr e3;obtain⟨a1,a2,a3⟩:=o7 r 16 v x d hv e1;obtain⟨b1,b2,b3⟩:=o7 r 16 w y f hw e2;exact NZ hu pins s σ H x y v' u' Q I rx ry ⟨d,f,a1,b1,a2,b2,by omega,q⟩
 |lt=>obtain⟨i,j,rfl,rfl⟩:=kZ (.inl rfl) e;cases e;rw[VR]at hv;rw[VR]at hw;subst hv;subst hw;exact R9 pins s σ H _ _ v' u' Q I rx ry ⟨_,_,rfl,rfl,q⟩
 |le=>obtain⟨i,j,rfl,rfl⟩:=kZ (.inr (.inl rfl)) e;cases e;rw[VR]at hv;rw[VR]at hw;subst hv;subst hw;exact Sa pins s σ H _ _ v' u' Q I rx ry ⟨_,_,rfl,rfl,q⟩
 |gt=>obtain⟨i,j,rfl,rfl⟩:=kZ (.inr (.inr (.inl rfl))) e;cases e;rw[VR]at hv;rw[VR]at hw;subst hv;subst hw;exact Sb pins s σ H _ _ v' u' Q I rx ry ⟨_,_,rfl,rfl,q⟩
 |ge=>obtain⟨i,j,rfl,rfl⟩:=kZ (.inr (.inr (.inr rfl))) e;cases e;rw[VR]at hv;rw[VR]at hw;subst hv;subst hw;exact Sd pins s σ H _ _ v' u' Q I rx ry ⟨_,_,rfl,rfl,q⟩
 |isn=>
  have e:MB v w=some b:=e;cases w<;>first|(cases e;done)|skip
  ·cases e;rw[VR]at hw;subst hw;refine Ny pins s σ H x _ v' u' Q I rx ry ⟨rfl,?_⟩;rw[BX hv];exact q
 |ntn=>
  have e:(MB v w).map (!·)=some b:=e;cases w<;>first|(cases e;done)|skip
  ·cases e;rw[VR]at hw;subst hw;refine JY pins s σ H x _ v' u' Q I rx ry ⟨rfl,?_⟩;rw[BX hv];exact q
 |AG=>exact mem false (by rw[aam aac];exact e)
 |nin=>have e':(yf h v w).map (!·)=some b:=e;obtain⟨c,e3,rfl⟩:=aaR.mp e';exact mem true (by rw[e3];simp)
theorem Oe{b:Bool}(r:HR B ρ h H)(q:VR B.K ρ H v x)(e:ck h v=some b):Nz B.K x H b:=by
 cases v with
 |non=>rw[VR]at q;subst q;exact(aaG e).symm
 |bl c=>rw[VR]at q;subst q;exact(aaG e).symm
 |int i=>rw[VR]at q;subst q;exact(aaG e).symm
 |str z=>
  rw[VR]at q;subst q;simp only[ck]at e;split at e
  ·rename_i hl;exact⟨hl,(aaG e).symm⟩
  ·cases e
 |tup vs=>rw[VR]at q;obtain⟨a,xs,rfl,q1,q2⟩:=q;refine .inr (.inl ⟨xs,q1,?_⟩);rw[<-aaG e];have:=q2.length;cases vs<;>cases xs<;>simp_all
 |rl vs=>rw[VR]at q;obtain⟨a,xs,rfl,q1,q2⟩:=q;refine .inl ⟨xs,q1.sq,?_⟩;rw[<-aaG e];have:=q2.length;cases vs<;>cases xs<;>simp_all
 |dc _ _=>rw[VR]at q;exact q.elim
 |ob _ _ _=>rw[VR]at q;exact q.elim
 |clo _=>cases e
 |ref i=>
  rw[VR]at q;obtain⟨a,rfl,q1⟩:=q;simp only[ck]at e;split at e
  ·rename_i vs e1;obtain⟨xs,k1,k2⟩:=r.ob i _ a e1 q1;refine .inl ⟨xs,.inl (.inl k1),?_⟩;rw[<-aaG e];have:=k2.length;cases vs<;>cases xs<;>simp_all
  ·rename_i vs e1;obtain⟨xs,k1,k2⟩:=r.ob i _ a e1 q1;refine .inr (.inr ⟨xs,k1,?_⟩);rw[<-aaG e];have:=k2.length;cases vs<;>cases xs<;>simp_all
  ·cases e
def WW(B:Bd):R2:=λx y H Q=>∃ρ h v w z,HR B ρ h H/\VR B.K ρ H v x/\VR B.K ρ H w y/\jl h v w=some z/\∀u,VR B.K ρ H z u->Q u H
theorem Of(hu:X.A.units+64<cLine):Sj X (WW (bd X cl)):=by
 intro value slice pins s σ H x y v' u' Q I rx ry hh hs;obtain⟨ρ,h,v,w,z,r,hv,hw,e,q⟩:=hh;cases v with
 |tup vs=>
  cases w<;>first|cases e|skip
  rename_i i;rw[VR]at hv;rw[VR]at hw;subst hw;obtain⟨a,xs,rfl,q1,q2⟩:=hv;obtain⟨t,e2,q3⟩:=aI.kP q2 e;exact NK value slice pins s σ H _ _ v' u' Q I rx ry ⟨a,xs,i,t,rfl,rfl,q1,e2,q _ q3⟩ hs
 |rl vs=>
  cases w<;>first|cases e|skip
  rename_i i;rw[VR]at hv;rw[VR]at hw;subst hw;obtain⟨a,xs,rfl,q1,q2⟩:=hv;obtain⟨t,e2,q3⟩:=aI.kP q2 e;exact BH value slice pins s σ H _ _ v' u' Q I rx ry ⟨a,xs,i,t,rfl,rfl,q1.sq,e2,q _ q3⟩ hs
 |ref j=>
  cases w with
  |int i=>
   change (match h[j]? with|some (.dct kvs)=>dF kvs (.inl i)|_=>(aJ h (.ref j)).bind λxs=>kP xs i)=some z at e;split at e
   ·rename_i kvs e1;rw[VR]at hv;obtain⟨a,rfl,q1⟩:=hv;obtain⟨ks,k1,k2⟩:=r.ob j _ a e1 q1;obtain⟨t,e2,q3⟩:=(je.val (.inl i) k2).2 z e;have g:tY H a (kV (.inl i)) (jS ks (.inl i)):=tY.k k1;rw[e2]at g;rw[VR]at hw;subst hw;exact Ku hu value slice pins s σ H _ _ v' u' Q I rx ry ⟨a,t,rfl,g,q _ q3⟩ hs
   ·obtain⟨vs,e1,e⟩:=aad.mp e;obtain⟨a,xs,rfl,q1,q2⟩:=gI r hv e1;rw[VR]at hw;subst hw;obtain⟨t,e2,q3⟩:=aI.kP q2 e;exact BH value slice pins s σ H _ _ v' u' Q I rx ry ⟨a,xs,i,t,rfl,rfl,q1,e2,q _ q3⟩ hs
  |_=>cases e
 |dc _ _=>rw[VR]at hv;exact hv.elim
 |_=>cases w<;>cases e
def rSl(B:Bd)(EX:Nat->List V->Hp->Prop):V->Option Int->Option Int->Hp->VK->Prop:=λx lo hi H Q=>∃ρ h v,HR B ρ h H/\VR B.K ρ H v x/\Post B EX ρ H (WV B.K Q) (ud v lo hi h)
theorem Og:Vs X (rSl (bd X cl) EX):=by
 intro pins s σ H x v' vl vu lo hi sl Q I rx hs pl pu hh;obtain⟨ρ,h,v,r,hv,p⟩:=hh;have lists:Post (bd X cl) EX ρ H (WV X.K Q) (bnd (ask λh=>aJ h v) (λxs=>new (.lst (bX xs lo hi))) h)->∃T id,typeLookup (.type T) "__getitem__" = pure (some (.builtin id))/\s.TypeIs v' T/\wpAny (model X.prog X.w) X.A (getItem v' (.ref sl)) (EP X pins σ Q) X.xe s:=by intro p;obtain⟨a,e1,p⟩:=aH p;obtain⟨a1,WU,rfl,k1,k2⟩:=gI r hv e1;exact J8 pins s σ H _ v' vl vu lo hi sl Q I rx hs pl pu ⟨a1,WU,rfl,k1,λq hq=>eW r hq (aI.cut lo hi k2) p⟩
 cases v with
 |tup vs=>simp only[ud]at p;rw[VR]at hv;obtain⟨a,xs,rfl,q1,q2⟩:=hv;obtain⟨e,p⟩:=bu p;refine NJ pins s σ H _ v' vl vu lo hi sl Q I rx hs pl pu ⟨a,xs,rfl,q1,?_,λq hq=>yq r hq (aI.cut lo hi q2) p⟩;rw[<-q2.length];simp only[not_eq_true',Bool.and_eq_false_iff,decide_eq_false_iff_not]at e;rintro⟨z1,z2⟩;exact e.elim (λk=>k z1) λk=>k z2
 |_=>exact lists p
end
end Hv
end
section
set_option backward.match.sparseCases false
namespace Hv
open PySem L2 PyProof.Rows
section
variable {X:Cx} {cl:Nat->Addr} {EX:Nat->List V->Hp->Prop}
def JH(B:Bd)(EX:Nat->List V->Hp->Prop)(b:Bl):List V->Hp->VK->Prop:=λxs H Q=>∃ρ h vs,HR B ρ h H/\aI B.K ρ H vs xs/\Post B EX ρ H (WV B.K Q) (blt b vs h)
theorem Oh:cW X (.builtin "len") (JH (bd X cl) EX .len):=by
 intro pins s σ H xs us Q I rr hh;obtain⟨ρ,h,vs,r,hv,p⟩:=hh
 match vs,p with
 |[v],p=>
  obtain⟨n,e,p⟩:=aH p;obtain⟨x,rfl,hx⟩:=aI.one hv;have fin:=ao r p _ VR.int;cases v with
  |tup vs=>simp only[o6]at e;cases e;rw[VR]at hx;obtain⟨a,ys,rfl,q1,q2⟩:=hx;refine L2.rE pins s σ H _ us Q I rr ⟨_,ys.length,rfl,.inr ⟨ys,q1,rfl⟩,?_⟩;rw[<-q2.length];exact fin
  |rl vs=>simp only[o6]at e;cases e;rw[VR]at hx;obtain⟨a,ys,rfl,q1,q2⟩:=hx;refine L2.rE pins s σ H _ us Q I rr ⟨_,ys.length,rfl,.inl ⟨ys,q1.sq,rfl⟩,?_⟩;rw[<-q2.length];exact fin
  |dc _ _=>rw[VR]at hx;exact hx.elim
  |ob _ _ _=>rw[VR]at hx;exact hx.elim
  |clo _=>cases e
  |ref i=>
   rw[VR]at hx;obtain⟨a,rfl,q1⟩:=hx;simp only[o6]at e;split at e
   ·rename_i vs e1;cases e;obtain⟨ys,k1,k2⟩:=r.ob i _ a e1 q1;refine L2.rE pins s σ H _ us Q I rr ⟨_,ys.length,rfl,.inl ⟨ys,.inl (.inl k1),rfl⟩,?_⟩;rw[<-k2.length];exact fin
   ·rename_i vs e1;cases e;obtain⟨ks,k1,k2⟩:=r.ob i _ a e1 q1;refine Df pins s σ H _ us Q I rr ⟨a,ks,rfl,k1,?_⟩;rw[<-k2.length];exact fin
   ·cases e
  |_=>simp only[o6]at e;cases e
theorem Oi(hc:X.calm=true):cW X (.builtin "min") (JH (bd X cl) EX .min):=by
 intro pins s σ H xs us Q I rr hh;obtain⟨ρ,h,vs,r,hv,p⟩:=hh;have seq:∀v,vs=[v]->Post (bd X cl) EX ρ H (WV X.K Q) (bnd (ask λh=>cN h v) (λxs=>bH ((bB xs).bind uc)) h)->wpAny (model X.prog X.w) X.A (call (.builtin "min") us) (EP X pins σ Q) X.xe s:=by
  rintro v rfl p;obtain⟨zs,e,p⟩:=aH p;obtain⟨x,rfl,hx⟩:=aI.one hv;obtain⟨a,ys,rfl,q1,q2⟩:=AJ r hx e;obtain⟨m,e1,p⟩:=cT r p;obtain⟨ns,e2,e3⟩:=aad.mp e1;rw[gS e2]at q2;rw[aI.ints.mp q2]at q1;have hne:0<ns.length:=by cases ns with|nil=>cases e3|cons _ _=>simp
  refine v9 hc pins s σ H _ us Q I rr ⟨a,ns,rfl,q1,hne,λm hm hmin=>?_⟩;rw[Dz hm hmin]at e3;cases e3;exact p _ VR.int
 match vs,p with
 |[.int a,.int b],p=>obtain⟨x,y,rfl,hx,hy⟩:=aI.two hv;rw[VR]at hx;rw[VR]at hy;subst hx;subst hy;exact C5 hc pins s σ H _ us Q I rr ⟨a,b,rfl,ao r p _ VR.int⟩
 |[v],p=>exact seq v rfl (by cases v<;>exact p)
theorem Oj(hc:X.calm=true):cW X (.builtin "max") (JH (bd X cl) EX .max):=by
 intro pins s σ H xs us Q I rr hh;obtain⟨ρ,h,vs,r,hv,p⟩:=hh;have seq:∀v,vs=[v]->Post (bd X cl) EX ρ H (WV X.K Q) (bnd (ask λh=>cN h v) (λxs=>bH ((bB xs).bind wm)) h)->wpAny (model X.prog X.w) X.A (call (.builtin "max") us) (EP X pins σ Q) X.xe s:=by
  rintro v rfl p;obtain⟨zs,e,p⟩:=aH p;obtain⟨x,rfl,hx⟩:=aI.one hv;obtain⟨a,ys,rfl,q1,q2⟩:=AJ r hx e;obtain⟨m,e1,p⟩:=cT r p;obtain⟨ns,e2,e3⟩:=aad.mp e1;rw[gS e2]at q2;rw[aI.ints.mp q2]at q1;have hne:0<ns.length:=by cases ns with|nil=>cases e3|cons _ _=>simp
  refine we hc pins s σ H _ us Q I rr ⟨a,ns,rfl,q1,hne,λm hm hmin=>?_⟩;rw[DA hm hmin]at e3;cases e3;exact p _ VR.int
 match vs,p with
 |[.int a,.int b],p=>obtain⟨x,y,rfl,hx,hy⟩:=aI.two hv;rw[VR]at hx;rw[VR]at hy;subst hx;subst hy;exact C4 hc pins s σ H _ us Q I rr ⟨a,b,rfl,ao r p _ VR.int⟩
 |[v],p=>exact seq v rfl (by cases v<;>exact p)
theorem DC:cW X (.builtin "sorted") (JH (bd X cl) EX .sorted):=by
 intro pins s σ H xs us Q I rr hh;obtain⟨ρ,h,vs,r,hv,p⟩:=hh
 match vs,p with
 |[v],p=>
  obtain⟨zs,e,p⟩:=aH p;obtain⟨out,e1,p⟩:=cO p;obtain⟨x,rfl,hx⟩:=aI.one hv;obtain⟨a,ys,rfl,q1,q2⟩:=gI r hx e;unfold iz at e1;split at e1
  ·rename_i h64
   cases e2:bB zs with
   |some ns=>rw[e2]at e1;cases e1;rw[gS e2]at q2 h64;rw[aI.ints.mp q2]at q1;rw[aaf]at h64;exact oY pins s σ H _ us Q I rr ⟨a,ns,rfl,q1,h64,λl hl=>eW r hl (aI.ints.mpr rfl) p⟩
   |none=>rw[e2]at e1;obtain⟨qP,e3,e4⟩:=aad.mp e1;cases e4;obtain⟨g1,g2⟩:=u5 e3;rw[g1]at q2 h64;obtain⟨rs,r1,r2,r3⟩:=aI.tups q2;rw[r1]at q1;rw[aaf,r2,aaf]at h64;refine oZ pins s σ H _ us Q I rr ⟨a,rs,rfl,q1,h64,λp hp=>⟨r3 p hp,g2 _ (by rw[r2];exact mem_map_of_mem hp)⟩,λl qs hl hp hs=>?_⟩;have e4:qs.map (·.2)=nY qP:=FN (by rw[r2];exact hp.map _) (pairwise_map.mpr hs);rw[<-e4]at p;exact eW r hl (aI.BS λz hz=>r3 z (hp.mem_iff.mp hz)) p
  ·cases e1
theorem Kv:cW X (.type "list") (JH (bd X cl) EX .list):=by
 intro pins s σ H xs us Q I rr hh;obtain⟨ρ,h,vs,r,hv,p⟩:=hh
 match vs,p with
 |[v],p=>obtain⟨zs,e,p⟩:=aH p;obtain⟨x,rfl,hx⟩:=aI.one hv;obtain⟨a,ys,rfl,q1,q2⟩:=AJ r hx e;exact vV pins s σ H _ us Q I rr ⟨a,ys,rfl,q1,λl hl=>eW r hl q2 p⟩
theorem FU:cW X (.type "tuple") (JH (bd X cl) EX .tuple):=by
 intro pins s σ H xs us Q I rr hh;obtain⟨ρ,h,vs,r,hv,p⟩:=hh;exact(show False from p).elim
theorem Ol:cW X (.type "str") (JH (bd X cl) EX .str):=by
 intro pins s σ H xs us Q I rr hh;obtain⟨ρ,h,vs,r,hv,p⟩:=hh;exact(show False from p).elim
theorem Om:cW X (.type "int") (JH (bd X cl) EX .int):=by
 intro pins s σ H xs us Q I rr hh;obtain⟨ρ,h,vs,r,hv,p⟩:=hh
 match vs,p with
 |[.int i],p=>obtain⟨x,rfl,hx⟩:=aI.one hv;rw[VR]at hx;subst hx;exact uy pins s σ H _ us Q I rr (.inl ⟨i,rfl,ao r p _ VR.int⟩)
 |[.bl i],p=>obtain⟨x,rfl,hx⟩:=aI.one hv;rw[VR]at hx;subst hx;exact uy pins s σ H _ us Q I rr (.inr ⟨i,rfl,ao r p _ VR.int⟩)
theorem Oo(hc:X.calm=true):cW X (.builtin "all") (JH (bd X cl) EX .all):=by
 intro pins s σ H xs us Q I rr hh;obtain⟨ρ,h,vs,r,hv,p⟩:=hh
 match vs,p with
 |[v],p=>obtain⟨zs,e,p⟩:=aH p;obtain⟨bs,e1,p⟩:=cO p;obtain⟨x,rfl,hx⟩:=aI.one hv;obtain⟨a,ys,rfl,q1,q2⟩:=gI r hx e;rw[se e1]at q2;rw[aI.bools.mp q2]at q1;exact t8 hc pins s σ H _ us Q I rr ⟨a,bs,rfl,q1,ao r p _ VR.bl⟩
theorem Oq(hc:X.calm=true):cW X (.builtin "any") (JH (bd X cl) EX .any):=by
 intro pins s σ H xs us Q I rr hh;obtain⟨ρ,h,vs,r,hv,p⟩:=hh;exact(show False from p).elim
def rIs(B:Bd)(EX:Nat->List V->Hp->Prop)(T:String):List V->Hp->VK->Prop:=λxs H Q=>∃ρ h v x,xs=[x,.ty T]/\HR B ρ h H/\VR B.K ρ H v x/\Post B EX ρ H (WV B.K Q) (blt (.isin T) [v] h)
theorem Kw(K:Frag)(t T:String)(ht:t∈["NoneType","bool","int","str","list","tuple","dict"])(hT:T∈["list","tuple","str","bool","int","dict"]) :
  kitOne K (.type t) (.type T)=some (decide (T=t\/(T = "int" /\ t = "bool"))):=by
 simp only[mem_cons,not_mem_nil,or_false]at ht hT
 rcases ht with rfl|rfl|rfl|rfl|rfl|rfl|rfl<;>rcases hT with rfl|rfl|rfl|rfl|rfl|rfl<;>rfl
theorem Ky{T:String}:cW X (.builtin "isinstance") (rIs (bd X cl) EX T):=by
 intro pins s σ H xs us Q I rr hh;obtain⟨ρ,h,v,x,rfl,r,hx,p⟩:=hh;obtain⟨u,w',rfl,r1,r2⟩:=vals2 rr;cases r2;obtain⟨t,e,p⟩:=aH p;obtain⟨b,e1,p⟩:=cO p;have q:=ao r p _ VR.bl;unfold yi at e1;split at e1
 ·rename_i hT'
  have hT:T∈["list","tuple","str","bool","int","dict"]:=by simpa using hT'
  cases e1;have fin:∀tk,EP X pins σ Q (.bool (decide (T=t\/(T = "int" /\ t = "bool")))) { s with toks:=tk }:=λtk=>⟨.bl _,H,I.tok _,rfl,q⟩;have tab:=λht=>Kw X.K t T ht hT;cases v with
  |non=>rw[VR]at hx;subst hx;cases r1;simp only[yh]at e;cases e;exact kia_one PySem.W.kitx_none I.qz True.intro (tab (by simp)) (λz=>nomatch z) fin
  |bl c=>rw[VR]at hx;subst hx;cases r1;simp only[yh]at e;cases e;exact kia_one PySem.W.kitx_bool I.qz True.intro (tab (by simp)) (λz=>nomatch z) fin
  |int i=>rw[VR]at hx;subst hx;obtain⟨t',rfl⟩:=r1;simp only[yh]at e;cases e;exact kia_one PySem.W.kitx_int I.qz True.intro (tab (by simp)) (λz=>nomatch z) fin
  |str i=>rw[VR]at hx;subst hx;obtain⟨t',rfl⟩:=r1;simp only[yh]at e;cases e;exact kia_one PySem.W.kitx_str I.qz True.intro (tab (by simp)) (λz=>nomatch z) fin
  |tup vs=>rw[VR]at hx;obtain⟨a,ys,rfl,q1,_⟩:=hx;cases r1;simp only[yh]at e;cases e;obtain⟨_,_,⟨o,e1,e2,_⟩,_⟩:=I.tuple q1;exact kia_one PySem.W.kitx_tuple I.qz ⟨o,e1,e2⟩ (tab (by simp)) (λz=>nomatch z) fin
  |rl vs=>rw[VR]at hx;obtain⟨a,ys,rfl,q1,_⟩:=hx;cases r1;simp only[yh]at e;cases e;obtain⟨_,_,⟨o,n,e1,e2,_⟩,_⟩:=I.list q1.sq;exact kia_one kitx_list I.qz ⟨o,e1,e2⟩ (tab (by simp)) (λz=>nomatch z) fin
  |dc _ _=>rw[VR]at hx;exact hx.elim
  |ob _ _ _=>rw[VR]at hx;exact hx.elim
  |clo _=>cases e
  |ref i=>
   rw[VR]at hx;obtain⟨a,rfl,q1⟩:=hx;cases r1;simp only[yh]at e;split at e
   ·rename_i vs e1;cases e;obtain⟨ys,k1,k2⟩:=r.ob i _ a e1 q1;obtain⟨_,_,⟨o,n,e1,e2,_⟩,_⟩:=I.list (xs:=ys) (.inl (.inl k1));exact kia_one kitx_list I.qz ⟨o,e1,e2⟩ (tab (by simp)) (λz=>nomatch z) fin
   ·rename_i vs e1;cases e;obtain⟨ks,k1,k2⟩:=r.ob i _ a e1 q1;obtain⟨_,_,vs,_,p⟩:=(show cB X.prog X.w H s.heap a (.dK ks) from I.hok a _ k1);obtain⟨o,es,ep,h1,h2,_⟩:=p;exact kia_one PySem.W.kitx_dict I.qz ⟨o,h1,h2.1⟩ (tab (by simp)) (λz=>nomatch z) fin
   ·cases e
 ·cases e1
def SN(B:Bd)(EX:Nat->List V->Hp->Prop)(m:Me):V->List V->Hp->VK->Prop:=λx xs H Q=>∃ρ h v vs,HR B ρ h H/\VR B.K ρ H v x/\aI B.K ρ H vs xs/\Post B EX ρ H (WV B.K Q) (met m v vs h)
theorem Kz:Rw X "str.join" (SN (bd X cl) EX .join):=by
 intro pins s σ H x xs u us Q I ru rr hh;obtain⟨ρ,h,v,vs,r,hv,hvs,p⟩:=hh;exact(show False from p).elim
theorem yt{i:Nat}(r:HR B ρ h H)(hi:ρ[i]?=some a)(e:h[i]?=some u)(eU:H a=some U)(hm:Mu U=true)(q:OR B ρ (upd H a O) a o)
  (p:Post B EX ρ H (WV B.K Q) (bnd (put i o) (λ_=>ret Val.non) h)):Q .non (upd H a O) :=
 p ρ (upd H a O) (Gr.put (aaE hi) eU hm λps z=>by obtain⟨w,k1,_,k3⟩:=(r.ob i u a e hi).mu;rw[eU]at k1;cases k1;exact k3 ps z) (r.put hi e q) _ VR.non
theorem DE:Rw X "list.append" (SN (bd X cl) EX .append):=by
 intro pins s σ H x xs v' us Q I rx rv hh;obtain⟨ρ,h,v,vs,r,hv,hvs,p⟩:=hh
 match v,vs,p with
 |.ref i,[w],p=>
  obtain⟨zs,e,p⟩:=aH p;split at e
  ·rename_i zs' e1;cases e;obtain⟨e2,p⟩:=bu p;obtain⟨a,ys,rfl,q0,q1,q2⟩:=qR r hv e1;obtain⟨y,rfl,hy⟩:=aI.one hvs;refine uF pins s σ H _ _ v' us Q I rx rv ⟨a,ys,y,rfl,rfl,q1,by rw[<-q2.length];exact aay e2,?_⟩;have g:Gr ρ H ρ (upd H a (.lst (ys++[y]))):=Gr.put (aaE q0) q1 rfl (λ_ z=>nomatch z);exact yt (o:=.lst (zs++[w])) r q0 e1 q1 rfl ⟨_,aD,aI.append (aI.up g _ _ q2) (aI.up g _ _ (aI.cons hy aI.nil))⟩ p
  ·cases e
theorem DF:Rw X "list.extend" (SN (bd X cl) EX .extend):=by
 intro pins s σ H x xs v' us Q I rx rv hh;obtain⟨ρ,h,v,vs,r,hv,hvs,p⟩:=hh
 match v,vs,p with
 |.ref i,[w],p=>
  obtain⟨zs,e,p⟩:=aH p;split at e
  ·rename_i zs' e1;cases e
   obtain⟨ws,e3,p⟩:=aH p;obtain⟨e2,p⟩:=bu p;have e2:=aay e2;obtain⟨a,ys,rfl,q0,q1,q2⟩:=qR r hv e1;obtain⟨y,rfl,hy⟩:=aI.one hvs;have fin:∀(bs:List V),aI X.K ρ H ws bs->Q .non (upd H a (.lst (ys++bs))):=λbs hb=>by
    have g:Gr ρ H ρ (upd H a (.lst (ys++bs))):=Gr.put (aaE q0) q1 rfl (λ_ z=>nomatch z);exact yt (o:=.lst (zs++ws)) r q0 e1 q1 rfl ⟨_,aD,aI.append (aI.up g _ _ q2) (aI.up g _ _ hb)⟩ p
   cases w with
   |tup ts=>simp only[BP]at e3;cases e3;rw[VR]at hy;obtain⟨b,bs,rfl,k1,k2⟩:=hy;exact Ax pins s σ H _ _ v' us Q I rx rv ⟨a,b,ys,bs,rfl,rfl,q1,k1,by rw[<-q2.length,<-k2.length];exact e2,fin bs k2⟩
   |_=>simp only[BP]at e3;cases e3
  ·cases e
theorem aI.era{K:Frag}{ρ:List Addr}{H:Hp}:∀{vs:List Val} {xs:List V} (n:Nat),aI K ρ H vs xs->aI K ρ H (vs.eraseIdx n) (xs.eraseIdx n)
 |[],_,n,e=>by rw[aI]at e;subst e;exact aI.nil
 | _::_,_,n,e=>by
  rw[aI]at e;obtain⟨x,r,rfl,e1,e2⟩:=e;cases n with
  |zero=>exact e2
  |succ n=>exact aI.cons e1 (aI.era n e2)
theorem Ot:Rw X "list.pop" (SN (bd X cl) EX .pop):=by
 intro pins s σ H x xs v' us Q I rx rv hh;obtain⟨ρ,h,v,vs,r,hv,hvs,p⟩:=hh
 match v,vs,p with
 |.ref i,[.int k],p=>
  obtain⟨zs,e,p⟩:=aH p;split at e
  ·rename_i zs' e1;cases e
   obtain⟨e2,p⟩:=bu p;have e2:=aay e2;obtain⟨w,e3,p⟩:=cO p;obtain⟨a,ys,rfl,q0,q1,q2⟩:=qR r hv e1;obtain⟨y,rfl,hy⟩:=aI.one hvs;rw[VR]at hy;subst hy;obtain⟨y,hy,ry⟩:=q2.get e3;refine E2 pins s σ H _ _ v' us Q I rx rv ⟨a,ys,k,k.toNat,y,rfl,rfl,q1,by omega,by omega,?_,hy,?_⟩
   ·have:k.toNat<ys.length:=(aag.mp hy).1;unfold PySem.seqIndex?;simp only[];rw[show (if k<0 then k+(ys.length:Int) else k)=k from aam (by omega),aaj (by simp;omega)]
   have g:Gr ρ H ρ (upd H a (.lst (ys.eraseIdx k.toNat))):=Gr.put (aaE q0) q1 rfl (λ_ z=>nomatch z);exact p ρ _ g (r.put q0 e1 ⟨_,aD,aI.era _ (aI.up g _ _ q2)⟩) _ (VR.up g _ _ ry)
  ·cases e
end
def sj(f:Str->Pos->Bool):Expr->Bool
 |.Name a b=>f a b
 |_=>false
theorem qS{f:Str->Pos->Bool}{P:Expr->Prop}{e:Expr}(h:sj f e=true)(H:∀a b,f a b=true->P (.Name a b)):P e:=by
 cases e<;>first|exact H _ _ h|exact(aac h).elim
def AK(f:Const->Nat->Pos->Bool):Expr->Bool
 |.Constant a b c=>f a b c
 |_=>false
theorem yu{f:Const->Nat->Pos->Bool}{P:Expr->Prop}{e:Expr}(h:AK f e=true)(H:∀a b c,f a b c=true->P (.Constant a b c)):P e:=by
 cases e<;>first|exact H _ _ _ h|exact(aac h).elim
def SO(f:Expr->Operator->Expr->Pos->Bool):Expr->Bool
 |.BinOp a b c d=>f a b c d
 |_=>false
theorem Ou{f:Expr->Operator->Expr->Pos->Bool}{P:Expr->Prop}{e:Expr}(h:SO f e=true)(H:∀a b c d,f a b c d=true->P (.BinOp a b c d)):P e:=by
 cases e<;>first|exact H _ _ _ _ h|exact(aac h).elim
def WX(f:UnaryOp->Expr->Pos->Bool):Expr->Bool
 |.UnaryOp a b c=>f a b c
 |_=>false
theorem ME{f:UnaryOp->Expr->Pos->Bool}{P:Expr->Prop}{e:Expr}(h:WX f e=true)(H:∀a b c,f a b c=true->P (.UnaryOp a b c)):P e:=by
 cases e<;>first|exact H _ _ _ h|exact(aac h).elim
def SQ(f:Expr->List CmpOp->List Expr->Pos->Bool):Expr->Bool
 |.Compare a b c d=>f a b c d
 |_=>false
theorem Ov{f:Expr->List CmpOp->List Expr->Pos->Bool}{P:Expr->Prop}{e:Expr}(h:SQ f e=true)(H:∀a b c d,f a b c d=true->P (.Compare a b c d)):P e:=by
 cases e<;>first|exact H _ _ _ _ h|exact(aac h).elim
def wo(f:BoolOp->List Expr->Pos->Bool):Expr->Bool
 |.BoolOp a b c=>f a b c
 |_=>false
theorem u6{f:BoolOp->List Expr->Pos->Bool}{P:Expr->Prop}{e:Expr}(h:wo f e=true)(H:∀a b c,f a b c=true->P (.BoolOp a b c)):P e:=by
 cases e<;>first|exact H _ _ _ h|exact(aac h).elim
def Yd(f:Expr->Expr->Expr->Pos->Bool):Expr->Bool
 |.IfExp a b c d=>f a b c d
 |_=>false
theorem SS{f:Expr->Expr->Expr->Pos->Bool}{P:Expr->Prop}{e:Expr}(h:Yd f e=true)(H:∀a b c d,f a b c d=true->P (.IfExp a b c d)):P e:=by
 cases e<;>first|exact H _ _ _ _ h|exact(aac h).elim
def SV(f:List Expr->Nat->Pos->Bool):Expr->Bool
 |.Tuple a b c=>f a b c
 |_=>false
theorem Ow{f:List Expr->Nat->Pos->Bool}{P:Expr->Prop}{e:Expr}(h:SV f e=true)(H:∀a b c,f a b c=true->P (.Tuple a b c)):P e:=by
 cases e<;>first|exact H _ _ _ h|exact(aac h).elim
def SW(f:List Expr->Pos->Bool):Expr->Bool
 |.List a b=>f a b
 |_=>false
theorem Ox{f:List Expr->Pos->Bool}{P:Expr->Prop}{e:Expr}(h:SW f e=true)(H:∀a b,f a b=true->P (.List a b)):P e:=by
 cases e<;>first|exact H _ _ h|exact(aac h).elim
def KA(f:Expr->Expr->Pos->Bool):Expr->Bool
 |.Subscript a b c=>f a b c
 |_=>false
theorem AL{f:Expr->Expr->Pos->Bool}{P:Expr->Prop}{e:Expr}(h:KA f e=true)(H:∀a b c,f a b c=true->P (.Subscript a b c)):P e:=by
 cases e<;>first|exact H _ _ _ h|exact(aac h).elim
def SX(f:Option Expr->Option Expr->Option Expr->Pos->Bool):Expr->Bool
 |.Slice a b c d=>f a b c d
 |_=>false
theorem Oz{f:Option Expr->Option Expr->Option Expr->Pos->Bool}{P:Expr->Prop}{e:Expr}(h:SX f e=true)(H:∀a b c d,f a b c d=true->P (.Slice a b c d)):P e:=by
 cases e<;>first|exact H _ _ _ _ h|exact(aac h).elim
def FW(f:Expr->List Expr->List Keyword->Pos->Bool):Expr->Bool
 |.Call a b c d=>f a b c d
 |_=>false
theorem BY{f:Expr->List Expr->List Keyword->Pos->Bool}{P:Expr->Prop}{e:Expr}(h:FW f e=true)(H:∀a b c d,f a b c d=true->P (.Call a b c d)):P e:=by
 cases e<;>first|exact H _ _ _ _ h|exact(aac h).elim
def BZ(f:Expr->Str->Pos->Bool):Expr->Bool
 |.Attribute a b c=>f a b c
 |_=>false
theorem wu{f:Expr->Str->Pos->Bool}{P:Expr->Prop}{e:Expr}(h:BZ f e=true)(H:∀a b c,f a b c=true->P (.Attribute a b c)):P e:=by
 cases e<;>first|exact H _ _ _ h|exact(aac h).elim
def MF(f:Expr->List Comprehension->Scope->Pos->Bool):Expr->Bool
 |.ListComp a b c d=>f a b c d
 |_=>false
theorem KC{f:Expr->List Comprehension->Scope->Pos->Bool}{P:Expr->Prop}{e:Expr}(h:MF f e=true)(H:∀a b c d,f a b c d=true->P (.ListComp a b c d)):P e:=by
 cases e<;>first|exact H _ _ _ _ h|exact(aac h).elim
def FY(f:List (Option Expr)->List Expr->Pos->Bool):Expr->Bool
 |.Dict a b c=>f a b c
 |_=>false
theorem B0{f:List (Option Expr)->List Expr->Pos->Bool}{P:Expr->Prop}{e:Expr}(h:FY f e=true)(H:∀a b c,f a b c=true->P (.Dict a b c)):P e:=by
 cases e<;>first|exact H _ _ _ h|exact(aac h).elim
section
variable {α:Type} {f:α -> Bool} {g:α -> List α -> Bool} {P:List α -> Prop} {Q:Option α -> Prop} {l:List α} {b:Bool} {o:Option α}
def wz(l:List α)(b:Bool):Bool:=l.isEmpty&&b
theorem m8(h:wz l b=true)(H:b=true->P []):P l:=by
 cases l with
 |nil=>exact H h
 |cons _ _=>cases h
def kC(f:α -> List α -> Bool):List α -> Bool
 |a::r=>f a r
 |[]=>false
theorem AM(h:kC g l=true)(H:∀a r,g a r=true->P (a::r)):P l:=by
 cases l with
 |nil=>cases h
 |cons a r=>exact H a r h
def k1(f:α -> Bool):List α -> Bool:=kC λa r=>wz r (f a)
theorem qE(h:k1 f l=true)(H:∀a,f a=true->P [a]):P l:=by
 apply AM h;intro a r h;apply m8 h;intro h;exact H a h
def k2(f:α -> α -> Bool):List α -> Bool:=kC λa r=>k1 (f a) r
theorem SY{f:α -> α -> Bool}(h:k2 f l=true)(H:∀a b,f a b=true->P [a,b]):P l:=by
 apply AM h;intro a r h;apply qE h;intro b h;exact H a b h
def FZ(l:Option α)(b:Bool):Bool:=l.isNone&&b
theorem B3(h:FZ o b=true)(H:b=true->Q none):Q o:=by
 cases o with
 |none=>exact H h
 |some _=>cases h
def Ga(f:α -> Bool)(l:Option α):Bool:=l.any f
theorem B4(h:Ga f o=true)(H:∀a,f a=true->Q (some a)):Q o:=by
 cases o with
 |none=>cases h
 |some a=>exact H a h
def OA[DecidableEq α](a b:α)(c:Bool):Bool:=decide (a=b)&&c
theorem yv[DecidableEq α]{P:α -> Prop}{a d:α}(h:OA a d b=true)(H:b=true->P d):P a:=by
 rw[OA,and_eq_true,aaL]at h;rw[h.1];exact H h.2
end
def Eu(f:Str->Pos->List Expr->Pos->Bool):Expr->Bool:=FW λg l k p=>sj (λx q=>wz k (f x q l p)) g
theorem n5{f:Str->Pos->List Expr->Pos->Bool}{P:Expr->Prop}{e:Expr}(h:Eu f e=true)(H:∀x q l p,f x q l p=true->P (.Call (.Name x q) l [] p)):P e:=by
 apply BY h;intro g l k p h;apply qS h;intro x q h;apply m8 h;intro h;exact H x q l p h
def S0(f:Expr->Str->Pos->List Expr->Pos->Bool):Expr->Bool:=FW λg l k p=>BZ (λo x q=>wz k (f o x q l p)) g
theorem Gb{f:Expr->Str->Pos->List Expr->Pos->Bool}{P:Expr->Prop}{e:Expr}(h:S0 f e=true)(H:∀o x q l p,f o x q l p=true->P (.Call (.Attribute o x q) l [] p)):P e:=by
 apply BY h;intro g l k p h;apply wu h;intro o x q h;apply m8 h;intro h;exact H o x q l p h
def S4(f:Expr->Expr->List Expr->Int->Bool)(c:Comprehension):Bool:=f c.target c.iter c.ifs c.is_async
theorem OC{f:Expr->Expr->List Expr->Int->Bool}{P:Comprehension->Prop}{c:Comprehension}(h:S4 f c=true)(H:∀a b d i,f a b d i=true->P ⟨a,b,d,i⟩):P c:=by
 cases c;exact H _ _ _ _ h
def S5(f:Str->Bool):Const->Bool
 |.str s=>f s
 |_=>false
theorem OE{f:Str->Bool}{P:Const->Prop}{e:Const}(h:S5 f e=true)(H:∀s,f s=true->P (.str s)):P e:=by
 cases e<;>first|exact H _ h|exact(aac h).elim
theorem Ye{a b:Bool}(h:(a||b)=true):a=true\/b=true:=by
 cases a with
 |true=>exact .inl rfl
 |false=>exact .inr h
def Gd(f:Expr->Pos->Bool):Stmt->Bool
 |.Expr a b=>f a b
 |_=>false
theorem B5{f:Expr->Pos->Bool}{P:Stmt->Prop}{e:Stmt}(h:Gd f e=true)(H:∀a b,f a b=true->P (.Expr a b)):P e:=by
 cases e<;>first|exact H _ _ h|exact(aac h).elim
def KD(f:List Expr->Expr->Pos->Bool):Stmt->Bool
 |.Assign a b c=>f a b c
 |_=>false
theorem AN{f:List Expr->Expr->Pos->Bool}{P:Stmt->Prop}{e:Stmt}(h:KD f e=true)(H:∀a b c,f a b c=true->P (.Assign a b c)):P e:=by
 cases e<;>first|exact H _ _ _ h|exact(aac h).elim
def WY(f:Expr->Operator->Expr->Pos->Bool):Stmt->Bool
 |.AugAssign a b c d=>f a b c d
 |_=>false
def Yg(f:Expr->List Stmt->List Stmt->Pos->Bool):Stmt->Bool
 |.If a b c d=>f a b c d
 |_=>false
theorem S6{f:Expr->List Stmt->List Stmt->Pos->Bool}{P:Stmt->Prop}{e:Stmt}(h:Yg f e=true)(H:∀a b c d,f a b c d=true->P (.If a b c d)):P e:=by
 cases e<;>first|exact H _ _ _ _ h|exact(aac h).elim
def S7(f:Expr->Expr->List Stmt->List Stmt->Pos->Bool):Stmt->Bool
 |.For a b c d i=>f a b c d i
 |_=>false
theorem OF{f:Expr->Expr->List Stmt->List Stmt->Pos->Bool}{P:Stmt->Prop}{e:Stmt}(h:S7 f e=true)(H:∀a b c d i,f a b c d i=true->P (.For a b c d i)):P e:=by
 cases e<;>first|exact H _ _ _ _ _ h|exact(aac h).elim
def Ge(f:Expr->List Stmt->List Stmt->Pos->Bool):Stmt->Bool
 |.While a b c d=>f a b c d
 |_=>false
theorem Gf{f:Expr->List Stmt->List Stmt->Pos->Bool}{P:Stmt->Prop}{e:Stmt}(h:Ge f e=true)(H:∀a b c d,f a b c d=true->P (.While a b c d)):P e:=by
 cases e<;>first|exact H _ _ _ _ h|exact(aac h).elim
def OG(f:Option Expr->Pos->Bool):Stmt->Bool
 |.Return a b=>f a b
 |_=>false
theorem Gg{f:Option Expr->Pos->Bool}{P:Stmt->Prop}{e:Stmt}(h:OG f e=true)(H:∀a b,f a b=true->P (.Return a b)):P e:=by
 cases e<;>first|exact H _ _ h|exact(aac h).elim
def S8(f:Pos->Bool):Stmt->Bool
 |.Break a=>f a
 |_=>false
theorem OH{f:Pos->Bool}{P:Stmt->Prop}{e:Stmt}(h:S8 f e=true)(H:∀a,f a=true->P (.Break a)):P e:=by
 cases e<;>first|exact H _ h|exact(aac h).elim
def S9(f:Pos->Bool):Stmt->Bool
 |.Continue a=>f a
 |_=>false
theorem OI{f:Pos->Bool}{P:Stmt->Prop}{e:Stmt}(h:S9 f e=true)(H:∀a,f a=true->P (.Continue a)):P e:=by
 cases e<;>first|exact H _ h|exact(aac h).elim
def MG(f:Pos->Bool):Stmt->Bool
 |.Pass a=>f a
 |_=>false
theorem KG{f:Pos->Bool}{P:Stmt->Prop}{e:Stmt}(h:MG f e=true)(H:∀a,f a=true->P (.Pass a)):P e:=by
 cases e<;>first|exact H _ h|exact(aac h).elim
end Hv
end
section
namespace Hv
open PySem L2 PyProof.Rows
structure Tb where
 nc:Nat
 KH:List Str
 DG:List (Nat×Str×Nat)
 Gh:List (Str×Str×Nat)
 isc:List (Str×List Bool)
structure tQ where
 N:List Str
 sc:Scope
 fns:List (Str×Nat)
 cons:List (Str×Val)
 tb:Tb
def OJ(sc:Scope)(x:Str):Bool:=(sc.names.lookup x==some .local||sc.names.lookup x==some .cell||sc.names.lookup x==some .free) && !(x==("__debug__":Str)) && !(x==("__classdict__":Str))
def B6(sc:Scope)(x:Str):Bool:=sc.names.lookup x==some .globalImplicit && !(x==("__debug__":Str)) && !(x==("__name__":Str))
def Gi:Const->Val->Bool
 |.none,.non=>true
 |.bool a,.bl b=>a==b
 |.int a,.int b=>a==b
 |.str a,.str b=>a==b
 |_,_=>false
def OL(o:Mz)(op:Operator):Bool:=decide (op=FO o)
def Tc(o:MA)(op:CmpOp):Bool:=decide (op=BW o)
def Td:Bl->Str
 |.len=>"len" | .min=>"min" | .max=>"max" | .sorted=>"sorted" | .list=>"list" | .tuple=>"tuple" | .str=>"str" | .int=>"int" | .all=>"all" | .any=>"any" | .isin _=>"isinstance"
def noStar:Expr->Bool
 |.Starred ..=>false
 |_=>true
def qU:Expr->Bool
 |.Slice ..=>false
 |_=>true
def KI:Expr->Bool
 |.Name ..=>true|.Call ..=>true|.Subscript ..=>true|.List ..=>true|.Tuple ..=>true|.ListComp ..=>true|.Attribute ..=>true|.BinOp ..=>true
 |_=>false
def superB:Expr->Bool
 |.Call (.Name _ _) [] [] _=>false
 |_=>true
def MH(scope xsc:Scope):Scope :=
 { scope with names:=scope.names.map λ(n,k)=>if (k==.free&&xsc.kind==.function&&xsc.names.lookup n==some .cell) then (n,.cell) else (n,k) }
def tQ.MI(Γ:tQ)(scope:Scope)(N':List Str):tQ:={ Γ with N:=N',sc:=MH scope Γ.sc }
def DH(Γ:tQ):AH->Expr->Bool
 |.one i,.Name x _=>Γ.N[i]?==some x && Γ.sc.names.lookup x==some .local
 | .tup is,.Tuple es _ _=>es.length==is.length&&(is.zip es).all λp=>match p.2 with
  |.Name x _=>Γ.N[p.1]?==some x && Γ.sc.names.lookup x==some .local
  |_=>false
 |_,_=>false
def yw:AH->List Nat
 |.one i=>[i]
 |.tup is=>is
def meN:Me->Str
 |.join=>"join" | .append=>"append" | .extend=>"extend" | .pop=>"pop"
def AO:Val->Val->Bool
 |.non,.non=>true
 |.bl a,.bl b=>a==b
 |.int a,.int b=>a==b
 |.str a,.str b=>a==b
 |_,_=>false
def OM:nM->Bool
 |.nil=>true
 |.cons ..=>false
theorem Gj{b:Bool}(h:(OM es&&b)=true):es=.nil/\b=true:=by
 cases es with
 |nil=>exact⟨rfl,h⟩
 |cons _ _=>cases h
mutual
noncomputable def bD(Γ:tQ):IE->Expr->Bool
 |.var i,e=>sj (λx _=>Γ.N[i]?==some x&&OJ Γ.sc x) e
 |.cst d,e=>AK (λc _ _=>Gi c d) e
 |.con x d,e=>sj (λy _=>x==y&&B6 Γ.sc x && Γ.cons.any λp=>p.1==x&&AO p.2 d) e
 |.no,_=>false
 |.bin o a b,e=>SO (λl op r _=>OL o op&&bD Γ a l&&bD Γ b r) e
 |.neg a,e=>WX (λq1 l _=>OA q1 .USub (bD Γ a l)) e
 |.cmp o a b,e=>SQ (λl q1 q2 _=>k1 (λop=>k1 (λr=>Tc o op && !behindInMarks op r&&bD Γ a l&&bD Γ b r) q2) q1) e
 |.chn _ _ _ _ _,_=>false
 |.and a b,e=>wo (λq1 q2 pos=>OA q1 .And (kC (λl q3=>kC (λm r=>bD Γ a l&&(match r with|[]=>bD Γ b m|n::r'=>bD Γ b (.BoolOp .And (m::n::r') pos))) q3) q2)) e
 |.or a b,e=>wo (λq1 q2 pos=>OA q1 .Or (kC (λl q3=>kC (λm r=>bD Γ a l&&(match r with|[]=>bD Γ b m|n::r'=>bD Γ b (.BoolOp .Or (m::n::r') pos))) q3) q2)) e
 |.not a,e=>WX (λq1 l _=>OA q1 .Not (bD Γ a l)) e
 |.ite c a b,e=>Yd (λt l r _=>bD Γ c t&&bD Γ a l&&bD Γ b r) e
 |.tup es,e=>SV (λls _ _=>aY Γ es ls) e
 |.lst es,e=>SW (λls _=>aY Γ es ls) e
 |.idx a b,e=>KA (λl r _=>qU r&&bD Γ a l&&bD Γ b r) e
 |.slc a lo hi,e=>KA (λl q1 _=>SX (λl' h' q2 _=>FZ q2 (bD Γ a l&&(match l' with|none=>dU lo|some e=>!dU lo&&bD Γ lo e)&&(match h' with|none=>dU hi|some e=>!dU hi&&bD Γ hi e))) q1) e
 |.call j es,e=>Eu (λx _ args _=>B6 Γ.sc x && Γ.fns[j]?==some (x,args.length)&&decide (args.length<1000)&&aY Γ es args) e
 | .blt b es,e=>Eu (λx _ args _=>B6 Γ.sc x&&x==Td b&&(match b with
   |.isin T=>(match args with|[a,.Name y _]=>B6 Γ.sc y&&y==(T:Str)&&["list","tuple","str","bool","int","dict"].contains T&&aY Γ es [a]|_=>false)
   |_=>!args.isEmpty&&aY Γ es args)) e
 |.met m a es,e=>S0 (λo x ap args cp=>x==meN m&&superB o && !args.isEmpty&&decide (args.length<29)&&ap.endLine==cp.line&&bD Γ a o&&aY Γ es args) e
 | .comp N' js pat k it c elt,e=>MF (λe q1 scope _=>k1 (λq2=>S4 (λtg iter ifs q3=>OA q3 0 (l9 Γ.N Γ.sc scope N' js&&B7 Γ k it iter&&decide (N'.Nodup)&&DH (Γ.MI scope N') pat tg&&((yw pat).all λi=>js[i]?==some none)&&(match k,pat with|.enum,.one _=>false|.zip,.one _=>false|_,_=>true) &&
   (match ifs with|[]=>dU c|[t]=>!dU c&&bD (Γ.MI scope N') c t|_=>false)&&bD (Γ.MI scope N') elt e)) q2) q1) e
 |.dct0,e=>FY (λq1 q2 _=>wz q1 (wz q2 (true))) e
 |.sset a,e=>Eu (λx _ q1 _=>k1 (λq2=>Eu (λy _ q3 _=>k1 (λl=>x==("sorted":Str)&&y==("set":Str)&&B6 Γ.sc x&&B6 Γ.sc y&&noStar l&&bD Γ a l) q3) q2) q1) e
 |.dget d k x,e=>S0 (λo m ap q1 cp=>k2 (λa b=>m==("get":Str)&&superB o&&noStar a&&noStar b&&ap.endLine==cp.line&&bD Γ d o&&bD Γ k a&&bD Γ x b) q1) e
 |.dct1 k v,e=>FY (λq1 q2 _=>k1 (λq3=>Ga (λa=>k1 (λb=>bD Γ k a&&bD Γ v b) q2) q3) q1) e
 |.lkeys d,e=>Eu (λx _ q1 _=>k1 (λq2=>sj (λy q=>x==("list":Str)&&B6 Γ.sc x&&bD Γ d (.Name y q)) q2) q1) e
 |.sdef _ _ _,_=>false
 |.svals _,_=>false
 |.skeys d,e=>Eu (λx _ q1 _=>k1 (λq2=>S0 (λo m ap q3 cp=>wz q3 (x==("sorted":Str)&&m==("keys":Str)&&B6 Γ.sc x&&superB o&&ap.endLine==cp.line&&bD Γ d o)) q2) q1) e||Eu (λx _ q1 _=>k1 (λq2=>sj (λy q=>x==("sorted":Str)&&B6 Γ.sc x&&bD Γ d (.Name y q)) q2) q1) e
 |.fld n a x,e=>BZ (λo y _=>x==y&&superB o&&n == Γ.tb.nc && Γ.tb.KH.contains x&&bD Γ a o) e
 |.rev _ _,_=>false
 |.dflt _ _ _ _ _ _,_=>false
 |.isc _ _ _,_=>false
 |.mth a m js es,e=>S0 (λo x ap args cp=>x==m&&x != ("":Str)&&superB o&&decide (args.length<29)&&ap.endLine==cp.line&&(js.all λp=>decide (p.1 < Γ.tb.nc) && Γ.tb.DG.contains (p.1,m,p.2)&&(match Γ.fns[p.2]? with|some (_,n)=>n==1001+args.length|none=>false))&&bD Γ a o&&aY Γ es args) e||Eu (λx p args pos=>m==("":Str)&&(match js with|[(0,j)]=>(match Γ.fns[j]? with|some (_,n)=>n==3000+args.length|none=>false)|_=>false)&&decide (0<args.length)&&decide (args.length<1000)&&bD Γ a (.Name x p)&&aY Γ es args) e
noncomputable def aY(Γ:tQ):nM->List Expr->Bool
 |.nil,ls=>ls.isEmpty
 | .cons e es,ls=>match ls with
  |l::ls=>noStar l&&bD Γ e l&&aY Γ es ls
  |[]=>false
noncomputable def B7(Γ:tQ)(k:Ik):nM->Expr->Bool
 |.nil,_=>false
 | .cons e es,l=>match k with
  |.seq=>OM es&&(KI l&&bD Γ e l)
  |.range=>Eu (λx _ as _=>kC (λa args=>x==("range":Str)&&B6 Γ.sc x&&noStar a&&bD Γ e a&&aY Γ es args&&decide (args.length<2)) as) l
  |.enum=>false
  |.zip=>(match es with|.cons e2 ua=>OM ua&&Eu (λx _ as _=>k2 (λa b=>x==("zip":Str)&&B6 Γ.sc x&&noStar a&&bD Γ e a&&noStar b&&bD Γ e2 b) as) l|_=>false)
end
abbrev Fn:=Nat->List Val->M Val
def dg(K:Frag)(ρ:List Addr)(env:Env)(σ:L2.St)(H:Hp):Prop:=∀(i:Nat) (v:Val),env[i]?=some (some v)->∃x,σ[i]?=some (some x)/\VR K ρ H v x
theorem dg.mw{K:Frag}{ρ ρ':List Addr}{env:Env}{σ:L2.St}{H H':Hp}(e:dg K ρ env σ H)(g:Gw ρ H ρ' H'):dg K ρ' env σ H':=λi v q=>by
 obtain⟨x,q1,q2⟩:=e i v q;exact⟨x,q1,VR.mw g v x q2⟩
theorem dg.up{K:Frag}{ρ ρ':List Addr}{env:Env}{σ:L2.St}{H H':Hp}(e:dg K ρ env σ H)(g:Gr ρ H ρ' H'):dg K ρ' env σ H':=e.mw g.w
def WVs(K:Frag)(Q:List V->Hp->Prop):List Val->Hs->List Addr->Hp->Prop:=λvs _ ρ' H'=>∀xs,aI K ρ' H' vs xs->Q xs H'
def WT(Q:Bool->Hp->Prop):Bool->Hs->List Addr->Hp->Prop:=λb _ _ H'=>Q b H'
def MJ(Φ:Fn)(ir:IE)(env:Env):M Bool:=bnd (aS Φ ir env) λx=>ask λh=>ck h x
def tV(Φ:Fn)(B:Bd)(EX:Nat->List V->Hp->Prop)(ir:IE):TE:=λσ H Q=>∃ρ env h,dg B.K ρ env σ H/\HR B ρ h H/\Post B EX ρ H (WV B.K Q) (aS Φ ir env h)
def Yh(Φ:Fn)(B:Bd)(EX:Nat->List V->Hp->Prop)(fh:nM):TA:=λσ H Q=>∃ρ env h,dg B.K ρ env σ H/\HR B ρ h H/\Post B EX ρ H (WVs B.K Q) (bC Φ fh env h)
def tT(Φ:Fn)(B:Bd)(EX:Nat->List V->Hp->Prop)(ir:IE):TT:=λσ H Q=>∃ρ env h,dg B.K ρ env σ H/\HR B ρ h H/\Post B EX ρ H (WT Q) (MJ Φ ir env h)
theorem _root_.L2.PE.imp(h:PE X e t)(i:∀σ H Q,t' σ H Q->t σ H Q):PE X e t':=λpins s σ H Q I hw=>h pins s σ H Q I (i σ H Q hw)
theorem _root_.L2.PT.imp(h:PT X e t)(i:∀σ H Q,t' σ H Q->t σ H Q):PT X e t':=λpins s σ H Q I hw=>h pins s σ H Q I (i σ H Q hw)
theorem _root_.L2.PA.imp(h:PA X es t)(i:∀σ H Q,t' σ H Q->t σ H Q):PA X es t':=λpos pins s σ H Q I hw=>h pos pins s σ H Q I (i σ H Q hw)
theorem _root_.L2.PO.imp(h:PO X e t)(i:∀σ H Q,t' σ H Q->t σ H Q):PO X e t':=λpins s σ H Q I hw=>h pins s σ H Q I (i σ H Q hw)
theorem _root_.L2.PI.imp(h:PI X tg iter t)(i:∀σ H R,t' σ H R->t σ H R):PI X tg iter t':=λpins s σ H R I hw=>h pins s σ H R I (i σ H R hw)
theorem bw{α β γ:Type}(m:M α)(f:α -> M β)(g:β -> M γ):bnd (bnd m f) g=bnd m λx=>bnd (f x) g:=by
 funext h;show (match (match m h with|.ok a h'=>f a h'|.exc c vs h'=>.exc c vs h'|.no=>.no) with|.ok a h'=>g a h'|.exc c vs h'=>.exc c vs h'|.no=>.no)=(match m h with|.ok a h'=>bnd (f a) g h'|.exc c vs h'=>.exc c vs h'|.no=>.no);cases m h<;>rfl
theorem dh{α β:Type}(a:α)(f:α -> M β):bnd (ret a) f=f a:=rfl
def ue(B:Bd)(n:Nat)(φ:List Val->M Val):Sp:=λxs H Q _=>∃ρ h vs,vs.length=n/\HR B ρ h H/\aI B.K ρ H vs xs/\Post B (λ_ _ _=>False) ρ H (WV B.K Q) (φ vs h)
def ON(P:Program)(w:World)(B:Bd)(mg:Str->Option Value)(base:Heap)(k n:Nat)(φ:List Val->M Val):Prop:=∀(A:Around) (outer:List PySem.Env) (s:Shared) (H:Hp) (us:List Value) (vs:List V) (Q:VK) (f:Addr) (ρ:List Addr) (h:Hs) (v:Val) (ws:List Val),dD k A->rG P w B.K mg base A outer s H->Vals vs us->vs.length=n ->
 HR B ρ h H->VR B.K ρ H (.clo v) (.ref f)->aI B.K ρ H ws vs->Post B (λ_ _ _=>False) ρ H (WV B.K Q) (φ (.clo v::ws) h)->codeAny (model P w) A (.call (.ref f) ⟨us,[]⟩) (CR tZ outer P w H s Q E0) s
def OO(P:Program)(w:World)(B:Bd)(mg:Str->Option Value)(base:Heap)(k:Nat)(j:Nat)(x:Str)(n:Nat)(φ:List Val->M Val):Prop :=
 (n<1000/\((∃(f:Addr) (fd:FuncData) (ps:List Str),ps.length=n/\mg x=some (.ref f)/\keepIn B.K (.ref f)=true/\Binds B.K fd ps []/\fU P w B.K mg base tZ k f fd ps (ue B n φ)) \/
  ∃(c:Nat) (f:Addr) (fd:FuncData) (ps:List Str) (φ0:List Val->M Val),φ = MC c φ0/\ps.length=n+1/\mg x=some (.ref (B.cl c))/\Mk B.K (B.cl c) f/\Binds B.K fd ps []/\fU P w B.K mg base tZ k f fd ps (ue B (n+1) φ0))) \/
 ((1000<=n/\n<3000)/\∃(fd:FuncData) (ps:List Str),ps.length=n-1000/\Binds B.K fd ps []/\fU P w B.K mg base tZ k (B.cl (1000+j)) fd ps (ue B (n-1000) φ)) \/
 (3000<=n/\ON P w B mg base k (n-3000) φ)
def bltNames:List Str:=["len","min","max","sorted","list","tuple","str","all","any","isinstance","range","enumerate","int","bool","dict","set","zip"]
structure Ctx (Φ:Fn) (Γ:tQ) (k:Nat) (X:Cx) (cl:Nat->Addr) (EX:Nat->List V->Hp->Prop):Prop where
 N:X.N = Γ.N
 sc:X.env.scope = Γ.sc
 calm:X.calm=true
 room:dD (k+1) X.A
 kQ:∀c xs H,¬ EX c xs H
 fns:∀j x n,Γ.fns[j]?=some (x,n)->OO X.prog X.w (bd X cl) X.mg X.base k j x n (Φ j)
 cls:∀c,c < Γ.tb.nc->Er X.K (cl c)/\∀x ∈ Γ.tb.KH,kR X.K (cl c) x
 DG:∀p ∈ Γ.tb.DG,Meth X.K (cl p.1) p.2.1 (cl (1000+p.2.2))
 Gh:∀p ∈ Γ.tb.Gh,∃C,X.mg p.1=some (.ref C)/\SG X.K C p.2.1 (cl (1000+p.2.2))
 isc:∀p ∈ Γ.tb.isc,∃C,X.mg p.1=some (.ref C)/\∀c b,p.2[c]?=some b->X6 X.K (cl c)/\kitOne X.K (.ref (cl c)) (.ref C)=some b
 cons:∀p ∈ Γ.cons,∃v u,X.mg p.1=some u/\RelV v u/\∀K ρ H,VR K ρ H p.2 v
 blt:∀x∈bltNames,X.mg x=none
section
variable {Φ:Fn} {Γ:tQ} {k:Nat} {X:Cx} {cl:Nat->Addr} {EX:Nat->List V->Hp->Prop}
theorem Ctx.units(c:Ctx Φ Γ k X cl EX):X.A.units+64<cLine:=c.room.units
theorem Ctx.vis(c:Ctx Φ Γ k X cl EX)(h:OJ Γ.sc x=true):RD X.env.scope x/\(x==("__debug__":Str))=false/\(x==("__classdict__":Str))=false:=by
 unfold OJ at h;simp only[and_eq_true,or_eq_true,beq_iff_eq,not_eq_true']at h;obtain⟨⟨h1,h2⟩,h3⟩:=h;refine⟨?_,h2,h3⟩;unfold RD;rw[c.sc]
 rcases h1 with (z|z)|z
 ·exact .inl z
 ·exact .inr (.inl z)
 ·exact .inr (.inr z)
theorem Ctx.gl(c:Ctx Φ Γ k X cl EX)(h:B6 Γ.sc x=true):Gl X x/\(x==("__debug__":Str))=false/\x ≠ "__name__":=by
 unfold B6 at h;simp only[and_eq_true,beq_iff_eq,not_eq_true']at h;obtain⟨⟨h1,h2⟩,h3⟩:=h;refine⟨?_,h2,λz=>by rw[z]at h3;simp at h3⟩;show X.env.scope.names.lookup x=_;rw[c.sc];exact h1
theorem Ctx.MI(c:Ctx Φ Γ k X cl EX)(scope:Scope)(N':List Str)(cls:List (Str×Addr))(C:Addr)(s:Shared)(H:Hp)(fp:List Addr):Ctx Φ (Γ.MI scope N') k (bY X scope N' cls C s H fp) cl EX:=by
 refine⟨rfl,?_,c.calm,c.room,c.kQ,c.fns,c.cls,c.DG,c.Gh,c.isc,c.cons,c.blt⟩;show relabel scope X.env=MH scope Γ.sc;rw[<-c.sc];rfl
theorem bx(h:noStar e=true):starEach (e::es) env=(false,eval e env)::starEach es env:=by
 cases e<;>first|rfl|(simp[noStar]at h)
theorem gg:∀{es:List Expr} {fh:nM},aY Γ fh es=true->(backTo pos (starEach es env)).any (·.1)=false
 |[],_,_=>rfl
 |e::es,.nil,h=>by simp[aY]at h
 | e::es,.cons i fh,h=>by
  simp only[aY,and_eq_true]at h;rw[bx h.1.1];show (false||(backTo pos (starEach es env)).any (·.1))=false;rw[gg (fh:=fh) h.2];rfl
theorem yx(h:aY Γ fh es=true):(backTo pos (starEach es env)).all (λx=>!x.1)=true:=by
 have q:=gg (pos:=pos) (env:=env) h;rw[all_eq_true];intro x hx;have:=List.any_eq_false.mp q x hx;simpa using this
theorem AQ(h:qU e=true):BG e:=by
 intro o i;cases e<;>first|rfl|(simp[qU]at h)
theorem super_ok(h:superB e=true):attributeBase e x env whole=whole:=by
 cases e<;>first
  |rfl
  |skip
 rename_i f args kws pos;cases f<;>first
  |rfl
  |skip
 cases args with
 |cons a r=>rfl
 |nil=>
  cases kws with
  |cons a r=>rfl
  |nil=>simp[superB]at h
theorem dO(q:PE X e (tV Φ (bd X cl) EX ir))(he:∀whole,isTrue e X.env whole=(do let v <-whole;standAt e.pos;holding [v] (truthy v))):PT X e (tT Φ (bd X cl) EX ir) :=
 (EN q he).imp λσ H Q ⟨ρ,env,h,hE,r,p⟩=>⟨ρ,env,h,hE,r,aF p λv h1 ρ1 x H1 g1 r1 q1 p1=>by
  obtain⟨b,e,w⟩:=dG r1 p1;exact⟨b,Oe r1 q1 e,w⟩⟩
theorem EL:Vo X (unaryOp .USub) (λx H Q=>∃i,x=.int i/\Q (.int (-i)) H):=by
 intro pins s σ H x v Q I rx h;obtain⟨i,rfl,q⟩:=h;obtain⟨t,rfl⟩:=rx;exact neg_int ⟨.int (-i),H,I.tok _,⟨_,rfl⟩,q⟩
theorem MK(h:PT X (.BoolOp op vs pos) t):PW X (.BoolOp op vs pos) t:=λwhole pins s σ H Q I hw=>h pins s σ H Q I hw
def cC(Φ:Fn)(ir:IE):Prop:=∀(Γ:tQ) (k:Nat) (X:Cx) (cl:Nat->Addr) (EX:Nat->List V->Hp->Prop) (e:Expr),Ctx Φ Γ k X cl EX->bD Γ ir e=true->PE X e (tV Φ (bd X cl) EX ir)/\PT X e (tT Φ (bd X cl) EX ir)
def k8(Φ:Fn)(fh:nM):Prop:=(∀(Γ:tQ) (k:Nat) (X:Cx) (cl:Nat->Addr) (EX:Nat->List V->Hp->Prop) (es:List Expr),Ctx Φ Γ k X cl EX->aY Γ fh es=true->PA X es (Yh Φ (bd X cl) EX fh))/\match fh with
 |.nil=>True
 | .cons e r=>cC Φ e/\match r with
  |.nil=>True
  |.cons e' _=>cC Φ e'
theorem KJ(h:OL o op=true):op=FO o:=aay h
theorem KL(h:Tc o op=true):op=BW o:=aay h
theorem o9(hs:∀env h,aS Φ ir env h=.no):cC Φ ir:=by
 intro Γ k X cl EX e c h;exact⟨λpins s σ H Q I ⟨ρ,env,h,hE,r,p⟩=>by rw[hs]at p;exact p.elim,λpins s σ H Q I ⟨ρ,env,h,hE,r,p⟩=>by unfold MJ bnd at p;rw[hs]at p;exact p.elim⟩
theorem OP{i:Nat}:cC Φ (.var i):=by
 intro Γ k X cl EX e c h;apply qS h;intro x pos h;simp only[and_eq_true,beq_iff_eq]at h;obtain⟨v1,v2,v3⟩:=c.vis h.2;have q:PE X (.Name x pos) (tV Φ (bd X cl) EX (.var i)):=by refine(Ez (by rw[c.N];exact h.1) v1 v2 v3).imp λσ H Q aT=>?_;obtain⟨ρ,env,h,hE,r,p⟩:=aT;rw[aS.eq_def]at p;dsimp only at p;obtain⟨d,e1,w⟩:=cT r p;split at e1<;>cases e1;rename_i e1;obtain⟨x,e2,e3⟩:=hE i d e1;exact⟨x,e2,w x e3⟩
 exact⟨q,dO q λ_=>rfl⟩
theorem OQ:cC Φ (.cst d):=by
 intro Γ k X cl EX e c h;apply yu h;intro cc j pos h;have q:PE X (.Constant cc j pos) (tV Φ (bd X cl) EX (.cst d)):=by
  unfold Gi at h;split at h<;>first|cases h|skip
  ·refine M6.imp λσ H Q aT=>?_;obtain⟨ρ,env,h,hE,r,p⟩:=aT;simp only[aS]at p;exact ao r p _ VR.non
  ·cases eq_of_beq h;refine RJ.imp λσ H Q aT=>?_;obtain⟨ρ,env,h,hE,r,p⟩:=aT;simp only[aS]at p;exact ao r p _ VR.bl
  ·cases eq_of_beq h;refine M5.imp λσ H Q aT=>?_;obtain⟨ρ,env,h,hE,r,p⟩:=aT;simp only[aS]at p;exact ao r p _ VR.int
  ·cases eq_of_beq h;refine M7.imp λσ H Q aT=>?_;obtain⟨ρ,env,h,hE,r,p⟩:=aT;simp only[aS]at p;exact ao r p _ VR.str
 exact⟨q,dO q λ_=>rfl⟩
theorem DI(h:AO a b=true):a=b:=by
 unfold AO at h;split at h<;>first|rfl|(cases eq_of_beq h;rfl)|cases h
theorem OS:cC Φ (.con x d):=by
 intro Γ k X cl EX e c h;apply qS h;intro y pos h;simp only[and_eq_true,beq_iff_eq]at h;obtain⟨⟨h1,h2⟩,h3⟩:=h;subst h1;obtain⟨g1,g2,g3⟩:=c.gl h2;obtain⟨p,hp,h4⟩:=List.any_eq_true.mp h3;simp only[and_eq_true,beq_iff_eq]at h4;obtain⟨v,u,m1,m2,m3⟩:=c.cons p hp;rw[h4.1]at m1;have q:PE X (.Name x pos) (tV Φ (bd X cl) EX (.con x d)):=by refine(JN g1 m1 m2 g2).imp λσ H Q aT=>?_;obtain⟨ρ,env,h,hE,r,p⟩:=aT;simp only[aS]at p;exact ao r p _ (by rw[<-DI h4.2];exact m3 _ _ _)
 exact⟨q,dO q λ_=>rfl⟩
theorem Te:cC Φ .no:=by
 intro Γ k X cl EX e c h
 (conv at h=>lhs;whnf);cases h
theorem Gk:k8 Φ .nil:=by
 refine⟨fun Γ k X cl EX es c h=>?_,trivial⟩;rw[aY]at h;cases es with
 |cons a r=>cases h
 |nil=>refine ET.imp λσ H Q aT=>?_;obtain⟨ρ,env,h,hE,r,p⟩:=aT;simp only[bC]at p;exact ao r p _ aI.nil
theorem B8(h1:cC Φ e)(h2:k8 Φ es):k8 Φ (.cons e es):=by
 refine⟨fun Γ k X cl EX ls c h=>?_,h1,?_⟩
 ·rw[aY.eq_def]at h;dsimp only at h
  cases ls with
  |nil=>cases h
  |cons l ls=>simp only[and_eq_true]at h;refine(vQ (h1 Γ k X cl EX l c h.1.2).1 (h2.1 Γ k X cl EX ls c h.2) (bx h.1.1)).imp λσ H Q aT=>?_;obtain⟨ρ,env,h,hE,r,p⟩:=aT;simp only[bC]at p;refine⟨ρ,env,h,hE,r,aF p λv h1 ρ1 x H1 g1 r1 q1 p1=>⟨ρ1,env,h1,hE.up g1,r1,bA p1 λvs h2 ρ2 H2 g2 r2 p2 xs q2=>?_⟩⟩;exact ao r2 p2 _ (aI.cons (VR.up g2 _ _ q1) q2)
 ·cases es with
  |nil=>trivial
  |cons e' r=>exact h2.2.1
theorem OT(ha:cC Φ a)(hb:cC Φ b):cC Φ (.bin o a b):=by
 intro Γ k X cl EX e c h;apply Ou h;intro l op r pos h;simp only[and_eq_true]at h;obtain⟨⟨h1,h2⟩,h3⟩:=h;have eo:op=FO o:=KJ h1;subst eo;have q:PE X (.BinOp l (FO o) r pos) (tV Φ (bd X cl) EX (.bin o a b)):=by refine(R6 (N9 (cl:=cl) (EX:=EX) o) (ha Γ k X cl EX l c h2).1 (hb Γ k X cl EX r c h3).1).imp λσ H Q aT=>?_;obtain⟨ρ,env,h,hE,r,p⟩:=aT;simp only[aS]at p;exact⟨ρ,env,h,hE,r,aF p λv h1 ρ1 x H1 g1 r1 q1 p1=>⟨ρ1,env,h1,hE.up g1,r1,aF p1 λw h2 ρ2 y H2 g2 r2 q2 p2=>⟨ρ2,h2,v,w,r2,VR.up g2 _ _ q1,q2,p2⟩⟩⟩
 exact⟨q,dO q λ_=>rfl⟩
theorem OU(ha:cC Φ a):cC Φ (.neg a):=by
 intro Γ k X cl EX e c h;apply ME h;intro q1 l pos h;apply yv h;intro h;have q:PE X (.UnaryOp .USub l pos) (tV Φ (bd X cl) EX (.neg a)):=by
  refine(R7 EL (ha Γ k X cl EX l c h).1).imp λσ H Q aT=>?_;obtain⟨ρ,env,h,hE,r,p⟩:=aT;simp only[aS]at p;refine⟨ρ,env,h,hE,r,aF p λv h1 ρ1 x H1 g1 r1 q1 p1=>?_⟩;cases v<;>first|exact p1.elim|skip
  rw[VR]at q1;exact⟨_,q1,ao r1 p1 _ VR.int⟩
 exact⟨q,dO q λ_=>rfl⟩
theorem OV(ha:cC Φ a)(hb:cC Φ b):cC Φ (.cmp o a b):=by
 intro Γ k X cl EX e c h;apply Ov h;intro l q1 q2 pos h;apply qE h;intro op h;apply qE h;intro r h;simp only[and_eq_true,not_eq_true']at h;obtain⟨⟨⟨h1,h4⟩,h2⟩,h3⟩:=h;have eo:op=BW o:=KL h1;subst eo;refine⟨(JZ (FT (cl:=cl) c.units o) (ha Γ k X cl EX l c h2).1 (hb Γ k X cl EX r c h3).1 h4).imp λσ H Q ⟨ρ,env,h,hE,r,p⟩=>?_,(J0 (FT (cl:=cl) c.units o) (ha Γ k X cl EX l c h2).1 (hb Γ k X cl EX r c h3).1 h4).imp λσ H Q ⟨ρ,env,h,hE,r,p⟩=>?_⟩
 ·simp only[aS]at p;refine⟨ρ,env,h,hE,r,aF p λv h1 ρ1 x H1 g1 r1 q1 p1=>⟨ρ1,env,h1,hE.up g1,r1,aF p1 λw h2 ρ2 y H2 g2 r2 q2 p2=>?_⟩⟩;obtain⟨t,e,p3⟩:=aH p2;exact⟨ρ2,h2,v,w,t,r2,VR.up g2 _ _ q1,q2,e,ao r2 p3 _ VR.bl⟩
 ·simp only[MJ,aS,bw,dh]at p;refine⟨ρ,env,h,hE,r,aF p λv h1 ρ1 x H1 g1 r1 q1 p1=>⟨ρ1,env,h1,hE.up g1,r1,aF p1 λw h2 ρ2 y H2 g2 r2 q2 p2=>?_⟩⟩;obtain⟨t,e,p3⟩:=aH p2;obtain⟨t',e',w'⟩:=dG r2 p3;cases (show some t=some t' from e');exact⟨ρ2,h2,v,w,t,r2,VR.up g2 _ _ q1,q2,e,t,rfl,w'⟩
theorem OW(ha:cC Φ a)(hb:cC Φ b)(hd:cC Φ d):cC Φ (.chn o o' a b d):=o9 λ_ _=>rfl
end
section
variable {B:Bd} {EX:Nat->List V->Hp->Prop} {ρ:List Addr} {H:Hp} {β:Type} {W:β -> Hs->List Addr->Hp->Prop} {h:Hs}
theorem post_bool(p:Post B EX ρ H W (bnd (rZ v) f h)):∃t,v=.bl t/\Post B EX ρ H W (f t h):=by
 cases v with
 |bl t=>exact⟨t,rfl,p⟩
 |_=>exact p.elim
theorem k9(p:Post B EX ρ H W (bnd m F h))(k:∀v h1,Post B EX ρ H W (F v h1)->∃t,ck h1 v=some t/\∀ρ1 H1,Gr ρ H ρ1 H1->HR B ρ1 h1 H1->Q t H1) :
  Post B EX ρ H (WT Q) (bnd m (λx=>ask λh=>ck h x) h):=by
 unfold bnd at p |-;cases e:m h with
 |ok v h1=>
  rw[e]at p;obtain⟨t,e1,q⟩:=k v h1 p;show Post B EX ρ H (WT Q) (ask (λh=>ck h v) h1);have e2:ask (λh=>ck h v) h1=.ok t h1:=by unfold ask bH;dsimp only;rw[e1]
  rw[e2];exact λρ1 H1 g r=>q ρ1 H1 g r
 |exc c vs h1=>rw[e]at p;exact p
 |no=>rw[e]at p;exact p
end
section
variable {Φ:Fn} {Γ:tQ} {k:Nat} {X:Cx} {cl:Nat->Addr} {EX:Nat->List V->Hp->Prop}
theorem OX(ha:cC Φ a)(hb:cC Φ b):cC Φ (.and a b):=by
 intro Γ k X cl EX e c h;apply u6 h;intro q1 q2 pos h;apply yv h;intro h;apply AM h;intro l q3 h;apply AM h;intro m r h;simp only[and_eq_true]at h;obtain⟨h1,h2⟩:=h;have hB:PE X (.BoolOp .And (m::r) pos) (tV Φ (bd X cl) EX b)/\PW X (.BoolOp .And (m::r) pos) (tT Φ (bd X cl) EX b):=by
  cases r with
  |nil=>exact⟨EA (hb Γ k X cl EX m c h2).1,JP (hb Γ k X cl EX m c h2).2⟩
  |cons n r'=>exact⟨(hb Γ k X cl EX _ c h2).1,MK (hb Γ k X cl EX _ c h2).2⟩
 refine⟨(Nb (ha Γ k X cl EX l c h1).1 hB.1).imp λσ H Q ⟨ρ,env,h,hE,r,p⟩=>?_,(M9 (ha Γ k X cl EX l c h1).2 hB.2).pt.imp λσ H Q ⟨ρ,env,h,hE,r,p⟩=>?_⟩
 ·simp only[aS]at p
  refine⟨ρ,env,h,hE,r,aF p λv h1 ρ1 x H1 g1 r1 q1 p1=>?_⟩;obtain⟨t,rfl,p2⟩:=post_bool p1;rw[VR]at q1;refine⟨t,q1,?_⟩;cases t with
  |true=>rw[aaj rfl]at p2 |-;refine⟨ρ1,env,h1,hE.up g1,r1,aF p2 λw h2 ρ2 y H2 g2 r2 q2 p3=>?_⟩;obtain⟨u,rfl,p4⟩:=post_bool p3;exact ao r2 p4 _ q2
  |false=>rw[aam aac]at p2 |-;exact ao r1 p2 _ VR.bl
 ·simp only[MJ,aS,bw]at p
  refine⟨ρ,env,h,hE,r,k9 p λv h1 p1=>?_⟩;obtain⟨t,rfl,p2⟩:=post_bool p1;refine⟨t,rfl,λρ1 H1 g1 r1=>?_⟩;have p2:=Post.up g1 p2;cases t with
  |true=>rw[aaj rfl]at p2 |-;simp only[bw,dh]at p2;refine⟨ρ1,env,h1,hE.up g1,r1,k9 p2 λw h2 p3=>?_⟩;obtain⟨u,rfl,p4⟩:=post_bool p3;exact⟨u,rfl,λρ2 H2 g2 r2=>by obtain⟨t',e',w'⟩:=dG r2 (Post.up g2 p4);cases (show some u=some t' from e');exact w'⟩
  |false=>rw[aam aac]at p2 |-;obtain⟨t',e',w'⟩:=dG r1 (show Post _ _ ρ1 H1 _ (ask (λh=>ck h (.bl false)) h1) from p2);cases (show some false=some t' from e');exact w'
theorem Tf(ha:cC Φ a)(hb:cC Φ b):cC Φ (.or a b):=by
 intro Γ k X cl EX e c h;apply u6 h;intro q1 q2 pos h;apply yv h;intro h;apply AM h;intro l q3 h;apply AM h;intro m r h;simp only[and_eq_true]at h;obtain⟨h1,h2⟩:=h;have hB:PE X (.BoolOp .Or (m::r) pos) (tV Φ (bd X cl) EX b)/\PW X (.BoolOp .Or (m::r) pos) (tT Φ (bd X cl) EX b):=by
  cases r with
  |nil=>exact⟨EA (hb Γ k X cl EX m c h2).1,M8 (hb Γ k X cl EX m c h2).2⟩
  |cons n r'=>exact⟨(hb Γ k X cl EX _ c h2).1,MK (hb Γ k X cl EX _ c h2).2⟩
 refine⟨(RP (ha Γ k X cl EX l c h1).1 hB.1).imp λσ H Q ⟨ρ,env,h,hE,r,p⟩=>?_,(RK (ha Γ k X cl EX l c h1).2 hB.2).pt.imp λσ H Q ⟨ρ,env,h,hE,r,p⟩=>?_⟩
 ·simp only[aS]at p
  refine⟨ρ,env,h,hE,r,aF p λv h1 ρ1 x H1 g1 r1 q1 p1=>?_⟩;obtain⟨t,rfl,p2⟩:=post_bool p1;rw[VR]at q1;refine⟨t,q1,?_⟩;cases t with
  |false=>rw[aam aac]at p2 |-;refine⟨ρ1,env,h1,hE.up g1,r1,aF p2 λw h2 ρ2 y H2 g2 r2 q2 p3=>?_⟩;obtain⟨u,rfl,p4⟩:=post_bool p3;exact ao r2 p4 _ q2
  |true=>rw[aaj rfl]at p2 |-;exact ao r1 p2 _ VR.bl
 ·simp only[MJ,aS,bw]at p
  refine⟨ρ,env,h,hE,r,k9 p λv h1 p1=>?_⟩;obtain⟨t,rfl,p2⟩:=post_bool p1;refine⟨t,rfl,λρ1 H1 g1 r1=>?_⟩;have p2:=Post.up g1 p2;cases t with
  |false=>rw[aam aac]at p2 |-;simp only[bw,dh]at p2;refine⟨ρ1,env,h1,hE.up g1,r1,k9 p2 λw h2 p3=>?_⟩;obtain⟨u,rfl,p4⟩:=post_bool p3;exact⟨u,rfl,λρ2 H2 g2 r2=>by obtain⟨t',e',w'⟩:=dG r2 (Post.up g2 p4);cases (show some u=some t' from e');exact w'⟩
  |true=>rw[aaj rfl]at p2 |-;obtain⟨t',e',w'⟩:=dG r1 (show Post _ _ ρ1 H1 _ (ask (λh=>ck h (.bl true)) h1) from p2);cases (show some true=some t' from e');exact w'
theorem OY(ha:cC Φ a):cC Φ (.not a):=by
 intro Γ k X cl EX e c h;apply ME h;intro q1 l pos h;apply yv h;intro h;refine⟨(Nc (ha Γ k X cl EX l c h).1).imp λσ H Q ⟨ρ,env,h,hE,r,p⟩=>?_,(Na (ha Γ k X cl EX l c h).2).imp λσ H Q ⟨ρ,env,h,hE,r,p⟩=>?_⟩
 ·simp only[aS]at p;refine⟨ρ,env,h,hE,r,aF p λv h1 ρ1 x H1 g1 r1 q1 p1=>?_⟩;obtain⟨t,rfl,p2⟩:=post_bool p1;rw[VR]at q1;exact⟨t,q1,ao r1 p2 _ VR.bl⟩
 ·simp only[MJ,aS,bw]at p;refine⟨ρ,env,h,hE,r,k9 p λv h1 p1=>?_⟩;obtain⟨t,rfl,p2⟩:=post_bool p1;refine⟨t,rfl,λρ1 H1 g1 r1=>?_⟩;obtain⟨t',e',w'⟩:=dG r1 (show Post _ _ ρ1 H1 _ (ask (λh=>ck h (.bl (!t))) h1) from Post.up g1 p2);cases (show some (!t)=some t' from e');exact w'
theorem OZ(ht:cC Φ t)(ha:cC Φ a)(hb:cC Φ b):cC Φ (.ite t a b):=by
 intro Γ k X cl EX e c h;apply SS h;intro l m r pos h;simp only[and_eq_true]at h;obtain⟨⟨h1,h2⟩,h3⟩:=h;refine⟨(EB (ht Γ k X cl EX l c h1).2 (ha Γ k X cl EX m c h2).1 (hb Γ k X cl EX r c h3).1).imp λσ H Q ⟨ρ,env,h,hE,r,p⟩=>?_,?_⟩
 ·simp only[aS]at p
  refine⟨ρ,env,h,hE,r,k9 p λv h1 p1=>?_⟩;obtain⟨s,e1,p2⟩:=aH p1;refine⟨s,e1,λρ1 H1 g1 r1=>?_⟩;have p2:=Post.up g1 p2;cases s with
  |true=>rw[aaj rfl]at p2 |-;exact⟨ρ1,env,h1,hE.up g1,r1,p2⟩
  |false=>rw[aam aac]at p2 |-;exact⟨ρ1,env,h1,hE.up g1,r1,p2⟩
 ·intro pins s σ H Q I ⟨ρ,env,h,hE,rr,p⟩
  simp only[MJ,aS,bw]at p;refine isTrue_IfExp (cK ((ht Γ k X cl EX l c h1).2 pins s σ H (λb' H1=>if b'=true then tT Φ (bd X cl) EX a σ H1 Q else tT Φ (bd X cl) EX b σ H1 Q) I ⟨ρ,env,h,hE,rr,k9 p λv h1 p1=>?_⟩) λb' s2 ⟨H2,I2,q⟩=>?_)
  ·obtain⟨s,e1,p2⟩:=aH p1
   refine⟨s,e1,λρ1 H1 g1 r1=>?_⟩;have p2:=Post.up g1 p2;cases s with
   |true=>rw[aaj rfl]at p2 |-;exact⟨ρ1,env,h1,hE.up g1,r1,p2⟩
   |false=>rw[aam aac]at p2 |-;exact⟨ρ1,env,h1,hE.up g1,r1,p2⟩
  ·cases b' with
   |true=>rw[aaj rfl]at q;exact(ha Γ k X cl EX m c h2).2 pins s2 σ H2 Q I2 q
   |false=>rw[aam aac]at q;exact(hb Γ k X cl EX r c h3).2 pins s2 σ H2 Q I2 q
theorem O0(hs:k8 Φ es):cC Φ (.tup es):=by
 intro Γ k X cl EX e c h;apply Ow h;intro ls x1 pos h;have q:PE X (.Tuple ls x1 pos) (tV Φ (bd X cl) EX (.tup es)):=by refine(NF (hs.1 Γ k X cl EX ls c h)).imp λσ H Q aT=>?_;obtain⟨ρ,env,h,hE,r,p⟩:=aT;simp only[aS]at p;refine⟨ρ,env,h,hE,r,bA p λvs h1 ρ1 H1 g1 r1 p1 xs q1=>?_⟩;obtain⟨e1,p2⟩:=bu p1;exact⟨by rw[<-q1.length];exact aay e1,λq hq=>yq r1 hq q1 p2⟩
 exact⟨q,dO q λ_=>rfl⟩
theorem O3(hs:k8 Φ es):cC Φ (.lst es):=by
 intro Γ k X cl EX e c h;apply Ox h;intro ls pos h;have q:PE X (.List ls pos) (tV Φ (bd X cl) EX (.lst es)):=by refine(NG (hs.1 Γ k X cl EX ls c h)).imp λσ H Q aT=>?_;obtain⟨ρ,env,h,hE,r,p⟩:=aT;simp only[aS]at p;refine⟨ρ,env,h,hE,r,bA p λvs h1 ρ1 H1 g1 r1 p1 xs q1=>?_⟩;obtain⟨e1,p2⟩:=bu p1;exact⟨by rw[<-q1.length];exact aay e1,λq hq=>eW r1 hq q1 p2⟩
 exact⟨q,dO q λ_=>rfl⟩
theorem KN:cC Φ .dct0:=by
 intro Γ k X cl EX e c h;apply B0 h;intro q1 q2 pos h;apply m8 h;intro h;apply m8 h;intro h;have q:PE X (.Dict [] [] pos) (tV Φ (bd X cl) EX .dct0):=by refine(E6 (X:=X) (pos:=pos)).imp λσ H Q aT=>?_;obtain⟨ρ,env,h,hE,r,p⟩:=aT;simp only[aS]at p;exact λa ha=>yo (o:=.dct []) (O:=.dK []) r ha ⟨[],aD,(by rw[je])⟩ p
 exact⟨q,dO q λ_=>rfl⟩
theorem O4(ha:cC Φ a)(hb:cC Φ b):cC Φ (.idx a b):=by
 intro Γ k X cl EX e c h;apply AL h;intro l r pos h;simp only[and_eq_true]at h;have q:PE X (.Subscript l r pos) (tV Φ (bd X cl) EX (.idx a b)):=by refine(Sk (Of (cl:=cl) c.units) (ha Γ k X cl EX l c h.1.2).1 (hb Γ k X cl EX r c h.2).1 (AQ h.1.1)).imp λσ H Q aT=>?_;obtain⟨ρ,env,h,hE,r,p⟩:=aT;simp only[aS]at p;refine⟨ρ,env,h,hE,r,aF p λv h1 ρ1 x H1 g1 r1 q1 p1=>⟨ρ1,env,h1,hE.up g1,r1,aF p1 λw h2 ρ2 y H2 g2 r2 q2 p2=>?_⟩⟩;obtain⟨z,e,w'⟩:=dG r2 p2;exact⟨ρ2,h2,v,w,z,r2,VR.up g2 _ _ q1,q2,e,w'⟩
 exact⟨q,dO q λ_=>rfl⟩
def Tg(Φ:Fn)(ir:IE)(env:Env):M (Option Int):=if dU ir=true then ret none else bnd (aS Φ ir env) λv=>bnd (bH (kj v)) λi=>ret (some i)
def tP(Φ:Fn)(B:Bd)(EX:Nat->List V->Hp->Prop)(ir:IE):TO:=λσ H Q=>∃ρ env h,dg B.K ρ env σ H/\HR B ρ h H/\Post B EX ρ H (λo _ _ H'=>Q o H') (Tg Φ ir env h)
theorem DJ{i:Int}(h:kj d=some i):d=.int i:=by cases d<;>cases h;rfl
theorem B9(hi:cC Φ ir)(c:Ctx Φ Γ k X cl EX)(h:(match o with|none=>dU ir|some e=>!dU ir&&bD Γ ir e)=true):PO X o (tP Φ (bd X cl) EX ir):=by
 cases o with
 |none=>refine J5.imp λσ H Q aT=>?_;obtain⟨ρ,env,h',hE,r,p⟩:=aT;unfold Tg at p;rw[aaj h]at p;exact ao r p
 |some e=>simp only[and_eq_true,not_eq_true']at h;refine(J6 (hi Γ k X cl EX e c h.2).1).imp λσ H Q aT=>?_;obtain⟨ρ,env,h',hE,r,p⟩:=aT;unfold Tg at p;rw[aam (by rw[h.1];exact aac)]at p;refine⟨ρ,env,h',hE,r,aF p λv h1 ρ1 x H1 g1 r1 q1 p1=>?_⟩;obtain⟨i,e1,p2⟩:=cO p1;cases DJ e1;rw[VR]at q1;exact⟨i,q1,ao r1 p2⟩
theorem O5{a lo hi:IE}(ha:cC Φ a)(hl:cC Φ lo)(hh:cC Φ hi):cC Φ (.slc a lo hi):=by
 intro Γ k X cl EX e c h;apply AL h;intro l q1 pos h;apply Oz h;intro l' h' q2 p2 h;apply B3 h;intro h;simp only[and_eq_true]at h;have q:PE X (.Subscript l (.Slice l' h' none p2) pos) (tV Φ (bd X cl) EX (.slc a lo hi)):=by refine(EZ (Og (cl:=cl) (EX:=EX)) (ha Γ k X cl EX l c h.1.1).1 (B9 hl c h.1.2) (B9 hh c h.2)).imp λσ H Q aT=>?_;obtain⟨ρ,env,h,hE,r,p⟩:=aT;simp only[aS]at p;refine⟨ρ,env,h,hE,r,aF p λv h1 ρ1 x H1 g1 r1 q1 p1=>⟨ρ1,env,h1,hE.up g1,r1,bA (m:=Tg Φ lo env) p1 λlo' h2 ρ2 H2 g2 r2 p3=>⟨ρ2,env,h2,(hE.up g1).up g2,r2,bA (m:=Tg Φ hi env) p3 λhi' h3 ρ3 H3 g3 r3 p4=>?_⟩⟩⟩;exact⟨ρ3,h3,v,r3,VR.up (g2.trans g3) _ _ q1,p4⟩
 exact⟨q,dO q λ_=>rfl⟩
theorem O6(ha:cC Φ a)(hs:cC Φ sx):cC Φ (.rev a sx):=o9 λ_ _=>rfl
theorem jr:∀{fh:nM} {ls:List Expr} {vs:List Val} {h h':Hs},aY Γ fh ls=true->bC Φ fh env h=.ok vs h'->vs.length=ls.length:=by
 intro fh
 induction fh using nM.rec (motive_1:=λ_=>True) with
 |nil=>
  intro ls ds h h' a b;rw[aY]at a;simp only[bC,ret]at b;cases b;cases ls with
  |nil=>rfl
  |cons _ _=>cases a
 |cons e es _ ih=>
  intro ls ds h h' a b;rw[aY.eq_def]at a;dsimp only at a;cases ls with
  |nil=>cases a
  |cons l ls=>
   simp only[and_eq_true]at a;simp only[bC,bnd]at b;cases e1:aS Φ e env h with
   |ok v h1=>
    rw[e1]at b;dsimp only at b;cases e2:bC Φ es env h1 with
    |ok vs h2=>rw[e2]at b;cases b;simp[ih a.2 e2]
    |exc _ _ _=>rw[e2]at b;cases b
    |no=>rw[e2]at b;cases b
   |exc _ _ _=>rw[e1]at b;cases b
   |no=>rw[e1]at b;cases b
 |_=>trivial
theorem eX{α β:Type}{W:β -> Hs->List Addr->Hp->Prop}{W':α -> Hs->List Addr->Hp->Prop}{m:M α}{f:α -> M β}(p:Post B EX ρ H W (bnd m f h))(k:∀v h1 ρ1 H1,m h=.ok v h1->Gr ρ H ρ1 H1->HR B ρ1 h1 H1->Post B EX ρ1 H1 W (f v h1)->W' v h1 ρ1 H1):Post B EX ρ H W' (m h):=by
 unfold bnd at p;cases e:m h with
 |ok v h1=>rw[e]at p;exact λρ1 H1 g r=>k v h1 ρ1 H1 e g r (Post.up g p)
 |exc c vs h1=>rw[e]at p;exact p
 |no=>rw[e]at p;exact p
theorem eN{α:Type}{h:Hs}{W:α -> Hs->List Addr->Hp->Prop}{o:Out α}(n:∀c xs H,¬ EX c xs H)(p:Post B EX ρ H W o):Post B (λ_ _ _=>False) ρ H W o:=by
 cases o with
 |ok a h'=>exact p
 |exc c vs h'=>exact λρ' H' xs g r q=>n _ _ _ (p ρ' H' xs g r q)
 |no=>exact p
theorem Ca{n c:Nat}{φ0:List Val->M Val}(r:HR B ρ h H)(hv:aI B.K ρ H vs xs)(hl:vs.length=n)(p:Post B (λ_ _ _=>False) ρ H (WV B.K Q) (MC c φ0 vs h))
  (nx:H x=none) (nd:H dx=none) (ne:dx≠x):ue B (n+1) φ0 (.ref x::xs) (upd (upd H dx (.own x)) x (.ins (B.cl c) dx [])) (λv H2=>v=.non/\Q (.ref x) H2) E:=by
 have r1:HR B ρ h (upd H dx (.own x)):=r.side nd;have Yi:(upd H dx (.own x)) x=none:=by rw[ak λz=>ne z.symm];exact nx
 have g:Gr ρ H (ρ ++ [x]) (upd (upd H dx (.own x)) x (.ins (B.cl c) dx [])):=(Gr.side nd).trans (Gr.new Yi);have r2:HR B (ρ ++ [x]) (h++[.ins c []]) (upd (upd H dx (.own x)) x (.ins (B.cl c) dx [])):=r1.new Yi ⟨dx,[],aD,rfl⟩;have hx:(ρ ++ [x])[h.length]?=some x:=by rw[<-r.len];simp
 refine⟨ρ ++ [x],h++[.ins c []],.ref h.length::vs,by simp[hl],r2,aI.cons (VR.ref hx) (aI.up g _ _ hv),?_⟩;have p2:Post B (λ_ _ _=>False) (ρ ++ [x]) (upd (upd H dx (.own x)) x (.ins (B.cl c) dx [])) (WV B.K Q) (bnd (φ0 (.ref h.length::vs)) (λr=>match r with|.non=>ret (.ref h.length)|_=>bH none) (h++[.ins c []])):=Post.up g p;refine bA p2 λv h1 ρ1 H1 g1 r3 p3 y hy=>?_;cases v<;>first|exact p3.elim|skip
 rw[VR]at hy;exact⟨hy,ao r3 p3 _ (VR.ref (qQ g1.pre hx))⟩
theorem KO{j:Nat}{k:Nat}(hs:k8 Φ es)(c:Ctx Φ Γ k X cl EX)
  (h:(B6 Γ.sc x && Γ.fns[j]?==some (x,args.length)&&decide (args.length<1000)&&aY Γ es args)=true):PE X (.Call (.Name x p) args [] pos) (tV Φ (bd X cl) EX (.call j es))/\PT X (.Call (.Name x p) args [] pos) (tT Φ (bd X cl) EX (.call j es)):=by
 simp only[and_eq_true,beq_iff_eq,decide_eq_true_eq]at h;obtain⟨⟨⟨h1,h2⟩,h3⟩,h4⟩:=h;obtain⟨g1,g2,g3⟩:=c.gl h1;have room:dD k X.A:=c.room.mono (le_succ k);have q:PE X (.Call (.Name x p) args [] pos) (tV Φ (bd X cl) EX (.call j es)):=by
  rcases c.fns j x _ h2 with ⟨_,⟨f,fd,ps,f1,f2,f3,f4,f5⟩|⟨cc,f,fd,ps,φ0,f0,f1,f2,f3,f4,f5⟩⟩|⟨⟨z,_⟩,_⟩|⟨z,_⟩
  ·cases args with
   |nil=>
    cases es with
    |cons i fh=>rw[aY.eq_def]at h4;cases h4
    |nil=>refine(EU f5 room g1 f2 f3 f4 .nil uI g2).imp λσ H Q aT=>?_;obtain⟨ρ,env,h,hE,r,p⟩:=aT;simp only[aS,bC,dh]at p;exact⟨ρ,h,[],rfl,r,aI.nil,eN (h:=h) c.kQ p⟩
   |cons l ls=>
    cases es with
    |nil=>rw[aY]at h4;cases h4
    |cons i fh=>have h5:=h4;rw[aY.eq_def]at h5;dsimp only at h5;simp only[and_eq_true]at h5;refine(J2 f5 room g1 f2 f3 f4 .nil uI (hs.1 Γ k X cl EX _ c h4) g2 (bx h5.1.1) (gg h5.2)).imp λσ H Q aT=>?_;obtain⟨ρ,env,h,hE,r,p⟩:=aT;simp only[aS]at p;refine⟨ρ,env,h,hE,r,eX p λvs h1 ρ1 H1 e1 g1 r1 p1 xs q1=>⟨ρ1,h1,vs,jr h4 e1,r1,by rw[append_nil];exact q1,eN (h:=h1) c.kQ p1⟩⟩
  ·cases args with
   |nil=>
    cases es with
    |cons i fh=>rw[aY.eq_def]at h4;cases h4
    |nil=>refine(EW f3 f5 c.room g1 f2 f4 .nil uI g2).imp λσ H Q aT=>?_;obtain⟨ρ,env,h,hE,r,p⟩:=aT;simp only[aS,bC,dh]at p;intro y dy ny WZ W0;rw[f0]at p;exact Ca (B:=bd X cl) r aI.nil rfl (eN (h:=h) c.kQ p) ny WZ W0
   |cons l ls=>
    cases es with
    |nil=>rw[aY]at h4;cases h4
    |cons i fh=>have h5:=h4;rw[aY.eq_def]at h5;dsimp only at h5;simp only[and_eq_true]at h5;refine(J3 f3 f5 c.room g1 f2 f4 .nil uI (hs.1 Γ k X cl EX _ c h4) g2 (bx h5.1.1) (gg h5.2)).imp λσ H Q aT=>?_;obtain⟨ρ,env,h,hE,r,p⟩:=aT;simp only[aS]at p;refine⟨ρ,env,h,hE,r,eX p λvs h1 ρ1 H1 e1 g1 r1 p1 xs q1 y dy ny WZ W0=>?_⟩;rw[f0]at p1;rw[append_nil];exact Ca (B:=bd X cl) r1 q1 (jr h4 e1) (eN (h:=h1) c.kQ p1) ny WZ W0
  ·omega
  ·omega
 exact⟨q,dO q λ_=>rfl⟩
theorem KP{j:Nat}(hs:k8 Φ es):cC Φ (.call j es):=by
 intro Γ k X cl EX e c h;apply n5 h;intro x _ args _ h;exact KO hs c h
theorem O7{n:Nat}(ha:cC Φ a):cC Φ (.fld n a x):=by
 intro Γ k X cl EX e c h;apply wu h;intro o y pos h;simp only[and_eq_true,beq_iff_eq,List.contains_iff_mem]at h;obtain⟨⟨⟨⟨h1,h2⟩,h3⟩,h4⟩,h5⟩:=h;subst h1;have q:PE X (.Attribute o x pos) (tV Φ (bd X cl) EX (.fld n a x)):=by
  refine(pe_fld (ha Γ k X cl EX o c h5).1 (super_ok h2)).imp λσ H Q aT=>?_;obtain⟨ρ,env,h,hE,r,p⟩:=aT;simp only[aS]at p;refine⟨ρ,env,h,hE,r,aF p λv h1 ρ1 y H1 g1 r1 q1 p1=>?_⟩;obtain⟨z,e1,w⟩:=dG r1 p1;cases v<;>first|(cases e1;done)|(rw[VR]at q1;exact q1.elim)|skip
  rename_i i;rw[VR]at q1;obtain⟨ad,rfl,q1⟩:=q1;have hx:∃c0 fs,h1[i]?=some (.ins c0 fs)/\c0<n/\fs.lookup x=some z:=by
   change (match h1[i]? with|some (.ins c fs)=>if c<n then fs.lookup x else none|_=>none)=some z at e1;split at e1
   ·rename_i c0 fs e2
    split at e1
    ·rename_i hc;exact⟨c0,fs,e2,hc,e1⟩
    ·cases e1
   ·cases e1
  obtain⟨c0,fs,e2,hc,e3⟩:=hx;obtain⟨dx,gs,k1,k2⟩:=r1.ob i _ ad e2 q1;obtain⟨y,l1,l2⟩:=k2.look.2 z e3;obtain⟨cc,nn⟩:=c.cls c0 (by omega);exact⟨ad,cl c0,dx,gs,y,rfl,k1,cc,nn x h4,l1,w y l2⟩
 exact⟨q,dO q λ_=>rfl⟩
theorem yy:∀{js:List (Nat×Nat)} {c j:Nat},js.lookup c=some j->(c,j)∈js
 | (a,b)::r,c,j,e=>by
  rw[lookup_cons]at e;cases hb:c==a with
  |true=>rw[hb]at e;cases e;rw[eq_of_beq hb];exact aal
  |false=>rw[hb]at e;exact aak _ (yy e)
theorem O8(ha:cC Φ a)(hs:k8 Φ es){k:Nat}(c:Ctx Φ Γ k X cl EX)
  (h:Eu (λx p args pos=>m==("":Str)&&(match js with|[(0,j)]=>(match Γ.fns[j]? with|some (_,n)=>n==3000+args.length|none=>false)|_=>false)&&decide (0<args.length)&&decide (args.length<1000)&&bD Γ a (.Name x p)&&aY Γ es args) e=true) :
  PE X e (tV Φ (bd X cl) EX (.mth a m js es))/\PT X e (tT Φ (bd X cl) EX (.mth a m js es)):=by
 apply n5 h;intro x p args pos h;simp only[and_eq_true,beq_iff_eq,decide_eq_true_eq]at h;obtain⟨⟨⟨⟨⟨h1,h2⟩,h3⟩,h3'⟩,h4⟩,h5⟩:=h;subst h1;have hj:∃j xx,js=[(0,j)] /\ Γ.fns[j]?=some (xx,3000+args.length):=by
  split at h2
  ·rename_i j
   cases ef:Γ.fns[j]? with
   |none=>rw[ef]at h2;cases h2
   |some q=>rw[ef]at h2;obtain⟨q1,q2⟩:=q;exact⟨j,q1,rfl,by rw[ef,show q2=_ from eq_of_beq h2]⟩
  ·cases h2
 obtain⟨j,xx,rfl,hf⟩:=hj;have R:ON X.prog X.w (bd X cl) X.mg X.base k args.length (Φ j):=by
  rcases c.fns j xx _ hf with ⟨z,_⟩|⟨_,fd,ps,f1,f4,f5⟩|⟨_,z⟩
  ·omega
  ·omega
  ·rw[show 3000+args.length-3000=args.length by omega]at z;exact z
 have room:dD k X.A:=c.room.mono (le_succ k);cases args with
 |nil=>cases h3
 |cons l ls=>
  cases es with
  |nil=>rw[aY]at h5;cases h5
  |cons i fh=>
   have h8:=h5;rw[aY.eq_def]at h8;dsimp only at h8;simp only[and_eq_true]at h8;have q:PE X (.Call (.Name x p) (l::ls) [] pos) (tV Φ (bd X cl) EX (.mth a "" [(0,j)] (.cons i fh))):=by
    refine(N6 (R:=λf vs H Q=>∃ρ h v ws,vs.length=(l::ls).length/\HR (bd X cl) ρ h H/\VR X.K ρ H (.clo v) (.ref f)/\aI X.K ρ H ws vs/\Post (bd X cl) (λ_ _ _=>False) ρ H (WV X.K Q) (Φ j (.clo v::ws) h)) (ha Γ k X cl EX _ c h4).1 (hs.1 Γ k X cl EX _ c h5) (bx h8.1.1) (gg h8.2) (λs H us vs f Q e0 rv ⟨ρ,h,v,ws,z1,z2,z3,z4,z5⟩=>R X.A X.stack s H us vs Q f ρ h v ws room e0 rv z1 z2 z3 z4 z5)).imp λσ H Q aT=>?_;obtain⟨ρ,env,h,hE,r,p⟩:=aT;simp only[aS]at p;refine⟨ρ,env,h,hE,r,aF p λv h1 ρ1 y H1 g1 r1 q1 p1=>?_⟩;obtain⟨j',e1,p2⟩:=aH p1;change kF h1 v "" [(0,j)]=some j' at e1;unfold kF at e1;rw[aaj rfl]at e1;cases v<;>first|(cases e1;done)|skip
    rename_i v;cases e1;have q0:=q1;rw[VR]at q1;obtain⟨f,cc,c1,ad,doc,pm,ct,oc,rfl,k1,k2,k3,kd,k4⟩:=q1;refine⟨f,_,rfl,k1,ρ1,env,h1,hE.up g1,r1,eX p2 λvs h2 ρ2 H2 e4 g2 r2 p3 xs q2=>?_⟩;refine⟨g2.firm _ _ k1 rfl,ρ2,h2,v,vs,by rw[<-q2.length,jr h5 e4],r2,VR.up g2 _ _ q0,q2,eN (h:=h2) c.kQ p3⟩
   exact⟨q,dO q λ_=>rfl⟩
theorem KQ{h:Hs}{v:Val}{x:Str}{js:List (Nat×Nat)}{j:Nat}(e1:Dy h v x js=some j){K:Frag}{ρ:List Addr}{H:Hp}{y:V}(q1:VR K ρ H v y):∃i,v=.ref i:=by
 cases v<;>first|(cases e1;done)|(rw[VR]at q1;exact q1.elim)|exact⟨_,rfl⟩
theorem KR{i j:Nat}(e1:Dy h (.ref i) x js=some j):∃c0 fs,h[i]?=some (.ins c0 fs)/\fs.lookup x=none/\js.lookup c0=some j:=by
 change (match h[i]? with|some (.ins c fs)=>if (fs.lookup x).isNone=true then js.lookup c else none|_=>none)=some j at e1;cases e2:h[i]? with
 |none=>rw[e2]at e1;cases e1
 |some o=>
  rw[e2]at e1;cases o with
  |ins c0 fs=>
   dsimp only at e1
   by_cases hc:(fs.lookup x).isNone=true
   ·rw[aaj hc]at e1;exact⟨c0,fs,rfl,by simpa using hc,e1⟩
   ·rw[aam hc]at e1;cases e1
  |_=>cases e1
theorem O9(ha:cC Φ a)(hs:k8 Φ es):cC Φ (.mth a m js es):=by
 intro Γ k X cl EX e c h
 rcases Ye h with h|h
 rotate_left
 ·exact O8 ha hs c h
 apply Gb h;intro o x ap args cp h;simp only[and_eq_true,beq_iff_eq,all_eq_true,decide_eq_true_eq,List.contains_iff_mem,bne_iff_ne]at h;obtain⟨⟨⟨⟨⟨⟨⟨h1,hm⟩,h2⟩,h3⟩,h4⟩,h5⟩,h6⟩,h7⟩:=h;subst h1;have few:((backTo cp (starEach args X.env)).all (λx=>!x.1)&&(backToKw cp (keywordEach [] X.env)).all (λx=>x.1.isSome)
   && decide (args.length+([]:List Keyword).length+(if ([]:List Keyword).isEmpty then 0 else 1)<30))=true:=by
  rw[yx h7];simp only[Bool.true_and,and_eq_true];exact⟨rfl,decide_eq_true (by simp;omega)⟩
 have hl:(ap.endLine==cp.line)=true:=by rw[h4];exact beq_self_eq_true _
 have room:dD k X.A:=c.room.mono (le_succ k);have main:∀(σ:L2.St) (H:Hp) (Q:VK) (v:Val) (h1:Hs) (ρ1:List Addr) (y:V) (H1:Hp) (F:Nat->M Val),HR (bd X cl) ρ1 h1 H1->VR X.K ρ1 H1 v y->Post (bd X cl) EX ρ1 H1 (WV X.K Q) (bnd (ask λh=>kF h v x js) F h1) ->
   ∀G:Prop,(∀j i ad c0 dx gs fd ps,v=.ref i->y=.ref ad->H1 ad=some (.ins (cl c0) dx gs)->Er X.K (cl c0)->Meth X.K (cl c0) x (cl (1000+j))->gs.lookup x=none->Binds X.K fd ps [] ->
    fU X.prog X.w X.K X.mg X.base tZ k (cl (1000+j)) fd ps (ue (bd X cl) (1+args.length) (Φ j))->Post (bd X cl) EX ρ1 H1 (WV X.K Q) (F j h1)->G)->G:=by
  intro σ H Q v h1 ρ1 y H1 F r1 q1 p1 G gk;obtain⟨j,e1,p2⟩:=aH p1;change kF h1 v x js=some j at e1;rw[FL hm]at e1;obtain⟨i,rfl⟩:=KQ e1 q1;rw[VR]at q1;obtain⟨ad,rfl,q1⟩:=q1;obtain⟨c0,fs,e2,hn,e3⟩:=KR e1;obtain⟨dx,gs,k1,k2⟩:=r1.ob i _ ad e2 q1;obtain⟨⟨m1,m2⟩,m3⟩:=h5 _ (yy e3);dsimp only at m1 m2 m3;have cc:=(c.cls c0 m1).1;have mm:=c.DG _ m2;dsimp only at mm;have hf:∃xx,Γ.fns[j]?=some (xx,1001+args.length):=by
   cases ef:Γ.fns[j]? with
   |none=>rw[ef]at m3;cases m3
   |some q=>rw[ef]at m3;obtain⟨q1,q2⟩:=q;exact⟨q1,by rw[show q2=_ from eq_of_beq m3]⟩
  obtain⟨xx,hf⟩:=hf
  rcases c.fns j xx _ hf with ⟨z,_⟩|⟨_,fd,ps,f1,f4,f5⟩|⟨z,_⟩
  ·omega
  rotate_left
  ·omega
  ·rw[show 1001+args.length-1000=1+args.length by omega]at f5;exact gk j i ad c0 dx gs fd ps rfl rfl k1 cc mm (k2.look.1 hn) f4 f5 p2
 have q:PE X (.Call (.Attribute o x ap) args [] cp) (tV Φ (bd X cl) EX (.mth a x js es)):=by
  cases args with
  |nil=>
   cases es with
   |cons i fh=>rw[aY.eq_def]at h7;cases h7
   |nil=>refine(pe_mth0 (k:=k) (ha Γ k X cl EX o c h6).1 (super_ok h2) hl room).imp λσ H Q aT=>?_;obtain⟨ρ,env,h,hE,r,p⟩:=aT;simp only[aS,bC,dh]at p;refine⟨ρ,env,h,hE,r,aF p λv h1 ρ1 y H1 g1 r1 q1 p1=>?_⟩;refine main σ H Q v h1 ρ1 y H1 _ r1 q1 p1 _ λj i ad c0 dx gs fd ps e1 e2 k1 cc mm k2 f4 f5 p2=>?_;subst e1;subst e2;exact⟨ad,cl c0,dx,gs,cl (1000+j),fd,ps,_,rfl,k1,cc,mm,k2,f4,f5,ρ1,h1,[.ref i],rfl,r1,aI.cons q1 aI.nil,eN (h:=h1) c.kQ p2⟩
  |cons l ls=>
   cases es with
   |nil=>rw[aY]at h7;cases h7
   |cons i fh=>have h8:=h7;rw[aY.eq_def]at h8;dsimp only at h8;simp only[and_eq_true]at h8;refine(pe_mthD (k:=k) (ha Γ k X cl EX o c h6).1 (hs.1 Γ k X cl EX _ c h7) (super_ok h2) few hl room (bx h8.1.1) (gg h8.2)).imp λσ H Q aT=>?_;obtain⟨ρ,env,h,hE,r,p⟩:=aT;simp only[aS]at p;refine⟨ρ,env,h,hE,r,aF p λv h1 ρ1 y H1 g1 r1 q1 p1=>?_⟩;refine main σ H Q v h1 ρ1 y H1 _ r1 q1 p1 _ λj i ad c0 dx gs fd ps e1 e2 k1 cc mm k2 f4 f5 p2=>?_;subst e1;subst e2;refine⟨ad,cl c0,dx,gs,cl (1000+j),fd,ps,_,rfl,k1,cc,mm,k2,f4,f5,ρ1,env,h1,hE.up g1,r1,eX p2 λvs h2 ρ2 H2 e4 g2 r2 p3 xs q2=>?_⟩;refine⟨ρ2,h2,.ref i::vs,?_,r2,aI.cons (VR.up g2 _ _ q1) q2,eN (h:=h2) c.kQ p3⟩;rw[aaF,jr h7 e4];omega
 exact⟨q,dO q λ_=>rfl⟩
end
section
variable {Φ:Fn} {Γ:tQ} {k:Nat} {X:Cx} {cl:Nat->Addr} {EX:Nat->List V->Hp->Prop}
theorem Pa:bootBuiltins "all" = some (.builtin "all"):=by decide +kernel
theorem Pb:bootBuiltins "any" = some (.builtin "any"):=by decide +kernel
theorem u7:bootBuiltins "sorted" = some (.builtin "sorted"):=by decide +kernel
theorem Pc:bootBuiltins "min" = some (.builtin "min"):=by decide +kernel
theorem Pd:bootBuiltins "max" = some (.builtin "max"):=by decide +kernel
theorem wB:bootBuiltins "list" = some (.type "list"):=by decide +kernel
theorem yz:bootBuiltins "tuple" = some (.type "tuple"):=by decide +kernel
theorem Gm:bootBuiltins "str" = some (.type "str"):=by decide +kernel
theorem Gn:bootBuiltins "int" = some (.type "int"):=by decide +kernel
theorem KS:bootBuiltins "bool" = some (.type "bool"):=by decide +kernel
theorem KU:bootBuiltins "dict" = some (.type "dict"):=by decide +kernel
theorem KW:bootBuiltins "isinstance" = some (.builtin "isinstance"):=by decide +kernel
theorem yC:bC Φ #[e] env=bnd (aS Φ e env) λd=>ret [d]:=by
 simp only[bC,dh]
theorem six{T:String}(h:["list","tuple","str","bool","int","dict"].contains T=true):T = "list" \/ T = "tuple" \/ T = "str" \/ T = "bool" \/ T = "int" \/ T = "dict":=by simpa using h
theorem KY{T:String}(h:["list","tuple","str","bool","int","dict"].contains T=true):(T:Str)∈bltNames/\bootBuiltins (T:Str)=some (.type T)/\(T:Str) ≠ "__name__" /\ ((T:Str)==("__debug__":Str))=false:=by
 rcases six h with rfl|rfl|rfl|rfl|rfl|rfl
 ·exact⟨by decide,wB,by decide,by decide⟩
 ·exact⟨by decide,yz,by decide,by decide⟩
 ·exact⟨by decide,Gm,by decide,by decide⟩
 ·exact⟨by decide,KS,by decide,by decide⟩
 ·exact⟨by decide,Gn,by decide,by decide⟩
 ·exact⟨by decide,KU,by decide,by decide⟩
theorem KZ{T:String}(hs:k8 Φ es):cC Φ (.blt (.isin T) es):=by
 intro Γ k X cl EX e c h;apply n5 h;intro x p args pos h;simp only[and_eq_true,beq_iff_eq]at h;obtain⟨⟨h1,h2⟩,h3⟩:=h;subst h2;obtain⟨g1,g2,g3⟩:=c.gl h1;split at h3<;>first|cases h3|skip
 rename_i a y yp;simp only[and_eq_true,beq_iff_eq]at h3;obtain⟨⟨⟨k1,k2⟩,k3⟩,k4⟩:=h3;obtain⟨b1,b2,b3,b4⟩:=KY k3;obtain⟨y1,y2,y3⟩:=c.gl k1;subst k2;cases es with
 |nil=>rw[aY]at k4;cases k4
 |cons i fh=>
  rw[aY.eq_def]at k4;dsimp only at k4;simp only[and_eq_true]at k4;cases fh with
  |cons j fh=>have:=k4.2;rw[aY.eq_def]at this;cases this
  |nil=>
   have q:PE X (.Call (.Name (Td (.isin T)) p) [a,.Name (T:Str) yp] [] pos) (tV Φ (bd X cl) EX (.blt (.isin T) #[i])):=by refine(g9 (Ky (cl:=cl) (EX:=EX) (T:=T)) g1 (c.blt _ (show ("isinstance":Str)∈bltNames by decide)) KW (vQ (hs.2.1 Γ k X cl EX a c k4.1.2).1 (vQ (JO (v:=.ty T) y1 (c.blt _ b1) b2 rfl b3 b4) ET) (bx k4.1.1)) g3 g2 (bx k4.1.1)).imp λσ H Q aT=>?_;obtain⟨ρ,env,h,hE,r,p⟩:=aT;simp only[aS,yC,bw,dh]at p;exact⟨ρ,env,h,hE,r,aF p λv h1 ρ1 x H1 g1 r1 q1 p1=>⟨ρ1,h1,v,x,rfl,r1,q1,p1⟩⟩
   exact⟨q,dO q λ_=>rfl⟩
theorem Pe:bootBuiltins "set" = some (.type "set"):=by decide +kernel
theorem K0(ha:cC Φ a):cC Φ (.sset a):=by
 intro Γ k X cl EX e c h;apply n5 h;intro x p1 q1 pos1 h;apply qE h;intro q2 h;apply n5 h;intro y p2 q3 pos2 h;apply qE h;intro l h;simp only[and_eq_true,beq_iff_eq]at h;obtain⟨⟨⟨⟨⟨h1,h2⟩,h3⟩,h4⟩,h5⟩,h6⟩:=h;subst h1;subst h2;have q:PE X (.Call (.Name "sorted" p1) [.Call (.Name "set" p2) [l] [] pos2] [] pos1) (tV Φ (bd X cl) EX (.sset a)):=by have qe:=(ha Γ k X cl EX l c h6).1;intro pins s σ H Q I hh;have hd:X.A.handled=none:=I.ok.hd c.calm;refine((Kp hd (c.gl h3).1 (c.blt _ (by decide)) (c.gl h4).1 (c.blt _ (by decide)) u7 Pe qe (bx (env:=X.env) (es:=[]) h5)).imp λσ H Q ⟨ρ,env,h,hE,r,p⟩=>?_) pins s σ H Q I hh;simp only[aS]at p;refine⟨ρ,env,h,hE,r,aF p λv h1 ρ1 x H1 g1 r1 q1 p1=>?_⟩;obtain⟨zs,e,p1⟩:=aH p1;obtain⟨ns,e1,p1⟩:=cO p1;obtain⟨e2,p1⟩:=bu p1;obtain⟨b,ys,rfl,q2,q3⟩:=gI r1 q1 e;rw[gS e1]at q3;rw[aI.ints.mp q3]at q2;exact⟨b,ns,rfl,q2,aay e2,λl hl=>eW r1 hl (aI.ints.mpr rfl) p1⟩
 exact⟨q,dO q λ_=>rfl⟩
theorem K1{d k x:IE}(hd:cC Φ d)(hk:cC Φ k)(hx:cC Φ x):cC Φ (.dget d k x):=by
 intro Γ n X cl EX e c h;apply Gb h;intro o m ap q1 cp h;apply SY h;intro a b h;simp only[and_eq_true,beq_iff_eq]at h;obtain⟨⟨⟨⟨⟨⟨⟨h1,h2⟩,h3⟩,h4⟩,h5⟩,h6⟩,h7⟩,h8⟩:=h;subst h1;have st:starEach [a,b] X.env=[(false,eval a X.env),(false,eval b X.env)]:=by rw[bx h3,bx h4];rfl
 have m2:M2 X o "get" ap a b cp:=⟨super_ok h2,by rw[st];rfl,by rw[h5];exact beq_self_eq_true _,by rw[st];rfl⟩;have q:PE X (.Call (.Attribute o "get" ap) [a,b] [] cp) (tV Φ (bd X cl) EX (.dget d k x)):=by
  refine(E9 (by have:=c.units;omega) (hd Γ n X cl EX o c h6).1 (hk Γ n X cl EX a c h7).1 (hx Γ n X cl EX b c h8).1 m2).imp λσ H Q aT=>?_;obtain⟨ρ,env,h,hE,r,p⟩:=aT;simp only[aS]at p;refine⟨ρ,env,h,hE,r,aF p λv h1 ρ1 y H1 g1 r1 q1 p1=>?_⟩;obtain⟨u0,e1,pA⟩:=aH p1;clear p1;cases v<;>first|(cases e1;done)|(rw[VR]at q1;exact q1.elim)|skip
  rename_i i;rw[VR]at q1;obtain⟨ad,rfl,q1⟩:=q1;have hdc:∃kvs,h1[i]?=some (.dct kvs):=by
   change (match h1[i]? with|some (.dct _)=>some ()|_=>none)=some _ at e1;split at e1
   ·rename_i kvs e2;exact⟨kvs,e2⟩
   ·cases e1
  obtain⟨kvs,e2⟩:=hdc;obtain⟨ks,k1,k2⟩:=r1.ob i _ ad e2 q1;refine⟨ad,rfl,.inl ⟨ks,.inl k1⟩,ρ1,env,h1,hE.up g1,r1,aF pA λw h2 ρ2 y2 H2 g2 r2 q2 p2=>?_⟩;obtain⟨kk,e3,p2⟩:=cO p2;refine⟨ρ2,env,h2,(hE.up g1).up g2,r2,aF p2 λz h3 ρ3 y3 H3 g3 r3 q3 p3=>?_⟩;obtain⟨rr,e4,p3⟩:=aH p3;have q4:ρ3[i]?=some ad:=qQ (g2.trans g3).pre q1;have hd3:∃kvs,h3[i]?=some (.dct kvs)/\rr=dF kvs kk:=by
   change (match h3[i]? with|some (.dct kvs)=>some (dF kvs kk)|_=>none)=some rr at e4;split at e4
   ·rename_i kvs e2;cases e4;exact⟨kvs,e2,rfl⟩
   ·cases e4
  obtain⟨W2,e5,rfl⟩:=hd3;obtain⟨ks3,k3,k4⟩:=r3.ob i _ ad e5 q4;have ek:y2=kV kk:=by
   cases w<;>first|(cases e3;done)|skip
   ·cases e3;rw[VR]at q2;exact q2
   ·cases e3;rw[VR]at q2;exact q2
  refine⟨jS ks3 kk,by rw[ek];exact tY.k k3,?_⟩;cases ev:dF W2 kk with
  |none=>rw[ev]at p3;rw[(je.val kk k4).1 ev];exact ao r3 p3 _ q3
  |some z'=>obtain⟨t,e6,q6⟩:=(je.val kk k4).2 z' ev;rw[ev]at p3;rw[e6];exact ao r3 p3 _ q6
 exact⟨q,dO q λ_=>rfl⟩
theorem Cb{K:Frag}{ρ:List Addr}{H:Hp}:∀{kvs:List (Key×Val)} {ks:List (Key×V)},je K ρ H kvs ks->aI K ρ H ((kvs.map (·.1)).map FJ) (ks.map λkv=>kV kv.1)
 |[],ks,q=>by rw[je]at q;subst q;exact rfl
 | (k,v)::kvs,ks,q=>by
  rw[je]at q;obtain⟨x,r,rfl,_,q⟩:=q;refine⟨kV k,_,rfl,?_,Cb q⟩;cases k with
  |inl i=>exact VR.int
  |inr s=>exact VR.str
theorem DK{oV:Unit}:∀(σ:L2.St) (H:Hp) (Q:VK),tV Φ (bd X cl) EX (.lkeys d) σ H Q->X4 (tV Φ (bd X cl) EX d) σ H Q:=λσ H Q ⟨ρ,env,h,hE,r,p⟩=>by
 simp only[aS]at p;refine⟨ρ,env,h,hE,r,aF p λv h1 ρ1 y H1 g1 r1 q1 p1=>?_⟩;obtain⟨ks0,e1,pA⟩:=aH p1;clear p1;cases v<;>first|(cases e1;done)|(rw[VR]at q1;exact q1.elim)|skip
 rename_i i;rw[VR]at q1;obtain⟨ad,rfl,q1⟩:=q1;have hdc:∃kvs,h1[i]?=some (.dct kvs)/\ks0=kvs.map (·.1):=by
  change (match h1[i]? with|some (.dct kvs)=>some (kvs.map (·.1))|_=>none)=some _ at e1;split at e1
  ·rename_i kvs e2;cases e1;exact⟨kvs,e2,rfl⟩
  ·cases e1
 obtain⟨kvs,e2,rfl⟩:=hdc;obtain⟨ks,k1,k2⟩:=r1.ob i _ ad e2 q1;exact⟨ad,ks,rfl,k1,λl hl=>eW r1 hl (Cb k2) pA⟩
theorem Gp(hd:cC Φ d):cC Φ (.lkeys d):=by
 intro Γ n X cl EX e c h
 ·apply n5 h;intro x p q1 pos h
  apply qE h;intro q2 h;apply qS h;intro y qp h;simp only[and_eq_true,beq_iff_eq]at h;obtain⟨⟨h1,h3⟩,h6⟩:=h;subst h1;have q:PE X (.Call (.Name "list" p) [.Name y qp] [] pos) (tV Φ (bd X cl) EX (.lkeys d)):=by have qe:=(hd Γ n X cl EX _ c h6).1;intro pins s σ H Q I hh;have hdl:X.A.handled=none:=I.ok.hd c.calm;exact((Dt hdl (bx rfl) (c.gl h3).1 (c.blt _ (by decide)) wB qe).imp (DK (oV:=()))) pins s σ H Q I hh
  exact⟨q,dO q λ_=>rfl⟩
theorem K2{d k x:IE}(hd:cC Φ d)(hk:cC Φ k)(hx:cC Φ x):cC Φ (.sdef d k x):=o9 λ_ _=>rfl
theorem Cc{α β:Type}{f:α -> β}:∀{l:List α},(l.map f).Nodup->∀a∈l,∀b∈l,f a=f b->a=b
 | x::l,h,a,ha,b,hb,e=>by
  rw[aap,nodup_cons]at h
  rcases aaA.mp ha with e1|ha2
  ·rcases aaA.mp hb with e2|hb2
   ·rw[e1,e2]
   ·rw[e1]at e;exact(h.1 (e▸mem_map_of_mem hb2)).elim
  ·rcases aaA.mp hb with e2|hb2
   ·rw[e2]at e;exact(h.1 (e▸mem_map_of_mem ha2)).elim
   ·exact Cc h.2 a ha2 b hb2 e
theorem Gq(hd:cC Φ d):cC Φ (.skeys d):=o9 λ_ _=>rfl
theorem Gs(ha:cC Φ a):cC Φ (.svals a):=fun Γ n X cl EX e c h=>nomatch (show false=true from h)
theorem Pf(hs:k8 Φ es):cC Φ (.blt b es):=by
 cases b with
 |isin T=>exact KZ hs
 |_=>
  intro Γ k X cl EX e c h;apply n5 h;intro x p args pos h;simp only[and_eq_true,beq_iff_eq]at h;obtain⟨⟨h1,h2⟩,h3⟩:=h;subst h2;obtain⟨g1,g2,g3⟩:=c.gl h1;cases args with
  |nil=>cases h3.1
  |cons l ls=>
   cases es with
   |nil=>have:=h3.2;rw[aY]at this;cases this
   |cons i fh=>
    have h5:=h3.2;rw[aY.eq_def]at h5;dsimp only at h5;simp only[and_eq_true]at h5;have hA:=hs.1 Γ k X cl EX _ c h3.2;have st:=bx (env:=X.env) (es:=ls) h5.1.1;have an:=gg (pos:=pos) (env:=X.env) h5.2;refine(λq=>⟨q,dO q λ_=>rfl⟩) ?_
    first
     |refine(g9 (Oh (cl:=cl) (EX:=EX)) g1 (c.blt _ (by decide)) PySem.boot_len hA g3 g2 st an).imp λσ H Q ⟨ρ,env,h,hE,r,p⟩=>?_
     |refine(g9 (Oi (cl:=cl) (EX:=EX) c.calm) g1 (c.blt _ (by decide)) Pc hA g3 g2 st an).imp λσ H Q ⟨ρ,env,h,hE,r,p⟩=>?_
     |refine(g9 (Oj (cl:=cl) (EX:=EX) c.calm) g1 (c.blt _ (by decide)) Pd hA g3 g2 st an).imp λσ H Q ⟨ρ,env,h,hE,r,p⟩=>?_
     |refine(g9 (DC (cl:=cl) (EX:=EX)) g1 (c.blt _ (by decide)) u7 hA g3 g2 st an).imp λσ H Q ⟨ρ,env,h,hE,r,p⟩=>?_
     |refine(g9 (Oo (cl:=cl) (EX:=EX) c.calm) g1 (c.blt _ (by decide)) Pa hA g3 g2 st an).imp λσ H Q ⟨ρ,env,h,hE,r,p⟩=>?_
     |refine(g9 (Oq (cl:=cl) (EX:=EX) c.calm) g1 (c.blt _ (by decide)) Pb hA g3 g2 st an).imp λσ H Q ⟨ρ,env,h,hE,r,p⟩=>?_
     |refine(l5 (Kv (cl:=cl) (EX:=EX)) g1 (c.blt _ (by decide)) wB hA g3 g2 st an).imp λσ H Q ⟨ρ,env,h,hE,r,p⟩=>?_
     |refine(l5 (FU (cl:=cl) (EX:=EX)) g1 (c.blt _ (by decide)) yz hA g3 g2 st an).imp λσ H Q ⟨ρ,env,h,hE,r,p⟩=>?_
     |refine(l5 (Ol (cl:=cl) (EX:=EX)) g1 (c.blt _ (by decide)) Gm hA g3 g2 st an).imp λσ H Q ⟨ρ,env,h,hE,r,p⟩=>?_
     |refine(l5 (Om (cl:=cl) (EX:=EX)) g1 (c.blt _ (by decide)) Gn hA g3 g2 st an).imp λσ H Q ⟨ρ,env,h,hE,r,p⟩=>?_
    simp only[aS]at p;exact⟨ρ,env,h,hE,r,bA p λvs h1 ρ1 H1 g1 r1 p1 xs q1=>⟨ρ1,h1,vs,r1,q1,p1⟩⟩
def Yj:Me->String
 |.join=>"str" | .append=>"list" | .extend=>"list" | .pop=>"list"
theorem K3(r:HR B ρ h H)(q:VR B.K ρ H v x)(e:recv h m v=some ()):Wl B.K (Yj m) x H:=by
 cases m<;>cases v<;>simp only[recv]at e<;>first|cases e|skip
 ·rw[VR]at q;subst q;rfl
 all_goals
  split at e
  ·rename_i xs e1;obtain⟨a,ys,rfl,q0,q1,q2⟩:=qR r q e1;exact .inl ⟨rfl,ys,.inl (.inl q1)⟩
  ·cases e
theorem Pg(ha:cC Φ a)(hs:k8 Φ es):cC Φ (.met m a es):=by
 intro Γ k X cl EX e c h;apply Gb h;intro o x ap args cp h;simp only[and_eq_true,beq_iff_eq]at h;obtain⟨⟨⟨⟨⟨⟨h1,h2⟩,h3⟩,h4⟩,h5⟩,h6⟩,h7⟩:=h;subst h1;cases args with
 |nil=>cases h3
 |cons l ls=>
  have hA:=hs.1 Γ k X cl EX _ c h7;have h8:noStar l=true/\∃fh,aY Γ fh ls=true:=by
   cases es with
   |nil=>rw[aY]at h7;cases h7
   |cons i fh=>rw[aY.eq_def]at h7;dsimp only at h7;simp only[and_eq_true]at h7;exact⟨h7.1.1,fh,h7.2⟩
  obtain⟨n1,fh,n2⟩:=h8;have st:=bx (env:=X.env) (es:=ls) n1;have an:=gg (pos:=cp) (env:=X.env) n2;have few:((backTo cp (starEach (l::ls) X.env)).all (λx=>!x.1)&&(backToKw cp (keywordEach [] X.env)).all (λx=>x.1.isSome)
   && decide ((l::ls).length+([]:List Keyword).length+(if ([]:List Keyword).isEmpty then 0 else 1)<30))=true:=by
   rw[yx h7];have:(l::ls).length<29:=aay h4;simp only[Bool.true_and,and_eq_true];exact⟨rfl,decide_eq_true (by simp at this |-;omega)⟩
  have hl:(ap.endLine==cp.line)=true:=by rw[h5];exact beq_self_eq_true _
  refine(λq=>⟨q,dO q λ_=>rfl⟩) ?_;have fin:∀(T:String) (r:V->List V->Hp->VK->Prop),(∀x xs H Q,SN (bd X cl) EX m x xs H Q->r x xs H Q)->T=Yj m->∀σ H Q,tV Φ (bd X cl) EX (.met m a es) σ H Q->XM X.K T r (tV Φ (bd X cl) EX a) (Yh Φ (bd X cl) EX es) σ H Q:=by rintro T rr hr rfl σ H Q ⟨ρ,env,h,hE,r,p⟩;simp only[aS]at p;refine⟨ρ,env,h,hE,r,aF p λv h1 ρ1 x H1 g1 r1 q1 p1=>?_⟩;obtain⟨_,e1,p2⟩:=aH p1;refine⟨K3 r1 q1 e1,ρ1,env,h1,hE.up g1,r1,bA p2 λvs h2 ρ2 H2 g2 r2 p3 xs q2=>hr _ _ _ _ ⟨ρ2,h2,v,vs,r2,VR.up g2 _ _ q1,q2,p3⟩⟩
  cases m with
  |join=>exact(BI PySem.F.plainAttrs_str PySem.F.slot_str_join PySem.F.type_str_join (Kz (cl:=cl) (EX:=EX)) (ha Γ k X cl EX o c h6).1 hA (super_ok h2) few hl st an).imp (fin _ _ (λ_ _ _ _ z=>z) rfl)
  |append=>exact(BI PySem.F.plainAttrs_list PySem.F.slot_list_append PySem.F.type_list_append (DE (cl:=cl) (EX:=EX)) (ha Γ k X cl EX o c h6).1 hA (super_ok h2) few hl st an).imp (fin _ _ (λ_ _ _ _ z=>z) rfl)
  |extend=>exact(BI PySem.F.plainAttrs_list PySem.F.slot_list_extend PySem.F.type_list_extend (DF (cl:=cl) (EX:=EX)) (ha Γ k X cl EX o c h6).1 hA (super_ok h2) few hl st an).imp (fin _ _ (λ_ _ _ _ z=>z) rfl)
  |pop=>exact(BI PySem.F.plainAttrs_list PySem.F.slot_list_pop PySem.F.type_list_pop (Ot (cl:=cl) (EX:=EX)) (ha Γ k X cl EX o c h6).1 hA (super_ok h2) few hl st an).imp (fin _ _ (λ_ _ _ _ z=>z) rfl)
end
theorem _root_.L2.PI.or(h:PI X tg iter t)(h':PI X tg iter t'):PI X tg iter (λσ H R=>t σ H R\/t' σ H R):=λpins s σ H R I hw=>hw.elim (h pins s σ H R I) (h' pins s σ H R I)
structure Walks (B:Bd) (src:Src) (J:It) (ρ1:List Addr) (H1:Hp):Prop where
 stop:∀{ρ h H i xs},Gw ρ1 H1 ρ H->HR B ρ h H->src.items h=some xs->xs.length<=i->J.stop i H
 go:∀{ρ h H i xs v},Gw ρ1 H1 ρ H->HR B ρ h H->src.items h=some xs->xs[i]?=some v->J.go i H
 CZ:∀{ρ h H i xs v y H'},Gw ρ1 H1 ρ H->HR B ρ h H->src.items h=some xs->xs[i]?=some v->J.CZ i H y H'->Gr ρ H ρ H'/\HR B ρ h H'/\VR B.K ρ H' v y
section
variable {B:Bd} {ρ1:List Addr} {H1:Hp} {a:Addr}
theorem DL(q:kO B.K H1 a xs)(e:aI B.K ρ1 H1 vs xs):Walks B (.fix vs) (V7 B.K a) ρ1 H1 where
 stop:=λg r hi hl=>by
  cases hi;exact⟨xs,g.Vx q,by rw[<-e.length];exact hl⟩
 go:=λg r hi hv=>by
  cases hi;obtain⟨x,k1,_⟩:=e.get hv;exact⟨xs,x,g.Vx q,k1⟩
 CZ:=λg r hi hv y=>by
  cases hi;obtain⟨rfl,y⟩:=y;obtain⟨x,k1,k2⟩:=e.get hv;have:=y xs (g.Vx q);rw[k1]at this;cases this;exact⟨Gr.refl,r,VR.mw g _ _ k2⟩
theorem Gu(q:N8 B.K H1 a xs)(e:aI B.K ρ1 H1 vs xs):Walks B (.fix vs) (Vm B.K a) ρ1 H1 where
 stop:=λg r hi hl=>by
  cases hi;exact⟨xs,(g.SM q).sq,by rw[<-e.length];exact hl⟩
 go:=λg r hi hv=>by
  cases hi;obtain⟨x,k1,_⟩:=e.get hv;exact⟨xs,x,(g.SM q).sq,k1⟩
 CZ:=λg r hi hv y=>by
  cases hi;obtain⟨rfl,y⟩:=y;obtain⟨x,k1,k2⟩:=e.get hv;have:=y xs (g.SM q).sq;rw[k1]at this;cases this;exact⟨Gr.refl,r,VR.mw g _ _ k2⟩
theorem qV{i:Nat}(q:ρ1[i]?=some a)(g:Gw ρ1 H1 ρ H)(r:HR B ρ h H)(hi:(Src.live i).items h=some xs):∃ys,gR B.K H a ys/\aI B.K ρ H xs ys:=by
 obtain⟨b,ys,e,k1,k2⟩:=gI r (VR.ref (qQ g.pre q)) (show aJ h (.ref i)=some xs from hi);cases e;exact⟨ys,k1,k2⟩
theorem AR{i:Nat}(q:ρ1[i]?=some a):Walks B (.live i) (Vm B.K a) ρ1 H1 where
 stop:=λg r hi hl=>by
  obtain⟨ys,k1,k2⟩:=qV q g r hi;exact⟨ys,k1,by rw[<-k2.length];exact hl⟩
 go:=λg r hi hv=>by
  obtain⟨ys,k1,k2⟩:=qV q g r hi;obtain⟨x,k3,_⟩:=k2.get hv;exact⟨ys,x,k1,k3⟩
 CZ:=λg r hi hv y=>by
  obtain⟨ys,k1,k2⟩:=qV q g r hi;obtain⟨rfl,y⟩:=y;obtain⟨x,k3,k4⟩:=k2.get hv;have:=y ys k1;rw[k3]at this;cases this;exact⟨Gr.refl,r,k4⟩
theorem jm(lo:Int)(n:Nat):(cz lo n).length=n:=by unfold cz;simp
theorem pZ{lo:Int}{n:Nat}:Walks B (.fix (cz lo n)) (R0 lo n) ρ1 H1 where
 stop:=λg r hi hl=>by
  cases hi;rw[jm]at hl;exact hl
 go:=λg r hi hv=>by
  cases hi;have:=(aag.mp hv).1;rw[jm]at this;exact this
 CZ:=λ{ρ h H i xs v y H'} g r hi hv y'=>by
  cases hi;obtain⟨rfl,rfl⟩:=y';have hl:=(aag.mp hv).1;rw[jm]at hl;have e:(cz lo n)[i]?=some (.int (lo+i)):=by unfold cz;simp[hl]
  rw[e]at hv;cases hv;exact⟨Gr.refl,r,VR.int⟩
end
theorem su:∀{xs ys:List Val} {i:Nat} {v:Val},(dS xs ys)[i]?=some v->∃a b,xs[i]?=some a/\ys[i]?=some b/\v=.tup [a,b]
 |[],_,i,v,e=>by rw[dS.eq_def]at e;simp at e
 |a::r,[],i,v,e=>by rw[dS.eq_def]at e;simp at e
 |a::r,b::t,0,v,e=>by rw[dS]at e;simp at e;exact⟨a,b,rfl,rfl,e.symm⟩
 |a::r,b::t,i+1,v,e=>by rw[dS]at e;simp at e;obtain⟨x,y,h1,h2,h3⟩:=su e;exact⟨x,y,by simpa using h1,by simpa using h2,h3⟩
theorem yD:∀{xs ys:List Val} {i:Nat},(dS xs ys).length<=i->xs.length<=i\/ys.length<=i
 |[],_,i,_=>.inl (zero_le _)
 |a::r,[],i,_=>.inr (zero_le _)
 |a::r,b::t,0,e=>by rw[dS]at e;simp at e
 | a::r,b::t,i+1,e=>by
  rw[dS,aaF]at e
  rcases yD (Nat.le_of_succ_le_succ e) with h|h
  ·exact .inl (Nat.succ_le_succ h)
  ·exact .inr (Nat.succ_le_succ h)
theorem mz(hi:(Src.zip v w).items h=some vs):∃xs ys,aJ h v=some xs/\aJ h w=some ys/\vs=dS xs ys:=by
 obtain⟨xs,e1,e2⟩:=aad.mp hi;obtain⟨ys,e3,e4⟩:=aaR.mp e2;exact⟨xs,ys,e1,e3,e4.symm⟩
def AS(B:Bd)(ρ1:List Addr)(H1:Hp)(v:Val)(a:Addr):Prop:=∀{ρ:List Addr} {h:Hs} {H:Hp} {xs:List Val},Gw ρ1 H1 ρ H->HR B ρ h H->aJ h v=some xs->∃ys,gR B.K H a ys/\aI B.K ρ H xs ys
theorem Cd{ρ1:List Addr}{h1:Hs}{H1:Hp}(hx:VR B.K ρ1 H1 v x)(w:aJ h1 v=some us):∃a,x=.ref a/\AS B ρ1 H1 v a:=by
 cases v<;>first|(cases w;done)|skip
 ·rw[VR]at hx;obtain⟨a,xs,rfl,k1,k2⟩:=hx;exact⟨a,rfl,λg r e=>by cases e;exact⟨xs,(g.SM k1).sq,aI.mw g _ _ k2⟩⟩
 ·rw[VR]at hx;obtain⟨a,rfl,k1⟩:=hx;exact⟨a,rfl,λg r e=>qV k1 g r e⟩
theorem DM{ρ1:List Addr}{H1:Hp}(q:AS B ρ1 H1 v a)(q':AS B ρ1 H1 w b):Walks B (.zip v w) (WI B.K a b) ρ1 H1 where
 stop:=λg r hi hl=>by
  obtain⟨zs,ws,e1,e2,rfl⟩:=mz hi;obtain⟨ys,k1,k2⟩:=q g r e1;obtain⟨ys',Th,ML⟩:=q' g r e2;refine⟨ys,ys',k1,Th,?_⟩;rw[<-k2.length,<-ML.length];exact yD hl
 go:=λg r hi hv=>by
  obtain⟨zs,ws,e1,e2,rfl⟩:=mz hi;obtain⟨ys,k1,k2⟩:=q g r e1;obtain⟨ys',Th,ML⟩:=q' g r e2;obtain⟨d,d',h1,h2,_⟩:=su hv;obtain⟨x,k3,_⟩:=k2.get h1;obtain⟨x',W3,_⟩:=ML.get h2;exact⟨ys,ys',x,x',k1,Th,k3,W3⟩
 CZ:=λg r hi hv y=>by
  obtain⟨zs,ws,e1,e2,rfl⟩:=mz hi;obtain⟨ys,k1,k2⟩:=q g r e1;obtain⟨ys',Th,ML⟩:=q' g r e2;obtain⟨d,d',h1,h2,rfl⟩:=su hv;obtain⟨x,k3,k4⟩:=k2.get h1;obtain⟨x',W3,k4'⟩:=ML.get h2;obtain⟨p,u,w,hn,rfl,rfl,hy⟩:=y;obtain⟨y1,y2⟩:=hy ys ys' k1 Th;rw[k3]at y1;cases y1;rw[W3]at y2;cases y2;exact⟨Gr.side hn,r.side hn,VR.tup (kO.of aD) (aI.cons (VR.up (Gr.side hn) _ _ k4) (aI.cons (VR.up (Gr.side hn) _ _ k4') aI.nil))⟩
section
variable {Φ:Fn} {Γ:tQ} {k:Nat} {X:Cx} {cl:Nat->Addr} {EX:Nat->List V->Hp->Prop}
def Ry(Φ:Fn)(ik:Ik)(it:nM)(env:Env):M Src:=bnd (bC Φ it env) λits=>bH (srcOf ik its)
def tI(Φ:Fn)(B:Bd)(EX:Nat->List V->Hp->Prop)(ik:Ik)(it:nM):TI:=λσ H R=>∃ρ env h,dg B.K ρ env σ H/\HR B ρ h H /\
 Post B EX ρ H (λsrc h' ρ' H'=>(∃xs,src.items h'=some xs)/\∀J,Walks B src J ρ' H'->R J H') (Ry Φ ik it env h)
theorem MM(hs:k8 Φ it)(c:Ctx Φ Γ k X cl EX)(h:B7 Γ ik it iter=true)(ht:ik=.enum\/ik=.zip->∃es kk pos,tg=.Tuple es kk pos):PI X tg iter (tI Φ (bd X cl) EX ik it)/\∀x,foldedSetIterable iter X.env x=pure x:=by
 cases it with
 |nil=>rw[B7]at h;cases h
 |cons e es=>
  cases ik with
  |seq=>
   replace h:=Gj h;obtain⟨rfl,h⟩:=h;simp only[and_eq_true]at h;have q:=(hs.2.1 Γ k X cl EX iter c h.2).1;refine⟨((JW q).or (Nl q)).imp λσ H R ⟨ρ,env,h,hE,r,p⟩=>?_,λx=>?_⟩
   ·simp only[Ry,yC,bw,dh]at p
    have key:∀(Q:VK),(∀v h1 ρ1 x H1,aS Φ e env h=.ok v h1->Gr ρ H ρ1 H1->HR (bd X cl) ρ1 h1 H1->VR X.K ρ1 H1 v x->Post (bd X cl) EX ρ1 H1 (λsrc h' ρ' H'=>(∃xs,src.items h'=some xs)/\∀J,Walks (bd X cl) src J ρ' H'->R J H') (bH (srcOf .seq [v]) h1)->Q x H1)->tV Φ (bd X cl) EX e σ H Q:=λQ kk=>
     ⟨ρ,env,h,hE,r,eX p λv h1 ρ1 H1 e1 g1 r1 p1 x q1=>kk v h1 ρ1 x H1 e1 g1 r1 q1 p1⟩
    cases ev:aS Φ e env h with
    |ok v h1=>
     cases v with
     |tup vs=>refine .inr (key _ λv h1 ρ1 x H1 e1 g1 r1 q1 p1=>?_);rw[ev]at e1;cases e1;obtain⟨src,e2,w1,w2⟩:=cT r1 p1;cases e2;rw[VR]at q1;obtain⟨a,xs,rfl,k1,k2⟩:=q1;exact⟨a,rfl,⟨xs,k1⟩,w2 _ (DL k1 k2)⟩
     |rl vs=>refine .inl (key _ λv h1 ρ1 x H1 e1 g1 r1 q1 p1=>?_);rw[ev]at e1;cases e1;obtain⟨src,e2,w1,w2⟩:=cT r1 p1;cases e2;rw[VR]at q1;obtain⟨a,xs,rfl,k1,k2⟩:=q1;exact⟨a,rfl,⟨xs,k1.sq⟩,w2 _ (Gu k1 k2)⟩
     |ref i=>refine .inl (key _ λv h1 ρ1 x H1 e1 g1 r1 q1 p1=>?_);rw[ev]at e1;cases e1;obtain⟨src,e2,⟨zs,w1⟩,w2⟩:=cT r1 p1;cases e2;have q0:=q1;rw[VR]at q1;obtain⟨a,rfl,k1⟩:=q1;obtain⟨b,ys,e3,k2,k3⟩:=gI r1 q0 (show aJ h1 (.ref i)=some zs from w1);cases e3;exact⟨a,rfl,⟨ys,k2⟩,w2 _ (AR k1)⟩
     |_=>refine .inl (key _ λv h1 ρ1 x H1 e1 g1 r1 q1 p1=>?_);rw[ev]at e1;cases e1;obtain⟨src,e2,_⟩:=cT r1 p1;cases e2
    |exc _ _ _=>exact .inl (key _ λv h1 ρ1 x H1 e1=>by rw[ev]at e1;cases e1)
    |no=>exact .inl (key _ λv h1 ρ1 x H1 e1=>by rw[ev]at e1;cases e1)
   ·cases iter<;>first|rfl|(exact absurd h.1 aac)
  |range=>
   apply n5 h;intro x xp q1 pos h;apply AM h;intro a args h;simp only[and_eq_true,beq_iff_eq]at h;obtain⟨⟨⟨⟨⟨h1,h2⟩,h3⟩,h4⟩,h5⟩,h6⟩:=h;subst h1;obtain⟨g1,g2,g3⟩:=c.gl h2;have hm:=c.blt _ (show ("range":Str)∈bltNames by decide);refine⟨?_,λx=>rfl⟩;have hA:=hs.1 Γ k X cl EX (a::args) c (by rw[aY.eq_def];simp[h3,h4,h5]);cases args with
   |nil=>
    cases es with
    |cons i fh=>rw[aY.eq_def]at h5;cases h5
    |nil=>
     refine(C1 g1 hm hA (bx h3)).imp λσ H R aT=>?_;obtain⟨ρ,env,h,hE,r,p⟩:=aT;refine⟨ρ,env,h,hE,r,eX p λvs h1 ρ1 H1 e1 Yk r1 p1 xs q1=>?_⟩;obtain⟨src,e2,w1,w2⟩:=cT r1 p1
     match vs,e2 with
     |[.int n],e2=>
      change (if inR n=true then some (Src.fix (cz 0 n.toNat)) else none)=some src at e2;split at e2
      ·rename_i hn;cases e2;simp only[inR,and_eq_true,decide_eq_true_eq]at hn;obtain⟨x,rfl,hx⟩:=aI.one q1;rw[VR]at hx;subst hx;exact⟨n,rfl,hn.1,hn.2,w2 _ pZ⟩
      ·cases e2
     |[.int _,.int _],e2=>have:=jr (Γ:=Γ) (ls:=[a]) (by rw[aY.eq_def];simp[h3,h4,aY]) e1;simp at this
   |cons b args=>
    cases args with
    |cons _ _=>have:=aay h6;simp only[length_cons]at this;omega
    |nil=>
     have hb:noStar b=true:=by
      cases es with
      |nil=>rw[aY]at h5;cases h5
      |cons i fh=>rw[aY.eq_def]at h5;dsimp only at h5;simp only[and_eq_true]at h5;exact h5.1.1
     refine(C2 g1 hm hA (by rw[bx h3,bx hb];rfl) (by rw[bx hb];rfl)).imp λσ H R aT=>?_;obtain⟨ρ,env,h,hE,r,p⟩:=aT;refine⟨ρ,env,h,hE,r,eX p λvs h1 ρ1 H1 e1 Yk r1 p1 xs q1=>?_⟩;obtain⟨src,e2,w1,w2⟩:=cT r1 p1
     match vs,e2 with
     |[.int _],e2=>have:=jr (Γ:=Γ) (ls:=[a,b]) (by rw[aY.eq_def];simp[h3,h4,h5]) e1;simp at this
     |[.int lo,.int hi],e2=>
      change (if (inR lo&&inR hi)=true then some (Src.fix (cz lo (hi-lo).toNat)) else none)=some src at e2;split at e2
      ·rename_i hn;cases e2;simp only[inR,and_eq_true,decide_eq_true_eq]at hn;obtain⟨x,y,rfl,hx,hy⟩:=aI.two q1;rw[VR]at hx;rw[VR]at hy;subst hx;subst hy;exact⟨lo,hi,rfl,⟨hn.1.1,hn.1.2,hn.2.1,hn.2.2⟩,w2 _ pZ⟩
      ·cases e2
  |enum=>cases h
  |zip=>
   cases es with
   |nil=>cases h
   |cons e2 es=>
   replace h:=Gj h;obtain⟨rfl,h⟩:=h;apply n5 h;intro x xp q1 pos h;apply SY h;intro a b h;simp only[and_eq_true,beq_iff_eq]at h;obtain⟨⟨⟨⟨⟨h1,h2⟩,h3⟩,h4⟩,h5⟩,h6⟩:=h;subst h1;obtain⟨g1,g2,g3⟩:=c.gl h2;have hm:=c.blt _ (show ("zip":Str)∈bltNames by decide);obtain⟨tes,tk,tp,rfl⟩:=ht (.inr rfl);refine⟨?_,λx=>rfl⟩;have hA:=hs.1 Γ k X cl EX [a,b] c (by rw[aY.eq_def];simp[h3,h4,h5,h6,aY]);refine(N2 g1 hm hA (by rw[bx h3,bx h5];rfl) (by rw[bx h5];rfl)).imp λσ H R aT=>?_;obtain⟨ρ,env,h,hE,r,p⟩:=aT;refine⟨ρ,env,h,hE,r,eX p λvs h1 ρ1 H1 e1 Yk r1 p1 xs q1=>?_⟩;obtain⟨src,e3,⟨zs,w1⟩,w2⟩:=cT r1 p1
   match vs,e3 with
   |[v,w],e3=>cases e3;obtain⟨x,y,rfl,hx,hy⟩:=aI.two q1;obtain⟨us,ws,w3,w4,_⟩:=mz w1;obtain⟨b1,rfl,k1⟩:=Cd (B:=bd X cl) hx w3;obtain⟨b2,rfl,k2⟩:=Cd (B:=bd X cl) hy w4;obtain⟨ys,m1,_⟩:=k1 Gr.refl.w r1 w3;obtain⟨ys',m2,_⟩:=k2 Gr.refl.w r1 w4;exact⟨b1,b2,rfl,⟨ys,m1⟩,⟨ys',m2⟩,w2 _ (DM k1 k2)⟩
end
section
variable {Φ:Fn} {Γ:tQ} {k:Nat} {X:Cx} {cl:Nat->Addr} {EX:Nat->List V->Hp->Prop}
def sy:List Nat->Rt
 |[]=>RX
 |i::is=>Mq (ux i) (sy is)
def DN(K:Frag):AH->TG
 |.one i=>ux i
 |.tup is=>RY K is.length (sy is)
def jn:List Nat->List V->L2.St->L2.St
 |i::is,v::vs,σ=>jn is vs (σ.set i (some v))
 |_,_,σ=>σ
theorem pe:∀{is:List Nat} {vs:List V} {σ:L2.St} {H:Hp} {Q:L2.St->Hp->Prop},vs.length=is.length->Q (jn is vs σ) H->sy is vs σ H Q
 |[],[],_,_,_,_,h=>⟨rfl,h⟩
 |i::is,v::vs,σ,H,Q,hl,h=>⟨v,vs,rfl,pe (by simpa using hl) h⟩
theorem u9(hnd:X.N.Nodup):∀{is:List Nat} {es:List Expr},es.length=is.length->(∀p∈is.zip es,∃x pos,p.2=.Name x pos/\X.N[p.1]?=some x/\X.env.scope.names.lookup x=some .local)->Ru X es (sy is)
 |[],[],_,_=>BC
 | i::is,e::es,hl,h=>by
  obtain⟨x,pos,rfl,h1,h2⟩:=h (i,e) (by simp);exact xE (qM hnd h1 (.inl h2) (.inr h2)) (u9 hnd (by simpa using hl) λp hp=>h p (by simp[hp]))
theorem iC:∀{es:List Expr},(∀e∈es,∃x pos,e=.Name x pos)->(assignEach es env).length=es.length/\(assignEach es env).findIdx? (·.1)=none
 |[],_=>⟨rfl,rfl⟩
 | e::es,h=>by
  obtain⟨x,pos,rfl⟩:=h e aal;obtain⟨h1,h2⟩:=iC (env:=env) (es:=es) λe he=>h e (aak _ he);have e1:assignEach (Expr.Name x pos::es) env=(false,assign (Expr.Name x pos) env)::assignEach es env:=rfl;rw[e1];refine⟨by simp[h1],?_⟩;rw[List.findIdx?_cons,h2];rfl
theorem Gv{i:Nat}(h:DH Γ (.one i) tg=true):∃x p,tg=.Name x p:=by
 cases tg<;>first|exact⟨_,_,rfl⟩|exact absurd h aac
theorem yE{is:List Nat}(h:DH Γ (.tup is) tg=true):∃es k p,tg=.Tuple es k p:=by
 cases tg<;>first|exact⟨_,_,_,rfl⟩|exact absurd h aac
theorem Ph(c:Ctx Φ Γ k X cl EX)(hnd:X.N.Nodup)(h:DH Γ pat tg=true):PG X tg (DN X.K pat):=by
 cases pat with
 |one i=>obtain⟨x,xp,rfl⟩:=Gv h;simp only[DH,and_eq_true,beq_iff_eq]at h;obtain⟨h1,h2⟩:=h;exact qM hnd (by rw[c.N];exact h1) (.inl (by rw[c.sc];exact h2)) (.inr (by rw[c.sc];exact h2))
 |tup is=>
  obtain⟨es,kk,pos,rfl⟩:=yE h
  ·
   simp only[DH,and_eq_true,beq_iff_eq,all_eq_true]at h;obtain⟨h1,h2⟩:=h;have names:∀p∈is.zip es,∃x pos,p.2=.Name x pos/\X.N[p.1]?=some x/\X.env.scope.names.lookup x=some .local:=λp hp=>by
    have q:=h2 p hp;cases ep:p.2<;>rw[ep]at q<;>simp at q;rename_i x pos';exact⟨x,pos',rfl,by rw[c.N];exact q.1,by rw[c.sc];exact q.2⟩
   have all:∀e∈es,∃x pos,e=.Name x pos:=λe he=>by
    obtain⟨n,hn,rfl⟩:=List.getElem_of_mem he;have hm:(is[n]'(by omega),es[n])∈is.zip es:=List.mem_iff_getElem?.mpr ⟨n,by rw[List.getElem?_zip_eq_some];simp[hn]⟩;obtain⟨x,pos,q,_⟩:=names _ hm;exact⟨x,pos,q⟩
   obtain⟨l1,l2⟩:=iC (env:=X.env) all;exact EG c.calm (u9 hnd h1 names) (by rw[l1,h1]) l2
def yF(Γ:tQ):AH->Expr->Bool
 |.one i,.Name x _=>Γ.N[i]?==some x&&(Γ.sc.names.lookup x==some .local || Γ.sc.names.lookup x==some .cell)
 | .tup is,.Tuple es _ _=>es.length==is.length&&(is.zip es).all λp=>match p.2 with
  |.Name x _=>Γ.N[p.1]?==some x&&(Γ.sc.names.lookup x==some .local || Γ.sc.names.lookup x==some .cell)
  |_=>false
 |_,_=>false
theorem sD(hfn:∀x,L2.Loc X.env.scope x->X.fn x=true\/X.env.scope.names.lookup x=some .local)(hnd:X.N.Nodup):∀{is:List Nat} {es:List Expr},es.length=is.length->(∀p∈is.zip es,∃x pos,p.2=.Name x pos/\X.N[p.1]?=some x/\Loc X.env.scope x)->Ru X es (sy is)
 |[],[],_,_=>BC
 | i::is,e::es,hl,h=>by
  obtain⟨x,pos,rfl,h1,h2⟩:=h (i,e) (by simp);exact xE (qM hnd h1 h2 (hfn x h2)) (sD hfn hnd (by simpa using hl) λp hp=>h p (by simp[hp]))
theorem sE{i:Nat}(h:yF Γ (.one i) tg=true):∃x p,tg=.Name x p:=by
 cases tg<;>first|exact⟨_,_,rfl⟩|exact absurd h aac
theorem n6{is:List Nat}(h:yF Γ (.tup is) tg=true):∃es k p,tg=.Tuple es k p:=by
 cases tg<;>first|exact⟨_,_,_,rfl⟩|exact absurd h aac
theorem Ce(c:Ctx Φ Γ k X cl EX)(hfn:∀x,L2.Loc X.env.scope x->X.fn x=true\/X.env.scope.names.lookup x=some .local)(hnd:X.N.Nodup)(h:yF Γ pat tg=true):PG X tg (DN X.K pat):=by
 have loc:∀x,(Γ.sc.names.lookup x==some .local || Γ.sc.names.lookup x==some .cell)=true->Loc X.env.scope x:=λx e=>by
  unfold L2.Loc;rw[c.sc];simpa using e
 cases pat with
 |one i=>obtain⟨x,pos,rfl⟩:=sE h;simp only[yF,and_eq_true,beq_iff_eq]at h;obtain⟨h1,h2⟩:=h;exact qM hnd (by rw[c.N];exact h1) (loc _ h2) (hfn _ (loc _ h2))
 |tup is=>
  obtain⟨es,kk,pos,rfl⟩:=n6 h
  ·
   simp only[yF,and_eq_true,beq_iff_eq,all_eq_true]at h;obtain⟨h1,h2⟩:=h;have names:∀p∈is.zip es,∃x pos,p.2=.Name x pos/\X.N[p.1]?=some x/\Loc X.env.scope x:=λp hp=>by
    have q:=h2 p hp;cases ep:p.2<;>rw[ep]at q<;>first|cases q|skip
    rename_i x pos';simp only[and_eq_true,beq_iff_eq]at q;exact⟨x,pos',rfl,by rw[c.N];exact q.1,loc _ q.2⟩
   have all:∀e∈es,∃x pos,e=.Name x pos:=λe he=>by
    obtain⟨n,hn,rfl⟩:=List.getElem_of_mem he;have hm:(is[n]'(by omega),es[n])∈is.zip es:=List.mem_iff_getElem?.mpr ⟨n,by rw[List.getElem?_zip_eq_some];simp[hn]⟩;obtain⟨x,pos,q,_⟩:=names _ hm;exact⟨x,pos,q⟩
   obtain⟨l1,l2⟩:=iC (env:=X.env) all;exact EG c.calm (sD hfn hnd h1 names) (by rw[l1,h1]) l2
theorem dg.set{K:Frag}{ρ:List Addr}{env:Env}{σ:L2.St}{H:Hp}{i:Nat}{v:Val}{x:V}(e:dg K ρ env σ H)(hl:env.length = σ.length)(q:VR K ρ H v x):dg K ρ (env.set i (some v)) (σ.set i (some x)) H:=λj w hj=>by
 by_cases hij:i=j
 ·subst hij
  have hi:i<env.length:=by have:=(aag.mp hj).1;simpa using this
  rw[aar hi]at hj;cases hj;exact⟨x,by rw[aar (by rw[<-hl];exact hi)],q⟩
 ·rw[aah hij]at hj;rw[aah hij];exact e j w hj
theorem m9{K:Frag}{ρ:List Addr}{H:Hp}:∀{is:List Nat} {ds:List Val} {xs:List V} {env env':Env} {σ:L2.St},bindAll is ds env=some env'->aI K ρ H ds xs->dg K ρ env σ H->env.length = σ.length->dg K ρ env' (jn is xs σ) H/\env'.length=(jn is xs σ).length/\(jn is xs σ).length = σ.length/\xs.length=is.length
 | [],[],xs,env,env',σ,e,q,hE,hl=>by
  rw[aI]at q;subst q;simp only[bindAll]at e;cases e;exact⟨hE,hl,rfl,rfl⟩
 | i::is,d::ds,xs,env,env',σ,e,q,hE,hl=>by
  rw[aI]at q;obtain⟨x,r,rfl,q1,q2⟩:=q;simp only[bindAll]at e;obtain⟨a1,a2,a3,a4⟩:=m9 e q2 (hE.set hl q1) (by simp[hl]);exact⟨a1,a2,by rw[show jn (i::is) (x::r) σ = jn is r (σ.set i (some x)) from rfl,a3];simp,by simp[a4]⟩
 |[],_::_,_,_,_,_,e,_,_,_=>by simp[bindAll]at e
 |_::_,[],_,_,_,_,e,_,_,_=>by simp[bindAll]at e
theorem Cf{K:Frag}{ρ:List Addr}{H:Hp}{pat:AH}{v:Val}{x:V}{env env':Env}{σ:L2.St}{Q:L2.St->Hp->Prop}(e:iA pat v env=some env')(q:VR K ρ H v x)(hE:dg K ρ env σ H)(hl:env.length = σ.length)
  (kk:∀σ',dg K ρ env' σ' H->env'.length = σ'.length -> σ'.length = σ.length->Q σ' H):DN K pat x σ H Q:=by
 cases pat with
 |one i=>simp only[iA]at e;cases e;exact kk _ (hE.set hl q) (by simp[hl]) (by simp)
 |tup is=>
  cases v<;>simp only[iA]at e<;>first|cases e|skip
  rw[VR]at q;obtain⟨a,xs,rfl,q1,q2⟩:=q;obtain⟨a1,a2,a3,a4⟩:=m9 e q2 hE hl;exact⟨a,xs,rfl,q1,a4,pe a4 (kk _ a1 a2 a3)⟩
theorem mD{α β:Type}{W:β -> Hs->List Addr->Hp->Prop}{W':α -> Hs->List Addr->Hp->Prop}{m:M α}{f:α -> M β}(g:Gr ρ H ρ' H')(p:Post B EX ρ H W (bnd m f h))
  (kk:∀v h1 ρ2 H2,m h=.ok v h1->Post B EX ρ H W (f v h1)->Gr ρ' H' ρ2 H2->HR B ρ2 h1 H2->W' v h1 ρ2 H2):Post B EX ρ' H' W' (m h):=by
 unfold bnd at p;cases e:m h with
 |ok v h1=>rw[e]at p;exact λρ2 H2 g2 r2=>kk v h1 ρ2 H2 e p g2 r2
 |exc c vs h1=>rw[e]at p;exact λρ2 H2 xs g2 r2 q=>p ρ2 H2 xs (g.trans g2) r2 q
 |no=>rw[e]at p;exact p
theorem HR.adopt(r:HR B ρ h H)(hD:D ∉ ρ)(q:OR B (ρ ++ [D]) H D u):HR B (ρ ++ [D]) (h++[u]) H where
 len:=by simp[r.len]
 nd:=by rw[nodup_append];refine⟨r.nd,by simp,λa ha b hb=>?_⟩;rw[aat.mp hb];rintro rfl;exact hD ha
 ob i v a q1 q2:=by
  by_cases hi:i<h.length
  ·rw[aas hi]at q1;rw[aas (by rw[r.len];exact hi)]at q2;exact OR.mw ⟨prefix_append _ _,λ_ _ e _=>e⟩ rfl (r.ob i v a q1 q2)
  ·rw[aaD (by omega)]at q1
   rw[aaD (by rw[r.len];omega)]at q2;have hi0:i-h.length=0:=by have:=(aag.mp q1).1;simp at this;omega
   rw[hi0]at q1;rw[r.len,hi0]at q2;simp at q1 q2;subst q1;subst q2;exact q
 tab:=r.tab
theorem Gr.over(g:Gr ρ H ρ' H')(hD:H D=none):Gr ρ H ρ' (upd H' D o) where
 pre:=g.pre
 keep a u e t n:=by rw[ak (aC e hD)];exact g.keep a u e t n
 tbls a ps e:=by obtain⟨ps1,e1⟩:=g.tbls a ps e;exact⟨ps1,by rw[ak (aC e hD)];exact e1⟩
 firm a u e n:=by rw[ak (aC e hD)];exact g.firm a u e n
 fresh:=g.fresh
theorem Gr.adopt(g:Gr ρ H ρ' H')(hD:H D=none):Gr ρ H (ρ'++[D]) H' where
 pre:=g.pre.trans (prefix_append _ _)
 keep:=g.keep
 tbls:=g.tbls
 firm:=g.firm
 fresh a z n:=by
  rcases aaP.mp z with z|z
  ·exact g.fresh a z n
  ·rw[aat.mp z];exact hD
theorem K4{K:Frag}{ρ:List Addr}{env:Env}{σ:L2.St}{H:Hp}{js:List (Option Nat)}(e:dg K ρ env σ H):dg K ρ (kY js env) (jT js σ) H:=λi v q=>by
 unfold kY at q;rw[aaB]at q;cases hj:js[i]? with
 |none=>rw[hj]at q;cases q
 |some o=>
  rw[hj]at q;simp only[map_some]at q;cases o with
  |none=>cases q
  |some j=>
   dsimp only at q;cases ej:env[j]? with
   |none=>rw[ej]at q;cases q
   |some w=>
    cases w with
    |none=>rw[ej]at q;cases q
    |some d=>rw[ej]at q;cases q;obtain⟨x,q1,q2⟩:=e j _ ej;refine⟨x,?_,q2⟩;unfold jT;rw[aaB,hj];simp only[map_some];rw[q1]
theorem Gx{K:Frag}{ρ:List Addr}{env:Env}{σ σ':L2.St}{H:Hp}{js:List (Option Nat)}{pat:AH}(hp:(yw pat).all (λi=>js[i]?==some none)=true)(e:dg K ρ (kY js env) σ H)(hs:∀i,i∉yw pat -> σ'[i]? = σ[i]?):dg K ρ (kY js env) σ' H:=λi v q=>by
 have hi:i∉yw pat:=λz=>by
  have h1:=all_eq_true.mp hp i z;have h2:js[i]?=some none:=eq_of_beq h1;unfold kY at q;rw[aaB,h2]at q;cases q
 obtain⟨x,q1,q2⟩:=e i v q;exact⟨x,(hs i hi).trans q1,q2⟩
theorem sG:∀{is:List Nat} {xs:List V} {σ:L2.St} {i:Nat},i∉is->(jn is xs σ)[i]? = σ[i]?
 |[],xs,σ,i,_=>by cases xs<;>rfl
 |j::is,[],σ,i,_=>rfl
 | j::is,x::xs,σ,i,h=>by
  rw[show jn (j::is) (x::xs) σ = jn is xs (σ.set j (some x)) from rfl,sG λz=>h (aak _ z),aah λz=>h (by rw[z];exact aal)]
theorem Gy{K:Frag}{ρ:List Addr}{H:Hp}{pat:AH}{v:Val}{x:V}{env env':Env}{σ:L2.St}{Q:L2.St->Hp->Prop}(e:iA pat v env=some env')(q:VR K ρ H v x)(hE:dg K ρ env σ H)(hl:env.length = σ.length)
  (kk:∀σ',dg K ρ env' σ' H -> σ'.length = σ.length->(∀i,i∉yw pat -> σ'[i]? = σ[i]?)->Q σ' H):DN K pat x σ H Q:=by
 cases pat with
 |one i=>simp only[iA]at e;cases e;exact kk _ (hE.set hl q) (by simp) λj hj=>aah λz=>hj (by rw[z];exact aat.mpr rfl)
 |tup is=>
  cases v<;>simp only[iA]at e<;>first|cases e|skip
  rw[VR]at q;obtain⟨a,xs,rfl,q1,q2⟩:=q;obtain⟨a1,a2,a3,a4⟩:=m9 e q2 hE hl;exact⟨a,xs,rfl,q1,a4,pe a4 (kk _ a1 a3 λj hj=>sG hj)⟩
theorem sH(hs:k8 Φ it)(hc:cC Φ t)(he:cC Φ elt)(c:Ctx Φ Γ k X cl EX)(h:bD Γ (.comp N' js pat ik it t elt) e=true){G:Prop}
  (gk:∀e' tg iter ifs scope pos wi g tt te,e=.ListComp e' [⟨tg,iter,ifs,0⟩] scope pos->l9 X.N X.env.scope scope N' js=true->PI X tg iter wi->(∀cls C s H fp,PG (bY X scope N' cls C s H fp) tg g)->(∀cls C s H fp,Ke (bY X scope N' cls C s H fp) ifs tt)->(∀cls C s H fp,PE (bY X scope N' cls C s H fp) e' te)->(∀x,foldedSetIterable iter X.env x=pure x)->(∀σ H Q,tV Φ (bd X cl) EX (.comp N' js pat ik it t elt) σ H Q->Fc wi js g tt te σ H Q)->G):G:=by
 revert gk;apply KC h;intro e' q1 scope pos h;apply qE h;intro q2 h;apply OC h;intro tg iter ifs q3 h;apply yv h;intro h;simp only[and_eq_true]at h;intro gk;obtain⟨⟨⟨⟨⟨⟨⟨h1,h2⟩,h3⟩,h4⟩,h5⟩,h6⟩,h7⟩,h8⟩:=h;have hnd:N'.Nodup:=aay h3;have hen:ik=.enum\/ik=.zip->∃es kk pos,tg=.Tuple es kk pos:=by
  intro hz;cases pat with
  |one i=>rcases hz with rfl|rfl<;>cases h6
  |tup is=>exact yE h4
 obtain⟨hi,hf⟩:=MM hs c h2 hen
 let tt:TT:=if dU t=true then xS else tT Φ (bd X cl) EX t
 have Wg:∀cls C s H fp,Ke (bY X scope N' cls C s H fp) ifs tt:=λcls C s H fp=>by
  have c':=c.MI scope N' cls C s H fp;cases ifs with
  |nil=>have:dU t=true:=h7;show Ke _ [] (if dU t=true then xS else tT Φ (bd X cl) EX t);rw[aaj this];exact Kf
  |cons a r=>
   cases r with
   |cons _ _=>cases h7
   |nil=>simp only[and_eq_true,not_eq_true']at h7;show Ke _ [a] (if dU t=true then xS else tT Φ (bd X cl) EX t);rw[aam (by rw[h7.1];exact aac)];exact Kg (hc _ _ _ _ _ _ c' h7.2).2
 refine gk e' tg iter ifs scope pos _ (DN X.K pat) tt (tV Φ (bd X cl) EX elt) rfl (by rw[c.N,c.sc];exact h1) hi (λcls C s H fp=>Ph (c.MI scope N' cls C s H fp) hnd h4) Wg (λcls C s H fp=>(he _ _ _ _ _ _ (c.MI scope N' cls C s H fp) h8).1) hf λσ H Q ⟨ρ,env,h,hE,r,p⟩=>?_
 ·skip
  simp only[aS]at p
  let f:Val->M (Option Val):=λd=>bnd (bH (iA pat d (kY js env))) λenv'=>bnd (if dU t=true then ret true else bnd (aS Φ t env') λv=>ask λh=>ck h v) λt=>
    if t=true then bnd (aS Φ elt env') λe=>ret (some e) else ret none
  have p':Post (bd X cl) EX ρ H (WV X.K Q) (bnd (Ry Φ ik it env) (λsrc=>bnd (ask λh=>src.items h) λxs=>aQ (decide (xs.length<=100000)) (bnd (gf src f xs.length 0 []) λys=>new (.lst ys))) h):=by unfold Ry;rw[bw];exact p
  refine⟨ρ,env,h,hE,r,bA p' λsrc h1 ρ1 H1 g1 r1 p1=>?_⟩;obtain⟨xs,e1,p2⟩:=aH p1;obtain⟨e2,p3⟩:=bu p2;have e2:=aay e2;refine⟨⟨xs,e1⟩,λJ wk D hD=>?_⟩;have hDl:(100000:Nat)<sizeLine:=by rw[sizeLine_eq];decide
  refine⟨λi m σ' H'=>∃ρ' h' acc ys,Gr ρ1 H1 ρ' H'/\HR (bd X cl) ρ' h' H'/\D ∉ ρ'/\H' D=some (.lst ys)/\aI X.K ρ' H' acc ys/\dg X.K ρ' (kY js env) σ' H' /\ σ'.length=js.length/\acc.length<=i/\i+m=xs.length /\
   Post (bd X cl) EX ρ1 H1 (WV X.K Q) (bnd (gf src f m i acc) (λys=>new (.lst ys)) h'),⟨xs.length,ρ1,h1,[],[],Gr.side hD,r1.side hD,r1.out hD,aD,aI.nil,(K4 (hE.up g1)).up (Gr.side hD),mP js σ,aao _,by omega,p3⟩,?_⟩
  rintro i m σ' H' ⟨ρ',h',acc,ys,w1,w2,w3,w4,w5,w6,w7,w8,w9,wC⟩;have fin:∀p:Post (bd X cl) EX ρ1 H1 (WV X.K Q) (new (.lst acc) h'),Q (.ref D) H':=λp=>by
   refine p (ρ'++[D]) H' (w1.adopt hD) (w2.adopt w3 ⟨ys,w4,aI.mw ⟨prefix_append _ _,λ_ _ e _=>e⟩ _ _ w5⟩) _ (VR.ref (by rw[<-w2.len];simp))
  cases m with
  |zero=>
   simp only[gf,bw]at wC;obtain⟨xs',k1,wC⟩:=aH wC;have Ti:Post (bd X cl) EX ρ1 H1 (WV X.K Q) (bnd (aQ (decide (xs'.length<=i)) (ret acc)) (λys=>new (.lst ys)) h'):=wC;unfold aQ at Ti
   by_cases hl:xs'.length<=i
   ·have:bnd (λh=>if decide (xs'.length<=i)=true then ret acc h else Out.no) (λys=>new (.lst ys)) h'=new (.lst acc) h':=by
     unfold bnd;dsimp only;rw[aaj (decide_eq_true hl)];rfl
    rw[this] at Ti;exact .inl ⟨wk.stop w1.w w2 k1 hl,fin Ti⟩
   ·have:bnd (λh=>if decide (xs'.length<=i)=true then ret acc h else Out.no) (λys=>new (.lst ys)) h'=Out.no:=by
     unfold bnd;dsimp only;rw[aam (by rw[decide_eq_false hl];exact aac)]
    rw[this] at Ti;exact Ti.elim
  |succ m=>
   simp only[gf,bw]at wC;obtain⟨xs',k1,wC⟩:=aH wC;cases hx:xs'[i]? with
   |none=>rw[hx]at wC;exact .inl ⟨wk.stop w1.w w2 k1 (List.getElem?_eq_none_iff.mp hx),fin wC⟩
   |some v=>
    rw[hx]at wC;dsimp only at wC;refine .inr ⟨wk.go w1.w w2 k1 hx,_,λDg Mx w=>⟨m,lt_succ_self _,w⟩,λy H2 hy=>?_⟩;obtain⟨z1,z2,z3⟩:=wk.CZ w1.w w2 k1 hx hy;simp only[bw]at wC;simp only[f,bw]at wC;obtain⟨env',k2,wC⟩:=cO wC;refine Gy k2 z3 (w6.up z1) (by rw[w7];simp[kY]) λσ2 Vz hl2 hout=>?_;have Tj:H2 D=some (.lst ys):=z1.keep _ _ w4 (λ_ z=>nomatch z) w3;have G2:Gr ρ1 H1 ρ' H2:=w1.trans z1;have body:∀(b:Bool) (h3:Hs) (ρ3:List Addr) (H3:Hp),Gr ρ' H2 ρ3 H3->HR (bd X cl) ρ3 h3 H3->Post (bd X cl) EX ρ1 H1 (WV X.K Q) (bnd (if b=true then bnd (aS Φ elt env') λe=>ret (some e) else ret none) (λo=>bnd (gf src f m (i+1) (match o with|some e=>acc++[e]|none=>acc)) λys=>new (.lst ys)) h3) ->
      (if b=true then tV Φ (bd X cl) EX elt σ2 H3 (λy H4=>∃ys,H4 D=some (.lst ys)/\ys.length<sizeLine/\(λσ' H'=>∃ρ' h' acc ys,Gr ρ1 H1 ρ' H'/\HR (bd X cl) ρ' h' H'/\D ∉ ρ'/\H' D=some (.lst ys)/\aI X.K ρ' H' acc ys/\dg X.K ρ' (kY js env) σ' H' /\ σ'.length=js.length/\acc.length<=i+1/\i+1+m=xs.length /\
       Post (bd X cl) EX ρ1 H1 (WV X.K Q) (bnd (gf src f m (i+1) acc) (λys=>new (.lst ys)) h')) σ2 (upd H4 D (.lst (ys++[y]))))
      else (λσ' H'=>∃ρ' h' acc ys,Gr ρ1 H1 ρ' H'/\HR (bd X cl) ρ' h' H'/\D ∉ ρ'/\H' D=some (.lst ys)/\aI X.K ρ' H' acc ys/\dg X.K ρ' (kY js env) σ' H' /\ σ'.length=js.length/\acc.length<=i+1/\i+1+m=xs.length /\
       Post (bd X cl) EX ρ1 H1 (WV X.K Q) (bnd (gf src f m (i+1) acc) (λys=>new (.lst ys)) h')) σ2 H3):=by
     intro b h3 ρ3 H3 g3 r3 p5;have W4:D ∉ ρ3:=λz=>by have:=g3.fresh D z w3;rw[Tj]at this;cases this
     have W5:H3 D=some (.lst ys):=g3.keep _ _ Tj (λ_ z=>nomatch z) w3;have E3:dg X.K ρ3 (kY js env) σ2 H3:=(Gx h5 (w6.up z1) hout).up g3;cases b with
     |true=>
      rw[aaj rfl]at p5 |-;simp only[bw,dh]at p5;refine⟨ρ3,env',h3,Vz.up g3,r3,mD (G2.trans g3) p5 λv4 h4 ρ4 H4 _ p6 g4 r4 y4 q4=>?_⟩;have Yl:D ∉ ρ4:=λz=>by have:=g4.fresh D z W4;rw[W5]at this;cases this
      have W6:H4 D=some (.lst ys):=g4.keep _ _ W5 (λ_ z=>nomatch z) W4;have gw:Gw ρ4 H4 ρ4 (upd H4 D (.lst (ys++[y4]))):=Gw.other W6 rfl;have la:=w5.length;refine⟨ys,W6,by omega,ρ4,h4,acc++[v4],ys++[y4],((G2.trans g3).trans g4).over hD,r4.other Yl W6 rfl (λ_ z=>nomatch z),Yl,aD,aI.append (aI.mw gw _ _ (aI.up ((z1.trans g3).trans g4) _ _ w5)) (aI.mw gw _ _ (aI.cons q4 aI.nil)),(E3.up g4).mw gw,by rw[hl2,w7],by simp;omega,by omega,p6⟩
     |false=>rw[aam aac]at p5 |-;exact⟨ρ3,h3,acc,ys,G2.trans g3,r3,W4,W5,aI.up (z1.trans g3) _ _ w5,E3,by rw[hl2,w7],by omega,by omega,p5⟩
    show (if dU t=true then xS else tT Φ (bd X cl) EX t) σ2 H2 _
    by_cases hn:dU t=true
    ·rw[aaj hn];rw[aaj hn,dh]at wC;exact body true h' ρ' H2 Gr.refl z2 wC
    ·rw[aam hn];rw[aam hn]at wC;exact⟨ρ',env',h',Vz,z2,mD G2 wC λb h3 ρ3 H3 _ p5 g3 r3=>body b h3 ρ3 H3 g3 r3 p5⟩
theorem K5(hs:k8 Φ it)(hc:cC Φ t)(he:cC Φ elt):cC Φ (.comp N' js pat ik it t elt):=by
 intro Γ k X cl EX e c h;refine sH hs hc he c h λe' tg iter ifs scope pos wi g tt te q0 h1 h2 h3 h4 h5 h6 h7=>?_;subst q0;have q:=(Kh (pos:=pos) h1 c.calm h2 h3 h4 h5 h6).imp h7;exact⟨q,dO q λ_=>rfl⟩
theorem K6{k v:IE}(hk:cC Φ k)(hv:cC Φ v):cC Φ (.dct1 k v):=by
 intro Γ n X cl EX e c h;apply B0 h;intro q1 q2 pos h;apply qE h;intro q3 h;apply B4 h;intro a h;apply qE h;intro b h;simp only[and_eq_true]at h;have q:PE X (.Dict [some a] [b] pos) (tV Φ (bd X cl) EX (.dct1 k v)):=by
  refine(Kd (E7 (hk Γ n X cl EX a c h.1).1 (hv Γ n X cl EX b c h.2).1 Kc) rfl rfl (by simp) (by simp)).imp λσ H Q aT=>?_;obtain⟨ρ,env,h,hE,r,p⟩:=aT;intro D hD;have g0:Gr ρ H ρ (upd H D (.dK [])):=Gr.side hD;simp only[aS]at p;refine⟨ρ,env,h,hE.up g0,r.side hD,mD g0 p λx h1 ρ1 H1 _ p1 g1 r1 y1 q1=>?_⟩;obtain⟨kk,e1,p1⟩:=cO p1;refine⟨ρ1,env,h1,(hE.up g0).up g1,r1,mD (g0.trans g1) p1 λy h2 ρ2 H2 _ p2 g2 r2 y2 q2=>?_⟩;have Ym:D ∉ ρ:=r.out hD;have Tj:D ∉ ρ2:=λz=>by have:=(g1.trans g2).fresh D z Ym;rw[aD]at this;cases this
  have e2:H2 D=some (.dK []):=(g1.trans g2).keep D _ aD (λ_ z=>nomatch z) Ym;have ek:y1=kV kk:=by
   cases x<;>first|(cases e1;done)|skip
   ·cases e1;rw[VR]at q1;exact q1
   ·cases e1;rw[VR]at q1;exact q1
  refine⟨e2,[(kk,y2)],by rw[ek];rfl,by simp,?_⟩;have gw:Gw ρ2 H2 (ρ2++[D]) (upd H2 D (.dK (oX [] [(kk,y2)]))):=⟨prefix_append _ _,(Gw.other (ρ:=ρ2) e2 rfl).firm⟩;exact p2 (ρ2++[D]) _ ((((g0.trans g1).trans g2).over hD).adopt hD) ((r2.other Tj e2 rfl (λ_ z=>nomatch z)).adopt Tj ⟨[(kk,y2)],aD,y2,[],rfl,VR.mw gw _ _ q2,rfl⟩) _ (BU r2)
 exact⟨q,dO q λ_=>rfl⟩
theorem K7{p q:Nat}:cC Φ (.dflt N' js p q d w):=o9 λ_ _=>rfl
theorem Pj(ha:cC Φ a):cC Φ (.isc a x bs):=o9 λ_ _=>rfl
theorem pq:(∀ir,cC Φ ir)/\∀fh,k8 Φ fh:=by
 have one:∀ir,cC Φ ir:=by
  intro ir;exact IE.rec (motive_1:=λir=>cC Φ ir) (motive_2:=λfh=>k8 Φ fh) (λ_=>OP) (λ_=>OQ) (λ_ _=>OS) Te (λ_ _ _ a b=>OT a b) (λ_ a=>OU a) (λ_ _ _ a b=>OV a b) (λ_ _ _ _ _ a b c=>OW a b c)
   (λ_ _ a b=>OX a b) (λ_ _ a b=>Tf a b) (λ_ a=>OY a) (λ_ _ _ a b c=>OZ a b c) (λ_ a=>O0 a) (λ_ a=>O3 a) (λ_ _ a b=>O4 a b) (λ_ _ _ a b c=>O5 a b c) (λ_ _ a=>KP a) (λ_ _ a=>Pf a)
   (λ_ _ _ a b=>Pg a b) (λ_ _ _ _ _ _ _ a b c=>K5 a b c) KN (λ_ a=>K0 a) (λ_ _ _ a b c=>K1 a b c) (λ_ _ a b=>K6 a b) (λ_ a=>Gp a) (λ_ _ _ a b c=>K2 a b c) (λ_ a=>Gs a) (λ_ a=>Gq a) (λ_ _ _ a=>O7 a) (λ_ _ _ _ a b=>O9 a b) (λ_ _ a b=>O6 a b) (λ_ _ _ _ _ _ _ _=>K7) (λ_ _ _ a=>Pj a) Gk (λ_ _ a b=>B8 a b) ir
 refine⟨one,λfh=>?_⟩
 induction fh using nM.rec (motive_1:=λ_=>True) with
 |nil=>exact Gk
 |cons e es _ ih=>exact B8 (one e) ih
 |_=>trivial
end
def ng:Expr->Bool
 |.ListComp ..=>false|.SetComp ..=>false|.DictComp ..=>false
 |_=>true
def Tn:Expr->Bool
 |.Tuple ..=>false
 |_=>true
def To:Expr->Bool
 |.SetComp ..=>false|.DictComp ..=>false
 |_=>true
mutual
noncomputable def K8(Γ:tQ):IS->Stmt->Bool
 |.expr e,s=>Gd (λx _=>ng x&&bD Γ e x) s
 |.asg p e,s=>KD (λq1 x _=>k1 (λtg=>yF Γ p tg&&bD Γ e x&&(match p with|.one _=>To x|.tup _=>ng x&&Tn x)) q1) s
 |.aug i o e,s=>WY (λq1 op v _=>sj (λx _=>Γ.N[i]?==some x&&(Γ.sc.names.lookup x==some .local || Γ.sc.names.lookup x==some .cell)&&OL o op&&(match o with|.pow=>false|_=>true)&&bD Γ e v) q1) s
 |.jV o i v,s=>KD (λq1 x _=>k1 (λq2=>KA (λa b _=>qU b&&ng x&&bD Γ o a&&bD Γ i b&&bD Γ v x) q2) q1) s
 |.iff c a b,s=>Yg (λt x y _=>bD Γ c t&&aP Γ a x&&aP Γ b y) s
 |.for p k it body,s=>S7 (λtg iter x q1 _=>wz q1 (yF Γ p tg&&B7 Γ k it iter&&(match k,p with|.enum,.one _=>false|.zip,.one _=>false|_,_=>true)&&aP Γ body x)) s
 |.whl _ c body,s=>Ge (λt x q1 _=>wz q1 (bD Γ c t&&aP Γ body x)) s
 |.ret e,s=>OG (λq1 _=>Ga (λx=>bD Γ e x) q1) s
 |.Kr,s=>OG (λq1 _=>FZ q1 (true)) s
 |.brk,s=>S8 (λ_=>true) s
 |.cnt,s=>S9 (λ_=>true) s
 |.pass,s=>MG (λ_=>true) s||Gd (λq1 _=>AK (λq2 _ _=>S5 (λ_=>true) q2) q1) s
 |.never,_=>true
 |.setF n a x v,s=>KD (λq1 e _=>k1 (λq2=>BZ (λo y _=>x==y&&ng e&&n == Γ.tb.nc && Γ.tb.KH.contains x&&bD Γ a o&&bD Γ v e) q2) q1) s
noncomputable def aP(Γ:tQ):bQ->List Stmt->Bool
 |.nil,ls=>ls.isEmpty
 | .cons s r,ls=>match ls with
  |l::ls=>K8 Γ s l&&aP Γ r ls
  |[]=>false
end
structure Gz (Φ:Fn) (Γ:tQ) (k:Nat) (X:Cx) (cl:Nat->Addr) (EX:Nat->List V->Hp->Prop):Prop extends Ctx Φ Γ k X cl EX where
 fn:∀x,L2.Loc X.env.scope x->X.fn x=true\/X.env.scope.names.lookup x=some .local
 nd:X.N.Nodup
 kind:X.env.scope.kind=.function
 xe:PassesOwn (model X.prog X.w) X.A X.env X.xe
def WF(K:Frag)(D:Ends):Fl->Hs->List Addr->Hp->Prop
 |.nx env',_,ρ',H'=>∀σ',dg K ρ' env' σ' H'->env'.length = σ'.length->D.nx σ' H'
 |.rt v,_,ρ',H'=>∀x,VR K ρ' H' v x->D.rt x H'
 |.bk env',_,ρ',H'=>∀σ',dg K ρ' env' σ' H'->env'.length = σ'.length->D.bk σ' H'
 |.ct env',_,ρ',H'=>∀σ',dg K ρ' env' σ' H'->env'.length = σ'.length->D.ct σ' H'
def tS(Φ:Fn)(B:Bd)(EX:Nat->List V->Hp->Prop)(ir:IS):TS:=λD σ H=>∃ρ env h,dg B.K ρ env σ H/\env.length = σ.length/\HR B ρ h H/\Post B EX ρ H (WF B.K D) (dB Φ ir env h)
def tSs(Φ:Fn)(B:Bd)(EX:Nat->List V->Hp->Prop)(ir:bQ):TS:=λD σ H=>∃ρ env h,dg B.K ρ env σ H/\env.length = σ.length/\HR B ρ h H/\Post B EX ρ H (WF B.K D) (fy Φ ir env h)
theorem _root_.L2.PS.imp(h:PS X e t)(i:∀D σ H,t' D σ H->t D σ H):PS X e t':=λpins s σ H D I hw=>h pins s σ H D I (i D σ H hw)
theorem _root_.L2.xC.imp(h:xC X e t)(i:∀D σ H,t' D σ H->t D σ H):xC X e t':=λpins s σ H D I hw=>h pins s σ H D I (i D σ H hw)
section
variable {Φ:Fn} {Γ:tQ} {k:Nat} {X:Cx} {cl:Nat->Addr} {EX:Nat->List V->Hp->Prop}
def yG(Φ:Fn)(ir:IS):Prop:=∀(Γ:tQ) (k:Nat) (X:Cx) (cl:Nat->Addr) (EX:Nat->List V->Hp->Prop) (st:Stmt),Gz Φ Γ k X cl EX->K8 Γ ir st=true->PS X st (tS Φ (bd X cl) EX ir)
def wD(Φ:Fn)(fh:bQ):Prop:=∀(Γ:tQ) (k:Nat) (X:Cx) (cl:Nat->Addr) (EX:Nat->List V->Hp->Prop) (st:List Stmt),Gz Φ Γ k X cl EX->aP Γ fh st=true->xC X st (tSs Φ (bd X cl) EX fh)
theorem lg{n:Nat}(h:ng e=true):swapsWith e t n env=pure false:=by
 cases e<;>first|rfl|(exact absurd h aac)
theorem MN(ir:IE)(c:Ctx Φ Γ k X cl EX)(h:bD Γ ir e=true):PE X e (tV Φ (bd X cl) EX ir):=(pq.1 ir Γ k X cl EX e c h).1
theorem Yn(ir:IE)(c:Ctx Φ Γ k X cl EX)(h:bD Γ ir e=true):PT X e (tT Φ (bd X cl) EX ir):=(pq.1 ir Γ k X cl EX e c h).2
theorem Tp(hs:∀env h,dB Φ ir env h=.no):yG Φ ir:=by
 intro Γ k X cl EX st c h;refine rq.imp λD σ H ⟨ρ,env,h,hE,hl,r,p⟩=>?_;rw[hs]at p;exact p.elim
theorem Pk:yG Φ (.expr e):=by
 intro Γ k X cl EX st c h;apply B5 h;intro x _ h;simp only[and_eq_true]at h;refine(JS (MN e c.toCtx h.2) (lg h.1)).imp λD σ H aT=>?_;obtain⟨ρ,env,h,hE,hl,r,p⟩:=aT;simp only[dB]at p;exact⟨ρ,env,h,hE,r,aF p λv h1 ρ1 x H1 g1 r1 q1 p1=>ao r1 p1 σ (hE.up g1) hl⟩
theorem Tq(h:To x=true):ng x=true\/∃e g sc p,x=.ListComp e g sc p:=by
 cases x<;>first|exact .inl rfl|exact .inr ⟨_,_,_,_,rfl⟩|exact absurd h aac
theorem Tr(h:bD Γ e (.ListComp e' gens scope p)=true):(∃N' js pat ik it Pn elt,e=.comp N' js pat ik it Pn elt)\/∃N' js a b d w,e=.dflt N' js a b d w:=by
 cases e<;>first|exact .inl ⟨_,_,_,_,_,_,_,rfl⟩|exact .inr ⟨_,_,_,_,_,_,rfl⟩|exact absurd h aac|(rw[bD.eq_def]at h;cases h)
theorem MO:yG Φ (.asg p e):=by
 intro Γ k X cl EX st c h;apply AN h;intro q1 x pos h;apply qE h;intro tg h;simp only[and_eq_true]at h;obtain⟨⟨h1,h2⟩,h3⟩:=h;have hg:=Ce c.toCtx c.fn c.nd h1;have he:=MN e c.toCtx h2;have fin:∀D σ H,tS Φ (bd X cl) EX (.asg p e) D σ H->JU (tV Φ (bd X cl) EX e) (DN X.K p) D σ H:=λD σ H ⟨ρ,env,h,hE,hl,r,pp⟩=>by
  simp only[dB]at pp;refine⟨ρ,env,h,hE,r,aF pp λv h1 ρ1 x H1 g1 r1 q1 p1=>?_⟩;obtain⟨env',e1,p2⟩:=cO p1;exact Cf e1 q1 (hE.up g1) hl λσ' W7 hl' _=>ao r1 p2 σ' W7 hl'
 have h1':(assignEach [tg] X.env).map (·.2)=[assign tg X.env]:=by
  cases p with
  |one i=>obtain⟨t,tp,rfl⟩:=sE h1;rfl
  |tup is=>obtain⟨es,kk,tp,rfl⟩:=n6 h1;rfl
 cases p with
 |tup is=>
  simp only[and_eq_true]at h3;refine(EH he hg ?_ ?_ h1').imp fin
  ·show swapsWith x (some tg) _ _=_;exact lg h3.1
  ·obtain⟨es,kk,tp,rfl⟩:=n6 h1;cases x<;>first|rfl|(exact absurd h3.2 aac)
 |one i=>
  obtain⟨t,tp,rfl⟩:=sE h1
  ·
   simp only[yF,and_eq_true,beq_iff_eq]at h1;have loc:L2.Loc X.env.scope t:=by unfold L2.Loc;rw[c.sc];simpa using h1.2
   have pl:ng x=true->PS X (.Assign [.Name t tp] x pos) (tS Φ (bd X cl) EX (.asg (.one i) e)):=λhx=>(EI c.nd (by rw[c.N];exact h1.1) loc he (lg hx) (c.fn t loc)).imp fin
   rcases Tq h3 with hx|⟨e',gens,scope,p2,rfl⟩
   ·exact pl hx
   ·skip
    cases hb:(X.env.kindOf t==some .local&&tp.line==p2.line && !(scope.names.any λ(n,k)=>n==t&&(k==.local||k==.cell))) with
    |false=>
     refine(EI c.nd (by rw[c.N];exact h1.1) loc he ?_ (c.fn t loc)).imp fin;have bk:(X.env.blockKind==.function)=true:=by unfold Env.blockKind;rw[c.kind];rfl
     show (pure (X.env.blockKind==.function&&X.env.kindOf t==some .local&&tp.line==p2.line && !(scope.names.any λ(n,k)=>n==t&&(k==.local||k==.cell))):Sem Bool)=pure false;rw[bk,Bool.true_and,hb]
    |true=>
     have bk:(X.env.blockKind==.function)=true:=by unfold Env.blockKind;rw[c.kind];rfl
     have hsw:swapsWith (.ListComp e' gens scope p2) (some (.Name t tp)) pos.line X.env=pure true:=by show (pure (X.env.blockKind==.function&&X.env.kindOf t==some .local&&tp.line==p2.line && !(scope.names.any λ(n,k)=>n==t&&(k==.local||k==.cell))):Sem Bool)=pure true;rw[bk,Bool.true_and,hb]
     rcases Tr h2 with ⟨N',js,pat,ik,it,Pn,elt,rfl⟩|⟨N',js,a,b,d,w,rfl⟩
     ·skip
      refine sH (pq.2 it) (pq.1 Pn) (pq.1 elt) c.toCtx h2 λe2 tg2 iter ifs W8 pos2 wi g tt te q0 q1 q2 q3 q4 q5 q6 q7=>?_;cases q0;refine(Kl c.nd (by rw[c.N];exact h1.1) loc q1 c.calm q2 q3 q4 q5 hsw (c.fn t loc) q6).imp λD σ H hh=>?_;exact q7 σ H _ (fin D σ H hh)
     ·skip
      refine rq.imp λD σ H hh=>?_;obtain⟨ρ,env,h,hE,hl,r,pp⟩:=hh;simp only[dB,aS]at pp;exact pp.elim
theorem Tt{i:Nat}:yG Φ (.aug i o e):=Tp λ_ _=>rfl
def Tu(B:Bd)(EX:Nat->List V->Hp->Prop):Ni:=λo i v H Q=>∃ρ h a b w,HR B ρ h H/\VR B.K ρ H a o/\VR B.K ρ H b i/\VR B.K ρ H w v/\Post B EX ρ H (λ_ _ _ H'=>Q H') (BR a b w h)
theorem Po(hu:X.A.units+64<cLine):RW X (Tu (bd X cl) EX):=by
 intro pins s σ H o i v ov iv u Q I ro ri rv hh;obtain⟨ρ,h,a,b,w,r,ha,hb,hw,p⟩:=hh;cases a with
 |ref j=>
  simp only[BR]at p;obtain⟨ob,e1,p⟩:=aH p;have dict:∀kvs,ob=.dct kvs->Post (bd X cl) EX ρ H (λ_ _ _ H'=>Q H') (bnd (bH (keyOf b)) (λk=>aQ (decide (kvs.length<sizeLine)) (put j (.dct (mH kvs k w)))) h)->wpAny (model X.prog X.w) X.A (setItem ov iv u) (λ_ s'=>∃H',L2.Inv X pins σ H' s'/\Q H') X.xe s:=by rintro kvs rfl p;obtain⟨kk,e2,p⟩:=cO p;obtain⟨e3,p⟩:=bu p;have e3:=aay e3;rw[VR]at ha;obtain⟨A,rfl,k1⟩:=ha;obtain⟨ks,k2,k3⟩:=r.ob j _ A e1 k1;cases ro;have ek:=Oc hb e2;subst ek;refine Dc (by omega) I (Ka.k (v:=v) k2 (by rw[<-k3.length];exact e3)) ri rv λs' I'=>⟨_,I',?_⟩;have g:Gr ρ H ρ (upd H A (.dK (putK ks kk v))):=Gr.put (aaE k1) k2 rfl (λ_ z=>nomatch z);exact p ρ _ g (r.put k1 e1 (u:=.dct (mH kvs kk w)) ⟨_,aD,je.put kk (VR.up g _ _ hw) (je.up g _ _ k3)⟩)
  cases ob with
  |dct kvs=>exact dict kvs rfl p
  |_=>exact p.elim
 |_=>exact p.elim
theorem Pp:yG Φ (.jV o i v):=by
 intro Γ k X cl EX st c h;apply AN h;intro q1 x pos h;apply qE h;intro q2 h;apply AL h;intro a b sp h;simp only[and_eq_true]at h;obtain⟨⟨⟨⟨h1,h2⟩,h3⟩,h4⟩,h5⟩:=h;have hpg:PG X (.Subscript a b sp) (RZ (tV Φ (bd X cl) EX o) (tV Φ (bd X cl) EX i) (Tu (bd X cl) EX)):=Nj (MN o c.toCtx h3) (MN i c.toCtx h4) (Po c.units) (by
  intro v;cases b<;>first|rfl|(exact absurd h1 aac))
 refine(EH (MN v c.toCtx h5) hpg (lg (t:=some (.Subscript a b sp)) (n:=pos.line) (env:=X.env) h2) (by cases x<;>rfl) rfl).imp λD σ H aT=>?_;obtain⟨ρ,env,h,hE,hl,r,p⟩:=aT;simp only[dB]at p;refine⟨ρ,env,h,hE,r,aF p λw h1 ρ1 x1 H1 g1 r1 q1 p1=>⟨ρ1,env,h1,hE.up g1,r1,aF p1 λw2 h2 ρ2 x2 H2 g2 r2 q2 p2=>⟨ρ2,env,h2,(hE.up g1).up g2,r2,aF p2 λw3 h3 ρ3 x3 H3 g3 r3 q3 p3=>?_⟩⟩⟩;refine⟨ρ3,h3,w2,w3,w,r3,VR.up g3 _ _ q2,q3,VR.up (g2.trans g3) _ _ q1,bA p3 λ_ h4 ρ4 H4 g4 r4 p4=>?_⟩;exact ao r4 p4 σ (((hE.up g1).up g2).up g3 |>.up g4) hl
theorem Tv(ha:wD Φ a)(hb:wD Φ b):yG Φ (.iff t a b):=by
 intro Γ k X cl EX st c h;apply S6 h;intro tt x y pos h;simp only[and_eq_true]at h;refine(RU (Yn t c.toCtx h.1.1) (ha Γ k X cl EX x c h.1.2) (hb Γ k X cl EX y c h.2)).imp λD σ H aT=>?_;obtain⟨ρ,env,h,hE,hl,r,p⟩:=aT;simp only[dB]at p;refine⟨ρ,env,h,hE,r,k9 p λv h1 p1=>?_⟩;obtain⟨s,e1,p2⟩:=aH p1;refine⟨s,e1,λρ1 H1 g1 r1=>?_⟩;have p2:=Post.up g1 p2;cases s with
 |true=>rw[aaj rfl]at p2 |-;exact⟨ρ1,env,h1,hE.up g1,hl,r1,p2⟩
 |false=>rw[aam aac]at p2 |-;exact⟨ρ1,env,h1,hE.up g1,hl,r1,p2⟩
theorem Tw(hb:wD Φ body):yG Φ (.for p ik it body):=by
 intro Γ k X cl EX st c h;apply OF h;intro tg iter x q1 pos h;apply m8 h;intro h;simp only[and_eq_true]at h;obtain⟨⟨⟨h1,h2⟩,h3⟩,h4⟩:=h;have hen:ik=.enum\/ik=.zip->∃es kk pos,tg=.Tuple es kk pos:=by
  intro hz;cases p with
  |one i=>rcases hz with rfl|rfl<;>cases h3
  |tup is=>exact n6 h1
 obtain⟨hi,hf⟩:=MM (pq.2 it) c.toCtx h2 hen;refine(Nn c.xe c.calm hi (Ce c.toCtx c.fn c.nd h1) (hb Γ k X cl EX x c h4) hf).imp λD σ H aT=>?_;obtain⟨ρ,env,h,hE,hl,r,pp⟩:=aT;simp only[dB]at pp;have p':Post (bd X cl) EX ρ H (WF X.K D) (bnd (Ry Φ ik it env) (λsrc=>bnd (ask λh=>src.items h) λxs=>forM src (λx env=>bnd (bH (iA p x env)) λenv'=>fy Φ body env') xs.length 0 env) h):=by unfold Ry;rw[bw];exact pp
 refine⟨ρ,env,h,hE,r,bA p' λsrc h1 ρ1 H1 g1 r1 p1=>?_⟩;obtain⟨xs,e1,p2⟩:=aH p1;refine⟨⟨xs,e1⟩,λJ wk=>?_⟩;refine⟨λi m σ' H'=>∃ρ' env' h',Gr ρ1 H1 ρ' H'/\dg X.K ρ' env' σ' H'/\env'.length = σ'.length/\HR (bd X cl) ρ' h' H'/\Post (bd X cl) EX ρ' H' (WF X.K D) (forM src (λx env=>bnd (bH (iA p x env)) λenv'=>fy Φ body env') m i env' h'),
  ⟨xs.length,ρ1,env,h1,Gr.refl,hE.up g1,hl,r1,p2⟩,?_⟩
 rintro i m σ' H' ⟨ρ',env',h',w1,w2,w3,w4,w5⟩;cases m with
 |zero=>simp only[forM]at w5;obtain⟨xs',k1,w5⟩:=aH w5;obtain⟨k2,w5⟩:=bu w5;exact .inl ⟨wk.stop w1.w w4 k1 (aay k2),ao w4 w5 σ' w2 w3⟩
 |succ m=>
  simp only[forM]at w5;obtain⟨xs',k1,w5⟩:=aH w5;cases hx:xs'[i]? with
  |none=>rw[hx]at w5;exact .inl ⟨wk.stop w1.w w4 k1 (List.getElem?_eq_none_iff.mp hx),ao w4 w5 σ' w2 w3⟩
  |some v=>
   rw[hx]at w5;dsimp only at w5;refine .inr ⟨wk.go w1.w w4 k1 hx,_,λDg Mx w=>⟨m,lt_succ_self _,w⟩,λy H2 hy=>?_⟩;obtain⟨z1,z2,z3⟩:=wk.CZ w1.w w4 k1 hx hy;rw[bw]at w5;obtain⟨nh,k2,w5⟩:=cO w5;refine Cf k2 z3 (w2.up z1) w3 λσ2 Vz hl2 _=>⟨ρ',nh,h',Vz,hl2,z2,bA (Post.up z1 w5) λf h3 ρ3 H3 g3 r3 p3=>?_⟩;cases f with
   |nx wF=>exact λσ3 GA hl3=>⟨ρ3,wF,h3,(w1.trans z1).trans g3,GA,hl3,r3,p3⟩
   |ct wF=>exact λσ3 GA hl3=>⟨ρ3,wF,h3,(w1.trans z1).trans g3,GA,hl3,r3,p3⟩
   |bk wF=>exact λσ3 GA hl3=>ao r3 p3 σ3 GA hl3
   |rt v=>exact(ao r3 p3:WF X.K D (.rt v) h3 ρ3 H3)
theorem Tz{n:Nat}(hb:wD Φ body):yG Φ (.whl n t body):=by
 intro Γ k X cl EX st c h;apply Gf h;intro tt x q1 pos h;apply m8 h;intro h;simp only[and_eq_true]at h;refine(EJ c.xe (Yn t c.toCtx h.1) (hb Γ k X cl EX x c h.2)).imp λD σ H aT=>?_;obtain⟨ρ,env,h,hE,hl,r,p⟩:=aT;simp only[dB]at p;refine⟨λm σ H=>∃ρ env h,dg X.K ρ env σ H/\env.length = σ.length/\HR (bd X cl) ρ h H/\Post (bd X cl) EX ρ H (WF X.K D) (yj (λenv=>bnd (aS Φ t env) λx=>ask λh=>ck h x) (fy Φ body) m env h),⟨n,ρ,env,h,hE,hl,r,p⟩,?_⟩;rintro m σ' H' ⟨ρ',env',h',w1,w2,w3,w4⟩;cases m with
 |zero=>exact w4.elim
 |succ m=>
  simp only[yj]at w4;refine⟨ρ',env',h',w1,w3,bA (m:=MJ Φ t env') w4 λb h1 ρ1 H1 g1 r1 p1=>?_⟩;show if b=true then _ else _
  cases b with
  |true=>
   rw[aaj rfl]at p1 |-;refine⟨_,λDg Mx w=>⟨m,lt_succ_self _,w⟩,ρ1,env',h1,w1.up g1,w2,r1,bA p1 λf h3 ρ3 H3 g3 r3 p3=>?_⟩;cases f with
   |nx wF=>exact λσ3 GA hl3=>⟨ρ3,wF,h3,GA,hl3,r3,p3⟩
   |ct wF=>exact λσ3 GA hl3=>⟨ρ3,wF,h3,GA,hl3,r3,p3⟩
   |bk wF=>exact λσ3 GA hl3=>ao r3 p3 σ3 GA hl3
   |rt v=>exact(ao r3 p3:WF X.K D (.rt v) h3 ρ3 H3)
  |false=>rw[aam aac]at p1 |-;exact ao r1 p1 σ' (w1.up g1) w2
theorem TF:yG Φ (.ret e):=by
 intro Γ k X cl EX st c h;apply Gg h;intro q1 _ h;apply B4 h;intro x h;refine(Ng (MN e c.toCtx h)).imp λD σ H aT=>?_;obtain⟨ρ,env,h,hE,hl,r,p⟩:=aT;simp only[dB]at p;exact⟨ρ,env,h,hE,r,aF p λv h1 ρ1 x H1 g1 r1 q1 p1=>ao r1 p1 x q1⟩
theorem Pq:yG Φ .Kr:=by
 intro Γ k X cl EX st c h;apply Gg h;intro q1 _ h;apply B3 h;intro h;refine JT.imp λD σ H aT=>?_;obtain⟨ρ,env,h,hE,hl,r,p⟩:=aT;simp only[dB]at p;exact ao r p _ VR.non
theorem TH:yG Φ .brk:=by
 intro Γ k X cl EX st c h;apply OH h;intro _ h;refine EF.imp λD σ H aT=>?_;obtain⟨ρ,env,h,hE,hl,r,p⟩:=aT;simp only[dB]at p;exact ao r p σ hE hl
theorem TJ:yG Φ .cnt:=by
 intro Γ k X cl EX st c h;apply OI h;intro _ h;refine xD.imp λD σ H aT=>?_;obtain⟨ρ,env,h,hE,hl,r,p⟩:=aT;simp only[dB]at p;exact ao r p σ hE hl
theorem Pu:yG Φ .pass:=by
 intro Γ k X cl EX st c h
 rcases Ye h with h|h
 ·apply KG h;intro _ h;refine JR.imp λD σ H aT=>?_;obtain⟨ρ,env,h,hE,hl,r,p⟩:=aT;simp only[dB]at p;exact ao r p σ hE hl
 ·apply B5 h;intro q1 _ h;apply yu h;intro q2 _ _ h;apply OE h;intro _ h;refine Nf.imp λD σ H aT=>?_;obtain⟨ρ,env,h,hE,hl,r,p⟩:=aT;simp only[dB]at p;exact ao r p σ hE hl
theorem K9:yG Φ .never:=by
 intro Γ k X cl EX st c h;refine rq.imp λD σ H aT=>?_;obtain⟨ρ,env,h,hE,hl,r,p⟩:=aT;simp only[dB]at p;exact p.elim
theorem DO{α β:Type}(c:Bool)(m:M α)(f:α -> M β):bnd (aQ c m) f=aQ c (bnd m f):=by
 funext h;unfold bnd aQ;cases c<;>rfl
theorem Pw{n:Nat}:yG Φ (.setF n a x v):=by
 intro Γ k X cl EX st c h;apply AN h;intro q1 e pos h;apply qE h;intro q2 h;apply wu h;intro o y ap h;simp only[and_eq_true,beq_iff_eq,List.contains_iff_mem]at h;obtain⟨⟨⟨⟨⟨h1,h2⟩,h3⟩,h4⟩,h5⟩,h6⟩:=h;subst h1;refine(NC (MN a c.toCtx h5) (MN v c.toCtx h6) (lg (t:=some (.Attribute o x ap)) (n:=pos.line) (env:=X.env) h2)).imp λD σ H aT=>?_;obtain⟨ρ,env,h,hE,hl,r,p⟩:=aT;simp only[dB]at p;refine⟨ρ,env,h,hE,r,aF p λw h1 ρ1 x1 H1 g1 r1 q1 p1=>⟨ρ1,env,h1,hE.up g1,r1,aF p1 λw2 h2 ρ2 x2 H2 g2 r2 q2 p2=>?_⟩⟩;cases w2<;>first|exact p2.elim|skip
 rename_i i;rw[VR]at q2;obtain⟨ad,rfl,q2⟩:=q2;unfold BQ at p2;dsimp only at p2;rw[bw]at p2;obtain⟨pr,e1,p3⟩:=aH p2;have hx:h2[i]?=some (.ins pr.1 pr.2)/\pr.1<n:=by
  split at e1
  ·rename_i c0 fs e2
   split at e1
   ·rename_i hc;cases e1;exact⟨e2,hc⟩
   ·cases e1
  ·cases e1
 obtain⟨dx,gs,k1,k2⟩:=r2.ob i _ ad hx.1 q2;obtain⟨cc,nn⟩:=c.cls pr.1 (by omega);have p4:Post (bd X cl) EX ρ2 H2 (WF X.K D) (aQ (decide (pr.2.length<1000)) (bnd (put i (.ins pr.1 (iB x w pr.2))) λ_=>ret (.nx env)) h2):=by rw[<-DO];exact p3
 obtain⟨el,p5⟩:=bu p4;refine⟨ad,cl pr.1,dx,gs,rfl,k1,cc,nn x h4,by rw[<-k2.length];exact aay el,?_⟩;have g:Gr ρ2 H2 ρ2 (upd H2 ad (.ins (cl pr.1) dx (jR x x1 gs))):=Gr.put (aaE q2) k1 rfl (λ_ z=>nomatch z);exact p5 ρ2 _ g (r2.put q2 hx.1 (u:=.ins pr.1 (iB x w pr.2)) ⟨dx,_,aD,nZ.put (VR.up (g2.trans g) _ _ q1) (nZ.up g _ _ k2)⟩) σ (((hE.up g1).up g2).up g) hl
theorem Px:wD Φ .nil:=by
 intro Γ k X cl EX st c h;rw[aP]at h;cases st with
 |cons _ _=>cases h
 |nil=>refine JQ.imp λD σ H aT=>?_;obtain⟨ρ,env,h,hE,hl,r,p⟩:=aT;simp only[fy]at p;exact ao r p σ hE hl
theorem La(h1:yG Φ s)(h2:wD Φ ss):wD Φ (.cons s ss):=by
 intro Γ k X cl EX st c h;rw[aP.eq_def]at h;dsimp only at h;cases st with
 |nil=>cases h
 |cons l ls=>
  simp only[and_eq_true]at h;refine(EE (h1 Γ k X cl EX l c h.1) (h2 Γ k X cl EX ls c h.2)).imp λD σ H aT=>?_;obtain⟨ρ,env,h,hE,hl,r,p⟩:=aT;simp only[fy]at p;refine⟨ρ,env,h,hE,hl,r,bA p λf h1 ρ1 H1 g1 r1 p1=>?_⟩;cases f with
  |nx env'=>exact λσ' W7 hl'=>⟨ρ1,env',h1,W7,hl',r1,p1⟩
  |rt v=>exact(ao r1 p1:WF X.K D (.rt v) h1 ρ1 H1)
  |bk env'=>exact(ao r1 p1:WF X.K D (.bk env') h1 ρ1 H1)
  |ct env'=>exact(ao r1 p1:WF X.K D (.ct env') h1 ρ1 H1)
theorem yH:∀fh,wD Φ fh:=by
 intro fh;exact bQ.rec (motive_1:=λs=>yG Φ s) (motive_2:=λss=>wD Φ ss) (λ_=>Pk) (λ_ _=>MO) (λ_ _ _=>Tt) (λ_ _ _=>Pp) (λ_ _ _ a b=>Tv a b) (λ_ _ _ _ a=>Tw a) (λ_ _ _ a=>Tz a) (λ_=>TF) Pq TH TJ Pu K9 (λ_ _ _ _=>Pw)
  Px (λ_ _ a b=>La a b) fh
end
abbrev Row:=Str×Nat×(List Val->M Val)
def look(fs:List Row)(j:Nat):List Val->M Val:=match fs[j]? with
 |some r=>r.2.2
 |none=>λ_=>bH none
def bG(P:Program)(w:World)(B:Bd)(mg:Str->Option Value)(base:Heap)(k:Nat)(fs:List Row):Prop:=∀(j:Nat) (r:Row),fs[j]?=some r->OO P w B mg base k j r.1 r.2.1 r.2.2
def aK(N P:List Str)(sc:Scope):Bool :=
 sc.kind==.function && !sc.isCoroutine && !sc.isGenerator&&decide N.Nodup&&N.take P.length==P&&(P.all λx=>sc.names.lookup x==some .local||sc.names.lookup x==some .cell)&&(sc.names.all λy=>y.2 != .free)
theorem yI(h:aK N P sc=true):nS N P sc:=by
 unfold aK at h;simp only[and_eq_true,beq_iff_eq,not_eq_true',decide_eq_true_eq,all_eq_true,or_eq_true,bne_iff_ne]at h;obtain⟨⟨⟨⟨⟨⟨h1,h2⟩,h3⟩,h4⟩,h5⟩,h6⟩,h7⟩:=h;exact⟨h1,h2,h3,h4,h5,h6,h7⟩
structure Base (K:Frag) (cl:Nat->Addr) (mg:Str->Option Value) (cons:List (Str×Val)) (tb:Tb):Prop where
 blt:∀x∈bltNames,mg x=none
 cons:∀p∈cons,∃v u,mg p.1=some u/\RelV v u/\∀K ρ H,VR K ρ H p.2 v
 cls:∀c,c<tb.nc->Er K (cl c)/\∀x∈tb.KH,kR K (cl c) x
 DG:∀p∈tb.DG,Meth K (cl p.1) p.2.1 (cl (1000+p.2.2))
 Gh:∀p∈tb.Gh,∃C,mg p.1=some (.ref C)/\SG K C p.2.1 (cl (1000+p.2.2))
 isc:∀p∈tb.isc,∃C,mg p.1=some (.ref C)/\∀c b,p.2[c]?=some b->X6 K (cl c)/\kitOne K (.ref (cl c)) (.ref C)=some b
section
variable {P:Program} {w:World} {K:Frag} {cl:Nat->Addr} {mg:Str->Option Value} {base:Heap} {k:Nat} {fs:List Row} {cons:List (Str×Val)} {tb:Tb}
theorem AU(A:bG P w ⟨K,cl⟩ mg base k fs)(j:Nat)(x:Str)(n:Nat)(e:(fs.map (λr=>(r.1,r.2.1)))[j]?=some (x,n)):OO P w ⟨K,cl⟩ mg base k j x n (look fs j):=by
 rw[aaB]at e;cases er:fs[j]? with
 |none=>rw[er]at e;cases e
 |some r=>rw[er]at e;cases e;have:=A j r er;unfold look;rw[er];exact this
theorem pB{n:Nat}(hv:aI K ρ H ws vs):dg K ρ (ws.map some++replicate n none) (vs.map some++replicate n none) H/\(ws.map some++replicate n (none:Option Val)).length=(vs.map some++replicate n (none:Option V)).length:=by
 have lv:=hv.length;refine⟨λi v e=>?_,by simp[lv]⟩
 by_cases hi:i<ws.length
 ·rw[aas (by simpa using hi),aaB]at e
  cases ei:ws[i]? with
  |none=>rw[ei]at e;cases e
  |some w'=>rw[ei]at e;cases e;obtain⟨y,q1,q2⟩:=hv.get ei;refine⟨y,?_,q2⟩;rw[aas (by rw[aaf,<-lv];exact hi),aaB,q1];rfl
 ·rw[aaD (by simp;omega)]at e;have:=aaE e;rw[List.mem_replicate]at this;exact absurd this.2 (by simp)
theorem Cg{x qual:Str}{st:Stmt}{f:Addr}{fd:FuncData}{N ps:List Str}{body:bQ}(T:Base K cl mg cons tb)(A:bG P w ⟨K,cl⟩ mg base k fs)(F:Es K x qual st f fd)(hS:aK N ps (aa st)=true)
  (hc:aP ⟨N,aa st,fs.map (λr=>(r.1,r.2.1)),cons,tb⟩ body (aq st)=true):fU P w K mg base tZ (k+2) f fd ps (ue ⟨K,cl⟩ ps.length (fz (look fs) N.length body)):=by
 have S:=yI hS;refine F.ok S (λvs H Q E h=>?_) (λcdv A' outer s H vs Q E hr h=>?_)
 ·obtain⟨ρ,h,ws,h1,_,h2,_⟩:=h;rw[<-h2.length,h1]
 ·obtain⟨ρ,h,ws,hl,r,hv,p⟩:=h
  have lv:=hv.length
  let X:Cx:=(nT tZ P w K mg base N qual (aa st) f cdv A' outer s H E).EC
  have c:Gz (look fs) ⟨N,aa st,fs.map (λr=>(r.1,r.2.1)),cons,tb⟩ k X cl (λ_ _ _=>False):={ N:=rfl,sc:=rfl,calm:=rfl,room:=hr,kQ:=λ_ _ _ z=>z,fns:=AU A,cls:=T.cls,DG:=T.DG,Gh:=T.Gh,isc:=T.isc,cons:=T.cons,blt:=T.blt,fn:=λ_ _=>.inl rfl,nd:=S.nd,kind:=S.kind,xe:=PassesOwn.never };refine⟨_,yH body _ k X cl _ (aq st) c hc,ρ,ws.map some++replicate (N.length-ws.length) none,h,?_,?_,r,bA p λfl h1 ρ1 H1 g1 r1 p1=>?_⟩
  ·rw[lv];exact(pB hv).1
  ·rw[lv];exact(pB hv).2
  ·cases fl with
   |nx env'=>exact λσ' _ _=>ao r1 p1 _ VR.non
   |rt v=>exact(ao r1 p1:WV K Q v h1 ρ1 H1)
   |bk env'=>exact p1.elim
   |ct env'=>exact p1.elim
theorem _root_.Hv.OO.mono{j:Nat}{n:Nat}(g:OO P w B mg base k j x n φ):OO P w B mg base (k+2) j x n φ:=by
 have le:k<=k+2:=Nat.le_add_right _ _
 rcases g with ⟨h,⟨f,fd,ps,q1,q2,q3,q4,q5⟩|⟨c,f,fd,ps,φ0,q0,q1,q2,q3,q4,q5⟩⟩|⟨h,fd,ps,q1,q4,q5⟩|⟨h,z⟩
 ·exact .inl ⟨h,.inl ⟨f,fd,ps,q1,q2,q3,q4,q5.mono le⟩⟩
 ·exact .inl ⟨h,.inr ⟨c,f,fd,ps,φ0,q0,q1,q2,q3,q4,q5.mono le⟩⟩
 ·exact .inr (.inl ⟨h,fd,ps,q1,q4,q5.mono le⟩)
 ·exact .inr (.inr ⟨h,λA outer s H us vs Q f ρ h v ws hR=>z A outer s H us vs Q f ρ h v ws (hR.mono le)⟩)
theorem all_nil:bG P w ⟨K,cl⟩ mg base k []:=λj r e=>by simp at e
theorem n8{r0:Row}(A:bG P w ⟨K,cl⟩ mg base k fs)(g:OO P w ⟨K,cl⟩ mg base (k+2) fs.length r0.1 r0.2.1 r0.2.2):bG P w ⟨K,cl⟩ mg base (k+2) (fs++[r0]):=λj r e=>by
 by_cases hj:j<fs.length
 ·rw[aas hj]at e;exact(A j r e).mono
 ·rw[aaD (by omega)]at e
  have hj0:j-fs.length=0:=by have:=(aag.mp e).1;simp at this;omega
  rw[hj0]at e;simp at e;subst e;rw[show j=fs.length by omega];exact g
theorem GB{x qual:Str}{st:Stmt}{f:Addr}{fd:FuncData}{N ps:List Str}{body:bQ}(T:Base K cl mg cons tb)(A:bG P w ⟨K,cl⟩ mg base k fs)(F:Es K x qual st f fd)(hm:mg x=some (.ref f))(hb:Binds K fd ps [])(mT:ps.length<1000)(hS:aK N ps (aa st)=true)
  (hc:aP ⟨N,aa st,fs.map (λr=>(r.1,r.2.1)),cons,tb⟩ body (aq st)=true):bG P w ⟨K,cl⟩ mg base (k+2) (fs++[(x,ps.length,fz (look fs) N.length body)]) :=
 n8 (r0:=(x,ps.length,fz (look fs) N.length body)) A (.inl ⟨mT,.inl ⟨f,fd,ps,rfl,hm,F.kp,hb,Cg T A F hS hc⟩⟩)
theorem GC{x qual y:Str}{st:Stmt}{f:Addr}{fd:FuncData}{N ps:List Str}{body:bQ}(T:Base K cl mg cons tb)(A:bG P w ⟨K,cl⟩ mg base k fs)(F:Es K x qual st f fd)(hf:cl (1000+fs.length)=f)(mT:ps.length<1000)(hb:Binds K fd ps [])(hS:aK N ps (aa st)=true)
  (hc:aP ⟨N,aa st,fs.map (λr=>(r.1,r.2.1)),cons,tb⟩ body (aq st)=true):bG P w ⟨K,cl⟩ mg base (k+2) (fs++[(y,1000+ps.length,fz (look fs) N.length body)]):=by
 refine n8 (r0:=(y,1000+ps.length,fz (look fs) N.length body)) A (.inr (.inl ⟨⟨Nat.le_add_right _ _,(by omega:1000+ps.length<3000)⟩,fd,ps,?_,hb,?_⟩))
 ·show ps.length=1000+ps.length-1000;omega
 ·show fU P w K mg base tZ (k+2) (cl (1000+fs.length)) fd ps (ue ⟨K,cl⟩ (1000+ps.length-1000) _);rw[hf,show 1000+ps.length-1000=ps.length by omega];exact Cg T A F hS hc
theorem all_class{x i qual:Str}{st:Stmt}{f:Addr}{fd:FuncData}{N ps:List Str}{n c:Nat}{body:bQ}(T:Base K cl mg cons tb)(A:bG P w ⟨K,cl⟩ mg base k fs)(F:Es K i qual st f fd)(hm:mg x=some (.ref (cl c)))(M:Mk K (cl c) f)(hb:Binds K fd ps [])(hn:ps.length=n+1)(mT:n<1000)(hS:aK N ps (aa st)=true)
  (hc:aP ⟨N,aa st,fs.map (λr=>(r.1,r.2.1)),cons,tb⟩ body (aq st)=true):bG P w ⟨K,cl⟩ mg base (k+2) (fs++[(x,n,MC c (fz (look fs) N.length body))]):=by
 refine n8 (r0:=(x,n,MC c (fz (look fs) N.length body))) A (.inl ⟨mT,.inr ⟨c,f,fd,ps,_,rfl,hn,hm,M,hb,?_⟩⟩);rw[<-hn];exact Cg T A F hS hc
end
def iX(K:Frag)(x qual:Str)(st:Stmt)(f:Addr):Prop:=∃fd,Es K x qual st f fd
theorem iX.kp{K:Frag}{x qual:Str}{st:Stmt}{f:Addr}(F:iX K x qual st f):keepIn K (.ref f)=true:=F.elim λ_ F=>F.kp
section
variable {α:Type} {p:List α -> Prop}
theorem wG:∀{us:List α},us.length=1->(∀a,p [a])->p us
 |[a],_,h=>h a
theorem ln2:∀{us:List α},us.length=2->(∀a b,p [a,b])->p us
 |[a,b],_,h=>h a b
theorem TL:∀{us:List α},us.length=3->(∀a b c,p [a,b,c])->p us
 |[a,b,c],_,h=>h a b c
theorem Yo:∀{us:List α},us.length=4->(∀a b c d,p [a,b,c,d])->p us
 |[a,b,c,d],_,h=>h a b c d
end
def W9(x qual:Str)(st:Stmt)(ps:List Str):Prop:=∀(kV doc pm:Value) (an:Option Addr) (cdv ct:Value) (us:List Value),us.length=ps.length->bindArgs (fnOf x qual (eG st) (aq st) (aa st) .none kV doc pm an cdv ct) ⟨us,[]⟩=pure (ps.zip us)
section
variable {P:Program} {w:World} {K:Frag} {cl:Nat->Addr} {mg:Str->Option Value} {base:Heap} {k:Nat} {fs:List Row} {cons:List (Str×Val)} {tb:Tb} {x i y qual:Str} {st:Stmt} {f:Addr} {N ps:List Str} {body:bQ} (T:Base K cl mg cons tb) (A:bG P w ⟨K,cl⟩ mg base k fs)
include T A
theorem bW(F:iX K x qual st f)(hm:mg x=some (.ref f))(hS:aK N ps (aa st)=true)
  (hc:aP ⟨N,aa st,fs.map (λr=>(r.1,r.2.1)),cons,tb⟩ body (aq st)=true) (mT:ps.length<1000) (hb:W9 x qual st ps):bG P w ⟨K,cl⟩ mg base (k+2) (fs++[(x,ps.length,fz (look fs) N.length body)]):=F.elim λ_ F=>GB T A F hm (F.binds hb) mT hS hc
theorem yJ(F:iX K x qual st f)(hf:cl (1000+fs.length)=f)(hS:aK N ps (aa st)=true)
  (hc:aP ⟨N,aa st,fs.map (λr=>(r.1,r.2.1)),cons,tb⟩ body (aq st)=true) (mT:ps.length<1000) (hb:W9 x qual st ps):bG P w ⟨K,cl⟩ mg base (k+2) (fs++[(y,1000+ps.length,fz (look fs) N.length body)]):=F.elim λ_ F=>GC T A F hf mT (F.binds hb) hS hc
theorem Py{n c:Nat}(F:iX K i qual st f)(hm:mg x=some (.ref (cl c)))(M:Mk K (cl c) f)(hS:aK N ps (aa st)=true)
  (hc:aP ⟨N,aa st,fs.map (λr=>(r.1,r.2.1)),cons,tb⟩ body (aq st)=true) (hn:ps.length=n+1) (mT:n<1000) (hb:W9 i qual st ps):bG P w ⟨K,cl⟩ mg base (k+2) (fs++[(x,n,MC c (fz (look fs) N.length body))]):=F.elim λ_ F=>all_class T A F hm M (F.binds hb) hn mT hS hc
end
theorem Pz{K:Frag}{cl:Nat->Addr}{φ:List Val->M Val}{H:Hp}{a:Addr}{ns:List Int}(hO:yd (cl 5000) H)(hS:gR K H a (ns.map V.int))(h:∃h',φ [.rl (ns.map .int)] []=.ok (.bl true) h') :
  ue ⟨K,cl⟩ 1 φ [.ref a] H (λv _=>v=.bl true) λ_ _ _=>False:=by
 obtain⟨h',e⟩:=h;have sr:N8 K H a (ns.map V.int):=by
  rcases hS with (z|z)|z
  ·by_cases ha:a=cl 5000
   ·rw[ha,hO.1]at z;cases z
   ·rcases hO.2 a ha with y|⟨o,xs,y⟩
    ·rw[y]at z;cases z
    ·rw[y]at z;cases z
  ·exact .inl z
  ·exact .inr (.inr z)
 refine⟨[],[],[.rl (ns.map .int)],rfl,⟨rfl,nodup_nil,λi o a e=>by simp at e,⟨#[],hO.1,trivial,.inl rfl⟩⟩,aI.cons (by rw[VR];exact⟨a,_,rfl,sr,aI.ints.mpr rfl⟩) aI.nil,?_⟩;rw[e];intro ρ' H' g r x q;rw[VR]at q;exact q
def VA(K:Frag)(p:Addr):Sp:=λvs H Q _=>∃(a:Addr) (ns:List Int),vs=[.ref a]/\yd p H/\gR K H a (ns.map V.int)/\ns.length<=63/\∀H',Q (.bl true) H'
theorem PB{K:Frag}{cl:Nat->Addr}{φ:List Val->M Val}(hφ:∀ns:List Int,ns.length<=63->∃h',φ [.rl (ns.map .int)] []=.ok (.bl true) h')(vs:List V)(H:Hp)(Q:VK)(E:XK)(h:VA K (cl 5000) vs H Q E):ue ⟨K,cl⟩ 1 φ vs H Q E:=by
 obtain⟨a,ns,rfl,hO,hS,hl,hq⟩:=h;obtain⟨ρ,h,vs,q1,q2,q3,q4⟩:=Pz (cl:=cl) hO hS (hφ ns hl);refine⟨ρ,h,vs,q1,q2,q3,?_⟩;revert q4;cases φ vs h with
 |ok v h'=>exact λq4 ρ' H' g r x hx=>by rw[show x=_ from q4 ρ' H' g r x hx];exact hq H'
 |exc c ws h'=>exact λq4=>q4
 |no=>exact λq4=>q4
theorem walk{l:PySem.W.OpenLaw}{q:Program}{loose:List Str}{XP:(Str->Option Value)->Heap->Prop}{YP:World->Heap->Prop}{d:DefRec}{K:Params->Frag}{k:Nat}{x:Str}{c p:Addr}(hn:l.most=some 63)(hdf:d.params.defaults=[])(hr:dD k callerA)
  (hY:∀(w:World) (h:Heap),YP w h->(K w.params).In h/\h.get? p=some (tabObj #[])) (hc:∀w:World,codeHdIn (K w.params) c p=true/\(K w.params).lookup p=none)
  (F:∀(w:World) (mg:Str->Option Value) (fa:Addr) (h:Heap),(K w.params).In h->h.Ns mainGlobals mg->mg d.name=some (.ref fa) ->
   ∃fd:FuncData,(∀(s:Shared) (u:Value),BindsTo s fd ⟨[u],[]⟩ [(x,u)])/\∀base:Heap,(K w.params).In base->base.Ns mainGlobals mg->ye mg p base->fU l.prog w (K w.params) mg base tZ k fa fd [x] (VA (K w.params) p)) :
  PySem.W.WalkO q loose XP YP l.row.toRowW d [] (λf vs=>PySem.call f vs) :=
 L2.N7 (n:=63) (k:=k) (x:=x) (CX:=λ_=>tZ) (sp:=λw=>VA (K w.params) p) hn (by decide) hdf hr hY hc F (λ_ _ a ns hl hO hS=>⟨a,ns,rfl,hO,hS,hl,λ_=>rfl⟩) λ_ _ _ _ _ z=>z
theorem _root_.L2.PS.EC{X:Cx}{st:Stmt}{t:TS}(h:PS X.EC st t):PS X st t:=λpins s σ H D I hw=>
 wpAny_mono (h pins s σ H D (I.wish _) hw) (λ_ _ q=>q.jO) λ_ _ z=>False.elim z
section
variable {B:Bd} {ρ:List Addr} {H H1 H2:Hp} {h:Hs} {Q:VK} {EX:Nat->List V->Hp->Prop}
theorem Gr.tbl(e:H p=some (.tbl ps)):Gr ρ H ρ (upd H p (.tbl ps')) where
 pre:=aaC _
 keep a o q t _:=by rw[ak λz=>by rw[z,e]at q;cases q;exact t _ rfl];exact q
 tbls a us q:=by
  by_cases z:a=p
  ·rw[z];exact⟨_,aD⟩
  ·exact⟨us,by rw[ak z];exact q⟩
 firm a o q m:=by rw[ak λz=>by rw[z,e]at q;cases q;cases m];exact q
 fresh _ z n:=absurd z n
theorem yK{f c1 cc a:Addr}{i:Nat}(r:HR B ρ h H2)(g:Gr ρ H1 ρ H2)(hv:VR B.K ρ H1 (.ref i) (.ref a))(h1:H2 f=some (Et f (SK (stK B.K) cc c1 doc pm ct)))(h2:H2 c1=some (FE c1 mR))(hc:H2 cc=none)(hd:oc.data=.cell (some (.ref a)))
  (p:Post B EX ρ H1 (WV B.K Q) (ret (.clo (.ref i)) h)):Q (.ref f) (upd H2 cc (My oc)):=by
 have g':Gr ρ H2 ρ (upd H2 cc (My oc)):=Gr.side hc;refine p ρ _ (g.trans g') (r.side hc) (.ref f) ?_;rw[VR];exact⟨f,cc,c1,a,doc,pm,ct,oc,rfl,g'.firm _ _ h1 rfl,g'.firm _ _ h2 rfl,aD,hd,VR.up (g.trans g') _ _ hv⟩
end
def GD(Φ:Fn)(e:IE)(vs:List Val):M Val:=bnd (aS Φ e (vs.map some++[none,none])) λv=>match v with
 |.ref i=>ret (.clo (.ref i))
 |_=>bH none
def TM(o:Obj):Value:=match o.data with
 |.func fd=>fd.code
 |_=>.none
structure PC (K:Frag) (st:Stmt) (f c p:Addr) (e:Expr) (tp ap:Pos) (st2:Stmt) (py pr:Pos):Prop where
 body:aq st=[.Assign [.Name "wishes" tp] e ap,st2,.Return (some (.Name "hand" py)) pr]
 two:st2=.FunctionDef "hand" (eG st2) (aq st2) [] none [] (aa st2) none "hand" qD
 scope:aK ["numbers","wishes","hand"] ["numbers"] (aa st)=true
 kept:(aa st).names.lookup ("wishes":Str)=some .cell
 mine:(aa st).names.lookup ("hand":Str)=some .local
 code:(K.lookup f).map TM=some (.ref c)
 hd:codeHdIn K c p=true
 here:nsIn K mainGlobals "wish_hand" = some (some (.ref f))
 qual:∀L cd,qualnameIn (envOfC "wish_hand" (aa st) L f cd) "hand" "hand" = mR
 clos:∀L cd,closureFor (aa st2) (envOfC "wish_hand" (aa st) L f cd)=pure [(("wishes":Str),L+1)]
 cell:∀L cd,(envOfC "wish_hand" (aa st) L f cd).cells.lookup ("wishes":Str)=some (L+1)
 Yp:(eG st2).defaults=[]/\(eG st2).kw_defaults=[]
 ann:∀L cd,annTrees (eG st2) none (envOfC "wish_hand" (aa st) L f cd)=[]
 ne:mainGlobals≠p
section
variable {P:Program} {w:World} {K:Frag} {cl:Nat->Addr} {mg:Str->Option Value} {base:Heap} {k:Nat} {fs:List Row} {cons:List (Str×Val)} {tb:Tb}
theorem GF{st:Stmt}{f:Addr}{fd:FuncData}(F:Es K "wish_hand" "wish_hand" st f fd)(here:nsIn K mainGlobals "wish_hand" = some (some (.ref f))):stK K=(aq st).getD 1 (.Pass ⟨0,0,0,0⟩):=by
 obtain⟨oc,od,kV,doc,pm,an,cdv,ct,osl,rfl,lk,hcd⟩:=F.ex;unfold stK;rw[here];show ((K.lookup f).map Yc).getD _=_;rw[lk];rfl
theorem Lb{st st2:Stmt}(T:Base K cl mg cons tb)(A:bG P w ⟨K,cl⟩ mg base k fs)(F:Es K "wish_hand" "wish_hand" st f fd)(W:PC K st f c (cl 5000) e tp ap st2 py pr)(hb:ye mg (cl 5000) base)
  (hc:K8 ⟨["numbers","wishes","hand"],aa st,fs.map (λr=>(r.1,r.2.1)),cons,tb⟩ (.asg (.one 1) ir) (.Assign [.Name "wishes" tp] e ap)=true):fU P w K mg base tZ (k+2) f fd ["numbers"] (ue ⟨K,cl⟩ 1 (GD (look fs) ir)):=by
 have S:=yI W.scope;obtain⟨oc,od,kV,doc,pm,an,cdv,ct,osl,rfl,lk,hcd⟩:=F.ex;have ecd:cdv=.ref c:=by have:=W.code;rw[lk]at this;exact aaG this
 have eK:stK K=st2:=by rw[GF F W.here,W.body];rfl
 rw[W.body]at lk |-;subst ecd;refine Kq (i:=1) (j:=2) (x:="wishes") (y:="hand") lk hcd S (λvs H Q E h=>?_) rfl W.kept rfl W.mine (by decide) (by decide) λA' outer s H vs Q E hr h=>?_
 ·obtain⟨ρ,h,ws,h1,_,h2,_⟩:=h;rw[<-h2.length,h1];rfl
 ·obtain⟨ρ,h,ws,hl,r,hv,p⟩:=h
  have lv:=hv.length
  let X:Cx:=(nT tZ P w K mg base ["numbers","wishes","hand"] "wish_hand" (aa st) f (.ref c) A' outer s H E).EC
  have cx:Gz (look fs) ⟨["numbers","wishes","hand"],aa st,fs.map (λr=>(r.1,r.2.1)),cons,tb⟩ k X cl (λ_ _ _=>False):={ N:=rfl,sc:=rfl,calm:=rfl,room:=hr,kQ:=λ_ _ _ z=>z,fns:=AU A,cls:=T.cls,DG:=T.DG,Gh:=T.Gh,isc:=T.isc,cons:=T.cons,blt:=T.blt,fn:=λ_ _=>.inl rfl,nd:=S.nd,kind:=S.kind,xe:=PassesOwn.never };have d:=N5 (X:=nT tZ P w K mg base ["numbers","wishes","hand"] "wish_hand" (aa st) f (.ref c) A' outer s H E) (i:=2) (p:=cl 5000) (name:="hand") (args:=eG st2) (body:=aq st2) (scope:=aa st2) (pos:=qD) S.nd rfl (.inl W.mine) rfl rfl W.hd (W.qual _ _) (W.clos _ _) W.Yp.1 W.Yp.2 (W.ann _ _) W.ne hb;rw[<-W.two]at d;refine⟨_,_,(MO _ k X cl _ _ cx hc).EC,d,?_⟩
  ·have hvl:vs.length=1:=by rw[<-lv,hl]
   have est:L2.start ["numbers","wishes","hand"] vs=vs.map some++replicate 2 none:=by unfold L2.start;rw[hvl];rfl
   rw[est];refine⟨ρ,ws.map some++replicate 2 none,h,(pB hv).1,(pB hv).2,r,?_⟩;have p:Post ⟨K,cl⟩ (λ_ _ _=>False) ρ H (WV K Q) (bnd (aS (look fs) ir (ws.map some++replicate 2 none)) (λv=>match v with|.ref i=>ret (.clo (.ref i))|_=>bH none) h):=p;simp only[dB];unfold bnd at p |-;cases e1:aS (look fs) ir (ws.map some++replicate 2 none) h with
   |no=>rw[e1]at p;exact p
   |exc c vs h1=>rw[e1]at p;exact p
   |ok v h1=>
    rw[e1]at p;cases v with
    |ref i=>
     have hle:1<(ws.map some++replicate 2 (none:Option Val)).length:=by simp
     intro ρ1 H1 g1 r1 σ1 hE1 hl1;have p1:=Post.up g1 p;obtain⟨y,k1,k2⟩:=hE1 1 (.ref i) (by rw[aar hle]);have ML:=k2;rw[VR] at ML;obtain⟨a,rfl,_⟩:=ML;have hl2:2 < σ1.length:=by rw[<-hl1];simp[hl]
     have fin:∀(f':Addr),(σ1.set 2 (some (V.ref f')))[1]?=some (some (.ref a))/\(σ1.set 2 (some (V.ref f')))[2]?=some (some (.ref f')):=λf'=>⟨by rw[aah (by decide)];exact k1,by rw[aar hl2]⟩;obtain⟨ps,t1,t2,t3⟩:=r1.tab;refine⟨ps,t1,t2,?_⟩
     rcases t3 with t3|⟨c',t3,t4⟩
     ·refine .inl ⟨t3,λf' c' ct' doc' hc' hf' hcf=>⟨a,.ref f',(fin f').1,(fin f').2,λcc oc hcc hn hd=>?_⟩⟩
      have Xa:=(W.cell s.heap.objs.size (.ref c)).symm.trans hcc;cases Xa;have q1:upd H1 (cl 5000) (.tbl (ps ++ [rawInt qD.line,rawInt qD.col,.ref c'].toArray)) c'=none:=by rw[ak (aC t1 hc').symm];exact hc'
      have G:Gr ρ1 H1 ρ1 (upd (upd H1 (cl 5000) (.tbl (ps ++ [rawInt qD.line,rawInt qD.col,.ref c'].toArray))) c' (FE c' mR)):=(Gr.tbl t1).trans (Gr.side q1);have q2:upd (upd H1 (cl 5000) (.tbl (ps ++ [rawInt qD.line,rawInt qD.col,.ref c'].toArray))) c' (FE c' mR) f'=none:=by rw[ak hcf.symm,ak (aC t1 hf').symm];exact hf'
      have R:HR ⟨K,cl⟩ ρ1 h1 (upd (upd H1 (cl 5000) (.tbl (ps ++ [rawInt qD.line,rawInt qD.col,.ref c'].toArray))) c' (FE c' mR)):=by
       refine⟨r1.len,r1.nd,λi o b z1 z2=>OR.up G ?_ (r1.ob i o b z1 z2),⟨_,by rw[ak (aC t1 hc'),aD],?_,.inr ⟨c',?_,aD⟩⟩⟩
       ·obtain⟨u,m1,m2,m3⟩:=(r1.ob i o b z1 z2).mu;rw[ak (aC m1 hc'),ak λz=>by rw[z,t1]at m1;cases m1;exact m3 _ rfl]
       ·rw[Array.toList_append];exact TriplesOk_snoc _ _ _ _ t2
       ·rw[Array.toList_append];exact codeAmong_snoc _ t2 t3
      exact yK (B:=⟨K,cl⟩) (R.side q2) (G.trans (Gr.side q2)) k2 (by rw[aD,eK];rfl) (by rw[ak hcf,aD]) hn hd p1
     ·refine .inr ⟨_,t3,λf' ct' doc' hf'=>⟨a,.ref f',(fin f').1,(fin f').2,λcc oc hcc hn hd=>?_⟩⟩;have Xa:=(W.cell s.heap.objs.size (.ref c)).symm.trans hcc;cases Xa;exact yK (B:=⟨K,cl⟩) (r1.side hf') (Gr.side hf') k2 (by rw[aD,eK];rfl) (by rw[ak (aC t4 hf')];exact t4) hn hd p1
    |_=>exact False.elim p
def PD(Φ:Fn)(n:Nat)(body:bQ):List Val->M Val
 |.clo v::ws=>fz Φ n body (ws++[v])
 |_=>bH none
def Lc(N ps:List Str)(x:Str)(sc:Scope):Bool :=
 sc.kind==.function && !sc.isCoroutine && !sc.isGenerator&&decide N.Nodup&&N.take (ps.length+1)==ps++[x]&&(ps.all λy=>sc.names.lookup y==some .local)&&sc.names.lookup x==some .free&&(sc.names.all λy=>y.2 != .cell&&(y.2 != .free||y.1==x))
theorem PF(h:Lc N ps x sc=true):rW N ps x sc:=by
 unfold Lc at h;simp only[and_eq_true,beq_iff_eq,not_eq_true',decide_eq_true_eq,all_eq_true,or_eq_true,bne_iff_ne]at h;obtain⟨⟨⟨⟨⟨⟨⟨h1,h2⟩,h3⟩,h4⟩,h5⟩,h6⟩,h7⟩,h8⟩:=h;refine⟨h1,h2,h3,h4,h5,h6,h7,λy e=>?_,λy e=>(h8 y e).1⟩;exact(h8 _ (aaT e)).2.resolve_left λz=>z rfl
def BdC(st:Stmt)(ps:List Str):Prop:=∀(cc c1:Addr) (doc pm ct:Value) (us:List Value),us.length=ps.length->bindArgs (PySem.W.fnX "hand" mR (eG st) (aq st) (aa st) [("wishes",cc)] .none .none doc pm none (.ref c1) ct) ⟨us,[]⟩=pure (ps.zip us)
theorem Ld{st:Stmt}{N ps:List Str}{body:bQ}(T:Base K cl mg cons tb)(A:bG P w ⟨K,cl⟩ mg base k fs)(hK:stK K=st)(hS:Lc N ps "wishes" (aa st)=true)
  (hc:aP ⟨N,aa st,fs.map (λr=>(r.1,r.2.1)),cons,tb⟩ body (aq st)=true) (hb:BdC st ps):ON P w ⟨K,cl⟩ mg base (k+2) ps.length (PD (look fs) N.length body):=by
 intro A' outer s H us vs Q f ρ h v ws hr e0 rv hl r q hv p;have S:=PF hS;rw[VR]at q;obtain⟨f',cc,c1,a,doc,pm,ct,oc,ef,q1,q2,q3,qd,q4⟩:=q;cases ef;rw[show (⟨K,cl⟩:Bd).K=K from rfl,hK]at q1;have hv':aI K ρ H (ws++[v]) (vs++[.ref a]):=aI.append hv (aI.cons q4 aI.nil);have lv:=hv'.length
 let X:Cx:=(yc tZ P w K mg base N mR (aa st) f (.ref c1) "wishes" cc A' outer s H E0).EC
 have cx:Gz (look fs) ⟨N,aa st,fs.map (λr=>(r.1,r.2.1)),cons,tb⟩ k X cl (λ_ _ _=>False):={ N:=rfl,sc:=rfl,calm:=rfl,room:=hr.deeper _,kQ:=λ_ _ _ z=>z,fns:=AU A,cls:=T.cls,DG:=T.DG,Gh:=T.Gh,isc:=T.isc,cons:=T.cons,blt:=T.blt,fn:=λy hy=>.inr (hy.resolve_right λz=>S.WM _ (aaT z) rfl),nd:=S.nd,kind:=S.kind,xe:=PassesOwn.never };refine FH (a:=a) S hr e0 q1 q2 q3 qd (.of_eq (hb cc c1 doc pm ct us (by rw[<-rv.length,hl]))) rv hl ⟨_,(yH body _ k X cl _ (aq st) cx hc).EC,ρ,(ws++[v]).map some++replicate (N.length-(ws++[v]).length) none,h,?_,?_,r,bA p λfl h1 ρ1 H1 g1 r1 p1=>?_⟩
 ·rw[lv];exact(pB hv').1
 ·rw[lv];exact(pB hv').2
 ·cases fl with
  |nx env'=>exact λσ' _ _=>ao r1 p1 _ VR.non
  |rt v=>exact(ao r1 p1:WV K Q v h1 ρ1 H1)
  |bk env'=>exact p1.elim
  |ct env'=>exact p1.elim
end
end Hv
end
section
namespace Hv
open PySem L2
inductive Pr (α:Type)
 |ok (a:α)|exc (c:Nat) (ds:List Val)|no
def pb{α β:Type}(m:Pr α)(f:α -> Pr β):Pr β:=match m with
 |.ok a=>f a
 |.exc c ds=>.exc c ds
 |.no=>.no
def pl{α:Type}(o:Option α):Pr α:=match o with
 |some a=>.ok a
 |none=>.no
def pg{α:Type}(c:Bool)(m:Pr α):Pr α:=if c=true then m else .no
inductive Mk
 |sh|nw|ow
def iD:Mk->Bool
 |.ow=>false
 |_=>true
def Rz:Mk->Bool
 |.nw=>true
 |_=>false
abbrev aX:=List (Option (Mk×Val))
abbrev FV:=Bool×Val
mutual
noncomputable def ko:Val->Bool
 |.rl _=>false
 |.dc _ _=>false
 |.ob _ _ _=>false
 |.clo _=>false
 |.ref _=>false
 |.tup vs=>bM vs
 |.non=>true
 |.bl _=>true
 |.int _=>true
 |.str _=>true
noncomputable def bM:List Val->Bool
 |[]=>true
 |v::vs=>ko v&&bM vs
end
def bI(f:Bool)(d:Val):Mk:=if (f && !ko d)=true then .nw else .sh
def putD(ks:List Key)(ds:List Val)(k:Key)(d:Val):Val:=.dc ((mH (ks.zip ds) k d).map (·.1)) ((mH (ks.zip ds) k d).map (·.2))
def ni:Mz->Val->Val->Pr FV
 |.add,.int a,.int b=>.ok (true,.int (a+b))
 |.add,.rl a,.rl b=>pg (decide (a.length+b.length<=sizeLine)) (.ok (bM (a++b),.rl (a++b)))
 |.sub,.int a,.int b=>.ok (true,.int (a-b))
 |.mul,.int a,.int b=>pg (kX a b) (.ok (true,.int (a*b)))
 |.fdiv,.int a,.int b=>pg (dP b) (.ok (true,.int (a/b)))
 |.mod,.int a,.int b=>pg (decide (0<b)) (.ok (true,.int (a%b)))
 |.pow,.int a,.int b=>pg (decide (0<=b/\b<=1000000/\a.natAbs<2 ^ 64)) (.ok (true,.int (a ^ b.toNat)))
 |_,_,_=>.no
def DP(v:Val)(lo hi:Option Int):Pr FV:=match v with
 |.tup vs=>pg (!(decide (HT.eV vs.length 0 lo=0)&&decide (HT.eV vs.length vs.length hi=vs.length))) (.ok (bM (bX vs lo hi),.tup (bX vs lo hi)))
 |.rl vs=>.ok (bM (bX vs lo hi),.rl (bX vs lo hi))
 |_=>.no
def gM:Bl->List Val->Pr FV
 |.len,[v]=>pb (pl (o6 [] v)) λn=>.ok (true,.int n)
 |.min,[.int a,.int b]=>.ok (true,.int (if b<a then b else a))
 |.max,[.int a,.int b]=>.ok (true,.int (if b>a then b else a))
 |.min,[v]=>pb (pl (cN [] v)) λxs=>pb (pl ((bB xs).bind uc)) λm=>.ok (true,m)
 |.max,[v]=>pb (pl (cN [] v)) λxs=>pb (pl ((bB xs).bind wm)) λm=>.ok (true,m)
 |.sorted,[.rl xs]=>pb (pl (iz xs)) λys=>.ok (true,.rl ys)
 |.list,[v]=>pb (pl (cN [] v)) λxs=>.ok (bM xs,.rl xs)
 |.int,[.bl b]=>.ok (true,.int (if b=true then 1 else 0))
 |.int,[.int i]=>.ok (true,.int i)
 |.all,[.rl xs]=>pb (pl (fu xs)) λbs=>.ok (true,.bl (bs.all id))
 |.isin T,[v]=>pb (pl (yh [] v)) λt=>pb (pl (yi T t)) λb=>.ok (true,.bl b)
 |_,_=>.no
def kG:Ik->List Val->Option (List Val)
 |.seq,[.tup vs]=>some vs
 |.seq,[.rl vs]=>some vs
 |.range,[.int n]=>if inR n then some (cz 0 n.toNat) else none
 |.range,[.int a,.int b]=>if inR a&&inR b then some (cz a (b-a).toNat) else none
 |.enum,[.rl vs]=>some (rY 0 vs)
 |_,_=>none
def DQ(k:Ik)(ds:List Val):Option (List Val):=match k with
 | .zip=>(match ds with
  |[.rl a,.rl b]=>some (dS a b)
  |_=>none)
 |k=>kG k ds
def cP:List Nat->List Val->aX->Option aX
 |[],[],env=>some env
 |i::is,d::ds,env=>cP is ds (env.set i (some (.sh,d)))
 |_,_,_=>none
def bO:AH->Val->aX->Option aX
 |.one i,d,env=>some (env.set i (some (.sh,d)))
 |.tup is,.tup ds,env=>cP is ds env
 |_,_,_=>none
def fW(js:List (Option Nat))(env:aX):aX:=js.map λo=>match o with
 |none=>none
 | some j=>match env[j]? with
  |some (some d)=>some d
  |_=>none
def jt(f:Val->Pr (Option FV)):List Val->Pr (Bool×List Val)
 |[]=>.ok (true,[])
 |x::r=>pb (f x) λo=>pb (jt f r) λp=>.ok (match o with|some e=>(e.1&&p.1,e.2::p.2)|none=>p)
def sI:Val->Pr Bool
 |.bl b=>.ok b
 |_=>.no
def ju(env:aX):IE->Option FV
 | .var i=>match env[i]? with
  |some (some (_,d))=>some (ko d,d)
  |_=>none
 |_=>none
def isVar:IE->Bool
 |.var _=>true
 |_=>false
mutual
noncomputable def bq(Ψ:Nat->List Val->Pr FV):IE->aX->Pr FV
 | .var i,env=>match env[i]? with
  |some (some (m,d))=>pg (iD m) (.ok (ko d,d))
  |_=>.no
 |.cst d,_=>.ok (ko d,d)
 |.con _ d,_=>.ok (ko d,d)
 |.no,_=>.no
 |.bin o a b,env=>pb (if isVar a=true then pl (ju env a) else bq Ψ a env) λx=>pb (if isVar b=true then pl (ju env b) else bq Ψ b env) λy=>ni o x.2 y.2
 | .neg a,env=>pb (bq Ψ a env) λx=>match x.2 with
  |.int i=>.ok (true,.int (-i))
  |_=>.no
 |.cmp o a b,env=>pb (if isVar a=true then pl (ju env a) else bq Ψ a env) λx=>pb (if isVar b=true then pl (ju env b) else bq Ψ b env) λy=>pb (pl (cop [] o x.2 y.2)) λt=>.ok (true,.bl t)
 |.chn _ _ _ _ _,_=>.no
 |.and a b,env=>pb (bq Ψ a env) λx=>pb (sI x.2) λt=>if t=true then pb (bq Ψ b env) λy=>pb (sI y.2) λu=>.ok (true,.bl u) else .ok (true,.bl false)
 |.or a b,env=>pb (bq Ψ a env) λx=>pb (sI x.2) λt=>if t=true then .ok (true,.bl true) else pb (bq Ψ b env) λy=>pb (sI y.2) λu=>.ok (true,.bl u)
 |.not a,env=>pb (bq Ψ a env) λx=>pb (sI x.2) λt=>.ok (true,.bl (!t))
 |.ite c a b,env=>pb (if isVar c=true then pl (ju env c) else bq Ψ c env) λx=>pb (pl (ck [] x.2)) λt=>if t=true then bq Ψ a env else bq Ψ b env
 |.tup es,env=>pb (lq Ψ es env) λp=>pg (decide (p.2.length<=sizeLine)) (.ok (p.1,.tup p.2))
 |.lst es,env=>pb (lq Ψ es env) λp=>pg (decide (p.2.length<=sizeLine)) (.ok (p.1,.rl p.2))
 |.idx a b,env=>pb (if isVar a=true then pl (ju env a) else bq Ψ a env) λx=>pb (bq Ψ b env) λy=>pb (pl (jl [] x.2 y.2)) λz=>.ok (ko z,z)
 |.slc a lo hi,env=>pb (if isVar a=true then pl (ju env a) else bq Ψ a env) λx=>pb (if dU lo=true then .ok none else pb (bq Ψ lo env) λv=>pb (pl (kj v.2)) λi=>.ok (some i)) λl=>
   pb (if dU hi=true then .ok none else pb (bq Ψ hi env) λv=>pb (pl (kj v.2)) λi=>.ok (some i)) λu=>DP x.2 l u
 |.call j es,env=>pb (lq Ψ es env) λp=>Ψ j p.2
 |.blt b es,env=>pb (cF Ψ es env) λds=>gM b ds
 | .met m a es,env=>match m with
  |.join=>.no
  |_=>.no
 | .comp _ js pat k it c elt,env=>pb (cF Ψ it env) λits=>pb (pl (DQ k its)) λxs=>pg (decide (xs.length<=100000))
   (pb (jt (λd=>pb (pl (bO pat d (fW js env))) λenv'=>pb (if dU c=true then .ok true else pb (bq Ψ c env') λv=>pl (ck [] v.2)) λt=>
    if t=true then pb (bq Ψ elt env') λe=>.ok (some e) else .ok none) xs) λp=>.ok (p.1,.rl p.2))
 |.dct0,_=>.ok (true,.dc [] [])
 | .sset a,env=>pb (if isVar a=true then pl (ju env a) else bq Ψ a env) λx=>match x.2 with
  |.rl xs=>pb (pl (bB xs)) λns=>pg (decide (ns.length<64)) (.ok (true,.rl ((sortI (L2.jj [] ns)).map .int)))
  |_=>.no
 |.dget d k x,env=>pb (if isVar d=true then pl (ju env d) else bq Ψ d env) λo=>pb (pl (FI [] o.2)) λ_=>pb (bq Ψ k env) λi=>pb (pl (keyOf i.2)) λkk=>pb (bq Ψ x env) λz=>pb (pl (Dw [] o.2 kk)) λr=>.ok (ko (r.getD z.2),r.getD z.2)
 |.dct1 k v,env=>pb (bq Ψ k env) λx=>pb (pl (keyOf x.2)) λkk=>pb (bq Ψ v env) λy=>.ok (y.1,.dc [kk] [y.2])
 |.lkeys d,env=>pb (if isVar d=true then pl (ju env d) else bq Ψ d env) λo=>pb (pl (yg [] o.2)) λks=>.ok (true,.rl (ks.map FJ))
 |.sdef ..,_=>.no
 |.svals _,_=>.no
 |.skeys _,_=>.no
 |.fld n a x,env=>pb (if isVar a=true then pl (ju env a) else bq Ψ a env) λo=>pb (pl (r8 n [] o.2 x)) λz=>.ok (ko z,z)
 |.mth a m js es,env=>pb (bq Ψ a env) λo=>pb (pl (kF [] o.2 m js)) λj=>pb (lq Ψ es env) λp=>Ψ j (o.2::p.2)
 |.rev _ _,_=>.no
 |.dflt _ _ _ _ _ _,_=>.no
 |.isc _ _ _,_=>.no
noncomputable def lq(Ψ:Nat->List Val->Pr FV):nM->aX->Pr (Bool×List Val)
 |.nil,_=>.ok (true,[])
 |.cons e es,env=>pb (bq Ψ e env) λd=>pb (lq Ψ es env) λp=>.ok (d.1&&p.1,d.2::p.2)
noncomputable def cF(Ψ:Nat->List Val->Pr FV):nM->aX->Pr (List Val)
 |.nil,_=>.ok []
 |.cons e es,env=>pb (if isVar e=true then pl (ju env e) else bq Ψ e env) λd=>pb (cF Ψ es env) λp=>.ok (d.2::p)
end
def yL(Ψ:Nat->List Val->Pr FV)(e:IE)(env:aX):Pr FV:=if isVar e=true then pl (ju env e) else bq Ψ e env
inductive zY
 |nx (env:aX)|rt (p:FV)|bk (env:aX)|ct (env:aX)
def AV:IE->Option (Nat×IE)
 | .met m a es=>(match m,a,es with
  |.pop,.var j,.cons e .nil=>some (j,e)
  |_,_,_=>none)
 |_=>none
def Xb:nM->List Nat
 |.cons a .nil=>(match AV a with|some y=>[y.1]|none=>[])
 |_=>[]
mutual
noncomputable def wH:IS->List Nat
 |.expr (.met .append (.var i) es)=>i::Xb es
 |.expr (.met .extend (.var i) _)=>[i]
 |.jV (.var i) _ _=>[i]
 |.iff _ a b=>jv a++jv b
 |.for _ _ _ b=>jv b
 |.whl _ _ b=>jv b
 |_=>[]
noncomputable def jv:bQ->List Nat
 |.nil=>[]
 |.cons s r=>wH s++jv r
end
def stored:AH->List Nat
 |.one i=>[i]
 |.tup is=>is
mutual
noncomputable def qF:IS->List Nat
 |.asg p _=>stored p
 |.aug i _ _=>[i]
 |.iff _ a b=>mU a++mU b
 |.for p _ _ b=>stored p++mU b
 |.whl _ _ b=>mU b
 |_=>[]
noncomputable def mU:bQ->List Nat
 |.nil=>[]
 |.cons s r=>qF s++mU r
end
def Xc:IE->Bool
 |.lst _=>true
 |.comp ..=>true
 |.slc ..=>true
 |.blt .list _=>true
 |.blt .sorted _=>true
 |.dct0=>true
 |.dct1 ..=>true
 |_=>false
def gO(body:Val->aX->Pr zY):List Val->aX->Pr zY
 |[],env=>.ok (.nx env)
 | x::r,env=>pb (body x env) λf=>match f with
  |.nx env'=>gO body r env'
  |.ct env'=>gO body r env'
  |.bk env'=>.ok (.nx env')
  |.rt p=>.ok (.rt p)
def n9(c:aX->Pr Bool)(body:aX->Pr zY):Nat->aX->Pr zY
 |0,_=>.no
 | n+1,env=>pb (c env) λt=>if t=true then pb (body env) λf=>(match f with
   |.nx env'=>n9 c body n env'
   |.ct env'=>n9 c body n env'
   |.bk env'=>.ok (.nx env')
   |.rt p=>.ok (.rt p)) else .ok (.nx env)
def Yq:Mk->Mk
 |.ow=>.sh
 |m=>m
def Yr:Option (Mk×Val)->Option (Mk×Val)
 |none=>none
 |some (m,d)=>some (Yq m,d)
def oR(env:aX):aX:=env.map Yr
def GG(Ψ:Nat->List Val->Pr FV)(es:nM)(env:aX):Pr FV:=bq Ψ (.tup es) (oR env)
def PJ(Ψ:Nat->List Val->Pr FV)(e:IE)(env:aX):Pr FV:=match e with
 | .var i=>match env[i]? with
  | some (some (m,d))=>if iD m=true then .ok (ko d||Rz m,d) else match d with
   |.rl ds=>.ok (bM ds,.rl ds)
   |.dc ks ds=>.ok (bM ds,.dc ks ds)
   |_=>.no
  |_=>.no
 |.call j es=>bq Ψ (.call j es) (oR env)
 |.and a b=>bq Ψ (.and a b) (oR env)
 |.tup es=>GG Ψ es env
 |e=>bq Ψ e env
def sJ(p:AH)(it:nM)(body:bQ):Bool:=match it with
 |.cons (.var i) .nil=>!(jv body).contains i && !(mU body).contains i && !(stored p).contains i
 |_=>true
def DR(k:Ik)(z o:Pr zY):Pr zY:=match k with
 |.zip=>z
 |_=>o
def DS:List Val->Option (List Val)
 |[.rl a,.rl b]=>some (dS a b)
 |_=>none
def RA(env:aX)(i:Nat):Option (List Val):=match env[i]? with
 |some (some (.ow,.rl ds))=>some ds
 |_=>none
def yM(Ψ:Nat->List Val->Pr FV)(i:Nat)(y:Nat×IE)(env:aX):Pr zY:=pb (pl (RA env i)) λds=>pb (pl (RA env y.1)) λxs=>pb (bq Ψ y.2 env) λz=>pb (pl (kj z.2)) λk=>
 pg (decide (0<=k/\k<1000/\i≠y.1/\ds.length<sizeLine)) (pb (pl xs[k.toNat]?) λv=>.ok (.nx ((env.set y.1 (some (.ow,.rl (xs.eraseIdx k.toNat)))).set i (some (.ow,.rl (ds++[v]))))))
mutual
noncomputable def aZ(Ψ:Nat->List Val->Pr FV)(ms:List Nat):IS->aX->Pr zY
 | .expr e,env=>match e with
  | .met .append (.var i) #[a]=>(match AV a with
   |some y=>yM Ψ i y env
   | none=>match env[i]? with
    |some (some (.ow,.rl ds))=>pb (bq Ψ a env) λx=>pg (decide (ds.length<sizeLine)) (.ok (.nx (env.set i (some (.ow,.rl (ds++[x.2]))))))
    |_=>.no)
  | .met .extend (.var i) #[a]=>match env[i]? with
   | some (some (.ow,.rl ds))=>pb (bq Ψ a env) λx=>match x.2 with
    |.tup vs=>pg (decide (ds.length+vs.length<=sizeLine)) (.ok (.nx (env.set i (some (.ow,.rl (ds++vs))))))
    |_=>.no
   |_=>.no
  |e=>pb (bq Ψ e env) λ_=>.ok (.nx env)
 | .asg p e,env=>match p with
  | .one i=>if ms.contains i=true then pg (Xc e) (pb (bq Ψ e env) λx=>match x.2 with
    |.rl ds=>.ok (.nx (env.set i (some (.ow,.rl ds))))
    |.dc ks ds=>.ok (.nx (env.set i (some (.ow,.dc ks ds))))
    |_=>.no) else pb (bq Ψ e env) λx=>.ok (.nx (env.set i (some (bI x.1 x.2,x.2))))
  |.tup is=>pg (is.all λi=>!ms.contains i) (pb (bq Ψ e env) λx=>pb (pl (bO (.tup is) x.2 env)) λenv'=>.ok (.nx env'))
 |.aug _ _ _,_=>.no
 | .jV o i v,env=>match o with
  | .var j=>pb (bq Ψ v env) λx=>match env[j]? with
   |some (some (.ow,.dc ks ds))=>pb (bq Ψ i env) λz=>pb (pl (keyOf z.2)) λk=>pg (decide (ks.length<sizeLine)) (.ok (.nx (env.set j (some (.ow,putD ks ds k x.2)))))
   |_=>.no
  |_=>.no
 |.iff c a b,env=>pb (yL Ψ c env) λx=>pb (pl (ck [] x.2)) λt=>if t=true then ay Ψ ms a env else ay Ψ ms b env
 | .for p k it body,env=>DR k (pg ((stored p).all λi=>!ms.contains i) (pb (lq Ψ it env) λq=>pb (pl (DS q.2)) λxs=>gO (λx env=>pb (pl (bO p x env)) λenv'=>ay Ψ ms body env') xs env))
  (pg (sJ p it body&&(stored p).all λi=>!ms.contains i) (pb (cF Ψ it env) λits=>pb (pl (kG k its)) λxs=>
   gO (λx env=>pb (pl (bO p x env)) λenv'=>ay Ψ ms body env') xs env))
 |.whl n c body,env=>n9 (λenv=>pb (yL Ψ c env) λx=>pl (ck [] x.2)) (ay Ψ ms body) n env
 |.ret e,env=>pb (PJ Ψ e env) λp=>.ok (.rt p)
 |.Kr,_=>.ok (.rt (true,.non))
 |.brk,env=>.ok (.bk env)
 |.cnt,env=>.ok (.ct env)
 |.pass,env=>.ok (.nx env)
 |.never,_=>.no
 |.setF _ _ _ _,_=>.no
noncomputable def ay(Ψ:Nat->List Val->Pr FV)(ms:List Nat):bQ->aX->Pr zY
 |.nil,env=>.ok (.nx env)
 | .cons s r,env=>pb (aZ Ψ ms s env) λf=>match f with
  |.nx env'=>ay Ψ ms r env'
  |f=>.ok f
end
def cu(Ψ:Nat->List Val->Pr FV)(n:Nat)(body:bQ)(ds:List Val):Pr FV :=
 pb (ay Ψ (jv body) body (ds.map (λd=>some (.sh,d))++replicate (n-ds.length) none)) λf=>match f with
  |.nx _=>.ok (true,.non)
  |.rt p=>.ok p
  |_=>.no
abbrev AP:=Option Nat->Prop
def Fr(n:Nat):AP:=λo=>match o with
 |none=>False
 |some k=>n<=k
theorem Fr.le{n m:Nat}(h:n<=m):∀o,Fr m o->Fr n o
 |none,e=>e
 |some k,e=>aaH h e
mutual
noncomputable def Dn(A:AP)(h:Hs):Val->Val->Prop
 |.non,v=>v=.non
 |.bl b,v=>v=.bl b
 |.int i,v=>v=.int i
 |.str x,v=>v=.str x
 |.tup ds,v=>∃vs,v=.tup vs/\aA A h ds vs
 |.rl ds,v=>(∃vs,v=.rl vs/\A none/\aA A h ds vs)\/∃i vs,v=.ref i/\A (some i)/\h[i]?=some (.lst vs)/\aA A h ds vs
 |.dc ks ds,v=>∃i kvs,v=.ref i/\A (some i)/\h[i]?=some (.dct kvs)/\kvs.map (·.1)=ks/\aA A h ds (kvs.map (·.2))
 |.clo d,v=>∃w,v=.clo w/\Dn A h d w
 |.ob c xs ds,v=>∃i fs,v=.ref i/\A (some i)/\h[i]?=some (.ins c fs)/\fs.map (·.1)=xs/\aA A h ds (fs.map (·.2))
 |.ref _,_=>False
noncomputable def aA(A:AP)(h:Hs):List Val->List Val->Prop
 |[],vs=>vs=[]
 |d::ds,vs=>∃v r,vs=v::r/\Dn A h d v/\aA A h ds r
end
section
variable {A A':AP} {h h' h1:Hs}
mutual
theorem Dn.mono(hA:∀i,A i->A' i)(hh:∀(i:Nat) (o:Ob),A (some i)->h[i]?=some o->h'[i]?=some o):∀(d v:Val),Dn A h d v->Dn A' h' d v
 |.non,v,e=>by rw[Dn]at e |-;exact e
 |.bl _,v,e=>by rw[Dn]at e |-;exact e
 |.int _,v,e=>by rw[Dn]at e |-;exact e
 |.str _,v,e=>by rw[Dn]at e |-;exact e
 | .tup ds,v,e=>by
  rw[Dn]at e |-;obtain⟨vs,rfl,q⟩:=e;exact⟨vs,rfl,aA.mono hA hh ds vs q⟩
 | .rl ds,v,e=>by
  rw[Dn]at e |-
  rcases e with ⟨vs,rfl,n,q⟩|⟨i,vs,rfl,a,g,q⟩
  ·exact .inl ⟨vs,rfl,hA _ n,aA.mono hA hh ds vs q⟩
  ·exact .inr ⟨i,vs,rfl,hA _ a,hh i _ a g,aA.mono hA hh ds vs q⟩
 | .dc ks ds,v,e=>by
  rw[Dn]at e |-;obtain⟨i,kvs,rfl,a,g,k,q⟩:=e;exact⟨i,kvs,rfl,hA _ a,hh i _ a g,k,aA.mono hA hh ds _ q⟩
 | .clo d,v,e=>by
  rw[Dn]at e |-;obtain⟨w,rfl,q⟩:=e;exact⟨w,rfl,Dn.mono hA hh d w q⟩
 | .ob c xs ds,v,e=>by
  rw[Dn]at e |-;obtain⟨i,kvs,rfl,a,g,k,q⟩:=e;exact⟨i,kvs,rfl,hA _ a,hh i _ a g,k,aA.mono hA hh ds _ q⟩
 |.ref _,v,e=>by rw[Dn]at e;exact e.elim
theorem aA.mono(hA:∀i,A i->A' i)(hh:∀(i:Nat) (o:Ob),A (some i)->h[i]?=some o->h'[i]?=some o):∀(ds vs:List Val),aA A h ds vs->aA A' h' ds vs
 |[],vs,e=>by rw[aA]at e |-;exact e
 | d::ds,vs,e=>by
  rw[aA]at e |-;obtain⟨v,r,rfl,q1,q2⟩:=e;exact⟨v,r,rfl,Dn.mono hA hh d v q1,aA.mono hA hh ds r q2⟩
end
theorem cV{i:Nat}(p:h<+:h')(e:h[i]?=some o):h'[i]?=some o:=by
 obtain⟨t,rfl⟩:=p;have hi:i<h.length:=(aag.mp e).1;rw[aas hi];exact e
theorem Dn.ext(p:h<+:h')(e:Dn A h d v):Dn A h' d v:=Dn.mono (λ_ a=>a) (λ_ _ _ q=>cV p q) d v e
theorem aA.ext(p:h<+:h')(e:aA A h d v):aA A h' d v:=aA.mono (λ_ a=>a) (λ_ _ _ q=>cV p q) d v e
theorem Dn.fj(hA:∀i,A i->A' i)(e:Dn A h d v):Dn A' h d v:=Dn.mono hA (λ_ _ _ q=>q) d v e
theorem aA.fj(hA:∀i,A i->A' i)(e:aA A h d v):aA A' h d v:=aA.mono hA (λ_ _ _ q=>q) d v e
mutual
theorem jW:∀(d v:Val),ko d=true->(Dn A h d v↔v=d)
 |.non,v,_=>by rw[Dn]
 |.bl _,v,_=>by rw[Dn]
 |.int _,v,_=>by rw[Dn]
 |.str _,v,_=>by rw[Dn]
 | .tup ds,v,e=>by
  rw[ko]at e;rw[Dn];constructor
  ·rintro⟨vs,rfl,q⟩;rw[(bN ds vs e).mp q]
  ·rintro rfl;exact⟨ds,rfl,(bN ds ds e).mpr rfl⟩
 |.rl _,v,e=>by rw[ko]at e;cases e
 |.dc _ _,v,e=>by rw[ko]at e;cases e
 |.ob _ _ _,v,e=>by rw[ko]at e;cases e
 |.clo _,v,e=>by rw[ko]at e;cases e
 |.ref _,v,e=>by rw[ko]at e;cases e
theorem bN:∀(ds vs:List Val),bM ds=true->(aA A h ds vs↔vs=ds)
 |[],vs,_=>by rw[aA]
 | d::ds,vs,e=>by
  rw[bM,and_eq_true]at e;rw[aA];constructor
  ·rintro⟨v,r,rfl,q1,q2⟩;rw[(jW d v e.1).mp q1,(bN ds r e.2).mp q2]
  ·rintro rfl;exact⟨d,ds,rfl,(jW d d e.1).mpr rfl,(bN ds ds e.2).mpr rfl⟩
end
theorem aA.nil:aA A h [] []:=by rw[aA]
theorem aA.cons{d v:Val}{ds vs:List Val}(a:Dn A h d v)(b:aA A h ds vs):aA A h (d::ds) (v::vs):=by rw[aA];exact⟨v,vs,rfl,a,b⟩
theorem aA.length:∀{ds vs:List Val},aA A h ds vs->ds.length=vs.length
 |[],vs,e=>by rw[aA]at e;subst e;rfl
 |d::ds,vs,e=>by rw[aA]at e;obtain⟨v,r,rfl,_,q⟩:=e;simp[aA.length q]
theorem aA.get:∀{ds vs:List Val} {i:Nat} {d:Val},aA A h ds vs->ds[i]?=some d->∃v,vs[i]?=some v/\Dn A h d v
 |[],vs,i,d,e,q=>by simp at q
 | c::ds,vs,0,d,e,q=>by
  rw[aA]at e;obtain⟨v,r,rfl,a,_⟩:=e;simp at q;subst q;exact⟨v,rfl,a⟩
 | c::ds,vs,i+1,d,e,q=>by
  rw[aA]at e;obtain⟨v,r,rfl,_,b⟩:=e;simp at q;obtain⟨w,q1,q2⟩:=aA.get b q;exact⟨w,by simpa using q1,q2⟩
theorem aA.append:∀{ds es vs ws:List Val},aA A h ds vs->aA A h es ws->aA A h (ds++es) (vs++ws)
 |[],es,vs,ws,e,q=>by rw[aA]at e;subst e;exact q
 | d::ds,es,vs,ws,e,q=>by
  rw[aA]at e;obtain⟨v,r,rfl,a,b⟩:=e;exact aA.cons a (aA.append b q)
theorem aA.take:∀{ds vs:List Val} (n:Nat),aA A h ds vs->aA A h (ds.take n) (vs.take n)
 |_,_,0,_=>by simp;exact aA.nil
 |[],vs,n+1,e=>by rw[aA]at e;subst e;simp;exact aA.nil
 | d::ds,vs,n+1,e=>by
  rw[aA]at e;obtain⟨v,r,rfl,a,b⟩:=e;exact aA.cons a (aA.take n b)
theorem aA.drop:∀{ds vs:List Val} (n:Nat),aA A h ds vs->aA A h (ds.drop n) (vs.drop n)
 |_,_,0,e=>by simpa using e
 |[],vs,n+1,e=>by rw[aA]at e;subst e;simp;exact aA.nil
 | d::ds,vs,n+1,e=>by
  rw[aA]at e;obtain⟨v,r,rfl,a,b⟩:=e;exact aA.drop n b
theorem aA.cut(lo hi:Option Int)(e:aA A h ds vs):aA A h (bX ds lo hi) (bX vs lo hi):=by
 unfold bX;rw[e.length];exact aA.take _ (aA.drop _ e)
theorem aA.kP{i:Int}(e:aA A h ds vs)(q:L2.kP ds i=some d):∃v,L2.kP vs i=some v/\Dn A h d v:=by
 unfold L2.kP at q |-;rw[e.length]at q;cases hi:L2.Mv vs.length i with
 |none=>rw[hi]at q;cases q
 |some n=>rw[hi]at q;exact aA.get e q
theorem aA.one(e:aA A h [d] vs):∃v,vs=[v]/\Dn A h d v:=by
 rw[aA]at e;obtain⟨v,r,rfl,a,b⟩:=e;rw[aA]at b;subst b;exact⟨v,rfl,a⟩
def OD(A:AP)(h:Hs)(d:Val)(a:Nat):Prop:=match d with
 |.rl ds=>∃vs,h[a]?=some (.lst vs)/\aA A h ds vs
 |.dc ks ds=>∃kvs,h[a]?=some (.dct kvs)/\kvs.map (·.1)=ks/\aA A h ds (kvs.map (·.2))
 |_=>False
theorem OD.mono{a:Nat}(e:OD A h d a)(ho:∀o,h[a]?=some o->h'[a]?=some o)(hq:∀ds vs,aA A h ds vs->aA A' h' ds vs):OD A' h' d a:=by
 cases d with
 |rl ds=>obtain⟨vs,g,q⟩:=e;exact⟨vs,ho _ g,hq _ _ q⟩
 |dc ks ds=>obtain⟨kvs,g,k,q⟩:=e;exact⟨kvs,ho _ g,k,hq _ _ q⟩
 |_=>exact False.elim e
theorem OD.ext{a:Nat}(p:h<+:h')(e:OD A h d a):OD A h' d a:=e.mono (λ_ g=>cV p g) λ_ _ q=>q.ext p
theorem OD.lt{a:Nat}(e:OD A h d a):a<h.length:=by
 cases d with
 |rl ds=>obtain⟨vs,g,q⟩:=e;exact(aag.mp g).1
 |dc ks ds=>obtain⟨kvs,g,k,q⟩:=e;exact(aag.mp g).1
 |_=>exact False.elim e
theorem OD.dn{a:Nat}(e:OD A h d a)(ha:A (.some a)):Dn A h d (.ref a):=by
 cases d with
 |rl ds=>obtain⟨vs,g,q⟩:=e;rw[Dn];exact .inr ⟨a,vs,rfl,ha,g,q⟩
 |dc ks ds=>obtain⟨kvs,g,k,q⟩:=e;rw[Dn];exact⟨a,kvs,rfl,ha,g,k,q⟩
 |_=>exact False.elim e
def OB(A:AP)(h:Hs)(d:Val)(o:Ob):Prop:=match d with
 |.rl ds=>∃vs,o=.lst vs/\aA A h ds vs
 |.dc ks ds=>∃kvs,o=.dct kvs/\kvs.map (·.1)=ks/\aA A h ds (kvs.map (·.2))
 |_=>False
theorem OB.od{a:Nat}(e:OB A h d o)(g:h'[a]?=.some o)(hq:∀ds vs,aA A h ds vs->aA A' h' ds vs):OD A' h' d a:=by
 cases d with
 |rl ds=>obtain⟨vs,rfl,q⟩:=e;exact⟨vs,g,hq _ _ q⟩
 |dc ks ds=>obtain⟨kvs,rfl,k,q⟩:=e;exact⟨kvs,g,k,hq _ _ q⟩
 |_=>exact False.elim e
def DB(A:AP)(h:Hs)(d v:Val):Prop:=Dn A h d v\/∃i,v=.ref i/\OD A h d i
theorem DB.all(e:DB A h d v):Dn (λ_=>True) h d v:=by
 rcases e with e|⟨i,rfl,q⟩
 ·exact e.fj λ_ _=>trivial
 ·exact(q.mono (A':=λ_=>True) (λ_ g=>g) λ_ _ z=>z.fj λ_ _=>trivial).dn trivial
theorem DB.ext(p:h<+:h')(e:DB A h d v):DB A h' d v:=by
 rcases e with e|⟨i,rfl,q⟩
 ·exact .inl (e.ext p)
 ·exact .inr ⟨i,rfl,q.ext p⟩
theorem DB.dc(e:DB A h (.dc ks ds) v):∃i kvs,v=.ref i/\h[i]?=some (.dct kvs)/\kvs.map (·.1)=ks/\aA A h ds (kvs.map (·.2)):=by
 rcases e with e|⟨i,rfl,kvs,g,k,q⟩
 ·rw[Dn]at e;obtain⟨i,kvs,rfl,_,g,k,q⟩:=e;exact⟨i,kvs,rfl,g,k,q⟩
 ·exact⟨i,kvs,rfl,g,k,q⟩
theorem DB.lst(e:DB A h (.rl ds) v):∃vs,aJ h v=some vs/\aA A h ds vs:=by
 rcases e with e|⟨i,rfl,vs,g,q⟩
 ·rw[Dn]at e
  rcases e with ⟨vs,rfl,_,q⟩|⟨i,vs,rfl,_,g,q⟩
  ·exact⟨vs,rfl,q⟩
  ·exact⟨vs,by simp[aJ,g],q⟩
 ·exact⟨vs,by simp[aJ,g],q⟩
theorem DB.seq(e:DB A h d v)(q:cN [] d=some ds):∃vs,cN h v=some vs/\aA A h ds vs:=by
 cases d with
 |tup es=>
  simp only[cN]at q;cases q
  rcases e with e|⟨_,_,e1⟩
  ·rw[Dn]at e;obtain⟨vs,rfl,q⟩:=e;exact⟨vs,rfl,q⟩
  ·exact False.elim e1
 |rl es=>simp only[cN,aJ]at q;cases q;obtain⟨vs,q1,q2⟩:=e.lst;refine⟨vs,?_,q2⟩;cases v<;>first|(simp[aJ]at q1;done)|exact q1
 |ref i=>simp[cN,aJ]at q
 |_=>simp[cN,aJ]at q
theorem DB.int{i:Int}(e:DB A h (.int i) v):v=.int i:=by
 rcases e with e|⟨_,_,e1⟩
 ·rw[Dn]at e;exact e
 ·exact False.elim e1
theorem DB.str(e:DB A h (.str i) v):v=.str i:=by
 rcases e with e|⟨_,_,e1⟩
 ·rw[Dn]at e;exact e
 ·exact False.elim e1
theorem DB.bl{i:Bool}(e:DB A h (.bl i) v):v=.bl i:=by
 rcases e with e|⟨_,_,e1⟩
 ·rw[Dn]at e;exact e
 ·exact False.elim e1
theorem DB.tup(e:DB A h (.tup ds) v):∃vs,v=.tup vs/\aA A h ds vs:=by
 rcases e with e|⟨_,_,e1⟩
 ·rw[Dn]at e;exact e
 ·exact False.elim e1
theorem wI:∀(n:Nat) (d v:Val) (p:PyData),Dn (λ_=>True) h d v->toD n [] d=some p->toD n h v=some p:=by
 intro n
 induction n with
 |zero=>intro d v p _ e;simp[toD]at e
 |succ n ih=>
  have all:∀(ds vs:List Val) (ps:List PyData),aA (λ_=>True) h ds vs->cD (toD n []) ds=some ps->cD (toD n h) vs=some ps:=by
   intro ds
   induction ds with
   |nil=>intro vs ps q e;rw[aA]at q;subst q;exact e
   |cons d ds ihd=>intro vs ps q e;rw[aA]at q;obtain⟨v,r,rfl,q1,q2⟩:=q;simp only[cD]at e |-;obtain⟨x,e1,e⟩:=aad.mp e;obtain⟨xs,e2,e⟩:=aad.mp e;rw[ih d v x q1 e1,ihd r xs q2 e2];exact e
  intro d v p q e;cases d with
  |non=>rw[Dn]at q;subst q;exact e
  |bl b=>rw[Dn]at q;subst q;exact e
  |int b=>rw[Dn]at q;subst q;exact e
  |str b=>rw[Dn]at q;subst q;exact e
  |tup ds=>rw[Dn]at q;obtain⟨vs,rfl,q⟩:=q;simp only[toD]at e |-;obtain⟨ps,e1,e⟩:=aad.mp e;rw[all ds vs ps q e1];exact e
  |rl ds=>
   rw[Dn]at q;simp only[toD]at e;obtain⟨ps,e1,e⟩:=aad.mp e
   rcases q with ⟨vs,rfl,_,q⟩|⟨i,vs,rfl,_,g,q⟩
   ·simp only[toD];rw[all ds vs ps q e1];exact e
   ·simp only[toD,aJ,g,bind_some];rw[all ds vs ps q e1];exact e
  |dc ks ds=>simp[toD]at e
  |ob c xs ds=>simp[toD]at e
  |clo d=>simp[toD]at e
  |ref i=>rw[Dn]at q;exact q.elim
theorem MP{b:Bool}(a:DB A h d v)(c:DB A h e w)(q:AI [] d e=some b):AI h v w=some b:=by
 unfold AI at q |-;obtain⟨x,e1,q⟩:=aad.mp q;obtain⟨y,e2,q⟩:=aad.mp q;rw[wI 16 d v x a.all e1,wI 16 e w y c.all e2];exact q
theorem GH(a:DB A h d v):ki v=ki d:=by
 rcases a with a|⟨i,rfl,q⟩
 ·cases d<;>rw[Dn]at a
  ·subst a;rfl
  ·subst a;rfl
  ·subst a;rfl
  ·subst a;rfl
  ·obtain⟨vs,rfl,_⟩:=a;rfl
  ·rcases a with ⟨vs,rfl,_⟩|⟨i,vs,rfl,_⟩<;>rfl
  ·obtain⟨i,kvs,rfl,_⟩:=a;rfl
  ·obtain⟨i,kvs,rfl,_⟩:=a;rfl
  ·obtain⟨w,rfl,_⟩:=a;rfl
  ·exact a.elim
 ·cases d<;>first|exact False.elim q|rfl
theorem GI{b:Bool}(a:DB A h d v)(c:DB A h e w)(q:yf [] d e=some b):yf h v w=some b:=by
 have data:memD [] d e=some b->memD h v w=some b:=λq=>by
  unfold memD at q |-;obtain⟨x,e1,q⟩:=aad.mp q;obtain⟨y,e2,q⟩:=aad.mp q;rw[wI 16 e w x c.all e1,wI 16 d v y a.all e2];exact q
 exact data q
theorem GJ{b:Bool}(a:DB A h d v)(c:DB A h e w)(q:MB d e=some b):MB v w=some b:=by
 cases e<;>first|(cases q;done)|skip
 ·have:w=.non:=by
   rcases c with c|⟨_,_,e1⟩
   ·rw[Dn]at c;exact c
   ·exact False.elim e1
  subst this;show some (ki v)=_;rw[GH a];exact q
theorem PK{b:Bool}(a:DB A h d v)(c:DB A h e w)(q:cop [] o d e=some b):cop h o v w=some b:=by
 cases o with
 |eq=>exact MP a c q
 |ne=>obtain⟨x,e1,e2⟩:=aaR.mp (show (AI [] d e).map _=some b from q);show (AI h v w).map _=_;rw[MP a c e1];exact aaS some e2
 |isn=>exact GJ a c q
 |ntn=>obtain⟨x,e1,e2⟩:=aaR.mp (show (MB d e).map _=some b from q);show (MB v w).map _=_;rw[GJ a c e1];exact aaS some e2
 |AG=>exact GI a c q
 |nin=>obtain⟨x,e1,e2⟩:=aaR.mp (show (yf [] d e).map _=some b from q);show (yf h v w).map _=_;rw[GI a c e1];exact aaS some e2
 |lt=>obtain⟨i,j,rfl,rfl⟩:=kZ (.inl rfl) q;have:=a.int;subst this;have:=c.int;subst this;exact q
 |le=>obtain⟨i,j,rfl,rfl⟩:=kZ (.inr (.inl rfl)) q;have:=a.int;subst this;have:=c.int;subst this;exact q
 |gt=>obtain⟨i,j,rfl,rfl⟩:=kZ (.inr (.inr (.inl rfl))) q;have:=a.int;subst this;have:=c.int;subst this;exact q
 |ge=>obtain⟨i,j,rfl,rfl⟩:=kZ (.inr (.inr (.inr rfl))) q;have:=a.int;subst this;have:=c.int;subst this;exact q
theorem sL{b:Bool}(a:DB A h d v)(q:ck [] d=some b):ck h v=some b:=by
 cases d with
 |rl ds=>
  obtain⟨vs,q1,q2⟩:=a.lst;have l:=q2.length;have e:(!ds.isEmpty) = !vs.isEmpty:=by cases ds<;>cases vs<;>simp_all
  simp only[ck]at q;rw[e]at q;cases v<;>simp only[aJ]at q1<;>first|(cases q1;done)|skip
  ·cases q1;exact q
  ·split at q1<;>cases q1;rename_i g;simp only[ck,g];exact q
 |tup ds=>
  obtain⟨vs,rfl,q2⟩:=a.tup;have l:=q2.length;have e:(!ds.isEmpty) = !vs.isEmpty:=by cases ds<;>cases vs<;>simp_all
  simp only[ck]at q |-;rw[<-e];exact q
 |dc ks ds=>obtain⟨i,kvs,rfl,g,hk,_⟩:=a.dc;subst hk;simp only[ck,g]at q |-;rw[<-q];cases kvs<;>rfl
 |ob c xs ds=>cases q
 |clo d=>cases q
 |ref i=>
  rcases a with a|⟨_,_,e1⟩
  ·rw[Dn]at a;exact a.elim
  ·exact False.elim e1
 |non=>
  rcases a with a|⟨_,_,e1⟩
  ·rw[Dn]at a;subst a;exact q
  ·exact False.elim e1
 |bl b=>have:=a.bl;subst this;exact q
 |int b=>have:=a.int;subst this;exact q
 |str b=>have:=a.str;subst this;exact q
theorem PM{n:Nat}(a:DB A h d v)(q:o6 [] d=some n):o6 h v=some n:=by
 cases d with
 |rl ds=>
  obtain⟨vs,q1,q2⟩:=a.lst;have l:=q2.length;simp only[o6]at q;rw[l]at q;cases v<;>simp only[aJ]at q1<;>first|(cases q1;done)|skip
  ·cases q1;exact q
  ·split at q1<;>cases q1;rename_i g;simp only[o6,g];exact q
 |tup ds=>obtain⟨vs,rfl,q2⟩:=a.tup;simp only[o6]at q |-;rw[<-q2.length];exact q
 |dc ks ds=>obtain⟨i,kvs,rfl,g,hk,_⟩:=a.dc;subst hk;simp only[o6,g]at q |-;rw[<-q];simp
 |_=>simp[o6]at q
theorem TN{t:String}(a:DB A h d v)(q:yh [] d=some t):yh h v=some t:=by
 cases d with
 |rl ds=>
  obtain⟨vs,q1,q2⟩:=a.lst;cases v<;>simp only[aJ]at q1<;>first|(cases q1;done)|skip
  ·exact q
  ·split at q1<;>cases q1;rename_i g;simp only[yh,g];exact q
 |tup ds=>obtain⟨vs,rfl,q2⟩:=a.tup;exact q
 |dc ks ds=>obtain⟨i,kvs,rfl,g,hk,_⟩:=a.dc;simp only[yh,g]at q |-;exact q
 |ob c xs ds=>cases q
 |clo d=>cases q
 |ref i=>
  rcases a with a|⟨_,_,e1⟩
  ·rw[Dn]at a;exact a.elim
  ·exact False.elim e1
 |non=>
  rcases a with a|⟨_,_,e1⟩
  ·rw[Dn]at a;subst a;exact q
  ·exact False.elim e1
 |bl b=>have:=a.bl;subst this;exact q
 |int b=>have:=a.int;subst this;exact q
 |str b=>have:=a.str;subst this;exact q
theorem wJ:∀{kvs:List (Key×Val)} {ks:List Key} {ds:List Val} {z:Val},kvs.map (·.1)=ks->aA A h ds (kvs.map (·.2))->dF (ks.zip ds) k=some z->∃v,dF kvs k=some v/\Dn A h z v
 |[],ks,ds,z,hk,q,e=>by subst hk;simp[dF]at e
 | (k',v')::kvs,ks,ds,z,hk,q,e=>by
  subst hk;have l:=q.length;cases ds with
  |nil=>simp at l
  |cons d ds=>
   simp only[map_cons]at q;rw[aA]at q;obtain⟨v,r,e1,q1,q2⟩:=q;cases e1
   by_cases hkk:k'=k
   ·subst hkk;simp[dF]at e |-;subst e;exact q1
   ·have e':dF ((kvs.map (·.1)).zip ds) k=some z:=by simpa [dF,hkk] using e
    obtain⟨w,a1,a2⟩:=wJ rfl q2 e';exact⟨w,by simpa [dF,hkk] using a1,a2⟩
theorem DB.sM{j:Nat}(c:DB A h (.ref j) v):False:=by
 rcases c with c|⟨_,_,e1⟩
 ·rw[Dn]at c;exact c
 ·exact e1
theorem Ci:∀{kvs:List (Key×Val)} {ds:List Val},aA A h ds (kvs.map (·.2))->dF ((kvs.map (·.1)).zip ds) k=none->dF kvs k=none
 |[],ds,q,e=>rfl
 | (k',v')::kvs,ds,q,e=>by
  cases ds with
  |nil=>rw[aA]at q;cases q
  |cons d ds=>
   rw[aap,aA]at q;obtain⟨v,r,eq,q1,q2⟩:=q;cases eq;unfold dF at e |-;rw[aap,zip_cons_cons,find?_cons]at e;rw[find?_cons]
   by_cases hk:k'=k
   ·simp[hk]at e
   ·simp only[hk,decide_false]at e |-;exact Ci q2 e
theorem AW(a:Dn A h d v)(e:keyOf d=some kk):keyOf v=some kk:=by
 cases d<;>first|(cases e;done)|skip
 ·rw[Dn]at a;subst a;exact e
 ·rw[Dn]at a;subst a;exact e
theorem PN(a:DB A h o v)(e:Dw [] o k=some r):∃r',Dw h v k=some r'/\∀z z',Dn A h z z'->Dn A h (r.getD z) (r'.getD z'):=by
 cases o<;>first|(cases e;done)|(exact(DB.sM a).elim)|skip
 rename_i ks ds;obtain⟨i,kvs,rfl,g,hk,q⟩:=a.dc;cases e;have eg:Dw h (.ref i) k=some (dF kvs k):=by show (match h[i]? with|some (.dct kvs)=>some (dF kvs k)|_=>none)=_;rw[g]
 refine⟨_,eg,λz z' hz=>?_⟩;cases ev:dF (ks.zip ds) k with
 |none=>subst hk;rw[Ci q ev];exact hz
 |some d=>obtain⟨u,e1,e2⟩:=wJ hk q ev;rw[e1];exact e2
theorem GK(a:DB A h o v)(e:yg [] o=some ks):yg h v=some ks:=by
 cases o<;>first|(cases e;done)|(exact(DB.sM a).elim)|skip
 obtain⟨i,kvs,rfl,g,hk,q⟩:=a.dc;cases e;show (match h[i]? with|some (.dct kvs)=>some (kvs.map (λkv:Key×Val=>kv.1))|_=>none)=_;rw[g];exact aaS some hk
theorem oh:∀ks:List Key,bM (ks.map FJ)=true
 |[]=>rfl
 |.inl _::ks=>by rw[aap,bM,oh ks];rfl
 |.inr _::ks=>by rw[aap,bM,oh ks];rfl
theorem Le{u:Unit}(a:DB A h o v)(e:FI [] o=some u):FI h v=some u:=by
 cases o<;>first|(cases e;done)|(exact(DB.sM a).elim)|skip
 obtain⟨i,kvs,rfl,g,hk,q⟩:=a.dc;show (match h[i]? with|some (.dct _)=>some ()|_=>none)=_;rw[g]
theorem PR(a:DB A h d v)(c:Dn A h e w)(q:jl [] d e=some z):∃u,jl h v w=some u/\Dn A h z u:=by
 cases e with
 |int i=>
  rw[Dn]at c;subst c;cases d with
  |tup ds=>obtain⟨vs,rfl,q2⟩:=a.tup;exact q2.kP q
  |rl ds=>
   obtain⟨vs,q1,q2⟩:=a.lst;obtain⟨u,q3,q4⟩:=q2.kP q;refine⟨u,?_,q4⟩;cases v<;>simp only[aJ]at q1<;>first|(cases q1;done)|skip
   ·cases q1;exact q3
   ·split at q1<;>cases q1;rename_i g;unfold jl;simp only[aJ,g,bind_some];exact q3
  |dc ks ds=>obtain⟨i',kvs,rfl,g,hk,q2⟩:=a.dc;obtain⟨u,q3,q4⟩:=wJ hk q2 q;refine⟨u,?_,q4⟩;show (match h[i']? with|some (.dct kvs)=>dF kvs (.inl i)|_=>(aJ h (.ref i')).bind λxs=>kP xs i)=_;rw[g];exact q3
  |ref j=>exact(DB.sM a).elim
  |_=>cases q
 |_=>cases d<;>first|(cases q;done)|exact(DB.sM a).elim
theorem wK:∀{fs:List (Str×Val)} {ds:List Val},aA A h ds (fs.map (·.2))->(((fs.map (·.1)).zip ds).lookup x=none->fs.lookup x=none)/\∀z,((fs.map (·.1)).zip ds).lookup x=some z->∃u,fs.lookup x=some u/\Dn A h z u
 |[],ds,q=>⟨λ_=>rfl,λz e=>by simp at e⟩
 | (k,v)::fs,ds,q=>by
  cases ds with
  |nil=>rw[aA]at q;cases q
  |cons d ds=>
   rw[aap,aA]at q;obtain⟨w,r,eq,q1,q2⟩:=q;cases eq;rw[aap,zip_cons_cons,lookup_cons,lookup_cons];cases hb:x==k with
   |true=>exact⟨λz=>(by cases z),λz e=>(by cases e;exact⟨v,rfl,q1⟩)⟩
   |false=>exact wK q2
theorem DB.ob{c:Nat}(e:DB A h (.ob c xs ds) v):∃i fs,v=.ref i/\h[i]?=some (.ins c fs)/\fs.map (·.1)=xs/\aA A h ds (fs.map (·.2)):=by
 rcases e with e|⟨_,_,e1⟩
 ·rw[Dn]at e;obtain⟨i,fs,rfl,_,g,k,q⟩:=e;exact⟨i,fs,rfl,g,k,q⟩
 ·exact False.elim e1
theorem PU{n:Nat}(a:DB A h o v)(e:r8 n [] o x=some z):∃u,r8 n h v x=some u/\Dn A h z u:=by
 cases o<;>first|(cases e;done)|(exact(DB.sM a).elim)|skip
 obtain⟨i,fs,rfl,g,hk,q⟩:=a.ob;subst hk;unfold r8 at e;dsimp only at e;split at e
 ·rename_i hc;obtain⟨u,e1,e2⟩:=(wK q).2 z e;refine⟨u,?_,e2⟩;unfold r8;dsimp only;rw[g];dsimp only;rw[aaj hc];exact e1
 ·cases e
theorem GL{j:Nat}(a:DB A h o v)(e:kF [] o m js=some j):kF h v m js=some j:=by
 by_cases hm:m=("":Str)
 ·unfold kF at e |-
  rw[aaj hm]at e |-;cases o<;>first|(cases e;done)|skip
  rcases a with a|⟨_,_,q⟩
  ·rw[Dn]at a;obtain⟨w,rfl,_⟩:=a;exact e
  ·exact False.elim q
 rw[FL hm]at e |-;cases o<;>first|(cases e;done)|(exact(DB.sM a).elim)|skip
 obtain⟨i,fs,rfl,g,hk,q⟩:=a.ob;subst hk;unfold Dy at e;dsimp only at e;split at e
 ·rename_i hc;have e1:=(wK q).1 (by simpa using hc);unfold Dy;dsimp only;rw[g];dsimp only;rw[aaj (by rw[e1];rfl)];exact e
 ·cases e
end
def Up(A:AP)(h:Hs):Prop:=∀k,h.length<=k->A (some k)
def Rel(A:AP)(h:Hs){α β:Type}(R:α -> Hs -> β -> Prop)(o:Out β):Pr α -> Prop
 |.ok a=>∃b h',o=.ok b h'/\h<+:h'/\R a h' b
 |.exc c es=>∃ws h',o=.exc c ws h'/\h<+:h'/\aA A h' es ws
 |.no=>True
def RV(A:AP)(h:Hs):FV->Hs->Val->Prop:=λx h' v=>Dn A h' x.2 v/\(x.1=true->Dn (Fr h.length) h' x.2 v)
def RVs(A:AP)(h:Hs):Bool×List Val->Hs->List Val->Prop:=λx h' v=>aA A h' x.2 v/\(x.1=true->aA (Fr h.length) h' x.2 v)
def Xd(A:AP):FV->Hs->Val->Prop:=λx h' v=>DB A h' x.2 v
def JI(A:AP)(h:Hs):List Val->List Val->Prop
 |[],vs=>vs=[]
 |d::ds,vs=>∃v r,vs=v::r/\DB A h d v/\JI A h ds r
def ER(A:AP)(ah:aX)(env:Env)(h:Hs):Prop:=∀(i:Nat) (f:Mk) (d:Val),ah[i]?=some (some (f,d)) ->
 if iD f=false then ∃a,env[i]?=some (some (.ref a))/\OD A h d a else ∃v,env[i]?=some (some v)/\Dn A h d v
section
variable {A:AP} {h h1:Hs} {α β γ δ:Type}
theorem Up.ext(u:Up A h)(p:h<+:h1):Up A h1:=λk hk=>u k (aaH p.length_le hk)
theorem ER.ext(e:ER A ah env h)(p:h<+:h1):ER A ah env h1:=λi f d q=>by
 have:=e i f d q;revert this;generalize iD f=t;intro this;cases t with
 |false=>rw[aaj rfl]at this |-;obtain⟨a,k2,k3⟩:=this;exact⟨a,k2,k3.ext p⟩
 |true=>rw[aam (by decide)]at this |-;obtain⟨v,k1,k2⟩:=this;exact⟨v,k1,k2.ext p⟩
theorem ai(r:Rel A h R (m h) p)(k:∀a h1 b,h<+:h1->R a h1 b->Rel A h1 R' (f b h1) (F a)):Rel A h R' (bnd m f h) (pb p F):=by
 unfold bnd;cases p with
 |ok a=>
  obtain⟨b,h1,e,q,r⟩:=r;rw[e];show Rel A h R' (f b h1) (F a);have:=k a h1 b q r;cases e2:F a with
  |ok c=>rw[e2]at this;obtain⟨d,h2,e3,q2,r2⟩:=this;exact⟨d,h2,e3,q.trans q2,r2⟩
  |exc c es=>rw[e2]at this;obtain⟨d,h2,e3,q2,r2⟩:=this;exact⟨d,h2,e3,q.trans q2,r2⟩
  |no=>trivial
 |exc c es=>obtain⟨ws,h1,e,q,r⟩:=r;rw[e];exact⟨ws,h1,rfl,q,r⟩
 |no=>trivial
theorem aL(r:R a h b):Rel A h R (ret b h) (.ok a):=⟨b,h,rfl,aaC _,r⟩
theorem bK(r:∀a,o=some a->∃b,o'=some b/\R a h b):Rel A h R (bH o' h) (pl o):=by
 cases o with
 |none=>trivial
 |some a=>obtain⟨b,rfl,q⟩:=r a rfl;exact⟨b,h,rfl,aaC _,q⟩
theorem cy(r:∀a,o=some a->∃b,f h=some b/\R a h b):Rel A h R (ask f h) (pl o):=bK r
theorem cU{c c':Bool}(e:c=true->c'=true)(r:c=true->Rel A h R (m h) p):Rel A h R (aQ c' m h) (pg c p):=by
 unfold aQ pg;cases c with
 |true=>rw[aaj (e rfl),aaj rfl];exact r rfl
 |false=>rw[aam aac];trivial
theorem yN(r:Rel A h R o p)(k:∀a h' b,h<+:h'->R a h' b->R' a h' b):Rel A h R' o p:=by
 cases p with
 |ok a=>obtain⟨b,h',e,q,r⟩:=r;exact⟨b,h',e,q,k a h' b q r⟩
 |exc c es=>exact r
 |no=>trivial
theorem dW(o:Ob):h<+:h++[o]:=prefix_append _ _
theorem jw(o:Ob):(h++[o])[h.length]?=some o:=by simp
theorem jf{f:Bool}{h0:Hs}(u:Up A h)(p:h0<+:h)(q:aA A h xs vs)(g:f=true->aA (Fr h0.length) h xs vs):Rel A h (RV A h0) (new (.lst vs) h) (.ok (f,.rl xs)):=by
 refine⟨_,_,rfl,dW _,?_,λhf=>?_⟩
 ·show Dn A _ (.rl xs) _;rw[Dn];exact .inr ⟨_,vs,rfl,u _ (aao _),jw _,q.ext (dW _)⟩
 ·show Dn _ _ (.rl xs) _;rw[Dn];exact .inr ⟨_,vs,rfl,p.length_le,jw _,(g hf).ext (dW _)⟩
theorem pC{h0:Hs}(q:Dn A h d v):RV A h0 (ko d,d) h v:=⟨q,λhi=>(jW d v hi).mpr ((jW d v hi).mp q)⟩
theorem jx(q:aA A h ds vs)(hi:bM ds=true):aA A' h' ds vs:=(bN ds vs hi).mpr ((bN ds vs hi).mp q)
theorem jq{i:Int}{h0:Hs}{f:Bool}:RV A h0 (f,.int i) h (.int i):=⟨by rw[Dn],λ_=>by rw[Dn]⟩
theorem p7{i:Bool}{h0:Hs}{f:Bool}:RV A h0 (f,.bl i) h (.bl i):=⟨by rw[Dn],λ_=>by rw[Dn]⟩
theorem RV.br{h0:Hs}(r:RV A h0 x h v):Xd A x h v:=.inl r.1
theorem Lf(ho:o≠.add)(v w:Val):(∃i j,v=.int i/\w=.int j)\/ni o v w=.no:=by
 cases v with
 |int i=>
  cases w with
  |int j=>exact .inl ⟨i,j,rfl,rfl⟩
  |_=>right;cases o<;>first|rfl|exact absurd rfl ho
 |_=>right;cases o<;>first|rfl|exact absurd rfl ho
theorem Lg{h0:Hs}(u:Up A h)(p:h0<+:h)(a:DB A h d v)(c:DB A h e w):Rel A h (RV A h0) (Rx o v w h) (ni o d e):=by
 have ii:o≠.add->(∃i j,d=.int i/\e=.int j)\/ni o d e=.no:=λho=>Lf ho d e;cases o with
 |add=>
  cases d<;>cases e<;>first|trivial|skip
  ·have:=a.int;subst this;have:=c.int;subst this;exact aL jq
  ·rename_i xs ys
   obtain⟨vs,e1,q1⟩:=a.lst;obtain⟨ws,e2,q2⟩:=c.lst;have eb:Rx .add v w=bnd (ask λh=>aJ h v) λa=>bnd (ask λh=>aJ h w) λb=>aQ (decide (a.length+b.length<=sizeLine)) (new (.lst (a++b))):=by
    cases v<;>simp only[aJ]at e1<;>first|(cases e1;done)|skip
    all_goals cases w<;>simp only[aJ]at e2<;>first|(cases e2;done)|rfl
   have ev:Rx .add v w h=aQ (decide (vs.length+ws.length<=sizeLine)) (new (.lst (vs++ws))) h:=by rw[eb];unfold bnd ask bH;dsimp only;rw[e1];dsimp only;rw[e2]
   rw[ev];refine cU (λz=>?_) λ_=>jf u p (q1.append q2) λhi=>jx (q1.append q2) hi;rw[<-q1.length,<-q2.length];exact z
 |_=>
  rcases ii (by intro z;cases z) with ⟨i,j,rfl,rfl⟩|z
  case inr=>rw[z];trivial
  have:=a.int;subst this;have:=c.int;subst this
  first
   |exact aL jq
   |exact cU (λz=>z) λ_=>aL jq
theorem Lh{lo hi:Option Int}{h0:Hs}(u:Up A h)(p:h0<+:h)(a:DB A h d v):Rel A h (RV A h0) (ud v lo hi h) (DP d lo hi):=by
 cases d with
 |tup ds=>
  obtain⟨vs,rfl,q⟩:=a.tup;have l:=q.length;simp only[DP,ud];refine cU (λz=>?_) λ_=>aL ⟨?_,λhi=>?_⟩
  ·rw[l]at z;exact z
  ·show Dn A h (.tup _) _;rw[Dn];exact⟨_,rfl,q.cut lo hi⟩
  ·show Dn _ h (.tup _) _;rw[Dn];exact⟨_,rfl,jx (q.cut _ _) hi⟩
 |rl ds=>
  obtain⟨vs,e1,q⟩:=a.lst;have ev:ud v lo hi h=new (.lst (bX vs lo hi)) h:=by
   have:ud v lo hi=bnd (ask λh=>aJ h v) λxs=>new (.lst (bX xs lo hi)):=by cases v<;>simp only[aJ]at e1<;>first|(cases e1;done)|rfl
   rw[this];unfold bnd ask bH;dsimp only;rw[e1]
  rw[ev];exact jf u p (q.cut lo hi) λhh=>jx (q.cut lo hi) hh
 |_=>trivial
theorem JI.one(e:JI A h [d] vs):∃v,vs=[v]/\DB A h d v:=by
 obtain⟨v,r,rfl,a,b⟩:=e;cases (show r=[] from b);exact⟨v,rfl,a⟩
theorem Li{ns:List Int}(q:aA A h ds vs)(e:bB ds=some ns):vs=ds:=by
 have:bM ds=true:=by
  clear q
  induction ds generalizing ns with
  |nil=>rfl
  |cons d ds ih=>
   simp only[bB,cD]at e;obtain⟨i,e1,e⟩:=aad.mp e;obtain⟨is,e2,e⟩:=aad.mp e;cases d<;>first|(cases e1;done)|skip
   rw[bM,ko,Bool.true_and];exact ih e2
 exact(bN ds vs this).mp q
theorem GN(q:aA A h ds vs)(e:fu ds=some ns):vs=ds:=by
 have:bM ds=true:=by
  clear q
  induction ds generalizing ns with
  |nil=>rfl
  |cons d ds ih=>
   simp only[fu,cD]at e;obtain⟨i,e1,e⟩:=aad.mp e;obtain⟨is,e2,e⟩:=aad.mp e;cases d<;>first|(cases e1;done)|skip
   rw[bM,ko,Bool.true_and];exact ih e2
 exact(bN ds vs this).mp q
theorem sN:∀{ds:List Val} {ns:List Int},bB ds=some ns->bM ds=true
 |[],_,_=>rfl
 | d::ds,ns,e=>by
  simp only[bB,cD]at e;obtain⟨i,e1,e⟩:=aad.mp e;obtain⟨is,e2,e⟩:=aad.mp e;cases d<;>first|(cases e1;done)|skip
  rw[bM,ko,Bool.true_and];exact sN (show bB ds=some is from e2)
theorem yO:∀{ds:List Val} {ns:List (List Int)},mQ ds=some ns->bM ds=true
 |[],_,_=>rfl
 | d::ds,ns,e=>by
  simp only[mQ,cD]at e;obtain⟨i,e1,e⟩:=aad.mp e;obtain⟨is,e2,e⟩:=aad.mp e;cases d<;>first|(cases e1;done)|skip
  rename_i vs;dsimp only at e1;split at e1
  ·cases e1
  ·rw[bM,ko,sN e1,Bool.true_and];exact yO (show mQ ds=some is from e2)
theorem di:∀ns:List Int,bM (ns.map .int)=true
 |[]=>rfl
 |n::ns=>by rw[aap,bM,ko,Bool.true_and];exact di ns
theorem oj:∀qP:List (List Int),bM (qP.map mZ)=true
 |[]=>rfl
 |n::ns=>by rw[aap,bM,mZ,ko,di,Bool.true_and];exact oj ns
theorem ve(e:iz xs=some ys):bM xs=true/\bM ys=true:=by
 unfold iz at e;split at e
 ·cases e2:bB xs with
  |some ns=>rw[e2]at e;cases e;exact⟨sN e2,di _⟩
  |none=>rw[e2]at e;obtain⟨qP,e3,e4⟩:=aad.mp e;cases e4;exact⟨yO e3,oj _⟩
 ·cases e
theorem Lj{h0:Hs}(u:Up A h)(p:h0<+:h)(a:JI A h ds vs):Rel A h (RV A h0) (blt b vs h) (gM b ds):=by
 have mm:∀(f:List Int->Option Val) (d:Val),(∀ns m,f ns=some m->∃i,m=.int i)->∀v,DB A h d v->Rel A h (RV A h0) (bnd (ask λh=>cN h v) (λxs=>bH ((bB xs).bind f)) h) (pb (pl (cN [] d)) λxs=>pb (pl ((bB xs).bind f)) λm=>.ok (true,m)):=by
  intro f d hf v hv;refine ai (R:=λxs h' ws=>aA A h' xs ws) (cy λxs e=>hv.seq e) λxs h1 ws q1 q=>?_;have:bH ((bB ws).bind f) h1=bnd (bH ((bB ws).bind f)) (λm=>ret m) h1:=by unfold bnd bH;cases (bB ws).bind f<;>rfl
  rw[this];refine ai (R:=λm _ m'=>m'=m/\∃i,m=.int i) (bK λm e=>?_) λm h2 m' _ hm=>?_
  ·obtain⟨ns,e1,e2⟩:=aad.mp e;rw[Li q e1];exact⟨m,e,rfl,hf ns m e2⟩
  ·obtain⟨rfl,i,rfl⟩:=hm;exact aL jq
 have hmin:∀ns m,uc ns=some m->∃i,m=Val.int i:=λns m e=>by cases ns<;>simp[uc]at e;exact⟨_,e.symm⟩
 have Xe:∀ns m,wm ns=some m->∃i,m=Val.int i:=λns m e=>by cases ns<;>simp[wm]at e;exact⟨_,e.symm⟩
 match ds,a with
 |[],a=>cases b<;>trivial
 |[d],a=>
  obtain⟨v,rfl,hv⟩:=a.one;cases b with
  |len=>exact ai (R:=λn _ m=>m=n) (cy λn e=>⟨n,PM hv e,rfl⟩) λn h1 m _ e=>by subst e;exact aL jq
  |min=>
   have e1:gM .min [d]=pb (pl (cN [] d)) λxs=>pb (pl ((bB xs).bind uc)) λm=>.ok (true,m):=by cases d<;>rfl
   have e2:blt .min [v]=bnd (ask λh=>cN h v) λxs=>bH ((bB xs).bind uc):=by cases v<;>rfl
   rw[e1,e2];exact mm uc d hmin v hv
  |max=>
   have e1:gM .max [d]=pb (pl (cN [] d)) λxs=>pb (pl ((bB xs).bind wm)) λm=>.ok (true,m):=by cases d<;>rfl
   have e2:blt .max [v]=bnd (ask λh=>cN h v) λxs=>bH ((bB xs).bind wm):=by cases v<;>rfl
   rw[e1,e2];exact mm wm d Xe v hv
  |sorted=>
   cases d<;>first|trivial|skip
   rename_i xs;obtain⟨ws,e1,q⟩:=hv.lst;have ev:bnd (ask λh=>aJ h v) (λxs=>bnd (bH (iz xs)) λys=>new (.lst ys)) h=bnd (bH (iz ws)) (λys=>new (.lst ys)) h:=by unfold bnd ask bH;dsimp only;rw[e1]
   show Rel A h (RV A h0) (bnd (ask λh=>aJ h v) (λxs=>bnd (bH (iz xs)) λys=>new (.lst ys)) h) _;rw[ev];refine ai (R:=λys _ zs=>zs=ys/\bM ys=true) (bK λys e=>?_) λys h1 zs q1 hz=>?_
   ·obtain⟨i1,i2⟩:=ve e;rw[(bN xs ws i1).mp q];exact⟨ys,e,rfl,i2⟩
   ·obtain⟨rfl,hi⟩:=hz;exact jf (u.ext q1) (p.trans q1) ((bN _ _ hi).mpr rfl) λ_=>(bN _ _ hi).mpr rfl
  |list=>refine ai (R:=λxs h' ws=>aA A h' xs ws) (cy λxs e=>hv.seq e) λxs h1 ws q1 q=>?_;exact jf (u.ext q1) (p.trans q1) q λhi=>jx q hi
  |tuple=>trivial
  |str=>trivial
  |int=>
   cases d<;>first|trivial|skip
   ·have:=hv.bl;subst this;exact aL jq
   ·have:=hv.int;subst this;exact aL jq
  |all=>
   cases d<;>first|trivial|skip
   rename_i xs;obtain⟨ws,e1,q⟩:=hv.lst;have ev:bnd (ask λh=>aJ h v) (λxs=>bnd (bH (fu xs)) λbs=>ret (Val.bl (bs.all id))) h=bnd (bH (fu ws)) (λbs=>ret (Val.bl (bs.all id))) h:=by unfold bnd ask bH;dsimp only;rw[e1]
   show Rel A h (RV A h0) (bnd (ask λh=>aJ h v) (λxs=>bnd (bH (fu xs)) λbs=>ret (Val.bl (bs.all id))) h) _;rw[ev];exact ai (R:=λys _ zs=>zs=ys) (bK λys e=>⟨ys,by rw[GN q e];exact e,rfl⟩) λys h1 zs q1 hz=>by subst hz;exact aL p7
  |any=>trivial
  |isin T=>refine ai (R:=λn _ m=>m=n) (cy λn e=>⟨n,TN hv e,rfl⟩) λn h1 m _ e=>?_;subst e;exact ai (R:=λn _ m=>m=n) (bK λn e=>⟨n,e,rfl⟩) λn h1 m _ e=>by subst e;exact aL p7
 |[d,e],a=>
  obtain⟨v,r,rfl,hv,hr⟩:=a;obtain⟨w,rfl,hw⟩:=JI.one hr;cases b<;>first|trivial|(cases d<;>trivial)|skip
  ·cases d<;>cases e<;>first|trivial|skip
   have:=hv.int;subst this;have:=hw.int;subst this;exact aL jq
  ·cases d<;>cases e<;>first|trivial|skip
   have:=hv.int;subst this;have:=hw.int;subst this;exact aL jq
 |x::y::z::t,a=>cases b<;>first|trivial|(cases x<;>trivial)|(cases x<;>cases y<;>trivial)
end
def Imp(φ:List Val->M Val)(ψ:List Val->Pr FV):Prop:=∀(A:AP) (h:Hs) (ds vs:List Val),Up A h->aA A h ds vs->Rel A h (RV A h) (φ vs h) (ψ ds)
section
variable {Φ:Nat->List Val->M Val} {Ψ:Nat->List Val->Pr FV} {A:AP} {h h1:Hs}
theorem fZ{x y:Bool}(f:(x&&y)=true):x=true/\y=true:=Bool.and_eq_true_iff.mp f
theorem sO{x y z:Bool}(f:(x&&y&&z)=true):(x=true/\y=true)/\z=true:=⟨fZ (fZ f).1,(fZ f).2⟩
def cA(Φ:Nat->List Val->M Val)(Ψ:Nat->List Val->Pr FV)(ir:IE):Prop:=∀(ah:aX) (env:Env) (A:AP) (h:Hs),Up A h->ER A ah env h->Rel A h (RV A h) (aS Φ ir env h) (bq Ψ ir ah)
def mJ(Φ:Nat->List Val->M Val)(Ψ:Nat->List Val->Pr FV)(fh:nM):Prop:=(∀(ah:aX) (env:Env) (A:AP) (h:Hs),Up A h->ER A ah env h->Rel A h (RVs A h) (bC Φ fh env h) (lq Ψ fh ah)) /\
 ∀(ah:aX) (env:Env) (A:AP) (h:Hs),Up A h->ER A ah env h->Rel A h (λds h' vs=>JI A h' ds vs) (bC Φ fh env h) (cF Ψ fh ah)
theorem RV.up{h0 h':Hs}(p:h0<+:h)(r:RV A h x h' v):RV A h0 x h' v:=⟨r.1,λf=>(r.2 f).fj (Fr.le p.length_le)⟩
theorem wL{h0:Hs}(p:h0<+:h)(r:Rel A h (RV A h) o x):Rel A h (RV A h0) o x:=yN r λ_ _ _ _ q=>q.up p
theorem TQ{i:Nat}(e:ER A ah env h):Rel A h (Xd A) (aS Φ (.var i) env h) (pl (ju ah (.var i))):=by
 rw[aS];refine bK λx hx=>?_;simp only[ju]at hx;split at hx
 ·rename_i f d hd
  cases hx;have:=e i f d hd;revert this;generalize iD f=t;intro this;cases t with
  |false=>rw[aaj rfl]at this;obtain⟨a,k2,k3⟩:=this;exact⟨.ref a,by rw[k2],.inr ⟨a,rfl,k3⟩⟩
  |true=>rw[aam (by decide)]at this;obtain⟨v,k1,k2⟩:=this;exact⟨v,by rw[k1],.inl k2⟩
 ·cases hx
theorem nj(o:cA Φ Ψ ir)(u:Up A h)(e:ER A ah env h):Rel A h (Xd A) (aS Φ ir env h) (if isVar ir=true then pl (ju ah ir) else bq Ψ ir ah):=by
 by_cases hv:isVar ir=true
 ·rw[aaj hv];cases ir<;>first|(cases hv;done)|exact TQ e
 ·rw[aam hv];exact yN (o ah env A h u e) λ_ _ _ _ q=>q.br
theorem Lk{α β:Type}{R:α -> Hs -> β -> Prop}{c:Bool}{o:Out β}{p:Pr α}(r:c=true->Rel A h R o p):Rel A h R o (pg c p):=by
 unfold pg;cases c with
 |true=>rw[aaj rfl];exact r rfl
 |false=>rw[aam aac];trivial
theorem v_var{i:Nat}:cA Φ Ψ (.var i):=λah env A h u e=>by
 rw[aS,bq];cases hv:ah[i]? with
 |none=>trivial
 |some o=>
  cases o with
  |none=>trivial
  |some fd=>
   obtain⟨f,d⟩:=fd;refine Lk λhf=>?_
   ·have:=e i f d hv;rw[aam (by simp[hf])]at this;obtain⟨v,k1,k2⟩:=this;rw[k1];exact⟨v,h,rfl,aaC _,pC k2⟩
theorem Cj{α:Type}{f:Hs->Option α}:ask f h=bnd (ask f) (λz=>ret z) h:=by unfold bnd ask bH;cases f h<;>rfl
theorem Ck(f:ko d=true):Dn A h d d:=(jW d d f).mpr rfl
theorem TR(f:ko d=true):cA Φ Ψ (.cst d):=λah env A h u e=>by rw[aS,bq];exact aL (pC (Ck f))
theorem TU(f:ko d=true):cA Φ Ψ (.con x d):=λah env A h u e=>by rw[aS,bq];exact aL (pC (Ck f))
theorem Xf:cA Φ Ψ .no:=λah env A h u e=>by rw[bq];trivial
theorem TV(ha:cA Φ Ψ a)(hb:cA Φ Ψ b):cA Φ Ψ (.bin o a b):=λah env A h u e=>by
 rw[aS,bq];exact ai (nj ha u e) λx h1 v p1 q1=>ai (nj hb (u.ext p1) (e.ext p1)) λy h2 w p2 q2=>Lg ((u.ext p1).ext p2) (p1.trans p2) (DB.ext p2 q1) q2
theorem TX(ha:cA Φ Ψ a):cA Φ Ψ (.neg a):=λah env A h u e=>by
 rw[aS,bq];refine ai (ha ah env A h u e) λx h1 v p1 q1=>?_;obtain⟨f,d⟩:=x;have q:=q1.1;cases d<;>dsimp only<;>first|trivial|skip
 dsimp only at q;rw[Dn]at q;subst q;exact aL jq
theorem TY(ha:cA Φ Ψ a)(hb:cA Φ Ψ b):cA Φ Ψ (.cmp o a b):=λah env A h u e=>by
 rw[aS,bq];exact ai (nj ha u e) λx h1 v p1 q1=>ai (nj hb (u.ext p1) (e.ext p1)) λy h2 w p2 q2=>
  ai (R:=λt _ t'=>t'=t) (cy λt et=>⟨t,PK (DB.ext p2 q1) q2 et,rfl⟩) λt h3 t' p3 et=>by subst et;exact aL p7
theorem TZ(ha:cA Φ Ψ a)(hb:cA Φ Ψ b)(hc:cA Φ Ψ c):cA Φ Ψ (.chn o o' a b c):=λah env A h u e=>by rw[bq];trivial
theorem lu(q:Dn A h d v):Rel A h (λt _ t'=>t'=t) (rZ v h) (sI d):=by
 cases d<;>first|trivial|skip
 rw[Dn]at q;subst q;exact aL rfl
theorem v_and(ha:cA Φ Ψ a)(hb:cA Φ Ψ b):cA Φ Ψ (.and a b):=λah env A h u e=>by
 rw[aS,bq];refine ai (ha ah env A h u e) λx h1 v p1 q1=>ai (lu q1.1) λt h2 t' p2 et=>?_;subst et;cases t' with
 |true=>rw[aaj rfl,aaj rfl];exact ai (hb ah env A h2 ((u.ext p1).ext p2) ((e.ext p1).ext p2)) λy h3 w p3 q3=>ai (lu q3.1) λt h2 t' p2 et=>by subst et;exact aL p7
 |false=>rw[aam aac,aam aac];exact aL p7
theorem v_or(ha:cA Φ Ψ a)(hb:cA Φ Ψ b):cA Φ Ψ (.or a b):=λah env A h u e=>by
 rw[aS,bq];refine ai (ha ah env A h u e) λx h1 v p1 q1=>ai (lu q1.1) λt h2 t' p2 et=>?_;subst et;cases t' with
 |false=>rw[aam aac,aam aac];exact ai (hb ah env A h2 ((u.ext p1).ext p2) ((e.ext p1).ext p2)) λy h3 w p3 q3=>ai (lu q3.1) λt h2 t' p2 et=>by subst et;exact aL p7
 |true=>rw[aaj rfl,aaj rfl];exact aL p7
theorem v_not(ha:cA Φ Ψ a):cA Φ Ψ (.not a):=λah env A h u e=>by
 rw[aS,bq];exact ai (ha ah env A h u e) λx h1 v p1 q1=>ai (lu q1.1) λt h2 t' p2 et=>by subst et;exact aL p7
theorem v_ite(hc:cA Φ Ψ c)(ha:cA Φ Ψ a)(hb:cA Φ Ψ b):cA Φ Ψ (.ite c a b):=λah env A h u e=>by
 rw[aS,bq];refine ai (nj hc u e) λx h1 v p1 q1=>ai (R:=λt _ t'=>t'=t) (cy λt et=>⟨t,sL q1 et,rfl⟩) λt h2 t' p2 et=>?_;subst et;cases t' with
 |true=>rw[aaj rfl,aaj rfl];exact wL (p1.trans p2) (ha ah env A h2 ((u.ext p1).ext p2) ((e.ext p1).ext p2))
 |false=>rw[aam aac,aam aac];exact wL (p1.trans p2) (hb ah env A h2 ((u.ext p1).ext p2) ((e.ext p1).ext p2))
theorem MQ:mJ Φ Ψ .nil:=⟨λah env A h u e=>by rw[bC,lq];exact aL ⟨aA.nil,λ_=>aA.nil⟩,λah env A h u e=>by rw[bC,cF];exact aL rfl⟩
theorem GO(he:cA Φ Ψ e)(hs:mJ Φ Ψ es):mJ Φ Ψ (.cons e es):=by
 refine⟨λah env A h u er=>?_,λah env A h u er=>?_⟩
 ·rw[bC,lq]
  refine ai (he ah env A h u er) λx h1 v p1 q1=>ai (hs.1 ah env A h1 (u.ext p1) (er.ext p1)) λy h2 vs p2 q2=>?_;refine aL ⟨aA.cons (q1.1.ext p2) q2.1,λhf=>?_⟩;have hf':x.1=true/\y.1=true:=by simpa using hf
  exact aA.cons ((q1.2 hf'.1).ext p2) ((q2.2 hf'.2).fj (Fr.le p1.length_le))
 ·rw[bC,cF];refine ai (nj he u er) λx h1 v p1 q1=>ai (hs.2 ah env A h1 (u.ext p1) (er.ext p1)) λy h2 vs p2 q2=>?_;exact aL ⟨v,vs,rfl,DB.ext p2 q1,q2⟩
theorem T4(hs:mJ Φ Ψ es):cA Φ Ψ (.tup es):=λah env A h u e=>by
 rw[aS,bq];refine ai (hs.1 ah env A h u e) λx h1 vs p1 q1=>cU (λz=>by rw[<-q1.1.length];exact z) λ_=>aL ⟨?_,λhf=>?_⟩
 ·show Dn A h1 (.tup _) _;rw[Dn];exact⟨vs,rfl,q1.1⟩
 ·show Dn _ h1 (.tup _) _;rw[Dn];exact⟨vs,rfl,q1.2 hf⟩
theorem PV:cA Φ Ψ .dct0:=λah env A h u e=>by
 rw[aS,bq];refine⟨_,_,rfl,dW _,?_,λhf=>?_⟩
 ·show Dn A _ (.dc [] []) _;rw[Dn];exact⟨_,[],rfl,u _ (aao _),jw _,rfl,aA.nil⟩
 ·show Dn _ _ (.dc [] []) _;rw[Dn];exact⟨_,[],rfl,aao _,jw _,rfl,aA.nil⟩
theorem PX(hk:cA Φ Ψ k)(hv:cA Φ Ψ v):cA Φ Ψ (.dct1 k v):=λah env A h u e=>by
 rw[aS,bq];refine ai (hk ah env A h u e) λx h1 w p1 q1=>ai (R:=λkk _ kk'=>kk'=kk) (bK λkk ek=>⟨kk,AW q1.1 ek,rfl⟩) λkk h2 kk' p2 hkk=>?_;subst hkk;refine ai (hv ah env A h2 ((u.ext p1).ext p2) ((e.ext p1).ext p2)) λy h3 z p3 q3=>?_;have p:=(p1.trans p2).trans p3;refine⟨_,_,rfl,dW _,?_,λhf=>?_⟩
 ·show Dn A _ (.dc [kk'] [y.2]) _;rw[Dn];exact⟨_,[(kk',z)],rfl,u _ p.length_le,jw _,rfl,aA.cons (q3.1.ext (dW _)) aA.nil⟩
 ·show Dn _ _ (.dc [kk'] [y.2]) _;rw[Dn];exact⟨_,[(kk',z)],rfl,p.length_le,jw _,rfl,aA.cons (((q3.2 hf).fj (Fr.le (p1.trans p2).length_le)).ext (dW _)) aA.nil⟩
theorem PY(hd:cA Φ Ψ d)(hk:cA Φ Ψ k)(hx:cA Φ Ψ x):cA Φ Ψ (.dget d k x):=λah env A h u e=>by
 rw[aS,bq];refine ai (nj hd u e) λo h1 v p1 q1=>ai (R:=λ_ _ _=>True) (cy λt et=>⟨t,Le q1 et,trivial⟩) λ_ h2 _ p2 _=>?_;refine ai (hk ah env A h2 ((u.ext p1).ext p2) ((e.ext p1).ext p2)) λi h3 w p3 q3=>ai (R:=λkk _ kk'=>kk'=kk) (bK λkk ek=>⟨kk,AW q3.1 ek,rfl⟩) λkk h4 kk' p4 hkk=>?_;subst hkk;have Ys:=((p1.trans p2).trans p3).trans p4;refine ai (hx ah env A h4 (u.ext Ys) (e.ext Ys)) λz h5 z' p5 q5=>?_;refine ai (R:=λr h' r'=>∀a b,Dn A h5 a b->Dn A h' (r.getD a) (r'.getD b)) (cy λr er=>?_) λr h6 r' p6 hr=>aL (pC (hr _ _ q5.1));obtain⟨r',e1,e2⟩:=PN (DB.ext ((p2.trans p3).trans (p4.trans p5)) q1) er;exact⟨r',e1,e2⟩
theorem Ll(hd:cA Φ Ψ d):cA Φ Ψ (.lkeys d):=λah env A h u e=>by
 rw[aS,bq];refine ai (nj hd u e) λo h1 v p1 q1=>ai (R:=λks _ ks'=>ks'=ks) (cy λks ek=>⟨ks,GK q1 ek,rfl⟩) λks h2 ks' p2 hk=>?_;subst hk;exact jf ((u.ext p1).ext p2) (p1.trans p2) ((bN _ _ (oh ks')).mpr rfl) λ_=>(bN _ _ (oh ks')).mpr rfl
theorem Lm(hd:cA Φ Ψ d):cA Φ Ψ (.skeys d):=λah env A h u e=>by rw[bq];trivial
theorem yP:∀{xs:List Val} {ns:List Int},bB xs=some ns->xs=ns.map .int
 |[],ns,e=>by cases e;rfl
 | x::xs,ns,e=>by
  unfold bB at e;rw[cD]at e;obtain⟨i,e1,e⟩:=aad.mp e;obtain⟨r,e2,e⟩:=aad.mp e;cases e;cases x<;>simp at e1;subst e1;rw[yP e2];rfl
theorem PZ{p q:Nat}(hd:cA Φ Ψ d)(hw:cA Φ Ψ w):cA Φ Ψ (.dflt N' js p q d w):=λah env A h u e=>by rw[bq];trivial
theorem T5(ha:cA Φ Ψ a):cA Φ Ψ (.isc a x bs):=λah env A h u e=>by rw[bq];trivial
theorem P1(ha:cA Φ Ψ a):cA Φ Ψ (.sset a):=λah env A h u e=>by
 rw[aS,bq];refine ai (nj ha u e) λx h1 v p1 q1=>?_;obtain⟨f,d⟩:=x;cases d<;>first|trivial|skip
 rename_i xs;obtain⟨vs,e1,e2⟩:=DB.lst q1;have ea:∀(F:List Val->M Val),bnd (ask λh=>aJ h v) F h1=F vs h1:=λF=>by unfold bnd ask bH;dsimp only;rw[e1]
 rw[ea];show Rel A h1 _ _ (pb (pl (bB xs)) _);refine ai (R:=λns h' ns'=>ns'=ns) (bK λns en=>⟨ns,?_,rfl⟩) λns h2 ns' p2 en=>?_
 ·have ei:=yP en;subst ei;rw[(bN _ _ (di ns)).mp e2];exact en
 ·subst en;refine cU (λz=>z) λ_=>?_;have hi:∀ms:List Int,aA A h2 (ms.map Val.int) (ms.map Val.int):=λms=>(bN _ _ (di ms)).mpr rfl;exact jf ((u.ext p1).ext p2) (p1.trans p2) (hi _) λ_=>(bN _ _ (di _)).mpr rfl
theorem T6(hs:mJ Φ Ψ es):cA Φ Ψ (.lst es):=λah env A h u e=>by
 rw[aS,bq];exact ai (hs.1 ah env A h u e) λx h1 vs p1 q1=>cU (λz=>by rw[<-q1.1.length];exact z) λ_=>jf (u.ext p1) p1 q1.1 q1.2
theorem T7(ha:cA Φ Ψ a)(hb:cA Φ Ψ b):cA Φ Ψ (.idx a b):=λah env A h u e=>by
 rw[aS,bq];refine ai (nj ha u e) λx h1 v p1 q1=>ai (hb ah env A h1 (u.ext p1) (e.ext p1)) λy h2 w p2 q2=>?_;rw[Cj];exact ai (R:=λz h' z'=>Dn A h' z z') (cy λz ez=>PR (DB.ext p2 q1) q2.1 ez) λz h3 z' p3 q3=>aL (pC q3)
theorem om(o:cA Φ Ψ ir)(u:Up A h)(e:ER A ah env h) :
  Rel A h (λ(t:Option Int) _ t'=>t'=t) ((if dU ir=true then ret none else bnd (aS Φ ir env) λv=>bnd (bH (kj v)) λi=>ret (some i)) h) (if dU ir=true then .ok none else pb (bq Ψ ir ah) λv=>pb (pl (kj v.2)) λi=>.ok (some i)):=by
 by_cases hn:dU ir=true
 ·rw[aaj hn,aaj hn];exact aL rfl
 ·rw[aam hn,aam hn]
  refine ai (o ah env A h u e) λx h1 v p1 q1=>ai (R:=λt _ t'=>t'=t) (bK λi ei=>?_) λt h2 t' p2 et=>by subst et;exact aL rfl
  obtain⟨f,d⟩:=x;have q:=q1.1;cases d<;>first|(cases ei;done)|skip
  dsimp only at q;rw[Dn]at q;subst q;exact⟨i,ei,rfl⟩
theorem T8(ha:cA Φ Ψ a)(hl:cA Φ Ψ lo)(hh:cA Φ Ψ hi):cA Φ Ψ (.slc a lo hi):=λah env A h u e=>by
 rw[aS,bq];refine ai (nj ha u e) λx h1 v p1 q1=>ai (om hl (u.ext p1) (e.ext p1)) λl h2 l' p2 el=>ai (om hh ((u.ext p1).ext p2) ((e.ext p1).ext p2)) λr h3 r' p3 er=>?_;subst el;subst er;exact Lh (((u.ext p1).ext p2).ext p3) ((p1.trans p2).trans p3) (DB.ext (p2.trans p3) q1)
theorem T9(ha:cA Φ Ψ a)(hs:cA Φ Ψ sx):cA Φ Ψ (.rev a sx):=λah env A h u e=>by rw[bq];trivial
theorem P4{j:Nat}(hΦ:∀j,Imp (Φ j) (Ψ j))(hs:mJ Φ Ψ es):cA Φ Ψ (.call j es):=λah env A h u e=>by
 rw[aS,bq];exact ai (hs.1 ah env A h u e) λx h1 vs p1 q1=>wL p1 (hΦ j A h1 x.2 vs (u.ext p1) q1.1)
theorem Ua{n:Nat}(ha:cA Φ Ψ a):cA Φ Ψ (.fld n a x):=λah env A h u e=>by
 rw[aS,bq];refine ai (nj ha u e) λo h1 v p1 q1=>?_;rw[Cj];exact ai (R:=λz h' z'=>Dn A h' z z') (cy λz ez=>PU q1 ez) λz h3 z' p3 q3=>aL (pC q3)
theorem Ub(hΦ:∀j,Imp (Φ j) (Ψ j))(ha:cA Φ Ψ a)(hs:mJ Φ Ψ es):cA Φ Ψ (.mth a m js es):=λah env A h u e=>by
 rw[aS,bq];refine ai (ha ah env A h u e) λo h1 v p1 q1=>ai (R:=λj _ j'=>j'=j) (cy λj ej=>⟨j,GL (.inl q1.1) ej,rfl⟩) λj h2 j' p2 hj=>?_;subst hj;exact ai (hs.1 ah env A h2 ((u.ext p1).ext p2) ((e.ext p1).ext p2)) λx h3 vs p3 q3=>wL ((p1.trans p2).trans p3) (hΦ j' A h3 (o.2::x.2) (v::vs) (((u.ext p1).ext p2).ext p3) (aA.cons (q1.1.ext (p2.trans p3)) q3.1))
theorem Uc(hs:mJ Φ Ψ es):cA Φ Ψ (.blt b es):=λah env A h u e=>by
 rw[aS,bq];exact ai (hs.2 ah env A h u e) λx h1 vs p1 q1=>Lj (u.ext p1) p1 q1
theorem Ud(ha:cA Φ Ψ a)(hs:mJ Φ Ψ es):cA Φ Ψ (.met m a es):=λah env A h u e=>by
 cases m with
 |join=>rw[bq];trivial
 |_=>rw[bq]<;>first|trivial|(intro z;cases z)
def SrcR(A:AP)(h:Hs)(xs:List Val)(src:Src):Prop:=∃ws,aA A h xs ws/\∀h',h<+:h'->src.items h'=some ws
theorem mG{lo:Int}{n:Nat}:aA A h (cz lo n) (cz lo n):=by
 unfold cz;generalize List.range n=l
 induction l with
 |nil=>exact aA.nil
 |cons a l ih=>exact aA.cons (by rw[Dn]) ih
theorem jy:∀{xs ws:List Val} (i:Nat),aA A h xs ws->aA A h (rY i xs) (rY i ws)
 |[],ws,i,q=>by rw[aA]at q;subst q;exact aA.nil
 | x::xs,ws,i,q=>by
  rw[aA]at q;obtain⟨w,r,rfl,a,b⟩:=q;exact aA.cons (by rw[Dn];exact⟨_,rfl,aA.cons (by rw[Dn]) (aA.cons a aA.nil)⟩) (jy (i+1) b)
theorem wM{ds vs:List Val}(a:DB A h (.rl ds) v):∃ws,aA A h ds ws/\((v=.rl ws)\/∃i,v=.ref i/\∀h',h<+:h'->aJ h' (.ref i)=some ws):=by
 rcases a with a|⟨i,rfl,vs,g,q⟩
 ·rw[Dn]at a
  rcases a with ⟨vs,rfl,_,q⟩|⟨i,vs,rfl,_,g,q⟩
  ·exact⟨vs,q,.inl rfl⟩
  ·exact⟨vs,q,.inr ⟨i,rfl,λh' p=>by simp[aJ,cV p g]⟩⟩
 ·exact⟨vs,q,.inr ⟨i,rfl,λh' p=>by simp[aJ,cV p g]⟩⟩
theorem wN:∀{xs ws ys zs:List Val},aA A h xs ws->aA A h ys zs->aA A h (dS xs ys) (dS ws zs)
 |[],ws,ys,zs,q,_=>by rw[aA]at q;subst q;rw[dS.eq_def,dS.eq_def];exact aA.nil
 | x::xs,ws,[],zs,q,q'=>by
  rw[aA]at q;rw[aA]at q';subst q';obtain⟨w,r,rfl,a,b⟩:=q;rw[dS.eq_def,dS.eq_def];exact aA.nil
 | x::xs,ws,y::ys,zs,q,q'=>by
  rw[aA]at q;rw[aA]at q';obtain⟨w,r,rfl,a,b⟩:=q;obtain⟨w',r',rfl,a',b'⟩:=q';rw[dS,dS];exact aA.cons (by rw[Dn];exact⟨_,rfl,aA.cons a (aA.cons a' aA.nil)⟩) (wN b b')
theorem yQ(a:DB A h (.rl ds) v):∃ws,aA A h ds ws/\∀h',h<+:h'->aJ h' v=some ws:=by
 obtain⟨ws,q,rfl|⟨i,rfl,g⟩⟩:=wM (vs:=[]) a
 ·exact⟨ws,q,λ_ _=>rfl⟩
 ·exact⟨ws,q,g⟩
theorem Cm(a:JI A h ds vs):Rel A h (λxs h' src=>SrcR A h' xs src) (bH (srcOf k vs) h) (pl (DQ k ds)):=by
 refine bK λxs e=>?_;cases k with
 |seq=>
  match ds,e with
  |[.tup es],e=>cases e;obtain⟨v,rfl,hv⟩:=a.one;obtain⟨ws,rfl,q⟩:=hv.tup;exact⟨.fix ws,rfl,ws,q,λ_ _=>rfl⟩
  |[.rl es],e=>
   cases e;obtain⟨v,rfl,hv⟩:=a.one;obtain⟨ws,q,rfl|⟨i,rfl,g⟩⟩:=wM (vs:=[]) hv
   ·exact⟨.fix ws,rfl,ws,q,λ_ _=>rfl⟩
   ·exact⟨.live i,rfl,ws,q,λh' p=>g h' p⟩
 |range=>
  match ds,e with
  |[.int n],e=>
   obtain⟨v,rfl,hv⟩:=a.one;have:=hv.int;subst this;change (if inR n=true then some (cz 0 n.toNat) else none)=some _ at e;split at e
   ·rename_i hn;cases e;exact⟨.fix _,aaj hn,_,mG,λ_ _=>rfl⟩
   ·cases e
  |[.int n,.int m],e=>
   obtain⟨v,r,rfl,hv,hr⟩:=a;obtain⟨w,rfl,hw⟩:=JI.one hr;have:=hv.int;subst this;have:=hw.int;subst this;change (if (inR n&&inR m)=true then some (cz n (m-n).toNat) else none)=some _ at e;split at e
   ·rename_i hn;cases e;exact⟨.fix _,aaj hn,_,mG,λ_ _=>rfl⟩
   ·cases e
 |enum=>
  match ds,e with
  |[.rl es],e=>
   cases e;obtain⟨v,rfl,hv⟩:=a.one;obtain⟨ws,q,rfl|⟨i,rfl,g⟩⟩:=wM (vs:=[]) hv
   ·exact⟨.fix _,rfl,_,jy 0 q,λ_ _=>rfl⟩
   ·exact⟨.enum i,rfl,_,jy 0 q,λh' p=>by simp[Src.items,g h' p]⟩
 |zip=>
  match ds,e with
  |[.rl es,.rl fs],e=>cases e;obtain⟨v,r,rfl,hv,hr⟩:=a;obtain⟨w,rfl,hw⟩:=JI.one hr;obtain⟨ws,q,g⟩:=yQ hv;obtain⟨zs,q',g'⟩:=yQ hw;exact⟨.zip v w,rfl,_,wN q q',λh' p=>by show (aJ h' v).bind _=_;rw[g h' p];show (aJ h' w).map _=_;rw[g' h' p];rfl⟩
theorem Cn:∀{is:List Nat} {ds vs:List Val} {ah aR:aX} {env:Env},cP is ds ah=some aR->aA A h ds vs->ER A ah env h->(∀i∈is,i<ah.length->i<env.length)->∃env',bindAll is vs env=some env'/\ER A aR env' h
 | [],[],vs,ah,aR,env,e,q,er,_=>by
  rw[aA]at q;subst q;simp only[cP]at e;cases e;exact⟨env,rfl,er⟩
 | i::is,d::ds,vs,ah,aR,env,e,q,er,hl=>by
  rw[aA]at q;obtain⟨v,r,rfl,q1,q2⟩:=q;simp only[cP]at e;have er':ER A (ah.set i (some (.sh,d))) (env.set i (some v)) h:=λj f d' hj=>by
   by_cases hij:i=j
   ·subst hij
    have hi:i<ah.length:=by have:=(aag.mp hj).1;simpa using this
    rw[aar hi]at hj;cases hj;rw[aam (by decide)];exact⟨v,by rw[aar (hl i aal hi)],q1⟩
   ·rw[aah hij]at hj;rw[aah hij];exact er j f d' hj
  simp only[bindAll];exact Cn e q2 er' λj hj hl'=>by simpa using hl j (aak _ hj) (by simpa using hl')
 |[],_::_,_,_,_,_,e,_,_,_=>by simp[cP]at e
 |_::_,[],_,_,_,_,e,_,_,_=>by simp[cP]at e
theorem yR(e:bO p d ah=some aR)(q:Dn A h d v)(er:ER A ah env h)(hl:ah.length<=env.length):∃env',iA p v env=some env'/\ER A aR env' h:=by
 cases p with
 |one i=>
  simp only[bO]at e;cases e;refine⟨_,rfl,λj f d' hj=>?_⟩
  by_cases hij:i=j
  ·subst hij
   have hi:i<ah.length:=by have:=(aag.mp hj).1;simpa using this
   rw[aar hi]at hj;cases hj;rw[aam (by decide)];exact⟨v,by rw[aar (by omega)],q⟩
  ·rw[aah hij]at hj;rw[aah hij];exact er j f d' hj
 |tup is=>
  cases d<;>simp only[bO]at e<;>first|(cases e;done)|skip
  rw[Dn]at q;obtain⟨vs,rfl,q⟩:=q;exact Cn e q er λi _ hi=>by omega
theorem Co(e:ER A ah env h):ER A (fW js ah) (kY js env) h:=λi f d q=>by
 unfold fW at q;rw[aaB]at q;cases hj:js[i]? with
 |none=>rw[hj]at q;cases q
 |some o=>
  rw[hj]at q;simp only[map_some]at q;cases o with
  |none=>cases q
  |some j=>
   dsimp only at q;cases ej:ah[j]? with
   |none=>rw[ej]at q;cases q
   |some w=>
    cases w with
    |none=>rw[ej]at q;cases q
    |some fd=>
     rw[ej]at q;cases q;have:=e j f d ej;revert this;generalize iD f=t;intro this;cases t with
     |false=>rw[aaj rfl]at this |-;obtain⟨a,k2,k3⟩:=this;refine⟨a,?_,k3⟩;unfold kY;rw[aaB,hj];simp only[map_some];rw[k2]
     |true=>rw[aam (by decide)]at this |-;obtain⟨v,k1,k2⟩:=this;refine⟨v,?_,k2⟩;unfold kY;rw[aaB,hj];simp only[map_some];rw[k1]
theorem sP :
  ∀(xs:List Val) (vs:List Val) (i:Nat) (acc:List Val) (h:Hs),hb<+:h->Up A h->(∀h',h<+:h'->src.items h'=some ws)->ws.drop i=vs->aA A h xs vs ->
   (∀x v h',h<+:h'->Dn A h' x v->Rel A h' (λo h'' o'=>match o,o' with|some e,some e'=>RV A hb e h'' e'|none,none=>True|_,_=>False) (f v h') (g x)) ->
   Rel A h (λp h' ys=>∃zs,ys=acc++zs/\aA A h' p.2 zs/\(p.1=true->aA (Fr hb.length) h' p.2 zs)) (gf src f vs.length i acc h) (jt g xs)
 | [],vs,i,acc,h,Yt,u,hi,hd,q,hf=>by
  rw[aA]at q;subst q;have hl:ws.length<=i:=List.drop_eq_nil_iff.mp hd;have ev:gf src f ([]:List Val).length i acc h=.ok acc h:=by show gf src f 0 i acc h=_;simp only[gf];unfold bnd ask bH aQ;dsimp only;rw[hi h (aaC _)];dsimp only;rw[aaj (decide_eq_true hl)];rfl
  rw[ev,jt];exact⟨acc,h,rfl,aaC _,[],by simp,aA.nil,λ_=>aA.nil⟩
 | x::xs,vs,i,acc,h,Yt,u,hi,hd,q,hf=>by
  rw[aA]at q;obtain⟨v,r,rfl,q1,q2⟩:=q;have hv:ws[i]?=some v:=by have:=aaS (λl=>l[0]?) hd;simpa using this
  have hr:ws.drop (i+1)=r:=by
   have:ws.drop (i+1)=(ws.drop i).drop 1:=by rw[List.drop_drop]
   rw[this,hd];rfl
  have ev:gf src f (v::r).length i acc h=bnd (f v) (λo=>gf src f r.length (i+1) (match o with|some e=>acc++[e]|none=>acc)) h:=by show gf src f (r.length+1) i acc h=_;simp only[gf];unfold bnd ask bH;dsimp only;rw[hi h (aaC _)];dsimp only;rw[hv];try rfl
  rw[ev,jt];refine ai (hf x v h (aaC _) q1) λo h1 o' p1 ho=>?_;have ih:=λacc'=>sP xs r (i+1) acc' h1 (Yt.trans p1) (u.ext p1) (λh' p=>hi h' (p1.trans p)) hr (q2.ext p1) λx v h' p=>hf x v h' (p1.trans p);cases o' with
  |some e'=>
   cases o with
   |none=>exact ho.elim
   |some e=>
    have ih:=ih (acc++[e']);cases e2:jt g xs with
    |ok p=>
     rw[e2]at ih;obtain⟨ys,h2,e3,p2,zs,rfl,z1,z2⟩:=ih;refine⟨_,h2,e3,p2,e'::zs,by simp,aA.cons (ho.1.ext p2) z1,λhp=>?_⟩;have Yu:e.1=true/\p.1=true:=by simpa using hp
     exact aA.cons ((ho.2 Yu.1).ext p2) (z2 Yu.2)
    |exc c es=>rw[e2]at ih;exact ih
    |no=>trivial
  |none=>
   cases o with
   |some e'=>exact ho.elim
   |none=>
    have ih:=ih acc;cases e2:jt g xs with
    |ok p=>rw[e2]at ih;obtain⟨ys,h2,e3,p2,zs,rfl,z1,z2⟩:=ih;exact⟨_,h2,e3,p2,zs,rfl,z1,z2⟩
    |exc c es=>rw[e2]at ih;exact ih
    |no=>trivial
theorem P5(hs:mJ Φ Ψ it)(hc:cA Φ Ψ c)(he:cA Φ Ψ elt):cA Φ Ψ (.comp N js pat k it c elt):=λah env A h u e=>by
 rw[aS,bq];refine ai (hs.2 ah env A h u e) λds h1 vs p1 q1=>ai (Cm q1) λxs h2 src p2 q2=>?_;obtain⟨ws,q3,q4⟩:=q2;have l:=q3.length;have ev:∀(F:List Val->M Val),bnd (ask λh=>src.items h) F h2=F ws h2:=λF=>by unfold bnd ask bH;dsimp only;rw[q4 h2 (aaC _)]
 rw[ev];refine cU (λz=>by rw[<-l];exact z) λ_=>?_;have u2:=(u.ext p1).ext p2;have e2:=(e.ext p1).ext p2;refine ai (sP (hb:=h) xs ws 0 [] h2 (p1.trans p2) u2 q4 rfl q3 λx v h' p' qx=>?_) λp h3 ys p3 hp=>?_
 ·refine ai (R:=λaR _ env'=>∃_:ER A aR env' h',True) (bK λaR ev'=>?_) λaR h4 env' p4 he'=>?_
  ·obtain⟨env',a1,a2⟩:=yR ev' qx (Co (e2.ext p')) (by simp[fW,kY]);exact⟨env',a1,a2,trivial⟩
  ·obtain⟨er,_⟩:=he'
   have er:=er.ext p4;have u4:=(u2.ext p').ext p4;have Pn:Rel A h4 (λt _ t'=>t'=t) ((if dU c=true then ret true else bnd (aS Φ c env') λv=>ask λh=>ck h v) h4) (if dU c=true then .ok true else pb (bq Ψ c aR) λv=>pl (ck [] v.2)):=by
    by_cases hn:dU c=true
    ·rw[aaj hn,aaj hn];exact aL rfl
    ·rw[aam hn,aam hn];exact ai (hc aR env' A h4 u4 er) λy h5 w p5 q5=>cy λt et=>⟨t,sL q5.br et,rfl⟩
   refine ai Pn λt h5 t' p5 et=>?_;subst et;cases t' with
   |true=>rw[aaj rfl,aaj rfl];exact ai (he aR env' A h5 (u4.ext p5) (er.ext p5)) λy h6 w p6 q6=>aL (q6.up ((p1.trans p2).trans (p'.trans (p4.trans p5))))
   |false=>rw[aam aac,aam aac];exact aL trivial
 ·obtain⟨zs,rfl,z1,z2⟩:=hp;exact jf (u2.ext p3) ((p1.trans p2).trans p3) z1 z2
mutual
noncomputable def dX:IE->Bool
 |.cst d=>ko d
 |.con _ d=>ko d
 |.bin _ a b=>dX a&&dX b
 |.neg a=>dX a
 |.cmp _ a b=>dX a&&dX b
 |.chn _ _ a b c=>dX a&&dX b&&dX c
 |.and a b=>dX a&&dX b
 |.or a b=>dX a&&dX b
 |.not a=>dX a
 |.ite a b c=>dX a&&dX b&&dX c
 |.tup es=>oq es
 |.lst es=>oq es
 |.idx a b=>dX a&&dX b
 |.slc a b c=>dX a&&dX b&&dX c
 |.call _ es=>oq es
 |.blt _ es=>oq es
 |.met _ a es=>dX a&&oq es
 |.comp _ _ _ _ es a b=>oq es&&dX a&&dX b
 |.var _=>true
 |.no=>true
 |.dct0=>true
 |.sset a=>dX a
 |.dget a b c=>dX a&&dX b&&dX c
 |.dct1 a b=>dX a&&dX b
 |.lkeys a=>dX a
 |.sdef ..=>false
 |.svals a=>dX a
 |.skeys a=>dX a
 |.fld _ a _=>dX a
 |.mth a _ _ es=>dX a&&oq es
 |.rev a b=>dX a&&dX b
 |.dflt _ _ _ _ a b=>dX a&&dX b
 |.isc a _ _=>dX a
noncomputable def oq:nM->Bool
 |.nil=>true
 |.cons e es=>dX e&&oq es
end
theorem v_all(hΦ:∀j,Imp (Φ j) (Ψ j)):(∀ir,dX ir=true->cA Φ Ψ ir)/\∀fh,oq fh=true->mJ Φ Ψ fh:=by
 have one:∀ir,dX ir=true->cA Φ Ψ ir:=by
  intro ir;refine IE.rec (motive_1:=λir=>dX ir=true->cA Φ Ψ ir) (motive_2:=λfh=>oq fh=true->mJ Φ Ψ fh) ?_ ?_ ?_ ?_ ?_ ?_ ?_ ?_ ?_ ?_ ?_ ?_ ?_ ?_ ?_ ?_ ?_ ?_ ?_ ?_ ?_ ?_ ?_ ?_ ?_ ?_ ?_ ?_ ?_ ?_ ?_ ?_ ?_ ?_ ?_ ir
  ·exact λ_ _=>v_var
  ·exact λ_ f=>TR f
  ·exact λ_ _ f=>TU f
  ·exact λ_=>Xf
  ·intro _ _ _ a b f;have f:=fZ f;exact TV (a f.1) (b f.2)
  ·intro _ a f;exact TX (a f)
  ·intro _ _ _ a b f;have f:=fZ f;exact TY (a f.1) (b f.2)
  ·intro _ _ _ _ _ a b c f;have f:=sO f;exact TZ (a f.1.1) (b f.1.2) (c f.2)
  ·intro _ _ a b f;have f:=fZ f;exact v_and (a f.1) (b f.2)
  ·intro _ _ a b f;have f:=fZ f;exact v_or (a f.1) (b f.2)
  ·intro _ a f;exact v_not (a f)
  ·intro _ _ _ a b c f;have f:=sO f;exact v_ite (a f.1.1) (b f.1.2) (c f.2)
  ·intro _ a f;exact T4 (a f)
  ·intro _ a f;exact T6 (a f)
  ·intro _ _ a b f;have f:=fZ f;exact T7 (a f.1) (b f.2)
  ·intro _ _ _ a b c f;have f:=sO f;exact T8 (a f.1.1) (b f.1.2) (c f.2)
  ·intro _ _ a f;exact P4 hΦ (a f)
  ·intro _ _ a f;exact Uc (a f)
  ·intro _ _ _ a b f;have f:=fZ f;exact Ud (a f.1) (b f.2)
  ·intro _ _ _ _ _ _ _ a b c f;have f:=sO f;exact P5 (a f.1.1) (b f.1.2) (c f.2)
  ·exact λ_=>PV
  ·intro _ a f;exact P1 (a f)
  ·intro _ _ _ a b c f;have f:=sO f;exact PY (a f.1.1) (b f.1.2) (c f.2)
  ·intro _ _ a b f;have f:=fZ f;exact PX (a f.1) (b f.2)
  ·intro _ a f;exact Ll (a f)
  ·intro _ _ _ _ _ _ f;exact nomatch (show false=true from f)
  ·intro _ _ f ah env A h u e;rw[bq];trivial
  ·intro _ a f;exact Lm (a f)
  ·intro _ _ _ a f;exact Ua (a f)
  ·intro _ _ _ _ a b f;have f:=fZ f;exact Ub hΦ (a f.1) (b f.2)
  ·intro _ _ a b f;have f:=fZ f;exact T9 (a f.1) (b f.2)
  ·intro _ _ _ _ _ _ a b f;have f:=fZ f;exact PZ (a f.1) (b f.2)
  ·intro _ _ _ a f;exact T5 (a f)
  ·exact λ_=>MQ
  ·intro _ _ a b f;have f:=fZ f;exact GO (a f.1) (b f.2)
 refine⟨one,λfh=>?_⟩
 induction fh using nM.rec (motive_1:=λ_=>True) with
 |nil=>exact λ_=>MQ
 |cons e es _ ih=>exact λf=>by have f:=fZ f;exact GO (one e f.1) (ih f.2)
 |_=>trivial
end
section
variable {A A':AP} {h h':Hs}
mutual
theorem Dn.move(hn:A none->A' none)(hh:∀(i:Nat) (o:Ob),A (some i)->h[i]?=some o->A' (some i)/\h'[i]?=some o):∀(d v:Val),Dn A h d v->Dn A' h' d v
 |.non,v,e=>by rw[Dn]at e |-;exact e
 |.bl _,v,e=>by rw[Dn]at e |-;exact e
 |.int _,v,e=>by rw[Dn]at e |-;exact e
 |.str _,v,e=>by rw[Dn]at e |-;exact e
 | .tup ds,v,e=>by
  rw[Dn]at e |-;obtain⟨vs,rfl,q⟩:=e;exact⟨vs,rfl,aA.move hn hh ds vs q⟩
 | .rl ds,v,e=>by
  rw[Dn]at e |-
  rcases e with ⟨vs,rfl,n,q⟩|⟨i,vs,rfl,a,g,q⟩
  ·exact .inl ⟨vs,rfl,hn n,aA.move hn hh ds vs q⟩
  ·exact .inr ⟨i,vs,rfl,(hh i _ a g).1,(hh i _ a g).2,aA.move hn hh ds vs q⟩
 | .dc ks ds,v,e=>by
  rw[Dn]at e |-;obtain⟨i,kvs,rfl,a,g,k,q⟩:=e;exact⟨i,kvs,rfl,(hh i _ a g).1,(hh i _ a g).2,k,aA.move hn hh ds _ q⟩
 | .clo d,v,e=>by
  rw[Dn]at e |-;obtain⟨w,rfl,q⟩:=e;exact⟨w,rfl,Dn.move hn hh d w q⟩
 | .ob c xs ds,v,e=>by
  rw[Dn]at e |-;obtain⟨i,kvs,rfl,a,g,k,q⟩:=e;exact⟨i,kvs,rfl,(hh i _ a g).1,(hh i _ a g).2,k,aA.move hn hh ds _ q⟩
 |.ref _,v,e=>by rw[Dn]at e;exact e.elim
theorem aA.move(hn:A none->A' none)(hh:∀(i:Nat) (o:Ob),A (some i)->h[i]?=some o->A' (some i)/\h'[i]?=some o):∀(ds vs:List Val),aA A h ds vs->aA A' h' ds vs
 |[],vs,e=>by rw[aA]at e |-;exact e
 | d::ds,vs,e=>by
  rw[aA]at e |-;obtain⟨v,r,rfl,q1,q2⟩:=e;exact⟨v,r,rfl,Dn.move hn hh d v q1,aA.move hn hh ds r q2⟩
end
end
def Al(A0:AP)(O:Nat->Option Nat):AP:=λo=>A0 o/\∀i,o.isSome=true->O i≠o
structure SR (A0:AP) (h0:Hs) (ah:aX) (env:Env) (h:Hs) (O:Nat->Option Nat):Prop where
 len:ah.length=env.length
 sh:∀(i:Nat) (m:Mk) (d:Val),ah[i]?=some (some (m,d))->iD m=true->∃v,env[i]?=some (some v)/\Dn (Al A0 O) h d v/\(Rz m=true->Dn (Al (Fr h0.length) O) h d v)
 ow:∀(i:Nat) (d:Val),ah[i]?=some (some (.ow,d))->∃a,env[i]?=some (some (.ref a))/\O i=some a/\OD (Al A0 O) h d a
 own:∀i a,O i=some a->h0.length<=a/\a<h.length/\∃d,ah[i]?=some (some (.ow,d))
 inj:∀i j a,O i=some a->O j=some a->i=j
 pre:h0<+:h
 up:Up A0 h0
structure Fm (m:List Nat) (ah:aX) (env:Env) (h:Hs) (O:Nat->Option Nat) (aR:aX) (env':Env) (h':Hs) (O':Nat->Option Nat):Prop where
 le:h.length<=h'.length
 keep:∀k,k<h.length->(∀i,O i≠some k)->h'[k]?=h[k]?/\∀i,O' i≠some k
 stay:∀i,i∉m->O' i=O i/\aR[i]?=ah[i]?/\env'[i]?=env[i]?/\∀a,O i=some a->h'[a]?=h[a]?
def RF(A0:AP)(h0:Hs)(m:List Nat)(ah:aX)(env:Env)(h:Hs)(O:Nat->Option Nat):zY->Hs->Fl->Prop
 |.nx aR,h',.nx env'=>∃O',SR A0 h0 aR env' h' O'/\Fm m ah env h O aR env' h' O'
 |.bk aR,h',.bk env'=>∃O',SR A0 h0 aR env' h' O'/\Fm m ah env h O aR env' h' O'
 |.ct aR,h',.ct env'=>∃O',SR A0 h0 aR env' h' O'/\Fm m ah env h O aR env' h' O'
 |.rt p,h',.rt v=>Dn A0 h' p.2 v/\(p.1=true->Dn (Fr h0.length) h' p.2 v)/\h0<+:h'
 |_,_,_=>False
def fV(A0:AP)(h0:Hs){α β:Type}(R:α -> Hs -> β -> Prop)(o:Out β):Pr α -> Prop
 |.ok f=>∃g h',o=.ok g h'/\R f h' g
 |.exc c es=>∃ws h',o=.exc c ws h'/\h0<+:h'/\aA A0 h' es ws
 |.no=>True
section
variable {A0:AP} {h0:Hs} {ah:aX} {env:Env} {h h1:Hs} {O:Nat->Option Nat} {m:List Nat}
theorem SR.er(s:SR A0 h0 ah env h O):ER (Al A0 O) ah env h:=λi f d e=>by
 cases f with
 |ow=>rw[aaj (show iD .ow=false by decide)];obtain⟨a,k2,_,k3⟩:=s.ow i d e;exact⟨a,k2,k3⟩
 |sh=>rw[aam (by decide)];obtain⟨v,k1,k2,_⟩:=s.sh i _ d e rfl;exact⟨v,k1,k2⟩
 |nw=>rw[aam (by decide)];obtain⟨v,k1,k2,_⟩:=s.sh i _ d e rfl;exact⟨v,k1,k2⟩
theorem SR.AX(s:SR A0 h0 ah env h O):Up (Al A0 O) h:=λk hk=>⟨s.up k (aaH s.pre.length_le hk),λi _ e=>by have:=(s.own i k e).2.1;omega⟩
theorem SR.ext(s:SR A0 h0 ah env h O)(p:h<+:h1):SR A0 h0 ah env h1 O where
 len:=s.len
 sh i m d e hm:=by obtain⟨v,k1,k2,k3⟩:=s.sh i m d e hm;exact⟨v,k1,k2.ext p,λz=>(k3 z).ext p⟩
 ow i d e:=by obtain⟨a,k2,k3,k4⟩:=s.ow i d e;exact⟨a,k2,k3,k4.ext p⟩
 own i a e:=by obtain⟨k1,k2,k3⟩:=s.own i a e;exact⟨k1,aaq k2 p.length_le,k3⟩
 inj:=s.inj
 pre:=s.pre.trans p
 up:=s.up
theorem dj(p:h<+:h1){k:Nat}(hk:k<h.length):h1[k]?=h[k]?:=by
 obtain⟨t,rfl⟩:=p;rw[aas hk]
theorem Fm.refl(s:SR A0 h0 ah env h O)(p:h<+:h1):Fm m ah env h O ah env h1 O where
 le:=p.length_le
 keep k hk n:=⟨dj p hk,n⟩
 stay i _:=⟨rfl,rfl,rfl,λa e=>dj p (s.own i a e).2.1⟩
theorem Fm.trans{ou p9:aX}{sQ nh:Env}{h2:Hs}{O1 O2:Nat->Option Nat}(a:Fm m ah env h O ou sQ h1 O1)(b:Fm m ou sQ h1 O1 p9 nh h2 O2):Fm m ah env h O p9 nh h2 O2 where
 le:=aaH a.le b.le
 keep k hk n:=by obtain⟨a1,a2⟩:=a.keep k hk n;obtain⟨b1,b2⟩:=b.keep k (aaq hk a.le) a2;exact⟨b1.trans a1,b2⟩
 stay i hi:=by obtain⟨a1,a2,a3,a4⟩:=a.stay i hi;obtain⟨b1,b2,b3,b4⟩:=b.stay i hi;exact⟨b1.trans a1,b2.trans a2,b3.trans a3,λc e=>(b4 c (a1.trans e)).trans (a4 c e)⟩
theorem Fm.fj{m':List Nat}(hm:∀i∈m,i∈m')(a:Fm m ah env h O aR env' h1 O'):Fm m' ah env h O aR env' h1 O':=⟨a.le,a.keep,λi hi=>a.stay i λz=>hi (hm i z)⟩
theorem RF.pre(s:SR A0 h0 ah env h O)(p:h<+:h1)(r:RF A0 h0 m ah env h1 O f h' g):RF A0 h0 m ah env h O f h' g:=by
 cases f<;>cases g<;>first|exact r.elim|exact r|(obtain⟨O',a,b⟩:=r;exact⟨O',a,(Fm.refl s p).trans b⟩)
theorem RF.fj{m':List Nat}(hm:∀i∈m,i∈m')(r:RF A0 h0 m ah env h O f h' g):RF A0 h0 m' ah env h O f h' g:=by
 cases f<;>cases g<;>first|exact r.elim|exact r|(obtain⟨O',a,b⟩:=r;exact⟨O',a,b.fj hm⟩)
theorem RF.seq{ou:aX}{sQ:Env}{O1:Nat->Option Nat}(a:Fm m ah env h O ou sQ h1 O1)(r:RF A0 h0 m ou sQ h1 O1 f h' g):RF A0 h0 m ah env h O f h' g:=by
 cases f<;>cases g<;>first|exact r.elim|exact r|(obtain⟨O',b,c⟩:=r;exact⟨O',b,a.trans c⟩)
theorem bS{α β γ δ:Type}{R:α -> Hs -> β -> Prop}{R':γ -> Hs -> δ -> Prop}{mm:M β}{f:β -> M δ}{p:Pr α}{F:α -> Pr γ}(s:SR A0 h0 ah env h O)(r:Rel (Al A0 O) h R (mm h) p)(k:∀a h1 b,h<+:h1->R a h1 b->fV A0 h0 R' (f b h1) (F a)):fV A0 h0 R' (bnd mm f h) (pb p F):=by
 unfold bnd;cases p with
 |ok a=>obtain⟨b,h1,e,q,r⟩:=r;rw[e];exact k a h1 b q r
 |exc c es=>obtain⟨ws,h1,e,q,r⟩:=r;rw[e];exact⟨ws,h1,rfl,s.pre.trans q,r.fj λ_ z=>z.1⟩
 |no=>trivial
theorem bz{α β:Type}{R:α -> Hs -> β -> Prop}{a:α}{b:β}(r:R a h b):fV A0 h0 R (ret b h) (.ok a):=⟨b,h,rfl,r⟩
theorem f9{α β:Type}{R R':α -> Hs -> β -> Prop}{o:Out β}{p:Pr α}(r:fV A0 h0 R o p)(k:∀a h' b,R a h' b->R' a h' b):fV A0 h0 R' o p:=by
 cases p with
 |ok a=>obtain⟨b,h',e,r⟩:=r;exact⟨b,h',e,k a h' b r⟩
 |exc c es=>exact r
 |no=>trivial
theorem oz{α β γ δ:Type}{R:α -> Hs -> β -> Prop}{R':γ -> Hs -> δ -> Prop}{mm:M β}{f:β -> M δ}{p:Pr α}{F:α -> Pr γ}(r:fV A0 h0 R (mm h) p)(k:∀a h1 b,R a h1 b->fV A0 h0 R' (f b h1) (F a)):fV A0 h0 R' (bnd mm f h) (pb p F):=by
 unfold bnd;cases p with
 |ok a=>obtain⟨b,h1,e,r⟩:=r;rw[e];exact k a h1 b r
 |exc c es=>obtain⟨ws,h1,e,q,r⟩:=r;rw[e];exact⟨ws,h1,rfl,q,r⟩
 |no=>trivial
theorem jg{α β:Type}{R:α -> Hs -> β -> Prop}{c:Bool}{o:Out β}{p:Pr α}(r:c=true->fV A0 h0 R o p):fV A0 h0 R o (pg c p):=by
 unfold pg;cases c with
 |true=>rw[aaj rfl];exact r rfl
 |false=>rw[aam aac];trivial
def gK(O:Nat->Option Nat)(i:Nat):Nat->Option Nat:=λj=>if j=i then none else O j
theorem oA:Al A0 O none->Al A0 O none:=id
theorem ly:Al A0 O none->Al A0 O' none:=λh=>⟨h.1,λ_ z=>by cases z⟩
theorem jX{i:Nat}:∀k,Al A0 O k->Al A0 (gK O i) k:=λk ⟨a,b⟩=>⟨a,λj z=>by unfold gK;split;(cases k<;>simp_all);exact b j z⟩
theorem SR.setM(s:SR A0 h0 ah env h O){i:Nat}{mk:Mk}{d v:Val}(hmk:iD mk=true)(q:Dn (Al A0 O) h d v)(qn:Rz mk=true->Dn (Al (Fr h0.length) O) h d v):SR A0 h0 (ah.set i (some (mk,d))) (env.set i (some v)) h (gK O i)/\Fm [i] ah env h O (ah.set i (some (mk,d))) (env.set i (some v)) h (gK O i):=by
 refine⟨⟨by simp[s.len],λj m' d' e hm'=>?_,λj d' e=>?_,λj a e=>?_,λj l a e1 e2=>?_,s.pre,s.up⟩,aao _,λk hk n=>⟨rfl,λj=>?_⟩,λj hj=>?_⟩
 ·by_cases hij:i=j
  ·subst hij
   have hi:i<ah.length:=by have:=(aag.mp e).1;simpa using this
   rw[aar hi]at e;cases e;exact⟨v,by rw[aar (by rw[<-s.len];exact hi)],q.fj jX,λz=>(qn z).fj jX⟩
  ·rw[aah hij]at e;rw[aah hij];obtain⟨w,k1,k2,k3⟩:=s.sh j m' d' e hm';exact⟨w,k1,k2.fj jX,λz=>(k3 z).fj jX⟩
 ·by_cases hij:i=j
  ·subst hij
   have hi:i<ah.length:=by have:=(aag.mp e).1;simpa using this
   rw[aar hi]at e;cases e;cases hmk
  ·rw[aah hij]at e;rw[aah hij];obtain⟨a,k2,k3,k4⟩:=s.ow j d' e;exact⟨a,k2,by unfold gK;rw[aam (λz=>hij z.symm)];exact k3,k4.mono (λ_ g=>g) λ_ _ z=>z.fj jX⟩
 ·unfold gK at e
  split at e
  ·cases e
  ·rename_i hj;obtain⟨k1,k2,d',k3⟩:=s.own j a e;exact⟨k1,k2,d',by rw[aah (λz=>hj z.symm)];exact k3⟩
 ·unfold gK at e1 e2
  split at e1
  ·cases e1
  ·split at e2
   ·cases e2
   ·exact s.inj j l a e1 e2
 ·unfold gK;split;simp;exact n j
 ·have hj':j≠i:=by simpa using hj
  exact⟨by unfold gK;rw[aam hj'],aah (λz=>hj' z.symm),aah (λz=>hj' z.symm),λ_ _=>rfl⟩
theorem SR.set(s:SR A0 h0 ah env h O){i:Nat}(q:Dn (Al A0 O) h d v):SR A0 h0 (ah.set i (some (.sh,d))) (env.set i (some v)) h (gK O i)/\Fm [i] ah env h O (ah.set i (some (.sh,d))) (env.set i (some v)) h (gK O i):=s.setM rfl q λz=>nomatch z
theorem SR.binds:∀{is:List Nat} {ds vs:List Val} {ah:aX} {env:Env} {O:Nat->Option Nat} {aR:aX},SR A0 h0 ah env h O->cP is ds ah=some aR->aA (Al A0 O) h ds vs ->
  ∃env' O',bindAll is vs env=some env'/\SR A0 h0 aR env' h O'/\Fm is ah env h O aR env' h O'
 | [],[],vs,ah,env,O,aR,s,e,q=>by
  rw[aA]at q;subst q;simp only[cP]at e;cases e;exact⟨env,O,rfl,s,Fm.refl s (aaC _)⟩
 | i::is,d::ds,vs,ah,env,O,aR,s,e,q=>by
  rw[aA]at q;obtain⟨v,r,rfl,q1,q2⟩:=q;simp only[cP]at e;obtain⟨s1,f1⟩:=s.set (i:=i) q1;obtain⟨env',O',b1,b2,b3⟩:=SR.binds s1 e (q2.fj jX);refine⟨env',O',by simp only[bindAll];exact b1,b2,(f1.fj λj hj=>?_).trans (b3.fj λj hj=>aak _ hj)⟩;rw[aat.mp hj];exact aal
 |[],_::_,_,_,_,_,_,_,e,_=>by simp[cP]at e
 |_::_,[],_,_,_,_,_,_,e,_=>by simp[cP]at e
theorem SR.bind(s:SR A0 h0 ah env h O)(e:bO p d ah=some aR)(q:Dn (Al A0 O) h d v):∃env' O',iA p v env=some env'/\SR A0 h0 aR env' h O'/\Fm (stored p) ah env h O aR env' h O':=by
 cases p with
 |one i=>simp only[bO]at e;cases e;obtain⟨s1,f1⟩:=s.set (i:=i) q;exact⟨_,_,rfl,s1,f1⟩
 |tup is=>
  cases d<;>simp only[bO]at e<;>first|(cases e;done)|skip
  rw[Dn]at q;obtain⟨vs,rfl,q⟩:=q;exact s.binds e q
theorem Lo{a:Nat}(p:h0<+:h)(ha:h0.length<=a):h0<+:h.set a o:=by
 obtain⟨t,rfl⟩:=p;rw[List.set_append_right _ _ ha];exact prefix_append _ _
theorem SR.put(s:SR A0 h0 ah env h O){i a:Nat}{d d1:Val}(e:ah[i]?=some (some (.ow,d)))(ha:O i=some a)(q:OB (Al A0 O) h d1 ob) :
  SR A0 h0 (ah.set i (some (.ow,d1))) env (h.set a ob) O/\Fm [i] ah env h O (ah.set i (some (.ow,d1))) env (h.set a ob) O:=by
 obtain⟨o1,o2,_⟩:=s.own i a ha;have hi:i<ah.length:=(aag.mp e).1;have mv:∀{A0:AP} (k:Nat) (o:Ob),Al A0 O k->h[k]?=some o->Al A0 O k/\(h.set a ob)[k]?=some o:=λk o hk g=>⟨hk,by rw[aah λz=>hk.2 i rfl (by rw[<-z];exact ha)];exact g⟩;obtain⟨a0,e2,e3,_⟩:=s.ow i d e;refine⟨⟨by simp[s.len],λj m' d' ej hm'=>?_,λj d' ej=>?_,λj b ej=>?_,s.inj,Lo s.pre o1,s.up⟩,by simp,λk hk n=>⟨?_,n⟩,λj hj=>?_⟩
 ·by_cases hij:i=j
  ·subst hij;rw[aar hi]at ej;cases ej;cases hm'
  ·rw[aah hij]at ej;obtain⟨w,k1,k2,k3⟩:=s.sh j m' d' ej hm';exact⟨w,k1,Dn.move oA mv _ _ k2,λz=>Dn.move oA mv _ _ (k3 z)⟩
 ·by_cases hij:i=j
  ·subst hij;rw[aar hi]at ej;cases ej;rw[ha]at e3;cases e3;exact⟨a,e2,ha,q.od (by rw[aar o2]) λ_ _ z=>aA.move oA mv _ _ z⟩
  ·rw[aah hij]at ej;obtain⟨a1,k2,k3,k4⟩:=s.ow j d' ej;have:a≠a1:=λz=>hij (s.inj i j a ha (by rw[z];exact k3));exact⟨a1,k2,k3,k4.mono (λ_ g=>by rw[aah this];exact g) λ_ _ z=>aA.move oA mv _ _ z⟩
 ·obtain⟨k1,k2,d',k3⟩:=s.own j b ej
  refine⟨k1,by simp[k2],?_⟩
  by_cases hij:i=j
  ·subst hij;exact⟨_,by rw[aar hi]⟩
  ·exact⟨d',by rw[aah hij];exact k3⟩
 ·rw[aah λz=>n i (by rw[<-z];exact ha)]
 ·have hj':j≠i:=by simpa using hj
  exact⟨rfl,aah (λz=>hj' z.symm),rfl,λb eb=>by rw[aah λz=>hj' (s.inj j i b eb (by rw[<-z];exact ha))]⟩
def uf(O:Nat->Option Nat)(i a:Nat):Nat->Option Nat:=λj=>if j=i then some a else O j
theorem SR.fresh(s:SR A0 h0 ah env h O){i:Nat}{d1:Val}{h2:Hs}(p:h<+:h2)(q:OB (Al A0 O) h2 d1 ob) :
  SR A0 h0 (ah.set i (some (.ow,d1))) (env.set i (some (.ref h2.length))) (h2++[ob]) (if i<ah.length then uf O i h2.length else gK O i) /\
   Fm [i] ah env h O (ah.set i (some (.ow,d1))) (env.set i (some (.ref h2.length))) (h2++[ob]) (if i<ah.length then uf O i h2.length else gK O i):=by
 have pp:h<+:h2++[ob]:=p.trans (prefix_append _ _);have s2:=s.ext p;have mv:∀{A0:AP} (j:Nat),∀(k:Nat) (o:Ob),Al A0 O k->h2[k]?=some o->Al A0 (if i<ah.length then uf O i h2.length else gK O i) k/\(h2++[ob])[k]?=some o:=λ{A0} j k o hk g=>by
  have hlt:k<h2.length:=(aag.mp g).1;refine⟨?_,by rw[aas hlt];exact g⟩
  split
  ·refine⟨hk.1,λl _=>?_⟩
   unfold uf
   split
   ·intro z;cases z;omega
   ·exact hk.2 l rfl
  ·exact jX k hk
 by_cases hi:i<ah.length
 ·rw[aaj hi]at mv |-
  refine⟨⟨by simp[s.len],λj m' d' ej hm'=>?_,λj d' ej=>?_,λj b ej=>?_,λj l b e1 e2=>?_,s.pre.trans pp,s.up⟩,pp.length_le,λk hk n=>⟨dj pp hk,λl=>?_⟩,λj hj=>?_⟩
  ·by_cases hij:i=j
   ·subst hij;rw[aar hi]at ej;cases ej;cases hm'
   ·rw[aah hij]at ej;rw[aah hij];obtain⟨w,k1,k2,k3⟩:=s2.sh j m' d' ej hm';exact⟨w,k1,Dn.move ly (mv 0) _ _ k2,λz=>Dn.move ly (mv 0) _ _ (k3 z)⟩
  ·by_cases hij:i=j
   ·subst hij;rw[aar hi]at ej;cases ej;exact⟨h2.length,by rw[aar (by rw[<-s.len];exact hi)],by unfold uf;rw[aaj rfl],q.od (by simp) λ_ _ z=>aA.move ly (mv 0) _ _ z⟩
   ·rw[aah hij]at ej;rw[aah hij];obtain⟨a1,k2,k3,k4⟩:=s2.ow j d' ej;have hlt:a1<h2.length:=k4.lt;exact⟨a1,k2,by unfold uf;rw[aam λz=>hij z.symm];exact k3,k4.mono (λ_ g=>by rw[aas hlt];exact g) λ_ _ z=>aA.move ly (mv 0) _ _ z⟩
  ·unfold uf at ej
   split at ej
   ·rename_i hj;cases ej;subst hj;exact⟨aaH s.pre.length_le p.length_le,by simp,_,by rw[aar hi]⟩
   ·rename_i hj;obtain⟨k1,k2,d',k3⟩:=s2.own j b ej;exact⟨k1,by simp;omega,d',by rw[aah λz=>hj z.symm];exact k3⟩
  ·unfold uf at e1 e2
   split at e1
   ·rename_i h1;cases e1
    split at e2
    ·rename_i h3;rw[h1,h3]
    ·have:=(s2.own l _ e2).2.1;omega
   ·split at e2
    ·cases e2;have:=(s2.own j _ e1).2.1;omega
    ·exact s.inj j l b e1 e2
  ·unfold uf;split
   ·intro z;cases z;have:=p.length_le;omega
   ·exact n l
  ·have hj':j≠i:=by simpa using hj
   exact⟨by unfold uf;rw[aam hj'],aah (λz=>hj' z.symm),aah (λz=>hj' z.symm),λb eb=>dj pp (s.own j b eb).2.1⟩
 ·rw[aam hi]at mv |-
  have e1:ah.set i (some (.ow,d1))=ah:=List.set_eq_of_length_le (by omega);have e2:env.set i (some (.ref h2.length))=env:=List.set_eq_of_length_le (by rw[<-s.len];omega);have e3:gK O i=O:=by
   funext j;unfold gK;split
   ·rename_i hj;subst hj
    cases e:O j with
    |none=>rfl
    |some a=>obtain⟨_,_,d,k⟩:=s.own j a e;exact absurd (aag.mp k).1 hi
   ·rfl
  rw[e1,e2,e3];exact⟨s.ext pp,Fm.refl s pp⟩
end
section
variable {Φ:Nat->List Val->M Val} {Ψ:Nat->List Val->Pr FV} {A:AP} {h h1:Hs}
def isRef:Val->Bool
 |.rl _=>true
 |.dc _ _=>true
 |_=>false
def RN(A:AP)(h:Hs):FV->Hs->Val->Prop:=λx h' v=>isRef x.2=true->∃h2 o,h'=h2++[o]/\v=.ref h2.length/\h<+:h2/\OB A h2 x.2 o
def MR(Φ:Nat->List Val->M Val)(Ψ:Nat->List Val->Pr FV)(ir:IE):Prop:=∀(ah:aX) (env:Env) (A:AP) (h:Hs),Up A h->ER A ah env h->Rel A h (RN A h) (aS Φ ir env h) (bq Ψ ir ah)
theorem lA{f:Bool}{h0:Hs}(p:h0<+:h)(q:aA A h xs vs):Rel A h (RN A h0) (new (.lst vs) h) (.ok (f,.rl xs)) :=
 ⟨_,_,rfl,dW _,λ_=>⟨h,.lst vs,rfl,rfl,p,vs,rfl,q⟩⟩
theorem P6:MR Φ Ψ .dct0:=λah env A h u e=>by
 rw[aS,bq];exact⟨_,_,rfl,dW _,λ_=>⟨h,.dct [],rfl,rfl,aaC _,[],rfl,rfl,aA.nil⟩⟩
theorem P7(hk:cA Φ Ψ k)(hv:cA Φ Ψ v):MR Φ Ψ (.dct1 k v):=λah env A h u e=>by
 rw[aS,bq];refine ai (hk ah env A h u e) λx h1 w p1 q1=>ai (R:=λkk _ kk'=>kk'=kk) (bK λkk ek=>⟨kk,AW q1.1 ek,rfl⟩) λkk h2 kk' p2 hkk=>?_;subst hkk;refine ai (hv ah env A h2 ((u.ext p1).ext p2) ((e.ext p1).ext p2)) λy h3 z p3 q3=>?_;exact⟨_,_,rfl,dW _,λ_=>⟨h3,.dct [(kk',z)],rfl,rfl,(p1.trans p2).trans p3,[(kk',z)],rfl,rfl,aA.cons q3.1 aA.nil⟩⟩
theorem Ue(hs:mJ Φ Ψ es):MR Φ Ψ (.lst es):=λah env A h u e=>by
 rw[aS,bq];exact ai (hs.1 ah env A h u e) λx h1 vs p1 q1=>cU (λz=>by rw[<-q1.1.length];exact z) λ_=>lA p1 q1.1
theorem Ug(ha:cA Φ Ψ a)(hl:cA Φ Ψ lo)(hh:cA Φ Ψ hi):MR Φ Ψ (.slc a lo hi):=λah env A h u e=>by
 rw[aS,bq];refine ai (nj ha u e) λx h1 v p1 q1=>ai (om hl (u.ext p1) (e.ext p1)) λl h2 l' p2 el=>ai (om hh ((u.ext p1).ext p2) ((e.ext p1).ext p2)) λr h3 r' p3 er=>?_;subst el;subst er;have q1:=DB.ext (p2.trans p3) q1;obtain⟨f,d⟩:=x;cases d with
 |tup ds=>obtain⟨vs,rfl,q⟩:=DB.tup q1;have l:=q.length;simp only[DP,ud];exact cU (λz=>by rw[l]at z;exact z) λ_=>aL λe=>by cases e
 |rl ds=>
  obtain⟨vs,e1,q⟩:=DB.lst q1;have ev:ud v l' r' h3=new (.lst (bX vs l' r')) h3:=by
   have:ud v l' r'=bnd (ask λh=>aJ h v) λxs=>new (.lst (bX xs l' r')):=by cases v<;>simp only[aJ]at e1<;>first|(cases e1;done)|rfl
   rw[this];unfold bnd ask bH;dsimp only;rw[e1]
  rw[ev];exact lA ((p1.trans p2).trans p3) (q.cut l' r')
 |_=>trivial
theorem P8(hs:mJ Φ Ψ es):MR Φ Ψ (.blt .list es):=λah env A h u e=>by
 rw[aS,bq];refine ai (hs.2 ah env A h u e) λds h1 vs p1 q1=>?_
 match ds,q1 with
 |[],q1=>trivial
 |[d],q1=>obtain⟨v,rfl,hv⟩:=q1.one;exact ai (R:=λxs h' ws=>aA A h' xs ws) (cy λxs e=>hv.seq e) λxs h2 ws p2 q=>lA (p1.trans p2) q
 |_::_::_,_=>trivial
theorem GP(hs:mJ Φ Ψ es):MR Φ Ψ (.blt .sorted es):=λah env A h u e=>by
 rw[aS,bq];refine ai (hs.2 ah env A h u e) λds h1 vs p1 q1=>?_
 match ds,q1 with
 |[],q1=>trivial
 |[d],q1=>
  obtain⟨v,rfl,hv⟩:=q1.one;cases d<;>first|trivial|skip
  rename_i xs;obtain⟨ws,e1,q⟩:=hv.lst;have ev:bnd (ask λh=>aJ h v) (λxs=>bnd (bH (iz xs)) λys=>new (.lst ys)) h1=bnd (bH (iz ws)) (λys=>new (.lst ys)) h1:=by unfold bnd ask bH;dsimp only;rw[e1]
  show Rel A h1 (RN A h) (bnd (ask λh=>aJ h v) (λxs=>bnd (bH (iz xs)) λys=>new (.lst ys)) h1) _;rw[ev];refine ai (R:=λys _ zs=>zs=ys/\bM ys=true) (bK λys e=>?_) λys h2 zs p2 hz=>?_
  ·obtain⟨i1,i2⟩:=ve e;rw[(bN xs ws i1).mp q];exact⟨ys,e,rfl,i2⟩
  ·obtain⟨rfl,hi⟩:=hz;exact lA (p1.trans p2) ((bN _ _ hi).mpr rfl)
 |x::_::_,_=>cases x<;>trivial
theorem P9(hs:mJ Φ Ψ it)(hc:cA Φ Ψ c)(he:cA Φ Ψ elt):MR Φ Ψ (.comp N js pat k it c elt):=λah env A h u e=>by
 rw[aS,bq];refine ai (hs.2 ah env A h u e) λds h1 vs p1 q1=>ai (Cm q1) λxs h2 src p2 q2=>?_;obtain⟨ws,q3,q4⟩:=q2;have l:=q3.length;have ev:∀(F:List Val->M Val),bnd (ask λh=>src.items h) F h2=F ws h2:=λF=>by unfold bnd ask bH;dsimp only;rw[q4 h2 (aaC _)]
 rw[ev];refine cU (λz=>by rw[<-l];exact z) λ_=>?_;have u2:=(u.ext p1).ext p2;have e2:=(e.ext p1).ext p2;refine ai (sP (hb:=h) xs ws 0 [] h2 (p1.trans p2) u2 q4 rfl q3 λx v h' p' qx=>?_) λp h3 ys p3 hp=>?_
 ·refine ai (R:=λaR _ env'=>∃_:ER A aR env' h',True) (bK λaR ev'=>?_) λaR h4 env' p4 he'=>?_
  ·obtain⟨env',a1,a2⟩:=yR ev' qx (Co (e2.ext p')) (by simp[fW,kY]);exact⟨env',a1,a2,trivial⟩
  ·obtain⟨er,_⟩:=he'
   have er:=er.ext p4;have u4:=(u2.ext p').ext p4;have Pn:Rel A h4 (λt _ t'=>t'=t) ((if dU c=true then ret true else bnd (aS Φ c env') λv=>ask λh=>ck h v) h4) (if dU c=true then .ok true else pb (bq Ψ c aR) λv=>pl (ck [] v.2)):=by
    by_cases hn:dU c=true
    ·rw[aaj hn,aaj hn];exact aL rfl
    ·rw[aam hn,aam hn];exact ai (hc aR env' A h4 u4 er) λy h5 w p5 q5=>cy λt et=>⟨t,sL q5.br et,rfl⟩
   refine ai Pn λt h5 t' p5 et=>?_;subst et;cases t' with
   |true=>rw[aaj rfl,aaj rfl];exact ai (he aR env' A h5 (u4.ext p5) (er.ext p5)) λy h6 w p6 q6=>aL (q6.up ((p1.trans p2).trans (p'.trans (p4.trans p5))))
   |false=>rw[aam aac,aam aac];exact aL trivial
 ·obtain⟨zs,rfl,z1,z2⟩:=hp;exact lA ((p1.trans p2).trans p3) z1
theorem Uh(hΦ:∀j,Imp (Φ j) (Ψ j))(hf:Xc e=true)(ho:dX e=true):MR Φ Ψ e:=by
 have V:=v_all hΦ;cases e<;>first|(cases hf;done)|skip
 ·exact Ue (V.2 _ ho)
 ·have ho:=sO ho;exact Ug (V.1 _ ho.1.1) (V.1 _ ho.1.2) (V.1 _ ho.2)
 ·rename_i b es
  change oq _=true at ho;cases b<;>first|(cases hf;done)|skip
  ·exact GP (V.2 _ ho)
  ·exact P8 (V.2 _ ho)
 ·have ho:=sO ho;exact P9 (V.2 _ ho.1.1) (V.1 _ ho.1.2) (V.1 _ ho.2)
 ·exact P6
 ·have ho:=fZ ho;exact P7 (V.1 _ ho.1) (V.1 _ ho.2)
mutual
noncomputable def Yv:IS->Bool
 |.expr e=>dX e
 |.asg _ e=>dX e
 |.aug _ _ e=>dX e
 |.jV o i v=>dX o&&dX i&&dX v
 |.iff c a b=>dX c&&wO a&&wO b
 |.for _ _ it b=>oq it&&wO b
 |.whl _ c b=>dX c&&wO b
 |.ret e=>dX e
 |_=>true
noncomputable def wO:bQ->Bool
 |.nil=>true
 |.cons s r=>Yv s&&wO r
end
def mS(s:IS):List Nat:=wH s++qF s
def Lp(s:bQ):List Nat:=jv s++mU s
variable {ms:List Nat}
def AY(Φ:Nat->List Val->M Val)(Ψ:Nat->List Val->Pr FV)(ms:List Nat)(s:IS):Prop:=∀(A0:AP) (h0:Hs) (ah:aX) (env:Env) (h:Hs) (O:Nat->Option Nat),SR A0 h0 ah env h O->fV A0 h0 (RF A0 h0 (mS s) ah env h O) (dB Φ s env h) (aZ Ψ ms s ah)
def ug(Φ:Nat->List Val->M Val)(Ψ:Nat->List Val->Pr FV)(ms:List Nat)(s:bQ):Prop:=∀(A0:AP) (h0:Hs) (ah:aX) (env:Env) (h:Hs) (O:Nat->Option Nat),SR A0 h0 ah env h O->fV A0 h0 (RF A0 h0 (Lp s) ah env h O) (fy Φ s env h) (ay Ψ ms s ah)
theorem GQ(he:cA Φ Ψ e)(hx:∀ah,aZ Ψ ms (.expr e) ah=pb (bq Ψ e ah) λ_=>.ok (.nx ah)):AY Φ Ψ ms (.expr e):=λA0 h0 ah env h O s=>by
 rw[dB,hx];exact bS s (he ah env _ h s.AX s.er) λx h1 v p1 q1=>bz ⟨O,s.ext p1,Fm.refl s p1⟩
theorem aG{α β γ:Type}(m:M α)(f:α -> M β)(g:β -> M γ):bnd (bnd m f) g=bnd m λx=>bnd (f x) g:=by
 funext h;show (match (match m h with|.ok a h'=>f a h'|.exc c vs h'=>.exc c vs h'|.no=>.no) with|.ok a h'=>g a h'|.exc c vs h'=>.exc c vs h'|.no=>.no)=(match m h with|.ok a h'=>bnd (f a) g h'|.exc c vs h'=>.exc c vs h'|.no=>.no);cases m h<;>rfl
theorem aB{α β:Type}{m:M α}{f:α -> M β}{a:α}{h h1:Hs}(e:m h=.ok a h1):bnd m f h=f a h1:=by unfold bnd;rw[e]
theorem cG{i:Nat}(e:env[i]?=some (some v)):aS Φ (.var i) env h=.ok v h:=by rw[aS,e];rfl
theorem Qa(h:AV a=some y):a=.met .pop (.var y.1) #[y.2]:=by
 unfold AV at h;split at h
 ·split at h
  ·cases h;rfl
  ·cases h
 ·cases h
theorem MS{i:Nat}(h:RA env i=some ds):env[i]?=some (some (.ow,.rl ds)):=by
 unfold RA at h;split at h
 ·rename_i e;cases h;exact e
 ·cases h
theorem aA.era:∀(k:Nat) {ds vs:List Val},aA A h ds vs->aA A h (ds.eraseIdx k) (vs.eraseIdx k)
 |_,[],vs,q=>by rw[aA]at q;subst q;exact aA.nil
 |0,d::ds,vs,q=>by rw[aA]at q;obtain⟨v,r,rfl,_,q⟩:=q;exact q
 |k+1,d::ds,vs,q=>by rw[aA]at q;obtain⟨v,r,rfl,q0,q⟩:=q;exact aA.cons q0 (aA.era k q)
theorem Cp{α:Type}{R:Pr α -> Prop}{β:Type}{o:Option β}{f:β -> Pr α}(hn:R .no)(hs:∀a,o=some a->R (f a)):R (pb (pl o) f):=by
 cases o with
 |none=>exact hn
 |some a=>exact hs a rfl
theorem Lq{i j:Nat}(he:cA Φ Ψ e):AY Φ Ψ ms (.expr (.met .append (.var i) #[.met .pop (.var j) #[e]])):=λA0 h0 ah env h O s=>by
 rw[dB,aZ];try dsimp only
 change fV A0 h0 _ _ (yM Ψ i (j,e) ah);unfold yM;refine Cp (R:=fV A0 h0 _ _) trivial λds hi=>Cp (R:=fV A0 h0 _ _) trivial λxs hj=>?_;have hi:=MS hi;have hj:=MS hj;obtain⟨b,e2,e3,vs,e4,e5⟩:=s.ow i _ hi;obtain⟨c,k2,k3,ys,k4,k5⟩:=s.ow j _ hj;have ev:bnd (aS Φ (.met .append (.var i) #[.met .pop (.var j) #[e]]) env) (λ_=>ret (Fl.nx env)) h=bnd (aS Φ e env) (λz=>bnd (met .pop (.ref c) [z]) λw=>bnd (met .append (.ref b) [w]) λ_=>ret (Fl.nx env)) h:=by
  rw[aS,aG,aB (cG e2)];rw[aG,aB (a:=()) (h1:=h) (by unfold ask bH;simp[recv,e4])];rw[aG,bC,aG,aS,aG,aB (cG k2)];rw[aG,aB (a:=()) (h1:=h) (by unfold ask bH;simp[recv,k4])];rw[aG,bC,bC,aG]
  congr 1
 rw[ev];refine bS s (he ah env _ h s.AX s.er) λz h1 v p1 q1=>Cp (R:=fV A0 h0 _ _) trivial λk hk=>jg λhg=>Cp (R:=fV A0 h0 _ _) trivial λd hx=>?_;obtain⟨g1,g2,g3,g4⟩:=aay hg;have hz:z.2=.int k:=by revert hk;cases z.2<;>intro hk<;>first|(cases hk;rfl)|cases hk
 have q1:=q1.1;rw[hz,Dn]at q1;subst q1;have s1:=s.ext p1;obtain⟨w,hw,qw⟩:=(k5.ext p1).get hx;have m4:=cV p1 k4;obtain⟨s2,f2⟩:=s1.put (d1:=.rl (xs.eraseIdx k.toNat)) (ob:=.lst (ys.eraseIdx k.toNat)) hj k3 ⟨_,rfl,(k5.ext p1).era _⟩;have hi':(ah.set j (some (.ow,.rl (xs.eraseIdx k.toNat))))[i]?=some (some (.ow,.rl ds)):=by rw[aah (Ne.symm g3)];exact hi
 obtain⟨b',Dh,e3',vs',e4',e5'⟩:=s2.ow i _ hi';rw[e2] at Dh;cases Dh;have qw2:Dn (Al A0 O) (h1.set c (.lst (ys.eraseIdx k.toNat))) d w:=Dn.move oA (λm o a g=>⟨a,by rw[aah λz=>a.2 j rfl (by rw[<-z];exact k3)];exact g⟩) _ _ qw;obtain⟨s3,f3⟩:=s2.put (d1:=.rl (ds++[d])) (ob:=.lst (vs'++[w])) hi' e3' ⟨_,rfl,e5'.append (aA.cons qw2 aA.nil)⟩;have l:=e5'.length;refine⟨.nx env,_,?_,O,s3,(Fm.refl s p1).trans ((f2.fj λx hx=>?_).trans (f3.fj λx hx=>?_))⟩
 ·rw[aB (a:=w) (h1:=h1.set c (.lst (ys.eraseIdx k.toNat)))]
  ·unfold met bnd ask bH aQ put ret;dsimp only;rw[e4'];dsimp only;rw[aaj (decide_eq_true (by omega))]
  ·unfold met bnd ask bH aQ put ret;dsimp only;rw[m4];dsimp only;rw[aaj (decide_eq_true ⟨g1,g2⟩),hw]
 ·rw[aat.mp hx];exact aaQ _ (aak _ aal)
 ·rw[aat.mp hx];exact aaQ _ aal
theorem DT{i:Nat}(ha:cA Φ Ψ a)(hp:AV a=none):AY Φ Ψ ms (.expr (.met .append (.var i) #[a])):=λA0 h0 ah env h O s=>by
 rw[dB,aZ];try dsimp only
 rw[hp];try dsimp only
 split
 ·rename_i ds hv
  obtain⟨b,e2,e3,vs,e4,e5⟩:=s.ow i _ hv;have ev:bnd (aS Φ (.met .append (.var i) #[a]) env) (λ_=>ret (Fl.nx env)) h=bnd (aS Φ a env) (λv=>bnd (met .append (.ref b) [v]) λ_=>ret (Fl.nx env)) h:=by
   rw[aS,aG,aB (cG e2)];rw[aG,aB (a:=()) (h1:=h) (by unfold ask bH;simp[recv,e4])];rw[aG,bC,aG]
   congr 1
  rw[ev];refine bS s (ha ah env _ h s.AX s.er) λx h1 v p1 q1=>jg λhg=>?_;have s1:=s.ext p1;obtain⟨s2,f2⟩:=s1.put (d1:=.rl (ds++[x.2])) (ob:=.lst (vs++[v])) hv e3 ⟨_,rfl,(e5.ext p1).append (aA.cons q1.1 aA.nil)⟩;have l:=e5.length;refine⟨.nx env,h1.set b (.lst (vs++[v])),?_,O,s2,(Fm.refl s p1).trans (f2.fj λj hj=>?_)⟩
  ·have g:=cV p1 e4;unfold met bnd ask bH aQ put ret;dsimp only;rw[g];dsimp only;rw[aaj (by rw[<-l];exact hg)]
  ·rw[aat.mp hj];exact aaQ _ aal
 ·trivial
theorem DU{i:Nat}(ha:cA Φ Ψ a):AY Φ Ψ ms (.expr (.met .extend (.var i) #[a])):=λA0 h0 ah env h O s=>by
 rw[dB,aZ];try dsimp only
 split
 ·rename_i ds hv
  obtain⟨b,e2,e3,vs,e4,e5⟩:=s.ow i _ hv;have ev:bnd (aS Φ (.met .extend (.var i) #[a]) env) (λ_=>ret (Fl.nx env)) h=bnd (aS Φ a env) (λv=>bnd (met .extend (.ref b) [v]) λ_=>ret (Fl.nx env)) h:=by
   rw[aS,aG,aB (cG e2)];rw[aG,aB (a:=()) (h1:=h) (by unfold ask bH;simp[recv,e4])];rw[aG,bC,aG]
   congr 1
  rw[ev];refine bS s (ha ah env _ h s.AX s.er) λx h1 v p1 q1=>?_;obtain⟨f,d⟩:=x;cases d<;>first|trivial|skip
  rename_i ts;have q:=q1.1;dsimp only at q;rw[Dn]at q;obtain⟨ws,rfl,q⟩:=q;refine jg λhg=>?_;have s1:=s.ext p1;obtain⟨s2,f2⟩:=s1.put (d1:=.rl (ds++ts)) (ob:=.lst (vs++ws)) hv e3 ⟨_,rfl,(e5.ext p1).append q⟩;have l:=e5.length;have l2:=q.length;refine⟨.nx env,h1.set b (.lst (vs++ws)),?_,O,s2,(Fm.refl s p1).trans (f2.fj λj hj=>?_)⟩
  ·have g:=cV p1 e4;unfold met bnd ask bH aQ put ret BP;dsimp only;rw[g];dsimp only;rw[aaj (by rw[<-l,<-l2];exact hg)]
  ·rw[aat.mp hj];exact aaQ _ aal
 ·trivial
theorem Lr(hΦ:∀j,Imp (Φ j) (Ψ j))(ho:dX e=true):AY Φ Ψ ms (.expr e):=by
 have V:=v_all hΦ;have gen:(∀ah,aZ Ψ ms (.expr e) ah=pb (bq Ψ e ah) λ_=>.ok (.nx ah))->AY Φ Ψ ms (.expr e):=λhx=>GQ (V.1 e ho) hx;cases e with
 |met m a es=>
  cases m with
  |join=>exact gen λah=>by first|rfl|(rw[aZ]<;>(intros;simp_all))
  |append=>
   cases a with
   |var i=>
    cases es with
    |nil=>exact gen λah=>by first|rfl|(rw[aZ]<;>(intros;simp_all))
    |cons x r=>
     cases r with
     |nil=>
      have hx:=(fZ (fZ ho).2).1;cases hp:AV x with
      |none=>exact DT (V.1 x hx) hp
      |some y=>have ex:=Qa hp;obtain⟨j,e⟩:=y;subst ex;exact Lq (V.1 e (fZ (fZ hx).2).1)
     |cons _ _=>exact gen λah=>by first|rfl|(rw[aZ]<;>(intros;simp_all))
   |_=>exact gen λah=>by first|rfl|(rw[aZ]<;>(intros;simp_all))
  |extend=>
   cases a with
   |var i=>
    cases es with
    |nil=>exact gen λah=>by first|rfl|(rw[aZ]<;>(intros;simp_all))
    |cons x r=>
     cases r with
     |nil=>exact DU (V.1 x (fZ (fZ ho).2).1)
     |cons _ _=>exact gen λah=>by first|rfl|(rw[aZ]<;>(intros;simp_all))
   |_=>exact gen λah=>by first|rfl|(rw[aZ]<;>(intros;simp_all))
  |pop=>exact gen λah=>by first|rfl|(rw[aZ]<;>(intros;simp_all))
 |_=>exact gen λah=>by first|rfl|(rw[aZ]<;>(intros;simp_all))
end
section
variable {Φ:Nat->List Val->M Val} {Ψ:Nat->List Val->Pr FV} {ms:List Nat}
theorem Ls{i:Nat}{l:List Nat}(h:i∈l):∀j∈[i],j∈l:=λj hj=>by rw[aat.mp hj];exact h
theorem Qc(hΦ:∀j,Imp (Φ j) (Ψ j))(ho:dX e=true):AY Φ Ψ ms (.asg p e):=λA0 h0 ah env h O s=>by
 have V:=(v_all hΦ).1 e ho;cases p with
 |one i=>
  rw[dB,aZ];try dsimp only
  split
  ·refine jg λhf=>?_
   refine bS s (Uh hΦ hf ho ah env _ h s.AX s.er) λx h1 v p1 q1=>?_;obtain⟨f,d⟩:=x;cases d<;>first|trivial|skip
   ·obtain⟨h2,vs,rfl,rfl,p2,q2⟩:=q1 rfl;obtain⟨s2,f2⟩:=s.fresh (i:=i) p2 q2;exact⟨_,_,rfl,_,s2,f2.fj (Ls (by simp[mS,qF,stored]))⟩
   ·obtain⟨h2,vs,rfl,rfl,p2,q2⟩:=q1 rfl;obtain⟨s2,f2⟩:=s.fresh (i:=i) p2 q2;exact⟨_,_,rfl,_,s2,f2.fj (Ls (by simp[mS,qF,stored]))⟩
  ·refine bS s (V ah env _ h s.AX s.er) λx h1 v p1 q1=>?_
   have hnw:Rz (bI x.1 x.2)=true->Dn (Al (Fr h0.length) O) h1 x.2 v:=λz=>by
    have hx:x.1=true:=by
     unfold bI at z;split at z
     ·rename_i hh;simp only[and_eq_true]at hh;exact hh.1
     ·cases z
    refine(q1.2 hx).fj λo ho=>?_;cases o with
    |none=>exact ho.elim
    |some k=>exact⟨aaH s.pre.length_le ho,λj _ e=>by have:=(s.own j k e).2.1;have ho':h.length<=k:=ho;omega⟩
   have hrd:iD (bI x.1 x.2)=true:=by unfold bI;split<;>rfl
   obtain⟨s2,f2⟩:=(s.ext p1).setM (i:=i) hrd q1.1 hnw;exact⟨_,_,rfl,_,s2,(Fm.refl s p1).trans (f2.fj (Ls (by simp[mS,qF,stored])))⟩
 |tup is=>
  rw[dB,aZ];try dsimp only
  refine jg λhf=>bS s (V ah env _ h s.AX s.er) λx h1 v p1 q1=>?_;have s1:=s.ext p1;refine bS s1 (R:=λaR h' env'=>∃O',SR A0 h0 aR env' h' O'/\Fm (stored (.tup is)) ah env h1 O aR env' h' O') (bK λaR ev=>?_) λaR h2 env' p2 hh=>?_
  ·obtain⟨env',O',b1,b2,b3⟩:=s1.bind ev q1.1;exact⟨env',b1,O',b2,b3⟩
  ·obtain⟨O',b2,b3⟩:=hh;exact bz ⟨O',b2,(Fm.refl s p1).trans (b3.fj λj hj=>by simp only[mS,qF];exact aaI _ hj)⟩
theorem Qd{i:Nat}(hΦ:∀j,Imp (Φ j) (Ψ j))(ho:dX e=true):AY Φ Ψ ms (.aug i o e):=λA0 h0 ah env h O s=>by rw[aZ];trivial
theorem Cq(k:Key)(l:List (Key×Val)):(l.any λkv=>decide (kv.1=k))=((l.map (·.1)).any λx=>decide (x=k)):=by
 rw[List.any_map];rfl
theorem Cr(e:Dn A h d v):∀{kvs:List (Key×Val)} {ds:List Val},aA A h ds (kvs.map (·.2)) ->
  aA A h ((((kvs.map (·.1)).zip ds).map λkv=>if kv.1=k then (kv.1,d) else kv).map (·.2)) ((kvs.map λkv=>if kv.1=k then (kv.1,v) else kv).map (·.2))
 |[],ds,q=>by simp only[map_nil,List.zip_nil_left];exact aA.nil
 | (k',v')::kvs,ds,q=>by
  have l:=q.length;cases ds with
  |nil=>simp at l
  |cons d' ds=>
   simp only[map_cons]at q;rw[aA]at q;obtain⟨v1,r,e1,q1,q2⟩:=q;cases e1;simp only[map_cons,zip_cons_cons];refine aA.cons ?_ (Cr e q2)
   by_cases hk:k'=k
   ·rw[aaj hk,aaj hk];exact e
   ·rw[aam hk,aam hk];exact q1
theorem qf(k:Key)(d:Val)(l:List (Key×Val)):(l.map λkv=>if kv.1=k then (kv.1,d) else kv).map (·.1)=l.map (·.1):=by
 rw[aaO];refine map_congr_left λx _=>?_;show (if x.1=k then (x.1,d) else x).1=x.1
 split<;>rfl
theorem Lu(hk:kvs.map (·.1)=ks)(q:aA A h ds (kvs.map (·.2)))(e:Dn A h d v) :
  (mH kvs k v).map (·.1)=(mH (ks.zip ds) k d).map (·.1)/\aA A h ((mH (ks.zip ds) k d).map (·.2)) ((mH kvs k v).map (·.2)):=by
 subst hk;have l:=q.length;rw[aaf]at l;have z1:((kvs.map (·.1)).zip ds).map (·.1)=kvs.map (·.1):=List.map_fst_zip (by rw[aaf];omega);have z2:((kvs.map (·.1)).zip ds).map (·.2)=ds:=List.map_snd_zip (by rw[aaf];omega);unfold mH;rw[Cq,Cq,z1]
 split
 ·rw[qf,qf,z1];exact⟨rfl,Cr e q⟩
 ·rw[aaN,aaN,aaN,aaN,z1,z2];exact⟨rfl,q.append (aA.cons e aA.nil)⟩
theorem Lv(hΦ:∀j,Imp (Φ j) (Ψ j))(ho:dX o=true)(hi:dX i=true)(hv:dX v=true):AY Φ Ψ ms (.jV o i v):=λA0 h0 ah env h O s=>by
 have V:=(v_all hΦ).1;cases o with
 |var j=>
  rw[dB,aZ];refine bS s (V v hv ah env _ h s.AX s.er) λx h1 w p1 q1=>?_;have s1:=s.ext p1
  split
  ·rename_i ks ds hj
   obtain⟨b,e2,e3,kvs,e4,ek,e5⟩:=s1.ow j _ hj;rw[aB (cG e2)];refine bS s1 (V i hi ah env _ h1 s1.AX s1.er) λz h2 u p2 q2=>?_;have s2:=s1.ext p2;obtain⟨f,d⟩:=z;have q:=q2.1;dsimp only at q;show fV A0 h0 _ _ (pb (pl (keyOf d)) _);cases hk:keyOf d with
   |none=>trivial
   |some kk=>
    have hu:keyOf u=some kk:=by
     cases d<;>simp only[keyOf]at hk<;>first|(cases hk;done)|skip
     all_goals (rw[Dn]at q;subst q;exact hk)
    show fV A0 h0 _ _ (pg _ _);refine jg λhl=>?_;have g:=cV p2 e4;obtain⟨k1,k2⟩:=Lu (k:=kk) ek (e5.ext p2) (q1.1.ext p2);obtain⟨s3,f3⟩:=s2.put (d1:=putD ks ds kk x.2) (ob:=.dct (mH kvs kk w)) hj e3 ⟨_,rfl,k1,k2⟩;refine⟨.nx env,h2.set b (.dct (mH kvs kk w)),?_,O,s3,(Fm.refl s (p1.trans p2)).trans (f3.fj (Ls (by simp[mS,wH])))⟩;have hl':decide (kvs.length<sizeLine)=true:=by rw[<-ek,aaf]at hl;exact hl
    simp only[BR];unfold bnd ask bH put ret aQ;dsimp only;rw[g];dsimp only;rw[hu];dsimp only;rw[aaj hl']
  ·trivial
 |_=>rw[aZ]<;>first|trivial|(intros;simp_all)
theorem Qe(hΦ:∀j,Imp (Φ j) (Ψ j))(hc:dX c=true)(ha:ug Φ Ψ ms a)(hb:ug Φ Ψ ms b):AY Φ Ψ ms (.iff c a b):=λA0 h0 ah env h O s=>by
 have V:=(v_all hΦ).1 c hc;rw[dB,aZ];refine bS s (nj V s.AX s.er) λx h1 v p1 q1=>?_;have s1:=s.ext p1;refine bS s1 (R:=λt _ t'=>t'=t) (cy λt et=>⟨t,sL q1 et,rfl⟩) λt h2 t' p2 et=>?_;subst et;have s2:=s1.ext p2;cases t' with
 |true=>
  rw[aaj rfl,aaj rfl];refine f9 (ha A0 h0 ah env h2 O s2) λf h' g r=>(r.pre s (p1.trans p2)).fj λi hi=>?_;simp only[Lp,mS,wH,qF,mem_append]at hi |-
  rcases hi with z|z
  ·exact .inl (.inl z)
  ·exact .inr (.inl z)
 |false=>
  rw[aam aac,aam aac];refine f9 (hb A0 h0 ah env h2 O s2) λf h' g r=>(r.pre s (p1.trans p2)).fj λi hi=>?_;simp only[Lp,mS,wH,qF,mem_append]at hi |-
  rcases hi with z|z
  ·exact .inl (.inr z)
  ·exact .inr (.inr z)
def wQ(h:Hs)(O:Nat->Option Nat)(m:List Nat)(src:Src)(ws:List Val):Prop :=
 ∀h':Hs,(∀k,k<h.length->(∀i,O i≠some k)->h'[k]?=h[k]?)->(∀i,i∉m->∀a,O i=some a->h'[a]?=h[a]?)->src.items h'=some ws
theorem jY{i:Nat}(e:h[i]?=some (.lst ws)):(Src.live i).items h=some ws:=by simp[Src.items,aJ,e]
theorem jZ{i:Nat}(e:h[i]?=some (.lst ws)):(Src.enum i).items h=some (rY 0 ws):=by simp[Src.items,aJ,e]
theorem yS{A0:AP}{h0:Hs}{m:List Nat}(hb:∀ah env h O x v,SR A0 h0 ah env h O->Dn (Al A0 O) h x v->fV A0 h0 (RF A0 h0 m ah env h O) (body v env h) (bodyV x ah))
  {ou:aX} {sQ:Env} {h1:Hs} {O1:Nat->Option Nat} (st:wQ h1 O1 m src ws) :
  ∀(xs vs:List Val) (i:Nat) (ah:aX) (env:Env) (h:Hs) (O:Nat->Option Nat),SR A0 h0 ah env h O->Fm m ou sQ h1 O1 ah env h O->ws.drop i=vs->aA (Al A0 O) h xs vs ->
   fV A0 h0 (RF A0 h0 m ou sQ h1 O1) (forM src body vs.length i env h) (gO bodyV xs ah)
 | [],vs,i,ah,env,h,O,s,f,hd,q=>by
  rw[aA]at q;subst q;have hl:ws.length<=i:=List.drop_eq_nil_iff.mp hd;have hi:=st h (λk hk n=>(f.keep k hk n).1) (λj hj a e=>(f.stay j hj).2.2.2 a e);rw[gO];refine⟨.nx env,h,?_,O,s,f⟩;show forM src body 0 i env h=_;simp only[forM];unfold bnd ask bH aQ;dsimp only;rw[hi];dsimp only;rw[aaj (decide_eq_true hl)];rfl
 | x::xs,vs,i,ah,env,h,O,s,f,hd,q=>by
  rw[aA]at q;obtain⟨v,r,rfl,q1,q2⟩:=q;have hv:ws[i]?=some v:=by have:=aaS (λl=>l[0]?) hd;simpa using this
  have hr:ws.drop (i+1)=r:=by
   have:ws.drop (i+1)=(ws.drop i).drop 1:=by rw[List.drop_drop]
   rw[this,hd];rfl
  have hi:=st h (λk hk n=>(f.keep k hk n).1) (λj hj a e=>(f.stay j hj).2.2.2 a e);have ev:forM src body (v::r).length i env h=bnd (body v env) (λf=>match f with
   |.nx env'=>forM src body r.length (i+1) env'
   |.ct env'=>forM src body r.length (i+1) env'
   |.bk env'=>ret (.nx env')
   |.rt v=>ret (.rt v)) h:=by
   show forM src body (r.length+1) i env h=_;simp only[forM];unfold bnd ask bH;dsimp only;rw[hi];dsimp only;rw[hv];try rfl
  rw[ev,gO];refine oz (hb ah env h O x v s q1) λfl h2 gl hr2=>?_;have go:∀aR env' O',SR A0 h0 aR env' h2 O'->Fm m ah env h O aR env' h2 O'->fV A0 h0 (RF A0 h0 m ou sQ h1 O1) (forM src body r.length (i+1) env' h2) (gO bodyV xs aR):=λaR env' O' s' f'=>by
   refine yS hb st xs r (i+1) aR env' h2 O' s' (f.trans f') hr (aA.move ly (λk o hk g=>?_) _ _ q2);have hlt:k<h.length:=(aag.mp g).1;obtain⟨a1,a2⟩:=f'.keep k hlt λi=>hk.2 i rfl;exact⟨⟨hk.1,λi _=>a2 i⟩,a1.trans g⟩
  cases fl<;>cases gl<;>first|exact hr2.elim|skip
  ·obtain⟨O',s',f'⟩:=hr2;exact go _ _ O' s' f'
  ·exact bz hr2
  ·obtain⟨O',s',f'⟩:=hr2;exact bz ⟨O',s',f.trans f'⟩
  ·obtain⟨O',s',f'⟩:=hr2;exact go _ _ O' s' f'
theorem GR{A0:AP}{m:List Nat}(q:Dn (Al A0 O) h d v)(e:kG k [d]=some xs):∃src ws,srcOf k [v]=some src/\aA (Al A0 O) h xs ws/\src.items h=some ws/\wQ h O m src ws:=by
 have lst:∀es,d=.rl es->(∃ws,v=.rl ws/\aA (Al A0 O) h es ws)\/∃a ws,v=.ref a/\h[a]?=some (.lst ws)/\aA (Al A0 O) h es ws/\∀h':Hs,(∀k,k<h.length->(∀i,O i≠some k)->h'[k]?=h[k]?)->h'[a]?=some (Ob.lst ws):=by
  rintro es rfl;rw[Dn]at q
  rcases q with ⟨ws,rfl,_,q⟩|⟨a,ws,rfl,al,g,q⟩
  ·exact .inl ⟨ws,rfl,q⟩
  ·exact .inr ⟨a,ws,rfl,g,q,λh' hk=>(hk a (aag.mp g).1 λi=>al.2 i rfl).trans g⟩
 cases k with
 |seq=>
  cases d<;>first|(cases e;done)|skip
  ·cases e;rw[Dn]at q;obtain⟨ws,rfl,q⟩:=q;exact⟨.fix ws,ws,rfl,q,rfl,λ_ _ _=>rfl⟩
  ·cases e
   rcases lst _ rfl with ⟨ws,rfl,q'⟩|⟨a,ws,rfl,g,q',st⟩
   ·exact⟨.fix ws,ws,rfl,q',rfl,λ_ _ _=>rfl⟩
   ·exact⟨.live a,ws,rfl,q',jY g,λh' hk _=>jY (st h' hk)⟩
 |range=>
  cases d<;>first|(cases e;done)|skip
  rw[Dn]at q;subst q;rename_i n;change (if inR n=true then some (cz 0 n.toNat) else none)=some _ at e;split at e
  ·rename_i hn;cases e;exact⟨.fix _,_,aaj hn,mG,rfl,λ_ _ _=>rfl⟩
  ·cases e
 |enum=>
  cases d<;>first|(cases e;done)|skip
  cases e
  rcases lst _ rfl with ⟨ws,rfl,q'⟩|⟨a,ws,rfl,g,q',st⟩
  ·exact⟨.fix _,_,rfl,jy 0 q',rfl,λ_ _ _=>rfl⟩
  ·exact⟨.enum a,_,rfl,jy 0 q',jZ g,λh' hk _=>jZ (st h' hk)⟩
 |zip=>cases e
theorem GS{α β γ δ:Type}{R:α -> Hs -> β -> Prop}{R':γ -> Hs -> δ -> Prop}{m:M β}{f:β -> M δ}{p:Pr α}{F:α -> Pr γ}(r:Rel A h R (m h) p)(k:∀a h1 b,p=.ok a->h<+:h1->R a h1 b->Rel A h1 R' (f b h1) (F a)):Rel A h R' (bnd m f h) (pb p F):=by
 unfold bnd;cases p with
 |ok a=>
  obtain⟨b,h1,e,q,r⟩:=r;rw[e];show Rel A h R' (f b h1) (F a);have:=k a h1 b rfl q r;cases e2:F a with
  |ok c=>rw[e2]at this;obtain⟨d,h2,e3,q2,r2⟩:=this;exact⟨d,h2,e3,q.trans q2,r2⟩
  |exc c es=>rw[e2]at this;obtain⟨d,h2,e3,q2,r2⟩:=this;exact⟨d,h2,e3,q.trans q2,r2⟩
  |no=>trivial
 |exc c es=>obtain⟨ws,h1,e,q,r⟩:=r;rw[e];exact⟨ws,h1,rfl,q,r⟩
 |no=>trivial
theorem GU{e e2:IE}(h:cF Ψ (.cons e (.cons e2 r)) ah=.ok ds):2<=ds.length:=by
 rw[cF,cF]at h;cases h1:(if isVar e=true then pl (ju ah e) else bq Ψ e ah) with
 |ok a=>
  rw[h1]at h;cases h2:(if isVar e2=true then pl (ju ah e2) else bq Ψ e2 ah) with
  |ok b=>
   rw[h2]at h;cases h3:cF Ψ r ah with
   |ok c=>rw[h3]at h;cases h;simp
   |exc _ _=>rw[h3]at h;cases h
   |no=>rw[h3]at h;cases h
  |exc _ _=>rw[h2]at h;cases h
  |no=>rw[h2]at h;cases h
 |exc _ _=>rw[h1]at h;cases h
 |no=>rw[h1]at h;cases h
theorem GV{d1 d2:Val}(ex:kG k [d1,d2]=some xs):k=.range/\∃n m,d1=.int n/\d2=.int m/\(inR n&&inR m)=true/\xs=cz n (m-n).toNat:=by
 cases k with
 |seq=>cases d1<;>cases ex
 |enum=>cases d1<;>cases ex
 |zip=>cases ex
 |range=>
  cases d1<;>first|(cases ex;done)|skip
  cases d2<;>first|(cases ex;done)|skip
  rename_i n m;change (if (inR n&&inR m)=true then some (cz n (m-n).toNat) else none)=some xs at ex
  by_cases hn:(inR n&&inR m)=true
  ·rw[aaj hn]at ex;cases ex;exact⟨rfl,n,m,rfl,rfl,hn,rfl⟩
  ·rw[aam hn]at ex;cases ex
theorem AZ{d1 d2 d3:Val}:kG k (d1::d2::d3::r)=none:=by
 cases k with
 |seq=>cases d1<;>rfl
 |enum=>cases d1<;>rfl
 |zip=>rfl
 |range=>cases d1<;>first|rfl|(cases d2<;>rfl)
theorem Lw{A0:AP}{h0:Hs}{m:List Nat}(hΦ:∀j,Imp (Φ j) (Ψ j))(hi:oq it=true)(s:SR A0 h0 ah env h O)(hm:∀i,it=.cons (.var i) .nil->i∉m) :
  Rel (Al A0 O) h (λxs h' src=>∃ws,aA (Al A0 O) h' xs ws/\src.items h'=some ws/\wQ h' O m src ws) (bnd (bC Φ it env) (λits=>bH (srcOf k its)) h) (pb (cF Ψ it ah) λits=>pl (kG k its)):=by
 have V:=v_all hΦ;cases it with
 |nil=>rw[cF];cases k<;>trivial
 |cons e es=>
  cases es with
  |nil=>
   replace hi:=fZ hi
   by_cases hv:isVar e=true
   ·cases e<;>first|(cases hv;done)|skip
    rename_i i;rw[cF,cF,aaj hv];simp only[ju];cases hx:ah[i]? with
    |none=>trivial
    |some o=>
     cases o with
     |none=>trivial
     |some fd=>
      obtain⟨f,d⟩:=fd;show Rel _ _ _ _ (pl (kG k [d]));cases hf:iD f with
      |false=>
       have hf:f=.ow:=by cases f<;>first|rfl|cases hf
       subst hf;obtain⟨a,e2,e3,e4⟩:=s.ow i d hx;have ev:bnd (bC Φ #[.var i] env) (λits=>bH (srcOf k its)) h=bH (srcOf k [.ref a]) h:=by rw[bC,bC,aG,aB (cG e2)];rfl
       rw[ev];refine bK λxs ex=>?_;have hd:∃ds,d=.rl ds:=by cases d<;>first|exact⟨_,rfl⟩|exact False.elim e4|(cases k<;>cases ex)
       obtain⟨ds,rfl⟩:=hd;obtain⟨vs,e4,e5⟩:=e4;have st:∀h':Hs,(∀i,i∉m->∀a,O i=some a->h'[a]?=h[a]?)->h'[a]?=some (Ob.lst vs):=λh' hs=>(hs i (hm i rfl) a e3).trans e4;cases k with
       |seq=>cases ex;exact⟨.live a,rfl,vs,e5,jY e4,λh' _ hs=>jY (st h' hs)⟩
       |range=>cases ex
       |enum=>cases ex;exact⟨.enum a,rfl,_,jy 0 e5,jZ e4,λh' _ hs=>jZ (st h' hs)⟩
       |zip=>cases ex
      |true=>
       obtain⟨v,e1,e2,_⟩:=s.sh i f d hx hf;have ev:bnd (bC Φ #[.var i] env) (λits=>bH (srcOf k its)) h=bH (srcOf k [v]) h:=by rw[bC,bC,aG,aB (cG e1)];rfl
       rw[ev];refine bK λxs ex=>?_;obtain⟨src,ws,a1,a2,a3,a4⟩:=GR (m:=m) e2 ex;exact⟨src,a1,ws,a2,a3,a4⟩
   ·rw[cF,cF,aam hv]
    have ev:bnd (bC Φ #[e] env) (λits=>bH (srcOf k its)) h=bnd (aS Φ e env) (λv=>bH (srcOf k [v])) h:=by rw[bC,bC,aG];rfl
    rw[ev];have ep:(pb (pb (bq Ψ e ah) λd=>pb (Pr.ok ([]:List Val)) λp=>Pr.ok (d.2::p)) λits=>pl (kG k its))=pb (bq Ψ e ah) λd=>pl (kG k [d.2]):=by cases bq Ψ e ah<;>rfl
    rw[ep];refine ai (V.1 e hi.1 ah env _ h s.AX s.er) λx h1 v p1 q1=>bK λxs ex=>?_;obtain⟨src,ws,a1,a2,a3,a4⟩:=GR (m:=m) q1.1 ex;exact⟨src,a1,ws,a2,a3,a4⟩
  |cons e2 r=>
   have V2:=V.2 _ hi;refine GS (V2.2 ah env _ h s.AX s.er) λds h1 vs eb p1 q1=>bK λxs ex=>?_;have hl:2<=ds.length:=GU eb
   match ds,q1 with
   |[],q1=>cases k<;>cases ex
   |[d],q1=>simp at hl
   |[d1,d2],q1=>obtain⟨v,rr,rfl,hv,hr⟩:=q1;obtain⟨w,rfl,hw⟩:=JI.one hr;obtain⟨rfl,n,m',rfl,rfl,hn,rfl⟩:=GV ex;have:=hv.int;subst this;have:=hw.int;subst this;exact⟨.fix _,aaj hn,_,mG,rfl,λ_ _ _=>rfl⟩
   |d1::d2::d3::dr,q1=>rw[AZ]at ex;cases ex
theorem GW{A0:AP}{h0:Hs}(hb:ug Φ Ψ ms body)(s:SR A0 h0 ah env h O)
  (hm:Rel (Al A0 O) h (λxs h' src=>∃ws,aA (Al A0 O) h' xs ws/\src.items h'=some ws/\wQ h' O (mS (.for p k it body)) src ws) (m h) P) :
  fV A0 h0 (RF A0 h0 (mS (.for p k it body)) ah env h O) (bnd m (λsrc=>bnd (ask λh=>src.items h) λxs=>forM src (λx env=>bnd (bH (iA p x env)) λenv'=>fy Φ body env') xs.length 0 env) h) (pb P λxs=>gO (λx env=>pb (pl (bO p x env)) λenv'=>ay Ψ ms body env') xs ah):=by
 refine bS s hm λxs h1 src p1 hx=>?_;obtain⟨ws,q1,q2,st⟩:=hx;have s1:=s.ext p1;have l:=q1.length;have ev2:∀(F:List Val->M Fl),bnd (ask λh=>src.items h) F h1=F ws h1:=λF=>by unfold bnd ask bH;dsimp only;rw[q2]
 rw[ev2];refine f9 (yS (m:=mS (.for p k it body)) (λaR env' h' O' x v s' qx=>?_) st xs ws 0 ah env h1 O s1 (Fm.refl s1 (aaC _)) rfl q1) λf h' g r=>r.pre s p1;refine bS s' (R:=λp9 h2 nh=>∃O2,SR A0 h0 p9 nh h2 O2/\Fm (stored p) aR env' h' O' p9 nh h2 O2) (bK λp9 e2=>?_) λp9 h2 nh p2 hh=>?_
 ·obtain⟨nh,O2,b1,b2,b3⟩:=s'.bind e2 qx;exact⟨nh,b1,O2,b2,b3⟩
 ·obtain⟨O2,b2,b3⟩:=hh
  refine f9 (hb A0 h0 p9 nh h2 O2 b2) λf h'' g r=>RF.seq (b3.fj λi hi=>?_) (r.fj λi hi=>?_)
  ·simp only[mS,wH,qF,mem_append];exact .inr (.inl hi)
  ·simp only[Lp,mS,wH,qF,mem_append]at hi |-
   rcases hi with z|z
   ·exact .inl z
   ·exact .inr (.inr z)
theorem Qf(hΦ:∀j,Imp (Φ j) (Ψ j))(hi:oq it=true)(hb:ug Φ Ψ ms body):AY Φ Ψ ms (.for p k it body):=λA0 h0 ah env h O s=>by
 rw[dB,aZ];have ev:∀(F:Src->M Fl),bnd (bC Φ it env) (λits=>bnd (bH (srcOf k its)) F) h=bnd (bnd (bC Φ it env) λits=>bH (srcOf k its)) F h:=λF=>by rw[aG]
 rw[ev]
 by_cases hz:k=.zip
 ·subst hz
  show fV A0 h0 _ _ (pg _ _);refine jg λ_=>?_;have ep:∀(F:List Val->Pr zY),pb (lq Ψ it ah) (λq=>pb (pl (DS q.2)) F)=pb (pb (lq Ψ it ah) λq=>pl (DS q.2)) F:=λF=>by cases lq Ψ it ah<;>rfl
  rw[ep];refine GW hb s (ai (((v_all hΦ).2 it hi).1 ah env _ h s.AX s.er) λq h1 vs p1 q1=>bK λxs ex=>?_);obtain⟨f,ds⟩:=q;unfold DS at ex;split at ex
  ·rename_i a b hab
   cases ex;have q2:=q1.1;rw[show ds=[.rl a,.rl b] from hab]at q2;rw[aA]at q2;obtain⟨v,r,rfl,qa,q2⟩:=q2;obtain⟨w,rfl,qb⟩:=aA.one q2;have Yw:∀(c:List Val) (v:Val),Dn (Al A0 O) h1 (.rl c) v->∃ws,aA (Al A0 O) h1 c ws/\∀h':Hs,(∀k,k<h1.length->(∀i,O i≠some k)->h'[k]?=h1[k]?)->aJ h' v=some ws:=λc v q=>by
    rw[Dn]at q
    rcases q with ⟨ws,rfl,_,q⟩|⟨i,ws,rfl,al,g,q⟩
    ·exact⟨ws,q,λ_ _=>rfl⟩
    ·refine⟨ws,q,λh' hk=>?_⟩;show (match h'[i]? with|some (.lst xs)=>some xs|_=>none)=_;rw[(hk i (aag.mp g).1 λj=>al.2 j rfl).trans g]
   obtain⟨wa,ea,sa⟩:=Yw _ _ qa;obtain⟨wb,eb,sb⟩:=Yw _ _ qb;have it':∀h':Hs,(∀k,k<h1.length->(∀i,O i≠some k)->h'[k]?=h1[k]?)->(Src.zip v w).items h'=some (dS wa wb):=λh' hk=>by
    show (aJ h' v).bind (λxs=>(aJ h' w).map λys=>dS xs ys)=_;rw[sa h' hk,sb h' hk];rfl
   exact⟨.zip v w,rfl,dS wa wb,wN ea eb,it' h1 λ_ _ _=>rfl,λh' hk _=>it' h' hk⟩
  ·cases ex
 ·rw[show ∀z o:Pr zY,DR k z o=o from λz o=>by cases k<;>first|rfl|exact(hz rfl).elim]
  refine jg λhg=>?_;rw[and_eq_true]at hg;have hm:∀i,it=.cons (.var i) .nil->i∉mS (.for p k it body):=by
   rintro i rfl z;simp only[sJ,and_eq_true,not_eq_true',List.contains_eq_mem,decide_eq_false_iff_not]at hg;simp only[mS,wH,qF,mem_append]at z
   rcases z with z|z|z
   ·exact hg.1.1.1 z
   ·exact hg.1.2 z
   ·exact hg.1.1.2 z
  have ep:∀(F:List Val->Pr zY),pb (cF Ψ it ah) (λits=>pb (pl (kG k its)) F)=pb (pb (cF Ψ it ah) λits=>pl (kG k its)) F:=λF=>by cases cF Ψ it ah<;>rfl
  rw[ep];exact GW hb s (Lw (m:=mS (.for p k it body)) hΦ hi s hm)
theorem Qg{n:Nat}(hΦ:∀j,Imp (Φ j) (Ψ j))(hc:dX c=true)(hb:ug Φ Ψ ms body):AY Φ Ψ ms (.whl n c body):=λA0 h0 ah env h O s=>by
 have V:=(v_all hΦ).1 c hc;rw[dB,aZ]
 induction n generalizing ah env h O with
 |zero=>trivial
 |succ n ih=>
  simp only[yj,n9];have ct:Rel (Al A0 O) h (λt _ t'=>t'=t) ((bnd (aS Φ c env) λx=>ask λh=>ck h x) h) (pb (yL Ψ c ah) λx=>pl (ck [] x.2)) :=
   ai (nj V s.AX s.er) λx h1 v p1 q1=>cy λt et=>⟨t,sL q1 et,rfl⟩
  refine bS s ct λt h1 t' p1 et=>?_;subst et;have s1:=s.ext p1;cases t' with
  |true=>
   rw[aaj rfl,aaj rfl];refine oz (hb A0 h0 ah env h1 O s1) λf h2 g r=>?_;have r:=(r.pre s p1).fj (m':=mS (.whl n c body)) λi hi=>hi;cases f<;>cases g<;>first|exact r.elim|skip
   ·obtain⟨O',s',f'⟩:=r;exact f9 (ih _ _ _ O' s') λf h' g r'=>RF.seq f' r'
   ·exact bz r
   ·obtain⟨O',s',f'⟩:=r;exact bz ⟨O',s',f'⟩
   ·obtain⟨O',s',f'⟩:=r;exact f9 (ih _ _ _ O' s') λf h' g r'=>RF.seq f' r'
  |false=>rw[aam aac,aam aac];exact bz ⟨O,s1,Fm.refl s p1⟩
theorem GX:iD (Yq m)=true:=by cases m<;>rfl
theorem SR.fr{A0:AP}{h0:Hs}(s:SR A0 h0 ah env h O):ER A0 (oR ah) env h:=λi f d e=>by
 unfold oR at e;rw[aaB]at e;cases hx:ah[i]? with
 |none=>rw[hx]at e;cases e
 |some o=>
  rw[hx]at e;cases o with
  |none=>cases e
  |some fd=>
   obtain⟨m,d'⟩:=fd;cases e;rw[aam (by rw[GX];decide)];cases hm:iD m with
   |false=>
    have hm:m=.ow:=by cases m<;>first|rfl|cases hm
    subst hm;obtain⟨a,e2,e3,e4⟩:=s.ow i d hx;exact⟨_,e2,(e4.mono (A':=A0) (λ_ g=>g) λ_ _ z=>z.fj λ_ y=>y.1).dn (s.up a (s.own i a e3).1)⟩
   |true=>obtain⟨v,e1,e2,_⟩:=s.sh i m d hx hm;exact⟨v,e1,e2.fj λ_ z=>z.1⟩
theorem pD{A0:AP}{h0:Hs}{α β γ δ:Type}{R:α -> Hs -> β -> Prop}{R':γ -> Hs -> δ -> Prop}{mm:M β}{f:β -> M δ}{p:Pr α}{F:α -> Pr γ}(s:SR A0 h0 ah env h O)(r:Rel A0 h R (mm h) p)(k:∀a h1 b,h<+:h1->R a h1 b->fV A0 h0 R' (f b h1) (F a)):fV A0 h0 R' (bnd mm f h) (pb p F):=by
 unfold bnd;cases p with
 |ok a=>obtain⟨b,h1,e,q,r⟩:=r;rw[e];exact k a h1 b q r
 |exc c es=>obtain⟨ws,h1,e,q,r⟩:=r;rw[e];exact⟨ws,h1,rfl,s.pre.trans q,r⟩
 |no=>trivial
theorem Qh(hΦ:∀j,Imp (Φ j) (Ψ j))(ho:dX e=true):AY Φ Ψ ms (.ret e):=λA0 h0 ah env h O s=>by
 have V:=(v_all hΦ).1 e ho;have gen:PJ Ψ e ah=bq Ψ e ah->fV A0 h0 (RF A0 h0 (mS (.ret e)) ah env h O) (dB Φ (.ret e) env h) (aZ Ψ ms (.ret e) ah):=λhe=>by
  rw[dB,aZ,he];exact bS s (V ah env _ h s.AX s.er) λx h1 v p1 q1=>bz ⟨q1.1.fj λ_ z=>z.1,λf=>(q1.2 f).fj (Fr.le s.pre.length_le),s.pre.trans p1⟩
 cases e with
 |var i=>
  rw[dB,aZ];simp only[PJ];cases hx:ah[i]? with
  |none=>trivial
  |some o=>
   cases o with
   |none=>trivial
   |some fd=>
    obtain⟨f,d⟩:=fd;cases hf:iD f with
    |false=>
     have hf:f=.ow:=by cases f<;>first|rfl|cases hf
     subst hf;obtain⟨a,e2,e3,e4⟩:=s.ow i d hx;rw[aB (cG e2)];have ha:=s.own i a e3;cases d<;>first|exact False.elim e4|skip
     ·refine⟨_,h,rfl,?_,λhi=>?_,s.pre⟩
      ·exact(e4.mono (A':=A0) (λ_ g=>g) λ_ _ z=>z.fj λ_ y=>y.1).dn (s.up a ha.1)
      ·obtain⟨vs,e4,e5⟩:=e4;show Dn _ h (.rl _) (.ref a);rw[Dn];exact .inr ⟨a,vs,rfl,ha.1,e4,jx e5 hi⟩
     ·refine⟨_,h,rfl,?_,λhi=>?_,s.pre⟩
      ·exact(e4.mono (A':=A0) (λ_ g=>g) λ_ _ z=>z.fj λ_ y=>y.1).dn (s.up a ha.1)
      ·obtain⟨kvs,e4,ek,e5⟩:=e4;show Dn _ h (.dc _ _) (.ref a);rw[Dn];exact⟨a,kvs,rfl,ha.1,e4,ek,jx e5 hi⟩
    |true=>
     obtain⟨v,e1,e2,e3⟩:=s.sh i f d hx hf;rw[aB (cG e1)];dsimp only;rw[aaj hf];refine⟨_,h,rfl,e2.fj λ_ z=>z.1,λhi=>?_,s.pre⟩
     rcases(or_eq_true _ _).mp hi with hi|hi
     ·exact(jW d v hi).mpr ((jW d v hi).mp e2)
     ·exact(e3 hi).fj λ_ z=>z.1
 |and a b=>rw[dB,aZ];simp only[PJ];exact pD s (V (oR ah) env A0 h (s.up.ext s.pre) s.fr) λx h1 v p1 q1=>bz ⟨q1.1,λf=>(q1.2 f).fj (Fr.le s.pre.length_le),s.pre.trans p1⟩
 |call j es=>rw[dB,aZ];exact pD s (V (oR ah) env A0 h (s.up.ext s.pre) s.fr) λx h1 v p1 q1=>bz ⟨q1.1,λf=>(q1.2 f).fj (Fr.le s.pre.length_le),s.pre.trans p1⟩
 |tup es=>rw[dB,aZ];change fV A0 h0 _ _ (pb (GG Ψ es ah) _);unfold GG;exact pD s (V (oR ah) env A0 h (s.up.ext s.pre) s.fr) λx h1 v p1 q1=>bz ⟨q1.1,λf=>(q1.2 f).fj (Fr.le s.pre.length_le),s.pre.trans p1⟩
 |_=>exact gen rfl
theorem Qi:ug Φ Ψ ms .nil:=λA0 h0 ah env h O s=>by rw[fy,ay];exact bz ⟨O,s,Fm.refl s (aaC _)⟩
theorem Lx(ha:AY Φ Ψ ms a)(hr:ug Φ Ψ ms r):ug Φ Ψ ms (.cons a r):=λA0 h0 ah env h O s=>by
 rw[fy,ay];have w1:∀i∈mS a,i∈Lp (.cons a r):=λi hi=>by
  simp only[mS,Lp,jv,mU,mem_append]at hi |-
  rcases hi with z|z
  ·exact .inl (.inl z)
  ·exact .inr (.inl z)
 have w2:∀i∈Lp r,i∈Lp (.cons a r):=λi hi=>by
  simp only[Lp,jv,mU,mem_append]at hi |-
  rcases hi with z|z
  ·exact .inl (.inr z)
  ·exact .inr (.inr z)
 refine oz (ha A0 h0 ah env h O s) λf h1 g rr=>?_;have rr:=rr.fj w1;cases f<;>cases g<;>first|exact rr.elim|skip
 ·obtain⟨O',s',f'⟩:=rr;exact f9 (hr A0 h0 _ _ h1 O' s') λf h' g r'=>RF.seq f' (r'.fj w2)
 ·exact bz rr
 ·exact bz rr
 ·exact bz rr
theorem Ui(hΦ:∀j,Imp (Φ j) (Ψ j)):∀ss,wO ss=true->ug Φ Ψ ms ss:=by
 intro ss;refine bQ.rec (motive_1:=λs=>Yv s=true->AY Φ Ψ ms s) (motive_2:=λss=>wO ss=true->ug Φ Ψ ms ss) ?_ ?_ ?_ ?_ ?_ ?_ ?_ ?_ ?_ ?_ ?_ ?_ ?_ ?_ ?_ ?_ ss
 ·exact λe f=>Lr hΦ f
 ·exact λp e f=>Qc hΦ f
 ·exact λi o e f=>Qd hΦ f
 ·intro o i v f;have f:=sO f;exact Lv hΦ f.1.1 f.1.2 f.2
 ·intro c a b ia ib f;have f:=sO f;exact Qe hΦ f.1.1 (ia f.1.2) (ib f.2)
 ·intro p k it b ib f;have f:=fZ f;exact Qf hΦ f.1 (ib f.2)
 ·intro n c b ib f;have f:=fZ f;exact Qg hΦ f.1 (ib f.2)
 ·exact λe f=>Qh hΦ f
 ·exact λ_ A0 h0 ah env h O s=>by rw[dB,aZ];exact bz ⟨by rw[Dn],λ_=>by rw[Dn],s.pre⟩
 ·exact λ_ A0 h0 ah env h O s=>by rw[dB,aZ];exact bz ⟨O,s,Fm.refl s (aaC _)⟩
 ·exact λ_ A0 h0 ah env h O s=>by rw[dB,aZ];exact bz ⟨O,s,Fm.refl s (aaC _)⟩
 ·exact λ_ A0 h0 ah env h O s=>by rw[dB,aZ];exact bz ⟨O,s,Fm.refl s (aaC _)⟩
 ·exact λ_ A0 h0 ah env h O s=>by rw[aZ];trivial
 ·exact λ_ _ _ _ _ A0 h0 ah env h O s=>by rw[aZ];trivial
 ·exact λ_=>Qi
 ·intro a r ia ir f;have f:=fZ f;exact Lx (ia f.1) (ir f.2)
theorem Uj{n:Nat}(u:Up A h)(q:aA A h ds vs):SR A h (ds.map (λd=>some (.sh,d))++replicate (n-ds.length) none) (vs.map some++replicate (n-vs.length) none) h (λ_=>none):=by
 have l:=q.length;have al:∀k,A k->Al A (λ_=>none) k:=λk hk=>⟨hk,λi z e=>by subst e;cases z⟩;have get:∀(i:Nat) (f:Mk) (d:Val),(ds.map (λd=>some (.sh,d))++replicate (n-ds.length) none:aX)[i]?=some (some (f,d))->f=.sh/\ds[i]?=some d:=λi f d e=>by
  by_cases hi:i<ds.length
  ·rw[aas (by simpa using hi),aaB]at e
   cases ei:ds[i]? with
   |none=>rw[ei]at e;cases e
   |some d'=>rw[ei]at e;cases e;exact⟨rfl,rfl⟩
  ·rw[aaD (by simp;omega)]at e;have:=aaE e;rw[List.mem_replicate]at this;exact absurd this.2 (by simp)
 refine⟨by simp[l],λi m d e hm=>?_,λi d e=>?_,(λi a e=>nomatch e),(λi j a e=>nomatch e),aaC _,u⟩
 ·obtain⟨hm',e⟩:=get i m d e;obtain⟨v,k1,k2⟩:=q.get e;have hi:i<vs.length:=(aag.mp k1).1;exact⟨v,by rw[aas (by simpa using hi),aaB,k1];rfl,k2.fj al,λz=>by subst hm';cases z⟩
 ·obtain⟨z,_⟩:=get i .ow d e;cases z
theorem bf{n:Nat}(hΦ:∀j,Imp (Φ j) (Ψ j))(ho:wO body=true):Imp (fz Φ n body) (cu Ψ n body):=λA h ds vs u q=>by
 have l:=q.length;have s:=Uj (n:=n) u q;unfold fz cu;have r:=oz (R':=λx h' v=>h<+:h'/\RV A h x h' v) (Ui (ms:=jv body) hΦ body ho A h _ _ h _ s) (f:=λf=>match f with
  |.nx _=>ret .non
  |.rt v=>ret v
  |_=>bH none) (F:=λf=>match f with
  |.nx _=>.ok (true,.non)
  |.rt p=>.ok p
  | _=>.no) λf h1 g rr=>by
   cases f<;>cases g<;>first|exact rr.elim|skip
   ·obtain⟨O',s',_⟩:=rr;exact bz ⟨s'.pre,by show Dn _ _ Val.non _;rw[Dn],λ_=>by show Dn _ _ Val.non _;rw[Dn]⟩
   ·exact bz ⟨rr.2.2,rr.1,rr.2.1⟩
   ·trivial
   ·trivial
 revert r;generalize (pb (ay Ψ (jv body) body (ds.map (λd=>some (.sh,d))++replicate (n-ds.length) none)) _)=p;intro r;cases p with
 |ok x=>obtain⟨v,h',e,a,b⟩:=r;exact⟨v,h',e,a,b⟩
 |exc c es=>exact r
 |no=>trivial
end
abbrev aO:=List Val->Pr FV
def af(gs:List aO)(j:Nat):aO:=match gs[j]? with
 |some g=>g
 |none=>λ_=>.no
def b9(fs:List Row)(gs:List aO):Prop:=fs.length=gs.length/\∀(j:Nat) (r:Row) (g:aO),fs[j]?=some r->gs[j]?=some g->Imp r.2.2 g
theorem GY:b9 [] []:=⟨rfl,λj r g e=>by simp at e⟩
theorem au(a:b9 fs gs)(j:Nat):Imp (look fs j) (af gs j):=by
 unfold look af;cases e:fs[j]? with
 |none=>
  have:gs[j]?=none:=by have:=List.getElem?_eq_none_iff.mp e;exact List.getElem?_eq_none_iff.mpr (by rw[<-a.1];exact this)
  rw[this];exact λ_ _ _ _ _ _=>trivial
 |some r=>
  cases e2:gs[j]? with
  |none=>exact λ_ _ _ _ _ _=>trivial
  |some g=>exact a.2 j r g e e2
theorem av{k:Nat}(a:b9 fs gs)(i:Imp f g):b9 (fs++[(x,k,f)]) (gs++[g]):=by
 refine⟨by simp[a.1],λj r g' e1 e2=>?_⟩
 by_cases hj:j<fs.length
 ·rw[aas hj]at e1;rw[aas (by rw[<-a.1];exact hj)]at e2;exact a.2 j r g' e1 e2
 ·rw[aaD (by omega)]at e1
  rw[aaD (by rw[<-a.1];omega)]at e2;have hj0:j-fs.length=0:=by have:=(aag.mp e1).1;simp at this;omega
  rw[<-a.1]at e2;rw[hj0]at e1 e2;simp at e1 e2;subst e1;subst e2;exact i
theorem GZ(i:Imp φ ψ){ns:List Int}{f:Bool}(e:ψ [.rl (ns.map .int)]=.ok (f,.bl true)):∃h',φ [.rl (ns.map .int)] []=.ok (.bl true) h':=by
 have r:=i (λ_=>True) [] [.rl (ns.map .int)] [.rl (ns.map .int)] (λ_ _=>trivial) (aA.cons (by rw[Dn];exact .inl ⟨_,rfl,trivial,(bN _ _ (di ns)).mpr rfl⟩) aA.nil);rw[e]at r;obtain⟨v,h',e1,_,q⟩:=r;have q:=q.1;dsimp only at q;rw[Dn]at q;subst q;exact⟨h',e1⟩
section
variable {α β γ:Type}
theorem az(a:α)(f:α -> Pr β):pb (.ok a) f=f a:=rfl
theorem Qj(c:Prop)[Decidable c](m n:Pr α)(f:α -> Pr β):pb (if c then m else n) f=if c then pb m f else pb n f:=by split<;>rfl
theorem yT(m:Pr α)(f:α -> Pr β)(g:β -> Pr γ):pb (pb m f) g=pb m λx=>pb (f x) g:=by cases m<;>rfl
theorem bg(a:α):pl (some a)=.ok a:=rfl
theorem Ly(m:Pr α):pg true m=m:=rfl
theorem Qk(c:Prop)[Decidable c](m:Pr α):pg (decide c) m=if c then m else .no:=by unfold pg;simp
theorem wR{c:Bool}(h:c=true)(m:Pr α):pg c m=m:=by rw[h];rfl
end
theorem iE{f:Bool}:iD (bI f d)=true:=by unfold bI;split<;>rfl
theorem Uk:iD .sh=true:=rfl
theorem Ul:iD .nw=true:=rfl
theorem Um:iD .ow=false:=rfl
theorem Uo:Rz .sh=false:=rfl
theorem Uq:Rz .nw=true:=rfl
theorem Ql{f:Bool}{i:Int}:bI f (.int i)=.sh:=by cases f<;>rfl
theorem Ur{f:Bool}{i:Bool}:bI f (.bl i)=.sh:=by cases f<;>rfl
theorem Qm{f:Bool}:bI f (.str i)=.sh:=by cases f<;>rfl
theorem Qn{f:Bool}:bI f .non=.sh:=by cases f<;>rfl
theorem Xg:bI false d=.sh:=rfl
theorem Us:bI true (.rl ds)=.nw:=rfl
theorem Ut:bI true (.dc ks ds)=.nw:=rfl
section
variable {a b:Int} {x y:Str} {t:Bool} {vs ws:List Val} {v:Val}
theorem Uu:ni .add (.int a) (.int b)=.ok (true,.int (a+b)):=rfl
theorem Uv:ni .sub (.int a) (.int b)=.ok (true,.int (a-b)):=rfl
theorem yU(h:kX a b=true):ni .mul (.int a) (.int b)=.ok (true,.int (a*b)):=by simp only[ni];exact wR h _
theorem cg(h:dP b=true):ni .fdiv (.int a) (.int b)=.ok (true,.int (a/b)):=by simp only[ni];exact wR h _
theorem bT(h:decide (0<b)=true):ni .mod (.int a) (.int b)=.ok (true,.int (a%b)):=by simp only[ni];exact wR h _
theorem Cs(h:decide (0<=b/\b<=1000000/\a.natAbs<2 ^ 64)=true):ni .pow (.int a) (.int b)=.ok (true,.int (a ^ b.toNat)):=by simp only[ni];exact wR h _
theorem Xh:cop [] .lt (.int a) (.int b)=some (decide (a<b)):=rfl
theorem Xi:cop [] .le (.int a) (.int b)=some (decide (a<=b)):=rfl
theorem Xj:cop [] .gt (.int a) (.int b)=some (decide (b<a)):=rfl
theorem Xk:cop [] .ge (.int a) (.int b)=some (decide (b<=a)):=rfl
theorem Xl:cop [] .eq (.int a) (.int b)=some (decide (a=b)):=by
 show some (a==b)=_
 congr 1
theorem Xm:cop [] .ne (.int a) (.int b)=some (!decide (a=b)):=by
 show some (!(a==b))=_
 congr 1
theorem Uw:cop [] .isn v .non=some (ki v):=by cases v<;>rfl
theorem Ux:cop [] .ntn v .non=some (!ki v):=by cases v<;>rfl
theorem Uy:ck [] (.bl t)=some t:=rfl
theorem Uz:ck [] (.int a)=some (a != 0):=rfl
theorem UA:ck [] (.rl vs)=some (!vs.isEmpty):=rfl
theorem UB:ck [] (.tup vs)=some (!vs.isEmpty):=rfl
theorem UC:gM .len [.rl vs]=.ok (true,.int vs.length):=rfl
theorem UD:gM .len [.tup vs]=.ok (true,.int vs.length):=rfl
theorem UE:gM .min [.int a,.int b]=.ok (true,.int (if b<a then b else a)):=rfl
theorem UG:gM .max [.int a,.int b]=.ok (true,.int (if b>a then b else a)):=rfl
theorem Qo:gM .min [.tup [.int a,.int b]]=.ok (true,.int (min a b)):=rfl
theorem Qp:gM .max [.tup [.int a,.int b]]=.ok (true,.int (max a b)):=rfl
theorem Qq:gM .list [.rl vs]=.ok (bM vs,.rl vs):=rfl
theorem Qs:gM .list [.tup vs]=.ok (bM vs,.rl vs):=rfl
theorem UH:gM .int [.bl t]=.ok (true,.int (if t=true then 1 else 0)):=rfl
theorem eY(h:kP vs a=some v):jl [] (.rl vs) (.int a)=some v:=h
theorem bU(h:kP vs a=some v):jl [] (.tup vs) (.int a)=some v:=h
end
theorem kH:kP (v::vs) (0:Int)=some v:=by
 have:=ja (xs:=v::vs) (j:=0) (v:=v) rfl;exact this
theorem jz:kP (u::v::vs) (1:Int)=some v:=by
 have:=ja (xs:=u::v::vs) (j:=1) (v:=v) rfl;exact this
theorem pF{T:String}{t:String}(h1:yh [] v=some t)(h2:yi T t=some true):gM (.isin T) [v]=.ok (true,.bl true):=by
 show pb (pl (yh [] v)) _=_;rw[h1,bg,az,h2];rfl
theorem Ba{T:String}{t:String}(h1:yh [] v=some t)(h2:yi T t=some false):gM (.isin T) [v]=.ok (true,.bl false):=by
 show pb (pl (yh [] v)) _=_;rw[h1,bg,az,h2];rfl
theorem eq_self(h:toD 16 [] d=some p)(hp:p.canLay0=true):cop [] .eq d d=some true:=by
 simp only[cop,AI,h,bind_some];rw[SeqAt.eqv_refl p hp]
theorem ne_self(h:toD 16 [] d=some p)(hp:p.canLay0=true):cop [] .ne d d=some false:=by
 simp only[cop,AI,h,bind_some];rw[SeqAt.eqv_refl p hp];rfl
theorem Qt:DR .seq z o=o:=rfl
theorem Qu:DR .range z o=o:=rfl
theorem Hf:DR .zip z o=z:=rfl
theorem Hg:DS [.rl a,.rl b]=some (dS a b):=rfl
theorem fB:kG .seq [.rl vs]=some vs:=rfl
theorem Qv:DQ .seq ds=kG .seq ds:=rfl
theorem Qw:DQ .range ds=kG .range ds:=rfl
theorem Qx:DQ .enum ds=kG .enum ds:=rfl
theorem Hh:DQ .zip [.rl a,.rl b]=some (dS a b):=rfl
theorem yV{lo hi:Option Int}:DP (.rl vs) lo hi=.ok (bM (bX vs lo hi),.rl (bX vs lo hi)):=rfl
theorem aN{i:Nat}:bO (.one i) d env=some (env.set i (some (.sh,d))):=rfl
theorem Bb{i j:Nat}:bO (.tup [i,j]) (.tup [d,e]) env=some ((env.set i (some (.sh,d))).set j (some (.sh,e))):=rfl
theorem lD{α β:Type}(f:α -> β)(ds:List α)(lo hi:Option Int):bX (ds.map f) lo hi=(bX ds lo hi).map f:=by
 unfold bX;simp only[length_map,List.map_take,List.map_drop]
theorem lF{α β γ:Type}{f:β -> Option γ}{g:α -> β}{k:α -> γ}:∀(xs:List α),(∀x∈xs,f (g x)=some (k x))->cD f (xs.map g)=some (xs.map k)
 |[],_=>rfl
 | x::r,h=>by
  rw[aap,cD,h x aal,lF r λy hy=>h y (aak _ hy)];rfl
theorem ints_map(xs:List Int):bB (xs.map .int)=some xs:=by
 have:=lF (f:=λv=>match v with|.int i=>some i|_=>none) (g:=Val.int) (k:=id) xs λ_ _=>rfl;rw[map_id]at this;exact this
theorem Bc(qP:List (List Int))(h:∀k∈qP,k≠[])(hl:qP.length<64):iz (qP.map mZ)=some ((nY qP).map mZ):=by
 unfold iz;rw[aaj (by rw[aaf];exact hl)];cases qP with
 |nil=>rfl
 |cons k r=>
  have e:bB (List.map mZ (k::r))=none:=by unfold bB ;rw[aap,cD];rfl
  rw[e];have e2:mQ (List.map mZ (k::r))=some (k::r):=by
   have:=lF (f:=λv=>match v with|.tup vs=>if vs.isEmpty then none else bB vs|_=>none) (g:=mZ) (k:=id) (k::r) λx hx=>by
    have hx:=h x hx;show (if (x.map Val.int).isEmpty=true then none else bB (x.map .int))=some x;rw[aam (by simpa using hx),ints_map]
   rw[map_id]at this;exact this
  show (mQ (List.map mZ (k::r))).bind _=_;rw[e2];rfl
theorem fD(s:String):PyData.strOk (Str.ofString s)=true:=by
 have:=PyProof.Rows.signs_ofString s;unfold PyData.strOk;rw[<-Array.all_toList,this,all_eq_true];intro c hc;obtain⟨d,_,rfl⟩:=mem_map.mp hc;have:=d.valid;simp only[decide_eq_true_eq];show d.val.toNat<1114112;unfold UInt32.isValidChar Nat.isValidChar at this;omega
theorem Ct{n:Nat}(e:PyData.strOk x=true):toD (n+1) h (.str x)=some (.str x):=aaj e
theorem Be{α:Type}{n:Nat}(f:α -> Val)(g:α -> PyData)(xs:List α)(e:∀x∈xs,toD n h (f x)=some (g x)):toD (n+1) h (.rl (xs.map f))=some (.list (xs.map g)):=by
 show (cD (toD n h) _).bind _=_;rw[lF xs e];rfl
theorem Lz{α:Type}{n:Nat}(f:α -> Val)(g:α -> PyData)(xs:List α)(e:∀x∈xs,toD n h (f x)=some (g x)):toD (n+1) h (.tup (xs.map f))=some (.tuple (xs.map g)):=by
 show (cD (toD n h) _).bind _=_;rw[lF xs e];rfl
theorem Hi{n:Nat}(ks:List Int):toD (n+2) h (mZ ks)=some (.tuple (ks.map .int)):=Lz _ _ ks λ_ _=>rfl
theorem j3{α:Type}(g:α -> PyData):∀(xs:List α),(∀x∈xs,(g x).canLay0=true)->PyData.canLayAll0 (xs.map g)=true
 |[],_=>by simp[PyData.canLayAll0]
 | x::r,h=>by
  rw[aap,PyData.canLayAll0,h x aal,j3 g r λy hy=>h y (aak _ hy)];rfl
theorem DV{n:Nat}(hc:c env=.ok true)(hb:body env=.ok (.nx env')):n9 c body (n+1) env=n9 c body n env':=by
 rw[n9,hc,az,aaj rfl,hb,az]
theorem Hj{n:Nat}(hc:c env=.ok false):n9 c body (n+1) env=.ok (.nx env):=by
 rw[n9,hc,az,aam (by decide)]
theorem vf{α:Type}(enc:α -> Val)(Q:List α -> aX->Prop):∀(us done:List α) (env:aX),Q done env->(∀(pre:List α) (u:α) (post:List α) (env:aX),done++us=pre++u::post->Q pre env->∃env',body (enc u) env=.ok (.nx env')/\Q (pre++[u]) env')->∃env',gO body (us.map enc) env=.ok (.nx env')/\Q (done++us) env'
 |[],done,env,q,_=>⟨env,rfl,by rw[append_nil];exact q⟩
 | x::xs,done,env,q,h=>by
  obtain⟨env',e,q'⟩:=h done x xs env rfl q;have eq:done++x::xs=done++[x]++xs:=by simp
  obtain⟨nh,e2,q2⟩:=vf enc Q xs (done++[x]) env' q' (by rw[<-eq];exact h);refine⟨nh,?_,by rw[eq];exact q2⟩;rw[aap,gO,e,az];exact e2
theorem gT{α:Type}(enc:α -> Val){us:List α}{oV:aX}{β:Type}{k:zY->Pr β}(G:Pr β -> Prop)(Q:List α -> aX->Prop)(h0:Q [] oV)
  (step:∀(pre:List α) (u:α) (post:List α) (env:aX),us=pre++u::post->Q pre env->∃env',body (enc u) env=.ok (.nx env')/\Q (pre++[u]) env')
  (post:∀env',Q us env'->G (k (.nx env'))):G (pb (gO body (us.map enc) oV) k):=by
 obtain⟨env',e,q⟩:=vf enc Q us [] oV h0 (λpre x post env ep q=>step pre x post env ep q);rw[e,az];exact post env' q
abbrev xw(xs:List Int)(g:Int->Val):Val:=.dc (xs.map Sum.inl) (xs.map g)
def sS(g:Int->Val)(x:Int)(v:Val):Int->Val:=λy=>if y=x then v else g y
theorem Bf(xs:List Int)(g:Int->Val):(xs.map (Sum.inl:Int->Key)).zip (xs.map g)=xs.map λx=>((Sum.inl x:Key),g x):=by
 induction xs with
 |nil=>rfl
 |cons x r ih=>simp only[map_cons,zip_cons_cons,ih]
theorem gJ{xs:List Int}{x:Int}(h:x∈xs):jl [] (xw xs g) (.int x)=some (g x):=by
 show dF _ _=_;rw[Bf];unfold dF
 induction xs with
 |nil=>simp at h
 |cons y r ih=>
  rw[aap,find?_cons]
  by_cases e:y=x
  ·subst e;simp
  ·have:((Sum.inl y:Key)=Sum.inl x)=False:=by simp[e]
   simp only[this,decide_false];exact ih (by rcases aaA.mp h with h|h;exact absurd h.symm e;exact h)
theorem Hl(xs:List Int)(g:Int->Val)(x:Int):((xs.map λx=>((Sum.inl x:Key),g x)).any λkv=>decide (kv.1=Sum.inl x))=decide (x∈xs):=by
 induction xs with
 |nil=>rfl
 |cons y r ih=>
  rw[aap,any_cons,ih]
  by_cases e:y=x
  ·subst e;simp
  ·have e':¬ x=y:=λh=>e h.symm;simp[e,e']
theorem wU{xs:List Int}{x:Int}(h:x∈xs):putD (xs.map Sum.inl) (xs.map g) (.inl x) v=xw xs (sS g x v):=by
 unfold putD mH;rw[Bf,Hl,aaj (by simpa using h)];unfold xw;rw[aaO,aaO]
 congr 1
 ·refine map_congr_left λy _=>?_
  show ((if (Sum.inl y:Key)=Sum.inl x then ((Sum.inl y:Key),v) else (Sum.inl y,g y)).1)=_
  split<;>rfl
 ·rw[aaO,aaO]
  refine map_congr_left λy _=>?_;show ((if (Sum.inl y:Key)=Sum.inl x then ((Sum.inl y:Key),v) else (Sum.inl y,g y)).2)=_;unfold sS
  by_cases e:y=x
  ·rw[aaj (by rw[e]),aaj e]
  ·rw[aam (by simpa using e),aam e]
theorem Cu{xs:List Int}{x:Int}(h:x∉xs):putD (xs.map Sum.inl) (xs.map g) (.inl x) v=xw (xs++[x]) (sS g x v):=by
 unfold putD mH;rw[Bf,Hl,aam (by simpa using h)];unfold xw;simp only[map_append,map_map,map_cons,map_nil]
 congr 1
 congr 1
 ·refine map_congr_left λy hy=>?_;show g y=sS g x v y;unfold sS;rw[aam (λe:y=x=>h (e▸hy))]
 ·simp[sS]
theorem dH{xs:List Int}(h:∀x∈xs,g x=g' x):xw xs g=xw xs g':=by
 unfold xw;rw[map_congr_left h]
theorem oB{x:Int}:keyOf (.int x)=some (.inl x):=rfl
theorem LA(a b:Int):PyData.eqv (.int a) (.int b)=decide (a=b):=by
 show (a==b)=_
 by_cases h:a=b<;>simp[h]
theorem yW{xs:List Int}{x:Int}:cop [] .AG (.int x) (.rl (xs.map .int))=some (decide (x∈xs)):=by
 show (toD 16 [] (.rl (xs.map .int))).bind _=_;rw[Be Val.int PyData.int xs λ_ _=>rfl];show some ((xs.map PyData.int).any λy=>PyData.eqv y (.int x))=_
 congr 1
 induction xs with
 |nil=>rfl
 |cons y r ih=>
  rw[aap,any_cons,ih,LA]
  by_cases e:y=x
  ·subst e;simp
  ·have e':¬ x=y:=λh=>e h.symm;simp[e,e']
theorem yX(x:Int):∀(ns ks:List Int),x∈jj ks ns↔x∈ks\/x∈ns
 |[],ks=>by simp[jj]
 | k::r,ks=>by
  rw[jj,yX x r,iw]
  split
  ·rename_i h
   constructor
   ·rintro(h'|h')
    ·exact .inl h'
    ·exact .inr (aak _ h')
   ·rintro(h'|h')
    ·exact .inl h'
    ·rcases aaA.mp h' with h'|h'
     ·exact .inl (h'▸h)
     ·exact .inr h'
  ·simp[or_assoc]
theorem sU:∀(ns ks:List Int),ks.Nodup->(jj ks ns).Nodup
 |[],ks,h=>h
 | k::r,ks,h=>by
  rw[jj];refine sU r _ ?_;rw[iw]
  split
  ·exact h
  ·rename_i hk;rw[nodup_append];exact⟨h,by simp,λa ha b hb=>by simp at hb;subst hb;exact λe=>hk (e▸ha)⟩
def jV(ns:List Int):List Int:=sortI (jj [] ns)
theorem Ho(x:Int)(ns:List Int):x∈jV ns↔x∈ns:=by
 unfold jV;rw[(sortI_perm _).mem_iff,yX];simp
theorem Bg(ns:List Int):(jV ns).Nodup:=by
 unfold jV;rw[(sortI_perm _).nodup_iff];exact sU ns [] nodup_nil
inductive Way (es:List (Int×Int)):Int->Int->Prop
 |refl (a:Int):Way es a a
 |fwd {a b c:Int}:Way es a b->(b,c)∈es->Way es a c
 |bwd {a b c:Int}:Way es a b->(c,b)∈es->Way es a c
theorem Way.trans{a b c:Int}(h:Way es a b)(k:Way es b c):Way es a c:=by
 induction k with
 |refl=>exact h
 |fwd _ m ih=>exact .fwd ih m
 |bwd _ m ih=>exact .bwd ih m
theorem Way.symm{a b:Int}(h:Way es a b):Way es b a:=by
 induction h with
 |refl=>exact .refl _
 |fwd _ m ih=>exact(Way.bwd (.refl _) m).trans ih
 |bwd _ m ih=>exact(Way.fwd (.refl _) m).trans ih
theorem Way.mono(hs:∀e∈es,e∈fs){a b:Int}(h:Way es a b):Way fs a b:=by
 induction h with
 |refl=>exact .refl _
 |fwd _ m ih=>exact .fwd ih (hs _ m)
 |bwd _ m ih=>exact .bwd ih (hs _ m)
theorem Way.const{α:Type}(f:Int -> α)(hf:∀e∈es,f e.1=f e.2){a b:Int}(h:Way es a b):f a=f b:=by
 induction h with
 |refl=>rfl
 |fwd _ m ih=>exact ih.trans (hf _ m)
 |bwd _ m ih=>exact ih.trans (hf _ m).symm
structure yY (ps:List Int) (es:List (Int×Int)) (f:Int->Int):Prop where
 AG:∀x∈ps,f x∈ps
 way:∀x∈ps,Way es x (f x)
 same:∀e∈es,f e.1=f e.2
theorem yY.iff{ps:List Int}(h:yY ps es f){x y:Int}(hx:x∈ps)(hy:y∈ps):f x=f y↔Way es x y:=by
 constructor
 ·intro e;have:=(h.way y hy).symm;rw[<-e]at this;exact(h.way x hx).trans this
 ·exact λw=>w.const f h.same
theorem yY.start(ps:List Int):yY ps [] id:=⟨λx h=>h,λx _=>.refl x,λe h=>by simp at h⟩
theorem yY.step{ps:List Int}(h:yY ps es f){a b:Int}(ha:a∈ps)(hb:b∈ps)(kept gone:Int)(hk:(kept=f a/\gone=f b)\/(kept=f b/\gone=f a)):yY ps (es++[(a,b)]) (λx=>if f x=gone then kept else f x):=by
 have up:∀{x y},Way es x y->Way (es++[(a,b)]) x y:=λw=>w.mono λe he=>aaQ _ he;have ab:Way (es++[(a,b)]) a b:=.fwd (.refl _) (by simp);refine⟨λx hx=>?_,λx hx=>?_,λe he=>?_⟩
 ·split
  ·rcases hk with ⟨k,_⟩|⟨k,_⟩<;>rw[k]<;>exact h.AG _ (by assumption)
  ·exact h.AG x hx
 ·split
  ·rename_i e
   have w1:=up (h.way x hx);rw[e]at w1;refine w1.trans ?_
   rcases hk with ⟨k,g⟩|⟨k,g⟩
   ·rw[k,g];exact((up (h.way b hb)).symm.trans ab.symm).trans (up (h.way a ha))
   ·rw[k,g];exact((up (h.way a ha)).symm.trans ab).trans (up (h.way b hb))
  ·exact up (h.way x hx)
 ·rcases aaP.mp he with he|he
  ·rw[h.same e he]
  ·rw[aat]at he
   subst he
   rcases hk with ⟨k,g⟩|⟨k,g⟩
   ·rw[k,g];rw[aaj (rfl:f b=f b)];split<;>rfl
   ·rw[k,g];rw[aaj (rfl:f a=f a)];split<;>rfl
abbrev T3:=Int×Int×Int
def l3(t:T3):List Int:=[t.1,t.2.1,t.2.2]
def aM(t:T3):Val:=.tup [.int t.1,.int t.2.1,.int t.2.2]
def wV(x:T3):List T3->List T3
 |[]=>[x]
 |y::r=>if HT.lexLt (l3 y) (l3 x)=true then y::wV x r else x::y::r
def gh:List T3->List T3
 |[]=>[]
 |x::r=>wV x (gh r)
theorem yZ(x:T3):∀l:List T3,wj (l3 x) (l.map l3)=(wV x l).map l3
 |[]=>rfl
 | y::r=>by
  rw[aap,wj,wV]
  split
  ·rw[aap,yZ x r]
  ·rfl
theorem vg:∀l:List T3,nY (l.map l3)=(gh l).map l3
 |[]=>rfl
 |x::r=>by rw[aap,nY,vg r,yZ];rfl
theorem pG(x:T3):∀l:List T3,(wV x l).Perm (x::l)
 |[]=>.refl _
 | y::r=>by
  rw[wV]
  split
  ·exact((pG x r).cons y).trans (List.Perm.swap ..)
  ·exact .refl _
theorem cL:∀l:List T3,(gh l).Perm l
 |[]=>.refl _
 |x::r=>(pG x _).trans ((cL r).cons x)
theorem LB(ts:List T3)(hl:ts.length<64):iz (ts.map aM)=some ((gh ts).map aM):=by
 have e:∀us:List T3,us.map aM=(us.map l3).map mZ:=λus=>by rw[aaO];rfl
 rw[e,Bc _ (λk hk=>by obtain⟨t,_,rfl⟩:=mem_map.mp hk;simp[l3]) (by rw[aaf];exact hl),vg,e]
theorem sV(hl:ts.length<64):gM .sorted [.rl (ts.map aM)]=.ok (true,.rl ((gh ts).map aM)):=by
 show pb (pl (iz _)) _=_;rw[LB ts hl];rfl
def uh(ts:List T3):Prop:=ts.Pairwise λa b=>a.1<b.1
theorem Cv(x:T3):∀l:List T3,uh l->(∀y∈l,y.1≠x.1)->uh (wV x l)
 |[],_,_=>by simp[wV,uh]
 | y::r,h,hn=>by
  unfold uh at *;rw[aaW]at h;have ny:y.1≠x.1:=hn y aal;rw[wV];have lx:HT.lexLt (l3 y) (l3 x)=decide (y.1<x.1):=by show HT.lexLt (y.1::_) (x.1::_)=_;rw[HT.ie,aam ny]
  rw[lx]
  by_cases c:y.1<x.1
  ·rw[aaj (by simpa using c),aaW]
   refine⟨λz hz=>?_,Cv x r h.2 λz hz=>hn z (aak _ hz)⟩
   rcases aaA.mp ((pG x r).mem_iff.mp hz) with hz|hz
   ·rw[hz];exact c
   ·exact h.1 z hz
  ·rw[aam (by simpa using c),aaW,aaW]
   refine⟨λz hz=>?_,h⟩;have:x.1<y.1:=by omega
   rcases aaA.mp hz with hz|hz
   ·rw[hz];exact this
   ·have:=h.1 z hz;omega
theorem oE:∀l:List T3,(l.map (·.1)).Nodup->uh (gh l)
 |[],_=>.nil
 | x::r,h=>by
  rw[aap,nodup_cons]at h;refine Cv x _ (oE r h.2) λy hy e=>h.1 ?_;rw[(cL r).mem_iff]at hy;exact mem_map.mpr ⟨y,hy,e⟩
def turnT(t:T3):T3:=(t.1,if t.2.2<t.2.1 then t.2.2 else t.2.1,if t.2.2>t.2.1 then t.2.2 else t.2.1)
def aE(p q:Int)(ts:List T3):Val:=.tup [.tup [.int p,.int q],.rl (ts.map aM)]
theorem qW{i j k:Nat}:bO (.tup [i,j,k]) (aM t) env=some (((env.set i (some (.sh,.int t.1))).set j (some (.sh,.int t.2.1))).set k (some (.sh,.int t.2.2))):=rfl
theorem Hq:DP (aM t) (some 1) none=.ok (true,.tup [.int t.2.1,.int t.2.2]):=rfl
theorem sW{α:Type}(enc:α -> Val)(g:α -> FV):∀(us:List α),(∀u∈us,f (enc u)=.ok (some (g u)))->jt f (us.map enc)=.ok (us.all λu=>(g u).1,us.map λu=>(g u).2)
 |[],_=>rfl
 | x::xs,h=>by
  rw[aap,jt,h x aal,az,sW enc g xs λy hy=>h y (aak _ hy),az];rfl
theorem bP{α:Type}(enc dec:α -> Val)(us:List α)(h:∀u∈us,f (enc u)=.ok (some (true,dec u))):jt f (us.map enc)=.ok (true,us.map dec):=by
 rw[sW enc (λu=>(true,dec u)) us h];simp
theorem nq{α:Type}(enc dec:α -> Val)(t:α -> Bool):∀(us:List α),(∀u∈us,f (enc u)=.ok (if t u=true then some (true,dec u) else none))->jt f (us.map enc)=.ok (true,(us.filter t).map dec)
 |[],_=>rfl
 | x::xs,h=>by
  rw[aap,jt,h x aal,az,nq enc dec t xs λy hy=>h y (aak _ hy),az]
  by_cases hx:t x=true
  ·rw[aaj hx,List.filter_cons_of_pos hx];rfl
  ·rw[aam hx,filter_cons_of_neg hx]
theorem LC:∀m,m<67->∀d,d<67->0<m->0<d->(m*d)%67≠0:=by decide +kernel
theorem LD{m c i j:Int}(hm:0<m/\m<67)(hi:0<=i/\i<67)(hj:0<=j/\j<67)(e:(m*i+c)%67=(m*j+c)%67):i=j:=by
 have key:∀i j:Int,0<=i->j<67->i<j->(m*i+c)%67=(m*j+c)%67->False:=by
  intro i j h0 h1 hlt e;obtain⟨a,ha⟩:=eq_ofNat_of_zero_le (show 0<=m by omega);obtain⟨d,hd⟩:=eq_ofNat_of_zero_le (show 0<=j-i by omega);have p:=LC a (by omega) d (by omega) (by omega) (by omega);have:m*j=m*i+m*(j-i):=by rw[Int.mul_sub];omega
  rw[this]at e;have e2:(m*(j-i))%67=0:=by omega
  rw[ha,hd]at e2;apply p;have:((a*d:Nat):Int)%67=0:=by rw[Int.natCast_mul];exact e2
  omega
 rcases Int.lt_trichotomy i j with h|h|h
 ·exact(key i j hi.1 hj.2 h e).elim
 ·exact h
 ·exact(key j i hj.1 hi.2 h e.symm).elim
theorem zb{α:Type}{f:Hs->Option α}{a:α}(e:f h=some a):ask f h=.ok a h:=by show (match f h with|some a=>Out.ok a h|none=>Out.no)=_;rw[e]
theorem j4{α β:Type}{f:Hs->Option α}{g:α -> M β}{a:α}(e:f h=some a):bnd (ask f) g h=g a h:=aB (zb e)
def RO(R:Nat->Prop):AP:=λo=>match o with
 |none=>False
 |some k=>R k
def Bh(φ:List Val->M Val)(θ:List Val->Pr FV):Prop:=∀(R:Nat->Prop) (h:Hs) (o a:Val) (ds:List Val) (f:Bool) (o' r:Val),(∀k,R k->k<h.length)->Dn (RO R) h o a->bM ds=true -> θ (o::ds)=.ok (f,.tup [o',r]) ->
 ∃(v:Val) (n1:Nat) (h':Hs),φ (a::ds) h=.ok v h'/\h.length<=n1/\n1<=h'.length/\(∀k,k<h.length->¬ R k->h'[k]?=h[k]?)/\Dn (RO λk=>R k\/(h.length<=k/\k<n1)) h' o' a/\Dn (Fr n1) h' r v
theorem DW:Bh φ (λ_=>.no):=λ_ _ _ _ _ _ _ _ _ _ _ e=>nomatch e
section
variable {Φ:Nat->List Val->M Val} {Ψ:Nat->List Val->Pr FV} {env env':Env} {h h1 h2:Hs}
theorem LF{b:Nat}{h1:Hs}(g:h1[b]?=some (.lst vs))(hl:decide (vs.length<sizeLine)=true):bnd (met .append (.ref b) [v]) (λ_=>ret (Fl.nx env)) h1=.ok (.nx env) (h1.set b (.lst (vs++[v]))):=by
 simp only[met];unfold bnd ask bH aQ put ret;dsimp only;rw[g];dsimp only;rw[aaj hl]
theorem nt(e:dB Φ st env h=.ok (.nx env') h1):fy Φ (.cons st r) env h=fy Φ r env' h1:=by
 rw[fy,aB e]
theorem LG{n c i:Nat}(hc:c<n)(g:h[i]?=some (.ins c fs))(hl:fs.length<1000):bnd (BQ n (.ref i) x v) (λ_=>ret (Fl.nx env)) h=.ok (.nx env) (h.set i (.ins c (iB x v fs))):=by
 unfold BQ;dsimp only;rw[aG,j4 (a:=(c,fs)) (by rw[g];dsimp only;rw[aaj hc])];dsimp only;unfold bnd aQ;rw[aaj (decide_eq_true hl)];rfl
theorem wW{n c i:Nat}(h0:env[0]?=some (some (.ref i)))(ev:aS Φ e env h=.ok v h1)(hc:c<n)(g:h1[i]?=some (.ins c fs))(hl:fs.length<1000):dB Φ (.setF n (!0) x e) env h=.ok (.nx env) (h1.set i (.ins c (iB x v fs))):=by
 rw[dB,aB ev,aB (cG h0)];exact LG hc g hl
theorem Hr:Imp φ (λ_=>.no):=λ_ _ _ _ _ _=>trivial
def um(Ψ:Nat->List Val->Pr FV)(env:aX):bQ->List Str->List Val->Pr (List Str×List Val)
 |.nil,xs,vs=>.ok (xs,vs)
 | .cons s r,xs,vs=>match s with
  |.setF _ (!0) x e=>pg (!xs.contains x&&decide (xs.length<9)) (pb (bq Ψ e env) λy=>pg y.1 (um Ψ env r (xs++[x]) (vs++[y.2])))
  |_=>.no
def LH(Ψ:Nat->List Val->Pr FV)(c:Nat)(body:bQ)(ds:List Val):Pr FV:=match um Ψ (none::ds.map λd=>some (.sh,d)) body [] [] with
 |.ok p=>.ok (true,.ob c p.1 p.2)
 |_=>.no
def VB(n:Nat):bQ->Bool
 |.nil=>true
 |.cons (.setF m (!0) _ e) r=>decide (m=n)&&dX e&&VB n r
 |_=>false
theorem vh:∀{fs:List (Str×Val)},(fs.map (·.1)).contains x=false->iB x v fs=fs++[(x,v)]
 |[],_=>rfl
 | (g,y)::r,e=>by
  simp only[map_cons,List.contains_cons,Bool.or_eq_false_iff,beq_eq_false_iff_ne]at e;rw[iB,aam λz=>e.1 z.symm,vh e.2];rfl
theorem Cw{n c o:Nat}(hΦ:∀j,Imp (Φ j) (Ψ j))(hc:c<n)(h0:env[0]?=some (some (.ref o)))(hA:¬ A (some o))(hv:∀(i:Nat) (f:Mk) (d:Val),ah[i]?=some (some (f,d))->iD f=true):∀(body:bQ) (h:Hs) (xs:List Str) (ds:List Val) (fs:List (Str×Val)) (xs':List Str) (ds':List Val),VB n body=true ->
  Up A h->ER A ah env h->h[o]?=some (.ins c fs)->fs.map (·.1)=xs->aA (Fr (o+1)) h ds (fs.map (·.2))->um Ψ ah body xs ds=.ok (xs',ds') ->
  ∃h' fs',fy Φ body env h=.ok (.nx env) h'/\h.length<=h'.length/\(∀k,k<o->h'[k]?=h[k]?)/\h'[o]?=some (.ins c fs')/\fs'.map (·.1)=xs'/\aA (Fr (o+1)) h' ds' (fs'.map (·.2))
 | .nil,h,xs,ds,fs,xs',ds',_,u,er,g,e1,q,e=>by
  rw[um]at e;cases e;exact⟨h,fs,by rw[fy];rfl,aao _,λ_ _=>rfl,g,e1,q⟩
 | .cons s r,h,xs,ds,fs,xs',ds',ho,u,er,g,e1,q,e=>by
  unfold VB at ho;split at ho
  ·rename_i hh;cases hh
  ·rename_i m x ex r' hh
   cases hh;have ho:=sO ho;have hm:m=n:=aay ho.1.1;subst hm;rw[um]at e
   try dsimp only at e
   unfold pg at e;split at e
   ·rename_i hg
    have hg:=fZ hg;have V:=(v_all hΦ).1 ex ho.1.2 ah env A h u er;cases ev:bq Ψ ex ah with
    |ok y=>
     rw[ev]at e V;obtain⟨v,h1,e2,p1,q1⟩:=V;change (if y.1=true then _ else _)=_ at e;split at e
     ·rename_i hy
      have g1:=cV p1 g;have ol:o<h.length:=(aag.mp g).1;have l1:=p1.length_le;have hn:(fs.map (·.1)).contains x=false:=by rw[e1];simpa using hg.1
      have lf:fs.length<1000:=by have:=aay hg.2;rw[<-e1,aaf]at this;omega
      have st:=wW (x:=x) h0 e2 hc g1 lf;rw[vh hn]at st;have mv:∀(B:AP),¬ B (some o)->∀ds vs,aA B h1 ds vs->aA B (h1.set o (.ins c (fs++[(x,v)]))) ds vs:=λB nb=>aA.mono (λ_ z=>z) λi ob a gi=>by
       rw[aah λz=>nb (by rw[z];exact a)];exact gi
      obtain⟨h',fs',r1,r2,r3,r4,r5,r6⟩:=Cw hΦ hc h0 hA hv r (h1.set o (.ins c (fs++[(x,v)]))) (xs++[x]) (ds++[y.2]) (fs++[(x,v)]) xs' ds' ho.2 (λk hk=>u k (by rw[length_set]at hk;omega))
       (λi f d z=>by
        have:=er i f d z;revert this
        split
        ·rename_i hf;rw[hv i f d z]at hf;cases hf
        ·rintro⟨w,k1,k2⟩
         exact⟨w,k1,by
          have:=mv A hA [d] [w] (aA.cons (k2.ext p1) aA.nil);rw[aA]at this;obtain⟨_,_,e,z,_⟩:=this;cases e;exact z⟩)
       (aar (by omega)) (by rw[aaN,e1];rfl)
       (by
        rw[aaN];refine mv (Fr (o+1)) (λz=>by have:o+1<=o:=z;omega) _ _ (aA.append (q.ext p1) (aA.cons ((q1.2 hy).fj (Fr.le (by omega))) aA.nil))) e
      refine⟨h',fs',by rw[nt st];exact r1,by rw[length_set]at r2;omega,λk hk=>?_,r4,r5,r6⟩;rw[r3 k hk,aah (by omega),dj p1 (by omega)]
     ·cases e
    |exc _ _=>rw[ev]at e;cases e
    |no=>rw[ev]at e;cases e
   ·cases e
  ·cases ho
theorem LI{n c m:Nat}(hc:c<n)(hΦ:∀j,Imp (Φ j) (Ψ j))(ho:VB n body=true):Imp (MC c (fz Φ m body)) (LH Ψ c body):=λA h ds vs u q=>by
 unfold LH;cases e:um Ψ (none::ds.map λd=>some (.sh,d)) body [] [] with
 |ok p=>
  obtain⟨xs',ds'⟩:=p;have hsh:∀(i:Nat) (f:Mk) (d:Val),(none::ds.map λd=>some (Mk.sh,d):aX)[i]?=some (some (f,d))->f=.sh/\∃k,i=k+1/\ds[k]?=some d:=λi f d z=>by
   cases i with
   |zero=>cases z
   |succ k=>
    rw[getElem?_cons_succ,aaB]at z;cases ek:ds[k]? with
    |none=>rw[ek]at z;cases z
    |some d'=>rw[ek]at z;cases z;exact⟨rfl,k,rfl,ek⟩
  let env:Env:=(Val.ref h.length::vs).map some++replicate (m-(Val.ref h.length::vs).length) none
  obtain⟨h',fs',r1,r2,r3,r4,r5,r6⟩:=Cw (n:=n) (c:=c) (o:=h.length) (A:=λa=>A a/\a≠some h.length) (env:=env) hΦ hc rfl (λz=>z.2 rfl) (λi f d z=>by rw[(hsh i f d z).1];rfl) body (h++[Ob.ins c []]) [] [] [] xs' ds' ho
   (λk hk=>⟨u k (by simp at hk;omega),λz=>by injection z with z;simp at hk;omega⟩)
   (λi f d z=>by
    obtain⟨rfl,k,rfl,ek⟩:=hsh i f d z;rw[aam (by decide)];obtain⟨w,k1,k2⟩:=q.get ek;refine⟨w,?_,?_⟩
    ·have hk:=(aag.mp k1).1;show ((Val.ref h.length::vs).map some++_)[k+1]?=_;rw[aas (by simpa using hk),aaB,getElem?_cons_succ,k1];rfl
    ·refine Dn.move (A:=A) (A':=λa=>A a/\a≠some h.length) (λz=>⟨z,λz=>nomatch z⟩) (λi ob a g=>⟨⟨a,λz=>?_⟩,cV (prefix_append _ _) g⟩) _ _ k2
     injection z with z
     have:=(aag.mp g).1;omega)
   (by simp) rfl aA.nil e
  have run:MC c (fz Φ m body) vs h=.ok (.ref h.length) h':=by
   show bnd (fz Φ m body (.ref h.length::vs)) _ (h++[Ob.ins c []])=_;have:fz Φ m body (.ref h.length::vs) (h++[Ob.ins c []])=.ok .non h':=by unfold fz;rw[aB r1];rfl
   rw[aB this];rfl
  have hpre:h<+:h':=by refine List.prefix_iff_getElem?.mpr λi hi=>?_;rw[r3 i hi,aas hi,aaJ hi]
  have dn:Dn (Fr h.length) h' (.ob c xs' ds') (.ref h.length):=by rw[Dn];exact⟨h.length,fs',rfl,aao _,r4,r5,r6.fj (Fr.le (by omega))⟩
  exact⟨_,h',run,hpre,dn.fj λz hz=>by
   cases z with
   |none=>exact hz.elim
   |some k=>exact u k hz,λ_=>dn⟩
 |exc _ _=>trivial
 |no=>trivial
abbrev zc(n jd:Nat):IE:=.call jd #[.fld n (!0) "net",!1,!2]
abbrev ze(jo:Nat):IE:=.call jo #[!1]
abbrev MT(n jd jo:Nat)(jsw jsl:List (Nat×Nat))(r1 r2:bQ):bQ :=
 .cons (.asg (.one 3) (.mth (!0) "won" jsw .nil)) (.cons (.iff (.cmp .ntn (!3) (.cst .non)) r1 .nil) (.cons (.iff (.cmp .ne (!1) (.fld n (!0) "side")) r2 .nil) (.cons (.setF n (!0) "net" (zc n jd)) (.cons (.setF n (!0) "side" (ze jo))
  #[.expr (.met .append (.fld n (!0) "done") #[.tup #[!1,!2]]),.ret (.mth (!0) "lying" jsl .nil)]))))
def cH(c:Nat)(N:Val)(s:Str)(ds:List Val):Val:=.ob c ["net","side","done"] [N,.str s,.rl ds]
def gj(o:Val)(s:Str)(t:Int):aX:=[some (.sh,o),some (.sh,.str s),some (.sh,.int t),some (.sh,.non)]
def Cy(s:Str)(t:Int):aX:=[none,some (.sh,.str s),some (.sh,.int t),some (.sh,.non)]
def vj(Ψ:Nat->List Val->Pr FV)(n c jd jo:Nat)(jsw jsl:List (Nat×Nat))(N:Val)(s:Str)(ds:List Val)(t:Int):Pr FV:=match bq Ψ (.mth (!0) "won" jsw .nil) (gj (cH c N s ds) s t) with
 | .ok (_,.non)=>(match bq Ψ (.cmp .ne (!1) (.fld n (!0) "side")) (gj (cH c N s ds) s t) with
  | .ok (_,.bl false)=>(match bq Ψ (zc n jd) (gj (cH c N s ds) s t) with
   | .ok (true,N')=>(match bq Ψ (ze jo) (Cy s t) with
    | .ok (_,.str s2)=>(match bq Ψ (.mth (!0) "lying" jsl .nil) (gj (cH c N' s2 (ds++[.tup [.str s,.int t]])) s t) with
     |.ok (true,r)=>.ok (true,.tup [cH c N' s2 (ds++[.tup [.str s,.int t]]),r])
     |_=>.no)
    |_=>.no)
   |_=>.no)
  |_=>.no)
 |_=>.no
def Yx:Val->Option (Nat×List Str×List Val)
 |.ob c xs vs=>some (c,xs,vs)
 |_=>none
def Xn:Val->Option Str
 |.str x=>some x
 |_=>none
def Yy:Val->Option (List Val)
 |.rl x=>some x
 |_=>none
def Xo:List Val->Option (Val×Val×Val)
 |[a,b,c]=>some (a,b,c)
 |_=>none
theorem Xp(h:Yx v=some y):v=.ob y.1 y.2.1 y.2.2:=by cases v<;>cases h;rfl
theorem UI(h:Xn v=some y):v=.str y:=by cases v<;>cases h;rfl
theorem Xq(h:Yy v=some y):v=.rl y:=by cases v<;>cases h;rfl
theorem Xr{y:Int}(h:kj v=some y):v=.int y:=by cases v<;>cases h;rfl
theorem MU(h:Xo vs=some y):vs=[y.1,y.2.1,y.2.2]:=by
 rcases vs with _|⟨a,_|⟨b,_|⟨c,_|⟨d,r⟩⟩⟩⟩<;>cases h;rfl
def Xs(vs:List Val):Option (Nat×List Str×Val×Str×List Val×Str×Int):=(Xo vs).bind λy=>(Yx y.1).bind λo=>(Xo o.2.2).bind λz=>(Xn z.2.1).bind λs=>(Yy z.2.2).bind λd=>(Xn y.2.1).bind λs'=>(kj y.2.2).bind λt=>some (o.1,o.2.1,z.1,s,d,s',t)
theorem Xu(h:Xs vs=some y):vs=[.ob y.1 y.2.1 [y.2.2.1,.str y.2.2.2.1,.rl y.2.2.2.2.1],.str y.2.2.2.2.2.1,.int y.2.2.2.2.2.2]:=by
 obtain⟨a,h1,h⟩:=aad.mp h;obtain⟨o,h2,h⟩:=aad.mp h;obtain⟨z,h3,h⟩:=aad.mp h;obtain⟨s,h4,h⟩:=aad.mp h;obtain⟨d,h5,h⟩:=aad.mp h;obtain⟨s',h6,h⟩:=aad.mp h;obtain⟨t,h7,h⟩:=aad.mp h;cases h;rw[MU h1,Xp h2,MU h3,UI h4,Xq h5,UI h6,Xr h7]
def Ht(Ψ:Nat->List Val->Pr FV)(n c jd jo:Nat)(jsw jsl:List (Nat×Nat))(vs:List Val):Pr FV:=match Xs vs with
 |some y=>pg (decide (y.1=c/\y.2.1=(["net","side","done"]:List Str)/\y.2.2.2.2.2.1=y.2.2.2.1)&&bM y.2.2.2.2.1&&decide (y.2.2.2.2.1.length<1000)) (vj Ψ n c jd jo jsw jsl y.2.2.1 y.2.2.2.1 y.2.2.2.2.1 y.2.2.2.2.2.2)
 |none=>.no
theorem zf:∀(a b:List Val),bM (a++b)=(bM a&&bM b)
 |[],_=>rfl
 |x::a,b=>by rw[List.cons_append,bM,bM,zf a b,Bool.and_assoc]
theorem qX{t:Int}(q:Dn A h o a):ER A (gj o s t) [some a,some (.str s),some (.int t),some .non] h:=λi f d z=>by
 match i,z with
 |0,z=>cases z;exact⟨a,rfl,q⟩
 |1,z=>cases z;exact⟨_,rfl,by rw[Dn]⟩
 |2,z=>cases z;exact⟨_,rfl,by rw[Dn]⟩
 |3,z=>cases z;exact⟨_,rfl,by rw[Dn]⟩
theorem Hu{n c jd jo:Nat}{r1 r2:bQ}(hc:c<n)(hΦ:∀j,Imp (Φ j) (Ψ j)):Bh (fz Φ 4 (MT n jd jo jsw jsl r1 r2)) (Ht Ψ n c jd jo jsw jsl):=λR h o a ds f o' r hR q hi e=>by
 have V:=(v_all hΦ).1;cases hd:Xs (o::ds) with
 |some y=>
  obtain⟨c',xs,N,s,dd,s',t⟩:=y;have ho:=Xu hd;dsimp only at ho;cases ho;change pg (decide (c'=c/\xs=(["net","side","done"]:List Str)/\s'=s)&&bM dd&&decide (dd.length<1000)) (vj Ψ n c jd jo jsw jsl N s dd t)=_ at e;unfold pg at e;split at e
  ·rename_i hg
   have hg:=sO hg;obtain⟨rfl,rfl,rfl⟩:=aay hg.1.1;have hl:=aay hg.2;have q0:=q;rw[Dn]at q;obtain⟨i,fs,rfl,ri,gi,ef,q⟩:=q;have li:=hR i ri;rw[aA]at q;obtain⟨vN,_,e1,qN,q⟩:=q;rw[aA]at q;obtain⟨vs,_,rfl,qs,q⟩:=q;obtain⟨vd,rfl,qd⟩:=aA.one q;rw[Dn]at qs;subst qs;rw[Dn]at qd
   rcases qd with ⟨_,_,z,_⟩|⟨d,ws,rfl,rd,gd,qd⟩
   ·exact z.elim
   have ew:ws=dd:=(bN _ _ hg.1.2).mp qd;subst ew;have ld:=hR d rd;have efs:fs=[(("net":Str),vN),("side",.str s'),("done",.ref d)]:=by
    match fs,ef,e1 with
    |[(x1,y1),(x2,y2),(x3,y3)],ef,e1=>simp only[map_cons,map_nil,List.cons.injEq,and_true]at ef e1;obtain⟨rfl,rfl,rfl⟩:=ef;obtain⟨rfl,rfl,rfl⟩:=e1;rfl
   subst efs;have nid:i≠d:=λz=>by rw[z,gd]at gi;cases gi
   let T:AP:=λ_=>True
   have uT:∀g:Hs,Up T g:=λ_ _ _=>trivial;have qT:Dn T h (cH c' N s' ws) (.ref i):=q0.fj λ_ _=>trivial
   let env:Env:=[some (.ref i),some (.str s'),some (.int t),some .non]
   unfold vj at e;have W:=V (.mth (!0) "won" jsw .nil) rfl (gj (cH c' N s' ws) s' t) env T h (uT h) (qX qT);split at e
   ·rename_i fw ew
    rw[ew] at W;obtain⟨v1,h1,w1,p1,w2⟩:=W;have w2:=w2.1;dsimp only at w2;rw[Dn]at w2;subst w2;have Yz:=qT.ext p1;have C:=V (.cmp .ne (!1) (.fld n (!0) "side")) rfl (gj (cH c' N s' ws) s' t) env T h1 (uT h1) (qX Yz);split at e
    ·rename_i fc ec
     rw[ec] at C;obtain⟨v2,h2,x1,p2,x2⟩:=C;have x2:=x2.1;dsimp only at x2;rw[Dn]at x2;subst x2;have qT2:=Yz.ext p2;have D:=V (zc n jd) rfl (gj (cH c' N s' ws) s' t) env T h2 (uT h2) (qX qT2);split at e
     ·rename_i N' ed
      rw[ed] at D;obtain⟨vN',h3,y1,p3,y2⟩:=D;have y2:=y2.2 rfl;have Xv:=(p1.trans p2).trans p3;have g3:=cV Xv gi;have d3:=cV Xv gd;have l12:=(p1.trans p2).length_le;have l23:=p3.length_le
      let h4:Hs:=h3.set i (.ins c' [("net",vN'),("side",.str s'),("done",.ref d)])
      have g4:h4[i]?=some (.ins c' [("net",vN'),("side",.str s'),("done",.ref d)]):=aar (by omega);have O:=V (ze jo) rfl (Cy s' t) env T h4 (uT h4) (λk f' d' z=>by
       match k,z with
       |0,z=>cases z
       |1,z=>cases z;exact⟨_,rfl,by rw[Dn]⟩
       |2,z=>cases z;exact⟨_,rfl,by rw[Dn]⟩
       |3,z=>cases z;exact⟨_,rfl,by rw[Dn]⟩)
      split at e
      ·rename_i fo s2 eo
       rw[eo] at O;obtain⟨v5,h5,z1,p5,z2⟩:=O;have z2:=z2.1;dsimp only at z2;rw[Dn]at z2;subst z2;have g5:=cV p5 g4;have l4:h4.length=h3.length:=length_set;have l45:=p5.length_le
       let h6:Hs:=h5.set i (.ins c' [("net",vN'),("side",.str s2),("done",.ref d)])
       have l6:h6.length=h5.length:=length_set;have d6:h6[d]?=some (.lst ws):=by show (h5.set i _)[d]?=_;rw[aah nid,dj p5 (by omega)];show (h3.set i _)[d]?=_;rw[aah nid];exact d3
       let h7:Hs:=h6.set d (.lst (ws++[.tup [.str s',.int t]]))
       have l7:h7.length=h6.length:=length_set;have g7:h7[i]?=some (.ins c' [("net",vN'),("side",.str s2),("done",.ref d)]):=by show (h6.set d _)[i]?=_;rw[aah (Ne.symm nid)];exact aar (by omega)
       have d7:h7[d]?=some (.lst (ws++[.tup [.str s',.int t]])):=aar (by omega);have k7:∀k,k≠i->k≠d->k<h3.length->h7[k]?=h3[k]?:=λk a b hk=>by
        show (h6.set d _)[k]?=_;rw[aah (Ne.symm b)];show (h5.set i _)[k]?=_;rw[aah (Ne.symm a),dj p5 (by omega)];show (h3.set i _)[k]?=_;rw[aah (Ne.symm a)]
       have qN7:∀h8,h7<+:h8->Dn (RO λk=>R k\/(h.length<=k/\k<h7.length)) h8 (cH c' N' s2 (ws++[.tup [.str s',.int t]])) (.ref i):=λh8 p8=>by
        show Dn _ _ (.ob _ _ _) _;rw[Dn];refine⟨i,_,rfl,.inl ri,cV p8 g7,rfl,aA.cons ?_ (aA.cons (by rw[Dn]) (aA.cons ?_ aA.nil))⟩
        ·refine Dn.move (A:=Fr h2.length) (λz=>False.elim z) (λk ob ha g=>?_) _ _ y2;have ha:h2.length<=k:=ha;have hk:=(aag.mp g).1;exact⟨.inr ⟨by omega,by omega⟩,cV p8 ((k7 k (by omega) (by omega) hk).trans g)⟩
        ·rw[Dn];refine .inr ⟨d,_,rfl,.inl rd,cV p8 d7,(bN _ _ ?_).mpr rfl⟩;rw[zf,hg.1.2];rfl
       have L:=V (.mth (!0) "lying" jsl .nil) rfl (gj (cH c' N' s2 (ws++[.tup [.str s',.int t]])) s' t) env T h7 (uT h7) (qX ((qN7 h7 (aaC _)).fj λ_ _=>trivial));split at e
       ·rename_i rr er
        cases e;rw[er] at L;obtain⟨v8,h8,b1,p8,b2⟩:=L;have b2:=b2.2 rfl;refine⟨v8,h7.length,h8,?_,by omega,p8.length_le,λk hk nk=>?_,qN7 h8 p8,b2⟩
        ·show bnd (fy Φ (MT n jd jo jsw jsl r1 r2) [some (.ref i),some (.str s'),some (.int t),none]) _ h=_
         rw[aB (a:=.rt v8) (h1:=h8)]
         ·rfl
         have a1:dB Φ (.asg (.one 3) (.mth (!0) "won" jsw .nil)) [some (.ref i),some (.str s'),some (.int t),none] h=.ok (.nx env) h1:=by
          have:aS Φ (.mth (!0) "won" jsw .nil) [some (.ref i),some (.str s'),some (.int t),none] h=.ok .non h1:=by rw[aS]at w1 |-;exact w1
          rw[dB,aB this];rfl
         rw[nt a1];have a2:dB Φ (.iff (.cmp .ntn (!3) (.cst .non)) r1 .nil) env h1=.ok (.nx env) h1:=by
          rw[dB,aB (a:=.bl false) (h1:=h1)]
          ·rw[j4 (a:=false) rfl,aam aac,fy];rfl
          ·rw[aS,aB (cG (v:=.non) rfl),aB (a:=.non) (h1:=h1) (by rw[aS];rfl)];rfl
         rw[nt a2];have a3:dB Φ (.iff (.cmp .ne (!1) (.fld n (!0) "side")) r2 .nil) env h1=.ok (.nx env) h2:=by rw[dB,aB x1,j4 (a:=false) rfl,aam aac,fy];rfl
         have a4:=wW (x:="net") (env:=env) rfl y1 hc g3 (by decide:3<1000);rw[show iB "net" vN' [("net",vN),("side",.str s'),("done",.ref d)]=[(("net":Str),vN'),("side",.str s'),("done",.ref d)] by rw[iB,aaj rfl]]at a4;have a5:=wW (x:="side") (env:=env) rfl z1 hc g5 (by decide:3<1000);rw[show iB "side" (.str s2) [("net",vN'),("side",.str s'),("done",.ref d)]=[(("net":Str),vN'),("side",.str s2),("done",.ref d)] by rw[iB,aam (by decide),iB,aaj rfl]]at a5;rw[nt a3,nt a4,nt a5];have a6:dB Φ (.expr (.met .append (.fld n (!0) "done") #[.tup #[!1,!2]])) env h6=.ok (.nx env) h7:=by
          have g6:h6[i]?=some (.ins c' [("net",vN'),("side",.str s2),("done",.ref d)]):=aar (by omega);have f6:aS Φ (.fld n (!0) "done") env h6=.ok (.ref d) h6:=by rw[aS,aB (cG (v:=.ref i) rfl)];refine zb (f:=λg=>r8 n g (.ref i) "done") ?_;unfold r8;dsimp only;rw[g6];dsimp only;rw[aaj hc];rfl
          have t6:aS Φ (.tup #[!1,!2]) env h6=.ok (.tup [.str s',.int t]) h6:=by
           rw[aS,aB (a:=[.str s',.int t]) (h1:=h6)]
           ·rfl
           ·rw[bC,aB (cG (v:=.str s') rfl),aB (a:=[.int t]) (h1:=h6)]
            ·rfl
            ·rw[bC,aB (cG (v:=.int t) rfl),bC];rfl
          rw[dB,aS,aG,aB f6];have b1:recv h6 .append (.ref d)=some ():=by show (match h6[d]? with|some (.lst _)=>some ()|_=>none)=_;rw[d6]
          rw[aG,j4 (f:=λh=>recv h .append (.ref d)) b1,aG,aB (a:=[.tup [.str s',.int t]]) (h1:=h6)]
          ·exact LF d6 (decide_eq_true (by unfold sizeLine;omega))
          ·rw[bC,aB t6,bC];rfl
         rw[nt a6,fy,dB,aB (a:=.rt v8) (h1:=h8)]
         ·rfl
         ·rw[aB b1];rfl
        ·rw[dj p8 (by omega),k7 k (λz=>nk (z▸ri)) (λz=>nk (z▸rd)) (by omega),dj Xv hk]
       ·cases e
      ·cases e
     ·cases e
    ·cases e
   ·cases e
  ·cases e
 |none=>unfold Ht at e;rw[hd]at e;cases e
end
section
variable {Φ:Nat->List Val->M Val} {Ψ:Nat->List Val->Pr FV}
def Qy(Ψ:Nat->List Val->Pr FV)(n:Nat)(body:bQ):List Val->Pr FV
 |.clo d::ws=>cu Ψ n body (ws++[d])
 |_=>.no
theorem LJ{n:Nat}(hΦ:∀j,Imp (Φ j) (Ψ j))(ho:wO body=true):Imp (PD Φ n body) (Qy Ψ n body):=λA h ds vs u q=>by
 unfold Qy
 split
 ·rename_i d ws;rw[aA]at q;obtain⟨v,r,rfl,q1,q2⟩:=q;rw[Dn]at q1;obtain⟨w,rfl,q1⟩:=q1;exact bf hΦ ho A h (ws++[d]) (r++[w]) u (aA.append q2 (aA.cons q1 aA.nil))
 ·trivial
def Cz(Ψ:Nat->List Val->Pr FV)(e:IE):List Val->Pr FV
 | [d]=>(match bq Ψ e [some (.sh,d)] with
  |.ok (true,.rl xs)=>.ok (true,.clo (.rl xs))
  |_=>.no)
 |_=>.no
theorem Hw(hΦ:∀j,Imp (Φ j) (Ψ j))(ho:dX e=true):Imp (GD Φ e) (Cz Ψ e):=λA h ds vs u q=>by
 unfold Cz
 split
 ·rename_i d
  obtain⟨v0,rfl,q'⟩:=aA.one q;have V:=(v_all hΦ).1 e ho [some (.sh,d)] [some v0,none,none] A h u λi f d' z=>by
   match i,z with
   |0,z=>cases z;exact⟨v0,rfl,q'⟩
  split
  ·rename_i xs ev
   rw[ev] at V;obtain⟨v,h1,e1,p1,q1,q2⟩:=V;have q3:=q2 rfl;rw[Dn]at q3
   rcases q3 with ⟨_,_,z,_⟩|⟨i,ws,rfl,_⟩
   ·exact z.elim
   refine⟨.clo (.ref i),h1,?_,p1,by rw[Dn];exact⟨_,rfl,q1⟩,λ_=>by rw[Dn];exact⟨_,rfl,q2 rfl⟩⟩;show bnd (aS Φ e [some v0,none,none]) _ h=_;rw[aB e1];rfl
  ·trivial
 ·trivial
abbrev Bj(js:List (Nat×Nat)):IE:=.mth (!4) "won" js .nil
abbrev DX(js:List (Nat×Nat)):IE:=.cmp .isn (Bj js) (.cst .non)
abbrev zg(js:List (Nat×Nat)):IE:=.mth (!4) "turn" js .nil
abbrev zh:IE:=.ite (.cmp .eq (!6) (.cst (.str "linker"))) (!2) (!3)
abbrev zj(jh:Nat)(js:List (Nat×Nat)):IE:=.mth (!7) "" [(0,jh)] #[.mth (!4) "lying" js .nil,!5]
abbrev YA(js:List (Nat×Nat)):IE:=.mth (!4) "deed" js #[!6,!8]
abbrev Hx(js:List (Nat×Nat)):IE:=.mth (!4) "deeds" js .nil
abbrev Qz(jst jsl jsd:List (Nat×Nat))(jh:Nat):bQ:=.cons (.asg (.one 6) (zg jst)) #[.asg (.one 7) zh,.asg (.one 8) (zj jh jsl),.expr (YA jsd),.asg (.one 5) (!8)]
abbrev UJ(m jP jh:Nat)(jsw jst jsl jsd Bk:List (Nat×Nat)):bQ :=
 .cons (.asg (.one 4) (.call jP #[!0,!1])) #[.asg (.one 5) (.cst .non),.whl m (DX jsw) (Qz jst jsl jsd jh),.ret (.tup #[Bj jsw,Hx Bk])]
def pH(lk ct o t:Val):aX:=[none,none,some (.sh,lk),some (.sh,ct),some (.sh,o),some (.sh,t)]
def LK(lk ct:Val)(s:Str):aX:=[none,none,some (.sh,lk),some (.sh,ct),none,none,some (.sh,.str s)]
def LL(o t hd:Val):aX:=[none,none,none,none,some (.sh,o),some (.sh,t),none,some (.sh,hd)]
def LM(Ψ:Nat->List Val->Pr FV)(jsw Bk:List (Nat×Nat))(lk ct o t:Val):Pr FV:=match bq Ψ (Bj jsw) (pH lk ct o t) with
 | .ok (_,w)=>pg (ko w) (match bq Ψ (Hx Bk) (pH lk ct o t) with
  |.ok (true,d)=>.ok (true,.tup [w,d])
  |_=>.no)
 |_=>.no
def Hy(Ψ Θ:Nat->List Val->Pr FV)(jh:Nat)(jst jsl jsd:List (Nat×Nat))(lk ct o t:Val):Pr (Val×Val):=match bq Ψ (zg jst) (pH lk ct o t) with
 | .ok (_,.str s)=>(match bq Ψ zh (LK lk ct s) with
  | .ok (_,hd)=>(match bq Ψ (zj jh jsl) (LL o t hd) with
   | .ok (_,.int x)=>(match kF [] o "deed" jsd with
    | some j=>(match Θ j [o,.str s,.int x] with
     |.ok (_,.tup [o',_])=>.ok (o',.int x)
     |_=>.no)
    |none=>.no)
   |_=>.no)
  |_=>.no)
 |_=>.no
def wX(Ψ Θ:Nat->List Val->Pr FV)(jh:Nat)(jsw jst jsl jsd Bk:List (Nat×Nat))(lk ct:Val):Nat->Val->Val->Pr FV
 |0,_,_=>.no
 | n+1,o,t=>match bq Ψ (DX jsw) (pH lk ct o t) with
  | .ok (_,.bl true)=>(match Hy Ψ Θ jh jst jsl jsd lk ct o t with
   |.ok p=>wX Ψ Θ jh jsw jst jsl jsd Bk lk ct n p.1 p.2
   |_=>.no)
  |.ok (_,.bl false)=>LM Ψ jsw Bk lk ct o t
  |_=>.no
def LN(Ψ Θ:Nat->List Val->Pr FV)(m jP jh:Nat)(jsw jst jsl jsd Bk:List (Nat×Nat)):List Val->Pr FV
 | [N,b,lk,ct]=>(match Ψ jP [N,b] with
  | .ok (true,o)=>(match wX Ψ Θ jh jsw jst jsl jsd Bk lk ct m o .non with
   |.ok p=>.ok p
   |_=>.no)
  |_=>.no)
 |_=>.no
def TT:AP:=λ_=>True
def Od(n:Nat):AP:=λo=>match o with
 |none=>True
 |some k=>k<n
section
variable {Θ:Nat->List Val->Pr FV} {h0 h:Hs} {lk ct vl vc a o t:Val} {n0 n1 x6 x7 x8:Option Val} {R:Nat->Prop}
structure uo (h0 h:Hs) (lk ct vl vc a o t:Val) (R:Nat->Prop):Prop where
 le:h0.length<=h.length
 own:∀k,R k->h0.length<=k/\k<h.length
 old:∀k,k<h0.length->h[k]?=h0[k]?
 ob:Dn (RO R) h o a
 tk:∀A g,Dn A g t t
 lk:Dn (Od h0.length) h lk vl
 ct:Dn (Od h0.length) h ct vc
theorem uo.ext{h1:Hs}(I:uo h0 h lk ct vl vc a o t R)(p:h<+:h1):uo h0 h1 lk ct vl vc a o t R :=
 ⟨aaH I.le p.length_le,λk z=>⟨(I.own k z).1,aaq (I.own k z).2 p.length_le⟩,λk z=>(dj p (aaq z I.le)).trans (I.old k z),I.ob.ext p,I.tk,I.lk.ext p,I.ct.ext p⟩
theorem uo.er(I:uo h0 h lk ct vl vc a o t R):ER TT (pH lk ct o t) [n0,n1,some vl,some vc,some a,some t,x6,x7,x8] h:=λi f d z=>by
 match i,z with
 |2,z=>cases z;exact⟨vl,rfl,I.lk.fj λ_ _=>trivial⟩
 |3,z=>cases z;exact⟨vc,rfl,I.ct.fj λ_ _=>trivial⟩
 |4,z=>cases z;exact⟨a,rfl,I.ob.fj λ_ _=>trivial⟩
 |5,z=>cases z;exact⟨t,rfl,I.tk _ _⟩
variable {jh:Nat} {jsw jst jsl jsd Bk:List (Nat×Nat)}
theorem Hz(hΦ:∀j,Imp (Φ j) (Ψ j))(hΘ:∀j,Bh (Φ j) (Θ j))(I:uo h0 h lk ct vl vc a o t R)(e:Hy Ψ Θ jh jst jsl jsd lk ct o t=.ok (o',t')) :
  ∃R' h' y6 y7 y8,fy Φ (Qz jst jsl jsd jh) [n0,n1,some vl,some vc,some a,some t,x6,x7,x8] h=.ok (.nx [n0,n1,some vl,some vc,some a,some t',y6,y7,y8]) h'/\uo h0 h' lk ct vl vc a o' t' R':=by
 have V:=(v_all hΦ).1;have uT:∀g:Hs,Up TT g:=λ_ _ _=>trivial;unfold Hy at e;have W:=V (zg jst) rfl _ _ TT h (uT h) (I.er (n0:=n0) (n1:=n1) (x6:=x6) (x7:=x7) (x8:=x8));split at e
 ·rename_i s ew
  rw[ew] at W;obtain⟨v1,h1,w1,p1,w2,_⟩:=W;dsimp only at w2;rw[Dn]at w2;subst w2;have I1:=I.ext p1;have C:=V zh rfl (LK lk ct s) [n0,n1,some vl,some vc,some a,some t,some (.str s),x7,x8] TT h1 (uT h1) λi f d z=>by
   match i,z with
   |2,z=>cases z;exact⟨vl,rfl,I1.lk.fj λ_ _=>trivial⟩
   |3,z=>cases z;exact⟨vc,rfl,I1.ct.fj λ_ _=>trivial⟩
   |6,z=>cases z;exact⟨_,rfl,by rw[Dn]⟩
  split at e
  ·rename_i hd ec
   rw[ec] at C;obtain⟨v2,h2,c1,p2,c2,_⟩:=C;have I2:=I1.ext p2;have D:=V (zj jh jsl) rfl (LL o t hd) [n0,n1,some vl,some vc,some a,some t,some (.str s),some v2,x8] TT h2 (uT h2) λi f d z=>by
    match i,z with
    |4,z=>cases z;exact⟨a,rfl,I2.ob.fj λ_ _=>trivial⟩
    |5,z=>cases z;exact⟨t,rfl,I2.tk _ _⟩
    |7,z=>cases z;exact⟨v2,rfl,c2⟩
   split at e
   ·rename_i x ed
    rw[ed] at D;obtain⟨v3,h3,d1,p3,d2,_⟩:=D;dsimp only at d2;rw[Dn]at d2;subst d2;have I3:=I2.ext p3;split at e
    ·rename_i j ej
     split at e
     ·rename_i f o2 r2 eo
      cases e;obtain⟨v4,m4,h4,o1,l1,l2,o2,o3,_⟩:=hΘ j R h3 o a [.str s,.int x] f o' r2 (λk z=>(I3.own k z).2) I3.ob rfl eo;have mj:=GL (.inl I3.ob) ej;refine⟨λk=>R k\/(h3.length<=k/\k<m4),h4,some (.str s),some v2,some (.int x),?_,?_⟩
      ·have a1:dB Φ (.asg (.one 6) (zg jst)) [n0,n1,some vl,some vc,some a,some t,x6,x7,x8] h=.ok (.nx [n0,n1,some vl,some vc,some a,some t,some (.str s),x7,x8]) h1:=by rw[dB,aB w1];rfl
       have a2:dB Φ (.asg (.one 7) zh) [n0,n1,some vl,some vc,some a,some t,some (.str s),x7,x8] h1=.ok (.nx [n0,n1,some vl,some vc,some a,some t,some (.str s),some v2,x8]) h2:=by rw[dB,aB c1];rfl
       have a3:dB Φ (.asg (.one 8) (zj jh jsl)) [n0,n1,some vl,some vc,some a,some t,some (.str s),some v2,x8] h2=.ok (.nx [n0,n1,some vl,some vc,some a,some t,some (.str s),some v2,some (.int x)]) h3:=by rw[dB,aB d1];rfl
       have a4:dB Φ (.expr (YA jsd)) [n0,n1,some vl,some vc,some a,some t,some (.str s),some v2,some (.int x)] h3=.ok (.nx [n0,n1,some vl,some vc,some a,some t,some (.str s),some v2,some (.int x)]) h4:=by
        rw[dB,aB (a:=v4) (h1:=h4)]
        ·rfl
        ·rw[aS,aB (cG (v:=a) rfl),j4 (f:=λh=>kF h a "deed" jsd) mj,aB (a:=[.str s,.int x]) (h1:=h3)]
         ·exact o1
         ·rw[bC,aB (cG (v:=.str s) rfl),aB (a:=[.int x]) (h1:=h3)]
          ·rfl
          ·rw[bC,aB (cG (v:=.int x) rfl),bC];rfl
       have a5:dB Φ (.asg (.one 5) (!8)) [n0,n1,some vl,some vc,some a,some t,some (.str s),some v2,some (.int x)] h4=.ok (.nx [n0,n1,some vl,some vc,some a,some (.int x),some (.str s),some v2,some (.int x)]) h4:=by rw[dB,aB (cG (v:=.int x) rfl)];rfl
       rw[nt a1,nt a2,nt a3,nt a4,nt a5,fy];rfl
      ·have kp:∀k,k<h0.length->h4[k]?=h3[k]?:=λk z=>o2 k (aaq z I3.le) λy=>absurd (I3.own k y).1 (Nat.not_le_of_lt z)
       have mv:∀g w,Dn (Od h0.length) h3 g w->Dn (Od h0.length) h4 g w:=Dn.mono (λ_ z=>z) λi ob z q=>(kp i z).trans q;have l3:=I3.le;refine⟨by omega,λk z=>?_,λk z=>(kp k z).trans (I3.old k z),o3,λA g=>by rw[Dn],mv _ _ I3.lk,mv _ _ I3.ct⟩
       rcases z with z|⟨z1,z2⟩
       ·have:=I3.own k z;omega
       ·omega
     ·cases e
    ·cases e
   ·cases e
  ·cases e
 ·cases e
theorem zk(hΦ:∀j,Imp (Φ j) (Ψ j))(hΘ:∀j,Bh (Φ j) (Θ j)){f:Bool}:∀(n:Nat) (h:Hs) (o t:Val) (R:Nat->Prop) (x6 x7 x8:Option Val),uo h0 h lk ct vl vc a o t R->wX Ψ Θ jh jsw jst jsl jsd Bk lk ct n o t=.ok (f,d) ->
  ∃h' o' t' R' y6 y7 y8,dB Φ (.whl n (DX jsw) (Qz jst jsl jsd jh)) [n0,n1,some vl,some vc,some a,some t,x6,x7,x8] h=.ok (.nx [n0,n1,some vl,some vc,some a,some t',y6,y7,y8]) h'/\uo h0 h' lk ct vl vc a o' t' R'/\LM Ψ jsw Bk lk ct o' t'=.ok (f,d)
 |0,h,o,t,R,x6,x7,x8,I,e=>nomatch e
 | n+1,h,o,t,R,x6,x7,x8,I,e=>by
  have W:=(v_all hΦ).1 (DX jsw) rfl _ _ TT h (λ_ _=>trivial) (I.er (n0:=n0) (n1:=n1) (x6:=x6) (x7:=x7) (x8:=x8));rw[wX]at e;split at e
  ·rename_i ew
   rw[ew] at W;obtain⟨v1,h1,w1,p1,w2,_⟩:=W;dsimp only at w2;rw[Dn]at w2;subst w2;split at e
   ·rename_i p ep;obtain⟨R1,h2,y6,y7,y8,r1,I2⟩:=Hz (n0:=n0) (n1:=n1) (x6:=x6) (x7:=x7) (x8:=x8) hΦ hΘ (I.ext p1) ep;obtain⟨h',o',t',R',z6,z7,z8,r2,I3,e3⟩:=zk hΦ hΘ n h2 p.1 p.2 R1 y6 y7 y8 I2 e;refine⟨h',o',t',R',z6,z7,z8,?_,I3,e3⟩;rw[dB]at r2 |-;rw[yj,aG,aB w1,j4 (f:=λh=>ck h (.bl true)) rfl,aaj rfl,aB r1];exact r2
   ·cases e
  ·rename_i ew;rw[ew] at W;obtain⟨v1,h1,w1,p1,w2,_⟩:=W;dsimp only at w2;rw[Dn]at w2;subst w2;refine⟨h1,o,t,R,x6,x7,x8,?_,I.ext p1,e⟩;rw[dB,yj,aG,aB w1,j4 (f:=λh=>ck h (.bl false)) rfl,aam aac];rfl
  ·cases e
theorem LO{m jP:Nat}(hΦ:∀j,Imp (Φ j) (Ψ j))(hΘ:∀j,Bh (Φ j) (Θ j)):Imp (fz Φ 9 (UJ m jP jh jsw jst jsl jsd Bk)) (LN Ψ Θ m jP jh jsw jst jsl jsd Bk):=λA h ds vs u q=>by
 unfold LN
 split
 ·rename_i N b lk ct
  rw[aA]at q;obtain⟨vn,_,rfl,qn,q⟩:=q;rw[aA]at q;obtain⟨vb,_,rfl,qb,q⟩:=q;rw[aA]at q;obtain⟨vl,_,rfl,ql,q⟩:=q;obtain⟨vc,rfl,qc⟩:=aA.one q;have P:=hΦ jP A h [N,b] [vn,vb] u (aA.cons qn (aA.cons qb aA.nil))
  split
  ·rename_i o eP
   rw[eP] at P;obtain⟨a,h1,c1,p1,_,c2⟩:=P;have c2:=c2 rfl;have l1:=p1.length_le;have mv:∀d v,Dn A h d v->Dn (Od h.length) h1 d v:=Dn.move (λ_=>trivial) λi ob _ g=>⟨(aag.mp g).1,cV p1 g⟩;have I:uo h h1 lk ct vl vc a o .non (λk=>h.length<=k/\k<h1.length):=⟨l1,λk z=>z,λk z=>dj p1 z,Dn.move (λz=>False.elim z) (λi ob z g=>⟨⟨z,(aag.mp g).1⟩,g⟩) _ _ c2,λ_ _=>by rw[Dn],mv _ _ ql,mv _ _ qc⟩
   split
   ·rename_i p eL
    obtain⟨f,d⟩:=p;obtain⟨h2,o2,t2,R2,y6,y7,y8,r2,I2,eF⟩:=zk (n0:=some vn) (n1:=some vb) hΦ hΘ m h1 o .non _ none none none I eL;unfold LM at eF;have V:=(v_all hΦ).1;have uT:∀g:Hs,Up TT g:=λ_ _ _=>trivial;have W:=V (Bj jsw) rfl _ _ TT h2 (uT h2) (I2.er (n0:=some vn) (n1:=some vb) (x6:=y6) (x7:=y7) (x8:=y8));split at eF
    ·rename_i w ew
     rw[ew] at W;obtain⟨v3,h3,w1,p3,w2,_⟩:=W;unfold pg at eF;split at eF
     ·rename_i hw
      rw[(jW _ _ hw).mp w2]at w1;have I3:=I2.ext p3;have D:=V (Hx Bk) rfl _ _ TT h3 (uT h3) (I3.er (n0:=some vn) (n1:=some vb) (x6:=y6) (x7:=y7) (x8:=y8));split at eF
      ·rename_i dd ed
       cases eF;rw[ed] at D;obtain⟨v4,h4,d1,p4,_,d2⟩:=D;have d2:=d2 rfl;have I4:=I3.ext p4;have dn:Dn (Fr h.length) h4 (.tup [w,dd]) (.tup [w,v4]):=by rw[Dn];exact⟨_,rfl,aA.cons ((jW _ _ hw).mpr rfl) (aA.cons (d2.fj (Fr.le I3.le)) aA.nil)⟩
       refine⟨.tup [w,v4],h4,?_,List.prefix_iff_getElem?.mpr λi hi=>by rw[I4.old i hi,aaJ hi],dn.fj λz hz=>by
        cases z with
        |none=>exact hz.elim
        |some k=>exact u k hz,λ_=>dn⟩
       have a1:dB Φ (.asg (.one 4) (.call jP #[!0,!1])) [some vn,some vb,some vl,some vc,none,none,none,none,none] h=.ok (.nx [some vn,some vb,some vl,some vc,some a,none,none,none,none]) h1:=by
        rw[dB,aB (a:=a) (h1:=h1)]
        ·rfl
        ·rw[aS,aB (a:=[vn,vb]) (h1:=h)]
         ·exact c1
         ·rw[bC,aB (cG (v:=vn) rfl),aB (a:=[vb]) (h1:=h)]
          ·rfl
          ·rw[bC,aB (cG (v:=vb) rfl),bC];rfl
       have a2:dB Φ (.asg (.one 5) (.cst .non)) [some vn,some vb,some vl,some vc,some a,none,none,none,none] h1=.ok (.nx [some vn,some vb,some vl,some vc,some a,some .non,none,none,none]) h1:=by rw[dB,aB (a:=.non) (h1:=h1) (by rw[aS];rfl)];rfl
       show bnd (fy Φ (UJ m jP jh jsw jst jsl jsd Bk) [some vn,some vb,some vl,some vc,none,none,none,none,none]) _ h=_;rw[aB (a:=.rt (.tup [w,v4])) (h1:=h4)]
       ·rfl
       rw[nt a1,nt a2,nt r2,fy,dB,aG,aB (a:=.tup [w,v4]) (h1:=h4)]
       ·rfl
       ·rw[aS,aB (a:=[w,v4]) (h1:=h4)]
        ·rfl
        ·rw[bC,aB w1,aB (a:=[v4]) (h1:=h4)]
         ·rfl
         ·rw[bC,aB d1,bC];rfl
      ·cases eF
     ·cases eF
    ·cases eF
   ·trivial
  ·trivial
 ·trivial
end
end
end Hv
end
section
namespace K63
open PySem L2 Hv
abbrev HD:List PySem.Str:=["_law_script","_law_k"]
abbrev QA:List PySem.Str:=["_law_cell_here","_law_big","_law_step","_law_shift","_law_a","_law_b"]
abbrev QB:List PySem.Str:=["_law_two","_law_three","_law_rising","_law_number","_law_k","_law_found","_law_at"]
abbrev QC:List PySem.Str:=["_law_script","_law_most","_law_two","_law_four","_law_names_here","_law_gaps","_law_k","_law_places","_law_size","_law_pairs_here","_law_one","_law_other_here"]
abbrev QD:List PySem.Str:=["_law_script","_law_style","_law_many","_law_most","_law_pairs_here","_law_again","_law_k","_law_more","_law_cell_here"]
abbrev UK:List PySem.Str:=["_law_script","_law_style","_law_many","_law_most"]
abbrev QE:List PySem.Str:=["_law_script","_law_style","_law_most","_law_head","_law_many","_law_places","_law_names_here","_law_ends","_law_ties","_law_name","_law_pair","_law_one","_law_other_here"]
abbrev UL:List PySem.Str:=["_law_script","_law_style","_law_most"]
abbrev HE:List PySem.Str:=["_law_cell_here"]
abbrev DY:List PySem.Str:=["_law_script"]
abbrev HF:List PySem.Str:=["_law_script","_law_by","_law_names_here"]
abbrev kq:List PySem.Str:=["_law_net_here"]
abbrev HG:List PySem.Str:=["poles","ties","named","name","one","other"]
abbrev cX:List PySem.Str:=["net"]
abbrev zm:List PySem.Str:=["self","net","begins"]
abbrev HH:List PySem.Str:=["places","pairs","firsts","place","one","other","kept","gone"]
abbrev HJ:List PySem.Str:=["net","places","tie"]
abbrev eZ:List PySem.Str:=["self"]
abbrev HK:List PySem.Str:=["net","tie","name","one","other"]
abbrev ji:List PySem.Str:=["net","tie"]
abbrev HL:List PySem.Str:=["net","tie","ends","places","poles","ties","name","one","other"]
abbrev zo:List PySem.Str:=["net","side","tie"]
abbrev HM:List PySem.Str:=["self","side","tie","winner"]
abbrev HN:List PySem.Str:=["net","begins","linker","cutter","play","taken","side","hand","tie"]
abbrev HP:List PySem.Str:=["_law_net_here","_law_row","_law_marks_here","_law_ties","_law_tie","_law_old","_law_new","_law_end"]
abbrev HQ:List PySem.Str:=["_law_net_here","_law_marks_here"]
abbrev HS:List PySem.Str:=["_law_now","_law_wishes_here","_law_names_here","_law_number"]
abbrev HU:List PySem.Str:=["_law_net_here","_law_side_here","_law_name","_law_gone","_law_ties","_law_ends","_law_tie","_law_renamed","_law_pairs_here"]
abbrev MV:List PySem.Str:=["_law_net_here","_law_side_here","_law_name"]
abbrev zp:List PySem.Str:=["_law_side_here"]
abbrev zq:List PySem.Str:=["_law_found"]
abbrev MW:List PySem.Str:=["_law_script","_law_net_here","_law_begins","_law_ones","_law_others","_law_now","_law_turn","_law_deeds","_law_wishes_here","_law_name","_law_handed","_law_found"]
def top(i:Nat):Stmt:=PySem.Challenge.pw_linkorcut_k63_whole_wishes_refereed.main.body.getD i (.Pass ⟨0,0,0,0⟩)
def cons:List (Str×Val):=[]
def tb:Tb:=⟨1,["net","side","done"],[(0,"won",18),(0,"lying",28),(0,"turn",19),(0,"deed",29),(0,"deeds",30)],[],[]⟩
def cY(i:Nat):Stmt:=match top 23 with|.ClassDef (body:=b) ..=>b.getD i (.Pass ⟨0,0,0,0⟩)|_=>.Pass ⟨0,0,0,0⟩
def stH:Stmt:=(aq (top 26)).getD 1 (.Pass ⟨0,0,0,0⟩)
def jA:bQ:=#[.iff (.cmp .lt (!1) (.blt .len #[!0])) #[.ret (.idx (!0) (!1))] .nil,.ret (¬0)]
def fE:bQ:=#[.asg (.one 2) (¬1),.asg (.one 3) (¬0),.iff (.cmp .gt (.bin .mod (!0) (¬3)) (¬0)) #[.asg (.one 2) (.bin .add (¬1) (.bin .mod (!1) (.bin .pow (¬10) (¬57)))),.asg (.one 3) (.bin .mod (.bin .fdiv (!1) (¬7)) (.bin .pow (¬10) (¬59)))] .nil,.asg (.one 4) (.bin .add (¬1) (.bin .mod (.bin .fdiv (!0) (¬3)) (¬66))),.asg (.one 5) (.bin .mod (.bin .fdiv (!0) (¬198)) (¬67)),.ret (.comp ["_law_k","_law_shift","_law_step","_law_b","_law_a"] [none,some 3,some 2,some 5,some 4] (.one 0) .range #[¬15] .no (.bin .add (.bin .mul (!2) (.bin .mod (.bin .add (.bin .mul (!4) (!0)) (!3)) (¬67))) (!1)))]
def VC:bQ:=#[.asg (.one 3) (.bin .add (.bin .add (!3) (¬1)) (.bin .mod (!0) (.bin .pow (¬10) (¬57)))),.asg (.one 0) (.bin .fdiv (!0) (.bin .pow (¬10) (¬57))),.expr (.met .append (!2) #[!3])]
def aW:bQ:=#[.asg (.one 6) (.bin .mod (!1) (.blt .len #[!2])),.asg (.one 1) (.bin .fdiv (!1) (.blt .len #[!2])),.expr (.met .append (!5) #[.met .pop (!2) #[!6]])]
def cI:bQ:=#[.asg (.one 2) (.lst .nil),.asg (.one 3) (.bin .sub (¬0) (¬1)),.for (.one 4) .range #[¬20] VC,.asg (.one 5) (.lst .nil),.whl 100000 (!2) aW,.ret (!5)]
def UM:bQ:=#[.asg (.one 2) (.bin .fdiv (!2) (.bin .pow (¬10) (¬57))),.asg (.one 3) (.bin .fdiv (!3) (.bin .sub (¬20) (!6)))]
def UN:bQ:=#[.asg (.one 10) (.idx (!7) (.bin .mod (!3) (.blt .len #[!7]))),.asg (.one 3) (.bin .fdiv (!3) (.blt .len #[!7])),.asg (.one 11) (.idx (!7) (.bin .mod (!3) (.blt .len #[!7]))),.asg (.one 3) (.bin .fdiv (!3) (.blt .len #[!7])),.expr (.met .append (!9) #[.tup #[.blt .min #[!10,!11],.blt .max #[!10,!11]]])]
def vR:bQ:=#[.ret (.tup #[.idx (!9) (¬0),.blt .sorted #[.comp ["_law_name","_law_pair"] [none,none] (.tup [0,1]) .zip #[!4,.slc (!9) (¬1) .no] .no (.tup #[!0,.idx (!1) (¬0),.idx (!1) (¬1)])]])]
def vH(T:bQ):bQ:=(.cons (.asg (.one 2) (.call 0 #[!0,¬2])) (.cons (.asg (.one 3) (.call 0 #[!0,¬4])) (.cons (.asg (.one 4) (.call 2 #[.call 0 #[!0,¬3],!3])) (.cons (.asg (.one 5) (!2)) T))))
def vM(T:bQ):bQ:=(.cons (.asg (.one 7) (.call 2 #[!5,!2])) (.cons (.asg (.one 7) (.slc (!7) .no (.bin .add (¬2) (.bin .mod (!3) (¬7))))) (.cons (.asg (.one 3) (.bin .fdiv (!3) (¬7))) (.cons (.asg (.one 8) (.bin .mod (!3) (.bin .add (!1) (¬1)))) (.cons (.asg (.one 3) (.bin .fdiv (!3) (.bin .add (!1) (¬1)))) (.cons (.asg (.one 9) (.lst .nil)) T))))))
def fF:bQ:=vH (.cons (.for (.one 6) .range #[¬20] UM) (vM (.cons (.for (.one 6) .range #[.bin .add (!8) (¬1)] UN) vR)))
def VD:bQ:=#[.for (.one 6) .range #[¬1,!2] #[.expr (.met .append (!4) #[.tup #[!6,.bin .mod (.bin .fdiv (.call 0 #[!0,.bin .add (¬4) (!6)]) (.bin .add (¬1) (.bin .mul (¬7) (!5)))) (!6)]])]]
def Xw:IS:=.for (.one 5) .range #[.idx (.lst #[¬0,¬2,¬0,¬1]) (!1)] VD
def VE:bQ:=#[.for (.one 5) .range #[.bin .add (¬1) (.bin .mod (.call 0 #[!0,.bin .add (¬5) (!6)]) (¬3))] #[.expr (.met .append (!4) #[.tup #[!6,.bin .add (!6) (¬1)]])]]
def VF:IS:=.for (.one 6) .range #[.bin .sub (!2) (¬1)] VE
def YB:IS:=.for (.one 8) .seq #[.slc (!0) (¬5) (.bin .add (¬5) (!7))] #[.expr (.met .append (!4) #[.tup #[.bin .mod (.bin .fdiv (!8) (¬3)) (!2),.bin .mod (.bin .fdiv (!8) (¬31)) (!2)]])]
def pT:bQ:=.cons (.asg (.one 7) (.bin .mod (.bin .fdiv (.call 0 #[!0,¬0]) (¬28)) (¬4))) #[.iff (.cmp .eq (!1) (¬0)) #[.asg (.one 7) (.bin .mod (.bin .fdiv (.call 0 #[!0,¬0]) (¬28)) (.bin .add (!3) (¬1)))] .nil,YB,.ret (.slc (!4) .no (!3))]
def iF:bQ:=.cons (.asg (.one 4) (.lst .nil)) (.cons Xw (.cons (.iff (.cmp .eq (!1) (¬2)) #[VF] .nil) pT))
def nB:bQ:=#[.asg (.one 11) (.idx (!5) (.idx (!10) (¬0))),.asg (.one 12) (.idx (!5) (.idx (!10) (¬1))),.expr (.met .append (!8) #[.tup #[!9,.blt .min #[!11,!12],.blt .max #[!11,!12]]])]
def nF:IS:=.for (.tup [9,10]) .zip #[!6,.call 4 #[!0,!1,!4,!2]] nB
def nR:bQ:=#[.ret (.tup #[.tup #[.blt .min #[!7],.blt .max #[!7]],.blt .sorted #[!8]])]
def nH(T:bQ):bQ:=(.cons (.asg (.one 3) (.call 0 #[!0,¬0])) (.cons (.asg (.one 4) (.bin .add (¬2) (.bin .mod (.bin .fdiv (!3) (¬4)) (.idx (.lst #[¬7,.bin .fdiv (!2) (¬2),¬4,.blt .min #[¬7,!2]]) (!1))))) (.cons (.asg (.one 5) (.call 1 #[.call 0 #[!0,¬1],.call 0 #[!0,¬2]])) (.cons (.asg (.one 6) (.call 1 #[.call 0 #[!0,¬3],.call 0 #[!0,¬4]])) (.cons (.asg (.one 7) (.lst #[.idx (!5) (¬0),.idx (!5) (¬1)])) T)))))
def VG:IS:=.iff (.cmp .eq (!1) (¬2)) #[.asg (.one 7) (.lst #[.idx (!5) (¬0),.idx (!5) (.bin .sub (!4) (¬1))])] .nil
def VH:IS:=.iff (.cmp .eq (.bin .mod (.bin .fdiv (!3) (¬112)) (¬9)) (¬4)) #[.asg (.one 7) (.lst #[.idx (!5) (¬0),.idx (!5) (¬0)])] .nil
def UO:IS:=.iff (.and (.cmp .ne (!1) (¬1)) (.cmp .eq (.bin .mod (.call 0 #[!0,¬1]) (¬2)) (¬1))) #[.ret (.call 3 #[!0,!2])] .nil
def lG:bQ:=.cons UO (nH (.cons VG (.cons VH (.cons (.asg (.one 8) (.lst .nil)) (.cons nF nR)))))
def jB:bQ:=#[.ret (.idx (.lst #[.cst (.str "linker"),.cst (.str "cutter")]) (.bin .mod (!0) (¬2)))]
def gm:bQ:=#[.iff (.and (.cmp .ne (.bin .mod (.call 0 #[!0,¬0]) (¬4)) (¬1)) (.cmp .eq (.bin .mod (.call 0 #[!0,¬1]) (¬2)) (¬1))) #[.ret (.call 2 #[.call 0 #[!0,¬3],.call 0 #[!0,¬4]])] .nil,.ret (.call 1 #[.call 0 #[!0,¬3],.call 0 #[!0,¬4]])]
def gn:bQ:=#[.asg (.one 2) (.call 7 #[!0]),.ret (.comp ["_law_cell_here","_law_names_here","_law_by"] [none,some 2,some 1] (.one 0) .seq #[.slc (!0) (¬5) (¬34)] .no (.idx (!1) (.bin .mod (.bin .fdiv (!0) (!2)) (¬15))))]
def jC:bQ:=#[.ret (.tup #[.idx (!0) (¬0),.blt .list #[.idx (!0) (¬1)]])]
def cQ:bQ:=#[.asg (.one 2) (.lst .nil),.for (.tup [3,4,5]) .seq #[!1] #[.expr (.met .append (!2) #[.tup #[!3,.blt .min #[!4,!5],.blt .max #[!4,!5]]])],.ret (.tup #[.tup #[.blt .min #[.idx (!0) (¬0),.idx (!0) (¬1)],.blt .max #[.idx (!0) (¬0),.idx (!0) (¬1)]],.blt .sorted #[!2]])]
def iG:bQ:=#[.ret (.call 10 #[.idx (!0) (¬0),.idx (!0) (¬1)])]
def oF:bQ:=#[.setF 1 (!0) "net" (.call 11 #[!1]),.setF 1 (!0) "side" (!2),.setF 1 (!0) "done" (.lst .nil)]
def fG:bQ:=#[.ret (.cmp .eq (.idx (.idx (!0) (¬0)) (¬0)) (.idx (.idx (!0) (¬0)) (¬1)))]
def fH:bQ:=#[.asg (.one 2) .dct0,.for (.one 3) .seq #[!0] #[.jV (!2) (!3) (!3)],.for (.tup [4,5]) .seq #[!1] #[.asg (.one 6) (.blt .min #[.idx (!2) (!4),.idx (!2) (!5)]),.asg (.one 7) (.blt .max #[.idx (!2) (!4),.idx (!2) (!5)]),.for (.one 3) .seq #[!0] #[.iff (.cmp .eq (.idx (!2) (!3)) (!7)) #[.jV (!2) (!3) (!6)] .nil]],.ret (!2)]
def fJ:bQ:=#[.asg (.one 1) (.blt .list #[.idx (!0) (¬0)]),.for (.one 2) .seq #[.idx (!0) (¬1)] #[.expr (.met .extend (!1) #[.slc (!2) (¬1) .no])],.ret (.sset (!1))]
def fK:bQ:=#[.asg (.one 1) (.call 14 #[.call 15 #[!0],.comp ["tie"] [none] (.one 0) .seq #[.idx (!0) (¬1)] .no (.slc (!0) (¬1) .no)]),.ret (.cmp .ne (.idx (!1) (.idx (.idx (!0) (¬0)) (¬0))) (.idx (!1) (.idx (.idx (!0) (¬0)) (¬1))))]
def fL:bQ:=#[.iff (.call 13 #[!0]) #[.ret (.cst (.str "linker"))] .nil,.iff (.call 16 #[!0]) #[.ret (.cst (.str "cutter"))] .nil,.ret (.cst .non)]
def gp:bQ:=#[.ret (.call 17 #[.fld 1 (!0) "net"])]
def fM:bQ:=#[.ret (.fld 1 (!0) "side")]
def gq:bQ:=#[.ret (.comp ["tie"] [none] (.one 0) .seq #[.idx (!0) (¬1)] .no (.idx (!0) (¬0)))]
def oG:bQ:=#[.asg (.one 3) (.call 20 #[!0]),.for (.one 4) .seq #[!2] #[.iff (.cmp .AG (!4) (!3)) #[.ret (!4)] .nil],.ret (.blt .min #[!3])]
def iH:bQ:=#[.for (.tup [2,3,4]) .seq #[.idx (!0) (¬1)] #[.iff (.cmp .eq (!2) (!1)) #[.ret (.tup #[!3,!4])] .nil],.never]
def iI:bQ:=#[.expr (.call 22 #[!0,!1]),.ret (.comp ["each","tie"] [none,some 1] (.one 0) .seq #[.idx (!0) (¬1)] (.cmp .ne (.idx (!0) (¬0)) (!1)) (!0))]
def fN:bQ:=#[.ret (.call 10 #[.idx (!0) (¬0),.call 23 #[!0,!1]])]
def lH:bQ:=#[.asg (.one 2) (.call 22 #[!0,!1]),.asg (.one 3) (.dct1 (.idx (!2) (¬1)) (.idx (!2) (¬0))),.asg (.one 4) (.tup #[.dget (!3) (.idx (.idx (!0) (¬0)) (¬0)) (.idx (.idx (!0) (¬0)) (¬0)),.dget (!3) (.idx (.idx (!0) (¬0)) (¬1)) (.idx (.idx (!0) (¬0)) (¬1))]),.asg (.one 5) (.lst .nil),.for (.tup [6,7,8]) .seq #[.call 23 #[!0,!1]] #[.expr (.met .append (!5) #[.tup #[!6,.dget (!3) (!7) (!7),.dget (!3) (!8) (!8)]])],.ret (.call 10 #[!4,!5])]
def iJ:bQ:=#[.iff (.cmp .eq (!1) (.cst (.str "linker"))) #[.ret (.call 25 #[!0,!2])] .nil,.ret (.call 24 #[!0,!2])]
def dY:bQ:=#[.iff (.cmp .eq (!0) (.cst (.str "linker"))) #[.ret (.cst (.str "cutter"))] .nil,.ret (.cst (.str "linker"))]
def dZ:bQ:=#[.ret (.call 11 #[.fld 1 (!0) "net"])]
def j5:bQ:=#[.asg (.one 3) (.mth (!0) "won" [(0,18)] .nil),.iff (.cmp .ntn (!3) (.cst .non)) #[.never] .nil,.iff (.cmp .ne (!1) (.fld 1 (!0) "side")) #[.never] .nil,.setF 1 (!0) "net" (.call 26 #[.fld 1 (!0) "net",!1,!2]),.setF 1 (!0) "side" (.call 27 #[!1]),.expr (.met .append (.fld 1 (!0) "done") #[.tup #[!1,!2]]),.ret (.mth (!0) "lying" [(0,28)] .nil)]
def eB:bQ:=#[.ret (.comp ["side","tie"] [none,none] (.tup [0,1]) .seq #[.fld 1 (!0) "done"] .no (.tup #[!0,!1]))]
def lJ:bQ:=#[.asg (.one 4) (.call 12 #[!0,!1]),.asg (.one 5) (.cst .non),.whl 100000 (.cmp .isn (.mth (!4) "won" [(0,18)] .nil) (.cst .non)) #[.asg (.one 6) (.mth (!4) "turn" [(0,19)] .nil),.asg (.one 7) (.ite (.cmp .eq (!6) (.cst (.str "linker"))) (!2) (!3)),.asg (.one 8) (.mth (!7) "" [(0,21)] #[.mth (!4) "lying" [(0,28)] .nil,!5]),.expr (.mth (!4) "deed" [(0,29)] #[!6,!8]),.asg (.one 5) (!8)],.ret (.tup #[.mth (!4) "won" [(0,18)] .nil,.mth (!4) "deeds" [(0,30)] .nil])]
def mB:bQ:=#[.jV (!2) (.idx (!4) (¬1)) (.idx (!4) (¬1)),.jV (!2) (.idx (!4) (¬2)) (.idx (!4) (¬2))]
def mI:bQ:=#[.iff (.cmp .eq (.idx (!2) (!7)) (!5)) #[.jV (!2) (!7) (!6)] .nil]
def mF:IS:=.for (.one 7) .seq #[.lkeys (!2)] mI
def mC:bQ:=#[.asg (.one 5) (.idx (!2) (.idx (!4) (¬2))),.asg (.one 6) (.idx (!2) (.idx (!4) (¬1))),.iff (.and (.cmp .AG (.idx (!4) (¬0)) (!1)) (.cmp .ne (!5) (!6))) #[mF] .nil]
def iK:bQ:=.cons (.asg (.one 2) .dct0) #[.asg (.one 3) (.bin .add (.lst #[.tup #[.neg (¬1),.idx (.idx (!0) (¬0)) (¬0),.idx (.idx (!0) (¬0)) (¬1)]]) (.idx (!0) (¬1))),.for (.one 4) .seq #[!3] mB,.for (.one 4) .seq #[!3] mC,.ret (!2)]
def iL:bQ:=#[.ret (.comp ["_law_tie"] [none] (.one 0) .seq #[.idx (!0) (¬1)] .no (.idx (!0) (¬0)))]
def lK:bQ:=#[.iff (.cmp .eq (.idx (.idx (!0) (¬0)) (¬0)) (.idx (.idx (!0) (¬0)) (¬1))) #[.ret (.cst (.str "linker"))] .nil,.asg (.one 1) (.call 32 #[!0,.call 33 #[!0]]),.iff (.cmp .ne (.idx (!1) (.idx (.idx (!0) (¬0)) (¬0))) (.idx (!1) (.idx (.idx (!0) (¬0)) (¬1)))) #[.ret (.cst (.str "cutter"))] .nil,.ret (.cst .non)]
def gr:bQ:=#[.asg (.one 2) (.call 33 #[!0]),.for (.one 3) .seq #[!1] #[.iff (.cmp .AG (!3) (!2)) #[.ret (!3)] .nil],.ret (.idx (!2) (¬0))]
def bF:IS:=.for (.one 6) .seq #[.idx (!0) (¬1)] #[.iff (.cmp .ne (.idx (!6) (¬0)) (!2)) #[.expr (.met .append (!4) #[!6])] .nil]
def bL:bQ:=#[.asg (.one 7) (.dct1 (.idx (!3) (¬2)) (.idx (!3) (¬1))),.asg (.one 5) (.comp ["_law_end","_law_renamed"] [none,some 7] (.one 0) .seq #[!5] .no (.dget (!1) (!0) (!0))),.asg (.one 8) (.comp ["_law_tie","_law_renamed"] [none,some 7] (.one 0) .seq #[!4] .no (.tup #[.idx (!0) (¬0),.dget (!1) (.idx (!0) (¬1)) (.idx (!0) (¬1)),.dget (!1) (.idx (!0) (¬2)) (.idx (!0) (¬2))])),.asg (.one 4) (.comp ["_law_one"] [none] (.one 0) .seq #[!8] .no (.tup #[.idx (!0) (¬0),.blt .min #[.idx (!0) (¬1),.idx (!0) (¬2)],.blt .max #[.idx (!0) (¬1),.idx (!0) (¬2)]]))]
def bR:bQ:=#[.ret (.tup #[.tup #[.blt .min #[!5],.blt .max #[!5]],!4])]
def gu:bQ:=.cons (.asg (.one 3) (.idx (.comp ["_law_tie","_law_name"] [none,some 2] (.one 0) .seq #[.idx (!0) (¬1)] (.cmp .eq (.idx (!0) (¬0)) (!1)) (!0)) (¬0))) (.cons (.asg (.one 4) (.lst .nil)) (.cons (.asg (.one 5) (.blt .list #[.idx (!0) (¬0)])) (.cons bF (.cons (.iff (.cmp .eq (!1) (.cst (.str "linker"))) bL .nil) bR))))
def iM:bQ:=#[.ret (.idx (.lst #[.cst (.str "linker"),.cst (.str "cutter")]) (.blt .int #[.cmp .eq (!0) (.cst (.str "linker"))]))]
def fO:IE:=(.blt .list #[!0])
def iO:bQ:=#[.ret (.and (.blt (.isin "int") #[!0]) (.not (.blt (.isin "bool") #[!0])))]
def lB:bQ:=#[.asg (.one 8) (!4),.iff (.cmp .eq (!6) (.cst (.str "linker"))) #[.asg (.one 8) (!3)] .nil,.asg (.one 9) (.call 35 #[!5,!8]),.expr (.met .append (!7) #[.tup #[!6,!9]]),.asg (.one 5) (.call 36 #[!5,!6,!9]),.asg (.one 6) (.call 37 #[!6])]
abbrev lC:IE:=.cmp .isn (.call 34 #[!5]) (.cst .non)
def lI:IS:=(.iff (.or (.not (.blt (.isin "tuple") #[!11])) (.or (.cmp .ne (.blt .len #[!11]) (¬2)) (.not (.blt (.isin "list") #[.idx (!11) (¬1)])))) #[.ret (.cst (.bl false))] .nil)
def lR:IS:=(.ret (.and (.cmp .eq (!11) (.tup #[.call 34 #[!5],!7])) (.and (.blt .all #[.comp ["_law_deed"] [none] (.one 0) .seq #[.idx (!11) (¬1)] .no (.call 39 #[.idx (!0) (¬1)])]) (.cmp .eq (!10) (!1)))))
def lT:bQ:=#[.asg (.one 10) (.call 9 #[!1]),.asg (.one 11) (.call 31 #[!10,!2,.call 38 #[!3],.call 38 #[!4]]),lI,lR]
def wY:bQ:=(.cons (.asg (.one 1) (.call 5 #[!0,.bin .mod (.call 0 #[!0,¬0]) (¬4),¬14])) (.cons (.asg (.one 2) (.call 6 #[.bin .fdiv (.call 0 #[!0,¬1]) (¬5)])) (.cons (.asg (.one 3) (.call 8 #[!0,¬1])) (.cons (.asg (.one 4) (.call 8 #[!0,¬15])) (.cons (.asg (.one 5) (!1)) (.cons (.asg (.one 6) (!2)) (.cons (.asg (.one 7) (.lst .nil)) (.cons (.whl 100000 lC lB) lT))))))))
def UP:List Row:=[]
def zu:List Val->M Val:=fz (look UP) 2 jA
def UQ:List Row:=UP++[(("_law_cell":Str),2,zu)]
def qg:List Val->M Val:=fz (look UQ) 6 fE
def UR:List Row:=UQ++[(("_law_numbers":Str),2,qg)]
def kr:List Val->M Val:=fz (look UR) 7 cI
def US:List Row:=UR++[(("_law_any_numbers":Str),2,kr)]
def qh:List Val->M Val:=fz (look US) 12 fF
def UT:List Row:=US++[(("_law_any_net":Str),2,qh)]
def vm:List Val->M Val:=fz (look UT) 9 iF
def UU:List Row:=UT++[(("_law_pairs":Str),4,vm)]
def CA:List Val->M Val:=fz (look UU) 13 lG
def UW:List Row:=UU++[(("_law_net":Str),3,CA)]
def zv:List Val->M Val:=fz (look UW) 1 jB
def UX:List Row:=UW++[(("_law_side":Str),1,zv)]
def sX:List Val->M Val:=fz (look UX) 1 gm
def UY:List Row:=UX++[(("_law_called":Str),1,sX)]
def sY:List Val->M Val:=fz (look UY) 3 gn
def UZ:List Row:=UY++[(("_law_wishes":Str),2,sY)]
def zw:List Val->M Val:=fz (look UZ) 1 jC
def HV:List Row:=UZ++[(("_law_copy":Str),1,zw)]
def lM:List Val->M Val:=fz (look HV) 6 cQ
def HW:List Row:=HV++[(("put_in_order":Str),2,lM)]
def vo:List Val->M Val:=fz (look HW) 1 iG
def HX:List Row:=HW++[(("own_net":Str),1,vo)]
def HY:List Val->M Val:=MC 0 (fz (look HX) 3 oF)
def HZ:List Row:=HX++[(("Play":Str),2,HY)]
def qi:List Val->M Val:=fz (look HZ) 1 fG
def Ia:List Row:=HZ++[(("is_linked":Str),1,qi)]
def qj:List Val->M Val:=fz (look Ia) 8 fH
def Ib:List Row:=Ia++[(("firsts_by":Str),2,qj)]
def qk:List Val->M Val:=fz (look Ib) 3 fJ
def Ic:List Row:=Ib++[(("places_of":Str),1,qk)]
def qm:List Val->M Val:=fz (look Ic) 2 fK
def Ie:List Row:=Ic++[(("is_parted":Str),1,qm)]
def qo:List Val->M Val:=fz (look Ie) 1 fL
def Ig:List Row:=Ie++[(("winner_of":Str),1,qo)]
def sZ:List Val->M Val:=fz (look Ig) 1 gp
def Ih:List Row:=Ig++[(("Play.won":Str),1001,sZ)]
def qq:List Val->M Val:=fz (look Ih) 1 fM
def Ii:List Row:=Ih++[(("Play.turn":Str),1001,qq)]
def tu:List Val->M Val:=fz (look Ii) 1 gq
def Ij:List Row:=Ii++[(("names_of":Str),1,tu)]
def Bm:List Val->M Val:=PD (look Ij) 5 oG
def Il:List Row:=Ij++[(("hand":Str),3002,Bm)]
def vp:List Val->M Val:=fz (look Il) 5 iH
def Im:List Row:=Il++[(("ends_of":Str),2,vp)]
def vq:List Val->M Val:=fz (look Im) 2 iI
def Io:List Row:=Im++[(("without":Str),2,vq)]
def qt:List Val->M Val:=fz (look Io) 2 fN
def Ip:List Row:=Io++[(("taken_out":Str),2,qt)]
def CB:List Val->M Val:=fz (look Ip) 9 lH
def Iq:List Row:=Ip++[(("drawn":Str),2,CB)]
def vt:List Val->M Val:=fz (look Iq) 3 iJ
def Ir:List Row:=Iq++[(("done_by":Str),3,vt)]
def oH:List Val->M Val:=fz (look Ir) 1 dY
def Iu:List Row:=Ir++[(("other_side":Str),1,oH)]
def oJ:List Val->M Val:=fz (look Iu) 1 dZ
def DZ:List Row:=Iu++[(("Play.lying":Str),1001,oJ)]
def lO:List Val->M Val:=fz (look DZ) 4 j5
def Iv:List Row:=DZ++[(("Play.deed":Str),1003,lO)]
def oK:List Val->M Val:=fz (look Iv) 1 eB
def D3:List Row:=Iv++[(("Play.deeds":Str),1001,oK)]
def tw:List Val->M Val:=fz (look D3) 9 lJ
def Iw:List Row:=D3++[(("refereed":Str),4,tw)]
def vv:List Val->M Val:=fz (look Iw) 8 iK
def Iz:List Row:=Iw++[(("_law_marks":Str),2,vv)]
def vz:List Val->M Val:=fz (look Iz) 1 iL
def ID:List Row:=Iz++[(("_law_names":Str),1,vz)]
def CC:List Val->M Val:=fz (look ID) 2 lK
def IF:List Row:=ID++[(("_law_won":Str),1,CC)]
def tB:List Val->M Val:=fz (look IF) 4 gr
def IG:List Row:=IF++[(("_law_wished":Str),2,tB)]
def tD:List Val->M Val:=fz (look IG) 9 gu
def II:List Row:=IG++[(("_law_behind":Str),3,tD)]
def vA:List Val->M Val:=fz (look II) 1 iM
def IJ:List Row:=II++[(("_law_other":Str),1,vA)]
def lQ:List Val->M Val:=GD (look IJ) fO
def IK:List Row:=IJ++[(("wish_hand":Str),1,lQ)]
def vB:List Val->M Val:=fz (look IK) 1 iO
def LP:List Row:=IK++[(("_law_whole":Str),1,vB)]
def IL:List Val->M Val:=fz (look LP) 12 wY
def Xx:List aO:=[]
def aV:aO:=cu (af Xx) 2 jA
def Xy:List aO:=Xx++[aV]
def dm:aO:=cu (af Xy) 6 fE
def JJ:List aO:=Xy++[dm]
def cj:aO:=cu (af JJ) 7 cI
def tE:List aO:=JJ++[cj]
def gx:aO:=cu (af tE) 12 fF
def qY:List aO:=tE++[gx]
def jD:aO:=cu (af qY) 9 iF
def zx:List aO:=qY++[jD]
def oM:aO:=cu (af zx) 13 lG
def Xz:List aO:=zx++[oM]
def lU:aO:=cu (af Xz) 1 jB
def RB:List aO:=Xz++[lU]
def iP:aO:=cu (af RB) 1 gm
def VI:List aO:=RB++[iP]
def iQ:aO:=cu (af VI) 3 gn
def XA:List aO:=VI++[iQ]
def lV:aO:=cu (af XA) 1 jC
def QF:List aO:=XA++[lV]
def bZ:aO:=cu (af QF) 6 cQ
def LQ:List aO:=QF++[bZ]
def gU:aO:=cu (af LQ) 1 iG
def Bo:List aO:=LQ++[gU]
def tF:aO:=LH (af Bo) 0 oF
def QG:List aO:=Bo++[tF]
def gy:aO:=cu (af QG) 1 fG
def QH:List aO:=QG++[gy]
def gz:aO:=cu (af QH) 8 fH
def QI:List aO:=QH++[gz]
def gA:aO:=cu (af QI) 3 fJ
def IM:List aO:=QI++[gA]
def gB:aO:=cu (af IM) 2 fK
def IP:List aO:=IM++[gB]
def gC:aO:=cu (af IP) 1 fL
def LR:List aO:=IP++[gC]
def gb:aO:=cu (af LR) 1 gp
def QJ:List aO:=LR++[gb]
def gD:aO:=cu (af QJ) 1 fM
def QK:List aO:=QJ++[gD]
def iR:aO:=cu (af QK) 1 gq
def Bp:List aO:=QK++[iR]
def wZ:aO:=Qy (af Bp) 5 oG
def QL:List aO:=Bp++[wZ]
def gW:aO:=cu (af QL) 5 iH
def LS:List aO:=QL++[gW]
def gX:aO:=cu (af LS) 2 iI
def IQ:List aO:=LS++[gX]
def gE:aO:=cu (af IQ) 2 fN
def D4:List aO:=IQ++[gE]
def oN:aO:=cu (af D4) 9 lH
def IT:List aO:=D4++[oN]
def jE:aO:=cu (af IT) 3 iJ
def QM:List aO:=IT++[jE]
def fP:aO:=cu (af QM) 1 dY
def LU:List aO:=QM++[fP]
def dI:aO:=cu (af LU) 1 dZ
def pI:List aO:=LU++[dI]
def qu:aO:=λ_=>.no
def QN:List aO:=pI++[qu]
def fQ:aO:=cu (af QN) 1 eB
def j6:List aO:=QN++[fQ]
def mu(j:Nat):aO:=if j=29 then Ht (af pI) 1 0 26 27 [(0,18)] [(0,28)] else λ_=>.no
def iS:aO:=LN (af j6) mu 100000 12 21 [(0,18)] [(0,19)] [(0,28)] [(0,29)] [(0,30)]
def lW:List aO:=j6++[iS]
def jF:aO:=cu (af lW) 8 iK
def QO:List aO:=lW++[jF]
def gY:aO:=cu (af QO) 1 iL
def IU:List aO:=QO++[gY]
def oO:aO:=cu (af IU) 2 lK
def D5:List aO:=IU++[oO]
def iT:aO:=cu (af D5) 4 gr
def uq:List aO:=D5++[iT]
def iU:aO:=cu (af uq) 9 gu
def QS:List aO:=uq++[iU]
def jG:aO:=cu (af QS) 1 iM
def LV:List aO:=QS++[jG]
def gF:aO:=Cz (af LV) fO
def QT:List aO:=LV++[gF]
def jH:aO:=cu (af QT) 1 iO
def gG:List aO:=QT++[jH]
def IV:aO:=cu (af gG) 12 wY
theorem dQ:af tE 0=aV:=rfl
theorem dw:af tE 2=cj:=rfl
theorem cZ:af qY 0=aV:=rfl
theorem cR:af zx 0=aV:=rfl
theorem iV:af zx 1=dm:=rfl
theorem nu:af zx 3=gx:=rfl
theorem pJ:af zx 4=jD:=rfl
theorem eO:af RB 0=aV:=rfl
theorem fX:af RB 1=dm:=rfl
theorem iY:af RB 2=cj:=rfl
theorem lX:af VI 7=iP:=rfl
theorem jI:af LQ 10=bZ:=rfl
theorem qG:af Bo 11=gU:=rfl
theorem fR:af IM 14=gz:=rfl
theorem j7:af IM 15=gA:=rfl
theorem cM:af IP 13=gy:=rfl
theorem fS:af IP 16=gB:=rfl
theorem kI:af LR 17=gC:=rfl
theorem pK:af Bp 20=iR:=rfl
theorem nv:af LS 22=gW:=rfl
theorem iZ:af IQ 10=bZ:=rfl
theorem lY:af IQ 23=gX:=rfl
theorem kJ:af D4 10=bZ:=rfl
theorem pL:af D4 22=gW:=rfl
theorem pM:af D4 23=gX:=rfl
theorem lZ:af IT 24=gE:=rfl
theorem pO:af IT 25=oN:=rfl
theorem kK:af LU 11=gU:=rfl
theorem kL:af pI 18=gb:=rfl
theorem l0:af pI 26=jE:=rfl
theorem jJ:af pI 27=fP:=rfl
theorem jK:af pI 28=dI:=rfl
theorem pP:af j6 12=tF:=rfl
theorem gH:af j6 18=gb:=rfl
theorem kM:af j6 19=gD:=rfl
theorem pQ:af j6 21=wZ:=rfl
theorem j8:af j6 28=dI:=rfl
theorem j9:af j6 30=fQ:=rfl
theorem jL:af IU 32=jF:=rfl
theorem jM:af IU 33=gY:=rfl
theorem mK:af D5 33=gY:=rfl
theorem mV:af gG 0=aV:=rfl
theorem xg:af gG 5=oM:=rfl
theorem ur:af gG 6=lU:=rfl
theorem ku:af gG 8=iQ:=rfl
theorem uu:af gG 9=lV:=rfl
theorem qH:af gG 31=iS:=rfl
theorem oQ:af gG 34=oO:=rfl
theorem qI:af gG 35=iT:=rfl
theorem qJ:af gG 36=iU:=rfl
theorem tG:af gG 37=jG:=rfl
theorem pR:af gG 38=gF:=rfl
theorem tH:af gG 39=jH:=rfl
theorem i0:b9 UP Xx:=GY
theorem IW:Imp zu aV:=bf (au i0) (by decide +kernel)
theorem i1:b9 UQ Xy:=av i0 IW
theorem zy:Imp qg dm:=bf (au i1) (by decide +kernel)
theorem i2:b9 UR JJ:=av i1 zy
theorem qK:Imp kr cj:=bf (au i2) (by decide +kernel)
theorem i3:b9 US tE:=av i2 qK
theorem zz:Imp qh gx:=bf (au i3) (by decide +kernel)
theorem i4:b9 UT qY:=av i3 zz
theorem D6:Imp vm jD:=bf (au i4) (by decide +kernel)
theorem i5:b9 UU zx:=av i4 D6
theorem LW:Imp CA oM:=bf (au i5) (by decide +kernel)
theorem i6:b9 UW Xz:=av i5 LW
theorem IX:Imp zv lU:=bf (au i6) (by decide +kernel)
theorem i7:b9 UX RB:=av i6 IX
theorem Bq:Imp sX iP:=bf (au i7) (by decide +kernel)
theorem i8:b9 UY VI:=av i7 Bq
theorem Br:Imp sY iQ:=bf (au i8) (by decide +kernel)
theorem i9:b9 UZ XA:=av i8 Br
theorem IY:Imp zw lV:=bf (au i9) (by decide +kernel)
theorem YC:b9 HV QF:=av i9 IY
theorem tK:Imp lM bZ:=bf (au YC) (by decide +kernel)
theorem YD:b9 HW LQ:=av YC tK
theorem D7:Imp vo gU:=bf (au YD) (by decide +kernel)
theorem i12:b9 HX Bo:=av YD D7
theorem QU:Imp HY tF:=LI (n:=1) (by decide) (au i12) (by decide +kernel)
theorem YE:b9 HZ QG:=av i12 QU
theorem zA:Imp qi gy:=bf (au YE) (by decide +kernel)
theorem YF:b9 Ia QH:=av YE zA
theorem zB:Imp qj gz:=bf (au YF) (by decide +kernel)
theorem YG:b9 Ib QI:=av YF zB
theorem zC:Imp qk gA:=bf (au YG) (by decide +kernel)
theorem YH:b9 Ic IM:=av YG zC
theorem zE:Imp qm gB:=bf (au YH) (by decide +kernel)
theorem YI:b9 Ie IP:=av YH zE
theorem zF:Imp qo gC:=bf (au YI) (by decide +kernel)
theorem YJ:b9 Ig LR:=av YI zF
theorem Bs:Imp sZ gb:=bf (au YJ) (by decide +kernel)
theorem YK:b9 Ih QJ:=av YJ Bs
theorem zG:Imp qq gD:=bf (au YK) (by decide +kernel)
theorem YL:b9 Ii QK:=av YK zG
theorem Bt:Imp tu iR:=bf (au YL) (by decide +kernel)
theorem YM:b9 Ij Bp:=av YL Bt
theorem QV:Imp Bm wZ:=LJ (au YM) (by decide +kernel)
theorem YN:b9 Il QL:=av YM QV
theorem D8:Imp vp gW:=bf (au YN) (by decide +kernel)
theorem YO:b9 Im LS:=av YN D8
theorem D9:Imp vq gX:=bf (au YO) (by decide +kernel)
theorem YQ:b9 Io IQ:=av YO D9
theorem zH:Imp qt gE:=bf (au YQ) (by decide +kernel)
theorem YR:b9 Ip D4:=av YQ zH
theorem LX:Imp CB oN:=bf (au YR) (by decide +kernel)
theorem YS:b9 Iq IT:=av YR LX
theorem Ea:Imp vt jE:=bf (au YS) (by decide +kernel)
theorem YT:b9 Ir QM:=av YS Ea
theorem xh:Imp oH fP:=bf (au YT) (by decide +kernel)
theorem YU:b9 Iu LU:=av YT xh
theorem xj:Imp oJ dI:=bf (au YU) (by decide +kernel)
theorem YV:b9 DZ pI:=av YU xj
theorem zJ:Imp lO qu:=Hr
theorem YW:b9 Iv QN:=av YV zJ
theorem xm:Imp oK fQ:=bf (au YW) (by decide +kernel)
theorem YX:b9 D3 j6:=av YW xm
theorem U0:∀k,Bh (look D3 k) (mu k):=λk=>by
 unfold mu
 split
 ·rename_i h;subst h;show Bh lO _;exact Hu (Φ:=look DZ) (by decide) (au YV)
 ·exact DW
theorem Bu:Imp tw iS:=LO (au YX) U0
theorem YY:b9 Iw lW:=av YX Bu
theorem Eb:Imp vv jF:=bf (au YY) (by decide +kernel)
theorem YZ:b9 Iz QO:=av YY Eb
theorem Ec:Imp vz gY:=bf (au YZ) (by decide +kernel)
theorem Y0:b9 ID IU:=av YZ Ec
theorem LY:Imp CC oO:=bf (au Y0) (by decide +kernel)
theorem Y3:b9 IF D5:=av Y0 LY
theorem Bv:Imp tB iT:=bf (au Y3) (by decide +kernel)
theorem Y4:b9 IG uq:=av Y3 Bv
theorem Bw:Imp tD iU:=bf (au Y4) (by decide +kernel)
theorem Y5:b9 II QS:=av Y4 Bw
theorem Ed:Imp vA jG:=bf (au Y5) (by decide +kernel)
theorem Y6:b9 IJ LV:=av Y5 Ed
theorem zK:Imp lQ gF:=Hw (au Y6) (by decide +kernel)
theorem Y7:b9 IK QT:=av Y6 zK
theorem Ef:Imp vB jH:=bf (au Y7) (by decide +kernel)
theorem i40:b9 LP gG:=av Y7 Ef
theorem LZ{ns:List Int}{f:Bool}(e:IV [.rl (ns.map .int)]=.ok (f,.bl true)):∃h',IL [.rl (ns.map .int)] []=.ok (.bl true) h':=GZ (bf (au i40) (by decide +kernel)) e
theorem c0:aK HD HD (aa (top 28))=true:=by decide +kernel
theorem d0:aP ⟨HD,aa (top 28),UP.map (λr=>(r.1,r.2.1)),cons,tb⟩ jA (aq (top 28))=true:=by decide +kernel
theorem c1:aK QA ["_law_cell_here","_law_big"] (aa (top 30))=true:=by decide +kernel
theorem d1:aP ⟨QA,aa (top 30),UQ.map (λr=>(r.1,r.2.1)),cons,tb⟩ fE (aq (top 30))=true:=by decide +kernel
theorem c2:aK QB ["_law_two","_law_three"] (aa (top 32))=true:=by decide +kernel
theorem d2:aP ⟨QB,aa (top 32),UR.map (λr=>(r.1,r.2.1)),cons,tb⟩ cI (aq (top 32))=true:=by decide +kernel
theorem c3:aK QC ["_law_script","_law_most"] (aa (top 33))=true:=by decide +kernel
theorem d3:aP ⟨QC,aa (top 33),US.map (λr=>(r.1,r.2.1)),cons,tb⟩ fF (aq (top 33))=true:=by decide +kernel
theorem c4:aK QD UK (aa (top 31))=true:=by decide +kernel
theorem d4:aP ⟨QD,aa (top 31),UT.map (λr=>(r.1,r.2.1)),cons,tb⟩ iF (aq (top 31))=true:=by decide +kernel
theorem c5:aK QE UL (aa (top 35))=true:=by decide +kernel
theorem d5:aP ⟨QE,aa (top 35),UU.map (λr=>(r.1,r.2.1)),cons,tb⟩ lG (aq (top 35))=true:=by decide +kernel
theorem c6:aK HE HE (aa (top 42))=true:=by decide +kernel
theorem d6:aP ⟨HE,aa (top 42),UW.map (λr=>(r.1,r.2.1)),cons,tb⟩ jB (aq (top 42))=true:=by decide +kernel
theorem c7:aK DY DY (aa (top 34))=true:=by decide +kernel
theorem d7:aP ⟨DY,aa (top 34),UX.map (λr=>(r.1,r.2.1)),cons,tb⟩ gm (aq (top 34))=true:=by decide +kernel
theorem c8:aK HF ["_law_script","_law_by"] (aa (top 44))=true:=by decide +kernel
theorem d8:aP ⟨HF,aa (top 44),UY.map (λr=>(r.1,r.2.1)),cons,tb⟩ gn (aq (top 44))=true:=by decide +kernel
theorem c9:aK kq kq (aa (top 36))=true:=by decide +kernel
theorem d9:aP ⟨kq,aa (top 36),UZ.map (λr=>(r.1,r.2.1)),cons,tb⟩ jC (aq (top 36))=true:=by decide +kernel
theorem zL:aK HG ["poles","ties"] (aa (top 6))=true:=by decide +kernel
theorem d10:aP ⟨HG,aa (top 6),HV.map (λr=>(r.1,r.2.1)),cons,tb⟩ cQ (aq (top 6))=true:=by decide +kernel
theorem zM:aK cX cX (aa (top 7))=true:=by decide +kernel
theorem d11:aP ⟨cX,aa (top 7),HW.map (λr=>(r.1,r.2.1)),cons,tb⟩ iG (aq (top 7))=true:=by decide +kernel
theorem c12:aK zm zm (aa (cY 0))=true:=by decide +kernel
theorem d12:aP ⟨zm,aa (cY 0),HX.map (λr=>(r.1,r.2.1)),cons,tb⟩ oF (aq (cY 0))=true:=by decide +kernel
theorem c13:aK cX cX (aa (top 19))=true:=by decide +kernel
theorem d13:aP ⟨cX,aa (top 19),HZ.map (λr=>(r.1,r.2.1)),cons,tb⟩ fG (aq (top 19))=true:=by decide +kernel
theorem c14:aK HH ["places","pairs"] (aa (top 18))=true:=by decide +kernel
theorem d14:aP ⟨HH,aa (top 18),Ia.map (λr=>(r.1,r.2.1)),cons,tb⟩ fH (aq (top 18))=true:=by decide +kernel
theorem c15:aK HJ cX (aa (top 8))=true:=by decide +kernel
theorem d15:aP ⟨HJ,aa (top 8),Ib.map (λr=>(r.1,r.2.1)),cons,tb⟩ fJ (aq (top 8))=true:=by decide +kernel
theorem c16:aK ["net","firsts"] cX (aa (top 20))=true:=by decide +kernel
theorem d16:aP ⟨["net","firsts"],aa (top 20),Ic.map (λr=>(r.1,r.2.1)),cons,tb⟩ fK (aq (top 20))=true:=by decide +kernel
theorem c17:aK cX cX (aa (top 21))=true:=by decide +kernel
theorem d17:aP ⟨cX,aa (top 21),Ie.map (λr=>(r.1,r.2.1)),cons,tb⟩ fL (aq (top 21))=true:=by decide +kernel
theorem c18:aK eZ eZ (aa (cY 3))=true:=by decide +kernel
theorem d18:aP ⟨eZ,aa (cY 3),Ig.map (λr=>(r.1,r.2.1)),cons,tb⟩ gp (aq (cY 3))=true:=by decide +kernel
theorem c19:aK eZ eZ (aa (cY 2))=true:=by decide +kernel
theorem d19:aP ⟨eZ,aa (cY 2),Ih.map (λr=>(r.1,r.2.1)),cons,tb⟩ fM (aq (cY 2))=true:=by decide +kernel
theorem c20:aK cX cX (aa (top 9))=true:=by decide +kernel
theorem d20:aP ⟨cX,aa (top 9),Ii.map (λr=>(r.1,r.2.1)),cons,tb⟩ gq (aq (top 9))=true:=by decide +kernel
theorem c21:Lc ["lies","taken","wishes","names","wish"] ["lies","taken"] "wishes" (aa stH)=true:=by decide +kernel
theorem d21:aP ⟨["lies","taken","wishes","names","wish"],aa stH,Ij.map (λr=>(r.1,r.2.1)),cons,tb⟩ oG (aq stH)=true:=by decide +kernel
theorem c22:aK HK ji (aa (top 10))=true:=by decide +kernel
theorem d22:aP ⟨HK,aa (top 10),Il.map (λr=>(r.1,r.2.1)),cons,tb⟩ iH (aq (top 10))=true:=by decide +kernel
theorem c23:aK ji ji (aa (top 12))=true:=by decide +kernel
theorem d23:aP ⟨ji,aa (top 12),Im.map (λr=>(r.1,r.2.1)),cons,tb⟩ iI (aq (top 12))=true:=by decide +kernel
theorem c24:aK ji ji (aa (top 13))=true:=by decide +kernel
theorem d24:aP ⟨ji,aa (top 13),Io.map (λr=>(r.1,r.2.1)),cons,tb⟩ fN (aq (top 13))=true:=by decide +kernel
theorem c25:aK HL ji (aa (top 14))=true:=by decide +kernel
theorem d25:aP ⟨HL,aa (top 14),Ip.map (λr=>(r.1,r.2.1)),cons,tb⟩ lH (aq (top 14))=true:=by decide +kernel
theorem c26:aK zo zo (aa (top 15))=true:=by decide +kernel
theorem d26:aP ⟨zo,aa (top 15),Iq.map (λr=>(r.1,r.2.1)),cons,tb⟩ iJ (aq (top 15))=true:=by decide +kernel
theorem c27:aK ["side"] ["side"] (aa (top 16))=true:=by decide +kernel
theorem d27:aP ⟨["side"],aa (top 16),Ir.map (λr=>(r.1,r.2.1)),cons,tb⟩ dY (aq (top 16))=true:=by decide +kernel
theorem c28:aK eZ eZ (aa (cY 1))=true:=by decide +kernel
theorem d28:aP ⟨eZ,aa (cY 1),Iu.map (λr=>(r.1,r.2.1)),cons,tb⟩ dZ (aq (cY 1))=true:=by decide +kernel
theorem c29:aK HM ["self","side","tie"] (aa (cY 4))=true:=by decide +kernel
theorem d29:aP ⟨HM,aa (cY 4),DZ.map (λr=>(r.1,r.2.1)),cons,tb⟩ j5 (aq (cY 4))=true:=by decide +kernel
theorem c30:aK eZ eZ (aa (cY 5))=true:=by decide +kernel
theorem d30:aP ⟨eZ,aa (cY 5),Iv.map (λr=>(r.1,r.2.1)),cons,tb⟩ eB (aq (cY 5))=true:=by decide +kernel
theorem c31:aK HN ["net","begins","linker","cutter"] (aa (top 24))=true:=by decide +kernel
theorem d31:aP ⟨HN,aa (top 24),D3.map (λr=>(r.1,r.2.1)),cons,tb⟩ lJ (aq (top 24))=true:=by decide +kernel
theorem c32:aK HP ["_law_net_here","_law_row"] (aa (top 39))=true:=by decide +kernel
theorem d32:aP ⟨HP,aa (top 39),Iw.map (λr=>(r.1,r.2.1)),cons,tb⟩ iK (aq (top 39))=true:=by decide +kernel
theorem c33:aK kq kq (aa (top 37))=true:=by decide +kernel
theorem d33:aP ⟨kq,aa (top 37),Iz.map (λr=>(r.1,r.2.1)),cons,tb⟩ iL (aq (top 37))=true:=by decide +kernel
theorem c34:aK HQ kq (aa (top 40))=true:=by decide +kernel
theorem d34:aP ⟨HQ,aa (top 40),ID.map (λr=>(r.1,r.2.1)),cons,tb⟩ lK (aq (top 40))=true:=by decide +kernel
theorem c35:aK HS ["_law_now","_law_wishes_here"] (aa (top 43))=true:=by decide +kernel
theorem d35:aP ⟨HS,aa (top 43),IF.map (λr=>(r.1,r.2.1)),cons,tb⟩ gr (aq (top 43))=true:=by decide +kernel
theorem c36:aK HU MV (aa (top 38))=true:=by decide +kernel
theorem d36:aP ⟨HU,aa (top 38),IG.map (λr=>(r.1,r.2.1)),cons,tb⟩ gu (aq (top 38))=true:=by decide +kernel
theorem c37:aK zp zp (aa (top 41))=true:=by decide +kernel
theorem d37:aP ⟨zp,aa (top 41),II.map (λr=>(r.1,r.2.1)),cons,tb⟩ iM (aq (top 41))=true:=by decide +kernel
theorem c38:∃e tp ap py pr,aq (top 26)=[.Assign [.Name "wishes" tp] e ap,stH,.Return (some (.Name "hand" py)) pr]/\K8 ⟨["numbers","wishes","hand"],aa (top 26),IJ.map (λr=>(r.1,r.2.1)),cons,tb⟩ (.asg (.one 1) fO) (.Assign [.Name "wishes" tp] e ap)=true:=⟨_,_,_,_,_,rfl,by decide +kernel⟩
theorem c39:aK zq zq (aa (top 29))=true:=by decide +kernel
theorem d39:aP ⟨zq,aa (top 29),IK.map (λr=>(r.1,r.2.1)),cons,tb⟩ iO (aq (top 29))=true:=by decide +kernel
theorem c40:aK MW DY (aa (top 45))=true:=by decide +kernel
theorem d40:aP ⟨MW,aa (top 45),LP.map (λr=>(r.1,r.2.1)),cons,tb⟩ wY (aq (top 45))=true:=by decide +kernel
section
variable {P:Program} {w:World} {K:Frag} {mg:Str->Option Value} {base:Heap}
theorem all_mk{l:PySem.W.OpenLaw}{h:Heap}{fa:Addr}(X:K.In h)(G:h.Ns mainGlobals mg)(hfa:mg "law" = some (.ref fa))(hφ:∀ns:List Int,ns.length<=63->∃h',IL [.rl (ns.map .int)] []=.ok (.bl true) h'){D0:Addr}{a0:Addr}{a1:Addr}{a2:Addr}{a3:Addr}{a4:Addr}{a5:Addr}{a6:Addr}{a7:Addr}{a8:Addr}{a9:Addr}{Y8:Addr}{Y9:Addr}{VJ:Addr}{Za:Addr}{Zb:Addr}{Zc:Addr}{Zd:Addr}{Ze:Addr}{VL:Addr}{VM:Addr}{Zf:Addr}{Zg:Addr}{Zh:Addr}{Zi:Addr}{Zj:Addr}{Zk:Addr}{Zl:Addr}{VN:Addr}{VO:Addr}{VP:Addr}{Zm:Addr}{a32:Addr}{Zn:Addr}{Zo:Addr}{Zp:Addr}{Zq:Addr}{Zr:Addr}{VQ:Addr}{wc wp:Addr}{Zs:Addr}{Zt:Addr}
  (DA0:nsIn K mainGlobals "Play" = some (some (.ref D0))) (DG0:plainGet K D0 Str.empty=true) (DH0:hasDictIn K D0=true) (DO0:plainOver K D0=true) (DS0:findIn K (.ref D0) "__setattr__" = some (some (.builtin "object.__setattr__"))) (DM0:makesIn K D0=true) (DK0:keepIn K (.ref D0)=true)
  (DN0_0:findIn K (.ref D0) "net" = some none)
  (DN0_1:findIn K (.ref D0) "side" = some none)
  (DN0_2:findIn K (.ref D0) "done" = some none)
  (A0:nsIn K mainGlobals "_law_cell" = some (some (.ref a0)))
  (F0:iX K "_law_cell" "_law_cell" (top 28) a0)
  (A1:nsIn K mainGlobals "_law_numbers" = some (some (.ref a1)))
  (F1:iX K "_law_numbers" "_law_numbers" (top 30) a1)
  (A2:nsIn K mainGlobals "_law_any_numbers" = some (some (.ref a2)))
  (F2:iX K "_law_any_numbers" "_law_any_numbers" (top 32) a2)
  (A3:nsIn K mainGlobals "_law_any_net" = some (some (.ref a3)))
  (F3:iX K "_law_any_net" "_law_any_net" (top 33) a3)
  (A4:nsIn K mainGlobals "_law_pairs" = some (some (.ref a4)))
  (F4:iX K "_law_pairs" "_law_pairs" (top 31) a4)
  (A5:nsIn K mainGlobals "_law_net" = some (some (.ref a5)))
  (F5:iX K "_law_net" "_law_net" (top 35) a5)
  (A6:nsIn K mainGlobals "_law_side" = some (some (.ref a6)))
  (F6:iX K "_law_side" "_law_side" (top 42) a6)
  (A7:nsIn K mainGlobals "_law_called" = some (some (.ref a7)))
  (F7:iX K "_law_called" "_law_called" (top 34) a7)
  (A8:nsIn K mainGlobals "_law_wishes" = some (some (.ref a8)))
  (F8:iX K "_law_wishes" "_law_wishes" (top 44) a8)
  (A9:nsIn K mainGlobals "_law_copy" = some (some (.ref a9)))
  (F9:iX K "_law_copy" "_law_copy" (top 36) a9)
  (A10:nsIn K mainGlobals "put_in_order" = some (some (.ref Y8)))
  (F10:iX K "put_in_order" "put_in_order" (top 6) Y8)
  (A11:nsIn K mainGlobals "own_net" = some (some (.ref Y9)))
  (F11:iX K "own_net" "own_net" (top 7) Y9)
  (A12:findIn K (.ref D0) "__init__" = some (some (.ref VJ))) (I12:isFn K (.ref VJ)=true)
  (F12:iX K "__init__" "Play.__init__" (cY 0) VJ)
  (A13:nsIn K mainGlobals "is_linked" = some (some (.ref Za)))
  (F13:iX K "is_linked" "is_linked" (top 19) Za)
  (A14:nsIn K mainGlobals "firsts_by" = some (some (.ref Zb)))
  (F14:iX K "firsts_by" "firsts_by" (top 18) Zb)
  (A15:nsIn K mainGlobals "places_of" = some (some (.ref Zc)))
  (F15:iX K "places_of" "places_of" (top 8) Zc)
  (A16:nsIn K mainGlobals "is_parted" = some (some (.ref Zd)))
  (F16:iX K "is_parted" "is_parted" (top 20) Zd)
  (A17:nsIn K mainGlobals "winner_of" = some (some (.ref Ze)))
  (F17:iX K "winner_of" "winner_of" (top 21) Ze)
  (M0_18:findIn K (.ref D0) "won" = some (some (.ref VL)))
  (I18:isFn K (.ref VL)=true)
  (F18:iX K "won" "Play.won" (cY 3) VL)
  (M0_19:findIn K (.ref D0) "turn" = some (some (.ref VM)))
  (I19:isFn K (.ref VM)=true)
  (F19:iX K "turn" "Play.turn" (cY 2) VM)
  (A20:nsIn K mainGlobals "names_of" = some (some (.ref Zf)))
  (F20:iX K "names_of" "names_of" (top 9) Zf)
  (A22:nsIn K mainGlobals "ends_of" = some (some (.ref Zg)))
  (F22:iX K "ends_of" "ends_of" (top 10) Zg)
  (A23:nsIn K mainGlobals "without" = some (some (.ref Zh)))
  (F23:iX K "without" "without" (top 12) Zh)
  (A24:nsIn K mainGlobals "taken_out" = some (some (.ref Zi)))
  (F24:iX K "taken_out" "taken_out" (top 13) Zi)
  (A25:nsIn K mainGlobals "drawn" = some (some (.ref Zj)))
  (F25:iX K "drawn" "drawn" (top 14) Zj)
  (A26:nsIn K mainGlobals "done_by" = some (some (.ref Zk)))
  (F26:iX K "done_by" "done_by" (top 15) Zk)
  (A27:nsIn K mainGlobals "other_side" = some (some (.ref Zl)))
  (F27:iX K "other_side" "other_side" (top 16) Zl)
  (M0_28:findIn K (.ref D0) "lying" = some (some (.ref VN)))
  (I28:isFn K (.ref VN)=true)
  (F28:iX K "lying" "Play.lying" (cY 1) VN)
  (M0_29:findIn K (.ref D0) "deed" = some (some (.ref VO)))
  (I29:isFn K (.ref VO)=true)
  (F29:iX K "deed" "Play.deed" (cY 4) VO)
  (M0_30:findIn K (.ref D0) "deeds" = some (some (.ref VP)))
  (I30:isFn K (.ref VP)=true)
  (F30:iX K "deeds" "Play.deeds" (cY 5) VP)
  (A31:nsIn K mainGlobals "refereed" = some (some (.ref Zm)))
  (F31:iX K "refereed" "refereed" (top 24) Zm)
  (A32:nsIn K mainGlobals "_law_marks" = some (some (.ref a32)))
  (F32:iX K "_law_marks" "_law_marks" (top 39) a32)
  (A33:nsIn K mainGlobals "_law_names" = some (some (.ref Zn)))
  (F33:iX K "_law_names" "_law_names" (top 37) Zn)
  (A34:nsIn K mainGlobals "_law_won" = some (some (.ref Zo)))
  (F34:iX K "_law_won" "_law_won" (top 40) Zo)
  (A35:nsIn K mainGlobals "_law_wished" = some (some (.ref Zp)))
  (F35:iX K "_law_wished" "_law_wished" (top 43) Zp)
  (A36:nsIn K mainGlobals "_law_behind" = some (some (.ref Zq)))
  (F36:iX K "_law_behind" "_law_behind" (top 38) Zq)
  (A37:nsIn K mainGlobals "_law_other" = some (some (.ref Zr)))
  (F37:iX K "_law_other" "_law_other" (top 41) Zr)
  (A38:nsIn K mainGlobals "wish_hand" = some (some (.ref VQ)))
  (F38:iX K "wish_hand" "wish_hand" (top 26) VQ)
  (WC:(K.lookup VQ).map TM=some (.ref wc)) (WH:codeHdIn K wc wp=true) (WN:mainGlobals≠wp)
  (A39:nsIn K mainGlobals "_law_whole" = some (some (.ref Zs)))
  (F39:iX K "_law_whole" "_law_whole" (top 29) Zs)
  (A40:nsIn K mainGlobals "law" = some (some (.ref Zt)))
  (F40:iX K "law" "law" (top 45) Zt)
  (Z:∀x∈bltNames,nsIn K mainGlobals x=some none) :
  ∃fd:FuncData,(∀(s:Shared) (v:Value),BindsTo s fd ⟨[v],[]⟩ [("_law_script",v)])/\∀base:Heap,K.In base->base.Ns mainGlobals mg->ye mg wp base->fU l.prog w K mg base tZ 82 fa fd ["_law_script"] (VA K wp):=by
 have e:=hfa.symm.trans (aaz X G A40);cases e;obtain⟨cl,hcl⟩:∃cl:Nat->Addr,cl=λn=>if n=0 then D0 else if n=1018 then VL else if n=1019 then VM else if n=1028 then VN else if n=1029 then VO else if n=1030 then VP else if n=5000 then wp else 0:=⟨_,rfl⟩
 have T:Base K cl mg cons tb:=by
  subst hcl;refine⟨λx hx=>?_,λp hp=>?_,λc hc=>?_,λp hp=>?_,λp hp=>?_,λp hp=>?_⟩
  ·exact PySem.W.mg_none_of X G (Z x hx)
  ·simp[cons]at hp
  ·have hc:c<1:=hc
   match c,hc with
   |0,_=>
    refine⟨⟨DG0,DH0,DO0,DS0⟩,λx hx=>?_⟩;simp only[tb,mem_cons,not_mem_nil,or_false]at hx
    rcases hx with rfl|rfl|rfl
    ·exact DN0_0
    ·exact DN0_1
    ·exact DN0_2
  ·simp only[tb,mem_cons,not_mem_nil,or_false]at hp
   rcases hp with rfl|rfl|rfl|rfl|rfl
   ·exact⟨M0_18,I18,F18.kp⟩
   ·exact⟨M0_28,I28,F28.kp⟩
   ·exact⟨M0_19,I19,F19.kp⟩
   ·exact⟨M0_29,I29,F29.kp⟩
   ·exact⟨M0_30,I30,F30.kp⟩
  ·simp[tb]at hp
  ·simp[tb]at hp
 obtain⟨fd,F⟩:=F40;obtain⟨_,_,_,_,_,_,_,_,_,e,_⟩:=F.ex;refine⟨fd,λs v=>by rw[e];exact .of_eq rfl,λbase _ _ hbm=>?_⟩;have hwp:cl 5000=wp:=by rw[hcl];rfl
 rw[<-hwp] at WH WN hbm |-;have hK:stK K=stH:=F38.elim λ_ F=>GF F A38;have G0:bG l.prog w ⟨K,cl⟩ mg base 0 UP:=all_nil;have G1:bG l.prog w ⟨K,cl⟩ mg base 2 UQ:=bW (x:="_law_cell") (N:=HD) (ps:=HD) (body:=jA) T G0 F0 (aaz X G A0) c0 d0 (by decide) (by intro _ _ _ _ _ _ _ l;apply ln2 l;intros;rfl);have G2:bG l.prog w ⟨K,cl⟩ mg base 4 UR:=bW (x:="_law_numbers") (N:=QA) (ps:=["_law_cell_here","_law_big"]) (body:=fE) T G1 F1 (aaz X G A1) c1 d1 (by decide) (by intro _ _ _ _ _ _ _ l;apply ln2 l;intros;rfl);have G3:bG l.prog w ⟨K,cl⟩ mg base 6 US:=bW (x:="_law_any_numbers") (N:=QB) (ps:=["_law_two","_law_three"]) (body:=cI) T G2 F2 (aaz X G A2) c2 d2 (by decide) (by intro _ _ _ _ _ _ _ l;apply ln2 l;intros;rfl);have G4:bG l.prog w ⟨K,cl⟩ mg base 8 UT:=bW (x:="_law_any_net") (N:=QC) (ps:=["_law_script","_law_most"]) (body:=fF) T G3 F3 (aaz X G A3) c3 d3 (by decide) (by intro _ _ _ _ _ _ _ l;apply ln2 l;intros;rfl);have G5:bG l.prog w ⟨K,cl⟩ mg base 10 UU:=bW (x:="_law_pairs") (N:=QD) (ps:=UK) (body:=iF) T G4 F4 (aaz X G A4) c4 d4 (by decide) (by intro _ _ _ _ _ _ _ l;apply Yo l;intros;rfl);have G6:bG l.prog w ⟨K,cl⟩ mg base 12 UW:=bW (x:="_law_net") (N:=QE) (ps:=UL) (body:=lG) T G5 F5 (aaz X G A5) c5 d5 (by decide) (by intro _ _ _ _ _ _ _ l;apply TL l;intros;rfl);have G7:bG l.prog w ⟨K,cl⟩ mg base 14 UX:=bW (x:="_law_side") (N:=HE) (ps:=HE) (body:=jB) T G6 F6 (aaz X G A6) c6 d6 (by decide) (by intro _ _ _ _ _ _ _ l;apply wG l;intros;rfl);have G8:bG l.prog w ⟨K,cl⟩ mg base 16 UY:=bW (x:="_law_called") (N:=DY) (ps:=DY) (body:=gm) T G7 F7 (aaz X G A7) c7 d7 (by decide) (by intro _ _ _ _ _ _ _ l;apply wG l;intros;rfl);have G9:bG l.prog w ⟨K,cl⟩ mg base 18 UZ:=bW (x:="_law_wishes") (N:=HF) (ps:=["_law_script","_law_by"]) (body:=gn) T G8 F8 (aaz X G A8) c8 d8 (by decide) (by intro _ _ _ _ _ _ _ l;apply ln2 l;intros;rfl);have G10:bG l.prog w ⟨K,cl⟩ mg base 20 HV:=bW (x:="_law_copy") (N:=kq) (ps:=kq) (body:=jC) T G9 F9 (aaz X G A9) c9 d9 (by decide) (by intro _ _ _ _ _ _ _ l;apply wG l;intros;rfl);have G11:bG l.prog w ⟨K,cl⟩ mg base 22 HW:=bW (x:="put_in_order") (N:=HG) (ps:=["poles","ties"]) (body:=cQ) T G10 F10 (aaz X G A10) zL d10 (by decide) (by intro _ _ _ _ _ _ _ l;apply ln2 l;intros;rfl);have G12:bG l.prog w ⟨K,cl⟩ mg base 24 HX:=bW (x:="own_net") (N:=cX) (ps:=cX) (body:=iG) T G11 F11 (aaz X G A11) zM d11 (by decide) (by intro _ _ _ _ _ _ _ l;apply wG l;intros;rfl);have G13:bG l.prog w ⟨K,cl⟩ mg base 26 HZ:=Py (x:="Play") (N:=zm) (ps:=zm) (body:=oF) (n:=2) (f:=VJ) (c:=0) T G12 F12 (by rw[hcl];exact aaz X G DA0) (by rw[hcl];exact⟨DM0,A12,I12,DK0⟩) c12 d12 rfl (by decide) (by intro _ _ _ _ _ _ _ l;apply TL l;intros;rfl);have G14:bG l.prog w ⟨K,cl⟩ mg base 28 Ia:=bW (x:="is_linked") (N:=cX) (ps:=cX) (body:=fG) T G13 F13 (aaz X G A13) c13 d13 (by decide) (by intro _ _ _ _ _ _ _ l;apply wG l;intros;rfl);have G15:bG l.prog w ⟨K,cl⟩ mg base 30 Ib:=bW (x:="firsts_by") (N:=HH) (ps:=["places","pairs"]) (body:=fH) T G14 F14 (aaz X G A14) c14 d14 (by decide) (by intro _ _ _ _ _ _ _ l;apply ln2 l;intros;rfl);have G16:bG l.prog w ⟨K,cl⟩ mg base 32 Ic:=bW (x:="places_of") (N:=HJ) (ps:=cX) (body:=fJ) T G15 F15 (aaz X G A15) c15 d15 (by decide) (by intro _ _ _ _ _ _ _ l;apply wG l;intros;rfl);have G17:bG l.prog w ⟨K,cl⟩ mg base 34 Ie:=bW (x:="is_parted") (N:=["net","firsts"]) (ps:=cX) (body:=fK) T G16 F16 (aaz X G A16) c16 d16 (by decide) (by intro _ _ _ _ _ _ _ l;apply wG l;intros;rfl);have G18:bG l.prog w ⟨K,cl⟩ mg base 36 Ig:=bW (x:="winner_of") (N:=cX) (ps:=cX) (body:=fL) T G17 F17 (aaz X G A17) c17 d17 (by decide) (by intro _ _ _ _ _ _ _ l;apply wG l;intros;rfl);have G19:bG l.prog w ⟨K,cl⟩ mg base 38 Ih:=yJ (y:="Play.won") (N:=eZ) (ps:=eZ) (body:=gp) T G18 F18 (by rw[hcl];rfl) c18 d18 (by decide) (by intro _ _ _ _ _ _ _ l;apply wG l;intros;rfl);have G20:bG l.prog w ⟨K,cl⟩ mg base 40 Ii:=yJ (y:="Play.turn") (N:=eZ) (ps:=eZ) (body:=fM) T G19 F19 (by rw[hcl];rfl) c19 d19 (by decide) (by intro _ _ _ _ _ _ _ l;apply wG l;intros;rfl);have Zu:bG l.prog w ⟨K,cl⟩ mg base 42 Ij:=bW (x:="names_of") (N:=cX) (ps:=cX) (body:=gq) T G20 F20 (aaz X G A20) c20 d20 (by decide) (by intro _ _ _ _ _ _ _ l;apply wG l;intros;rfl);have G22:bG l.prog w ⟨K,cl⟩ mg base 44 Il:=n8 (r0:=("hand",3002,Bm)) Zu (.inr (.inr ⟨by decide,Ld (N:=["lies","taken","wishes","names","wish"]) (ps:=["lies","taken"]) T Zu hK c21 d21 (by intro _ _ _ _ _ _ l;apply ln2 l;intros;rfl)⟩));have G23:bG l.prog w ⟨K,cl⟩ mg base 46 Im:=bW (x:="ends_of") (N:=HK) (ps:=ji) (body:=iH) T G22 F22 (aaz X G A22) c22 d22 (by decide) (by intro _ _ _ _ _ _ _ l;apply ln2 l;intros;rfl);have G24:bG l.prog w ⟨K,cl⟩ mg base 48 Io:=bW (x:="without") (N:=ji) (ps:=ji) (body:=iI) T G23 F23 (aaz X G A23) c23 d23 (by decide) (by intro _ _ _ _ _ _ _ l;apply ln2 l;intros;rfl);have G25:bG l.prog w ⟨K,cl⟩ mg base 50 Ip:=bW (x:="taken_out") (N:=ji) (ps:=ji) (body:=fN) T G24 F24 (aaz X G A24) c24 d24 (by decide) (by intro _ _ _ _ _ _ _ l;apply ln2 l;intros;rfl);have G26:bG l.prog w ⟨K,cl⟩ mg base 52 Iq:=bW (x:="drawn") (N:=HL) (ps:=ji) (body:=lH) T G25 F25 (aaz X G A25) c25 d25 (by decide) (by intro _ _ _ _ _ _ _ l;apply ln2 l;intros;rfl);have G27:bG l.prog w ⟨K,cl⟩ mg base 54 Ir:=bW (x:="done_by") (N:=zo) (ps:=zo) (body:=iJ) T G26 F26 (aaz X G A26) c26 d26 (by decide) (by intro _ _ _ _ _ _ _ l;apply TL l;intros;rfl);have G28:bG l.prog w ⟨K,cl⟩ mg base 56 Iu:=bW (x:="other_side") (N:=["side"]) (ps:=["side"]) (body:=dY) T G27 F27 (aaz X G A27) c27 d27 (by decide) (by intro _ _ _ _ _ _ _ l;apply wG l;intros;rfl);have G29:bG l.prog w ⟨K,cl⟩ mg base 58 DZ:=yJ (y:="Play.lying") (N:=eZ) (ps:=eZ) (body:=dZ) T G28 F28 (by rw[hcl];rfl) c28 d28 (by decide) (by intro _ _ _ _ _ _ _ l;apply wG l;intros;rfl);have G30:bG l.prog w ⟨K,cl⟩ mg base 60 Iv:=yJ (y:="Play.deed") (N:=HM) (ps:=["self","side","tie"]) (body:=j5) T G29 F29 (by rw[hcl];rfl) c29 d29 (by decide) (by intro _ _ _ _ _ _ _ l;apply TL l;intros;rfl);have G31:bG l.prog w ⟨K,cl⟩ mg base 62 D3:=yJ (y:="Play.deeds") (N:=eZ) (ps:=eZ) (body:=eB) T G30 F30 (by rw[hcl];rfl) c30 d30 (by decide) (by intro _ _ _ _ _ _ _ l;apply wG l;intros;rfl);have G32:bG l.prog w ⟨K,cl⟩ mg base 64 Iw:=bW (x:="refereed") (N:=HN) (ps:=["net","begins","linker","cutter"]) (body:=lJ) T G31 F31 (aaz X G A31) c31 d31 (by decide) (by intro _ _ _ _ _ _ _ l;apply Yo l;intros;rfl);have G33:bG l.prog w ⟨K,cl⟩ mg base 66 Iz:=bW (x:="_law_marks") (N:=HP) (ps:=["_law_net_here","_law_row"]) (body:=iK) T G32 F32 (aaz X G A32) c32 d32 (by decide) (by intro _ _ _ _ _ _ _ l;apply ln2 l;intros;rfl);have G34:bG l.prog w ⟨K,cl⟩ mg base 68 ID:=bW (x:="_law_names") (N:=kq) (ps:=kq) (body:=iL) T G33 F33 (aaz X G A33) c33 d33 (by decide) (by intro _ _ _ _ _ _ _ l;apply wG l;intros;rfl);have G35:bG l.prog w ⟨K,cl⟩ mg base 70 IF:=bW (x:="_law_won") (N:=HQ) (ps:=kq) (body:=lK) T G34 F34 (aaz X G A34) c34 d34 (by decide) (by intro _ _ _ _ _ _ _ l;apply wG l;intros;rfl);have G36:bG l.prog w ⟨K,cl⟩ mg base 72 IG:=bW (x:="_law_wished") (N:=HS) (ps:=["_law_now","_law_wishes_here"]) (body:=gr) T G35 F35 (aaz X G A35) c35 d35 (by decide) (by intro _ _ _ _ _ _ _ l;apply ln2 l;intros;rfl);have G37:bG l.prog w ⟨K,cl⟩ mg base 74 II:=bW (x:="_law_behind") (N:=HU) (ps:=MV) (body:=gu) T G36 F36 (aaz X G A36) c36 d36 (by decide) (by intro _ _ _ _ _ _ _ l;apply TL l;intros;rfl);have Zv:bG l.prog w ⟨K,cl⟩ mg base 76 IJ:=bW (x:="_law_other") (N:=zp) (ps:=zp) (body:=iM) T G37 F37 (aaz X G A37) c37 d37 (by decide) (by intro _ _ _ _ _ _ _ l;apply wG l;intros;rfl);have G39:bG l.prog w ⟨K,cl⟩ mg base 78 IK:=by obtain⟨e1,tp,ap,py,pr,b1,b2⟩:=c38;obtain⟨fd1,F1⟩:=F38;exact n8 (r0:=("wish_hand",1,lQ)) Zv (.inl ⟨by decide,.inl ⟨VQ,fd1,["numbers"],rfl,aaz X G A38,F1.kp,F1.binds (by intro _ _ _ _ _ _ _ l;apply wG l;intros;rfl),Lb T Zv F1 ⟨b1,rfl,by decide +kernel,rfl,rfl,WC,WH,A38,λ_ _=>rfl,λ_ _=>rfl,λ_ _=>rfl,⟨rfl,rfl⟩,λ_ _=>rfl,WN⟩ hbm b2⟩⟩)
 have G40:bG l.prog w ⟨K,cl⟩ mg base 80 LP:=bW (x:="_law_whole") (N:=zq) (ps:=zq) (body:=iO) T G39 F39 (aaz X G A39) c39 d39 (by decide) (by intro _ _ _ _ _ _ _ l;apply wG l;intros;rfl);exact(Cg T G40 F c40 d40).imp (PB hφ)
end
end K63
end
section
open PySem L2 Hv
set_option hygiene false
local macro_rules | `(tactic| simp only[EV,$ls,*] $[$l:location]?)=>`(tactic| simp only[cu,Qt,Qu,Hf,Hg,Qv,Qw,Qx,Hh,iE,Uk,Ul,Um,Uo,Uq,Ql,Ur,Qm,Qn,Xg,Us,Ut,ay,aZ,AV,yL,bq,lq,cF,PJ,GG,oR,Yr,GX,az,Qj,bg,Ly,Qk,isVar,ju,List.getElem?_cons_zero,getElem?_cons_succ,set_cons_zero,set_cons_succ,map_cons,map_nil,length_cons,length_nil,List.cons_append,nil_append,List.replicate_succ,List.replicate_zero,Nat.reduceSub,Nat.reduceAdd,Nat.reduceLeDiff,Uu,Uv,Xh,Xi,Xj,Xk,Xl,Xm,Uw,Ux,Uy,Uz,UA,UB,UC,UD,UE,UG,Qo,Qp,Qq,Qs,UH,ko,bM,sI,Xc,dU,kj,Hv.stored,List.contains_nil,List.contains_cons,List.elem_nil,List.elem_cons,Nat.reduceBEq,Nat.reduceEqDiff,BEq.rfl,List.all_cons,List.all_nil,beq_self_eq_true,sJ,jv,wH,mU,qF,↓reduceIte,Bool.and_true,Bool.true_and,Bool.false_and,Bool.and_false,Bool.or_false,Bool.false_or,Bool.or_true,Bool.true_or,Bool.or_self,zero_le,Bool.not_true,Bool.not_false,false_eq_true,decide_eq_true_eq,not_eq_true',decide_eq_false_iff_not,append_nil,nil_append,reduceCtorEq,$ls,*] $[$l:location]?)
section
open PySem L2 Hv
namespace K63
def iW(t:T3):Int×Int:=(t.2.1,t.2.2)
def kB(p q:Int)(ts:List T3):List Int:=p::q::ts.flatMap λt=>[t.2.1,t.2.2]
def L0(p q:Int)(ts:List T3):List Int:=jV (kB p q ts)
theorem pS(p q:Int)(ts:List T3):(kB p q ts).length=2+2*ts.length:=by
 unfold kB
 induction ts with
 |nil=>rfl
 |cons t r ih=>simp only[List.flatMap_cons,length_cons,length_append,length_nil] at *;omega
theorem zN:∀(ns ks:List Int),(jj ks ns).length<=ks.length+ns.length
 |[],ks=>aao _
 | k::r,ks=>by
  rw[jj,aaF];have:=zN r (iw ks k);have:=kW ks k;omega
theorem L1{p q:Int}(h:ts.length<=14):(L0 p q ts).length<64:=by
 unfold L0 jV;rw[(sortI_perm _).length_eq];have:=zN (kB p q ts) [];rw[pS]at this;simp only[length_nil]at this;omega
theorem qZ{p q x:Int}:x∈L0 p q ts↔x=p\/x=q\/∃t∈ts,x=t.2.1\/x=t.2.2:=by
 unfold L0;rw[Ho];unfold kB;simp only[mem_cons,List.mem_flatMap,not_mem_nil,or_false]
theorem places_eq{p q:Int}(h:ts.length<=14):gA [aE p q ts]=.ok (true,.rl ((L0 p q ts).map .int)):=by
 unfold gA fJ aE;simp only[EV,bU kH,bU jz,fB];rw[yT];refine gT aM (λr:Pr FV=>r=.ok (true,.rl ((L0 p q ts).map .int)))
  (λdone env=>∃a,env=[some (.sh,aE p q ts),some (.ow,.rl ((kB p q done).map .int)),a])
  ⟨none,rfl⟩ ?_ ?_
 ·rintro pre t post env hx ⟨a,rfl⟩
  refine⟨[some (.sh,aE p q ts),some (.ow,.rl ((kB p q (pre++[t])).map .int)),some (.sh,aM t)],?_,_,rfl⟩;have hpl:pre.length<14:=by have:=aaS length hx;rw[aaw,aaF]at this;omega
  have z:((kB p q pre).map Val.int).length+2<=sizeLine:=by rw[aaf,pS];unfold sizeLine;omega
  have ea:(kB p q (pre++[t])).map Val.int=(kB p q pre).map Val.int++[.int t.2.1,.int t.2.2]:=by unfold kB;simp
  simp only[EV,aN,Hq,z,ea]
 ·rintro env ⟨a,rfl⟩
  have hl:(kB p q ts).length<64:=by rw[pS];omega
  simp only[EV,ints_map,hl];rfl
end K63
end
section
open PySem L2 Hv
namespace K63
def aU(e:Int×Int):Val:=.tup [.int e.1,.int e.2]
theorem L3{i j:Nat}:bO (.tup [i,j]) (aU e) env=some ((env.set i (some (.sh,.int e.1))).set j (some (.sh,.int e.2))):=rfl
theorem Eg(ps:List Int)(hn:ps.Nodup)(hl:ps.length<64)(es:List (Int×Int))(he:∀e∈es,e.1∈ps/\e.2∈ps):∃f φ,gz [.rl (ps.map .int),.rl (es.map aU)]=.ok (f,xw ps λx=>.int (φ x))/\yY ps es φ:=by
 unfold gz fH;simp only[EV,fB];rw[yT];have hz:∀pre:List Int,pre.length<=ps.length->(pre.map (Sum.inl:Int->Key)).length<sizeLine:=λpre h=>by rw[aaf];unfold sizeLine;omega
 refine gT Val.int (λr:Pr FV=>∃f φ,r=.ok (f,xw ps λx=>.int (φ x))/\yY ps es φ)
  (λdone env=>∃a,env=[some (.sh,.rl (ps.map .int)),some (.sh,.rl (es.map aU)),some (.ow,xw done λx=>.int x),a,none,none,none,none])
  ⟨none,rfl⟩ ?_ ?_
 ·rintro pre x post env hx ⟨a,rfl⟩
  have U1:x∉pre:=by rw[hx,nodup_append]at hn;exact λh=>hn.2.2 x h x (by simp) rfl
  refine⟨[some (.sh,.rl (ps.map .int)),some (.sh,.rl (es.map aU)),some (.ow,xw (pre++[x]) λx=>.int x),some (.sh,.int x),none,none,none,none],?_,_,rfl⟩;simp only[EV,aN,oB,hz pre (by rw[hx];simp),Cu U1];rw[dH (g':=λx=>Val.int x)];intro y _;unfold sS
  split
  ·rename_i e;rw[e]
  ·rfl
 ·rintro env ⟨a,rfl⟩
  simp only[EV,fB];rw[yT];refine gT aU (λr:Pr FV=>∃f φ,r=.ok (f,xw ps λx=>.int (φ x))/\yY ps es φ)
   (λdone env=>∃(φ:Int->Int) (a b c d e:Option (Mk×Val)),env=[some (.sh,.rl (ps.map .int)),some (.sh,.rl (es.map aU)),some (.ow,xw ps λx=>.int (φ x)),a,b,c,d,e]/\yY ps done φ)
   ⟨id,_,_,_,_,_,rfl,yY.start ps⟩ ?_ ?_
  ·rintro pre e post env hx ⟨φ,a,b,c,d,f,rfl,zZ⟩
   obtain⟨h1,h2⟩:=he e (by rw[hx];simp);simp only[EV,L3,gJ h1,gJ h2,fB];have hk:∃kept gone:Int,(if φ e.2 < φ e.1 then φ e.2 else φ e.1)=kept/\(if φ e.2 > φ e.1 then φ e.2 else φ e.1)=gone/\((kept = φ e.1/\gone = φ e.2)\/(kept = φ e.2/\gone = φ e.1)):=by
    refine⟨_,_,rfl,rfl,?_⟩
    split<;>split<;>omega
   obtain⟨kept,gone,ek,eg,hk⟩:=hk;rw[ek,eg];refine gT Val.int (λr:Pr zY=>∃env',r=.ok (.nx env')/\∃(φ:Int->Int) (a b c d f:Option (Mk×Val)),env'=[some (.sh,.rl (ps.map .int)),some (.sh,.rl (es.map aU)),some (.ow,xw ps λx=>.int (φ x)),a,b,c,d,f]/\yY ps (pre++[e]) φ)
    (λdone env=>∃a,env=[some (.sh,.rl (ps.map .int)),some (.sh,.rl (es.map aU)),some (.ow,xw ps λx=>.int (if x∈done /\ φ x=gone then kept else φ x)),a,some (.sh,.int e.1),some (.sh,.int e.2),some (.sh,.int kept),some (.sh,.int gone)])
    ⟨a,by simp⟩ ?_ ?_
   ·rintro done x post env hy ⟨a,rfl⟩
    have U1:x∉done:=by rw[hy,nodup_append]at hn;exact λh=>hn.2.2 x h x (by simp) rfl
    have hxs:x∈ps:=by rw[hy];simp
    refine⟨_,?_,some (.sh,.int x),rfl⟩;simp only[EV,aN,gJ hxs,oB,hz ps (Nat.le_refl _),wU hxs,U1,false_and,if_false]
    by_cases hg:φ x=gone
    ·simp only[hg,↓reduceIte]
     rw[dH];intro y _;unfold sS
     by_cases e:y=x
     ·subst e;simp[hg]
     ·simp[e]
    ·simp only[hg,↓reduceIte]
     rw[dH];intro y _
     by_cases e:y=x
     ·subst e;simp[hg]
     ·simp[e]
   ·rintro env ⟨a,rfl⟩;refine⟨_,rfl,(λx=>if φ x=gone then kept else φ x),a,some (.sh,.int e.1),some (.sh,.int e.2),some (.sh,.int kept),some (.sh,.int gone),?_,zZ.step h1 h2 kept gone hk⟩;rw[dH];intro y hy;simp[hy]
  ·rintro env ⟨φ,a,b,c,d,e,rfl,zZ⟩;simp only[EV,az];exact⟨_,φ,rfl,zZ⟩
end K63
end
section
open PySem L2 Hv
namespace K63
def Apart(p q:Int)(ts:List T3):Prop:=¬ Way (ts.map iW) p q
open Classical in
theorem Eh{p q:Int}(h:ts.length<=14):gB [aE p q ts]=.ok (true,.bl (decide (Apart p q ts))):=by
 have e1:=places_eq (p:=p) (q:=q) h;obtain⟨f,φ,e2,zZ⟩:=Eg (L0 p q ts) (Bg _) (L1 h) (ts.map iW) (λe he=>by
  obtain⟨t,ht,rfl⟩:=mem_map.mp he;exact⟨qZ.mpr (.inr (.inr ⟨t,ht,.inl rfl⟩)),qZ.mpr (.inr (.inr ⟨t,ht,.inr rfl⟩))⟩)
 have hp:p∈L0 p q ts:=qZ.mpr (.inl rfl);have hq:q∈L0 p q ts:=qZ.mpr (.inr (.inl rfl));unfold gB fK;have hc:ts.length<=100000:=by omega
 unfold aE at *;simp only[EV,j7,fR,e1,bU kH,bU jz,fB,fW,length_map,hc];rw[bP aM (λt=>aU (iW t)) ts (λt ht=>by
  simp only[EV,aN,Hq];rfl)]
 have em:ts.map (λt=>aU (iW t))=(ts.map iW).map aU:=by rw[aaO];rfl
 rw[em];simp only[EV,fR,e2,gJ hp,gJ hq,bU kH,bU jz];have:=zZ.iff hp hq;unfold Apart;rw[<-this]
 by_cases c:φ p = φ q<;>simp[c]
theorem order_eq{p q:Int}{us:List T3}(hl:us.length<=16):bZ [.tup [.int p,.int q],.rl (us.map aM)]=.ok (true,aE (if q<p then q else p) (if q>p then q else p) (gh (us.map turnT))):=by
 unfold bZ cQ;have z0:0<=sizeLine:=by decide
 have z2:2<=sizeLine:=by decide
 have z3:3<=sizeLine:=by decide
 simp only[EV,fB];rw[yT];refine gT aM (λr:Pr FV=>r=.ok (true,aE (if q<p then q else p) (if q>p then q else p) (gh (us.map turnT))))
  (λdone env=>∃a b c,env=[some (.sh,.tup [.int p,.int q]),some (.sh,.rl (us.map aM)),some (.ow,.rl ((done.map turnT).map aM)),a,b,c])
  ⟨none,none,none,rfl⟩ ?_ ?_
 ·rintro pre t post env hx ⟨a,b,c,rfl⟩
  have hpl:pre.length<16:=by have:=aaS length hx;rw[aaw,aaF]at this;omega
  have z:((pre.map turnT).map aM).length<sizeLine:=by rw[aaf,aaf];unfold sizeLine;omega
  refine⟨[some (.sh,.tup [.int p,.int q]),some (.sh,.rl (us.map aM)),some (.ow,.rl (((pre++[t]).map turnT).map aM)),some (.sh,.int t.1),some (.sh,.int t.2.1),some (.sh,.int t.2.2)],?_,_,_,_,rfl⟩;have ea:((pre++[t]).map turnT).map aM=(pre.map turnT).map aM++[aM (turnT t)]:=by simp
  simp only[EV,qW,z3,z,ea];rfl
 ·rintro env ⟨a,b,c,rfl⟩;simp only[EV,bU kH,bU jz,z2,sV (show (us.map turnT).length<64 by rw[length_map];omega)];rfl
theorem zO{α:Type}(enc:α -> Val)(Q:aX->Prop)(x:α)(res:FV):∀(us:List α) (env:aX),Q env->x∈us ->
  (∀u∈us,∀env,Q env->(body (enc u) env=.ok (.rt res))\/(u≠x/\∃env',body (enc u) env=.ok (.nx env')/\Q env'))->gO body (us.map enc) env=.ok (.rt res)
 | u::us,env,q,hx,h=>by
  rw[aap,gO]
  rcases h u (aal ..) env q with e|⟨ne,env',e,q'⟩
  ·rw[e,az]
  ·rw[e,az]
   rcases aaA.mp hx with hx|hx
   ·exact(ne hx.symm).elim
   ·exact zO enc Q x res us env' q' hx λv hv=>h v (aak _ hv)
theorem CD{p q:Int}(hn:(ts.map (·.1)).Nodup)(ht:t∈ts):gW [aE p q ts,.int t.1]=.ok (true,aU (iW t)):=by
 unfold gW iH aE;simp only[EV,bU kH,bU jz,fB];rw[zO aM (λenv=>∃a b c,env=[some (.sh,.tup [.tup [.int p,.int q],.rl (ts.map aM)]),some (.sh,.int t.1),a,b,c]) t (true,aU (iW t)) ts _ ⟨none,none,none,rfl⟩ ht]
 ·rfl
 ·rintro u hu env ⟨a,b,c,rfl⟩
  by_cases e:u.1=t.1
  ·left
   have:=Cc hn u hu t ht e;subst this;simp only[EV,qW,decide_true,↓reduceIte];rfl
  ·right
   refine⟨λz=>e (by rw[z]),[some (.sh,.tup [.tup [.int p,.int q],.rl (ts.map aM)]),some (.sh,.int t.1),some (.sh,.int u.1),some (.sh,.int u.2.1),some (.sh,.int u.2.2)],?_,_,_,_,rfl⟩;simp only[EV,qW];simp[e]
def others(ts:List T3)(t:T3):List T3:=ts.filter λu=>!decide (u.1=t.1)
def CF(e:Int×Int)(a b:Int):Prop:=e=(a,b)\/e=(b,a)
theorem CF.way{a b:Int}(s:CF e a b)(h:e∈es):Way es a b:=by
 rcases s with rfl|rfl
 ·exact .fwd (.refl _) h
 ·exact .bwd (.refl _) h
theorem CF.ne{a b:Int}(s:CF e a b):e.1=e.2↔a=b:=by
 rcases s with rfl|rfl
 ·exact Iff.rfl
 ·exact eq_comm
theorem CF.map{a b:Int}(s:CF e a b)(g:Int->Int):CF (g e.1,g e.2) (g a) (g b):=by
 rcases s with rfl|rfl
 ·exact .inl rfl
 ·exact .inr rfl
theorem CF.trans{a b c d:Int}(s:CF e a b)(k:CF (a,b) c d):CF e c d:=by
 rcases k with k|k<;>(injection k with k1 k2;subst k1;subst k2)
 ·exact s
 ·exact s.symm
def xq(D:List (Int×Int))(f:Int->Int):Prop:=∀x y,f x=f y↔Way D x y
theorem IZ(g:xq D f)(h1:∀e∈es,∃e'∈es',CF e' (f e.1) (f e.2))(h2:∀e'∈es',∃e∈es,CF e' (f e.1) (f e.2))(x y:Int):Way es' (f x) (f y)↔Way (es++D) x y:=by
 have up:∀{x y},f x=f y->Way (es++D) x y:=λe=>((g _ _).mp e).mono λe he=>aaI _ he;constructor
 ·have aux:∀u v,Way es' u v->∀x,u=f x->∃y,v=f y/\Way (es++D) x y:=by
   intro u v w
   induction w with
   |refl=>exact λx e=>⟨x,e,.refl _⟩
   |fwd _ m ih=>
    intro x e;obtain⟨y,e1,w1⟩:=ih x e;obtain⟨⟨a,b⟩,he,s⟩:=h2 _ m;have m':(a,b)∈es++D:=aaQ _ he
    rcases s with s|s<;>(injection s with s1 s2;dsimp only at s1 s2)
    ·exact⟨b,s2,(w1.trans (up (e1.symm.trans s1))).fwd m'⟩
    ·exact⟨a,s2,(w1.trans (up (e1.symm.trans s1))).bwd m'⟩
   |bwd _ m ih=>
    intro x e;obtain⟨y,e1,w1⟩:=ih x e;obtain⟨⟨a,b⟩,he,s⟩:=h2 _ m;have m':(a,b)∈es++D:=aaQ _ he
    rcases s with s|s<;>(injection s with s1 s2;dsimp only at s1 s2)
    ·exact⟨a,s1,(w1.trans (up (e1.symm.trans s2))).bwd m'⟩
    ·exact⟨b,s1,(w1.trans (up (e1.symm.trans s2))).fwd m'⟩
  intro w;obtain⟨z,e,w⟩:=aux _ _ w x rfl;exact w.trans (up e.symm)
 ·intro w
  have st:∀a b,(a,b)∈es++D->Way es' (f a) (f b):=λa b m=>by
   rcases aaP.mp m with m|m
   ·obtain⟨e',he',s⟩:=h1 _ m;exact s.way he'
   ·rw[(g a b).mpr (.fwd (.refl _) m)];exact .refl _
  induction w with
  |refl=>exact .refl _
  |fwd _ m ih=>exact ih.trans (st _ _ m)
  |bwd _ m ih=>exact ih.trans (st _ _ m).symm
theorem xq.nil:xq [] id:=λx y=>⟨λe=>by cases e;exact .refl _,λw=>w.const id λe he=>by simp at he⟩
def gP(a b x:Int):Int:=if x=b then a else x
theorem xq.one(a b:Int):xq [(a,b)] (gP a b):=λx y=>by
 have ab:Way [(a,b)] a b:=.fwd (.refl _) (by simp);constructor
 ·unfold gP
  intro e;split at e<;>split at e
  ·rename_i h1 h2;rw[h1,h2];exact .refl _
  ·rename_i h1 h2;rw[h1,<-e];exact ab.symm
  ·rename_i h1 h2;rw[h2,e];exact ab
  ·rw[e];exact .refl _
 ·exact λw=>w.const (gP a b) λe he=>by
   rw[aat]at he;subst he;unfold gP;simp
theorem xq.comp{a b c d:Int}(g:xq D f)(s:CF (c,d) (f a) (f b)):xq ((a,b)::D) λx=>gP c d (f x):=λx y=>by
 rw[xq.one c d (f x) (f y),IZ (es:=[(a,b)]) (es':=[(c,d)]) g (λe he=>⟨_,aat.mpr rfl,by rw[aat]at he;subst he;exact s⟩) (λe he=>⟨_,aat.mpr rfl,by rw[aat]at he;subst he;exact s⟩)];exact Iff.rfl
theorem kc:u∈others ts t↔u∈ts/\u.1≠t.1:=by
 unfold others;rw[mem_filter];simp
theorem nC{n:Nat}(h:ts.length<=n):(others ts t).length<=n:=aaH (List.length_filter_le ..) h
def CG(g:Int->Int)(t:T3):T3:=(t.1,g t.2.1,g t.2.2)
theorem Bx:ko (aM t)=true:=rfl
theorem tL{p q:Int}(h:ts.length<=14)(hn:(ts.map (·.1)).Nodup)(ht:t∈ts):gX [aE p q ts,.int t.1]=.ok (true,.rl ((others ts t).map aM)):=by
 have e1:=CD (p:=p) (q:=q) hn ht;unfold gX iI;have hc:ts.length<=100000:=by omega
 unfold aE at *;simp only[EV,nv,e1,bU jz,fB,fW,length_map,hc];rw[nq aM aM (λu=>!decide (u.1=t.1)) ts (λu hu=>by
  have i0:jl [] (aM u) (.int 0)=some (.int u.1):=rfl;simp only[EV,aN,i0,Bx]
  by_cases c:u.1=t.1<;>simp[c])]
 rfl
theorem Ja{p q:Int}(h:ts.length<=14)(hn:(ts.map (·.1)).Nodup)(ht:t∈ts):gE [aE p q ts,.int t.1]=.ok (true,aE (if q<p then q else p) (if q>p then q else p) (gh ((others ts t).map turnT))):=by
 have e1:=tL (p:=p) (q:=q) h hn ht;have e2:=order_eq (p:=p) (q:=q) (us:=others ts t) (aaH (nC h) (by decide));unfold gE fN;unfold aE at e1 |-;simp only[EV,lY,iZ,e1,bU kH,e2];rfl
theorem L4{a b x:Int}:Dw [] (.dc [Sum.inl b] [.int a]) (.inl x)=some (if x=b then some (.int a) else none):=by
 show some (dF [((Sum.inl b:Key),Val.int a)] (.inl x))=_;unfold dF
 by_cases c:x=b
 ·subst c;simp
 ·have c':¬ b=x:=λz=>c z.symm;simp[c,c']
theorem CH{a b x:Int}:(if x=b then some (Val.int a) else none).getD (.int x)=.int (gP a b x):=by
 unfold gP;split<;>rfl
theorem CI:FI [] (.dc ks vs)=some ():=rfl
theorem QW:jl [] (aU e) (.int 0)=some (.int e.1):=rfl
theorem QX:jl [] (aU e) (.int 1)=some (.int e.2):=rfl
theorem Jb{p q:Int}(h:ts.length<=14)(hn:(ts.map (·.1)).Nodup)(ht:t∈ts):oN [aE p q ts,.int t.1]=.ok (true,aE (turnT (0,gP t.2.1 t.2.2 p,gP t.2.1 t.2.2 q)).2.1 (turnT (0,gP t.2.1 t.2.2 p,gP t.2.1 t.2.2 q)).2.2 (gh (((others ts t).map (CG (gP t.2.1 t.2.2))).map turnT))):=by
 have e1:=tL (p:=p) (q:=q) h hn ht;have e0:=CD (p:=p) (q:=q) hn ht;have e2:=order_eq (p:=gP t.2.1 t.2.2 p) (q:=gP t.2.1 t.2.2 q) (us:=(others ts t).map (CG (gP t.2.1 t.2.2))) (by rw[aaf];exact aaH (nC h) (by decide));have z2:2<=sizeLine:=by decide
 have z3:3<=sizeLine:=by decide
 have z0:0<=sizeLine:=by decide
 unfold oN lH;unfold aE at e1 e0 |-;have ee:∀t:T3,(iW t).1=t.2.1/\(iW t).2=t.2.2:=λ_=>⟨rfl,rfl⟩;simp only[EV,pL,pM,e0,e1,QW,QX,ee,bU kH,bU jz,oB,CI,L4,CH,fB,z0,z2]
 repeat rw[yT]
 refine gT aM (λr:Pr FV=>r=.ok (true,.tup [.tup [.int (turnT (0,gP t.2.1 t.2.2 p,gP t.2.1 t.2.2 q)).2.1,.int (turnT (0,gP t.2.1 t.2.2 p,gP t.2.1 t.2.2 q)).2.2],.rl ((gh (((others ts t).map (CG (gP t.2.1 t.2.2))).map turnT)).map aM)]))
  (λdone env=>∃m1 m2 a b c,env=[some (.sh,.tup [.tup [.int p,.int q],.rl (ts.map aM)]),some (.sh,.int t.1),some (m1,aU (iW t)),some (.nw,.dc [Sum.inl t.2.2] [.int t.2.1]),some (m2,.tup [.int (gP t.2.1 t.2.2 p),.int (gP t.2.1 t.2.2 q)]),some (.ow,.rl ((done.map (CG (gP t.2.1 t.2.2))).map aM)),a,b,c])
  ⟨_,_,none,none,none,rfl⟩ ?_ ?_
 ·rintro pre u post env hx ⟨m1,m2,a,b,c,rfl⟩
  have hpl:pre.length<14:=by have:=aaS length hx;rw[aaw,aaF]at this;have:=nC (t:=t) h;omega
  have z:((pre.map (CG (gP t.2.1 t.2.2))).map aM).length<sizeLine:=by rw[aaf,aaf];unfold sizeLine;omega
  have ea:((pre++[u]).map (CG (gP t.2.1 t.2.2))).map aM=(pre.map (CG (gP t.2.1 t.2.2))).map aM++[aM (CG (gP t.2.1 t.2.2) u)]:=by simp
  refine⟨_,?_,m1,m2,some (.sh,.int u.1),some (.sh,.int u.2.1),some (.sh,.int u.2.2),rfl⟩;simp only[EV,qW,oB,CI,L4,CH,z3,z,ea];rfl
 ·rintro env ⟨m1,m2,a,b,c,rfl⟩;simp only[EV,kJ,e2];rfl
theorem CJ:∀{l l':List T3},uh l->uh l'->l.Perm l'->l=l'
 |[],_,_,_,h=>(List.nil_perm.mp h).symm
 |x::r,[],_,_,h=>absurd h.length_eq (by simp)
 | x::r,y::r',u,u',h=>by
  unfold uh at u u';rw[aaW]at u u';have e:x=y:=by
   rcases aaA.mp (h.mem_iff.mp aal) with e|m
   ·exact e
   ·rcases aaA.mp (h.mem_iff.mpr aal) with e|m'
    ·exact e.symm
    ·have:=u.1 y m';have:=u'.1 x m;omega
  subst e;rw[CJ u.2 u'.2 h.cons_inv]
theorem Jc(h:uh l):(l.map (·.1)).Nodup:=by
 unfold uh at h;rw[List.Nodup,pairwise_map];exact h.imp λh=>by omega
theorem nD(h:uh l):gh l=l:=CJ (oE l (Jc h)) h (cL l)
theorem vC(h:t.2.1<=t.2.2):turnT t=t:=by
 obtain⟨a,b,c⟩:=t;unfold turnT;dsimp only at *
 congr 2<;>split<;>omega
end K63
end
section
open PySem L2 Hv
namespace K63
def cellAt(ns:List Int)(k:Nat):Int:=ns.getD k 0
theorem cE(ns:List Int)(k:Nat):aV [.rl (ns.map .int),.int k]=.ok (true,.int (cellAt ns k)):=by
 unfold aV jA
 by_cases h:k<ns.length
 ·have e:kP (List.map Val.int ns) (k:Int)=some (.int (ns[k])):=ja (by simp[h])
  have h':(k:Int)<ns.length:=by omega
  simp only[EV,eY e,length_map,h',cellAt,List.getD,List.getElem?_eq_getElem h,Option.getD_some]
 ·have h':¬ (k:Int)<ns.length:=by omega
  have e:ns[k]?=none:=by simp;omega
  simp only[EV,length_map,h',cellAt,List.getD,e,getD_none]
theorem Jd(ns:List Int){x:Int}(h:0<=x):∃c,aV [.rl (ns.map .int),.int x]=.ok (true,.int c):=by
 obtain⟨k,rfl⟩:=eq_ofNat_of_zero_le h;exact⟨_,cE ns k⟩
theorem Ei(a b:Int)(h:0<=b/\b<67):kX a b=true:=by
 unfold kX;simp only[or_eq_true,and_eq_true,decide_eq_true_eq];right;omega
theorem tM(a b:Int)(h:0<=a/\a<67):kX a b=true:=by
 unfold kX;simp only[or_eq_true,and_eq_true,decide_eq_true_eq];left;omega
theorem Je{n:Int}(h:inR n=true):kG .range [.int n]=some ((List.range n.toNat).map λ(i:Nat)=>Val.int (0+(i:Int))):=by
 show (if inR n=true then some (cz 0 n.toNat) else none)=_;rw[aaj h];rfl
theorem QY{a b:Int}(h:(inR a&&inR b)=true):kG .range [.int a,.int b]=some ((List.range (b-a).toNat).map λ(i:Nat)=>Val.int (a+(i:Int))):=by
 show (if (inR a&&inR b)=true then some (cz a (b-a).toNat) else none)=_;rw[aaj h];rfl
theorem aj{ms:List Nat}(h:aZ Ψ ms s env=.ok (.nx env')):ay Ψ ms (.cons s r) env=ay Ψ ms r env':=by
 rw[ay,h,az]
def kN(a b k:Int):Int:=(if 0<a%3 then 1+b%10 ^ 57 else 1)*(((1+a/3%66)*k+a/198%67)%67)+(if 0<a%3 then b/7%10 ^ 59 else 0)
theorem Jf(a b i j:Int)(hi:0<=i/\i<67)(hj:0<=j/\j<67)(e:kN a b i=kN a b j):i=j:=by
 unfold kN at e;have hs:∃st:Int,(if 0<a%3 then 1+b%10 ^ 57 else 1)=st/\1<=st:=by refine⟨_,rfl,?_⟩;split<;>omega
 obtain⟨st,e1,a1⟩:=hs;rw[e1]at e;have e2:st*(((1+a/3%66)*i+a/198%67)%67)=st*(((1+a/3%66)*j+a/198%67)%67):=by omega
 have e3:=Int.eq_of_mul_eq_mul_left (by omega:st≠0) e2;exact LD (by omega) hi hj e3
theorem Jg(a b k:Int):0<=kN a b k:=by
 unfold kN;refine Int.add_nonneg (Int.mul_nonneg ?_ ?_) ?_
 ·split<;>omega
 ·omega
 ·split<;>omega
def dz(a b:Int):List Val:=(List.range 15).map λi:Nat=>.int (kN a b (0+(i:Int)))
theorem L5(a b:Int)(i:Int)(h0:0<=i)(h1:i<15):kP (dz a b) i=some (.int (kN a b i)):=by
 obtain⟨k,rfl⟩:=eq_ofNat_of_zero_le h0;refine ja ?_;unfold dz;rw[aaB,List.getElem?_range (by omega)];simp
theorem nG(a b:Int):∃f,dm [.int a,.int b]=.ok (f,.rl (dz a b)):=by
 unfold dm fE;have m1:∀k:Int,kX (1+a/3%66) k=true:=λk=>tM _ _ (by omega);have m2:∀x k:Int,kX x (((1+a/3%66)*k+a/198%67)%67)=true:=λx k=>Ei _ _ (by omega);have hR:inR 15=true:=by decide
 have hc:(15:Int).toNat<=100000:=by decide
 by_cases h:0<a%3
 ·have en:dz a b=(List.range 15).map λi:Nat=>.int ((1+b%10 ^ 57)*(((1+a/3%66)*(0+(i:Int))+a/198%67)%67)+b/7%10 ^ 59):=by unfold dz kN;simp only[if_pos h]
  rw[en];simp only[EV,bT (show decide ((0:Int)<3)=true by decide),h,bT (show decide ((0:Int)<66)=true by decide),bT (show decide ((0:Int)<67)=true by decide),cg (show dP 3=true by decide),cg (show dP 7=true by decide),cg (show dP 198=true by decide),Cs (show decide ((0:Int)<=57/\(57:Int)<=1000000/\(10:Int).natAbs<2 ^ 64)=true by decide),Cs (show decide ((0:Int)<=59/\(59:Int)<=1000000/\(10:Int).natAbs<2 ^ 64)=true by decide),bT (show decide ((0:Int)<10 ^ (57:Int).toNat)=true by decide),bT (show decide ((0:Int)<10 ^ (59:Int).toNat)=true by decide),Je hR,fW,length_map,List.length_range,hc];rw[bP (λi:Nat=>Val.int (0+(i:Int))) (λi:Nat=>.int ((1+b%10 ^ 57)*(((1+a/3%66)*(0+(i:Int))+a/198%67)%67)+b/7%10 ^ 59)) (List.range (15:Int).toNat) (λi hi=>by
   simp only[EV,aN,yU (m1 _),yU (m2 _ _),bT (show decide ((0:Int)<67)=true by decide)];rfl)]
  exact⟨_,rfl⟩
 ·have en:dz a b=(List.range 15).map λi:Nat=>.int (1*(((1+a/3%66)*(0+(i:Int))+a/198%67)%67)+0):=by unfold dz kN;simp only[if_neg h]
  rw[en];simp only[EV,bT (show decide ((0:Int)<3)=true by decide),h,bT (show decide ((0:Int)<66)=true by decide),bT (show decide ((0:Int)<67)=true by decide),cg (show dP 3=true by decide),cg (show dP 198=true by decide),Je hR,fW,length_map,List.length_range,hc];rw[bP (λi:Nat=>Val.int (0+(i:Int))) (λi:Nat=>.int (1*(((1+a/3%66)*(0+(i:Int))+a/198%67)%67)+0)) (List.range (15:Int).toNat) (λi hi=>by
   simp only[EV,aN,yU (m1 _),yU (m2 _ _),bT (show decide ((0:Int)<67)=true by decide)])]
  exact⟨_,rfl⟩
end K63
end
section
open PySem L2 Hv
namespace K63
theorem dJ{α:Type}(enc:α -> Val)(Q:List α -> aX->Prop)(us:List α)(oV:aX)(h0:Q [] oV)
  (step:∀(pre:List α) (u:α) (post:List α) (env:aX),us=pre++u::post->Q pre env->∃env',body (enc u) env=.ok (.nx env')/\Q (pre++[u]) env'):∃env',gO body (us.map enc) oV=.ok (.nx env')/\Q us env':=by
 have go:∀(post pre:List α) (env:aX),us=pre++post->Q pre env->∃env',gO body (post.map enc) env=.ok (.nx env')/\Q us env':=by
  intro post
  induction post with
  |nil=>exact λpre env e q=>⟨env,rfl,by rw[e,append_nil];exact q⟩
  |cons u post ih=>intro pre env e q;obtain⟨sQ,e1,q1⟩:=step pre u post env e q;obtain⟨nh,e2,q2⟩:=ih (pre++[u]) sQ (by rw[e,List.append_assoc];rfl) q1;exact⟨nh,by rw[aap,gO,e1,az];exact e2,q2⟩
 exact go us [] oV rfl h0
section
variable {Ψ:Nat->List Val->Pr FV} {ms:List Nat} {p:AH} {it:nM} {body:bQ} {env:aX}
theorem Jh(hk:k≠.zip)(hs:(sJ p it body&&(stored p).all λi=>!ms.contains i)=true)(eb:cF Ψ it env=.ok ds)(ex:kG k ds=some xs):aZ Ψ ms (.for p k it body) env=gO (λx env=>pb (pl (bO p x env)) λenv'=>ay Ψ ms body env') xs env:=by
 rw[aZ,show ∀z o:Pr zY,DR k z o=o from λz o=>by cases k<;>first|rfl|exact(hk rfl).elim];unfold pg;rw[aaj hs,eb,az,ex,bg,az]
theorem vD{n:Int}(hs:(sJ p it body&&(stored p).all λi=>!ms.contains i)=true)(eb:cF Ψ it env=.ok [.int n])(hn:inR n=true):aZ Ψ ms (.for p .range it body) env=gO (λx env=>pb (pl (bO p x env)) λenv'=>ay Ψ ms body env') ((List.range n.toNat).map λi:Nat=>.int (0+(i:Int))) env:=Jh (λz=>nomatch z) hs eb (Je hn)
theorem QZ{a b:Int}(hs:(sJ p it body&&(stored p).all λi=>!ms.contains i)=true)(eb:cF Ψ it env=.ok [.int a,.int b])(hn:(inR a&&inR b)=true):aZ Ψ ms (.for p .range it body) env=gO (λx env=>pb (pl (bO p x env)) λenv'=>ay Ψ ms body env') ((List.range (b-a).toNat).map λi:Nat=>.int (a+(i:Int))) env:=Jh (λz=>nomatch z) hs eb (QY hn)
theorem tN(hs:(sJ p it body&&(stored p).all λi=>!ms.contains i)=true)(eb:cF Ψ it env=.ok [.rl xs]):aZ Ψ ms (.for p .seq it body) env=gO (λx env=>pb (pl (bO p x env)) λenv'=>ay Ψ ms body env') xs env:=Jh (λz=>nomatch z) hs eb fB
end
theorem nI{n u:Nat}{pre post:List Nat}(e:List.range n=pre++u::post):u<n/\pre.length<n:=by
 have h1:u∈List.range n:=by rw[e];simp
 have h2:=aaS length e;rw[aaU,aaw,aaF]at h2;exact⟨List.mem_range.mp h1,by omega⟩
def xr(many:Int)(es:List (Int×Int)):Prop:=∀e∈es,(0<=e.1/\e.1<many)/\0<=e.2/\e.2<many
theorem xr.snoc{many a b:Int}(h:xr many es)(ha:0<=a/\a<many)(hb:0<=b/\b<many):xr many (es++[(a,b)]):=λe he=>by
 rcases aaP.mp he with he|he
 ·exact h e he
 ·rw[aat.mp he];exact⟨ha,hb⟩
def pE(ns:List Int)(st many:Int)(es:List (Int×Int))(a b c d:Option (Mk×Val)):aX:=[some (.sh,.rl (ns.map .int)),some (.sh,.int st),some (.sh,.int many),some (.sh,.int 14),some (.ow,.rl (es.map aU)),a,b,c,d]
theorem CK{a b:Int}:es.map aU++[.tup [.int a,.int b]]=(es++[(a,b)]).map aU:=by rw[aaN];rfl
theorem Ji:iF=.cons (.asg (.one 4) (.lst .nil)) (.cons Xw (.cons (.iff (.cmp .eq (!1) (¬2)) #[VF] .nil) pT)):=rfl
section
variable {ns:List Int} {st many:Int}
theorem Jj{es:List (Int×Int)}(h:es.length<=60):(es.map aU).length<sizeLine:=by rw[aaf];unfold sizeLine;omega
theorem qv{n:Int}(h:0<=n/\n<=100):inR n=true:=by
 unfold inR;rw[and_eq_true,aaL,aaL];omega
theorem U3(hm:2<=many/\many<=8)(j:Nat)(hj:j<2)(es:List (Int×Int))(hl:es.length<=40)(ok:xr many es)(b c d:Option (Mk×Val)) :
  ∃es' b',ay (af qY) [4,4,4] VD (pE ns st many es (some (.sh,.int (0+(j:Int)))) b c d)=.ok (.nx (pE ns st many es' (some (.sh,.int (0+(j:Int)))) b' c d))/\es'.length<=es.length+7/\xr many es':=by
 unfold VD;have hr:(inR 1&&inR many)=true:=by rw[qv (by omega),qv (by omega)];rfl
 have z2:2<=sizeLine:=by decide
 obtain⟨env',e1,es',b',rfl,h1,h2⟩:=dJ (λi:Nat=>Val.int (1+(i:Int))) (body:=λx env=>pb (pl (bO (.one 6) x env)) λenv'=>ay (af qY) [4,4,4] #[.expr (.met .append (!4) #[.tup #[!6,.bin .mod (.bin .fdiv (.call 0 #[!0,.bin .add (¬4) (!6)]) (.bin .add (¬1) (.bin .mul (¬7) (!5)))) (!6)]])] env')
  (λpre env=>∃es' b',env=pE ns st many es' (some (.sh,.int (0+(j:Int)))) b' c d/\es'.length<=es.length+pre.length/\xr many es') (List.range (many-1).toNat) (pE ns st many es (some (.sh,.int (0+(j:Int)))) b c d) ⟨es,b,rfl,by simp,ok⟩ (λpre u post env hx hq=>by
   obtain⟨es',b',rfl,h1,h2⟩:=hq;obtain⟨hu,hp⟩:=nI hx;obtain⟨cc,ec⟩:=Jd ns (x:=4+(1+(u:Int))) (by omega);have k1:decide (0<1+(u:Int))=true:=by rw[aaL];omega
   have k2:kX 7 (0+(j:Int))=true:=tM _ _ (by omega);have k3:dP (1+7*(0+(j:Int)))=true:=by unfold dP;rw[aaL];omega
   have b1:=emod_nonneg (cc/(1+7*(0+(j:Int)))) (show 1+(u:Int)≠0 by omega);have b2:=emod_lt_of_pos (cc/(1+7*(0+(j:Int)))) (show 0<1+(u:Int) by omega);refine⟨pE ns st many (es'++[(1+(u:Int),cc/(1+7*(0+(j:Int)))%(1+(u:Int)))]) (some (.sh,.int (0+(j:Int)))) (some (.sh,.int (1+(u:Int)))) c d,?_,_,_,rfl,by simp only[length_append,length_singleton];omega,h2.snoc (by omega) (by omega)⟩;unfold pE;simp only[EV,aN,cZ,ec,yU k2,cg k3,bT k1,z2,Jj (show es'.length<=60 by omega),CK])
 rw[aaU]at h1;refine⟨es',b',?_,by omega,h2⟩;have eb:cF (af qY) #[¬1,!2] (pE ns st many es (some (.sh,.int (0+(j:Int)))) b c d)=.ok [.int 1,.int many]:=by unfold pE;simp only[EV,az]
 rw[aj ((QZ rfl eb hr).trans e1),ay]
theorem U4(hs:0<=st/\st<4)(hm:2<=many/\many<=8)(c d:Option (Mk×Val)):∃es a b,aZ (af qY) [4,4,4] Xw (pE ns st many [] none none c d)=.ok (.nx (pE ns st many es a b c d))/\es.length<=14/\xr many es:=by
 have h4:∃n:Nat,kP [Val.int 0,.int 2,.int 0,.int 1] st=some (.int (n:Int))/\n<=2:=by
  have:st=0\/st=1\/st=2\/st=3:=by omega
  rcases this with rfl|rfl|rfl|rfl
  ·exact⟨0,rfl,by omega⟩
  ·exact⟨2,rfl,by omega⟩
  ·exact⟨0,rfl,by omega⟩
  ·exact⟨1,rfl,by omega⟩
 obtain⟨n,e4,hn⟩:=h4;have z4:4<=sizeLine:=by decide
 obtain⟨env',e1,es,a,b,rfl,h1,h2⟩:=dJ (λi:Nat=>Val.int (0+(i:Int))) (body:=λx env=>pb (pl (bO (.one 5) x env)) λenv'=>ay (af qY) [4,4,4] VD env')
  (λpre env=>∃es a b,env=pE ns st many es a b c d/\es.length<=7*pre.length/\xr many es) (List.range (n:Int).toNat) (pE ns st many [] none none c d) ⟨[],none,none,rfl,by simp,λe he=>by simp at he⟩ (λpre u post env hx hq=>by
   obtain⟨es,a,b,rfl,h1,h2⟩:=hq;obtain⟨hu,hp⟩:=nI hx;obtain⟨es',b',k1,k2,k3⟩:=U3 (ns:=ns) (st:=st) hm u (by omega) es (by omega) h2 b c d;refine⟨pE ns st many es' (some (.sh,.int (0+(u:Int)))) b' c d,?_,es',_,_,rfl,by simp only[length_append,length_singleton];omega,k3⟩;rw[aN,bg,az];exact k1)
 rw[aaU]at h1;refine⟨es,a,b,?_,by omega,h2⟩;have eb:cF (af qY) #[.idx (.lst #[¬0,¬2,¬0,¬1]) (!1)] (pE ns st many [] none none c d)=.ok [.int (n:Int)]:=by unfold pE;simp only[EV,z4,eY e4]
 exact(vD rfl eb (qv (by omega))).trans e1
end
end K63
end
section
open PySem L2 Hv
namespace K63
section
variable {ns:List Int} {st many:Int}
theorem U5(hm:2<=many/\many<=8)(k:Nat)(hk:(k:Int)<many-1)(es:List (Int×Int))(hl:es.length<=40)(ok:xr many es)(a c d:Option (Mk×Val)) :
  ∃es' a',ay (af qY) [4,4,4] VE (pE ns st many es a (some (.sh,.int (0+(k:Int)))) c d)=.ok (.nx (pE ns st many es' a' (some (.sh,.int (0+(k:Int)))) c d))/\es'.length<=es.length+3/\xr many es':=by
 unfold VE;obtain⟨cc,ec⟩:=Jd ns (x:=5+(0+(k:Int))) (by omega);have z2:2<=sizeLine:=by decide
 have hb:0<=1+cc%3/\1+cc%3<=3:=by omega
 have eb:cF (af qY) #[.bin .add (¬1) (.bin .mod (.call 0 #[!0,.bin .add (¬5) (!6)]) (¬3))] (pE ns st many es a (some (.sh,.int (0+(k:Int)))) c d)=.ok [.int (1+cc%3)]:=by unfold pE;simp only[EV,cZ,ec,bT (show decide ((0:Int)<3)=true by decide)]
 generalize 1+cc%3=m at *;obtain⟨env',e1,es',a',rfl,h1,h2⟩:=dJ (λi:Nat=>Val.int (0+(i:Int))) (body:=λx env=>pb (pl (bO (.one 5) x env)) λenv'=>ay (af qY) [4,4,4] #[.expr (.met .append (!4) #[.tup #[!6,.bin .add (!6) (¬1)]])] env')
  (λpre env=>∃es' a',env=pE ns st many es' a' (some (.sh,.int (0+(k:Int)))) c d/\es'.length<=es.length+pre.length/\xr many es') (List.range m.toNat) (pE ns st many es a (some (.sh,.int (0+(k:Int)))) c d) ⟨es,a,rfl,by simp,ok⟩ (λpre u post env hx hq=>by
   obtain⟨es',b',rfl,h1,h2⟩:=hq;obtain⟨hu,hp⟩:=nI hx;refine⟨pE ns st many (es'++[(0+(k:Int),0+(k:Int)+1)]) (some (.sh,.int (0+(u:Int)))) (some (.sh,.int (0+(k:Int)))) c d,?_,_,_,rfl,by simp only[length_append,length_singleton];omega,h2.snoc (by omega) (by omega)⟩;unfold pE;simp only[EV,aN,z2,Jj (show es'.length<=60 by omega),CK])
 rw[aaU]at h1;refine⟨es',a',?_,by omega,h2⟩;rw[aj ((vD rfl eb (qv (by omega))).trans e1),ay]
theorem U6(hm:2<=many/\many<=8)(es:List (Int×Int))(hl:es.length<=14)(ok:xr many es)(a b c d:Option (Mk×Val)):∃es' a' b',aZ (af qY) [4,4,4] VF (pE ns st many es a b c d)=.ok (.nx (pE ns st many es' a' b' c d))/\es'.length<=35/\xr many es':=by
 have eb:cF (af qY) #[.bin .sub (!2) (¬1)] (pE ns st many es a b c d)=.ok [.int (many-1)]:=by unfold pE;simp only[EV,az]
 obtain⟨env',e1,es',a',b',rfl,h1,h2⟩:=dJ (λi:Nat=>Val.int (0+(i:Int))) (body:=λx env=>pb (pl (bO (.one 6) x env)) λenv'=>ay (af qY) [4,4,4] VE env')
  (λpre env=>∃es' a b,env=pE ns st many es' a b c d/\es'.length<=es.length+3*pre.length/\xr many es') (List.range (many-1).toNat) (pE ns st many es a b c d) ⟨es,a,b,rfl,by simp,ok⟩ (λpre u post env hx hq=>by
   obtain⟨es',a,b,rfl,h1,h2⟩:=hq;obtain⟨hu,hp⟩:=nI hx;obtain⟨ua,b',k1,k2,k3⟩:=U5 (ns:=ns) (st:=st) hm u (by omega) es' (by omega) h2 a c d;refine⟨pE ns st many ua b' (some (.sh,.int (0+(u:Int)))) c d,?_,ua,_,_,rfl,by simp only[length_append,length_singleton];omega,k3⟩;rw[aN,bg,az];exact k1)
 rw[aaU]at h1;exact⟨es',a',b',(vD rfl eb (qv (by omega))).trans e1,by omega,h2⟩
theorem U7(hm:2<=many/\many<=8)(es:List (Int×Int))(hl:es.length<=35)(ok:xr many es){more:Int}(hmo:0<=more/\more<=14)(a b d:Option (Mk×Val)):∃es' d',aZ (af qY) [4,4,4] YB (pE ns st many es a b (some (.sh,.int more)) d)=.ok (.nx (pE ns st many es' a b (some (.sh,.int more)) d'))/\xr many es':=by
 have eb:cF (af qY) #[.slc (!0) (¬5) (.bin .add (¬5) (!7))] (pE ns st many es a b (some (.sh,.int more)) d)=.ok [.rl ((bX ns (some 5) (some (5+more))).map .int)]:=by unfold pE;simp only[EV,yV,lD]
 have hlen:(bX ns (some 5) (some (5+more))).length<=14:=by
  unfold bX;rw[length_take,length_drop];unfold HT.eV;dsimp only
  repeat' split
  all_goals omega
 have hmp:decide (0<many)=true:=by rw[aaL];omega
 have z2:2<=sizeLine:=by decide
 generalize bX ns (some 5) (some (5+more))=cs at *;obtain⟨env',e1,es',d',rfl,h1,h2⟩:=dJ Val.int (body:=λx env=>pb (pl (bO (.one 8) x env)) λenv'=>ay (af qY) [4,4,4] #[.expr (.met .append (!4) #[.tup #[.bin .mod (.bin .fdiv (!8) (¬3)) (!2),.bin .mod (.bin .fdiv (!8) (¬31)) (!2)]])] env')
  (λpre env=>∃es' d,env=pE ns st many es' a b (some (.sh,.int more)) d/\es'.length<=es.length+pre.length/\xr many es') cs (pE ns st many es a b (some (.sh,.int more)) d) ⟨es,d,rfl,by simp,ok⟩ (λpre u post env hx hq=>by
   obtain⟨es',d,rfl,h1,h2⟩:=hq;have hp:=aaS length hx;rw[aaw,aaF]at hp;have b1:=emod_nonneg (u/3) (show many≠0 by omega);have b2:=emod_lt_of_pos (u/3) (show 0<many by omega);have b3:=emod_nonneg (u/31) (show many≠0 by omega);have b4:=emod_lt_of_pos (u/31) (show 0<many by omega);refine⟨pE ns st many (es'++[(u/3%many,u/31%many)]) a b (some (.sh,.int more)) (some (.sh,.int u)),?_,_,_,rfl,by simp only[length_append,length_singleton];omega,h2.snoc ⟨b1,b2⟩ ⟨b3,b4⟩⟩;unfold pE;simp only[EV,aN,bT hmp,cg (show dP 3=true by decide),cg (show dP 31=true by decide),z2,Jj (show es'.length<=60 by omega),CK])
 exact⟨es',d',(tN rfl eb).trans e1,h2⟩
theorem Jk(hs:0<=st/\st<4)(hm:2<=many/\many<=8):∃f es,jD [.rl (ns.map .int),.int st,.int many,.int 14]=.ok (f,.rl (es.map aU))/\es.length<=14/\xr many es:=by
 unfold jD;rw[Ji];show ∃f es,pb (ay (af qY) [4,4,4] _ [some (.sh,.rl (ns.map .int)),some (.sh,.int st),some (.sh,.int many),some (.sh,.int 14),none,none,none,none,none]) _=_/\_;rw[aj (env':=pE ns st many [] none none none none) (by unfold pE;simp only[EV,show (0:Nat)<=sizeLine by decide])];obtain⟨es1,a1,b1,e1,l1,o1⟩:=U4 (ns:=ns) hs hm none none;rw[aj e1];have s2:∃ua a2 b2,aZ (af qY) [4,4,4] (.iff (.cmp .eq (!1) (¬2)) #[VF] .nil) (pE ns st many es1 a1 b1 none none)=.ok (.nx (pE ns st many ua a2 b2 none none))/\ua.length<=35/\xr many ua:=by
  have ec:yL (af qY) (.cmp .eq (!1) (¬2)) (pE ns st many es1 a1 b1 none none)=.ok (true,.bl (decide (st=2))):=by unfold pE;simp only[EV,az]
  by_cases c:st=2
  ·obtain⟨ua,a2,b2,e2,l2,o2⟩:=U6 (ns:=ns) (st:=st) hm es1 l1 o1 a1 b1 none none;refine⟨ua,a2,b2,?_,l2,o2⟩;rw[aZ,ec,az,decide_eq_true c];show pb (pl (some true)) _=_;rw[bg,az,aaj rfl,aj e2,ay]
  ·refine⟨es1,a1,b1,?_,by omega,o1⟩;rw[aZ,ec,az,decide_eq_false c];show pb (pl (some false)) _=_;rw[bg,az,aam aac,ay]
 obtain⟨ua,a2,b2,e2,l2,o2⟩:=s2;rw[aj e2];unfold pT;have c0:aV [.rl (ns.map .int),.int 0]=.ok (true,.int (cellAt ns 0)):=cE ns 0;generalize cellAt ns 0=x0 at *;rw[aj (env':=pE ns st many ua a2 b2 (some (.sh,.int (x0/28%4))) none) (by unfold pE;simp only[EV,cZ,c0,cg (show dP 28=true by decide),bT (show decide ((0:Int)<4)=true by decide)])];have s3:∃more,(0<=more/\more<=14)/\aZ (af qY) [4,4,4] (.iff (.cmp .eq (!1) (¬0)) #[.asg (.one 7) (.bin .mod (.bin .fdiv (.call 0 #[!0,¬0]) (¬28)) (.bin .add (!3) (¬1)))] .nil) (pE ns st many ua a2 b2 (some (.sh,.int (x0/28%4))) none)=.ok (.nx (pE ns st many ua a2 b2 (some (.sh,.int more)) none)):=by
  have ec:yL (af qY) (.cmp .eq (!1) (¬0)) (pE ns st many ua a2 b2 (some (.sh,.int (x0/28%4))) none)=.ok (true,.bl (decide (st=0))):=by unfold pE;simp only[EV,az]
  by_cases c:st=0
  ·refine⟨x0/28%15,by omega,?_⟩;rw[aZ,ec,az,decide_eq_true c];show pb (pl (some true)) _=_;rw[bg,az,aaj rfl,aj (env':=pE ns st many ua a2 b2 (some (.sh,.int (x0/28%15))) none) (by unfold pE;simp only[EV,cZ,c0,cg (show dP 28=true by decide),show (14:Int)+1=15 from rfl,bT (show decide ((0:Int)<15)=true by decide)]),ay]
  ·refine⟨x0/28%4,by omega,?_⟩;rw[aZ,ec,az,decide_eq_false c];show pb (pl (some false)) _=_;rw[bg,az,aam aac,ay]
 obtain⟨more,hmo,e3⟩:=s3;rw[aj e3];obtain⟨Zw,d4,e4,o4⟩:=U7 (ns:=ns) (st:=st) hm ua l2 o2 hmo a2 b2 none;rw[aj e4];refine⟨bM ((bX Zw none (some 14)).map aU),bX Zw none (some 14),?_,?_,λe he=>o4 e ?_⟩
 ·unfold pE;simp only[EV,yV,lD]
 ·unfold bX
  rw[length_take,length_drop];unfold HT.eV;dsimp only
  repeat' split
  all_goals omega
 ·unfold bX at he;exact List.mem_of_mem_drop (List.mem_of_mem_take he)
end
end K63
end
section
open PySem L2 Hv
namespace K63
def zP(a b:Int)(l:List Int)(n:Int)(k fd x:Option (Mk×Val)):aX:=[some (.sh,.int a),some (.sh,.int b),some (.ow,.rl (l.map .int)),some (.sh,.int n),k,fd,x]
theorem Q0:cI=#[.asg (.one 2) (.lst .nil),.asg (.one 3) (.bin .sub (¬0) (¬1)),.for (.one 4) .range #[¬20] VC,.asg (.one 5) (.lst .nil),.whl 100000 (!2) aW,.ret (!5)]:=rfl
theorem Zx:(10:Int) ^ (57:Int).toNat=10 ^ 57:=rfl
theorem MX{α β:Type}(f:α -> β):∀(l:List α) (i:Nat),(l.map f).eraseIdx i=(l.eraseIdx i).map f
 |[],_=>rfl
 |_::_,0=>rfl
 |_::l,i+1=>aaS (_ :: ·) (MX f l i)
theorem zQ:∀(l:List Int) (k:Nat) (h:k<l.length),(l[k]::l.eraseIdx k).Perm l
 |[],k,h=>absurd h (Nat.not_lt_zero _)
 |x::l,0,_=>.refl _
 | x::l,k+1,h=>by
  have h':k<l.length:=Nat.lt_of_succ_lt_succ h;rw[List.eraseIdx_cons_succ,List.getElem_cons_succ];exact(List.Perm.swap x (l[k]'h') _).trans ((zQ l k h').cons x)
theorem Q2(a b:Int)(l:List Int)(n:Int)(k x:Option (Mk×Val))(fd:List Int)(i:Nat)(hi:i<l.length)(hb:b%(l.length:Int)=(i:Int))(Zy:l.length+fd.length<=20) :
  ay (af JJ) [2,5,2] aW (zP a b l n k (some (.ow,.rl (fd.map .int))) x)=.ok (.nx (zP a (b/(l.length:Int)) (l.eraseIdx i) n k (some (.ow,.rl ((fd++[l[i]]).map .int))) (some (.sh,.int (i:Int))))):=by
 have h0:decide ((0:Int)<(l.length:Int))=true:=by rw[aaL];omega
 have h1:dP (l.length:Int)=true:=by unfold dP;rw[aaL];omega
 have h2:(0:Int)<=(i:Int)/\(i:Int)<1000/\(5:Nat)≠2/\(fd.map Val.int).length<sizeLine:=by rw[aaf];unfold sizeLine;omega
 have h3:(l.map Val.int)[((i:Nat):Int).toNat]?=some (.int l[i]):=by rw[Int.toNat_natCast,aaB,aaJ hi];rfl
 have h4:(l.map Val.int).eraseIdx ((i:Nat):Int).toNat=(l.eraseIdx i).map Val.int:=by rw[Int.toNat_natCast,MX]
 unfold aW zP;rw[aj (env':=[some (.sh,.int a),some (.sh,.int b),some (.ow,.rl (l.map .int)),some (.sh,.int n),k,some (.ow,.rl (fd.map .int)),some (.sh,.int (i:Int))]) (by simp only[EV,length_map,bT h0,hb])];rw[aj (env':=[some (.sh,.int a),some (.sh,.int (b/(l.length:Int))),some (.ow,.rl (l.map .int)),some (.sh,.int n),k,some (.ow,.rl (fd.map .int)),some (.sh,.int (i:Int))]) (by simp only[EV,length_map,cg h1])];rw[aj (env':=[some (.sh,.int a),some (.sh,.int (b/(l.length:Int))),some (.ow,.rl ((l.eraseIdx i).map .int)),some (.sh,.int n),k,some (.ow,.rl ((fd++[l[i]]).map .int)),some (.sh,.int (i:Int))]) (by
  rw[aZ];show yM _ 5 (2,.var 6) _=_;unfold yM;rw[show RA [some (.sh,.int a),some (.sh,.int (b/(l.length:Int))),some (.ow,.rl (l.map .int)),some (.sh,.int n),k,some (.ow,.rl (fd.map .int)),some (.sh,.int (i:Int))] 5=some (fd.map .int) from rfl,show RA [some (.sh,.int a),some (.sh,.int (b/(l.length:Int))),some (.ow,.rl (l.map .int)),some (.sh,.int n),k,some (.ow,.rl (fd.map .int)),some (.sh,.int (i:Int))] (2,IE.var 6).1=some (l.map .int) from rfl,bg,bg,az,az];simp only[EV,h2,h3,h4,map_append,map_cons,map_nil];rw[aaj ⟨trivial,trivial,by decide,trivial⟩]),ay]
theorem CL(a:Int)(n:Int)(k:Option (Mk×Val)):∀(m:Nat) (l fd:List Int) (b:Int) (x:Option (Mk×Val)) (fuel:Nat),l.length=m->m<fuel->m+fd.length<=20 ->
  ∃(b':Int) (x':Option (Mk×Val)) (fd':List Int),n9 (λenv=>pb (yL (af JJ) (!2) env) λx=>pl (ck [] x.2)) (ay (af JJ) [2,5,2] aW) fuel (zP a b l n k (some (.ow,.rl (fd.map .int))) x)=.ok (.nx (zP a b' [] n k (some (.ow,.rl (fd'.map .int))) x'))/\fd'.Perm (fd++l)
 | 0,l,fd,b,x,fuel+1,hl,hf,Zy=>by
  have hl:l=[]:=List.length_eq_zero_iff.mp hl;subst hl;refine⟨b,x,fd,?_,by rw[append_nil]⟩;rw[n9];rfl
 | m+1,l,fd,b,x,fuel+1,hl,hf,Zy=>by
  have b1:=emod_nonneg b (show (l.length:Int)≠0 by omega);have b2:=emod_lt_of_pos b (show 0<(l.length:Int) by omega);obtain⟨i,hi⟩:=eq_ofNat_of_zero_le b1;have hi2:i<l.length:=by omega
  have st:=Q2 a b l n k x fd i hi2 hi (by omega);obtain⟨b',x',fd',e,p⟩:=CL a n k m (l.eraseIdx i) (fd++[l[i]]) (b/(l.length:Int)) (some (.sh,.int (i:Int))) fuel (by rw[List.length_eraseIdx,aaj hi2];omega) (by omega) (by rw[aaw,length_singleton];omega);refine⟨b',x',fd',?_,p.trans ?_⟩
  ·rw[n9]
   have et:pb (yL (af JJ) (!2) (zP a b l n k (some (.ow,.rl (fd.map .int))) x)) (λx=>pl (ck [] x.2))=.ok Bool.true:=by
    show pl (some (!(l.map Val.int).isEmpty))=_;cases l with
    |nil=>cases hl
    |cons _ _=>rfl
   rw[et,az,aaj rfl,st,az];exact e
  ·rw[List.append_assoc];exact List.Perm.append_left fd (zQ l i hi2)
theorem any_eq(a b:Int):∃(f:Bool) (l:List Int),cj [.int a,.int b]=.ok (f,.rl (l.map .int))/\l.length=20/\l.Nodup/\∀x∈l,0<=x:=by
 unfold cj;rw[Q0];show ∃(f:Bool) (l:List Int),pb (ay (af JJ) [2,5,2] _ [some (.sh,.int a),some (.sh,.int b),none,none,none,none,none]) _=_/\_;have z0:0<=sizeLine:=by decide
 rw[aj (env':=[some (.sh,.int a),some (.sh,.int b),some (.ow,.rl []),none,none,none,none]) (by simp only[EV,z0])];rw[aj (env':=zP a b [] (-1) none none none) (by unfold zP;simp only[EV,az];rfl)];obtain⟨env',e1,a',l,n,k,rfl,h1,h2,h3,h4⟩:=dJ (λi:Nat=>Val.int (0+(i:Int))) (body:=λx env=>pb (pl (bO (.one 4) x env)) λenv'=>ay (af JJ) [2,5,2] VC env')
  (λpre env=>∃(a':Int) (l:List Int) (n:Int) (k:Option (Mk×Val)),env=zP a' b l n k none none/\l.length=pre.length /\ -1<=n/\(∀x∈l,0<=x/\x<=n)/\l.Nodup) (List.range 20) (zP a b [] (-1) none none none) ⟨a,[],-1,none,rfl,rfl,by omega,λx hx=>by simp at hx,nodup_nil⟩ (λpre u post env hx hq=>by
   obtain⟨a',l,n,k,rfl,h1,h2,h3,h4⟩:=hq;obtain⟨_,hp⟩:=nI hx;have hd:=emod_nonneg a' (show (10:Int) ^ 57≠0 by decide);have hm:decide ((0:Int)<10 ^ 57)=Bool.true:=by decide
   have hv:dP (10 ^ 57)=Bool.true:=by decide
   have zl:(l.map Val.int).length<sizeLine:=by rw[aaf];unfold sizeLine;omega
   refine⟨zP (a'/10 ^ 57) b (l++[n+1+a'%10 ^ 57]) (n+1+a'%10 ^ 57) (some (.sh,.int (0+(u:Int)))) none none,?_,_,_,_,_,rfl,by rw[aaw,aaw,h1];rfl,by omega,λx hx=>?_,?_⟩
   ·unfold VC zP;rw[aaN];simp only[EV,aN,map_cons,map_nil,Cs (show decide ((0:Int)<=57/\(57:Int)<=1000000/\(10:Int).natAbs<2 ^ 64)=Bool.true by decide),Zx,bT hm,cg hv,zl]
   ·rcases aaP.mp hx with hx|hx
    ·have:=h3 x hx;omega
    ·rw[aat.mp hx];omega
   ·rw[nodup_append];refine⟨h4,by simp,λx hx y hy e=>?_⟩;rw[aat.mp hy]at e;have:=h3 x hx;omega)
 rw[aaU]at h1;have eb:cF (af JJ) #[¬20] (zP a b [] (-1) none none none)=.ok [.int 20]:=by simp only[EV,az]
 rw[aj ((vD rfl eb (qv (by omega))).trans e1)];rw[aj (env':=zP a' b l n k (some (.ow,.rl (([]:List Int).map .int))) none) (by unfold zP;simp only[EV,z0,map_nil])];obtain⟨b',x',fd,e2,p⟩:=CL a' n k 20 l [] b none 100000 h1 (by omega) (by simp);rw[aj (env':=zP a' b' [] n k (some (.ow,.rl (fd.map .int))) x') (by rw[aZ];exact e2)];rw[nil_append]at p;refine⟨bM (fd.map .int),fd,?_,by rw[p.length_eq];exact h1,p.nodup_iff.mpr h4,λx hx=>(h3 x (p.mem_iff.mp hx)).1⟩;unfold zP;simp only[EV,az]
end K63
end
section
open PySem L2 Hv
namespace K63
structure cS (p q:Int) (ts:List T3):Prop where
 ord:p<=q
 len:ts.length<=14
 up:uh ts
 ends:∀t∈ts,t.2.1<=t.2.2
 pos:∀t∈ts,0<=t.1
theorem L6:fF=vH (.cons (.for (.one 6) .range #[¬20] UM) (vM (.cons (.for (.one 6) .range #[.bin .add (!8) (¬1)] UN) vR))):=rfl
def vE(ns:List Int)(two four:Int)(m4:Mk)(N:List Int)(g:Int)(k c7 c8 c9 zL zM:Option (Mk×Val)):aX:=[some (.sh,.rl (ns.map .int)),some (.sh,.int 14),some (.sh,.int two),some (.sh,.int four),some (m4,.rl (N.map .int)),some (.sh,.int g),k,c7,c8,c9,zL,zM]
theorem Jl:∀(a:List Int) (b:List (Int×Int)),dS (a.map Val.int) (b.map aU)=(a.zip b).map λe=>.tup [.int e.1,aU e.2]
 |[],b=>by cases b<;>rfl
 |x::a,[]=>rfl
 |x::a,y::b=>by rw[aap,aap,dS,Jl a b,zip_cons_cons,aap]
theorem CM:∀(a:List Int) (b:List (Int×Int)),((a.zip b).map (·.1)).Sublist a
 |[],b=>by simp
 |x::a,[]=>by simp
 |x::a,y::b=>by rw[zip_cons_cons,aap];exact(CM a b).cons₂ x
theorem U8{l:List Int}{x:Int}(h0:0<=x)(h1:x<l.length):∃y,kP (l.map Val.int) x=some (.int y):=by
 obtain⟨k,rfl⟩:=eq_ofNat_of_zero_le h0;exact⟨l[k]'(by omega),ja (by rw[aaB,aaJ (by omega)];rfl)⟩
theorem U9(ns:List Int)(two four:Int)(m4:Mk)(N:List Int)(g:Int):∃two' eE k,aZ (af tE) [9] (.for (.one 6) .range #[¬20] UM) (vE ns two four m4 N g none none none none none none)=.ok (.nx (vE ns two' eE m4 N g k none none none none none)):=by
 obtain⟨env',e1,two',eE,k,rfl⟩:=dJ (λi:Nat=>Val.int (0+(i:Int))) (body:=λx env=>pb (pl (bO (.one 6) x env)) λenv'=>ay (af tE) [9] UM env')
  (λpre env=>∃two' eE k,env=vE ns two' eE m4 N g k none none none none none) (List.range 20) (vE ns two four m4 N g none none none none none none) ⟨two,four,none,rfl⟩ (λpre u post env hx hq=>by
   obtain⟨two',eE,k,rfl⟩:=hq;obtain⟨hu,_⟩:=nI hx;have hv:dP (10 ^ 57)=Bool.true:=by decide
   have hv2:dP (20-(0+(u:Int)))=Bool.true:=by unfold dP;rw[aaL];omega
   refine⟨vE ns (two'/10 ^ 57) (eE/(20-(0+(u:Int)))) m4 N g (some (.sh,.int (0+(u:Int)))) none none none none none,?_,_,_,_,rfl⟩;unfold UM vE;simp only[EV,aN,Cs (show decide ((0:Int)<=57/\(57:Int)<=1000000/\(10:Int).natAbs<2 ^ 64)=Bool.true by decide),Zx,cg hv,cg hv2])
 have eb:cF (af tE) #[¬20] (vE ns two four m4 N g none none none none none none)=.ok [.int 20]:=by simp only[EV,az]
 exact⟨two',eE,k,(vD rfl eb (qv (by omega))).trans e1⟩
theorem Va(ns:List Int)(two four:Int)(m4 m7:Mk)(hm:iD m7=Bool.true)(N P:List Int)(hP:1<=P.length/\P.length<=20)(g:Int)(sz:Int)(hz:0<=sz/\sz<15)(k:Option (Mk×Val)):∃(eE:Int) (k':Option (Mk×Val)) (es:List (Int×Int)) (zL zM:Option (Mk×Val)),aZ (af tE) [9] (.for (.one 6) .range #[.bin .add (!8) (¬1)] UN) (vE ns two four m4 N g k (some (m7,.rl (P.map .int))) (some (.sh,.int sz)) (some (.ow,.rl [])) none none)=.ok (.nx (vE ns two eE m4 N g k' (some (m7,.rl (P.map .int))) (some (.sh,.int sz)) (some (.ow,.rl (es.map aU))) zL zM))/\es.length=(sz+1).toNat/\∀e∈es,e.1<=e.2:=by
 have hl:decide ((0:Int)<(P.length:Int))=Bool.true:=by rw[aaL];omega
 have hv:dP (P.length:Int)=Bool.true:=by unfold dP;rw[aaL];omega
 have z2:2<=sizeLine:=by decide
 obtain⟨env',e1,eE,k',es,zL,zM,rfl,h1,h2⟩:=dJ (λi:Nat=>Val.int (0+(i:Int))) (body:=λx env=>pb (pl (bO (.one 6) x env)) λenv'=>ay (af tE) [9] UN env')
  (λpre env=>∃(eE:Int) (k':Option (Mk×Val)) (es:List (Int×Int)) (zL zM:Option (Mk×Val)),env=vE ns two eE m4 N g k' (some (m7,.rl (P.map .int))) (some (.sh,.int sz)) (some (.ow,.rl (es.map aU))) zL zM/\es.length=pre.length/\∀e∈es,e.1<=e.2) (List.range (sz+1).toNat) (vE ns two four m4 N g k (some (m7,.rl (P.map .int))) (some (.sh,.int sz)) (some (.ow,.rl [])) none none) ⟨four,k,[],none,none,rfl,rfl,λe he=>by simp at he⟩ (λpre u post env hx hq=>by
   obtain⟨eE,k',es,zL,zM,rfl,h1,h2⟩:=hq;obtain⟨_,hp⟩:=nI hx;obtain⟨y1,i1⟩:=U8 (l:=P) (emod_nonneg eE (show (P.length:Int)≠0 by omega)) (emod_lt_of_pos eE (by omega));obtain⟨y2,i2⟩:=U8 (l:=P) (emod_nonneg (eE/(P.length:Int)) (show (P.length:Int)≠0 by omega)) (emod_lt_of_pos (eE/(P.length:Int)) (by omega));have zl:es.length<sizeLine:=by unfold sizeLine;omega
   refine⟨vE ns two (eE/(P.length:Int)/(P.length:Int)) m4 N g (some (.sh,.int (0+(u:Int)))) (some (m7,.rl (P.map .int))) (some (.sh,.int sz)) (some (.ow,.rl ((es++[(if y2<y1 then y2 else y1,if y2>y1 then y2 else y1)]).map aU))) (some (.sh,.int y1)) (some (.sh,.int y2)),?_,_,_,_,_,_,rfl,by rw[aaw,aaw,h1];rfl,λe he=>?_⟩
   ·unfold UN vE;rw[aN,bg,az,<-CK];simp only[EV,hm,length_map,bT hl,cg hv,eY i1,eY i2,z2,zl]
   ·rcases aaP.mp he with he|he
    ·exact h2 e he
    ·rw[aat.mp he]
     dsimp only
     split<;>split<;>omega)
 rw[aaU]at h1;have eb:cF (af tE) #[.bin .add (!8) (¬1)] (vE ns two four m4 N g k (some (m7,.rl (P.map .int))) (some (.sh,.int sz)) (some (.ow,.rl [])) none none)=.ok [.int (sz+1)]:=by unfold vE;simp only[EV,az]
 exact⟨eE,k',es,zL,zM,(vD rfl eb (qv (by omega))).trans e1,h1,h2⟩
theorem L7{l:List Int}{n:Int}(h0:0<=n)(h1:n<=l.length):(bX l none (some n)).length=n.toNat:=by
 unfold bX;rw[length_take,length_drop];unfold HT.eV;dsimp only
 repeat' split
 all_goals omega
theorem Vb{α:Type}(e:α)(es:List α):bX (e::es) (some 1) none=es:=by
 unfold bX HT.eV;dsimp only;rw[aam (by omega)];simp[Nat.min_eq_left]
theorem L8(ns:List Int):∃p q ts,gx [.rl (ns.map .int),.int 14]=.ok (true,aE p q ts)/\cS p q ts:=by
 have c2:aV [.rl (ns.map .int),.int 2]=.ok (true,.int (cellAt ns 2)):=cE ns 2;have c3:aV [.rl (ns.map .int),.int 3]=.ok (true,.int (cellAt ns 3)):=cE ns 3;have c4:aV [.rl (ns.map .int),.int 4]=.ok (true,.int (cellAt ns 4)):=cE ns 4;generalize cellAt ns 2=x2 at *;generalize cellAt ns 3=x3 at *;generalize cellAt ns 4=x4 at *;obtain⟨f1,N,n1,lN,dN,pN⟩:=any_eq x3 x4;have z0:0<=sizeLine:=by decide
 have z2:2<=sizeLine:=by decide
 have z3:3<=sizeLine:=by decide
 unfold gx;rw[L6];show ∃p q ts,pb (ay (af tE) [9] _ [some (.sh,.rl (ns.map .int)),some (.sh,.int 14),none,none,none,none,none,none,none,none,none,none]) _=_/\_;have hH:∀T,ay (af tE) [9] (vH T) [some (.sh,.rl (ns.map .int)),some (.sh,.int 14),none,none,none,none,none,none,none,none,none,none]=ay (af tE) [9] T (vE ns x2 x4 (bI f1 (.rl (N.map .int))) N x2 none none none none none none):=λT=>by
  unfold vH;rw[aj (env':=[some (.sh,.rl (ns.map .int)),some (.sh,.int 14),some (.sh,.int x2),none,none,none,none,none,none,none,none,none]) (by simp only[EV,dQ,c2])];rw[aj (env':=[some (.sh,.rl (ns.map .int)),some (.sh,.int 14),some (.sh,.int x2),some (.sh,.int x4),none,none,none,none,none,none,none,none]) (by simp only[EV,dQ,c4])];rw[aj (env':=[some (.sh,.rl (ns.map .int)),some (.sh,.int 14),some (.sh,.int x2),some (.sh,.int x4),some (bI f1 (.rl (N.map .int)),.rl (N.map .int)),none,none,none,none,none,none,none]) (by simp only[EV,dQ,dw,c3,n1])];rw[aj (env':=vE ns x2 x4 (bI f1 (.rl (N.map .int))) N x2 none none none none none none) (by unfold vE;simp only[EV,az])]
 rw[hH];have r4:iD (bI f1 (.rl (N.map .int)))=Bool.true:=iE;generalize bI f1 (.rl (N.map .int))=m4 at *;obtain⟨two,four,k,e1⟩:=U9 ns x2 x4 m4 N x2;rw[aj e1];obtain⟨f2,P0,n2,lP,_,_⟩:=any_eq x2 two;have hP:(bX P0 none (some (2+four%7))).length=(2+four%7).toNat:=L7 (by omega) (by omega);have m1:decide ((0:Int)<7)=Bool.true:=by decide
 have m2:decide ((0:Int)<14+1)=Bool.true:=by decide
 have d1:dP 7=Bool.true:=by decide
 have d2:dP (14+1)=Bool.true:=by decide
 have hM:∃m7 eE sz,iD m7=Bool.true/\(0<=sz/\sz<15)/\∀T,ay (af tE) [9] (vM T) (vE ns two four m4 N x2 k none none none none none)=ay (af tE) [9] T (vE ns two eE m4 N x2 k (some (m7,.rl ((bX P0 none (some (2+four%7))).map .int))) (some (.sh,.int sz)) (some (.ow,.rl [])) none none):=by refine⟨bI (bM ((bX P0 none (some (2+four%7))).map .int)) (.rl ((bX P0 none (some (2+four%7))).map .int)),four/7/(14+1),four/7%(14+1),iE,by omega,λT=>?_⟩;unfold vM;rw[aj (env':=vE ns two four m4 N x2 k (some (bI f2 (.rl (P0.map .int)),.rl (P0.map .int))) none none none none) (by unfold vE;simp only[EV,dw,n2])];rw[aj (env':=vE ns two four m4 N x2 k (some (bI (bM ((bX P0 none (some (2+four%7))).map .int)) (.rl ((bX P0 none (some (2+four%7))).map .int)),.rl ((bX P0 none (some (2+four%7))).map .int))) none none none none) (by unfold vE;simp only[EV,bT m1,yV,lD])];generalize bI (bM ((bX P0 none (some (2+four%7))).map .int)) (.rl ((bX P0 none (some (2+four%7))).map .int))=m7;generalize bX P0 none (some (2+four%7))=P;rw[aj (env':=vE ns two (four/7) m4 N x2 k (some (m7,.rl (P.map .int))) none none none none) (by unfold vE;simp only[EV,cg d1])];rw[aj (env':=vE ns two (four/7) m4 N x2 k (some (m7,.rl (P.map .int))) (some (.sh,.int (four/7%(14+1)))) none none none) (by unfold vE;simp only[EV,bT m2])];rw[aj (env':=vE ns two (four/7/(14+1)) m4 N x2 k (some (m7,.rl (P.map .int))) (some (.sh,.int (four/7%(14+1)))) none none none) (by unfold vE;simp only[EV,cg d2])];rw[aj (env':=vE ns two (four/7/(14+1)) m4 N x2 k (some (m7,.rl (P.map .int))) (some (.sh,.int (four/7%(14+1)))) (some (.ow,.rl [])) none none) (by unfold vE;simp only[EV,z0])]
 obtain⟨m7,Vc,sz,r7,hz,hM⟩:=hM;rw[hM];generalize bX P0 none (some (2+four%7))=P at *;obtain⟨vF,k3,es,zL,zM,e3,l3,o3⟩:=Va ns two Vc m4 m7 r7 N P (by omega) x2 sz hz k;rw[aj e3];cases es with
 |nil=>rw[length_nil]at l3;omega
 |cons e0 es=>
  rw[aaF]at l3;have he:=o3 e0 (by simp)
  let ts:List T3:=(N.zip es).map λe=>(e.1,e.2.1,e.2.2)
  have lt:ts.length<=14:=by show ((N.zip es).map _).length<=14;rw[aaf,List.length_zip];omega
  have nm:ts.map (·.1)=(N.zip es).map (·.1):=by show ((N.zip es).map _).map _=_;rw[aaO];rfl
  refine⟨e0.1,e0.2,gh ts,?_,⟨he,by rw[(cL _).length_eq];exact lt,oE _ (by rw[nm];exact(CM N es).nodup dN),λt ht=>?_,λt ht=>?_⟩⟩
  ·have i0:kP (aU e0::es.map aU) 0=some (aU e0):=ja (j:=0) rfl
   have lz:(dS (N.map Val.int) (es.map aU)).length<=100000:=by rw[Jl,aaf,List.length_zip];omega
   have ec:jt (λd=>pb (pl (bO (.tup [0,1]) d [none,none])) λenv'=>pb (.ok Bool.true) λt=>if t=Bool.true then pb (bq (af tE) (.tup #[!0,.idx (!1) (¬0),.idx (!1) (¬1)]) env') λe=>.ok (some e) else .ok none) (dS (N.map Val.int) (es.map aU))=.ok (Bool.true,ts.map aM):=by
    rw[Jl,bP (λe:Int×(Int×Int)=>.tup [.int e.1,aU e.2]) (λe=>aM (e.1,e.2.1,e.2.2)) (N.zip es) (λe he=>by
     have k0:jl [] (aU e.2) (.int 0)=some (.int e.2.1):=rfl;have k1:jl [] (aU e.2) (.int 1)=some (.int e.2.2):=rfl;rw[Bb,bg,az];simp only[EV,k0,k1,z3];rfl)]
    show _=Pr.ok (Bool.true,((N.zip es).map _).map _);rw[aaO];rfl
   have ek:bq (af tE) (.comp ["_law_name","_law_pair"] [none,none] (.tup [0,1]) .zip #[!4,.slc (!9) (¬1) .no] .no (.tup #[!0,.idx (!1) (¬0),.idx (!1) (¬1)])) (oR (vE ns two vF m4 N x2 k3 (some (m7,.rl (P.map .int))) (some (.sh,.int sz)) (some (.ow,.rl ((e0::es).map aU))) zL zM))=.ok (Bool.true,.rl (ts.map aM)):=by
    have eb:cF (af tE) #[!4,.slc (!9) (¬1) .no] (oR (vE ns two vF m4 N x2 k3 (some (m7,.rl (P.map .int))) (some (.sh,.int sz)) (some (.ow,.rl ((e0::es).map aU))) zL zM))=.ok [.rl (N.map .int),.rl (es.map aU)]:=by unfold vE;simp only[EV,yV,lD,Vb]
    rw[bq,eb,az,Hh,bg,az];unfold pg;rw[aaj (decide_eq_true lz)];exact aaS (λz=>pb z λp=>Pr.ok (p.1,Val.rl p.2)) ec
   unfold vR;have es':cF (af tE) #[.comp ["_law_name","_law_pair"] [none,none] (.tup [0,1]) .zip #[!4,.slc (!9) (¬1) .no] .no (.tup #[!0,.idx (!1) (¬0),.idx (!1) (¬1)])] (oR (vE ns two vF m4 N x2 k3 (some (m7,.rl (P.map .int))) (some (.sh,.int sz)) (some (.ow,.rl ((e0::es).map aU))) zL zM))=.ok [.rl (ts.map aM)]:=by rw[cF,show isVar (.comp ["_law_name","_law_pair"] [none,none] (.tup [0,1]) .zip #[!4,.slc (!9) (¬1) .no] .no (.tup #[!0,.idx (!1) (¬0),.idx (!1) (¬1)]))=false from rfl,aam aac,ek,az,cF];rfl
   have e9:bq (af tE) (.idx (!9) (¬0)) (oR (vE ns two vF m4 N x2 k3 (some (m7,.rl (P.map .int))) (some (.sh,.int sz)) (some (.ow,.rl ((e0::es).map aU))) zL zM))=.ok (Bool.true,aU e0):=by unfold vE;simp only[EV,eY i0];rfl
   have e8:bq (af tE) (.blt .sorted #[.comp ["_law_name","_law_pair"] [none,none] (.tup [0,1]) .zip #[!4,.slc (!9) (¬1) .no] .no (.tup #[!0,.idx (!1) (¬0),.idx (!1) (¬1)])]) (oR (vE ns two vF m4 N x2 k3 (some (m7,.rl (P.map .int))) (some (.sh,.int sz)) (some (.ow,.rl ((e0::es).map aU))) zL zM))=.ok (Bool.true,.rl ((gh ts).map aM)):=by rw[bq,es',az,sV (show ts.length<64 by omega)]
   rw[ay,aZ];have eT:PJ (af tE) (.tup #[.idx (!9) (¬0),.blt .sorted #[.comp ["_law_name","_law_pair"] [none,none] (.tup [0,1]) .zip #[!4,.slc (!9) (¬1) .no] .no (.tup #[!0,.idx (!1) (¬0),.idx (!1) (¬1)])]]) (vE ns two vF m4 N x2 k3 (some (m7,.rl (P.map .int))) (some (.sh,.int sz)) (some (.ow,.rl ((e0::es).map aU))) zL zM)=.ok (Bool.true,aE e0.1 e0.2 (gh ts)):=by unfold PJ GG;dsimp only;rw[bq,lq,e9,az,lq,e8,az,lq,az,az];rfl
   rw[eT];rfl
  ·obtain⟨e,h1,h2⟩:=mem_map.mp ((cL ts).mem_iff.mp ht);rw[<-h2];exact o3 e.2 (aak _ (of_mem_zip h1).2)
  ·obtain⟨e,h1,h2⟩:=mem_map.mp ((cL ts).mem_iff.mp ht);rw[<-h2];exact pN e.1 (of_mem_zip h1).1
end K63
end
section
open PySem L2 Hv
namespace K63
theorem CN(f:Nat->Val):∀(es:List (Int×Int)) (s n:Nat),es.length<=n->dS ((range' s n).map f) (es.map aU)=(es.zipIdx s).map λe=>.tup [f e.2,aU e.1]
 |[],s,n,_=>by cases n<;>rfl
 |e::es,s,0,h=>absurd h (Nat.not_succ_le_zero _)
 | e::es,s,n+1,h=>by
  rw[List.range'_succ,aap,aap,dS,CN f es (s+1) n (Nat.le_of_succ_le_succ h),List.zipIdx_cons,aap]
theorem Jm{a b:Int}:gM .min [.rl [.int a,.int b]]=.ok (true,.int (min a b)):=rfl
theorem Jo{a b:Int}:gM .max [.rl [.int a,.int b]]=.ok (true,.int (max a b)):=rfl
theorem Q3:lG=.cons UO (nH (.cons VG (.cons VH (.cons (.asg (.one 8) (.lst .nil)) (.cons nF nR))))):=rfl
def nE(ns:List Int)(st x0 many:Int)(m5 m6 m7:Mk)(Pl Nm:List Val)(p q:Int)(a b c d e:Option (Mk×Val)):aX:=[some (.sh,.rl (ns.map .int)),some (.sh,.int st),some (.sh,.int 14),some (.sh,.int x0),some (.sh,.int many),some (m5,.rl Pl),some (m6,.rl Nm),some (m7,.rl [.int p,.int q]),a,b,c,d,e]
theorem Q4(ns:List Int){st:Int}(hs:0<=st/\st<4):∃p q ts,oM [.rl (ns.map .int),.int st,.int 14]=.ok (true,aE p q ts)/\cS p q ts:=by
 have c0:aV [.rl (ns.map .int),.int 0]=.ok (true,.int (cellAt ns 0)):=cE ns 0;have c1:aV [.rl (ns.map .int),.int 1]=.ok (true,.int (cellAt ns 1)):=cE ns 1;have c2:aV [.rl (ns.map .int),.int 2]=.ok (true,.int (cellAt ns 2)):=cE ns 2;have c3:aV [.rl (ns.map .int),.int 3]=.ok (true,.int (cellAt ns 3)):=cE ns 3;have c4:aV [.rl (ns.map .int),.int 4]=.ok (true,.int (cellAt ns 4)):=cE ns 4;obtain⟨f1,n1⟩:=nG (cellAt ns 1) (cellAt ns 2);obtain⟨f2,n2⟩:=nG (cellAt ns 3) (cellAt ns 4);have a1:=L5 (cellAt ns 1) (cellAt ns 2);generalize dz (cellAt ns 1) (cellAt ns 2)=Pl at *;generalize kN (cellAt ns 1) (cellAt ns 2)=pf at *;generalize cellAt ns 0=x0 at *;generalize cellAt ns 1=x1 at *;generalize cellAt ns 2=x2 at *;generalize cellAt ns 3=x3 at *;generalize cellAt ns 4=x4 at *;have h4:∃m:Int,kP [Val.int 7,.int (14/2),.int 4,.int (if (14:Int)<7 then 14 else 7)] st=some (.int m)/\1<=m/\m<=7:=by
  have:st=0\/st=1\/st=2\/st=3:=by omega
  rcases this with rfl|rfl|rfl|rfl
  ·exact⟨7,rfl,by omega,by omega⟩
  ·exact⟨7,rfl,by omega,by omega⟩
  ·exact⟨4,rfl,by omega,by omega⟩
  ·exact⟨7,rfl,by omega,by omega⟩
 obtain⟨m,e4,hm1,hm2⟩:=h4;have z4:4<=sizeLine:=by decide
 have z3:3<=sizeLine:=by decide
 have z2:2<=sizeLine:=by decide
 have z0:0<=sizeLine:=by decide
 have hmm:decide (0<m)=true:=by rw[aaL];omega
 have b1:=emod_nonneg (x0/4) (show m≠0 by omega);have b2:=emod_lt_of_pos (x0/4) (show 0<m by omega);have j0:=a1 0 (by omega) (by omega);have j1:=a1 1 (by omega) (by omega);unfold oM;rw[Q3];show ∃p q ts,pb (ay (af zx) [8] _ [some (.sh,.rl (ns.map .int)),some (.sh,.int st),some (.sh,.int 14),none,none,none,none,none,none,none,none,none,none]) _=_/\_
 by_cases hc:st≠1/\x1%2=1
 ·obtain⟨p,q,ts,e,ok⟩:=L8 ns;refine⟨p,q,ts,?_,ok⟩;unfold UO;simp only[EV,cR,nu,c1,bT (show decide ((0:Int)<2)=true by decide),hc.1,hc.2,e];rw[aaj not_false]
 rw[aj (s:=UO) (env':=[some (.sh,.rl (ns.map .int)),some (.sh,.int st),some (.sh,.int 14),none,none,none,none,none,none,none,none,none,none]) (by
  unfold UO
  by_cases h1:st=1
  ·simp only[EV,h1,ne_eq,not_true,decide_false]
  ·have h2:¬ x1%2=1:=λz=>hc ⟨h1,z⟩;simp only[EV,cR,c1,bT (show decide ((0:Int)<2)=true by decide),h1,h2,ne_eq,not_false_eq_true,decide_true,decide_false])]
 have hH:∀T,ay (af zx) [8] (nH T) [some (.sh,.rl (ns.map .int)),some (.sh,.int st),some (.sh,.int 14),none,none,none,none,none,none,none,none,none,none]=ay (af zx) [8] T (nE ns st x0 (2+x0/4%m) (bI f1 (.rl Pl)) (bI f2 (.rl (dz x3 x4))) .nw Pl (dz x3 x4) (pf 0) (pf 1) none none none none none):=λT=>by
  unfold nH;rw[aj (env':=[some (.sh,.rl (ns.map .int)),some (.sh,.int st),some (.sh,.int 14),some (.sh,.int x0),none,none,none,none,none,none,none,none,none]) (by simp only[EV,cR,c0])];rw[aj (env':=[some (.sh,.rl (ns.map .int)),some (.sh,.int st),some (.sh,.int 14),some (.sh,.int x0),some (.sh,.int (2+x0/4%m)),none,none,none,none,none,none,none,none]) (by simp only[EV,cg (show dP 4=true by decide),cg (show dP 2=true by decide),z4,eY e4,bT hmm])];rw[aj (env':=[some (.sh,.rl (ns.map .int)),some (.sh,.int st),some (.sh,.int 14),some (.sh,.int x0),some (.sh,.int (2+x0/4%m)),some (bI f1 (.rl Pl),.rl Pl),none,none,none,none,none,none,none]) (by simp only[EV,cR,iV,c1,c2,n1])];rw[aj (env':=[some (.sh,.rl (ns.map .int)),some (.sh,.int st),some (.sh,.int 14),some (.sh,.int x0),some (.sh,.int (2+x0/4%m)),some (bI f1 (.rl Pl),.rl Pl),some (bI f2 (.rl (dz x3 x4)),.rl (dz x3 x4)),none,none,none,none,none,none]) (by simp only[EV,cR,iV,c3,c4,n2])];rw[aj (env':=nE ns st x0 (2+x0/4%m) (bI f1 (.rl Pl)) (bI f2 (.rl (dz x3 x4))) .nw Pl (dz x3 x4) (pf 0) (pf 1) none none none none none) (by unfold nE;simp only[EV,eY j0,eY j1,z2])]
 rw[hH];have Vd:2<=2+x0/4%m/\2+x0/4%m<=8:=by omega
 have r5:iD (bI f1 (.rl Pl))=true:=iE;have r6:iD (bI f2 (.rl (dz x3 x4)))=true:=iE;generalize bI f1 (.rl Pl)=m5 at *;generalize bI f2 (.rl (dz x3 x4))=m6 at *;generalize 2+x0/4%m=many at *;have s1:∃q,aZ (af zx) [8] VG (nE ns st x0 many m5 m6 .nw Pl (dz x3 x4) (pf 0) (pf 1) none none none none none)=.ok (.nx (nE ns st x0 many m5 m6 .nw Pl (dz x3 x4) (pf 0) q none none none none none)):=by
  have ec:yL (af zx) (.cmp .eq (!1) (¬2)) (nE ns st x0 many m5 m6 .nw Pl (dz x3 x4) (pf 0) (pf 1) none none none none none)=.ok (true,.bl (decide (st=2))):=by unfold nE;simp only[EV,az]
  have j2:=a1 (many-1) (by omega) (by omega);unfold VG
  by_cases c:st=2
  ·refine⟨pf (many-1),?_⟩;rw[aZ,ec,az,decide_eq_true c];show pb (pl (some true)) _=_;rw[bg,az,aaj rfl,aj (env':=nE ns st x0 many m5 m6 .nw Pl (dz x3 x4) (pf 0) (pf (many-1)) none none none none none) (by unfold nE;simp only[EV,r5,eY j0,eY j2,z2]),ay]
  ·refine⟨pf 1,?_⟩;rw[aZ,ec,az,decide_eq_false c];show pb (pl (some false)) _=_;rw[bg,az,aam aac,ay]
 obtain⟨q1,s1⟩:=s1;rw[aj s1];have s2:∃q,aZ (af zx) [8] VH (nE ns st x0 many m5 m6 .nw Pl (dz x3 x4) (pf 0) q1 none none none none none)=.ok (.nx (nE ns st x0 many m5 m6 .nw Pl (dz x3 x4) (pf 0) q none none none none none)):=by
  have ec:yL (af zx) (.cmp .eq (.bin .mod (.bin .fdiv (!3) (¬112)) (¬9)) (¬4)) (nE ns st x0 many m5 m6 .nw Pl (dz x3 x4) (pf 0) q1 none none none none none)=.ok (true,.bl (decide (x0/112%9=4))):=by unfold nE;simp only[EV,cg (show dP 112=true by decide),bT (show decide ((0:Int)<9)=true by decide)]
  unfold VH
  by_cases c:x0/112%9=4
  ·refine⟨pf 0,?_⟩;rw[aZ,ec,az,decide_eq_true c];show pb (pl (some true)) _=_;rw[bg,az,aaj rfl,aj (env':=nE ns st x0 many m5 m6 .nw Pl (dz x3 x4) (pf 0) (pf 0) none none none none none) (by unfold nE;simp only[EV,r5,eY j0,z2]),ay]
  ·refine⟨q1,?_⟩;rw[aZ,ec,az,decide_eq_false c];show pb (pl (some false)) _=_;rw[bg,az,aam aac,ay]
 obtain⟨q2,s2⟩:=s2;rw[aj s2];generalize pf 0=p0 at *;rw[aj (env':=nE ns st x0 many m5 m6 .nw Pl (dz x3 x4) p0 q2 (some (.ow,.rl [])) none none none none) (by unfold nE;simp only[EV,z0])];obtain⟨f3,es,n3,hl,ok⟩:=Jk (ns:=ns) hs Vd;have ez:DS [.rl (dz x3 x4),.rl (es.map aU)]=some (es.zipIdx.map λe=>.tup [.int (kN x3 x4 (0+(e.2:Int))),aU e.1]):=by rw[Hg];unfold dz;rw[List.range_eq_range',CN _ es 0 15 (by omega)]
 have ev:lq (af zx) #[!6,.call 4 #[!0,!1,!4,!2]] (nE ns st x0 many m5 m6 .nw Pl (dz x3 x4) p0 q2 (some (.ow,.rl [])) none none none none)=.ok (ko (.rl (dz x3 x4))&&(f3&&true),[.rl (dz x3 x4),.rl (es.map aU)]):=by unfold nE;simp only[EV,r6,pJ,n3]
 obtain⟨env',e1,ts,a,b,c,d,rfl,h1,h2⟩:=dJ (λe:(Int×Int)×Nat=>.tup [.int (kN x3 x4 (0+(e.2:Int))),aU e.1]) (body:=λx env=>pb (pl (bO (.tup [9,10]) x env)) λenv'=>ay (af zx) [8] nB env')
  (λpre env=>∃ts a b c d,env=nE ns st x0 many m5 m6 .nw Pl (dz x3 x4) p0 q2 (some (.ow,.rl (ts.map aM))) a b c d/\ts.map (·.1)=pre.map (λe=>kN x3 x4 (0+(e.2:Int)))/\∀t∈ts,t.2.1<=t.2.2) es.zipIdx (nE ns st x0 many m5 m6 .nw Pl (dz x3 x4) p0 q2 (some (.ow,.rl [])) none none none none) ⟨[],none,none,none,none,rfl,rfl,λt ht=>by simp at ht⟩ (λpre u post env hx hq=>by
   obtain⟨ts,a,b,c,d,rfl,h1,h2⟩:=hq;have hlen:ts.length<14:=by have e1:=aaS length h1;have e2:=aaS length hx;rw[List.length_zipIdx,aaw,aaF]at e2;rw[aaf,aaf]at e1;omega
   obtain⟨e,i⟩:=u;have hu:(e,i)∈es.zipIdx:=by rw[hx];simp
   have he:e∈es:=by have:=List.mem_zipIdx hu;obtain⟨_,h3,h4⟩:=this;rw[h4];exact List.getElem_mem _
   obtain⟨⟨o1,o2⟩,o3,o4⟩:=ok e he;have i1:=a1 e.1 o1 (by omega);have i2:=a1 e.2 o3 (by omega);generalize pf e.1=y1 at *;generalize pf e.2=y2 at *;have k0:jl [] (aU e) (.int 0)=some (.int e.1):=rfl;have k1:jl [] (aU e) (.int 1)=some (.int e.2):=rfl;have zl:(ts.map aM).length<sizeLine:=by rw[aaf];unfold sizeLine;omega
   refine⟨nE ns st x0 many m5 m6 .nw Pl (dz x3 x4) p0 q2 (some (.ow,.rl ((ts++[(kN x3 x4 (0+(i:Int)),if y2<y1 then y2 else y1,if y2>y1 then y2 else y1)]).map aM))) (some (.sh,.int (kN x3 x4 (0+(i:Int))))) (some (.sh,aU e)) (some (.sh,.int y1)) (some (.sh,.int y2)),?_,_,_,_,_,_,rfl,?_,?_⟩
   ·rw[Bb,bg,az];unfold nB nE;rw[aaN];simp only[EV,r5,k0,k1,eY i1,eY i2,z3,zl];rfl
   ·rw[aaN,aaN,h1];rfl
   ·intro t ht
    rcases aaP.mp ht with ht|ht
    ·exact h2 t ht
    ·rw[aat.mp ht]
     dsimp only
     split<;>split<;>omega)
 have sF:aZ (af zx) [8] nF (nE ns st x0 many m5 m6 .nw Pl (dz x3 x4) p0 q2 (some (.ow,.rl [])) none none none none)=.ok (.nx (nE ns st x0 many m5 m6 .nw Pl (dz x3 x4) p0 q2 (some (.ow,.rl (ts.map aM))) a b c d)):=by unfold nF;rw[aZ,Hf];unfold pg;rw[aaj (by rfl),ev,az,ez,bg,az];exact e1
 rw[aj sF];have hlt:ts.length<=14:=by have:=aaS length h1;rw[aaf,aaf,List.length_zipIdx]at this;omega
 have nd:(ts.map (·.1)).Nodup:=by rw[h1,show (es.zipIdx.map λe=>kN x3 x4 (0+(e.2:Int)))=(es.zipIdx.map (·.2)).map λi:Nat=>kN x3 x4 (0+(i:Int)) by rw[aaO];rfl,List.zipIdx_map_snd];unfold List.Nodup;rw[pairwise_map];refine(List.nodup_range' (s:=0) (n:=es.length)).imp_of_mem λ{x y} hx hy n e=>n ?_;rw[List.mem_range'_1]at hx hy;have:=Jf x3 x4 (0+(x:Int)) (0+(y:Int)) (by omega) (by omega) e;omega
 refine⟨min p0 q2,max p0 q2,gh ts,?_,⟨by omega,by rw[(cL _).length_eq];exact hlt,oE _ nd,λt ht=>h2 t ((cL _).mem_iff.mp ht),λt ht=>?_⟩⟩
 ·unfold nR nE;simp only[EV,Jm,Jo,z2,sV (show ts.length<64 by omega)];rfl
 ·have:=mem_map_of_mem (f:=(·.1)) ((cL _).mem_iff.mp ht);rw[h1]at this;obtain⟨e,_,he⟩:=mem_map.mp this;rw[<-he];exact Jg _ _ _
end K63
end
section
open PySem L2 Hv
namespace K63
theorem Ma(hx:PyData.strOk x=true)(hy:PyData.strOk y=true):cop [] .eq (.str x) (.str y)=some (decide (x=y)):=by
 show AI [] (.str x) (.str y)=_;unfold AI;rw[Ct hx,Ct hy];show some (PyData.eqv (.str x) (.str y))=_
 congr 1
def dM(s:Bool):Str:=if s then "linker" else "cutter"
def cJ(s:Bool):Val:=.str (dM s)
theorem Q5:∀a b:Bool,cop [] .eq (cJ a) (cJ b)=some (a==b)
 |true,true=>(Ma (fD _) (fD _)).trans (aaS some (by decide))
 |true,false=>(Ma (fD _) (fD _)).trans (aaS some (by decide))
 |false,true=>(Ma (fD _) (fD _)).trans (aaS some (by decide))
 |false,false=>(Ma (fD _) (fD _)).trans (aaS some (by decide))
theorem vG(a:Bool):cop [] .eq (cJ a) (.str "linker")=some a:=(Q5 a true).trans (by cases a<;>rfl)
theorem nJ{ms:List Nat}{f t:Bool}(h:yL Ψ c env=.ok (f,.bl t)):aZ Ψ ms (.iff c a b) env=if t=true then ay Ψ ms a env else ay Ψ ms b env:=by
 rw[aZ,h,az];show pb (pl (some t)) _=_;rw[bg,az]
theorem Q6(h:a.length+b.length<=sizeLine):ni .add (.rl a) (.rl b)=.ok (bM (a++b),.rl (a++b)):=by
 show pg _ _=_;unfold pg;rw[aaj (decide_eq_true h)]
theorem vI{ks:List Int}(h:ks.Nodup)(a:Int):(iw ks a).Nodup:=by
 unfold iw
 split
 ·exact h
 ·rename_i hn;rw[nodup_append];exact⟨h,by simp,λx hx y hy e=>hn (by rw[aat.mp hy]at e;exact e▸hx)⟩
theorem kg{ks:List Int}{a x:Int}:x∈iw ks a↔x∈ks\/x=a:=by
 unfold iw
 split
 ·rename_i h;exact⟨.inl,λk=>k.elim id λe=>e▸h⟩
 ·rw[aaP,aat]
theorem zR(ks:List Int)(x:Int):putD (ks.map Sum.inl) (ks.map λx=>.int x) (.inl x) (.int x)=xw (iw ks x) λx=>.int x:=by
 by_cases c:x∈ks
 ·rw[iw,aaj c]
  refine(wU c).trans (dH λy _=>?_);unfold sS
  split
  ·rename_i e;rw[e]
  ·rfl
 ·rw[iw,aam c]
  refine(Cu c).trans (dH λy _=>?_);unfold sS
  split
  ·rename_i e;rw[e]
  ·rfl
theorem XC{ks:List Int}(h:ks.length<=40):(ks.map (Sum.inl:Int->Key)).length<sizeLine:=by rw[aaf];unfold sizeLine;omega
theorem Jp:iK=.cons (.asg (.one 2) .dct0) #[.asg (.one 3) (.bin .add (.lst #[.tup #[.neg (¬1),.idx (.idx (!0) (¬0)) (¬0),.idx (.idx (!0) (¬0)) (¬1)]]) (.idx (!0) (¬1))),.for (.one 4) .seq #[!3] mB,.for (.one 4) .seq #[!3] mC,.ret (!2)]:=rfl
def mE(N:Val)(row:List Int)(m:Mk)(us:List T3)(d:Val)(a b c e:Option (Mk×Val)):aX:=[some (.sh,N),some (.sh,.rl (row.map .int)),some (.ow,d),some (m,.rl (us.map aM)),a,b,c,e]
abbrev nN(ks:List Int)(φ:Int->Int):Val:=xw ks λx=>.int (φ x)
theorem zS:jl [] (aM t) (.int 0)=some (.int t.1):=rfl
theorem Jq:jl [] (aM t) (.int 1)=some (.int t.2.1):=rfl
theorem Jr:jl [] (aM t) (.int 2)=some (.int t.2.2):=rfl
section
variable {N:Val} {row:List Int} {m:Mk} {us:List T3}
theorem Ve(hm:iD m=true)(hl:us.length<=15)(b c e:Option (Mk×Val)):∃ks a,aZ (af lW) [2,2,2] (.for (.one 4) .seq #[!3] mB) (mE N row m us (.dc [] []) none b c e)=.ok (.nx (mE N row m us (nN ks id) a b c e))/\ks.Nodup/\ks.length<=30/\∀t∈us,t.2.1∈ks/\t.2.2∈ks:=by
 have eb:cF (af lW) #[!3] (mE N row m us (.dc [] []) none b c e)=.ok [.rl (us.map aM)]:=by unfold mE;simp only[EV,az]
 obtain⟨env',e1,ks,a,rfl,h1,h2,h3⟩:=dJ aM (body:=λx env=>pb (pl (bO (.one 4) x env)) λenv'=>ay (af lW) [2,2,2] mB env')
  (λpre env=>∃ks a,env=mE N row m us (nN ks id) a b c e/\ks.Nodup/\ks.length<=2*pre.length/\∀t∈pre,t.2.1∈ks/\t.2.2∈ks) us (mE N row m us (.dc [] []) none b c e) ⟨[],none,rfl,nodup_nil,by simp,λt ht=>by simp at ht⟩ (λpre t post env hx hq=>by
   obtain⟨ks,a,rfl,h1,h2,h3⟩:=hq;have hp:=aaS length hx;rw[aaw,aaF]at hp;have l1:=kW ks t.2.1;have l2:=kW (iw ks t.2.1) t.2.2;refine⟨mE N row m us (nN (iw (iw ks t.2.1) t.2.2) id) (some (.sh,aM t)) b c e,?_,_,_,rfl,vI (vI h1 _) _,by simp only[length_append,length_singleton];omega,λu hu=>?_⟩
   ·have k1:=zR ks t.2.1;have k2:=zR (iw ks t.2.1) t.2.2;unfold mB mE nN id;simp only[EV,aN,Jq,Jr,oB,XC (show ks.length<=40 by omega),XC (show (iw ks t.2.1).length<=40 by omega),k1,k2]
   ·rcases aaP.mp hu with hu|hu
    ·exact⟨kg.mpr (.inl (kg.mpr (.inl (h3 u hu).1))),kg.mpr (.inl (kg.mpr (.inl (h3 u hu).2)))⟩
    ·rw[aat.mp hu];exact⟨kg.mpr (.inl (kg.mpr (.inr rfl))),kg.mpr (.inr rfl)⟩)
 exact⟨ks,a,(tN rfl eb).trans e1,h1,by omega,h3⟩
theorem Vf{ks:List Int}{old new:Int}(hn:ks.Nodup)(hl:ks.length<=30)(a e:Option (Mk×Val)):∃e',aZ (af lW) [2,2,2] mF (mE N row m us (nN ks φ) a (some (.sh,.int old)) (some (.sh,.int new)) e)=.ok (.nx (mE N row m us (nN ks λx=>if φ x=old then new else φ x) a (some (.sh,.int old)) (some (.sh,.int new)) e')):=by
 have eb:cF (af lW) #[.lkeys (!2)] (mE N row m us (nN ks φ) a (some (.sh,.int old)) (some (.sh,.int new)) e)=.ok [.rl (ks.map .int)]:=by
  have ky:yg [] (nN ks φ)=some (ks.map Sum.inl):=rfl;have kv:(ks.map (Sum.inl:Int->Key)).map FJ=ks.map Val.int:=by rw[aaO];rfl
  unfold mE;simp only[EV,ky,kv]
 obtain⟨env',e1,e',rfl⟩:=dJ Val.int (body:=λx env=>pb (pl (bO (.one 7) x env)) λenv'=>ay (af lW) [2,2,2] mI env')
  (λpre env=>∃e',env=mE N row m us (nN ks λx=>if x∈pre /\ φ x=old then new else φ x) a (some (.sh,.int old)) (some (.sh,.int new)) e') ks (mE N row m us (nN ks φ) a (some (.sh,.int old)) (some (.sh,.int new)) e) ⟨e,by simp⟩ (λpre x post env hx hq=>by
   obtain⟨e',rfl⟩:=hq;have U1:x∉pre:=by rw[hx,nodup_append]at hn;exact λh=>hn.2.2 x h x (by simp) rfl
   have hxs:x∈ks:=by rw[hx];simp
   refine⟨_,?_,some (.sh,.int x),rfl⟩;unfold mI mE nN;simp only[EV,aN,gJ hxs,oB,XC (show ks.length<=40 by omega),wU hxs,U1,false_and,if_false]
   by_cases hg:φ x=old
   ·simp only[hg,↓reduceIte]
    rw[dH];intro y _;unfold sS
    by_cases e:y=x
    ·subst e;simp[hg]
    ·simp[e]
   ·simp only[hg,↓reduceIte]
    rw[dH];intro y _
    by_cases e:y=x
    ·subst e;simp[hg]
    ·simp[e])
 refine⟨e',?_⟩;unfold mF;rw[tN rfl eb,e1];unfold mE nN;rw[dH (g':=λx=>.int (if φ x=old then new else φ x))];intro y hy;simp[hy]
theorem Vg(hm:iD m=true){ks:List Int}(hn:ks.Nodup)(hl:ks.length<=30)(hk:∀t∈us,t.2.1∈ks/\t.2.2∈ks)(a b c e:Option (Mk×Val)):∃φ a' b' c' e',aZ (af lW) [2,2,2] (.for (.one 4) .seq #[!3] mC) (mE N row m us (nN ks id) a b c e)=.ok (.nx (mE N row m us (nN ks φ) a' b' c' e'))/\yY ks ((us.filter λt=>decide (t.1∈row)).map iW) φ:=by
 have eb:cF (af lW) #[!3] (mE N row m us (nN ks id) a b c e)=.ok [.rl (us.map aM)]:=by unfold mE;simp only[EV,az]
 obtain⟨env',e1,φ,a',b',c',e',rfl,zZ⟩:=dJ aM (body:=λx env=>pb (pl (bO (.one 4) x env)) λenv'=>ay (af lW) [2,2,2] mC env')
  (λpre env=>∃φ a b c e,env=mE N row m us (nN ks φ) a b c e/\yY ks ((pre.filter λt=>decide (t.1∈row)).map iW) φ) us (mE N row m us (nN ks id) a b c e) ⟨id,_,_,_,_,rfl,yY.start ks⟩ (λpre t post env hx hq=>by
   obtain⟨φ,a,b,c,e,rfl,zZ⟩:=hq;have ht:t∈us:=by rw[hx];simp
   obtain⟨h1,h2⟩:=hk t ht;have q1:ay (af lW) [2,2,2] mC (mE N row m us (nN ks φ) (some (.sh,aM t)) b c e)=ay (af lW) [2,2,2] #[.iff (.and (.cmp .AG (.idx (!4) (¬0)) (!1)) (.cmp .ne (!5) (!6))) #[mF] .nil] (mE N row m us (nN ks φ) (some (.sh,aM t)) (some (.sh,.int (φ t.2.2))) (some (.sh,.int (φ t.2.1))) e):=by unfold mC;rw[aj (env':=mE N row m us (nN ks φ) (some (.sh,aM t)) (some (.sh,.int (φ t.2.2))) c e) (by unfold mE nN;simp only[EV,Jr,gJ h2])];rw[aj (env':=mE N row m us (nN ks φ) (some (.sh,aM t)) (some (.sh,.int (φ t.2.2))) (some (.sh,.int (φ t.2.1))) e) (by unfold mE nN;simp only[EV,Jq,gJ h1])]
   have ec:yL (af lW) (.and (.cmp .AG (.idx (!4) (¬0)) (!1)) (.cmp .ne (!5) (!6))) (mE N row m us (nN ks φ) (some (.sh,aM t)) (some (.sh,.int (φ t.2.2))) (some (.sh,.int (φ t.2.1))) e)=.ok (true,.bl (decide (t.1∈row /\ φ t.2.2 ≠ φ t.2.1))):=by
    unfold mE
    by_cases hr:t.1∈row<;>by_cases hp:φ t.2.2 = φ t.2.1<;>simp only[EV,zS,yW,hr,hp,decide_true,decide_false]<;>simp[hp]
   rw[aN,bg,az];show ∃env',ay (af lW) [2,2,2] mC (mE N row m us (nN ks φ) (some (.sh,aM t)) b c e)=_/\_;rw[q1]
   by_cases hr:t.1∈row
   ·have st:=zZ.step h1 h2 (φ t.2.1) (φ t.2.2) (.inl ⟨rfl,rfl⟩)
    have ef:((pre++[t]).filter λt=>decide (t.1∈row)).map iW=(pre.filter λt=>decide (t.1∈row)).map iW++[(t.2.1,t.2.2)]:=by rw[filter_append,List.filter_cons_of_pos (by simpa using hr),aaN];rfl
    by_cases hp:φ t.2.2 = φ t.2.1
    ·refine⟨mE N row m us (nN ks φ) (some (.sh,aM t)) (some (.sh,.int (φ t.2.2))) (some (.sh,.int (φ t.2.1))) e,?_,φ,_,_,_,_,rfl,?_⟩
     ·rw[aj ((nJ ec).trans (by rw[aam (by simp[hp]),ay])),ay]
     ·rw[ef,show φ = λx=>if φ x = φ t.2.2 then φ t.2.1 else φ x from funext λx=>by split;(rename_i z;rw[z,hp]);rfl];exact st
    ·obtain⟨e',k⟩:=Vf (N:=N) (row:=row) (m:=m) (us:=us) (φ:=φ) (old:=φ t.2.2) (new:=φ t.2.1) hn hl (some (.sh,aM t)) e;refine⟨mE N row m us (nN ks λx=>if φ x = φ t.2.2 then φ t.2.1 else φ x) (some (.sh,aM t)) (some (.sh,.int (φ t.2.2))) (some (.sh,.int (φ t.2.1))) e',?_,_,_,_,_,e',rfl,by rw[ef];exact st⟩;rw[aj ((nJ ec).trans (by rw[aaj (by simp[hr,hp]),aj k,ay])),ay]
   ·refine⟨mE N row m us (nN ks φ) (some (.sh,aM t)) (some (.sh,.int (φ t.2.2))) (some (.sh,.int (φ t.2.1))) e,?_,φ,_,_,_,_,rfl,?_⟩
    ·rw[aj ((nJ ec).trans (by rw[aam (by simp[hr]),ay])),ay]
    ·rw[filter_append,filter_cons_of_neg (by simpa using hr),aaN];simpa using zZ)
 exact⟨φ,a',b',c',e',(tN rfl eb).trans e1,zZ⟩
end
theorem Js{p q:Int}{row:List Int}(h:ts.length<=14)(hr:(-1:Int)∉row):∃f ks φ,jF [aE p q ts,.rl (row.map .int)]=.ok (f,nN ks φ)/\p∈ks/\q∈ks/\yY ks ((ts.filter λt=>decide (t.1∈row)).map iW) φ:=by
 unfold jF;rw[Jp];show ∃f ks φ,pb (ay (af lW) [2,2,2] _ [some (.sh,aE p q ts),some (.sh,.rl (row.map .int)),none,none,none,none,none,none]) _=_/\_;have z3:3<=sizeLine:=by decide
 have z1:1<=sizeLine:=by decide
 have za:[aM (-1,p,q)].length+(ts.map aM).length<=sizeLine:=by simp only[length_map,length_cons,length_nil];unfold sizeLine;omega
 obtain⟨m0,hm0,r0⟩:∃m0,m0=bI (bM ([aM (-1,p,q)]++ts.map aM)) (.rl ([aM (-1,p,q)]++ts.map aM))/\iD m0=true:=⟨_,rfl,iE⟩;rw[aj (env':=[some (.sh,aE p q ts),some (.sh,.rl (row.map .int)),some (.ow,.dc [] []),none,none,none,none,none]) (by simp only[EV,az])];rw[aj (env':=mE (aE p q ts) row m0 ((-1,p,q)::ts) (.dc [] []) none none none none) (by
  have e0:([Val.tup [.int (-1),.int p,.int q]]:List Val)=[aM (-1,p,q)]:=rfl;rw[hm0];unfold mE aE;simp only[EV,bU kH,bU jz,z3,z1,e0,Q6 za])]
 obtain⟨ks,a,e1,hn,hl,hk⟩:=Ve (N:=aE p q ts) (row:=row) (m:=m0) (us:=(-1,p,q)::ts) r0 (by rw[aaF];omega) none none none;rw[aj e1];obtain⟨φ,a,b,c,e,e2,zZ⟩:=Vg (N:=aE p q ts) (row:=row) (m:=m0) (us:=(-1,p,q)::ts) r0 hn hl hk a none none none;rw[aj e2];have h0:=hk (-1,p,q) aal;rw[filter_cons_of_neg (by simpa using hr)]at zZ;unfold mE;simp only[EV,az];exact⟨_,ks,φ,rfl,h0.1,h0.2,zZ⟩
end K63
end
section
open PySem L2 Hv
namespace K63
def dR(a b:Int)(ts:List T3):Val:=open Classical in if a=b then .str "linker" else if Apart a b ts then .str "cutter" else .non
theorem Ej{a b:Int}:gy [aE a b ts]=.ok (true,.bl (decide (a=b))):=by
 unfold gy fG aE;simp only[EV,bU kH,bU jz]
theorem Ek{a b:Int}(h:ts.length<=14):∃f,gC [aE a b ts]=.ok (f,dR a b ts):=by
 have e1:=Ej (a:=a) (b:=b) (ts:=ts);have e2:=Eh (p:=a) (q:=b) h;unfold gC fL dR;generalize aE a b ts=N at *
 by_cases c1:a=b
 ·rw[aaj c1];exact⟨true,by simp only[EV,cM,e1,c1,decide_true]⟩
 ·rw[aam c1]
  by_cases c2:Apart a b ts
  ·rw[aaj c2];exact⟨true,by simp only[EV,cM,fS,e1,e2,c1,c2,decide_true,decide_false]⟩
  ·rw[aam c2];exact⟨true,by simp only[EV,cM,fS,e1,e2,c1,c2,decide_true,decide_false]⟩
def pU(ts:List T3):List Int:=ts.map (·.1)
theorem zT{a b:Int}(h:ts.length<=14):gY [aE a b ts]=.ok (true,.rl ((pU ts).map .int)):=by
 unfold gY iL aE;have hc:ts.length<=100000:=by omega
 simp only[EV,bU jz,fB,fW,length_map,hc];rw[bP aM (λt=>.int t.1) ts (λt ht=>by
  simp only[EV,aN,zS])]
 unfold pU;rw[aaO];rfl
theorem cS.neg{p q:Int}(ok:cS p q ts):(-1:Int)∉pU ts:=λh=>by
 obtain⟨t,ht,e⟩:=mem_map.mp h;have:=ok.pos t ht;omega
theorem CO{p q:Int}(ok:cS p q ts):∃f,oO [aE p q ts]=.ok (f,dR p q ts):=by
 obtain⟨f,ks,φ,e1,hp,hq,zZ⟩:=Js (p:=p) (q:=q) (row:=pU ts) ok.len ok.neg;have e2:=zT (a:=p) (b:=q) ok.len;rw[show (ts.filter λt=>decide (t.1∈pU ts))=ts from List.filter_eq_self.mpr λt ht=>decide_eq_true (mem_map_of_mem (f:=(·.1)) ht)]at zZ;have hl:=zZ.iff hp hq;unfold oO lK dR;unfold aE at *
 by_cases c1:p=q
 ·rw[aaj c1];exact⟨true,by simp only[EV,bU kH,bU jz,c1,decide_true]⟩
 ·rw[aam c1]
  unfold nN at e1
  by_cases c2:φ p = φ q
  ·rw[aam (show ¬ Apart p q ts from λz=>z (hl.mp c2))];exact⟨true,by simp only[EV,bU kH,bU jz,c1,decide_false,jM,jL,e2,e1,gJ hp,gJ hq,c2,not_true]⟩
  ·rw[aaj (show Apart p q ts from λz=>c2 (hl.mpr z))];exact⟨true,by simp only[EV,bU kH,bU jz,c1,decide_false,jM,jL,e2,e1,gJ hp,gJ hq,c2,not_false_iff,decide_true]⟩
theorem Q7{x y:Int}:(if y<x then y else x)=min x y:=by split<;>omega
theorem Q8{x y:Int}:(if y>x then y else x)=max x y:=by split<;>omega
def qL(s:Bool)(t:T3)(x:Int):Int:=if s then gP t.2.1 t.2.2 x else x
def mL(s:Bool)(ts:List T3)(t:T3):List T3:=if s then ((others ts t).map (CG (gP t.2.1 t.2.2))).map turnT else others ts t
abbrev zU(s:Bool)(p q:Int)(ts:List T3)(t:T3):Val:=aE (min (qL s t p) (qL s t q)) (max (qL s t p) (qL s t q)) (mL s ts t)
theorem By(h:uh ts)(t:T3):uh (others ts t):=by
 unfold uh at *;exact h.sublist List.filter_sublist
theorem Q9(h:uh ts)(g:T3->T3)(hg:∀t,(g t).1=t.1):uh (ts.map g):=by
 unfold uh at *;rw[pairwise_map];exact h.imp λ{a b} z=>by rw[hg,hg];exact z
theorem Jt(h:uh ts)(s:Bool)(t:T3):uh (mL s ts t):=by
 unfold mL
 split
 ·rw[aaO];exact Q9 (By h t) _ λ_=>rfl
 ·exact By h t
theorem cS.qL{p q:Int}(ok:cS p q ts)(s:Bool)(t:T3):cS (min (qL s t p) (qL s t q)) (max (qL s t p) (qL s t q)) (mL s ts t):=by
 refine⟨by omega,?_,Jt ok.up s t,λu hu=>?_,λu hu=>?_⟩
 ·unfold mL
  split
  ·rw[aaf,aaf];exact nC ok.len
  ·exact nC ok.len
 ·unfold mL at hu
  split at hu
  ·obtain⟨v,_,rfl⟩:=mem_map.mp hu;unfold turnT;dsimp only;split<;>split<;>omega
  ·exact ok.ends u (kc.mp hu).1
 ·unfold mL at hu
  split at hu
  ·obtain⟨v,hv,rfl⟩:=mem_map.mp hu;obtain⟨w,hw,rfl⟩:=mem_map.mp hv;exact ok.pos w (kc.mp hw).1
  ·exact ok.pos u (kc.mp hu).1
theorem Mb{p q:Int}(ok:cS p q ts)(s:Bool)(ht:t∈ts):jE [aE p q ts,cJ s,.int t.1]=.ok (true,zU s p q ts t):=by
 have sl:=vG s;have nd:=Jc ok.up;unfold jE iJ;cases s with
 |true=>have e:=Jb (p:=p) (q:=q) ok.len nd ht;rw[show (turnT (0,gP t.2.1 t.2.2 p,gP t.2.1 t.2.2 q)).2.1=min (gP t.2.1 t.2.2 p) (gP t.2.1 t.2.2 q) from Q7,show (turnT (0,gP t.2.1 t.2.2 p,gP t.2.1 t.2.2 q)).2.2=max (gP t.2.1 t.2.2 p) (gP t.2.1 t.2.2 q) from Q8,show gh (((others ts t).map (CG (gP t.2.1 t.2.2))).map turnT)=mL true ts t from nD (Jt ok.up true t)]at e;generalize aE p q ts=N at *;simp only[EV,sl,pO,e];rfl
 |false=>
  have e:=Ja (p:=p) (q:=q) ok.len nd ht;have e2:(others ts t).map turnT=others ts t:=by
   conv=>rhs;rw[<-map_id (others ts t)]
   exact map_congr_left λu hu=>vC (ok.ends u (kc.mp hu).1)
  rw[Q7,Q8,e2,nD (By ok.up t)]at e;generalize aE p q ts=N at *;simp only[EV,sl,lZ,e];rfl
theorem Ju(s:Bool):∃f,fP [cJ s]=.ok (f,cJ (!s)):=by
 have sl:=vG s;unfold fP dY;cases s with
 |true=>exact⟨true,by simp only[EV,sl];rfl⟩
 |false=>exact⟨true,by simp only[EV,sl];rfl⟩
theorem El(s:Bool):∃f,jG [cJ s]=.ok (f,cJ (!s)):=by
 have sl:=vG s;have z2:2<=sizeLine:=by decide
 unfold jG iM;cases s with
 |true=>exact⟨true,by simp only[EV,sl,z2,if_true,eY jz];rfl⟩
 |false=>exact⟨true,by simp only[EV,sl,z2,false_eq_true,if_false,eY kH];rfl⟩
theorem Mc(x:Int):∃f s,lU [.int x]=.ok (f,cJ s):=by
 have z2:2<=sizeLine:=by decide
 unfold lU jB;have:x%2=0\/x%2=1:=by omega
 rcases this with h|h
 ·exact⟨true,true,by simp only[EV,bT (show decide ((0:Int)<2)=true by decide),z2,h,eY kH];rfl⟩
 ·exact⟨true,false,by simp only[EV,bT (show decide ((0:Int)<2)=true by decide),z2,h,eY jz];rfl⟩
theorem CP:∀l:List T3,bM (l.map aM)=true
 |[]=>rfl
 |t::l=>by rw[aap,bM,CP l];rfl
theorem copy_eq{p q:Int}:lV [aE p q ts]=.ok (true,aE p q ts):=by
 have z2:2<=sizeLine:=by decide
 have sq:cN [] (.rl (ts.map aM))=some (ts.map aM):=rfl;have il:=CP ts;unfold lV jC aE;simp only[EV,bU kH,bU jz,z2,il]
theorem vJ{p q:Int}(ok:cS p q ts):gU [aE p q ts]=.ok (true,aE p q ts):=by
 have e:=order_eq (p:=p) (q:=q) (us:=ts) (aaH ok.len (by decide));have e2:ts.map turnT=ts:=by
  conv=>rhs;rw[<-map_id ts]
  exact map_congr_left λu hu=>vC (ok.ends u hu)
 rw[Q7,Q8,e2,nD ok.up,show min p q=p from Int.min_eq_left ok.ord,show max p q=q from Int.max_eq_right ok.ord]at e;unfold gU iG;unfold aE at e |-;simp only[EV,jI,bU kH,bU jz,e]
theorem Jv(i:Int):jH [.int i]=.ok (true,.bl true):=by
 unfold jH iO;simp only[EV,pF (T:="int") (v:=.int i) (t:="int") rfl rfl,Ba (T:="bool") (v:=.int i) (t:="int") rfl rfl]
 try rfl
end K63
end
section
open PySem L2 Hv
namespace K63
theorem Em:gu=.cons (.asg (.one 3) (.idx (.comp ["_law_tie","_law_name"] [none,some 2] (.one 0) .seq #[.idx (!0) (¬1)] (.cmp .eq (.idx (!0) (¬0)) (!1)) (!0)) (¬0))) (.cons (.asg (.one 4) (.lst .nil)) (.cons (.asg (.one 5) (.blt .list #[.idx (!0) (¬0)])) (.cons bF (.cons (.iff (.cmp .eq (!1) (.cst (.str "linker"))) bL .nil) bR)))):=rfl
def bE(N:Val)(s:Bool)(t:T3)(us:List T3)(m:Mk)(x y:Int)(a b c:Option (Mk×Val)):aX:=[some (.sh,N),some (.sh,cJ s),some (.sh,.int t.1),some (.sh,aM t),some (.ow,.rl (us.map aM)),some (m,.rl [.int x,.int y]),a,b,c]
theorem Mf{ts:List T3}(hn:(ts.map (·.1)).Nodup){t:T3}(ht:t∈ts):ts.filter (λu=>decide (u.1=t.1))=[t]:=by
 induction ts with
 |nil=>simp at ht
 |cons u ts ih=>
  rw[aap,nodup_cons]at hn
  rcases aaA.mp ht with rfl|ht
  ·rw[List.filter_cons_of_pos (by simp),List.filter_eq_nil_iff.mpr λv hv z=>hn.1 (by rw[<-aay z];exact mem_map_of_mem (f:=(·.1)) hv)]
  ·rw[filter_cons_of_neg λz=>hn.1 (by rw[aay z];exact mem_map_of_mem (f:=(·.1)) ht)];exact ih hn.2 ht
theorem En{p q:Int}(ok:cS p q ts)(s:Bool)(ht:t∈ts):∃f,iU [aE p q ts,cJ s,.int t.1]=.ok (f,zU s p q ts t):=by
 have hn:=Jc ok.up;have hl:=ok.len;unfold iU;rw[Em];show ∃f,pb (ay (af uq) [4] _ [some (.sh,aE p q ts),some (.sh,cJ s),some (.sh,.int t.1),none,none,none,none,none,none]) _=_;have hc:ts.length<=100000:=by omega
 have z0:0<=sizeLine:=by decide
 have z2:2<=sizeLine:=by decide
 have z3:3<=sizeLine:=by decide
 rw[aj (env':=[some (.sh,aE p q ts),some (.sh,cJ s),some (.sh,.int t.1),some (.sh,aM t),none,none,none,none,none]) (by
  unfold aE;simp only[EV,bU jz,fB,fW,length_map,hc];rw[nq aM aM (λu=>decide (u.1=t.1)) ts (λu hu=>by
   simp only[EV,aN,zS,Bx]
   by_cases c:u.1=t.1<;>simp[c]),Mf hn ht]
  simp only[EV,map_cons,map_nil,eY kH,Bx];rfl)]
 rw[aj (env':=[some (.sh,aE p q ts),some (.sh,cJ s),some (.sh,.int t.1),some (.sh,aM t),some (.ow,.rl []),none,none,none,none]) (by simp only[EV,z0])];rw[aj (env':=bE (aE p q ts) s t [] .nw p q none none none) (by
  have sq:cN [] (.tup [.int p,.int q])=some [.int p,.int q]:=rfl;unfold bE aE;simp only[EV,bU kH,map_nil]
  try rfl)]
 have eb:cF (af uq) #[.idx (!0) (¬1)] (bE (aE p q ts) s t [] .nw p q none none none)=.ok [.rl (ts.map aM)]:=by unfold bE aE;simp only[EV,bU jz]
 obtain⟨env',e1,a,rfl⟩:=dJ aM (body:=λx env=>pb (pl (bO (.one 6) x env)) λenv'=>ay (af uq) [4] #[.iff (.cmp .ne (.idx (!6) (¬0)) (!2)) #[.expr (.met .append (!4) #[!6])] .nil] env')
  (λpre env=>∃a,env=bE (aE p q ts) s t (others pre t) .nw p q a none none) ts (bE (aE p q ts) s t [] .nw p q none none none) ⟨none,rfl⟩ (λpre u post env hx hq=>by
   obtain⟨a,rfl⟩:=hq;have hp:=aaS length hx;rw[aaw,aaF]at hp;have lo:=nC (t:=t) (aao pre.length);have zl:((others pre t).map aM).length<sizeLine:=by rw[aaf];unfold sizeLine;omega
   refine⟨bE (aE p q ts) s t (others (pre++[u]) t) .nw p q (some (.sh,aM u)) none none,?_,_,rfl⟩;unfold bE;have eo:others (pre++[u]) t=others pre t++if u.1=t.1 then [] else [u]:=by
    unfold others;rw[filter_append]
    congr 1
    by_cases c:u.1=t.1<;>simp[c]
   rw[eo]
   by_cases c:u.1=t.1
   ·simp only[EV,aN,zS,c,not_true,decide_false,if_true,append_nil]
   ·simp only[EV,aN,zS,c,not_false_iff,decide_true,if_false,map_append,map_cons,map_nil,zl])
 rw[aj (show aZ (af uq) [4] bF _=_ from(tN rfl eb).trans e1)];have lo:=nC (t:=t) hl;have sl:=vG s;have ec:yL (af uq) (.cmp .eq (!1) (.cst (.str "linker"))) (bE (aE p q ts) s t (others ts t) .nw p q a none none)=.ok (true,.bl s):=by unfold bE;simp only[EV,sl]
 have fin:∀(us:List T3) (m:Mk) (x y:Int) (b c:Option (Mk×Val)),iD m=true->pb (ay (af uq) [4] bR (bE (aE p q ts) s t us m x y a b c)) (λf=>match f with|.nx _=>.ok (true,.non)|.rt p=>.ok p|_=>.no)=.ok (false,aE (min x y) (max x y) us):=λus m x y b c hm=>by
  unfold bR bE;simp only[EV,Jm,Jo,z2,map_cons,map_nil,hm];rfl
 cases s with
 |false=>rw[aj ((nJ ec).trans (by rw[aam aac,ay]))];exact⟨_,fin _ _ _ _ _ _ rfl⟩
 |true=>
  have hL:∃m b c,ay (af uq) [4] bL (bE (aE p q ts) true t (others ts t) .nw p q a none none)=.ok (.nx (bE (aE p q ts) true t (mL true ts t) m (qL true t p) (qL true t q) a b c))/\iD m=true:=by
   have ho:(others ts t).length<=100000:=by omega
   have h2:2<=100000:=by decide
   unfold bL;rw[aj (env':=bE (aE p q ts) true t (others ts t) .nw p q a (some (.nw,.dc [Sum.inl t.2.2] [.int t.2.1])) none) (by
    unfold bE;simp only[EV,Jq,Jr,oB]
    try rfl)]
   rw[aj (env':=bE (aE p q ts) true t (others ts t) .nw (gP t.2.1 t.2.2 p) (gP t.2.1 t.2.2 q) a (some (.nw,.dc [Sum.inl t.2.2] [.int t.2.1])) none) (by
    unfold bE;simp only[EV,fB,fW,length_map,length_cons,length_nil];rw[show ([Val.int p,.int q]:List Val)=[p,q].map Val.int from rfl,bP Val.int (λx=>.int (gP t.2.1 t.2.2 x)) [p,q] (λx hx=>by
     simp only[EV,aN,oB,CI,L4,CH])]
    simp only[EV,az]
    try rfl)]
   rw[aj (env':=bE (aE p q ts) true t (others ts t) .nw (gP t.2.1 t.2.2 p) (gP t.2.1 t.2.2 q) a (some (.nw,.dc [Sum.inl t.2.2] [.int t.2.1])) (some (.nw,.rl (((others ts t).map (CG (gP t.2.1 t.2.2))).map aM)))) (by
    unfold bE;simp only[EV,fB,fW,length_map,ho];rw[bP aM (λu=>aM (CG (gP t.2.1 t.2.2) u)) (others ts t) (λu hu=>by
     simp only[EV,aN,zS,Jq,Jr,oB,CI,L4,CH,z3]
     try rfl)]
    simp only[EV,map_map]
    try rfl)]
   rw[aj (env':=bE (aE p q ts) true t (mL true ts t) .nw (gP t.2.1 t.2.2 p) (gP t.2.1 t.2.2 q) a (some (.nw,.dc [Sum.inl t.2.2] [.int t.2.1])) (some (.nw,.rl (((others ts t).map (CG (gP t.2.1 t.2.2))).map aM)))) (by
    unfold bE;simp only[EV,fB,fW,length_map,ho];rw[bP aM (λu=>aM (turnT u)) ((others ts t).map (CG (gP t.2.1 t.2.2))) (λu hu=>by
     simp only[EV,aN,zS,Jq,Jr,z3]
     try rfl)]
    simp only[EV,map_map];unfold mL;rw[aaj rfl,aaO,aaO]
    try rfl),ay]
   exact⟨_,_,_,rfl,rfl⟩
  obtain⟨m,b,c,hL,hm⟩:=hL;rw[aj ((nJ ec).trans (by rw[aaj rfl];exact hL))];exact⟨_,fin _ _ _ _ _ _ hm⟩
end K63
end
section
open PySem L2 Hv
namespace K63
def bh(d:Bool×Int):Val:=.tup [cJ d.1,.int d.2]
theorem gZ(s:Bool):PyData.strOk (dM s)=true:=by cases s<;>exact fD _
theorem Jw(n:Nat)(d:Bool×Int):toD (n+2) [] (bh d)=some (.tuple [.str (dM d.1),.int d.2]):=by
 show (cD (toD (n+1) []) _).bind _=_;rw[cD,show toD (n+1) [] (cJ d.1)=some (.str (dM d.1)) from aaj (gZ d.1),cD,show toD (n+1) [] (.int d.2)=some (.int d.2) from rfl,cD];rfl
theorem Ra(s:Bool):cop [] .ne (cJ s) (cJ s)=some false:=by
 refine ne_self (p:=.str (dM s)) (aaj (gZ s)) ?_;rw[PyData.canLay0,gZ]
theorem vK:∀D:List (Bool×Int),bM (D.map bh)=true
 |[]=>rfl
 |d::D=>by rw[aap,bM,vK D];rfl
abbrev tO(p q:Int)(ts:List T3)(s:Bool)(D:List (Bool×Int)):Val:=cH 0 (aE p q ts) (dM s) (D.map bh)
section
variable {N:Val} {s:Str} {ds:List Val}
theorem Jx:r8 1 [] (cH 0 N s ds) "net" = some N:=rfl
theorem Jy:r8 1 [] (cH 0 N s ds) "side" = some (.str s):=rfl
theorem Rb:r8 1 [] (cH 0 N s ds) "done" = some (.rl ds):=rfl
theorem Mg:kF [] (cH 0 N s ds) "deeds" [(0,30)]=some 30:=rfl
theorem Rc:kF [] (cH 0 N s ds) "turn" [(0,19)]=some 19:=rfl
theorem Jz:kF [] (cH 0 N s ds) "won" [(0,18)]=some 18:=rfl
theorem CQ:kF [] (cH 0 N s ds) "lying" [(0,28)]=some 28:=rfl
theorem Rf:kF [] (cH 0 N s ds) "deed" [(0,29)]=some 29:=rfl
theorem Mh:gD [cH 0 N s ds]=.ok (true,.str s):=by
 unfold gD fM;simp only[EV,Jy]
end
section
variable {p q:Int} {ts:List T3} {s:Bool} {D:List (Bool×Int)}
theorem JA(hl:D.length<=1000):fQ [tO p q ts s D]=.ok (true,.rl (D.map bh)):=by
 have hc:D.length<=100000:=by omega
 have z2:2<=sizeLine:=by decide
 unfold fQ eB tO;generalize aE p q ts=N;simp only[EV,Rb,fB,fW,length_map,hc];rw[bP bh bh D (λd hd=>by
  unfold bh cJ;simp only[EV,Bb,z2])]
 rfl
theorem zV(ok:cS p q ts):dI [tO p q ts s D]=.ok (true,aE p q ts):=by
 have e:=vJ ok;unfold dI dZ tO;generalize aE p q ts=N at *;simp only[EV,Jx,kK,e]
theorem xu(ok:cS p q ts):∃f,gb [tO p q ts s D]=.ok (f,dR p q ts):=by
 obtain⟨f,e⟩:=Ek (a:=p) (b:=q) ok.len;unfold gb gp tO;refine⟨f,?_⟩;generalize aE p q ts=N at *;simp only[EV,Jx,kI,e]
theorem Mi(ok:cS p q ts):tF [aE p q ts,cJ s]=.ok (true,tO p q ts s []):=by
 have e:=vJ ok;have z0:0<=sizeLine:=by decide
 unfold tF LH oF tO;generalize aE p q ts=N at *;unfold cJ;rw[um]
 try dsimp only
 unfold pg;rw[aaj (by decide)];rw[show bq (af Bo) (.call 11 #[!1]) (none::[N,.str (dM s)].map λd=>some (Mk.sh,d))=.ok (true,N) by simp only[EV,map_cons,map_nil,qG,e],az];rw[aaj rfl,um]
 try dsimp only
 unfold pg;rw[aaj (by decide)];rw[show bq (af Bo) (!2) (none::[N,.str (dM s)].map λd=>some (Mk.sh,d))=.ok (true,.str (dM s)) by simp only[EV,map_cons,map_nil],az];rw[aaj rfl,um]
 try dsimp only
 unfold pg;rw[aaj (by decide)];rw[show bq (af Bo) (.lst .nil) (none::[N,.str (dM s)].map λd=>some (Mk.sh,d))=.ok (true,.rl []) by simp only[EV,map_cons,map_nil,z0],az];rw[aaj rfl,um];rfl
end
end K63
end
section
open PySem L2 Hv
namespace K63
theorem Mj{p q:Int}{s:Bool}(ok:cS p q ts)(ht:t∈ts)(hw:dR p q ts=.non)(hl:D.length<=900) :
  mu 29 [tO p q ts s D,cJ s,.int t.1]=.ok (true,.tup [tO (min (qL s t p) (qL s t q)) (max (qL s t p) (qL s t q)) (mL s ts t) (!s) (D++[(s,t.1)]),zU s p q ts t]):=by
 obtain⟨f1,e1⟩:=xu (s:=s) (D:=D) ok;rw[hw]at e1;have e2:=Mb ok s ht;obtain⟨f3,e3⟩:=Ju s;have e4:=zV (s:=!s) (D:=D++[(s,t.1)]) (ok.qL s t);have n1:=Ra s;have ea:D.map bh++[.tup [.str (dM s),.int t.1]]=(D++[(s,t.1)]).map bh:=by rw[aaN];rfl
 have ig:=vK D;have il:decide ((D.map bh).length<1000)=true:=by rw[aaL,aaf];omega
 unfold mu;rw[aaj rfl];show pg (decide ((0:Nat)=0/\(["net","side","done"]:List Str)=(["net","side","done"]:List Str)/\dM s=dM s)&&bM (D.map bh)&&decide ((D.map bh).length<1000)) (vj (af pI) 1 0 26 27 [(0,18)] [(0,28)] (aE p q ts) (dM s) (D.map bh) t.1)=_;rw[decide_eq_true (show (0:Nat)=0/\(["net","side","done"]:List Str)=(["net","side","done"]:List Str)/\dM s=dM s from⟨rfl,rfl,rfl⟩),ig,il];show vj _ _ _ _ _ _ _ _ _ _ _=_;unfold vj;unfold tO at *;unfold cJ at n1 e2 e3;rw[show bq (af pI) (.mth (!0) "won" [(0,18)] .nil) (gj (cH 0 (aE p q ts) (dM s) (D.map bh)) (dM s) t.1)=.ok (f1,.non) by
  unfold gj;simp only[EV,Jz,kL,e1]]
 dsimp only;rw[show bq (af pI) (.cmp .ne (!1) (.fld 1 (!0) "side")) (gj (cH 0 (aE p q ts) (dM s) (D.map bh)) (dM s) t.1)=.ok (true,.bl false) by
  unfold gj;simp only[EV,Jy,n1]]
 dsimp only;rw[show bq (af pI) (zc 1 26) (gj (cH 0 (aE p q ts) (dM s) (D.map bh)) (dM s) t.1)=.ok (true,zU s p q ts t) by
  unfold gj zc;simp only[EV,Jx,l0,e2]]
 dsimp only;rw[show bq (af pI) (ze 27) (Cy (dM s) t.1)=.ok (f3,.str (dM !s)) by
  unfold Cy ze;simp only[EV,jJ,e3]]
 dsimp only;rw[ea];rw[show bq (af pI) (.mth (!0) "lying" [(0,28)] .nil) (gj (cH 0 (zU s p q ts t) (dM !s) ((D++[(s,t.1)]).map bh)) (dM s) t.1)=.ok (true,zU s p q ts t) by
  unfold gj;simp only[EV,CQ,jK,e4]]
end K63
end
section
open PySem L2 Hv
namespace K63
def kD(ts:List T3)(ws:List Int):Int:=(ws.find? λw=>decide (w∈pU ts)).getD ((pU ts).headD 0)
theorem JB(h:ts≠[])(ws:List Int):∃t∈ts,t.1=kD ts ws:=by
 have:kD ts ws∈pU ts:=by
  unfold kD;cases e:ws.find? λw=>decide (w∈pU ts) with
  |some w=>have:=List.find?_some e;exact aay this
  |none=>
   cases ts with
   |nil=>exact absurd rfl h
   |cons t ts=>exact aal
 obtain⟨t,h1,h2⟩:=mem_map.mp this;exact⟨t,h1,h2⟩
theorem nK{ks:List Int}(env:Option (Mk×Val)->aX)
  (hb:∀w x,body (.int w) (env x)=if w∈ks then .ok (.rt (true,.int w)) else .ok (.nx (env (some (.sh,.int w))))):∀(ws:List Int) (x:Option (Mk×Val)),
  (∃w,ws.find? (λw=>decide (w∈ks))=some w/\gO body (ws.map .int) (env x)=.ok (.rt (true,.int w)))\/(ws.find? (λw=>decide (w∈ks))=none/\∃y,gO body (ws.map .int) (env x)=.ok (.nx (env y)))
 |[],x=>.inr ⟨rfl,x,rfl⟩
 | w::ws,x=>by
  rw[aap,gO,hb]
  by_cases h:w∈ks
  ·rw[aaj h];exact .inl ⟨w,by rw[List.find?_cons_of_pos (by exact decide_eq_true h)],rfl⟩
  ·rw[aam h,List.find?_cons_of_neg (by rw[decide_eq_false h];exact aac)];exact nK env hb ws _
theorem Eo{p q:Int}(ok:cS p q ts)(h:ts≠[])(ws:List Int):∃f,iT [aE p q ts,.rl (ws.map .int)]=.ok (f,.int (kD ts ws)):=by
 have e1:=zT (a:=p) (b:=q) ok.len;unfold iT gr cu;generalize aE p q ts=N at *;show ∃f,pb (ay (af D5) [] _ [some (.sh,N),some (.sh,.rl (ws.map .int)),none,none]) _=_;rw[aj (env':=[some (.sh,N),some (.sh,.rl (ws.map .int)),some (.nw,.rl ((pU ts).map .int)),none]) (by simp only[EV,mK,e1])];rw[ay,tN (xs:=ws.map .int) rfl (by simp only[EV,az])];have L:=nK (ks:=pU ts) (body:=λx env=>pb (pl (bO (.one 3) x env)) λenv'=>ay (af D5) [] #[.iff (.cmp .AG (!3) (!2)) #[.ret (!3)] .nil] env') (λx=>[some (.sh,N),some (.sh,.rl (ws.map .int)),some (.nw,.rl ((pU ts).map .int)),x]) (λw x=>by
  rw[aN,bg,az]
  by_cases hw:w∈pU ts
  ·rw[aaj hw];simp only[EV,yW,hw,decide_true]
  ·rw[aam hw];simp only[EV,yW,hw,decide_false]) ws none
 rcases L with ⟨w,l1,l2⟩|⟨l1,y,l2⟩
 ·refine⟨true,?_⟩;rw[l2];unfold kD;rw[l1];rfl
 ·rw[l2,az]
  have ix:kP ((pU ts).map Val.int) 0=some (.int ((pU ts).headD 0)):=by
   cases ts with
   |nil=>exact absurd rfl h
   |cons t ts=>exact ja (j:=0) rfl
  refine⟨true,?_⟩;dsimp only;simp only[EV,eY ix];unfold kD;rw[l1];rfl
end K63
end
section
open PySem L2 Hv
namespace K63
theorem Rg{a b:Int}(h:ts.length<=14):iR [aE a b ts]=.ok (true,.rl ((pU ts).map .int)):=by
 unfold iR gq aE;have hc:ts.length<=100000:=by omega
 simp only[EV,bU jz,fB,fW,length_map,hc];rw[bP aM (λt=>.int t.1) ts (λt ht=>by
  simp only[EV,aN,zS])]
 unfold pU;rw[aaO];rfl
theorem fold_min{a:Int}:∀{l:List Int},(∀x∈l,a<x)->l.foldl min a=a
 |[],_=>rfl
 | x::l,h=>by
  have:=h x aal;rw[List.foldl_cons,show min a x=a by omega];exact fold_min λy hy=>h y (aak _ hy)
theorem Rh(h:ts≠[])(up:uh ts):gM .min [.rl ((pU ts).map .int)]=.ok (true,.int ((pU ts).headD 0)):=by
 have e:gM .min [.rl ((pU ts).map .int)]=pb (pl (some ((pU ts).map Val.int))) λxs=>pb (pl ((bB xs).bind uc)) λm=>.ok (true,m):=rfl;rw[e,bg,az,ints_map];cases ts with
 |nil=>exact absurd rfl h
 |cons t ts=>
  have hm:(pU ts).foldl min t.1=t.1:=fold_min λx hx=>by
   obtain⟨u,h1,rfl⟩:=mem_map.mp hx;exact(aaW.mp up).1 u h1
  show pb (pl (some (Val.int ((pU ts).foldl min t.1)))) _=_;rw[hm,bg,az];rfl
theorem Ml{p q:Int}(ok:cS p q ts)(h:ts≠[])(ws:List Int)(t:Val):∃f,wZ [.clo (.rl (ws.map .int)),aE p q ts,t]=.ok (f,.int (kD ts ws)):=by
 have e1:=Rg (a:=p) (b:=q) ok.len;have e2:=Rh h ok.up;show ∃f,cu (af Bp) 5 oG [aE p q ts,t,.rl (ws.map .int)]=_;unfold oG cu;generalize aE p q ts=N at *;show ∃f,pb (ay (af Bp) [] _ [some (.sh,N),some (.sh,t),some (.sh,.rl (ws.map .int)),none,none]) _=_;rw[aj (env':=[some (.sh,N),some (.sh,t),some (.sh,.rl (ws.map .int)),some (.nw,.rl ((pU ts).map .int)),none]) (by simp only[EV,pK,e1])];rw[ay,tN (xs:=ws.map .int) rfl (by simp only[EV,az])];have L:=nK (ks:=pU ts) (body:=λx env=>pb (pl (bO (.one 4) x env)) λenv'=>ay (af Bp) [] #[.iff (.cmp .AG (!4) (!3)) #[.ret (!4)] .nil] env') (λx=>[some (.sh,N),some (.sh,t),some (.sh,.rl (ws.map .int)),some (.nw,.rl ((pU ts).map .int)),x]) (λw x=>by
  rw[aN,bg,az]
  by_cases hw:w∈pU ts
  ·rw[aaj hw];simp only[EV,yW,hw,decide_true]
  ·rw[aam hw];simp only[EV,yW,hw,decide_false]) ws none
 rcases L with ⟨w,l1,l2⟩|⟨l1,y,l2⟩
 ·refine⟨true,?_⟩;rw[l2];unfold kD;rw[l1];rfl
 ·rw[l2,az];refine⟨true,?_⟩;dsimp only;simp only[EV,e2];unfold kD;rw[l1];rfl
theorem Ep(ns:List Int):∃(f:Bool) (l:List Int),iP [.rl (ns.map .int)]=.ok (f,.rl (l.map .int))/\15<=l.length:=by
 have c0:aV [.rl (ns.map .int),.int 0]=.ok (true,.int (cellAt ns 0)):=cE ns 0;have c1:aV [.rl (ns.map .int),.int 1]=.ok (true,.int (cellAt ns 1)):=cE ns 1;have c3:aV [.rl (ns.map .int),.int 3]=.ok (true,.int (cellAt ns 3)):=cE ns 3;have c4:aV [.rl (ns.map .int),.int 4]=.ok (true,.int (cellAt ns 4)):=cE ns 4;obtain⟨f1,l1,e1,n1,_⟩:=any_eq (cellAt ns 3) (cellAt ns 4);obtain⟨f2,e2⟩:=nG (cellAt ns 3) (cellAt ns 4);obtain⟨l2,e2,n2⟩:∃l:List Int,dm [.int (cellAt ns 3),.int (cellAt ns 4)]=.ok (f2,.rl (l.map .int))/\l.length=15:=⟨(List.range 15).map λi:Nat=>kN (cellAt ns 3) (cellAt ns 4) (0+(i:Int)),by rw[aaO];exact e2,by rw[aaf,aaU]⟩;unfold iP gm
 by_cases h:cellAt ns 0%4≠1/\cellAt ns 1%2=1
 ·refine⟨f1,l1,?_,by omega⟩;simp only[EV,eO,iY,c0,c1,c3,c4,bT (show decide ((0:Int)<4)=true by decide),bT (show decide ((0:Int)<2)=true by decide),h.1,h.2,e1,ne_eq,not_false_eq_true,decide_true]
 ·refine⟨f2,l2,?_,by omega⟩
  by_cases h1:cellAt ns 0%4=1
  ·simp only[EV,eO,fX,c0,c3,c4,bT (show decide ((0:Int)<4)=true by decide),h1,e2,ne_eq,not_true,decide_false]
  ·have h2:¬ cellAt ns 1%2=1:=λz=>h ⟨h1,z⟩;simp only[EV,eO,fX,c0,c1,c3,c4,bT (show decide ((0:Int)<4)=true by decide),bT (show decide ((0:Int)<2)=true by decide),h1,h2,e2,ne_eq,not_false_eq_true,decide_true,decide_false]
theorem XD{l:List Int}{x:Int}(h0:0<=x)(h1:x<l.length):kP (l.map Val.int) x=some (.int (l.getD x.toNat 0)):=by
 obtain⟨k,rfl⟩:=eq_ofNat_of_zero_le h0;have hk:k<l.length:=by omega
 exact ja (by rw[aaB,aaJ hk];simp[List.getD,hk])
theorem Ri{α:Type}{l:List α}{a b:Option Int}:(bX l a b).length<=l.length:=by
 unfold bX;simp only[length_take,length_drop];omega
theorem vL(ns:List Int)(hn:ns.length<=63){b:Int}(hb:dP b=Bool.true):∃(f:Bool) (ws:List Int),iQ [.rl (ns.map .int),.int b]=.ok (f,.rl (ws.map .int)):=by
 obtain⟨f,l,e,hl⟩:=Ep ns;have hc:(bX ns (some 5) (some 34)).length<=100000:=by have:=Ri (l:=ns) (a:=some 5) (b:=some 34);omega
 refine⟨Bool.true,(bX ns (some 5) (some 34)).map λx=>l.getD (x/b%15).toNat 0,?_⟩;unfold iQ gn;simp only[EV,lX,e,yV,lD,fB,fW,length_map,hc];rw[bP Val.int (λx=>.int (l.getD (x/b%15).toNat 0)) _ (λx _=>by
  have ix:=XD (l:=l) (x:=x/b%15) (emod_nonneg _ (by decide)) (by have:=emod_lt_of_pos (x/b) (show (0:Int)<15 by decide);omega);simp only[EV,aN,cg hb,bT (show decide ((0:Int)<15)=true by decide),eY ix])]
 rw[aaO];rfl
end K63
end
section
open PySem L2 Hv
namespace K63
abbrev gQ(ws:List Int):Val:=.clo (.rl (ws.map .int))
def fT(s:Bool)(w1 w2:List Int):List Int:=if s=Bool.true then w1 else w2
section
variable {p q:Int} {ts:List T3} {s:Bool} {D:List (Bool×Int)} {w1 w2:List Int} {t:Val}
theorem Vh:kF [] (.clo v) "" [(0,21)]=some 21:=rfl
theorem JC(ok:cS p q ts)(h:ts≠[])(hw:dR p q ts=.non)(hl:D.length<=900)(hu:u∈ts)(eu:u.1=kD ts (fT s w1 w2)) :
  Hy (af j6) mu 21 [(0,19)] [(0,28)] [(0,29)] (gQ w1) (gQ w2) (tO p q ts s D) t=.ok (tO (min (qL s u p) (qL s u q)) (max (qL s u p) (qL s u q)) (mL s ts u) (!s) (D++[(s,u.1)]),.int u.1):=by
 obtain⟨f1,e1⟩:=Ml ok h (fT s w1 w2) t;have e2:=zV (s:=s) (D:=D) ok;have e3:=Mj (s:=s) (D:=D) ok hu hw hl;have el:=vG s;unfold Hy;unfold tO at *;rw[show bq (af j6) (zg [(0,19)]) (pH (gQ w1) (gQ w2) (cH 0 (aE p q ts) (dM s) (D.map bh)) t)=.ok (true,.str (dM s)) by
  unfold pH;simp only[EV,Rc,kM,Mh]]
 dsimp only;rw[show bq (af j6) zh (LK (gQ w1) (gQ w2) (dM s))=.ok (ko (gQ (fT s w1 w2)),gQ (fT s w1 w2)) by
  unfold LK fT;unfold cJ at el;simp only[EV,el];cases s<;>rfl]
 dsimp only;rw[show bq (af j6) (zj 21 [(0,28)]) (LL (cH 0 (aE p q ts) (dM s) (D.map bh)) t (gQ (fT s w1 w2)))=.ok (f1,.int (kD ts (fT s w1 w2))) by
  unfold LL;simp only[EV,CQ,Vh,j8,pQ,e2,e1]]
 dsimp only;rw[Rf,<-eu];dsimp only;unfold cJ at e3;rw[e3]
end
end K63
end
section
open PySem L2 Hv
namespace K63
section
variable {Ψ:Nat->List Val->Pr FV} {ms:List Nat} {env:aX} {i:Nat} {e:IE} {f:Bool} {d:Val} {m:Mk}
theorem qy(hm:ms.contains i=false)(he:bq Ψ e env=.ok (f,d)):aZ Ψ ms (.asg (.one i) e) env=.ok (.nx (env.set i (some (bI f d,d)))):=by
 rw[aZ];try dsimp only
 rw[aam (by rw[hm];decide),he,az]
end
def lE(ns:List Int)(m1:Mk)(N0:Val)(b:Bool)(m3:Mk)(w1:List Int)(m4:Mk)(w2:List Int)(m5:Mk)(N:Val)(s:Bool)(D:List (Bool×Int))(x8 x9:Option (Mk×Val)):aX:=[some (.sh,.rl (ns.map .int)),some (m1,N0),some (.sh,cJ b),some (m3,.rl (w1.map .int)),some (m4,.rl (w2.map .int)),some (m5,N),some (.sh,cJ s),some (.ow,.rl (D.map bh)),x8,x9,none,none]
def XE:bQ:=#[.asg (.one 9) (.call 35 #[!5,!8]),.expr (.met .append (!7) #[.tup #[!6,!9]]),.asg (.one 5) (.call 36 #[!5,!6,!9]),.asg (.one 6) (.call 37 #[!6])]
section
variable {ns:List Int} {N0:Val} {b:Bool} {m1 m3 m4 m5:Mk} {p q:Int} {ts:List T3} {s:Bool} {D:List (Bool×Int)} {w1 w2:List Int} {x8 x9:Option (Mk×Val)}
theorem JD(h1:iD m1=Bool.true)(h3:iD m3=Bool.true)(h4:iD m4=Bool.true)(h5:iD m5=Bool.true)(ok:cS p q ts)(h:ts≠[])(hl:D.length<=900)(hu:u∈ts)(eu:u.1=kD ts (fT s w1 w2)) :
  ∃m5' y8 y9,iD m5'=Bool.true/\ay (af gG) [7] lB (lE ns m1 N0 b m3 w1 m4 w2 m5 (aE p q ts) s D x8 x9)=.ok (.nx (lE ns m1 N0 b m3 w1 m4 w2 m5' (zU s p q ts u) (!s) (D++[(s,u.1)]) y8 y9)):=by
 obtain⟨f1,e1⟩:=Eo ok h (fT s w1 w2);rw[<-eu]at e1;obtain⟨f2,e2⟩:=En ok s hu;obtain⟨f3,e3⟩:=El s;have el:=vG s;have ea:D.map bh++[bh (s,u.1)]=(D++[(s,u.1)]).map bh:=by rw[aaN];rfl
 have zd:decide ((D.map bh).length<sizeLine)=Bool.true:=by rw[aaL,aaf];unfold sizeLine;omega
 have z2:2<=sizeLine:=by decide
 generalize hN:aE p q ts=N at *;generalize hN':zU s p q ts u=N' at *;have st1:ay (af gG) [7] lB (lE ns m1 N0 b m3 w1 m4 w2 m5 N s D x8 x9)=ay (af gG) [7] XE (lE ns m1 N0 b m3 w1 m4 w2 m5 N s D (some (.sh,.rl ((fT s w1 w2).map .int))) x9):=by
  unfold lB;rw[aj (env':=lE ns m1 N0 b m3 w1 m4 w2 m5 N s D (some (.sh,.rl (w2.map .int))) x9) (by unfold lE;simp only[EV,h4])];have ec:yL (af gG) (.cmp .eq (!6) (.cst (.str "linker"))) (lE ns m1 N0 b m3 w1 m4 w2 m5 N s D (some (.sh,.rl (w2.map .int))) x9)=.ok (true,.bl s):=by unfold lE cJ at *;simp only[EV,el]
  rw[aj (env':=lE ns m1 N0 b m3 w1 m4 w2 m5 N s D (some (.sh,.rl ((fT s w1 w2).map .int))) x9) (by
   rw[nJ ec];cases s with
   |false=>rfl
   |true=>rw[aaj rfl];unfold lE fT;simp only[EV,h3])]
  rfl
 have st2:ay (af gG) [7] XE (lE ns m1 N0 b m3 w1 m4 w2 m5 N s D (some (.sh,.rl ((fT s w1 w2).map .int))) x9)=.ok (.nx (lE ns m1 N0 b m3 w1 m4 w2 (bI f2 N') N' (!s) (D++[(s,u.1)]) (some (.sh,.rl ((fT s w1 w2).map .int))) (some (.sh,.int u.1)))):=by
  unfold XE;rw[aj (env':=lE ns m1 N0 b m3 w1 m4 w2 m5 N s D (some (.sh,.rl ((fT s w1 w2).map .int))) (some (.sh,.int u.1))) (by unfold lE;simp only[EV,h5,qI,e1])];rw[aj (env':=lE ns m1 N0 b m3 w1 m4 w2 m5 N s (D++[(s,u.1)]) (some (.sh,.rl ((fT s w1 w2).map .int))) (some (.sh,.int u.1))) (by
   unfold lE;rw[show (D++[(s,u.1)]).map bh=D.map bh++[.tup [cJ s,.int u.1]] from ea.symm];generalize D.map bh=DD at zd |-;simp only[EV,z2,zd])]
  rw[aj (env':=lE ns m1 N0 b m3 w1 m4 w2 (bI f2 N') N' s (D++[(s,u.1)]) (some (.sh,.rl ((fT s w1 w2).map .int))) (some (.sh,.int u.1))) (by unfold lE;simp only[EV,h5,qJ,e2])];rw[aj (env':=lE ns m1 N0 b m3 w1 m4 w2 (bI f2 N') N' (!s) (D++[(s,u.1)]) (some (.sh,.rl ((fT s w1 w2).map .int))) (some (.sh,.int u.1))) (by unfold lE cJ at *;simp only[EV,tG,e3]),ay]
 exact⟨_,_,_,iE,st1.trans st2⟩
end
end K63
end
section
open PySem L2 Hv
namespace K63
theorem Rj{s:Bool}(hu:u∈ts):(mL s ts u).length<ts.length:=by
 have:(others ts u).length<ts.length:=List.length_filter_lt_length_iff_exists.mpr ⟨u,hu,by simp⟩;unfold mL
 split
 ·rw[aaf,aaf];exact this
 ·exact this
theorem CS{p q:Int}(hw:dR p q ts=.non):ts≠[]:=λz=>by
 subst z;unfold dR at hw;split at hw
 ·cases hw
 ·rename_i h1
  split at hw
  ·cases hw
  ·rename_i h2;refine h2 λw=>h1 (w.const id λe he=>by simp at he)
theorem Mm(p q:Int)(ts:List T3):ko (dR p q ts)=Bool.true:=by
 unfold dR
 split
 ·rfl
 ·split<;>rfl
theorem CT(p q:Int)(ts:List T3):cop [] .isn (dR p q ts) .non=some (ki (dR p q ts)):=rfl
section
variable {ns:List Int} {N0:Val} {b:Bool} {m1 m3 m4:Mk} {w1 w2:List Int}
theorem JE{m5:Mk}{p q:Int}{s:Bool}{x8 x9:Option (Mk×Val)}(h5:iD m5=Bool.true)(ok:cS p q ts) :
  pb (yL (af gG) lC (lE ns m1 N0 b m3 w1 m4 w2 m5 (aE p q ts) s D x8 x9)) (λx=>pl (ck [] x.2))=.ok (ki (dR p q ts))/\bq (af j6) (DX [(0,18)]) (pH (gQ w1) (gQ w2) (tO p q ts s D) t)=.ok (true,.bl (ki (dR p q ts))):=by
 obtain⟨f1,e1⟩:=CO ok;obtain⟨f2,e2⟩:=xu (s:=s) (D:=D) ok;constructor
 ·unfold lE lC;generalize aE p q ts=N at *;simp only[EV,h5,oQ,e1,CT]
 ·unfold pH DX Bj;unfold tO at *;simp only[EV,Jz,gH,e2,CT]
theorem zW{m5:Mk}{p q:Int}{s:Bool}{x8 x9:Option (Mk×Val)}{fa fb:Nat}(h5:iD m5=Bool.true)(ok:cS p q ts)(hw:dR p q ts≠.non)(ha:0<fa)(hb:0<fb)(hl:D.length<=800) :
  ∃(p' q':Int) (ts':List T3) (s':Bool) (D':List (Bool×Int)) (m5':Mk) (y8 y9:Option (Mk×Val)),n9 (λenv=>pb (yL (af gG) lC env) λx=>pl (ck [] x.2)) (ay (af gG) [7] lB) fa (lE ns m1 N0 b m3 w1 m4 w2 m5 (aE p q ts) s D x8 x9)=.ok (.nx (lE ns m1 N0 b m3 w1 m4 w2 m5' (aE p' q' ts') s' D' y8 y9))/\iD m5'=Bool.true /\
   wX (af j6) mu 21 [(0,18)] [(0,19)] [(0,28)] [(0,29)] [(0,30)] (gQ w1) (gQ w2) fb (tO p q ts s D) t=.ok (true,.tup [dR p' q' ts',.rl (D'.map bh)])/\cS p' q' ts'/\D'.length<=800:=by
 obtain⟨fa,rfl⟩:∃k,fa=k+1:=⟨fa-1,by omega⟩;obtain⟨fb,rfl⟩:∃k,fb=k+1:=⟨fb-1,by omega⟩;obtain⟨c1,c2⟩:=JE (ns:=ns) (N0:=N0) (b:=b) (m1:=m1) (m3:=m3) (m4:=m4) (w1:=w1) (w2:=w2) (s:=s) (D:=D) (x8:=x8) (x9:=x9) (t:=t) h5 ok;have hn:ki (dR p q ts)=false:=by cases hv:dR p q ts<;>first|rfl|exact absurd hv hw
 rw[hn]at c1 c2;obtain⟨f2,e2⟩:=xu (s:=s) (D:=D) ok;have e3:=JA (p:=p) (q:=q) (ts:=ts) (s:=s) (D:=D) (by omega);refine⟨p,q,ts,s,D,m5,x8,x9,Hj c1,h5,?_,ok,hl⟩;rw[wX,c2];dsimp only;unfold LM;rw[show bq (af j6) (Bj [(0,18)]) (pH (gQ w1) (gQ w2) (tO p q ts s D) t)=.ok (f2,dR p q ts) by
  unfold pH Bj;unfold tO at *;simp only[EV,Jz,gH,e2]]
 dsimp only;rw[Mm,show bq (af j6) (Hx [(0,30)]) (pH (gQ w1) (gQ w2) (tO p q ts s D) t)=.ok (true,.rl (D.map bh)) by
  unfold pH Hx;unfold tO at *;simp only[EV,Mg,j9,e3]]
 rfl
theorem both(h1:iD m1=Bool.true)(h3:iD m3=Bool.true)(h4:iD m4=Bool.true):∀(n:Nat) (ts:List T3) (p q:Int) (s:Bool) (D:List (Bool×Int)) (m5:Mk) (x8 x9:Option (Mk×Val)) (t:Val) (fa fb:Nat),ts.length<=n->n<fa->n<fb->cS p q ts->D.length+n<=800->iD m5=Bool.true ->
  ∃(p' q':Int) (ts':List T3) (s':Bool) (D':List (Bool×Int)) (m5':Mk) (y8 y9:Option (Mk×Val)),n9 (λenv=>pb (yL (af gG) lC env) λx=>pl (ck [] x.2)) (ay (af gG) [7] lB) fa (lE ns m1 N0 b m3 w1 m4 w2 m5 (aE p q ts) s D x8 x9)=.ok (.nx (lE ns m1 N0 b m3 w1 m4 w2 m5' (aE p' q' ts') s' D' y8 y9))/\iD m5'=Bool.true /\
   wX (af j6) mu 21 [(0,18)] [(0,19)] [(0,28)] [(0,29)] [(0,30)] (gQ w1) (gQ w2) fb (tO p q ts s D) t=.ok (true,.tup [dR p' q' ts',.rl (D'.map bh)])/\cS p' q' ts'/\D'.length<=800:=by
 intro n
 induction n with
 |zero=>intro ts p q s D m5 x8 x9 t fa fb hn ha hb ok hl h5;exact zW h5 ok (λz=>CS z (List.length_eq_zero_iff.mp (by omega))) (by omega) (by omega) (by omega)
 |succ n ih=>
  intro ts p q s D m5 x8 x9 t fa fb hn ha hb ok hl h5;obtain⟨fa,rfl⟩:∃k,fa=k+1:=⟨fa-1,by omega⟩;obtain⟨fb,rfl⟩:∃k,fb=k+1:=⟨fb-1,by omega⟩;obtain⟨c1,c2⟩:=JE (ns:=ns) (N0:=N0) (b:=b) (m1:=m1) (m3:=m3) (m4:=m4) (w1:=w1) (w2:=w2) (s:=s) (D:=D) (x8:=x8) (x9:=x9) (t:=t) h5 ok
  by_cases hw:dR p q ts=.non
  ·have hne:=CS hw
   obtain⟨u,hu,eu⟩:=JB hne (fT s w1 w2);obtain⟨m5',y8,y9,k5,k1⟩:=JD (D:=D) (ns:=ns) (N0:=N0) (b:=b) (x8:=x8) (x9:=x9) h1 h3 h4 h5 ok hne (by omega) hu eu;have k2:=JC (t:=t) (w1:=w1) (w2:=w2) ok hne hw (show D.length<=900 by omega) hu eu;have hlt:=Rj (s:=s) hu;obtain⟨p',q',ts',s',D',m6,z8,z9,r1,r2,r3,r4⟩:=ih (mL s ts u) (min (qL s u p) (qL s u q)) (max (qL s u p) (qL s u q)) (!s) (D++[(s,u.1)]) m5' y8 y9 (.int u.1) fa fb (by omega) (by omega) (by omega) (ok.qL s u) (by rw[aaw];simp;omega) k5;refine⟨p',q',ts',s',D',m6,z8,z9,?_,r2,?_,r4⟩
   ·rw[DV (by rw[c1,hw];rfl) k1];exact r1
   ·rw[wX,c2,hw];dsimp only [ki];rw[k2];exact r3
  ·exact zW h5 ok hw (by omega) (by omega) (by omega)
end
end K63
end
section
open PySem L2 Hv
namespace K63
theorem zX(w:List Int):gF [.rl (w.map .int)]=.ok (true,gQ w):=by
 have sq:cN [] (.rl (w.map .int))=some (w.map .int):=rfl;have il:bM (w.map Val.int)=true:=by
  induction w with
  |nil=>rfl
  |cons a w ih=>rw[aap,bM,ih rfl];rfl
 unfold gF Cz;dsimp only;rw[show bq (af LV) fO [some (.sh,.rl (w.map .int))]=.ok (true,.rl (w.map .int)) by
  unfold fO;simp only[EV,il]]
theorem Rk{p q:Int}{s:Bool}{w1 w2:List Int}(ok:cS p q ts)(e:wX (af j6) mu 21 [(0,18)] [(0,19)] [(0,28)] [(0,29)] [(0,30)] (gQ w1) (gQ w2) 100000 (tO p q ts s []) .non=.ok (true,r)) :
  iS [aE p q ts,cJ s,gQ w1,gQ w2]=.ok (true,r):=by
 have e1:=Mi (s:=s) ok;unfold iS LN;dsimp only;rw[pP,e1];dsimp only;rw[e]
theorem Vi(n:Nat)(p q:Int)(ts:List T3):∃d,toD (n+1) [] (dR p q ts)=some d/\PyData.canLay0 d=true:=by
 have sd:∀b:Bool,∃d,toD (n+1) [] (cJ b)=some d/\PyData.canLay0 d=true:=λb=>⟨.str (dM b),aaj (gZ b),by rw[PyData.canLay0,gZ]⟩;unfold dR
 split
 ·exact sd true
 ·split
  ·exact sd false
  ·exact⟨.none,rfl,rfl⟩
theorem JF(p q:Int)(ts:List T3)(D:List (Bool×Int)):cop [] .eq (.tup [dR p q ts,.rl (D.map bh)]) (.tup [dR p q ts,.rl (D.map bh)])=some true:=by
 obtain⟨d,h1,h2⟩:=Vi 14 p q ts;have h3:toD 15 [] (.rl (D.map bh))=some (.list (D.map λd=>.tuple [.str (dM d.1),.int d.2])):=Be bh _ D λd _=>Jw 12 d;have h:toD 16 [] (.tup [dR p q ts,.rl (D.map bh)])=some (.tuple [d,.list (D.map λd=>.tuple [.str (dM d.1),.int d.2])]):=by show (cD (toD 15 []) _).bind _=_;rw[cD,h1,cD,h3,cD];rfl
 refine eq_self h ?_;have h4:PyData.canLayAll0 (D.map λd=>.tuple [.str (dM d.1),.int d.2])=true:=j3 _ _ λd _=>by
  rw[PyData.canLay0,PyData.canLayAll0,PyData.canLay0,PyData.canLayAll0,PyData.canLay0,PyData.canLayAll0,gZ];rfl
 rw[PyData.canLay0,PyData.canLayAll0,h2,PyData.canLayAll0,PyData.canLay0,h4,PyData.canLayAll0];rfl
theorem Mn(p q:Int)(ts:List T3):cop [] .eq (aE p q ts) (aE p q ts)=some true:=by
 have h1:toD 15 [] (.tup [.int p,.int q])=some (.tuple [.int p,.int q]):=rfl;have h2:toD 15 [] (.rl (ts.map aM))=some (.list (ts.map λt=>.tuple ((l3 t).map .int))):=Be aM _ ts λt _=>Hi (l3 t);have h:toD 16 [] (aE p q ts)=some (.tuple [.tuple [.int p,.int q],.list (ts.map λt=>.tuple ((l3 t).map .int))]):=by show (cD (toD 15 []) _).bind _=_;rw[cD,h1,cD,h2,cD];rfl
 refine eq_self h ?_;have hi:∀xs:List Int,PyData.canLayAll0 (xs.map PyData.int)=true:=λxs=>j3 _ _ λ_ _=>by rw[PyData.canLay0]
 have h3:PyData.canLayAll0 (ts.map λt=>.tuple ((l3 t).map .int))=true:=j3 _ _ λt _=>by rw[PyData.canLay0];exact hi _
 have h4:=hi [p,q];simp only[map_cons,map_nil]at h4;rw[PyData.canLay0,PyData.canLayAll0,PyData.canLay0,h4,PyData.canLayAll0,PyData.canLay0,h3,PyData.canLayAll0];rfl
end K63
end
section
open PySem L2 Hv
namespace K63
theorem Rm:wY=(.cons (.asg (.one 1) (.call 5 #[!0,.bin .mod (.call 0 #[!0,¬0]) (¬4),¬14])) (.cons (.asg (.one 2) (.call 6 #[.bin .fdiv (.call 0 #[!0,¬1]) (¬5)])) (.cons (.asg (.one 3) (.call 8 #[!0,¬1])) (.cons (.asg (.one 4) (.call 8 #[!0,¬15])) (.cons (.asg (.one 5) (!1)) (.cons (.asg (.one 6) (!2)) (.cons (.asg (.one 7) (.lst .nil)) (.cons (.whl 100000 lC lB) lT)))))))):=rfl
theorem Vj:∀l:List (Bool×Int),gM .all [.rl (l.map λ_=>Val.bl true)]=.ok (true,.bl true):=λl=>by
 have e:fu (l.map λ_=>Val.bl true)=some (l.map λ_=>true):=by
  induction l with
  |nil=>rfl
  |cons a l ih=>rw[aap];unfold fu at ih |-;rw[cD,ih];rfl
 show pb (pl (fu (l.map λ_=>Val.bl true))) (λbs=>Pr.ok (true,Val.bl (bs.all id)))=_;rw[e,bg,az];have:(l.map λ_=>true).all id=true:=by rw[all_eq_true];intro x hx;obtain⟨_,_,rfl⟩:=mem_map.mp hx;rfl
 rw[this]
theorem Rn(ns:List Int)(hn:ns.length<=63):∃f,IV [.rl (ns.map .int)]=.ok (f,.bl true):=by
 have c0:aV [.rl (ns.map .int),.int 0]=.ok (true,.int (cellAt ns 0)):=cE ns 0;have c1:aV [.rl (ns.map .int),.int 1]=.ok (true,.int (cellAt ns 1)):=cE ns 1;generalize cellAt ns 0=x0 at *;generalize cellAt ns 1=x1 at *;obtain⟨p,q,ts,e1,ok⟩:=Q4 ns (st:=x0%4) (by omega);obtain⟨f2,s,e2⟩:=Mc (x1/5);obtain⟨f3,w1,e3⟩:=vL ns hn (b:=1) (by decide);obtain⟨f4,w2,e4⟩:=vL ns hn (b:=15) (by decide);have z0:0<=sizeLine:=by decide
 have iN:ko (aE p q ts)=Bool.false:=rfl;obtain⟨p',q',ts',s',D',m5',y8,y9,r1,r2,r3,ok',hl⟩:=both (ns:=ns) (N0:=aE p q ts) (b:=s) (m1:=bI true (aE p q ts)) (m3:=bI f3 (.rl (w1.map .int))) (m4:=bI f4 (.rl (w2.map .int))) (w1:=w1) (w2:=w2) iE iE iE 14 ts p q s [] .sh none none .non 100000 100000 ok.len (by decide) (by decide) ok (by decide) rfl;have sm:∀f,bI f (cJ s)=.sh:=λf=>by cases f<;>rfl
 have e5:=copy_eq (p:=p) (q:=q) (ts:=ts);have e6:=Rk ok r3;unfold IV cu;rw[Rm];show ∃f,pb (ay (af gG) [7] _ [some (.sh,.rl (ns.map .int)),none,none,none,none,none,none,none,none,none,none,none]) _=_;rw[aj (qy (f:=true) (d:=aE p q ts) rfl (by
  simp only[EV,mV,xg,c0,bT (show decide ((0:Int)<4)=true by decide),e1]))]
 simp only[set_cons_succ,set_cons_zero];rw[aj (qy (f:=f2) (d:=cJ s) rfl (by
  simp only[EV,mV,ur,c1,cg (show dP 5=true by decide),e2]))]
 simp only[set_cons_succ,set_cons_zero];rw[aj (qy (f:=f3) (d:=.rl (w1.map .int)) rfl (by
  simp only[EV,ku,e3]))]
 simp only[set_cons_succ,set_cons_zero];rw[aj (qy (f:=f4) (d:=.rl (w2.map .int)) rfl (by
  simp only[EV,ku,e4]))]
 simp only[set_cons_succ,set_cons_zero];rw[aj (qy (f:=ko (aE p q ts)) (d:=aE p q ts) rfl (by
  generalize aE p q ts=N at *;simp only[EV,az]))]
 simp only[set_cons_succ,set_cons_zero];rw[aj (qy (f:=ko (cJ s)) (d:=cJ s) rfl (by
  unfold cJ;simp only[EV,az]))]
 simp only[set_cons_succ,set_cons_zero];rw[iN,show bI false (aE p q ts)=.sh from rfl,sm,sm];rw[aj (env':=lE ns (bI true (aE p q ts)) (aE p q ts) s (bI f3 (.rl (w1.map .int))) w1 (bI f4 (.rl (w2.map .int))) w2 .sh (aE p q ts) s [] none none) (by
  unfold lE;generalize aE p q ts=N at *;simp only[EV,z0])]
 rw[aj (s:=.whl 100000 lC lB) (by rw[aZ];exact r1)];obtain⟨f7,e7⟩:=CO ok';have e8:=JF p' q' ts' D';have e9:=Mn p q ts;have h1:=zX w1;have h2:=zX w2;have z2:2<=sizeLine:=by decide
 have hc:D'.length<=100000:=by omega
 have rm1:iD (bI true (aE p q ts))=Bool.true:=iE;have rm3:iD (bI f3 (.rl (w1.map .int)))=Bool.true:=iE;have rm4:iD (bI f4 (.rl (w2.map .int)))=Bool.true:=iE;generalize bI true (aE p q ts)=m1 at *;generalize bI f3 (.rl (w1.map .int))=m3 at *;generalize bI f4 (.rl (w2.map .int))=m4 at *;generalize aE p q ts=N at *;generalize aE p' q' ts'=N' at *;unfold lT lE;rw[aj (qy (f:=true) (d:=N) rfl (by
  simp only[EV,rm1,uu,e5]))]
 simp only[set_cons_succ,set_cons_zero];have rn:iD (bI true N)=Bool.true:=iE;rw[aj (qy (f:=true) (d:=.tup [dR p' q' ts',.rl (D'.map bh)]) rfl (by
  simp only[EV,rn,rm3,rm4,qH,pR,h1,h2,e6]))]
 simp only[set_cons_succ,set_cons_zero];have rr:iD (bI true (.tup [dR p' q' ts',.rl (D'.map bh)]))=Bool.true:=iE;generalize bI true N=mn at *;generalize bI true (.tup [dR p' q' ts',.rl (D'.map bh)])=mr at *;have it:gM (.isin "tuple") [.tup [dR p' q' ts',.rl (D'.map bh)]]=.ok (true,.bl true):=pF (T:="tuple") (t:="tuple") rfl rfl;have il:gM (.isin "list") [.rl (D'.map bh)]=.ok (true,.bl true):=pF (T:="list") (t:="list") rfl rfl;have ix:jl [] (.tup [dR p' q' ts',.rl (D'.map bh)]) (.int 1)=some (.rl (D'.map bh)):=rfl;generalize hW:dR p' q' ts'=W at *;generalize hF:Val.tup [W,.rl (D'.map bh)]=F at *;have ln:gM .len [F]=.ok (true,.int 2):=by rw[<-hF];rfl
 rw[aj (s:=lI) (env':=[some (.sh,.rl (ns.map .int)),some (m1,N),some (.sh,cJ s),some (m3,.rl (w1.map .int)),some (m4,.rl (w2.map .int)),some (m5',N'),some (.sh,cJ s'),some (.ow,.rl (D'.map bh)),y8,y9,some (mn,N),some (mr,F)]) (by
  unfold lI;rw[nJ (f:=true) (t:=false) (by simp only[EV,rr,it,il,ix,ln];rfl)];rw[aam (by decide),ay])]
 have al:=Vj D';refine⟨true,?_⟩;rw[ay];have R:aZ (af gG) [7] lR [some (.sh,.rl (ns.map .int)),some (m1,N),some (.sh,cJ s),some (m3,.rl (w1.map .int)),some (m4,.rl (w2.map .int)),some (m5',N'),some (.sh,cJ s'),some (.ow,.rl (D'.map bh)),y8,y9,some (mn,N),some (mr,F)]=.ok (.rt (true,.bl true)):=by
  unfold lR;simp only[EV,map_cons,map_nil,GX,oQ,e7,z2,hF,e8,ix,fB,fW,length_map,hc,e9];rw[bP bh (λ_=>.bl Bool.true) D' (λd _=>by
   have iy:jl [] (bh d) (.int 1)=some (.int d.2):=rfl;have wy:=Jv d.2;simp only[EV,aN,iy,tH,wy])]
  simp only[EV,al]
 rw[R,az];rfl
theorem true:∀ns:List Int,ns.length<=63->∃h',IL [.rl (ns.map .int)] []=.ok (.bl Bool.true) h':=λns hn=>by
 obtain⟨f,e⟩:=Rn ns hn;exact LZ e
end K63
end
end
section
namespace PySem.W.Fast
theorem tw5157658082123831129:True:=trivial
theorem tw14935026355875226727:True:=trivial
theorem tw9800537656072779667:True:=trivial
theorem tw383500764087037863:True:=trivial
theorem tw10761196314816371438:True:=trivial
theorem tw17040438172971156263:True:=trivial
theorem tw999788531655854653:True:=trivial
theorem tw11333000734011698194:True:=trivial
theorem tw1017959014009011414:True:=trivial
theorem tw4258675198244687910:True:=trivial
theorem tw306775706036718054:True:=trivial
theorem tw17622945101376455298:True:=trivial
theorem tw12395313773278993497:True:=trivial
theorem tw16002668401999205390:True:=trivial
theorem tw2899264216207723158:True:=trivial
theorem tw5487932930773803868:True:=trivial
theorem tw5072211000073117221:True:=trivial
theorem tw14422796289653566494:True:=trivial
theorem tw8166410074881746091:True:=trivial
theorem tw3225969847041365585:True:=trivial
theorem tw11215694554414267779:True:=trivial
theorem tw8160444376465409521:True:=trivial
theorem tw8288258793540126624:True:=trivial
theorem tw16672970696631916328:True:=trivial
theorem tw10951980942279874121:True:=trivial
theorem tw17941886390655674819:True:=trivial
theorem tw6419183917077603478:True:=trivial
theorem tw3333191167747509741:True:=trivial
theorem tw3161165200324460442:True:=trivial
theorem tw9926554736579786671:True:=trivial
theorem tw12849234671638495609:True:=trivial
theorem tw15415447617186667209:True:=trivial
theorem tw7009651716542959515:True:=trivial
theorem tw6658427986732046617:True:=trivial
theorem tw12327822841817707009:True:=trivial
theorem tw17444354337540101717:True:=trivial
theorem tw1916661937858542947:True:=trivial
theorem tw13883679974605119731:True:=trivial
theorem tw12724056772180592311:True:=trivial
theorem tw618788581009916524:True:=trivial
theorem tw1728006252328088527:True:=trivial
theorem tw9909011213107151722:True:=trivial
theorem tw5244012221321765892:True:=trivial
theorem tw3766995623811461891:True:=trivial
theorem tw3189594210610497638:True:=trivial
theorem tw16755551905893701669:True:=trivial
theorem tw6481617989062372673:True:=trivial
theorem tw12987637605190404946:True:=trivial
theorem tw3399683372527772058:True:=trivial
theorem tw121317663268768774:True:=trivial
theorem tw6474782990778911466:True:=trivial
theorem tw15252928511734187016:True:=trivial
theorem tw17824911746688326042:True:=trivial
theorem tw4055290918101802168:True:=trivial
theorem tw14123386051787384445:True:=trivial
theorem tw12692399456452183297:True:=trivial
theorem tw1695009121367722637:True:=trivial
theorem tw17385889581509425240:True:=trivial
theorem tw9022983075175659749:True:=trivial
theorem tw13197012034071639397:True:=trivial
theorem tw13612970818017444096:True:=trivial
theorem tw13483013103295242951:True:=trivial
theorem tw1888879748961876946:True:=trivial
theorem tw18312498395514527271:True:=trivial
theorem tw12698982756917545037:True:=trivial
theorem tw16669747023939222352:True:=trivial
theorem tw7217131933782382811:True:=trivial
theorem tw3502281242170867874:True:=trivial
theorem tw14050029985248363408:True:=trivial
theorem tw3427041329681475364:True:=trivial
theorem tw12834506962505556373:True:=trivial
theorem tw12665082471356425276:True:=trivial
theorem tw11303157629202421613:True:=trivial
theorem tw10185761488122645821:True:=trivial
theorem tw11367271466787058545:True:=trivial
theorem tw14296061009622232128:True:=trivial
theorem tw7062058140388160184:True:=trivial
theorem tw74761184176154666:True:=trivial
theorem tw11850028655831625807:True:=trivial
theorem tw7829698648219205254:True:=trivial
theorem tw6936170360789649580:True:=trivial
theorem tw7275545583142784552:True:=trivial
theorem tw7130705721856174491:True:=trivial
theorem tw14978130381732109239:True:=trivial
theorem tw9423477862393449522:True:=trivial
theorem tw3267471479707677070:True:=trivial
theorem tw17559206166080973562:True:=trivial
theorem tw12120170272098502567:True:=trivial
theorem tw17432876802083856662:True:=trivial
theorem tw6606919911875298238:True:=trivial
theorem tw8655712663043203851:True:=trivial
theorem tw6246379093309341941:True:=trivial
theorem tw16047808460445823728:True:=trivial
theorem tw14369871253175301870:True:=trivial
theorem tw9279661503643471364:True:=trivial
theorem tw17960300392193072520:True:=trivial
theorem tw4057384551805024883:True:=trivial
theorem tw16608890841288355454:True:=trivial
theorem tw4051237963337821266:True:=trivial
theorem tw9613373449756141917:True:=trivial
theorem tw10627434575396111607:True:=trivial
theorem tw13934236730973183857:True:=trivial
theorem tw5569325809806980602:True:=trivial
theorem tw2940138115120841970:True:=trivial
theorem tw12295078318610193561:True:=trivial
theorem tw13423571988778486114:True:=trivial
theorem tw7057521344068121755:True:=trivial
theorem tw7356555032182016324:True:=trivial
theorem tw4327998843826543462:True:=trivial
theorem tw1307121780101611702:True:=trivial
theorem tw2831303704754369303:True:=trivial
theorem tw14332521374935531191:True:=trivial
theorem tw3321677109953326834:True:=trivial
theorem tw14877267674544581159:True:=trivial
theorem tw7169368574880582774:True:=trivial
theorem tw12666918223995310700:True:=trivial
theorem tw8660550281307831592:True:=trivial
theorem tw13252405234840840544:True:=trivial
theorem tw1091054823242681040:True:=trivial
theorem tw3140621217709795234:True:=trivial
theorem tw425876772374212780:True:=trivial
theorem tw12757817059171773645:True:=trivial
theorem tw1092007803161384736:True:=trivial
theorem tw1080553281048594169:True:=trivial
theorem tw17679586287891950567:True:=trivial
theorem tw12571213079900463532:True:=trivial
theorem tw5397322734672638441:True:=trivial
theorem tw7933582288977313541:True:=trivial
theorem tw11886261599382545226:True:=trivial
theorem tw13785496088786302530:True:=trivial
theorem tw7044252709470207633:True:=trivial
theorem tw6885571194321276871:True:=trivial
theorem tw1038606085544166796:True:=trivial
theorem tw3398550971173921864:True:=trivial
theorem tw18128347405158878945:True:=trivial
theorem tw10423831707888610028:True:=trivial
theorem tw2747368341962538317:True:=trivial
theorem tw12958370744414971590:True:=trivial
theorem tw1535366831200166059:True:=trivial
theorem tw11879477967500400361:True:=trivial
theorem tw6645453610046218684:True:=trivial
theorem tw15765762238811849254:True:=trivial
theorem tw12868553952263563:True:=trivial
theorem tw6904893804918411875:True:=trivial
theorem tw6135306351585377344:True:=trivial
theorem tw13087889108905487284:True:=trivial
theorem tw15350516263126760094:True:=trivial
theorem tw256331590946163506:True:=trivial
theorem tw8287055237351114681:True:=trivial
theorem tw5080344874648824731:True:=trivial
theorem tw14407813190595535371:True:=trivial
theorem tw8518208433354629520:True:=trivial
theorem tw635033095070072539:True:=trivial
theorem tw4313196333491627690:True:=trivial
theorem tw13394937559392120486:True:=trivial
theorem tw8044148407445121713:True:=trivial
theorem tw15938696751185013849:True:=trivial
theorem tw9896861846632642015:True:=trivial
theorem tw7101706345247279117:True:=trivial
theorem tw9427063516740163406:True:=trivial
theorem tw6899658575559101811:True:=trivial
theorem tw12045831914701052466:True:=trivial
theorem tw18063096383112254285:True:=trivial
theorem tw12760091352318673057:True:=trivial
theorem tw15986115141347363514:True:=trivial
theorem tw5527762271791660237:True:=trivial
theorem tw14160816365373306024:True:=trivial
theorem tw5456430686730482909:True:=trivial
theorem tw6803921829118253533:True:=trivial
theorem tw18155880430356960389:True:=trivial
theorem tw6710499330022442183:True:=trivial
theorem tw2217438366680260182:True:=trivial
theorem tw3359414884766613738:True:=trivial
theorem tw5359614168756428293:True:=trivial
theorem tw14317710782922447373:True:=trivial
theorem tw17358970272217143657:True:=trivial
theorem tw9484972505292157588:True:=trivial
theorem tw11314163966900420835:True:=trivial
theorem tw2398114436149859827:True:=trivial
theorem tw11188316578498037605:True:=trivial
theorem tw12960682072014867922:True:=trivial
theorem tw16609674009409146653:True:=trivial
theorem tw8477977173230521037:True:=trivial
theorem tw92703089554799631:True:=trivial
theorem tw12429581214527148094:True:=trivial
theorem tw6061605442890404183:True:=trivial
theorem tw1340391755189607483:True:=trivial
theorem tw2396110967813832125:True:=trivial
theorem tw4250091721430394906:True:=trivial
theorem tw14715277435866427481:True:=trivial
theorem tw10117143351435072838:True:=trivial
theorem tw2147864914057100778:True:=trivial
theorem tw5185865224357096090:True:=trivial
theorem tw14397122562265023702:True:=trivial
theorem tw5650044441827355304:True:=trivial
theorem tw8780874527363749318:True:=trivial
theorem tw11027549392101195015:True:=trivial
theorem tw16699149597748937160:True:=trivial
theorem tw5308844035933105230:True:=trivial
theorem tw12728745269567084772:True:=trivial
theorem tw14603582577250013698:True:=trivial
theorem tw2914970751989872618:True:=trivial
theorem tw16191829024157406797:True:=trivial
theorem tw17655123559146847464:True:=trivial
theorem tw8616227634934675643:True:=trivial
theorem tw14899032232477749921:True:=trivial
theorem tw6602822536217874610:True:=trivial
theorem tw16944846621451368495:True:=trivial
theorem tw14962766737123390374:True:=trivial
theorem tw3946399725937076621:True:=trivial
theorem tw4696971267583471692:True:=trivial
theorem tw9202269789475706989:True:=trivial
theorem tw10095702088621433292:True:=trivial
theorem tw16760003036425382015:True:=trivial
theorem tw693765546121437066:True:=trivial
theorem tw5615485502262763332:True:=trivial
theorem tw3130229069742553318:True:=trivial
theorem tw2276330947899064231:True:=trivial
theorem tw7335116890476061757:True:=trivial
theorem tw17750300886066840155:True:=trivial
theorem tw8594343169505366557:True:=trivial
theorem tw5633956446111005440:True:=trivial
theorem tw4073002200937035468:True:=trivial
theorem tw16246787055451317128:True:=trivial
theorem tw6234197340349794451:True:=trivial
theorem tw16427261387146200839:True:=trivial
theorem tw9861962172057831377:True:=trivial
theorem tw6904458335852336448:True:=trivial
theorem tw16256243892322105849:True:=trivial
theorem tw5435126705501131294:True:=trivial
theorem tw17125593251954928409:True:=trivial
theorem tw897098683961033685:True:=trivial
theorem tw12592092254674517692:True:=trivial
theorem tw7157697498839444041:True:=trivial
theorem tw5849160488935475429:True:=trivial
theorem tw8957962762191714235:True:=trivial
theorem tw4430043395592694674:True:=trivial
theorem tw17377047206977130282:True:=trivial
theorem tw4513749044384758595:True:=trivial
theorem tw5756999992935235558:True:=trivial
theorem tw13557288919828137458:True:=trivial
theorem tw2461651012170136388:True:=trivial
theorem tw3471800433748057617:True:=trivial
theorem tw3786757825570847774:True:=trivial
theorem tw12300611901623656576:True:=trivial
theorem tw12920989644660159205:True:=trivial
theorem tw10071535290914695368:True:=trivial
theorem tw13833312352088945601:True:=trivial
theorem tw18154284629160828910:True:=trivial
theorem tw13179272527894765507:True:=trivial
theorem tw527164103837330554:True:=trivial
theorem tw6121984446340464232:True:=trivial
theorem tw1988060342139889720:True:=trivial
theorem tw3933992681977800335:True:=trivial
theorem tw1551668545337041630:True:=trivial
theorem tw12318978770683108314:True:=trivial
theorem tw1032158344650880633:True:=trivial
theorem tw17827115123903511798:True:=trivial
theorem tw7396466977544274086:True:=trivial
theorem tw6169159685813930919:True:=trivial
theorem tw9608729160983799784:True:=trivial
theorem tw11791666105168183754:True:=trivial
theorem tw10808745420963619541:True:=trivial
theorem tw11059896761037320618:True:=trivial
theorem tw17555231835391541260:True:=trivial
theorem tw5318048672598022730:True:=trivial
theorem tw7786042426402904002:True:=trivial
theorem tw12322416713569774145:True:=trivial
theorem tw14587789735020424942:True:=trivial
theorem tw5274611432856474451:True:=trivial
theorem tw16438209890703929903:True:=trivial
theorem tw12797898664476721411:True:=trivial
theorem tw18395782823655470876:True:=trivial
theorem tw1213466493281210676:True:=trivial
theorem tw18006032976514256216:True:=trivial
theorem tw16567546795847180953:True:=trivial
theorem tw11642926835643827874:True:=trivial
theorem tw6789250412118677133:True:=trivial
theorem tw9944618069721209959:True:=trivial
theorem tw11703207182614111187:True:=trivial
theorem tw12406598240593325805:True:=trivial
theorem tw3091702430943632141:True:=trivial
theorem tw8292072498528765812:True:=trivial
theorem tw11667041667503233191:True:=trivial
theorem tw16566006091809212331:True:=trivial
theorem tw15096445014676836156:True:=trivial
theorem tw18109545893036679272:True:=trivial
theorem tw1169098757363821887:True:=trivial
theorem tw15884136893455856546:True:=trivial
theorem tw7292799543234396648:True:=trivial
theorem tw3392423603102034875:True:=trivial
theorem tw2614375833043790027:True:=trivial
theorem tw4804720328240298011:True:=trivial
theorem tw15129340834798705811:True:=trivial
theorem tw4464780475171086510:True:=trivial
theorem tw6494968401608470343:True:=trivial
theorem tw2411274065454788164:True:=trivial
theorem tw11712661489617052571:True:=trivial
theorem tw6399494199512900984:True:=trivial
theorem tw14030623268883137634:True:=trivial
theorem tw17853025723692168669:True:=trivial
theorem tw6731002115483114526:True:=trivial
theorem tw3109848839158722937:True:=trivial
theorem tw88007763059560754:True:=trivial
theorem tw7035951942107720923:True:=trivial
theorem tw1339278093344927332:True:=trivial
theorem tw16707301058090708515:True:=trivial
theorem tw7555478882686779066:True:=trivial
theorem tw4289330753107400019:True:=trivial
theorem tw11775894550807192701:True:=trivial
theorem tw937396165260237307:True:=trivial
theorem tw10922926787026029583:True:=trivial
theorem tw4649529163021062305:True:=trivial
theorem tw3022185545696119529:True:=trivial
theorem tw6865084956004747795:True:=trivial
theorem tw2267952641766509093:True:=trivial
theorem tw13284746105368330075:True:=trivial
theorem tw7112395474111713826:True:=trivial
theorem tw9772359930043892347:True:=trivial
theorem tw14991001743778219184:True:=trivial
theorem tw17283330673070363603:True:=trivial
theorem tw17387841883907721268:True:=trivial
theorem tw14455409072838749735:True:=trivial
theorem tw15478233394069168266:True:=trivial
theorem tw9381012511989790802:True:=trivial
theorem tw7320892747018422719:True:=trivial
theorem tw17888369868027036820:True:=trivial
theorem tw11035449454099767559:True:=trivial
theorem tw9911666431756044826:True:=trivial
theorem tw7149844697126410985:True:=trivial
theorem tw6384566044345662526:True:=trivial
theorem tw4362966692251256884:True:=trivial
theorem tw10108801055230292027:True:=trivial
theorem tw13770422822274032514:True:=trivial
end PySem.W.Fast
open PySem PySem.W PyProof.Rows
set_option maxRecDepth 100000 in
set_option maxHeartbeats 0 in
theorem PySem.Challenge.cw_linkorcut_k63_whole_wishes_refereed_holds : PySem.Challenge.rw_linkorcut_k63_whole_wishes_refereed.Holds := by
 w_on;o_law;k_head;(case hw=>w_witness2)
 k_fill
 refine Hv.walk (c:=243) (l:=PySem.Challenge.rw_linkorcut_k63_whole_wishes_refereed) (k:=82) (x:="_law_script") rfl rfl ⟨rfl,by decide,by decide⟩ (λw h Y=>⟨PySem.W.km_in_of Y,PySem.W.km_tabs_of Y _ List.mem_cons_self⟩) ?hq ?F
 case hq=>exact λw=>⟨by kernel_rfl,by kernel_rfl⟩
 case F=>
  intro w mg fa h KX G hmg;refine' K63.all_mk KX G hmg K63.true ?_ ?_ ?_ ?_ ?_ ?_ ?_ ?_ ?_ ?_ ?_ ?_ ?_ ?_ ?_ ?_ ?_ ?_ ?_ ?_ ?_ ?_ ?_ ?_ ?_ ?_ ?_ ?_ ?_ ?_ ?_ ?_ ?_ ?_ ?_ ?_ ?_ ?_ ?_ ?_ ?_ ?_ ?_ ?_ ?_ ?_ ?_ ?_ ?_ ?_ ?_ ?_ ?_ ?_ ?_ ?_ ?_ ?_ ?_ ?_ ?_ ?_ ?_ ?_ ?_ ?_ ?_ ?_ ?_ ?_ ?_ ?_ ?_ ?_ ?_ ?_ ?_ ?_ ?_ ?_ ?_ ?_ ?_ ?_ ?_ ?_ ?_ ?_ ?_ ?_ ?_ ?_ ?_ ?_ ?_ ?_ ?_ ?_ ?_ ?_
  iterate 2 all_goals try first|k_is|(exact⟨_,L2.fun_mk (by k_is) (by k_is) (by k_is)⟩)|(exact rfl)|(intro x hx;simp only[Hv.bltNames,List.mem_cons,List.not_mem_nil,or_false]at hx;rcases hx with rfl|rfl|rfl|rfl|rfl|rfl|rfl|rfl|rfl|rfl|rfl|rfl|rfl|rfl|rfl|rfl|rfl<;>k_is)|decide|kernel_rfl
#print axioms PySem.Challenge.cw_linkorcut_k63_whole_wishes_refereed_holds
end
