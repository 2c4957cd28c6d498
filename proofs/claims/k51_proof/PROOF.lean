import PyProof.Rows.All
import Wide.All
import OpenK.AllK
import Wide.FinOn
import Lean
import PyProof.EqAt
import PyProof.EqKinds
import PyProof.TupleCall
import KE.KDictList
import KE.KDictLaws
import KE.KDictSum
import KE.KRevSl
import PyProof.DictWalks
import PySem.Challenge.RW_linkorcut_k51_mended_in_trees
set_option Elab.async false
set_option compiler.extract_closed false
set_option linter.all false
set_option maxRecDepth 100000
set_option maxHeartbeats 4000000
set_option genSizeOf false
set_option backward.eqns.nonrecursive false
set_option backward.eqns.deepRecursiveSplit false
set_option bootstrap.genMatcherCode false
set_option hygiene false
local macro_rules
|`(def $n:declId $s:optDeclSig $v:declVal)=>`(noncomputable def $n:declId $s:optDeclSig $v:declVal)
|`(abbrev $n:declId $s:optDeclSig $v:declVal)=>`(noncomputable abbrev $n:declId $s:optDeclSig $v:declVal)
local macro_rules
|`(#[$a])=>`(.cons $a .nil)
|`(#[$a,$as,*])=>`(.cons $a #[$as,*])
local macro_rules
|`(!$n:num)=>`(.var $n)
local macro_rules
|`(¬$n:num)=>`(.cst (.int $n))
set_option hygiene true
open Array(toList)
open Bool(and_eq_true false_eq_true not_eq_true' or_eq_true)
open Classical(byContradiction choose_spec)
open Int(emod_nonneg)
open List(all_eq_true any_cons any_map ext_getElem filter_append find?_cons foldl_cons getElem?_range getElem_map length length_cons length_drop length_map length_nil lookup_cons map_cons map_id map_map map_nil map_take mem_append mem_cons mem_replicate nil_append not_mem_nil of_mem_zip range' replicate size_toArray take_of_length_le toArray zip_cons_cons)
open Nat(le_of_lt lt_trans mod_lt ne_of_gt)
open Option(bind_some getD_none map_some)
open PySem.W(callWith_K callWith_K0 cellsFrom_some codeIn emptyDict eq_sortI findIn handedIn hasDictIn instObj kat_lt keepIn kitOne kitx_list lookIn makesIn methodObj plainGet plainGet_of plainOver sortI_rises specialIn takerIn typeIn)
def aah:=@Option.bind_eq_some_iff
def aai:=@PySem.wpAny_bind
def aaj:=@Bool.false_ne_true
def aak:=@List.length_map
def aal:=@List.mem_cons_of_mem
def aam:=@List.mem_cons_self
def aan:=@List.getElem?_set_ne
def aao:=@List.getElem?_eq_some_iff
def aap:=@PySem.Heap.get?_push_of_some
def aaq:=@PySem.wpAny_pure
def aar:=@if_pos
def aas:=@if_neg
def aat:=@List.getElem?_set_self
def aau:=@List.map_cons
def aav:=@PySem.Heap.lt_size
def aaw:=@Nat.le_refl
def aax:=@List.getElem?_append_left
def aay:=@Nat.lt_of_lt_of_le
def aaz:=@List.mem_cons
def aaA:=@List.mem_map
def aaB:=@PySem.Heap.get?_push_size
def aaC:=@List.mem_map_of_mem
def aaD:=@PySem.W.mg_of
def aaE:=@List.size_toArray
def aaF:=@List.mem_singleton
def aaG:=@Nat.ne_of_lt
def aaH:=@List.length_cons
def aaI:=@List.length_append
def aaJ:=@List.getElem?_map
def aaK:=@of_decide_eq_true
def aaL:=@List.prefix_refl
def aaM:=@List.mem_of_getElem?
def aaN:=@Nat.le_trans
def aaO:=@List.getElem?_append_right
def aaP:=@List.mem_append_right
def aaQ:=@Option.some.inj
def aaR:=@List.getElem?_eq_getElem
def aaS:=@List.nodup_cons
def aaT:=@List.mem_append
def aaU:=@List.map_append
def aaV:=@List.map_map
def aaW:=@Array.length_toList
def aaX:=@List.mem_append_left
def aaY:=@Option.map_eq_some_iff
def aaZ:=@PySem.wpAny_newObj_type
def aa0:=@List.mem_filter
def aa1:=@List.append_nil
def aa2:=@congrArg
def aa3:=@PySem.wpAny_Call_Name_kw
def aa4:=@PyProof.Rows.callWith_type1
def aa5:=@List.nodup_append
def aa6:=@List.pairwise_cons
def aa7:=@List.prefix_append
def aa8:=@Nat.lt_succ_self
def aa9:=@beq_eq_false_iff_ne
def aba:=@List.map_congr_left
def abb:=@PySem.wpAny_mono
def abc:=@decide_eq_true_eq
def abd:=@List.filter_cons_of_pos
def abe:=@List.filter_cons_of_neg
def abf:=@List.lookup_cons
def abg:=@Array.getElem?_eq_getElem
def abh:=@PySem.Heap.SameBut.update
def abi:=@Nat.zero_le
def abj:=@List.length_range
def abk:=@PySem.Heap.get?_update_self
def abl:=@List.mem_range
def abm:=@List.nodup_nil
def abn:=@PySem.Calls.spliced_cons
def abo:=@PySem.W.sortI_perm
def abp:=@PySem.Obj.data_mapFields
def abq:=@PySem.sizeLine_eq
def abr:=@Nat.lt_irrefl
def abt:=@PySem.wpAny_holding
def abu:=@PySem.Heap.size_push
def abv:=@List.pairwise_map
def abw:=@List.append_assoc
def abx:=@PySem.mem_of_lookup
def aby:=@List.nil_append
def abz:=@Nat.le_succ
def abA:=@PySem.Calls.spliced_nil
def abB:=@Nat.lt_succ_of_lt
def abC:=@PySem.wpAny_setState_of
def abE:=@List.length_set
def abF:=@PySem.W.kia_one
def abG:=@List.map_nil
def abH:=@List.length_take
def abI:=@True.intro
def abK:=@Int.emod_lt_of_pos
open PySem.W(Frag sortI nsIn fnOf isFn)
section
namespace L2
open PySem PySem.Spec PyProof.Rows
abbrev Key:=Sum Int Str
def tF:Key->Value->Bool
 |.inl k,v=>Value.isInt k v
 |.inr x,v=>Value.isStrOf x v
def YC(w:World):Key->Int
 |.inl k=>hashInt k
 |.inr x=>hashStr w x
theorem bU:∀{k:Key} {v:Value},tF k v=true->(∃i t,k=Sum.inl i/\v=Value.int i t)\/(∃x t,k=Sum.inr x/\v=Value.str x t)
 | .inl i,v,h=>by
  obtain⟨t,e⟩:=Value.isInt_shape (k:=i) (v:=v) h;exact .inl ⟨i,t,rfl,e⟩
 | .inr x,v,h=>by
  obtain⟨t,e⟩:=Value.isStrOf_shape (x:=x) (v:=v) h;exact .inr ⟨x,t,rfl,e⟩
theorem Eh(i:Int)(t:Tok):tF (.inl i) (.int i t)=true:=by simp[tF,Value.isInt]
theorem Ei(x:Str)(t:Tok):tF (.inr x) (.str x t)=true:=by simp[tF,Value.isStrOf]
theorem Po(a b:Int):decide ((Sum.inl a:Key)=Sum.inl b)=(a==b):=by
 by_cases e:a=b
 ·subst e;simp
 ·have h:¬ (Sum.inl a:Key)=Sum.inl b:=λq=>e (Sum.inl.inj q);rw[decide_eq_false h];exact(aa9.mpr e).symm
theorem Pp(a b:Str):decide ((Sum.inr a:Key)=Sum.inr b)=decide (a=b):=by
 by_cases e:a=b
 ·subst e;simp
 ·have h:¬ (Sum.inr a:Key)=Sum.inr b:=λq=>e (Sum.inr.inj q);rw[decide_eq_false h,decide_eq_false e]
theorem Pq(a:Int)(b:Str):decide ((Sum.inl a:Key)=Sum.inr b)=false:=decide_eq_false (λq=>nomatch q)
theorem Pu(a:Str)(b:Int):decide ((Sum.inr a:Key)=Sum.inl b)=false:=decide_eq_false (λq=>nomatch q)
def bh(prog:Program)(w:World):PySem.KeyKind prog w Key where
 is:=tF
 hash:=YC w
 inj:=λv a b ha hb=>by
  rcases bU ha with ⟨i,t,rfl,rfl⟩|⟨x,t,rfl,rfl⟩
  ·rcases bU hb with ⟨j,u,rfl,e⟩|⟨y,u,rfl,e⟩
   ·injection e with e1 _;rw[e1]
   ·exact nomatch e
  ·rcases bU hb with ⟨j,u,rfl,e⟩|⟨y,u,rfl,e⟩
   ·exact nomatch e
   ·injection e with e1 _;rw[e1]
 byValue:=λk v h=>by
  rcases bU h with ⟨i,t,rfl,rfl⟩|⟨x,t,rfl,rfl⟩<;>rfl
 pyHash:=λhv h=>by
  rcases bU hv with ⟨i,t,rfl,rfl⟩|⟨x,t,rfl,rfl⟩
  ·exact wpAny_pyHash_int h
  ·exact wpAny_pyHash_str h
 eqBool:=λhu hv h=>by
  rcases bU hu with ⟨i,t,rfl,rfl⟩|⟨x,t,rfl,rfl⟩
  ·rcases bU hv with ⟨j,u,rfl,rfl⟩|⟨y,u,rfl,rfl⟩
   ·rw[Po]at h;exact wpAny_eqBool_int h
   ·rw[Pq]at h;exact SeqAt.EqAt.int_str i t y u _ _ _ _ h
  ·rcases bU hv with ⟨j,u,rfl,rfl⟩|⟨y,u,rfl,rfl⟩
   ·rw[Pu]at h;exact SeqAt.EqAt.str_int x t j u _ _ _ _ h
   ·rw[Pp]at h;exact wpAny_eqBool_str h
 «strs»:=λk x t v h=>by
  rcases bU h with ⟨i,u,rfl,e⟩|⟨y,u,rfl,e⟩
  ·exact nomatch e
  ·injection e with e1 _
   subst e1;cases v<;>rfl
theorem Bs(prog:Program)(w:World)(k:Key)(v:Value):(bh prog w).is k v=tF k v:=rfl
theorem zc(prog:Program)(w:World)(i:Int)(t:Tok):(bh prog w).is (.inl i) (.int i t)=true:=Eh i t
theorem zd(prog:Program)(w:World)(x:Str)(t:Tok):(bh prog w).is (.inr x) (.str x t)=true:=Ei x t
inductive V where
 |non|bl (b:Bool)|int (i:Int)|str (x:Str)|byt (b:Array UInt8)|flt (b:UInt64)|ref (a:Addr)|ty (n:String)
 deriving DecidableEq
def RelV:V->Value->Prop
 |.non,u=>u=Value.none
 |.bl b,u=>u=Value.bool b
 |.int i,u=>∃t,u=Value.int i t
 |.str x,u=>∃t,u=Value.str x t
 |.byt b,u=>∃t,u=Value.bytes b t
 |.flt b,u=>∃t,u=Value.float b t
 |.ref a,u=>u=Value.ref a
 |.ty n,u=>u=Value.type n
abbrev Vals:List V->List Value->Prop:=Paired RelV
theorem Vals.length(r:Vals xs us):xs.length=us.length:=Paired.length r
theorem Vals.get:∀{xs:List V} {us:List Value} {i:Nat} {x:V},Vals xs us->xs[i]?=some x->∃u,us[i]?=some u/\RelV x u
 |_,_,_,_,.nil,e=>by simp at e
 |_,_,0,_,.cons r _,e=>by simp at e;subst e;exact⟨_,rfl,r⟩
 | _,_,i+1,x,.cons _ t,e=>by
  obtain⟨u,h1,h2⟩:=Vals.get (i:=i) (x:=x) t (by simpa using e);exact⟨u,by simpa using h1,h2⟩
theorem Vals.append:∀{xs ys:List V} {us ws:List Value},Vals xs us->Vals ys ws->Vals (xs++ys) (us++ws)
 |_,_,_,_,.nil,s=>s
 |_,_,_,_,.cons r t,s=>.cons r (Vals.append t s)
theorem Vals.take:∀{xs:List V} {us:List Value} (n:Nat),Vals xs us->Vals (xs.take n) (us.take n)
 |_,_,0,_=>.nil
 |_,_,_+1,.nil=>.nil
 |_,_,n+1,.cons r t=>.cons r (Vals.take n t)
theorem Vals.drop:∀{xs:List V} {us:List Value} (n:Nat),Vals xs us->Vals (xs.drop n) (us.drop n)
 |_,_,0,r=>r
 |_,_,_+1,.nil=>.nil
 |_,_,n+1,.cons _ t=>Vals.drop n t
def lW:Option V->Option Value->Prop
 |some v,some u=>RelV v u
 |none,none=>True
 |_,_=>False
def KV{κ:Type}:List (κ × V)->List (κ × Value)->Prop:=Paired λ(p:κ × V) (q:κ × Value)=>p.1=q.1/\RelV p.2 q.2
def kV:Key->V
 |.inl i=>.int i
 |.inr x=>.str x
inductive HO where
  |lst (xs:List V)
  |tup (xs:List V)
  |dK (kvs:List (Key×V))|dT (kvs:List (List Key×V))
  |set (S:Int->Bool) (n:Nat)
  |ins (C dx:Addr) (fs:List (Str×V))
  |own (x:Addr)
  |xd (fs:List (Str×V))
  |met (f x:Addr)
  |rng (lo hi:Int)
  |kg (o:Obj) (u:HO)
  |tbl (ps:Array Value)
  |ext (φ:Heap->Prop)
abbrev Hp:=Addr->Option HO
def upd(H:Hp)(a:Addr)(o:HO):Hp:=λb=>if b=a then some o else H b
theorem aW:upd H a o a=some o:=by unfold upd;rw[aar rfl]
theorem aA(h:b≠a):upd H a o b=H b:=by unfold upd;rw[aas h]
theorem LO:upd (upd H a o) a u=upd H a u:=by
 funext b;unfold upd;split<;>rfl
theorem Uu{H:Hp}{a b:Addr}{o u:HO}(h:H a=some o)(h':H b=some u)(d:o≠u):a≠b:=by
 intro e;subst e;rw[h]at h';exact d (aaQ h')
theorem bf{H:Hp}{a b:Addr}{o:HO}(h:H a=some o)(h':H b=none):a≠b:=by
 intro e;subst e;rw[h]at h';cases h'
section
variable (P:Program) (w:World)
def cj(H:Hp)(h:Heap)(a:Addr):HO->Prop
 |.lst xs=>xs.length<=sizeLine/\∃(its:List Value) (n:Nat),Vals xs its/\h.get? a=some { cls:=.type "list",data:=.seq its.toArray n }
 |.tup xs=>xs.length<=sizeLine/\∃its:List Value,Vals xs its/\IsTup h a its.toArray
 |.dK kvs=>kvs.length<=sizeLine/\(a==sysModules)=false/\∃vs,KV kvs vs/\h.DictOf (bh P w) a vs
 | .dT kvs=>kvs.length<=sizeLine/\(a==sysModules)=false/\∃xs:List (List Key×Addr×Value),
   Paired (λ(p:List Key×V) (q:List Key×Addr×Value)=>p.1=q.1/\H q.2.1=some (.tup (p.1.map kV))/\RelV p.2 q.2.2) kvs xs /\
   ∃o es ep,h.get? a=some o/\o.ExactDict/\o.data=.dict es ep/\es.toList=xs.map (entryOfKey (tupleKind (bh P w)))/\(xs.map (·.1)).Nodup
 |.set S n=>h.SetOf (intKind P w) a S n
 | .ins C dx fs=>H dx=some (.own a)/\fs.length<=1000/\dx≠a/\h.get? a=some (instObj C dx) /\
   ∃mA,h.Ns1 dx mA/\(∀f,lW (fs.lookup f) (mA f))/\PySem.Within mA (fs.map (·.1))
 |.own _=>∃o,h.get? a=some o
 |.xd fs=>∃mA,h.Ns1 a mA/\∀f,lW (fs.lookup f) (mA f)
 |.rng lo hi=>∃t u v,h.get? a=some { cls:=.type "range",data:=.fields [.int lo t,.int hi u,.int 1 v].toArray }
 |.kg o u=>h.get? a=some o/\cj H h a u
 |.tbl ps=>h.get? a=some { cls:=.none,data:=.fields ps }
 |.met f x=>h.get? a=some (methodObj (.ref f) (.ref x))
 |.ext φ=>φ h/\(∃o,h.get? a=some o)/\∀h1 h2:Heap,φ h1->(∀o,h1.get? a=some o->h2.get? a=some o) -> φ h2
def o8(H:Hp)(h:Heap):Prop:=∀a o,H a=some o->cj P w H h a o
end
section
variable {P:Program} {w:World} {H H':Hp} {h h':Heap} {a:Addr} {o:HO}
theorem cj.lt(x:cj P w H h a o):a<h.objs.size:=by
 cases o with
 |lst xs=>obtain⟨_,_,_,_,e⟩:=x;exact aav e
 |tup xs=>obtain⟨_,_,_,p⟩:=x;exact p.lt
 |dK kvs=>obtain⟨_,_,_,_,o,_,_,e,_⟩:=x;exact aav e
 |dT kvs=>obtain⟨_,_,_,_,o,_,_,e,_⟩:=x;exact aav e
 |set S n=>obtain⟨o,_,_,_,e,_⟩:=x;exact aav e
 |ins C dx fs=>obtain⟨_,_,_,e,_⟩:=x;exact aav e
 |own y=>obtain⟨_,e⟩:=x;exact aav e
 |xd fs=>obtain⟨_,⟨_,_,_,e,_⟩,_⟩:=x;exact aav e
 |rng lo hi=>obtain⟨_,_,_,e⟩:=x;exact aav e
 |kg ob u=>obtain⟨e,_⟩:=x;exact aav e
 |tbl ps=>exact aav (show h.get? a=some _ from x)
 |met f y=>exact aav (show h.get? a=some _ from x)
 |ext φ=>obtain⟨_,⟨_,e⟩,_⟩:=x;exact aav e
theorem Paired.Pw{α β:Type}{F G:α -> β -> Prop}:∀{l₁:List α} {l₂:List β},Paired F l₁ l₂->(∀a b,F a b->G a b)->Paired G l₁ l₂
 |_,_,.nil,_=>.nil
 |_,_,.cons r t,f=>.cons (f _ _ r) (Paired.Pw t f)
theorem cj.stay(x:cj P w H h a o)(k:∀b u,(b=a\/H b=some (.own a))->h.get? b=some u->h'.get? b=some u)
  (ho:∀b,H b=some (.own a)->H' b=some (.own a)) (ht:∀b xs,H b=some (.tup xs)->H' b=some (.tup xs)):cj P w H' h' a o:=by
 induction o with
 |lst xs=>obtain⟨z,its,n,r,e⟩:=x;exact⟨z,its,n,r,k _ _ (.inl rfl) e⟩
 |tup xs=>obtain⟨z,its,r,ob,e,c⟩:=x;exact⟨z,its,r,ob,k _ _ (.inl rfl) e,c⟩
 |dK kvs=>obtain⟨z,y,vs,r,ob,es,ep,e,c⟩:=x;exact⟨z,y,vs,r,ob,es,ep,k _ _ (.inl rfl) e,c⟩
 |dT kvs=>obtain⟨z,y,xs,r,ob,es,ep,e,c⟩:=x;exact⟨z,y,xs,Paired.Pw r λp q z=>⟨z.1,ht _ _ z.2.1,z.2.2⟩,ob,es,ep,k _ _ (.inl rfl) e,c⟩
 |set S n=>obtain⟨ob,es,ep,t,e,c⟩:=x;exact⟨ob,es,ep,t,k _ _ (.inl rfl) e,c⟩
 |ins C dx fs=>obtain⟨d,z,ne,e,mA,⟨od,es,ep,e2,c⟩,r⟩:=x;exact⟨ho _ d,z,ne,k _ _ (.inl rfl) e,mA,⟨od,es,ep,k _ _ (.inr d) e2,c⟩,r⟩
 |own y=>obtain⟨ob,e⟩:=x;exact⟨ob,k _ _ (.inl rfl) e⟩
 |xd fs=>obtain⟨mA,⟨od,es,ep,e,c⟩,r⟩:=x;exact⟨mA,⟨od,es,ep,k _ _ (.inl rfl) e,c⟩,r⟩
 |rng lo hi=>obtain⟨t,u,v,e⟩:=x;exact⟨t,u,v,k _ _ (.inl rfl) e⟩
 |kg ob u ih=>obtain⟨e,q⟩:=x;exact⟨k _ _ (.inl rfl) e,ih q⟩
 |tbl ps=>have e:h.get? a=some { cls:=.none,data:=.fields ps }:=x;show h'.get? a=some { cls:=.none,data:=.fields ps };exact k a _ (.inl rfl) e
 |met f y=>have e:h.get? a=some (methodObj (.ref f) (.ref y)):=x;show h'.get? a=some (methodObj (.ref f) (.ref y));exact k a _ (.inl rfl) e
 |ext φ=>obtain⟨p,⟨o,e⟩,st⟩:=x;exact⟨st _ _ p λo q=>k _ _ (.inl rfl) q,⟨o,k _ _ (.inl rfl) e⟩,st⟩
theorem o8.lt(x:o8 P w H h)(e:H a=some o):a<h.objs.size:=(x a o e).lt
theorem o8.fresh(x:o8 P w H h)(e:h.objs.size<=a):H a=none:=by
 cases q:H a with
 |none=>rfl
 |some u=>exact absurd (aay (x.lt q) e) (abr _)
theorem o8.kept(x:o8 P w H h)(k:∀b u,h.get? b=some u->h'.get? b=some u):o8 P w H h':=λa o e=>
 (x a o e).stay (λb u _ q=>k b u q) (λ_ q=>q) λ_ _ q=>q
theorem o8.laid(x:o8 P w H h)(k:∀b u,h.get? b=some u->h'.get? b=some u)(hp:h.objs.size<=a)(new:cj P w (upd H a o) h' a o):o8 P w (upd H a o) h':=λb u e=>by
 have hn:=x.fresh hp
 by_cases hb:b=a
 ·subst hb;rw[aW]at e;cases e;exact new
 ·rw[aA hb]at e;exact(x b u e).stay (λc v _ q=>k c v q) (λc q=>by rw[aA (bf q hn)];exact q) λc xs q=>by rw[aA (bf q hn)];exact q
end
def Rd(H:Hp)(a:Addr)(u:HO):Prop:=H a=some u\/∃o,H a=some (.kg o u)
theorem Rd.ok(r:Rd H a u)(x:o8 P w H h):cj P w H h a u:=by
 rcases r with r|⟨o,r⟩
 ·exact x a u r
 ·obtain⟨_,q⟩:=x a _ r;exact q
def Uv:Option HO->Prop
 |some (.lst _)=>True
 |some (.dK _)=>True
 |some (.dT _)=>True
 |some (.set _ _)=>True
 |some (.ins _ _ _)=>True
 |some (.ext _)=>True
 |_=>False
section
variable {P:Program} {w:World} {H:Hp} {h h':Heap} {x e:Addr} {o':HO}
theorem o8.write(ok:o8 P w H h)(mu:Uv (H x))(he:e=x\/H e=some (.own x))(k:∀b u,b≠e->h.get? b=some u->h'.get? b=some u)(Ub:∃u,h'.get? e=some u)
  (new:cj P w (upd H x o') h' x o'):o8 P w (upd H x o') h':=λb u q=>by
 have nown:∀c y,H c=some (.own y)->c≠x:=λc y r z=>by subst z;rw[r]at mu;exact mu
 have ntup:∀c xs,H c=some (.tup xs)->c≠x:=λc xs r z=>by subst z;rw[r]at mu;exact mu
 by_cases hb:b=x
 ·subst hb;rw[aW]at q;cases q;exact new
 ·rw[aA hb]at q
  by_cases Px:b=e
  ·have q':H b=some (.own x):=by
    rcases he with z|z
    ·exact absurd (Px.trans z) hb
    ·rw[Px];exact z
   rw[q]at q';cases q';obtain⟨v,hv⟩:=Ub;exact⟨v,by rw[Px];exact hv⟩
  ·refine(ok b u q).stay (λc v hc r=>k c v ?_ r) (λc r=>by rw[aA (nown c b r)];exact r) λc xs r=>by rw[aA (ntup c xs r)];exact r
   rcases hc with rfl|hc
   ·exact Px
   ·rintro rfl
    rcases he with z|z
    ·exact nown c b hc z
    ·rw[hc]at z;cases z;exact hb rfl
end
structure Un (fs ex:List Addr) (H H':Hp) (h h':Heap):Prop where
 keep:∀b o,h.get? b=some o->H b=none->b∉fs->b∉ex->h'.get? b=some o
 slot:∀b o,h.get? b=some o->H b=none->b∈fs->b∉ex->∃sl,h'.get? b=some { o with slots:=sl }
 free:∀b o,h.get? b=some o->H b=none->b∉ex->H' b=none
 there:∀b o,h.get? b=some o->b∉ex->∃o',h'.get? b=some o'
 tups:∀b xs,H b=some (.tup xs)->H' b=some (.tup xs)
 frzs:∀b o u,H b=some (.kg o u)->H' b=some (.kg o u)
 vt:∀b ps,H b=some (.tbl ps)->∃more,H' b=some (.tbl (ps++more))
section
variable {fs fs' ex ex':List Addr} {H H1 H2:Hp} {h h1 h2 h':Heap} {a x e:Addr} {o:HO}
theorem Un.any(u:Un fs ex H H1 h h1)(q:h.get? b=some ob)(n:H b=none)(hx:b∉ex):∃sl,h1.get? b=some { ob with slots:=sl }:=by
 by_cases hb:b∈fs
 ·exact u.slot b ob q n hb hx
 ·exact⟨ob.slots,u.keep b ob q n hb hx⟩
theorem Un.kept(k:∀b u,h.get? b=some u->h'.get? b=some u):Un fs ex H H h h' :=
 ⟨λb ob q _ _ _=>k b ob q,λb ob q _ _ _=>⟨ob.slots,k b ob q⟩,λ_ _ _ n _=>n,λb ob q _=>⟨ob,k b ob q⟩,λ_ _ q=>q,λ_ _ _ q=>q,λ_ ps q=>⟨#[],by rw[q];simp⟩⟩
theorem Un.refl:Un fs ex H H h h:=Un.kept λ_ _ q=>q
theorem Un.laid(k:∀b u,h.get? b=some u->h'.get? b=some u)(hp:h.objs.size<=a)(hn:H a=none):Un fs ex H (upd H a o) h h' where
 keep:=λb u q _ _ _=>k b u q
 slot:=λb u q _ _ _=>⟨u.slots,k b u q⟩
 free:=λb u q n _=>by rw[aA (aaG (aay (aav q) hp))];exact n
 there:=λb u q _=>⟨u,k b u q⟩
 tups:=λb xs q=>by rw[aA (bf q hn)];exact q
 frzs:=λb u xs q=>by rw[aA (bf q hn)];exact q
 vt:=λb ps q=>⟨#[],by rw[aA (bf q hn),q];simp⟩
theorem Un.write(mu:Uv (H x))(he:e=x\/H e=some (.own x))(k:∀b u,b≠e->h.get? b=some u->h'.get? b=some u)(Ub:∃u,h'.get? e=some u):Un fs ex H (upd H x o) h h':=by
 have hx:∀b,H b=none->b≠x:=λb n z=>by subst z;rw[n]at mu;exact mu
 have hb:∀b,H b=none->b≠e:=λb n z=>by
  subst z
  rcases he with r|r
  ·exact hx b n r
  ·rw[n]at r;cases r
 have hm:∀b u,H b=some u->¬ Uv (some u)->b≠x:=λb u q nm z=>by subst z;rw[q]at mu;exact nm mu
 refine⟨λb u q n _ _=>k b u (hb b n) q,λb u q n _ _=>⟨u.slots,k b u (hb b n) q⟩,λb u q n _=>by rw[aA (hx b n)];exact n,λb u q _=>?_,
  λb xs q=>by rw[aA (hm b _ q λz=>z)];exact q,λb u xs q=>by rw[aA (hm b _ q λz=>z)];exact q,λb ps q=>⟨#[],by rw[aA (hm b _ q λz=>z),q];simp⟩⟩
 by_cases Px:b=e
 ·subst Px;exact Ub
 ·exact⟨u,k b u Px q⟩
end
def b7(h:Heap)(H:Hp):List Addr:=(List.range h.objs.size).filter λa=>(H a).isSome
def xW(h:Heap)(H:Hp):Heap:=PySem.W.hideAll h (b7 h H)
theorem Ej(h:Heap)(H:Hp):(xW h H).objs.size=h.objs.size:=PySem.W.hideAll_size _ _
theorem Ge(e:h.get? b=some o)(n:H b=none):(xW h H).get? b=some o :=
 PySem.W.hideAll_get _ e λhm=>by
  have q:(H b).isSome=true:=(aa0.mp hm).2;rw[n]at q;simp at q
theorem LP(e:(xW h H).get? b=some o):h.get? b=some o/\H b=none:=by
 have e':h.get? b=some o:=PySem.W.of_hideAll (b7 h H) e;refine⟨e',?_⟩;cases q:H b with
 |none=>rfl
 |some x=>have hm:b∈b7 h H:=aa0.mpr ⟨abl.mpr (aav e'),by simp[q]⟩;have z:(xW h H).get? b=none:=PySem.W.hideAll_none (b7 h H) hm;rw[z]at e;cases e
def LQ(g h:Heap)(L:Addr):List (Addr×Obj):=(List.range h.objs.size).filterMap λa=>if a=L\/(g.get? a).isSome=true then none else (h.get? a).map λo=>(a,o)
def rest(g h:Heap)(L d:Addr):List (Addr×Obj):=(LQ g h L).filter λp=>decide (p.1≠d)
structure Mod (K:Frag) (mg:Str->Option Value) (base:Heap):Prop where
 Uw:K.In base
 glob:base.Ns mainGlobals mg
 blt:∃mb,base.Ns builtinsNs mb/\∀x:Str,x ≠ "__name__" -> mb x=bootBuiltins x
 nolimit:base.NoLimit
structure Cx where
 prog:Program
 w:World
 K:Frag
 mg:Str->Option Value
 base:Heap
 A:Around
 N:List Str
 s₀:Shared
 H₀:Hp
 env:Env
 outer:List Env
 stack:List Env
 ex:List Addr
 fn:Str->Bool
 calm:Bool
 pn:List (Addr×Obj)
 xe:Value->Shared->Prop
def frs(l:List Env):List Addr:=l.filterMap (·.frame)
abbrev Cx.fs(X:Cx):List Addr:=frs X.outer
def X3(sc:Scope)(x:Str):Prop:=sc.names.lookup x=some .local\/sc.names.lookup x=some .cell\/sc.names.lookup x=some .free
def Loc(sc:Scope)(x:Str):Prop:=sc.names.lookup x=some .local\/sc.names.lookup x=some .cell
def Look(env:Env)(h:Heap)(m:Str->Option Value)(x:Str)(u:Value):Prop :=
 (env.kindOf x=some .local/\m x=some u)\/((env.kindOf x=some .cell\/env.kindOf x=some .free)/\∃c,env.cells.lookup x=some c/\h.IsCell c (some u))
structure Cx.Ok (X:Cx):Prop where
 mod:Mod X.K X.mg X.base
 kind:X.env.scope.kind=.function
 glob:X.env.globals=mainGlobals
 blt:X.env.builtins=builtinsNs
 above:X.s₀.heap.objs.size<=X.env.locals
 inj:∀x y c,X.env.cells.lookup x=some c->X.env.cells.lookup y=some c->x=y
 has:∀x,(X.env.kindOf x=some .cell\/X.env.kindOf x=some .free)->∃c,X.env.cells.lookup x=some c
 Ux:∀x c,X.fn x=true->X.env.cells.lookup x=some c->X.s₀.heap.objs.size<=c
 hd:X.calm=true->X.A.handled=none
 frames:X.A.frames=some X.stack
 stk:X.stack=X.outer\/(X.stack=X.env::X.outer/\X.env.frame=some X.env.locals)
 YD:∀b∈X.ex,b≠X.env.locals/\∀x c,X.env.cells.lookup x=some c->c≠b
 bs:∀b o,X.base.get? b=some o->X.s₀.heap.get? b=some o/\X.H₀ b=none
 OC:X.base.objs.size<=X.s₀.heap.objs.size
 o9:∀b o,X.base.get? b=some o->b∉X.ex
 Gf:∀b∈X.ex,b∉X.fs
 sd:X.s₀.heap.FunFrames X.base X.outer
 Py:∀b∈X.fs,X.H₀ b=none
structure Inv (X:Cx) (pins:List (Addr×Obj)) (σ:List (Option V)) (H:Hp) (s:Shared):Prop where
 ok:X.Ok
 os:s.os=X.s₀.os
 bare:AllBare s.gens
 base:Un X.fs X.ex X.H₀ H X.s₀.heap s.heap
 loc:∃m,s.heap.Ns X.env.locals m/\∀(i:Nat) (x:Str) (v:V),X.N[i]?=some x -> σ[i]?=some (some v)->X3 X.env.scope x->∃u,RelV v u/\Look X.env s.heap m x u
 cell:∀x c,X.env.cells.lookup x=some c->∃v,s.heap.IsCell c v
 free:H X.env.locals=none
 jH:∀x c,X.env.cells.lookup x=some c->H c=none
 pin:∀p∈X.pn++pins,s.heap.get? p.1=some p.2/\H p.1=none/\p.1≠X.env.locals/\p.1∉X.fs/\∀v,p.2.data≠.cell v
 hok:o8 X.prog X.w H s.heap
 len:σ.length=X.N.length
section
variable {X:Cx} {pins:List (Addr×Obj)} {σ:List (Option V)} {H H':Hp} {s:Shared} {h':Heap}
theorem Cx.Ok.YE(ok:X.Ok)(e:X.base.get? b=some o):b∉X.fs:=λhb=>by
 have:=(ok.sd.mem hb).1;rw[e]at this;cases this
theorem Inv.bs(I:Inv X pins σ H s):∀b o,X.base.get? b=some o->s.heap.get? b=some o/\H b=none:=λb o e=>
 ⟨I.base.keep b o (I.ok.bs b o e).1 (I.ok.bs b o e).2 (I.ok.YE e) (I.ok.o9 b o e),I.base.free b o (I.ok.bs b o e).1 (I.ok.bs b o e).2 (I.ok.o9 b o e)⟩
theorem Inv.bk(I:Inv X pins σ H s):∀b o,X.base.get? b=some o->s.heap.get? b=some o:=λb o e=>(I.bs b o e).1
theorem Inv.mod(I:Inv X pins σ H s):Mod X.K X.mg X.base:=I.ok.mod
theorem Inv.sI(I:Inv X pins σ H s):X.K.In s.heap:=I.ok.mod.Uw.keeps I.bk
theorem Inv.lt(I:Inv X pins σ H s):X.env.locals<s.heap.objs.size:=let ⟨_,hn,_⟩:=I.loc;hn.lt
theorem Inv.sz(I:Inv X pins σ H s):X.s₀.heap.objs.size<=s.heap.objs.size:=aaN I.ok.above (le_of_lt I.lt)
theorem Inv.YF(I:Inv X pins σ H s)(h:s.heap.objs.size<=a):a∉X.fs:=λhb=>by
 obtain⟨_,o,ho,_⟩:=I.ok.sd.mem hb;exact absurd (aay (aav ho) (aaN I.sz h)) (abr _)
theorem Inv.cne(I:Inv X pins σ H s):∀x c,X.env.cells.lookup x=some c->c≠X.env.locals:=λx c e z=>by
 obtain⟨v,o,ho,hd⟩:=I.cell x c e;obtain⟨m,⟨o',es,ep,ho',hd',_⟩,_⟩:=I.loc;rw[z,ho']at ho;cases ho;rw[hd']at hd;cases hd
theorem Inv.sd(I:Inv X pins σ H s):s.heap.FunFrames X.base X.outer:=by
 have all:∀(l:List Env),(∀b∈frs l,b∈X.fs)->X.s₀.heap.FunFrames X.base l->s.heap.FunFrames X.base l:=by
  intro l
  induction l with
  |nil=>intro _ _;trivial
  |cons env r ih=>intro hs hl;obtain⟨hk,⟨L,o,hf,hn,ho,hd⟩,hr⟩:=hl;have hL:L∈X.fs:=hs L (by unfold frs;rw[List.filterMap_cons,hf];exact aam);obtain⟨sl,e⟩:=I.base.slot L o ho (I.ok.Py L hL) hL λz=>I.ok.Gf L z hL;exact⟨hk,⟨L,_,hf,hn,e,hd⟩,ih (λb hb=>hs b (by unfold frs;rw[List.filterMap_cons,hf];exact aal _ hb)) hr⟩
 exact all X.outer (λ_ hb=>hb) I.ok.sd
theorem Inv.stack(I:Inv X pins σ H s):s.heap.FunFrames X.base X.stack:=by
 rcases I.ok.stk with e|⟨e,hf⟩
 ·rw[e];exact I.sd
 ·rw[e];obtain⟨m,hn,_⟩:=I.loc;refine .cons (by rw[I.ok.kind];decide) hf hn ?_ I.sd;exact Heap.get?_none_of_le (aaN I.ok.OC I.ok.above)
theorem Inv.Bt(I:Inv X pins σ H s):∀b∈frs X.stack,b∈X.env.locals::X.fs:=λb hb=>by
 rcases I.ok.stk with e|⟨e,hf⟩
 ·rw[e]at hb;exact aal _ hb
 ·rw[e]at hb;unfold frs at hb;rw[List.filterMap_cons,hf]at hb;exact hb
theorem Inv.Cv(I:Inv X pins σ H s):∀b∈frs X.stack,H b=none:=λb hb=>by
 rcases aaz.mp (I.Bt b hb) with e|hb
 ·rw[e];exact I.free
 ·obtain⟨_,o,ho,_⟩:=I.ok.sd.mem hb;exact I.base.free b o ho (I.ok.Py b hb) λz=>I.ok.Gf b z hb
theorem Inv.step{g':Array GenState}{t':Nat}{d':Drawn}{ch:List Addr}(I:Inv X pins σ H s)
  (hch:∀b∈ch,(b∈X.ex\/X.s₀.heap.objs.size<=b)/\b≠X.env.locals/\(∀x c,X.env.cells.lookup x=some c->c≠b)/\∀p∈X.pn++pins,p.1≠b)
  (keep:∀b o,b≠X.env.locals->b∉X.fs->b∉ch->s.heap.get? b=some o->H b=none->h'.get? b=some o)
  (slot:∀b o,b≠X.env.locals->b∈X.fs->b∉ch->s.heap.get? b=some o->H b=none->∃sl,h'.get? b=some { o with slots:=sl }) (free:∀b o,b∉ch->s.heap.get? b=some o->H b=none->H' b=none)
  (there:∀b o,b∉ch->s.heap.get? b=some o->∃o',h'.get? b=some o')
  (tups:∀b xs,H b=some (.tup xs)->H' b=some (.tup xs)) (frzs:∀b o u,H b=some (.kg o u)->H' b=some (.kg o u)) (vt:∀b ps,H b=some (.tbl ps)->∃more,H' b=some (.tbl (ps++more)))
  (ns:∀m,s.heap.Ns X.env.locals m->h'.Ns X.env.locals m) (hok:o8 X.prog X.w H' h') (hg:AllBare g') :
  Inv X pins σ H' { s with heap:=h',gens:=g',drawn:=d',toks:=t' }:=by
 have neL:∀b o,X.s₀.heap.get? b=some o->b≠X.env.locals:=λb o e=>aaG (aay (aav e) I.ok.above);have neC:∀b o,X.s₀.heap.get? b=some o->b∉X.ex->b∉ch:=λb o e hx hb=>by
  rcases(hch b hb).1 with z|z
  ·exact hx z
  ·exact absurd (aay (aav e) z) (abr _)
 have cellK:∀x c,X.env.cells.lookup x=some c->∀v,s.heap.IsCell c v->h'.IsCell c v:=λx c e v ⟨o,ho,hd⟩=>by
  have Uy:c∉ch:=λz=>(hch c z).2.2.1 x c e rfl
  by_cases hc:c∈X.fs
  ·obtain⟨sl,q⟩:=slot c o (I.cne x c e) hc Uy ho (I.jH x c e);exact⟨_,q,hd⟩
  ·exact⟨o,keep c o (I.cne x c e) hc Uy ho (I.jH x c e),hd⟩
 refine⟨I.ok,I.os,hg,⟨λb o e n hb hx=>?_,λb o e n hb hx=>?_,λb o e n hx=>?_,λb o e hx=>?_,λb xs e=>tups b xs (I.base.tups b xs e),λb o xs e=>frzs b o xs (I.base.frzs b o xs e),λb ps e=>?_⟩,?_,λx c e=>?_,?_,λx c e=>?_,λp hp=>?_,hok,I.len⟩
 ·exact keep b o (neL b o e) hb (neC b o e hx) (I.base.keep b o e n hb hx) (I.base.free b o e n hx)
 ·obtain⟨sl,e1⟩:=I.base.slot b o e n hb hx;obtain⟨sl',e2⟩:=slot b _ (neL b o e) hb (neC b o e hx) e1 (I.base.free b o e n hx);exact⟨sl',e2⟩
 ·obtain⟨o',e1⟩:=I.base.there b o e hx;exact free b o' (neC b o e hx) e1 (I.base.free b o e n hx)
 ·obtain⟨o',e1⟩:=I.base.there b o e hx;exact there b o' (neC b o e hx) e1
 ·obtain⟨m1,e1⟩:=I.base.vt b ps e;obtain⟨m2,e2⟩:=vt b _ e1;exact⟨m1++m2,by rw[e2,Array.append_assoc]⟩
 ·obtain⟨m,hn,hl⟩:=I.loc
  refine⟨m,ns m hn,λi x v e1 e2 e3=>?_⟩;obtain⟨u,r,l⟩:=hl i x v e1 e2 e3;refine⟨u,r,?_⟩
  rcases l with l|⟨k,c,e,z⟩
  ·exact .inl l
  ·exact .inr ⟨k,c,e,cellK x c e _ z⟩
 ·obtain⟨v,z⟩:=I.cell x c e;exact⟨v,cellK x c e v z⟩
 ·obtain⟨m,⟨o,_,_,ho,_⟩,_⟩:=I.loc;exact free _ o (λz=>(hch _ z).2.1 rfl) ho I.free
 ·obtain⟨v,o,ho,hd⟩:=I.cell x c e;exact free c o (λz=>(hch c z).2.2.1 x c e rfl) ho (I.jH x c e)
 ·obtain⟨e,n,ne,nf,d⟩:=I.pin p hp;have Uy:p.1∉ch:=λz=>(hch p.1 z).2.2.2 p hp rfl;exact⟨keep p.1 p.2 ne nf Uy e n,free p.1 p.2 Uy e n,ne,nf,d⟩
theorem Inv.un{t':Nat}(I:Inv X pins σ H s)(u:Un X.fs [] H H' s.heap h')(hok:o8 X.prog X.w H' h'):Inv X pins σ H' { s with heap:=h',toks:=t' }:=by
 obtain⟨m,⟨o,es,ep,ho,r⟩,_⟩:=id I.loc;obtain⟨sl,hL⟩:=u.any ho I.free (by simp);exact I.step (g':=s.gens) (d':=s.drawn) (ch:=[]) (λ_ z=>nomatch z) (λb o _ hb _ e n=>u.keep b o e n hb (by simp)) (λb o _ hb _ e n=>u.slot b o e n hb (by simp)) (λb o _ e n=>u.free b o e n (by simp)) (λb o _ e=>u.there b o e (by simp)) u.tups u.frzs u.vt (λm' hm=>by
  obtain⟨o',es',YG,ho',r'⟩:=hm;rw[ho]at ho';cases ho';exact⟨_,es',YG,hL,r'⟩) hok I.bare
theorem Inv.call{t':Nat}(I:Inv X pins σ H s)(u:Un (frs X.stack) ch H H' s.heap h')(hok:o8 X.prog X.w H' h')(hg:AllBare g')
  (hch:∀b∈ch,(b∈X.ex\/X.s₀.heap.objs.size<=b)/\b≠X.env.locals/\(∀x c,X.env.cells.lookup x=some c->c≠b)/\∀p∈X.pn++pins,p.1≠b) :
  Inv X pins σ H' { s with heap:=h',gens:=g',drawn:=d',toks:=t' }:=by
 obtain⟨m,⟨o,es,ep,ho,r⟩,_⟩:=id I.loc;obtain⟨sl,hL⟩:=u.any ho I.free λz=>(hch _ z).2.1 rfl;exact I.step (ch:=ch) hch (λb o hL hb hc e n=>u.keep b o e n (λz=>(aaz.mp (I.Bt b z)).elim hL hb) hc) (λb o _ _ hc e n=>u.any e n hc) (λb o hc e n=>u.free b o e n hc) (λb o hc e=>u.there b o e hc) u.tups u.frzs u.vt (λm' hm=>by
  obtain⟨o',es',YG,ho',r'⟩:=hm;rw[ho]at ho';cases ho';exact⟨_,es',YG,hL,r'⟩) hok hg
theorem Inv.turned{t':Nat}(I:Inv X pins σ H s)(k:∀b o,b≠it->s.heap.get? b=some o->h'.get? b=some o)(hn:H it=none)(hL:it≠X.env.locals)
  (h1:it∈X.ex\/X.s₀.heap.objs.size<=it) (h2:∀x c,X.env.cells.lookup x=some c->c≠it) (h3:∀p∈X.pn++pins,p.1≠it):Inv X pins σ H { s with heap:=h',toks:=t' }:=by
 have Uz:∀b u,H b=some u->b≠it:=λb u e z=>by rw[z,hn]at e;cases e
 refine I.step (g':=s.gens) (d':=s.drawn) (ch:=[it]) (λb hb=>?_) (λb o _ _ hc e _=>k b o (λz=>hc (by simp[z])) e) (λb o _ _ hc e _=>⟨o.slots,k b o (λz=>hc (by simp[z])) e⟩) (λ_ _ _ _ n=>n)
  (λb o hc e=>⟨o,k b o (λz=>hc (by simp[z])) e⟩) (λ_ _ e=>e) (λ_ _ _ e=>e) (λb ps e=>⟨#[],by rw[e];simp⟩) (λm hm=>?_) (λb u e=>?_) I.bare
 ·have e:b=it:=by simpa using hb
  subst e;exact⟨h1,hL,h2,h3⟩
 ·obtain⟨o,es,ep,ho,r⟩:=hm;exact⟨o,es,ep,k _ o (Ne.symm hL) ho,r⟩
 ·refine(I.hok b u e).stay (λc v hc q=>k c v ?_ q) (λ_ q=>q) λ_ _ q=>q
  rcases hc with z|z
  ·rw[z];exact Uz b u e
  ·exact Uz c _ z
theorem Inv.tok(I:Inv X pins σ H s)(t:Nat):Inv X pins σ H { s with toks:=t }:=I.un (h':=s.heap) (t':=t) Un.refl I.hok
theorem Inv.kept{t':Nat}(I:Inv X pins σ H s)(k:∀b u,s.heap.get? b=some u->h'.get? b=some u):Inv X pins σ H { s with heap:=h',toks:=t' }:=I.un (Un.kept k) (I.hok.kept k)
theorem Inv.laid{t':Nat}(I:Inv X pins σ H s)(k:∀b u,s.heap.get? b=some u->h'.get? b=some u)(hp:s.heap.objs.size<=a)(new:cj X.prog X.w (upd H a o) h' a o) :
  Inv X pins σ (upd H a o) { s with heap:=h',toks:=t' }:=I.un (Un.laid k hp (I.hok.fresh hp)) (I.hok.laid k hp new)
theorem Inv.write{t':Nat}(I:Inv X pins σ H s)(mu:Uv (H x))(he:e=x\/H e=some (.own x))(k:∀b u,b≠e->s.heap.get? b=some u->h'.get? b=some u)(Ub:∃u,h'.get? e=some u)
  (new:cj X.prog X.w (upd H x o) h' x o):Inv X pins σ (upd H x o) { s with heap:=h',toks:=t' }:=I.un (Un.write mu he k Ub) (I.hok.write mu he k Ub new)
theorem Inv.Cw(I:Inv X pins σ H s)(h:∀p∈UA,s.heap.get? p.1=some p.2/\H p.1=none/\p.1≠X.env.locals/\p.1∉X.fs/\∀v,p.2.data≠.cell v):Inv X UA σ H s :=
 ⟨I.ok,I.os,I.bare,I.base,I.loc,I.cell,I.free,I.jH,λp hp=>(aaT.mp hp).elim (λz=>I.pin p (aaX _ z)) (h p),I.hok,I.len⟩
theorem ze{N:List Str}(hN:N.Nodup){i j:Nat}{x:Str}(a:N[i]?=some x)(b:N[j]?=some x):i=j:=by
 obtain⟨h1,e1⟩:=aao.mp a;obtain⟨h2,e2⟩:=aao.mp b;exact(List.getElem_inj hN).mp (e1.trans e2.symm)
theorem vZ{i:Nat}(I:Inv X pins σ H s)(hN:X.N.Nodup)(hi:X.N[i]?=some x)(hx:Loc X.env.scope x)(r:RelV v u)
  (h:∀s',Inv X pins (σ.set i (some v)) H s'->(∃a,Heap.SameBut a s.heap s'.heap/\(a=X.env.locals\/X.env.cells.lookup x=some a))->Q () s') (hf:X.fn x=true\/X.env.scope.names.lookup x=some .local):wpAny M A (storeName X.env x u) Q E s:=by
 obtain⟨m,hn,hl⟩:=id I.loc;have hcls:(X.env.scope.kind==.class||(X.env.scope.kind==.module&&X.env.locals != X.env.globals))=false:=by rw[I.ok.kind];rfl
 have hiσ:i < σ.length:=by rw[I.len];exact(aao.mp hi).1
 have cne:=I.cne;have tracked:∀{a:Addr} {h':Heap},(∃o,s.heap.get? a=some o/\H a=none)->Heap.SameBut a s.heap h'->o8 X.prog X.w H h':=λ{a h'} ha hs b ob e=>by
  obtain⟨_,_,hfree⟩:=ha;refine(I.hok b ob e).stay (λc w' hc q=>(hs.2 c ?_).trans q) (λ_ q=>q) λ_ _ q=>q;rintro rfl
  rcases hc with rfl|hc
  ·rw[hfree]at e;cases e
  ·rw[hfree]at hc;cases hc
 rcases hx with hk|hk
 ·refine wpAny_storeName_local hk hn (λh' hn' hs=>?_) hcls
  obtain⟨oL,_,_,hoL,_⟩:=id hn;refine h _ ⟨I.ok,I.os,I.bare,⟨λb o e n hb hx=>?_,λb o e n hb hx=>?_,I.base.free,λb o e hx=>?_,I.base.tups,I.base.frzs,I.base.vt⟩,⟨_,hn',λj y v' e1 e2 e3=>?_⟩,λy c e=>?_,I.free,I.jH,λp hp=>?_,tracked ⟨oL,hoL,I.free⟩ hs,by simpa using I.len⟩ ⟨_,hs,.inl rfl⟩
  ·exact(hs.2 b (aaG (aay (aav e) I.ok.above))).trans (I.base.keep b o e n hb hx)
  ·obtain⟨sl,e1⟩:=I.base.slot b o e n hb hx;exact⟨sl,(hs.2 b (aaG (aay (aav e) I.ok.above))).trans e1⟩
  ·obtain⟨o',e1⟩:=I.base.there b o e hx;exact⟨o',(hs.2 b (aaG (aay (aav e) I.ok.above))).trans e1⟩
  ·by_cases hj:j=i
   ·subst hj;rw[hi]at e1;cases e1;rw[aat hiσ]at e2;cases e2;exact⟨u,r,.inl ⟨hk,by simp⟩⟩
   ·rw[aan (Ne.symm hj)]at e2
    obtain⟨u',r',q⟩:=hl j y v' e1 e2 e3;refine⟨u',r',?_⟩
    rcases q with ⟨k,e⟩|⟨k,c,e,z⟩
    ·refine .inl ⟨k,?_⟩;have:y≠x:=λe=>hj (ze hN e1 (e▸hi));simp[this,e]
    ·exact .inr ⟨k,c,e,z.sameBut hs (cne y c e)⟩
  ·obtain⟨w',z⟩:=I.cell y c e;exact⟨w',z.sameBut hs (cne y c e)⟩
  ·obtain⟨e,n,ne,nf,d⟩:=I.pin p hp;exact⟨(hs.2 p.1 ne).trans e,n,ne,nf,d⟩
 ·have hfn:X.fn x=true:=by
   rcases hf with z|z
   ·exact z
   ·rw[z]at hk;cases hk
  obtain⟨c,hc⟩:=I.ok.has x (.inl hk);obtain⟨w',z⟩:=I.cell x c hc;refine wpAny_storeName_cell I.ok.kind hk hc z (λh' hc' hs=>?_);obtain⟨oc,hoc,Gg⟩:=id z;refine h { s with heap:=h' } ⟨I.ok,I.os,I.bare,⟨λb o e n hb hx=>?_,λb o e n hb hx=>?_,I.base.free,λb o e hx=>?_,I.base.tups,I.base.frzs,I.base.vt⟩,⟨m,hn.sameBut hs (Ne.symm (cne x c hc)),λj y v' e1 e2 e3=>?_⟩,λy c' e=>?_,I.free,I.jH,λp hp=>?_,tracked ⟨oc,hoc,I.jH x c hc⟩ hs,by simpa using I.len⟩ ⟨c,hs,.inr hc⟩
  ·exact(hs.2 b (aaG (aay (aav e) (I.ok.Ux x c hfn hc)))).trans (I.base.keep b o e n hb hx)
  ·obtain⟨sl,e1⟩:=I.base.slot b o e n hb hx;exact⟨sl,(hs.2 b (aaG (aay (aav e) (I.ok.Ux x c hfn hc)))).trans e1⟩
  ·obtain⟨o',e1⟩:=I.base.there b o e hx;exact⟨o',(hs.2 b (aaG (aay (aav e) (I.ok.Ux x c hfn hc)))).trans e1⟩
  ·by_cases hj:j=i
   ·subst hj;rw[hi]at e1;cases e1;rw[aat hiσ]at e2;cases e2;exact⟨u,r,.inr ⟨.inl hk,c,hc,hc'⟩⟩
   ·rw[aan (Ne.symm hj)]at e2
    obtain⟨u',r',q⟩:=hl j y v' e1 e2 e3;refine⟨u',r',?_⟩
    rcases q with q|⟨k,c',e,z'⟩
    ·exact .inl q
    ·refine .inr ⟨k,c',e,z'.sameBut hs ?_⟩;rintro rfl;exact hj (ze hN e1 (I.ok.inj _ _ _ e hc▸hi))
  ·by_cases hcc:c'=c
   ·subst hcc;exact⟨_,hc'⟩
   ·obtain⟨w2,z2⟩:=I.cell y c' e;exact⟨w2,z2.sameBut hs hcc⟩
  ·obtain⟨e,n,ne,nf,d⟩:=I.pin p hp;refine⟨(hs.2 p.1 ?_).trans e,n,ne,nf,d⟩;intro q;rw[q,hoc]at e;have q':oc=p.2:=aaQ e;exact d w' (by rw[<-q'];exact Gg)
theorem zf{i:Nat}(I:Inv X pins σ H s)(hN:X.N.Nodup)(hi:X.N[i]?=some x)(hx:Loc X.env.scope x)(r:RelV v u)
  (h:∀s',Inv X pins (σ.set i (some v)) H s'->Q () s') (hf:X.fn x=true\/X.env.scope.names.lookup x=some .local):wpAny M A (storeName X.env x u) Q E s :=
 vZ I hN hi hx r (λs' I' _=>h s' I') hf
theorem Inv.UB(I:Inv X pins σ H s)(ho:s'.os=s.os)(u:Un (frs X.stack) ch H H' s.heap s'.heap)(hok:o8 X.prog X.w H' s'.heap)(hg:AllBare s'.gens)
  (hch:∀b∈ch,(b∈X.ex\/X.s₀.heap.objs.size<=b)/\b≠X.env.locals/\(∀x c,X.env.cells.lookup x=some c->c≠b)/\∀p∈X.pn++pins,p.1≠b):Inv X pins σ H' s':=by
 obtain⟨h',g',d',t',o'⟩:=s';have e:o'=s.os:=ho;subst e;exact I.call (g':=g') (t':=t') (d':=d') u hok hg hch
end
abbrev XK:=Value->Option Addr->Hp->Prop
abbrev St:=List (Option V)
abbrev VK:=V->Hp->Prop
abbrev TE:=St->Hp->VK->Prop
abbrev TT:=St->Hp->(Bool->Hp->Prop)->Prop
abbrev TA:=St->Hp->(List V->Hp->Prop)->Prop
structure Ends where
 nx:St->Hp->Prop
 rt:VK
 bk:St->Hp->Prop:=λ_ _=>False
 ct:St->Hp->Prop:=λ_ _=>False
abbrev TS:=Ends->St->Hp->Prop
def EP(X:Cx)(pins:List (Addr×Obj))(σ:St)(Q:VK)(u:Value)(s':Shared):Prop:=∃v H',Inv X pins σ H' s'/\RelV v u/\Q v H'
def TP(X:Cx)(pins:List (Addr×Obj))(σ:St)(Q:Bool->Hp->Prop)(b:Bool)(s':Shared):Prop:=∃H',Inv X pins σ H' s'/\Q b H'
def AP(X:Cx)(pins:List (Addr×Obj))(σ:St)(Q:List V->Hp->Prop)(us:List Value)(s':Shared):Prop:=∃vs H',Inv X pins σ H' s'/\Vals vs us/\Q vs H'
def SP(X:Cx)(pins:List (Addr×Obj))(D:Ends)(f:Flow)(s':Shared):Prop :=
 match f with
 |.next=>∃σ' H',Inv X pins σ' H' s'/\D.nx σ' H'
 |.brk=>∃σ' H',Inv X pins σ' H' s'/\D.bk σ' H'
 |.cont=>∃σ' H',Inv X pins σ' H' s'/\D.ct σ' H'
 |.ret u=>∃v σ' H',Inv X pins σ' H' s'/\RelV v u/\D.rt v H'
def PE(X:Cx)(e:Expr)(t:TE):Prop :=
 ∀(pins:List (Addr×Obj)) (s:Shared) (σ:St) (H:Hp) (Q:VK),Inv X pins σ H s->t σ H Q->wpAny (model X.prog X.w) X.A (eval e X.env) (EP X pins σ Q) X.xe s
def PT(X:Cx)(e:Expr)(t:TT):Prop :=
 ∀(pins:List (Addr×Obj)) (s:Shared) (σ:St) (H:Hp) (Q:Bool->Hp->Prop),Inv X pins σ H s->t σ H Q->wpAny (model X.prog X.w) X.A (isTrue e X.env (eval e X.env)) (TP X pins σ Q) X.xe s
def PW(X:Cx)(e:Expr)(t:TT):Prop :=
 ∀(whole:Sem Value) (pins:List (Addr×Obj)) (s:Shared) (σ:St) (H:Hp) (Q:Bool->Hp->Prop),Inv X pins σ H s->t σ H Q->wpAny (model X.prog X.w) X.A (isTrue e X.env whole) (TP X pins σ Q) X.xe s
theorem PW.pt(h:PW X e t):PT X e t:=h _
def PA(X:Cx)(es:List Expr)(t:TA):Prop :=
 ∀(pos:Pos) (pins:List (Addr×Obj)) (s:Shared) (σ:St) (H:Hp) (Q:List V->Hp->Prop),Inv X pins σ H s->t σ H Q->wpAny (model X.prog X.w) X.A (spliced (backTo pos (starEach es X.env))) (AP X pins σ Q) X.xe s
def PS(X:Cx)(st:Stmt)(t:TS):Prop :=
 ∀(pins:List (Addr×Obj)) (s:Shared) (σ:St) (H:Hp) (D:Ends),Inv X pins σ H s->t D σ H->wpAny (model X.prog X.w) X.A (exec st X.env) (SP X pins D) X.xe s
def Bu(X:Cx)(st:List Stmt)(t:TS):Prop :=
 ∀(pins:List (Addr×Obj)) (s:Shared) (σ:St) (H:Hp) (D:Ends),Inv X pins σ H s->t D σ H->wpAny (model X.prog X.w) X.A (execs st X.env) (SP X pins D) X.xe s
theorem cO{α:Type}{t:Sem α}{Q Q':α -> Shared->Prop}(h:wpAny M A t Q E s)(hQ:∀a s,Q a s->Q' a s):wpAny M A t Q' E s:=abb h hQ λ_ _ x=>x
section
variable {X:Cx}
theorem bin{a b:Expr}{ta tb:TE}(ha:PE X a ta)(hb:PE X b tb){pins:List (Addr×Obj)}{s:Shared}{σ:St}{H:Hp}{R:V->V->Hp->Prop}(I:Inv X pins σ H s)(h:ta σ H λx H1=>tb σ H1 λy H2=>R x y H2)
  {α:Type} {Q:α -> Shared->Prop} {f:Value->Value->Sem α}
  (hf:∀v u s2 x y H2,Inv X pins σ H2 s2->RelV x v->RelV y u->R x y H2->wpAny (model X.prog X.w) X.A (f v u) Q X.xe s2) :
  wpAny (model X.prog X.w) X.A (eval a X.env) (λv s₁=>wpAny (model X.prog X.w) X.A (eval b X.env) (λu s₂=>wpAny (model X.prog X.w) X.A (f v u) Q X.xe s₂) X.xe s₁) X.xe s:=by
 refine cO (ha pins s σ H _ I h) λv s1 aS=>?_;obtain⟨x,H1,I1,r1,q1⟩:=aS;refine cO (hb pins s1 σ H1 _ I1 q1) λu s2 aS=>?_;obtain⟨y,H2,I2,r2,q2⟩:=aS;exact hf v u s2 x y H2 I2 r1 r2 q2
def zg(i:Nat):TE:=λσ H Q=>∃v,σ[i]?=some (some v)/\Q v H
def tC(v:V):TE:=λ_ H Q=>Q v H
theorem Bv{i:Nat}(hN:X.N[i]?=some x)(hv:X3 X.env.scope x)(hd:(x==("__debug__":Str))=false)(hcd:(x==("__classdict__":Str))=false):PE X (.Name x pos) (zg i):=by
 intro pins s σ H Q I h;obtain⟨v,e,h⟩:=h;obtain⟨m,hn,hl⟩:=I.loc;obtain⟨u,r,l⟩:=hl i x v hN e hv;have fin:EP X pins σ Q u s:=⟨v,H,I,r,h⟩
 rcases l with ⟨hk,hm⟩|⟨hk,c,hc,hcell⟩
 ·exact wpAny_Name (wpAny_loadName_local I.ok.kind hk hn hm fin) hd
 ·rcases hk with hk|hk
  ·exact wpAny_Name (wpAny_loadName_cell I.ok.kind hk hc hcell fin) hd
  ·exact wpAny_Name (wpAny_loadName_free I.ok.kind hk hc hcell fin hcd) hd
theorem Pz{i j pos}:PE X (.Constant (.int i) j pos) (tC (.int i)):=λ_ _ _ H _ I h=>wpAny_Constant_int ⟨.int i,H,I.tok _,⟨_,rfl⟩,h⟩
theorem UC{b j pos}:PE X (.Constant (.bool b) j pos) (tC (.bl b)):=λ_ _ _ H _ I h=>Constant_bool ⟨.bl b,H,I,rfl,h⟩
theorem PB{j pos}:PE X (.Constant .none j pos) (tC .non):=λ_ _ _ H _ I h=>Constant_none ⟨.non,H,I,rfl,h⟩
theorem PC{x j pos}:PE X (.Constant (.str x) j pos) (tC (.str x)):=λ_ _ _ H _ I h=>Calls.Constant_str ⟨.str x,H,I.tok _,⟨_,rfl⟩,h⟩
def Gl(X:Cx)(x:Str):Prop:=X.env.kindOf x=some .globalImplicit
theorem pe(I:Inv X pins σ H s)(hg:Gl X x)(hm:X.mg x=some u)(h:Q u s)
  (hd:(x==("__debug__":Str))=false):wpAny (model X.prog X.w) X.A (eval (.Name x pos) X.env) Q E s :=
 Calls.Name_function_global I.ok.kind hg (Calls.loadGlobal_global (by rw[I.ok.glob];exact I.mod.glob.keeps I.bk) hm h) hd
theorem iW(I:Inv X pins σ H s)(hg:Gl X x)(hm:X.mg x=none)(hv:bootBuiltins x=some u)(h:Q u s)
  (hn:x ≠ "__name__":=by decide) (hd:(x==("__debug__":Str))=false:=by decide):wpAny (model X.prog X.w) X.A (eval (.Name x pos) X.env) Q E s:=by
 obtain⟨mb,h1,h2⟩:=I.mod.blt;exact Calls.Name_function_global I.ok.kind hg (Calls.loadGlobal_builtin (by rw[I.ok.glob];exact I.mod.glob.keeps I.bk) hm (by rw[I.ok.blt];exact h1.keeps I.bk) ((h2 x hn).trans hv) h) hd
theorem LR(hg:Gl X x)(hm:X.mg x=some u)(r:RelV v u)(hd:(x==("__debug__":Str))=false):PE X (.Name x pos) (tC v) :=
 λ_ _ _ H _ I h=>pe I hg hm ⟨v,H,I,r,h⟩ hd
theorem LS(hg:Gl X x)(hm:X.mg x=none)(hv:bootBuiltins x=some u)(r:RelV v u)(hn:x ≠ "__name__")(hd:(x==("__debug__":Str))=false):PE X (.Name x pos) (tC v) :=
 λ_ _ _ H _ I h=>iW I hg hm hv ⟨v,H,I,r,h⟩ hn hd
variable {a b:Expr} {ta tb:TE} {pos:Pos}
variable {tA X4:TT} {rest:List Expr}
def YH(t u:TT):TT:=λσ H Q=>t σ H λc H1=>if c=true then u σ H1 Q else Q false H1
def tOr(t u:TT):TT:=λσ H Q=>t σ H λc H1=>if c=true then Q true H1 else u σ H1 Q
def YI(t:TT):TT:=λσ H Q=>t σ H λc H1=>Q (!c) H1
theorem LU(ha:PT X a tA):PW X (.BoolOp .And [a] pos) tA:=by
 intro wh pins s σ H Q I h;refine isTrue_and (cO (ha pins s σ H Q I h) λc s1 e=>?_);cases c with
 |true=>exact isTrue_and_nil e
 |false=>exact e
theorem PD(ha:PT X a tA):PW X (.BoolOp .Or [a] pos) tA:=by
 intro wh pins s σ H Q I h;refine isTrue_or (cO (ha pins s σ H Q I h) λc s1 e=>?_);cases c with
 |false=>exact isTrue_or_nil e
 |true=>exact e
theorem PF(ha:PT X a tA)(hb:PW X (.BoolOp .And (b::rest) pos) X4):PW X (.BoolOp .And (a::b::rest) pos) (YH tA X4):=by
 intro wh pins s σ H Q I h;refine isTrue_and (cO (ha pins s σ H _ I h) λc s1 aS=>?_);obtain⟨H1,I1,q1⟩:=aS;cases c with
 |true=>exact hb wh pins s1 σ H1 Q I1 q1
 |false=>exact⟨H1,I1,q1⟩
theorem UD(ha:PT X a tA)(hb:PW X (.BoolOp .Or (b::rest) pos) X4):PW X (.BoolOp .Or (a::b::rest) pos) (tOr tA X4):=by
 intro wh pins s σ H Q I h;refine isTrue_or (cO (ha pins s σ H _ I h) λc s1 aS=>?_);obtain⟨H1,I1,q1⟩:=aS;cases c with
 |true=>exact⟨H1,I1,q1⟩
 |false=>exact hb wh pins s1 σ H1 Q I1 q1
theorem PJ(ha:PT X a tA):PT X (.UnaryOp .Not a pos) (YI tA):=by
 intro pins s σ H Q I h;exact isTrue_not (ha pins s σ H (λc H1=>Q (!c) H1) I h)
def UE(ta tb:TE):TE:=λσ H Q=>ta σ H λx H1=>∃c,x=.bl c/\if c=true then tb σ H1 Q else Q (.bl false) H1
def YJ(ta tb:TE):TE:=λσ H Q=>ta σ H λx H1=>∃c,x=.bl c/\if c=true then Q (.bl true) H1 else tb σ H1 Q
theorem Gh{op}(h:PE X a t):PE X (.BoolOp op [a] pos) t:=λpins s σ H Q I hw=>BoolOp_one (h pins s σ H Q I hw)
theorem PK(ha:PE X a ta)(hb:PE X (.BoolOp .And (b::rest) pos) tb):PE X (.BoolOp .And (a::b::rest) pos) (UE ta tb):=by
 intro pins s σ H Q I h;refine BoolOp_and (cO (ha pins s σ H _ I h) λv s1 aS=>?_);obtain⟨x,H1,I1,r1,q1⟩:=aS;obtain⟨c,rfl,q1⟩:=q1;cases r1;refine wpAny_truthy_bool ?_;cases c with
 |true=>exact hb pins s1 σ H1 Q I1 q1
 |false=>exact⟨.bl false,H1,I1,rfl,q1⟩
theorem UG(ha:PE X a ta)(hb:PE X (.BoolOp .Or (b::rest) pos) tb):PE X (.BoolOp .Or (a::b::rest) pos) (YJ ta tb):=by
 intro pins s σ H Q I h;refine BoolOp_or (cO (ha pins s σ H _ I h) λv s1 aS=>?_);obtain⟨x,H1,I1,r1,q1⟩:=aS;obtain⟨c,rfl,q1⟩:=q1;cases r1;refine wpAny_truthy_bool ?_;cases c with
 |false=>exact hb pins s1 σ H1 Q I1 q1
 |true=>exact⟨.bl true,H1,I1,rfl,q1⟩
end
def iD(K:Frag)(H:Hp)(a:Addr)(xs:List V):Prop :=
 Rd H a (.lst xs) \/
  ∃(o:Obj) (its:Array Value) (n:Nat),K.lookup a=some o/\o.cls=.type "list" /\ o.dict=none/\o.data=.seq its n/\its.size<=sizeLine/\Vals xs its.toList
def mh(K:Frag)(H:Hp)(a:Addr)(xs:List V):Prop :=
 Rd H a (.tup xs) \/
  ∃(o:Obj) (its:Array Value) (n:Nat),K.lookup a=some o/\o.cls=.type "tuple" /\ o.data=.seq its n/\its.size<=sizeLine/\Vals xs its.toList
def YK:Value->Option V
 |.none=>some .non
 |.bool b=>some (.bl b)
 |.int i _=>some (.int i)
 |.str x _=>some (.str x)
 |.bytes b _=>some (.byt b)
 |.float b _=>some (.flt b)
 |.ref a=>some (.ref a)
 |.type n=>some (.ty n)
 |_=>none
theorem RelV.abs(r:RelV x u):YK u=some x:=by
 cases x with
 |non=>cases r;rfl
 |bl _=>cases r;rfl
 |int _=>obtain⟨t,rfl⟩:=r;rfl
 |str _=>obtain⟨t,rfl⟩:=r;rfl
 |byt _=>obtain⟨t,rfl⟩:=r;rfl
 |flt _=>obtain⟨t,rfl⟩:=r;rfl
 |ref _=>cases r;rfl
 |ty _=>cases r;rfl
theorem RelV.inj(r:RelV x u)(q:RelV y u):x=y:=aaQ (r.abs.symm.trans q.abs)
theorem Vals.inj:∀{xs ys:List V} {us:List Value},Vals xs us->Vals ys us->xs=ys
 |_,_,_,.nil,.nil=>rfl
 |_,_,_,.cons r t,.cons r' t'=>by rw[r.inj r',Vals.inj t t']
section
variable {X:Cx} {pins:List (Addr×Obj)} {σ:St} {H:Hp} {s:Shared} {a:Addr} {xs ys:List V}
theorem mh.of{K:Frag}(h:H a=some (.tup xs)):mh K H a xs:=.inl (.inl h)
theorem Inv.list(I:Inv X pins σ H s)(h:iD X.K H a xs):∃its:List Value,Vals xs its/\PlainL s.heap a its.toArray/\xs.length<=sizeLine:=by
 rcases h with h|⟨o,its,n,hk,hc,hd,hs,hz,r⟩
 ·obtain⟨z,its,n,r,e⟩:=h.ok I.hok;exact⟨its,r,⟨_,n,e,rfl,rfl,rfl⟩,z⟩
 ·refine⟨its.toList,r,⟨o,n,I.sI a o hk,hc,hd,by simpa using hs⟩,?_⟩;have e:=r.length;simp only[Array.length_toList]at e;omega
theorem Inv.tuple(I:Inv X pins σ H s)(h:mh X.K H a xs):∃its:List Value,Vals xs its/\IsTup s.heap a its.toArray/\xs.length<=sizeLine:=by
 rcases h with h|⟨o,its,n,hk,hc,hs,hz,r⟩
 ·obtain⟨z,its,r,p⟩:=h.ok I.hok;exact⟨its,r,p,z⟩
 ·refine⟨its.toList,r,⟨o,I.sI a o hk,hc,n,by simpa using hs⟩,?_⟩;have e:=r.length;simp only[Array.length_toList]at e;omega
theorem Inv.tG(I:Inv X pins σ H s)(h:iD X.K H a xs)(h':iD X.K H a ys):xs=ys:=by
 obtain⟨its,r,⟨o,n,e,_,_,d⟩,_⟩:=I.list h;obtain⟨its',r',⟨o',n',e',_,_,d'⟩,_⟩:=I.list h';rw[e]at e';cases e';rw[d]at d';injection d' with d1 _
 have:its=its':=by simpa using aa2 toList d1
 subst this;exact r.inj r'
theorem Inv.Ek(I:Inv X pins σ H s)(h:mh X.K H a xs)(h':mh X.K H a ys):xs=ys:=by
 obtain⟨its,r,⟨o,e,_,n,d⟩,_⟩:=I.tuple h;obtain⟨its',r',⟨o',e',_,n',d'⟩,_⟩:=I.tuple h';rw[e]at e';cases e';rw[d]at d';injection d' with d1 _
 have:its=its':=by simpa using aa2 toList d1
 subst this;exact r.inj r'
end
abbrev Cx.vv(X:Cx)(E:Value->Shared->Prop):Cx:={ X with xe:=E }
abbrev Cx.UH(X:Cx):Cx:=X.vv λ_ _=>False
theorem Cx.Ok.vv{X:Cx}(ok:X.Ok)(E:Value->Shared->Prop):(X.vv E).Ok :=
 ⟨ok.mod,ok.kind,ok.glob,ok.blt,ok.above,ok.inj,ok.has,ok.Ux,ok.hd,ok.frames,ok.stk,ok.YD,ok.bs,ok.OC,ok.o9,ok.Gf,ok.sd,ok.Py⟩
theorem Cx.Ok.mj{X:Cx}{E:Value->Shared->Prop}(ok:(X.vv E).Ok):X.Ok :=
 ⟨ok.mod,ok.kind,ok.glob,ok.blt,ok.above,ok.inj,ok.has,ok.Ux,ok.hd,ok.frames,ok.stk,ok.YD,ok.bs,ok.OC,ok.o9,ok.Gf,ok.sd,ok.Py⟩
section
variable {X:Cx} {pins:List (Addr×Obj)} {σ:St} {H:Hp} {s:Shared} {E:Value->Shared->Prop}
theorem Inv.vv(I:Inv X pins σ H s)(E:Value->Shared->Prop):Inv (X.vv E) pins σ H s:=⟨I.ok.vv E,I.os,I.bare,I.base,I.loc,I.cell,I.free,I.jH,I.pin,I.hok,I.len⟩
theorem Inv.mj(I:Inv (X.vv E) pins σ H s):Inv X pins σ H s:=⟨I.ok.mj,I.os,I.bare,I.base,I.loc,I.cell,I.free,I.jH,I.pin,I.hok,I.len⟩
theorem SP.mj(h:SP (X.vv E) pins D f s'):SP X pins D f s':=by
 cases f with
 |next=>obtain⟨σ',H',I,q⟩:=h;exact⟨σ',H',I.mj,q⟩
 |brk=>obtain⟨σ',H',I,q⟩:=h;exact⟨σ',H',I.mj,q⟩
 |cont=>obtain⟨σ',H',I,q⟩:=h;exact⟨σ',H',I.mj,q⟩
 |ret u=>obtain⟨v,σ',H',I,r,q⟩:=h;exact⟨v,σ',H',I.mj,r,q⟩
theorem Bu.UH{st:List Stmt}{t:TS}(h:Bu X.UH st t):Bu X st t:=λpins s σ H D I hw=>
 abb (h pins s σ H D (I.vv _) hw) (λ_ _ q=>q.mj) λ_ _ z=>False.elim z
end
section
variable {X:Cx} {st:Stmt} {rest:List Stmt} {t u:TS} {e:Expr} {te:TE} {pos:Pos}
def Gi:TS:=λD σ H=>D.nx σ H
def YL(t u:TS):TS:=λD σ H=>t { D with nx:=u D } σ H
theorem LV:Bu X [] Gi:=λ_ _ σ H _ I h=>wpAny_execs_nil ⟨σ,H,I,h⟩
theorem Gj(h1:PS X st t)(h2:Bu X rest u):Bu X (st::rest) (YL t u):=by
 intro pins s σ H D I h;refine wpAny_execs_cons (cO (h1 pins s σ H { D with nx:=u D } I h) λf s1 q=>?_);cases f with
 |next=>obtain⟨σ',H',I',q⟩:=q;exact h2 pins s1 σ' H' D I' q
 |ret v=>exact q
 |brk=>exact q
 |cont=>exact q
def PM:TS:=λD σ H=>D.bk σ H
def UI:TS:=λD σ H=>D.ct σ H
theorem LW:PS X (.Pass pos) Gi:=λ_ _ σ H _ I h=>wpAny_Pass ⟨σ,H,I,h⟩
theorem Gk:PS X (.Break pos) PM:=λ_ _ σ H _ I h=>wpAny_Break ⟨σ,H,I,h⟩
theorem zh:PS X (.Continue pos) UI:=λ_ _ σ H _ I h=>wpAny_Continue ⟨σ,H,I,h⟩
theorem Inv.quiet(I:Inv X pins σ H s):interactive X.env=false:=by simp[interactive,I.ok.kind]
theorem PN{x j pos pos'}:PS X (.Expr (.Constant (.str x) j pos) pos') Gi:=λ_ s σ H _ I h=>wpAny_Expr (Calls.Constant_str (show SP X _ _ .next { s with toks:=s.toks+1 } from⟨σ,H,I.tok _,h⟩)) I.quiet
def UJ(te:TE):TS:=λD σ H=>te σ H λ_ H1=>D.nx σ H1
theorem LX(he:PE X e te)(hs:swapsWith e none pos.line X.env=pure false):PS X (.Expr e pos) (UJ te):=by
 intro pins s σ H D I h;exact wpAny_Expr_any (cO (he pins s σ H _ I h) λv s1 ⟨x,H1,I1,r1,q1⟩=>⟨σ,H1,I1,q1⟩) I.quiet hs
def YM(te:TE):TS:=λD σ H=>te σ H D.rt
theorem PR(he:PE X e te):PS X (.Return (some e) pos) (YM te):=by
 intro pins s σ H D I h;exact wpAny_Return_some (cO (he pins s σ H _ I h) λv s1 ⟨x,H1,I1,r1,q1⟩=>⟨x,σ,H1,I1,r1,q1⟩)
def UK:TS:=λD _ H=>D.rt .non H
theorem LY:PS X (.Return none pos) UK:=λ_ _ σ H _ I h=>wpAny_Return_none ⟨.non,σ,H,I,rfl,h⟩
def YN(c:TT)(t u:TS):TS:=λD σ H=>c σ H λb H1=>if b=true then t D σ H1 else u D σ H1
theorem UL(hc:PT X c tc)(ha:Bu X a t)(hb:Bu X b u):PS X (.If c a b pos) (YN tc t u):=by
 intro pins s σ H D I h;refine wpAny_If (cO (hc pins s σ H _ I h) λd s1 aS=>?_);obtain⟨H1,I1,q1⟩:=aS;cases d with
 |true=>exact ha pins s1 σ H1 D I1 q1
 |false=>exact hb pins s1 σ H1 D I1 q1
def PU:TS:=λ_ _ _=>False
theorem zj:PS X st PU:=λ_ _ _ _ _ _ h=>h.elim
end
abbrev TG:=V->St->Hp->(St->Hp->Prop)->Prop
abbrev Uc:=List V->St->Hp->(St->Hp->Prop)->Prop
def PG(X:Cx)(target:Expr)(t:TG):Prop :=
 ∀(pins:List (Addr×Obj)) (s:Shared) (σ:St) (H:Hp) (v:V) (u:Value) (Q:St->Hp->Prop),Inv X pins σ H s->RelV v u->t v σ H Q ->
  wpAny (model X.prog X.w) X.A (assign target X.env u) (λ_ s'=>∃σ' H',Inv X pins σ' H' s'/\Q σ' H') X.xe s
def Ud(X:Cx)(ts:List Expr)(t:Uc):Prop :=
 ∀(pins:List (Addr×Obj)) (s:Shared) (σ:St) (H:Hp) (vs:List V) (us:List Value) (Q:St->Hp->Prop),Inv X pins σ H s->Vals vs us->t vs σ H Q ->
  wpAny (model X.prog X.w) X.A (assignInOrder ((assignEach ts X.env).map (·.2)) us) (λ_ s'=>∃σ' H',Inv X pins σ' H' s'/\Q σ' H') X.xe s
abbrev PV:=V->V->V->Hp->(Hp->Prop)->Prop
def UM(X:Cx)(t:PV):Prop :=
 ∀(pins:List (Addr×Obj)) (s:Shared) (σ:St) (H:Hp) (o i v:V) (ov iv u:Value) (Q:Hp->Prop),Inv X pins σ H s->RelV o ov->RelV i iv->RelV v u->t o i v H Q ->
  wpAny (model X.prog X.w) X.A (setItem ov iv u) (λ_ s'=>∃H',Inv X pins σ H' s'/\Q H') X.xe s
section
variable {X:Cx} {pos:Pos}
def rH(i:Nat):TG:=λv σ H Q=>Q (σ.set i (some v)) H
theorem sJ{i:Nat}(hN:X.N.Nodup)(hi:X.N[i]?=some x)(hx:Loc X.env.scope x)(hf:X.fn x=true\/X.env.scope.names.lookup x=some .local):PG X (.Name x pos) (rH i):=by
 intro pins s σ H v u Q I r h;exact wpAny_assign_Name (zf I hN hi hx r (λs' I'=>⟨_,H,I',h⟩) hf)
def UN:Uc:=λvs σ H Q=>vs=[]/\Q σ H
def OE(t:TG)(u:Uc):Uc:=λvs σ H Q=>∃v r,vs=v::r/\t v σ H λσ' H'=>u r σ' H' Q
theorem Cy:Ud X [] UN:=by
 intro pins s σ H vs us Q I r h;obtain⟨e,h⟩:=h;subst e;cases r;exact assignInOrder_nil ⟨σ,H,I,h⟩
theorem zk(h1:PG X e t)(h2:Ud X es u)
  (hs:(assignEach (e::es) X.env).map (·.2)=assign e X.env::(assignEach es X.env).map (·.2):=by rfl):Ud X (e::es) (OE t u):=by
 intro pins s σ H vs us Q I r h;obtain⟨v,vr,e1,h⟩:=h;subst e1;cases r with
 |cons r rr=>rw[hs];refine assignInOrder_cons (cO (h1 pins s σ H _ _ _ I r h) λ_ s1 aS=>?_);obtain⟨σ1,H1,I1,q1⟩:=aS;exact h2 pins s1 σ1 H1 _ _ Q I1 rr q1
def UO(K:Frag)(n:Nat)(t:Uc):TG:=λv σ H Q=>∃a xs,v=.ref a/\mh K H a xs/\xs.length=n/\t xs σ H Q
theorem Gm{k:Nat}{n:Nat}(hc:X.calm=true)(h:Ud X es t)
  (hn:(assignEach es X.env).length=n) (hst:(assignEach es X.env).findIdx? (·.1)=none):PG X (.Tuple es k pos) (UO X.K n t):=by
 intro pins s σ H v u Q I r hw;obtain⟨a,xs,e1,hq,hl,hw⟩:=hw;subst e1;cases r;obtain⟨its,rv,ht,hz⟩:=I.tuple hq;refine assign_Tuple_tuple (I.ok.hd hc) ht (by simp[hn,<-hl,rv.length]) hst λh' hx=>?_;have I1:Inv X pins σ H { s with heap:=h' }:=I.kept (t':=s.toks) λb o e=>hx b o (aaG (aav e)) e;exact h pins _ σ H xs _ Q I1 (by simpa using rv) hw
def UP(to ti:TE)(t:PV):TG:=λv σ H Q=>to σ H λo H1=>ti σ H1 λi H2=>t o i v H2 λH3=>Q σ H3
theorem PX(ho:PE X o to)(hi:PE X i ti)(hs:UM X t)
  (ha:∀v,assign (.Subscript o i pos) X.env v=(do
   let ov <-holding [v] (eval o X.env)
   let iv <-holding [v,ov] (eval i X.env)
   standAt pos
   holding [v,ov,iv] (setItem ov iv v)
   release [v,ov,iv] [])):PG X (.Subscript o i pos) (UP to ti t):=by
 intro pins s σ H v u Q I r h;rw[ha];refine aai (abt (cO (ho pins s σ H _ I h) λov s1 aS=>?_));obtain⟨x,H1,I1,r1,q1⟩:=aS;refine aai (abt (cO (hi pins s1 σ H1 _ I1 q1) λiv s2 aS=>?_));obtain⟨y,H2,I2,r2,q2⟩:=aS;refine aai (wpAny_standAt (aai (abt (cO (hs pins s2 σ H2 x y v ov iv u _ I2 r1 r2 r q2) λ_ s3 aS=>?_))));obtain⟨H3,I3,q3⟩:=aS;exact wpAny_release ⟨σ,H3,I3,q3⟩
def LZ(te:TE)(g:TG):TS:=λD σ H=>te σ H λx H1=>g x σ H1 D.nx
theorem Gn(he:PE X e te)(hg:PG X tg g)(hs:swapsWithSole [tg] e pos.line X.env=pure false)(hw:swappedStores [tg] e X.env=pure none)
  (h1:(assignEach [tg] X.env).map (·.2)=[assign tg X.env]):PS X (.Assign [tg] e pos) (LZ te g):=by
 intro pins s σ H D I h;refine wpAny_Assign_stores (cO (he pins s σ H _ I h) λv s1 ⟨x,H1,I1,r1,q1⟩=>?_) hs hw;rw[h1];exact cO (hg pins s1 σ H1 x v _ I1 r1 q1) λ_ s2 q=>q
theorem Gp{i:Nat}(hN:X.N.Nodup)(hi:X.N[i]?=some x)(hx:Loc X.env.scope x)(he:PE X e te)(hs:swapsWith e (some (.Name x pos')) pos.line X.env=pure false)(hf:X.fn x=true\/X.env.scope.names.lookup x=some .local) :
  PS X (.Assign [.Name x pos'] e pos) (LZ te (rH i)):=by
 intro pins s σ H D I h;refine wpAny_Assign_Name (cO (he pins s σ H _ I h) λv s1 ⟨y,H1,I1,r1,q1⟩=>?_) hs;exact zf I1 hN hi hx r1 (λs2 I2=>⟨_,H1,I2,q1⟩) hf
end
structure It where
 go:Nat->Hp->Prop
 El:Nat->Hp->V->Hp->Prop
 stop:Nat->Hp->Prop
def se(X:Cx)(pins:List (Addr×Obj))(H:Hp)(b:Addr):Prop :=
 H b=none/\b≠X.env.locals/\b∉X.fs/\(b∈X.ex\/X.s₀.heap.objs.size<=b)/\(∀x c,X.env.cells.lookup x=some c->c≠b)/\∀p∈X.pn++pins,p.1≠b
theorem Inv.Gq(I:Inv X pins σ H s)(hb:s.heap.objs.size<=b)(hn:H' b=none):se X pins H' b:=by
 refine⟨hn,ne_of_gt (aay I.lt hb),I.YF hb,.inr (aaN I.sz hb),λx c e z=>?_,λp hp z=>?_⟩
 ·obtain⟨v,q⟩:=I.cell x c e;exact absurd (aay q.lt (by rw[z];exact hb)) (abr _)
 ·exact absurd (aay (aav (I.pin p hp).1) (by rw[z];exact hb)) (abr _)
structure Turn (P:Program) (w:World) (K:Frag) (tg:Expr) (J:It) (fp:List Addr) (it:Addr) (tn:Nat->Heap->Prop):Prop where
 mem:it∈fp
 obj:∀i h,tn i h->∀b∈fp,∃o,h.get? b=some o/\∀v,o.data≠.cell v
 keep:∀i h h',tn i h->(∀b∈fp,∀o,h.get? b=some o->h'.get? b=some o)->tn i h'
 item:∀(X:Cx),X.prog=P->X.w=w->X.K=K->X.calm=true->∀(i:Nat) (pins:List (Addr×Obj)) (s:Shared) (σ:St) (H:Hp) (E:Value->Shared->Prop),Inv X pins σ H s->(∀b∈fp,se X pins H b)->tn i s.heap->J.go i H ->
  wpAny (model P w) X.A (pyNext (.ref it)) (λr s1=>∃u,r=some u /\
   wpAny (model P w) X.A (letOwnedTupleGo tg (.ref it) u) (λ_ s2=>∃x H',Inv X pins σ H' s2/\RelV x u/\J.El i H x H'/\tn (i+1) s2.heap/\∀b∈fp,H' b=none) E s1) E s
 done:∀(X:Cx),X.prog=P->X.w=w->X.K=K->X.calm=true->∀(i:Nat) (pins:List (Addr×Obj)) (s:Shared) (σ:St) (H:Hp) (E:Value->Shared->Prop),Inv X pins σ H s->(∀b∈fp,se X pins H b)->tn i s.heap->J.stop i H ->
  wpAny (model P w) X.A (pyNext (.ref it)) (λr s1=>r=none/\Inv X pins σ H s1) E s
 self:∀(A:Around) (i:Nat) (s:Shared) (Q:Value->Shared->Prop) (E:Value->Shared->Prop),tn i s.heap->Q (.ref it) s->wpAny (model P w) A (pyIter (.ref it)) Q E s
abbrev TI:=St->Hp->(It->Hp->Prop)->Prop
def PIE(X:Cx)(pins:List (Addr×Obj))(σ:St)(tg:Expr)(R:It->Hp->Prop)(itv:Value)(s2:Shared):Prop :=
 ∃(it:Addr) (fp:List Addr) (tn:Nat->Heap->Prop) (J:It) (H':Hp),itv=.ref it/\Inv X pins σ H' s2/\Turn X.prog X.w X.K tg J fp it tn/\tn 0 s2.heap/\(∀b∈fp,se X pins H' b)/\R J H'
def PI(X:Cx)(tg iter:Expr)(wi:TI):Prop :=
 ∀(pins:List (Addr×Obj)) (s:Shared) (σ:St) (H:Hp) (R:It->Hp->Prop),Inv X pins σ H s->wi σ H R ->
  wpAny (model X.prog X.w) X.A (eval iter X.env) (λv s1=>wpAny (model X.prog X.w) X.A (pyIter v) (PIE X pins σ tg R) X.xe s1) X.xe s
theorem Cz{n:String}(ho:s.heap.get? it=some o)(hc:o.cls=.type n)(hd:o.data=.fields vs)
  (hn:["enumerate","zip","dict_itemiterator","dict_reverseitemiterator","odict_iterator","itertools.zip_longest","itertools.pairwise"].contains n=false) (hQ:Q () s):wpAny M A (letOwnedTupleGo tg (.ref it) u) Q E s:=by
 unfold letOwnedTupleGo;cases tg<;>first
  |exact aaq hQ
  | (cases u<;>first
    |exact aaq hQ
    | (refine aai (wpAny_load ho ?_)
       rw[hc,hd];show wpAny M A (if (["enumerate","zip","dict_itemiterator","dict_reverseitemiterator","odict_iterator","itertools.zip_longest","itertools.pairwise"].contains n&&vs[0]?==some (rawInt _))=true then _ else _) Q E s;rw[aas (by intro h;rw[hn,Bool.false_and]at h;cases h)];exact aaq hQ))
def X5(K:Frag)(a:Addr):It :=
 ⟨λi H=>∃xs x,iD K H a xs/\xs[i]?=some x,λi H x H'=>H'=H/\∀xs,iD K H a xs->xs[i]?=some x,λi H=>∃xs,iD K H a xs/\xs.length<=i⟩
def YO(K:Frag)(a:Addr):It :=
 ⟨λi H=>∃xs x,mh K H a xs/\xs[i]?=some x,λi H x H'=>H'=H/\∀xs,mh K H a xs->xs[i]?=some x,λi H=>∃xs,mh K H a xs/\xs.length<=i⟩
def UQ(lo:Int)(n:Nat):It:=⟨λi _=>i<n,λi H x H'=>H'=H/\x=.int (lo+i),λi _=>n<=i⟩
theorem Em{P:Program}{w:World}{K:Frag}{tg:Expr}(a it:Addr):Turn P w K tg (X5 K a) [it] it (λi h=>h.IsListIter it a i) where
 mem:=by simp
 obj:=λi h st b hb=>by
  have e:b=it:=by simpa using hb
  subst e;obtain⟨o,e,c,d⟩:=st;exact⟨o,e,λv z=>by rw[d]at z;cases z⟩
 keep:=λi h h' st k=>st.at λo e=>k it (by simp) o e
 item:=by intro X hP hw hK hc i pins s σ H E I hf st hg;subst hP hw hK;obtain⟨xs,x,hq,hx⟩:=hg;obtain⟨its,rv,p,hz⟩:=I.list hq;obtain⟨u,hu,ru⟩:=rv.get hx;obtain⟨f0,f1,f2,f3,f4,f5⟩:=hf it (by simp);refine wpAny_pyNext_list_item st p.isList (x:=u) (by simpa using hu) λh' st' sb=>?_;have I1:Inv X pins σ H { s with heap:=h' }:=I.turned (t':=s.toks) (λb o hb e=>(sb.2 b hb).trans e) f0 f1 f3 f4 f5;obtain⟨o,e,c,d⟩:=id st';exact⟨u,rfl,Cz (s:={ s with heap:=h' }) e c d (by decide) ⟨x,H,I1,ru,⟨rfl,λys hy=>by rw[I.tG hy hq];exact hx⟩,st',λb hb=>(hf b hb).1⟩⟩
 done:=by intro X hP hw hK hc i pins s σ H E I hf st hg;subst hP hw hK;obtain⟨xs,hq,hx⟩:=hg;obtain⟨its,rv,p,hz⟩:=I.list hq;obtain⟨f0,f1,f2,f3,f4,f5⟩:=hf it (by simp);have hl:=rv.length;exact wpAny_pyNext_list_end (I.ok.hd hc) st p.isList (by simp;omega) λh' eb=>⟨rfl,I.turned (t':=s.toks) (λb o hb e=>eb b o hb e) f0 f1 f3 f4 f5⟩
 self:=λ_ _ _ _ _ st h=>wpAny_pyIter_listiter st h
theorem Bw{P:Program}{w:World}{K:Frag}{tg:Expr}(a it:Addr):Turn P w K tg (YO K a) [it] it (λi h=>h.IsTupleIter it a i) where
 mem:=by simp
 obj:=λi h st b hb=>by
  have e:b=it:=by simpa using hb
  subst e;obtain⟨o,e,c,d⟩:=st;exact⟨o,e,λv z=>by rw[d]at z;cases z⟩
 keep:=λi h h' st k=>st.at λo e=>k it (by simp) o e
 item:=by intro X hP hw hK hc i pins s σ H E I hf st hg;subst hP hw hK;obtain⟨xs,x,hq,hx⟩:=hg;obtain⟨its,rv,p,hz⟩:=I.tuple hq;obtain⟨u,hu,ru⟩:=rv.get hx;obtain⟨f0,f1,f2,f3,f4,f5⟩:=hf it (by simp);refine wpAny_pyNext_tuple_item st (show s.heap.IsTuple a its.toArray from p) (x:=u) (by simpa using hu) λh' st' sb=>?_;have I1:Inv X pins σ H { s with heap:=h' }:=I.turned (t':=s.toks) (λb o hb e=>(sb.2 b hb).trans e) f0 f1 f3 f4 f5;obtain⟨o,e,c,d⟩:=id st';exact⟨u,rfl,Cz (s:={ s with heap:=h' }) e c d (by decide) ⟨x,H,I1,ru,⟨rfl,λys hy=>by rw[I.Ek hy hq];exact hx⟩,st',λb hb=>(hf b hb).1⟩⟩
 done:=by intro X hP hw hK hc i pins s σ H E I hf st hg;subst hP hw hK;obtain⟨xs,hq,hx⟩:=hg;obtain⟨its,rv,p,hz⟩:=I.tuple hq;obtain⟨f0,f1,f2,f3,f4,f5⟩:=hf it (by simp);have hl:=rv.length;exact wpAny_pyNext_tuple_end (I.ok.hd hc) st (show s.heap.IsTuple a its.toArray from p) (by simp;omega) λh' eb=>⟨rfl,I.turned (t':=s.toks) (λb o hb e=>eb b o hb e) f0 f1 f3 f4 f5⟩
 self:=λ_ _ _ _ _ st h=>wpAny_pyIter_tupleiter st h
theorem Bx{P:Program}{w:World}{K:Frag}{tg:Expr}(it:Addr)(lo:Int)(n:Nat):Turn P w K tg (UQ lo n) [it] it (λi h=>IsRangeIter h it (lo+(i:Nat)*1) ((n:Int)-(i:Nat)) 1) where
 mem:=by simp
 obj:=λi h st b hb=>by
  have e:b=it:=by simpa using hb
  subst e;exact⟨_,st,λv z=>by
   have z':Data.fields _=Data.cell v:=z;cases z'⟩
 keep:=λi h h' st k=>k it (by simp) _ st
 item:=by intro X hP hw hK hc i pins s σ H E I hf st hg;subst hP hw hK;obtain⟨f0,f1,f2,f3,f4,f5⟩:=hf it (by simp);have W:=Walks.range (prog:=X.prog) (w:=X.w) (I.ok.hd hc) it lo 1 n;refine W.item i s _ _ hg st λv h' tk hv st' kk=>?_;obtain⟨t,rfl⟩:=hv;have I1:Inv X pins σ H { s with heap:=h',toks:=tk }:=I.turned (λb o hb e=>kk b o (by simpa using hb) e) f0 f1 f3 f4 f5;refine⟨_,rfl,Cz (s:={ s with heap:=h',toks:=tk }) (n:="range_iterator") st' rfl rfl (by decide) ⟨.int (lo+i),H,I1,⟨t,?_⟩,⟨rfl,rfl⟩,st',λb hb=>(hf b hb).1⟩⟩;rw[Int.mul_one]
 done:=by intro X hP hw hK hc i pins s σ H E I hf st hg;subst hP hw hK;obtain⟨f0,f1,f2,f3,f4,f5⟩:=hf it (by simp);exact wpAny_pyNext_range_end (I.ok.hd hc) st (by have:n<=i:=hg;omega) λh' eb=>⟨rfl,I.turned (t':=s.toks) (λb o hb e=>eb b o hb e) f0 f1 f3 f4 f5⟩
 self:=λ_ _ _ _ _ st h=>wpAny_pyIter_rangeiter st h
section
variable {X:Cx} {tg:Expr}
def US(K:Frag)(tl:TE):TI:=λσ H R=>tl σ H λx H1=>∃a,x=.ref a/\(∃xs,iD K H1 a xs)/\R (X5 K a) H1
def YQ(K:Frag)(tl:TE):TI:=λσ H R=>tl σ H λx H1=>∃a,x=.ref a/\(∃xs,mh K H1 a xs)/\R (YO K a) H1
theorem L0(hl:PE X l tl):PI X tg l (US X.K tl):=by
 intro pins s σ H R I h;refine cO (hl pins s σ H _ I h) λv s1 aS=>?_;obtain⟨x,H1,I1,r1,q1⟩:=aS;obtain⟨a,e,⟨xs,hq⟩,q⟩:=q1;subst e;cases r1;obtain⟨its,rv,p,hz⟩:=I1.list hq;refine wpAny_pyIter_list p.isList ?_;refine⟨s1.heap.objs.size,[s1.heap.objs.size],_,_,H1,rfl,I1.kept (t':=s1.toks) λb o e=>aap _ e,Em a _,⟨_,aaB _ rfl,rfl,rfl⟩,λb hb=>?_,q⟩;have e:b=s1.heap.objs.size:=by simpa using hb
 subst e;exact I1.Gq (aaw _) (I1.hok.fresh (aaw _))
theorem PY(hl:PE X l tl):PI X tg l (YQ X.K tl):=by
 intro pins s σ H R I h;refine cO (hl pins s σ H _ I h) λv s1 aS=>?_;obtain⟨x,H1,I1,r1,q1⟩:=aS;obtain⟨a,e,⟨xs,hq⟩,q⟩:=q1;subst e;cases r1;obtain⟨its,rv,p,hz⟩:=I1.tuple hq;refine wpAny_pyIter_tuple (show s1.heap.IsTuple a its.toArray from p) ?_;refine⟨s1.heap.objs.size,[s1.heap.objs.size],_,_,H1,rfl,I1.kept (t':=s1.toks) λb o e=>aap _ e,Bw a _,⟨_,aaB _ rfl,rfl,rfl⟩,λb hb=>?_,q⟩;have e:b=s1.heap.objs.size:=by simpa using hb
 subst e;exact I1.Gq (aaw _) (I1.hok.fresh (aaw _))
theorem zm{lo hi:Int}{tk:Nat}(I:Inv X pins σ H s)(h1:-(2 ^ 62)<=lo)(h2:lo<2 ^ 62)(h3:-(2 ^ 62)<=hi)(h4:hi<2 ^ 62)
  (q:R (UQ lo (hi-lo).toNat) H):wpAny (model X.prog X.w) X.A (pyIter (.ref s.heap.objs.size)) (PIE X pins σ tg R) E { s with heap:=s.heap.push { cls:=.type "range",data:=.fields [.int lo t,.int hi u,.int 1 v].toArray },toks:=tk }:=by
 refine wpAny_pyIter_range (IsRange.new ..) (small_one h1 h2 h3 h4) ?_;have I1:Inv X pins σ H { s with heap:=s.heap.push { cls:=.type "range",data:=.fields [.int lo t,.int hi u,.int 1 v].toArray },toks:=tk }:=I.kept λb o e=>aap _ e;refine⟨(s.heap.push { cls:=.type "range",data:=.fields [.int lo t,.int hi u,.int 1 v].toArray }).objs.size,[(s.heap.push { cls:=.type "range",data:=.fields [.int lo t,.int hi u,.int 1 v].toArray }).objs.size],_,_,H,rfl,
  I1.kept (t':=tk) λb o e=>aap _ e,Bx _ lo (hi-lo).toNat,?_,λb hb=>?_,q⟩
 ·have e1:lo+((0:Nat):Int)*1=lo:=by simp
  have e2:(((hi-lo).toNat:Nat):Int)-((0:Nat):Int)=Builtin.Range.rangeSize lo hi 1:=by rw[rangeSize_one];split<;>omega
  show IsRangeIter _ _ (lo+((0:Nat):Int)*1) ((((hi-lo).toNat:Nat):Int)-((0:Nat):Int)) 1;rw[e1,e2];exact aaB _ rfl
 ·have e:b=(s.heap.push { cls:=.type "range",data:=.fields [.int lo t,.int hi u,.int 1 v].toArray }).objs.size:=by simpa using hb
  subst e;exact I1.Gq (aaw _) (I1.hok.fresh (aaw _))
def UT(ta:TA):TI:=λσ H R=>ta σ H λvs H1=>∃j:Int,vs=[.int j] /\ -(2 ^ 62)<=j/\j<2 ^ 62/\R (UQ 0 j.toNat) H1
def UU(ta:TA):TI:=λσ H R=>ta σ H λvs H1=>∃i j:Int,vs=[.int i,.int j]/\(-(2 ^ 62)<=i/\i<2 ^ 62 /\ -(2 ^ 62)<=j/\j<2 ^ 62)/\R (UQ i (j-i).toNat) H1
theorem En(hg:Gl X "range")(hm:X.mg "range" = none)(ha:PA X [a] ta)(hs:starEach [a] X.env=[(false,eval a X.env)]):PI X tg (.Call (.Name "range" p) [a] [] pos) (UT ta):=by
 intro pins s σ H R I h;refine Call_ (iW I hg hm boot_range (aa4 (cO (ha pos pins s σ H _ I h) λus s1 aS=>?_) hs rfl));obtain⟨vs,H1,I1,r1,q1⟩:=aS;obtain⟨j,e,q1,q2,q⟩:=q1;subst e;cases r1 with
 |cons r rr=>cases rr;obtain⟨t,rfl⟩:=r;exact call_range_1 (zm I1 (by omega) (by omega) q1 q2 (by simpa using q))
theorem Eo(hg:Gl X "range")(hm:X.mg "range" = none)(ha:PA X [a,b] ta)(hs:starEach [a,b] X.env=[(false,eval a X.env),(false,eval b X.env)])(hs2:starEach [b] X.env=[(false,eval b X.env)]) :
  PI X tg (.Call (.Name "range" p) [a,b] [] pos) (UU ta):=by
 intro pins s σ H R I h;refine Call_ (iW I hg hm boot_range (aa4 (cO (ha pos pins s σ H _ I h) λus s1 ⟨vs,H1,I1,r1,q1⟩=>?_) (by rw[hs,hs2]) (by rw[hs2];rfl)));obtain⟨i,j,e,⟨q1,q2,q3,q4⟩,q⟩:=q1;subst e;cases r1 with
 |cons r rr=>
  cases rr with
  |cons r' rr=>cases rr;obtain⟨t,rfl⟩:=r;obtain⟨t',rfl⟩:=r';exact call_range_2 (zm I1 q1 q2 q3 q4 q)
def YR(wi:TI)(g:TG)(tb:TS):TS:=λD σ H=>wi σ H λJ H1=>∃W:Nat->Nat->St->Hp->Prop,(∃m,W 0 m σ H1)/\∀i m σ H,W i m σ H ->
 (J.stop i H/\D.nx σ H)\/(J.go i H/\∃N:St->Hp->Prop,(∀σ' H',N σ' H'->∃m',m'<m/\W (i+1) m' σ' H')/\∀x H',J.El i H x H'->g x σ H' λσ2 H2=>tb { D with nx:=N,ct:=N,bk:=D.nx } σ2 H2)
def tH(fp:List Addr)(h:Heap):List (Addr×Obj):=fp.filterMap λb=>(h.get? b).map λo=>(b,o)
theorem kX(hb:b∈fp)(e:h.get? b=some o):(b,o)∈tH fp h:=List.mem_filterMap.mpr ⟨b,hb,by rw[e];rfl⟩
theorem Ep(hp:p∈tH fp h):p.1∈fp/\h.get? p.1=some p.2:=by
 obtain⟨b,hb,e⟩:=List.mem_filterMap.mp hp;cases q:h.get? b with
 |none=>rw[q]at e;cases e
 |some o=>rw[q]at e;have e':(b,o)=p:=aaQ e;subst e';exact⟨hb,q⟩
theorem Inv.pinned(I:Inv X pins σ H s)(hf:∀b∈fp,se X pins H b)(ho:∀b∈fp,∃o,s.heap.get? b=some o/\∀v,o.data≠.cell v):Inv X (pins++tH fp s.heap) σ H s :=
 I.Cw λp hp=>(aaT.mp hp).elim (λz=>I.pin p (aaP _ z)) λz=>by
  obtain⟨hb,e⟩:=Ep z;obtain⟨f0,f1,f2,_⟩:=hf p.1 hb;obtain⟨o,e',d⟩:=ho p.1 hb;rw[e]at e';cases e';exact⟨e,f0,f1,f2,d⟩
theorem Inv.pq(I:Inv X (pins++pl) σ H s):Inv X pins σ H s:=I.Cw λp hp=>I.pin p (aaP _ (aaX _ hp))
theorem PZ(hp:PassesOwn (model X.prog X.w) X.A X.env X.xe)(hc:X.calm=true)(hi:PI X tg iter wi)(hg:PG X tg g)(hb:Bu X body tb)
  (hs:∀x,foldedSetIterable iter X.env x=pure x):PS X (.For tg iter body [] pos) (YR wi g tb):=by
 intro pins s σ H D I h;refine wpAny_For (cO (hi pins s σ H _ I h) λv s1 h1=>cO h1 λitv s2 h2=>?_) hs;obtain⟨it,fp,tn,J,H2,e,I2,T,st2,f2,W,⟨m0,w0⟩,turn⟩:=h2;subst e;have stat:∀{H':Hp},(∀b∈fp,H' b=none)->∀b∈fp,se X pins H' b:=λhn b hb=>⟨hn b hb,(f2 b hb).2⟩;refine codeAny_forLoop_any (λn s'=>∃i σ' H',Inv X pins σ' H' s'/\tn i s'.heap/\(∀b∈fp,H' b=none)/\W i n σ' H') ?_ m0 ⟨0,σ,H2,I2,st2,λb hb=>(f2 b hb).1,w0⟩;rintro n s3 ⟨i,σ3,H3,I3,st3,fr3,w3⟩
 rcases turn i n σ3 H3 w3 with ⟨stop,qn⟩|⟨go,N,hN,step⟩
 ·refine wpAny_passesOwn hp (cO (T.done X rfl rfl rfl hc i pins s3 σ3 H3 X.xe I3 (stat fr3) st3 stop) λr s4 aS=>?_);obtain⟨hr,I4⟩:=aS;subst hr;exact wpAny_execs_nil ⟨σ3,H3,I4,qn⟩
 ·refine wpAny_passesOwn hp (cO (T.item X rfl rfl rfl hc i pins s3 σ3 H3 X.xe I3 (stat fr3) st3 go) λr s4 aS=>?_)
  obtain⟨u,hr,h4⟩:=aS;subst hr;refine wpAny_passesOwn hp (cO h4 λ_ s5 aS=>?_);obtain⟨x,H5,I5,r5,y5,Ue,X6⟩:=aS;have I5':=I5.pinned (stat X6) (T.obj _ _ Ue);refine wpAny_passesOwn hp (cO (hg _ s5 σ3 H5 x u _ I5' r5 (step x H5 y5)) λ_ s6 aS=>?_);obtain⟨σ6,H6,I6,q6⟩:=aS;refine wpAny_passesOwn hp (cO (hb _ s6 σ6 H6 _ I6 q6) λf s7 q7=>?_);have again:∀{σ7:St} {H7:Hp},Inv X (pins++tH fp s5.heap) σ7 H7 s7->N σ7 H7->∃m,m<n/\∃i σ' H',Inv X pins σ' H' s7/\tn i s7.heap/\(∀b∈fp,H' b=none)/\W i m σ' H':=λ{σ7 H7} I7 n7=>by
   obtain⟨m',hm,w7⟩:=hN σ7 H7 n7;refine⟨m',hm,i+1,σ7,H7,I7.pq,T.keep _ _ _ Ue λb hb o e=>(I7.pin (b,o) (aaP _ (aaP _ (kX hb e)))).1,λb hb=>?_,w7⟩;obtain⟨o,e,d⟩:=T.obj _ _ Ue b hb;exact(I7.pin (b,o) (aaP _ (aaP _ (kX hb e)))).2.1
  cases f with
  |next=>obtain⟨σ7,H7,I7,n7⟩:=q7;exact again I7 n7
  |cont=>obtain⟨σ7,H7,I7,n7⟩:=q7;exact again I7 n7
  |brk=>obtain⟨σ7,H7,I7,q7⟩:=q7;exact⟨σ7,H7,I7.pq,q7⟩
  |ret v=>obtain⟨x7,σ7,H7,I7,r7,q7⟩:=q7;exact⟨x7,σ7,H7,I7.pq,r7,q7⟩
end
abbrev R2:=V->V->Hp->VK->Prop
def sL(X:Cx)(f:Value->Value->Sem Value)(r:R2):Prop :=
 ∀(pins:List (Addr×Obj)) (s:Shared) (σ:St) (H:Hp) (x y:V) (v u:Value) (Q:VK),Inv X pins σ H s->RelV x v->RelV y u->r x y H Q ->
  wpAny (model X.prog X.w) X.A (f v u) (EP X pins σ Q) X.xe s
def X7(X:Cx)(f:Value->Sem Value)(r:V->Hp->VK->Prop):Prop :=
 ∀(pins:List (Addr×Obj)) (s:Shared) (σ:St) (H:Hp) (x:V) (v:Value) (Q:VK),Inv X pins σ H s->RelV x v->r x H Q ->
  wpAny (model X.prog X.w) X.A (f v) (EP X pins σ Q) X.xe s
def cS(X:Cx)(f:Value)(r:List V->Hp->VK->Prop):Prop :=
 ∀(pins:List (Addr×Obj)) (s:Shared) (σ:St) (H:Hp) (xs:List V) (us:List Value) (Q:VK),Inv X pins σ H s->Vals xs us->r xs H Q ->
  wpAny (model X.prog X.w) X.A (call f us) (EP X pins σ Q) X.xe s
def YS(X:Cx)(r:V->Hp->(Bool->Hp->Prop)->Prop):Prop :=
 ∀(pins:List (Addr×Obj)) (s:Shared) (σ:St) (H:Hp) (x:V) (v:Value) (Q:Bool->Hp->Prop),Inv X pins σ H s->RelV x v->r x H Q ->
  wpAny (model X.prog X.w) X.A (truthy v) (TP X pins σ Q) X.xe s
def X8(r:R2)(ta tb:TE):TE:=λσ H Q=>ta σ H λx H1=>tb σ H1 λy H2=>r x y H2 Q
def tUn(r:V->Hp->VK->Prop)(ta:TE):TE:=λσ H Q=>ta σ H λx H1=>r x H1 Q
def rI(C:Int->Int->Prop)(g:Int->Int->V):R2:=λx y H Q=>∃i j,x=.int i/\y=.int j/\C i j/\Q (g i j) H
def OF(g:Int->Int->V):R2:=λx y H Q=>∃i j,x=.int i/\y=.int j/\Q (g i j) H
def rU(g:Int->V):V->Hp->VK->Prop:=λx H Q=>∃i,x=.int i/\Q (g i) H
section
variable {X:Cx} {a b c:Expr} {ta tb tc:TE} {pos:Pos}
theorem P0(ha:PE X a ta)(hb:PE X b tb){pins:List (Addr×Obj)}{s:Shared}{σ:St}{H:Hp}{R:V->V->Hp->Prop}(I:Inv X pins σ H s)
  (h:ta σ H λx H1=>tb σ H1 λy H2=>R x y H2) {Q:Value->Shared->Prop} {f:Value->Value->Sem Value}
  (hf:∀v u s2 x y H2,Inv X pins σ H2 s2->RelV x v->RelV y u->R x y H2->wpAny (model X.prog X.w) X.A (f v u) Q X.xe s2) :
  wpAny (model X.prog X.w) X.A (eval a X.env) (λv s₁=>wpAny (model X.prog X.w) X.A (eval b X.env) (λu s₂=>wpAny (model X.prog X.w) X.A (f v u) Q X.xe s₂) X.xe s₁) X.xe s:=by
 refine cO (ha pins s σ H _ I h) λv s1 aS=>?_;obtain⟨x,H1,I1,r1,q1⟩:=aS;refine cO (hb pins s1 σ H1 _ I1 q1) λu s2 aS=>?_;obtain⟨y,H2,I2,r2,q2⟩:=aS;exact hf v u s2 x y H2 I2 r1 r2 q2
theorem UW(ho:sL X (binaryOp op) r)(ha:PE X a ta)(hb:PE X b tb):PE X (.BinOp a op b pos) (X8 r ta tb):=by
 intro pins s σ H Q I h;exact wpAny_BinOp (P0 ha hb I h λv u s2 x y H2 I2 rx ry q=>ho pins s2 σ H2 x y v u Q I2 rx ry q)
theorem UX(ho:X7 X (unaryOp op) r)(ha:PE X a ta):PE X (.UnaryOp op a pos) (tUn r ta):=by
 intro pins s σ H Q I h;exact UnaryOp_ (cO (ha pins s σ H _ I h) λv s1 ⟨x,H1,I1,r1,q1⟩=>ho pins s1 σ H1 x v Q I1 r1 q1)
theorem Yb{f:Value->Value->Sem Value}{C:Int->Int->Prop}{g:Int->Int->Int}
  (rule:∀(i j:Int) (t u:Tok) (s:Shared) (Q:Value->Shared->Prop) (E:Value->Shared->Prop),C i j->Q (.int (g i j) s.toks) { s with toks:=s.toks+1 }->wpAny (model X.prog X.w) X.A (f (.int i t) (.int j u)) Q E s) :
  sL X f (rI C λi j=>.int (g i j)):=by
 intro pins s σ H x y v u Q I rx ry h;obtain⟨i,j,rfl,rfl,hc,q⟩:=h;obtain⟨t,rfl⟩:=rx;obtain⟨t',rfl⟩:=ry;exact rule i j t t' s _ _ hc ⟨.int (g i j),H,I.tok _,⟨_,rfl⟩,q⟩
theorem UY{f:Value->Value->Sem Value}{g:Int->Int->Int}
  (rule:∀(i j:Int) (t u:Tok) (s:Shared) (Q:Value->Shared->Prop) (E:Value->Shared->Prop),Q (.int (g i j) s.toks) { s with toks:=s.toks+1 }->wpAny (model X.prog X.w) X.A (f (.int i t) (.int j u)) Q E s) :
  sL X f (OF λi j=>.int (g i j)):=by
 intro pins s σ H x y v u Q I rx ry h;obtain⟨i,j,rfl,rfl,q⟩:=h;obtain⟨t,rfl⟩:=rx;obtain⟨t',rfl⟩:=ry;exact rule i j t t' s _ _ ⟨.int (g i j),H,I.tok _,⟨_,rfl⟩,q⟩
theorem L1{f:Value->Value->Sem Value}{g:Int->Int->Bool}
  (rule:∀(i j:Int) (t u:Tok) (s:Shared) (Q:Value->Shared->Prop) (E:Value->Shared->Prop),Q (.bool (g i j)) s->wpAny (model X.prog X.w) X.A (f (.int i t) (.int j u)) Q E s) :
  sL X f (OF λi j=>.bl (g i j)):=by
 intro pins s σ H x y v u Q I rx ry h;obtain⟨i,j,rfl,rfl,q⟩:=h;obtain⟨t,rfl⟩:=rx;obtain⟨t',rfl⟩:=ry;exact rule i j t t' s _ _ ⟨.bl (g i j),H,I,rfl,q⟩
def YT(i j:Int):Prop:=0<=j/\j<=1000000/\i.natAbs<2 ^ 64
def P1(i j:Int):Prop:=(-(2 ^ 64)<i/\i<2 ^ 64)\/(-(2 ^ 64)<j/\j<2 ^ 64)
theorem P1.ok{i j:Int}(h:P1 i j):IntMulOk i j:=by
 rcases h with ⟨h1,h2⟩|⟨h1,h2⟩
 ·exact .of_left (intBits_le_64 h1 h2)
 ·exact .of_right (intBits_le_64 h1 h2)
theorem P4:sL X (binaryOp .Add) (OF λi j=>.int (i+j)):=UY λ_ _ _ _ _ _ _ q=>add_int q
theorem P5:sL X (binaryOp .Sub) (OF λi j=>.int (i-j)):=UY λ_ _ _ _ _ _ _ q=>sub_int q
theorem P6:sL X (binaryOp .Mult) (rI P1 λi j=>.int (i*j)):=Yb λ_ _ _ _ _ _ _ hc q=>mul_int q hc.ok
theorem P7:sL X (binaryOp .Mod) (rI (λ_ j=>0<j) λi j=>.int (i%j)):=Yb λi j _ _ _ _ _ hc q=>by
 have h1:(0:Int)<j:=hc;exact mod_int' (by omega) (by rw[Int.fmod_eq_emod_of_nonneg i (by omega)];exact q)
theorem P8:sL X (binaryOp .Pow) (rI YT λi j=>.int (i ^ j.toNat)):=Yb λ_ _ _ _ _ _ _ hc q=>pow_int_small hc.1 hc.2.1 hc.2.2 q
theorem unI{f:Value->Sem Value}{g:Int->Int}
  (rule:∀(i:Int) (t:Tok) (s:Shared) (Q:Value->Shared->Prop) (E:Value->Shared->Prop),Q (.int (g i) s.toks) { s with toks:=s.toks+1 }->wpAny (model X.prog X.w) X.A (f (.int i t)) Q E s) :
  X7 X f (rU λi=>.int (g i)):=by
 intro pins s σ H x v Q I rx h;obtain⟨i,rfl,q⟩:=h;obtain⟨t,rfl⟩:=rx;exact rule i t s _ _ ⟨.int (g i),H,I.tok _,⟨_,rfl⟩,q⟩
theorem Gs:X7 X (unaryOp .USub) (rU λi=>.int (-i)):=unI λ_ _ _ _ _ q=>neg_int q
end
section
variable {X:Cx} {a b c:Expr} {ta tb tc:TE} {pos:Pos}
theorem Gu{k k':Bool}(I:Inv X pins σ H s)(q:Q (.bl k) H)(e:k=k'):EP X pins σ Q (.bool k') s:=by
 subst e;exact⟨.bl k,H,I,rfl,q⟩
theorem UZ:sL X (compareOp .Lt) (OF λi j=>.bl (decide (i<j))):=L1 λ_ _ _ _ _ _ _ q=>lt_int q
theorem U0:sL X (compareOp .LtE) (OF λi j=>.bl (decide (i<=j))):=L1 λ_ _ _ _ _ _ _ q=>le_int q
theorem U3:sL X (compareOp .Gt) (OF λi j=>.bl (decide (j<i))):=L1 λ_ _ _ _ _ _ _ q=>gt_int q
theorem U4:sL X (compareOp .GtE) (OF λi j=>.bl (decide (j<=i))):=L1 λ_ _ _ _ _ _ _ q=>ge_int q
theorem P9:sL X (compareOp .Is) (λx y H Q=>y=.non/\Q (.bl (decide (x=.non))) H):=by
 intro pins s σ H x y v u Q I rx ry h;obtain⟨rfl,q⟩:=h;cases ry;refine is_none_gen (Gu I q ?_);cases x<;>first
  |(cases rx;rfl)
  |(obtain⟨t,rfl⟩:=rx;rfl)
theorem L3:sL X (compareOp .IsNot) (λx y H Q=>y=.non/\Q (.bl (!decide (x=.non))) H):=by
 intro pins s σ H x y v u Q I rx ry h;obtain⟨rfl,q⟩:=h;cases ry;refine isnot_none_gen (Gu I q ?_);cases x<;>first
  |(cases rx;rfl)
  |(obtain⟨t,rfl⟩:=rx;rfl)
theorem L4(ho:sL X (compareOp op) r)(ha:PE X a ta)(hb:PE X b tb)(hm:behindInMarks op b=false):PE X (.Compare a [op] [b] pos) (X8 r ta tb):=by
 intro pins s σ H Q I h;exact wpAny_Compare1 (P0 ha hb I h λv u s2 x y H2 I2 rx ry q=>ho pins s2 σ H2 x y v u Q I2 rx ry q) hm
def U5(t:TE):TT:=λσ H Q=>t σ H λx H'=>∃k,x=.bl k/\Q k H'
theorem L5(ho:sL X (compareOp op) r)(ha:PE X a ta)(hb:PE X b tb)(hm:behindInMarks op b=false):PT X (.Compare a [op] [b] pos) (U5 (X8 r ta tb)):=by
 intro pins s σ H Q I h;refine wpAny_isTrue_Compare1 (cO (ha pins s σ H _ I h) λv s1 ⟨x,H1,I1,r1,q1⟩=>cO (hb pins s1 σ H1 _ I1 q1) λu s2 ⟨y,H2,I2,r2,q2⟩=>
  cO (ho pins s2 σ H2 x y v u _ I2 r1 r2 q2) λc s3 ⟨z,H3,I3,r3,k,e,q3⟩=>?_) hm
 subst e;cases r3;exact wpAny_truthy_bool ⟨H3,I3,q3⟩
def L6(K:Frag)(x:V)(H:Hp)(k:Bool):Prop :=
 match x with
 |.non=>k=false
 |.bl b=>k=b
 |.int i=>k=(i != 0)
 |.str y=>y.length<=sizeLine/\k=((y.length:Int) != 0)
 |.byt y=>y.size<=sizeLine/\k=((y.size:Int) != 0)
 |.ref p=>(∃xs,iD K H p xs/\k = !xs.isEmpty)\/(∃xs,mh K H p xs/\k = !xs.isEmpty)\/∃kvs,H p=some (.dK kvs)/\k = !kvs.isEmpty
 |_=>False
theorem By{κ:Type}{kvs:List (κ × V)}{vs:List (κ × Value)}(r:KV kvs vs):(!vs.isEmpty) = !kvs.isEmpty:=by
 cases r<;>rfl
theorem tK(r:Vals xs its):(!its.toArray.isEmpty) = !xs.isEmpty:=by
 cases r<;>simp
theorem xX:(sizeLine:Nat)<2 ^ 63:=by rw[abq];decide
theorem Gv:YS X (λx H Q=>∃k,L6 X.K x H k/\Q k H):=by
 intro pins s σ H x v Q I rx h;obtain⟨k,e,q⟩:=h;have hl:=xX;have hs:sizeLine=16777216:=abq;cases x with
 |non=>cases rx;have e':k=false:=e;subst e';exact truthy_none ⟨H,I,q⟩
 |bl b=>cases rx;have e':k=b:=e;subst e';exact wpAny_truthy_bool ⟨H,I,q⟩
 |int i=>obtain⟨t,rfl⟩:=rx;have e':k=(i != 0):=e;subst e';exact PySem.P.truthy_int ⟨H,I,q⟩
 |str y=>obtain⟨t,rfl⟩:=rx;obtain⟨hy,e'⟩:y.length<=sizeLine/\k=((y.length:Int) != 0):=e;subst e';exact PySem.P.truthy_str (by omega) ⟨H,I.tok _,q⟩
 |byt y=>obtain⟨t,rfl⟩:=rx;obtain⟨hy,e'⟩:y.size<=sizeLine/\k=((y.size:Int) != 0):=e;subst e';exact PySem.W.truthy_bytes (by omega) ⟨H,I.tok _,q⟩
 |ref p=>
  cases rx;have e':(∃xs,iD X.K H p xs/\k = !xs.isEmpty)\/(∃xs,mh X.K H p xs/\k = !xs.isEmpty)\/∃kvs,H p=some (.dK kvs)/\k = !kvs.isEmpty:=e
  rcases e' with ⟨xs,hx,e'⟩|⟨xs,hx,e'⟩|⟨kvs,hx,e'⟩
  ·subst e';obtain⟨its,r,pl,hz⟩:=I.list hx;have hlen:=r.length;exact wpAny_truthy_list pl.isList (by simp only[size_toArray];omega) ⟨H,I.tok _,by rw[tK r];exact q⟩
  ·subst e';obtain⟨its,r,pl,hz⟩:=I.tuple hx;have hlen:=r.length;exact truthy_tuple pl (by simp only[size_toArray];omega) ⟨H,I.tok _,by rw[tK r];exact q⟩
  ·subst e';obtain⟨hz,hS,vs,r,m⟩:kvs.length<=sizeLine/\(p==sysModules)=false/\∃vs,KV kvs vs/\s.heap.DictOf (bh X.prog X.w) p vs:=I.hok p _ hx;have hlen:kvs.length=vs.length:=Paired.length r;exact wpAny_truthy_dict hS m (by omega) ⟨H,I.tok _,by rw[By r];exact q⟩
 |_=>exact(show False from e).elim
theorem Gx(ha:PE X a ta)(he:∀whole,isTrue a X.env whole=(do let v <-whole;standAt a.pos;holding [v] (truthy v))) :
  PT X a (λσ H Q=>ta σ H λx H'=>∃k,L6 X.K x H' k/\Q k H'):=by
 intro pins s σ H Q I h;exact isTrue_plain (cO (ha pins s σ H _ I h) λv s1 ⟨x,H1,I1,r1,q1⟩=>Gv pins s1 σ H1 x v Q I1 r1 q1) (he _)
theorem vals1(r:Vals [x] us):∃u,us=[u]/\RelV x u:=by
 cases r with
 |cons r1 r2=>cases r2;exact⟨_,rfl,r1⟩
theorem vals2(r:Vals [x,y] us):∃u w',us=[u,w']/\RelV x u/\RelV y w':=by
 cases r with
 |cons r1 r2=>
  cases r2 with
  |cons r3 r4=>cases r4;exact⟨_,_,rfl,r1,r3⟩
theorem Er(hc:X.calm=true):cS X (.builtin "max") (λxs H Q=>∃i j,xs=[.int i,.int j]/\Q (.int (if j>i then j else i)) H):=by
 intro pins s σ H xs us Q I r h;obtain⟨i,j,rfl,q⟩:=h;obtain⟨u,w',rfl,⟨t,rfl⟩,⟨t',rfl⟩⟩:=vals2 r;refine max_two_ints (I.ok.hd hc) λh' tk k=>⟨_,H,I.kept k,?_,q⟩
 by_cases hj:j>i
 ·rw[aar hj,aar hj];exact⟨_,rfl⟩
 ·rw[aas hj,aas hj];exact⟨_,rfl⟩
theorem Es(hc:X.calm=true):cS X (.builtin "min") (λxs H Q=>∃i j,xs=[.int i,.int j]/\Q (.int (if j<i then j else i)) H):=by
 intro pins s σ H xs us Q I r h;obtain⟨i,j,rfl,q⟩:=h;obtain⟨u,w',rfl,⟨t,rfl⟩,⟨t',rfl⟩⟩:=vals2 r;refine min_two_ints (I.ok.hd hc) λh' tk k=>⟨_,H,I.kept k,?_,q⟩
 by_cases hj:j<i
 ·rw[aar hj,aar hj];exact⟨_,rfl⟩
 ·rw[aas hj,aas hj];exact⟨_,rfl⟩
theorem v5:cS X (.type "int") (λxs H Q=>(∃i,xs=[.int i]/\Q (.int i) H)\/∃k,xs=[.bl k]/\Q (.int (if k then 1 else 0)) H):=by
 intro pins s σ H xs us Q I r h
 rcases h with ⟨i,rfl,q⟩|⟨k,rfl,q⟩
 ·obtain⟨u,rfl,t,rfl⟩:=vals1 r;exact call_int_int ⟨.int i,H,I,⟨_,rfl⟩,q⟩
 ·obtain⟨u,rfl,r1⟩:=vals1 r;cases r1;exact call_int_bool ⟨.int (if k then 1 else 0),H,I.tok _,⟨_,rfl⟩,q⟩
def YU(K:Frag)(x:V)(H:Hp)(n:Nat):Prop :=
 match x with
 |.str y=>y.length<=sizeLine/\n=y.length
 |.byt y=>y.size<=sizeLine/\n=y.size
 |.ref p=>(∃xs,iD K H p xs/\n=xs.length)\/∃xs,mh K H p xs/\n=xs.length
 |_=>False
theorem tL:cS X (.builtin "len") (λxs H Q=>∃x n,xs=[x]/\YU X.K x H n/\Q (.int n) H):=by
 intro pins s σ H xs us Q I r h;obtain⟨x,n,rfl,e,q⟩:=h;obtain⟨u,rfl,rx⟩:=vals1 r;have hl:=xX;have hs:sizeLine=16777216:=abq;cases x with
 |str y=>obtain⟨t,rfl⟩:=rx;obtain⟨hy,e'⟩:y.length<=sizeLine/\n=y.length:=e;subst e';exact len_str (by omega) ⟨.int _,H,I.tok _,⟨_,rfl⟩,q⟩
 |byt y=>obtain⟨t,rfl⟩:=rx;obtain⟨hy,e'⟩:y.size<=sizeLine/\n=y.size:=e;subst e';exact PySem.W.len_bytes (by omega) ⟨.int _,H,I.tok _,⟨_,rfl⟩,q⟩
 |ref p=>
  cases rx;have e':(∃xs,iD X.K H p xs/\n=xs.length)\/∃xs,mh X.K H p xs/\n=xs.length:=e
  rcases e' with ⟨xs,hx,e'⟩|⟨xs,hx,e'⟩
  ·subst e';obtain⟨its,r',pl,hz⟩:=I.list hx;have hlen:=r'.length;exact Calls.call_len_list pl.isList (by simp only[size_toArray];omega) ⟨.int xs.length,H,I.tok _,⟨_,by simp only[size_toArray];rw[hlen]⟩,q⟩
  ·subst e';obtain⟨its,r',pl,hz⟩:=I.tuple hx;have hlen:=r'.length;exact len_tuple pl (by simp only[size_toArray];omega) ⟨.int xs.length,H,I.tok _,⟨_,by simp only[size_toArray];rw[hlen]⟩,q⟩
 |_=>exact(show False from e).elim
end
structure BA (h:Heap) (x dx C:Addr) (mA:Str->Option Value):Prop where
 obj:h.get? x=some (instObj C dx)
 ns:h.Ns1 dx mA
 ne:dx≠x
theorem Et{h:Heap}{dx:Addr}{mA:Str->Option Value}(n:h.Ns1 dx mA):∃od,h.get? dx=some od/\∀name,lookIn name od=some (mA name):=by
 obtain⟨o,es,ep,ho,hd,hk,_,hm⟩:=n;refine⟨o,ho,λname=>?_⟩;have e:=hm name;unfold nsFind findBy at e;rw[<-Array.find?_toList]at e;unfold lookIn;rw[hd];dsimp only
 split
 ·rename_i y q;rw[q]at e;exact aa2 some e
 ·rename_i q
  rw[q]at e;have a:es.toList.any (·.refKey)=false:=by rw[List.any_eq_false];intro y hy;obtain⟨z,t,hkey⟩:=hk y (Array.mem_toList_iff.mp hy);simp[DictEntry.refKey,hkey]
  have a':¬ es.toList.any (·.refKey)=true:=by rw[a];exact aaj
  rw[aas a'];exact aa2 some e
theorem BA.look(I:BA h x dx C mA):∃od,PySem.W.InstAt h x (instObj C dx) C (some od)/\∀name,lookIn name od=some (mA name) :=
 let ⟨od,ho,hl⟩:=Et I.ns
 ⟨od,⟨I.obj,rfl,rfl,ho⟩,hl⟩
section
variable {prog:Program} {w:World} {A:Around} {E:Value->Shared->Prop} {s:Shared} {K:Frag} {x dx C f:Addr} {mA:Str->Option Value} {name:Str} {v:Value}
theorem get_map{expr:Bool}(X:K.In s.heap)(I:BA s.heap x dx C mA)(hg:plainGet K C name=true)(hh:hasDictIn K C=true)
  (ha:findIn K (.ref C) name=some none) (hv:mA name=some v) (hv':handedIn v=true) (h:Q v { s with toks:=s.toks+1 }) :
  wpAny (model prog w) A (getAttr (.ref x) name expr) Q E s:=by
 obtain⟨od,J,hl⟩:=I.look;exact PySem.W.get_value X J (plainGet_of hg).1 (PySem.W.findObj_own hh ha rfl (by rw[hl,hv])) hv' h
theorem Gy(X:K.In s.heap)(I:BA s.heap x dx C mA)(hg:plainGet K C name=true)
  (hf:findIn K (.ref C) name=some (some (.ref f))) (ht:isFn K (.ref f)=true) (hv:mA name=none) (h:Q (.ref f,[.ref x]) s) :
  wpAny (model prog w) A (getMethod (.ref x) name pl) Q E s:=by
 obtain⟨od,J,hl⟩:=I.look;exact PySem.W.method_fn X J (plainGet_of hg).1 (plainGet_of hg).2 hf (beq_iff_eq.mp ht) (by show (lookIn name od).map (·.isSome)=some false;rw[hl,hv];rfl) h
theorem L7(X:K.In s.heap)(I:BA s.heap x dx C mA)
  (hs:findIn K (.ref C) "__setattr__" = some (some (.builtin "object.__setattr__"))) (hp:plainOver K C=true) (ht:takerIn K C name=some none) (hh:hasDictIn K C=true)
  (hw:PySem.Within mA ns) (hsz:ns.length<=sizeLine)
  (h:∀h',BA h' x dx C (λy=>if y=name then some v else mA y)->Heap.SameBut dx s.heap h'->Q () { s with heap:=h',toks:=s.toks+2 }) :
  wpAny (model prog w) A (setAttr (.ref x) name v) Q E s:=by
 obtain⟨od,J,hl⟩:=I.look;refine PySem.W.set_plain X J hs (PySem.W.osa_open (s:={ s with toks:=s.toks+1 }) (r:=none) X J hp ht λb=>?_);obtain⟨cd,hc,hd'⟩:=PySem.W.any_some hh;have hx:s.heap.get? x=some ⟨.ref C,some dx,.plain,#[]⟩:=I.obj;refine aai (aaq (aai (aai (wpAny_loadPart hx (aai (PySem.W.Looks.here (s:={ s with toks:=s.toks+1 }) (PySem.W.looks_clsIn X hc) ?_))))));rw[hd'];refine aaq (a:=some dx) (aai (aaq (aai ?_)));refine wpAny_nsSet1 (s:={ s with toks:=s.toks+1 }) I.ns λh' hn2 hs2=>?_;obtain⟨oD,esD,epD,hoD,hdD,hcD⟩:=hn2.count (PySem.Within.cons name v hw);refine aai (wpAny_lookBehind hoD (by rw[hdD];exact pastItsLine_dict (aaN hcD (by rw[aaH];omega))) ?_);exact aaq (h _ ⟨(hs2.2 _ (Ne.symm I.ne)).trans I.obj,hn2,I.ne⟩ hs2)
theorem Gz(X:K.In s.heap)(hm:makesIn K C=true)
  (hi:findIn K (.ref C) "__init__" = some (some (.ref f))) (hf:typeIn K (.ref f)=some (.type "function"))
  (h:codeAny (model prog w) (A.under (.builtin "type.__call__" ⟨.ref C::vs,kw⟩)) (.call (.ref f) ⟨.ref (s.heap.objs.size+1)::vs,kw⟩) (PySem.W.InitBack (s.heap.objs.size+1) R)
   { s with heap:=(s.heap.push emptyDict).push (instObj C s.heap.objs.size) }) :
  codeAny (model prog w) A (.call (.ref C) ⟨vs,kw⟩) R s:=by
 obtain⟨hh,g,d,t,os⟩:=s;exact PySem.W.make_core (PySem.W.makes_of X hm) (PySem.W.looks_findIn X hi) (λself=>PySem.W.bind_fn X self hf) (.inl rfl) h
end
def kY(f:Str)(v:V):List (Str×V)->List (Str×V)
 |[]=>[(f,v)]
 |(g,x)::r=>if g=f then (g,v)::r else (g,x)::kY f v r
theorem rJ(f g:Str)(v:V):∀fs:List (Str×V),(kY f v fs).lookup g=if g=f then some v else fs.lookup g
 | []=>by
  show List.lookup g [(f,v)]=_
  by_cases h:g=f
  ·have hb:(g==f)=true:=beq_iff_eq.mpr h;simp only[List.lookup,hb,if_pos h]
  ·have hb:(g==f)=false:=aa9.mpr h;simp only[List.lookup,hb,if_neg h]
 | (k,x)::r=>by
  have ih:=rJ f g v r;rw[show kY f v ((k,x)::r)=(if k=f then (k,v)::r else (k,x)::kY f v r) from rfl]
  by_cases hk:k=f
  ·rw[aar hk]
   by_cases h:g=k
   ·have hb:(g==k)=true:=beq_iff_eq.mpr h;simp only[List.lookup,hb,if_pos (h.trans hk)]
   ·have hb:(g==k)=false:=aa9.mpr h;simp only[List.lookup,hb,if_neg (λe:g=f=>h (e.trans hk.symm))]
  ·rw[aas hk]
   by_cases h:g=k
   ·have hb:(g==k)=true:=beq_iff_eq.mpr h;simp only[List.lookup,hb,if_neg (λe:g=f=>hk (h.symm.trans e))]
   ·have hb:(g==k)=false:=aa9.mpr h;simp only[List.lookup,hb];exact ih
theorem qy(f:Str)(v:V):∀fs:List (Str×V),f∈(kY f v fs).map (·.1)/\∀g,g∈fs.map (·.1)->g∈(kY f v fs).map (·.1)
 |[]=>⟨by simp[kY],λg h=>by simp at h⟩
 | (k,x)::r=>by
  obtain⟨i1,i2⟩:=qy f v r;rw[show kY f v ((k,x)::r)=(if k=f then (k,v)::r else (k,x)::kY f v r) from rfl]
  by_cases hk:k=f
  ·rw[aar hk];subst hk;exact⟨by simp,λg h=>by simpa using h⟩
  ·rw[aas hk]
   refine⟨?_,λg h=>?_⟩
   ·rw[aau];exact aal _ i1
   ·rw[aau]at h |-
    rcases aaz.mp h with e|e
    ·exact aaz.mpr (.inl e)
    ·exact aal _ (i2 g e)
theorem rK(f:Str)(v:V):∀fs:List (Str×V),(kY f v fs).length<=fs.length+1
 |[]=>by simp[kY]
 | (k,x)::r=>by
  have ih:=rK f v r;rw[show kY f v ((k,x)::r)=(if k=f then (k,v)::r else (k,x)::kY f v r) from rfl]
  by_cases hk:k=f
  ·rw[aar hk,aaH,aaH];omega
  ·rw[aas hk,aaH,aaH];omega
theorem lW.some_of(r:lW (some v) o):∃u,o=some u/\RelV v u:=by
 cases o with
 |none=>exact(show False from r).elim
 |some u=>exact⟨u,rfl,r⟩
theorem lW.none_of(r:lW none o):o=none:=by
 cases o with
 |none=>rfl
 |some u=>exact(show False from r).elim
theorem Eu(r:RelV v u):handedIn u=true:=by
 cases v with
 |non=>cases (show u=Value.none from r);rfl
 |bl b=>cases (show u=Value.bool b from r);rfl
 |int i=>obtain⟨t,e⟩:=(show ∃t,u=Value.int i t from r);cases e;rfl
 |str x=>obtain⟨t,e⟩:=(show ∃t,u=Value.str x t from r);cases e;rfl
 |byt b=>obtain⟨t,e⟩:=(show ∃t,u=Value.bytes b t from r);cases e;rfl
 |flt b=>obtain⟨t,e⟩:=(show ∃t,u=Value.float b t from r);cases e;rfl
 |ref a=>cases (show u=Value.ref a from r);rfl
 |ty n=>cases (show u=Value.type n from r);rfl
section
variable {P:Program} {w:World} {H H':Hp} {h h':Heap} {a C dx:Addr} {fs fs':List (Str×V)}
theorem xY(hok:o8 P w H h)(e:H a=some (.ins C dx fs)):∃mA,BA h a dx C mA/\(∀f,lW (fs.lookup f) (mA f))/\PySem.Within mA (fs.map (·.1))/\fs.length<=1000/\H dx=some (.own a):=by
 obtain⟨d,z,ne,ob,mA,n,r,q⟩:=(show cj P w H h a (.ins C dx fs) from hok a _ e);exact⟨mA,⟨ob,n,ne⟩,r,q,z,d⟩
end
structure Gd (K:Frag) (C:Addr):Prop where
 pg:plainGet K C Str.empty=true
 hd:hasDictIn K C=true
 po:plainOver K C=true
 sa:findIn K (.ref C) "__setattr__" = some (some (.builtin "object.__setattr__"))
theorem Gd.get{K:Frag}{C:Addr}(c:Gd K C)(f:Str):plainGet K C f=true:=c.pg
def mq(K:Frag)(C:Addr)(f:Str):Prop:=findIn K (.ref C) f=some none
theorem mq.U6{K:Frag}{C:Addr}{f:Str}(n:mq K C f):takerIn K C f=some none:=by
 unfold takerIn;rw[show findIn K (.ref C) f=some none from n];rfl
structure Meth (K:Frag) (C:Addr) (m:Str) (f:Addr):Prop where
 at_:findIn K (.ref C) m=some (some (.ref f))
 fn:isFn K (.ref f)=true
 kp:keepIn K (.ref f)=true
section
variable {X:Cx} {pins:List (Addr×Obj)} {σ:St} {H:Hp} {s:Shared} {a C dx:Addr} {fs:List (Str×V)} {f:Str} {v:V} {A:Around} {E:Value->Shared->Prop}
theorem BB{b:Bool}(I:Inv X pins σ H s)(e:H a=some (.ins C dx fs))(c:Gd X.K C)(n:mq X.K C f)(l:fs.lookup f=some v)
  (h:∀u s',Inv X pins σ H s'->RelV v u->Q u s'):wpAny (model X.prog X.w) A (getAttr (.ref a) f b) Q E s:=by
 obtain⟨mA,O,r,_,_,_⟩:=xY I.hok e;obtain⟨u,hu,ru⟩:=lW.some_of (v:=v) (o:=mA f) (by rw[<-l];exact r f);exact get_map I.sI O (c.get f) c.hd n hu (Eu ru) (h u _ (I.tok _) ru)
theorem tM(I:Inv X pins σ H s)(e:H a=some (.ins C dx fs))(c:Gd X.K C)(k:Meth X.K C m g)(l:fs.lookup m=none)
  (h:Q (.ref g,[.ref a]) s):wpAny (model X.prog X.w) A (getMethod (.ref a) m pl) Q E s:=by
 obtain⟨mA,O,r,_,_,_⟩:=xY I.hok e;have hn:mA m=none:=lW.none_of (by rw[<-l];exact r m);exact Gy I.sI O (c.get m) k.at_ k.fn hn h
theorem BC(I:Inv X pins σ H s)(e:H a=some (.ins C dx fs))(c:Gd X.K C)(n:mq X.K C f)(hl:fs.length<1000)(ry:RelV y u)
  (h:∀s',Inv X pins σ (upd H a (.ins C dx (kY f y fs))) s'->Q () s'):wpAny (model X.prog X.w) A (setAttr (.ref a) f u) Q E s:=by
 obtain⟨mA,O,r,wi,_,ho⟩:=xY I.hok e;have hz:(fs.map (·.1)).length<=sizeLine:=by rw[aak,abq];omega
 refine L7 I.sI O c.sa c.po n.U6 c.hd wi hz λh' O' sb=>h _ ?_;have hd:∃o,h'.get? dx=some o:=let ⟨o,_,_,e',_⟩:=O'.ns;⟨o,e'⟩
 refine I.write (x:=a) (e:=dx) (by rw[e];exact abI) (.inr ho) (λb q hb z=>(sb.2 b hb).trans z) hd ?_;refine⟨by rw[aA O.ne];exact ho,?_,O.ne,O'.obj,_,O'.ns,λg=>?_,λg hg=>?_⟩
 ·have:=rK f y fs;omega
 ·show lW ((kY f y fs).lookup g) (if g=f then some u else mA g)
  rw[rJ]
  by_cases q:g=f
  ·rw[aar q,aar q];exact ry
  ·rw[aas q,aas q];exact r g
 ·by_cases q:g=f
  ·rw[q];exact(qy f y fs).1
  ·refine(qy f y fs).2 g (wi g λz=>hg ?_);show (if g=f then some u else mA g)=none;rw[aas q];exact z
theorem Inv.made(I:Inv X pins σ H s):Inv X pins σ (upd (upd H s.heap.objs.size (.own (s.heap.objs.size+1))) (s.heap.objs.size+1) (.ins C s.heap.objs.size []))
  { s with heap:=(s.heap.push emptyDict).push (instObj C s.heap.objs.size) }:=by
 have e1:(s.heap.push emptyDict).get? s.heap.objs.size=some emptyDict:=aaB s.heap rfl;have e2:((s.heap.push emptyDict).push (instObj C s.heap.objs.size)).get? (s.heap.objs.size+1)=some (instObj C s.heap.objs.size):=by have:=aaB (s.heap.push emptyDict) (o:=instObj C s.heap.objs.size) rfl;rwa [abu]at this
 have e3:(s.heap.push emptyDict).Ns s.heap.objs.size (λ_=>none):=⟨emptyDict,#[],_,e1,rfl,(λe he=>absurd he (by simp)),λ_=>rfl⟩;have I1:=I.laid (a:=s.heap.objs.size) (o:=.own (s.heap.objs.size+1)) (h':=s.heap.push emptyDict) (t':=s.toks) (λb u q=>aap _ q) (aaw _) ⟨_,e1⟩;refine I1.laid (a:=s.heap.objs.size+1) (o:=.ins C s.heap.objs.size []) (t':=s.toks) (λb u q=>aap _ q) (Nat.le_of_eq (abu _ _)) ?_;have ne:s.heap.objs.size≠s.heap.objs.size+1:=aaG (aa8 _);refine⟨by rw[aA ne,aW],abi _,ne,e2,λ_=>none,(Heap.Ns1.of_empty e3).at λo q=>aap _ q,λ_=>abI,λy hy=>absurd rfl hy⟩
theorem attr_of(hb:attributeBase e f env (eval e env)=eval e env)
  (h:wpAny (model prog w) A (eval e env) (λo s₁=>wpAny (model prog w) A (getAttr o f true) Q E s₁) E s):wpAny (model prog w) A (eval (.Attribute e f pos) env) Q E s :=
 Attribute_any_ h (by rw[arm_eval_Attribute,hb])
end
def tFld(K:Frag)(ta:TE)(f:Str):TE:=λσ H Q=>ta σ H λx H1=>∃a C dx fs v,x=.ref a/\H1 a=some (.ins C dx fs)/\Gd K C/\mq K C f/\fs.lookup f=some v/\Q v H1
def YV(K:Frag)(ta tv:TE)(f:Str):TS:=λD σ H=>tv σ H λy H1=>ta σ H1 λx H2=>∃a C dx fs,x=.ref a/\H2 a=some (.ins C dx fs)/\Gd K C/\mq K C f/\fs.length<1000 /\
 D.nx σ (upd H2 a (.ins C dx (kY f y fs)))
section
variable {X:Cx} {o e value:Expr} {f:Str} {pos pos' tpos:Pos} {ta tv:TE}
theorem pe_fld(he:PE X e ta)(hb:attributeBase e f X.env (eval e X.env)=eval e X.env):PE X (.Attribute e f pos) (tFld X.K ta f):=by
 intro pins s σ H Q I h;refine attr_of hb (cO (he pins s σ H _ I h) λu s1 aS=>?_);obtain⟨x,H1,I1,rx,a,C,dx,fs,v,ex,ea,c,n,l,q⟩:=aS;subst ex;obtain rfl:u=Value.ref a:=rx;exact BB I1 ea c n l λu' s2 I2 ru=>⟨v,H1,I2,ru,q⟩
theorem Qa(ha:PE X o ta)(hv:PE X value tv)(hs:swapsWith value (some (.Attribute o f pos')) pos.line X.env=pure false):PS X (.Assign [.Attribute o f pos'] value pos) (YV X.K ta tv f):=by
 intro pins s σ H D I h;refine plainObj_wpAny_Assign_Attribute (cO (hv pins s σ H _ I h) λu s1 ⟨y,H1,I1,ry,q⟩=>cO (ha pins s1 σ H1 _ I1 q) λov s2 ⟨x,H2,I2,rx,a,C,dx,fs,ex,ea,c,n,l,q2⟩=>?_) hs;subst ex;obtain rfl:ov=Value.ref a:=rx;exact BC I2 ea c n l ry λs3 I3=>⟨σ,_,I3,q2⟩
end
structure fO (k:Nat) (A:Around):Prop where
 hd:A.handled=none
 dp:A.depth+3*k+5<recursionLimit
 un:A.units+16*k+200<cLine
theorem fO.mono{j k:Nat}(r:fO k A)(h:j<=k):fO j A:=⟨r.hd,by have:=r.dp;omega,by have:=r.un;omega⟩
theorem fO.deeper{k:Nat}(r:fO (k+1) A)(env:Env):fO k (A.deeper env) :=
 ⟨r.hd,by have:=r.dp;show A.depth+1+3*k+5<_;omega,by have:=r.un;show A.units+3+16*k+200<_;omega⟩
theorem BD{A:Around}{C:Addr}{us:List Value}{kw:List (Str×Value)}:(A.under (.builtin "type.__call__" ⟨.ref C::us,kw⟩)).depth=A.depth+1:=by
 first|rfl|simp[Around.under,Code.weight,Code.isCreation,Code.isGuard,Code.isCaller,Code.frames,Code.isFrame,guardIds]
theorem BE{A:Around}{C:Addr}{us:List Value}{kw:List (Str×Value)}:(A.under (.builtin "type.__call__" ⟨.ref C::us,kw⟩)).units=A.units+1:=by
 first|rfl|simp[Around.under,Code.cUnits,Code.frames,Code.isFrame]
theorem fO.make{k:Nat}(r:fO (k+1) A)(C:Addr)(us:List Value)(kw:List (Str×Value)):fO k (A.under (.builtin "type.__call__" ⟨.ref C::us,kw⟩)) :=
 ⟨r.hd,by have:=r.dp;rw[BD];omega,by have:=r.un;rw[BE];omega⟩
theorem fO.depth{k:Nat}(r:fO k A):A.depth<recursionLimit:=by have:=r.dp;omega
theorem fO.units{k:Nat}(r:fO k A):A.units+64<cLine:=by have:=r.un;omega
def Qc:TA:=λ_ H Q=>Q [] H
def U7(ta:TE)(tr:TA):TA:=λσ H Q=>ta σ H λx H1=>tr σ H1 λxs H2=>Q (x::xs) H2
section
variable {X:Cx} {e:Expr} {es:List Expr} {te:TE} {t:TA} {pos:Pos}
theorem GA:PA X [] Qc:=λ_ _ _ _ H Q I h=>abA ⟨[],H,I,.nil,h⟩
theorem xZ(ha:PE X e te)(hr:PA X es t)(hs:starEach (e::es) X.env=(false,eval e X.env)::starEach es X.env:=by rfl):PA X (e::es) (U7 te t):=by
 intro pos pins s σ H Q I h;rw[hs];show wpAny _ _ (spliced ((false,eval e X.env)::backTo pos (starEach es X.env))) _ _ s;refine abn (cO (ha pins s σ H _ I h) λu s1 aS=>?_);obtain⟨x,H1,I1,r1,q1⟩:=aS;exact cO (hr pos pins s1 σ H1 _ I1 q1) λus s2 ⟨xs,H2,I2,r2,q2⟩=>⟨x::xs,H2,I2,.cons r1 r2,q2⟩
def YW(t:TA):TE:=λσ H Q=>t σ H λxs H1=>xs.length<=sizeLine/\∀p,H1 p=none->Q (.ref p) (upd H1 p (.tup xs))
def YX(t:TA):TE:=λσ H Q=>t σ H λxs H1=>xs.length<=sizeLine/\∀p,H1 p=none->Q (.ref p) (upd H1 p (.lst xs))
theorem Qd{x1}(h:PA X es t):PE X (.Tuple es x1 pos) (YW t):=by
 intro pins s σ H Q I hq;refine wpAny_Tuple_spliced (cO (h pos pins s σ H _ I hq) λus s1 ⟨xs,H1,I1,r,z,q⟩=>⟨by rw[<-r.length];exact z,?_⟩);have hf:H1 s1.heap.objs.size=none:=I1.hok.fresh (aaw _);refine⟨.ref s1.heap.objs.size,upd H1 s1.heap.objs.size (.tup xs),I1.laid (t':=s1.toks) (λb u e=>aap _ e) (aaw _) ?_,rfl,q _ hf⟩;exact⟨z,us,r,⟨_,aaB _ rfl,rfl,_,rfl⟩⟩
theorem Qe(h:PA X es t):PE X (.List es pos) (YX t):=by
 intro pins s σ H Q I hq;refine wpAny_List_spliced (cO (h pos pins s σ H _ I hq) λus s1 ⟨xs,H1,I1,r,z,q⟩=>⟨by rw[<-r.length];exact z,?_⟩);have hf:H1 s1.heap.objs.size=none:=I1.hok.fresh (aaw _);refine⟨.ref s1.heap.objs.size,upd H1 s1.heap.objs.size (.lst xs),I1.laid (t':=s1.toks) (λb u e=>aap _ e) (aaw _) ?_,rfl,q _ hf⟩;exact⟨z,us,0,r,aaB _ rfl⟩
end
abbrev Sp:=List V->Hp->VK->XK->Prop
abbrev Ew:=List Env->Hp->Shared->XK->Value->Shared->Prop
structure BF (P:Program) (w:World) (K:Frag) (mg:Str->Option Value) (base:Heap) (A:Around) (outer:List Env) (s:Shared) (H:Hp):Prop where
 frames:A.frames=some outer
 mod:Mod K mg base
 bs:∀b o,base.get? b=some o->s.heap.get? b=some o/\H b=none
 OC:base.objs.size<=s.heap.objs.size
 sd:s.heap.FunFrames base outer
 Py:∀b∈frs outer,H b=none
 hok:o8 P w H s.heap
 bare:AllBare s.gens
def CE(outer:List Env)(P:Program)(w:World)(H:Hp)(s:Shared)(Q:VK)(u:Value)(s':Shared):Prop :=
 ∃v H',s'.os=s.os/\AllBare s'.gens/\Un (frs outer) [] H H' s.heap s'.heap/\o8 P w H' s'.heap/\RelV v u/\Q v H'
def CR(CX:Ew)(outer:List Env)(P:Program)(w:World)(H:Hp)(s:Shared)(Q:VK)(E:XK)(r:Result)(s':Shared):Prop :=
 match r with
 |.ok (.ret u)=>CE outer P w H s Q u s'
 |.ok _=>False
 |.error e=>CX outer H s E e s'
structure gK (P:Program) (w:World) (K:Frag) (mg:Str->Option Value) (base:Heap) (CX:Ew) (k:Nat) (f:Addr) (fd:FuncData) (ps:List Str) (sp:Sp):Prop where
 len:∀vs H Q E,sp vs H Q E->vs.length=ps.length
 run:∀(A:Around) (outer:List Env) (s:Shared) (H:Hp) (args:Args) (us:List Value) (vs:List V) (Q:VK) (E:XK),fO k A->BF P w K mg base A outer s H->BindsTo s fd args (ps.zip us)->Vals vs us->sp vs H Q E ->
  codeAny (model P w) A (.call (.ref f) args) (CR CX outer P w H s Q E) s
theorem gK.mono{P:Program}{w:World}{K:Frag}{mg:Str->Option Value}{base:Heap}{CX:Ew}{j k:Nat}{f:Addr}{fd:FuncData}{ps:List Str}{sp:Sp}(F:gK P w K mg base CX j f fd ps sp)(h:j<=k) :
  gK P w K mg base CX k f fd ps sp:=⟨F.len,λA outer s H args us vs Q E hr=>F.run A outer s H args us vs Q E (hr.mono h)⟩
theorem gK.imp{P:Program}{w:World}{K:Frag}{mg:Str->Option Value}{base:Heap}{CX:Ew}{k:Nat}{f:Addr}{fd:FuncData}{ps:List Str}{sp sp':Sp}(F:gK P w K mg base CX k f fd ps sp)
  (h:∀vs H Q E,sp' vs H Q E->sp vs H Q E):gK P w K mg base CX k f fd ps sp' :=
 ⟨λvs H Q E q=>F.len vs H Q E (h _ _ _ _ q),λA outer s H args us vs Q E hr he hb hv hs=>F.run A outer s H args us vs Q E hr he hb hv (h _ _ _ _ hs)⟩
theorem BF.make{P:Program}{w:World}{K:Frag}{mg:Str->Option Value}{base:Heap}{A:Around}{outer:List Env}{s:Shared}{H:Hp}(e:BF P w K mg base A outer s H)(C:Addr)(us:List Value)(kw:List (Str×Value)) :
  BF P w K mg base (A.under (.builtin "type.__call__" ⟨.ref C::us,kw⟩)) outer s H:=⟨by first|exact e.frames|(simpa [Around.under,Code.envs,Code.isFrame,pushEnvs] using e.frames),e.mod,e.bs,e.OC,e.sd,e.Py,e.hok,e.bare⟩
section
variable {X:Cx} {pins:List (Addr×Obj)} {σ:St} {H:Hp} {s s':Shared}
theorem Inv.sf(I:Inv X pins σ H s):BF X.prog X.w X.K X.mg X.base X.A X.stack s H :=
 ⟨I.ok.frames,I.ok.mod,I.bs,aaN I.ok.OC I.sz,I.stack,I.Cv,I.hok,I.bare⟩
theorem Inv.after(I:Inv X pins σ H s)(h:CE X.stack X.prog X.w H s Q u s'):EP X pins σ Q u s':=by
 obtain⟨v,H',os,bare,un,hok,r,q⟩:=h;obtain⟨hh,g,d,t,os'⟩:=s';obtain rfl:os'=s.os:=os;exact⟨v,H',I.call (h':=hh) (g':=g) (d':=d) (t':=t) (ch:=[]) un hok bare (λb z=>absurd z (by simp)),r,q⟩
end
def OG(sp:Sp)(vz:List V)(E:XK)(t:TA):TE:=λσ H Q=>t σ H λvs H1=>sp (vs++vz) H1 Q E
def OH(C:Addr)(sp:Sp)(vz:List V)(E:XK)(t:TA):TE:=λσ H Q=>t σ H λvs H1=>∀x dx,H1 x=none->H1 dx=none->dx≠x ->
 sp (.ref x::(vs++vz)) (upd (upd H1 dx (.own x)) x (.ins C dx [])) (λv H2=>v=.non/\Q (.ref x) H2) E
def Binds(K:Frag)(fd:FuncData)(ps:List Str)(ds:List Value):Prop :=
 ∀(s:Shared) (us:List Value),K.In s.heap->(us++ds).length=ps.length->BindsTo s fd ⟨us,[]⟩ (ps.zip (us++ds))
theorem Binds.all{K:Frag}{fd:FuncData}{ps:List Str}(h:∀us:List Value,us.length=ps.length->bindArgs fd ⟨us,[]⟩=pure (ps.zip us)):Binds K fd ps []:=λs us _ hl=>by
 rw[aa1]at hl |-;exact .of_eq (h us hl)
def Passes(CX:Ew)(X:Cx)(E:XK):Prop:=∀(pins:List (Addr×Obj)) (σ:St) (H:Hp) (s:Shared) (e:Value) (s':Shared),Inv X pins σ H s->CX X.stack H s E e s'->X.xe e s'
section
variable {X:Cx} {CX:Ew} {k:Nat} {f C:Addr} {fd:FuncData} {ps:List Str} {sp:Sp} {vz:List V} {ds:List Value} {E:XK} {x m:Str} {p pos apos:Pos} {e o:Expr} {es:List Expr} {ta:TE} {t:TA}
theorem x6(F:gK X.prog X.w X.K X.mg X.base CX k f fd ps sp)(hr:fO k X.A)(hb:Binds X.K fd ps ds)(hd:Vals vz ds)(hx:Passes CX X E)
  (I:Inv X pins σ H s) (r:Vals vs us) (h:sp (vs++vz) H Q E):wpAny (model X.prog X.w) X.A (call (.ref f) us) (EP X pins σ Q) X.xe s:=by
 have r2:Vals (vs++vz) (us++ds):=r.append hd;have hl:(us++ds).length=ps.length:=by rw[<-r2.length];exact F.len _ _ _ _ h
 refine wpAny_call (codeAny_mono (F.run X.A X.stack s H ⟨us,[]⟩ (us++ds) (vs++vz) Q E hr I.sf (hb s us I.sI hl) r2 h) λr s' hq=>?_);cases r with
 |error e=>exact hx pins σ H s e s' I hq
 |ok fl=>
  cases fl with
  |ret u=>exact I.after hq
  |next=>exact False.elim hq
  |brk=>exact False.elim hq
  |cont=>exact False.elim hq
theorem L8(F:gK X.prog X.w X.K X.mg X.base CX k f fd ps sp)(hr:fO k X.A)(hg:Gl X x)(hm:X.mg x=some (.ref f))(hk:keepIn X.K (.ref f)=true)(hb:Binds X.K fd ps ds)(hd:Vals vz ds)(hx:Passes CX X E)
  (ha:PA X (e::es) t) (hdb:(x==("__debug__":Str))=false) (he:starEach (e::es) X.env=(false,eval e X.env)::starEach es X.env) (hpl:(backTo pos (starEach es X.env)).any (·.1)=false) :
  PE X (.Call (.Name x p) (e::es) [] pos) (OG sp vz E t):=by
 intro pins s σ H Q I h;refine aa3 (pe I hg hm ?_ hdb);refine callWith_K (h₀:=X.base) I.ok.mod.Uw hk (cO (ha pos pins s σ H _ I h) λus s1 ⟨vs,H1,I1,r,q⟩=>⟨I1.sI,?_⟩) he hpl;exact x6 F hr hb hd hx I1 r q
theorem GB(F:gK X.prog X.w X.K X.mg X.base CX k f fd ps sp)(hr:fO k X.A)(hg:Gl X x)(hm:X.mg x=some (.ref f))(hk:keepIn X.K (.ref f)=true)(hb:Binds X.K fd ps ds)(hd:Vals vz ds)(hx:Passes CX X E)
  (hdb:(x==("__debug__":Str))=false):PE X (.Call (.Name x p) [] [] pos) (OG sp vz E Qc):=by
 intro pins s σ H Q I h;refine aa3 (pe I hg hm ?_ hdb);exact callWith_K0 I.sI hk (x6 (us:=[]) F hr hb hd hx I .nil h)
structure Mk (K:Frag) (C f:Addr):Prop where
 makes:makesIn K C=true
 init:findIn K (.ref C) "__init__" = some (some (.ref f))
 fn:isFn K (.ref f)=true
 kp:keepIn K (.ref C)=true
theorem zo(M:Mk X.K C f)(F:gK X.prog X.w X.K X.mg X.base CX k f fd ps sp)(hr:fO (k+1) X.A)(hb:Binds X.K fd ps ds)(hd:Vals vz ds)
  (hx:Passes CX X E) (I:Inv X pins σ H s) (r:Vals vs us)
  (h:∀x dx,H x=none->H dx=none->dx≠x->sp (.ref x::(vs++vz)) (upd (upd H dx (.own x)) x (.ins C dx [])) (λv H2=>v=.non/\Q (.ref x) H2) E) :
  wpAny (model X.prog X.w) X.A (call (.ref C) us) (EP X pins σ Q) X.xe s:=by
 have hq:=h (s.heap.objs.size+1) s.heap.objs.size (I.hok.fresh (abz _)) (I.hok.fresh (aaw _)) (aaG (aa8 _));have I2:=Inv.made (C:=C) I;have r2:Vals (V.ref (s.heap.objs.size+1)::(vs++vz)) (Value.ref (s.heap.objs.size+1)::(us++ds)):=.cons rfl (r.append hd);have hl:(Value.ref (s.heap.objs.size+1)::us++ds).length=ps.length:=by have e:=r2.length;rw[F.len _ _ _ _ hq]at e;exact e.symm
 refine wpAny_call (Gz (f:=f) I.sI M.makes M.init (beq_iff_eq.mp M.fn) (codeAny_mono (F.run _ X.stack _ _ ⟨Value.ref (s.heap.objs.size+1)::us,[]⟩ (Value.ref (s.heap.objs.size+1)::(us++ds)) _ _ E (hr.make C us [])
  (I2.sf.make C us []) (hb _ (Value.ref (s.heap.objs.size+1)::us) I2.sI hl) r2 hq) λr s' hq'=>?_))
 cases r with
 |error e=>exact hx pins σ _ _ e s' I2 hq'
 |ok fl=>
  cases fl with
  |ret u=>obtain⟨v,H',I3,rv,ev,q3⟩:=I2.after hq';subst ev;exact⟨rv,⟨V.ref (s.heap.objs.size+1),H',I3,rfl,q3⟩⟩
  |next=>exact False.elim hq'
  |brk=>exact False.elim hq'
  |cont=>exact False.elim hq'
theorem Ma(M:Mk X.K C f)(F:gK X.prog X.w X.K X.mg X.base CX k f fd ps sp)(hr:fO (k+1) X.A)(hg:Gl X x)(hm:X.mg x=some (.ref C))(hb:Binds X.K fd ps ds)(hd:Vals vz ds)(hx:Passes CX X E)
  (ha:PA X (e::es) t) (hdb:(x==("__debug__":Str))=false) (he:starEach (e::es) X.env=(false,eval e X.env)::starEach es X.env) (hpl:(backTo pos (starEach es X.env)).any (·.1)=false) :
  PE X (.Call (.Name x p) (e::es) [] pos) (OH C sp vz E t):=by
 intro pins s σ H Q I h;refine aa3 (pe I hg hm ?_ hdb);refine callWith_K (h₀:=X.base) I.ok.mod.Uw M.kp (cO (ha pos pins s σ H _ I h) λus s1 ⟨vs,H1,I1,r,q⟩=>⟨I1.sI,?_⟩) he hpl;exact zo M F hr hb hd hx I1 r q
theorem GC(M:Mk X.K C f)(F:gK X.prog X.w X.K X.mg X.base CX k f fd ps sp)(hr:fO (k+1) X.A)(hg:Gl X x)(hm:X.mg x=some (.ref C))(hb:Binds X.K fd ps ds)(hd:Vals vz ds)(hx:Passes CX X E)
  (hdb:(x==("__debug__":Str))=false):PE X (.Call (.Name x p) [] [] pos) (OH C sp vz E Qc):=by
 intro pins s σ H Q I h;refine aa3 (pe I hg hm ?_ hdb);exact callWith_K0 I.sI M.kp (zo (us:=[]) M F hr hb hd hx I .nil h)
end
structure sM (N P:List Str) (sc:Scope):Prop where
 kind:sc.kind=.function
 co:sc.isCoroutine=false
 gen:sc.isGenerator=false
 nd:N.Nodup
 pre:N.take P.length=P
 par:∀x∈P,sc.names.lookup x=some .local\/sc.names.lookup x=some .cell
 Qf:∀y∈sc.names,y.2≠.free
theorem v7{kindOf:Str->Option NameKind}{x:Str}:∀{binds:List (Str×Value)} {m:Str->Option Value},(∀v,(x,v)∉binds)->bindL kindOf binds m x=m x
 |[],_,_=>rfl
 | (n,v)::r,m,h=>by
  unfold bindL;rw[v7 λw hw=>h w (aal _ hw)]
  split
  ·have:x≠n:=by rintro rfl;exact h v aam
   simp[this]
  ·rfl
theorem v8{kindOf:Str->Option NameKind}{x:Str}:∀{binds:List (Str×Value)} {m:Str->Option Value},(∀v,(x,v)∉binds)->bindC kindOf binds m x=m x
 |[],_,_=>rfl
 | (n,v)::r,m,h=>by
  unfold bindC;rw[v8 λw hw=>h w (aal _ hw)]
  split
  ·rfl
  ·have:x≠n:=by rintro rfl;exact h v aam
   simp[this]
theorem v9{kindOf:Str->Option NameKind}{x:Str}{v:Value}:∀{P:List Str} {vs:List Value} {i:Nat} {m:Str->Option Value},P.Nodup->P[i]?=some x->vs[i]?=some v->kindOf x=some .local ->
  bindL kindOf (P.zip vs) m x=some v
 |[],_,_,_,_,h,_,_=>by simp at h
 |_::_,[],_,_,_,_,h,_=>by simp at h
 | p::P,w::vs,0,m,nd,h1,h2,hk=>by
  simp at h1 h2;subst h1;subst h2;show bindL kindOf ((p,w)::P.zip vs) m p=_;unfold bindL;rw[v7 λv hv=>(aaS.mp nd).1 (of_mem_zip hv).1,aar hk];simp
 | p::P,w::vs,i+1,m,nd,h1,h2,hk=>by
  show bindL kindOf ((p,w)::P.zip vs) m x=_;unfold bindL;exact v9 (i:=i) (aaS.mp nd).2 (by simpa using h1) (by simpa using h2) hk
theorem wc{kindOf:Str->Option NameKind}{x:Str}{v:Value}:∀{P:List Str} {vs:List Value} {i:Nat} {m:Str->Option Value},P.Nodup->P[i]?=some x->vs[i]?=some v->kindOf x≠some .local ->
  bindC kindOf (P.zip vs) m x=some v
 |[],_,_,_,_,h,_,_=>by simp at h
 |_::_,[],_,_,_,_,h,_=>by simp at h
 | p::P,w::vs,0,m,nd,h1,h2,hk=>by
  simp at h1 h2;subst h1;subst h2;show bindC kindOf ((p,w)::P.zip vs) m p=_;unfold bindC;rw[v8 λv hv=>(aaS.mp nd).1 (of_mem_zip hv).1,aas hk];simp
 | p::P,w::vs,i+1,m,nd,h1,h2,hk=>by
  show bindC kindOf ((p,w)::P.zip vs) m x=_;unfold bindC;exact wc (i:=i) (aaS.mp nd).2 (by simpa using h1) (by simpa using h2) hk
def start(N:List Str)(vs:List V):St:=vs.map some++replicate (N.length-vs.length) none
def BG(CX:Ew)(P:Program)(w:World)(K:Frag)(mg:Str->Option Value)(base:Heap)(N:List Str)(qual:Str)(scope:Scope)(f:Addr)(cd:Value)(A:Around)(outer:List Env)(s:Shared)(H:Hp)(E:XK):Cx where
 prog:=P
 w:=w
 K:=K
 mg:=mg
 base:=base
 A:=A.deeper (envOfC qual scope s.heap.objs.size f cd)
 N:=N
 s₀:=s
 H₀:=H
 env:=envOfC qual scope s.heap.objs.size f cd
 outer:=outer
 stack:=envOfC qual scope s.heap.objs.size f cd::outer
 ex:=[]
 calm:=true
 fn:=λ_=>true
 pn:=[]
 xe:=λe s'=>wpAny (model P w) (A.deeper (envOfC qual scope s.heap.objs.size f cd)) (leaving (envOfC qual scope s.heap.objs.size f cd) e) (λ_ s''=>CX outer H s E e s'') (λe' s''=>CX outer H s E e' s'') s'
theorem zp{sc:Scope}{n:Nat}{x:Str}(h:sc.names.lookup x=some .cell):∃c,(cellsFrom n sc.names []).lookup x=some c:=by
 have q:=cellsFrom_some sc.names n [] (.inl h);exact Option.isSome_iff_exists.mp q
theorem Ex{CX:Ew}{P:Program}{w:World}{K:Frag}{mg:Str->Option Value}{base:Heap}{N ps:List Str}{qual:Str}{scope:Scope}{f:Addr}{cd:Value}{A:Around}{outer:List Env}{s s1:Shared}{H:Hp}{E:XK}{us:List Value}{vs:List V}
  (S:sM N ps scope) (hd:A.handled=none) (e0:BF P w K mg base A outer s H) (hl:vs.length=ps.length) (r:Vals vs us)
  (x:InCallC s s.heap.objs.size (bindL (envOfC qual scope s.heap.objs.size f cd).kindOf (ps.zip us) λ_=>none) (cellsFrom (s.heap.objs.size+1) scope.names []) (bindC (envOfC qual scope s.heap.objs.size f cd).kindOf (ps.zip us) λ_=>none) s1) :
  Inv (BG CX P w K mg base N qual scope f cd A outer s H E) [] (start N vs) H s1:=by
 have hpl:ps.length<=N.length:=by have:=aa2 length S.pre;rw[abH]at this;omega
 obtain⟨h1,tk,rfl,hk⟩:=x.done;have noA:∀b:Addr,b∉(BG CX P w K mg base N qual scope f cd A outer s H E).ex:=λb z=>absurd (show b∈([]:List Addr) from z) (by simp);refine⟨⟨e0.mod,S.kind,rfl,rfl,aaw _,λy z c h1 h2=>?_,λy hy=>?_,λy c _ h=>?_,λ_=>hd,Around.frames_deeper e0.frames,.inr ⟨rfl,rfl⟩,λb z=>absurd z (noA b),e0.bs,e0.OC,λb _ _=>noA b,λb z=>absurd z (noA b),e0.sd,e0.Py⟩,
  rfl,e0.bare,Un.kept hk,⟨_,x.toInCall.ns,λi y v h1 h2 h3=>?_⟩,λy c h=>⟨_,x.cell y c h⟩,e0.hok.fresh (aaw _),λy c h=>?_,λp hp=>absurd (show p∈([]:List (Addr×Obj)) from hp) (by simp),e0.hok.kept hk,?_⟩
 ·exact name_of_addr x.apart (abx h1) (abx h2)
 ·have hy:scope.names.lookup y=some .cell\/scope.names.lookup y=some .free:=hy
  rcases hy with hy|hy
  ·exact zp hy
  ·exact absurd rfl (S.Qf _ (abx hy))
 ·exact le_of_lt (x.above y c (abx h))
 ·have hi:i<vs.length:=by
   unfold start at h2
   by_cases hi:i<vs.length
   ·exact hi
   ·rw[aaO (by simpa using hi)]at h2;rw[List.getElem?_replicate]at h2;split at h2<;>cases h2
  have ha:vs[i]?=some v:=by
   unfold start at h2;rw[aax (by simpa using hi),aaJ]at h2;cases e:vs[i]? with
   |none=>rw[e]at h2;cases h2
   |some a=>rw[e]at h2;cases h2;rfl
  obtain⟨u,hu,rv⟩:=r.get ha;have hp:ps[i]?=some y:=by rw[<-S.pre,List.getElem?_take_of_lt (by omega)];exact h1
  have ndP:ps.Nodup:=by rw[<-S.pre];exact S.nd.sublist (List.take_sublist _ _)
  refine⟨u,rv,?_⟩
  rcases S.par y (aaM hp) with k|k
  ·exact .inl ⟨k,v9 ndP hp hu k⟩
  ·obtain⟨c,e⟩:=zp (n:=s.heap.objs.size+1) k;refine .inr ⟨.inl k,c,e,?_⟩;have q:=x.cell y c e;rw[wc ndP hp hu (by show scope.names.lookup y≠_;rw[k];decide)]at q;exact q
 ·exact e0.hok.fresh (le_of_lt (x.above y c (abx h)))
 ·unfold start;show _=N.length;rw[aaI,aak,List.length_replicate];omega
theorem U8{CX:Ew}{P:Program}{w:World}{K:Frag}{mg:Str->Option Value}{base:Heap}{k:Nat}{f:Addr}{name qual:Str}{params:Arguments}{body:List Stmt}{scope:Scope}{dV kV doc pm cdv ct oc:Value}{an od:Option Addr}
  {osl:Array (Option Value)} {N ps:List Str} {sp:Sp} (lk:K.lookup f=some ⟨oc,od,.func (fnOf name qual params body scope dV kV doc pm an cdv ct),osl⟩) (hcd:codeIn K cdv qual=true) (S:sM N ps scope)
  (len:∀vs H Q E,sp vs H Q E->vs.length=ps.length)
  (hbody:∀(A:Around) (outer:List Env) (s:Shared) (H:Hp) (vs:List V) (Q:VK) (E:XK),fO k (A.deeper (envOfC qual scope s.heap.objs.size f cdv))->sp vs H Q E ->
   ∃t,Bu (BG CX P w K mg base N qual scope f cdv A outer s H E) body t/\t { nx:=λ_ H'=>Q .non H',rt:=Q } (start N vs) H) :
  gK P w K mg base CX (k+1) f (fnOf name qual params body scope dV kV doc pm an cdv ct) ps sp:=by
 refine⟨len,λA outer s H args us vs Q E hr e0 hb r hsp=>?_⟩;have hl:=len _ _ _ _ hsp;have KX:K.In s.heap:=e0.mod.Uw.keeps λb o e=>(e0.bs b o e).1;have lim:s.heap.NoLimit:=e0.mod.nolimit.keeps λb o e=>(e0.bs b o e).1;have hkind:∀y∈ps.zip us,scope.names.lookup y.1=some .local\/(scope.names.lookup y.1=some .cell/\((cellsFrom (s.heap.objs.size+1) scope.names []).lookup y.1).isSome=true):=λ⟨n,v⟩ hy=>by
  rcases S.par n (of_mem_zip hy).1 with q|q
  ·exact .inl q
  ·exact .inr ⟨q,cellsFrom_some _ _ _ (.inl q)⟩
 refine codeAny_call_function hr.depth (KX _ _ lk) rfl S.co S.gen rfl (PySem.W.codeRec_of KX hcd) (hb _ _ _ _ ?_);refine wpAny_newFunctionEnv_cells S.kind hkind λenv he s1 x=>?_;subst he;refine⟨lim.keeps x.toInCall.keep,codeAny_func ?_⟩;obtain⟨t,ht,hq⟩:=hbody A outer s H vs Q E (hr.deeper _) hsp;have I:Inv (BG CX P w K mg base N qual scope f cdv A outer s H E) [] (start N vs) H s1:=Ex S hr.hd e0 hl r x;refine abb (ht [] s1 (start N vs) H _ I hq) (λfl s' hs=>?_) λe s' hs=>hs;have fin:∀{σ':St} {H':Hp} {v:V} {u:Value},Inv (BG CX P w K mg base N qual scope f cdv A outer s H E) [] σ' H' s'->RelV v u->Q v H'->CE outer P w H s Q u s' :=
  λ{σ' H' v u} J rv q=>⟨v,H',J.os,J.bare,J.base,J.hok,rv,q⟩
 cases fl with
 |ret u=>obtain⟨v,σ',H',J,rv,q⟩:=hs;exact fin J rv q
 |next=>obtain⟨σ',H',J,q⟩:=hs;exact fin (v:=V.non) (u:=Value.none) J rfl q
 |brk=>obtain⟨_,_,_,q⟩:=hs;exact False.elim q
 |cont=>obtain⟨_,_,_,q⟩:=hs;exact False.elim q
section
variable {X:Cx} {x:Str} {p pos:Pos} {e:Expr} {es:List Expr} {t:TA} {id T:String} {r:List V->Hp->VK->Prop}
def tCB(r:List V->Hp->VK->Prop)(t:TA):TE:=λσ H Q=>t σ H λvs H1=>r vs H1 Q
theorem iX(hc:cS X (.builtin id) r)(hg:Gl X x)(hm:X.mg x=none)(hv:bootBuiltins x=some (.builtin id))(ha:PA X (e::es) t)(hn:x ≠ "__name__":=by decide)(hdb:(x==("__debug__":Str))=false:=by decide)
  (he:starEach (e::es) X.env=(false,eval e X.env)::starEach es X.env:=by rfl) (hpl:(backTo pos (starEach es X.env)).any (·.1)=false:=by rfl):PE X (.Call (.Name x p) (e::es) [] pos) (tCB r t):=by
 intro pins s σ H Q I h;refine aa3 (iW I hg hm hv ?_ hn hdb);exact PyProof.Rows.callWith_builtin1 (cO (ha pos pins s σ H _ I h) λus s1 ⟨vs,H1,I1,r1,q1⟩=>hc pins s1 σ H1 vs us Q I1 r1 q1) he hpl
theorem nI(hc:cS X (.type T) r)(hg:Gl X x)(hm:X.mg x=none)(hv:bootBuiltins x=some (.type T))(ha:PA X (e::es) t)(hn:x ≠ "__name__")(hdb:(x==("__debug__":Str))=false)
  (he:starEach (e::es) X.env=(false,eval e X.env)::starEach es X.env) (hpl:(backTo pos (starEach es X.env)).any (·.1)=false):PE X (.Call (.Name x p) (e::es) [] pos) (tCB r t):=by
 intro pins s σ H Q I h;refine aa3 (iW I hg hm hv ?_ hn hdb);exact aa4 (cO (ha pos pins s σ H _ I h) λus s1 ⟨vs,H1,I1,r1,q1⟩=>hc pins s1 σ H1 vs us Q I1 r1 q1) he hpl
end
end L2
namespace HT
open PySem PyProof.Rows
def lexLt:List Int->List Int->Bool
 |[],[]=>false
 |[],_::_=>true
 |_::_,[]=>false
 |x::xs,y::ys=>if x=y then lexLt xs ys else decide (x<y)
theorem gu(x y:Int)(xs ys:List Int):lexLt (x::xs) (y::ys)=if x=y then lexLt xs ys else decide (x<y):=rfl
theorem vA:lexLt [] []=false:=rfl
theorem iY(y:Int)(ys:List Int):lexLt [] (y::ys)=true:=rfl
theorem fR(x:Int)(xs:List Int):lexLt (x::xs) []=false:=rfl
section
variable {prog:Program} {w:World} {A:Around} {E:Value->Shared->Prop} {s:Shared}
def fq(n d:Nat):Option Int->Nat
 |none=>d
 |some v=>if v<0 then (v+(n:Int)).toNat else min v.toNat n
theorem GD(n d:Nat):fq n d none=d:=rfl
theorem sN(n d k:Nat):fq n d (some (k:Int))=min k n:=by
 show (if (k:Int)<0 then ((k:Int)+(n:Int)).toNat else min (k:Int).toNat n)=min k n;rw[aas (by omega),Int.toNat_natCast]
theorem Qg(n d:Nat)(hd:d<=n)(o:Option Int):fq n d o<=n:=by
 cases o with
 |none=>exact hd
 |some v=>
  show (if v<0 then (v+(n:Int)).toNat else min v.toNat n)<=n
  by_cases hv:v<0
  ·rw[aar hv];omega
  ·rw[aas hv];exact Nat.min_le_right _ _
theorem CA(v:Int)(n d:Nat):(if v<0 then max (v+(n:Int)) 0 else min v (n:Int))=((fq n d (some v):Nat):Int):=by
 show (if v<0 then max (v+(n:Int)) 0 else min v (n:Int))=(((if v<0 then (v+(n:Int)).toNat else min v.toNat n):Nat):Int)
 by_cases hv:v<0
 ·simp only[if_pos hv];omega
 ·simp only[if_neg hv];omega
theorem BH(lo hi:Option Int)(n:Nat):Builtin.Slice.sliceAdjust lo hi 1 (n:Int)=(((fq n 0 lo:Nat):Int),((fq n n hi:Nat):Int)):=by
 have h1:¬ ((1:Int)<0):=by omega
 unfold Builtin.Slice.sliceAdjust;simp only[h1,if_false];refine Prod.ext ?_ ?_
 ·cases lo with
  |none=>rfl
  |some v=>exact CA v n 0
 ·cases hi with
  |none=>rfl
  |some v=>exact CA v n n
theorem BI(i j:Nat):Builtin.Slice.slicePlaces (i:Int) (j:Int) 1=j-i:=by
 unfold Builtin.Slice.slicePlaces;have h1:(1:Int)>0:=by omega
 simp only[h1,if_true,Int.ediv_one]
 split<;>omega
theorem tN{o:Option Int}(p:IsPart v o)(h:Q o s):wpAny (model prog w) A (Builtin.Slice.slicePartIndex v) Q E s:=by
 cases p with
 |none=>exact slicePart_none h
 |int i t=>exact slicePart_int h
theorem qz{lo hi:Option Int}{n:Nat}(hs:s.heap.IsSliceOf sl vl vu .none)(pl:IsPart vl lo)(pu:IsPart vu hi)
  (h:Q (((fq n 0 lo:Nat):Int),1,fq n n hi-fq n 0 lo) s):wpAny (model prog w) A (Builtin.Slice.sliceApplied (.ref sl) (pure (n:Int))) Q E s:=by
 obtain⟨os,hos,hcs,hds⟩:=id hs;unfold Builtin.Slice.sliceApplied Builtin.Slice.sliceFields;refine aai (aai (wpAny_field hos hds (x:=vl) rfl (aai (wpAny_field hos hds (x:=vu) rfl (aai (wpAny_field hos hds (x:=.none) rfl (aaq ?_)))))));refine aai (slicePart_none ?_);show wpAny _ _ (if ((1:Int)==0)=true then _ else _) _ _ s;rw[aas (by decide)];refine aai (tN pl (aai (tN pu (aai (aaq ?_)))));show wpAny _ _ (match Builtin.Slice.sliceAdjust lo hi 1 (n:Int) with|(lo,hi)=>pure (lo,(1:Int),Builtin.Slice.slicePlaces lo hi 1)) _ _ s;rw[BH lo hi n];show wpAny _ _ (pure (((fq n 0 lo:Nat):Int),(1:Int),Builtin.Slice.slicePlaces ((fq n 0 lo:Nat):Int) ((fq n n hi:Nat):Int) 1)) _ _ s;rw[BI];exact aaq h
theorem GF(xs:Array Value)(i k:Nat):((List.range k).filterMap λ(m:Nat)=>xs[((i:Int)+(m:Int)*1).toNat]?).toArray=((xs.toList.drop i).take k).toArray:=by
 have e:(λ(m:Nat)=>xs[((i:Int)+(m:Int)*1).toNat]?)=λm=>xs[i+m]?:=by
  funext m;have:((i:Int)+(m:Int)*1).toNat=i+m:=by omega
  rw[this]
 rw[e];have:=pick_run xs i k;rw[List.filterMap_map]at this;have e2:((λx=>xs[x]?)∘λx=>i+x)=λm=>xs[i+m]?:=rfl;rw[e2]at this;rw[this]
theorem pB{lo hi:Option Int}(ht:IsTup s.heap t items)(hs:s.heap.IsSliceOf sl vl vu .none)(pl:IsPart vl lo)(pu:IsPart vu hi)
  (hw:¬ (fq items.size 0 lo=0/\fq items.size items.size hi=items.size))
  (h:Q (.ref s.heap.objs.size) { s with heap:=s.heap.push { cls:=.type "tuple",data:=.seq ((items.toList.drop (fq items.size 0 lo)).take (fq items.size items.size hi-fq items.size 0 lo)).toArray } })
  (hsz:items.size<=sizeLine):wpAny (model prog w) A (getItem (.ref t) (.ref sl)) Q E s:=by
 have CB:sizeOk (.seq ((items.toList.drop (fq items.size 0 lo)).take (fq items.size items.size hi-fq items.size 0 lo)).toArray):=by show ((items.toList.drop (fq items.size 0 lo)).take (fq items.size items.size hi-fq items.size 0 lo)).toArray.size<=sizeLine;rw[aaE,abH,length_drop,aaW];omega
 have hj:fq items.size items.size hi<=items.size:=Qg _ _ (aaw _) hi;obtain⟨os,hos,hcs,hds⟩:=id hs;have YY:s.TypeIs (.ref sl) "slice":=⟨os,hos,hcs⟩;unfold getItem
 try with_reducible refine abt ?_
 first|refine aai (aaq ?_)|skip
 refine aai (wpAny_sequenceKey ht.typeIs (by decide) ?_);refine aai (wpAny_callSpecial?_slot (name:=Str.ofString "__getitem__") ht.typeIs PyProof.Rows.slot_tuple_getitem
  (wpAny_call_entry PyProof.Rows.slot_tuple_getitem ht.typeIs entry_tuple_getitem ?_ (args_tuple_getitem _ _)))
 show wpAny _ _ (Builtin.Tuple.tupleItemsOf (.ref t) >>= _) _ _ s;refine aai (tupleItemsOf_ ht ?_);refine aai (wpAny_typeOf YY ?_);rw[aar (by decide)];refine aai (qz hs pl pu ?_);have hno:¬ ((((fq items.size 0 lo:Nat):Int)==0&&(1:Int)==1&&(fq items.size items.size hi-fq items.size 0 lo)==items.size)=true):=by intro q;rw[and_eq_true,and_eq_true]at q;have q1:((fq items.size 0 lo:Nat):Int)=0:=eq_of_beq q.1.1;have q2:fq items.size items.size hi-fq items.size 0 lo=items.size:=eq_of_beq q.2;exact hw ⟨by omega,by omega⟩
 show wpAny _ _ (if (((fq items.size 0 lo:Nat):Int)==0&&(1:Int)==1&&(fq items.size items.size hi-fq items.size 0 lo)==items.size)=true then _ else _) _ _ s;rw[aas hno,GF]
 first
  |exact aai (m:=Builtin.Tuple.tupleExact _) (aaZ (aaq ⟨_,rfl,aaq h⟩) CB)
  |exact aai (m:=Builtin.Tuple.tupleExact _) (aaZ (aai (aaq (aaq ⟨_,rfl,aaq h⟩))) CB)
  |exact aai (aai (m:=Builtin.Tuple.tupleExact _) (aaZ (aaq (aaq ⟨_,rfl,aaq h⟩)) CB))
  |exact aai (aai (m:=Builtin.Tuple.tupleExact _) (aaZ (aaq ⟨_,rfl,aaq h⟩) CB))
end
end HT
namespace L2
open PySem PySem.Spec PyProof.Rows
abbrev TO:=St->Hp->(Option Int->Hp->Prop)->Prop
def PO(X:Cx)(e:Option Expr)(t:TO):Prop :=
 ∀(pins:List (Addr×Obj)) (s:Shared) (σ:St) (H:Hp) (Q:Option Int->Hp->Prop),Inv X pins σ H s->t σ H Q ->
  wpAny (model X.prog X.w) X.A (evalPart e X.env) (λu s'=>∃o H',Inv X pins σ H' s'/\IsPart u o/\Q o H') X.xe s
def Mb:TO:=λ_ H Q=>Q none H
def U9(t:TE):TO:=λσ H Q=>t σ H λx H1=>∃i,x=.int i/\Q (some i) H1
theorem intsAre_of{ns:List Int}:∀{us:List Value},Vals (ns.map V.int) us->IntsAre us ns:=by
 induction ns with
 |nil=>intro us r;rw[abG]at r;cases r;exact .nil
 |cons n ns ih=>
  intro us r;rw[aau]at r;cases r with
  |cons r1 r2=>obtain⟨t,e⟩:=r1;subst e;exact .cons n t (ih r2)
section
variable {X:Cx} {e:Expr} {te:TE} {lo hi:Option Expr} {tl th:TO} {pos p2:Pos}
theorem Mc:PO X none Mb:=by
 intro pins s σ H Q I h;rw[evalPart_none];exact aaq ⟨none,H,I,.none,h⟩
theorem Mf(h:PE X e te):PO X (some e) (U9 te):=by
 intro pins s σ H Q I hw;rw[evalPart_some];refine cO (h pins s σ H _ I hw) λu s1 aS=>?_;obtain⟨x,H1,I1,r1,q1⟩:=aS;obtain⟨i,rfl,q⟩:=q1;obtain⟨t,rfl⟩:=r1;exact⟨some i,H1,I1,.int i t,q⟩
def Yc(X:Cx)(r:V->Option Int->Option Int->Hp->VK->Prop):Prop :=
 ∀(pins:List (Addr×Obj)) (s:Shared) (σ:St) (H:Hp) (x:V) (v vl vu:Value) (lo hi:Option Int) (sl:Addr) (Q:VK),Inv X pins σ H s->RelV x v->s.heap.IsSliceOf sl vl vu .none->IsPart vl lo->IsPart vu hi->r x lo hi H Q ->
  ∃T id,typeLookup (.type T) "__getitem__" = pure (some (.builtin id))/\s.TypeIs v T/\wpAny (model X.prog X.w) X.A (getItem v (.ref sl)) (EP X pins σ Q) X.xe s
def tSl(r:V->Option Int->Option Int->Hp->VK->Prop)(te:TE)(tl th:TO):TE:=λσ H Q=>te σ H λx H1=>tl σ H1 λl H2=>th σ H2 λu H3=>r x l u H3 Q
theorem GG(hr:Yc X r)(he:PE X e te)(hl:PO X lo tl)(hu:PO X hi th):PE X (.Subscript e (.Slice lo hi none p2) pos) (tSl r te tl th):=by
 intro pins s σ H Q I h;refine Subscript_ (cO (he pins s σ H _ I h) λv s1 aS=>?_);obtain⟨x,H1,I1,r1,q1⟩:=aS;refine wpAny_Slice (cO (hl pins s1 σ H1 _ I1 q1) λvl s2 ⟨l,H2,I2,pl,q2⟩=>cO (hu pins s2 σ H2 _ I2 q2) λvu s3 aS=>?_);obtain⟨u,H3,I3,pu,q3⟩:=aS;rw[evalPart_none];refine aaq ?_;have I4:Inv X pins σ H3 { s3 with heap:=s3.heap.push { cls:=.type "slice",data:=.fields [vl,vu,.none].toArray } }:=I3.kept (t':=s3.toks) λb ob q=>aap _ q;obtain⟨T,id,hT,ht,hg⟩:=hr pins { s3 with heap:=s3.heap.push { cls:=.type "slice",data:=.fields [vl,vu,.none].toArray } } σ H3 x v vl vu l u s3.heap.objs.size Q I4 r1 (Heap.IsSliceOf.new ..) pl pu q3;show wpAny (model X.prog X.w) X.A (subscriptTail e (.Slice lo hi none p2) v (.ref s3.heap.objs.size)) (EP X pins σ Q) X.xe { s3 with heap:=s3.heap.push { cls:=.type "slice",data:=.fields [vl,vu,.none].toArray } };exact tail_any (ops:=[.ref s3.heap.objs.size,v]) ht hT hg (by with_unfolding_all rfl)
def zq(xs:List V)(lo hi:Option Int):List V:=(xs.drop (HT.fq xs.length 0 lo)).take (HT.fq xs.length xs.length hi-HT.fq xs.length 0 lo)
theorem rL(xs:List V)(lo hi:Option Int):(zq xs lo hi).length<=xs.length:=by
 unfold zq;rw[abH,length_drop];omega
def YZ(K:Frag):V->Option Int->Option Int->Hp->VK->Prop:=λx lo hi H Q=>∃a xs,x=.ref a/\mh K H a xs /\
 ¬ (HT.fq xs.length 0 lo=0/\HT.fq xs.length xs.length hi=xs.length)/\∀p,H p=none->Q (.ref p) (upd H p (.tup (zq xs lo hi)))
theorem Qh:Yc X (YZ X.K):=by
 intro pins s σ H x v vl vu lo hi sl Q I rx hs pl pu h;obtain⟨a,xs,rfl,hx,hw,q⟩:=h;cases rx;obtain⟨its,r,ht,hz⟩:=I.tuple hx;have hlen:its.toArray.size=xs.length:=by rw[aaE];exact r.length.symm
 refine⟨"tuple",_,PyProof.Rows.slot_tuple_getitem.lookup,ht.typeIs,?_⟩;refine HT.pB ht hs pl pu (by rw[hlen];exact hw) ?_ (by rw[hlen];exact hz);rw[hlen];refine⟨.ref s.heap.objs.size,_,I.laid (t':=s.toks) (o:=.tup (zq xs lo hi)) (λb ob q=>aap _ q) (aaw _) ?_,rfl,q _ (I.hok.fresh (aaw _))⟩;exact⟨aaN (rL xs lo hi) hz,_,(r.drop (HT.fq xs.length 0 lo)).take (HT.fq xs.length xs.length hi-HT.fq xs.length 0 lo),IsTup.new _ _⟩
end
def OI(n:Nat)(i:Int):Option Nat:=if 0<=i then (if i<n then some i.toNat else none) else if -(n:Int)<=i then some (i+n).toNat else none
def oB{α:Type}(xs:List α)(i:Int):Option α:=(OI xs.length i).bind λj=>xs[j]?
theorem Mg{n:Nat}{i:Int}{j:Nat}(h:OI n i=some j):seqIndex? i n=some j/\j<n /\ -(n:Int)<=i/\i<n:=by
 unfold OI at h
 by_cases h0:0<=i
 ·rw[aar h0]at h
  by_cases h1:i<n
  ·rw[aar h1]at h;have e:i.toNat=j:=aaQ h;exact⟨by rw[seqIndex_of h0 h1,e],by omega,by omega,h1⟩
  ·rw[aas h1]at h;cases h
 ·rw[aas h0]at h
  by_cases h1:-(n:Int)<=i
  ·rw[aar h1]at h;have e:(i+n).toNat=j:=aaQ h;exact⟨by rw[seqIndex_neg (by omega) h1,e],by omega,h1,by omega⟩
  ·rw[aas h1]at h;cases h
theorem CC{α:Type}{xs:List α}{i:Int}{v:α}(h:oB xs i=some v):∃j,seqIndex? i xs.length=some j/\xs[j]?=some v/\j<xs.length /\ -(xs.length:Int)<=i/\i<xs.length:=by
 unfold oB at h;cases e:OI xs.length i with
 |none=>rw[e]at h;cases h
 |some j=>rw[e]at h;obtain⟨h1,h2,h3,h4⟩:=Mg e;exact⟨j,h1,h,h2,h3,h4⟩
theorem pC{α:Type}{xs:List α}{j:Nat}{v:α}(h:xs[j]?=some v):oB xs (j:Int)=some v:=by
 have hj:j<xs.length:=(aao.mp h).1;have e:OI xs.length (j:Int)=some j:=by unfold OI;rw[aar (by omega),aar (by omega)];simp
 unfold oB;rw[e];exact h
def CD(b:Expr):Prop:=∀o i,subscripted b false o i=operate [o,i] (getItem o i)
def Va(X:Cx)(r:R2):Prop :=
 ∀(value slice:Expr) (pins:List (Addr×Obj)) (s:Shared) (σ:St) (H:Hp) (x y:V) (v u:Value) (Q:VK),Inv X pins σ H s->RelV x v->RelV y u->r x y H Q ->
  subscripted slice false v u=operate [v,u] (getItem v u)->wpAny (model X.prog X.w) X.A (subscriptTail value slice v u) (EP X pins σ Q) X.xe s
def Ug(X:Cx)(id:String)(r:V->List V->Hp->VK->Prop):Prop :=
 ∀(pins:List (Addr×Obj)) (s:Shared) (σ:St) (H:Hp) (x:V) (xs:List V) (v:Value) (us:List Value) (Q:VK),Inv X pins σ H s->RelV x v->Vals xs us->r x xs H Q ->
  wpAny (model X.prog X.w) X.A (call (.builtin id) (v::us)) (EP X pins σ Q) X.xe s
section
variable {X:Cx} {a b:Expr} {ta tb:TE} {pos:Pos}
theorem Vb(hr:Va X r)(ha:PE X a ta)(hb:PE X b tb)(hs:CD b):PE X (.Subscript a b pos) (X8 r ta tb):=by
 intro pins s σ H Q I h;exact Subscript_ (P0 ha hb I h λv u s2 x y H2 I2 rx ry q=>hr a b pins s2 σ H2 x y v u Q I2 rx ry q (hs _ _))
def Y0(K:Frag):R2:=λx y H Q=>∃p xs i v,x=.ref p/\y=.int i/\iD K H p xs/\oB xs i=some v/\Q v H
def Y3(K:Frag):R2:=λx y H Q=>∃p xs i v,x=.ref p/\y=.int i/\mh K H p xs/\oB xs i=some v/\Q v H
theorem CF:Va X (Y0 X.K):=by
 intro value slice pins s σ H x y v u Q I rx ry h hs;obtain⟨p,xs,i,z,rfl,rfl,hq,he,q⟩:=h;cases rx;obtain⟨t,rfl⟩:=ry;obtain⟨its,r,pl,hz⟩:=I.list hq;obtain⟨j,h1,h2,h3,h4,h5⟩:=CC he;obtain⟨w,ew,rw'⟩:=r.get h2;have hl:=r.length;have hn:=xX;have fin:EP X pins σ Q w s:=⟨z,H,I,rw',q⟩
 by_cases h0:0<=i
 ·have hj:i.toNat=j:=by
   rw[seqIndex_of h0 h5]at h1;exact aaQ h1
  exact item_listR pl.isList h0 (by omega) (by rw[hj];simpa using ew) fin hs
 ·have hj:(i+(its.toArray.size:Int)).toNat=j:=by
   rw[seqIndex_neg (by omega) h4]at h1;rw[aaE,<-hl];exact aaQ h1
  exact subscriptTail_builtinR (x:=w) pl.isList.typeIs slot_list_getitem.lookup
   (wpAny_getItem_list_neg (Q:=λr s'=>r=w/\EP X pins σ Q r s') pl.isList (by omega) (by rw[aaE]<;>omega) (by omega) (by rw[hj];simpa using ew) ⟨rfl,fin⟩) hs
theorem Qi:Va X (Y3 X.K):=by
 intro value slice pins s σ H x y v u Q I rx ry h hs;obtain⟨p,xs,i,z,rfl,rfl,hq,he,q⟩:=h;cases rx;obtain⟨t,rfl⟩:=ry;obtain⟨its,r,pl,hz⟩:=I.tuple hq;obtain⟨j,h1,h2,h3,h4,h5⟩:=CC he;obtain⟨w,ew,rw'⟩:=r.get h2;have hl:=r.length;have hn:=xX;have fin:EP X pins σ Q w s:=⟨z,H,I,rw',q⟩;exact subscriptTail_builtinR (x:=w) pl.typeIs slot_tuple_getitem.lookup
  (getItem_tuple (j:=j) (Q:=λr s'=>r=w/\EP X pins σ Q r s') pl (by omega) (by omega) (by rw[aaE,<-hl];exact h1) (by simpa using ew) ⟨rfl,fin⟩) hs
theorem x8(lo hi:Option Int)(n:Nat):(sliceBounds lo hi none n).1=((HT.fq n 0 lo:Nat):Int)/\(sliceBounds lo hi none n).2.1=((HT.fq n n hi:Nat):Int)/\(sliceBounds lo hi none n).2.2=1:=by
 refine⟨?_,?_,rfl⟩
 ·cases lo with
  |none=>simp[sliceBounds,HT.fq]
  |some i=>
   simp only[sliceBounds,HT.fq,getD_none,show (1:Int)>0 by decide,if_true]
   by_cases h:i<0
   ·simp only[h,if_true]<;>omega
   ·simp only[h,if_false]<;>omega
 ·cases hi with
  |none=>simp[sliceBounds,HT.fq]
  |some i=>
   simp only[sliceBounds,HT.fq,getD_none,show (1:Int)>0 by decide,if_true]
   by_cases h:i<0
   ·simp only[h,if_true]<;>omega
   ·simp only[h,if_false]<;>omega
theorem vB(its:List Value)(lo hi:Option Int):slicePick its.toArray lo hi none=((its.drop (HT.fq its.length 0 lo)).take (HT.fq its.length its.length hi-HT.fq its.length 0 lo)).toArray:=by
 obtain⟨h1,h2,h3⟩:=x8 lo hi its.toArray.size;unfold slicePick;rw[h1,h2,h3];simp only[sliceRange_one,pick_run,size_toArray]<;>rfl
def Y4(K:Frag):V->Option Int->Option Int->Hp->VK->Prop:=λx lo hi H Q=>∃a xs,x=.ref a/\iD K H a xs/\∀p,H p=none->Q (.ref p) (upd H p (.lst (zq xs lo hi)))
theorem Mh:Yc X (Y4 X.K):=by
 intro pins s σ H x v vl vu lo hi sl Q I rx hs pl pu h;obtain⟨a,xs,rfl,hx,q⟩:=h;cases rx;obtain⟨its,r,ht,hz⟩:=I.list hx;have hlen:=r.length;refine⟨"list",_,slot_list_getitem.lookup,ht.isList.typeIs,?_⟩;refine wpAny_getItem_list_slice ht.isList hs pl pu .none (by simp) ?_ (by rw[aaE]<;>omega);rw[vB,<-hlen];refine⟨.ref s.heap.objs.size,_,I.laid (t':=s.toks) (o:=.lst (zq xs lo hi)) (λb ob q=>aap _ q) (aaw _) ?_,rfl,q _ (I.hok.fresh (aaw _))⟩;exact⟨aaN (rL xs lo hi) hz,_,0,(r.drop (HT.fq xs.length 0 lo)).take (HT.fq xs.length xs.length hi-HT.fq xs.length 0 lo),aaB _ rfl⟩
def bP:V->Bool
 |.non=>true
 |.bl _=>true
 |.int _=>true
 |.str _=>true
 |_=>false
theorem x9:cS X (.type "list") (λxs H Q=>∃p ys,xs=[.ref p]/\(iD X.K H p ys\/mh X.K H p ys)/\∀l,H l=none->Q (.ref l) (upd H l (.lst ys))):=by
 intro pins s σ H xs us Q I r h;obtain⟨p,ys,rfl,hq,q⟩:=h;obtain⟨u,rfl,rx⟩:=vals1 r;cases rx;have fin:∀(its:List Value),Vals ys its->ys.length<=sizeLine->∀(h':Heap) (c':Nat),(∀b o',s.heap.get? b=some o'->h'.get? b=some o') ->
   h'.get? s.heap.objs.size=some { cls:=.type "list",dict:=none,data:=.seq its.toArray c',slots:=#[] }->EP X pins σ Q (.ref s.heap.objs.size) { s with heap:=h' }:=λits r' hz h' c' kp e=>
  ⟨.ref s.heap.objs.size,_,I.laid (t':=s.toks) kp (aaw _) (show cj X.prog X.w _ h' _ (.lst ys) from⟨hz,its,c',r',e⟩),rfl,q _ (I.hok.fresh (aaw _))⟩
 rcases hq with hq|hq
 ·obtain⟨its,r',pl,hz⟩:=I.list hq;have hlen:=r'.length;obtain⟨o,ho,hc,n,hd⟩:=pl.isList;exact call_list_seq p (.inl rfl) ho hc hd (λh' c' kp e=>fin its r' hz h' c' kp e) (by simp only[size_toArray]<;>omega)
 ·obtain⟨its,r',pl,hz⟩:=I.tuple hq;have hlen:=r'.length;obtain⟨o,ho,hc,n,hd⟩:=pl;exact call_list_seq p (.inr rfl) ho hc hd (λh' c' kp e=>fin its r' hz h' c' kp e) (by simp only[size_toArray]<;>omega)
def Yd(K:Frag)(T:String)(x:V)(H:Hp):Prop:=match x with
 |.str _=>T = "str"
 |.int _=>T = "int"
 | .ref p=>(T = "list" /\ ∃xs,iD K H p xs)\/(T = "tuple" /\ ∃o,K.lookup p=some o/\o.cls=.type "tuple" /\ o.dict=none) \/
   (T = "dict" /\ ((∃kvs,H p=some (.dK kvs))\/∃kvs,H p=some (.dT kvs)))\/(T = "set" /\ ∃S n,H p=some (.set S n))
 |_=>False
theorem GH{T:String}(I:Inv X pins σ H s)(r:RelV x v)(ty:Yd X.K T x H) :
  s.TypeIs v T/\∀a,v=.ref a->∃ob,s.heap.get? a=some ob/\ob.dict=none:=by
 cases x with
 |str z=>obtain⟨t,rfl⟩:=r;cases (show T = "str" from ty);exact⟨typeIs_str s z t,λ_ e=>nomatch e⟩
 |int i=>obtain⟨t,rfl⟩:=r;cases (show T = "int" from ty);exact⟨typeIs_int s i t,λ_ e=>nomatch e⟩
 |ref p=>
  cases r
  rcases ty with ⟨rfl,xs,hq⟩|⟨rfl,o,hk,hc,hd⟩|⟨rfl,hk⟩|⟨rfl,S,n,hk⟩
  ·obtain⟨its,_,pl,_⟩:=I.list hq;refine⟨pl.isList.typeIs,λa e=>?_⟩;cases e;obtain⟨o,n,e,c,hd,_⟩:=pl;exact⟨o,e,hd⟩
  ·refine⟨⟨o,I.sI p o hk,hc⟩,λa e=>?_⟩;cases e;exact⟨o,I.sI _ o hk,hd⟩
  ·have z:∃o,s.heap.get? p=some o/\o.ExactDict:=by
    rcases hk with ⟨kvs,hk⟩|⟨kvs,hk⟩
    ·obtain⟨_,_,_,_,o,_,_,e,ex,_⟩:=I.hok p _ hk;exact⟨o,e,ex⟩
    ·obtain⟨_,_,_,_,o,_,_,e,ex,_⟩:=I.hok p _ hk;exact⟨o,e,ex⟩
   obtain⟨o,e,ex⟩:=z;refine⟨⟨o,e,ex.1⟩,λa e2=>?_⟩;cases e2;exact⟨o,e,ex.2.1⟩
  ·obtain⟨o,_,_,_,e,ex,_⟩:=I.hok p _ hk;refine⟨⟨o,e,ex.1⟩,λa e2=>?_⟩;cases e2;exact⟨o,e,ex.2.1⟩
 |_=>exact False.elim ty
def tBM0(K:Frag)(T:String)(r:V->List V->Hp->VK->Prop)(to:TE):TE:=λσ H Q=>to σ H λx H1=>Yd K T x H1/\r x [] H1 Q
def tBM(K:Frag)(T:String)(r:V->List V->Hp->VK->Prop)(to:TE)(t:TA):TE:=λσ H Q=>to σ H λx H1=>Yd K T x H1/\t σ H1 λxs H2=>r x xs H2 Q
variable {o e:Expr} {es:List Expr} {to:TE} {t:TA} {name:Str} {apos cpos:Pos} {T id:String} {r:V->List V->Hp->VK->Prop}
theorem Qj(pa:PlainAttrs T)(slot:Slot T name id)(hty:typeOf (.builtin id)=pure (.type "method_descriptor"))(hm:Ug X id r)(ho:PE X o to)
  (hbase:attributeBase o name X.env (eval o X.env)=eval o X.env) (hline:(apos.endLine==cpos.line)=true):PE X (.Call (.Attribute o name apos) [] [] cpos) (tBM0 X.K T r to):=by
 intro pins s σ H Q I h;refine wpAny_Call_method0_late hbase hline (cO (ho pins s σ H _ I h) λv s1 aS=>?_);obtain⟨x,H1,I1,r1,ty,q1⟩:=aS;obtain⟨h1,h2⟩:=GH I1 r1 ty;exact⟨T,id,pa,slot,hty,h1,h2,Calls.callWith_builtin rfl (PySem.evalArgs_none (hm pins s1 σ H1 x [] v [] Q I1 r1 .nil q1))⟩
theorem GI(pa:PlainAttrs T)(slot:Slot T name id)(hty:typeOf (.builtin id)=pure (.type "method_descriptor"))(hm:Ug X id r)(ho:PE X o to)(ha:PA X (e::es) t)
  (hbase:attributeBase o name X.env (eval o X.env)=eval o X.env)
  (hfew:((backTo cpos (starEach (e::es) X.env)).all (λx=>!x.1)&&(backToKw cpos (keywordEach [] X.env)).all (λx=>x.1.isSome)
   && decide ((e::es).length+([]:List Keyword).length+(if ([]:List Keyword).isEmpty then 0 else 1)<30))=true)
  (hline:(apos.endLine==cpos.line)=true) (hs:starEach (e::es) X.env=(false,eval e X.env)::starEach es X.env) (hplain:(backTo cpos (starEach es X.env)).any (·.1)=false) :
  PE X (.Call (.Attribute o name apos) (e::es) [] cpos) (tBM X.K T r to t):=by
 intro pins s σ H Q I h;refine wpAny_Call_method_late hbase hfew hline rfl (cO (ho pins s σ H _ I h) λv s1 aS=>?_);obtain⟨x,H1,I1,r1,ty,q1⟩:=aS;obtain⟨h1,h2⟩:=GH I1 r1 ty;refine⟨T,id,pa,slot,hty,h1,h2,?_⟩;have hA:=ha cpos pins s1 σ H1 _ I1 q1;rw[hs]at hA |-;refine Calls.callWith_builtin (by show (false||(backTo cpos (starEach es X.env)).any (·.1))=false;rw[hplain]<;>rfl) (Calls.evalArgs_plain ?_);exact cO hA λus s2 ⟨vs,H2,I2,r2,q2⟩=>hm pins s2 σ H2 x vs v us Q I2 r1 r2 q2
/- xs.append(e),list.index on a Vc tuple .. are Ug facts of 06m -/
end
def Y5(X:Cx)(id:String)(r:V->List V->Hp->VK->Prop):Prop :=
 ∀(pins:List (Addr×Obj)) (s:Shared) (σ:St) (H:Hp) (x:V) (xs:List V) (v:Value) (us:List Value) (Q:VK),Inv X pins σ H s->RelV x v->Vals xs us->r x xs H Q ->
  wpAny (model X.prog X.w) X.A (call (.builtin id) (v::us)) (EP X pins σ Q) X.xe s
theorem Vals.one:∀{x:V} {us:List Value},Vals [x] us->∃u,us=[u]/\RelV x u
 |_,_,.cons r .nil=>⟨_,rfl,r⟩
theorem Vals.zero:∀{us:List Value},Vals [] us->us=[]
 |_,.nil=>rfl
section
variable {X:Cx} {pins:List (Addr×Obj)} {σ:St} {H:Hp} {s:Shared} {l b:Addr} {xs ys zs:List V}
theorem Inv.Qk{its its':List Value}{n:Nat}{f:Array Value->Array Value}{t':Nat}(I:Inv X pins σ H s)(hH:H l=some (.lst xs))
  (e:s.heap.get? l=some { cls:=.type "list",data:=.seq its.toArray n }) (hf:f its.toArray=its'.toArray) (hv:Vals ys its') (hz:ys.length<=sizeLine) :
  Inv X pins σ (upd H l (.lst ys)) { s with heap:=s.heap.update l (Obj.mapSeq f),toks:=t' }:=by
 have q:=PySem.IsL.update e f;rw[hf]at q;refine I.write (x:=l) (e:=l) (by rw[hH];exact trivial) (.inl rfl) (λb' u hb hu=>(Heap.get?_update_other s.heap (Obj.mapSeq f) (Ne.symm hb)).trans hu) ⟨_,q⟩ ?_;exact⟨hz,its',_,hv,q⟩
theorem Inv.Y6{t':Nat}(I:Inv X pins σ H s)(hv:Vals ys its)(hz:ys.length<=sizeLine) :
  Inv X pins σ (upd H s.heap.objs.size (.lst ys)) { s with heap:=s.heap.push { cls:=.type "list",data:=.seq its.toArray },toks:=t' } :=
 I.laid (λ_ _ q=>aap _ q) (aaw _) ⟨hz,its,0,hv,aaB _ rfl⟩
theorem Inv.Ql(I:Inv X pins σ H s)(hH:H l=some (.lst xs)):xs.length<=sizeLine/\∃(its:List Value) (n:Nat),Vals xs its/\xs.length=its.length/\s.heap.get? l=some { cls:=.type "list",data:=.seq its.toArray n }:=by
 obtain⟨z,its,n,r,e⟩:=I.hok l _ hH;exact⟨z,its,n,r,r.length,e⟩
theorem GJ{n:Nat}(h:n<=sizeLine):Builtin.List.listTooLong n=false:=by
 unfold Builtin.List.listTooLong;exact decide_eq_false (by omega)
end
section
variable {X:Cx}
def Mi:V->List V->Hp->VK->Prop:=λx vs H Q=>∃l xs y,x=.ref l/\vs=[y]/\H l=some (.lst xs)/\xs.length<sizeLine/\Q .non (upd H l (.lst (xs++[y])))
theorem we:Y5 X "list.append" Mi:=by
 intro pins s σ H x vs v us Q I rx rv h;obtain⟨l,xs,y,rfl,rfl,hH,hz,q⟩:=h;cases rx;obtain⟨u,rfl,ru⟩:=rv.one;obtain⟨z,its,n,r,hl,e⟩:=I.Ql hH;refine call_meets F.slot_list_append ⟨_,e,rfl⟩ F.entry_list_append (F.args_list_append_2 _ _) (PySem.list_append l its.toArray n u (by rw[aaE];omega)) ⟨e,?_⟩;refine⟨.non,_,I.Qk (its':=its++[u]) hH e (by simp) (r.append #[ru]) ?_,rfl,q⟩;rw[aaI,List.length_singleton];omega
def Qm:V->List V->Hp->VK->Prop:=λx vs H Q=>∃l xs,x=.ref l/\vs=[]/\H l=some (.lst xs)/\Q .non (upd H l (.lst []))
theorem GK:Y5 X "list.clear" Qm:=by
 intro pins s σ H x vs v us Q I rx rv h;obtain⟨l,xs,rfl,rfl,hH,q⟩:=h;cases rx;have hus:=rv.zero;subst hus;obtain⟨z,its,n,r,hl,e⟩:=I.Ql hH;refine call_meets F.slot_list_clear ⟨_,e,rfl⟩ F.entry_list_clear (F.args_list_clear_1 _) (AutoSeq1.list_clear_list_0 l its.toArray n (by rw[aaE];omega)) ⟨e,?_⟩;exact⟨.non,_,I.Qk (its':=[]) (ys:=[]) hH e rfl .nil (abi _),rfl,q⟩
end
section
variable {κ:Type} [DecidableEq κ]
def gM(kvs:List (κ × V))(k:κ):Option V:=(kvs.find? λkv=>decide (kv.1=k)).map (·.2)
def putK(kvs:List (κ × V))(k:κ)(v:V):List (κ × V) :=
 if (kvs.any λkv=>decide (kv.1=k))=true then kvs.map (λkv=>if kv.1=k then (kv.1,v) else kv) else kvs++[(k,v)]
theorem tO{p:κ × V}{r:List (κ × V)}{k:κ}(e:p.1=k):gM (p::r) k=some p.2:=by simp[gM,find?_cons,e]
theorem tQ{p:κ × V}{r:List (κ × V)}{k:κ}(e:¬ p.1=k):gM (p::r) k=gM r k:=by simp[gM,find?_cons,e]
theorem zu(k:κ):∀kvs:List (κ × V),(kvs.any λkv=>decide (kv.1=k))=(gM kvs k).isSome
 |[]=>rfl
 | p::r=>by
  rw[any_cons]
  by_cases e:p.1=k
  ·simp only[tO e,decide_eq_true e,Bool.true_or,Option.isSome_some]
  ·rw[tQ e,decide_eq_false e,Bool.false_or];exact zu k r
theorem mw(kvs:List (κ × V))(k:κ)(v:V):(putK kvs k v).length<=kvs.length+1:=by
 unfold putK
 split
 ·rw[aak];omega
 ·rw[aaI,aaH,length_nil];omega
theorem lW.Ey(r:lW o u):o.isSome=u.isSome:=by
 cases o with
 | none=>cases u with
  |none=>rfl
  |some _=>exact(show False from r).elim
 | some _=>cases u with
  |none=>exact(show False from r).elim
  |some _=>rfl
theorem lW.getD(r:lW o u)(rd:RelV d d'):RelV (o.getD d) (u.getD d'):=by
 cases o with
 | none=>cases u with
  |none=>exact rd
  |some _=>exact(show False from r).elim
 | some _=>cases u with
  |none=>exact(show False from r).elim
  |some _=>exact r
theorem KV.val(r:KV kvs vs)(k:κ):lW (gM kvs k) (valueAt vs k):=by
 unfold KV at r
 induction r with
 |nil=>exact abI
 |@cons p q ps qs h t ih=>
  obtain⟨h1,h2⟩:=h
  by_cases e:p.1=k
  ·have e':q.1=k:=h1.symm.trans e
   have b:valueAt (q::qs) k=some q.2:=by simp[valueAt,find?_cons,e']
   rw[tO e,b];exact h2
  ·have e':¬ q.1=k:=λz=>e (h1.trans z)
   have b:valueAt (q::qs) k=valueAt qs k:=by simp[valueAt,find?_cons,e']
   rw[tQ e,b];exact ih
theorem KV.any(r:KV kvs vs)(k:κ):(kvs.any λkv=>decide (kv.1=k))=vs.any λkv=>decide (kv.1=k):=by
 unfold KV at r
 induction r with
 |nil=>rfl
 |cons h t ih=>rw[any_cons,any_cons,ih,h.1]
theorem KV.repl(r:KV kvs vs)(k:κ)(ry:RelV y u) :
  KV (kvs.map λkv=>if kv.1=k then (kv.1,y) else kv) (vs.map λkv=>if kv.1=k then (kv.1,u) else kv):=by
 unfold KV at r |-
 induction r with
 |nil=>exact .nil
 |@cons p q ps qs h t ih=>
  rw[aau,aau];refine .cons ?_ ih;obtain⟨h1,h2⟩:=h
  by_cases e:p.1=k
  ·rw[aar e,aar (h1.symm.trans e)];exact⟨h1,ry⟩
  ·rw[aas e,aas (λz=>e (h1.trans z))];exact⟨h1,h2⟩
theorem KV.put(r:KV kvs vs)(k:κ)(ry:RelV y u):KV (putK kvs k y) (stored vs k u):=by
 unfold putK stored;rw[r.any k]
 by_cases e:(vs.any λkv=>decide (kv.1=k))=true
 ·rw[aar e,aar e];exact r.repl k ry
 ·rw[aas e,aas e];exact Paired.snoc r ⟨rfl,ry⟩
theorem KV.length(r:KV kvs vs):kvs.length=vs.length:=Paired.length r
end
theorem zv(r:RelV (kV k) u):(bh P w).is k u=true:=by
 cases k with
 |inl i=>obtain⟨t,e⟩:=(show ∃t,u=Value.int i t from r);subst e;exact zc P w i t
 |inr x=>obtain⟨t,e⟩:=(show ∃t,u=Value.str x t from r);subst e;exact zd P w x t
theorem wg:∀{ks:List Key} {us:List Value},Vals (ks.map kV) us->ItemsAre (bh P w) ks us
 |[],_,r=>by rw[abG]at r;cases r;exact .nil
 | k::ks,_,r=>by
  rw[aau]at r;cases r with
  |cons h t=>exact .cons (zv h) (wg t)
abbrev KT(H:Hp):List (List Key×V)->List (List Key×Addr×Value)->Prop:=Paired λp q=>p.1=q.1/\H q.2.1=some (.tup (p.1.map kV))/\RelV p.2 q.2.2
theorem KT.val(r:KT H kvs xs)(k:List Key):lW (gM kvs k) ((atKey xs k).map (·.2)):=by
 induction r with
 |nil=>exact abI
 |@cons p q ps qs h t ih=>
  obtain⟨h1,_,h2⟩:=h
  by_cases e:p.1=k
  ·have e':q.1=k:=h1.symm.trans e
   have b:atKey (q::qs) k=some q.2:=by simp[atKey,find?_cons,e']
   rw[tO e,b];exact h2
  ·have e':¬ q.1=k:=λz=>e (h1.trans z)
   have b:atKey (q::qs) k=atKey qs k:=by simp[atKey,find?_cons,e']
   rw[tQ e,b];exact ih
theorem KT.repl(r:KT H kvs xs)(k:List Key)(ry:RelV y u) :
  KT H (kvs.map λkv=>if kv.1=k then (kv.1,y) else kv) (xs.map (putAt k u)):=by
 induction r with
 |nil=>exact .nil
 |@cons p q ps qs h t ih=>
  rw[aau,aau];refine .cons ?_ ih;obtain⟨h1,h2,h3⟩:=h;unfold putAt
  by_cases e:p.1=k
  ·rw[aar e,aar (h1.symm.trans e)];exact⟨h1,h2,ry⟩
  ·rw[aas e,aas (λz=>e (h1.trans z))];exact⟨h1,h2,h3⟩
theorem KT.put(r:KT H kvs xs)(k:List Key)(hb:H b=some (.tup (k.map kV)))(ry:RelV y u) :
  KT H (putK kvs k y) (storedH xs k b u):=by
 have e:(kvs.any λkv=>decide (kv.1=k))=(atKey xs k).isSome:=by rw[zu,(r.val k).Ey,Option.isSome_map]
 unfold putK storedH;rw[e]
 by_cases q:(atKey xs k).isSome=true
 ·rw[aar q,aar q];exact r.repl k ry
 ·rw[aas q,aas q];exact Paired.snoc r ⟨rfl,hb,ry⟩
theorem KT.keeps(r:KT H kvs xs)(ht:∀b ys,H b=some (.tup ys)->H' b=some (.tup ys)):KT H' kvs xs :=
 Paired.Pw r λ_ _ z=>⟨z.1,ht _ _ z.2.1,z.2.2⟩
section
variable {P:Program} {w:World} {H:Hp} {h:Heap} {a:Addr}
theorem OJ(ok:o8 P w H h)(e:Rd H a u):cj P w H h a u:=e.ok ok
theorem wj(ok:o8 P w H h)(e:Rd H a (.dK kvs)):kvs.length<=sizeLine/\(a==sysModules)=false/\∃vs,KV kvs vs/\h.DictOf (bh P w) a vs :=
 show cj P w H h a (.dK kvs) from OJ ok e
theorem CG(ok:o8 P w H h)(e:H a=some (.dK kvs)):kvs.length<=sizeLine/\(a==sysModules)=false/\∃vs,KV kvs vs/\h.DictOf (bh P w) a vs:=wj ok (.inl e)
theorem ya(ok:o8 P w H h)(e:H a=some (.tup (ks.map kV))):(tupleKind (bh P w)).is h ks a:=by
 obtain⟨_,its,r,o,h1,h2,n,h3⟩:=(show cj P w H h a (.tup (ks.map kV)) from ok a _ e);exact⟨o,its.toArray,n,h1,h2,h3,by simpa using wg r⟩
theorem zw(ok:o8 P w H h)(e:Rd H a (.dT kvs)):kvs.length<=sizeLine/\(a==sysModules)=false /\
  ∃xs,KT H kvs xs/\h.DictOfH (tupleKind (bh P w)) a xs:=by
 obtain⟨z,y,xs,r,o,es,ep,h1,h2,h3,h4,h5⟩:=(show cj P w H h a (.dT kvs) from OJ ok e);refine⟨z,y,xs,r,o,es,ep,h1,h2,h3,h4,λx hx=>?_,h5⟩;have all:∀{l:List (List Key×V)} {m:List (List Key×Addr×Value)},KT H l m->∀x∈m,(tupleKind (bh P w)).is h x.1 x.2.1:=by
  intro l m q
  induction q with
  |nil=>intro x hx;exact nomatch hx
  |@cons p q ps qs hq t ih=>
   intro x hx
   rcases aaz.mp hx with e|hx
   ·subst e;exact ya ok (by rw[<-hq.1];exact hq.2.1)
   ·exact ih x hx
 exact all r x hx
theorem Vd(ok:o8 P w H h)(e:H a=some (.dT kvs)):kvs.length<=sizeLine/\(a==sysModules)=false /\
  ∃xs,KT H kvs xs/\h.DictOfH (tupleKind (bh P w)) a xs:=zw ok (.inl e)
end
def tR(H:Hp)(a:Addr)(y:V)(r:Option V):Prop :=
 (∃kvs k,Rd H a (.dK kvs)/\y=kV k/\r=gM kvs k)\/∃kvs k b,Rd H a (.dT kvs)/\y=.ref b/\H b=some (.tup (k.map kV))/\r=gM kvs k
def Mj(H:Hp)(a:Addr)(y v:V)(H':Hp):Prop :=
 (∃kvs k,H a=some (.dK kvs)/\y=kV k/\kvs.length<sizeLine/\H'=upd H a (.dK (putK kvs k v))) \/
 ∃kvs k b,H a=some (.dT kvs)/\y=.ref b/\H b=some (.tup (k.map kV))/\kvs.length<sizeLine/\H'=upd H a (.dT (putK kvs k v))
theorem tR.k{H:Hp}{a:Addr}{kvs:List (Key×V)}{k:Key}(e:H a=some (.dK kvs)):tR H a (kV k) (gM kvs k):=.inl ⟨kvs,k,.inl e,rfl,rfl⟩
theorem Mj.k{H:Hp}{a:Addr}{kvs:List (Key×V)}{k:Key}{v:V}(e:H a=some (.dK kvs))(hl:kvs.length<sizeLine):Mj H a (kV k) v (upd H a (.dK (putK kvs k v))):=.inl ⟨kvs,k,e,rfl,hl,rfl⟩
section
variable {X:Cx} {pins:List (Addr×Obj)} {σ:St} {H:Hp} {s:Shared} {a:Addr} {y v:V} {u r:Value} {o:Option V} {A:Around} {E:Value->Shared->Prop}
theorem Inv.big(I:Inv X pins σ H s):sysModules<s.heap.objs.size:=by
 have h:mainGlobals<s.heap.objs.size:=(I.mod.glob.keeps I.bk).lt;exact lt_trans (by decide) h
theorem wm(hu:A.units+1<cLine)(I:Inv X pins σ H s)(g:tR H a y (some v))(ry:RelV y u)(h:∀w' s',Inv X pins σ H s'->RelV v w'->Q w' s') :
  wpAny (model X.prog X.w) A (getItem (.ref a) u) Q E s:=by
 rcases g with ⟨kvs,k,e,ey,l⟩|⟨kvs,k,b,e,ey,eb,l⟩
 ·subst ey;obtain⟨z,hd,vs,rel,dd⟩:=wj I.hok e;obtain⟨w',hw,rw'⟩:=lW.some_of (v:=v) (o:=valueAt vs k) (by rw[l];exact rel.val k);exact wpAny_getItem_of (zv ry) dd.mapOf hw (h w' _ (I.tok _) rw')
 ·subst ey;cases (show u=Value.ref b from ry);obtain⟨z,hd,xs,rel,dd⟩:=zw I.hok e;obtain⟨w',hw,rw'⟩:=lW.some_of (v:=v) (o:=(atKey xs k).map (·.2)) (by rw[l];exact rel.val k);obtain⟨p,hp,hp2⟩:=aaY.mp hw;refine wpAny_getItem_heap (tupleKind_room_in1 hu) (ya I.hok eb) dd hp ?_;rw[hp2];exact h w' _ (I.tok _) rw'
theorem yb{t':Nat}(I:Inv X pins σ H s)(mu:Uv (H a))(hs:Heap.SameBut a s.heap h')(he:∃q,h'.get? a=some q)(new:cj X.prog X.w (upd H a ob) h' a ob) :
  Inv X pins σ (upd H a ob) { s with heap:=h',toks:=t' } :=
 I.write (x:=a) (e:=a) mu (.inl rfl) (λb q hb z=>(hs.2 b hb).trans z) he new
theorem GL(z:kvs.length<=sizeLine)(hd:(a==sysModules)=false)(rel:KV kvs vs)(dd:h'.DictOf (bh P w) a vs) :
  cj P w H' h' a (.dK kvs):=⟨z,hd,vs,rel,dd⟩
theorem Ez(hu:A.units+1<cLine)(I:Inv X pins σ H s)(g:Mj H a y v H')(ry:RelV y u)(rv:RelV v r)(h:∀s',Inv X pins σ H' s'->Q () s') :
  wpAny (model X.prog X.w) A (setItem (.ref a) u r) Q E s:=by
 rcases g with ⟨kvs,k,e,ey,l,eH⟩|⟨kvs,k,b,e,ey,eb,l,eH⟩
 ·subst ey eH
  obtain⟨z,hd,vs,rel,dd⟩:=CG I.hok e;have hz:vs.length<=sizeLine:=by rw[<-rel.length];exact z
  have hl:(putK kvs k v).length<=sizeLine:=by have:=mw kvs k v;omega
  refine wpAny_setItem_pairs (hsz:=hz) (zv ry) dd λh' Qn hs=>h _ ?_;have he:∃q,h'.get? a=some q:=let ⟨q,_,_,hq,_⟩:=Qn;⟨q,hq⟩
  exact yb I (by rw[e];exact abI) hs he (GL hl hd (rel.put k rv) Qn)
 ·subst ey eH
  cases (show u=Value.ref b from ry);obtain⟨z,hd,xs,rel,dd⟩:=Vd I.hok e;have hz:xs.length<=sizeLine:=by rw[<-Paired.length rel];exact z
  have hl:(putK kvs k v).length<=sizeLine:=by have:=mw kvs k v;omega
  refine wpAny_setItem_heap (hsz:=hz) (tupleKind_room_in1 hu) (ya I.hok eb) dd λh' Qn hs=>h _ ?_;obtain⟨q,es,ep,hq,h2,h3,h4,_,h5⟩:=Qn;refine yb I (by rw[e];exact abI) hs ⟨q,hq⟩ ⟨hl,hd,_,(rel.put k eb rv).keeps λc ys ec=>?_,q,es,ep,hq,h2,h3,h4,h5⟩;rw[aA (Uu ec e (λz=>nomatch z))];exact ec
end
section
variable {X:Cx} {pins:List (Addr×Obj)} {σ:St} {H:Hp} {s:Shared} {a:Addr} {kvs:List (Key×V)} {k:Key} {u:Value} {A:Around} {E:Value->Shared->Prop}
theorem Ve(I:Inv X pins σ H s)(e:Rd H a (.dK kvs))(h:∀t s',Inv X pins σ H s'->Q (.int kvs.length t) s'):wpAny (model X.prog X.w) A (call (.builtin "len") [.ref a]) Q E s:=by
 obtain⟨z,hd,vs,rel,dd⟩:=wj I.hok e;refine call_len_dict hd dd (by rw[<-rel.length];rw[abq]at z;omega) ?_;rw[<-rel.length];exact h _ _ (I.tok _)
end
def Vf(i:Expr):Prop:=∀ov iv,subscripted i false ov iv=operate [ov,iv] (getItem ov iv)
theorem Ml{T id:String}
  (hl:typeLookup (.type T) "__getitem__" = pure (some (.builtin id))) (hs:Vf slice)
  (h:wpAny (model prog w) A (eval value env) (λo s₁=>wpAny (model prog w) A (eval slice env) (λi s₂=>s₂.TypeIs o T/\wpAny (model prog w) A (getItem o i) Q E s₂) E s₁) E s) :
  wpAny (model prog w) A (eval (.Subscript value slice pos) env) Q E s:=by
 refine Subscript_ (abb h (λo s₁ h₁=>abb h₁ (λi s₂ h₂=>?_) λ_ _ x=>x) λ_ _ x=>x);obtain⟨hT,h₂⟩:=h₂;unfold subscriptTail;refine aai ?_;rw[getitemInPython_of_ne hT.not_modules];refine aai (wpAny_specialOf hT hl ?_);have fin:wpAny (model prog w) A (subscripted slice false o i) (λr s₃=>wpAny (model prog w) A (letTemporaryGo value o r >>= λ_=>pure r) Q E s₃) E s₂:=by rw[hs o i];exact wpAny_operating (abb h₂ (λr s₃ h₃=>aai (wpAny_letTemporaryGo (aaq h₃))) λ_ _ x=>x)
 first
  |exact aaq (aai fin)
  |exact aai (aaq (aai fin))
  |exact aai fin
theorem rM(I:Inv X pins σ H s)(g:tR H a y o):s.TypeIs (.ref a) "dict":=by
 rcases g with ⟨kvs,k,e,_,_⟩|⟨kvs,k,b,e,_,_,_⟩
 ·obtain⟨_,_,vs,_,dd⟩:=wj I.hok e;exact dd.typeIs
 ·obtain⟨_,_,xs,_,dd⟩:=zw I.hok e;exact dd.typeIs
def GN(td ty:TE):TE:=λσ H Q=>td σ H λx H1=>ty σ H1 λy H2=>∃a v,x=.ref a/\tR H2 a y (some v)/\Q v H2
section
variable {X:Cx} {o i e value:Expr} {pos pos' tpos:Pos} {td ty tv:TE}
theorem Mm(hu:X.A.units+1<cLine)(ho:PE X o td)(hi:PE X i ty)(hs:Vf i):PE X (.Subscript o i pos) (GN td ty):=by
 intro pins s σ H Q I h;refine Ml PySem.F.slot_dict_getitem.lookup hs (cO (ho pins s σ H _ I h) λu s1 ⟨x,H1,I1,rx,q1⟩=>cO (hi pins s1 σ H1 _ I1 q1) λiv s2 aS=>?_);obtain⟨y,H2,I2,ry,a,v,ex,g,q2⟩:=aS;subst ex;obtain rfl:u=Value.ref a:=rx;exact⟨rM I2 g,wm hu I2 g ry λw' s3 I3 rw'=>⟨v,H2,I3,rw',q2⟩⟩
end
theorem zx(h:Heap)(hb:sysModules<h.objs.size):cj P w H (h.push { cls:=.type "dict",data:=.dict #[] }) h.objs.size (.dK []) :=
 ⟨abi _,aa9.mpr (Ne.symm (aaG hb)),[],.nil,Heap.DictOf.new h⟩
def Qo:TE:=λ_ H Q=>∀p,H p=none->Q (.ref p) (upd H p (.dK []))
section
variable {X:Cx} {pos:Pos}
theorem GO:PE X (.Dict [] [] pos) Qo:=λpins s σ H Q I h=>
 wpAny_Dict_empty ⟨.ref s.heap.objs.size,_,I.laid (a:=s.heap.objs.size) (o:=.dK []) (t':=s.toks) (λ_ _ q=>aap _ q) (aaw _) (zx s.heap I.big),rfl,h _ (I.hok.fresh (aaw _))⟩
end
def BJ:List (TE×TE)->St->Hp->(List (V×V)->Hp->Prop)->Prop
 |[],_,H,Q=>Q [] H
 |(tk,tv)::r,σ,H,Q=>tk σ H λx H1=>tv σ H1 λy H2=>BJ r σ H2 λps H3=>Q ((x,y)::ps) H3
abbrev VV:List (V×V)->List (Value×Value)->Prop:=Paired λp q=>RelV p.1 q.1/\RelV p.2 q.2
def Ye(X:Cx)(pos:Pos)(keys:List (Option Expr))(values:List Expr)(Qp:List (TE×TE)):Prop :=
 ∀(pins:List (Addr×Obj)) (s:Shared) (σ:St) (H:Hp) (Q:List (V×V)->Hp->Prop),Inv X pins σ H s->BJ Qp σ H Q ->
  wpAny (model X.prog X.w) X.A (evalPairs (pairTrees keys values X.env pos)) (λvs s'=>∃ps H',Inv X pins σ H' s'/\VV ps vs/\Q ps H') X.xe s
theorem Mn:Ye X pos [] [] []:=λpins s σ H Q I h=>pairTrees_nil_walk ⟨[],H,I,.nil,h⟩
theorem GP(hk:PE X k tk)(hv:PE X v tv)(hr:Ye X pos ks vs Qp) :
  Ye X pos (some k::ks) (v::vs) ((tk,tv)::Qp):=λpins s σ H Q I h=>
 pairTrees_cons_walk (cO (hk pins s σ H _ I h) λu s1 ⟨x,H1,I1,rx,q1⟩=>cO (hv pins s1 σ H1 _ I1 q1) λw2 s2 ⟨y,H2,I2,ry,q2⟩=>
  cO (hr pins s2 σ H2 _ I2 q2) λws s3 ⟨ps,H3,I3,rel,q3⟩=>⟨(x,y)::ps,H3,I3,.cons ⟨rx,ry⟩ rel,q3⟩)
def qA(kvs more:List (Key×V)):List (Key×V):=more.foldl (λacc kv=>putK acc kv.1 kv.2) kvs
theorem KV.merge:∀{more:List (Key×V)} {rs:List (Key×Value)} {kvs:List (Key×V)} {vs:List (Key×Value)},KV more rs->KV kvs vs->KV (qA kvs more) (merged vs rs):=by
 intro more rs kvs vs r;unfold KV at r
 induction r generalizing kvs vs with
 |nil=>intro q;exact q
 |@cons p q ps qs h t ih=>
  intro r0;have e:KV (putK kvs p.1 p.2) (stored vs q.1 q.2):=by have:=r0.put p.1 h.2;rw[<-h.1];exact this
  exact ih e
theorem oh:∀(more kvs:List (Key×V)),(qA kvs more).length<=kvs.length+more.length
 |[],kvs=>by show kvs.length<=kvs.length+0;omega
 | p::r,kvs=>by
  have h1:=oh r (putK kvs p.1 p.2);have h2:=mw kvs p.1 p.2;show (qA (putK kvs p.1 p.2) r).length<=_;rw[aaH];omega
theorem tU:∀{kvs:List (Key×V)} {ws:List (Value×Value)},VV (kvs.map λkv=>(kV kv.1,kv.2)) ws->∃rs,Carries (bh P w) ws rs/\KV kvs rs
 |[],_,r=>by rw[abG]at r;cases r;exact⟨[],abI,.nil⟩
 | p::kvs,_,r=>by
  rw[aau]at r;cases r with
  |@cons a b as bs h t=>obtain⟨rs,c,q⟩:=tU (P:=P) (w:=w) t;obtain⟨b1,b2⟩:=b;exact⟨(p.1,b2)::rs,⟨zv h.1,rfl,c⟩,.cons ⟨rfl,h.2⟩ q⟩
def Vg(Qp:List (TE×TE)):TE:=λσ H Q=>∀p,H p=none->BJ Qp σ (upd H p (.dK [])) λps H2=>H2 p=some (.dK [])/\∃kvs:List (Key×V),ps=kvs.map (λkv=>(kV kv.1,kv.2))/\kvs.length<=15/\Q (.ref p) (upd H2 p (.dK (qA [] kvs)))
theorem Mp(h:Ye X pos keys values Qp)(hall:keys.all (·.isSome)=true)(hl:keys.length=values.length)(h0:keys≠[])
  (h15:keys.length<=15):PE X (.Dict keys values pos) (Vg Qp):=by
 intro pins s σ H Q I q;have hn:=I.hok.fresh (aaw s.heap.objs.size);have I1:=I.laid (a:=s.heap.objs.size) (o:=.dK []) (h':=s.heap.push { cls:=.type "dict",data:=.dict #[] }) (t':=s.toks) (λ_ _ q=>aap _ q) (aaw _) (zx s.heap I.big);refine wpAny_Dict_walk (knd:=bh X.prog X.w) hall hl h0 h15 (cO (h pins _ σ _ _ I1 (q _ hn)) λws s2 aS=>?_);obtain⟨ps,H2,I2,rel,e,kvs,ep,lk,q2⟩:=aS;subst ep;obtain⟨rs,c,rk⟩:=tU (P:=X.prog) (w:=X.w) rel;obtain⟨z,hd,vs0,r0,dd⟩:=CG I2.hok e;cases r0;refine⟨rs,c,dd,λh' Qn hs=>⟨.ref s.heap.objs.size,_,?_,rfl,q2⟩⟩;have hz:(qA [] kvs).length<=sizeLine:=by have h1:=oh kvs [];rw[length_nil]at h1;rw[abq];omega
 have he:∃q,h'.get? s.heap.objs.size=some q:=let ⟨q,_,_,hq,_⟩:=Qn;⟨q,hq⟩
 exact yb I2 (by rw[e];exact abI) hs he (GL hz hd (rk.merge .nil) Qn)
structure M2 (X:Cx) (o:Expr) (m:Str) (apos:Pos) (e f:Expr) (cpos:Pos):Prop where
 base:attributeBase o m X.env (eval o X.env)=eval o X.env
 few:((backTo cpos (starEach [e,f] X.env)).all (λx=>!x.1)&&(backToKw cpos (keywordEach [] X.env)).all (λx=>x.1.isSome)
  && decide (([e,f]:List Expr).length+([]:List Keyword).length+(if ([]:List Keyword).isEmpty then 0 else 1)<30))=true
 line:(apos.endLine==cpos.line)=true
 trees:backTo cpos (starEach [e,f] X.env)=[(false,eval e X.env),(false,eval f X.env)]
def IsD(H:Hp)(a:Addr):Prop:=(∃kvs,Rd H a (.dK kvs))\/∃kvs,Rd H a (.dT kvs)
theorem GQ(I:Inv X pins σ H s)(d:IsD H a) :
  s.TypeIs (.ref a) "dict" /\ (∀b,Value.ref a=.ref b->∃ob,s.heap.get? b=some ob/\ob.dict=none)/\(a==sysModules)=false:=by
 rcases d with ⟨kvs,e⟩|⟨kvs,e⟩
 ·obtain⟨_,hd,vs,_,dd⟩:=wj I.hok e;refine⟨dd.typeIs,λb q=>?_,hd⟩;cases q;obtain⟨ob,_,_,h1,h2,_⟩:=dd;exact⟨ob,h1,h2.2.1⟩
 ·obtain⟨_,hd,xs,_,dd⟩:=zw I.hok e;refine⟨dd.typeIs,λb q=>?_,hd⟩;cases q;obtain⟨ob,_,_,h1,h2,_⟩:=dd;exact⟨ob,h1,h2.2.1⟩
section
variable {X:Cx} {pins:List (Addr×Obj)} {σ:St} {H:Hp} {s:Shared} {a:Addr} {y d:V} {u r:Value} {o:Option V} {A:Around} {E:Value->Shared->Prop}
theorem Qq(hu:A.units+1<cLine)(I:Inv X pins σ H s)(g:tR H a y o)(ry:RelV y u)(rd:RelV d r)(h:∀w' s',Inv X pins σ H s'->RelV (o.getD d) w'->Q w' s') :
  wpAny (model X.prog X.w) A (call (.builtin "dict.get") [.ref a,u,r]) Q E s:=by
 rcases g with ⟨kvs,k,e,ey,l⟩|⟨kvs,k,b,e,ey,eb,l⟩
 ·subst ey;obtain⟨z,hd,vs,rel,dd⟩:=wj I.hok e;refine call_meetsIn PySem.F.slot_dict_get dd.typeIs PySem.F.entry_dict_get (PySem.F.args_dict_get_3 _ _ _) (meets_dict_get_default (bh X.prog X.w) a (zv ry) hd r) ⟨_,dd.mapOf,h _ _ (I.tok _) ?_⟩;rw[l];exact(rel.val k).getD rd
 ·subst ey;cases (show u=Value.ref b from ry);obtain⟨z,hd,xs,rel,dd⟩:=zw I.hok e;refine call_meetsIn PySem.F.slot_dict_get dd.typeIs PySem.F.entry_dict_get (PySem.F.args_dict_get_3 _ _ _) (meetsH_dict_get_default (tupleKind (bh X.prog X.w)) a b hd r) ⟨tupleKind_room_in1 hu,k,xs,ya I.hok eb,dd,h _ _ (I.tok _) ?_⟩;rw[l];exact(rel.val k).getD rd
end
def Qs(td ty tx:TE):TE:=λσ H Q=>td σ H λx H1=>∃a,x=.ref a/\IsD H1 a/\ty σ H1 λy H2=>tx σ H2 λz H3=>∃o,tR H3 a y o/\Q (o.getD z) H3
section
variable {X:Cx} {o e f:Expr} {apos cpos:Pos} {td ty tx:TE}
theorem GR(hu:X.A.units+1<cLine)(ho:PE X o td)(he:PE X e ty)(hf:PE X f tx)(m:M2 X o "get" apos e f cpos):PE X (.Call (.Attribute o "get" apos) [e,f] [] cpos) (Qs td ty tx):=by
 intro pins s σ H Q I h;refine wpAny_Call_method m.base m.few m.line PySem.F.plainAttrs_dict PySem.F.slot_dict_get PySem.F.type_dict_get (cO (ho pins s σ H _ I h) λu s1 aS=>?_);obtain⟨x,H1,I1,rx,a,ex,d,q1⟩:=aS;subst ex;obtain rfl:u=Value.ref a:=rx;obtain⟨t1,t2,_⟩:=GQ I1 d;refine⟨t1,t2,?_⟩;rw[m.trees];refine Calls.callWith_builtin rfl (Calls.evalArgs_plain (abn (cO (he pins s1 σ H1 _ I1 q1) λiv s2 ⟨y,H2,I2,ry,q2⟩=>
  abn (cO (hf pins s2 σ H2 _ I2 q2) λfv s3 ⟨z,H3,I3,rz,ov,g,q3⟩=>abA ?_))))
 exact Qq hu I3 g ry rz λw' s4 I4 rw'=>⟨_,H3,I4,rw',q3⟩
end
end L2
namespace Att
open PySem PySem.W PySem.Calls PyProof.Rows
theorem sj:∀(ns:List Int) (vs:List Value),WellAll P h vs (ns.map WData.int)->IntsAre vs ns:=by
 intro ns
 induction ns with
 |nil=>intro vs w;rw[abG]at w;cases w;exact .nil
 |cons n ns ih=>
  intro vs w;rw[aau]at w;cases w with
  |cons a b=>cases a;exact .cons _ _ (ih _ b)
theorem EA{l:OpenLaw}{n:Nat}(hn:l.most=some n){P:Params}{h:Heap}{args:List WData}{vals:List Value}
  (hpre:l.row.toRowW.claim.pre args=true) (hwl:WellAll P h vals args) :
  ∃a vs ns,vals=[Value.ref a]/\args=[WData.list (ns.map WData.int)]/\h.get? a=some { cls:=.type "list",data:=.seq vs.toArray }/\IntsAre vs ns/\ns.length<=n:=by
 have hsh:WShape.hasAll [] args [.list .int]=true:=(pre_splitW hpre).1;have hc:l.pre.holds [] { args:=args }=true:=(pre_splitW hpre).2;obtain⟨d,r,rfl,h1,h2⟩:=hasAllW_cons hsh;obtain rfl:=hasAllW_nil h2;obtain⟨xs,rfl,h3⟩:=hasW_list h1;obtain⟨ns,rfl⟩:=items_int h3;have hlen:ns.length<=n:=by
  unfold OpenLaw.pre at hc;have h4:(WTm.not (.lt (.lit (.int (n:Int))) (.len (.arg 0)))).holds [] { args:=[.list (ns.map .int)] }=true:=by have h4:=(holds_andW hc).1;rw[hn]at h4;exact h4
  have h5:=condW_of h4 (w_not (w_lt w_lit (w_len_list (w_arg rfl))));rw[aak]at h5;refine Nat.le_of_not_lt λq=>?_;have q':(n:Int)<((ns.length:Nat):Int):=by omega
  first
   |(rw[decide_eq_true q']at h5;exact absurd h5 (by decide))
   |(simp at h5;omega)
 cases hwl with
 |cons w1 w2=>
  cases w2;cases w1 with
  |list ho hall=>exact⟨_,_,ns,rfl,rfl,ho,sj ns _ hall,hlen⟩
theorem EB(l:OpenLaw)(args:List WData):l.row.toRowW.claim.post args (.bool true) args=true :=
 postW_of (r:=l.row.toRowW) (X:=(true==true))
  (show WShape.has [] (.bool true) .bool=true by first|rfl|decide|simp[WShape.has,WShape.arms,WShape.armsAll])
  (show (WTm.eq .res (.lit (.bool true))).value [] { args:=args,res:=some (.bool true),after:=args }=some (.bool (true==true)) from w_eq_bool (w_res rfl) w_lit) rfl
theorem zy{l:OpenLaw}{n:Nat}{q:Program}{loose:List Str}{XP:(Str->Option Value)->Heap->Prop}{YP:World->Heap->Prop}{d:DefRec}
  (hn:l.most=some n) (hdf:d.params.defaults=[])
  (call:∀(w:World) (s₀ s₁:Shared) (mg mb:Str->Option Value) (fa:Addr) (o:Obj) (pm cd doc:Value) (a:Addr) (vs:List Value) (ns:List Int),
   Ground q loose [] XP w s₀ mg mb s₁.heap->YP w s₁.heap ->
   s₁.heap.get? fa=some o->o.data=.func (docDef d.name d.params d.body d.scope pm cd doc)->s₁.heap.CodeRec cd d.name->mg d.name=some (.ref fa) ->
   s₁.heap.get? a=some { cls:=.type "list",data:=.seq vs.toArray }->IntsAre vs ns->ns.length<=n->s₁.gens = #[] ->
   codeAny (model l.prog w) callerA (.call (.ref fa) ⟨[.ref a],[]⟩) (λr s'=>r=.ok (.ret (.bool true))/\OldK s₁.heap s'.heap/\s'.os=s₁.os/\AllBare s'.gens) s₁) :
  WalkO q loose XP YP l.row.toRowW d [] (λf vs=>PySem.call f vs):=by
 intro w s₀ s₁ mg mb G Y fa o pm cd doc dV kV ho hd hcd hD hmg hg args vals as hpre hlay hrd hwl hlo;obtain rfl:dV=.none:=Dflts.none hD hdf;obtain rfl:kV=.none:=Dflts.noKw hD;obtain⟨a,vs,ns,rfl,rfl,hobj,hints,hlen⟩:=EA hn hpre hwl;refine enter_call (codeAny_mono (call w s₀ s₁ mg mb fa o pm cd doc a vs ns G Y ho (fd_plain hd) hcd hmg hobj hints hlen hg) λr s' hq=>?_);obtain⟨rfl,h2,h3,h4⟩:=hq;exact⟨.inl ⟨.bool true,.bool true,[],rfl,λ_=>rfl,.bool true,EB l _,λ_=>⟨List.Pairwise.nil,λ_ hm=>(nomatch hm)⟩⟩,h2,h3,h4⟩
end Att
namespace L2
open PySem PySem.Spec PyProof.Rows
theorem nJ:∀{vs:List Value} {ns:List Int},IntsAre vs ns->Vals (ns.map V.int) vs
 |_,_,.nil=>.nil
 |_,_,.cons n t h=>.cons ⟨t,rfl⟩ (nJ h)
def GS(H:Hp):Prop:=∀b,H b=none\/∃o xs,H b=some (.kg o (.lst xs))
theorem GU{P:Program}{w:World}{K:Frag}{mg mb:Str->Option Value}{CX:Ew}{k:Nat}{fa a:Addr}{fd:FuncData}{x:Str}{sp:Sp}{s₁:Shared}{vs:List Value}{ns:List Int}
  (KX:K.In s₁.heap) (hns:s₁.heap.Ns mainGlobals mg) (hb:s₁.heap.Ns builtinsNs mb) (hbb:∀x:Str,x ≠ "__name__" -> mb x=bootBuiltins x) (hlim:s₁.heap.NoLimit) (hg:s₁.gens = #[])
  (ha:s₁.heap.get? a=some { cls:=.type "list",data:=.seq vs.toArray }) (hi:IntsAre vs ns) (hl:ns.length<=sizeLine) (hr:fO k callerA)
  (F:∀base:Heap,K.In base->base.Ns mainGlobals mg->gK P w K mg base CX k fa fd [x] sp) (hbind:∀(s:Shared) (u:Value),BindsTo s fd ⟨[u],[]⟩ [(x,u)])
  (hsp:∀H:Hp,GS H->iD K H a (ns.map V.int)->sp [.ref a] H (λv _=>v=.bl true) λ_ _ _=>False)
  (hCX:∀H e s',CX [] H s₁ (λ_ _ _=>False) e s'->False) :
  codeAny (model P w) callerA (.call (.ref fa) ⟨[.ref a],[]⟩) (λr s'=>r=.ok (.ret (.bool true))/\OldK s₁.heap s'.heap/\s'.os=s₁.os/\AllBare s'.gens) s₁:=by
 have rv:=nJ hi;have Y7:=hi.length;have core:∀H:Hp,GS H->iD K H a (ns.map V.int)->o8 P w H s₁.heap->(∀b,H b≠none->b=a)->(H a≠none->K.lookup a=none) ->
   codeAny (model P w) callerA (.call (.ref fa) ⟨[.ref a],[]⟩) (λr s'=>r=.ok (.ret (.bool true))/\OldK s₁.heap s'.heap/\s'.os=s₁.os/\AllBare s'.gens) s₁:=by
  intro H hO hS hok hA hK;have base_of:∀{b:Addr} {o:Obj},s₁.heap.get? b=some o->H b=none->(xW s₁.heap H).get? b=some o:=λe n=>Ge e n;have noA:∀{b:Addr} {o:Obj} {es:Array DictEntry} {ep:Nat},s₁.heap.get? b=some o->o.data=.dict es ep->H b=none:=λ{b o es ep} e d=>by
   cases q:H b with
   |none=>rfl
   |some u=>have e':b=a:=hA b (by rw[q];simp);subst e';rw[ha]at e;cases e;have d':Data.seq vs.toArray _=Data.dict es ep:=d;cases d'
  have nsK:∀{b:Addr} {m:Str->Option Value},s₁.heap.Ns b m->(xW s₁.heap H).Ns b m:=λ{b m} ⟨o,es,ep,e,d,r⟩=>⟨o,es,ep,base_of e (noA e d),d,r⟩;have hKb:K.In (xW s₁.heap H):=λb o e=>base_of (KX b o e) (by
   cases q:H b with
   |none=>rfl
   |some u=>have e':b=a:=hA b (by rw[q];simp);subst e';rw[hK (by rw[q];simp)]at e;cases e)
  have hM:Mod K mg (xW s₁.heap H):=⟨hKb,nsK hns,⟨mb,nsK hb,hbb⟩,let ⟨mc,h1,h2⟩:=hlim;⟨mc,nsK h1,h2⟩⟩;have e0:BF P w K mg (xW s₁.heap H) callerA [] s₁ H:=⟨rfl,hM,λb o e=>LP e,Nat.le_of_eq (Ej _ _),trivial,λb hb=>absurd (show b∈([]:List Addr) from hb) (by simp),hok,.of_eq hg⟩;refine codeAny_mono ((F _ hKb (nsK hns)).run callerA [] s₁ H ⟨[.ref a],[]⟩ [.ref a] [.ref a] _ _ hr e0 (hbind s₁ (.ref a)) #[rfl] (hsp H hO hS)) λr s' h=>?_;cases r with
  |error e=>exact(hCX H e s' h).elim
  |ok fl=>
   cases fl with
   |next=>exact False.elim h
   |brk=>exact False.elim h
   |cont=>exact False.elim h
   |ret u=>
    obtain⟨v,H',os,bare,un,Y8,r',q⟩:=h;have q':v=.bl true:=q;subst q';obtain rfl:u=Value.bool true:=r';refine⟨rfl,OldK.of_keep λb o e=>?_,os,bare⟩;cases q:H b with
    |none=>exact un.keep b o e q (by intro z;exact absurd (show b∈([]:List Addr) from z) (by simp)) (by simp)
    |some u=>
     rcases hO b with z|⟨ob,xs,z⟩
     ·rw[q]at z;cases z
     ·have z2:=un.frzs b ob _ z;obtain⟨e1,_⟩:=hok b _ z;obtain⟨e2,_⟩:=Y8 b _ z2;rw[e]at e1;cases e1;exact e2
 cases hk:K.lookup a with
 |some o=>have e:=KX a o hk;rw[ha]at e;cases e;refine core (λ_=>none) (λ_=>.inl rfl) (.inr ⟨_,vs.toArray,_,hk,rfl,rfl,rfl,by rw[aaE,Y7];exact hl,by simpa using rv⟩) (λb u z=>by have z':(none:Option HO)=some u:=z;cases z') (λb z=>absurd rfl z) λz=>absurd rfl z
 |none=>
  refine core (λb=>if b=a then some (.kg { cls:=.type "list",data:=.seq vs.toArray } (.lst (ns.map V.int))) else none) (λb=>?_) (.inl (.inr ⟨{ cls:=.type "list",data:=.seq vs.toArray },aar rfl⟩)) (λb u z=>?_) (λb z=>?_) λ_=>hk
  ·by_cases hb:b=a
   ·exact .inr ⟨_,_,aar hb⟩
   ·exact .inl (aas hb)
  ·by_cases hb:b=a
   ·have z':=(aar hb).symm.trans z;cases z';subst hb;exact⟨ha,by rw[aak];exact hl,vs,_,rv,ha⟩
   ·have z':=(aas hb).symm.trans z;cases z'
  ·by_cases hb:b=a
   ·exact hb
   ·exact absurd (aas hb) z
theorem Mq{l:PySem.W.OpenLaw}{n k:Nat}{q:Program}{loose:List Str}{XP:(Str->Option Value)->Heap->Prop}{YP:World->Heap->Prop}{d:DefRec}{K:Params->Frag}{CX:World->Ew}{sp:World->Sp}{x:Str}
  (hn:l.most=some n) (hn2:n<=sizeLine) (hdf:d.params.defaults=[]) (hr:fO k callerA)
  (hY:∀(w:World) (h:Heap),YP w h->(K w.params).In h)
  (F:∀(w:World) (mg:Str->Option Value) (fa:Addr) (h:Heap),(K w.params).In h->h.Ns mainGlobals mg->mg d.name=some (.ref fa) ->
   ∃fd:FuncData,(∀(s:Shared) (u:Value),BindsTo s fd ⟨[u],[]⟩ [(x,u)]) /\
    ∀base:Heap,(K w.params).In base->base.Ns mainGlobals mg->gK l.prog w (K w.params) mg base (CX w) k fa fd [x] (sp w))
  (hsp:∀(w:World) (H:Hp) (a:Addr) (ns:List Int),ns.length<=n->GS H->iD (K w.params) H a (ns.map V.int)->sp w [.ref a] H (λv _=>v=.bl true) λ_ _ _=>False)
  (hCX:∀(w:World) (H:Hp) (s:Shared) (e:Value) (s':Shared),CX w [] H s (λ_ _ _=>False) e s'->False) :
  PySem.W.WalkO q loose XP YP l.row.toRowW d [] (λf vs=>PySem.call f vs):=by
 refine Att.zy hn hdf λw s₀ s₁ mg mb fa o pm cd doc a vs ns G Y ho hd hcd hmg hobj hints hlen hg=>?_;have KX:=hY w _ Y;obtain⟨fd,hb,hF⟩:=F w mg fa _ KX G.T.g hmg;exact GU KX G.T.g G.T.b G.T.builtins G.T.nolimit hg hobj hints (aaN hlen hn2) hr hF hb (λH hO hS=>hsp w H a ns hlen hO hS) λH e s'=>hCX w H s₁ e s'
def pD(s:Stmt):Arguments:=match s with
 |.FunctionDef _ a _ _ _ _ _ _ _ _=>a
 |_=>{ posonlyargs:=[],args:=[],vararg:=none,kwonlyargs:=[],kw_defaults:=[],kwarg:=none,defaults:=[] }
def ao(s:Stmt):List Stmt:=match s with
 |.FunctionDef _ _ b _ _ _ _ _ _ _=>b
 |_=>[]
def aa(s:Stmt):Scope:=match s with
 |.FunctionDef _ _ _ _ _ _ sc _ _ _=>sc
 |_=>{ kind:=.function,names:=[],isGenerator:=false,isCoroutine:=false }
abbrev BK:Ew:=λ_ _ _ _ _ _=>False
abbrev E0:XK:=λ_ _ _=>False
theorem wo:Passes BK X E0:=λ_ _ _ _ _ _ _ h=>h.elim
structure LF (K:Frag) (x qual:Str) (st:Stmt) (f:Addr) (fd:FuncData):Prop where
 ex:∃(oc:Value) (od:Option Addr) (kV doc pm:Value) (an:Option Addr) (cdv ct:Value) (osl:Array (Option Value)),
  fd=fnOf x qual (pD st) (ao st) (aa st) .none kV doc pm an cdv ct/\K.lookup f=some ⟨oc,od,.func fd,osl⟩/\codeIn K cdv qual=true
 kp:keepIn K (.ref f)=true
section
variable {P:Program} {w:World} {K:Frag} {mg:Str->Option Value} {base:Heap}
theorem LF.ok{x qual:Str}{st:Stmt}{f:Addr}{fd:FuncData}{N ps:List Str}{k:Nat}{sp:Sp}(F:LF K x qual st f fd)(S:sM N ps (aa st))(len:∀vs H Q E,sp vs H Q E->vs.length=ps.length)
  (hbody:∀(cdv:Value) (A:Around) (outer:List Env) (s:Shared) (H:Hp) (vs:List V) (Q:VK) (E:XK),fO k (A.deeper (envOfC qual (aa st) s.heap.objs.size f cdv))->sp vs H Q E ->
   ∃t,Bu (BG BK P w K mg base N qual (aa st) f cdv A outer s H E).UH (ao st) t/\t { nx:=λ_ H'=>Q .non H',rt:=Q } (start N vs) H):gK P w K mg base BK (k+1) f fd ps sp:=by
 obtain⟨oc,od,kV,doc,pm,an,cdv,ct,osl,rfl,lk,hcd⟩:=F.ex;refine U8 lk hcd S len λA outer s H vs Q E hr hsp=>?_;obtain⟨t,h,q⟩:=hbody cdv A outer s H vs Q E hr hsp;exact⟨t,h.UH,q⟩
theorem LF.binds{x qual:Str}{st:Stmt}{f:Addr}{fd:FuncData}{ps:List Str}(F:LF K x qual st f fd)
  (h:∀(kV doc pm:Value) (an:Option Addr) (cdv ct:Value) (us:List Value),us.length=ps.length->bindArgs (fnOf x qual (pD st) (ao st) (aa st) .none kV doc pm an cdv ct) ⟨us,[]⟩=pure (ps.zip us)):Binds K fd ps []:=by
 obtain⟨oc,od,kV,doc,pm,an,cdv,ct,osl,rfl,lk,hcd⟩:=F.ex;exact .all (h kV doc pm an cdv ct)
theorem fun_mk{x qual:Str}{st:Stmt}{f:Addr}{oc:Value}{od an:Option Addr}{osl:Array (Option Value)}{kV doc pm cdv ct:Value}(l:K.lookup f=some ⟨oc,od,.func (fnOf x qual (pD st) (ao st) (aa st) .none kV doc pm an cdv ct),osl⟩)
  (c:codeIn K cdv qual=true) (k:keepIn K (.ref f)=true):LF K x qual st f (fnOf x qual (pD st) (ao st) (aa st) .none kV doc pm an cdv ct):=⟨⟨oc,od,kV,doc,pm,an,cdv,ct,osl,rfl,l,c⟩,k⟩
end
section
variable {X:Cx}
theorem EC:cS X (.builtin "len") (λxs H Q=>∃a kvs,xs=[V.ref a]/\H a=some (.dK kvs)/\Q (.int kvs.length) H):=by
 intro pins s σ H xs us Q I r h;obtain⟨a,kvs,rfl,ha,q⟩:=h;obtain⟨u,rfl,ru⟩:=vals1 r;cases ru;exact Ve I (.inl ha) λt s' I'=>⟨.int kvs.length,H,I',⟨t,rfl⟩,q⟩
end
def BL(H H':Hp):Prop:=∀b o,H b=some o->H' b=some o
theorem BL.seq{K:Frag}{H H':Hp}{a:Addr}{xs:List V}(e:BL H H')(h:iD K H a xs):iD K H' a xs:=by
 rcases h with (h|⟨o,h⟩)|h
 ·exact .inl (.inl (e _ _ h))
 ·exact .inl (.inr ⟨o,e _ _ h⟩)
 ·exact .inr h
theorem oE(env:Env):∀(names:List (Str×NameKind)) (acc:List (Str×Addr)),(∀y∈names,y.2=.free->∃c,env.cells.lookup y.1=some c) ->
  (∀x c,acc.lookup x=some c->env.cells.lookup x=some c) ->
  ∃cl,(forIn names acc λx r=>if (x.snd==NameKind.free)=true then do let c <-cellOf env x.fst;pure (ForInStep.yield ((x.fst,c)::r)) else pure (ForInStep.yield r))=(pure cl:Sem (List (Str×Addr))) /\
   (∀x c,cl.lookup x=some c->env.cells.lookup x=some c)/\∀x,((x,NameKind.free)∈names\/∃c,acc.lookup x=some c)->∃c,cl.lookup x=some c
 |[],acc,_,ha=>⟨acc,rfl,ha,λx h=>h.elim (λz=>nomatch z) λz=>z⟩
 | (n,k)::r,acc,hn,ha=>by
  have hr:∀y∈r,y.2=NameKind.free->∃c,env.cells.lookup y.1=some c:=λy hy=>hn y (aal _ hy)
  by_cases hk:k=.free
  ·subst hk
   obtain⟨c,hc⟩:=hn (n,.free) aam rfl;have ha':∀x d,((n,c)::acc).lookup x=some d->env.cells.lookup x=some d:=λx d h=>by
    rw[abf]at h;cases e:x==n with
    |true=>rw[e]at h;have e':x=n:=eq_of_beq e;cases h;rw[e'];exact hc
    |false=>rw[e]at h;exact ha x d h
   obtain⟨cl,e1,e2,e3⟩:=oE env r ((n,c)::acc) hr ha';refine⟨cl,?_,e2,λx h=>?_⟩
   ·rw[List.forIn_cons]
    have hco:cellOf env n=pure c:=by unfold cellOf;rw[hc]
    simp only[beq_self_eq_true,if_true,hco];exact e1
   ·by_cases hx:x=n
    ·subst hx;exact e3 x (.inr ⟨c,by simp[lookup_cons]⟩)
    ·rcases h with h|⟨d,h⟩
     ·rcases aaz.mp h with z|z
      ·exact absurd (aa2 Prod.fst z) hx
      ·exact e3 x (.inl z)
     ·refine e3 x (.inr ⟨d,?_⟩);rw[abf];have:(x==n)=false:=aa9.mpr hx;rw[this];exact h
  ·have hb:(k==NameKind.free)=false:=aa9.mpr hk
   obtain⟨cl,e1,e2,e3⟩:=oE env r acc hr ha;refine⟨cl,?_,e2,λx h=>e3 x ?_⟩
   ·rw[List.forIn_cons];simp only[hb,false_eq_true,if_false];exact e1
   ·rcases h with h|h
    ·rcases aaz.mp h with z|z
     ·cases z;exact absurd rfl hk
     ·exact .inl z
    ·exact .inr h
theorem tW(h:∀y∈scope.names,y.2=.free->∃c,env.cells.lookup y.1=some c) :
  ∃cl,closureFor scope env=pure cl/\(∀x c,cl.lookup x=some c->env.cells.lookup x=some c)/\∀x,(x,NameKind.free)∈scope.names->∃c,cl.lookup x=some c:=by
 obtain⟨cl,e1,e2,e3⟩:=oE env scope.names [] h (λx c z=>by simp at z);refine⟨cl,?_,e2,λx hx=>e3 x (.inl hx)⟩;unfold closureFor;simp only[bind_pure];exact e1
def bJ(X:Cx)(scope:Scope)(N':List Str)(cl:List (Str×Addr))(C:Addr)(s:Shared)(H:Hp)(fp:List Addr):Cx :=
 { prog:=X.prog,w:=X.w,K:=X.K,mg:=X.mg,base:=X.base,A:=X.A,N:=N',s₀:=s,H₀:=H,env:=compEnvC scope cl C X.env,outer:=X.stack,stack:=X.stack,ex:=fp,fn:=λ_=>false,calm:=X.calm,pn:=[],xe:=λ_ _=>False }
def iZ(js:List (Option Nat))(σ:St):St:=js.map λo=>match o with
 |none=>none
 | some j=>match σ[j]? with
  |some (some v)=>some v
  |_=>none
def yc(sc:Scope)(x:Str):Bool:=sc.names.lookup x==some .cell||sc.names.lookup x==some .free
def iI(XN:List Str)(xsc scope:Scope)(N':List Str)(js:List (Option Nat)):Bool :=
 scope.kind==.function&&(scope.names.all λy=>y.2 != .local||scope.names.lookup y.1==some .local)&&(scope.names.all λy=>y.2 != .cell) &&
 (scope.names.all λy=>y.2 != .free||(yc xsc y.1&&scope.names.lookup y.1==some .free))&&js.length==N'.length &&
 ((N'.zip js).all λp=>match p.2 with|none=>true|some j=>XN[j]?==some p.1&&scope.names.lookup p.1==some .free)
structure yd (X:Cx) (scope:Scope) (N':List Str) (js:List (Option Nat)):Prop where
 kind:scope.kind=.function
 names:∀y∈scope.names,y.2=.local->scope.names.lookup y.1=some .local
 GV:∀y∈scope.names,y.2≠.cell
 free:∀y∈scope.names,y.2=.free->yc X.env.scope y.1=true/\scope.names.lookup y.1=some .free
 len:js.length=N'.length
 src:∀(i:Nat) (x:Str) (j:Nat),N'[i]?=some x->js[i]?=some (some j)->X.N[j]?=some x/\scope.names.lookup x=some .free
theorem wu(h:iI X.N X.env.scope scope N' js=true):yd X scope N' js:=by
 unfold iI at h;simp only[and_eq_true,all_eq_true]at h;obtain⟨⟨⟨⟨⟨h1,h2⟩,h3⟩,h4⟩,h5⟩,h6⟩:=h;refine⟨eq_of_beq h1,λy hy e=>?_,λy hy e=>?_,λy hy e=>?_,eq_of_beq h5,λi x j e1 e2=>?_⟩
 ·have:=h2 y hy;rw[e]at this;simpa using this
 ·have:=h3 y hy;rw[e]at this;simp at this
 ·have:=h4 y hy;rw[e]at this;simpa using this
 ·have hm:(x,some j)∈N'.zip js:=by
   refine List.mem_iff_getElem?.mpr ⟨i,?_⟩;rw[List.getElem?_zip_eq_some];exact⟨e1,e2⟩
  have:=h6 _ hm;simpa using this
theorem jW(js:List (Option Nat))(σ:St):(iZ js σ).length=js.length:=by unfold iZ;rw[aak]
def LG(X:Cx)(ifs:List Expr)(t:TT):Prop :=
 ∀(pins:List (Addr×Obj)) (s:Shared) (σ:St) (H:Hp) (Q:Bool->Hp->Prop),Inv X pins σ H s->t σ H Q ->
  wpAny (model X.prog X.w) X.A (forIn ifs true λc r=>if r=true then do let ok <-isTrue c X.env (eval c X.env);pure (ForInStep.yield ok) else pure (ForInStep.yield r)) (TP X pins σ Q) X.xe s
def tX:TT:=λ_ H Q=>Q true H
theorem CH:LG X [] tX:=λ_ _ _ H _ I h=>wpAny_tests_nil ⟨H,I,h⟩
theorem Mr(h:PT X c t):LG X [c] t:=λpins s σ H Q I hw=>wpAny_tests_one (h pins s σ H Q I hw)
def zz(wi:TI)(js:List (Option Nat))(g:TG)(tt:TT)(te:TE):TE:=λσ H Q=>wi σ H λJ H1=>∀D,H1 D=none->∃W:Nat->Nat->St->Hp->Prop,(∃m,W 0 m (iZ js σ) (upd H1 D (.lst []))) /\
 ∀i m σ' H,W i m σ' H->(J.stop i H/\Q (.ref D) H)\/(J.go i H/\∃N:St->Hp->Prop,(∀ED H',N ED H'->∃m',m'<m/\W (i+1) m' ED H') /\
  ∀x H',J.El i H x H'->g x σ' H' λσ2 H2=>tt σ2 H2 λb H3=>if b=true then te σ2 H3 λy H4=>∃ys,H4 D=some (.lst ys)/\ys.length<sizeLine/\N σ2 (upd H4 D (.lst (ys++[y]))) else N σ2 H3)
theorem vC(hc:∀y∈scope.names,y.2≠.cell)
  (h:(relabel scope env).names.lookup x=some .cell\/(relabel scope env).names.lookup x=some .free):(x,NameKind.free)∈scope.names:=by
 unfold relabel at h;simp only at h;generalize scope.names=ns at hc h
 induction ns with
 |nil=>simp at h
 |cons p r ih=>
  obtain⟨n,k⟩:=p;have hc':∀y∈r,y.2≠.cell:=λy hy=>hc y (aal _ hy);simp only[map_cons]at h;cases hx:x==n with
  |true=>
   have e':x=n:=eq_of_beq hx;subst e'
   by_cases hk:k=.free
   ·subst hk;exact aam
   ·have hk2:=hc (x,k) aam
    have hb:(k==NameKind.free)=false:=aa9.mpr hk;rw[hb]at h;simp only[Bool.false_and,false_eq_true,if_false,lookup_cons,beq_self_eq_true]at h
    rcases h with h|h
    ·exact absurd (aaQ h) hk2
    ·exact absurd (aaQ h) hk
  |false=>
   refine aal _ (ih hc' ?_)
   by_cases hk:(k==NameKind.free&&env.scope.kind==.function&&env.kindOf n==some .cell)=true
   ·rw[aar hk]at h;simp only[lookup_cons,hx]at h;exact h
   ·rw[aas hk]at h;simp only[lookup_cons,hx]at h;exact h
theorem ye(h:scope.names.lookup x=some .free) :
  (relabel scope env).names.lookup x=some .cell\/(relabel scope env).names.lookup x=some .free:=by
 unfold relabel;simp only;generalize scope.names=ns at h
 induction ns with
 |nil=>simp at h
 |cons p r ih=>
  obtain⟨n,k⟩:=p;simp only[map_cons];cases hx:x==n with
  |true=>
   simp only[lookup_cons,hx]at h;have hk:=aaQ h;subst hk
   by_cases hk:(NameKind.free==NameKind.free&&env.scope.kind==.function&&env.kindOf n==some .cell)=true
   ·rw[aar hk];simp[lookup_cons,hx]
   ·rw[aas hk];simp[lookup_cons,hx]
  |false=>
   simp only[lookup_cons,hx]at h
   by_cases hk:(k==NameKind.free&&env.scope.kind==.function&&env.kindOf n==some .cell)=true
   ·rw[aar hk];simp only[lookup_cons,hx];exact ih h
   ·rw[aas hk];simp only[lookup_cons,hx];exact ih h
section
variable {X:Cx} {pins:List (Addr×Obj)} {σ:St} {scope:Scope} {N':List Str} {js:List (Option Nat)}
theorem tY(ok:yd X scope N' js)(xo:X.Ok):∀y∈scope.names,y.2=.free->∃c,X.env.cells.lookup y.1=some c:=λy hy e=>by
 have:=(ok.free y hy e).1;unfold yc at this;rw[or_eq_true]at this;refine xo.has y.1 ?_
 rcases this with z|z
 ·exact .inl (eq_of_beq z)
 ·exact .inr (eq_of_beq z)
theorem BN{tk:Nat}(ok:yd X scope N' js)(I:Inv X pins σ H s)
  (hcl1:∀x c,cl.lookup x=some c->X.env.cells.lookup x=some c) (hcl2:∀x,(x,NameKind.free)∈scope.names->∃c,cl.lookup x=some c)
  (hfp:∀b∈fp,se X pins H b) (hlt:∀b∈fp,b<s.heap.objs.size)
  (hns:h'.Ns s.heap.objs.size (λ_=>none)) (hk:∀b o,s.heap.get? b=some o->h'.get? b=some o) :
  Inv (bJ X scope N' cl s.heap.objs.size s H fp) [] (iZ js σ) H { s with heap:=h',toks:=tk }:=by
 have cellK:∀x c,cl.lookup x=some c->∃v,s.heap.IsCell c v:=λx c e=>I.cell x c (hcl1 x c e);have hCf:H s.heap.objs.size=none:=I.hok.fresh (aaw _);refine⟨⟨I.ok.mod,ok.kind,I.ok.glob,I.ok.blt,aaw _,λx y c e1 e2=>I.ok.inj x y c (hcl1 x c e1) (hcl1 y c e2),λx hx=>hcl2 x (vC ok.GV hx),λx c hf _=>absurd hf (by intro z;cases z),I.ok.hd,I.ok.frames,.inl rfl,
   λb hb=>⟨aaG (hlt b hb),λx c e z=>?_⟩,I.bs,aaN I.ok.OC I.sz,λb o e hb=>?_,λb hb hs=>?_,I.stack,I.Cv⟩,rfl,I.bare,Un.kept hk,⟨_,hns,λi x v e1 e2 e3=>?_⟩,λx c e=>?_,hCf,λx c e=>I.jH x c (hcl1 x c e),
   λp hp=>absurd (show p∈([]:List (Addr×Obj)) from hp) (by simp),I.hok.kept hk,?_⟩
 ·exact(hfp b hb).2.2.2.2.1 x c (hcl1 x c e) z
 ·rcases(hfp b hb).2.2.2.1 with z|z
  ·exact I.ok.o9 b o e z
  ·exact absurd (aay (aav (I.ok.bs b o e).1) z) (abr _)
 ·rcases aaz.mp (I.Bt b hs) with z|z
  ·exact(hfp b hb).2.1 z
  ·exact(hfp b hb).2.2.1 z
 ·-- a name aaf has a value: one of the def around
  have LH:(iZ js σ)[i]?=some (some v):=e2;unfold iZ at LH;rw[aaJ] at LH;cases hj:js[i]? with
  |none=>rw[hj] at LH;cases LH
  |some o=>
   rw[hj] at LH;cases o with
   |none=>simp at LH
   |some j=>
    obtain⟨hN,hf⟩:=ok.src i x j e1 hj;cases hs:σ[j]? with
    |none=>simp[hs] at LH
    |some ov=>
     cases ov with
     |none=>simp[hs] at LH
     |some v'=>
      simp[hs] at LH;subst LH;have hfr:=(ok.free (x,.free) (abx hf) rfl).1;unfold yc at hfr;rw[or_eq_true]at hfr;have Vh:X.env.scope.names.lookup x=some .cell\/X.env.scope.names.lookup x=some .free:=hfr.imp eq_of_beq eq_of_beq;obtain⟨m,_,hl⟩:=I.loc;obtain⟨u,r,l⟩:=hl j x v' hN hs (.inr Vh);refine⟨u,r,.inr ⟨ye hf,?_⟩⟩
      rcases l with ⟨k,_⟩|⟨_,c,e,z⟩
      ·have k':X.env.scope.names.lookup x=some .local:=k
       rcases Vh with q|q<;>(rw[q]at k';cases k')
      ·obtain⟨d,hd⟩:=hcl2 x (abx hf);have e':=hcl1 x d hd;rw[e]at e';cases e';obtain⟨oc,hoc,Gg⟩:=z;exact⟨c,hd,oc,hk _ _ hoc,Gg⟩
 ·obtain⟨v,oc,hoc,Gg⟩:=cellK x c e;exact⟨v,oc,hk _ _ hoc,Gg⟩
 ·rw[jW];exact ok.len
theorem EE(I:Inv X pins σ H s)(hfp:∀b∈fp,se X pins H b)
  (J:Inv (bJ X scope N' cl C s H fp) [] σ' H' s'):Inv X pins σ H' s' :=
 I.UB (ch:=fp) J.os J.base J.hok J.bare λb hb=>⟨(hfp b hb).2.2.2.1,(hfp b hb).2.1,(hfp b hb).2.2.2.2.1,(hfp b hb).2.2.2.2.2⟩
end
section
variable {X:Cx} {scope:Scope} {N':List Str} {js:List (Option Nat)} {tg elt iter:Expr} {ifs:List Expr} {pos:Pos} {wi:TI} {g:TG} {tt:TT} {te:TE}
theorem zA{pins:List (Addr×Obj)}{σ:St}{H2:Hp}{s2:Shared}{it:Addr}{fp:List Addr}{tn:Nat->Heap->Prop}{J:It}{cl:List (Str×Addr)}{E:Value->Shared->Prop}{RR:Value->Addr->Result->Shared->Prop}{Q:VK}
  (ok:yd X scope N' js) (hc:X.calm=true) (I2:Inv X pins σ H2 s2) (T:Turn X.prog X.w X.K tg J fp it tn) (st2:tn 0 s2.heap) (f2:∀b∈fp,se X pins H2 b)
  (hcl1:∀x c,cl.lookup x=some c->X.env.cells.lookup x=some c) (hcl2:∀x,(x,NameKind.free)∈scope.names->∃c,cl.lookup x=some c)
  (hg:∀cl C s H fp,PG (bJ X scope N' cl C s H fp) tg g) (ht:∀cl C s H fp,LG (bJ X scope N' cl C s H fp) ifs tt) (he:∀cl C s H fp,PE (bJ X scope N' cl C s H fp) elt te)
  (rd:∀D,H2 D=none->∃W:Nat->Nat->St->Hp->Prop,(∃m,W 0 m (iZ js σ) (upd H2 D (.lst []))) /\
   ∀i m σ' H,W i m σ' H->(J.stop i H/\Q (.ref D) H)\/(J.go i H/\∃N:St->Hp->Prop,(∀ED H',N ED H'->∃m',m'<m/\W (i+1) m' ED H') /\
    ∀x H',J.El i H x H'->g x σ' H' λσ2 H2=>tt σ2 H2 λb H3=>if b=true then te σ2 H3 λy H4=>∃ys,H4 D=some (.lst ys)/\ys.length<sizeLine/\N σ2 (upd H4 D (.lst (ys++[y]))) else N σ2 H3))
  (hRR:∀(D C:Addr) (s':Shared) (H':Hp) (m:Str->Option Value),s2.heap.objs.size<=C->Inv X pins σ H' s'->H' C=none->s'.heap.Ns C m->Q (.ref D) H'->RR (.ref D) C (.ok .next) s') :
  wpAny (model X.prog X.w) X.A (newList []) (λacc s₃=>wpAny (model X.prog X.w) X.A (newFunctionEnv scope X.env.globals cl [] X.env.qual none .none (some X.env)) (λcenv s₄=>
   codeAny (model X.prog X.w) X.A (.compStart (.ListComp elt [⟨tg,iter,ifs,0⟩] scope pos) 0 (.ref it) acc { cenv with scope:=relabel scope X.env }) (RR acc cenv.locals) s₄) E s₃) E s2:=by
 have hD:H2 s2.heap.objs.size=none:=I2.hok.fresh (aaw _);refine aaZ (wpAny_newFunctionEnv ok.GV (by intro y hy;simp at hy) (λh₁ Vi Vj=>?_) ok.kind);dsimp only at Vi Vj |-;have I3:Inv X pins σ (upd H2 s2.heap.objs.size (.lst [])) { s2 with heap:=s2.heap.push { cls:=.type "list",dict:=none,data:=.seq ([]:List Value).toArray },toks:=s2.toks } :=
  I2.laid (t':=s2.toks) (λb u e=>aap _ e) (aaw _) ⟨by simp,[],0,.nil,aaB _ rfl⟩
 generalize Vk:({ s2 with heap:=s2.heap.push { cls:=.type "list",dict:=none,data:=.seq ([]:List Value).toArray },toks:=s2.toks }:Shared)=s3 at I3;have hsz:s3.heap.objs.size=s2.heap.objs.size+1:=by rw[<-Vk];exact abu ..
 have eC:(s2.heap.push { cls:=.type "list",dict:=none,data:=.seq ([]:List Value).toArray }).objs.size=s3.heap.objs.size:=by rw[<-Vk]
 have f3:∀b∈fp,se X pins (upd H2 s2.heap.objs.size (.lst [])) b:=λb hb=>by
  obtain⟨o,e,_⟩:=T.obj _ _ st2 b hb;refine⟨?_,(f2 b hb).2⟩;rw[aA (aaG (aav e))];exact(f2 b hb).1
 have hlt:∀b∈fp,b<s3.heap.objs.size:=λb hb=>by
  obtain⟨o,e,_⟩:=T.obj _ _ st2 b hb;have hb2:b<s2.heap.objs.size:=aav e;rw[hsz];exact abB hb2
 have keep:∀b o,s3.heap.get? b=some o->h₁.get? b=some o:=λb o e=>by
  have e':(s2.heap.push { cls:=.type "list",dict:=none,data:=.seq ([]:List Value).toArray }).get? b=some o:=by rw[<-Vk]at e;exact e
  exact Vj.extBut b o (aaG (aav e')) (aap _ e')
 have I4:=BN (tk:=s2.toks+([]:List (Str×Value)).length) ok I3 hcl1 hcl2 f3 hlt (h':=h₁) (by rw[<-eC];simpa using Vi) keep;have st4:tn 0 h₁:=T.keep _ _ _ st2 λb hb o e=>keep b o (by rw[<-Vk];exact aap _ e);obtain⟨W,⟨m0,w0⟩,turn⟩:=rd _ hD;have stat:∀{H':Hp},(∀b∈fp,H' b=none)->∀b∈fp,se (bJ X scope N' cl s3.heap.objs.size s3 (upd H2 s2.heap.objs.size (.lst [])) fp) [] H' b:=λ{H'} hn b hb=>
  ⟨hn b hb,aaG (hlt b hb),I4.ok.Gf b hb,.inl hb,(I4.ok.YD b hb).2,λp hp=>absurd (show p∈([]:List (Addr×Obj)) from hp) (by simp)⟩
 have es3:∀tk,({ s2 with heap:=h₁,toks:=tk }:Shared)={ s3 with heap:=h₁,toks:=tk }:=λtk=>by rw[<-Vk]
 have loop:codeAny (model X.prog X.w) X.A (.compLoop (.ListComp elt [⟨tg,iter,ifs,0⟩] scope pos) 0 (.ref it) (.ref s2.heap.objs.size) (compEnvC scope cl s3.heap.objs.size X.env)) (RR (.ref s2.heap.objs.size) s3.heap.objs.size)
   { s3 with heap:=h₁,toks:=s2.toks+([]:List (Str×Value)).length }:=by
  refine codeAny_loop rfl (λn s'=>∃i σ' H',Inv (bJ X scope N' cl s3.heap.objs.size s3 (upd H2 s2.heap.objs.size (.lst [])) fp) [] σ' H' s'/\tn i s'.heap/\(∀b∈fp,H' b=none)/\W i n σ' H') ?_ m0 ⟨0,_,_,I4,st4,λb hb=>(f3 b hb).1,w0⟩;rintro n s5 ⟨i,σ5,H5,I5,Ue,X6,w5⟩;show wpAny _ X.A ((compTurn (.ListComp elt [⟨tg,iter,ifs,0⟩] scope pos) 0 (.ref it) (.ref s2.heap.objs.size) (compEnvC scope cl s3.heap.objs.size X.env)).onRaise (λx=>do noteFrame x (compEnvC scope cl s3.heap.objs.size X.env);theTreesLotGoes x)) _ _ s5;refine wpAny_noted ?_;rw[compTurn_list];refine aai (wpAny_standAt (aai ?_))
  rcases turn i n σ5 H5 w5 with ⟨stop,qn⟩|⟨go,N,hN,step⟩
  ·refine abb (T.done (bJ X scope N' cl s3.heap.objs.size s3 (upd H2 s2.heap.objs.size (.lst [])) fp) rfl rfl rfl hc i [] s5 σ5 H5 (λ_ _=>False) I5 (stat X6) Ue stop) (λr s6 ⟨hr,I6⟩=>?_) λ_ _ z=>z.elim;subst hr;refine aaq ?_;obtain⟨m,hm,_⟩:=id I6.loc;exact hRR _ _ s6 H5 m (by rw[hsz];exact abz _) (EE I3 f3 I6) I6.free hm qn
  ·refine abb (T.item (bJ X scope N' cl s3.heap.objs.size s3 (upd H2 s2.heap.objs.size (.lst [])) fp) rfl rfl rfl hc i [] s5 σ5 H5 (λ_ _=>False) I5 (stat X6) Ue go) (λr s6 ⟨u,hr,h6⟩=>?_) λ_ _ z=>z.elim
   subst hr;refine aai (abb h6 (λ_ s7 ⟨x,H7,I7,r7,y7,Y9,fr7⟩=>?_) λ_ _ z=>z.elim);have I7':=I7.pinned (stat fr7) (T.obj _ _ Y9);refine aai (abb (hg _ _ _ _ _ _ s7 σ5 H7 x u _ I7' r7 (step x H7 y7)) (λ_ s8 ⟨σ8,H8,I8,q8⟩=>?_) λ_ _ z=>z.elim);refine aai (abb (ht _ _ _ _ _ _ s8 σ8 H8 _ I8 q8) (λb s9 ⟨H9,I9,q9⟩=>?_) λ_ _ z=>z.elim);have GW:∀{sA:Shared} {σA:St} {HA:Hp},Inv (bJ X scope N' cl s3.heap.objs.size s3 (upd H2 s2.heap.objs.size (.lst [])) fp) ([]++tH fp s7.heap) σA HA sA->N σA HA ->
     ∃m,m<n/\∃i σ' H',Inv (bJ X scope N' cl s3.heap.objs.size s3 (upd H2 s2.heap.objs.size (.lst [])) fp) [] σ' H' sA/\tn i sA.heap/\(∀b∈fp,H' b=none)/\W i m σ' H':=λ{sA σA HA} IA nA=>by
    obtain⟨m',hm,wA⟩:=hN σA HA nA;refine⟨m',hm,i+1,σA,HA,IA.pq,T.keep _ _ _ Y9 λb hb o e=>(IA.pin (b,o) (aaP _ (aaP _ (kX hb e)))).1,λb hb=>?_,wA⟩;obtain⟨o,e,d⟩:=T.obj _ _ Y9 b hb;exact(IA.pin (b,o) (aaP _ (aaP _ (kX hb e)))).2.1
   cases b with
   |false=>exact aaq ⟨rfl,GW I9 (by simpa using q9)⟩
   |true=>rw[aar rfl]at q9;refine aai (aai (abb (he _ _ _ _ _ _ s9 σ8 H9 _ I9 q9) (λv sB ⟨y,HB,IB,rB,ys,hys,hlen,nB⟩=>?_) λ_ _ z=>z.elim));refine aai (abb (we (X:=bJ X scope N' cl s3.heap.objs.size s3 (upd H2 s2.heap.objs.size (.lst [])) fp) _ sB σ8 HB (.ref s2.heap.objs.size) [y] _ [v] (λ_ HC=>HC=upd HB s2.heap.objs.size (.lst (ys++[y]))) IB rfl #[rB] ⟨_,ys,y,rfl,rfl,hys,hlen,rfl⟩) (λv' sC ⟨_,HC,IC,_,eC'⟩=>?_) λ_ _ z=>z.elim);subst eC';exact aaq (aaq ⟨rfl,GW IC nB⟩)
 rw[es3];have Za:({ newEnv scope (s2.heap.push { cls:=.type "list",dict:=none,data:=.seq ([]:List Value).toArray }).objs.size X.env.globals cl X.env.qual none Value.none (some X.env) builtinsNs with scope:=relabel scope X.env }:Env)=compEnvC scope cl s3.heap.objs.size X.env:=by rw[eC];rfl
 have Zb:(newEnv scope (s2.heap.push { cls:=.type "list",dict:=none,data:=.seq ([]:List Value).toArray }).objs.size X.env.globals cl X.env.qual none Value.none (some X.env) builtinsNs).locals=s3.heap.objs.size:=by rw[eC];rfl
 rw[Za,Zb];exact codeAny_compStart_list loop (T.self _ _ _ _ _ st4 loop)
theorem CI(hok:iI X.N X.env.scope scope N' js=true)(hc:X.calm=true)(hi:PI X tg iter wi)(hg:∀cl C s H fp,PG (bJ X scope N' cl C s H fp) tg g)
  (ht:∀cl C s H fp,LG (bJ X scope N' cl C s H fp) ifs tt) (he:∀cl C s H fp,PE (bJ X scope N' cl C s H fp) elt te)
  (hs:∀x,foldedSetIterable iter X.env x=pure x):PE X (.ListComp elt [⟨tg,iter,ifs,0⟩] scope pos) (zz wi js g tt te):=by
 intro pins s σ H Q I h;have ok:=wu hok;obtain⟨cl,Zc,hcl1,hcl2⟩:=tW (tY ok I.ok);rw[eval_ListComp];refine wpAny_comprehension_free (use:=none) rfl hs Zc ok.kind ok.names (cO (hi pins s σ H _ I h) λxv s1 h1=>cO h1 λitv s2 h2=>?_);obtain⟨it,fp,tn,J,H2,rfl,I2,T,st2,f2,rd⟩:=h2;refine zA (RR:=λacc C=>compPost (model X.prog X.w) X.A X.xe none (EP X pins σ Q) acc C) ok hc I2 T st2 f2 hcl1 hcl2 hg ht he rd ?_;intro D C s' H' m hC J' fC hm q;refine⟨m,hm,λh' hs'=>⟨.ref D,H',?_,rfl,q⟩⟩;refine J'.turned (t':=s'.toks) (λb o hb e=>hs'.extBut b o hb e) fC (ne_of_gt (aay I2.lt hC)) (.inr (aaN I2.sz hC)) (λx c e z=>?_) λp hp z=>?_
 ·obtain⟨v,q'⟩:=I2.cell x c e;exact absurd (aay q'.lt (by rw[z];exact hC)) (abr _)
 ·exact absurd (aay (aav (I2.pin p hp).1) (by rw[z];exact hC)) (abr _)
theorem CJ{i:Nat}(hN:X.N.Nodup)(hx:X.N[i]?=some x)(hl:Loc X.env.scope x)(hok:iI X.N X.env.scope scope N' js=true)(hc:X.calm=true)(hi:PI X tg iter wi)(hg:∀cl C s H fp,PG (bJ X scope N' cl C s H fp) tg g)
  (ht:∀cl C s H fp,LG (bJ X scope N' cl C s H fp) ifs tt) (he:∀cl C s H fp,PE (bJ X scope N' cl C s H fp) elt te)
  (hsw:swapsWith (.ListComp elt [⟨tg,iter,ifs,0⟩] scope pos) (some (.Name x pos')) spos.line X.env=pure true)
  (hf:X.fn x=true\/X.env.scope.names.lookup x=some .local)
  (hs:∀x,foldedSetIterable iter X.env x=pure x):PS X (.Assign [.Name x pos'] (.ListComp elt [⟨tg,iter,ifs,0⟩] scope pos) spos) (LZ (zz wi js g tt te) (rH i)):=by
 intro pins s σ H D I h;have ok:=wu hok;obtain⟨cl,Zc,hcl1,hcl2⟩:=tW (tY ok I.ok);rw[exec_Assign_Name_used _ _ _ _ hsw];refine aai (wpAny_standAt (aai ?_));show wpAny _ X.A (do let _ <-comprehension (.ListComp elt [⟨tg,iter,ifs,0⟩] scope pos) scope X.env _ (newList []) false (eval iter X.env) (some (assign (.Name x pos') X.env))) _ _ s;refine aai (abb (wpAny_comprehension_free (use:=some (assign (.Name x pos') X.env)) (Q:=λ_ s'=>SP X pins D .next s') rfl hs Zc ok.kind ok.names
  (cO (hi pins s σ H _ I h) λxv s1 h1=>cO h1 λitv s2 h2=>?_)) (λ_ s' hq=>aaq (aaq hq)) λ_ _ e=>e)
 obtain⟨it,fp,tn,J,H2,rfl,I2,T,st2,f2,rd⟩:=h2;refine zA (RR:=λacc C=>compPost (model X.prog X.w) X.A X.xe (some (assign (.Name x pos') X.env)) (λ_ s'=>SP X pins D .next s') acc C) (Q:=λx H1=>rH i x σ H1 D.nx) ok hc I2 T st2 f2 hcl1 hcl2 hg ht he rd ?_;intro E C s' H' m hC J' fC hm q;have hCL:C≠X.env.locals:=ne_of_gt (aay I2.lt hC);have hCc:∀x c,X.env.cells.lookup x=some c->c≠C:=λx c e z=>by
  obtain⟨v,q'⟩:=I2.cell x c e;exact absurd (aay q'.lt (by rw[z];exact hC)) (abr _)
 refine cO (show wpAny _ X.A (assign (.Name x pos') X.env (.ref E)) (λ_ s''=>(∃ED OL,Inv X pins ED OL s''/\D.nx ED OL/\OL C=none)/\∃m,s''.heap.Ns C m) X.xe s' from ?_) λ_ s'' ⟨⟨ED,OL,Zd,q'',Ze⟩,m'',Qt⟩=>?_
 ·refine wpAny_assign_Name (vZ J' hN hx hl (show RelV (.ref E) (.ref E) from rfl) (λs'' Zd ⟨a,hsb,ha⟩=>⟨⟨_,H',Zd,q,fC⟩,m,?_⟩) hf)
  refine hm.sameBut hsb ?_
  rcases ha with z|z
  ·rw[z];exact hCL
  ·exact λw=>hCc _ _ z w.symm
 ·refine⟨m'',Qt,λh' hs'=>⟨ED,OL,?_,q''⟩⟩;refine Zd.turned (t':=s''.toks) (λb o hb e=>hs'.extBut b o hb e) Ze hCL (.inr (aaN I2.sz hC)) hCc λp hp z=>?_;exact absurd (aay (aav (I2.pin p hp).1) (by rw[z];exact hC)) (abr _)
end
theorem Inv.CK{X:Cx}{pins:List (Addr×Obj)}{σ:St}{H:Hp}{s:Shared}{h':Heap}{t':Nat}{ch:List Addr}(I:Inv X pins σ H s)(hf:∀b∈ch,se X pins H b)
  (k:∀b o,b∉ch->s.heap.get? b=some o->h'.get? b=some o):Inv X pins σ H { s with heap:=h',toks:=t' }:=by
 have Uz:∀b u,H b=some u->b∉ch:=λb u e z=>by rw[(hf b z).1]at e;cases e
 refine I.step (g':=s.gens) (d':=s.drawn) (ch:=ch) (λb hb=>?_) (λb o _ _ hc e _=>k b o hc e) (λb o _ _ hc e _=>⟨o.slots,k b o hc e⟩) (λ_ _ _ _ n=>n)
  (λb o hc e=>⟨o,k b o hc e⟩) (λ_ _ e=>e) (λ_ _ _ e=>e) (λb ps e=>⟨#[],by rw[e];simp⟩) (λm hm=>?_) (λb u e=>?_) I.bare
 ·exact⟨(hf b hb).2.2.2.1,(hf b hb).2.1,(hf b hb).2.2.2.2.1,(hf b hb).2.2.2.2.2⟩
 ·obtain⟨o,es,ep,ho,r⟩:=hm;exact⟨o,es,ep,k _ o (λz=>(hf _ z).2.1 rfl) ho,r⟩
 ·refine(I.hok b u e).stay (λc v hc q=>k c v ?_ q) (λ_ q=>q) λ_ _ q=>q
  rcases hc with z|z
  ·rw[z];exact Uz b u e
  ·exact Uz c _ z
end L2
end
section
namespace L2
open PySem PySem.W PyProof.Rows
namespace vD
section
variable {O:KeyOrd} {key:Nat->O.α} {N:Nat} {cmp:Nat->Nat->(Bool->Shared->Prop)->Shared->Prop} {s:Shared}
def K(O:KeyOrd)(key:Nat->O.α)(p:Array Nat)(i:Nat):O.α:=key (p.getD i 0)
def Up(O:KeyOrd)(key:Nat->O.α)(p:Array Nat)(k:Nat):Prop:=∀i j,i<=j->j<k->O.kle (K O key p i) (K O key p j)
def Down(O:KeyOrd)(key:Nat->O.α)(p:Array Nat)(k:Nat):Prop:=∀i j,i<=j->j<k->O.kle (K O key p j) (K O key p i)
def Ms(O:KeyOrd)(key:Nat->O.α)(N:Nat)(cmp:Nat->Nat->(Bool->Shared->Prop)->Shared->Prop)(s:Shared):Prop :=
 ∀i j (C:Bool->Shared->Prop),i<N->j<N->C (O.blt (key i) (key j)) s->cmp i j C s
def Ent(N:Nat)(p:Array Nat):Prop:=p.size=N/\0<N/\∀x∈p.toList,x<N
theorem Ent.at{p:Array Nat}(h:Ent N p)(i:Nat):p.getD i 0<N:=by
 by_cases hi:i<p.size
 ·have e:p.getD i 0=p[i]:=by simp[Array.getD,hi]
  rw[e];exact h.2.2 _ (by simp)
 ·have e:p.getD i 0=0:=by simp[Array.getD,hi]
  rw[e];exact h.2.1
theorem Ent.perm{p q:Array Nat}(h:Ent N p)(e:q.Perm p):Ent N q :=
 ⟨e.size_eq.trans h.1,h.2.1,λx hx=>h.2.2 x ((Array.perm_iff_toList_perm.mp e).mem_iff.mp hx)⟩
theorem K_congr{p q:Array Nat}{i j:Nat}(h:p[i]?=q[j]?):K O key p i=K O key q j:=by
 unfold K;rw[Array.getD_eq_getD_getElem?,Array.getD_eq_getD_getElem?,h]
theorem K_bubble{p:Array Nat}{src d:Nat}(hs:src<p.size)(hd:d<=src)(k:Nat) :
  K O key (bubble p src d) k=if k=src-d then K O key p src else if src-d<k/\k<=src then K O key p (k-1) else K O key p k:=by
 have e:=getElem?_bubble hs d hd k
 by_cases h1:k=src-d
 ·rw[aar h1]at e |-;exact K_congr e
 ·rw[aas h1]at e |-
  by_cases h2:src-d<k/\k<=src
  ·rw[aar h2]at e |-;exact K_congr e
  ·rw[aas h2]at e |-;exact K_congr e
theorem GX{p:Array Nat}{i j:Nat}(hj:j<=p.size)(k:Nat):K O key (kas_rev p i j) k=if i<=k/\k<j then K O key p (i+j-1-k) else K O key p k:=by
 have e:=getElem?_mirror_all (i:=i) hj k
 by_cases h1:i<=k/\k<j
 ·rw[aar h1]at e |-;exact K_congr e
 ·rw[aas h1]at e |-;exact K_congr e
theorem tZ{p:Array Nat}{i j:Nat}(hj:j<=p.size)(h:∀k,i<=k->k<j->K O key p k=K O key p (j-1))(k:Nat):K O key (kas_rev p i j) k=K O key p k:=by
 rw[GX hj]
 split
 ·rw[h _ (by omega) (by omega),h k (by omega) (by omega)]
 ·rfl
theorem zB{p:Array Nat}{m:Nat}(h:∀t,1<=t->t<m->O.kle (K O key p (t-1)) (K O key p t)):Up O key p m:=by
 intro i j hij hj
 induction j with
 |zero=>
  have:i=0:=by omega
  subst this;exact KeyOrd.kle_refl _
 |succ j ih=>
  by_cases e:i=j+1
  ·subst e;exact KeyOrd.kle_refl _
  ·exact KeyOrd.kle_trans (ih (by omega) (by omega)) (h (j+1) (by omega) hj)
theorem Qu(hA:Ms O key N cmp s){p:Array Nat}(he:Ent N p):∀(f n:Nat) {Q:Nat->Shared->Prop},1<=n ->
  (∀m,n<=m->m<=n+f->(∀t,n<=t->t<m->O.kle (K O key p (t-1)) (K O key p t))->(m<n+f->O.klt (K O key p m) (K O key p (m-1)))->Q m s)->(kas_asc p f n).kasWp cmp Q s
 |0,n,Q,hn,h=>h n (aaw _) (aaw _) (λt h1 h2=>by omega) λq=>by omega
 | f+1,n,Q,hn,h=>by
  show cmp _ _ _ s;refine hA _ _ _ (he.at _) (he.at _) ?_;cases hb:O.blt (key (p.getD n 0)) (key (p.getD (n-1) 0)) with
  |true=>exact h n (aaw _) (by omega) (λt h1 h2=>by omega) λ_=>hb
  |false=>
   show (kas_asc p f (n+1)).kasWp cmp Q s;refine Qu hA he f (n+1) (by omega) λm h1 h2 h3 h4=>h m (by omega) (by omega) (λt t1 t2=>?_) λq=>h4 (by omega)
   by_cases e:t=n
   ·subst e;exact hb
   ·exact h3 t (by omega) t2
theorem CL(hA:Ms O key N cmp s):∀(f:Nat) (p:Array Nat) (n q:Nat) {Q:Array Nat×Nat×Nat->Shared->Prop},Ent N p->1<=n->n+f<=N->q+1<=n->Down O key p n->(∀i,n-(q+1)<=i->i<n->K O key p i=K O key p (n-1)) ->
  (∀p' n' q',p'.Perm p->Ent N p'->1<=n'->n<=n'->n'<=n+f->q'+1<=n'->Down O key p' n'->(∀i,n'-(q'+1)<=i->i<n'->K O key p' i=K O key p' (n'-1))->Q (p',n',q') s)->(kas_desc f p n q).kasWp cmp Q s
 |0,p,n,q,Q,he,hn,hN,hq,hd,hl,h=>h p n q (Array.Perm.refl _) he hn (aaw _) (aaw _) hq hd hl
 | f+1,p,n,q,Q,he,hn,hN,hq,hd,hl,h=>by
  show cmp _ _ _ s;refine hA _ _ _ (he.at _) (he.at _) ?_;cases hb:O.blt (key (p.getD n 0)) (key (p.getD (n-1) 0)) with
  |true=>
   have hlt:O.klt (K O key p n) (K O key p (n-1)):=hb;have hd1:Down O key p (n+1):=λi j hij hj=>by
    by_cases e:j=n
    ·subst e
     by_cases e2:i=j
     ·subst e2;exact KeyOrd.kle_refl _
     ·exact KeyOrd.kle_trans (KeyOrd.kle_of_klt hlt) (hd i (j-1) (by omega) (by omega))
    ·exact hd i j hij (by omega)
   show (if q>0 then kas_desc f (kas_rev p (n-(q+1)) n) (n+1) 0 else kas_desc f p (n+1) 0).kasWp cmp Q s
   by_cases hq0:q>0
   ·rw[aar hq0]
    have ep:(kas_rev p (n-(q+1)) n).Perm p:=mirror_perm _ _ _ _;have eK:∀k,K O key (kas_rev p (n-(q+1)) n) k=K O key p k:=λk=>tZ (by rw[he.1];omega) hl k;refine CL hA f _ (n+1) 0 (he.perm ep) (by omega) (by omega) (by omega) (λi j hij hj=>by rw[eK,eK];exact hd1 i j hij hj) (λi h1 h2=>?_) λp' n' q' g1 g2 g3 g4 g5 g6 g7 g8=>h p' n' q' (g1.trans ep) g2 g3 (by omega) (by omega) g6 g7 g8;have:i=n:=by omega
    subst this;rfl
   ·rw[aas hq0]
    refine CL hA f p (n+1) 0 he (by omega) (by omega) (by omega) hd1 (λi h1 h2=>?_) λp' n' q' g1 g2 g3 g4 g5 g6 g7 g8=>h p' n' q' g1 g2 g3 (by omega) (by omega) g6 g7 g8;have:i=n:=by omega
    subst this;rfl
  |false=>
   show cmp _ _ _ s;refine hA _ _ _ (he.at _) (he.at _) ?_;cases hc:O.blt (key (p.getD (n-1) 0)) (key (p.getD n 0)) with
   |true=>exact h p n q (Array.Perm.refl _) he hn (aaw _) (by omega) hq hd hl
   |false=>
    have heq:K O key p n=K O key p (n-1):=O.total _ _ hb hc;show (kas_desc f p (n+1) (q+1)).kasWp cmp Q s;refine CL hA f p (n+1) (q+1) he (by omega) (by omega) (by omega) (λi j hij hj=>?_) (λi h1 h2=>?_) λp' n' q' g1 g2 g3 g4 g5 g6 g7 g8=>h p' n' q' g1 g2 g3 (by omega) (by omega) g6 g7 g8
    ·by_cases e:j=n
     ·subst e
      by_cases e2:i=j
      ·subst e2;exact KeyOrd.kle_refl _
      ·rw[heq];exact hd i (j-1) (by omega) (by omega)
     ·exact hd i j hij (by omega)
    ·show K O key p i=K O key p (n+1-1)
     rw[Nat.add_sub_cancel]
     by_cases e:i=n
     ·subst e;rfl
     ·rw[heq];exact hl i (by omega) (by omega)
theorem GY(hA:Ms O key N cmp s){p:Array Nat}{n nrem:Nat}(he:Ent N p)(h1:1<=n)(hn:n<=nrem)(hr:nrem<=N)(hd:Down O key p n)
  (h:∀m p',p'.Perm p->Ent N p'->1<=m->m<=nrem->Up O key p' m->Q (m,p') s):(kas_tail3 n nrem p).kasWp cmp Q s:=by
 unfold kas_tail3;rw[KasT.kasWp_bind];have ep:(kas_rev p 0 n).Perm p:=mirror_perm _ _ _ _;have hz:n<=p.size:=by rw[he.1];omega
 refine Qu hA (he.perm ep) _ _ h1 λm a1 a2 a3 _=>h m _ ep (he.perm ep) (by omega) (by omega) (zB λt t1 t2=>?_)
 by_cases e:t<n
 ·rw[GX hz,GX hz,aar (by omega),aar (by omega)];exact hd _ _ (by omega) (by omega)
 ·exact a3 t (by omega) t2
theorem wz(hA:Ms O key N cmp s){p:Array Nat}{n nrem:Nat}(he:Ent N p)(hn:n+1<=nrem)(hr:nrem<=N)(hd:Down O key p (n+1))
  (h:∀m p',p'.Perm p->Ent N p'->1<=m->m<=nrem->Up O key p' m->Q (m,p') s):(kas_descPart n nrem p).kasWp cmp Q s:=by
 unfold kas_descPart;rw[KasT.kasWp_bind];have Vl:∀i,n+1-(0+1)<=i->i<n+1->K O key p i=K O key p (n+1-1):=λi h1 h2=>by
  have e:i=n:=by omega
  subst e;rfl
 refine CL hA (nrem-(n+1)) p (n+1) 0 he (by omega) (by omega) (by omega) hd Vl λp' n' q' g1 g2 g3 g4 g5 g6 g7 g8=>?_;show (if q'>0 then kas_tail3 n' nrem (kas_rev p' (n'-(q'+1)) n') else kas_tail3 n' nrem p').kasWp cmp Q s
 by_cases hq:q'>0
 ·rw[aar hq];have ep:(kas_rev p' (n'-(q'+1)) n').Perm p':=mirror_perm _ _ _ _;have eK:∀k,K O key (kas_rev p' (n'-(q'+1)) n') k=K O key p' k:=λk=>tZ (by rw[g2.1];omega) g8 k;exact GY hA (g2.perm ep) g3 (by omega) hr (λi j hij hj=>by rw[eK,eK];exact g7 i j hij hj) λm p'' a1 a2 a3 a4 a5=>h m p'' ((a1.trans ep).trans g1) a2 a3 a4 a5
 ·rw[aas hq];exact GY hA g2 g3 (by omega) hr g7 λm p'' a1 a2 a3 a4 a5=>h m p'' (a1.trans g1) a2 a3 a4 a5
theorem Qv(hA:Ms O key N cmp s){p:Array Nat}{nrem:Nat}(he:Ent N p)(h1:1<=nrem)(hr:nrem<=N)
  (h:∀m p',p'.Perm p->Ent N p'->1<=m->m<=nrem->Up O key p' m->Q (m,p') s):(kas_count nrem p).kasWp cmp Q s:=by
 unfold kas_count;rw[KasT.kasWp_bind];refine Qu hA he _ _ (aaw _) λn a1 a2 a3 a4=>?_;have hup:Up O key p n:=zB λt t1 t2=>a3 t t1 t2
 by_cases e1:(n==nrem)=true
 ·rw[aar e1];exact h n p (Array.Perm.refl _) he a1 (by omega) hup
 ·rw[aas e1]
  have e1':n≠nrem:=λz=>e1 (by simp[z]);have hlt:O.klt (K O key p n) (K O key p (n-1)):=a4 (by omega)
  by_cases e2:n>1
  ·rw[aar e2]
   show cmp _ _ _ s;refine hA _ _ _ (he.at _) (he.at _) ?_;cases hc:O.blt (key (p.getD 0 0)) (key (p.getD (n-1) 0)) with
   |true=>exact h n p (Array.Perm.refl _) he a1 (by omega) hup
   |false=>
    have hle:O.kle (K O key p (n-1)) (K O key p 0):=hc;have ep:(kas_rev p 0 n).Perm p:=mirror_perm _ _ _ _;have hall:∀k,0<=k->k<n->K O key p k=K O key p (n-1):=λk _ hk=>
     KeyOrd.kle_antisymm (hup k (n-1) (by omega) (by omega)) (KeyOrd.kle_trans hle (hup 0 k (by omega) hk))
    have eK:∀k,K O key (kas_rev p 0 n) k=K O key p k:=λk=>tZ (by rw[he.1];omega) hall k;show (kas_descPart n nrem (kas_rev p 0 n)).kasWp cmp Q s;refine wz hA (he.perm ep) (by omega) hr (λi j hij hj=>?_) λm p' b1 b2 b3 b4 b5=>h m p' (b1.trans ep) b2 b3 b4 b5;rw[eK,eK]
    by_cases ej:j=n
    ·subst ej
     by_cases ei:i=j
     ·subst ei;exact KeyOrd.kle_refl _
     ·rw[hall i (by omega) (by omega)];exact KeyOrd.kle_of_klt hlt
    ·rw[hall i (by omega) (by omega),hall j (by omega) (by omega)];exact KeyOrd.kle_refl _
  ·rw[aas e2]
   have en:n=1:=by omega
   subst en;refine wz hA he (by omega) hr (λi j hij hj=>?_) λm p' b1 b2 b3 b4 b5=>h m p' b1 b2 b3 b4 b5
   by_cases ei:i=j
   ·subst ei;exact KeyOrd.kle_refl _
   ·have:i=0/\j=1:=by omega
    obtain⟨rfl,rfl⟩:=this;exact KeyOrd.kle_of_klt hlt
theorem BO(hA:Ms O key N cmp s){p:Array Nat}{k:Nat}(he:Ent N p)(hs:Up O key p k):∀(f l r:Nat) {Q:Nat->Shared->Prop},l<=r->r<=k->r-l<=f ->
  (∀i,i<l->O.kle (K O key p i) (K O key p k))->(∀i,r<=i->i<k->O.klt (K O key p k) (K O key p i)) ->
  (∀l',l'<=k->(∀i,i<l'->O.kle (K O key p i) (K O key p k))->(∀i,l'<=i->i<k->O.klt (K O key p k) (K O key p i))->Q l' s)->(kas_place p k f l r).kasWp cmp Q s
 | 0,l,r,Q,hlr,hrk,hf,hlo,hhi,h=>by
  have:l=r:=by omega
  subst this;exact h l hrk hlo hhi
 | f+1,l,r,Q,hlr,hrk,hf,hlo,hhi,h=>by
  show (if l≥r then KasT.ret l else _).kasWp cmp Q s
  by_cases hge:l≥r
  ·rw[aar hge]
   have:l=r:=by omega
   subst this;exact h l hrk hlo hhi
  ·rw[aas hge]
   show cmp _ _ _ s;refine hA _ _ _ (he.at _) (he.at _) ?_;cases hb:O.blt (key (p.getD k 0)) (key (p.getD ((l+r)/2) 0)) with
   |true=>show (kas_place p k f l ((l+r)/2)).kasWp cmp Q s;exact BO hA he hs f l ((l+r)/2) (by omega) (by omega) (by omega) hlo (λi h1 h2=>KeyOrd.klt_of_klt_of_kle hb (hs _ _ h1 h2)) h
   |false=>show (kas_place p k f ((l+r)/2+1) r).kasWp cmp Q s;exact BO hA he hs f ((l+r)/2+1) r (by omega) (by omega) (by omega) (λi h1=>KeyOrd.kle_trans (hs i ((l+r)/2) (by omega) (by omega)) hb) hhi h
theorem Vm(hA:Ms O key N cmp s):∀(f:Nat) (p:Array Nat) (k:Nat) {Q:Array Nat->Shared->Prop},Ent N p->k+f<=N->Up O key p k->(∀p',p'.Perm p->Up O key p' (k+f)->Q p' s)->(kas_bin f p k).kasWp cmp Q s
 |0,p,k,Q,he,hk,hs,h=>h p (Array.Perm.refl _) hs
 | f+1,p,k,Q,he,hk,hs,h=>by
  show ((kas_place p k k 0 k).bind λl=>kas_bin f (bubble p k (k-l)) (k+1)).kasWp cmp Q s;rw[KasT.kasWp_bind];refine BO hA he hs k 0 k (by omega) (by omega) (by omega) (λi hi=>by omega) (λi h1 h2=>by omega) λl hl hlo hhi=>?_;have ep:(bubble p k (k-l)).Perm p:=bubble_perm _ _ _;have hks:k<p.size:=by rw[he.1];omega
  refine Vm hA f _ (k+1) (he.perm ep) (by omega) (λi j hij hj=>?_) λp' a1 a2=>h p' (a1.trans ep) (by rwa [show k+(f+1)=k+1+f by omega]);rw[K_bubble hks (by omega),K_bubble hks (by omega),show k-(k-l)=l by omega]
  repeat' split
  all_goals first
   |(exfalso;omega)
   |exact KeyOrd.kle_refl _
   |exact hlo _ (by omega)
   |exact KeyOrd.kle_of_klt (hhi _ (by omega) (by omega))
   |exact hs _ _ (by omega) (by omega)
theorem Vn(hA:Ms O key N cmp s)(h1:1<=N)(h:∀p,p.Perm (toArray (List.range N))->Up O key p N->Q p s):(kas_sort N).kasWp cmp Q s:=by
 unfold kas_sort;rw[KasT.kasWp_bind];have he:Ent N (toArray (List.range N)):=⟨by simp,h1,λx hx=>by simpa using hx⟩;refine Qv hA he h1 (aaw _) λm p a1 a2 a3 a4 a5=>?_;show (if m<N then kas_bin (N-max m 1) p (max m 1) else KasT.ret p).kasWp cmp Q s;have em:max m 1=m:=by omega
 by_cases hlt:m<N
 ·rw[aar hlt,em];exact Vm hA _ p m a2 (by omega) a5 λp' b1 b2=>h p' (b1.trans a1) (by rwa [show m+(N-m)=N by omega]at b2)
 ·rw[aas hlt]
  have:m=N:=by omega
  subst this;exact h p a1 a5
end
end vD
namespace vD
theorem dD{α:Type}(l:List α)(d:α):(List.range l.length).map (λi=>l.getD i d)=l:=by
 refine ext_getElem (by simp) λi h1 h2=>?_;simp[h2]
section
variable {prog:Program} {w:World} {A:Around} {E:Value->Shared->Prop} {s:Shared}
def wB(prog:Program)(w:World)(A:Around)(O:KeyOrd)(key:Nat->O.α)(vs:List Value)(s6:Shared):Prop :=
 wpAny (model prog w) A (keyKind' vs.toArray) (λκ s'=>s'=s6/\Ms O key vs.length (kas_ask prog w A κ vs) s6) (λ_ _=>False) s6
structure GZ (O:KeyOrd) (key:Nat->O.α) (n:Nat) (p:List Nat):Prop where
 perm:p.Perm (List.range n)
 up:(p.map key).Pairwise O.kle
theorem Mt{n:Nat}{p:Array Nat}(h1:p.Perm (toArray (List.range n)))(h2:Up O key p n):GZ O key n p.toList:=by
 have hp:p.toList.Perm (List.range n):=by simpa using Array.perm_iff_toList_perm.mp h1
 refine⟨hp,List.pairwise_iff_getElem.mpr λi j hi hj hij=>?_⟩;have hz:p.toList.length=n:=by rw[hp.length_eq,abj]
 rw[aak]at hi hj;have q:=h2 i j (le_of_lt hij) (by omega);have ei:p.getD i 0=p.toList[i]:=by simp at hi;simp[Array.getD,hi]
 have ej:p.getD j 0=p.toList[j]:=by simp at hj;simp[Array.getD,hj]
 unfold K at q;rw[ei,ej]at q;rw[getElem_map,getElem_map];exact q
theorem Hf{n:Nat}(ho:s.heap.get? a=some (seqObj "list" vs.toArray n))(h64:vs.length<64)
  (hk:2<=vs.length->∀h6:Heap,(∀b o,b≠a->s.heap.get? b=some o->h6.get? b=some o)->wB prog w A O key vs { s with heap:=h6 })
  (h:∀p,GZ O key vs.length p->P (.done (.ret .none)) { s with heap:=sortedHeap s.heap a vs (p.map λi=>vs.getD i Value.none).toArray }) :
  wpAny (model prog w) A (Builtin.«list.sort» ⟨[.ref a],[]⟩) P E s:=by
 have alt:a<s.heap.objs.size:=aav ho;have big:vs.length<=sizeLine:=by rw[abq];omega
 rw[list_sort_plain];apply aai;apply listItems_at ho rfl;apply aai;refine listUpdate_at ho rfl ?_ (by rw[aaE];exact big) (abi _);have q1:=get?_update_seq ho (λ_=>(#[]:Array Value));apply aai;apply seqEpoch_at q1 rfl;apply aai;refine wpAny_newTuple ?_ (by show vs.length<=sizeLine;exact big);apply aai;refine wpAny_newList ?_ (abi _);apply abt;generalize hN:((s.heap.update a (Obj.mapSeq λ_=>(#[]:Array Value))).push (seqObj "tuple" vs.toArray 0)).push (seqObj "list" #[] 0)=h6;have Vo:∀b o,b≠a->s.heap.get? b=some o->h6.get? b=some o:=λb o hb e=>by
  rw[<-hN];refine aap _ (aap _ ?_);rw[Heap.get?_update_ne _ _ _ _ hb];exact e
 have q6:h6.get? a=some (seqObj "list" #[] (if (#[]:Array Value).size==vs.toArray.size then n else n+1)):=by rw[<-hN];exact aap _ (aap _ q1)
 have eS:∀out,h6.update a (Obj.mapSeq λ_=>out)=sortedHeap s.heap a vs out:=λout=>by rw[<-hN];rfl
 show wpAny (model prog w) A _ P E { s with heap:=h6 };dsimp only
 by_cases h2:vs.toArray.size<2
 ·rw[aar h2,aar h2]
  apply aai;apply aaq;rw[StateT.run_pure];apply aai;apply aaq;dsimp only;have eo:(arrOf (SortSt.mk' general' (vs.toArray.zip vs.toArray) #[] 7 none)).map (·.2)=vs.toArray:=by show (vs.toArray.zip vs.toArray).map (·.2)=vs.toArray;apply Array.toList_inj.mp;simp[List.map_snd_zip]
  rw[eo];apply aai;apply seqEpoch_at q6 rfl;apply aai;refine listUpdate_at q6 rfl ?_ (abi _) (by show vs.toArray.size<=_;rw[aaE];omega);have hb:((if (#[]:Array Value).size==vs.toArray.size then n else n+1) != (if (#[]:Array Value).size==vs.toArray.size then n else n+1))=false:=by simp
  rw[eS];simp only[hb,false_eq_true,if_false];apply aaq;have g:=h (List.range vs.length) ⟨List.Perm.refl _,?_⟩
  ·rw[dD]at g;exact g
  ·rw[aaE]at h2;refine List.pairwise_iff_getElem.mpr λi j hi hj hij=>?_;simp at hi hj;omega
 ·rw[aas h2,aas h2]
  rw[aaE]at h2;have ask:=hk (by omega) h6 Vo;apply aai;refine abb ask (λκ s0 hκ=>?_) λ_ _ x=>x.elim;obtain⟨rfl,ans⟩:=hκ;apply aai;refine abb (kat_run (Q:=λst' s'=>s'={ s with heap:=h6 }/\∃p:Array Nat,GZ O key vs.length p.toList/\p.size=vs.length/\(arrOf st').map (·.2)=(p.toList.map λi=>vs.getD i Value.none).toArray/\failedOf st'=none)
   (G:=λp s'=>s'={ s with heap:=h6 }/\GZ O key vs.length p.toList) rfl (by omega) h64 (λp st' s' a1 a2 a3 a4=>⟨a4.1,p,a4.2,a1,kat_snds rfl a2,a3⟩)
   (Vn ans (by omega) λp b1 b2=>⟨rfl,Mt b1 b2⟩)) ?_ λ_ _ x=>x
  rintro⟨⟨⟩,st'⟩ s' ⟨rfl,p,op,pz,er,ef⟩;dsimp only;rw[er];apply aai;apply seqEpoch_at q6 rfl;apply aai;refine listUpdate_at q6 rfl ?_ (abi _) (by show (toArray _).size<=_;rw[aaE,aak,aaW,pz];omega);have hb:((if (#[]:Array Value).size==vs.toArray.size then n else n+1) != (if (#[]:Array Value).size==vs.toArray.size then n else n+1))=false:=by simp
  rw[eS,ef];simp only[hb,false_eq_true,if_false];exact aaq (h p.toList op)
theorem mz
  (h:wpAny (model prog w) A.in1 (collect x) (λvs s1=>vs.length<64/\∃key:Nat->O.α,(2<=vs.length->∀h6:Heap,(∀b o,s1.heap.get? b=some o->h6.get? b=some o)->wB prog w A.in1.in1 O key vs { s1 with heap:=h6 }) /\
   ∀p h',GZ O key vs.length p->(∀b o,s1.heap.get? b=some o->h'.get? b=some o)->(∃e,h'.get? s1.heap.objs.size=some (seqObj "list" (p.map λi=>vs.getD i Value.none).toArray e))->Q (.ref s1.heap.objs.size) { s1 with heap:=h' }) E s) :
  wpAny (model prog w) A (call (.builtin "sorted") [x]) Q E s:=by
 refine Calls.call_function_entry kind_sorted plain_sorted entry_sorted (args_sorted1 _) ?_;unfold Builtin.«sorted»;refine aai (m:=checkCount "sorted" 1 1 _) (aaq ?_);apply aai;refine abb h (λvs s1 ⟨h64,key,hk,hq⟩=>?_) λ_ _ z=>z;have big:vs.length<=sizeLine:=by rw[abq];omega
 apply aai;refine wpAny_newList ?_ big;have q:(s1.heap.push (seqObj "list" vs.toArray 0)).get? s1.heap.objs.size=some (seqObj "list" vs.toArray 0):=aaB _ rfl;apply aai;apply abt;refine wpAny_call_entry (s:={ s1 with heap:=s1.heap.push (seqObj "list" vs.toArray 0) }) slot_list_sort ⟨_,q,rfl⟩ entry_list_sort ?_ (args_list_sort _);refine Hf (key:=key) (s:={ s1 with heap:=s1.heap.push (seqObj "list" vs.toArray 0) }) q h64 (λh2 h6 k6=>?_) λp op=>⟨_,rfl,aaq ⟨_,rfl,?_⟩⟩
 ·exact hk h2 h6 λb o e=>k6 b o (aaG (aav e)) (aap _ e)
 ·refine hq p _ op (λb o e=>?_) (sortedHeap_at q);rw[sortedHeap_old (aaG (aav e)) (by rw[size_push'];exact abB (aav e))];exact aap _ e
end
def BP:KeyOrd where
 α:=Int
 blt:=λa b=>decide (a<b)
 irrefl:=λa=>by simp
 trans:=λa b c h1 h2=>by simp at *;omega
 negTrans:=λa b c h=>by simp at *;omega
 total:=λa b h1 h2=>by simp at *;omega
theorem BQ{s6:Shared}{ns:List Int}(hI:IntsAre vs ns)(h2:2<=vs.length):wB prog w A BP (λi=>ns.getD i 0) vs s6:=by
 have at_:∀i,i<vs.length->∃t,vs.getD i Value.none=.int (ns.getD i 0) t:=by
  intro i hi
  induction hI generalizing i with
  |nil=>simp at hi
  |cons z t r ih=>
   cases i with
   |zero=>exact⟨t,by simp⟩
   |succ i=>
    by_cases hr:2<=1
    ·omega
    ·simp only[length_cons]at hi
     have aux:∀{vs:List Value} {ns:List Int},IntsAre vs ns->∀i,i<vs.length->∃t,vs.getD i Value.none=.int (ns.getD i 0) t:=by
      intro vs ns q
      induction q with
      |nil=>intro i hi;simp at hi
      |cons z t r ih=>
       intro i hi;cases i with
       |zero=>exact⟨t,by simp⟩
       |succ i=>simp only[length_cons]at hi;obtain⟨u,e⟩:=ih i (by omega);exact⟨u,by simpa using e⟩
     obtain⟨u,e⟩:=aux r i (by omega);exact⟨u,by simpa using e⟩
 obtain⟨v₁,v₂,rest,rfl⟩:∃v₁ v₂ rest,vs=v₁::v₂::rest:=by
  match vs,h2 with
  |v₁::v₂::rest,_=>exact⟨v₁,v₂,rest,rfl⟩
 unfold wB;rw[keyKind_ints hI];refine aaq ⟨rfl,λi j C hi hj hc=>?_⟩;obtain⟨t,e1⟩:=at_ i hi;obtain⟨u,e2⟩:=at_ j hj;unfold kas_ask;rw[e1,e2,keyLt'_oneType];exact oneLt_int hc
theorem kZ:∀a,HT.lexLt a a=false
 |[]=>rfl
 |x::xs=>by rw[HT.gu,aar rfl];exact kZ xs
theorem jI:∀a b,HT.lexLt a b=false->HT.lexLt b a=false->a=b
 |[],[],_,_=>rfl
 |[],_::_,h,_=>by rw[HT.iY]at h;cases h
 |_::_,[],_,h=>by rw[HT.iY]at h;cases h
 | x::xs,y::ys,h1,h2=>by
  rw[HT.gu]at h1 h2
  by_cases e:x=y
  ·subst e;rw[aar rfl]at h1 h2;rw[jI xs ys h1 h2]
  ·rw[aas e]at h1;rw[aas (λz=>e z.symm)]at h2;simp at h1 h2;omega
theorem jJ:∀a b c,HT.lexLt a b=true->HT.lexLt b c=true->HT.lexLt a c=true
 |[],[],c,h,_=>by rw[HT.vA]at h;cases h
 |[],_::_,[],_,h=>by rw[HT.fR]at h;cases h
 |[],_::_,_::_,_,_=>rfl
 |_::_,[],_,h,_=>by rw[HT.fR]at h;cases h
 |_::_,_::_,[],_,h=>by rw[HT.fR]at h;cases h
 | x::xs,y::ys,z::zs,h1,h2=>by
  rw[HT.gu]at h1 h2 |-
  by_cases e1:x=y
  ·subst e1
   rw[aar rfl]at h1
   by_cases e2:x=z
   ·subst e2;rw[aar rfl]at h2 |-;exact jJ xs ys zs h1 h2
   ·rw[aas e2]at h2 |-;exact h2
  ·rw[aas e1]at h1
   by_cases e2:y=z
   ·subst e2;rw[aas e1];exact h1
   ·rw[aas e2]at h2;simp at h1 h2;rw[aas (by omega)];simp;omega
theorem wC(a b c:List Int)(h:HT.lexLt a c=true):HT.lexLt a b=true\/HT.lexLt b c=true:=by
 cases h1:HT.lexLt a b with
 |true=>exact .inl rfl
 |false=>
  cases h2:HT.lexLt b c with
  |true=>exact .inr rfl
  |false=>
   cases h3:HT.lexLt b a with
   |true=>have:=jJ _ _ _ h3 h;rw[h2]at this;cases this
   |false=>rw[jI _ _ h1 h3]at h;rw[h2]at h;cases h
def lexOrd:KeyOrd where
 α:=List Int
 blt:=HT.lexLt
 irrefl:=kZ
 trans:=jJ
 negTrans:=wC
 total:=jI
section
variable {prog:Program} {w:World} {A:Around} {s:Shared}
theorem rN{b fin:Bool}:∀{us vs:List Value} {ns ms:List Int} (i:Nat),IntsAre us ns->IntsAre vs ms->(ns.length<ms.length↔fin=true)->us.length=ns.length ->
  Q (HT.lexLt ns ms) s->(ns.length=ms.length\/i=i)->(∀k,k<ns.length->k<ms.length->True)->(ns.length≠ms.length->True)->(fin=decide (ns.length<ms.length))->KatLex prog w A b fin Q (us.zip vs) i s
 | _,_,_,_,i,.nil,.nil,_,_,hq,_,_,_,hf=>by
  refine kat_nil ?_;rw[hf];exact hq
 | _,_,_,_,i,.nil,.cons _ _ _,_,_,hq,_,_,_,hf=>by
  refine kat_nil ?_;rw[hf];simpa [HT.iY] using hq
 | _,_,_,_,i,.cons _ _ _,.nil,_,_,hq,_,_,_,hf=>by
  refine kat_nil ?_;rw[hf];simpa [HT.fR] using hq
 | _,_,_,_,i,.cons x t r,.cons y u r',h1,h2,hq,_,_,_,hf=>by
  refine kat_cons (wpAny_eqBool_int ?_);rw[HT.gu]at hq
  by_cases e:x=y
  ·subst e
   rw[aar rfl]at hq;rw[beq_self_eq_true];refine kat_yes (rN (i+1) r r' ?_ ?_ hq (.inr rfl) (λ_ _ _=>trivial) (λ_=>trivial) ?_)
   ·simpa using h1
   ·simpa using h2
   ·rw[hf];simp
  ·rw[aas e]at hq
   rw[show (x==y)=false from aa9.mpr e];refine kat_no ?_;cases hb:(b&&i==0) with
   |true=>exact oneLt_int hq
   |false=>exact kat_one _ _ (PyProof.Rows.lt_int hq)
end
end vD
end L2
end
section
namespace L2
open PySem PySem.Spec PyProof.Rows
def Zf:Key->PyData
 |.inl i=>.int i
 |.inr x=>.str x
mutual
noncomputable def Den(K:Frag)(H:Hp):PyData->V->Prop
 |.none,v=>v=.non
 |.bool b,v=>v=.bl b
 |.int i,v=>v=.int i
 |.str x,v=>v=.str x
 |.list ds,v=>∃a xs,v=.ref a/\iD K H a xs/\fP K H ds xs
 |.tuple ds,v=>∃a xs,v=.ref a/\mh K H a xs/\fP K H ds xs
 |.dict kvs,v=>∃a ks,v=.ref a/\H a=some (.dK ks)/\pF K H kvs ks
noncomputable def fP(K:Frag)(H:Hp):List PyData->List V->Prop
 |[],xs=>xs=[]
 |d::ds,xs=>∃x r,xs=x::r/\Den K H d x/\fP K H ds r
noncomputable def pF(K:Frag)(H:Hp):List (PyData×PyData)->List (Key×V)->Prop
 |[],ks=>ks=[]
 |(k,d)::r,ks=>∃key x rest,ks=(key,x)::rest/\k=Zf key/\Den K H d x/\pF K H r rest
end
theorem BL.tup{K:Frag}{H H':Hp}{a:Addr}{xs:List V}(e:BL H H')(h:mh K H a xs):mh K H' a xs:=by
 rcases h with (h|⟨o,h⟩)|h
 ·exact .inl (.inl (e _ _ h))
 ·exact .inl (.inr ⟨o,e _ _ h⟩)
 ·exact .inr h
section
variable {K:Frag} {H H':Hp}
mutual
theorem Den.same(e:BL H H'):∀(d:PyData) (v:V),Den K H d v->Den K H' d v
 |.none,_,h=>by rw[Den]at h |-;exact h
 |.bool _,_,h=>by rw[Den]at h |-;exact h
 |.int _,_,h=>by rw[Den]at h |-;exact h
 |.str _,_,h=>by rw[Den]at h |-;exact h
 | .list ds,v,h=>by
  rw[Den]at h |-;obtain⟨a,xs,q1,q2,q3⟩:=h;exact⟨a,xs,q1,e.seq q2,fP.same e ds xs q3⟩
 | .tuple ds,v,h=>by
  rw[Den]at h |-;obtain⟨a,xs,q1,q2,q3⟩:=h;exact⟨a,xs,q1,e.tup q2,fP.same e ds xs q3⟩
 | .dict kvs,v,h=>by
  rw[Den]at h |-;obtain⟨a,ks,q1,q2,q3⟩:=h;exact⟨a,ks,q1,e _ _ q2,pF.same e kvs ks q3⟩
theorem fP.same(e:BL H H'):∀(ds:List PyData) (xs:List V),fP K H ds xs->fP K H' ds xs
 |[],_,h=>by rw[fP]at h |-;exact h
 | d::ds,xs,h=>by
  rw[fP]at h |-;obtain⟨x,r,q1,q2,q3⟩:=h;exact⟨x,r,q1,Den.same e d x q2,fP.same e ds r q3⟩
theorem pF.same(e:BL H H'):∀(kvs:List (PyData×PyData)) (ks:List (Key×V)),pF K H kvs ks->pF K H' kvs ks
 |[],_,h=>by rw[pF]at h |-;exact h
 | (k,d)::r,ks,h=>by
  rw[pF]at h |-;obtain⟨key,x,rest,q1,q2,q3,q4⟩:=h;exact⟨key,x,rest,q1,q2,Den.same e d x q3,pF.same e r rest q4⟩
end
theorem fP.nil:fP K H [] []:=by rw[fP]
theorem fP.cons{d:PyData}{ds:List PyData}{x:V}{r:List V}(h1:Den K H d x)(h2:fP K H ds r):fP K H (d::ds) (x::r):=by rw[fP];exact⟨x,r,rfl,h1,h2⟩
theorem Den.int{i:Int}:Den K H (.int i) (.int i):=by rw[Den]
theorem Den.str:Den K H (.str x) (.str x):=by rw[Den]
theorem Den.bool{b:Bool}:Den K H (.bool b) (.bl b):=by rw[Den]
theorem Den.none:Den K H .none .non:=by rw[Den]
theorem Den.list(h:iD K H a xs)(q:fP K H ds xs):Den K H (.list ds) (.ref a):=by rw[Den];exact⟨a,xs,rfl,h,q⟩
theorem Den.tuple(h:mh K H a xs)(q:fP K H ds xs):Den K H (.tuple ds) (.ref a):=by rw[Den];exact⟨a,xs,rfl,h,q⟩
end
section
variable {X:Cx} {pins:List (Addr×Obj)} {σ:St} {H:Hp} {s:Shared}
mutual
theorem Den.reads(I:Inv X pins σ H s):∀(d:PyData) (v:V) (u:Value),d.canLay0=true->Den X.K H d v->RelV v u->∃as,Reads s.heap u d as
 |.none,v,u,_,h,r=>by rw[Den]at h;subst h;cases r;exact⟨_,.none⟩
 |.bool b,v,u,_,h,r=>by rw[Den]at h;subst h;cases r;exact⟨_,.bool b⟩
 |.int i,v,u,_,h,r=>by rw[Den]at h;subst h;obtain⟨t,rfl⟩:=r;exact⟨_,.int i t⟩
 |.str x,v,u,_,h,r=>by rw[Den]at h;subst h;obtain⟨t,rfl⟩:=r;exact⟨_,.str x t⟩
 | .list ds,v,u,c,h,r=>by
  rw[Den]at h;obtain⟨a,xs,rfl,q1,q2⟩:=h;cases r;obtain⟨its,rv,⟨o,n,e1,e2,_,e3⟩,_⟩:=I.list q1;obtain⟨as,ra⟩:=fP.reads I ds xs its (by simpa [PyData.canLay0] using c) q2 rv;exact⟨_,.list e1 e2 e3 (by simpa using ra)⟩
 | .tuple ds,v,u,c,h,r=>by
  rw[Den]at h;obtain⟨a,xs,rfl,q1,q2⟩:=h;cases r;obtain⟨its,rv,⟨o,e1,e2,n,e3⟩,_⟩:=I.tuple q1;obtain⟨as,ra⟩:=fP.reads I ds xs its (by simpa [PyData.canLay0] using c) q2 rv;exact⟨_,.tuple e1 e2 e3 (by simpa using ra)⟩
 |.dict _,_,_,c,_,_=>by simp[PyData.canLay0]at c
theorem fP.reads(I:Inv X pins σ H s):∀(ds:List PyData) (xs:List V) (us:List Value),PyData.canLayAll0 ds=true->fP X.K H ds xs->Vals xs us->∃as,ReadsAll s.heap us ds as
 |[],xs,us,_,h,r=>by rw[fP]at h;subst h;cases r;exact⟨_,.nil⟩
 | d::ds,xs,us,c,h,r=>by
  have c':d.canLay0=true/\PyData.canLayAll0 ds=true:=by simpa [PyData.canLayAll0] using c
  rw[fP]at h;obtain⟨x,rest,rfl,q1,q2⟩:=h;cases r with
  |cons r1 r2=>obtain⟨as,ra⟩:=Den.reads I d x _ c'.1 q1 r1;obtain⟨bs,rb⟩:=fP.reads I ds rest _ c'.2 q2 r2;exact⟨_,.cons ra rb⟩
end
end
section
variable {X:Cx}
def Zg(K:Frag):R2:=λx y H Q=>∃d e,Den K H d x/\Den K H e y/\d.canLay0=true/\e.canLay0=true/\d.depth<=60/\Q (.bl (PyData.eqv d e)) H
def Zh(K:Frag):R2:=λx y H Q=>∃d e,Den K H d x/\Den K H e y/\d.canLay0=true/\e.canLay0=true/\d.depth<=60/\Q (.bl (!PyData.eqv d e)) H
theorem Qw(hu:X.A.units+64<cLine):sL X (compareOp .Eq) (Zg X.K):=by
 intro pins s σ H x y v u Q I rx ry h;obtain⟨d,e,hd,he,c1,c2,hz,q⟩:=h;obtain⟨as,ra⟩:=Den.reads I d x v c1 hd rx;obtain⟨bs,rb⟩:=Den.reads I e y u c2 he ry;exact SeqAt.compareEq_reads ra rb c1 c2 (by have:=Nat.min_le_left d.depth e.depth;omega) ⟨.bl _,H,I,rfl,q⟩
theorem Qx(hu:X.A.units+64<cLine):sL X (compareOp .NotEq) (Zh X.K):=by
 intro pins s σ H x y v u Q I rx ry h;obtain⟨d,e,hd,he,c1,c2,hz,q⟩:=h;obtain⟨as,ra⟩:=Den.reads I d x v c1 hd rx;obtain⟨bs,rb⟩:=Den.reads I e y u c2 he ry;exact SeqAt.compareNe_reads ra rb c1 c2 (by have:=Nat.min_le_left d.depth e.depth;omega) ⟨.bl _,H,I,rfl,q⟩
theorem t6{ns:List Int}(I:Inv X pins σ H s)(hq:iD X.K H p (ns.map V.int))(h64:ns.length<64)
  (q:∀l,H l=none->Q (.ref l) (upd H l (.lst ((sortI ns).map V.int)))):wpAny (model X.prog X.w) X.A (call (.builtin "sorted") [.ref p]) (EP X pins σ Q) X.xe s:=by
 obtain⟨its,rv,pl,hz⟩:=I.list hq;have hi:=intsAre_of rv;have hl:=hi.length;refine sorted_ints pl.isList hi (by omega) λout ns' a1 a2 a3=>?_;obtain⟨e,he⟩:=sortedAll_at s.heap its out;have es:ns'=sortI ns:=eq_sortI a2 a3;subst es;have hn:H (s.heap.objs.size+1)=none:=I.hok.fresh (abz _);refine⟨.ref (s.heap.objs.size+1),_,I.laid (t':=s.toks) (λb o z=>sortedAll_old z) (abz _) (show cj X.prog X.w _ _ _ (.lst ((sortI ns).map V.int)) from⟨?_,out.toList,e,nJ a1,by simpa using he⟩),rfl,q _ hn⟩;rw[aak,(abo ns).length_eq,abq];omega
theorem qB:cS X (.builtin "sorted") (λxs H Q=>∃p ns,xs=[.ref p]/\iD X.K H p (ns.map V.int)/\ns.length<64/\∀l,H l=none->Q (.ref l) (upd H l (.lst ((sortI ns).map V.int)))):=by
 intro pins s σ H xs us Q I r h;obtain⟨p,ns,rfl,hq,h64,q⟩:=h;obtain⟨u,rfl,ru⟩:=vals1 r;cases ru;exact t6 I hq h64 q
def Vp(K:Frag)(H:Hp)(r:Addr×List Int):Prop:=mh K H r.1 (r.2.map V.int)/\r.2≠[]
theorem BR{pins:List (Addr×Obj)}{σ:St}{H:Hp}{s:Shared}{A:Around}{rs:List (Addr×List Int)}{h6:Heap}{s6:Shared}(I:Inv X pins σ H s)(ht:∀r∈rs,Vp X.K H r)(h2:2<=rs.length)(k:∀b o,s.heap.get? b=some o->s6.heap.get? b=some o) :
  vD.wB X.prog X.w A vD.lexOrd (λi=>(rs.getD i (0,[])).2) (rs.map λr=>Value.ref r.1) s6:=by
 have tup:∀r∈rs,∃its o n,s6.heap.get? r.1=some o/\o.cls=.type "tuple" /\ o.data=.seq (toArray its) n/\IntsAre its r.2:=λr hr=>by
  obtain⟨its,rv,⟨o,e1,e2,n,e3⟩,_⟩:=I.tuple (ht r hr).1;exact⟨its,o,n,k _ _ e1,e2,e3,intsAre_of rv⟩
 have kt:∀rs:List (Addr×List Int),(∀r∈rs,∃its o n,s6.heap.get? r.1=some o/\o.cls=.type "tuple" /\ o.data=.seq (toArray its) n/\IntsAre its r.2)->(∀r∈rs,r.2≠[]) ->
   ∃fs,PySem.W.KatTups s6.heap (rs.map λr=>Value.ref r.1) fs/\fs.length=rs.length/\∀v∈fs,∃i t,v=Value.int i t:=by
  intro rs
  induction rs with
  |nil=>intro _ _;exact⟨[],PySem.W.KatTups.nil,rfl,λv hv=>nomatch hv⟩
  |cons r rs ih=>
   intro g1 g2;obtain⟨fs,q1,q2,q3⟩:=ih (λr' hr'=>g1 r' (aal _ hr')) λr' hr'=>g2 r' (aal _ hr');obtain⟨its,o,n,e1,e2,e3,hi⟩:=g1 r aam;have hne:=g2 r aam;cases hr:r.2 with
   |nil=>exact absurd hr hne
   |cons i is=>
    rw[hr]at hi;cases hi with
    |cons _ t hi'=>
     refine⟨.int i t::fs,PySem.W.KatTups.cons e1 e2 e3 (by simp) q1,by simp[q2],λv hv=>?_⟩
     rcases aaz.mp hv with z|z
     ·exact⟨i,t,z⟩
     ·exact q3 v z
 obtain⟨fs,q1,q2,q3⟩:=kt rs tup λr hr=>(ht r hr).2;unfold vD.wB;refine PySem.W.kat_kind q1 (by omega) (T:=Value.type "int") (λv hv=>?_) rfl ⟨rfl,λi j C hi hj hc=>?_⟩
 ·obtain⟨i,t,rfl⟩:=q3 v hv;exact PySem.W.Looks.of_pure rfl
 ·rw[aak]at hi hj
  unfold PySem.W.kas_ask;have e1:(rs.map λr=>Value.ref r.1).getD i Value.none=Value.ref rs[i].1:=by simp[hi]
  have e2:(rs.map λr=>Value.ref r.1).getD j Value.none=Value.ref rs[j].1:=by simp[hj]
  have e3:rs.getD i (0,[])=rs[i]:=by simp[hi]
  have e4:rs.getD j (0,[])=rs[j]:=by simp[hj]
  rw[e1,e2];simp only[e3,e4]at hc;obtain⟨its,o,n,a1,a2,a3,a4⟩:=tup rs[i] (List.getElem_mem hi);obtain⟨its',o',n',b1,b2,b3,b4⟩:=tup rs[j] (List.getElem_mem hj);have l1:=a4.length;have l2:=b4.length;refine kat_lt a1 a3 b1 b3 (vD.rN 0 a4 b4 ?_ l1 hc (.inr rfl) (λ_ _ _=>trivial) (λ_=>trivial) ?_)
  ·rw[aaE,aaE,l1,l2];simp
  ·rw[aaE,aaE,l1,l2]
theorem EF{rs:List (Addr×List Int)}:∀{us:List Value},Vals (rs.map λr=>V.ref r.1) us->us=rs.map λr=>Value.ref r.1:=by
 induction rs with
 |nil=>intro us r;cases r;rfl
 |cons a rs ih=>
  intro us r;cases r with
  |cons r1 r2=>cases r1;rw[ih r2];rfl
theorem qC:cS X (.builtin "sorted") (λxs H Q=>∃(p:Addr) (rs:List (Addr×List Int)),xs=[.ref p]/\iD X.K H p (rs.map λr=>V.ref r.1)/\rs.length<64/\(∀r∈rs,Vp X.K H r) /\
  ∀(l:Addr) (qs:List (Addr×List Int)),H l=none->qs.Perm rs->qs.Pairwise (λa b=>HT.lexLt b.2 a.2=false)->Q (.ref l) (upd H l (.lst (qs.map λr=>V.ref r.1)))):=by
 intro pins s σ H xs us Q I r h;obtain⟨p,rs,rfl,hq,h64,ht,q⟩:=h;obtain⟨u,rfl,ru⟩:=vals1 r;cases ru;obtain⟨its,rv,pl,hz⟩:=I.list hq;have ev:=EF rv;subst ev;refine vD.mz (O:=vD.lexOrd) (collect_list pl.isList ?_ (by rw[aak,abq];omega));have k1:∀b o,s.heap.get? b=some o->((s.heap.push (seqObj "list" #[] 0)).update s.heap.objs.size (Obj.mapSeq (· ++ (rs.map λr=>Value.ref r.1).toArray))).get? b=some o:=λb o e=>by
  rw[Heap.get?_update_ne _ _ _ _ (aaG (aav e))];exact aap _ e
 have sz1:((s.heap.push (seqObj "list" #[] 0)).update s.heap.objs.size (Obj.mapSeq (· ++ (rs.map λr=>Value.ref r.1).toArray))).objs.size=s.heap.objs.size+1:=by rw[Heap.size_update,size_push']
 refine⟨by rw[aak];exact h64,λi=>(rs.getD i (0,[])).2,λh2 h6 k6=>?_,λpp h' op k' he=>?_⟩
 ·rw[aak]at h2;exact BR (h6:=h6) I ht h2 λb o e=>k6 b o (k1 b o e)
 ·rw[aak]at op
  dsimp only at k' he |-;rw[sz1]at he |-;obtain⟨e,he⟩:=he;have hn:H (s.heap.objs.size+1)=none:=I.hok.fresh (abz _);have lp:pp.length=rs.length:=by rw[op.perm.length_eq,abj]
  have mem:∀i∈pp,i<rs.length:=λi hi=>by simpa using op.perm.mem_iff.mp hi
  have Zi:(pp.map λi=>(rs.map λr=>Value.ref r.1).getD i Value.none)=(pp.map λi=>rs.getD i (0,[])).map λr=>Value.ref r.1:=by rw[aaV];refine aba λi hi=>?_;simp[mem i hi]
  have qp:(pp.map λi=>rs.getD i (0,[])).Perm rs:=by have:=op.perm.map λi=>rs.getD i (0,[]);rwa [vD.dD]at this
  have qs:(pp.map λi=>rs.getD i (0,[])).Pairwise (λa b=>HT.lexLt b.2 a.2=false):=by have up1:=abv.mp op.up;exact abv.mpr up1
  refine⟨.ref (s.heap.objs.size+1),_,I.laid (t':=s.toks) (λb o z=>k' b o (k1 b o z)) (abz _) (show cj X.prog X.w _ _ _ (.lst ((pp.map λi=>rs.getD i (0,[])).map λr=>V.ref r.1)) from⟨?_,_,e,?_,he⟩),rfl,q _ _ hn qp qs⟩
  ·rw[aak,aak,lp,abq];omega
  ·rw[Zi]
   generalize (pp.map λi=>rs.getD i (0,[]))=zs
   induction zs with
   |nil=>exact .nil
   |cons z zs ih=>exact .cons rfl ih
theorem CM{ns:List Int}(h:IntsAre us ns):∀(i:Nat) (v:Value),us[i]?=some v->∃t,v=.int (ns.getD i 0) t:=by
 induction h with
 |nil=>intro i v e;simp at e
 |cons z t r ih=>
  intro i v e;cases i with
  |zero=>simp at e;exact⟨t,by simp[<-e]⟩
  |succ i=>obtain⟨u,q⟩:=ih i v (by simpa using e);exact⟨u,by simpa using q⟩
theorem wD{pins:List (Addr×Obj)}{σ:St}{H:Hp}{s:Shared}{p:Addr}{ns:List Int}(I:Inv X pins σ H s)(hc:X.calm=true)(hq:iD X.K H p (ns.map V.int)\/mh X.K H p (ns.map V.int))(hne:0<ns.length){Q:Value->Shared->Prop}{f:String}{bt:Int->Int->Bool}{op:CmpOp}
  (hf:∀{Q:Value->Shared->Prop},wpAny (model X.prog X.w) X.A.in1 (pyIter (.ref p)) (λit s₂=>∃I fp wr n P St bt,it=.ref I/\Walks X.prog X.w X.A.in1 I fp wr n P St/\St 0 s₂.heap/\(∀b∈fp,b<s₂.heap.objs.size)/\0<n/\CmpOf X.prog X.w X.A.in1 op P bt /\
   ∀v h' tk,P (argBest bt (n-1)) v->(∀b o,b∉wr->s₂.heap.get? b=some o->h'.get? b=some o)->Q v { s₂ with heap:=h',toks:=tk }) X.xe s->wpAny (model X.prog X.w) X.A (call (.builtin f) [.ref p]) Q X.xe s)
  (hcmp:∀(P:Nat->Value->Prop),(∀i v,P i v->∃t,v=.int (ns.getD i 0) t)->CmpOf X.prog X.w X.A.in1 op P λi j=>bt (ns.getD i 0) (ns.getD j 0))
  (h:∀t h' tk,(∀b o,s.heap.get? b=some o->h'.get? b=some o)->argBest (λi j=>bt (ns.getD i 0) (ns.getD j 0)) (ns.length-1)<ns.length->Q (.int (ns.getD (argBest (λi j=>bt (ns.getD i 0) (ns.getD j 0)) (ns.length-1)) 0) t) { s with heap:=h',toks:=tk }) :
  wpAny (model X.prog X.w) X.A (call (.builtin f) [.ref p]) Q X.xe s:=by
 have hh:X.A.in1.handled=none:=I.ok.hd hc;have up:∀{us:List Value} (P:Nat->Value->Prop) (hi:IntsAre us ns),(∀i v,P i v->us.toArray[i]?=some v)->∀i v,P i v->∃t,v=.int (ns.getD i 0) t:=λP hi hP i v q=>CM hi i v (by simpa using hP i v q);have best:∀{us:List Value} (hi:IntsAre us ns) (v:Value) (h':Heap) (tk:Nat),us.toArray[argBest (λi j=>bt (ns.getD i 0) (ns.getD j 0)) (us.toArray.size-1)]?=some v->(∀b o,s.heap.get? b=some o->h'.get? b=some o)->Q v { s with heap:=h',toks:=tk }:=λ{us} hi v h' tk e k=>by
  have hl:=hi.length;rw[aaE,hl]at e;have e':us[argBest (λi j=>bt (ns.getD i 0) (ns.getD j 0)) (ns.length-1)]?=some v:=by simpa using e
  obtain⟨t,rfl⟩:=CM hi _ v e';exact h t h' tk k (by have:=(aao.mp e').1;omega)
 rcases hq with hq|hq
 ·obtain⟨its,rv,pl,hz⟩:=I.list hq
  have hi:=intsAre_of rv;have hl:=hi.length;have hpl:=pl.isList;have hlt:p<s.heap.objs.size:=by obtain⟨_,e,_⟩:=hpl;exact aav e
  refine hf (wpAny_pyIter_list hpl ⟨s.heap.objs.size,[s.heap.objs.size,p],[s.heap.objs.size],its.toArray.size,_,_,λi j=>bt (ns.getD i 0) (ns.getD j 0),rfl,Walks.list hh _ p (aaG hlt) its.toArray,⟨⟨_,aaB _ rfl,rfl,rfl⟩,hpl.push _⟩,λb hb=>?_,by rw[aaE];omega,
   hcmp _ (up _ hi λi v q=>q),λv h' tk e k=>?_⟩)
  ·simp only[size_push']
   rcases aaz.mp hb with z|z
   ·rw[z];exact aa8 _
   ·rw[aaF.mp z];exact abB hlt
  ·exact best hi v h' tk e λb o z=>k b o (by simp;exact aaG (aav z)) (aap _ z)
 ·obtain⟨its,rv,pl,hz⟩:=I.tuple hq
  have hi:=intsAre_of rv;have hl:=hi.length;have hpl:s.heap.IsTuple p its.toArray:=pl;have hlt:p<s.heap.objs.size:=by obtain⟨_,e,_⟩:=hpl;exact aav e
  refine hf (wpAny_pyIter_tuple hpl ⟨s.heap.objs.size,[s.heap.objs.size,p],[s.heap.objs.size],its.toArray.size,_,_,λi j=>bt (ns.getD i 0) (ns.getD j 0),rfl,Walks.tuple hh _ p (aaG hlt) its.toArray,⟨⟨_,aaB _ rfl,rfl,rfl⟩,?_⟩,λb hb=>?_,by rw[aaE];omega,
   hcmp _ (up _ hi λi v q=>q),λv h' tk e k=>?_⟩)
  ·obtain⟨o,e,c⟩:=hpl;exact⟨o,aap _ e,c⟩
  ·simp only[size_push']
   rcases aaz.mp hb with z|z
   ·rw[z];exact aa8 _
   ·rw[aaF.mp z];exact abB hlt
  ·exact best hi v h' tk e λb o z=>k b o (by simp;exact aaG (aav z)) (aap _ z)
theorem yf(hc:X.calm=true):cS X (.builtin "min") (λxs H Q=>∃(p:Addr) (ns:List Int),xs=[.ref p]/\(iD X.K H p (ns.map V.int)\/mh X.K H p (ns.map V.int))/\0<ns.length/\∀m,m∈ns->(∀a∈ns,m<=a)->Q (.int m) H):=by
 intro pins s σ H xs us Q I r h;obtain⟨p,ns,rfl,hq,hne,q⟩:=h;obtain⟨u,rfl,ru⟩:=vals1 r;cases ru;refine wD (bt:=λa b=>decide (a<b)) (op:=.Lt) I hc hq hne (λ{Q} h=>call_min_walk h) (λP hP=>?_) λt h' tk k hb=>⟨.int _,H,I.kept k,⟨t,rfl⟩,q _ ?_ λa ha=>?_⟩
 ·intro i j x y s' Q' E' hx hy hQ;obtain⟨t,rfl⟩:=hP i x hx;obtain⟨t',rfl⟩:=hP j y hy;exact lt_int (by simpa using hQ)
 ·exact getD_mem hb
 ·obtain⟨j,hj,rfl⟩:=mem_getD ha;exact(argBest_lt (λi=>ns.getD i 0) (ns.length-1)).2 j (by omega)
theorem yg(hc:X.calm=true):cS X (.builtin "max") (λxs H Q=>∃(p:Addr) (ns:List Int),xs=[.ref p]/\(iD X.K H p (ns.map V.int)\/mh X.K H p (ns.map V.int))/\0<ns.length/\∀m,m∈ns->(∀a∈ns,a<=m)->Q (.int m) H):=by
 intro pins s σ H xs us Q I r h;obtain⟨p,ns,rfl,hq,hne,q⟩:=h;obtain⟨u,rfl,ru⟩:=vals1 r;cases ru;refine wD (bt:=λa b=>decide (a>b)) (op:=.Gt) I hc hq hne (λ{Q} h=>call_max_walk h) (λP hP=>?_) λt h' tk k hb=>⟨.int _,H,I.kept k,⟨t,rfl⟩,q _ ?_ λa ha=>?_⟩
 ·intro i j x y s' Q' E' hx hy hQ;obtain⟨t,rfl⟩:=hP i x hx;obtain⟨t',rfl⟩:=hP j y hy;exact gt_int (by simpa using hQ)
 ·exact getD_mem hb
 ·obtain⟨j,hj,rfl⟩:=mem_getD ha;exact(argBest_gt (λi=>ns.getD i 0) (ns.length-1)).2 j (by omega)
end
section
variable {X:Cx}
theorem t7{bs:List Bool}:∀{us:List Value},Vals (bs.map V.bl) us->us=bs.map Value.bool:=by
 induction bs with
 |nil=>intro us r;cases r;rfl
 |cons a bs ih=>
  intro us r;cases r with
  |cons r1 r2=>cases r1;rw[ih r2];rfl
theorem t8(bs:List Bool):((List.range bs.length).all λi=>bs.getD i true)=bs.all id:=by
 conv=>rhs;rw[<-vD.dD bs true]
 rw[List.all_map];rfl
theorem t9(bs:List Bool):((List.range bs.length).any λi=>bs.getD i false)=bs.any id:=by
 conv=>rhs;rw[<-vD.dD bs false]
 rw[any_map];rfl
theorem vF(hc:X.calm=true):cS X (.builtin "all") (λxs H Q=>∃(p:Addr) (bs:List Bool),xs=[.ref p]/\iD X.K H p (bs.map V.bl)/\Q (.bl (bs.all id)) H):=by
 intro pins s σ H xs us Q I r h;obtain⟨p,bs,rfl,hq,q⟩:=h;obtain⟨u,rfl,ru⟩:=vals1 r;cases ru;obtain⟨its,rv,pl,hz⟩:=I.list hq;have ev:=t7 rv;subst ev;have hpl:=pl.isList;have hlt:p<s.heap.objs.size:=by obtain⟨_,e,_⟩:=hpl;exact aav e
 refine call_all_walk (wpAny_pyIter_list hpl ⟨s.heap.objs.size,[s.heap.objs.size,p],[s.heap.objs.size],_,_,_,λi=>bs.getD i true,rfl,Walks.list (A:=X.A.in1) (I.ok.hd hc) _ p (aaG hlt) (bs.map Value.bool).toArray,
  ⟨⟨_,aaB _ rfl,rfl,rfl⟩,hpl.push _⟩,λi v s' Q' E' hP hQ=>?_,λh' tk hk=>?_⟩)
 ·have hi:i<bs.length:=by simpa using (Array.getElem?_eq_some_iff.mp hP).1
  have e:v=Value.bool (bs.getD i true):=by
   have:(bs.map Value.bool)[i]?=some v:=by simpa using hP
   simp[hi]at this;simp[hi,this]
  subst e;exact wpAny_truthy_bool hQ
 ·have e:((List.range (bs.map Value.bool).toArray.size).all λi=>bs.getD i true)=bs.all id:=by rw[aaE,aak];exact t8 bs
  rw[e];exact⟨.bl _,H,I.kept λb o z=>hk b o (by simp;exact aaG (aav z)) (aap _ z),rfl,q⟩
theorem vG(hc:X.calm=true):cS X (.builtin "any") (λxs H Q=>∃(p:Addr) (bs:List Bool),xs=[.ref p]/\iD X.K H p (bs.map V.bl)/\Q (.bl (bs.any id)) H):=by
 intro pins s σ H xs us Q I r h;obtain⟨p,bs,rfl,hq,q⟩:=h;obtain⟨u,rfl,ru⟩:=vals1 r;cases ru;obtain⟨its,rv,pl,hz⟩:=I.list hq;have ev:=t7 rv;subst ev;have hpl:=pl.isList;have hlt:p<s.heap.objs.size:=by obtain⟨_,e,_⟩:=hpl;exact aav e
 refine call_any_walk (wpAny_pyIter_list hpl ⟨s.heap.objs.size,[s.heap.objs.size,p],[s.heap.objs.size],_,_,_,λi=>bs.getD i false,rfl,Walks.list (A:=X.A.in1) (I.ok.hd hc) _ p (aaG hlt) (bs.map Value.bool).toArray,
  ⟨⟨_,aaB _ rfl,rfl,rfl⟩,hpl.push _⟩,λi v s' Q' E' hP hQ=>?_,λh' tk hk=>?_⟩)
 ·have hi:i<bs.length:=by simpa using (Array.getElem?_eq_some_iff.mp hP).1
  have e:v=Value.bool (bs.getD i false):=by
   have:(bs.map Value.bool)[i]?=some v:=by simpa using hP
   simp[hi]at this;simp[hi,this]
  subst e;exact wpAny_truthy_bool hQ
 ·have e:((List.range (bs.map Value.bool).toArray.size).any λi=>bs.getD i false)=bs.any id:=by rw[aaE,aak];exact t9 bs
  rw[e];exact⟨.bl _,H,I.kept λb o z=>hk b o (by simp;exact aaG (aav z)) (aap _ z),rfl,q⟩
section
open PySem.AutoSeq1 (wpAny_loadPart')
theorem yh(l b:Addr)(items items2:Array Value)(n n2:Nat)(dd2:Option Addr)(sl2:Array (Option Value))(hs0:¬(!items.isEmpty&&Builtin.List.listTooLong (items.size+items2.size))=true)(hs1:items.size<=sizeLine)(hs2:items.size+items2.size<=sizeLine+1) :
  Meets (Builtin.«list.extend» ⟨[.ref l,.ref b],[]⟩) (λ_ R s=>s.heap.get? l=some { cls:=.type "list",data:=.seq items n }/\s.heap.get? b=some { cls:=.type "tuple",dict:=dd2,data:=.seq items2 n2,slots:=sl2 } /\
   R (.ok (.ret Value.none)) { s with heap:=s.heap.update l (Obj.mapSeq λx=>x++items2) }) :=
 .of_wp λprog w A R s h=>by
  obtain⟨hp,g,d,tk,os⟩:=s;obtain⟨hl,hb,h⟩:=h;have f2:=AutoSeq1.sub_tuple_tuple;have f3:=AutoSeq1.sub_list_list;have f4:=AutoSeq1.sub_tuple_list;have f5:=AutoSeq1.sub_list_tuple;have hz':(items++items2).size<=sizeLine+1:=by rw[Array.size_append];exact hs2
  wp_walk using (wpAny_updateSeq hl rfl (hz:=hs1) (_hz':=hz')),wpAny_loadPart' hl,wpAny_loadPart' hb
  exact⟨_,rfl,h⟩
end
def Hg(K:Frag):V->List V->Hp->VK->Prop:=λx vs H Q=>∃l b xs zs,x=.ref l/\vs=[.ref b]/\H l=some (.lst xs)/\mh K H b zs/\xs.length+zs.length<=sizeLine/\Q .non (upd H l (.lst (xs++zs)))
theorem BS:Y5 X "list.extend" (Hg X.K):=by
 intro pins s σ H x vs v us Q I rx rv h;obtain⟨l,b,xs,zs,rfl,rfl,hH,hB,hz,q⟩:=h;cases rx;obtain⟨u,rfl,ru⟩:=rv.one;cases ru;obtain⟨z,its,n,r,hl,e⟩:=I.Ql hH;obtain⟨its2,r2,⟨⟨oc,od,odt,osl⟩,e2,ec,n2,ed⟩,z2⟩:=I.tuple hB;cases ec;cases ed;have l2:=r2.length;have hsz:its.toArray.size+its2.toArray.size<=sizeLine:=by rw[aaE,aaE];omega
 have Vq:¬ (!its.toArray.isEmpty&&Builtin.List.listTooLong (its.toArray.size+its2.toArray.size))=true:=by rw[GJ hsz,Bool.and_false];exact aaj
 refine call_meets F.slot_list_extend ⟨_,e,rfl⟩ F.entry_list_extend (F.args_list_extend_2 _ _)
  (yh l b its.toArray its2.toArray n n2 od osl Vq (by rw[aaE];omega) (by omega)) ⟨e,e2,?_⟩
 refine⟨.non,_,I.Qk (its':=its++its2) hH e (by simp) (r.append r2) ?_,rfl,q⟩;rw[aaI];omega
end
end L2
end
section
namespace L2
open PySem
def wF(xs:Array Nat):Prop:=xs.toList.Pairwise (· < ·)
structure Cut (xs:Array Nat) (j p:Nat):Prop where
 le:p<=xs.size
 lo:∀(i:Nat) (hi:i<xs.size),i<p->xs[i]<j
 hi:∀(i:Nat) (hi:i<xs.size),p<=i->j<=xs[i]
theorem Cut.one{xs:Array Nat}{j p q:Nat}(a:Cut xs j p)(b:Cut xs j q):p=q:=by
 rcases Nat.lt_trichotomy p q with h|h|h
 ·have hp:p<xs.size:=aay h b.le;have:=a.hi p hp (aaw _);have:=b.lo p hp h;omega
 ·exact h
 ·have hq:q<xs.size:=aay h a.le;have:=b.hi q hq (aaw _);have:=a.lo q hq h;omega
theorem wF.get{xs:Array Nat}(r:wF xs){a b:Nat}(ha:a<xs.size)(hb:b<xs.size)(h:a<b):xs[a]<xs[b]:=by
 have:=List.pairwise_iff_getElem.mp r a b (by simpa using ha) (by simpa using hb) h;simpa using this
theorem BU{xs:Array Nat}(r:wF xs)(j:Nat):∀(fuel lo hi:Nat),lo<=hi->hi<=xs.size->hi-lo<=fuel->(∀(i:Nat) (hi:i<xs.size),i<lo->xs[i]<j)->(∀(i:Nat) (h:i<xs.size),hi<=i->j<=xs[i])->Cut xs j (SetTable.below.go xs j fuel lo hi)
 | 0,lo,hi,h1,h2,h3,a,b=>by
  have:lo=hi:=by omega
  subst this;exact⟨h2,a,b⟩
 | fuel+1,lo,hi,h1,h2,h3,a,b=>by
  unfold SetTable.below.go
  by_cases hlt:lo<hi
  ·rw[aar hlt]
   dsimp only;have hm:(lo+hi)/2<xs.size:=by omega
   have eg:xs.getD ((lo+hi)/2) j=xs[(lo+hi)/2]:=by simp[Array.getD,hm]
   rw[eg]
   by_cases hc:xs[(lo+hi)/2]<j
   ·rw[aar hc]
    refine BU r j fuel _ hi (by omega) h2 (by omega) (λi hi' hl=>?_) b
    by_cases e:i=(lo+hi)/2
    ·subst e;exact hc
    ·exact lt_trans (r.get hi' hm (by omega)) hc
   ·rw[aas hc]
    refine BU r j fuel lo _ (by omega) (by omega) (by omega) a (λi hi' hl=>?_)
    by_cases e:i=(lo+hi)/2
    ·subst e;omega
    ·have:=r.get hm hi' (by omega);omega
  ·rw[aas hlt]
   have:lo=hi:=by omega
   subst this;exact⟨h2,a,b⟩
theorem nK{xs:Array Nat}(r:wF xs)(j:Nat):Cut xs j (SetTable.below xs j) :=
 BU r j xs.size 0 xs.size (abi _) (aaw _) (by omega) (λi _ h=>by omega) (λi h hl=>by omega)
theorem BV{xs:Array Nat}(r:wF xs):SetTable.below xs 0=0:=(nK r 0).one ⟨abi _,λi _ h=>by omega,λi _ _=>abi _⟩
theorem BW{xs:Array Nat}(r:wF xs){i:Nat}(hi:i<xs.size):SetTable.below xs (xs[i]+1)=i+1:=by
 refine(nK r _).one ⟨hi,λk hk h=>?_,λk hk h=>?_⟩
 ·by_cases e:k=i
  ·subst e;omega
  ·have:=r.get hk hi (by omega);omega
 ·have:=r.get hi hk (by omega);omega
theorem EG{xs:Array Nat}(r:wF xs){j:Nat}(h:j∈xs):xs[SetTable.below xs j]?=some j:=by
 obtain⟨k,hk,e⟩:=Array.mem_iff_getElem.mp h;have:SetTable.below xs j=k:=by
  refine(nK r j).one ⟨le_of_lt hk,λi hi h=>?_,λi hi h=>?_⟩
  ·have:=r.get hi hk h;omega
  ·by_cases e':i=k
   ·subst e';omega
   ·have:=r.get hk hi (by omega);omega
 rw[this,abg hk,e]
theorem EH{xs:Array Nat}(r:wF xs){j:Nat}(h:j∉xs):wF (SetTable.insertAt xs (SetTable.below xs j) j):=by
 have c:=nK r j;unfold wF;rw[SetTable.toList_insertAt];have rl:xs.toList.Pairwise (· < ·):=r;have lo:∀a∈xs.toList.take (SetTable.below xs j),a<j:=λa ha=>by
  obtain⟨i,hi,e⟩:=List.mem_iff_getElem.mp ha;rw[abH,aaW]at hi;rw[List.getElem_take]at e;have:=c.lo i (by omega) (by omega);rw[<-e];simpa using this
 have up:∀a∈xs.toList.drop (SetTable.below xs j),j<a:=λa ha=>by
  obtain⟨i,hi,e⟩:=List.mem_iff_getElem.mp ha;rw[length_drop,aaW]at hi;rw[List.getElem_drop]at e;have h1:=c.hi (SetTable.below xs j+i) (by omega) (by omega);have e':xs[SetTable.below xs j+i]'(by omega)=a:=by rw[<-e];simp
  rw[e']at h1;have:a≠j:=λz=>h (by rw[<-z,<-e'];exact Array.getElem_mem _);omega
 rw[List.pairwise_append];refine⟨rl.sublist (List.take_sublist _ _),aa6.mpr ⟨up,rl.sublist (List.drop_sublist _ _)⟩,λa ha b hb=>?_⟩
 rcases aaz.mp hb with e|hb
 ·rw[e];exact lo a ha
 ·exact lt_trans (lo a ha) (up b hb)
theorem pG(n:Nat):wF (Array.range n):=by
 unfold wF;rw[Array.toList_range];exact List.pairwise_lt_range
theorem wG{t:SetTable}(r:wF t.place){j:Nat}(h:t.slot j=.empty\/t.slot j=.dummy):j∉t.place:=λhm=>by
 have e:=EG r hm;unfold SetTable.slot at h;dsimp only at h;rw[e]at h;simp at h
theorem oF{h:Int}:∀(fuel:Nat) (p:SetTable.Probe) (j:Nat) (d:Option Nat),(∀k,p.dummy=some k->t.slot k=.dummy)->SetTable.probe.go t f h fuel p=some (.empty j d)->t.slot j=.empty/\∀k,d=some k->t.slot k=.dummy
 |0,p,j,d,hd,e=>by simp[SetTable.probe.go]at e
 | fuel+1,p,j,d,hd,e=>by
  have ad:∀q:SetTable.Probe,(t.advance q).dummy=q.dummy:=λq=>by unfold SetTable.advance;split<;>rfl
  unfold SetTable.probe.go at e;split at e
  ·rename_i hs;cases e;exact⟨hs,hd⟩
  ·rename_i hs;refine oF fuel _ j d (λk hk=>?_) e;rw[ad]at hk;cases hk;exact hs
  ·split at e
   ·cases e
   ·exact oF fuel _ j d (λk hk=>hd k (by rw[<-ad];exact hk)) e
theorem Hh{t:SetTable}(r:wF t.place){h:Int}{s:Nat}{b:Bool}(e:t.freeSlot h=some (s,b)):s∉t.place:=by
 unfold SetTable.freeSlot at e;split at e
 ·rename_i j d hp
  cases e;obtain⟨h1,h2⟩:=oF _ _ _ _ (λk hk=>by simp[SetTable.probeStart]at hk) hp;cases d with
  |none=>exact wG r (.inl h1)
  |some k=>exact wG r (.inr (h2 k rfl))
 ·cases e
theorem EI(r:wF t.place)(es:Array (Int×Value))(h:Int)(x:Value):wF (layNew t es h x).2.1.place/\(layNew t es h x).2.1.led=t.led:=by
 unfold layNew
 split
 ·rename_i s b e
  have fr:=Hh r e;dsimp only;unfold SetTable.orStandIn
  split
  ·exact⟨EH r fr,rfl⟩
  ·exact⟨pG _,rfl⟩
 ·exact⟨pG _,rfl⟩
theorem Hi(r:wF t.place)(es:Array (Int×Value))(n:Nat):wF (relayAll t es n).2.1.place/\(relayAll t es n).2.1.led=t.led:=by
 unfold relayAll
 split
 ·rename_i t' order e
  dsimp only
  split
  ·unfold SetTable.relaid SetTable.laid at e;obtain⟨ow,e1,e⟩:=aah.mp e;cases e;refine⟨?_,rfl⟩;show List.Pairwise _ (List.map _ _).toArray.toList;rw[List.toList_toArray,abv];refine List.Pairwise.filterMap _ (R:=(· < ·)) (λa a' hl b hb b' hb'=>?_) List.pairwise_lt_range;obtain⟨x,_,rfl⟩:=aaY.mp hb;obtain⟨y,_,rfl⟩:=aaY.mp hb';exact hl
  ·exact⟨pG _,rfl⟩
 ·exact⟨pG _,rfl⟩
end L2
end
section
namespace L2
open PySem PyProof.Rows
def vH(w:World):Bool:=w.params.followText "set-order"
structure OM (w:World) (es:Array (Int×Value)) (t:SetTable):Prop where
 few:es.size<scanBound
 fit:t.fits es.size=true
 rs:wF t.place
 led:t.led = !vH w
structure fS (prog:Program) (w:World) (h:Heap) (a:Addr) (o:Obj) (es:Array (Int×Value)) (ep:Nat) (t:SetTable) (ks:List Int):Prop where
 at_:h.get? a=some o
 ex:o.ExactSet
 dat:o.data=.set es ep t
 el:ElemsOf (intKind prog w) es.toList
 tab:OM w es t
 nod:ks.Nodup
 mem:∀k,k∈ks↔∃e∈es.toList,(intKind prog w).is k e.2=true
 num:es.size=ks.length
def su(prog:Program)(w:World)(h:Heap)(a:Addr)(ks:List Int):Prop:=∃o es ep t,fS prog w h a o es ep t ks
def ic(ks:List Int)(k:Int):List Int:=if k∈ks then ks else ks++[k]
section
variable {prog:Program} {w:World} {A:Around} {E:Value->Shared->Prop} {s:Shared}
theorem Hj{h:Heap}{a:Addr}{o:Obj}{es es':Array (Int×Value)}{ep:Nat}{t t':SetTable}(ho:h.get? a=some o)(hd:o.data=.set es ep t):(h.update a (Obj.putSet es' t')).get? a=some { o with data:=.set es' (ep+1) t' }:=by
 have q:=abk (Obj.putSet es' t') ho (by rw[putSet_of es' t' hd];rfl);rw[putSet_of es' t' hd]at q;exact q
theorem su.frame{ks:List Int}(S:su prog w h a ks)(k:∀o,h.get? a=some o->h'.get? a=some o):su prog w h' a ks:=by
 obtain⟨o,es,ep,t,i⟩:=S;exact⟨o,es,ep,t,{ i with at_:=k o i.at_ }⟩
theorem mem_push{es es1:List (Int×Value)}{ks:List Int}{k:Int}(hx:(intKind prog w).is k x=true)(hm:∀j,j∈ks↔∃e∈es,(intKind prog w).is j e.2=true)(p:es1.Perm (es++[((intKind prog w).hash k,x)]))(j:Int) :
  j∈ks++[k]↔∃e∈es1,(intKind prog w).is j e.2=true:=by
 rw[aaT,aaF,hm];constructor
 ·rintro(⟨e,he,q⟩|rfl)
  ·exact⟨e,p.mem_iff.mpr (aaX _ he),q⟩
  ·exact⟨_,p.mem_iff.mpr (aaP _ aam),hx⟩
 ·rintro⟨e,he,q⟩
  rcases aaT.mp (p.mem_iff.mp he) with z|z
  ·exact .inl ⟨e,z,q⟩
  ·rw[aaF]at z;subst z;exact .inr ((intKind prog w).inj x j k q hx)
theorem zC{g:Bool->Sem Unit}(hg:∀(b:Bool) (s₁:Shared) (Q':Unit->Shared->Prop),Q' () s₁->wpAny (model prog w) A (g b) Q' E s₁)
  {a:Addr} {o:Obj} {es es1:Array (Int×Value)} {ep:Nat} {t t2:SetTable} {ks:List Int} (ho:s.heap.get? a=some o) (hex:o.ExactSet) (hd:o.data=.set es ep t)
  (hel:ElemsOf (intKind prog w) es1.toList) (hm:∀k,k∈ks↔∃e∈es1.toList,(intKind prog w).is k e.2=true) (hnd:ks.Nodup) (hn:es1.size=ks.length) (ht:OM w es1 t2) {b:Bool} {R:Option Bool->Shared->Prop}
  (h:∀h',Heap.SameBut a s.heap h'->su prog w h' a ks->R (some true) { s with heap:=h' }) :
  wpAny (model prog w) A (do
    storeSet a es1 t2
    if (!b&&t2.tooFull)=true then do
      g (relayAll t2 es1 (SetTable.grown es1.size)).2.2
      storeSet a (relayAll t2 es1 (SetTable.grown es1.size)).1 (relayAll t2 es1 (SetTable.grown es1.size)).2.1
      pure (some true)
     else pure (some true)) R E s:=by
 refine aai (wpAny_storeSet_of ho hd ?_ (fits_of_scanBound ht.few));have h1:=Hj (es':=es1) (t':=t2) ho hd;have b1:=abh s.heap a (Obj.putSet es1 t2)
 split
 ·have p:=relayAll_perm t2 es1 (SetTable.grown es1.size)
  have f:=relayAll_fits t2 es1 (SetTable.grown es1.size);have rr:=Hi ht.rs es1 (SetTable.grown es1.size);generalize relayAll t2 es1 (SetTable.grown es1.size)=Rl at p f rr |-;obtain⟨Vr,t3,gv⟩:=Rl;dsimp only at p f rr |-;have z:Vr.size=es1.size:=by rw[<-aaW,p.length_eq,aaW]
  have few:Vr.size<scanBound:=by rw[z];exact ht.few
  refine aai (hg _ _ _ ?_);refine aai (wpAny_storeSet_of h1 rfl ?_ (fits_of_scanBound few));refine aaq (h _ (b1.trans (abh _ a _)) ⟨_,Vr,_,t3,Hj h1 rfl,hex,rfl,hel.perm p,⟨few,f,rr.1,rr.2.trans ht.led⟩,hnd,λk=>(hm k).trans ⟨λ⟨e,he,q⟩=>⟨e,p.mem_iff.mpr he,q⟩,λ⟨e,he,q⟩=>⟨e,p.mem_iff.mp he,q⟩⟩,z.trans hn⟩)
 ·exact aaq (h _ b1 ⟨_,es1,_,t2,h1,hex,rfl,hel,ht,hnd,hm,hn⟩)
theorem add_int{ks:List Int}{k:Int}(S:su prog w s.heap a ks)(room:ks.length+1<scanBound)
  (h:∀h' b,Heap.SameBut a s.heap h'->su prog w h' a (ic ks k)->Q b { s with heap:=h' }) :
  wpAny (model prog w) A (setAddHashed a (.int k tk) ((intKind prog w).hash k)) Q E s:=by
 obtain⟨o,es,ep,t,I⟩:=S;have hx:(intKind prog w).is k (.int k tk)=true:=intKind_is _ _ _ _;have sc:(Value.int k tk).scannable=true:=rfl;unfold setAddHashed setAddHashedIn;refine abt (aai (abC I.at_ I.dat I.tab.fit ?_));dsimp only;rw[byScan_of sc I.tab.few I.el];simp only[↓reduceIte];unfold setAddByScan;refine aai (aai (wpAny_rule (aai (wpAny_setScan_of hx I.at_ I.dat I.tab.fit I.el ?_))));cases hr:List.findIdx? (λe=>(intKind prog w).is k e.2) es.toList with
 |some j=>
  dsimp only;obtain⟨hj,pj,_⟩:=List.findIdx?_eq_some_iff_getElem.mp hr;have hk:k∈ks:=(I.mem k).mpr ⟨es.toList[j],List.getElem_mem hj,pj⟩;refine aaq (aaq ?_);have e:s={ s with heap:=s.heap }:=by cases s;rfl
  rw[e];exact h s.heap _ (Heap.SameBut.refl a s.heap) (by unfold ic;rw[aar hk];exact⟨o,es,ep,t,I⟩)
 |none=>
  dsimp only;have hk:k∉ks:=λz=>by
   obtain⟨e,he,p⟩:=(I.mem k).mp z;have:=List.findIdx?_eq_none_iff.mp hr e he;rw[p]at this;cases this
  have gw:∀(b:Bool) (s₁:Shared) (Q':Unit->Shared->Prop),Q' () s₁->wpAny (model prog w) A (match b with|true=>rule "set.scan.the-table-gave-way" | false=>pure ()) Q' E s₁:=λb s₁ Q' q=>by
   cases b
   ·exact aaq q
   ·exact wpAny_rule q
  have p:=layNew_perm t es ((intKind prog w).hash k) (.int k tk);have f:=layNew_fits t es ((intKind prog w).hash k) (.int k tk);have rr:=EI I.tab.rs es ((intKind prog w).hash k) (.int k tk);generalize layNew t es ((intKind prog w).hash k) (.int k tk)=Ln at p f rr |-;obtain⟨es1,t1,wd,gv⟩:=Ln;dsimp only at p f rr |-;rw[Array.toList_push]at p;have z:es1.size=(ks++[k]).length:=by rw[<-aaW,p.length_eq,aaI,aaI,aaW,I.num];rfl
  have few:es1.size<scanBound:=by rw[z,aaI];simpa using room
  have nd:(ks++[k]).Nodup:=by rw[aa5];exact⟨I.nod,by simp,λx hx' y hy e=>hk (by rw[aaF]at hy;rw[<-hy,<-e];exact hx')⟩
  have el1:ElemsOf (intKind prog w) es1.toList:=(I.el.push hx sc).perm p;have m1:=mem_push hx I.mem p;have fin:∀h',Heap.SameBut a s.heap h'->su prog w h' a (ks++[k])->Q true { s with heap:=h' }:=λh' sb S'=>h h' true sb (by unfold ic;rw[aas hk];exact S');refine aai (gw _ _ _ ?_)
  split
  ·refine aai ?_
   rw[hashByValue_scannable 8 sc];refine aaq ?_;refine zC gw I.at_ I.ex I.dat el1 m1 nd z ⟨few,?_,?_,?_⟩ λh' sb S'=>aaq (fin h' sb S')
   ·split
    ·exact f
    ·exact SetTable.fits_plain_off f
   ·split
    ·exact rr.1
    ·exact rr.1
   ·split
    ·exact rr.2.trans I.tab.led
    ·exact rr.2.trans I.tab.led
  ·refine aai (aaq ?_);simp only[↓reduceIte];exact zC gw I.at_ I.ex I.dat el1 m1 nd z ⟨few,f,rr.1,rr.2.trans I.tab.led⟩ λh' sb S'=>aaq (fin h' sb S')
end
def cH:List Int->List Int->List Int
 |ks,[]=>ks
 |ks,k::r=>cH (ic ks k) r
theorem mD(ks:List Int)(k:Int):(ic ks k).length<=ks.length+1:=by unfold ic;split<;>simp
section
variable {prog:Program} {w:World} {A:Around} {E:Value->Shared->Prop} {s:Shared}
theorem Hl{R:Result->Shared->Prop}{I:Addr}{fp wr:List Addr}{G:Array GenState->Array GenState->Prop}{n:Nat}{P:Nat->Value->Prop}{St:Nat->Shared->Prop}(W:WalksS prog w A.in1 I fp wr G n P St)(S:Addr)(hSf:S∉fp)(val:Nat->Int)(hval:∀i v,P i v->∃t,v=.int (val i) t) :
  ∀(k i:Nat) (s:Shared) (ks:List Int),n-i=k->i<=n->ks.length+k+1<scanBound->St i s->su prog w s.heap S ks ->
   (∀s',Moved (S::wr) G s s'->su prog w s'.heap S (cH ks ((range' i k).map val))->R (.ok (.ret .none)) s') ->
   codeAny (model prog w) A (.builtin "set.update.loop" ⟨[.ref S,.ref I],[]⟩) R s:=by
 have hSw:S∉wr:=λh=>hSf (W.sub _ h);have sub:∀b∈wr,b∈S::wr:=λb hb=>aal _ hb;intro k
 induction k with
 |zero=>
  intro i s ks hk hi _ hst hS hR;have:i=n:=by omega
  subst this;refine codeAny_builtin PyProof.Rows.F.entry_set_update_loop ?_;rw[Around.under_plainId PyProof.Rows.F.plain_set_update_loop _];show wpAny _ A.in1 (pyNext (.ref I) >>= _) _ _ s;refine aai (W.done s _ _ hst λs' hm=>?_);show wpAny _ A.in1 (ret Value.none) _ _ s';exact aaq (hR s' (hm.mono sub) (hS.frame λo e=>hm.heap S _ hSw e))
 |succ k ih=>
  intro i s ks hk hi hl hst hS hR;have hlt:i<n:=by omega
  refine codeAny_builtin PyProof.Rows.F.entry_set_update_loop ?_;rw[Around.under_plainId PyProof.Rows.F.plain_set_update_loop _];show wpAny _ A.in1 (pyNext (.ref I) >>= _) _ _ s;refine aai (W.item i s _ _ hlt hst λv s' hP Zj hm=>?_);obtain⟨t,rfl⟩:=hval i v hP;have hS':=hS.frame (h':=s'.heap) λo e=>hm.heap S _ hSw e;show wpAny _ A.in1 (holding [Value.int (val i) t] (setAdd S (.int (val i) t)) >>= _) _ _ s';refine aai (abt ?_);unfold setAdd;refine abt (aai ((intKind prog w).pyHash (k:=val i) (intKind_is _ _ _ _) ?_));refine add_int (s:={ s' with toks:=s'.toks+1 }) hS' (by omega) λh' b sb S2=>?_;have hl2:=mD ks (val i);refine aaq ⟨plainId_quiet PyProof.Rows.F.plain_set_update_loop _,ih (i+1) _ (ic ks (val i)) (by omega) hlt (by omega) (W.frame _ s' _ _ Zj (abz _) λb hb o e=>?_) S2 λs'' Qt S3=>?_⟩
  ·rw[sb.2 b λz=>hSf (by rw[<-z];exact hb)];exact e
  ·refine hR s'' (Moved.trans W.gtrans ((hm.mono sub).then_heap (abz _) λb o hb e=>?_) Qt) ?_
   ·rw[sb.2 b λz=>hb (by rw[z];exact aam)];exact e
   ·rw[List.range'_succ,aau,cH];exact S3
abbrev ua(w:World):Obj:={ cls:=.type "set",dict:=none,data:=.set #[] 0 (.fresh 0 0 (!vH w)) }
theorem Mv(e:h.get? a=some (ua w)):su prog w h a [] :=
 ⟨_,#[],0,_,e,⟨rfl,rfl,rfl⟩,rfl,λx hx=>by simp at hx,⟨by show 0<4096;decide,rfl,List.Pairwise.nil,rfl⟩,abm,λk=>by simp,rfl⟩
theorem Ho(a:Value)(h:Q₁ (.ref s.heap.objs.size) { s with heap:=s.heap.push (ua w) }) :
  codeAny (model prog w) A (.call (.builtin "set.__new__") ⟨[.type "set",a],[]⟩) (wants Q₁ E) s:=by
 refine codeAny_of_tree ?_;show wpAny _ A.in1 (do checkBuiltinCall "set.__new__" ⟨[.type "set",a],[]⟩;again (.builtin "set.__new__" ⟨[.type "set",a],[]⟩)) _ _ s;refine aai (wpAny_of_eq (PySem.F.newCall_set_1 a) (aaq ⟨plainId_quiet PySem.F.plain_set_new _,codeAny_builtin PySem.F.entry_set_new ?_⟩));rw[Around.under_plainId PySem.F.plain_set_new _];unfold Builtin.«set.__new__» Builtin.Frozenset.newClass;have hsub:=sub_set_self;obtain⟨hp,g,d,tk,os⟩:=s;dsimp only
 wp_walk
 refine wpAny_askSetting (aaq ?_);dsimp only;simp only[newObj];refine aai (wpAny_alloc (aaq ?_));exact aaq h
end
section
variable {prog:Program} {w:World} {A:Around} {E:Value->Shared->Prop} {s:Shared}
theorem BX{ns:List Int}(hi:IntsAre vs ns):(range' 0 vs.length).map (λi=>ns.getD i 0)=ns:=by
 have hl:=IntsAre.length hi;apply ext_getElem
 ·rw[aak,List.length_range',hl]
 ·intro i h1 h2;simp[List.getD,h2]
theorem rO{ns:List Int}(hh:A.handled=none)(hl:s.heap.IsList l items)(hi:IntsAre items.toList ns)(hb:items.size+1<scanBound)
  (h:∀(h':Heap) (tk:Nat),su prog w h' s.heap.objs.size (cH [] ns)->(∀b o,b<s.heap.objs.size->s.heap.get? b=some o->h'.get? b=some o)->Q (.ref s.heap.objs.size) { s with heap:=h',toks:=tk }) :
  wpAny (model prog w) A (call (.type "set") [.ref l]) Q E s:=by
 obtain⟨c,tl,mro⟩:=PySem.F.called_set.mro;have made:=PySem.F.called_set.made;have sub:=PySem.F.called_set.sub;refine wpAny_call (codeAny_of_tree ?_);show wpAny _ _ (callAny (.type "set") _) _ _ _;refine aaq ⟨Code.quiet_builtin _ (by decide +kernel),codeAny_builtin PySem.F.entry_type_call ?_⟩;rw[Around.under_plain (weight_type_call_type "set" [.ref l] []) rfl];have n1:=PySem.F.called_set.notType;have n2:=PySem.F.called_set.canCreate;have n3:=PySem.F.typeCall_set_1 (.ref l)
 repeat (any_goals (first|assumption|wp_step))
 refine codeAny_mono (Ho (.ref l) (E:=E) (Q₁:=λobj s₁=>obj=.ref s.heap.objs.size/\s₁={ s with heap:=s.heap.push (ua w) }) ⟨rfl,rfl⟩) λr s₁ hr=>?_;cases r with
 |error e=>exact hr
 |ok fl=>
  cases fl with
  |ret obj=>
   obtain⟨rfl,rfl⟩:=hr;have at0:(s.heap.push (ua w)).get? s.heap.objs.size=some (ua w):=aaB _ rfl;have hT:Shared.TypeIs { s with heap:=s.heap.push (ua w) } (.ref s.heap.objs.size) "set":=⟨_,at0,rfl⟩;have look:=PySem.F.called_set.init.lookup;have bind:=PySem.F.called_set.init.bind (.ref s.heap.objs.size)
   repeat (any_goals (first|assumption|wp_step))
   refine codeAny_mono (codeAny_call_builtin (R:=wants (λr s₂=>r=.none/\∃h' tk,s₂={ s with heap:=h',toks:=tk }/\su prog w h' s.heap.objs.size (cH [] ns) /\
     (∀b o,b<s.heap.objs.size->s.heap.get? b=some o->h'.get? b=some o)) E) PySem.F.called_set.init.plain PySem.F.entry_set_init (check_set_init_1 hT ?_)) λr₂ s₂ Zk=>?_
   ·obtain⟨ol,hol,cl,nl,dl⟩:=hl
    obtain⟨oc,od,oda,os⟩:=ol;simp only at cl dl;subst cl;subst dl;have Zl:(s.heap.push (ua w)).get? l=some { cls:=.type "list",dict:=od,data:=.seq items nl,slots:=os }:=aap _ hol;have q1:=PySem.F.sub_list_set;have q2:=PySem.F.sub_list_frozenset;have q3:(Value.type "list" == Value.type "dict")=false:=by decide
    have hl1:(s.heap.push (ua w)).IsList l items:=⟨_,Zl,rfl,nl,rfl⟩;unfold Builtin.«set.__init__» noKeywords Builtin.Frozenset.updateFrom;generalize hPI:pyIter=PI
    wp_walk
    subst hPI;refine wpAny_pyIter_list hl1 (aai (wpAny_runValue ?_));have lS:l<s.heap.objs.size:=aav hol;have h3:A.in1.in1.in1.handled=none:=by simp[hh]
    have neI:l≠(s.heap.push (ua w)).objs.size:=by rw[abu];exact aaG (abB lS)
    have sF:s.heap.objs.size∉[(s.heap.push (ua w)).objs.size,l]:=by rw[abu];simp only[mem_cons,not_mem_nil,or_false,not_or];exact⟨aaG (aa8 _),ne_of_gt lS⟩
    have val:∀(i:Nat) (v:Value),items[i]?=some v->∃t,v=.int ((λi=>ns.getD i 0) i) t:=λi v hv=>IntsAre.int_at hi i v (by rw[Array.getElem?_toList];exact hv);refine Hl ((Walks.list h3 _ l neI items).toS) s.heap.objs.size sF (λi=>ns.getD i 0) val (items.size-0) 0 _ [] (by omega) (abi _) (by simpa using hb) ⟨⟨_,aaB _ rfl,rfl,rfl⟩,hl1.push _⟩ ?s0 ?sR
    case s0=>exact Mv (aap _ at0)
    case sR=>
     intro s' hm S';obtain⟨h',g',d',tk',os'⟩:=s';have eg:g'=s.gens:=hm.gens;have ed:d'=s.drawn:=hm.drawn;have eo:os'=s.os:=hm.os;subst eg;subst ed;subst eo;refine aaq ?_;show wpAny _ _ (ret Value.none) _ _ _;have e0:(range' 0 (items.size-0)).map (λi=>ns.getD i 0)=ns:=by have:=BX hi;rw[aaW]at this;exact this
     rw[e0] at S';refine aaq ⟨rfl,h',tk',rfl,S',λb o hb e=>?_⟩;have b1:b≠s.heap.objs.size:=aaG hb;have b2:b≠(s.heap.push (ua w)).objs.size:=by rw[abu];exact aaG (abB hb)
     exact hm.heap b o (by simp only[mem_cons,not_mem_nil,or_false,not_or];exact⟨b1,b2⟩) (aap _ (aap _ e))
   ·cases r₂ with
    |error e=>exact Zk
    |ok fl₂=>
     cases fl₂ with
     |ret r=>
      obtain⟨rfl,h',tk,rfl,S',hk⟩:=Zk
      repeat (any_goals (first|assumption|wp_step))
      exact h _ _ S' hk
     |_=>exact Zk.elim
  |_=>exact hr.elim
end
namespace SI
theorem BY:entryFor table "set.__iter__" = some Builtin.«frozenset.__iter__» :=
 entryFor_alias (id':="frozenset.__iter__") (by kernel_rfl) rfl (by decide +kernel) (by kernel_rfl)
theorem owner:Manifest.owners.lookup (String.ofList ['r','o','t','a','r','e','t','i','_','t','e','s'].reverse)=some Manifest.sig_set_iterator:=by kernel_rfl
theorem slot_next:Slot "set_iterator" "__next__" "set_iterator.__next__" :=
 .of (owner:="set_iterator") (n:="__next__") (by rw[typeLookup_type,builtinLookup_eq_fast];kernel_rfl) (by decide +kernel) (by decide +kernel) (by decide +kernel) (by first|exact .inl (by decide +kernel)|exact .inr (by decide +kernel)) (by rw[isSubtype_type];kernel_rfl)
theorem entry_next:entryFor table "set_iterator.__next__" = some Builtin.«set_iterator.__next__»:=entryFor_of_tree (by kernel_rfl)
theorem args_next(a:Value):argsOk "set_iterator.__next__" ⟨[a],[]⟩:=by
 unfold argsOk;rw[signature?_of (id:="set_iterator.__next__") (n:=['_','_','t','x','e','n','_','_']) (o:=['r','o','t','a','r','e','t','i','_','t','e','s']) (by kernel_rfl) owner];kernel_rfl
theorem wH:Slot "set_iterator" "__iter__" "set_iterator.__iter__" :=
 .of (owner:="set_iterator") (n:="__iter__") (by rw[typeLookup_type,builtinLookup_eq_fast];kernel_rfl) (by decide +kernel) (by decide +kernel) (by decide +kernel) (by first|exact .inl (by decide +kernel)|exact .inr (by decide +kernel)) (by rw[isSubtype_type];kernel_rfl)
theorem entry_self:entryFor table "set_iterator.__iter__" = some Builtin.«dict_keyiterator.__iter__» :=
 entryFor_alias (id':="dict_keyiterator.__iter__") (by kernel_rfl) rfl (by decide +kernel) (by kernel_rfl)
theorem EJ(a:Value):argsOk "set_iterator.__iter__" ⟨[a],[]⟩:=by
 unfold argsOk;rw[signature?_of (id:="set_iterator.__iter__") (n:=['_','_','r','e','t','i','_','_']) (o:=['r','o','t','a','r','e','t','i','_','t','e','s']) (by kernel_rfl) owner];kernel_rfl
end SI
section
variable {prog:Program} {w:World} {A:Around} {E:Value->Shared->Prop} {s:Shared}
def gx(h:Heap)(it:Addr)(f:Value)(i:Nat)(a:Addr)(n ep:Nat):Prop:=∃o,h.get? it=some o/\o.cls=.type "set_iterator" /\ o.data=.fields [f,.int i 0,.ref a,.int n 0,.int ep 0].toArray
theorem gx.typeIs{i:Nat}{n ep:Nat}(x:gx s.heap it f i a n ep):s.TypeIs (.ref it) "set_iterator":=let ⟨o,ho,hc,_⟩:=x;⟨o,ho,hc⟩
theorem qD{i:Nat}{n ep:Nat}(x:gx s.heap it f i a n ep)(h:Q (.ref it) s):wpAny (model prog w) A (pyIter (.ref it)) Q E s:=by
 refine wpAny_pyIter_slot x.typeIs SI.wH (wpAny_call_entry SI.wH x.typeIs SI.entry_self ?_ (SI.EJ _));exact aaq ⟨_,rfl,"set_iterator",_,x.typeIs,SI.slot_next.lookup,h⟩
end
section
variable {prog:Program} {w:World} {A:Around} {E:Value->Shared->Prop} {s:Shared}
theorem jX{ep:Nat}(ho:s.heap.get? a=some o)(hd:o.data=.set es ep t)(hf:t.fits es.size=true)(h:Q es s):wpAny (model prog w) A (setEntries a) Q E s:=by
 unfold setEntries;exact aai (abC ho hd hf (aaq h))
theorem nL(h:Q (vH w) s):wpAny (model prog w) A setsByText Q E s:=by
 unfold setsByText;exact aai (wpAny_askSetting (aaq h))
theorem wI{ep sl g:Nat}{ks:List Int}(S:fS prog w s.heap a o es ep t ks)(hb:vH w=false)(hp:(!t.plain&&decide (es.size>1))=false)
  (hQ:Q (match es[SetTable.below t.place sl]?,t.place[SetTable.below t.place sl]? with|some (_,x),some j=>some (x,j+1)|_,_=>none) s):wpAny (model prog w) A (setNext a sl g ep) Q E s:=by
 have led:t.led=true:=by rw[S.tab.led,hb];rfl
 unfold setNext;refine aai (abC S.at_ S.dat S.tab.fit ?_);dsimp only;refine aai (nL ?_);rw[hb];simp only[false_eq_true,↓reduceIte];rw[aas (λz=>by
  have z':(!t.plain&&decide (es.size>1))=true:=z;rw[hp]at z';cases z')]
 refine aai ?_;show wpAny _ _ (if (!t.led && !es.isEmpty)=true then Sem.unsupported "set:maker-not-led" else pure ()) _ _ _;rw[aas (by rw[led];simp)];exact aaq (aaq hQ)
theorem wJ{ep sl g:Nat}{ks:List Int}(S:fS prog w s.heap a o es ep t ks)(hb:vH w=true)
  (hQ:Q (((pickOrder (w.params.setOrder a ep) es)[g]?).map λe=>(e.2,sl)) s):wpAny (model prog w) A (setNext a sl g ep) Q E s:=by
 unfold setNext;refine aai (abC S.at_ S.dat S.tab.fit ?_);dsimp only;refine aai (nL ?_);rw[hb];simp only[bne_self_eq_false,false_eq_true,↓reduceIte];unfold setWalk;refine aai (aai (abC S.at_ S.dat S.tab.fit ?_));dsimp only;refine aai (nL ?_);rw[hb];simp only[↓reduceIte];exact aai (wpAny_askSetting (aaq (aaq hQ)))
theorem pH{ep:Nat}{ks:List Int}{i sl:Nat}(hh:A.handled=none)(x:gx s.heap it (.int sl 0) i a es.size ep)(S:fS prog w s.heap a o es ep t ks)
  (hn:∀(A:Around) (E:Value->Shared->Prop) (Q:Option (Value×Nat)->Shared->Prop),Q r s->wpAny (model prog w) A (setNext a sl i ep) Q E s)
  (hQ:∀v nx,r=some (v,nx)->∀h',gx h' it (.int (nx:Nat) 0) (i+1) a es.size ep->Heap.SameBut it s.heap h'->Q (some v) { s with heap:=h' })
  (hE:r=none->∀h',Heap.ExtBut it s.heap h'->Q none { s with heap:=h' }):wpAny (model prog w) A (pyNext (.ref it)) Q E s:=by
 obtain⟨oi,LI,Zm,hdi⟩:=id x;unfold pyNext;refine aai (wpAny_attempt (wpAny_callSpecial?_slot (name:=Str.ofString "__next__") x.typeIs SI.slot_next (wpAny_call_entry SI.slot_next x.typeIs SI.entry_next ?_ (SI.args_next _))));unfold Builtin.«set_iterator.__next__»;refine aai (aaq ?_);refine aai (wpAny_fieldsOf LI hdi ?_);dsimp only;refine aai (jX S.at_ S.dat S.tab.fit ?_);rw[aas (by simp)];refine aai (hn _ _ _ ?_);cases r with
 |some p=>
  obtain⟨v,nx⟩:=p;dsimp only;refine aai (wpAny_setField LI hdi (by simp) ?_);have h1:=abk (Obj.mapFields (·.setIfInBounds 0 (rawInt nx))) LI (Obj.isFreed_of_fields (abp hdi _));have d1:=abp hdi (·.setIfInBounds 0 (rawInt nx));refine aai (wpAny_setField h1 d1 (by simp) ?_);have h2:=abk (Obj.mapFields (·.setIfInBounds 1 (rawInt ((i:Int)+1)))) h1 (Obj.isFreed_of_fields (abp d1 _));refine aaq ⟨_,rfl,aaq (hQ v nx rfl _ ⟨_,h2,?_,?_⟩ ((abh ..).trans (abh ..)))⟩
  ·rw[Obj.cls_mapFields,Obj.cls_mapFields];exact Zm
  ·rw[abp d1];simp[rawInt]
 |none=>dsimp only;refine aai (wpAny_setField LI hdi (by simp) ?_);refine aai ?_;simp only[newExc,newTuple];refine aai (aaZ ?_ (by size_fits));refine aai (m:=firstArgMember _ _) (wpAny_of_eq (a:=Value.none) (by first|rfl|(simp only[firstArgMember];rfl)) ?_);refine aaZ ?_ (by size_fits);simp only[raiseNew];refine aai (wpAny_handled ?_);rw[show A.in1.handled=none from hh];refine aai (aaq (wpAny_throw ?_));refine aai (wpAny_isInstance (T:="StopIteration") (b:=true) ⟨_,aaB _ rfl,rfl⟩ isSubtype_stop ?_);exact aaq (hE rfl _ (((abh ..).extBut.push _).push _))
end
theorem oG{α:Type}:∀(l:List α) (i:Nat) (h:i<l.length),(l[i]::l.eraseIdx i).Perm l
 |x::l,0,_=>List.Perm.refl _
 | x::l,i+1,h=>by
  simp only[List.getElem_cons_succ,List.eraseIdx_cons_succ];exact(List.Perm.swap _ _ _).trans (List.Perm.cons x (oG l i (by simpa using h)))
section
variable {prog:Program} {w:World} {A:Around} {E:Value->Shared->Prop} {s:Shared}
theorem EK{n:Nat}(hn:n≠0)(h:∀i d,i<n->Q i { s with drawn:=d }):wpAny (model prog w) A (choose src n) Q E s:=fun Γ p hΓ=>by
 show Sem.wp _ _ (Sem.choose src n Sem.pure) _ _ _ _;rw[Sem.wp];exact⟨hn,h _ _ (mod_lt _ (Nat.pos_of_ne_zero hn))⟩
theorem CN{α:Type}:∀(n:Nat) (xs:List α) (s:Shared) (Q:List α -> Shared->Prop),xs.length=n->(∀ys d,ys.Perm xs->Q ys { s with drawn:=d })->wpAny (model prog w) A (drawOrder n xs) Q E s
 | 0,xs,s,Q,hl,h=>by
  have:xs=[]:=List.eq_nil_of_length_eq_zero hl;subst this;unfold drawOrder;exact aaq (h [] s.drawn (List.Perm.refl _))
 |n+1,[],s,Q,hl,h=>by simp at hl
 | n+1,x::xs,s,Q,hl,h=>by
  unfold drawOrder;refine aai (EK (by simp) λi d hi=>?_);have hx:(x::xs)[i]?=some ((x::xs)[i]):=aaR hi;rw[hx];dsimp only;refine aai (CN n ((x::xs).eraseIdx i) _ _ (by rw[List.length_eraseIdx,aar hi];simp at hl |-;omega) λys d' p=>aaq ?_);exact h _ d' (((List.Perm.cons _ p).trans (oG _ i hi)))
theorem ud{ep c:Nat}{ks:List Int}{i:Nat}{ps:List Nat}(hh:A.handled=none)(x:gx s.heap it (.ref td) i a es.size ep)(S:fS prog w s.heap a o es ep t ks)
  (hT:s.heap.get? td=some oT) (Yg:oT.data=.seq (ps.map λ(j:Nat)=>rawInt j).toArray c) (hlt:∀j∈ps,j<es.size)
  (hQ:∀j e,ps[i]?=some j->es[j]?=some e->∀h',gx h' it (.ref td) (i+1) a es.size ep->Heap.SameBut it s.heap h'->Q (some e.2) { s with heap:=h' })
  (hE:ps[i]?=none->∀h',Heap.ExtBut it s.heap h'->Q none { s with heap:=h' }):wpAny (model prog w) A (pyNext (.ref it)) Q E s:=by
 obtain⟨oi,LI,Zm,hdi⟩:=id x;unfold pyNext;refine aai (wpAny_attempt (wpAny_callSpecial?_slot (name:=Str.ofString "__next__") x.typeIs SI.slot_next (wpAny_call_entry SI.slot_next x.typeIs SI.entry_next ?_ (SI.args_next _))));unfold Builtin.«set_iterator.__next__»;refine aai (aaq ?_);refine aai (wpAny_fieldsOf LI hdi ?_);dsimp only;refine aai (jX S.at_ S.dat S.tab.fit ?_);rw[aas (by simp)];refine aai (wpAny_seqItems hT Yg ?_);dsimp only;have hg:((ps.map λ(j:Nat)=>rawInt j).toArray)[((i:Nat):Int).toNat]?=(ps[i]?).map λ(j:Nat)=>rawInt j:=by simp
 rw[hg];cases hp:ps[i]? with
 |some j=>
  have hj:j<es.size:=hlt j (aaM hp);simp only[map_some,rawInt];refine aai ?_;unfold setNextDrawn;refine aai (abC S.at_ S.dat S.tab.fit ?_);dsimp only;rw[aas (by simp)];have hej:es[((j:Nat):Int).toNat]?=some es[j]:=by simp[hj]
  rw[hej];refine aaq ?_;refine aai (wpAny_setField LI hdi (by simp) ?_);have h2:=abk (Obj.mapFields (·.setIfInBounds 1 (.int ((i:Int)+1) 0))) LI (Obj.isFreed_of_fields (abp hdi _));refine aaq ⟨_,rfl,aaq (hQ j _ hp (abg hj) _ ⟨_,h2,?_,?_⟩ (abh ..))⟩
  ·rw[Obj.cls_mapFields];exact Zm
  ·rw[abp hdi];simp
 |none=>simp only[Option.map_none];refine aai (wpAny_setField LI hdi (by simp) ?_);have h1:=abk (Obj.mapFields (·.setIfInBounds 0 (rawInt 0))) LI (Obj.isFreed_of_fields (abp hdi _));have d1:=abp hdi (·.setIfInBounds 0 (rawInt 0));refine aai (wpAny_setField h1 d1 (by simp) ?_);refine aai ?_;simp only[newExc,newTuple];refine aai (aaZ ?_ (by size_fits));refine aai (m:=firstArgMember _ _) (wpAny_of_eq (a:=Value.none) (by first|rfl|(simp only[firstArgMember];rfl)) ?_);refine aaZ ?_ (by size_fits);simp only[raiseNew];refine aai (wpAny_handled ?_);rw[show A.in1.handled=none from hh];refine aai (aaq (wpAny_throw ?_));refine aai (wpAny_isInstance (T:="StopIteration") (b:=true) ⟨_,aaB _ rfl,rfl⟩ isSubtype_stop ?_);exact aaq (hE hp _ ((((abh ..).trans (abh ..)).extBut.push _).push _))
end
theorem wK{α:Type}(f:Nat->Nat):∀(n k:Nat) (l:List α) (out:Array α),l.length=n->(pickOrder.go f n k l out).toList.Perm (out.toList++l)
 | 0,k,l,out,h=>by
  have:l=[]:=List.eq_nil_of_length_eq_zero h;subst this;unfold pickOrder.go;simp
 | n+1,k,l,out,h=>by
  unfold pickOrder.go;have hl:0<l.length:=by omega
  have hi:f k%l.length<l.length:=mod_lt _ hl;rw[aaR hi];dsimp only;refine(wK f n (k+1) _ _ (by rw[List.length_eraseIdx,aar hi];omega)).trans ?_;rw[Array.toList_push,abw];exact List.Perm.append_left _ (oG l _ hi)
theorem wL{t:SetTable}{n:Nat}(h:t.fits n=true):t.place.size=n:=by
 simp only[SetTable.fits,and_eq_true,beq_iff_eq]at h;exact h.1
def Mw(t:SetTable):Nat->Nat
 |0=>0
 |i+1=>t.place.getD i 0+1
theorem wM(r:wF t.place):∀i,i<=t.place.size->SetTable.below t.place (Mw t i)=i
 |0,_=>BV r
 | i+1,h=>by
  have hi:i<t.place.size:=h;have e:Mw t (i+1)=t.place[i]+1:=by simp[Mw,Array.getD,hi]
  rw[e];exact BW r hi
section
variable {prog:Program} {w:World} {A:Around} {E:Value->Shared->Prop} {s:Shared}
theorem fS.keep{ep:Nat}{ks:List Int}(S:fS prog w h a o es ep t ks)(k:∀o,h.get? a=some o->h'.get? a=some o):fS prog w h' a o es ep t ks:={ S with at_:=k o S.at_ }
theorem gx.keep{i:Nat}{n ep:Nat}(x:gx h it f i a n ep)(k:∀o,h.get? it=some o->h'.get? it=some o):gx h' it f i a n ep:=by
 obtain⟨o,ho,r⟩:=x;exact⟨o,k o ho,r⟩
def PL(L:List (Int×Value))(i:Nat)(v:Value):Prop:=∃e,L[i]?=some e/\v=e.2
theorem EL(hh:A.handled=none){ep:Nat}{ks:List Int}(hne:a≠I)(hb:vH w=false)(hp:(!t.plain&&decide (es.size>1))=false) :
  Walks prog w A I [I,a] [I] es.toList.length (PL es.toList) (λi h=>fS prog w h a o es ep t ks/\gx h I (.int (Mw t i) 0) i a es.size ep) where
 sub:=λb hb=>by simp at hb;simp[hb]
 frame:=λ_ _ _ st hk=>⟨st.1.keep λo e=>hk a (by simp) o e,st.2.keep λo e=>hk I (by simp) o e⟩
 item:=λi s Q E hi st hQ=>by
  have hi:i<es.size:=by simpa using hi
  have hz:=wL st.1.tab.fit;have hb':=wM st.1.tab.rs i (by rw[hz];exact le_of_lt hi);refine pH (r:=some (es[i].2,t.place.getD i 0+1)) hh st.2 st.1 (λA E Q q=>wI st.1 hb hp ?_) (λv nx e h' x' sb=>?_) (λe=>nomatch e)
  ·rw[hb',abg hi,abg (by rw[hz];exact hi)]
   have e1:t.place[i]'(by rw[hz];exact hi)=t.place.getD i 0:=by simp[Array.getD,hz,hi]
   dsimp only;rw[e1];exact q
  ·cases e;exact hQ _ h' s.toks ⟨es[i],by simp[hi],rfl⟩ ⟨st.1.keep λo e=>sb.extBut a o hne e,x'⟩ λb o hb e=>sb.extBut b o (λz=>hb (by simp[z])) e
 done:=λs Q E st hQ=>by
  have hz:=wL st.1.tab.fit;have hb':=wM st.1.tab.rs es.toList.length (by rw[hz];simp);refine pH (r:=none) hh st.2 st.1 (λA E Q q=>wI st.1 hb hp ?_) (λv nx e=>nomatch e) (λ_ h' sb=>hQ h' s.toks λb o hb e=>sb b o (λz=>hb (by simp[z])) e);rw[hb',Array.getElem?_eq_none (by simp)];exact q
 self:=λ_ _ _ _ st hQ=>qD st.2 hQ
theorem EM(hh:A.handled=none){ep:Nat}{ks:List Int}(hne:a≠I)(hb:vH w=true) :
  Walks prog w A I [I,a] [I] (pickOrder (w.params.setOrder a ep) es).toList.length (PL (pickOrder (w.params.setOrder a ep) es).toList) (λi h=>fS prog w h a o es ep t ks/\gx h I (.int (0:Nat) 0) i a es.size ep) where
 sub:=λb hb=>by simp at hb;simp[hb]
 frame:=λ_ _ _ st hk=>⟨st.1.keep λo e=>hk a (by simp) o e,st.2.keep λo e=>hk I (by simp) o e⟩
 item:=λi s Q E hi st hQ=>by
  have hi:i<(pickOrder (w.params.setOrder a ep) es).size:=by simpa using hi
  refine pH (r:=some ((pickOrder (w.params.setOrder a ep) es)[i].2,0)) hh st.2 st.1 (λA E Q q=>wJ st.1 hb ?_) (λv nx e h' x' sb=>?_) (λe=>nomatch e)
  ·rw[abg hi];exact q
  ·cases e;exact hQ _ h' s.toks ⟨(pickOrder (w.params.setOrder a ep) es)[i],by simp[hi],rfl⟩ ⟨st.1.keep λo e=>sb.extBut a o hne e,x'⟩ λb o hb e=>sb.extBut b o (λz=>hb (by simp[z])) e
 done:=λs Q E st hQ=>by
  refine pH (r:=none) hh st.2 st.1 (λA E Q q=>wJ st.1 hb ?_) (λv nx e=>nomatch e) (λ_ h' sb=>hQ h' s.toks λb o hb e=>sb b o (λz=>hb (by simp[z])) e);rw[Array.getElem?_eq_none (by simp)];exact q
 self:=λ_ _ _ _ st hQ=>qD st.2 hQ
theorem BZ(hh:A.handled=none){ep c:Nat}{ks:List Int}{ps:List Nat}(hne:a≠I)(hnt:td≠I)(hlt:∀j∈ps,j<es.size)(Yg:oT.data=.seq (ps.map λ(j:Nat)=>rawInt j).toArray c) :
  Walks prog w A I [I,a,td] [I] ps.length (PL (ps.map λj=>es.getD j (0,.none))) (λi h=>fS prog w h a o es ep t ks/\gx h I (.ref td) i a es.size ep/\h.get? td=some oT) where
 sub:=λb hb=>by simp at hb;simp[hb]
 frame:=λ_ _ _ st hk=>⟨st.1.keep λo e=>hk a (by simp) o e,st.2.1.keep λo e=>hk I (by simp) o e,hk td (by simp) _ st.2.2⟩
 item:=λi s Q E hi st hQ=>by
  refine ud hh st.2.1 st.1 st.2.2 Yg hlt (λj e hj he h' x' sb=>?_) (λhn=>absurd hn (by rw[aaR hi];simp));refine hQ _ h' s.toks ⟨e,?_,rfl⟩ ⟨st.1.keep λo e=>sb.extBut a o hne e,x',sb.extBut td _ hnt st.2.2⟩ λb o hb e=>sb.extBut b o (λz=>hb (by simp[z])) e;rw[aaJ,hj];have hjl:j<es.size:=(Array.getElem?_eq_some_iff.mp he).1;have:=(Array.getElem?_eq_some_iff.mp he).2;simp[Array.getD,hjl,this]
 done:=λs Q E st hQ=>ud hh st.2.1 st.1 st.2.2 Yg hlt (λj e hj=>absurd hj (by simp)) (λ_ h' sb=>hQ h' s.toks λb o hb e=>sb b o (λz=>hb (by simp[z])) e)
 self:=λ_ _ _ _ st hQ=>qD st.2.1 hQ
end
section
variable {prog:Program} {w:World} {A:Around} {E:Value->Shared->Prop} {s:Shared}
theorem Hq{ep:Nat}{ks:List Int}(S:fS prog w s.heap a o es ep t ks)(h:Q (!vH w&&(!t.plain&&decide (es.size>1))) s):wpAny (model prog w) A (setDrawn a) Q E s:=by
 unfold setDrawn;refine aai (abC S.at_ S.dat S.tab.fit ?_);dsimp only;exact aai (nL (aaq h))
theorem zE{ep:Nat}{ks:List Int}(S:fS prog w s.heap a o es ep t ks)(h:Q ep s):wpAny (model prog w) A (setEpoch a) Q E s:=wpAny_setEpoch_of S.at_ S.dat S.tab.fit h
theorem Hr(hh:A.handled=none){ep:Nat}{ks:List Int}(S:fS prog w s.heap a o es ep t ks)
  (hQ:∀(h':Heap) d (I:Addr) (fp:List Addr) (L:List (Int×Value)) (St:Nat->Heap->Prop),L.Perm es.toList->Walks prog w A I fp [I] L.length (PL L) St->St 0 h'->s.heap.objs.size<=I->I<h'.objs.size->(∀b∈fp,b=a\/s.heap.objs.size<=b)->(∀b o,s.heap.get? b=some o->h'.get? b=some o)->Q (.ref I) { s with heap:=h',drawn:=d }) :
  wpAny (model prog w) A (pyIter (.ref a)) Q E s:=by
 have hT:s.TypeIs (.ref a) "set":=⟨o,S.at_,S.ex.1⟩;have hlt:a<s.heap.objs.size:=aav S.at_;refine wpAny_pyIter_slot hT PySem.F.slot_set_iter (wpAny_call_entry PySem.F.slot_set_iter hT SI.BY ?_ (PySem.F.args_set_iter_1 _));unfold Builtin.«frozenset.__iter__» Builtin.Frozenset.slot0 Builtin.Frozenset.sizeOf;refine aai (aai (aaq (aaq ?_)));refine aai (aai (jX S.at_ S.dat S.tab.fit (aaq ?_)));refine aai (Hq S ?_);cases hd:(!vH w&&(!t.plain&&decide (es.size>1))) with
 |false=>
  simp only[false_eq_true,↓reduceIte];refine aai (aaq ?_);refine aai (zE S ?_);refine aai (aaZ (aaq ⟨_,rfl,"set_iterator",_,⟨_,aaB _ rfl,rfl⟩,SI.slot_next.lookup,?_⟩));have e:s={ s with drawn:=s.drawn }:=by cases s;rfl
  have fpk:∀b∈[s.heap.objs.size,a],b=a\/s.heap.objs.size<=b:=λb hb=>by
   simp only[mem_cons,not_mem_nil,or_false]at hb
   rcases hb with rfl|rfl
   ·exact .inr (aaw _)
   ·exact .inl rfl
  have sz:s.heap.objs.size<(s.heap.push { cls:=.type "set_iterator",data:=.fields ([rawInt 0,rawInt 0,.ref a,rawInt es.size,rawInt ep]:List Value).toArray }).objs.size:=by rw[abu];exact aa8 _
  cases hb:vH w with
  |true=>exact hQ _ s.drawn _ _ _ _ (wK _ _ 0 es.toList #[] (by simp)) (EM hh (aaG hlt) hb) ⟨S.keep λo e=>aap _ e,⟨_,aaB _ rfl,rfl,rfl⟩⟩ (aaw _) sz fpk λb o e=>aap _ e
  |false=>rw[hb]at hd;exact hQ _ s.drawn _ _ _ _ (List.Perm.refl _) (EL hh (aaG hlt) hb (by simpa using hd)) ⟨S.keep λo e=>aap _ e,⟨_,aaB _ rfl,rfl,rfl⟩⟩ (aaw _) sz fpk λb o e=>aap _ e
 |true=>
  simp only[↓reduceIte];refine aai (CN es.size (List.range es.size) s _ (by simp) λps d pp=>?_);refine aai ?_;simp only[newTuple];refine aaZ ?_ (by show (toArray _).size<=sizeLine;rw[aaE,aak,pp.length_eq,abj];exact fits_of_scanBound S.tab.few);have S1:fS prog w (s.heap.push { cls:=.type "tuple",data:=.seq (ps.map λ(i:Nat)=>rawInt i).toArray }) a o es ep t ks:=S.keep λo e=>aap _ e;refine aai (zE S1 ?_);refine aai (aaZ (aaq ⟨_,rfl,"set_iterator",_,⟨_,aaB _ rfl,rfl⟩,SI.slot_next.lookup,?_⟩));have hpl:∀j∈ps,j<es.size:=λj hj=>by simpa using pp.mem_iff.mp hj
  have perm:(ps.map λj=>es.getD j (0,Value.none)).Perm es.toList:=by
   have e2:(List.range es.size).map (λj=>es.getD j (0,Value.none))=es.toList:=by
    apply ext_getElem
    ·simp
    ·intro i h1 h2
     have hi:i<es.size:=by simpa using h2
     simp[Array.getD,hi]
   rw[<-e2];exact pp.map _
  have z1:(s.heap.push { cls:=.type "tuple",data:=.seq (ps.map λ(i:Nat)=>rawInt i).toArray }).objs.size=s.heap.objs.size+1:=abu _ _;have W:=BZ (prog:=prog) (w:=w) (A:=A) (o:=o) (ep:=ep) (t:=t) (ks:=ks) hh (I:=s.heap.objs.size+1) (a:=a) (td:=s.heap.objs.size) (oT:={ cls:=.type "tuple",data:=.seq (ps.map λ(i:Nat)=>rawInt i).toArray }) (es:=es) (c:=0) (ps:=ps) (aaG (abB hlt)) (aaG (aa8 _)) hpl rfl;rw[show ps.length=(ps.map λj=>es.getD j (0,Value.none)).length by simp] at W;rw[z1];refine hQ _ d _ _ _ _ perm W ⟨S1.keep λo e=>aap _ e,⟨{ cls:=.type "set_iterator",data:=.fields ([.ref s.heap.objs.size,rawInt 0,.ref a,rawInt es.size,rawInt ep]:List Value).toArray },?_,rfl,rfl⟩,aap _ (aaB _ rfl)⟩ (abz _) ?_ ?_ λb o e=>aap _ (aap _ e)
  ·rw[<-z1];exact aaB _ rfl
  ·rw[abu,z1];exact aa8 _
  ·intro b hb
   simp only[mem_cons,not_mem_nil,or_false]at hb
   rcases hb with rfl|rfl|rfl
   ·exact .inr (abz _)
   ·exact .inl rfl
   ·exact .inr (aaw _)
end
section
variable {prog:Program} {w:World} {A:Around} {E:Value->Shared->Prop} {s:Shared}
theorem Ht(hT:s.TypeIs (.ref r) "set")(h:Q false s):wpAny (model prog w) A (Builtin.List.listLengthHint (.ref r)) Q E s:=by
 unfold Builtin.List.listLengthHint;refine aai (wpAny_specialOf hT PySem.F.slot_set_len.lookup ?_);generalize hid:("set.__len__":String)=id0
 wp_delta
 rw[show splitId id0=some ("set","__len__") from by subst hid;decide +kernel];subst hid;refine aai (wpAny_isInstance (T:="set") (b:=true) hT sub_set_self ?_);refine wpAny_ite_split (λz=>absurd z (by decide)) (λ_=>?_);refine wpAny_ite_split (λ_=>?_) (λz=>absurd (by decide +kernel) z);exact aai (wpAny_typeOf hT (aaq h))
theorem zG(hh:A.handled=none){ep:Nat}{ks:List Int}(S:fS prog w s.heap a o es ep t ks)
  (h:∀(h':Heap) (tk:Nat) d (L:List (Int×Value)),(∀b o,s.heap.get? b=some o->h'.get? b=some o)->s.heap.objs.size<h'.objs.size->L.Perm es.toList->R (L.map (·.2)) { s with heap:=h',toks:=tk,drawn:=d }) :
  wpAny (model prog w) A (collect (.ref a)) R E s:=by
 have hlt:a<s.heap.objs.size:=aav S.at_;unfold collect;refine aai (wpAny_runValue (codeAny_builtin entry_proto_collect' ?_));rw[Around.under_plainId PySem.F.plain_proto_collect _];show wpAny _ A.in1 (newList [] >>= λl=>again (.builtin "list.__iadd__" ⟨[l,.ref a],[]⟩)) _ _ s;refine aai (aaZ ?_);refine aaq ⟨plainId_quiet PySem.F.plain_list_iadd _,codeAny_builtin entry_list_iadd' ?_⟩;rw[Around.under_plainId PySem.F.plain_list_iadd _]
 let s1:Shared:={ s with heap:=s.heap.push { cls:=.type "list",data:=.seq ([]:List Value).toArray } }
 have l1:s1.heap.get? s.heap.objs.size=some { cls:=.type "list",data:=.seq #[] }:=aaB _ rfl;have S1:fS prog w s1.heap a o es ep t ks:=S.keep λo e=>aap _ e;have z1:s1.heap.objs.size=s.heap.objs.size+1:=abu _ _;have hT:s1.TypeIs (.ref a) "set":=⟨o,S1.at_,S1.ex.1⟩;show wpAny _ A.in1 (Builtin.List.listExtendWith (.ref s.heap.objs.size) (.ref a) (.ref s.heap.objs.size)) _ _ s1;unfold Builtin.List.listExtendWith;refine aai (wpAny_typeOf hT ?_);have n1:Builtin.List.listSameRef (.ref s.heap.objs.size) (.ref a)=false:=by simp[Builtin.List.listSameRef,ne_of_gt hlt]
 simp only[n1,show (Value.type "set" == Value.type "list")=false by decide,show (Value.type "set" == Value.type "tuple")=false by decide,Bool.or_false,false_eq_true,if_false];refine aai (Hr (A:=A.in1) (by simp[hh]) S1 λh2 d I fp L St perm W st zI zI2 hfp k2=>?_);have l2:h2.get? s.heap.objs.size=some { cls:=.type "list",data:=.seq #[] }:=k2 _ _ l1;have nfp:s.heap.objs.size∉fp:=λz=>by
  rcases hfp _ z with e|e
  ·exact absurd e (ne_of_gt hlt)
  ·rw[z1]at e;exact absurd e (Nat.not_succ_le_self _)
 have hl:L.length<=sizeLine:=by rw[perm.length_eq,aaW];exact fits_of_scanBound S.tab.few
 have key:∀(hp:Heap) (c₁:Nat) (Rr:Result->Shared->Prop),St 0 hp->(∀b o,b≠s.heap.objs.size->h2.get? b=some o->hp.get? b=some o)->hp.get? s.heap.objs.size=some { cls:=.type "list",data:=.seq #[] c₁ } ->
   (∀(s':Shared) (acc:Array Value) (c:Nat),s'.heap.get? s.heap.objs.size=some { cls:=.type "list",dict:=none,data:=.seq acc c,slots:=#[] }->R acc.toList s'->Rr (.ok (.ret (.ref s.heap.objs.size))) s') ->
   codeAny (model prog w) A (.builtin "list.extend.loop" ⟨[.ref s.heap.objs.size,.ref I,.ref s.heap.objs.size],[]⟩) Rr { s1 with heap:=hp,drawn:=d }:=by
  intro hp c₁ Rr hst hk hS hR;refine codeAny_extend_loopS W.toS hl s.heap.objs.size nfp (.ref s.heap.objs.size) L.length 0 _ #[] c₁ rfl (abi _) hst hS (ItemsOf.nil _) λs' acc c hm hS' hacc=>?_;refine hR s' acc c hS' ?_;have ea:acc.toList=L.map (·.2):=by
   apply ext_getElem
   ·rw[aaW,hacc.1,aak]
   ·intro j h1 h2
    have hj:j<acc.size:=by simpa using h1
    obtain⟨e,he,hv⟩:=hacc.2 j acc[j] (abg hj);rw[Array.getElem_toList,hv,getElem_map];obtain⟨hj2,e2⟩:=aao.mp he;rw[e2]
  rw[ea,Moved.eq_with hm];refine h s'.heap s'.toks d L (λb o e=>?_) (aav hS') perm;have hb:b<s.heap.objs.size:=aav e;refine hm.heap b o (λz=>?_) (hk b o (aaG hb) (k2 b o (aap _ e)))
  rcases aaz.mp z with z|z
  ·exact absurd z (aaG hb)
  ·rw[aaF]at z;rw[z]at hb;rw[z1]at zI;exact absurd (aay hb (Nat.le_of_succ_le zI)) (abr _)
 have fin:∀(s':Shared) (acc:Array Value) (c:Nat),s'.heap.get? s.heap.objs.size=some { cls:=.type "list",dict:=none,data:=.seq acc c,slots:=#[] }->R acc.toList s'->wpAny (model prog w) A (load s.heap.objs.size >>= λob=>(match ob.data with|.seq xs _=>pure xs.toList|_=>unsupported "internal:collect")) R E s':=λs' acc c e q=>aai (wpAny_load e (aaq q));refine aai (abt (Ht ⟨o,k2 _ _ S1.at_,S1.ex.1⟩ ?_));refine wpAny_ite_split (λ_=>?_) (λ_=>aaq ⟨plainId_quiet PySem.F.plain_extend_loop _,key _ 0 _ st (λb o _ e=>e) l2 fin⟩);refine aai (wpAny_rule ?_);refine aai ?_;show wpAny _ _ (updateSeq s.heap.objs.size (·.push .none) >>= λ_=>updateSeq s.heap.objs.size (·.pop)) _ _ _;refine aai (wpAny_updateSeq l2 rfl ?_);have l3:=abk (Obj.mapSeq (·.push Value.none)) l2 rfl;refine wpAny_updateSeq (hz:=by seq_fits) l3 rfl ?_;have l4:=abk (Obj.mapSeq (·.pop)) l3 rfl;have oth:∀b o,b≠s.heap.objs.size->h2.get? b=some o->((h2.update s.heap.objs.size (Obj.mapSeq (·.push Value.none))).update s.heap.objs.size (Obj.mapSeq (·.pop))).get? b=some o:=λb o hb e=>(Heap.get?_update_other _ _ (Ne.symm hb)).trans ((Heap.get?_update_other _ _ (Ne.symm hb)).trans e);exact aaq ⟨plainId_quiet PySem.F.plain_extend_loop _,key _ _ _ (W.frame 0 _ _ st λb hb o e=>oth b o (λz=>nfp (z▸hb)) e) oth l4 fin⟩
end
theorem zH:∀(ks ns:List Int),ks.Nodup->(∀k∈ks,k∈ns)->ks.length=ns.length->ks.Perm ns
 | [],ns,_,_,h=>by
  have:ns=[]:=List.eq_nil_of_length_eq_zero h.symm;subst this;exact List.Perm.refl _
 | k::ks,ns,nd,hs,hl=>by
  have hk:=hs k aam;have nd':=aaS.mp nd;have p:=List.perm_cons_erase hk;refine(List.Perm.cons k (zH ks (ns.erase k) nd'.2 (λx hx=>?_) ?_)).trans p.symm
  ·exact(List.mem_erase_of_ne λz=>nd'.1 (by rw[<-z];exact hx)).mpr (hs x (aal _ hx))
  ·rw[List.length_erase_of_mem hk];simp only[length_cons]at hl;omega
def zJ:Value->Int
 |.int i _=>i
 |_=>0
section
variable {prog:Program} {w:World} {A:Around} {E:Value->Shared->Prop} {s:Shared}
theorem ue:∀{L:List (Int×Value)},ElemsOf (intKind prog w) L->IntsAre (L.map (·.2)) (L.map λe=>zJ e.2)
 |[],_=>.nil
 | (h,v)::L,el=>by
  obtain⟨⟨k,hk,_⟩,_⟩:=el _ aam;obtain⟨t,e⟩:=Value.isInt_shape (k:=k) (v:=v) hk;subst e;exact .cons k t (ue λx hx=>el x (aal _ hx))
theorem Hu{h:Heap}{a:Addr}{o:Obj}{es:Array (Int×Value)}{ep:Nat}{t:SetTable}{ks:List Int}(S:fS prog w h a o es ep t ks){L:List (Int×Value)}(p:L.Perm es.toList):(L.map λe=>zJ e.2).Perm ks:=by
 refine(zH ks _ S.nod (λk hk=>?_) ?_).symm
 ·obtain⟨e,he,q⟩:=(S.mem k).mp hk;obtain⟨t',ev⟩:=Value.isInt_shape (k:=k) (v:=e.2) q;exact aaA.mpr ⟨e,p.mem_iff.mpr he,by rw[ev];rfl⟩
 ·have:=S.num;rw[aak,p.length_eq,aaW];exact this.symm
theorem B0(hh:A.handled=none){ep:Nat}{ks:List Int}(S:fS prog w s.heap a o es ep t ks)(h64:ks.length<64)
  (hQ:∀(h':Heap) (tk:Nat) d (D:Addr) (out:List Value) (e:Nat),(∀b o,s.heap.get? b=some o->h'.get? b=some o)->s.heap.objs.size<=D->h'.get? D=some (seqObj "list" out.toArray e)->IntsAre out (sortI ks)->Q (.ref D) { s with heap:=h',toks:=tk,drawn:=d }) :
  wpAny (model prog w) A (call (.builtin "sorted") [.ref a]) Q E s:=by
 refine vD.mz (O:=vD.BP) (zG (A:=A.in1) (by simp[hh]) S λh' tk d L hk hz perm=>?_);have el:ElemsOf (intKind prog w) L:=S.el.perm perm;have hI:=ue el;have pk:=Hu S perm;have hl:(L.map (·.2)).length<64:=by rw[aak];have:=pk.length_eq;rw[aak]at this;omega
 refine⟨hl,λi=>(L.map λe=>zJ e.2).getD i 0,λh2 h6 _=>vD.BQ hI h2,λp h'' outs k2 he=>?_⟩;obtain⟨e,he⟩:=he;have lv:(L.map (·.2)).length=(L.map λe=>zJ e.2).length:=by rw[aak,aak]
 have mem:∀i∈p,i<L.length:=λi hi=>by have:=outs.perm.mem_iff.mp hi;simpa using this
 have pn:(p.map λi=>(L.map λe=>zJ e.2).getD i 0).Perm ks:=by have:=outs.perm.map λi=>(L.map λe=>zJ e.2).getD i 0;rw[lv,vD.dD]at this;exact this.trans pk
 have up:(p.map λi=>(L.map λe=>zJ e.2).getD i 0).Pairwise (· <= ·):=by refine List.Pairwise.imp (R:=vD.BP.kle) (λ{x y:Int} hxy=>?_) outs.up;have hxy:(decide (y<x):Bool)=false:=hxy;exact Int.not_lt.mp (of_decide_eq_false hxy)
 have es:=eq_sortI pn up;refine hQ h'' tk d h'.objs.size _ e (λb o z=>k2 b o (hk b o z)) (le_of_lt hz) he ?_;rw[<-es];clear he es up pn outs
 induction p with
 |nil=>exact .nil
 |cons i r ih=>
  have hi:=mem i aam;have hi2:i<(L.map (·.2)).length:=by simpa using hi
  obtain⟨t',ev⟩:=IntsAre.int_at hI i _ (aaR hi2);rw[aau,aau];have e1:(L.map (·.2)).getD i Value.none=.int ((L.map λe=>zJ e.2).getD i 0) t':=by rw[<-ev];simp[List.getD,List.getElem?_eq_getElem hi]
  rw[e1];exact .cons _ t' (ih λj hj=>mem j (aal _ hj))
end
end L2
end
section
namespace L2
open PySem PySem.Spec PyProof.Rows
section
variable {X:Cx}
theorem Inv.draws(I:Inv X pins σ H s)(d:Drawn):Inv X pins σ H { s with drawn:=d }:=⟨I.ok,I.os,I.bare,I.base,I.loc,I.cell,I.free,I.jH,I.pin,I.hok,I.len⟩
def tSS(K:Frag)(te:TE):TE:=λσ H Q=>te σ H λx H1=>∃p ns,x=.ref p/\iD K H1 p (ns.map V.int)/\ns.length<64/\∀l,H1 l=none->Q (.ref l) (upd H1 l (.lst ((sortI (cH [] ns)).map V.int)))
theorem uf:∀(ns ks:List Int),(cH ks ns).length<=ks.length+ns.length
 |[],ks=>by simp[cH]
 | n::ns,ks=>by
  rw[cH,aaH];have:=uf ns (ic ks n);have:=mD ks n;omega
theorem Mx{p1 p2 pos1 pos2:Pos}(hh:X.A.handled=none)(hg:Gl X "sorted")(hm:X.mg "sorted" = none)(Zn:Gl X "set")(hm2:X.mg "set" = none)(hv:bootBuiltins "sorted" = some (.builtin "sorted"))(hv2:bootBuiltins "set" = some (.type "set"))(he:PE X e te)
  (hs:starEach [e] X.env=[(false,eval e X.env)]):PE X (.Call (.Name "sorted" p1) [.Call (.Name "set" p2) [e] [] pos2] [] pos1) (tSS X.K te):=by
 intro pins s σ H Q I h;refine aa3 (iW I hg hm hv ?_ (by decide) (by decide));refine PyProof.Rows.callWith_builtin1 ?_ rfl rfl;show wpAny _ _ (spliced [(false,eval (.Call (.Name "set" p2) [e] [] pos2) X.env)]) _ _ s;refine abn ?_;refine aa3 (iW I Zn hm2 hv2 ?_ (by decide) (by decide));refine aa4 ?_ hs rfl;show wpAny _ _ (spliced (backTo pos2 (starEach [e] X.env))) _ _ s;rw[hs];show wpAny _ _ (spliced [(false,eval e X.env)]) _ _ s;refine abn (cO (he pins s σ H _ I h) λu s1 ⟨x,H1,I1,r1,p,ns,ex,hq,h64,q⟩=>abA ?_);subst ex;cases r1;obtain⟨its,rv,pl,hz⟩:=I1.list hq;have hi:=intsAre_of rv;have hl:=hi.length;refine rO hh pl.isList (by simpa using hi) (by show its.toArray.size+1<4096;rw[aaE,hl];omega) λh2 tk S k2=>?_;obtain⟨o,es,ep,t,S⟩:=S;refine abA ?_;have hk:=uf ns [];have Vs:(cH [] ns).length<64:=by simp at hk;omega
 refine B0 (s:={ s1 with heap:=h2,toks:=tk }) hh S Vs λh3 tk3 d D out e k3 zD eD hout=>?_;have hD:s1.heap.objs.size<=D:=aaN (le_of_lt (aav S.at_)) zD;have hn:H1 D=none:=I1.hok.fresh hD;refine⟨.ref D,_,(I1.draws d).laid (t':=tk3) (λb o z=>k3 b o (k2 b o (aav z) z)) hD (show cj X.prog X.w _ _ _ (.lst ((sortI (cH [] ns)).map V.int)) from⟨?_,out,e,nJ hout,eD⟩),rfl,q _ hn⟩;rw[aak,(abo _).length_eq,abq];omega
end
end L2
end
section
namespace L2
open PySem PySem.Spec PyProof.Rows PySem.W
section
variable {X:Cx}
def tLK(to:TE):TE:=λσ H Q=>to σ H λx H1=>∃a kvs,x=.ref a/\H1 a=some (.dK kvs)/\∀l,H1 l=none->Q (.ref l) (upd H1 l (.lst (kvs.map λkv=>kV kv.1)))
theorem Hw(e:(bh P w).is k u=true):RelV (kV k) u:=by
 rw[Bs]at e
 rcases bU e with ⟨i,t,rfl,rfl⟩|⟨x,t,rfl,rfl⟩
 ·exact⟨t,rfl⟩
 ·exact⟨t,rfl⟩
theorem wN:∀{kvs:List (Key×V)} {vs:List (Key×Value)} {out:List Value},KV kvs vs->out.length=vs.length->(∀(j:Nat) (v:Value),out[j]?=some v->∃(k:Key) (x:Value),vs[j]?=some (k,x)/\(bh P w).is k v=true)->Vals (kvs.map λkv=>kV kv.1) out
 | [],vs,out,r,hl,h=>by
  cases r;cases out with
  |nil=>exact .nil
  |cons _ _=>simp at hl
 | p::kvs,vs,out,r,hl,h=>by
  cases r with
  |@cons _ q _ qs hq t=>
   cases out with
   |nil=>simp at hl
   |cons v out=>
    obtain⟨k,x,e1,e2⟩:=h 0 v rfl;simp at e1;refine .cons ?_ (wN t (by simpa using hl) λj u hu=>h (j+1) u hu);have:p.1=k:=by rw[hq.1,e1]
    show RelV (kV p.1) v;rw[this];exact Hw e2
end
end L2
end
section
namespace L2
open PySem PySem.Spec PyProof.Rows
end L2
end
section
namespace L2
open PySem PySem.Spec PyProof.Rows PySem.W
end L2
end
section
namespace L2
open PySem PySem.Spec PyProof.Rows
def Zo(K:Frag)(a b:Addr):It :=
 ⟨λi H=>∃xs ys x y,iD K H a xs/\iD K H b ys/\xs[i]?=some x/\ys[i]?=some y,
   λi H x H'=>∃p u v,H p=none/\x=.ref p/\H'=upd H p (.tup [u,v])/\∀xs ys,iD K H a xs->iD K H b ys->xs[i]?=some u/\ys[i]?=some v,
   λi H=>∃xs ys,iD K H a xs/\iD K H b ys/\(xs.length<=i\/ys.length<=i)⟩
theorem Hx{P:Program}{w:World}{K:Frag}{es:List Expr}{k:Nat}{pos:Pos}(a b z TI TO i1 i2:Addr)(D:ZipApart z TI TO i1 i2 a b) :
  Turn P w K (.Tuple es k pos) (Zo K a b) [z,TI,TO,i1,i2] z (λi h=>IsZip h z TI TO .none/\IsPair h TI (.ref i1) (.ref i2)/\(∃u v,IsPair h TO u v)/\h.IsListIter i1 a i/\h.IsListIter i2 b i) where
 mem:=by simp
 obj:=λi h st c hc=>by
  obtain⟨hz,hTI,⟨u,v,hTO⟩,⟨o1,e1,c1,d1⟩,⟨o2,e2,c2,d2⟩⟩:=st;simp only[mem_cons,not_mem_nil,or_false]at hc
  rcases hc with q|q|q|q|q
  ·subst q;exact⟨_,hz,λv z=>nomatch z⟩
  ·subst q;exact⟨_,hTI,λv z=>nomatch z⟩
  ·subst q;exact⟨_,hTO,λv z=>nomatch z⟩
  ·subst q;exact⟨o1,e1,λv z=>by rw[d1]at z;cases z⟩
  ·subst q;exact⟨o2,e2,λv z=>by rw[d2]at z;cases z⟩
 keep:=λi h h' st k=>by
  obtain⟨hz,hTI,⟨u,v,hTO⟩,h1,h2⟩:=st;exact⟨k z (by simp) _ hz,k TI (by simp) _ hTI,⟨u,v,k TO (by simp) _ hTO⟩,h1.at λo e=>k i1 (by simp) o e,h2.at λo e=>k i2 (by simp) o e⟩
 item:=by
  intro X hP hw hK hc i pins s σ H E I hf st hg;subst hP hw hK;obtain⟨xs,ys,x,y,hq,hq',hx,hy⟩:=hg;obtain⟨its,rv,p,_⟩:=I.list hq;obtain⟨its',Yh,p',_⟩:=I.list hq';obtain⟨u,hu,ru⟩:=rv.get hx;obtain⟨v,hv,rw'⟩:=Yh.get hy;obtain⟨hz,hTI,⟨c1,c2,hTO⟩,h1,h2⟩:=st;have lz:z<s.heap.objs.size:=aav hz;have lTI:TI<s.heap.objs.size:=aav hTI;have lTO:TO<s.heap.objs.size:=aav hTO;have l1:i1<s.heap.objs.size:=by obtain⟨_,q,_⟩:=h1;exact aav q
  have l2:i2<s.heap.objs.size:=by obtain⟨_,q,_⟩:=h2;exact aav q
  refine wpAny_pyNext_zip_item D hz hTI hTO h1 h2 p.isList p'.isList (x:=u) (y:=v) (by simpa using hu) (by simpa using hv) λh' a1 a2 a3 a4 a5 a6 hk=>?_;refine⟨_,rfl,?_⟩;refine wpAny_letOwnedTupleGo_zip a1 λh2' hz2 hs2=>?_;have hT2:h2'.get? s.heap.objs.size=some { cls:=.type "tuple",data:=.seq [u,v].toArray }:=hs2.extBut _ _ (ne_of_gt lz) a5;have I1:Inv X pins σ H { s with heap:=h2' }:=I.CK (t':=s.toks) (ch:=[z,TI,TO,i1,i2]) hf λc o hc q=>by
   have e1:c≠z:=λz=>hc (by simp[z]);have e2:c≠TO:=λz=>hc (by simp[z]);have e3:c≠i1:=λz=>hc (by simp[z]);have e4:c≠i2:=λz=>hc (by simp[z]);exact hs2.extBut c o e1 (hk c o e1 e2 e3 e4 q)
  have hn:H s.heap.objs.size=none:=I.hok.fresh (aaw _);have I2:Inv X pins σ (upd H s.heap.objs.size (.tup [x,y])) { s with heap:=h2' }:=by
   refine⟨I1.ok,I1.os,I1.bare,?_,I1.loc,I1.cell,?_,λy c q=>?_,λp hp=>?_,λb o q=>?_,I1.len⟩
   ·refine⟨I1.base.keep,I1.base.slot,λb o q n hx=>?_,I1.base.there,λb ys q=>?_,λb o ys q=>?_,λb ps q=>?_⟩
    ·have hlt:b<s.heap.objs.size:=aay (aav q) I.sz;rw[aA (aaG hlt)];exact I1.base.free b o q n hx
    ·rw[aA (bf (I1.base.tups b ys q) hn)];exact I1.base.tups b ys q
    ·rw[aA (bf (I1.base.frzs b o ys q) hn)];exact I1.base.frzs b o ys q
    ·obtain⟨more,z⟩:=I1.base.vt b ps q;exact⟨more,by rw[aA (bf z hn)];exact z⟩
   ·rw[aA (aaG I.lt)];exact I1.free
   ·obtain⟨v,z⟩:=I.cell y c q;rw[aA (aaG z.lt)];exact I1.jH y c q
   ·obtain⟨q1,q2,q3⟩:=I1.pin p hp;refine⟨q1,?_,q3⟩;rw[aA (aaG (aav (I.pin p hp).1))];exact q2
   ·by_cases hb:b=s.heap.objs.size
    ·subst hb;rw[aW]at q;cases q;exact⟨by show 2<=sizeLine;decide,[u,v],.cons ru #[rw'],_,hT2,rfl,_,rfl⟩
    ·rw[aA hb]at q;exact(I1.hok b o q).stay (λc v _ z=>z) (λc z=>by rw[aA (bf z hn)];exact z) λc ys z=>by rw[aA (bf z hn)];exact z
  refine⟨.ref s.heap.objs.size,_,I2,rfl,⟨s.heap.objs.size,x,y,hn,rfl,rfl,λxs' ys' hy1 hy2=>⟨by rw[I.tG hy1 hq];exact hx,by rw[I.tG hy2 hq'];exact hy⟩⟩,⟨hz2,?_,⟨u,v,?_⟩,?_,?_⟩,λc hc=>?_⟩
  ·exact hs2.extBut _ _ D.TIz (hk _ _ D.TIz D.TITO D.TIi1 D.TIi2 hTI)
  ·exact hs2.extBut _ _ D.TOz a2
  ·exact a3.extBut hs2.extBut D.i1z
  ·exact a4.extBut hs2.extBut D.i2z
  ·have hlt:c<s.heap.objs.size:=by
    have hc':=hc;simp only[mem_cons,not_mem_nil,or_false]at hc'
    rcases hc' with q|q|q|q|q<;>(rw[q];assumption)
   rw[aA (aaG hlt)];exact(hf c hc).1
 done:=by
  intro X hP hw hK hc i pins s σ H E I hf st hg;subst hP hw hK;obtain⟨xs,ys,hq,hq',hx⟩:=hg;obtain⟨its,rv,p,_⟩:=I.list hq;obtain⟨its',Yh,p',_⟩:=I.list hq';obtain⟨hz,hTI,⟨c1,c2,hTO⟩,h1,h2⟩:=st;have hl:=rv.length;have hl':=Yh.length;refine wpAny_pyNext_zip_end (I.ok.hd hc) D hz hTI hTO h1 h2 p.isList p'.isList ?_ λh' eb=>⟨rfl,I.CK (t':=s.toks) (ch:=[z,TI,TO,i1,i2]) hf λc o hc q=>eb c o (λz=>hc (by simp[z])) (λz=>hc (by simp[z])) (λz=>hc (by simp[z])) (λz=>hc (by simp[z])) q⟩
  rcases hx with hx|hx
  ·exact .inl (by simp;omega)
  ·exact .inr (by simp;omega)
 self:=λ_ _ _ _ _ st h=>wpAny_pyIter_zip st.1 h
theorem Hy(n l m:Nat)(h1:l<n)(h2:m<n):ZipApart (n+4) (n+2) (n+3) n (n+1) l m:=by
 constructor<;>(show (_:Nat)≠_;omega)
def Zp(K:Frag)(ta:TA):TI:=λσ H R=>ta σ H λvs H1=>∃a b,vs=[.ref a,.ref b]/\(∃xs,iD K H1 a xs)/\(∃ys,iD K H1 b ys)/\R (Zo K a b) H1
theorem Qy{k:Nat}(hg:Gl X "zip")(hm:X.mg "zip" = none)(ha:PA X [a,b] ta)(hs:starEach [a,b] X.env=[(false,eval a X.env),(false,eval b X.env)])(hs2:starEach [b] X.env=[(false,eval b X.env)]) :
  PI X (.Tuple es k tpos) (.Call (.Name "zip" p) [a,b] [] pos) (Zp X.K ta):=by
 intro pins s σ H R I h;refine Call_ (iW I hg hm boot_zip (aa4 (cO (ha pos pins s σ H _ I h) λus s1 ⟨vs,H1,I1,r1,q1⟩=>?_) (by rw[hs,hs2]) (by rw[hs2];rfl)));obtain⟨l,m,e,⟨xs,hq⟩,⟨ys,hq'⟩,q⟩:=q1;subst e;cases r1 with
 |cons r rr=>
  cases rr with
  |cons r' rr=>
   cases rr;cases r;cases r';obtain⟨its,rv,pl,_⟩:=I1.list hq;obtain⟨its',Yh,pl',_⟩:=I1.list hq';have ll:l<s1.heap.objs.size:=by obtain⟨_,q,_⟩:=pl.isList;exact aav q
   have lm:m<s1.heap.objs.size:=by obtain⟨_,q,_⟩:=pl'.isList;exact aav q
   refine call_zip_2 pl.isList pl'.isList λh' hz hTI hTO h1 h2 hsz hk=>?_;have I2:Inv X pins σ H1 { s1 with heap:=h' }:=I1.kept (t':=s1.toks) hk;refine wpAny_pyIter_zip (s:={ s1 with heap:=h' }) hz ?_;refine⟨_,[s1.heap.objs.size+4,s1.heap.objs.size+2,s1.heap.objs.size+3,s1.heap.objs.size,s1.heap.objs.size+1],_,_,H1,rfl,I2,Hx l m _ _ _ _ _ ?_,⟨hz,hTI,⟨_,_,hTO⟩,h1,h2⟩,λc hc=>?_,q⟩
   ·exact Hy _ _ _ ll lm
   ·have hb':s1.heap.objs.size<=c:=by
     simp only[mem_cons,not_mem_nil,or_false]at hc
     rcases hc with q|q|q|q|q<;>(rw[q];show (_:Nat)<=_;omega)
    exact I1.Gq hb' (I1.hok.fresh hb')
section
variable {X:Cx}
theorem wO
  (hbase:attributeBase o m env (eval o env)=eval o env)
  (hfew:((backTo cp (starEach args env)).all (λx=>!x.1)&&(backToKw cp (keywordEach [] env)).all (λx=>x.1.isSome)
   && decide (args.length+([]:List Keyword).length+(if ([]:List Keyword).isEmpty then 0 else 1)<30))=true) (hline:(ap.endLine==cp.line)=true)
  (h:wpAny M A (eval o env) (λov s₁=>∀pl,wpAny M A (getMethod ov m pl) (λfx s₂=>wpAny M A (callWith cp fx.1 fx.2 (backTo cp (starEach args env)) (backToKw cp (keywordEach [] env))) Q E s₂) E s₁) E s) :
  wpAny M A (eval (.Call (.Attribute o m ap) args [] cp) env) Q E s:=by
 rw[arm_eval_Call,hbase];refine aai (abb h (λov s₁ h₁=>?_) λ_ _ e=>e);refine aai (wpAny_standAt ?_);have Vt:methodCallForm (args.length+([]:List Keyword).length) (backTo cp (starEach args env)) (backToKw cp (keywordEach [] env))=true:=hfew;have hpos:methodCallPos true o env ap cp=pure cp:=by unfold methodCallPos;simp[hline]
 unfold methodCall;rw[Vt];refine aai (abt (abb (h₁ _) (λfx s₂ h₂=>?_) λ_ _ e=>e));exact aai (wpAny_of_eq hpos h₂)
theorem pe_mthD{k:Nat}(he:PE X o ta)(ha:PA X (l::ls) t)(hbase:attributeBase o m X.env (eval o X.env)=eval o X.env)
  (hfew:((backTo cp (starEach (l::ls) X.env)).all (λx=>!x.1)&&(backToKw cp (keywordEach [] X.env)).all (λx=>x.1.isSome)
   && decide ((l::ls).length+([]:List Keyword).length+(if ([]:List Keyword).isEmpty then 0 else 1)<30))=true) (hline:(ap.endLine==cp.line)=true) (hr:fO k X.A)
  (st:starEach (l::ls) X.env=(false,eval l X.env)::starEach ls X.env) (an:(backTo cp (starEach ls X.env)).any (·.1)=false) :
  PE X (.Call (.Attribute o m ap) (l::ls) [] cp) (λσ H Q=>ta σ H λx H1=>∃a C dx fs f fd ps sp,x=.ref a/\H1 a=some (.ins C dx fs)/\Gd X.K C/\Meth X.K C m f/\fs.lookup m=none/\Binds X.K fd ps [] /\
   gK X.prog X.w X.K X.mg X.base BK k f fd ps sp/\t σ H1 λvs H2=>sp (x::vs) H2 Q E0):=by
 intro pins s σ H Q I h;refine wO hbase hfew hline (cO (he pins s σ H _ I h) λu s1 aS pl=>?_);obtain⟨x,H1,I1,rx,a,C,dx,fs,f,fd,ps,sp,ex,ea,c,hm,ln,hb,F,q⟩:=aS;subst ex;obtain rfl:u=Value.ref a:=rx;refine tM I1 ea c hm ln ?_;refine callWith_K (first:=[.ref a]) (h₀:=X.base) I.ok.mod.Uw hm.kp (cO (ha cp pins s1 σ H1 _ I1 q) λus s2 ⟨vs,H2,I2,r,q2⟩=>⟨I2.sI,?_⟩) st an;exact x6 (us:=.ref a::us) (vs:=.ref a::vs) (vz:=[]) (ds:=[]) F hr hb .nil wo I2 (.cons rfl r) (by rw[aa1];exact q2)
theorem pe_mth0{k:Nat}(he:PE X o ta)(hbase:attributeBase o m X.env (eval o X.env)=eval o X.env)
  (hline:(ap.endLine==cp.line)=true) (hr:fO k X.A) :
  PE X (.Call (.Attribute o m ap) [] [] cp) (λσ H Q=>ta σ H λx H1=>∃a C dx fs f fd ps sp,x=.ref a/\H1 a=some (.ins C dx fs)/\Gd X.K C/\Meth X.K C m f/\fs.lookup m=none/\Binds X.K fd ps [] /\
   gK X.prog X.w X.K X.mg X.base BK k f fd ps sp/\sp [x] H1 Q E0):=by
 intro pins s σ H Q I h;refine wO hbase rfl hline (cO (he pins s σ H _ I h) λu s1 aS pl=>?_);obtain⟨x,H1,I1,rx,a,C,dx,fs,f,fd,ps,sp,ex,ea,c,hm,ln,hb,F,q⟩:=aS;subst ex;obtain rfl:u=Value.ref a:=rx;refine tM I1 ea c hm ln ?_;exact callWith_K0 (first:=[.ref a]) I1.sI hm.kp (x6 (us:=[.ref a]) (vs:=[.ref a]) (vz:=[]) (ds:=[]) F hr hb .nil wo I1 #[rfl] q)
end
end L2
end
section
namespace L2
open PySem PySem.Spec PyProof.Rows PySem.W
section
variable {X:Cx}
theorem EN(hh:X.A.handled=none)(hst:starEach [o] X.env=[(false,eval o X.env)])(hg:Gl X "list")(hm:X.mg "list" = none)(hv:bootBuiltins "list" = some (.type "list"))(ho:PE X o to):PE X (.Call (.Name "list" p) [o] [] pos) (tLK to):=by
 intro pins s σ H Q I h;refine aa3 (iW I hg hm hv ?_ (by decide) (by decide));refine aa4 ?_ hst rfl;rw[hst];show wpAny _ _ (spliced [(false,eval o X.env)]) _ _ s;refine abn ?_;refine cO (ho pins s σ H _ I h) λu s1 aS=>?_;obtain⟨x,H1,I1,r1,a,kvs,ex,ea,q⟩:=aS;subst ex;cases r1;obtain⟨t1,t2,hd⟩:=GQ I1 (.inl ⟨kvs,.inl ea⟩);obtain⟨hz,_,vs,rel,dd⟩:=CG I1.hok ea;refine abA ?_;obtain⟨ep,da⟩:=dd.dictAt;have hlen:=rel.length;refine kdl_call (kdl_dict (knd:=bh X.prog X.w) (kvs:=vs) (ep:=ep) (d:=a) hd) hh da (by rw[<-hlen];exact hz) λh' tk acc c k2 eD hacc=>?_;have hn:H1 s1.heap.objs.size=none:=I1.hok.fresh (aaw _);refine⟨.ref _,_,I1.laid (t':=tk) (λb o z=>k2 b o z) (aaw _) (show cj X.prog X.w _ _ _ (.lst (kvs.map λkv=>kV kv.1)) from⟨?_,acc.toList,c,?_,?_⟩),rfl,q _ hn⟩
 ·rw[aak];exact hz
 ·exact wN (P:=X.prog) (w:=X.w) rel (by rw[aaW];exact hacc.1) λj v e=>hacc.2 j v (by rw[<-Array.getElem?_toList];exact e)
 ·first|(rw[Array.toArray_toList];exact eD)|simpa using eD
end
section
variable {X:Cx}
theorem Inv.freeze(I:Inv X pins σ H s)(e:H a=some (.dK kvs))(ho:s.heap.get? a=some o):Inv X pins σ (upd H a (.kg o (.dK kvs))) s :=
 I.write (x:=a) (e:=a) (o:=.kg o (.dK kvs)) (h':=s.heap) (t':=s.toks) (by rw[e];trivial) (.inl rfl) (λb u _ q=>q) ⟨o,ho⟩ ⟨ho,I.hok a _ e⟩
theorem Inv.Vu{pins Vv:List (Addr×Obj)}{σ σ0:St}{H H0:Hp}{s s0:Shared}{kvs k0:List (Key×V)}(I0:Inv X Vv σ0 H0 s0)(e0:H0 a=some (.dK k0))(I:Inv X pins σ H s)(e:H a=some (.kg o (.dK kvs))):Inv X pins σ (upd H a (.dK kvs)) s:=by
 have nf:∀b,H b=none->b≠a:=λb z y=>by rw[y,e]at z;cases z
 refine⟨I.ok,I.os,I.bare,⟨I.base.keep,I.base.slot,λb ob q n hx=>?_,I.base.there,λb xs q=>?_,λb ob u q=>?_,λb ps q=>?_⟩,I.loc,I.cell,?_,λx c q=>?_,λp hp=>?_,λb u q=>?_,I.len⟩
 ·have z:=I.base.free b ob q n hx;rw[aA (nf b z)];exact z
 ·have z:=I.base.tups b xs q;rw[aA (λy=>by rw[y,e]at z;cases z)];exact z
 ·have z:=I.base.frzs b ob u q;have z0:=I0.base.frzs b ob u q;rw[aA (λy=>by rw[y,e0]at z0;cases z0)];exact z
 ·obtain⟨more,z⟩:=I.base.vt b ps q;exact⟨more,by rw[aA (λy=>by rw[y,e]at z;cases z)];exact z⟩
 ·rw[aA (nf _ I.free)];exact I.free
 ·rw[aA (nf _ (I.jH x c q))];exact I.jH x c q
 ·obtain⟨q1,q2,q3⟩:=I.pin p hp;exact⟨q1,by rw[aA (nf _ q2)];exact q2,q3⟩
 ·by_cases hb:b=a
  ·subst hb;rw[aW]at q;cases q;obtain⟨_,z⟩:=(show cj X.prog X.w H s.heap b (.kg o (.dK kvs)) from I.hok b _ e);exact z
  ·rw[aA hb]at q;exact(I.hok b u q).stay (λc v _ z=>z) (λc z=>by rw[aA (λy=>by rw[y,e]at z;cases z)];exact z) λc xs z=>by rw[aA (λy=>by rw[y,e]at z;cases z)];exact z
def Hz(t:TE):TE:=λσ H Q=>∃a kvs,H a=some (.dK kvs)/\t σ H λv H'=>∃o,H' a=some (.kg o (.dK kvs))/\Q v (upd H' a (.dK kvs))
theorem My(h:PE X e t):PE X e (Hz t):=by
 intro pins s σ H Q I hh;obtain⟨a,kvs,ea,ht⟩:=hh;exact cO (h pins s σ H _ I ht) λv s1 ⟨x,H1,I1,r1,o,e1,q⟩=>⟨x,_,Inv.Vu I ea I1 e1,r1,q⟩
def Vx(t:TS):TS:=λD σ H=>∃a kvs,H a=some (.dK kvs)/\t { D with nx:=λσ' H'=>∃o,H' a=some (.kg o (.dK kvs))/\D.nx σ' (upd H' a (.dK kvs)) } σ H
theorem Mz{st:Stmt}{t:TS}(h:PS X st t):PS X st (Vx t):=by
 intro pins s σ H D I hh;obtain⟨a,kvs,ea,ht⟩:=hh;refine cO (h pins s σ H _ I ht) λf s1 q=>?_;cases f with
 |next=>obtain⟨σ1,H1,I1,o,e1,q⟩:=q;exact⟨σ1,_,Inv.Vu I ea I1 e1,q⟩
 |brk=>exact q
 |cont=>exact q
 |ret u=>exact q
def Itd(a:Addr)(o:Obj)(kvs:List (Key×V)):It :=
 ⟨λi H=>H a=some (.kg o (.dK kvs))/\i<kvs.length,λi H x H'=>H'=H/\∃kv,kvs[i]?=some kv/\x=kV kv.1,λi H=>H a=some (.kg o (.dK kvs))/\kvs.length<=i⟩
theorem HD:∀{kvs:List (Key×V)} {vs:List (Key×Value)} {i:Nat} {kv:Key×V},KV kvs vs->kvs[i]?=some kv->∃v,vs[i]?=some (kv.1,v)
 |[],_,_,_,_,e=>by simp at e
 | p::kvs,_,0,kv,r,e=>by
  cases r with
  |@cons _ q _ qs hq t=>simp at e;subst e;exact⟨q.2,by rw[hq.1];rfl⟩
 | p::kvs,_,i+1,kv,r,e=>by
  cases r with
  |@cons _ q _ qs hq t=>obtain⟨v,hv⟩:=HD t (by simpa using e);exact⟨v,by simpa using hv⟩
theorem EO{P:Program}{w:World}{K:Frag}{tg:Expr}(a it:Addr){o:Obj}{es:Array DictEntry}{ep:Nat}{kvs:List (Key×V)}{vs:List (Key×Value)}(rel:KV kvs vs)
  (hd:o.ExactDict/\o.data=.dict es ep/\KeysOf (bh P w) es/\Pairs (bh P w) es.toList vs/\(vs.map (·.1)).Nodup) :
  Turn P w K tg (Itd a o kvs) [it] it (λi h=>h.IsKeyIter it a i vs.length ep) where
 mem:=by simp
 obj:=λi h st b hb=>by
  have e:b=it:=by simpa using hb
  subst e;obtain⟨o,e,c,d⟩:=st;exact⟨o,e,λv z=>by rw[d]at z;cases z⟩
 keep:=λi h h' st k=>st.at λo e=>k it (by simp) o e
 item:=by intro X hP hw hK hc i pins s σ H E I hf st hg;subst hP hw hK;obtain⟨ha,hi⟩:=hg;obtain⟨hob,_⟩:=(show cj X.prog X.w H s.heap a (.kg o (.dK kvs)) from I.hok a _ ha);have hm:s.heap.DictAt (bh X.prog X.w) a vs ep:=⟨o,es,hob,hd⟩;obtain⟨v,hv⟩:=HD rel (aaR hi);obtain⟨f0,f1,f2,f3,f4,f5⟩:=hf it (by simp);refine wpAny_pyNext_dict_item st hm hv λkey h' hkey st' sb=>?_;have I1:Inv X pins σ H { s with heap:=h' }:=I.turned (t':=s.toks) (λb o hb e=>(sb.2 b hb).trans e) f0 f1 f3 f4 f5;obtain⟨o',e,c,d⟩:=id st';exact⟨key,rfl,Cz (s:={ s with heap:=h' }) e c d (by decide) ⟨kV kvs[i].1,H,I1,Hw hkey,⟨rfl,kvs[i],aaR hi,rfl⟩,st',λb hb=>(hf b hb).1⟩⟩
 done:=by intro X hP hw hK hc i pins s σ H E I hf st hg;subst hP hw hK;obtain⟨ha,hi⟩:=hg;obtain⟨hob,_⟩:=(show cj X.prog X.w H s.heap a (.kg o (.dK kvs)) from I.hok a _ ha);have hm:s.heap.DictAt (bh X.prog X.w) a vs ep:=⟨o,es,hob,hd⟩;obtain⟨f0,f1,f2,f3,f4,f5⟩:=hf it (by simp);exact wpAny_pyNext_dict_end (I.ok.hd hc) st hm (List.getElem?_eq_none (by rw[<-rel.length];exact hi)) λh' eb=>⟨rfl,I.turned (t':=s.toks) (λb o hb e=>eb b o hb e) f0 f1 f3 f4 f5⟩
 self:=λ_ _ _ _ _ st h=>wpAny_pyIter_keyiter st h
def HE(tl:TE):TI:=λσ H R=>tl σ H λx H1=>∃a kvs,x=.ref a/\H1 a=some (.dK kvs)/\∀o,R (Itd a o kvs) (upd H1 a (.kg o (.dK kvs)))
theorem MA(hl:PE X l tl):PI X tg l (HE tl):=by
 intro pins s σ H R I h;refine cO (hl pins s σ H _ I h) λv s1 aS=>?_;obtain⟨x,H1,I1,r1,q1⟩:=aS;obtain⟨a,kvs,e,ea,q⟩:=q1;subst e;cases r1;obtain⟨hz,hsm,vs,rel,dd⟩:=CG I1.hok ea;obtain⟨ep,da⟩:=dd.dictAt;obtain⟨o,es,ho,r⟩:=id da;have I2:=I1.freeze ea ho;refine wpAny_pyIter_dict hsm da ?_;refine⟨s1.heap.objs.size,[s1.heap.objs.size],_,_,_,rfl,I2.kept (t':=s1.toks) λb o e=>aap _ e,EO a _ rel r,⟨_,aaB _ rfl,rfl,rfl⟩,λb hb=>?_,q o⟩;have e:b=s1.heap.objs.size:=by simpa using hb
 subst e;exact I2.Gq (aaw _) (I2.hok.fresh (aaw _))
structure Vy (K:Frag) (C:Addr) (m:Str) (f:Addr):Prop where
 ga:specialIn K (.ref C) "__getattribute__" = some (some (.builtin "type.__getattribute__"))
 rd:PySem.W.readsIn K C (.type "type")=true
 at_:PySem.W.findCls K (.ref C) (.type "type") m=some (.val (.ref f))
 kp:keepIn K (.ref f)=true
structure TyI (K:Frag) (C:Addr):Prop where
 ha:findIn K (.ref C) "__class__" = some (some (.builtin "object.__class__"))
 hn:specialIn K (.builtin "object.__class__") "__get__" = some (some (.builtin "getset_descriptor.__get__"))
 htk:PySem.W.takesIn K (.builtin "object.__class__")=some true
 hm:PySem.W.mroIn K C (.type "object")=some true
end
end L2
end
section
namespace L2
open PySem PySem.Spec PyProof.Rows
section
variable {X:Cx}
def tLS(K:Frag)(te:TE):TE:=λσ H Q=>te σ H λx H1=>∃p ns,x=.ref p/\iD K H1 p (ns.map V.int)/\ns.length<64/\Q (.int ((cH [] ns).length:Nat)) H1
theorem MB{p1 p2 pos1 pos2:Pos}(hh:X.A.handled=none)(hg:Gl X "len")(hm:X.mg "len" = none)(Zn:Gl X "set")(hm2:X.mg "set" = none)(hv:bootBuiltins "len" = some (.builtin "len"))(hv2:bootBuiltins "set" = some (.type "set"))(he:PE X e te)
  (hs:starEach [e] X.env=[(false,eval e X.env)]):PE X (.Call (.Name "len" p1) [.Call (.Name "set" p2) [e] [] pos2] [] pos1) (tLS X.K te):=by
 intro pins s σ H Q I h;refine aa3 (iW I hg hm hv ?_ (by decide) (by decide));refine PyProof.Rows.callWith_builtin1 ?_ rfl rfl;show wpAny _ _ (spliced [(false,eval (.Call (.Name "set" p2) [e] [] pos2) X.env)]) _ _ s;refine abn ?_;refine aa3 (iW I Zn hm2 hv2 ?_ (by decide) (by decide));refine aa4 ?_ hs rfl;show wpAny _ _ (spliced (backTo pos2 (starEach [e] X.env))) _ _ s;rw[hs];show wpAny _ _ (spliced [(false,eval e X.env)]) _ _ s;refine abn (cO (he pins s σ H _ I h) λu s1 ⟨x,H1,I1,r1,p,ns,ex,hq,h64,q⟩=>abA ?_);subst ex;cases r1;obtain⟨its,rv,pl,hz⟩:=I1.list hq;have hi:=intsAre_of rv;have hl:=hi.length;refine rO hh pl.isList (by simpa using hi) (by show its.toArray.size+1<4096;rw[aaE,hl];omega) λh2 tk S k2=>?_;obtain⟨o,es,ep,t,S⟩:=S;refine abA ?_;have hk:=uf ns [];have Vs:(cH [] ns).length<64:=by simp at hk;omega
 refine call_len_set (s:={ s1 with heap:=h2,toks:=tk }) S.at_ S.ex S.dat S.tab.fit (by rw[S.num];omega) ?_;refine⟨.int ((cH [] ns).length:Nat),H1,I1.kept λb o z=>k2 b o (aav z) z,?_,q⟩;rw[S.num];exact⟨_,rfl⟩
end
end L2
end
section
namespace L2
open PySem PySem.Spec PyProof.Rows PySem.W
section
variable {X:Cx}
theorem MC(ha:PE X a ta):PE X (.UnaryOp .Not a pos) (λσ H Q=>ta σ H λx H1=>∃k,L6 X.K x H1 k/\Q (.bl (!k)) H1):=by
 intro pins s σ H Q I h;refine UnaryOp_ (cO (ha pins s σ H _ I h) λv s1 aS=>?_);obtain⟨x,H1,I1,r1,q1⟩:=aS;exact not_of (cO (Gv pins s1 σ H1 x v (λk H2=>Q (.bl (!k)) H2) I1 r1 q1) λk s2 ⟨H2,I2,q2⟩=>⟨.bl (!k),H2,I2,rfl,q2⟩)
end
def tDv(js:List (Option Nat))(d b:Nat):TE:=λσ H Q=>∃(a:Addr) (kvs:List (Key×V)) (f:Key->V),σ[d]?=some (some (.ref a))/\(iZ js σ)[b]?=some (some (.ref a))/\H a=some (.dK kvs)/\kvs.length<=sizeLine /\
 (∀kv∈kvs,gM kvs kv.1=some (f kv.1))/\∀D,H D=none->Q (.ref D) (upd H D (.lst (kvs.map λkv=>f kv.1)))
theorem Qz{d p b:Nat}(hpb:p≠b)(hp:p<js.length)(h:tDv js d b σ H Q):Hz (zz (HE (zg d)) js (rH p) tX (GN (zg b) (zg p))) σ H Q:=by
 obtain⟨a,kvs,f,hd,hb,ha,hz,hf,hQ⟩:=h;refine⟨a,kvs,ha,.ref a,hd,a,kvs,rfl,ha,λo D hD=>?_⟩;have Zq:D≠a:=λz=>by rw[z,aW]at hD;cases hD
 have hD0:H D=none:=by rw[aA Zq]at hD;exact hD
 let L:Nat->List V:=λi=>(kvs.take i).map λkv=>f kv.1
 have hlL:∀i,(L i).length<=i:=λi=>by
  show ((kvs.take i).map _).length<=i;rw[aak,abH];omega
 refine⟨λi m σ' H'=>i+m=kvs.length/\H'=upd (upd H a (.kg o (.dK kvs))) D (.lst (L i)) /\ σ'.length=js.length /\ σ'[b]?=some (some (.ref a)),⟨kvs.length,by omega,rfl,jW js σ,hb⟩,?_⟩;rintro i m σ' H' ⟨e1,rfl,e3,e4⟩;have Uh:upd (upd H a (.kg o (.dK kvs))) D (.lst (L i)) a=some (.kg o (.dK kvs)):=by rw[aA Zq.symm,aW]
 cases m with
 |zero=>
  refine .inl ⟨⟨Uh,by omega⟩,o,Uh,?_⟩;have:upd (upd (upd H a (.kg o (.dK kvs))) D (.lst (L i))) a (.dK kvs)=upd H D (.lst (L i)):=by
   funext c;unfold upd
   by_cases c1:c=a
   ·rw[aar c1,aas (by rw[c1];exact Zq.symm),c1];exact ha.symm
   ·rw[aas c1]
    by_cases c2:c=D
    ·rw[aar c2,aar c2]
    ·rw[aas c2,aas c2,aas c1]
  rw[this];have:=hQ D hD0;show Q _ (upd H D (.lst ((kvs.take i).map λkv=>f kv.1)));rw[take_of_length_le (by omega)];exact this
 |succ m=>
  have hi:i<kvs.length:=by omega
  refine .inr ⟨⟨Uh,hi⟩,_,λED OL w=>⟨m,aa8 _,w⟩,λx H2 hy=>?_⟩;obtain⟨rfl,kv,hkv,rfl⟩:=hy;have g1:(σ'.set p (some (kV kv.1)))[p]?=some (some (kV kv.1)):=aat (by omega);have g2:(σ'.set p (some (kV kv.1)))[b]?=some (some (.ref a)):=by rw[aan hpb];exact e4
  refine⟨.ref a,g2,kV kv.1,g1,a,f kv.1,rfl,.inl ⟨kvs,kv.1,.inr ⟨o,Uh⟩,rfl,(hf kv (aaM hkv)).symm⟩,L i,aW,by have:=hlL i;omega,by omega,?_,by rw[abE];exact e3,g2⟩;rw[LO];show upd _ D (.lst (L i++[f kv.1]))=upd _ D (.lst ((kvs.take (i+1)).map λkv=>f kv.1));rw[List.take_succ,hkv];simp[L]
end L2
end
section
namespace Hv
open PySem L2 PyProof.Rows
inductive Val
 |non|bl (b:Bool)|int (i:Int)|str (x:Str)|tup (vs:List Val)|rl (vs:List Val)|dc (ks:List Key) (vs:List Val)|ob (c:Nat) (xs:List Str) (vs:List Val)|ref (i:Nat)
inductive Ob
 |lst (xs:List Val)|dct (kvs:List (Key×Val))|ins (c:Nat) (fs:List (Str×Val))
abbrev Hs:=List Ob
inductive Out (α:Type)
 |ok (a:α) (h:Hs)|exc (c:Nat) (vs:List Val) (h:Hs)|no
abbrev M(α:Type):=Hs->Out α
def ret{α:Type}(a:α):M α:=λh=>.ok a h
def bnd{α β:Type}(m:M α)(f:α -> M β):M β:=λh=>match m h with
 |.ok a h'=>f a h'
 |.exc c vs h'=>.exc c vs h'
 |.no=>.no
def bB{α:Type}(o:Option α):M α:=λh=>match o with
 |some a=>.ok a h
 |none=>.no
def ask{α:Type}(f:Hs->Option α):M α:=λh=>bB (f h) h
def new(o:Ob):M Val:=λh=>.ok (.ref h.length) (h++[o])
def put(i:Nat)(o:Ob):M Unit:=λh=>.ok () (h.set i o)
def bK{α β:Type}(f:α -> Option β):List α -> Option (List β)
 |[]=>some []
 |a::r=>(f a).bind λb=>(bK f r).bind λbs=>some (b::bs)
inductive ON|add|sub|mul|fdiv|mod|pow
 deriving DecidableEq
inductive OO|eq|ne|lt|le|gt|ge|isn|ntn|lX|nin
 deriving DecidableEq
inductive Bl|len|min|max|sorted|list|tuple|str|int|all|any|isin (T:String)
 deriving DecidableEq
inductive Me|join|append|extend
 deriving DecidableEq
inductive B3|one (i:Nat)|tup (is:List Nat)
 deriving DecidableEq
inductive Ik|seq|range|enum|zip
 deriving DecidableEq
mutual
inductive IE
 |var (i:Nat)|cst (d:Val)|con (x:Str) (d:Val)|no
 |bin (o:ON) (a b:IE)|neg (a:IE)|cmp (o:OO) (a b:IE)|chn (o p:OO) (a b c:IE)
 |and (a b:IE)|or (a b:IE)|not (a:IE)|ite (c a b:IE)
 |tup (es:pJ)|lst (es:pJ)|idx (a b:IE)|slc (a lo hi:IE)
 |call (j:Nat) (es:pJ)|blt (b:Bl) (es:pJ)|met (m:Me) (a:IE) (es:pJ)
 |comp (N:List Str) (js:List (Option Nat)) (pat:B3) (k:Ik) (it:pJ) (c elt:IE)
 |dct0
 |sset (a:IE)
 |dget (d k x:IE)
 |dct1 (k v:IE)
 |lkeys (d:IE)
 |sdef (d k x:IE)
 |svals (d:IE)
 |skeys (d:IE)
 |fld (n:Nat) (a:IE) (x:Str)
 |mth (a:IE) (m:Str) (js:List (Nat×Nat)) (es:pJ)
 |rev (a s:IE)
 |dflt (N:List Str) (js:List (Option Nat)) (p q:Nat) (d w:IE)
 |isc (a:IE) (x:Str) (bs:List Bool)
inductive pJ|nil|cons (e:IE) (es:pJ)
end
abbrev Env:=List (Option Val)
mutual
inductive IS
 |expr (e:IE)|asg (p:B3) (e:IE)|aug (i:Nat) (o:ON) (e:IE)|ig (o i v:IE)
 |iff (c:IE) (a b:bY)|for (p:B3) (k:Ik) (it:pJ) (body:bY)|whl (n:Nat) (c:IE) (body:bY)
 |ret (e:IE)|HF|brk|cnt|pass|never|setF (n:Nat) (a:IE) (x:Str) (v:IE)
inductive bY|nil|cons (s:IS) (r:bY)
end
def aB(h:Hs):Val->Option (List Val)
 |.rl vs=>some vs
 | .ref i=>match h[i]? with
  |some (.lst xs)=>some xs
  |_=>none
 |_=>none
def dH(h:Hs):Val->Option (List Val)
 |.tup vs=>some vs
 |v=>aB h v
def CO(_:Hs):Val->Option (List Val)
 |.tup vs=>some vs
 |_=>none
def aX:List Val->Option (List Int):=bK λv=>match v with
 |.int i=>some i
 |_=>none
def bZ:List Val->Option (List Bool):=bK λv=>match v with
 |.bl i=>some i
 |_=>none
def oj:List Val->Option (List (List Int)):=bK λv=>match v with
 |.tup vs=>if vs.isEmpty then none else aX vs
 |_=>none
def toD:Nat->Hs->Val->Option PyData
 |0,_,_=>none
 |_+1,_,.non=>some .none
 |_+1,_,.bl b=>some (.bool b)
 |_+1,_,.int i=>some (.int i)
 |_+1,_,.str x=>if PyData.strOk x=true then some (.str x) else none
 |n+1,h,.tup vs=>(bK (toD n h) vs).bind λds=>some (.tuple ds)
 |n+1,h,.rl vs=>(bK (toD n h) vs).bind λds=>some (.list ds)
 |_+1,_,.dc _ _=>none
 |_+1,_,.ob _ _ _=>none
 |n+1,h,.ref i=>(aB h (.ref i)).bind λxs=>(bK (toD n h) xs).bind λds=>some (.list ds)
def zK(h:Hs)(v w:Val):Option Bool:=(toD 16 h v).bind λd=>(toD 16 h w).bind λe=>some (PyData.eqv d e)
def yi(x:List Int):List (List Int)->List (List Int)
 |[]=>[x]
 |y::r=>if HT.lexLt y x=true then y::yi x r else x::y::r
def pK:List (List Int)->List (List Int)
 |[]=>[]
 |x::r=>yi x (pK r)
def oH(ks:List Int):Val:=.tup (ks.map .int)
def gO(xs:List Val):Option (List Val) :=
 if xs.length<64 then
  match aX xs with
  |some ns=>some ((sortI ns).map .int)
  |none=>(oj xs).bind λsO=>some ((pK sO).map oH)
 else none
def vJ:List Int->Option Val
 |[]=>none
 |a::r=>some (.int (r.foldl min a))
def yj:List Int->Option Val
 |[]=>none
 |a::r=>some (.int (r.foldl max a))
def lO(i j:Int):Bool:=(decide (-(2 ^ 64)<i)&&decide (i<2 ^ 64))||(decide (-(2 ^ 64)<j)&&decide (j<2 ^ 64))
def aR{α:Type}(c:Bool)(m:M α):M α:=λh=>if c=true then m h else .no
def ja(b:Int):Bool:=decide (0<b/\b<1606938044258990275541962092341162602522202993782792835301376)
def Ui:ON->Val->Val->M Val
 |.add,.int a,.int b=>ret (.int (a+b))
 |.add,v,w=>bnd (ask λh=>aB h v) λa=>bnd (ask λh=>aB h w) λb=>aR (decide (a.length+b.length<=sizeLine)) (new (.lst (a++b)))
 |.sub,.int a,.int b=>ret (.int (a-b))
 |.mul,.int a,.int b=>aR (lO a b) (ret (.int (a*b)))
 |.fdiv,.int a,.int b=>aR (ja b) (ret (.int (a/b)))
 |.mod,.int a,.int b=>aR (decide (0<b)) (ret (.int (a%b)))
 |.pow,.int a,.int b=>aR (decide (0<=b/\b<=1000000/\a.natAbs<2 ^ 64)) (ret (.int (a ^ b.toNat)))
 |_,_,_=>bB none
def lP:Val->Bool
 |.non=>true
 |_=>false
def dm(kvs:List (Key×Val))(k:Key):Option Val:=(kvs.find? λkv=>decide (kv.1=k)).map (·.2)
def jD(kvs:List (Key×Val))(k:Key)(v:Val):List (Key×Val) :=
 if (kvs.any λkv=>decide (kv.1=k))=true then kvs.map (λkv=>if kv.1=k then (kv.1,v) else kv) else kvs++[(k,v)]
def keyOf:Val->Option Key
 |.int i=>some (.inl i)
 |.str x=>some (.inr x)
 |_=>none
def Vz(f d:PyData):Option Bool:=match f with
 |.list ds=>some (ds.any λy=>PyData.eqv y d)
 |.tuple ds=>some (ds.any λy=>PyData.eqv y d)
 |_=>none
def memD(h:Hs)(v w:Val):Option Bool:=(toD 16 h w).bind λf=>(toD 16 h v).bind λd=>Vz f d
def zL(h:Hs)(v w:Val):Option Bool:=memD h v w
def OP(v w:Val):Option Bool:=match w with
 |.non=>some (lP v)
 |_=>none
def cop(h:Hs):OO->Val->Val->Option Bool
 |.eq,v,w=>zK h v w
 |.ne,v,w=>(zK h v w).map (!·)
 |.lt,.int a,.int b=>some (decide (a<b))
 |.le,.int a,.int b=>some (decide (a<=b))
 |.gt,.int a,.int b=>some (decide (b<a))
 |.ge,.int a,.int b=>some (decide (b<=a))
 |.isn,v,w=>OP v w
 |.ntn,v,w=>(OP v w).map (!·)
 |.lX,v,w=>zL h v w
 |.nin,v,w=>(zL h v w).map (!·)
 |_,_,_=>none
def dI(h:Hs):Val->Option Bool
 |.non=>some false
 |.bl b=>some b
 |.int i=>some (i != 0)
 |.str x=>if x.length<=sizeLine then some ((x.length:Int) != 0) else none
 |.tup vs=>some (!vs.isEmpty)
 |.rl vs=>some (!vs.isEmpty)
 |.dc ks _=>some (!ks.isEmpty)
 |.ob _ _ _=>none
 | .ref i=>match h[i]? with
  |some (.lst xs)=>some (!xs.isEmpty)
  |some (.dct xs)=>some (!xs.isEmpty)
  |_=>none
def iu(h:Hs):Val->Val->Option Val
 |.tup vs,.int i=>oB vs i
 |.rl vs,.int i=>oB vs i
 | .ref j,.int i=>match h[j]? with
  |some (.dct kvs)=>dm kvs (.inl i)
  |_=>(aB h (.ref j)).bind λxs=>oB xs i
 |.dc ks vs,.int i=>dm (ks.zip vs) (.inl i)
 |_,_=>none
def HG(h:Hs)(o:Val):Option Unit:=match o with
 | .ref i=>(match h[i]? with
  |some (.dct _)=>some ()
  |_=>none)
 |.dc _ _=>some ()
 |_=>none
def sy(h:Hs)(o:Val)(k:Key):Option (Option Val):=match o with
 | .ref i=>(match h[i]? with
  |some (.dct kvs)=>some (dm kvs k)
  |_=>none)
 |.dc ks vs=>some (dm (ks.zip vs) k)
 |_=>none
def wQ(h:Hs)(o:Val):Option (List Key):=match o with
 | .ref i=>(match h[i]? with
  |some (.dct kvs)=>some (kvs.map (·.1))
  |_=>none)
 |.dc ks _=>some ks
 |_=>none
def HH:Key->Val
 |.inl i=>.int i
 |.inr x=>.str x
def vI:Val->Option Int
 |.int n=>some n
 |_=>none
def wR(h:Hs)(o:Val):Option (List Int):=(wQ h o).bind λks=>if ks.length<=100000 then bK (λk=>(sy h o k).bind λr=>r.bind vI) ks else none
def dX{α:Type}(ds:List α)(lo hi:Option Int):List α:=(ds.drop (HT.fq ds.length 0 lo)).take (HT.fq ds.length ds.length hi-HT.fq ds.length 0 lo)
def vK(v:Val)(lo hi:Option Int):M Val:=match v with
 |.tup vs=>aR (!(decide (HT.fq vs.length 0 lo=0)&&decide (HT.fq vs.length vs.length hi=vs.length))) (ret (.tup (dX vs lo hi)))
 |v=>bnd (ask λh=>aB h v) λxs=>new (.lst (dX xs lo hi))
def zM(h:Hs):Val->Option String
 |.non=>some "NoneType" | .bl _=>some "bool" | .int _=>some "int" | .str _=>some "str" | .tup _=>some "tuple" | .rl _=>some "list" | .dc _ _=>some "dict" | .ob _ _ _=>none
 | .ref i=>match h[i]? with
  |some (.lst _)=>some "list"
  |some (.dct _)=>some "dict"
  |_=>none
def zN(T:String)(t:String):Option Bool :=
 if ["list","tuple","str","bool","int","dict"].contains T=true then some (decide (T=t\/(T = "int" /\ t = "bool"))) else none
def pL(h:Hs):Val->Option Nat
 |.tup vs=>some vs.length
 |.rl vs=>some vs.length
 |.dc ks _=>some ks.length
 | .ref i=>match h[i]? with
  |some (.lst xs)=>some xs.length
  |some (.dct xs)=>some xs.length
  |_=>none
 |_=>none
def blt:Bl->List Val->M Val
 |.len,[v]=>bnd (ask λh=>pL h v) λn=>ret (.int n)
 |.min,[.int a,.int b]=>ret (.int (if b<a then b else a))
 |.max,[.int a,.int b]=>ret (.int (if b>a then b else a))
 |.min,[v]=>bnd (ask λh=>dH h v) λxs=>bB ((aX xs).bind vJ)
 |.max,[v]=>bnd (ask λh=>dH h v) λxs=>bB ((aX xs).bind yj)
 |.sorted,[v]=>bnd (ask λh=>aB h v) λxs=>bnd (bB (gO xs)) λys=>new (.lst ys)
 |.list,[v]=>bnd (ask λh=>dH h v) λxs=>new (.lst xs)
 |.int,[.bl b]=>ret (.int (if b=true then 1 else 0))
 |.int,[.int i]=>ret (.int i)
 |.all,[v]=>bnd (ask λh=>aB h v) λxs=>bnd (bB (bZ xs)) λbs=>ret (.bl (bs.all id))
 |.any,[v]=>bnd (ask λh=>aB h v) λxs=>bnd (bB (bZ xs)) λbs=>ret (.bl (bs.any id))
 |.isin T,[v]=>bnd (ask λh=>zM h v) λt=>bnd (bB (zN T t)) λb=>ret (.bl b)
 |_,_=>bB none
def met:Me->Val->List Val->M Val
 |.append,.ref i,[v]=>bnd (ask λh=>match h[i]? with|some (.lst xs)=>some xs|_=>none) λxs=>aR (decide (xs.length<sizeLine)) (bnd (put i (.lst (xs++[v]))) λ_=>ret .non)
 |.extend,.ref i,[v]=>bnd (ask λh=>match h[i]? with|some (.lst xs)=>some xs|_=>none) λxs=>bnd (ask λh=>CO h v) λys=>aR (decide (xs.length+ys.length<=sizeLine)) (bnd (put i (.lst (xs++ys))) λ_=>ret .non)
 |_,_,_=>bB none
def recv(h:Hs):Me->Val->Option Unit
 |.join,.str _=>some ()
 |.append,.ref i=>match h[i]? with|some (.lst _)=>some ()|_=>none
 |.extend,.ref i=>match h[i]? with|some (.lst _)=>some ()|_=>none
 |_,_=>none
def VA:Val->M Val
 |.ref i=>bnd (ask λh=>match h[i]? with|some (.lst xs)=>some xs|_=>none) λ_=>bnd (put i (.lst [])) λ_=>ret .non
 |_=>bB none
inductive Src
 |fix (xs:List Val)|live (i:Nat)|enum (i:Nat)|zip (v w:Val)
def ug:Nat->List Val->List Val
 |_,[]=>[]
 |i,d::r=>.tup [.int i,d]::ug (i+1) r
def gj:List Val->List Val->List Val
 |a::r,b::t=>.tup [a,b]::gj r t
 |_,_=>[]
def cB(lo:Int)(n:Nat):List Val:=(List.range n).map λ(i:Nat)=>Val.int (lo+(i:Int))
def inR(i:Int):Bool:=decide (-(2 ^ 62)<=i)&&decide (i<2 ^ 62)
def srcOf:Ik->List Val->Option Src
 |.seq,[.tup vs]=>some (.fix vs)
 |.seq,[.rl vs]=>some (.fix vs)
 |.seq,[.ref i]=>some (.live i)
 |.range,[.int n]=>if inR n then some (.fix (cB 0 n.toNat)) else none
 |.range,[.int a,.int b]=>if inR a&&inR b then some (.fix (cB a (b-a).toNat)) else none
 |.enum,[.rl vs]=>some (.fix (ug 0 vs))
 |.enum,[.ref i]=>some (.enum i)
 |.zip,[v,w]=>some (.zip v w)
 |_,_=>none
def Src.items(h:Hs):Src->Option (List Val)
 |.fix xs=>some xs
 |.live i=>aB h (.ref i)
 |.enum i=>(aB h (.ref i)).map (ug 0)
 |.zip v w=>(aB h v).bind λxs=>(aB h w).map λys=>gj xs ys
def bindAll:List Nat->List Val->Env->Option Env
 |[],[],env=>some env
 |i::is,d::ds,env=>bindAll is ds (env.set i (some d))
 |_,_,_=>none
def gp:B3->Val->Env->Option Env
 |.one i,d,env=>some (env.set i (some d))
 |.tup is,.tup ds,env=>bindAll is ds env
 |_,_,_=>none
def mG(js:List (Option Nat))(env:Env):Env:=js.map λo=>match o with
 |none=>none
 | some j=>match env[j]? with
  |some (some d)=>some d
  |_=>none
def gP(src:Src)(f:Val->M (Option Val)):Nat->Nat->List Val->M (List Val)
 |0,i,acc=>bnd (ask λh=>src.items h) λxs=>aR (decide (xs.length<=i)) (ret acc)
 | n+1,i,acc=>bnd (ask λh=>src.items h) λxs=>match xs[i]? with
  |none=>ret acc
  |some x=>bnd (f x) λo=>gP src f n (i+1) (match o with|some e=>acc++[e]|none=>acc)
def eW:IE->Bool
 |.no=>true
 |_=>false
def gq:Val->Option Int
 |.int i=>some i
 |_=>none
def wU:Val->M Bool
 |.bl b=>ret b
 |_=>bB none
def nY(n:Nat)(h:Hs)(o:Val)(x:Str):Option Val:=match o with
 | .ref i=>(match h[i]? with
  |some (.ins c fs)=>if c<n then fs.lookup x else none
  |_=>none)
 |.ob c xs vs=>if c<n then (xs.zip vs).lookup x else none
 |_=>none
def sD(h:Hs)(o:Val)(m:Str)(js:List (Nat×Nat)):Option Nat:=match o with
 | .ref i=>(match h[i]? with
  |some (.ins c fs)=>if (fs.lookup m).isNone=true then js.lookup c else none
  |_=>none)
 |.ob c xs vs=>if ((xs.zip vs).lookup m).isNone=true then js.lookup c else none
 |_=>none
def uh(f:Str)(v:Val):List (Str×Val)->List (Str×Val)
 |[]=>[(f,v)]
 |(g,x)::r=>if g=f then (g,v)::r else (g,x)::uh f v r
def CP(n:Nat)(o:Val)(x:Str)(v:Val):M Unit:=match o with
 |.ref i=>bnd (ask λh=>match h[i]? with|some (.ins c fs)=>if c<n then some (c,fs) else none|_=>none) λp=>aR (decide (p.2.length<1000)) (put i (.ins p.1 (uh x v p.2)))
 |_=>bB none
def OQ(c:Nat)(φ:List Val->M Val)(vs:List Val):M Val:=bnd (new (.ins c [])) λo=>bnd (φ (o::vs)) λr=>match r with
 |.non=>ret o
 |_=>bB none
mutual
noncomputable def aN(Φ:Nat->List Val->M Val):IE->Env->M Val
 | .var i,env=>bB (match env[i]? with
  |some (some d)=>some d
  |_=>none)
 |.cst d,_=>ret d
 |.con _ d,_=>ret d
 |.no,_=>bB none
 |.bin o a b,env=>bnd (aN Φ a env) λx=>bnd (aN Φ b env) λy=>Ui o x y
 | .neg a,env=>bnd (aN Φ a env) λx=>match x with
  |.int i=>ret (.int (-i))
  |_=>bB none
 |.cmp o a b,env=>bnd (aN Φ a env) λx=>bnd (aN Φ b env) λy=>bnd (ask λh=>cop h o x y) λt=>ret (.bl t)
 |.chn _ _ _ _ _,_=>bB none
 |.and a b,env=>bnd (aN Φ a env) λx=>bnd (wU x) λt=>if t=true then bnd (aN Φ b env) λy=>bnd (wU y) λu=>ret (.bl u) else ret (.bl false)
 |.or a b,env=>bnd (aN Φ a env) λx=>bnd (wU x) λt=>if t=true then ret (.bl true) else bnd (aN Φ b env) λy=>bnd (wU y) λu=>ret (.bl u)
 |.not a,env=>bnd (aN Φ a env) λx=>bnd (ask λh=>dI h x) λt=>ret (.bl (!t))
 |.ite _ _ _,_=>bB none
 |.tup es,env=>bnd (bu Φ es env) λds=>aR (decide (ds.length<=sizeLine)) (ret (.tup ds))
 |.lst es,env=>bnd (bu Φ es env) λds=>aR (decide (ds.length<=sizeLine)) (new (.lst ds))
 |.idx a b,env=>bnd (aN Φ a env) λx=>bnd (aN Φ b env) λy=>ask λh=>iu h x y
 |.slc a lo hi,env=>bnd (aN Φ a env) λx=>bnd (if eW lo=true then ret none else bnd (aN Φ lo env) λv=>bnd (bB (gq v)) λi=>ret (some i)) λl=>
   bnd (if eW hi=true then ret none else bnd (aN Φ hi env) λv=>bnd (bB (gq v)) λi=>ret (some i)) λu=>vK x l u
 |.call j es,env=>bnd (bu Φ es env) λds=>Φ j ds
 |.blt b es,env=>bnd (bu Φ es env) λds=>blt b ds
 |.met m a es,env=>bnd (aN Φ a env) λx=>bnd (ask λh=>recv h m x) λ_=>bnd (bu Φ es env) λds=>met m x ds
 | .comp _ js pat k it c elt,env=>bnd (bu Φ it env) λits=>bnd (bB (srcOf k its)) λsrc=>bnd (ask λh=>src.items h) λxs=>aR (decide (xs.length<=100000))
   (bnd (gP src (λd=>bnd (bB (gp pat d (mG js env))) λenv'=>bnd (if eW c=true then ret true else bnd (aN Φ c env') λv=>ask λh=>dI h v) λt=>
    if t=true then bnd (aN Φ elt env') λe=>ret (some e) else ret none) xs.length 0 []) λys=>new (.lst ys))
 |.dct0,_=>new (.dct [])
 |.sset a,env=>bnd (aN Φ a env) λv=>bnd (ask λh=>aB h v) λxs=>bnd (bB (aX xs)) λns=>aR (decide (ns.length<64)) (new (.lst ((sortI (L2.cH [] ns)).map .int)))
 |.dget d k x,env=>bnd (aN Φ d env) λo=>bnd (ask λh=>HG h o) λ_=>bnd (aN Φ k env) λi=>bnd (bB (keyOf i)) λkk=>bnd (aN Φ x env) λz=>bnd (ask λh=>sy h o kk) λr=>ret (r.getD z)
 |.dct1 k v,env=>bnd (aN Φ k env) λx=>bnd (bB (keyOf x)) λkk=>bnd (aN Φ v env) λy=>new (.dct [(kk,y)])
 |.lkeys d,env=>bnd (aN Φ d env) λo=>bnd (ask λh=>wQ h o) λks=>new (.lst (ks.map HH))
 |.sdef _ _ _,_=>bB none
 |.svals a,env=>bnd (aN Φ a env) VA
 |.skeys a,env=>bnd (aN Φ a env) λv=>bnd (ask λh=>aB h v) λxs=>bnd (bB (aX xs)) λns=>aR (decide (ns.length<64)) (ret (.int ((L2.cH [] ns).length:Nat)))
 |.fld n a x,env=>bnd (aN Φ a env) λo=>ask λh=>nY n h o x
 |.mth a m js es,env=>bnd (aN Φ a env) λo=>bnd (ask λh=>sD h o m js) λj=>bnd (bu Φ es env) λds=>Φ j (o::ds)
 |.rev _ _,_=>bB none
 |.dflt _ _ _ _ d _,env=>bnd (aN Φ d env) λo=>bnd (ask λh=>wR h o) λns=>new (.lst (ns.map .int))
 |.isc _ _ _,_=>bB none
noncomputable def bu(Φ:Nat->List Val->M Val):pJ->Env->M (List Val)
 |.nil,_=>ret []
 |.cons e es,env=>bnd (aN Φ e env) λd=>bnd (bu Φ es env) λds=>ret (d::ds)
end
inductive Fl
 |nx (env:Env)|rt (v:Val)|bk (env:Env)|ct (env:Env)
def forM(src:Src)(body:Val->Env->M Fl):Nat->Nat->Env->M Fl
 |0,i,env=>bnd (ask λh=>src.items h) λxs=>aR (decide (xs.length<=i)) (ret (.nx env))
 | n+1,i,env=>bnd (ask λh=>src.items h) λxs=>match xs[i]? with
  |none=>ret (.nx env)
  | some x=>bnd (body x env) λf=>match f with
   |.nx env'=>forM src body n (i+1) env'
   |.ct env'=>forM src body n (i+1) env'
   |.bk env'=>ret (.nx env')
   |.rt v=>ret (.rt v)
def zO(o i v:Val):M Unit:=match o with
 | .ref j=>bnd (ask λh=>h[j]?) λob=>match ob with
  |.dct kvs=>bnd (bB (keyOf i)) λk=>aR (decide (kvs.length<sizeLine)) (put j (.dct (jD kvs k v)))
  |_=>bB none
 |_=>bB none
mutual
noncomputable def iw(Φ:Nat->List Val->M Val):IS->Env->M Fl
 |.expr e,env=>bnd (aN Φ e env) λ_=>ret (.nx env)
 |.asg p e,env=>bnd (aN Φ e env) λv=>bnd (bB (gp p v env)) λenv'=>ret (.nx env')
 |.aug _ _ _,_=>bB none
 |.ig o i v,env=>bnd (aN Φ v env) λx=>bnd (aN Φ o env) λy=>bnd (aN Φ i env) λz=>bnd (zO y z x) λ_=>ret (.nx env)
 |.iff c a b,env=>bnd (aN Φ c env) λx=>bnd (ask λh=>dI h x) λt=>if t=true then gm Φ a env else gm Φ b env
 |.for p k it body,env=>bnd (bu Φ it env) λits=>bnd (bB (srcOf k its)) λsrc=>bnd (ask λh=>src.items h) λxs=>
   forM src (λx env=>bnd (bB (gp p x env)) λenv'=>gm Φ body env') xs.length 0 env
 |.whl _ _ _,_=>bB none
 |.ret e,env=>bnd (aN Φ e env) λv=>ret (.rt v)
 |.HF,_=>ret (.rt .non)
 |.brk,env=>ret (.bk env)
 |.cnt,env=>ret (.ct env)
 |.pass,env=>ret (.nx env)
 |.never,_=>bB none
 |.setF n a x v,env=>bnd (aN Φ v env) λy=>bnd (aN Φ a env) λo=>bnd (CP n o x y) λ_=>ret (.nx env)
noncomputable def gm(Φ:Nat->List Val->M Val):bY->Env->M Fl
 |.nil,env=>ret (.nx env)
 | .cons s r,env=>bnd (iw Φ s env) λf=>match f with
  |.nx env'=>gm Φ r env'
  |f=>ret f
end
def fj(Φ:Nat->List Val->M Val)(n:Nat)(body:bY)(vs:List Val):M Val :=
 bnd (gm Φ body (vs.map some++replicate (n-vs.length) none)) λf=>match f with
  |.nx _=>ret .non
  |.rt v=>ret v
  |_=>bB none
theorem mH{b:Bool}(ho:o=.lt\/o=.le\/o=.gt\/o=.ge)(e:cop h o v w=some b):∃i j,v=.int i/\w=.int j:=by
 have one:∀{o:OO},(o=.lt\/o=.le\/o=.gt\/o=.ge)->∀{v w:Val},(∀a,v=.int a->∀b,w≠.int b)->cop h o v w=none:=λho v w n=>by
  rcases ho with rfl|rfl|rfl|rfl<;>(cases v<;>first|rfl|(cases w<;>first|rfl|exact(n _ rfl _ rfl).elim))
 by_cases c:∃i j,v=.int i/\w=.int j
 ·exact c
 ·rw[one ho λa ea b eb=>c ⟨a,b,ea,eb⟩]at e;cases e
structure Bd where
 K:Frag
 cl:Nat->Addr
def QA(K:Frag)(H:Hp)(a:Addr)(xs:List V):Prop :=
 (∃o,H a=some (.kg o (.lst xs)))\/iD K (λ_=>none) a xs
theorem QA.sq{K:Frag}{H:Hp}{a:Addr}{xs:List V}(h:QA K H a xs):iD K H a xs:=by
 rcases h with ⟨o,h⟩|(h|⟨o,h⟩)|h
 ·exact .inl (.inr ⟨o,h⟩)
 ·cases h
 ·cases h
 ·exact .inr h
mutual
noncomputable def VR(K:Frag)(ρ:List Addr)(H:Hp):Val->V->Prop
 |.non,x=>x=.non
 |.bl b,x=>x=.bl b
 |.int i,x=>x=.int i
 |.str s,x=>x=.str s
 |.tup vs,x=>∃a xs,x=.ref a/\mh K H a xs/\aI K ρ H vs xs
 |.rl vs,x=>∃a xs,x=.ref a/\QA K H a xs/\aI K ρ H vs xs
 |.dc _ _,_=>False
 |.ob _ _ _,_=>False
 |.ref i,x=>∃a,x=.ref a /\ ρ[i]?=some a
noncomputable def aI(K:Frag)(ρ:List Addr)(H:Hp):List Val->List V->Prop
 |[],xs=>xs=[]
 |v::vs,xs=>∃x r,xs=x::r/\VR K ρ H v x/\aI K ρ H vs r
end
def iP(K:Frag)(ρ:List Addr)(H:Hp):List (Key×Val)->List (Key×V)->Prop
 |[],xs=>xs=[]
 |(k,v)::vs,xs=>∃x r,xs=(k,x)::r/\VR K ρ H v x/\iP K ρ H vs r
def pM(K:Frag)(ρ:List Addr)(H:Hp):List (Str×Val)->List (Str×V)->Prop
 |[],xs=>xs=[]
 |(k,v)::vs,xs=>∃x r,xs=(k,x)::r/\VR K ρ H v x/\pM K ρ H vs r
def OR(B:Bd)(ρ:List Addr)(H:Hp)(a:Addr):Ob->Prop
 |.lst xs=>∃ys,H a=some (.lst ys)/\aI B.K ρ H xs ys
 |.dct kvs=>∃ks,H a=some (.dK ks)/\iP B.K ρ H kvs ks
 |.ins c fs=>∃dx gs,H a=some (.ins (B.cl c) dx gs)/\pM B.K ρ H fs gs
structure HR (B:Bd) (ρ:List Addr) (h:Hs) (H:Hp):Prop where
 len:ρ.length=h.length
 nd:ρ.Nodup
 ob:∀(i:Nat) (o:Ob) (a:Addr),h[i]?=some o -> ρ[i]?=some a->OR B ρ H a o
def Mu:HO->Bool
 |.lst _=>true|.dK _=>true|.ins ..=>true
 |_=>false
structure Gw (ρ:List Addr) (H:Hp) (ρ':List Addr) (H':Hp):Prop where
 pre:ρ <+: ρ'
 firm:∀a o,H a=some o->Mu o=false->H' a=some o
structure Gr (ρ:List Addr) (H:Hp) (ρ':List Addr) (H':Hp):Prop where
 pre:ρ <+: ρ'
 keep:∀a o,H a=some o->a ∉ ρ -> H' a=some o
 firm:∀a o,H a=some o->Mu o=false->H' a=some o
 fresh:∀a,a ∈ ρ'->a ∉ ρ -> H a=none
section
variable {K:Frag} {B:Bd} {ρ ρ' ρ1 ρ2:List Addr} {H H' H1 H2:Hp} {h h':Hs}
theorem Gr.w(g:Gr ρ H ρ' H'):Gw ρ H ρ' H':=⟨g.pre,g.firm⟩
theorem Gr.refl:Gr ρ H ρ H:=⟨aaL _,λ_ _ e _=>e,λ_ _ e _=>e,λ_ e n=>absurd e n⟩
theorem Gr.trans(g:Gr ρ H ρ1 H1)(k:Gr ρ1 H1 ρ2 H2):Gr ρ H ρ2 H2 where
 pre:=g.pre.trans k.pre
 keep a o e n:=k.keep a o (g.keep a o e n) λz=>by rw[g.fresh a z n]at e;cases e
 firm a o e n:=k.firm a o (g.firm a o e n) n
 fresh a z n:=by
  by_cases hb:a ∈ ρ1
  ·exact g.fresh a hb n
  ·cases e:H a with
   |none=>rfl
   |some o=>have e1:=g.keep a o e n;rw[k.fresh a z hb]at e1;cases e1
theorem sP{i:Nat}(p:ρ <+: ρ')(e:ρ[i]?=some a):ρ'[i]?=some a:=by
 obtain⟨t,rfl⟩:=p;have hi:i < ρ.length:=(aao.mp e).1;rw[aax hi];exact e
theorem Gw.Yi(g:Gw ρ H ρ' H')(e:mh K H a xs):mh K H' a xs:=by
 rcases e with (e|⟨o,e⟩)|e
 ·exact .inl (.inl (g.firm _ _ e rfl))
 ·exact .inl (.inr ⟨o,g.firm _ _ e rfl⟩)
 ·exact .inr e
theorem Gw.VB(g:Gw ρ H ρ' H')(e:QA K H a xs):QA K H' a xs:=by
 rcases e with ⟨o,e⟩|e
 ·exact .inl ⟨o,g.firm _ _ e rfl⟩
 ·exact .inr e
mutual
theorem VR.nZ(g:Gw ρ H ρ' H'):∀(v:Val) (x:V),VR K ρ H v x->VR K ρ' H' v x
 |.non,x,e=>by rw[VR]at e |-;exact e
 |.bl b,x,e=>by rw[VR]at e |-;exact e
 |.int b,x,e=>by rw[VR]at e |-;exact e
 |.str b,x,e=>by rw[VR]at e |-;exact e
 | .tup vs,x,e=>by
  rw[VR]at e |-;obtain⟨a,xs,rfl,q1,q2⟩:=e;exact⟨a,xs,rfl,g.Yi q1,aI.nZ g vs xs q2⟩
 | .rl vs,x,e=>by
  rw[VR]at e |-;obtain⟨a,xs,rfl,q1,q2⟩:=e;exact⟨a,xs,rfl,g.VB q1,aI.nZ g vs xs q2⟩
 |.dc _ _,x,e=>by rw[VR]at e;exact e.elim
 |.ob _ _ _,x,e=>by rw[VR]at e;exact e.elim
 | .ref i,x,e=>by
  rw[VR]at e |-;obtain⟨a,rfl,q⟩:=e;exact⟨a,rfl,sP g.pre q⟩
theorem aI.nZ(g:Gw ρ H ρ' H'):∀(vs:List Val) (xs:List V),aI K ρ H vs xs->aI K ρ' H' vs xs
 |[],xs,e=>by rw[aI]at e |-;exact e
 | v::vs,xs,e=>by
  rw[aI]at e |-;obtain⟨x,r,rfl,q1,q2⟩:=e;exact⟨x,r,rfl,VR.nZ g v x q1,aI.nZ g vs r q2⟩
end
theorem iP.nZ(g:Gw ρ H ρ' H'):∀(vs:List (Key×Val)) (xs:List (Key×V)),iP K ρ H vs xs->iP K ρ' H' vs xs
 |[],xs,e=>e
 |(k,v)::vs,xs,⟨x,r,e,q1,q2⟩=>⟨x,r,e,VR.nZ g v x q1,iP.nZ g vs r q2⟩
theorem pM.nZ(g:Gw ρ H ρ' H'):∀(vs:List (Str×Val)) (xs:List (Str×V)),pM K ρ H vs xs->pM K ρ' H' vs xs
 |[],xs,e=>e
 |(k,v)::vs,xs,⟨x,r,e,q1,q2⟩=>⟨x,r,e,VR.nZ g v x q1,pM.nZ g vs r q2⟩
theorem pM.look:∀{vs:List (Str×Val)} {xs:List (Str×V)},pM K ρ H vs xs->(vs.lookup x=none->xs.lookup x=none)/\∀v,vs.lookup x=some v->∃y,xs.lookup x=some y/\VR K ρ H v y
 |[],xs,e=>by rw[pM]at e;subst e;exact⟨λ_=>rfl,λv z=>by cases z⟩
 | (k,v)::vs,xs,e=>by
  rw[pM]at e;obtain⟨y,r,rfl,q1,q2⟩:=e;rw[abf,abf];cases hb:x==k with
  |true=>exact⟨λz=>(by cases z),λw z=>by cases z;exact⟨y,rfl,q1⟩⟩
  |false=>exact pM.look q2
theorem pM.length:∀{vs:List (Str×Val)} {xs:List (Str×V)},pM K ρ H vs xs->vs.length=xs.length
 |[],xs,e=>by rw[pM]at e;subst e;rfl
 |(k,v)::vs,xs,e=>by rw[pM]at e;obtain⟨y,r,rfl,_,q⟩:=e;simp[pM.length q]
theorem pM.put(hw:VR K ρ H w y):∀{vs:List (Str×Val)} {xs:List (Str×V)},pM K ρ H vs xs->pM K ρ H (uh x w vs) (kY x y xs)
 |[],xs,e=>by rw[pM]at e;subst e;exact⟨y,[],rfl,hw,rfl⟩
 | (k,v)::vs,xs,e=>by
  rw[pM]at e;obtain⟨z,r,rfl,q1,q2⟩:=e;rw[uh,kY]
  by_cases hk:k=x
  ·rw[aar hk,aar hk];exact⟨y,r,rfl,hw,q2⟩
  ·rw[aas hk,aas hk];exact⟨z,_,rfl,q1,pM.put hw q2⟩
theorem VR.up(g:Gr ρ H ρ' H')(v:Val)(x:V)(e:VR K ρ H v x):VR K ρ' H' v x:=VR.nZ g.w v x e
theorem aI.up(g:Gr ρ H ρ' H')(v:List Val)(x:List V)(e:aI K ρ H v x):aI K ρ' H' v x:=aI.nZ g.w v x e
theorem iP.up(g:Gr ρ H ρ' H')(v:List (Key×Val))(x:List (Key×V))(e:iP K ρ H v x):iP K ρ' H' v x:=iP.nZ g.w v x e
theorem pM.up(g:Gr ρ H ρ' H')(v:List (Str×Val))(x:List (Str×V))(e:pM K ρ H v x):pM K ρ' H' v x:=pM.nZ g.w v x e
theorem aI.nil:aI K ρ H [] []:=by rw[aI]
theorem aI.cons{v:Val}{vs:List Val}{x:V}{xs:List V}(a:VR K ρ H v x)(b:aI K ρ H vs xs):aI K ρ H (v::vs) (x::xs):=by rw[aI];exact⟨x,xs,rfl,a,b⟩
theorem aI.length:∀{vs:List Val} {xs:List V},aI K ρ H vs xs->vs.length=xs.length
 |[],xs,e=>by rw[aI]at e;subst e;rfl
 |v::vs,xs,e=>by rw[aI]at e;obtain⟨x,r,rfl,_,q⟩:=e;simp[aI.length q]
theorem aI.get:∀{vs:List Val} {xs:List V} {i:Nat} {v:Val},aI K ρ H vs xs->vs[i]?=some v->∃x,xs[i]?=some x/\VR K ρ H v x
 |[],xs,i,v,e,q=>by simp at q
 | w::vs,xs,0,v,e,q=>by
  rw[aI]at e;obtain⟨x,r,rfl,a,_⟩:=e;simp at q;subst q;exact⟨x,rfl,a⟩
 | w::vs,xs,i+1,v,e,q=>by
  rw[aI]at e;obtain⟨x,r,rfl,_,b⟩:=e;simp at q;obtain⟨y,q1,q2⟩:=aI.get b q;exact⟨y,by simpa using q1,q2⟩
theorem aI.append:∀{vs ws:List Val} {xs ys:List V},aI K ρ H vs xs->aI K ρ H ws ys->aI K ρ H (vs++ws) (xs++ys)
 |[],ws,xs,ys,e,q=>by rw[aI]at e;subst e;exact q
 | w::vs,ws,xs,ys,e,q=>by
  rw[aI]at e;obtain⟨x,r,rfl,a,b⟩:=e;exact aI.cons a (aI.append b q)
theorem aI.take:∀{vs:List Val} {xs:List V} (n:Nat),aI K ρ H vs xs->aI K ρ H (vs.take n) (xs.take n)
 |_,_,0,_=>by simp;exact aI.nil
 |[],xs,n+1,e=>by rw[aI]at e;subst e;simp;exact aI.nil
 | w::vs,xs,n+1,e=>by
  rw[aI]at e;obtain⟨x,r,rfl,a,b⟩:=e;exact aI.cons a (aI.take n b)
theorem aI.drop:∀{vs:List Val} {xs:List V} (n:Nat),aI K ρ H vs xs->aI K ρ H (vs.drop n) (xs.drop n)
 |_,_,0,e=>by simpa using e
 |[],xs,n+1,e=>by rw[aI]at e;subst e;simp;exact aI.nil
 | w::vs,xs,n+1,e=>by
  rw[aI]at e;obtain⟨x,r,rfl,a,b⟩:=e;exact aI.drop n b
theorem aI.cut(lo hi:Option Int)(e:aI K ρ H vs xs):aI K ρ H (dX vs lo hi) (zq xs lo hi):=by
 unfold dX zq;rw[e.length];exact aI.take _ (aI.drop _ e)
theorem aI.oB{i:Int}(e:aI K ρ H vs xs)(q:L2.oB vs i=some v):∃x,L2.oB xs i=some x/\VR K ρ H v x:=by
 unfold L2.oB at q |-;rw[e.length]at q;cases hi:L2.OI xs.length i with
 |none=>rw[hi]at q;cases q
 |some n=>rw[hi]at q;exact aI.get e q
theorem aI.one(e:aI K ρ H [v] xs):∃x,xs=[x]/\VR K ρ H v x:=by
 rw[aI]at e;obtain⟨x,r,rfl,a,b⟩:=e;rw[aI]at b;subst b;exact⟨x,rfl,a⟩
theorem aI.two(e:aI K ρ H [v,w] xs):∃x y,xs=[x,y]/\VR K ρ H v x/\VR K ρ H w y:=by
 rw[aI]at e;obtain⟨x,r,rfl,a,b⟩:=e;obtain⟨y,rfl,c⟩:=aI.one b;exact⟨x,y,rfl,a,c⟩
theorem VR.int{i:Int}:VR K ρ H (.int i) (.int i):=by rw[VR]
theorem VR.str:VR K ρ H (.str i) (.str i):=by rw[VR]
theorem VR.bl{i:Bool}:VR K ρ H (.bl i) (.bl i):=by rw[VR]
theorem VR.non:VR K ρ H .non .non:=by rw[VR]
theorem VR.tup(q:mh K H a xs)(e:aI K ρ H vs xs):VR K ρ H (.tup vs) (.ref a):=by rw[VR];exact⟨a,xs,rfl,q,e⟩
theorem VR.ref{i:Nat}(q:ρ[i]?=some a):VR K ρ H (.ref i) (.ref a):=by rw[VR];exact⟨a,rfl,q⟩
theorem aI.ints:∀{ns:List Int} {xs:List V},aI K ρ H (ns.map Val.int) xs↔xs=ns.map V.int
 |[],xs=>by simp[aI]
 | n::ns,xs=>by
  simp only[map_cons];rw[aI];constructor
  ·rintro⟨x,r,rfl,a,b⟩;rw[VR]at a;subst a;rw[(aI.ints (ns:=ns)).mp b]
  ·rintro rfl;exact⟨_,_,rfl,VR.int,(aI.ints (ns:=ns)).mpr rfl⟩
theorem aI.bools:∀{ns:List Bool} {xs:List V},aI K ρ H (ns.map Val.bl) xs↔xs=ns.map V.bl
 |[],xs=>by simp[aI]
 | n::ns,xs=>by
  simp only[map_cons];rw[aI];constructor
  ·rintro⟨x,r,rfl,a,b⟩;rw[VR]at a;subst a;rw[(aI.bools (ns:=ns)).mp b]
  ·rintro rfl;exact⟨_,_,rfl,VR.bl,(aI.bools (ns:=ns)).mpr rfl⟩
theorem aI.tups:∀{sO:List (List Int)} {xs:List V},aI K ρ H (sO.map oH) xs->∃rs:List (Addr×List Int),xs=rs.map (λr=>V.ref r.1)/\sO=rs.map (·.2)/\∀r∈rs,mh K H r.1 (r.2.map V.int)
 |[],xs,e=>by simp only[map_nil]at e;rw[aI]at e;exact⟨[],e,rfl,λ_ z=>nomatch z⟩
 | ks::sO,xs,e=>by
  simp only[map_cons]at e;rw[aI]at e;obtain⟨x,r,rfl,a,b⟩:=e;obtain⟨rs,e1,e2,e3⟩:=aI.tups b;unfold oH at a;rw[VR]at a;obtain⟨p,ys,rfl,g1,g2⟩:=a;rw[aI.ints.mp g2]at g1;refine⟨(p,ks)::rs,by rw[e1];rfl,by rw[e2];rfl,λr hr=>?_⟩
  rcases aaz.mp hr with z|z
  ·rw[z];exact g1
  ·exact e3 r z
theorem aI.CQ:∀{rs:List (Addr×List Int)},(∀r∈rs,mh K H r.1 (r.2.map V.int))->aI K ρ H ((rs.map (·.2)).map oH) (rs.map λr=>V.ref r.1)
 |[],_=>aI.nil
 |r::rs,e=>aI.cons (VR.tup (e r aam) (aI.ints.mpr rfl)) (aI.CQ λq hq=>e q (aal _ hq))
theorem OR.mu(q:OR B ρ H a o):∃u,H a=some u/\Mu u=true:=by
 cases o with
 |lst xs=>obtain⟨ys,e,_⟩:=q;exact⟨_,e,rfl⟩
 |dct xs=>obtain⟨ys,e,_⟩:=q;exact⟨_,e,rfl⟩
 |ins c fs=>obtain⟨dx,ys,e,_⟩:=q;exact⟨_,e,rfl⟩
theorem HR.mu(r:HR B ρ h H)(e:a ∈ ρ):∃u,H a=some u/\Mu u=true:=by
 obtain⟨i,hi,rfl⟩:=List.getElem_of_mem e;have hi':i<h.length:=by rw[<-r.len];exact hi
 exact(r.ob i _ _ (aaR hi') (aaR hi)).mu
theorem HR.out(r:HR B ρ h H)(e:H p=none):p ∉ ρ:=λz=>by
 obtain⟨u,q,_⟩:=r.mu z;rw[e]at q;cases q
theorem OR.nZ(g:Gw ρ H ρ' H')(e:H' a=H a)(q:OR B ρ H a o):OR B ρ' H' a o:=by
 cases o with
 |lst xs=>obtain⟨ys,e1,e2⟩:=q;exact⟨ys,e.trans e1,aI.nZ g _ _ e2⟩
 |dct xs=>obtain⟨ys,e1,e2⟩:=q;exact⟨ys,e.trans e1,iP.nZ g _ _ e2⟩
 |ins c fs=>obtain⟨dx,ys,e1,e2⟩:=q;exact⟨dx,ys,e.trans e1,pM.nZ g _ _ e2⟩
theorem OR.up(g:Gr ρ H ρ' H')(e:H' a=H a)(q:OR B ρ H a o):OR B ρ' H' a o:=OR.nZ g.w e q
theorem Gr.side(e:H p=none):Gr ρ H ρ (upd H p o) where
 pre:=aaL _
 keep a u q _:=by rw[aA (bf q e)];exact q
 firm a u q _:=by rw[aA (bf q e)];exact q
 fresh a z n:=absurd z n
theorem HR.side(r:HR B ρ h H)(e:H p=none):HR B ρ h (upd H p o) where
 len:=r.len
 nd:=r.nd
 ob i u a q1 q2:=by refine OR.up (Gr.side e) ?_ (r.ob i u a q1 q2);refine aA λz=>?_;subst z;exact r.out e (aaM q2)
theorem Gw.other(e:H p=some u)(hm:Mu u=true):Gw ρ H ρ (upd H p o) where
 pre:=aaL _
 firm a w q n:=by
  have:a≠p:=λz=>by subst z;rw[e]at q;cases q;rw[hm]at n;cases n
  rw[aA this];exact q
theorem HR.other(r:HR B ρ h H)(hp:p ∉ ρ)(e:H p=some u)(hm:Mu u=true):HR B ρ h (upd H p o) where
 len:=r.len
 nd:=r.nd
 ob i w a q1 q2:=OR.nZ (Gw.other e hm) (aA λz=>by subst z;exact hp (aaM q2)) (r.ob i w a q1 q2)
theorem Gr.new(e:H p=none):Gr ρ H (ρ ++ [p]) (upd H p o) where
 pre:=aa7 _ _
 keep a u q _:=by rw[aA (bf q e)];exact q
 firm a u q _:=by rw[aA (bf q e)];exact q
 fresh a z n:=by
  rcases aaT.mp z with z|z
  ·exact absurd z n
  ·rw[aaF.mp z];exact e
theorem HR.new(r:HR B ρ h H)(e:H p=none)(q:OR B (ρ ++ [p]) (upd H p o) p u):HR B (ρ ++ [p]) (h++[u]) (upd H p o) where
 len:=by simp[r.len]
 nd:=by rw[aa5];refine⟨r.nd,by simp,λa ha b hb=>?_⟩;rw[aaF.mp hb];rintro rfl;exact r.out e ha
 ob i v a q1 q2:=by
  by_cases hi:i<h.length
  ·rw[aax hi]at q1;rw[aax (by rw[r.len];exact hi)]at q2;refine OR.up (Gr.new e) (aA λz=>?_) (r.ob i v a q1 q2);subst z;exact r.out e (aaM q2)
  ·rw[aaO (by omega)]at q1
   rw[aaO (by rw[r.len];omega)]at q2;have hi0:i-h.length=0:=by have:=(aao.mp q1).1;simp at this;omega
   rw[hi0]at q1;rw[r.len,hi0]at q2;simp at q1 q2;subst q1;subst q2;exact q
theorem CS(r:HR B ρ h H):VR K (ρ ++ [p]) H' (.ref h.length) (.ref p):=VR.ref (by rw[<-r.len];simp)
theorem OS{α:Type}:∀{l:List α} {i j:Nat} {a:α},l.Nodup->l[i]?=some a->l[j]?=some a->i=j
 |[],i,j,a,_,e,_=>by simp at e
 |b::l,0,0,a,_,_,_=>rfl
 | b::l,0,j+1,a,n,e,f=>by
  simp at e f;subst e;exact absurd (aaM f) (aaS.mp n).1
 | b::l,i+1,0,a,n,e,f=>by
  simp at e f;subst f;exact absurd (aaM e) (aaS.mp n).1
 | b::l,i+1,j+1,a,n,e,f=>by
  simp at e f;rw[OS (aaS.mp n).2 e f]
theorem Gr.put(hp:p ∈ ρ)(e:H p=some u)(hm:Mu u=true):Gr ρ H ρ (upd H p o) where
 pre:=aaL _
 keep a w q n:=by rw[aA λz=>n (by rw[z];exact hp)];exact q
 firm a w q n:=by
  have:a≠p:=λz=>by subst z;rw[e]at q;cases q;rw[hm]at n;cases n
  rw[aA this];exact q
 fresh a z n:=absurd z n
theorem HR.put{i:Nat}(r:HR B ρ h H)(hi:ρ[i]?=some p)(e:h[i]?=some w)(q:OR B ρ (upd H p o) p u):HR B ρ (h.set i u) (upd H p o) where
 len:=by simp[r.len]
 nd:=r.nd
 ob j v a q1 q2:=by
  obtain⟨z,k1,k2⟩:=(r.ob i w p e hi).mu
  by_cases hj:j=i
  ·subst hj;rw[hi]at q2;cases q2;have hlt:j<h.length:=(aao.mp e).1;rw[aat hlt]at q1;cases q1;exact q
  ·rw[aan (λz=>hj z.symm)]at q1;refine OR.up (Gr.put (aaM hi) k1 k2) (aA λz=>?_) (r.ob j v a q1 q2);subst z;exact hj (OS r.nd q2 hi)
theorem fT(r:HR B ρ h H)(q:VR B.K ρ H v x)(e:aB h v=some xs):∃a ys,x=.ref a/\iD B.K H a ys/\aI B.K ρ H xs ys:=by
 cases v with
 |rl vs=>simp only[aB]at e;cases e;rw[VR]at q;obtain⟨a,ys,rfl,k1,k2⟩:=q;exact⟨a,ys,rfl,k1.sq,k2⟩
 |ref i=>
  simp only[aB]at e;split at e
  ·rename_i zs e1;cases e;rw[VR]at q;obtain⟨a,rfl,k1⟩:=q;obtain⟨ys,k2,k3⟩:=r.ob i _ a e1 k1;exact⟨a,ys,rfl,.inl (.inl k2),k3⟩
  ·cases e
 |_=>cases e
theorem sQ{i:Nat}(r:HR B ρ h H)(q:VR B.K ρ H (.ref i) x)(e:h[i]?=some (.lst xs)):∃a ys,x=.ref a /\ ρ[i]?=some a/\H a=some (.lst ys)/\aI B.K ρ H xs ys:=by
 rw[VR]at q;obtain⟨a,rfl,k1⟩:=q;obtain⟨ys,k2,k3⟩:=r.ob i _ a e k1;exact⟨a,ys,rfl,k1,k2,k3⟩
theorem B4(r:HR B ρ h H)(q:VR B.K ρ H v x)(e:dH h v=some xs):∃a ys,x=.ref a/\(iD B.K H a ys\/mh B.K H a ys)/\aI B.K ρ H xs ys:=by
 cases v with
 |tup vs=>simp only[dH]at e;cases e;rw[VR]at q;obtain⟨a,ys,rfl,k1,k2⟩:=q;exact⟨a,ys,rfl,.inr k1,k2⟩
 |rl vs=>obtain⟨a,ys,e1,k1,k2⟩:=fT r q (show aB h (.rl vs)=some xs from e);exact⟨a,ys,e1,.inl k1,k2⟩
 |ref vs=>obtain⟨a,ys,e1,k1,k2⟩:=fT r q (show aB h (.ref vs)=some xs from e);exact⟨a,ys,e1,.inl k1,k2⟩
 |_=>cases e
theorem qE(r:HR B ρ h H):∀(n:Nat) (v:Val) (x:V) (d:PyData),VR B.K ρ H v x->toD n h v=some d->Den B.K H d x/\d.canLay0=true/\d.depth<=n:=by
 intro n
 induction n with
 |zero=>intro v x d _ e;simp only[toD]at e;cases e
 |succ n ih=>
  have all:∀(vs:List Val) (xs:List V) (ds:List PyData),aI B.K ρ H vs xs->bK (toD n h) vs=some ds->fP B.K H ds xs/\PyData.canLayAll0 ds=true/\PyData.depthAll ds<=n:=by
   intro vs
   induction vs with
   |nil=>intro xs ds q e;simp only[bK]at e;cases e;rw[aI]at q;subst q;exact⟨fP.nil,rfl,by simp[PyData.depthAll]⟩
   |cons v vs ihv=>intro xs ds q e;simp only[bK]at e;obtain⟨d,e1,e⟩:=aah.mp e;obtain⟨ds',e2,e⟩:=aah.mp e;cases e;rw[aI]at q;obtain⟨x,r,rfl,q1,q2⟩:=q;obtain⟨a1,a2,a3⟩:=ih v x d q1 e1;obtain⟨b1,b2,b3⟩:=ihv r ds' q2 e2;refine⟨fP.cons a1 b1,by simp[PyData.canLayAll0,a2,b2],?_⟩;simp only[PyData.depthAll];omega
  intro v x d q e;cases v with
  |non=>simp only[toD]at e;cases e;rw[VR]at q;subst q;exact⟨Den.none,rfl,by simp[PyData.depth]⟩
  |bl b=>simp only[toD]at e;cases e;rw[VR]at q;subst q;exact⟨Den.bool,rfl,by simp[PyData.depth]⟩
  |int b=>simp only[toD]at e;cases e;rw[VR]at q;subst q;exact⟨Den.int,rfl,by simp[PyData.depth]⟩
  |str b=>
   simp only[toD]at e;split at e
   ·rename_i hs;cases e;rw[VR]at q;subst q;exact⟨Den.str,by simp[PyData.canLay0,hs],by simp[PyData.depth]⟩
   ·cases e
  |tup vs=>simp only[toD]at e;obtain⟨ds,e1,e⟩:=aah.mp e;cases e;rw[VR]at q;obtain⟨a,xs,rfl,q1,q2⟩:=q;obtain⟨b1,b2,b3⟩:=all vs xs ds q2 e1;exact⟨Den.tuple q1 b1,by simp[PyData.canLay0,b2],by simp only[PyData.depth];omega⟩
  |rl vs=>simp only[toD]at e;obtain⟨ds,e1,e⟩:=aah.mp e;cases e;rw[VR]at q;obtain⟨a,xs,rfl,q1,q2⟩:=q;obtain⟨b1,b2,b3⟩:=all vs xs ds q2 e1;exact⟨Den.list q1.sq b1,by simp[PyData.canLay0,b2],by simp only[PyData.depth];omega⟩
  |dc _ _=>rw[VR]at q;exact q.elim
  |ob _ _ _=>rw[VR]at q;exact q.elim
  |ref i=>simp only[toD]at e;obtain⟨vs,e0,e⟩:=aah.mp e;obtain⟨ds,e1,e⟩:=aah.mp e;cases e;obtain⟨a,xs,rfl,q1,q2⟩:=fT r q e0;obtain⟨b1,b2,b3⟩:=all vs xs ds q2 e1;exact⟨Den.list q1 b1,by simp[PyData.canLay0,b2],by simp only[PyData.depth];omega⟩
end
theorem qF(x:List Int):∀l,(yi x l).Perm (x::l)
 |[]=>.refl _
 | y::r=>by
  unfold yi;split
  ·exact((qF x r).cons y).trans (.swap _ _ _)
  ·exact .refl _
theorem um:∀l,(pK l).Perm l
 |[]=>.refl _
 |x::r=>(qF x _).trans ((um r).cons x)
theorem zP{a b c:List Int}(h1:HT.lexLt b a=false)(h2:HT.lexLt c b=false):HT.lexLt c a=false:=by
 cases e:HT.lexLt c a with
 |false=>rfl
 |true=>
  rcases vD.wC c b a e with z|z
  ·rw[h2]at z;cases z
  ·rw[h1]at z;cases z
theorem zQ{a b:List Int}(h:HT.lexLt a b=true):HT.lexLt b a=false:=by
 cases e:HT.lexLt b a with
 |false=>rfl
 |true=>have:=vD.jJ _ _ _ h e;rw[vD.kZ]at this;cases this
theorem CT(x:List Int):∀l:List (List Int),l.Pairwise (λa b=>HT.lexLt b a=false)->(yi x l).Pairwise (λa b=>HT.lexLt b a=false)
 |[],_=>by simp[yi]
 | y::r,h=>by
  obtain⟨h1,h2⟩:=aa6.mp h;unfold yi
  split
  ·rename_i hlt
   refine aa6.mpr ⟨λz hz=>?_,CT x r h2⟩
   rcases aaz.mp ((qF x r).mem_iff.mp hz) with rfl|hz
   ·exact zQ hlt
   ·exact h1 z hz
  ·rename_i hlt
   refine aa6.mpr ⟨λz hz=>?_,h⟩;have hxy:HT.lexLt y x=false:=by simpa using hlt
   rcases aaz.mp hz with rfl|hz
   ·exact hxy
   ·exact zP hxy (h1 z hz)
theorem zR:∀l,(pK l).Pairwise (λa b=>HT.lexLt b a=false)
 |[]=>.nil
 |x::r=>CT x _ (zR r)
theorem HJ(hp:l.Perm sO)(hs:l.Pairwise (λa b=>HT.lexLt b a=false)):l=pK sO :=
 List.Perm.eq_of_pairwise (λa b _ _ h1 h2=>vD.jI a b h2 h1) hs (zR sO) (hp.trans (um sO).symm)
theorem ES{ns:List Int}{m:Int}(h:m∈ns)(h2:∀a∈ns,m<=a):vJ ns=some (.int m):=by
 cases ns with
 |nil=>cases h
 |cons a r=>
  have key:∀(r:List Int) (a:Int),(r.foldl min a)∈a::r/\∀b∈a::r,r.foldl min a<=b:=by
   intro r
   induction r with
   |nil=>intro a;simp
   |cons c r ih=>
    intro a;obtain⟨q1,q2⟩:=ih (min a c);refine⟨?_,λb hb=>?_⟩
    ·show List.foldl min (min a c) r∈_
     rcases aaz.mp q1 with z|z
     ·rw[z]
      rcases Int.le_total a c with hc|hc
      ·rw[Int.min_eq_left hc];exact aam
      ·rw[Int.min_eq_right hc];exact aal _ aam
     ·exact aal _ (aal _ z)
    ·show List.foldl min (min a c) r<=b
     have q3:=q2 (min a c) aam
     rcases aaz.mp hb with z|z
     ·subst z;omega
     ·rcases aaz.mp z with z|z
      ·subst z;omega
      ·exact q2 b (aal _ z)
  obtain⟨q1,q2⟩:=key r a;show some (Val.int (r.foldl min a))=_;rw[Int.le_antisymm (q2 m h) (h2 _ q1)]
theorem ET{ns:List Int}{m:Int}(h:m∈ns)(h2:∀a∈ns,a<=m):yj ns=some (.int m):=by
 cases ns with
 |nil=>cases h
 |cons a r=>
  have key:∀(r:List Int) (a:Int),(r.foldl max a)∈a::r/\∀b∈a::r,b<=r.foldl max a:=by
   intro r
   induction r with
   |nil=>intro a;simp
   |cons c r ih=>
    intro a;obtain⟨q1,q2⟩:=ih (max a c);refine⟨?_,λb hb=>?_⟩
    ·show List.foldl max (max a c) r∈_
     rcases aaz.mp q1 with z|z
     ·rw[z]
      rcases Int.le_total a c with hc|hc
      ·rw[Int.max_eq_right hc];exact aal _ aam
      ·rw[Int.max_eq_left hc];exact aam
     ·exact aal _ (aal _ z)
    ·show b<=List.foldl max (max a c) r
     have q3:=q2 (max a c) aam
     rcases aaz.mp hb with z|z
     ·subst z;omega
     ·rcases aaz.mp z with z|z
      ·subst z;omega
      ·exact q2 b (aal _ z)
  obtain⟨q1,q2⟩:=key r a;show some (Val.int (r.foldl max a))=_;rw[Int.le_antisymm (h2 _ q1) (q2 m h)]
def Post(B:Bd)(EX:Nat->List V->Hp->Prop)(ρ:List Addr)(H:Hp){α:Type}(W:α -> Hs->List Addr->Hp->Prop):Out α -> Prop
 |.ok a h'=>∀ρ' H',Gr ρ H ρ' H'->HR B ρ' h' H'->W a h' ρ' H'
 |.exc c vs h'=>∀ρ' H' xs,Gr ρ H ρ' H'->HR B ρ' h' H'->aI B.K ρ' H' vs xs->EX c xs H'
 |.no=>False
def WV(K:Frag)(Q:VK):Val->Hs->List Addr->Hp->Prop:=λv _ ρ' H'=>∀x,VR K ρ' H' v x->Q x H'
section
variable {B:Bd} {EX:Nat->List V->Hp->Prop} {ρ ρ':List Addr} {H H':Hp} {α β:Type} {W:β -> Hs->List Addr->Hp->Prop} {h h':Hs} {Q:VK}
theorem Post.up(g:Gr ρ H ρ' H')(p:Post B EX ρ H W o):Post B EX ρ' H' W o:=by
 cases o with
 |ok a h'=>exact λρ2 H2 g2 r=>p ρ2 H2 (g.trans g2) r
 |exc c vs h'=>exact λρ2 H2 xs g2 r=>p ρ2 H2 xs (g.trans g2) r
 |no=>exact p
theorem bg{c:Bool}(p:Post B EX ρ H W (aR c m h)):c=true/\Post B EX ρ H W (m h):=by
 unfold aR at p;split at p
 ·rename_i e;exact⟨e,p⟩
 ·exact p.elim
theorem aC(p:Post B EX ρ H W (bnd (ask f) g h)):∃a,f h=some a/\Post B EX ρ H W (g a h):=by
 unfold bnd ask bB at p;cases e:f h with
 |none=>rw[e]at p;exact p.elim
 |some a=>rw[e]at p;exact⟨a,rfl,p⟩
theorem dY(r:HR B ρ h H)(p:Post B EX ρ H W (ask f h)):∃a,f h=some a/\W a h ρ H:=by
 unfold ask bB at p;cases e:f h with
 |none=>rw[e]at p;exact p.elim
 |some a=>rw[e]at p;exact⟨a,rfl,p ρ H Gr.refl r⟩
theorem ck(p:Post B EX ρ H W (bnd (bB o) g h)):∃a,o=some a/\Post B EX ρ H W (g a h):=by
 unfold bnd bB at p;cases e:o with
 |none=>rw[e]at p;exact p.elim
 |some a=>rw[e]at p;exact⟨a,rfl,p⟩
theorem dg(r:HR B ρ h H)(p:Post B EX ρ H W (bB o h)):∃a,o=some a/\W a h ρ H:=by
 unfold bB at p;cases e:o with
 |none=>rw[e]at p;exact p.elim
 |some a=>rw[e]at p;exact⟨a,rfl,p ρ H Gr.refl r⟩
theorem ai(r:HR B ρ h H)(p:Post B EX ρ H W (ret a h)):W a h ρ H:=p ρ H Gr.refl r
theorem zS(r:HR B ρ h H)(hp:H p=none)(q:OR B (ρ ++ [p]) (upd H p O) p o)(w:Post B EX ρ H (WV B.K Q) (new o h)):Q (.ref p) (upd H p O) :=
 w (ρ ++ [p]) (upd H p O) (Gr.new hp) (r.new hp q) _ (CS r)
theorem dZ(r:HR B ρ h H)(hp:H p=none)(q:aI B.K ρ H xs ys)(w:Post B EX ρ H (WV B.K Q) (new (.lst xs) h)):Q (.ref p) (upd H p (.lst ys)) :=
 zS (o:=.lst xs) (O:=.lst ys) r hp ⟨ys,aW,aI.up (Gr.new hp) _ _ q⟩ w
theorem zT(r:HR B ρ h H)(hp:H p=none)(q:aI B.K ρ H xs ys)(w:Post B EX ρ H (WV B.K Q) (ret (Val.tup xs) h)):Q (.ref p) (upd H p (.tup ys)) :=
 w ρ (upd H p (.tup ys)) (Gr.side hp) (r.side hp) _ (VR.tup (mh.of aW) (aI.up (Gr.side hp) _ _ q))
theorem az(p:Post B EX ρ H W (bnd m f h))(k:∀v h1 ρ1 x H1,Gr ρ H ρ1 H1->HR B ρ1 h1 H1->VR B.K ρ1 H1 v x->Post B EX ρ1 H1 W (f v h1)->Q x H1):Post B EX ρ H (WV B.K Q) (m h):=by
 unfold bnd at p;cases e:m h with
 |ok v h1=>rw[e]at p;exact λρ1 H1 g r x q=>k v h1 ρ1 x H1 g r q (Post.up g p)
 |exc c vs h1=>rw[e]at p;exact p
 |no=>rw[e]at p;exact p
theorem bQ(p:Post B EX ρ H W (bnd m f h))(k:∀v h1 ρ1 H1,Gr ρ H ρ1 H1->HR B ρ1 h1 H1->Post B EX ρ1 H1 W (f v h1)->W' v h1 ρ1 H1):Post B EX ρ H W' (m h):=by
 unfold bnd at p;cases e:m h with
 |ok v h1=>rw[e]at p;exact λρ1 H1 g r=>k v h1 ρ1 H1 g r (Post.up g p)
 |exc c vs h1=>rw[e]at p;exact p
 |no=>rw[e]at p;exact p
end
theorem fF:∀{ds:List Val} {ns:List Int},aX ds=some ns->ds=ns.map .int
 |[],ns,e=>by simp only[aX,bK]at e;cases e;rfl
 | v::r,ns,e=>by
  simp only[aX,bK]at e;obtain⟨i,e1,e⟩:=aah.mp e;obtain⟨is,e2,e⟩:=aah.mp e;cases e;cases v<;>first|cases e1|skip
  rw[fF (show aX r=some is from e2)];rfl
theorem oJ:∀{ds:List Val} {ns:List Bool},bZ ds=some ns->ds=ns.map .bl
 |[],ns,e=>by simp only[bZ,bK]at e;cases e;rfl
 | v::r,ns,e=>by
  simp only[bZ,bK]at e;obtain⟨i,e1,e⟩:=aah.mp e;obtain⟨is,e2,e⟩:=aah.mp e;cases e;cases v<;>first|cases e1|skip
  rw[oJ (show bZ r=some is from e2)];rfl
theorem wV:∀{ds:List Val} {sO:List (List Int)},oj ds=some sO->ds=sO.map oH/\∀ks∈sO,ks≠[]
 |[],ns,e=>by simp only[oj,bK]at e;cases e;exact⟨rfl,λ_ z=>nomatch z⟩
 | v::r,ns,e=>by
  simp only[oj,bK]at e;obtain⟨i,e1,e⟩:=aah.mp e;obtain⟨is,e2,e⟩:=aah.mp e;cases e;cases v<;>first|cases e1|skip
  rename_i vs;dsimp only at e1;split at e1
  ·cases e1
  ·rename_i hne
   obtain⟨q1,q2⟩:=wV (show oj r=some is from e2);have e3:=fF e1;subst e3;refine⟨by rw[q1];rfl,λks hk=>?_⟩
   rcases aaz.mp hk with z|z
   ·subst z;intro z;subst z;exact hne rfl
   ·exact q2 ks z
section
variable {X:Cx} {cl:Nat->Addr} {EX:Nat->List V->Hp->Prop}
abbrev bd(X:Cx)(cl:Nat->Addr):Bd:=⟨X.K,cl⟩
theorem MD:sL X (binaryOp .Add) (λx y H Q=>∃a b xs ys,x=.ref a/\y=.ref b/\iD X.K H a xs/\iD X.K H b ys/\xs.length+ys.length<=sizeLine/\∀p,H p=none->Q (.ref p) (upd H p (.lst (xs++ys)))):=by
 intro pins s σ H x y v u Q I rx ry h;obtain⟨l,l',xs,ys,rfl,rfl,q1,q3,hl,q⟩:=h;cases rx;cases ry;obtain⟨its,r1,pl1,z1⟩:=I.list q1;obtain⟨its',r2,pl2,z2⟩:=I.list q3;have l1:=r1.length;have l2:=r2.length;obtain⟨⟨oc,od,odt,osl⟩,n1,e1,e2,_,e4⟩:=pl1;obtain⟨⟨oc',od',aag,Zr⟩,n2,f1,f2,_,f4⟩:=pl2;cases e2;cases e4;cases f2;cases f4;refine concat_meets ⟨_,e1,rfl⟩ ⟨_,f1,rfl⟩ noFill_list_add seq_list_add PySem.F.slot_list_add PySem.F.entry_list_add (PySem.F.args_list_add_2 _ _) (list_addW l l' its.toArray its'.toArray n1 n2 od od' osl Zr (by simp only[size_toArray];omega)) ⟨e1,f1,?_⟩;have ea:its.toArray++its'.toArray=(its++its').toArray:=by simp
 rw[ea];have hn:H s.heap.objs.size=none:=I.hok.fresh (aaw _);exact⟨.ref s.heap.objs.size,_,I.Y6 (t':=s.toks) (its:=its++its') (r1.append r2) (by rw[aaI];omega),rfl,q _ hn⟩
def HK:ON->Operator
 |.add=>.Add|.sub=>.Sub|.mul=>.Mult|.fdiv=>.FloorDiv|.mod=>.Mod|.pow=>.Pow
def CU:OO->CmpOp
 |.eq=>.Eq|.ne=>.NotEq|.lt=>.Lt|.le=>.LtE|.gt=>.Gt|.ge=>.GtE|.isn=>.Is|.ntn=>.IsNot|.lX=>.In|.nin=>.NotIn
def rB(B:Bd)(EX:Nat->List V->Hp->Prop)(o:ON):R2:=λx y H Q=>∃ρ h v w,HR B ρ h H/\VR B.K ρ H v x/\VR B.K ρ H w y/\Post B EX ρ H (WV B.K Q) (Ui o v w h)
theorem ja.log{j:Int}(h:ja j=true):0<j/\j.natAbs.log2<9000:=by
 have h:=aaK h;refine⟨h.1,(Nat.log2_lt (by omega)).mpr ?_⟩;have e:j.natAbs<2 ^ 200:=by
  have:(2:Nat) ^ 200=1606938044258990275541962092341162602522202993782792835301376:=by decide
  omega
 exact aay e (Nat.pow_le_pow_right (by decide) (by decide))
theorem HL:sL X (binaryOp .FloorDiv) (rI (λ_ j=>ja j=true) λi j=>.int (i/j)):=Yb λi j _ _ _ _ _ hc q=>by
 obtain⟨h1,h2⟩:=ja.log hc;exact PyProof.Rows.floordiv_int (by omega) (by rw[Int.fdiv_eq_ediv_of_nonneg i (by omega)];exact q) (.inl (PyProof.noPylong_of_log2 h2))
theorem uo(ho:o≠.add)(v w:Val)(h:Hs):(∃i j,v=.int i/\w=.int j)\/Ui o v w h=.no:=by
 cases v with
 |int i=>
  cases w with
  |int j=>exact .inl ⟨i,j,rfl,rfl⟩
  |_=>right;cases o<;>first|rfl|exact absurd rfl ho
 |_=>right;cases o<;>first|rfl|exact absurd rfl ho
theorem QB(o:ON):sL X (binaryOp (HK o)) (rB (bd X cl) EX o):=by
 intro pins s σ H x y v' u' Q I rx ry hh;obtain⟨ρ,h,v,w,r,hv,hw,p⟩:=hh;have lists:Post (bd X cl) EX ρ H (WV X.K Q) (bnd (ask λh=>aB h v) (λa=>bnd (ask λh=>aB h w) λb=>aR (decide (a.length+b.length<=sizeLine)) (new (.lst (a++b)))) h)->wpAny (model X.prog X.w) X.A (binaryOp .Add v' u') (EP X pins σ Q) X.xe s:=by intro p;obtain⟨a,e1,p⟩:=aC p;obtain⟨b,e2,p⟩:=aC p;obtain⟨e3,p⟩:=bg p;have e3:=aaK e3;obtain⟨a1,Zs,rfl,k1,k2⟩:=fT r hv e1;obtain⟨a2,ys2,rfl,k3,k4⟩:=fT r hw e2;exact MD pins s σ H _ _ v' u' Q I rx ry ⟨a1,a2,Zs,ys2,rfl,rfl,k1,k3,by rw[<-k2.length,<-k4.length];exact e3,λq hq=>dZ r hq (aI.append k2 k4) p⟩
 cases o with
 |add=>
  cases v<;>cases w<;>first
   |exact lists p
   |skip
  ·rename_i a b;rw[VR]at hv hw;subst hv;subst hw;exact P4 pins s σ H _ _ _ _ Q I rx ry ⟨a,b,rfl,rfl,ai r p _ VR.int⟩
 |sub=>
  rcases uo (o:=.sub) (by intro z;cases z) v w h with ⟨i,j,rfl,rfl⟩|z
  case inr=>rw[z]at p;exact p.elim
  rw[VR]at hv hw;subst hv;subst hw;exact P5 pins s σ H _ _ _ _ Q I rx ry ⟨_,_,rfl,rfl,ai r p _ VR.int⟩
 |mul=>
  rcases uo (o:=.mul) (by intro z;cases z) v w h with ⟨i,j,rfl,rfl⟩|z
  case inr=>rw[z]at p;exact p.elim
  rw[VR]at hv hw;subst hv;subst hw;obtain⟨hm,p⟩:=bg p;refine P6 pins s σ H _ _ _ _ Q I rx ry ⟨_,_,rfl,rfl,?_,ai r p _ VR.int⟩;unfold lO at hm;simp only[or_eq_true,and_eq_true,decide_eq_true_eq]at hm;exact hm
 |fdiv=>
  rcases uo (o:=.fdiv) (by intro z;cases z) v w h with ⟨i,j,rfl,rfl⟩|z
  case inr=>rw[z]at p;exact p.elim
  rw[VR]at hv hw;subst hv;subst hw;obtain⟨hm,p⟩:=bg p;exact HL pins s σ H _ _ _ _ Q I rx ry ⟨_,_,rfl,rfl,hm,ai r p _ VR.int⟩
 |mod=>
  rcases uo (o:=.mod) (by intro z;cases z) v w h with ⟨i,j,rfl,rfl⟩|z
  case inr=>rw[z]at p;exact p.elim
  rw[VR]at hv hw;subst hv;subst hw;obtain⟨hm,p⟩:=bg p;exact P7 pins s σ H _ _ _ _ Q I rx ry ⟨_,_,rfl,rfl,aaK hm,ai r p _ VR.int⟩
 |pow=>
  rcases uo (o:=.pow) (by intro z;cases z) v w h with ⟨i,j,rfl,rfl⟩|z
  case inr=>rw[z]at p;exact p.elim
  rw[VR]at hv hw;subst hv;subst hw;obtain⟨hm,p⟩:=bg p;have hm:=aaK hm;exact P8 pins s σ H _ _ _ _ Q I rx ry ⟨_,_,rfl,rfl,hm,ai r p _ VR.int⟩
end
section
variable {X:Cx} {cl:Nat->Addr} {EX:Nat->List V->Hp->Prop}
theorem zU{b:Bool}(e:zK h v w=some b):∃d f,toD 16 h v=some d/\toD 16 h w=some f/\b=PyData.eqv d f:=by
 unfold zK at e;obtain⟨d,e1,e⟩:=aah.mp e;obtain⟨f,e2,e⟩:=aah.mp e;exact⟨d,f,e1,e2,(aaQ e).symm⟩
theorem CV{K:Frag}{ρ:List Addr}{H:Hp}{v:Val}{x:V}(q:VR K ρ H v x):decide (x=.non)=lP v:=by
 cases v<;>rw[VR]at q
 ·subst q;rfl
 ·subst q;rfl
 ·subst q;rfl
 ·subst q;rfl
 ·obtain⟨a,xs,rfl,_⟩:=q;rfl
 ·obtain⟨a,xs,rfl,_⟩:=q;rfl
 ·exact q.elim
 ·exact q.elim
 ·obtain⟨a,rfl,_⟩:=q;rfl
theorem QC(hu:X.A.units+64<cLine)(neg:Bool):sL X (compareOp (if neg=true then .NotIn else .In)) (λx y H Q=>∃d f ds,Den X.K H d x/\Den X.K H f y/\d.canLay0=true/\f.canLay0=true/\d.depth<=16/\(f=.list ds\/f=.tuple ds)/\Q (.bl (if neg=true then !(ds.any λy=>PyData.eqv y d) else ds.any λy=>PyData.eqv y d)) H):=by
 intro pins s σ H x y v u Q I rx ry hh;obtain⟨d,f,ds,hd,hf,c1,c2,hz,e,q⟩:=hh;obtain⟨as,ra⟩:=Den.reads I d x v c1 hd rx;obtain⟨bs,rb⟩:=Den.reads I f y u c2 hf ry;have Yj:X.A.units+1+min (PyData.depthAll ds) d.depth<cLine:=by have:=Nat.min_le_right (PyData.depthAll ds) d.depth;omega
 rcases e with rfl|rfl
 ·have c3:PyData.canLayAll0 ds=true:=by simpa [PyData.canLay0] using c2
  cases neg with
  |true=>exact SeqAt.notIn_list_reads rb ra c3 c1 Yj ⟨.bl _,H,I,rfl,q⟩
  |false=>exact SeqAt.in_list_reads rb ra c3 c1 Yj ⟨.bl _,H,I,rfl,q⟩
 ·have c3:PyData.canLayAll0 ds=true:=by simpa [PyData.canLay0] using c2
  cases neg with
  |true=>exact SeqAt.notIn_tuple_reads rb ra c3 c1 Yj ⟨.bl _,H,I,rfl,q⟩
  |false=>exact SeqAt.in_tuple_reads rb ra c3 c1 Yj ⟨.bl _,H,I,rfl,q⟩
theorem iP.val{K:Frag}{ρ:List Addr}{H:Hp}(k:Key):∀{kvs:List (Key×Val)} {ks:List (Key×V)},iP K ρ H kvs ks->(dm kvs k=none->gM ks k=none)/\∀v,dm kvs k=some v->∃x,gM ks k=some x/\VR K ρ H v x
 | [],ks,e=>by
  have:ks=[]:=e;subst this;exact⟨λ_=>rfl,λv z=>by simp[dm]at z⟩
 | (k',v')::kvs,ks,⟨x,r,e,q1,q2⟩=>by
  subst e;obtain⟨a,b⟩:=iP.val k q2
  by_cases hk:k'=k
  ·subst hk;refine⟨λz=>by simp[dm]at z,λv z=>⟨x,by simp[gM],?_⟩⟩;simp[dm]at z;subst z;exact q1
  ·have e1:dm ((k',v')::kvs) k=dm kvs k:=by simp[dm,hk]
   have e2:gM ((k',x)::r) k=gM r k:=by simp[gM,hk]
   rw[e1,e2];exact⟨a,b⟩
theorem iP.length{K:Frag}{ρ:List Addr}{H:Hp}:∀{kvs:List (Key×Val)} {ks:List (Key×V)},iP K ρ H kvs ks->kvs.length=ks.length
 |[],ks,e=>by have:ks=[]:=e;subst this;rfl
 |(k',v')::kvs,ks,⟨x,r,e,q1,q2⟩=>by subst e;simp[iP.length q2]
theorem iP.any{K:Frag}{ρ:List Addr}{H:Hp}(k:Key):∀{kvs:List (Key×Val)} {ks:List (Key×V)},iP K ρ H kvs ks->(kvs.any λkv=>decide (kv.1=k))=(ks.any λkv=>decide (kv.1=k))
 |[],ks,e=>by have:ks=[]:=e;subst this;rfl
 |(k',v')::kvs,ks,⟨x,r,e,q1,q2⟩=>by subst e;simp only[any_cons];rw[iP.any k q2]
theorem iP.repl{K:Frag}{ρ:List Addr}{H:Hp}(k:Key){v:Val}{y:V}(q:VR K ρ H v y):∀{kvs:List (Key×Val)} {ks:List (Key×V)},iP K ρ H kvs ks->iP K ρ H (kvs.map λkv=>if kv.1=k then (kv.1,v) else kv) (ks.map λkv=>if kv.1=k then (kv.1,y) else kv)
 |[],ks,e=>by have:ks=[]:=e;subst this;rfl
 | (k',v')::kvs,ks,⟨x,r,e,q1,q2⟩=>by
  subst e;simp only[map_cons]
  by_cases hk:k'=k
  ·rw[aar hk,aar hk];exact⟨y,_,rfl,q,iP.repl k q q2⟩
  ·rw[aas hk,aas hk];exact⟨x,_,rfl,q1,iP.repl k q q2⟩
theorem iP.snoc{K:Frag}{ρ:List Addr}{H:Hp}(k:Key){v:Val}{y:V}(q:VR K ρ H v y):∀{kvs:List (Key×Val)} {ks:List (Key×V)},iP K ρ H kvs ks->iP K ρ H (kvs++[(k,v)]) (ks++[(k,y)])
 |[],ks,e=>by have:ks=[]:=e;subst this;exact⟨y,[],rfl,q,rfl⟩
 |(k',v')::kvs,ks,⟨x,r,e,q1,q2⟩=>by subst e;exact⟨x,_,rfl,q1,iP.snoc k q q2⟩
theorem iP.put{K:Frag}{ρ:List Addr}{H:Hp}(k:Key){v:Val}{y:V}(q:VR K ρ H v y){kvs:List (Key×Val)}{ks:List (Key×V)}(e:iP K ρ H kvs ks):iP K ρ H (jD kvs k v) (putK ks k y):=by
 unfold jD putK;rw[iP.any k e]
 split
 ·exact iP.repl k q e
 ·exact iP.snoc k q e
theorem QD{K:Frag}{ρ:List Addr}{H:Hp}{v:Val}{x:V}{k:Key}(q:VR K ρ H v x)(e:keyOf v=some k):x=kV k:=by
 cases v<;>simp only[keyOf]at e<;>first|cases e|skip
 ·rw[VR]at q;exact q
 ·rw[VR]at q;exact q
theorem ME(hu:X.A.units+64<cLine):Va X (λx y H Q=>∃a v,x=.ref a/\tR H a y (some v)/\Q v H):=by
 intro value slice pins s σ H x y v u Q I rx ry h hs;obtain⟨a,z,rfl,g,q⟩:=h;cases rx;have hT:=rM I g;unfold subscriptTail;refine aai ?_;rw[getitemInPython_of_ne hT.not_modules];refine aai (wpAny_specialOf hT PySem.F.slot_dict_getitem.lookup ?_);have fin:wpAny (model X.prog X.w) X.A (subscripted slice false (.ref a) u) (λr s₃=>wpAny (model X.prog X.w) X.A (letTemporaryGo value (.ref a) r >>= λ_=>pure r) (EP X pins σ Q) X.xe s₃) X.xe s:=by rw[hs];exact wpAny_operating (wm (by omega) I g ry λw' s' I' r'=>aai (wpAny_letTemporaryGo (aaq ⟨z,H,I',r',q⟩)))
 first
  |exact aaq (aai fin)
  |exact aai (aaq (aai fin))
  |exact aai fin
def rC(B:Bd)(o:OO):R2:=λx y H Q=>∃ρ h v w b,HR B ρ h H/\VR B.K ρ H v x/\VR B.K ρ H w y/\cop h o v w=some b/\Q (.bl b) H
theorem HM{b:Bool}(e:memD h v w=some b):∃d f ds,toD 16 h v=some d/\toD 16 h w=some f/\(f=.list ds\/f=.tuple ds)/\b=ds.any λy=>PyData.eqv y d:=by
 unfold memD at e;obtain⟨f,e1,e⟩:=aah.mp e;obtain⟨d,e2,e⟩:=aah.mp e;cases f<;>simp only[Vz]at e<;>first|cases e|skip
 ·exact⟨d,_,_,e2,e1,.inl rfl,rfl⟩
 ·exact⟨d,_,_,e2,e1,.inr rfl,rfl⟩
theorem HN(hu:X.A.units+64<cLine)(o:OO):sL X (compareOp (CU o)) (rC (bd X cl) o):=by
 intro pins s σ H x y v' u' Q I rx ry hh;obtain⟨ρ,h,v,w,b,r,hv,hw,e,q⟩:=hh;have mem:∀(neg:Bool),zL h v w=some (if neg=true then !b else b)->wpAny (model X.prog X.w) X.A (compareOp (if neg=true then .NotIn else .In) v' u') (EP X pins σ Q) X.xe s:=by
  intro neg e;obtain⟨d,f,ds,e1,e2,e3,eb⟩:=HM e
  ·obtain⟨a1,a2,a3⟩:=qE r 16 v x d hv e1
   obtain⟨b1,b2,b3⟩:=qE r 16 w y f hw e2;refine QC hu neg pins s σ H x y v' u' Q I rx ry ⟨d,f,ds,a1,b1,a2,b2,a3,e3,?_⟩;cases neg with
   |true=>rw[aar rfl]at eb |-;rw[<-eb,Bool.not_not];exact q
   |false=>rw[aas aaj]at eb |-;rw[<-eb];exact q
 cases o with
 |eq=>obtain⟨d,f,e1,e2,rfl⟩:=zU (show zK h v w=some b by exact e);obtain⟨a1,a2,a3⟩:=qE r 16 v x d hv e1;obtain⟨b1,b2,b3⟩:=qE r 16 w y f hw e2;exact Qw hu pins s σ H x y v' u' Q I rx ry ⟨d,f,a1,b1,a2,b2,by omega,q⟩
 |ne=>have e':(zK h v w).map (!·)=some b:=e;obtain⟨c,e3,rfl⟩:=aaY.mp e';obtain⟨d,f,e1,e2,rfl⟩:=zU e3;obtain⟨a1,a2,a3⟩:=qE r 16 v x d hv e1;obtain⟨b1,b2,b3⟩:=qE r 16 w y f hw e2;exact Qx hu pins s σ H x y v' u' Q I rx ry ⟨d,f,a1,b1,a2,b2,by omega,q⟩
 |lt=>obtain⟨i,j,rfl,rfl⟩:=mH (.inl rfl) e;cases e;rw[VR]at hv;rw[VR]at hw;subst hv;subst hw;exact UZ pins s σ H _ _ v' u' Q I rx ry ⟨_,_,rfl,rfl,q⟩
 |le=>obtain⟨i,j,rfl,rfl⟩:=mH (.inr (.inl rfl)) e;cases e;rw[VR]at hv;rw[VR]at hw;subst hv;subst hw;exact U0 pins s σ H _ _ v' u' Q I rx ry ⟨_,_,rfl,rfl,q⟩
 |gt=>obtain⟨i,j,rfl,rfl⟩:=mH (.inr (.inr (.inl rfl))) e;cases e;rw[VR]at hv;rw[VR]at hw;subst hv;subst hw;exact U3 pins s σ H _ _ v' u' Q I rx ry ⟨_,_,rfl,rfl,q⟩
 |ge=>obtain⟨i,j,rfl,rfl⟩:=mH (.inr (.inr (.inr rfl))) e;cases e;rw[VR]at hv;rw[VR]at hw;subst hv;subst hw;exact U4 pins s σ H _ _ v' u' Q I rx ry ⟨_,_,rfl,rfl,q⟩
 |isn=>
  have e:OP v w=some b:=e;cases w<;>first|(cases e;done)|skip
  ·cases e;rw[VR]at hw;subst hw;refine P9 pins s σ H x _ v' u' Q I rx ry ⟨rfl,?_⟩;rw[CV hv];exact q
 |ntn=>
  have e:(OP v w).map (!·)=some b:=e;cases w<;>first|(cases e;done)|skip
  ·cases e;rw[VR]at hw;subst hw;refine L3 pins s σ H x _ v' u' Q I rx ry ⟨rfl,?_⟩;rw[CV hv];exact q
 |lX=>exact mem false (by rw[aas aaj];exact e)
 |nin=>have e':(zL h v w).map (!·)=some b:=e;obtain⟨c,e3,rfl⟩:=aaY.mp e';exact mem true (by rw[e3];simp)
theorem HP{b:Bool}(r:HR B ρ h H)(q:VR B.K ρ H v x)(e:dI h v=some b):L6 B.K x H b:=by
 cases v with
 |non=>rw[VR]at q;subst q;exact(aaQ e).symm
 |bl c=>rw[VR]at q;subst q;exact(aaQ e).symm
 |int i=>rw[VR]at q;subst q;exact(aaQ e).symm
 |str z=>
  rw[VR]at q;subst q;simp only[dI]at e;split at e
  ·rename_i hl;exact⟨hl,(aaQ e).symm⟩
  ·cases e
 |tup vs=>rw[VR]at q;obtain⟨a,xs,rfl,q1,q2⟩:=q;refine .inr (.inl ⟨xs,q1,?_⟩);rw[<-aaQ e];have:=q2.length;cases vs<;>cases xs<;>simp_all
 |rl vs=>rw[VR]at q;obtain⟨a,xs,rfl,q1,q2⟩:=q;refine .inl ⟨xs,q1.sq,?_⟩;rw[<-aaQ e];have:=q2.length;cases vs<;>cases xs<;>simp_all
 |dc _ _=>rw[VR]at q;exact q.elim
 |ob _ _ _=>rw[VR]at q;exact q.elim
 |ref i=>
  rw[VR]at q;obtain⟨a,rfl,q1⟩:=q;simp only[dI]at e;split at e
  ·rename_i vs e1;obtain⟨xs,k1,k2⟩:=r.ob i _ a e1 q1;refine .inl ⟨xs,.inl (.inl k1),?_⟩;rw[<-aaQ e];have:=k2.length;cases vs<;>cases xs<;>simp_all
  ·rename_i vs e1;obtain⟨xs,k1,k2⟩:=r.ob i _ a e1 q1;refine .inr (.inr ⟨xs,k1,?_⟩);rw[<-aaQ e];have:=k2.length;cases vs<;>cases xs<;>simp_all
  ·cases e
def Zt(B:Bd):R2:=λx y H Q=>∃ρ h v w z,HR B ρ h H/\VR B.K ρ H v x/\VR B.K ρ H w y/\iu h v w=some z/\∀u,VR B.K ρ H z u->Q u H
theorem QE(hu:X.A.units+64<cLine):Va X (Zt (bd X cl)):=by
 intro value slice pins s σ H x y v' u' Q I rx ry hh hs;obtain⟨ρ,h,v,w,z,r,hv,hw,e,q⟩:=hh;cases v with
 |tup vs=>
  cases w<;>first|cases e|skip
  rename_i i;rw[VR]at hv;rw[VR]at hw;subst hw;obtain⟨a,xs,rfl,q1,q2⟩:=hv;obtain⟨t,e2,q3⟩:=aI.oB q2 e;exact Qi value slice pins s σ H _ _ v' u' Q I rx ry ⟨a,xs,i,t,rfl,rfl,q1,e2,q _ q3⟩ hs
 |rl vs=>
  cases w<;>first|cases e|skip
  rename_i i;rw[VR]at hv;rw[VR]at hw;subst hw;obtain⟨a,xs,rfl,q1,q2⟩:=hv;obtain⟨t,e2,q3⟩:=aI.oB q2 e;exact CF value slice pins s σ H _ _ v' u' Q I rx ry ⟨a,xs,i,t,rfl,rfl,q1.sq,e2,q _ q3⟩ hs
 |ref j=>
  cases w with
  |int i=>
   change (match h[j]? with|some (.dct kvs)=>dm kvs (.inl i)|_=>(aB h (.ref j)).bind λxs=>oB xs i)=some z at e;split at e
   ·rename_i kvs e1;rw[VR]at hv;obtain⟨a,rfl,q1⟩:=hv;obtain⟨ks,k1,k2⟩:=r.ob j _ a e1 q1;obtain⟨t,e2,q3⟩:=(iP.val (.inl i) k2).2 z e;have g:tR H a (kV (.inl i)) (gM ks (.inl i)):=tR.k k1;rw[e2]at g;rw[VR]at hw;subst hw;exact ME hu value slice pins s σ H _ _ v' u' Q I rx ry ⟨a,t,rfl,g,q _ q3⟩ hs
   ·obtain⟨vs,e1,e⟩:=aah.mp e;obtain⟨a,xs,rfl,q1,q2⟩:=fT r hv e1;rw[VR]at hw;subst hw;obtain⟨t,e2,q3⟩:=aI.oB q2 e;exact CF value slice pins s σ H _ _ v' u' Q I rx ry ⟨a,xs,i,t,rfl,rfl,q1,e2,q _ q3⟩ hs
  |_=>cases e
 |dc _ _=>rw[VR]at hv;exact hv.elim
 |_=>cases w<;>cases e
def rSl(B:Bd)(EX:Nat->List V->Hp->Prop):V->Option Int->Option Int->Hp->VK->Prop:=λx lo hi H Q=>∃ρ h v,HR B ρ h H/\VR B.K ρ H v x/\Post B EX ρ H (WV B.K Q) (vK v lo hi h)
theorem QF:Yc X (rSl (bd X cl) EX):=by
 intro pins s σ H x v' vl vu lo hi sl Q I rx hs pl pu hh;obtain⟨ρ,h,v,r,hv,p⟩:=hh;have lists:Post (bd X cl) EX ρ H (WV X.K Q) (bnd (ask λh=>aB h v) (λxs=>new (.lst (dX xs lo hi))) h)->∃T id,typeLookup (.type T) "__getitem__" = pure (some (.builtin id))/\s.TypeIs v' T/\wpAny (model X.prog X.w) X.A (getItem v' (.ref sl)) (EP X pins σ Q) X.xe s:=by intro p;obtain⟨a,e1,p⟩:=aC p;obtain⟨a1,Zs,rfl,k1,k2⟩:=fT r hv e1;exact Mh pins s σ H _ v' vl vu lo hi sl Q I rx hs pl pu ⟨a1,Zs,rfl,k1,λq hq=>dZ r hq (aI.cut lo hi k2) p⟩
 cases v with
 |tup vs=>simp only[vK]at p;rw[VR]at hv;obtain⟨a,xs,rfl,q1,q2⟩:=hv;obtain⟨e,p⟩:=bg p;refine Qh pins s σ H _ v' vl vu lo hi sl Q I rx hs pl pu ⟨a,xs,rfl,q1,?_,λq hq=>zT r hq (aI.cut lo hi q2) p⟩;rw[<-q2.length];simp only[not_eq_true',Bool.and_eq_false_iff,decide_eq_false_iff_not]at e;rintro⟨z1,z2⟩;exact e.elim (λk=>k z1) λk=>k z2
 |_=>exact lists p
end
end Hv
end
section
set_option backward.match.sparseCases false
namespace Hv
open PySem L2 PyProof.Rows
section
variable {X:Cx} {cl:Nat->Addr} {EX:Nat->List V->Hp->Prop}
def LJ(B:Bd)(EX:Nat->List V->Hp->Prop)(b:Bl):List V->Hp->VK->Prop:=λxs H Q=>∃ρ h vs,HR B ρ h H/\aI B.K ρ H vs xs/\Post B EX ρ H (WV B.K Q) (blt b vs h)
theorem QG:cS X (.builtin "len") (LJ (bd X cl) EX .len):=by
 intro pins s σ H xs us Q I rr hh;obtain⟨ρ,h,vs,r,hv,p⟩:=hh
 match vs,p with
 |[v],p=>
  obtain⟨n,e,p⟩:=aC p;obtain⟨x,rfl,hx⟩:=aI.one hv;have fin:=ai r p _ VR.int;cases v with
  |tup vs=>simp only[pL]at e;cases e;rw[VR]at hx;obtain⟨a,ys,rfl,q1,q2⟩:=hx;refine L2.tL pins s σ H _ us Q I rr ⟨_,ys.length,rfl,.inr ⟨ys,q1,rfl⟩,?_⟩;rw[<-q2.length];exact fin
  |rl vs=>simp only[pL]at e;cases e;rw[VR]at hx;obtain⟨a,ys,rfl,q1,q2⟩:=hx;refine L2.tL pins s σ H _ us Q I rr ⟨_,ys.length,rfl,.inl ⟨ys,q1.sq,rfl⟩,?_⟩;rw[<-q2.length];exact fin
  |dc _ _=>rw[VR]at hx;exact hx.elim
  |ob _ _ _=>rw[VR]at hx;exact hx.elim
  |ref i=>
   rw[VR]at hx;obtain⟨a,rfl,q1⟩:=hx;simp only[pL]at e;split at e
   ·rename_i vs e1;cases e;obtain⟨ys,k1,k2⟩:=r.ob i _ a e1 q1;refine L2.tL pins s σ H _ us Q I rr ⟨_,ys.length,rfl,.inl ⟨ys,.inl (.inl k1),rfl⟩,?_⟩;rw[<-k2.length];exact fin
   ·rename_i vs e1;cases e;obtain⟨ks,k1,k2⟩:=r.ob i _ a e1 q1;refine EC pins s σ H _ us Q I rr ⟨a,ks,rfl,k1,?_⟩;rw[<-k2.length];exact fin
   ·cases e
  |_=>simp only[pL]at e;cases e
theorem QH(hc:X.calm=true):cS X (.builtin "min") (LJ (bd X cl) EX .min):=by
 intro pins s σ H xs us Q I rr hh;obtain⟨ρ,h,vs,r,hv,p⟩:=hh;have seq:∀v,vs=[v]->Post (bd X cl) EX ρ H (WV X.K Q) (bnd (ask λh=>dH h v) (λxs=>bB ((aX xs).bind vJ)) h)->wpAny (model X.prog X.w) X.A (call (.builtin "min") us) (EP X pins σ Q) X.xe s:=by
  rintro v rfl p;obtain⟨zs,e,p⟩:=aC p;obtain⟨x,rfl,hx⟩:=aI.one hv;obtain⟨a,ys,rfl,q1,q2⟩:=B4 r hx e;obtain⟨m,e1,p⟩:=dg r p;obtain⟨ns,e2,e3⟩:=aah.mp e1;rw[fF e2]at q2;rw[aI.ints.mp q2]at q1;have hne:0<ns.length:=by cases ns with|nil=>cases e3|cons _ _=>simp
  refine yf hc pins s σ H _ us Q I rr ⟨a,ns,rfl,q1,hne,λm hm hmin=>?_⟩;rw[ES hm hmin]at e3;cases e3;exact p _ VR.int
 match vs,p with
 |[.int a,.int b],p=>obtain⟨x,y,rfl,hx,hy⟩:=aI.two hv;rw[VR]at hx;rw[VR]at hy;subst hx;subst hy;exact Es hc pins s σ H _ us Q I rr ⟨a,b,rfl,ai r p _ VR.int⟩
 |[v],p=>exact seq v rfl (by cases v<;>exact p)
theorem QI(hc:X.calm=true):cS X (.builtin "max") (LJ (bd X cl) EX .max):=by
 intro pins s σ H xs us Q I rr hh;obtain⟨ρ,h,vs,r,hv,p⟩:=hh;have seq:∀v,vs=[v]->Post (bd X cl) EX ρ H (WV X.K Q) (bnd (ask λh=>dH h v) (λxs=>bB ((aX xs).bind yj)) h)->wpAny (model X.prog X.w) X.A (call (.builtin "max") us) (EP X pins σ Q) X.xe s:=by
  rintro v rfl p;obtain⟨zs,e,p⟩:=aC p;obtain⟨x,rfl,hx⟩:=aI.one hv;obtain⟨a,ys,rfl,q1,q2⟩:=B4 r hx e;obtain⟨m,e1,p⟩:=dg r p;obtain⟨ns,e2,e3⟩:=aah.mp e1;rw[fF e2]at q2;rw[aI.ints.mp q2]at q1;have hne:0<ns.length:=by cases ns with|nil=>cases e3|cons _ _=>simp
  refine yg hc pins s σ H _ us Q I rr ⟨a,ns,rfl,q1,hne,λm hm hmin=>?_⟩;rw[ET hm hmin]at e3;cases e3;exact p _ VR.int
 match vs,p with
 |[.int a,.int b],p=>obtain⟨x,y,rfl,hx,hy⟩:=aI.two hv;rw[VR]at hx;rw[VR]at hy;subst hx;subst hy;exact Er hc pins s σ H _ us Q I rr ⟨a,b,rfl,ai r p _ VR.int⟩
 |[v],p=>exact seq v rfl (by cases v<;>exact p)
theorem EU:cS X (.builtin "sorted") (LJ (bd X cl) EX .sorted):=by
 intro pins s σ H xs us Q I rr hh;obtain⟨ρ,h,vs,r,hv,p⟩:=hh
 match vs,p with
 |[v],p=>
  obtain⟨zs,e,p⟩:=aC p;obtain⟨out,e1,p⟩:=ck p;obtain⟨x,rfl,hx⟩:=aI.one hv;obtain⟨a,ys,rfl,q1,q2⟩:=fT r hx e;unfold gO at e1;split at e1
  ·rename_i h64
   cases e2:aX zs with
   |some ns=>rw[e2]at e1;cases e1;rw[fF e2]at q2 h64;rw[aI.ints.mp q2]at q1;rw[aak]at h64;exact qB pins s σ H _ us Q I rr ⟨a,ns,rfl,q1,h64,λl hl=>dZ r hl (aI.ints.mpr rfl) p⟩
   |none=>rw[e2]at e1;obtain⟨sO,e3,e4⟩:=aah.mp e1;cases e4;obtain⟨g1,g2⟩:=wV e3;rw[g1]at q2 h64;obtain⟨rs,r1,r2,r3⟩:=aI.tups q2;rw[r1]at q1;rw[aak,r2,aak]at h64;refine qC pins s σ H _ us Q I rr ⟨a,rs,rfl,q1,h64,λp hp=>⟨r3 p hp,g2 _ (by rw[r2];exact aaC hp)⟩,λl qs hl hp hs=>?_⟩;have e4:qs.map (·.2)=pK sO:=HJ (by rw[r2];exact hp.map _) (abv.mpr hs);rw[<-e4]at p;exact dZ r hl (aI.CQ λz hz=>r3 z (hp.mem_iff.mp hz)) p
  ·cases e1
theorem MF:cS X (.type "list") (LJ (bd X cl) EX .list):=by
 intro pins s σ H xs us Q I rr hh;obtain⟨ρ,h,vs,r,hv,p⟩:=hh
 match vs,p with
 |[v],p=>obtain⟨zs,e,p⟩:=aC p;obtain⟨x,rfl,hx⟩:=aI.one hv;obtain⟨a,ys,rfl,q1,q2⟩:=B4 r hx e;exact x9 pins s σ H _ us Q I rr ⟨a,ys,rfl,q1,λl hl=>dZ r hl q2 p⟩
theorem HQ:cS X (.type "tuple") (LJ (bd X cl) EX .tuple):=by
 intro pins s σ H xs us Q I rr hh;obtain⟨ρ,h,vs,r,hv,p⟩:=hh;exact(show False from p).elim
theorem QJ:cS X (.type "str") (LJ (bd X cl) EX .str):=by
 intro pins s σ H xs us Q I rr hh;obtain⟨ρ,h,vs,r,hv,p⟩:=hh;exact(show False from p).elim
theorem QK:cS X (.type "int") (LJ (bd X cl) EX .int):=by
 intro pins s σ H xs us Q I rr hh;obtain⟨ρ,h,vs,r,hv,p⟩:=hh
 match vs,p with
 |[.int i],p=>obtain⟨x,rfl,hx⟩:=aI.one hv;rw[VR]at hx;subst hx;exact v5 pins s σ H _ us Q I rr (.inl ⟨i,rfl,ai r p _ VR.int⟩)
 |[.bl i],p=>obtain⟨x,rfl,hx⟩:=aI.one hv;rw[VR]at hx;subst hx;exact v5 pins s σ H _ us Q I rr (.inr ⟨i,rfl,ai r p _ VR.int⟩)
theorem QL(hc:X.calm=true):cS X (.builtin "all") (LJ (bd X cl) EX .all):=by
 intro pins s σ H xs us Q I rr hh;obtain⟨ρ,h,vs,r,hv,p⟩:=hh
 match vs,p with
 |[v],p=>obtain⟨zs,e,p⟩:=aC p;obtain⟨bs,e1,p⟩:=ck p;obtain⟨x,rfl,hx⟩:=aI.one hv;obtain⟨a,ys,rfl,q1,q2⟩:=fT r hx e;rw[oJ e1]at q2;rw[aI.bools.mp q2]at q1;exact vF hc pins s σ H _ us Q I rr ⟨a,bs,rfl,q1,ai r p _ VR.bl⟩
theorem QM(hc:X.calm=true):cS X (.builtin "any") (LJ (bd X cl) EX .any):=by
 intro pins s σ H xs us Q I rr hh;obtain⟨ρ,h,vs,r,hv,p⟩:=hh
 match vs,p with
 |[v],p=>obtain⟨zs,e,p⟩:=aC p;obtain⟨bs,e1,p⟩:=ck p;obtain⟨x,rfl,hx⟩:=aI.one hv;obtain⟨a,ys,rfl,q1,q2⟩:=fT r hx e;rw[oJ e1]at q2;rw[aI.bools.mp q2]at q1;exact vG hc pins s σ H _ us Q I rr ⟨a,bs,rfl,q1,ai r p _ VR.bl⟩
def rIs(B:Bd)(EX:Nat->List V->Hp->Prop)(T:String):List V->Hp->VK->Prop:=λxs H Q=>∃ρ h v x,xs=[x,.ty T]/\HR B ρ h H/\VR B.K ρ H v x/\Post B EX ρ H (WV B.K Q) (blt (.isin T) [v] h)
theorem MG(K:Frag)(t T:String)(ht:t∈["NoneType","bool","int","str","list","tuple","dict"])(hT:T∈["list","tuple","str","bool","int","dict"]) :
  kitOne K (.type t) (.type T)=some (decide (T=t\/(T = "int" /\ t = "bool"))):=by
 simp only[mem_cons,not_mem_nil,or_false]at ht hT
 rcases ht with rfl|rfl|rfl|rfl|rfl|rfl|rfl<;>rcases hT with rfl|rfl|rfl|rfl|rfl|rfl<;>rfl
theorem MH{T:String}:cS X (.builtin "isinstance") (rIs (bd X cl) EX T):=by
 intro pins s σ H xs us Q I rr hh;obtain⟨ρ,h,v,x,rfl,r,hx,p⟩:=hh;obtain⟨u,w',rfl,r1,r2⟩:=vals2 rr;cases r2;obtain⟨t,e,p⟩:=aC p;obtain⟨b,e1,p⟩:=ck p;have q:=ai r p _ VR.bl;unfold zN at e1;split at e1
 ·rename_i hT'
  have hT:T∈["list","tuple","str","bool","int","dict"]:=by simpa using hT'
  cases e1;have fin:∀tk,EP X pins σ Q (.bool (decide (T=t\/(T = "int" /\ t = "bool")))) { s with toks:=tk }:=λtk=>⟨.bl _,H,I.tok _,rfl,q⟩;have tab:=λht=>MG X.K t T ht hT;cases v with
  |non=>rw[VR]at hx;subst hx;cases r1;simp only[zM]at e;cases e;exact abF PySem.W.kitx_none I.sI abI (tab (by simp)) (λz=>nomatch z) fin
  |bl c=>rw[VR]at hx;subst hx;cases r1;simp only[zM]at e;cases e;exact abF PySem.W.kitx_bool I.sI abI (tab (by simp)) (λz=>nomatch z) fin
  |int i=>rw[VR]at hx;subst hx;obtain⟨t',rfl⟩:=r1;simp only[zM]at e;cases e;exact abF PySem.W.kitx_int I.sI abI (tab (by simp)) (λz=>nomatch z) fin
  |str i=>rw[VR]at hx;subst hx;obtain⟨t',rfl⟩:=r1;simp only[zM]at e;cases e;exact abF PySem.W.kitx_str I.sI abI (tab (by simp)) (λz=>nomatch z) fin
  |tup vs=>rw[VR]at hx;obtain⟨a,ys,rfl,q1,_⟩:=hx;cases r1;simp only[zM]at e;cases e;obtain⟨_,_,⟨o,e1,e2,_⟩,_⟩:=I.tuple q1;exact abF PySem.W.kitx_tuple I.sI ⟨o,e1,e2⟩ (tab (by simp)) (λz=>nomatch z) fin
  |rl vs=>rw[VR]at hx;obtain⟨a,ys,rfl,q1,_⟩:=hx;cases r1;simp only[zM]at e;cases e;obtain⟨_,_,⟨o,n,e1,e2,_⟩,_⟩:=I.list q1.sq;exact abF kitx_list I.sI ⟨o,e1,e2⟩ (tab (by simp)) (λz=>nomatch z) fin
  |dc _ _=>rw[VR]at hx;exact hx.elim
  |ob _ _ _=>rw[VR]at hx;exact hx.elim
  |ref i=>
   rw[VR]at hx;obtain⟨a,rfl,q1⟩:=hx;cases r1;simp only[zM]at e;split at e
   ·rename_i vs e1;cases e;obtain⟨ys,k1,k2⟩:=r.ob i _ a e1 q1;obtain⟨_,_,⟨o,n,e1,e2,_⟩,_⟩:=I.list (xs:=ys) (.inl (.inl k1));exact abF kitx_list I.sI ⟨o,e1,e2⟩ (tab (by simp)) (λz=>nomatch z) fin
   ·rename_i vs e1;cases e;obtain⟨ks,k1,k2⟩:=r.ob i _ a e1 q1;obtain⟨_,_,vs,_,p⟩:=(show cj X.prog X.w H s.heap a (.dK ks) from I.hok a _ k1);obtain⟨o,es,ep,h1,h2,_⟩:=p;exact abF PySem.W.kitx_dict I.sI ⟨o,h1,h2.1⟩ (tab (by simp)) (λz=>nomatch z) fin
   ·cases e
 ·cases e1
def Yk(B:Bd)(EX:Nat->List V->Hp->Prop)(m:Me):V->List V->Hp->VK->Prop:=λx xs H Q=>∃ρ h v vs,HR B ρ h H/\VR B.K ρ H v x/\aI B.K ρ H vs xs/\Post B EX ρ H (WV B.K Q) (met m v vs h)
theorem MI:Ug X "str.join" (Yk (bd X cl) EX .join):=by
 intro pins s σ H x xs u us Q I ru rr hh;obtain⟨ρ,h,v,vs,r,hv,hvs,p⟩:=hh;exact(show False from p).elim
theorem uq{i:Nat}(r:HR B ρ h H)(hi:ρ[i]?=some a)(e:h[i]?=some u)(eU:H a=some U)(hm:Mu U=true)(q:OR B ρ (upd H a O) a o)
  (p:Post B EX ρ H (WV B.K Q) (bnd (put i o) (λ_=>ret Val.non) h)):Q .non (upd H a O) :=
 p ρ (upd H a O) (Gr.put (aaM hi) eU hm) (r.put hi e q) _ VR.non
theorem EW:Ug X "list.append" (Yk (bd X cl) EX .append):=by
 intro pins s σ H x xs v' us Q I rx rv hh;obtain⟨ρ,h,v,vs,r,hv,hvs,p⟩:=hh
 match v,vs,p with
 |.ref i,[w],p=>
  obtain⟨zs,e,p⟩:=aC p;split at e
  ·rename_i zs' e1;cases e;obtain⟨e2,p⟩:=bg p;obtain⟨a,ys,rfl,q0,q1,q2⟩:=sQ r hv e1;obtain⟨y,rfl,hy⟩:=aI.one hvs;refine we pins s σ H _ _ v' us Q I rx rv ⟨a,ys,y,rfl,rfl,q1,by rw[<-q2.length];exact aaK e2,?_⟩;have g:Gr ρ H ρ (upd H a (.lst (ys++[y]))):=Gr.put (aaM q0) q1 rfl;exact uq (o:=.lst (zs++[w])) r q0 e1 q1 rfl ⟨_,aW,aI.append (aI.up g _ _ q2) (aI.up g _ _ (aI.cons hy aI.nil))⟩ p
  ·cases e
theorem EY:Ug X "list.extend" (Yk (bd X cl) EX .extend):=by
 intro pins s σ H x xs v' us Q I rx rv hh;obtain⟨ρ,h,v,vs,r,hv,hvs,p⟩:=hh
 match v,vs,p with
 |.ref i,[w],p=>
  obtain⟨zs,e,p⟩:=aC p;split at e
  ·rename_i zs' e1;cases e
   obtain⟨ws,e3,p⟩:=aC p;obtain⟨e2,p⟩:=bg p;have e2:=aaK e2;obtain⟨a,ys,rfl,q0,q1,q2⟩:=sQ r hv e1;obtain⟨y,rfl,hy⟩:=aI.one hvs;have fin:∀(bs:List V),aI X.K ρ H ws bs->Q .non (upd H a (.lst (ys++bs))):=λbs hb=>by
    have g:Gr ρ H ρ (upd H a (.lst (ys++bs))):=Gr.put (aaM q0) q1 rfl;exact uq (o:=.lst (zs++ws)) r q0 e1 q1 rfl ⟨_,aW,aI.append (aI.up g _ _ q2) (aI.up g _ _ hb)⟩ p
   cases w with
   |tup ts=>simp only[CO]at e3;cases e3;rw[VR]at hy;obtain⟨b,bs,rfl,k1,k2⟩:=hy;exact BS pins s σ H _ _ v' us Q I rx rv ⟨a,b,ys,bs,rfl,rfl,q1,k1,by rw[<-q2.length,<-k2.length];exact e2,fin bs k2⟩
   |_=>simp only[CO]at e3;cases e3
  ·cases e
end
def om(f:Str->Pos->Bool):Expr->Bool
 |.Name a b=>f a b
 |_=>false
theorem jK{f:Str->Pos->Bool}{P:Expr->Prop}{e:Expr}(h:om f e=true)(H:∀a b,f a b=true->P (.Name a b)):P e:=by
 cases e<;>first|exact H _ _ h|exact(aaj h).elim
def B5(f:Const->Nat->Pos->Bool):Expr->Bool
 |.Constant a b c=>f a b c
 |_=>false
theorem zV{f:Const->Nat->Pos->Bool}{P:Expr->Prop}{e:Expr}(h:B5 f e=true)(H:∀a b c,f a b c=true->P (.Constant a b c)):P e:=by
 cases e<;>first|exact H _ _ _ h|exact(aaj h).elim
def VC(f:Expr->Operator->Expr->Pos->Bool):Expr->Bool
 |.BinOp a b c d=>f a b c d
 |_=>false
theorem QN{f:Expr->Operator->Expr->Pos->Bool}{P:Expr->Prop}{e:Expr}(h:VC f e=true)(H:∀a b c d,f a b c d=true->P (.BinOp a b c d)):P e:=by
 cases e<;>first|exact H _ _ _ _ h|exact(aaj h).elim
def Zu(f:UnaryOp->Expr->Pos->Bool):Expr->Bool
 |.UnaryOp a b c=>f a b c
 |_=>false
theorem OT{f:UnaryOp->Expr->Pos->Bool}{P:Expr->Prop}{e:Expr}(h:Zu f e=true)(H:∀a b c,f a b c=true->P (.UnaryOp a b c)):P e:=by
 cases e<;>first|exact H _ _ _ h|exact(aaj h).elim
def VD(f:Expr->List CmpOp->List Expr->Pos->Bool):Expr->Bool
 |.Compare a b c d=>f a b c d
 |_=>false
theorem QO{f:Expr->List CmpOp->List Expr->Pos->Bool}{P:Expr->Prop}{e:Expr}(h:VD f e=true)(H:∀a b c d,f a b c d=true->P (.Compare a b c d)):P e:=by
 cases e<;>first|exact H _ _ _ _ h|exact(aaj h).elim
def yk(f:BoolOp->List Expr->Pos->Bool):Expr->Bool
 |.BoolOp a b c=>f a b c
 |_=>false
theorem wW{f:BoolOp->List Expr->Pos->Bool}{P:Expr->Prop}{e:Expr}(h:yk f e=true)(H:∀a b c,f a b c=true->P (.BoolOp a b c)):P e:=by
 cases e<;>first|exact H _ _ _ h|exact(aaj h).elim
def VE(f:List Expr->Nat->Pos->Bool):Expr->Bool
 |.Tuple a b c=>f a b c
 |_=>false
theorem QS{f:List Expr->Nat->Pos->Bool}{P:Expr->Prop}{e:Expr}(h:VE f e=true)(H:∀a b c,f a b c=true->P (.Tuple a b c)):P e:=by
 cases e<;>first|exact H _ _ _ h|exact(aaj h).elim
def VF(f:List Expr->Pos->Bool):Expr->Bool
 |.List a b=>f a b
 |_=>false
theorem QT{f:List Expr->Pos->Bool}{P:Expr->Prop}{e:Expr}(h:VF f e=true)(H:∀a b,f a b=true->P (.List a b)):P e:=by
 cases e<;>first|exact H _ _ h|exact(aaj h).elim
def HS(f:Expr->Expr->Pos->Bool):Expr->Bool
 |.Subscript a b c=>f a b c
 |_=>false
theorem yl{f:Expr->Expr->Pos->Bool}{P:Expr->Prop}{e:Expr}(h:HS f e=true)(H:∀a b c,f a b c=true->P (.Subscript a b c)):P e:=by
 cases e<;>first|exact H _ _ _ h|exact(aaj h).elim
def VG(f:Option Expr->Option Expr->Option Expr->Pos->Bool):Expr->Bool
 |.Slice a b c d=>f a b c d
 |_=>false
theorem QU{f:Option Expr->Option Expr->Option Expr->Pos->Bool}{P:Expr->Prop}{e:Expr}(h:VG f e=true)(H:∀a b c d,f a b c d=true->P (.Slice a b c d)):P e:=by
 cases e<;>first|exact H _ _ _ _ h|exact(aaj h).elim
def HU(f:Expr->List Expr->List Keyword->Pos->Bool):Expr->Bool
 |.Call a b c d=>f a b c d
 |_=>false
theorem CW{f:Expr->List Expr->List Keyword->Pos->Bool}{P:Expr->Prop}{e:Expr}(h:HU f e=true)(H:∀a b c d,f a b c d=true->P (.Call a b c d)):P e:=by
 cases e<;>first|exact H _ _ _ _ h|exact(aaj h).elim
def CY(f:Expr->Str->Pos->Bool):Expr->Bool
 |.Attribute a b c=>f a b c
 |_=>false
theorem ym{f:Expr->Str->Pos->Bool}{P:Expr->Prop}{e:Expr}(h:CY f e=true)(H:∀a b c,f a b c=true->P (.Attribute a b c)):P e:=by
 cases e<;>first|exact H _ _ _ h|exact(aaj h).elim
def HV(f:Expr->List Comprehension->Scope->Pos->Bool):Expr->Bool
 |.ListComp a b c d=>f a b c d
 |_=>false
theorem CZ{f:Expr->List Comprehension->Scope->Pos->Bool}{P:Expr->Prop}{e:Expr}(h:HV f e=true)(H:∀a b c d,f a b c d=true->P (.ListComp a b c d)):P e:=by
 cases e<;>first|exact H _ _ _ _ h|exact(aaj h).elim
def HW(f:List (Option Expr)->List Expr->Pos->Bool):Expr->Bool
 |.Dict a b c=>f a b c
 |_=>false
theorem C0{f:List (Option Expr)->List Expr->Pos->Bool}{P:Expr->Prop}{e:Expr}(h:HW f e=true)(H:∀a b c,f a b c=true->P (.Dict a b c)):P e:=by
 cases e<;>first|exact H _ _ _ h|exact(aaj h).elim
section
variable {α:Type} {f:α -> Bool} {g:α -> List α -> Bool} {P:List α -> Prop} {Q:Option α -> Prop} {l:List α} {b:Bool} {o:Option α}
def vL(l:List α)(b:Bool):Bool:=l.isEmpty&&b
theorem mJ(h:vL l b=true)(H:b=true->P []):P l:=by
 cases l with
 |nil=>exact H h
 |cons _ _=>cases h
def kC(f:α -> List α -> Bool):List α -> Bool
 |a::r=>f a r
 |[]=>false
theorem B6(h:kC g l=true)(H:∀a r,g a r=true->P (a::r)):P l:=by
 cases l with
 |nil=>cases h
 |cons a r=>exact H a r h
def k1(f:α -> Bool):List α -> Bool:=kC λa r=>vL r (f a)
theorem oK(h:k1 f l=true)(H:∀a,f a=true->P [a]):P l:=by
 apply B6 h;intro a r h;apply mJ h;intro h;exact H a h
def k2(f:α -> α -> Bool):List α -> Bool:=kC λa r=>k1 (f a) r
theorem VH{f:α -> α -> Bool}(h:k2 f l=true)(H:∀a b,f a b=true->P [a,b]):P l:=by
 apply B6 h;intro a r h;apply oK h;intro b h;exact H a b h
def HX(l:Option α)(b:Bool):Bool:=l.isNone&&b
theorem C1(h:HX o b=true)(H:b=true->Q none):Q o:=by
 cases o with
 |none=>exact H h
 |some _=>cases h
def HY(f:α -> Bool)(l:Option α):Bool:=l.any f
theorem C2(h:HY f o=true)(H:∀a,f a=true->Q (some a)):Q o:=by
 cases o with
 |none=>cases h
 |some a=>exact H a h
def QV[DecidableEq α](a b:α)(c:Bool):Bool:=decide (a=b)&&c
theorem zW[DecidableEq α]{P:α -> Prop}{a d:α}(h:QV a d b=true)(H:b=true->P d):P a:=by
 rw[QV,and_eq_true,abc]at h;rw[h.1];exact H h.2
end
def LK(f:Str->Pos->List Expr->Pos->Bool):Expr->Bool:=HU λg l k p=>om (λx q=>vL k (f x q l p)) g
theorem oq{f:Str->Pos->List Expr->Pos->Bool}{P:Expr->Prop}{e:Expr}(h:LK f e=true)(H:∀x q l p,f x q l p=true->P (.Call (.Name x q) l [] p)):P e:=by
 apply CW h;intro g l k p h;apply jK h;intro x q h;apply mJ h;intro h;exact H x q l p h
def VI(f:Expr->Str->Pos->List Expr->Pos->Bool):Expr->Bool:=HU λg l k p=>CY (λo x q=>vL k (f o x q l p)) g
theorem C3{f:Expr->Str->Pos->List Expr->Pos->Bool}{P:Expr->Prop}{e:Expr}(h:VI f e=true)(H:∀o x q l p,f o x q l p=true->P (.Call (.Attribute o x q) l [] p)):P e:=by
 apply CW h;intro g l k p h;apply ym h;intro o x q h;apply mJ h;intro h;exact H o x q l p h
def QW(f:Expr->Expr->List Expr->Int->Bool)(c:Comprehension):Bool:=f c.target c.iter c.ifs c.is_async
theorem HZ{f:Expr->Expr->List Expr->Int->Bool}{P:Comprehension->Prop}{c:Comprehension}(h:QW f c=true)(H:∀a b d i,f a b d i=true->P ⟨a,b,d,i⟩):P c:=by
 cases c;exact H _ _ _ _ h
def VJ(f:Str->Bool):Const->Bool
 |.str s=>f s
 |_=>false
theorem QX{f:Str->Bool}{P:Const->Prop}{e:Const}(h:VJ f e=true)(H:∀s,f s=true->P (.str s)):P e:=by
 cases e<;>first|exact H _ h|exact(aaj h).elim
theorem kOr{a b:Bool}(h:(a||b)=true):a=true\/b=true:=by
 cases a with
 |true=>exact .inl rfl
 |false=>exact .inr h
def Ia(f:Expr->Pos->Bool):Stmt->Bool
 |.Expr a b=>f a b
 |_=>false
theorem C4{f:Expr->Pos->Bool}{P:Stmt->Prop}{e:Stmt}(h:Ia f e=true)(H:∀a b,f a b=true->P (.Expr a b)):P e:=by
 cases e<;>first|exact H _ _ h|exact(aaj h).elim
def MJ(f:List Expr->Expr->Pos->Bool):Stmt->Bool
 |.Assign a b c=>f a b c
 |_=>false
theorem B7{f:List Expr->Expr->Pos->Bool}{P:Stmt->Prop}{e:Stmt}(h:MJ f e=true)(H:∀a b c,f a b c=true->P (.Assign a b c)):P e:=by
 cases e<;>first|exact H _ _ _ h|exact(aaj h).elim
def Zv(f:Expr->Operator->Expr->Pos->Bool):Stmt->Bool
 |.AugAssign a b c d=>f a b c d
 |_=>false
def jIf(f:Expr->List Stmt->List Stmt->Pos->Bool):Stmt->Bool
 |.If a b c d=>f a b c d
 |_=>false
theorem VL{f:Expr->List Stmt->List Stmt->Pos->Bool}{P:Stmt->Prop}{e:Stmt}(h:jIf f e=true)(H:∀a b c d,f a b c d=true->P (.If a b c d)):P e:=by
 cases e<;>first|exact H _ _ _ _ h|exact(aaj h).elim
def VM(f:Expr->Expr->List Stmt->List Stmt->Pos->Bool):Stmt->Bool
 |.For a b c d i=>f a b c d i
 |_=>false
theorem QY{f:Expr->Expr->List Stmt->List Stmt->Pos->Bool}{P:Stmt->Prop}{e:Stmt}(h:VM f e=true)(H:∀a b c d i,f a b c d i=true->P (.For a b c d i)):P e:=by
 cases e<;>first|exact H _ _ _ _ _ h|exact(aaj h).elim
def QZ(f:Expr->List Stmt->List Stmt->Pos->Bool):Stmt->Bool
 |.While a b c d=>f a b c d
 |_=>false
def Q0(f:Option Expr->Pos->Bool):Stmt->Bool
 |.Return a b=>f a b
 |_=>false
theorem Ib{f:Option Expr->Pos->Bool}{P:Stmt->Prop}{e:Stmt}(h:Q0 f e=true)(H:∀a b,f a b=true->P (.Return a b)):P e:=by
 cases e<;>first|exact H _ _ h|exact(aaj h).elim
def VN(f:Pos->Bool):Stmt->Bool
 |.Break a=>f a
 |_=>false
theorem Q2{f:Pos->Bool}{P:Stmt->Prop}{e:Stmt}(h:VN f e=true)(H:∀a,f a=true->P (.Break a)):P e:=by
 cases e<;>first|exact H _ h|exact(aaj h).elim
def VO(f:Pos->Bool):Stmt->Bool
 |.Continue a=>f a
 |_=>false
theorem Q3{f:Pos->Bool}{P:Stmt->Prop}{e:Stmt}(h:VO f e=true)(H:∀a,f a=true->P (.Continue a)):P e:=by
 cases e<;>first|exact H _ h|exact(aaj h).elim
def OU(f:Pos->Bool):Stmt->Bool
 |.Pass a=>f a
 |_=>false
theorem MK{f:Pos->Bool}{P:Stmt->Prop}{e:Stmt}(h:OU f e=true)(H:∀a,f a=true->P (.Pass a)):P e:=by
 cases e<;>first|exact H _ h|exact(aaj h).elim
def VP(f:Nat->Bool):IE->Bool
 |.var i=>f i
 |_=>false
theorem Q4{f:Nat->Bool}{P:IE->Prop}{e:IE}(h:VP f e=true)(H:∀i,f i=true->P (.var i)):P e:=by
 cases e<;>first|exact H _ h|exact(aaj h).elim
end Hv
end
section
namespace Hv
open PySem L2 PyProof.Rows
structure Tb where
 nc:Nat
 ML:List Str
 MM:List (Nat×Str×Nat)
 Q5:List (Str×Str×Nat)
 isc:List (Str×List Bool)
structure sS where
 N:List Str
 sc:Scope
 fns:List (Str×Nat)
 cons:List (Str×Val)
 tb:Tb
def vM(sc:Scope)(x:Str):Bool:=(sc.names.lookup x==some .local||sc.names.lookup x==some .cell||sc.names.lookup x==some .free) && !(x==("__debug__":Str)) && !(x==("__classdict__":Str))
def C5(sc:Scope)(x:Str):Bool:=sc.names.lookup x==some .globalImplicit && !(x==("__debug__":Str)) && !(x==("__name__":Str))
def Ic:Const->Val->Bool
 |.none,.non=>true
 |.bool a,.bl b=>a==b
 |.int a,.int b=>a==b
 |.str a,.str b=>a==b
 |_,_=>false
def Q6(o:ON)(op:Operator):Bool:=decide (op=HK o)
def VQ(o:OO)(op:CmpOp):Bool:=decide (op=CU o)
def VS:Bl->Str
 |.len=>"len" | .min=>"min" | .max=>"max" | .sorted=>"sorted" | .list=>"list" | .tuple=>"tuple" | .str=>"str" | .int=>"int" | .all=>"all" | .any=>"any" | .isin _=>"isinstance"
def noStar:Expr->Bool
 |.Starred ..=>false
 |_=>true
def sU:Expr->Bool
 |.Slice ..=>false
 |_=>true
def MN:Expr->Bool
 |.Name ..=>true|.Call ..=>true|.Subscript ..=>true|.List ..=>true|.Tuple ..=>true|.ListComp ..=>true|.Attribute ..=>true|.BinOp ..=>true
 |_=>false
def superB:Expr->Bool
 |.Call (.Name _ _) [] [] _=>false
 |_=>true
def OV(scope xsc:Scope):Scope :=
 { scope with names:=scope.names.map λ(n,k)=>if (k==.free&&xsc.kind==.function&&xsc.names.lookup n==some .cell) then (n,.cell) else (n,k) }
def sS.y9(Γ:sS)(scope:Scope)(N':List Str):sS:={ Γ with N:=N',sc:=OV scope Γ.sc }
def zX(Γ:sS):B3->Expr->Bool
 |.one i,.Name x _=>Γ.N[i]?==some x && Γ.sc.names.lookup x==some .local
 | .tup is,.Tuple es _ _=>es.length==is.length&&(is.zip es).all λp=>match p.2 with
  |.Name x _=>Γ.N[p.1]?==some x && Γ.sc.names.lookup x==some .local
  |_=>false
 |_,_=>false
def zY:B3->List Nat
 |.one i=>[i]
 |.tup is=>is
def meN:Me->Str
 |.join=>"join" | .append=>"append" | .extend=>"extend"
def B8:Val->Val->Bool
 |.non,.non=>true
 |.bl a,.bl b=>a==b
 |.int a,.int b=>a==b
 |.str a,.str b=>a==b
 |_,_=>false
def OW(Γ:sS)(N':List Str)(js:List (Option Nat))(p q i:Nat):Expr->Bool:=HV λe1 q1 scope _=>HS (λl r _=>om (λy3 _=>om (λy4 _=>k1 (QW λtg iter ifs ia=>om (λt tp=>om (λdn _=>vL ifs (
  ia==0&&iI Γ.N Γ.sc scope N' js&&decide (N'.Nodup)&&zX (Γ.y9 scope N') (.one p) (.Name t tp)&&js[p]?==some none&&js[q]?==some (some i)&&p != q &&
   (N'[q]?==some y3&&vM (Γ.y9 scope N').sc y3)&&(N'[p]?==some y4&&vM (Γ.y9 scope N').sc y4)&&(Γ.N[i]?==some dn&&vM Γ.sc dn))) iter) tg) q1) r) l) e1
def Q7:pJ->Bool
 |.nil=>true
 |.cons ..=>false
theorem Ie{b:Bool}(h:(Q7 es&&b)=true):es=.nil/\b=true:=by
 cases es with
 |nil=>exact⟨rfl,h⟩
 |cons _ _=>cases h
mutual
noncomputable def bN(Γ:sS):IE->Expr->Bool
 |.var i,e=>om (λx _=>Γ.N[i]?==some x&&vM Γ.sc x) e
 |.cst d,e=>B5 (λc _ _=>Ic c d) e
 |.con x d,e=>om (λy _=>x==y&&C5 Γ.sc x && Γ.cons.any λp=>p.1==x&&B8 p.2 d) e
 |.no,_=>false
 |.bin o a b,e=>VC (λl op r _=>Q6 o op&&bN Γ a l&&bN Γ b r) e
 |.neg a,e=>Zu (λq1 l _=>QV q1 .USub (bN Γ a l)) e
 |.cmp o a b,e=>VD (λl q1 q2 _=>k1 (λop=>k1 (λr=>VQ o op && !behindInMarks op r&&bN Γ a l&&bN Γ b r) q2) q1) e
 |.chn _ _ _ _ _,_=>false
 |.and a b,e=>yk (λq1 q2 pos=>QV q1 .And (kC (λl q3=>kC (λm r=>bN Γ a l&&(match r with|[]=>bN Γ b m|n::r'=>bN Γ b (.BoolOp .And (m::n::r') pos))) q3) q2)) e
 |.or a b,e=>yk (λq1 q2 pos=>QV q1 .Or (kC (λl q3=>kC (λm r=>bN Γ a l&&(match r with|[]=>bN Γ b m|n::r'=>bN Γ b (.BoolOp .Or (m::n::r') pos))) q3) q2)) e
 |.not a,e=>Zu (λq1 l _=>QV q1 .Not (bN Γ a l)) e
 |.ite _ _ _,_=>false
 |.tup es,e=>VE (λls _ _=>aY Γ es ls) e
 |.lst es,e=>VF (λls _=>aY Γ es ls) e
 |.idx a b,e=>HS (λl r _=>sU r&&bN Γ a l&&bN Γ b r) e
 |.slc a lo hi,e=>HS (λl q1 _=>VG (λl' h' q2 _=>HX q2 (bN Γ a l&&(match l' with|none=>eW lo|some e=>!eW lo&&bN Γ lo e)&&(match h' with|none=>eW hi|some e=>!eW hi&&bN Γ hi e))) q1) e
 |.call j es,e=>LK (λx _ args _=>C5 Γ.sc x && Γ.fns[j]?==some (x,args.length)&&decide (args.length<1000)&&aY Γ es args) e
 | .blt b es,e=>LK (λx _ args _=>C5 Γ.sc x&&x==VS b&&(match b with
   |.isin T=>(match args with|[a,.Name y _]=>C5 Γ.sc y&&y==(T:Str)&&["list","tuple","str","bool","int","dict"].contains T&&aY Γ es [a]|_=>false)
   |_=>!args.isEmpty&&aY Γ es args)) e
 |.met m a es,e=>VI (λo x ap args cp=>x==meN m&&superB o && !args.isEmpty&&decide (args.length<29)&&ap.endLine==cp.line&&bN Γ a o&&aY Γ es args) e
 | .comp N' js pat k it c elt,e=>HV (λe q1 scope _=>k1 (λq2=>QW (λtg iter ifs q3=>QV q3 0 (iI Γ.N Γ.sc scope N' js&&C6 Γ k it iter&&decide (N'.Nodup)&&zX (Γ.y9 scope N') pat tg&&((zY pat).all λi=>js[i]?==some none)&&(match k,pat with|.enum,.one _=>false|.zip,.one _=>false|_,_=>true) &&
   (match ifs with|[]=>eW c|[t]=>!eW c&&bN (Γ.y9 scope N') c t|_=>false)&&bN (Γ.y9 scope N') elt e)) q2) q1) e
 |.dct0,e=>HW (λq1 q2 _=>vL q1 (vL q2 (true))) e
 |.sset a,e=>LK (λx _ q1 _=>k1 (λq2=>LK (λy _ q3 _=>k1 (λl=>x==("sorted":Str)&&y==("set":Str)&&C5 Γ.sc x&&C5 Γ.sc y&&noStar l&&bN Γ a l) q3) q2) q1) e
 |.dget d k x,e=>VI (λo m ap q1 cp=>k2 (λa b=>m==("get":Str)&&superB o&&noStar a&&noStar b&&ap.endLine==cp.line&&bN Γ d o&&bN Γ k a&&bN Γ x b) q1) e
 |.dct1 k v,e=>HW (λq1 q2 _=>k1 (λq3=>HY (λa=>k1 (λb=>bN Γ k a&&bN Γ v b) q2) q3) q1) e
 |.lkeys d,e=>LK (λx _ q1 _=>k1 (λq2=>om (λy q=>x==("list":Str)&&C5 Γ.sc x&&bN Γ d (.Name y q)) q2) q1) e
 |.sdef _ _ _,_=>false
 |.svals a,e=>VI (λo m ap q cp=>vL q (m==("clear":Str)&&superB o&&ap.endLine==cp.line&&bN Γ a o)) e
 |.skeys a,e=>LK (λx _ q1 _=>k1 (λq2=>LK (λy _ q3 _=>k1 (λl=>x==("len":Str)&&y==("set":Str)&&C5 Γ.sc x&&C5 Γ.sc y&&noStar l&&bN Γ a l) q3) q2) q1) e
 |.fld n a x,e=>CY (λo y _=>x==y&&superB o&&n == Γ.tb.nc && Γ.tb.ML.contains x&&bN Γ a o) e
 |.rev _ _,_=>false
 |.dflt N' js p q d _,e=>VP (λi=>OW Γ N' js p q i e) d
 |.isc _ _ _,_=>false
 |.mth a m js es,e=>VI (λo x ap args cp=>x==m&&superB o&&decide (args.length<29)&&ap.endLine==cp.line&&(js.all λp=>decide (p.1 < Γ.tb.nc) && Γ.tb.MM.contains (p.1,m,p.2)&&(match Γ.fns[p.2]? with|some (_,n)=>n==1001+args.length|none=>false))&&bN Γ a o&&aY Γ es args) e
noncomputable def aY(Γ:sS):pJ->List Expr->Bool
 |.nil,ls=>ls.isEmpty
 | .cons e es,ls=>match ls with
  |l::ls=>noStar l&&bN Γ e l&&aY Γ es ls
  |[]=>false
noncomputable def C6(Γ:sS)(k:Ik):pJ->Expr->Bool
 |.nil,_=>false
 | .cons e es,l=>match k with
  |.seq=>Q7 es&&(MN l&&bN Γ e l)
  |.range=>LK (λx _ as _=>kC (λa args=>x==("range":Str)&&C5 Γ.sc x&&noStar a&&bN Γ e a&&aY Γ es args&&decide (args.length<2)) as) l
  |.enum=>false
  |.zip=>(match es with|.cons e2 Vr=>Q7 Vr&&LK (λx _ as _=>k2 (λa b=>x==("zip":Str)&&C5 Γ.sc x&&noStar a&&bN Γ e a&&noStar b&&bN Γ e2 b) as) l|_=>false)
end
abbrev Fn:=Nat->List Val->M Val
def eE(K:Frag)(ρ:List Addr)(env:Env)(σ:L2.St)(H:Hp):Prop:=∀(i:Nat) (v:Val),env[i]?=some (some v)->∃x,σ[i]?=some (some x)/\VR K ρ H v x
theorem eE.nZ{K:Frag}{ρ ρ':List Addr}{env:Env}{σ:L2.St}{H H':Hp}(e:eE K ρ env σ H)(g:Gw ρ H ρ' H'):eE K ρ' env σ H':=λi v q=>by
 obtain⟨x,q1,q2⟩:=e i v q;exact⟨x,q1,VR.nZ g v x q2⟩
theorem eE.up{K:Frag}{ρ ρ':List Addr}{env:Env}{σ:L2.St}{H H':Hp}(e:eE K ρ env σ H)(g:Gr ρ H ρ' H'):eE K ρ' env σ H':=e.nZ g.w
def WVs(K:Frag)(Q:List V->Hp->Prop):List Val->Hs->List Addr->Hp->Prop:=λvs _ ρ' H'=>∀xs,aI K ρ' H' vs xs->Q xs H'
def WT(Q:Bool->Hp->Prop):Bool->Hs->List Addr->Hp->Prop:=λb _ _ H'=>Q b H'
def Uj(Φ:Fn)(ir:IE)(env:Env):M Bool:=bnd (aN Φ ir env) λx=>ask λh=>dI h x
def tV(Φ:Fn)(B:Bd)(EX:Nat->List V->Hp->Prop)(ir:IE):TE:=λσ H Q=>∃ρ env h,eE B.K ρ env σ H/\HR B ρ h H/\Post B EX ρ H (WV B.K Q) (aN Φ ir env h)
def tVs(Φ:Fn)(B:Bd)(EX:Nat->List V->Hp->Prop)(fU:pJ):TA:=λσ H Q=>∃ρ env h,eE B.K ρ env σ H/\HR B ρ h H/\Post B EX ρ H (WVs B.K Q) (bu Φ fU env h)
def tT(Φ:Fn)(B:Bd)(EX:Nat->List V->Hp->Prop)(ir:IE):TT:=λσ H Q=>∃ρ env h,eE B.K ρ env σ H/\HR B ρ h H/\Post B EX ρ H (WT Q) (Uj Φ ir env h)
theorem _root_.L2.PE.imp(h:PE X e t)(i:∀σ H Q,t' σ H Q->t σ H Q):PE X e t':=λpins s σ H Q I hw=>h pins s σ H Q I (i σ H Q hw)
theorem _root_.L2.PT.imp(h:PT X e t)(i:∀σ H Q,t' σ H Q->t σ H Q):PT X e t':=λpins s σ H Q I hw=>h pins s σ H Q I (i σ H Q hw)
theorem _root_.L2.PA.imp(h:PA X es t)(i:∀σ H Q,t' σ H Q->t σ H Q):PA X es t':=λpos pins s σ H Q I hw=>h pos pins s σ H Q I (i σ H Q hw)
theorem _root_.L2.PO.imp(h:PO X e t)(i:∀σ H Q,t' σ H Q->t σ H Q):PO X e t':=λpins s σ H Q I hw=>h pins s σ H Q I (i σ H Q hw)
theorem _root_.L2.PI.imp(h:PI X tg iter t)(i:∀σ H R,t' σ H R->t σ H R):PI X tg iter t':=λpins s σ H R I hw=>h pins s σ H R I (i σ H R hw)
theorem bw{α β γ:Type}(m:M α)(f:α -> M β)(g:β -> M γ):bnd (bnd m f) g=bnd m λx=>bnd (f x) g:=by
 funext h;show (match (match m h with|.ok a h'=>f a h'|.exc c vs h'=>.exc c vs h'|.no=>.no) with|.ok a h'=>g a h'|.exc c vs h'=>.exc c vs h'|.no=>.no)=(match m h with|.ok a h'=>bnd (f a) g h'|.exc c vs h'=>.exc c vs h'|.no=>.no);cases m h<;>rfl
theorem dJ{α β:Type}(a:α)(f:α -> M β):bnd (ret a) f=f a:=rfl
def yo(B:Bd)(n:Nat)(φ:List Val->M Val):Sp:=λxs H Q _=>∃ρ h vs,vs.length=n/\HR B ρ h H/\aI B.K ρ H vs xs/\Post B (λ_ _ _=>False) ρ H (WV B.K Q) (φ vs h)
def Uk(P:Program)(w:World)(B:Bd)(mg:Str->Option Value)(base:Heap)(k:Nat)(j:Nat)(x:Str)(n:Nat)(φ:List Val->M Val):Prop :=
 (n<1000/\((∃(f:Addr) (fd:FuncData) (ps:List Str),ps.length=n/\mg x=some (.ref f)/\keepIn B.K (.ref f)=true/\Binds B.K fd ps []/\gK P w B.K mg base BK k f fd ps (yo B n φ)) \/
  ∃(c:Nat) (f:Addr) (fd:FuncData) (ps:List Str) (φ0:List Val->M Val),φ = OQ c φ0/\ps.length=n+1/\mg x=some (.ref (B.cl c))/\Mk B.K (B.cl c) f/\Binds B.K fd ps []/\gK P w B.K mg base BK k f fd ps (yo B (n+1) φ0))) \/
 (1000<=n/\∃(fd:FuncData) (ps:List Str),ps.length=n-1000/\Binds B.K fd ps []/\gK P w B.K mg base BK k (B.cl (1000+j)) fd ps (yo B (n-1000) φ))
def bltNames:List Str:=["len","min","max","sorted","list","tuple","str","all","any","isinstance","range","enumerate","int","bool","dict","set","zip"]
structure Ctx (Φ:Fn) (Γ:sS) (k:Nat) (X:Cx) (cl:Nat->Addr) (EX:Nat->List V->Hp->Prop):Prop where
 N:X.N = Γ.N
 sc:X.env.scope = Γ.sc
 calm:X.calm=true
 room:fO (k+1) X.A
 o9:∀c xs H,¬ EX c xs H
 fns:∀j x n,Γ.fns[j]?=some (x,n)->Uk X.prog X.w (bd X cl) X.mg X.base k j x n (Φ j)
 cls:∀c,c < Γ.tb.nc->Gd X.K (cl c)/\∀x ∈ Γ.tb.ML,mq X.K (cl c) x
 MM:∀p ∈ Γ.tb.MM,Meth X.K (cl p.1) p.2.1 (cl (1000+p.2.2))
 Q5:∀p ∈ Γ.tb.Q5,∃C,X.mg p.1=some (.ref C)/\Vy X.K C p.2.1 (cl (1000+p.2.2))
 isc:∀p ∈ Γ.tb.isc,∃C,X.mg p.1=some (.ref C)/\∀c b,p.2[c]?=some b->TyI X.K (cl c)/\kitOne X.K (.ref (cl c)) (.ref C)=some b
 cons:∀p ∈ Γ.cons,∃v u,X.mg p.1=some u/\RelV v u/\∀K ρ H,VR K ρ H p.2 v
 blt:∀x∈bltNames,X.mg x=none
section
variable {Φ:Fn} {Γ:sS} {k:Nat} {X:Cx} {cl:Nat->Addr} {EX:Nat->List V->Hp->Prop}
theorem Ctx.units(c:Ctx Φ Γ k X cl EX):X.A.units+64<cLine:=c.room.units
theorem Ctx.vis(c:Ctx Φ Γ k X cl EX)(h:vM Γ.sc x=true):X3 X.env.scope x/\(x==("__debug__":Str))=false/\(x==("__classdict__":Str))=false:=by
 unfold vM at h;simp only[and_eq_true,or_eq_true,beq_iff_eq,not_eq_true']at h;obtain⟨⟨h1,h2⟩,h3⟩:=h;refine⟨?_,h2,h3⟩;unfold X3;rw[c.sc]
 rcases h1 with (z|z)|z
 ·exact .inl z
 ·exact .inr (.inl z)
 ·exact .inr (.inr z)
theorem Ctx.gl(c:Ctx Φ Γ k X cl EX)(h:C5 Γ.sc x=true):Gl X x/\(x==("__debug__":Str))=false/\x ≠ "__name__":=by
 unfold C5 at h;simp only[and_eq_true,beq_iff_eq,not_eq_true']at h;obtain⟨⟨h1,h2⟩,h3⟩:=h;refine⟨?_,h2,λz=>by rw[z]at h3;simp at h3⟩;show X.env.scope.names.lookup x=_;rw[c.sc];exact h1
theorem Ctx.y9(c:Ctx Φ Γ k X cl EX)(scope:Scope)(N':List Str)(cls:List (Str×Addr))(C:Addr)(s:Shared)(H:Hp)(fp:List Addr):Ctx Φ (Γ.y9 scope N') k (bJ X scope N' cls C s H fp) cl EX:=by
 refine⟨rfl,?_,c.calm,c.room,c.o9,c.fns,c.cls,c.MM,c.Q5,c.isc,c.cons,c.blt⟩;show relabel scope X.env=OV scope Γ.sc;rw[<-c.sc];rfl
theorem bq(h:noStar e=true):starEach (e::es) env=(false,eval e env)::starEach es env:=by
 cases e<;>first|rfl|(simp[noStar]at h)
theorem jb:∀{es:List Expr} {fU:pJ},aY Γ fU es=true->(backTo pos (starEach es env)).any (·.1)=false
 |[],_,_=>rfl
 |e::es,.nil,h=>by simp[aY]at h
 | e::es,.cons i fU,h=>by
  simp only[aY,and_eq_true]at h;rw[bq h.1.1];show (false||(backTo pos (starEach es env)).any (·.1))=false;rw[jb (fU:=fU) h.2];rfl
theorem zZ(h:aY Γ fU es=true):(backTo pos (starEach es env)).all (λx=>!x.1)=true:=by
 have q:=jb (pos:=pos) (env:=env) h;rw[all_eq_true];intro x hx;have:=List.any_eq_false.mp q x hx;simpa using this
theorem B9(h:sU e=true):CD e:=by
 intro o i;cases e<;>first|rfl|(simp[sU]at h)
theorem super_ok(h:superB e=true):attributeBase e x env whole=whole:=by
 cases e<;>first
  |rfl
  |skip
 rename_i f args kws pos;cases f<;>first
  |rfl
  |skip
 cases args with
 |cons a r=>rfl
 |nil=>
  cases kws with
  |cons a r=>rfl
  |nil=>simp[superB]at h
theorem dh(q:PE X e (tV Φ (bd X cl) EX ir))(he:∀whole,isTrue e X.env whole=(do let v <-whole;standAt e.pos;holding [v] (truthy v))):PT X e (tT Φ (bd X cl) EX ir) :=
 (Gx q he).imp λσ H Q ⟨ρ,env,h,hE,r,p⟩=>⟨ρ,env,h,hE,r,az p λv h1 ρ1 x H1 g1 r1 q1 p1=>by
  obtain⟨b,e,w⟩:=dY r1 p1;exact⟨b,HP r1 q1 e,w⟩⟩
theorem Gs:X7 X (unaryOp .USub) (λx H Q=>∃i,x=.int i/\Q (.int (-i)) H):=by
 intro pins s σ H x v Q I rx h;obtain⟨i,rfl,q⟩:=h;obtain⟨t,rfl⟩:=rx;exact neg_int ⟨.int (-i),H,I.tok _,⟨_,rfl⟩,q⟩
theorem OX(h:PT X (.BoolOp op vs pos) t):PW X (.BoolOp op vs pos) t:=λwhole pins s σ H Q I hw=>h pins s σ H Q I hw
def cG(Φ:Fn)(ir:IE):Prop:=∀(Γ:sS) (k:Nat) (X:Cx) (cl:Nat->Addr) (EX:Nat->List V->Hp->Prop) (e:Expr),Ctx Φ Γ k X cl EX->bN Γ ir e=true->PE X e (tV Φ (bd X cl) EX ir)/\PT X e (tT Φ (bd X cl) EX ir)
def n5(Φ:Fn)(fU:pJ):Prop:=(∀(Γ:sS) (k:Nat) (X:Cx) (cl:Nat->Addr) (EX:Nat->List V->Hp->Prop) (es:List Expr),Ctx Φ Γ k X cl EX->aY Γ fU es=true->PA X es (tVs Φ (bd X cl) EX fU))/\match fU with
 |.nil=>True
 | .cons e r=>cG Φ e/\match r with
  |.nil=>True
  |.cons e' _=>cG Φ e'
theorem MO(h:Q6 o op=true):op=HK o:=aaK h
theorem MP(h:VQ o op=true):op=CU o:=aaK h
theorem ur(hs:∀env h,aN Φ ir env h=.no):cG Φ ir:=by
 intro Γ k X cl EX e c h;exact⟨λpins s σ H Q I ⟨ρ,env,h,hE,r,p⟩=>by rw[hs]at p;exact p.elim,λpins s σ H Q I ⟨ρ,env,h,hE,r,p⟩=>by unfold Uj bnd at p;rw[hs]at p;exact p.elim⟩
theorem Q8{i:Nat}:cG Φ (.var i):=by
 intro Γ k X cl EX e c h;apply jK h;intro x pos h;simp only[and_eq_true,beq_iff_eq]at h;obtain⟨v1,v2,v3⟩:=c.vis h.2;have q:PE X (.Name x pos) (tV Φ (bd X cl) EX (.var i)):=by refine(Bv (by rw[c.N];exact h.1) v1 v2 v3).imp λσ H Q aS=>?_;obtain⟨ρ,env,h,hE,r,p⟩:=aS;rw[aN.eq_def]at p;dsimp only at p;obtain⟨d,e1,w⟩:=dg r p;split at e1<;>cases e1;rename_i e1;obtain⟨x,e2,e3⟩:=hE i d e1;exact⟨x,e2,w x e3⟩
 exact⟨q,dh q λ_=>rfl⟩
theorem Q9:cG Φ (.cst d):=by
 intro Γ k X cl EX e c h;apply zV h;intro cc j pos h;have q:PE X (.Constant cc j pos) (tV Φ (bd X cl) EX (.cst d)):=by
  unfold Ic at h;split at h<;>first|cases h|skip
  ·refine PB.imp λσ H Q aS=>?_;obtain⟨ρ,env,h,hE,r,p⟩:=aS;simp only[aN]at p;exact ai r p _ VR.non
  ·cases eq_of_beq h;refine UC.imp λσ H Q aS=>?_;obtain⟨ρ,env,h,hE,r,p⟩:=aS;simp only[aN]at p;exact ai r p _ VR.bl
  ·cases eq_of_beq h;refine Pz.imp λσ H Q aS=>?_;obtain⟨ρ,env,h,hE,r,p⟩:=aS;simp only[aN]at p;exact ai r p _ VR.int
  ·cases eq_of_beq h;refine PC.imp λσ H Q aS=>?_;obtain⟨ρ,env,h,hE,r,p⟩:=aS;simp only[aN]at p;exact ai r p _ VR.str
 exact⟨q,dh q λ_=>rfl⟩
theorem EZ(h:B8 a b=true):a=b:=by
 unfold B8 at h;split at h<;>first|rfl|(cases eq_of_beq h;rfl)|cases h
theorem Ra:cG Φ (.con x d):=by
 intro Γ k X cl EX e c h;apply jK h;intro y pos h;simp only[and_eq_true,beq_iff_eq]at h;obtain⟨⟨h1,h2⟩,h3⟩:=h;subst h1;obtain⟨g1,g2,g3⟩:=c.gl h2;obtain⟨p,hp,h4⟩:=List.any_eq_true.mp h3;simp only[and_eq_true,beq_iff_eq]at h4;obtain⟨v,u,m1,m2,m3⟩:=c.cons p hp;rw[h4.1]at m1;have q:PE X (.Name x pos) (tV Φ (bd X cl) EX (.con x d)):=by refine(LR g1 m1 m2 g2).imp λσ H Q aS=>?_;obtain⟨ρ,env,h,hE,r,p⟩:=aS;simp only[aN]at p;exact ai r p _ (by rw[<-EZ h4.2];exact m3 _ _ _)
 exact⟨q,dh q λ_=>rfl⟩
theorem VT:cG Φ .no:=by
 intro Γ k X cl EX e c h
 (conv at h=>lhs;whnf);cases h
theorem Ig:n5 Φ .nil:=by
 refine⟨fun Γ k X cl EX es c h=>?_,trivial⟩;rw[aY]at h;cases es with
 |cons a r=>cases h
 |nil=>refine GA.imp λσ H Q aS=>?_;obtain⟨ρ,env,h,hE,r,p⟩:=aS;simp only[bu]at p;exact ai r p _ aI.nil
theorem C7(h1:cG Φ e)(h2:n5 Φ es):n5 Φ (.cons e es):=by
 refine⟨fun Γ k X cl EX ls c h=>?_,h1,?_⟩
 ·rw[aY.eq_def]at h;dsimp only at h
  cases ls with
  |nil=>cases h
  |cons l ls=>simp only[and_eq_true]at h;refine(xZ (h1 Γ k X cl EX l c h.1.2).1 (h2.1 Γ k X cl EX ls c h.2) (bq h.1.1)).imp λσ H Q aS=>?_;obtain⟨ρ,env,h,hE,r,p⟩:=aS;simp only[bu]at p;refine⟨ρ,env,h,hE,r,az p λv h1 ρ1 x H1 g1 r1 q1 p1=>⟨ρ1,env,h1,hE.up g1,r1,bQ p1 λvs h2 ρ2 H2 g2 r2 p2 xs q2=>?_⟩⟩;exact ai r2 p2 _ (aI.cons (VR.up g2 _ _ q1) q2)
 ·cases es with
  |nil=>trivial
  |cons e' r=>exact h2.2.1
theorem Rb(ha:cG Φ a)(hb:cG Φ b):cG Φ (.bin o a b):=by
 intro Γ k X cl EX e c h;apply QN h;intro l op r pos h;simp only[and_eq_true]at h;obtain⟨⟨h1,h2⟩,h3⟩:=h;have eo:op=HK o:=MO h1;subst eo;have q:PE X (.BinOp l (HK o) r pos) (tV Φ (bd X cl) EX (.bin o a b)):=by refine(UW (QB (cl:=cl) (EX:=EX) o) (ha Γ k X cl EX l c h2).1 (hb Γ k X cl EX r c h3).1).imp λσ H Q aS=>?_;obtain⟨ρ,env,h,hE,r,p⟩:=aS;simp only[aN]at p;exact⟨ρ,env,h,hE,r,az p λv h1 ρ1 x H1 g1 r1 q1 p1=>⟨ρ1,env,h1,hE.up g1,r1,az p1 λw h2 ρ2 y H2 g2 r2 q2 p2=>⟨ρ2,h2,v,w,r2,VR.up g2 _ _ q1,q2,p2⟩⟩⟩
 exact⟨q,dh q λ_=>rfl⟩
theorem Rc(ha:cG Φ a):cG Φ (.neg a):=by
 intro Γ k X cl EX e c h;apply OT h;intro q1 l pos h;apply zW h;intro h;have q:PE X (.UnaryOp .USub l pos) (tV Φ (bd X cl) EX (.neg a)):=by
  refine(UX Gs (ha Γ k X cl EX l c h).1).imp λσ H Q aS=>?_;obtain⟨ρ,env,h,hE,r,p⟩:=aS;simp only[aN]at p;refine⟨ρ,env,h,hE,r,az p λv h1 ρ1 x H1 g1 r1 q1 p1=>?_⟩;cases v<;>first|exact p1.elim|skip
  rw[VR]at q1;exact⟨_,q1,ai r1 p1 _ VR.int⟩
 exact⟨q,dh q λ_=>rfl⟩
theorem Rf(ha:cG Φ a)(hb:cG Φ b):cG Φ (.cmp o a b):=by
 intro Γ k X cl EX e c h;apply QO h;intro l q1 q2 pos h;apply oK h;intro op h;apply oK h;intro r h;simp only[and_eq_true,not_eq_true']at h;obtain⟨⟨⟨h1,h4⟩,h2⟩,h3⟩:=h;have eo:op=CU o:=MP h1;subst eo;refine⟨(L4 (HN (cl:=cl) c.units o) (ha Γ k X cl EX l c h2).1 (hb Γ k X cl EX r c h3).1 h4).imp λσ H Q ⟨ρ,env,h,hE,r,p⟩=>?_,(L5 (HN (cl:=cl) c.units o) (ha Γ k X cl EX l c h2).1 (hb Γ k X cl EX r c h3).1 h4).imp λσ H Q ⟨ρ,env,h,hE,r,p⟩=>?_⟩
 ·simp only[aN]at p;refine⟨ρ,env,h,hE,r,az p λv h1 ρ1 x H1 g1 r1 q1 p1=>⟨ρ1,env,h1,hE.up g1,r1,az p1 λw h2 ρ2 y H2 g2 r2 q2 p2=>?_⟩⟩;obtain⟨t,e,p3⟩:=aC p2;exact⟨ρ2,h2,v,w,t,r2,VR.up g2 _ _ q1,q2,e,ai r2 p3 _ VR.bl⟩
 ·simp only[Uj,aN,bw,dJ]at p;refine⟨ρ,env,h,hE,r,az p λv h1 ρ1 x H1 g1 r1 q1 p1=>⟨ρ1,env,h1,hE.up g1,r1,az p1 λw h2 ρ2 y H2 g2 r2 q2 p2=>?_⟩⟩;obtain⟨t,e,p3⟩:=aC p2;obtain⟨t',e',w'⟩:=dY r2 p3;cases (show some t=some t' from e');exact⟨ρ2,h2,v,w,t,r2,VR.up g2 _ _ q1,q2,e,t,rfl,w'⟩
theorem Rg(ha:cG Φ a)(hb:cG Φ b)(hd:cG Φ d):cG Φ (.chn o o' a b d):=ur λ_ _=>rfl
end
section
variable {B:Bd} {EX:Nat->List V->Hp->Prop} {ρ:List Addr} {H:Hp} {β:Type} {W:β -> Hs->List Addr->Hp->Prop} {h:Hs}
theorem post_bool(p:Post B EX ρ H W (bnd (wU v) f h)):∃t,v=.bl t/\Post B EX ρ H W (f t h):=by
 cases v with
 |bl t=>exact⟨t,rfl,p⟩
 |_=>exact p.elim
theorem qG(p:Post B EX ρ H W (bnd m F h))(k:∀v h1,Post B EX ρ H W (F v h1)->∃t,dI h1 v=some t/\∀ρ1 H1,Gr ρ H ρ1 H1->HR B ρ1 h1 H1->Q t H1) :
  Post B EX ρ H (WT Q) (bnd m (λx=>ask λh=>dI h x) h):=by
 unfold bnd at p |-;cases e:m h with
 |ok v h1=>
  rw[e]at p;obtain⟨t,e1,q⟩:=k v h1 p;show Post B EX ρ H (WT Q) (ask (λh=>dI h v) h1);have e2:ask (λh=>dI h v) h1=.ok t h1:=by unfold ask bB;dsimp only;rw[e1]
  rw[e2];exact λρ1 H1 g r=>q ρ1 H1 g r
 |exc c vs h1=>rw[e]at p;exact p
 |no=>rw[e]at p;exact p
end
section
variable {Φ:Fn} {Γ:sS} {k:Nat} {X:Cx} {cl:Nat->Addr} {EX:Nat->List V->Hp->Prop}
theorem Rh(ha:cG Φ a)(hb:cG Φ b):cG Φ (.and a b):=by
 intro Γ k X cl EX e c h;apply wW h;intro q1 q2 pos h;apply zW h;intro h;apply B6 h;intro l q3 h;apply B6 h;intro m r h;simp only[and_eq_true]at h;obtain⟨h1,h2⟩:=h;have hB:PE X (.BoolOp .And (m::r) pos) (tV Φ (bd X cl) EX b)/\PW X (.BoolOp .And (m::r) pos) (tT Φ (bd X cl) EX b):=by
  cases r with
  |nil=>exact⟨Gh (hb Γ k X cl EX m c h2).1,LU (hb Γ k X cl EX m c h2).2⟩
  |cons n r'=>exact⟨(hb Γ k X cl EX _ c h2).1,OX (hb Γ k X cl EX _ c h2).2⟩
 refine⟨(PK (ha Γ k X cl EX l c h1).1 hB.1).imp λσ H Q ⟨ρ,env,h,hE,r,p⟩=>?_,(PF (ha Γ k X cl EX l c h1).2 hB.2).pt.imp λσ H Q ⟨ρ,env,h,hE,r,p⟩=>?_⟩
 ·simp only[aN]at p
  refine⟨ρ,env,h,hE,r,az p λv h1 ρ1 x H1 g1 r1 q1 p1=>?_⟩;obtain⟨t,rfl,p2⟩:=post_bool p1;rw[VR]at q1;refine⟨t,q1,?_⟩;cases t with
  |true=>rw[aar rfl]at p2 |-;refine⟨ρ1,env,h1,hE.up g1,r1,az p2 λw h2 ρ2 y H2 g2 r2 q2 p3=>?_⟩;obtain⟨u,rfl,p4⟩:=post_bool p3;exact ai r2 p4 _ q2
  |false=>rw[aas aaj]at p2 |-;exact ai r1 p2 _ VR.bl
 ·simp only[Uj,aN,bw]at p
  refine⟨ρ,env,h,hE,r,qG p λv h1 p1=>?_⟩;obtain⟨t,rfl,p2⟩:=post_bool p1;refine⟨t,rfl,λρ1 H1 g1 r1=>?_⟩;have p2:=Post.up g1 p2;cases t with
  |true=>rw[aar rfl]at p2 |-;simp only[bw,dJ]at p2;refine⟨ρ1,env,h1,hE.up g1,r1,qG p2 λw h2 p3=>?_⟩;obtain⟨u,rfl,p4⟩:=post_bool p3;exact⟨u,rfl,λρ2 H2 g2 r2=>by obtain⟨t',e',w'⟩:=dY r2 (Post.up g2 p4);cases (show some u=some t' from e');exact w'⟩
  |false=>rw[aas aaj]at p2 |-;obtain⟨t',e',w'⟩:=dY r1 (show Post _ _ ρ1 H1 _ (ask (λh=>dI h (.bl false)) h1) from p2);cases (show some false=some t' from e');exact w'
theorem VU(ha:cG Φ a)(hb:cG Φ b):cG Φ (.or a b):=by
 intro Γ k X cl EX e c h;apply wW h;intro q1 q2 pos h;apply zW h;intro h;apply B6 h;intro l q3 h;apply B6 h;intro m r h;simp only[and_eq_true]at h;obtain⟨h1,h2⟩:=h;have hB:PE X (.BoolOp .Or (m::r) pos) (tV Φ (bd X cl) EX b)/\PW X (.BoolOp .Or (m::r) pos) (tT Φ (bd X cl) EX b):=by
  cases r with
  |nil=>exact⟨Gh (hb Γ k X cl EX m c h2).1,PD (hb Γ k X cl EX m c h2).2⟩
  |cons n r'=>exact⟨(hb Γ k X cl EX _ c h2).1,OX (hb Γ k X cl EX _ c h2).2⟩
 refine⟨(UG (ha Γ k X cl EX l c h1).1 hB.1).imp λσ H Q ⟨ρ,env,h,hE,r,p⟩=>?_,(UD (ha Γ k X cl EX l c h1).2 hB.2).pt.imp λσ H Q ⟨ρ,env,h,hE,r,p⟩=>?_⟩
 ·simp only[aN]at p
  refine⟨ρ,env,h,hE,r,az p λv h1 ρ1 x H1 g1 r1 q1 p1=>?_⟩;obtain⟨t,rfl,p2⟩:=post_bool p1;rw[VR]at q1;refine⟨t,q1,?_⟩;cases t with
  |false=>rw[aas aaj]at p2 |-;refine⟨ρ1,env,h1,hE.up g1,r1,az p2 λw h2 ρ2 y H2 g2 r2 q2 p3=>?_⟩;obtain⟨u,rfl,p4⟩:=post_bool p3;exact ai r2 p4 _ q2
  |true=>rw[aar rfl]at p2 |-;exact ai r1 p2 _ VR.bl
 ·simp only[Uj,aN,bw]at p
  refine⟨ρ,env,h,hE,r,qG p λv h1 p1=>?_⟩;obtain⟨t,rfl,p2⟩:=post_bool p1;refine⟨t,rfl,λρ1 H1 g1 r1=>?_⟩;have p2:=Post.up g1 p2;cases t with
  |false=>rw[aas aaj]at p2 |-;simp only[bw,dJ]at p2;refine⟨ρ1,env,h1,hE.up g1,r1,qG p2 λw h2 p3=>?_⟩;obtain⟨u,rfl,p4⟩:=post_bool p3;exact⟨u,rfl,λρ2 H2 g2 r2=>by obtain⟨t',e',w'⟩:=dY r2 (Post.up g2 p4);cases (show some u=some t' from e');exact w'⟩
  |true=>rw[aar rfl]at p2 |-;obtain⟨t',e',w'⟩:=dY r1 (show Post _ _ ρ1 H1 _ (ask (λh=>dI h (.bl true)) h1) from p2);cases (show some true=some t' from e');exact w'
theorem Ri(ha:cG Φ a):cG Φ (.not a):=by
 intro Γ k X cl EX e c h;apply OT h;intro q1 l pos h;apply zW h;intro h;refine⟨(MC (ha Γ k X cl EX l c h).1).imp λσ H Q ⟨ρ,env,h,hE,r,p⟩=>?_,(PJ (ha Γ k X cl EX l c h).2).imp λσ H Q ⟨ρ,env,h,hE,r,p⟩=>?_⟩
 ·simp only[aN]at p;refine⟨ρ,env,h,hE,r,az p λv h1 ρ1 x H1 g1 r1 q1 p1=>?_⟩;obtain⟨t,e,p2⟩:=aC p1;exact⟨t,HP r1 q1 e,ai r1 p2 _ VR.bl⟩
 ·simp only[Uj,aN,bw]at p;refine⟨ρ,env,h,hE,r,qG p λv h1 p1=>?_⟩;obtain⟨t,e,p2⟩:=aC p1;refine⟨t,e,λρ1 H1 g1 r1=>?_⟩;obtain⟨t',e',w'⟩:=dY r1 (show Post _ _ ρ1 H1 _ (ask (λh=>dI h (.bl (!t))) h1) from Post.up g1 p2);cases (show some (!t)=some t' from e');exact w'
theorem Rj(ht:cG Φ t)(ha:cG Φ a)(hb:cG Φ b):cG Φ (.ite t a b):=ur λ_ _=>rfl
theorem Rk(hs:n5 Φ es):cG Φ (.tup es):=by
 intro Γ k X cl EX e c h;apply QS h;intro ls x1 pos h;have q:PE X (.Tuple ls x1 pos) (tV Φ (bd X cl) EX (.tup es)):=by refine(Qd (hs.1 Γ k X cl EX ls c h)).imp λσ H Q aS=>?_;obtain⟨ρ,env,h,hE,r,p⟩:=aS;simp only[aN]at p;refine⟨ρ,env,h,hE,r,bQ p λvs h1 ρ1 H1 g1 r1 p1 xs q1=>?_⟩;obtain⟨e1,p2⟩:=bg p1;exact⟨by rw[<-q1.length];exact aaK e1,λq hq=>zT r1 hq q1 p2⟩
 exact⟨q,dh q λ_=>rfl⟩
theorem Rm(hs:n5 Φ es):cG Φ (.lst es):=by
 intro Γ k X cl EX e c h;apply QT h;intro ls pos h;have q:PE X (.List ls pos) (tV Φ (bd X cl) EX (.lst es)):=by refine(Qe (hs.1 Γ k X cl EX ls c h)).imp λσ H Q aS=>?_;obtain⟨ρ,env,h,hE,r,p⟩:=aS;simp only[aN]at p;refine⟨ρ,env,h,hE,r,bQ p λvs h1 ρ1 H1 g1 r1 p1 xs q1=>?_⟩;obtain⟨e1,p2⟩:=bg p1;exact⟨by rw[<-q1.length];exact aaK e1,λq hq=>dZ r1 hq q1 p2⟩
 exact⟨q,dh q λ_=>rfl⟩
theorem MQ:cG Φ .dct0:=by
 intro Γ k X cl EX e c h;apply C0 h;intro q1 q2 pos h;apply mJ h;intro h;apply mJ h;intro h;have q:PE X (.Dict [] [] pos) (tV Φ (bd X cl) EX .dct0):=by refine(GO (X:=X) (pos:=pos)).imp λσ H Q aS=>?_;obtain⟨ρ,env,h,hE,r,p⟩:=aS;simp only[aN]at p;exact λa ha=>zS (o:=.dct []) (O:=.dK []) r ha ⟨[],aW,(by rw[iP])⟩ p
 exact⟨q,dh q λ_=>rfl⟩
theorem Rn(ha:cG Φ a)(hb:cG Φ b):cG Φ (.idx a b):=by
 intro Γ k X cl EX e c h;apply yl h;intro l r pos h;simp only[and_eq_true]at h;have q:PE X (.Subscript l r pos) (tV Φ (bd X cl) EX (.idx a b)):=by refine(Vb (QE (cl:=cl) c.units) (ha Γ k X cl EX l c h.1.2).1 (hb Γ k X cl EX r c h.2).1 (B9 h.1.1)).imp λσ H Q aS=>?_;obtain⟨ρ,env,h,hE,r,p⟩:=aS;simp only[aN]at p;refine⟨ρ,env,h,hE,r,az p λv h1 ρ1 x H1 g1 r1 q1 p1=>⟨ρ1,env,h1,hE.up g1,r1,az p1 λw h2 ρ2 y H2 g2 r2 q2 p2=>?_⟩⟩;obtain⟨z,e,w'⟩:=dY r2 p2;exact⟨ρ2,h2,v,w,z,r2,VR.up g2 _ _ q1,q2,e,w'⟩
 exact⟨q,dh q λ_=>rfl⟩
def VW(Φ:Fn)(ir:IE)(env:Env):M (Option Int):=if eW ir=true then ret none else bnd (aN Φ ir env) λv=>bnd (bB (gq v)) λi=>ret (some i)
def tP(Φ:Fn)(B:Bd)(EX:Nat->List V->Hp->Prop)(ir:IE):TO:=λσ H Q=>∃ρ env h,eE B.K ρ env σ H/\HR B ρ h H/\Post B EX ρ H (λo _ _ H'=>Q o H') (VW Φ ir env h)
theorem E1{i:Int}(h:gq d=some i):d=.int i:=by cases d<;>cases h;rfl
theorem C8(hi:cG Φ ir)(c:Ctx Φ Γ k X cl EX)(h:(match o with|none=>eW ir|some e=>!eW ir&&bN Γ ir e)=true):PO X o (tP Φ (bd X cl) EX ir):=by
 cases o with
 |none=>refine Mc.imp λσ H Q aS=>?_;obtain⟨ρ,env,h',hE,r,p⟩:=aS;unfold VW at p;rw[aar h]at p;exact ai r p
 |some e=>simp only[and_eq_true,not_eq_true']at h;refine(Mf (hi Γ k X cl EX e c h.2).1).imp λσ H Q aS=>?_;obtain⟨ρ,env,h',hE,r,p⟩:=aS;unfold VW at p;rw[aas (by rw[h.1];exact aaj)]at p;refine⟨ρ,env,h',hE,r,az p λv h1 ρ1 x H1 g1 r1 q1 p1=>?_⟩;obtain⟨i,e1,p2⟩:=ck p1;cases E1 e1;rw[VR]at q1;exact⟨i,q1,ai r1 p2⟩
theorem Ro{a lo hi:IE}(ha:cG Φ a)(hl:cG Φ lo)(hh:cG Φ hi):cG Φ (.slc a lo hi):=by
 intro Γ k X cl EX e c h;apply yl h;intro l q1 pos h;apply QU h;intro l' h' q2 p2 h;apply C1 h;intro h;simp only[and_eq_true]at h;have q:PE X (.Subscript l (.Slice l' h' none p2) pos) (tV Φ (bd X cl) EX (.slc a lo hi)):=by refine(GG (QF (cl:=cl) (EX:=EX)) (ha Γ k X cl EX l c h.1.1).1 (C8 hl c h.1.2) (C8 hh c h.2)).imp λσ H Q aS=>?_;obtain⟨ρ,env,h,hE,r,p⟩:=aS;simp only[aN]at p;refine⟨ρ,env,h,hE,r,az p λv h1 ρ1 x H1 g1 r1 q1 p1=>⟨ρ1,env,h1,hE.up g1,r1,bQ (m:=VW Φ lo env) p1 λlo' h2 ρ2 H2 g2 r2 p3=>⟨ρ2,env,h2,(hE.up g1).up g2,r2,bQ (m:=VW Φ hi env) p3 λhi' h3 ρ3 H3 g3 r3 p4=>?_⟩⟩⟩;exact⟨ρ3,h3,v,r3,VR.up (g2.trans g3) _ _ q1,p4⟩
 exact⟨q,dh q λ_=>rfl⟩
theorem Rp(ha:cG Φ a)(hs:cG Φ sx):cG Φ (.rev a sx):=ur λ_ _=>rfl
theorem mK:∀{fU:pJ} {ls:List Expr} {vs:List Val} {h h':Hs},aY Γ fU ls=true->bu Φ fU env h=.ok vs h'->vs.length=ls.length:=by
 intro fU
 induction fU using pJ.rec (motive_1:=λ_=>True) with
 |nil=>
  intro ls ds h h' a b;rw[aY]at a;simp only[bu,ret]at b;cases b;cases ls with
  |nil=>rfl
  |cons _ _=>cases a
 |cons e es _ ih=>
  intro ls ds h h' a b;rw[aY.eq_def]at a;dsimp only at a;cases ls with
  |nil=>cases a
  |cons l ls=>
   simp only[and_eq_true]at a;simp only[bu,bnd]at b;cases e1:aN Φ e env h with
   |ok v h1=>
    rw[e1]at b;dsimp only at b;cases e2:bu Φ es env h1 with
    |ok vs h2=>rw[e2]at b;cases b;simp[ih a.2 e2]
    |exc _ _ _=>rw[e2]at b;cases b
    |no=>rw[e2]at b;cases b
   |exc _ _ _=>rw[e1]at b;cases b
   |no=>rw[e1]at b;cases b
 |_=>trivial
theorem gy{α β:Type}{W:β -> Hs->List Addr->Hp->Prop}{W':α -> Hs->List Addr->Hp->Prop}{m:M α}{f:α -> M β}(p:Post B EX ρ H W (bnd m f h))(k:∀v h1 ρ1 H1,m h=.ok v h1->Gr ρ H ρ1 H1->HR B ρ1 h1 H1->Post B EX ρ1 H1 W (f v h1)->W' v h1 ρ1 H1):Post B EX ρ H W' (m h):=by
 unfold bnd at p;cases e:m h with
 |ok v h1=>rw[e]at p;exact λρ1 H1 g r=>k v h1 ρ1 H1 e g r (Post.up g p)
 |exc c vs h1=>rw[e]at p;exact p
 |no=>rw[e]at p;exact p
theorem gz{α:Type}{h:Hs}{W:α -> Hs->List Addr->Hp->Prop}{o:Out α}(n:∀c xs H,¬ EX c xs H)(p:Post B EX ρ H W o):Post B (λ_ _ _=>False) ρ H W o:=by
 cases o with
 |ok a h'=>exact p
 |exc c vs h'=>exact λρ' H' xs g r q=>n _ _ _ (p ρ' H' xs g r q)
 |no=>exact p
theorem C9{n c:Nat}{φ0:List Val->M Val}(r:HR B ρ h H)(hv:aI B.K ρ H vs xs)(hl:vs.length=n)(p:Post B (λ_ _ _=>False) ρ H (WV B.K Q) (OQ c φ0 vs h))
  (nx:H x=none) (nd:H dx=none) (ne:dx≠x):yo B (n+1) φ0 (.ref x::xs) (upd (upd H dx (.own x)) x (.ins (B.cl c) dx [])) (λv H2=>v=.non/\Q (.ref x) H2) E:=by
 have r1:HR B ρ h (upd H dx (.own x)):=r.side nd;have nx1:(upd H dx (.own x)) x=none:=by rw[aA λz=>ne z.symm];exact nx
 have g:Gr ρ H (ρ ++ [x]) (upd (upd H dx (.own x)) x (.ins (B.cl c) dx [])):=(Gr.side nd).trans (Gr.new nx1);have r2:HR B (ρ ++ [x]) (h++[.ins c []]) (upd (upd H dx (.own x)) x (.ins (B.cl c) dx [])):=r1.new nx1 ⟨dx,[],aW,rfl⟩;have hx:(ρ ++ [x])[h.length]?=some x:=by rw[<-r.len];simp
 refine⟨ρ ++ [x],h++[.ins c []],.ref h.length::vs,by simp[hl],r2,aI.cons (VR.ref hx) (aI.up g _ _ hv),?_⟩;have p2:Post B (λ_ _ _=>False) (ρ ++ [x]) (upd (upd H dx (.own x)) x (.ins (B.cl c) dx [])) (WV B.K Q) (bnd (φ0 (.ref h.length::vs)) (λr=>match r with|.non=>ret (.ref h.length)|_=>bB none) (h++[.ins c []])):=Post.up g p;refine bQ p2 λv h1 ρ1 H1 g1 r3 p3 y hy=>?_;cases v<;>first|exact p3.elim|skip
 rw[VR]at hy;exact⟨hy,ai r3 p3 _ (VR.ref (sP g1.pre hx))⟩
theorem MR{j:Nat}{k:Nat}(hs:n5 Φ es)(c:Ctx Φ Γ k X cl EX)
  (h:(C5 Γ.sc x && Γ.fns[j]?==some (x,args.length)&&decide (args.length<1000)&&aY Γ es args)=true):PE X (.Call (.Name x p) args [] pos) (tV Φ (bd X cl) EX (.call j es))/\PT X (.Call (.Name x p) args [] pos) (tT Φ (bd X cl) EX (.call j es)):=by
 simp only[and_eq_true,beq_iff_eq,decide_eq_true_eq]at h;obtain⟨⟨⟨h1,h2⟩,h3⟩,h4⟩:=h;obtain⟨g1,g2,g3⟩:=c.gl h1;have room:fO k X.A:=c.room.mono (abz k);have q:PE X (.Call (.Name x p) args [] pos) (tV Φ (bd X cl) EX (.call j es)):=by
  rcases c.fns j x _ h2 with ⟨_,⟨f,fd,ps,f1,f2,f3,f4,f5⟩|⟨cc,f,fd,ps,φ0,f0,f1,f2,f3,f4,f5⟩⟩|⟨z,_⟩
  ·cases args with
   |nil=>
    cases es with
    |cons i fU=>rw[aY.eq_def]at h4;cases h4
    |nil=>refine(GB f5 room g1 f2 f3 f4 .nil wo g2).imp λσ H Q aS=>?_;obtain⟨ρ,env,h,hE,r,p⟩:=aS;simp only[aN,bu,dJ]at p;exact⟨ρ,h,[],rfl,r,aI.nil,gz (h:=h) c.o9 p⟩
   |cons l ls=>
    cases es with
    |nil=>rw[aY]at h4;cases h4
    |cons i fU=>have h5:=h4;rw[aY.eq_def]at h5;dsimp only at h5;simp only[and_eq_true]at h5;refine(L8 f5 room g1 f2 f3 f4 .nil wo (hs.1 Γ k X cl EX _ c h4) g2 (bq h5.1.1) (jb h5.2)).imp λσ H Q aS=>?_;obtain⟨ρ,env,h,hE,r,p⟩:=aS;simp only[aN]at p;refine⟨ρ,env,h,hE,r,gy p λvs h1 ρ1 H1 e1 g1 r1 p1 xs q1=>⟨ρ1,h1,vs,mK h4 e1,r1,by rw[aa1];exact q1,gz (h:=h1) c.o9 p1⟩⟩
  ·cases args with
   |nil=>
    cases es with
    |cons i fU=>rw[aY.eq_def]at h4;cases h4
    |nil=>refine(GC f3 f5 c.room g1 f2 f4 .nil wo g2).imp λσ H Q aS=>?_;obtain⟨ρ,env,h,hE,r,p⟩:=aS;simp only[aN,bu,dJ]at p;intro y dy ny Zw Zx;rw[f0]at p;exact C9 (B:=bd X cl) r aI.nil rfl (gz (h:=h) c.o9 p) ny Zw Zx
   |cons l ls=>
    cases es with
    |nil=>rw[aY]at h4;cases h4
    |cons i fU=>have h5:=h4;rw[aY.eq_def]at h5;dsimp only at h5;simp only[and_eq_true]at h5;refine(Ma f3 f5 c.room g1 f2 f4 .nil wo (hs.1 Γ k X cl EX _ c h4) g2 (bq h5.1.1) (jb h5.2)).imp λσ H Q aS=>?_;obtain⟨ρ,env,h,hE,r,p⟩:=aS;simp only[aN]at p;refine⟨ρ,env,h,hE,r,gy p λvs h1 ρ1 H1 e1 g1 r1 p1 xs q1 y dy ny Zw Zx=>?_⟩;rw[f0]at p1;rw[aa1];exact C9 (B:=bd X cl) r1 q1 (mK h4 e1) (gz (h:=h1) c.o9 p1) ny Zw Zx
  ·omega
 exact⟨q,dh q λ_=>rfl⟩
theorem MS{j:Nat}(hs:n5 Φ es):cG Φ (.call j es):=by
 intro Γ k X cl EX e c h;apply oq h;intro x _ args _ h;exact MR hs c h
theorem Rq{n:Nat}(ha:cG Φ a):cG Φ (.fld n a x):=by
 intro Γ k X cl EX e c h;apply ym h;intro o y pos h;simp only[and_eq_true,beq_iff_eq,List.contains_iff_mem]at h;obtain⟨⟨⟨⟨h1,h2⟩,h3⟩,h4⟩,h5⟩:=h;subst h1;have q:PE X (.Attribute o x pos) (tV Φ (bd X cl) EX (.fld n a x)):=by
  refine(pe_fld (ha Γ k X cl EX o c h5).1 (super_ok h2)).imp λσ H Q aS=>?_;obtain⟨ρ,env,h,hE,r,p⟩:=aS;simp only[aN]at p;refine⟨ρ,env,h,hE,r,az p λv h1 ρ1 y H1 g1 r1 q1 p1=>?_⟩;obtain⟨z,e1,w⟩:=dY r1 p1;cases v<;>first|(cases e1;done)|(rw[VR]at q1;exact q1.elim)|skip
  rename_i i;rw[VR]at q1;obtain⟨ad,rfl,q1⟩:=q1;have hx:∃c0 fs,h1[i]?=some (.ins c0 fs)/\c0<n/\fs.lookup x=some z:=by
   change (match h1[i]? with|some (.ins c fs)=>if c<n then fs.lookup x else none|_=>none)=some z at e1;split at e1
   ·rename_i c0 fs e2
    split at e1
    ·rename_i hc;exact⟨c0,fs,e2,hc,e1⟩
    ·cases e1
   ·cases e1
  obtain⟨c0,fs,e2,hc,e3⟩:=hx;obtain⟨dx,gs,k1,k2⟩:=r1.ob i _ ad e2 q1;obtain⟨y,l1,l2⟩:=k2.look.2 z e3;obtain⟨cc,nn⟩:=c.cls c0 (by omega);exact⟨ad,cl c0,dx,gs,y,rfl,k1,cc,nn x h4,l1,w y l2⟩
 exact⟨q,dh q λ_=>rfl⟩
theorem z5:∀{js:List (Nat×Nat)} {c j:Nat},js.lookup c=some j->(c,j)∈js
 | (a,b)::r,c,j,e=>by
  rw[abf]at e;cases hb:c==a with
  |true=>rw[hb]at e;cases e;rw[eq_of_beq hb];exact aam
  |false=>rw[hb]at e;exact aal _ (z5 e)
theorem MT{h:Hs}{v:Val}{x:Str}{js:List (Nat×Nat)}{j:Nat}(e1:sD h v x js=some j){K:Frag}{ρ:List Addr}{H:Hp}{y:V}(q1:VR K ρ H v y):∃i,v=.ref i:=by
 cases v<;>first|(cases e1;done)|(rw[VR]at q1;exact q1.elim)|exact⟨_,rfl⟩
theorem MU{i j:Nat}(e1:sD h (.ref i) x js=some j):∃c0 fs,h[i]?=some (.ins c0 fs)/\fs.lookup x=none/\js.lookup c0=some j:=by
 change (match h[i]? with|some (.ins c fs)=>if (fs.lookup x).isNone=true then js.lookup c else none|_=>none)=some j at e1;cases e2:h[i]? with
 |none=>rw[e2]at e1;cases e1
 |some o=>
  rw[e2]at e1;cases o with
  |ins c0 fs=>
   dsimp only at e1
   by_cases hc:(fs.lookup x).isNone=true
   ·rw[aar hc]at e1;exact⟨c0,fs,rfl,by simpa using hc,e1⟩
   ·rw[aas hc]at e1;cases e1
  |_=>cases e1
theorem Rt(ha:cG Φ a)(hs:n5 Φ es):cG Φ (.mth a m js es):=by
 intro Γ k X cl EX e c h;apply C3 h;intro o x ap args cp h;simp only[and_eq_true,beq_iff_eq,all_eq_true,decide_eq_true_eq,List.contains_iff_mem]at h;obtain⟨⟨⟨⟨⟨⟨h1,h2⟩,h3⟩,h4⟩,h5⟩,h6⟩,h7⟩:=h;subst h1;have few:((backTo cp (starEach args X.env)).all (λx=>!x.1)&&(backToKw cp (keywordEach [] X.env)).all (λx=>x.1.isSome)
   && decide (args.length+([]:List Keyword).length+(if ([]:List Keyword).isEmpty then 0 else 1)<30))=true:=by
  rw[zZ h7];simp only[Bool.true_and,and_eq_true];exact⟨rfl,decide_eq_true (by simp;omega)⟩
 have hl:(ap.endLine==cp.line)=true:=by rw[h4];exact beq_self_eq_true _
 have room:fO k X.A:=c.room.mono (abz k);have main:∀(σ:L2.St) (H:Hp) (Q:VK) (v:Val) (h1:Hs) (ρ1:List Addr) (y:V) (H1:Hp) (F:Nat->M Val),HR (bd X cl) ρ1 h1 H1->VR X.K ρ1 H1 v y->Post (bd X cl) EX ρ1 H1 (WV X.K Q) (bnd (ask λh=>sD h v x js) F h1) ->
   ∀G:Prop,(∀j i ad c0 dx gs fd ps,v=.ref i->y=.ref ad->H1 ad=some (.ins (cl c0) dx gs)->Gd X.K (cl c0)->Meth X.K (cl c0) x (cl (1000+j))->gs.lookup x=none->Binds X.K fd ps [] ->
    gK X.prog X.w X.K X.mg X.base BK k (cl (1000+j)) fd ps (yo (bd X cl) (1+args.length) (Φ j))->Post (bd X cl) EX ρ1 H1 (WV X.K Q) (F j h1)->G)->G:=by
  intro σ H Q v h1 ρ1 y H1 F r1 q1 p1 G gk;obtain⟨j,e1,p2⟩:=aC p1;obtain⟨i,rfl⟩:=MT e1 q1;rw[VR]at q1;obtain⟨ad,rfl,q1⟩:=q1;obtain⟨c0,fs,e2,hn,e3⟩:=MU e1;obtain⟨dx,gs,k1,k2⟩:=r1.ob i _ ad e2 q1;obtain⟨⟨m1,m2⟩,m3⟩:=h5 _ (z5 e3);dsimp only at m1 m2 m3;have cc:=(c.cls c0 m1).1;have mm:=c.MM _ m2;dsimp only at mm;have hf:∃xx,Γ.fns[j]?=some (xx,1001+args.length):=by
   cases ef:Γ.fns[j]? with
   |none=>rw[ef]at m3;cases m3
   |some q=>rw[ef]at m3;obtain⟨q1,q2⟩:=q;exact⟨q1,by rw[show q2=_ from eq_of_beq m3]⟩
  obtain⟨xx,hf⟩:=hf
  rcases c.fns j xx _ hf with ⟨z,_⟩|⟨_,fd,ps,f1,f4,f5⟩
  ·omega
  ·rw[show 1001+args.length-1000=1+args.length by omega]at f5;exact gk j i ad c0 dx gs fd ps rfl rfl k1 cc mm (k2.look.1 hn) f4 f5 p2
 have q:PE X (.Call (.Attribute o x ap) args [] cp) (tV Φ (bd X cl) EX (.mth a x js es)):=by
  cases args with
  |nil=>
   cases es with
   |cons i fU=>rw[aY.eq_def]at h7;cases h7
   |nil=>refine(pe_mth0 (k:=k) (ha Γ k X cl EX o c h6).1 (super_ok h2) hl room).imp λσ H Q aS=>?_;obtain⟨ρ,env,h,hE,r,p⟩:=aS;simp only[aN,bu,dJ]at p;refine⟨ρ,env,h,hE,r,az p λv h1 ρ1 y H1 g1 r1 q1 p1=>?_⟩;refine main σ H Q v h1 ρ1 y H1 _ r1 q1 p1 _ λj i ad c0 dx gs fd ps e1 e2 k1 cc mm k2 f4 f5 p2=>?_;subst e1;subst e2;exact⟨ad,cl c0,dx,gs,cl (1000+j),fd,ps,_,rfl,k1,cc,mm,k2,f4,f5,ρ1,h1,[.ref i],rfl,r1,aI.cons q1 aI.nil,gz (h:=h1) c.o9 p2⟩
  |cons l ls=>
   cases es with
   |nil=>rw[aY]at h7;cases h7
   |cons i fU=>have h8:=h7;rw[aY.eq_def]at h8;dsimp only at h8;simp only[and_eq_true]at h8;refine(pe_mthD (k:=k) (ha Γ k X cl EX o c h6).1 (hs.1 Γ k X cl EX _ c h7) (super_ok h2) few hl room (bq h8.1.1) (jb h8.2)).imp λσ H Q aS=>?_;obtain⟨ρ,env,h,hE,r,p⟩:=aS;simp only[aN]at p;refine⟨ρ,env,h,hE,r,az p λv h1 ρ1 y H1 g1 r1 q1 p1=>?_⟩;refine main σ H Q v h1 ρ1 y H1 _ r1 q1 p1 _ λj i ad c0 dx gs fd ps e1 e2 k1 cc mm k2 f4 f5 p2=>?_;subst e1;subst e2;refine⟨ad,cl c0,dx,gs,cl (1000+j),fd,ps,_,rfl,k1,cc,mm,k2,f4,f5,ρ1,env,h1,hE.up g1,r1,gy p2 λvs h2 ρ2 H2 e4 g2 r2 p3 xs q2=>?_⟩;refine⟨ρ2,h2,.ref i::vs,?_,r2,aI.cons (VR.up g2 _ _ q1) q2,gz (h:=h2) c.o9 p3⟩;rw[aaH,mK h7 e4];omega
 exact⟨q,dh q λ_=>rfl⟩
end
section
variable {Φ:Fn} {Γ:sS} {k:Nat} {X:Cx} {cl:Nat->Addr} {EX:Nat->List V->Hp->Prop}
theorem Ru:bootBuiltins "all" = some (.builtin "all"):=by decide +kernel
theorem Rv:bootBuiltins "any" = some (.builtin "any"):=by decide +kernel
theorem wX:bootBuiltins "sorted" = some (.builtin "sorted"):=by decide +kernel
theorem Rw:bootBuiltins "min" = some (.builtin "min"):=by decide +kernel
theorem Rx:bootBuiltins "max" = some (.builtin "max"):=by decide +kernel
theorem yq:bootBuiltins "list" = some (.type "list"):=by decide +kernel
theorem z6:bootBuiltins "tuple" = some (.type "tuple"):=by decide +kernel
theorem Ih:bootBuiltins "str" = some (.type "str"):=by decide +kernel
theorem Ii:bootBuiltins "int" = some (.type "int"):=by decide +kernel
theorem MV:bootBuiltins "bool" = some (.type "bool"):=by decide +kernel
theorem MW:bootBuiltins "dict" = some (.type "dict"):=by decide +kernel
theorem MX:bootBuiltins "isinstance" = some (.builtin "isinstance"):=by decide +kernel
theorem z7:bu Φ #[e] env=bnd (aN Φ e env) λd=>ret [d]:=by
 simp only[bu,dJ]
theorem six{T:String}(h:["list","tuple","str","bool","int","dict"].contains T=true):T = "list" \/ T = "tuple" \/ T = "str" \/ T = "bool" \/ T = "int" \/ T = "dict":=by simpa using h
theorem MY{T:String}(h:["list","tuple","str","bool","int","dict"].contains T=true):(T:Str)∈bltNames/\bootBuiltins (T:Str)=some (.type T)/\(T:Str) ≠ "__name__" /\ ((T:Str)==("__debug__":Str))=false:=by
 rcases six h with rfl|rfl|rfl|rfl|rfl|rfl
 ·exact⟨by decide,yq,by decide,by decide⟩
 ·exact⟨by decide,z6,by decide,by decide⟩
 ·exact⟨by decide,Ih,by decide,by decide⟩
 ·exact⟨by decide,MV,by decide,by decide⟩
 ·exact⟨by decide,Ii,by decide,by decide⟩
 ·exact⟨by decide,MW,by decide,by decide⟩
theorem MZ{T:String}(hs:n5 Φ es):cG Φ (.blt (.isin T) es):=by
 intro Γ k X cl EX e c h;apply oq h;intro x p args pos h;simp only[and_eq_true,beq_iff_eq]at h;obtain⟨⟨h1,h2⟩,h3⟩:=h;subst h2;obtain⟨g1,g2,g3⟩:=c.gl h1;split at h3<;>first|cases h3|skip
 rename_i a y yp;simp only[and_eq_true,beq_iff_eq]at h3;obtain⟨⟨⟨k1,k2⟩,k3⟩,k4⟩:=h3;obtain⟨b1,b2,b3,b4⟩:=MY k3;obtain⟨y1,y2,y3⟩:=c.gl k1;subst k2;cases es with
 |nil=>rw[aY]at k4;cases k4
 |cons i fU=>
  rw[aY.eq_def]at k4;dsimp only at k4;simp only[and_eq_true]at k4;cases fU with
  |cons j fU=>have:=k4.2;rw[aY.eq_def]at this;cases this
  |nil=>
   have q:PE X (.Call (.Name (VS (.isin T)) p) [a,.Name (T:Str) yp] [] pos) (tV Φ (bd X cl) EX (.blt (.isin T) #[i])):=by refine(iX (MH (cl:=cl) (EX:=EX) (T:=T)) g1 (c.blt _ (show ("isinstance":Str)∈bltNames by decide)) MX (xZ (hs.2.1 Γ k X cl EX a c k4.1.2).1 (xZ (LS (v:=.ty T) y1 (c.blt _ b1) b2 rfl b3 b4) GA) (bq k4.1.1)) g3 g2 (bq k4.1.1)).imp λσ H Q aS=>?_;obtain⟨ρ,env,h,hE,r,p⟩:=aS;simp only[aN,z7,bw,dJ]at p;exact⟨ρ,env,h,hE,r,az p λv h1 ρ1 x H1 g1 r1 q1 p1=>⟨ρ1,h1,v,x,rfl,r1,q1,p1⟩⟩
   exact⟨q,dh q λ_=>rfl⟩
theorem Ij:bootBuiltins "set" = some (.type "set"):=by decide +kernel
theorem M0(ha:cG Φ a):cG Φ (.sset a):=by
 intro Γ k X cl EX e c h;apply oq h;intro x p1 q1 pos1 h;apply oK h;intro q2 h;apply oq h;intro y p2 q3 pos2 h;apply oK h;intro l h;simp only[and_eq_true,beq_iff_eq]at h;obtain⟨⟨⟨⟨⟨h1,h2⟩,h3⟩,h4⟩,h5⟩,h6⟩:=h;subst h1;subst h2;have q:PE X (.Call (.Name "sorted" p1) [.Call (.Name "set" p2) [l] [] pos2] [] pos1) (tV Φ (bd X cl) EX (.sset a)):=by have qe:=(ha Γ k X cl EX l c h6).1;intro pins s σ H Q I hh;have hd:X.A.handled=none:=I.ok.hd c.calm;refine((Mx hd (c.gl h3).1 (c.blt _ (by decide)) (c.gl h4).1 (c.blt _ (by decide)) wX Ij qe (bq (env:=X.env) (es:=[]) h5)).imp λσ H Q ⟨ρ,env,h,hE,r,p⟩=>?_) pins s σ H Q I hh;simp only[aN]at p;refine⟨ρ,env,h,hE,r,az p λv h1 ρ1 x H1 g1 r1 q1 p1=>?_⟩;obtain⟨zs,e,p1⟩:=aC p1;obtain⟨ns,e1,p1⟩:=ck p1;obtain⟨e2,p1⟩:=bg p1;obtain⟨b,ys,rfl,q2,q3⟩:=fT r1 q1 e;rw[fF e1]at q3;rw[aI.ints.mp q3]at q2;exact⟨b,ns,rfl,q2,aaK e2,λl hl=>dZ r1 hl (aI.ints.mpr rfl) p1⟩
 exact⟨q,dh q λ_=>rfl⟩
theorem M1{d k x:IE}(hd:cG Φ d)(hk:cG Φ k)(hx:cG Φ x):cG Φ (.dget d k x):=by
 intro Γ n X cl EX e c h;apply C3 h;intro o m ap q1 cp h;apply VH h;intro a b h;simp only[and_eq_true,beq_iff_eq]at h;obtain⟨⟨⟨⟨⟨⟨⟨h1,h2⟩,h3⟩,h4⟩,h5⟩,h6⟩,h7⟩,h8⟩:=h;subst h1;have st:starEach [a,b] X.env=[(false,eval a X.env),(false,eval b X.env)]:=by rw[bq h3,bq h4];rfl
 have m2:M2 X o "get" ap a b cp:=⟨super_ok h2,by rw[st];rfl,by rw[h5];exact beq_self_eq_true _,by rw[st];rfl⟩;have q:PE X (.Call (.Attribute o "get" ap) [a,b] [] cp) (tV Φ (bd X cl) EX (.dget d k x)):=by
  refine(GR (by have:=c.units;omega) (hd Γ n X cl EX o c h6).1 (hk Γ n X cl EX a c h7).1 (hx Γ n X cl EX b c h8).1 m2).imp λσ H Q aS=>?_;obtain⟨ρ,env,h,hE,r,p⟩:=aS;simp only[aN]at p;refine⟨ρ,env,h,hE,r,az p λv h1 ρ1 y H1 g1 r1 q1 p1=>?_⟩;obtain⟨u0,e1,pA⟩:=aC p1;clear p1;cases v<;>first|(cases e1;done)|(rw[VR]at q1;exact q1.elim)|skip
  rename_i i;rw[VR]at q1;obtain⟨ad,rfl,q1⟩:=q1;have hdc:∃kvs,h1[i]?=some (.dct kvs):=by
   change (match h1[i]? with|some (.dct _)=>some ()|_=>none)=some _ at e1;split at e1
   ·rename_i kvs e2;exact⟨kvs,e2⟩
   ·cases e1
  obtain⟨kvs,e2⟩:=hdc;obtain⟨ks,k1,k2⟩:=r1.ob i _ ad e2 q1;refine⟨ad,rfl,.inl ⟨ks,.inl k1⟩,ρ1,env,h1,hE.up g1,r1,az pA λw h2 ρ2 y2 H2 g2 r2 q2 p2=>?_⟩;obtain⟨kk,e3,p2⟩:=ck p2;refine⟨ρ2,env,h2,(hE.up g1).up g2,r2,az p2 λz h3 ρ3 y3 H3 g3 r3 q3 p3=>?_⟩;obtain⟨rr,e4,p3⟩:=aC p3;have q4:ρ3[i]?=some ad:=sP (g2.trans g3).pre q1;have hd3:∃kvs,h3[i]?=some (.dct kvs)/\rr=dm kvs kk:=by
   change (match h3[i]? with|some (.dct kvs)=>some (dm kvs kk)|_=>none)=some rr at e4;split at e4
   ·rename_i kvs e2;cases e4;exact⟨kvs,e2,rfl⟩
   ·cases e4
  obtain⟨Zy,e5,rfl⟩:=hd3;obtain⟨ks3,k3,k4⟩:=r3.ob i _ ad e5 q4;have ek:y2=kV kk:=by
   cases w<;>first|(cases e3;done)|skip
   ·cases e3;rw[VR]at q2;exact q2
   ·cases e3;rw[VR]at q2;exact q2
  refine⟨gM ks3 kk,by rw[ek];exact tR.k k3,?_⟩;cases ev:dm Zy kk with
  |none=>rw[ev]at p3;rw[(iP.val kk k4).1 ev];exact ai r3 p3 _ q3
  |some z'=>obtain⟨t,e6,q6⟩:=(iP.val kk k4).2 z' ev;rw[ev]at p3;rw[e6];exact ai r3 p3 _ q6
 exact⟨q,dh q λ_=>rfl⟩
theorem Dc{K:Frag}{ρ:List Addr}{H:Hp}:∀{kvs:List (Key×Val)} {ks:List (Key×V)},iP K ρ H kvs ks->aI K ρ H ((kvs.map (·.1)).map HH) (ks.map λkv=>kV kv.1)
 |[],ks,q=>by rw[iP]at q;subst q;exact rfl
 | (k,v)::kvs,ks,q=>by
  rw[iP]at q;obtain⟨x,r,rfl,_,q⟩:=q;refine⟨kV k,_,rfl,?_,Dc q⟩;cases k with
  |inl i=>exact VR.int
  |inr s=>exact VR.str
theorem E2{sf:Unit}:∀(σ:L2.St) (H:Hp) (Q:VK),tV Φ (bd X cl) EX (.lkeys d) σ H Q->tLK (tV Φ (bd X cl) EX d) σ H Q:=λσ H Q ⟨ρ,env,h,hE,r,p⟩=>by
 simp only[aN]at p;refine⟨ρ,env,h,hE,r,az p λv h1 ρ1 y H1 g1 r1 q1 p1=>?_⟩;obtain⟨ks0,e1,pA⟩:=aC p1;clear p1;cases v<;>first|(cases e1;done)|(rw[VR]at q1;exact q1.elim)|skip
 rename_i i;rw[VR]at q1;obtain⟨ad,rfl,q1⟩:=q1;have hdc:∃kvs,h1[i]?=some (.dct kvs)/\ks0=kvs.map (·.1):=by
  change (match h1[i]? with|some (.dct kvs)=>some (kvs.map (·.1))|_=>none)=some _ at e1;split at e1
  ·rename_i kvs e2;cases e1;exact⟨kvs,e2,rfl⟩
  ·cases e1
 obtain⟨kvs,e2,rfl⟩:=hdc;obtain⟨ks,k1,k2⟩:=r1.ob i _ ad e2 q1;exact⟨ad,ks,rfl,k1,λl hl=>dZ r1 hl (Dc k2) pA⟩
theorem Il(hd:cG Φ d):cG Φ (.lkeys d):=by
 intro Γ n X cl EX e c h
 ·apply oq h;intro x p q1 pos h
  apply oK h;intro q2 h;apply jK h;intro y qp h;simp only[and_eq_true,beq_iff_eq]at h;obtain⟨⟨h1,h3⟩,h6⟩:=h;subst h1;have q:PE X (.Call (.Name "list" p) [.Name y qp] [] pos) (tV Φ (bd X cl) EX (.lkeys d)):=by have qe:=(hd Γ n X cl EX _ c h6).1;intro pins s σ H Q I hh;have hdl:X.A.handled=none:=I.ok.hd c.calm;exact((EN hdl (bq rfl) (c.gl h3).1 (c.blt _ (by decide)) yq qe).imp (E2 (sf:=()))) pins s σ H Q I hh
  exact⟨q,dh q λ_=>rfl⟩
theorem M3{d k x:IE}(hd:cG Φ d)(hk:cG Φ k)(hx:cG Φ x):cG Φ (.sdef d k x):=ur λ_ _=>rfl
theorem Dd{α β:Type}{f:α -> β}:∀{l:List α},(l.map f).Nodup->∀a∈l,∀b∈l,f a=f b->a=b
 | x::l,h,a,ha,b,hb,e=>by
  rw[aau,aaS]at h
  rcases aaz.mp ha with e1|ha2
  ·rcases aaz.mp hb with e2|hb2
   ·rw[e1,e2]
   ·rw[e1]at e;exact(h.1 (e▸aaC hb2)).elim
  ·rcases aaz.mp hb with e2|hb2
   ·rw[e2]at e;exact(h.1 (e▸aaC ha2)).elim
   ·exact Dd h.2 a ha2 b hb2 e
theorem De{K:Frag}{ρ:List Addr}{H:Hp}:∀{kvs:List (Key×Val)} {ks:List (Key×V)},iP K ρ H kvs ks->ks.map (·.1)=kvs.map (·.1)
 |[],ks,q=>by rw[iP]at q;subst q;rfl
 | (k,v)::kvs,ks,q=>by
  rw[iP]at q;obtain⟨x,r,rfl,_,q⟩:=q;rw[aau,aau,De q]
theorem Ry:bootBuiltins "len" = some (.builtin "len"):=by decide +kernel
theorem Im(ha:cG Φ a):cG Φ (.skeys a):=by
 intro Γ k X cl EX e c h;apply oq h;intro x p1 q1 pos1 h;apply oK h;intro q2 h;apply oq h;intro y p2 q3 pos2 h;apply oK h;intro l h;simp only[and_eq_true,beq_iff_eq]at h;obtain⟨⟨⟨⟨⟨h1,h2⟩,h3⟩,h4⟩,h5⟩,h6⟩:=h;subst h1;subst h2;have q:PE X (.Call (.Name "len" p1) [.Call (.Name "set" p2) [l] [] pos2] [] pos1) (tV Φ (bd X cl) EX (.skeys a)):=by have qe:=(ha Γ k X cl EX l c h6).1;intro pins s σ H Q I hh;have hd:X.A.handled=none:=I.ok.hd c.calm;refine((MB hd (c.gl h3).1 (c.blt _ (by decide)) (c.gl h4).1 (c.blt _ (by decide)) Ry Ij qe (bq (env:=X.env) (es:=[]) h5)).imp λσ H Q ⟨ρ,env,h,hE,r,p⟩=>?_) pins s σ H Q I hh;simp only[aN]at p;refine⟨ρ,env,h,hE,r,az p λv h1 ρ1 x H1 g1 r1 q1 p1=>?_⟩;obtain⟨zs,e,p1⟩:=aC p1;obtain⟨ns,e1,p1⟩:=ck p1;obtain⟨e2,p1⟩:=bg p1;obtain⟨b,ys,rfl,q2,q3⟩:=fT r1 q1 e;rw[fF e1]at q3;rw[aI.ints.mp q3]at q2;exact⟨b,ns,rfl,q2,aaK e2,ai r1 p1 _ VR.int⟩
 exact⟨q,dh q λ_=>rfl⟩
theorem Io(ha:cG Φ a):cG Φ (.svals a):=by
 intro Γ n X cl EX e c h;apply C3 h;intro o m ap q cp h;apply mJ h;intro h;simp only[and_eq_true,beq_iff_eq]at h;obtain⟨⟨⟨h1,h4⟩,h5⟩,h6⟩:=h;subst h1;refine(λq=>⟨q,dh q λ_=>rfl⟩) ?_;refine(Qj PySem.F.plainAttrs_list PySem.F.slot_list_clear PySem.F.type_list_clear GK (ha Γ n X cl EX o c h6).1 (super_ok h4) (by rw[h5];exact beq_self_eq_true _)).imp λσ H Q ⟨ρ,env,h,hE,r,p⟩=>?_;simp only[aN]at p;refine⟨ρ,env,h,hE,r,az p λv h1 ρ1 x H1 g1 r1 q1 p1=>?_⟩
 match v,p1 with
 |.ref i,p1=>
  obtain⟨zs,e,p1⟩:=aC p1;split at e
  ·rename_i zs' e1;cases e;obtain⟨a,ys,rfl,q0,q1,q2⟩:=sQ r1 q1 e1;refine⟨.inl ⟨rfl,ys,.inl (.inl q1)⟩,a,ys,rfl,rfl,q1,?_⟩;exact uq (o:=.lst []) r1 q0 e1 q1 rfl ⟨_,aW,aI.nil⟩ p1
  ·cases e
theorem Rz(hs:n5 Φ es):cG Φ (.blt b es):=by
 cases b with
 |isin T=>exact MZ hs
 |_=>
  intro Γ k X cl EX e c h;apply oq h;intro x p args pos h;simp only[and_eq_true,beq_iff_eq]at h;obtain⟨⟨h1,h2⟩,h3⟩:=h;subst h2;obtain⟨g1,g2,g3⟩:=c.gl h1;cases args with
  |nil=>cases h3.1
  |cons l ls=>
   cases es with
   |nil=>have:=h3.2;rw[aY]at this;cases this
   |cons i fU=>
    have h5:=h3.2;rw[aY.eq_def]at h5;dsimp only at h5;simp only[and_eq_true]at h5;have hA:=hs.1 Γ k X cl EX _ c h3.2;have st:=bq (env:=X.env) (es:=ls) h5.1.1;have an:=jb (pos:=pos) (env:=X.env) h5.2;refine(λq=>⟨q,dh q λ_=>rfl⟩) ?_
    first
     |refine(iX (QG (cl:=cl) (EX:=EX)) g1 (c.blt _ (by decide)) PySem.boot_len hA g3 g2 st an).imp λσ H Q ⟨ρ,env,h,hE,r,p⟩=>?_
     |refine(iX (QH (cl:=cl) (EX:=EX) c.calm) g1 (c.blt _ (by decide)) Rw hA g3 g2 st an).imp λσ H Q ⟨ρ,env,h,hE,r,p⟩=>?_
     |refine(iX (QI (cl:=cl) (EX:=EX) c.calm) g1 (c.blt _ (by decide)) Rx hA g3 g2 st an).imp λσ H Q ⟨ρ,env,h,hE,r,p⟩=>?_
     |refine(iX (EU (cl:=cl) (EX:=EX)) g1 (c.blt _ (by decide)) wX hA g3 g2 st an).imp λσ H Q ⟨ρ,env,h,hE,r,p⟩=>?_
     |refine(iX (QL (cl:=cl) (EX:=EX) c.calm) g1 (c.blt _ (by decide)) Ru hA g3 g2 st an).imp λσ H Q ⟨ρ,env,h,hE,r,p⟩=>?_
     |refine(iX (QM (cl:=cl) (EX:=EX) c.calm) g1 (c.blt _ (by decide)) Rv hA g3 g2 st an).imp λσ H Q ⟨ρ,env,h,hE,r,p⟩=>?_
     |refine(nI (MF (cl:=cl) (EX:=EX)) g1 (c.blt _ (by decide)) yq hA g3 g2 st an).imp λσ H Q ⟨ρ,env,h,hE,r,p⟩=>?_
     |refine(nI (HQ (cl:=cl) (EX:=EX)) g1 (c.blt _ (by decide)) z6 hA g3 g2 st an).imp λσ H Q ⟨ρ,env,h,hE,r,p⟩=>?_
     |refine(nI (QJ (cl:=cl) (EX:=EX)) g1 (c.blt _ (by decide)) Ih hA g3 g2 st an).imp λσ H Q ⟨ρ,env,h,hE,r,p⟩=>?_
     |refine(nI (QK (cl:=cl) (EX:=EX)) g1 (c.blt _ (by decide)) Ii hA g3 g2 st an).imp λσ H Q ⟨ρ,env,h,hE,r,p⟩=>?_
    simp only[aN]at p;exact⟨ρ,env,h,hE,r,bQ p λvs h1 ρ1 H1 g1 r1 p1 xs q1=>⟨ρ1,h1,vs,r1,q1,p1⟩⟩
def meT:Me->String
 |.join=>"str" | .append=>"list" | .extend=>"list"
theorem M4(r:HR B ρ h H)(q:VR B.K ρ H v x)(e:recv h m v=some ()):Yd B.K (meT m) x H:=by
 cases m<;>cases v<;>simp only[recv]at e<;>first|cases e|skip
 ·rw[VR]at q;subst q;rfl
 all_goals
  split at e
  ·rename_i xs e1;obtain⟨a,ys,rfl,q0,q1,q2⟩:=sQ r q e1;exact .inl ⟨rfl,ys,.inl (.inl q1)⟩
  ·cases e
theorem RA(ha:cG Φ a)(hs:n5 Φ es):cG Φ (.met m a es):=by
 intro Γ k X cl EX e c h;apply C3 h;intro o x ap args cp h;simp only[and_eq_true,beq_iff_eq]at h;obtain⟨⟨⟨⟨⟨⟨h1,h2⟩,h3⟩,h4⟩,h5⟩,h6⟩,h7⟩:=h;subst h1;cases args with
 |nil=>cases h3
 |cons l ls=>
  have hA:=hs.1 Γ k X cl EX _ c h7;have h8:noStar l=true/\∃fU,aY Γ fU ls=true:=by
   cases es with
   |nil=>rw[aY]at h7;cases h7
   |cons i fU=>rw[aY.eq_def]at h7;dsimp only at h7;simp only[and_eq_true]at h7;exact⟨h7.1.1,fU,h7.2⟩
  obtain⟨n1,fU,n2⟩:=h8;have st:=bq (env:=X.env) (es:=ls) n1;have an:=jb (pos:=cp) (env:=X.env) n2;have few:((backTo cp (starEach (l::ls) X.env)).all (λx=>!x.1)&&(backToKw cp (keywordEach [] X.env)).all (λx=>x.1.isSome)
   && decide ((l::ls).length+([]:List Keyword).length+(if ([]:List Keyword).isEmpty then 0 else 1)<30))=true:=by
   rw[zZ h7];have:(l::ls).length<29:=aaK h4;simp only[Bool.true_and,and_eq_true];exact⟨rfl,decide_eq_true (by simp at this |-;omega)⟩
  have hl:(ap.endLine==cp.line)=true:=by rw[h5];exact beq_self_eq_true _
  refine(λq=>⟨q,dh q λ_=>rfl⟩) ?_;have fin:∀(T:String) (r:V->List V->Hp->VK->Prop),(∀x xs H Q,Yk (bd X cl) EX m x xs H Q->r x xs H Q)->T=meT m->∀σ H Q,tV Φ (bd X cl) EX (.met m a es) σ H Q->tBM X.K T r (tV Φ (bd X cl) EX a) (tVs Φ (bd X cl) EX es) σ H Q:=by rintro T rr hr rfl σ H Q ⟨ρ,env,h,hE,r,p⟩;simp only[aN]at p;refine⟨ρ,env,h,hE,r,az p λv h1 ρ1 x H1 g1 r1 q1 p1=>?_⟩;obtain⟨_,e1,p2⟩:=aC p1;refine⟨M4 r1 q1 e1,ρ1,env,h1,hE.up g1,r1,bQ p2 λvs h2 ρ2 H2 g2 r2 p3 xs q2=>hr _ _ _ _ ⟨ρ2,h2,v,vs,r2,VR.up g2 _ _ q1,q2,p3⟩⟩
  cases m with
  |join=>exact(GI PySem.F.plainAttrs_str PySem.F.slot_str_join PySem.F.type_str_join (MI (cl:=cl) (EX:=EX)) (ha Γ k X cl EX o c h6).1 hA (super_ok h2) few hl st an).imp (fin _ _ (λ_ _ _ _ z=>z) rfl)
  |append=>exact(GI PySem.F.plainAttrs_list PySem.F.slot_list_append PySem.F.type_list_append (EW (cl:=cl) (EX:=EX)) (ha Γ k X cl EX o c h6).1 hA (super_ok h2) few hl st an).imp (fin _ _ (λ_ _ _ _ z=>z) rfl)
  |extend=>exact(GI PySem.F.plainAttrs_list PySem.F.slot_list_extend PySem.F.type_list_extend (EY (cl:=cl) (EX:=EX)) (ha Γ k X cl EX o c h6).1 hA (super_ok h2) few hl st an).imp (fin _ _ (λ_ _ _ _ z=>z) rfl)
end
theorem _root_.L2.PI.or(h:PI X tg iter t)(h':PI X tg iter t'):PI X tg iter (λσ H R=>t σ H R\/t' σ H R):=λpins s σ H R I hw=>hw.elim (h pins s σ H R I) (h' pins s σ H R I)
structure Walks (B:Bd) (src:Src) (J:It) (ρ1:List Addr) (H1:Hp):Prop where
 stop:∀{ρ h H i xs},Gw ρ1 H1 ρ H->HR B ρ h H->src.items h=some xs->xs.length<=i->J.stop i H
 go:∀{ρ h H i xs v},Gw ρ1 H1 ρ H->HR B ρ h H->src.items h=some xs->xs[i]?=some v->J.go i H
 El:∀{ρ h H i xs v y H'},Gw ρ1 H1 ρ H->HR B ρ h H->src.items h=some xs->xs[i]?=some v->J.El i H y H'->Gr ρ H ρ H'/\HR B ρ h H'/\VR B.K ρ H' v y
section
variable {B:Bd} {ρ1:List Addr} {H1:Hp} {a:Addr}
theorem E4(q:mh B.K H1 a xs)(e:aI B.K ρ1 H1 vs xs):Walks B (.fix vs) (YO B.K a) ρ1 H1 where
 stop:=λg r hi hl=>by
  cases hi;exact⟨xs,g.Yi q,by rw[<-e.length];exact hl⟩
 go:=λg r hi hv=>by
  cases hi;obtain⟨x,k1,_⟩:=e.get hv;exact⟨xs,x,g.Yi q,k1⟩
 El:=λg r hi hv y=>by
  cases hi;obtain⟨rfl,y⟩:=y;obtain⟨x,k1,k2⟩:=e.get hv;have:=y xs (g.Yi q);rw[k1]at this;cases this;exact⟨Gr.refl,r,VR.nZ g _ _ k2⟩
theorem Ip(q:QA B.K H1 a xs)(e:aI B.K ρ1 H1 vs xs):Walks B (.fix vs) (X5 B.K a) ρ1 H1 where
 stop:=λg r hi hl=>by
  cases hi;exact⟨xs,(g.VB q).sq,by rw[<-e.length];exact hl⟩
 go:=λg r hi hv=>by
  cases hi;obtain⟨x,k1,_⟩:=e.get hv;exact⟨xs,x,(g.VB q).sq,k1⟩
 El:=λg r hi hv y=>by
  cases hi;obtain⟨rfl,y⟩:=y;obtain⟨x,k1,k2⟩:=e.get hv;have:=y xs (g.VB q).sq;rw[k1]at this;cases this;exact⟨Gr.refl,r,VR.nZ g _ _ k2⟩
theorem sV{i:Nat}(q:ρ1[i]?=some a)(g:Gw ρ1 H1 ρ H)(r:HR B ρ h H)(hi:(Src.live i).items h=some xs):∃ys,iD B.K H a ys/\aI B.K ρ H xs ys:=by
 obtain⟨b,ys,e,k1,k2⟩:=fT r (VR.ref (sP g.pre q)) (show aB h (.ref i)=some xs from hi);cases e;exact⟨ys,k1,k2⟩
theorem Ca{i:Nat}(q:ρ1[i]?=some a):Walks B (.live i) (X5 B.K a) ρ1 H1 where
 stop:=λg r hi hl=>by
  obtain⟨ys,k1,k2⟩:=sV q g r hi;exact⟨ys,k1,by rw[<-k2.length];exact hl⟩
 go:=λg r hi hv=>by
  obtain⟨ys,k1,k2⟩:=sV q g r hi;obtain⟨x,k3,_⟩:=k2.get hv;exact⟨ys,x,k1,k3⟩
 El:=λg r hi hv y=>by
  obtain⟨ys,k1,k2⟩:=sV q g r hi;obtain⟨rfl,y⟩:=y;obtain⟨x,k3,k4⟩:=k2.get hv;have:=y ys k1;rw[k3]at this;cases this;exact⟨Gr.refl,r,k4⟩
theorem jY(lo:Int)(n:Nat):(cB lo n).length=n:=by unfold cB;simp
theorem rP{lo:Int}{n:Nat}:Walks B (.fix (cB lo n)) (UQ lo n) ρ1 H1 where
 stop:=λg r hi hl=>by
  cases hi;rw[jY]at hl;exact hl
 go:=λg r hi hv=>by
  cases hi;have:=(aao.mp hv).1;rw[jY]at this;exact this
 El:=λ{ρ h H i xs v y H'} g r hi hv y'=>by
  cases hi;obtain⟨rfl,rfl⟩:=y';have hl:=(aao.mp hv).1;rw[jY]at hl;have e:(cB lo n)[i]?=some (.int (lo+i)):=by unfold cB;simp[hl]
  rw[e]at hv;cases hv;exact⟨Gr.refl,r,VR.int⟩
end
theorem uu:∀{xs ys:List Val} {i:Nat} {v:Val},(gj xs ys)[i]?=some v->∃a b,xs[i]?=some a/\ys[i]?=some b/\v=.tup [a,b]
 |[],_,i,v,e=>by rw[gj.eq_def]at e;simp at e
 |a::r,[],i,v,e=>by rw[gj.eq_def]at e;simp at e
 |a::r,b::t,0,v,e=>by rw[gj]at e;simp at e;exact⟨a,b,rfl,rfl,e.symm⟩
 |a::r,b::t,i+1,v,e=>by rw[gj]at e;simp at e;obtain⟨x,y,h1,h2,h3⟩:=uu e;exact⟨x,y,by simpa using h1,by simpa using h2,h3⟩
theorem z8:∀{xs ys:List Val} {i:Nat},(gj xs ys).length<=i->xs.length<=i\/ys.length<=i
 |[],_,i,_=>.inl (abi _)
 |a::r,[],i,_=>.inr (abi _)
 |a::r,b::t,0,e=>by rw[gj]at e;simp at e
 | a::r,b::t,i+1,e=>by
  rw[gj,aaH]at e
  rcases z8 (Nat.le_of_succ_le_succ e) with h|h
  ·exact .inl (Nat.succ_le_succ h)
  ·exact .inr (Nat.succ_le_succ h)
theorem nO(hi:(Src.zip v w).items h=some vs):∃xs ys,aB h v=some xs/\aB h w=some ys/\vs=gj xs ys:=by
 obtain⟨xs,e1,e2⟩:=aah.mp hi;obtain⟨ys,e3,e4⟩:=aaY.mp e2;exact⟨xs,ys,e1,e3,e4.symm⟩
def Cb(B:Bd)(ρ1:List Addr)(H1:Hp)(v:Val)(a:Addr):Prop:=∀{ρ:List Addr} {h:Hs} {H:Hp} {xs:List Val},Gw ρ1 H1 ρ H->HR B ρ h H->aB h v=some xs->∃ys,iD B.K H a ys/\aI B.K ρ H xs ys
theorem Df{ρ1:List Addr}{h1:Hs}{H1:Hp}(hx:VR B.K ρ1 H1 v x)(w:aB h1 v=some us):∃a,x=.ref a/\Cb B ρ1 H1 v a:=by
 cases v<;>first|(cases w;done)|skip
 ·rw[VR]at hx;obtain⟨a,xs,rfl,k1,k2⟩:=hx;exact⟨a,rfl,λg r e=>by cases e;exact⟨xs,(g.VB k1).sq,aI.nZ g _ _ k2⟩⟩
 ·rw[VR]at hx;obtain⟨a,rfl,k1⟩:=hx;exact⟨a,rfl,λg r e=>sV k1 g r e⟩
theorem E5{ρ1:List Addr}{H1:Hp}(q:Cb B ρ1 H1 v a)(q':Cb B ρ1 H1 w b):Walks B (.zip v w) (Zo B.K a b) ρ1 H1 where
 stop:=λg r hi hl=>by
  obtain⟨zs,ws,e1,e2,rfl⟩:=nO hi;obtain⟨ys,k1,k2⟩:=q g r e1;obtain⟨ys',VX,VY⟩:=q' g r e2;refine⟨ys,ys',k1,VX,?_⟩;rw[<-k2.length,<-VY.length];exact z8 hl
 go:=λg r hi hv=>by
  obtain⟨zs,ws,e1,e2,rfl⟩:=nO hi;obtain⟨ys,k1,k2⟩:=q g r e1;obtain⟨ys',VX,VY⟩:=q' g r e2;obtain⟨d,d',h1,h2,_⟩:=uu hv;obtain⟨x,k3,_⟩:=k2.get h1;obtain⟨x',Zz,_⟩:=VY.get h2;exact⟨ys,ys',x,x',k1,VX,k3,Zz⟩
 El:=λg r hi hv y=>by
  obtain⟨zs,ws,e1,e2,rfl⟩:=nO hi;obtain⟨ys,k1,k2⟩:=q g r e1;obtain⟨ys',VX,VY⟩:=q' g r e2;obtain⟨d,d',h1,h2,rfl⟩:=uu hv;obtain⟨x,k3,k4⟩:=k2.get h1;obtain⟨x',Zz,k4'⟩:=VY.get h2;obtain⟨p,u,w,hn,rfl,rfl,hy⟩:=y;obtain⟨y1,y2⟩:=hy ys ys' k1 VX;rw[k3]at y1;cases y1;rw[Zz]at y2;cases y2;exact⟨Gr.side hn,r.side hn,VR.tup (mh.of aW) (aI.cons (VR.up (Gr.side hn) _ _ k4) (aI.cons (VR.up (Gr.side hn) _ _ k4') aI.nil))⟩
section
variable {Φ:Fn} {Γ:sS} {k:Nat} {X:Cx} {cl:Nat->Addr} {EX:Nat->List V->Hp->Prop}
def Ul(Φ:Fn)(ik:Ik)(it:pJ)(env:Env):M Src:=bnd (bu Φ it env) λits=>bB (srcOf ik its)
def tI(Φ:Fn)(B:Bd)(EX:Nat->List V->Hp->Prop)(ik:Ik)(it:pJ):TI:=λσ H R=>∃ρ env h,eE B.K ρ env σ H/\HR B ρ h H /\
 Post B EX ρ H (λsrc h' ρ' H'=>(∃xs,src.items h'=some xs)/\∀J,Walks B src J ρ' H'->R J H') (Ul Φ ik it env h)
theorem OY(hs:n5 Φ it)(c:Ctx Φ Γ k X cl EX)(h:C6 Γ ik it iter=true)(ht:ik=.enum\/ik=.zip->∃es kk pos,tg=.Tuple es kk pos):PI X tg iter (tI Φ (bd X cl) EX ik it)/\∀x,foldedSetIterable iter X.env x=pure x:=by
 cases it with
 |nil=>rw[C6]at h;cases h
 |cons e es=>
  cases ik with
  |seq=>
   replace h:=Ie h;obtain⟨rfl,h⟩:=h;simp only[and_eq_true]at h;have q:=(hs.2.1 Γ k X cl EX iter c h.2).1;refine⟨((L0 q).or (PY q)).imp λσ H R ⟨ρ,env,h,hE,r,p⟩=>?_,λx=>?_⟩
   ·simp only[Ul,z7,bw,dJ]at p
    have key:∀(Q:VK),(∀v h1 ρ1 x H1,aN Φ e env h=.ok v h1->Gr ρ H ρ1 H1->HR (bd X cl) ρ1 h1 H1->VR X.K ρ1 H1 v x->Post (bd X cl) EX ρ1 H1 (λsrc h' ρ' H'=>(∃xs,src.items h'=some xs)/\∀J,Walks (bd X cl) src J ρ' H'->R J H') (bB (srcOf .seq [v]) h1)->Q x H1)->tV Φ (bd X cl) EX e σ H Q:=λQ kk=>
     ⟨ρ,env,h,hE,r,gy p λv h1 ρ1 H1 e1 g1 r1 p1 x q1=>kk v h1 ρ1 x H1 e1 g1 r1 q1 p1⟩
    cases ev:aN Φ e env h with
    |ok v h1=>
     cases v with
     |tup vs=>refine .inr (key _ λv h1 ρ1 x H1 e1 g1 r1 q1 p1=>?_);rw[ev]at e1;cases e1;obtain⟨src,e2,w1,w2⟩:=dg r1 p1;cases e2;rw[VR]at q1;obtain⟨a,xs,rfl,k1,k2⟩:=q1;exact⟨a,rfl,⟨xs,k1⟩,w2 _ (E4 k1 k2)⟩
     |rl vs=>refine .inl (key _ λv h1 ρ1 x H1 e1 g1 r1 q1 p1=>?_);rw[ev]at e1;cases e1;obtain⟨src,e2,w1,w2⟩:=dg r1 p1;cases e2;rw[VR]at q1;obtain⟨a,xs,rfl,k1,k2⟩:=q1;exact⟨a,rfl,⟨xs,k1.sq⟩,w2 _ (Ip k1 k2)⟩
     |ref i=>refine .inl (key _ λv h1 ρ1 x H1 e1 g1 r1 q1 p1=>?_);rw[ev]at e1;cases e1;obtain⟨src,e2,⟨zs,w1⟩,w2⟩:=dg r1 p1;cases e2;have q0:=q1;rw[VR]at q1;obtain⟨a,rfl,k1⟩:=q1;obtain⟨b,ys,e3,k2,k3⟩:=fT r1 q0 (show aB h1 (.ref i)=some zs from w1);cases e3;exact⟨a,rfl,⟨ys,k2⟩,w2 _ (Ca k1)⟩
     |_=>refine .inl (key _ λv h1 ρ1 x H1 e1 g1 r1 q1 p1=>?_);rw[ev]at e1;cases e1;obtain⟨src,e2,_⟩:=dg r1 p1;cases e2
    |exc _ _ _=>exact .inl (key _ λv h1 ρ1 x H1 e1=>by rw[ev]at e1;cases e1)
    |no=>exact .inl (key _ λv h1 ρ1 x H1 e1=>by rw[ev]at e1;cases e1)
   ·cases iter<;>first|rfl|(exact absurd h.1 aaj)
  |range=>
   apply oq h;intro x xp q1 pos h;apply B6 h;intro a args h;simp only[and_eq_true,beq_iff_eq]at h;obtain⟨⟨⟨⟨⟨h1,h2⟩,h3⟩,h4⟩,h5⟩,h6⟩:=h;subst h1;obtain⟨g1,g2,g3⟩:=c.gl h2;have hm:=c.blt _ (show ("range":Str)∈bltNames by decide);refine⟨?_,λx=>rfl⟩;have hA:=hs.1 Γ k X cl EX (a::args) c (by rw[aY.eq_def];simp[h3,h4,h5]);cases args with
   |nil=>
    cases es with
    |cons i fU=>rw[aY.eq_def]at h5;cases h5
    |nil=>
     refine(En g1 hm hA (bq h3)).imp λσ H R aS=>?_;obtain⟨ρ,env,h,hE,r,p⟩:=aS;refine⟨ρ,env,h,hE,r,gy p λvs h1 ρ1 H1 e1 gr1 r1 p1 xs q1=>?_⟩;obtain⟨src,e2,w1,w2⟩:=dg r1 p1
     match vs,e2 with
     |[.int n],e2=>
      change (if inR n=true then some (Src.fix (cB 0 n.toNat)) else none)=some src at e2;split at e2
      ·rename_i hn;cases e2;simp only[inR,and_eq_true,decide_eq_true_eq]at hn;obtain⟨x,rfl,hx⟩:=aI.one q1;rw[VR]at hx;subst hx;exact⟨n,rfl,hn.1,hn.2,w2 _ rP⟩
      ·cases e2
     |[.int _,.int _],e2=>have:=mK (Γ:=Γ) (ls:=[a]) (by rw[aY.eq_def];simp[h3,h4,aY]) e1;simp at this
   |cons b args=>
    cases args with
    |cons _ _=>have:=aaK h6;simp only[length_cons]at this;omega
    |nil=>
     have hb:noStar b=true:=by
      cases es with
      |nil=>rw[aY]at h5;cases h5
      |cons i fU=>rw[aY.eq_def]at h5;dsimp only at h5;simp only[and_eq_true]at h5;exact h5.1.1
     refine(Eo g1 hm hA (by rw[bq h3,bq hb];rfl) (by rw[bq hb];rfl)).imp λσ H R aS=>?_;obtain⟨ρ,env,h,hE,r,p⟩:=aS;refine⟨ρ,env,h,hE,r,gy p λvs h1 ρ1 H1 e1 gr1 r1 p1 xs q1=>?_⟩;obtain⟨src,e2,w1,w2⟩:=dg r1 p1
     match vs,e2 with
     |[.int _],e2=>have:=mK (Γ:=Γ) (ls:=[a,b]) (by rw[aY.eq_def];simp[h3,h4,h5]) e1;simp at this
     |[.int lo,.int hi],e2=>
      change (if (inR lo&&inR hi)=true then some (Src.fix (cB lo (hi-lo).toNat)) else none)=some src at e2;split at e2
      ·rename_i hn;cases e2;simp only[inR,and_eq_true,decide_eq_true_eq]at hn;obtain⟨x,y,rfl,hx,hy⟩:=aI.two q1;rw[VR]at hx;rw[VR]at hy;subst hx;subst hy;exact⟨lo,hi,rfl,⟨hn.1.1,hn.1.2,hn.2.1,hn.2.2⟩,w2 _ rP⟩
      ·cases e2
  |enum=>cases h
  |zip=>
   cases es with
   |nil=>cases h
   |cons e2 es=>
   replace h:=Ie h;obtain⟨rfl,h⟩:=h;apply oq h;intro x xp q1 pos h;apply VH h;intro a b h;simp only[and_eq_true,beq_iff_eq]at h;obtain⟨⟨⟨⟨⟨h1,h2⟩,h3⟩,h4⟩,h5⟩,h6⟩:=h;subst h1;obtain⟨g1,g2,g3⟩:=c.gl h2;have hm:=c.blt _ (show ("zip":Str)∈bltNames by decide);obtain⟨tes,tk,tp,rfl⟩:=ht (.inr rfl);refine⟨?_,λx=>rfl⟩;have hA:=hs.1 Γ k X cl EX [a,b] c (by rw[aY.eq_def];simp[h3,h4,h5,h6,aY]);refine(Qy g1 hm hA (by rw[bq h3,bq h5];rfl) (by rw[bq h5];rfl)).imp λσ H R aS=>?_;obtain⟨ρ,env,h,hE,r,p⟩:=aS;refine⟨ρ,env,h,hE,r,gy p λvs h1 ρ1 H1 e1 gr1 r1 p1 xs q1=>?_⟩;obtain⟨src,e3,⟨zs,w1⟩,w2⟩:=dg r1 p1
   match vs,e3 with
   |[v,w],e3=>cases e3;obtain⟨x,y,rfl,hx,hy⟩:=aI.two q1;obtain⟨us,ws,w3,w4,_⟩:=nO w1;obtain⟨b1,rfl,k1⟩:=Df (B:=bd X cl) hx w3;obtain⟨b2,rfl,k2⟩:=Df (B:=bd X cl) hy w4;obtain⟨ys,m1,_⟩:=k1 Gr.refl.w r1 w3;obtain⟨ys',m2,_⟩:=k2 Gr.refl.w r1 w4;exact⟨b1,b2,rfl,⟨ys,m1⟩,⟨ys',m2⟩,w2 _ (E5 k1 k2)⟩
end
section
variable {Φ:Fn} {Γ:sS} {k:Nat} {X:Cx} {cl:Nat->Addr} {EX:Nat->List V->Hp->Prop}
def uv:List Nat->Uc
 |[]=>UN
 |i::is=>OE (rH i) (uv is)
def E6(K:Frag):B3->TG
 |.one i=>rH i
 |.tup is=>UO K is.length (uv is)
def jZ:List Nat->List V->L2.St->L2.St
 |i::is,v::vs,σ=>jZ is vs (σ.set i (some v))
 |_,_,σ=>σ
theorem qH:∀{is:List Nat} {vs:List V} {σ:L2.St} {H:Hp} {Q:L2.St->Hp->Prop},vs.length=is.length->Q (jZ is vs σ) H->uv is vs σ H Q
 |[],[],_,_,_,_,h=>⟨rfl,h⟩
 |i::is,v::vs,σ,H,Q,hl,h=>⟨v,vs,rfl,qH (by simpa using hl) h⟩
theorem wY(hnd:X.N.Nodup):∀{is:List Nat} {es:List Expr},es.length=is.length->(∀p∈is.zip es,∃x pos,p.2=.Name x pos/\X.N[p.1]?=some x/\X.env.scope.names.lookup x=some .local)->Ud X es (uv is)
 |[],[],_,_=>Cy
 | i::is,e::es,hl,h=>by
  obtain⟨x,pos,rfl,h1,h2⟩:=h (i,e) (by simp);exact zk (sJ hnd h1 (.inl h2) (.inr h2)) (wY hnd (by simpa using hl) λp hp=>h p (by simp[hp]))
theorem jc:∀{es:List Expr},(∀e∈es,∃x pos,e=.Name x pos)->(assignEach es env).length=es.length/\(assignEach es env).findIdx? (·.1)=none
 |[],_=>⟨rfl,rfl⟩
 | e::es,h=>by
  obtain⟨x,pos,rfl⟩:=h e aam;obtain⟨h1,h2⟩:=jc (env:=env) (es:=es) λe he=>h e (aal _ he);have e1:assignEach (Expr.Name x pos::es) env=(false,assign (Expr.Name x pos) env)::assignEach es env:=rfl;rw[e1];refine⟨by simp[h1],?_⟩;rw[List.findIdx?_cons,h2];rfl
theorem Iq{i:Nat}(h:zX Γ (.one i) tg=true):∃x p,tg=.Name x p:=by
 cases tg<;>first|exact⟨_,_,rfl⟩|exact absurd h aaj
theorem z9{is:List Nat}(h:zX Γ (.tup is) tg=true):∃es k p,tg=.Tuple es k p:=by
 cases tg<;>first|exact⟨_,_,_,rfl⟩|exact absurd h aaj
theorem Ir(c:Ctx Φ Γ k X cl EX)(hnd:X.N.Nodup)(h:zX Γ pat tg=true):PG X tg (E6 X.K pat):=by
 cases pat with
 |one i=>obtain⟨x,xp,rfl⟩:=Iq h;simp only[zX,and_eq_true,beq_iff_eq]at h;obtain⟨h1,h2⟩:=h;exact sJ hnd (by rw[c.N];exact h1) (.inl (by rw[c.sc];exact h2)) (.inr (by rw[c.sc];exact h2))
 |tup is=>
  obtain⟨es,kk,pos,rfl⟩:=z9 h
  ·
   simp only[zX,and_eq_true,beq_iff_eq,all_eq_true]at h;obtain⟨h1,h2⟩:=h;have names:∀p∈is.zip es,∃x pos,p.2=.Name x pos/\X.N[p.1]?=some x/\X.env.scope.names.lookup x=some .local:=λp hp=>by
    have q:=h2 p hp;cases ep:p.2<;>rw[ep]at q<;>simp at q;rename_i x pos';exact⟨x,pos',rfl,by rw[c.N];exact q.1,by rw[c.sc];exact q.2⟩
   have all:∀e∈es,∃x pos,e=.Name x pos:=λe he=>by
    obtain⟨n,hn,rfl⟩:=List.getElem_of_mem he;have hm:(is[n]'(by omega),es[n])∈is.zip es:=List.mem_iff_getElem?.mpr ⟨n,by rw[List.getElem?_zip_eq_some];simp[hn]⟩;obtain⟨x,pos,q,_⟩:=names _ hm;exact⟨x,pos,q⟩
   obtain⟨l1,l2⟩:=jc (env:=X.env) all;exact Gm c.calm (wY hnd h1 names) (by rw[l1,h1]) l2
def Aa(Γ:sS):B3->Expr->Bool
 |.one i,.Name x _=>Γ.N[i]?==some x&&(Γ.sc.names.lookup x==some .local || Γ.sc.names.lookup x==some .cell)
 | .tup is,.Tuple es _ _=>es.length==is.length&&(is.zip es).all λp=>match p.2 with
  |.Name x _=>Γ.N[p.1]?==some x&&(Γ.sc.names.lookup x==some .local || Γ.sc.names.lookup x==some .cell)
  |_=>false
 |_,_=>false
theorem uw(hfn:∀x,X.fn x=true)(hnd:X.N.Nodup):∀{is:List Nat} {es:List Expr},es.length=is.length->(∀p∈is.zip es,∃x pos,p.2=.Name x pos/\X.N[p.1]?=some x/\Loc X.env.scope x)->Ud X es (uv is)
 |[],[],_,_=>Cy
 | i::is,e::es,hl,h=>by
  obtain⟨x,pos,rfl,h1,h2⟩:=h (i,e) (by simp);exact zk (sJ hnd h1 h2 (.inl (hfn x))) (uw hfn hnd (by simpa using hl) λp hp=>h p (by simp[hp]))
theorem ux{i:Nat}(h:Aa Γ (.one i) tg=true):∃x p,tg=.Name x p:=by
 cases tg<;>first|exact⟨_,_,rfl⟩|exact absurd h aaj
theorem pN{is:List Nat}(h:Aa Γ (.tup is) tg=true):∃es k p,tg=.Tuple es k p:=by
 cases tg<;>first|exact⟨_,_,_,rfl⟩|exact absurd h aaj
theorem Dg(c:Ctx Φ Γ k X cl EX)(hfn:∀x,X.fn x=true)(hnd:X.N.Nodup)(h:Aa Γ pat tg=true):PG X tg (E6 X.K pat):=by
 have loc:∀x,(Γ.sc.names.lookup x==some .local || Γ.sc.names.lookup x==some .cell)=true->Loc X.env.scope x:=λx e=>by
  unfold L2.Loc;rw[c.sc];simpa using e
 cases pat with
 |one i=>obtain⟨x,pos,rfl⟩:=ux h;simp only[Aa,and_eq_true,beq_iff_eq]at h;obtain⟨h1,h2⟩:=h;exact sJ hnd (by rw[c.N];exact h1) (loc _ h2) (.inl (hfn _))
 |tup is=>
  obtain⟨es,kk,pos,rfl⟩:=pN h
  ·
   simp only[Aa,and_eq_true,beq_iff_eq,all_eq_true]at h;obtain⟨h1,h2⟩:=h;have names:∀p∈is.zip es,∃x pos,p.2=.Name x pos/\X.N[p.1]?=some x/\Loc X.env.scope x:=λp hp=>by
    have q:=h2 p hp;cases ep:p.2<;>rw[ep]at q<;>first|cases q|skip
    rename_i x pos';simp only[and_eq_true,beq_iff_eq]at q;exact⟨x,pos',rfl,by rw[c.N];exact q.1,loc _ q.2⟩
   have all:∀e∈es,∃x pos,e=.Name x pos:=λe he=>by
    obtain⟨n,hn,rfl⟩:=List.getElem_of_mem he;have hm:(is[n]'(by omega),es[n])∈is.zip es:=List.mem_iff_getElem?.mpr ⟨n,by rw[List.getElem?_zip_eq_some];simp[hn]⟩;obtain⟨x,pos,q,_⟩:=names _ hm;exact⟨x,pos,q⟩
   obtain⟨l1,l2⟩:=jc (env:=X.env) all;exact Gm c.calm (uw hfn hnd h1 names) (by rw[l1,h1]) l2
theorem eE.set{K:Frag}{ρ:List Addr}{env:Env}{σ:L2.St}{H:Hp}{i:Nat}{v:Val}{x:V}(e:eE K ρ env σ H)(hl:env.length = σ.length)(q:VR K ρ H v x):eE K ρ (env.set i (some v)) (σ.set i (some x)) H:=λj w hj=>by
 by_cases hij:i=j
 ·subst hij
  have hi:i<env.length:=by have:=(aao.mp hj).1;simpa using this
  rw[aat hi]at hj;cases hj;exact⟨x,by rw[aat (by rw[<-hl];exact hi)],q⟩
 ·rw[aan hij]at hj;rw[aan hij];exact e j w hj
theorem oM{K:Frag}{ρ:List Addr}{H:Hp}:∀{is:List Nat} {ds:List Val} {xs:List V} {env env':Env} {σ:L2.St},bindAll is ds env=some env'->aI K ρ H ds xs->eE K ρ env σ H->env.length = σ.length->eE K ρ env' (jZ is xs σ) H/\env'.length=(jZ is xs σ).length/\(jZ is xs σ).length = σ.length/\xs.length=is.length
 | [],[],xs,env,env',σ,e,q,hE,hl=>by
  rw[aI]at q;subst q;simp only[bindAll]at e;cases e;exact⟨hE,hl,rfl,rfl⟩
 | i::is,d::ds,xs,env,env',σ,e,q,hE,hl=>by
  rw[aI]at q;obtain⟨x,r,rfl,q1,q2⟩:=q;simp only[bindAll]at e;obtain⟨a1,a2,a3,a4⟩:=oM e q2 (hE.set hl q1) (by simp[hl]);exact⟨a1,a2,by rw[show jZ (i::is) (x::r) σ = jZ is r (σ.set i (some x)) from rfl,a3];simp,by simp[a4]⟩
 |[],_::_,_,_,_,_,e,_,_,_=>by simp[bindAll]at e
 |_::_,[],_,_,_,_,e,_,_,_=>by simp[bindAll]at e
theorem Dh{K:Frag}{ρ:List Addr}{H:Hp}{pat:B3}{v:Val}{x:V}{env env':Env}{σ:L2.St}{Q:L2.St->Hp->Prop}(e:gp pat v env=some env')(q:VR K ρ H v x)(hE:eE K ρ env σ H)(hl:env.length = σ.length)
  (kk:∀σ',eE K ρ env' σ' H->env'.length = σ'.length -> σ'.length = σ.length->Q σ' H):E6 K pat x σ H Q:=by
 cases pat with
 |one i=>simp only[gp]at e;cases e;exact kk _ (hE.set hl q) (by simp[hl]) (by simp)
 |tup is=>
  cases v<;>simp only[gp]at e<;>first|cases e|skip
  rw[VR]at q;obtain⟨a,xs,rfl,q1,q2⟩:=q;obtain⟨a1,a2,a3,a4⟩:=oM e q2 hE hl;exact⟨a,xs,rfl,q1,a4,qH a4 (kk _ a1 a2 a3)⟩
theorem nQ{α β:Type}{W:β -> Hs->List Addr->Hp->Prop}{W':α -> Hs->List Addr->Hp->Prop}{m:M α}{f:α -> M β}(g:Gr ρ H ρ' H')(p:Post B EX ρ H W (bnd m f h))
  (kk:∀v h1 ρ2 H2,m h=.ok v h1->Post B EX ρ H W (f v h1)->Gr ρ' H' ρ2 H2->HR B ρ2 h1 H2->W' v h1 ρ2 H2):Post B EX ρ' H' W' (m h):=by
 unfold bnd at p;cases e:m h with
 |ok v h1=>rw[e]at p;exact λρ2 H2 g2 r2=>kk v h1 ρ2 H2 e p g2 r2
 |exc c vs h1=>rw[e]at p;exact λρ2 H2 xs g2 r2 q=>p ρ2 H2 xs (g.trans g2) r2 q
 |no=>rw[e]at p;exact p
theorem HR.adopt(r:HR B ρ h H)(hD:D ∉ ρ)(q:OR B (ρ ++ [D]) H D u):HR B (ρ ++ [D]) (h++[u]) H where
 len:=by simp[r.len]
 nd:=by rw[aa5];refine⟨r.nd,by simp,λa ha b hb=>?_⟩;rw[aaF.mp hb];rintro rfl;exact hD ha
 ob i v a q1 q2:=by
  by_cases hi:i<h.length
  ·rw[aax hi]at q1;rw[aax (by rw[r.len];exact hi)]at q2;exact OR.nZ ⟨aa7 _ _,λ_ _ e _=>e⟩ rfl (r.ob i v a q1 q2)
  ·rw[aaO (by omega)]at q1
   rw[aaO (by rw[r.len];omega)]at q2;have hi0:i-h.length=0:=by have:=(aao.mp q1).1;simp at this;omega
   rw[hi0]at q1;rw[r.len,hi0]at q2;simp at q1 q2;subst q1;subst q2;exact q
theorem Gr.over(g:Gr ρ H ρ' H')(hD:H D=none):Gr ρ H ρ' (upd H' D o) where
 pre:=g.pre
 keep a u e n:=by rw[aA (bf e hD)];exact g.keep a u e n
 firm a u e n:=by rw[aA (bf e hD)];exact g.firm a u e n
 fresh:=g.fresh
theorem Gr.adopt(g:Gr ρ H ρ' H')(hD:H D=none):Gr ρ H (ρ'++[D]) H' where
 pre:=g.pre.trans (aa7 _ _)
 keep:=g.keep
 firm:=g.firm
 fresh a z n:=by
  rcases aaT.mp z with z|z
  ·exact g.fresh a z n
  ·rw[aaF.mp z];exact hD
theorem M5{K:Frag}{ρ:List Addr}{env:Env}{σ:L2.St}{H:Hp}{js:List (Option Nat)}(e:eE K ρ env σ H):eE K ρ (mG js env) (iZ js σ) H:=λi v q=>by
 unfold mG at q;rw[aaJ]at q;cases hj:js[i]? with
 |none=>rw[hj]at q;cases q
 |some o=>
  rw[hj]at q;simp only[map_some]at q;cases o with
  |none=>cases q
  |some j=>
   dsimp only at q;cases ej:env[j]? with
   |none=>rw[ej]at q;cases q
   |some w=>
    cases w with
    |none=>rw[ej]at q;cases q
    |some d=>rw[ej]at q;cases q;obtain⟨x,q1,q2⟩:=e j _ ej;refine⟨x,?_,q2⟩;unfold iZ;rw[aaJ,hj];simp only[map_some];rw[q1]
theorem Iu{K:Frag}{ρ:List Addr}{env:Env}{σ σ':L2.St}{H:Hp}{js:List (Option Nat)}{pat:B3}(hp:(zY pat).all (λi=>js[i]?==some none)=true)(e:eE K ρ (mG js env) σ H)(hs:∀i,i∉zY pat -> σ'[i]? = σ[i]?):eE K ρ (mG js env) σ' H:=λi v q=>by
 have hi:i∉zY pat:=λz=>by
  have h1:=all_eq_true.mp hp i z;have h2:js[i]?=some none:=eq_of_beq h1;unfold mG at q;rw[aaJ,h2]at q;cases q
 obtain⟨x,q1,q2⟩:=e i v q;exact⟨x,(hs i hi).trans q1,q2⟩
theorem uy:∀{is:List Nat} {xs:List V} {σ:L2.St} {i:Nat},i∉is->(jZ is xs σ)[i]? = σ[i]?
 |[],xs,σ,i,_=>by cases xs<;>rfl
 |j::is,[],σ,i,_=>rfl
 | j::is,x::xs,σ,i,h=>by
  rw[show jZ (j::is) (x::xs) σ = jZ is xs (σ.set j (some x)) from rfl,uy λz=>h (aal _ z),aan λz=>h (by rw[z];exact aam)]
theorem Iv{K:Frag}{ρ:List Addr}{H:Hp}{pat:B3}{v:Val}{x:V}{env env':Env}{σ:L2.St}{Q:L2.St->Hp->Prop}(e:gp pat v env=some env')(q:VR K ρ H v x)(hE:eE K ρ env σ H)(hl:env.length = σ.length)
  (kk:∀σ',eE K ρ env' σ' H -> σ'.length = σ.length->(∀i,i∉zY pat -> σ'[i]? = σ[i]?)->Q σ' H):E6 K pat x σ H Q:=by
 cases pat with
 |one i=>simp only[gp]at e;cases e;exact kk _ (hE.set hl q) (by simp) λj hj=>aan λz=>hj (by rw[z];exact aaF.mpr rfl)
 |tup is=>
  cases v<;>simp only[gp]at e<;>first|cases e|skip
  rw[VR]at q;obtain⟨a,xs,rfl,q1,q2⟩:=q;obtain⟨a1,a2,a3,a4⟩:=oM e q2 hE hl;exact⟨a,xs,rfl,q1,a4,qH a4 (kk _ a1 a3 λj hj=>uy hj)⟩
theorem uz(hs:n5 Φ it)(hc:cG Φ t)(he:cG Φ elt)(c:Ctx Φ Γ k X cl EX)(h:bN Γ (.comp N' js pat ik it t elt) e=true){G:Prop}
  (gk:∀e' tg iter ifs scope pos wi g tt te,e=.ListComp e' [⟨tg,iter,ifs,0⟩] scope pos->iI X.N X.env.scope scope N' js=true->PI X tg iter wi->(∀cls C s H fp,PG (bJ X scope N' cls C s H fp) tg g)->(∀cls C s H fp,LG (bJ X scope N' cls C s H fp) ifs tt)->(∀cls C s H fp,PE (bJ X scope N' cls C s H fp) e' te)->(∀x,foldedSetIterable iter X.env x=pure x)->(∀σ H Q,tV Φ (bd X cl) EX (.comp N' js pat ik it t elt) σ H Q->zz wi js g tt te σ H Q)->G):G:=by
 revert gk;apply CZ h;intro e' q1 scope pos h;apply oK h;intro q2 h;apply HZ h;intro tg iter ifs q3 h;apply zW h;intro h;simp only[and_eq_true]at h;intro gk;obtain⟨⟨⟨⟨⟨⟨⟨h1,h2⟩,h3⟩,h4⟩,h5⟩,h6⟩,h7⟩,h8⟩:=h;have hnd:N'.Nodup:=aaK h3;have hen:ik=.enum\/ik=.zip->∃es kk pos,tg=.Tuple es kk pos:=by
  intro hz;cases pat with
  |one i=>rcases hz with rfl|rfl<;>cases h6
  |tup is=>exact z9 h4
 obtain⟨hi,hf⟩:=OY hs c h2 hen
 let tt:TT:=if eW t=true then tX else tT Φ (bd X cl) EX t
 have YY:∀cls C s H fp,LG (bJ X scope N' cls C s H fp) ifs tt:=λcls C s H fp=>by
  have c':=c.y9 scope N' cls C s H fp;cases ifs with
  |nil=>have:eW t=true:=h7;show LG _ [] (if eW t=true then tX else tT Φ (bd X cl) EX t);rw[aar this];exact CH
  |cons a r=>
   cases r with
   |cons _ _=>cases h7
   |nil=>simp only[and_eq_true,not_eq_true']at h7;show LG _ [a] (if eW t=true then tX else tT Φ (bd X cl) EX t);rw[aas (by rw[h7.1];exact aaj)];exact Mr (hc _ _ _ _ _ _ c' h7.2).2
 refine gk e' tg iter ifs scope pos _ (E6 X.K pat) tt (tV Φ (bd X cl) EX elt) rfl (by rw[c.N,c.sc];exact h1) hi (λcls C s H fp=>Ir (c.y9 scope N' cls C s H fp) hnd h4) YY (λcls C s H fp=>(he _ _ _ _ _ _ (c.y9 scope N' cls C s H fp) h8).1) hf λσ H Q ⟨ρ,env,h,hE,r,p⟩=>?_
 ·skip
  simp only[aN]at p
  let f:Val->M (Option Val):=λd=>bnd (bB (gp pat d (mG js env))) λenv'=>bnd (if eW t=true then ret true else bnd (aN Φ t env') λv=>ask λh=>dI h v) λt=>
    if t=true then bnd (aN Φ elt env') λe=>ret (some e) else ret none
  have p':Post (bd X cl) EX ρ H (WV X.K Q) (bnd (Ul Φ ik it env) (λsrc=>bnd (ask λh=>src.items h) λxs=>aR (decide (xs.length<=100000)) (bnd (gP src f xs.length 0 []) λys=>new (.lst ys))) h):=by unfold Ul;rw[bw];exact p
  refine⟨ρ,env,h,hE,r,bQ p' λsrc h1 ρ1 H1 g1 r1 p1=>?_⟩;obtain⟨xs,e1,p2⟩:=aC p1;obtain⟨e2,p3⟩:=bg p2;have e2:=aaK e2;refine⟨⟨xs,e1⟩,λJ wk D hD=>?_⟩;have hDl:(100000:Nat)<sizeLine:=by rw[abq];decide
  refine⟨λi m σ' H'=>∃ρ' h' acc ys,Gr ρ1 H1 ρ' H'/\HR (bd X cl) ρ' h' H'/\D ∉ ρ'/\H' D=some (.lst ys)/\aI X.K ρ' H' acc ys/\eE X.K ρ' (mG js env) σ' H' /\ σ'.length=js.length/\acc.length<=i/\i+m=xs.length /\
   Post (bd X cl) EX ρ1 H1 (WV X.K Q) (bnd (gP src f m i acc) (λys=>new (.lst ys)) h'),⟨xs.length,ρ1,h1,[],[],Gr.side hD,r1.side hD,r1.out hD,aW,aI.nil,(M5 (hE.up g1)).up (Gr.side hD),jW js σ,aaw _,by omega,p3⟩,?_⟩
  rintro i m σ' H' ⟨ρ',h',acc,ys,w1,w2,w3,w4,w5,w6,w7,w8,w9,yr⟩;have fin:∀p:Post (bd X cl) EX ρ1 H1 (WV X.K Q) (new (.lst acc) h'),Q (.ref D) H':=λp=>by
   refine p (ρ'++[D]) H' (w1.adopt hD) (w2.adopt w3 ⟨ys,w4,aI.nZ ⟨aa7 _ _,λ_ _ e _=>e⟩ _ _ w5⟩) _ (VR.ref (by rw[<-w2.len];simp))
  cases m with
  |zero=>
   simp only[gP,bw]at yr;obtain⟨xs',k1,yr⟩:=aC yr;have VZ:Post (bd X cl) EX ρ1 H1 (WV X.K Q) (bnd (aR (decide (xs'.length<=i)) (ret acc)) (λys=>new (.lst ys)) h'):=yr;unfold aR at VZ
   by_cases hl:xs'.length<=i
   ·have:bnd (λh=>if decide (xs'.length<=i)=true then ret acc h else Out.no) (λys=>new (.lst ys)) h'=new (.lst acc) h':=by
     unfold bnd;dsimp only;rw[aar (decide_eq_true hl)];rfl
    rw[this] at VZ;exact .inl ⟨wk.stop w1.w w2 k1 hl,fin VZ⟩
   ·have:bnd (λh=>if decide (xs'.length<=i)=true then ret acc h else Out.no) (λys=>new (.lst ys)) h'=Out.no:=by
     unfold bnd;dsimp only;rw[aas (by rw[decide_eq_false hl];exact aaj)]
    rw[this] at VZ;exact VZ.elim
  |succ m=>
   simp only[gP,bw]at yr;obtain⟨xs',k1,yr⟩:=aC yr;cases hx:xs'[i]? with
   |none=>rw[hx]at yr;exact .inl ⟨wk.stop w1.w w2 k1 (List.getElem?_eq_none_iff.mp hx),fin yr⟩
   |some v=>
    rw[hx]at yr;dsimp only at yr;refine .inr ⟨wk.go w1.w w2 k1 hx,_,λED OL w=>⟨m,aa8 _,w⟩,λy H2 hy=>?_⟩;obtain⟨z1,z2,z3⟩:=wk.El w1.w w2 k1 hx hy;simp only[bw]at yr;simp only[f,bw]at yr;obtain⟨env',k2,yr⟩:=ck yr;refine Iv k2 z3 (w6.up z1) (by rw[w7];simp[mG]) λσ2 Yl hl2 hout=>?_;have RB:H2 D=some (.lst ys):=z1.keep _ _ w4 w3;have G2:Gr ρ1 H1 ρ' H2:=w1.trans z1;have body:∀(b:Bool) (h3:Hs) (ρ3:List Addr) (H3:Hp),Gr ρ' H2 ρ3 H3->HR (bd X cl) ρ3 h3 H3->Post (bd X cl) EX ρ1 H1 (WV X.K Q) (bnd (if b=true then bnd (aN Φ elt env') λe=>ret (some e) else ret none) (λo=>bnd (gP src f m (i+1) (match o with|some e=>acc++[e]|none=>acc)) λys=>new (.lst ys)) h3) ->
      (if b=true then tV Φ (bd X cl) EX elt σ2 H3 (λy H4=>∃ys,H4 D=some (.lst ys)/\ys.length<sizeLine/\(λσ' H'=>∃ρ' h' acc ys,Gr ρ1 H1 ρ' H'/\HR (bd X cl) ρ' h' H'/\D ∉ ρ'/\H' D=some (.lst ys)/\aI X.K ρ' H' acc ys/\eE X.K ρ' (mG js env) σ' H' /\ σ'.length=js.length/\acc.length<=i+1/\i+1+m=xs.length /\
       Post (bd X cl) EX ρ1 H1 (WV X.K Q) (bnd (gP src f m (i+1) acc) (λys=>new (.lst ys)) h')) σ2 (upd H4 D (.lst (ys++[y]))))
      else (λσ' H'=>∃ρ' h' acc ys,Gr ρ1 H1 ρ' H'/\HR (bd X cl) ρ' h' H'/\D ∉ ρ'/\H' D=some (.lst ys)/\aI X.K ρ' H' acc ys/\eE X.K ρ' (mG js env) σ' H' /\ σ'.length=js.length/\acc.length<=i+1/\i+1+m=xs.length /\
       Post (bd X cl) EX ρ1 H1 (WV X.K Q) (bnd (gP src f m (i+1) acc) (λys=>new (.lst ys)) h')) σ2 H3):=by
     intro b h3 ρ3 H3 g3 r3 p5;have ZA:D ∉ ρ3:=λz=>by have:=g3.fresh D z w3;rw[RB]at this;cases this
     have Um:H3 D=some (.lst ys):=g3.keep _ _ RB w3;have E3:eE X.K ρ3 (mG js env) σ2 H3:=(Iu h5 (w6.up z1) hout).up g3;cases b with
     |true=>
      rw[aar rfl]at p5 |-;simp only[bw,dJ]at p5;refine⟨ρ3,env',h3,Yl.up g3,r3,nQ (G2.trans g3) p5 λv4 h4 ρ4 H4 _ p6 g4 r4 y4 q4=>?_⟩;have nD4:D ∉ ρ4:=λz=>by have:=g4.fresh D z ZA;rw[Um]at this;cases this
      have V3:H4 D=some (.lst ys):=g4.keep _ _ Um ZA;have gw:Gw ρ4 H4 ρ4 (upd H4 D (.lst (ys++[y4]))):=Gw.other V3 rfl;have la:=w5.length;refine⟨ys,V3,by omega,ρ4,h4,acc++[v4],ys++[y4],((G2.trans g3).trans g4).over hD,r4.other nD4 V3 rfl,nD4,aW,aI.append (aI.nZ gw _ _ (aI.up ((z1.trans g3).trans g4) _ _ w5)) (aI.nZ gw _ _ (aI.cons q4 aI.nil)),(E3.up g4).nZ gw,by rw[hl2,w7],by simp;omega,by omega,p6⟩
     |false=>rw[aas aaj]at p5 |-;exact⟨ρ3,h3,acc,ys,G2.trans g3,r3,ZA,Um,aI.up (z1.trans g3) _ _ w5,E3,by rw[hl2,w7],by omega,by omega,p5⟩
    show (if eW t=true then tX else tT Φ (bd X cl) EX t) σ2 H2 _
    by_cases hn:eW t=true
    ·rw[aar hn];rw[aar hn,dJ]at yr;exact body true h' ρ' H2 Gr.refl z2 yr
    ·rw[aas hn];rw[aas hn]at yr;exact⟨ρ',env',h',Yl,z2,nQ G2 yr λb h3 ρ3 H3 _ p5 g3 r3=>body b h3 ρ3 H3 g3 r3 p5⟩
theorem M6(hs:n5 Φ it)(hc:cG Φ t)(he:cG Φ elt):cG Φ (.comp N' js pat ik it t elt):=by
 intro Γ k X cl EX e c h;refine uz hs hc he c h λe' tg iter ifs scope pos wi g tt te q0 h1 h2 h3 h4 h5 h6 h7=>?_;subst q0;have q:=(CI (pos:=pos) h1 c.calm h2 h3 h4 h5 h6).imp h7;exact⟨q,dh q λ_=>rfl⟩
theorem M7{k v:IE}(hk:cG Φ k)(hv:cG Φ v):cG Φ (.dct1 k v):=by
 intro Γ n X cl EX e c h;apply C0 h;intro q1 q2 pos h;apply oK h;intro q3 h;apply C2 h;intro a h;apply oK h;intro b h;simp only[and_eq_true]at h;have q:PE X (.Dict [some a] [b] pos) (tV Φ (bd X cl) EX (.dct1 k v)):=by
  refine(Mp (GP (hk Γ n X cl EX a c h.1).1 (hv Γ n X cl EX b c h.2).1 Mn) rfl rfl (by simp) (by simp)).imp λσ H Q aS=>?_;obtain⟨ρ,env,h,hE,r,p⟩:=aS;intro D hD;have g0:Gr ρ H ρ (upd H D (.dK [])):=Gr.side hD;simp only[aN]at p;refine⟨ρ,env,h,hE.up g0,r.side hD,nQ g0 p λx h1 ρ1 H1 _ p1 g1 r1 y1 q1=>?_⟩;obtain⟨kk,e1,p1⟩:=ck p1;refine⟨ρ1,env,h1,(hE.up g0).up g1,r1,nQ (g0.trans g1) p1 λy h2 ρ2 H2 _ p2 g2 r2 y2 q2=>?_⟩;have hD1:D ∉ ρ:=r.out hD;have RB:D ∉ ρ2:=λz=>by have:=(g1.trans g2).fresh D z hD1;rw[aW]at this;cases this
  have e2:H2 D=some (.dK []):=(g1.trans g2).keep D _ aW hD1;have ek:y1=kV kk:=by
   cases x<;>first|(cases e1;done)|skip
   ·cases e1;rw[VR]at q1;exact q1
   ·cases e1;rw[VR]at q1;exact q1
  refine⟨e2,[(kk,y2)],by rw[ek];rfl,by simp,?_⟩;have gw:Gw ρ2 H2 (ρ2++[D]) (upd H2 D (.dK (qA [] [(kk,y2)]))):=⟨aa7 _ _,(Gw.other (ρ:=ρ2) e2 rfl).firm⟩;exact p2 (ρ2++[D]) _ ((((g0.trans g1).trans g2).over hD).adopt hD) ((r2.other RB e2 rfl).adopt RB ⟨[(kk,y2)],aW,y2,[],rfl,VR.nZ gw _ _ q2,rfl⟩) _ (CS r2)
 exact⟨q,dh q λ_=>rfl⟩
theorem Di{α β γ:Type}{g:α -> Option β}{f:α -> γ}{w:β -> γ}(hg:∀k n,g k=some n->f k=w n):∀(ks:List α) (ns:List β),bK g ks=some ns->ks.map f=ns.map w/\∀k∈ks,∃n,g k=some n
 |[],ns,e=>by cases e;exact⟨rfl,λ_ h=>nomatch h⟩
 | k::ks,ns,e=>by
  rw[bK]at e;obtain⟨b,e1,e⟩:=aah.mp e;obtain⟨bs,e2,e⟩:=aah.mp e;cases e;obtain⟨q1,q2⟩:=Di hg ks bs e2;refine⟨by rw[aau,aau,q1,hg k b e1],λk' hk=>?_⟩
  rcases aaz.mp hk with rfl|hk
  ·exact⟨b,e1⟩
  ·exact q2 k' hk
def dfP(Γ:sS)(N':List Str)(js:List (Option Nat))(p q i:Nat)(e:Expr):Prop:=∃y3 p3 y4 p4 s2 t tp dn dp ia scope pos,e=.ListComp (.Subscript (.Name y3 p3) (.Name y4 p4) s2) [⟨.Name t tp,.Name dn dp,[],ia⟩] scope pos/\(ia==0&&iI Γ.N Γ.sc scope N' js&&decide (N'.Nodup)&&zX (Γ.y9 scope N') (.one p) (.Name t tp)&&js[p]?==some none&&js[q]?==some (some i)&&p != q &&
   (N'[q]?==some y3&&vM (Γ.y9 scope N').sc y3)&&(N'[p]?==some y4&&vM (Γ.y9 scope N').sc y4)&&(Γ.N[i]?==some dn&&vM Γ.sc dn))=true
theorem E7{p q i:Nat}(h:OW Γ N' js p q i e=true):dfP Γ N' js p q i e:=by
 apply CZ h;intro e1 q1 scope pos h;apply yl h;intro l r s2 h;apply jK h;intro y3 p3 h;apply jK h;intro y4 p4 h;apply oK h;intro g h;apply HZ h;intro tg iter ifs ia h;apply jK h;intro t tp h;apply jK h;intro dn dp h;apply mJ h;intro h;exact⟨_,_,_,_,_,_,_,_,_,_,_,_,rfl,h⟩
theorem uA{p q:Nat}(c:Ctx Φ Γ k X cl EX)(h:bN Γ (.dflt N' js p q d w) e=true){G:Prop}
  (gk:∀e' tg iter ifs scope pos wi g tt te,e=.ListComp e' [⟨tg,iter,ifs,0⟩] scope pos->iI X.N X.env.scope scope N' js=true->PI X tg iter wi->(∀cls C s H fp,PG (bJ X scope N' cls C s H fp) tg g)->(∀cls C s H fp,LG (bJ X scope N' cls C s H fp) ifs tt)->(∀cls C s H fp,PE (bJ X scope N' cls C s H fp) e' te)->(∀x,foldedSetIterable iter X.env x=pure x)->(∀σ H Q,tV Φ (bd X cl) EX (.dflt N' js p q d w) σ H Q->Hz (zz wi js g tt te) σ H Q)->G):G:=by
 revert gk;apply Q4 h;intro i h;obtain⟨y3,p3,y4,p4,s2,t,tp,dn,dp,ia,scope,pos,e0,hh⟩:=E7 h;clear h;subst e0;intro gk;have h:=hh;simp only[and_eq_true,beq_iff_eq,bne_iff_ne,ne_eq]at h;obtain⟨⟨⟨⟨⟨⟨⟨⟨⟨h0,h1⟩,h2⟩,h3⟩,h4⟩,h5⟩,h6⟩,h7⟩,h8⟩,h9⟩:=h;subst h0;have hnd:N'.Nodup:=aaK h2;have nm:∀{x:Str} {i:Nat} {pos:Pos} (_:N'[i]?=some x/\vM (Γ.y9 scope N').sc x=true) cls C s H fp,PE (bJ X scope N' cls C s H fp) (.Name x pos) (zg i):=λhx cls C s H fp=>by
  obtain⟨v1,v2,v3⟩:=(c.y9 scope N' cls C s H fp).vis hx.2;exact Bv hx.1 v1 v2 v3
 obtain⟨v1,v2,v3⟩:=c.vis h9.2;have hpl:p<js.length:=(aao.mp h4).1;have hu:∀cls C s H fp,(bJ X scope N' cls C s H fp).A.units+1<cLine:=λcls C s H fp=>by have:=(c.y9 scope N' cls C s H fp).units;omega
 refine gk _ _ _ _ _ _ (HE (zg i)) (rH p) tX (GN (zg q) (zg p)) rfl (by rw[c.N,c.sc];exact h1) (MA (Bv (by rw[c.N];exact h9.1) v1 v2 v3)) (λcls C s H fp=>Ir (c.y9 scope N' cls C s H fp) hnd h3) (λ_ _ _ _ _=>CH) (λcls C s H fp=>Mm (hu cls C s H fp) (nm h7 cls C s H fp) (nm h8 cls C s H fp) λ_ _=>rfl) (λx=>rfl) λσ H Q ⟨ρ,env,h,hE,r,pp⟩=>?_;simp only[aN]at pp;obtain⟨o,e1,pp1⟩:=ck pp;clear pp;obtain⟨ns,e4,pp2⟩:=aC pp1;clear pp1;split at e1<;>cases e1;rename_i e1;obtain⟨x,s1,q1⟩:=hE i o e1;unfold wR at e4;obtain⟨ks,e2,e6⟩:=aah.mp e4;clear e4;cases o<;>first|(cases e2;done)|(rw[VR]at q1;exact q1.elim)|skip
 rename_i n;rw[VR]at q1;obtain⟨ad,rfl,q1⟩:=q1;have hdc:∃kvs,h[n]?=some (.dct kvs)/\ks=kvs.map (·.1):=by
  change (match h[n]? with|some (.dct kvs)=>some (kvs.map (·.1))|_=>none)=some _ at e2;split at e2
  ·rename_i kvs e5;cases e2;exact⟨kvs,e5,rfl⟩
  ·cases e2
 obtain⟨kvs,e5,rfl⟩:=hdc;obtain⟨M8,k1,k2⟩:=r.ob n _ ad e5 q1
 by_cases hl:(kvs.map (·.1)).length<=100000
 ·rw[aar hl]at e6
  have hg:∀k m,((sy h (.ref n) k).bind λr=>r.bind vI)=some m->gM M8 k=some (V.int m):=λk m e=>by
   obtain⟨r1,c1,e⟩:=aah.mp e;obtain⟨v,c2,e⟩:=aah.mp e;change (match h[n]? with|some (.dct kvs)=>some (dm kvs k)|_=>none)=some r1 at c1;rw[e5]at c1;cases c1;obtain⟨x1,d1,d2⟩:=(iP.val k k2).2 v c2;cases v<;>cases e;rw[VR]at d2;subst d2;exact d1
  obtain⟨w1,w2⟩:=Di (f:=λk=>(gM M8 k).getD .non) (w:=V.int) (λk m e=>by rw[hg k m e];rfl) _ _ e6;have ek:=De k2;have el:M8.length=kvs.length:=by have:=aa2 length ek;simpa using this
  refine Qz h6 hpl ⟨ad,M8,λk=>(gM M8 k).getD .non,s1,?_,k1,by rw[el,abq];rw[aak]at hl;omega,λkv hkv=>?_,λD hD=>?_⟩
  ·unfold iZ;rw[aaJ,h5];show some (match σ[i]? with|some (some v)=>some v|_=>none)=_;rw[s1]
  ·obtain⟨m,hm⟩:=w2 kv.1 (by rw[<-ek];exact aaC hkv);show gM M8 kv.1=some ((gM M8 kv.1).getD .non);rw[hg _ m hm];rfl
  ·rw[show (M8.map λkv=>(gM M8 kv.1).getD .non)=ns.map V.int from by rw[<-w1,<-ek,aaV];rfl];exact dZ r hD (aI.ints.mpr rfl) pp2
 ·rw[aas hl]at e6;cases e6
theorem M9{p q:Nat}:cG Φ (.dflt N' js p q d w):=by
 intro Γ k X cl EX e c h;refine uA c h λe2 ZC iter ifs Cc pos2 wi g tt te q0 q1 q2 q3 q4 q5 q6 q7=>?_;subst q0;have q:PE X (.ListComp e2 [⟨ZC,iter,ifs,0⟩] Cc pos2) (tV Φ (bd X cl) EX (.dflt N' js p q d w)):=(My (CI q1 c.calm q2 q3 q4 q5 q6)).imp q7;exact⟨q,dh q λ_=>rfl⟩
theorem RC(ha:cG Φ a):cG Φ (.isc a x bs):=ur λ_ _=>rfl
theorem qI:(∀ir,cG Φ ir)/\∀fU,n5 Φ fU:=by
 have one:∀ir,cG Φ ir:=by
  intro ir;exact IE.rec (motive_1:=λir=>cG Φ ir) (motive_2:=λfU=>n5 Φ fU) (λ_=>Q8) (λ_=>Q9) (λ_ _=>Ra) VT (λ_ _ _ a b=>Rb a b) (λ_ a=>Rc a) (λ_ _ _ a b=>Rf a b) (λ_ _ _ _ _ a b c=>Rg a b c)
   (λ_ _ a b=>Rh a b) (λ_ _ a b=>VU a b) (λ_ a=>Ri a) (λ_ _ _ a b c=>Rj a b c) (λ_ a=>Rk a) (λ_ a=>Rm a) (λ_ _ a b=>Rn a b) (λ_ _ _ a b c=>Ro a b c) (λ_ _ a=>MS a) (λ_ _ a=>Rz a)
   (λ_ _ _ a b=>RA a b) (λ_ _ _ _ _ _ _ a b c=>M6 a b c) MQ (λ_ a=>M0 a) (λ_ _ _ a b c=>M1 a b c) (λ_ _ a b=>M7 a b) (λ_ a=>Il a) (λ_ _ _ a b c=>M3 a b c) (λ_ a=>Io a) (λ_ a=>Im a) (λ_ _ _ a=>Rq a) (λ_ _ _ _ a b=>Rt a b) (λ_ _ a b=>Rp a b) (λ_ _ _ _ _ _ _ _=>M9) (λ_ _ _ a=>RC a) Ig (λ_ _ a b=>C7 a b) ir
 refine⟨one,λfU=>?_⟩
 induction fU using pJ.rec (motive_1:=λ_=>True) with
 |nil=>exact Ig
 |cons e es _ ih=>exact C7 (one e) ih
 |_=>trivial
end
def oN:Expr->Bool
 |.ListComp ..=>false|.SetComp ..=>false|.DictComp ..=>false
 |_=>true
def V4:Expr->Bool
 |.Tuple ..=>false
 |_=>true
def V5:Expr->Bool
 |.SetComp ..=>false|.DictComp ..=>false
 |_=>true
mutual
noncomputable def V6(Γ:sS):IS->Stmt->Bool
 |.expr e,s=>Ia (λx _=>oN x&&bN Γ e x) s
 |.asg p e,s=>MJ (λq1 x _=>k1 (λtg=>Aa Γ p tg&&bN Γ e x&&(match p with|.one _=>V5 x|.tup _=>oN x&&V4 x)) q1) s
 |.aug i o e,s=>Zv (λq1 op v _=>om (λx _=>Γ.N[i]?==some x&&(Γ.sc.names.lookup x==some .local || Γ.sc.names.lookup x==some .cell)&&Q6 o op&&(match o with|.pow=>false|_=>true)&&bN Γ e v) q1) s
 |.ig o i v,s=>MJ (λq1 x _=>k1 (λq2=>HS (λa b _=>sU b&&oN x&&bN Γ o a&&bN Γ i b&&bN Γ v x) q2) q1) s
 |.iff c a b,s=>jIf (λt x y _=>bN Γ c t&&aO Γ a x&&aO Γ b y) s
 |.for p k it body,s=>VM (λtg iter x q1 _=>vL q1 (Aa Γ p tg&&C6 Γ k it iter&&(match k,p with|.enum,.one _=>false|.zip,.one _=>false|_,_=>true)&&aO Γ body x)) s
 |.whl _ c body,s=>QZ (λt x q1 _=>vL q1 (bN Γ c t&&aO Γ body x)) s
 |.ret e,s=>Q0 (λq1 _=>HY (λx=>bN Γ e x) q1) s
 |.HF,s=>Q0 (λq1 _=>HX q1 (true)) s
 |.brk,s=>VN (λ_=>true) s
 |.cnt,s=>VO (λ_=>true) s
 |.pass,s=>OU (λ_=>true) s||Ia (λq1 _=>B5 (λq2 _ _=>VJ (λ_=>true) q2) q1) s
 |.never,_=>true
 |.setF n a x v,s=>MJ (λq1 e _=>k1 (λq2=>CY (λo y _=>x==y&&oN e&&n == Γ.tb.nc && Γ.tb.ML.contains x&&bN Γ a o&&bN Γ v e) q2) q1) s
noncomputable def aO(Γ:sS):bY->List Stmt->Bool
 |.nil,ls=>ls.isEmpty
 | .cons s r,ls=>match ls with
  |l::ls=>V6 Γ s l&&aO Γ r ls
  |[]=>false
end
structure RD (Φ:Fn) (Γ:sS) (k:Nat) (X:Cx) (cl:Nat->Addr) (EX:Nat->List V->Hp->Prop):Prop extends Ctx Φ Γ k X cl EX where
 fn:∀x,X.fn x=true
 nd:X.N.Nodup
 kind:X.env.scope.kind=.function
 xe:PassesOwn (model X.prog X.w) X.A X.env X.xe
def WF(K:Frag)(D:Ends):Fl->Hs->List Addr->Hp->Prop
 |.nx env',_,ρ',H'=>∀σ',eE K ρ' env' σ' H'->env'.length = σ'.length->D.nx σ' H'
 |.rt v,_,ρ',H'=>∀x,VR K ρ' H' v x->D.rt x H'
 |.bk env',_,ρ',H'=>∀σ',eE K ρ' env' σ' H'->env'.length = σ'.length->D.bk σ' H'
 |.ct env',_,ρ',H'=>∀σ',eE K ρ' env' σ' H'->env'.length = σ'.length->D.ct σ' H'
def tS(Φ:Fn)(B:Bd)(EX:Nat->List V->Hp->Prop)(ir:IS):TS:=λD σ H=>∃ρ env h,eE B.K ρ env σ H/\env.length = σ.length/\HR B ρ h H/\Post B EX ρ H (WF B.K D) (iw Φ ir env h)
def tSs(Φ:Fn)(B:Bd)(EX:Nat->List V->Hp->Prop)(ir:bY):TS:=λD σ H=>∃ρ env h,eE B.K ρ env σ H/\env.length = σ.length/\HR B ρ h H/\Post B EX ρ H (WF B.K D) (gm Φ ir env h)
theorem _root_.L2.PS.imp(h:PS X e t)(i:∀D σ H,t' D σ H->t D σ H):PS X e t':=λpins s σ H D I hw=>h pins s σ H D I (i D σ H hw)
theorem _root_.L2.Bu.imp(h:Bu X e t)(i:∀D σ H,t' D σ H->t D σ H):Bu X e t':=λpins s σ H D I hw=>h pins s σ H D I (i D σ H hw)
section
variable {Φ:Fn} {Γ:sS} {k:Nat} {X:Cx} {cl:Nat->Addr} {EX:Nat->List V->Hp->Prop}
def Ab(Φ:Fn)(ir:IS):Prop:=∀(Γ:sS) (k:Nat) (X:Cx) (cl:Nat->Addr) (EX:Nat->List V->Hp->Prop) (st:Stmt),RD Φ Γ k X cl EX->V6 Γ ir st=true->PS X st (tS Φ (bd X cl) EX ir)
def yt(Φ:Fn)(fU:bY):Prop:=∀(Γ:sS) (k:Nat) (X:Cx) (cl:Nat->Addr) (EX:Nat->List V->Hp->Prop) (st:List Stmt),RD Φ Γ k X cl EX->aO Γ fU st=true->Bu X st (tSs Φ (bd X cl) EX fU)
theorem mL{n:Nat}(h:oN e=true):swapsWith e t n env=pure false:=by
 cases e<;>first|rfl|(exact absurd h aaj)
theorem OZ(ir:IE)(c:Ctx Φ Γ k X cl EX)(h:bN Γ ir e=true):PE X e (tV Φ (bd X cl) EX ir):=(qI.1 ir Γ k X cl EX e c h).1
theorem okT(ir:IE)(c:Ctx Φ Γ k X cl EX)(h:bN Γ ir e=true):PT X e (tT Φ (bd X cl) EX ir):=(qI.1 ir Γ k X cl EX e c h).2
theorem O0(hs:∀env h,iw Φ ir env h=.no):Ab Φ ir:=by
 intro Γ k X cl EX st c h;refine zj.imp λD σ H ⟨ρ,env,h,hE,hl,r,p⟩=>?_;rw[hs]at p;exact p.elim
theorem RE:Ab Φ (.expr e):=by
 intro Γ k X cl EX st c h;apply C4 h;intro x _ h;simp only[and_eq_true]at h;refine(LX (OZ e c.toCtx h.2) (mL h.1)).imp λD σ H aS=>?_;obtain⟨ρ,env,h,hE,hl,r,p⟩:=aS;simp only[iw]at p;exact⟨ρ,env,h,hE,r,az p λv h1 ρ1 x H1 g1 r1 q1 p1=>ai r1 p1 σ (hE.up g1) hl⟩
theorem V7(h:V5 x=true):oN x=true\/∃e g sc p,x=.ListComp e g sc p:=by
 cases x<;>first|exact .inl rfl|exact .inr ⟨_,_,_,_,rfl⟩|exact absurd h aaj
theorem V8(h:bN Γ e (.ListComp e' gens scope p)=true):(∃N' js pat ik it RG elt,e=.comp N' js pat ik it RG elt)\/∃N' js a b d w,e=.dflt N' js a b d w:=by
 cases e<;>first|exact .inl ⟨_,_,_,_,_,_,_,rfl⟩|exact .inr ⟨_,_,_,_,_,_,rfl⟩|exact absurd h aaj|(rw[bN.eq_def]at h;cases h)
theorem V9:Ab Φ (.asg p e):=by
 intro Γ k X cl EX st c h;apply B7 h;intro q1 x pos h;apply oK h;intro tg h;simp only[and_eq_true]at h;obtain⟨⟨h1,h2⟩,h3⟩:=h;have hg:=Dg c.toCtx c.fn c.nd h1;have he:=OZ e c.toCtx h2;have fin:∀D σ H,tS Φ (bd X cl) EX (.asg p e) D σ H->LZ (tV Φ (bd X cl) EX e) (E6 X.K p) D σ H:=λD σ H ⟨ρ,env,h,hE,hl,r,pp⟩=>by
  simp only[iw]at pp;refine⟨ρ,env,h,hE,r,az pp λv h1 ρ1 x H1 g1 r1 q1 p1=>?_⟩;obtain⟨env',e1,p2⟩:=ck p1;exact Dh e1 q1 (hE.up g1) hl λσ' ZD hl' _=>ai r1 p2 σ' ZD hl'
 have h1':(assignEach [tg] X.env).map (·.2)=[assign tg X.env]:=by
  cases p with
  |one i=>obtain⟨t,tp,rfl⟩:=ux h1;rfl
  |tup is=>obtain⟨es,kk,tp,rfl⟩:=pN h1;rfl
 cases p with
 |tup is=>
  simp only[and_eq_true]at h3;refine(Gn he hg ?_ ?_ h1').imp fin
  ·show swapsWith x (some tg) _ _=_;exact mL h3.1
  ·obtain⟨es,kk,tp,rfl⟩:=pN h1;cases x<;>first|rfl|(exact absurd h3.2 aaj)
 |one i=>
  obtain⟨t,tp,rfl⟩:=ux h1
  ·
   simp only[Aa,and_eq_true,beq_iff_eq]at h1;have loc:L2.Loc X.env.scope t:=by unfold L2.Loc;rw[c.sc];simpa using h1.2
   have pl:oN x=true->PS X (.Assign [.Name t tp] x pos) (tS Φ (bd X cl) EX (.asg (.one i) e)):=λhx=>(Gp c.nd (by rw[c.N];exact h1.1) loc he (mL hx) (.inl (c.fn t))).imp fin
   rcases V7 h3 with hx|⟨e',gens,scope,p2,rfl⟩
   ·exact pl hx
   ·skip
    cases hb:(X.env.kindOf t==some .local&&tp.line==p2.line && !(scope.names.any λ(n,k)=>n==t&&(k==.local||k==.cell))) with
    |false=>
     refine(Gp c.nd (by rw[c.N];exact h1.1) loc he ?_ (.inl (c.fn t))).imp fin;have bk:(X.env.blockKind==.function)=true:=by unfold Env.blockKind;rw[c.kind];rfl
     show (pure (X.env.blockKind==.function&&X.env.kindOf t==some .local&&tp.line==p2.line && !(scope.names.any λ(n,k)=>n==t&&(k==.local||k==.cell))):Sem Bool)=pure false;rw[bk,Bool.true_and,hb]
    |true=>
     have bk:(X.env.blockKind==.function)=true:=by unfold Env.blockKind;rw[c.kind];rfl
     have hsw:swapsWith (.ListComp e' gens scope p2) (some (.Name t tp)) pos.line X.env=pure true:=by show (pure (X.env.blockKind==.function&&X.env.kindOf t==some .local&&tp.line==p2.line && !(scope.names.any λ(n,k)=>n==t&&(k==.local||k==.cell))):Sem Bool)=pure true;rw[bk,Bool.true_and,hb]
     rcases V8 h2 with ⟨N',js,pat,ik,it,RG,elt,rfl⟩|⟨N',js,a,b,d,w,rfl⟩
     ·skip
      refine uz (qI.2 it) (qI.1 RG) (qI.1 elt) c.toCtx h2 λe2 ZC iter ifs Cc pos2 wi g tt te q0 q1 q2 q3 q4 q5 q6 q7=>?_;cases q0;refine(CJ c.nd (by rw[c.N];exact h1.1) loc q1 c.calm q2 q3 q4 q5 hsw (.inl (c.fn t)) q6).imp λD σ H hh=>?_;exact q7 σ H _ (fin D σ H hh)
     ·skip
      refine uA c.toCtx h2 λe2 ZC iter ifs Cc pos2 wi g tt te q0 q1 q2 q3 q4 q5 q6 q7=>?_;cases q0;refine(Mz (CJ c.nd (by rw[c.N];exact h1.1) loc q1 c.calm q2 q3 q4 q5 hsw (.inl (c.fn t)) q6)).imp λD σ H hh=>?_;exact q7 σ H _ (fin D σ H hh)
theorem Wa{i:Nat}:Ab Φ (.aug i o e):=O0 λ_ _=>rfl
def Wb(B:Bd)(EX:Nat->List V->Hp->Prop):PV:=λo i v H Q=>∃ρ h a b w,HR B ρ h H/\VR B.K ρ H a o/\VR B.K ρ H b i/\VR B.K ρ H w v/\Post B EX ρ H (λ_ _ _ H'=>Q H') (zO a b w h)
theorem RH(hu:X.A.units+64<cLine):UM X (Wb (bd X cl) EX):=by
 intro pins s σ H o i v ov iv u Q I ro ri rv hh;obtain⟨ρ,h,a,b,w,r,ha,hb,hw,p⟩:=hh;cases a with
 |ref j=>
  simp only[zO]at p;obtain⟨ob,e1,p⟩:=aC p;have dict:∀kvs,ob=.dct kvs->Post (bd X cl) EX ρ H (λ_ _ _ H'=>Q H') (bnd (bB (keyOf b)) (λk=>aR (decide (kvs.length<sizeLine)) (put j (.dct (jD kvs k w)))) h)->wpAny (model X.prog X.w) X.A (setItem ov iv u) (λ_ s'=>∃H',L2.Inv X pins σ H' s'/\Q H') X.xe s:=by rintro kvs rfl p;obtain⟨kk,e2,p⟩:=ck p;obtain⟨e3,p⟩:=bg p;have e3:=aaK e3;rw[VR]at ha;obtain⟨A,rfl,k1⟩:=ha;obtain⟨ks,k2,k3⟩:=r.ob j _ A e1 k1;cases ro;have ek:=QD hb e2;subst ek;refine Ez (by omega) I (Mj.k (v:=v) k2 (by rw[<-k3.length];exact e3)) ri rv λs' I'=>⟨_,I',?_⟩;have g:Gr ρ H ρ (upd H A (.dK (putK ks kk v))):=Gr.put (aaM k1) k2 rfl;exact p ρ _ g (r.put k1 e1 (u:=.dct (jD kvs kk w)) ⟨_,aW,iP.put kk (VR.up g _ _ hw) (iP.up g _ _ k3)⟩)
  cases ob with
  |dct kvs=>exact dict kvs rfl p
  |_=>exact p.elim
 |_=>exact p.elim
theorem RI:Ab Φ (.ig o i v):=by
 intro Γ k X cl EX st c h;apply B7 h;intro q1 x pos h;apply oK h;intro q2 h;apply yl h;intro a b sp h;simp only[and_eq_true]at h;obtain⟨⟨⟨⟨h1,h2⟩,h3⟩,h4⟩,h5⟩:=h;have hpg:PG X (.Subscript a b sp) (UP (tV Φ (bd X cl) EX o) (tV Φ (bd X cl) EX i) (Wb (bd X cl) EX)):=PX (OZ o c.toCtx h3) (OZ i c.toCtx h4) (RH c.units) (by
  intro v;cases b<;>first|rfl|(exact absurd h1 aaj))
 refine(Gn (OZ v c.toCtx h5) hpg (mL (t:=some (.Subscript a b sp)) (n:=pos.line) (env:=X.env) h2) (by cases x<;>rfl) rfl).imp λD σ H aS=>?_;obtain⟨ρ,env,h,hE,hl,r,p⟩:=aS;simp only[iw]at p;refine⟨ρ,env,h,hE,r,az p λw h1 ρ1 x1 H1 g1 r1 q1 p1=>⟨ρ1,env,h1,hE.up g1,r1,az p1 λw2 h2 ρ2 x2 H2 g2 r2 q2 p2=>⟨ρ2,env,h2,(hE.up g1).up g2,r2,az p2 λw3 h3 ρ3 x3 H3 g3 r3 q3 p3=>?_⟩⟩⟩;refine⟨ρ3,h3,w2,w3,w,r3,VR.up g3 _ _ q2,q3,VR.up (g2.trans g3) _ _ q1,bQ p3 λ_ h4 ρ4 H4 g4 r4 p4=>?_⟩;exact ai r4 p4 σ (((hE.up g1).up g2).up g3 |>.up g4) hl
theorem Wc(ha:yt Φ a)(hb:yt Φ b):Ab Φ (.iff t a b):=by
 intro Γ k X cl EX st c h;apply VL h;intro tt x y pos h;simp only[and_eq_true]at h;refine(UL (okT t c.toCtx h.1.1) (ha Γ k X cl EX x c h.1.2) (hb Γ k X cl EX y c h.2)).imp λD σ H aS=>?_;obtain⟨ρ,env,h,hE,hl,r,p⟩:=aS;simp only[iw]at p;refine⟨ρ,env,h,hE,r,qG p λv h1 p1=>?_⟩;obtain⟨s,e1,p2⟩:=aC p1;refine⟨s,e1,λρ1 H1 g1 r1=>?_⟩;have p2:=Post.up g1 p2;cases s with
 |true=>rw[aar rfl]at p2 |-;exact⟨ρ1,env,h1,hE.up g1,hl,r1,p2⟩
 |false=>rw[aas aaj]at p2 |-;exact⟨ρ1,env,h1,hE.up g1,hl,r1,p2⟩
theorem Wd(hb:yt Φ body):Ab Φ (.for p ik it body):=by
 intro Γ k X cl EX st c h;apply QY h;intro tg iter x q1 pos h;apply mJ h;intro h;simp only[and_eq_true]at h;obtain⟨⟨⟨h1,h2⟩,h3⟩,h4⟩:=h;have hen:ik=.enum\/ik=.zip->∃es kk pos,tg=.Tuple es kk pos:=by
  intro hz;cases p with
  |one i=>rcases hz with rfl|rfl<;>cases h3
  |tup is=>exact pN h1
 obtain⟨hi,hf⟩:=OY (qI.2 it) c.toCtx h2 hen;refine(PZ c.xe c.calm hi (Dg c.toCtx c.fn c.nd h1) (hb Γ k X cl EX x c h4) hf).imp λD σ H aS=>?_;obtain⟨ρ,env,h,hE,hl,r,pp⟩:=aS;simp only[iw]at pp;have p':Post (bd X cl) EX ρ H (WF X.K D) (bnd (Ul Φ ik it env) (λsrc=>bnd (ask λh=>src.items h) λxs=>forM src (λx env=>bnd (bB (gp p x env)) λenv'=>gm Φ body env') xs.length 0 env) h):=by unfold Ul;rw[bw];exact pp
 refine⟨ρ,env,h,hE,r,bQ p' λsrc h1 ρ1 H1 g1 r1 p1=>?_⟩;obtain⟨xs,e1,p2⟩:=aC p1;refine⟨⟨xs,e1⟩,λJ wk=>?_⟩;refine⟨λi m σ' H'=>∃ρ' env' h',Gr ρ1 H1 ρ' H'/\eE X.K ρ' env' σ' H'/\env'.length = σ'.length/\HR (bd X cl) ρ' h' H'/\Post (bd X cl) EX ρ' H' (WF X.K D) (forM src (λx env=>bnd (bB (gp p x env)) λenv'=>gm Φ body env') m i env' h'),
  ⟨xs.length,ρ1,env,h1,Gr.refl,hE.up g1,hl,r1,p2⟩,?_⟩
 rintro i m σ' H' ⟨ρ',env',h',w1,w2,w3,w4,w5⟩;cases m with
 |zero=>simp only[forM]at w5;obtain⟨xs',k1,w5⟩:=aC w5;obtain⟨k2,w5⟩:=bg w5;exact .inl ⟨wk.stop w1.w w4 k1 (aaK k2),ai w4 w5 σ' w2 w3⟩
 |succ m=>
  simp only[forM]at w5;obtain⟨xs',k1,w5⟩:=aC w5;cases hx:xs'[i]? with
  |none=>rw[hx]at w5;exact .inl ⟨wk.stop w1.w w4 k1 (List.getElem?_eq_none_iff.mp hx),ai w4 w5 σ' w2 w3⟩
  |some v=>
   rw[hx]at w5;dsimp only at w5;refine .inr ⟨wk.go w1.w w4 k1 hx,_,λED OL w=>⟨m,aa8 _,w⟩,λy H2 hy=>?_⟩;obtain⟨z1,z2,z3⟩:=wk.El w1.w w4 k1 hx hy;rw[bw]at w5;obtain⟨mO,k2,w5⟩:=ck w5;refine Dh k2 z3 (w2.up z1) w3 λσ2 Yl hl2 _=>⟨ρ',mO,h',Yl,hl2,z2,bQ (Post.up z1 w5) λf h3 ρ3 H3 g3 r3 p3=>?_⟩;cases f with
   |nx Na=>exact λσ3 We hl3=>⟨ρ3,Na,h3,(w1.trans z1).trans g3,We,hl3,r3,p3⟩
   |ct Na=>exact λσ3 We hl3=>⟨ρ3,Na,h3,(w1.trans z1).trans g3,We,hl3,r3,p3⟩
   |bk Na=>exact λσ3 We hl3=>ai r3 p3 σ3 We hl3
   |rt v=>exact(ai r3 p3:WF X.K D (.rt v) h3 ρ3 H3)
theorem Wf{n:Nat}(hb:yt Φ body):Ab Φ (.whl n t body):=O0 λ_ _=>rfl
theorem Wg:Ab Φ (.ret e):=by
 intro Γ k X cl EX st c h;apply Ib h;intro q1 _ h;apply C2 h;intro x h;refine(PR (OZ e c.toCtx h)).imp λD σ H aS=>?_;obtain⟨ρ,env,h,hE,hl,r,p⟩:=aS;simp only[iw]at p;exact⟨ρ,env,h,hE,r,az p λv h1 ρ1 x H1 g1 r1 q1 p1=>ai r1 p1 x q1⟩
theorem RJ:Ab Φ .HF:=by
 intro Γ k X cl EX st c h;apply Ib h;intro q1 _ h;apply C1 h;intro h;refine LY.imp λD σ H aS=>?_;obtain⟨ρ,env,h,hE,hl,r,p⟩:=aS;simp only[iw]at p;exact ai r p _ VR.non
theorem Wh:Ab Φ .brk:=by
 intro Γ k X cl EX st c h;apply Q2 h;intro _ h;refine Gk.imp λD σ H aS=>?_;obtain⟨ρ,env,h,hE,hl,r,p⟩:=aS;simp only[iw]at p;exact ai r p σ hE hl
theorem Wi:Ab Φ .cnt:=by
 intro Γ k X cl EX st c h;apply Q3 h;intro _ h;refine zh.imp λD σ H aS=>?_;obtain⟨ρ,env,h,hE,hl,r,p⟩:=aS;simp only[iw]at p;exact ai r p σ hE hl
theorem RK:Ab Φ .pass:=by
 intro Γ k X cl EX st c h
 rcases kOr h with h|h
 ·apply MK h;intro _ h;refine LW.imp λD σ H aS=>?_;obtain⟨ρ,env,h,hE,hl,r,p⟩:=aS;simp only[iw]at p;exact ai r p σ hE hl
 ·apply C4 h;intro q1 _ h;apply zV h;intro q2 _ _ h;apply QX h;intro _ h;refine PN.imp λD σ H aS=>?_;obtain⟨ρ,env,h,hE,hl,r,p⟩:=aS;simp only[iw]at p;exact ai r p σ hE hl
theorem Nb:Ab Φ .never:=by
 intro Γ k X cl EX st c h;refine zj.imp λD σ H aS=>?_;obtain⟨ρ,env,h,hE,hl,r,p⟩:=aS;simp only[iw]at p;exact p.elim
theorem E8{α β:Type}(c:Bool)(m:M α)(f:α -> M β):bnd (aR c m) f=aR c (bnd m f):=by
 funext h;unfold bnd aR;cases c<;>rfl
theorem RM{n:Nat}:Ab Φ (.setF n a x v):=by
 intro Γ k X cl EX st c h;apply B7 h;intro q1 e pos h;apply oK h;intro q2 h;apply ym h;intro o y ap h;simp only[and_eq_true,beq_iff_eq,List.contains_iff_mem]at h;obtain⟨⟨⟨⟨⟨h1,h2⟩,h3⟩,h4⟩,h5⟩,h6⟩:=h;subst h1;refine(Qa (OZ a c.toCtx h5) (OZ v c.toCtx h6) (mL (t:=some (.Attribute o x ap)) (n:=pos.line) (env:=X.env) h2)).imp λD σ H aS=>?_;obtain⟨ρ,env,h,hE,hl,r,p⟩:=aS;simp only[iw]at p;refine⟨ρ,env,h,hE,r,az p λw h1 ρ1 x1 H1 g1 r1 q1 p1=>⟨ρ1,env,h1,hE.up g1,r1,az p1 λw2 h2 ρ2 x2 H2 g2 r2 q2 p2=>?_⟩⟩;cases w2<;>first|exact p2.elim|skip
 rename_i i;rw[VR]at q2;obtain⟨ad,rfl,q2⟩:=q2;unfold CP at p2;dsimp only at p2;rw[bw]at p2;obtain⟨pr,e1,p3⟩:=aC p2;have hx:h2[i]?=some (.ins pr.1 pr.2)/\pr.1<n:=by
  split at e1
  ·rename_i c0 fs e2
   split at e1
   ·rename_i hc;cases e1;exact⟨e2,hc⟩
   ·cases e1
  ·cases e1
 obtain⟨dx,gs,k1,k2⟩:=r2.ob i _ ad hx.1 q2;obtain⟨cc,nn⟩:=c.cls pr.1 (by omega);have p4:Post (bd X cl) EX ρ2 H2 (WF X.K D) (aR (decide (pr.2.length<1000)) (bnd (put i (.ins pr.1 (uh x w pr.2))) λ_=>ret (.nx env)) h2):=by rw[<-E8];exact p3
 obtain⟨el,p5⟩:=bg p4;refine⟨ad,cl pr.1,dx,gs,rfl,k1,cc,nn x h4,by rw[<-k2.length];exact aaK el,?_⟩;have g:Gr ρ2 H2 ρ2 (upd H2 ad (.ins (cl pr.1) dx (kY x x1 gs))):=Gr.put (aaM q2) k1 rfl;exact p5 ρ2 _ g (r2.put q2 hx.1 (u:=.ins pr.1 (uh x w pr.2)) ⟨dx,_,aW,pM.put (VR.up (g2.trans g) _ _ q1) (pM.up g _ _ k2)⟩) σ (((hE.up g1).up g2).up g) hl
theorem RO:yt Φ .nil:=by
 intro Γ k X cl EX st c h;rw[aO]at h;cases st with
 |cons _ _=>cases h
 |nil=>refine LV.imp λD σ H aS=>?_;obtain⟨ρ,env,h,hE,hl,r,p⟩:=aS;simp only[gm]at p;exact ai r p σ hE hl
theorem Nc(h1:Ab Φ s)(h2:yt Φ ss):yt Φ (.cons s ss):=by
 intro Γ k X cl EX st c h;rw[aO.eq_def]at h;dsimp only at h;cases st with
 |nil=>cases h
 |cons l ls=>
  simp only[and_eq_true]at h;refine(Gj (h1 Γ k X cl EX l c h.1) (h2 Γ k X cl EX ls c h.2)).imp λD σ H aS=>?_;obtain⟨ρ,env,h,hE,hl,r,p⟩:=aS;simp only[gm]at p;refine⟨ρ,env,h,hE,hl,r,bQ p λf h1 ρ1 H1 g1 r1 p1=>?_⟩;cases f with
  |nx env'=>exact λσ' ZD hl'=>⟨ρ1,env',h1,ZD,hl',r1,p1⟩
  |rt v=>exact(ai r1 p1:WF X.K D (.rt v) h1 ρ1 H1)
  |bk env'=>exact(ai r1 p1:WF X.K D (.bk env') h1 ρ1 H1)
  |ct env'=>exact(ai r1 p1:WF X.K D (.ct env') h1 ρ1 H1)
theorem Iw:∀fU,yt Φ fU:=by
 intro fU;exact bY.rec (motive_1:=λs=>Ab Φ s) (motive_2:=λss=>yt Φ ss) (λ_=>RE) (λ_ _=>V9) (λ_ _ _=>Wa) (λ_ _ _=>RI) (λ_ _ _ a b=>Wc a b) (λ_ _ _ _ a=>Wd a) (λ_ _ _ a=>Wf a) (λ_=>Wg) RJ Wh Wi RK Nb (λ_ _ _ _=>RM)
  RO (λ_ _ a b=>Nc a b) fU
end
abbrev Row:=Str×Nat×(List Val->M Val)
def look(fs:List Row)(j:Nat):List Val->M Val:=match fs[j]? with
 |some r=>r.2.2
 |none=>λ_=>bB none
def bC(P:Program)(w:World)(B:Bd)(mg:Str->Option Value)(base:Heap)(k:Nat)(fs:List Row):Prop:=∀(j:Nat) (r:Row),fs[j]?=some r->Uk P w B mg base k j r.1 r.2.1 r.2.2
def aE(N P:List Str)(sc:Scope):Bool :=
 sc.kind==.function && !sc.isCoroutine && !sc.isGenerator&&decide N.Nodup&&N.take P.length==P&&(P.all λx=>sc.names.lookup x==some .local||sc.names.lookup x==some .cell)&&(sc.names.all λy=>y.2 != .free)
theorem Iz(h:aE N P sc=true):sM N P sc:=by
 unfold aE at h;simp only[and_eq_true,beq_iff_eq,not_eq_true',decide_eq_true_eq,all_eq_true,or_eq_true,bne_iff_ne]at h;obtain⟨⟨⟨⟨⟨⟨h1,h2⟩,h3⟩,h4⟩,h5⟩,h6⟩,h7⟩:=h;exact⟨h1,h2,h3,h4,h5,h6,h7⟩
structure Base (K:Frag) (cl:Nat->Addr) (mg:Str->Option Value) (cons:List (Str×Val)) (tb:Tb):Prop where
 blt:∀x∈bltNames,mg x=none
 cons:∀p∈cons,∃v u,mg p.1=some u/\RelV v u/\∀K ρ H,VR K ρ H p.2 v
 cls:∀c,c<tb.nc->Gd K (cl c)/\∀x∈tb.ML,mq K (cl c) x
 MM:∀p∈tb.MM,Meth K (cl p.1) p.2.1 (cl (1000+p.2.2))
 Q5:∀p∈tb.Q5,∃C,mg p.1=some (.ref C)/\Vy K C p.2.1 (cl (1000+p.2.2))
 isc:∀p∈tb.isc,∃C,mg p.1=some (.ref C)/\∀c b,p.2[c]?=some b->TyI K (cl c)/\kitOne K (.ref (cl c)) (.ref C)=some b
section
variable {P:Program} {w:World} {K:Frag} {cl:Nat->Addr} {mg:Str->Option Value} {base:Heap} {k:Nat} {fs:List Row} {cons:List (Str×Val)} {tb:Tb}
theorem Dj{x qual:Str}{st:Stmt}{f:Addr}{fd:FuncData}{N ps:List Str}{body:bY}(T:Base K cl mg cons tb)(A:bC P w ⟨K,cl⟩ mg base k fs)(F:LF K x qual st f fd)(hS:aE N ps (aa st)=true)
  (hc:aO ⟨N,aa st,fs.map (λr=>(r.1,r.2.1)),cons,tb⟩ body (ao st)=true):gK P w K mg base BK (k+2) f fd ps (yo ⟨K,cl⟩ ps.length (fj (look fs) N.length body)):=by
 have S:=Iz hS;refine F.ok S (λvs H Q E h=>?_) (λcdv A' outer s H vs Q E hr h=>?_)
 ·obtain⟨ρ,h,ws,h1,_,h2,_⟩:=h;rw[<-h2.length,h1]
 ·obtain⟨ρ,h,ws,hl,r,hv,p⟩:=h
  have lv:=hv.length
  let X:Cx:=(BG BK P w K mg base N qual (aa st) f cdv A' outer s H E).UH
  have c:RD (look fs) ⟨N,aa st,fs.map (λr=>(r.1,r.2.1)),cons,tb⟩ k X cl (λ_ _ _=>False):=by
   refine { N:=rfl,sc:=rfl,calm:=rfl,room:=hr,o9:=λ_ _ _ z=>z,fns:=λj x n e=>?_,cls:=T.cls,MM:=T.MM,Q5:=T.Q5,isc:=T.isc,cons:=T.cons,blt:=T.blt,fn:=λ_=>rfl,nd:=S.nd,kind:=S.kind,xe:=PassesOwn.never };have e':(fs.map (λr=>(r.1,r.2.1)))[j]?=some (x,n):=e;rw[aaJ]at e';cases er:fs[j]? with
   |none=>rw[er]at e';cases e'
   |some r=>rw[er]at e';cases e';have:=A j r er;unfold look;rw[er];exact this
  refine⟨_,Iw body _ k X cl _ (ao st) c hc,ρ,ws.map some++replicate (N.length-ws.length) none,h,λi v e=>?_,?_,r,bQ p λfl h1 ρ1 H1 g1 r1 p1=>?_⟩
  ·by_cases hi:i<ws.length
   ·rw[aax (by simpa using hi)]at e
    rw[aaJ]at e;cases ei:ws[i]? with
    |none=>rw[ei]at e;cases e
    |some w'=>rw[ei]at e;cases e;obtain⟨y,q1,q2⟩:=hv.get ei;refine⟨y,?_,q2⟩;show (vs.map some++_)[i]?=_;rw[aax (by rw[aak,<-lv];exact hi),aaJ,q1];rfl
   ·rw[aaO (by simp;omega)]at e;have:=aaM e;rw[mem_replicate]at this;exact absurd this.2 (by simp)
  ·show _=(vs.map some++_).length;simp[lv]
  ·cases fl with
   |nx env'=>exact λσ' _ _=>ai r1 p1 _ VR.non
   |rt v=>exact(ai r1 p1:WV K Q v h1 ρ1 H1)
   |bk env'=>exact p1.elim
   |ct env'=>exact p1.elim
theorem _root_.Hv.Uk.mono{j:Nat}{n:Nat}(g:Uk P w B mg base k j x n φ):Uk P w B mg base (k+2) j x n φ:=by
 have le:k<=k+2:=Nat.le_add_right _ _
 rcases g with ⟨h,⟨f,fd,ps,q1,q2,q3,q4,q5⟩|⟨c,f,fd,ps,φ0,q0,q1,q2,q3,q4,q5⟩⟩|⟨h,fd,ps,q1,q4,q5⟩
 ·exact .inl ⟨h,.inl ⟨f,fd,ps,q1,q2,q3,q4,q5.mono le⟩⟩
 ·exact .inl ⟨h,.inr ⟨c,f,fd,ps,φ0,q0,q1,q2,q3,q4,q5.mono le⟩⟩
 ·exact .inr ⟨h,fd,ps,q1,q4,q5.mono le⟩
theorem all_nil:bC P w ⟨K,cl⟩ mg base k []:=λj r e=>by simp at e
theorem yu{r0:Row}(A:bC P w ⟨K,cl⟩ mg base k fs)(g:Uk P w ⟨K,cl⟩ mg base (k+2) fs.length r0.1 r0.2.1 r0.2.2):bC P w ⟨K,cl⟩ mg base (k+2) (fs++[r0]):=λj r e=>by
 by_cases hj:j<fs.length
 ·rw[aax hj]at e;exact(A j r e).mono
 ·rw[aaO (by omega)]at e
  have hj0:j-fs.length=0:=by have:=(aao.mp e).1;simp at this;omega
  rw[hj0]at e;simp at e;subst e;rw[show j=fs.length by omega];exact g
theorem ID{x qual:Str}{st:Stmt}{f:Addr}{fd:FuncData}{N ps:List Str}{body:bY}(T:Base K cl mg cons tb)(A:bC P w ⟨K,cl⟩ mg base k fs)(F:LF K x qual st f fd)(hm:mg x=some (.ref f))(hb:Binds K fd ps [])(uB:ps.length<1000)(hS:aE N ps (aa st)=true)
  (hc:aO ⟨N,aa st,fs.map (λr=>(r.1,r.2.1)),cons,tb⟩ body (ao st)=true):bC P w ⟨K,cl⟩ mg base (k+2) (fs++[(x,ps.length,fj (look fs) N.length body)]) :=
 yu (r0:=(x,ps.length,fj (look fs) N.length body)) A (.inl ⟨uB,.inl ⟨f,fd,ps,rfl,hm,F.kp,hb,Dj T A F hS hc⟩⟩)
theorem IF{x qual y:Str}{st:Stmt}{f:Addr}{fd:FuncData}{N ps:List Str}{body:bY}(T:Base K cl mg cons tb)(A:bC P w ⟨K,cl⟩ mg base k fs)(F:LF K x qual st f fd)(hf:cl (1000+fs.length)=f)(hb:Binds K fd ps [])(hS:aE N ps (aa st)=true)
  (hc:aO ⟨N,aa st,fs.map (λr=>(r.1,r.2.1)),cons,tb⟩ body (ao st)=true):bC P w ⟨K,cl⟩ mg base (k+2) (fs++[(y,1000+ps.length,fj (look fs) N.length body)]):=by
 refine yu (r0:=(y,1000+ps.length,fj (look fs) N.length body)) A (.inr ⟨Nat.le_add_right _ _,fd,ps,?_,hb,?_⟩)
 ·show ps.length=1000+ps.length-1000;omega
 ·show gK P w K mg base BK (k+2) (cl (1000+fs.length)) fd ps (yo ⟨K,cl⟩ (1000+ps.length-1000) _);rw[hf,show 1000+ps.length-1000=ps.length by omega];exact Dj T A F hS hc
theorem all_class{x i qual:Str}{st:Stmt}{f:Addr}{fd:FuncData}{N ps:List Str}{n c:Nat}{body:bY}(T:Base K cl mg cons tb)(A:bC P w ⟨K,cl⟩ mg base k fs)(F:LF K i qual st f fd)(hm:mg x=some (.ref (cl c)))(M:Mk K (cl c) f)(hb:Binds K fd ps [])(hn:ps.length=n+1)(uB:n<1000)(hS:aE N ps (aa st)=true)
  (hc:aO ⟨N,aa st,fs.map (λr=>(r.1,r.2.1)),cons,tb⟩ body (ao st)=true):bC P w ⟨K,cl⟩ mg base (k+2) (fs++[(x,n,OQ c (fj (look fs) N.length body))]):=by
 refine yu (r0:=(x,n,OQ c (fj (look fs) N.length body))) A (.inl ⟨uB,.inr ⟨c,f,fd,ps,_,rfl,hn,hm,M,hb,?_⟩⟩);rw[<-hn];exact Dj T A F hS hc
end
def iE(K:Frag)(x qual:Str)(st:Stmt)(f:Addr):Prop:=∃fd,LF K x qual st f fd
theorem iE.kp{K:Frag}{x qual:Str}{st:Stmt}{f:Addr}(F:iE K x qual st f):keepIn K (.ref f)=true:=F.elim λ_ F=>F.kp
section
variable {α:Type} {p:List α -> Prop}
theorem LL:∀{us:List α},us.length=1->(∀a,p [a])->p us
 |[a],_,h=>h a
theorem ln2:∀{us:List α},us.length=2->(∀a b,p [a,b])->p us
 |[a,b],_,h=>h a b
theorem Nd:∀{us:List α},us.length=3->(∀a b c,p [a,b,c])->p us
 |[a,b,c],_,h=>h a b c
theorem ZE:∀{us:List α},us.length=4->(∀a b c d,p [a,b,c,d])->p us
 |[a,b,c,d],_,h=>h a b c d
end
def ZF(x qual:Str)(st:Stmt)(ps:List Str):Prop:=∀(kV doc pm:Value) (an:Option Addr) (cdv ct:Value) (us:List Value),us.length=ps.length->bindArgs (fnOf x qual (pD st) (ao st) (aa st) .none kV doc pm an cdv ct) ⟨us,[]⟩=pure (ps.zip us)
section
variable {P:Program} {w:World} {K:Frag} {cl:Nat->Addr} {mg:Str->Option Value} {base:Heap} {k:Nat} {fs:List Row} {cons:List (Str×Val)} {tb:Tb} {x i y qual:Str} {st:Stmt} {f:Addr} {N ps:List Str} {body:bY} (T:Base K cl mg cons tb) (A:bC P w ⟨K,cl⟩ mg base k fs)
include T A
theorem bI(F:iE K x qual st f)(hm:mg x=some (.ref f))(hS:aE N ps (aa st)=true)
  (hc:aO ⟨N,aa st,fs.map (λr=>(r.1,r.2.1)),cons,tb⟩ body (ao st)=true) (uB:ps.length<1000) (hb:ZF x qual st ps):bC P w ⟨K,cl⟩ mg base (k+2) (fs++[(x,ps.length,fj (look fs) N.length body)]):=F.elim λ_ F=>ID T A F hm (F.binds hb) uB hS hc
theorem Ac(F:iE K x qual st f)(hf:cl (1000+fs.length)=f)(hS:aE N ps (aa st)=true)
  (hc:aO ⟨N,aa st,fs.map (λr=>(r.1,r.2.1)),cons,tb⟩ body (ao st)=true) (hb:ZF x qual st ps):bC P w ⟨K,cl⟩ mg base (k+2) (fs++[(y,1000+ps.length,fj (look fs) N.length body)]):=F.elim λ_ F=>IF T A F hf (F.binds hb) hS hc
theorem RP{n c:Nat}(F:iE K i qual st f)(hm:mg x=some (.ref (cl c)))(M:Mk K (cl c) f)(hS:aE N ps (aa st)=true)
  (hc:aO ⟨N,aa st,fs.map (λr=>(r.1,r.2.1)),cons,tb⟩ body (ao st)=true) (hn:ps.length=n+1) (uB:n<1000) (hb:ZF i qual st ps):bC P w ⟨K,cl⟩ mg base (k+2) (fs++[(x,n,OQ c (fj (look fs) N.length body))]):=F.elim λ_ F=>all_class T A F hm M (F.binds hb) hn uB hS hc
end
theorem RQ{K:Frag}{cl:Nat->Addr}{φ:List Val->M Val}{H:Hp}{a:Addr}{ns:List Int}(hO:GS H)(hS:iD K H a (ns.map V.int))(h:∃h',φ [.rl (ns.map .int)] []=.ok (.bl true) h') :
  yo ⟨K,cl⟩ 1 φ [.ref a] H (λv _=>v=.bl true) λ_ _ _=>False:=by
 obtain⟨h',e⟩:=h;have sr:QA K H a (ns.map V.int):=by
  rcases hS with (z|z)|z
  ·rcases hO a with y|⟨o,xs,y⟩
   ·rw[y]at z;cases z
   ·rw[y]at z;cases z
  ·exact .inl z
  ·exact .inr (.inr z)
 refine⟨[],[],[.rl (ns.map .int)],rfl,⟨rfl,abm,λi o a e=>by simp at e⟩,aI.cons (by rw[VR];exact⟨a,_,rfl,sr,aI.ints.mpr rfl⟩) aI.nil,?_⟩;rw[e];intro ρ' H' g r x q;rw[VR]at q;exact q
def Ym(K:Frag):Sp:=λvs H Q _=>∃(a:Addr) (ns:List Int),vs=[.ref a]/\GS H/\iD K H a (ns.map V.int)/\ns.length<=63/\∀H',Q (.bl true) H'
theorem RS{K:Frag}{cl:Nat->Addr}{φ:List Val->M Val}(hφ:∀ns:List Int,ns.length<=63->∃h',φ [.rl (ns.map .int)] []=.ok (.bl true) h')(vs:List V)(H:Hp)(Q:VK)(E:XK)(h:Ym K vs H Q E):yo ⟨K,cl⟩ 1 φ vs H Q E:=by
 obtain⟨a,ns,rfl,hO,hS,hl,hq⟩:=h;obtain⟨ρ,h,vs,q1,q2,q3,q4⟩:=RQ (cl:=cl) hO hS (hφ ns hl);refine⟨ρ,h,vs,q1,q2,q3,?_⟩;revert q4;cases φ vs h with
 |ok v h'=>exact λq4 ρ' H' g r x hx=>by rw[show x=_ from q4 ρ' H' g r x hx];exact hq H'
 |exc c ws h'=>exact λq4=>q4
 |no=>exact λq4=>q4
theorem walk{l:PySem.W.OpenLaw}{q:Program}{loose:List Str}{XP:(Str->Option Value)->Heap->Prop}{YP:World->Heap->Prop}{d:DefRec}{K:Params->Frag}{k:Nat}{x:Str}(hn:l.most=some 63)(hdf:d.params.defaults=[])(hr:fO k callerA)
  (hY:∀(w:World) (h:Heap),YP w h->(K w.params).In h)
  (F:∀(w:World) (mg:Str->Option Value) (fa:Addr) (h:Heap),(K w.params).In h->h.Ns mainGlobals mg->mg d.name=some (.ref fa) ->
   ∃fd:FuncData,(∀(s:Shared) (u:Value),BindsTo s fd ⟨[u],[]⟩ [(x,u)])/\∀base:Heap,(K w.params).In base->base.Ns mainGlobals mg->gK l.prog w (K w.params) mg base BK k fa fd [x] (Ym (K w.params))) :
  PySem.W.WalkO q loose XP YP l.row.toRowW d [] (λf vs=>PySem.call f vs) :=
 L2.Mq (n:=63) (k:=k) (x:=x) (CX:=λ_=>BK) (sp:=λw=>Ym (K w.params)) hn (by decide) hdf hr hY F (λ_ _ a ns hl hO hS=>⟨a,ns,rfl,hO,hS,hl,λ_=>rfl⟩) λ_ _ _ _ _ z=>z
end Hv
end
section
namespace Hv
open PySem L2
inductive Pr (α:Type)
 |ok (a:α)|exc (c:Nat) (ds:List Val)|no
def pb{α β:Type}(m:Pr α)(f:α -> Pr β):Pr β:=match m with
 |.ok a=>f a
 |.exc c ds=>.exc c ds
 |.no=>.no
def pl{α:Type}(o:Option α):Pr α:=match o with
 |some a=>.ok a
 |none=>.no
def pg{α:Type}(c:Bool)(m:Pr α):Pr α:=if c=true then m else .no
inductive Mk
 |sh|nw|ow
def qv:Mk->Bool
 |.ow=>false
 |_=>true
def Uo:Mk->Bool
 |.nw=>true
 |_=>false
abbrev aU:=List (Option (Mk×Val))
abbrev FV:=Bool×Val
mutual
noncomputable def jL:Val->Bool
 |.rl _=>false
 |.dc _ _=>false
 |.ob _ _ _=>false
 |.ref _=>false
 |.tup vs=>b6 vs
 |.non=>true
 |.bl _=>true
 |.int _=>true
 |.str _=>true
noncomputable def b6:List Val->Bool
 |[]=>true
 |v::vs=>jL v&&b6 vs
end
def eF(f:Bool)(d:Val):Mk:=if (f && !jL d)=true then .nw else .sh
def putD(ks:List Key)(ds:List Val)(k:Key)(d:Val):Val:=.dc ((jD (ks.zip ds) k d).map (·.1)) ((jD (ks.zip ds) k d).map (·.2))
def oO:ON->Val->Val->Pr FV
 |.add,.int a,.int b=>.ok (true,.int (a+b))
 |.add,.rl a,.rl b=>pg (decide (a.length+b.length<=sizeLine)) (.ok (b6 (a++b),.rl (a++b)))
 |.sub,.int a,.int b=>.ok (true,.int (a-b))
 |.mul,.int a,.int b=>pg (lO a b) (.ok (true,.int (a*b)))
 |.fdiv,.int a,.int b=>pg (ja b) (.ok (true,.int (a/b)))
 |.mod,.int a,.int b=>pg (decide (0<b)) (.ok (true,.int (a%b)))
 |.pow,.int a,.int b=>pg (decide (0<=b/\b<=1000000/\a.natAbs<2 ^ 64)) (.ok (true,.int (a ^ b.toNat)))
 |_,_,_=>.no
def Cd(v:Val)(lo hi:Option Int):Pr FV:=match v with
 |.tup vs=>pg (!(decide (HT.fq vs.length 0 lo=0)&&decide (HT.fq vs.length vs.length hi=vs.length))) (.ok (b6 (dX vs lo hi),.tup (dX vs lo hi)))
 |.rl vs=>.ok (b6 (dX vs lo hi),.rl (dX vs lo hi))
 |_=>.no
def gQ:Bl->List Val->Pr FV
 |.len,[v]=>pb (pl (pL [] v)) λn=>.ok (true,.int n)
 |.min,[.int a,.int b]=>.ok (true,.int (if b<a then b else a))
 |.max,[.int a,.int b]=>.ok (true,.int (if b>a then b else a))
 |.min,[v]=>pb (pl (dH [] v)) λxs=>pb (pl ((aX xs).bind vJ)) λm=>.ok (true,m)
 |.max,[v]=>pb (pl (dH [] v)) λxs=>pb (pl ((aX xs).bind yj)) λm=>.ok (true,m)
 |.sorted,[.rl xs]=>pb (pl (gO xs)) λys=>.ok (true,.rl ys)
 |.list,[v]=>pb (pl (dH [] v)) λxs=>.ok (b6 xs,.rl xs)
 |.int,[.bl b]=>.ok (true,.int (if b=true then 1 else 0))
 |.int,[.int i]=>.ok (true,.int i)
 |.all,[.rl xs]=>pb (pl (bZ xs)) λbs=>.ok (true,.bl (bs.all id))
 |.any,[.rl xs]=>pb (pl (bZ xs)) λbs=>.ok (true,.bl (bs.any id))
 |.isin T,[v]=>pb (pl (zM [] v)) λt=>pb (pl (zN T t)) λb=>.ok (true,.bl b)
 |_,_=>.no
def k9:Ik->List Val->Option (List Val)
 |.seq,[.tup vs]=>some vs
 |.seq,[.rl vs]=>some vs
 |.range,[.int n]=>if inR n then some (cB 0 n.toNat) else none
 |.range,[.int a,.int b]=>if inR a&&inR b then some (cB a (b-a).toNat) else none
 |.enum,[.rl vs]=>some (ug 0 vs)
 |_,_=>none
def E9(k:Ik)(ds:List Val):Option (List Val):=match k with
 | .zip=>(match ds with
  |[.rl a,.rl b]=>some (gj a b)
  |_=>none)
 |k=>k9 k ds
def cT:List Nat->List Val->aU->Option aU
 |[],[],env=>some env
 |i::is,d::ds,env=>cT is ds (env.set i (some (.sh,d)))
 |_,_,_=>none
def cF:B3->Val->aU->Option aU
 |.one i,d,env=>some (env.set i (some (.sh,d)))
 |.tup is,.tup ds,env=>cT is ds env
 |_,_,_=>none
def di(js:List (Option Nat))(env:aU):aU:=js.map λo=>match o with
 |none=>none
 | some j=>match env[j]? with
  |some (some d)=>some d
  |_=>none
def lQ(f:Val->Pr (Option FV)):List Val->Pr (Bool×List Val)
 |[]=>.ok (true,[])
 |x::r=>pb (f x) λo=>pb (lQ f r) λp=>.ok (match o with|some e=>(e.1&&p.1,e.2::p.2)|none=>p)
def wZ:Val->Pr Bool
 |.bl b=>.ok b
 |_=>.no
def j3(env:aU):IE->Option FV
 | .var i=>match env[i]? with
  |some (some (_,d))=>some (jL d,d)
  |_=>none
 |_=>none
def isVar:IE->Bool
 |.var _=>true
 |_=>false
mutual
noncomputable def bA(Ψ:Nat->List Val->Pr FV):IE->aU->Pr FV
 | .var i,env=>match env[i]? with
  |some (some (m,d))=>pg (qv m) (.ok (jL d,d))
  |_=>.no
 |.cst d,_=>.ok (jL d,d)
 |.con _ d,_=>.ok (jL d,d)
 |.no,_=>.no
 |.bin o a b,env=>pb (if isVar a=true then pl (j3 env a) else bA Ψ a env) λx=>pb (if isVar b=true then pl (j3 env b) else bA Ψ b env) λy=>oO o x.2 y.2
 | .neg a,env=>pb (bA Ψ a env) λx=>match x.2 with
  |.int i=>.ok (true,.int (-i))
  |_=>.no
 |.cmp o a b,env=>pb (if isVar a=true then pl (j3 env a) else bA Ψ a env) λx=>pb (if isVar b=true then pl (j3 env b) else bA Ψ b env) λy=>pb (pl (cop [] o x.2 y.2)) λt=>.ok (true,.bl t)
 |.chn _ _ _ _ _,_=>.no
 |.and a b,env=>pb (bA Ψ a env) λx=>pb (wZ x.2) λt=>if t=true then pb (bA Ψ b env) λy=>pb (wZ y.2) λu=>.ok (true,.bl u) else .ok (true,.bl false)
 |.or a b,env=>pb (bA Ψ a env) λx=>pb (wZ x.2) λt=>if t=true then .ok (true,.bl true) else pb (bA Ψ b env) λy=>pb (wZ y.2) λu=>.ok (true,.bl u)
 |.not a,env=>pb (bA Ψ a env) λx=>pb (pl (dI [] x.2)) λt=>.ok (true,.bl (!t))
 |.ite _ _ _,_=>.no
 |.tup es,env=>pb (pO Ψ es env) λp=>pg (decide (p.2.length<=sizeLine)) (.ok (p.1,.tup p.2))
 |.lst es,env=>pb (pO Ψ es env) λp=>pg (decide (p.2.length<=sizeLine)) (.ok (p.1,.rl p.2))
 |.idx a b,env=>pb (if isVar a=true then pl (j3 env a) else bA Ψ a env) λx=>pb (bA Ψ b env) λy=>pb (pl (iu [] x.2 y.2)) λz=>.ok (jL z,z)
 |.slc a lo hi,env=>pb (if isVar a=true then pl (j3 env a) else bA Ψ a env) λx=>pb (if eW lo=true then .ok none else pb (bA Ψ lo env) λv=>pb (pl (gq v.2)) λi=>.ok (some i)) λl=>
   pb (if eW hi=true then .ok none else pb (bA Ψ hi env) λv=>pb (pl (gq v.2)) λi=>.ok (some i)) λu=>Cd x.2 l u
 |.call j es,env=>pb (pO Ψ es env) λp=>Ψ j p.2
 |.blt b es,env=>pb (eG Ψ es env) λds=>gQ b ds
 | .met m a es,env=>match m with
  |.join=>.no
  |_=>.no
 | .comp _ js pat k it c elt,env=>pb (eG Ψ it env) λits=>pb (pl (E9 k its)) λxs=>pg (decide (xs.length<=100000))
   (pb (lQ (λd=>pb (pl (cF pat d (di js env))) λenv'=>pb (if eW c=true then .ok true else pb (bA Ψ c env') λv=>pl (dI [] v.2)) λt=>
    if t=true then pb (bA Ψ elt env') λe=>.ok (some e) else .ok none) xs) λp=>.ok (p.1,.rl p.2))
 |.dct0,_=>.ok (true,.dc [] [])
 | .sset a,env=>pb (if isVar a=true then pl (j3 env a) else bA Ψ a env) λx=>match x.2 with
  |.rl xs=>pb (pl (aX xs)) λns=>pg (decide (ns.length<64)) (.ok (true,.rl ((sortI (L2.cH [] ns)).map .int)))
  |_=>.no
 |.dget d k x,env=>pb (if isVar d=true then pl (j3 env d) else bA Ψ d env) λo=>pb (pl (HG [] o.2)) λ_=>pb (bA Ψ k env) λi=>pb (pl (keyOf i.2)) λkk=>pb (bA Ψ x env) λz=>pb (pl (sy [] o.2 kk)) λr=>.ok (jL (r.getD z.2),r.getD z.2)
 |.dct1 k v,env=>pb (bA Ψ k env) λx=>pb (pl (keyOf x.2)) λkk=>pb (bA Ψ v env) λy=>.ok (y.1,.dc [kk] [y.2])
 |.lkeys d,env=>pb (if isVar d=true then pl (j3 env d) else bA Ψ d env) λo=>pb (pl (wQ [] o.2)) λks=>.ok (true,.rl (ks.map HH))
 |.sdef ..,_=>.no
 |.svals _,_=>.no
 | .skeys a,env=>pb (if isVar a=true then pl (j3 env a) else bA Ψ a env) λx=>match x.2 with
  |.rl xs=>pb (pl (aX xs)) λns=>pg (decide (ns.length<64)) (.ok (true,.int ((L2.cH [] ns).length:Nat)))
  |_=>.no
 |.fld n a x,env=>pb (if isVar a=true then pl (j3 env a) else bA Ψ a env) λo=>pb (pl (nY n [] o.2 x)) λz=>.ok (jL z,z)
 |.mth a m js es,env=>pb (bA Ψ a env) λo=>pb (pl (sD [] o.2 m js)) λj=>pb (pO Ψ es env) λp=>Ψ j (o.2::p.2)
 |.rev _ _,_=>.no
 |.dflt _ _ _ _ d _,env=>pb (if isVar d=true then pl (j3 env d) else bA Ψ d env) λo=>pb (pl (wR [] o.2)) λns=>.ok (true,.rl (ns.map .int))
 |.isc _ _ _,_=>.no
noncomputable def pO(Ψ:Nat->List Val->Pr FV):pJ->aU->Pr (Bool×List Val)
 |.nil,_=>.ok (true,[])
 |.cons e es,env=>pb (bA Ψ e env) λd=>pb (pO Ψ es env) λp=>.ok (d.1&&p.1,d.2::p.2)
noncomputable def eG(Ψ:Nat->List Val->Pr FV):pJ->aU->Pr (List Val)
 |.nil,_=>.ok []
 |.cons e es,env=>pb (if isVar e=true then pl (j3 env e) else bA Ψ e env) λd=>pb (eG Ψ es env) λp=>.ok (d.2::p)
end
def IG(Ψ:Nat->List Val->Pr FV)(e:IE)(env:aU):Pr FV:=if isVar e=true then pl (j3 env e) else bA Ψ e env
inductive yv
 |nx (env:aU)|rt (p:FV)|bk (env:aU)|ct (env:aU)
mutual
noncomputable def yw:IS->List Nat
 |.expr (.met .append (.var i) _)=>[i]
 |.expr (.met .extend (.var i) _)=>[i]
 |.ig (.var i) _ _=>[i]
 |.iff _ a b=>kh a++kh b
 |.for _ _ _ b=>kh b
 |.whl _ _ b=>kh b
 |_=>[]
noncomputable def kh:bY->List Nat
 |.nil=>[]
 |.cons s r=>yw s++kh r
end
def stored:B3->List Nat
 |.one i=>[i]
 |.tup is=>is
mutual
noncomputable def sE:IS->List Nat
 |.asg p _=>stored p
 |.aug i _ _=>[i]
 |.iff _ a b=>ou a++ou b
 |.for p _ _ b=>stored p++ou b
 |.whl _ _ b=>ou b
 |_=>[]
noncomputable def ou:bY->List Nat
 |.nil=>[]
 |.cons s r=>sE s++ou r
end
def ZG:IE->Bool
 |.lst _=>true
 |.comp ..=>true
 |.slc ..=>true
 |.blt .list _=>true
 |.blt .sorted _=>true
 |.dct0=>true
 |.dct1 ..=>true
 |_=>false
def gA(body:Val->aU->Pr yv):List Val->aU->Pr yv
 |[],env=>.ok (.nx env)
 | x::r,env=>pb (body x env) λf=>match f with
  |.nx env'=>gA body r env'
  |.ct env'=>gA body r env'
  |.bk env'=>.ok (.nx env')
  |.rt p=>.ok (.rt p)
def frM:Mk->Mk
 |.ow=>.sh
 |m=>m
def frO:Option (Mk×Val)->Option (Mk×Val)
 |none=>none
 |some (m,d)=>some (frM m,d)
def kg(env:aU):aU:=env.map frO
def O3(env:aU)(e:IE)(x:FV):Bool:=match e with
 | .var i=>(match env[i]? with
  |some (some (.nw,_))=>true
  |_=>x.1)
 |_=>x.1
def Nf(Ψ:Nat->List Val->Pr FV)(es:pJ)(env:aU):Pr FV:=match es with
 |.cons a #[.tup #[b,c]]=>pb (bA Ψ a (kg env)) λx=>pb (bA Ψ b (kg env)) λy=>pb (bA Ψ c (kg env)) λz=>.ok (x.1&&(O3 env b y&&O3 env c z),.tup [x.2,.tup [y.2,z.2]])
 |es=>bA Ψ (.tup es) (kg env)
def Yn(Ψ:Nat->List Val->Pr FV)(e:IE)(env:aU):Pr FV:=match e with
 | .var i=>match env[i]? with
  | some (some (m,d))=>if qv m=true then .ok (jL d||Uo m,d) else match d with
   |.rl ds=>.ok (b6 ds,.rl ds)
   |.dc ks ds=>.ok (b6 ds,.dc ks ds)
   |_=>.no
  |_=>.no
 |.call j es=>bA Ψ (.call j es) (kg env)
 |.tup es=>Nf Ψ es env
 |e=>bA Ψ e env
def uC(p:B3)(it:pJ)(body:bY):Bool:=match it with
 |.cons (.var i) .nil=>!(kh body).contains i && !(ou body).contains i && !(stored p).contains i
 |_=>true
def Fb(k:Ik)(z o:Pr yv):Pr yv:=match k with
 |.zip=>z
 |_=>o
def Fc:List Val->Option (List Val)
 |[.rl a,.rl b]=>some (gj a b)
 |_=>none
mutual
noncomputable def bH(Ψ:Nat->List Val->Pr FV)(ms:List Nat):IS->aU->Pr yv
 | .expr e,env=>match e with
  | .met .append (.var i) #[a]=>match env[i]? with
   |some (some (.ow,.rl ds))=>pb (bA Ψ a env) λx=>pg (decide (ds.length<sizeLine)) (.ok (.nx (env.set i (some (.ow,.rl (ds++[x.2]))))))
   |_=>.no
  | .met .extend (.var i) #[a]=>match env[i]? with
   | some (some (.ow,.rl ds))=>pb (bA Ψ a env) λx=>match x.2 with
    |.tup vs=>pg (decide (ds.length+vs.length<=sizeLine)) (.ok (.nx (env.set i (some (.ow,.rl (ds++vs))))))
    |_=>.no
   |_=>.no
  |e=>pb (bA Ψ e env) λ_=>.ok (.nx env)
 | .asg p e,env=>match p with
  | .one i=>if ms.contains i=true then pg (ZG e) (pb (bA Ψ e env) λx=>match x.2 with
    |.rl ds=>.ok (.nx (env.set i (some (.ow,.rl ds))))
    |.dc ks ds=>.ok (.nx (env.set i (some (.ow,.dc ks ds))))
    |_=>.no) else pb (bA Ψ e env) λx=>.ok (.nx (env.set i (some (eF x.1 x.2,x.2))))
  |.tup is=>pg (is.all λi=>!ms.contains i) (pb (bA Ψ e env) λx=>pb (pl (cF (.tup is) x.2 env)) λenv'=>.ok (.nx env'))
 |.aug _ _ _,_=>.no
 | .ig o i v,env=>match o with
  | .var j=>pb (bA Ψ v env) λx=>match env[j]? with
   |some (some (.ow,.dc ks ds))=>pb (bA Ψ i env) λz=>pb (pl (keyOf z.2)) λk=>pg (decide (ks.length<sizeLine)) (.ok (.nx (env.set j (some (.ow,putD ks ds k x.2)))))
   |_=>.no
  |_=>.no
 |.iff c a b,env=>pb (IG Ψ c env) λx=>pb (pl (dI [] x.2)) λt=>if t=true then aD Ψ ms a env else aD Ψ ms b env
 | .for p k it body,env=>Fb k (pg ((stored p).all λi=>!ms.contains i) (pb (pO Ψ it env) λq=>pb (pl (Fc q.2)) λxs=>gA (λx env=>pb (pl (cF p x env)) λenv'=>aD Ψ ms body env') xs env))
  (pg (uC p it body&&(stored p).all λi=>!ms.contains i) (pb (eG Ψ it env) λits=>pb (pl (k9 k its)) λxs=>
   gA (λx env=>pb (pl (cF p x env)) λenv'=>aD Ψ ms body env') xs env))
 |.whl _ _ _,_=>.no
 |.ret e,env=>pb (Yn Ψ e env) λp=>.ok (.rt p)
 |.HF,_=>.ok (.rt (true,.non))
 |.brk,env=>.ok (.bk env)
 |.cnt,env=>.ok (.ct env)
 |.pass,env=>.ok (.nx env)
 |.never,_=>.no
 |.setF _ _ _ _,_=>.no
noncomputable def aD(Ψ:Nat->List Val->Pr FV)(ms:List Nat):bY->aU->Pr yv
 |.nil,env=>.ok (.nx env)
 | .cons s r,env=>pb (bH Ψ ms s env) λf=>match f with
  |.nx env'=>aD Ψ ms r env'
  |f=>.ok f
end
def bW(Ψ:Nat->List Val->Pr FV)(n:Nat)(body:bY)(ds:List Val):Pr FV :=
 pb (aD Ψ (kh body) body (ds.map (λd=>some (.sh,d))++replicate (n-ds.length) none)) λf=>match f with
  |.nx _=>.ok (true,.non)
  |.rt p=>.ok p
  |_=>.no
def RT:Val->Option (List Val)
 |.tup vs=>some vs
 |_=>none
def Wj:Val->Option (List Val)
 |.rl vs=>some vs
 |_=>none
theorem Fd(h:RT v=some vs):v=.tup vs:=by cases v<;>cases h;rfl
theorem Ng(h:Wj v=some vs):v=.rl vs:=by cases v<;>cases h;rfl
theorem qJ{i:Int}(h:gq v=some i):v=.int i:=by cases v<;>cases h;rfl
def Uq:List Val->Option (Val×Val)
 |[a,b]=>some (a,b)
 |_=>none
theorem Ad(h:Uq vs=some p):vs=[p.1,p.2]:=by
 rcases vs with _|⟨a,_|⟨b,_|⟨c,r⟩⟩⟩<;>cases h;rfl
def nw?:Mk×Val->Option Val
 |(.nw,d)=>some d
 |_=>none
def ow?:Mk×Val->Option Val
 |(.ow,d)=>some d
 |_=>none
def Mw(o:Option (Option (Mk×Val))):Option Val:=o.bind λs=>s.bind nw?
def slO(o:Option (Option (Mk×Val))):Option Val:=o.bind λs=>s.bind ow?
theorem O4(h:Mw o=some d):o=some (some (.nw,d)):=by
 obtain⟨s,e1,h1⟩:=aah.mp h;obtain⟨⟨n,e⟩,e2,h2⟩:=aah.mp h1;rw[e1,e2];cases n<;>cases h2;rfl
theorem Wk(h:slO o=some d):o=some (some (.ow,d)):=by
 obtain⟨s,e1,h1⟩:=aah.mp h;obtain⟨⟨n,e⟩,e2,h2⟩:=aah.mp h1;rw[e1,e2];cases n<;>cases h2;rfl
abbrev AP:=Option Nat->Prop
def Fr(n:Nat):AP:=λo=>match o with
 |none=>False
 |some k=>n<=k
theorem Fr.le{n m:Nat}(h:n<=m):∀o,Fr m o->Fr n o
 |none,e=>e
 |some k,e=>aaN h e
mutual
noncomputable def Dn(A:AP)(h:Hs):Val->Val->Prop
 |.non,v=>v=.non
 |.bl b,v=>v=.bl b
 |.int i,v=>v=.int i
 |.str x,v=>v=.str x
 |.tup ds,v=>∃vs,v=.tup vs/\av A h ds vs
 |.rl ds,v=>(∃vs,v=.rl vs/\A none/\av A h ds vs)\/∃i vs,v=.ref i/\A (some i)/\h[i]?=some (.lst vs)/\av A h ds vs
 |.dc ks ds,v=>∃i kvs,v=.ref i/\A (some i)/\h[i]?=some (.dct kvs)/\kvs.map (·.1)=ks/\av A h ds (kvs.map (·.2))
 |.ob c xs ds,v=>∃i fs,v=.ref i/\A (some i)/\h[i]?=some (.ins c fs)/\fs.map (·.1)=xs/\av A h ds (fs.map (·.2))
 |.ref _,_=>False
noncomputable def av(A:AP)(h:Hs):List Val->List Val->Prop
 |[],vs=>vs=[]
 |d::ds,vs=>∃v r,vs=v::r/\Dn A h d v/\av A h ds r
end
section
variable {A A':AP} {h h' h1:Hs}
mutual
theorem Dn.mono(hA:∀i,A i->A' i)(hh:∀(i:Nat) (o:Ob),A (some i)->h[i]?=some o->h'[i]?=some o):∀(d v:Val),Dn A h d v->Dn A' h' d v
 |.non,v,e=>by rw[Dn]at e |-;exact e
 |.bl _,v,e=>by rw[Dn]at e |-;exact e
 |.int _,v,e=>by rw[Dn]at e |-;exact e
 |.str _,v,e=>by rw[Dn]at e |-;exact e
 | .tup ds,v,e=>by
  rw[Dn]at e |-;obtain⟨vs,rfl,q⟩:=e;exact⟨vs,rfl,av.mono hA hh ds vs q⟩
 | .rl ds,v,e=>by
  rw[Dn]at e |-
  rcases e with ⟨vs,rfl,n,q⟩|⟨i,vs,rfl,a,g,q⟩
  ·exact .inl ⟨vs,rfl,hA _ n,av.mono hA hh ds vs q⟩
  ·exact .inr ⟨i,vs,rfl,hA _ a,hh i _ a g,av.mono hA hh ds vs q⟩
 | .dc ks ds,v,e=>by
  rw[Dn]at e |-;obtain⟨i,kvs,rfl,a,g,k,q⟩:=e;exact⟨i,kvs,rfl,hA _ a,hh i _ a g,k,av.mono hA hh ds _ q⟩
 | .ob c xs ds,v,e=>by
  rw[Dn]at e |-;obtain⟨i,kvs,rfl,a,g,k,q⟩:=e;exact⟨i,kvs,rfl,hA _ a,hh i _ a g,k,av.mono hA hh ds _ q⟩
 |.ref _,v,e=>by rw[Dn]at e;exact e.elim
theorem av.mono(hA:∀i,A i->A' i)(hh:∀(i:Nat) (o:Ob),A (some i)->h[i]?=some o->h'[i]?=some o):∀(ds vs:List Val),av A h ds vs->av A' h' ds vs
 |[],vs,e=>by rw[av]at e |-;exact e
 | d::ds,vs,e=>by
  rw[av]at e |-;obtain⟨v,r,rfl,q1,q2⟩:=e;exact⟨v,r,rfl,Dn.mono hA hh d v q1,av.mono hA hh ds r q2⟩
end
theorem cC{i:Nat}(p:h<+:h')(e:h[i]?=some o):h'[i]?=some o:=by
 obtain⟨t,rfl⟩:=p;have hi:i<h.length:=(aao.mp e).1;rw[aax hi];exact e
theorem Dn.ext(p:h<+:h')(e:Dn A h d v):Dn A h' d v:=Dn.mono (λ_ a=>a) (λ_ _ _ q=>cC p q) d v e
theorem av.ext(p:h<+:h')(e:av A h d v):av A h' d v:=av.mono (λ_ a=>a) (λ_ _ _ q=>cC p q) d v e
theorem Dn.g9(hA:∀i,A i->A' i)(e:Dn A h d v):Dn A' h d v:=Dn.mono hA (λ_ _ _ q=>q) d v e
theorem av.g9(hA:∀i,A i->A' i)(e:av A h d v):av A' h d v:=av.mono hA (λ_ _ _ q=>q) d v e
mutual
theorem j4:∀(d v:Val),jL d=true->(Dn A h d v↔v=d)
 |.non,v,_=>by rw[Dn]
 |.bl _,v,_=>by rw[Dn]
 |.int _,v,_=>by rw[Dn]
 |.str _,v,_=>by rw[Dn]
 | .tup ds,v,e=>by
  rw[jL]at e;rw[Dn];constructor
  ·rintro⟨vs,rfl,q⟩;rw[(aZ ds vs e).mp q]
  ·rintro rfl;exact⟨ds,rfl,(aZ ds ds e).mpr rfl⟩
 |.rl _,v,e=>by rw[jL]at e;cases e
 |.dc _ _,v,e=>by rw[jL]at e;cases e
 |.ob _ _ _,v,e=>by rw[jL]at e;cases e
 |.ref _,v,e=>by rw[jL]at e;cases e
theorem aZ:∀(ds vs:List Val),b6 ds=true->(av A h ds vs↔vs=ds)
 |[],vs,_=>by rw[av]
 | d::ds,vs,e=>by
  rw[b6,and_eq_true]at e;rw[av];constructor
  ·rintro⟨v,r,rfl,q1,q2⟩;rw[(j4 d v e.1).mp q1,(aZ ds r e.2).mp q2]
  ·rintro rfl;exact⟨d,ds,rfl,(j4 d d e.1).mpr rfl,(aZ ds ds e.2).mpr rfl⟩
end
theorem av.nil:av A h [] []:=by rw[av]
theorem av.cons{d v:Val}{ds vs:List Val}(a:Dn A h d v)(b:av A h ds vs):av A h (d::ds) (v::vs):=by rw[av];exact⟨v,vs,rfl,a,b⟩
theorem av.length:∀{ds vs:List Val},av A h ds vs->ds.length=vs.length
 |[],vs,e=>by rw[av]at e;subst e;rfl
 |d::ds,vs,e=>by rw[av]at e;obtain⟨v,r,rfl,_,q⟩:=e;simp[av.length q]
theorem av.get:∀{ds vs:List Val} {i:Nat} {d:Val},av A h ds vs->ds[i]?=some d->∃v,vs[i]?=some v/\Dn A h d v
 |[],vs,i,d,e,q=>by simp at q
 | c::ds,vs,0,d,e,q=>by
  rw[av]at e;obtain⟨v,r,rfl,a,_⟩:=e;simp at q;subst q;exact⟨v,rfl,a⟩
 | c::ds,vs,i+1,d,e,q=>by
  rw[av]at e;obtain⟨v,r,rfl,_,b⟩:=e;simp at q;obtain⟨w,q1,q2⟩:=av.get b q;exact⟨w,by simpa using q1,q2⟩
theorem av.append:∀{ds es vs ws:List Val},av A h ds vs->av A h es ws->av A h (ds++es) (vs++ws)
 |[],es,vs,ws,e,q=>by rw[av]at e;subst e;exact q
 | d::ds,es,vs,ws,e,q=>by
  rw[av]at e;obtain⟨v,r,rfl,a,b⟩:=e;exact av.cons a (av.append b q)
theorem av.take:∀{ds vs:List Val} (n:Nat),av A h ds vs->av A h (ds.take n) (vs.take n)
 |_,_,0,_=>by simp;exact av.nil
 |[],vs,n+1,e=>by rw[av]at e;subst e;simp;exact av.nil
 | d::ds,vs,n+1,e=>by
  rw[av]at e;obtain⟨v,r,rfl,a,b⟩:=e;exact av.cons a (av.take n b)
theorem av.drop:∀{ds vs:List Val} (n:Nat),av A h ds vs->av A h (ds.drop n) (vs.drop n)
 |_,_,0,e=>by simpa using e
 |[],vs,n+1,e=>by rw[av]at e;subst e;simp;exact av.nil
 | d::ds,vs,n+1,e=>by
  rw[av]at e;obtain⟨v,r,rfl,a,b⟩:=e;exact av.drop n b
theorem av.cut(lo hi:Option Int)(e:av A h ds vs):av A h (dX ds lo hi) (dX vs lo hi):=by
 unfold dX;rw[e.length];exact av.take _ (av.drop _ e)
theorem av.oB{i:Int}(e:av A h ds vs)(q:L2.oB ds i=some d):∃v,L2.oB vs i=some v/\Dn A h d v:=by
 unfold L2.oB at q |-;rw[e.length]at q;cases hi:L2.OI vs.length i with
 |none=>rw[hi]at q;cases q
 |some n=>rw[hi]at q;exact av.get e q
theorem av.one(e:av A h [d] vs):∃v,vs=[v]/\Dn A h d v:=by
 rw[av]at e;obtain⟨v,r,rfl,a,b⟩:=e;rw[av]at b;subst b;exact⟨v,rfl,a⟩
def OD(A:AP)(h:Hs)(d:Val)(a:Nat):Prop:=match d with
 |.rl ds=>∃vs,h[a]?=some (.lst vs)/\av A h ds vs
 |.dc ks ds=>∃kvs,h[a]?=some (.dct kvs)/\kvs.map (·.1)=ks/\av A h ds (kvs.map (·.2))
 |_=>False
theorem OD.mono{a:Nat}(e:OD A h d a)(ho:∀o,h[a]?=some o->h'[a]?=some o)(hq:∀ds vs,av A h ds vs->av A' h' ds vs):OD A' h' d a:=by
 cases d with
 |rl ds=>obtain⟨vs,g,q⟩:=e;exact⟨vs,ho _ g,hq _ _ q⟩
 |dc ks ds=>obtain⟨kvs,g,k,q⟩:=e;exact⟨kvs,ho _ g,k,hq _ _ q⟩
 |_=>exact False.elim e
theorem OD.ext{a:Nat}(p:h<+:h')(e:OD A h d a):OD A h' d a:=e.mono (λ_ g=>cC p g) λ_ _ q=>q.ext p
theorem OD.lt{a:Nat}(e:OD A h d a):a<h.length:=by
 cases d with
 |rl ds=>obtain⟨vs,g,q⟩:=e;exact(aao.mp g).1
 |dc ks ds=>obtain⟨kvs,g,k,q⟩:=e;exact(aao.mp g).1
 |_=>exact False.elim e
theorem OD.dn{a:Nat}(e:OD A h d a)(ha:A (.some a)):Dn A h d (.ref a):=by
 cases d with
 |rl ds=>obtain⟨vs,g,q⟩:=e;rw[Dn];exact .inr ⟨a,vs,rfl,ha,g,q⟩
 |dc ks ds=>obtain⟨kvs,g,k,q⟩:=e;rw[Dn];exact⟨a,kvs,rfl,ha,g,k,q⟩
 |_=>exact False.elim e
def OB(A:AP)(h:Hs)(d:Val)(o:Ob):Prop:=match d with
 |.rl ds=>∃vs,o=.lst vs/\av A h ds vs
 |.dc ks ds=>∃kvs,o=.dct kvs/\kvs.map (·.1)=ks/\av A h ds (kvs.map (·.2))
 |_=>False
theorem OB.od{a:Nat}(e:OB A h d o)(g:h'[a]?=.some o)(hq:∀ds vs,av A h ds vs->av A' h' ds vs):OD A' h' d a:=by
 cases d with
 |rl ds=>obtain⟨vs,rfl,q⟩:=e;exact⟨vs,g,hq _ _ q⟩
 |dc ks ds=>obtain⟨kvs,rfl,k,q⟩:=e;exact⟨kvs,g,k,hq _ _ q⟩
 |_=>exact False.elim e
def DB(A:AP)(h:Hs)(d v:Val):Prop:=Dn A h d v\/∃i,v=.ref i/\OD A h d i
theorem DB.all(e:DB A h d v):Dn (λ_=>True) h d v:=by
 rcases e with e|⟨i,rfl,q⟩
 ·exact e.g9 λ_ _=>trivial
 ·exact(q.mono (A':=λ_=>True) (λ_ g=>g) λ_ _ z=>z.g9 λ_ _=>trivial).dn trivial
theorem DB.ext(p:h<+:h')(e:DB A h d v):DB A h' d v:=by
 rcases e with e|⟨i,rfl,q⟩
 ·exact .inl (e.ext p)
 ·exact .inr ⟨i,rfl,q.ext p⟩
theorem DB.dc(e:DB A h (.dc ks ds) v):∃i kvs,v=.ref i/\h[i]?=some (.dct kvs)/\kvs.map (·.1)=ks/\av A h ds (kvs.map (·.2)):=by
 rcases e with e|⟨i,rfl,kvs,g,k,q⟩
 ·rw[Dn]at e;obtain⟨i,kvs,rfl,_,g,k,q⟩:=e;exact⟨i,kvs,rfl,g,k,q⟩
 ·exact⟨i,kvs,rfl,g,k,q⟩
theorem DB.lst(e:DB A h (.rl ds) v):∃vs,aB h v=some vs/\av A h ds vs:=by
 rcases e with e|⟨i,rfl,vs,g,q⟩
 ·rw[Dn]at e
  rcases e with ⟨vs,rfl,_,q⟩|⟨i,vs,rfl,_,g,q⟩
  ·exact⟨vs,rfl,q⟩
  ·exact⟨vs,by simp[aB,g],q⟩
 ·exact⟨vs,by simp[aB,g],q⟩
theorem DB.seq(e:DB A h d v)(q:dH [] d=some ds):∃vs,dH h v=some vs/\av A h ds vs:=by
 cases d with
 |tup es=>
  simp only[dH]at q;cases q
  rcases e with e|⟨_,_,e1⟩
  ·rw[Dn]at e;obtain⟨vs,rfl,q⟩:=e;exact⟨vs,rfl,q⟩
  ·exact False.elim e1
 |rl es=>simp only[dH,aB]at q;cases q;obtain⟨vs,q1,q2⟩:=e.lst;refine⟨vs,?_,q2⟩;cases v<;>first|(simp[aB]at q1;done)|exact q1
 |ref i=>simp[dH,aB]at q
 |_=>simp[dH,aB]at q
theorem DB.int{i:Int}(e:DB A h (.int i) v):v=.int i:=by
 rcases e with e|⟨_,_,e1⟩
 ·rw[Dn]at e;exact e
 ·exact False.elim e1
theorem DB.str(e:DB A h (.str i) v):v=.str i:=by
 rcases e with e|⟨_,_,e1⟩
 ·rw[Dn]at e;exact e
 ·exact False.elim e1
theorem DB.bl{i:Bool}(e:DB A h (.bl i) v):v=.bl i:=by
 rcases e with e|⟨_,_,e1⟩
 ·rw[Dn]at e;exact e
 ·exact False.elim e1
theorem DB.tup(e:DB A h (.tup ds) v):∃vs,v=.tup vs/\av A h ds vs:=by
 rcases e with e|⟨_,_,e1⟩
 ·rw[Dn]at e;exact e
 ·exact False.elim e1
theorem yx:∀(n:Nat) (d v:Val) (p:PyData),Dn (λ_=>True) h d v->toD n [] d=some p->toD n h v=some p:=by
 intro n
 induction n with
 |zero=>intro d v p _ e;simp[toD]at e
 |succ n ih=>
  have all:∀(ds vs:List Val) (ps:List PyData),av (λ_=>True) h ds vs->bK (toD n []) ds=some ps->bK (toD n h) vs=some ps:=by
   intro ds
   induction ds with
   |nil=>intro vs ps q e;rw[av]at q;subst q;exact e
   |cons d ds ihd=>intro vs ps q e;rw[av]at q;obtain⟨v,r,rfl,q1,q2⟩:=q;simp only[bK]at e |-;obtain⟨x,e1,e⟩:=aah.mp e;obtain⟨xs,e2,e⟩:=aah.mp e;rw[ih d v x q1 e1,ihd r xs q2 e2];exact e
  intro d v p q e;cases d with
  |non=>rw[Dn]at q;subst q;exact e
  |bl b=>rw[Dn]at q;subst q;exact e
  |int b=>rw[Dn]at q;subst q;exact e
  |str b=>rw[Dn]at q;subst q;exact e
  |tup ds=>rw[Dn]at q;obtain⟨vs,rfl,q⟩:=q;simp only[toD]at e |-;obtain⟨ps,e1,e⟩:=aah.mp e;rw[all ds vs ps q e1];exact e
  |rl ds=>
   rw[Dn]at q;simp only[toD]at e;obtain⟨ps,e1,e⟩:=aah.mp e
   rcases q with ⟨vs,rfl,_,q⟩|⟨i,vs,rfl,_,g,q⟩
   ·simp only[toD];rw[all ds vs ps q e1];exact e
   ·simp only[toD,aB,g,bind_some];rw[all ds vs ps q e1];exact e
  |dc ks ds=>simp[toD]at e
  |ob c xs ds=>simp[toD]at e
  |ref i=>rw[Dn]at q;exact q.elim
theorem O5{b:Bool}(a:DB A h d v)(c:DB A h e w)(q:zK [] d e=some b):zK h v w=some b:=by
 unfold zK at q |-;obtain⟨x,e1,q⟩:=aah.mp q;obtain⟨y,e2,q⟩:=aah.mp q;rw[yx 16 d v x a.all e1,yx 16 e w y c.all e2];exact q
theorem II(a:DB A h d v):lP v=lP d:=by
 rcases a with a|⟨i,rfl,q⟩
 ·cases d<;>rw[Dn]at a
  ·subst a;rfl
  ·subst a;rfl
  ·subst a;rfl
  ·subst a;rfl
  ·obtain⟨vs,rfl,_⟩:=a;rfl
  ·rcases a with ⟨vs,rfl,_⟩|⟨i,vs,rfl,_⟩<;>rfl
  ·obtain⟨i,kvs,rfl,_⟩:=a;rfl
  ·obtain⟨i,kvs,rfl,_⟩:=a;rfl
  ·exact a.elim
 ·cases d<;>first|exact False.elim q|rfl
theorem IJ{b:Bool}(a:DB A h d v)(c:DB A h e w)(q:zL [] d e=some b):zL h v w=some b:=by
 have data:memD [] d e=some b->memD h v w=some b:=λq=>by
  unfold memD at q |-;obtain⟨x,e1,q⟩:=aah.mp q;obtain⟨y,e2,q⟩:=aah.mp q;rw[yx 16 e w x c.all e1,yx 16 d v y a.all e2];exact q
 exact data q
theorem IK{b:Bool}(a:DB A h d v)(c:DB A h e w)(q:OP d e=some b):OP v w=some b:=by
 cases e<;>first|(cases q;done)|skip
 ·have:w=.non:=by
   rcases c with c|⟨_,_,e1⟩
   ·rw[Dn]at c;exact c
   ·exact False.elim e1
  subst this;show some (lP v)=_;rw[II a];exact q
theorem RW{b:Bool}(a:DB A h d v)(c:DB A h e w)(q:cop [] o d e=some b):cop h o v w=some b:=by
 cases o with
 |eq=>exact O5 a c q
 |ne=>obtain⟨x,e1,e2⟩:=aaY.mp (show (zK [] d e).map _=some b from q);show (zK h v w).map _=_;rw[O5 a c e1];exact aa2 some e2
 |isn=>exact IK a c q
 |ntn=>obtain⟨x,e1,e2⟩:=aaY.mp (show (OP d e).map _=some b from q);show (OP v w).map _=_;rw[IK a c e1];exact aa2 some e2
 |lX=>exact IJ a c q
 |nin=>obtain⟨x,e1,e2⟩:=aaY.mp (show (zL [] d e).map _=some b from q);show (zL h v w).map _=_;rw[IJ a c e1];exact aa2 some e2
 |lt=>obtain⟨i,j,rfl,rfl⟩:=mH (.inl rfl) q;have:=a.int;subst this;have:=c.int;subst this;exact q
 |le=>obtain⟨i,j,rfl,rfl⟩:=mH (.inr (.inl rfl)) q;have:=a.int;subst this;have:=c.int;subst this;exact q
 |gt=>obtain⟨i,j,rfl,rfl⟩:=mH (.inr (.inr (.inl rfl))) q;have:=a.int;subst this;have:=c.int;subst this;exact q
 |ge=>obtain⟨i,j,rfl,rfl⟩:=mH (.inr (.inr (.inr rfl))) q;have:=a.int;subst this;have:=c.int;subst this;exact q
theorem uD{b:Bool}(a:DB A h d v)(q:dI [] d=some b):dI h v=some b:=by
 cases d with
 |rl ds=>
  obtain⟨vs,q1,q2⟩:=a.lst;have l:=q2.length;have e:(!ds.isEmpty) = !vs.isEmpty:=by cases ds<;>cases vs<;>simp_all
  simp only[dI]at q;rw[e]at q;cases v<;>simp only[aB]at q1<;>first|(cases q1;done)|skip
  ·cases q1;exact q
  ·split at q1<;>cases q1;rename_i g;simp only[dI,g];exact q
 |tup ds=>
  obtain⟨vs,rfl,q2⟩:=a.tup;have l:=q2.length;have e:(!ds.isEmpty) = !vs.isEmpty:=by cases ds<;>cases vs<;>simp_all
  simp only[dI]at q |-;rw[<-e];exact q
 |dc ks ds=>obtain⟨i,kvs,rfl,g,hk,_⟩:=a.dc;subst hk;simp only[dI,g]at q |-;rw[<-q];cases kvs<;>rfl
 |ob c xs ds=>cases q
 |ref i=>
  rcases a with a|⟨_,_,e1⟩
  ·rw[Dn]at a;exact a.elim
  ·exact False.elim e1
 |non=>
  rcases a with a|⟨_,_,e1⟩
  ·rw[Dn]at a;subst a;exact q
  ·exact False.elim e1
 |bl b=>have:=a.bl;subst this;exact q
 |int b=>have:=a.int;subst this;exact q
 |str b=>have:=a.str;subst this;exact q
theorem RX{n:Nat}(a:DB A h d v)(q:pL [] d=some n):pL h v=some n:=by
 cases d with
 |rl ds=>
  obtain⟨vs,q1,q2⟩:=a.lst;have l:=q2.length;simp only[pL]at q;rw[l]at q;cases v<;>simp only[aB]at q1<;>first|(cases q1;done)|skip
  ·cases q1;exact q
  ·split at q1<;>cases q1;rename_i g;simp only[pL,g];exact q
 |tup ds=>obtain⟨vs,rfl,q2⟩:=a.tup;simp only[pL]at q |-;rw[<-q2.length];exact q
 |dc ks ds=>obtain⟨i,kvs,rfl,g,hk,_⟩:=a.dc;subst hk;simp only[pL,g]at q |-;rw[<-q];simp
 |_=>simp[pL]at q
theorem Wl{t:String}(a:DB A h d v)(q:zM [] d=some t):zM h v=some t:=by
 cases d with
 |rl ds=>
  obtain⟨vs,q1,q2⟩:=a.lst;cases v<;>simp only[aB]at q1<;>first|(cases q1;done)|skip
  ·exact q
  ·split at q1<;>cases q1;rename_i g;simp only[zM,g];exact q
 |tup ds=>obtain⟨vs,rfl,q2⟩:=a.tup;exact q
 |dc ks ds=>obtain⟨i,kvs,rfl,g,hk,_⟩:=a.dc;simp only[zM,g]at q |-;exact q
 |ob c xs ds=>cases q
 |ref i=>
  rcases a with a|⟨_,_,e1⟩
  ·rw[Dn]at a;exact a.elim
  ·exact False.elim e1
 |non=>
  rcases a with a|⟨_,_,e1⟩
  ·rw[Dn]at a;subst a;exact q
  ·exact False.elim e1
 |bl b=>have:=a.bl;subst this;exact q
 |int b=>have:=a.int;subst this;exact q
 |str b=>have:=a.str;subst this;exact q
theorem yy:∀{kvs:List (Key×Val)} {ks:List Key} {ds:List Val} {z:Val},kvs.map (·.1)=ks->av A h ds (kvs.map (·.2))->dm (ks.zip ds) k=some z->∃v,dm kvs k=some v/\Dn A h z v
 |[],ks,ds,z,hk,q,e=>by subst hk;simp[dm]at e
 | (k',v')::kvs,ks,ds,z,hk,q,e=>by
  subst hk;have l:=q.length;cases ds with
  |nil=>simp at l
  |cons d ds=>
   simp only[map_cons]at q;rw[av]at q;obtain⟨v,r,e1,q1,q2⟩:=q;cases e1
   by_cases hkk:k'=k
   ·subst hkk;simp[dm]at e |-;subst e;exact q1
   ·have e':dm ((kvs.map (·.1)).zip ds) k=some z:=by simpa [dm,hkk] using e
    obtain⟨w,a1,a2⟩:=yy rfl q2 e';exact⟨w,by simpa [dm,hkk] using a1,a2⟩
theorem DB.uE{j:Nat}(c:DB A h (.ref j) v):False:=by
 rcases c with c|⟨_,_,e1⟩
 ·rw[Dn]at c;exact c
 ·exact e1
theorem Dk:∀{kvs:List (Key×Val)} {ds:List Val},av A h ds (kvs.map (·.2))->dm ((kvs.map (·.1)).zip ds) k=none->dm kvs k=none
 |[],ds,q,e=>rfl
 | (k',v')::kvs,ds,q,e=>by
  cases ds with
  |nil=>rw[av]at q;cases q
  |cons d ds=>
   rw[aau,av]at q;obtain⟨v,r,eq,q1,q2⟩:=q;cases eq;unfold dm at e |-;rw[aau,zip_cons_cons,find?_cons]at e;rw[find?_cons]
   by_cases hk:k'=k
   ·simp[hk]at e
   ·simp only[hk,decide_false]at e |-;exact Dk q2 e
theorem Ce(a:Dn A h d v)(e:keyOf d=some kk):keyOf v=some kk:=by
 cases d<;>first|(cases e;done)|skip
 ·rw[Dn]at a;subst a;exact e
 ·rw[Dn]at a;subst a;exact e
theorem IL(a:DB A h o v)(e:sy [] o k=some r):∃r',sy h v k=some r'/\∀z z',Dn A h z z'->Dn A h (r.getD z) (r'.getD z'):=by
 cases o<;>first|(cases e;done)|(exact(DB.uE a).elim)|skip
 rename_i ks ds;obtain⟨i,kvs,rfl,g,hk,q⟩:=a.dc;cases e;have eg:sy h (.ref i) k=some (dm kvs k):=by show (match h[i]? with|some (.dct kvs)=>some (dm kvs k)|_=>none)=_;rw[g]
 refine⟨_,eg,λz z' hz=>?_⟩;cases ev:dm (ks.zip ds) k with
 |none=>subst hk;rw[Dk q ev];exact hz
 |some d=>obtain⟨u,e1,e2⟩:=yy hk q ev;rw[e1];exact e2
theorem Ae(a:DB A h o v)(e:wQ [] o=some ks):wQ h v=some ks:=by
 cases o<;>first|(cases e;done)|(exact(DB.uE a).elim)|skip
 obtain⟨i,kvs,rfl,g,hk,q⟩:=a.dc;cases e;show (match h[i]? with|some (.dct kvs)=>some (kvs.map (λkv:Key×Val=>kv.1))|_=>none)=_;rw[g];exact aa2 some hk
theorem pP:∀ks:List Key,b6 (ks.map HH)=true
 |[]=>rfl
 |.inl _::ks=>by rw[aau,b6,pP ks];rfl
 |.inr _::ks=>by rw[aau,b6,pP ks];rfl
theorem Nh{u:Unit}(a:DB A h o v)(e:HG [] o=some u):HG h v=some u:=by
 cases o<;>first|(cases e;done)|(exact(DB.uE a).elim)|skip
 obtain⟨i,kvs,rfl,g,hk,q⟩:=a.dc;show (match h[i]? with|some (.dct _)=>some ()|_=>none)=_;rw[g]
theorem RY(a:DB A h d v)(c:Dn A h e w)(q:iu [] d e=some z):∃u,iu h v w=some u/\Dn A h z u:=by
 cases e with
 |int i=>
  rw[Dn]at c;subst c;cases d with
  |tup ds=>obtain⟨vs,rfl,q2⟩:=a.tup;exact q2.oB q
  |rl ds=>
   obtain⟨vs,q1,q2⟩:=a.lst;obtain⟨u,q3,q4⟩:=q2.oB q;refine⟨u,?_,q4⟩;cases v<;>simp only[aB]at q1<;>first|(cases q1;done)|skip
   ·cases q1;exact q3
   ·split at q1<;>cases q1;rename_i g;unfold iu;simp only[aB,g,bind_some];exact q3
  |dc ks ds=>obtain⟨i',kvs,rfl,g,hk,q2⟩:=a.dc;obtain⟨u,q3,q4⟩:=yy hk q2 q;refine⟨u,?_,q4⟩;show (match h[i']? with|some (.dct kvs)=>dm kvs (.inl i)|_=>(aB h (.ref i')).bind λxs=>oB xs i)=_;rw[g];exact q3
  |ref j=>exact(DB.uE a).elim
  |_=>cases q
 |_=>cases d<;>first|(cases q;done)|exact(DB.uE a).elim
theorem yz:∀{fs:List (Str×Val)} {ds:List Val},av A h ds (fs.map (·.2))->(((fs.map (·.1)).zip ds).lookup x=none->fs.lookup x=none)/\∀z,((fs.map (·.1)).zip ds).lookup x=some z->∃u,fs.lookup x=some u/\Dn A h z u
 |[],ds,q=>⟨λ_=>rfl,λz e=>by simp at e⟩
 | (k,v)::fs,ds,q=>by
  cases ds with
  |nil=>rw[av]at q;cases q
  |cons d ds=>
   rw[aau,av]at q;obtain⟨w,r,eq,q1,q2⟩:=q;cases eq;rw[aau,zip_cons_cons,abf,abf];cases hb:x==k with
   |true=>exact⟨λz=>(by cases z),λz e=>(by cases e;exact⟨v,rfl,q1⟩)⟩
   |false=>exact yz q2
theorem DB.ob{c:Nat}(e:DB A h (.ob c xs ds) v):∃i fs,v=.ref i/\h[i]?=some (.ins c fs)/\fs.map (·.1)=xs/\av A h ds (fs.map (·.2)):=by
 rcases e with e|⟨_,_,e1⟩
 ·rw[Dn]at e;obtain⟨i,fs,rfl,_,g,k,q⟩:=e;exact⟨i,fs,rfl,g,k,q⟩
 ·exact False.elim e1
theorem RZ{n:Nat}(a:DB A h o v)(e:nY n [] o x=some z):∃u,nY n h v x=some u/\Dn A h z u:=by
 cases o<;>first|(cases e;done)|(exact(DB.uE a).elim)|skip
 obtain⟨i,fs,rfl,g,hk,q⟩:=a.ob;subst hk;unfold nY at e;dsimp only at e;split at e
 ·rename_i hc;obtain⟨u,e1,e2⟩:=(yz q).2 z e;refine⟨u,?_,e2⟩;unfold nY;dsimp only;rw[g];dsimp only;rw[aar hc];exact e1
 ·cases e
theorem R0{j:Nat}(a:DB A h o v)(e:sD [] o m js=some j):sD h v m js=some j:=by
 cases o<;>first|(cases e;done)|(exact(DB.uE a).elim)|skip
 obtain⟨i,fs,rfl,g,hk,q⟩:=a.ob;subst hk;unfold sD at e;dsimp only at e;split at e
 ·rename_i hc;have e1:=(yz q).1 (by simpa using hc);unfold sD;dsimp only;rw[g];dsimp only;rw[aar (by rw[e1];rfl)];exact e
 ·cases e
end
def Up(A:AP)(h:Hs):Prop:=∀k,h.length<=k->A (some k)
def Rel(A:AP)(h:Hs){α β:Type}(R:α -> Hs -> β -> Prop)(o:Out β):Pr α -> Prop
 |.ok a=>∃b h',o=.ok b h'/\h<+:h'/\R a h' b
 |.exc c es=>∃ws h',o=.exc c ws h'/\h<+:h'/\av A h' es ws
 |.no=>True
def RV(A:AP)(h:Hs):FV->Hs->Val->Prop:=λx h' v=>Dn A h' x.2 v/\(x.1=true->Dn (Fr h.length) h' x.2 v)
def RVs(A:AP)(h:Hs):Bool×List Val->Hs->List Val->Prop:=λx h' v=>av A h' x.2 v/\(x.1=true->av (Fr h.length) h' x.2 v)
def ZH(A:AP):FV->Hs->Val->Prop:=λx h' v=>DB A h' x.2 v
def LM(A:AP)(h:Hs):List Val->List Val->Prop
 |[],vs=>vs=[]
 |d::ds,vs=>∃v r,vs=v::r/\DB A h d v/\LM A h ds r
def ER(A:AP)(venv:aU)(env:Env)(h:Hs):Prop:=∀(i:Nat) (f:Mk) (d:Val),venv[i]?=some (some (f,d)) ->
 if qv f=false then ∃a,env[i]?=some (some (.ref a))/\OD A h d a else ∃v,env[i]?=some (some v)/\Dn A h d v
section
variable {A:AP} {h h1:Hs} {α β γ δ:Type}
theorem Up.ext(u:Up A h)(p:h<+:h1):Up A h1:=λk hk=>u k (aaN p.length_le hk)
theorem ER.ext(e:ER A venv env h)(p:h<+:h1):ER A venv env h1:=λi f d q=>by
 have:=e i f d q;revert this;generalize qv f=t;intro this;cases t with
 |false=>rw[aar rfl]at this |-;obtain⟨a,k2,k3⟩:=this;exact⟨a,k2,k3.ext p⟩
 |true=>rw[aas (by decide)]at this |-;obtain⟨v,k1,k2⟩:=this;exact⟨v,k1,k2.ext p⟩
theorem ah(r:Rel A h R (m h) p)(k:∀a h1 b,h<+:h1->R a h1 b->Rel A h1 R' (f b h1) (F a)):Rel A h R' (bnd m f h) (pb p F):=by
 unfold bnd;cases p with
 |ok a=>
  obtain⟨b,h1,e,q,r⟩:=r;rw[e];show Rel A h R' (f b h1) (F a);have:=k a h1 b q r;cases e2:F a with
  |ok c=>rw[e2]at this;obtain⟨d,h2,e3,q2,r2⟩:=this;exact⟨d,h2,e3,q.trans q2,r2⟩
  |exc c es=>rw[e2]at this;obtain⟨d,h2,e3,q2,r2⟩:=this;exact⟨d,h2,e3,q.trans q2,r2⟩
  |no=>trivial
 |exc c es=>obtain⟨ws,h1,e,q,r⟩:=r;rw[e];exact⟨ws,h1,rfl,q,r⟩
 |no=>trivial
theorem aF(r:R a h b):Rel A h R (ret b h) (.ok a):=⟨b,h,rfl,aaL _,r⟩
theorem bz(r:∀a,o=some a->∃b,o'=some b/\R a h b):Rel A h R (bB o' h) (pl o):=by
 cases o with
 |none=>trivial
 |some a=>obtain⟨b,rfl,q⟩:=r a rfl;exact⟨b,h,rfl,aaL _,q⟩
theorem cu(r:∀a,o=some a->∃b,f h=some b/\R a h b):Rel A h R (ask f h) (pl o):=bz r
theorem cI{c c':Bool}(e:c=true->c'=true)(r:c=true->Rel A h R (m h) p):Rel A h R (aR c' m h) (pg c p):=by
 unfold aR pg;cases c with
 |true=>rw[aar (e rfl),aar rfl];exact r rfl
 |false=>rw[aas aaj];trivial
theorem uF(r:Rel A h R o p)(k:∀a h' b,h<+:h'->R a h' b->R' a h' b):Rel A h R' o p:=by
 cases p with
 |ok a=>obtain⟨b,h',e,q,r⟩:=r;exact⟨b,h',e,q,k a h' b q r⟩
 |exc c es=>exact r
 |no=>trivial
theorem eX(o:Ob):h<+:h++[o]:=aa7 _ _
theorem ki(o:Ob):(h++[o])[h.length]?=some o:=by simp
theorem iJ{f:Bool}{h0:Hs}(u:Up A h)(p:h0<+:h)(q:av A h xs vs)(g:f=true->av (Fr h0.length) h xs vs):Rel A h (RV A h0) (new (.lst vs) h) (.ok (f,.rl xs)):=by
 refine⟨_,_,rfl,eX _,?_,λhf=>?_⟩
 ·show Dn A _ (.rl xs) _;rw[Dn];exact .inr ⟨_,vs,rfl,u _ (aaw _),ki _,q.ext (eX _)⟩
 ·show Dn _ _ (.rl xs) _;rw[Dn];exact .inr ⟨_,vs,rfl,p.length_le,ki _,(g hf).ext (eX _)⟩
theorem qK{h0:Hs}(q:Dn A h d v):RV A h0 (jL d,d) h v:=⟨q,λhi=>(j4 d v hi).mpr ((j4 d v hi).mp q)⟩
theorem kj(q:av A h ds vs)(hi:b6 ds=true):av A' h' ds vs:=(aZ ds vs hi).mpr ((aZ ds vs hi).mp q)
theorem jd{i:Int}{h0:Hs}{f:Bool}:RV A h0 (f,.int i) h (.int i):=⟨by rw[Dn],λ_=>by rw[Dn]⟩
theorem pQ{i:Bool}{h0:Hs}{f:Bool}:RV A h0 (f,.bl i) h (.bl i):=⟨by rw[Dn],λ_=>by rw[Dn]⟩
theorem RV.br{h0:Hs}(r:RV A h0 x h v):ZH A x h v:=.inl r.1
theorem Ni(ho:o≠.add)(v w:Val):(∃i j,v=.int i/\w=.int j)\/oO o v w=.no:=by
 cases v with
 |int i=>
  cases w with
  |int j=>exact .inl ⟨i,j,rfl,rfl⟩
  |_=>right;cases o<;>first|rfl|exact absurd rfl ho
 |_=>right;cases o<;>first|rfl|exact absurd rfl ho
theorem Nj{h0:Hs}(u:Up A h)(p:h0<+:h)(a:DB A h d v)(c:DB A h e w):Rel A h (RV A h0) (Ui o v w h) (oO o d e):=by
 have ii:o≠.add->(∃i j,d=.int i/\e=.int j)\/oO o d e=.no:=λho=>Ni ho d e;cases o with
 |add=>
  cases d<;>cases e<;>first|trivial|skip
  ·have:=a.int;subst this;have:=c.int;subst this;exact aF jd
  ·rename_i xs ys
   obtain⟨vs,e1,q1⟩:=a.lst;obtain⟨ws,e2,q2⟩:=c.lst;have eb:Ui .add v w=bnd (ask λh=>aB h v) λa=>bnd (ask λh=>aB h w) λb=>aR (decide (a.length+b.length<=sizeLine)) (new (.lst (a++b))):=by
    cases v<;>simp only[aB]at e1<;>first|(cases e1;done)|skip
    all_goals cases w<;>simp only[aB]at e2<;>first|(cases e2;done)|rfl
   have ev:Ui .add v w h=aR (decide (vs.length+ws.length<=sizeLine)) (new (.lst (vs++ws))) h:=by rw[eb];unfold bnd ask bB;dsimp only;rw[e1];dsimp only;rw[e2]
   rw[ev];refine cI (λz=>?_) λ_=>iJ u p (q1.append q2) λhi=>kj (q1.append q2) hi;rw[<-q1.length,<-q2.length];exact z
 |_=>
  rcases ii (by intro z;cases z) with ⟨i,j,rfl,rfl⟩|z
  case inr=>rw[z];trivial
  have:=a.int;subst this;have:=c.int;subst this
  first
   |exact aF jd
   |exact cI (λz=>z) λ_=>aF jd
theorem Nk{lo hi:Option Int}{h0:Hs}(u:Up A h)(p:h0<+:h)(a:DB A h d v):Rel A h (RV A h0) (vK v lo hi h) (Cd d lo hi):=by
 cases d with
 |tup ds=>
  obtain⟨vs,rfl,q⟩:=a.tup;have l:=q.length;simp only[Cd,vK];refine cI (λz=>?_) λ_=>aF ⟨?_,λhi=>?_⟩
  ·rw[l]at z;exact z
  ·show Dn A h (.tup _) _;rw[Dn];exact⟨_,rfl,q.cut lo hi⟩
  ·show Dn _ h (.tup _) _;rw[Dn];exact⟨_,rfl,kj (q.cut _ _) hi⟩
 |rl ds=>
  obtain⟨vs,e1,q⟩:=a.lst;have ev:vK v lo hi h=new (.lst (dX vs lo hi)) h:=by
   have:vK v lo hi=bnd (ask λh=>aB h v) λxs=>new (.lst (dX xs lo hi)):=by cases v<;>simp only[aB]at e1<;>first|(cases e1;done)|rfl
   rw[this];unfold bnd ask bB;dsimp only;rw[e1]
  rw[ev];exact iJ u p (q.cut lo hi) λhh=>kj (q.cut lo hi) hh
 |_=>trivial
theorem LM.one(e:LM A h [d] vs):∃v,vs=[v]/\DB A h d v:=by
 obtain⟨v,r,rfl,a,b⟩:=e;cases (show r=[] from b);exact⟨v,rfl,a⟩
theorem Nl{ns:List Int}(q:av A h ds vs)(e:aX ds=some ns):vs=ds:=by
 have:b6 ds=true:=by
  clear q
  induction ds generalizing ns with
  |nil=>rfl
  |cons d ds ih=>
   simp only[aX,bK]at e;obtain⟨i,e1,e⟩:=aah.mp e;obtain⟨is,e2,e⟩:=aah.mp e;cases d<;>first|(cases e1;done)|skip
   rw[b6,jL,Bool.true_and];exact ih e2
 exact(aZ ds vs this).mp q
theorem Af(q:av A h ds vs)(e:bZ ds=some ns):vs=ds:=by
 have:b6 ds=true:=by
  clear q
  induction ds generalizing ns with
  |nil=>rfl
  |cons d ds ih=>
   simp only[bZ,bK]at e;obtain⟨i,e1,e⟩:=aah.mp e;obtain⟨is,e2,e⟩:=aah.mp e;cases d<;>first|(cases e1;done)|skip
   rw[b6,jL,Bool.true_and];exact ih e2
 exact(aZ ds vs this).mp q
theorem uG:∀{ds:List Val} {ns:List Int},aX ds=some ns->b6 ds=true
 |[],_,_=>rfl
 | d::ds,ns,e=>by
  simp only[aX,bK]at e;obtain⟨i,e1,e⟩:=aah.mp e;obtain⟨is,e2,e⟩:=aah.mp e;cases d<;>first|(cases e1;done)|skip
  rw[b6,jL,Bool.true_and];exact uG (show aX ds=some is from e2)
theorem Ag:∀{ds:List Val} {ns:List (List Int)},oj ds=some ns->b6 ds=true
 |[],_,_=>rfl
 | d::ds,ns,e=>by
  simp only[oj,bK]at e;obtain⟨i,e1,e⟩:=aah.mp e;obtain⟨is,e2,e⟩:=aah.mp e;cases d<;>first|(cases e1;done)|skip
  rename_i vs;dsimp only at e1;split at e1
  ·cases e1
  ·rw[b6,jL,uG e1,Bool.true_and];exact Ag (show oj ds=some is from e2)
theorem bx:∀ns:List Int,b6 (ns.map .int)=true
 |[]=>rfl
 |n::ns=>by rw[aau,b6,jL,Bool.true_and];exact bx ns
theorem pR:∀sO:List (List Int),b6 (sO.map oH)=true
 |[]=>rfl
 |n::ns=>by rw[aau,b6,oH,jL,bx,Bool.true_and];exact pR ns
theorem xg(e:gO xs=some ys):b6 xs=true/\b6 ys=true:=by
 unfold gO at e;split at e
 ·cases e2:aX xs with
  |some ns=>rw[e2]at e;cases e;exact⟨uG e2,bx _⟩
  |none=>rw[e2]at e;obtain⟨sO,e3,e4⟩:=aah.mp e;cases e4;exact⟨Ag e3,pR _⟩
 ·cases e
theorem Nn{h0:Hs}(u:Up A h)(p:h0<+:h)(a:LM A h ds vs):Rel A h (RV A h0) (blt b vs h) (gQ b ds):=by
 have mm:∀(f:List Int->Option Val) (d:Val),(∀ns m,f ns=some m->∃i,m=.int i)->∀v,DB A h d v->Rel A h (RV A h0) (bnd (ask λh=>dH h v) (λxs=>bB ((aX xs).bind f)) h) (pb (pl (dH [] d)) λxs=>pb (pl ((aX xs).bind f)) λm=>.ok (true,m)):=by
  intro f d hf v hv;refine ah (R:=λxs h' ws=>av A h' xs ws) (cu λxs e=>hv.seq e) λxs h1 ws q1 q=>?_;have:bB ((aX ws).bind f) h1=bnd (bB ((aX ws).bind f)) (λm=>ret m) h1:=by unfold bnd bB;cases (aX ws).bind f<;>rfl
  rw[this];refine ah (R:=λm _ m'=>m'=m/\∃i,m=.int i) (bz λm e=>?_) λm h2 m' _ hm=>?_
  ·obtain⟨ns,e1,e2⟩:=aah.mp e;rw[Nl q e1];exact⟨m,e,rfl,hf ns m e2⟩
  ·obtain⟨rfl,i,rfl⟩:=hm;exact aF jd
 have hmin:∀ns m,vJ ns=some m->∃i,m=Val.int i:=λns m e=>by cases ns<;>simp[vJ]at e;exact⟨_,e.symm⟩
 have ZI:∀ns m,yj ns=some m->∃i,m=Val.int i:=λns m e=>by cases ns<;>simp[yj]at e;exact⟨_,e.symm⟩
 match ds,a with
 |[],a=>cases b<;>trivial
 |[d],a=>
  obtain⟨v,rfl,hv⟩:=a.one;cases b with
  |len=>exact ah (R:=λn _ m=>m=n) (cu λn e=>⟨n,RX hv e,rfl⟩) λn h1 m _ e=>by subst e;exact aF jd
  |min=>
   have e1:gQ .min [d]=pb (pl (dH [] d)) λxs=>pb (pl ((aX xs).bind vJ)) λm=>.ok (true,m):=by cases d<;>rfl
   have e2:blt .min [v]=bnd (ask λh=>dH h v) λxs=>bB ((aX xs).bind vJ):=by cases v<;>rfl
   rw[e1,e2];exact mm vJ d hmin v hv
  |max=>
   have e1:gQ .max [d]=pb (pl (dH [] d)) λxs=>pb (pl ((aX xs).bind yj)) λm=>.ok (true,m):=by cases d<;>rfl
   have e2:blt .max [v]=bnd (ask λh=>dH h v) λxs=>bB ((aX xs).bind yj):=by cases v<;>rfl
   rw[e1,e2];exact mm yj d ZI v hv
  |sorted=>
   cases d<;>first|trivial|skip
   rename_i xs;obtain⟨ws,e1,q⟩:=hv.lst;have ev:bnd (ask λh=>aB h v) (λxs=>bnd (bB (gO xs)) λys=>new (.lst ys)) h=bnd (bB (gO ws)) (λys=>new (.lst ys)) h:=by unfold bnd ask bB;dsimp only;rw[e1]
   show Rel A h (RV A h0) (bnd (ask λh=>aB h v) (λxs=>bnd (bB (gO xs)) λys=>new (.lst ys)) h) _;rw[ev];refine ah (R:=λys _ zs=>zs=ys/\b6 ys=true) (bz λys e=>?_) λys h1 zs q1 hz=>?_
   ·obtain⟨i1,i2⟩:=xg e;rw[(aZ xs ws i1).mp q];exact⟨ys,e,rfl,i2⟩
   ·obtain⟨rfl,hi⟩:=hz;exact iJ (u.ext q1) (p.trans q1) ((aZ _ _ hi).mpr rfl) λ_=>(aZ _ _ hi).mpr rfl
  |list=>refine ah (R:=λxs h' ws=>av A h' xs ws) (cu λxs e=>hv.seq e) λxs h1 ws q1 q=>?_;exact iJ (u.ext q1) (p.trans q1) q λhi=>kj q hi
  |tuple=>trivial
  |str=>trivial
  |int=>
   cases d<;>first|trivial|skip
   ·have:=hv.bl;subst this;exact aF jd
   ·have:=hv.int;subst this;exact aF jd
  |all=>
   cases d<;>first|trivial|skip
   rename_i xs;obtain⟨ws,e1,q⟩:=hv.lst;have ev:bnd (ask λh=>aB h v) (λxs=>bnd (bB (bZ xs)) λbs=>ret (Val.bl (bs.all id))) h=bnd (bB (bZ ws)) (λbs=>ret (Val.bl (bs.all id))) h:=by unfold bnd ask bB;dsimp only;rw[e1]
   show Rel A h (RV A h0) (bnd (ask λh=>aB h v) (λxs=>bnd (bB (bZ xs)) λbs=>ret (Val.bl (bs.all id))) h) _;rw[ev];exact ah (R:=λys _ zs=>zs=ys) (bz λys e=>⟨ys,by rw[Af q e];exact e,rfl⟩) λys h1 zs q1 hz=>by subst hz;exact aF pQ
  |any=>
   cases d<;>first|trivial|skip
   rename_i xs;obtain⟨ws,e1,q⟩:=hv.lst;have ev:bnd (ask λh=>aB h v) (λxs=>bnd (bB (bZ xs)) λbs=>ret (Val.bl (bs.any id))) h=bnd (bB (bZ ws)) (λbs=>ret (Val.bl (bs.any id))) h:=by unfold bnd ask bB;dsimp only;rw[e1]
   show Rel A h (RV A h0) (bnd (ask λh=>aB h v) (λxs=>bnd (bB (bZ xs)) λbs=>ret (Val.bl (bs.any id))) h) _;rw[ev];exact ah (R:=λys _ zs=>zs=ys) (bz λys e=>⟨ys,by rw[Af q e];exact e,rfl⟩) λys h1 zs q1 hz=>by subst hz;exact aF pQ
  |isin T=>refine ah (R:=λn _ m=>m=n) (cu λn e=>⟨n,Wl hv e,rfl⟩) λn h1 m _ e=>?_;subst e;exact ah (R:=λn _ m=>m=n) (bz λn e=>⟨n,e,rfl⟩) λn h1 m _ e=>by subst e;exact aF pQ
 |[d,e],a=>
  obtain⟨v,r,rfl,hv,hr⟩:=a;obtain⟨w,rfl,hw⟩:=LM.one hr;cases b<;>first|trivial|(cases d<;>trivial)|skip
  ·cases d<;>cases e<;>first|trivial|skip
   have:=hv.int;subst this;have:=hw.int;subst this;exact aF jd
  ·cases d<;>cases e<;>first|trivial|skip
   have:=hv.int;subst this;have:=hw.int;subst this;exact aF jd
 |x::y::z::t,a=>cases b<;>first|trivial|(cases x<;>trivial)|(cases x<;>cases y<;>trivial)
end
def Imp(φ:List Val->M Val)(ψ:List Val->Pr FV):Prop:=∀(A:AP) (h:Hs) (ds vs:List Val),Up A h->av A h ds vs->Rel A h (RV A h) (φ vs h) (ψ ds)
section
variable {Φ:Nat->List Val->M Val} {Ψ:Nat->List Val->Pr FV} {A:AP} {h h1:Hs}
theorem cU{x y:Bool}(f:(x&&y)=true):x=true/\y=true:=Bool.and_eq_true_iff.mp f
theorem vN{x y z:Bool}(f:(x&&y&&z)=true):(x=true/\y=true)/\z=true:=⟨cU (cU f).1,(cU f).2⟩
def bV(Φ:Nat->List Val->M Val)(Ψ:Nat->List Val->Pr FV)(ir:IE):Prop:=∀(venv:aU) (env:Env) (A:AP) (h:Hs),Up A h->ER A venv env h->Rel A h (RV A h) (aN Φ ir env h) (bA Ψ ir venv)
def n6(Φ:Nat->List Val->M Val)(Ψ:Nat->List Val->Pr FV)(fU:pJ):Prop:=(∀(venv:aU) (env:Env) (A:AP) (h:Hs),Up A h->ER A venv env h->Rel A h (RVs A h) (bu Φ fU env h) (pO Ψ fU venv)) /\
 ∀(venv:aU) (env:Env) (A:AP) (h:Hs),Up A h->ER A venv env h->Rel A h (λds h' vs=>LM A h' ds vs) (bu Φ fU env h) (eG Ψ fU venv)
theorem RV.up{h0 h':Hs}(p:h0<+:h)(r:RV A h x h' v):RV A h0 x h' v:=⟨r.1,λf=>(r.2 f).g9 (Fr.le p.length_le)⟩
theorem IM{h0:Hs}(p:h0<+:h)(r:Rel A h (RV A h) o x):Rel A h (RV A h0) o x:=uF r λ_ _ _ _ q=>q.up p
theorem Wm{i:Nat}(e:ER A venv env h):Rel A h (ZH A) (aN Φ (.var i) env h) (pl (j3 venv (.var i))):=by
 rw[aN];refine bz λx hx=>?_;simp only[j3]at hx;split at hx
 ·rename_i f d hd
  cases hx;have:=e i f d hd;revert this;generalize qv f=t;intro this;cases t with
  |false=>rw[aar rfl]at this;obtain⟨a,k2,k3⟩:=this;exact⟨.ref a,by rw[k2],.inr ⟨a,rfl,k3⟩⟩
  |true=>rw[aas (by decide)]at this;obtain⟨v,k1,k2⟩:=this;exact⟨v,by rw[k1],.inl k2⟩
 ·cases hx
theorem oQ(o:bV Φ Ψ ir)(u:Up A h)(e:ER A venv env h):Rel A h (ZH A) (aN Φ ir env h) (if isVar ir=true then pl (j3 venv ir) else bA Ψ ir venv):=by
 by_cases hv:isVar ir=true
 ·rw[aar hv];cases ir<;>first|(cases hv;done)|exact Wm e
 ·rw[aas hv];exact uF (o venv env A h u e) λ_ _ _ _ q=>q.br
theorem Np{α β:Type}{R:α -> Hs -> β -> Prop}{c:Bool}{o:Out β}{p:Pr α}(r:c=true->Rel A h R o p):Rel A h R o (pg c p):=by
 unfold pg;cases c with
 |true=>rw[aar rfl];exact r rfl
 |false=>rw[aas aaj];trivial
theorem v_var{i:Nat}:bV Φ Ψ (.var i):=λvenv env A h u e=>by
 rw[aN,bA];cases hv:venv[i]? with
 |none=>trivial
 |some o=>
  cases o with
  |none=>trivial
  |some fd=>
   obtain⟨f,d⟩:=fd;refine Np λhf=>?_
   ·have:=e i f d hv;rw[aas (by simp[hf])]at this;obtain⟨v,k1,k2⟩:=this;rw[k1];exact⟨v,h,rfl,aaL _,qK k2⟩
theorem Dl{α:Type}{f:Hs->Option α}:ask f h=bnd (ask f) (λz=>ret z) h:=by unfold bnd ask bB;cases f h<;>rfl
theorem Dm(f:jL d=true):Dn A h d d:=(j4 d d f).mpr rfl
theorem Wn(f:jL d=true):bV Φ Ψ (.cst d):=λvenv env A h u e=>by rw[aN,bA];exact aF (qK (Dm f))
theorem Wo(f:jL d=true):bV Φ Ψ (.con x d):=λvenv env A h u e=>by rw[aN,bA];exact aF (qK (Dm f))
theorem ZJ:bV Φ Ψ .no:=λvenv env A h u e=>by rw[bA];trivial
theorem Wq(ha:bV Φ Ψ a)(hb:bV Φ Ψ b):bV Φ Ψ (.bin o a b):=λvenv env A h u e=>by
 rw[aN,bA];exact ah (oQ ha u e) λx h1 v p1 q1=>ah (oQ hb (u.ext p1) (e.ext p1)) λy h2 w p2 q2=>Nj ((u.ext p1).ext p2) (p1.trans p2) (DB.ext p2 q1) q2
theorem Wr(ha:bV Φ Ψ a):bV Φ Ψ (.neg a):=λvenv env A h u e=>by
 rw[aN,bA];refine ah (ha venv env A h u e) λx h1 v p1 q1=>?_;obtain⟨f,d⟩:=x;have q:=q1.1;cases d<;>dsimp only<;>first|trivial|skip
 dsimp only at q;rw[Dn]at q;subst q;exact aF jd
theorem Ws(ha:bV Φ Ψ a)(hb:bV Φ Ψ b):bV Φ Ψ (.cmp o a b):=λvenv env A h u e=>by
 rw[aN,bA];exact ah (oQ ha u e) λx h1 v p1 q1=>ah (oQ hb (u.ext p1) (e.ext p1)) λy h2 w p2 q2=>
  ah (R:=λt _ t'=>t'=t) (cu λt et=>⟨t,RW (DB.ext p2 q1) q2 et,rfl⟩) λt h3 t' p3 et=>by subst et;exact aF pQ
theorem Wt(ha:bV Φ Ψ a)(hb:bV Φ Ψ b)(hc:bV Φ Ψ c):bV Φ Ψ (.chn o o' a b c):=λvenv env A h u e=>by rw[bA];trivial
theorem pS(q:Dn A h d v):Rel A h (λt _ t'=>t'=t) (wU v h) (wZ d):=by
 cases d<;>first|trivial|skip
 rw[Dn]at q;subst q;exact aF rfl
theorem v_and(ha:bV Φ Ψ a)(hb:bV Φ Ψ b):bV Φ Ψ (.and a b):=λvenv env A h u e=>by
 rw[aN,bA];refine ah (ha venv env A h u e) λx h1 v p1 q1=>ah (pS q1.1) λt h2 t' p2 et=>?_;subst et;cases t' with
 |true=>rw[aar rfl,aar rfl];exact ah (hb venv env A h2 ((u.ext p1).ext p2) ((e.ext p1).ext p2)) λy h3 w p3 q3=>ah (pS q3.1) λt h2 t' p2 et=>by subst et;exact aF pQ
 |false=>rw[aas aaj,aas aaj];exact aF pQ
theorem v_or(ha:bV Φ Ψ a)(hb:bV Φ Ψ b):bV Φ Ψ (.or a b):=λvenv env A h u e=>by
 rw[aN,bA];refine ah (ha venv env A h u e) λx h1 v p1 q1=>ah (pS q1.1) λt h2 t' p2 et=>?_;subst et;cases t' with
 |false=>rw[aas aaj,aas aaj];exact ah (hb venv env A h2 ((u.ext p1).ext p2) ((e.ext p1).ext p2)) λy h3 w p3 q3=>ah (pS q3.1) λt h2 t' p2 et=>by subst et;exact aF pQ
 |true=>rw[aar rfl,aar rfl];exact aF pQ
theorem v_not(ha:bV Φ Ψ a):bV Φ Ψ (.not a):=λvenv env A h u e=>by
 rw[aN,bA];exact ah (ha venv env A h u e) λx h1 v p1 q1=>ah (R:=λt _ t'=>t'=t) (cu λt et=>⟨t,uD (.inl q1.1) et,rfl⟩) λt h2 t' p2 et=>by subst et;exact aF pQ
theorem v_ite(hc:bV Φ Ψ c)(ha:bV Φ Ψ a)(hb:bV Φ Ψ b):bV Φ Ψ (.ite c a b):=λvenv env A h u e=>by rw[bA];trivial
theorem O6:n6 Φ Ψ .nil:=⟨λvenv env A h u e=>by rw[bu,pO];exact aF ⟨av.nil,λ_=>av.nil⟩,λvenv env A h u e=>by rw[bu,eG];exact aF rfl⟩
theorem IP(he:bV Φ Ψ e)(hs:n6 Φ Ψ es):n6 Φ Ψ (.cons e es):=by
 refine⟨λvenv env A h u er=>?_,λvenv env A h u er=>?_⟩
 ·rw[bu,pO]
  refine ah (he venv env A h u er) λx h1 v p1 q1=>ah (hs.1 venv env A h1 (u.ext p1) (er.ext p1)) λy h2 vs p2 q2=>?_;refine aF ⟨av.cons (q1.1.ext p2) q2.1,λhf=>?_⟩;have hf':x.1=true/\y.1=true:=by simpa using hf
  exact av.cons ((q1.2 hf'.1).ext p2) ((q2.2 hf'.2).g9 (Fr.le p1.length_le))
 ·rw[bu,eG];refine ah (oQ he u er) λx h1 v p1 q1=>ah (hs.2 venv env A h1 (u.ext p1) (er.ext p1)) λy h2 vs p2 q2=>?_;exact aF ⟨v,vs,rfl,DB.ext p2 q1,q2⟩
theorem Wu(hs:n6 Φ Ψ es):bV Φ Ψ (.tup es):=λvenv env A h u e=>by
 rw[aN,bA];refine ah (hs.1 venv env A h u e) λx h1 vs p1 q1=>cI (λz=>by rw[<-q1.1.length];exact z) λ_=>aF ⟨?_,λhf=>?_⟩
 ·show Dn A h1 (.tup _) _;rw[Dn];exact⟨vs,rfl,q1.1⟩
 ·show Dn _ h1 (.tup _) _;rw[Dn];exact⟨vs,rfl,q1.2 hf⟩
theorem R3:bV Φ Ψ .dct0:=λvenv env A h u e=>by
 rw[aN,bA];refine⟨_,_,rfl,eX _,?_,λhf=>?_⟩
 ·show Dn A _ (.dc [] []) _;rw[Dn];exact⟨_,[],rfl,u _ (aaw _),ki _,rfl,av.nil⟩
 ·show Dn _ _ (.dc [] []) _;rw[Dn];exact⟨_,[],rfl,aaw _,ki _,rfl,av.nil⟩
theorem R4(hk:bV Φ Ψ k)(hv:bV Φ Ψ v):bV Φ Ψ (.dct1 k v):=λvenv env A h u e=>by
 rw[aN,bA];refine ah (hk venv env A h u e) λx h1 w p1 q1=>ah (R:=λkk _ kk'=>kk'=kk) (bz λkk ek=>⟨kk,Ce q1.1 ek,rfl⟩) λkk h2 kk' p2 hkk=>?_;subst hkk;refine ah (hv venv env A h2 ((u.ext p1).ext p2) ((e.ext p1).ext p2)) λy h3 z p3 q3=>?_;have p:=(p1.trans p2).trans p3;refine⟨_,_,rfl,eX _,?_,λhf=>?_⟩
 ·show Dn A _ (.dc [kk'] [y.2]) _;rw[Dn];exact⟨_,[(kk',z)],rfl,u _ p.length_le,ki _,rfl,av.cons (q3.1.ext (eX _)) av.nil⟩
 ·show Dn _ _ (.dc [kk'] [y.2]) _;rw[Dn];exact⟨_,[(kk',z)],rfl,p.length_le,ki _,rfl,av.cons (((q3.2 hf).g9 (Fr.le (p1.trans p2).length_le)).ext (eX _)) av.nil⟩
theorem R5(hd:bV Φ Ψ d)(hk:bV Φ Ψ k)(hx:bV Φ Ψ x):bV Φ Ψ (.dget d k x):=λvenv env A h u e=>by
 rw[aN,bA];refine ah (oQ hd u e) λo h1 v p1 q1=>ah (R:=λ_ _ _=>True) (cu λt et=>⟨t,Nh q1 et,trivial⟩) λ_ h2 _ p2 _=>?_;refine ah (hk venv env A h2 ((u.ext p1).ext p2) ((e.ext p1).ext p2)) λi h3 w p3 q3=>ah (R:=λkk _ kk'=>kk'=kk) (bz λkk ek=>⟨kk,Ce q3.1 ek,rfl⟩) λkk h4 kk' p4 hkk=>?_;subst hkk;have p14:=((p1.trans p2).trans p3).trans p4;refine ah (hx venv env A h4 (u.ext p14) (e.ext p14)) λz h5 z' p5 q5=>?_;refine ah (R:=λr h' r'=>∀a b,Dn A h5 a b->Dn A h' (r.getD a) (r'.getD b)) (cu λr er=>?_) λr h6 r' p6 hr=>aF (qK (hr _ _ q5.1));obtain⟨r',e1,e2⟩:=IL (DB.ext ((p2.trans p3).trans (p4.trans p5)) q1) er;exact⟨r',e1,e2⟩
theorem Nq(hd:bV Φ Ψ d):bV Φ Ψ (.lkeys d):=λvenv env A h u e=>by
 rw[aN,bA];refine ah (oQ hd u e) λo h1 v p1 q1=>ah (R:=λks _ ks'=>ks'=ks) (cu λks ek=>⟨ks,Ae q1 ek,rfl⟩) λks h2 ks' p2 hk=>?_;subst hk;exact iJ ((u.ext p1).ext p2) (p1.trans p2) ((aZ _ _ (pP ks')).mpr rfl) λ_=>(aZ _ _ (pP ks')).mpr rfl
theorem uH:∀{xs:List Val} {ns:List Int},aX xs=some ns->xs=ns.map .int
 |[],ns,e=>by cases e;rfl
 | x::xs,ns,e=>by
  unfold aX at e;rw[bK]at e;obtain⟨i,e1,e⟩:=aah.mp e;obtain⟨r,e2,e⟩:=aah.mp e;cases e;cases x<;>simp at e1;subst e1;rw[uH e2];rfl
theorem Nr(ha:bV Φ Ψ a):bV Φ Ψ (.skeys a):=λvenv env A h u e=>by
 rw[aN,bA];refine ah (oQ ha u e) λx h1 v p1 q1=>?_;obtain⟨f,d⟩:=x;cases d<;>first|trivial|skip
 rename_i xs;obtain⟨vs,e1,e2⟩:=DB.lst q1;have ea:∀(F:List Val->M Val),bnd (ask λh=>aB h v) F h1=F vs h1:=λF=>by unfold bnd ask bB;dsimp only;rw[e1]
 rw[ea];show Rel A h1 _ _ (pb (pl (aX xs)) _);refine ah (R:=λns h' ns'=>ns'=ns) (bz λns en=>⟨ns,?_,rfl⟩) λns h2 ns' p2 en=>?_
 ·have ei:=uH en;subst ei;rw[(aZ _ _ (bx ns)).mp e2];exact en
 ·subst en;exact cI (λz=>z) λ_=>aF jd
theorem Dp(a:DB A h o v):∀(ks:List Key) (ns:List Int),bK (λk=>(sy [] o k).bind λr=>r.bind vI) ks=some ns->bK (λk=>(sy h v k).bind λr=>r.bind vI) ks=some ns
 |[],ns,e=>e
 | k::ks,ns,e=>by
  rw[bK]at e;obtain⟨b,e1,e⟩:=aah.mp e;obtain⟨bs,e2,e⟩:=aah.mp e;cases e;obtain⟨r1,c1,e1⟩:=aah.mp e1;obtain⟨d,c2,e1⟩:=aah.mp e1;subst c2;cases d<;>cases e1;obtain⟨r2,f1,f2⟩:=IL a c1;have g0:Dn A h Val.non Val.non:=by rw[Dn]
  have g:Dn A h (Val.int b) (r2.getD Val.non):=f2 _ _ g0;rw[Dn]at g;rw[bK,Dp a ks bs e2,f1];cases r2 with
  |none=>cases g
  |some z=>cases (show z=Val.int b from g);rfl
theorem R6{p q:Nat}(hd:bV Φ Ψ d)(hw:bV Φ Ψ w):bV Φ Ψ (.dflt N' js p q d w):=λvenv env A h u e=>by
 rw[aN,bA];refine ah (oQ hd u e) λo h1 v p1 q1=>ah (R:=λns _ ns'=>ns'=ns) (cu λns en=>⟨ns,?_,rfl⟩) λns h2 ns' p2 hk=>?_
 ·unfold wR at en |-
  obtain⟨ks,e1,e2⟩:=aah.mp en;rw[Ae q1 e1];split at e2
  ·rename_i hz;show (if ks.length<=100000 then _ else _)=_;rw[aar hz];exact Dp q1 ks ns e2
  ·cases e2
 ·subst hk;exact iJ ((u.ext p1).ext p2) (p1.trans p2) ((aZ _ _ (bx ns')).mpr rfl) λ_=>(aZ _ _ (bx ns')).mpr rfl
theorem Wv(ha:bV Φ Ψ a):bV Φ Ψ (.isc a x bs):=λvenv env A h u e=>by rw[bA];trivial
theorem R7(ha:bV Φ Ψ a):bV Φ Ψ (.sset a):=λvenv env A h u e=>by
 rw[aN,bA];refine ah (oQ ha u e) λx h1 v p1 q1=>?_;obtain⟨f,d⟩:=x;cases d<;>first|trivial|skip
 rename_i xs;obtain⟨vs,e1,e2⟩:=DB.lst q1;have ea:∀(F:List Val->M Val),bnd (ask λh=>aB h v) F h1=F vs h1:=λF=>by unfold bnd ask bB;dsimp only;rw[e1]
 rw[ea];show Rel A h1 _ _ (pb (pl (aX xs)) _);refine ah (R:=λns h' ns'=>ns'=ns) (bz λns en=>⟨ns,?_,rfl⟩) λns h2 ns' p2 en=>?_
 ·have ei:=uH en;subst ei;rw[(aZ _ _ (bx ns)).mp e2];exact en
 ·subst en;refine cI (λz=>z) λ_=>?_;have hi:∀ms:List Int,av A h2 (ms.map Val.int) (ms.map Val.int):=λms=>(aZ _ _ (bx ms)).mpr rfl;exact iJ ((u.ext p1).ext p2) (p1.trans p2) (hi _) λ_=>(aZ _ _ (bx _)).mpr rfl
theorem Ww(hs:n6 Φ Ψ es):bV Φ Ψ (.lst es):=λvenv env A h u e=>by
 rw[aN,bA];exact ah (hs.1 venv env A h u e) λx h1 vs p1 q1=>cI (λz=>by rw[<-q1.1.length];exact z) λ_=>iJ (u.ext p1) p1 q1.1 q1.2
theorem Wx(ha:bV Φ Ψ a)(hb:bV Φ Ψ b):bV Φ Ψ (.idx a b):=λvenv env A h u e=>by
 rw[aN,bA];refine ah (oQ ha u e) λx h1 v p1 q1=>ah (hb venv env A h1 (u.ext p1) (e.ext p1)) λy h2 w p2 q2=>?_;rw[Dl];exact ah (R:=λz h' z'=>Dn A h' z z') (cu λz ez=>RY (DB.ext p2 q1) q2.1 ez) λz h3 z' p3 q3=>aF (qK q3)
theorem pT(o:bV Φ Ψ ir)(u:Up A h)(e:ER A venv env h) :
  Rel A h (λ(t:Option Int) _ t'=>t'=t) ((if eW ir=true then ret none else bnd (aN Φ ir env) λv=>bnd (bB (gq v)) λi=>ret (some i)) h) (if eW ir=true then .ok none else pb (bA Ψ ir venv) λv=>pb (pl (gq v.2)) λi=>.ok (some i)):=by
 by_cases hn:eW ir=true
 ·rw[aar hn,aar hn];exact aF rfl
 ·rw[aas hn,aas hn]
  refine ah (o venv env A h u e) λx h1 v p1 q1=>ah (R:=λt _ t'=>t'=t) (bz λi ei=>?_) λt h2 t' p2 et=>by subst et;exact aF rfl
  obtain⟨f,d⟩:=x;have q:=q1.1;cases d<;>first|(cases ei;done)|skip
  dsimp only at q;rw[Dn]at q;subst q;exact⟨i,ei,rfl⟩
theorem Wz(ha:bV Φ Ψ a)(hl:bV Φ Ψ lo)(hh:bV Φ Ψ hi):bV Φ Ψ (.slc a lo hi):=λvenv env A h u e=>by
 rw[aN,bA];refine ah (oQ ha u e) λx h1 v p1 q1=>ah (pT hl (u.ext p1) (e.ext p1)) λl h2 l' p2 el=>ah (pT hh ((u.ext p1).ext p2) ((e.ext p1).ext p2)) λr h3 r' p3 er=>?_;subst el;subst er;exact Nk (((u.ext p1).ext p2).ext p3) ((p1.trans p2).trans p3) (DB.ext (p2.trans p3) q1)
theorem WA(ha:bV Φ Ψ a)(hs:bV Φ Ψ sx):bV Φ Ψ (.rev a sx):=λvenv env A h u e=>by rw[bA];trivial
theorem R8{j:Nat}(hΦ:∀j,Imp (Φ j) (Ψ j))(hs:n6 Φ Ψ es):bV Φ Ψ (.call j es):=λvenv env A h u e=>by
 rw[aN,bA];exact ah (hs.1 venv env A h u e) λx h1 vs p1 q1=>IM p1 (hΦ j A h1 x.2 vs (u.ext p1) q1.1)
theorem WB{n:Nat}(ha:bV Φ Ψ a):bV Φ Ψ (.fld n a x):=λvenv env A h u e=>by
 rw[aN,bA];refine ah (oQ ha u e) λo h1 v p1 q1=>?_;rw[Dl];exact ah (R:=λz h' z'=>Dn A h' z z') (cu λz ez=>RZ q1 ez) λz h3 z' p3 q3=>aF (qK q3)
theorem WC(hΦ:∀j,Imp (Φ j) (Ψ j))(ha:bV Φ Ψ a)(hs:n6 Φ Ψ es):bV Φ Ψ (.mth a m js es):=λvenv env A h u e=>by
 rw[aN,bA];refine ah (ha venv env A h u e) λo h1 v p1 q1=>ah (R:=λj _ j'=>j'=j) (cu λj ej=>⟨j,R0 (.inl q1.1) ej,rfl⟩) λj h2 j' p2 hj=>?_;subst hj;exact ah (hs.1 venv env A h2 ((u.ext p1).ext p2) ((e.ext p1).ext p2)) λx h3 vs p3 q3=>IM ((p1.trans p2).trans p3) (hΦ j' A h3 (o.2::x.2) (v::vs) (((u.ext p1).ext p2).ext p3) (av.cons (q1.1.ext (p2.trans p3)) q3.1))
theorem WD(hs:n6 Φ Ψ es):bV Φ Ψ (.blt b es):=λvenv env A h u e=>by
 rw[aN,bA];exact ah (hs.2 venv env A h u e) λx h1 vs p1 q1=>Nn (u.ext p1) p1 q1
theorem WE(ha:bV Φ Ψ a)(hs:n6 Φ Ψ es):bV Φ Ψ (.met m a es):=λvenv env A h u e=>by
 cases m with
 |join=>rw[bA];trivial
 |_=>rw[bA]<;>first|trivial|(intro z;cases z)
def SrcR(A:AP)(h:Hs)(xs:List Val)(src:Src):Prop:=∃ws,av A h xs ws/\∀h',h<+:h'->src.items h'=some ws
theorem nS{lo:Int}{n:Nat}:av A h (cB lo n) (cB lo n):=by
 unfold cB;generalize List.range n=l
 induction l with
 |nil=>exact av.nil
 |cons a l ih=>exact av.cons (by rw[Dn]) ih
theorem ko:∀{xs ws:List Val} (i:Nat),av A h xs ws->av A h (ug i xs) (ug i ws)
 |[],ws,i,q=>by rw[av]at q;subst q;exact av.nil
 | x::xs,ws,i,q=>by
  rw[av]at q;obtain⟨w,r,rfl,a,b⟩:=q;exact av.cons (by rw[Dn];exact⟨_,rfl,av.cons (by rw[Dn]) (av.cons a av.nil)⟩) (ko (i+1) b)
theorem yC{ds vs:List Val}(a:DB A h (.rl ds) v):∃ws,av A h ds ws/\((v=.rl ws)\/∃i,v=.ref i/\∀h',h<+:h'->aB h' (.ref i)=some ws):=by
 rcases a with a|⟨i,rfl,vs,g,q⟩
 ·rw[Dn]at a
  rcases a with ⟨vs,rfl,_,q⟩|⟨i,vs,rfl,_,g,q⟩
  ·exact⟨vs,q,.inl rfl⟩
  ·exact⟨vs,q,.inr ⟨i,rfl,λh' p=>by simp[aB,cC p g]⟩⟩
 ·exact⟨vs,q,.inr ⟨i,rfl,λh' p=>by simp[aB,cC p g]⟩⟩
theorem yD:∀{xs ws ys zs:List Val},av A h xs ws->av A h ys zs->av A h (gj xs ys) (gj ws zs)
 |[],ws,ys,zs,q,_=>by rw[av]at q;subst q;rw[gj.eq_def,gj.eq_def];exact av.nil
 | x::xs,ws,[],zs,q,q'=>by
  rw[av]at q;rw[av]at q';subst q';obtain⟨w,r,rfl,a,b⟩:=q;rw[gj.eq_def,gj.eq_def];exact av.nil
 | x::xs,ws,y::ys,zs,q,q'=>by
  rw[av]at q;rw[av]at q';obtain⟨w,r,rfl,a,b⟩:=q;obtain⟨w',r',rfl,a',b'⟩:=q';rw[gj,gj];exact av.cons (by rw[Dn];exact⟨_,rfl,av.cons a (av.cons a' av.nil)⟩) (yD b b')
theorem Ah(a:DB A h (.rl ds) v):∃ws,av A h ds ws/\∀h',h<+:h'->aB h' v=some ws:=by
 obtain⟨ws,q,rfl|⟨i,rfl,g⟩⟩:=yC (vs:=[]) a
 ·exact⟨ws,q,λ_ _=>rfl⟩
 ·exact⟨ws,q,g⟩
theorem Dq(a:LM A h ds vs):Rel A h (λxs h' src=>SrcR A h' xs src) (bB (srcOf k vs) h) (pl (E9 k ds)):=by
 refine bz λxs e=>?_;cases k with
 |seq=>
  match ds,e with
  |[.tup es],e=>cases e;obtain⟨v,rfl,hv⟩:=a.one;obtain⟨ws,rfl,q⟩:=hv.tup;exact⟨.fix ws,rfl,ws,q,λ_ _=>rfl⟩
  |[.rl es],e=>
   cases e;obtain⟨v,rfl,hv⟩:=a.one;obtain⟨ws,q,rfl|⟨i,rfl,g⟩⟩:=yC (vs:=[]) hv
   ·exact⟨.fix ws,rfl,ws,q,λ_ _=>rfl⟩
   ·exact⟨.live i,rfl,ws,q,λh' p=>g h' p⟩
 |range=>
  match ds,e with
  |[.int n],e=>
   obtain⟨v,rfl,hv⟩:=a.one;have:=hv.int;subst this;change (if inR n=true then some (cB 0 n.toNat) else none)=some _ at e;split at e
   ·rename_i hn;cases e;exact⟨.fix _,aar hn,_,nS,λ_ _=>rfl⟩
   ·cases e
  |[.int n,.int m],e=>
   obtain⟨v,r,rfl,hv,hr⟩:=a;obtain⟨w,rfl,hw⟩:=LM.one hr;have:=hv.int;subst this;have:=hw.int;subst this;change (if (inR n&&inR m)=true then some (cB n (m-n).toNat) else none)=some _ at e;split at e
   ·rename_i hn;cases e;exact⟨.fix _,aar hn,_,nS,λ_ _=>rfl⟩
   ·cases e
 |enum=>
  match ds,e with
  |[.rl es],e=>
   cases e;obtain⟨v,rfl,hv⟩:=a.one;obtain⟨ws,q,rfl|⟨i,rfl,g⟩⟩:=yC (vs:=[]) hv
   ·exact⟨.fix _,rfl,_,ko 0 q,λ_ _=>rfl⟩
   ·exact⟨.enum i,rfl,_,ko 0 q,λh' p=>by simp[Src.items,g h' p]⟩
 |zip=>
  match ds,e with
  |[.rl es,.rl fs],e=>cases e;obtain⟨v,r,rfl,hv,hr⟩:=a;obtain⟨w,rfl,hw⟩:=LM.one hr;obtain⟨ws,q,g⟩:=Ah hv;obtain⟨zs,q',g'⟩:=Ah hw;exact⟨.zip v w,rfl,_,yD q q',λh' p=>by show (aB h' v).bind _=_;rw[g h' p];show (aB h' w).map _=_;rw[g' h' p];rfl⟩
theorem Dr:∀{is:List Nat} {ds vs:List Val} {venv aM:aU} {env:Env},cT is ds venv=some aM->av A h ds vs->ER A venv env h->(∀i∈is,i<venv.length->i<env.length)->∃env',bindAll is vs env=some env'/\ER A aM env' h
 | [],[],vs,venv,aM,env,e,q,er,_=>by
  rw[av]at q;subst q;simp only[cT]at e;cases e;exact⟨env,rfl,er⟩
 | i::is,d::ds,vs,venv,aM,env,e,q,er,hl=>by
  rw[av]at q;obtain⟨v,r,rfl,q1,q2⟩:=q;simp only[cT]at e;have er':ER A (venv.set i (some (.sh,d))) (env.set i (some v)) h:=λj f d' hj=>by
   by_cases hij:i=j
   ·subst hij
    have hi:i<venv.length:=by have:=(aao.mp hj).1;simpa using this
    rw[aat hi]at hj;cases hj;rw[aas (by decide)];exact⟨v,by rw[aat (hl i aam hi)],q1⟩
   ·rw[aan hij]at hj;rw[aan hij];exact er j f d' hj
  simp only[bindAll];exact Dr e q2 er' λj hj hl'=>by simpa using hl j (aal _ hj) (by simpa using hl')
 |[],_::_,_,_,_,_,e,_,_,_=>by simp[cT]at e
 |_::_,[],_,_,_,_,e,_,_,_=>by simp[cT]at e
theorem Ai(e:cF p d venv=some aM)(q:Dn A h d v)(er:ER A venv env h)(hl:venv.length<=env.length):∃env',gp p v env=some env'/\ER A aM env' h:=by
 cases p with
 |one i=>
  simp only[cF]at e;cases e;refine⟨_,rfl,λj f d' hj=>?_⟩
  by_cases hij:i=j
  ·subst hij
   have hi:i<venv.length:=by have:=(aao.mp hj).1;simpa using this
   rw[aat hi]at hj;cases hj;rw[aas (by decide)];exact⟨v,by rw[aat (by omega)],q⟩
  ·rw[aan hij]at hj;rw[aan hij];exact er j f d' hj
 |tup is=>
  cases d<;>simp only[cF]at e<;>first|(cases e;done)|skip
  rw[Dn]at q;obtain⟨vs,rfl,q⟩:=q;exact Dr e q er λi _ hi=>by omega
theorem Ds(e:ER A venv env h):ER A (di js venv) (mG js env) h:=λi f d q=>by
 unfold di at q;rw[aaJ]at q;cases hj:js[i]? with
 |none=>rw[hj]at q;cases q
 |some o=>
  rw[hj]at q;simp only[map_some]at q;cases o with
  |none=>cases q
  |some j=>
   dsimp only at q;cases ej:venv[j]? with
   |none=>rw[ej]at q;cases q
   |some w=>
    cases w with
    |none=>rw[ej]at q;cases q
    |some fd=>
     rw[ej]at q;cases q;have:=e j f d ej;revert this;generalize qv f=t;intro this;cases t with
     |false=>rw[aar rfl]at this |-;obtain⟨a,k2,k3⟩:=this;refine⟨a,?_,k3⟩;unfold mG;rw[aaJ,hj];simp only[map_some];rw[k2]
     |true=>rw[aas (by decide)]at this |-;obtain⟨v,k1,k2⟩:=this;refine⟨v,?_,k2⟩;unfold mG;rw[aaJ,hj];simp only[map_some];rw[k1]
theorem uI :
  ∀(xs:List Val) (vs:List Val) (i:Nat) (acc:List Val) (h:Hs),hb<+:h->Up A h->(∀h',h<+:h'->src.items h'=some ws)->ws.drop i=vs->av A h xs vs ->
   (∀x v h',h<+:h'->Dn A h' x v->Rel A h' (λo h'' o'=>match o,o' with|some e,some e'=>RV A hb e h'' e'|none,none=>True|_,_=>False) (f v h') (g x)) ->
   Rel A h (λp h' ys=>∃zs,ys=acc++zs/\av A h' p.2 zs/\(p.1=true->av (Fr hb.length) h' p.2 zs)) (gP src f vs.length i acc h) (lQ g xs)
 | [],vs,i,acc,h,pb',u,hi,hd,q,hf=>by
  rw[av]at q;subst q;have hl:ws.length<=i:=List.drop_eq_nil_iff.mp hd;have ev:gP src f ([]:List Val).length i acc h=.ok acc h:=by show gP src f 0 i acc h=_;simp only[gP];unfold bnd ask bB aR;dsimp only;rw[hi h (aaL _)];dsimp only;rw[aar (decide_eq_true hl)];rfl
  rw[ev,lQ];exact⟨acc,h,rfl,aaL _,[],by simp,av.nil,λ_=>av.nil⟩
 | x::xs,vs,i,acc,h,pb',u,hi,hd,q,hf=>by
  rw[av]at q;obtain⟨v,r,rfl,q1,q2⟩:=q;have hv:ws[i]?=some v:=by have:=aa2 (λl=>l[0]?) hd;simpa using this
  have hr:ws.drop (i+1)=r:=by
   have:ws.drop (i+1)=(ws.drop i).drop 1:=by rw[List.drop_drop]
   rw[this,hd];rfl
  have ev:gP src f (v::r).length i acc h=bnd (f v) (λo=>gP src f r.length (i+1) (match o with|some e=>acc++[e]|none=>acc)) h:=by show gP src f (r.length+1) i acc h=_;simp only[gP];unfold bnd ask bB;dsimp only;rw[hi h (aaL _)];dsimp only;rw[hv];try rfl
  rw[ev,lQ];refine ah (hf x v h (aaL _) q1) λo h1 o' p1 ho=>?_;have ih:=λacc'=>uI xs r (i+1) acc' h1 (pb'.trans p1) (u.ext p1) (λh' p=>hi h' (p1.trans p)) hr (q2.ext p1) λx v h' p=>hf x v h' (p1.trans p);cases o' with
  |some e'=>
   cases o with
   |none=>exact ho.elim
   |some e=>
    have ih:=ih (acc++[e']);cases e2:lQ g xs with
    |ok p=>
     rw[e2]at ih;obtain⟨ys,h2,e3,p2,zs,rfl,z1,z2⟩:=ih;refine⟨_,h2,e3,p2,e'::zs,by simp,av.cons (ho.1.ext p2) z1,λhp=>?_⟩;have hp':e.1=true/\p.1=true:=by simpa using hp
     exact av.cons ((ho.2 hp'.1).ext p2) (z2 hp'.2)
    |exc c es=>rw[e2]at ih;exact ih
    |no=>trivial
  |none=>
   cases o with
   |some e'=>exact ho.elim
   |none=>
    have ih:=ih acc;cases e2:lQ g xs with
    |ok p=>rw[e2]at ih;obtain⟨ys,h2,e3,p2,zs,rfl,z1,z2⟩:=ih;exact⟨_,h2,e3,p2,zs,rfl,z1,z2⟩
    |exc c es=>rw[e2]at ih;exact ih
    |no=>trivial
theorem R9(hs:n6 Φ Ψ it)(hc:bV Φ Ψ c)(he:bV Φ Ψ elt):bV Φ Ψ (.comp N js pat k it c elt):=λvenv env A h u e=>by
 rw[aN,bA];refine ah (hs.2 venv env A h u e) λds h1 vs p1 q1=>ah (Dq q1) λxs h2 src p2 q2=>?_;obtain⟨ws,q3,q4⟩:=q2;have l:=q3.length;have ev:∀(F:List Val->M Val),bnd (ask λh=>src.items h) F h2=F ws h2:=λF=>by unfold bnd ask bB;dsimp only;rw[q4 h2 (aaL _)]
 rw[ev];refine cI (λz=>by rw[<-l];exact z) λ_=>?_;have u2:=(u.ext p1).ext p2;have e2:=(e.ext p1).ext p2;refine ah (uI (hb:=h) xs ws 0 [] h2 (p1.trans p2) u2 q4 rfl q3 λx v h' p' qx=>?_) λp h3 ys p3 hp=>?_
 ·refine ah (R:=λaM _ env'=>∃_:ER A aM env' h',True) (bz λaM ev'=>?_) λaM h4 env' p4 he'=>?_
  ·obtain⟨env',a1,a2⟩:=Ai ev' qx (Ds (e2.ext p')) (by simp[di,mG]);exact⟨env',a1,a2,trivial⟩
  ·obtain⟨er,_⟩:=he'
   have er:=er.ext p4;have u4:=(u2.ext p').ext p4;have RG:Rel A h4 (λt _ t'=>t'=t) ((if eW c=true then ret true else bnd (aN Φ c env') λv=>ask λh=>dI h v) h4) (if eW c=true then .ok true else pb (bA Ψ c aM) λv=>pl (dI [] v.2)):=by
    by_cases hn:eW c=true
    ·rw[aar hn,aar hn];exact aF rfl
    ·rw[aas hn,aas hn];exact ah (hc aM env' A h4 u4 er) λy h5 w p5 q5=>cu λt et=>⟨t,uD q5.br et,rfl⟩
   refine ah RG λt h5 t' p5 et=>?_;subst et;cases t' with
   |true=>rw[aar rfl,aar rfl];exact ah (he aM env' A h5 (u4.ext p5) (er.ext p5)) λy h6 w p6 q6=>aF (q6.up ((p1.trans p2).trans (p'.trans (p4.trans p5))))
   |false=>rw[aas aaj,aas aaj];exact aF trivial
 ·obtain⟨zs,rfl,z1,z2⟩:=hp;exact iJ (u2.ext p3) ((p1.trans p2).trans p3) z1 z2
mutual
noncomputable def dM:IE->Bool
 |.cst d=>jL d
 |.con _ d=>jL d
 |.bin _ a b=>dM a&&dM b
 |.neg a=>dM a
 |.cmp _ a b=>dM a&&dM b
 |.chn _ _ a b c=>dM a&&dM b&&dM c
 |.and a b=>dM a&&dM b
 |.or a b=>dM a&&dM b
 |.not a=>dM a
 |.ite a b c=>dM a&&dM b&&dM c
 |.tup es=>pU es
 |.lst es=>pU es
 |.idx a b=>dM a&&dM b
 |.slc a b c=>dM a&&dM b&&dM c
 |.call _ es=>pU es
 |.blt _ es=>pU es
 |.met _ a es=>dM a&&pU es
 |.comp _ _ _ _ es a b=>pU es&&dM a&&dM b
 |.var _=>true
 |.no=>true
 |.dct0=>true
 |.sset a=>dM a
 |.dget a b c=>dM a&&dM b&&dM c
 |.dct1 a b=>dM a&&dM b
 |.lkeys a=>dM a
 |.sdef ..=>false
 |.svals a=>dM a
 |.skeys a=>dM a
 |.fld _ a _=>dM a
 |.mth a _ _ es=>dM a&&pU es
 |.rev a b=>dM a&&dM b
 |.dflt _ _ _ _ a b=>dM a&&dM b
 |.isc a _ _=>dM a
noncomputable def pU:pJ->Bool
 |.nil=>true
 |.cons e es=>dM e&&pU es
end
theorem v_all(hΦ:∀j,Imp (Φ j) (Ψ j)):(∀ir,dM ir=true->bV Φ Ψ ir)/\∀fU,pU fU=true->n6 Φ Ψ fU:=by
 have one:∀ir,dM ir=true->bV Φ Ψ ir:=by
  intro ir;refine IE.rec (motive_1:=λir=>dM ir=true->bV Φ Ψ ir) (motive_2:=λfU=>pU fU=true->n6 Φ Ψ fU) ?_ ?_ ?_ ?_ ?_ ?_ ?_ ?_ ?_ ?_ ?_ ?_ ?_ ?_ ?_ ?_ ?_ ?_ ?_ ?_ ?_ ?_ ?_ ?_ ?_ ?_ ?_ ?_ ?_ ?_ ?_ ?_ ?_ ?_ ?_ ir
  ·exact λ_ _=>v_var
  ·exact λ_ f=>Wn f
  ·exact λ_ _ f=>Wo f
  ·exact λ_=>ZJ
  ·intro _ _ _ a b f;have f:=cU f;exact Wq (a f.1) (b f.2)
  ·intro _ a f;exact Wr (a f)
  ·intro _ _ _ a b f;have f:=cU f;exact Ws (a f.1) (b f.2)
  ·intro _ _ _ _ _ a b c f;have f:=vN f;exact Wt (a f.1.1) (b f.1.2) (c f.2)
  ·intro _ _ a b f;have f:=cU f;exact v_and (a f.1) (b f.2)
  ·intro _ _ a b f;have f:=cU f;exact v_or (a f.1) (b f.2)
  ·intro _ a f;exact v_not (a f)
  ·intro _ _ _ a b c f;have f:=vN f;exact v_ite (a f.1.1) (b f.1.2) (c f.2)
  ·intro _ a f;exact Wu (a f)
  ·intro _ a f;exact Ww (a f)
  ·intro _ _ a b f;have f:=cU f;exact Wx (a f.1) (b f.2)
  ·intro _ _ _ a b c f;have f:=vN f;exact Wz (a f.1.1) (b f.1.2) (c f.2)
  ·intro _ _ a f;exact R8 hΦ (a f)
  ·intro _ _ a f;exact WD (a f)
  ·intro _ _ _ a b f;have f:=cU f;exact WE (a f.1) (b f.2)
  ·intro _ _ _ _ _ _ _ a b c f;have f:=vN f;exact R9 (a f.1.1) (b f.1.2) (c f.2)
  ·exact λ_=>R3
  ·intro _ a f;exact R7 (a f)
  ·intro _ _ _ a b c f;have f:=vN f;exact R5 (a f.1.1) (b f.1.2) (c f.2)
  ·intro _ _ a b f;have f:=cU f;exact R4 (a f.1) (b f.2)
  ·intro _ a f;exact Nq (a f)
  ·intro _ _ _ _ _ _ f;exact nomatch (show false=true from f)
  ·intro _ _ f venv env A h u e;rw[bA];trivial
  ·intro _ a f;exact Nr (a f)
  ·intro _ _ _ a f;exact WB (a f)
  ·intro _ _ _ _ a b f;have f:=cU f;exact WC hΦ (a f.1) (b f.2)
  ·intro _ _ a b f;have f:=cU f;exact WA (a f.1) (b f.2)
  ·intro _ _ _ _ _ _ a b f;have f:=cU f;exact R6 (a f.1) (b f.2)
  ·intro _ _ _ a f;exact Wv (a f)
  ·exact λ_=>O6
  ·intro _ _ a b f;have f:=cU f;exact IP (a f.1) (b f.2)
 refine⟨one,λfU=>?_⟩
 induction fU using pJ.rec (motive_1:=λ_=>True) with
 |nil=>exact λ_=>O6
 |cons e es _ ih=>exact λf=>by have f:=cU f;exact IP (one e f.1) (ih f.2)
 |_=>trivial
end
section
variable {A A':AP} {h h':Hs}
mutual
theorem Dn.move(hn:A none->A' none)(hh:∀(i:Nat) (o:Ob),A (some i)->h[i]?=some o->A' (some i)/\h'[i]?=some o):∀(d v:Val),Dn A h d v->Dn A' h' d v
 |.non,v,e=>by rw[Dn]at e |-;exact e
 |.bl _,v,e=>by rw[Dn]at e |-;exact e
 |.int _,v,e=>by rw[Dn]at e |-;exact e
 |.str _,v,e=>by rw[Dn]at e |-;exact e
 | .tup ds,v,e=>by
  rw[Dn]at e |-;obtain⟨vs,rfl,q⟩:=e;exact⟨vs,rfl,av.move hn hh ds vs q⟩
 | .rl ds,v,e=>by
  rw[Dn]at e |-
  rcases e with ⟨vs,rfl,n,q⟩|⟨i,vs,rfl,a,g,q⟩
  ·exact .inl ⟨vs,rfl,hn n,av.move hn hh ds vs q⟩
  ·exact .inr ⟨i,vs,rfl,(hh i _ a g).1,(hh i _ a g).2,av.move hn hh ds vs q⟩
 | .dc ks ds,v,e=>by
  rw[Dn]at e |-;obtain⟨i,kvs,rfl,a,g,k,q⟩:=e;exact⟨i,kvs,rfl,(hh i _ a g).1,(hh i _ a g).2,k,av.move hn hh ds _ q⟩
 | .ob c xs ds,v,e=>by
  rw[Dn]at e |-;obtain⟨i,kvs,rfl,a,g,k,q⟩:=e;exact⟨i,kvs,rfl,(hh i _ a g).1,(hh i _ a g).2,k,av.move hn hh ds _ q⟩
 |.ref _,v,e=>by rw[Dn]at e;exact e.elim
theorem av.move(hn:A none->A' none)(hh:∀(i:Nat) (o:Ob),A (some i)->h[i]?=some o->A' (some i)/\h'[i]?=some o):∀(ds vs:List Val),av A h ds vs->av A' h' ds vs
 |[],vs,e=>by rw[av]at e |-;exact e
 | d::ds,vs,e=>by
  rw[av]at e |-;obtain⟨v,r,rfl,q1,q2⟩:=e;exact⟨v,r,rfl,Dn.move hn hh d v q1,av.move hn hh ds r q2⟩
end
end
def Al(A0:AP)(O:Nat->Option Nat):AP:=λo=>A0 o/\∀i,o.isSome=true->O i≠o
structure SR (A0:AP) (h0:Hs) (venv:aU) (env:Env) (h:Hs) (O:Nat->Option Nat):Prop where
 len:venv.length=env.length
 sh:∀(i:Nat) (m:Mk) (d:Val),venv[i]?=some (some (m,d))->qv m=true->∃v,env[i]?=some (some v)/\Dn (Al A0 O) h d v/\(Uo m=true->Dn (Al (Fr h0.length) O) h d v)
 ow:∀(i:Nat) (d:Val),venv[i]?=some (some (.ow,d))->∃a,env[i]?=some (some (.ref a))/\O i=some a/\OD (Al A0 O) h d a
 own:∀i a,O i=some a->h0.length<=a/\a<h.length/\∃d,venv[i]?=some (some (.ow,d))
 inj:∀i j a,O i=some a->O j=some a->i=j
 pre:h0<+:h
 up:Up A0 h0
structure Fm (m:List Nat) (venv:aU) (env:Env) (h:Hs) (O:Nat->Option Nat) (aM:aU) (env':Env) (h':Hs) (O':Nat->Option Nat):Prop where
 le:h.length<=h'.length
 keep:∀k,k<h.length->(∀i,O i≠some k)->h'[k]?=h[k]?/\∀i,O' i≠some k
 stay:∀i,i∉m->O' i=O i/\aM[i]?=venv[i]?/\env'[i]?=env[i]?/\∀a,O i=some a->h'[a]?=h[a]?
def RF(A0:AP)(h0:Hs)(m:List Nat)(venv:aU)(env:Env)(h:Hs)(O:Nat->Option Nat):yv->Hs->Fl->Prop
 |.nx aM,h',.nx env'=>∃O',SR A0 h0 aM env' h' O'/\Fm m venv env h O aM env' h' O'
 |.bk aM,h',.bk env'=>∃O',SR A0 h0 aM env' h' O'/\Fm m venv env h O aM env' h' O'
 |.ct aM,h',.ct env'=>∃O',SR A0 h0 aM env' h' O'/\Fm m venv env h O aM env' h' O'
 |.rt p,h',.rt v=>Dn A0 h' p.2 v/\(p.1=true->Dn (Fr h0.length) h' p.2 v)/\h0<+:h'
 |_,_,_=>False
def je(A0:AP)(h0:Hs){α β:Type}(R:α -> Hs -> β -> Prop)(o:Out β):Pr α -> Prop
 |.ok f=>∃g h',o=.ok g h'/\R f h' g
 |.exc c es=>∃ws h',o=.exc c ws h'/\h0<+:h'/\av A0 h' es ws
 |.no=>True
section
variable {A0:AP} {h0:Hs} {venv:aU} {env:Env} {h h1:Hs} {O:Nat->Option Nat} {m:List Nat}
theorem SR.er(s:SR A0 h0 venv env h O):ER (Al A0 O) venv env h:=λi f d e=>by
 cases f with
 |ow=>rw[aar (show qv .ow=false by decide)];obtain⟨a,k2,_,k3⟩:=s.ow i d e;exact⟨a,k2,k3⟩
 |sh=>rw[aas (by decide)];obtain⟨v,k1,k2,_⟩:=s.sh i _ d e rfl;exact⟨v,k1,k2⟩
 |nw=>rw[aas (by decide)];obtain⟨v,k1,k2,_⟩:=s.sh i _ d e rfl;exact⟨v,k1,k2⟩
theorem SR.Fe(s:SR A0 h0 venv env h O):Up (Al A0 O) h:=λk hk=>⟨s.up k (aaN s.pre.length_le hk),λi _ e=>by have:=(s.own i k e).2.1;omega⟩
theorem SR.ext(s:SR A0 h0 venv env h O)(p:h<+:h1):SR A0 h0 venv env h1 O where
 len:=s.len
 sh i m d e hm:=by obtain⟨v,k1,k2,k3⟩:=s.sh i m d e hm;exact⟨v,k1,k2.ext p,λz=>(k3 z).ext p⟩
 ow i d e:=by obtain⟨a,k2,k3,k4⟩:=s.ow i d e;exact⟨a,k2,k3,k4.ext p⟩
 own i a e:=by obtain⟨k1,k2,k3⟩:=s.own i a e;exact⟨k1,aay k2 p.length_le,k3⟩
 inj:=s.inj
 pre:=s.pre.trans p
 up:=s.up
theorem gR(p:h<+:h1){k:Nat}(hk:k<h.length):h1[k]?=h[k]?:=by
 obtain⟨t,rfl⟩:=p;rw[aax hk]
theorem Fm.refl(s:SR A0 h0 venv env h O)(p:h<+:h1):Fm m venv env h O venv env h1 O where
 le:=p.length_le
 keep k hk n:=⟨gR p hk,n⟩
 stay i _:=⟨rfl,rfl,rfl,λa e=>gR p (s.own i a e).2.1⟩
theorem Fm.trans{pV rQ:aU}{gS mO:Env}{h2:Hs}{O1 O2:Nat->Option Nat}(a:Fm m venv env h O pV gS h1 O1)(b:Fm m pV gS h1 O1 rQ mO h2 O2):Fm m venv env h O rQ mO h2 O2 where
 le:=aaN a.le b.le
 keep k hk n:=by obtain⟨a1,a2⟩:=a.keep k hk n;obtain⟨b1,b2⟩:=b.keep k (aay hk a.le) a2;exact⟨b1.trans a1,b2⟩
 stay i hi:=by obtain⟨a1,a2,a3,a4⟩:=a.stay i hi;obtain⟨b1,b2,b3,b4⟩:=b.stay i hi;exact⟨b1.trans a1,b2.trans a2,b3.trans a3,λc e=>(b4 c (a1.trans e)).trans (a4 c e)⟩
theorem Fm.g9{m':List Nat}(hm:∀i∈m,i∈m')(a:Fm m venv env h O aM env' h1 O'):Fm m' venv env h O aM env' h1 O':=⟨a.le,a.keep,λi hi=>a.stay i λz=>hi (hm i z)⟩
theorem RF.pre(s:SR A0 h0 venv env h O)(p:h<+:h1)(r:RF A0 h0 m venv env h1 O f h' g):RF A0 h0 m venv env h O f h' g:=by
 cases f<;>cases g<;>first|exact r.elim|exact r|(obtain⟨O',a,b⟩:=r;exact⟨O',a,(Fm.refl s p).trans b⟩)
theorem RF.g9{m':List Nat}(hm:∀i∈m,i∈m')(r:RF A0 h0 m venv env h O f h' g):RF A0 h0 m' venv env h O f h' g:=by
 cases f<;>cases g<;>first|exact r.elim|exact r|(obtain⟨O',a,b⟩:=r;exact⟨O',a,b.g9 hm⟩)
theorem RF.seq{pV:aU}{gS:Env}{O1:Nat->Option Nat}(a:Fm m venv env h O pV gS h1 O1)(r:RF A0 h0 m pV gS h1 O1 f h' g):RF A0 h0 m venv env h O f h' g:=by
 cases f<;>cases g<;>first|exact r.elim|exact r|(obtain⟨O',b,c⟩:=r;exact⟨O',b,a.trans c⟩)
theorem cy{α β γ δ:Type}{R:α -> Hs -> β -> Prop}{R':γ -> Hs -> δ -> Prop}{mm:M β}{f:β -> M δ}{p:Pr α}{F:α -> Pr γ}(s:SR A0 h0 venv env h O)(r:Rel (Al A0 O) h R (mm h) p)(k:∀a h1 b,h<+:h1->R a h1 b->je A0 h0 R' (f b h1) (F a)):je A0 h0 R' (bnd mm f h) (pb p F):=by
 unfold bnd;cases p with
 |ok a=>obtain⟨b,h1,e,q,r⟩:=r;rw[e];exact k a h1 b q r
 |exc c es=>obtain⟨ws,h1,e,q,r⟩:=r;rw[e];exact⟨ws,h1,rfl,s.pre.trans q,r.g9 λ_ z=>z.1⟩
 |no=>trivial
theorem bM{α β:Type}{R:α -> Hs -> β -> Prop}{a:α}{b:β}(r:R a h b):je A0 h0 R (ret b h) (.ok a):=⟨b,h,rfl,r⟩
theorem kq{α β:Type}{R R':α -> Hs -> β -> Prop}{o:Out β}{p:Pr α}(r:je A0 h0 R o p)(k:∀a h' b,R a h' b->R' a h' b):je A0 h0 R' o p:=by
 cases p with
 |ok a=>obtain⟨b,h',e,r⟩:=r;exact⟨b,h',e,k a h' b r⟩
 |exc c es=>exact r
 |no=>trivial
theorem uJ{α β γ δ:Type}{R:α -> Hs -> β -> Prop}{R':γ -> Hs -> δ -> Prop}{mm:M β}{f:β -> M δ}{p:Pr α}{F:α -> Pr γ}(r:je A0 h0 R (mm h) p)(k:∀a h1 b,R a h1 b->je A0 h0 R' (f b h1) (F a)):je A0 h0 R' (bnd mm f h) (pb p F):=by
 unfold bnd;cases p with
 |ok a=>obtain⟨b,h1,e,r⟩:=r;rw[e];exact k a h1 b r
 |exc c es=>obtain⟨ws,h1,e,q,r⟩:=r;rw[e];exact⟨ws,h1,rfl,q,r⟩
 |no=>trivial
theorem lg{α β:Type}{R:α -> Hs -> β -> Prop}{c:Bool}{o:Out β}{p:Pr α}(r:c=true->je A0 h0 R o p):je A0 h0 R o (pg c p):=by
 unfold pg;cases c with
 |true=>rw[aar rfl];exact r rfl
 |false=>rw[aas aaj];trivial
def iF(O:Nat->Option Nat)(i:Nat):Nat->Option Nat:=λj=>if j=i then none else O j
theorem sW:Al A0 O none->Al A0 O none:=id
theorem mP:Al A0 O none->Al A0 O' none:=λh=>⟨h.1,λ_ z=>by cases z⟩
theorem lq{i:Nat}:∀k,Al A0 O k->Al A0 (iF O i) k:=λk ⟨a,b⟩=>⟨a,λj z=>by unfold iF;split;(cases k<;>simp_all);exact b j z⟩
theorem SR.setM(s:SR A0 h0 venv env h O){i:Nat}{mk:Mk}{d v:Val}(hmk:qv mk=true)(q:Dn (Al A0 O) h d v)(qn:Uo mk=true->Dn (Al (Fr h0.length) O) h d v):SR A0 h0 (venv.set i (some (mk,d))) (env.set i (some v)) h (iF O i)/\Fm [i] venv env h O (venv.set i (some (mk,d))) (env.set i (some v)) h (iF O i):=by
 refine⟨⟨by simp[s.len],λj m' d' e hm'=>?_,λj d' e=>?_,λj a e=>?_,λj l a e1 e2=>?_,s.pre,s.up⟩,aaw _,λk hk n=>⟨rfl,λj=>?_⟩,λj hj=>?_⟩
 ·by_cases hij:i=j
  ·subst hij
   have hi:i<venv.length:=by have:=(aao.mp e).1;simpa using this
   rw[aat hi]at e;cases e;exact⟨v,by rw[aat (by rw[<-s.len];exact hi)],q.g9 lq,λz=>(qn z).g9 lq⟩
  ·rw[aan hij]at e;rw[aan hij];obtain⟨w,k1,k2,k3⟩:=s.sh j m' d' e hm';exact⟨w,k1,k2.g9 lq,λz=>(k3 z).g9 lq⟩
 ·by_cases hij:i=j
  ·subst hij
   have hi:i<venv.length:=by have:=(aao.mp e).1;simpa using this
   rw[aat hi]at e;cases e;cases hmk
  ·rw[aan hij]at e;rw[aan hij];obtain⟨a,k2,k3,k4⟩:=s.ow j d' e;exact⟨a,k2,by unfold iF;rw[aas (λz=>hij z.symm)];exact k3,k4.mono (λ_ g=>g) λ_ _ z=>z.g9 lq⟩
 ·unfold iF at e
  split at e
  ·cases e
  ·rename_i hj;obtain⟨k1,k2,d',k3⟩:=s.own j a e;exact⟨k1,k2,d',by rw[aan (λz=>hj z.symm)];exact k3⟩
 ·unfold iF at e1 e2
  split at e1
  ·cases e1
  ·split at e2
   ·cases e2
   ·exact s.inj j l a e1 e2
 ·unfold iF;split;simp;exact n j
 ·have hj':j≠i:=by simpa using hj
  exact⟨by unfold iF;rw[aas hj'],aan (λz=>hj' z.symm),aan (λz=>hj' z.symm),λ_ _=>rfl⟩
theorem SR.set(s:SR A0 h0 venv env h O){i:Nat}(q:Dn (Al A0 O) h d v):SR A0 h0 (venv.set i (some (.sh,d))) (env.set i (some v)) h (iF O i)/\Fm [i] venv env h O (venv.set i (some (.sh,d))) (env.set i (some v)) h (iF O i):=s.setM rfl q λz=>nomatch z
theorem SR.binds:∀{is:List Nat} {ds vs:List Val} {venv:aU} {env:Env} {O:Nat->Option Nat} {aM:aU},SR A0 h0 venv env h O->cT is ds venv=some aM->av (Al A0 O) h ds vs ->
  ∃env' O',bindAll is vs env=some env'/\SR A0 h0 aM env' h O'/\Fm is venv env h O aM env' h O'
 | [],[],vs,venv,env,O,aM,s,e,q=>by
  rw[av]at q;subst q;simp only[cT]at e;cases e;exact⟨env,O,rfl,s,Fm.refl s (aaL _)⟩
 | i::is,d::ds,vs,venv,env,O,aM,s,e,q=>by
  rw[av]at q;obtain⟨v,r,rfl,q1,q2⟩:=q;simp only[cT]at e;obtain⟨s1,f1⟩:=s.set (i:=i) q1;obtain⟨env',O',b1,b2,b3⟩:=SR.binds s1 e (q2.g9 lq);refine⟨env',O',by simp only[bindAll];exact b1,b2,(f1.g9 λj hj=>?_).trans (b3.g9 λj hj=>aal _ hj)⟩;rw[aaF.mp hj];exact aam
 |[],_::_,_,_,_,_,_,_,e,_=>by simp[cT]at e
 |_::_,[],_,_,_,_,_,_,e,_=>by simp[cT]at e
theorem SR.bind(s:SR A0 h0 venv env h O)(e:cF p d venv=some aM)(q:Dn (Al A0 O) h d v):∃env' O',gp p v env=some env'/\SR A0 h0 aM env' h O'/\Fm (stored p) venv env h O aM env' h O':=by
 cases p with
 |one i=>simp only[cF]at e;cases e;obtain⟨s1,f1⟩:=s.set (i:=i) q;exact⟨_,_,rfl,s1,f1⟩
 |tup is=>
  cases d<;>simp only[cF]at e<;>first|(cases e;done)|skip
  rw[Dn]at q;obtain⟨vs,rfl,q⟩:=q;exact s.binds e q
theorem Nt{a:Nat}(p:h0<+:h)(ha:h0.length<=a):h0<+:h.set a o:=by
 obtain⟨t,rfl⟩:=p;rw[List.set_append_right _ _ ha];exact aa7 _ _
theorem SR.put(s:SR A0 h0 venv env h O){i a:Nat}{d d1:Val}(e:venv[i]?=some (some (.ow,d)))(ha:O i=some a)(q:OB (Al A0 O) h d1 ob) :
  SR A0 h0 (venv.set i (some (.ow,d1))) env (h.set a ob) O/\Fm [i] venv env h O (venv.set i (some (.ow,d1))) env (h.set a ob) O:=by
 obtain⟨o1,o2,_⟩:=s.own i a ha;have hi:i<venv.length:=(aao.mp e).1;have mv:∀{A0:AP} (k:Nat) (o:Ob),Al A0 O k->h[k]?=some o->Al A0 O k/\(h.set a ob)[k]?=some o:=λk o hk g=>⟨hk,by rw[aan λz=>hk.2 i rfl (by rw[<-z];exact ha)];exact g⟩;obtain⟨a0,e2,e3,_⟩:=s.ow i d e;refine⟨⟨by simp[s.len],λj m' d' ej hm'=>?_,λj d' ej=>?_,λj b ej=>?_,s.inj,Nt s.pre o1,s.up⟩,by simp,λk hk n=>⟨?_,n⟩,λj hj=>?_⟩
 ·by_cases hij:i=j
  ·subst hij;rw[aat hi]at ej;cases ej;cases hm'
  ·rw[aan hij]at ej;obtain⟨w,k1,k2,k3⟩:=s.sh j m' d' ej hm';exact⟨w,k1,Dn.move sW mv _ _ k2,λz=>Dn.move sW mv _ _ (k3 z)⟩
 ·by_cases hij:i=j
  ·subst hij;rw[aat hi]at ej;cases ej;rw[ha]at e3;cases e3;exact⟨a,e2,ha,q.od (by rw[aat o2]) λ_ _ z=>av.move sW mv _ _ z⟩
  ·rw[aan hij]at ej;obtain⟨a1,k2,k3,k4⟩:=s.ow j d' ej;have:a≠a1:=λz=>hij (s.inj i j a ha (by rw[z];exact k3));exact⟨a1,k2,k3,k4.mono (λ_ g=>by rw[aan this];exact g) λ_ _ z=>av.move sW mv _ _ z⟩
 ·obtain⟨k1,k2,d',k3⟩:=s.own j b ej
  refine⟨k1,by simp[k2],?_⟩
  by_cases hij:i=j
  ·subst hij;exact⟨_,by rw[aat hi]⟩
  ·exact⟨d',by rw[aan hij];exact k3⟩
 ·rw[aan λz=>n i (by rw[<-z];exact ha)]
 ·have hj':j≠i:=by simpa using hj
  exact⟨rfl,aan (λz=>hj' z.symm),rfl,λb eb=>by rw[aan λz=>hj' (s.inj j i b eb (by rw[<-z];exact ha))]⟩
def vO(O:Nat->Option Nat)(i a:Nat):Nat->Option Nat:=λj=>if j=i then some a else O j
theorem SR.fresh(s:SR A0 h0 venv env h O){i:Nat}{d1:Val}{h2:Hs}(p:h<+:h2)(q:OB (Al A0 O) h2 d1 ob) :
  SR A0 h0 (venv.set i (some (.ow,d1))) (env.set i (some (.ref h2.length))) (h2++[ob]) (if i<venv.length then vO O i h2.length else iF O i) /\
   Fm [i] venv env h O (venv.set i (some (.ow,d1))) (env.set i (some (.ref h2.length))) (h2++[ob]) (if i<venv.length then vO O i h2.length else iF O i):=by
 have pp:h<+:h2++[ob]:=p.trans (aa7 _ _);have s2:=s.ext p;have mv:∀{A0:AP} (j:Nat),∀(k:Nat) (o:Ob),Al A0 O k->h2[k]?=some o->Al A0 (if i<venv.length then vO O i h2.length else iF O i) k/\(h2++[ob])[k]?=some o:=λ{A0} j k o hk g=>by
  have hlt:k<h2.length:=(aao.mp g).1;refine⟨?_,by rw[aax hlt];exact g⟩
  split
  ·refine⟨hk.1,λl _=>?_⟩
   unfold vO
   split
   ·intro z;cases z;omega
   ·exact hk.2 l rfl
  ·exact lq k hk
 by_cases hi:i<venv.length
 ·rw[aar hi]at mv |-
  refine⟨⟨by simp[s.len],λj m' d' ej hm'=>?_,λj d' ej=>?_,λj b ej=>?_,λj l b e1 e2=>?_,s.pre.trans pp,s.up⟩,pp.length_le,λk hk n=>⟨gR pp hk,λl=>?_⟩,λj hj=>?_⟩
  ·by_cases hij:i=j
   ·subst hij;rw[aat hi]at ej;cases ej;cases hm'
   ·rw[aan hij]at ej;rw[aan hij];obtain⟨w,k1,k2,k3⟩:=s2.sh j m' d' ej hm';exact⟨w,k1,Dn.move mP (mv 0) _ _ k2,λz=>Dn.move mP (mv 0) _ _ (k3 z)⟩
  ·by_cases hij:i=j
   ·subst hij;rw[aat hi]at ej;cases ej;exact⟨h2.length,by rw[aat (by rw[<-s.len];exact hi)],by unfold vO;rw[aar rfl],q.od (by simp) λ_ _ z=>av.move mP (mv 0) _ _ z⟩
   ·rw[aan hij]at ej;rw[aan hij];obtain⟨a1,k2,k3,k4⟩:=s2.ow j d' ej;have hlt:a1<h2.length:=k4.lt;exact⟨a1,k2,by unfold vO;rw[aas λz=>hij z.symm];exact k3,k4.mono (λ_ g=>by rw[aax hlt];exact g) λ_ _ z=>av.move mP (mv 0) _ _ z⟩
  ·unfold vO at ej
   split at ej
   ·rename_i hj;cases ej;subst hj;exact⟨aaN s.pre.length_le p.length_le,by simp,_,by rw[aat hi]⟩
   ·rename_i hj;obtain⟨k1,k2,d',k3⟩:=s2.own j b ej;exact⟨k1,by simp;omega,d',by rw[aan λz=>hj z.symm];exact k3⟩
  ·unfold vO at e1 e2
   split at e1
   ·rename_i h1;cases e1
    split at e2
    ·rename_i h3;rw[h1,h3]
    ·have:=(s2.own l _ e2).2.1;omega
   ·split at e2
    ·cases e2;have:=(s2.own j _ e1).2.1;omega
    ·exact s.inj j l b e1 e2
  ·unfold vO;split
   ·intro z;cases z;have:=p.length_le;omega
   ·exact n l
  ·have hj':j≠i:=by simpa using hj
   exact⟨by unfold vO;rw[aas hj'],aan (λz=>hj' z.symm),aan (λz=>hj' z.symm),λb eb=>gR pp (s.own j b eb).2.1⟩
 ·rw[aas hi]at mv |-
  have e1:venv.set i (some (.ow,d1))=venv:=List.set_eq_of_length_le (by omega);have e2:env.set i (some (.ref h2.length))=env:=List.set_eq_of_length_le (by rw[<-s.len];omega);have e3:iF O i=O:=by
   funext j;unfold iF;split
   ·rename_i hj;subst hj
    cases e:O j with
    |none=>rfl
    |some a=>obtain⟨_,_,d,k⟩:=s.own j a e;exact absurd (aao.mp k).1 hi
   ·rfl
  rw[e1,e2,e3];exact⟨s.ext pp,Fm.refl s pp⟩
end
section
variable {Φ:Nat->List Val->M Val} {Ψ:Nat->List Val->Pr FV} {A:AP} {h h1:Hs}
def isRef:Val->Bool
 |.rl _=>true
 |.dc _ _=>true
 |_=>false
def RN(A:AP)(h:Hs):FV->Hs->Val->Prop:=λx h' v=>isRef x.2=true->∃h2 o,h'=h2++[o]/\v=.ref h2.length/\h<+:h2/\OB A h2 x.2 o
def O7(Φ:Nat->List Val->M Val)(Ψ:Nat->List Val->Pr FV)(ir:IE):Prop:=∀(venv:aU) (env:Env) (A:AP) (h:Hs),Up A h->ER A venv env h->Rel A h (RN A h) (aN Φ ir env h) (bA Ψ ir venv)
theorem mQ{f:Bool}{h0:Hs}(p:h0<+:h)(q:av A h xs vs):Rel A h (RN A h0) (new (.lst vs) h) (.ok (f,.rl xs)) :=
 ⟨_,_,rfl,eX _,λ_=>⟨h,.lst vs,rfl,rfl,p,vs,rfl,q⟩⟩
theorem Sa:O7 Φ Ψ .dct0:=λvenv env A h u e=>by
 rw[aN,bA];exact⟨_,_,rfl,eX _,λ_=>⟨h,.dct [],rfl,rfl,aaL _,[],rfl,rfl,av.nil⟩⟩
theorem Sb(hk:bV Φ Ψ k)(hv:bV Φ Ψ v):O7 Φ Ψ (.dct1 k v):=λvenv env A h u e=>by
 rw[aN,bA];refine ah (hk venv env A h u e) λx h1 w p1 q1=>ah (R:=λkk _ kk'=>kk'=kk) (bz λkk ek=>⟨kk,Ce q1.1 ek,rfl⟩) λkk h2 kk' p2 hkk=>?_;subst hkk;refine ah (hv venv env A h2 ((u.ext p1).ext p2) ((e.ext p1).ext p2)) λy h3 z p3 q3=>?_;exact⟨_,_,rfl,eX _,λ_=>⟨h3,.dct [(kk',z)],rfl,rfl,(p1.trans p2).trans p3,[(kk',z)],rfl,rfl,av.cons q3.1 av.nil⟩⟩
theorem WG(hs:n6 Φ Ψ es):O7 Φ Ψ (.lst es):=λvenv env A h u e=>by
 rw[aN,bA];exact ah (hs.1 venv env A h u e) λx h1 vs p1 q1=>cI (λz=>by rw[<-q1.1.length];exact z) λ_=>mQ p1 q1.1
theorem WH(ha:bV Φ Ψ a)(hl:bV Φ Ψ lo)(hh:bV Φ Ψ hi):O7 Φ Ψ (.slc a lo hi):=λvenv env A h u e=>by
 rw[aN,bA];refine ah (oQ ha u e) λx h1 v p1 q1=>ah (pT hl (u.ext p1) (e.ext p1)) λl h2 l' p2 el=>ah (pT hh ((u.ext p1).ext p2) ((e.ext p1).ext p2)) λr h3 r' p3 er=>?_;subst el;subst er;have q1:=DB.ext (p2.trans p3) q1;obtain⟨f,d⟩:=x;cases d with
 |tup ds=>obtain⟨vs,rfl,q⟩:=DB.tup q1;have l:=q.length;simp only[Cd,vK];exact cI (λz=>by rw[l]at z;exact z) λ_=>aF λe=>by cases e
 |rl ds=>
  obtain⟨vs,e1,q⟩:=DB.lst q1;have ev:vK v l' r' h3=new (.lst (dX vs l' r')) h3:=by
   have:vK v l' r'=bnd (ask λh=>aB h v) λxs=>new (.lst (dX xs l' r')):=by cases v<;>simp only[aB]at e1<;>first|(cases e1;done)|rfl
   rw[this];unfold bnd ask bB;dsimp only;rw[e1]
  rw[ev];exact mQ ((p1.trans p2).trans p3) (q.cut l' r')
 |_=>trivial
theorem Sd(hs:n6 Φ Ψ es):O7 Φ Ψ (.blt .list es):=λvenv env A h u e=>by
 rw[aN,bA];refine ah (hs.2 venv env A h u e) λds h1 vs p1 q1=>?_
 match ds,q1 with
 |[],q1=>trivial
 |[d],q1=>obtain⟨v,rfl,hv⟩:=q1.one;exact ah (R:=λxs h' ws=>av A h' xs ws) (cu λxs e=>hv.seq e) λxs h2 ws p2 q=>mQ (p1.trans p2) q
 |_::_::_,_=>trivial
theorem IQ(hs:n6 Φ Ψ es):O7 Φ Ψ (.blt .sorted es):=λvenv env A h u e=>by
 rw[aN,bA];refine ah (hs.2 venv env A h u e) λds h1 vs p1 q1=>?_
 match ds,q1 with
 |[],q1=>trivial
 |[d],q1=>
  obtain⟨v,rfl,hv⟩:=q1.one;cases d<;>first|trivial|skip
  rename_i xs;obtain⟨ws,e1,q⟩:=hv.lst;have ev:bnd (ask λh=>aB h v) (λxs=>bnd (bB (gO xs)) λys=>new (.lst ys)) h1=bnd (bB (gO ws)) (λys=>new (.lst ys)) h1:=by unfold bnd ask bB;dsimp only;rw[e1]
  show Rel A h1 (RN A h) (bnd (ask λh=>aB h v) (λxs=>bnd (bB (gO xs)) λys=>new (.lst ys)) h1) _;rw[ev];refine ah (R:=λys _ zs=>zs=ys/\b6 ys=true) (bz λys e=>?_) λys h2 zs p2 hz=>?_
  ·obtain⟨i1,i2⟩:=xg e;rw[(aZ xs ws i1).mp q];exact⟨ys,e,rfl,i2⟩
  ·obtain⟨rfl,hi⟩:=hz;exact mQ (p1.trans p2) ((aZ _ _ hi).mpr rfl)
 |x::_::_,_=>cases x<;>trivial
theorem Se(hs:n6 Φ Ψ it)(hc:bV Φ Ψ c)(he:bV Φ Ψ elt):O7 Φ Ψ (.comp N js pat k it c elt):=λvenv env A h u e=>by
 rw[aN,bA];refine ah (hs.2 venv env A h u e) λds h1 vs p1 q1=>ah (Dq q1) λxs h2 src p2 q2=>?_;obtain⟨ws,q3,q4⟩:=q2;have l:=q3.length;have ev:∀(F:List Val->M Val),bnd (ask λh=>src.items h) F h2=F ws h2:=λF=>by unfold bnd ask bB;dsimp only;rw[q4 h2 (aaL _)]
 rw[ev];refine cI (λz=>by rw[<-l];exact z) λ_=>?_;have u2:=(u.ext p1).ext p2;have e2:=(e.ext p1).ext p2;refine ah (uI (hb:=h) xs ws 0 [] h2 (p1.trans p2) u2 q4 rfl q3 λx v h' p' qx=>?_) λp h3 ys p3 hp=>?_
 ·refine ah (R:=λaM _ env'=>∃_:ER A aM env' h',True) (bz λaM ev'=>?_) λaM h4 env' p4 he'=>?_
  ·obtain⟨env',a1,a2⟩:=Ai ev' qx (Ds (e2.ext p')) (by simp[di,mG]);exact⟨env',a1,a2,trivial⟩
  ·obtain⟨er,_⟩:=he'
   have er:=er.ext p4;have u4:=(u2.ext p').ext p4;have RG:Rel A h4 (λt _ t'=>t'=t) ((if eW c=true then ret true else bnd (aN Φ c env') λv=>ask λh=>dI h v) h4) (if eW c=true then .ok true else pb (bA Ψ c aM) λv=>pl (dI [] v.2)):=by
    by_cases hn:eW c=true
    ·rw[aar hn,aar hn];exact aF rfl
    ·rw[aas hn,aas hn];exact ah (hc aM env' A h4 u4 er) λy h5 w p5 q5=>cu λt et=>⟨t,uD q5.br et,rfl⟩
   refine ah RG λt h5 t' p5 et=>?_;subst et;cases t' with
   |true=>rw[aar rfl,aar rfl];exact ah (he aM env' A h5 (u4.ext p5) (er.ext p5)) λy h6 w p6 q6=>aF (q6.up ((p1.trans p2).trans (p'.trans (p4.trans p5))))
   |false=>rw[aas aaj,aas aaj];exact aF trivial
 ·obtain⟨zs,rfl,z1,z2⟩:=hp;exact mQ ((p1.trans p2).trans p3) z1
theorem WI(hΦ:∀j,Imp (Φ j) (Ψ j))(hf:ZG e=true)(ho:dM e=true):O7 Φ Ψ e:=by
 have V:=v_all hΦ;cases e<;>first|(cases hf;done)|skip
 ·exact WG (V.2 _ ho)
 ·have ho:=vN ho;exact WH (V.1 _ ho.1.1) (V.1 _ ho.1.2) (V.1 _ ho.2)
 ·rename_i b es
  change pU _=true at ho;cases b<;>first|(cases hf;done)|skip
  ·exact IQ (V.2 _ ho)
  ·exact Sd (V.2 _ ho)
 ·have ho:=vN ho;exact Se (V.2 _ ho.1.1) (V.1 _ ho.1.2) (V.1 _ ho.2)
 ·exact Sa
 ·have ho:=cU ho;exact Sb (V.1 _ ho.1) (V.1 _ ho.2)
mutual
noncomputable def ZK:IS->Bool
 |.expr e=>dM e
 |.asg _ e=>dM e
 |.aug _ _ e=>dM e
 |.ig o i v=>dM o&&dM i&&dM v
 |.iff c a b=>dM c&&uK a&&uK b
 |.for _ _ it b=>pU it&&uK b
 |.whl _ c b=>dM c&&uK b
 |.ret e=>dM e
 |_=>true
noncomputable def uK:bY->Bool
 |.nil=>true
 |.cons s r=>ZK s&&uK r
end
def mS(s:IS):List Nat:=yw s++sE s
def Nu(s:bY):List Nat:=kh s++ou s
variable {ms:List Nat}
def Dt(Φ:Nat->List Val->M Val)(Ψ:Nat->List Val->Pr FV)(ms:List Nat)(s:IS):Prop:=∀(A0:AP) (h0:Hs) (venv:aU) (env:Env) (h:Hs) (O:Nat->Option Nat),SR A0 h0 venv env h O->je A0 h0 (RF A0 h0 (mS s) venv env h O) (iw Φ s env h) (bH Ψ ms s venv)
def vP(Φ:Nat->List Val->M Val)(Ψ:Nat->List Val->Pr FV)(ms:List Nat)(s:bY):Prop:=∀(A0:AP) (h0:Hs) (venv:aU) (env:Env) (h:Hs) (O:Nat->Option Nat),SR A0 h0 venv env h O->je A0 h0 (RF A0 h0 (Nu s) venv env h O) (gm Φ s env h) (aD Ψ ms s venv)
theorem IT(he:bV Φ Ψ e)(hx:∀venv,bH Ψ ms (.expr e) venv=pb (bA Ψ e venv) λ_=>.ok (.nx venv)):Dt Φ Ψ ms (.expr e):=λA0 h0 venv env h O s=>by
 rw[iw,hx];exact cy s (he venv env _ h s.Fe s.er) λx h1 v p1 q1=>bM ⟨O,s.ext p1,Fm.refl s p1⟩
theorem aJ{α β γ:Type}(m:M α)(f:α -> M β)(g:β -> M γ):bnd (bnd m f) g=bnd m λx=>bnd (f x) g:=by
 funext h;show (match (match m h with|.ok a h'=>f a h'|.exc c vs h'=>.exc c vs h'|.no=>.no) with|.ok a h'=>g a h'|.exc c vs h'=>.exc c vs h'|.no=>.no)=(match m h with|.ok a h'=>bnd (f a) g h'|.exc c vs h'=>.exc c vs h'|.no=>.no);cases m h<;>rfl
theorem aG{α β:Type}{m:M α}{f:α -> M β}{a:α}{h h1:Hs}(e:m h=.ok a h1):bnd m f h=f a h1:=by unfold bnd;rw[e]
theorem cJ{i:Nat}(e:env[i]?=some (some v)):aN Φ (.var i) env h=.ok v h:=by rw[aN,e];rfl
theorem Ff{i:Nat}(ha:bV Φ Ψ a):Dt Φ Ψ ms (.expr (.met .append (.var i) #[a])):=λA0 h0 venv env h O s=>by
 rw[iw,bH];try dsimp only
 split
 ·rename_i ds hv
  obtain⟨b,e2,e3,vs,e4,e5⟩:=s.ow i _ hv;have ev:bnd (aN Φ (.met .append (.var i) #[a]) env) (λ_=>ret (Fl.nx env)) h=bnd (aN Φ a env) (λv=>bnd (met .append (.ref b) [v]) λ_=>ret (Fl.nx env)) h:=by
   rw[aN,aJ,aG (cJ e2)];rw[aJ,aG (a:=()) (h1:=h) (by unfold ask bB;simp[recv,e4])];rw[aJ,bu,aJ]
   congr 1
  rw[ev];refine cy s (ha venv env _ h s.Fe s.er) λx h1 v p1 q1=>lg λhg=>?_;have s1:=s.ext p1;obtain⟨s2,f2⟩:=s1.put (d1:=.rl (ds++[x.2])) (ob:=.lst (vs++[v])) hv e3 ⟨_,rfl,(e5.ext p1).append (av.cons q1.1 av.nil)⟩;have l:=e5.length;refine⟨.nx env,h1.set b (.lst (vs++[v])),?_,O,s2,(Fm.refl s p1).trans (f2.g9 λj hj=>?_)⟩
  ·have g:=cC p1 e4;unfold met bnd ask bB aR put ret;dsimp only;rw[g];dsimp only;rw[aar (by rw[<-l];exact hg)]
  ·rw[aaF.mp hj];exact aaX _ aam
 ·trivial
theorem Fg{i:Nat}(ha:bV Φ Ψ a):Dt Φ Ψ ms (.expr (.met .extend (.var i) #[a])):=λA0 h0 venv env h O s=>by
 rw[iw,bH];try dsimp only
 split
 ·rename_i ds hv
  obtain⟨b,e2,e3,vs,e4,e5⟩:=s.ow i _ hv;have ev:bnd (aN Φ (.met .extend (.var i) #[a]) env) (λ_=>ret (Fl.nx env)) h=bnd (aN Φ a env) (λv=>bnd (met .extend (.ref b) [v]) λ_=>ret (Fl.nx env)) h:=by
   rw[aN,aJ,aG (cJ e2)];rw[aJ,aG (a:=()) (h1:=h) (by unfold ask bB;simp[recv,e4])];rw[aJ,bu,aJ]
   congr 1
  rw[ev];refine cy s (ha venv env _ h s.Fe s.er) λx h1 v p1 q1=>?_;obtain⟨f,d⟩:=x;cases d<;>first|trivial|skip
  rename_i ts;have q:=q1.1;dsimp only at q;rw[Dn]at q;obtain⟨ws,rfl,q⟩:=q;refine lg λhg=>?_;have s1:=s.ext p1;obtain⟨s2,f2⟩:=s1.put (d1:=.rl (ds++ts)) (ob:=.lst (vs++ws)) hv e3 ⟨_,rfl,(e5.ext p1).append q⟩;have l:=e5.length;have l2:=q.length;refine⟨.nx env,h1.set b (.lst (vs++ws)),?_,O,s2,(Fm.refl s p1).trans (f2.g9 λj hj=>?_)⟩
  ·have g:=cC p1 e4;unfold met bnd ask bB aR put ret CO;dsimp only;rw[g];dsimp only;rw[aar (by rw[<-l,<-l2];exact hg)]
  ·rw[aaF.mp hj];exact aaX _ aam
 ·trivial
theorem Nv(hΦ:∀j,Imp (Φ j) (Ψ j))(ho:dM e=true):Dt Φ Ψ ms (.expr e):=by
 have V:=v_all hΦ;have gen:(∀venv,bH Ψ ms (.expr e) venv=pb (bA Ψ e venv) λ_=>.ok (.nx venv))->Dt Φ Ψ ms (.expr e):=λhx=>IT (V.1 e ho) hx;cases e with
 |met m a es=>
  cases m with
  |join=>exact gen λvenv=>by first|rfl|(rw[bH]<;>(intros;simp_all))
  |append=>
   cases a with
   |var i=>
    cases es with
    |nil=>exact gen λvenv=>by first|rfl|(rw[bH]<;>(intros;simp_all))
    |cons x r=>
     cases r with
     |nil=>exact Ff (V.1 x (cU (cU ho).2).1)
     |cons _ _=>exact gen λvenv=>by first|rfl|(rw[bH]<;>(intros;simp_all))
   |_=>exact gen λvenv=>by first|rfl|(rw[bH]<;>(intros;simp_all))
  |extend=>
   cases a with
   |var i=>
    cases es with
    |nil=>exact gen λvenv=>by first|rfl|(rw[bH]<;>(intros;simp_all))
    |cons x r=>
     cases r with
     |nil=>exact Fg (V.1 x (cU (cU ho).2).1)
     |cons _ _=>exact gen λvenv=>by first|rfl|(rw[bH]<;>(intros;simp_all))
   |_=>exact gen λvenv=>by first|rfl|(rw[bH]<;>(intros;simp_all))
 |_=>exact gen λvenv=>by first|rfl|(rw[bH]<;>(intros;simp_all))
end
section
variable {Φ:Nat->List Val->M Val} {Ψ:Nat->List Val->Pr FV} {ms:List Nat}
theorem Nx{i:Nat}{l:List Nat}(h:i∈l):∀j∈[i],j∈l:=λj hj=>by rw[aaF.mp hj];exact h
theorem Sf(hΦ:∀j,Imp (Φ j) (Ψ j))(ho:dM e=true):Dt Φ Ψ ms (.asg p e):=λA0 h0 venv env h O s=>by
 have V:=(v_all hΦ).1 e ho;cases p with
 |one i=>
  rw[iw,bH];try dsimp only
  split
  ·refine lg λhf=>?_
   refine cy s (WI hΦ hf ho venv env _ h s.Fe s.er) λx h1 v p1 q1=>?_;obtain⟨f,d⟩:=x;cases d<;>first|trivial|skip
   ·obtain⟨h2,vs,rfl,rfl,p2,q2⟩:=q1 rfl;obtain⟨s2,f2⟩:=s.fresh (i:=i) p2 q2;exact⟨_,_,rfl,_,s2,f2.g9 (Nx (by simp[mS,sE,stored]))⟩
   ·obtain⟨h2,vs,rfl,rfl,p2,q2⟩:=q1 rfl;obtain⟨s2,f2⟩:=s.fresh (i:=i) p2 q2;exact⟨_,_,rfl,_,s2,f2.g9 (Nx (by simp[mS,sE,stored]))⟩
  ·refine cy s (V venv env _ h s.Fe s.er) λx h1 v p1 q1=>?_
   have hnw:Uo (eF x.1 x.2)=true->Dn (Al (Fr h0.length) O) h1 x.2 v:=λz=>by
    have hx:x.1=true:=by
     unfold eF at z;split at z
     ·rename_i hh;simp only[and_eq_true]at hh;exact hh.1
     ·cases z
    refine(q1.2 hx).g9 λo ho=>?_;cases o with
    |none=>exact ho.elim
    |some k=>exact⟨aaN s.pre.length_le ho,λj _ e=>by have:=(s.own j k e).2.1;have ho':h.length<=k:=ho;omega⟩
   have hrd:qv (eF x.1 x.2)=true:=by unfold eF;split<;>rfl
   obtain⟨s2,f2⟩:=(s.ext p1).setM (i:=i) hrd q1.1 hnw;exact⟨_,_,rfl,_,s2,(Fm.refl s p1).trans (f2.g9 (Nx (by simp[mS,sE,stored])))⟩
 |tup is=>
  rw[iw,bH];try dsimp only
  refine lg λhf=>cy s (V venv env _ h s.Fe s.er) λx h1 v p1 q1=>?_;have s1:=s.ext p1;refine cy s1 (R:=λaM h' env'=>∃O',SR A0 h0 aM env' h' O'/\Fm (stored (.tup is)) venv env h1 O aM env' h' O') (bz λaM ev=>?_) λaM h2 env' p2 hh=>?_
  ·obtain⟨env',O',b1,b2,b3⟩:=s1.bind ev q1.1;exact⟨env',b1,O',b2,b3⟩
  ·obtain⟨O',b2,b3⟩:=hh;exact bM ⟨O',b2,(Fm.refl s p1).trans (b3.g9 λj hj=>by simp only[mS,sE];exact aaP _ hj)⟩
theorem Sg{i:Nat}(hΦ:∀j,Imp (Φ j) (Ψ j))(ho:dM e=true):Dt Φ Ψ ms (.aug i o e):=λA0 h0 venv env h O s=>by rw[bH];trivial
theorem Du(k:Key)(l:List (Key×Val)):(l.any λkv=>decide (kv.1=k))=((l.map (·.1)).any λx=>decide (x=k)):=by
 rw[any_map];rfl
theorem Dv(e:Dn A h d v):∀{kvs:List (Key×Val)} {ds:List Val},av A h ds (kvs.map (·.2)) ->
  av A h ((((kvs.map (·.1)).zip ds).map λkv=>if kv.1=k then (kv.1,d) else kv).map (·.2)) ((kvs.map λkv=>if kv.1=k then (kv.1,v) else kv).map (·.2))
 |[],ds,q=>by simp only[map_nil,List.zip_nil_left];exact av.nil
 | (k',v')::kvs,ds,q=>by
  have l:=q.length;cases ds with
  |nil=>simp at l
  |cons d' ds=>
   simp only[map_cons]at q;rw[av]at q;obtain⟨v1,r,e1,q1,q2⟩:=q;cases e1;simp only[map_cons,zip_cons_cons];refine av.cons ?_ (Dv e q2)
   by_cases hk:k'=k
   ·rw[aar hk,aar hk];exact e
   ·rw[aas hk,aas hk];exact q1
theorem rR(k:Key)(d:Val)(l:List (Key×Val)):(l.map λkv=>if kv.1=k then (kv.1,d) else kv).map (·.1)=l.map (·.1):=by
 rw[aaV];refine aba λx _=>?_;show (if x.1=k then (x.1,d) else x).1=x.1
 split<;>rfl
theorem Ny(hk:kvs.map (·.1)=ks)(q:av A h ds (kvs.map (·.2)))(e:Dn A h d v) :
  (jD kvs k v).map (·.1)=(jD (ks.zip ds) k d).map (·.1)/\av A h ((jD (ks.zip ds) k d).map (·.2)) ((jD kvs k v).map (·.2)):=by
 subst hk;have l:=q.length;rw[aak]at l;have z1:((kvs.map (·.1)).zip ds).map (·.1)=kvs.map (·.1):=List.map_fst_zip (by rw[aak];omega);have z2:((kvs.map (·.1)).zip ds).map (·.2)=ds:=List.map_snd_zip (by rw[aak];omega);unfold jD;rw[Du,Du,z1]
 split
 ·rw[rR,rR,z1];exact⟨rfl,Dv e q⟩
 ·rw[aaU,aaU,aaU,aaU,z1,z2];exact⟨rfl,q.append (av.cons e av.nil)⟩
theorem Nz(hΦ:∀j,Imp (Φ j) (Ψ j))(ho:dM o=true)(hi:dM i=true)(hv:dM v=true):Dt Φ Ψ ms (.ig o i v):=λA0 h0 venv env h O s=>by
 have V:=(v_all hΦ).1;cases o with
 |var j=>
  rw[iw,bH];refine cy s (V v hv venv env _ h s.Fe s.er) λx h1 w p1 q1=>?_;have s1:=s.ext p1
  split
  ·rename_i ks ds hj
   obtain⟨b,e2,e3,kvs,e4,ek,e5⟩:=s1.ow j _ hj;rw[aG (cJ e2)];refine cy s1 (V i hi venv env _ h1 s1.Fe s1.er) λz h2 u p2 q2=>?_;have s2:=s1.ext p2;obtain⟨f,d⟩:=z;have q:=q2.1;dsimp only at q;show je A0 h0 _ _ (pb (pl (keyOf d)) _);cases hk:keyOf d with
   |none=>trivial
   |some kk=>
    have hu:keyOf u=some kk:=by
     cases d<;>simp only[keyOf]at hk<;>first|(cases hk;done)|skip
     all_goals (rw[Dn]at q;subst q;exact hk)
    show je A0 h0 _ _ (pg _ _);refine lg λhl=>?_;have g:=cC p2 e4;obtain⟨k1,k2⟩:=Ny (k:=kk) ek (e5.ext p2) (q1.1.ext p2);obtain⟨s3,f3⟩:=s2.put (d1:=putD ks ds kk x.2) (ob:=.dct (jD kvs kk w)) hj e3 ⟨_,rfl,k1,k2⟩;refine⟨.nx env,h2.set b (.dct (jD kvs kk w)),?_,O,s3,(Fm.refl s (p1.trans p2)).trans (f3.g9 (Nx (by simp[mS,yw])))⟩;have hl':decide (kvs.length<sizeLine)=true:=by rw[<-ek,aak]at hl;exact hl
    simp only[zO];unfold bnd ask bB put ret aR;dsimp only;rw[g];dsimp only;rw[hu];dsimp only;rw[aar hl']
  ·trivial
 |_=>rw[bH]<;>first|trivial|(intros;simp_all)
theorem Sh(hΦ:∀j,Imp (Φ j) (Ψ j))(hc:dM c=true)(ha:vP Φ Ψ ms a)(hb:vP Φ Ψ ms b):Dt Φ Ψ ms (.iff c a b):=λA0 h0 venv env h O s=>by
 have V:=(v_all hΦ).1 c hc;rw[iw,bH];refine cy s (oQ V s.Fe s.er) λx h1 v p1 q1=>?_;have s1:=s.ext p1;refine cy s1 (R:=λt _ t'=>t'=t) (cu λt et=>⟨t,uD q1 et,rfl⟩) λt h2 t' p2 et=>?_;subst et;have s2:=s1.ext p2;cases t' with
 |true=>
  rw[aar rfl,aar rfl];refine kq (ha A0 h0 venv env h2 O s2) λf h' g r=>(r.pre s (p1.trans p2)).g9 λi hi=>?_;simp only[Nu,mS,yw,sE,mem_append]at hi |-
  rcases hi with z|z
  ·exact .inl (.inl z)
  ·exact .inr (.inl z)
 |false=>
  rw[aas aaj,aas aaj];refine kq (hb A0 h0 venv env h2 O s2) λf h' g r=>(r.pre s (p1.trans p2)).g9 λi hi=>?_;simp only[Nu,mS,yw,sE,mem_append]at hi |-
  rcases hi with z|z
  ·exact .inl (.inr z)
  ·exact .inr (.inr z)
def yE(h:Hs)(O:Nat->Option Nat)(m:List Nat)(src:Src)(ws:List Val):Prop :=
 ∀h':Hs,(∀k,k<h.length->(∀i,O i≠some k)->h'[k]?=h[k]?)->(∀i,i∉m->∀a,O i=some a->h'[a]?=h[a]?)->src.items h'=some ws
theorem fu{i:Nat}(e:h[i]?=some (.lst ws)):(Src.live i).items h=some ws:=by simp[Src.items,aB,e]
theorem lu{i:Nat}(e:h[i]?=some (.lst ws)):(Src.enum i).items h=some (ug 0 ws):=by simp[Src.items,aB,e]
theorem Aj{A0:AP}{h0:Hs}{m:List Nat}(hb:∀venv env h O x v,SR A0 h0 venv env h O->Dn (Al A0 O) h x v->je A0 h0 (RF A0 h0 m venv env h O) (body v env h) (bodyV x venv))
  {pV:aU} {gS:Env} {h1:Hs} {O1:Nat->Option Nat} (st:yE h1 O1 m src ws) :
  ∀(xs vs:List Val) (i:Nat) (venv:aU) (env:Env) (h:Hs) (O:Nat->Option Nat),SR A0 h0 venv env h O->Fm m pV gS h1 O1 venv env h O->ws.drop i=vs->av (Al A0 O) h xs vs ->
   je A0 h0 (RF A0 h0 m pV gS h1 O1) (forM src body vs.length i env h) (gA bodyV xs venv)
 | [],vs,i,venv,env,h,O,s,f,hd,q=>by
  rw[av]at q;subst q;have hl:ws.length<=i:=List.drop_eq_nil_iff.mp hd;have hi:=st h (λk hk n=>(f.keep k hk n).1) (λj hj a e=>(f.stay j hj).2.2.2 a e);rw[gA];refine⟨.nx env,h,?_,O,s,f⟩;show forM src body 0 i env h=_;simp only[forM];unfold bnd ask bB aR;dsimp only;rw[hi];dsimp only;rw[aar (decide_eq_true hl)];rfl
 | x::xs,vs,i,venv,env,h,O,s,f,hd,q=>by
  rw[av]at q;obtain⟨v,r,rfl,q1,q2⟩:=q;have hv:ws[i]?=some v:=by have:=aa2 (λl=>l[0]?) hd;simpa using this
  have hr:ws.drop (i+1)=r:=by
   have:ws.drop (i+1)=(ws.drop i).drop 1:=by rw[List.drop_drop]
   rw[this,hd];rfl
  have hi:=st h (λk hk n=>(f.keep k hk n).1) (λj hj a e=>(f.stay j hj).2.2.2 a e);have ev:forM src body (v::r).length i env h=bnd (body v env) (λf=>match f with
   |.nx env'=>forM src body r.length (i+1) env'
   |.ct env'=>forM src body r.length (i+1) env'
   |.bk env'=>ret (.nx env')
   |.rt v=>ret (.rt v)) h:=by
   show forM src body (r.length+1) i env h=_;simp only[forM];unfold bnd ask bB;dsimp only;rw[hi];dsimp only;rw[hv];try rfl
  rw[ev,gA];refine uJ (hb venv env h O x v s q1) λfl h2 gl hr2=>?_;have go:∀aM env' O',SR A0 h0 aM env' h2 O'->Fm m venv env h O aM env' h2 O'->je A0 h0 (RF A0 h0 m pV gS h1 O1) (forM src body r.length (i+1) env' h2) (gA bodyV xs aM):=λaM env' O' s' f'=>by
   refine Aj hb st xs r (i+1) aM env' h2 O' s' (f.trans f') hr (av.move mP (λk o hk g=>?_) _ _ q2);have hlt:k<h.length:=(aao.mp g).1;obtain⟨a1,a2⟩:=f'.keep k hlt λi=>hk.2 i rfl;exact⟨⟨hk.1,λi _=>a2 i⟩,a1.trans g⟩
  cases fl<;>cases gl<;>first|exact hr2.elim|skip
  ·obtain⟨O',s',f'⟩:=hr2;exact go _ _ O' s' f'
  ·exact bM hr2
  ·obtain⟨O',s',f'⟩:=hr2;exact bM ⟨O',s',f.trans f'⟩
  ·obtain⟨O',s',f'⟩:=hr2;exact go _ _ O' s' f'
theorem IU{A0:AP}{m:List Nat}(q:Dn (Al A0 O) h d v)(e:k9 k [d]=some xs):∃src ws,srcOf k [v]=some src/\av (Al A0 O) h xs ws/\src.items h=some ws/\yE h O m src ws:=by
 have lst:∀es,d=.rl es->(∃ws,v=.rl ws/\av (Al A0 O) h es ws)\/∃a ws,v=.ref a/\h[a]?=some (.lst ws)/\av (Al A0 O) h es ws/\∀h':Hs,(∀k,k<h.length->(∀i,O i≠some k)->h'[k]?=h[k]?)->h'[a]?=some (Ob.lst ws):=by
  rintro es rfl;rw[Dn]at q
  rcases q with ⟨ws,rfl,_,q⟩|⟨a,ws,rfl,al,g,q⟩
  ·exact .inl ⟨ws,rfl,q⟩
  ·exact .inr ⟨a,ws,rfl,g,q,λh' hk=>(hk a (aao.mp g).1 λi=>al.2 i rfl).trans g⟩
 cases k with
 |seq=>
  cases d<;>first|(cases e;done)|skip
  ·cases e;rw[Dn]at q;obtain⟨ws,rfl,q⟩:=q;exact⟨.fix ws,ws,rfl,q,rfl,λ_ _ _=>rfl⟩
  ·cases e
   rcases lst _ rfl with ⟨ws,rfl,q'⟩|⟨a,ws,rfl,g,q',st⟩
   ·exact⟨.fix ws,ws,rfl,q',rfl,λ_ _ _=>rfl⟩
   ·exact⟨.live a,ws,rfl,q',fu g,λh' hk _=>fu (st h' hk)⟩
 |range=>
  cases d<;>first|(cases e;done)|skip
  rw[Dn]at q;subst q;rename_i n;change (if inR n=true then some (cB 0 n.toNat) else none)=some _ at e;split at e
  ·rename_i hn;cases e;exact⟨.fix _,_,aar hn,nS,rfl,λ_ _ _=>rfl⟩
  ·cases e
 |enum=>
  cases d<;>first|(cases e;done)|skip
  cases e
  rcases lst _ rfl with ⟨ws,rfl,q'⟩|⟨a,ws,rfl,g,q',st⟩
  ·exact⟨.fix _,_,rfl,ko 0 q',rfl,λ_ _ _=>rfl⟩
  ·exact⟨.enum a,_,rfl,ko 0 q',lu g,λh' hk _=>lu (st h' hk)⟩
 |zip=>cases e
theorem IV{α β γ δ:Type}{R:α -> Hs -> β -> Prop}{R':γ -> Hs -> δ -> Prop}{m:M β}{f:β -> M δ}{p:Pr α}{F:α -> Pr γ}(r:Rel A h R (m h) p)(k:∀a h1 b,p=.ok a->h<+:h1->R a h1 b->Rel A h1 R' (f b h1) (F a)):Rel A h R' (bnd m f h) (pb p F):=by
 unfold bnd;cases p with
 |ok a=>
  obtain⟨b,h1,e,q,r⟩:=r;rw[e];show Rel A h R' (f b h1) (F a);have:=k a h1 b rfl q r;cases e2:F a with
  |ok c=>rw[e2]at this;obtain⟨d,h2,e3,q2,r2⟩:=this;exact⟨d,h2,e3,q.trans q2,r2⟩
  |exc c es=>rw[e2]at this;obtain⟨d,h2,e3,q2,r2⟩:=this;exact⟨d,h2,e3,q.trans q2,r2⟩
  |no=>trivial
 |exc c es=>obtain⟨ws,h1,e,q,r⟩:=r;rw[e];exact⟨ws,h1,rfl,q,r⟩
 |no=>trivial
theorem IW{e e2:IE}(h:eG Ψ (.cons e (.cons e2 r)) venv=.ok ds):2<=ds.length:=by
 rw[eG,eG]at h;cases h1:(if isVar e=true then pl (j3 venv e) else bA Ψ e venv) with
 |ok a=>
  rw[h1]at h;cases h2:(if isVar e2=true then pl (j3 venv e2) else bA Ψ e2 venv) with
  |ok b=>
   rw[h2]at h;cases h3:eG Ψ r venv with
   |ok c=>rw[h3]at h;cases h;simp
   |exc _ _=>rw[h3]at h;cases h
   |no=>rw[h3]at h;cases h
  |exc _ _=>rw[h2]at h;cases h
  |no=>rw[h2]at h;cases h
 |exc _ _=>rw[h1]at h;cases h
 |no=>rw[h1]at h;cases h
theorem IX{d1 d2:Val}(ex:k9 k [d1,d2]=some xs):k=.range/\∃n m,d1=.int n/\d2=.int m/\(inR n&&inR m)=true/\xs=cB n (m-n).toNat:=by
 cases k with
 |seq=>cases d1<;>cases ex
 |enum=>cases d1<;>cases ex
 |zip=>cases ex
 |range=>
  cases d1<;>first|(cases ex;done)|skip
  cases d2<;>first|(cases ex;done)|skip
  rename_i n m;change (if (inR n&&inR m)=true then some (cB n (m-n).toNat) else none)=some xs at ex
  by_cases hn:(inR n&&inR m)=true
  ·rw[aar hn]at ex;cases ex;exact⟨rfl,n,m,rfl,rfl,hn,rfl⟩
  ·rw[aas hn]at ex;cases ex
theorem Cf{d1 d2 d3:Val}:k9 k (d1::d2::d3::r)=none:=by
 cases k with
 |seq=>cases d1<;>rfl
 |enum=>cases d1<;>rfl
 |zip=>rfl
 |range=>cases d1<;>first|rfl|(cases d2<;>rfl)
theorem NB{A0:AP}{h0:Hs}{m:List Nat}(hΦ:∀j,Imp (Φ j) (Ψ j))(hi:pU it=true)(s:SR A0 h0 venv env h O)(hm:∀i,it=.cons (.var i) .nil->i∉m) :
  Rel (Al A0 O) h (λxs h' src=>∃ws,av (Al A0 O) h' xs ws/\src.items h'=some ws/\yE h' O m src ws) (bnd (bu Φ it env) (λits=>bB (srcOf k its)) h) (pb (eG Ψ it venv) λits=>pl (k9 k its)):=by
 have V:=v_all hΦ;cases it with
 |nil=>rw[eG];cases k<;>trivial
 |cons e es=>
  cases es with
  |nil=>
   replace hi:=cU hi
   by_cases hv:isVar e=true
   ·cases e<;>first|(cases hv;done)|skip
    rename_i i;rw[eG,eG,aar hv];simp only[j3];cases hx:venv[i]? with
    |none=>trivial
    |some o=>
     cases o with
     |none=>trivial
     |some fd=>
      obtain⟨f,d⟩:=fd;show Rel _ _ _ _ (pl (k9 k [d]));cases hf:qv f with
      |false=>
       have hf:f=.ow:=by cases f<;>first|rfl|cases hf
       subst hf;obtain⟨a,e2,e3,e4⟩:=s.ow i d hx;have ev:bnd (bu Φ #[.var i] env) (λits=>bB (srcOf k its)) h=bB (srcOf k [.ref a]) h:=by rw[bu,bu,aJ,aG (cJ e2)];rfl
       rw[ev];refine bz λxs ex=>?_;have hd:∃ds,d=.rl ds:=by cases d<;>first|exact⟨_,rfl⟩|exact False.elim e4|(cases k<;>cases ex)
       obtain⟨ds,rfl⟩:=hd;obtain⟨vs,e4,e5⟩:=e4;have st:∀h':Hs,(∀i,i∉m->∀a,O i=some a->h'[a]?=h[a]?)->h'[a]?=some (Ob.lst vs):=λh' hs=>(hs i (hm i rfl) a e3).trans e4;cases k with
       |seq=>cases ex;exact⟨.live a,rfl,vs,e5,fu e4,λh' _ hs=>fu (st h' hs)⟩
       |range=>cases ex
       |enum=>cases ex;exact⟨.enum a,rfl,_,ko 0 e5,lu e4,λh' _ hs=>lu (st h' hs)⟩
       |zip=>cases ex
      |true=>
       obtain⟨v,e1,e2,_⟩:=s.sh i f d hx hf;have ev:bnd (bu Φ #[.var i] env) (λits=>bB (srcOf k its)) h=bB (srcOf k [v]) h:=by rw[bu,bu,aJ,aG (cJ e1)];rfl
       rw[ev];refine bz λxs ex=>?_;obtain⟨src,ws,a1,a2,a3,a4⟩:=IU (m:=m) e2 ex;exact⟨src,a1,ws,a2,a3,a4⟩
   ·rw[eG,eG,aas hv]
    have ev:bnd (bu Φ #[e] env) (λits=>bB (srcOf k its)) h=bnd (aN Φ e env) (λv=>bB (srcOf k [v])) h:=by rw[bu,bu,aJ];rfl
    rw[ev];have ep:(pb (pb (bA Ψ e venv) λd=>pb (Pr.ok ([]:List Val)) λp=>Pr.ok (d.2::p)) λits=>pl (k9 k its))=pb (bA Ψ e venv) λd=>pl (k9 k [d.2]):=by cases bA Ψ e venv<;>rfl
    rw[ep];refine ah (V.1 e hi.1 venv env _ h s.Fe s.er) λx h1 v p1 q1=>bz λxs ex=>?_;obtain⟨src,ws,a1,a2,a3,a4⟩:=IU (m:=m) q1.1 ex;exact⟨src,a1,ws,a2,a3,a4⟩
  |cons e2 r=>
   have V2:=V.2 _ hi;refine IV (V2.2 venv env _ h s.Fe s.er) λds h1 vs eb p1 q1=>bz λxs ex=>?_;have hl:2<=ds.length:=IW eb
   match ds,q1 with
   |[],q1=>cases k<;>cases ex
   |[d],q1=>simp at hl
   |[d1,d2],q1=>obtain⟨v,rr,rfl,hv,hr⟩:=q1;obtain⟨w,rfl,hw⟩:=LM.one hr;obtain⟨rfl,n,m',rfl,rfl,hn,rfl⟩:=IX ex;have:=hv.int;subst this;have:=hw.int;subst this;exact⟨.fix _,aar hn,_,nS,rfl,λ_ _ _=>rfl⟩
   |d1::d2::d3::dr,q1=>rw[Cf]at ex;cases ex
theorem IY{A0:AP}{h0:Hs}(hb:vP Φ Ψ ms body)(s:SR A0 h0 venv env h O)
  (hm:Rel (Al A0 O) h (λxs h' src=>∃ws,av (Al A0 O) h' xs ws/\src.items h'=some ws/\yE h' O (mS (.for p k it body)) src ws) (m h) P) :
  je A0 h0 (RF A0 h0 (mS (.for p k it body)) venv env h O) (bnd m (λsrc=>bnd (ask λh=>src.items h) λxs=>forM src (λx env=>bnd (bB (gp p x env)) λenv'=>gm Φ body env') xs.length 0 env) h) (pb P λxs=>gA (λx env=>pb (pl (cF p x env)) λenv'=>aD Ψ ms body env') xs venv):=by
 refine cy s hm λxs h1 src p1 hx=>?_;obtain⟨ws,q1,q2,st⟩:=hx;have s1:=s.ext p1;have l:=q1.length;have ev2:∀(F:List Val->M Fl),bnd (ask λh=>src.items h) F h1=F ws h1:=λF=>by unfold bnd ask bB;dsimp only;rw[q2]
 rw[ev2];refine kq (Aj (m:=mS (.for p k it body)) (λaM env' h' O' x v s' qx=>?_) st xs ws 0 venv env h1 O s1 (Fm.refl s1 (aaL _)) rfl q1) λf h' g r=>r.pre s p1;refine cy s' (R:=λrQ h2 mO=>∃O2,SR A0 h0 rQ mO h2 O2/\Fm (stored p) aM env' h' O' rQ mO h2 O2) (bz λrQ e2=>?_) λrQ h2 mO p2 hh=>?_
 ·obtain⟨mO,O2,b1,b2,b3⟩:=s'.bind e2 qx;exact⟨mO,b1,O2,b2,b3⟩
 ·obtain⟨O2,b2,b3⟩:=hh
  refine kq (hb A0 h0 rQ mO h2 O2 b2) λf h'' g r=>RF.seq (b3.g9 λi hi=>?_) (r.g9 λi hi=>?_)
  ·simp only[mS,yw,sE,mem_append];exact .inr (.inl hi)
  ·simp only[Nu,mS,yw,sE,mem_append]at hi |-
   rcases hi with z|z
   ·exact .inl z
   ·exact .inr (.inr z)
theorem Si(hΦ:∀j,Imp (Φ j) (Ψ j))(hi:pU it=true)(hb:vP Φ Ψ ms body):Dt Φ Ψ ms (.for p k it body):=λA0 h0 venv env h O s=>by
 rw[iw,bH];have ev:∀(F:Src->M Fl),bnd (bu Φ it env) (λits=>bnd (bB (srcOf k its)) F) h=bnd (bnd (bu Φ it env) λits=>bB (srcOf k its)) F h:=λF=>by rw[aJ]
 rw[ev]
 by_cases hz:k=.zip
 ·subst hz
  show je A0 h0 _ _ (pg _ _);refine lg λ_=>?_;have ep:∀(F:List Val->Pr yv),pb (pO Ψ it venv) (λq=>pb (pl (Fc q.2)) F)=pb (pb (pO Ψ it venv) λq=>pl (Fc q.2)) F:=λF=>by cases pO Ψ it venv<;>rfl
  rw[ep];refine IY hb s (ah (((v_all hΦ).2 it hi).1 venv env _ h s.Fe s.er) λq h1 vs p1 q1=>bz λxs ex=>?_);obtain⟨f,ds⟩:=q;unfold Fc at ex;split at ex
  ·rename_i a b hab
   cases ex;have q2:=q1.1;rw[show ds=[.rl a,.rl b] from hab]at q2;rw[av]at q2;obtain⟨v,r,rfl,qa,q2⟩:=q2;obtain⟨w,rfl,qb⟩:=av.one q2;have sta:∀(c:List Val) (v:Val),Dn (Al A0 O) h1 (.rl c) v->∃ws,av (Al A0 O) h1 c ws/\∀h':Hs,(∀k,k<h1.length->(∀i,O i≠some k)->h'[k]?=h1[k]?)->aB h' v=some ws:=λc v q=>by
    rw[Dn]at q
    rcases q with ⟨ws,rfl,_,q⟩|⟨i,ws,rfl,al,g,q⟩
    ·exact⟨ws,q,λ_ _=>rfl⟩
    ·refine⟨ws,q,λh' hk=>?_⟩;show (match h'[i]? with|some (.lst xs)=>some xs|_=>none)=_;rw[(hk i (aao.mp g).1 λj=>al.2 j rfl).trans g]
   obtain⟨wa,ea,sa⟩:=sta _ _ qa;obtain⟨wb,eb,sb⟩:=sta _ _ qb;have it':∀h':Hs,(∀k,k<h1.length->(∀i,O i≠some k)->h'[k]?=h1[k]?)->(Src.zip v w).items h'=some (gj wa wb):=λh' hk=>by
    show (aB h' v).bind (λxs=>(aB h' w).map λys=>gj xs ys)=_;rw[sa h' hk,sb h' hk];rfl
   exact⟨.zip v w,rfl,gj wa wb,yD ea eb,it' h1 λ_ _ _=>rfl,λh' hk _=>it' h' hk⟩
  ·cases ex
 ·rw[show ∀z o:Pr yv,Fb k z o=o from λz o=>by cases k<;>first|rfl|exact(hz rfl).elim]
  refine lg λhg=>?_;rw[and_eq_true]at hg;have hm:∀i,it=.cons (.var i) .nil->i∉mS (.for p k it body):=by
   rintro i rfl z;simp only[uC,and_eq_true,not_eq_true',List.contains_eq_mem,decide_eq_false_iff_not]at hg;simp only[mS,yw,sE,mem_append]at z
   rcases z with z|z|z
   ·exact hg.1.1.1 z
   ·exact hg.1.2 z
   ·exact hg.1.1.2 z
  have ep:∀(F:List Val->Pr yv),pb (eG Ψ it venv) (λits=>pb (pl (k9 k its)) F)=pb (pb (eG Ψ it venv) λits=>pl (k9 k its)) F:=λF=>by cases eG Ψ it venv<;>rfl
  rw[ep];exact IY hb s (NB (m:=mS (.for p k it body)) hΦ hi s hm)
theorem Sj{n:Nat}(hΦ:∀j,Imp (Φ j) (Ψ j))(hc:dM c=true)(hb:vP Φ Ψ ms body):Dt Φ Ψ ms (.whl n c body):=λA0 h0 venv env h O s=>by rw[bH];trivial
theorem O8:qv (frM m)=true:=by cases m<;>rfl
theorem SR.fr{A0:AP}{h0:Hs}(s:SR A0 h0 venv env h O):ER A0 (kg venv) env h:=λi f d e=>by
 unfold kg at e;rw[aaJ]at e;cases hx:venv[i]? with
 |none=>rw[hx]at e;cases e
 |some o=>
  rw[hx]at e;cases o with
  |none=>cases e
  |some fd=>
   obtain⟨m,d'⟩:=fd;cases e;rw[aas (by rw[O8];decide)];cases hm:qv m with
   |false=>
    have hm:m=.ow:=by cases m<;>first|rfl|cases hm
    subst hm;obtain⟨a,e2,e3,e4⟩:=s.ow i d hx;exact⟨_,e2,(e4.mono (A':=A0) (λ_ g=>g) λ_ _ z=>z.g9 λ_ y=>y.1).dn (s.up a (s.own i a e3).1)⟩
   |true=>obtain⟨v,e1,e2,_⟩:=s.sh i m d hx hm;exact⟨v,e1,e2.g9 λ_ z=>z.1⟩
theorem qL{A0:AP}{h0:Hs}{α β γ δ:Type}{R:α -> Hs -> β -> Prop}{R':γ -> Hs -> δ -> Prop}{mm:M β}{f:β -> M δ}{p:Pr α}{F:α -> Pr γ}(s:SR A0 h0 venv env h O)(r:Rel A0 h R (mm h) p)(k:∀a h1 b,h<+:h1->R a h1 b->je A0 h0 R' (f b h1) (F a)):je A0 h0 R' (bnd mm f h) (pb p F):=by
 unfold bnd;cases p with
 |ok a=>obtain⟨b,h1,e,q,r⟩:=r;rw[e];exact k a h1 b q r
 |exc c es=>obtain⟨ws,h1,e,q,r⟩:=r;rw[e];exact⟨ws,h1,rfl,s.pre.trans q,r⟩
 |no=>trivial
theorem Cg{A0:AP}{h0:Hs}(hΦ:∀j,Imp (Φ j) (Ψ j))(s:SR A0 h0 venv env h O)(hb:dM b=true){h1:Hs}(p1:h<+:h1) :
  Rel A0 h1 (λ(y:FV) h' v=>Dn A0 h' y.2 v/\(O3 venv b y=true->Dn (Fr h0.length) h' y.2 v)) (aN Φ b env h1) (bA Ψ b (kg venv)):=by
 have V:=(v_all hΦ).1 b hb (kg venv) env A0 h1 ((s.up.ext s.pre).ext p1) (s.fr.ext p1);have gen:(∀y,O3 venv b y=y.1)->Rel A0 h1 (λ(y:FV) h' v=>Dn A0 h' y.2 v/\(O3 venv b y=true->Dn (Fr h0.length) h' y.2 v)) (aN Φ b env h1) (bA Ψ b (kg venv)):=λhn=>
  uF V λy h' v _ q=>⟨q.1,λf=>(q.2 (by rw[<-hn];exact f)).g9 (Fr.le (s.pre.trans p1).length_le)⟩
 cases b with
 |var i=>
  by_cases hx:∃d,venv[i]?=some (some (Mk.nw,d))
  ·obtain⟨d,hx⟩:=hx
   obtain⟨v,e1,e2,e3⟩:=s.sh i .nw d hx rfl;have ef:(kg venv)[i]?=some (some (.nw,d)):=by unfold kg;rw[aaJ,hx];rfl
   rw[bA,ef];exact⟨v,h1,cJ e1,aaL _,(e2.g9 λ_ z=>z.1).ext p1,λ_=>((e3 rfl).g9 λ_ z=>z.1).ext p1⟩
  ·refine gen λy=>?_
   show (match venv[i]? with|some (some (.nw,_))=>true|_=>y.1)=y.1
   split
   ·rename_i d e;exact(hx ⟨d,e⟩).elim
   ·rfl
 |_=>exact gen λ_=>rfl
theorem Sk(hΦ:∀j,Imp (Φ j) (Ψ j))(ho:dM e=true):Dt Φ Ψ ms (.ret e):=λA0 h0 venv env h O s=>by
 have V:=(v_all hΦ).1 e ho;have gen:Yn Ψ e venv=bA Ψ e venv->je A0 h0 (RF A0 h0 (mS (.ret e)) venv env h O) (iw Φ (.ret e) env h) (bH Ψ ms (.ret e) venv):=λhe=>by
  rw[iw,bH,he];exact cy s (V venv env _ h s.Fe s.er) λx h1 v p1 q1=>bM ⟨q1.1.g9 λ_ z=>z.1,λf=>(q1.2 f).g9 (Fr.le s.pre.length_le),s.pre.trans p1⟩
 cases e with
 |var i=>
  rw[iw,bH];simp only[Yn];cases hx:venv[i]? with
  |none=>trivial
  |some o=>
   cases o with
   |none=>trivial
   |some fd=>
    obtain⟨f,d⟩:=fd;cases hf:qv f with
    |false=>
     have hf:f=.ow:=by cases f<;>first|rfl|cases hf
     subst hf;obtain⟨a,e2,e3,e4⟩:=s.ow i d hx;rw[aG (cJ e2)];have ha:=s.own i a e3;cases d<;>first|exact False.elim e4|skip
     ·refine⟨_,h,rfl,?_,λhi=>?_,s.pre⟩
      ·exact(e4.mono (A':=A0) (λ_ g=>g) λ_ _ z=>z.g9 λ_ y=>y.1).dn (s.up a ha.1)
      ·obtain⟨vs,e4,e5⟩:=e4;show Dn _ h (.rl _) (.ref a);rw[Dn];exact .inr ⟨a,vs,rfl,ha.1,e4,kj e5 hi⟩
     ·refine⟨_,h,rfl,?_,λhi=>?_,s.pre⟩
      ·exact(e4.mono (A':=A0) (λ_ g=>g) λ_ _ z=>z.g9 λ_ y=>y.1).dn (s.up a ha.1)
      ·obtain⟨kvs,e4,ek,e5⟩:=e4;show Dn _ h (.dc _ _) (.ref a);rw[Dn];exact⟨a,kvs,rfl,ha.1,e4,ek,kj e5 hi⟩
    |true=>
     obtain⟨v,e1,e2,e3⟩:=s.sh i f d hx hf;rw[aG (cJ e1)];dsimp only;rw[aar hf];refine⟨_,h,rfl,e2.g9 λ_ z=>z.1,λhi=>?_,s.pre⟩
     rcases(or_eq_true _ _).mp hi with hi|hi
     ·exact(j4 d v hi).mpr ((j4 d v hi).mp e2)
     ·exact(e3 hi).g9 λ_ z=>z.1
 |call j es=>rw[iw,bH];exact qL s (V (kg venv) env A0 h (s.up.ext s.pre) s.fr) λx h1 v p1 q1=>bM ⟨q1.1,λf=>(q1.2 f).g9 (Fr.le s.pre.length_le),s.pre.trans p1⟩
 |tup es=>
  rw[iw,bH];change je A0 h0 _ _ (pb (Nf Ψ es venv) _);unfold Nf
  split
  ·rename_i a b c
   have ho:(dM a&&((dM b&&(dM c&&true))&&true))=true:=ho;have o1:=cU ho;have o2:=cU (cU o1.2).1;have ev:aN Φ (.tup #[a,.tup #[b,c]]) env=bnd (aN Φ a env) (λx=>bnd (aN Φ b env) λy=>bnd (aN Φ c env) λz=>ret (.tup [x,.tup [y,z]])):=by rw[aN,bu,bu,bu,aN,bu,bu,bu];simp only[aJ];rfl
   rw[ev];refine qL s (R:=λ(w:FV) h' v=>Dn A0 h' w.2 v/\(w.1=true->Dn (Fr h0.length) h' w.2 v)) (ah (Cg hΦ s o1.1 (aaL _)) λx h1 v1 p1 q1=>ah (Cg hΦ s o2.1 p1) λy h2 v2 p2 q2=>ah (Cg hΦ s (cU o2.2).1 (p1.trans p2)) λz h3 v3 p3 q3=>aF ⟨?_,λhf=>?_⟩) λx h1 v p1 q1=>bM ⟨q1.1,q1.2,s.pre.trans p1⟩
   ·show Dn A0 h3 (.tup [x.2,.tup [y.2,z.2]]) _;rw[Dn];refine⟨_,rfl,av.cons (q1.1.ext (p2.trans p3)) (av.cons ?_ av.nil)⟩;rw[Dn];exact⟨_,rfl,av.cons (q2.1.ext p3) (av.cons q3.1 av.nil)⟩
   ·have f1:=cU hf
    have f2:=cU f1.2;have fx:O3 venv a x=true:=by
     unfold O3;split
     ·split
      ·rfl
      ·exact f1.1
     ·exact f1.1
    show Dn (Fr h0.length) h3 (.tup [x.2,.tup [y.2,z.2]]) _;rw[Dn];refine⟨_,rfl,av.cons ((q1.2 fx).ext (p2.trans p3)) (av.cons ?_ av.nil)⟩;rw[Dn];exact⟨_,rfl,av.cons ((q2.2 f2.1).ext p3) (av.cons (q3.2 f2.2) av.nil)⟩
  exact qL s (V (kg venv) env A0 h (s.up.ext s.pre) s.fr) λx h1 v p1 q1=>bM ⟨q1.1,λf=>(q1.2 f).g9 (Fr.le s.pre.length_le),s.pre.trans p1⟩
 |_=>exact gen rfl
theorem Sl:vP Φ Ψ ms .nil:=λA0 h0 venv env h O s=>by rw[gm,aD];exact bM ⟨O,s,Fm.refl s (aaL _)⟩
theorem NC(ha:Dt Φ Ψ ms a)(hr:vP Φ Ψ ms r):vP Φ Ψ ms (.cons a r):=λA0 h0 venv env h O s=>by
 rw[gm,aD];have w1:∀i∈mS a,i∈Nu (.cons a r):=λi hi=>by
  simp only[mS,Nu,kh,ou,mem_append]at hi |-
  rcases hi with z|z
  ·exact .inl (.inl z)
  ·exact .inr (.inl z)
 have w2:∀i∈Nu r,i∈Nu (.cons a r):=λi hi=>by
  simp only[Nu,kh,ou,mem_append]at hi |-
  rcases hi with z|z
  ·exact .inl (.inr z)
  ·exact .inr (.inr z)
 refine uJ (ha A0 h0 venv env h O s) λf h1 g rr=>?_;have rr:=rr.g9 w1;cases f<;>cases g<;>first|exact rr.elim|skip
 ·obtain⟨O',s',f'⟩:=rr;exact kq (hr A0 h0 _ _ h1 O' s') λf h' g r'=>RF.seq f' (r'.g9 w2)
 ·exact bM rr
 ·exact bM rr
 ·exact bM rr
theorem WJ(hΦ:∀j,Imp (Φ j) (Ψ j)):∀ss,uK ss=true->vP Φ Ψ ms ss:=by
 intro ss;refine bY.rec (motive_1:=λs=>ZK s=true->Dt Φ Ψ ms s) (motive_2:=λss=>uK ss=true->vP Φ Ψ ms ss) ?_ ?_ ?_ ?_ ?_ ?_ ?_ ?_ ?_ ?_ ?_ ?_ ?_ ?_ ?_ ?_ ss
 ·exact λe f=>Nv hΦ f
 ·exact λp e f=>Sf hΦ f
 ·exact λi o e f=>Sg hΦ f
 ·intro o i v f;have f:=vN f;exact Nz hΦ f.1.1 f.1.2 f.2
 ·intro c a b ia ib f;have f:=vN f;exact Sh hΦ f.1.1 (ia f.1.2) (ib f.2)
 ·intro p k it b ib f;have f:=cU f;exact Si hΦ f.1 (ib f.2)
 ·intro n c b ib f;have f:=cU f;exact Sj hΦ f.1 (ib f.2)
 ·exact λe f=>Sk hΦ f
 ·exact λ_ A0 h0 venv env h O s=>by rw[iw,bH];exact bM ⟨by rw[Dn],λ_=>by rw[Dn],s.pre⟩
 ·exact λ_ A0 h0 venv env h O s=>by rw[iw,bH];exact bM ⟨O,s,Fm.refl s (aaL _)⟩
 ·exact λ_ A0 h0 venv env h O s=>by rw[iw,bH];exact bM ⟨O,s,Fm.refl s (aaL _)⟩
 ·exact λ_ A0 h0 venv env h O s=>by rw[iw,bH];exact bM ⟨O,s,Fm.refl s (aaL _)⟩
 ·exact λ_ A0 h0 venv env h O s=>by rw[bH];trivial
 ·exact λ_ _ _ _ _ A0 h0 venv env h O s=>by rw[bH];trivial
 ·exact λ_=>Sl
 ·intro a r ia ir f;have f:=cU f;exact NC (ia f.1) (ir f.2)
theorem WK{n:Nat}(u:Up A h)(q:av A h ds vs):SR A h (ds.map (λd=>some (.sh,d))++replicate (n-ds.length) none) (vs.map some++replicate (n-vs.length) none) h (λ_=>none):=by
 have l:=q.length;have al:∀k,A k->Al A (λ_=>none) k:=λk hk=>⟨hk,λi z e=>by subst e;cases z⟩;have get:∀(i:Nat) (f:Mk) (d:Val),(ds.map (λd=>some (.sh,d))++replicate (n-ds.length) none:aU)[i]?=some (some (f,d))->f=.sh/\ds[i]?=some d:=λi f d e=>by
  by_cases hi:i<ds.length
  ·rw[aax (by simpa using hi),aaJ]at e
   cases ei:ds[i]? with
   |none=>rw[ei]at e;cases e
   |some d'=>rw[ei]at e;cases e;exact⟨rfl,rfl⟩
  ·rw[aaO (by simp;omega)]at e;have:=aaM e;rw[mem_replicate]at this;exact absurd this.2 (by simp)
 refine⟨by simp[l],λi m d e hm=>?_,λi d e=>?_,(λi a e=>nomatch e),(λi j a e=>nomatch e),aaL _,u⟩
 ·obtain⟨hm',e⟩:=get i m d e;obtain⟨v,k1,k2⟩:=q.get e;have hi:i<vs.length:=(aao.mp k1).1;exact⟨v,by rw[aax (by simpa using hi),aaJ,k1];rfl,k2.g9 al,λz=>by subst hm';cases z⟩
 ·obtain⟨z,_⟩:=get i .ow d e;cases z
theorem aQ{n:Nat}(hΦ:∀j,Imp (Φ j) (Ψ j))(ho:uK body=true):Imp (fj Φ n body) (bW Ψ n body):=λA h ds vs u q=>by
 have l:=q.length;have s:=WK (n:=n) u q;unfold fj bW;have r:=uJ (R':=λx h' v=>h<+:h'/\RV A h x h' v) (WJ (ms:=kh body) hΦ body ho A h _ _ h _ s) (f:=λf=>match f with
  |.nx _=>ret .non
  |.rt v=>ret v
  |_=>bB none) (F:=λf=>match f with
  |.nx _=>.ok (true,.non)
  |.rt p=>.ok p
  | _=>.no) λf h1 g rr=>by
   cases f<;>cases g<;>first|exact rr.elim|skip
   ·obtain⟨O',s',_⟩:=rr;exact bM ⟨s'.pre,by show Dn _ _ Val.non _;rw[Dn],λ_=>by show Dn _ _ Val.non _;rw[Dn]⟩
   ·exact bM ⟨rr.2.2,rr.1,rr.2.1⟩
   ·trivial
   ·trivial
 revert r;generalize (pb (aD Ψ (kh body) body (ds.map (λd=>some (.sh,d))++replicate (n-ds.length) none)) _)=p;intro r;cases p with
 |ok x=>obtain⟨v,h',e,a,b⟩:=r;exact⟨v,h',e,a,b⟩
 |exc c es=>exact r
 |no=>trivial
end
abbrev aK:=List Val->Pr FV
def af(gs:List aK)(j:Nat):aK:=match gs[j]? with
 |some g=>g
 |none=>λ_=>.no
def bT(fs:List Row)(gs:List aK):Prop:=fs.length=gs.length/\∀(j:Nat) (r:Row) (g:aK),fs[j]?=some r->gs[j]?=some g->Imp r.2.2 g
theorem IZ:bT [] []:=⟨rfl,λj r g e=>by simp at e⟩
theorem aj(a:bT fs gs)(j:Nat):Imp (look fs j) (af gs j):=by
 unfold look af;cases e:fs[j]? with
 |none=>
  have:gs[j]?=none:=by have:=List.getElem?_eq_none_iff.mp e;exact List.getElem?_eq_none_iff.mpr (by rw[<-a.1];exact this)
  rw[this];exact λ_ _ _ _ _ _=>trivial
 |some r=>
  cases e2:gs[j]? with
  |none=>exact λ_ _ _ _ _ _=>trivial
  |some g=>exact a.2 j r g e e2
theorem ak{k:Nat}(a:bT fs gs)(i:Imp f g):bT (fs++[(x,k,f)]) (gs++[g]):=by
 refine⟨by simp[a.1],λj r g' e1 e2=>?_⟩
 by_cases hj:j<fs.length
 ·rw[aax hj]at e1;rw[aax (by rw[<-a.1];exact hj)]at e2;exact a.2 j r g' e1 e2
 ·rw[aaO (by omega)]at e1
  rw[aaO (by rw[<-a.1];omega)]at e2;have hj0:j-fs.length=0:=by have:=(aao.mp e1).1;simp at this;omega
  rw[<-a.1]at e2;rw[hj0]at e1 e2;simp at e1 e2;subst e1;subst e2;exact i
section
variable {α β γ:Type}
theorem aT(a:α)(f:α -> Pr β):pb (.ok a) f=f a:=rfl
theorem WL(f:α -> Pr β):pb .no f=.no:=rfl
theorem Sm(c:Prop)[Decidable c](m n:Pr α)(f:α -> Pr β):pb (if c then m else n) f=if c then pb m f else pb n f:=by split<;>rfl
theorem Ak(m:Pr α)(f:α -> Pr β)(g:β -> Pr γ):pb (pb m f) g=pb m λx=>pb (f x) g:=by cases m<;>rfl
theorem bS(a:α):pl (some a)=.ok a:=rfl
theorem ND:pl (none:Option α)=.no:=rfl
theorem NF(m:Pr α):pg true m=m:=rfl
theorem Sn(c:Prop)[Decidable c](m:Pr α):pg (decide c) m=if c then m else .no:=by unfold pg;simp
theorem yF{c:Bool}(h:c=true)(m:Pr α):pg c m=m:=by rw[h];rfl
end
theorem uL{f:Bool}:qv (eF f d)=true:=by unfold eF;split<;>rfl
theorem WM:qv .sh=true:=rfl
theorem WN:qv .nw=true:=rfl
theorem WO:qv .ow=false:=rfl
theorem WQ:Uo .sh=false:=rfl
theorem WR:Uo .nw=true:=rfl
theorem So{f:Bool}{i:Int}:eF f (.int i)=.sh:=by cases f<;>rfl
theorem WS{f:Bool}{i:Bool}:eF f (.bl i)=.sh:=by cases f<;>rfl
theorem Sq{f:Bool}:eF f (.str i)=.sh:=by cases f<;>rfl
theorem Ss{f:Bool}:eF f .non=.sh:=by cases f<;>rfl
theorem ZL:eF false d=.sh:=rfl
theorem WU:eF true (.rl ds)=.nw:=rfl
theorem WW:eF true (.dc ks ds)=.nw:=rfl
section
variable {a b:Int} {x y:Str} {t:Bool} {vs ws:List Val} {v:Val}
theorem WX:oO .add (.int a) (.int b)=.ok (true,.int (a+b)):=rfl
theorem WY:oO .sub (.int a) (.int b)=.ok (true,.int (a-b)):=rfl
theorem xh(h:lO a b=true):oO .mul (.int a) (.int b)=.ok (true,.int (a*b)):=by simp only[oO];exact yF h _
theorem fy(h:ja b=true):oO .fdiv (.int a) (.int b)=.ok (true,.int (a/b)):=by simp only[oO];exact yF h _
theorem gr(h:decide (0<b)=true):oO .mod (.int a) (.int b)=.ok (true,.int (a%b)):=by simp only[oO];exact yF h _
theorem O9(h:decide (0<=b/\b<=1000000/\a.natAbs<2 ^ 64)=true):oO .pow (.int a) (.int b)=.ok (true,.int (a ^ b.toNat)):=by simp only[oO];exact yF h _
theorem ZM:cop [] .lt (.int a) (.int b)=some (decide (a<b)):=rfl
theorem ZN:cop [] .le (.int a) (.int b)=some (decide (a<=b)):=rfl
theorem ZO:cop [] .gt (.int a) (.int b)=some (decide (b<a)):=rfl
theorem ZP:cop [] .ge (.int a) (.int b)=some (decide (b<=a)):=rfl
theorem ZQ:cop [] .eq (.int a) (.int b)=some (decide (a=b)):=by
 show some (a==b)=_
 congr 1
theorem ZR:cop [] .ne (.int a) (.int b)=some (!decide (a=b)):=by
 show some (!(a==b))=_
 congr 1
theorem WZ:cop [] .isn v .non=some (lP v):=by cases v<;>rfl
theorem W0:cop [] .ntn v .non=some (!lP v):=by cases v<;>rfl
theorem W2:dI [] (.bl t)=some t:=rfl
theorem W3:dI [] (.int a)=some (a != 0):=rfl
theorem W4:dI [] (.rl vs)=some (!vs.isEmpty):=rfl
theorem W5:dI [] (.tup vs)=some (!vs.isEmpty):=rfl
theorem W6:gQ .len [.rl vs]=.ok (true,.int vs.length):=rfl
theorem W7:gQ .len [.tup vs]=.ok (true,.int vs.length):=rfl
theorem W8:gQ .min [.int a,.int b]=.ok (true,.int (if b<a then b else a)):=rfl
theorem W9:gQ .max [.int a,.int b]=.ok (true,.int (if b>a then b else a)):=rfl
theorem Su:gQ .min [.tup [.int a,.int b]]=.ok (true,.int (min a b)):=rfl
theorem Sv:gQ .max [.tup [.int a,.int b]]=.ok (true,.int (max a b)):=rfl
theorem Sw:gQ .list [.rl vs]=.ok (b6 vs,.rl vs):=rfl
theorem Sx:gQ .list [.tup vs]=.ok (b6 vs,.rl vs):=rfl
theorem Xa:gQ .int [.bl t]=.ok (true,.int (if t=true then 1 else 0)):=rfl
theorem jf(h:oB vs a=some v):iu [] (.rl vs) (.int a)=some v:=h
theorem bO(h:oB vs a=some v):iu [] (.tup vs) (.int a)=some v:=h
end
theorem j5:oB (v::vs) (0:Int)=some v:=by
 have:=pC (xs:=v::vs) (j:=0) (v:=v) rfl;exact this
theorem jE:oB (u::v::vs) (1:Int)=some v:=by
 have:=pC (xs:=u::v::vs) (j:=1) (v:=v) rfl;exact this
theorem nT{T:String}{t:String}(h1:zM [] v=some t)(h2:zN T t=some true):gQ (.isin T) [v]=.ok (true,.bl true):=by
 show pb (pl (zM [] v)) _=_;rw[h1,bS,aT,h2];rfl
theorem Ci{T:String}{t:String}(h1:zM [] v=some t)(h2:zN T t=some false):gQ (.isin T) [v]=.ok (true,.bl false):=by
 show pb (pl (zM [] v)) _=_;rw[h1,bS,aT,h2];rfl
theorem ne_self(h:toD 16 [] d=some p)(hp:p.canLay0=true):cop [] .ne d d=some false:=by
 simp only[cop,zK,h,bind_some];rw[SeqAt.eqv_refl p hp];rfl
theorem Sy:Fb .seq z o=o:=rfl
theorem Sz:Fb .range z o=o:=rfl
theorem Ja:Fb .zip z o=z:=rfl
theorem Jb:Fc [.rl a,.rl b]=some (gj a b):=rfl
theorem Xb:k9 .seq [.tup vs]=some vs:=rfl
theorem cV:k9 .seq [.rl vs]=some vs:=rfl
theorem SA:E9 .seq ds=k9 .seq ds:=rfl
theorem SD:E9 .range ds=k9 .range ds:=rfl
theorem SE:E9 .enum ds=k9 .enum ds:=rfl
theorem SG:E9 .zip [.rl a,.rl b]=some (gj a b):=rfl
theorem Dw{lo hi:Option Int}:Cd (.rl vs) lo hi=.ok (b6 (dX vs lo hi),.rl (dX vs lo hi)):=rfl
theorem aH{i:Nat}:cF (.one i) d env=some (env.set i (some (.sh,d))):=rfl
theorem Jc{i j:Nat}:cF (.tup [i,j]) (.tup [d,e]) env=some ((env.set i (some (.sh,d))).set j (some (.sh,e))):=rfl
theorem pW{α β:Type}(f:α -> β)(ds:List α)(lo hi:Option Int):dX (ds.map f) lo hi=(dX ds lo hi).map f:=by
 unfold dX;simp only[length_map,map_take,List.map_drop]
theorem eY{α β γ:Type}{f:β -> Option γ}{g:α -> β}{k:α -> γ}:∀(xs:List α),(∀x∈xs,f (g x)=some (k x))->bK f (xs.map g)=some (xs.map k)
 |[],_=>rfl
 | x::r,h=>by
  rw[aau,bK,h x aam,eY r λy hy=>h y (aal _ hy)];rfl
theorem ints_map(xs:List Int):aX (xs.map .int)=some xs:=by
 have:=eY (f:=λv=>match v with|.int i=>some i|_=>none) (g:=Val.int) (k:=id) xs λ_ _=>rfl;rw[map_id]at this;exact this
theorem Cj(sO:List (List Int))(h:∀k∈sO,k≠[])(hl:sO.length<64):gO (sO.map oH)=some ((pK sO).map oH):=by
 unfold gO;rw[aar (by rw[aak];exact hl)];cases sO with
 |nil=>rfl
 |cons k r=>
  have e:aX (List.map oH (k::r))=none:=by unfold aX ;rw[aau,bK];rfl
  rw[e];have e2:oj (List.map oH (k::r))=some (k::r):=by
   have:=eY (f:=λv=>match v with|.tup vs=>if vs.isEmpty then none else aX vs|_=>none) (g:=oH) (k:=id) (k::r) λx hx=>by
    have hx:=h x hx;show (if (x.map Val.int).isEmpty=true then none else aX (x.map .int))=some x;rw[aas (by simpa using hx),ints_map]
   rw[map_id]at this;exact this
  show (oj (List.map oH (k::r))).bind _=_;rw[e2];rfl
theorem gT(s:String):PyData.strOk (Str.ofString s)=true:=by
 have:=PyProof.Rows.signs_ofString s;unfold PyData.strOk;rw[<-Array.all_toList,this,all_eq_true];intro c hc;obtain⟨d,_,rfl⟩:=aaA.mp hc;have:=d.valid;simp only[decide_eq_true_eq];show d.val.toNat<1114112;unfold UInt32.isValidChar Nat.isValidChar at this;omega
theorem Dy{n:Nat}(e:PyData.strOk x=true):toD (n+1) h (.str x)=some (.str x):=aar e
theorem uM{α:Type}{n:Nat}(f:α -> Val)(g:α -> PyData)(xs:List α)(e:∀x∈xs,toD n h (f x)=some (g x)):toD (n+1) h (.rl (xs.map f))=some (.list (xs.map g)):=by
 show (bK (toD n h) _).bind _=_;rw[eY xs e];rfl
theorem Dz{α:Type}{n:Nat}(f:α -> Val)(g:α -> PyData)(xs:List α)(e:∀x∈xs,toD n h (f x)=some (g x)):toD (n+1) h (.tup (xs.map f))=some (.tuple (xs.map g)):=by
 show (bK (toD n h) _).bind _=_;rw[eY xs e];rfl
theorem Jd{n:Nat}(ks:List Int):toD (n+2) h (oH ks)=some (.tuple (ks.map .int)):=Dz _ _ ks λ_ _=>rfl
theorem ly{α:Type}(g:α -> PyData):∀(xs:List α),(∀x∈xs,(g x).canLay0=true)->PyData.canLayAll0 (xs.map g)=true
 |[],_=>by simp[PyData.canLayAll0]
 | x::r,h=>by
  rw[aau,PyData.canLayAll0,h x aam,ly g r λy hy=>h y (aal _ hy)];rfl
theorem xj{α:Type}(enc:α -> Val)(Q:List α -> aU->Prop):∀(us done:List α) (env:aU),Q done env->(∀(pre:List α) (u:α) (post:List α) (env:aU),done++us=pre++u::post->Q pre env->∃env',body (enc u) env=.ok (.nx env')/\Q (pre++[u]) env')->∃env',gA body (us.map enc) env=.ok (.nx env')/\Q (done++us) env'
 |[],done,env,q,_=>⟨env,rfl,by rw[aa1];exact q⟩
 | x::xs,done,env,q,h=>by
  obtain⟨env',e,q'⟩:=h done x xs env rfl q;have eq:done++x::xs=done++[x]++xs:=by simp
  obtain⟨mO,e2,q2⟩:=xj enc Q xs (done++[x]) env' q' (by rw[<-eq];exact h);refine⟨mO,?_,by rw[eq];exact q2⟩;rw[aau,gA,e,aT];exact e2
theorem iQ{α:Type}(enc:α -> Val){us:List α}{sf:aU}{β:Type}{k:yv->Pr β}(G:Pr β -> Prop)(Q:List α -> aU->Prop)(h0:Q [] sf)
  (step:∀(pre:List α) (u:α) (post:List α) (env:aU),us=pre++u::post->Q pre env->∃env',body (enc u) env=.ok (.nx env')/\Q (pre++[u]) env')
  (post:∀env',Q us env'->G (k (.nx env'))):G (pb (gA body (us.map enc) sf) k):=by
 obtain⟨env',e,q⟩:=xj enc Q us [] sf h0 (λpre x post env ep q=>step pre x post env ep q);rw[e,aT];exact post env' q
theorem b8:∀{l m:List Int},l.Nodup->(∀x∈l,x∈m)->l.length<=m.length
 |[],_,_,_=>abi _
 | x::r,m,h,hs=>by
  rw[aaS]at h;have hx:x∈m:=hs x aam;have:=b8 (m:=m.erase x) h.2 λy hy=>(List.mem_erase_of_ne (λe:y=x=>h.1 (e▸hy))).mpr (hs y (aal _ hy));rw[List.length_erase_of_mem hx]at this;have:=List.length_pos_of_mem hx;rw[aaH];omega
abbrev vp(xs:List Int)(g:Int->Val):Val:=.dc (xs.map Sum.inl) (xs.map g)
def uN(g:Int->Val)(x:Int)(v:Val):Int->Val:=λy=>if y=x then v else g y
theorem yG(xs:List Int)(g:Int->Val):(xs.map (Sum.inl:Int->Key)).zip (xs.map g)=xs.map λx=>((Sum.inl x:Key),g x):=by
 induction xs with
 |nil=>rfl
 |cons x r ih=>simp only[map_cons,zip_cons_cons,ih]
theorem mT{xs:List Int}{x:Int}(h:x∈xs):iu [] (vp xs g) (.int x)=some (g x):=by
 show dm _ _=_;rw[yG];unfold dm
 induction xs with
 |nil=>simp at h
 |cons y r ih=>
  rw[aau,find?_cons]
  by_cases e:y=x
  ·subst e;simp
  ·have:((Sum.inl y:Key)=Sum.inl x)=False:=by simp[e]
   simp only[this,decide_false];exact ih (by rcases aaz.mp h with h|h;exact absurd h.symm e;exact h)
theorem Ck(xs:List Int)(g:Int->Val)(x:Int):((xs.map λx=>((Sum.inl x:Key),g x)).any λkv=>decide (kv.1=Sum.inl x))=decide (x∈xs):=by
 induction xs with
 |nil=>rfl
 |cons y r ih=>
  rw[aau,any_cons,ih]
  by_cases e:y=x
  ·subst e;simp
  ·have e':¬ x=y:=λh=>e h.symm;simp[e,e']
theorem yH{xs:List Int}{x:Int}(h:x∈xs):putD (xs.map Sum.inl) (xs.map g) (.inl x) v=vp xs (uN g x v):=by
 unfold putD jD;rw[yG,Ck,aar (by simpa using h)];unfold vp;rw[aaV,aaV]
 congr 1
 ·refine aba λy _=>?_
  show ((if (Sum.inl y:Key)=Sum.inl x then ((Sum.inl y:Key),v) else (Sum.inl y,g y)).1)=_
  split<;>rfl
 ·rw[aaV,aaV]
  refine aba λy _=>?_;show ((if (Sum.inl y:Key)=Sum.inl x then ((Sum.inl y:Key),v) else (Sum.inl y,g y)).2)=_;unfold uN
  by_cases e:y=x
  ·rw[aar (by rw[e]),aar e]
  ·rw[aas (by simpa using e),aas e]
theorem DA{xs:List Int}{x:Int}(h:x∉xs):putD (xs.map Sum.inl) (xs.map g) (.inl x) v=vp (xs++[x]) (uN g x v):=by
 unfold putD jD;rw[yG,Ck,aas (by simpa using h)];unfold vp;simp only[List.map_append,map_map,map_cons,map_nil]
 congr 1
 congr 1
 ·refine aba λy hy=>?_;show g y=uN g x v y;unfold uN;rw[aas (λe:y=x=>h (e▸hy))]
 ·simp[uN]
theorem eN{xs:List Int}(h:∀x∈xs,g x=g' x):vp xs g=vp xs g':=by
 unfold vp;rw[aba h]
theorem pX{x:Int}:keyOf (.int x)=some (.inl x):=rfl
theorem NG(a b:Int):PyData.eqv (.int a) (.int b)=decide (a=b):=by
 show (a==b)=_
 by_cases h:a=b<;>simp[h]
theorem jM{xs:List Int}{x:Int}:cop [] .lX (.int x) (.rl (xs.map .int))=some (decide (x∈xs)):=by
 show (toD 16 [] (.rl (xs.map .int))).bind _=_;rw[uM Val.int PyData.int xs λ_ _=>rfl];show some ((xs.map PyData.int).any λy=>PyData.eqv y (.int x))=_
 congr 1
 induction xs with
 |nil=>rfl
 |cons y r ih=>
  rw[aau,any_cons,ih,NG]
  by_cases e:y=x
  ·subst e;simp
  ·have e':¬ x=y:=λh=>e h.symm;simp[e,e']
theorem Je{xs:List Int}{x:Int}:cop [] .nin (.int x) (.rl (xs.map .int))=some (!decide (x∈xs)):=by
 show (cop [] .lX (.int x) (.rl (xs.map .int))).map _=_;rw[jM];rfl
theorem uO(x:Int):∀(ns ks:List Int),x∈cH ks ns↔x∈ks\/x∈ns
 |[],ks=>by simp[cH]
 | k::r,ks=>by
  rw[cH,uO x r,ic]
  split
  ·rename_i h
   constructor
   ·rintro(h'|h')
    ·exact .inl h'
    ·exact .inr (aal _ h')
   ·rintro(h'|h')
    ·exact .inl h'
    ·rcases aaz.mp h' with h'|h'
     ·exact .inl (h'▸h)
     ·exact .inr h'
  ·simp[or_assoc]
theorem dN:∀(ns ks:List Int),ks.Nodup->(cH ks ns).Nodup
 |[],ks,h=>h
 | k::r,ks,h=>by
  rw[cH];refine dN r _ ?_;rw[ic]
  split
  ·exact h
  ·rename_i hk;rw[aa5];exact⟨h,by simp,λa ha b hb=>by simp at hb;subst hb;exact λe=>hk (e▸ha)⟩
def ig(ns:List Int):List Int:=sortI (cH [] ns)
theorem Jf(x:Int)(ns:List Int):x∈ig ns↔x∈ns:=by
 unfold ig;rw[(abo _).mem_iff,uO];simp
theorem jg(ns:List Int):(ig ns).Nodup:=by
 unfold ig;rw[(abo _).nodup_iff];exact dN ns [] abm
inductive Way (es:List (Int×Int)):Int->Int->Prop
 |refl (a:Int):Way es a a
 |fwd {a b c:Int}:Way es a b->(b,c)∈es->Way es a c
 |bwd {a b c:Int}:Way es a b->(c,b)∈es->Way es a c
theorem Way.trans{a b c:Int}(h:Way es a b)(k:Way es b c):Way es a c:=by
 induction k with
 |refl=>exact h
 |fwd _ m ih=>exact .fwd ih m
 |bwd _ m ih=>exact .bwd ih m
theorem Way.symm{a b:Int}(h:Way es a b):Way es b a:=by
 induction h with
 |refl=>exact .refl _
 |fwd _ m ih=>exact(Way.bwd (.refl _) m).trans ih
 |bwd _ m ih=>exact(Way.fwd (.refl _) m).trans ih
theorem Way.mono(hs:∀e∈es,e∈fs){a b:Int}(h:Way es a b):Way fs a b:=by
 induction h with
 |refl=>exact .refl _
 |fwd _ m ih=>exact .fwd ih (hs _ m)
 |bwd _ m ih=>exact .bwd ih (hs _ m)
theorem Way.const{α:Type}(f:Int -> α)(hf:∀e∈es,f e.1=f e.2){a b:Int}(h:Way es a b):f a=f b:=by
 induction h with
 |refl=>rfl
 |fwd _ m ih=>exact ih.trans (hf _ m)
 |bwd _ m ih=>exact ih.trans (hf _ m).symm
structure lY (ps:List Int) (es:List (Int×Int)) (f:Int->Int):Prop where
 lX:∀x∈ps,f x∈ps
 way:∀x∈ps,Way es x (f x)
 same:∀e∈es,f e.1=f e.2
theorem lY.iff{ps:List Int}(h:lY ps es f){x y:Int}(hx:x∈ps)(hy:y∈ps):f x=f y↔Way es x y:=by
 constructor
 ·intro e;have:=(h.way y hy).symm;rw[<-e]at this;exact(h.way x hx).trans this
 ·exact λw=>w.const f h.same
theorem lY.start(ps:List Int):lY ps [] id:=⟨λx h=>h,λx _=>.refl x,λe h=>by simp at h⟩
theorem lY.step{ps:List Int}(h:lY ps es f){a b:Int}(ha:a∈ps)(hb:b∈ps)(kept gone:Int)(hk:(kept=f a/\gone=f b)\/(kept=f b/\gone=f a)):lY ps (es++[(a,b)]) (λx=>if f x=gone then kept else f x):=by
 have up:∀{x y},Way es x y->Way (es++[(a,b)]) x y:=λw=>w.mono λe he=>aaX _ he;have ab:Way (es++[(a,b)]) a b:=.fwd (.refl _) (by simp);refine⟨λx hx=>?_,λx hx=>?_,λe he=>?_⟩
 ·split
  ·rcases hk with ⟨k,_⟩|⟨k,_⟩<;>rw[k]<;>exact h.lX _ (by assumption)
  ·exact h.lX x hx
 ·split
  ·rename_i e
   have w1:=up (h.way x hx);rw[e]at w1;refine w1.trans ?_
   rcases hk with ⟨k,g⟩|⟨k,g⟩
   ·rw[k,g];exact((up (h.way b hb)).symm.trans ab.symm).trans (up (h.way a ha))
   ·rw[k,g];exact((up (h.way a ha)).symm.trans ab).trans (up (h.way b hb))
  ·exact up (h.way x hx)
 ·rcases aaT.mp he with he|he
  ·rw[h.same e he]
  ·rw[aaF]at he
   subst he
   rcases hk with ⟨k,g⟩|⟨k,g⟩
   ·rw[k,g];rw[aar (rfl:f b=f b)];split<;>rfl
   ·rw[k,g];rw[aar (rfl:f a=f a)];split<;>rfl
abbrev T3:=Int×Int×Int
def l3(t:T3):List Int:=[t.1,t.2.1,t.2.2]
def aP(t:T3):Val:=.tup [.int t.1,.int t.2.1,.int t.2.2]
def uP(x:T3):List T3->List T3
 |[]=>[x]
 |y::r=>if HT.lexLt (l3 y) (l3 x)=true then y::uP x r else x::y::r
def iG:List T3->List T3
 |[]=>[]
 |x::r=>uP x (iG r)
theorem Am(x:T3):∀l:List T3,yi (l3 x) (l.map l3)=(uP x l).map l3
 |[]=>rfl
 | y::r=>by
  rw[aau,yi,uP]
  split
  ·rw[aau,Am x r]
  ·rfl
theorem xm:∀l:List T3,pK (l.map l3)=(iG l).map l3
 |[]=>rfl
 |x::r=>by rw[aau,pK,xm r,Am];rfl
theorem qO(x:T3):∀l:List T3,(uP x l).Perm (x::l)
 |[]=>.refl _
 | y::r=>by
  rw[uP]
  split
  ·exact((qO x r).cons y).trans (List.Perm.swap ..)
  ·exact .refl _
theorem fz:∀l:List T3,(iG l).Perm l
 |[]=>.refl _
 |x::r=>(qO x _).trans ((fz r).cons x)
theorem NH(ts:List T3)(hl:ts.length<64):gO (ts.map aP)=some ((iG ts).map aP):=by
 have e:∀us:List T3,us.map aP=(us.map l3).map oH:=λus=>by rw[aaV];rfl
 rw[e,Cj _ (λk hk=>by obtain⟨t,_,rfl⟩:=aaA.mp hk;simp[l3]) (by rw[aak];exact hl),xm,e]
theorem An(hl:ts.length<64):gQ .sorted [.rl (ts.map aP)]=.ok (true,.rl ((iG ts).map aP)):=by
 show pb (pl (gO _)) _=_;rw[NH ts hl];rfl
def DC(ts:List T3):Prop:=ts.Pairwise λa b=>a.1<b.1
theorem DE(x:T3):∀l:List T3,DC l->(∀y∈l,y.1≠x.1)->DC (uP x l)
 |[],_,_=>by simp[uP,DC]
 | y::r,h,hn=>by
  unfold DC at *;rw[aa6]at h;have ny:y.1≠x.1:=hn y aam;rw[uP];have lx:HT.lexLt (l3 y) (l3 x)=decide (y.1<x.1):=by show HT.lexLt (y.1::_) (x.1::_)=_;rw[HT.gu,aas ny]
  rw[lx]
  by_cases c:y.1<x.1
  ·rw[aar (by simpa using c),aa6]
   refine⟨λz hz=>?_,DE x r h.2 λz hz=>hn z (aal _ hz)⟩
   rcases aaz.mp ((qO x r).mem_iff.mp hz) with hz|hz
   ·rw[hz];exact c
   ·exact h.1 z hz
  ·rw[aas (by simpa using c),aa6,aa6]
   refine⟨λz hz=>?_,h⟩;have:x.1<y.1:=by omega
   rcases aaz.mp hz with hz|hz
   ·rw[hz];exact this
   ·have:=h.1 z hz;omega
theorem Ao:∀l:List T3,(l.map (·.1)).Nodup->DC (iG l)
 |[],_=>.nil
 | x::r,h=>by
  rw[aau,aaS]at h;refine DE x _ (Ao r h.2) λy hy e=>h.1 ?_;rw[(fz r).mem_iff]at hy;exact aaA.mpr ⟨y,hy,e⟩
def turnT(t:T3):T3:=(t.1,if t.2.2<t.2.1 then t.2.2 else t.2.1,if t.2.2>t.2.1 then t.2.2 else t.2.1)
def aq(p q:Int)(ts:List T3):Val:=.tup [.tup [.int p,.int q],.rl (ts.map aP)]
theorem NI(p q:Int)(ts:List T3):cop [] .ne (aq p q ts) (aq p q ts)=some false:=by
 have h1:toD 15 [] (.tup [.int p,.int q])=some (.tuple [.int p,.int q]):=rfl;have h2:toD 15 [] (.rl (ts.map aP))=some (.list (ts.map λt=>.tuple ((l3 t).map .int))):=uM aP _ ts λt _=>Jd (l3 t);have h:toD 16 [] (aq p q ts)=some (.tuple [.tuple [.int p,.int q],.list (ts.map λt=>.tuple ((l3 t).map .int))]):=by show (bK (toD 15 []) _).bind _=_;rw[bK,h1,bK,h2,bK];rfl
 refine ne_self h ?_;have hi:∀xs:List Int,PyData.canLayAll0 (xs.map PyData.int)=true:=λxs=>ly _ _ λ_ _=>by rw[PyData.canLay0]
 have h3:PyData.canLayAll0 (ts.map λt=>.tuple ((l3 t).map .int))=true:=ly _ _ λt _=>by rw[PyData.canLay0];exact hi _
 have h4:=hi [p,q];simp only[map_cons,map_nil]at h4;rw[PyData.canLay0,PyData.canLayAll0,PyData.canLay0,h4,PyData.canLayAll0,PyData.canLay0,h3,PyData.canLayAll0];rfl
theorem sX{i j k:Nat}:cF (.tup [i,j,k]) (aP t) env=some (((env.set i (some (.sh,.int t.1))).set j (some (.sh,.int t.2.1))).set k (some (.sh,.int t.2.2))):=rfl
theorem SH:Cd (aP t) (some 1) none=.ok (true,.tup [.int t.2.1,.int t.2.2]):=rfl
theorem uQ{α:Type}(enc:α -> Val)(g:α -> FV):∀(us:List α),(∀u∈us,f (enc u)=.ok (some (g u)))->lQ f (us.map enc)=.ok (us.all λu=>(g u).1,us.map λu=>(g u).2)
 |[],_=>rfl
 | x::xs,h=>by
  rw[aau,lQ,h x aam,aT,uQ enc g xs λy hy=>h y (aal _ hy),aT];rfl
theorem cD{α:Type}(enc dec:α -> Val)(us:List α)(h:∀u∈us,f (enc u)=.ok (some (true,dec u))):lQ f (us.map enc)=.ok (true,us.map dec):=by
 rw[uQ enc (λu=>(true,dec u)) us h];simp
theorem cE{α:Type}(enc dec:α -> Val)(t:α -> Bool):∀(us:List α),(∀u∈us,f (enc u)=.ok (if t u=true then some (true,dec u) else none))->lQ f (us.map enc)=.ok (true,(us.filter t).map dec)
 |[],_=>rfl
 | x::xs,h=>by
  rw[aau,lQ,h x aam,aT,cE enc dec t xs λy hy=>h y (aal _ hy),aT]
  by_cases hx:t x=true
  ·rw[aar hx,abd hx];rfl
  ·rw[aas hx,abe hx]
theorem NJ:∀m,m<67->∀d,d<67->0<m->0<d->(m*d)%67≠0:=by decide +kernel
theorem NK{m c i j:Int}(hm:0<m/\m<67)(hi:0<=i/\i<67)(hj:0<=j/\j<67)(e:(m*i+c)%67=(m*j+c)%67):i=j:=by
 have key:∀i j:Int,0<=i->j<67->i<j->(m*i+c)%67=(m*j+c)%67->False:=by
  intro i j h0 h1 hlt e;obtain⟨a,ha⟩:=Int.eq_ofNat_of_zero_le (show 0<=m by omega);obtain⟨d,hd⟩:=Int.eq_ofNat_of_zero_le (show 0<=j-i by omega);have p:=NJ a (by omega) d (by omega) (by omega) (by omega);have:m*j=m*i+m*(j-i):=by rw[Int.mul_sub];omega
  rw[this]at e;have e2:(m*(j-i))%67=0:=by omega
  rw[ha,hd]at e2;apply p;have:((a*d:Nat):Int)%67=0:=by rw[Int.natCast_mul];exact e2
  omega
 rcases Int.lt_trichotomy i j with h|h|h
 ·exact(key i j hi.1 hj.2 h e).elim
 ·exact h
 ·exact(key j i hj.1 hi.2 h e.symm).elim
theorem uR{α:Type}{f:Hs->Option α}{a:α}(e:f h=some a):ask f h=.ok a h:=by show (match f h with|some a=>Out.ok a h|none=>Out.no)=_;rw[e]
theorem pY{α β:Type}{f:Hs->Option α}{g:α -> M β}{a:α}(e:f h=some a):bnd (ask f) g h=g a h:=aG (uR e)
theorem sY{α β:Type}{o:Option α}{g:α -> M β}{a:α}(e:o=some a):bnd (bB o) g h=g a h:=aG (by unfold bB;rw[e])
def in3:List Val->Option (Int×Int×Int)
 |[a,b,c]=>(gq a).bind λa=>(gq b).bind λb=>(gq c).bind λc=>some (a,b,c)
 |_=>none
def Pa(v:Val):Option (Int×Int×Int):=(RT v).bind in3
def NL(v:Val):Option (Int×Int×List Val):=(RT v).bind λvs=>(Uq vs).bind λx=>(RT x.1).bind λps=>(Uq ps).bind λy=>(gq y.1).bind λp=>(gq y.2).bind λq=>(Wj x.2).bind λts=>some (p,q,ts)
theorem SJ(h:NL v=some x):v=.tup [.tup [.int x.1,.int x.2.1],.rl x.2.2]:=by
 obtain⟨vs,e1,h⟩:=aah.mp h;obtain⟨a,e2,h⟩:=aah.mp h;obtain⟨ps,e3,h⟩:=aah.mp h;obtain⟨b,e4,h⟩:=aah.mp h;obtain⟨p,e5,h⟩:=aah.mp h;obtain⟨q,e6,h⟩:=aah.mp h;obtain⟨ts,e7,h⟩:=aah.mp h;cases h;rw[Fd e1,Ad e2,Fd e3,Ad e4,qJ e5,qJ e6,Ng e7]
def newD:Pr FV->Option Val
 |.ok (true,v)=>some v
 |_=>none
theorem Jg(h:newD o=some v):o=.ok (true,v):=by
 cases o with
 |ok x=>obtain⟨b,w⟩:=x;cases b<;>cases h;rfl
 |_=>cases h
def kr(kvs:List (Key×Val))(t:Int×Int×Int):List (Key×Val):=jD kvs (.inl t.1) (.tup [.int t.2.1,.int t.2.2])
def gB(p q:Int)(ts:List (Int×Int×Int)):List (Key×Val):=ts.foldl kr [(.inl (-1),.tup [.int p,.int q])]
def Aq(Ψ:Nat->List Val->Pr FV)(c jo jp:Nat)(ds:List Val):Pr FV:=match ds with
 |[net]=>pb (pl ((newD (Ψ jo [net])).bind NL)) λx=>pb (pl (bK Pa x.2.2)) λes=>pg (decide (es.length<1000)) (pb (pl (newD (Ψ jp [.tup [.tup [.int x.1,.int x.2.1],.rl x.2.2]]))) λy=>
   .ok (true,.ob c ["net","places","ends"] [.tup [.tup [.int x.1,.int x.2.1],.rl x.2.2],y,.dc ((gB x.1 x.2.1 es).map (·.1)) ((gB x.1 x.2.1 es).map (·.2))]))
 |_=>.no
abbrev xq(n jo jp:Nat):bY:=.cons (.setF n (!0) "net" (.call jo #[!1])) (.cons (.setF n (!0) "places" (.call jp #[.fld n (!0) "net"])) (.cons (.setF n (!0) "ends" (.dct1 (.con "THOUGHT" (.int (-1))) (.idx (.fld n (!0) "net") (¬0))))
 #[.for (.tup [2,3,4]) .seq #[.idx (.fld n (!0) "net") (¬1)] #[.ig (.fld n (!0) "ends") (!2) (.tup #[!3,!4])]]))
def DF(t:Int×Int×Int):Val:=.tup [.int t.1,.int t.2.1,.int t.2.2]
theorem NO(e:Pa v=some t):v=DF t:=by
 obtain⟨vs,e1,e⟩:=aah.mp e;rw[Fd e1]
 rcases vs with _|⟨a,_|⟨b,_|⟨c,_|⟨d,r⟩⟩⟩⟩<;>first|(cases e;done)|skip
 obtain⟨a',e2,e⟩:=aah.mp e;obtain⟨b',e3,e⟩:=aah.mp e;obtain⟨c',e4,e⟩:=aah.mp e;cases e;rw[qJ e2,qJ e3,qJ e4];rfl
theorem Ar:∀{vs:List Val} {ts:List (Int×Int×Int)},bK Pa vs=some ts->vs=ts.map DF
 |[],ts,e=>by cases e;rfl
 | v::vs,ts,e=>by
  rw[bK]at e;obtain⟨t,e1,e⟩:=aah.mp e;obtain⟨r,e2,e⟩:=aah.mp e;cases e;rw[NO e1,Ar e2];rfl
theorem yI:∀ts:List (Int×Int×Int),b6 (ts.map DF)=true
 |[]=>rfl
 |t::r=>by rw[aau,b6,yI r];rfl
theorem Jh(kvs:List (Key×Val))(k:Key)(v:Val):(jD kvs k v).length<=kvs.length+1:=by
 unfold jD
 split
 ·rw[aak];omega
 ·rw[aaI];simp
theorem Ji(hv:jL v=true)(kvs:List (Key×Val))(h:∀kv∈kvs,jL kv.2=true):∀kv∈jD kvs k v,jL kv.2=true:=by
 unfold jD;intro kv hk;split at hk
 ·obtain⟨z,hz,rfl⟩:=aaA.mp hk
  split
  ·exact hv
  ·exact h z hz
 ·rcases aaT.mp hk with hk|hk
  ·exact h kv hk
  ·rw[aaF.mp hk];exact hv
theorem As:∀(ts:List (Int×Int×Int)) (kvs:List (Key×Val)),(∀kv∈kvs,jL kv.2=true)->∀kv∈ts.foldl kr kvs,jL kv.2=true
 |[],kvs,h=>h
 |t::r,kvs,h=>As r _ (Ji rfl kvs h)
theorem Au:∀{vs:List Val},(∀v∈vs,jL v=true)->b6 vs=true
 |[],_=>rfl
 |v::vs,h=>by rw[b6,h v aam,Au λw hw=>h w (aal _ hw)];rfl
section
variable {Φ:Nat->List Val->M Val} {Ψ:Nat->List Val->Pr FV}
theorem xr{n c D L E:Nat}{ts:List (Int×Int×Int)}{fs:List (Str×Val)}(hc:c<n)(hf:fs.lookup ("ends":Str)=some (Val.ref E))(SK:ts.length<1000)(hDE:D≠E)(ZS:L≠E) :
  ∀(m j:Nat) (kvs:List (Key×Val)) (env:Env) (h h':Hs),m+j=ts.length->kvs.length<=j+1->env[0]?=some (some (.ref D))->4<env.length->h[D]?=some (.ins c fs)->h[L]?=some (.lst (ts.map DF))->h'.length=h.length->(∀k,k≠E->h'[k]?=h[k]?)->h'[E]?=some (.dct kvs) ->
  ∃env' h2,forM (.live L) (λx env=>bnd (bB (gp (.tup [2,3,4]) x env)) λenv'=>gm Φ #[.ig (.fld n (!0) "ends") (!2) (.tup #[!3,!4])] env') m j env h'=.ok (.nx env') h2 /\
   h2.length=h.length/\(∀k,k≠E->h2[k]?=h[k]?)/\h2[E]?=some (.dct ((ts.drop j).foldl kr kvs))
 | 0,j,kvs,env,h,h',hm,hk,he,hl,hD,hL,h1,h2,h3=>by
  refine⟨env,h',?_,h1,h2,?_⟩
  ·rw[forM,pY (a:=ts.map DF) (fu (by rw[h2 L ZS];exact hL))];unfold aR;rw[aar (decide_eq_true (by rw[aak];omega))];rfl
  ·rw[List.drop_of_length_le (by omega)];exact h3
 | m+1,j,kvs,env,h,h',hm,hk,he,hl,hD,hL,h1,h2,h3=>by
  have hj:j<ts.length:=by omega
  have hE:E<h'.length:=(aao.mp h3).1
  let gS:Env:=((env.set 2 (some (.int ts[j].1))).set 3 (some (.int ts[j].2.1))).set 4 (some (.int ts[j].2.2))
  have b1:gp (.tup [2,3,4]) (DF ts[j]) env=some gS:=rfl;have g0:gS[0]?=some (some (.ref D)):=by show (((env.set 2 _).set 3 _).set 4 _)[0]?=_;rw[aan (by omega),aan (by omega),aan (by omega)];exact he
  have g2:gS[2]?=some (some (.int ts[j].1)):=by show (((env.set 2 _).set 3 _).set 4 _)[2]?=_;rw[aan (by omega),aan (by omega),aat (by omega)]
  have g3:gS[3]?=some (some (.int ts[j].2.1)):=by show (((env.set 2 _).set 3 _).set 4 _)[3]?=_;rw[aan (by omega),aat (by rw[abE];omega)]
  have g4:gS[4]?=some (some (.int ts[j].2.2)):=by show (((env.set 2 _).set 3 _).set 4 _)[4]?=_;rw[aat (by rw[abE,abE];omega)]
  have evf:aN Φ (.fld n (!0) "ends") gS h'=.ok (.ref E) h':=by rw[aN,aG (cJ g0)];refine uR (f:=λh=>nY n h (.ref D) "ends") ?_;unfold nY;dsimp only;rw[h2 D hDE,hD];dsimp only;rw[aar hc];exact hf
  have evt:aN Φ (.tup #[!3,!4]) gS h'=.ok (.tup [.int ts[j].2.1,.int ts[j].2.2]) h':=by
   rw[aN,aG (a:=[.int ts[j].2.1,.int ts[j].2.2]) (h1:=h')]
   ·unfold aR;rw[aar (decide_eq_true (show ([Val.int ts[j].2.1,Val.int ts[j].2.2]:List Val).length<=sizeLine from(by decide:2<=sizeLine)))];rfl
   ·rw[bu,aG (cJ g3),bu];rw[show bnd (bnd (aN Φ (!4) gS) λd=>bnd (bu Φ .nil gS) λds=>ret (d::ds)) (λds=>ret (Val.int ts[j].2.1::ds)) h'=_ from aG (a:=[.int ts[j].2.2]) (h1:=h') (by rw[aG (cJ g4),bu];rfl)];rfl
  have st:gm Φ #[.ig (.fld n (!0) "ends") (!2) (.tup #[!3,!4])] gS h'=.ok (.nx gS) (h'.set E (.dct (kr kvs ts[j]))):=by
   rw[gm,aG (a:=Fl.nx gS) (h1:=h'.set E (.dct (kr kvs ts[j])))]
   ·dsimp only;rw[gm];rfl
   ·rw[iw,aG evt,aG evf,aG (cJ g2)]
    rw[aG (a:=()) (h1:=h'.set E (.dct (kr kvs ts[j])))]
    ·rfl
    ·unfold zO;dsimp only;rw[pY (f:=λh=>h[E]?) h3];dsimp only;rw[sY (o:=keyOf (.int ts[j].1)) (a:=.inl ts[j].1) rfl];unfold aR;rw[aar (decide_eq_true (by unfold sizeLine;omega))];rfl
  have hlen:(kr kvs ts[j]).length<=j+1+1:=aaN (Jh _ _ _) (by omega);obtain⟨mO,h4,r1,r2,r3,r4⟩:=xr hc hf SK hDE ZS m (j+1) (kr kvs ts[j]) gS h (h'.set E (.dct (kr kvs ts[j]))) (by omega) hlen g0 (by show 4<(((env.set 2 _).set 3 _).set 4 _).length;simp;omega) hD hL (by simp[h1])
   (λk hk=>by rw[aan λz=>hk z.symm];exact h2 k hk) (aat hE)
  refine⟨mO,h4,?_,r2,r3,?_⟩
  ·rw[forM,pY (a:=ts.map DF) (fu (by rw[h2 L ZS];exact hL))]
   rw[show (ts.map DF)[j]?=some (DF ts[j]) by rw[aaJ,aaR hj];rfl];dsimp only;rw[aG (a:=Fl.nx gS) (h1:=h'.set E (.dct (kr kvs ts[j])))]
   ·exact r1
   ·rw[sY b1];exact st
  ·rw[List.drop_eq_getElem_cons hj,foldl_cons];exact r4
theorem yJ{n c i:Nat}(hc:c<n)(g:h[i]?=some (.ins c fs))(hl:fs.length<1000):bnd (CP n (.ref i) x v) (λ_=>ret (Fl.nx env)) h=.ok (.nx env) (h.set i (.ins c (uh x v fs))):=by
 unfold CP;dsimp only;rw[aJ,pY (a:=(c,fs)) (by rw[g];dsimp only;rw[aar hc])];dsimp only;unfold bnd aR;rw[aar (decide_eq_true hl)];rfl
theorem Jj{n c jo jp:Nat}(hc:c<n)(hΦ:∀j,Imp (Φ j) (Ψ j)){p q':Int}(u:Up A h)(qn:Dn A h net v)(e1:Ψ jo [net]=.ok (true,.tup [.tup [.int p,.int q'],.rl ts]))(e2:bK Pa ts=some es)(hz:es.length<1000)
  (e3:Ψ jp [.tup [.tup [.int p,.int q'],.rl ts]]=.ok (true,y)):∃(h8:Hs) (V1 v2 vE:Val),fj Φ 5 (xq n jo jp) [.ref h.length,v] (h++[Ob.ins c []])=.ok .non h8/\h<+:h8/\h8[h.length]?=some (.ins c [("net",V1),("places",v2),("ends",vE)]) /\
   ∀B:AP,(∀k,h.length+1<=k->B (some k))->av B h8 [.tup [.tup [.int p,.int q'],.rl ts],y,.dc ((gB p q' es).map (·.1)) ((gB p q' es).map (·.2))] [V1,v2,vE]:=by
 have et:=Ar e2;have p01:h<+:h++[Ob.ins c []]:=aa7 _ _;have u1:=u.ext p01;have R1:=hΦ jo A (h++[Ob.ins c []]) [net] [v] u1 (av.cons (qn.ext p01) av.nil);rw[e1] at R1;obtain⟨v1,h2,f1,ZT,_,dF⟩:=R1;have dA:=dF rfl;clear dF;have RB:h2[h.length]?=some (.ins c []):=cC ZT (by simp);have l2:h.length+1<=h2.length:=by have:=ZT.length_le;simpa using this
 rw[Dn]at dA;obtain⟨ws,rfl,dB⟩:=dA;rw[av]at dB;obtain⟨w0,r0,rfl,d0,d1⟩:=dB;obtain⟨w1,rfl,d5⟩:=av.one d1;clear d1;have ew0:w0=.tup [.int p,.int q']:=(j4 _ _ (show jL (.tup [.int p,.int q'])=true from rfl)).mp d0;subst ew0;rw[Dn]at d5
 rcases d5 with ⟨_,_,z,_⟩|⟨L,ws,rfl,aL,gL,d6⟩
 ·exact False.elim z
 rw[et]at d6;have ews:ws=es.map DF:=(aZ _ _ (yI es)).mp d6;subst ews;have hL:(h++[Ob.ins c []]).length<=L:=aL;have hL':h.length+1<=L:=by simpa using hL
 have lL:L<h2.length:=(aao.mp gL).1
 let V1:Val:=.tup [.tup [.int p,.int q'],.ref L]
 let h3:Hs:=h2.set h.length (.ins c [("net",V1)])
 have Um:h3[h.length]?=some (.ins c [("net",V1)]):=aat (by omega);have gL3:h3[L]?=some (.lst (es.map DF)):=by show (h2.set _ _)[L]?=_;rw[aan (by omega)];exact gL
 have l3:h3.length=h2.length:=abE;have dn3:Dn (Fr (h.length+1)) h3 (.tup [.tup [.int p,.int q'],.rl ts]) V1:=by rw[Dn];refine⟨_,rfl,av.cons ((j4 _ _ (show jL (.tup [.int p,.int q'])=true from rfl)).mpr rfl) (av.cons ?_ av.nil)⟩;rw[Dn];exact .inr ⟨L,_,rfl,hL',gL3,by rw[et];exact(aZ _ _ (yI es)).mpr rfl⟩
 have R2:=hΦ jp (Fr (h.length+1)) h3 [.tup [.tup [.int p,.int q'],.rl ts]] [V1] (λk hk=>by show h.length+1<=k;omega) (av.cons dn3 av.nil);rw[e3] at R2;obtain⟨v2,h4,f2,Xc,_,dG⟩:=R2;have d2:=dG rfl;clear dG;have V3:h4[h.length]?=some (.ins c [("net",V1)]):=cC Xc Um;have l4:h3.length<=h4.length:=Xc.length_le
 let h5:Hs:=h4.set h.length (.ins c [("net",V1),("places",v2)])
 have hD5:h5[h.length]?=some (.ins c [("net",V1),("places",v2)]):=aat (by omega);have l5:h5.length=h4.length:=abE
 let h6:Hs:=h5++[Ob.dct [(.inl (-1),.tup [.int p,.int q'])]]
 have hD6:h6[h.length]?=some (.ins c [("net",V1),("places",v2)]):=cC (aa7 _ _) hD5;have l6:h6.length=h5.length+1:=by show (h5++[_]).length=_;simp
 let FS:List (Str×Val):=[("net",V1),("places",v2),("ends",.ref h5.length)]
 let h7:Hs:=h6.set h.length (.ins c FS)
 have ZU:h7[h.length]?=some (.ins c FS):=aat (by omega);have l7:h7.length=h6.length:=abE;have hE7:h7[h5.length]?=some (.dct [(.inl (-1),.tup [.int p,.int q'])]):=by show (h6.set _ _)[h5.length]?=_;rw[aan (by omega)];show (h5++[_])[h5.length]?=_;simp
 have hk7:∀k,k≠h.length->k<h4.length->h7[k]?=h4[k]?:=λk n1 n2=>by
  show (h6.set _ _)[k]?=_;rw[aan λz=>n1 z.symm];show (h5++[_])[k]?=_;rw[aax (by omega)];show (h4.set _ _)[k]?=_;rw[aan λz=>n1 z.symm]
 have gL4:h4[L]?=some (.lst (es.map DF)):=cC Xc gL3;have gL7:h7[L]?=some (.lst (es.map DF)):=by rw[hk7 L (by omega) (by omega)];exact gL4
 let env:Env:=[some (.ref h.length),some v,none,none,none]
 have k1:("ends":Str) ≠ "net":=by decide
 obtain⟨env',h8,lp,l8,k8,d8⟩:=xr (Φ:=Φ) (fs:=FS) (ts:=es) hc (by rfl) hz (by omega) (by omega) es.length 0 [(.inl (-1),.tup [.int p,.int q'])] env h7 h7 (by omega) (by simp) rfl (by decide:4<5) ZU gL7 rfl (λ_ _=>rfl) hE7;have fldN:∀(g:Hs) (fs:List (Str×Val)),g[h.length]?=some (.ins c (("net",V1)::fs))->aN Φ (.fld n (!0) "net") env g=.ok V1 g:=λg fs hg=>by
  rw[aN,aG (cJ rfl)];refine uR (f:=λh'=>nY n h' (.ref h.length) "net") ?_;unfold nY;dsimp only;rw[hg];dsimp only;rw[aar hc];rfl
 have s1:iw Φ (.setF n (!0) "net" (.call jo #[!1])) env (h++[Ob.ins c []])=.ok (.nx env) h3:=by
  have e:aN Φ (.call jo #[!1]) env (h++[Ob.ins c []])=.ok V1 h2:=by
   rw[aN,aG (a:=[v]) (h1:=h++[Ob.ins c []])]
   ·exact f1
   ·rw[bu,aG (cJ rfl),bu];rfl
  rw[iw,aG e,aG (cJ rfl)];exact yJ hc RB (by decide)
 have s2:iw Φ (.setF n (!0) "places" (.call jp #[.fld n (!0) "net"])) env h3=.ok (.nx env) h5:=by
  have e:aN Φ (.call jp #[.fld n (!0) "net"]) env h3=.ok v2 h4:=by
   rw[aN,aG (a:=[V1]) (h1:=h3)]
   ·exact f2
   ·rw[bu,aG (fldN h3 [] Um),bu];rfl
  rw[iw,aG e,aG (cJ rfl)];exact yJ hc V3 (by decide:1<1000)
 have s3:iw Φ (.setF n (!0) "ends" (.dct1 (.con "THOUGHT" (.int (-1))) (.idx (.fld n (!0) "net") (¬0)))) env h5=.ok (.nx env) h7:=by
  have e0:aN Φ (.idx (.fld n (!0) "net") (¬0)) env h5=.ok (.tup [.int p,.int q']) h5:=by rw[aN,aG (fldN h5 _ hD5),aG (a:=.int 0) (h1:=h5) (by rw[aN];rfl)];rfl
  have e:aN Φ (.dct1 (.con "THOUGHT" (.int (-1))) (.idx (.fld n (!0) "net") (¬0))) env h5=.ok (.ref h5.length) h6:=by rw[aN,aG (a:=.int (-1)) (h1:=h5) (by rw[aN];rfl),sY (o:=keyOf (.int (-1))) (a:=.inl (-1)) rfl,aG e0];rfl
  rw[iw,aG e,aG (cJ rfl)];exact yJ hc hD6 (by decide:2<1000)
 have s4:iw Φ (.for (.tup [2,3,4]) .seq #[.idx (.fld n (!0) "net") (¬1)] #[.ig (.fld n (!0) "ends") (!2) (.tup #[!3,!4])]) env h7=.ok (.nx env') h8:=by
  have e0:aN Φ (.idx (.fld n (!0) "net") (¬1)) env h7=.ok (.ref L) h7:=by rw[aN,aG (fldN h7 _ ZU),aG (a:=.int 1) (h1:=h7) (by rw[aN];rfl)];rfl
  rw[iw,aG (a:=[.ref L]) (h1:=h7)]
  ·rw[sY (o:=srcOf .seq [.ref L]) (a:=.live L) rfl,pY (a:=es.map DF) (fu gL7),aak];exact lp
  ·rw[bu,aG e0,bu];rfl
 have run:fj Φ 5 (xq n jo jp) [.ref h.length,v] (h++[Ob.ins c []])=.ok .non h8:=by
  unfold fj;rw[aG (a:=Fl.nx env') (h1:=h8)]
  ·rfl
  ·show gm Φ (xq n jo jp) env _=_;rw[gm,aG s1];dsimp only;rw[gm,aG s2];dsimp only;rw[gm,aG s3];dsimp only;rw[gm,aG s4];dsimp only;rw[gm];rfl
 have ZV:∀k,k≠h.length->k<h4.length->h8[k]?=h4[k]?:=λk n1 n2=>(k8 k (by omega)).trans (hk7 k n1 n2);have hpre:h<+:h8:=by
  refine List.prefix_iff_getElem?.mpr λi hi=>?_;have hi4:i<h4.length:=by omega
  rw[ZV i (by omega) hi4];have:(h2.set h.length (.ins c [("net",V1)]))[i]?=h2[i]?:=aan (by omega);have e3':h4[i]?=h3[i]?:=gR Xc (by omega);rw[e3',this,gR ZT (by simp;omega),aax hi,aaR hi]
 refine⟨h8,V1,v2,.ref h5.length,run,hpre,by rw[k8 _ (by omega)];exact ZU,λB hB=>av.cons ?_ (av.cons ?_ (av.cons ?_ av.nil))⟩
 ·refine Dn.mono (A:=Fr (h.length+1)) (h:=h3) (λo z=>?_) (λk o a g=>?_) _ _ dn3
  ·cases o with
   |none=>exact False.elim z
   |some k=>exact hB k z
  ·have a:h.length+1<=k:=a;have:=(aao.mp g).1;rw[ZV k (by omega) (by omega)];exact cC Xc g
 ·refine Dn.mono (A:=Fr h3.length) (h:=h4) (λo z=>?_) (λk o a g=>?_) _ _ d2
  ·cases o with
   |none=>exact False.elim z
   |some k=>exact hB k (by have:h3.length<=k:=z;omega)
  ·have a:h3.length<=k:=a;have:=(aao.mp g).1;rw[ZV k (by omega) (by omega)];exact g
 ·rw[Dn]
  refine⟨h5.length,gB p q' es,rfl,hB _ (by omega),?_,rfl,?_⟩
  ·rw[List.drop_zero]at d8;exact d8
  ·refine(aZ _ _ (Au λw hw=>?_)).mpr rfl;obtain⟨kv,hkv,rfl⟩:=aaA.mp hw;exact As es _ (λkv hk=>by rw[aaF.mp hk];rfl) kv hkv
theorem Jk{n c jo jp:Nat}(hc:c<n)(hΦ:∀j,Imp (Φ j) (Ψ j)):Imp (OQ c (fj Φ 5 (xq n jo jp))) (Aq Ψ c jo jp):=λA h ds vs u q=>by
 unfold Aq
 split
 ·rename_i net
  obtain⟨v,rfl,qn⟩:=av.one q;cases e0:(newD (Ψ jo [net])).bind NL with
  |none=>trivial
  |some x=>
   obtain⟨w,e1,e1'⟩:=aah.mp e0;have e1:=Jg e1;rw[SJ e1']at e1;show Rel A h (RV A h) _ (pb (pl (bK Pa x.2.2)) _);cases e2:bK Pa x.2.2 with
   |none=>trivial
   |some es=>
    show Rel A h (RV A h) _ (pg (decide (es.length<1000)) _)
    by_cases hz:es.length<1000
    ·unfold pg
     rw[aar (decide_eq_true hz)];cases e3:newD (Ψ jp [.tup [.tup [.int x.1,.int x.2.1],.rl x.2.2]]) with
     |none=>trivial
     |some y=>
      obtain⟨h8,V1,v2,vE,r1,p8,g8,d8⟩:=Jj (Ψ:=Ψ) hc hΦ u qn e1 e2 hz (Jg e3);have run:OQ c (fj Φ 5 (xq n jo jp)) [v] h=.ok (.ref h.length) h8:=by show bnd (fj Φ 5 (xq n jo jp) [.ref h.length,v]) _ (h++[Ob.ins c []])=_;rw[aG r1];rfl
      have dn:∀B:AP,(∀k,h.length<=k->B (some k))->Dn B h8 (.ob c ["net","places","ends"] [.tup [.tup [.int x.1,.int x.2.1],.rl x.2.2],y,.dc ((gB x.1 x.2.1 es).map (·.1)) ((gB x.1 x.2.1 es).map (·.2))]) (.ref h.length):=λB hB=>by
       rw[Dn];exact⟨h.length,_,rfl,hB _ (aaw _),g8,rfl,d8 B λk hk=>hB k (by omega)⟩
      exact⟨_,h8,run,p8,dn A λk hk=>u k hk,λ_=>dn _ λk hk=>hk⟩
    ·unfold pg;rw[aas (by simpa using hz)];trivial
 ·trivial
end
def cnt(φ:Int->Int)(ps:List Int):Nat:=(cH [] (ps.map φ)).length
theorem fk{ps:List Int}{v:Int}:v∈cH [] (ps.map φ)↔∃x∈ps,φ x=v:=by
 rw[uO];simp
theorem Jl{ps:List Int}(h:∀x∈ps,∀y∈ps,g x=g y->f x=f y):cnt f ps<=cnt g ps:=by
 classical
 let r:Int->Int:=λv=>if hv:∃x∈ps,f x=v then g (Classical.choose hv) else 0
 have hr:∀v∈cH [] (ps.map f),∃x∈ps,f x=v/\r v=g x:=λv hv=>by
  have e:=fk.mp hv;refine⟨Classical.choose e,(choose_spec e).1,(choose_spec e).2,?_⟩;show (if hv:∃x∈ps,f x=v then g (Classical.choose hv) else 0)=_;rw[dif_pos e]
 have nd:((cH [] (ps.map f)).map r).Nodup:=by
  have n0:=dN (ps.map f) [] abm;revert hr n0;generalize cH [] (ps.map f)=l;intro hr n0
  induction l with
  |nil=>exact abm
  |cons v l ih=>rw[aaS]at n0;rw[aau,aaS];refine⟨λhm=>?_,ih (λw hw=>hr w (aal _ hw)) n0.2⟩;obtain⟨w,hw,e⟩:=aaA.mp hm;obtain⟨x,hx,e1,e2⟩:=hr v (aam ..);obtain⟨y,hy,e3,e4⟩:=hr w (aal _ hw);have:f x=f y:=h x hx y hy (by rw[<-e2,<-e4,e]);exact n0.1 (by rw[<-e1,this,e3];exact hw)
 have:=b8 nd (m:=cH [] (ps.map g)) λz hz=>by
  obtain⟨v,hv,rfl⟩:=aaA.mp hz;obtain⟨x,hx,_,e2⟩:=hr v hv;rw[e2];exact fk.mpr ⟨x,hx,rfl⟩
 rw[aak]at this;exact this
theorem SM{ps:List Int}(h:∀x∈ps,∀y∈ps,f x=f y↔g x=g y):cnt f ps=cnt g ps :=
 Nat.le_antisymm (Jl λx hx y hy=>(h x hx y hy).mpr) (Jl λx hx y hy=>(h x hx y hy).mp)
theorem cnt_join{ps:List Int}{a b:Int}(ha:a∈ps)(hb:b∈ps)(ne:ψ a ≠ ψ b):cnt (λx=>if ψ x = ψ b then ψ a else ψ x) ps+1=cnt ψ ps:=by
 have m1:ψ b∈cH [] (ps.map ψ):=fk.mpr ⟨b,hb,rfl⟩;have n1:=dN (ps.map ψ) [] abm;have n2:=dN (ps.map λx=>if ψ x = ψ b then ψ a else ψ x) [] abm;have le1:=b8 n2 (m:=(cH [] (ps.map ψ)).erase (ψ b)) λv hv=>by
  obtain⟨x,hx,e⟩:=fk.mp hv;rw[List.Nodup.mem_erase_iff n1]
  by_cases c:ψ x = ψ b
  ·rw[aar c]at e;subst e;exact⟨ne,fk.mpr ⟨a,ha,rfl⟩⟩
  ·rw[aas c]at e;subst e;exact⟨c,fk.mpr ⟨x,hx,rfl⟩⟩
 have le2:=b8 (n1.erase (ψ b)) (m:=cH [] (ps.map λx=>if ψ x = ψ b then ψ a else ψ x)) λv hv=>by
  rw[List.Nodup.mem_erase_iff n1]at hv;obtain⟨x,hx,e⟩:=fk.mp hv.2;subst e;exact fk.mpr ⟨x,hx,by rw[aas hv.1]⟩
 rw[List.length_erase_of_mem m1]at le1 le2;have:=List.length_pos_of_mem m1;unfold cnt;omega
theorem lY.fix{ps:List Int}(h:lY ps es φ){x:Int}(hx:x∈ps):φ (φ x) = φ x:=((h.way x hx).const φ h.same).symm
def rk(φ:Int->Int)(ps:List Int):Nat:=(ps.filter λx=>!decide (φ x=x)).length
theorem DG(t:Int->Bool):∀ps:List Int,(ps.filter t).length+(ps.filter λx=>!t x).length=ps.length
 |[]=>rfl
 | x::r=>by
  have ih:=DG t r;cases h:t x with
  |true=>rw[abd h,abe (by simp[h]),aaH,aaH];omega
  |false=>rw[abe (by simp[h]),abd (by simp[h]),aaH,aaH];omega
theorem uS{ps:List Int}(h:lY ps es φ)(hn:ps.Nodup):rk φ ps+cnt φ ps=ps.length:=by
 have e:cnt φ ps=(ps.filter λx=>decide (φ x=x)).length:=by
  unfold cnt;refine Nat.le_antisymm (b8 (dN _ [] abm) λv hv=>?_) (b8 (hn.filter _) λv hv=>?_)
  ·obtain⟨x,hx,rfl⟩:=fk.mp hv;exact aa0.mpr ⟨h.lX x hx,decide_eq_true (h.fix hx)⟩
  ·obtain⟨a,b⟩:=aa0.mp hv;exact fk.mpr ⟨v,a,aaK b⟩
 rw[e];have:=DG (λx=>decide (φ x=x)) ps;unfold rk;omega
theorem Xd{ps:List Int}{n:Nat}(h1:lY ps es φ)(h2:lY ps es ψ)(hn:ps.Nodup)(e:n+cnt ψ ps=ps.length):n=rk φ ps:=by
 have c:cnt φ ps=cnt ψ ps:=SM λx hx y hy=>by rw[h1.iff hx hy,h2.iff hx hy]
 have:=uS h1 hn;omega
theorem lY.Fi{ps:List Int}(h:lY ps es f){a b:Int}(ha:a∈ps)(hb:b∈ps)(e:f a=f b):lY ps (es++[(a,b)]) f:=by
 have:=h.step ha hb (f a) (f b) (.inl ⟨rfl,rfl⟩);have ef:(λx=>if f x=f b then f a else f x)=f:=funext λx=>by
  split
  ·rename_i c;rw[c,e]
  ·rfl
 rwa [ef]at this
theorem SN{xs:List Int}{x:Int}:sy [] (vp xs g) (.inl x)=some (if x∈xs then some (g x) else none):=by
 unfold sy vp;dsimp only;rw[yG]
 congr 1
 unfold dm
 induction xs with
 |nil=>simp
 |cons y r ih=>
  rw[aau,find?_cons]
  by_cases e:y=x
  ·subst e;simp
  ·have:((Sum.inl y:Key)=Sum.inl x)=False:=by simp[e]
   have e':¬ x=y:=λh=>e h.symm;simp only[this,decide_false];rw[ih];simp[e']
def Ur(ps:List Int)(es:List (Int×Int)):Prop:=∀e∈es,e.1∈ps/\e.2∈ps
theorem Jm{ps:List Int}:∀(es pre:List (Int×Int)) (φ:Int->Int),lY ps pre φ -> Ur ps es->∃ψ,lY ps (pre++es) ψ
 |[],pre,φ,h,_=>⟨φ,by rw[aa1];exact h⟩
 | e::r,pre,φ,h,hi=>by
  obtain⟨h1,h2⟩:=hi e aam;have st:=h.step h1 h2 (φ e.1) (φ e.2) (.inl ⟨rfl,rfl⟩);obtain⟨ψ,k⟩:=Jm r (pre++[(e.1,e.2)]) _ st λx hx=>hi x (aal _ hx);exact⟨ψ,by rw[abw]at k;exact k⟩
theorem Jo{ps:List Int}(hi:Ur ps es):∃ψ,lY ps es ψ:=by
 obtain⟨ψ,h⟩:=Jm es [] id (lY.start ps) hi;exact⟨ψ,h⟩
theorem lY.Jp{ps:List Int}(h:lY ps es φ)(hm:∀e,e∈es↔e∈es'):lY ps es' φ :=
 ⟨h.lX,λx hx=>(h.way x hx).mono λe he=>(hm e).mp he,λe he=>h.same e ((hm e).mpr he)⟩
open Classical in
def tr(ps:List Int)(es:List (Int×Int)):Nat:=if h:∃φ,lY ps es φ then rk (Classical.choose h) ps else 0
theorem pZ{ps:List Int}(h:lY ps es φ)(hn:ps.Nodup):tr ps es=rk φ ps:=by
 unfold tr;have h':∃φ,lY ps es φ:=⟨φ,h⟩;rw[dif_pos h'];have h2:=choose_spec h';exact Xd h h2 hn (uS h2 hn)
theorem Av{ps:List Int}(hn:ps.Nodup)(hi:Ur ps es)(hm:∀e,e∈es↔e∈es'):tr ps es=tr ps es':=by
 obtain⟨φ,h⟩:=Jo hi;rw[pZ h hn,pZ (h.Jp hm) hn]
open Classical in
theorem NP{ps:List Int}{a b:Int}(hn:ps.Nodup)(hi:Ur ps es)(ha:a∈ps)(hb:b∈ps)(hm:∀e,e∈es'↔e∈es\/e=(a,b)):tr ps es'=tr ps es+if Way es a b then 0 else 1:=by
 obtain⟨φ,h⟩:=Jo hi;have hi':Ur ps (es++[(a,b)]):=λe he=>by
  rcases aaT.mp he with he|he
  ·exact hi e he
  ·rw[aaF.mp he];exact⟨ha,hb⟩
 rw[<-Av (es:=es++[(a,b)]) hn hi' (λe=>by rw[hm e];simp)]
 by_cases c:φ a = φ b
 ·rw[aar ((h.iff ha hb).mp c),pZ (h.Fi ha hb c) hn,pZ h hn,Nat.add_zero]
 ·rw[aas (λw=>c ((h.iff ha hb).mpr w))];have st:=h.step ha hb (φ a) (φ b) (.inl ⟨rfl,rfl⟩);have e1:=uS st hn;have e2:=uS h hn;have e3:=cnt_join ha hb c;rw[pZ st hn,pZ h hn];omega
def bP(venv:aU):aU:=venv.map λo=>match o with
 |some (.nw,.non)=>none
 |some (_,d)=>some (.sh,d)
 |none=>none
def jh(venv:aU):aU:=venv.map λo=>match o with
 |some (.sh,d)=>some (.sh,d)
 |_=>none
def Fj(Ψ:Nat->List Val->Pr FV)(e:IE)(env:aU):Pr FV:=match bA Ψ e (jh env) with
 |.ok x=>.ok x
 |_=>pb (bA Ψ e (bP env)) λx=>pg x.1 (.ok x)
def p7:List Val->Option (List (List Int)):=bK λv=>match v with
 |.rl es=>aX es
 |_=>none
def new2:IE->Option (IE×IE)
 |.tup #[a,b]=>some (a,b)
 |_=>none
inductive XK
 |apT (i:Nat) (a:IE)
 |apN (i:Nat) (a:IE)
 |clN (i:Nat)
def XK.ie:XK->IE
 |.apT i a=>.met .append (.idx (.var i) (¬0)) #[a]
 |.apN i a=>.met .append (.idx (.idx (.var i) (¬1)) (¬0)) #[a]
 |.clN i=>.svals (.idx (.idx (.var i) (¬1)) (¬1))
def XK.at:XK->Nat
 |.apT i _=>i
 |.apN i _=>i
 |.clN i=>i
inductive Vw
 |v (i:Nat)|c (d:Val)|x (a b:IE)|p (r a:IE)|l (r:IE)
def Vw.ie:Vw->IE
 |.v i=>.var i|.c d=>.cst d|.x a b=>.idx a b|.p r a=>.met .append r #[a]|.l r=>.svals r
def vw:IE->Option Vw
 |.var i=>some (.v i)|.cst d=>some (.c d)|.idx a b=>some (.x a b)|.met .append r #[a]=>some (.p r a)|.svals r=>some (.l r)
 |_=>none
def Vw.v?:Vw->Option Nat
 |.v i=>some i
 |_=>none
def Vw.c?:Vw->Option Val
 |.c i=>some i
 |_=>none
def Vw.x?:Vw->Option (IE×IE)
 |.x a b=>some (a,b)
 |_=>none
def Vw.p?:Vw->Option (IE×IE)
 |.p a b=>some (a,b)
 |_=>none
def Vw.l?:Vw->Option IE
 |.l a=>some a
 |_=>none
abbrev Yo(e:IE):Option Nat:=(vw e).bind Vw.v?
abbrev ct?(e:IE):Option Val:=(vw e).bind Vw.c?
abbrev ix?(e:IE):Option (IE×IE):=(vw e).bind Vw.x?
abbrev ap?(e:IE):Option (IE×IE):=(vw e).bind Vw.p?
abbrev cl?(e:IE):Option IE:=(vw e).bind Vw.l?
def Xe(n:Int)(e:IE):Option IE:=(ix? e).bind λp=>(ct? p.2).bind λd=>(gq d).bind λj=>if j=n then some p.1 else none
def Yp(e:IE):Option XK:=((ap? e).bind λp=>(Xe 0 p.1).bind λr=>((Yo r).bind λi=>some (XK.apT i p.2)).or ((Xe 1 r).bind λq=>(Yo q).bind λi=>some (.apN i p.2))).or
 ((cl? e).bind λr=>(Xe 1 r).bind λr=>(Xe 1 r).bind λq=>(Yo q).bind λi=>some (.clN i))
theorem ZW(h:vw e=some k):e=k.ie:=by
 cases e<;>first|(cases h;done)|(cases h;rfl)|skip
 rename_i m r es;cases m<;>first|(cases h;done)|skip
 cases es with
 |nil=>cases h
 |cons a es=>
  cases es with
  |nil=>cases h;rfl
  |cons b es=>cases h
theorem Jq{α:Type}{f:Vw->Option α}{x:α}(h:(vw e).bind f=some x):∃k,e=Vw.ie k/\f k=some x :=
 let ⟨k,e1,h⟩:=aah.mp h
 ⟨k,ZW e1,h⟩
theorem SO{i:Nat}(h:Yo e=some i):e=.var i:=by obtain⟨k,rfl,h⟩:=Jq h;cases k<;>cases h;rfl
theorem ZX(h:ct? e=some i):e=.cst i:=by obtain⟨k,rfl,h⟩:=Jq h;cases k<;>cases h;rfl
theorem ZY(h:ix? e=some p):e=.idx p.1 p.2:=by obtain⟨k,rfl,h⟩:=Jq h;cases k<;>cases h;rfl
theorem ZZ(h:ap? e=some p):e=.met .append p.1 #[p.2]:=by obtain⟨k,rfl,h⟩:=Jq h;cases k<;>cases h;rfl
theorem Z0(h:cl? e=some r):e=.svals r:=by obtain⟨k,rfl,h⟩:=Jq h;cases k<;>cases h;rfl
theorem DH{n:Int}(h:Xe n e=some r):e=.idx r (.cst (.int n)):=by
 obtain⟨p,e1,h⟩:=aah.mp h;obtain⟨d,e2,h⟩:=aah.mp h;obtain⟨j,e3,h⟩:=aah.mp h
 by_cases c:j=n
 ·rw[aar c]at h;cases h;rw[ZY e1,ZX e2,qJ e3,c]
 ·rw[aas c]at h;cases h
theorem Xf(h:Yp e=some k):e=k.ie:=by
 rcases Option.or_eq_some_iff.mp h with h|⟨_,h⟩
 ·obtain⟨p,e1,h⟩:=aah.mp h
  obtain⟨r,e2,h⟩:=aah.mp h;rw[ZZ e1,DH e2]
  rcases Option.or_eq_some_iff.mp h with h|⟨_,h⟩
  ·obtain⟨i,e3,h⟩:=aah.mp h;cases h;rw[SO e3];rfl
  ·obtain⟨q,e3,h⟩:=aah.mp h;obtain⟨i,e4,h⟩:=aah.mp h;cases h;rw[DH e3,SO e4];rfl
 ·obtain⟨p,e1,h⟩:=aah.mp h;obtain⟨r,e2,h⟩:=aah.mp h;obtain⟨q,e3,h⟩:=aah.mp h;obtain⟨i,e4,h⟩:=aah.mp h;cases h;rw[Z0 e1,DH e2,DH e3,SO e4];rfl
def Yq(env:aU)(i:Nat):Option (List Val×Val):=(Mw (env[i]?)).bind λd=>(RT d).bind λvs=>(Uq vs).bind λp=>(Wj p.1).bind λl=>some (l,p.2)
def Yr(env:aU)(i:Nat):Option (Val×List Val×List Val):=(slO (env[i]?)).bind λd=>(RT d).bind λvs=>(Uq vs).bind λp=>(RT p.2).bind λus=>(Uq us).bind λq=>(Wj q.1).bind λl=>(Wj q.2).bind λm=>some (p.1,l,m)
theorem Xg{i:Nat}(h:Yq env i=some x):env[i]?=some (some (.nw,.tup [.rl x.1,x.2])):=by
 obtain⟨d,e1,h⟩:=aah.mp h;obtain⟨vs,e2,h⟩:=aah.mp h;obtain⟨p,e3,h⟩:=aah.mp h;obtain⟨l,e4,h⟩:=aah.mp h;cases h;rw[O4 e1,Fd e2,Ad e3,Ng e4]
theorem Xh{i:Nat}(h:Yr env i=some x):env[i]?=some (some (.ow,.tup [x.1,.tup [.rl x.2.1,.rl x.2.2]])):=by
 obtain⟨d,e1,h⟩:=aah.mp h;obtain⟨vs,e2,h⟩:=aah.mp h;obtain⟨p,e3,h⟩:=aah.mp h;obtain⟨us,e4,h⟩:=aah.mp h;obtain⟨q,e5,h⟩:=aah.mp h;obtain⟨l,e6,h⟩:=aah.mp h;obtain⟨m,e7,h⟩:=aah.mp h;cases h;rw[Wk e1,Fd e2,Ad e3,Fd e4,Ad e5,Ng e6,Ng e7]
def isJ:Val->Option Unit
 |.non=>some ()
 |_=>none
theorem Xi{u:Unit}(h:isJ v=some u):v=.non:=by cases v<;>cases h;rfl
def Cm(Ψ:Nat->List Val->Pr FV):XK->aU->Pr yv
 |.apT i a,env=>pb (pl (Yq env i)) λy=>pb (bA Ψ a (bP env)) λx=>pb (pl (gq x.2)) λm=>pg (decide (y.1.length<sizeLine)) (.ok (.nx (env.set i (some (.nw,.tup [.rl (y.1++[.int m]),y.2])))))
 |.apN i a,env=>pb (pl (Yr env i)) λy=>pb (bA Ψ a (bP env)) λ_=>pg (decide (y.2.1.length<sizeLine)) (.ok (.nx (env.set i (some (.nw,.non)))))
 |.clN i,env=>pb (pl ((Mw (env[i]?)).bind isJ)) λ_=>.ok (.nx (env.set i none))
mutual
noncomputable def dw(Ψ:Nat->List Val->Pr FV)(sp:List Nat):IS->aU->Pr yv
 | .expr e,env=>match Yp e with
  |some k=>Cm Ψ k env
  |none=>.no
 | .asg p e,env=>match p with
  | .one i=>if sp.contains i=true then (match new2 e with
    |some ab=>pb (bA Ψ ab.1 (bP env)) λx=>pb (bA Ψ ab.2 (bP env)) λy=>pb (pl (p7 [x.2,y.2])) λ_=>pg (x.1&&y.1) (.ok (.nx (env.set i (some (.nw,.tup [x.2,y.2])))))
    |none=>pb (bA Ψ e (bP env)) λx=>pg x.1 (.ok (.nx (env.set i (some (.ow,x.2))))))
    else pb (Fj Ψ e env) λx=>.ok (.nx (env.set i (some (.sh,x.2))))
  |.tup _=>.no
 |.iff c a b,env=>pb (bA Ψ c (bP env)) λx=>pb (pl (dI [] x.2)) λt=>if t=true then iH Ψ sp a env else iH Ψ sp b env
 |.ret e,env=>pb (bA Ψ e (bP env)) λp=>.ok (.rt p)
 |.pass,env=>.ok (.nx env)
 |.ig ..,_=>.no
 |.for ..,_=>.no
 |.brk,_=>.no
 |.cnt,_=>.no
 |.aug ..,_=>.no
 |.whl ..,_=>.no
 |.HF,_=>.no
 |.never,_=>.no
 |.setF ..,_=>.no
noncomputable def iH(Ψ:Nat->List Val->Pr FV)(sp:List Nat):bY->aU->Pr yv
 |.nil,env=>.ok (.nx env)
 | .cons s r,env=>pb (dw Ψ sp s env) λf=>match f with
  |.nx env'=>iH Ψ sp r env'
  |f=>.ok f
end
mutual
noncomputable def Z1:IS->List Nat
 |.expr e=>(match Yp e with|some k=>[k.at]|none=>[])
 |.iff _ a b=>uT a++uT b
 |_=>[]
noncomputable def uT:bY->List Nat
 |.nil=>[]
 |.cons s r=>Z1 s++uT r
end
def SQ(Ψ:Nat->List Val->Pr FV)(n:Nat)(body:bY)(ds:List Val):Pr FV :=
 pb (iH Ψ (uT body) body (ds.map (λd=>some (.sh,d))++replicate (n-ds.length) none)) λf=>match f with
  |.nx _=>.ok (true,.non)
  |.rt p=>.ok p
  |_=>.no
abbrev UR:=Nat->Nat->Prop
def AU(U:UR):AP:=λo=>match o with
 |none=>True
 |some k=>∀i,¬ U i k
def RU(U:UR)(i:Nat):AP:=λo=>match o with
 |none=>False
 |some k=>U i k
def NN(U:UR)(i:Nat)(h:Hs)(d v:Val):Prop:=∃(b c:Nat) (l m:List Int),v=.tup [.ref b,.ref c]/\d=.tup [.rl (l.map .int),.rl (m.map .int)]/\b≠c/\U i b/\U i c/\h[b]?=some (.lst (l.map .int))/\h[c]?=some (.lst (m.map .int))
theorem NN.dn{i:Nat}(q:NN U i h d v)(hA:∀k,U i k->A (some k)):Dn A h d v:=by
 obtain⟨b,c,l,m,rfl,rfl,_,e1,e2,e3,e4⟩:=q;have one:∀(b:Nat) (l:List Int),U i b->h[b]?=some (.lst (l.map .int))->Dn A h (.rl (l.map .int)) (.ref b):=λb l u g=>by
  rw[Dn];exact .inr ⟨b,_,rfl,hA _ u,g,(aZ _ _ (bx l)).mpr rfl⟩
 rw[Dn];exact⟨_,rfl,av.cons (one b l e1 e3) (av.cons (one c m e2 e4) av.nil)⟩
def NT(U:UR)(i:Nat)(h:Hs)(d v:Val):Prop:=d=.non/\∃(a:Val) (b c:Nat) (xs ys:List Val),v=.tup [a,.tup [.ref b,.ref c]]/\U i b/\U i c/\h[b]?=some (.lst xs)/\h[c]?=some (.lst ys)
def NQ(U:UR)(i:Nat)(h:Hs)(d v:Val):Prop:=NN U i h d v\/NT U i h d v
theorem NQ.move{i:Nat}(q:NQ U i h d v)(m:∀(c:Nat) (o:Ob),U i c->h[c]?=some o->U' i c/\h'[c]?=some o):NQ U' i h' d v:=by
 rcases q with ⟨b,c,l,n,e1,e2,e3,e4,e5,e6,e7⟩|⟨e0,a,b,c,xs,ys,e1,e4,e5,e6,e7⟩
 ·exact .inl ⟨b,c,l,n,e1,e2,e3,(m b _ e4 e6).1,(m c _ e5 e7).1,(m b _ e4 e6).2,(m c _ e5 e7).2⟩
 ·exact .inr ⟨e0,a,b,c,xs,ys,e1,(m b _ e4 e6).1,(m c _ e5 e7).1,(m b _ e4 e6).2,(m c _ e5 e7).2⟩
theorem NQ.dn{i:Nat}(q:NQ U i h d v)(n:d≠.non)(hA:∀k,U i k->A (some k)):Dn A h d v:=by
 rcases q with q|⟨e1,_⟩
 ·exact q.dn hA
 ·exact(n e1).elim
theorem Aw:∀{ds:List Val} {ls:List (List Int)},p7 ds=some ls->ds=ls.map λl=>.rl (l.map .int)
 |[],ls,e=>by simp only[p7,bK]at e;cases e;rfl
 | d::ds,ls,e=>by
  simp only[p7,bK]at e;obtain⟨x,e1,e⟩:=aah.mp e;obtain⟨y,e2,e⟩:=aah.mp e;cases e;rw[Aw (show p7 ds=some y from e2)];cases d<;>first|(cases e1;done)|skip
  rw[fF e1];rfl
structure SL (venv:aU) (env:Env) (h:Hs) (U:UR):Prop where
 len:venv.length=env.length
 sh:∀(i:Nat) (d:Val),venv[i]?=some (some (.sh,d))->∃v,env[i]?=some (some v)/\Dn (AU U) h d v
 un:∀(i:Nat) (d:Val),venv[i]?=some (some (.ow,d))->∃v,env[i]?=some (some v)/\Dn (RU U i) h d v
 nn:∀(i:Nat) (d:Val),venv[i]?=some (some (.nw,d))->∃v,env[i]?=some (some v)/\NQ U i h d v
 ub:∀i k,U i k->k<h.length
 NR:∀i j k,U i k->U j k->i=j
structure KU (h:Hs) (U:UR) (h':Hs) (U':UR):Prop where
 le:h.length<=h'.length
 keep:∀k,k<h.length->(∀i,¬ U i k)->h'[k]?=h[k]?/\∀i,¬ U' i k
def Z2(U:UR)(i:Nat):UR:=λj k=>j≠i/\U j k
def Fo(U:UR)(i n m:Nat):UR:=λj k=>if j=i then n<=k/\k<m else U j k
def iK{α β:Type}(R:α -> Hs -> β -> Prop)(o:Out β):Pr α -> Prop
 |.ok a=>∃b h',o=.ok b h'/\R a h' b
 |_=>True
def RL(h:Hs)(U:UR):yv->Hs->Fl->Prop
 |.nx aM,h',.nx env'=>∃U',SL aM env' h' U'/\KU h U h' U'
 |.bk aM,h',.bk env'=>∃U',SL aM env' h' U'/\KU h U h' U'
 |.ct aM,h',.ct env'=>∃U',SL aM env' h' U'/\KU h U h' U'
 |.rt p,h',.rt v=>RV (λ_=>True) h p h' v/\∃U',KU h U h' U'
 |_,_,_=>False
section
variable {α β γ δ:Type} {h h1 h2:Hs} {U U1 U2:UR} {venv:aU} {env:Env}
theorem eZ(r:iK R (m h) p)(k:∀a h1 b,R a h1 b->iK R' (f b h1) (F a)):iK R' (bnd m f h) (pb p F):=by
 unfold bnd;cases p with
 |ok a=>obtain⟨b,h1,e,q⟩:=r;rw[e];exact k a h1 b q
 |exc c es=>trivial
 |no=>trivial
theorem NS(r:Rel A h R o p):iK (λa h' b=>h<+:h'/\R a h' b) o p:=by
 cases p with
 |ok a=>exact r
 |exc c es=>trivial
 |no=>trivial
theorem ku(r:R a h b):iK R (ret b h) (.ok a):=⟨b,h,rfl,r⟩
theorem Jr(r:∀a,o=some a->∃b,o'=some b/\R a h b):iK R (bB o' h) (pl o):=by
 cases o with
 |none=>trivial
 |some a=>obtain⟨b,rfl,q⟩:=r a rfl;exact⟨b,h,rfl,q⟩
theorem p9{c:Bool}(r:c=true->iK R o p):iK R o (pg c p):=by
 unfold pg;cases c with
 |true=>rw[aar rfl];exact r rfl
 |false=>rw[aas aaj];trivial
theorem qP(r:iK R o p)(k:∀a h' b,R a h' b->R' a h' b):iK R' o p:=by
 cases p with
 |ok a=>obtain⟨b,h',e,r⟩:=r;exact⟨b,h',e,k a h' b r⟩
 |exc c es=>trivial
 |no=>trivial
theorem KU.refl(s:SL venv env h U)(p:h<+:h1):KU h U h1 U:=⟨p.length_le,λk hk n=>⟨gR p hk,n⟩⟩
theorem KU.trans(a:KU h U h1 U1)(b:KU h1 U1 h2 U2):KU h U h2 U2 where
 le:=aaN a.le b.le
 keep k hk n:=by obtain⟨a1,a2⟩:=a.keep k hk n;obtain⟨b1,b2⟩:=b.keep k (aay hk a.le) a2;exact⟨b1.trans a1,b2⟩
theorem RL.seq(a:KU h U h1 U1)(r:RL h1 U1 f h' g):RL h U f h' g:=by
 cases f<;>cases g<;>first|exact r.elim|(obtain⟨O',b,c⟩:=r;exact⟨O',b,a.trans c⟩)|(obtain⟨⟨b,c⟩,O',d⟩:=r;exact⟨⟨b,λz=>(c z).g9 (Fr.le a.le)⟩,O',a.trans d⟩)
theorem SL.ext(s:SL venv env h U)(p:h<+:h1):SL venv env h1 U where
 len:=s.len
 sh i d e:=by obtain⟨v,k1,k2⟩:=s.sh i d e;exact⟨v,k1,k2.ext p⟩
 un i d e:=by obtain⟨v,k1,k2⟩:=s.un i d e;exact⟨v,k1,k2.ext p⟩
 nn i d e:=by obtain⟨v,k1,k2⟩:=s.nn i d e;exact⟨v,k1,k2.move λ_ _ a g=>⟨a,cC p g⟩⟩
 ub i k e:=aay (s.ub i k e) p.length_le
 NR:=s.NR
theorem SL.flat(s:SL venv env h U):ER (λ_=>True) (bP venv) env h:=λi f d q=>by
 unfold bP at q;rw[aaJ]at q;cases e:venv[i]? with
 |none=>rw[e]at q;cases q
 |some o=>
  rw[e]at q;cases o with
  |none=>cases q
  |some fd=>
   obtain⟨g,d'⟩:=fd;cases g with
   |nw=>cases d'<;>first|(cases q;done)|(cases q;rw[aas (by decide)];obtain⟨v,k1,k2⟩:=s.nn i _ e;exact⟨v,k1,k2.dn (λz=>nomatch z) λ_ _=>trivial⟩)
   |ow=>cases q;rw[aas (by decide)];obtain⟨v,k1,k2⟩:=s.un i _ e;exact⟨v,k1,k2.g9 λ_ _=>trivial⟩
   |sh=>cases q;rw[aas (by decide)];obtain⟨v,k1,k2⟩:=s.sh i _ e;exact⟨v,k1,k2.g9 λ_ _=>trivial⟩
theorem SL.hide(s:SL venv env h U):ER (AU U) (jh venv) env h:=λi f d q=>by
 unfold jh at q;rw[aaJ]at q;cases e:venv[i]? with
 |none=>rw[e]at q;cases q
 |some o=>
  rw[e]at q;cases o with
  |none=>cases q
  |some fd=>
   obtain⟨g,d'⟩:=fd;cases g with
   |ow=>cases q
   |nw=>cases q
   |sh=>cases q;rw[aas (by decide)];exact s.sh i _ e
theorem SL.up(s:SL venv env h U):Up (AU U) h:=λk hk i z=>by have:=s.ub i k z;omega
theorem Js{i:Nat}:∀o,AU U o->AU (Z2 U i) o
 |none,_=>trivial
 |some k,n=>λj z=>n j z.2
theorem SL.gen(s:SL venv env h U){i:Nat}(hl:env'.length=env.length)(he:∀j,j≠i->env'[j]?=env[j]?)
  (mA:∀(k:Nat) (b:Ob),AU U (some k)->h[k]?=some b->AU U' (some k)/\h'[k]?=some b) (mR:∀j,j≠i->∀(k:Nat) (b:Ob),U j k->h[k]?=some b->U' j k/\h'[k]?=some b)
  (ub:∀j k,U' j k->k<h'.length) (NR:∀j l k,U' j k->U' l k->j=l)
  (at':∀m d,i<venv.length->o=some (m,d)->∃v,env'[i]?=some (some v)/\match m with
   |.sh=>Dn (AU U') h' d v
   |.ow=>Dn (RU U' i) h' d v
   |.nw=>NQ U' i h' d v):SL (venv.set i o) env' h' U':=by
 have off:∀(j:Nat) (m:Mk) (d:Val),(venv.set i o)[j]?=some (some (m,d))->(j=i/\i<venv.length/\o=some (m,d))\/(j≠i/\venv[j]?=some (some (m,d))):=λj m d e=>by
  by_cases hij:i=j
  ·subst hij
   have hi:i<venv.length:=by have:=(aao.mp e).1;simpa using this
   rw[aat hi]at e;cases e;exact .inl ⟨rfl,hi,rfl⟩
  ·rw[aan hij]at e;exact .inr ⟨λz=>hij z.symm,e⟩
 refine⟨by simp[s.len,hl],λj d e=>?_,λj d e=>?_,λj d e=>?_,ub,NR⟩
 ·rcases off j _ _ e with ⟨rfl,a,b⟩|⟨n,e⟩
  ·exact at' _ _ a b
  ·obtain⟨w,k1,k2⟩:=s.sh j d e;exact⟨w,(he j n).trans k1,Dn.move (λ_=>trivial) mA _ _ k2⟩
 ·rcases off j _ _ e with ⟨rfl,a,b⟩|⟨n,e⟩
  ·exact at' _ _ a b
  ·obtain⟨w,k1,k2⟩:=s.un j d e;exact⟨w,(he j n).trans k1,Dn.move (A:=RU U j) (A':=RU U' j) (λz=>False.elim z) (λk b a g=>mR j n k b a g) _ _ k2⟩
 ·rcases off j _ _ e with ⟨rfl,a,b⟩|⟨n,e⟩
  ·exact at' _ _ a b
  ·obtain⟨w,k1,k2⟩:=s.nn j d e;exact⟨w,(he j n).trans k1,k2.move λk b=>mR j n k b⟩
theorem DI{i:Nat}:∀j,j≠i->(env.set i v)[j]?=env[j]?:=λj n=>aan λz=>n z.symm
theorem SL.at_(s:SL venv env h U){i:Nat}(hi:i<venv.length):(env.set i (some v))[i]?=some (some v):=aat (by rw[<-s.len];exact hi)
theorem SL.set(s:SL venv env h U){i:Nat}(q:Dn (AU U) h d v):SL (venv.set i (some (.sh,d))) (env.set i (some v)) h (Z2 U i)/\KU h U h (Z2 U i) :=
 ⟨s.gen (by simp) DI (λk b a g=>⟨Js _ a,g⟩) (λj n k b a g=>⟨⟨n,a⟩,g⟩) (λj k e=>s.ub j k e.2) (λj l k a b=>s.NR j l k a.2 b.2) (λm d' hi e=>by cases e;exact⟨v,s.at_ hi,q.g9 Js⟩),aaw _,λk hk n=>⟨rfl,λj z=>n j z.2⟩⟩
theorem SL.Xj(s:SL venv env h U)(p:h<+:h1){i:Nat}(q:Dn (Fr h.length) h1 d v):SL (venv.set i (some (.ow,d))) (env.set i (some v)) h1 (Fo U i h.length h1.length)/\KU h U h1 (Fo U i h.length h1.length):=by
 have no:∀k j,k<h.length->¬ U j k->¬ Fo U i h.length h1.length j k:=λk j hk n z=>by
  unfold Fo at z;split at z
  ·omega
  ·exact n z
 refine⟨s.gen (by simp) DI (λk o a g=>⟨λj=>no k j (aao.mp g).1 (a j),cC p g⟩) (λj n k b a g=>⟨?_,cC p g⟩) (λj k e=>?_) (λj l k e1 e2=>?_) (λm d' hi e=>?_),p.length_le,λk hk n=>⟨gR p hk,λj=>no k j hk (n j)⟩⟩
 ·unfold Fo;rw[aas n];exact a
 ·unfold Fo at e
  split at e
  ·exact e.2
  ·exact aay (s.ub j k e) p.length_le
 ·unfold Fo at e1 e2
  split at e1<;>split at e2
  ·rename_i a b;rw[a,b]
  ·have:=s.ub l k e2;omega
  ·have:=s.ub j k e1;omega
  ·exact s.NR j l k e1 e2
 ·cases e;refine⟨v,s.at_ hi,Dn.move (A:=Fr h.length) (λz=>False.elim z) (λk o a g=>⟨?_,g⟩) _ _ q⟩;show Fo U i h.length h1.length i k;unfold Fo;rw[aar rfl];exact⟨a,(aao.mp g).1⟩
theorem SL.SS(s:SL venv env h U){i b:Nat}(hb:U i b) (at':∀m d,i<venv.length->x=some (m,d)->∃v,env[i]?=some (some v)/\match m with
   |.sh=>Dn (AU U) (h.set b o) d v
   |.ow=>Dn (RU U i) (h.set b o) d v
   |.nw=>NQ U i (h.set b o) d v):SL (venv.set i x) env (h.set b o) U/\KU h U (h.set b o) U :=
 ⟨s.gen rfl (λ_ _=>rfl) (λk b' a g=>⟨a,by rw[aan λz=>a i (by rw[<-z];exact hb)];exact g⟩) (λj n k b' a g=>⟨a,by rw[aan λz=>n (s.NR j i k a (by rw[<-z];exact hb))];exact g⟩)
  (λj k e=>by rw[abE];exact s.ub j k e) s.NR at',by simp,λk hk n=>⟨by rw[aan λz=>n i (by rw[<-z];exact hb)],n⟩⟩
theorem SL.Z3(s:SL venv env h U){i b:Nat}(hb:U i b):SL (venv.set i none) env (h.set b o) U/\KU h U (h.set b o) U:=s.SS hb λ_ _ _ e=>nomatch e
theorem SL.toN(s:SL venv env h U){i:Nat}(hlt:i<venv.length)(ee:env[i]?=some (some w))(q:NQ U i h d w):SL (venv.set i (some (.nw,d))) env h U :=
 s.gen rfl (λ_ _=>rfl) (λ_ _ a g=>⟨a,g⟩) (λ_ _ _ _ a g=>⟨a,g⟩) s.ub s.NR λ_ _ _ e=>by cases e;exact⟨w,ee,q⟩
end
section
variable {Φ:Nat->List Val->M Val} {Ψ:Nat->List Val->Pr FV} {sp:List Nat} {venv:aU} {env:Env} {h:Hs} {U:UR}
theorem NU(V:bV Φ Ψ e)(s:SL venv env h U):iK (λx h' v=>h<+:h'/\Dn (AU U) h' x.2 v) (aN Φ e env h) (Fj Ψ e venv):=by
 have r1:=V (jh venv) env (AU U) h s.up s.hide;have r2:=V (bP venv) env (λ_=>True) h (λ_ _=>trivial) s.flat
 have go:iK (λx h' v=>h<+:h'/\Dn (AU U) h' x.2 v) (aN Φ e env h) (pb (bA Ψ e (bP venv)) λx=>pg x.1 (.ok x)):=by
  cases e2:bA Ψ e (bP venv) with
  |ok x=>
   rw[e2]at r2;obtain⟨v,h',ev,p,q⟩:=r2;show iK _ _ (pg x.1 (.ok x));refine p9 λhx=>⟨v,h',ev,p,(q.2 hx).g9 λo z=>?_⟩;cases o with
   |none=>exact False.elim z
   |some k=>exact s.up k z
  |exc c es=>trivial
  |no=>trivial
 unfold Fj;cases e1:bA Ψ e (jh venv) with
 |ok x=>rw[e1]at r1;obtain⟨v,h',ev,p,q⟩:=r1;exact⟨v,h',ev,p,q.1⟩
 |exc c es=>exact go
 |no=>exact go
theorem ji(V:bV Φ Ψ e)(s:SL venv env h U):iK (λx h' v=>h<+:h'/\RV (λ_=>True) h x h' v) (aN Φ e env h) (bA Ψ e (bP venv)):=NS (V (bP venv) env (λ_=>True) h (λ_ _=>trivial) s.flat)
def LN(Φ:Nat->List Val->M Val)(Ψ:Nat->List Val->Pr FV)(sp:List Nat)(s:IS):Prop:=∀(venv:aU) (env:Env) (h:Hs) (U:UR),SL venv env h U->iK (RL h U) (iw Φ s env h) (dw Ψ sp s venv)
def Cn(Φ:Nat->List Val->M Val)(Ψ:Nat->List Val->Pr FV)(sp:List Nat)(s:bY):Prop:=∀(venv:aU) (env:Env) (h:Hs) (U:UR),SL venv env h U->iK (RL h U) (gm Φ s env h) (iH Ψ sp s venv)
theorem DJ{b:Nat}{h1:Hs}(g:h1[b]?=some (.lst vs))(hl:decide (vs.length<sizeLine)=true):bnd (met .append (.ref b) [v]) (λ_=>ret (Fl.nx env)) h1=.ok (.nx env) (h1.set b (.lst (vs++[v]))):=by
 simp only[met];unfold bnd ask bB aR put ret;dsimp only;rw[g];dsimp only;rw[aar hl]
theorem uU{n:Nat}{l:List Int}(q:Dn (Fr n) h (.rl (l.map .int)) v):∃b,v=.ref b/\n<=b/\h[b]?=some (.lst (l.map .int)):=by
 rw[Dn]at q
 rcases q with ⟨_,_,n,_⟩|⟨b,vs,rfl,hb,e4,e5⟩
 ·exact False.elim n
 exact⟨b,rfl,hb,by rw[e4,(aZ _ _ (bx l)).mp e5]⟩
theorem SV{i:Nat}(hab:new2 e=some ab)(ha:bV Φ Ψ ab.1)(hb:bV Φ Ψ ab.2)(s:SL venv env h U):iK (RL h U) (bnd (aN Φ e env) (λv=>bnd (bB (gp (.one i) v env)) λenv'=>ret (Fl.nx env')) h)
  (pb (bA Ψ ab.1 (bP venv)) λx=>pb (bA Ψ ab.2 (bP venv)) λy=>pb (pl (p7 [x.2,y.2])) λ_=>pg (x.1&&y.1) (.ok (.nx (venv.set i (some (.nw,.tup [x.2,y.2])))))):=by
 have ee:e=.tup #[ab.1,ab.2]:=by
  unfold new2 at hab;split at hab
  ·cases hab;rfl
  ·cases hab
 rw[ee];have ev:∀K:Val->M Fl,bnd (aN Φ (.tup #[ab.1,ab.2]) env) K h=bnd (aN Φ ab.1 env) (λv=>bnd (aN Φ ab.2 env) λw=>K (.tup [v,w])) h:=λK=>by
  rw[aN,bu,bu,bu,aJ,aJ];refine congrFun ?_ h
  congr 1;funext v;rw[aJ,aJ]
  congr 1
 rw[ev];refine eZ (ji ha s) λx h1 v ⟨p1,q1⟩=>eZ (ji hb (s.ext p1)) λy h2 w ⟨p2,q2⟩=>?_;cases el:p7 [x.2,y.2] with
 |none=>trivial
 |some ls=>
  show iK _ _ (pg _ _);refine p9 λhx=>?_;have hx:=cU hx;have r1:=q1.2 hx.1;have r2:=q2.2 hx.2;have em:=Aw el
  match ls,em with
  |[_],em=>exact nomatch (List.cons.inj em).2
  |_::_::_::_,em=>exact nomatch (List.cons.inj (List.cons.inj em).2).2
  |[l1,l2],em=>
   have e1:x.2=.rl (l1.map .int):=(List.cons.inj em).1;have e2:y.2=.rl (l2.map .int):=(List.cons.inj (List.cons.inj em).2).1;rw[e1]at r1;rw[e2]at r2;obtain⟨b1,rfl,n1,g1⟩:=uU r1;obtain⟨b2,rfl,n2,g2⟩:=uU r2;have l1':=(aao.mp g1).1;have l2':=(aao.mp g2).1;have g1:=cC p2 g1;have z1:=p1.length_le;have z2:=p2.length_le;have p3:=p1.trans p2;have rg:∀k,h.length<=k->k<h2.length->Fo U i h.length h2.length i k:=λk a b=>by
    unfold Fo;rw[aar rfl];exact⟨a,b⟩
   have nn:NN (Fo U i h.length h2.length) i h2 (.tup [x.2,y.2]) (.tup [.ref b1,.ref b2]):=⟨b1,b2,l1,l2,rfl,by rw[e1,e2],by omega,rg _ (by omega) (by omega),rg _ (by omega) (by omega),g1,g2⟩;obtain⟨s2,f2⟩:=s.Xj p3 (i:=i) (d:=.tup [x.2,y.2]) (v:=.tup [.ref b1,.ref b2]) (nn.dn λk hk=>by
    unfold Fo at hk;rw[aar rfl]at hk;exact hk.1)
   by_cases hi:i<venv.length
   ·have s3:=s2.toN (i:=i) (by simpa using hi) (by rw[aat (by rw[<-s.len];exact hi)]) (.inl nn);rw[List.set_set]at s3;exact⟨_,_,rfl,_,s3,f2⟩
   ·rw[List.set_eq_of_length_le (by omega)]at s2 |-;exact⟨_,_,rfl,_,s2,f2⟩
theorem Xk(V:bV Φ Ψ e)(V2:∀ab,new2 e=some ab->bV Φ Ψ ab.1/\bV Φ Ψ ab.2):LN Φ Ψ sp (.asg p e):=λvenv env h U s=>by
 cases p with
 |one i=>
  rw[iw,dw];try dsimp only
  split
  ·split
   ·rename_i ab hab;exact SV hab (V2 _ hab).1 (V2 _ hab).2 s
   ·refine eZ (ji V s) λx h1 v ⟨p1,q1⟩=>p9 λhx=>?_;obtain⟨s2,f2⟩:=s.Xj p1 (i:=i) (q1.2 hx);exact⟨_,_,rfl,_,s2,f2⟩
  ·refine eZ (NU V s) λx h1 v aS=>?_;obtain⟨p1,q1⟩:=aS;obtain⟨s2,f2⟩:=(s.ext p1).set (i:=i) q1;exact⟨_,_,rfl,_,s2,(KU.refl s p1).trans f2⟩
 |tup is=>rw[dw];trivial
theorem Ax{j:Int}(e2:aN Φ e env h=.ok w h)(hu:iu h w (.int j)=some u):aN Φ (.idx e (.cst (.int j))) env h=.ok u h:=by
 rw[aN,aG e2,aN];unfold bnd ask bB ret;dsimp only;rw[hu]
theorem Jt{b:Nat}(er:aN Φ e env h=.ok (.ref b) h)(e4:h[b]?=some (.lst vs)):bnd (aN Φ (.met .append e #[a]) env) (λ_=>ret (Fl.nx env)) h=bnd (aN Φ a env) (λv=>bnd (met .append (.ref b) [v]) λ_=>ret (Fl.nx env)) h:=by
 rw[aN,aJ,aG er];rw[aJ,aG (a:=()) (h1:=h) (by unfold ask bB;simp[recv,e4])];rw[aJ,bu,aJ]
 congr 1
theorem Xl{i:Nat}(ha:bV Φ Ψ a):LN Φ Ψ sp (.expr (.met .append (.idx (.var i) (¬0)) #[a])):=λvenv env h U s=>by
 rw[iw,dw];change iK (RL h U) _ (Cm Ψ (.apT i a) venv);unfold Cm;try dsimp only
 cases hk:Yq venv i with
 |none=>trivial
 |some y=>
  obtain⟨l0,d0⟩:=y;obtain⟨w,e2,q⟩:=s.nn i _ (Xg hk)
  rcases q with ⟨b,c,l,m,rfl,ed,nb,ub,uc,gb,gc⟩|⟨ed,_⟩<;>cases ed
  rw[Jt (Ax (cJ e2) (u:=.ref b) rfl) gb];change iK _ _ (pb (bA Ψ a (bP venv)) _);refine eZ (ji ha s) λx h1 v aS=>?_;obtain⟨p1,q1⟩:=aS;obtain⟨f,d⟩:=x;cases d<;>first|trivial|skip
  rename_i n;have ev:v=.int n:=(j4 _ _ rfl).mp q1.1;subst ev;show iK _ _ (pg _ _);refine p9 λhg=>?_;have s1:=s.ext p1;have Ys:=s1.ub i b ub;have eq:l.map Val.int++[.int n]=(l++[n]).map .int:=by rw[aaU];rfl
  obtain⟨s2,f2⟩:=s1.SS (i:=i) (b:=b) (o:=.lst (l.map .int++[.int n])) (x:=some (.nw,.tup [.rl (l.map .int++[.int n]),.rl (m.map .int)])) ub λ_ _ _ e=>by
   cases e;refine⟨_,e2,.inl ⟨b,c,l++[n],m,rfl,by rw[eq],nb,ub,uc,?_,?_⟩⟩
   ·rw[aat Ys,eq]
   ·rw[aan nb];exact cC p1 gc
  exact⟨_,_,DJ (env:=env) (cC p1 gb) hg,_,s2,(KU.refl s p1).trans f2⟩
theorem Xm{i:Nat}(ha:bV Φ Ψ a):LN Φ Ψ sp (.expr (.met .append (.idx (.idx (.var i) (¬1)) (¬0)) #[a])):=λvenv env h U s=>by
 rw[iw,dw];change iK (RL h U) _ (Cm Ψ (.apN i a) venv);unfold Cm;try dsimp only
 cases hk:Yr venv i with
 |none=>trivial
 |some y=>
  obtain⟨d0,l0,m0⟩:=y;obtain⟨w,e2,q⟩:=s.un i _ (Xh hk);rw[Dn]at q;obtain⟨ws,rfl,q⟩:=q;rw[av]at q;obtain⟨u0,r0,rfl,_,q⟩:=q;obtain⟨u1,rfl,q2⟩:=av.one q;clear q;rw[Dn]at q2;obtain⟨ws,rfl,q3⟩:=q2;rw[av]at q3;obtain⟨u2,r1,rfl,qb,q4⟩:=q3;obtain⟨u3,rfl,qc⟩:=av.one q4;clear q4;rw[Dn]at qb qc
  rcases qb with ⟨_,_,n,_⟩|⟨b,xs,rfl,ub,gb,eb⟩
  ·exact False.elim n
  rcases qc with ⟨_,_,n,_⟩|⟨c,ys,rfl,uc,gc,_⟩
  ·exact False.elim n
  rw[Jt (Ax (Ax (cJ e2) (u:=.tup [.ref b,.ref c]) rfl) (u:=.ref b) rfl) gb];change iK _ _ (pb (bA Ψ a (bP venv)) _);refine eZ (ji ha s) λx h1 v aS=>p9 λhg=>?_;obtain⟨p1,q1⟩:=aS;have s1:=s.ext p1;have Ys:=s1.ub i b ub;obtain⟨s2,f2⟩:=s1.SS (i:=i) (b:=b) (o:=.lst (xs++[v])) (x:=some (.nw,.non)) ub λ_ _ _ e=>by
   cases e;refine⟨_,e2,.inr ⟨rfl,u0,b,c,xs++[v],if b=c then xs++[v] else ys,rfl,ub,uc,by rw[aat Ys],?_⟩⟩
   by_cases hbc:b=c
   ·subst hbc;rw[aar rfl,aat Ys]
   ·rw[aas hbc,aan hbc];exact cC p1 gc
  exact⟨_,_,DJ (env:=env) (cC p1 gb) (by rw[<-eb.length];exact hg),_,s2,(KU.refl s p1).trans f2⟩
theorem Xn{i:Nat}:LN Φ Ψ sp (.expr (.svals (.idx (.idx (.var i) (¬1)) (¬1)))):=λvenv env h U s=>by
 rw[iw,dw];change iK (RL h U) _ (Cm Ψ (.clN i) venv);unfold Cm;try dsimp only
 cases hk:(Mw (venv[i]?)).bind isJ with
 |none=>trivial
 |some y=>
  obtain⟨d0,e0,ej⟩:=aah.mp hk;have hv:=O4 e0;rw[Xi ej]at hv;obtain⟨w,e2,q⟩:=s.nn i _ hv
  rcases q with ⟨_,_,_,_,_,ed,_⟩|⟨_,a,b,c,xs,ys,rfl,ub,uc,gb,gc⟩
  ·cases ed
  obtain⟨s2,f2⟩:=s.Z3 (i:=i) (b:=c) (o:=.lst []) uc;refine⟨.nx env,_,?_,_,s2,f2⟩;rw[aN,aJ,aG (Ax (Ax (cJ e2) (u:=.tup [.ref b,.ref c]) rfl) (u:=.ref c) rfl)];unfold VA bnd ask bB put ret;dsimp only;rw[gc]
theorem Xo(V:bV Φ Ψ c)(ha:Cn Φ Ψ sp a)(hb:Cn Φ Ψ sp b):LN Φ Ψ sp (.iff c a b):=λvenv env h U s=>by
 rw[iw,dw];refine eZ (ji V s) λx h1 v aS=>?_;obtain⟨p1,q1⟩:=aS;refine eZ (R:=λt h' t'=>h'=h1/\t'=t) (Jr λt ht=>⟨t,uD (.inl q1.1) ht,rfl,rfl⟩) λt h2 t' aS=>?_;obtain⟨e1,e2⟩:=aS;subst e1;subst e2;have s1:=s.ext p1;cases t' with
 |true=>rw[aar rfl,aar rfl];exact qP (ha venv env _ U s1) λf h' g r=>r.seq (KU.refl s p1)
 |false=>rw[aas aaj,aas aaj];exact qP (hb venv env _ U s1) λf h' g r=>r.seq (KU.refl s p1)
theorem Xp(V:bV Φ Ψ e):LN Φ Ψ sp (.ret e):=λvenv env h U s=>by
 rw[iw,dw];exact eZ (ji V s) λx h1 v ⟨p1,q1⟩=>ku ⟨q1,U,KU.refl s p1⟩
theorem Xq:Cn Φ Ψ sp .nil:=λvenv env h U s=>by rw[gm,iH];exact ku ⟨U,s,KU.refl s (aaL _)⟩
theorem SW(ha:LN Φ Ψ sp a)(hr:Cn Φ Ψ sp r):Cn Φ Ψ sp (.cons a r):=λvenv env h U s=>by
 rw[gm,iH];refine eZ (ha venv env h U s) λf h1 g q=>?_;cases f<;>cases g<;>first|exact q.elim|skip
 ·obtain⟨U1,s1,f1⟩:=q;exact qP (hr _ _ h1 U1 s1) λf h' g r=>r.seq f1
 ·exact ku q
 ·exact ku q
 ·exact ku q
theorem vQ(e:∀venv,dw Ψ sp s venv=.no):LN Φ Ψ sp s:=λvenv env h U _=>by rw[e];trivial
theorem SX(V:∀e,dM e=true->bV Φ Ψ e)(ho:dM e=true):LN Φ Ψ sp (.expr e):=by
 cases hk:Yp e with
 |none=>exact vQ λvenv=>by rw[dw,hk]
 |some k=>
  cases Xf hk;cases k with
  |apT i a=>exact Xl (V a (cU (cU ho).2).1)
  |apN i a=>exact Xm (V a (cU (cU ho).2).1)
  |clN i=>exact Xn
theorem Xr(hΦ:∀j,Imp (Φ j) (Ψ j)):∀ss,uK ss=true->Cn Φ Ψ sp ss:=by
 have V:=(v_all hΦ).1;intro ss;refine bY.rec (motive_1:=λs=>ZK s=true->LN Φ Ψ sp s) (motive_2:=λss=>uK ss=true->Cn Φ Ψ sp ss) ?_ ?_ ?_ ?_ ?_ ?_ ?_ ?_ ?_ ?_ ?_ ?_ ?_ ?_ ?_ ?_ ss
 ·intro e f;exact SX V f
 ·intro p e f;exact Xk (V e f) λab hab=>by
   have ee:e=.tup #[ab.1,ab.2]:=by
    unfold new2 at hab;split at hab
    ·cases hab;rfl
    ·cases hab
   subst ee;have f:(dM ab.1&&(dM ab.2&&true))=true:=f;have f:=cU f;exact⟨V _ f.1,V _ (cU f.2).1⟩
 ·intro i o e f;exact vQ λvenv=>by rw[dw]
 ·intro o i v f;exact vQ λvenv=>by rw[dw]
 ·intro c a b ha hb f;have f:=vN f;exact Xo (V c f.1.1) (ha f.1.2) (hb f.2)
 ·intro p k it b _ f;exact vQ λvenv=>by rw[dw]
 ·intro n c b _ f;exact vQ λvenv=>by rw[dw]
 ·intro e f;exact Xp (V e f)
 ·intro _;exact vQ λvenv=>by rw[dw]
 ·intro _;exact vQ λvenv=>by rw[dw]
 ·intro _;exact vQ λvenv=>by rw[dw]
 ·intro _ venv env h U s;rw[iw,dw];exact ku ⟨U,s,KU.refl s (aaL _)⟩
 ·intro _;exact vQ λvenv=>by rw[dw]
 ·intro _ _ _ _ _;exact vQ λvenv=>by rw[dw]
 ·intro _;exact Xq
 ·intro a r ha hr f;have f:=cU f;exact SW (ha f.1) (hr f.2)
theorem av.at:∀{ds vs:List Val} {i:Nat} {d:Val},av A h ds vs->ds[i]?=some d->∃v,vs[i]?=some v/\Dn A h d v
 |[],vs,i,d,q,e=>by cases e
 | d::ds,vs,0,d',q,e=>by
  rw[av]at q;obtain⟨v,r,rfl,q1,q2⟩:=q;cases e;exact⟨v,rfl,q1⟩
 | d::ds,vs,i+1,d',q,e=>by
  rw[av]at q;obtain⟨v,r,rfl,q1,q2⟩:=q;exact av.at (i:=i) q2 e
theorem Xs{n:Nat}(q:av A h ds vs):SL (ds.map (λd=>some (.sh,d))++replicate (n-ds.length) none) (vs.map some++replicate (n-vs.length) none) h (λ_ _=>False):=by
 have l:=q.length;have here:∀(i:Nat) (m:Mk) (d:Val),(ds.map (λd=>some (Mk.sh,d))++replicate (n-ds.length) none)[i]?=some (some (m,d))->m=.sh/\ds[i]?=some d:=λi m d e=>by
  by_cases hi:i<ds.length
  ·rw[aax (by simpa using hi),aaJ,aaR hi]at e;cases e;exact⟨rfl,aaR hi⟩
  ·rw[aaO (by simpa using hi)]at e;cases (mem_replicate.mp (aaM e)).2
 refine⟨by simp[l],λi d e=>?_,λi d e=>?_,λi d e=>?_,λ_ _ z=>z.elim,λ_ _ _ z=>z.elim⟩
 ·obtain⟨_,e⟩:=here i _ d e;obtain⟨v,e2,q2⟩:=q.at e;refine⟨v,?_,q2.g9 λo _=>by cases o<;>first|trivial|exact λ_ z=>z⟩;have hi:=(aao.mp e2).1;rw[aax (by simpa using hi),aaJ,e2];rfl
 ·cases (here i _ d e).1
 ·cases (here i _ d e).1
theorem Fp{n:Nat}(hΦ:∀j,Imp (Φ j) (Ψ j))(ho:uK body=true){ns:List Int}{f:Bool}(e:SQ Ψ n body [.rl (ns.map .int)]=.ok (f,.bl true)):∃h',fj Φ n body [.rl (ns.map .int)] []=.ok (.bl true) h':=by
 have s:SL ([(Val.rl (ns.map .int))].map (λd=>some (.sh,d))++replicate (n-1) none) ([(Val.rl (ns.map .int))].map some++replicate (n-1) none) [] (λ_ _=>False):=Xs (A:=λ_=>True) (h:=[]) (n:=n) (ds:=[.rl (ns.map .int)]) (vs:=[.rl (ns.map .int)]) (av.cons (by rw[Dn];exact .inl ⟨_,rfl,trivial,(aZ _ _ (bx ns)).mpr rfl⟩) av.nil);have r:=Xr (sp:=uT body) hΦ body ho _ _ [] _ s;unfold SQ at e;show ∃h',bnd (gm Φ body ([(Val.rl (ns.map .int))].map some++replicate (n-1) none)) _ []=_;change pb (iH Ψ (uT body) body ([(Val.rl (ns.map .int))].map (λd=>some (.sh,d))++replicate (n-1) none)) _=_ at e;cases e1:iH Ψ (uT body) body ([(Val.rl (ns.map .int))].map (λd=>some (.sh,d))++replicate (n-1) none) with
 |ok fl=>
  rw[e1]at e r;obtain⟨g,h',eg,q⟩:=r;unfold bnd;rw[eg];cases fl with
  |rt p=>
   cases g<;>first|exact q.elim|skip
   change Pr.ok p=_ at e;cases e;have q:Dn (λ_=>True) h' (.bl true) _:=q.1.1;rw[Dn]at q;subst q;exact⟨h',rfl⟩
  |nx _=>cases e
  |bk _=>cases e
  |ct _=>cases e
 |exc c es=>rw[e1]at e;cases e
 |no=>rw[e1]at e;cases e
end
end Hv
end
section
namespace K51
open PySem L2 Hv
abbrev Ju:List PySem.Str:=["_law_script","_law_k"]
abbrev SY:List PySem.Str:=["_law_cell_here","_law_big","_law_step","_law_shift","_law_a","_law_b"]
abbrev S0:List PySem.Str:=["_law_script","_law_style","_law_many","_law_most","_law_pairs_here","_law_again","_law_k","_law_more","_law_cell_here"]
abbrev Xu:List PySem.Str:=["_law_script","_law_style","_law_many","_law_most"]
abbrev S4:List PySem.Str:=["_law_script","_law_style","_law_most","_law_head","_law_many","_law_places","_law_names_here","_law_ends","_law_ties","_law_name","_law_pair","_law_one","_law_other_here"]
abbrev Xv:List PySem.Str:=["_law_script","_law_style","_law_most"]
abbrev S5:List PySem.Str:=["_law_script","_law_most","_law_many","_law_names_here"]
abbrev vR:List PySem.Str:=["_law_net_here"]
abbrev S6:List PySem.Str:=["_law_net_here","_law_cell_here","_law_names_here"]
abbrev S7:List PySem.Str:=["poles","ties","named","name","one","other"]
abbrev Jv:List PySem.Str:=["net","tie","name","one","other"]
abbrev jN:List PySem.Str:=["net","tie"]
abbrev Jw:List PySem.Str:=["net","tie","ends","places","poles","ties","name","one","other"]
abbrev Ay:List PySem.Str:=["net","side","tie"]
abbrev Az:List PySem.Str:=["net","side","taken"]
abbrev Jx:List PySem.Str:=["net","places","tie"]
abbrev Jy:List PySem.Str:=["self","net","name","one","other"]
abbrev AA:List PySem.Str:=["side","net"]
abbrev AB:List PySem.Str:=["row","name"]
abbrev Jz:List PySem.Str:=["places","pairs","firsts","place","one","other","kept","gone"]
abbrev JA:List PySem.Str:=["self","row","firsts"]
abbrev jO:List PySem.Str:=["self","row"]
abbrev JB:List PySem.Str:=["self","row","rank"]
abbrev JC:List PySem.Str:=["rule","row","reached"]
abbrev JD:List PySem.Str:=["net","side","paper","answer","rule"]
abbrev DK:List PySem.Str:=["net","side","paper"]
abbrev JE:List PySem.Str:=["net","row","names"]
abbrev JF:List PySem.Str:=["net","side","paper","ones","others","rule","reached"]
abbrev JG:List PySem.Str:=["rule","row","other","reached"]
abbrev JH:List PySem.Str:=["net","side","paper","taken","behind","lost","answer"]
abbrev JI:List PySem.Str:=["_law_net_here","_law_side","_law_name","_law_gone","_law_ties","_law_ends","_law_tie","_law_renamed","_law_pairs_here"]
abbrev Pb:List PySem.Str:=["_law_net_here","_law_side","_law_name"]
abbrev JJ:List PySem.Str:=["_law_net_here","_law_row","_law_marks_here","_law_ties","_law_tie","_law_old","_law_new","_law_end"]
abbrev DL:List PySem.Str:=["_law_net_here","_law_row"]
abbrev JK:List PySem.Str:=["_law_net_here","_law_row","_law_marks_here"]
abbrev uV:List PySem.Str:=["_law_net_here","_law_side","_law_row"]
abbrev AD:List PySem.Str:=["_law_row","_law_name"]
abbrev JL:List PySem.Str:=["_law_net_here","_law_side","_law_row","_law_rank_here","_law_found","_law_name"]
abbrev AE:List PySem.Str:=["_law_side"]
abbrev JM:List PySem.Str:=["_law_net_here","_law_side","_law_paper","_law_taken_here","_law_now","_law_ones","_law_others","_law_lost","_law_reached","_law_rest","_law_answer","_law_both","_law_rank_here","_law_spare"]
abbrev Pc:List PySem.Str:=["_law_net_here","_law_side","_law_paper","_law_taken_here"]
abbrev uW:List PySem.Str:=["_law_found"]
abbrev JN:List PySem.Str:=["_law_found","_law_row"]
abbrev Pd:List PySem.Str:=["_law_script","_law_net_here","_law_paper","_law_taken_here","_law_handed","_law_told","_law_found","_law_due_here","_law_again"]
def top(i:Nat):Stmt:=PySem.Challenge.pw_linkorcut_k51_mended_in_trees.main.body.getD i (.Pass ⟨0,0,0,0⟩)
def cons:List (Str×Val):=[("THOUGHT",(.int (-1)))]
def tb:Tb:=⟨1,["net","places","ends"],[(0,"tree_rank",22),(0,"rank",23),(0,"ties",25),(0,"reach",26),(0,"free",30)],[],[]⟩
def fG(i:Nat):Stmt:=match top 20 with|.ClassDef (body:=b) ..=>b.getD i (.Pass ⟨0,0,0,0⟩)|_=>.Pass ⟨0,0,0,0⟩
def DM(i:Nat):Stmt:=match top 21 with|.ClassDef (body:=b) ..=>b.getD i (.Pass ⟨0,0,0,0⟩)|_=>.Pass ⟨0,0,0,0⟩
def kB:bY:=#[.iff (.cmp .lt (!1) (.blt .len #[!0])) #[.ret (.idx (!0) (!1))] .nil,.ret (¬0)]
def fV:bY:=#[.asg (.one 2) (¬1),.asg (.one 3) (¬0),.iff (.cmp .gt (.bin .mod (!0) (¬3)) (¬0)) #[.asg (.one 2) (.bin .add (¬1) (.bin .mod (!1) (.bin .pow (¬10) (¬57)))),.asg (.one 3) (.bin .mod (.bin .fdiv (!1) (¬7)) (.bin .pow (¬10) (¬59)))] .nil,.asg (.one 4) (.bin .add (¬1) (.bin .mod (.bin .fdiv (!0) (¬3)) (¬66))),.asg (.one 5) (.bin .mod (.bin .fdiv (!0) (¬198)) (¬67)),.ret (.comp ["_law_k","_law_shift","_law_step","_law_b","_law_a"] [none,some 3,some 2,some 5,some 4] (.one 0) .range #[¬15] .no (.bin .add (.bin .mul (!2) (.bin .mod (.bin .add (.bin .mul (!4) (!0)) (!3)) (¬67))) (!1)))]
def Z4:bY:=#[.expr (.met .append (!4) #[.tup #[!6,.bin .mod (.bin .fdiv (.call 0 #[!0,.bin .add (¬4) (!6)]) (.bin .add (¬1) (.bin .mul (¬7) (!5)))) (!6)]])]
def Xw:bY:=#[.for (.one 6) .range #[¬1,!2] Z4]
def Z5:IS:=.for (.one 5) .range #[.idx (.lst #[¬0,¬2,¬0,¬1]) (!1)] Xw
def Z6:bY:=#[.expr (.met .append (!4) #[.tup #[.bin .mod (.bin .fdiv (!8) (¬3)) (!2),.bin .mod (.bin .fdiv (!8) (¬31)) (!2)]])]
def Z7:IS:=.for (.one 8) .seq #[.slc (!0) (¬5) (.bin .add (¬5) (!7))] Z6
def pI(j:Int):IS:=.iff (.cmp .eq (!1) (.cst (.int j))) #[.never] .nil
def jj:bY:=.cons (.asg (.one 4) (.lst .nil)) #[Z5,pI 2,.asg (.one 7) (.bin .mod (.bin .fdiv (.call 0 #[!0,¬0]) (¬28)) (¬4)),pI 0,Z7,.ret (.slc (!4) .no (!3))]
def nB:bY:=#[.asg (.one 11) (.idx (!5) (.idx (!10) (¬0))),.asg (.one 12) (.idx (!5) (.idx (!10) (¬1))),.expr (.met .append (!8) #[.tup #[!9,.blt .min #[!11,!12],.blt .max #[!11,!12]]])]
def nF:IS:=.for (.tup [9,10]) .zip #[!6,.call 2 #[!0,!1,!4,!2]] nB
def nR:bY:=#[.ret (.tup #[.tup #[.blt .min #[!7],.blt .max #[!7]],.blt .sorted #[!8]])]
def nH(T:bY):bY:=(.cons (.asg (.one 3) (.call 0 #[!0,¬0])) (.cons (.asg (.one 4) (.bin .add (¬2) (.bin .mod (.bin .fdiv (!3) (¬4)) (.idx (.lst #[¬7,.bin .fdiv (!2) (¬2),¬4,.blt .min #[¬7,!2]]) (!1))))) (.cons (.asg (.one 5) (.call 1 #[.call 0 #[!0,¬1],.call 0 #[!0,¬2]])) (.cons (.asg (.one 6) (.call 1 #[.call 0 #[!0,¬3],.call 0 #[!0,¬4]])) (.cons (.asg (.one 7) (.lst #[.idx (!5) (¬0),.idx (!5) (¬1)])) T)))))
def Yt:IS:=.iff (.cmp .eq (!1) (¬2)) #[.never] .nil
def Yu:IS:=.iff (.cmp .eq (.bin .mod (.bin .fdiv (!3) (¬112)) (¬9)) (¬4)) #[.asg (.one 7) (.lst #[.idx (!5) (¬0),.idx (!5) (¬0)])] .nil
def mU:bY:=nH (.cons Yt (.cons Yu (.cons (.asg (.one 8) (.lst .nil)) (.cons nF nR))))
def fW:bY:=#[.asg (.one 2) (.bin .add (¬2) (.bin .mod (.bin .fdiv (.call 0 #[!0,¬0]) (¬4)) (.bin .fdiv (!1) (¬2)))),.asg (.one 3) (.call 1 #[.call 0 #[!0,¬3],.call 0 #[!0,¬4]]),.ret (.tup #[.blt .sorted #[.slc (!3) .no (.bin .sub (!2) (¬1))],.blt .sorted #[.slc (!3) (.bin .sub (!2) (¬1)) (.bin .sub (.bin .mul (¬2) (!2)) (¬2))]])]
def lB:bY:=#[.ret (.comp ["_law_tie"] [none] (.one 0) .seq #[.idx (!0) (¬1)] .no (.idx (!0) (¬0)))]
def jk:bY:=#[.asg (.one 2) (.call 5 #[!0]),.iff (.or (.cmp .eq (.bin .mod (!1) (¬8)) (¬7)) (.not (!2))) #[.ret (.cst .non)] .nil,.ret (.idx (!2) (.bin .mod (.bin .fdiv (!1) (¬8)) (.blt .len #[!2])))]
def kD:bY:=#[.ret (.tup #[.idx (!0) (¬0),.blt .list #[.idx (!0) (¬1)]])]
def cW:bY:=#[.asg (.one 2) (.lst .nil),.for (.tup [3,4,5]) .seq #[!1] #[.expr (.met .append (!2) #[.tup #[!3,.blt .min #[!4,!5],.blt .max #[!4,!5]]])],.ret (.tup #[.tup #[.blt .min #[.idx (!0) (¬0),.idx (!0) (¬1)],.blt .max #[.idx (!0) (¬0),.idx (!0) (¬1)]],.blt .sorted #[!2]])]
def jl:bY:=#[.for (.tup [2,3,4]) .seq #[.idx (!0) (¬1)] #[.iff (.cmp .eq (!2) (!1)) #[.ret (.tup #[!3,!4])] .nil],.never]
def jm:bY:=#[.expr (.call 9 #[!0,!1]),.ret (.comp ["each","tie"] [none,some 1] (.one 0) .seq #[.idx (!0) (¬1)] (.cmp .ne (.idx (!0) (¬0)) (!1)) (!0))]
def fX:bY:=#[.ret (.call 8 #[.idx (!0) (¬0),.call 10 #[!0,!1]])]
def mV:bY:=#[.asg (.one 2) (.call 9 #[!0,!1]),.asg (.one 3) (.dct1 (.idx (!2) (¬1)) (.idx (!2) (¬0))),.asg (.one 4) (.tup #[.dget (!3) (.idx (.idx (!0) (¬0)) (¬0)) (.idx (.idx (!0) (¬0)) (¬0)),.dget (!3) (.idx (.idx (!0) (¬0)) (¬1)) (.idx (.idx (!0) (¬0)) (¬1))]),.asg (.one 5) (.lst .nil),.for (.tup [6,7,8]) .seq #[.call 10 #[!0,!1]] #[.expr (.met .append (!5) #[.tup #[!6,.dget (!3) (!7) (!7),.dget (!3) (!8) (!8)]])],.ret (.call 8 #[!4,!5])]
def gC:bY:=#[.iff (.cmp .eq (!1) (.cst (.str "linker"))) #[.ret (.call 12 #[!0,!2])] .nil,.ret (.call 11 #[!0,!2])]
def e8:bY:=#[.iff (.cmp .eq (!0) (.cst (.str "linker"))) #[.ret (.cst (.str "cutter"))] .nil,.ret (.cst (.str "linker"))]
def b9:bY:=#[.iff (.cmp .isn (!2) (.cst .non)) #[.ret (!0)] .nil,.ret (.call 13 #[!0,.call 14 #[!1],!2])]
def jn:bY:=#[.ret (.call 8 #[.idx (!0) (¬0),.idx (!0) (¬1)])]
def fY:bY:=#[.asg (.one 1) (.blt .list #[.idx (!0) (¬0)]),.for (.one 2) .seq #[.idx (!0) (¬1)] #[.expr (.met .extend (!1) #[.slc (!2) (¬1) .no])],.ret (.sset (!1))]
def oR:bY:=#[.setF 1 (!0) "net" (.call 16 #[!1]),.setF 1 (!0) "places" (.call 17 #[.fld 1 (!0) "net"]),.setF 1 (!0) "ends" (.dct1 (.con "THOUGHT" (.int (-1))) (.idx (.fld 1 (!0) "net") (¬0))),.for (.tup [2,3,4]) .seq #[.idx (.fld 1 (!0) "net") (¬1)] #[.ig (.fld 1 (!0) "ends") (!2) (.tup #[!3,!4])]]
def jq:bY:=#[.iff (.cmp .eq (!0) (.cst (.str "linker"))) #[.ret (.call 18 #[!1])] .nil,.never]
def lC:bY:=#[.ret (.comp ["each","name"] [none,some 1] (.one 0) .seq #[!0] (.cmp .ne (!0) (!1)) (!0))]
def fZ:bY:=#[.asg (.one 2) .dct0,.for (.one 3) .seq #[!0] #[.ig (!2) (!3) (!3)],.for (.tup [4,5]) .seq #[!1] #[.asg (.one 6) (.blt .min #[.idx (!2) (!4),.idx (!2) (!5)]),.asg (.one 7) (.blt .max #[.idx (!2) (!4),.idx (!2) (!5)]),.for (.one 3) .seq #[!0] #[.iff (.cmp .eq (.idx (!2) (!3)) (!7)) #[.ig (!2) (!3) (!6)] .nil]],.ret (!2)]
def cz:bY:=#[.asg (.one 2) (.call 21 #[.fld 1 (!0) "places",.comp ["tie","self"] [none,some 0] (.one 0) .seq #[!1] .no (.idx (.fld 1 (!1) "ends") (!0))]),.ret (.blt .len #[.comp ["place","firsts"] [none,some 2] (.one 0) .seq #[.fld 1 (!0) "places"] (.cmp .ne (.idx (!1) (!0)) (!0)) (!0)])]
def cX:bY:=#[.ret (.mth (!0) "tree_rank" [(0,22)] #[!1])]
def jP:bY:=#[.ret (.comp ["tie"] [none] (.one 0) .seq #[.idx (!0) (¬1)] .no (.idx (!0) (¬0)))]
def f6:bY:=#[.ret (.bin .add (.lst #[.con "THOUGHT" (.int (-1))]) (.call 24 #[.fld 1 (!0) "net"]))]
def fc:bY:=#[.asg (.one 2) (.mth (!0) "rank" [(0,23)] #[!1]),.ret (.comp ["tie","row","rank","self"] [none,some 1,some 2,some 0] (.one 0) .seq #[.mth (!0) "ties" [(0,25)] .nil] (.or (.cmp .lX (!0) (!1)) (.cmp .le (.mth (!3) "rank" [(0,23)] #[.bin .add (!1) (.lst #[!0])]) (!2))) (!0))]
def dO:bY:=#[.asg (.one 2) (.mth (!0) "reach" [(0,26)] #[!1]),.ret (.blt .min #[.comp ["name","reached","rule","row"] [none,some 2,some 0,some 1] (.one 0) .seq #[!1] (.cmp .eq (.mth (!2) "reach" [(0,26)] #[.call 20 #[!3,!0]]) (!1)) (!0)])]
def cK:bY:=#[.iff (.cmp .eq (.blt .len #[.idx (!2) (¬0)]) (¬0)) #[.never] .nil,.asg (.one 3) (.blt .min #[.idx (!2) (¬0)]),.asg (.one 4) (.call 19 #[!1,.call 13 #[!0,!1,!3]]),.ret (.tup #[!3,.tup #[.call 20 #[.idx (!2) (¬0),!3],.call 20 #[.idx (!2) (¬1),.call 27 #[!4,.idx (!2) (¬1)]]]])]
def kE:bY:=#[.asg (.one 2) (.call 24 #[!0]),.ret (.and (.cmp .eq (!1) (.sset (!1))) (.blt .all #[.comp ["name","names"] [none,some 2] (.one 0) .seq #[!1] .no (.cmp .lX (!0) (!1))]))]
def f9:bY:=#[.ret (.cmp .eq (.mth (!0) "rank" [(0,23)] #[!1]) (.blt .len #[!1]))]
def kF:bY:=#[.asg (.one 3) (.idx (!2) (¬0)),.asg (.one 4) (.idx (!2) (¬1)),.iff (.or (.not (.call 29 #[!0,!3])) (.not (.call 29 #[!0,!4]))) #[.ret (.cst (.bl false))] .nil,.iff (.blt .any #[.comp ["name","others"] [none,some 4] (.one 0) .seq #[!3] .no (.cmp .lX (!0) (!1))]) #[.ret (.cst (.bl false))] .nil,.asg (.one 5) (.call 19 #[!1,!0]),.iff (.or (.not (.mth (!5) "free" [(0,30)] #[!3])) (.not (.mth (!5) "free" [(0,30)] #[!4]))) #[.ret (.cst (.bl false))] .nil,.asg (.one 6) (.mth (!5) "reach" [(0,26)] #[!3]),.ret (.and (.cmp .lX (.con "THOUGHT" (.int (-1))) (!6)) (.cmp .eq (!6) (.mth (!5) "reach" [(0,26)] #[!4])))]
def cY:bY:=#[.asg (.one 3) (.mth (!0) "reach" [(0,26)] #[!1]),.ret (.blt .min #[.comp ["name","reached"] [none,some 3] (.one 0) .seq #[!2] (.cmp .nin (!0) (!1)) (!0)])]
def gD:bY:=#[.iff (.not (.call 31 #[!0,!1,!2])) #[.never] .nil,.asg (.one 4) (.call 15 #[!0,!1,!3]),.iff (.cmp .lX (!3) (.idx (!2) (¬0))) #[.asg (.one 5) (.call 20 #[.idx (!2) (¬0),!3]),.asg (.one 6) (.call 32 #[.call 19 #[!1,!4],!5,.idx (!2) (¬1)]),.ret (.tup #[!6,.tup #[!5,.call 20 #[.idx (!2) (¬1),!6]]])] .nil,.iff (.cmp .lX (!3) (.idx (!2) (¬1))) #[.asg (.one 5) (.call 20 #[.idx (!2) (¬1),!3]),.asg (.one 6) (.call 32 #[.call 19 #[!1,!4],!5,.idx (!2) (¬0)]),.ret (.tup #[!6,.tup #[.call 20 #[.idx (!2) (¬0),!6],!5]])] .nil,.ret (.call 28 #[!4,!1,!2])]
def bF:IS:=.for (.one 6) .seq #[.idx (!0) (¬1)] #[.iff (.cmp .ne (.idx (!6) (¬0)) (!2)) #[.expr (.met .append (!4) #[!6])] .nil]
def bL:bY:=#[.asg (.one 7) (.dct1 (.idx (!3) (¬2)) (.idx (!3) (¬1))),.asg (.one 5) (.comp ["_law_end","_law_renamed"] [none,some 7] (.one 0) .seq #[!5] .no (.dget (!1) (!0) (!0))),.asg (.one 8) (.comp ["_law_tie","_law_renamed"] [none,some 7] (.one 0) .seq #[!4] .no (.tup #[.idx (!0) (¬0),.dget (!1) (.idx (!0) (¬1)) (.idx (!0) (¬1)),.dget (!1) (.idx (!0) (¬2)) (.idx (!0) (¬2))])),.asg (.one 4) (.comp ["_law_one"] [none] (.one 0) .seq #[!8] .no (.tup #[.idx (!0) (¬0),.blt .min #[.idx (!0) (¬1),.idx (!0) (¬2)],.blt .max #[.idx (!0) (¬1),.idx (!0) (¬2)]]))]
def bR:bY:=#[.ret (.tup #[.tup #[.blt .min #[!5],.blt .max #[!5]],!4])]
def gU:bY:=.cons (.asg (.one 3) (.idx (.comp ["_law_tie","_law_name"] [none,some 2] (.one 0) .seq #[.idx (!0) (¬1)] (.cmp .eq (.idx (!0) (¬0)) (!1)) (!0)) (¬0))) (.cons (.asg (.one 4) (.lst .nil)) (.cons (.asg (.one 5) (.blt .list #[.idx (!0) (¬0)])) (.cons bF (.cons (.iff (.cmp .eq (!1) (.cst (.str "linker"))) bL .nil) bR))))
def mB:bY:=#[.ig (!2) (.idx (!4) (¬1)) (.idx (!4) (¬1)),.ig (!2) (.idx (!4) (¬2)) (.idx (!4) (¬2))]
def mI:bY:=#[.iff (.cmp .eq (.idx (!2) (!7)) (!5)) #[.ig (!2) (!7) (!6)] .nil]
def mF:IS:=.for (.one 7) .seq #[.lkeys (!2)] mI
def mC:bY:=#[.asg (.one 5) (.idx (!2) (.idx (!4) (¬2))),.asg (.one 6) (.idx (!2) (.idx (!4) (¬1))),.iff (.and (.cmp .lX (.idx (!4) (¬0)) (!1)) (.cmp .ne (!5) (!6))) #[mF] .nil]
def jr:bY:=.cons (.asg (.one 2) .dct0) #[.asg (.one 3) (.bin .add (.lst #[.tup #[.neg (¬1),.idx (.idx (!0) (¬0)) (¬0),.idx (.idx (!0) (¬0)) (¬1)]]) (.idx (!0) (¬1))),.for (.one 4) .seq #[!3] mB,.for (.one 4) .seq #[!3] mC,.ret (!2)]
def jt:bY:=#[.asg (.one 2) (.call 35 #[!0,!1]),.ret (.bin .sub (.blt .len #[!2]) (.skeys (.dflt ["_law_end","_law_marks_here"] [none,some 2] 0 1 (!2) (!2))))]
def kG:bY:=#[.iff (.cmp .eq (!1) (.cst (.str "linker"))) #[.ret (.call 36 #[!0,!2])] .nil,.never,.never,.never]
def nU:bY:=#[.ret (.comp ["_law_one","_law_name"] [none,some 1] (.one 0) .seq #[!0] (.cmp .ne (!0) (!1)) (!0))]
def rB:bY:=#[.iff (.or (.cmp .lX (!5) (!2)) (.cmp .eq (.call 37 #[!0,!1,.bin .add (!2) (.lst #[!5])]) (!3))) #[.expr (.met .append (!4) #[!5])] .nil]
def rF:IS:=.for (.one 5) .seq #[.bin .add (.lst #[.neg (¬1)]) (.call 5 #[!0])] rB
def ju:bY:=#[.asg (.one 3) (.call 37 #[!0,!1,!2]),.asg (.one 4) (.lst .nil),rF,.ret (!4)]
def jv:bY:=#[.ret (.idx (.lst #[.cst (.str "linker"),.cst (.str "cutter")]) (.blt .int #[.cmp .eq (!0) (.cst (.str "linker"))]))]
def dB:bY:=#[.asg (.one 7) (.call 38 #[.idx (.lst #[!5,!6]) (.blt .int #[.cmp .lX (!3) (!6)]),!3]),.asg (.one 8) (.call 39 #[!4,!1,!7]),.asg (.one 9) (.idx (.lst #[!5,!6]) (.blt .int #[.cmp .lX (!3) (!5)])),.asg (.one 10) (.blt .min #[.comp ["_law_name","_law_reached"] [none,some 8] (.one 0) .seq #[!9] (.cmp .nin (!0) (!1)) (!0)]),.ret (.tup #[!10,.tup #[.call 38 #[.call 38 #[!5,!3],!10],.call 38 #[.call 38 #[!6,!3],!10]]])]
def dR:bY:=#[.iff (.not (!5)) #[.never] .nil,.asg (.one 11) (.call 34 #[!4,!1,.idx (!5) (¬0)]),.asg (.one 12) (.call 37 #[!11,!1,!6]),.asg (.one 13) (.comp ["_law_name","_law_rank_here","_law_both","_law_side","_law_others"] [none,some 12,some 11,some 1,some 6] (.one 0) .seq #[!6] (.cmp .eq (.call 37 #[!2,!3,.call 38 #[!4,!0]]) (!1)) (!0)),.ret (.tup #[.idx (!5) (¬0),.tup #[.slc (!5) (¬1) .no,.call 38 #[!6,.idx (!13) (¬0)]]])]
def dC:IE:=.cmp .lX (!3) (.bin .add (!5) (!6))
def dS:IS:=.iff (.cmp .ntn (!3) (.cst .non)) #[.asg (.one 4) (.call 34 #[!0,.call 40 #[!1],!3])] .nil
def mW:bY:=.cons (.asg (.one 4) (!0)) (.cons (.asg (.tup [5,6]) (!2)) (.cons dS (.cons (.iff dC dB .nil) dR)))
def jw:bY:=#[.ret (.and (.blt (.isin "int") #[!0]) (.not (.blt (.isin "bool") #[!0])))]
def cL:bY:=#[.iff (.or (.not (.blt (.isin "tuple") #[!0])) (.or (.cmp .ne (.blt .len #[!0]) (¬2)) (.or (.not (.blt (.isin "tuple") #[.idx (!0) (¬1)])) (.cmp .ne (.blt .len #[.idx (!0) (¬1)]) (¬2))))) #[.ret (.cst (.bl false))] .nil,.iff (.and (.cmp .ntn (.idx (!0) (¬0)) (.cst .non)) (.not (.call 42 #[.idx (!0) (¬0)]))) #[.ret (.cst (.bl false))] .nil,.for (.one 1) .seq #[.idx (!0) (¬1)] #[.iff (.or (.not (.blt (.isin "list") #[!1])) (.not (.blt .all #[.comp ["_law_name"] [none] (.one 0) .seq #[!1] .no (.call 42 #[!0])]))) #[.ret (.cst (.bl false))] .nil],.ret (.cst (.bl true))]
def yK:bY:=#[.asg (.one 1) (.call 3 #[!0,¬1,¬14]),.asg (.one 2) (.call 4 #[!0,¬14]),.asg (.one 3) (.call 6 #[!1,.call 0 #[!0,¬19]]),.asg (.one 4) (.call 7 #[!1]),.asg (.one 5) (.tup #[.blt .list #[.idx (!2) (¬0)],.blt .list #[.idx (!2) (¬1)]]),.asg (.one 6) (.call 33 #[!4,.cst (.str "linker"),!5,!3]),.asg (.one 7) (.call 41 #[!1,.cst (.str "linker"),!2,!3]),.iff (.or (.not (.call 43 #[!6])) (.or (.cmp .ne (!6) (!7)) (.or (.cmp .ne (!4) (!1)) (.cmp .ne (!5) (!2))))) #[.ret (.cst (.bl false))] .nil,.expr (.met .append (.idx (.idx (!6) (¬1)) (¬0)) #[.neg (¬1)]),.expr (.svals (.idx (.idx (!6) (¬1)) (¬1))),.iff (.or (.cmp .ne (!4) (!1)) (.cmp .ne (!5) (!2))) #[.ret (.cst (.bl false))] .nil,.expr (.met .append (.idx (!5) (¬0)) #[.neg (¬1)]),.asg (.one 8) (.call 33 #[!4,.cst (.str "linker"),.tup #[.blt .list #[.idx (!2) (¬0)],.idx (!5) (¬1)],!3]),.ret (.and (.cmp .eq (!8) (!7)) (.cmp .eq (!4) (!1)))]
def Xx:List Row:=[]
def AF:List Val->M Val:=fj (look Xx) 2 kB
def Xy:List Row:=Xx++[(("_law_cell":Str),2,AF)]
def rS:List Val->M Val:=fj (look Xy) 6 fV
def Xz:List Row:=Xy++[(("_law_numbers":Str),2,rS)]
def xu:List Val->M Val:=fj (look Xz) 9 jj
def XA:List Row:=Xz++[(("_law_pairs":Str),4,xu)]
def DN:List Val->M Val:=fj (look XA) 13 mU
def XC:List Row:=XA++[(("_law_net":Str),3,DN)]
def rT:List Val->M Val:=fj (look XC) 4 fW
def XD:List Row:=XC++[(("_law_planted":Str),2,rT)]
def xw:List Val->M Val:=fj (look XD) 1 lB
def XE:List Row:=XD++[(("_law_names":Str),1,xw)]
def xy:List Val->M Val:=fj (look XE) 3 jk
def XF:List Row:=XE++[(("_law_taken":Str),2,xy)]
def AG:List Val->M Val:=fj (look XF) 1 kD
def XG:List Row:=XF++[(("_law_copy":Str),1,AG)]
def mX:List Val->M Val:=fj (look XG) 6 cW
def XH:List Row:=XG++[(("put_in_order":Str),2,mX)]
def xA:List Val->M Val:=fj (look XH) 5 jl
def JO:List Row:=XH++[(("ends_of":Str),2,xA)]
def xB:List Val->M Val:=fj (look JO) 2 jm
def JP:List Row:=JO++[(("without":Str),2,xB)]
def rV:List Val->M Val:=fj (look JP) 2 fX
def JQ:List Row:=JP++[(("taken_out":Str),2,rV)]
def DO:List Val->M Val:=fj (look JQ) 9 mV
def JR:List Row:=JQ++[(("drawn":Str),2,DO)]
def xC:List Val->M Val:=fj (look JR) 3 gC
def JS:List Row:=JR++[(("done_by":Str),3,xC)]
def qd:List Val->M Val:=fj (look JS) 1 e8
def JT:List Row:=JS++[(("other_side":Str),1,qd)]
def mY:List Val->M Val:=fj (look JT) 3 b9
def JU:List Row:=JT++[(("behind_taken":Str),3,mY)]
def xD:List Val->M Val:=fj (look JU) 1 jn
def JV:List Row:=JU++[(("own_net":Str),1,xD)]
def rW:List Val->M Val:=fj (look JV) 3 fY
def JW:List Row:=JV++[(("places_of":Str),1,rW)]
def xE:List Val->M Val:=OQ 0 (fj (look JW) 5 oR)
def JX:List Row:=JW++[(("ByTrees":Str),1,xE)]
def xF:List Val->M Val:=fj (look JX) 2 jq
def JY:List Row:=JX++[(("rule_of":Str),2,xF)]
def xG:List Val->M Val:=fj (look JY) 2 lC
def JZ:List Row:=JY++[(("but_for":Str),2,xG)]
def rX:List Val->M Val:=fj (look JZ) 8 fZ
def J0:List Row:=JZ++[(("firsts_by":Str),2,rX)]
def kH:List Val->M Val:=fj (look J0) 3 cz
def J1:List Row:=J0++[(("Rule.tree_rank":Str),1002,kH)]
def mZ:List Val->M Val:=fj (look J1) 2 cX
def J2:List Row:=J1++[(("ByTrees.rank":Str),1002,mZ)]
def uX:List Val->M Val:=fj (look J2) 1 jP
def J3:List Row:=J2++[(("names_of":Str),1,uX)]
def rY:List Val->M Val:=fj (look J3) 1 f6
def J4:List Row:=J3++[(("Rule.ties":Str),1001,rY)]
def qf:List Val->M Val:=fj (look J4) 3 fc
def J5:List Row:=J4++[(("Rule.reach":Str),1002,qf)]
def oz:List Val->M Val:=fj (look J5) 3 dO
def J6:List Row:=J5++[(("least_spare":Str),2,oz)]
def lR:List Val->M Val:=fj (look J6) 5 cK
def J7:List Row:=J6++[(("mended_unhurt":Str),3,lR)]
def AH:List Val->M Val:=fj (look J7) 3 kE
def J8:List Row:=J7++[(("is_row":Str),2,AH)]
def rZ:List Val->M Val:=fj (look J8) 2 f9
def J9:List Row:=J8++[(("Rule.free":Str),1002,rZ)]
def AI:List Val->M Val:=fj (look J9) 7 kF
def Ka:List Row:=J9++[(("stands":Str),3,AI)]
def m9:List Val->M Val:=fj (look Ka) 4 cY
def Kc:List Row:=Ka++[(("least_beyond":Str),3,m9)]
def AJ:List Val->M Val:=fj (look Kc) 7 gD
def Kd:List Row:=Kc++[(("mended":Str),4,AJ)]
def uY:List Val->M Val:=fj (look Kd) 9 gU
def Ke:List Row:=Kd++[(("_law_behind":Str),3,uY)]
def xH:List Val->M Val:=fj (look Ke) 8 jr
def Kf:List Row:=Ke++[(("_law_marks":Str),2,xH)]
def xJ:List Val->M Val:=fj (look Kf) 3 jt
def Kg:List Row:=Kf++[(("_law_joins":Str),2,xJ)]
def AK:List Val->M Val:=fj (look Kg) 3 kG
def Kh:List Row:=Kg++[(("_law_rank":Str),3,AK)]
def AL:List Val->M Val:=fj (look Kh) 2 nU
def Kl:List Row:=Kh++[(("_law_less":Str),2,AL)]
def xK:List Val->M Val:=fj (look Kl) 6 ju
def Km:List Row:=Kl++[(("_law_reach":Str),3,xK)]
def xM:List Val->M Val:=fj (look Km) 1 jv
def Kn:List Row:=Km++[(("_law_other":Str),1,xM)]
def DP:List Val->M Val:=fj (look Kn) 14 mW
def Ko:List Row:=Kn++[(("_law_due":Str),4,DP)]
def xN:List Val->M Val:=fj (look Ko) 1 jw
def Kp:List Row:=Ko++[(("_law_whole":Str),1,xN)]
def lT:List Val->M Val:=fj (look Kp) 2 cL
def NV:List Row:=Kp++[(("_law_mended_like":Str),1,lT)]
def Kq:List Val->M Val:=fj (look NV) 9 yK
def Z8:List aK:=[]
def bD:aK:=bW (af Z8) 2 kB
def Z9:List aK:=Z8++[bD]
def fH:aK:=bW (af Z9) 6 fV
def AM:List aK:=Z9++[fH]
def kI:aK:=bW (af AM) 9 jj
def Bq:List aK:=AM++[kI]
def nV:aK:=bW (af Bq) 13 mU
def XI:List aK:=Bq++[nV]
def fJ:aK:=bW (af XI) 4 fW
def gs5:List aK:=XI++[fJ]
def kJ:aK:=bW (af gs5) 1 lB
def Yv:List aK:=gs5++[kJ]
def kK:aK:=bW (af Yv) 3 jk
def gs7:List aK:=Yv++[kK]
def ng:aK:=bW (af gs7) 1 kD
def gs8:List aK:=gs7++[ng]
def bX:aK:=bW (af gs8) 6 cW
def gs9:List aK:=gs8++[bX]
def iR:aK:=bW (af gs9) 5 jl
def NW:List aK:=gs9++[iR]
def iS:aK:=bW (af NW) 2 jm
def Kr:List aK:=NW++[iS]
def fK:aK:=bW (af Kr) 2 fX
def Fq:List aK:=Kr++[fK]
def nW:aK:=bW (af Fq) 9 mV
def Ks:List aK:=Fq++[nW]
def fL:aK:=bW (af Ks) 3 gC
def S8:List aK:=Ks++[fL]
def gf:aK:=bW (af S8) 1 e8
def Ku:List aK:=S8++[gf]
def bG:aK:=bW (af Ku) 3 b9
def NX:List aK:=Ku++[bG]
def gE:aK:=bW (af NX) 1 jn
def S9:List aK:=NX++[gE]
def fM:aK:=bW (af S9) 3 fY
def Kv:List aK:=S9++[fM]
def nX:aK:=Aq (af Kv) 0 16 17
def NY:List aK:=Kv++[nX]
def gF:aK:=bW (af NY) 2 jq
def Tc:List aK:=NY++[gF]
def iT:aK:=bW (af Tc) 2 lC
def Td:List aK:=Tc++[iT]
def fN:aK:=bW (af Td) 8 fZ
def NZ:List aK:=Td++[fN]
def cM:aK:=bW (af NZ) 3 cz
def N1:List aK:=NZ++[cM]
def cN:aK:=bW (af N1) 2 cX
def Te:List aK:=N1++[cN]
def jx:aK:=bW (af Te) 1 jP
def N2:List aK:=Te++[jx]
def gW:aK:=bW (af N2) 1 f6
def Kw:List aK:=N2++[gW]
def cQ:aK:=bW (af Kw) 3 fc
def Ky:List aK:=Kw++[cQ]
def ff:aK:=bW (af Ky) 3 dO
def Co:List aK:=Ky++[ff]
def cg:aK:=bW (af Co) 5 cK
def N3:List aK:=Co++[cg]
def nh:aK:=bW (af N3) 3 kE
def N4:List aK:=N3++[nh]
def gX:aK:=bW (af N4) 2 f9
def Cp:List aK:=N4++[gX]
def ni:aK:=bW (af Cp) 7 kF
def N5:List aK:=Cp++[ni]
def dP:aK:=bW (af N5) 4 cY
def yL:List aK:=N5++[dP]
def dQ:aK:=bW (af yL) 7 gD
def vS:List aK:=yL++[dQ]
def fB:aK:=bW (af vS) 9 gU
def nj:List aK:=vS++[fB]
def kL:aK:=bW (af nj) 8 jr
def N6:List aK:=nj++[kL]
def kM:aK:=bW (af N6) 3 jt
def N7:List aK:=N6++[kM]
def kN:aK:=bW (af N7) 3 kG
def Tf:List aK:=N7++[kN]
def qg:aK:=bW (af Tf) 2 nU
def vU:List aK:=Tf++[qg]
def iU:aK:=bW (af vU) 6 ju
def Tg:List aK:=vU++[iU]
def kO:aK:=bW (af Tg) 1 jv
def qh:List aK:=Tg++[kO]
def iL:aK:=bW (af qh) 14 mW
def Th:List aK:=qh++[iL]
def kP:aK:=bW (af Th) 1 jw
def yM:List aK:=Th++[kP]
def cZ:aK:=bW (af yM) 2 cL
def uZ:List aK:=yM++[cZ]
def Kz:aK:=SQ (af uZ) 9 yK
theorem jQ:af AM 0=bD:=rfl
theorem iz:af Bq 0=bD:=rfl
theorem jy:af Bq 1=fH:=rfl
theorem qQ:af Bq 2=kI:=rfl
theorem n8:af XI 0=bD:=rfl
theorem lD:af XI 1=fH:=rfl
theorem fD:af Yv 5=kJ:=rfl
theorem oS:af NW 9=iR:=rfl
theorem jF:af Kr 8=bX:=rfl
theorem nk:af Kr 10=iS:=rfl
theorem lZ:af Fq 8=bX:=rfl
theorem qR:af Fq 9=iR:=rfl
theorem qS:af Fq 10=iS:=rfl
theorem nq:af Ks 11=fK:=rfl
theorem qT:af Ks 12=nW:=rfl
theorem kQ:af Ku 13=fL:=rfl
theorem jz:af Ku 14=gf:=rfl
theorem kR:af NX 8=bX:=rfl
theorem oU:af Kv 16=gE:=rfl
theorem nt:af Kv 17=fM:=rfl
theorem oV:af NY 18=nX:=rfl
theorem iM:af NZ 21=fN:=rfl
theorem gG:af N1 22=cM:=rfl
theorem l9:af N2 24=jx:=rfl
theorem dU:af Kw 23=cN:=rfl
theorem kT:af Kw 25=gW:=rfl
theorem lF:af Ky 20=iT:=rfl
theorem eV:af Ky 26=cQ:=rfl
theorem j6:af Co 13=fL:=rfl
theorem j7:af Co 19=gF:=rfl
theorem j8:af Co 20=iT:=rfl
theorem iA:af Co 27=ff:=rfl
theorem oW:af N3 24=jx:=rfl
theorem jG:af N4 23=cN:=rfl
theorem qi:af Cp 19=gF:=rfl
theorem nu:af Cp 26=cQ:=rfl
theorem qU:af Cp 29=nh:=rfl
theorem n9:af Cp 30=gX:=rfl
theorem jA:af N5 26=cQ:=rfl
theorem cR:af yL 15=bG:=rfl
theorem jR:af yL 19=gF:=rfl
theorem jS:af yL 20=iT:=rfl
theorem kU:af yL 28=cg:=rfl
theorem gH:af yL 31=ni:=rfl
theorem gg:af yL 32=dP:=rfl
theorem oX:af N6 35=kL:=rfl
theorem qj:af N7 36=kM:=rfl
theorem oY:af vU 5=kJ:=rfl
theorem jT:af vU 37=kN:=rfl
theorem jU:af qh 34=fB:=rfl
theorem lU:af qh 37=kN:=rfl
theorem fm:af qh 38=qg:=rfl
theorem qV:af qh 39=iU:=rfl
theorem qW:af qh 40=kO:=rfl
theorem fh:af yM 42=kP:=rfl
theorem vV:af uZ 0=bD:=rfl
theorem yN:af uZ 3=nV:=rfl
theorem qX:af uZ 4=fJ:=rfl
theorem u5:af uZ 6=kK:=rfl
theorem vW:af uZ 7=ng:=rfl
theorem oA:af uZ 33=dQ:=rfl
theorem yO:af uZ 41=iL:=rfl
theorem nv:af uZ 43=cZ:=rfl
theorem i0:bT Xx Z8:=IZ
theorem KA:Imp AF bD:=aQ (aj i0) (by decide +kernel)
theorem i1:bT Xy Z9:=ak i0 KA
theorem AN:Imp rS fH:=aQ (aj i1) (by decide +kernel)
theorem i2:bT Xz AM:=ak i1 AN
theorem Ft:Imp xu kI:=aQ (aj i2) (by decide +kernel)
theorem i3:bT XA Bq:=ak i2 Ft
theorem N8:Imp DN nV:=aQ (aj i3) (by decide +kernel)
theorem i4:bT XC XI:=ak i3 N8
theorem AO:Imp rT fJ:=aQ (aj i4) (by decide +kernel)
theorem i5:bT XD gs5:=ak i4 AO
theorem Fv:Imp xw kJ:=aQ (aj i5) (by decide +kernel)
theorem i6:bT XE Yv:=ak i5 Fv
theorem Fw:Imp xy kK:=aQ (aj i6) (by decide +kernel)
theorem i7:bT XF gs7:=ak i6 Fw
theorem KC:Imp AG ng:=aQ (aj i7) (by decide +kernel)
theorem i8:bT XG gs8:=ak i7 KC
theorem u6:Imp mX bX:=aQ (aj i8) (by decide +kernel)
theorem i9:bT XH gs9:=ak i8 u6
theorem Fx:Imp xA iR:=aQ (aj i9) (by decide +kernel)
theorem i10:bT JO NW:=ak i9 Fx
theorem Fy:Imp xB iS:=aQ (aj i10) (by decide +kernel)
theorem i11:bT JP Kr:=ak i10 Fy
theorem AQ:Imp rV fK:=aQ (aj i11) (by decide +kernel)
theorem i12:bT JQ Fq:=ak i11 AQ
theorem N9:Imp DO nW:=aQ (aj i12) (by decide +kernel)
theorem i13:bT JR Ks:=ak i12 N9
theorem Fz:Imp xC fL:=aQ (aj i13) (by decide +kernel)
theorem i14:bT JS S8:=ak i13 Fz
theorem yP:Imp qd gf:=aQ (aj i14) (by decide +kernel)
theorem i15:bT JT Ku:=ak i14 yP
theorem u7:Imp mY bG:=aQ (aj i15) (by decide +kernel)
theorem i16:bT JU NX:=ak i15 u7
theorem FA:Imp xD gE:=aQ (aj i16) (by decide +kernel)
theorem i17:bT JV S9:=ak i16 FA
theorem AR:Imp rW fM:=aQ (aj i17) (by decide +kernel)
theorem i18:bT JW Kv:=ak i17 AR
theorem FD:Imp xE nX:=Jk (n:=1) (by decide) (aj i18)
theorem i19:bT JX NY:=ak i18 FD
theorem FE:Imp xF gF:=aQ (aj i19) (by decide +kernel)
theorem i20:bT JY Tc:=ak i19 FE
theorem FF:Imp xG iT:=aQ (aj i20) (by decide +kernel)
theorem i21:bT JZ Td:=ak i20 FF
theorem AS:Imp rX fN:=aQ (aj i21) (by decide +kernel)
theorem i22:bT J0 NZ:=ak i21 AS
theorem qY:Imp kH cM:=aQ (aj i22) (by decide +kernel)
theorem i23:bT J1 N1:=ak i22 qY
theorem u9:Imp mZ cN:=aQ (aj i23) (by decide +kernel)
theorem i24:bT J2 Te:=ak i23 u9
theorem Cq:Imp uX jx:=aQ (aj i24) (by decide +kernel)
theorem i25:bT J3 N2:=ak i24 Cq
theorem AV:Imp rY gW:=aQ (aj i25) (by decide +kernel)
theorem i26:bT J4 Kw:=ak i25 AV
theorem yQ:Imp qf cQ:=aQ (aj i26) (by decide +kernel)
theorem i27:bT J5 Ky:=ak i26 yQ
theorem vX:Imp oz ff:=aQ (aj i27) (by decide +kernel)
theorem i28:bT J6 Co:=ak i27 vX
theorem sG:Imp lR cg:=aQ (aj i28) (by decide +kernel)
theorem i29:bT J7 N3:=ak i28 sG
theorem KD:Imp AH nh:=aQ (aj i29) (by decide +kernel)
theorem i30:bT J8 N4:=ak i29 KD
theorem AW:Imp rZ gX:=aQ (aj i30) (by decide +kernel)
theorem i31:bT J9 Cp:=ak i30 AW
theorem KG:Imp AI ni:=aQ (aj i31) (by decide +kernel)
theorem i32:bT Ka N5:=ak i31 KG
theorem vc:Imp m9 dP:=aQ (aj i32) (by decide +kernel)
theorem i33:bT Kc yL:=ak i32 vc
theorem KH:Imp AJ dQ:=aQ (aj i33) (by decide +kernel)
theorem i34:bT Kd vS:=ak i33 KH
theorem Cr:Imp uY fB:=aQ (aj i34) (by decide +kernel)
theorem i35:bT Ke nj:=ak i34 Cr
theorem FG:Imp xH kL:=aQ (aj i35) (by decide +kernel)
theorem i36:bT Kf N6:=ak i35 FG
theorem FH:Imp xJ kM:=aQ (aj i36) (by decide +kernel)
theorem i37:bT Kg N7:=ak i36 FH
theorem KI:Imp AK kN:=aQ (aj i37) (by decide +kernel)
theorem i38:bT Kh Tf:=ak i37 KI
theorem KJ:Imp AL qg:=aQ (aj i38) (by decide +kernel)
theorem i39:bT Kl vU:=ak i38 KJ
theorem FI:Imp xK iU:=aQ (aj i39) (by decide +kernel)
theorem i40:bT Km Tg:=ak i39 FI
theorem FJ:Imp xM kO:=aQ (aj i40) (by decide +kernel)
theorem i41:bT Kn qh:=ak i40 FJ
theorem Oa:Imp DP iL:=aQ (aj i41) (by decide +kernel)
theorem i42:bT Ko Th:=ak i41 Oa
theorem FL:Imp xN kP:=aQ (aj i42) (by decide +kernel)
theorem i43:bT Kp yM:=ak i42 FL
theorem sH:Imp lT cZ:=aQ (aj i43) (by decide +kernel)
theorem i44:bT NV uZ:=ak i43 sH
theorem Oc{ns:List Int}{f:Bool}(e:Kz [.rl (ns.map .int)]=.ok (f,.bl true)):∃h',Kq [.rl (ns.map .int)] []=.ok (.bl true) h':=Fp (aj i44) (by decide +kernel) e
theorem c0:aE Ju Ju (aa (top 35))=true:=by decide +kernel
theorem d0:aO ⟨Ju,aa (top 35),Xx.map (λr=>(r.1,r.2.1)),cons,tb⟩ kB (ao (top 35))=true:=by decide +kernel
theorem c1:aE SY ["_law_cell_here","_law_big"] (aa (top 37))=true:=by decide +kernel
theorem d1:aO ⟨SY,aa (top 37),Xy.map (λr=>(r.1,r.2.1)),cons,tb⟩ fV (ao (top 37))=true:=by decide +kernel
theorem c2:aE S0 Xu (aa (top 38))=true:=by decide +kernel
theorem d2:aO ⟨S0,aa (top 38),Xz.map (λr=>(r.1,r.2.1)),cons,tb⟩ jj (ao (top 38))=true:=by decide +kernel
theorem c3:aE S4 Xv (aa (top 39))=true:=by decide +kernel
theorem d3:aO ⟨S4,aa (top 39),XA.map (λr=>(r.1,r.2.1)),cons,tb⟩ mU (ao (top 39))=true:=by decide +kernel
theorem c4:aE S5 ["_law_script","_law_most"] (aa (top 40))=true:=by decide +kernel
theorem d4:aO ⟨S5,aa (top 40),XC.map (λr=>(r.1,r.2.1)),cons,tb⟩ fW (ao (top 40))=true:=by decide +kernel
theorem c5:aE vR vR (aa (top 42))=true:=by decide +kernel
theorem d5:aO ⟨vR,aa (top 42),XD.map (λr=>(r.1,r.2.1)),cons,tb⟩ lB (ao (top 42))=true:=by decide +kernel
theorem c6:aE S6 ["_law_net_here","_law_cell_here"] (aa (top 52))=true:=by decide +kernel
theorem d6:aO ⟨S6,aa (top 52),XE.map (λr=>(r.1,r.2.1)),cons,tb⟩ jk (ao (top 52))=true:=by decide +kernel
theorem c7:aE vR vR (aa (top 41))=true:=by decide +kernel
theorem d7:aO ⟨vR,aa (top 41),XF.map (λr=>(r.1,r.2.1)),cons,tb⟩ kD (ao (top 41))=true:=by decide +kernel
theorem c8:aE S7 ["poles","ties"] (aa (top 5))=true:=by decide +kernel
theorem d8:aO ⟨S7,aa (top 5),XG.map (λr=>(r.1,r.2.1)),cons,tb⟩ cW (ao (top 5))=true:=by decide +kernel
theorem c9:aE Jv jN (aa (top 9))=true:=by decide +kernel
theorem d9:aO ⟨Jv,aa (top 9),XH.map (λr=>(r.1,r.2.1)),cons,tb⟩ jl (ao (top 9))=true:=by decide +kernel
theorem c10:aE jN jN (aa (top 11))=true:=by decide +kernel
theorem d10:aO ⟨jN,aa (top 11),JO.map (λr=>(r.1,r.2.1)),cons,tb⟩ jm (ao (top 11))=true:=by decide +kernel
theorem c11:aE jN jN (aa (top 12))=true:=by decide +kernel
theorem d11:aO ⟨jN,aa (top 12),JP.map (λr=>(r.1,r.2.1)),cons,tb⟩ fX (ao (top 12))=true:=by decide +kernel
theorem c12:aE Jw jN (aa (top 13))=true:=by decide +kernel
theorem d12:aO ⟨Jw,aa (top 13),JQ.map (λr=>(r.1,r.2.1)),cons,tb⟩ mV (ao (top 13))=true:=by decide +kernel
theorem c13:aE Ay Ay (aa (top 14))=true:=by decide +kernel
theorem d13:aO ⟨Ay,aa (top 14),JR.map (λr=>(r.1,r.2.1)),cons,tb⟩ gC (ao (top 14))=true:=by decide +kernel
theorem c14:aE ["side"] ["side"] (aa (top 15))=true:=by decide +kernel
theorem d14:aO ⟨["side"],aa (top 15),JS.map (λr=>(r.1,r.2.1)),cons,tb⟩ e8 (ao (top 15))=true:=by decide +kernel
theorem c15:aE Az Az (aa (top 29))=true:=by decide +kernel
theorem d15:aO ⟨Az,aa (top 29),JT.map (λr=>(r.1,r.2.1)),cons,tb⟩ b9 (ao (top 29))=true:=by decide +kernel
theorem c16:aE ["net"] ["net"] (aa (top 6))=true:=by decide +kernel
theorem d16:aO ⟨["net"],aa (top 6),JU.map (λr=>(r.1,r.2.1)),cons,tb⟩ jn (ao (top 6))=true:=by decide +kernel
theorem c17:aE Jx ["net"] (aa (top 7))=true:=by decide +kernel
theorem d17:aO ⟨Jx,aa (top 7),JV.map (λr=>(r.1,r.2.1)),cons,tb⟩ fY (ao (top 7))=true:=by decide +kernel
theorem c18:aE Jy ["self","net"] (aa (fG 0))=true:=by decide +kernel
theorem d18:aO ⟨Jy,aa (fG 0),JW.map (λr=>(r.1,r.2.1)),cons,tb⟩ oR (ao (fG 0))=true:=by decide +kernel
theorem c19:aE AA AA (aa (top 23))=true:=by decide +kernel
theorem d19:aO ⟨AA,aa (top 23),JX.map (λr=>(r.1,r.2.1)),cons,tb⟩ jq (ao (top 23))=true:=by decide +kernel
theorem c20:aE AB AB (aa (top 30))=true:=by decide +kernel
theorem d20:aO ⟨AB,aa (top 30),JY.map (λr=>(r.1,r.2.1)),cons,tb⟩ lC (ao (top 30))=true:=by decide +kernel
theorem c21:aE Jz ["places","pairs"] (aa (top 17))=true:=by decide +kernel
theorem d21:aO ⟨Jz,aa (top 17),JZ.map (λr=>(r.1,r.2.1)),cons,tb⟩ fZ (ao (top 17))=true:=by decide +kernel
theorem c22:aE JA jO (aa (fG 7))=true:=by decide +kernel
theorem d22:aO ⟨JA,aa (fG 7),J0.map (λr=>(r.1,r.2.1)),cons,tb⟩ cz (ao (fG 7))=true:=by decide +kernel
theorem c23:aE jO jO (aa (DM 1))=true:=by decide +kernel
theorem d23:aO ⟨jO,aa (DM 1),J1.map (λr=>(r.1,r.2.1)),cons,tb⟩ cX (ao (DM 1))=true:=by decide +kernel
theorem c24:aE ["net"] ["net"] (aa (top 8))=true:=by decide +kernel
theorem d24:aO ⟨["net"],aa (top 8),J2.map (λr=>(r.1,r.2.1)),cons,tb⟩ jP (ao (top 8))=true:=by decide +kernel
theorem c25:aE ["self"] ["self"] (aa (fG 3))=true:=by decide +kernel
theorem d25:aO ⟨["self"],aa (fG 3),J3.map (λr=>(r.1,r.2.1)),cons,tb⟩ f6 (ao (fG 3))=true:=by decide +kernel
theorem c26:aE JB jO (aa (fG 6))=true:=by decide +kernel
theorem d26:aO ⟨JB,aa (fG 6),J4.map (λr=>(r.1,r.2.1)),cons,tb⟩ fc (ao (fG 6))=true:=by decide +kernel
theorem c27:aE JC ["rule","row"] (aa (top 33))=true:=by decide +kernel
theorem d27:aO ⟨JC,aa (top 33),J5.map (λr=>(r.1,r.2.1)),cons,tb⟩ dO (ao (top 33))=true:=by decide +kernel
theorem c28:aE JD DK (aa (top 32))=true:=by decide +kernel
theorem d28:aO ⟨JD,aa (top 32),J6.map (λr=>(r.1,r.2.1)),cons,tb⟩ cK (ao (top 32))=true:=by decide +kernel
theorem c29:aE JE ["net","row"] (aa (top 26))=true:=by decide +kernel
theorem d29:aO ⟨JE,aa (top 26),J7.map (λr=>(r.1,r.2.1)),cons,tb⟩ kE (ao (top 26))=true:=by decide +kernel
theorem c30:aE jO jO (aa (fG 5))=true:=by decide +kernel
theorem d30:aO ⟨jO,aa (fG 5),J8.map (λr=>(r.1,r.2.1)),cons,tb⟩ f9 (ao (fG 5))=true:=by decide +kernel
theorem c31:aE JF DK (aa (top 25))=true:=by decide +kernel
theorem d31:aO ⟨JF,aa (top 25),J9.map (λr=>(r.1,r.2.1)),cons,tb⟩ kF (ao (top 25))=true:=by decide +kernel
theorem c32:aE JG ["rule","row","other"] (aa (top 31))=true:=by decide +kernel
theorem d32:aO ⟨JG,aa (top 31),Ka.map (λr=>(r.1,r.2.1)),cons,tb⟩ cY (ao (top 31))=true:=by decide +kernel
theorem c33:aE JH ["net","side","paper","taken"] (aa (top 28))=true:=by decide +kernel
theorem d33:aO ⟨JH,aa (top 28),Kc.map (λr=>(r.1,r.2.1)),cons,tb⟩ gD (ao (top 28))=true:=by decide +kernel
theorem c34:aE JI Pb (aa (top 43))=true:=by decide +kernel
theorem d34:aO ⟨JI,aa (top 43),Kd.map (λr=>(r.1,r.2.1)),cons,tb⟩ gU (ao (top 43))=true:=by decide +kernel
theorem c35:aE JJ DL (aa (top 44))=true:=by decide +kernel
theorem d35:aO ⟨JJ,aa (top 44),Ke.map (λr=>(r.1,r.2.1)),cons,tb⟩ jr (ao (top 44))=true:=by decide +kernel
theorem c36:aE JK DL (aa (top 45))=true:=by decide +kernel
theorem d36:aO ⟨JK,aa (top 45),Kf.map (λr=>(r.1,r.2.1)),cons,tb⟩ jt (ao (top 45))=true:=by decide +kernel
theorem c37:aE uV uV (aa (top 46))=true:=by decide +kernel
theorem d37:aO ⟨uV,aa (top 46),Kg.map (λr=>(r.1,r.2.1)),cons,tb⟩ kG (ao (top 46))=true:=by decide +kernel
theorem c38:aE AD AD (aa (top 49))=true:=by decide +kernel
theorem d38:aO ⟨AD,aa (top 49),Kh.map (λr=>(r.1,r.2.1)),cons,tb⟩ nU (ao (top 49))=true:=by decide +kernel
theorem c39:aE JL uV (aa (top 47))=true:=by decide +kernel
theorem d39:aO ⟨JL,aa (top 47),Kl.map (λr=>(r.1,r.2.1)),cons,tb⟩ ju (ao (top 47))=true:=by decide +kernel
theorem c40:aE AE AE (aa (top 48))=true:=by decide +kernel
theorem d40:aO ⟨AE,aa (top 48),Km.map (λr=>(r.1,r.2.1)),cons,tb⟩ jv (ao (top 48))=true:=by decide +kernel
theorem c41:aE JM Pc (aa (top 50))=true:=by decide +kernel
theorem d41:aO ⟨JM,aa (top 50),Kn.map (λr=>(r.1,r.2.1)),cons,tb⟩ mW (ao (top 50))=true:=by decide +kernel
theorem c42:aE uW uW (aa (top 36))=true:=by decide +kernel
theorem d42:aO ⟨uW,aa (top 36),Ko.map (λr=>(r.1,r.2.1)),cons,tb⟩ jw (ao (top 36))=true:=by decide +kernel
theorem c43:aE JN uW (aa (top 51))=true:=by decide +kernel
theorem d43:aO ⟨JN,aa (top 51),Kp.map (λr=>(r.1,r.2.1)),cons,tb⟩ cL (ao (top 51))=true:=by decide +kernel
theorem c44:aE Pd ["_law_script"] (aa (top 53))=true:=by decide +kernel
theorem d44:aO ⟨Pd,aa (top 53),NV.map (λr=>(r.1,r.2.1)),cons,tb⟩ yK (ao (top 53))=true:=by decide +kernel
section
variable {P:Program} {w:World} {K:Frag} {mg:Str->Option Value} {base:Heap}
theorem all_mk{l:PySem.W.OpenLaw}{h:Heap}{fa:Addr}(X:K.In h)(G:h.Ns mainGlobals mg)(Uh:mg "law" = some (.ref fa))(hφ:∀ns:List Int,ns.length<=63->∃h',Kq [.rl (ns.map .int)] []=.ok (.bl true) h'){D0:Addr}{a0:Addr}{a1:Addr}{a2:Addr}{a3:Addr}{a4:Addr}{a5:Addr}{a6:Addr}{a7:Addr}{a8:Addr}{a9:Addr}{a10:Addr}{a11:Addr}{a12:Addr}{a13:Addr}{a14:Addr}{a15:Addr}{a16:Addr}{a17:Addr}{Yw:Addr}{a19:Addr}{a20:Addr}{a21:Addr}{Yx:Addr}{Yy:Addr}{a24:Addr}{Yz:Addr}{YA:Addr}{a27:Addr}{a28:Addr}{a29:Addr}{YB:Addr}{a31:Addr}{a32:Addr}{a33:Addr}{a34:Addr}{a35:Addr}{a36:Addr}{a37:Addr}{a38:Addr}{a39:Addr}{a40:Addr}{a41:Addr}{a42:Addr}{a43:Addr}{a44:Addr}{tk0:Tok}
  (DA0:nsIn K mainGlobals "ByTrees" = some (some (.ref D0))) (DG0:plainGet K D0 Str.empty=true) (DH0:hasDictIn K D0=true) (DO0:plainOver K D0=true) (DS0:findIn K (.ref D0) "__setattr__" = some (some (.builtin "object.__setattr__"))) (DM0:makesIn K D0=true) (DK0:keepIn K (.ref D0)=true)
  (DN0_0:findIn K (.ref D0) "net" = some none)
  (DN0_1:findIn K (.ref D0) "places" = some none)
  (DN0_2:findIn K (.ref D0) "ends" = some none)
  (A0:nsIn K mainGlobals "_law_cell" = some (some (.ref a0)))
  (F0:iE K "_law_cell" "_law_cell" (top 35) a0)
  (A1:nsIn K mainGlobals "_law_numbers" = some (some (.ref a1)))
  (F1:iE K "_law_numbers" "_law_numbers" (top 37) a1)
  (A2:nsIn K mainGlobals "_law_pairs" = some (some (.ref a2)))
  (F2:iE K "_law_pairs" "_law_pairs" (top 38) a2)
  (A3:nsIn K mainGlobals "_law_net" = some (some (.ref a3)))
  (F3:iE K "_law_net" "_law_net" (top 39) a3)
  (A4:nsIn K mainGlobals "_law_planted" = some (some (.ref a4)))
  (F4:iE K "_law_planted" "_law_planted" (top 40) a4)
  (A5:nsIn K mainGlobals "_law_names" = some (some (.ref a5)))
  (F5:iE K "_law_names" "_law_names" (top 42) a5)
  (A6:nsIn K mainGlobals "_law_taken" = some (some (.ref a6)))
  (F6:iE K "_law_taken" "_law_taken" (top 52) a6)
  (A7:nsIn K mainGlobals "_law_copy" = some (some (.ref a7)))
  (F7:iE K "_law_copy" "_law_copy" (top 41) a7)
  (A8:nsIn K mainGlobals "put_in_order" = some (some (.ref a8)))
  (F8:iE K "put_in_order" "put_in_order" (top 5) a8)
  (A9:nsIn K mainGlobals "ends_of" = some (some (.ref a9)))
  (F9:iE K "ends_of" "ends_of" (top 9) a9)
  (A10:nsIn K mainGlobals "without" = some (some (.ref a10)))
  (F10:iE K "without" "without" (top 11) a10)
  (A11:nsIn K mainGlobals "taken_out" = some (some (.ref a11)))
  (F11:iE K "taken_out" "taken_out" (top 12) a11)
  (A12:nsIn K mainGlobals "drawn" = some (some (.ref a12)))
  (F12:iE K "drawn" "drawn" (top 13) a12)
  (A13:nsIn K mainGlobals "done_by" = some (some (.ref a13)))
  (F13:iE K "done_by" "done_by" (top 14) a13)
  (A14:nsIn K mainGlobals "other_side" = some (some (.ref a14)))
  (F14:iE K "other_side" "other_side" (top 15) a14)
  (A15:nsIn K mainGlobals "behind_taken" = some (some (.ref a15)))
  (F15:iE K "behind_taken" "behind_taken" (top 29) a15)
  (A16:nsIn K mainGlobals "own_net" = some (some (.ref a16)))
  (F16:iE K "own_net" "own_net" (top 6) a16)
  (A17:nsIn K mainGlobals "places_of" = some (some (.ref a17)))
  (F17:iE K "places_of" "places_of" (top 7) a17)
  (A18:findIn K (.ref D0) "__init__" = some (some (.ref Yw))) (I18:isFn K (.ref Yw)=true)
  (F18:iE K "__init__" "Rule.__init__" (fG 0) Yw)
  (A19:nsIn K mainGlobals "rule_of" = some (some (.ref a19)))
  (F19:iE K "rule_of" "rule_of" (top 23) a19)
  (A20:nsIn K mainGlobals "but_for" = some (some (.ref a20)))
  (F20:iE K "but_for" "but_for" (top 30) a20)
  (A21:nsIn K mainGlobals "firsts_by" = some (some (.ref a21)))
  (F21:iE K "firsts_by" "firsts_by" (top 17) a21)
  (M0_22:findIn K (.ref D0) "tree_rank" = some (some (.ref Yx)))
  (I22:isFn K (.ref Yx)=true)
  (F22:iE K "tree_rank" "Rule.tree_rank" (fG 7) Yx)
  (M0_23:findIn K (.ref D0) "rank" = some (some (.ref Yy)))
  (I23:isFn K (.ref Yy)=true)
  (F23:iE K "rank" "ByTrees.rank" (DM 1) Yy)
  (A24:nsIn K mainGlobals "names_of" = some (some (.ref a24)))
  (F24:iE K "names_of" "names_of" (top 8) a24)
  (M0_25:findIn K (.ref D0) "ties" = some (some (.ref Yz)))
  (I25:isFn K (.ref Yz)=true)
  (F25:iE K "ties" "Rule.ties" (fG 3) Yz)
  (M0_26:findIn K (.ref D0) "reach" = some (some (.ref YA)))
  (I26:isFn K (.ref YA)=true)
  (F26:iE K "reach" "Rule.reach" (fG 6) YA)
  (A27:nsIn K mainGlobals "least_spare" = some (some (.ref a27)))
  (F27:iE K "least_spare" "least_spare" (top 33) a27)
  (A28:nsIn K mainGlobals "mended_unhurt" = some (some (.ref a28)))
  (F28:iE K "mended_unhurt" "mended_unhurt" (top 32) a28)
  (A29:nsIn K mainGlobals "is_row" = some (some (.ref a29)))
  (F29:iE K "is_row" "is_row" (top 26) a29)
  (M0_30:findIn K (.ref D0) "free" = some (some (.ref YB)))
  (I30:isFn K (.ref YB)=true)
  (F30:iE K "free" "Rule.free" (fG 5) YB)
  (A31:nsIn K mainGlobals "stands" = some (some (.ref a31)))
  (F31:iE K "stands" "stands" (top 25) a31)
  (A32:nsIn K mainGlobals "least_beyond" = some (some (.ref a32)))
  (F32:iE K "least_beyond" "least_beyond" (top 31) a32)
  (A33:nsIn K mainGlobals "mended" = some (some (.ref a33)))
  (F33:iE K "mended" "mended" (top 28) a33)
  (A34:nsIn K mainGlobals "_law_behind" = some (some (.ref a34)))
  (F34:iE K "_law_behind" "_law_behind" (top 43) a34)
  (A35:nsIn K mainGlobals "_law_marks" = some (some (.ref a35)))
  (F35:iE K "_law_marks" "_law_marks" (top 44) a35)
  (A36:nsIn K mainGlobals "_law_joins" = some (some (.ref a36)))
  (F36:iE K "_law_joins" "_law_joins" (top 45) a36)
  (A37:nsIn K mainGlobals "_law_rank" = some (some (.ref a37)))
  (F37:iE K "_law_rank" "_law_rank" (top 46) a37)
  (A38:nsIn K mainGlobals "_law_less" = some (some (.ref a38)))
  (F38:iE K "_law_less" "_law_less" (top 49) a38)
  (A39:nsIn K mainGlobals "_law_reach" = some (some (.ref a39)))
  (F39:iE K "_law_reach" "_law_reach" (top 47) a39)
  (A40:nsIn K mainGlobals "_law_other" = some (some (.ref a40)))
  (F40:iE K "_law_other" "_law_other" (top 48) a40)
  (A41:nsIn K mainGlobals "_law_due" = some (some (.ref a41)))
  (F41:iE K "_law_due" "_law_due" (top 50) a41)
  (A42:nsIn K mainGlobals "_law_whole" = some (some (.ref a42)))
  (F42:iE K "_law_whole" "_law_whole" (top 36) a42)
  (A43:nsIn K mainGlobals "_law_mended_like" = some (some (.ref a43)))
  (F43:iE K "_law_mended_like" "_law_mended_like" (top 51) a43)
  (A44:nsIn K mainGlobals "law" = some (some (.ref a44)))
  (F44:iE K "law" "law" (top 53) a44)
  (Z:∀x∈bltNames,nsIn K mainGlobals x=some none)
  (V0:nsIn K mainGlobals "THOUGHT" = some (some (.int (-1) tk0))) :
  ∃fd:FuncData,(∀(s:Shared) (v:Value),BindsTo s fd ⟨[v],[]⟩ [("_law_script",v)])/\∀base:Heap,K.In base->base.Ns mainGlobals mg->gK l.prog w K mg base BK 90 fa fd ["_law_script"] (Ym K):=by
 have e:=Uh.symm.trans (aaD X G A44);cases e;obtain⟨cl,hcl⟩:∃cl:Nat->Addr,cl=λn=>if n=0 then D0 else if n=1022 then Yx else if n=1023 then Yy else if n=1025 then Yz else if n=1026 then YA else if n=1030 then YB else 0:=⟨_,rfl⟩
 have T:Base K cl mg cons tb:=by
  subst hcl;refine⟨λx hx=>?_,λp hp=>?_,λc hc=>?_,λp hp=>?_,λp hp=>?_,λp hp=>?_⟩
  ·exact PySem.W.mg_none_of X G (Z x hx)
  ·simp only[cons,mem_cons,not_mem_nil,or_false]at hp
   rcases hp with rfl
   ·exact⟨.int (-1),_,aaD X G V0,⟨_,rfl⟩,λ_ _ _=>VR.int⟩
  ·have hc:c<1:=hc
   match c,hc with
   |0,_=>
    refine⟨⟨DG0,DH0,DO0,DS0⟩,λx hx=>?_⟩;simp only[tb,mem_cons,not_mem_nil,or_false]at hx
    rcases hx with rfl|rfl|rfl
    ·exact DN0_0
    ·exact DN0_1
    ·exact DN0_2
  ·simp only[tb,mem_cons,not_mem_nil,or_false]at hp
   rcases hp with rfl|rfl|rfl|rfl|rfl
   ·exact⟨M0_22,I22,F22.kp⟩
   ·exact⟨M0_23,I23,F23.kp⟩
   ·exact⟨M0_25,I25,F25.kp⟩
   ·exact⟨M0_26,I26,F26.kp⟩
   ·exact⟨M0_30,I30,F30.kp⟩
  ·simp[tb]at hp
  ·simp[tb]at hp
 obtain⟨fd,F⟩:=F44;obtain⟨_,_,_,_,_,_,_,_,_,e,_⟩:=F.ex;refine⟨fd,λs v=>by rw[e];exact .of_eq rfl,λbase _ _=>?_⟩;have G0:bC l.prog w ⟨K,cl⟩ mg base 0 Xx:=all_nil;have G1:bC l.prog w ⟨K,cl⟩ mg base 2 Xy:=bI (x:="_law_cell") (N:=Ju) (ps:=Ju) (body:=kB) T G0 F0 (aaD X G A0) c0 d0 (by decide) (by intro _ _ _ _ _ _ _ l;apply ln2 l;intros;rfl);have G2:bC l.prog w ⟨K,cl⟩ mg base 4 Xz:=bI (x:="_law_numbers") (N:=SY) (ps:=["_law_cell_here","_law_big"]) (body:=fV) T G1 F1 (aaD X G A1) c1 d1 (by decide) (by intro _ _ _ _ _ _ _ l;apply ln2 l;intros;rfl);have G3:bC l.prog w ⟨K,cl⟩ mg base 6 XA:=bI (x:="_law_pairs") (N:=S0) (ps:=Xu) (body:=jj) T G2 F2 (aaD X G A2) c2 d2 (by decide) (by intro _ _ _ _ _ _ _ l;apply ZE l;intros;rfl);have G4:bC l.prog w ⟨K,cl⟩ mg base 8 XC:=bI (x:="_law_net") (N:=S4) (ps:=Xv) (body:=mU) T G3 F3 (aaD X G A3) c3 d3 (by decide) (by intro _ _ _ _ _ _ _ l;apply Nd l;intros;rfl);have G5:bC l.prog w ⟨K,cl⟩ mg base 10 XD:=bI (x:="_law_planted") (N:=S5) (ps:=["_law_script","_law_most"]) (body:=fW) T G4 F4 (aaD X G A4) c4 d4 (by decide) (by intro _ _ _ _ _ _ _ l;apply ln2 l;intros;rfl);have G6:bC l.prog w ⟨K,cl⟩ mg base 12 XE:=bI (x:="_law_names") (N:=vR) (ps:=vR) (body:=lB) T G5 F5 (aaD X G A5) c5 d5 (by decide) (by intro _ _ _ _ _ _ _ l;apply LL l;intros;rfl);have G7:bC l.prog w ⟨K,cl⟩ mg base 14 XF:=bI (x:="_law_taken") (N:=S6) (ps:=["_law_net_here","_law_cell_here"]) (body:=jk) T G6 F6 (aaD X G A6) c6 d6 (by decide) (by intro _ _ _ _ _ _ _ l;apply ln2 l;intros;rfl);have G8:bC l.prog w ⟨K,cl⟩ mg base 16 XG:=bI (x:="_law_copy") (N:=vR) (ps:=vR) (body:=kD) T G7 F7 (aaD X G A7) c7 d7 (by decide) (by intro _ _ _ _ _ _ _ l;apply LL l;intros;rfl);have G9:bC l.prog w ⟨K,cl⟩ mg base 18 XH:=bI (x:="put_in_order") (N:=S7) (ps:=["poles","ties"]) (body:=cW) T G8 F8 (aaD X G A8) c8 d8 (by decide) (by intro _ _ _ _ _ _ _ l;apply ln2 l;intros;rfl);have G10:bC l.prog w ⟨K,cl⟩ mg base 20 JO:=bI (x:="ends_of") (N:=Jv) (ps:=jN) (body:=jl) T G9 F9 (aaD X G A9) c9 d9 (by decide) (by intro _ _ _ _ _ _ _ l;apply ln2 l;intros;rfl);have G11:bC l.prog w ⟨K,cl⟩ mg base 22 JP:=bI (x:="without") (N:=jN) (ps:=jN) (body:=jm) T G10 F10 (aaD X G A10) c10 d10 (by decide) (by intro _ _ _ _ _ _ _ l;apply ln2 l;intros;rfl);have G12:bC l.prog w ⟨K,cl⟩ mg base 24 JQ:=bI (x:="taken_out") (N:=jN) (ps:=jN) (body:=fX) T G11 F11 (aaD X G A11) c11 d11 (by decide) (by intro _ _ _ _ _ _ _ l;apply ln2 l;intros;rfl);have G13:bC l.prog w ⟨K,cl⟩ mg base 26 JR:=bI (x:="drawn") (N:=Jw) (ps:=jN) (body:=mV) T G12 F12 (aaD X G A12) c12 d12 (by decide) (by intro _ _ _ _ _ _ _ l;apply ln2 l;intros;rfl);have G14:bC l.prog w ⟨K,cl⟩ mg base 28 JS:=bI (x:="done_by") (N:=Ay) (ps:=Ay) (body:=gC) T G13 F13 (aaD X G A13) c13 d13 (by decide) (by intro _ _ _ _ _ _ _ l;apply Nd l;intros;rfl);have G15:bC l.prog w ⟨K,cl⟩ mg base 30 JT:=bI (x:="other_side") (N:=["side"]) (ps:=["side"]) (body:=e8) T G14 F14 (aaD X G A14) c14 d14 (by decide) (by intro _ _ _ _ _ _ _ l;apply LL l;intros;rfl);have G16:bC l.prog w ⟨K,cl⟩ mg base 32 JU:=bI (x:="behind_taken") (N:=Az) (ps:=Az) (body:=b9) T G15 F15 (aaD X G A15) c15 d15 (by decide) (by intro _ _ _ _ _ _ _ l;apply Nd l;intros;rfl);have G17:bC l.prog w ⟨K,cl⟩ mg base 34 JV:=bI (x:="own_net") (N:=["net"]) (ps:=["net"]) (body:=jn) T G16 F16 (aaD X G A16) c16 d16 (by decide) (by intro _ _ _ _ _ _ _ l;apply LL l;intros;rfl);have G18:bC l.prog w ⟨K,cl⟩ mg base 36 JW:=bI (x:="places_of") (N:=Jx) (ps:=["net"]) (body:=fY) T G17 F17 (aaD X G A17) c17 d17 (by decide) (by intro _ _ _ _ _ _ _ l;apply LL l;intros;rfl);have G19:bC l.prog w ⟨K,cl⟩ mg base 38 JX:=RP (x:="ByTrees") (N:=Jy) (ps:=["self","net"]) (body:=oR) (n:=1) (f:=Yw) (c:=0) T G18 F18 (by rw[hcl];exact aaD X G DA0) (by rw[hcl];exact⟨DM0,A18,I18,DK0⟩) c18 d18 rfl (by decide) (by intro _ _ _ _ _ _ _ l;apply ln2 l;intros;rfl);have G20:bC l.prog w ⟨K,cl⟩ mg base 40 JY:=bI (x:="rule_of") (N:=AA) (ps:=AA) (body:=jq) T G19 F19 (aaD X G A19) c19 d19 (by decide) (by intro _ _ _ _ _ _ _ l;apply ln2 l;intros;rfl);have G21:bC l.prog w ⟨K,cl⟩ mg base 42 JZ:=bI (x:="but_for") (N:=AB) (ps:=AB) (body:=lC) T G20 F20 (aaD X G A20) c20 d20 (by decide) (by intro _ _ _ _ _ _ _ l;apply ln2 l;intros;rfl);have G22:bC l.prog w ⟨K,cl⟩ mg base 44 J0:=bI (x:="firsts_by") (N:=Jz) (ps:=["places","pairs"]) (body:=fZ) T G21 F21 (aaD X G A21) c21 d21 (by decide) (by intro _ _ _ _ _ _ _ l;apply ln2 l;intros;rfl);have G23:bC l.prog w ⟨K,cl⟩ mg base 46 J1:=Ac (y:="Rule.tree_rank") (N:=JA) (ps:=jO) (body:=cz) T G22 F22 (by rw[hcl];rfl) c22 d22 (by intro _ _ _ _ _ _ _ l;apply ln2 l;intros;rfl);have G24:bC l.prog w ⟨K,cl⟩ mg base 48 J2:=Ac (y:="ByTrees.rank") (N:=jO) (ps:=jO) (body:=cX) T G23 F23 (by rw[hcl];rfl) c23 d23 (by intro _ _ _ _ _ _ _ l;apply ln2 l;intros;rfl);have G25:bC l.prog w ⟨K,cl⟩ mg base 50 J3:=bI (x:="names_of") (N:=["net"]) (ps:=["net"]) (body:=jP) T G24 F24 (aaD X G A24) c24 d24 (by decide) (by intro _ _ _ _ _ _ _ l;apply LL l;intros;rfl);have G26:bC l.prog w ⟨K,cl⟩ mg base 52 J4:=Ac (y:="Rule.ties") (N:=["self"]) (ps:=["self"]) (body:=f6) T G25 F25 (by rw[hcl];rfl) c25 d25 (by intro _ _ _ _ _ _ _ l;apply LL l;intros;rfl);have G27:bC l.prog w ⟨K,cl⟩ mg base 54 J5:=Ac (y:="Rule.reach") (N:=JB) (ps:=jO) (body:=fc) T G26 F26 (by rw[hcl];rfl) c26 d26 (by intro _ _ _ _ _ _ _ l;apply ln2 l;intros;rfl);have G28:bC l.prog w ⟨K,cl⟩ mg base 56 J6:=bI (x:="least_spare") (N:=JC) (ps:=["rule","row"]) (body:=dO) T G27 F27 (aaD X G A27) c27 d27 (by decide) (by intro _ _ _ _ _ _ _ l;apply ln2 l;intros;rfl);have G29:bC l.prog w ⟨K,cl⟩ mg base 58 J7:=bI (x:="mended_unhurt") (N:=JD) (ps:=DK) (body:=cK) T G28 F28 (aaD X G A28) c28 d28 (by decide) (by intro _ _ _ _ _ _ _ l;apply Nd l;intros;rfl);have G30:bC l.prog w ⟨K,cl⟩ mg base 60 J8:=bI (x:="is_row") (N:=JE) (ps:=["net","row"]) (body:=kE) T G29 F29 (aaD X G A29) c29 d29 (by decide) (by intro _ _ _ _ _ _ _ l;apply ln2 l;intros;rfl);have G31:bC l.prog w ⟨K,cl⟩ mg base 62 J9:=Ac (y:="Rule.free") (N:=jO) (ps:=jO) (body:=f9) T G30 F30 (by rw[hcl];rfl) c30 d30 (by intro _ _ _ _ _ _ _ l;apply ln2 l;intros;rfl);have G32:bC l.prog w ⟨K,cl⟩ mg base 64 Ka:=bI (x:="stands") (N:=JF) (ps:=DK) (body:=kF) T G31 F31 (aaD X G A31) c31 d31 (by decide) (by intro _ _ _ _ _ _ _ l;apply Nd l;intros;rfl);have G33:bC l.prog w ⟨K,cl⟩ mg base 66 Kc:=bI (x:="least_beyond") (N:=JG) (ps:=["rule","row","other"]) (body:=cY) T G32 F32 (aaD X G A32) c32 d32 (by decide) (by intro _ _ _ _ _ _ _ l;apply Nd l;intros;rfl);have G34:bC l.prog w ⟨K,cl⟩ mg base 68 Kd:=bI (x:="mended") (N:=JH) (ps:=["net","side","paper","taken"]) (body:=gD) T G33 F33 (aaD X G A33) c33 d33 (by decide) (by intro _ _ _ _ _ _ _ l;apply ZE l;intros;rfl);have G35:bC l.prog w ⟨K,cl⟩ mg base 70 Ke:=bI (x:="_law_behind") (N:=JI) (ps:=Pb) (body:=gU) T G34 F34 (aaD X G A34) c34 d34 (by decide) (by intro _ _ _ _ _ _ _ l;apply Nd l;intros;rfl);have G36:bC l.prog w ⟨K,cl⟩ mg base 72 Kf:=bI (x:="_law_marks") (N:=JJ) (ps:=DL) (body:=jr) T G35 F35 (aaD X G A35) c35 d35 (by decide) (by intro _ _ _ _ _ _ _ l;apply ln2 l;intros;rfl);have G37:bC l.prog w ⟨K,cl⟩ mg base 74 Kg:=bI (x:="_law_joins") (N:=JK) (ps:=DL) (body:=jt) T G36 F36 (aaD X G A36) c36 d36 (by decide) (by intro _ _ _ _ _ _ _ l;apply ln2 l;intros;rfl);have G38:bC l.prog w ⟨K,cl⟩ mg base 76 Kh:=bI (x:="_law_rank") (N:=uV) (ps:=uV) (body:=kG) T G37 F37 (aaD X G A37) c37 d37 (by decide) (by intro _ _ _ _ _ _ _ l;apply Nd l;intros;rfl);have G39:bC l.prog w ⟨K,cl⟩ mg base 78 Kl:=bI (x:="_law_less") (N:=AD) (ps:=AD) (body:=nU) T G38 F38 (aaD X G A38) c38 d38 (by decide) (by intro _ _ _ _ _ _ _ l;apply ln2 l;intros;rfl);have G40:bC l.prog w ⟨K,cl⟩ mg base 80 Km:=bI (x:="_law_reach") (N:=JL) (ps:=uV) (body:=ju) T G39 F39 (aaD X G A39) c39 d39 (by decide) (by intro _ _ _ _ _ _ _ l;apply Nd l;intros;rfl);have G41:bC l.prog w ⟨K,cl⟩ mg base 82 Kn:=bI (x:="_law_other") (N:=AE) (ps:=AE) (body:=jv) T G40 F40 (aaD X G A40) c40 d40 (by decide) (by intro _ _ _ _ _ _ _ l;apply LL l;intros;rfl);have G42:bC l.prog w ⟨K,cl⟩ mg base 84 Ko:=bI (x:="_law_due") (N:=JM) (ps:=Pc) (body:=mW) T G41 F41 (aaD X G A41) c41 d41 (by decide) (by intro _ _ _ _ _ _ _ l;apply ZE l;intros;rfl);have G43:bC l.prog w ⟨K,cl⟩ mg base 86 Kp:=bI (x:="_law_whole") (N:=uW) (ps:=uW) (body:=jw) T G42 F42 (aaD X G A42) c42 d42 (by decide) (by intro _ _ _ _ _ _ _ l;apply LL l;intros;rfl);have G44:bC l.prog w ⟨K,cl⟩ mg base 88 NV:=bI (x:="_law_mended_like") (N:=JN) (ps:=uW) (body:=cL) T G43 F43 (aaD X G A43) c43 d43 (by decide) (by intro _ _ _ _ _ _ _ l;apply LL l;intros;rfl);exact(Dj T G44 F c44 d44).imp (RS hφ)
end
end K51
end
section
open PySem L2 Hv
set_option hygiene false
local macro_rules | `(tactic| simp only[EV,$ls,*] $[$l:location]?)=>`(tactic| simp only[bW,Sy,Sz,Ja,Jb,SA,SD,SE,SG,uL,WM,WN,WO,WQ,WR,So,WS,Sq,Ss,ZL,WU,WW,aD,bH,IG,bA,pO,eG,Yn,Nf,O3,kg,frO,O8,aT,Sm,bS,NF,Sn,isVar,j3,List.getElem?_cons_zero,List.getElem?_cons_succ,List.set_cons_zero,List.set_cons_succ,map_cons,map_nil,length_cons,length_nil,List.cons_append,nil_append,List.replicate_succ,List.replicate_zero,Nat.reduceSub,Nat.reduceAdd,Nat.reduceLeDiff,WX,WY,ZM,ZN,ZO,ZP,ZQ,ZR,WZ,W0,W2,W3,W4,W5,W6,W7,W8,W9,Su,Sv,Sw,Sx,Xa,jL,b6,wZ,ZG,eW,gq,Hv.stored,List.contains_nil,List.contains_cons,List.elem_nil,List.elem_cons,Nat.reduceBEq,Nat.reduceEqDiff,BEq.rfl,List.all_cons,List.all_nil,beq_self_eq_true,uC,kh,yw,ou,sE,↓reduceIte,Bool.and_true,Bool.true_and,Bool.false_and,Bool.and_false,Bool.or_false,Bool.false_or,Bool.or_true,Bool.true_or,Bool.or_self,Nat.zero_le,Bool.not_true,Bool.not_false,false_eq_true,decide_eq_true_eq,not_eq_true',decide_eq_false_iff_not,List.append_nil,nil_append,reduceCtorEq,$ls,*] $[$l:location]?)
section
open PySem L2 Hv
namespace K51
def kW(t:T3):Int×Int:=(t.2.1,t.2.2)
def lV(p q:Int)(ts:List T3):List Int:=p::q::ts.flatMap λt=>[t.2.1,t.2.2]
def qw(p q:Int)(ts:List T3):List Int:=ig (lV p q ts)
theorem qZ(p q:Int)(ts:List T3):(lV p q ts).length=2+2*ts.length:=by
 unfold lV
 induction ts with
 |nil=>rfl
 |cons t r ih=>simp only[List.flatMap_cons,length_cons,List.length_append,length_nil] at *;omega
theorem AX:∀(ns ks:List Int),(cH ks ns).length<=ks.length+ns.length
 |[],ks=>aaw _
 | k::r,ks=>by
  rw[cH,aaH];have:=AX r (ic ks k);have:=mD ks k;omega
theorem Od{p q:Int}(h:ts.length<=14):(qw p q ts).length<64:=by
 unfold qw ig;rw[(abo _).length_eq];have:=AX (lV p q ts) [];rw[qZ]at this;simp only[length_nil]at this;omega
theorem qk{p q x:Int}:x∈qw p q ts↔x=p\/x=q\/∃t∈ts,x=t.2.1\/x=t.2.2:=by
 unfold qw;rw[Jf];unfold lV;simp only[mem_cons,List.mem_flatMap,not_mem_nil,or_false]
theorem places_eq{p q:Int}(h:ts.length<=14):fM [aq p q ts]=.ok (true,.rl ((qw p q ts).map .int)):=by
 unfold fM fY aq;simp only[EV,bO j5,bO jE,cV];rw[Ak];refine iQ aP (λr:Pr FV=>r=.ok (true,.rl ((qw p q ts).map .int)))
  (λdone env=>∃a,env=[some (.sh,aq p q ts),some (.ow,.rl ((lV p q done).map .int)),a])
  ⟨none,rfl⟩ ?_ ?_
 ·rintro pre t post env hx ⟨a,rfl⟩
  refine⟨[some (.sh,aq p q ts),some (.ow,.rl ((lV p q (pre++[t])).map .int)),some (.sh,aP t)],?_,_,rfl⟩;have hpl:pre.length<14:=by have:=aa2 length hx;rw[aaI,aaH]at this;omega
  have z:((lV p q pre).map Val.int).length+2<=sizeLine:=by rw[aak,qZ];unfold sizeLine;omega
  have ea:(lV p q (pre++[t])).map Val.int=(lV p q pre).map Val.int++[.int t.2.1,.int t.2.2]:=by unfold lV;simp
  simp only[EV,aH,SH,z,ea]
 ·rintro env ⟨a,rfl⟩
  have hl:(lV p q ts).length<64:=by rw[qZ];omega
  simp only[EV,ints_map,hl];rfl
end K51
end
section
open PySem L2 Hv
namespace K51
def cA(e:Int×Int):Val:=.tup [.int e.1,.int e.2]
theorem Oe{i j:Nat}:cF (.tup [i,j]) (cA e) env=some ((env.set i (some (.sh,.int e.1))).set j (some (.sh,.int e.2))):=rfl
theorem FN(ps:List Int)(hn:ps.Nodup)(hl:ps.length<64)(es:List (Int×Int))(he:∀e∈es,e.1∈ps/\e.2∈ps):∃f φ,fN [.rl (ps.map .int),.rl (es.map cA)]=.ok (f,vp ps λx=>.int (φ x))/\lY ps es φ:=by
 unfold fN fZ;simp only[EV,cV];rw[Ak];have hz:∀pre:List Int,pre.length<=ps.length->(pre.map (Sum.inl:Int->Key)).length<sizeLine:=λpre h=>by rw[aak];unfold sizeLine;omega
 refine iQ Val.int (λr:Pr FV=>∃f φ,r=.ok (f,vp ps λx=>.int (φ x))/\lY ps es φ)
  (λdone env=>∃a,env=[some (.sh,.rl (ps.map .int)),some (.sh,.rl (es.map cA)),some (.ow,vp done λx=>.int x),a,none,none,none,none])
  ⟨none,rfl⟩ ?_ ?_
 ·rintro pre x post env hx ⟨a,rfl⟩
  have XJ:x∉pre:=by rw[hx,aa5]at hn;exact λh=>hn.2.2 x h x (by simp) rfl
  refine⟨[some (.sh,.rl (ps.map .int)),some (.sh,.rl (es.map cA)),some (.ow,vp (pre++[x]) λx=>.int x),some (.sh,.int x),none,none,none,none],?_,_,rfl⟩;simp only[EV,aH,pX,hz pre (by rw[hx];simp),DA XJ];rw[eN (g':=λx=>Val.int x)];intro y _;unfold uN
  split
  ·rename_i e;rw[e]
  ·rfl
 ·rintro env ⟨a,rfl⟩
  simp only[EV,cV];rw[Ak];refine iQ cA (λr:Pr FV=>∃f φ,r=.ok (f,vp ps λx=>.int (φ x))/\lY ps es φ)
   (λdone env=>∃(φ:Int->Int) (a b c d e:Option (Mk×Val)),env=[some (.sh,.rl (ps.map .int)),some (.sh,.rl (es.map cA)),some (.ow,vp ps λx=>.int (φ x)),a,b,c,d,e]/\lY ps done φ)
   ⟨id,_,_,_,_,_,rfl,lY.start ps⟩ ?_ ?_
  ·rintro pre e post env hx ⟨φ,a,b,c,d,f,rfl,DQ⟩
   obtain⟨h1,h2⟩:=he e (by rw[hx];simp);simp only[EV,Oe,mT h1,mT h2,cV];have hk:∃kept gone:Int,(if φ e.2 < φ e.1 then φ e.2 else φ e.1)=kept/\(if φ e.2 > φ e.1 then φ e.2 else φ e.1)=gone/\((kept = φ e.1/\gone = φ e.2)\/(kept = φ e.2/\gone = φ e.1)):=by
    refine⟨_,_,rfl,rfl,?_⟩
    split<;>split<;>omega
   obtain⟨kept,gone,ek,eg,hk⟩:=hk;rw[ek,eg];refine iQ Val.int (λr:Pr yv=>∃env',r=.ok (.nx env')/\∃(φ:Int->Int) (a b c d f:Option (Mk×Val)),env'=[some (.sh,.rl (ps.map .int)),some (.sh,.rl (es.map cA)),some (.ow,vp ps λx=>.int (φ x)),a,b,c,d,f]/\lY ps (pre++[e]) φ)
    (λdone env=>∃a,env=[some (.sh,.rl (ps.map .int)),some (.sh,.rl (es.map cA)),some (.ow,vp ps λx=>.int (if x∈done /\ φ x=gone then kept else φ x)),a,some (.sh,.int e.1),some (.sh,.int e.2),some (.sh,.int kept),some (.sh,.int gone)])
    ⟨a,by simp⟩ ?_ ?_
   ·rintro done x post env hy ⟨a,rfl⟩
    have XJ:x∉done:=by rw[hy,aa5]at hn;exact λh=>hn.2.2 x h x (by simp) rfl
    have hxs:x∈ps:=by rw[hy];simp
    refine⟨_,?_,some (.sh,.int x),rfl⟩;simp only[EV,aH,mT hxs,pX,hz ps (Nat.le_refl _),yH hxs,XJ,false_and,if_false]
    by_cases hg:φ x=gone
    ·simp only[hg,↓reduceIte]
     rw[eN];intro y _;unfold uN
     by_cases e:y=x
     ·subst e;simp[hg]
     ·simp[e]
    ·simp only[hg,↓reduceIte]
     rw[eN];intro y _
     by_cases e:y=x
     ·subst e;simp[hg]
     ·simp[e]
   ·rintro env ⟨a,rfl⟩;refine⟨_,rfl,(λx=>if φ x=gone then kept else φ x),a,some (.sh,.int e.1),some (.sh,.int e.2),some (.sh,.int kept),some (.sh,.int gone),?_,DQ.step h1 h2 kept gone hk⟩;rw[eN];intro y hy;simp[hy]
  ·rintro env ⟨φ,a,b,c,d,e,rfl,DQ⟩;simp only[EV,aT];exact⟨_,φ,rfl,DQ⟩
end K51
end
section
open PySem L2 Hv
namespace K51
def cellAt(ns:List Int)(k:Nat):Int:=ns.getD k 0
theorem gh(ns:List Int)(k:Nat):bD [.rl (ns.map .int),.int k]=.ok (true,.int (cellAt ns k)):=by
 unfold bD kB
 by_cases h:k<ns.length
 ·have e:oB (List.map Val.int ns) (k:Int)=some (.int (ns[k])):=pC (by simp[h])
  have h':(k:Int)<ns.length:=by omega
  simp only[EV,jf e,length_map,h',cellAt,List.getD,List.getElem?_eq_getElem h,Option.getD_some]
 ·have h':¬ (k:Int)<ns.length:=by omega
  have e:ns[k]?=none:=by simp;omega
  simp only[EV,length_map,h',cellAt,List.getD,e,getD_none]
theorem FO(a b:Int)(h:0<=b/\b<67):lO a b=true:=by
 unfold lO;simp only[or_eq_true,and_eq_true,decide_eq_true_eq];right;omega
theorem oZ(a b:Int)(h:0<=a/\a<67):lO a b=true:=by
 unfold lO;simp only[or_eq_true,and_eq_true,decide_eq_true_eq];left;omega
theorem KL{n:Int}(h:inR n=true):k9 .range [.int n]=some ((List.range n.toNat).map λ(i:Nat)=>Val.int (0+(i:Int))):=by
 show (if inR n=true then some (cB 0 n.toNat) else none)=_;rw[aar h];rfl
theorem Ti{a b:Int}(h:(inR a&&inR b)=true):k9 .range [.int a,.int b]=some ((List.range (b-a).toNat).map λ(i:Nat)=>Val.int (a+(i:Int))):=by
 show (if (inR a&&inR b)=true then some (cB a (b-a).toNat) else none)=_;rw[aar h];rfl
theorem au{ms:List Nat}(h:bH Ψ ms s env=.ok (.nx env')):aD Ψ ms (.cons s r) env=aD Ψ ms r env':=by
 rw[aD,h,aT]
def gn(a b k:Int):Int:=(if 0<a%3 then 1+b%10 ^ 57 else 1)*(((1+a/3%66)*k+a/198%67)%67)+(if 0<a%3 then b/7%10 ^ 59 else 0)
theorem vd(a b i j:Int)(hi:0<=i/\i<67)(hj:0<=j/\j<67)(e:gn a b i=gn a b j):i=j:=by
 unfold gn at e;have hs:∃st:Int,(if 0<a%3 then 1+b%10 ^ 57 else 1)=st/\1<=st:=by refine⟨_,rfl,?_⟩;split<;>omega
 obtain⟨st,e1,a1⟩:=hs;rw[e1]at e;have e2:st*(((1+a/3%66)*i+a/198%67)%67)=st*(((1+a/3%66)*j+a/198%67)%67):=by omega
 have e3:=Int.eq_of_mul_eq_mul_left (by omega:st≠0) e2;exact NK (by omega) hi hj e3
theorem KN(a b k:Int):0<=gn a b k:=by
 unfold gn;refine Int.add_nonneg (Int.mul_nonneg ?_ ?_) ?_
 ·split<;>omega
 ·omega
 ·split<;>omega
def dW(a b:Int):List Val:=(List.range 15).map λi:Nat=>.int (gn a b (0+(i:Int)))
theorem Of(a b:Int)(i:Int)(h0:0<=i)(h1:i<15):oB (dW a b) i=some (.int (gn a b i)):=by
 obtain⟨k,rfl⟩:=Int.eq_ofNat_of_zero_le h0;refine pC ?_;unfold dW;rw[aaJ,getElem?_range (by omega)];simp
theorem o5(a b:Int):∃f,fH [.int a,.int b]=.ok (f,.rl (dW a b)):=by
 unfold fH fV;have m1:∀k:Int,lO (1+a/3%66) k=true:=λk=>oZ _ _ (by omega);have m2:∀x k:Int,lO x (((1+a/3%66)*k+a/198%67)%67)=true:=λx k=>FO _ _ (by omega);have hR:inR 15=true:=by decide
 have hc:(15:Int).toNat<=100000:=by decide
 by_cases h:0<a%3
 ·have en:dW a b=(List.range 15).map λi:Nat=>.int ((1+b%10 ^ 57)*(((1+a/3%66)*(0+(i:Int))+a/198%67)%67)+b/7%10 ^ 59):=by unfold dW gn;simp only[if_pos h]
  rw[en];simp only[EV,gr (show decide ((0:Int)<3)=true by decide),h,gr (show decide ((0:Int)<66)=true by decide),gr (show decide ((0:Int)<67)=true by decide),fy (show ja 3=true by decide),fy (show ja 7=true by decide),fy (show ja 198=true by decide),O9 (show decide ((0:Int)<=57/\(57:Int)<=1000000/\(10:Int).natAbs<2 ^ 64)=true by decide),O9 (show decide ((0:Int)<=59/\(59:Int)<=1000000/\(10:Int).natAbs<2 ^ 64)=true by decide),gr (show decide ((0:Int)<10 ^ (57:Int).toNat)=true by decide),gr (show decide ((0:Int)<10 ^ (59:Int).toNat)=true by decide),KL hR,di,length_map,List.length_range,hc];rw[cD (λi:Nat=>Val.int (0+(i:Int))) (λi:Nat=>.int ((1+b%10 ^ 57)*(((1+a/3%66)*(0+(i:Int))+a/198%67)%67)+b/7%10 ^ 59)) (List.range (15:Int).toNat) (λi hi=>by
   simp only[EV,aH,xh (m1 _),xh (m2 _ _),gr (show decide ((0:Int)<67)=true by decide)];rfl)]
  exact⟨_,rfl⟩
 ·have en:dW a b=(List.range 15).map λi:Nat=>.int (1*(((1+a/3%66)*(0+(i:Int))+a/198%67)%67)+0):=by unfold dW gn;simp only[if_neg h]
  rw[en];simp only[EV,gr (show decide ((0:Int)<3)=true by decide),h,gr (show decide ((0:Int)<66)=true by decide),gr (show decide ((0:Int)<67)=true by decide),fy (show ja 3=true by decide),fy (show ja 198=true by decide),KL hR,di,length_map,List.length_range,hc];rw[cD (λi:Nat=>Val.int (0+(i:Int))) (λi:Nat=>.int (1*(((1+a/3%66)*(0+(i:Int))+a/198%67)%67)+0)) (List.range (15:Int).toNat) (λi hi=>by
   simp only[EV,aH,xh (m1 _),xh (m2 _ _),gr (show decide ((0:Int)<67)=true by decide)])]
  exact⟨_,rfl⟩
end K51
end
section
open PySem L2 Hv
namespace K51
theorem iN{α:Type}(enc:α -> Val)(Q:List α -> aU->Prop)(us:List α)(sf:aU)(h0:Q [] sf)
  (step:∀(pre:List α) (u:α) (post:List α) (env:aU),us=pre++u::post->Q pre env->∃env',body (enc u) env=.ok (.nx env')/\Q (pre++[u]) env'):∃env',gA body (us.map enc) sf=.ok (.nx env')/\Q us env':=by
 have go:∀(post pre:List α) (env:aU),us=pre++post->Q pre env->∃env',gA body (post.map enc) env=.ok (.nx env')/\Q us env':=by
  intro post
  induction post with
  |nil=>exact λpre env e q=>⟨env,rfl,by rw[e,aa1];exact q⟩
  |cons u post ih=>intro pre env e q;obtain⟨gS,e1,q1⟩:=step pre u post env e q;obtain⟨mO,e2,q2⟩:=ih (pre++[u]) gS (by rw[e,abw];rfl) q1;exact⟨mO,by rw[aau,gA,e1,aT];exact e2,q2⟩
 exact go us [] sf rfl h0
section
variable {Ψ:Nat->List Val->Pr FV} {ms:List Nat} {p:B3} {it:pJ} {body:bY} {env:aU}
theorem DR(hk:k≠.zip)(hs:(uC p it body&&(stored p).all λi=>!ms.contains i)=true)(eb:eG Ψ it env=.ok ds)(ex:k9 k ds=some xs):bH Ψ ms (.for p k it body) env=gA (λx env=>pb (pl (cF p x env)) λenv'=>aD Ψ ms body env') xs env:=by
 rw[bH,show ∀z o:Pr yv,Fb k z o=o from λz o=>by cases k<;>first|rfl|exact(hk rfl).elim];unfold pg;rw[aar hs,eb,aT,ex,bS,aT]
theorem XM{n:Int}(hs:(uC p it body&&(stored p).all λi=>!ms.contains i)=true)(eb:eG Ψ it env=.ok [.int n])(hn:inR n=true):bH Ψ ms (.for p .range it body) env=gA (λx env=>pb (pl (cF p x env)) λenv'=>aD Ψ ms body env') ((List.range n.toNat).map λi:Nat=>.int (0+(i:Int))) env:=DR (λz=>nomatch z) hs eb (KL hn)
theorem Tj{a b:Int}(hs:(uC p it body&&(stored p).all λi=>!ms.contains i)=true)(eb:eG Ψ it env=.ok [.int a,.int b])(hn:(inR a&&inR b)=true):bH Ψ ms (.for p .range it body) env=gA (λx env=>pb (pl (cF p x env)) λenv'=>aD Ψ ms body env') ((List.range (b-a).toNat).map λi:Nat=>.int (a+(i:Int))) env:=DR (λz=>nomatch z) hs eb (Ti hn)
theorem xO(hs:(uC p it body&&(stored p).all λi=>!ms.contains i)=true)(eb:eG Ψ it env=.ok [.rl xs]):bH Ψ ms (.for p .seq it body) env=gA (λx env=>pb (pl (cF p x env)) λenv'=>aD Ψ ms body env') xs env:=DR (λz=>nomatch z) hs eb cV
end
theorem Tn{n u:Nat}{pre post:List Nat}(e:List.range n=pre++u::post):u<n/\pre.length<n:=by
 have h1:u∈List.range n:=by rw[e];simp
 have h2:=aa2 length e;rw[abj,aaI,aaH]at h2;exact⟨abl.mp h1,by omega⟩
def par(ns:List Int)(j u:Nat):Int:=cellAt ns (5+u)/(1+7*(0+(j:Int)))%(1+(u:Int))
def sZ(ns:List Int)(n j:Nat):List (Int×Int):=(List.range n).map λu:Nat=>(1+(u:Int),par ns j u)
def XO(many:Int)(es:List (Int×Int)):Prop:=∀e∈es,(0<=e.1/\e.1<many)/\0<=e.2/\e.2<many
def pE(ns:List Int)(many:Int)(es:List (Int×Int))(a b c d:Option (Mk×Val)):aU:=[some (.sh,.rl (ns.map .int)),some (.sh,.int 1),some (.sh,.int many),some (.sh,.int 14),some (.ow,.rl (es.map cA)),a,b,c,d]
theorem Pe{a b:Int}:es.map cA++[.tup [.int a,.int b]]=(es++[(a,b)]).map cA:=by rw[aaU];rfl
theorem KO:jj=.cons (.asg (.one 4) (.lst .nil)) #[Z5,pI 2,.asg (.one 7) (.bin .mod (.bin .fdiv (.call 0 #[!0,¬0]) (¬28)) (¬4)),pI 0,Z7,.ret (.slc (!4) .no (!3))]:=rfl
section
variable {ns:List Int} {many:Int}
theorem Pf{es:List (Int×Int)}(h:es.length<=60):(es.map cA).length<sizeLine:=by rw[aak];unfold sizeLine;omega
theorem KP{n:Int}(h:0<=n/\n<=100):inR n=true:=by
 unfold inR;rw[and_eq_true,abc,abc];omega
theorem Pg(hm:2<=many/\many<=8)(j:Nat)(hj:j<2)(es:List (Int×Int))(hl:es.length<=40)(b c d:Option (Mk×Val)) :
  ∃b',aD (af AM) [4,4] Xw (pE ns many es (some (.sh,.int (0+(j:Int)))) b c d)=.ok (.nx (pE ns many (es++sZ ns (many-1).toNat j) (some (.sh,.int (0+(j:Int)))) b' c d)):=by
 unfold Xw;have hr:(inR 1&&inR many)=true:=by rw[KP (by omega),KP (by omega)];rfl
 have z2:2<=sizeLine:=by decide
 obtain⟨env',e1,b',rfl⟩:=iN (λi:Nat=>Val.int (1+(i:Int))) (body:=λx env=>pb (pl (cF (.one 6) x env)) λenv'=>aD (af AM) [4,4] Z4 env')
  (λpre env=>∃b',env=pE ns many (es++pre.map λu:Nat=>(1+(u:Int),par ns j u)) (some (.sh,.int (0+(j:Int)))) b' c d) (List.range (many-1).toNat) (pE ns many es (some (.sh,.int (0+(j:Int)))) b c d) ⟨b,by rw[abG,aa1]⟩ (λpre u post env hx hq=>by
   obtain⟨b',rfl⟩:=hq;obtain⟨hu,hp⟩:=Tn hx;have ec:bD [.rl (ns.map .int),.int (4+(1+(u:Int)))]=.ok (true,.int (cellAt ns (5+u))):=by rw[show (4+(1+(u:Int)))=((5+u:Nat):Int) by omega];exact gh ns _
   have k1:decide (0<1+(u:Int))=true:=by rw[abc];omega
   have k2:lO 7 (0+(j:Int))=true:=oZ _ _ (by omega);have k3:ja (1+7*(0+(j:Int)))=true:=by unfold ja;rw[abc];omega
   have hl2:(es++pre.map λu:Nat=>(1+(u:Int),par ns j u)).length<=60:=by rw[aaI,aak];omega
   refine⟨_,?_,some (.sh,.int (1+(u:Int))),rfl⟩;rw[aaU,<-abw];generalize (es++pre.map λu:Nat=>(1+(u:Int),par ns j u))=us at *;unfold pE Z4;simp only[EV,aH,jQ,ec,xh k2,fy k3,gr k1,z2,Pf hl2,Pe];rfl)
 refine⟨b',?_⟩;have eb:eG (af AM) #[¬1,!2] (pE ns many es (some (.sh,.int (0+(j:Int)))) b c d)=.ok [.int 1,.int many]:=by unfold pE;simp only[EV,aT]
 rw[au ((Tj rfl eb hr).trans e1),aD];rfl
theorem ql(n j:Nat):(sZ ns n j).length=n:=by unfold sZ;rw[aak,abj]
theorem XQ(hm:2<=many/\many<=8)(c d:Option (Mk×Val)):∃a b,bH (af AM) [4,4] Z5 (pE ns many [] none none c d)=.ok (.nx (pE ns many (sZ ns (many-1).toNat 0++sZ ns (many-1).toNat 1) a b c d)):=by
 have z4:4<=sizeLine:=by decide
 have eb:eG (af AM) #[.idx (.lst #[¬0,¬2,¬0,¬1]) (!1)] (pE ns many [] none none c d)=.ok [.int 2]:=by unfold pE;simp only[EV,z4];rfl
 obtain⟨b1,e1⟩:=Pg (ns:=ns) hm 0 (by omega) [] (by simp) none c d;obtain⟨b2,e2⟩:=Pg (ns:=ns) hm 1 (by omega) ([]++sZ ns (many-1).toNat 0) (by rw[aby,ql];omega) b1 c d;refine⟨some (.sh,.int (0+((1:Nat):Int))),b2,(XM rfl eb (KP (by omega))).trans ?_⟩;show gA _ [.int (0+((0:Nat):Int)),.int (0+((1:Nat):Int))] _=_;rw[gA,aH,bS,aT];change pb (aD (af AM) [4,4] Xw (pE ns many [] (some (.sh,.int (0+((0:Nat):Int)))) none c d)) _=_;rw[e1,aT];change gA _ [.int (0+((1:Nat):Int))] _=_;rw[gA,aH,bS,aT];change pb (aD (af AM) [4,4] Xw (pE ns many ([]++sZ ns (many-1).toNat 0) (some (.sh,.int (0+((1:Nat):Int)))) b1 c d)) _=_;rw[e2,aT];change gA _ [] _=_;rw[gA,aby]
theorem XR(hm:2<=many/\many<=8)(es:List (Int×Int))(hl:es.length<=35){more:Int}(hmo:0<=more/\more<=14)(a b d:Option (Mk×Val)):∃fs d',bH (af AM) [4,4] Z7 (pE ns many es a b (some (.sh,.int more)) d)=.ok (.nx (pE ns many (es++fs) a b (some (.sh,.int more)) d'))/\XO many fs:=by
 have eb:eG (af AM) #[.slc (!0) (¬5) (.bin .add (¬5) (!7))] (pE ns many es a b (some (.sh,.int more)) d)=.ok [.rl ((dX ns (some 5) (some (5+more))).map .int)]:=by unfold pE;simp only[EV,Dw,pW]
 have hlen:(dX ns (some 5) (some (5+more))).length<=14:=by
  unfold dX;rw[abH,length_drop];unfold HT.fq;dsimp only
  repeat' split
  all_goals omega
 have hmp:decide (0<many)=true:=by rw[abc];omega
 have z2:2<=sizeLine:=by decide
 generalize dX ns (some 5) (some (5+more))=cs at *;obtain⟨env',e1,d',rfl⟩:=iN Val.int (body:=λx env=>pb (pl (cF (.one 8) x env)) λenv'=>aD (af AM) [4,4] Z6 env')
  (λpre env=>∃d,env=pE ns many (es++pre.map λu:Int=>(u/3%many,u/31%many)) a b (some (.sh,.int more)) d) cs (pE ns many es a b (some (.sh,.int more)) d) ⟨d,by rw[abG,aa1]⟩ (λpre u post env hx hq=>by
   obtain⟨d,rfl⟩:=hq;have hp:=aa2 length hx;rw[aaI,aaH]at hp;have hl2:(es++pre.map λu:Int=>(u/3%many,u/31%many)).length<=60:=by rw[aaI,aak];omega
   refine⟨_,?_,some (.sh,.int u),rfl⟩;rw[aaU,<-abw];generalize (es++pre.map λu:Int=>(u/3%many,u/31%many))=us at *;unfold pE Z6;simp only[EV,aH,gr hmp,fy (show ja 3=true by decide),fy (show ja 31=true by decide),z2,Pf hl2,Pe]
   try rfl)
 refine⟨_,d',(xO rfl eb).trans e1,λe he=>?_⟩;obtain⟨u,_,rfl⟩:=aaA.mp he;exact⟨⟨emod_nonneg _ (by omega),abK _ (by omega)⟩,emod_nonneg _ (by omega),abK _ (by omega)⟩
theorem DS(j:Int)(hj:j≠1):bH (af AM) [4,4] (pI j) (pE ns many es a b c d)=.ok (.nx (pE ns many es a b c d)):=by
 have ec:IG (af AM) (.cmp .eq (!1) (.cst (.int j))) (pE ns many es a b c d)=.ok (true,.bl (decide ((1:Int)=j))):=by unfold pE;simp only[EV,aT]
 unfold pI;rw[bH,ec,aT,decide_eq_false λz=>hj z.symm];show pb (pl (some false)) _=_;rw[bS,aT,aas aaj,aD]
theorem KQ(hm:2<=many/\many<=8):∃f es,kI [.rl (ns.map .int),.int 1,.int many,.int 14]=.ok (f,.rl ((sZ ns (many-1).toNat 0++sZ ns (many-1).toNat 1++es).map cA))/\(sZ ns (many-1).toNat 0++sZ ns (many-1).toNat 1++es).length<=14/\XO many es:=by
 unfold kI;rw[KO];show ∃f es,pb (aD (af AM) [4,4] _ [some (.sh,.rl (ns.map .int)),some (.sh,.int 1),some (.sh,.int many),some (.sh,.int 14),none,none,none,none,none]) _=_/\_;rw[au (env':=pE ns many [] none none none none) (by unfold pE;simp only[EV,show (0:Nat)<=sizeLine by decide];try rfl)];obtain⟨a1,b1,e1⟩:=XQ (ns:=ns) hm none none;have hl:(sZ ns (many-1).toNat 0++sZ ns (many-1).toNat 1).length<=14:=by rw[aaI,ql,ql];omega
 generalize sZ ns (many-1).toNat 0++sZ ns (many-1).toNat 1=gs at *;rw[au e1,au (DS 2 (by decide))];have c0:bD [.rl (ns.map .int),.int 0]=.ok (true,.int (cellAt ns 0)):=gh ns 0;generalize cellAt ns 0=x0 at *;rw[au (env':=pE ns many gs a1 b1 (some (.sh,.int (x0/28%4))) none) (by unfold pE;simp only[EV,jQ,c0,fy (show ja 28=true by decide),gr (show decide ((0:Int)<4)=true by decide)])];rw[au (DS 0 (by decide))];obtain⟨fs,d4,e4,o4⟩:=XR (ns:=ns) hm gs (by omega) (more:=x0/28%4) (by omega) a1 b1 none;rw[au e4];have ec:dX (gs++fs) none (some 14)=gs++fs.take (14-gs.length):=by
  have e1:dX (gs++fs) none (some 14)=(gs++fs).take 14:=by
   show ((gs++fs).drop 0).take (HT.fq _ _ (some ((14:Nat):Int))-0)=_;rw[HT.sN,List.drop_zero,Nat.sub_zero]
   rcases Nat.le_total 14 (gs++fs).length with z|z
   ·rw[Nat.min_eq_left z]
   ·rw[Nat.min_eq_right z,take_of_length_le (aaw _),take_of_length_le z]
  rw[e1,List.take_append,take_of_length_le hl]
 refine⟨b6 ((gs++fs.take (14-gs.length)).map cA),fs.take (14-gs.length),?_,?_,λe he=>o4 e (List.mem_of_mem_take he)⟩
 ·rw[<-ec];unfold pE;simp only[EV,Dw,pW]
 ·rw[aaI,abH];omega
end
end K51
end
section
open PySem L2 Hv
namespace K51
theorem DT(f:Nat->Val):∀(es:List (Int×Int)) (s n:Nat),es.length<=n->gj ((range' s n).map f) (es.map cA)=(es.zipIdx s).map λe=>.tup [f e.2,cA e.1]
 |[],s,n,_=>by cases n<;>rfl
 |e::es,s,0,h=>absurd h (Nat.not_succ_le_zero _)
 | e::es,s,n+1,h=>by
  rw[List.range'_succ,aau,aau,gj,DT f es (s+1) n (Nat.le_of_succ_le_succ h),List.zipIdx_cons,aau]
theorem KR{a b:Int}:gQ .min [.rl [.int a,.int b]]=.ok (true,.int (min a b)):=rfl
theorem KS{a b:Int}:gQ .max [.rl [.int a,.int b]]=.ok (true,.int (max a b)):=rfl
structure ay (p q:Int) (ts:List T3):Prop where
 ord:p<=q
 len:ts.length<=14
 up:DC ts
 ends:∀t∈ts,t.2.1<=t.2.2
 names:∀t∈ts,0<=t.1
theorem To:mU=nH (.cons Yt (.cons Yu (.cons (.asg (.one 8) (.lst .nil)) (.cons nF nR)))):=rfl
def nE(ns:List Int)(x0 many:Int)(m5 m6 m7:Mk)(Pl Nm:List Val)(p q:Int)(a b c d e:Option (Mk×Val)):aU:=[some (.sh,.rl (ns.map .int)),some (.sh,.int 1),some (.sh,.int 14),some (.sh,.int x0),some (.sh,.int many),some (m5,.rl Pl),some (m6,.rl Nm),some (m7,.rl [.int p,.int q]),a,b,c,d,e]
def manyN(ns:List Int):Int:=2+cellAt ns 0/4%7
def rj(ns:List Int)(k:Int):Int:=gn (cellAt ns 1) (cellAt ns 2) k
def ve(ns:List Int)(k:Int):Int:=gn (cellAt ns 3) (cellAt ns 4) k
def vf(ns:List Int):Int:=if cellAt ns 0/112%9=4 then rj ns 0 else rj ns 1
def AY(ns:List Int)(es:List (Int×Int)):List (Int×Int):=sZ ns (manyN ns-1).toNat 0++sZ ns (manyN ns-1).toNat 1++es
def rq(nm pl:Int->Int)(e:(Int×Int)×Nat):T3:=(nm (0+(e.2:Int)),if pl e.1.2<pl e.1.1 then pl e.1.2 else pl e.1.1,if pl e.1.2>pl e.1.1 then pl e.1.2 else pl e.1.1)
theorem yR{ns:List Int}{many:Int}(hm:2<=many)(j:Nat):XO many (sZ ns (many-1).toNat j):=λe he=>by
 obtain⟨u,hu,rfl⟩:=aaA.mp he;have hu:=abl.mp hu;have b1:=emod_nonneg (cellAt ns (5+u)/(1+7*(0+(j:Int)))) (show 1+(u:Int)≠0 by omega);have b2:=abK (cellAt ns (5+u)/(1+7*(0+(j:Int)))) (show 0<1+(u:Int) by omega);dsimp only;unfold par;omega
theorem Tp(ns:List Int):∃es,XO (manyN ns) es/\(AY ns es).length<=14/\nV [.rl (ns.map .int),.int 1,.int 14]=.ok (true,aq (min (rj ns 0) (vf ns)) (max (rj ns 0) (vf ns)) (iG ((AY ns es).zipIdx.map (rq (ve ns) (rj ns)))))/\ay (min (rj ns 0) (vf ns)) (max (rj ns 0) (vf ns)) (iG ((AY ns es).zipIdx.map (rq (ve ns) (rj ns)))):=by
 unfold vf AY manyN;rw[show rj ns=gn (cellAt ns 1) (cellAt ns 2) from rfl,show ve ns=gn (cellAt ns 3) (cellAt ns 4) from rfl];have c0:bD [.rl (ns.map .int),.int 0]=.ok (true,.int (cellAt ns 0)):=gh ns 0;have c1:bD [.rl (ns.map .int),.int 1]=.ok (true,.int (cellAt ns 1)):=gh ns 1;have c2:bD [.rl (ns.map .int),.int 2]=.ok (true,.int (cellAt ns 2)):=gh ns 2;have c3:bD [.rl (ns.map .int),.int 3]=.ok (true,.int (cellAt ns 3)):=gh ns 3;have c4:bD [.rl (ns.map .int),.int 4]=.ok (true,.int (cellAt ns 4)):=gh ns 4;obtain⟨f1,n1⟩:=o5 (cellAt ns 1) (cellAt ns 2);obtain⟨f2,n2⟩:=o5 (cellAt ns 3) (cellAt ns 4);have a1:=Of (cellAt ns 1) (cellAt ns 2);generalize dW (cellAt ns 1) (cellAt ns 2)=Pl at *;generalize gn (cellAt ns 1) (cellAt ns 2)=pf at *;generalize cellAt ns 0=x0 at *;generalize cellAt ns 1=x1 at *;generalize cellAt ns 2=x2 at *;generalize cellAt ns 3=x3 at *;generalize cellAt ns 4=x4 at *;have e4:oB [Val.int 7,.int (14/2),.int 4,.int (if (14:Int)<7 then 14 else 7)] 1=some (.int 7):=rfl;have z4:4<=sizeLine:=by decide
 have z3:3<=sizeLine:=by decide
 have z2:2<=sizeLine:=by decide
 have z0:0<=sizeLine:=by decide
 have hmm:decide ((0:Int)<7)=true:=by decide
 have b1:=emod_nonneg (x0/4) (show (7:Int)≠0 by omega);have b2:=abK (x0/4) (show (0:Int)<7 by omega);have j0:=a1 0 (by omega) (by omega);have j1:=a1 1 (by omega) (by omega);unfold nV;rw[To];change ∃es,_/\_/\pb (aD (af Bq) [8] _ [some (.sh,.rl (ns.map .int)),some (.sh,.int 1),some (.sh,.int 14),none,none,none,none,none,none,none,none,none,none]) _=_/\_;have hH:∀T,aD (af Bq) [8] (nH T) [some (.sh,.rl (ns.map .int)),some (.sh,.int 1),some (.sh,.int 14),none,none,none,none,none,none,none,none,none,none]=aD (af Bq) [8] T (nE ns x0 (2+x0/4%7) (eF f1 (.rl Pl)) (eF f2 (.rl (dW x3 x4))) .nw Pl (dW x3 x4) (pf 0) (pf 1) none none none none none):=λT=>by
  unfold nH;rw[au (env':=[some (.sh,.rl (ns.map .int)),some (.sh,.int 1),some (.sh,.int 14),some (.sh,.int x0),none,none,none,none,none,none,none,none,none]) (by simp only[EV,iz,c0])];rw[au (env':=[some (.sh,.rl (ns.map .int)),some (.sh,.int 1),some (.sh,.int 14),some (.sh,.int x0),some (.sh,.int (2+x0/4%7)),none,none,none,none,none,none,none,none]) (by simp only[EV,fy (show ja 4=true by decide),fy (show ja 2=true by decide),z4,jf e4,gr hmm])];rw[au (env':=[some (.sh,.rl (ns.map .int)),some (.sh,.int 1),some (.sh,.int 14),some (.sh,.int x0),some (.sh,.int (2+x0/4%7)),some (eF f1 (.rl Pl),.rl Pl),none,none,none,none,none,none,none]) (by simp only[EV,iz,jy,c1,c2,n1])];rw[au (env':=[some (.sh,.rl (ns.map .int)),some (.sh,.int 1),some (.sh,.int 14),some (.sh,.int x0),some (.sh,.int (2+x0/4%7)),some (eF f1 (.rl Pl),.rl Pl),some (eF f2 (.rl (dW x3 x4)),.rl (dW x3 x4)),none,none,none,none,none,none]) (by simp only[EV,iz,jy,c3,c4,n2])];rw[au (env':=nE ns x0 (2+x0/4%7) (eF f1 (.rl Pl)) (eF f2 (.rl (dW x3 x4))) .nw Pl (dW x3 x4) (pf 0) (pf 1) none none none none none) (by unfold nE;simp only[EV,jf j0,jf j1,z2])]
 rw[hH];have KW:2<=2+x0/4%7/\2+x0/4%7<=8:=by omega
 have r5:qv (eF f1 (.rl Pl))=true:=uL;have r6:qv (eF f2 (.rl (dW x3 x4)))=true:=uL;generalize eF f1 (.rl Pl)=m5 at *;generalize eF f2 (.rl (dW x3 x4))=m6 at *;generalize 2+x0/4%7=many at *;have s1:bH (af Bq) [8] Yt (nE ns x0 many m5 m6 .nw Pl (dW x3 x4) (pf 0) (pf 1) none none none none none)=.ok (.nx (nE ns x0 many m5 m6 .nw Pl (dW x3 x4) (pf 0) (pf 1) none none none none none)):=by
  have ec:IG (af Bq) (.cmp .eq (!1) (¬2)) (nE ns x0 many m5 m6 .nw Pl (dW x3 x4) (pf 0) (pf 1) none none none none none)=.ok (true,.bl (decide ((1:Int)=2))):=by unfold nE;simp only[EV,aT]
  unfold Yt;rw[bH,ec,aT,decide_eq_false (by decide)];show pb (pl (some false)) _=_;rw[bS,aT,aas aaj,aD]
 rw[au s1];have s2:bH (af Bq) [8] Yu (nE ns x0 many m5 m6 .nw Pl (dW x3 x4) (pf 0) (pf 1) none none none none none)=.ok (.nx (nE ns x0 many m5 m6 .nw Pl (dW x3 x4) (pf 0) (if x0/112%9=4 then pf 0 else pf 1) none none none none none)):=by
  have ec:IG (af Bq) (.cmp .eq (.bin .mod (.bin .fdiv (!3) (¬112)) (¬9)) (¬4)) (nE ns x0 many m5 m6 .nw Pl (dW x3 x4) (pf 0) (pf 1) none none none none none)=.ok (true,.bl (decide (x0/112%9=4))):=by unfold nE;simp only[EV,fy (show ja 112=true by decide),gr (show decide ((0:Int)<9)=true by decide)]
  unfold Yu
  by_cases c:x0/112%9=4
  ·rw[aar c];rw[bH,ec,aT,decide_eq_true c];show pb (pl (some true)) _=_;rw[bS,aT,aar rfl,au (env':=nE ns x0 many m5 m6 .nw Pl (dW x3 x4) (pf 0) (pf 0) none none none none none) (by unfold nE;simp only[EV,r5,jf j0,z2]),aD]
  ·rw[aas c];rw[bH,ec,aT,decide_eq_false c];show pb (pl (some false)) _=_;rw[bS,aT,aas aaj,aD]
 rw[au s2];clear s1 s2 hH;generalize (if x0/112%9=4 then pf 0 else pf 1)=q2 at *;generalize hp0:pf 0=p0;rw[au (env':=nE ns x0 many m5 m6 .nw Pl (dW x3 x4) p0 q2 (some (.ow,.rl [])) none none none none) (by unfold nE;simp only[EV,z0])];obtain⟨f3,fs,n3,hl,ok0⟩:=KQ (ns:=ns) KW;have ok:XO many (sZ ns (many-1).toNat 0++sZ ns (many-1).toNat 1++fs):=λe he=>by
  rcases aaT.mp he with he|he
  ·rcases aaT.mp he with he|he
   ·exact yR KW.1 0 e he
   ·exact yR KW.1 1 e he
  ·exact ok0 e he
 refine⟨fs,ok0,hl,?_⟩;generalize sZ ns (many-1).toNat 0++sZ ns (many-1).toNat 1++fs=es at *;have ez:Fc [.rl (dW x3 x4),.rl (es.map cA)]=some (es.zipIdx.map λe=>.tup [.int (gn x3 x4 (0+(e.2:Int))),cA e.1]):=by rw[Jb];unfold dW;rw[List.range_eq_range',DT _ es 0 15 (by omega)]
 have ev:pO (af Bq) #[!6,.call 2 #[!0,!1,!4,!2]] (nE ns x0 many m5 m6 .nw Pl (dW x3 x4) p0 q2 (some (.ow,.rl [])) none none none none)=.ok (jL (.rl (dW x3 x4))&&(f3&&true),[.rl (dW x3 x4),.rl (es.map cA)]):=by unfold nE;simp only[EV,r6,qQ,n3]
 obtain⟨env',e1,a,b,c,d,rfl⟩:=iN (λe:(Int×Int)×Nat=>.tup [.int (gn x3 x4 (0+(e.2:Int))),cA e.1]) (body:=λx env=>pb (pl (cF (.tup [9,10]) x env)) λenv'=>aD (af Bq) [8] nB env')
  (λpre env=>∃a b c d,env=nE ns x0 many m5 m6 .nw Pl (dW x3 x4) p0 q2 (some (.ow,.rl ((pre.map (rq (gn x3 x4) pf)).map aP))) a b c d) es.zipIdx (nE ns x0 many m5 m6 .nw Pl (dW x3 x4) p0 q2 (some (.ow,.rl [])) none none none none) ⟨none,none,none,none,rfl⟩ (λpre u post env hx hq=>by
   obtain⟨a,b,c,d,rfl⟩:=hq;have hlen:(pre.map (rq (gn x3 x4) pf)).length<14:=by have e2:=aa2 length hx;rw[List.length_zipIdx,aaI,aaH]at e2;rw[aak];omega
   obtain⟨e,i⟩:=u;have hu:(e,i)∈es.zipIdx:=by rw[hx];simp
   have he:e∈es:=by have:=List.mem_zipIdx hu;obtain⟨_,h3,h4⟩:=this;rw[h4];exact List.getElem_mem _
   obtain⟨⟨o1,o2⟩,o3,o4⟩:=ok e he;have i1:=a1 e.1 o1 (by omega);have i2:=a1 e.2 o3 (by omega);have k0:iu [] (cA e) (.int 0)=some (.int e.1):=rfl;have k1:iu [] (cA e) (.int 1)=some (.int e.2):=rfl;refine⟨_,?_,some (.sh,.int (gn x3 x4 (0+(i:Int)))),some (.sh,cA e),some (.sh,.int (pf e.1)),some (.sh,.int (pf e.2)),rfl⟩;rw[aaU];generalize pre.map (rq (gn x3 x4) pf)=ts at *;have zl:(ts.map aP).length<sizeLine:=by rw[aak];unfold sizeLine;omega
   rw[Jc,bS,aT];unfold nB nE;rw[aaU];simp only[EV,r5,k0,k1,jf i1,jf i2,z3,zl];rfl)
 have sF:bH (af Bq) [8] nF (nE ns x0 many m5 m6 .nw Pl (dW x3 x4) p0 q2 (some (.ow,.rl [])) none none none none)=.ok (.nx (nE ns x0 many m5 m6 .nw Pl (dW x3 x4) p0 q2 (some (.ow,.rl ((es.zipIdx.map (rq (gn x3 x4) pf)).map aP))) a b c d)):=by unfold nF;rw[bH,Ja];unfold pg;rw[aar (by rfl),ev,aT,ez,bS,aT];exact e1
 rw[au sF];have h1:(es.zipIdx.map (rq (gn x3 x4) pf)).map (·.1)=es.zipIdx.map λe=>gn x3 x4 (0+(e.2:Int)):=by rw[aaV];rfl
 have h2:∀t∈es.zipIdx.map (rq (gn x3 x4) pf),t.2.1<=t.2.2:=λt ht=>by
  obtain⟨e,_,rfl⟩:=aaA.mp ht;show (if _ then _ else _)<=(if _ then _ else _)
  split<;>split<;>omega
 have hlt:(es.zipIdx.map (rq (gn x3 x4) pf)).length<=14:=by rw[aak,List.length_zipIdx];omega
 subst hp0;generalize es.zipIdx.map (rq (gn x3 x4) pf)=ts at *;have nd:(ts.map (·.1)).Nodup:=by rw[h1,show (es.zipIdx.map λe=>gn x3 x4 (0+(e.2:Int)))=(es.zipIdx.map (·.2)).map λi:Nat=>gn x3 x4 (0+(i:Int)) by rw[aaV];rfl,List.zipIdx_map_snd];unfold List.Nodup;rw[abv];refine(List.nodup_range' (s:=0) (n:=es.length)).imp_of_mem λ{x y} hx hy n e=>n ?_;rw[List.mem_range'_1]at hx hy;have:=vd x3 x4 (0+(x:Int)) (0+(y:Int)) (by omega) (by omega) e;omega
 refine⟨?_,⟨by omega,by rw[(fz _).length_eq];exact hlt,Ao _ nd,λt ht=>h2 t ((fz _).mem_iff.mp ht),λt ht=>?_⟩⟩
 ·unfold nR nE;simp only[EV,KR,KS,z2,An (show ts.length<64 by omega)];rfl
 ·have:=aaC (f:=(·.1)) ((fz _).mem_iff.mp ht);rw[h1]at this;obtain⟨e,_,he⟩:=aaA.mp this;rw[<-he];exact KN _ _ _
end K51
end
section
open PySem L2 Hv
namespace K51
theorem Og(hx:PyData.strOk x=true)(hy:PyData.strOk y=true):cop [] .eq (.str x) (.str y)=some (decide (x=y)):=by
 show zK [] (.str x) (.str y)=_;unfold zK;rw[Dy hx,Dy hy];show some (PyData.eqv (.str x) (.str y))=_
 congr 1
def aaa(s:Bool):Str:=if s then "linker" else "cutter"
def AZ(s:Bool):Val:=.str (aaa s)
theorem Tq:∀a b:Bool,cop [] .eq (AZ a) (AZ b)=some (a==b)
 |true,true=>(Og (gT _) (gT _)).trans (aa2 some (by decide))
 |true,false=>(Og (gT _) (gT _)).trans (aa2 some (by decide))
 |false,true=>(Og (gT _) (gT _)).trans (aa2 some (by decide))
 |false,false=>(Og (gT _) (gT _)).trans (aa2 some (by decide))
theorem XS(a:Bool):cop [] .eq (AZ a) (.str "linker")=some a:=(Tq a true).trans (by cases a<;>rfl)
theorem lG{ms:List Nat}{f t:Bool}(h:IG Ψ c env=.ok (f,.bl t)):bH Ψ ms (.iff c a b) env=if t=true then aD Ψ ms a env else aD Ψ ms b env:=by
 rw[bH,h,aT];show pb (pl (some t)) _=_;rw[bS,aT]
theorem rA(h:a.length+b.length<=sizeLine):oO .add (.rl a) (.rl b)=.ok (b6 (a++b),.rl (a++b)):=by
 show pg _ _=_;unfold pg;rw[aar (decide_eq_true h)]
theorem xP{ks:List Int}(h:ks.Nodup)(a:Int):(ic ks a).Nodup:=by
 unfold ic
 split
 ·exact h
 ·rename_i hn;rw[aa5];exact⟨h,by simp,λx hx y hy e=>hn (by rw[aaF.mp hy]at e;exact e▸hx)⟩
theorem iO{ks:List Int}{a x:Int}:x∈ic ks a↔x∈ks\/x=a:=by
 unfold ic
 split
 ·rename_i h;exact⟨.inl,λk=>k.elim id λe=>e▸h⟩
 ·rw[aaT,aaF]
theorem Ba(ks:List Int)(x:Int):putD (ks.map Sum.inl) (ks.map λx=>.int x) (.inl x) (.int x)=vp (ic ks x) λx=>.int x:=by
 by_cases c:x∈ks
 ·rw[ic,aar c]
  refine(yH c).trans (eN λy _=>?_);unfold uN
  split
  ·rename_i e;rw[e]
  ·rfl
 ·rw[ic,aas c]
  refine(DA c).trans (eN λy _=>?_);unfold uN
  split
  ·rename_i e;rw[e]
  ·rfl
theorem hzK{ks:List Int}(h:ks.length<=40):(ks.map (Sum.inl:Int->Key)).length<sizeLine:=by rw[aak];unfold sizeLine;omega
theorem KY:jr=.cons (.asg (.one 2) .dct0) #[.asg (.one 3) (.bin .add (.lst #[.tup #[.neg (¬1),.idx (.idx (!0) (¬0)) (¬0),.idx (.idx (!0) (¬0)) (¬1)]]) (.idx (!0) (¬1))),.for (.one 4) .seq #[!3] mB,.for (.one 4) .seq #[!3] mC,.ret (!2)]:=rfl
def mE(N:Val)(row:List Int)(m:Mk)(us:List T3)(d:Val)(a b c e:Option (Mk×Val)):aU:=[some (.sh,N),some (.sh,.rl (row.map .int)),some (.ow,d),some (m,.rl (us.map aP)),a,b,c,e]
abbrev o6(ks:List Int)(φ:Int->Int):Val:=vp ks λx=>.int (φ x)
theorem FP:iu [] (aP t) (.int 0)=some (.int t.1):=rfl
theorem KZ:iu [] (aP t) (.int 1)=some (.int t.2.1):=rfl
theorem K0:iu [] (aP t) (.int 2)=some (.int t.2.2):=rfl
section
variable {N:Val} {row:List Int} {m:Mk} {us:List T3}
theorem XT(hm:qv m=true)(hl:us.length<=15)(b c e:Option (Mk×Val)):∃ks a,bH (af nj) [2,2,2] (.for (.one 4) .seq #[!3] mB) (mE N row m us (.dc [] []) none b c e)=.ok (.nx (mE N row m us (o6 ks id) a b c e))/\ks.Nodup/\ks.length<=30/\(∀t∈us,t.2.1∈ks/\t.2.2∈ks)/\∀x∈ks,∃t∈us,x=t.2.1\/x=t.2.2:=by
 have eb:eG (af nj) #[!3] (mE N row m us (.dc [] []) none b c e)=.ok [.rl (us.map aP)]:=by unfold mE;simp only[EV,aT]
 obtain⟨env',e1,ks,a,rfl,h1,h2,h3,h4⟩:=iN aP (body:=λx env=>pb (pl (cF (.one 4) x env)) λenv'=>aD (af nj) [2,2,2] mB env')
  (λpre env=>∃ks a,env=mE N row m us (o6 ks id) a b c e/\ks.Nodup/\ks.length<=2*pre.length/\(∀t∈pre,t.2.1∈ks/\t.2.2∈ks)/\∀x∈ks,∃t∈pre,x=t.2.1\/x=t.2.2) us (mE N row m us (.dc [] []) none b c e) ⟨[],none,rfl,abm,by simp,λt ht=>by simp at ht,λt ht=>by simp at ht⟩ (λpre t post env hx hq=>by
   obtain⟨ks,a,rfl,h1,h2,h3,h4⟩:=hq;have hp:=aa2 length hx;rw[aaI,aaH]at hp;have l1:=mD ks t.2.1;have l2:=mD (ic ks t.2.1) t.2.2;refine⟨mE N row m us (o6 (ic (ic ks t.2.1) t.2.2) id) (some (.sh,aP t)) b c e,?_,_,_,rfl,xP (xP h1 _) _,by simp only[List.length_append,List.length_singleton];omega,λu hu=>?_,λx hx=>?_⟩
   ·have k1:=Ba ks t.2.1;have k2:=Ba (ic ks t.2.1) t.2.2;unfold mB mE o6 id;simp only[EV,aH,KZ,K0,pX,hzK (show ks.length<=40 by omega),hzK (show (ic ks t.2.1).length<=40 by omega),k1,k2]
   ·rcases aaT.mp hu with hu|hu
    ·exact⟨iO.mpr (.inl (iO.mpr (.inl (h3 u hu).1))),iO.mpr (.inl (iO.mpr (.inl (h3 u hu).2)))⟩
    ·rw[aaF.mp hu];exact⟨iO.mpr (.inl (iO.mpr (.inr rfl))),iO.mpr (.inr rfl)⟩
   ·rcases iO.mp hx with hx|rfl
    ·rcases iO.mp hx with hx|rfl
     ·obtain⟨u,hu,z⟩:=h4 x hx;exact⟨u,aaX _ hu,z⟩
     ·exact⟨t,by simp,.inl rfl⟩
    ·exact⟨t,by simp,.inr rfl⟩)
 exact⟨ks,a,(xO rfl eb).trans e1,h1,by omega,h3,h4⟩
theorem XU{ks:List Int}{old new:Int}(hn:ks.Nodup)(hl:ks.length<=30)(a e:Option (Mk×Val)):∃e',bH (af nj) [2,2,2] mF (mE N row m us (o6 ks φ) a (some (.sh,.int old)) (some (.sh,.int new)) e)=.ok (.nx (mE N row m us (o6 ks λx=>if φ x=old then new else φ x) a (some (.sh,.int old)) (some (.sh,.int new)) e')):=by
 have eb:eG (af nj) #[.lkeys (!2)] (mE N row m us (o6 ks φ) a (some (.sh,.int old)) (some (.sh,.int new)) e)=.ok [.rl (ks.map .int)]:=by
  have ky:wQ [] (o6 ks φ)=some (ks.map Sum.inl):=rfl;have kv:(ks.map (Sum.inl:Int->Key)).map HH=ks.map Val.int:=by rw[aaV];rfl
  unfold mE;simp only[EV,ky,kv]
 obtain⟨env',e1,e',rfl⟩:=iN Val.int (body:=λx env=>pb (pl (cF (.one 7) x env)) λenv'=>aD (af nj) [2,2,2] mI env')
  (λpre env=>∃e',env=mE N row m us (o6 ks λx=>if x∈pre /\ φ x=old then new else φ x) a (some (.sh,.int old)) (some (.sh,.int new)) e') ks (mE N row m us (o6 ks φ) a (some (.sh,.int old)) (some (.sh,.int new)) e) ⟨e,by simp⟩ (λpre x post env hx hq=>by
   obtain⟨e',rfl⟩:=hq;have XJ:x∉pre:=by rw[hx,aa5]at hn;exact λh=>hn.2.2 x h x (by simp) rfl
   have hxs:x∈ks:=by rw[hx];simp
   refine⟨_,?_,some (.sh,.int x),rfl⟩;unfold mI mE o6;simp only[EV,aH,mT hxs,pX,hzK (show ks.length<=40 by omega),yH hxs,XJ,false_and,if_false]
   by_cases hg:φ x=old
   ·simp only[hg,↓reduceIte]
    rw[eN];intro y _;unfold uN
    by_cases e:y=x
    ·subst e;simp[hg]
    ·simp[e]
   ·simp only[hg,↓reduceIte]
    rw[eN];intro y _
    by_cases e:y=x
    ·subst e;simp[hg]
    ·simp[e])
 refine⟨e',?_⟩;unfold mF;rw[xO rfl eb,e1];unfold mE o6;rw[eN (g':=λx=>.int (if φ x=old then new else φ x))];intro y hy;simp[hy]
theorem XW(hm:qv m=true){ks:List Int}(hn:ks.Nodup)(hl:ks.length<=30)(hk:∀t∈us,t.2.1∈ks/\t.2.2∈ks)(a b c e:Option (Mk×Val)):∃φ a' b' c' e',bH (af nj) [2,2,2] (.for (.one 4) .seq #[!3] mC) (mE N row m us (o6 ks id) a b c e)=.ok (.nx (mE N row m us (o6 ks φ) a' b' c' e'))/\lY ks ((us.filter λt=>decide (t.1∈row)).map kW) φ:=by
 have eb:eG (af nj) #[!3] (mE N row m us (o6 ks id) a b c e)=.ok [.rl (us.map aP)]:=by unfold mE;simp only[EV,aT]
 obtain⟨env',e1,φ,a',b',c',e',rfl,DQ⟩:=iN aP (body:=λx env=>pb (pl (cF (.one 4) x env)) λenv'=>aD (af nj) [2,2,2] mC env')
  (λpre env=>∃φ a b c e,env=mE N row m us (o6 ks φ) a b c e/\lY ks ((pre.filter λt=>decide (t.1∈row)).map kW) φ) us (mE N row m us (o6 ks id) a b c e) ⟨id,_,_,_,_,rfl,lY.start ks⟩ (λpre t post env hx hq=>by
   obtain⟨φ,a,b,c,e,rfl,DQ⟩:=hq;have ht:t∈us:=by rw[hx];simp
   obtain⟨h1,h2⟩:=hk t ht;have q1:aD (af nj) [2,2,2] mC (mE N row m us (o6 ks φ) (some (.sh,aP t)) b c e)=aD (af nj) [2,2,2] #[.iff (.and (.cmp .lX (.idx (!4) (¬0)) (!1)) (.cmp .ne (!5) (!6))) #[mF] .nil] (mE N row m us (o6 ks φ) (some (.sh,aP t)) (some (.sh,.int (φ t.2.2))) (some (.sh,.int (φ t.2.1))) e):=by unfold mC;rw[au (env':=mE N row m us (o6 ks φ) (some (.sh,aP t)) (some (.sh,.int (φ t.2.2))) c e) (by unfold mE o6;simp only[EV,K0,mT h2])];rw[au (env':=mE N row m us (o6 ks φ) (some (.sh,aP t)) (some (.sh,.int (φ t.2.2))) (some (.sh,.int (φ t.2.1))) e) (by unfold mE o6;simp only[EV,KZ,mT h1])]
   have ec:IG (af nj) (.and (.cmp .lX (.idx (!4) (¬0)) (!1)) (.cmp .ne (!5) (!6))) (mE N row m us (o6 ks φ) (some (.sh,aP t)) (some (.sh,.int (φ t.2.2))) (some (.sh,.int (φ t.2.1))) e)=.ok (true,.bl (decide (t.1∈row /\ φ t.2.2 ≠ φ t.2.1))):=by
    unfold mE
    by_cases hr:t.1∈row<;>by_cases hp:φ t.2.2 = φ t.2.1<;>simp only[EV,FP,jM,hr,hp,decide_true,decide_false]<;>simp[hp]
   rw[aH,bS,aT];show ∃env',aD (af nj) [2,2,2] mC (mE N row m us (o6 ks φ) (some (.sh,aP t)) b c e)=_/\_;rw[q1]
   by_cases hr:t.1∈row
   ·have st:=DQ.step h1 h2 (φ t.2.1) (φ t.2.2) (.inl ⟨rfl,rfl⟩)
    have ef:((pre++[t]).filter λt=>decide (t.1∈row)).map kW=(pre.filter λt=>decide (t.1∈row)).map kW++[(t.2.1,t.2.2)]:=by rw[filter_append,abd (by simpa using hr),aaU];rfl
    by_cases hp:φ t.2.2 = φ t.2.1
    ·refine⟨mE N row m us (o6 ks φ) (some (.sh,aP t)) (some (.sh,.int (φ t.2.2))) (some (.sh,.int (φ t.2.1))) e,?_,φ,_,_,_,_,rfl,?_⟩
     ·rw[au ((lG ec).trans (by rw[aas (by simp[hp]),aD])),aD]
     ·rw[ef,show φ = λx=>if φ x = φ t.2.2 then φ t.2.1 else φ x from funext λx=>by split;(rename_i z;rw[z,hp]);rfl];exact st
    ·obtain⟨e',k⟩:=XU (N:=N) (row:=row) (m:=m) (us:=us) (φ:=φ) (old:=φ t.2.2) (new:=φ t.2.1) hn hl (some (.sh,aP t)) e;refine⟨mE N row m us (o6 ks λx=>if φ x = φ t.2.2 then φ t.2.1 else φ x) (some (.sh,aP t)) (some (.sh,.int (φ t.2.2))) (some (.sh,.int (φ t.2.1))) e',?_,_,_,_,_,e',rfl,by rw[ef];exact st⟩;rw[au ((lG ec).trans (by rw[aar (by simp[hr,hp]),au k,aD])),aD]
   ·refine⟨mE N row m us (o6 ks φ) (some (.sh,aP t)) (some (.sh,.int (φ t.2.2))) (some (.sh,.int (φ t.2.1))) e,?_,φ,_,_,_,_,rfl,?_⟩
    ·rw[au ((lG ec).trans (by rw[aas (by simp[hr]),aD])),aD]
    ·rw[filter_append,abe (by simpa using hr),aaU];simpa using DQ)
 exact⟨φ,a',b',c',e',(xO rfl eb).trans e1,DQ⟩
end
theorem K1{p q:Int}{row:List Int}(h:ts.length<=14):∃f ks φ,kL [aq p q ts,.rl (row.map .int)]=.ok (f,o6 ks φ)/\ks.Nodup/\ks.length<=30/\(∀t∈(-1,p,q)::ts,t.2.1∈ks/\t.2.2∈ks)/\(∀x∈ks,∃t∈(-1,p,q)::ts,x=t.2.1\/x=t.2.2)/\lY ks ((((-1,p,q)::ts).filter λt=>decide (t.1∈row)).map kW) φ:=by
 unfold kL;rw[KY];show ∃f ks φ,pb (aD (af nj) [2,2,2] _ [some (.sh,aq p q ts),some (.sh,.rl (row.map .int)),none,none,none,none,none,none]) _=_/\_;have z3:3<=sizeLine:=by decide
 have z1:1<=sizeLine:=by decide
 have za:[aP (-1,p,q)].length+(ts.map aP).length<=sizeLine:=by simp only[length_map,length_cons,length_nil];unfold sizeLine;omega
 obtain⟨m0,hm0,r0⟩:∃m0,m0=eF (b6 ([aP (-1,p,q)]++ts.map aP)) (.rl ([aP (-1,p,q)]++ts.map aP))/\qv m0=true:=⟨_,rfl,uL⟩;rw[au (env':=[some (.sh,aq p q ts),some (.sh,.rl (row.map .int)),some (.ow,.dc [] []),none,none,none,none,none]) (by simp only[EV,aT])];rw[au (env':=mE (aq p q ts) row m0 ((-1,p,q)::ts) (.dc [] []) none none none none) (by
  have e0:([Val.tup [.int (-1),.int p,.int q]]:List Val)=[aP (-1,p,q)]:=rfl;rw[hm0];unfold mE aq;simp only[EV,bO j5,bO jE,z3,z1,e0,rA za])]
 obtain⟨ks,a,e1,hn,hl,hk,hx⟩:=XT (N:=aq p q ts) (row:=row) (m:=m0) (us:=(-1,p,q)::ts) r0 (by rw[aaH];omega) none none none;rw[au e1];obtain⟨φ,a,b,c,e,e2,DQ⟩:=XW (N:=aq p q ts) (row:=row) (m:=m0) (us:=(-1,p,q)::ts) r0 hn hl hk a none none none;rw[au e2];unfold mE;simp only[EV,aT];exact⟨_,ks,φ,rfl,hn,hl,hk,hx,DQ⟩
end K51
end
section
open PySem L2 Hv
namespace K51
theorem order_eq{p q:Int}{us:List T3}(hl:us.length<=16):bX [.tup [.int p,.int q],.rl (us.map aP)]=.ok (true,aq (if q<p then q else p) (if q>p then q else p) (iG (us.map turnT))):=by
 unfold bX cW;have z0:0<=sizeLine:=by decide
 have z2:2<=sizeLine:=by decide
 have z3:3<=sizeLine:=by decide
 simp only[EV,cV];rw[Ak];refine iQ aP (λr:Pr FV=>r=.ok (true,aq (if q<p then q else p) (if q>p then q else p) (iG (us.map turnT))))
  (λdone env=>∃a b c,env=[some (.sh,.tup [.int p,.int q]),some (.sh,.rl (us.map aP)),some (.ow,.rl ((done.map turnT).map aP)),a,b,c])
  ⟨none,none,none,rfl⟩ ?_ ?_
 ·rintro pre t post env hx ⟨a,b,c,rfl⟩
  have hpl:pre.length<16:=by have:=aa2 length hx;rw[aaI,aaH]at this;omega
  have z:((pre.map turnT).map aP).length<sizeLine:=by rw[aak,aak];unfold sizeLine;omega
  refine⟨[some (.sh,.tup [.int p,.int q]),some (.sh,.rl (us.map aP)),some (.ow,.rl (((pre++[t]).map turnT).map aP)),some (.sh,.int t.1),some (.sh,.int t.2.1),some (.sh,.int t.2.2)],?_,_,_,_,rfl⟩;have ea:((pre++[t]).map turnT).map aP=(pre.map turnT).map aP++[aP (turnT t)]:=by simp
  simp only[EV,sX,z3,z,ea];rfl
 ·rintro env ⟨a,b,c,rfl⟩;simp only[EV,bO j5,bO jE,z2,An (show (us.map turnT).length<64 by rw[length_map];omega)];rfl
theorem FQ{p q:Int}(hl:us.length<=16):gE [aq p q us]=.ok (true,aq (if q<p then q else p) (if q>p then q else p) (iG (us.map turnT))):=by
 have e:=order_eq (p:=p) (q:=q) hl;unfold gE jn;unfold aq at e |-;simp only[EV,kR,bO j5,bO jE,e]
end K51
end
section
open PySem L2 Hv
namespace K51
def nameV(t:T3):Val:=.int t.1
theorem DU(h:t.2.1<=t.2.2):turnT t=t:=by
 obtain⟨a,b,c⟩:=t;unfold turnT;dsimp only at h |-;rw[Prod.mk.injEq,Prod.mk.injEq];refine⟨rfl,?_,?_⟩<;>split<;>omega
theorem Oh:∀{l:List T3},(∀y∈l,x.1<y.1)->uP x l=x::l
 |[],_=>rfl
 | y::r,h=>by
  rw[uP];have lx:HT.lexLt (l3 y) (l3 x)=decide (y.1<x.1):=by show HT.lexLt (y.1::_) (x.1::_)=_;have:=h y aam;rw[HT.gu,aas (by omega)]
  have:=h y aam;rw[lx,aas (by simp;omega)]
theorem qm:∀{l:List T3},DC l->iG l=l
 |[],_=>rfl
 | x::r,h=>by
  unfold DC at h;rw[aa6]at h;rw[iG,qm h.2,Oh h.1]
theorem Tr{p q:Int}(ok:ay p q ts):gE [aq p q ts]=.ok (true,aq p q ts):=by
 have e:=FQ (p:=p) (q:=q) (us:=ts) (aaN ok.len (by decide));have em:ts.map turnT=ts:=by rw[aba λt ht=>DU (ok.ends t ht)];exact map_id _
 have ep:(if q<p then q else p)=p:=by have:=ok.ord;split<;>omega
 have eq:(if q>p then q else p)=q:=by have:=ok.ord;split<;>omega
 rw[em,qm ok.up,ep,eq]at e;exact e
theorem K2:∀ts:List T3,bK Pa (ts.map aP)=some ts
 |[]=>rfl
 |t::r=>by rw[aau,bK,show Pa (aP t)=some t from rfl,bind_some,K2 r];rfl
def r8(c:Nat)(p q:Int)(ts:List T3):Val:=.ob c ["net","places","ends"] [aq p q ts,.rl ((qw p q ts).map .int),.dc ((gB p q ts).map (·.1)) ((gB p q ts).map (·.2))]
theorem K3{c jo jp:Nat}{p q:Int}(h1:Ψ jo=gE)(h2:Ψ jp=fM)(ok:ay p q ts):Aq Ψ c jo jp [aq p q ts]=.ok (true,r8 c p q ts):=by
 have e1:=Tr ok;have e2:=places_eq (p:=p) (q:=q) ok.len;unfold Aq;dsimp only;rw[h1,e1,show (newD (.ok (true,aq p q ts))).bind NL=some (p,q,ts.map aP) from rfl,bS,aT];dsimp only;unfold aq at e2;rw[K2,bS,aT,h2,e2];unfold pg;rw[aar (decide_eq_true (by have:=ok.len;omega))];rfl
def nms(ts:List T3):List Int:=-1::ts.map (·.1)
theorem K4{c:Nat}{p q:Int}{ts:List T3}{m:Str}{js:List (Nat×Nat)}{j:Nat}(hj:js.lookup c=some j)(h:m ≠ "net" /\ m ≠ "places" /\ m ≠ "ends" /\ m ≠ "whole"):sD [] (r8 c p q ts) m js=some j:=by
 unfold r8 sD;dsimp only;have e:∀vs:List Val,vs.length=3->((["net","places","ends"]:List Str).zip vs).lookup m=none:=λvs hv=>by
  match vs,hv with
  |[a,b,c],_=>rw[zip_cons_cons,abf,beq_false_of_ne h.1,zip_cons_cons,abf,beq_false_of_ne h.2.1,zip_cons_cons,abf,beq_false_of_ne h.2.2.1];rfl
 rw[e _ rfl];exact hj
theorem nC(l:List Int):b6 (l.map Val.int)=true:=bx l
theorem FT{p q:Int}(ok:ay p q ts):(nms ts).Nodup:=by
 unfold nms;rw[aaS];refine⟨λh=>?_,?_⟩
 ·obtain⟨t,ht,e⟩:=aaA.mp h;have:=ok.names t ht;omega
 ·have:=ok.up;unfold DC at this;rw[List.Nodup,abv];exact this.imp λh=>by omega
def gi(p q:Int)(ts:List T3)(x:Int):Int×Int:=match ts.find? (λt=>decide (t.1=x)) with
 |some t=>(t.2.1,t.2.2)
 |none=>(p,q)
theorem K5:∀{ts:List T3},(ts.map (·.1)).Nodup->t∈ts->ts.find? (λu=>decide (u.1=t.1))=some t
 | u::r,hn,ht=>by
  rw[aau,aaS]at hn;rw[find?_cons]
  by_cases e:u.1=t.1
  ·rw[decide_eq_true e]
   rcases aaz.mp ht with rfl|ht
   ·rfl
   ·exact absurd (e▸aaC (f:=(·.1)) ht) hn.1
  ·rw[decide_eq_false e]
   rcases aaz.mp ht with rfl|ht
   ·exact absurd rfl e
   ·exact K5 hn.2 ht
theorem nD{p q:Int}(ok:ay p q ts):(ts.map (·.1)).Nodup:=(aaS.mp (FT ok)).2
theorem jB{p q:Int}(ok:ay p q ts)(ht:t∈ts):gi p q ts t.1=(t.2.1,t.2.2):=by
 unfold gi;rw[K5 (nD ok) ht]
theorem lH{p q:Int}(ok:ay p q ts):gi p q ts (-1)=(p,q):=by
 unfold gi;rw[List.find?_eq_none.mpr λt ht=>by have:=ok.names t ht;simp;omega]
theorem yS{p q:Int}(ok:ay p q ts){x:Int}(hx:x∈nms ts):(gi p q ts x).1∈qw p q ts/\(gi p q ts x).2∈qw p q ts:=by
 unfold nms at hx
 rcases aaz.mp hx with rfl|hx
 ·rw[lH ok];exact⟨qk.mpr (.inl rfl),qk.mpr (.inr (.inl rfl))⟩
 ·obtain⟨t,ht,rfl⟩:=aaA.mp hx;rw[jB ok ht];exact⟨qk.mpr (.inr (.inr ⟨t,ht,.inl rfl⟩)),qk.mpr (.inr (.inr ⟨t,ht,.inr rfl⟩))⟩
theorem DV(g:Int->Val):∀(us:List T3) (ks:List Int),(∀u∈us,u.1∉ks)->(us.map (·.1)).Nodup->(∀u∈us,g u.1=.tup [.int u.2.1,.int u.2.2]) ->
  us.foldl kr (ks.map λx=>((Sum.inl x:Key),g x))=(ks++us.map (·.1)).map λx=>((Sum.inl x:Key),g x)
 |[],ks,_,_,_=>by simp
 | u::r,ks,h1,h2,h3=>by
  rw[aau,aaS]at h2;have e:kr (ks.map λx=>((Sum.inl x:Key),g x)) u=(ks++[u.1]).map λx=>((Sum.inl x:Key),g x):=by unfold kr jD;rw[Ck,aas (by simpa using h1 u aam),aaU,aau,abG,h3 u aam]
  rw[foldl_cons,e,DV g r (ks++[u.1]) (λv hv z=>?_) h2.2 λv hv=>h3 v (aal _ hv)]
  ·simp
  ·rcases aaT.mp z with z|z
   ·exact h1 v (aal _ hv) z
   ·rw[aaF]at z;exact h2.1 (z▸aaC (f:=(·.1)) hv)
def vY(p q:Int)(ts:List T3)(x:Int):Val:=cA (gi p q ts x)
def Tt(p q:Int)(ts:List T3):Val:=vp (nms ts) (vY p q ts)
theorem Oi{p q:Int}(ok:ay p q ts):Val.dc ((gB p q ts).map (·.1)) ((gB p q ts).map (·.2))=Tt p q ts:=by
 have e:gB p q ts=(nms ts).map λx=>((Sum.inl x:Key),vY p q ts x):=by
  have h:=DV (vY p q ts) ts [-1] (λu hu z=>by
   rw[aaF]at z;have:=ok.names u hu;omega) (nD ok) λu hu=>by unfold vY;rw[jB ok hu];rfl
  unfold gB nms;rw[aau,abG]at h;have e1:vY p q ts (-1)=.tup [.int p,.int q]:=by unfold vY;rw[lH ok];rfl
  rw[e1]at h;exact h
 rw[e,aaV,aaV];rfl
structure Tu (o:Val) (p q:Int) (ts:List T3):Prop where
 net:nY 1 [] o "net" = some (aq p q ts)
 places:nY 1 [] o "places" = some (.rl ((qw p q ts).map .int))
 ends:nY 1 [] o "ends" = some (Tt p q ts)
theorem DW{c:Nat}(hc:c<1){p q:Int}(ok:ay p q ts):Tu (r8 c p q ts) p q ts:=by
 refine⟨?_,?_,?_⟩
 ·unfold r8 nY;dsimp only;rw[aar hc];rfl
 ·unfold r8 nY;dsimp only;rw[aar hc];rfl
 ·rw[<-Oi ok];unfold r8 nY;dsimp only;rw[aar hc];rfl
theorem Ph{p q:Int}(h:ts.length<=14):bW Ψ 1 #[.ret (.comp N [none] (.one 0) .seq #[.idx (!0) (¬1)] .no (.idx (!0) (¬0)))] [aq p q ts]=.ok (true,.rl (ts.map nameV)):=by
 have hc:ts.length<=100000:=by omega
 unfold aq;simp only[EV,bO jE,cV,di,length_map,hc];rw[cD aP nameV ts (λt ht=>by
  have i0:iu [] (aP t) (.int 0)=some (.int t.1):=rfl;simp only[EV,aH,i0,nameV])]
 simp only[EV,aT]
theorem Bb{p q:Int}(h:ts.length<=14):jx [aq p q ts]=.ok (true,.rl (ts.map nameV)):=Ph h
theorem Oj{p q:Int}(ro:Tu o p q ts)(h:ts.length<=14):gW [o]=.ok (true,.rl ((nms ts).map .int)):=by
 have e1:=Bb (p:=p) (q:=q) h;unfold gW f6;have z1:1<=sizeLine:=by decide
 have z:([.int (-1)]:List Val).length+(ts.map nameV).length<=sizeLine:=by rw[aak];simp;unfold sizeLine;omega
 simp only[EV,ro.net,l9,e1,z1,rA z];have em:[Val.int (-1)]++ts.map nameV=(nms ts).map .int:=by unfold nms;rw[aau,aaV];rfl
 have en:b6 (ts.map nameV)=true:=by rw[show ts.map nameV=(ts.map (·.1)).map Val.int by rw[aaV];rfl];exact nC _
 rw[show Val.int (-1)::ts.map nameV=(nms ts).map .int from em,en]
theorem K6(p q:Int)(ts:List T3)(x:Int):jL (vY p q ts x)=true:=rfl
theorem Ol{p q:Int}{x:Int}(h:x∈nms ts):iu [] (Tt p q ts) (.int x)=some (vY p q ts x):=mT h
theorem yT{p q:Int}(ok:ay p q ts):(nms ts).length<=15:=by
 have:=ok.len;unfold nms;simp;omega
def b7(p q:Int)(ts:List T3)(P:List Int):Nat:=tr (qw p q ts) (P.map (gi p q ts))
theorem K7{p q:Int}(ok:ay p q ts){P:List Int}(hP:∀x∈P,x∈nms ts):Ur (qw p q ts) (P.map (gi p q ts)):=λe he=>by
 obtain⟨x,hx,rfl⟩:=aaA.mp he;exact yS ok (hP x hx)
theorem K8{p q:Int}(ok:ay p q ts)(ro:Tu o p q ts){P:List Int}(hP:∀x∈P,x∈nms ts)(hl:P.length<=15):cM [o,.rl (P.map .int)]=.ok (true,.int (b7 p q ts P)):=by
 have hpl:=Od (p:=p) (q:=q) ok.len;have Us:(qw p q ts).Nodup:=jg _;obtain⟨f,φ,ef,DQ⟩:=FN (qw p q ts) Us hpl (P.map (gi p q ts)) (λe he=>by
  obtain⟨x,hx,rfl⟩:=aaA.mp he;exact yS ok (hP x hx))
 have et:b7 p q ts P=rk φ (qw p q ts):=pZ DQ Us;rw[et];rw[aaV]at ef;unfold cM cz;have hc:P.length<=100000:=by omega
 have hc2:(qw p q ts).length<=100000:=by omega
 simp only[EV,ro.places,ro.ends,cV,di,length_map,hc];rw[cD Val.int (vY p q ts) P (λx hx=>by
  simp only[EV,aH,ro.ends,Ol (hP x hx),K6])]
 have ef':fN [.rl ((qw p q ts).map .int),.rl (P.map (vY p q ts))]=.ok (f,vp (qw p q ts) λx=>.int (φ x)):=ef;simp only[EV,iM,ef',ro.places,cV,di,length_map,hc2];rw[cE Val.int Val.int (λx=>!decide (φ x=x)) (qw p q ts) (λx hx=>by
  have hi:=mT (g:=λx=>Val.int (φ x)) hx;simp only[EV,aH,hi]
  by_cases c:φ x=x
  ·simp[c]
  ·simp[c])]
 simp only[EV,length_map];rfl
theorem DX:∀us:List T3,b6 (us.map aP)=true
 |[]=>rfl
 |u::r=>by rw[aau,b6,DX r];rfl
def others(ts:List T3)(P:List Int):List Int:=(nms ts).filter λx=>!decide (x∈P)
theorem iV:∀ks:List Int,aX (ks.map Val.int)=some ks
 |[]=>rfl
 | k::r=>by
  have:=iV r;unfold aX at this |-;rw[aau,bK,this];rfl
end K51
end
section
open PySem L2 Hv
namespace K51
theorem Bc{α:Type}(enc:α -> Val)(Q:aU->Prop)(x:α)(res:FV):∀(us:List α) (env:aU),Q env->x∈us ->
  (∀u∈us,∀env,Q env->(body (enc u) env=.ok (.rt res))\/(u≠x/\∃env',body (enc u) env=.ok (.nx env')/\Q env'))->gA body (us.map enc) env=.ok (.rt res)
 | u::us,env,q,hx,h=>by
  rw[aau,gA]
  rcases h u (aam ..) env q with e|⟨ne,env',e,q'⟩
  ·rw[e,aT]
  ·rw[e,aT]
   rcases aaz.mp hx with hx|hx
   ·exact(ne hx.symm).elim
   ·exact Bc enc Q x res us env' q' hx λv hv=>h v (aal _ hv)
theorem DY{p q:Int}(hn:(ts.map (·.1)).Nodup)(ht:t∈ts):iR [aq p q ts,.int t.1]=.ok (true,cA (kW t)):=by
 unfold iR jl aq;simp only[EV,bO j5,bO jE,cV];rw[Bc aP (λenv=>∃a b c,env=[some (.sh,.tup [.tup [.int p,.int q],.rl (ts.map aP)]),some (.sh,.int t.1),a,b,c]) t (true,cA (kW t)) ts _ ⟨none,none,none,rfl⟩ ht]
 ·rfl
 ·rintro u hu env ⟨a,b,c,rfl⟩
  by_cases e:u.1=t.1
  ·left
   have:=Dd hn u hu t ht e;subst this;simp only[EV,sX,decide_true,↓reduceIte];rfl
  ·right
   refine⟨λz=>e (by rw[z]),[some (.sh,.tup [.tup [.int p,.int q],.rl (ts.map aP)]),some (.sh,.int t.1),some (.sh,.int u.1),some (.sh,.int u.2.1),some (.sh,.int u.2.2)],?_,_,_,_,rfl⟩;simp only[EV,sX];simp[e]
def aV(ts:List T3)(t:T3):List T3:=ts.filter λu=>!decide (u.1=t.1)
def K9(e:Int×Int)(a b:Int):Prop:=e=(a,b)\/e=(b,a)
theorem K9.way{a b:Int}(s:K9 e a b)(h:e∈es):Way es a b:=by
 rcases s with rfl|rfl
 ·exact .fwd (.refl _) h
 ·exact .bwd (.refl _) h
def Om(D:List (Int×Int))(f:Int->Int):Prop:=∀x y,f x=f y↔Way D x y
theorem La(g:Om D f)(h1:∀e∈es,∃e'∈es',K9 e' (f e.1) (f e.2))(h2:∀e'∈es',∃e∈es,K9 e' (f e.1) (f e.2))(x y:Int):Way es' (f x) (f y)↔Way (es++D) x y:=by
 have up:∀{x y},f x=f y->Way (es++D) x y:=λe=>((g _ _).mp e).mono λe he=>aaP _ he;constructor
 ·have aux:∀u v,Way es' u v->∀x,u=f x->∃y,v=f y/\Way (es++D) x y:=by
   intro u v w
   induction w with
   |refl=>exact λx e=>⟨x,e,.refl _⟩
   |fwd _ m ih=>
    intro x e;obtain⟨y,e1,w1⟩:=ih x e;obtain⟨⟨a,b⟩,he,s⟩:=h2 _ m;have m':(a,b)∈es++D:=aaX _ he
    rcases s with s|s<;>(injection s with s1 s2;dsimp only at s1 s2)
    ·exact⟨b,s2,(w1.trans (up (e1.symm.trans s1))).fwd m'⟩
    ·exact⟨a,s2,(w1.trans (up (e1.symm.trans s1))).bwd m'⟩
   |bwd _ m ih=>
    intro x e;obtain⟨y,e1,w1⟩:=ih x e;obtain⟨⟨a,b⟩,he,s⟩:=h2 _ m;have m':(a,b)∈es++D:=aaX _ he
    rcases s with s|s<;>(injection s with s1 s2;dsimp only at s1 s2)
    ·exact⟨a,s1,(w1.trans (up (e1.symm.trans s2))).bwd m'⟩
    ·exact⟨b,s1,(w1.trans (up (e1.symm.trans s2))).fwd m'⟩
  intro w;obtain⟨z,e,w⟩:=aux _ _ w x rfl;exact w.trans (up e.symm)
 ·intro w
  have st:∀a b,(a,b)∈es++D->Way es' (f a) (f b):=λa b m=>by
   rcases aaT.mp m with m|m
   ·obtain⟨e',he',s⟩:=h1 _ m;exact s.way he'
   ·rw[(g a b).mpr (.fwd (.refl _) m)];exact .refl _
  induction w with
  |refl=>exact .refl _
  |fwd _ m ih=>exact ih.trans (st _ _ m)
  |bwd _ m ih=>exact ih.trans (st _ _ m).symm
def iB(a b x:Int):Int:=if x=b then a else x
theorem Om.one(a b:Int):Om [(a,b)] (iB a b):=λx y=>by
 have ab:Way [(a,b)] a b:=.fwd (.refl _) (by simp);constructor
 ·unfold iB
  intro e;split at e<;>split at e
  ·rename_i h1 h2;rw[h1,h2];exact .refl _
  ·rename_i h1 h2;rw[h1,<-e];exact ab.symm
  ·rename_i h1 h2;rw[h2,e];exact ab
  ·rw[e];exact .refl _
 ·exact λw=>w.const (iB a b) λe he=>by
   rw[aaF]at he;subst he;unfold iB;simp
theorem jC:u∈aV ts t↔u∈ts/\u.1≠t.1:=by
 unfold aV;rw[aa0];simp
theorem lI{n:Nat}(h:ts.length<=n):(aV ts t).length<=n:=aaN (List.length_filter_le ..) h
theorem DZ(t:T3):K9 (kW (turnT t)) t.2.1 t.2.2:=by
 unfold K9 kW turnT;dsimp only;rw[Prod.mk.injEq,Prod.mk.injEq]
 split<;>split<;>omega
def zb(g:Int->Int)(t:T3):T3:=(t.1,g t.2.1,g t.2.2)
theorem Cs:jL (aP t)=true:=rfl
theorem vg{p q:Int}(h:ts.length<=14)(hn:(ts.map (·.1)).Nodup)(ht:t∈ts):iS [aq p q ts,.int t.1]=.ok (true,.rl ((aV ts t).map aP)):=by
 have e1:=DY (p:=p) (q:=q) hn ht;unfold iS jm;have hc:ts.length<=100000:=by omega
 unfold aq at *;simp only[EV,oS,e1,bO jE,cV,di,length_map,hc];rw[cE aP aP (λu=>!decide (u.1=t.1)) ts (λu hu=>by
  have i0:iu [] (aP u) (.int 0)=some (.int u.1):=rfl;simp only[EV,aH,i0,Cs]
  by_cases c:u.1=t.1<;>simp[c])]
 rfl
theorem Lb{p q:Int}(h:ts.length<=14)(hn:(ts.map (·.1)).Nodup)(ht:t∈ts):fK [aq p q ts,.int t.1]=.ok (true,aq (if q<p then q else p) (if q>p then q else p) (iG ((aV ts t).map turnT))):=by
 have e1:=vg (p:=p) (q:=q) h hn ht;have e2:=order_eq (p:=p) (q:=q) (us:=aV ts t) (aaN (lI h) (by decide));unfold fK fX;unfold aq at e1 |-;simp only[EV,nk,jF,e1,bO j5,e2];rfl
theorem Oo{a b x:Int}:sy [] (.dc [Sum.inl b] [.int a]) (.inl x)=some (if x=b then some (.int a) else none):=by
 show some (dm [((Sum.inl b:Key),Val.int a)] (.inl x))=_;unfold dm
 by_cases c:x=b
 ·subst c;simp
 ·have c':¬ b=x:=λz=>c z.symm;simp[c,c']
theorem D3{a b x:Int}:(if x=b then some (Val.int a) else none).getD (.int x)=.int (iB a b x):=by
 unfold iB;split<;>rfl
theorem D4:HG [] (.dc ks vs)=some ():=rfl
theorem Tv:iu [] (cA e) (.int 0)=some (.int e.1):=rfl
theorem Tw:iu [] (cA e) (.int 1)=some (.int e.2):=rfl
theorem Lc{p q:Int}(h:ts.length<=14)(hn:(ts.map (·.1)).Nodup)(ht:t∈ts):nW [aq p q ts,.int t.1]=.ok (true,aq (turnT (0,iB t.2.1 t.2.2 p,iB t.2.1 t.2.2 q)).2.1 (turnT (0,iB t.2.1 t.2.2 p,iB t.2.1 t.2.2 q)).2.2 (iG (((aV ts t).map (zb (iB t.2.1 t.2.2))).map turnT))):=by
 have e1:=vg (p:=p) (q:=q) h hn ht;have e0:=DY (p:=p) (q:=q) hn ht;have e2:=order_eq (p:=iB t.2.1 t.2.2 p) (q:=iB t.2.1 t.2.2 q) (us:=(aV ts t).map (zb (iB t.2.1 t.2.2))) (by rw[aak];exact aaN (lI h) (by decide));have z2:2<=sizeLine:=by decide
 have z3:3<=sizeLine:=by decide
 have z0:0<=sizeLine:=by decide
 unfold nW mV;unfold aq at e1 e0 |-;have ee:∀t:T3,(kW t).1=t.2.1/\(kW t).2=t.2.2:=λ_=>⟨rfl,rfl⟩;simp only[EV,qR,qS,e0,e1,Tv,Tw,ee,bO j5,bO jE,pX,D4,Oo,D3,cV,z0,z2]
 repeat rw[Ak]
 refine iQ aP (λr:Pr FV=>r=.ok (true,.tup [.tup [.int (turnT (0,iB t.2.1 t.2.2 p,iB t.2.1 t.2.2 q)).2.1,.int (turnT (0,iB t.2.1 t.2.2 p,iB t.2.1 t.2.2 q)).2.2],.rl ((iG (((aV ts t).map (zb (iB t.2.1 t.2.2))).map turnT)).map aP)]))
  (λdone env=>∃m1 m2 a b c,env=[some (.sh,.tup [.tup [.int p,.int q],.rl (ts.map aP)]),some (.sh,.int t.1),some (m1,cA (kW t)),some (.nw,.dc [Sum.inl t.2.2] [.int t.2.1]),some (m2,.tup [.int (iB t.2.1 t.2.2 p),.int (iB t.2.1 t.2.2 q)]),some (.ow,.rl ((done.map (zb (iB t.2.1 t.2.2))).map aP)),a,b,c])
  ⟨_,_,none,none,none,rfl⟩ ?_ ?_
 ·rintro pre u post env hx ⟨m1,m2,a,b,c,rfl⟩
  have hpl:pre.length<14:=by have:=aa2 length hx;rw[aaI,aaH]at this;have:=lI (t:=t) h;omega
  have z:((pre.map (zb (iB t.2.1 t.2.2))).map aP).length<sizeLine:=by rw[aak,aak];unfold sizeLine;omega
  have ea:((pre++[u]).map (zb (iB t.2.1 t.2.2))).map aP=(pre.map (zb (iB t.2.1 t.2.2))).map aP++[aP (zb (iB t.2.1 t.2.2) u)]:=by simp
  refine⟨_,?_,m1,m2,some (.sh,.int u.1),some (.sh,.int u.2.1),some (.sh,.int u.2.2),rfl⟩;simp only[EV,sX,pX,D4,Oo,D3,z3,z,ea];rfl
 ·rintro env ⟨m1,m2,a,b,c,rfl⟩;simp only[EV,lZ,e2];rfl
end K51
end
section
open PySem L2 Hv
namespace K51
theorem Ld{p q:Int}{P Q:List Int}{x:Int}(h:∀y,y∈Q↔y∈P\/y=x):∀e,e∈Q.map (gi p q ts)↔e∈P.map (gi p q ts)\/e=((gi p q ts x).1,(gi p q ts x).2):=λe=>by
 constructor
 ·intro he
  obtain⟨y,hy,rfl⟩:=aaA.mp he
  rcases(h y).mp hy with hy|rfl
  ·exact .inl (aaC hy)
  ·exact .inr rfl
 ·rintro(he|rfl)
  ·obtain⟨y,hy,rfl⟩:=aaA.mp he;exact aaC ((h y).mpr (.inl hy))
  ·exact aaC (f:=gi p q ts) ((h x).mpr (.inr rfl))
section
variable {p q:Int} {ts:List T3}
def Wy(p q:Int)(ts:List T3)(P:List Int)(x:Int):Prop:=Way (P.map (gi p q ts)) (gi p q ts x).1 (gi p q ts x).2
theorem Wy.mono{P Q:List Int}(h:∀y∈P,y∈Q){x:Int}(w:Wy p q ts P x):Wy p q ts Q x:=by
 unfold Wy at w |-;refine Way.mono (λe he=>?_) w;obtain⟨y,hy,rfl⟩:=aaA.mp he;exact aaC (h y hy)
open Classical in
theorem xQ(ok:ay p q ts){P Q:List Int}{x:Int}(hP:∀y∈P,y∈nms ts)(hx:x∈nms ts)(h:∀y,y∈Q↔y∈P\/y=x):b7 p q ts Q=b7 p q ts P+if Wy p q ts P x then 0 else 1:=by
 obtain⟨h1,h2⟩:=yS ok hx;exact NP (ps:=qw p q ts) (jg _) (K7 ok hP) h1 h2 (Ld (p:=p) (q:=q) (ts:=ts) h)
theorem vh(ok:ay p q ts){P Q:List Int}{x:Int}(hP:∀y∈P,y∈nms ts)(hx:x∈nms ts)(h:∀y,y∈Q↔y∈P\/y=x):b7 p q ts P<=b7 p q ts Q/\b7 p q ts Q<=b7 p q ts P+1:=by
 rw[xQ ok hP hx h]
 split<;>omega
theorem r9(ok:ay p q ts){P Q:List Int}{x:Int}(hP:∀y∈P,y∈nms ts)(hx:x∈nms ts)(h:∀y,y∈Q↔y∈P\/y=x):Wy p q ts P x↔b7 p q ts Q=b7 p q ts P:=by
 rw[xQ ok hP hx h]
 split
 ·exact⟨λ_=>rfl,λ_=>‹_›⟩
 ·exact⟨λw=>absurd w ‹_›,λe=>by omega⟩
theorem Le(ok:ay p q ts){P Q:List Int}(hP:∀y∈P,y∈nms ts)(h:∀y,y∈P↔y∈Q):b7 p q ts P=b7 p q ts Q:=by
 refine Av (jg _) (K7 ok hP) λe=>⟨λhe=>?_,λhe=>?_⟩
 ·obtain⟨y,hy,rfl⟩:=aaA.mp he;exact aaC ((h y).mp hy)
 ·obtain⟨y,hy,rfl⟩:=aaA.mp he;exact aaC ((h y).mpr hy)
theorem gY{R:List Int}{x:Int}(y:Int):y∈R++[x]↔y∈R\/y=x:=by simp
theorem qo{R:List Int}{x:Int}(hR:∀y∈R,y∈nms ts)(hx:x∈nms ts):∀y∈R++[x],y∈nms ts:=λy hy=>by
 rcases(gY y).mp hy with h|rfl
 ·exact hR y h
 ·exact hx
theorem D5(ok:ay p q ts):∀(xs R:List Int),(∀y∈R,y∈nms ts)->(∀y∈xs,y∈nms ts)->b7 p q ts R<=b7 p q ts (R++xs)/\b7 p q ts (R++xs)<=b7 p q ts R+xs.length
 |[],R,_,_=>by rw[aa1];exact⟨aaw _,aaw _⟩
 | x::xs,R,hR,hx=>by
  have h1:=vh ok (Q:=R++[x]) hR (hx x aam) gY;have h2:=D5 ok xs (R++[x]) (qo hR (hx x aam)) λy hy=>hx y (aal _ hy);rw[abw]at h2;rw[aaH];exact⟨aaN h1.1 h2.1,by have:=h2.2;have:=h1.2;show b7 p q ts (R++([x]++xs))<=_;omega⟩
theorem vj(ok:ay p q ts):∀(xs R:List Int),(∀y∈R,y∈nms ts)->(∀y∈xs,y∈nms ts)->(∀pre x post,xs=pre++x::post->¬ Wy p q ts (R++pre) x)->b7 p q ts (R++xs)=b7 p q ts R+xs.length
 |[],R,_,_,_=>by rw[aa1];rfl
 | x::xs,R,hR,hx,hw=>by
  have n1:¬ Wy p q ts R x:=by have:=hw [] x xs rfl;rwa [aa1]at this
  have s1:=vh ok (Q:=R++[x]) hR (hx x aam) gY;have h1:¬ b7 p q ts (R++[x])=b7 p q ts R:=λe=>n1 ((r9 ok (Q:=R++[x]) hR (hx x aam) gY).mpr e);have h2:=vj ok xs (R++[x]) (qo hR (hx x aam)) (λy hy=>hx y (aal _ hy)) λpre y post e=>by
   have:=hw (x::pre) y post (by rw[e];rfl);rw[abw];exact this
  rw[abw]at h2;rw[aaH];show b7 p q ts (R++([x]++xs))=_;omega
theorem lJ:b7 p q ts []=0:=by
 unfold b7;rw[abG,pZ (ps:=qw p q ts) (lY.start _) (jg _)];unfold rk;simp
theorem Tz(ok:ay p q ts){P:List Int}(hP:∀y∈P,y∈nms ts):b7 p q ts P<=P.length:=by
 have:=(D5 ok P [] (λ_ h=>by simp at h) hP).2;rw[lJ,aby]at this;omega
end
end K51
end
section
open PySem L2 Hv
namespace K51
section
variable {p q:Int} {ts:List T3} {t:T3}
def gZ(ts:List T3)(t:T3):List T3:=((aV ts t).map (zb (iB t.2.1 t.2.2))).map turnT
def fQ(p q:Int)(t:T3):T3:=turnT (0,iB t.2.1 t.2.2 p,iB t.2.1 t.2.2 q)
theorem Be(u:T3):(turnT u).1=u.1:=rfl
theorem xR:(gZ ts t).map (·.1)=(aV ts t).map (·.1):=by
 unfold gZ;rw[aaV,aaV];rfl
theorem tu(ok:ay p q ts):DC (aV ts t):=by
 have:=ok.up;unfold DC aV at *;exact this.sublist List.filter_sublist
theorem tw(hf:∀u,(f u).1=u.1)(h:DC us):DC (us.map f):=by
 unfold DC at *;rw[abv];exact h.imp λ{a b} h=>by rw[hf,hf];exact h
theorem D6(u:T3):(turnT u).2.1<=(turnT u).2.2:=by
 unfold turnT;dsimp only;split<;>split<;>omega
theorem gI(ok:ay p q ts):ay p q (aV ts t) :=
 ⟨ok.ord,lI ok.len,tu ok,λu hu=>ok.ends u (jC.mp hu).1,λu hu=>ok.names u (jC.mp hu).1⟩
theorem jV(ok:ay p q ts):ay (fQ p q t).2.1 (fQ p q t).2.2 (gZ ts t):=by
 refine⟨D6 _,?_,?_,λu hu=>?_,λu hu=>?_⟩
 ·unfold gZ;rw[aak,aak];exact lI ok.len
 ·exact tw Be (tw (f:=zb (iB t.2.1 t.2.2)) (λ_=>rfl) (tu (t:=t) ok))
 ·obtain⟨v,_,rfl⟩:=aaA.mp hu;exact D6 _
 ·have:u.1∈(gZ ts t).map (·.1):=aaC hu;rw[xR]at this;obtain⟨v,hv,e⟩:=aaA.mp this;have:=ok.names v (jC.mp hv).1;rw[<-e];exact this
theorem Oq(ok:ay p q ts)(ht:t∈ts):fK [aq p q ts,.int t.1]=.ok (true,aq p q (aV ts t)):=by
 rw[Lb ok.len (nD ok) ht];have e1:(aV ts t).map turnT=aV ts t:=(aba λu hu=>DU (ok.ends u (jC.mp hu).1)).trans (map_id _);have h1:(if q<p then q else p)=p:=aas (by have:=ok.ord;omega);have h2:(if q>p then q else p)=q:=by have:=ok.ord;split<;>omega
 rw[e1,qm (tu ok),h1,h2]
theorem Ot(ok:ay p q ts)(ht:t∈ts):nW [aq p q ts,.int t.1]=.ok (true,aq (fQ p q t).2.1 (fQ p q t).2.2 (gZ ts t)):=by
 rw[Lc ok.len (nD ok) ht,qm (tw Be (tw (f:=zb (iB t.2.1 t.2.2)) (λ_=>rfl) (tu (t:=t) ok)))];rfl
def vq(ts:List T3)(t:T3):List Int:=nms (aV ts t)
theorem TF(ok:ay p q ts)(ht:t∈ts):vq ts t=(nms ts).filter λy=>!decide (y=t.1):=by
 have h0:=ok.names t ht;unfold vq nms aV;rw[abd (by rw[not_eq_true',decide_eq_false_iff_not];omega),List.filter_map];rfl
theorem lK(ok:ay p q ts)(ht:t∈ts){y:Int}:y∈vq ts t↔y∈nms ts/\y≠t.1:=by
 rw[TF ok ht,aa0];simp
theorem qq:nms (gZ ts t)=vq ts t:=by
 unfold nms vq nms;rw[xR]
theorem Bf(ok:ay p q ts)(ht:t∈ts){x:Int}(hx:x∈vq ts t):gi p q (aV ts t) x=gi p q ts x:=by
 unfold vq nms at hx
 rcases aaz.mp hx with rfl|h
 ·rw[lH (gI ok),lH ok]
 ·obtain⟨u,hu,rfl⟩:=aaA.mp h;rw[jB (gI ok) hu,jB ok (jC.mp hu).1]
theorem vm(ok:ay p q ts)(ht:t∈ts){x:Int}(hx:x∈vq ts t):K9 (gi (fQ p q t).2.1 (fQ p q t).2.2 (gZ ts t) x) (iB t.2.1 t.2.2 (gi p q ts x).1) (iB t.2.1 t.2.2 (gi p q ts x).2):=by
 have hx':=hx;unfold vq nms at hx'
 rcases aaz.mp hx' with rfl|h
 ·rw[lH (jV ok),lH ok];exact DZ (0,iB t.2.1 t.2.2 p,iB t.2.1 t.2.2 q)
 ·obtain⟨u,hu,rfl⟩:=aaA.mp h;have hm:turnT (zb (iB t.2.1 t.2.2) u)∈gZ ts t:=aaC (aaC hu);have e:=jB (jV ok) hm;rw[show (turnT (zb (iB t.2.1 t.2.2) u)).1=u.1 from rfl]at e;rw[e,jB ok (jC.mp hu).1];exact DZ (zb (iB t.2.1 t.2.2) u)
theorem TH{a b:Int}(s:K9 e a b):Way es e.1 e.2↔Way es a b:=by
 rcases s with rfl|rfl
 ·exact Iff.rfl
 ·exact⟨Way.symm,Way.symm⟩
theorem TJ(ok:ay p q ts)(ht:t∈ts){P:List Int}(hP:∀y∈P,y∈vq ts t){x:Int}(hx:x∈vq ts t):Wy (fQ p q t).2.1 (fQ p q t).2.2 (gZ ts t) P x↔Wy p q ts (P++[t.1]) x:=by
 unfold Wy;rw[TH (vm ok ht hx),La (es:=P.map (gi p q ts)) (D:=[(t.2.1,t.2.2)]) (Om.one t.2.1 t.2.2) (λe he=>?_) (λe' he'=>?_)]
 ·rw[aaU,aau,abG,jB ok ht]
 ·obtain⟨y,hy,rfl⟩:=aaA.mp he;exact⟨_,aaC hy,vm ok ht (hP y hy)⟩
 ·obtain⟨y,hy,rfl⟩:=aaA.mp he';exact⟨_,aaC hy,vm ok ht (hP y hy)⟩
theorem tB(ok:ay p q ts)(ht:t∈ts){P:List Int}(hP:∀y∈P,y∈vq ts t){x:Int}(hx:x∈vq ts t):Wy p q (aV ts t) P x↔Wy p q ts P x:=by
 unfold Wy;rw[Bf ok ht hx,aba λy hy=>Bf ok ht (hP y hy)]
theorem qt{R:List Int}{x:Int}(y:Int):y∈x::R↔y∈R\/y=x:=by rw[aaz,or_comm]
theorem Lf(ht:t∈ts):t.1∈nms ts:=aal _ (aaC ht)
open Classical in
theorem D7(ok:ay p q ts)(ht:t∈ts):∀P:List Int,(∀y∈P,y∈vq ts t)->b7 (fQ p q t).2.1 (fQ p q t).2.2 (gZ ts t) P+b7 p q ts [t.1]=b7 p q ts (P++[t.1])
 |[],_=>by rw[lJ,aby,Nat.zero_add]
 | x::P,h=>by
  have hP:∀y∈P,y∈vq ts t:=λy hy=>h y (aal _ hy);have hx:=h x aam;have ih:=D7 ok ht P hP;have hin:∀y∈P++[t.1],y∈nms ts:=λy hy=>by
   rcases(gY y).mp hy with z|rfl
   ·exact((lK ok ht).mp (hP y z)).1
   ·exact Lf ht
  rw[xQ (jV ok) (P:=P) (Q:=x::P) (by rw[qq];exact hP) (by rw[qq];exact hx) qt,
   xQ ok (P:=P++[t.1]) (Q:=(x::P)++[t.1]) hin ((lK ok ht).mp hx).1 (λy=>by rw[List.cons_append];exact qt y)]
  have e:=TJ ok ht hP hx
  by_cases c:Wy p q ts (P++[t.1]) x
  ·rw[aar c,aar (e.mpr c)];omega
  ·rw[aas c,aas (λz=>c (e.mp z))];omega
open Classical in
theorem vn(ok:ay p q ts)(ht:t∈ts):∀P:List Int,(∀y∈P,y∈vq ts t)->b7 p q (aV ts t) P=b7 p q ts P
 |[],_=>by rw[lJ,lJ]
 | x::P,h=>by
  have hP:∀y∈P,y∈vq ts t:=λy hy=>h y (aal _ hy);have hx:=h x aam;rw[xQ (gI ok) (P:=P) (Q:=x::P) hP hx qt,xQ ok (P:=P) (Q:=x::P) (λy hy=>((lK ok ht).mp (hP y hy)).1) ((lK ok ht).mp hx).1 qt,vn ok ht P hP];have e:=tB ok ht hP hx
  by_cases c:Wy p q ts P x
  ·rw[aar c,aar (e.mpr c)]
  ·rw[aas c,aas (λz=>c (e.mp z))]
section
variable (ok:ay p q ts) (ht:t∈ts) {P:List Int} (hP:∀y∈P,y∈vq ts t)
include ok ht hP
end
end
end K51
end
section
open PySem L2 Hv
namespace K51
theorem Ou{ks:List Int}(h:ks.length<=100000):wR [] (o6 ks φ)=some (ks.map φ):=by
 unfold wR;show (some (ks.map Sum.inl)).bind _=_;rw[bind_some,aar (by simpa using h)];refine eY ks λx hx=>?_;rw[SN,aar hx];rfl
theorem TL:∀ks:List Int,aX (ks.map Val.int)=some ks:=iV
theorem Lg{p q:Int}(ok:ay p q ts){P:List Int}(hP:∀x∈P,x∈nms ts):∃f,kM [aq p q ts,.rl (P.map .int)]=.ok (f,.int (b7 p q ts P)):=by
 obtain⟨f,ks,φ,e,hn,hl,hk,hx,DQ⟩:=K1 (p:=p) (q:=q) (row:=P) ok.len;have Us:(qw p q ts).Nodup:=jg _;have hm:∀x,x∈ks↔x∈qw p q ts:=λx=>by
  rw[qk];constructor
  ·intro h
   obtain⟨t,ht,z⟩:=hx x h
   rcases aaz.mp ht with rfl|ht
   ·rcases z with z|z
    ·exact .inl z
    ·exact .inr (.inl z)
   ·exact .inr (.inr ⟨t,ht,z⟩)
  ·rintro(rfl|rfl|⟨t,ht,rfl|rfl⟩)
   ·exact(hk (-1,x,q) aam).1
   ·exact(hk (-1,p,x) aam).2
   ·exact(hk t (aal _ ht)).1
   ·exact(hk t (aal _ ht)).2
 have XX:lY (qw p q ts) (P.map (gi p q ts)) φ:=by
  have hs:∀e,e∈(((-1,p,q)::ts).filter λt=>decide (t.1∈P)).map kW↔e∈P.map (gi p q ts):=λe=>by
   constructor
   ·intro h
    obtain⟨t,ht,rfl⟩:=aaA.mp h;obtain⟨h1,h2⟩:=aa0.mp ht;refine aaA.mpr ⟨t.1,aaK h2,?_⟩
    rcases aaz.mp h1 with rfl|h1
    ·exact lH ok
    ·exact jB ok h1
   ·intro h
    obtain⟨x,h1,rfl⟩:=aaA.mp h
    rcases aaz.mp (hP x h1) with rfl|h2
    ·exact aaA.mpr ⟨(-1,p,q),aa0.mpr ⟨aam,decide_eq_true h1⟩,(lH ok).symm⟩
    ·obtain⟨t,ht,rfl⟩:=aaA.mp h2;exact aaA.mpr ⟨t,aa0.mpr ⟨aal _ ht,decide_eq_true h1⟩,(jB ok ht).symm⟩
  have l1:=DQ.Jp hs;exact⟨λx h=>(hm _).mp (l1.lX x ((hm x).mpr h)),λx h=>l1.way x ((hm x).mpr h),l1.same⟩
 have e1:b7 p q ts P=rk φ (qw p q ts):=pZ XX Us;have e2:=uS XX Us;have e3:ks.length=(qw p q ts).length:=Nat.le_antisymm (b8 hn λx h=>(hm x).mp h) (b8 Us λx h=>(hm x).mpr h);have e4:(cH [] (ks.map φ)).length=cnt φ (qw p q ts):=by
  have hc:∀v,v∈cH [] (ks.map φ)↔v∈cH [] ((qw p q ts).map φ):=λv=>by
   rw[fk,fk];constructor
   ·rintro⟨x,h1,h2⟩;exact⟨x,(hm x).mp h1,h2⟩
   ·rintro⟨x,h1,h2⟩;exact⟨x,(hm x).mpr h1,h2⟩
  exact Nat.le_antisymm (b8 (dN _ _ abm) λx h=>(hc x).mp h) (b8 (dN _ _ abm) λx h=>(hc x).mpr h)
 have e5:pL [] (o6 ks φ)=some (ks.length:Nat):=by show some (ks.map Sum.inl).length=_;rw[aak]
 have e6:(ks.map φ).length<64:=by rw[aak];omega
 refine⟨true,?_⟩;unfold kM jt;simp only[EV,oX,e,e5,Ou (show ks.length<=100000 by omega),TL,e6,e4];refine aa2 (λz=>Pr.ok (true,Val.int z)) ?_;rw[e1];have e7:(ks.map (Sum.inl:Int->Key)).length=ks.length:=aak ..;omega
end K51
end
section
open PySem L2 Hv
namespace K51
section
variable {p q:Int} {ts:List T3}
abbrev Ov(p q:Int)(ts:List T3):Val:=r8 0 p q ts
theorem sub_len(ok:ay p q ts){P:List Int}(hn:P.Nodup)(hP:∀x∈P,x∈nms ts):P.length<=15:=aaN (b8 hn hP) (yT ok)
theorem Bg{m:Str}{j:Nat}(h:m ≠ "net" /\ m ≠ "places" /\ m ≠ "ends" /\ m ≠ "whole"):sD [] (Ov p q ts) m [(0,j)]=some j:=K4 rfl h
theorem yU(ok:ay p q ts){P:List Int}(hP:∀x∈P,x∈nms ts)(hl:P.length<=15):cN [Ov p q ts,.rl (P.map .int)]=.ok (true,.int (b7 p q ts P)):=by
 have e:=K8 (o:=Ov p q ts) ok (DW (by decide) ok) hP hl;unfold cN cX;simp only[EV,Bg (p:=p) (q:=q) (ts:=ts) (m:="tree_rank") (j:=22) (by decide),gG,e]
theorem free_eq(ok:ay p q ts){P:List Int}(hP:∀x∈P,x∈nms ts)(hl:P.length<=15):gX [Ov p q ts,.rl (P.map .int)]=.ok (true,.bl (decide ((b7 p q ts P:Int)=(P.length:Int)))):=by
 have e:=yU ok hP hl;unfold gX f9;simp only[EV,Bg (p:=p) (q:=q) (ts:=ts) (m:="rank") (j:=23) (by decide),jG,e,length_map]
def xS(p q:Int)(ts:List T3)(P:List Int):List Int:=(nms ts).filter λx=>decide (x∈P)||decide (b7 p q ts (P++[x])=b7 p q ts P)
theorem TM{P:List Int}{x:Int}(hn:P.Nodup)(hx:x∉P):(P++[x]).Nodup:=by
 rw[aa5];exact⟨hn,by simp,λa ha b hb e=>hx (by rw[aaF]at hb;rw[<-hb,<-e];exact ha)⟩
theorem nG(ok:ay p q ts){P:List Int}(hn:P.Nodup)(hP:∀x∈P,x∈nms ts):cQ [Ov p q ts,.rl (P.map .int)]=.ok (true,.rl ((xS p q ts P).map .int)):=by
 have hl:=sub_len ok hn hP;have e:=yU ok hP hl;have e1:=Oj (DW (c:=0) (by decide) ok) ok.len;have hc:(nms ts).length<=100000:=by have:=yT ok;omega
 have mr:=Bg (p:=p) (q:=q) (ts:=ts) (m:="rank") (j:=23) (by decide);have mt:=Bg (p:=p) (q:=q) (ts:=ts) (m:="ties") (j:=25) (by decide);unfold cQ fc;simp only[EV,mr,e,mt,kT,dU,e1,cV,di,length_map,hc];rw[cE Val.int Val.int (λx=>decide (x∈P)||decide (b7 p q ts (P++[x])=b7 p q ts P)) (nms ts) (λx hx=>by
  have z1:1<=sizeLine:=by decide
  have z:(P.map Val.int).length+([.int x]:List Val).length<=sizeLine:=by rw[aak];simp;unfold sizeLine;omega
  have em:P.map Val.int++[.int x]=(P++[x]).map .int:=by rw[aaU];rfl
  simp only[EV,aH,jM]
  by_cases c:x∈P
  ·simp[c]
  ·have e2:=yU ok (P:=P++[x]) (qo hP hx) (sub_len ok (TM hn c) (qo hP hx))
   simp only[EV,c,decide_false,z1,rA z,em,mr,dU,e2];have hm:=(vh ok (Q:=P++[x]) hP hx λy=>by simp).1
   by_cases d:b7 p q ts (P++[x])=b7 p q ts P
   ·simp[d]
   ·have:¬ (b7 p q ts (P++[x]):Int)<=b7 p q ts P:=by omega
    simp[d];omega)]
 simp only[EV,aT];rfl
theorem tD(ok:ay p q ts):gF [.str "linker",aq p q ts]=.ok (true,Ov p q ts):=by
 have r1:nX [aq p q ts]=.ok (true,Ov p q ts):=K3 oU nt ok;have d1:cop [] .eq (.str "linker") (.str "linker")=some true:=by decide +kernel
 unfold gF jq;simp only[EV,d1,oV,r1]
end
end K51
end
section
open PySem L2 Hv
namespace K51
def dz(P:List Int)(x:Int):List Int:=P.filter λy=>!decide (y=x)
theorem Lh{P:List Int}{x:Int}(h:P.length<=1000):bW Ψ 2 #[.ret (.comp N [none,some 1] (.one 0) .seq #[!0] (.cmp .ne (!0) (!1)) (!0))] [.rl (P.map .int),.int x]=.ok (true,.rl ((dz P x).map .int)):=by
 have hc:P.length<=100000:=by omega
 simp only[EV,cV,di,length_map,hc];rw[cE Val.int Val.int (λy=>!decide (y=x)) P (λy hy=>by
  by_cases c:y=x<;>simp only[EV,aH,c,ne_eq,not_true,not_false_eq_true,decide_true,decide_false,Bool.not_true,Bool.not_false])]
 simp only[EV,aT];rfl
theorem o7{P:List Int}{x:Int}(h:P.length<=1000):iT [.rl (P.map .int),.int x]=.ok (true,.rl ((dz P x).map .int)):=Lh h
theorem lM{P:List Int}{x:Int}(h:P.length<=1000):qg [.rl (P.map .int),.int x]=.ok (true,.rl ((dz P x).map .int)):=Lh h
section
variable {p q:Int} {ts:List T3}
theorem xT(h:ts.length<=14):kJ [aq p q ts]=.ok (true,.rl ((ts.map (·.1)).map .int)):=by
 rw[show (ts.map (·.1)).map Val.int=ts.map nameV by rw[aaV];rfl];exact Ph h
theorem qu(ok:ay p q ts){P:List Int}(hP:∀x∈P,x∈nms ts):∃f,kN [aq p q ts,.str "linker",.rl (P.map .int)]=.ok (f,.int (b7 p q ts P)):=by
 obtain⟨f,e⟩:=Lg ok hP;have d1:cop [] .eq (.str "linker") (.str "linker")=some true:=by decide +kernel
 refine⟨f,?_⟩;unfold kN kG;simp only[EV,d1,qj,e]
theorem Li:ju=#[.asg (.one 3) (.call 37 #[!0,!1,!2]),.asg (.one 4) (.lst .nil),rF,.ret (!4)]:=rfl
def rE(p q:Int)(ts:List T3)(P:List Int)(r:Int)(F:List Int)(a:Option (Mk×Val)):aU:=[some (.sh,aq p q ts),some (.sh,.str "linker"),some (.sh,.rl (P.map .int)),some (.sh,.int r),some (.ow,.rl (F.map .int)),a]
theorem FU(ok:ay p q ts){P:List Int}(hn:P.Nodup)(hP:∀x∈P,x∈nms ts):∃f,iU [aq p q ts,.str "linker",.rl (P.map .int)]=.ok (f,.rl ((xS p q ts P).map .int)):=by
 obtain⟨f1,e1⟩:=qu ok hP;have hl:=sub_len ok hn hP;have z1:1<=sizeLine:=by decide
 have z0:0<=sizeLine:=by decide
 unfold iU;rw[Li];show ∃f,pb (aD (af vU) [4] _ [some (.sh,aq p q ts),some (.sh,.str "linker"),some (.sh,.rl (P.map .int)),none,none,none]) _=_;rw[au (env':=[some (.sh,aq p q ts),some (.sh,.str "linker"),some (.sh,.rl (P.map .int)),some (.sh,.int (b7 p q ts P)),none,none]) (by simp only[EV,jT,e1])];rw[au (env':=rE p q ts P (b7 p q ts P) [] none) (by unfold rE;simp only[EV,z0];try rfl)];have zn:([.int (-1)]:List Val).length+((ts.map (·.1)).map Val.int).length<=sizeLine:=by have:=ok.len;rw[aak,aak];simp;unfold sizeLine;omega
 have eb:eG (af vU) #[.bin .add (.lst #[.neg (¬1)]) (.call 5 #[!0])] (rE p q ts P (b7 p q ts P) [] none)=.ok [.rl ((nms ts).map .int)]:=by unfold rE;simp only[EV,z1,oY,xT ok.len,rA zn];rfl
 obtain⟨env',e2,a,rfl⟩:=iN Val.int (body:=λx env=>pb (pl (cF (.one 5) x env)) λenv'=>aD (af vU) [4] rB env')
  (λpre env=>∃a,env=rE p q ts P (b7 p q ts P) (pre.filter λx=>decide (x∈P)||decide (b7 p q ts (P++[x])=b7 p q ts P)) a) (nms ts) (rE p q ts P (b7 p q ts P) [] none) ⟨none,rfl⟩ (λpre x post env hx hq=>by
   obtain⟨a,rfl⟩:=hq;have hxm:x∈nms ts:=by rw[hx];simp
   have hpl:pre.length<=15:=by have:=yT ok;rw[hx,aaI]at this;omega
   refine⟨_,?_,some (.sh,.int x),rfl⟩;have hfl:=List.length_filter_le (λx=>decide (x∈P)||decide (b7 p q ts (P++[x])=b7 p q ts P)) pre;rw[filter_append];generalize pre.filter (λx=>decide (x∈P)||decide (b7 p q ts (P++[x])=b7 p q ts P))=F at *;have zF:(F.map Val.int).length<sizeLine:=by rw[aak];unfold sizeLine;omega
   have ap:F.map Val.int++[.int x]=(F++[x]).map .int:=by rw[aaU];rfl
   have z:(P.map Val.int).length+([.int x]:List Val).length<=sizeLine:=by rw[aak];simp;unfold sizeLine;omega
   have em:P.map Val.int++[.int x]=(P++[x]).map .int:=by rw[aaU];rfl
   obtain⟨f3,e3⟩:=qu ok (P:=P++[x]) (qo hP hxm);rw[aH,bS,aT];have ec:IG (af vU) (.or (.cmp .lX (!5) (!2)) (.cmp .eq (.call 37 #[!0,!1,.bin .add (!2) (.lst #[!5])]) (!3))) (rE p q ts P (b7 p q ts P) F (some (.sh,.int x)))=.ok (true,.bl (decide (x∈P)||decide (b7 p q ts (P++[x])=b7 p q ts P))):=by
    unfold rE
    by_cases c:x∈P
    ·simp only[EV,jM,c,decide_true,Bool.true_or]
    ·simp only[EV,jM,c,decide_false,Bool.false_or,z1,rA z,em,jT,e3];simp;omega
   change aD (af vU) [4] rB (rE p q ts P (b7 p q ts P) F (some (.sh,.int x)))=_;unfold rB
   by_cases c:(decide (x∈P)||decide (b7 p q ts (P++[x])=b7 p q ts P))=true
   ·rw[au ((lG ec).trans (show _=Pr.ok (yv.nx (rE p q ts P (b7 p q ts P) (F++[x]) (some (.sh,.int x)))) from by
     rw[aar c,au (env':=rE p q ts P (b7 p q ts P) (F++[x]) (some (.sh,.int x))) (by unfold rE;simp only[EV,zF,ap]),aD])),aD,abd (by exact c)];rfl
   ·rw[au ((lG ec).trans (show _=Pr.ok (yv.nx (rE p q ts P (b7 p q ts P) F (some (.sh,.int x)))) from by rw[aas c,aD])),aD,abe (by exact c),List.filter_nil,aa1])
 rw[au (s:=rF) ((xO rfl eb).trans e2)];refine⟨true,?_⟩;unfold rE;simp only[EV,nC];rfl
end
end K51
end
section
open PySem L2 Hv
namespace K51
structure Lj (n:Nat) (pl nm:Int->Int) (f:Nat->Nat->Int) (p q:Int) (ts:List T3):Prop where
 ok:ay p q ts
 n1:1<=n/\n<=7
 inj:∀a b:Int,0<=a/\a<15->0<=b/\b<15->pl a=pl b->a=b
 nin:∀a b:Int,0<=a/\a<15->0<=b/\b<15->nm a=nm b->a=b
 par:∀j u,0<=f j u/\f j u<1+(u:Int)
 tie:∀j u,j<2->u<n->∃t∈ts,t.1=nm ((j*n+u:Nat):Int)/\K9 (t.2.1,t.2.2) (pl (1+(u:Int))) (pl (f j u))
 all:∀t∈ts,∃a b:Int,(0<=a/\a<=n)/\(0<=b/\b<=n)/\t.2.1=pl a/\t.2.2=pl b
 pol:∃a b:Int,(0<=a/\a<=n)/\(0<=b/\b<=n)/\p=pl a/\q=pl b
def lN(n:Nat)(nm:Int->Int)(j:Nat):List Int:=(List.range n).map λu:Nat=>nm ((j*n+u:Nat):Int)
section
variable {n:Nat} {pl nm:Int->Int} {f:Nat->Nat->Int} {p q:Int} {ts:List T3} (h:Lj n pl nm f p q ts) {j:Nat} (hj:j<2)
include h
theorem Lj.ends{x:Int}(hx:x∈nms ts):∃a b:Int,(0<=a/\a<=n)/\(0<=b/\b<=n)/\gi p q ts x=(pl a,pl b):=by
 rcases aaz.mp hx with rfl|hx
 ·obtain⟨a,b,h1,h2,h3,h4⟩:=h.pol;exact⟨a,b,h1,h2,by rw[lH h.ok,<-h3,<-h4]⟩
 ·obtain⟨t,ht,rfl⟩:=aaA.mp hx;obtain⟨a,b,h1,h2,h3,h4⟩:=h.all t ht;exact⟨a,b,h1,h2,by rw[jB h.ok ht,h3,h4]⟩
include hj
theorem Lj.at_{u:Nat}(hu:u<n):nm ((j*n+u:Nat):Int)∈nms ts/\K9 (gi p q ts (nm ((j*n+u:Nat):Int))) (pl (1+(u:Int))) (pl (f j u)):=by
 obtain⟨t,ht,e,s⟩:=h.tie j u hj hu;rw[<-e];exact⟨aal _ (aaC ht),by rw[jB h.ok ht];exact s⟩
theorem Lj.Lk:∀x∈lN n nm j,x∈nms ts:=λx hx=>by
 obtain⟨u,hu,rfl⟩:=aaA.mp hx;exact(h.at_ hj (abl.mp hu)).1
theorem Lj.down:∀k:Nat,k<=n->Way ((lN n nm j).map (gi p q ts)) (pl (k:Int)) (pl 0):=by
 intro k
 induction k using Nat.strongRecOn with
 |_ k ih=>
  intro hk;cases k with
  |zero=>exact .refl _
  |succ u=>
   have hu:u<n:=by omega
   have s:=(h.at_ hj hu).2;obtain⟨b1,b2⟩:=h.par j u;have w:=ih (f j u).toNat (by omega) (by omega);rw[show (((f j u).toNat:Nat):Int)=f j u by omega]at w;rw[show ((u+1:Nat):Int)=1+(u:Int) by omega];exact(s.way (aaC (aaA.mpr ⟨u,abl.mpr hu,rfl⟩))).trans w
theorem Lj.wy{x:Int}(hx:x∈nms ts):Wy p q ts (lN n nm j) x:=by
 obtain⟨a,b,ha,hb,e⟩:=h.ends hx;unfold Wy;rw[e];have w1:=h.down hj a.toNat (by omega);have w2:=h.down hj b.toNat (by omega);rw[show ((a.toNat:Nat):Int)=a by omega]at w1;rw[show ((b.toNat:Nat):Int)=b by omega]at w2;exact w1.trans w2.symm
theorem Lj.free:b7 p q ts (lN n nm j)=n:=by
 have e:=vj h.ok (lN n nm j) [] (λ_ z=>nomatch z) (h.Lk hj) (λpre x post hx w=>by
  have hpl:∃u:Nat,u<n/\pre.length=u/\x=nm ((j*n+u:Nat):Int)/\pre=(List.range u).map λu:Nat=>nm ((j*n+u:Nat):Int):=by
   have hl:=aa2 length hx;unfold lN at hl hx;rw[aak,abj,aaI,aaH]at hl;refine⟨pre.length,by omega,rfl,?_,?_⟩
   ·have:=aa2 (·[pre.length]?) hx;simp only[List.getElem?_map,List.getElem?_append_right (Nat.le_refl _),Nat.sub_self,List.getElem?_cons_zero]at this;rw[getElem?_range (by omega)]at this;exact(aaQ this).symm
   ·have:=aa2 (List.take pre.length) hx;rw[List.take_left',<-map_take,List.take_range,Nat.min_eq_left (by omega)]at this;exact this.symm;rfl
  obtain⟨u,hu,_,rfl,rfl⟩:=hpl;obtain⟨_,s⟩:=h.at_ hj hu;obtain⟨b1,b2⟩:=h.par j u;have hn:=h.n1;have c:=Way.const (λz=>decide (z=pl (1+(u:Int)))) (λe he=>by
   rw[aby]at he;obtain⟨y,hy,rfl⟩:=aaA.mp he;obtain⟨v,hv,rfl⟩:=aaA.mp hy;have hv:=abl.mp hv;obtain⟨_,s'⟩:=h.at_ hj (show v<n by omega);obtain⟨d1,d2⟩:=h.par j v;have n1:¬ pl (1+(v:Int))=pl (1+(u:Int)):=λz=>by have:=h.inj _ _ (by omega) (by omega) z;omega
   have n2:¬ pl (f j v)=pl (1+(u:Int)):=λz=>by have:=h.inj _ _ (by omega) (by omega) z;omega
   rcases s' with s'|s'<;>rw[s']<;>simp[n1,n2]) w
  have n3:¬ pl (f j u)=pl (1+(u:Int)):=λz=>by have:=h.inj _ _ (by omega) (by omega) z;omega
  rcases s with s|s<;>rw[s]at c<;>simp[n3]at c)
 rw[aby,lJ]at e;rw[e];unfold lN;simp
end
end K51
end
section
open PySem L2 Hv
namespace K51
theorem Ll(ns:List Int):2<=manyN ns/\manyN ns<=8:=by unfold manyN;omega
theorem TN{ns:List Int}{j u:Nat}(hj:j<2)(hu:u<(manyN ns-1).toNat):(AY ns es)[j*(manyN ns-1).toNat+u]?=some (1+(u:Int),par ns j u):=by
 unfold AY;have l0:=ql (ns:=ns) (manyN ns-1).toNat 0;have l1:=ql (ns:=ns) (manyN ns-1).toNat 1;have g:∀i,(sZ ns (manyN ns-1).toNat i)[u]?=some (1+(u:Int),par ns i u):=λi=>by
  unfold sZ;rw[aaJ,getElem?_range hu];rfl
 have:j=0\/j=1:=by omega
 rcases this with rfl|rfl
 ·rw[Nat.zero_mul,Nat.zero_add,aax (by rw[aaI];omega),aax (by omega)];exact g 0
 ·rw[Nat.one_mul,aax (by rw[aaI];omega),aaO (by omega),l0,Nat.add_sub_cancel_left];exact g 1
theorem TQ(ns:List Int):∃p q ts,nV [.rl (ns.map .int),.int 1,.int 14]=.ok (true,aq p q ts)/\Lj (manyN ns-1).toNat (rj ns) (ve ns) (par ns) p q ts:=by
 obtain⟨es,h1,h2,h3,h4⟩:=Tp ns;have hm:=Ll ns;refine⟨_,_,_,h3,h4,by omega,λa b ha hb e=>vd _ _ a b (by omega) (by omega) e,λa b ha hb e=>vd _ _ a b (by omega) (by omega) e,λj u=>?_,λj u hj hu=>?_,λt ht=>?_,?_⟩
 ·unfold par;exact⟨emod_nonneg _ (by omega),abK _ (by omega)⟩
 ·have hx:=TN (es:=es) hj hu
  refine⟨rq (ve ns) (rj ns) ((1+(u:Int),par ns j u),j*(manyN ns-1).toNat+u),(fz _).mem_iff.mpr (aaC (List.mem_zipIdx_iff_getElem?.mpr hx)),?_,?_⟩
  ·show ve ns (0+_)=_;rw[Int.zero_add]
  ·unfold rq K9
   dsimp only
   by_cases c:rj ns (par ns j u)<rj ns (1+(u:Int))
   ·rw[aar c,aas (by omega)];exact .inr rfl
   ·by_cases d:rj ns (par ns j u)>rj ns (1+(u:Int))
    ·rw[aas c,aar d];exact .inl rfl
    ·rw[aas c,aas d,show rj ns (par ns j u)=rj ns (1+(u:Int)) by omega];exact .inl rfl
 ·obtain⟨⟨e,i⟩,he,rfl⟩:=aaA.mp ((fz _).mem_iff.mp ht)
  have hin:e∈AY ns es:=aaM (List.mem_zipIdx_iff_getElem?.mp he);have hb:(0<=e.1/\e.1<manyN ns)/\0<=e.2/\e.2<manyN ns:=by
   unfold AY at hin
   rcases aaT.mp hin with hin|hin
   ·rcases aaT.mp hin with hin|hin
    ·exact yR hm.1 0 e hin
    ·exact yR hm.1 1 e hin
   ·exact h1 e hin
  unfold rq;dsimp only;have mk:∀(c:Prop) [Decidable c] (x y:Int),(0<=x/\x<manyN ns)->(0<=y/\y<manyN ns)->∃a:Int,(0<=a/\a<=((manyN ns-1).toNat:Nat))/\(if c then rj ns x else rj ns y)=rj ns a:=λc _ x y hx hy=>by
   by_cases z:c
   ·exact⟨x,by omega,aar z⟩
   ·exact⟨y,by omega,aas z⟩
  obtain⟨a,a1,a2⟩:=mk (rj ns e.2<rj ns e.1) e.2 e.1 hb.2 hb.1;obtain⟨b,b1,b2⟩:=mk (rj ns e.2>rj ns e.1) e.2 e.1 hb.2 hb.1;exact⟨a,b,a1,b1,a2,b2⟩
 ·have hq:∃c:Int,(0<=c/\c<=((manyN ns-1).toNat:Nat))/\vf ns=rj ns c:=by
   unfold vf
   split
   ·exact⟨0,by omega,rfl⟩
   ·exact⟨1,by omega,rfl⟩
  obtain⟨c,hc,ec⟩:=hq;rw[ec]
  rcases Int.le_total (rj ns 0) (rj ns c) with z|z
  ·exact⟨0,c,by omega,hc,by omega,by omega⟩
  ·exact⟨c,0,hc,by omega,by omega,by omega⟩
end K51
end
section
open PySem L2 Hv
namespace K51
theorem D8{n k:Nat}(g:Int->Int)(h:k+n<=15):dX ((List.range 15).map λi:Nat=>g (0+(i:Int))) (some (k:Int)) (some ((k+n:Nat):Int))=(List.range n).map λu:Nat=>g ((k+u:Nat):Int):=by
 unfold dX;rw[HT.sN,HT.sN,aak,abj,Nat.min_eq_left (by omega),Nat.min_eq_left (by omega),Nat.add_sub_cancel_left];apply List.ext_getElem?;intro i;rw[List.getElem?_take,List.getElem?_drop,aaJ,aaJ]
 by_cases c:i<n
 ·rw[aar c,getElem?_range (by omega),getElem?_range c];show some (g (0+((k+i:Nat):Int)))=some (g ((k+i:Nat):Int));rw[Int.zero_add]
 ·rw[aas c,List.getElem?_eq_none (by rw[abj];omega)];rfl
theorem Lm{n:Nat}(g:Int->Int)(h:n<=15):dX ((List.range 15).map λi:Nat=>g (0+(i:Int))) none (some (n:Int))=(List.range n).map λu:Nat=>g ((0+u:Nat):Int):=by
 have:=D8 (n:=n) (k:=0) g (by omega);rw[Nat.zero_add]at this;exact this
theorem Lo{l:List Int}(h:l.length<64):gQ .sorted [.rl (l.map .int)]=.ok (true,.rl ((sortI l).map .int)):=by
 show pb (pl (gO (l.map .int))) _=_;unfold gO;rw[aar (by rw[aak];exact h),iV];rfl
theorem Ct(ns:List Int):fJ [.rl (ns.map .int),.int 14]=.ok (true,.tup [.rl ((sortI (lN (manyN ns-1).toNat (ve ns) 0)).map .int),.rl ((sortI (lN (manyN ns-1).toNat (ve ns) 1)).map .int)]):=by
 have c0:bD [.rl (ns.map .int),.int 0]=.ok (true,.int (cellAt ns 0)):=gh ns 0;have c3:bD [.rl (ns.map .int),.int 3]=.ok (true,.int (cellAt ns 3)):=gh ns 3;have c4:bD [.rl (ns.map .int),.int 4]=.ok (true,.int (cellAt ns 4)):=gh ns 4;obtain⟨f2,n2⟩:=o5 (cellAt ns 3) (cellAt ns 4);have hm:=Ll ns;have eL:dW (cellAt ns 3) (cellAt ns 4)=((List.range 15).map λi:Nat=>ve ns (0+(i:Int))).map .int:=by unfold dW ve;rw[aaV];rfl
 rw[eL]at n2;have em:2+cellAt ns 0/4%7=manyN ns:=rfl;have k7:(14:Int)/2=7:=rfl;have ml:lO 2 (manyN ns)=true:=oZ _ _ (by omega);have z2:2<=sizeLine:=by decide
 have s0:dX ((List.range 15).map λi:Nat=>ve ns (0+(i:Int))) none (some (manyN ns-1))=lN (manyN ns-1).toNat (ve ns) 0:=by have:=Lm (n:=(manyN ns-1).toNat) (ve ns) (by omega);rw[show (((manyN ns-1).toNat:Nat):Int)=manyN ns-1 by omega]at this;rw[this];unfold lN;rw[Nat.zero_mul]
 have s1:dX ((List.range 15).map λi:Nat=>ve ns (0+(i:Int))) (some (manyN ns-1)) (some (2*manyN ns-2))=lN (manyN ns-1).toNat (ve ns) 1:=by have:=D8 (n:=(manyN ns-1).toNat) (k:=(manyN ns-1).toNat) (ve ns) (by omega);rw[show (((manyN ns-1).toNat+(manyN ns-1).toNat:Nat):Int)=2*manyN ns-2 by omega,show (((manyN ns-1).toNat:Nat):Int)=manyN ns-1 by omega]at this;rw[this];unfold lN;rw[Nat.one_mul]
 have l0:∀j,(lN (manyN ns-1).toNat (ve ns) j).length<64:=λj=>by unfold lN;rw[aak,abj];omega
 have rm:qv (eF f2 (.rl (((List.range 15).map λi:Nat=>ve ns (0+(i:Int))).map .int)))=true:=uL;unfold fJ fW;simp only[EV,n8,lD,c0,c3,c4,n2,fy (show ja 4=true by decide),fy (show ja 2=true by decide),k7,gr (show decide ((0:Int)<7)=true by decide),em,xh ml,Dw,pW,s0,s1,Lo (l0 _),z2,rm]
end K51
end
section
open PySem L2 Hv
namespace K51
theorem D9:∀(ns ks:List Int),(ks++ns).Nodup->cH ks ns=ks++ns
 |[],ks,_=>by rw[cH,aa1]
 | a::r,ks,h=>by
  have ha:a∉ks:=λz=>(aa5.mp h).2.2 a z a aam rfl;rw[cH,show ic ks a=ks++[a] by unfold ic;simp[ha],D9 r (ks++[a]) (by simpa using h)];simp
theorem Bh:∀l m:List Int,PyData.eqvAll (l.map .int) (m.map .int)=decide (l=m)
 |[],[]=>rfl
 |[],_::_=>rfl
 |_::_,[]=>rfl
 | a::l,b::m=>by
  rw[aau,aau,PyData.eqvAll,Bh l m,PyData.eqv,Bool.eq_iff_iff];simp
theorem XY(l m:List Int):cop [] .eq (.rl (l.map .int)) (.rl (m.map .int))=some (decide (l=m)):=by
 have h:=λl=>uM (n:=15) (h:=[]) Val.int PyData.int l λ_ _=>rfl;rw[<-Bh];simp only[cop,zK,h,bind_some];rfl
theorem Ea(l:List Int):cop [] .eq (.rl (l.map .int)) (.rl (l.map .int))=some true:=by rw[XY,decide_eq_true rfl]
structure Row (ts:List T3) (R:List Int):Prop where
 srt:sortI R=R
 nd:R.Nodup
 lX:∀x∈R,x∈ts.map (·.1)
section
variable {p q:Int} {ts:List T3} {R:List Int}
theorem Row.len(ok:ay p q ts)(h:Row ts R):R.length<=14:=by
 have:=b8 h.nd h.lX;rw[aak]at this;have:=ok.len;omega
theorem Bj(ok:ay p q ts)(h:Row ts R):nh [aq p q ts,.rl (R.map .int)]=.ok (true,.bl true):=by
 have hl:=h.len ok;have hc:R.length<=100000:=by omega
 have h6:R.length<64:=by omega
 have en:ts.map nameV=(ts.map (·.1)).map Val.int:=by rw[aaV];rfl
 unfold nh kE;simp only[EV,oW,Bb (p:=p) (q:=q) ok.len,iV,h6,D9 R [] (by simpa using h.nd),nil_append,h.srt,Ea,cV,di,length_map,hc];rw[cD Val.int (λ_=>.bl true) R (λx hx=>by
  have hm:=h.lX x hx;simp only[EV,aH,en,jM,hm,decide_true])]
 simp only[EV,aT];have eb:gQ .all [.rl (R.map λ_=>Val.bl true)]=.ok (true,.bl true):=by show pb (pl (bZ _)) _=_;rw[show bZ (R.map λ_=>Val.bl true)=some (R.map λ_=>true) from eY R λ_ _=>rfl];show Pr.ok (true,Val.bl ((R.map λ_=>true).all id))=_;rw[show (R.map λ_=>true).all id=true by simp]
 rw[eb];rfl
end
end K51
end
section
open PySem L2 Hv
namespace K51
section
variable {p q:Int} {ts:List T3} {R:List Int}
theorem Row.j9(h:Row ts R):∀x∈R,x∈nms ts:=λx hx=>aal _ (h.lX x hx)
theorem Eb(ok:ay p q ts)(hR:∀x∈R,x∈nms ts)(w:∀x∈nms ts,Wy p q ts R x):xS p q ts R=nms ts:=by
 unfold xS;refine List.filter_eq_self.mpr λx hx=>?_;rw[or_eq_true,abc,abc];exact .inr ((r9 ok (Q:=R++[x]) hR hx gY).mp (w x hx))
structure tE (p q:Int) (ts:List T3) (A B:List Int):Prop where
 ra:Row ts A
 rb:Row ts B
 dj:∀x∈A,x∉B
 fa:b7 p q ts A=A.length
 fb:b7 p q ts B=B.length
 wa:∀x∈nms ts,Wy p q ts A x
 wb:∀x∈nms ts,Wy p q ts B x
variable {A B:List Int}
theorem rD(ok:ay p q ts)(h:tE p q ts A B):ni [aq p q ts,.str "linker",.tup [.rl (A.map .int),.rl (B.map .int)]]=.ok (true,.bl true):=by
 have la:=h.ra.len ok;have lb:=h.rb.len ok;have hc:A.length<=100000:=by omega
 have ia:=Bj ok h.ra;have ib:=Bj ok h.rb;have mf:=Bg (p:=p) (q:=q) (ts:=ts) (m:="free") (j:=30) (by decide);have mr:=Bg (p:=p) (q:=q) (ts:=ts) (m:="reach") (j:=26) (by decide);have ea:=free_eq ok h.ra.j9 (by omega);have eb:=free_eq ok h.rb.j9 (by omega);have ga:=nG ok h.ra.nd h.ra.j9;have gb:=nG ok h.rb.nd h.rb.j9;rw[Eb ok h.ra.j9 h.wa]at ga;rw[Eb ok h.rb.j9 h.wb]at gb;rw[h.fa,decide_eq_true rfl]at ea;rw[h.fb,decide_eq_true rfl]at eb;have hm:(-1:Int)∈nms ts:=aam;have ec:gQ .any [.rl (A.map λ_=>Val.bl false)]=.ok (true,.bl false):=by show pb (pl (bZ _)) _=_;rw[show bZ (A.map λ_=>Val.bl false)=some (A.map λ_=>false) from eY A λ_ _=>rfl];show Pr.ok (true,Val.bl ((A.map λ_=>false).any id))=_;rw[show (A.map λ_=>false).any id=false by simp]
 unfold ni kF;simp only[EV,bO j5,bO jE,qU,ia,ib,cV,di,length_map,hc];rw[cD Val.int (λ_=>.bl false) A (λx hx=>by
  have hn:=h.dj x hx;simp only[EV,aH,jM,hn,decide_false])]
 simp only[EV,ec,qi,tD ok,mf,mr,n9,nu,ea,eb,ga,gb,jM,hm,decide_true,Ea]
end
end K51
end
section
open PySem L2 Hv
namespace K51
section
variable {n:Nat} {pl nm:Int->Int} {f:Nat->Nat->Int} {p q:Int} {ts:List T3} (h:Lj n pl nm f p q ts)
abbrev rG(n:Nat)(nm:Int->Int)(j:Nat):List Int:=sortI (lN n nm j)
theorem Lp{j:Nat}{x:Int}:x∈rG n nm j↔x∈lN n nm j:=(abo _).mem_iff
theorem XZ{j:Nat}:(rG n nm j).length=n:=by rw[(abo _).length_eq];unfold lN;simp
include h
theorem Lj.row{j:Nat}(hj:j<2):Row ts (rG n nm j):=by
 have hn:=h.n1;refine⟨(eq_sortI (List.Perm.refl _) (sortI_rises _)).symm,?_,λx hx=>?_⟩
 ·rw[(abo _).nodup_iff];unfold lN List.Nodup;rw[abv];refine(List.nodup_range (n:=n)).imp_of_mem λ{a b} ha hb ne e=>ne ?_;have ha:=abl.mp ha;have hb:=abl.mp hb;have hjn:j*n<=7:=aaN (Nat.mul_le_mul (show j<=1 by omega) (aaw n)) (by omega);have:=h.nin _ _ (by omega) (by omega) e;omega
 ·obtain⟨u,hu,rfl⟩:=aaA.mp (Lp.mp hx);obtain⟨t,ht,e,_⟩:=h.tie j u hj (abl.mp hu);rw[<-e];exact aaC ht
theorem Lj.pap:tE p q ts (rG n nm 0) (rG n nm 1):=by
 have hn:=h.n1;have wy:∀j,j<2->∀x∈nms ts,Wy p q ts (rG n nm j) x:=λj hj x hx=>(h.wy hj hx).mono λy hy=>Lp.mpr hy;have fr:∀j,j<2->b7 p q ts (rG n nm j)=(rG n nm j).length:=λj hj=>by
  rw[XZ];exact((Le h.ok (h.Lk hj) λy=>Lp.symm).symm).trans (h.free hj)
 refine⟨h.row (by decide),h.row (by decide),λx hx hy=>?_,fr 0 (by decide),fr 1 (by decide),wy 0 (by decide),wy 1 (by decide)⟩;obtain⟨u,hu,rfl⟩:=aaA.mp (Lp.mp hx);obtain⟨v,hv,e⟩:=aaA.mp (Lp.mp hy);have hu:=abl.mp hu;have hv:=abl.mp hv;have:=h.nin _ _ (by omega) (by omega) e;omega
end
end K51
end
section
open PySem L2 Hv
namespace K51
theorem Way.into(hs:∀e∈es,Way fs e.1 e.2){a b:Int}(h:Way es a b):Way fs a b:=by
 induction h with
 |refl=>exact .refl _
 |fwd _ m ih=>exact ih.trans (hs _ m)
 |bwd _ m ih=>exact ih.trans (hs _ m).symm
theorem gJ{P:List Int}{x y:Int}:y∈dz P x↔y∈P/\y≠x:=by unfold dz;rw[aa0];simp
theorem vo{P:List Int}{x:Int}(h:x∉P):dz P x=P:=List.filter_eq_self.mpr λy hy=>by
 have:y≠x:=λe=>h (e▸hy);simp[this]
theorem yV{P:List Int}{x:Int}:(dz P x).length<=P.length:=List.length_filter_le ..
theorem TR{P:List Int}{x:Int}(h:x∈P):(dz P x).length<P.length:=List.length_filter_lt_length_iff_exists.mpr ⟨x,h,by simp⟩
section
variable {p q:Int} {ts:List T3}
theorem Wy.into{P Q:List Int}(h:∀y∈P,Wy p q ts Q y){x:Int}(w:Wy p q ts P x):Wy p q ts Q x :=
 Way.into (λe he=>by obtain⟨y,hy,rfl⟩:=aaA.mp he;exact h y hy) w
theorem Cu{P:List Int}{x:Int}(hx:x∈P):Wy p q ts P x:=.fwd (.refl _) (aaC hx)
theorem Ow(ok:ay p q ts){P:List Int}(hP:∀x∈P,x∈nms ts){y:Int}(hy:y∈nms ts):(decide (y∈P)||decide (b7 p q ts (P++[y])=b7 p q ts P))=true↔Wy p q ts P y:=by
 rw[or_eq_true,abc,abc,<-r9 ok (Q:=P++[y]) hP hy gY];exact⟨λh=>h.elim Cu id,.inr⟩
theorem yW(ok:ay p q ts){P:List Int}(hP:∀x∈P,x∈nms ts){y:Int}:y∈xS p q ts P↔y∈nms ts/\Wy p q ts P y:=by
 unfold xS;rw[aa0];exact⟨λh=>⟨h.1,(Ow ok hP h.1).mp h.2⟩,λh=>⟨h.1,(Ow ok hP h.1).mpr h.2⟩⟩
theorem iC{P:List Int}{x:Int}(hP:∀x∈P,x∈nms ts):∀y∈dz P x,y∈nms ts:=λy hy=>hP y (gJ.mp hy).1
theorem yX{P:List Int}{x:Int}(hx:x∈P)(y:Int):y∈P↔y∈dz P x\/y=x:=by
 rw[gJ];constructor
 ·intro h
  by_cases e:y=x
  ·exact .inr e
  ·exact .inl ⟨h,e⟩
 ·rintro(h|rfl)
  ·exact h.1
  ·exact hx
theorem FW(ok:ay p q ts){B:List Int}(hB:∀x∈B,x∈nms ts){x:Int}(hx:x∈B):xS p q ts (dz B x)=xS p q ts B↔b7 p q ts (dz B x)=b7 p q ts B:=by
 have hy:=r9 ok (P:=dz B x) (Q:=B) (iC hB) (hB x hx) (yX hx);constructor
 ·intro e
  have:x∈xS p q ts (dz B x):=by rw[e];exact(yW ok hB).mpr ⟨hB x hx,Cu hx⟩
  exact(hy.mp ((yW ok (iC hB)).mp this).2).symm
 ·intro e
  have w:=hy.mpr e.symm;unfold xS;refine List.filter_congr λy hyn=>?_;rw[Bool.eq_iff_iff,Ow ok (iC hB) hyn,Ow ok hB hyn];refine⟨λh=>h.mono λz hz=>(gJ.mp hz).1,λh=>h.into λz hz=>?_⟩
  rcases(yX hx z).mp hz with h|rfl
  ·exact Cu h
  ·exact w
theorem Lq(ok:ay p q ts){B:List Int}(hn:B.Nodup)(hB:∀x∈B,x∈nms ts)(h:∀x∈B,b7 p q ts (dz B x)≠b7 p q ts B):b7 p q ts B=B.length:=by
 have e:=vj ok B [] (λ_ z=>nomatch z) hB (λpre x post hx w=>by
  have hm:x∈B:=by rw[hx];simp
  refine h x hm ((r9 ok (P:=dz B x) (Q:=B) (iC hB) (hB x hm) (yX hm)).mp (w.mono λy hy=>gJ.mpr ⟨?_,?_⟩)).symm
  ·rw[aby]at hy;rw[hx];exact aaX _ hy
  ·rintro rfl;rw[aby]at hy;rw[hx,aa5]at hn;exact hn.2.2 y hy y aam rfl)
 rw[aby,lJ]at e;omega
variable {A B:List Int} {t:T3}
theorem tE.swap(h:tE p q ts A B):tE p q ts B A:=⟨h.rb,h.ra,λx hb ha=>h.dj x ha hb,h.fb,h.fa,h.wb,h.wa⟩
theorem tE.need(ok:ay p q ts)(h:tE p q ts A B){x:Int}(hx:x∈A):¬ Wy p q ts (dz A x) x:=λw=>by
 have e:=(r9 ok (P:=dz A x) (Q:=A) (iC h.ra.j9) (h.ra.j9 x hx) (yX hx)).mp w;have h1:=Tz ok (P:=dz A x) (iC h.ra.j9);have h2:=TR hx;have:=h.fa;omega
theorem kc(ok:ay p q ts)(ht:t∈ts){P:List Int}(hP:∀x∈P,x∈nms ts)(hn:t.1∉P):∀x∈P,x∈vq ts t:=λx hx=>(lK ok ht).mpr ⟨hP x hx,λe=>hn (e▸hx)⟩
theorem tE.beyond(ok:ay p q ts)(h:tE p q ts A B)(ht:t∈ts)(hA:t.1∈A):∃x∈B,x∉xS p q (aV ts t) (dz A t.1):=by
 apply byContradiction;intro hc;have hl:∀x∈dz A t.1,x∈vq ts t:=kc ok ht (iC h.ra.j9) λz=>(gJ.mp z).2 rfl;have hb:∀x∈B,x∈vq ts t:=kc ok ht h.rb.j9 (h.dj _ hA);refine h.need ok hA ((h.wb t.1 (Lf ht)).into λx hx=>?_);have:x∈xS p q (aV ts t) (dz A t.1):=byContradiction λn=>hc ⟨x,hx,n⟩;exact(tB ok ht hl (hb x hx)).mp ((yW (gI ok) hl).mp this).2
theorem tE.gone(ok:ay p q ts)(h:tE p q ts A B)(ht:t∈ts)(ha:t.1∉A)(hb:t.1∉B):tE p q (aV ts t) A B:=by
 have ia:=kc ok ht h.ra.j9 ha;have ib:=kc ok ht h.rb.j9 hb;have rw:∀{R:List Int},Row ts R->t.1∉R->Row (aV ts t) R:=λr n=>⟨r.srt,r.nd,λx hx=>by
  obtain⟨u,hu,rfl⟩:=aaA.mp (r.lX x hx);exact aaC (jC.mpr ⟨hu,λe=>n (e▸hx)⟩)⟩
 exact⟨rw h.ra ha,rw h.rb hb,h.dj,by rw[vn ok ht A ia];exact h.fa,by rw[vn ok ht B ib];exact h.fb,
  λx hx=>(tB ok ht ia hx).mpr (h.wa x ((lK ok ht).mp hx).1),λx hx=>(tB ok ht ib hx).mpr (h.wb x ((lK ok ht).mp hx).1)⟩
theorem tE.Pj(ok:ay p q ts)(h:tE p q ts A B)(ht:t∈ts)(ha:t.1∈A):∃x∈B,b7 (fQ p q t).2.1 (fQ p q t).2.2 (gZ ts t) (dz B x)=b7 (fQ p q t).2.1 (fQ p q t).2.2 (gZ ts t) B:=by
 apply byContradiction;intro hc;have hb:∀x∈B,x∈vq ts t:=kc ok ht h.rb.j9 (h.dj _ ha);have e1:=Lq (jV ok) h.rb.nd (by rw[qq];exact hb) λx hx e=>hc ⟨x,hx,e⟩;have e2:=D7 ok ht B hb;have e3:=(r9 ok (Q:=B++[t.1]) h.rb.j9 (Lf ht) gY).mp (h.wb t.1 (Lf ht));have e4:=h.fb;have e5:b7 p q ts [t.1]=0:=by omega
 have w:Wy p q ts [] t.1:=(r9 ok (P:=[]) (Q:=[t.1]) (λ_ z=>nomatch z) (Lf ht) (λy=>by simp)).mpr (by rw[e5,lJ]);exact h.need ok ha (w.mono λy z=>by simp at z)
end
def mn:List Int->Int
 |[]=>0
 |a::r=>r.foldl min a
theorem yY{l:List Int}(h:l≠[]):gQ .min [.rl (l.map .int)]=.ok (true,.int (mn l)):=by
 have e:gQ .min [.rl (l.map .int)]=pb (pl (some (l.map Val.int))) λxs=>pb (pl ((aX xs).bind vJ)) λm=>.ok (true,m):=rfl;rw[e,bS,aT,iV];cases l with
 |nil=>exact(h rfl).elim
 |cons a r=>rfl
theorem fold_min:∀(r:List Int) (a:Int),r.foldl min a∈a::r
 |[],a=>aam
 | b::r,a=>by
  rw[foldl_cons]
  rcases aaz.mp (fold_min r (min a b)) with h|h
  ·rw[h]
   by_cases c:a<=b
   ·rw[Int.min_eq_left c];exact aam
   ·rw[Int.min_eq_right (by omega)];exact aal _ aam
  ·exact aal _ (aal _ h)
theorem Lr{l:List Int}(h:l≠[]):mn l∈l:=by
 cases l with
 |nil=>exact(h rfl).elim
 |cons a r=>exact fold_min r a
theorem Ec:∀(r:List Int) (a:Int),(∀b∈r,a<=b)->r.foldl min a=a
 |[],a,_=>rfl
 | b::r,a,h=>by
  rw[foldl_cons,Int.min_eq_left (h b aam)];exact Ec r a λc hc=>h c (aal _ hc)
theorem Ed{a:Int}{r:List Int}(h:(a::r).Pairwise (· <= ·)):mn (a::r)=a:=Ec r a (aa6.mp h).1
theorem Row.up{R:List Int}(h:Row ts R):R.Pairwise (· <= ·):=by rw[<-h.srt];exact sortI_rises _
end K51
end
section
open PySem L2 Hv
namespace K51
theorem TU:cop [] .eq (.str "linker") (.str "linker")=some true:=by decide +kernel
theorem aab:cop [] .eq (.str "cutter") (.str "linker")=some false:=by decide +kernel
abbrev cP(l:List Int):Val:=.rl (l.map .int)
abbrev eO(A B:List Int):Val:=.tup [cP A,cP B]
abbrev fE(a:Int)(A B:List Int):Val:=.tup [.int a,eO A B]
section
variable {p q:Int} {ts:List T3} {A B:List Int} {t:T3}
theorem Ls:gf [.str "linker"]=.ok (true,.str "cutter"):=by
 unfold gf e8;simp only[EV,TU]
theorem TV(ok:ay p q ts)(ht:t∈ts):fL [aq p q ts,.str "linker",.int t.1]=.ok (true,aq (fQ p q t).2.1 (fQ p q t).2.2 (gZ ts t)):=by
 unfold fL gC;simp only[EV,TU,qT,Ot ok ht]
theorem TX(ok:ay p q ts)(ht:t∈ts):fL [aq p q ts,.str "cutter",.int t.1]=.ok (true,aq p q (aV ts t)):=by
 unfold fL gC;simp only[EV,aab,nq,Oq ok ht]
theorem TY(ok:ay p q ts)(ht:t∈ts):bG [aq p q ts,.str "linker",.int t.1]=.ok (true,aq p q (aV ts t)):=by
 have e:lP (.int t.1)=false:=rfl;unfold bG b9;simp only[EV,e,jz,kQ,Ls,TX ok ht]
theorem aac:∃f,bG [aq p q ts,.str "linker",.non]=.ok (f,aq p q ts):=by
 have e:lP .non=true:=rfl;unfold bG b9;simp only[EV,e];exact⟨_,rfl⟩
theorem yZ{l:List Int}(h:∃x∈l,f x=true):l.filter f≠[]:=by
 obtain⟨x,h1,h2⟩:=h;intro e;have:x∈l.filter f:=aa0.mpr ⟨h1,h2⟩;rw[e]at this;simp at this
def Br(p q:Int)(ts:List T3)(P B:List Int):Int->Bool:=λx=>!decide (x∈xS p q ts P)
def Ut(p q:Int)(ts:List T3)(B:List Int):Int->Bool:=λx=>decide (b7 p q ts (dz B x)=b7 p q ts B)
theorem xU(ok:ay p q ts){P:List Int}(hn:P.Nodup)(hP:∀x∈P,x∈nms ts)(hB:B.length<=14)(hne:B.filter (Br p q ts P B)≠[]):dP [Ov p q ts,cP P,cP B]=.ok (true,.int (mn (B.filter (Br p q ts P B)))):=by
 have mr:=Bg (p:=p) (q:=q) (ts:=ts) (m:="reach") (j:=26) (by decide);have ga:=nG ok hn hP;have hc:B.length<=100000:=by omega
 unfold dP cY;simp only[EV,mr,jA,ga,cV,di,length_map,hc];rw[cE Val.int Val.int (Br p q ts P B) B (λx hx=>by
  unfold Br
  by_cases c:x∈xS p q ts P<;>simp only[EV,aH,Je,c,decide_true,decide_false])]
 simp only[EV,yY hne]
theorem Lu(ok:ay p q ts)(hn:B.Nodup)(hB:∀x∈B,x∈nms ts)(hne:B.filter (Ut p q ts B)≠[]):ff [Ov p q ts,cP B]=.ok (true,.int (mn (B.filter (Ut p q ts B)))):=by
 have mr:=Bg (p:=p) (q:=q) (ts:=ts) (m:="reach") (j:=26) (by decide);have ga:=nG ok hn hB;have hl:=sub_len ok hn hB;have hc:B.length<=100000:=by omega
 unfold ff dO;simp only[EV,mr,eV,ga,cV,di,length_map,hc];rw[cE Val.int Val.int (Ut p q ts B) B (λx hx=>by
  have gl:=nG ok (hn.filter λy=>!decide (y=x)) (iC (x:=x) hB);have eb:=o7 (P:=B) (x:=x) (by omega);unfold dz at eb;simp only[EV,aH,lF,eb,mr,eV,gl,XY];unfold Ut;have e:=FW ok hB hx;unfold dz at e |-
  by_cases c:b7 p q ts (B.filter λy=>!decide (y=x))=b7 p q ts B
  ·rw[aar (e.mpr c),decide_eq_true c];rfl
  ·rw[aas (λz=>c (e.mp z)),decide_eq_false c];rfl)]
 simp only[EV,yY hne]
theorem tE.len(ok:ay p q ts)(h:tE p q ts A B):A.length<=14/\B.length<=14:=⟨h.ra.len ok,h.rb.len ok⟩
abbrev Pk(p q:Int)(ts:List T3)(t:T3):List Int->Int->Bool:=Ut (fQ p q t).2.1 (fQ p q t).2.2 (gZ ts t)
theorem FY(ok:ay p q ts)(h:tE p q ts A B)(ht:t∈ts)(ha:A=t.1::A.tail):cg [aq p q ts,.str "linker",eO A B]=.ok (true,fE t.1 (dz A t.1) (dz B (mn (B.filter (Pk p q ts t B))))):=by
 obtain⟨la,lb⟩:=h.len ok;have hm:t.1∈A:=by rw[ha];exact aam
 have hne:A≠[]:=λe=>by rw[e]at hm;simp at hm
 have h0:(A.length:Int)≠0:=λe=>hne (List.length_eq_zero_iff.mp (by omega));have em:mn A=t.1:=by rw[ha];exact Ed (by rw[<-ha];exact h.ra.up)
 have hb:∀x∈B,x∈nms (gZ ts t):=by rw[qq];exact kc ok ht h.rb.j9 (h.dj _ hm)
 have hs:B.filter (Pk p q ts t B)≠[]:=yZ (by
  obtain⟨x,h1,h2⟩:=h.Pj ok ht hm;exact⟨x,h1,decide_eq_true h2⟩)
 have e3:=Lu (jV ok) h.rb.nd hb hs;unfold cg cK;simp only[EV,bO j5,bO jE,length_map,h0,decide_false,yY hne,em,j6,j7,j8,iA,TV ok ht,tD (jV ok),e3,o7 (P:=A) (show A.length<=1000 by omega),o7 (P:=B) (show B.length<=1000 by omega)]
theorem Lv(ok:ay p q ts)(h:tE p q ts A B)(ht:t∈ts)(ha:t.1∈A):∃a,a∈B/\a=mn (B.filter (Br p q (aV ts t) (dz A t.1) B))/\B.filter (Br p q (aV ts t) (dz A t.1) B)≠[]/\dQ [aq p q ts,.str "linker",eO A B,.int t.1]=.ok (true,fE a (dz A t.1) (dz B a)):=by
 obtain⟨la,lb⟩:=h.len ok;have hl:∀x∈dz A t.1,x∈nms (aV ts t):=kc ok ht (iC h.ra.j9) λz=>(gJ.mp z).2 rfl;have hs:B.filter (Br p q (aV ts t) (dz A t.1) B)≠[]:=yZ (by
  obtain⟨x,h1,h2⟩:=h.beyond ok ht ha;exact⟨x,h1,by unfold Br;rw[decide_eq_false h2];rfl⟩)
 have e3:=xU (gI ok) (h.ra.nd.filter λy=>!decide (y=t.1)) hl lb hs;have e1:=rD ok h;refine⟨_,(aa0.mp (Lr hs)).1,rfl,hs,?_⟩;have eb:=o7 (P:=A) (x:=t.1) (show A.length<=1000 by omega);unfold dz at e3 eb |-;unfold dQ gD;simp only[EV,bO j5,bO jE,gH,e1,cR,TY ok ht,jM,ha,decide_true,jS,eb,jR,tD (gI ok),gg,e3,o7 (P:=B) (show B.length<=1000 by omega)];unfold dz;rfl
theorem Lw(ok:ay p q ts)(h:tE p q ts A B)(ht:t∈ts)(hb:t.1∈B):∃a,a∈A/\a=mn (A.filter (Br p q (aV ts t) (dz B t.1) A))/\A.filter (Br p q (aV ts t) (dz B t.1) A)≠[]/\dQ [aq p q ts,.str "linker",eO A B,.int t.1]=.ok (true,fE a (dz A a) (dz B t.1)):=by
 obtain⟨la,lb⟩:=h.len ok;have na:t.1∉A:=λz=>h.dj _ z hb;have hl:∀x∈dz B t.1,x∈nms (aV ts t):=kc ok ht (iC h.rb.j9) λz=>(gJ.mp z).2 rfl;have hs:A.filter (Br p q (aV ts t) (dz B t.1) A)≠[]:=yZ (by
  obtain⟨x,h1,h2⟩:=h.swap.beyond ok ht hb;exact⟨x,h1,by unfold Br;rw[decide_eq_false h2];rfl⟩)
 have e3:=xU (gI ok) (h.rb.nd.filter λy=>!decide (y=t.1)) hl la hs;have e1:=rD ok h;refine⟨_,(aa0.mp (Lr hs)).1,rfl,hs,?_⟩;have eb:=o7 (P:=B) (x:=t.1) (show B.length<=1000 by omega);unfold dz at e3 eb |-;unfold dQ gD;simp only[EV,bO j5,bO jE,gH,e1,cR,TY ok ht,jM,na,hb,decide_false,decide_true,jS,eb,jR,tD (gI ok),gg,e3,o7 (P:=A) (show A.length<=1000 by omega)];unfold dz;rfl
theorem Lx(ok:ay p q ts)(h:tE p q ts A B){f:Bool}(hx:∀P:List Int,P=A\/P=B->cop [] .lX X (cP P)=some false)(hb:bG [aq p q ts,.str "linker",X]=.ok (f,N))(hu:cg [N,.str "linker",eO A B]=.ok (true,r)):dQ [aq p q ts,.str "linker",eO A B,X]=.ok (true,r):=by
 have e1:=rD ok h;have h1:=hx A (.inl rfl);have h2:=hx B (.inr rfl);unfold dQ gD;simp only[EV,bO j5,bO jE,gH,e1,cR,hb,h1,h2,kU,hu]
end
end K51
end
section
open PySem L2 Hv
namespace K51
theorem aad{x y:Int}:(if y<x then y else x)=min x y:=by split<;>omega
theorem aae{x y:Int}:(if y>x then y else x)=max x y:=by split<;>omega
theorem FZ:gU=.cons (.asg (.one 3) (.idx (.comp ["_law_tie","_law_name"] [none,some 2] (.one 0) .seq #[.idx (!0) (¬1)] (.cmp .eq (.idx (!0) (¬0)) (!1)) (!0)) (¬0))) (.cons (.asg (.one 4) (.lst .nil)) (.cons (.asg (.one 5) (.blt .list #[.idx (!0) (¬0)])) (.cons bF (.cons (.iff (.cmp .eq (!1) (.cst (.str "linker"))) bL .nil) bR)))):=rfl
def bE(N:Val)(s:Bool)(t:T3)(us:List T3)(m:Mk)(x y:Int)(a b c:Option (Mk×Val)):aU:=[some (.sh,N),some (.sh,AZ s),some (.sh,.int t.1),some (.sh,aP t),some (.ow,.rl (us.map aP)),some (m,.rl [.int x,.int y]),a,b,c]
theorem Ox{ts:List T3}(hn:(ts.map (·.1)).Nodup){t:T3}(ht:t∈ts):ts.filter (λu=>decide (u.1=t.1))=[t]:=by
 induction ts with
 |nil=>simp at ht
 |cons u ts ih=>
  rw[aau,aaS]at hn
  rcases aaz.mp ht with rfl|ht
  ·rw[abd (by simp),List.filter_eq_nil_iff.mpr λv hv z=>hn.1 (by rw[<-aaK z];exact aaC (f:=(·.1)) hv)]
  ·rw[abe λz=>hn.1 (by rw[aaK z];exact aaC (f:=(·.1)) ht)];exact ih hn.2 ht
theorem xV{p q:Int}(ok:ay p q ts)(s:Bool)(ht:t∈ts):∃f,fB [aq p q ts,AZ s,.int t.1]=.ok (f,if s then aq (fQ p q t).2.1 (fQ p q t).2.2 (gZ ts t) else aq p q (aV ts t)):=by
 have hn:=nD ok;have hl:=ok.len;unfold fB;rw[FZ];show ∃f,pb (aD (af vS) [4] _ [some (.sh,aq p q ts),some (.sh,AZ s),some (.sh,.int t.1),none,none,none,none,none,none]) _=_;have hc:ts.length<=100000:=by omega
 have z0:0<=sizeLine:=by decide
 have z2:2<=sizeLine:=by decide
 have z3:3<=sizeLine:=by decide
 rw[au (env':=[some (.sh,aq p q ts),some (.sh,AZ s),some (.sh,.int t.1),some (.sh,aP t),none,none,none,none,none]) (by
  unfold aq;simp only[EV,bO jE,cV,di,length_map,hc];rw[cE aP aP (λu=>decide (u.1=t.1)) ts (λu hu=>by
   simp only[EV,aH,FP,Cs]
   by_cases c:u.1=t.1<;>simp[c]),Ox hn ht]
  simp only[EV,map_cons,map_nil,jf j5,Cs];rfl)]
 rw[au (env':=[some (.sh,aq p q ts),some (.sh,AZ s),some (.sh,.int t.1),some (.sh,aP t),some (.ow,.rl []),none,none,none,none]) (by simp only[EV,z0])];rw[au (env':=bE (aq p q ts) s t [] .nw p q none none none) (by
  have sq:dH [] (.tup [.int p,.int q])=some [.int p,.int q]:=rfl;unfold bE aq;simp only[EV,bO j5,map_nil]
  try rfl)]
 have eb:eG (af vS) #[.idx (!0) (¬1)] (bE (aq p q ts) s t [] .nw p q none none none)=.ok [.rl (ts.map aP)]:=by unfold bE aq;simp only[EV,bO jE]
 obtain⟨env',e1,a,rfl⟩:=iN aP (body:=λx env=>pb (pl (cF (.one 6) x env)) λenv'=>aD (af vS) [4] #[.iff (.cmp .ne (.idx (!6) (¬0)) (!2)) #[.expr (.met .append (!4) #[!6])] .nil] env')
  (λpre env=>∃a,env=bE (aq p q ts) s t (aV pre t) .nw p q a none none) ts (bE (aq p q ts) s t [] .nw p q none none none) ⟨none,rfl⟩ (λpre u post env hx hq=>by
   obtain⟨a,rfl⟩:=hq;have hp:=aa2 length hx;rw[aaI,aaH]at hp;have lo:=lI (t:=t) (aaw pre.length);have zl:((aV pre t).map aP).length<sizeLine:=by rw[aak];unfold sizeLine;omega
   refine⟨bE (aq p q ts) s t (aV (pre++[u]) t) .nw p q (some (.sh,aP u)) none none,?_,_,rfl⟩;unfold bE;have eo:aV (pre++[u]) t=aV pre t++if u.1=t.1 then [] else [u]:=by
    unfold aV;rw[filter_append]
    congr 1
    by_cases c:u.1=t.1<;>simp[c]
   rw[eo]
   by_cases c:u.1=t.1
   ·simp only[EV,aH,FP,c,not_true,decide_false,if_true,List.append_nil]
   ·simp only[EV,aH,FP,c,not_false_iff,decide_true,if_false,List.map_append,map_cons,map_nil,zl])
 rw[au (show bH (af vS) [4] bF _=_ from(xO rfl eb).trans e1)];have lo:=lI (t:=t) hl;have sl:=XS s;have ec:IG (af vS) (.cmp .eq (!1) (.cst (.str "linker"))) (bE (aq p q ts) s t (aV ts t) .nw p q a none none)=.ok (true,.bl s):=by unfold bE;simp only[EV,sl]
 have fin:∀(us:List T3) (m:Mk) (x y:Int) (b c:Option (Mk×Val)),qv m=true->pb (aD (af vS) [4] bR (bE (aq p q ts) s t us m x y a b c)) (λf=>match f with|.nx _=>.ok (true,.non)|.rt p=>.ok p|_=>.no)=.ok (false,aq (min x y) (max x y) us):=λus m x y b c hm=>by
  unfold bR bE;simp only[EV,KR,KS,z2,map_cons,map_nil,hm];rfl
 cases s with
 |false=>rw[au ((lG ec).trans (by rw[aas aaj,aD]))];refine⟨false,(fin _ _ _ _ _ _ rfl).trans ?_⟩;have:=ok.ord;rw[Int.min_eq_left this,Int.max_eq_right this];rfl
 |true=>
  have hL:∃m b c,aD (af vS) [4] bL (bE (aq p q ts) true t (aV ts t) .nw p q a none none)=.ok (.nx (bE (aq p q ts) true t (gZ ts t) m (iB t.2.1 t.2.2 p) (iB t.2.1 t.2.2 q) a b c))/\qv m=true:=by
   have ho:(aV ts t).length<=100000:=by omega
   have h2:2<=100000:=by decide
   unfold bL;rw[au (env':=bE (aq p q ts) true t (aV ts t) .nw p q a (some (.nw,.dc [Sum.inl t.2.2] [.int t.2.1])) none) (by
    unfold bE;simp only[EV,KZ,K0,pX]
    try rfl)]
   rw[au (env':=bE (aq p q ts) true t (aV ts t) .nw (iB t.2.1 t.2.2 p) (iB t.2.1 t.2.2 q) a (some (.nw,.dc [Sum.inl t.2.2] [.int t.2.1])) none) (by
    unfold bE;simp only[EV,cV,di,length_map,length_cons,length_nil];rw[show ([Val.int p,.int q]:List Val)=[p,q].map Val.int from rfl,cD Val.int (λx=>.int (iB t.2.1 t.2.2 x)) [p,q] (λx hx=>by
     simp only[EV,aH,pX,D4,Oo,D3])]
    simp only[EV,aT]
    try rfl)]
   rw[au (env':=bE (aq p q ts) true t (aV ts t) .nw (iB t.2.1 t.2.2 p) (iB t.2.1 t.2.2 q) a (some (.nw,.dc [Sum.inl t.2.2] [.int t.2.1])) (some (.nw,.rl (((aV ts t).map (zb (iB t.2.1 t.2.2))).map aP)))) (by
    unfold bE;simp only[EV,cV,di,length_map,ho];rw[cD aP (λu=>aP (zb (iB t.2.1 t.2.2) u)) (aV ts t) (λu hu=>by
     simp only[EV,aH,FP,KZ,K0,pX,D4,Oo,D3,z3]
     try rfl)]
    simp only[EV,map_map]
    try rfl)]
   rw[au (env':=bE (aq p q ts) true t (gZ ts t) .nw (iB t.2.1 t.2.2 p) (iB t.2.1 t.2.2 q) a (some (.nw,.dc [Sum.inl t.2.2] [.int t.2.1])) (some (.nw,.rl (((aV ts t).map (zb (iB t.2.1 t.2.2))).map aP)))) (by
    unfold bE;simp only[EV,cV,di,length_map,ho];rw[cD aP (λu=>aP (turnT u)) ((aV ts t).map (zb (iB t.2.1 t.2.2))) (λu hu=>by
     simp only[EV,aH,FP,KZ,K0,z3]
     try rfl)]
    simp only[EV,map_map];unfold gZ;rw[aaV,aaV]
    try rfl),aD]
   exact⟨_,_,_,rfl,rfl⟩
  obtain⟨m,b,c,hL,hm⟩:=hL;rw[au ((lG ec).trans (by rw[aar rfl];exact hL))];refine⟨false,(fin _ _ _ _ _ _ hm).trans ?_⟩;rw[<-aad,<-aae];rfl
end K51
end
section
open PySem L2 Hv
namespace K51
theorem Ga:kO [.str "linker"]=.ok (true,.str "cutter"):=by
 have z2:2<=sizeLine:=by decide
 unfold kO jv;simp only[EV,TU,z2];rfl
theorem TZ(P:List Int):cop [] .lX .non (cP P)=some false:=by
 show (toD 16 [] (.rl (P.map .int))).bind _=_;rw[uM Val.int PyData.int P λ_ _=>rfl];show some ((P.map PyData.int).any λy=>PyData.eqv y .none)=_
 congr 1
 induction P with
 |nil=>rfl
 |cons y r ih=>rw[aau,any_cons,ih];rfl
theorem Bk(i:Int):kP [.int i]=.ok (true,.bl true):=by
 unfold kP jw;simp only[EV,nT (T:="int") (v:=.int i) (t:="int") rfl rfl,Ci (T:="bool") (v:=.int i) (t:="int") rfl rfl]
 try rfl
theorem Ly{p q:Int}:ng [aq p q ts]=.ok (true,aq p q ts):=by
 have im:=DX ts;unfold ng kD aq;simp only[EV,bO j5,bO jE,im]
 try rfl
section
variable {p q:Int} {ts:List T3} {A B:List Int} {t:T3}
theorem Lz(ok:ay p q ts)(ht:t∈ts):∃f,fB [aq p q ts,.str "cutter",.int t.1]=.ok (f,aq p q (aV ts t)):=xV ok false ht
theorem LA(ok:ay p q ts)(ht:t∈ts):∃f,fB [aq p q ts,.str "linker",.int t.1]=.ok (f,aq (fQ p q t).2.1 (fQ p q t).2.2 (gZ ts t)):=xV ok true ht
theorem LB:gQ .int [.bl false]=.ok (true,.int 0):=rfl
theorem LC:gQ .int [.bl true]=.ok (true,.int 1):=rfl
theorem T4:mW=.cons (.asg (.one 4) (!0)) (.cons (.asg (.tup [5,6]) (!2)) (.cons dS (.cons (.iff dC dB .nil) dR))):=rfl
def dE(N:Val)(A B:List Int)(X:Val)(m:Mk)(M:Val)(a b c:Option (Mk×Val)):aU:=[some (.sh,N),some (.sh,.str "linker"),some (.sh,eO A B),some (.sh,X),some (m,M),some (.sh,cP A),some (.sh,cP B),a,b,c,none,none,none,none]
theorem Bm(ok:ay p q ts)(la:A.length<=14)(lb:B.length<=14)(hx:(X=.non/\us=ts)\/(∃t∈ts,X=.int t.1/\us=aV ts t)){t:Bool}(ht:cop [] .lX X (cP (A++B))=some t) :
  ∃m,qv m=true/\iL [aq p q ts,.str "linker",eO A B,X]=pb (if t=true then (pb (aD (af qh) [] dB (dE (aq p q ts) A B X m (aq p q us) none none none)) λf=>match f with|.nx env'=>aD (af qh) [] dR env'|f=>.ok f) else aD (af qh) [] dR (dE (aq p q ts) A B X m (aq p q us) none none none)) (λf=>match f with|.nx _=>.ok (true,.non)|.rt p=>.ok p|_=>.no):=by
 have z:(A.map Val.int).length+(B.map Val.int).length<=sizeLine:=by rw[aak,aak];unfold sizeLine;omega
 have em:(A++B).map Val.int=A.map Val.int++B.map .int:=aaU;have fst:∃m,qv m=true/\bH (af qh) [] dS (dE (aq p q ts) A B X (eF (jL (aq p q ts)) (aq p q ts)) (aq p q ts) none none none)=.ok (.nx (dE (aq p q ts) A B X m (aq p q us) none none none)):=by
  unfold dE dS
  rcases hx with ⟨rfl,rfl⟩|⟨t,htm,rfl,rfl⟩
  ·have nn:lP .non=true:=rfl;exact⟨eF (jL (aq p q us)) (aq p q us),uL,by simp only[EV,nn]⟩
  ·have nn:lP (.int t.1)=false:=rfl;obtain⟨f,e⟩:=Lz ok htm;exact⟨eF f (aq p q (aV ts t)),uL,by simp only[EV,nn,qW,Ga,jU,e]⟩
 obtain⟨m,hm,fst⟩:=fst;refine⟨m,hm,?_⟩;unfold cP at ht;rw[em]at ht;have ec:IG (af qh) dC (dE (aq p q ts) A B X m (aq p q us) none none none)=.ok (true,.bl t):=by unfold dE dC;simp only[EV,rA z,ht]
 unfold iL;rw[T4];show pb (aD (af qh) [] _ [some (.sh,aq p q ts),some (.sh,.str "linker"),some (.sh,eO A B),some (.sh,X),none,none,none,none,none,none,none,none,none,none]) _=_;rw[au (env':=[some (.sh,aq p q ts),some (.sh,.str "linker"),some (.sh,eO A B),some (.sh,X),some (eF (jL (aq p q ts)) (aq p q ts),aq p q ts),none,none,none,none,none,none,none,none,none]) (by simp only[EV,aT])];rw[au (env':=dE (aq p q ts) A B X (eF (jL (aq p q ts)) (aq p q ts)) (aq p q ts) none none none) (by unfold dE;simp only[EV,Jc])];rw[au fst,aD,lG ec];cases t with
 |true=>rfl
 |false=>rw[aas aaj,aas aaj,aD];rfl
theorem Bo(ok:ay p q ts)(h:tE p q ts A B)(ht:t∈ts)(L R:List Int)(hs:(L=A/\R=B/\t.1∈A/\t.1∉B)\/(L=B/\R=A/\t.1∉A/\t.1∈B))(hne:R.filter (Br p q (aV ts t) (dz L t.1) R)≠[]){a:Int}(ea:a=mn (R.filter (Br p q (aV ts t) (dz L t.1) R))) :
  ∃f,iL [aq p q ts,.str "linker",eO A B,.int t.1]=.ok (f,fE a (dz (dz A t.1) a) (dz (dz B t.1) a)):=by
 obtain⟨la,lb⟩:=h.len ok;have hL:L.Nodup/\(∀x∈L,x∈nms ts)/\R.length<=14/\L.length<=14/\t.1∈A++B:=by
  rcases hs with ⟨rfl,rfl,h1,_⟩|⟨rfl,rfl,_,h1⟩
  ·exact⟨h.ra.nd,h.ra.j9,lb,la,aaX _ h1⟩
  ·exact⟨h.rb.nd,h.rb.j9,la,lb,aaP _ h1⟩
 obtain⟨m,hm,e0⟩:=Bm ok (A:=A) (B:=B) (X:=.int t.1) (us:=aV ts t) la lb (.inr ⟨t,ht,rfl,rfl⟩) (t:=true) (by rw[jM,decide_eq_true hL.2.2.2.2]);have hl:∀x∈dz L t.1,x∈nms (aV ts t):=kc ok ht (iC hL.2.1) λz=>(gJ.mp z).2 rfl;obtain⟨f2,e2⟩:∃f,iU [aq p q (aV ts t),.str "linker",cP (dz L t.1)]=.ok (f,cP (xS p q (aV ts t) (dz L t.1))):=FU (gI ok) (hL.1.filter λy=>!decide (y=t.1)) hl;have e3:=lM (P:=L) (x:=t.1) (show L.length<=1000 by omega);have eA:=lM (P:=A) (x:=t.1) (show A.length<=1000 by omega);have eB:=lM (P:=B) (x:=t.1) (show B.length<=1000 by omega);have eA2:=lM (P:=dz A t.1) (x:=a) (aaN yV (show A.length<=1000 by omega));have eB2:=lM (P:=dz B t.1) (x:=a) (aaN yV (show B.length<=1000 by omega));have hc:R.length<=100000:=by omega
 have z2:2<=sizeLine:=by decide
 rw[e0,aar rfl];generalize aq p q ts=N at *;unfold dB;rw[au (env':=dE N A B (.int t.1) m (aq p q (aV ts t)) (some (.nw,cP (dz L t.1))) none none) (by
  unfold dE
  rcases hs with ⟨rfl,rfl,h1,h2⟩|⟨rfl,rfl,h1,h2⟩ <;>
  simp only[EV,jM,h2,decide_true,decide_false,z2,LB,LC,jf j5,jf jE,fm,e3])]
 rw[au (env':=dE N A B (.int t.1) m (aq p q (aV ts t)) (some (.nw,cP (dz L t.1))) (some (eF f2 (cP (xS p q (aV ts t) (dz L t.1))),cP (xS p q (aV ts t) (dz L t.1)))) none) (by
  unfold dE;simp only[EV,hm,qV,e2])]
 rw[au (env':=dE N A B (.int t.1) m (aq p q (aV ts t)) (some (.nw,cP (dz L t.1))) (some (eF f2 (cP (xS p q (aV ts t) (dz L t.1))),cP (xS p q (aV ts t) (dz L t.1)))) (some (.sh,cP R))) (by
  unfold dE
  rcases hs with ⟨rfl,rfl,h1,h2⟩|⟨rfl,rfl,h1,h2⟩ <;>
  simp only[EV,jM,h1,decide_true,decide_false,z2,LB,LC,jf j5,jf jE])]
 unfold dE;simp only[EV,cV,di,length_map,hc];rw[cE Val.int Val.int (Br p q (aV ts t) (dz L t.1) R) R (λx hx=>by
  unfold Br
  by_cases c:x∈xS p q (aV ts t) (dz L t.1)<;>simp only[EV,aH,Je,c,decide_true,decide_false])]
 simp only[EV,yY hne,<-ea,eA,eB,eA2,eB2,fm];exact⟨true,rfl⟩
theorem X0(ok:ay p q ts)(Oz:ay p q us){a:Int}(h:tE p q us (a::A) B)(hu:u∈us)(eu:u.1=a)(hx:(X=.non/\us=ts)\/(∃t∈ts,X=.int t.1/\us=aV ts t))(hn:cop [] .lX X (cP ((a::A)++B))=some false) :
  ∃f,iL [aq p q ts,.str "linker",eO (a::A) B,X]=.ok (f,fE a (dz (a::A) a) (dz B (mn (B.filter (Pk p q us u B))))):=by
 obtain⟨la,lb⟩:=h.len Oz;subst eu;obtain⟨m,hm',e9⟩:=Bm ok la lb hx hn;rw[e9,aas aaj];have hm:u.1∈u.1::A:=aam;have hb:∀x∈B,x∈nms (gZ us u):=by rw[qq];exact kc Oz hu h.rb.j9 (h.dj _ hm)
 have hs:B.filter (Pk p q us u B)≠[]:=yZ (by
  obtain⟨x,h1,h2⟩:=h.Pj Oz hu hm;exact⟨x,h1,decide_eq_true h2⟩)
 obtain⟨s0,sr,es⟩:=List.exists_cons_of_ne_nil hs;have e0:mn (B.filter (Pk p q us u B))=s0:=by rw[es];exact Ed (by rw[<-es];exact h.rb.up.sublist List.filter_sublist)
 rw[e0];have el:dz (u.1::A) u.1=A:=by unfold dz;rw[abe (by simp)];exact vo (aaS.mp h.ra.nd).1
 rw[el];obtain⟨f1,e1⟩:=LA Oz hu;obtain⟨f2,e2⟩:=qu (jV (t:=u) Oz) hb;have e3:=lM (P:=B) (x:=s0) (show B.length<=1000 by omega);have hc:B.length<=100000:=by omega
 unfold dR dE;generalize aq p q ts=N at *;have et:dI [] (cP (u.1::A))=some true:=rfl;have ix:iu [] (cP (u.1::A)) (.int 0)=some (.int u.1):=jf j5;have iy:iu [] (.rl ((B.filter (Pk p q us u B)).map .int)) (.int 0)=some (.int s0):=by rw[es];exact jf j5
 have sl:Cd (cP (u.1::A)) (some 1) none=.ok (true,cP A):=by rw[Dw,pW,show dX (u.1::A) (some 1) none=A from ?_,nC];unfold dX;rw[HT.GD,show HT.fq (u.1::A).length 0 (some 1)=1 from(HT.sN _ _ 1).trans (by rw[aaH];omega)];simp
 simp only[EV,hm',et,ix,jU,e1,lU,e2,cV,di,length_map,hc];rw[cE Val.int Val.int (Pk p q us u B) B (λx hx=>by
  obtain⟨f4,e4⟩:=qu (jV (t:=u) Oz) (iC (x:=x) hb);have e5:=lM (P:=B) (x:=x) (show B.length<=1000 by omega);simp only[EV,aH,fm,e5,lU,e4];unfold Pk Ut
  by_cases c:b7 (fQ p q u).2.1 (fQ p q u).2.2 (gZ us u) (dz B x)=b7 (fQ p q u).2.1 (fQ p q u).2.2 (gZ us u) B
  ·simp[c]
  ·have c':¬ (b7 (fQ p q u).2.1 (fQ p q u).2.2 (gZ us u) (dz B x):Int)=b7 (fQ p q u).2.1 (fQ p q u).2.2 (gZ us u) B:=by omega
   simp[c,c'])]
 simp only[EV,hm',ix,iy,sl,fm,e3];exact⟨true,rfl⟩
end
end K51
end
section
open PySem L2 Hv
namespace K51
section
variable {p q:Int} {ts:List T3} {A B:List Int}
theorem OA(ok:ay p q ts)(h:tE p q ts A B)(ha:A≠[])(hx:X=.non\/∃t∈ts,X=.int t.1):∃a L R f,L.length<=14/\R.length<=14/\dQ [aq p q ts,.str "linker",eO A B,X]=.ok (true,fE a L R)/\iL [aq p q ts,.str "linker",eO A B,X]=.ok (f,fE a L R):=by
 obtain⟨la,lb⟩:=h.len ok;have ll:∀{P:List Int} {x:Int},P.length<=14->(dz P x).length<=14:=λh=>aaN yV h;obtain⟨a,A,rfl⟩:=List.exists_cons_of_ne_nil ha;have un:∀us:List T3,ay p q us->tE p q us (a::A) B->((X=.non/\us=ts)\/(∃t∈ts,X=.int t.1/\us=aV ts t/\t.1∉(a::A)++B))->(∃f,bG [aq p q ts,.str "linker",X]=.ok (f,aq p q us))->∃b L R f,L.length<=14/\R.length<=14/\dQ [aq p q ts,.str "linker",eO (a::A) B,X]=.ok (true,fE b L R)/\iL [aq p q ts,.str "linker",eO (a::A) B,X]=.ok (f,fE b L R):=λus Oz hu hX hb=>by
  obtain⟨u,hum,e⟩:=aaA.mp (hu.ra.lX a aam);obtain⟨f,hb⟩:=hb;have hn:∀P:List Int,(∀x∈P,x∈(a::A)++B)->cop [] .lX X (cP P)=some false:=λP hP=>by
   rcases hX with ⟨rfl,_⟩|⟨t,_,rfl,_,hn⟩
   ·exact TZ P
   ·rw[jM,decide_eq_false];exact λz=>hn (hP _ z)
  obtain⟨f2,e2⟩:=X0 ok Oz hu hum e (hX.imp id λ⟨t,h1,h2,h3,_⟩=>⟨t,h1,h2,h3⟩) (hn _ λ_ z=>z);subst e;refine⟨_,_,_,f2,ll la,ll lb,Lx ok h (λP hP=>hn P λx hx=>?_) hb (FY Oz hu hum rfl),e2⟩
  rcases hP with rfl|rfl
  ·exact aaX _ hx
  ·exact aaP _ hx
 rcases hx with rfl|⟨t,ht,rfl⟩
 ·exact un ts ok h (.inl ⟨rfl,rfl⟩) aac
 ·by_cases c1:t.1∈a::A
  ·obtain⟨b,hb,eb,hne,e1⟩:=Lv ok h ht c1;have n1:=h.dj _ c1;have n2:b∉dz (a::A) t.1:=λz=>h.dj _ (gJ.mp z).1 hb;obtain⟨f,e2⟩:=Bo ok h ht _ _ (.inl ⟨rfl,rfl,c1,n1⟩) hne eb;rw[vo n2,vo n1]at e2;exact⟨_,_,_,f,ll la,ll lb,e1,e2⟩
  ·by_cases c2:t.1∈B
   ·obtain⟨b,hb,eb,hne,e1⟩:=Lw ok h ht c2;have n2:b∉dz B t.1:=λz=>h.dj _ hb (gJ.mp z).1;obtain⟨f,e2⟩:=Bo ok h ht _ _ (.inr ⟨rfl,rfl,c1,c2⟩) hne eb;rw[vo c1,vo n2]at e2;exact⟨_,_,_,f,ll la,ll lb,e1,e2⟩
   ·exact un _ (gI ok) (h.gone ok ht c1 c2) (.inr ⟨t,ht,rfl,rfl,λz=>(aaT.mp z).elim c1 c2⟩) ⟨_,TY ok ht⟩
theorem Gb(ok:ay p q ts)(c:Int):∃f X,kK [aq p q ts,.int c]=.ok (f,X)/\(X=.non\/∃t∈ts,X=.int t.1):=by
 have e1:=xT (p:=p) (q:=q) ok.len;have m8:=gr (a:=c) (show decide ((0:Int)<8)=true by decide);have d8:=fy (a:=c) (show ja 8=true by decide);have hm:∀x∈ts.map (·.1),∃t∈ts,Val.int x=.int t.1:=λx hx=>by
  obtain⟨t,ht,rfl⟩:=aaA.mp hx;exact⟨t,ht,rfl⟩
 generalize ts.map (·.1)=M at *;unfold kK jk
 by_cases c7:c%8=7
 ·exact⟨true,.non,by simp only[EV,fD,e1,m8,c7,decide_true],.inl rfl⟩
 ·by_cases hM:M=[]
  ·subst hM;exact⟨true,.non,by simp only[EV,fD,e1,m8,c7,decide_false,map_nil];rfl,.inl rfl⟩
  ·have hl:(0:Int)<(M.length:Nat):=by have:=List.length_pos_iff.mpr hM;omega
   have ml:=gr (a:=c/8) (decide_eq_true hl);have h1:=emod_nonneg (c/8) (b:=((M.length:Nat):Int)) (by omega);have h2:=abK (c/8) hl;obtain⟨i,hi⟩:=Int.eq_ofNat_of_zero_le h1;have hil:i<M.length:=by omega
   have ix:iu [] (.rl (M.map .int)) (.int (c/8%((M.length:Nat):Int)))=some (.int M[i]):=by rw[hi];exact jf (pC (by simp[hil]))
   have tr:dI [] (.rl (M.map .int))=some true:=by obtain⟨a,r,rfl⟩:=List.exists_cons_of_ne_nil hM;rfl
   refine⟨true,.int M[i],?_,.inr (hm _ (List.getElem_mem hil))⟩;simp only[EV,fD,e1,m8,c7,decide_false,tr,d8,length_map,ml,ix]
end
theorem LD(ks:List Int)(hk:ks.length<=100)(N:Val):aD (af yM) [] #[.iff (.or (.not (.blt (.isin "list") #[!1])) (.not (.blt .all #[.comp ["_law_name"] [none] (.one 0) .seq #[!1] .no (.call 42 #[!0])]))) #[.ret (.cst (.bl false))] .nil] [some (.sh,N),some (.sh,cP ks)]=.ok (.nx [some (.sh,N),some (.sh,cP ks)]):=by
 have hc:ks.length<=100000:=by omega
 have ec:IG (af yM) (.or (.not (.blt (.isin "list") #[!1])) (.not (.blt .all #[.comp ["_law_name"] [none] (.one 0) .seq #[!1] .no (.call 42 #[!0])]))) [some (.sh,N),some (.sh,cP ks)]=.ok (true,.bl false):=by
  simp only[EV,nT (T:="list") (v:=.rl (ks.map .int)) (t:="list") rfl rfl,cV,di,length_map,hc];rw[cD Val.int (λ_=>.bl true) ks (λk hk=>by
   simp only[EV,aH,fh,Bk])]
  have hb:gQ .all [.rl (ks.map λ_=>.bl true)]=.ok (true,.bl true):=by have:bZ (ks.map λ_=>Val.bl true)=some (ks.map λ_=>true):=eY ks λ_ _=>rfl;show pb (pl (bZ _)) _=_;rw[this,bS,aT];simp
  simp only[EV,hb]
 rw[au ((lG ec).trans (by rw[aas aaj,aD])),aD]
theorem like_eq{a:Int}{L R:List Int}(h1:L.length<=14)(h2:R.length<=14):∃f,cZ [fE a L R]=.ok (f,.bl true):=by
 have nn:lP (.int a)=false:=rfl;unfold cZ cL;show ∃f,pb (aD (af yM) [] (.cons _ (.cons _ (.cons _ _))) [some (.sh,fE a L R),none]) _=_;rw[au (env':=[some (.sh,fE a L R),none]) (by
  simp only[EV,bO jE,nT (T:="tuple") (v:=fE a L R) (t:="tuple") rfl rfl,nT (T:="tuple") (v:=eO L R) (t:="tuple") rfl rfl];rfl)]
 rw[au (env':=[some (.sh,fE a L R),none]) (by
  simp only[EV,bO j5,nn,fh,Bk])]
 have eb:eG (af yM) #[.idx (!0) (¬1)] [some (.sh,fE a L R),none]=.ok [eO L R]:=by simp only[EV,bO jE]
 obtain⟨env',e1,x,rfl⟩:=iN cP (body:=λx env=>pb (pl (cF (.one 1) x env)) λenv'=>aD (af yM) [] #[.iff (.or (.not (.blt (.isin "list") #[!1])) (.not (.blt .all #[.comp ["_law_name"] [none] (.one 0) .seq #[!1] .no (.call 42 #[!0])]))) #[.ret (.cst (.bl false))] .nil] env')
  (λ_ env=>∃x,env=[some (.sh,fE a L R),x]) [L,R] [some (.sh,fE a L R),none] ⟨none,rfl⟩ (λpre ks post env hx hq=>by
   obtain⟨x,rfl⟩:=hq;have hk:ks.length<=100:=by
    have:ks∈[L,R]:=by rw[hx];simp
    rcases aaz.mp this with rfl|h
    ·omega
    ·rw[aaF.mp h];omega
   refine⟨[some (.sh,fE a L R),some (.sh,cP ks)],?_,_,rfl⟩;rw[aH,bS,aT];exact LD ks hk _)
 rw[au ((DR (k:=.seq) (λz=>nomatch z) rfl eb Xb).trans e1)];exact⟨true,by simp only[EV,aT]⟩
end K51
end
section
open PySem L2 Hv
namespace K51
theorem Bp(h:cop [] .ne a b=some false):cop [] .eq a b=some true:=by
 obtain⟨b,e,z⟩:=aaY.mp (show (zK [] _ _).map (!·)=some false from h);show zK [] _ _=_;rw[e];cases b with
 |true=>rfl
 |false=>cases z
theorem Pn(l:List Int):PyData.canLay0 (.list (l.map .int))=true:=by
 rw[PyData.canLay0];exact ly _ _ λt _=>by rw[PyData.canLay0]
theorem Ef(n:Nat)(L R:List Int):toD (n+3) [] (eO L R)=some (.tuple [.list (L.map .int),.list (R.map .int)]):=Dz cP (λl:List Int=>PyData.list (l.map .int)) [L,R] λl _=>uM Val.int PyData.int l λ_ _=>rfl
theorem Eg(L R:List Int):PyData.canLay0 (.tuple [.list (L.map .int),.list (R.map .int)])=true:=by
 rw[PyData.canLay0,PyData.canLayAll0,Pn,PyData.canLayAll0,Pn,PyData.canLayAll0];rfl
theorem T5(L R:List Int):cop [] .ne (eO L R) (eO L R)=some false:=ne_self (Ef 13 L R) (Eg L R)
theorem T6(a:Int)(L R:List Int):cop [] .ne (fE a L R) (fE a L R)=some false:=by
 refine ne_self (p:=.tuple [.int a,.tuple [.list (L.map .int),.list (R.map .int)]]) ?_ ?_
 ·show (bK (toD 15 []) _).bind _=_;rw[bK,show toD 15 [] (.int a)=some (.int a) from rfl,bK,Ef 12,bK];rfl
 ·rw[PyData.canLay0,PyData.canLayAll0,PyData.canLay0,PyData.canLayAll0,Eg,PyData.canLayAll0];rfl
theorem eT{sp:List Nat}(h:dw Ψ sp s env=.ok (.nx env')):iH Ψ sp (.cons s r) env=iH Ψ sp r env':=by
 rw[iH,h];rfl
section
variable {Ψ:Nat->List Val->Pr FV} {env:aU} {i:Nat} {a:IE} {d:Val} {l m:List Val}
theorem T7(h:env[i]?=some (some (.ow,.tup [d,.tup [.rl l,.rl m]]))):Cm Ψ (.apN i a) env=pb (bA Ψ a (bP env)) λ_=>pg (decide (l.length<sizeLine)) (.ok (.nx (env.set i (some (.nw,.non))))):=by
 unfold Cm Yr;dsimp only;rw[h];rfl
theorem T8(h:env[i]?=some (some (.nw,.tup [.rl l,d]))):Cm Ψ (.apT i a) env=pb (bA Ψ a (bP env)) λx=>pb (pl (gq x.2)) λm=>pg (decide (l.length<sizeLine)) (.ok (.nx (env.set i (some (.nw,.tup [.rl (l++[.int m]),d]))))):=by
 unfold Cm Yq;dsimp only;rw[h];rfl
theorem T9(h:env[i]?=some (some (.nw,.non))):Cm Ψ (.clN i) env=.ok (.nx (env.set i none)):=by
 unfold Cm;dsimp only;rw[h];rfl
end
def lE(S N:Val)(A B:List Int)(X:Val)(t f d g:Option (Mk×Val)):aU:=[some (.sh,S),some (.sh,N),some (.sh,eO A B),some (.sh,X),some (.sh,N),t,f,d,g]
theorem Ua(ns:List Int):∃f,Kz [.rl (ns.map .int)]=.ok (f,.bl true):=by
 obtain⟨p,q,ts,e1,hp⟩:=TQ ns;have e2:=Ct ns;have ok:=hp.ok;have pp:=hp.pap;have hne:rG (manyN ns-1).toNat (ve ns) 0≠[]:=λe=>by
  have:=aa2 length e;rw[XZ]at this;have:=hp.n1;simp at *;omega
 have c19:bD [.rl (ns.map .int),.int 19]=.ok (true,.int (cellAt ns 19)):=gh ns 19;obtain⟨f3,X,e3,hX⟩:=Gb ok (cellAt ns 19);obtain⟨a,L,R,f7,hL,hR,e6,e7⟩:=OA ok pp hne hX;obtain⟨f4,e4⟩:=like_eq (a:=a) hL hR;have lc:=Ly (p:=p) (q:=q) (ts:=ts);change fJ [.rl (ns.map .int),.int 14]=.ok (true,eO (rG (manyN ns-1).toNat (ve ns) 0) (rG (manyN ns-1).toNat (ve ns) 1))at e2;have lA:=pp.ra.len ok;generalize rG (manyN ns-1).toNat (ve ns) 0=A at *;generalize rG (manyN ns-1).toNat (ve ns) 1=B at *;have i0:∀A B:List Int,iu [] (eO A B) (.int 0)=some (cP A):=λA B=>bO j5;have i1:∀A B:List Int,iu [] (eO A B) (.int 1)=some (cP B):=λA B=>bO jE;have nN:=NI p q ts;have nP:=T5 A B;have nM:=T6 a L R;have qN:=Bp nN;have qM:=Bp nM;have hl2:p7 [cP A,cP B]=some [A,B]:=by unfold p7;exact eY (g:=cP) (k:=λl=>l) [A,B] λl _=>iV l
 unfold Kz yK;show ∃f,pb (iH (af uZ) [6,6,5] _ [some (.sh,.rl (ns.map .int)),none,none,none,none,none,none,none,none]) _=_;generalize aq p q ts=N at *;generalize Val.rl (ns.map .int)=S at *;rw[eT (env':=[some (.sh,S),some (.sh,N),none,none,none,none,none,none,none]) (by
  simp only[EV,dw,Fj,Hv.jh,Hv.bP,yN,e1])]
 rw[eT (env':=[some (.sh,S),some (.sh,N),some (.sh,eO A B),none,none,none,none,none,none]) (by
  simp only[EV,dw,Fj,Hv.jh,Hv.bP,qX,e2])]
 rw[eT (env':=[some (.sh,S),some (.sh,N),some (.sh,eO A B),some (.sh,X),none,none,none,none,none]) (by
  simp only[EV,dw,Fj,Hv.jh,Hv.bP,vV,c19,u5,e3])]
 rw[eT (env':=lE S N A B X none none none none) (by
  unfold lE;simp only[EV,dw,Fj,Hv.jh,Hv.bP,vW,lc])]
 rw[eT (env':=lE S N A B X (some (.nw,eO A B)) none none none) (by
  unfold lE;simp only[EV,dw,Fj,Hv.jh,Hv.bP,new2,i0,i1,nC,hl2])]
 rw[eT (env':=lE S N A B X (some (.nw,eO A B)) (some (.ow,fE a L R)) none none) (by
  unfold lE;simp only[EV,dw,Fj,Hv.jh,Hv.bP,new2,oA,e6])]
 rw[eT (env':=lE S N A B X (some (.nw,eO A B)) (some (.ow,fE a L R)) (some (.sh,fE a L R)) none) (by
  unfold lE;simp only[EV,dw,Fj,Hv.jh,Hv.bP,yO,e7])]
 rw[eT (env':=lE S N A B X (some (.nw,eO A B)) (some (.ow,fE a L R)) (some (.sh,fE a L R)) none) (by
  unfold lE;simp only[EV,dw,iH,Fj,Hv.jh,Hv.bP,nv,e4,nM,nN,nP])]
 rw[eT (env':=lE S N A B X (some (.nw,eO A B)) (some (.nw,.non)) (some (.sh,fE a L R)) none) (by
  unfold lE;have zl:(L.map Val.int).length<sizeLine:=by rw[aak];unfold sizeLine;omega
  rw[dw];show Cm _ (.apN 6 _) _=_;rw[T7 rfl];simp only[EV,Hv.bP,zl])]
 rw[eT (env':=lE S N A B X (some (.nw,eO A B)) none (some (.sh,fE a L R)) none) (by
  unfold lE;rw[dw];exact T9 rfl)]
 rw[eT (env':=lE S N A B X (some (.nw,eO A B)) none (some (.sh,fE a L R)) none) (by
  unfold lE;simp only[EV,dw,iH,Fj,Hv.jh,Hv.bP,nN,nP])]
 rw[eT (env':=lE S N A B X (some (.nw,.tup [.rl (A.map .int++[.int (-1)]),cP B])) none (some (.sh,fE a L R)) none) (by
  unfold lE;have zl:(A.map Val.int).length<sizeLine:=by rw[aak];unfold sizeLine;omega
  rw[dw];show Cm _ (.apT 5 _) _=_;rw[T8 rfl];simp only[EV,Hv.bP,zl])]
 rw[eT (env':=lE S N A B X (some (.nw,.tup [.rl (A.map .int++[.int (-1)]),cP B])) none (some (.sh,fE a L R)) (some (.sh,fE a L R))) (by
  unfold lE;have z2:2<=sizeLine:=by decide
  simp only[EV,dw,Fj,Hv.jh,Hv.bP,i0,i1,bO jE,nC,ND,WL,oA,e6,z2])]
 refine⟨true,?_⟩;unfold lE;simp only[EV,iH,dw,Hv.bP,qM,qN]
theorem true(ns:List Int)(_:ns.length<=63):∃h',Kq [.rl (ns.map .int)] []=.ok (.bl true) h':=by
 obtain⟨f,e⟩:=Ua ns;exact Oc e
end K51
end
end
section
namespace PySem.W.Fast
theorem tw8655245068743364088:True:=trivial
theorem tw10909148043288061236:True:=trivial
theorem tw2206910662929384283:True:=trivial
theorem tw16229871958589234691:True:=trivial
theorem tw5066421566215807791:True:=trivial
theorem tw12445326371942318664:True:=trivial
theorem tw16693583546255083063:True:=trivial
theorem tw16016385143422301058:True:=trivial
theorem tw7504137878024113137:True:=trivial
theorem tw1519941189972750658:True:=trivial
theorem tw15217401452063145529:True:=trivial
theorem tw14845102055363534733:True:=trivial
theorem tw6868851283768749041:True:=trivial
theorem tw11270843779055483159:True:=trivial
theorem tw11325252472353544605:True:=trivial
theorem tw8463120162188455244:True:=trivial
theorem tw12594277566233875651:True:=trivial
theorem tw15870735286927979078:True:=trivial
theorem tw7451603524771366101:True:=trivial
theorem tw9330694853534370614:True:=trivial
theorem tw7219455421860674761:True:=trivial
theorem tw6277114921806572684:True:=trivial
theorem tw2397044493061981540:True:=trivial
theorem tw1455159708334700770:True:=trivial
theorem tw4770781824917039765:True:=trivial
theorem tw18441306418895532740:True:=trivial
theorem tw2768116760157160776:True:=trivial
theorem tw1915406223587866462:True:=trivial
theorem tw5507461466306268527:True:=trivial
theorem tw1318806261650829116:True:=trivial
theorem tw12161285323096732977:True:=trivial
theorem tw2410554291381971439:True:=trivial
theorem tw11227583574145728758:True:=trivial
theorem tw9403258502195481720:True:=trivial
theorem tw16676295096319162759:True:=trivial
theorem tw5411940490355038713:True:=trivial
theorem tw17065067436306572210:True:=trivial
theorem tw5289818641154268592:True:=trivial
theorem tw6105879934004481189:True:=trivial
theorem tw8065694202870328238:True:=trivial
theorem tw10504295366440930049:True:=trivial
theorem tw1473891126125165653:True:=trivial
theorem tw3356190282008642847:True:=trivial
theorem tw13031788581955852668:True:=trivial
theorem tw10279527793995886068:True:=trivial
theorem tw3064770702289213718:True:=trivial
theorem tw480562195896723449:True:=trivial
theorem tw17484754435090141990:True:=trivial
theorem tw2860043481485752073:True:=trivial
theorem tw14438441033650720830:True:=trivial
theorem tw463517823270290942:True:=trivial
theorem tw9950055618817064978:True:=trivial
theorem tw6675842108311242457:True:=trivial
theorem tw2070049786677088107:True:=trivial
theorem tw4261183194640033857:True:=trivial
theorem tw17551124312640403208:True:=trivial
theorem tw12048994338267695883:True:=trivial
theorem tw15017913172965285707:True:=trivial
theorem tw9194581876214987520:True:=trivial
theorem tw852750695886256506:True:=trivial
theorem tw13980400654318403462:True:=trivial
theorem tw2325520662748154714:True:=trivial
theorem tw8376570520019973136:True:=trivial
theorem tw17180525345274270360:True:=trivial
theorem tw2868195647562527462:True:=trivial
theorem tw11810171090359883266:True:=trivial
theorem tw8549642920719917181:True:=trivial
theorem tw14239214186527093681:True:=trivial
theorem tw14952266563947208945:True:=trivial
theorem tw6210174631681157635:True:=trivial
theorem tw5879000610628813396:True:=trivial
theorem tw8300206775413430083:True:=trivial
theorem tw1384643755083412085:True:=trivial
theorem tw9873944508795212336:True:=trivial
theorem tw4086724536530568423:True:=trivial
theorem tw11247815721629154516:True:=trivial
theorem tw4555031821717484284:True:=trivial
theorem tw1110234101154712559:True:=trivial
theorem tw8971372793441717157:True:=trivial
theorem tw12439532308119320784:True:=trivial
theorem tw6366149895983930672:True:=trivial
theorem tw9766697184175173935:True:=trivial
theorem tw9878170119184650257:True:=trivial
theorem tw8749093707821983590:True:=trivial
theorem tw13923920404354131113:True:=trivial
theorem tw18413119277886927734:True:=trivial
theorem tw10527406854200373629:True:=trivial
theorem tw9826750341418661101:True:=trivial
theorem tw18365589990710676720:True:=trivial
theorem tw14041449640944953651:True:=trivial
theorem tw828657519362100134:True:=trivial
theorem tw12935097136564126324:True:=trivial
theorem tw3172129137292765281:True:=trivial
theorem tw8896456654131729489:True:=trivial
theorem tw11158913138310448510:True:=trivial
theorem tw663525662616688900:True:=trivial
theorem tw7547028418514775533:True:=trivial
theorem tw14906452356746426854:True:=trivial
theorem tw14614843359138335270:True:=trivial
theorem tw16262761548803709611:True:=trivial
theorem tw17551130320137422832:True:=trivial
theorem tw15726951871376184630:True:=trivial
theorem tw15819178018193127267:True:=trivial
theorem tw18267786907495193354:True:=trivial
theorem tw7415343435965134968:True:=trivial
theorem tw1137344318272993430:True:=trivial
theorem tw3642140298634246413:True:=trivial
theorem tw15057674963616127960:True:=trivial
theorem tw6865543117000525159:True:=trivial
theorem tw6410721259041565249:True:=trivial
theorem tw18165214222924176524:True:=trivial
theorem tw15267306357629983585:True:=trivial
theorem tw2306906933650668281:True:=trivial
theorem tw15289465120768493684:True:=trivial
theorem tw9118040123195465581:True:=trivial
theorem tw46626070694043741:True:=trivial
theorem tw1766823994244890847:True:=trivial
theorem tw13458052642902176127:True:=trivial
theorem tw13041756621530906125:True:=trivial
theorem tw5267999488067109933:True:=trivial
theorem tw2842355024752498710:True:=trivial
theorem tw1370822016231285132:True:=trivial
theorem tw1337145364929485168:True:=trivial
theorem tw10755327132963022685:True:=trivial
theorem tw12869703321785247211:True:=trivial
theorem tw14156492244154346439:True:=trivial
theorem tw4788388266729870020:True:=trivial
theorem tw1935538188233895290:True:=trivial
theorem tw1205350213416942489:True:=trivial
theorem tw15263835490891373279:True:=trivial
theorem tw15114838583528893094:True:=trivial
theorem tw17750848084333817482:True:=trivial
theorem tw13961848935041717630:True:=trivial
theorem tw13990658396867465288:True:=trivial
theorem tw14493658933211143073:True:=trivial
theorem tw6454589339932391857:True:=trivial
theorem tw11452239922571055968:True:=trivial
theorem tw1708826217923252563:True:=trivial
theorem tw7604734518904598709:True:=trivial
theorem tw2002826415350029068:True:=trivial
theorem tw8812868673665665720:True:=trivial
theorem tw14824954551911181903:True:=trivial
theorem tw1588353043951912787:True:=trivial
theorem tw6816346239708190571:True:=trivial
theorem tw11488467603529930859:True:=trivial
theorem tw3999922373011003938:True:=trivial
theorem tw12967808487711925580:True:=trivial
end PySem.W.Fast
open PySem PySem.W PyProof.Rows
set_option maxRecDepth 100000 in
set_option maxHeartbeats 0 in
theorem PySem.Challenge.cw_linkorcut_k51_mended_in_trees_holds : PySem.Challenge.rw_linkorcut_k51_mended_in_trees.Holds := by
 w_on;o_law;k_head;(case hw=>w_witness2)
 k_fill
 refine Hv.walk (l:=PySem.Challenge.rw_linkorcut_k51_mended_in_trees) (k:=90) (x:="_law_script") rfl rfl ⟨rfl,by decide,by decide⟩ (λw h Y=>PySem.W.kIn_of Y) ?F
 case F=>
  intro w mg fa h KX G hmg;refine' K51.all_mk KX G hmg K51.true ?_ ?_ ?_ ?_ ?_ ?_ ?_ ?_ ?_ ?_ ?_ ?_ ?_ ?_ ?_ ?_ ?_ ?_ ?_ ?_ ?_ ?_ ?_ ?_ ?_ ?_ ?_ ?_ ?_ ?_ ?_ ?_ ?_ ?_ ?_ ?_ ?_ ?_ ?_ ?_ ?_ ?_ ?_ ?_ ?_ ?_ ?_ ?_ ?_ ?_ ?_ ?_ ?_ ?_ ?_ ?_ ?_ ?_ ?_ ?_ ?_ ?_ ?_ ?_ ?_ ?_ ?_ ?_ ?_ ?_ ?_ ?_ ?_ ?_ ?_ ?_ ?_ ?_ ?_ ?_ ?_ ?_ ?_ ?_ ?_ ?_ ?_ ?_ ?_ ?_ ?_ ?_ ?_ ?_ ?_ ?_ ?_ ?_ ?_ ?_ ?_ ?_ ?_ ?_ ?_ ?_ ?_ ?_
  all_goals try first|k_is|(exact⟨_,L2.fun_mk (by k_is) (by k_is) (by k_is)⟩)|(intro x hx;simp only[Hv.bltNames,List.mem_cons,List.not_mem_nil,or_false]at hx;rcases hx with rfl|rfl|rfl|rfl|rfl|rfl|rfl|rfl|rfl|rfl|rfl|rfl|rfl|rfl|rfl|rfl|rfl<;>k_is)
#print axioms PySem.Challenge.cw_linkorcut_k51_mended_in_trees_holds
end
