import PyProof.Rows.All
import Wide.All
import OpenK.AllK
import Wide.FinOn
import Lean
import PyProof.EqAt
import PyProof.EqKinds
import PyProof.TupleCall
import KE.KDictList
import KE.KDictLaws
import KE.KDictSum
import KE.KRevSl
import PyProof.DictWalks
import PySem.Challenge.RW_linkorcut_k36_whole_reaching_alike
set_option Elab.async false
set_option compiler.extract_closed false
set_option linter.all false
set_option maxRecDepth 100000
set_option maxHeartbeats 4000000
set_option genSizeOf false
set_option backward.eqns.nonrecursive false
set_option backward.eqns.deepRecursiveSplit false
set_option bootstrap.genMatcherCode false
open Array(getElem?_toList length_toList)
open Bool(and_eq_true false_eq_true not_eq_true' or_eq_true)
open Classical(choose_spec)
open PySem.Heap(get?_push_of_some get?_push_size get?_update_other get?_update_self lt_size size_push)
open Int(emod_lt_of_pos emod_nonneg eq_ofNat_of_zero_le not_lt toNat_natCast)
open List(all_cons all_eq_true all_map any_cons any_map append_nil cons_append contains_iff_mem ext_getElem filter_congr filter_eq_self filter_sublist find?_cons getElem?_append_left getElem?_append_right getElem?_map getElem?_set_ne getElem?_set_self getElem_map getElem_of_mem length length_append length_cons length_drop length_filter_le length_map length_nil length_range length_set length_take lookup_cons map_append map_congr_left map_cons map_id map_map map_nil mem_append mem_append_left mem_append_right mem_cons mem_cons_of_mem mem_cons_self mem_filter mem_map mem_map_of_mem mem_of_getElem? mem_singleton nil_append nodup_append nodup_cons nodup_nil not_mem_nil of_mem_zip pairwise_cons pairwise_iff_getElem pairwise_map prefix_append prefix_refl range' replicate set_cons_succ set_cons_zero size_toArray toArray zip_cons_cons)
open Nat(le_succ le_trans lt_irrefl lt_of_lt_of_le lt_succ_of_lt lt_succ_self lt_trans mod_lt ne_of_lt zero_le)
open Option(bind_eq_some_iff bind_some getD_none isSome_map map_eq_some_iff map_some)
open PySem.W(callWith_K callWith_K0 cellsFrom_some codeIn emptyDict eq_sortI findCls findIn handedIn hasDictIn instObj kat_lt keepIn kia_one kitOne kitx_list lookIn makesIn methodObj mg_none_of mg_of plainGet plainGet_of plainOver readsIn sortI_perm sortI_rises specialIn takerIn typeIn)
section
namespace L2
open PySem PySem.Spec PyProof.Rows
noncomputable abbrev Key:=Sum Int Str
noncomputable def qj:Key->Value->Bool
 |.inl k,v=>Value.isInt k v
 |.inr x,v=>Value.isStrOf x v
noncomputable def Tv(w:World):Key->Int
 |.inl k=>hashInt k
 |.inr x=>hashStr w x
theorem bQ:∀{k:Key} {v:Value},qj k v=true->(∃i t,k=Sum.inl i/\v=Value.int i t)\/(∃x t,k=Sum.inr x/\v=Value.str x t)
 | .inl i,v,h=>by
  obtain⟨t,e⟩:=Value.isInt_shape (k:=i) (v:=v) h;exact .inl ⟨i,t,rfl,e⟩
 | .inr x,v,h=>by
  obtain⟨t,e⟩:=Value.isStrOf_shape (x:=x) (v:=v) h;exact .inr ⟨x,t,rfl,e⟩
theorem Ba(i:Int)(t:Tok):qj (.inl i) (.int i t)=true:=by simp[qj,Value.isInt]
theorem Bb(x:Str)(t:Tok):qj (.inr x) (.str x t)=true:=by simp[qj,Value.isStrOf]
theorem KD(a b:Int):decide ((Sum.inl a:Key)=Sum.inl b)=(a==b):=by
 by_cases e:a=b
 ·subst e;simp
 ·have h:¬ (Sum.inl a:Key)=Sum.inl b:=λq=>e (Sum.inl.inj q);rw[decide_eq_false h];exact(beq_eq_false_iff_ne.mpr e).symm
theorem KG(a b:Str):decide ((Sum.inr a:Key)=Sum.inr b)=decide (a=b):=by
 by_cases e:a=b
 ·subst e;simp
 ·have h:¬ (Sum.inr a:Key)=Sum.inr b:=λq=>e (Sum.inr.inj q);rw[decide_eq_false h,decide_eq_false e]
theorem KH(a:Int)(b:Str):decide ((Sum.inl a:Key)=Sum.inr b)=false:=decide_eq_false (λq=>nomatch q)
theorem KI(a:Str)(b:Int):decide ((Sum.inr a:Key)=Sum.inl b)=false:=decide_eq_false (λq=>nomatch q)
noncomputable def aR(prog:Program)(w:World):PySem.KeyKind prog w Key where
 is:=qj
 hash:=Tv w
 inj:=λv a b ha hb=>by
  rcases bQ ha with ⟨i,t,rfl,rfl⟩|⟨x,t,rfl,rfl⟩
  ·rcases bQ hb with ⟨j,u,rfl,e⟩|⟨y,u,rfl,e⟩
   ·injection e with e1 _;rw[e1]
   ·exact nomatch e
  ·rcases bQ hb with ⟨j,u,rfl,e⟩|⟨y,u,rfl,e⟩
   ·exact nomatch e
   ·injection e with e1 _;rw[e1]
 byValue:=λk v h=>by
  rcases bQ h with ⟨i,t,rfl,rfl⟩|⟨x,t,rfl,rfl⟩<;>rfl
 pyHash:=λhv h=>by
  rcases bQ hv with ⟨i,t,rfl,rfl⟩|⟨x,t,rfl,rfl⟩
  ·exact wpAny_pyHash_int h
  ·exact wpAny_pyHash_str h
 eqBool:=λhu hv h=>by
  rcases bQ hu with ⟨i,t,rfl,rfl⟩|⟨x,t,rfl,rfl⟩
  ·rcases bQ hv with ⟨j,u,rfl,rfl⟩|⟨y,u,rfl,rfl⟩
   ·rw[KD]at h;exact wpAny_eqBool_int h
   ·rw[KH]at h;exact SeqAt.EqAt.int_str i t y u _ _ _ _ h
  ·rcases bQ hv with ⟨j,u,rfl,rfl⟩|⟨y,u,rfl,rfl⟩
   ·rw[KI]at h;exact SeqAt.EqAt.str_int x t j u _ _ _ _ h
   ·rw[KG]at h;exact wpAny_eqBool_str h
 «strs»:=λk x t v h=>by
  rcases bQ h with ⟨i,u,rfl,e⟩|⟨y,u,rfl,e⟩
  ·exact nomatch e
  ·injection e with e1 _
   subst e1;cases v<;>rfl
theorem yw(prog:Program)(w:World)(k:Key)(v:Value):(aR prog w).is k v=qj k v:=rfl
theorem vW(prog:Program)(w:World)(i:Int)(t:Tok):(aR prog w).is (.inl i) (.int i t)=true:=Ba i t
theorem vX(prog:Program)(w:World)(x:Str)(t:Tok):(aR prog w).is (.inr x) (.str x t)=true:=Bb x t
end L2
namespace L2
open PySem PySem.Spec PyProof.Rows
inductive V where
 |non|bl (b:Bool)|int (i:Int)|str (x:Str)|byt (b:Array UInt8)|flt (b:UInt64)|ref (a:Addr)|ty (n:String)
 deriving DecidableEq
noncomputable def RelV:V->Value->Prop
 |.non,u=>u=Value.none
 |.bl b,u=>u=Value.bool b
 |.int i,u=>∃t,u=Value.int i t
 |.str x,u=>∃t,u=Value.str x t
 |.byt b,u=>∃t,u=Value.bytes b t
 |.flt b,u=>∃t,u=Value.float b t
 |.ref a,u=>u=Value.ref a
 |.ty n,u=>u=Value.type n
noncomputable abbrev Vals:List V->List Value->Prop:=Paired RelV
theorem Vals.length(r:Vals xs us):xs.length=us.length:=Paired.length r
theorem Vals.get:∀{xs:List V} {us:List Value} {i:Nat} {x:V},Vals xs us->xs[i]?=some x->∃u,us[i]?=some u/\RelV x u
 |_,_,_,_,.nil,e=>by simp at e
 |_,_,0,_,.cons r _,e=>by simp at e;subst e;exact⟨_,rfl,r⟩
 | _,_,i+1,x,.cons _ t,e=>by
  obtain⟨u,h1,h2⟩:=Vals.get (i:=i) (x:=x) t (by simpa using e);exact⟨u,by simpa using h1,h2⟩
theorem Vals.set(r:RelV x u):∀{xs:List V} {us:List Value} (i:Nat),Vals xs us->Vals (xs.set i x) (us.set i u)
 |_,_,_,.nil=>.nil
 |_,_,0,.cons _ t=>.cons r t
 |_,_,i+1,.cons q t=>.cons q (Vals.set r i t)
theorem Vals.append:∀{xs ys:List V} {us ws:List Value},Vals xs us->Vals ys ws->Vals (xs++ys) (us++ws)
 |_,_,_,_,.nil,s=>s
 |_,_,_,_,.cons r t,s=>.cons r (Vals.append t s)
theorem Vals.take:∀{xs:List V} {us:List Value} (n:Nat),Vals xs us->Vals (xs.take n) (us.take n)
 |_,_,0,_=>.nil
 |_,_,_+1,.nil=>.nil
 |_,_,n+1,.cons r t=>.cons r (Vals.take n t)
theorem Vals.drop:∀{xs:List V} {us:List Value} (n:Nat),Vals xs us->Vals (xs.drop n) (us.drop n)
 |_,_,0,r=>r
 |_,_,_+1,.nil=>.nil
 |_,_,n+1,.cons _ t=>Vals.drop n t
noncomputable def kc:Option V->Option Value->Prop
 |some v,some u=>RelV v u
 |none,none=>True
 |_,_=>False
noncomputable def KV{κ:Type}:List (κ × V)->List (κ × Value)->Prop:=Paired λ(p:κ × V) (q:κ × Value)=>p.1=q.1/\RelV p.2 q.2
noncomputable def kV:Key->V
 |.inl i=>.int i
 |.inr x=>.str x
inductive HO where
  |lst (xs:List V)
  |tup (xs:List V)
  |dK (kvs:List (Key×V))|dT (kvs:List (List Key×V))
  |set (S:Int->Bool) (n:Nat)
  |ins (C dx:Addr) (fs:List (Str×V))
  |own (x:Addr)
  |xd (fs:List (Str×V))
  |met (f x:Addr)
  |rng (lo hi:Int)
  |kg (o:Obj) (u:HO)
  |tbl (ps:Array Value)
  |ext (φ:Heap->Prop)
noncomputable abbrev Hp:=Addr->Option HO
noncomputable def upd(H:Hp)(a:Addr)(o:HO):Hp:=λb=>if b=a then some o else H b
theorem aO:upd H a o a=some o:=by unfold upd;rw[if_pos rfl]
theorem ao(h:b≠a):upd H a o b=H b:=by unfold upd;rw[if_neg h]
theorem Gp:upd (upd H a o) a u=upd H a u:=by
 funext b;unfold upd;split<;>rfl
theorem OM{H:Hp}{a b:Addr}{o u:HO}(h:H a=some o)(h':H b=some u)(d:o≠u):a≠b:=by
 intro e;subst e;rw[h]at h';exact d (Option.some.inj h')
theorem aG{H:Hp}{a b:Addr}{o:HO}(h:H a=some o)(h':H b=none):a≠b:=by
 intro e;subst e;rw[h]at h';cases h'
section
variable (P:Program) (w:World)
noncomputable def bT(H:Hp)(h:Heap)(a:Addr):HO->Prop
 |.lst xs=>xs.length<=sizeLine/\∃(its:List Value) (n:Nat),Vals xs its/\h.get? a=some { cls:=.type "list",data:=.seq its.toArray n }
 |.tup xs=>xs.length<=sizeLine/\∃its:List Value,Vals xs its/\IsTup h a its.toArray
 |.dK kvs=>kvs.length<=sizeLine/\(a==sysModules)=false/\∃vs,KV kvs vs/\h.DictOf (aR P w) a vs
 | .dT kvs=>kvs.length<=sizeLine/\(a==sysModules)=false/\∃xs:List (List Key×Addr×Value),
   Paired (λ(p:List Key×V) (q:List Key×Addr×Value)=>p.1=q.1/\H q.2.1=some (.tup (p.1.map kV))/\RelV p.2 q.2.2) kvs xs /\
   ∃o es ep,h.get? a=some o/\o.ExactDict/\o.data=.dict es ep/\es.toList=xs.map (entryOfKey (tupleKind (aR P w)))/\(xs.map (·.1)).Nodup
 |.set S n=>h.SetOf (intKind P w) a S n
 | .ins C dx fs=>H dx=some (.own a)/\fs.length<=1000/\dx≠a/\h.get? a=some (instObj C dx) /\
   ∃mA,h.Ns1 dx mA/\(∀f,kc (fs.lookup f) (mA f))/\PySem.Within mA (fs.map (·.1))
 |.own _=>∃o,h.get? a=some o
 |.xd fs=>∃mA,h.Ns1 a mA/\∀f,kc (fs.lookup f) (mA f)
 |.rng lo hi=>∃t u v,h.get? a=some { cls:=.type "range",data:=.fields #[.int lo t,.int hi u,.int 1 v] }
 |.kg o u=>h.get? a=some o/\bT H h a u
 |.tbl ps=>h.get? a=some { cls:=.none,data:=.fields ps }
 |.met f x=>h.get? a=some (methodObj (.ref f) (.ref x))
 |.ext φ=>φ h/\(∃o,h.get? a=some o)/\∀h1 h2:Heap,φ h1->(∀o,h1.get? a=some o->h2.get? a=some o) -> φ h2
noncomputable def mj(H:Hp)(h:Heap):Prop:=∀a o,H a=some o->bT P w H h a o
end
section
variable {P:Program} {w:World} {H H':Hp} {h h':Heap} {a:Addr} {o:HO}
theorem bT.lt(x:bT P w H h a o):a<h.objs.size:=by
 cases o with
 |lst xs=>obtain⟨_,_,_,_,e⟩:=x;exact lt_size e
 |tup xs=>obtain⟨_,_,_,p⟩:=x;exact p.lt
 |dK kvs=>obtain⟨_,_,_,_,o,_,_,e,_⟩:=x;exact lt_size e
 |dT kvs=>obtain⟨_,_,_,_,o,_,_,e,_⟩:=x;exact lt_size e
 |set S n=>obtain⟨o,_,_,_,e,_⟩:=x;exact lt_size e
 |ins C dx fs=>obtain⟨_,_,_,e,_⟩:=x;exact lt_size e
 |own y=>obtain⟨_,e⟩:=x;exact lt_size e
 |xd fs=>obtain⟨_,⟨_,_,_,e,_⟩,_⟩:=x;exact lt_size e
 |rng lo hi=>obtain⟨_,_,_,e⟩:=x;exact lt_size e
 |kg ob u=>obtain⟨e,_⟩:=x;exact lt_size e
 |tbl ps=>exact lt_size (show h.get? a=some _ from x)
 |met f y=>exact lt_size (show h.get? a=some _ from x)
 |ext φ=>obtain⟨_,⟨_,e⟩,_⟩:=x;exact lt_size e
theorem Paired.KJ{α β:Type}{F G:α -> β -> Prop}:∀{l₁:List α} {l₂:List β},Paired F l₁ l₂->(∀a b,F a b->G a b)->Paired G l₁ l₂
 |_,_,.nil,_=>.nil
 |_,_,.cons r t,f=>.cons (f _ _ r) (Paired.KJ t f)
theorem bT.stay(x:bT P w H h a o)(k:∀b u,(b=a\/H b=some (.own a))->h.get? b=some u->h'.get? b=some u)
  (ho:∀b,H b=some (.own a)->H' b=some (.own a)) (ht:∀b xs,H b=some (.tup xs)->H' b=some (.tup xs)):bT P w H' h' a o:=by
 induction o with
 |lst xs=>obtain⟨z,its,n,r,e⟩:=x;exact⟨z,its,n,r,k _ _ (.inl rfl) e⟩
 |tup xs=>obtain⟨z,its,r,ob,e,c⟩:=x;exact⟨z,its,r,ob,k _ _ (.inl rfl) e,c⟩
 |dK kvs=>obtain⟨z,y,vs,r,ob,es,ep,e,c⟩:=x;exact⟨z,y,vs,r,ob,es,ep,k _ _ (.inl rfl) e,c⟩
 |dT kvs=>obtain⟨z,y,xs,r,ob,es,ep,e,c⟩:=x;exact⟨z,y,xs,Paired.KJ r λp q z=>⟨z.1,ht _ _ z.2.1,z.2.2⟩,ob,es,ep,k _ _ (.inl rfl) e,c⟩
 |set S n=>obtain⟨ob,es,ep,t,e,c⟩:=x;exact⟨ob,es,ep,t,k _ _ (.inl rfl) e,c⟩
 |ins C dx fs=>obtain⟨d,z,ne,e,mA,⟨od,es,ep,e2,c⟩,r⟩:=x;exact⟨ho _ d,z,ne,k _ _ (.inl rfl) e,mA,⟨od,es,ep,k _ _ (.inr d) e2,c⟩,r⟩
 |own y=>obtain⟨ob,e⟩:=x;exact⟨ob,k _ _ (.inl rfl) e⟩
 |xd fs=>obtain⟨mA,⟨od,es,ep,e,c⟩,r⟩:=x;exact⟨mA,⟨od,es,ep,k _ _ (.inl rfl) e,c⟩,r⟩
 |rng lo hi=>obtain⟨t,u,v,e⟩:=x;exact⟨t,u,v,k _ _ (.inl rfl) e⟩
 |kg ob u ih=>obtain⟨e,q⟩:=x;exact⟨k _ _ (.inl rfl) e,ih q⟩
 |tbl ps=>have e:h.get? a=some { cls:=.none,data:=.fields ps }:=x;show h'.get? a=some { cls:=.none,data:=.fields ps };exact k a _ (.inl rfl) e
 |met f y=>have e:h.get? a=some (methodObj (.ref f) (.ref y)):=x;show h'.get? a=some (methodObj (.ref f) (.ref y));exact k a _ (.inl rfl) e
 |ext φ=>obtain⟨p,⟨o,e⟩,st⟩:=x;exact⟨st _ _ p λo q=>k _ _ (.inl rfl) q,⟨o,k _ _ (.inl rfl) e⟩,st⟩
theorem mj.lt(x:mj P w H h)(e:H a=some o):a<h.objs.size:=(x a o e).lt
theorem mj.fresh(x:mj P w H h)(e:h.objs.size<=a):H a=none:=by
 cases q:H a with
 |none=>rfl
 |some u=>exact absurd (lt_of_lt_of_le (x.lt q) e) (lt_irrefl _)
theorem mj.kept(x:mj P w H h)(k:∀b u,h.get? b=some u->h'.get? b=some u):mj P w H h':=λa o e=>
 (x a o e).stay (λb u _ q=>k b u q) (λ_ q=>q) λ_ _ q=>q
theorem mj.laid(x:mj P w H h)(k:∀b u,h.get? b=some u->h'.get? b=some u)(hp:h.objs.size<=a)(new:bT P w (upd H a o) h' a o):mj P w (upd H a o) h':=λb u e=>by
 have hn:=x.fresh hp
 by_cases hb:b=a
 ·subst hb;rw[aO]at e;cases e;exact new
 ·rw[ao hb]at e;exact(x b u e).stay (λc v _ q=>k c v q) (λc q=>by rw[ao (aG q hn)];exact q) λc xs q=>by rw[ao (aG q hn)];exact q
end
noncomputable def Rd(H:Hp)(a:Addr)(u:HO):Prop:=H a=some u\/∃o,H a=some (.kg o u)
theorem Rd.ok(r:Rd H a u)(x:mj P w H h):bT P w H h a u:=by
 rcases r with r|⟨o,r⟩
 ·exact x a u r
 ·obtain⟨_,q⟩:=x a _ r;exact q
noncomputable def ON:Option HO->Prop
 |some (.lst _)=>True
 |some (.dK _)=>True
 |some (.dT _)=>True
 |some (.set _ _)=>True
 |some (.ins _ _ _)=>True
 |some (.ext _)=>True
 |_=>False
section
variable {P:Program} {w:World} {H:Hp} {h h':Heap} {x e:Addr} {o':HO}
theorem mj.write(ok:mj P w H h)(mu:ON (H x))(he:e=x\/H e=some (.own x))(k:∀b u,b≠e->h.get? b=some u->h'.get? b=some u)(Om:∃u,h'.get? e=some u)
  (new:bT P w (upd H x o') h' x o'):mj P w (upd H x o') h':=λb u q=>by
 have nown:∀c y,H c=some (.own y)->c≠x:=λc y r z=>by subst z;rw[r]at mu;exact mu
 have ntup:∀c xs,H c=some (.tup xs)->c≠x:=λc xs r z=>by subst z;rw[r]at mu;exact mu
 by_cases hb:b=x
 ·subst hb;rw[aO]at q;cases q;exact new
 ·rw[ao hb]at q
  by_cases KL:b=e
  ·have q':H b=some (.own x):=by
    rcases he with z|z
    ·exact absurd (KL.trans z) hb
    ·rw[KL];exact z
   rw[q]at q';cases q';obtain⟨v,hv⟩:=Om;exact⟨v,by rw[KL];exact hv⟩
  ·refine(ok b u q).stay (λc v hc r=>k c v ?_ r) (λc r=>by rw[ao (nown c b r)];exact r) λc xs r=>by rw[ao (ntup c xs r)];exact r
   rcases hc with rfl|hc
   ·exact KL
   ·rintro rfl
    rcases he with z|z
    ·exact nown c b hc z
    ·rw[hc]at z;cases z;exact hb rfl
end
structure Un (fs ex:List Addr) (H H':Hp) (h h':Heap):Prop where
 keep:∀b o,h.get? b=some o->H b=none->b∉fs->b∉ex->h'.get? b=some o
 slot:∀b o,h.get? b=some o->H b=none->b∈fs->b∉ex->∃sl,h'.get? b=some { o with slots:=sl }
 free:∀b o,h.get? b=some o->H b=none->b∉ex->H' b=none
 there:∀b o,h.get? b=some o->b∉ex->∃o',h'.get? b=some o'
 tups:∀b xs,H b=some (.tup xs)->H' b=some (.tup xs)
 frzs:∀b o u,H b=some (.kg o u)->H' b=some (.kg o u)
 sP:∀b ps,H b=some (.tbl ps)->∃more,H' b=some (.tbl (ps++more))
section
variable {fs fs' ex ex':List Addr} {H H1 H2:Hp} {h h1 h2 h':Heap} {a x e:Addr} {o:HO}
theorem Un.any(u:Un fs ex H H1 h h1)(q:h.get? b=some ob)(n:H b=none)(hx:b∉ex):∃sl,h1.get? b=some { ob with slots:=sl }:=by
 by_cases hb:b∈fs
 ·exact u.slot b ob q n hb hx
 ·exact⟨ob.slots,u.keep b ob q n hb hx⟩
theorem Un.kept(k:∀b u,h.get? b=some u->h'.get? b=some u):Un fs ex H H h h' :=
 ⟨λb ob q _ _ _=>k b ob q,λb ob q _ _ _=>⟨ob.slots,k b ob q⟩,λ_ _ _ n _=>n,λb ob q _=>⟨ob,k b ob q⟩,λ_ _ q=>q,λ_ _ _ q=>q,λ_ ps q=>⟨#[],by rw[q];simp⟩⟩
theorem Un.refl:Un fs ex H H h h:=Un.kept λ_ _ q=>q
theorem Un.laid(k:∀b u,h.get? b=some u->h'.get? b=some u)(hp:h.objs.size<=a)(hn:H a=none):Un fs ex H (upd H a o) h h' where
 keep:=λb u q _ _ _=>k b u q
 slot:=λb u q _ _ _=>⟨u.slots,k b u q⟩
 free:=λb u q n _=>by rw[ao (ne_of_lt (lt_of_lt_of_le (lt_size q) hp))];exact n
 there:=λb u q _=>⟨u,k b u q⟩
 tups:=λb xs q=>by rw[ao (aG q hn)];exact q
 frzs:=λb u xs q=>by rw[ao (aG q hn)];exact q
 sP:=λb ps q=>⟨#[],by rw[ao (aG q hn),q];simp⟩
theorem Un.write(mu:ON (H x))(he:e=x\/H e=some (.own x))(k:∀b u,b≠e->h.get? b=some u->h'.get? b=some u)(Om:∃u,h'.get? e=some u):Un fs ex H (upd H x o) h h':=by
 have hx:∀b,H b=none->b≠x:=λb n z=>by subst z;rw[n]at mu;exact mu
 have hb:∀b,H b=none->b≠e:=λb n z=>by
  subst z
  rcases he with r|r
  ·exact hx b n r
  ·rw[n]at r;cases r
 have hm:∀b u,H b=some u->¬ ON (some u)->b≠x:=λb u q nm z=>by subst z;rw[q]at mu;exact nm mu
 refine⟨λb u q n _ _=>k b u (hb b n) q,λb u q n _ _=>⟨u.slots,k b u (hb b n) q⟩,λb u q n _=>by rw[ao (hx b n)];exact n,λb u q _=>?_,
  λb xs q=>by rw[ao (hm b _ q λz=>z)];exact q,λb u xs q=>by rw[ao (hm b _ q λz=>z)];exact q,λb ps q=>⟨#[],by rw[ao (hm b _ q λz=>z),q];simp⟩⟩
 by_cases KL:b=e
 ·subst KL;exact Om
 ·exact⟨u,k b u KL q⟩
end
noncomputable def lH(h:Heap)(H:Hp):List Addr:=(List.range h.objs.size).filter λa=>(H a).isSome
noncomputable def uI(h:Heap)(H:Hp):Heap:=PySem.W.hideAll h (lH h H)
theorem Bc(h:Heap)(H:Hp):(uI h H).objs.size=h.objs.size:=PySem.W.hideAll_size _ _
theorem Cz(e:h.get? b=some o)(n:H b=none):(uI h H).get? b=some o :=
 PySem.W.hideAll_get _ e λhm=>by
  have q:(H b).isSome=true:=(mem_filter.mp hm).2;rw[n]at q;simp at q
theorem Gq(e:(uI h H).get? b=some o):h.get? b=some o/\H b=none:=by
 have e':h.get? b=some o:=PySem.W.of_hideAll (lH h H) e;refine⟨e',?_⟩;cases q:H b with
 |none=>rfl
 |some x=>have hm:b∈lH h H:=mem_filter.mpr ⟨List.mem_range.mpr (lt_size e'),by simp[q]⟩;have z:(uI h H).get? b=none:=PySem.W.hideAll_none (lH h H) hm;rw[z]at e;cases e
noncomputable def Gs(g h:Heap)(L:Addr):List (Addr×Obj):=(List.range h.objs.size).filterMap λa=>if a=L\/(g.get? a).isSome=true then none else (h.get? a).map λo=>(a,o)
noncomputable def rest(g h:Heap)(L d:Addr):List (Addr×Obj):=(Gs g h L).filter λp=>decide (p.1≠d)
end L2
namespace L2
open PySem PySem.Spec PyProof.Rows
structure Mod (K:PySem.W.Frag) (mg:Str->Option Value) (base:Heap):Prop where
 Oo:K.In base
 glob:base.Ns mainGlobals mg
 blt:∃mb,base.Ns builtinsNs mb/\∀x:Str,x ≠ "__name__" -> mb x=bootBuiltins x
 nolimit:base.NoLimit
structure Cx where
 prog:Program
 w:World
 K:PySem.W.Frag
 mg:Str->Option Value
 base:Heap
 A:Around
 N:List Str
 s₀:Shared
 H₀:Hp
 env:Env
 outer:List Env
 stack:List Env
 ex:List Addr
 fn:Str->Bool
 calm:Bool
 pn:List (Addr×Obj)
 xe:Value->Shared->Prop
noncomputable def frs(l:List Env):List Addr:=l.filterMap (·.frame)
noncomputable abbrev Cx.fs(X:Cx):List Addr:=frs X.outer
noncomputable def OO(sc:Scope)(x:Str):Prop:=sc.names.lookup x=some .local\/sc.names.lookup x=some .cell\/sc.names.lookup x=some .free
noncomputable def Loc(sc:Scope)(x:Str):Prop:=sc.names.lookup x=some .local\/sc.names.lookup x=some .cell
noncomputable def Look(env:Env)(h:Heap)(m:Str->Option Value)(x:Str)(u:Value):Prop :=
 (env.kindOf x=some .local/\m x=some u)\/((env.kindOf x=some .cell\/env.kindOf x=some .free)/\∃c,env.cells.lookup x=some c/\h.IsCell c (some u))
structure Cx.Ok (X:Cx):Prop where
 mod:Mod X.K X.mg X.base
 kind:X.env.scope.kind=.function
 glob:X.env.globals=mainGlobals
 blt:X.env.builtins=builtinsNs
 above:X.s₀.heap.objs.size<=X.env.locals
 inj:∀x y c,X.env.cells.lookup x=some c->X.env.cells.lookup y=some c->x=y
 has:∀x,(X.env.kindOf x=some .cell\/X.env.kindOf x=some .free)->∃c,X.env.cells.lookup x=some c
 OP:∀x c,X.fn x=true->X.env.cells.lookup x=some c->X.s₀.heap.objs.size<=c
 hd:X.calm=true->X.A.handled=none
 frames:X.A.frames=some X.stack
 stk:X.stack=X.outer\/(X.stack=X.env::X.outer/\X.env.frame=some X.env.locals)
 Tw:∀b∈X.ex,b≠X.env.locals/\∀x c,X.env.cells.lookup x=some c->c≠b
 bs:∀b o,X.base.get? b=some o->X.s₀.heap.get? b=some o/\X.H₀ b=none
 JN:X.base.objs.size<=X.s₀.heap.objs.size
 mq:∀b o,X.base.get? b=some o->b∉X.ex
 CA:∀b∈X.ex,b∉X.fs
 pM:X.s₀.heap.FunFrames X.base X.outer
 KN:∀b∈X.fs,X.H₀ b=none
structure Inv (X:Cx) (pins:List (Addr×Obj)) (σ:List (Option V)) (H:Hp) (s:Shared):Prop where
 ok:X.Ok
 os:s.os=X.s₀.os
 bare:AllBare s.gens
 base:Un X.fs X.ex X.H₀ H X.s₀.heap s.heap
 loc:∃m,s.heap.Ns X.env.locals m/\∀(i:Nat) (x:Str) (v:V),X.N[i]?=some x -> σ[i]?=some (some v)->OO X.env.scope x->∃u,RelV v u/\Look X.env s.heap m x u
 cell:∀x c,X.env.cells.lookup x=some c->∃v,s.heap.IsCell c v
 free:H X.env.locals=none
 iN:∀x c,X.env.cells.lookup x=some c->H c=none
 pin:∀p∈X.pn++pins,s.heap.get? p.1=some p.2/\H p.1=none/\p.1≠X.env.locals/\p.1∉X.fs/\∀v,p.2.data≠.cell v
 hok:mj X.prog X.w H s.heap
 len:σ.length=X.N.length
section
variable {X:Cx} {pins:List (Addr×Obj)} {σ:List (Option V)} {H H':Hp} {s:Shared} {h':Heap}
theorem Cx.Ok.Tz(ok:X.Ok)(e:X.base.get? b=some o):b∉X.fs:=λhb=>by
 have:=(ok.pM.mem hb).1;rw[e]at this;cases this
theorem Inv.bs(I:Inv X pins σ H s):∀b o,X.base.get? b=some o->s.heap.get? b=some o/\H b=none:=λb o e=>
 ⟨I.base.keep b o (I.ok.bs b o e).1 (I.ok.bs b o e).2 (I.ok.Tz e) (I.ok.mq b o e),I.base.free b o (I.ok.bs b o e).1 (I.ok.bs b o e).2 (I.ok.mq b o e)⟩
theorem Inv.bk(I:Inv X pins σ H s):∀b o,X.base.get? b=some o->s.heap.get? b=some o:=λb o e=>(I.bs b o e).1
theorem Inv.mod(I:Inv X pins σ H s):Mod X.K X.mg X.base:=I.ok.mod
theorem Inv.nM(I:Inv X pins σ H s):X.K.In s.heap:=I.ok.mod.Oo.keeps I.bk
theorem Inv.lt(I:Inv X pins σ H s):X.env.locals<s.heap.objs.size:=let ⟨_,hn,_⟩:=I.loc;hn.lt
theorem Inv.sz(I:Inv X pins σ H s):X.s₀.heap.objs.size<=s.heap.objs.size:=le_trans I.ok.above (Nat.le_of_lt I.lt)
theorem Inv.TF(I:Inv X pins σ H s)(h:s.heap.objs.size<=a):a∉X.fs:=λhb=>by
 obtain⟨_,o,ho,_⟩:=I.ok.pM.mem hb;exact absurd (lt_of_lt_of_le (lt_size ho) (le_trans I.sz h)) (lt_irrefl _)
theorem Inv.cne(I:Inv X pins σ H s):∀x c,X.env.cells.lookup x=some c->c≠X.env.locals:=λx c e z=>by
 obtain⟨v,o,ho,hd⟩:=I.cell x c e;obtain⟨m,⟨o',es,ep,ho',hd',_⟩,_⟩:=I.loc;rw[z,ho']at ho;cases ho;rw[hd']at hd;cases hd
theorem Inv.pM(I:Inv X pins σ H s):s.heap.FunFrames X.base X.outer:=by
 have all:∀(l:List Env),(∀b∈frs l,b∈X.fs)->X.s₀.heap.FunFrames X.base l->s.heap.FunFrames X.base l:=by
  intro l
  induction l with
  |nil=>intro _ _;trivial
  |cons env r ih=>intro hs hl;obtain⟨hk,⟨L,o,hf,hn,ho,hd⟩,hr⟩:=hl;have hL:L∈X.fs:=hs L (by unfold frs;rw[List.filterMap_cons,hf];exact mem_cons_self);obtain⟨sl,e⟩:=I.base.slot L o ho (I.ok.KN L hL) hL λz=>I.ok.CA L z hL;exact⟨hk,⟨L,_,hf,hn,e,hd⟩,ih (λb hb=>hs b (by unfold frs;rw[List.filterMap_cons,hf];exact mem_cons_of_mem _ hb)) hr⟩
 exact all X.outer (λ_ hb=>hb) I.ok.pM
theorem Inv.stack(I:Inv X pins σ H s):s.heap.FunFrames X.base X.stack:=by
 rcases I.ok.stk with e|⟨e,hf⟩
 ·rw[e];exact I.pM
 ·rw[e];obtain⟨m,hn,_⟩:=I.loc;refine .cons (by rw[I.ok.kind];decide) hf hn ?_ I.pM;exact Heap.get?_none_of_le (le_trans I.ok.JN I.ok.above)
theorem Inv.yx(I:Inv X pins σ H s):∀b∈frs X.stack,b∈X.env.locals::X.fs:=λb hb=>by
 rcases I.ok.stk with e|⟨e,hf⟩
 ·rw[e]at hb;exact mem_cons_of_mem _ hb
 ·rw[e]at hb;unfold frs at hb;rw[List.filterMap_cons,hf]at hb;exact hb
theorem Inv.zN(I:Inv X pins σ H s):∀b∈frs X.stack,H b=none:=λb hb=>by
 rcases mem_cons.mp (I.yx b hb) with e|hb
 ·rw[e];exact I.free
 ·obtain⟨_,o,ho,_⟩:=I.ok.pM.mem hb;exact I.base.free b o ho (I.ok.KN b hb) λz=>I.ok.CA b z hb
theorem Inv.step{g':Array GenState}{t':Nat}{d':Drawn}{ch:List Addr}(I:Inv X pins σ H s)
  (hch:∀b∈ch,(b∈X.ex\/X.s₀.heap.objs.size<=b)/\b≠X.env.locals/\(∀x c,X.env.cells.lookup x=some c->c≠b)/\∀p∈X.pn++pins,p.1≠b)
  (keep:∀b o,b≠X.env.locals->b∉X.fs->b∉ch->s.heap.get? b=some o->H b=none->h'.get? b=some o)
  (slot:∀b o,b≠X.env.locals->b∈X.fs->b∉ch->s.heap.get? b=some o->H b=none->∃sl,h'.get? b=some { o with slots:=sl }) (free:∀b o,b∉ch->s.heap.get? b=some o->H b=none->H' b=none)
  (there:∀b o,b∉ch->s.heap.get? b=some o->∃o',h'.get? b=some o')
  (tups:∀b xs,H b=some (.tup xs)->H' b=some (.tup xs)) (frzs:∀b o u,H b=some (.kg o u)->H' b=some (.kg o u)) (sP:∀b ps,H b=some (.tbl ps)->∃more,H' b=some (.tbl (ps++more)))
  (ns:∀m,s.heap.Ns X.env.locals m->h'.Ns X.env.locals m) (hok:mj X.prog X.w H' h') (hg:AllBare g') :
  Inv X pins σ H' { s with heap:=h',gens:=g',drawn:=d',toks:=t' }:=by
 have neL:∀b o,X.s₀.heap.get? b=some o->b≠X.env.locals:=λb o e=>ne_of_lt (lt_of_lt_of_le (lt_size e) I.ok.above);have neC:∀b o,X.s₀.heap.get? b=some o->b∉X.ex->b∉ch:=λb o e hx hb=>by
  rcases(hch b hb).1 with z|z
  ·exact hx z
  ·exact absurd (lt_of_lt_of_le (lt_size e) z) (lt_irrefl _)
 have cellK:∀x c,X.env.cells.lookup x=some c->∀v,s.heap.IsCell c v->h'.IsCell c v:=λx c e v ⟨o,ho,hd⟩=>by
  have OQ:c∉ch:=λz=>(hch c z).2.2.1 x c e rfl
  by_cases hc:c∈X.fs
  ·obtain⟨sl,q⟩:=slot c o (I.cne x c e) hc OQ ho (I.iN x c e);exact⟨_,q,hd⟩
  ·exact⟨o,keep c o (I.cne x c e) hc OQ ho (I.iN x c e),hd⟩
 refine⟨I.ok,I.os,hg,⟨λb o e n hb hx=>?_,λb o e n hb hx=>?_,λb o e n hx=>?_,λb o e hx=>?_,λb xs e=>tups b xs (I.base.tups b xs e),λb o xs e=>frzs b o xs (I.base.frzs b o xs e),λb ps e=>?_⟩,?_,λx c e=>?_,?_,λx c e=>?_,λp hp=>?_,hok,I.len⟩
 ·exact keep b o (neL b o e) hb (neC b o e hx) (I.base.keep b o e n hb hx) (I.base.free b o e n hx)
 ·obtain⟨sl,e1⟩:=I.base.slot b o e n hb hx;obtain⟨sl',e2⟩:=slot b _ (neL b o e) hb (neC b o e hx) e1 (I.base.free b o e n hx);exact⟨sl',e2⟩
 ·obtain⟨o',e1⟩:=I.base.there b o e hx;exact free b o' (neC b o e hx) e1 (I.base.free b o e n hx)
 ·obtain⟨o',e1⟩:=I.base.there b o e hx;exact there b o' (neC b o e hx) e1
 ·obtain⟨m1,e1⟩:=I.base.sP b ps e;obtain⟨m2,e2⟩:=sP b _ e1;exact⟨m1++m2,by rw[e2,Array.append_assoc]⟩
 ·obtain⟨m,hn,hl⟩:=I.loc
  refine⟨m,ns m hn,λi x v e1 e2 e3=>?_⟩;obtain⟨u,r,l⟩:=hl i x v e1 e2 e3;refine⟨u,r,?_⟩
  rcases l with l|⟨k,c,e,z⟩
  ·exact .inl l
  ·exact .inr ⟨k,c,e,cellK x c e _ z⟩
 ·obtain⟨v,z⟩:=I.cell x c e;exact⟨v,cellK x c e v z⟩
 ·obtain⟨m,⟨o,_,_,ho,_⟩,_⟩:=I.loc;exact free _ o (λz=>(hch _ z).2.1 rfl) ho I.free
 ·obtain⟨v,o,ho,hd⟩:=I.cell x c e;exact free c o (λz=>(hch c z).2.2.1 x c e rfl) ho (I.iN x c e)
 ·obtain⟨e,n,ne,nf,d⟩:=I.pin p hp;have OQ:p.1∉ch:=λz=>(hch p.1 z).2.2.2 p hp rfl;exact⟨keep p.1 p.2 ne nf OQ e n,free p.1 p.2 OQ e n,ne,nf,d⟩
theorem Inv.un{t':Nat}(I:Inv X pins σ H s)(u:Un X.fs [] H H' s.heap h')(hok:mj X.prog X.w H' h'):Inv X pins σ H' { s with heap:=h',toks:=t' }:=by
 obtain⟨m,⟨o,es,ep,ho,r⟩,_⟩:=id I.loc;obtain⟨sl,hL⟩:=u.any ho I.free (by simp);exact I.step (g':=s.gens) (d':=s.drawn) (ch:=[]) (λ_ z=>nomatch z) (λb o _ hb _ e n=>u.keep b o e n hb (by simp)) (λb o _ hb _ e n=>u.slot b o e n hb (by simp)) (λb o _ e n=>u.free b o e n (by simp)) (λb o _ e=>u.there b o e (by simp)) u.tups u.frzs u.sP (λm' hm=>by
  obtain⟨o',es',TH,ho',r'⟩:=hm;rw[ho]at ho';cases ho';exact⟨_,es',TH,hL,r'⟩) hok I.bare
theorem Inv.call{t':Nat}(I:Inv X pins σ H s)(u:Un (frs X.stack) ch H H' s.heap h')(hok:mj X.prog X.w H' h')(hg:AllBare g')
  (hch:∀b∈ch,(b∈X.ex\/X.s₀.heap.objs.size<=b)/\b≠X.env.locals/\(∀x c,X.env.cells.lookup x=some c->c≠b)/\∀p∈X.pn++pins,p.1≠b) :
  Inv X pins σ H' { s with heap:=h',gens:=g',drawn:=d',toks:=t' }:=by
 obtain⟨m,⟨o,es,ep,ho,r⟩,_⟩:=id I.loc;obtain⟨sl,hL⟩:=u.any ho I.free λz=>(hch _ z).2.1 rfl;exact I.step (ch:=ch) hch (λb o hL hb hc e n=>u.keep b o e n (λz=>(mem_cons.mp (I.yx b z)).elim hL hb) hc) (λb o _ _ hc e n=>u.any e n hc) (λb o hc e n=>u.free b o e n hc) (λb o hc e=>u.there b o e hc) u.tups u.frzs u.sP (λm' hm=>by
  obtain⟨o',es',TH,ho',r'⟩:=hm;rw[ho]at ho';cases ho';exact⟨_,es',TH,hL,r'⟩) hok hg
theorem Inv.turned{t':Nat}(I:Inv X pins σ H s)(k:∀b o,b≠it->s.heap.get? b=some o->h'.get? b=some o)(hn:H it=none)(hL:it≠X.env.locals)
  (h1:it∈X.ex\/X.s₀.heap.objs.size<=it) (h2:∀x c,X.env.cells.lookup x=some c->c≠it) (h3:∀p∈X.pn++pins,p.1≠it):Inv X pins σ H { s with heap:=h',toks:=t' }:=by
 have OS:∀b u,H b=some u->b≠it:=λb u e z=>by rw[z,hn]at e;cases e
 refine I.step (g':=s.gens) (d':=s.drawn) (ch:=[it]) (λb hb=>?_) (λb o _ _ hc e _=>k b o (λz=>hc (by simp[z])) e) (λb o _ _ hc e _=>⟨o.slots,k b o (λz=>hc (by simp[z])) e⟩) (λ_ _ _ _ n=>n)
  (λb o hc e=>⟨o,k b o (λz=>hc (by simp[z])) e⟩) (λ_ _ e=>e) (λ_ _ _ e=>e) (λb ps e=>⟨#[],by rw[e];simp⟩) (λm hm=>?_) (λb u e=>?_) I.bare
 ·have e:b=it:=by simpa using hb
  subst e;exact⟨h1,hL,h2,h3⟩
 ·obtain⟨o,es,ep,ho,r⟩:=hm;exact⟨o,es,ep,k _ o (Ne.symm hL) ho,r⟩
 ·refine(I.hok b u e).stay (λc v hc q=>k c v ?_ q) (λ_ q=>q) λ_ _ q=>q
  rcases hc with z|z
  ·rw[z];exact OS b u e
  ·exact OS c _ z
theorem Inv.tok(I:Inv X pins σ H s)(t:Nat):Inv X pins σ H { s with toks:=t }:=I.un (h':=s.heap) (t':=t) Un.refl I.hok
theorem Inv.kept{t':Nat}(I:Inv X pins σ H s)(k:∀b u,s.heap.get? b=some u->h'.get? b=some u):Inv X pins σ H { s with heap:=h',toks:=t' }:=I.un (Un.kept k) (I.hok.kept k)
theorem Inv.laid{t':Nat}(I:Inv X pins σ H s)(k:∀b u,s.heap.get? b=some u->h'.get? b=some u)(hp:s.heap.objs.size<=a)(new:bT X.prog X.w (upd H a o) h' a o) :
  Inv X pins σ (upd H a o) { s with heap:=h',toks:=t' }:=I.un (Un.laid k hp (I.hok.fresh hp)) (I.hok.laid k hp new)
theorem Inv.write{t':Nat}(I:Inv X pins σ H s)(mu:ON (H x))(he:e=x\/H e=some (.own x))(k:∀b u,b≠e->s.heap.get? b=some u->h'.get? b=some u)(Om:∃u,h'.get? e=some u)
  (new:bT X.prog X.w (upd H x o) h' x o):Inv X pins σ (upd H x o) { s with heap:=h',toks:=t' }:=I.un (Un.write mu he k Om) (I.hok.write mu he k Om new)
theorem Inv.zO(I:Inv X pins σ H s)(h:∀p∈OT,s.heap.get? p.1=some p.2/\H p.1=none/\p.1≠X.env.locals/\p.1∉X.fs/\∀v,p.2.data≠.cell v):Inv X OT σ H s :=
 ⟨I.ok,I.os,I.bare,I.base,I.loc,I.cell,I.free,I.iN,λp hp=>(mem_append.mp hp).elim (λz=>I.pin p (mem_append_left _ z)) (h p),I.hok,I.len⟩
theorem vY{N:List Str}(hN:N.Nodup){i j:Nat}{x:Str}(a:N[i]?=some x)(b:N[j]?=some x):i=j:=by
 obtain⟨h1,e1⟩:=List.getElem?_eq_some_iff.mp a;obtain⟨h2,e2⟩:=List.getElem?_eq_some_iff.mp b;exact(List.getElem_inj hN).mp (e1.trans e2.symm)
theorem tK{i:Nat}(I:Inv X pins σ H s)(hN:X.N.Nodup)(hi:X.N[i]?=some x)(hx:Loc X.env.scope x)(r:RelV v u)
  (h:∀s',Inv X pins (σ.set i (some v)) H s'->(∃a,Heap.SameBut a s.heap s'.heap/\(a=X.env.locals\/X.env.cells.lookup x=some a))->Q () s') (hf:X.fn x=true\/X.env.scope.names.lookup x=some .local:=by first|exact .inl rfl|exact .inr rfl|assumption):wpAny M A (storeName X.env x u) Q E s:=by
 obtain⟨m,hn,hl⟩:=id I.loc;have hcls:(X.env.scope.kind==.class||(X.env.scope.kind==.module&&X.env.locals != X.env.globals))=false:=by rw[I.ok.kind];rfl
 have Yn:i < σ.length:=by rw[I.len];exact(List.getElem?_eq_some_iff.mp hi).1
 have cne:=I.cne;have tracked:∀{a:Addr} {h':Heap},(∃o,s.heap.get? a=some o/\H a=none)->Heap.SameBut a s.heap h'->mj X.prog X.w H h':=λ{a h'} ha hs b ob e=>by
  obtain⟨_,_,hfree⟩:=ha;refine(I.hok b ob e).stay (λc w' hc q=>(hs.2 c ?_).trans q) (λ_ q=>q) λ_ _ q=>q;rintro rfl
  rcases hc with rfl|hc
  ·rw[hfree]at e;cases e
  ·rw[hfree]at hc;cases hc
 rcases hx with hk|hk
 ·refine wpAny_storeName_local hk hn (λh' hn' hs=>?_) hcls
  obtain⟨oL,_,_,hoL,_⟩:=id hn;refine h _ ⟨I.ok,I.os,I.bare,⟨λb o e n hb hx=>?_,λb o e n hb hx=>?_,I.base.free,λb o e hx=>?_,I.base.tups,I.base.frzs,I.base.sP⟩,⟨_,hn',λj y v' e1 e2 e3=>?_⟩,λy c e=>?_,I.free,I.iN,λp hp=>?_,tracked ⟨oL,hoL,I.free⟩ hs,by simpa using I.len⟩ ⟨_,hs,.inl rfl⟩
  ·exact(hs.2 b (ne_of_lt (lt_of_lt_of_le (lt_size e) I.ok.above))).trans (I.base.keep b o e n hb hx)
  ·obtain⟨sl,e1⟩:=I.base.slot b o e n hb hx;exact⟨sl,(hs.2 b (ne_of_lt (lt_of_lt_of_le (lt_size e) I.ok.above))).trans e1⟩
  ·obtain⟨o',e1⟩:=I.base.there b o e hx;exact⟨o',(hs.2 b (ne_of_lt (lt_of_lt_of_le (lt_size e) I.ok.above))).trans e1⟩
  ·by_cases hj:j=i
   ·subst hj;rw[hi]at e1;cases e1;rw[getElem?_set_self Yn]at e2;cases e2;exact⟨u,r,.inl ⟨hk,by simp⟩⟩
   ·rw[getElem?_set_ne (Ne.symm hj)]at e2
    obtain⟨u',r',q⟩:=hl j y v' e1 e2 e3;refine⟨u',r',?_⟩
    rcases q with ⟨k,e⟩|⟨k,c,e,z⟩
    ·refine .inl ⟨k,?_⟩;have:y≠x:=λe=>hj (vY hN e1 (e▸hi));simp[this,e]
    ·exact .inr ⟨k,c,e,z.sameBut hs (cne y c e)⟩
  ·obtain⟨w',z⟩:=I.cell y c e;exact⟨w',z.sameBut hs (cne y c e)⟩
  ·obtain⟨e,n,ne,nf,d⟩:=I.pin p hp;exact⟨(hs.2 p.1 ne).trans e,n,ne,nf,d⟩
 ·have hfn:X.fn x=true:=by
   rcases hf with z|z
   ·exact z
   ·rw[z]at hk;cases hk
  obtain⟨c,hc⟩:=I.ok.has x (.inl hk);obtain⟨w',z⟩:=I.cell x c hc;refine wpAny_storeName_cell I.ok.kind hk hc z (λh' hc' hs=>?_);obtain⟨oc,hoc,CB⟩:=id z;refine h { s with heap:=h' } ⟨I.ok,I.os,I.bare,⟨λb o e n hb hx=>?_,λb o e n hb hx=>?_,I.base.free,λb o e hx=>?_,I.base.tups,I.base.frzs,I.base.sP⟩,⟨m,hn.sameBut hs (Ne.symm (cne x c hc)),λj y v' e1 e2 e3=>?_⟩,λy c' e=>?_,I.free,I.iN,λp hp=>?_,tracked ⟨oc,hoc,I.iN x c hc⟩ hs,by simpa using I.len⟩ ⟨c,hs,.inr hc⟩
  ·exact(hs.2 b (ne_of_lt (lt_of_lt_of_le (lt_size e) (I.ok.OP x c hfn hc)))).trans (I.base.keep b o e n hb hx)
  ·obtain⟨sl,e1⟩:=I.base.slot b o e n hb hx;exact⟨sl,(hs.2 b (ne_of_lt (lt_of_lt_of_le (lt_size e) (I.ok.OP x c hfn hc)))).trans e1⟩
  ·obtain⟨o',e1⟩:=I.base.there b o e hx;exact⟨o',(hs.2 b (ne_of_lt (lt_of_lt_of_le (lt_size e) (I.ok.OP x c hfn hc)))).trans e1⟩
  ·by_cases hj:j=i
   ·subst hj;rw[hi]at e1;cases e1;rw[getElem?_set_self Yn]at e2;cases e2;exact⟨u,r,.inr ⟨.inl hk,c,hc,hc'⟩⟩
   ·rw[getElem?_set_ne (Ne.symm hj)]at e2
    obtain⟨u',r',q⟩:=hl j y v' e1 e2 e3;refine⟨u',r',?_⟩
    rcases q with q|⟨k,c',e,z'⟩
    ·exact .inl q
    ·refine .inr ⟨k,c',e,z'.sameBut hs ?_⟩;rintro rfl;exact hj (vY hN e1 (I.ok.inj _ _ _ e hc▸hi))
  ·by_cases hcc:c'=c
   ·subst hcc;exact⟨_,hc'⟩
   ·obtain⟨w2,z2⟩:=I.cell y c' e;exact⟨w2,z2.sameBut hs hcc⟩
  ·obtain⟨e,n,ne,nf,d⟩:=I.pin p hp;refine⟨(hs.2 p.1 ?_).trans e,n,ne,nf,d⟩;intro q;rw[q,hoc]at e;have q':oc=p.2:=Option.some.inj e;exact d w' (by rw[<-q'];exact CB)
theorem qk{i:Nat}(I:Inv X pins σ H s)(hN:X.N.Nodup)(hi:X.N[i]?=some x)(hx:Loc X.env.scope x)(r:RelV v u)
  (h:∀s',Inv X pins (σ.set i (some v)) H s'->Q () s') (hf:X.fn x=true\/X.env.scope.names.lookup x=some .local:=by first|exact .inl rfl|exact .inr rfl|assumption):wpAny M A (storeName X.env x u) Q E s :=
 tK I hN hi hx r (λs' I' _=>h s' I') hf
theorem Inv.OU(I:Inv X pins σ H s)(ho:s'.os=s.os)(u:Un (frs X.stack) ch H H' s.heap s'.heap)(hok:mj X.prog X.w H' s'.heap)(hg:AllBare s'.gens)
  (hch:∀b∈ch,(b∈X.ex\/X.s₀.heap.objs.size<=b)/\b≠X.env.locals/\(∀x c,X.env.cells.lookup x=some c->c≠b)/\∀p∈X.pn++pins,p.1≠b):Inv X pins σ H' s':=by
 obtain⟨h',g',d',t',o'⟩:=s';have e:o'=s.os:=ho;subst e;exact I.call (g':=g') (t':=t') (d':=d') u hok hg hch
end
noncomputable abbrev XK:=Value->Option Addr->Hp->Prop
noncomputable abbrev St:=List (Option V)
noncomputable abbrev VK:=V->Hp->Prop
noncomputable abbrev TE:=St->Hp->VK->Prop
noncomputable abbrev TT:=St->Hp->(Bool->Hp->Prop)->Prop
noncomputable abbrev TA:=St->Hp->(List V->Hp->Prop)->Prop
structure Ends where
 nx:St->Hp->Prop
 rt:VK
 bk:St->Hp->Prop:=λ_ _=>False
 ct:St->Hp->Prop:=λ_ _=>False
noncomputable abbrev TS:=Ends->St->Hp->Prop
noncomputable def EP(X:Cx)(pins:List (Addr×Obj))(σ:St)(Q:VK)(u:Value)(s':Shared):Prop:=∃v H',Inv X pins σ H' s'/\RelV v u/\Q v H'
noncomputable def TP(X:Cx)(pins:List (Addr×Obj))(σ:St)(Q:Bool->Hp->Prop)(b:Bool)(s':Shared):Prop:=∃H',Inv X pins σ H' s'/\Q b H'
noncomputable def AP(X:Cx)(pins:List (Addr×Obj))(σ:St)(Q:List V->Hp->Prop)(us:List Value)(s':Shared):Prop:=∃vs H',Inv X pins σ H' s'/\Vals vs us/\Q vs H'
noncomputable def SP(X:Cx)(pins:List (Addr×Obj))(D:Ends)(f:Flow)(s':Shared):Prop :=
 match f with
 |.next=>∃σ' H',Inv X pins σ' H' s'/\D.nx σ' H'
 |.brk=>∃σ' H',Inv X pins σ' H' s'/\D.bk σ' H'
 |.cont=>∃σ' H',Inv X pins σ' H' s'/\D.ct σ' H'
 |.ret u=>∃v σ' H',Inv X pins σ' H' s'/\RelV v u/\D.rt v H'
noncomputable def PE(X:Cx)(e:Expr)(t:TE):Prop :=
 ∀(pins:List (Addr×Obj)) (s:Shared) (σ:St) (H:Hp) (Q:VK),Inv X pins σ H s->t σ H Q->wpAny (model X.prog X.w) X.A (eval e X.env) (EP X pins σ Q) X.xe s
noncomputable def PT(X:Cx)(e:Expr)(t:TT):Prop :=
 ∀(pins:List (Addr×Obj)) (s:Shared) (σ:St) (H:Hp) (Q:Bool->Hp->Prop),Inv X pins σ H s->t σ H Q->wpAny (model X.prog X.w) X.A (isTrue e X.env (eval e X.env)) (TP X pins σ Q) X.xe s
noncomputable def PW(X:Cx)(e:Expr)(t:TT):Prop :=
 ∀(whole:Sem Value) (pins:List (Addr×Obj)) (s:Shared) (σ:St) (H:Hp) (Q:Bool->Hp->Prop),Inv X pins σ H s->t σ H Q->wpAny (model X.prog X.w) X.A (isTrue e X.env whole) (TP X pins σ Q) X.xe s
theorem PW.pt(h:PW X e t):PT X e t:=h _
noncomputable def PA(X:Cx)(es:List Expr)(t:TA):Prop :=
 ∀(pos:Pos) (pins:List (Addr×Obj)) (s:Shared) (σ:St) (H:Hp) (Q:List V->Hp->Prop),Inv X pins σ H s->t σ H Q->wpAny (model X.prog X.w) X.A (spliced (backTo pos (starEach es X.env))) (AP X pins σ Q) X.xe s
noncomputable def PS(X:Cx)(st:Stmt)(t:TS):Prop :=
 ∀(pins:List (Addr×Obj)) (s:Shared) (σ:St) (H:Hp) (D:Ends),Inv X pins σ H s->t D σ H->wpAny (model X.prog X.w) X.A (exec st X.env) (SP X pins D) X.xe s
noncomputable def yq(X:Cx)(st:List Stmt)(t:TS):Prop :=
 ∀(pins:List (Addr×Obj)) (s:Shared) (σ:St) (H:Hp) (D:Ends),Inv X pins σ H s->t D σ H->wpAny (model X.prog X.w) X.A (execs st X.env) (SP X pins D) X.xe s
theorem cA{α:Type}{t:Sem α}{Q Q':α -> Shared->Prop}(h:wpAny M A t Q E s)(hQ:∀a s,Q a s->Q' a s):wpAny M A t Q' E s:=wpAny_mono h hQ λ_ _ x=>x
end L2
namespace L2
open PySem PySem.Spec PyProof.Rows
section
variable {X:Cx}
theorem bin{a b:Expr}{ta tb:TE}(ha:PE X a ta)(hb:PE X b tb){pins:List (Addr×Obj)}{s:Shared}{σ:St}{H:Hp}{R:V->V->Hp->Prop}(I:Inv X pins σ H s)(h:ta σ H λx H1=>tb σ H1 λy H2=>R x y H2)
  {α:Type} {Q:α -> Shared->Prop} {f:Value->Value->Sem α}
  (hf:∀v u s2 x y H2,Inv X pins σ H2 s2->RelV x v->RelV y u->R x y H2->wpAny (model X.prog X.w) X.A (f v u) Q X.xe s2) :
  wpAny (model X.prog X.w) X.A (eval a X.env) (λv s₁=>wpAny (model X.prog X.w) X.A (eval b X.env) (λu s₂=>wpAny (model X.prog X.w) X.A (f v u) Q X.xe s₂) X.xe s₁) X.xe s:=by
 refine cA (ha pins s σ H _ I h) λv s1 aI=>?_;obtain⟨x,H1,I1,r1,q1⟩:=aI;refine cA (hb pins s1 σ H1 _ I1 q1) λu s2 aI=>?_;obtain⟨y,H2,I2,r2,q2⟩:=aI;exact hf v u s2 x y H2 I2 r1 r2 q2
noncomputable def sS(i:Nat):TE:=λσ H Q=>∃v,σ[i]?=some (some v)/\Q v H
noncomputable def tC(v:V):TE:=λ_ H Q=>Q v H
theorem yy{i:Nat}(hN:X.N[i]?=some x)(hv:OO X.env.scope x)(hd:(x==("__debug__":Str))=false:=by decide)(hcd:(x==("__classdict__":Str))=false:=by decide):PE X (.Name x pos) (sS i):=by
 intro pins s σ H Q I h;obtain⟨v,e,h⟩:=h;obtain⟨m,hn,hl⟩:=I.loc;obtain⟨u,r,l⟩:=hl i x v hN e hv;have fin:EP X pins σ Q u s:=⟨v,H,I,r,h⟩
 rcases l with ⟨hk,hm⟩|⟨hk,c,hc,hcell⟩
 ·exact wpAny_Name (wpAny_loadName_local I.ok.kind hk hn hm fin) hd
 ·rcases hk with hk|hk
  ·exact wpAny_Name (wpAny_loadName_cell I.ok.kind hk hc hcell fin) hd
  ·exact wpAny_Name (wpAny_loadName_free I.ok.kind hk hc hcell fin hcd) hd
theorem KO{i j pos}:PE X (.Constant (.int i) j pos) (tC (.int i)):=λ_ _ _ H _ I h=>wpAny_Constant_int ⟨.int i,H,I.tok _,⟨_,rfl⟩,h⟩
theorem OV{b j pos}:PE X (.Constant (.bool b) j pos) (tC (.bl b)):=λ_ _ _ H _ I h=>Constant_bool ⟨.bl b,H,I,rfl,h⟩
theorem KP{j pos}:PE X (.Constant .none j pos) (tC .non):=λ_ _ _ H _ I h=>Constant_none ⟨.non,H,I,rfl,h⟩
theorem KQ{x j pos}:PE X (.Constant (.str x) j pos) (tC (.str x)):=λ_ _ _ H _ I h=>Calls.Constant_str ⟨.str x,H,I.tok _,⟨_,rfl⟩,h⟩
noncomputable def Gl(X:Cx)(x:Str):Prop:=X.env.kindOf x=some .globalImplicit
theorem lg(I:Inv X pins σ H s)(hg:Gl X x)(hm:X.mg x=some u)(h:Q u s)
  (hd:(x==("__debug__":Str))=false:=by decide):wpAny (model X.prog X.w) X.A (eval (.Name x pos) X.env) Q E s :=
 Calls.Name_function_global I.ok.kind hg (Calls.loadGlobal_global (by rw[I.ok.glob];exact I.mod.glob.keeps I.bk) hm h) hd
theorem iX(I:Inv X pins σ H s)(hg:Gl X x)(hm:X.mg x=none)(hv:bootBuiltins x=some u)(h:Q u s)
  (hn:x ≠ "__name__":=by decide) (hd:(x==("__debug__":Str))=false:=by decide):wpAny (model X.prog X.w) X.A (eval (.Name x pos) X.env) Q E s:=by
 obtain⟨mb,h1,h2⟩:=I.mod.blt;exact Calls.Name_function_global I.ok.kind hg (Calls.loadGlobal_builtin (by rw[I.ok.glob];exact I.mod.glob.keeps I.bk) hm (by rw[I.ok.blt];exact h1.keeps I.bk) ((h2 x hn).trans hv) h) hd
theorem Gu(hg:Gl X x)(hm:X.mg x=some u)(r:RelV v u)(hd:(x==("__debug__":Str))=false:=by decide):PE X (.Name x pos) (tC v) :=
 λ_ _ _ H _ I h=>lg I hg hm ⟨v,H,I,r,h⟩ hd
theorem Gv(hg:Gl X x)(hm:X.mg x=none)(hv:bootBuiltins x=some u)(r:RelV v u)(hn:x ≠ "__name__":=by decide)(hd:(x==("__debug__":Str))=false:=by decide):PE X (.Name x pos) (tC v) :=
 λ_ _ _ H _ I h=>iX I hg hm hv ⟨v,H,I,r,h⟩ hn hd
variable {a b:Expr} {ta tb:TE} {pos:Pos}
variable {tA SK:TT} {rest:List Expr}
noncomputable def TJ(t u:TT):TT:=λσ H Q=>t σ H λc H1=>if c=true then u σ H1 Q else Q false H1
noncomputable def tOr(t u:TT):TT:=λσ H Q=>t σ H λc H1=>if c=true then Q true H1 else u σ H1 Q
noncomputable def TL(t:TT):TT:=λσ H Q=>t σ H λc H1=>Q (!c) H1
theorem Gx(ha:PT X a tA):PW X (.BoolOp .And [a] pos) tA:=by
 intro wh pins s σ H Q I h;refine isTrue_and (cA (ha pins s σ H Q I h) λc s1 e=>?_);cases c with
 |true=>exact isTrue_and_nil e
 |false=>exact e
theorem KR(ha:PT X a tA):PW X (.BoolOp .Or [a] pos) tA:=by
 intro wh pins s σ H Q I h;refine isTrue_or (cA (ha pins s σ H Q I h) λc s1 e=>?_);cases c with
 |false=>exact isTrue_or_nil e
 |true=>exact e
theorem KS(ha:PT X a tA)(hb:PW X (.BoolOp .And (b::rest) pos) SK):PW X (.BoolOp .And (a::b::rest) pos) (TJ tA SK):=by
 intro wh pins s σ H Q I h;refine isTrue_and (cA (ha pins s σ H _ I h) λc s1 aI=>?_);obtain⟨H1,I1,q1⟩:=aI;cases c with
 |true=>exact hb wh pins s1 σ H1 Q I1 q1
 |false=>exact⟨H1,I1,q1⟩
theorem OW(ha:PT X a tA)(hb:PW X (.BoolOp .Or (b::rest) pos) SK):PW X (.BoolOp .Or (a::b::rest) pos) (tOr tA SK):=by
 intro wh pins s σ H Q I h;refine isTrue_or (cA (ha pins s σ H _ I h) λc s1 aI=>?_);obtain⟨H1,I1,q1⟩:=aI;cases c with
 |true=>exact⟨H1,I1,q1⟩
 |false=>exact hb wh pins s1 σ H1 Q I1 q1
theorem KU(ha:PT X a tA):PT X (.UnaryOp .Not a pos) (TL tA):=by
 intro pins s σ H Q I h;exact isTrue_not (ha pins s σ H (λc H1=>Q (!c) H1) I h)
noncomputable def OX(ta tb:TE):TE:=λσ H Q=>ta σ H λx H1=>∃c,x=.bl c/\if c=true then tb σ H1 Q else Q (.bl false) H1
noncomputable def TM(ta tb:TE):TE:=λσ H Q=>ta σ H λx H1=>∃c,x=.bl c/\if c=true then Q (.bl true) H1 else tb σ H1 Q
noncomputable def OY(ta:TE):TE:=λσ H Q=>ta σ H λx H1=>∃c,x=.bl c/\Q (.bl (!c)) H1
theorem CC{op}(h:PE X a t):PE X (.BoolOp op [a] pos) t:=λpins s σ H Q I hw=>BoolOp_one (h pins s σ H Q I hw)
theorem KW(ha:PE X a ta)(hb:PE X (.BoolOp .And (b::rest) pos) tb):PE X (.BoolOp .And (a::b::rest) pos) (OX ta tb):=by
 intro pins s σ H Q I h;refine BoolOp_and (cA (ha pins s σ H _ I h) λv s1 aI=>?_);obtain⟨x,H1,I1,r1,q1⟩:=aI;obtain⟨c,rfl,q1⟩:=q1;cases r1;refine wpAny_truthy_bool ?_;cases c with
 |true=>exact hb pins s1 σ H1 Q I1 q1
 |false=>exact⟨.bl false,H1,I1,rfl,q1⟩
theorem OZ(ha:PE X a ta)(hb:PE X (.BoolOp .Or (b::rest) pos) tb):PE X (.BoolOp .Or (a::b::rest) pos) (TM ta tb):=by
 intro pins s σ H Q I h;refine BoolOp_or (cA (ha pins s σ H _ I h) λv s1 aI=>?_);obtain⟨x,H1,I1,r1,q1⟩:=aI;obtain⟨c,rfl,q1⟩:=q1;cases r1;refine wpAny_truthy_bool ?_;cases c with
 |false=>exact hb pins s1 σ H1 Q I1 q1
 |true=>exact⟨.bl true,H1,I1,rfl,q1⟩
theorem KY(ha:PE X a ta):PE X (.UnaryOp .Not a pos) (OY ta):=by
 intro pins s σ H Q I h;refine UnaryOp_ (cA (ha pins s σ H _ I h) λv s1 aI=>?_);obtain⟨x,H1,I1,r1,q1⟩:=aI;obtain⟨c,rfl,q1⟩:=q1;cases r1;exact not_of (wpAny_truthy_bool ⟨.bl (!c),H1,I1,rfl,q1⟩)
end
end L2
namespace L2
open PySem PySem.Spec PyProof.Rows
noncomputable def gI(K:PySem.W.Frag)(H:Hp)(a:Addr)(xs:List V):Prop :=
 Rd H a (.lst xs) \/
  ∃(o:Obj) (its:Array Value) (n:Nat),K.lookup a=some o/\o.cls=.type "list" /\ o.dict=none/\o.data=.seq its n/\its.size<=sizeLine/\Vals xs its.toList
noncomputable def jK(K:PySem.W.Frag)(H:Hp)(a:Addr)(xs:List V):Prop :=
 Rd H a (.tup xs) \/
  ∃(o:Obj) (its:Array Value) (n:Nat),K.lookup a=some o/\o.cls=.type "tuple" /\ o.data=.seq its n/\its.size<=sizeLine/\Vals xs its.toList
noncomputable def TN:Value->Option V
 |.none=>some .non
 |.bool b=>some (.bl b)
 |.int i _=>some (.int i)
 |.str x _=>some (.str x)
 |.bytes b _=>some (.byt b)
 |.float b _=>some (.flt b)
 |.ref a=>some (.ref a)
 |.type n=>some (.ty n)
 |_=>none
theorem RelV.abs(r:RelV x u):TN u=some x:=by
 cases x with
 |non=>cases r;rfl
 |bl _=>cases r;rfl
 |int _=>obtain⟨t,rfl⟩:=r;rfl
 |str _=>obtain⟨t,rfl⟩:=r;rfl
 |byt _=>obtain⟨t,rfl⟩:=r;rfl
 |flt _=>obtain⟨t,rfl⟩:=r;rfl
 |ref _=>cases r;rfl
 |ty _=>cases r;rfl
theorem RelV.inj(r:RelV x u)(q:RelV y u):x=y:=Option.some.inj (r.abs.symm.trans q.abs)
theorem Vals.inj:∀{xs ys:List V} {us:List Value},Vals xs us->Vals ys us->xs=ys
 |_,_,_,.nil,.nil=>rfl
 |_,_,_,.cons r t,.cons r' t'=>by rw[r.inj r',Vals.inj t t']
section
variable {X:Cx} {pins:List (Addr×Obj)} {σ:St} {H:Hp} {s:Shared} {a:Addr} {xs ys:List V}
theorem jK.of{K:PySem.W.Frag}(h:H a=some (.tup xs)):jK K H a xs:=.inl (.inl h)
theorem Inv.list(I:Inv X pins σ H s)(h:gI X.K H a xs):∃its:List Value,Vals xs its/\PlainL s.heap a its.toArray/\xs.length<=sizeLine:=by
 rcases h with h|⟨o,its,n,hk,hc,hd,hs,hz,r⟩
 ·obtain⟨z,its,n,r,e⟩:=h.ok I.hok;exact⟨its,r,⟨_,n,e,rfl,rfl,rfl⟩,z⟩
 ·refine⟨its.toList,r,⟨o,n,I.nM a o hk,hc,hd,by simpa using hs⟩,?_⟩;have e:=r.length;simp only[length_toList]at e;omega
theorem Inv.tuple(I:Inv X pins σ H s)(h:jK X.K H a xs):∃its:List Value,Vals xs its/\IsTup s.heap a its.toArray/\xs.length<=sizeLine:=by
 rcases h with h|⟨o,its,n,hk,hc,hs,hz,r⟩
 ·obtain⟨z,its,r,p⟩:=h.ok I.hok;exact⟨its,r,p,z⟩
 ·refine⟨its.toList,r,⟨o,I.nM a o hk,hc,n,by simpa using hs⟩,?_⟩;have e:=r.length;simp only[length_toList]at e;omega
theorem Inv.vZ(I:Inv X pins σ H s)(h:gI X.K H a xs)(h':gI X.K H a ys):xs=ys:=by
 obtain⟨its,r,⟨o,n,e,_,_,d⟩,_⟩:=I.list h;obtain⟨its',r',⟨o',n',e',_,_,d'⟩,_⟩:=I.list h';rw[e]at e';cases e';rw[d]at d';injection d' with d1 _
 have:its=its':=by simpa using congrArg Array.toList d1
 subst this;exact r.inj r'
theorem Inv.Be(I:Inv X pins σ H s)(h:jK X.K H a xs)(h':jK X.K H a ys):xs=ys:=by
 obtain⟨its,r,⟨o,e,_,n,d⟩,_⟩:=I.tuple h;obtain⟨its',r',⟨o',e',_,n',d'⟩,_⟩:=I.tuple h';rw[e]at e';cases e';rw[d]at d';injection d' with d1 _
 have:its=its':=by simpa using congrArg Array.toList d1
 subst this;exact r.inj r'
end
noncomputable abbrev Cx.sU(X:Cx)(E:Value->Shared->Prop):Cx:={ X with xe:=E }
noncomputable abbrev Cx.O0(X:Cx):Cx:=X.sU λ_ _=>False
theorem Cx.Ok.sU{X:Cx}(ok:X.Ok)(E:Value->Shared->Prop):(X.sU E).Ok :=
 ⟨ok.mod,ok.kind,ok.glob,ok.blt,ok.above,ok.inj,ok.has,ok.OP,ok.hd,ok.frames,ok.stk,ok.Tw,ok.bs,ok.JN,ok.mq,ok.CA,ok.pM,ok.KN⟩
theorem Cx.Ok.kr{X:Cx}{E:Value->Shared->Prop}(ok:(X.sU E).Ok):X.Ok :=
 ⟨ok.mod,ok.kind,ok.glob,ok.blt,ok.above,ok.inj,ok.has,ok.OP,ok.hd,ok.frames,ok.stk,ok.Tw,ok.bs,ok.JN,ok.mq,ok.CA,ok.pM,ok.KN⟩
section
variable {X:Cx} {pins:List (Addr×Obj)} {σ:St} {H:Hp} {s:Shared} {E:Value->Shared->Prop}
theorem Inv.sU(I:Inv X pins σ H s)(E:Value->Shared->Prop):Inv (X.sU E) pins σ H s:=⟨I.ok.sU E,I.os,I.bare,I.base,I.loc,I.cell,I.free,I.iN,I.pin,I.hok,I.len⟩
theorem Inv.kr(I:Inv (X.sU E) pins σ H s):Inv X pins σ H s:=⟨I.ok.kr,I.os,I.bare,I.base,I.loc,I.cell,I.free,I.iN,I.pin,I.hok,I.len⟩
theorem SP.kr(h:SP (X.sU E) pins D f s'):SP X pins D f s':=by
 cases f with
 |next=>obtain⟨σ',H',I,q⟩:=h;exact⟨σ',H',I.kr,q⟩
 |brk=>obtain⟨σ',H',I,q⟩:=h;exact⟨σ',H',I.kr,q⟩
 |cont=>obtain⟨σ',H',I,q⟩:=h;exact⟨σ',H',I.kr,q⟩
 |ret u=>obtain⟨v,σ',H',I,r,q⟩:=h;exact⟨v,σ',H',I.kr,r,q⟩
theorem yq.O0{st:List Stmt}{t:TS}(h:yq X.O0 st t):yq X st t:=λpins s σ H D I hw=>
 wpAny_mono (h pins s σ H D (I.sU _) hw) (λ_ _ q=>q.kr) λ_ _ z=>False.elim z
end
section
variable {X:Cx} {st:Stmt} {rest:List Stmt} {t u:TS} {e:Expr} {te:TE} {pos:Pos}
noncomputable def CD:TS:=λD σ H=>D.nx σ H
noncomputable def TR(t u:TS):TS:=λD σ H=>t { D with nx:=u D } σ H
theorem Gy:yq X [] CD:=λ_ _ σ H _ I h=>wpAny_execs_nil ⟨σ,H,I,h⟩
theorem CF(h1:PS X st t)(h2:yq X rest u):yq X (st::rest) (TR t u):=by
 intro pins s σ H D I h;refine wpAny_execs_cons (cA (h1 pins s σ H { D with nx:=u D } I h) λf s1 q=>?_);cases f with
 |next=>obtain⟨σ',H',I',q⟩:=q;exact h2 pins s1 σ' H' D I' q
 |ret v=>exact q
 |brk=>exact q
 |cont=>exact q
noncomputable def KZ:TS:=λD σ H=>D.bk σ H
noncomputable def O3:TS:=λD σ H=>D.ct σ H
theorem Gz:PS X (.Pass pos) CD:=λ_ _ σ H _ I h=>wpAny_Pass ⟨σ,H,I,h⟩
theorem CG:PS X (.Break pos) KZ:=λ_ _ σ H _ I h=>wpAny_Break ⟨σ,H,I,h⟩
theorem v5:PS X (.Continue pos) O3:=λ_ _ σ H _ I h=>wpAny_Continue ⟨σ,H,I,h⟩
theorem Inv.quiet(I:Inv X pins σ H s):interactive X.env=false:=by simp[interactive,I.ok.kind]
theorem K0{x j pos pos'}:PS X (.Expr (.Constant (.str x) j pos) pos') CD:=λ_ s σ H _ I h=>wpAny_Expr (Calls.Constant_str (show SP X _ _ .next { s with toks:=s.toks+1 } from⟨σ,H,I.tok _,h⟩)) I.quiet
noncomputable def O4(te:TE):TS:=λD σ H=>te σ H λ_ H1=>D.nx σ H1
theorem GA(he:PE X e te)(hs:swapsWith e none pos.line X.env=pure false:=by rfl):PS X (.Expr e pos) (O4 te):=by
 intro pins s σ H D I h;exact wpAny_Expr_any (cA (he pins s σ H _ I h) λv s1 ⟨x,H1,I1,r1,q1⟩=>⟨σ,H1,I1,q1⟩) I.quiet hs
noncomputable def TU(te:TE):TS:=λD σ H=>te σ H D.rt
theorem K1(he:PE X e te):PS X (.Return (some e) pos) (TU te):=by
 intro pins s σ H D I h;exact wpAny_Return_some (cA (he pins s σ H _ I h) λv s1 ⟨x,H1,I1,r1,q1⟩=>⟨x,σ,H1,I1,r1,q1⟩)
noncomputable def O5:TS:=λD _ H=>D.rt .non H
theorem GB:PS X (.Return none pos) O5:=λ_ _ σ H _ I h=>wpAny_Return_none ⟨.non,σ,H,I,rfl,h⟩
noncomputable def TV(c:TT)(t u:TS):TS:=λD σ H=>c σ H λb H1=>if b=true then t D σ H1 else u D σ H1
theorem O6(hc:PT X c tc)(ha:yq X a t)(hb:yq X b u):PS X (.If c a b pos) (TV tc t u):=by
 intro pins s σ H D I h;refine wpAny_If (cA (hc pins s σ H _ I h) λd s1 aI=>?_);obtain⟨H1,I1,q1⟩:=aI;cases d with
 |true=>exact ha pins s1 σ H1 D I1 q1
 |false=>exact hb pins s1 σ H1 D I1 q1
noncomputable def K2:TS:=λ_ _ _=>False
theorem CH:PS X st K2:=λ_ _ _ _ _ _ h=>h.elim
end
noncomputable abbrev TG:=V->St->Hp->(St->Hp->Prop)->Prop
noncomputable abbrev Oq:=List V->St->Hp->(St->Hp->Prop)->Prop
noncomputable def PG(X:Cx)(target:Expr)(t:TG):Prop :=
 ∀(pins:List (Addr×Obj)) (s:Shared) (σ:St) (H:Hp) (v:V) (u:Value) (Q:St->Hp->Prop),Inv X pins σ H s->RelV v u->t v σ H Q ->
  wpAny (model X.prog X.w) X.A (assign target X.env u) (λ_ s'=>∃σ' H',Inv X pins σ' H' s'/\Q σ' H') X.xe s
noncomputable def Ot(X:Cx)(ts:List Expr)(t:Oq):Prop :=
 ∀(pins:List (Addr×Obj)) (s:Shared) (σ:St) (H:Hp) (vs:List V) (us:List Value) (Q:St->Hp->Prop),Inv X pins σ H s->Vals vs us->t vs σ H Q ->
  wpAny (model X.prog X.w) X.A (assignInOrder ((assignEach ts X.env).map (·.2)) us) (λ_ s'=>∃σ' H',Inv X pins σ' H' s'/\Q σ' H') X.xe s
noncomputable abbrev K3:=V->V->V->Hp->(Hp->Prop)->Prop
noncomputable def K4(X:Cx)(t:K3):Prop :=
 ∀(pins:List (Addr×Obj)) (s:Shared) (σ:St) (H:Hp) (o i v:V) (ov iv u:Value) (Q:Hp->Prop),Inv X pins σ H s->RelV o ov->RelV i iv->RelV v u->t o i v H Q ->
  wpAny (model X.prog X.w) X.A (setItem ov iv u) (λ_ s'=>∃H',Inv X pins σ H' s'/\Q H') X.xe s
noncomputable abbrev Yo:=V->V->Hp->VK->Prop
noncomputable def PIp(X:Cx)(op:Operator)(t:Yo):Prop :=
 ∀(pins:List (Addr×Obj)) (s:Shared) (σ:St) (H:Hp) (x y:V) (v u:Value) (Q:VK),Inv X pins σ H s->RelV x v->RelV y u->t x y H Q ->
  wpAny (model X.prog X.w) X.A (inplaceOp op v u) (EP X pins σ Q) X.xe s
section
variable {X:Cx} {pos:Pos}
noncomputable def oX(i:Nat):TG:=λv σ H Q=>Q (σ.set i (some v)) H
theorem pY{i:Nat}(hN:X.N.Nodup)(hi:X.N[i]?=some x)(hx:Loc X.env.scope x)(hf:X.fn x=true\/X.env.scope.names.lookup x=some .local:=by first|exact .inl rfl|exact .inr rfl|assumption):PG X (.Name x pos) (oX i):=by
 intro pins s σ H v u Q I r h;exact wpAny_assign_Name (qk I hN hi hx r (λs' I'=>⟨_,H,I',h⟩) hf)
noncomputable def O7:Oq:=λvs σ H Q=>vs=[]/\Q σ H
noncomputable def JO(t:TG)(u:Oq):Oq:=λvs σ H Q=>∃v r,vs=v::r/\t v σ H λσ' H'=>u r σ' H' Q
theorem zP:Ot X [] O7:=by
 intro pins s σ H vs us Q I r h;obtain⟨e,h⟩:=h;subst e;cases r;exact assignInOrder_nil ⟨σ,H,I,h⟩
theorem v7(h1:PG X e t)(h2:Ot X es u)
  (hs:(assignEach (e::es) X.env).map (·.2)=assign e X.env::(assignEach es X.env).map (·.2):=by rfl):Ot X (e::es) (JO t u):=by
 intro pins s σ H vs us Q I r h;obtain⟨v,vr,e1,h⟩:=h;subst e1;cases r with
 |cons r rr=>rw[hs];refine assignInOrder_cons (cA (h1 pins s σ H _ _ _ I r h) λ_ s1 aI=>?_);obtain⟨σ1,H1,I1,q1⟩:=aI;exact h2 pins s1 σ1 H1 _ _ Q I1 rr q1
noncomputable def O8(K:PySem.W.Frag)(n:Nat)(t:Oq):TG:=λv σ H Q=>∃a xs,v=.ref a/\jK K H a xs/\xs.length=n/\t xs σ H Q
theorem CI{k:Nat}{n:Nat}(hc:X.calm=true)(h:Ot X es t)
  (hn:(assignEach es X.env).length=n:=by rfl) (hst:(assignEach es X.env).findIdx? (·.1)=none:=by rfl):PG X (.Tuple es k pos) (O8 X.K n t):=by
 intro pins s σ H v u Q I r hw;obtain⟨a,xs,e1,hq,hl,hw⟩:=hw;subst e1;cases r;obtain⟨its,rv,ht,hz⟩:=I.tuple hq;refine assign_Tuple_tuple (I.ok.hd hc) ht (by simp[hn,<-hl,rv.length]) hst λh' hx=>?_;have I1:Inv X pins σ H { s with heap:=h' }:=I.kept (t':=s.toks) λb o e=>hx b o (ne_of_lt (lt_size e)) e;exact h pins _ σ H xs _ Q I1 (by simpa using rv) hw
noncomputable def O9(to ti:TE)(t:K3):TG:=λv σ H Q=>to σ H λo H1=>ti σ H1 λi H2=>t o i v H2 λH3=>Q σ H3
theorem K5(ho:PE X o to)(hi:PE X i ti)(hs:K4 X t)
  (ha:∀v,assign (.Subscript o i pos) X.env v=(do
   let ov <-holding [v] (eval o X.env)
   let iv <-holding [v,ov] (eval i X.env)
   standAt pos
   holding [v,ov,iv] (setItem ov iv v)
   release [v,ov,iv] []):=by intro _;rfl):PG X (.Subscript o i pos) (O9 to ti t):=by
 intro pins s σ H v u Q I r h;rw[ha];refine wpAny_bind (wpAny_holding (cA (ho pins s σ H _ I h) λov s1 aI=>?_));obtain⟨x,H1,I1,r1,q1⟩:=aI;refine wpAny_bind (wpAny_holding (cA (hi pins s1 σ H1 _ I1 q1) λiv s2 aI=>?_));obtain⟨y,H2,I2,r2,q2⟩:=aI;refine wpAny_bind (wpAny_standAt (wpAny_bind (wpAny_holding (cA (hs pins s2 σ H2 x y v ov iv u _ I2 r1 r2 r q2) λ_ s3 aI=>?_))));obtain⟨H3,I3,q3⟩:=aI;exact wpAny_release ⟨σ,H3,I3,q3⟩
noncomputable def GC(te:TE)(g:TG):TS:=λD σ H=>te σ H λx H1=>g x σ H1 D.nx
theorem CJ(he:PE X e te)(hg:PG X tg g)(hs:swapsWithSole [tg] e pos.line X.env=pure false:=by rfl)(hw:swappedStores [tg] e X.env=pure none:=by rfl)
  (h1:(assignEach [tg] X.env).map (·.2)=[assign tg X.env]:=by rfl):PS X (.Assign [tg] e pos) (GC te g):=by
 intro pins s σ H D I h;refine wpAny_Assign_stores (cA (he pins s σ H _ I h) λv s1 ⟨x,H1,I1,r1,q1⟩=>?_) hs hw;rw[h1];exact cA (hg pins s1 σ H1 x v _ I1 r1 q1) λ_ s2 q=>q
theorem CK{i:Nat}(hN:X.N.Nodup)(hi:X.N[i]?=some x)(hx:Loc X.env.scope x)(he:PE X e te)(hs:swapsWith e (some (.Name x pos')) pos.line X.env=pure false:=by rfl)(hf:X.fn x=true\/X.env.scope.names.lookup x=some .local:=by first|exact .inl rfl|exact .inr rfl|assumption) :
  PS X (.Assign [.Name x pos'] e pos) (GC te (oX i)):=by
 intro pins s σ H D I h;refine wpAny_Assign_Name (cA (he pins s σ H _ I h) λv s1 ⟨y,H1,I1,r1,q1⟩=>?_) hs;exact qk I1 hN hi hx r1 (λs2 I2=>⟨_,H1,I2,q1⟩) hf
noncomputable def TX(i:Nat)(te:TE)(ti:Yo):TS:=λD σ H=>∃x,σ[i]?=some (some x)/\te σ H λy H1=>ti x y H1 λz H2=>D.nx (σ.set i (some z)) H2
theorem K6{i:Nat}(hN:X.N.Nodup)(hi:X.N[i]?=some x)(hx:Loc X.env.scope x)(he:PE X e te)(ho:PIp X op ti)(hf:X.fn x=true\/X.env.scope.names.lookup x=some .local:=by first|exact .inl rfl|exact .inr rfl|assumption) :
  PS X (.AugAssign (.Name x pos') op e pos) (TX i te ti):=by
 intro pins s σ H D I h;obtain⟨v,e1,h⟩:=h;obtain⟨m,hn,hl⟩:=I.loc;have vis:OO X.env.scope x:=by rcases hx with k|k;exact .inl k;exact .inr (.inl k)
 obtain⟨u,r,l⟩:=hl i x v hi e1 vis;refine wpAny_AugAssign_Name ?_;have go:wpAny (model X.prog X.w) X.A (eval e X.env) (λw s₂=>wpAny (model X.prog X.w) X.A (inplaceOp op u w) (λr s₃=>wpAny (model X.prog X.w) X.A (storeName X.env x r) (λ_=>SP X pins D .next) X.xe s₃) X.xe s₂) X.xe s:=by refine cA (he pins s σ H _ I h) λw s1 aI=>?_;obtain⟨y,H1,I1,r1,q1⟩:=aI;refine cA (ho pins s1 σ H1 v y u w _ I1 r r1 q1) λz s2 aI=>?_;obtain⟨zv,H2,I2,r2,q2⟩:=aI;exact qk I2 hN hi hx r2 (λs3 I3=>⟨_,H2,I3,q2⟩) hf
 rcases l with ⟨hk,hm⟩|⟨hk,c,hc,hcell⟩
 ·exact wpAny_loadName_local I.ok.kind hk hn hm go
 ·rcases hk with hk|hk
  ·exact wpAny_loadName_cell I.ok.kind hk hc hcell go
  ·rcases hx with k|k
   ·have:X.env.scope.names.lookup x=some .free:=hk;rw[k]at this;cases this
   ·have:X.env.scope.names.lookup x=some .free:=hk;rw[k]at this;cases this
end
section
variable {X:Cx} {pos:Pos}
noncomputable def K7(c:TT)(tb:TS):TS:=λD σ H=>∃W:Nat->St->Hp->Prop,(∃m,W m σ H)/\∀m σ H,W m σ H ->
 c σ H λb H1=>if b=true then ∃N:St->Hp->Prop,(∀σ' H',N σ' H'->∃m',m'<m/\W m' σ' H')/\tb { D with nx:=N,ct:=N,bk:=D.nx } σ H1 else D.nx σ H1
theorem CL(hp:PassesOwn (model X.prog X.w) X.A X.env X.xe)(hc:PT X c tc)(hb:yq X body tb):PS X (.While c body [] pos) (K7 tc tb):=by
 intro pins s σ H D I h;obtain⟨W,⟨m0,w0⟩,turn⟩:=h;refine wpAny_While (codeAny_whileLoop (λn s'=>∃σ' H',Inv X pins σ' H' s'/\W n σ' H') ?_ m0 ⟨σ,H,I,w0⟩);rintro n s1 ⟨σ1,H1,I1,w1⟩;refine wpAny_passesOwn hp (cA (hc pins s1 σ1 H1 _ I1 (turn n σ1 H1 w1)) λb s2 aI=>?_);obtain⟨H2,I2,q2⟩:=aI;cases b with
 |true=>
  obtain⟨N,hN,q2⟩:=q2;rw[if_pos rfl];refine wpAny_passesOwn hp (cA (hb pins s2 σ1 H2 _ I2 q2) λf s3 q3=>?_);cases f with
  |next=>obtain⟨σ3,H3,I3,n3⟩:=q3;obtain⟨m',hm,w3⟩:=hN σ3 H3 n3;exact⟨m',hm,σ3,H3,I3,w3⟩
  |cont=>obtain⟨σ3,H3,I3,n3⟩:=q3;obtain⟨m',hm,w3⟩:=hN σ3 H3 n3;exact⟨m',hm,σ3,H3,I3,w3⟩
  |brk=>exact q3
  |ret v=>exact q3
 |false=>rw[if_neg Bool.false_ne_true];exact wpAny_execs_nil ⟨σ1,H2,I2,q2⟩
end
structure It where
 go:Nat->Hp->Prop
 yz:Nat->Hp->V->Hp->Prop
 stop:Nat->Hp->Prop
noncomputable def pN(X:Cx)(pins:List (Addr×Obj))(H:Hp)(b:Addr):Prop :=
 H b=none/\b≠X.env.locals/\b∉X.fs/\(b∈X.ex\/X.s₀.heap.objs.size<=b)/\(∀x c,X.env.cells.lookup x=some c->c≠b)/\∀p∈X.pn++pins,p.1≠b
theorem Inv.CM(I:Inv X pins σ H s)(hb:s.heap.objs.size<=b)(hn:H' b=none):pN X pins H' b:=by
 refine⟨hn,Nat.ne_of_gt (lt_of_lt_of_le I.lt hb),I.TF hb,.inr (le_trans I.sz hb),λx c e z=>?_,λp hp z=>?_⟩
 ·obtain⟨v,q⟩:=I.cell x c e;exact absurd (lt_of_lt_of_le q.lt (by rw[z];exact hb)) (lt_irrefl _)
 ·exact absurd (lt_of_lt_of_le (lt_size (I.pin p hp).1) (by rw[z];exact hb)) (lt_irrefl _)
structure Turn (P:Program) (w:World) (K:PySem.W.Frag) (tg:Expr) (J:It) (fp:List Addr) (it:Addr) (tn:Nat->Heap->Prop):Prop where
 mem:it∈fp
 obj:∀i h,tn i h->∀b∈fp,∃o,h.get? b=some o/\∀v,o.data≠.cell v
 keep:∀i h h',tn i h->(∀b∈fp,∀o,h.get? b=some o->h'.get? b=some o)->tn i h'
 item:∀(X:Cx),X.prog=P->X.w=w->X.K=K->X.calm=true->∀(i:Nat) (pins:List (Addr×Obj)) (s:Shared) (σ:St) (H:Hp) (E:Value->Shared->Prop),Inv X pins σ H s->(∀b∈fp,pN X pins H b)->tn i s.heap->J.go i H ->
  wpAny (model P w) X.A (pyNext (.ref it)) (λr s1=>∃u,r=some u /\
   wpAny (model P w) X.A (letOwnedTupleGo tg (.ref it) u) (λ_ s2=>∃x H',Inv X pins σ H' s2/\RelV x u/\J.yz i H x H'/\tn (i+1) s2.heap/\∀b∈fp,H' b=none) E s1) E s
 done:∀(X:Cx),X.prog=P->X.w=w->X.K=K->X.calm=true->∀(i:Nat) (pins:List (Addr×Obj)) (s:Shared) (σ:St) (H:Hp) (E:Value->Shared->Prop),Inv X pins σ H s->(∀b∈fp,pN X pins H b)->tn i s.heap->J.stop i H ->
  wpAny (model P w) X.A (pyNext (.ref it)) (λr s1=>r=none/\Inv X pins σ H s1) E s
 self:∀(A:Around) (i:Nat) (s:Shared) (Q:Value->Shared->Prop) (E:Value->Shared->Prop),tn i s.heap->Q (.ref it) s->wpAny (model P w) A (pyIter (.ref it)) Q E s
noncomputable abbrev TI:=St->Hp->(It->Hp->Prop)->Prop
noncomputable def Yp(X:Cx)(pins:List (Addr×Obj))(σ:St)(tg:Expr)(R:It->Hp->Prop)(itv:Value)(s2:Shared):Prop :=
 ∃(it:Addr) (fp:List Addr) (tn:Nat->Heap->Prop) (J:It) (H':Hp),itv=.ref it/\Inv X pins σ H' s2/\Turn X.prog X.w X.K tg J fp it tn/\tn 0 s2.heap/\(∀b∈fp,pN X pins H' b)/\R J H'
noncomputable def PI(X:Cx)(tg iter:Expr)(wi:TI):Prop :=
 ∀(pins:List (Addr×Obj)) (s:Shared) (σ:St) (H:Hp) (R:It->Hp->Prop),Inv X pins σ H s->wi σ H R ->
  wpAny (model X.prog X.w) X.A (eval iter X.env) (λv s1=>wpAny (model X.prog X.w) X.A (pyIter v) (Yp X pins σ tg R) X.xe s1) X.xe s
theorem zQ{n:String}(ho:s.heap.get? it=some o)(hc:o.cls=.type n)(hd:o.data=.fields vs)
  (hn:["enumerate","zip","dict_itemiterator","dict_reverseitemiterator","odict_iterator","itertools.zip_longest","itertools.pairwise"].contains n=false) (hQ:Q () s):wpAny M A (letOwnedTupleGo tg (.ref it) u) Q E s:=by
 unfold letOwnedTupleGo;cases tg<;>first
  |exact wpAny_pure hQ
  | (cases u<;>first
    |exact wpAny_pure hQ
    | (refine wpAny_bind (wpAny_load ho ?_)
       rw[hc,hd];show wpAny M A (if (["enumerate","zip","dict_itemiterator","dict_reverseitemiterator","odict_iterator","itertools.zip_longest","itertools.pairwise"].contains n&&vs[0]?==some (rawInt _))=true then _ else _) Q E s;rw[if_neg (by intro h;rw[hn,Bool.false_and]at h;cases h)];exact wpAny_pure hQ))
noncomputable def SM(K:PySem.W.Frag)(a:Addr):It :=
 ⟨λi H=>∃xs x,gI K H a xs/\xs[i]?=some x,λi H x H'=>H'=H/\∀xs,gI K H a xs->xs[i]?=some x,λi H=>∃xs,gI K H a xs/\xs.length<=i⟩
noncomputable def TY(K:PySem.W.Frag)(a:Addr):It :=
 ⟨λi H=>∃xs x,jK K H a xs/\xs[i]?=some x,λi H x H'=>H'=H/\∀xs,jK K H a xs->xs[i]?=some x,λi H=>∃xs,jK K H a xs/\xs.length<=i⟩
noncomputable def Pa(lo:Int)(n:Nat):It:=⟨λi _=>i<n,λi H x H'=>H'=H/\x=.int (lo+i),λi _=>n<=i⟩
theorem Bf{P:Program}{w:World}{K:PySem.W.Frag}{tg:Expr}(a it:Addr):Turn P w K tg (SM K a) [it] it (λi h=>h.IsListIter it a i) where
 mem:=by simp
 obj:=λi h st b hb=>by
  have e:b=it:=by simpa using hb
  subst e;obtain⟨o,e,c,d⟩:=st;exact⟨o,e,λv z=>by rw[d]at z;cases z⟩
 keep:=λi h h' st k=>st.at λo e=>k it (by simp) o e
 item:=by intro X hP hw hK hc i pins s σ H E I hf st hg;subst hP hw hK;obtain⟨xs,x,hq,hx⟩:=hg;obtain⟨its,rv,p,hz⟩:=I.list hq;obtain⟨u,hu,ru⟩:=rv.get hx;obtain⟨f0,f1,f2,f3,f4,f5⟩:=hf it (by simp);refine wpAny_pyNext_list_item st p.isList (x:=u) (by simpa using hu) λh' st' sb=>?_;have I1:Inv X pins σ H { s with heap:=h' }:=I.turned (t':=s.toks) (λb o hb e=>(sb.2 b hb).trans e) f0 f1 f3 f4 f5;obtain⟨o,e,c,d⟩:=id st';exact⟨u,rfl,zQ (s:={ s with heap:=h' }) e c d (by decide) ⟨x,H,I1,ru,⟨rfl,λys hy=>by rw[I.vZ hy hq];exact hx⟩,st',λb hb=>(hf b hb).1⟩⟩
 done:=by intro X hP hw hK hc i pins s σ H E I hf st hg;subst hP hw hK;obtain⟨xs,hq,hx⟩:=hg;obtain⟨its,rv,p,hz⟩:=I.list hq;obtain⟨f0,f1,f2,f3,f4,f5⟩:=hf it (by simp);have hl:=rv.length;exact wpAny_pyNext_list_end (I.ok.hd hc) st p.isList (by simp;omega) λh' eb=>⟨rfl,I.turned (t':=s.toks) (λb o hb e=>eb b o hb e) f0 f1 f3 f4 f5⟩
 self:=λ_ _ _ _ _ st h=>wpAny_pyIter_listiter st h
theorem yC{P:Program}{w:World}{K:PySem.W.Frag}{tg:Expr}(a it:Addr):Turn P w K tg (TY K a) [it] it (λi h=>h.IsTupleIter it a i) where
 mem:=by simp
 obj:=λi h st b hb=>by
  have e:b=it:=by simpa using hb
  subst e;obtain⟨o,e,c,d⟩:=st;exact⟨o,e,λv z=>by rw[d]at z;cases z⟩
 keep:=λi h h' st k=>st.at λo e=>k it (by simp) o e
 item:=by intro X hP hw hK hc i pins s σ H E I hf st hg;subst hP hw hK;obtain⟨xs,x,hq,hx⟩:=hg;obtain⟨its,rv,p,hz⟩:=I.tuple hq;obtain⟨u,hu,ru⟩:=rv.get hx;obtain⟨f0,f1,f2,f3,f4,f5⟩:=hf it (by simp);refine wpAny_pyNext_tuple_item st (show s.heap.IsTuple a its.toArray from p) (x:=u) (by simpa using hu) λh' st' sb=>?_;have I1:Inv X pins σ H { s with heap:=h' }:=I.turned (t':=s.toks) (λb o hb e=>(sb.2 b hb).trans e) f0 f1 f3 f4 f5;obtain⟨o,e,c,d⟩:=id st';exact⟨u,rfl,zQ (s:={ s with heap:=h' }) e c d (by decide) ⟨x,H,I1,ru,⟨rfl,λys hy=>by rw[I.Be hy hq];exact hx⟩,st',λb hb=>(hf b hb).1⟩⟩
 done:=by intro X hP hw hK hc i pins s σ H E I hf st hg;subst hP hw hK;obtain⟨xs,hq,hx⟩:=hg;obtain⟨its,rv,p,hz⟩:=I.tuple hq;obtain⟨f0,f1,f2,f3,f4,f5⟩:=hf it (by simp);have hl:=rv.length;exact wpAny_pyNext_tuple_end (I.ok.hd hc) st (show s.heap.IsTuple a its.toArray from p) (by simp;omega) λh' eb=>⟨rfl,I.turned (t':=s.toks) (λb o hb e=>eb b o hb e) f0 f1 f3 f4 f5⟩
 self:=λ_ _ _ _ _ st h=>wpAny_pyIter_tupleiter st h
theorem yD{P:Program}{w:World}{K:PySem.W.Frag}{tg:Expr}(it:Addr)(lo:Int)(n:Nat):Turn P w K tg (Pa lo n) [it] it (λi h=>IsRangeIter h it (lo+(i:Nat)*1) ((n:Int)-(i:Nat)) 1) where
 mem:=by simp
 obj:=λi h st b hb=>by
  have e:b=it:=by simpa using hb
  subst e;exact⟨_,st,λv z=>by
   have z':Data.fields _=Data.cell v:=z;cases z'⟩
 keep:=λi h h' st k=>k it (by simp) _ st
 item:=by intro X hP hw hK hc i pins s σ H E I hf st hg;subst hP hw hK;obtain⟨f0,f1,f2,f3,f4,f5⟩:=hf it (by simp);have W:=Walks.range (prog:=X.prog) (w:=X.w) (I.ok.hd hc) it lo 1 n;refine W.item i s _ _ hg st λv h' tk hv st' kk=>?_;obtain⟨t,rfl⟩:=hv;have I1:Inv X pins σ H { s with heap:=h',toks:=tk }:=I.turned (λb o hb e=>kk b o (by simpa using hb) e) f0 f1 f3 f4 f5;refine⟨_,rfl,zQ (s:={ s with heap:=h',toks:=tk }) (n:="range_iterator") st' rfl rfl (by decide) ⟨.int (lo+i),H,I1,⟨t,?_⟩,⟨rfl,rfl⟩,st',λb hb=>(hf b hb).1⟩⟩;rw[Int.mul_one]
 done:=by intro X hP hw hK hc i pins s σ H E I hf st hg;subst hP hw hK;obtain⟨f0,f1,f2,f3,f4,f5⟩:=hf it (by simp);exact wpAny_pyNext_range_end (I.ok.hd hc) st (by have:n<=i:=hg;omega) λh' eb=>⟨rfl,I.turned (t':=s.toks) (λb o hb e=>eb b o hb e) f0 f1 f3 f4 f5⟩
 self:=λ_ _ _ _ _ st h=>wpAny_pyIter_rangeiter st h
end L2
namespace L2
open PySem PySem.Spec PyProof.Rows
section
variable {X:Cx} {tg:Expr}
noncomputable def Pb(K:PySem.W.Frag)(tl:TE):TI:=λσ H R=>tl σ H λx H1=>∃a,x=.ref a/\(∃xs,gI K H1 a xs)/\R (SM K a) H1
noncomputable def TZ(K:PySem.W.Frag)(tl:TE):TI:=λσ H R=>tl σ H λx H1=>∃a,x=.ref a/\(∃xs,jK K H1 a xs)/\R (TY K a) H1
theorem GD(hl:PE X l tl):PI X tg l (Pb X.K tl):=by
 intro pins s σ H R I h;refine cA (hl pins s σ H _ I h) λv s1 aI=>?_;obtain⟨x,H1,I1,r1,q1⟩:=aI;obtain⟨a,e,⟨xs,hq⟩,q⟩:=q1;subst e;cases r1;obtain⟨its,rv,p,hz⟩:=I1.list hq;refine wpAny_pyIter_list p.isList ?_;refine⟨s1.heap.objs.size,[s1.heap.objs.size],_,_,H1,rfl,I1.kept (t':=s1.toks) λb o e=>get?_push_of_some _ e,Bf a _,⟨_,get?_push_size _ rfl,rfl,rfl⟩,λb hb=>?_,q⟩;have e:b=s1.heap.objs.size:=by simpa using hb
 subst e;exact I1.CM (Nat.le_refl _) (I1.hok.fresh (Nat.le_refl _))
theorem K8(hl:PE X l tl):PI X tg l (TZ X.K tl):=by
 intro pins s σ H R I h;refine cA (hl pins s σ H _ I h) λv s1 aI=>?_;obtain⟨x,H1,I1,r1,q1⟩:=aI;obtain⟨a,e,⟨xs,hq⟩,q⟩:=q1;subst e;cases r1;obtain⟨its,rv,p,hz⟩:=I1.tuple hq;refine wpAny_pyIter_tuple (show s1.heap.IsTuple a its.toArray from p) ?_;refine⟨s1.heap.objs.size,[s1.heap.objs.size],_,_,H1,rfl,I1.kept (t':=s1.toks) λb o e=>get?_push_of_some _ e,yC a _,⟨_,get?_push_size _ rfl,rfl,rfl⟩,λb hb=>?_,q⟩;have e:b=s1.heap.objs.size:=by simpa using hb
 subst e;exact I1.CM (Nat.le_refl _) (I1.hok.fresh (Nat.le_refl _))
theorem v8{lo hi:Int}{tk:Nat}(I:Inv X pins σ H s)(h1:-(2 ^ 62)<=lo)(h2:lo<2 ^ 62)(h3:-(2 ^ 62)<=hi)(h4:hi<2 ^ 62)
  (q:R (Pa lo (hi-lo).toNat) H):wpAny (model X.prog X.w) X.A (pyIter (.ref s.heap.objs.size)) (Yp X pins σ tg R) E { s with heap:=s.heap.push { cls:=.type "range",data:=.fields #[.int lo t,.int hi u,.int 1 v] },toks:=tk }:=by
 refine wpAny_pyIter_range (IsRange.new ..) (small_one h1 h2 h3 h4) ?_;have I1:Inv X pins σ H { s with heap:=s.heap.push { cls:=.type "range",data:=.fields #[.int lo t,.int hi u,.int 1 v] },toks:=tk }:=I.kept λb o e=>get?_push_of_some _ e;refine⟨(s.heap.push { cls:=.type "range",data:=.fields #[.int lo t,.int hi u,.int 1 v] }).objs.size,[(s.heap.push { cls:=.type "range",data:=.fields #[.int lo t,.int hi u,.int 1 v] }).objs.size],_,_,H,rfl,
  I1.kept (t':=tk) λb o e=>get?_push_of_some _ e,yD _ lo (hi-lo).toNat,?_,λb hb=>?_,q⟩
 ·have e1:lo+((0:Nat):Int)*1=lo:=by simp
  have e2:(((hi-lo).toNat:Nat):Int)-((0:Nat):Int)=Builtin.Range.rangeSize lo hi 1:=by rw[rangeSize_one];split<;>omega
  show IsRangeIter _ _ (lo+((0:Nat):Int)*1) ((((hi-lo).toNat:Nat):Int)-((0:Nat):Int)) 1;rw[e1,e2];exact get?_push_size _ rfl
 ·have e:b=(s.heap.push { cls:=.type "range",data:=.fields #[.int lo t,.int hi u,.int 1 v] }).objs.size:=by simpa using hb
  subst e;exact I1.CM (Nat.le_refl _) (I1.hok.fresh (Nat.le_refl _))
noncomputable def Pc(ta:TA):TI:=λσ H R=>ta σ H λvs H1=>∃j:Int,vs=[.int j] /\ -(2 ^ 62)<=j/\j<2 ^ 62/\R (Pa 0 j.toNat) H1
noncomputable def Pd(ta:TA):TI:=λσ H R=>ta σ H λvs H1=>∃i j:Int,vs=[.int i,.int j]/\(-(2 ^ 62)<=i/\i<2 ^ 62 /\ -(2 ^ 62)<=j/\j<2 ^ 62)/\R (Pa i (j-i).toNat) H1
theorem Bg(hg:Gl X "range")(hm:X.mg "range" = none)(ha:PA X [a] ta)(hs:starEach [a] X.env=[(false,eval a X.env)]:=by rfl):PI X tg (.Call (.Name "range" p) [a] [] pos) (Pc ta):=by
 intro pins s σ H R I h;refine Call_ (iX I hg hm boot_range (PyProof.Rows.callWith_type1 (cA (ha pos pins s σ H _ I h) λus s1 aI=>?_) hs rfl));obtain⟨vs,H1,I1,r1,q1⟩:=aI;obtain⟨j,e,q1,q2,q⟩:=q1;subst e;cases r1 with
 |cons r rr=>cases rr;obtain⟨t,rfl⟩:=r;exact call_range_1 (v8 I1 (by omega) (by omega) q1 q2 (by simpa using q))
theorem Bh(hg:Gl X "range")(hm:X.mg "range" = none)(ha:PA X [a,b] ta)(hs:starEach [a,b] X.env=[(false,eval a X.env),(false,eval b X.env)]:=by rfl)(hs2:starEach [b] X.env=[(false,eval b X.env)]:=by rfl) :
  PI X tg (.Call (.Name "range" p) [a,b] [] pos) (Pd ta):=by
 intro pins s σ H R I h;refine Call_ (iX I hg hm boot_range (PyProof.Rows.callWith_type1 (cA (ha pos pins s σ H _ I h) λus s1 ⟨vs,H1,I1,r1,q1⟩=>?_) (by rw[hs,hs2]) (by rw[hs2];rfl)));obtain⟨i,j,e,⟨q1,q2,q3,q4⟩,q⟩:=q1;subst e;cases r1 with
 |cons r rr=>
  cases rr with
  |cons r' rr=>cases rr;obtain⟨t,rfl⟩:=r;obtain⟨t',rfl⟩:=r';exact call_range_2 (v8 I1 q1 q2 q3 q4 q)
noncomputable def T4(wi:TI)(g:TG)(tb:TS):TS:=λD σ H=>wi σ H λJ H1=>∃W:Nat->Nat->St->Hp->Prop,(∃m,W 0 m σ H1)/\∀i m σ H,W i m σ H ->
 (J.stop i H/\D.nx σ H)\/(J.go i H/\∃N:St->Hp->Prop,(∀σ' H',N σ' H'->∃m',m'<m/\W (i+1) m' σ' H')/\∀x H',J.yz i H x H'->g x σ H' λσ2 H2=>tb { D with nx:=N,ct:=N,bk:=D.nx } σ2 H2)
noncomputable def ql(fp:List Addr)(h:Heap):List (Addr×Obj):=fp.filterMap λb=>(h.get? b).map λo=>(b,o)
theorem jL(hb:b∈fp)(e:h.get? b=some o):(b,o)∈ql fp h:=List.mem_filterMap.mpr ⟨b,hb,by rw[e];rfl⟩
theorem Bj(hp:p∈ql fp h):p.1∈fp/\h.get? p.1=some p.2:=by
 obtain⟨b,hb,e⟩:=List.mem_filterMap.mp hp;cases q:h.get? b with
 |none=>rw[q]at e;cases e
 |some o=>rw[q]at e;have e':(b,o)=p:=Option.some.inj e;subst e';exact⟨hb,q⟩
theorem Inv.pinned(I:Inv X pins σ H s)(hf:∀b∈fp,pN X pins H b)(ho:∀b∈fp,∃o,s.heap.get? b=some o/\∀v,o.data≠.cell v):Inv X (pins++ql fp s.heap) σ H s :=
 I.zO λp hp=>(mem_append.mp hp).elim (λz=>I.pin p (mem_append_right _ z)) λz=>by
  obtain⟨hb,e⟩:=Bj z;obtain⟨f0,f1,f2,_⟩:=hf p.1 hb;obtain⟨o,e',d⟩:=ho p.1 hb;rw[e]at e';cases e';exact⟨e,f0,f1,f2,d⟩
theorem Inv.mH(I:Inv X (pins++pl) σ H s):Inv X pins σ H s:=I.zO λp hp=>I.pin p (mem_append_right _ (mem_append_left _ hp))
theorem K9(hp:PassesOwn (model X.prog X.w) X.A X.env X.xe)(hc:X.calm=true)(hi:PI X tg iter wi)(hg:PG X tg g)(hb:yq X body tb)
  (hs:∀x,foldedSetIterable iter X.env x=pure x:=by intro _;rfl):PS X (.For tg iter body [] pos) (T4 wi g tb):=by
 intro pins s σ H D I h;refine wpAny_For (cA (hi pins s σ H _ I h) λv s1 h1=>cA h1 λitv s2 h2=>?_) hs;obtain⟨it,fp,tn,J,H2,e,I2,T,st2,f2,W,⟨m0,w0⟩,turn⟩:=h2;subst e;have stat:∀{H':Hp},(∀b∈fp,H' b=none)->∀b∈fp,pN X pins H' b:=λhn b hb=>⟨hn b hb,(f2 b hb).2⟩;refine codeAny_forLoop_any (λn s'=>∃i σ' H',Inv X pins σ' H' s'/\tn i s'.heap/\(∀b∈fp,H' b=none)/\W i n σ' H') ?_ m0 ⟨0,σ,H2,I2,st2,λb hb=>(f2 b hb).1,w0⟩;rintro n s3 ⟨i,σ3,H3,I3,st3,Yq,w3⟩
 rcases turn i n σ3 H3 w3 with ⟨stop,qn⟩|⟨go,N,hN,step⟩
 ·refine wpAny_passesOwn hp (cA (T.done X rfl rfl rfl hc i pins s3 σ3 H3 X.xe I3 (stat Yq) st3 stop) λr s4 aI=>?_);obtain⟨hr,I4⟩:=aI;subst hr;exact wpAny_execs_nil ⟨σ3,H3,I4,qn⟩
 ·refine wpAny_passesOwn hp (cA (T.item X rfl rfl rfl hc i pins s3 σ3 H3 X.xe I3 (stat Yq) st3 go) λr s4 aI=>?_)
  obtain⟨u,hr,h4⟩:=aI;subst hr;refine wpAny_passesOwn hp (cA h4 λ_ s5 aI=>?_);obtain⟨x,H5,I5,r5,y5,Ou,SN⟩:=aI;have I5':=I5.pinned (stat SN) (T.obj _ _ Ou);refine wpAny_passesOwn hp (cA (hg _ s5 σ3 H5 x u _ I5' r5 (step x H5 y5)) λ_ s6 aI=>?_);obtain⟨σ6,H6,I6,q6⟩:=aI;refine wpAny_passesOwn hp (cA (hb _ s6 σ6 H6 _ I6 q6) λf s7 q7=>?_);have again:∀{σ7:St} {H7:Hp},Inv X (pins++ql fp s5.heap) σ7 H7 s7->N σ7 H7->∃m,m<n/\∃i σ' H',Inv X pins σ' H' s7/\tn i s7.heap/\(∀b∈fp,H' b=none)/\W i m σ' H':=λ{σ7 H7} I7 n7=>by
   obtain⟨m',hm,w7⟩:=hN σ7 H7 n7;refine⟨m',hm,i+1,σ7,H7,I7.mH,T.keep _ _ _ Ou λb hb o e=>(I7.pin (b,o) (mem_append_right _ (mem_append_right _ (jL hb e)))).1,λb hb=>?_,w7⟩;obtain⟨o,e,d⟩:=T.obj _ _ Ou b hb;exact(I7.pin (b,o) (mem_append_right _ (mem_append_right _ (jL hb e)))).2.1
  cases f with
  |next=>obtain⟨σ7,H7,I7,n7⟩:=q7;exact again I7 n7
  |cont=>obtain⟨σ7,H7,I7,n7⟩:=q7;exact again I7 n7
  |brk=>obtain⟨σ7,H7,I7,q7⟩:=q7;exact⟨σ7,H7,I7.mH,q7⟩
  |ret v=>obtain⟨x7,σ7,H7,I7,r7,q7⟩:=q7;exact⟨x7,σ7,H7,I7.mH,r7,q7⟩
end
end L2
namespace L2
open PySem PySem.Spec PyProof.Rows
noncomputable abbrev R2:=V->V->Hp->VK->Prop
noncomputable def kh(X:Cx)(f:Value->Value->Sem Value)(r:R2):Prop :=
 ∀(pins:List (Addr×Obj)) (s:Shared) (σ:St) (H:Hp) (x y:V) (v u:Value) (Q:VK),Inv X pins σ H s->RelV x v->RelV y u->r x y H Q ->
  wpAny (model X.prog X.w) X.A (f v u) (EP X pins σ Q) X.xe s
noncomputable def SO(X:Cx)(f:Value->Sem Value)(r:V->Hp->VK->Prop):Prop :=
 ∀(pins:List (Addr×Obj)) (s:Shared) (σ:St) (H:Hp) (x:V) (v:Value) (Q:VK),Inv X pins σ H s->RelV x v->r x H Q ->
  wpAny (model X.prog X.w) X.A (f v) (EP X pins σ Q) X.xe s
noncomputable def cR(X:Cx)(f:Value)(r:List V->Hp->VK->Prop):Prop :=
 ∀(pins:List (Addr×Obj)) (s:Shared) (σ:St) (H:Hp) (xs:List V) (us:List Value) (Q:VK),Inv X pins σ H s->Vals xs us->r xs H Q ->
  wpAny (model X.prog X.w) X.A (call f us) (EP X pins σ Q) X.xe s
noncomputable def T5(X:Cx)(r:V->Hp->(Bool->Hp->Prop)->Prop):Prop :=
 ∀(pins:List (Addr×Obj)) (s:Shared) (σ:St) (H:Hp) (x:V) (v:Value) (Q:Bool->Hp->Prop),Inv X pins σ H s->RelV x v->r x H Q ->
  wpAny (model X.prog X.w) X.A (truthy v) (TP X pins σ Q) X.xe s
noncomputable def Ov(r:R2)(ta tb:TE):TE:=λσ H Q=>ta σ H λx H1=>tb σ H1 λy H2=>r x y H2 Q
noncomputable def tUn(r:V->Hp->VK->Prop)(ta:TE):TE:=λσ H Q=>ta σ H λx H1=>r x H1 Q
noncomputable def rI(C:Int->Int->Prop)(g:Int->Int->V):R2:=λx y H Q=>∃i j,x=.int i/\y=.int j/\C i j/\Q (g i j) H
noncomputable def Gf(g:Int->Int->V):R2:=λx y H Q=>∃i j,x=.int i/\y=.int j/\Q (g i j) H
noncomputable def rU(g:Int->V):V->Hp->VK->Prop:=λx H Q=>∃i,x=.int i/\Q (g i) H
section
variable {X:Cx} {a b c:Expr} {ta tb tc:TE} {pos:Pos}
theorem La(ha:PE X a ta)(hb:PE X b tb){pins:List (Addr×Obj)}{s:Shared}{σ:St}{H:Hp}{R:V->V->Hp->Prop}(I:Inv X pins σ H s)
  (h:ta σ H λx H1=>tb σ H1 λy H2=>R x y H2) {Q:Value->Shared->Prop} {f:Value->Value->Sem Value}
  (hf:∀v u s2 x y H2,Inv X pins σ H2 s2->RelV x v->RelV y u->R x y H2->wpAny (model X.prog X.w) X.A (f v u) Q X.xe s2) :
  wpAny (model X.prog X.w) X.A (eval a X.env) (λv s₁=>wpAny (model X.prog X.w) X.A (eval b X.env) (λu s₂=>wpAny (model X.prog X.w) X.A (f v u) Q X.xe s₂) X.xe s₁) X.xe s:=by
 refine cA (ha pins s σ H _ I h) λv s1 aI=>?_;obtain⟨x,H1,I1,r1,q1⟩:=aI;refine cA (hb pins s1 σ H1 _ I1 q1) λu s2 aI=>?_;obtain⟨y,H2,I2,r2,q2⟩:=aI;exact hf v u s2 x y H2 I2 r1 r2 q2
theorem Pe(ho:kh X (binaryOp op) r)(ha:PE X a ta)(hb:PE X b tb):PE X (.BinOp a op b pos) (Ov r ta tb):=by
 intro pins s σ H Q I h;exact wpAny_BinOp (La ha hb I h λv u s2 x y H2 I2 rx ry q=>ho pins s2 σ H2 x y v u Q I2 rx ry q)
theorem Pf(ho:SO X (unaryOp op) r)(ha:PE X a ta):PE X (.UnaryOp op a pos) (tUn r ta):=by
 intro pins s σ H Q I h;exact UnaryOp_ (cA (ha pins s σ H _ I h) λv s1 ⟨x,H1,I1,r1,q1⟩=>ho pins s1 σ H1 x v Q I1 r1 q1)
theorem Lb{f:Value->Value->Sem Value}{C:Int->Int->Prop}{g:Int->Int->Int}
  (rule:∀(i j:Int) (t u:Tok) (s:Shared) (Q:Value->Shared->Prop) (E:Value->Shared->Prop),C i j->Q (.int (g i j) s.toks) { s with toks:=s.toks+1 }->wpAny (model X.prog X.w) X.A (f (.int i t) (.int j u)) Q E s) :
  kh X f (rI C λi j=>.int (g i j)):=by
 intro pins s σ H x y v u Q I rx ry h;obtain⟨i,j,rfl,rfl,hc,q⟩:=h;obtain⟨t,rfl⟩:=rx;obtain⟨t',rfl⟩:=ry;exact rule i j t t' s _ _ hc ⟨.int (g i j),H,I.tok _,⟨_,rfl⟩,q⟩
theorem GF{f:Value->Value->Sem Value}{g:Int->Int->Int}
  (rule:∀(i j:Int) (t u:Tok) (s:Shared) (Q:Value->Shared->Prop) (E:Value->Shared->Prop),Q (.int (g i j) s.toks) { s with toks:=s.toks+1 }->wpAny (model X.prog X.w) X.A (f (.int i t) (.int j u)) Q E s) :
  kh X f (Gf λi j=>.int (g i j)):=by
 intro pins s σ H x y v u Q I rx ry h;obtain⟨i,j,rfl,rfl,q⟩:=h;obtain⟨t,rfl⟩:=rx;obtain⟨t',rfl⟩:=ry;exact rule i j t t' s _ _ ⟨.int (g i j),H,I.tok _,⟨_,rfl⟩,q⟩
theorem GG{f:Value->Value->Sem Value}{g:Int->Int->Bool}
  (rule:∀(i j:Int) (t u:Tok) (s:Shared) (Q:Value->Shared->Prop) (E:Value->Shared->Prop),Q (.bool (g i j)) s->wpAny (model X.prog X.w) X.A (f (.int i t) (.int j u)) Q E s) :
  kh X f (Gf λi j=>.bl (g i j)):=by
 intro pins s σ H x y v u Q I rx ry h;obtain⟨i,j,rfl,rfl,q⟩:=h;obtain⟨t,rfl⟩:=rx;obtain⟨t',rfl⟩:=ry;exact rule i j t t' s _ _ ⟨.bl (g i j),H,I,rfl,q⟩
noncomputable def T6(i j:Int):Prop:=0<=j/\j<=1000000/\i.natAbs<2 ^ 64
noncomputable def GH(i j:Int):Prop:=(-(2 ^ 64)<i/\i<2 ^ 64)\/(-(2 ^ 64)<j/\j<2 ^ 64)
theorem GH.ok{i j:Int}(h:GH i j):IntMulOk i j:=by
 rcases h with ⟨h1,h2⟩|⟨h1,h2⟩
 ·exact .of_left (intBits_le_64 h1 h2)
 ·exact .of_right (intBits_le_64 h1 h2)
theorem Lc:kh X (binaryOp .Add) (Gf λi j=>.int (i+j)):=GF λ_ _ _ _ _ _ _ q=>add_int q
theorem Ld:kh X (binaryOp .Sub) (Gf λi j=>.int (i-j)):=GF λ_ _ _ _ _ _ _ q=>sub_int q
theorem Le:kh X (binaryOp .Mult) (rI GH λi j=>.int (i*j)):=Lb λ_ _ _ _ _ _ _ hc q=>mul_int q hc.ok
theorem Lf:kh X (binaryOp .Mod) (rI (λ_ j=>0<j) λi j=>.int (i%j)):=Lb λi j _ _ _ _ _ hc q=>by
 have h1:(0:Int)<j:=hc;exact mod_int' (by omega) (by rw[Int.fmod_eq_emod_of_nonneg i (by omega)];exact q)
theorem Lg:kh X (binaryOp .Pow) (rI T6 λi j=>.int (i ^ j.toNat)):=Lb λ_ _ _ _ _ _ _ hc q=>pow_int_small hc.1 hc.2.1 hc.2.2 q
theorem GI:kh X (inplaceOp .Add) (Gf λi j=>.int (i+j)):=GF λ_ _ _ _ _ _ _ q=>iadd_int q
theorem GJ:kh X (inplaceOp .Sub) (Gf λi j=>.int (i-j)):=GF λ_ _ _ _ _ _ _ q=>isub_int q
theorem GK:kh X (inplaceOp .Mult) (rI GH λi j=>.int (i*j)):=Lb λ_ _ _ _ _ _ _ hc q=>imul_int q hc.ok
theorem GL:kh X (inplaceOp .Mod) (rI (λ_ j=>0<j) λi j=>.int (i%j)):=Lb λi j _ _ _ _ _ hc q=>by
 have h1:(0:Int)<j:=hc;exact imod_int (by omega) (by rw[Int.fmod_eq_emod_of_nonneg i (by omega)];exact q)
theorem unI{f:Value->Sem Value}{g:Int->Int}
  (rule:∀(i:Int) (t:Tok) (s:Shared) (Q:Value->Shared->Prop) (E:Value->Shared->Prop),Q (.int (g i) s.toks) { s with toks:=s.toks+1 }->wpAny (model X.prog X.w) X.A (f (.int i t)) Q E s) :
  SO X f (rU λi=>.int (g i)):=by
 intro pins s σ H x v Q I rx h;obtain⟨i,rfl,q⟩:=h;obtain⟨t,rfl⟩:=rx;exact rule i t s _ _ ⟨.int (g i),H,I.tok _,⟨_,rfl⟩,q⟩
theorem CN:SO X (unaryOp .USub) (rU λi=>.int (-i)):=unI λ_ _ _ _ _ q=>neg_int q
end
section
variable {X:Cx} {a b c:Expr} {ta tb tc:TE} {pos:Pos}
theorem nO{k k':Bool}(I:Inv X pins σ H s)(q:Q (.bl k) H)(e:k=k'):EP X pins σ Q (.bool k') s:=by
 subst e;exact⟨.bl k,H,I,rfl,q⟩
theorem Pg:kh X (compareOp .Lt) (Gf λi j=>.bl (decide (i<j))):=GG λ_ _ _ _ _ _ _ q=>lt_int q
theorem Ph:kh X (compareOp .LtE) (Gf λi j=>.bl (decide (i<=j))):=GG λ_ _ _ _ _ _ _ q=>le_int q
theorem Pj:kh X (compareOp .Gt) (Gf λi j=>.bl (decide (j<i))):=GG λ_ _ _ _ _ _ _ q=>gt_int q
theorem Pk:kh X (compareOp .GtE) (Gf λi j=>.bl (decide (j<=i))):=GG λ_ _ _ _ _ _ _ q=>ge_int q
theorem Bk:kh X (compareOp .In) (λx y H Q=>∃i j,x=.str i/\y=.str j/\Q (.bl (!(Builtin.Str.occurrences j i 0 j.length 1).isEmpty)) H):=by
 intro pins s σ H x y v u Q I rx ry h;obtain⟨i,j,rfl,rfl,q⟩:=h;obtain⟨t,rfl⟩:=rx;obtain⟨t',rfl⟩:=ry;exact in_str (nO I q rfl)
theorem Lh:kh X (compareOp .Is) (λx y H Q=>y=.non/\Q (.bl (decide (x=.non))) H):=by
 intro pins s σ H x y v u Q I rx ry h;obtain⟨rfl,q⟩:=h;cases ry;refine is_none_gen (nO I q ?_);cases x<;>first
  |(cases rx;rfl)
  |(obtain⟨t,rfl⟩:=rx;rfl)
theorem GN:kh X (compareOp .IsNot) (λx y H Q=>y=.non/\Q (.bl (!decide (x=.non))) H):=by
 intro pins s σ H x y v u Q I rx ry h;obtain⟨rfl,q⟩:=h;cases ry;refine isnot_none_gen (nO I q ?_);cases x<;>first
  |(cases rx;rfl)
  |(obtain⟨t,rfl⟩:=rx;rfl)
theorem uJ:kh X (compareOp .NotIn) (λx y H Q=>∃i j,x=.str i/\y=.str j/\Q (.bl (!(!(Builtin.Str.occurrences j i 0 j.length 1).isEmpty))) H):=by
 intro pins s σ H x y v u Q I rx ry h;obtain⟨i,j,rfl,rfl,q⟩:=h;obtain⟨t,rfl⟩:=rx;obtain⟨t',rfl⟩:=ry;exact notIn_str (nO I q rfl)
theorem GO(ho:kh X (compareOp op) r)(ha:PE X a ta)(hb:PE X b tb)(hm:behindInMarks op b=false):PE X (.Compare a [op] [b] pos) (Ov r ta tb):=by
 intro pins s σ H Q I h;exact wpAny_Compare1 (La ha hb I h λv u s2 x y H2 I2 rx ry q=>ho pins s2 σ H2 x y v u Q I2 rx ry q) hm
noncomputable def CO(t:TE):TT:=λσ H Q=>t σ H λx H'=>∃k,x=.bl k/\Q k H'
theorem zR(ho:kh X (compareOp op) r)(ha:PE X a ta)(hb:PE X b tb)(hm:behindInMarks op b=false):PT X (.Compare a [op] [b] pos) (CO (Ov r ta tb)):=by
 intro pins s σ H Q I h;refine wpAny_isTrue_Compare1 (cA (ha pins s σ H _ I h) λv s1 ⟨x,H1,I1,r1,q1⟩=>cA (hb pins s1 σ H1 _ I1 q1) λu s2 ⟨y,H2,I2,r2,q2⟩=>
  cA (ho pins s2 σ H2 x y v u _ I2 r1 r2 q2) λc s3 ⟨z,H3,I3,r3,k,e,q3⟩=>?_) hm
 subst e;cases r3;exact wpAny_truthy_bool ⟨H3,I3,q3⟩
noncomputable def Li(K:PySem.W.Frag)(x:V)(H:Hp)(k:Bool):Prop :=
 match x with
 |.non=>k=false
 |.bl b=>k=b
 |.int i=>k=(i != 0)
 |.str y=>y.length<=sizeLine/\k=((y.length:Int) != 0)
 |.byt y=>y.size<=sizeLine/\k=((y.size:Int) != 0)
 |.ref p=>(∃xs,gI K H p xs/\k = !xs.isEmpty)\/(∃xs,jK K H p xs/\k = !xs.isEmpty)\/∃kvs,H p=some (.dK kvs)/\k = !kvs.isEmpty
 |_=>False
theorem yE{κ:Type}{kvs:List (κ × V)}{vs:List (κ × Value)}(r:KV kvs vs):(!vs.isEmpty) = !kvs.isEmpty:=by
 cases r<;>rfl
theorem qm(r:Vals xs its):(!its.toArray.isEmpty) = !xs.isEmpty:=by
 cases r<;>simp
theorem nQ:(sizeLine:Nat)<2 ^ 63:=by rw[sizeLine_eq];decide
theorem Lj:T5 X (λx H Q=>∃k,Li X.K x H k/\Q k H):=by
 intro pins s σ H x v Q I rx h;obtain⟨k,e,q⟩:=h;have hl:=nQ;have hs:sizeLine=16777216:=sizeLine_eq;cases x with
 |non=>cases rx;have e':k=false:=e;subst e';exact truthy_none ⟨H,I,q⟩
 |bl b=>cases rx;have e':k=b:=e;subst e';exact wpAny_truthy_bool ⟨H,I,q⟩
 |int i=>obtain⟨t,rfl⟩:=rx;have e':k=(i != 0):=e;subst e';exact PySem.P.truthy_int ⟨H,I,q⟩
 |str y=>obtain⟨t,rfl⟩:=rx;obtain⟨hy,e'⟩:y.length<=sizeLine/\k=((y.length:Int) != 0):=e;subst e';exact PySem.P.truthy_str (by omega) ⟨H,I.tok _,q⟩
 |byt y=>obtain⟨t,rfl⟩:=rx;obtain⟨hy,e'⟩:y.size<=sizeLine/\k=((y.size:Int) != 0):=e;subst e';exact PySem.W.truthy_bytes (by omega) ⟨H,I.tok _,q⟩
 |ref p=>
  cases rx;have e':(∃xs,gI X.K H p xs/\k = !xs.isEmpty)\/(∃xs,jK X.K H p xs/\k = !xs.isEmpty)\/∃kvs,H p=some (.dK kvs)/\k = !kvs.isEmpty:=e
  rcases e' with ⟨xs,hx,e'⟩|⟨xs,hx,e'⟩|⟨kvs,hx,e'⟩
  ·subst e';obtain⟨its,r,pl,hz⟩:=I.list hx;have hlen:=r.length;exact wpAny_truthy_list pl.isList (by simp only[size_toArray];omega) ⟨H,I.tok _,by rw[qm r];exact q⟩
  ·subst e';obtain⟨its,r,pl,hz⟩:=I.tuple hx;have hlen:=r.length;exact truthy_tuple pl (by simp only[size_toArray];omega) ⟨H,I.tok _,by rw[qm r];exact q⟩
  ·subst e';obtain⟨hz,hS,vs,r,m⟩:kvs.length<=sizeLine/\(p==sysModules)=false/\∃vs,KV kvs vs/\s.heap.DictOf (aR X.prog X.w) p vs:=I.hok p _ hx;have hlen:kvs.length=vs.length:=Paired.length r;exact wpAny_truthy_dict hS m (by omega) ⟨H,I.tok _,by rw[yE r];exact q⟩
 |_=>exact(show False from e).elim
theorem CP(ha:PE X a ta)(he:∀whole,isTrue a X.env whole=(do let v <-whole;standAt a.pos;holding [v] (truthy v))) :
  PT X a (λσ H Q=>ta σ H λx H'=>∃k,Li X.K x H' k/\Q k H'):=by
 intro pins s σ H Q I h;exact isTrue_plain (cA (ha pins s σ H _ I h) λv s1 ⟨x,H1,I1,r1,q1⟩=>Lj pins s1 σ H1 x v Q I1 r1 q1) (he _)
theorem yF:kh X (binaryOp .Add) (λx y H Q=>∃i j,x=.str i/\y=.str j/\i.length+j.length<=sizeLine/\Q (.str (i++j)) H):=by
 intro pins s σ H x y v u Q I rx ry h;obtain⟨i,j,rfl,rfl,hz,q⟩:=h;obtain⟨t,rfl⟩:=rx;obtain⟨t',rfl⟩:=ry;exact add_str (λt' tk=>⟨.str (i++j),H,I.tok _,⟨_,rfl⟩,q⟩) hz
theorem vals1(r:Vals [x] us):∃u,us=[u]/\RelV x u:=by
 cases r with
 |cons r1 r2=>cases r2;exact⟨_,rfl,r1⟩
theorem vals2(r:Vals [x,y] us):∃u w',us=[u,w']/\RelV x u/\RelV y w':=by
 cases r with
 |cons r1 r2=>
  cases r2 with
  |cons r3 r4=>cases r4;exact⟨_,_,rfl,r1,r3⟩
theorem Bm(hc:X.calm=true):cR X (.builtin "max") (λxs H Q=>∃i j,xs=[.int i,.int j]/\Q (.int (if j>i then j else i)) H):=by
 intro pins s σ H xs us Q I r h;obtain⟨i,j,rfl,q⟩:=h;obtain⟨u,w',rfl,⟨t,rfl⟩,⟨t',rfl⟩⟩:=vals2 r;refine max_two_ints (I.ok.hd hc) λh' tk k=>⟨_,H,I.kept k,?_,q⟩
 by_cases hj:j>i
 ·rw[if_pos hj,if_pos hj];exact⟨_,rfl⟩
 ·rw[if_neg hj,if_neg hj];exact⟨_,rfl⟩
theorem Bo(hc:X.calm=true):cR X (.builtin "min") (λxs H Q=>∃i j,xs=[.int i,.int j]/\Q (.int (if j<i then j else i)) H):=by
 intro pins s σ H xs us Q I r h;obtain⟨i,j,rfl,q⟩:=h;obtain⟨u,w',rfl,⟨t,rfl⟩,⟨t',rfl⟩⟩:=vals2 r;refine min_two_ints (I.ok.hd hc) λh' tk k=>⟨_,H,I.kept k,?_,q⟩
 by_cases hj:j<i
 ·rw[if_pos hj,if_pos hj];exact⟨_,rfl⟩
 ·rw[if_neg hj,if_neg hj];exact⟨_,rfl⟩
theorem tM:cR X (.type "int") (λxs H Q=>(∃i,xs=[.int i]/\Q (.int i) H)\/∃k,xs=[.bl k]/\Q (.int (if k then 1 else 0)) H):=by
 intro pins s σ H xs us Q I r h
 rcases h with ⟨i,rfl,q⟩|⟨k,rfl,q⟩
 ·obtain⟨u,rfl,t,rfl⟩:=vals1 r;exact call_int_int ⟨.int i,H,I,⟨_,rfl⟩,q⟩
 ·obtain⟨u,rfl,r1⟩:=vals1 r;cases r1;exact call_int_bool ⟨.int (if k then 1 else 0),H,I.tok _,⟨_,rfl⟩,q⟩
noncomputable def T7(K:PySem.W.Frag)(x:V)(H:Hp)(n:Nat):Prop :=
 match x with
 |.str y=>y.length<=sizeLine/\n=y.length
 |.byt y=>y.size<=sizeLine/\n=y.size
 |.ref p=>(∃xs,gI K H p xs/\n=xs.length)\/∃xs,jK K H p xs/\n=xs.length
 |_=>False
theorem mJ:cR X (.builtin "len") (λxs H Q=>∃x n,xs=[x]/\T7 X.K x H n/\Q (.int n) H):=by
 intro pins s σ H xs us Q I r h;obtain⟨x,n,rfl,e,q⟩:=h;obtain⟨u,rfl,rx⟩:=vals1 r;have hl:=nQ;have hs:sizeLine=16777216:=sizeLine_eq;cases x with
 |str y=>obtain⟨t,rfl⟩:=rx;obtain⟨hy,e'⟩:y.length<=sizeLine/\n=y.length:=e;subst e';exact len_str (by omega) ⟨.int _,H,I.tok _,⟨_,rfl⟩,q⟩
 |byt y=>obtain⟨t,rfl⟩:=rx;obtain⟨hy,e'⟩:y.size<=sizeLine/\n=y.size:=e;subst e';exact PySem.W.len_bytes (by omega) ⟨.int _,H,I.tok _,⟨_,rfl⟩,q⟩
 |ref p=>
  cases rx;have e':(∃xs,gI X.K H p xs/\n=xs.length)\/∃xs,jK X.K H p xs/\n=xs.length:=e
  rcases e' with ⟨xs,hx,e'⟩|⟨xs,hx,e'⟩
  ·subst e';obtain⟨its,r',pl,hz⟩:=I.list hx;have hlen:=r'.length;exact Calls.call_len_list pl.isList (by simp only[size_toArray];omega) ⟨.int xs.length,H,I.tok _,⟨_,by simp only[size_toArray];rw[hlen]⟩,q⟩
  ·subst e';obtain⟨its,r',pl,hz⟩:=I.tuple hx;have hlen:=r'.length;exact len_tuple pl (by simp only[size_toArray];omega) ⟨.int xs.length,H,I.tok _,⟨_,by simp only[size_toArray];rw[hlen]⟩,q⟩
 |_=>exact(show False from e).elim
end
end L2
namespace L2
open PySem PySem.Spec PyProof.Rows
structure yG (h:Heap) (x dx C:Addr) (mA:Str->Option Value):Prop where
 obj:h.get? x=some (instObj C dx)
 ns:h.Ns1 dx mA
 ne:dx≠x
theorem Bp{h:Heap}{dx:Addr}{mA:Str->Option Value}(n:h.Ns1 dx mA):∃od,h.get? dx=some od/\∀name,lookIn name od=some (mA name):=by
 obtain⟨o,es,ep,ho,hd,hk,_,hm⟩:=n;refine⟨o,ho,λname=>?_⟩;have e:=hm name;unfold nsFind findBy at e;rw[<-Array.find?_toList]at e;unfold lookIn;rw[hd];dsimp only
 split
 ·rename_i y q;rw[q]at e;exact congrArg some e
 ·rename_i q
  rw[q]at e;have a:es.toList.any (·.refKey)=false:=by rw[List.any_eq_false];intro y hy;obtain⟨z,t,hkey⟩:=hk y (Array.mem_toList_iff.mp hy);simp[DictEntry.refKey,hkey]
  have a':¬ es.toList.any (·.refKey)=true:=by rw[a];exact Bool.false_ne_true
  rw[if_neg a'];exact congrArg some e
theorem yG.look(I:yG h x dx C mA):∃od,PySem.W.InstAt h x (instObj C dx) C (some od)/\∀name,lookIn name od=some (mA name) :=
 let ⟨od,ho,hl⟩:=Bp I.ns
 ⟨od,⟨I.obj,rfl,rfl,ho⟩,hl⟩
section
variable {prog:Program} {w:World} {A:Around} {E:Value->Shared->Prop} {s:Shared} {K:PySem.W.Frag} {x dx C f:Addr} {mA:Str->Option Value} {name:Str} {v:Value}
theorem get_map{expr:Bool}(X:K.In s.heap)(I:yG s.heap x dx C mA)(hg:plainGet K C name=true)(hh:hasDictIn K C=true)
  (ha:findIn K (.ref C) name=some none) (hv:mA name=some v) (hv':handedIn v=true) (h:Q v { s with toks:=s.toks+1 }) :
  wpAny (model prog w) A (getAttr (.ref x) name expr) Q E s:=by
 obtain⟨od,J,hl⟩:=I.look;exact PySem.W.get_value X J (plainGet_of hg).1 (PySem.W.findObj_own hh ha rfl (by rw[hl,hv])) hv' h
theorem CQ(X:K.In s.heap)(I:yG s.heap x dx C mA)(hg:plainGet K C name=true)
  (hf:findIn K (.ref C) name=some (some (.ref f))) (ht:PySem.W.isFn K (.ref f)=true) (hv:mA name=none) (h:Q (.ref f,[.ref x]) s) :
  wpAny (model prog w) A (getMethod (.ref x) name pl) Q E s:=by
 obtain⟨od,J,hl⟩:=I.look;exact PySem.W.method_fn X J (plainGet_of hg).1 (plainGet_of hg).2 hf (beq_iff_eq.mp ht) (by show (lookIn name od).map (·.isSome)=some false;rw[hl,hv];rfl) h
theorem GP(X:K.In s.heap)(I:yG s.heap x dx C mA)
  (hs:findIn K (.ref C) "__setattr__" = some (some (.builtin "object.__setattr__"))) (hp:plainOver K C=true) (ht:takerIn K C name=some none) (hh:hasDictIn K C=true)
  (hw:PySem.Within mA ns) (hsz:ns.length<=sizeLine)
  (h:∀h',yG h' x dx C (λy=>if y=name then some v else mA y)->Heap.SameBut dx s.heap h'->Q () { s with heap:=h',toks:=s.toks+2 }) :
  wpAny (model prog w) A (setAttr (.ref x) name v) Q E s:=by
 obtain⟨od,J,hl⟩:=I.look;refine PySem.W.set_plain X J hs (PySem.W.osa_open (s:={ s with toks:=s.toks+1 }) (r:=none) X J hp ht λb=>?_);obtain⟨cd,hc,hd'⟩:=PySem.W.any_some hh;have hx:s.heap.get? x=some ⟨.ref C,some dx,.plain,#[]⟩:=I.obj;refine wpAny_bind (wpAny_pure (wpAny_bind (wpAny_bind (wpAny_loadPart hx (wpAny_bind (PySem.W.Looks.here (s:={ s with toks:=s.toks+1 }) (PySem.W.looks_clsIn X hc) ?_))))));rw[hd'];refine wpAny_pure (a:=some dx) (wpAny_bind (wpAny_pure (wpAny_bind ?_)));refine wpAny_nsSet1 (s:={ s with toks:=s.toks+1 }) I.ns λh' hn2 hs2=>?_;obtain⟨oD,esD,epD,hoD,hdD,hcD⟩:=hn2.count (PySem.Within.cons name v hw);refine wpAny_bind (wpAny_lookBehind hoD (by rw[hdD];exact pastItsLine_dict (le_trans hcD (by rw[length_cons];omega))) ?_);exact wpAny_pure (h _ ⟨(hs2.2 _ (Ne.symm I.ne)).trans I.obj,hn2,I.ne⟩ hs2)
theorem CS(X:K.In s.heap)(hm:makesIn K C=true)
  (hi:findIn K (.ref C) "__init__" = some (some (.ref f))) (hf:typeIn K (.ref f)=some (.type "function"))
  (h:codeAny (model prog w) (A.under (.builtin "type.__call__" ⟨.ref C::vs,kw⟩)) (.call (.ref f) ⟨.ref (s.heap.objs.size+1)::vs,kw⟩) (PySem.W.InitBack (s.heap.objs.size+1) R)
   { s with heap:=(s.heap.push emptyDict).push (instObj C s.heap.objs.size) }) :
  codeAny (model prog w) A (.call (.ref C) ⟨vs,kw⟩) R s:=by
 obtain⟨hh,g,d,t,os⟩:=s;exact PySem.W.make_core (PySem.W.makes_of X hm) (PySem.W.looks_findIn X hi) (λself=>PySem.W.bind_fn X self hf) (.inl rfl) h
end
noncomputable def jM(f:Str)(v:V):List (Str×V)->List (Str×V)
 |[]=>[(f,v)]
 |(g,x)::r=>if g=f then (g,v)::r else (g,x)::jM f v r
theorem oY(f g:Str)(v:V):∀fs:List (Str×V),(jM f v fs).lookup g=if g=f then some v else fs.lookup g
 | []=>by
  show List.lookup g [(f,v)]=_
  by_cases h:g=f
  ·have hb:(g==f)=true:=beq_iff_eq.mpr h;simp only[List.lookup,hb,if_pos h]
  ·have hb:(g==f)=false:=beq_eq_false_iff_ne.mpr h;simp only[List.lookup,hb,if_neg h]
 | (k,x)::r=>by
  have ih:=oY f g v r;rw[show jM f v ((k,x)::r)=(if k=f then (k,v)::r else (k,x)::jM f v r) from rfl]
  by_cases hk:k=f
  ·rw[if_pos hk]
   by_cases h:g=k
   ·have hb:(g==k)=true:=beq_iff_eq.mpr h;simp only[List.lookup,hb,if_pos (h.trans hk)]
   ·have hb:(g==k)=false:=beq_eq_false_iff_ne.mpr h;simp only[List.lookup,hb,if_neg (λe:g=f=>h (e.trans hk.symm))]
  ·rw[if_neg hk]
   by_cases h:g=k
   ·have hb:(g==k)=true:=beq_iff_eq.mpr h;simp only[List.lookup,hb,if_neg (λe:g=f=>hk (h.symm.trans e))]
   ·have hb:(g==k)=false:=beq_eq_false_iff_ne.mpr h;simp only[List.lookup,hb];exact ih
theorem nR(f:Str)(v:V):∀fs:List (Str×V),f∈(jM f v fs).map (·.1)/\∀g,g∈fs.map (·.1)->g∈(jM f v fs).map (·.1)
 |[]=>⟨by simp[jM],λg h=>by simp at h⟩
 | (k,x)::r=>by
  obtain⟨i1,i2⟩:=nR f v r;rw[show jM f v ((k,x)::r)=(if k=f then (k,v)::r else (k,x)::jM f v r) from rfl]
  by_cases hk:k=f
  ·rw[if_pos hk];subst hk;exact⟨by simp,λg h=>by simpa using h⟩
  ·rw[if_neg hk]
   refine⟨?_,λg h=>?_⟩
   ·rw[map_cons];exact mem_cons_of_mem _ i1
   ·rw[map_cons]at h |-
    rcases mem_cons.mp h with e|e
    ·exact mem_cons.mpr (.inl e)
    ·exact mem_cons_of_mem _ (i2 g e)
theorem oZ(f:Str)(v:V):∀fs:List (Str×V),(jM f v fs).length<=fs.length+1
 |[]=>by simp[jM]
 | (k,x)::r=>by
  have ih:=oZ f v r;rw[show jM f v ((k,x)::r)=(if k=f then (k,v)::r else (k,x)::jM f v r) from rfl]
  by_cases hk:k=f
  ·rw[if_pos hk,length_cons,length_cons];omega
  ·rw[if_neg hk,length_cons,length_cons];omega
theorem kc.some_of(r:kc (some v) o):∃u,o=some u/\RelV v u:=by
 cases o with
 |none=>exact(show False from r).elim
 |some u=>exact⟨u,rfl,r⟩
theorem kc.none_of(r:kc none o):o=none:=by
 cases o with
 |none=>rfl
 |some u=>exact(show False from r).elim
theorem Bq(r:RelV v u):handedIn u=true:=by
 cases v with
 |non=>cases (show u=Value.none from r);rfl
 |bl b=>cases (show u=Value.bool b from r);rfl
 |int i=>obtain⟨t,e⟩:=(show ∃t,u=Value.int i t from r);cases e;rfl
 |str x=>obtain⟨t,e⟩:=(show ∃t,u=Value.str x t from r);cases e;rfl
 |byt b=>obtain⟨t,e⟩:=(show ∃t,u=Value.bytes b t from r);cases e;rfl
 |flt b=>obtain⟨t,e⟩:=(show ∃t,u=Value.float b t from r);cases e;rfl
 |ref a=>cases (show u=Value.ref a from r);rfl
 |ty n=>cases (show u=Value.type n from r);rfl
section
variable {P:Program} {w:World} {H H':Hp} {h h':Heap} {a C dx:Addr} {fs fs':List (Str×V)}
theorem uK(hok:mj P w H h)(e:H a=some (.ins C dx fs)):∃mA,yG h a dx C mA/\(∀f,kc (fs.lookup f) (mA f))/\PySem.Within mA (fs.map (·.1))/\fs.length<=1000/\H dx=some (.own a):=by
 obtain⟨d,z,ne,ob,mA,n,r,q⟩:=(show bT P w H h a (.ins C dx fs) from hok a _ e);exact⟨mA,⟨ob,n,ne⟩,r,q,z,d⟩
end
structure Cu (K:PySem.W.Frag) (C:Addr):Prop where
 pg:plainGet K C Str.empty=true
 hd:hasDictIn K C=true
 po:plainOver K C=true
 sa:findIn K (.ref C) "__setattr__" = some (some (.builtin "object.__setattr__"))
theorem Cu.get{K:PySem.W.Frag}{C:Addr}(c:Cu K C)(f:Str):plainGet K C f=true:=c.pg
noncomputable def ku(K:PySem.W.Frag)(C:Addr)(f:Str):Prop:=findIn K (.ref C) f=some none
theorem ku.Pn{K:PySem.W.Frag}{C:Addr}{f:Str}(n:ku K C f):takerIn K C f=some none:=by
 unfold takerIn;rw[show findIn K (.ref C) f=some none from n];rfl
structure Meth (K:PySem.W.Frag) (C:Addr) (m:Str) (f:Addr):Prop where
 at_:findIn K (.ref C) m=some (some (.ref f))
 fn:PySem.W.isFn K (.ref f)=true
 kp:keepIn K (.ref f)=true
section
variable {X:Cx} {pins:List (Addr×Obj)} {σ:St} {H:Hp} {s:Shared} {a C dx:Addr} {fs:List (Str×V)} {f:Str} {v:V} {A:Around} {E:Value->Shared->Prop}
theorem yH{b:Bool}(I:Inv X pins σ H s)(e:H a=some (.ins C dx fs))(c:Cu X.K C)(n:ku X.K C f)(l:fs.lookup f=some v)
  (h:∀u s',Inv X pins σ H s'->RelV v u->Q u s'):wpAny (model X.prog X.w) A (getAttr (.ref a) f b) Q E s:=by
 obtain⟨mA,O,r,_,_,_⟩:=uK I.hok e;obtain⟨u,hu,ru⟩:=kc.some_of (v:=v) (o:=mA f) (by rw[<-l];exact r f);exact get_map I.nM O (c.get f) c.hd n hu (Bq ru) (h u _ (I.tok _) ru)
theorem qo(I:Inv X pins σ H s)(e:H a=some (.ins C dx fs))(c:Cu X.K C)(k:Meth X.K C m g)(l:fs.lookup m=none)
  (h:Q (.ref g,[.ref a]) s):wpAny (model X.prog X.w) A (getMethod (.ref a) m pl) Q E s:=by
 obtain⟨mA,O,r,_,_,_⟩:=uK I.hok e;have hn:mA m=none:=kc.none_of (by rw[<-l];exact r m);exact CQ I.nM O (c.get m) k.at_ k.fn hn h
theorem yI(I:Inv X pins σ H s)(e:H a=some (.ins C dx fs))(c:Cu X.K C)(n:ku X.K C f)(hl:fs.length<1000)(ry:RelV y u)
  (h:∀s',Inv X pins σ (upd H a (.ins C dx (jM f y fs))) s'->Q () s'):wpAny (model X.prog X.w) A (setAttr (.ref a) f u) Q E s:=by
 obtain⟨mA,O,r,wi,_,ho⟩:=uK I.hok e;have hz:(fs.map (·.1)).length<=sizeLine:=by rw[length_map,sizeLine_eq];omega
 refine GP I.nM O c.sa c.po n.Pn c.hd wi hz λh' O' sb=>h _ ?_;have hd:∃o,h'.get? dx=some o:=let ⟨o,_,_,e',_⟩:=O'.ns;⟨o,e'⟩
 refine I.write (x:=a) (e:=dx) (by rw[e];exact True.intro) (.inr ho) (λb q hb z=>(sb.2 b hb).trans z) hd ?_;refine⟨by rw[ao O.ne];exact ho,?_,O.ne,O'.obj,_,O'.ns,λg=>?_,λg hg=>?_⟩
 ·have:=oZ f y fs;omega
 ·show kc ((jM f y fs).lookup g) (if g=f then some u else mA g)
  rw[oY]
  by_cases q:g=f
  ·rw[if_pos q,if_pos q];exact ry
  ·rw[if_neg q,if_neg q];exact r g
 ·by_cases q:g=f
  ·rw[q];exact(nR f y fs).1
  ·refine(nR f y fs).2 g (wi g λz=>hg ?_);show (if g=f then some u else mA g)=none;rw[if_neg q];exact z
theorem Inv.made(I:Inv X pins σ H s):Inv X pins σ (upd (upd H s.heap.objs.size (.own (s.heap.objs.size+1))) (s.heap.objs.size+1) (.ins C s.heap.objs.size []))
  { s with heap:=(s.heap.push emptyDict).push (instObj C s.heap.objs.size) }:=by
 have e1:(s.heap.push emptyDict).get? s.heap.objs.size=some emptyDict:=get?_push_size s.heap rfl;have e2:((s.heap.push emptyDict).push (instObj C s.heap.objs.size)).get? (s.heap.objs.size+1)=some (instObj C s.heap.objs.size):=by have:=get?_push_size (s.heap.push emptyDict) (o:=instObj C s.heap.objs.size) rfl;rwa [size_push]at this
 have e3:(s.heap.push emptyDict).Ns s.heap.objs.size (λ_=>none):=⟨emptyDict,#[],_,e1,rfl,(λe he=>absurd he (by simp)),λ_=>rfl⟩;have I1:=I.laid (a:=s.heap.objs.size) (o:=.own (s.heap.objs.size+1)) (h':=s.heap.push emptyDict) (t':=s.toks) (λb u q=>get?_push_of_some _ q) (Nat.le_refl _) ⟨_,e1⟩;refine I1.laid (a:=s.heap.objs.size+1) (o:=.ins C s.heap.objs.size []) (t':=s.toks) (λb u q=>get?_push_of_some _ q) (Nat.le_of_eq (size_push _ _)) ?_;have ne:s.heap.objs.size≠s.heap.objs.size+1:=ne_of_lt (lt_succ_self _);refine⟨by rw[ao ne,aO],zero_le _,ne,e2,λ_=>none,(Heap.Ns1.of_empty e3).at λo q=>get?_push_of_some _ q,λ_=>True.intro,λy hy=>absurd rfl hy⟩
theorem attr_of(hb:attributeBase e f env (eval e env)=eval e env)
  (h:wpAny (model prog w) A (eval e env) (λo s₁=>wpAny (model prog w) A (getAttr o f true) Q E s₁) E s):wpAny (model prog w) A (eval (.Attribute e f pos) env) Q E s :=
 Attribute_any_ h (by rw[arm_eval_Attribute,hb])
end
noncomputable def tFld(K:PySem.W.Frag)(ta:TE)(f:Str):TE:=λσ H Q=>ta σ H λx H1=>∃a C dx fs v,x=.ref a/\H1 a=some (.ins C dx fs)/\Cu K C/\ku K C f/\fs.lookup f=some v/\Q v H1
noncomputable def T8(K:PySem.W.Frag)(ta tv:TE)(f:Str):TS:=λD σ H=>tv σ H λy H1=>ta σ H1 λx H2=>∃a C dx fs,x=.ref a/\H2 a=some (.ins C dx fs)/\Cu K C/\ku K C f/\fs.length<1000 /\
 D.nx σ (upd H2 a (.ins C dx (jM f y fs)))
section
variable {X:Cx} {o e value:Expr} {f:Str} {pos pos' tpos:Pos} {ta tv:TE}
theorem pe_fld(he:PE X e ta)(hb:attributeBase e f X.env (eval e X.env)=eval e X.env):PE X (.Attribute e f pos) (tFld X.K ta f):=by
 intro pins s σ H Q I h;refine attr_of hb (cA (he pins s σ H _ I h) λu s1 aI=>?_);obtain⟨x,H1,I1,rx,a,C,dx,fs,v,ex,ea,c,n,l,q⟩:=aI;subst ex;obtain rfl:u=Value.ref a:=rx;exact yH I1 ea c n l λu' s2 I2 ru=>⟨v,H1,I2,ru,q⟩
theorem Lk(ha:PE X o ta)(hv:PE X value tv)(hs:swapsWith value (some (.Attribute o f pos')) pos.line X.env=pure false):PS X (.Assign [.Attribute o f pos'] value pos) (T8 X.K ta tv f):=by
 intro pins s σ H D I h;refine plainObj_wpAny_Assign_Attribute (cA (hv pins s σ H _ I h) λu s1 ⟨y,H1,I1,ry,q⟩=>cA (ha pins s1 σ H1 _ I1 q) λov s2 ⟨x,H2,I2,rx,a,C,dx,fs,ex,ea,c,n,l,q2⟩=>?_) hs;subst ex;obtain rfl:ov=Value.ref a:=rx;exact yI I2 ea c n l ry λs3 I3=>⟨σ,_,I3,q2⟩
end
section
variable {X:Cx} {pins:List (Addr×Obj)} {σ:St} {H:Hp} {s:Shared} {A:Around} {E:Value->Shared->Prop} {Q:Value->Shared->Prop} {c:Value} {b:Bool}
end
end L2
namespace L2
open PySem PySem.Spec PyProof.Rows
structure dP (k:Nat) (A:Around):Prop where
 hd:A.handled=none
 dp:A.depth+3*k+5<recursionLimit
 un:A.units+16*k+200<cLine
theorem dP.mono{j k:Nat}(r:dP k A)(h:j<=k):dP j A:=⟨r.hd,by have:=r.dp;omega,by have:=r.un;omega⟩
theorem dP.deeper{k:Nat}(r:dP (k+1) A)(env:Env):dP k (A.deeper env) :=
 ⟨r.hd,by have:=r.dp;show A.depth+1+3*k+5<_;omega,by have:=r.un;show A.units+3+16*k+200<_;omega⟩
theorem yJ{A:Around}{C:Addr}{us:List Value}{kw:List (Str×Value)}:(A.under (.builtin "type.__call__" ⟨.ref C::us,kw⟩)).depth=A.depth+1:=by
 first|rfl|simp[Around.under,Code.weight,Code.isCreation,Code.isGuard,Code.isCaller,Code.frames,Code.isFrame,guardIds]
theorem yK{A:Around}{C:Addr}{us:List Value}{kw:List (Str×Value)}:(A.under (.builtin "type.__call__" ⟨.ref C::us,kw⟩)).units=A.units+1:=by
 first|rfl|simp[Around.under,Code.cUnits,Code.frames,Code.isFrame]
theorem dP.make{k:Nat}(r:dP (k+1) A)(C:Addr)(us:List Value)(kw:List (Str×Value)):dP k (A.under (.builtin "type.__call__" ⟨.ref C::us,kw⟩)) :=
 ⟨r.hd,by have:=r.dp;rw[yJ];omega,by have:=r.un;rw[yK];omega⟩
theorem dP.depth{k:Nat}(r:dP k A):A.depth<recursionLimit:=by have:=r.dp;omega
theorem dP.units{k:Nat}(r:dP k A):A.units+64<cLine:=by have:=r.un;omega
noncomputable def Ll:TA:=λ_ H Q=>Q [] H
noncomputable def Po(ta:TE)(tr:TA):TA:=λσ H Q=>ta σ H λx H1=>tr σ H1 λxs H2=>Q (x::xs) H2
section
variable {X:Cx} {e:Expr} {es:List Expr} {te:TE} {t:TA} {pos:Pos}
theorem CT:PA X [] Ll:=λ_ _ _ _ H Q I h=>Calls.spliced_nil ⟨[],H,I,.nil,h⟩
theorem uL(ha:PE X e te)(hr:PA X es t)(hs:starEach (e::es) X.env=(false,eval e X.env)::starEach es X.env:=by rfl):PA X (e::es) (Po te t):=by
 intro pos pins s σ H Q I h;rw[hs];show wpAny _ _ (spliced ((false,eval e X.env)::backTo pos (starEach es X.env))) _ _ s;refine Calls.spliced_cons (cA (ha pins s σ H _ I h) λu s1 aI=>?_);obtain⟨x,H1,I1,r1,q1⟩:=aI;exact cA (hr pos pins s1 σ H1 _ I1 q1) λus s2 ⟨xs,H2,I2,r2,q2⟩=>⟨x::xs,H2,I2,.cons r1 r2,q2⟩
noncomputable def T9(t:TA):TE:=λσ H Q=>t σ H λxs H1=>xs.length<=sizeLine/\∀p,H1 p=none->Q (.ref p) (upd H1 p (.tup xs))
noncomputable def Ua(t:TA):TE:=λσ H Q=>t σ H λxs H1=>xs.length<=sizeLine/\∀p,H1 p=none->Q (.ref p) (upd H1 p (.lst xs))
theorem Lm{x1}(h:PA X es t):PE X (.Tuple es x1 pos) (T9 t):=by
 intro pins s σ H Q I hq;refine wpAny_Tuple_spliced (cA (h pos pins s σ H _ I hq) λus s1 ⟨xs,H1,I1,r,z,q⟩=>⟨by rw[<-r.length];exact z,?_⟩);have hf:H1 s1.heap.objs.size=none:=I1.hok.fresh (Nat.le_refl _);refine⟨.ref s1.heap.objs.size,upd H1 s1.heap.objs.size (.tup xs),I1.laid (t':=s1.toks) (λb u e=>get?_push_of_some _ e) (Nat.le_refl _) ?_,rfl,q _ hf⟩;exact⟨z,us,r,⟨_,get?_push_size _ rfl,rfl,_,rfl⟩⟩
theorem Lo(h:PA X es t):PE X (.List es pos) (Ua t):=by
 intro pins s σ H Q I hq;refine wpAny_List_spliced (cA (h pos pins s σ H _ I hq) λus s1 ⟨xs,H1,I1,r,z,q⟩=>⟨by rw[<-r.length];exact z,?_⟩);have hf:H1 s1.heap.objs.size=none:=I1.hok.fresh (Nat.le_refl _);refine⟨.ref s1.heap.objs.size,upd H1 s1.heap.objs.size (.lst xs),I1.laid (t':=s1.toks) (λb u e=>get?_push_of_some _ e) (Nat.le_refl _) ?_,rfl,q _ hf⟩;exact⟨z,us,0,r,get?_push_size _ rfl⟩
end
noncomputable abbrev Sp:=List V->Hp->VK->XK->Prop
noncomputable abbrev Br:=List Env->Hp->Shared->XK->Value->Shared->Prop
structure yL (P:Program) (w:World) (K:PySem.W.Frag) (mg:Str->Option Value) (base:Heap) (A:Around) (outer:List Env) (s:Shared) (H:Hp):Prop where
 frames:A.frames=some outer
 mod:Mod K mg base
 bs:∀b o,base.get? b=some o->s.heap.get? b=some o/\H b=none
 JN:base.objs.size<=s.heap.objs.size
 pM:s.heap.FunFrames base outer
 KN:∀b∈frs outer,H b=none
 hok:mj P w H s.heap
 bare:AllBare s.gens
noncomputable def CE(outer:List Env)(P:Program)(w:World)(H:Hp)(s:Shared)(Q:VK)(u:Value)(s':Shared):Prop :=
 ∃v H',s'.os=s.os/\AllBare s'.gens/\Un (frs outer) [] H H' s.heap s'.heap/\mj P w H' s'.heap/\RelV v u/\Q v H'
noncomputable def CR(CX:Br)(outer:List Env)(P:Program)(w:World)(H:Hp)(s:Shared)(Q:VK)(E:XK)(r:Result)(s':Shared):Prop :=
 match r with
 |.ok (.ret u)=>CE outer P w H s Q u s'
 |.ok _=>False
 |.error e=>CX outer H s E e s'
structure fU (P:Program) (w:World) (K:PySem.W.Frag) (mg:Str->Option Value) (base:Heap) (CX:Br) (k:Nat) (f:Addr) (fd:FuncData) (ps:List Str) (sp:Sp):Prop where
 len:∀vs H Q E,sp vs H Q E->vs.length=ps.length
 run:∀(A:Around) (outer:List Env) (s:Shared) (H:Hp) (args:Args) (us:List Value) (vs:List V) (Q:VK) (E:XK),dP k A->yL P w K mg base A outer s H->BindsTo s fd args (ps.zip us)->Vals vs us->sp vs H Q E ->
  codeAny (model P w) A (.call (.ref f) args) (CR CX outer P w H s Q E) s
theorem fU.mono{P:Program}{w:World}{K:PySem.W.Frag}{mg:Str->Option Value}{base:Heap}{CX:Br}{j k:Nat}{f:Addr}{fd:FuncData}{ps:List Str}{sp:Sp}(F:fU P w K mg base CX j f fd ps sp)(h:j<=k) :
  fU P w K mg base CX k f fd ps sp:=⟨F.len,λA outer s H args us vs Q E hr=>F.run A outer s H args us vs Q E (hr.mono h)⟩
theorem fU.imp{P:Program}{w:World}{K:PySem.W.Frag}{mg:Str->Option Value}{base:Heap}{CX:Br}{k:Nat}{f:Addr}{fd:FuncData}{ps:List Str}{sp Yr:Sp}(F:fU P w K mg base CX k f fd ps sp)
  (h:∀vs H Q E,Yr vs H Q E->sp vs H Q E):fU P w K mg base CX k f fd ps Yr :=
 ⟨λvs H Q E q=>F.len vs H Q E (h _ _ _ _ q),λA outer s H args us vs Q E hr he hb hv hs=>F.run A outer s H args us vs Q E hr he hb hv (h _ _ _ _ hs)⟩
theorem yL.make{P:Program}{w:World}{K:PySem.W.Frag}{mg:Str->Option Value}{base:Heap}{A:Around}{outer:List Env}{s:Shared}{H:Hp}(e:yL P w K mg base A outer s H)(C:Addr)(us:List Value)(kw:List (Str×Value)) :
  yL P w K mg base (A.under (.builtin "type.__call__" ⟨.ref C::us,kw⟩)) outer s H:=⟨by first|exact e.frames|(simpa [Around.under,Code.envs,Code.isFrame,pushEnvs] using e.frames),e.mod,e.bs,e.JN,e.pM,e.KN,e.hok,e.bare⟩
section
variable {X:Cx} {pins:List (Addr×Obj)} {σ:St} {H:Hp} {s s':Shared}
theorem Inv.kB(I:Inv X pins σ H s):yL X.prog X.w X.K X.mg X.base X.A X.stack s H :=
 ⟨I.ok.frames,I.ok.mod,I.bs,le_trans I.ok.JN I.sz,I.stack,I.zN,I.hok,I.bare⟩
theorem Inv.after(I:Inv X pins σ H s)(h:CE X.stack X.prog X.w H s Q u s'):EP X pins σ Q u s':=by
 obtain⟨v,H',os,bare,un,hok,r,q⟩:=h;obtain⟨hh,g,d,t,os'⟩:=s';obtain rfl:os'=s.os:=os;exact⟨v,H',I.call (h':=hh) (g':=g) (d':=d) (t':=t) (ch:=[]) un hok bare (λb z=>absurd z (by simp)),r,q⟩
end
noncomputable def JP(sp:Sp)(sN:List V)(E:XK)(t:TA):TE:=λσ H Q=>t σ H λvs H1=>sp (vs++sN) H1 Q E
noncomputable def JQ(C:Addr)(sp:Sp)(sN:List V)(E:XK)(t:TA):TE:=λσ H Q=>t σ H λvs H1=>∀x dx,H1 x=none->H1 dx=none->dx≠x ->
 sp (.ref x::(vs++sN)) (upd (upd H1 dx (.own x)) x (.ins C dx [])) (λv H2=>v=.non/\Q (.ref x) H2) E
noncomputable def Binds(K:PySem.W.Frag)(fd:FuncData)(ps:List Str)(ds:List Value):Prop :=
 ∀(s:Shared) (us:List Value),K.In s.heap->(us++ds).length=ps.length->BindsTo s fd ⟨us,[]⟩ (ps.zip (us++ds))
theorem Binds.all{K:PySem.W.Frag}{fd:FuncData}{ps:List Str}(h:∀us:List Value,us.length=ps.length->bindArgs fd ⟨us,[]⟩=pure (ps.zip us)):Binds K fd ps []:=λs us _ hl=>by
 rw[append_nil]at hl |-;exact .of_eq (h us hl)
noncomputable def Passes(CX:Br)(X:Cx)(E:XK):Prop:=∀(pins:List (Addr×Obj)) (σ:St) (H:Hp) (s:Shared) (e:Value) (s':Shared),Inv X pins σ H s->CX X.stack H s E e s'->X.xe e s'
section
variable {X:Cx} {CX:Br} {k:Nat} {f C:Addr} {fd:FuncData} {ps:List Str} {sp:Sp} {sN:List V} {ds:List Value} {E:XK} {x m:Str} {p pos apos:Pos} {e o:Expr} {es:List Expr} {ta:TE} {t:TA}
theorem qq(F:fU X.prog X.w X.K X.mg X.base CX k f fd ps sp)(hr:dP k X.A)(hb:Binds X.K fd ps ds)(hd:Vals sN ds)(hx:Passes CX X E)
  (I:Inv X pins σ H s) (r:Vals vs us) (h:sp (vs++sN) H Q E):wpAny (model X.prog X.w) X.A (call (.ref f) us) (EP X pins σ Q) X.xe s:=by
 have r2:Vals (vs++sN) (us++ds):=r.append hd;have hl:(us++ds).length=ps.length:=by rw[<-r2.length];exact F.len _ _ _ _ h
 refine wpAny_call (codeAny_mono (F.run X.A X.stack s H ⟨us,[]⟩ (us++ds) (vs++sN) Q E hr I.kB (hb s us I.nM hl) r2 h) λr s' hq=>?_);cases r with
 |error e=>exact hx pins σ H s e s' I hq
 |ok fl=>
  cases fl with
  |ret u=>exact I.after hq
  |next=>exact False.elim hq
  |brk=>exact False.elim hq
  |cont=>exact False.elim hq
theorem GQ(F:fU X.prog X.w X.K X.mg X.base CX k f fd ps sp)(hr:dP k X.A)(hg:Gl X x)(hm:X.mg x=some (.ref f))(hk:keepIn X.K (.ref f)=true)(hb:Binds X.K fd ps ds)(hd:Vals sN ds)(hx:Passes CX X E)
  (ha:PA X (e::es) t) (hdb:(x==("__debug__":Str))=false:=by decide) (he:starEach (e::es) X.env=(false,eval e X.env)::starEach es X.env:=by rfl) (hpl:(backTo pos (starEach es X.env)).any (·.1)=false:=by rfl) :
  PE X (.Call (.Name x p) (e::es) [] pos) (JP sp sN E t):=by
 intro pins s σ H Q I h;refine wpAny_Call_Name_kw (lg I hg hm ?_ hdb);refine callWith_K (h₀:=X.base) I.ok.mod.Oo hk (cA (ha pos pins s σ H _ I h) λus s1 ⟨vs,H1,I1,r,q⟩=>⟨I1.nM,?_⟩) he hpl;exact qq F hr hb hd hx I1 r q
theorem CU(F:fU X.prog X.w X.K X.mg X.base CX k f fd ps sp)(hr:dP k X.A)(hg:Gl X x)(hm:X.mg x=some (.ref f))(hk:keepIn X.K (.ref f)=true)(hb:Binds X.K fd ps ds)(hd:Vals sN ds)(hx:Passes CX X E)
  (hdb:(x==("__debug__":Str))=false:=by decide):PE X (.Call (.Name x p) [] [] pos) (JP sp sN E Ll):=by
 intro pins s σ H Q I h;refine wpAny_Call_Name_kw (lg I hg hm ?_ hdb);exact callWith_K0 I.nM hk (qq (us:=[]) F hr hb hd hx I .nil h)
structure Mk (K:PySem.W.Frag) (C f:Addr):Prop where
 makes:makesIn K C=true
 init:findIn K (.ref C) "__init__" = some (some (.ref f))
 fn:PySem.W.isFn K (.ref f)=true
 kp:keepIn K (.ref C)=true
theorem v9(M:Mk X.K C f)(F:fU X.prog X.w X.K X.mg X.base CX k f fd ps sp)(hr:dP (k+1) X.A)(hb:Binds X.K fd ps ds)(hd:Vals sN ds)
  (hx:Passes CX X E) (I:Inv X pins σ H s) (r:Vals vs us)
  (h:∀x dx,H x=none->H dx=none->dx≠x->sp (.ref x::(vs++sN)) (upd (upd H dx (.own x)) x (.ins C dx [])) (λv H2=>v=.non/\Q (.ref x) H2) E) :
  wpAny (model X.prog X.w) X.A (call (.ref C) us) (EP X pins σ Q) X.xe s:=by
 have hq:=h (s.heap.objs.size+1) s.heap.objs.size (I.hok.fresh (le_succ _)) (I.hok.fresh (Nat.le_refl _)) (ne_of_lt (lt_succ_self _));have I2:=Inv.made (C:=C) I;have r2:Vals (V.ref (s.heap.objs.size+1)::(vs++sN)) (Value.ref (s.heap.objs.size+1)::(us++ds)):=.cons rfl (r.append hd);have hl:(Value.ref (s.heap.objs.size+1)::us++ds).length=ps.length:=by have e:=r2.length;rw[F.len _ _ _ _ hq]at e;exact e.symm
 refine wpAny_call (CS (f:=f) I.nM M.makes M.init (beq_iff_eq.mp M.fn) (codeAny_mono (F.run _ X.stack _ _ ⟨Value.ref (s.heap.objs.size+1)::us,[]⟩ (Value.ref (s.heap.objs.size+1)::(us++ds)) _ _ E (hr.make C us [])
  (I2.kB.make C us []) (hb _ (Value.ref (s.heap.objs.size+1)::us) I2.nM hl) r2 hq) λr s' hq'=>?_))
 cases r with
 |error e=>exact hx pins σ _ _ e s' I2 hq'
 |ok fl=>
  cases fl with
  |ret u=>obtain⟨v,H',I3,rv,ev,q3⟩:=I2.after hq';subst ev;exact⟨rv,⟨V.ref (s.heap.objs.size+1),H',I3,rfl,q3⟩⟩
  |next=>exact False.elim hq'
  |brk=>exact False.elim hq'
  |cont=>exact False.elim hq'
theorem GR(M:Mk X.K C f)(F:fU X.prog X.w X.K X.mg X.base CX k f fd ps sp)(hr:dP (k+1) X.A)(hg:Gl X x)(hm:X.mg x=some (.ref C))(hb:Binds X.K fd ps ds)(hd:Vals sN ds)(hx:Passes CX X E)
  (ha:PA X (e::es) t) (hdb:(x==("__debug__":Str))=false:=by decide) (he:starEach (e::es) X.env=(false,eval e X.env)::starEach es X.env:=by rfl) (hpl:(backTo pos (starEach es X.env)).any (·.1)=false:=by rfl) :
  PE X (.Call (.Name x p) (e::es) [] pos) (JQ C sp sN E t):=by
 intro pins s σ H Q I h;refine wpAny_Call_Name_kw (lg I hg hm ?_ hdb);refine callWith_K (h₀:=X.base) I.ok.mod.Oo M.kp (cA (ha pos pins s σ H _ I h) λus s1 ⟨vs,H1,I1,r,q⟩=>⟨I1.nM,?_⟩) he hpl;exact v9 M F hr hb hd hx I1 r q
theorem CV(M:Mk X.K C f)(F:fU X.prog X.w X.K X.mg X.base CX k f fd ps sp)(hr:dP (k+1) X.A)(hg:Gl X x)(hm:X.mg x=some (.ref C))(hb:Binds X.K fd ps ds)(hd:Vals sN ds)(hx:Passes CX X E)
  (hdb:(x==("__debug__":Str))=false:=by decide):PE X (.Call (.Name x p) [] [] pos) (JQ C sp sN E Ll):=by
 intro pins s σ H Q I h;refine wpAny_Call_Name_kw (lg I hg hm ?_ hdb);exact callWith_K0 I.nM M.kp (v9 (us:=[]) M F hr hb hd hx I .nil h)
end
section
variable {X:Cx} {CX:Br} {k:Nat} {f C:Addr} {fd:FuncData} {ps ks:List Str} {sp:Sp} {E:XK} {x m:Str} {p pos apos kpos:Pos} {e o:Expr} {es:List Expr} {kws:List Keyword} {te ta:TE} {t tk:TA} {nm:Option Str}
variable {g:List Value->List Value->List Value} {gV:List V->List V->List V}
end
structure pZ (N P:List Str) (sc:Scope):Prop where
 kind:sc.kind=.function
 co:sc.isCoroutine=false
 gen:sc.isGenerator=false
 nd:N.Nodup
 pre:N.take P.length=P
 par:∀x∈P,sc.names.lookup x=some .local\/sc.names.lookup x=some .cell
 Lp:∀y∈sc.names,y.2≠.free
theorem tN{kindOf:Str->Option NameKind}{x:Str}:∀{binds:List (Str×Value)} {m:Str->Option Value},(∀v,(x,v)∉binds)->bindL kindOf binds m x=m x
 |[],_,_=>rfl
 | (n,v)::r,m,h=>by
  unfold bindL;rw[tN λw hw=>h w (mem_cons_of_mem _ hw)]
  split
  ·have:x≠n:=by rintro rfl;exact h v mem_cons_self
   simp[this]
  ·rfl
theorem tO{kindOf:Str->Option NameKind}{x:Str}:∀{binds:List (Str×Value)} {m:Str->Option Value},(∀v,(x,v)∉binds)->bindC kindOf binds m x=m x
 |[],_,_=>rfl
 | (n,v)::r,m,h=>by
  unfold bindC;rw[tO λw hw=>h w (mem_cons_of_mem _ hw)]
  split
  ·rfl
  ·have:x≠n:=by rintro rfl;exact h v mem_cons_self
   simp[this]
theorem tQ{kindOf:Str->Option NameKind}{x:Str}{v:Value}:∀{P:List Str} {vs:List Value} {i:Nat} {m:Str->Option Value},P.Nodup->P[i]?=some x->vs[i]?=some v->kindOf x=some .local ->
  bindL kindOf (P.zip vs) m x=some v
 |[],_,_,_,_,h,_,_=>by simp at h
 |_::_,[],_,_,_,_,h,_=>by simp at h
 | p::P,w::vs,0,m,nd,h1,h2,hk=>by
  simp at h1 h2;subst h1;subst h2;show bindL kindOf ((p,w)::P.zip vs) m p=_;unfold bindL;rw[tN λv hv=>(nodup_cons.mp nd).1 (of_mem_zip hv).1,if_pos hk];simp
 | p::P,w::vs,i+1,m,nd,h1,h2,hk=>by
  show bindL kindOf ((p,w)::P.zip vs) m x=_;unfold bindL;exact tQ (i:=i) (nodup_cons.mp nd).2 (by simpa using h1) (by simpa using h2) hk
theorem tR{kindOf:Str->Option NameKind}{x:Str}{v:Value}:∀{P:List Str} {vs:List Value} {i:Nat} {m:Str->Option Value},P.Nodup->P[i]?=some x->vs[i]?=some v->kindOf x≠some .local ->
  bindC kindOf (P.zip vs) m x=some v
 |[],_,_,_,_,h,_,_=>by simp at h
 |_::_,[],_,_,_,_,h,_=>by simp at h
 | p::P,w::vs,0,m,nd,h1,h2,hk=>by
  simp at h1 h2;subst h1;subst h2;show bindC kindOf ((p,w)::P.zip vs) m p=_;unfold bindC;rw[tO λv hv=>(nodup_cons.mp nd).1 (of_mem_zip hv).1,if_neg hk];simp
 | p::P,w::vs,i+1,m,nd,h1,h2,hk=>by
  show bindC kindOf ((p,w)::P.zip vs) m x=_;unfold bindC;exact tR (i:=i) (nodup_cons.mp nd).2 (by simpa using h1) (by simpa using h2) hk
noncomputable def start(N:List Str)(vs:List V):St:=vs.map some++replicate (N.length-vs.length) none
noncomputable def yM(CX:Br)(P:Program)(w:World)(K:PySem.W.Frag)(mg:Str->Option Value)(base:Heap)(N:List Str)(qual:Str)(scope:Scope)(f:Addr)(cd:Value)(A:Around)(outer:List Env)(s:Shared)(H:Hp)(E:XK):Cx where
 prog:=P
 w:=w
 K:=K
 mg:=mg
 base:=base
 A:=A.deeper (envOfC qual scope s.heap.objs.size f cd)
 N:=N
 s₀:=s
 H₀:=H
 env:=envOfC qual scope s.heap.objs.size f cd
 outer:=outer
 stack:=envOfC qual scope s.heap.objs.size f cd::outer
 ex:=[]
 calm:=true
 fn:=λ_=>true
 pn:=[]
 xe:=λe s'=>wpAny (model P w) (A.deeper (envOfC qual scope s.heap.objs.size f cd)) (leaving (envOfC qual scope s.heap.objs.size f cd) e) (λ_ s''=>CX outer H s E e s'') (λe' s''=>CX outer H s E e' s'') s'
theorem wc{sc:Scope}{n:Nat}{x:Str}(h:sc.names.lookup x=some .cell):∃c,(cellsFrom n sc.names []).lookup x=some c:=by
 have q:=cellsFrom_some sc.names n [] (.inl h);exact Option.isSome_iff_exists.mp q
theorem Bs{CX:Br}{P:Program}{w:World}{K:PySem.W.Frag}{mg:Str->Option Value}{base:Heap}{N ps:List Str}{qual:Str}{scope:Scope}{f:Addr}{cd:Value}{A:Around}{outer:List Env}{s s1:Shared}{H:Hp}{E:XK}{us:List Value}{vs:List V}
  (S:pZ N ps scope) (hd:A.handled=none) (e0:yL P w K mg base A outer s H) (hl:vs.length=ps.length) (r:Vals vs us)
  (x:InCallC s s.heap.objs.size (bindL (envOfC qual scope s.heap.objs.size f cd).kindOf (ps.zip us) λ_=>none) (cellsFrom (s.heap.objs.size+1) scope.names []) (bindC (envOfC qual scope s.heap.objs.size f cd).kindOf (ps.zip us) λ_=>none) s1) :
  Inv (yM CX P w K mg base N qual scope f cd A outer s H E) [] (start N vs) H s1:=by
 have hpl:ps.length<=N.length:=by have:=congrArg length S.pre;rw[length_take]at this;omega
 obtain⟨h1,tk,rfl,hk⟩:=x.done;have noA:∀b:Addr,b∉(yM CX P w K mg base N qual scope f cd A outer s H E).ex:=λb z=>absurd (show b∈([]:List Addr) from z) (by simp);refine⟨⟨e0.mod,S.kind,rfl,rfl,Nat.le_refl _,λy z c h1 h2=>?_,λy hy=>?_,λy c _ h=>?_,λ_=>hd,Around.frames_deeper e0.frames,.inr ⟨rfl,rfl⟩,λb z=>absurd z (noA b),e0.bs,e0.JN,λb _ _=>noA b,λb z=>absurd z (noA b),e0.pM,e0.KN⟩,
  rfl,e0.bare,Un.kept hk,⟨_,x.toInCall.ns,λi y v h1 h2 h3=>?_⟩,λy c h=>⟨_,x.cell y c h⟩,e0.hok.fresh (Nat.le_refl _),λy c h=>?_,λp hp=>absurd (show p∈([]:List (Addr×Obj)) from hp) (by simp),e0.hok.kept hk,?_⟩
 ·exact name_of_addr x.apart (PySem.mem_of_lookup h1) (PySem.mem_of_lookup h2)
 ·have hy:scope.names.lookup y=some .cell\/scope.names.lookup y=some .free:=hy
  rcases hy with hy|hy
  ·exact wc hy
  ·exact absurd rfl (S.Lp _ (PySem.mem_of_lookup hy))
 ·exact Nat.le_of_lt (x.above y c (PySem.mem_of_lookup h))
 ·have hi:i<vs.length:=by
   unfold start at h2
   by_cases hi:i<vs.length
   ·exact hi
   ·rw[getElem?_append_right (by simpa using hi)]at h2;rw[List.getElem?_replicate]at h2;split at h2<;>cases h2
  have ha:vs[i]?=some v:=by
   unfold start at h2;rw[getElem?_append_left (by simpa using hi),getElem?_map]at h2;cases e:vs[i]? with
   |none=>rw[e]at h2;cases h2
   |some a=>rw[e]at h2;cases h2;rfl
  obtain⟨u,hu,rv⟩:=r.get ha;have hp:ps[i]?=some y:=by rw[<-S.pre,List.getElem?_take_of_lt (by omega)];exact h1
  have Ys:ps.Nodup:=by rw[<-S.pre];exact S.nd.sublist (List.take_sublist _ _)
  refine⟨u,rv,?_⟩
  rcases S.par y (mem_of_getElem? hp) with k|k
  ·exact .inl ⟨k,tQ Ys hp hu k⟩
  ·obtain⟨c,e⟩:=wc (n:=s.heap.objs.size+1) k;refine .inr ⟨.inl k,c,e,?_⟩;have q:=x.cell y c e;rw[tR Ys hp hu (by show scope.names.lookup y≠_;rw[k];decide)]at q;exact q
 ·exact e0.hok.fresh (Nat.le_of_lt (x.above y c (PySem.mem_of_lookup h)))
 ·unfold start;show _=N.length;rw[length_append,length_map,List.length_replicate];omega
theorem Pp{CX:Br}{P:Program}{w:World}{K:PySem.W.Frag}{mg:Str->Option Value}{base:Heap}{k:Nat}{f:Addr}{name qual:Str}{params:Arguments}{body:List Stmt}{scope:Scope}{dV kV doc pm cdv ct oc:Value}{an od:Option Addr}
  {osl:Array (Option Value)} {N ps:List Str} {sp:Sp} (lk:K.lookup f=some ⟨oc,od,.func (PySem.W.fnOf name qual params body scope dV kV doc pm an cdv ct),osl⟩) (hcd:codeIn K cdv qual=true) (S:pZ N ps scope)
  (len:∀vs H Q E,sp vs H Q E->vs.length=ps.length)
  (hbody:∀(A:Around) (outer:List Env) (s:Shared) (H:Hp) (vs:List V) (Q:VK) (E:XK),dP k (A.deeper (envOfC qual scope s.heap.objs.size f cdv))->sp vs H Q E ->
   ∃t,yq (yM CX P w K mg base N qual scope f cdv A outer s H E) body t/\t { nx:=λ_ H'=>Q .non H',rt:=Q } (start N vs) H) :
  fU P w K mg base CX (k+1) f (PySem.W.fnOf name qual params body scope dV kV doc pm an cdv ct) ps sp:=by
 refine⟨len,λA outer s H args us vs Q E hr e0 hb r hsp=>?_⟩;have hl:=len _ _ _ _ hsp;have KX:K.In s.heap:=e0.mod.Oo.keeps λb o e=>(e0.bs b o e).1;have lim:s.heap.NoLimit:=e0.mod.nolimit.keeps λb o e=>(e0.bs b o e).1;have hkind:∀y∈ps.zip us,scope.names.lookup y.1=some .local\/(scope.names.lookup y.1=some .cell/\((cellsFrom (s.heap.objs.size+1) scope.names []).lookup y.1).isSome=true):=λ⟨n,v⟩ hy=>by
  rcases S.par n (of_mem_zip hy).1 with q|q
  ·exact .inl q
  ·exact .inr ⟨q,cellsFrom_some _ _ _ (.inl q)⟩
 refine codeAny_call_function hr.depth (KX _ _ lk) rfl S.co S.gen rfl (PySem.W.codeRec_of KX hcd) (hb _ _ _ _ ?_);refine wpAny_newFunctionEnv_cells S.kind hkind λenv he s1 x=>?_;subst he;refine⟨lim.keeps x.toInCall.keep,codeAny_func ?_⟩;obtain⟨t,ht,hq⟩:=hbody A outer s H vs Q E (hr.deeper _) hsp;have I:Inv (yM CX P w K mg base N qual scope f cdv A outer s H E) [] (start N vs) H s1:=Bs S hr.hd e0 hl r x;refine wpAny_mono (ht [] s1 (start N vs) H _ I hq) (λfl s' hs=>?_) λe s' hs=>hs;have fin:∀{σ':St} {H':Hp} {v:V} {u:Value},Inv (yM CX P w K mg base N qual scope f cdv A outer s H E) [] σ' H' s'->RelV v u->Q v H'->CE outer P w H s Q u s' :=
  λ{σ' H' v u} J rv q=>⟨v,H',J.os,J.bare,J.base,J.hok,rv,q⟩
 cases fl with
 |ret u=>obtain⟨v,σ',H',J,rv,q⟩:=hs;exact fin J rv q
 |next=>obtain⟨σ',H',J,q⟩:=hs;exact fin (v:=V.non) (u:=Value.none) J rfl q
 |brk=>obtain⟨_,_,_,q⟩:=hs;exact False.elim q
 |cont=>obtain⟨_,_,_,q⟩:=hs;exact False.elim q
end L2
namespace L2
open PySem PySem.Spec PyProof.Rows
section
variable {X:Cx} {x:Str} {p pos:Pos} {e:Expr} {es:List Expr} {t:TA} {id T:String} {r:List V->Hp->VK->Prop}
noncomputable def Yt(r:List V->Hp->VK->Prop)(t:TA):TE:=λσ H Q=>t σ H λvs H1=>r vs H1 Q
theorem gZ(hc:cR X (.builtin id) r)(hg:Gl X x)(hm:X.mg x=none)(hv:bootBuiltins x=some (.builtin id))(ha:PA X (e::es) t)(hn:x ≠ "__name__":=by decide)(hdb:(x==("__debug__":Str))=false:=by decide)
  (he:starEach (e::es) X.env=(false,eval e X.env)::starEach es X.env:=by rfl) (hpl:(backTo pos (starEach es X.env)).any (·.1)=false:=by rfl):PE X (.Call (.Name x p) (e::es) [] pos) (Yt r t):=by
 intro pins s σ H Q I h;refine wpAny_Call_Name_kw (iX I hg hm hv ?_ hn hdb);exact PyProof.Rows.callWith_builtin1 (cA (ha pos pins s σ H _ I h) λus s1 ⟨vs,H1,I1,r1,q1⟩=>hc pins s1 σ H1 vs us Q I1 r1 q1) he hpl
theorem lq(hc:cR X (.type T) r)(hg:Gl X x)(hm:X.mg x=none)(hv:bootBuiltins x=some (.type T))(ha:PA X (e::es) t)(hn:x ≠ "__name__":=by decide)(hdb:(x==("__debug__":Str))=false:=by decide)
  (he:starEach (e::es) X.env=(false,eval e X.env)::starEach es X.env:=by rfl) (hpl:(backTo pos (starEach es X.env)).any (·.1)=false:=by rfl):PE X (.Call (.Name x p) (e::es) [] pos) (Yt r t):=by
 intro pins s σ H Q I h;refine wpAny_Call_Name_kw (iX I hg hm hv ?_ hn hdb);exact PyProof.Rows.callWith_type1 (cA (ha pos pins s σ H _ I h) λus s1 ⟨vs,H1,I1,r1,q1⟩=>hc pins s1 σ H1 vs us Q I1 r1 q1) he hpl
end
end L2
namespace HT
open PySem PyProof.Rows
noncomputable def lexLt:List Int->List Int->Bool
 |[],[]=>false
 |[],_::_=>true
 |_::_,[]=>false
 |x::xs,y::ys=>if x=y then lexLt xs ys else decide (x<y)
theorem fV(x y:Int)(xs ys:List Int):lexLt (x::xs) (y::ys)=if x=y then lexLt xs ys else decide (x<y):=rfl
theorem sV:lexLt [] []=false:=rfl
theorem ic(y:Int)(ys:List Int):lexLt [] (y::ys)=true:=rfl
theorem fj(x:Int)(xs:List Int):lexLt (x::xs) []=false:=rfl
section
open PySem.SeqAt
open PySem.AutoSeq1 (wpAny_loadPart')
open PySem.MeetsSeq PySem.MeetsSeq2 PySem.MeetsSeq3
end
section
variable {prog:Program} {w:World} {A:Around} {E:Value->Shared->Prop} {s:Shared}
theorem GS(ht:IsTup s.heap t vs.toArray)(hb:IsTup s.heap b ws.toArray)(hv:vs≠[])
  (h1:ws=[]->Q (.ref t) s) (h2:ws≠[]->Q (.ref s.heap.objs.size) { s with heap:=s.heap.push { cls:=.type "tuple",data:=.seq (vs++ws).toArray } })
  (hsz:vs.length+ws.length<=sizeLine):wpAny (model prog w) A (binaryOp .Add (.ref t) (.ref b)) Q E s:=by
 obtain⟨⟨cls,dd,data,sl⟩,ho,hc,n,hd⟩:=id ht;obtain⟨⟨aaa,dd2,data2,sl2⟩,ho2,hc2,n2,hd2⟩:=id hb;simp only at hc hd hc2 hd2;subst hc hd hc2 hd2;have e:vs.toArray++ws.toArray=(vs++ws).toArray:=by simp
 by_cases hw:ws=[]
 ·exact concat_meets ⟨_,ho,rfl⟩ ⟨_,ho2,rfl⟩ noFill_tuple_add seq_tuple_add PySem.F.slot_tuple_add PySem.F.entry_tuple_add (PySem.F.args_tuple_add_2 _ _)
   (tuple_addW1 t b vs.toArray ws.toArray n n2 dd dd2 sl sl2 (by simpa using hv) (by simp[hw])) ⟨ho,ho2,h1 hw⟩
 ·refine concat_meets ⟨_,ho,rfl⟩ ⟨_,ho2,rfl⟩ noFill_tuple_add seq_tuple_add PySem.F.slot_tuple_add PySem.F.entry_tuple_add (PySem.F.args_tuple_add_2 _ _)
   (tuple_addW2 t b vs.toArray ws.toArray n n2 dd dd2 sl sl2 (by simpa using hv) (by simpa using hw) (by rw[size_toArray,size_toArray];exact hsz)) ⟨ho,ho2,?_⟩
  rw[e];exact h2 hw
noncomputable def e9(n d:Nat):Option Int->Nat
 |none=>d
 |some v=>if v<0 then (v+(n:Int)).toNat else min v.toNat n
theorem Lq(n d:Nat)(hd:d<=n)(o:Option Int):e9 n d o<=n:=by
 cases o with
 |none=>exact hd
 |some v=>
  show (if v<0 then (v+(n:Int)).toNat else min v.toNat n)<=n
  by_cases hv:v<0
  ·rw[if_pos hv];omega
  ·rw[if_neg hv];exact Nat.min_le_right _ _
theorem zS(v:Int)(n d:Nat):(if v<0 then max (v+(n:Int)) 0 else min v (n:Int))=((e9 n d (some v):Nat):Int):=by
 show (if v<0 then max (v+(n:Int)) 0 else min v (n:Int))=(((if v<0 then (v+(n:Int)).toNat else min v.toNat n):Nat):Int)
 by_cases hv:v<0
 ·simp only[if_pos hv];omega
 ·simp only[if_neg hv];omega
theorem yN(lo hi:Option Int)(n:Nat):Builtin.Slice.sliceAdjust lo hi 1 (n:Int)=(((e9 n 0 lo:Nat):Int),((e9 n n hi:Nat):Int)):=by
 have h1:¬ ((1:Int)<0):=by omega
 unfold Builtin.Slice.sliceAdjust;simp only[h1,if_false];refine Prod.ext ?_ ?_
 ·cases lo with
  |none=>rfl
  |some v=>exact zS v n 0
 ·cases hi with
  |none=>rfl
  |some v=>exact zS v n n
theorem yO(i j:Nat):Builtin.Slice.slicePlaces (i:Int) (j:Int) 1=j-i:=by
 unfold Builtin.Slice.slicePlaces;have h1:(1:Int)>0:=by omega
 simp only[h1,if_true,Int.ediv_one]
 split<;>omega
theorem qt{o:Option Int}(p:IsPart v o)(h:Q o s):wpAny (model prog w) A (Builtin.Slice.slicePartIndex v) Q E s:=by
 cases p with
 |none=>exact slicePart_none h
 |int i t=>exact slicePart_int h
theorem nS{lo hi:Option Int}{n:Nat}(hs:s.heap.IsSliceOf sl vl vu .none)(pl:IsPart vl lo)(pu:IsPart vu hi)
  (h:Q (((e9 n 0 lo:Nat):Int),1,e9 n n hi-e9 n 0 lo) s):wpAny (model prog w) A (Builtin.Slice.sliceApplied (.ref sl) (pure (n:Int))) Q E s:=by
 obtain⟨os,hos,hcs,hds⟩:=id hs;unfold Builtin.Slice.sliceApplied Builtin.Slice.sliceFields;refine wpAny_bind (wpAny_bind (wpAny_field hos hds (x:=vl) rfl (wpAny_bind (wpAny_field hos hds (x:=vu) rfl (wpAny_bind (wpAny_field hos hds (x:=.none) rfl (wpAny_pure ?_)))))));refine wpAny_bind (slicePart_none ?_);show wpAny _ _ (if ((1:Int)==0)=true then _ else _) _ _ s;rw[if_neg (by decide)];refine wpAny_bind (qt pl (wpAny_bind (qt pu (wpAny_bind (wpAny_pure ?_)))));show wpAny _ _ (match Builtin.Slice.sliceAdjust lo hi 1 (n:Int) with|(lo,hi)=>pure (lo,(1:Int),Builtin.Slice.slicePlaces lo hi 1)) _ _ s;rw[yN lo hi n];show wpAny _ _ (pure (((e9 n 0 lo:Nat):Int),(1:Int),Builtin.Slice.slicePlaces ((e9 n 0 lo:Nat):Int) ((e9 n n hi:Nat):Int) 1)) _ _ s;rw[yO];exact wpAny_pure h
theorem CW(xs:Array Value)(i k:Nat):((List.range k).filterMap λ(m:Nat)=>xs[((i:Int)+(m:Int)*1).toNat]?).toArray=((xs.toList.drop i).take k).toArray:=by
 have e:(λ(m:Nat)=>xs[((i:Int)+(m:Int)*1).toNat]?)=λm=>xs[i+m]?:=by
  funext m;have:((i:Int)+(m:Int)*1).toNat=i+m:=by omega
  rw[this]
 rw[e];have:=pick_run xs i k;rw[List.filterMap_map]at this;have e2:((λx=>xs[x]?)∘λx=>i+x)=λm=>xs[i+m]?:=rfl;rw[e2]at this;rw[this]
theorem mK{lo hi:Option Int}(ht:IsTup s.heap t items)(hs:s.heap.IsSliceOf sl vl vu .none)(pl:IsPart vl lo)(pu:IsPart vu hi)
  (hw:¬ (e9 items.size 0 lo=0/\e9 items.size items.size hi=items.size))
  (h:Q (.ref s.heap.objs.size) { s with heap:=s.heap.push { cls:=.type "tuple",data:=.seq ((items.toList.drop (e9 items.size 0 lo)).take (e9 items.size items.size hi-e9 items.size 0 lo)).toArray } })
  (hsz:items.size<=sizeLine):wpAny (model prog w) A (getItem (.ref t) (.ref sl)) Q E s:=by
 have zT:sizeOk (.seq ((items.toList.drop (e9 items.size 0 lo)).take (e9 items.size items.size hi-e9 items.size 0 lo)).toArray):=by show ((items.toList.drop (e9 items.size 0 lo)).take (e9 items.size items.size hi-e9 items.size 0 lo)).toArray.size<=sizeLine;rw[size_toArray,length_take,length_drop,length_toList];omega
 have hj:e9 items.size items.size hi<=items.size:=Lq _ _ (Nat.le_refl _) hi;obtain⟨os,hos,hcs,hds⟩:=id hs;have Ub:s.TypeIs (.ref sl) "slice":=⟨os,hos,hcs⟩;unfold getItem
 try with_reducible refine wpAny_holding ?_
 first|refine wpAny_bind (wpAny_pure ?_)|skip
 refine wpAny_bind (wpAny_sequenceKey ht.typeIs (by decide) ?_);refine wpAny_bind (wpAny_callSpecial?_slot (name:=Str.ofString "__getitem__") ht.typeIs PyProof.Rows.slot_tuple_getitem
  (wpAny_call_entry PyProof.Rows.slot_tuple_getitem ht.typeIs entry_tuple_getitem ?_ (args_tuple_getitem _ _)))
 show wpAny _ _ (Builtin.Tuple.tupleItemsOf (.ref t) >>= _) _ _ s;refine wpAny_bind (tupleItemsOf_ ht ?_);refine wpAny_bind (wpAny_typeOf Ub ?_);rw[if_pos (by decide)];refine wpAny_bind (nS hs pl pu ?_);have hno:¬ ((((e9 items.size 0 lo:Nat):Int)==0&&(1:Int)==1&&(e9 items.size items.size hi-e9 items.size 0 lo)==items.size)=true):=by intro q;rw[and_eq_true,and_eq_true]at q;have q1:((e9 items.size 0 lo:Nat):Int)=0:=eq_of_beq q.1.1;have q2:e9 items.size items.size hi-e9 items.size 0 lo=items.size:=eq_of_beq q.2;exact hw ⟨by omega,by omega⟩
 show wpAny _ _ (if (((e9 items.size 0 lo:Nat):Int)==0&&(1:Int)==1&&(e9 items.size items.size hi-e9 items.size 0 lo)==items.size)=true then _ else _) _ _ s;rw[if_neg hno,CW]
 first
  |exact wpAny_bind (m:=Builtin.Tuple.tupleExact _) (wpAny_newObj_type (wpAny_pure ⟨_,rfl,wpAny_pure h⟩) zT)
  |exact wpAny_bind (m:=Builtin.Tuple.tupleExact _) (wpAny_newObj_type (wpAny_bind (wpAny_pure (wpAny_pure ⟨_,rfl,wpAny_pure h⟩))) zT)
  |exact wpAny_bind (wpAny_bind (m:=Builtin.Tuple.tupleExact _) (wpAny_newObj_type (wpAny_pure (wpAny_pure ⟨_,rfl,wpAny_pure h⟩)) zT))
  |exact wpAny_bind (wpAny_bind (m:=Builtin.Tuple.tupleExact _) (wpAny_newObj_type (wpAny_pure ⟨_,rfl,wpAny_pure h⟩) zT))
end
end HT
namespace L2
open PySem PySem.Spec PyProof.Rows
noncomputable abbrev TO:=St->Hp->(Option Int->Hp->Prop)->Prop
noncomputable def PO(X:Cx)(e:Option Expr)(t:TO):Prop :=
 ∀(pins:List (Addr×Obj)) (s:Shared) (σ:St) (H:Hp) (Q:Option Int->Hp->Prop),Inv X pins σ H s->t σ H Q ->
  wpAny (model X.prog X.w) X.A (evalPart e X.env) (λu s'=>∃o H',Inv X pins σ H' s'/\IsPart u o/\Q o H') X.xe s
noncomputable def GU:TO:=λ_ H Q=>Q none H
noncomputable def Pq(t:TE):TO:=λσ H Q=>t σ H λx H1=>∃i,x=.int i/\Q (some i) H1
theorem intsAre_of{ns:List Int}:∀{us:List Value},Vals (ns.map V.int) us->IntsAre us ns:=by
 induction ns with
 |nil=>intro us r;rw[map_nil]at r;cases r;exact .nil
 |cons n ns ih=>
  intro us r;rw[map_cons]at r;cases r with
  |cons r1 r2=>obtain⟨t,e⟩:=r1;subst e;exact .cons n t (ih r2)
section
variable {X:Cx} {e:Expr} {te:TE} {lo hi:Option Expr} {tl th:TO} {pos p2:Pos}
theorem GV:PO X none GU:=by
 intro pins s σ H Q I h;rw[evalPart_none];exact wpAny_pure ⟨none,H,I,.none,h⟩
theorem GW(h:PE X e te):PO X (some e) (Pq te):=by
 intro pins s σ H Q I hw;rw[evalPart_some];refine cA (h pins s σ H _ I hw) λu s1 aI=>?_;obtain⟨x,H1,I1,r1,q1⟩:=aI;obtain⟨i,rfl,q⟩:=q1;obtain⟨t,rfl⟩:=r1;exact⟨some i,H1,I1,.int i t,q⟩
noncomputable def SQ(X:Cx)(r:V->Option Int->Option Int->Hp->VK->Prop):Prop :=
 ∀(pins:List (Addr×Obj)) (s:Shared) (σ:St) (H:Hp) (x:V) (v vl vu:Value) (lo hi:Option Int) (sl:Addr) (Q:VK),Inv X pins σ H s->RelV x v->s.heap.IsSliceOf sl vl vu .none->IsPart vl lo->IsPart vu hi->r x lo hi H Q ->
  ∃T id,typeLookup (.type T) "__getitem__" = pure (some (.builtin id))/\s.TypeIs v T/\wpAny (model X.prog X.w) X.A (getItem v (.ref sl)) (EP X pins σ Q) X.xe s
noncomputable def tSl(r:V->Option Int->Option Int->Hp->VK->Prop)(te:TE)(tl th:TO):TE:=λσ H Q=>te σ H λx H1=>tl σ H1 λl H2=>th σ H2 λu H3=>r x l u H3 Q
theorem CY(hr:SQ X r)(he:PE X e te)(hl:PO X lo tl)(hu:PO X hi th):PE X (.Subscript e (.Slice lo hi none p2) pos) (tSl r te tl th):=by
 intro pins s σ H Q I h;refine Subscript_ (cA (he pins s σ H _ I h) λv s1 aI=>?_);obtain⟨x,H1,I1,r1,q1⟩:=aI;refine wpAny_Slice (cA (hl pins s1 σ H1 _ I1 q1) λvl s2 ⟨l,H2,I2,pl,q2⟩=>cA (hu pins s2 σ H2 _ I2 q2) λvu s3 aI=>?_);obtain⟨u,H3,I3,pu,q3⟩:=aI;rw[evalPart_none];refine wpAny_pure ?_;have I4:Inv X pins σ H3 { s3 with heap:=s3.heap.push { cls:=.type "slice",data:=.fields #[vl,vu,.none] } }:=I3.kept (t':=s3.toks) λb ob q=>get?_push_of_some _ q;obtain⟨T,id,hT,ht,hg⟩:=hr pins { s3 with heap:=s3.heap.push { cls:=.type "slice",data:=.fields #[vl,vu,.none] } } σ H3 x v vl vu l u s3.heap.objs.size Q I4 r1 (Heap.IsSliceOf.new ..) pl pu q3;show wpAny (model X.prog X.w) X.A (subscriptTail e (.Slice lo hi none p2) v (.ref s3.heap.objs.size)) (EP X pins σ Q) X.xe { s3 with heap:=s3.heap.push { cls:=.type "slice",data:=.fields #[vl,vu,.none] } };exact tail_any (ops:=[.ref s3.heap.objs.size,v]) ht hT hg (by with_unfolding_all rfl)
noncomputable def we(xs:List V)(lo hi:Option Int):List V:=(xs.drop (HT.e9 xs.length 0 lo)).take (HT.e9 xs.length xs.length hi-HT.e9 xs.length 0 lo)
theorem o4(xs:List V)(lo hi:Option Int):(we xs lo hi).length<=xs.length:=by
 unfold we;rw[length_take,length_drop];omega
noncomputable def Uc(K:PySem.W.Frag):V->Option Int->Option Int->Hp->VK->Prop:=λx lo hi H Q=>∃a xs,x=.ref a/\jK K H a xs /\
 ¬ (HT.e9 xs.length 0 lo=0/\HT.e9 xs.length xs.length hi=xs.length)/\∀p,H p=none->Q (.ref p) (upd H p (.tup (we xs lo hi)))
theorem Lr:SQ X (Uc X.K):=by
 intro pins s σ H x v vl vu lo hi sl Q I rx hs pl pu h;obtain⟨a,xs,rfl,hx,hw,q⟩:=h;cases rx;obtain⟨its,r,ht,hz⟩:=I.tuple hx;have hlen:its.toArray.size=xs.length:=by rw[size_toArray];exact r.length.symm
 refine⟨"tuple",_,PyProof.Rows.slot_tuple_getitem.lookup,ht.typeIs,?_⟩;refine HT.mK ht hs pl pu (by rw[hlen];exact hw) ?_ (by rw[hlen];exact hz);rw[hlen];refine⟨.ref s.heap.objs.size,_,I.laid (t':=s.toks) (o:=.tup (we xs lo hi)) (λb ob q=>get?_push_of_some _ q) (Nat.le_refl _) ?_,rfl,q _ (I.hok.fresh (Nat.le_refl _))⟩;exact⟨le_trans (o4 xs lo hi) hz,_,(r.drop (HT.e9 xs.length 0 lo)).take (HT.e9 xs.length xs.length hi-HT.e9 xs.length 0 lo),IsTup.new _ _⟩
noncomputable def Pu(K:PySem.W.Frag):R2:=λx y H Q=>∃a b xs ys,x=.ref a/\y=.ref b/\jK K H a xs/\jK K H b ys/\xs≠[]/\xs.length+ys.length<=sizeLine /\
 (ys=[]->Q (.ref a) H)/\(ys≠[]->∀p,H p=none->Q (.ref p) (upd H p (.tup (xs++ys))))
theorem Vals.uM(r:Vals xs us):us=[]↔xs=[]:=by
 cases r with
 |nil=>simp
 |cons _ _=>simp
theorem GX:kh X (binaryOp .Add) (Pu X.K):=by
 intro pins s σ H x y v u Q I rx ry h;obtain⟨a,b,xs,ys,rfl,rfl,ha,hb,hx,hz,q1,q2⟩:=h;cases rx;cases ry;obtain⟨its,r1,p1,_⟩:=I.tuple ha;obtain⟨its2,r2,p2,_⟩:=I.tuple hb;refine HT.GS p1 p2 (λz=>hx (r1.uM.mp z)) (λz=>⟨.ref a,H,I,rfl,q1 (r2.uM.mp z)⟩) (λz=>?_) (by rw[<-r1.length,<-r2.length];exact hz);refine⟨.ref s.heap.objs.size,_,I.laid (t':=s.toks) (o:=.tup (xs++ys)) (λb ob q=>get?_push_of_some _ q) (Nat.le_refl _) ?_,rfl,q2 (λw=>z (r2.uM.mpr w)) _ (I.hok.fresh (Nat.le_refl _))⟩;exact⟨by rw[length_append];exact hz,_,r1.append r2,IsTup.new _ _⟩
end
end L2
namespace L2
open PySem PySem.Spec PyProof.Rows
noncomputable def Bt(n:Nat)(i:Int):Option Nat:=if 0<=i then (if i<n then some i.toNat else none) else if -(n:Int)<=i then some (i+n).toNat else none
noncomputable def kj{α:Type}(xs:List α)(i:Int):Option α:=(Bt xs.length i).bind λj=>xs[j]?
theorem zU{n:Nat}{i:Int}{j:Nat}(h:Bt n i=some j):seqIndex? i n=some j/\j<n /\ -(n:Int)<=i/\i<n:=by
 unfold Bt at h
 by_cases h0:0<=i
 ·rw[if_pos h0]at h
  by_cases h1:i<n
  ·rw[if_pos h1]at h;have e:i.toNat=j:=Option.some.inj h;exact⟨by rw[seqIndex_of h0 h1,e],by omega,by omega,h1⟩
  ·rw[if_neg h1]at h;cases h
 ·rw[if_neg h0]at h
  by_cases h1:-(n:Int)<=i
  ·rw[if_pos h1]at h;have e:(i+n).toNat=j:=Option.some.inj h;exact⟨by rw[seqIndex_neg (by omega) h1,e],by omega,h1,by omega⟩
  ·rw[if_neg h1]at h;cases h
theorem uO{α:Type}{xs:List α}{i:Int}{v:α}(h:kj xs i=some v):∃j,seqIndex? i xs.length=some j/\xs[j]?=some v/\j<xs.length /\ -(xs.length:Int)<=i/\i<xs.length:=by
 unfold kj at h;cases e:Bt xs.length i with
 |none=>rw[e]at h;cases h
 |some j=>rw[e]at h;obtain⟨h1,h2,h3,h4⟩:=zU e;exact⟨j,h1,h,h2,h3,h4⟩
theorem mL{α:Type}{xs:List α}{j:Nat}{v:α}(h:xs[j]?=some v):kj xs (j:Int)=some v:=by
 have hj:j<xs.length:=(List.getElem?_eq_some_iff.mp h).1;have e:Bt xs.length (j:Int)=some j:=by unfold Bt;rw[if_pos (by omega),if_pos (by omega)];simp
 unfold kj;rw[e];exact h
noncomputable def zV(b:Expr):Prop:=∀o i,subscripted b false o i=operate [o,i] (getItem o i)
noncomputable def Ow(X:Cx)(r:R2):Prop :=
 ∀(value slice:Expr) (pins:List (Addr×Obj)) (s:Shared) (σ:St) (H:Hp) (x y:V) (v u:Value) (Q:VK),Inv X pins σ H s->RelV x v->RelV y u->r x y H Q ->
  subscripted slice false v u=operate [v,u] (getItem v u)->wpAny (model X.prog X.w) X.A (subscriptTail value slice v u) (EP X pins σ Q) X.xe s
noncomputable def Pw(X:Cx)(id:String)(r:V->List V->Hp->VK->Prop):Prop :=
 ∀(pins:List (Addr×Obj)) (s:Shared) (σ:St) (H:Hp) (x:V) (xs:List V) (v:Value) (us:List Value) (Q:VK),Inv X pins σ H s->RelV x v->Vals xs us->r x xs H Q ->
  wpAny (model X.prog X.w) X.A (call (.builtin id) (v::us)) (EP X pins σ Q) X.xe s
section
variable {X:Cx} {a b:Expr} {ta tb:TE} {pos:Pos}
theorem Px(hr:Ow X r)(ha:PE X a ta)(hb:PE X b tb)(hs:zV b):PE X (.Subscript a b pos) (Ov r ta tb):=by
 intro pins s σ H Q I h;exact Subscript_ (La ha hb I h λv u s2 x y H2 I2 rx ry q=>hr a b pins s2 σ H2 x y v u Q I2 rx ry q (hs _ _))
noncomputable def Ud(K:PySem.W.Frag):R2:=λx y H Q=>∃p xs i v,x=.ref p/\y=.int i/\gI K H p xs/\kj xs i=some v/\Q v H
noncomputable def Ue(K:PySem.W.Frag):R2:=λx y H Q=>∃p xs i v,x=.ref p/\y=.int i/\jK K H p xs/\kj xs i=some v/\Q v H
noncomputable def Ug:R2:=λx y H Q=>∃z i c,x=.str z/\y=.int i/\z.length<=sizeLine/\kj z.cps.toList i=some c/\Q (.str ⟨#[c]⟩) H
theorem zW:Ow X (Ud X.K):=by
 intro value slice pins s σ H x y v u Q I rx ry h hs;obtain⟨p,xs,i,z,rfl,rfl,hq,he,q⟩:=h;cases rx;obtain⟨t,rfl⟩:=ry;obtain⟨its,r,pl,hz⟩:=I.list hq;obtain⟨j,h1,h2,h3,h4,h5⟩:=uO he;obtain⟨w,ew,rw'⟩:=r.get h2;have hl:=r.length;have hn:=nQ;have fin:EP X pins σ Q w s:=⟨z,H,I,rw',q⟩
 by_cases h0:0<=i
 ·have hj:i.toNat=j:=by
   rw[seqIndex_of h0 h5]at h1;exact Option.some.inj h1
  exact item_listR pl.isList h0 (by omega) (by rw[hj];simpa using ew) fin hs
 ·have hj:(i+(its.toArray.size:Int)).toNat=j:=by
   rw[seqIndex_neg (by omega) h4]at h1;rw[size_toArray,<-hl];exact Option.some.inj h1
  exact subscriptTail_builtinR (x:=w) pl.isList.typeIs slot_list_getitem.lookup
   (wpAny_getItem_list_neg (Q:=λr s'=>r=w/\EP X pins σ Q r s') pl.isList (by omega) (by rw[size_toArray]<;>omega) (by omega) (by rw[hj];simpa using ew) ⟨rfl,fin⟩) hs
theorem Lu:Ow X (Ue X.K):=by
 intro value slice pins s σ H x y v u Q I rx ry h hs;obtain⟨p,xs,i,z,rfl,rfl,hq,he,q⟩:=h;cases rx;obtain⟨t,rfl⟩:=ry;obtain⟨its,r,pl,hz⟩:=I.tuple hq;obtain⟨j,h1,h2,h3,h4,h5⟩:=uO he;obtain⟨w,ew,rw'⟩:=r.get h2;have hl:=r.length;have hn:=nQ;have fin:EP X pins σ Q w s:=⟨z,H,I,rw',q⟩;exact subscriptTail_builtinR (x:=w) pl.typeIs slot_tuple_getitem.lookup
  (getItem_tuple (j:=j) (Q:=λr s'=>r=w/\EP X pins σ Q r s') pl (by omega) (by omega) (by rw[size_toArray,<-hl];exact h1) (by simpa using ew) ⟨rfl,fin⟩) hs
theorem Lv:Ow X Ug:=by
 intro value slice pins s σ H x y v u Q I rx ry h hs;obtain⟨z,i,c,rfl,rfl,hz,he,q⟩:=h;obtain⟨t,rfl⟩:=rx;obtain⟨t',rfl⟩:=ry;obtain⟨j,h1,h2,h3,h4,h5⟩:=uO he;have hl:z.cps.toList.length=z.length:=by simp[Str.length]
 rw[hl]at h1 h4 h5;have hn:=nQ;exact tail_any (typeIs_str s z t) slot_str_getitem.lookup (getItem_str (c:=c) (by
  have e1:decide (i < -(2 ^ 63:Int))=false:=decide_eq_false (by omega);have e2:decide (i≥2 ^ 63)=false:=decide_eq_false (by omega);rw[e1,e2,Bool.or_false]) (by rw[h1];simpa using h2) ⟨.str ⟨#[c]⟩,H,I.tok _,⟨_,rfl⟩,q⟩) hs
theorem yP(its:List Value)(n j:Nat)(u:Value):Obj.mapSeq (·.setIfInBounds j u) { cls:=.type "list",data:=.seq its.toArray n }={ cls:=.type "list",data:=.seq (its.set j u).toArray n }:=by
 simp[Obj.mapSeq]
theorem Inv.lst(I:Inv X pins σ H s)(h:H p=some (.lst xs)) :
  ∃(its:List Value) (n:Nat),Vals xs its/\s.heap.get? p=some { cls:=.type "list",data:=.seq its.toArray n }/\xs.length<=sizeLine:=by
 obtain⟨z,its,n,r,e⟩:=I.hok p _ h;exact⟨its,n,r,e,z⟩
theorem Inv.Lw{pins:List (Addr×Obj)}{σ:St}{H:Hp}{s:Shared}{p:Addr}{xs ys:List V}{its its':List Value}{n n':Nat}{f:Obj->Obj}(I:Inv X pins σ H s)(h:H p=some (.lst xs))
  (ho:s.heap.get? p=some { cls:=.type "list",data:=.seq its.toArray n }) (hf:f { cls:=.type "list",data:=.seq its.toArray n }={ cls:=.type "list",data:=.seq its'.toArray n' }) (r:Vals ys its') (hz:ys.length<=sizeLine) (t:Nat) :
  Inv X pins σ (upd H p (.lst ys)) { s with heap:=s.heap.update p f,toks:=t }:=by
 have e:(s.heap.update p f).get? p=some { cls:=.type "list",data:=.seq its'.toArray n' }:=by rw[get?_update_self f ho (by rw[hf]<;>rfl),hf]
 refine I.write (x:=p) (e:=p) (by rw[h];trivial) (.inl rfl) (λb u hb q=>(get?_update_other _ _ (Ne.symm hb)).trans q) ⟨_,e⟩ ?_;exact⟨hz,its',n',r,e⟩
noncomputable def Py:V->V->V->Hp->(Hp->Prop)->Prop:=λo i v H Q=>∃p xs k j,o=.ref p/\i=.int k/\H p=some (.lst xs)/\Bt xs.length k=some j/\Q (upd H p (.lst (xs.set j v)))
theorem set_list:K4 X Py:=by
 intro pins s σ H o i v ov iv u Q I ro ri rv h;obtain⟨p,xs,k,j,rfl,rfl,hp,hj,q⟩:=h;cases ro;obtain⟨t,rfl⟩:=ri;obtain⟨its,n,r,ho,hz⟩:=I.lst hp;obtain⟨h1,h2,h3,h4⟩:=zU hj;have hl:=r.length;have hn:=nQ;have I':Inv X pins σ (upd H p (.lst (xs.set j v))) { s with heap:=s.heap.update p (Obj.mapSeq (·.setIfInBounds j u)) } :=
  I.Lw hp ho (yP its n j u) (r.set rv j) (by rw[length_set];exact hz) s.toks
 by_cases h0:0<=k
 ·have hk:k.toNat=j:=by
   rw[seqIndex_of h0 h4]at h1;exact Option.some.inj h1
  exact PySem.W.ki_setAt ho h0 (by omega) (by rw[size_toArray,<-hl];exact h4) (by rw[hk];exact⟨_,I',q⟩)
 ·have hk:(k+(its.toArray.size:Int)).toNat=j:=by
   rw[seqIndex_neg (by omega) h3]at h1;rw[size_toArray,<-hl];exact Option.some.inj h1
  exact PySem.W.ki_setBack ho (by omega) (by rw[size_toArray,<-hl];exact h3) (by omega) (by rw[hk];exact⟨_,I',q⟩)
theorem uQ(lo hi:Option Int)(n:Nat):(sliceBounds lo hi none n).1=((HT.e9 n 0 lo:Nat):Int)/\(sliceBounds lo hi none n).2.1=((HT.e9 n n hi:Nat):Int)/\(sliceBounds lo hi none n).2.2=1:=by
 refine⟨?_,?_,rfl⟩
 ·cases lo with
  |none=>simp[sliceBounds,HT.e9]
  |some i=>
   simp only[sliceBounds,HT.e9,getD_none,show (1:Int)>0 by decide,if_true]
   by_cases h:i<0
   ·simp only[h,if_true]<;>omega
   ·simp only[h,if_false]<;>omega
 ·cases hi with
  |none=>simp[sliceBounds,HT.e9]
  |some i=>
   simp only[sliceBounds,HT.e9,getD_none,show (1:Int)>0 by decide,if_true]
   by_cases h:i<0
   ·simp only[h,if_true]<;>omega
   ·simp only[h,if_false]<;>omega
theorem sW(its:List Value)(lo hi:Option Int):slicePick its.toArray lo hi none=((its.drop (HT.e9 its.length 0 lo)).take (HT.e9 its.length its.length hi-HT.e9 its.length 0 lo)).toArray:=by
 obtain⟨h1,h2,h3⟩:=uQ lo hi its.toArray.size;unfold slicePick;rw[h1,h2,h3];simp only[sliceRange_one,pick_run,size_toArray]<;>rfl
noncomputable def Uh(K:PySem.W.Frag):V->Option Int->Option Int->Hp->VK->Prop:=λx lo hi H Q=>∃a xs,x=.ref a/\gI K H a xs/\∀p,H p=none->Q (.ref p) (upd H p (.lst (we xs lo hi)))
theorem GY:SQ X (Uh X.K):=by
 intro pins s σ H x v vl vu lo hi sl Q I rx hs pl pu h;obtain⟨a,xs,rfl,hx,q⟩:=h;cases rx;obtain⟨its,r,ht,hz⟩:=I.list hx;have hlen:=r.length;refine⟨"list",_,slot_list_getitem.lookup,ht.isList.typeIs,?_⟩;refine wpAny_getItem_list_slice ht.isList hs pl pu .none (by simp) ?_ (by rw[size_toArray]<;>omega);rw[sW,<-hlen];refine⟨.ref s.heap.objs.size,_,I.laid (t':=s.toks) (o:=.lst (we xs lo hi)) (λb ob q=>get?_push_of_some _ q) (Nat.le_refl _) ?_,rfl,q _ (I.hok.fresh (Nat.le_refl _))⟩;exact⟨le_trans (o4 xs lo hi) hz,_,0,(r.drop (HT.e9 xs.length 0 lo)).take (HT.e9 xs.length xs.length hi-HT.e9 xs.length 0 lo),get?_push_size _ rfl⟩
noncomputable def lT:V->Bool
 |.non=>true
 |.bl _=>true
 |.int _=>true
 |.str _=>true
 |_=>false
noncomputable def JR:V->V->Bool
 |.non,.non=>true
 |.bl a,.bl b=>a==b
 |.bl a,.int b=>(if a then 1 else 0)==b
 |.int a,.bl b=>a==(if b then 1 else 0)
 |.int a,.int b=>a==b
 |.str a,.str b=>a==b
 |_,_=>false
theorem Lx(ry:RelV y u)(rx:RelV x v)(fy:lT y=true)(fx:lT x=true):SeqAt.EqAt A s u v (JR y x):=by
 cases y with
 |non=>
  cases ry;cases x with
  |non=>cases rx;exact SeqAt.EqAt.same _
  |bl b=>cases rx;exact SeqAt.EqAt.none_bool b
  |int b=>obtain⟨t,rfl⟩:=rx;exact SeqAt.EqAt.none_int b t
  |str b=>obtain⟨t,rfl⟩:=rx;exact SeqAt.EqAt.none_str b t
  |_=>exact absurd (show false=true from fx) Bool.false_ne_true
 |bl a=>
  cases ry;cases x with
  |non=>cases rx;exact SeqAt.EqAt.bool_none a
  |bl b=>cases rx;exact SeqAt.EqAt.bool_bool a b
  |int b=>obtain⟨t,rfl⟩:=rx;exact SeqAt.EqAt.bool_int a b t
  |str b=>obtain⟨t,rfl⟩:=rx;exact SeqAt.EqAt.bool_str a b t
  |_=>exact absurd (show false=true from fx) Bool.false_ne_true
 |int a=>
  obtain⟨t',rfl⟩:=ry;cases x with
  |non=>cases rx;exact SeqAt.EqAt.int_none a t'
  |bl b=>cases rx;exact SeqAt.EqAt.int_bool a t' b
  |int b=>obtain⟨t,rfl⟩:=rx;exact SeqAt.EqAt.int_int a t' b t
  |str b=>obtain⟨t,rfl⟩:=rx;exact SeqAt.EqAt.int_str a t' b t
  |_=>exact absurd (show false=true from fx) Bool.false_ne_true
 |str a=>
  obtain⟨t',rfl⟩:=ry;cases x with
  |non=>cases rx;exact SeqAt.EqAt.str_none a t'
  |bl b=>cases rx;exact SeqAt.EqAt.str_bool a t' b
  |int b=>obtain⟨t,rfl⟩:=rx;exact SeqAt.EqAt.str_int a t' b t
  |str b=>obtain⟨t,rfl⟩:=rx;exact SeqAt.EqAt.str_str a t' b t
  |_=>exact absurd (show false=true from fx) Bool.false_ne_true
 |_=>exact absurd (show false=true from fy) Bool.false_ne_true
noncomputable def GZ(x:V)(u:Value):Bool:=match u with
 |.none=>JR .non x
 |.bool b=>JR (.bl b) x
 |.int i _=>JR (.int i) x
 |.str z _=>JR (.str z) x
 |_=>false
theorem CZ(r:RelV y u)(f:lT y=true):GZ x u=JR y x:=by
 cases y with
 |non=>cases r;rfl
 |bl b=>cases r;rfl
 |int i=>obtain⟨t,rfl⟩:=r;rfl
 |str z=>obtain⟨t,rfl⟩:=r;rfl
 |_=>exact absurd (show false=true from f) Bool.false_ne_true
theorem uR:∀{xs:List V} {us:List Value},Vals xs us->xs.all lT=true->us.any (GZ x)=xs.any λy=>JR y x
 |_,_,.nil,_=>rfl
 | y::xs,u::us,.cons r t,f=>by
  rw[all_cons,and_eq_true]at f;rw[any_cons,any_cons,CZ r f.1,uR t f.2]
theorem qu(rx:RelV x v)(fx:lT x=true):∀{xs:List V} {us:List Value},Vals xs us->xs.all lT=true->∀u∈us,SeqAt.EqAt A s u v (GZ x u)
 |_,_,.nil,_=>λu hu=>by cases hu
 | y::xs,u::us,.cons r t,f=>λu' hu=>by
  rw[all_cons,and_eq_true]at f
  rcases mem_cons.mp hu with rfl|hu
  ·rw[CZ r f.1];exact Lx r rx f.1 fx
  ·exact qu rx fx t f.2 u' hu
noncomputable def Gg(x:V)(xs:List V):Bool:=xs.any λy=>JR y x
noncomputable def Ui(K:PySem.W.Frag)(neg:Bool):R2:=λx y H Q=>∃p xs,y=.ref p/\(gI K H p xs\/jK K H p xs)/\lT x=true/\xs.all lT=true/\Q (.bl (if neg then !Gg x xs else Gg x xs)) H
theorem uS:kh X (compareOp .NotIn) (Ui X.K true):=by
 intro pins s σ H x y v u Q I rx ry h;obtain⟨p,xs,rfl,hq,fx,fs,q⟩:=h;cases ry
 rcases hq with hq|hq
 ·obtain⟨its,r,pl,hz⟩:=I.list hq;refine SeqAt.notIn_listAt (GZ x) pl.isList (λw hw=>qu rx fx r fs w (by simpa using hw)) ⟨.bl _,H,I,rfl,?_⟩;rw[show its.toArray.any (GZ x)=its.any (GZ x) by simp,uR r fs];exact q
 ·obtain⟨its,r,pl,hz⟩:=I.tuple hq;refine SeqAt.notIn_tupleAt (GZ x) pl (λw hw=>qu rx fx r fs w (by simpa using hw)) ⟨.bl _,H,I,rfl,?_⟩;rw[show its.toArray.any (GZ x)=its.any (GZ x) by simp,uR r fs];exact q
theorem uT:cR X (.type "list") (λxs H Q=>∃p ys,xs=[.ref p]/\(gI X.K H p ys\/jK X.K H p ys)/\∀l,H l=none->Q (.ref l) (upd H l (.lst ys))):=by
 intro pins s σ H xs us Q I r h;obtain⟨p,ys,rfl,hq,q⟩:=h;obtain⟨u,rfl,rx⟩:=vals1 r;cases rx;have fin:∀(its:List Value),Vals ys its->ys.length<=sizeLine->∀(h':Heap) (c':Nat),(∀b o',s.heap.get? b=some o'->h'.get? b=some o') ->
   h'.get? s.heap.objs.size=some { cls:=.type "list",dict:=none,data:=.seq its.toArray c',slots:=#[] }->EP X pins σ Q (.ref s.heap.objs.size) { s with heap:=h' }:=λits r' hz h' c' kp e=>
  ⟨.ref s.heap.objs.size,_,I.laid (t':=s.toks) kp (Nat.le_refl _) (show bT X.prog X.w _ h' _ (.lst ys) from⟨hz,its,c',r',e⟩),rfl,q _ (I.hok.fresh (Nat.le_refl _))⟩
 rcases hq with hq|hq
 ·obtain⟨its,r',pl,hz⟩:=I.list hq;have hlen:=r'.length;obtain⟨o,ho,hc,n,hd⟩:=pl.isList;exact call_list_seq p (.inl rfl) ho hc hd (λh' c' kp e=>fin its r' hz h' c' kp e) (by simp only[size_toArray]<;>omega)
 ·obtain⟨its,r',pl,hz⟩:=I.tuple hq;have hlen:=r'.length;obtain⟨o,ho,hc,n,hd⟩:=pl;exact call_list_seq p (.inr rfl) ho hc hd (λh' c' kp e=>fin its r' hz h' c' kp e) (by simp only[size_toArray]<;>omega)
noncomputable def Uj(K:PySem.W.Frag)(T:String)(x:V)(H:Hp):Prop:=match x with
 |.str _=>T = "str"
 |.int _=>T = "int"
 | .ref p=>(T = "list" /\ ∃xs,gI K H p xs)\/(T = "tuple" /\ ∃o,K.lookup p=some o/\o.cls=.type "tuple" /\ o.dict=none) \/
   (T = "dict" /\ ((∃kvs,H p=some (.dK kvs))\/∃kvs,H p=some (.dT kvs)))\/(T = "set" /\ ∃S n,H p=some (.set S n))
 |_=>False
theorem Ly{T:String}(I:Inv X pins σ H s)(r:RelV x v)(ty:Uj X.K T x H) :
  s.TypeIs v T/\∀a,v=.ref a->∃ob,s.heap.get? a=some ob/\ob.dict=none:=by
 cases x with
 |str z=>obtain⟨t,rfl⟩:=r;cases (show T = "str" from ty);exact⟨typeIs_str s z t,λ_ e=>nomatch e⟩
 |int i=>obtain⟨t,rfl⟩:=r;cases (show T = "int" from ty);exact⟨typeIs_int s i t,λ_ e=>nomatch e⟩
 |ref p=>
  cases r
  rcases ty with ⟨rfl,xs,hq⟩|⟨rfl,o,hk,hc,hd⟩|⟨rfl,hk⟩|⟨rfl,S,n,hk⟩
  ·obtain⟨its,_,pl,_⟩:=I.list hq;refine⟨pl.isList.typeIs,λa e=>?_⟩;cases e;obtain⟨o,n,e,c,hd,_⟩:=pl;exact⟨o,e,hd⟩
  ·refine⟨⟨o,I.nM p o hk,hc⟩,λa e=>?_⟩;cases e;exact⟨o,I.nM _ o hk,hd⟩
  ·have z:∃o,s.heap.get? p=some o/\o.ExactDict:=by
    rcases hk with ⟨kvs,hk⟩|⟨kvs,hk⟩
    ·obtain⟨_,_,_,_,o,_,_,e,ex,_⟩:=I.hok p _ hk;exact⟨o,e,ex⟩
    ·obtain⟨_,_,_,_,o,_,_,e,ex,_⟩:=I.hok p _ hk;exact⟨o,e,ex⟩
   obtain⟨o,e,ex⟩:=z;refine⟨⟨o,e,ex.1⟩,λa e2=>?_⟩;cases e2;exact⟨o,e,ex.2.1⟩
  ·obtain⟨o,_,_,_,e,ex,_⟩:=I.hok p _ hk;refine⟨⟨o,e,ex.1⟩,λa e2=>?_⟩;cases e2;exact⟨o,e,ex.2.1⟩
 |_=>exact False.elim ty
noncomputable def Yu(K:PySem.W.Frag)(T:String)(r:V->List V->Hp->VK->Prop)(to:TE)(t:TA):TE:=λσ H Q=>to σ H λx H1=>Uj K T x H1/\t σ H1 λxs H2=>r x xs H2 Q
variable {o e:Expr} {es:List Expr} {to:TE} {t:TA} {name:Str} {apos cpos:Pos} {T id:String} {r:V->List V->Hp->VK->Prop}
theorem Dc(pa:PlainAttrs T)(slot:Slot T name id)(hty:typeOf (.builtin id)=pure (.type "method_descriptor"))(hm:Pw X id r)(ho:PE X o to)(ha:PA X (e::es) t)
  (hbase:attributeBase o name X.env (eval o X.env)=eval o X.env:=by rfl)
  (hfew:((backTo cpos (starEach (e::es) X.env)).all (λx=>!x.1)&&(backToKw cpos (keywordEach [] X.env)).all (λx=>x.1.isSome)
   && decide ((e::es).length+([]:List Keyword).length+(if ([]:List Keyword).isEmpty then 0 else 1)<30))=true:=by rfl)
  (hline:(apos.endLine==cpos.line)=true:=by rfl) (hs:starEach (e::es) X.env=(false,eval e X.env)::starEach es X.env:=by rfl) (hplain:(backTo cpos (starEach es X.env)).any (·.1)=false:=by rfl) :
  PE X (.Call (.Attribute o name apos) (e::es) [] cpos) (Yu X.K T r to t):=by
 intro pins s σ H Q I h;refine wpAny_Call_method_late hbase hfew hline rfl (cA (ho pins s σ H _ I h) λv s1 aI=>?_);obtain⟨x,H1,I1,r1,ty,q1⟩:=aI;obtain⟨h1,h2⟩:=Ly I1 r1 ty;refine⟨T,id,pa,slot,hty,h1,h2,?_⟩;have hA:=ha cpos pins s1 σ H1 _ I1 q1;rw[hs]at hA |-;refine Calls.callWith_builtin (by show (false||(backTo cpos (starEach es X.env)).any (·.1))=false;rw[hplain]<;>rfl) (Calls.evalArgs_plain ?_);exact cA hA λus s2 ⟨vs,H2,I2,r2,q2⟩=>hm pins s2 σ H2 x vs v us Q I2 r1 r2 q2
/- xs.append(e),list.index on a Pz tuple .. are Pw facts of 06m -/
end
end L2
namespace L2
open PySem PySem.Spec PyProof.Rows
noncomputable def Uk(X:Cx)(id:String)(r:V->List V->Hp->VK->Prop):Prop :=
 ∀(pins:List (Addr×Obj)) (s:Shared) (σ:St) (H:Hp) (x:V) (xs:List V) (v:Value) (us:List Value) (Q:VK),Inv X pins σ H s->RelV x v->Vals xs us->r x xs H Q ->
  wpAny (model X.prog X.w) X.A (call (.builtin id) (v::us)) (EP X pins σ Q) X.xe s
theorem Vals.one:∀{x:V} {us:List Value},Vals [x] us->∃u,us=[u]/\RelV x u
 |_,_,.cons r .nil=>⟨_,rfl,r⟩
section
variable {X:Cx} {pins:List (Addr×Obj)} {σ:St} {H:Hp} {s:Shared} {l b:Addr} {xs ys zs:List V}
theorem Inv.Lz{its its':List Value}{n:Nat}{f:Array Value->Array Value}{t':Nat}(I:Inv X pins σ H s)(hH:H l=some (.lst xs))
  (e:s.heap.get? l=some { cls:=.type "list",data:=.seq its.toArray n }) (hf:f its.toArray=its'.toArray) (hv:Vals ys its') (hz:ys.length<=sizeLine) :
  Inv X pins σ (upd H l (.lst ys)) { s with heap:=s.heap.update l (Obj.mapSeq f),toks:=t' }:=by
 have q:=PySem.IsL.update e f;rw[hf]at q;refine I.write (x:=l) (e:=l) (by rw[hH];exact trivial) (.inl rfl) (λb' u hb hu=>(get?_update_other s.heap (Obj.mapSeq f) (Ne.symm hb)).trans hu) ⟨_,q⟩ ?_;exact⟨hz,its',_,hv,q⟩
theorem Inv.Ul{t':Nat}(I:Inv X pins σ H s)(hv:Vals ys its)(hz:ys.length<=sizeLine) :
  Inv X pins σ (upd H s.heap.objs.size (.lst ys)) { s with heap:=s.heap.push { cls:=.type "list",data:=.seq its.toArray },toks:=t' } :=
 I.laid (λ_ _ q=>get?_push_of_some _ q) (Nat.le_refl _) ⟨hz,its,0,hv,get?_push_size _ rfl⟩
theorem Inv.Hf(I:Inv X pins σ H s)(hH:H l=some (.lst xs)):xs.length<=sizeLine/\∃(its:List Value) (n:Nat),Vals xs its/\xs.length=its.length/\s.heap.get? l=some { cls:=.type "list",data:=.seq its.toArray n }:=by
 obtain⟨z,its,n,r,e⟩:=I.hok l _ hH;exact⟨z,its,n,r,r.length,e⟩
theorem wg{n:Nat}(h:n<=sizeLine):Builtin.List.listTooLong n=false:=by
 unfold Builtin.List.listTooLong;exact decide_eq_false (by omega)
end
section
variable {X:Cx}
noncomputable def Hg:V->List V->Hp->VK->Prop:=λx vs H Q=>∃l xs y,x=.ref l/\vs=[y]/\H l=some (.lst xs)/\xs.length<sizeLine/\Q .non (upd H l (.lst (xs++[y])))
theorem tU:Uk X "list.append" Hg:=by
 intro pins s σ H x vs v us Q I rx rv h;obtain⟨l,xs,y,rfl,rfl,hH,hz,q⟩:=h;cases rx;obtain⟨u,rfl,ru⟩:=rv.one;obtain⟨z,its,n,r,hl,e⟩:=I.Hf hH;refine call_meets F.slot_list_append ⟨_,e,rfl⟩ F.entry_list_append (F.args_list_append_2 _ _) (PySem.list_append l its.toArray n u (by rw[size_toArray];omega)) ⟨e,?_⟩;refine⟨.non,_,I.Lz (its':=its++[u]) hH e (by simp) (r.append (.cons ru .nil)) ?_,rfl,q⟩;rw[length_append,List.length_singleton];omega
noncomputable def Hh:V->List V->Hp->VK->Prop:=λx vs H Q=>∃l b xs zs,x=.ref l/\vs=[.ref b]/\H l=some (.lst xs)/\H b=some (.lst zs)/\xs.length+zs.length<=sizeLine/\Q .non (upd H l (.lst (xs++zs)))
theorem Bu:Uk X "list.extend" Hh:=by
 intro pins s σ H x vs v us Q I rx rv h;obtain⟨l,b,xs,zs,rfl,rfl,hH,hB,hz,q⟩:=h;cases rx;obtain⟨u,rfl,ru⟩:=rv.one;cases ru;obtain⟨z,its,n,r,hl,e⟩:=I.Hf hH;obtain⟨z2,its2,n2,r2,hl2,e2⟩:=I.Hf hB;have hsz:its.toArray.size+its2.toArray.size<=sizeLine:=by rw[size_toArray,size_toArray];omega
 have Dd:¬ (!its.toArray.isEmpty&&Builtin.List.listTooLong (its.toArray.size+its2.toArray.size))=true:=by rw[wg hsz,Bool.and_false];exact Bool.false_ne_true
 refine call_meets F.slot_list_extend ⟨_,e,rfl⟩ F.entry_list_extend (F.args_list_extend_2 _ _)
  (AutoSeq1.list_extend_list_list_0 l its.toArray n b its2.toArray n2 Dd (by rw[size_toArray];omega) (by omega)) ⟨e,e2,?_⟩
 refine⟨.non,_,I.Lz (its':=its++its2) hH e (by simp) (r.append r2) ?_,rfl,q⟩;rw[length_append];omega
end
section
variable {prog:Program} {w:World} {A:Around} {E:Value->Shared->Prop} {s:Shared}
end
section
variable {X:Cx}
end
end L2
namespace L2
open PySem PySem.Spec PyProof.Rows
section
variable {κ:Type} [DecidableEq κ]
noncomputable def iY(kvs:List (κ × V))(k:κ):Option V:=(kvs.find? λkv=>decide (kv.1=k)).map (·.2)
noncomputable def putK(kvs:List (κ × V))(k:κ)(v:V):List (κ × V) :=
 if (kvs.any λkv=>decide (kv.1=k))=true then kvs.map (λkv=>if kv.1=k then (kv.1,v) else kv) else kvs++[(k,v)]
theorem qv{p:κ × V}{r:List (κ × V)}{k:κ}(e:p.1=k):iY (p::r) k=some p.2:=by simp[iY,find?_cons,e]
theorem qw{p:κ × V}{r:List (κ × V)}{k:κ}(e:¬ p.1=k):iY (p::r) k=iY r k:=by simp[iY,find?_cons,e]
theorem wj(k:κ):∀kvs:List (κ × V),(kvs.any λkv=>decide (kv.1=k))=(iY kvs k).isSome
 |[]=>rfl
 | p::r=>by
  rw[any_cons]
  by_cases e:p.1=k
  ·simp only[qv e,decide_eq_true e,Bool.true_or,Option.isSome_some]
  ·rw[qw e,decide_eq_false e,Bool.false_or];exact wj k r
theorem kC(kvs:List (κ × V))(k:κ)(v:V):(putK kvs k v).length<=kvs.length+1:=by
 unfold putK
 split
 ·rw[length_map];omega
 ·rw[length_append,length_cons,length_nil];omega
theorem kc.jn(r:kc o u):o.isSome=u.isSome:=by
 cases o with
 | none=>cases u with
  |none=>rfl
  |some _=>exact(show False from r).elim
 | some _=>cases u with
  |none=>exact(show False from r).elim
  |some _=>rfl
theorem kc.getD(r:kc o u)(rd:RelV d d'):RelV (o.getD d) (u.getD d'):=by
 cases o with
 | none=>cases u with
  |none=>exact rd
  |some _=>exact(show False from r).elim
 | some _=>cases u with
  |none=>exact(show False from r).elim
  |some _=>exact r
theorem KV.val(r:KV kvs vs)(k:κ):kc (iY kvs k) (valueAt vs k):=by
 unfold KV at r
 induction r with
 |nil=>exact True.intro
 |@cons p q ps qs h t ih=>
  obtain⟨h1,h2⟩:=h
  by_cases e:p.1=k
  ·have e':q.1=k:=h1.symm.trans e
   have b:valueAt (q::qs) k=some q.2:=by simp[valueAt,find?_cons,e']
   rw[qv e,b];exact h2
  ·have e':¬ q.1=k:=λz=>e (h1.trans z)
   have b:valueAt (q::qs) k=valueAt qs k:=by simp[valueAt,find?_cons,e']
   rw[qw e,b];exact ih
theorem KV.any(r:KV kvs vs)(k:κ):(kvs.any λkv=>decide (kv.1=k))=vs.any λkv=>decide (kv.1=k):=by
 unfold KV at r
 induction r with
 |nil=>rfl
 |cons h t ih=>rw[any_cons,any_cons,ih,h.1]
theorem KV.repl(r:KV kvs vs)(k:κ)(ry:RelV y u) :
  KV (kvs.map λkv=>if kv.1=k then (kv.1,y) else kv) (vs.map λkv=>if kv.1=k then (kv.1,u) else kv):=by
 unfold KV at r |-
 induction r with
 |nil=>exact .nil
 |@cons p q ps qs h t ih=>
  rw[map_cons,map_cons];refine .cons ?_ ih;obtain⟨h1,h2⟩:=h
  by_cases e:p.1=k
  ·rw[if_pos e,if_pos (h1.symm.trans e)];exact⟨h1,ry⟩
  ·rw[if_neg e,if_neg (λz=>e (h1.trans z))];exact⟨h1,h2⟩
theorem KV.put(r:KV kvs vs)(k:κ)(ry:RelV y u):KV (putK kvs k y) (stored vs k u):=by
 unfold putK stored;rw[r.any k]
 by_cases e:(vs.any λkv=>decide (kv.1=k))=true
 ·rw[if_pos e,if_pos e];exact r.repl k ry
 ·rw[if_neg e,if_neg e];exact Paired.snoc r ⟨rfl,ry⟩
theorem KV.length(r:KV kvs vs):kvs.length=vs.length:=Paired.length r
end
theorem qy(r:RelV (kV k) u):(aR P w).is k u=true:=by
 cases k with
 |inl i=>obtain⟨t,e⟩:=(show ∃t,u=Value.int i t from r);subst e;exact vW P w i t
 |inr x=>obtain⟨t,e⟩:=(show ∃t,u=Value.str x t from r);subst e;exact vX P w x t
theorem tW:∀{ks:List Key} {us:List Value},Vals (ks.map kV) us->ItemsAre (aR P w) ks us
 |[],_,r=>by rw[map_nil]at r;cases r;exact .nil
 | k::ks,_,r=>by
  rw[map_cons]at r;cases r with
  |cons h t=>exact .cons (qy h) (tW t)
noncomputable abbrev KT(H:Hp):List (List Key×V)->List (List Key×Addr×Value)->Prop:=Paired λp q=>p.1=q.1/\H q.2.1=some (.tup (p.1.map kV))/\RelV p.2 q.2.2
theorem KT.val(r:KT H kvs xs)(k:List Key):kc (iY kvs k) ((atKey xs k).map (·.2)):=by
 induction r with
 |nil=>exact True.intro
 |@cons p q ps qs h t ih=>
  obtain⟨h1,_,h2⟩:=h
  by_cases e:p.1=k
  ·have e':q.1=k:=h1.symm.trans e
   have b:atKey (q::qs) k=some q.2:=by simp[atKey,find?_cons,e']
   rw[qv e,b];exact h2
  ·have e':¬ q.1=k:=λz=>e (h1.trans z)
   have b:atKey (q::qs) k=atKey qs k:=by simp[atKey,find?_cons,e']
   rw[qw e,b];exact ih
theorem KT.repl(r:KT H kvs xs)(k:List Key)(ry:RelV y u) :
  KT H (kvs.map λkv=>if kv.1=k then (kv.1,y) else kv) (xs.map (putAt k u)):=by
 induction r with
 |nil=>exact .nil
 |@cons p q ps qs h t ih=>
  rw[map_cons,map_cons];refine .cons ?_ ih;obtain⟨h1,h2,h3⟩:=h;unfold putAt
  by_cases e:p.1=k
  ·rw[if_pos e,if_pos (h1.symm.trans e)];exact⟨h1,h2,ry⟩
  ·rw[if_neg e,if_neg (λz=>e (h1.trans z))];exact⟨h1,h2,h3⟩
theorem KT.put(r:KT H kvs xs)(k:List Key)(hb:H b=some (.tup (k.map kV)))(ry:RelV y u) :
  KT H (putK kvs k y) (storedH xs k b u):=by
 have e:(kvs.any λkv=>decide (kv.1=k))=(atKey xs k).isSome:=by rw[wj,(r.val k).jn,isSome_map]
 unfold putK storedH;rw[e]
 by_cases q:(atKey xs k).isSome=true
 ·rw[if_pos q,if_pos q];exact r.repl k ry
 ·rw[if_neg q,if_neg q];exact Paired.snoc r ⟨rfl,hb,ry⟩
theorem KT.keeps(r:KT H kvs xs)(ht:∀b ys,H b=some (.tup ys)->H' b=some (.tup ys)):KT H' kvs xs :=
 Paired.KJ r λ_ _ z=>⟨z.1,ht _ _ z.2.1,z.2.2⟩
section
variable {P:Program} {w:World} {H:Hp} {h:Heap} {a:Addr}
theorem JS(ok:mj P w H h)(e:Rd H a u):bT P w H h a u:=e.ok ok
theorem o5(ok:mj P w H h)(e:Rd H a (.dK kvs)):kvs.length<=sizeLine/\(a==sysModules)=false/\∃vs,KV kvs vs/\h.DictOf (aR P w) a vs :=
 show bT P w H h a (.dK kvs) from JS ok e
theorem wm(ok:mj P w H h)(e:H a=some (.dK kvs)):kvs.length<=sizeLine/\(a==sysModules)=false/\∃vs,KV kvs vs/\h.DictOf (aR P w) a vs:=o5 ok (.inl e)
theorem nT(ok:mj P w H h)(e:H a=some (.tup (ks.map kV))):(tupleKind (aR P w)).is h ks a:=by
 obtain⟨_,its,r,o,h1,h2,n,h3⟩:=(show bT P w H h a (.tup (ks.map kV)) from ok a _ e);exact⟨o,its.toArray,n,h1,h2,h3,by simpa using tW r⟩
theorem qz(ok:mj P w H h)(e:Rd H a (.dT kvs)):kvs.length<=sizeLine/\(a==sysModules)=false /\
  ∃xs,KT H kvs xs/\h.DictOfH (tupleKind (aR P w)) a xs:=by
 obtain⟨z,y,xs,r,o,es,ep,h1,h2,h3,h4,h5⟩:=(show bT P w H h a (.dT kvs) from JS ok e);refine⟨z,y,xs,r,o,es,ep,h1,h2,h3,h4,λx hx=>?_,h5⟩;have all:∀{l:List (List Key×V)} {m:List (List Key×Addr×Value)},KT H l m->∀x∈m,(tupleKind (aR P w)).is h x.1 x.2.1:=by
  intro l m q
  induction q with
  |nil=>intro x hx;exact nomatch hx
  |@cons p q ps qs hq t ih=>
   intro x hx
   rcases mem_cons.mp hx with e|hx
   ·subst e;exact nT ok (by rw[<-hq.1];exact hq.2.1)
   ·exact ih x hx
 exact all r x hx
theorem PB(ok:mj P w H h)(e:H a=some (.dT kvs)):kvs.length<=sizeLine/\(a==sysModules)=false /\
  ∃xs,KT H kvs xs/\h.DictOfH (tupleKind (aR P w)) a xs:=qz ok (.inl e)
end
noncomputable def lI(H:Hp)(a:Addr)(y:V)(r:Option V):Prop :=
 (∃kvs k,Rd H a (.dK kvs)/\y=kV k/\r=iY kvs k)\/∃kvs k b,Rd H a (.dT kvs)/\y=.ref b/\H b=some (.tup (k.map kV))/\r=iY kvs k
noncomputable def Hi(H:Hp)(a:Addr)(y v:V)(H':Hp):Prop :=
 (∃kvs k,H a=some (.dK kvs)/\y=kV k/\kvs.length<sizeLine/\H'=upd H a (.dK (putK kvs k v))) \/
 ∃kvs k b,H a=some (.dT kvs)/\y=.ref b/\H b=some (.tup (k.map kV))/\kvs.length<sizeLine/\H'=upd H a (.dT (putK kvs k v))
theorem lI.k{H:Hp}{a:Addr}{kvs:List (Key×V)}{k:Key}(e:H a=some (.dK kvs)):lI H a (kV k) (iY kvs k):=.inl ⟨kvs,k,.inl e,rfl,rfl⟩
theorem Hi.k{H:Hp}{a:Addr}{kvs:List (Key×V)}{k:Key}{v:V}(e:H a=some (.dK kvs))(hl:kvs.length<sizeLine):Hi H a (kV k) v (upd H a (.dK (putK kvs k v))):=.inl ⟨kvs,k,e,rfl,hl,rfl⟩
section
variable {X:Cx} {pins:List (Addr×Obj)} {σ:St} {H:Hp} {s:Shared} {a:Addr} {y v:V} {u r:Value} {o:Option V} {A:Around} {E:Value->Shared->Prop}
theorem Inv.big(I:Inv X pins σ H s):sysModules<s.heap.objs.size:=by
 have h:mainGlobals<s.heap.objs.size:=(I.mod.glob.keeps I.bk).lt;exact lt_trans (by decide) h
theorem Bv(hu:A.units+1<cLine)(I:Inv X pins σ H s)(g:lI H a y (some v))(ry:RelV y u)(h:∀w' s',Inv X pins σ H s'->RelV v w'->Q w' s') :
  wpAny (model X.prog X.w) A (getItem (.ref a) u) Q E s:=by
 rcases g with ⟨kvs,k,e,ey,l⟩|⟨kvs,k,b,e,ey,eb,l⟩
 ·subst ey;obtain⟨z,hd,vs,rel,dd⟩:=o5 I.hok e;obtain⟨w',hw,rw'⟩:=kc.some_of (v:=v) (o:=valueAt vs k) (by rw[l];exact rel.val k);exact wpAny_getItem_of (qy ry) dd.mapOf hw (h w' _ (I.tok _) rw')
 ·subst ey;cases (show u=Value.ref b from ry);obtain⟨z,hd,xs,rel,dd⟩:=qz I.hok e;obtain⟨w',hw,rw'⟩:=kc.some_of (v:=v) (o:=(atKey xs k).map (·.2)) (by rw[l];exact rel.val k);obtain⟨p,hp,hp2⟩:=map_eq_some_iff.mp hw;refine wpAny_getItem_heap (tupleKind_room_in1 hu) (nT I.hok eb) dd hp ?_;rw[hp2];exact h w' _ (I.tok _) rw'
theorem Um(hu:A.units+1<cLine)(I:Inv X pins σ H s)(g:lI H a y o)(ry:RelV y u)(h:∀s',Inv X pins σ H s'->Q (.bool o.isSome) s') :
  wpAny (model X.prog X.w) A (compareOp .In u (.ref a)) Q E s:=by
 rcases g with ⟨kvs,k,e,ey,l⟩|⟨kvs,k,b,e,ey,eb,l⟩
 ·subst ey;obtain⟨z,hd,vs,rel,dd⟩:=o5 I.hok e;refine wpAny_in_of (qy ry) hd dd.mapOf ?_;rw[<-(rel.val k).jn,<-l];exact h _ (I.tok _)
 ·subst ey;cases (show u=Value.ref b from ry);obtain⟨z,hd,xs,rel,dd⟩:=qz I.hok e;refine wpAny_in_heap (tupleKind_room_in1 hu) (nT I.hok eb) hd dd ?_;have q:=(rel.val k).jn;rw[isSome_map]at q;rw[<-q,<-l];exact h _ (I.tok _)
theorem Hj(hu:A.units+1<cLine)(I:Inv X pins σ H s)(g:lI H a y o)(ry:RelV y u)(h:∀s',Inv X pins σ H s'->Q (.bool (!o.isSome)) s') :
  wpAny (model X.prog X.w) A (compareOp .NotIn u (.ref a)) Q E s:=by
 rcases g with ⟨kvs,k,e,ey,l⟩|⟨kvs,k,b,e,ey,eb,l⟩
 ·subst ey;obtain⟨z,hd,vs,rel,dd⟩:=o5 I.hok e;refine wpAny_notIn_of (qy ry) hd dd.mapOf ?_;rw[<-(rel.val k).jn,<-l];exact h _ (I.tok _)
 ·subst ey;cases (show u=Value.ref b from ry);obtain⟨z,hd,xs,rel,dd⟩:=qz I.hok e;refine wpAny_notIn_heap (tupleKind_room_in1 hu) (nT I.hok eb) hd dd ?_;have q:=(rel.val k).jn;rw[isSome_map]at q;rw[<-q,<-l];exact h _ (I.tok _)
theorem uU{t':Nat}(I:Inv X pins σ H s)(mu:ON (H a))(hs:Heap.SameBut a s.heap h')(he:∃q,h'.get? a=some q)(new:bT X.prog X.w (upd H a ob) h' a ob) :
  Inv X pins σ (upd H a ob) { s with heap:=h',toks:=t' } :=
 I.write (x:=a) (e:=a) mu (.inl rfl) (λb q hb z=>(hs.2 b hb).trans z) he new
theorem De(z:kvs.length<=sizeLine)(hd:(a==sysModules)=false)(rel:KV kvs vs)(dd:h'.DictOf (aR P w) a vs) :
  bT P w H' h' a (.dK kvs):=⟨z,hd,vs,rel,dd⟩
theorem Bw(hu:A.units+1<cLine)(I:Inv X pins σ H s)(g:Hi H a y v H')(ry:RelV y u)(rv:RelV v r)(h:∀s',Inv X pins σ H' s'->Q () s') :
  wpAny (model X.prog X.w) A (setItem (.ref a) u r) Q E s:=by
 rcases g with ⟨kvs,k,e,ey,l,eH⟩|⟨kvs,k,b,e,ey,eb,l,eH⟩
 ·subst ey eH
  obtain⟨z,hd,vs,rel,dd⟩:=wm I.hok e;have hz:vs.length<=sizeLine:=by rw[<-rel.length];exact z
  have hl:(putK kvs k v).length<=sizeLine:=by have:=kC kvs k v;omega
  refine wpAny_setItem_pairs (hsz:=hz) (qy ry) dd λh' LA hs=>h _ ?_;have he:∃q,h'.get? a=some q:=let ⟨q,_,_,hq,_⟩:=LA;⟨q,hq⟩
  exact uU I (by rw[e];exact True.intro) hs he (De hl hd (rel.put k rv) LA)
 ·subst ey eH
  cases (show u=Value.ref b from ry);obtain⟨z,hd,xs,rel,dd⟩:=PB I.hok e;have hz:xs.length<=sizeLine:=by rw[<-Paired.length rel];exact z
  have hl:(putK kvs k v).length<=sizeLine:=by have:=kC kvs k v;omega
  refine wpAny_setItem_heap (hsz:=hz) (tupleKind_room_in1 hu) (nT I.hok eb) dd λh' LA hs=>h _ ?_;obtain⟨q,es,ep,hq,h2,h3,h4,_,h5⟩:=LA;refine uU I (by rw[e];exact True.intro) hs ⟨q,hq⟩ ⟨hl,hd,_,(rel.put k eb rv).keeps λc ys ec=>?_,q,es,ep,hq,h2,h3,h4,h5⟩;rw[ao (OM ec e (λz=>nomatch z))];exact ec
end
section
variable {X:Cx} {pins:List (Addr×Obj)} {σ:St} {H:Hp} {s:Shared} {a:Addr} {kvs:List (Key×V)} {k:Key} {u:Value} {A:Around} {E:Value->Shared->Prop}
theorem PC(I:Inv X pins σ H s)(e:Rd H a (.dK kvs))(h:∀t s',Inv X pins σ H s'->Q (.int kvs.length t) s'):wpAny (model X.prog X.w) A (call (.builtin "len") [.ref a]) Q E s:=by
 obtain⟨z,hd,vs,rel,dd⟩:=o5 I.hok e;refine call_len_dict hd dd (by rw[<-rel.length];rw[sizeLine_eq]at z;omega) ?_;rw[<-rel.length];exact h _ _ (I.tok _)
end
theorem wo(I:Inv X pins σ H s)(g:lI H a y o):s.TypeIs (.ref a) "dict":=by
 rcases g with ⟨kvs,k,e,_,_⟩|⟨kvs,k,b,e,_,_,_⟩
 ·obtain⟨_,_,vs,_,dd⟩:=o5 I.hok e;exact dd.typeIs
 ·obtain⟨_,_,xs,_,dd⟩:=qz I.hok e;exact dd.typeIs
section
variable {X:Cx} {o i e value:Expr} {pos pos' tpos:Pos} {td ty tv:TE}
end
theorem wu(h:Heap)(hb:sysModules<h.objs.size):bT P w H (h.push { cls:=.type "dict",data:=.dict #[] }) h.objs.size (.dK []) :=
 ⟨zero_le _,beq_eq_false_iff_ne.mpr (Ne.symm (ne_of_lt hb)),[],.nil,Heap.DictOf.new h⟩
noncomputable def LB:TE:=λ_ H Q=>∀p,H p=none->Q (.ref p) (upd H p (.dK []))
section
variable {X:Cx} {pos:Pos}
theorem Df:PE X (.Dict [] [] pos) LB:=λpins s σ H Q I h=>
 wpAny_Dict_empty ⟨.ref s.heap.objs.size,_,I.laid (a:=s.heap.objs.size) (o:=.dK []) (t':=s.toks) (λ_ _ q=>get?_push_of_some _ q) (Nat.le_refl _) (wu s.heap I.big),rfl,h _ (I.hok.fresh (Nat.le_refl _))⟩
end
noncomputable def yQ:List (TE×TE)->St->Hp->(List (V×V)->Hp->Prop)->Prop
 |[],_,H,Q=>Q [] H
 |(tk,tv)::r,σ,H,Q=>tk σ H λx H1=>tv σ H1 λy H2=>yQ r σ H2 λps H3=>Q ((x,y)::ps) H3
noncomputable abbrev VV:List (V×V)->List (Value×Value)->Prop:=Paired λp q=>RelV p.1 q.1/\RelV p.2 q.2
noncomputable def SS(X:Cx)(pos:Pos)(keys:List (Option Expr))(values:List Expr)(LC:List (TE×TE)):Prop :=
 ∀(pins:List (Addr×Obj)) (s:Shared) (σ:St) (H:Hp) (Q:List (V×V)->Hp->Prop),Inv X pins σ H s->yQ LC σ H Q ->
  wpAny (model X.prog X.w) X.A (evalPairs (pairTrees keys values X.env pos)) (λvs s'=>∃ps H',Inv X pins σ H' s'/\VV ps vs/\Q ps H') X.xe s
theorem Hl:SS X pos [] [] []:=λpins s σ H Q I h=>pairTrees_nil_walk ⟨[],H,I,.nil,h⟩
theorem Dg(hk:PE X k tk)(hv:PE X v tv)(hr:SS X pos ks vs LC) :
  SS X pos (some k::ks) (v::vs) ((tk,tv)::LC):=λpins s σ H Q I h=>
 pairTrees_cons_walk (cA (hk pins s σ H _ I h) λu s1 ⟨x,H1,I1,rx,q1⟩=>cA (hv pins s1 σ H1 _ I1 q1) λw2 s2 ⟨y,H2,I2,ry,q2⟩=>
  cA (hr pins s2 σ H2 _ I2 q2) λws s3 ⟨ps,H3,I3,rel,q3⟩=>⟨(x,y)::ps,H3,I3,.cons ⟨rx,ry⟩ rel,q3⟩)
noncomputable def nU(kvs more:List (Key×V)):List (Key×V):=more.foldl (λacc kv=>putK acc kv.1 kv.2) kvs
theorem KV.merge:∀{more:List (Key×V)} {rs:List (Key×Value)} {kvs:List (Key×V)} {vs:List (Key×Value)},KV more rs->KV kvs vs->KV (nU kvs more) (merged vs rs):=by
 intro more rs kvs vs r;unfold KV at r
 induction r generalizing kvs vs with
 |nil=>intro q;exact q
 |@cons p q ps qs h t ih=>
  intro r0;have e:KV (putK kvs p.1 p.2) (stored vs q.1 q.2):=by have:=r0.put p.1 h.2;rw[<-h.1];exact this
  exact ih e
theorem lU:∀(more kvs:List (Key×V)),(nU kvs more).length<=kvs.length+more.length
 |[],kvs=>by show kvs.length<=kvs.length+0;omega
 | p::r,kvs=>by
  have h1:=lU r (putK kvs p.1 p.2);have h2:=kC kvs p.1 p.2;show (nU (putK kvs p.1 p.2) r).length<=_;rw[length_cons];omega
theorem qA:∀{kvs:List (Key×V)} {ws:List (Value×Value)},VV (kvs.map λkv=>(kV kv.1,kv.2)) ws->∃rs,Carries (aR P w) ws rs/\KV kvs rs
 |[],_,r=>by rw[map_nil]at r;cases r;exact⟨[],True.intro,.nil⟩
 | p::kvs,_,r=>by
  rw[map_cons]at r;cases r with
  |@cons a b as bs h t=>obtain⟨rs,c,q⟩:=qA (P:=P) (w:=w) t;obtain⟨b1,b2⟩:=b;exact⟨(p.1,b2)::rs,⟨qy h.1,rfl,c⟩,.cons ⟨rfl,h.2⟩ q⟩
noncomputable def PD(LC:List (TE×TE)):TE:=λσ H Q=>∀p,H p=none->yQ LC σ (upd H p (.dK [])) λps H2=>H2 p=some (.dK [])/\∃kvs:List (Key×V),ps=kvs.map (λkv=>(kV kv.1,kv.2))/\kvs.length<=15/\Q (.ref p) (upd H2 p (.dK (nU [] kvs)))
theorem Ho(h:SS X pos keys values LC)(hall:keys.all (·.isSome)=true)(hl:keys.length=values.length)(h0:keys≠[])
  (h15:keys.length<=15):PE X (.Dict keys values pos) (PD LC):=by
 intro pins s σ H Q I q;have hn:=I.hok.fresh (Nat.le_refl s.heap.objs.size);have I1:=I.laid (a:=s.heap.objs.size) (o:=.dK []) (h':=s.heap.push { cls:=.type "dict",data:=.dict #[] }) (t':=s.toks) (λ_ _ q=>get?_push_of_some _ q) (Nat.le_refl _) (wu s.heap I.big);refine wpAny_Dict_walk (knd:=aR X.prog X.w) hall hl h0 h15 (cA (h pins _ σ _ _ I1 (q _ hn)) λws s2 aI=>?_);obtain⟨ps,H2,I2,rel,e,kvs,ep,lk,q2⟩:=aI;subst ep;obtain⟨rs,c,rk⟩:=qA (P:=X.prog) (w:=X.w) rel;obtain⟨z,hd,vs0,r0,dd⟩:=wm I2.hok e;cases r0;refine⟨rs,c,dd,λh' LA hs=>⟨.ref s.heap.objs.size,_,?_,rfl,q2⟩⟩;have hz:(nU [] kvs).length<=sizeLine:=by have h1:=lU kvs [];rw[length_nil]at h1;rw[sizeLine_eq];omega
 have he:∃q,h'.get? s.heap.objs.size=some q:=let ⟨q,_,_,hq,_⟩:=LA;⟨q,hq⟩
 exact uU I2 (by rw[e];exact True.intro) hs he (De hz hd (rk.merge .nil) LA)
structure M1 (X:Cx) (o:Expr) (m:Str) (apos:Pos) (e:Expr) (cpos:Pos):Prop where
 base:attributeBase o m X.env (eval o X.env)=eval o X.env
 few:((backTo cpos (starEach [e] X.env)).all (λx=>!x.1)&&(backToKw cpos (keywordEach [] X.env)).all (λx=>x.1.isSome)
  && decide (([e]:List Expr).length+([]:List Keyword).length+(if ([]:List Keyword).isEmpty then 0 else 1)<30))=true
 line:(apos.endLine==cpos.line)=true
 trees:backTo cpos (starEach [e] X.env)=[(false,eval e X.env)]
structure M2 (X:Cx) (o:Expr) (m:Str) (apos:Pos) (e f:Expr) (cpos:Pos):Prop where
 base:attributeBase o m X.env (eval o X.env)=eval o X.env
 few:((backTo cpos (starEach [e,f] X.env)).all (λx=>!x.1)&&(backToKw cpos (keywordEach [] X.env)).all (λx=>x.1.isSome)
  && decide (([e,f]:List Expr).length+([]:List Keyword).length+(if ([]:List Keyword).isEmpty then 0 else 1)<30))=true
 line:(apos.endLine==cpos.line)=true
 trees:backTo cpos (starEach [e,f] X.env)=[(false,eval e X.env),(false,eval f X.env)]
noncomputable def Yv(H:Hp)(a:Addr):Prop:=(∃kvs,Rd H a (.dK kvs))\/∃kvs,Rd H a (.dT kvs)
theorem yR(I:Inv X pins σ H s)(d:Yv H a) :
  s.TypeIs (.ref a) "dict" /\ (∀b,Value.ref a=.ref b->∃ob,s.heap.get? b=some ob/\ob.dict=none)/\(a==sysModules)=false:=by
 rcases d with ⟨kvs,e⟩|⟨kvs,e⟩
 ·obtain⟨_,hd,vs,_,dd⟩:=o5 I.hok e;refine⟨dd.typeIs,λb q=>?_,hd⟩;cases q;obtain⟨ob,_,_,h1,h2,_⟩:=dd;exact⟨ob,h1,h2.2.1⟩
 ·obtain⟨_,hd,xs,_,dd⟩:=qz I.hok e;refine⟨dd.typeIs,λb q=>?_,hd⟩;cases q;obtain⟨ob,_,_,h1,h2,_⟩:=dd;exact⟨ob,h1,h2.2.1⟩
section
variable {X:Cx} {pins:List (Addr×Obj)} {σ:St} {H:Hp} {s:Shared} {a:Addr} {y d:V} {u r:Value} {o:Option V} {A:Around} {E:Value->Shared->Prop}
theorem LD(hu:A.units+1<cLine)(I:Inv X pins σ H s)(g:lI H a y o)(ry:RelV y u)(rd:RelV d r)(h:∀w' s',Inv X pins σ H s'->RelV (o.getD d) w'->Q w' s') :
  wpAny (model X.prog X.w) A (call (.builtin "dict.get") [.ref a,u,r]) Q E s:=by
 rcases g with ⟨kvs,k,e,ey,l⟩|⟨kvs,k,b,e,ey,eb,l⟩
 ·subst ey;obtain⟨z,hd,vs,rel,dd⟩:=o5 I.hok e;refine call_meetsIn PySem.F.slot_dict_get dd.typeIs PySem.F.entry_dict_get (PySem.F.args_dict_get_3 _ _ _) (meets_dict_get_default (aR X.prog X.w) a (qy ry) hd r) ⟨_,dd.mapOf,h _ _ (I.tok _) ?_⟩;rw[l];exact(rel.val k).getD rd
 ·subst ey;cases (show u=Value.ref b from ry);obtain⟨z,hd,xs,rel,dd⟩:=qz I.hok e;refine call_meetsIn PySem.F.slot_dict_get dd.typeIs PySem.F.entry_dict_get (PySem.F.args_dict_get_3 _ _ _) (meetsH_dict_get_default (tupleKind (aR X.prog X.w)) a b hd r) ⟨tupleKind_room_in1 hu,k,xs,nT I.hok eb,dd,h _ _ (I.tok _) ?_⟩;rw[l];exact(rel.val k).getD rd
end
noncomputable def LF(td ty tx:TE):TE:=λσ H Q=>td σ H λx H1=>∃a,x=.ref a/\Yv H1 a/\ty σ H1 λy H2=>tx σ H2 λz H3=>∃o,lI H3 a y o/\Q (o.getD z) H3
section
variable {X:Cx} {o e f:Expr} {apos cpos:Pos} {td ty tx:TE}
theorem Dh(hu:X.A.units+1<cLine)(ho:PE X o td)(he:PE X e ty)(hf:PE X f tx)(m:M2 X o "get" apos e f cpos):PE X (.Call (.Attribute o "get" apos) [e,f] [] cpos) (LF td ty tx):=by
 intro pins s σ H Q I h;refine wpAny_Call_method m.base m.few m.line PySem.F.plainAttrs_dict PySem.F.slot_dict_get PySem.F.type_dict_get (cA (ho pins s σ H _ I h) λu s1 aI=>?_);obtain⟨x,H1,I1,rx,a,ex,d,q1⟩:=aI;subst ex;obtain rfl:u=Value.ref a:=rx;obtain⟨t1,t2,_⟩:=yR I1 d;refine⟨t1,t2,?_⟩;rw[m.trees];refine Calls.callWith_builtin rfl (Calls.evalArgs_plain (Calls.spliced_cons (cA (he pins s1 σ H1 _ I1 q1) λiv s2 ⟨y,H2,I2,ry,q2⟩=>
  Calls.spliced_cons (cA (hf pins s2 σ H2 _ I2 q2) λfv s3 ⟨z,H3,I3,rz,ov,g,q3⟩=>Calls.spliced_nil ?_))))
 exact LD hu I3 g ry rz λw' s4 I4 rw'=>⟨_,H3,I4,rw',q3⟩
end
section
variable {X:Cx} {pins:List (Addr×Obj)} {σ:St} {H:Hp} {s:Shared} {a:Addr} {kvs:List (Key×V)} {A:Around} {E:Value->Shared->Prop}
end
section
variable {X:Cx} {pins:List (Addr×Obj)} {σ:St} {H:Hp} {s:Shared} {a:Addr} {y:V} {u:Value} {A:Around} {E:Value->Shared->Prop}
end
end L2
namespace Yw
open PySem PySem.W PySem.Calls PyProof.Rows
theorem pO:∀(ns:List Int) (vs:List Value),WellAll P h vs (ns.map WData.int)->IntsAre vs ns:=by
 intro ns
 induction ns with
 |nil=>intro vs w;rw[map_nil]at w;cases w;exact .nil
 |cons n ns ih=>
  intro vs w;rw[map_cons]at w;cases w with
  |cons a b=>cases a;exact .cons _ _ (ih _ b)
theorem Bx{l:OpenLaw}{n:Nat}(hn:l.most=some n){P:Params}{h:Heap}{args:List WData}{vals:List Value}
  (hpre:l.row.toRowW.claim.pre args=true) (hwl:WellAll P h vals args) :
  ∃a vs ns,vals=[Value.ref a]/\args=[WData.list (ns.map WData.int)]/\h.get? a=some { cls:=.type "list",data:=.seq vs.toArray }/\IntsAre vs ns/\ns.length<=n:=by
 have hsh:WShape.hasAll [] args [.list .int]=true:=(pre_splitW hpre).1;have hc:l.pre.holds [] { args:=args }=true:=(pre_splitW hpre).2;obtain⟨d,r,rfl,h1,h2⟩:=hasAllW_cons hsh;obtain rfl:=hasAllW_nil h2;obtain⟨xs,rfl,h3⟩:=hasW_list h1;obtain⟨ns,rfl⟩:=items_int h3;have hlen:ns.length<=n:=by
  unfold OpenLaw.pre at hc;have h4:(WTm.not (.lt (.lit (.int (n:Int))) (.len (.arg 0)))).holds [] { args:=[.list (ns.map .int)] }=true:=by have h4:=(holds_andW hc).1;rw[hn]at h4;exact h4
  have h5:=condW_of h4 (w_not (w_lt w_lit (w_len_list (w_arg rfl))));rw[length_map]at h5;refine Nat.le_of_not_lt λq=>?_;have q':(n:Int)<((ns.length:Nat):Int):=by omega
  first
   |(rw[decide_eq_true q']at h5;exact absurd h5 (by decide))
   |(simp at h5;omega)
 cases hwl with
 |cons w1 w2=>
  cases w2;cases w1 with
  |list ho hall=>exact⟨_,_,ns,rfl,rfl,ho,pO ns _ hall,hlen⟩
theorem By(l:OpenLaw)(args:List WData):l.row.toRowW.claim.post args (.bool true) args=true :=
 postW_of (r:=l.row.toRowW) (X:=(true==true))
  (show WShape.has [] (.bool true) .bool=true by first|rfl|decide|simp[WShape.has,WShape.arms,WShape.armsAll])
  (show (WTm.eq .res (.lit (.bool true))).value [] { args:=args,res:=some (.bool true),after:=args }=some (.bool (true==true)) from w_eq_bool (w_res rfl) w_lit) rfl
theorem wz{l:OpenLaw}{n:Nat}{q:Program}{loose:List Str}{XP:(Str->Option Value)->Heap->Prop}{YP:World->Heap->Prop}{d:DefRec}
  (hn:l.most=some n) (hdf:d.params.defaults=[])
  (call:∀(w:World) (s₀ s₁:Shared) (mg mb:Str->Option Value) (fa:Addr) (o:Obj) (pm cd doc:Value) (a:Addr) (vs:List Value) (ns:List Int),
   Ground q loose [] XP w s₀ mg mb s₁.heap->YP w s₁.heap ->
   s₁.heap.get? fa=some o->o.data=.func (docDef d.name d.params d.body d.scope pm cd doc)->s₁.heap.CodeRec cd d.name->mg d.name=some (.ref fa) ->
   s₁.heap.get? a=some { cls:=.type "list",data:=.seq vs.toArray }->IntsAre vs ns->ns.length<=n->s₁.gens = #[] ->
   codeAny (model l.prog w) callerA (.call (.ref fa) ⟨[.ref a],[]⟩) (λr s'=>r=.ok (.ret (.bool true))/\OldK s₁.heap s'.heap/\s'.os=s₁.os/\AllBare s'.gens) s₁) :
  WalkO q loose XP YP l.row.toRowW d [] (λf vs=>PySem.call f vs):=by
 intro w s₀ s₁ mg mb G Y fa o pm cd doc dV kV ho hd hcd hD hmg hg args vals as hpre hlay hrd hwl hlo;obtain rfl:dV=.none:=Dflts.none hD hdf;obtain rfl:kV=.none:=Dflts.noKw hD;obtain⟨a,vs,ns,rfl,rfl,hobj,hints,hlen⟩:=Bx hn hpre hwl;refine enter_call (codeAny_mono (call w s₀ s₁ mg mb fa o pm cd doc a vs ns G Y ho (fd_plain hd) hcd hmg hobj hints hlen hg) λr s' hq=>?_);obtain⟨rfl,h2,h3,h4⟩:=hq;exact⟨.inl ⟨.bool true,.bool true,[],rfl,λ_=>rfl,.bool true,By l _,λ_=>⟨List.Pairwise.nil,λ_ hm=>(nomatch hm)⟩⟩,h2,h3,h4⟩
section
variable {prog:Program} {w:World} {A:Around} {E:Value->Shared->Prop} {s:Shared} {K:Frag}
end
end Yw
namespace L2
open PySem PySem.Spec PyProof.Rows
theorem jq:∀{vs:List Value} {ns:List Int},IntsAre vs ns->Vals (ns.map V.int) vs
 |_,_,.nil=>.nil
 |_,_,.cons n t h=>.cons ⟨t,rfl⟩ (jq h)
noncomputable def Di(H:Hp):Prop:=∀b,H b=none\/∃o xs,H b=some (.kg o (.lst xs))
theorem Dj{P:Program}{w:World}{K:PySem.W.Frag}{mg mb:Str->Option Value}{CX:Br}{k:Nat}{fa a:Addr}{fd:FuncData}{x:Str}{sp:Sp}{s₁:Shared}{vs:List Value}{ns:List Int}
  (KX:K.In s₁.heap) (hns:s₁.heap.Ns mainGlobals mg) (hb:s₁.heap.Ns builtinsNs mb) (hbb:∀x:Str,x ≠ "__name__" -> mb x=bootBuiltins x) (hlim:s₁.heap.NoLimit) (hg:s₁.gens = #[])
  (ha:s₁.heap.get? a=some { cls:=.type "list",data:=.seq vs.toArray }) (hi:IntsAre vs ns) (hl:ns.length<=sizeLine) (hr:dP k callerA)
  (F:∀base:Heap,K.In base->base.Ns mainGlobals mg->fU P w K mg base CX k fa fd [x] sp) (hbind:∀(s:Shared) (u:Value),BindsTo s fd ⟨[u],[]⟩ [(x,u)])
  (hsp:∀H:Hp,Di H->gI K H a (ns.map V.int)->sp [.ref a] H (λv _=>v=.bl true) λ_ _ _=>False)
  (hCX:∀H e s',CX [] H s₁ (λ_ _ _=>False) e s'->False) :
  codeAny (model P w) callerA (.call (.ref fa) ⟨[.ref a],[]⟩) (λr s'=>r=.ok (.ret (.bool true))/\OldK s₁.heap s'.heap/\s'.os=s₁.os/\AllBare s'.gens) s₁:=by
 have rv:=jq hi;have Uo:=hi.length;have core:∀H:Hp,Di H->gI K H a (ns.map V.int)->mj P w H s₁.heap->(∀b,H b≠none->b=a)->(H a≠none->K.lookup a=none) ->
   codeAny (model P w) callerA (.call (.ref fa) ⟨[.ref a],[]⟩) (λr s'=>r=.ok (.ret (.bool true))/\OldK s₁.heap s'.heap/\s'.os=s₁.os/\AllBare s'.gens) s₁:=by
  intro H hO hS hok hA hK;have base_of:∀{b:Addr} {o:Obj},s₁.heap.get? b=some o->H b=none->(uI s₁.heap H).get? b=some o:=λe n=>Cz e n;have noA:∀{b:Addr} {o:Obj} {es:Array DictEntry} {ep:Nat},s₁.heap.get? b=some o->o.data=.dict es ep->H b=none:=λ{b o es ep} e d=>by
   cases q:H b with
   |none=>rfl
   |some u=>have e':b=a:=hA b (by rw[q];simp);subst e';rw[ha]at e;cases e;have d':Data.seq vs.toArray _=Data.dict es ep:=d;cases d'
  have nsK:∀{b:Addr} {m:Str->Option Value},s₁.heap.Ns b m->(uI s₁.heap H).Ns b m:=λ{b m} ⟨o,es,ep,e,d,r⟩=>⟨o,es,ep,base_of e (noA e d),d,r⟩;have Yx:K.In (uI s₁.heap H):=λb o e=>base_of (KX b o e) (by
   cases q:H b with
   |none=>rfl
   |some u=>have e':b=a:=hA b (by rw[q];simp);subst e';rw[hK (by rw[q];simp)]at e;cases e)
  have hM:Mod K mg (uI s₁.heap H):=⟨Yx,nsK hns,⟨mb,nsK hb,hbb⟩,let ⟨mc,h1,h2⟩:=hlim;⟨mc,nsK h1,h2⟩⟩;have e0:yL P w K mg (uI s₁.heap H) callerA [] s₁ H:=⟨rfl,hM,λb o e=>Gq e,Nat.le_of_eq (Bc _ _),trivial,λb hb=>absurd (show b∈([]:List Addr) from hb) (by simp),hok,.of_eq hg⟩;refine codeAny_mono ((F _ Yx (nsK hns)).run callerA [] s₁ H ⟨[.ref a],[]⟩ [.ref a] [.ref a] _ _ hr e0 (hbind s₁ (.ref a)) (.cons rfl .nil) (hsp H hO hS)) λr s' h=>?_;cases r with
  |error e=>exact(hCX H e s' h).elim
  |ok fl=>
   cases fl with
   |next=>exact False.elim h
   |brk=>exact False.elim h
   |cont=>exact False.elim h
   |ret u=>
    obtain⟨v,H',os,bare,un,Uq,r',q⟩:=h;have q':v=.bl true:=q;subst q';obtain rfl:u=Value.bool true:=r';refine⟨rfl,OldK.of_keep λb o e=>?_,os,bare⟩;cases q:H b with
    |none=>exact un.keep b o e q (by intro z;exact absurd (show b∈([]:List Addr) from z) (by simp)) (by simp)
    |some u=>
     rcases hO b with z|⟨ob,xs,z⟩
     ·rw[q]at z;cases z
     ·have z2:=un.frzs b ob _ z;obtain⟨e1,_⟩:=hok b _ z;obtain⟨e2,_⟩:=Uq b _ z2;rw[e]at e1;cases e1;exact e2
 cases hk:K.lookup a with
 |some o=>have e:=KX a o hk;rw[ha]at e;cases e;refine core (λ_=>none) (λ_=>.inl rfl) (.inr ⟨_,vs.toArray,_,hk,rfl,rfl,rfl,by rw[size_toArray,Uo];exact hl,by simpa using rv⟩) (λb u z=>by have z':(none:Option HO)=some u:=z;cases z') (λb z=>absurd rfl z) λz=>absurd rfl z
 |none=>
  refine core (λb=>if b=a then some (.kg { cls:=.type "list",data:=.seq vs.toArray } (.lst (ns.map V.int))) else none) (λb=>?_) (.inl (.inr ⟨{ cls:=.type "list",data:=.seq vs.toArray },if_pos rfl⟩)) (λb u z=>?_) (λb z=>?_) λ_=>hk
  ·by_cases hb:b=a
   ·exact .inr ⟨_,_,if_pos hb⟩
   ·exact .inl (if_neg hb)
  ·by_cases hb:b=a
   ·have z':=(if_pos hb).symm.trans z;cases z';subst hb;exact⟨ha,by rw[length_map];exact hl,vs,_,rv,ha⟩
   ·have z':=(if_neg hb).symm.trans z;cases z'
  ·by_cases hb:b=a
   ·exact hb
   ·exact absurd (if_neg hb) z
end L2
namespace L2
open PySem PySem.Spec PyProof.Rows
theorem Hq{l:PySem.W.OpenLaw}{n k:Nat}{q:Program}{loose:List Str}{XP:(Str->Option Value)->Heap->Prop}{YP:World->Heap->Prop}{d:DefRec}{K:Params->PySem.W.Frag}{CX:World->Br}{sp:World->Sp}{x:Str}
  (hn:l.most=some n) (hn2:n<=sizeLine) (hdf:d.params.defaults=[]) (hr:dP k callerA)
  (hY:∀(w:World) (h:Heap),YP w h->(K w.params).In h)
  (F:∀(w:World) (mg:Str->Option Value) (fa:Addr) (h:Heap),(K w.params).In h->h.Ns mainGlobals mg->mg d.name=some (.ref fa) ->
   ∃fd:FuncData,(∀(s:Shared) (u:Value),BindsTo s fd ⟨[u],[]⟩ [(x,u)]) /\
    ∀base:Heap,(K w.params).In base->base.Ns mainGlobals mg->fU l.prog w (K w.params) mg base (CX w) k fa fd [x] (sp w))
  (hsp:∀(w:World) (H:Hp) (a:Addr) (ns:List Int),ns.length<=n->Di H->gI (K w.params) H a (ns.map V.int)->sp w [.ref a] H (λv _=>v=.bl true) λ_ _ _=>False)
  (hCX:∀(w:World) (H:Hp) (s:Shared) (e:Value) (s':Shared),CX w [] H s (λ_ _ _=>False) e s'->False) :
  PySem.W.WalkO q loose XP YP l.row.toRowW d [] (λf vs=>PySem.call f vs):=by
 refine Yw.wz hn hdf λw s₀ s₁ mg mb fa o pm cd doc a vs ns G Y ho hd hcd hmg hobj hints hlen hg=>?_;have KX:=hY w _ Y;obtain⟨fd,hb,hF⟩:=F w mg fa _ KX G.T.g hmg;exact Dj KX G.T.g G.T.b G.T.builtins G.T.nolimit hg hobj hints (le_trans hlen hn2) hr hF hb (λH hO hS=>hsp w H a ns hlen hO hS) λH e s'=>hCX w H s₁ e s'
end L2
namespace L2
open PySem PySem.Spec PyProof.Rows
noncomputable def aF(s:Stmt):Arguments:=match s with
 |.FunctionDef _ a _ _ _ _ _ _ _ _=>a
 |_=>{ posonlyargs:=[],args:=[],vararg:=none,kwonlyargs:=[],kw_defaults:=[],kwarg:=none,defaults:=[] }
noncomputable def ak(s:Stmt):List Stmt:=match s with
 |.FunctionDef _ _ b _ _ _ _ _ _ _=>b
 |_=>[]
noncomputable def aa(s:Stmt):Scope:=match s with
 |.FunctionDef _ _ _ _ _ _ sc _ _ _=>sc
 |_=>{ kind:=.function,names:=[],isGenerator:=false,isCoroutine:=false }
noncomputable abbrev yr:Br:=λ_ _ _ _ _ _=>False
noncomputable abbrev E0:XK:=λ_ _ _=>False
theorem qB:Passes yr X E0:=λ_ _ _ _ _ _ _ h=>h.elim
structure Hr (K:PySem.W.Frag) (x qual:Str) (st:Stmt) (f:Addr) (fd:FuncData):Prop where
 ex:∃(oc:Value) (od:Option Addr) (kV doc pm:Value) (an:Option Addr) (cdv ct:Value) (osl:Array (Option Value)),
  fd=PySem.W.fnOf x qual (aF st) (ak st) (aa st) .none kV doc pm an cdv ct/\K.lookup f=some ⟨oc,od,.func fd,osl⟩/\codeIn K cdv qual=true
 kp:keepIn K (.ref f)=true
section
variable {P:Program} {w:World} {K:PySem.W.Frag} {mg:Str->Option Value} {base:Heap}
theorem Hr.ok{x qual:Str}{st:Stmt}{f:Addr}{fd:FuncData}{N ps:List Str}{k:Nat}{sp:Sp}(F:Hr K x qual st f fd)(S:pZ N ps (aa st))(len:∀vs H Q E,sp vs H Q E->vs.length=ps.length)
  (hbody:∀(cdv:Value) (A:Around) (outer:List Env) (s:Shared) (H:Hp) (vs:List V) (Q:VK) (E:XK),dP k (A.deeper (envOfC qual (aa st) s.heap.objs.size f cdv))->sp vs H Q E ->
   ∃t,yq (yM yr P w K mg base N qual (aa st) f cdv A outer s H E).O0 (ak st) t/\t { nx:=λ_ H'=>Q .non H',rt:=Q } (start N vs) H):fU P w K mg base yr (k+1) f fd ps sp:=by
 obtain⟨oc,od,kV,doc,pm,an,cdv,ct,osl,rfl,lk,hcd⟩:=F.ex;refine Pp lk hcd S len λA outer s H vs Q E hr hsp=>?_;obtain⟨t,h,q⟩:=hbody cdv A outer s H vs Q E hr hsp;exact⟨t,h.O0,q⟩
theorem Hr.binds{x qual:Str}{st:Stmt}{f:Addr}{fd:FuncData}{ps:List Str}(F:Hr K x qual st f fd)
  (h:∀(kV doc pm:Value) (an:Option Addr) (cdv ct:Value) (us:List Value),us.length=ps.length->bindArgs (PySem.W.fnOf x qual (aF st) (ak st) (aa st) .none kV doc pm an cdv ct) ⟨us,[]⟩=pure (ps.zip us)):Binds K fd ps []:=by
 obtain⟨oc,od,kV,doc,pm,an,cdv,ct,osl,rfl,lk,hcd⟩:=F.ex;exact .all (h kV doc pm an cdv ct)
theorem bx{x qual:Str}{st:Stmt}{f:Addr}{oc:Value}{od an:Option Addr}{osl:Array (Option Value)}{kV doc pm cdv ct:Value}(l:K.lookup f=some ⟨oc,od,.func (PySem.W.fnOf x qual (aF st) (ak st) (aa st) .none kV doc pm an cdv ct),osl⟩)
  (c:codeIn K cdv qual=true) (k:keepIn K (.ref f)=true):Hr K x qual st f (PySem.W.fnOf x qual (aF st) (ak st) (aa st) .none kV doc pm an cdv ct):=⟨⟨oc,od,kV,doc,pm,an,cdv,ct,osl,rfl,l,c⟩,k⟩
end
section
variable {X:Cx}
theorem BA:cR X (.builtin "len") (λxs H Q=>∃a kvs,xs=[V.ref a]/\H a=some (.dK kvs)/\Q (.int kvs.length) H):=by
 intro pins s σ H xs us Q I r h;obtain⟨a,kvs,rfl,ha,q⟩:=h;obtain⟨u,rfl,ru⟩:=vals1 r;cases ru;exact PC I (.inl ha) λt s' I'=>⟨.int kvs.length,H,I',⟨t,rfl⟩,q⟩
end
noncomputable def yS(H H':Hp):Prop:=∀b o,H b=some o->H' b=some o
theorem yS.seq{K:PySem.W.Frag}{H H':Hp}{a:Addr}{xs:List V}(e:yS H H')(h:gI K H a xs):gI K H' a xs:=by
 rcases h with (h|⟨o,h⟩)|h
 ·exact .inl (.inl (e _ _ h))
 ·exact .inl (.inr ⟨o,e _ _ h⟩)
 ·exact .inr h
section
variable {κ:Type} [DecidableEq κ]
theorem iO:∀{l:List κ} {k:κ},l.Nodup->¬ k∈l->(l++[k]).Nodup
 |[],k,_,_=>by simp
 | a::r,k,h,hk=>by
  obtain⟨h1,h2⟩:=nodup_cons.mp h;show (a::(r++[k])).Nodup;refine nodup_cons.mpr ⟨λm=>?_,iO h2 λm=>hk (mem_cons.mpr (Or.inr m))⟩
  rcases mem_append.mp m with q|q
  ·exact h1 q
  ·exact hk (mem_cons.mpr (Or.inl (mem_singleton.mp q).symm))
end
end L2
end
section
namespace L2
open PySem PySem.Spec PyProof.Rows
theorem mw(env:Env):∀(names:List (Str×NameKind)) (acc:List (Str×Addr)),(∀y∈names,y.2=.free->∃c,env.cells.lookup y.1=some c) ->
  (∀x c,acc.lookup x=some c->env.cells.lookup x=some c) ->
  ∃cl,(forIn names acc λx r=>if (x.snd==NameKind.free)=true then do let c <-cellOf env x.fst;pure (ForInStep.yield ((x.fst,c)::r)) else pure (ForInStep.yield r))=(pure cl:Sem (List (Str×Addr))) /\
   (∀x c,cl.lookup x=some c->env.cells.lookup x=some c)/\∀x,((x,NameKind.free)∈names\/∃c,acc.lookup x=some c)->∃c,cl.lookup x=some c
 |[],acc,_,ha=>⟨acc,rfl,ha,λx h=>h.elim (λz=>nomatch z) λz=>z⟩
 | (n,k)::r,acc,hn,ha=>by
  have hr:∀y∈r,y.2=NameKind.free->∃c,env.cells.lookup y.1=some c:=λy hy=>hn y (mem_cons_of_mem _ hy)
  by_cases hk:k=.free
  ·subst hk
   obtain⟨c,hc⟩:=hn (n,.free) mem_cons_self rfl;have ha':∀x d,((n,c)::acc).lookup x=some d->env.cells.lookup x=some d:=λx d h=>by
    rw[lookup_cons]at h;cases e:x==n with
    |true=>rw[e]at h;have e':x=n:=eq_of_beq e;cases h;rw[e'];exact hc
    |false=>rw[e]at h;exact ha x d h
   obtain⟨cl,e1,e2,e3⟩:=mw env r ((n,c)::acc) hr ha';refine⟨cl,?_,e2,λx h=>?_⟩
   ·rw[List.forIn_cons]
    have hco:cellOf env n=pure c:=by unfold cellOf;rw[hc]
    simp only[beq_self_eq_true,if_true,hco];exact e1
   ·by_cases hx:x=n
    ·subst hx;exact e3 x (.inr ⟨c,by simp[lookup_cons]⟩)
    ·rcases h with h|⟨d,h⟩
     ·rcases mem_cons.mp h with z|z
      ·exact absurd (congrArg Prod.fst z) hx
      ·exact e3 x (.inl z)
     ·refine e3 x (.inr ⟨d,?_⟩);rw[lookup_cons];have:(x==n)=false:=beq_eq_false_iff_ne.mpr hx;rw[this];exact h
  ·have hb:(k==NameKind.free)=false:=beq_eq_false_iff_ne.mpr hk
   obtain⟨cl,e1,e2,e3⟩:=mw env r acc hr ha;refine⟨cl,?_,e2,λx h=>e3 x ?_⟩
   ·rw[List.forIn_cons];simp only[hb,false_eq_true,if_false];exact e1
   ·rcases h with h|h
    ·rcases mem_cons.mp h with z|z
     ·cases z;exact absurd rfl hk
     ·exact .inl z
    ·exact .inr h
theorem qC(h:∀y∈scope.names,y.2=.free->∃c,env.cells.lookup y.1=some c) :
  ∃cl,closureFor scope env=pure cl/\(∀x c,cl.lookup x=some c->env.cells.lookup x=some c)/\∀x,(x,NameKind.free)∈scope.names->∃c,cl.lookup x=some c:=by
 obtain⟨cl,e1,e2,e3⟩:=mw env scope.names [] h (λx c z=>by simp at z);refine⟨cl,?_,e2,λx hx=>e3 x (.inl hx)⟩;unfold closureFor;simp only[bind_pure];exact e1
noncomputable def bE(X:Cx)(scope:Scope)(N':List Str)(cl:List (Str×Addr))(C:Addr)(s:Shared)(H:Hp)(fp:List Addr):Cx :=
 { prog:=X.prog,w:=X.w,K:=X.K,mg:=X.mg,base:=X.base,A:=X.A,N:=N',s₀:=s,H₀:=H,env:=compEnvC scope cl C X.env,outer:=X.stack,stack:=X.stack,ex:=fp,fn:=λ_=>false,calm:=X.calm,pn:=[],xe:=λ_ _=>False }
noncomputable def ie(js:List (Option Nat))(σ:St):St:=js.map λo=>match o with
 |none=>none
 | some j=>match σ[j]? with
  |some (some v)=>some v
  |_=>none
noncomputable def uV(sc:Scope)(x:Str):Bool:=sc.names.lookup x==some .cell||sc.names.lookup x==some .free
noncomputable def gP(XN:List Str)(xsc scope:Scope)(N':List Str)(js:List (Option Nat)):Bool :=
 scope.kind==.function&&(scope.names.all λy=>y.2 != .local||scope.names.lookup y.1==some .local)&&(scope.names.all λy=>y.2 != .cell) &&
 (scope.names.all λy=>y.2 != .free||(uV xsc y.1&&scope.names.lookup y.1==some .free))&&js.length==N'.length &&
 ((N'.zip js).all λp=>match p.2 with|none=>true|some j=>XN[j]?==some p.1&&scope.names.lookup p.1==some .free)
structure uW (X:Cx) (scope:Scope) (N':List Str) (js:List (Option Nat)):Prop where
 kind:scope.kind=.function
 names:∀y∈scope.names,y.2=.local->scope.names.lookup y.1=some .local
 Dk:∀y∈scope.names,y.2≠.cell
 free:∀y∈scope.names,y.2=.free->uV X.env.scope y.1=true/\scope.names.lookup y.1=some .free
 len:js.length=N'.length
 src:∀(i:Nat) (x:Str) (j:Nat),N'[i]?=some x->js[i]?=some (some j)->X.N[j]?=some x/\scope.names.lookup x=some .free
theorem tX(h:gP X.N X.env.scope scope N' js=true):uW X scope N' js:=by
 unfold gP at h;simp only[and_eq_true,all_eq_true]at h;obtain⟨⟨⟨⟨⟨h1,h2⟩,h3⟩,h4⟩,h5⟩,h6⟩:=h;refine⟨eq_of_beq h1,λy hy e=>?_,λy hy e=>?_,λy hy e=>?_,eq_of_beq h5,λi x j e1 e2=>?_⟩
 ·have:=h2 y hy;rw[e]at this;simpa using this
 ·have:=h3 y hy;rw[e]at this;simp at this
 ·have:=h4 y hy;rw[e]at this;simpa using this
 ·have hm:(x,some j)∈N'.zip js:=by
   refine List.mem_iff_getElem?.mpr ⟨i,?_⟩;rw[List.getElem?_zip_eq_some];exact⟨e1,e2⟩
  have:=h6 _ hm;simpa using this
theorem iZ(js:List (Option Nat))(σ:St):(ie js σ).length=js.length:=by unfold ie;rw[length_map]
noncomputable def Gh(X:Cx)(ifs:List Expr)(t:TT):Prop :=
 ∀(pins:List (Addr×Obj)) (s:Shared) (σ:St) (H:Hp) (Q:Bool->Hp->Prop),Inv X pins σ H s->t σ H Q ->
  wpAny (model X.prog X.w) X.A (forIn ifs true λc r=>if r=true then do let ok <-isTrue c X.env (eval c X.env);pure (ForInStep.yield ok) else pure (ForInStep.yield r)) (TP X pins σ Q) X.xe s
noncomputable def wD:TT:=λ_ H Q=>Q true H
theorem Ht:Gh X [] wD:=λ_ _ _ H _ I h=>wpAny_tests_nil ⟨H,I,h⟩
theorem zX(h:PT X c t):Gh X [c] t:=λpins s σ H Q I hw=>wpAny_tests_one (h pins s σ H Q I hw)
noncomputable def wF(wi:TI)(js:List (Option Nat))(g:TG)(tt:TT)(te:TE):TE:=λσ H Q=>wi σ H λJ H1=>∀D,H1 D=none->∃W:Nat->Nat->St->Hp->Prop,(∃m,W 0 m (ie js σ) (upd H1 D (.lst []))) /\
 ∀i m σ' H,W i m σ' H->(J.stop i H/\Q (.ref D) H)\/(J.go i H/\∃N:St->Hp->Prop,(∀zY H',N zY H'->∃m',m'<m/\W (i+1) m' zY H') /\
  ∀x H',J.yz i H x H'->g x σ' H' λσ2 H2=>tt σ2 H2 λb H3=>if b=true then te σ2 H3 λy H4=>∃ys,H4 D=some (.lst ys)/\ys.length<sizeLine/\N σ2 (upd H4 D (.lst (ys++[y]))) else N σ2 H3)
theorem sX(hc:∀y∈scope.names,y.2≠.cell)
  (h:(relabel scope env).names.lookup x=some .cell\/(relabel scope env).names.lookup x=some .free):(x,NameKind.free)∈scope.names:=by
 unfold relabel at h;simp only at h;generalize scope.names=ns at hc h
 induction ns with
 |nil=>simp at h
 |cons p r ih=>
  obtain⟨n,k⟩:=p;have hc':∀y∈r,y.2≠.cell:=λy hy=>hc y (mem_cons_of_mem _ hy);simp only[map_cons]at h;cases hx:x==n with
  |true=>
   have e':x=n:=eq_of_beq hx;subst e'
   by_cases hk:k=.free
   ·subst hk;exact mem_cons_self
   ·have hk2:=hc (x,k) mem_cons_self
    have hb:(k==NameKind.free)=false:=beq_eq_false_iff_ne.mpr hk;rw[hb]at h;simp only[Bool.false_and,false_eq_true,if_false,lookup_cons,beq_self_eq_true]at h
    rcases h with h|h
    ·exact absurd (Option.some.inj h) hk2
    ·exact absurd (Option.some.inj h) hk
  |false=>
   refine mem_cons_of_mem _ (ih hc' ?_)
   by_cases hk:(k==NameKind.free&&env.scope.kind==.function&&env.kindOf n==some .cell)=true
   ·rw[if_pos hk]at h;simp only[lookup_cons,hx]at h;exact h
   ·rw[if_neg hk]at h;simp only[lookup_cons,hx]at h;exact h
theorem uX(h:scope.names.lookup x=some .free) :
  (relabel scope env).names.lookup x=some .cell\/(relabel scope env).names.lookup x=some .free:=by
 unfold relabel;simp only;generalize scope.names=ns at h
 induction ns with
 |nil=>simp at h
 |cons p r ih=>
  obtain⟨n,k⟩:=p;simp only[map_cons];cases hx:x==n with
  |true=>
   simp only[lookup_cons,hx]at h;have hk:=Option.some.inj h;subst hk
   by_cases hk:(NameKind.free==NameKind.free&&env.scope.kind==.function&&env.kindOf n==some .cell)=true
   ·rw[if_pos hk];simp[lookup_cons,hx]
   ·rw[if_neg hk];simp[lookup_cons,hx]
  |false=>
   simp only[lookup_cons,hx]at h
   by_cases hk:(k==NameKind.free&&env.scope.kind==.function&&env.kindOf n==some .cell)=true
   ·rw[if_pos hk];simp only[lookup_cons,hx];exact ih h
   ·rw[if_neg hk];simp only[lookup_cons,hx];exact ih h
section
variable {X:Cx} {pins:List (Addr×Obj)} {σ:St} {scope:Scope} {N':List Str} {js:List (Option Nat)}
theorem qD(ok:uW X scope N' js)(xo:X.Ok):∀y∈scope.names,y.2=.free->∃c,X.env.cells.lookup y.1=some c:=λy hy e=>by
 have:=(ok.free y hy e).1;unfold uV at this;rw[or_eq_true]at this;refine xo.has y.1 ?_
 rcases this with z|z
 ·exact .inl (eq_of_beq z)
 ·exact .inr (eq_of_beq z)
theorem yT{tk:Nat}(ok:uW X scope N' js)(I:Inv X pins σ H s)
  (hcl1:∀x c,cl.lookup x=some c->X.env.cells.lookup x=some c) (hcl2:∀x,(x,NameKind.free)∈scope.names->∃c,cl.lookup x=some c)
  (hfp:∀b∈fp,pN X pins H b) (hlt:∀b∈fp,b<s.heap.objs.size)
  (hns:h'.Ns s.heap.objs.size (λ_=>none)) (hk:∀b o,s.heap.get? b=some o->h'.get? b=some o) :
  Inv (bE X scope N' cl s.heap.objs.size s H fp) [] (ie js σ) H { s with heap:=h',toks:=tk }:=by
 have cellK:∀x c,cl.lookup x=some c->∃v,s.heap.IsCell c v:=λx c e=>I.cell x c (hcl1 x c e);have hCf:H s.heap.objs.size=none:=I.hok.fresh (Nat.le_refl _);refine⟨⟨I.ok.mod,ok.kind,I.ok.glob,I.ok.blt,Nat.le_refl _,λx y c e1 e2=>I.ok.inj x y c (hcl1 x c e1) (hcl1 y c e2),λx hx=>hcl2 x (sX ok.Dk hx),λx c hf _=>absurd hf (by intro z;cases z),I.ok.hd,I.ok.frames,.inl rfl,
   λb hb=>⟨ne_of_lt (hlt b hb),λx c e z=>?_⟩,I.bs,le_trans I.ok.JN I.sz,λb o e hb=>?_,λb hb hs=>?_,I.stack,I.zN⟩,rfl,I.bare,Un.kept hk,⟨_,hns,λi x v e1 e2 e3=>?_⟩,λx c e=>?_,hCf,λx c e=>I.iN x c (hcl1 x c e),
   λp hp=>absurd (show p∈([]:List (Addr×Obj)) from hp) (by simp),I.hok.kept hk,?_⟩
 ·exact(hfp b hb).2.2.2.2.1 x c (hcl1 x c e) z
 ·rcases(hfp b hb).2.2.2.1 with z|z
  ·exact I.ok.mq b o e z
  ·exact absurd (lt_of_lt_of_le (lt_size (I.ok.bs b o e).1) z) (lt_irrefl _)
 ·rcases mem_cons.mp (I.yx b hs) with z|z
  ·exact(hfp b hb).2.1 z
  ·exact(hfp b hb).2.2.1 z
 ·-- a name aab has a value: one of the def around
  have Gi:(ie js σ)[i]?=some (some v):=e2;unfold ie at Gi;rw[getElem?_map] at Gi;cases hj:js[i]? with
  |none=>rw[hj] at Gi;cases Gi
  |some o=>
   rw[hj] at Gi;cases o with
   |none=>simp at Gi
   |some j=>
    obtain⟨hN,hf⟩:=ok.src i x j e1 hj;cases hs:σ[j]? with
    |none=>simp[hs] at Gi
    |some ov=>
     cases ov with
     |none=>simp[hs] at Gi
     |some v'=>
      simp[hs] at Gi;subst Gi;have hfr:=(ok.free (x,.free) (PySem.mem_of_lookup hf) rfl).1;unfold uV at hfr;rw[or_eq_true]at hfr;have PF:X.env.scope.names.lookup x=some .cell\/X.env.scope.names.lookup x=some .free:=hfr.imp eq_of_beq eq_of_beq;obtain⟨m,_,hl⟩:=I.loc;obtain⟨u,r,l⟩:=hl j x v' hN hs (.inr PF);refine⟨u,r,.inr ⟨uX hf,?_⟩⟩
      rcases l with ⟨k,_⟩|⟨_,c,e,z⟩
      ·have k':X.env.scope.names.lookup x=some .local:=k
       rcases PF with q|q<;>(rw[q]at k';cases k')
      ·obtain⟨d,hd⟩:=hcl2 x (PySem.mem_of_lookup hf);have e':=hcl1 x d hd;rw[e]at e';cases e';obtain⟨oc,hoc,CB⟩:=z;exact⟨c,hd,oc,hk _ _ hoc,CB⟩
 ·obtain⟨v,oc,hoc,CB⟩:=cellK x c e;exact⟨v,oc,hk _ _ hoc,CB⟩
 ·rw[iZ];exact ok.len
theorem BB(I:Inv X pins σ H s)(hfp:∀b∈fp,pN X pins H b)
  (J:Inv (bE X scope N' cl C s H fp) [] σ' H' s'):Inv X pins σ H' s' :=
 I.OU (ch:=fp) J.os J.base J.hok J.bare λb hb=>⟨(hfp b hb).2.2.2.1,(hfp b hb).2.1,(hfp b hb).2.2.2.2.1,(hfp b hb).2.2.2.2.2⟩
end
section
variable {X:Cx} {scope:Scope} {N':List Str} {js:List (Option Nat)} {tg elt iter:Expr} {ifs:List Expr} {pos:Pos} {wi:TI} {g:TG} {tt:TT} {te:TE}
theorem wG{pins:List (Addr×Obj)}{σ:St}{H2:Hp}{s2:Shared}{it:Addr}{fp:List Addr}{tn:Nat->Heap->Prop}{J:It}{cl:List (Str×Addr)}{E:Value->Shared->Prop}{RR:Value->Addr->Result->Shared->Prop}{Q:VK}
  (ok:uW X scope N' js) (hc:X.calm=true) (I2:Inv X pins σ H2 s2) (T:Turn X.prog X.w X.K tg J fp it tn) (st2:tn 0 s2.heap) (f2:∀b∈fp,pN X pins H2 b)
  (hcl1:∀x c,cl.lookup x=some c->X.env.cells.lookup x=some c) (hcl2:∀x,(x,NameKind.free)∈scope.names->∃c,cl.lookup x=some c)
  (hg:∀cl C s H fp,PG (bE X scope N' cl C s H fp) tg g) (ht:∀cl C s H fp,Gh (bE X scope N' cl C s H fp) ifs tt) (he:∀cl C s H fp,PE (bE X scope N' cl C s H fp) elt te)
  (rd:∀D,H2 D=none->∃W:Nat->Nat->St->Hp->Prop,(∃m,W 0 m (ie js σ) (upd H2 D (.lst []))) /\
   ∀i m σ' H,W i m σ' H->(J.stop i H/\Q (.ref D) H)\/(J.go i H/\∃N:St->Hp->Prop,(∀zY H',N zY H'->∃m',m'<m/\W (i+1) m' zY H') /\
    ∀x H',J.yz i H x H'->g x σ' H' λσ2 H2=>tt σ2 H2 λb H3=>if b=true then te σ2 H3 λy H4=>∃ys,H4 D=some (.lst ys)/\ys.length<sizeLine/\N σ2 (upd H4 D (.lst (ys++[y]))) else N σ2 H3))
  (hRR:∀(D C:Addr) (s':Shared) (H':Hp) (m:Str->Option Value),s2.heap.objs.size<=C->Inv X pins σ H' s'->H' C=none->s'.heap.Ns C m->Q (.ref D) H'->RR (.ref D) C (.ok .next) s') :
  wpAny (model X.prog X.w) X.A (newList []) (λacc s₃=>wpAny (model X.prog X.w) X.A (newFunctionEnv scope X.env.globals cl [] X.env.qual none .none (some X.env)) (λcenv s₄=>
   codeAny (model X.prog X.w) X.A (.compStart (.ListComp elt [⟨tg,iter,ifs,0⟩] scope pos) 0 (.ref it) acc { cenv with scope:=relabel scope X.env }) (RR acc cenv.locals) s₄) E s₃) E s2:=by
 have hD:H2 s2.heap.objs.size=none:=I2.hok.fresh (Nat.le_refl _);refine wpAny_newObj_type (wpAny_newFunctionEnv ok.Dk (by intro y hy;simp at hy) (λh₁ PJ PK=>?_) ok.kind);dsimp only at PJ PK |-;have I3:Inv X pins σ (upd H2 s2.heap.objs.size (.lst [])) { s2 with heap:=s2.heap.push { cls:=.type "list",dict:=none,data:=.seq ([]:List Value).toArray },toks:=s2.toks } :=
  I2.laid (t':=s2.toks) (λb u e=>get?_push_of_some _ e) (Nat.le_refl _) ⟨by simp,[],0,.nil,get?_push_size _ rfl⟩
 generalize PM:({ s2 with heap:=s2.heap.push { cls:=.type "list",dict:=none,data:=.seq ([]:List Value).toArray },toks:=s2.toks }:Shared)=s3 at I3;have hsz:s3.heap.objs.size=s2.heap.objs.size+1:=by rw[<-PM];exact size_push ..
 have eC:(s2.heap.push { cls:=.type "list",dict:=none,data:=.seq ([]:List Value).toArray }).objs.size=s3.heap.objs.size:=by rw[<-PM]
 have f3:∀b∈fp,pN X pins (upd H2 s2.heap.objs.size (.lst [])) b:=λb hb=>by
  obtain⟨o,e,_⟩:=T.obj _ _ st2 b hb;refine⟨?_,(f2 b hb).2⟩;rw[ao (ne_of_lt (lt_size e))];exact(f2 b hb).1
 have hlt:∀b∈fp,b<s3.heap.objs.size:=λb hb=>by
  obtain⟨o,e,_⟩:=T.obj _ _ st2 b hb;have hb2:b<s2.heap.objs.size:=lt_size e;rw[hsz];exact lt_succ_of_lt hb2
 have keep:∀b o,s3.heap.get? b=some o->h₁.get? b=some o:=λb o e=>by
  have e':(s2.heap.push { cls:=.type "list",dict:=none,data:=.seq ([]:List Value).toArray }).get? b=some o:=by rw[<-PM]at e;exact e
  exact PK.extBut b o (ne_of_lt (lt_size e')) (get?_push_of_some _ e')
 have I4:=yT (tk:=s2.toks+([]:List (Str×Value)).length) ok I3 hcl1 hcl2 f3 hlt (h':=h₁) (by rw[<-eC];simpa using PJ) keep;have Yy:tn 0 h₁:=T.keep _ _ _ st2 λb hb o e=>keep b o (by rw[<-PM];exact get?_push_of_some _ e);obtain⟨W,⟨m0,w0⟩,turn⟩:=rd _ hD;have stat:∀{H':Hp},(∀b∈fp,H' b=none)->∀b∈fp,pN (bE X scope N' cl s3.heap.objs.size s3 (upd H2 s2.heap.objs.size (.lst [])) fp) [] H' b:=λ{H'} hn b hb=>
  ⟨hn b hb,ne_of_lt (hlt b hb),I4.ok.CA b hb,.inl hb,(I4.ok.Tw b hb).2,λp hp=>absurd (show p∈([]:List (Addr×Obj)) from hp) (by simp)⟩
 have es3:∀tk,({ s2 with heap:=h₁,toks:=tk }:Shared)={ s3 with heap:=h₁,toks:=tk }:=λtk=>by rw[<-PM]
 have loop:codeAny (model X.prog X.w) X.A (.compLoop (.ListComp elt [⟨tg,iter,ifs,0⟩] scope pos) 0 (.ref it) (.ref s2.heap.objs.size) (compEnvC scope cl s3.heap.objs.size X.env)) (RR (.ref s2.heap.objs.size) s3.heap.objs.size)
   { s3 with heap:=h₁,toks:=s2.toks+([]:List (Str×Value)).length }:=by
  refine codeAny_loop rfl (λn s'=>∃i σ' H',Inv (bE X scope N' cl s3.heap.objs.size s3 (upd H2 s2.heap.objs.size (.lst [])) fp) [] σ' H' s'/\tn i s'.heap/\(∀b∈fp,H' b=none)/\W i n σ' H') ?_ m0 ⟨0,_,_,I4,Yy,λb hb=>(f3 b hb).1,w0⟩;rintro n s5 ⟨i,σ5,H5,I5,Ou,SN,w5⟩;show wpAny _ X.A ((compTurn (.ListComp elt [⟨tg,iter,ifs,0⟩] scope pos) 0 (.ref it) (.ref s2.heap.objs.size) (compEnvC scope cl s3.heap.objs.size X.env)).onRaise (λx=>do noteFrame x (compEnvC scope cl s3.heap.objs.size X.env);theTreesLotGoes x)) _ _ s5;refine wpAny_noted ?_;rw[compTurn_list];refine wpAny_bind (wpAny_standAt (wpAny_bind ?_))
  rcases turn i n σ5 H5 w5 with ⟨stop,qn⟩|⟨go,N,hN,step⟩
  ·refine wpAny_mono (T.done (bE X scope N' cl s3.heap.objs.size s3 (upd H2 s2.heap.objs.size (.lst [])) fp) rfl rfl rfl hc i [] s5 σ5 H5 (λ_ _=>False) I5 (stat SN) Ou stop) (λr s6 ⟨hr,I6⟩=>?_) λ_ _ z=>z.elim;subst hr;refine wpAny_pure ?_;obtain⟨m,hm,_⟩:=id I6.loc;exact hRR _ _ s6 H5 m (by rw[hsz];exact le_succ _) (BB I3 f3 I6) I6.free hm qn
  ·refine wpAny_mono (T.item (bE X scope N' cl s3.heap.objs.size s3 (upd H2 s2.heap.objs.size (.lst [])) fp) rfl rfl rfl hc i [] s5 σ5 H5 (λ_ _=>False) I5 (stat SN) Ou go) (λr s6 ⟨u,hr,h6⟩=>?_) λ_ _ z=>z.elim
   subst hr;refine wpAny_bind (wpAny_mono h6 (λ_ s7 ⟨x,H7,I7,r7,y7,Ur,fr7⟩=>?_) λ_ _ z=>z.elim);have I7':=I7.pinned (stat fr7) (T.obj _ _ Ur);refine wpAny_bind (wpAny_mono (hg _ _ _ _ _ _ s7 σ5 H7 x u _ I7' r7 (step x H7 y7)) (λ_ s8 ⟨σ8,H8,I8,q8⟩=>?_) λ_ _ z=>z.elim);refine wpAny_bind (wpAny_mono (ht _ _ _ _ _ _ s8 σ8 H8 _ I8 q8) (λb s9 ⟨H9,I9,q9⟩=>?_) λ_ _ z=>z.elim);have Dl:∀{sA:Shared} {σA:St} {HA:Hp},Inv (bE X scope N' cl s3.heap.objs.size s3 (upd H2 s2.heap.objs.size (.lst [])) fp) ([]++ql fp s7.heap) σA HA sA->N σA HA ->
     ∃m,m<n/\∃i σ' H',Inv (bE X scope N' cl s3.heap.objs.size s3 (upd H2 s2.heap.objs.size (.lst [])) fp) [] σ' H' sA/\tn i sA.heap/\(∀b∈fp,H' b=none)/\W i m σ' H':=λ{sA σA HA} IA nA=>by
    obtain⟨m',hm,wA⟩:=hN σA HA nA;refine⟨m',hm,i+1,σA,HA,IA.mH,T.keep _ _ _ Ur λb hb o e=>(IA.pin (b,o) (mem_append_right _ (mem_append_right _ (jL hb e)))).1,λb hb=>?_,wA⟩;obtain⟨o,e,d⟩:=T.obj _ _ Ur b hb;exact(IA.pin (b,o) (mem_append_right _ (mem_append_right _ (jL hb e)))).2.1
   cases b with
   |false=>exact wpAny_pure ⟨rfl,Dl I9 (by simpa using q9)⟩
   |true=>rw[if_pos rfl]at q9;refine wpAny_bind (wpAny_bind (wpAny_mono (he _ _ _ _ _ _ s9 σ8 H9 _ I9 q9) (λv sB ⟨y,HB,IB,rB,ys,hys,hlen,nB⟩=>?_) λ_ _ z=>z.elim));refine wpAny_bind (wpAny_mono (tU (X:=bE X scope N' cl s3.heap.objs.size s3 (upd H2 s2.heap.objs.size (.lst [])) fp) _ sB σ8 HB (.ref s2.heap.objs.size) [y] _ [v] (λ_ HC=>HC=upd HB s2.heap.objs.size (.lst (ys++[y]))) IB rfl (.cons rB .nil) ⟨_,ys,y,rfl,rfl,hys,hlen,rfl⟩) (λv' sC ⟨_,HC,IC,_,eC'⟩=>?_) λ_ _ z=>z.elim);subst eC';exact wpAny_pure (wpAny_pure ⟨rfl,Dl IC nB⟩)
 rw[es3];have Us:({ newEnv scope (s2.heap.push { cls:=.type "list",dict:=none,data:=.seq ([]:List Value).toArray }).objs.size X.env.globals cl X.env.qual none Value.none (some X.env) builtinsNs with scope:=relabel scope X.env }:Env)=compEnvC scope cl s3.heap.objs.size X.env:=by rw[eC];rfl
 have Ut:(newEnv scope (s2.heap.push { cls:=.type "list",dict:=none,data:=.seq ([]:List Value).toArray }).objs.size X.env.globals cl X.env.qual none Value.none (some X.env) builtinsNs).locals=s3.heap.objs.size:=by rw[eC];rfl
 rw[Us,Ut];exact codeAny_compStart_list loop (T.self _ _ _ _ _ Yy loop)
theorem zZ(hok:gP X.N X.env.scope scope N' js=true)(hc:X.calm=true)(hi:PI X tg iter wi)(hg:∀cl C s H fp,PG (bE X scope N' cl C s H fp) tg g)
  (ht:∀cl C s H fp,Gh (bE X scope N' cl C s H fp) ifs tt) (he:∀cl C s H fp,PE (bE X scope N' cl C s H fp) elt te)
  (hs:∀x,foldedSetIterable iter X.env x=pure x:=by intro _;rfl):PE X (.ListComp elt [⟨tg,iter,ifs,0⟩] scope pos) (wF wi js g tt te):=by
 intro pins s σ H Q I h;have ok:=tX hok;obtain⟨cl,Uu,hcl1,hcl2⟩:=qC (qD ok I.ok);rw[eval_ListComp];refine wpAny_comprehension_free (use:=none) rfl hs Uu ok.kind ok.names (cA (hi pins s σ H _ I h) λxv s1 h1=>cA h1 λitv s2 h2=>?_);obtain⟨it,fp,tn,J,H2,rfl,I2,T,st2,f2,rd⟩:=h2;refine wG (RR:=λacc C=>compPost (model X.prog X.w) X.A X.xe none (EP X pins σ Q) acc C) ok hc I2 T st2 f2 hcl1 hcl2 hg ht he rd ?_;intro D C s' H' m hC J' fC hm q;refine⟨m,hm,λh' hs'=>⟨.ref D,H',?_,rfl,q⟩⟩;refine J'.turned (t':=s'.toks) (λb o hb e=>hs'.extBut b o hb e) fC (Nat.ne_of_gt (lt_of_lt_of_le I2.lt hC)) (.inr (le_trans I2.sz hC)) (λx c e z=>?_) λp hp z=>?_
 ·obtain⟨v,q'⟩:=I2.cell x c e;exact absurd (lt_of_lt_of_le q'.lt (by rw[z];exact hC)) (lt_irrefl _)
 ·exact absurd (lt_of_lt_of_le (lt_size (I2.pin p hp).1) (by rw[z];exact hC)) (lt_irrefl _)
theorem z4{i:Nat}(hN:X.N.Nodup)(hx:X.N[i]?=some x)(hl:Loc X.env.scope x)(hok:gP X.N X.env.scope scope N' js=true)(hc:X.calm=true)(hi:PI X tg iter wi)(hg:∀cl C s H fp,PG (bE X scope N' cl C s H fp) tg g)
  (ht:∀cl C s H fp,Gh (bE X scope N' cl C s H fp) ifs tt) (he:∀cl C s H fp,PE (bE X scope N' cl C s H fp) elt te)
  (hsw:swapsWith (.ListComp elt [⟨tg,iter,ifs,0⟩] scope pos) (some (.Name x pos')) spos.line X.env=pure true:=by rfl)
  (hf:X.fn x=true\/X.env.scope.names.lookup x=some .local:=by first|exact .inl rfl|exact .inr rfl|assumption)
  (hs:∀x,foldedSetIterable iter X.env x=pure x:=by intro _;rfl):PS X (.Assign [.Name x pos'] (.ListComp elt [⟨tg,iter,ifs,0⟩] scope pos) spos) (GC (wF wi js g tt te) (oX i)):=by
 intro pins s σ H D I h;have ok:=tX hok;obtain⟨cl,Uu,hcl1,hcl2⟩:=qC (qD ok I.ok);rw[exec_Assign_Name_used _ _ _ _ hsw];refine wpAny_bind (wpAny_standAt (wpAny_bind ?_));show wpAny _ X.A (do let _ <-comprehension (.ListComp elt [⟨tg,iter,ifs,0⟩] scope pos) scope X.env _ (newList []) false (eval iter X.env) (some (assign (.Name x pos') X.env))) _ _ s;refine wpAny_bind (wpAny_mono (wpAny_comprehension_free (use:=some (assign (.Name x pos') X.env)) (Q:=λ_ s'=>SP X pins D .next s') rfl hs Uu ok.kind ok.names
  (cA (hi pins s σ H _ I h) λxv s1 h1=>cA h1 λitv s2 h2=>?_)) (λ_ s' hq=>wpAny_pure (wpAny_pure hq)) λ_ _ e=>e)
 obtain⟨it,fp,tn,J,H2,rfl,I2,T,st2,f2,rd⟩:=h2;refine wG (RR:=λacc C=>compPost (model X.prog X.w) X.A X.xe (some (assign (.Name x pos') X.env)) (λ_ s'=>SP X pins D .next s') acc C) (Q:=λx H1=>oX i x σ H1 D.nx) ok hc I2 T st2 f2 hcl1 hcl2 hg ht he rd ?_;intro E C s' H' m hC J' fC hm q;have Yz:C≠X.env.locals:=Nat.ne_of_gt (lt_of_lt_of_le I2.lt hC);have hCc:∀x c,X.env.cells.lookup x=some c->c≠C:=λx c e z=>by
  obtain⟨v,q'⟩:=I2.cell x c e;exact absurd (lt_of_lt_of_le q'.lt (by rw[z];exact hC)) (lt_irrefl _)
 refine cA (show wpAny _ X.A (assign (.Name x pos') X.env (.ref E)) (λ_ s''=>(∃zY Hu,Inv X pins zY Hu s''/\D.nx zY Hu/\Hu C=none)/\∃m,s''.heap.Ns C m) X.xe s' from ?_) λ_ s'' ⟨⟨zY,Hu,Uv,q'',Uw⟩,m'',LG⟩=>?_
 ·refine wpAny_assign_Name (tK J' hN hx hl (show RelV (.ref E) (.ref E) from rfl) (λs'' Uv ⟨a,hsb,ha⟩=>⟨⟨_,H',Uv,q,fC⟩,m,?_⟩) hf)
  refine hm.sameBut hsb ?_
  rcases ha with z|z
  ·rw[z];exact Yz
  ·exact λw=>hCc _ _ z w.symm
 ·refine⟨m'',LG,λh' hs'=>⟨zY,Hu,?_,q''⟩⟩;refine Uv.turned (t':=s''.toks) (λb o hb e=>hs'.extBut b o hb e) Uw Yz (.inr (le_trans I2.sz hC)) hCc λp hp z=>?_;exact absurd (lt_of_lt_of_le (lt_size (I2.pin p hp).1) (by rw[z];exact hC)) (lt_irrefl _)
end
end L2
end
section
namespace L2
open PySem PySem.Spec PyProof.Rows
theorem Inv.z5{X:Cx}{pins:List (Addr×Obj)}{σ:St}{H:Hp}{s:Shared}{h':Heap}{t':Nat}{ch:List Addr}(I:Inv X pins σ H s)(hf:∀b∈ch,pN X pins H b)
  (k:∀b o,b∉ch->s.heap.get? b=some o->h'.get? b=some o):Inv X pins σ H { s with heap:=h',toks:=t' }:=by
 have OS:∀b u,H b=some u->b∉ch:=λb u e z=>by rw[(hf b z).1]at e;cases e
 refine I.step (g':=s.gens) (d':=s.drawn) (ch:=ch) (λb hb=>?_) (λb o _ _ hc e _=>k b o hc e) (λb o _ _ hc e _=>⟨o.slots,k b o hc e⟩) (λ_ _ _ _ n=>n)
  (λb o hc e=>⟨o,k b o hc e⟩) (λ_ _ e=>e) (λ_ _ _ e=>e) (λb ps e=>⟨#[],by rw[e];simp⟩) (λm hm=>?_) (λb u e=>?_) I.bare
 ·exact⟨(hf b hb).2.2.2.1,(hf b hb).2.1,(hf b hb).2.2.2.2.1,(hf b hb).2.2.2.2.2⟩
 ·obtain⟨o,es,ep,ho,r⟩:=hm;exact⟨o,es,ep,k _ o (λz=>(hf _ z).2.1 rfl) ho,r⟩
 ·refine(I.hok b u e).stay (λc v hc q=>k c v ?_ q) (λ_ q=>q) λ_ _ q=>q
  rcases hc with z|z
  ·rw[z];exact OS b u e
  ·exact OS c _ z
noncomputable def PN(K:PySem.W.Frag)(a:Addr):It :=
 ⟨λi H=>∃xs x,gI K H a xs/\xs[i]?=some x,λi H x H'=>∃p v,H p=none/\x=.ref p/\H'=upd H p (.tup [.int i,v])/\∀xs,gI K H a xs->xs[i]?=some v,λi H=>∃xs,gI K H a xs/\xs.length<=i⟩
theorem BC{P:Program}{w:World}{K:PySem.W.Frag}{es:List Expr}{k:Nat}{pos:Pos}(a e it:Addr)(hne:e≠it) :
  Turn P w K (.Tuple es k pos) (PN K a) [e,it] e (λi h=>(∃old,IsEnum h e it i old)/\h.IsListIter it a i) where
 mem:=by simp
 obj:=λi h st b hb=>by
  obtain⟨⟨old,he⟩,⟨o,e2,c,d⟩⟩:=st
  rcases mem_cons.mp hb with z|z
  ·subst z;exact⟨_,he,λv z=>nomatch z⟩
  ·rw[mem_singleton.mp z];exact⟨o,e2,λv z=>by rw[d]at z;cases z⟩
 keep:=λi h h' st k=>⟨let ⟨old,he⟩:=st.1;⟨old,k e (by simp) _ he⟩,st.2.at λo e=>k it (by simp) o e⟩
 item:=by
  intro X hP hw hK hc i pins s σ H E I hf st hg;subst hP hw hK;obtain⟨xs,x,hq,hx⟩:=hg;obtain⟨its,rv,p,hz⟩:=I.list hq;obtain⟨u,hu,ru⟩:=rv.get hx;obtain⟨⟨old,he⟩,hit⟩:=st;have hei:e<s.heap.objs.size:=lt_size he;have hii:it<s.heap.objs.size:=by obtain⟨_,y,_⟩:=hit;exact lt_size y
  refine wpAny_pyNext_enum_item he hit p.isList (x:=u) (by simpa using hu) hne λh' ho Ux hT hsz hk=>?_;refine⟨_,rfl,?_⟩;refine wpAny_letOwnedTupleGo_enum ho λh2 he2 hs2=>?_;have hT2:h2.get? s.heap.objs.size=some { cls:=.type "tuple",data:=.seq #[.int i s.toks,u] }:=hs2.extBut _ _ (Nat.ne_of_gt hei) hT;have I1:Inv X pins σ H { s with heap:=h2,toks:=s.toks+1 }:=I.z5 (ch:=[e,it]) hf λb o hb q=>by
   have h1:b≠e:=λz=>hb (by simp[z]);have h2:b≠it:=λz=>hb (by simp[z]);exact hs2.extBut b o h1 (hk b o h1 h2 q)
  have hn:H s.heap.objs.size=none:=I.hok.fresh (Nat.le_refl _);have I2:Inv X pins σ (upd H s.heap.objs.size (.tup [.int i,x])) { s with heap:=h2,toks:=s.toks+1 }:=by
   have un:Un X.fs [] H (upd H s.heap.objs.size (.tup [.int i,x])) s.heap s.heap:=Un.laid (λb u q=>q) (Nat.le_refl _) hn;refine⟨I1.ok,I1.os,I1.bare,?_,I1.loc,I1.cell,?_,λy c q=>?_,λp hp=>?_,λb o q=>?_,I1.len⟩
   ·refine⟨I1.base.keep,I1.base.slot,λb o q n hx=>?_,I1.base.there,λb ys q=>?_,λb o ys q=>?_,λb ps q=>?_⟩
    ·have hlt:b<s.heap.objs.size:=lt_of_lt_of_le (lt_size q) I.sz;rw[ao (ne_of_lt hlt)];exact I1.base.free b o q n hx
    ·rw[ao (aG (I1.base.tups b ys q) hn)];exact I1.base.tups b ys q
    ·rw[ao (aG (I1.base.frzs b o ys q) hn)];exact I1.base.frzs b o ys q
    ·obtain⟨more,z⟩:=I1.base.sP b ps q;exact⟨more,by rw[ao (aG z hn)];exact z⟩
   ·rw[ao (ne_of_lt I.lt)];exact I1.free
   ·obtain⟨v,z⟩:=I.cell y c q;rw[ao (ne_of_lt z.lt)];exact I1.iN y c q
   ·obtain⟨q1,q2,q3⟩:=I1.pin p hp;refine⟨q1,?_,q3⟩;rw[ao (ne_of_lt (lt_size (I.pin p hp).1))];exact q2
   ·by_cases hb:b=s.heap.objs.size
    ·subst hb;rw[aO]at q;cases q;exact⟨by show 2<=sizeLine;decide,[.int i s.toks,u],.cons ⟨_,rfl⟩ (.cons ru .nil),_,hT2,rfl,_,rfl⟩
    ·rw[ao hb]at q;exact(I1.hok b o q).stay (λc v _ z=>z) (λc z=>by rw[ao (aG z hn)];exact z) λc ys z=>by rw[ao (aG z hn)];exact z
  refine⟨.ref s.heap.objs.size,_,I2,rfl,⟨s.heap.objs.size,x,hn,rfl,rfl,λys hy=>by rw[I.vZ hy hq];exact hx⟩,⟨⟨_,by simpa using he2⟩,?_⟩,λb hb=>?_⟩
  ·exact Ux.at λo y=>(hs2.2 it hne.symm).trans y
  ·have hlt:b<s.heap.objs.size:=by
    rcases mem_cons.mp hb with z|z
    ·rw[z];exact hei
    ·rw[mem_singleton.mp z];exact hii
   rw[ao (ne_of_lt hlt)];exact(hf b hb).1
 done:=by intro X hP hw hK hc i pins s σ H E I hf st hg;subst hP hw hK;obtain⟨xs,hq,hx⟩:=hg;obtain⟨its,rv,p,hz⟩:=I.list hq;obtain⟨⟨old,he⟩,hit⟩:=st;have hl:=rv.length;exact wpAny_pyNext_enum_end (I.ok.hd hc) he hit p.isList (by simp;omega) λh' eb=>⟨rfl,I.z5 (t':=s.toks) (ch:=[e,it]) hf λb o hb q=>eb b o (λz=>hb (by simp[z])) q⟩
 self:=λ_ _ _ _ _ st h=>let ⟨_,he⟩:=st.1;wpAny_pyIter_enum he h
noncomputable def PR(K:PySem.W.Frag)(ta:TA):TI:=λσ H R=>ta σ H λvs H1=>∃a,vs=[.ref a]/\(∃xs,gI K H1 a xs)/\R (PN K a) H1
theorem Hw{k:Nat}(hg:Gl X "enumerate")(hm:X.mg "enumerate" = none)(ha:PA X [a] ta)(hs:starEach [a] X.env=[(false,eval a X.env)]:=by rfl) :
  PI X (.Tuple es k tpos) (.Call (.Name "enumerate" p) [a] [] pos) (PR X.K ta):=by
 intro pins s σ H R I h;refine Call_ (iX I hg hm boot_enumerate (PyProof.Rows.callWith_type1 (cA (ha pos pins s σ H _ I h) λus s1 aI=>?_) hs rfl));obtain⟨vs,H1,I1,r1,q1⟩:=aI;obtain⟨l,e,⟨xs,hq⟩,q⟩:=q1;subst e;cases r1 with
 |cons r rr=>
  cases rr;cases r;obtain⟨its,rv,pl,hz⟩:=I1.list hq;refine call_enumerate_list pl.isList λh' he hit hsz hk=>?_;have I2:Inv X pins σ H1 { s1 with heap:=h' }:=I1.kept (t':=s1.toks) hk;refine wpAny_pyIter_enum (s:={ s1 with heap:=h' }) he ?_;refine⟨_,[s1.heap.objs.size+1,s1.heap.objs.size],_,_,H1,rfl,I2,BC l _ _ (Nat.ne_of_gt (lt_succ_self _)),⟨⟨_,by simpa using he⟩,hit⟩,λb hb=>?_,q⟩;have hb':s1.heap.objs.size<=b:=by
   rcases mem_cons.mp hb with z|z
   ·rw[z];exact le_succ _
   ·rw[mem_singleton.mp z];exact Nat.le_refl _
  exact I1.CM hb' (I1.hok.fresh hb')
end L2
end
section
namespace L2
open PySem PySem.W PyProof.Rows
namespace pP
section
variable {O:KeyOrd} {key:Nat->O.α} {N:Nat} {cmp:Nat->Nat->(Bool->Shared->Prop)->Shared->Prop} {s:Shared}
noncomputable def K(O:KeyOrd)(key:Nat->O.α)(p:Array Nat)(i:Nat):O.α:=key (p.getD i 0)
noncomputable def Up(O:KeyOrd)(key:Nat->O.α)(p:Array Nat)(k:Nat):Prop:=∀i j,i<=j->j<k->O.kle (K O key p i) (K O key p j)
noncomputable def Down(O:KeyOrd)(key:Nat->O.α)(p:Array Nat)(k:Nat):Prop:=∀i j,i<=j->j<k->O.kle (K O key p j) (K O key p i)
noncomputable def Hx(O:KeyOrd)(key:Nat->O.α)(N:Nat)(cmp:Nat->Nat->(Bool->Shared->Prop)->Shared->Prop)(s:Shared):Prop :=
 ∀i j (C:Bool->Shared->Prop),i<N->j<N->C (O.blt (key i) (key j)) s->cmp i j C s
noncomputable def Ent(N:Nat)(p:Array Nat):Prop:=p.size=N/\0<N/\∀x∈p.toList,x<N
theorem Ent.at{p:Array Nat}(h:Ent N p)(i:Nat):p.getD i 0<N:=by
 by_cases hi:i<p.size
 ·have e:p.getD i 0=p[i]:=by simp[Array.getD,hi]
  rw[e];exact h.2.2 _ (by simp)
 ·have e:p.getD i 0=0:=by simp[Array.getD,hi]
  rw[e];exact h.2.1
theorem Ent.perm{p q:Array Nat}(h:Ent N p)(e:q.Perm p):Ent N q :=
 ⟨e.size_eq.trans h.1,h.2.1,λx hx=>h.2.2 x ((Array.perm_iff_toList_perm.mp e).mem_iff.mp hx)⟩
theorem K_congr{p q:Array Nat}{i j:Nat}(h:p[i]?=q[j]?):K O key p i=K O key q j:=by
 unfold K;rw[Array.getD_eq_getD_getElem?,Array.getD_eq_getD_getElem?,h]
theorem K_bubble{p:Array Nat}{src d:Nat}(hs:src<p.size)(hd:d<=src)(k:Nat) :
  K O key (bubble p src d) k=if k=src-d then K O key p src else if src-d<k/\k<=src then K O key p (k-1) else K O key p k:=by
 have e:=getElem?_bubble hs d hd k
 by_cases h1:k=src-d
 ·rw[if_pos h1]at e |-;exact K_congr e
 ·rw[if_neg h1]at e |-
  by_cases h2:src-d<k/\k<=src
  ·rw[if_pos h2]at e |-;exact K_congr e
  ·rw[if_neg h2]at e |-;exact K_congr e
theorem Dm{p:Array Nat}{i j:Nat}(hj:j<=p.size)(k:Nat):K O key (kas_rev p i j) k=if i<=k/\k<j then K O key p (i+j-1-k) else K O key p k:=by
 have e:=getElem?_mirror_all (i:=i) hj k
 by_cases h1:i<=k/\k<j
 ·rw[if_pos h1]at e |-;exact K_congr e
 ·rw[if_neg h1]at e |-;exact K_congr e
theorem qE{p:Array Nat}{i j:Nat}(hj:j<=p.size)(h:∀k,i<=k->k<j->K O key p k=K O key p (j-1))(k:Nat):K O key (kas_rev p i j) k=K O key p k:=by
 rw[Dm hj]
 split
 ·rw[h _ (by omega) (by omega),h k (by omega) (by omega)]
 ·rfl
theorem wH{p:Array Nat}{m:Nat}(h:∀t,1<=t->t<m->O.kle (K O key p (t-1)) (K O key p t)):Up O key p m:=by
 intro i j hij hj
 induction j with
 |zero=>
  have:i=0:=by omega
  subst this;exact KeyOrd.kle_refl _
 |succ j ih=>
  by_cases e:i=j+1
  ·subst e;exact KeyOrd.kle_refl _
  ·exact KeyOrd.kle_trans (ih (by omega) (by omega)) (h (j+1) (by omega) hj)
theorem LH(hA:Hx O key N cmp s){p:Array Nat}(he:Ent N p):∀(f n:Nat) {Q:Nat->Shared->Prop},1<=n ->
  (∀m,n<=m->m<=n+f->(∀t,n<=t->t<m->O.kle (K O key p (t-1)) (K O key p t))->(m<n+f->O.klt (K O key p m) (K O key p (m-1)))->Q m s)->(kas_asc p f n).kasWp cmp Q s
 |0,n,Q,hn,h=>h n (Nat.le_refl _) (Nat.le_refl _) (λt h1 h2=>by omega) λq=>by omega
 | f+1,n,Q,hn,h=>by
  show cmp _ _ _ s;refine hA _ _ _ (he.at _) (he.at _) ?_;cases hb:O.blt (key (p.getD n 0)) (key (p.getD (n-1) 0)) with
  |true=>exact h n (Nat.le_refl _) (by omega) (λt h1 h2=>by omega) λ_=>hb
  |false=>
   show (kas_asc p f (n+1)).kasWp cmp Q s;refine LH hA he f (n+1) (by omega) λm h1 h2 h3 h4=>h m (by omega) (by omega) (λt t1 t2=>?_) λq=>h4 (by omega)
   by_cases e:t=n
   ·subst e;exact hb
   ·exact h3 t (by omega) t2
theorem z6(hA:Hx O key N cmp s):∀(f:Nat) (p:Array Nat) (n q:Nat) {Q:Array Nat×Nat×Nat->Shared->Prop},Ent N p->1<=n->n+f<=N->q+1<=n->Down O key p n->(∀i,n-(q+1)<=i->i<n->K O key p i=K O key p (n-1)) ->
  (∀p' n' q',p'.Perm p->Ent N p'->1<=n'->n<=n'->n'<=n+f->q'+1<=n'->Down O key p' n'->(∀i,n'-(q'+1)<=i->i<n'->K O key p' i=K O key p' (n'-1))->Q (p',n',q') s)->(kas_desc f p n q).kasWp cmp Q s
 |0,p,n,q,Q,he,hn,hN,hq,hd,hl,h=>h p n q (Array.Perm.refl _) he hn (Nat.le_refl _) (Nat.le_refl _) hq hd hl
 | f+1,p,n,q,Q,he,hn,hN,hq,hd,hl,h=>by
  show cmp _ _ _ s;refine hA _ _ _ (he.at _) (he.at _) ?_;cases hb:O.blt (key (p.getD n 0)) (key (p.getD (n-1) 0)) with
  |true=>
   have hlt:O.klt (K O key p n) (K O key p (n-1)):=hb;have hd1:Down O key p (n+1):=λi j hij hj=>by
    by_cases e:j=n
    ·subst e
     by_cases e2:i=j
     ·subst e2;exact KeyOrd.kle_refl _
     ·exact KeyOrd.kle_trans (KeyOrd.kle_of_klt hlt) (hd i (j-1) (by omega) (by omega))
    ·exact hd i j hij (by omega)
   show (if q>0 then kas_desc f (kas_rev p (n-(q+1)) n) (n+1) 0 else kas_desc f p (n+1) 0).kasWp cmp Q s
   by_cases YA:q>0
   ·rw[if_pos YA]
    have ep:(kas_rev p (n-(q+1)) n).Perm p:=mirror_perm _ _ _ _;have eK:∀k,K O key (kas_rev p (n-(q+1)) n) k=K O key p k:=λk=>qE (by rw[he.1];omega) hl k;refine z6 hA f _ (n+1) 0 (he.perm ep) (by omega) (by omega) (by omega) (λi j hij hj=>by rw[eK,eK];exact hd1 i j hij hj) (λi h1 h2=>?_) λp' n' q' g1 g2 g3 g4 g5 g6 g7 g8=>h p' n' q' (g1.trans ep) g2 g3 (by omega) (by omega) g6 g7 g8;have:i=n:=by omega
    subst this;rfl
   ·rw[if_neg YA]
    refine z6 hA f p (n+1) 0 he (by omega) (by omega) (by omega) hd1 (λi h1 h2=>?_) λp' n' q' g1 g2 g3 g4 g5 g6 g7 g8=>h p' n' q' g1 g2 g3 (by omega) (by omega) g6 g7 g8;have:i=n:=by omega
    subst this;rfl
  |false=>
   show cmp _ _ _ s;refine hA _ _ _ (he.at _) (he.at _) ?_;cases hc:O.blt (key (p.getD (n-1) 0)) (key (p.getD n 0)) with
   |true=>exact h p n q (Array.Perm.refl _) he hn (Nat.le_refl _) (by omega) hq hd hl
   |false=>
    have heq:K O key p n=K O key p (n-1):=O.total _ _ hb hc;show (kas_desc f p (n+1) (q+1)).kasWp cmp Q s;refine z6 hA f p (n+1) (q+1) he (by omega) (by omega) (by omega) (λi j hij hj=>?_) (λi h1 h2=>?_) λp' n' q' g1 g2 g3 g4 g5 g6 g7 g8=>h p' n' q' g1 g2 g3 (by omega) (by omega) g6 g7 g8
    ·by_cases e:j=n
     ·subst e
      by_cases e2:i=j
      ·subst e2;exact KeyOrd.kle_refl _
      ·rw[heq];exact hd i (j-1) (by omega) (by omega)
     ·exact hd i j hij (by omega)
    ·show K O key p i=K O key p (n+1-1)
     rw[Nat.add_sub_cancel]
     by_cases e:i=n
     ·subst e;rfl
     ·rw[heq];exact hl i (by omega) (by omega)
theorem Dp(hA:Hx O key N cmp s){p:Array Nat}{n nrem:Nat}(he:Ent N p)(h1:1<=n)(hn:n<=nrem)(hr:nrem<=N)(hd:Down O key p n)
  (h:∀m p',p'.Perm p->Ent N p'->1<=m->m<=nrem->Up O key p' m->Q (m,p') s):(kas_tail3 n nrem p).kasWp cmp Q s:=by
 unfold kas_tail3;rw[KasT.kasWp_bind];have ep:(kas_rev p 0 n).Perm p:=mirror_perm _ _ _ _;have hz:n<=p.size:=by rw[he.1];omega
 refine LH hA (he.perm ep) _ _ h1 λm a1 a2 a3 _=>h m _ ep (he.perm ep) (by omega) (by omega) (wH λt t1 t2=>?_)
 by_cases e:t<n
 ·rw[Dm hz,Dm hz,if_pos (by omega),if_pos (by omega)];exact hd _ _ (by omega) (by omega)
 ·exact a3 t (by omega) t2
theorem tY(hA:Hx O key N cmp s){p:Array Nat}{n nrem:Nat}(he:Ent N p)(hn:n+1<=nrem)(hr:nrem<=N)(hd:Down O key p (n+1))
  (h:∀m p',p'.Perm p->Ent N p'->1<=m->m<=nrem->Up O key p' m->Q (m,p') s):(kas_descPart n nrem p).kasWp cmp Q s:=by
 unfold kas_descPart;rw[KasT.kasWp_bind];have PU:∀i,n+1-(0+1)<=i->i<n+1->K O key p i=K O key p (n+1-1):=λi h1 h2=>by
  have e:i=n:=by omega
  subst e;rfl
 refine z6 hA (nrem-(n+1)) p (n+1) 0 he (by omega) (by omega) (by omega) hd PU λp' n' q' g1 g2 g3 g4 g5 g6 g7 g8=>?_;show (if q'>0 then kas_tail3 n' nrem (kas_rev p' (n'-(q'+1)) n') else kas_tail3 n' nrem p').kasWp cmp Q s
 by_cases hq:q'>0
 ·rw[if_pos hq];have ep:(kas_rev p' (n'-(q'+1)) n').Perm p':=mirror_perm _ _ _ _;have eK:∀k,K O key (kas_rev p' (n'-(q'+1)) n') k=K O key p' k:=λk=>qE (by rw[g2.1];omega) g8 k;exact Dp hA (g2.perm ep) g3 (by omega) hr (λi j hij hj=>by rw[eK,eK];exact g7 i j hij hj) λm p'' a1 a2 a3 a4 a5=>h m p'' ((a1.trans ep).trans g1) a2 a3 a4 a5
 ·rw[if_neg hq];exact Dp hA g2 g3 (by omega) hr g7 λm p'' a1 a2 a3 a4 a5=>h m p'' (a1.trans g1) a2 a3 a4 a5
theorem LI(hA:Hx O key N cmp s){p:Array Nat}{nrem:Nat}(he:Ent N p)(h1:1<=nrem)(hr:nrem<=N)
  (h:∀m p',p'.Perm p->Ent N p'->1<=m->m<=nrem->Up O key p' m->Q (m,p') s):(kas_count nrem p).kasWp cmp Q s:=by
 unfold kas_count;rw[KasT.kasWp_bind];refine LH hA he _ _ (Nat.le_refl _) λn a1 a2 a3 a4=>?_;have hup:Up O key p n:=wH λt t1 t2=>a3 t t1 t2
 by_cases e1:(n==nrem)=true
 ·rw[if_pos e1];exact h n p (Array.Perm.refl _) he a1 (by omega) hup
 ·rw[if_neg e1]
  have YB:n≠nrem:=λz=>e1 (by simp[z]);have hlt:O.klt (K O key p n) (K O key p (n-1)):=a4 (by omega)
  by_cases e2:n>1
  ·rw[if_pos e2]
   show cmp _ _ _ s;refine hA _ _ _ (he.at _) (he.at _) ?_;cases hc:O.blt (key (p.getD 0 0)) (key (p.getD (n-1) 0)) with
   |true=>exact h n p (Array.Perm.refl _) he a1 (by omega) hup
   |false=>
    have hle:O.kle (K O key p (n-1)) (K O key p 0):=hc;have ep:(kas_rev p 0 n).Perm p:=mirror_perm _ _ _ _;have hall:∀k,0<=k->k<n->K O key p k=K O key p (n-1):=λk _ hk=>
     KeyOrd.kle_antisymm (hup k (n-1) (by omega) (by omega)) (KeyOrd.kle_trans hle (hup 0 k (by omega) hk))
    have eK:∀k,K O key (kas_rev p 0 n) k=K O key p k:=λk=>qE (by rw[he.1];omega) hall k;show (kas_descPart n nrem (kas_rev p 0 n)).kasWp cmp Q s;refine tY hA (he.perm ep) (by omega) hr (λi j hij hj=>?_) λm p' b1 b2 b3 b4 b5=>h m p' (b1.trans ep) b2 b3 b4 b5;rw[eK,eK]
    by_cases ej:j=n
    ·subst ej
     by_cases ei:i=j
     ·subst ei;exact KeyOrd.kle_refl _
     ·rw[hall i (by omega) (by omega)];exact KeyOrd.kle_of_klt hlt
    ·rw[hall i (by omega) (by omega),hall j (by omega) (by omega)];exact KeyOrd.kle_refl _
  ·rw[if_neg e2]
   have en:n=1:=by omega
   subst en;refine tY hA he (by omega) hr (λi j hij hj=>?_) λm p' b1 b2 b3 b4 b5=>h m p' b1 b2 b3 b4 b5
   by_cases ei:i=j
   ·subst ei;exact KeyOrd.kle_refl _
   ·have:i=0/\j=1:=by omega
    obtain⟨rfl,rfl⟩:=this;exact KeyOrd.kle_of_klt hlt
theorem yU(hA:Hx O key N cmp s){p:Array Nat}{k:Nat}(he:Ent N p)(hs:Up O key p k):∀(f l r:Nat) {Q:Nat->Shared->Prop},l<=r->r<=k->r-l<=f ->
  (∀i,i<l->O.kle (K O key p i) (K O key p k))->(∀i,r<=i->i<k->O.klt (K O key p k) (K O key p i)) ->
  (∀l',l'<=k->(∀i,i<l'->O.kle (K O key p i) (K O key p k))->(∀i,l'<=i->i<k->O.klt (K O key p k) (K O key p i))->Q l' s)->(kas_place p k f l r).kasWp cmp Q s
 | 0,l,r,Q,hlr,hrk,hf,hlo,hhi,h=>by
  have:l=r:=by omega
  subst this;exact h l hrk hlo hhi
 | f+1,l,r,Q,hlr,hrk,hf,hlo,hhi,h=>by
  show (if l≥r then KasT.ret l else _).kasWp cmp Q s
  by_cases hge:l≥r
  ·rw[if_pos hge]
   have:l=r:=by omega
   subst this;exact h l hrk hlo hhi
  ·rw[if_neg hge]
   show cmp _ _ _ s;refine hA _ _ _ (he.at _) (he.at _) ?_;cases hb:O.blt (key (p.getD k 0)) (key (p.getD ((l+r)/2) 0)) with
   |true=>show (kas_place p k f l ((l+r)/2)).kasWp cmp Q s;exact yU hA he hs f l ((l+r)/2) (by omega) (by omega) (by omega) hlo (λi h1 h2=>KeyOrd.klt_of_klt_of_kle hb (hs _ _ h1 h2)) h
   |false=>show (kas_place p k f ((l+r)/2+1) r).kasWp cmp Q s;exact yU hA he hs f ((l+r)/2+1) r (by omega) (by omega) (by omega) (λi h1=>KeyOrd.kle_trans (hs i ((l+r)/2) (by omega) (by omega)) hb) hhi h
theorem PX(hA:Hx O key N cmp s):∀(f:Nat) (p:Array Nat) (k:Nat) {Q:Array Nat->Shared->Prop},Ent N p->k+f<=N->Up O key p k->(∀p',p'.Perm p->Up O key p' (k+f)->Q p' s)->(kas_bin f p k).kasWp cmp Q s
 |0,p,k,Q,he,hk,hs,h=>h p (Array.Perm.refl _) hs
 | f+1,p,k,Q,he,hk,hs,h=>by
  show ((kas_place p k k 0 k).bind λl=>kas_bin f (bubble p k (k-l)) (k+1)).kasWp cmp Q s;rw[KasT.kasWp_bind];refine yU hA he hs k 0 k (by omega) (by omega) (by omega) (λi hi=>by omega) (λi h1 h2=>by omega) λl hl hlo hhi=>?_;have ep:(bubble p k (k-l)).Perm p:=bubble_perm _ _ _;have hks:k<p.size:=by rw[he.1];omega
  refine PX hA f _ (k+1) (he.perm ep) (by omega) (λi j hij hj=>?_) λp' a1 a2=>h p' (a1.trans ep) (by rwa [show k+(f+1)=k+1+f by omega]);rw[K_bubble hks (by omega),K_bubble hks (by omega),show k-(k-l)=l by omega]
  repeat' split
  all_goals first
   |(exfalso;omega)
   |exact KeyOrd.kle_refl _
   |exact hlo _ (by omega)
   |exact KeyOrd.kle_of_klt (hhi _ (by omega) (by omega))
   |exact hs _ _ (by omega) (by omega)
theorem PY(hA:Hx O key N cmp s)(h1:1<=N)(h:∀p,p.Perm (toArray (List.range N))->Up O key p N->Q p s):(kas_sort N).kasWp cmp Q s:=by
 unfold kas_sort;rw[KasT.kasWp_bind];have he:Ent N (toArray (List.range N)):=⟨by simp,h1,λx hx=>by simpa using hx⟩;refine LI hA he h1 (Nat.le_refl _) λm p a1 a2 a3 a4 a5=>?_;show (if m<N then kas_bin (N-max m 1) p (max m 1) else KasT.ret p).kasWp cmp Q s;have em:max m 1=m:=by omega
 by_cases hlt:m<N
 ·rw[if_pos hlt,em];exact PX hA _ p m a2 (by omega) a5 λp' b1 b2=>h p' (b1.trans a1) (by rwa [show m+(N-m)=N by omega]at b2)
 ·rw[if_neg hlt]
  have:m=N:=by omega
  subst this;exact h p a1 a5
end
end pP
end L2
end
section
namespace L2
open PySem PySem.W PyProof.Rows
namespace pP
theorem cV{α:Type}(l:List α)(d:α):(List.range l.length).map (λi=>l.getD i d)=l:=by
 refine ext_getElem (by simp) λi h1 h2=>?_;simp[h2]
section
variable {prog:Program} {w:World} {A:Around} {E:Value->Shared->Prop} {s:Shared}
noncomputable def tZ(prog:Program)(w:World)(A:Around)(O:KeyOrd)(key:Nat->O.α)(vs:List Value)(s6:Shared):Prop :=
 wpAny (model prog w) A (keyKind' vs.toArray) (λκ s'=>s'=s6/\Hx O key vs.length (kas_ask prog w A κ vs) s6) (λ_ _=>False) s6
structure Dq (O:KeyOrd) (key:Nat->O.α) (n:Nat) (p:List Nat):Prop where
 perm:p.Perm (List.range n)
 up:(p.map key).Pairwise O.kle
theorem Hy{n:Nat}{p:Array Nat}(h1:p.Perm (toArray (List.range n)))(h2:Up O key p n):Dq O key n p.toList:=by
 have hp:p.toList.Perm (List.range n):=by simpa using Array.perm_iff_toList_perm.mp h1
 refine⟨hp,pairwise_iff_getElem.mpr λi j hi hj hij=>?_⟩;have hz:p.toList.length=n:=by rw[hp.length_eq,length_range]
 rw[length_map]at hi hj;have q:=h2 i j (Nat.le_of_lt hij) (by omega);have ei:p.getD i 0=p.toList[i]:=by simp at hi;simp[Array.getD,hi]
 have ej:p.getD j 0=p.toList[j]:=by simp at hj;simp[Array.getD,hj]
 unfold K at q;rw[ei,ej]at q;rw[getElem_map,getElem_map];exact q
theorem Dr{n:Nat}(ho:s.heap.get? a=some (seqObj "list" vs.toArray n))(h64:vs.length<64)
  (hk:2<=vs.length->∀h6:Heap,(∀b o,b≠a->s.heap.get? b=some o->h6.get? b=some o)->tZ prog w A O key vs { s with heap:=h6 })
  (h:∀p,Dq O key vs.length p->P (.done (.ret .none)) { s with heap:=sortedHeap s.heap a vs (p.map λi=>vs.getD i Value.none).toArray }) :
  wpAny (model prog w) A (Builtin.«list.sort» ⟨[.ref a],[]⟩) P E s:=by
 have alt:a<s.heap.objs.size:=lt_size ho;have big:vs.length<=sizeLine:=by rw[sizeLine_eq];omega
 rw[list_sort_plain];apply wpAny_bind;apply listItems_at ho rfl;apply wpAny_bind;refine listUpdate_at ho rfl ?_ (by rw[size_toArray];exact big) (zero_le _);have q1:=get?_update_seq ho (λ_=>(#[]:Array Value));apply wpAny_bind;apply seqEpoch_at q1 rfl;apply wpAny_bind;refine wpAny_newTuple ?_ (by show vs.length<=sizeLine;exact big);apply wpAny_bind;refine wpAny_newList ?_ (zero_le _);apply wpAny_holding;generalize hN:((s.heap.update a (Obj.mapSeq λ_=>(#[]:Array Value))).push (seqObj "tuple" vs.toArray 0)).push (seqObj "list" #[] 0)=h6;have PZ:∀b o,b≠a->s.heap.get? b=some o->h6.get? b=some o:=λb o hb e=>by
  rw[<-hN];refine get?_push_of_some _ (get?_push_of_some _ ?_);rw[Heap.get?_update_ne _ _ _ _ hb];exact e
 have q6:h6.get? a=some (seqObj "list" #[] (if (#[]:Array Value).size==vs.toArray.size then n else n+1)):=by rw[<-hN];exact get?_push_of_some _ (get?_push_of_some _ q1)
 have eS:∀out,h6.update a (Obj.mapSeq λ_=>out)=sortedHeap s.heap a vs out:=λout=>by rw[<-hN];rfl
 show wpAny (model prog w) A _ P E { s with heap:=h6 };dsimp only
 by_cases h2:vs.toArray.size<2
 ·rw[if_pos h2,if_pos h2]
  apply wpAny_bind;apply wpAny_pure;rw[StateT.run_pure];apply wpAny_bind;apply wpAny_pure;dsimp only;have eo:(arrOf (SortSt.mk' general' (vs.toArray.zip vs.toArray) #[] 7 none)).map (·.2)=vs.toArray:=by show (vs.toArray.zip vs.toArray).map (·.2)=vs.toArray;apply Array.toList_inj.mp;simp[List.map_snd_zip]
  rw[eo];apply wpAny_bind;apply seqEpoch_at q6 rfl;apply wpAny_bind;refine listUpdate_at q6 rfl ?_ (zero_le _) (by show vs.toArray.size<=_;rw[size_toArray];omega);have hb:((if (#[]:Array Value).size==vs.toArray.size then n else n+1) != (if (#[]:Array Value).size==vs.toArray.size then n else n+1))=false:=by simp
  rw[eS];simp only[hb,false_eq_true,if_false];apply wpAny_pure;have g:=h (List.range vs.length) ⟨List.Perm.refl _,?_⟩
  ·rw[cV]at g;exact g
  ·rw[size_toArray]at h2;refine pairwise_iff_getElem.mpr λi j hi hj hij=>?_;simp at hi hj;omega
 ·rw[if_neg h2,if_neg h2]
  rw[size_toArray]at h2;have ask:=hk (by omega) h6 PZ;apply wpAny_bind;refine wpAny_mono ask (λκ s0 hκ=>?_) λ_ _ x=>x.elim;obtain⟨rfl,ans⟩:=hκ;apply wpAny_bind;refine wpAny_mono (kat_run (Q:=λst' s'=>s'={ s with heap:=h6 }/\∃p:Array Nat,Dq O key vs.length p.toList/\p.size=vs.length/\(arrOf st').map (·.2)=(p.toList.map λi=>vs.getD i Value.none).toArray/\failedOf st'=none)
   (G:=λp s'=>s'={ s with heap:=h6 }/\Dq O key vs.length p.toList) rfl (by omega) h64 (λp st' s' a1 a2 a3 a4=>⟨a4.1,p,a4.2,a1,kat_snds rfl a2,a3⟩)
   (PY ans (by omega) λp b1 b2=>⟨rfl,Hy b1 b2⟩)) ?_ λ_ _ x=>x
  rintro⟨⟨⟩,st'⟩ s' ⟨rfl,p,op,pz,er,ef⟩;dsimp only;rw[er];apply wpAny_bind;apply seqEpoch_at q6 rfl;apply wpAny_bind;refine listUpdate_at q6 rfl ?_ (zero_le _) (by show (toArray _).size<=_;rw[size_toArray,length_map,length_toList,pz];omega);have hb:((if (#[]:Array Value).size==vs.toArray.size then n else n+1) != (if (#[]:Array Value).size==vs.toArray.size then n else n+1))=false:=by simp
  rw[eS,ef];simp only[hb,false_eq_true,if_false];exact wpAny_pure (h p.toList op)
theorem ig
  (h:wpAny (model prog w) A.in1 (collect x) (λvs s1=>vs.length<64/\∃key:Nat->O.α,(2<=vs.length->∀h6:Heap,(∀b o,s1.heap.get? b=some o->h6.get? b=some o)->tZ prog w A.in1.in1 O key vs { s1 with heap:=h6 }) /\
   ∀p h',Dq O key vs.length p->(∀b o,s1.heap.get? b=some o->h'.get? b=some o)->(∃e,h'.get? s1.heap.objs.size=some (seqObj "list" (p.map λi=>vs.getD i Value.none).toArray e))->Q (.ref s1.heap.objs.size) { s1 with heap:=h' }) E s) :
  wpAny (model prog w) A (call (.builtin "sorted") [x]) Q E s:=by
 refine Calls.call_function_entry kind_sorted plain_sorted entry_sorted (args_sorted1 _) ?_;unfold Builtin.«sorted»;refine wpAny_bind (m:=checkCount "sorted" 1 1 _) (wpAny_pure ?_);apply wpAny_bind;refine wpAny_mono h (λvs s1 ⟨h64,key,hk,hq⟩=>?_) λ_ _ z=>z;have big:vs.length<=sizeLine:=by rw[sizeLine_eq];omega
 apply wpAny_bind;refine wpAny_newList ?_ big;have q:(s1.heap.push (seqObj "list" vs.toArray 0)).get? s1.heap.objs.size=some (seqObj "list" vs.toArray 0):=get?_push_size _ rfl;apply wpAny_bind;apply wpAny_holding;refine wpAny_call_entry (s:={ s1 with heap:=s1.heap.push (seqObj "list" vs.toArray 0) }) slot_list_sort ⟨_,q,rfl⟩ entry_list_sort ?_ (args_list_sort _);refine Dr (key:=key) (s:={ s1 with heap:=s1.heap.push (seqObj "list" vs.toArray 0) }) q h64 (λh2 h6 k6=>?_) λp op=>⟨_,rfl,wpAny_pure ⟨_,rfl,?_⟩⟩
 ·exact hk h2 h6 λb o e=>k6 b o (ne_of_lt (lt_size e)) (get?_push_of_some _ e)
 ·refine hq p _ op (λb o e=>?_) (sortedHeap_at q);rw[sortedHeap_old (ne_of_lt (lt_size e)) (by rw[size_push'];exact lt_succ_of_lt (lt_size e))];exact get?_push_of_some _ e
end
noncomputable def qF:KeyOrd where
 α:=Int
 blt:=λa b=>decide (a<b)
 irrefl:=λa=>by simp
 trans:=λa b c h1 h2=>by simp at *;omega
 negTrans:=λa b c h=>by simp at *;omega
 total:=λa b h1 h2=>by simp at *;omega
theorem qG{s6:Shared}{ns:List Int}(hI:IntsAre vs ns)(h2:2<=vs.length):tZ prog w A qF (λi=>ns.getD i 0) vs s6:=by
 have at_:∀i,i<vs.length->∃t,vs.getD i Value.none=.int (ns.getD i 0) t:=by
  intro i hi
  induction hI generalizing i with
  |nil=>simp at hi
  |cons z t r ih=>
   cases i with
   |zero=>exact⟨t,by simp⟩
   |succ i=>
    by_cases hr:2<=1
    ·omega
    ·simp only[length_cons]at hi
     have aux:∀{vs:List Value} {ns:List Int},IntsAre vs ns->∀i,i<vs.length->∃t,vs.getD i Value.none=.int (ns.getD i 0) t:=by
      intro vs ns q
      induction q with
      |nil=>intro i hi;simp at hi
      |cons z t r ih=>
       intro i hi;cases i with
       |zero=>exact⟨t,by simp⟩
       |succ i=>simp only[length_cons]at hi;obtain⟨u,e⟩:=ih i (by omega);exact⟨u,by simpa using e⟩
     obtain⟨u,e⟩:=aux r i (by omega);exact⟨u,by simpa using e⟩
 obtain⟨v₁,v₂,rest,rfl⟩:∃v₁ v₂ rest,vs=v₁::v₂::rest:=by
  match vs,h2 with
  |v₁::v₂::rest,_=>exact⟨v₁,v₂,rest,rfl⟩
 unfold tZ;rw[keyKind_ints hI];refine wpAny_pure ⟨rfl,λi j C hi hj hc=>?_⟩;obtain⟨t,e1⟩:=at_ i hi;obtain⟨u,e2⟩:=at_ j hj;unfold kas_ask;rw[e1,e2,keyLt'_oneType];exact oneLt_int hc
theorem jN:∀a,HT.lexLt a a=false
 |[]=>rfl
 |x::xs=>by rw[HT.fV,if_pos rfl];exact jN xs
theorem iP:∀a b,HT.lexLt a b=false->HT.lexLt b a=false->a=b
 |[],[],_,_=>rfl
 |[],_::_,h,_=>by rw[HT.ic]at h;cases h
 |_::_,[],_,h=>by rw[HT.ic]at h;cases h
 | x::xs,y::ys,h1,h2=>by
  rw[HT.fV]at h1 h2
  by_cases e:x=y
  ·subst e;rw[if_pos rfl]at h1 h2;rw[iP xs ys h1 h2]
  ·rw[if_neg e]at h1;rw[if_neg (λz=>e z.symm)]at h2;simp at h1 h2;omega
theorem iQ:∀a b c,HT.lexLt a b=true->HT.lexLt b c=true->HT.lexLt a c=true
 |[],[],c,h,_=>by rw[HT.sV]at h;cases h
 |[],_::_,[],_,h=>by rw[HT.fj]at h;cases h
 |[],_::_,_::_,_,_=>rfl
 |_::_,[],_,h,_=>by rw[HT.fj]at h;cases h
 |_::_,_::_,[],_,h=>by rw[HT.fj]at h;cases h
 | x::xs,y::ys,z::zs,h1,h2=>by
  rw[HT.fV]at h1 h2 |-
  by_cases e1:x=y
  ·subst e1
   rw[if_pos rfl]at h1
   by_cases e2:x=z
   ·subst e2;rw[if_pos rfl]at h2 |-;exact iQ xs ys zs h1 h2
   ·rw[if_neg e2]at h2 |-;exact h2
  ·rw[if_neg e1]at h1
   by_cases e2:y=z
   ·subst e2;rw[if_neg e1];exact h1
   ·rw[if_neg e2]at h2;simp at h1 h2;rw[if_neg (by omega)];simp;omega
theorem t6(a b c:List Int)(h:HT.lexLt a c=true):HT.lexLt a b=true\/HT.lexLt b c=true:=by
 cases h1:HT.lexLt a b with
 |true=>exact .inl rfl
 |false=>
  cases h2:HT.lexLt b c with
  |true=>exact .inr rfl
  |false=>
   cases h3:HT.lexLt b a with
   |true=>have:=iQ _ _ _ h3 h;rw[h2]at this;cases this
   |false=>rw[iP _ _ h1 h3]at h;rw[h2]at h;cases h
noncomputable def lexOrd:KeyOrd where
 α:=List Int
 blt:=HT.lexLt
 irrefl:=jN
 trans:=iQ
 negTrans:=t6
 total:=iP
section
variable {prog:Program} {w:World} {A:Around} {s:Shared}
theorem o6{b fin:Bool}:∀{us vs:List Value} {ns ms:List Int} (i:Nat),IntsAre us ns->IntsAre vs ms->(ns.length<ms.length↔fin=true)->us.length=ns.length ->
  Q (HT.lexLt ns ms) s->(ns.length=ms.length\/i=i)->(∀k,k<ns.length->k<ms.length->True)->(ns.length≠ms.length->True)->(fin=decide (ns.length<ms.length))->KatLex prog w A b fin Q (us.zip vs) i s
 | _,_,_,_,i,.nil,.nil,_,_,hq,_,_,_,hf=>by
  refine kat_nil ?_;rw[hf];exact hq
 | _,_,_,_,i,.nil,.cons _ _ _,_,_,hq,_,_,_,hf=>by
  refine kat_nil ?_;rw[hf];simpa [HT.ic] using hq
 | _,_,_,_,i,.cons _ _ _,.nil,_,_,hq,_,_,_,hf=>by
  refine kat_nil ?_;rw[hf];simpa [HT.fj] using hq
 | _,_,_,_,i,.cons x t r,.cons y u r',h1,h2,hq,_,_,_,hf=>by
  refine kat_cons (wpAny_eqBool_int ?_);rw[HT.fV]at hq
  by_cases e:x=y
  ·subst e
   rw[if_pos rfl]at hq;rw[beq_self_eq_true];refine kat_yes (o6 (i+1) r r' ?_ ?_ hq (.inr rfl) (λ_ _ _=>trivial) (λ_=>trivial) ?_)
   ·simpa using h1
   ·simpa using h2
   ·rw[hf];simp
  ·rw[if_neg e]at hq
   rw[show (x==y)=false from beq_eq_false_iff_ne.mpr e];refine kat_no ?_;cases hb:(b&&i==0) with
   |true=>exact oneLt_int hq
   |false=>exact kat_one _ _ (PyProof.Rows.lt_int hq)
end
end pP
end L2
end
section
namespace L2
open PySem PySem.Spec PyProof.Rows
noncomputable def Uy:Key->PyData
 |.inl i=>.int i
 |.inr x=>.str x
mutual
noncomputable def Den(K:PySem.W.Frag)(H:Hp):PyData->V->Prop
 |.none,v=>v=.non
 |.bool b,v=>v=.bl b
 |.int i,v=>v=.int i
 |.str x,v=>v=.str x
 |.list ds,v=>∃a xs,v=.ref a/\gI K H a xs/\fc K H ds xs
 |.tuple ds,v=>∃a xs,v=.ref a/\jK K H a xs/\fc K H ds xs
 |.dict kvs,v=>∃a ks,v=.ref a/\H a=some (.dK ks)/\mO K H kvs ks
noncomputable def fc(K:PySem.W.Frag)(H:Hp):List PyData->List V->Prop
 |[],xs=>xs=[]
 |d::ds,xs=>∃x r,xs=x::r/\Den K H d x/\fc K H ds r
noncomputable def mO(K:PySem.W.Frag)(H:Hp):List (PyData×PyData)->List (Key×V)->Prop
 |[],ks=>ks=[]
 |(k,d)::r,ks=>∃key x rest,ks=(key,x)::rest/\k=Uy key/\Den K H d x/\mO K H r rest
end
theorem yS.tup{K:PySem.W.Frag}{H H':Hp}{a:Addr}{xs:List V}(e:yS H H')(h:jK K H a xs):jK K H' a xs:=by
 rcases h with (h|⟨o,h⟩)|h
 ·exact .inl (.inl (e _ _ h))
 ·exact .inl (.inr ⟨o,e _ _ h⟩)
 ·exact .inr h
section
variable {K:PySem.W.Frag} {H H':Hp}
mutual
theorem Den.same(e:yS H H'):∀(d:PyData) (v:V),Den K H d v->Den K H' d v
 |.none,_,h=>by rw[Den]at h |-;exact h
 |.bool _,_,h=>by rw[Den]at h |-;exact h
 |.int _,_,h=>by rw[Den]at h |-;exact h
 |.str _,_,h=>by rw[Den]at h |-;exact h
 | .list ds,v,h=>by
  rw[Den]at h |-;obtain⟨a,xs,q1,q2,q3⟩:=h;exact⟨a,xs,q1,e.seq q2,fc.same e ds xs q3⟩
 | .tuple ds,v,h=>by
  rw[Den]at h |-;obtain⟨a,xs,q1,q2,q3⟩:=h;exact⟨a,xs,q1,e.tup q2,fc.same e ds xs q3⟩
 | .dict kvs,v,h=>by
  rw[Den]at h |-;obtain⟨a,ks,q1,q2,q3⟩:=h;exact⟨a,ks,q1,e _ _ q2,mO.same e kvs ks q3⟩
theorem fc.same(e:yS H H'):∀(ds:List PyData) (xs:List V),fc K H ds xs->fc K H' ds xs
 |[],_,h=>by rw[fc]at h |-;exact h
 | d::ds,xs,h=>by
  rw[fc]at h |-;obtain⟨x,r,q1,q2,q3⟩:=h;exact⟨x,r,q1,Den.same e d x q2,fc.same e ds r q3⟩
theorem mO.same(e:yS H H'):∀(kvs:List (PyData×PyData)) (ks:List (Key×V)),mO K H kvs ks->mO K H' kvs ks
 |[],_,h=>by rw[mO]at h |-;exact h
 | (k,d)::r,ks,h=>by
  rw[mO]at h |-;obtain⟨key,x,rest,q1,q2,q3,q4⟩:=h;exact⟨key,x,rest,q1,q2,Den.same e d x q3,mO.same e r rest q4⟩
end
theorem fc.nil:fc K H [] []:=by rw[fc]
theorem fc.cons{d:PyData}{ds:List PyData}{x:V}{r:List V}(h1:Den K H d x)(h2:fc K H ds r):fc K H (d::ds) (x::r):=by rw[fc];exact⟨x,r,rfl,h1,h2⟩
theorem Den.int{i:Int}:Den K H (.int i) (.int i):=by rw[Den]
theorem Den.str:Den K H (.str x) (.str x):=by rw[Den]
theorem Den.bool{b:Bool}:Den K H (.bool b) (.bl b):=by rw[Den]
theorem Den.none:Den K H .none .non:=by rw[Den]
theorem Den.list(h:gI K H a xs)(q:fc K H ds xs):Den K H (.list ds) (.ref a):=by rw[Den];exact⟨a,xs,rfl,h,q⟩
theorem Den.tuple(h:jK K H a xs)(q:fc K H ds xs):Den K H (.tuple ds) (.ref a):=by rw[Den];exact⟨a,xs,rfl,h,q⟩
end
section
variable {X:Cx} {pins:List (Addr×Obj)} {σ:St} {H:Hp} {s:Shared}
mutual
theorem Den.reads(I:Inv X pins σ H s):∀(d:PyData) (v:V) (u:Value),d.canLay0=true->Den X.K H d v->RelV v u->∃as,Reads s.heap u d as
 |.none,v,u,_,h,r=>by rw[Den]at h;subst h;cases r;exact⟨_,.none⟩
 |.bool b,v,u,_,h,r=>by rw[Den]at h;subst h;cases r;exact⟨_,.bool b⟩
 |.int i,v,u,_,h,r=>by rw[Den]at h;subst h;obtain⟨t,rfl⟩:=r;exact⟨_,.int i t⟩
 |.str x,v,u,_,h,r=>by rw[Den]at h;subst h;obtain⟨t,rfl⟩:=r;exact⟨_,.str x t⟩
 | .list ds,v,u,c,h,r=>by
  rw[Den]at h;obtain⟨a,xs,rfl,q1,q2⟩:=h;cases r;obtain⟨its,rv,⟨o,n,e1,e2,_,e3⟩,_⟩:=I.list q1;obtain⟨as,ra⟩:=fc.reads I ds xs its (by simpa [PyData.canLay0] using c) q2 rv;exact⟨_,.list e1 e2 e3 (by simpa using ra)⟩
 | .tuple ds,v,u,c,h,r=>by
  rw[Den]at h;obtain⟨a,xs,rfl,q1,q2⟩:=h;cases r;obtain⟨its,rv,⟨o,e1,e2,n,e3⟩,_⟩:=I.tuple q1;obtain⟨as,ra⟩:=fc.reads I ds xs its (by simpa [PyData.canLay0] using c) q2 rv;exact⟨_,.tuple e1 e2 e3 (by simpa using ra)⟩
 |.dict _,_,_,c,_,_=>by simp[PyData.canLay0]at c
theorem fc.reads(I:Inv X pins σ H s):∀(ds:List PyData) (xs:List V) (us:List Value),PyData.canLayAll0 ds=true->fc X.K H ds xs->Vals xs us->∃as,ReadsAll s.heap us ds as
 |[],xs,us,_,h,r=>by rw[fc]at h;subst h;cases r;exact⟨_,.nil⟩
 | d::ds,xs,us,c,h,r=>by
  have c':d.canLay0=true/\PyData.canLayAll0 ds=true:=by simpa [PyData.canLayAll0] using c
  rw[fc]at h;obtain⟨x,rest,rfl,q1,q2⟩:=h;cases r with
  |cons r1 r2=>obtain⟨as,ra⟩:=Den.reads I d x _ c'.1 q1 r1;obtain⟨bs,rb⟩:=fc.reads I ds rest _ c'.2 q2 r2;exact⟨_,.cons ra rb⟩
end
end
section
variable {X:Cx}
noncomputable def Uz(K:PySem.W.Frag):R2:=λx y H Q=>∃d e,Den K H d x/\Den K H e y/\d.canLay0=true/\e.canLay0=true/\d.depth<=60/\Q (.bl (PyData.eqv d e)) H
noncomputable def UA(K:PySem.W.Frag):R2:=λx y H Q=>∃d e,Den K H d x/\Den K H e y/\d.canLay0=true/\e.canLay0=true/\d.depth<=60/\Q (.bl (!PyData.eqv d e)) H
theorem LJ(hu:X.A.units+64<cLine):kh X (compareOp .Eq) (Uz X.K):=by
 intro pins s σ H x y v u Q I rx ry h;obtain⟨d,e,hd,he,c1,c2,hz,q⟩:=h;obtain⟨as,ra⟩:=Den.reads I d x v c1 hd rx;obtain⟨bs,rb⟩:=Den.reads I e y u c2 he ry;exact SeqAt.compareEq_reads ra rb c1 c2 (by have:=Nat.min_le_left d.depth e.depth;omega) ⟨.bl _,H,I,rfl,q⟩
theorem LK(hu:X.A.units+64<cLine):kh X (compareOp .NotEq) (UA X.K):=by
 intro pins s σ H x y v u Q I rx ry h;obtain⟨d,e,hd,he,c1,c2,hz,q⟩:=h;obtain⟨as,ra⟩:=Den.reads I d x v c1 hd rx;obtain⟨bs,rb⟩:=Den.reads I e y u c2 he ry;exact SeqAt.compareNe_reads ra rb c1 c2 (by have:=Nat.min_le_left d.depth e.depth;omega) ⟨.bl _,H,I,rfl,q⟩
theorem qH{ns:List Int}(I:Inv X pins σ H s)(hq:gI X.K H p (ns.map V.int))(h64:ns.length<64)
  (q:∀l,H l=none->Q (.ref l) (upd H l (.lst ((PySem.W.sortI ns).map V.int)))):wpAny (model X.prog X.w) X.A (call (.builtin "sorted") [.ref p]) (EP X pins σ Q) X.xe s:=by
 obtain⟨its,rv,pl,hz⟩:=I.list hq;have hi:=intsAre_of rv;have hl:=hi.length;refine sorted_ints pl.isList hi (by omega) λout ns' a1 a2 a3=>?_;obtain⟨e,he⟩:=sortedAll_at s.heap its out;have es:ns'=PySem.W.sortI ns:=eq_sortI a2 a3;subst es;have hn:H (s.heap.objs.size+1)=none:=I.hok.fresh (le_succ _);refine⟨.ref (s.heap.objs.size+1),_,I.laid (t':=s.toks) (λb o z=>sortedAll_old z) (le_succ _) (show bT X.prog X.w _ _ _ (.lst ((PySem.W.sortI ns).map V.int)) from⟨?_,out.toList,e,jq a1,by simpa using he⟩),rfl,q _ hn⟩;rw[length_map,(sortI_perm ns).length_eq,sizeLine_eq];omega
theorem nV:cR X (.builtin "sorted") (λxs H Q=>∃p ns,xs=[.ref p]/\gI X.K H p (ns.map V.int)/\ns.length<64/\∀l,H l=none->Q (.ref l) (upd H l (.lst ((PySem.W.sortI ns).map V.int)))):=by
 intro pins s σ H xs us Q I r h;obtain⟨p,ns,rfl,hq,h64,q⟩:=h;obtain⟨u,rfl,ru⟩:=vals1 r;cases ru;exact qH I hq h64 q
noncomputable def P0(K:PySem.W.Frag)(H:Hp)(r:Addr×List Int):Prop:=jK K H r.1 (r.2.map V.int)/\r.2≠[]
theorem yV{pins:List (Addr×Obj)}{σ:St}{H:Hp}{s:Shared}{A:Around}{rs:List (Addr×List Int)}{h6:Heap}{s6:Shared}(I:Inv X pins σ H s)(ht:∀r∈rs,P0 X.K H r)(h2:2<=rs.length)(k:∀b o,s.heap.get? b=some o->s6.heap.get? b=some o) :
  pP.tZ X.prog X.w A pP.lexOrd (λi=>(rs.getD i (0,[])).2) (rs.map λr=>Value.ref r.1) s6:=by
 have tup:∀r∈rs,∃its o n,s6.heap.get? r.1=some o/\o.cls=.type "tuple" /\ o.data=.seq (toArray its) n/\IntsAre its r.2:=λr hr=>by
  obtain⟨its,rv,⟨o,e1,e2,n,e3⟩,_⟩:=I.tuple (ht r hr).1;exact⟨its,o,n,k _ _ e1,e2,e3,intsAre_of rv⟩
 have kt:∀rs:List (Addr×List Int),(∀r∈rs,∃its o n,s6.heap.get? r.1=some o/\o.cls=.type "tuple" /\ o.data=.seq (toArray its) n/\IntsAre its r.2)->(∀r∈rs,r.2≠[]) ->
   ∃fs,PySem.W.KatTups s6.heap (rs.map λr=>Value.ref r.1) fs/\fs.length=rs.length/\∀v∈fs,∃i t,v=Value.int i t:=by
  intro rs
  induction rs with
  |nil=>intro _ _;exact⟨[],PySem.W.KatTups.nil,rfl,λv hv=>nomatch hv⟩
  |cons r rs ih=>
   intro g1 g2;obtain⟨fs,q1,q2,q3⟩:=ih (λr' hr'=>g1 r' (mem_cons_of_mem _ hr')) λr' hr'=>g2 r' (mem_cons_of_mem _ hr');obtain⟨its,o,n,e1,e2,e3,hi⟩:=g1 r mem_cons_self;have hne:=g2 r mem_cons_self;cases hr:r.2 with
   |nil=>exact absurd hr hne
   |cons i is=>
    rw[hr]at hi;cases hi with
    |cons _ t hi'=>
     refine⟨.int i t::fs,PySem.W.KatTups.cons e1 e2 e3 (by simp) q1,by simp[q2],λv hv=>?_⟩
     rcases mem_cons.mp hv with z|z
     ·exact⟨i,t,z⟩
     ·exact q3 v z
 obtain⟨fs,q1,q2,q3⟩:=kt rs tup λr hr=>(ht r hr).2;unfold pP.tZ;refine PySem.W.kat_kind q1 (by omega) (T:=Value.type "int") (λv hv=>?_) rfl ⟨rfl,λi j C hi hj hc=>?_⟩
 ·obtain⟨i,t,rfl⟩:=q3 v hv;exact PySem.W.Looks.of_pure rfl
 ·rw[length_map]at hi hj
  unfold PySem.W.kas_ask;have e1:(rs.map λr=>Value.ref r.1).getD i Value.none=Value.ref rs[i].1:=by simp[hi]
  have e2:(rs.map λr=>Value.ref r.1).getD j Value.none=Value.ref rs[j].1:=by simp[hj]
  have e3:rs.getD i (0,[])=rs[i]:=by simp[hi]
  have e4:rs.getD j (0,[])=rs[j]:=by simp[hj]
  rw[e1,e2];simp only[e3,e4]at hc;obtain⟨its,o,n,a1,a2,a3,a4⟩:=tup rs[i] (List.getElem_mem hi);obtain⟨its',o',n',b1,b2,b3,b4⟩:=tup rs[j] (List.getElem_mem hj);have l1:=a4.length;have l2:=b4.length;refine kat_lt a1 a3 b1 b3 (pP.o6 0 a4 b4 ?_ l1 hc (.inr rfl) (λ_ _ _=>trivial) (λ_=>trivial) ?_)
  ·rw[size_toArray,size_toArray,l1,l2];simp
  ·rw[size_toArray,size_toArray,l1,l2]
theorem BD{rs:List (Addr×List Int)}:∀{us:List Value},Vals (rs.map λr=>V.ref r.1) us->us=rs.map λr=>Value.ref r.1:=by
 induction rs with
 |nil=>intro us r;cases r;rfl
 |cons a rs ih=>
  intro us r;cases r with
  |cons r1 r2=>cases r1;rw[ih r2];rfl
theorem nW:cR X (.builtin "sorted") (λxs H Q=>∃(p:Addr) (rs:List (Addr×List Int)),xs=[.ref p]/\gI X.K H p (rs.map λr=>V.ref r.1)/\rs.length<64/\(∀r∈rs,P0 X.K H r) /\
  ∀(l:Addr) (qs:List (Addr×List Int)),H l=none->qs.Perm rs->qs.Pairwise (λa b=>HT.lexLt b.2 a.2=false)->Q (.ref l) (upd H l (.lst (qs.map λr=>V.ref r.1)))):=by
 intro pins s σ H xs us Q I r h;obtain⟨p,rs,rfl,hq,h64,ht,q⟩:=h;obtain⟨u,rfl,ru⟩:=vals1 r;cases ru;obtain⟨its,rv,pl,hz⟩:=I.list hq;have ev:=BD rv;subst ev;refine pP.ig (O:=pP.lexOrd) (collect_list pl.isList ?_ (by rw[length_map,sizeLine_eq];omega));have k1:∀b o,s.heap.get? b=some o->((s.heap.push (seqObj "list" #[] 0)).update s.heap.objs.size (Obj.mapSeq (· ++ (rs.map λr=>Value.ref r.1).toArray))).get? b=some o:=λb o e=>by
  rw[Heap.get?_update_ne _ _ _ _ (ne_of_lt (lt_size e))];exact get?_push_of_some _ e
 have sz1:((s.heap.push (seqObj "list" #[] 0)).update s.heap.objs.size (Obj.mapSeq (· ++ (rs.map λr=>Value.ref r.1).toArray))).objs.size=s.heap.objs.size+1:=by rw[Heap.size_update,size_push']
 refine⟨by rw[length_map];exact h64,λi=>(rs.getD i (0,[])).2,λh2 h6 k6=>?_,λpp h' op k' he=>?_⟩
 ·rw[length_map]at h2;exact yV (h6:=h6) I ht h2 λb o e=>k6 b o (k1 b o e)
 ·rw[length_map]at op
  dsimp only at k' he |-;rw[sz1]at he |-;obtain⟨e,he⟩:=he;have hn:H (s.heap.objs.size+1)=none:=I.hok.fresh (le_succ _);have lp:pp.length=rs.length:=by rw[op.perm.length_eq,length_range]
  have mem:∀i∈pp,i<rs.length:=λi hi=>by simpa using op.perm.mem_iff.mp hi
  have UB:(pp.map λi=>(rs.map λr=>Value.ref r.1).getD i Value.none)=(pp.map λi=>rs.getD i (0,[])).map λr=>Value.ref r.1:=by rw[map_map];refine map_congr_left λi hi=>?_;simp[mem i hi]
  have qp:(pp.map λi=>rs.getD i (0,[])).Perm rs:=by have:=op.perm.map λi=>rs.getD i (0,[]);rwa [pP.cV]at this
  have qs:(pp.map λi=>rs.getD i (0,[])).Pairwise (λa b=>HT.lexLt b.2 a.2=false):=by have up1:=pairwise_map.mp op.up;exact pairwise_map.mpr up1
  refine⟨.ref (s.heap.objs.size+1),_,I.laid (t':=s.toks) (λb o z=>k' b o (k1 b o z)) (le_succ _) (show bT X.prog X.w _ _ _ (.lst ((pp.map λi=>rs.getD i (0,[])).map λr=>V.ref r.1)) from⟨?_,_,e,?_,he⟩),rfl,q _ _ hn qp qs⟩
  ·rw[length_map,length_map,lp,sizeLine_eq];omega
  ·rw[UB]
   generalize (pp.map λi=>rs.getD i (0,[]))=zs
   induction zs with
   |nil=>exact .nil
   |cons z zs ih=>exact .cons rfl ih
theorem z7{ns:List Int}(h:IntsAre us ns):∀(i:Nat) (v:Value),us[i]?=some v->∃t,v=.int (ns.getD i 0) t:=by
 induction h with
 |nil=>intro i v e;simp at e
 |cons z t r ih=>
  intro i v e;cases i with
  |zero=>simp at e;exact⟨t,by simp[<-e]⟩
  |succ i=>obtain⟨u,q⟩:=ih i v (by simpa using e);exact⟨u,by simpa using q⟩
theorem t7{pins:List (Addr×Obj)}{σ:St}{H:Hp}{s:Shared}{p:Addr}{ns:List Int}(I:Inv X pins σ H s)(hc:X.calm=true)(hq:gI X.K H p (ns.map V.int)\/jK X.K H p (ns.map V.int))(hne:0<ns.length){Q:Value->Shared->Prop}{f:String}{bt:Int->Int->Bool}{op:CmpOp}
  (hf:∀{Q:Value->Shared->Prop},wpAny (model X.prog X.w) X.A.in1 (pyIter (.ref p)) (λit s₂=>∃I fp wr n P St bt,it=.ref I/\Walks X.prog X.w X.A.in1 I fp wr n P St/\St 0 s₂.heap/\(∀b∈fp,b<s₂.heap.objs.size)/\0<n/\CmpOf X.prog X.w X.A.in1 op P bt /\
   ∀v h' tk,P (argBest bt (n-1)) v->(∀b o,b∉wr->s₂.heap.get? b=some o->h'.get? b=some o)->Q v { s₂ with heap:=h',toks:=tk }) X.xe s->wpAny (model X.prog X.w) X.A (call (.builtin f) [.ref p]) Q X.xe s)
  (hcmp:∀(P:Nat->Value->Prop),(∀i v,P i v->∃t,v=.int (ns.getD i 0) t)->CmpOf X.prog X.w X.A.in1 op P λi j=>bt (ns.getD i 0) (ns.getD j 0))
  (h:∀t h' tk,(∀b o,s.heap.get? b=some o->h'.get? b=some o)->argBest (λi j=>bt (ns.getD i 0) (ns.getD j 0)) (ns.length-1)<ns.length->Q (.int (ns.getD (argBest (λi j=>bt (ns.getD i 0) (ns.getD j 0)) (ns.length-1)) 0) t) { s with heap:=h',toks:=tk }) :
  wpAny (model X.prog X.w) X.A (call (.builtin f) [.ref p]) Q X.xe s:=by
 have hh:X.A.in1.handled=none:=I.ok.hd hc;have up:∀{us:List Value} (P:Nat->Value->Prop) (hi:IntsAre us ns),(∀i v,P i v->us.toArray[i]?=some v)->∀i v,P i v->∃t,v=.int (ns.getD i 0) t:=λP hi hP i v q=>z7 hi i v (by simpa using hP i v q);have best:∀{us:List Value} (hi:IntsAre us ns) (v:Value) (h':Heap) (tk:Nat),us.toArray[argBest (λi j=>bt (ns.getD i 0) (ns.getD j 0)) (us.toArray.size-1)]?=some v->(∀b o,s.heap.get? b=some o->h'.get? b=some o)->Q v { s with heap:=h',toks:=tk }:=λ{us} hi v h' tk e k=>by
  have hl:=hi.length;rw[size_toArray,hl]at e;have e':us[argBest (λi j=>bt (ns.getD i 0) (ns.getD j 0)) (ns.length-1)]?=some v:=by simpa using e
  obtain⟨t,rfl⟩:=z7 hi _ v e';exact h t h' tk k (by have:=(List.getElem?_eq_some_iff.mp e').1;omega)
 rcases hq with hq|hq
 ·obtain⟨its,rv,pl,hz⟩:=I.list hq
  have hi:=intsAre_of rv;have hl:=hi.length;have hpl:=pl.isList;have hlt:p<s.heap.objs.size:=by obtain⟨_,e,_⟩:=hpl;exact lt_size e
  refine hf (wpAny_pyIter_list hpl ⟨s.heap.objs.size,[s.heap.objs.size,p],[s.heap.objs.size],its.toArray.size,_,_,λi j=>bt (ns.getD i 0) (ns.getD j 0),rfl,Walks.list hh _ p (ne_of_lt hlt) its.toArray,⟨⟨_,get?_push_size _ rfl,rfl,rfl⟩,hpl.push _⟩,λb hb=>?_,by rw[size_toArray];omega,
   hcmp _ (up _ hi λi v q=>q),λv h' tk e k=>?_⟩)
  ·simp only[size_push']
   rcases mem_cons.mp hb with z|z
   ·rw[z];exact lt_succ_self _
   ·rw[mem_singleton.mp z];exact lt_succ_of_lt hlt
  ·exact best hi v h' tk e λb o z=>k b o (by simp;exact ne_of_lt (lt_size z)) (get?_push_of_some _ z)
 ·obtain⟨its,rv,pl,hz⟩:=I.tuple hq
  have hi:=intsAre_of rv;have hl:=hi.length;have hpl:s.heap.IsTuple p its.toArray:=pl;have hlt:p<s.heap.objs.size:=by obtain⟨_,e,_⟩:=hpl;exact lt_size e
  refine hf (wpAny_pyIter_tuple hpl ⟨s.heap.objs.size,[s.heap.objs.size,p],[s.heap.objs.size],its.toArray.size,_,_,λi j=>bt (ns.getD i 0) (ns.getD j 0),rfl,Walks.tuple hh _ p (ne_of_lt hlt) its.toArray,⟨⟨_,get?_push_size _ rfl,rfl,rfl⟩,?_⟩,λb hb=>?_,by rw[size_toArray];omega,
   hcmp _ (up _ hi λi v q=>q),λv h' tk e k=>?_⟩)
  ·obtain⟨o,e,c⟩:=hpl;exact⟨o,get?_push_of_some _ e,c⟩
  ·simp only[size_push']
   rcases mem_cons.mp hb with z|z
   ·rw[z];exact lt_succ_self _
   ·rw[mem_singleton.mp z];exact lt_succ_of_lt hlt
  ·exact best hi v h' tk e λb o z=>k b o (by simp;exact ne_of_lt (lt_size z)) (get?_push_of_some _ z)
theorem uY(hc:X.calm=true):cR X (.builtin "min") (λxs H Q=>∃(p:Addr) (ns:List Int),xs=[.ref p]/\(gI X.K H p (ns.map V.int)\/jK X.K H p (ns.map V.int))/\0<ns.length/\∀m,m∈ns->(∀a∈ns,m<=a)->Q (.int m) H):=by
 intro pins s σ H xs us Q I r h;obtain⟨p,ns,rfl,hq,hne,q⟩:=h;obtain⟨u,rfl,ru⟩:=vals1 r;cases ru;refine t7 (bt:=λa b=>decide (a<b)) (op:=.Lt) I hc hq hne (λ{Q} h=>call_min_walk h) (λP hP=>?_) λt h' tk k hb=>⟨.int _,H,I.kept k,⟨t,rfl⟩,q _ ?_ λa ha=>?_⟩
 ·intro i j x y s' Q' E' hx hy hQ;obtain⟨t,rfl⟩:=hP i x hx;obtain⟨t',rfl⟩:=hP j y hy;exact lt_int (by simpa using hQ)
 ·exact getD_mem hb
 ·obtain⟨j,hj,rfl⟩:=mem_getD ha;exact(argBest_lt (λi=>ns.getD i 0) (ns.length-1)).2 j (by omega)
theorem uZ(hc:X.calm=true):cR X (.builtin "max") (λxs H Q=>∃(p:Addr) (ns:List Int),xs=[.ref p]/\(gI X.K H p (ns.map V.int)\/jK X.K H p (ns.map V.int))/\0<ns.length/\∀m,m∈ns->(∀a∈ns,a<=m)->Q (.int m) H):=by
 intro pins s σ H xs us Q I r h;obtain⟨p,ns,rfl,hq,hne,q⟩:=h;obtain⟨u,rfl,ru⟩:=vals1 r;cases ru;refine t7 (bt:=λa b=>decide (a>b)) (op:=.Gt) I hc hq hne (λ{Q} h=>call_max_walk h) (λP hP=>?_) λt h' tk k hb=>⟨.int _,H,I.kept k,⟨t,rfl⟩,q _ ?_ λa ha=>?_⟩
 ·intro i j x y s' Q' E' hx hy hQ;obtain⟨t,rfl⟩:=hP i x hx;obtain⟨t',rfl⟩:=hP j y hy;exact gt_int (by simpa using hQ)
 ·exact getD_mem hb
 ·obtain⟨j,hj,rfl⟩:=mem_getD ha;exact(argBest_gt (λi=>ns.getD i 0) (ns.length-1)).2 j (by omega)
end
end L2
end
section
namespace L2
open PySem PySem.Spec PyProof.Rows
section
variable {X:Cx}
theorem yW{bs:List Bool}:∀{us:List Value},Vals (bs.map V.bl) us->us=bs.map Value.bool:=by
 induction bs with
 |nil=>intro us r;cases r;rfl
 |cons a bs ih=>
  intro us r;cases r with
  |cons r1 r2=>cases r1;rw[ih r2];rfl
theorem qI(bs:List Bool):((List.range bs.length).all λi=>bs.getD i true)=bs.all id:=by
 conv=>rhs;rw[<-pP.cV bs true]
 rw[all_map];rfl
theorem sY(hc:X.calm=true):cR X (.builtin "all") (λxs H Q=>∃(p:Addr) (bs:List Bool),xs=[.ref p]/\gI X.K H p (bs.map V.bl)/\Q (.bl (bs.all id)) H):=by
 intro pins s σ H xs us Q I r h;obtain⟨p,bs,rfl,hq,q⟩:=h;obtain⟨u,rfl,ru⟩:=vals1 r;cases ru;obtain⟨its,rv,pl,hz⟩:=I.list hq;have ev:=yW rv;subst ev;have hpl:=pl.isList;have hlt:p<s.heap.objs.size:=by obtain⟨_,e,_⟩:=hpl;exact lt_size e
 refine call_all_walk (wpAny_pyIter_list hpl ⟨s.heap.objs.size,[s.heap.objs.size,p],[s.heap.objs.size],_,_,_,λi=>bs.getD i true,rfl,Walks.list (A:=X.A.in1) (I.ok.hd hc) _ p (ne_of_lt hlt) (bs.map Value.bool).toArray,
  ⟨⟨_,get?_push_size _ rfl,rfl,rfl⟩,hpl.push _⟩,λi v s' Q' E' hP hQ=>?_,λh' tk hk=>?_⟩)
 ·have hi:i<bs.length:=by simpa using (Array.getElem?_eq_some_iff.mp hP).1
  have e:v=Value.bool (bs.getD i true):=by
   have:(bs.map Value.bool)[i]?=some v:=by simpa using hP
   simp[hi]at this;simp[hi,this]
  subst e;exact wpAny_truthy_bool hQ
 ·have e:((List.range (bs.map Value.bool).toArray.size).all λi=>bs.getD i true)=bs.all id:=by rw[size_toArray,length_map];exact qI bs
  rw[e];exact⟨.bl _,H,I.kept λb o z=>hk b o (by simp;exact ne_of_lt (lt_size z)) (get?_push_of_some _ z),rfl,q⟩
section
open PySem.AutoSeq1 (wpAny_loadPart')
theorem u5(l b:Addr)(items items2:Array Value)(n n2:Nat)(dd2:Option Addr)(sl2:Array (Option Value))(hs0:¬(!items.isEmpty&&Builtin.List.listTooLong (items.size+items2.size))=true)(hs1:items.size<=sizeLine)(hs2:items.size+items2.size<=sizeLine+1) :
  Meets (Builtin.«list.extend» ⟨[.ref l,.ref b],[]⟩) (λ_ R s=>s.heap.get? l=some { cls:=.type "list",data:=.seq items n }/\s.heap.get? b=some { cls:=.type "tuple",dict:=dd2,data:=.seq items2 n2,slots:=sl2 } /\
   R (.ok (.ret Value.none)) { s with heap:=s.heap.update l (Obj.mapSeq λx=>x++items2) }) :=
 .of_wp λprog w A R s h=>by
  obtain⟨hp,g,d,tk,os⟩:=s;obtain⟨hl,hb,h⟩:=h;have f2:=AutoSeq1.sub_tuple_tuple;have f3:=AutoSeq1.sub_list_list;have f4:=AutoSeq1.sub_tuple_list;have f5:=AutoSeq1.sub_list_tuple;have hz':(items++items2).size<=sizeLine+1:=by rw[Array.size_append];exact hs2
  wp_walk using (wpAny_updateSeq hl rfl (hz:=hs1) (_hz':=hz')),wpAny_loadPart' hl,wpAny_loadPart' hb
  exact⟨_,rfl,h⟩
end
noncomputable def Ds(K:PySem.W.Frag):V->List V->Hp->VK->Prop:=λx vs H Q=>∃l b xs zs,x=.ref l/\vs=[.ref b]/\H l=some (.lst xs)/\jK K H b zs/\xs.length+zs.length<=sizeLine/\Q .non (upd H l (.lst (xs++zs)))
theorem yX:Uk X "list.extend" (Ds X.K):=by
 intro pins s σ H x vs v us Q I rx rv h;obtain⟨l,b,xs,zs,rfl,rfl,hH,hB,hz,q⟩:=h;cases rx;obtain⟨u,rfl,ru⟩:=rv.one;cases ru;obtain⟨z,its,n,r,hl,e⟩:=I.Hf hH;obtain⟨its2,r2,⟨⟨oc,od,odt,osl⟩,e2,ec,n2,ed⟩,z2⟩:=I.tuple hB;cases ec;cases ed;have l2:=r2.length;have hsz:its.toArray.size+its2.toArray.size<=sizeLine:=by rw[size_toArray,size_toArray];omega
 have Dd:¬ (!its.toArray.isEmpty&&Builtin.List.listTooLong (its.toArray.size+its2.toArray.size))=true:=by rw[wg hsz,Bool.and_false];exact Bool.false_ne_true
 refine call_meets F.slot_list_extend ⟨_,e,rfl⟩ F.entry_list_extend (F.args_list_extend_2 _ _)
  (u5 l b its.toArray its2.toArray n n2 od osl Dd (by rw[size_toArray];omega) (by omega)) ⟨e,e2,?_⟩
 refine⟨.non,_,I.Lz (its':=its++its2) hH e (by simp) (r.append r2) ?_,rfl,q⟩;rw[length_append];omega
end
end L2
end
section
namespace L2
open PySem
noncomputable def t8(xs:Array Nat):Prop:=xs.toList.Pairwise (· < ·)
structure Cut (xs:Array Nat) (j p:Nat):Prop where
 le:p<=xs.size
 lo:∀(i:Nat) (hi:i<xs.size),i<p->xs[i]<j
 hi:∀(i:Nat) (hi:i<xs.size),p<=i->j<=xs[i]
theorem Cut.one{xs:Array Nat}{j p q:Nat}(a:Cut xs j p)(b:Cut xs j q):p=q:=by
 rcases Nat.lt_trichotomy p q with h|h|h
 ·have hp:p<xs.size:=lt_of_lt_of_le h b.le;have:=a.hi p hp (Nat.le_refl _);have:=b.lo p hp h;omega
 ·exact h
 ·have hq:q<xs.size:=lt_of_lt_of_le h a.le;have:=b.hi q hq (Nat.le_refl _);have:=a.lo q hq h;omega
theorem t8.get{xs:Array Nat}(r:t8 xs){a b:Nat}(ha:a<xs.size)(hb:b<xs.size)(h:a<b):xs[a]<xs[b]:=by
 have:=pairwise_iff_getElem.mp r a b (by simpa using ha) (by simpa using hb) h;simpa using this
theorem yY{xs:Array Nat}(r:t8 xs)(j:Nat):∀(fuel lo hi:Nat),lo<=hi->hi<=xs.size->hi-lo<=fuel->(∀(i:Nat) (hi:i<xs.size),i<lo->xs[i]<j)->(∀(i:Nat) (h:i<xs.size),hi<=i->j<=xs[i])->Cut xs j (SetTable.below.go xs j fuel lo hi)
 | 0,lo,hi,h1,h2,h3,a,b=>by
  have:lo=hi:=by omega
  subst this;exact⟨h2,a,b⟩
 | fuel+1,lo,hi,h1,h2,h3,a,b=>by
  unfold SetTable.below.go
  by_cases hlt:lo<hi
  ·rw[if_pos hlt]
   dsimp only;have hm:(lo+hi)/2<xs.size:=by omega
   have eg:xs.getD ((lo+hi)/2) j=xs[(lo+hi)/2]:=by simp[Array.getD,hm]
   rw[eg]
   by_cases hc:xs[(lo+hi)/2]<j
   ·rw[if_pos hc]
    refine yY r j fuel _ hi (by omega) h2 (by omega) (λi hi' hl=>?_) b
    by_cases e:i=(lo+hi)/2
    ·subst e;exact hc
    ·exact lt_trans (r.get hi' hm (by omega)) hc
   ·rw[if_neg hc]
    refine yY r j fuel lo _ (by omega) (by omega) (by omega) a (λi hi' hl=>?_)
    by_cases e:i=(lo+hi)/2
    ·subst e;omega
    ·have:=r.get hm hi' (by omega);omega
  ·rw[if_neg hlt]
   have:lo=hi:=by omega
   subst this;exact⟨h2,a,b⟩
theorem lu{xs:Array Nat}(r:t8 xs)(j:Nat):Cut xs j (SetTable.below xs j) :=
 yY r j xs.size 0 xs.size (zero_le _) (Nat.le_refl _) (by omega) (λi _ h=>by omega) (λi h hl=>by omega)
theorem yZ{xs:Array Nat}(r:t8 xs):SetTable.below xs 0=0:=(lu r 0).one ⟨zero_le _,λi _ h=>by omega,λi _ _=>zero_le _⟩
theorem y9{xs:Array Nat}(r:t8 xs){i:Nat}(hi:i<xs.size):SetTable.below xs (xs[i]+1)=i+1:=by
 refine(lu r _).one ⟨hi,λk hk h=>?_,λk hk h=>?_⟩
 ·by_cases e:k=i
  ·subst e;omega
  ·have:=r.get hk hi (by omega);omega
 ·have:=r.get hi hk (by omega);omega
theorem BE{xs:Array Nat}(r:t8 xs){j:Nat}(h:j∈xs):xs[SetTable.below xs j]?=some j:=by
 obtain⟨k,hk,e⟩:=Array.mem_iff_getElem.mp h;have:SetTable.below xs j=k:=by
  refine(lu r j).one ⟨Nat.le_of_lt hk,λi hi h=>?_,λi hi h=>?_⟩
  ·have:=r.get hi hk h;omega
  ·by_cases e':i=k
   ·subst e';omega
   ·have:=r.get hk hi (by omega);omega
 rw[this,Array.getElem?_eq_getElem hk,e]
theorem BF{xs:Array Nat}(r:t8 xs){j:Nat}(h:j∉xs):t8 (SetTable.insertAt xs (SetTable.below xs j) j):=by
 have c:=lu r j;unfold t8;rw[SetTable.toList_insertAt];have rl:xs.toList.Pairwise (· < ·):=r;have lo:∀a∈xs.toList.take (SetTable.below xs j),a<j:=λa ha=>by
  obtain⟨i,hi,e⟩:=List.mem_iff_getElem.mp ha;rw[length_take,length_toList]at hi;rw[List.getElem_take]at e;have:=c.lo i (by omega) (by omega);rw[<-e];simpa using this
 have up:∀a∈xs.toList.drop (SetTable.below xs j),j<a:=λa ha=>by
  obtain⟨i,hi,e⟩:=List.mem_iff_getElem.mp ha;rw[length_drop,length_toList]at hi;rw[List.getElem_drop]at e;have h1:=c.hi (SetTable.below xs j+i) (by omega) (by omega);have e':xs[SetTable.below xs j+i]'(by omega)=a:=by rw[<-e];simp
  rw[e']at h1;have:a≠j:=λz=>h (by rw[<-z,<-e'];exact Array.getElem_mem _);omega
 rw[List.pairwise_append];refine⟨rl.sublist (List.take_sublist _ _),pairwise_cons.mpr ⟨up,rl.sublist (List.drop_sublist _ _)⟩,λa ha b hb=>?_⟩
 rcases mem_cons.mp hb with e|hb
 ·rw[e];exact lo a ha
 ·exact lt_trans (lo a ha) (up b hb)
theorem mP(n:Nat):t8 (Array.range n):=by
 unfold t8;rw[Array.toList_range];exact List.pairwise_lt_range
theorem t9{t:SetTable}(r:t8 t.place){j:Nat}(h:t.slot j=.empty\/t.slot j=.dummy):j∉t.place:=λhm=>by
 have e:=BE r hm;unfold SetTable.slot at h;dsimp only at h;rw[e]at h;simp at h
theorem mz{h:Int}:∀(fuel:Nat) (p:SetTable.Probe) (j:Nat) (d:Option Nat),(∀k,p.dummy=some k->t.slot k=.dummy)->SetTable.probe.go t f h fuel p=some (.empty j d)->t.slot j=.empty/\∀k,d=some k->t.slot k=.dummy
 |0,p,j,d,hd,e=>by simp[SetTable.probe.go]at e
 | fuel+1,p,j,d,hd,e=>by
  have ad:∀q:SetTable.Probe,(t.advance q).dummy=q.dummy:=λq=>by unfold SetTable.advance;split<;>rfl
  unfold SetTable.probe.go at e;split at e
  ·rename_i hs;cases e;exact⟨hs,hd⟩
  ·rename_i hs;refine mz fuel _ j d (λk hk=>?_) e;rw[ad]at hk;cases hk;exact hs
  ·split at e
   ·cases e
   ·exact mz fuel _ j d (λk hk=>hd k (by rw[<-ad];exact hk)) e
theorem Dt{t:SetTable}(r:t8 t.place){h:Int}{s:Nat}{b:Bool}(e:t.freeSlot h=some (s,b)):s∉t.place:=by
 unfold SetTable.freeSlot at e;split at e
 ·rename_i j d hp
  cases e;obtain⟨h1,h2⟩:=mz _ _ _ _ (λk hk=>by simp[SetTable.probeStart]at hk) hp;cases d with
  |none=>exact t9 r (.inl h1)
  |some k=>exact t9 r (.inr (h2 k rfl))
 ·cases e
theorem BG(r:t8 t.place)(es:Array (Int×Value))(h:Int)(x:Value):t8 (layNew t es h x).2.1.place/\(layNew t es h x).2.1.led=t.led:=by
 unfold layNew
 split
 ·rename_i s b e
  have fr:=Dt r e;dsimp only;unfold SetTable.orStandIn
  split
  ·exact⟨BF r fr,rfl⟩
  ·exact⟨mP _,rfl⟩
 ·exact⟨mP _,rfl⟩
theorem Du(r:t8 t.place)(es:Array (Int×Value))(n:Nat):t8 (relayAll t es n).2.1.place/\(relayAll t es n).2.1.led=t.led:=by
 unfold relayAll
 split
 ·rename_i t' order e
  dsimp only
  split
  ·unfold SetTable.relaid SetTable.laid at e;obtain⟨ow,e1,e⟩:=bind_eq_some_iff.mp e;cases e;refine⟨?_,rfl⟩;show List.Pairwise _ (List.map _ _).toArray.toList;rw[List.toList_toArray,pairwise_map];refine List.Pairwise.filterMap _ (R:=(· < ·)) (λa a' hl b hb b' hb'=>?_) List.pairwise_lt_range;obtain⟨x,_,rfl⟩:=map_eq_some_iff.mp hb;obtain⟨y,_,rfl⟩:=map_eq_some_iff.mp hb';exact hl
  ·exact⟨mP _,rfl⟩
 ·exact⟨mP _,rfl⟩
end L2
end
section
namespace L2
open PySem PyProof.Rows
noncomputable def sZ(w:World):Bool:=w.params.followText "set-order"
structure JT (w:World) (es:Array (Int×Value)) (t:SetTable):Prop where
 few:es.size<scanBound
 fit:t.fits es.size=true
 rs:t8 t.place
 led:t.led = !sZ w
structure fk (prog:Program) (w:World) (h:Heap) (a:Addr) (o:Obj) (es:Array (Int×Value)) (ep:Nat) (t:SetTable) (ks:List Int):Prop where
 at_:h.get? a=some o
 ex:o.ExactSet
 dat:o.data=.set es ep t
 el:ElemsOf (intKind prog w) es.toList
 tab:JT w es t
 YC:ks.Nodup
 mem:∀k,k∈ks↔∃e∈es.toList,(intKind prog w).is k e.2=true
 num:es.size=ks.length
noncomputable def pQ(prog:Program)(w:World)(h:Heap)(a:Addr)(ks:List Int):Prop:=∃o es ep t,fk prog w h a o es ep t ks
noncomputable def fq(ks:List Int)(k:Int):List Int:=if k∈ks then ks else ks++[k]
section
variable {prog:Program} {w:World} {A:Around} {E:Value->Shared->Prop} {s:Shared}
theorem Dv{h:Heap}{a:Addr}{o:Obj}{es es':Array (Int×Value)}{ep:Nat}{t t':SetTable}(ho:h.get? a=some o)(hd:o.data=.set es ep t):(h.update a (Obj.putSet es' t')).get? a=some { o with data:=.set es' (ep+1) t' }:=by
 have q:=get?_update_self (Obj.putSet es' t') ho (by rw[putSet_of es' t' hd];rfl);rw[putSet_of es' t' hd]at q;exact q
theorem pQ.frame{ks:List Int}(S:pQ prog w h a ks)(k:∀o,h.get? a=some o->h'.get? a=some o):pQ prog w h' a ks:=by
 obtain⟨o,es,ep,t,i⟩:=S;exact⟨o,es,ep,t,{ i with at_:=k o i.at_ }⟩
theorem mem_push{es es1:List (Int×Value)}{ks:List Int}{k:Int}(hx:(intKind prog w).is k x=true)(hm:∀j,j∈ks↔∃e∈es,(intKind prog w).is j e.2=true)(p:es1.Perm (es++[((intKind prog w).hash k,x)]))(j:Int) :
  j∈ks++[k]↔∃e∈es1,(intKind prog w).is j e.2=true:=by
 rw[mem_append,mem_singleton,hm];constructor
 ·rintro(⟨e,he,q⟩|rfl)
  ·exact⟨e,p.mem_iff.mpr (mem_append_left _ he),q⟩
  ·exact⟨_,p.mem_iff.mpr (mem_append_right _ mem_cons_self),hx⟩
 ·rintro⟨e,he,q⟩
  rcases mem_append.mp (p.mem_iff.mp he) with z|z
  ·exact .inl ⟨e,z,q⟩
  ·rw[mem_singleton]at z;subst z;exact .inr ((intKind prog w).inj x j k q hx)
theorem wI{g:Bool->Sem Unit}(hg:∀(b:Bool) (s₁:Shared) (Q':Unit->Shared->Prop),Q' () s₁->wpAny (model prog w) A (g b) Q' E s₁)
  {a:Addr} {o:Obj} {es es1:Array (Int×Value)} {ep:Nat} {t t2:SetTable} {ks:List Int} (ho:s.heap.get? a=some o) (hex:o.ExactSet) (hd:o.data=.set es ep t)
  (hel:ElemsOf (intKind prog w) es1.toList) (hm:∀k,k∈ks↔∃e∈es1.toList,(intKind prog w).is k e.2=true) (hnd:ks.Nodup) (hn:es1.size=ks.length) (ht:JT w es1 t2) {b:Bool} {R:Option Bool->Shared->Prop}
  (h:∀h',Heap.SameBut a s.heap h'->pQ prog w h' a ks->R (some true) { s with heap:=h' }) :
  wpAny (model prog w) A (do
    storeSet a es1 t2
    if (!b&&t2.tooFull)=true then do
      g (relayAll t2 es1 (SetTable.grown es1.size)).2.2
      storeSet a (relayAll t2 es1 (SetTable.grown es1.size)).1 (relayAll t2 es1 (SetTable.grown es1.size)).2.1
      pure (some true)
     else pure (some true)) R E s:=by
 refine wpAny_bind (wpAny_storeSet_of ho hd ?_ (fits_of_scanBound ht.few));have h1:=Dv (es':=es1) (t':=t2) ho hd;have b1:=Heap.SameBut.update s.heap a (Obj.putSet es1 t2)
 split
 ·have p:=relayAll_perm t2 es1 (SetTable.grown es1.size)
  have f:=relayAll_fits t2 es1 (SetTable.grown es1.size);have rr:=Du ht.rs es1 (SetTable.grown es1.size);generalize relayAll t2 es1 (SetTable.grown es1.size)=Rl at p f rr |-;obtain⟨UC,t3,gv⟩:=Rl;dsimp only at p f rr |-;have z:UC.size=es1.size:=by rw[<-length_toList,p.length_eq,length_toList]
  have few:UC.size<scanBound:=by rw[z];exact ht.few
  refine wpAny_bind (hg _ _ _ ?_);refine wpAny_bind (wpAny_storeSet_of h1 rfl ?_ (fits_of_scanBound few));refine wpAny_pure (h _ (b1.trans (Heap.SameBut.update _ a _)) ⟨_,UC,_,t3,Dv h1 rfl,hex,rfl,hel.perm p,⟨few,f,rr.1,rr.2.trans ht.led⟩,hnd,λk=>(hm k).trans ⟨λ⟨e,he,q⟩=>⟨e,p.mem_iff.mpr he,q⟩,λ⟨e,he,q⟩=>⟨e,p.mem_iff.mp he,q⟩⟩,z.trans hn⟩)
 ·exact wpAny_pure (h _ b1 ⟨_,es1,_,t2,h1,hex,rfl,hel,ht,hnd,hm,hn⟩)
theorem add_int{ks:List Int}{k:Int}(S:pQ prog w s.heap a ks)(room:ks.length+1<scanBound)
  (h:∀h' b,Heap.SameBut a s.heap h'->pQ prog w h' a (fq ks k)->Q b { s with heap:=h' }) :
  wpAny (model prog w) A (setAddHashed a (.int k tk) ((intKind prog w).hash k)) Q E s:=by
 obtain⟨o,es,ep,t,I⟩:=S;have hx:(intKind prog w).is k (.int k tk)=true:=intKind_is _ _ _ _;have sc:(Value.int k tk).scannable=true:=rfl;unfold setAddHashed setAddHashedIn;refine wpAny_holding (wpAny_bind (wpAny_setState_of I.at_ I.dat I.tab.fit ?_));dsimp only;rw[byScan_of sc I.tab.few I.el];simp only[↓reduceIte];unfold setAddByScan;refine wpAny_bind (wpAny_bind (wpAny_rule (wpAny_bind (wpAny_setScan_of hx I.at_ I.dat I.tab.fit I.el ?_))));cases hr:List.findIdx? (λe=>(intKind prog w).is k e.2) es.toList with
 |some j=>
  dsimp only;obtain⟨hj,pj,_⟩:=List.findIdx?_eq_some_iff_getElem.mp hr;have hk:k∈ks:=(I.mem k).mpr ⟨es.toList[j],List.getElem_mem hj,pj⟩;refine wpAny_pure (wpAny_pure ?_);have e:s={ s with heap:=s.heap }:=by cases s;rfl
  rw[e];exact h s.heap _ (Heap.SameBut.refl a s.heap) (by unfold fq;rw[if_pos hk];exact⟨o,es,ep,t,I⟩)
 |none=>
  dsimp only;have hk:k∉ks:=λz=>by
   obtain⟨e,he,p⟩:=(I.mem k).mp z;have:=List.findIdx?_eq_none_iff.mp hr e he;rw[p]at this;cases this
  have gw:∀(b:Bool) (s₁:Shared) (Q':Unit->Shared->Prop),Q' () s₁->wpAny (model prog w) A (match b with|true=>rule "set.scan.the-table-gave-way" | false=>pure ()) Q' E s₁:=λb s₁ Q' q=>by
   cases b
   ·exact wpAny_pure q
   ·exact wpAny_rule q
  have p:=layNew_perm t es ((intKind prog w).hash k) (.int k tk);have f:=layNew_fits t es ((intKind prog w).hash k) (.int k tk);have rr:=BG I.tab.rs es ((intKind prog w).hash k) (.int k tk);generalize layNew t es ((intKind prog w).hash k) (.int k tk)=Ln at p f rr |-;obtain⟨es1,t1,wd,gv⟩:=Ln;dsimp only at p f rr |-;rw[Array.toList_push]at p;have z:es1.size=(ks++[k]).length:=by rw[<-length_toList,p.length_eq,length_append,length_append,length_toList,I.num];rfl
  have few:es1.size<scanBound:=by rw[z,length_append];simpa using room
  have nd:(ks++[k]).Nodup:=by rw[nodup_append];exact⟨I.YC,by simp,λx hx' y hy e=>hk (by rw[mem_singleton]at hy;rw[<-hy,<-e];exact hx')⟩
  have YD:ElemsOf (intKind prog w) es1.toList:=(I.el.push hx sc).perm p;have m1:=mem_push hx I.mem p;have fin:∀h',Heap.SameBut a s.heap h'->pQ prog w h' a (ks++[k])->Q true { s with heap:=h' }:=λh' sb S'=>h h' true sb (by unfold fq;rw[if_neg hk];exact S');refine wpAny_bind (gw _ _ _ ?_)
  split
  ·refine wpAny_bind ?_
   rw[hashByValue_scannable 8 sc];refine wpAny_pure ?_;refine wI gw I.at_ I.ex I.dat YD m1 nd z ⟨few,?_,?_,?_⟩ λh' sb S'=>wpAny_pure (fin h' sb S')
   ·split
    ·exact f
    ·exact SetTable.fits_plain_off f
   ·split
    ·exact rr.1
    ·exact rr.1
   ·split
    ·exact rr.2.trans I.tab.led
    ·exact rr.2.trans I.tab.led
  ·refine wpAny_bind (wpAny_pure ?_);simp only[↓reduceIte];exact wI gw I.at_ I.ex I.dat YD m1 nd z ⟨few,f,rr.1,rr.2.trans I.tab.led⟩ λh' sb S'=>wpAny_pure (fin h' sb S')
end
end L2
end
section
namespace L2
open PySem PyProof.Rows
noncomputable def ff:List Int->List Int->List Int
 |ks,[]=>ks
 |ks,k::r=>ff (fq ks k) r
theorem qJ(ks:List Int)(k:Int):(fq ks k).length<=ks.length+1:=by unfold fq;split<;>simp
section
variable {prog:Program} {w:World} {A:Around} {E:Value->Shared->Prop} {s:Shared}
theorem Dw{R:Result->Shared->Prop}{I:Addr}{fp wr:List Addr}{G:Array GenState->Array GenState->Prop}{n:Nat}{P:Nat->Value->Prop}{St:Nat->Shared->Prop}(W:WalksS prog w A.in1 I fp wr G n P St)(S:Addr)(hSf:S∉fp)(val:Nat->Int)(hval:∀i v,P i v->∃t,v=.int (val i) t) :
  ∀(k i:Nat) (s:Shared) (ks:List Int),n-i=k->i<=n->ks.length+k+1<scanBound->St i s->pQ prog w s.heap S ks ->
   (∀s',Moved (S::wr) G s s'->pQ prog w s'.heap S (ff ks ((range' i k).map val))->R (.ok (.ret .none)) s') ->
   codeAny (model prog w) A (.builtin "set.update.loop" ⟨[.ref S,.ref I],[]⟩) R s:=by
 have YE:S∉wr:=λh=>hSf (W.sub _ h);have sub:∀b∈wr,b∈S::wr:=λb hb=>mem_cons_of_mem _ hb;intro k
 induction k with
 |zero=>
  intro i s ks hk hi _ hst hS hR;have:i=n:=by omega
  subst this;refine codeAny_builtin PyProof.Rows.F.entry_set_update_loop ?_;rw[Around.under_plainId PyProof.Rows.F.plain_set_update_loop _];show wpAny _ A.in1 (pyNext (.ref I) >>= _) _ _ s;refine wpAny_bind (W.done s _ _ hst λs' hm=>?_);show wpAny _ A.in1 (ret Value.none) _ _ s';exact wpAny_pure (hR s' (hm.mono sub) (hS.frame λo e=>hm.heap S _ YE e))
 |succ k ih=>
  intro i s ks hk hi hl hst hS hR;have hlt:i<n:=by omega
  refine codeAny_builtin PyProof.Rows.F.entry_set_update_loop ?_;rw[Around.under_plainId PyProof.Rows.F.plain_set_update_loop _];show wpAny _ A.in1 (pyNext (.ref I) >>= _) _ _ s;refine wpAny_bind (W.item i s _ _ hlt hst λv s' hP UD hm=>?_);obtain⟨t,rfl⟩:=hval i v hP;have hS':=hS.frame (h':=s'.heap) λo e=>hm.heap S _ YE e;show wpAny _ A.in1 (holding [Value.int (val i) t] (setAdd S (.int (val i) t)) >>= _) _ _ s';refine wpAny_bind (wpAny_holding ?_);unfold setAdd;refine wpAny_holding (wpAny_bind ((intKind prog w).pyHash (k:=val i) (intKind_is _ _ _ _) ?_));refine add_int (s:={ s' with toks:=s'.toks+1 }) hS' (by omega) λh' b sb S2=>?_;have hl2:=qJ ks (val i);refine wpAny_pure ⟨plainId_quiet PyProof.Rows.F.plain_set_update_loop _,ih (i+1) _ (fq ks (val i)) (by omega) hlt (by omega) (W.frame _ s' _ _ UD (le_succ _) λb hb o e=>?_) S2 λs'' LG S3=>?_⟩
  ·rw[sb.2 b λz=>hSf (by rw[<-z];exact hb)];exact e
  ·refine hR s'' (Moved.trans W.gtrans ((hm.mono sub).then_heap (le_succ _) λb o hb e=>?_) LG) ?_
   ·rw[sb.2 b λz=>hb (by rw[z];exact mem_cons_self)];exact e
   ·rw[List.range'_succ,map_cons,ff];exact S3
noncomputable abbrev qK(w:World):Obj:={ cls:=.type "set",dict:=none,data:=.set #[] 0 (.fresh 0 0 (!sZ w)) }
theorem Hz(e:h.get? a=some (qK w)):pQ prog w h a [] :=
 ⟨_,#[],0,_,e,⟨rfl,rfl,rfl⟩,rfl,λx hx=>by simp at hx,⟨by show 0<4096;decide,rfl,List.Pairwise.nil,rfl⟩,nodup_nil,λk=>by simp,rfl⟩
theorem Dy(a:Value)(h:Q₁ (.ref s.heap.objs.size) { s with heap:=s.heap.push (qK w) }) :
  codeAny (model prog w) A (.call (.builtin "set.__new__") ⟨[.type "set",a],[]⟩) (wants Q₁ E) s:=by
 refine codeAny_of_tree ?_;show wpAny _ A.in1 (do checkBuiltinCall "set.__new__" ⟨[.type "set",a],[]⟩;again (.builtin "set.__new__" ⟨[.type "set",a],[]⟩)) _ _ s;refine wpAny_bind (wpAny_of_eq (PySem.F.newCall_set_1 a) (wpAny_pure ⟨plainId_quiet PySem.F.plain_set_new _,codeAny_builtin PySem.F.entry_set_new ?_⟩));rw[Around.under_plainId PySem.F.plain_set_new _];unfold Builtin.«set.__new__» Builtin.Frozenset.newClass;have hsub:=sub_set_self;obtain⟨hp,g,d,tk,os⟩:=s;dsimp only
 wp_walk
 refine wpAny_askSetting (wpAny_pure ?_);dsimp only;simp only[newObj];refine wpAny_bind (wpAny_alloc (wpAny_pure ?_));exact wpAny_pure h
end
end L2
end
section
namespace L2
open PySem PyProof.Rows
section
variable {prog:Program} {w:World} {A:Around} {E:Value->Shared->Prop} {s:Shared}
theorem za{ns:List Int}(hi:IntsAre vs ns):(range' 0 vs.length).map (λi=>ns.getD i 0)=ns:=by
 have hl:=IntsAre.length hi;apply ext_getElem
 ·rw[length_map,List.length_range',hl]
 ·intro i h1 h2;simp[List.getD,h2]
theorem wJ{ns:List Int}(hh:A.handled=none)(hl:s.heap.IsList l items)(hi:IntsAre items.toList ns)(hb:items.size+1<scanBound)
  (h:∀(h':Heap) (tk:Nat),pQ prog w h' s.heap.objs.size (ff [] ns)->(∀b o,b<s.heap.objs.size->s.heap.get? b=some o->h'.get? b=some o)->Q (.ref s.heap.objs.size) { s with heap:=h',toks:=tk }) :
  wpAny (model prog w) A (call (.type "set") [.ref l]) Q E s:=by
 obtain⟨c,tl,mro⟩:=PySem.F.called_set.mro;have made:=PySem.F.called_set.made;have sub:=PySem.F.called_set.sub;refine wpAny_call (codeAny_of_tree ?_);show wpAny _ _ (callAny (.type "set") _) _ _ _;refine wpAny_pure ⟨Code.quiet_builtin _ (by decide +kernel),codeAny_builtin PySem.F.entry_type_call ?_⟩;rw[Around.under_plain (weight_type_call_type "set" [.ref l] []) rfl];have n1:=PySem.F.called_set.notType;have n2:=PySem.F.called_set.canCreate;have n3:=PySem.F.typeCall_set_1 (.ref l)
 repeat (any_goals (first|assumption|wp_step))
 refine codeAny_mono (Dy (.ref l) (E:=E) (Q₁:=λobj s₁=>obj=.ref s.heap.objs.size/\s₁={ s with heap:=s.heap.push (qK w) }) ⟨rfl,rfl⟩) λr s₁ hr=>?_;cases r with
 |error e=>exact hr
 |ok fl=>
  cases fl with
  |ret obj=>
   obtain⟨rfl,rfl⟩:=hr;have YF:(s.heap.push (qK w)).get? s.heap.objs.size=some (qK w):=get?_push_size _ rfl;have hT:Shared.TypeIs { s with heap:=s.heap.push (qK w) } (.ref s.heap.objs.size) "set":=⟨_,YF,rfl⟩;have look:=PySem.F.called_set.init.lookup;have bind:=PySem.F.called_set.init.bind (.ref s.heap.objs.size)
   repeat (any_goals (first|assumption|wp_step))
   refine codeAny_mono (codeAny_call_builtin (R:=wants (λr s₂=>r=.none/\∃h' tk,s₂={ s with heap:=h',toks:=tk }/\pQ prog w h' s.heap.objs.size (ff [] ns) /\
     (∀b o,b<s.heap.objs.size->s.heap.get? b=some o->h'.get? b=some o)) E) PySem.F.called_set.init.plain PySem.F.entry_set_init (check_set_init_1 hT ?_)) λr₂ s₂ UE=>?_
   ·obtain⟨ol,YG,cl,nl,dl⟩:=hl
    obtain⟨oc,od,oda,os⟩:=ol;simp only at cl dl;subst cl;subst dl;have UG:(s.heap.push (qK w)).get? l=some { cls:=.type "list",dict:=od,data:=.seq items nl,slots:=os }:=get?_push_of_some _ YG;have q1:=PySem.F.sub_list_set;have q2:=PySem.F.sub_list_frozenset;have q3:(Value.type "list" == Value.type "dict")=false:=by decide
    have hl1:(s.heap.push (qK w)).IsList l items:=⟨_,UG,rfl,nl,rfl⟩;unfold Builtin.«set.__init__» noKeywords Builtin.Frozenset.updateFrom;generalize hPI:pyIter=PI
    wp_walk
    subst hPI;refine wpAny_pyIter_list hl1 (wpAny_bind (wpAny_runValue ?_));have lS:l<s.heap.objs.size:=lt_size YG;have h3:A.in1.in1.in1.handled=none:=by simp[hh]
    have neI:l≠(s.heap.push (qK w)).objs.size:=by rw[size_push];exact ne_of_lt (lt_succ_of_lt lS)
    have sF:s.heap.objs.size∉[(s.heap.push (qK w)).objs.size,l]:=by rw[size_push];simp only[mem_cons,not_mem_nil,or_false,not_or];exact⟨ne_of_lt (lt_succ_self _),Nat.ne_of_gt lS⟩
    have val:∀(i:Nat) (v:Value),items[i]?=some v->∃t,v=.int ((λi=>ns.getD i 0) i) t:=λi v hv=>IntsAre.int_at hi i v (by rw[getElem?_toList];exact hv);refine Dw ((Walks.list h3 _ l neI items).toS) s.heap.objs.size sF (λi=>ns.getD i 0) val (items.size-0) 0 _ [] (by omega) (zero_le _) (by simpa using hb) ⟨⟨_,get?_push_size _ rfl,rfl,rfl⟩,hl1.push _⟩ ?s0 ?sR
    case s0=>exact Hz (get?_push_of_some _ YF)
    case sR=>
     intro s' hm S';obtain⟨h',g',d',tk',os'⟩:=s';have eg:g'=s.gens:=hm.gens;have ed:d'=s.drawn:=hm.drawn;have eo:os'=s.os:=hm.os;subst eg;subst ed;subst eo;refine wpAny_pure ?_;show wpAny _ _ (ret Value.none) _ _ _;have e0:(range' 0 (items.size-0)).map (λi=>ns.getD i 0)=ns:=by have:=za hi;rw[length_toList]at this;exact this
     rw[e0] at S';refine wpAny_pure ⟨rfl,h',tk',rfl,S',λb o hb e=>?_⟩;have b1:b≠s.heap.objs.size:=ne_of_lt hb;have b2:b≠(s.heap.push (qK w)).objs.size:=by rw[size_push];exact ne_of_lt (lt_succ_of_lt hb)
     exact hm.heap b o (by simp only[mem_cons,not_mem_nil,or_false,not_or];exact⟨b1,b2⟩) (get?_push_of_some _ (get?_push_of_some _ e))
   ·cases r₂ with
    |error e=>exact UE
    |ok fl₂=>
     cases fl₂ with
     |ret r=>
      obtain⟨rfl,h',tk,rfl,S',hk⟩:=UE
      repeat (any_goals (first|assumption|wp_step))
      exact h _ _ S' hk
     |_=>exact UE.elim
  |_=>exact hr.elim
end
end L2
end
section
namespace L2
open PySem PyProof.Rows
namespace SI
theorem zb:entryFor table "set.__iter__" = some Builtin.«frozenset.__iter__» :=
 entryFor_alias (id':="frozenset.__iter__") (by kernel_rfl) rfl (by decide +kernel) (by kernel_rfl)
theorem owner:Manifest.owners.lookup (String.ofList ['r','o','t','a','r','e','t','i','_','t','e','s'].reverse)=some Manifest.sig_set_iterator:=by kernel_rfl
theorem slot_next:Slot "set_iterator" "__next__" "set_iterator.__next__" :=
 .of (owner:="set_iterator") (n:="__next__") (by rw[typeLookup_type,builtinLookup_eq_fast];kernel_rfl) (by decide +kernel) (by decide +kernel) (by decide +kernel) (by first|exact .inl (by decide +kernel)|exact .inr (by decide +kernel)) (by rw[isSubtype_type];kernel_rfl)
theorem entry_next:entryFor table "set_iterator.__next__" = some Builtin.«set_iterator.__next__»:=entryFor_of_tree (by kernel_rfl)
theorem args_next(a:Value):argsOk "set_iterator.__next__" ⟨[a],[]⟩:=by
 unfold argsOk;rw[signature?_of (id:="set_iterator.__next__") (n:=['_','_','t','x','e','n','_','_']) (o:=['r','o','t','a','r','e','t','i','_','t','e','s']) (by kernel_rfl) owner];kernel_rfl
theorem ua:Slot "set_iterator" "__iter__" "set_iterator.__iter__" :=
 .of (owner:="set_iterator") (n:="__iter__") (by rw[typeLookup_type,builtinLookup_eq_fast];kernel_rfl) (by decide +kernel) (by decide +kernel) (by decide +kernel) (by first|exact .inl (by decide +kernel)|exact .inr (by decide +kernel)) (by rw[isSubtype_type];kernel_rfl)
theorem entry_self:entryFor table "set_iterator.__iter__" = some Builtin.«dict_keyiterator.__iter__» :=
 entryFor_alias (id':="dict_keyiterator.__iter__") (by kernel_rfl) rfl (by decide +kernel) (by kernel_rfl)
theorem BH(a:Value):argsOk "set_iterator.__iter__" ⟨[a],[]⟩:=by
 unfold argsOk;rw[signature?_of (id:="set_iterator.__iter__") (n:=['_','_','r','e','t','i','_','_']) (o:=['r','o','t','a','r','e','t','i','_','t','e','s']) (by kernel_rfl) owner];kernel_rfl
end SI
section
variable {prog:Program} {w:World} {A:Around} {E:Value->Shared->Prop} {s:Shared}
noncomputable def fW(h:Heap)(it:Addr)(f:Value)(i:Nat)(a:Addr)(n ep:Nat):Prop:=∃o,h.get? it=some o/\o.cls=.type "set_iterator" /\ o.data=.fields #[f,.int i 0,.ref a,.int n 0,.int ep 0]
theorem fW.typeIs{i:Nat}{n ep:Nat}(x:fW s.heap it f i a n ep):s.TypeIs (.ref it) "set_iterator":=let ⟨o,ho,hc,_⟩:=x;⟨o,ho,hc⟩
theorem nX{i:Nat}{n ep:Nat}(x:fW s.heap it f i a n ep)(h:Q (.ref it) s):wpAny (model prog w) A (pyIter (.ref it)) Q E s:=by
 refine wpAny_pyIter_slot x.typeIs SI.ua (wpAny_call_entry SI.ua x.typeIs SI.entry_self ?_ (SI.BH _));exact wpAny_pure ⟨_,rfl,"set_iterator",_,x.typeIs,SI.slot_next.lookup,h⟩
end
end L2
end
section
namespace L2
open PySem PyProof.Rows
section
variable {prog:Program} {w:World} {A:Around} {E:Value->Shared->Prop} {s:Shared}
theorem ja{ep:Nat}(ho:s.heap.get? a=some o)(hd:o.data=.set es ep t)(hf:t.fits es.size=true)(h:Q es s):wpAny (model prog w) A (setEntries a) Q E s:=by
 unfold setEntries;exact wpAny_bind (wpAny_setState_of ho hd hf (wpAny_pure h))
theorem ly(h:Q (sZ w) s):wpAny (model prog w) A setsByText Q E s:=by
 unfold setsByText;exact wpAny_bind (wpAny_askSetting (wpAny_pure h))
theorem uc{ep sl g:Nat}{ks:List Int}(S:fk prog w s.heap a o es ep t ks)(hb:sZ w=false)(hp:(!t.plain&&decide (es.size>1))=false)
  (hQ:Q (match es[SetTable.below t.place sl]?,t.place[SetTable.below t.place sl]? with|some (_,x),some j=>some (x,j+1)|_,_=>none) s):wpAny (model prog w) A (setNext a sl g ep) Q E s:=by
 have led:t.led=true:=by rw[S.tab.led,hb];rfl
 unfold setNext;refine wpAny_bind (wpAny_setState_of S.at_ S.dat S.tab.fit ?_);dsimp only;refine wpAny_bind (ly ?_);rw[hb];simp only[false_eq_true,↓reduceIte];rw[if_neg (λz=>by
  have z':(!t.plain&&decide (es.size>1))=true:=z;rw[hp]at z';cases z')]
 refine wpAny_bind ?_;show wpAny _ _ (if (!t.led && !es.isEmpty)=true then Sem.unsupported "set:maker-not-led" else pure ()) _ _ _;rw[if_neg (by rw[led];simp)];exact wpAny_pure (wpAny_pure hQ)
theorem ud{ep sl g:Nat}{ks:List Int}(S:fk prog w s.heap a o es ep t ks)(hb:sZ w=true)
  (hQ:Q (((pickOrder (w.params.setOrder a ep) es)[g]?).map λe=>(e.2,sl)) s):wpAny (model prog w) A (setNext a sl g ep) Q E s:=by
 unfold setNext;refine wpAny_bind (wpAny_setState_of S.at_ S.dat S.tab.fit ?_);dsimp only;refine wpAny_bind (ly ?_);rw[hb];simp only[bne_self_eq_false,false_eq_true,↓reduceIte];unfold setWalk;refine wpAny_bind (wpAny_bind (wpAny_setState_of S.at_ S.dat S.tab.fit ?_));dsimp only;refine wpAny_bind (ly ?_);rw[hb];simp only[↓reduceIte];exact wpAny_bind (wpAny_askSetting (wpAny_pure (wpAny_pure hQ)))
theorem mQ{ep:Nat}{ks:List Int}{i sl:Nat}(hh:A.handled=none)(x:fW s.heap it (.int sl 0) i a es.size ep)(S:fk prog w s.heap a o es ep t ks)
  (hn:∀(A:Around) (E:Value->Shared->Prop) (Q:Option (Value×Nat)->Shared->Prop),Q r s->wpAny (model prog w) A (setNext a sl i ep) Q E s)
  (hQ:∀v nx,r=some (v,nx)->∀h',fW h' it (.int (nx:Nat) 0) (i+1) a es.size ep->Heap.SameBut it s.heap h'->Q (some v) { s with heap:=h' })
  (hE:r=none->∀h',Heap.ExtBut it s.heap h'->Q none { s with heap:=h' }):wpAny (model prog w) A (pyNext (.ref it)) Q E s:=by
 obtain⟨oi,Gj,UH,hdi⟩:=id x;unfold pyNext;refine wpAny_bind (wpAny_attempt (wpAny_callSpecial?_slot (name:=Str.ofString "__next__") x.typeIs SI.slot_next (wpAny_call_entry SI.slot_next x.typeIs SI.entry_next ?_ (SI.args_next _))));unfold Builtin.«set_iterator.__next__»;refine wpAny_bind (wpAny_pure ?_);refine wpAny_bind (wpAny_fieldsOf Gj hdi ?_);dsimp only;refine wpAny_bind (ja S.at_ S.dat S.tab.fit ?_);rw[if_neg (by simp)];refine wpAny_bind (hn _ _ _ ?_);cases r with
 |some p=>
  obtain⟨v,nx⟩:=p;dsimp only;refine wpAny_bind (wpAny_setField Gj hdi (by simp) ?_);have h1:=get?_update_self (Obj.mapFields (·.setIfInBounds 0 (rawInt nx))) Gj (Obj.isFreed_of_fields (Obj.data_mapFields hdi _));have d1:=Obj.data_mapFields hdi (·.setIfInBounds 0 (rawInt nx));refine wpAny_bind (wpAny_setField h1 d1 (by simp) ?_);have h2:=get?_update_self (Obj.mapFields (·.setIfInBounds 1 (rawInt ((i:Int)+1)))) h1 (Obj.isFreed_of_fields (Obj.data_mapFields d1 _));refine wpAny_pure ⟨_,rfl,wpAny_pure (hQ v nx rfl _ ⟨_,h2,?_,?_⟩ ((Heap.SameBut.update ..).trans (Heap.SameBut.update ..)))⟩
  ·rw[Obj.cls_mapFields,Obj.cls_mapFields];exact UH
  ·rw[Obj.data_mapFields d1];simp[rawInt]
 |none=>dsimp only;refine wpAny_bind (wpAny_setField Gj hdi (by simp) ?_);refine wpAny_bind ?_;simp only[newExc,newTuple];refine wpAny_bind (wpAny_newObj_type ?_ (by size_fits));refine wpAny_bind (m:=firstArgMember _ _) (wpAny_of_eq (a:=Value.none) (by first|rfl|(simp only[firstArgMember];rfl)) ?_);refine wpAny_newObj_type ?_ (by size_fits);simp only[raiseNew];refine wpAny_bind (wpAny_handled ?_);rw[show A.in1.handled=none from hh];refine wpAny_bind (wpAny_pure (wpAny_throw ?_));refine wpAny_bind (wpAny_isInstance (T:="StopIteration") (b:=true) ⟨_,get?_push_size _ rfl,rfl⟩ isSubtype_stop ?_);exact wpAny_pure (hE rfl _ (((Heap.SameBut.update ..).extBut.push _).push _))
end
end L2
end
section
namespace L2
open PySem PyProof.Rows
theorem mC{α:Type}:∀(l:List α) (i:Nat) (h:i<l.length),(l[i]::l.eraseIdx i).Perm l
 |x::l,0,_=>List.Perm.refl _
 | x::l,i+1,h=>by
  simp only[List.getElem_cons_succ,List.eraseIdx_cons_succ];exact(List.Perm.swap _ _ _).trans (List.Perm.cons x (mC l i (by simpa using h)))
section
variable {prog:Program} {w:World} {A:Around} {E:Value->Shared->Prop} {s:Shared}
theorem BI{n:Nat}(hn:n≠0)(h:∀i d,i<n->Q i { s with drawn:=d }):wpAny (model prog w) A (choose src n) Q E s:=fun Γ p hΓ=>by
 show Sem.wp _ _ (Sem.choose src n Sem.pure) _ _ _ _;rw[Sem.wp];exact⟨hn,h _ _ (mod_lt _ (Nat.pos_of_ne_zero hn))⟩
theorem z8{α:Type}:∀(n:Nat) (xs:List α) (s:Shared) (Q:List α -> Shared->Prop),xs.length=n->(∀ys d,ys.Perm xs->Q ys { s with drawn:=d })->wpAny (model prog w) A (drawOrder n xs) Q E s
 | 0,xs,s,Q,hl,h=>by
  have:xs=[]:=List.eq_nil_of_length_eq_zero hl;subst this;unfold drawOrder;exact wpAny_pure (h [] s.drawn (List.Perm.refl _))
 |n+1,[],s,Q,hl,h=>by simp at hl
 | n+1,x::xs,s,Q,hl,h=>by
  unfold drawOrder;refine wpAny_bind (BI (by simp) λi d hi=>?_);have hx:(x::xs)[i]?=some ((x::xs)[i]):=List.getElem?_eq_getElem hi;rw[hx];dsimp only;refine wpAny_bind (z8 n ((x::xs).eraseIdx i) _ _ (by rw[List.length_eraseIdx,if_pos hi];simp at hl |-;omega) λys d' p=>wpAny_pure ?_);exact h _ d' (((List.Perm.cons _ p).trans (mC _ i hi)))
theorem qL{ep c:Nat}{ks:List Int}{i:Nat}{ps:List Nat}(hh:A.handled=none)(x:fW s.heap it (.ref td) i a es.size ep)(S:fk prog w s.heap a o es ep t ks)
  (hT:s.heap.get? td=some oT) (SV:oT.data=.seq (ps.map λ(j:Nat)=>rawInt j).toArray c) (hlt:∀j∈ps,j<es.size)
  (hQ:∀j e,ps[i]?=some j->es[j]?=some e->∀h',fW h' it (.ref td) (i+1) a es.size ep->Heap.SameBut it s.heap h'->Q (some e.2) { s with heap:=h' })
  (hE:ps[i]?=none->∀h',Heap.ExtBut it s.heap h'->Q none { s with heap:=h' }):wpAny (model prog w) A (pyNext (.ref it)) Q E s:=by
 obtain⟨oi,Gj,UH,hdi⟩:=id x;unfold pyNext;refine wpAny_bind (wpAny_attempt (wpAny_callSpecial?_slot (name:=Str.ofString "__next__") x.typeIs SI.slot_next (wpAny_call_entry SI.slot_next x.typeIs SI.entry_next ?_ (SI.args_next _))));unfold Builtin.«set_iterator.__next__»;refine wpAny_bind (wpAny_pure ?_);refine wpAny_bind (wpAny_fieldsOf Gj hdi ?_);dsimp only;refine wpAny_bind (ja S.at_ S.dat S.tab.fit ?_);rw[if_neg (by simp)];refine wpAny_bind (wpAny_seqItems hT SV ?_);dsimp only;have hg:((ps.map λ(j:Nat)=>rawInt j).toArray)[((i:Nat):Int).toNat]?=(ps[i]?).map λ(j:Nat)=>rawInt j:=by simp
 rw[hg];cases hp:ps[i]? with
 |some j=>
  have hj:j<es.size:=hlt j (mem_of_getElem? hp);simp only[map_some,rawInt];refine wpAny_bind ?_;unfold setNextDrawn;refine wpAny_bind (wpAny_setState_of S.at_ S.dat S.tab.fit ?_);dsimp only;rw[if_neg (by simp)];have hej:es[((j:Nat):Int).toNat]?=some es[j]:=by simp[hj]
  rw[hej];refine wpAny_pure ?_;refine wpAny_bind (wpAny_setField Gj hdi (by simp) ?_);have h2:=get?_update_self (Obj.mapFields (·.setIfInBounds 1 (.int ((i:Int)+1) 0))) Gj (Obj.isFreed_of_fields (Obj.data_mapFields hdi _));refine wpAny_pure ⟨_,rfl,wpAny_pure (hQ j _ hp (Array.getElem?_eq_getElem hj) _ ⟨_,h2,?_,?_⟩ (Heap.SameBut.update ..))⟩
  ·rw[Obj.cls_mapFields];exact UH
  ·rw[Obj.data_mapFields hdi];simp
 |none=>simp only[Option.map_none];refine wpAny_bind (wpAny_setField Gj hdi (by simp) ?_);have h1:=get?_update_self (Obj.mapFields (·.setIfInBounds 0 (rawInt 0))) Gj (Obj.isFreed_of_fields (Obj.data_mapFields hdi _));have d1:=Obj.data_mapFields hdi (·.setIfInBounds 0 (rawInt 0));refine wpAny_bind (wpAny_setField h1 d1 (by simp) ?_);refine wpAny_bind ?_;simp only[newExc,newTuple];refine wpAny_bind (wpAny_newObj_type ?_ (by size_fits));refine wpAny_bind (m:=firstArgMember _ _) (wpAny_of_eq (a:=Value.none) (by first|rfl|(simp only[firstArgMember];rfl)) ?_);refine wpAny_newObj_type ?_ (by size_fits);simp only[raiseNew];refine wpAny_bind (wpAny_handled ?_);rw[show A.in1.handled=none from hh];refine wpAny_bind (wpAny_pure (wpAny_throw ?_));refine wpAny_bind (wpAny_isInstance (T:="StopIteration") (b:=true) ⟨_,get?_push_size _ rfl,rfl⟩ isSubtype_stop ?_);exact wpAny_pure (hE hp _ ((((Heap.SameBut.update ..).trans (Heap.SameBut.update ..)).extBut.push _).push _))
end
end L2
end
section
namespace L2
open PySem PyProof.Rows
theorem ue{α:Type}(f:Nat->Nat):∀(n k:Nat) (l:List α) (out:Array α),l.length=n->(pickOrder.go f n k l out).toList.Perm (out.toList++l)
 | 0,k,l,out,h=>by
  have:l=[]:=List.eq_nil_of_length_eq_zero h;subst this;unfold pickOrder.go;simp
 | n+1,k,l,out,h=>by
  unfold pickOrder.go;have hl:0<l.length:=by omega
  have hi:f k%l.length<l.length:=mod_lt _ hl;rw[List.getElem?_eq_getElem hi];dsimp only;refine(ue f n (k+1) _ _ (by rw[List.length_eraseIdx,if_pos hi];omega)).trans ?_;rw[Array.toList_push,List.append_assoc];exact List.Perm.append_left _ (mC l _ hi)
theorem uf{t:SetTable}{n:Nat}(h:t.fits n=true):t.place.size=n:=by
 simp only[SetTable.fits,and_eq_true,beq_iff_eq]at h;exact h.1
noncomputable def SW(t:SetTable):Nat->Nat
 |0=>0
 |i+1=>t.place.getD i 0+1
theorem ug(r:t8 t.place):∀i,i<=t.place.size->SetTable.below t.place (SW t i)=i
 |0,_=>yZ r
 | i+1,h=>by
  have hi:i<t.place.size:=h;have e:SW t (i+1)=t.place[i]+1:=by simp[SW,Array.getD,hi]
  rw[e];exact y9 r hi
section
variable {prog:Program} {w:World} {A:Around} {E:Value->Shared->Prop} {s:Shared}
theorem fk.keep{ep:Nat}{ks:List Int}(S:fk prog w h a o es ep t ks)(k:∀o,h.get? a=some o->h'.get? a=some o):fk prog w h' a o es ep t ks:={ S with at_:=k o S.at_ }
theorem fW.keep{i:Nat}{n ep:Nat}(x:fW h it f i a n ep)(k:∀o,h.get? it=some o->h'.get? it=some o):fW h' it f i a n ep:=by
 obtain⟨o,ho,r⟩:=x;exact⟨o,k o ho,r⟩
noncomputable def PL(L:List (Int×Value))(i:Nat)(v:Value):Prop:=∃e,L[i]?=some e/\v=e.2
theorem BJ(hh:A.handled=none){ep:Nat}{ks:List Int}(hne:a≠I)(hb:sZ w=false)(hp:(!t.plain&&decide (es.size>1))=false) :
  Walks prog w A I [I,a] [I] es.toList.length (PL es.toList) (λi h=>fk prog w h a o es ep t ks/\fW h I (.int (SW t i) 0) i a es.size ep) where
 sub:=λb hb=>by simp at hb;simp[hb]
 frame:=λ_ _ _ st hk=>⟨st.1.keep λo e=>hk a (by simp) o e,st.2.keep λo e=>hk I (by simp) o e⟩
 item:=λi s Q E hi st hQ=>by
  have hi:i<es.size:=by simpa using hi
  have hz:=uf st.1.tab.fit;have hb':=ug st.1.tab.rs i (by rw[hz];exact Nat.le_of_lt hi);refine mQ (r:=some (es[i].2,t.place.getD i 0+1)) hh st.2 st.1 (λA E Q q=>uc st.1 hb hp ?_) (λv nx e h' x' sb=>?_) (λe=>nomatch e)
  ·rw[hb',Array.getElem?_eq_getElem hi,Array.getElem?_eq_getElem (by rw[hz];exact hi)]
   have e1:t.place[i]'(by rw[hz];exact hi)=t.place.getD i 0:=by simp[Array.getD,hz,hi]
   dsimp only;rw[e1];exact q
  ·cases e;exact hQ _ h' s.toks ⟨es[i],by simp[hi],rfl⟩ ⟨st.1.keep λo e=>sb.extBut a o hne e,x'⟩ λb o hb e=>sb.extBut b o (λz=>hb (by simp[z])) e
 done:=λs Q E st hQ=>by
  have hz:=uf st.1.tab.fit;have hb':=ug st.1.tab.rs es.toList.length (by rw[hz];simp);refine mQ (r:=none) hh st.2 st.1 (λA E Q q=>uc st.1 hb hp ?_) (λv nx e=>nomatch e) (λ_ h' sb=>hQ h' s.toks λb o hb e=>sb b o (λz=>hb (by simp[z])) e);rw[hb',Array.getElem?_eq_none (by simp)];exact q
 self:=λ_ _ _ _ st hQ=>nX st.2 hQ
theorem BK(hh:A.handled=none){ep:Nat}{ks:List Int}(hne:a≠I)(hb:sZ w=true) :
  Walks prog w A I [I,a] [I] (pickOrder (w.params.setOrder a ep) es).toList.length (PL (pickOrder (w.params.setOrder a ep) es).toList) (λi h=>fk prog w h a o es ep t ks/\fW h I (.int (0:Nat) 0) i a es.size ep) where
 sub:=λb hb=>by simp at hb;simp[hb]
 frame:=λ_ _ _ st hk=>⟨st.1.keep λo e=>hk a (by simp) o e,st.2.keep λo e=>hk I (by simp) o e⟩
 item:=λi s Q E hi st hQ=>by
  have hi:i<(pickOrder (w.params.setOrder a ep) es).size:=by simpa using hi
  refine mQ (r:=some ((pickOrder (w.params.setOrder a ep) es)[i].2,0)) hh st.2 st.1 (λA E Q q=>ud st.1 hb ?_) (λv nx e h' x' sb=>?_) (λe=>nomatch e)
  ·rw[Array.getElem?_eq_getElem hi];exact q
  ·cases e;exact hQ _ h' s.toks ⟨(pickOrder (w.params.setOrder a ep) es)[i],by simp[hi],rfl⟩ ⟨st.1.keep λo e=>sb.extBut a o hne e,x'⟩ λb o hb e=>sb.extBut b o (λz=>hb (by simp[z])) e
 done:=λs Q E st hQ=>by
  refine mQ (r:=none) hh st.2 st.1 (λA E Q q=>ud st.1 hb ?_) (λv nx e=>nomatch e) (λ_ h' sb=>hQ h' s.toks λb o hb e=>sb b o (λz=>hb (by simp[z])) e);rw[Array.getElem?_eq_none (by simp)];exact q
 self:=λ_ _ _ _ st hQ=>nX st.2 hQ
theorem zc(hh:A.handled=none){ep c:Nat}{ks:List Int}{ps:List Nat}(hne:a≠I)(hnt:td≠I)(hlt:∀j∈ps,j<es.size)(SV:oT.data=.seq (ps.map λ(j:Nat)=>rawInt j).toArray c) :
  Walks prog w A I [I,a,td] [I] ps.length (PL (ps.map λj=>es.getD j (0,.none))) (λi h=>fk prog w h a o es ep t ks/\fW h I (.ref td) i a es.size ep/\h.get? td=some oT) where
 sub:=λb hb=>by simp at hb;simp[hb]
 frame:=λ_ _ _ st hk=>⟨st.1.keep λo e=>hk a (by simp) o e,st.2.1.keep λo e=>hk I (by simp) o e,hk td (by simp) _ st.2.2⟩
 item:=λi s Q E hi st hQ=>by
  refine qL hh st.2.1 st.1 st.2.2 SV hlt (λj e hj he h' x' sb=>?_) (λhn=>absurd hn (by rw[List.getElem?_eq_getElem hi];simp));refine hQ _ h' s.toks ⟨e,?_,rfl⟩ ⟨st.1.keep λo e=>sb.extBut a o hne e,x',sb.extBut td _ hnt st.2.2⟩ λb o hb e=>sb.extBut b o (λz=>hb (by simp[z])) e;rw[getElem?_map,hj];have hjl:j<es.size:=(Array.getElem?_eq_some_iff.mp he).1;have:=(Array.getElem?_eq_some_iff.mp he).2;simp[Array.getD,hjl,this]
 done:=λs Q E st hQ=>qL hh st.2.1 st.1 st.2.2 SV hlt (λj e hj=>absurd hj (by simp)) (λ_ h' sb=>hQ h' s.toks λb o hb e=>sb b o (λz=>hb (by simp[z])) e)
 self:=λ_ _ _ _ st hQ=>nX st.2.1 hQ
end
end L2
end
section
namespace L2
open PySem PyProof.Rows
section
variable {prog:Program} {w:World} {A:Around} {E:Value->Shared->Prop} {s:Shared}
theorem Dz{ep:Nat}{ks:List Int}(S:fk prog w s.heap a o es ep t ks)(h:Q (!sZ w&&(!t.plain&&decide (es.size>1))) s):wpAny (model prog w) A (setDrawn a) Q E s:=by
 unfold setDrawn;refine wpAny_bind (wpAny_setState_of S.at_ S.dat S.tab.fit ?_);dsimp only;exact wpAny_bind (ly (wpAny_pure h))
theorem wK{ep:Nat}{ks:List Int}(S:fk prog w s.heap a o es ep t ks)(h:Q ep s):wpAny (model prog w) A (setEpoch a) Q E s:=wpAny_setEpoch_of S.at_ S.dat S.tab.fit h
theorem DA(hh:A.handled=none){ep:Nat}{ks:List Int}(S:fk prog w s.heap a o es ep t ks)
  (hQ:∀(h':Heap) d (I:Addr) (fp:List Addr) (L:List (Int×Value)) (St:Nat->Heap->Prop),L.Perm es.toList->Walks prog w A I fp [I] L.length (PL L) St->St 0 h'->s.heap.objs.size<=I->I<h'.objs.size->(∀b∈fp,b=a\/s.heap.objs.size<=b)->(∀b o,s.heap.get? b=some o->h'.get? b=some o)->Q (.ref I) { s with heap:=h',drawn:=d }) :
  wpAny (model prog w) A (pyIter (.ref a)) Q E s:=by
 have hT:s.TypeIs (.ref a) "set":=⟨o,S.at_,S.ex.1⟩;have hlt:a<s.heap.objs.size:=lt_size S.at_;refine wpAny_pyIter_slot hT PySem.F.slot_set_iter (wpAny_call_entry PySem.F.slot_set_iter hT SI.zb ?_ (PySem.F.args_set_iter_1 _));unfold Builtin.«frozenset.__iter__» Builtin.Frozenset.slot0 Builtin.Frozenset.sizeOf;refine wpAny_bind (wpAny_bind (wpAny_pure (wpAny_pure ?_)));refine wpAny_bind (wpAny_bind (ja S.at_ S.dat S.tab.fit (wpAny_pure ?_)));refine wpAny_bind (Dz S ?_);cases hd:(!sZ w&&(!t.plain&&decide (es.size>1))) with
 |false=>
  simp only[false_eq_true,↓reduceIte];refine wpAny_bind (wpAny_pure ?_);refine wpAny_bind (wK S ?_);refine wpAny_bind (wpAny_newObj_type (wpAny_pure ⟨_,rfl,"set_iterator",_,⟨_,get?_push_size _ rfl,rfl⟩,SI.slot_next.lookup,?_⟩));have e:s={ s with drawn:=s.drawn }:=by cases s;rfl
  have YH:∀b∈[s.heap.objs.size,a],b=a\/s.heap.objs.size<=b:=λb hb=>by
   simp only[mem_cons,not_mem_nil,or_false]at hb
   rcases hb with rfl|rfl
   ·exact .inr (Nat.le_refl _)
   ·exact .inl rfl
  have sz:s.heap.objs.size<(s.heap.push { cls:=.type "set_iterator",data:=.fields ([rawInt 0,rawInt 0,.ref a,rawInt es.size,rawInt ep]:List Value).toArray }).objs.size:=by rw[size_push];exact lt_succ_self _
  cases hb:sZ w with
  |true=>exact hQ _ s.drawn _ _ _ _ (ue _ _ 0 es.toList #[] (by simp)) (BK hh (ne_of_lt hlt) hb) ⟨S.keep λo e=>get?_push_of_some _ e,⟨_,get?_push_size _ rfl,rfl,rfl⟩⟩ (Nat.le_refl _) sz YH λb o e=>get?_push_of_some _ e
  |false=>rw[hb]at hd;exact hQ _ s.drawn _ _ _ _ (List.Perm.refl _) (BJ hh (ne_of_lt hlt) hb (by simpa using hd)) ⟨S.keep λo e=>get?_push_of_some _ e,⟨_,get?_push_size _ rfl,rfl,rfl⟩⟩ (Nat.le_refl _) sz YH λb o e=>get?_push_of_some _ e
 |true=>
  simp only[↓reduceIte];refine wpAny_bind (z8 es.size (List.range es.size) s _ (by simp) λps d pp=>?_);refine wpAny_bind ?_;simp only[newTuple];refine wpAny_newObj_type ?_ (by show (toArray _).size<=sizeLine;rw[size_toArray,length_map,pp.length_eq,length_range];exact fits_of_scanBound S.tab.few);have S1:fk prog w (s.heap.push { cls:=.type "tuple",data:=.seq (ps.map λ(i:Nat)=>rawInt i).toArray }) a o es ep t ks:=S.keep λo e=>get?_push_of_some _ e;refine wpAny_bind (wK S1 ?_);refine wpAny_bind (wpAny_newObj_type (wpAny_pure ⟨_,rfl,"set_iterator",_,⟨_,get?_push_size _ rfl,rfl⟩,SI.slot_next.lookup,?_⟩));have hpl:∀j∈ps,j<es.size:=λj hj=>by simpa using pp.mem_iff.mp hj
  have perm:(ps.map λj=>es.getD j (0,Value.none)).Perm es.toList:=by
   have e2:(List.range es.size).map (λj=>es.getD j (0,Value.none))=es.toList:=by
    apply ext_getElem
    ·simp
    ·intro i h1 h2
     have hi:i<es.size:=by simpa using h2
     simp[Array.getD,hi]
   rw[<-e2];exact pp.map _
  have z1:(s.heap.push { cls:=.type "tuple",data:=.seq (ps.map λ(i:Nat)=>rawInt i).toArray }).objs.size=s.heap.objs.size+1:=size_push _ _;have W:=zc (prog:=prog) (w:=w) (A:=A) (o:=o) (ep:=ep) (t:=t) (ks:=ks) hh (I:=s.heap.objs.size+1) (a:=a) (td:=s.heap.objs.size) (oT:={ cls:=.type "tuple",data:=.seq (ps.map λ(i:Nat)=>rawInt i).toArray }) (es:=es) (c:=0) (ps:=ps) (ne_of_lt (lt_succ_of_lt hlt)) (ne_of_lt (lt_succ_self _)) hpl rfl;rw[show ps.length=(ps.map λj=>es.getD j (0,Value.none)).length by simp] at W;rw[z1];refine hQ _ d _ _ _ _ perm W ⟨S1.keep λo e=>get?_push_of_some _ e,⟨{ cls:=.type "set_iterator",data:=.fields ([.ref s.heap.objs.size,rawInt 0,.ref a,rawInt es.size,rawInt ep]:List Value).toArray },?_,rfl,rfl⟩,get?_push_of_some _ (get?_push_size _ rfl)⟩ (le_succ _) ?_ ?_ λb o e=>get?_push_of_some _ (get?_push_of_some _ e)
  ·rw[<-z1];exact get?_push_size _ rfl
  ·rw[size_push,z1];exact lt_succ_self _
  ·intro b hb
   simp only[mem_cons,not_mem_nil,or_false]at hb
   rcases hb with rfl|rfl|rfl
   ·exact .inr (le_succ _)
   ·exact .inl rfl
   ·exact .inr (Nat.le_refl _)
end
end L2
end
section
namespace L2
open PySem PyProof.Rows
section
variable {prog:Program} {w:World} {A:Around} {E:Value->Shared->Prop} {s:Shared}
theorem DC(hT:s.TypeIs (.ref r) "set")(h:Q false s):wpAny (model prog w) A (Builtin.List.listLengthHint (.ref r)) Q E s:=by
 unfold Builtin.List.listLengthHint;refine wpAny_bind (wpAny_specialOf hT PySem.F.slot_set_len.lookup ?_);generalize hid:("set.__len__":String)=id0
 wp_delta
 rw[show splitId id0=some ("set","__len__") from by subst hid;decide +kernel];subst hid;refine wpAny_bind (wpAny_isInstance (T:="set") (b:=true) hT sub_set_self ?_);refine wpAny_ite_split (λz=>absurd z (by decide)) (λ_=>?_);refine wpAny_ite_split (λ_=>?_) (λz=>absurd (by decide +kernel) z);exact wpAny_bind (wpAny_typeOf hT (wpAny_pure h))
theorem wL(hh:A.handled=none){ep:Nat}{ks:List Int}(S:fk prog w s.heap a o es ep t ks)
  (h:∀(h':Heap) (tk:Nat) d (L:List (Int×Value)),(∀b o,s.heap.get? b=some o->h'.get? b=some o)->s.heap.objs.size<h'.objs.size->L.Perm es.toList->R (L.map (·.2)) { s with heap:=h',toks:=tk,drawn:=d }) :
  wpAny (model prog w) A (collect (.ref a)) R E s:=by
 have hlt:a<s.heap.objs.size:=lt_size S.at_;unfold collect;refine wpAny_bind (wpAny_runValue (codeAny_builtin entry_proto_collect' ?_));rw[Around.under_plainId PySem.F.plain_proto_collect _];show wpAny _ A.in1 (newList [] >>= λl=>again (.builtin "list.__iadd__" ⟨[l,.ref a],[]⟩)) _ _ s;refine wpAny_bind (wpAny_newObj_type ?_);refine wpAny_pure ⟨plainId_quiet PySem.F.plain_list_iadd _,codeAny_builtin entry_list_iadd' ?_⟩;rw[Around.under_plainId PySem.F.plain_list_iadd _]
 let s1:Shared:={ s with heap:=s.heap.push { cls:=.type "list",data:=.seq ([]:List Value).toArray } }
 have l1:s1.heap.get? s.heap.objs.size=some { cls:=.type "list",data:=.seq #[] }:=get?_push_size _ rfl;have S1:fk prog w s1.heap a o es ep t ks:=S.keep λo e=>get?_push_of_some _ e;have z1:s1.heap.objs.size=s.heap.objs.size+1:=size_push _ _;have hT:s1.TypeIs (.ref a) "set":=⟨o,S1.at_,S1.ex.1⟩;show wpAny _ A.in1 (Builtin.List.listExtendWith (.ref s.heap.objs.size) (.ref a) (.ref s.heap.objs.size)) _ _ s1;unfold Builtin.List.listExtendWith;refine wpAny_bind (wpAny_typeOf hT ?_);have n1:Builtin.List.listSameRef (.ref s.heap.objs.size) (.ref a)=false:=by simp[Builtin.List.listSameRef,Nat.ne_of_gt hlt]
 simp only[n1,show (Value.type "set" == Value.type "list")=false by decide,show (Value.type "set" == Value.type "tuple")=false by decide,Bool.or_false,false_eq_true,if_false];refine wpAny_bind (DA (A:=A.in1) (by simp[hh]) S1 λh2 d I fp L St perm W st zI zI2 hfp k2=>?_);have l2:h2.get? s.heap.objs.size=some { cls:=.type "list",data:=.seq #[] }:=k2 _ _ l1;have nfp:s.heap.objs.size∉fp:=λz=>by
  rcases hfp _ z with e|e
  ·exact absurd e (Nat.ne_of_gt hlt)
  ·rw[z1]at e;exact absurd e (Nat.not_succ_le_self _)
 have hl:L.length<=sizeLine:=by rw[perm.length_eq,length_toList];exact fits_of_scanBound S.tab.few
 have key:∀(hp:Heap) (c₁:Nat) (Rr:Result->Shared->Prop),St 0 hp->(∀b o,b≠s.heap.objs.size->h2.get? b=some o->hp.get? b=some o)->hp.get? s.heap.objs.size=some { cls:=.type "list",data:=.seq #[] c₁ } ->
   (∀(s':Shared) (acc:Array Value) (c:Nat),s'.heap.get? s.heap.objs.size=some { cls:=.type "list",dict:=none,data:=.seq acc c,slots:=#[] }->R acc.toList s'->Rr (.ok (.ret (.ref s.heap.objs.size))) s') ->
   codeAny (model prog w) A (.builtin "list.extend.loop" ⟨[.ref s.heap.objs.size,.ref I,.ref s.heap.objs.size],[]⟩) Rr { s1 with heap:=hp,drawn:=d }:=by
  intro hp c₁ Rr hst hk hS hR;refine codeAny_extend_loopS W.toS hl s.heap.objs.size nfp (.ref s.heap.objs.size) L.length 0 _ #[] c₁ rfl (zero_le _) hst hS (ItemsOf.nil _) λs' acc c hm hS' hacc=>?_;refine hR s' acc c hS' ?_;have ea:acc.toList=L.map (·.2):=by
   apply ext_getElem
   ·rw[length_toList,hacc.1,length_map]
   ·intro j h1 h2
    have hj:j<acc.size:=by simpa using h1
    obtain⟨e,he,hv⟩:=hacc.2 j acc[j] (Array.getElem?_eq_getElem hj);rw[Array.getElem_toList,hv,getElem_map];obtain⟨hj2,e2⟩:=List.getElem?_eq_some_iff.mp he;rw[e2]
  rw[ea,Moved.eq_with hm];refine h s'.heap s'.toks d L (λb o e=>?_) (lt_size hS') perm;have hb:b<s.heap.objs.size:=lt_size e;refine hm.heap b o (λz=>?_) (hk b o (ne_of_lt hb) (k2 b o (get?_push_of_some _ e)))
  rcases mem_cons.mp z with z|z
  ·exact absurd z (ne_of_lt hb)
  ·rw[mem_singleton]at z;rw[z]at hb;rw[z1]at zI;exact absurd (lt_of_lt_of_le hb (Nat.le_of_succ_le zI)) (lt_irrefl _)
 have fin:∀(s':Shared) (acc:Array Value) (c:Nat),s'.heap.get? s.heap.objs.size=some { cls:=.type "list",dict:=none,data:=.seq acc c,slots:=#[] }->R acc.toList s'->wpAny (model prog w) A (load s.heap.objs.size >>= λob=>(match ob.data with|.seq xs _=>pure xs.toList|_=>unsupported "internal:collect")) R E s':=λs' acc c e q=>wpAny_bind (wpAny_load e (wpAny_pure q));refine wpAny_bind (wpAny_holding (DC ⟨o,k2 _ _ S1.at_,S1.ex.1⟩ ?_));refine wpAny_ite_split (λ_=>?_) (λ_=>wpAny_pure ⟨plainId_quiet PySem.F.plain_extend_loop _,key _ 0 _ st (λb o _ e=>e) l2 fin⟩);refine wpAny_bind (wpAny_rule ?_);refine wpAny_bind ?_;show wpAny _ _ (updateSeq s.heap.objs.size (·.push .none) >>= λ_=>updateSeq s.heap.objs.size (·.pop)) _ _ _;refine wpAny_bind (wpAny_updateSeq l2 rfl ?_);have l3:=get?_update_self (Obj.mapSeq (·.push Value.none)) l2 rfl;refine wpAny_updateSeq (hz:=by seq_fits) l3 rfl ?_;have l4:=get?_update_self (Obj.mapSeq (·.pop)) l3 rfl;have oth:∀b o,b≠s.heap.objs.size->h2.get? b=some o->((h2.update s.heap.objs.size (Obj.mapSeq (·.push Value.none))).update s.heap.objs.size (Obj.mapSeq (·.pop))).get? b=some o:=λb o hb e=>(get?_update_other _ _ (Ne.symm hb)).trans ((get?_update_other _ _ (Ne.symm hb)).trans e);exact wpAny_pure ⟨plainId_quiet PySem.F.plain_extend_loop _,key _ _ _ (W.frame 0 _ _ st λb hb o e=>oth b o (λz=>nfp (z▸hb)) e) oth l4 fin⟩
end
end L2
end
section
namespace L2
open PySem PyProof.Rows
theorem wM:∀(ks ns:List Int),ks.Nodup->(∀k∈ks,k∈ns)->ks.length=ns.length->ks.Perm ns
 | [],ns,_,_,h=>by
  have:ns=[]:=List.eq_nil_of_length_eq_zero h.symm;subst this;exact List.Perm.refl _
 | k::ks,ns,nd,hs,hl=>by
  have hk:=hs k mem_cons_self;have YI:=nodup_cons.mp nd;have p:=List.perm_cons_erase hk;refine(List.Perm.cons k (wM ks (ns.erase k) YI.2 (λx hx=>?_) ?_)).trans p.symm
  ·exact(List.mem_erase_of_ne λz=>YI.1 (by rw[<-z];exact hx)).mpr (hs x (mem_cons_of_mem _ hx))
  ·rw[List.length_erase_of_mem hk];simp only[length_cons]at hl;omega
noncomputable def wN:Value->Int
 |.int i _=>i
 |_=>0
section
variable {prog:Program} {w:World} {A:Around} {E:Value->Shared->Prop} {s:Shared}
theorem qM:∀{L:List (Int×Value)},ElemsOf (intKind prog w) L->IntsAre (L.map (·.2)) (L.map λe=>wN e.2)
 |[],_=>.nil
 | (h,v)::L,el=>by
  obtain⟨⟨k,hk,_⟩,_⟩:=el _ mem_cons_self;obtain⟨t,e⟩:=Value.isInt_shape (k:=k) (v:=v) hk;subst e;exact .cons k t (qM λx hx=>el x (mem_cons_of_mem _ hx))
theorem DE{h:Heap}{a:Addr}{o:Obj}{es:Array (Int×Value)}{ep:Nat}{t:SetTable}{ks:List Int}(S:fk prog w h a o es ep t ks){L:List (Int×Value)}(p:L.Perm es.toList):(L.map λe=>wN e.2).Perm ks:=by
 refine(wM ks _ S.YC (λk hk=>?_) ?_).symm
 ·obtain⟨e,he,q⟩:=(S.mem k).mp hk;obtain⟨t',ev⟩:=Value.isInt_shape (k:=k) (v:=e.2) q;exact mem_map.mpr ⟨e,p.mem_iff.mpr he,by rw[ev];rfl⟩
 ·have:=S.num;rw[length_map,p.length_eq,length_toList];exact this.symm
theorem zd(hh:A.handled=none){ep:Nat}{ks:List Int}(S:fk prog w s.heap a o es ep t ks)(h64:ks.length<64)
  (hQ:∀(h':Heap) (tk:Nat) d (D:Addr) (out:List Value) (e:Nat),(∀b o,s.heap.get? b=some o->h'.get? b=some o)->s.heap.objs.size<=D->h'.get? D=some (seqObj "list" out.toArray e)->IntsAre out (PySem.W.sortI ks)->Q (.ref D) { s with heap:=h',toks:=tk,drawn:=d }) :
  wpAny (model prog w) A (call (.builtin "sorted") [.ref a]) Q E s:=by
 refine pP.ig (O:=pP.qF) (wL (A:=A.in1) (by simp[hh]) S λh' tk d L hk hz perm=>?_);have el:ElemsOf (intKind prog w) L:=S.el.perm perm;have hI:=qM el;have pk:=DE S perm;have hl:(L.map (·.2)).length<64:=by rw[length_map];have:=pk.length_eq;rw[length_map]at this;omega
 refine⟨hl,λi=>(L.map λe=>wN e.2).getD i 0,λh2 h6 _=>pP.qG hI h2,λp h'' outs k2 he=>?_⟩;obtain⟨e,he⟩:=he;have lv:(L.map (·.2)).length=(L.map λe=>wN e.2).length:=by rw[length_map,length_map]
 have mem:∀i∈p,i<L.length:=λi hi=>by have:=outs.perm.mem_iff.mp hi;simpa using this
 have pn:(p.map λi=>(L.map λe=>wN e.2).getD i 0).Perm ks:=by have:=outs.perm.map λi=>(L.map λe=>wN e.2).getD i 0;rw[lv,pP.cV]at this;exact this.trans pk
 have up:(p.map λi=>(L.map λe=>wN e.2).getD i 0).Pairwise (· <= ·):=by refine List.Pairwise.imp (R:=pP.qF.kle) (λ{x y:Int} hxy=>?_) outs.up;have hxy:(decide (y<x):Bool)=false:=hxy;exact not_lt.mp (of_decide_eq_false hxy)
 have es:=eq_sortI pn up;refine hQ h'' tk d h'.objs.size _ e (λb o z=>k2 b o (hk b o z)) (Nat.le_of_lt hz) he ?_;rw[<-es];clear he es up pn outs
 induction p with
 |nil=>exact .nil
 |cons i r ih=>
  have hi:=mem i mem_cons_self;have hi2:i<(L.map (·.2)).length:=by simpa using hi
  obtain⟨t',ev⟩:=IntsAre.int_at hI i _ (List.getElem?_eq_getElem hi2);rw[map_cons,map_cons];have e1:(L.map (·.2)).getD i Value.none=.int ((L.map λe=>wN e.2).getD i 0) t':=by rw[<-ev];simp[List.getD,List.getElem?_eq_getElem hi]
  rw[e1];exact .cons _ t' (ih λj hj=>mem j (mem_cons_of_mem _ hj))
end
end L2
end
section
namespace L2
open PySem PySem.Spec PyProof.Rows
section
variable {X:Cx}
theorem Inv.draws(I:Inv X pins σ H s)(d:Drawn):Inv X pins σ H { s with drawn:=d }:=⟨I.ok,I.os,I.bare,I.base,I.loc,I.cell,I.free,I.iN,I.pin,I.hok,I.len⟩
noncomputable def tSS(K:PySem.W.Frag)(te:TE):TE:=λσ H Q=>te σ H λx H1=>∃p ns,x=.ref p/\gI K H1 p (ns.map V.int)/\ns.length<64/\∀l,H1 l=none->Q (.ref l) (upd H1 l (.lst ((PySem.W.sortI (ff [] ns)).map V.int)))
theorem wO:∀(ns ks:List Int),(ff ks ns).length<=ks.length+ns.length
 |[],ks=>by simp[ff]
 | n::ns,ks=>by
  rw[ff,length_cons];have:=wO ns (fq ks n);have:=qJ ks n;omega
theorem HD{p1 p2 pos1 pos2:Pos}(hh:X.A.handled=none)(hg:Gl X "sorted")(hm:X.mg "sorted" = none)(hg2:Gl X "set")(hm2:X.mg "set" = none)(hv:bootBuiltins "sorted" = some (.builtin "sorted"))(hv2:bootBuiltins "set" = some (.type "set"))(he:PE X e te)
  (hs:starEach [e] X.env=[(false,eval e X.env)]):PE X (.Call (.Name "sorted" p1) [.Call (.Name "set" p2) [e] [] pos2] [] pos1) (tSS X.K te):=by
 intro pins s σ H Q I h;refine wpAny_Call_Name_kw (iX I hg hm hv ?_ (by decide) (by decide));refine PyProof.Rows.callWith_builtin1 ?_ rfl rfl;show wpAny _ _ (spliced [(false,eval (.Call (.Name "set" p2) [e] [] pos2) X.env)]) _ _ s;refine Calls.spliced_cons ?_;refine wpAny_Call_Name_kw (iX I hg2 hm2 hv2 ?_ (by decide) (by decide));refine PyProof.Rows.callWith_type1 ?_ hs rfl;show wpAny _ _ (spliced (backTo pos2 (starEach [e] X.env))) _ _ s;rw[hs];show wpAny _ _ (spliced [(false,eval e X.env)]) _ _ s;refine Calls.spliced_cons (cA (he pins s σ H _ I h) λu s1 ⟨x,H1,I1,r1,p,ns,ex,hq,h64,q⟩=>Calls.spliced_nil ?_);subst ex;cases r1;obtain⟨its,rv,pl,hz⟩:=I1.list hq;have hi:=intsAre_of rv;have hl:=hi.length;refine wJ hh pl.isList (by simpa using hi) (by show its.toArray.size+1<4096;rw[size_toArray,hl];omega) λh2 tk S k2=>?_;obtain⟨o,es,ep,t,S⟩:=S;refine Calls.spliced_nil ?_;have hk:=wO ns [];have UI:(ff [] ns).length<64:=by simp at hk;omega
 refine zd (s:={ s1 with heap:=h2,toks:=tk }) hh S UI λh3 tk3 d D out e k3 zD eD hout=>?_;have hD:s1.heap.objs.size<=D:=le_trans (Nat.le_of_lt (lt_size S.at_)) zD;have hn:H1 D=none:=I1.hok.fresh hD;refine⟨.ref D,_,(I1.draws d).laid (t':=tk3) (λb o z=>k3 b o (k2 b o (lt_size z) z)) hD (show bT X.prog X.w _ _ _ (.lst ((PySem.W.sortI (ff [] ns)).map V.int)) from⟨?_,out,e,jq hout,eD⟩),rfl,q _ hn⟩;rw[length_map,(sortI_perm _).length_eq,sizeLine_eq];omega
end
end L2
end
section
namespace L2
open PySem PySem.Spec PyProof.Rows PySem.W
section
variable {X:Cx}
noncomputable def YJ(to:TE):TE:=λσ H Q=>to σ H λx H1=>∃a kvs,x=.ref a/\H1 a=some (.dK kvs)/\∀l,H1 l=none->Q (.ref l) (upd H1 l (.lst (kvs.map λkv=>kV kv.1)))
theorem DF(e:(aR P w).is k u=true):RelV (kV k) u:=by
 rw[yw]at e
 rcases bQ e with ⟨i,t,rfl,rfl⟩|⟨x,t,rfl,rfl⟩
 ·exact⟨t,rfl⟩
 ·exact⟨t,rfl⟩
theorem nY:∀{kvs:List (Key×V)} {vs:List (Key×Value)} {out:List Value},KV kvs vs->out.length=vs.length->(∀(j:Nat) (v:Value),out[j]?=some v->∃(k:Key) (x:Value),vs[j]?=some (k,x)/\(aR P w).is k v=true)->Vals (kvs.map λkv=>kV kv.1) out
 | [],vs,out,r,hl,h=>by
  cases r;cases out with
  |nil=>exact .nil
  |cons _ _=>simp at hl
 | p::kvs,vs,out,r,hl,h=>by
  cases r with
  |@cons _ q _ qs hq t=>
   cases out with
   |nil=>simp at hl
   |cons v out=>
    obtain⟨k,x,e1,e2⟩:=h 0 v rfl;simp at e1;refine .cons ?_ (nY t (by simpa using hl) λj u hu=>h (j+1) u hu);have:p.1=k:=by rw[hq.1,e1]
    show RelV (kV p.1) v;rw[this];exact DF e2
end
end L2
end
section
namespace L2
open PySem PySem.Spec PyProof.Rows PySem.W
section
variable {X:Cx} {pins:List (Addr×Obj)} {σ:St} {H:Hp} {s:Shared} {a:Addr} {kvs:List (Key×V)} {k:Key} {u r:Value} {z:V} {A:Around} {E:Value->Shared->Prop}
end
end L2
end
section
namespace L2
open PySem PySem.Spec PyProof.Rows
section
open PySem.AutoSeq1 (wpAny_loadPart')
open PySem.MeetsSeq PySem.MeetsSeq3
end
end L2
end
section
namespace L2
open PySem PySem.Spec PyProof.Rows PySem.W
section
variable {X:Cx}
end
end L2
end
section
namespace L2
open PySem PySem.Spec PyProof.Rows PySem.W
section
variable {X:Cx}
end
end L2
end
section
namespace L2
open PySem PySem.Spec PyProof.Rows PySem.W
section
variable {X:Cx}
noncomputable def YK(to:TE):TE:=λσ H Q=>to σ H λx H1=>∃(a:Addr) (kvs:List (Key×V)) (ns:List Int),x=.ref a/\H1 a=some (.dK kvs)/\kvs.map (·.1)=ns.map Sum.inl/\ns.length<64/\∀l,H1 l=none->Q (.ref l) (upd H1 l (.lst ((PySem.W.sortI ns).map V.int)))
theorem uh{ns:List Int}(hI:IntsAre vs ns):∀(p:List Nat),(∀i∈p,i<ns.length)->IntsAre (p.map λi=>vs.getD i Value.none) (p.map λi=>ns.getD i 0)
 |[],_=>.nil
 | i::r,mem=>by
  have hi:=mem i mem_cons_self;have hi2:i<vs.length:=by rw[hI.length];exact hi
  obtain⟨t',ev⟩:=IntsAre.int_at hI i _ (List.getElem?_eq_getElem hi2);rw[map_cons,map_cons];have e1:vs.getD i Value.none=.int (ns.getD i 0) t':=by rw[<-ev];simp[List.getD,List.getElem?_eq_getElem hi2]
  rw[e1];exact .cons _ t' (uh hI r λj hj=>mem j (mem_cons_of_mem _ hj))
end
end L2
end
section
namespace L2
open PySem PySem.Spec PyProof.Rows
end L2
end
section
namespace L2
open PySem PySem.Spec PyProof.Rows
section
variable {X:Cx}
theorem nZ
  (hbase:attributeBase o m env (eval o env)=eval o env)
  (hfew:((backTo cp (starEach args env)).all (λx=>!x.1)&&(backToKw cp (keywordEach [] env)).all (λx=>x.1.isSome)
   && decide (args.length+([]:List Keyword).length+(if ([]:List Keyword).isEmpty then 0 else 1)<30))=true) (hline:(ap.endLine==cp.line)=true)
  (h:wpAny M A (eval o env) (λov s₁=>∀pl,wpAny M A (getMethod ov m pl) (λfx s₂=>wpAny M A (callWith cp fx.1 fx.2 (backTo cp (starEach args env)) (backToKw cp (keywordEach [] env))) Q E s₂) E s₁) E s) :
  wpAny M A (eval (.Call (.Attribute o m ap) args [] cp) env) Q E s:=by
 rw[arm_eval_Call,hbase];refine wpAny_bind (wpAny_mono h (λov s₁ h₁=>?_) λ_ _ e=>e);refine wpAny_bind (wpAny_standAt ?_);have P1:methodCallForm (args.length+([]:List Keyword).length) (backTo cp (starEach args env)) (backToKw cp (keywordEach [] env))=true:=hfew;have hpos:methodCallPos true o env ap cp=pure cp:=by unfold methodCallPos;simp[hline]
 unfold methodCall;rw[P1];refine wpAny_bind (wpAny_holding (wpAny_mono (h₁ _) (λfx s₂ h₂=>?_) λ_ _ e=>e));exact wpAny_bind (wpAny_of_eq hpos h₂)
theorem pe_mthD{k:Nat}(he:PE X o ta)(ha:PA X (l::ls) t)(hbase:attributeBase o m X.env (eval o X.env)=eval o X.env)
  (hfew:((backTo cp (starEach (l::ls) X.env)).all (λx=>!x.1)&&(backToKw cp (keywordEach [] X.env)).all (λx=>x.1.isSome)
   && decide ((l::ls).length+([]:List Keyword).length+(if ([]:List Keyword).isEmpty then 0 else 1)<30))=true) (hline:(ap.endLine==cp.line)=true) (hr:dP k X.A)
  (st:starEach (l::ls) X.env=(false,eval l X.env)::starEach ls X.env) (an:(backTo cp (starEach ls X.env)).any (·.1)=false) :
  PE X (.Call (.Attribute o m ap) (l::ls) [] cp) (λσ H Q=>ta σ H λx H1=>∃a C dx fs f fd ps sp,x=.ref a/\H1 a=some (.ins C dx fs)/\Cu X.K C/\Meth X.K C m f/\fs.lookup m=none/\Binds X.K fd ps [] /\
   fU X.prog X.w X.K X.mg X.base yr k f fd ps sp/\t σ H1 λvs H2=>sp (x::vs) H2 Q E0):=by
 intro pins s σ H Q I h;refine nZ hbase hfew hline (cA (he pins s σ H _ I h) λu s1 aI pl=>?_);obtain⟨x,H1,I1,rx,a,C,dx,fs,f,fd,ps,sp,ex,ea,c,hm,ln,hb,F,q⟩:=aI;subst ex;obtain rfl:u=Value.ref a:=rx;refine qo I1 ea c hm ln ?_;refine callWith_K (first:=[.ref a]) (h₀:=X.base) I.ok.mod.Oo hm.kp (cA (ha cp pins s1 σ H1 _ I1 q) λus s2 ⟨vs,H2,I2,r,q2⟩=>⟨I2.nM,?_⟩) st an;exact qq (us:=.ref a::us) (vs:=.ref a::vs) (sN:=[]) (ds:=[]) F hr hb .nil qB I2 (.cons rfl r) (by rw[append_nil];exact q2)
theorem pe_mth0{k:Nat}(he:PE X o ta)(hbase:attributeBase o m X.env (eval o X.env)=eval o X.env)
  (hline:(ap.endLine==cp.line)=true) (hr:dP k X.A) :
  PE X (.Call (.Attribute o m ap) [] [] cp) (λσ H Q=>ta σ H λx H1=>∃a C dx fs f fd ps sp,x=.ref a/\H1 a=some (.ins C dx fs)/\Cu X.K C/\Meth X.K C m f/\fs.lookup m=none/\Binds X.K fd ps [] /\
   fU X.prog X.w X.K X.mg X.base yr k f fd ps sp/\sp [x] H1 Q E0):=by
 intro pins s σ H Q I h;refine nZ hbase rfl hline (cA (he pins s σ H _ I h) λu s1 aI pl=>?_);obtain⟨x,H1,I1,rx,a,C,dx,fs,f,fd,ps,sp,ex,ea,c,hm,ln,hb,F,q⟩:=aI;subst ex;obtain rfl:u=Value.ref a:=rx;refine qo I1 ea c hm ln ?_;exact callWith_K0 (first:=[.ref a]) I1.nM hm.kp (qq (us:=[.ref a]) (vs:=[.ref a]) (sN:=[]) (ds:=[]) F hr hb .nil qB I1 (.cons rfl .nil) q)
theorem LL:kh X (compareOp .Is) (λx y H Q=>∃b c,x=.bl b/\y=.bl c/\Q (.bl (b==c)) H):=by
 intro pins s σ H x y v u Q I rx ry h;obtain⟨b,c,rfl,rfl,q⟩:=h;cases rx;cases ry;refine wpAny_is_plain rfl (nO I q ?_);cases b<;>cases c<;>rfl
theorem HE:kh X (compareOp .IsNot) (λx y H Q=>∃b c,x=.bl b/\y=.bl c/\Q (.bl (!(b==c))) H):=by
 intro pins s σ H x y v u Q I rx ry h;obtain⟨b,c,rfl,rfl,q⟩:=h;cases rx;cases ry;refine wpAny_isNot_plain rfl (nO I q ?_);cases b<;>cases c<;>rfl
end
end L2
end
section
namespace L2
open PySem PySem.Spec PyProof.Rows PySem.W
section
variable {X:Cx}
theorem P4{t':Nat}(I:Inv X pins σ H s)(k:∀b u,s.heap.get? b=some u->h'.get? b=some u)(hp:s.heap.get? a=none)(hn:H a=none)(new:bT X.prog X.w (upd H a o) h' a o) :
  Inv X pins σ (upd H a o) { s with heap:=h',toks:=t' }:=by
 refine I.un ⟨λb u q _ _ _=>k b u q,λb u q _ _ _=>⟨u.slots,k b u q⟩,λb u q n _=>?_,λb u q _=>⟨u,k b u q⟩,λb xs q=>by rw[ao (aG q hn)];exact q,λb u xs q=>by rw[ao (aG q hn)];exact q,λb ps q=>⟨#[],by rw[ao (aG q hn),q];simp⟩⟩ λb u e=>?_
 ·rw[ao λz=>by rw[z,hp]at q;cases q];exact n
 ·by_cases hb:b=a
  ·subst hb;rw[aO]at e;cases e;exact new
  ·rw[ao hb]at e;exact(I.hok b u e).stay (λc v _ q=>k c v q) (λc q=>by rw[ao (aG q hn)];exact q) λc xs q=>by rw[ao (aG q hn)];exact q
theorem BL(hh:X.A.handled=none)(hst:starEach [o] X.env=[(false,eval o X.env)])(hg:Gl X "list")(hm:X.mg "list" = none)(hv:bootBuiltins "list" = some (.type "list"))(ho:PE X o to):PE X (.Call (.Name "list" p) [o] [] pos) (YJ to):=by
 intro pins s σ H Q I h;refine wpAny_Call_Name_kw (iX I hg hm hv ?_ (by decide) (by decide));refine PyProof.Rows.callWith_type1 ?_ hst rfl;rw[hst];show wpAny _ _ (spliced [(false,eval o X.env)]) _ _ s;refine Calls.spliced_cons ?_;refine cA (ho pins s σ H _ I h) λu s1 aI=>?_;obtain⟨x,H1,I1,r1,a,kvs,ex,ea,q⟩:=aI;subst ex;cases r1;obtain⟨t1,t2,hd⟩:=yR I1 (.inl ⟨kvs,.inl ea⟩);obtain⟨hz,_,vs,rel,dd⟩:=wm I1.hok ea;refine Calls.spliced_nil ?_;obtain⟨ep,da⟩:=dd.dictAt;have hlen:=rel.length;refine kdl_call (kdl_dict (knd:=aR X.prog X.w) (kvs:=vs) (ep:=ep) (d:=a) hd) hh da (by rw[<-hlen];exact hz) λh' tk acc c k2 eD hacc=>?_;have hn:H1 s1.heap.objs.size=none:=I1.hok.fresh (Nat.le_refl _);refine⟨.ref _,_,I1.laid (t':=tk) (λb o z=>k2 b o z) (Nat.le_refl _) (show bT X.prog X.w _ _ _ (.lst (kvs.map λkv=>kV kv.1)) from⟨?_,acc.toList,c,?_,?_⟩),rfl,q _ hn⟩
 ·rw[length_map];exact hz
 ·exact nY (P:=X.prog) (w:=X.w) rel (by rw[length_toList];exact hacc.1) λj v e=>hacc.2 j v (by rw[<-getElem?_toList];exact e)
 ·first|(rw[Array.toArray_toList];exact eD)|simpa using eD
theorem BN(hh:X.A.handled=none)(hst:starEach [o] X.env=[(false,eval o X.env)])(hg:Gl X "sorted")(hm:X.mg "sorted" = none)(hv:bootBuiltins "sorted" = some (.builtin "sorted"))(ho:PE X o to):PE X (.Call (.Name "sorted" p) [o] [] pos) (YK to):=by
 intro pins s σ H Q I h;refine wpAny_Call_Name_kw (iX I hg hm hv ?_ (by decide) (by decide));refine PyProof.Rows.callWith_builtin1 ?_ hst rfl;rw[hst];show wpAny _ _ (spliced [(false,eval o X.env)]) _ _ s;refine Calls.spliced_cons ?_;refine cA (ho pins s σ H _ I h) λu s1 aI=>?_;obtain⟨x,H1,I1,r1,a,kvs,ns,ex,ea,ens,h64,q⟩:=aI;subst ex;cases r1;obtain⟨t1,t2,hd⟩:=yR I1 (.inl ⟨kvs,.inl ea⟩);obtain⟨hz,_,vs,rel,dd⟩:=wm I1.hok ea;refine Calls.spliced_nil ?_;obtain⟨ep,da⟩:=dd.dictAt;have hlen:=rel.length;refine pP.ig (O:=pP.qF) (kdu_collect (A:=X.A.in1) (kdl_dict (knd:=aR X.prog X.w) (kvs:=vs) (ep:=ep) (d:=a) hd) (by simp[hh]) da (by rw[<-hlen];exact hz) λh' tk acc k1 hacc=>?_);have hV:Vals (kvs.map λkv=>kV kv.1) acc.toList:=nY (P:=X.prog) (w:=X.w) rel (by rw[length_toList];exact hacc.1) λj v e=>hacc.2 j v (by rw[<-getElem?_toList];exact e);have hk:(kvs.map λkv=>kV kv.1)=ns.map V.int:=by have:=congrArg (List.map kV) ens;rw[map_map,map_map]at this;exact this
 rw[hk]at hV;have hI:=intsAre_of hV;have lv:=hI.length;have hN:∀b o,s1.heap.get? b=some o->b≠h'.objs.size:=λb o e z=>by
  have q:=lt_size (k1 b o e);rw[z]at q;exact lt_irrefl _ q
 refine⟨by rw[lv];exact h64,λi=>ns.getD i 0,λh2 h6 _=>pP.qG hI h2,λpp h'' outs k' he=>?_⟩;obtain⟨e,he⟩:=he;have mem:∀i∈pp,i<ns.length:=λi hi=>by have:=outs.perm.mem_iff.mp hi;rw[lv]at this;simpa using this
 have pn:(pp.map λi=>ns.getD i 0).Perm ns:=by have:=outs.perm.map λi=>ns.getD i 0;rw[lv,pP.cV]at this;exact this
 have up:(pp.map λi=>ns.getD i 0).Pairwise (· <= ·):=by refine List.Pairwise.imp (R:=pP.qF.kle) (λ{x y:Int} hxy=>?_) outs.up;have hxy:(decide (y<x):Bool)=false:=hxy;exact not_lt.mp (of_decide_eq_false hxy)
 have es:=eq_sortI pn up;have hout:=uh hI pp mem;rw[es]at hout;dsimp only at k' he |-;have hl:s1.heap.get? h'.objs.size=none:=by
  cases e:s1.heap.get? h'.objs.size with
  |none=>rfl
  |some o=>exact absurd rfl (hN _ o e)
 have hn:H1 h'.objs.size=none:=(mj.kept I1.hok k1).fresh (Nat.le_refl _);refine⟨.ref h'.objs.size,_,P4 I1 (t':=tk) (λb o z=>k' b o (k1 b o z)) hl hn (show bT X.prog X.w _ _ _ (.lst ((PySem.W.sortI ns).map V.int)) from⟨?_,_,e,jq hout,he⟩),rfl,q _ hn⟩;rw[length_map,(sortI_perm _).length_eq,sizeLine_eq];omega
end
end L2
end
section
namespace L2
open PySem PySem.Spec PyProof.Rows PySem.W
section
variable {X:Cx}
theorem Inv.freeze(I:Inv X pins σ H s)(e:H a=some (.dK kvs))(ho:s.heap.get? a=some o):Inv X pins σ (upd H a (.kg o (.dK kvs))) s :=
 I.write (x:=a) (e:=a) (o:=.kg o (.dK kvs)) (h':=s.heap) (t':=s.toks) (by rw[e];trivial) (.inl rfl) (λb u _ q=>q) ⟨o,ho⟩ ⟨ho,I.hok a _ e⟩
theorem Inv.P5{pins P6:List (Addr×Obj)}{σ σ0:St}{H H0:Hp}{s s0:Shared}{kvs k0:List (Key×V)}(I0:Inv X P6 σ0 H0 s0)(e0:H0 a=some (.dK k0))(I:Inv X pins σ H s)(e:H a=some (.kg o (.dK kvs))):Inv X pins σ (upd H a (.dK kvs)) s:=by
 have nf:∀b,H b=none->b≠a:=λb z y=>by rw[y,e]at z;cases z
 refine⟨I.ok,I.os,I.bare,⟨I.base.keep,I.base.slot,λb ob q n hx=>?_,I.base.there,λb xs q=>?_,λb ob u q=>?_,λb ps q=>?_⟩,I.loc,I.cell,?_,λx c q=>?_,λp hp=>?_,λb u q=>?_,I.len⟩
 ·have z:=I.base.free b ob q n hx;rw[ao (nf b z)];exact z
 ·have z:=I.base.tups b xs q;rw[ao (λy=>by rw[y,e]at z;cases z)];exact z
 ·have z:=I.base.frzs b ob u q;have z0:=I0.base.frzs b ob u q;rw[ao (λy=>by rw[y,e0]at z0;cases z0)];exact z
 ·obtain⟨more,z⟩:=I.base.sP b ps q;exact⟨more,by rw[ao (λy=>by rw[y,e]at z;cases z)];exact z⟩
 ·rw[ao (nf _ I.free)];exact I.free
 ·rw[ao (nf _ (I.iN x c q))];exact I.iN x c q
 ·obtain⟨q1,q2,q3⟩:=I.pin p hp;exact⟨q1,by rw[ao (nf _ q2)];exact q2,q3⟩
 ·by_cases hb:b=a
  ·subst hb;rw[aO]at q;cases q;obtain⟨_,z⟩:=(show bT X.prog X.w H s.heap b (.kg o (.dK kvs)) from I.hok b _ e);exact z
  ·rw[ao hb]at q;exact(I.hok b u q).stay (λc v _ z=>z) (λc z=>by rw[ao (λy=>by rw[y,e]at z;cases z)];exact z) λc xs z=>by rw[ao (λy=>by rw[y,e]at z;cases z)];exact z
noncomputable def DG(t:TE):TE:=λσ H Q=>∃a kvs,H a=some (.dK kvs)/\t σ H λv H'=>∃o,H' a=some (.kg o (.dK kvs))/\Q v (upd H' a (.dK kvs))
theorem HF(h:PE X e t):PE X e (DG t):=by
 intro pins s σ H Q I hh;obtain⟨a,kvs,ea,ht⟩:=hh;exact cA (h pins s σ H _ I ht) λv s1 ⟨x,H1,I1,r1,o,e1,q⟩=>⟨x,_,Inv.P5 I ea I1 e1,r1,q⟩
noncomputable def P7(t:TS):TS:=λD σ H=>∃a kvs,H a=some (.dK kvs)/\t { D with nx:=λσ' H'=>∃o,H' a=some (.kg o (.dK kvs))/\D.nx σ' (upd H' a (.dK kvs)) } σ H
theorem HG{st:Stmt}{t:TS}(h:PS X st t):PS X st (P7 t):=by
 intro pins s σ H D I hh;obtain⟨a,kvs,ea,ht⟩:=hh;refine cA (h pins s σ H _ I ht) λf s1 q=>?_;cases f with
 |next=>obtain⟨σ1,H1,I1,o,e1,q⟩:=q;exact⟨σ1,_,Inv.P5 I ea I1 e1,q⟩
 |brk=>exact q
 |cont=>exact q
 |ret u=>exact q
noncomputable def YL(a:Addr)(o:Obj)(kvs:List (Key×V)):It :=
 ⟨λi H=>H a=some (.kg o (.dK kvs))/\i<kvs.length,λi H x H'=>H'=H/\∃kv,kvs[i]?=some kv/\x=kV kv.1,λi H=>H a=some (.kg o (.dK kvs))/\kvs.length<=i⟩
theorem DH:∀{kvs:List (Key×V)} {vs:List (Key×Value)} {i:Nat} {kv:Key×V},KV kvs vs->kvs[i]?=some kv->∃v,vs[i]?=some (kv.1,v)
 |[],_,_,_,_,e=>by simp at e
 | p::kvs,_,0,kv,r,e=>by
  cases r with
  |@cons _ q _ qs hq t=>simp at e;subst e;exact⟨q.2,by rw[hq.1];rfl⟩
 | p::kvs,_,i+1,kv,r,e=>by
  cases r with
  |@cons _ q _ qs hq t=>obtain⟨v,hv⟩:=DH t (by simpa using e);exact⟨v,by simpa using hv⟩
theorem BO{P:Program}{w:World}{K:PySem.W.Frag}{tg:Expr}(a it:Addr){o:Obj}{es:Array DictEntry}{ep:Nat}{kvs:List (Key×V)}{vs:List (Key×Value)}(rel:KV kvs vs)
  (hd:o.ExactDict/\o.data=.dict es ep/\KeysOf (aR P w) es/\Pairs (aR P w) es.toList vs/\(vs.map (·.1)).Nodup) :
  Turn P w K tg (YL a o kvs) [it] it (λi h=>h.IsKeyIter it a i vs.length ep) where
 mem:=by simp
 obj:=λi h st b hb=>by
  have e:b=it:=by simpa using hb
  subst e;obtain⟨o,e,c,d⟩:=st;exact⟨o,e,λv z=>by rw[d]at z;cases z⟩
 keep:=λi h h' st k=>st.at λo e=>k it (by simp) o e
 item:=by intro X hP hw hK hc i pins s σ H E I hf st hg;subst hP hw hK;obtain⟨ha,hi⟩:=hg;obtain⟨hob,_⟩:=(show bT X.prog X.w H s.heap a (.kg o (.dK kvs)) from I.hok a _ ha);have hm:s.heap.DictAt (aR X.prog X.w) a vs ep:=⟨o,es,hob,hd⟩;obtain⟨v,hv⟩:=DH rel (List.getElem?_eq_getElem hi);obtain⟨f0,f1,f2,f3,f4,f5⟩:=hf it (by simp);refine wpAny_pyNext_dict_item st hm hv λkey h' hkey st' sb=>?_;have I1:Inv X pins σ H { s with heap:=h' }:=I.turned (t':=s.toks) (λb o hb e=>(sb.2 b hb).trans e) f0 f1 f3 f4 f5;obtain⟨o',e,c,d⟩:=id st';exact⟨key,rfl,zQ (s:={ s with heap:=h' }) e c d (by decide) ⟨kV kvs[i].1,H,I1,DF hkey,⟨rfl,kvs[i],List.getElem?_eq_getElem hi,rfl⟩,st',λb hb=>(hf b hb).1⟩⟩
 done:=by intro X hP hw hK hc i pins s σ H E I hf st hg;subst hP hw hK;obtain⟨ha,hi⟩:=hg;obtain⟨hob,_⟩:=(show bT X.prog X.w H s.heap a (.kg o (.dK kvs)) from I.hok a _ ha);have hm:s.heap.DictAt (aR X.prog X.w) a vs ep:=⟨o,es,hob,hd⟩;obtain⟨f0,f1,f2,f3,f4,f5⟩:=hf it (by simp);exact wpAny_pyNext_dict_end (I.ok.hd hc) st hm (List.getElem?_eq_none (by rw[<-rel.length];exact hi)) λh' eb=>⟨rfl,I.turned (t':=s.toks) (λb o hb e=>eb b o hb e) f0 f1 f3 f4 f5⟩
 self:=λ_ _ _ _ _ st h=>wpAny_pyIter_keyiter st h
noncomputable def DI(tl:TE):TI:=λσ H R=>tl σ H λx H1=>∃a kvs,x=.ref a/\H1 a=some (.dK kvs)/\∀o,R (YL a o kvs) (upd H1 a (.kg o (.dK kvs)))
theorem HH(hl:PE X l tl):PI X tg l (DI tl):=by
 intro pins s σ H R I h;refine cA (hl pins s σ H _ I h) λv s1 aI=>?_;obtain⟨x,H1,I1,r1,q1⟩:=aI;obtain⟨a,kvs,e,ea,q⟩:=q1;subst e;cases r1;obtain⟨hz,hsm,vs,rel,dd⟩:=wm I1.hok ea;obtain⟨ep,da⟩:=dd.dictAt;obtain⟨o,es,ho,r⟩:=id da;have I2:=I1.freeze ea ho;refine wpAny_pyIter_dict hsm da ?_;refine⟨s1.heap.objs.size,[s1.heap.objs.size],_,_,_,rfl,I2.kept (t':=s1.toks) λb o e=>get?_push_of_some _ e,BO a _ rel r,⟨_,get?_push_size _ rfl,rfl,rfl⟩,λb hb=>?_,q o⟩;have e:b=s1.heap.objs.size:=by simpa using hb
 subst e;exact I2.CM (Nat.le_refl _) (I2.hok.fresh (Nat.le_refl _))
noncomputable def tDf(K:PySem.W.Frag)(js:List (Option Nat))(d q:Nat):TE:=λσ H Q=>∃a kvs b ys,σ[d]?=some (some (.ref a))/\H a=some (.dK kvs)/\kvs.length<=sizeLine/\(ie js σ)[q]?=some (some (.ref b))/\gI K H b ys/\ys.all lT=true /\
 ∀D,H D=none->Q (.ref D) (upd H D (.lst ((kvs.map λkv=>kV kv.1).filter λk=>!Gg k ys)))
theorem DJ{K:PySem.W.Frag}{H:Hp}{a b:Addr}{ys:List V}{u:HO}(q:gI K H b ys)(h:∀v,H a=some v->(∀xs,v≠.lst xs)/\∀o xs,v≠.kg o (.lst xs)):gI K (upd H a u) b ys:=by
 rcases q with (q|⟨o,q⟩)|q
 ·exact .inl (.inl (by rw[ao (λy=>by subst y;exact(h _ q).1 _ rfl)];exact q))
 ·exact .inl (.inr ⟨o,by rw[ao (λy=>by subst y;exact(h _ q).2 _ _ rfl)];exact q⟩)
 ·exact .inr q
theorem LM{K:PySem.W.Frag}{js:List (Option Nat)}{d p q:Nat}(hpq:p≠q)(hp:p<js.length){σ:St}{H:Hp}{Q:VK}(h:tDf K js d q σ H Q):DG (wF (DI (sS d)) js (oX p) (CO (Ov (Ui K true) (sS p) (sS q))) (sS p)) σ H Q:=by
 obtain⟨a,kvs,b,ys,hd,ha,hz,hb,hs,hf,hQ⟩:=h;refine⟨a,kvs,ha,.ref a,hd,a,kvs,rfl,ha,λo D hD=>?_⟩;have UJ:D≠a:=λz=>by rw[z,aO]at hD;cases hD
 have hD0:H D=none:=by rw[ao UJ]at hD;exact hD
 have hs1:gI K (upd H a (.kg o (.dK kvs))) b ys:=DJ hs λv hv=>by rw[ha]at hv;cases hv;exact⟨λ_ z=>(nomatch z),λ_ _ z=>(nomatch z)⟩
 let L:Nat->List V:=λi=>((kvs.take i).map λkv=>kV kv.1).filter λk=>!Gg k ys
 have hlL:∀i,(L i).length<=i:=λi=>by
  refine le_trans (length_filter_le _ _) ?_;rw[length_map,length_take];omega
 refine⟨λi m σ' H'=>i+m=kvs.length/\H'=upd (upd H a (.kg o (.dK kvs))) D (.lst (L i)) /\ σ'.length=js.length /\ σ'[q]?=some (some (.ref b)),⟨kvs.length,by omega,rfl,iZ js σ,hb⟩,?_⟩;rintro i m σ' H' ⟨e1,rfl,e3,e4⟩;have P8:upd (upd H a (.kg o (.dK kvs))) D (.lst (L i)) a=some (.kg o (.dK kvs)):=by rw[ao UJ.symm,aO]
 cases m with
 |zero=>
  refine .inl ⟨⟨P8,by omega⟩,o,P8,?_⟩;have:upd (upd (upd H a (.kg o (.dK kvs))) D (.lst (L i))) a (.dK kvs)=upd H D (.lst (L i)):=by
   funext c;unfold upd
   by_cases c1:c=a
   ·rw[if_pos c1,if_neg (by rw[c1];exact UJ.symm),c1];exact ha.symm
   ·rw[if_neg c1]
    by_cases c2:c=D
    ·rw[if_pos c2,if_pos c2]
    ·rw[if_neg c2,if_neg c2,if_neg c1]
  rw[this];have:=hQ D hD0;show Q _ (upd H D (.lst (((kvs.take i).map λkv=>kV kv.1).filter λk=>!Gg k ys)));rw[List.take_of_length_le (by omega)];exact this
 |succ m=>
  have hi:i<kvs.length:=by omega
  refine .inr ⟨⟨P8,hi⟩,_,λzY Hu w=>⟨m,lt_succ_self _,w⟩,λx H2 hy=>?_⟩;obtain⟨rfl,kv,hkv,rfl⟩:=hy;have fx:lT (kV kv.1)=true:=by cases kv.1<;>rfl
  have g1:(σ'.set p (some (kV kv.1)))[p]?=some (some (kV kv.1)):=getElem?_set_self (by omega);have g2:(σ'.set p (some (kV kv.1)))[q]?=some (some (.ref b)):=by rw[getElem?_set_ne hpq];exact e4
  have hs2:gI K (upd (upd H a (.kg o (.dK kvs))) D (.lst (L i))) b ys:=DJ hs1 λv hv=>by rw[hD]at hv;cases hv
  have hL:L (i+1)=if (!Gg (kV kv.1) ys)=true then L i++[kV kv.1] else L i:=by
   show ((kvs.take (i+1)).map λkv=>kV kv.1).filter _=_;rw[List.take_succ,hkv];simp only[Option.toList,map_append,List.filter_append,map_cons,map_nil,List.filter_cons,List.filter_nil]
   split<;>simp[L]
  refine⟨kV kv.1,g1,.ref b,g2,b,ys,rfl,.inl hs2,fx,hf,_,rfl,?_⟩;simp only[if_true]
  by_cases hin:(!Gg (kV kv.1) ys)=true
  ·rw[if_pos hin];refine⟨kV kv.1,g1,L i,aO,by have:=hlL i;omega,by omega,?_,by rw[length_set];exact e3,g2⟩;rw[Gp,hL,if_pos hin]
  ·rw[if_neg hin];exact⟨by omega,by rw[hL,if_neg hin],by rw[length_set];exact e3,g2⟩
structure LN (K:PySem.W.Frag) (C:Addr) (m:Str) (f:Addr):Prop where
 ga:specialIn K (.ref C) "__getattribute__" = some (some (.builtin "type.__getattribute__"))
 rd:readsIn K C (.type "type")=true
 at_:findCls K (.ref C) (.type "type") m=some (.val (.ref f))
 kp:keepIn K (.ref f)=true
theorem LO{k:Nat}(F:fU X.prog X.w X.K X.mg X.base yr k f fd ps sp)(hr:dP k X.A)(hg:Gl X x)(hm:X.mg x=some (.ref C))(c:LN X.K C m f)(hb:Binds X.K fd ps [])
  (ha:PA X (l::ls) t) (hd:(x==("__debug__":Str))=false)
  (hfew:((backTo cp (starEach (l::ls) X.env)).all (λx=>!x.1)&&(backToKw cp (keywordEach [] X.env)).all (λx=>x.1.isSome)
   && decide ((l::ls).length+([]:List Keyword).length+(if ([]:List Keyword).isEmpty then 0 else 1)<30))=true) (hline:(ap.endLine==cp.line)=true)
  (st:starEach (l::ls) X.env=(false,eval l X.env)::starEach ls X.env) (an:(backTo cp (starEach ls X.env)).any (·.1)=false) :
  PE X (.Call (.Attribute (.Name x np) m ap) (l::ls) [] cp) (λσ H Q=>t σ H λvs H1=>sp vs H1 Q E0):=by
 intro pins s σ H Q I h;refine nZ rfl hfew hline (lg I hg hm (λpl=>?_) hd);refine PySem.W.method_cls I.nM c.ga (PySem.W.cls_value I.nM c.rd c.at_ rfl ?_);refine callWith_K (first:=[]) (h₀:=X.base) I.ok.mod.Oo c.kp (cA (ha cp pins _ σ H _ (I.tok _) h) λus s2 ⟨vs,H2,I2,r,q2⟩=>⟨I2.nM,?_⟩) st an;exact qq (us:=us) (vs:=vs) (sN:=[]) (ds:=[]) F hr hb .nil qB I2 r (by rw[append_nil];exact q2)
structure YM (K:PySem.W.Frag) (C:Addr):Prop where
 ha:findIn K (.ref C) "__class__" = some (some (.builtin "object.__class__"))
 hn:specialIn K (.builtin "object.__class__") "__get__" = some (some (.builtin "getset_descriptor.__get__"))
 htk:PySem.W.takesIn K (.builtin "object.__class__")=some true
 hm:PySem.W.mroIn K C (.type "object")=some true
end
end L2
end
section
namespace Hv
open PySem L2 PyProof.Rows
inductive Val
 |non|bl (b:Bool)|int (i:Int)|str (x:Str)|tup (vs:List Val)|rl (vs:List Val)|dc (ks:List Key) (vs:List Val)|ob (c:Nat) (xs:List Str) (vs:List Val)|ref (i:Nat)
inductive Ob
 |lst (xs:List Val)|dct (kvs:List (Key×Val))|ins (c:Nat) (fs:List (Str×Val))
noncomputable abbrev Hs:=List Ob
inductive Out (α:Type)
 |ok (a:α) (h:Hs)|exc (c:Nat) (vs:List Val) (h:Hs)|no
noncomputable abbrev M(α:Type):=Hs->Out α
noncomputable def ret{α:Type}(a:α):M α:=λh=>.ok a h
noncomputable def bnd{α β:Type}(m:M α)(f:α -> M β):M β:=λh=>match m h with
 |.ok a h'=>f a h'
 |.exc c vs h'=>.exc c vs h'
 |.no=>.no
noncomputable def bH{α:Type}(o:Option α):M α:=λh=>match o with
 |some a=>.ok a h
 |none=>.no
noncomputable def ask{α:Type}(f:Hs->Option α):M α:=λh=>bH (f h) h
noncomputable def new(o:Ob):M Val:=λh=>.ok (.ref h.length) (h++[o])
noncomputable def put(i:Nat)(o:Ob):M Unit:=λh=>.ok () (h.set i o)
noncomputable def cj{α β:Type}(f:α -> Option β):List α -> Option (List β)
 |[]=>some []
 |a::r=>(f a).bind λb=>(cj f r).bind λbs=>some (b::bs)
inductive HJ|add|sub|mul|fdiv|mod|pow
 deriving DecidableEq
inductive LP|eq|ne|lt|le|gt|ge|isn|ntn|sO|nin
 deriving DecidableEq
inductive Bl|len|min|max|sorted|list|tuple|str|int|all|any|isin (T:String)
 deriving DecidableEq
inductive Me|join|append|extend
 deriving DecidableEq
inductive z9|one (i:Nat)|tup (is:List Nat)
 deriving DecidableEq
inductive Ik|seq|range|enum|zip
 deriving DecidableEq
mutual
inductive IE
 |var (i:Nat)|cst (d:Val)|con (x:Str) (d:Val)|no
 |bin (o:HJ) (a b:IE)|neg (a:IE)|cmp (o:LP) (a b:IE)|chn (o p:LP) (a b c:IE)
 |and (a b:IE)|or (a b:IE)|not (a:IE)|ite (c a b:IE)
 |tup (es:o7)|lst (es:o7)|idx (a b:IE)|slc (a lo hi:IE)
 |call (j:Nat) (es:o7)|blt (b:Bl) (es:o7)|met (m:Me) (a:IE) (es:o7)
 |comp (N:List Str) (js:List (Option Nat)) (pat:z9) (k:Ik) (it:o7) (c elt:IE)
 |dct0
 |sset (a:IE)
 |dget (d k x:IE)
 |dct1 (k v:IE)
 |lkeys (d:IE)
 |sdef (d k x:IE)
 |svals (d:IE)
 |skeys (d:IE)
 |fld (n:Nat) (a:IE) (x:Str)
 |mth (a:IE) (m:Str) (js:List (Nat×Nat)) (es:o7)
 |rev (a s:IE)
 |dflt (N:List Str) (js:List (Option Nat)) (p q:Nat) (d w:IE)
 |isc (a:IE) (x:Str) (bs:List Bool)
inductive o7|nil|cons (e:IE) (es:o7)
end
noncomputable abbrev Env:=List (Option Val)
mutual
inductive IS
 |expr (e:IE)|asg (p:z9) (e:IE)|aug (i:Nat) (o:HJ) (e:IE)|fX (o i v:IE)
 |iff (c:IE) (a b:eE)|for (p:z9) (k:Ik) (it:o7) (body:eE)|whl (n:Nat) (c:IE) (body:eE)
 |ret (e:IE)|HK|brk|cnt|pass|never|setF (n:Nat) (a:IE) (x:Str) (v:IE)
inductive eE|nil|cons (s:IS) (r:eE)
end
noncomputable def aE(h:Hs):Val->Option (List Val)
 |.rl vs=>some vs
 | .ref i=>match h[i]? with
  |some (.lst xs)=>some xs
  |_=>none
 |_=>none
noncomputable def dJ(h:Hs):Val->Option (List Val)
 |.tup vs=>some vs
 |v=>aE h v
noncomputable def wQ(h:Hs):Val->Option (List Val)
 |.tup vs=>some vs
 |.ref i=>aE h (.ref i)
 |_=>none
noncomputable def bf:List Val->Option (List Int):=cj λv=>match v with
 |.int i=>some i
 |_=>none
noncomputable def fY:List Val->Option (List Bool):=cj λv=>match v with
 |.bl i=>some i
 |_=>none
noncomputable def lV:List Val->Option (List (List Int)):=cj λv=>match v with
 |.tup vs=>if vs.isEmpty then none else bf vs
 |_=>none
noncomputable def toD:Nat->Hs->Val->Option PyData
 |0,_,_=>none
 |_+1,_,.non=>some .none
 |_+1,_,.bl b=>some (.bool b)
 |_+1,_,.int i=>some (.int i)
 |_+1,_,.str x=>if PyData.strOk x=true then some (.str x) else none
 |n+1,h,.tup vs=>(cj (toD n h) vs).bind λds=>some (.tuple ds)
 |n+1,h,.rl vs=>(cj (toD n h) vs).bind λds=>some (.list ds)
 |_+1,_,.dc _ _=>none
 |_+1,_,.ob _ _ _=>none
 |n+1,h,.ref i=>(aE h (.ref i)).bind λxs=>(cj (toD n h) xs).bind λds=>some (.list ds)
noncomputable def Cv(h:Hs)(v w:Val):Option Bool:=(toD 16 h v).bind λd=>(toD 16 h w).bind λe=>some (PyData.eqv d e)
noncomputable def u6(x:List Int):List (List Int)->List (List Int)
 |[]=>[x]
 |y::r=>if HT.lexLt y x=true then y::u6 x r else x::y::r
noncomputable def mR:List (List Int)->List (List Int)
 |[]=>[]
 |x::r=>u6 x (mR r)
noncomputable def mT(ks:List Int):Val:=.tup (ks.map .int)
noncomputable def fQ(xs:List Val):Option (List Val) :=
 if xs.length<64 then
  match bf xs with
  |some ns=>some ((PySem.W.sortI ns).map .int)
  |none=>(lV xs).bind λp7=>some ((mR p7).map mT)
 else none
noncomputable def u7:List Int->Option Val
 |[]=>none
 |a::r=>some (.int (r.foldl min a))
noncomputable def u9:List Int->Option Val
 |[]=>none
 |a::r=>some (.int (r.foldl max a))
noncomputable def kD(i j:Int):Bool:=(decide (-(2 ^ 64)<i)&&decide (i<2 ^ 64))||(decide (-(2 ^ 64)<j)&&decide (j<2 ^ 64))
noncomputable def aH{α:Type}(c:Bool)(m:M α):M α:=λh=>if c=true then m h else .no
noncomputable def gQ(b:Int):Bool:=decide (0<b/\b<1606938044258990275541962092341162602522202993782792835301376)
noncomputable def JU:HJ->Val->Val->M Val
 |.add,.int a,.int b=>ret (.int (a+b))
 |.add,.str a,.str b=>aH (decide (a.length+b.length<=sizeLine)) (ret (.str (a++b)))
 |.add,.tup a,.tup b=>aH (!a.isEmpty&&decide (a.length+b.length<=sizeLine)) (ret (.tup (a++b)))
 |.add,v,w=>bnd (ask λh=>aE h v) λa=>bnd (ask λh=>aE h w) λb=>aH (decide (a.length+b.length<=sizeLine)) (new (.lst (a++b)))
 |.sub,.int a,.int b=>ret (.int (a-b))
 |.mul,.int a,.int b=>aH (kD a b) (ret (.int (a*b)))
 |.fdiv,.int a,.int b=>aH (gQ b) (ret (.int (a/b)))
 |.mod,.int a,.int b=>aH (decide (0<b)) (ret (.int (a%b)))
 |.pow,.int a,.int b=>aH (decide (0<=b/\b<=1000000/\a.natAbs<2 ^ 64)) (ret (.int (a ^ b.toNat)))
 |_,_,_=>bH none
noncomputable def qN:Val->Bool
 |.non=>true
 |_=>false
noncomputable def bZ(kvs:List (Key×Val))(k:Key):Option Val:=(kvs.find? λkv=>decide (kv.1=k)).map (·.2)
noncomputable def iL(kvs:List (Key×Val))(k:Key)(v:Val):List (Key×Val) :=
 if (kvs.any λkv=>decide (kv.1=k))=true then kvs.map (λkv=>if kv.1=k then (kv.1,v) else kv) else kvs++[(k,v)]
noncomputable def keyOf:Val->Option Key
 |.int i=>some (.inl i)
 |.str x=>some (.inr x)
 |_=>none
noncomputable def LQ(f d:PyData):Option Bool:=match f with
 |.list ds=>some (ds.any λy=>PyData.eqv y d)
 |.tuple ds=>some (ds.any λy=>PyData.eqv y d)
 |_=>none
noncomputable def memD(h:Hs)(v w:Val):Option Bool:=(toD 16 h w).bind λf=>(toD 16 h v).bind λd=>LQ f d
noncomputable def HL(h:Hs)(v:Val)(i:Nat):Ob->Option Bool
 |.dct kvs=>(keyOf v).bind λk=>some (bZ kvs k).isSome
 |_=>memD h v (.ref i)
noncomputable def vc(h:Hs):Val->Val->Option Bool
 |.str a,.str b=>some (!(Builtin.Str.occurrences b a 0 b.length 1).isEmpty)
 |v,.ref i=>(h[i]?).bind (HL h v i)
 |v,.dc ks _=>(keyOf v).bind λk=>some (ks.any λj=>decide (j=k))
 |v,w=>memD h v w
noncomputable def JV(v w:Val):Option Bool:=match w with
 |.non=>some (qN v)
 | .bl b=>(match v with
  |.bl a=>some (a==b)
  |_=>none)
 |_=>none
noncomputable def cop(h:Hs):LP->Val->Val->Option Bool
 |.eq,v,w=>Cv h v w
 |.ne,v,w=>(Cv h v w).map (!·)
 |.lt,.int a,.int b=>some (decide (a<b))
 |.le,.int a,.int b=>some (decide (a<=b))
 |.gt,.int a,.int b=>some (decide (b<a))
 |.ge,.int a,.int b=>some (decide (b<=a))
 |.isn,v,w=>JV v w
 |.ntn,v,w=>(JV v w).map (!·)
 |.sO,v,w=>vc h v w
 |.nin,v,w=>(vc h v w).map (!·)
 |_,_,_=>none
noncomputable def cB(h:Hs):Val->Option Bool
 |.non=>some false
 |.bl b=>some b
 |.int i=>some (i != 0)
 |.str x=>if x.length<=sizeLine then some ((x.length:Int) != 0) else none
 |.tup vs=>some (!vs.isEmpty)
 |.rl vs=>some (!vs.isEmpty)
 |.dc ks _=>some (!ks.isEmpty)
 |.ob _ _ _=>none
 | .ref i=>match h[i]? with
  |some (.lst xs)=>some (!xs.isEmpty)
  |some (.dct xs)=>some (!xs.isEmpty)
  |_=>none
noncomputable def n5(h:Hs):Val->Val->Option Val
 |.str x,.int i=>if x.length<=sizeLine then (kj x.cps.toList i).map λc=>.str ⟨#[c]⟩ else none
 |.tup vs,.int i=>kj vs i
 |.rl vs,.int i=>kj vs i
 | .ref j,.int i=>match h[j]? with
  |some (.dct kvs)=>bZ kvs (.inl i)
  |_=>(aE h (.ref j)).bind λxs=>kj xs i
 | .ref j,.str x=>match h[j]? with
  |some (.dct kvs)=>bZ kvs (.inr x)
  |_=>none
 |.dc ks vs,.int i=>bZ (ks.zip vs) (.inl i)
 |.dc ks vs,.str x=>bZ (ks.zip vs) (.inr x)
 |_,_=>none
noncomputable def DK(h:Hs)(o:Val):Option Unit:=match o with
 | .ref i=>(match h[i]? with
  |some (.dct _)=>some ()
  |_=>none)
 |.dc _ _=>some ()
 |_=>none
noncomputable def ze(h:Hs)(o:Val)(k:Key):Option (Option Val):=match o with
 | .ref i=>(match h[i]? with
  |some (.dct kvs)=>some (bZ kvs k)
  |_=>none)
 |.dc ks vs=>some (bZ (ks.zip vs) k)
 |_=>none
noncomputable def mU(h:Hs)(o:Val):Option (List Key):=match o with
 | .ref i=>(match h[i]? with
  |some (.dct kvs)=>some (kvs.map (·.1))
  |_=>none)
 |.dc ks _=>some ks
 |_=>none
noncomputable def BP:Key->Val
 |.inl i=>.int i
 |.inr x=>.str x
noncomputable def qO:List Key->Option (List Int):=cj λk=>match k with
 |.inl i=>some i
 |.inr _=>none
noncomputable def kE(h:Hs)(o:Val):Option (List Int):=(mU h o).bind λks=>(qO ks).bind λns=>if ns.length<64 then some (PySem.W.sortI ns) else none
noncomputable def qP(h:Hs)(ks:List Key)(w:Val):Option (List Int):=(qO ks).bind λns=>(aE h w).bind λxs=>(bf xs).bind λms=>if ns.length<=100000 then some (ns.filter λn=>!(ms.any λm=>m==n)) else none
noncomputable def ck{α:Type}(ds:List α)(lo hi:Option Int):List α:=(ds.drop (HT.e9 ds.length 0 lo)).take (HT.e9 ds.length ds.length hi-HT.e9 ds.length 0 lo)
noncomputable def tu(v:Val)(lo hi:Option Int):M Val:=match v with
 |.tup vs=>aH (!(decide (HT.e9 vs.length 0 lo=0)&&decide (HT.e9 vs.length vs.length hi=vs.length))) (ret (.tup (ck vs lo hi)))
 |v=>bnd (ask λh=>aE h v) λxs=>new (.lst (ck xs lo hi))
noncomputable def BQ(h:Hs):Val->Option String
 |.non=>some "NoneType" | .bl _=>some "bool" | .int _=>some "int" | .str _=>some "str" | .tup _=>some "tuple" | .rl _=>some "list" | .dc _ _=>some "dict" | .ob _ _ _=>none
 | .ref i=>match h[i]? with
  |some (.lst _)=>some "list"
  |some (.dct _)=>some "dict"
  |_=>none
noncomputable def DL(T:String)(t:String):Option Bool :=
 if ["list","tuple","str","bool","int","dict"].contains T=true then some (decide (T=t\/(T = "int" /\ t = "bool"))) else none
noncomputable def mV(h:Hs):Val->Option Nat
 |.str x=>if x.length<=sizeLine then some x.length else none
 |.tup vs=>some vs.length
 |.rl vs=>some vs.length
 |.dc ks _=>some ks.length
 | .ref i=>match h[i]? with
  |some (.lst xs)=>some xs.length
  |some (.dct xs)=>some xs.length
  |_=>none
 |_=>none
noncomputable def blt:Bl->List Val->M Val
 |.len,[v]=>bnd (ask λh=>mV h v) λn=>ret (.int n)
 |.min,[.int a,.int b]=>ret (.int (if b<a then b else a))
 |.max,[.int a,.int b]=>ret (.int (if b>a then b else a))
 |.min,[v]=>bnd (ask λh=>dJ h v) λxs=>bH ((bf xs).bind u7)
 |.max,[v]=>bnd (ask λh=>dJ h v) λxs=>bH ((bf xs).bind u9)
 |.sorted,[v]=>bnd (ask λh=>aE h v) λxs=>bnd (bH (fQ xs)) λys=>new (.lst ys)
 |.list,[v]=>bnd (ask λh=>dJ h v) λxs=>new (.lst xs)
 |.int,[.bl b]=>ret (.int (if b=true then 1 else 0))
 |.int,[.int i]=>ret (.int i)
 |.all,[v]=>bnd (ask λh=>aE h v) λxs=>bnd (bH (fY xs)) λbs=>ret (.bl (bs.all id))
 |.isin T,[v]=>bnd (ask λh=>BQ h v) λt=>bnd (bH (DL T t)) λb=>ret (.bl b)
 |_,_=>bH none
noncomputable def met:Me->Val->List Val->M Val
 |.append,.ref i,[v]=>bnd (ask λh=>match h[i]? with|some (.lst xs)=>some xs|_=>none) λxs=>aH (decide (xs.length<sizeLine)) (bnd (put i (.lst (xs++[v]))) λ_=>ret .non)
 |.extend,.ref i,[v]=>bnd (ask λh=>match h[i]? with|some (.lst xs)=>some xs|_=>none) λxs=>bnd (ask λh=>wQ h v) λys=>aH (decide (xs.length+ys.length<=sizeLine)) (bnd (put i (.lst (xs++ys))) λ_=>ret .non)
 |_,_,_=>bH none
noncomputable def recv(h:Hs):Me->Val->Option Unit
 |.join,.str _=>some ()
 |.append,.ref i=>match h[i]? with|some (.lst _)=>some ()|_=>none
 |.extend,.ref i=>match h[i]? with|some (.lst _)=>some ()|_=>none
 |_,_=>none
inductive Src
 |fix (xs:List Val)|live (i:Nat)|enum (i:Nat)|zip (v w:Val)
noncomputable def cS:Nat->List Val->List Val
 |_,[]=>[]
 |i,d::r=>.tup [.int i,d]::cS (i+1) r
noncomputable def P9:List Val->List Val->List Val
 |a::r,b::t=>.tup [a,b]::P9 r t
 |_,_=>[]
noncomputable def cz(lo:Int)(n:Nat):List Val:=(List.range n).map λ(i:Nat)=>Val.int (lo+(i:Int))
noncomputable def inR(i:Int):Bool:=decide (-(2 ^ 62)<=i)&&decide (i<2 ^ 62)
noncomputable def srcOf:Ik->List Val->Option Src
 |.seq,[.tup vs]=>some (.fix vs)
 |.seq,[.rl vs]=>some (.fix vs)
 |.seq,[.ref i]=>some (.live i)
 |.range,[.int n]=>if inR n then some (.fix (cz 0 n.toNat)) else none
 |.range,[.int a,.int b]=>if inR a&&inR b then some (.fix (cz a (b-a).toNat)) else none
 |.enum,[.rl vs]=>some (.fix (cS 0 vs))
 |.enum,[.ref i]=>some (.enum i)
 |.zip,[v,w]=>some (.zip v w)
 |_,_=>none
noncomputable def Src.items(h:Hs):Src->Option (List Val)
 |.fix xs=>some xs
 |.live i=>aE h (.ref i)
 |.enum i=>(aE h (.ref i)).map (cS 0)
 |.zip v w=>(aE h v).bind λxs=>(aE h w).map λys=>P9 xs ys
noncomputable def bindAll:List Nat->List Val->Env->Option Env
 |[],[],env=>some env
 |i::is,d::ds,env=>bindAll is ds (env.set i (some d))
 |_,_,_=>none
noncomputable def gJ:z9->Val->Env->Option Env
 |.one i,d,env=>some (env.set i (some d))
 |.tup is,.tup ds,env=>bindAll is ds env
 |_,_,_=>none
noncomputable def kF(js:List (Option Nat))(env:Env):Env:=js.map λo=>match o with
 |none=>none
 | some j=>match env[j]? with
  |some (some d)=>some d
  |_=>none
noncomputable def gp(src:Src)(f:Val->M (Option Val)):Nat->Nat->List Val->M (List Val)
 |0,i,acc=>bnd (ask λh=>src.items h) λxs=>aH (decide (xs.length<=i)) (ret acc)
 | n+1,i,acc=>bnd (ask λh=>src.items h) λxs=>match xs[i]? with
  |none=>ret acc
  |some x=>bnd (f x) λo=>gp src f n (i+1) (match o with|some e=>acc++[e]|none=>acc)
noncomputable def dQ:IE->Bool
 |.no=>true
 |_=>false
noncomputable def jZ:Val->Option Int
 |.int i=>some i
 |_=>none
noncomputable def qQ:Val->M Bool
 |.bl b=>ret b
 |_=>bH none
noncomputable def jb(n:Nat)(h:Hs)(o:Val)(x:Str):Option Val:=match o with
 | .ref i=>(match h[i]? with
  |some (.ins c fs)=>if c<n then fs.lookup x else none
  |_=>none)
 |.ob c xs vs=>if c<n then (xs.zip vs).lookup x else none
 |_=>none
noncomputable def lJ(h:Hs)(o:Val)(m:Str)(js:List (Nat×Nat)):Option Nat:=match o with
 | .ref i=>(match h[i]? with
  |some (.ins c fs)=>if (fs.lookup m).isNone=true then js.lookup c else none
  |_=>none)
 |.ob c xs vs=>if ((xs.zip vs).lookup m).isNone=true then js.lookup c else none
 |_=>none
noncomputable def qR(f:Str)(v:Val):List (Str×Val)->List (Str×Val)
 |[]=>[(f,v)]
 |(g,x)::r=>if g=f then (g,v)::r else (g,x)::qR f v r
noncomputable def Aa(n:Nat)(o:Val)(x:Str)(v:Val):M Unit:=match o with
 |.ref i=>bnd (ask λh=>match h[i]? with|some (.ins c fs)=>if c<n then some (c,fs) else none|_=>none) λp=>aH (decide (p.2.length<1000)) (put i (.ins p.1 (qR x v p.2)))
 |_=>bH none
noncomputable def DM(c:Nat)(φ:List Val->M Val)(vs:List Val):M Val:=bnd (new (.ins c [])) λo=>bnd (φ (o::vs)) λr=>match r with
 |.non=>ret o
 |_=>bH none
mutual
noncomputable def aJ(Φ:Nat->List Val->M Val):IE->Env->M Val
 | .var i,env=>bH (match env[i]? with
  |some (some d)=>some d
  |_=>none)
 |.cst d,_=>ret d
 |.con _ d,_=>ret d
 |.no,_=>bH none
 |.bin o a b,env=>bnd (aJ Φ a env) λx=>bnd (aJ Φ b env) λy=>JU o x y
 | .neg a,env=>bnd (aJ Φ a env) λx=>match x with
  |.int i=>ret (.int (-i))
  |_=>bH none
 |.cmp o a b,env=>bnd (aJ Φ a env) λx=>bnd (aJ Φ b env) λy=>bnd (ask λh=>cop h o x y) λt=>ret (.bl t)
 |.chn _ _ _ _ _,_=>bH none
 |.and a b,env=>bnd (aJ Φ a env) λx=>bnd (qQ x) λt=>if t=true then bnd (aJ Φ b env) λy=>bnd (qQ y) λu=>ret (.bl u) else ret (.bl false)
 |.or a b,env=>bnd (aJ Φ a env) λx=>bnd (qQ x) λt=>if t=true then ret (.bl true) else bnd (aJ Φ b env) λy=>bnd (qQ y) λu=>ret (.bl u)
 |.not a,env=>bnd (aJ Φ a env) λx=>bnd (qQ x) λt=>ret (.bl (!t))
 |.ite _ _ _,_=>bH none
 |.tup es,env=>bnd (bz Φ es env) λds=>aH (decide (ds.length<=sizeLine)) (ret (.tup ds))
 |.lst es,env=>bnd (bz Φ es env) λds=>aH (decide (ds.length<=sizeLine)) (new (.lst ds))
 |.idx a b,env=>bnd (aJ Φ a env) λx=>bnd (aJ Φ b env) λy=>ask λh=>n5 h x y
 |.slc a lo hi,env=>bnd (aJ Φ a env) λx=>bnd (if dQ lo=true then ret none else bnd (aJ Φ lo env) λv=>bnd (bH (jZ v)) λi=>ret (some i)) λl=>
   bnd (if dQ hi=true then ret none else bnd (aJ Φ hi env) λv=>bnd (bH (jZ v)) λi=>ret (some i)) λu=>tu x l u
 |.call j es,env=>bnd (bz Φ es env) λds=>Φ j ds
 |.blt b es,env=>bnd (bz Φ es env) λds=>blt b ds
 |.met m a es,env=>bnd (aJ Φ a env) λx=>bnd (ask λh=>recv h m x) λ_=>bnd (bz Φ es env) λds=>met m x ds
 | .comp _ js pat k it c elt,env=>bnd (bz Φ it env) λits=>bnd (bH (srcOf k its)) λsrc=>bnd (ask λh=>src.items h) λxs=>aH (decide (xs.length<=100000))
   (bnd (gp src (λd=>bnd (bH (gJ pat d (kF js env))) λenv'=>bnd (if dQ c=true then ret true else bnd (aJ Φ c env') λv=>ask λh=>cB h v) λt=>
    if t=true then bnd (aJ Φ elt env') λe=>ret (some e) else ret none) xs.length 0 []) λys=>new (.lst ys))
 |.dct0,_=>new (.dct [])
 |.sset a,env=>bnd (aJ Φ a env) λv=>bnd (ask λh=>aE h v) λxs=>bnd (bH (bf xs)) λns=>aH (decide (ns.length<64)) (new (.lst ((PySem.W.sortI (L2.ff [] ns)).map .int)))
 |.dget d k x,env=>bnd (aJ Φ d env) λo=>bnd (ask λh=>DK h o) λ_=>bnd (aJ Φ k env) λi=>bnd (bH (keyOf i)) λkk=>bnd (aJ Φ x env) λz=>bnd (ask λh=>ze h o kk) λr=>ret (r.getD z)
 |.dct1 k v,env=>bnd (aJ Φ k env) λx=>bnd (bH (keyOf x)) λkk=>bnd (aJ Φ v env) λy=>new (.dct [(kk,y)])
 |.lkeys d,env=>bnd (aJ Φ d env) λo=>bnd (ask λh=>mU h o) λks=>new (.lst (ks.map BP))
 |.sdef _ _ _,_=>bH none
 |.svals _,_=>bH none
 |.skeys d,env=>bnd (aJ Φ d env) λo=>bnd (ask λh=>kE h o) λns=>new (.lst (ns.map .int))
 |.fld n a x,env=>bnd (aJ Φ a env) λo=>ask λh=>jb n h o x
 |.mth a m js es,env=>bnd (aJ Φ a env) λo=>bnd (ask λh=>lJ h o m js) λj=>bnd (bz Φ es env) λds=>Φ j (o::ds)
 |.rev _ _,_=>bH none
 |.dflt _ _ _ _ d w,env=>bnd (aJ Φ d env) λo=>bnd (ask λh=>mU h o) λks=>bnd (aJ Φ w env) λv=>bnd (ask λh=>qP h ks v) λns=>new (.lst (ns.map .int))
 |.isc _ _ _,_=>bH none
noncomputable def bz(Φ:Nat->List Val->M Val):o7->Env->M (List Val)
 |.nil,_=>ret []
 |.cons e es,env=>bnd (aJ Φ e env) λd=>bnd (bz Φ es env) λds=>ret (d::ds)
end
inductive Fl
 |nx (env:Env)|rt (v:Val)|bk (env:Env)|ct (env:Env)
noncomputable def forM(src:Src)(body:Val->Env->M Fl):Nat->Nat->Env->M Fl
 |0,i,env=>bnd (ask λh=>src.items h) λxs=>aH (decide (xs.length<=i)) (ret (.nx env))
 | n+1,i,env=>bnd (ask λh=>src.items h) λxs=>match xs[i]? with
  |none=>ret (.nx env)
  | some x=>bnd (body x env) λf=>match f with
   |.nx env'=>forM src body n (i+1) env'
   |.ct env'=>forM src body n (i+1) env'
   |.bk env'=>ret (.nx env')
   |.rt v=>ret (.rt v)
noncomputable def BR(c:Env->M Bool)(body:Env->M Fl):Nat->Env->M Fl
 |0,_=>bH none
 | n+1,env=>bnd (c env) λt=>if t=true then bnd (body env) λf=>(match f with
   |.nx env'=>BR c body n env'
   |.ct env'=>BR c body n env'
   |.bk env'=>ret (.nx env')
   |.rt v=>ret (.rt v)) else ret (.nx env)
noncomputable def um(o i v:Val):M Unit:=match o with
 | .ref j=>bnd (ask λh=>h[j]?) λob=>match ob,i with
  |.lst xs,.int k=>bnd (bH (Bt xs.length k)) λn=>put j (.lst (xs.set n v))
  |.dct kvs,i=>bnd (bH (keyOf i)) λk=>aH (decide (kvs.length<sizeLine)) (put j (.dct (iL kvs k v)))
  |_,_=>bH none
 |_=>bH none
mutual
noncomputable def gK(Φ:Nat->List Val->M Val):IS->Env->M Fl
 |.expr e,env=>bnd (aJ Φ e env) λ_=>ret (.nx env)
 |.asg p e,env=>bnd (aJ Φ e env) λv=>bnd (bH (gJ p v env)) λenv'=>ret (.nx env')
 |.aug i o e,env=>bnd (bH (match env[i]? with|some (some (.int x))=>some x|_=>none)) λx=>bnd (aJ Φ e env) λv=>bnd (bH (jZ v)) λy=>bnd (JU o (.int x) (.int y)) λz=>ret (.nx (env.set i (some z)))
 |.fX o i v,env=>bnd (aJ Φ v env) λx=>bnd (aJ Φ o env) λy=>bnd (aJ Φ i env) λz=>bnd (um y z x) λ_=>ret (.nx env)
 |.iff c a b,env=>bnd (aJ Φ c env) λx=>bnd (ask λh=>cB h x) λt=>if t=true then fu Φ a env else fu Φ b env
 |.for p k it body,env=>bnd (bz Φ it env) λits=>bnd (bH (srcOf k its)) λsrc=>bnd (ask λh=>src.items h) λxs=>
   forM src (λx env=>bnd (bH (gJ p x env)) λenv'=>fu Φ body env') xs.length 0 env
 |.whl n c body,env=>BR (λenv=>bnd (aJ Φ c env) λx=>ask λh=>cB h x) (fu Φ body) n env
 |.ret e,env=>bnd (aJ Φ e env) λv=>ret (.rt v)
 |.HK,_=>ret (.rt .non)
 |.brk,env=>ret (.bk env)
 |.cnt,env=>ret (.ct env)
 |.pass,env=>ret (.nx env)
 |.never,_=>bH none
 |.setF n a x v,env=>bnd (aJ Φ v env) λy=>bnd (aJ Φ a env) λo=>bnd (Aa n o x y) λ_=>ret (.nx env)
noncomputable def fu(Φ:Nat->List Val->M Val):eE->Env->M Fl
 |.nil,env=>ret (.nx env)
 | .cons s r,env=>bnd (gK Φ s env) λf=>match f with
  |.nx env'=>fu Φ r env'
  |f=>ret f
end
noncomputable def gR(Φ:Nat->List Val->M Val)(n:Nat)(body:eE)(vs:List Val):M Val :=
 bnd (fu Φ body (vs.map some++replicate (n-vs.length) none)) λf=>match f with
  |.nx _=>ret .non
  |.rt v=>ret v
  |_=>bH none
theorem kG{b:Bool}(ho:o=.lt\/o=.le\/o=.gt\/o=.ge)(e:cop h o v w=some b):∃i j,v=.int i/\w=.int j:=by
 cases v with
 |int i=>
  cases w with
  |int j=>exact⟨i,j,rfl,rfl⟩
  |_=>rcases ho with rfl|rfl|rfl|rfl<;>cases e
 |_=>rcases ho with rfl|rfl|rfl|rfl<;>cases e
end Hv
end
section
namespace Hv
open PySem L2 PyProof.Rows
structure Bd where
 K:PySem.W.Frag
 cl:Nat->Addr
noncomputable def JW(K:PySem.W.Frag)(H:Hp)(a:Addr)(xs:List V):Prop :=
 (∃o,H a=some (.kg o (.lst xs)))\/gI K (λ_=>none) a xs
theorem JW.sq{K:PySem.W.Frag}{H:Hp}{a:Addr}{xs:List V}(h:JW K H a xs):gI K H a xs:=by
 rcases h with ⟨o,h⟩|(h|⟨o,h⟩)|h
 ·exact .inl (.inr ⟨o,h⟩)
 ·cases h
 ·cases h
 ·exact .inr h
mutual
noncomputable def VR(K:PySem.W.Frag)(ρ:List Addr)(H:Hp):Val->V->Prop
 |.non,x=>x=.non
 |.bl b,x=>x=.bl b
 |.int i,x=>x=.int i
 |.str s,x=>x=.str s
 |.tup vs,x=>∃a xs,x=.ref a/\jK K H a xs/\aC K ρ H vs xs
 |.rl vs,x=>∃a xs,x=.ref a/\JW K H a xs/\aC K ρ H vs xs
 |.dc _ _,_=>False
 |.ob _ _ _,_=>False
 |.ref i,x=>∃a,x=.ref a /\ ρ[i]?=some a
noncomputable def aC(K:PySem.W.Frag)(ρ:List Addr)(H:Hp):List Val->List V->Prop
 |[],xs=>xs=[]
 |v::vs,xs=>∃x r,xs=x::r/\VR K ρ H v x/\aC K ρ H vs r
end
noncomputable def gS(K:PySem.W.Frag)(ρ:List Addr)(H:Hp):List (Key×Val)->List (Key×V)->Prop
 |[],xs=>xs=[]
 |(k,v)::vs,xs=>∃x r,xs=(k,x)::r/\VR K ρ H v x/\gS K ρ H vs r
noncomputable def mW(K:PySem.W.Frag)(ρ:List Addr)(H:Hp):List (Str×Val)->List (Str×V)->Prop
 |[],xs=>xs=[]
 |(k,v)::vs,xs=>∃x r,xs=(k,x)::r/\VR K ρ H v x/\mW K ρ H vs r
noncomputable def OR(B:Bd)(ρ:List Addr)(H:Hp)(a:Addr):Ob->Prop
 |.lst xs=>∃ys,H a=some (.lst ys)/\aC B.K ρ H xs ys
 |.dct kvs=>∃ks,H a=some (.dK ks)/\gS B.K ρ H kvs ks
 |.ins c fs=>∃dx gs,H a=some (.ins (B.cl c) dx gs)/\mW B.K ρ H fs gs
structure HR (B:Bd) (ρ:List Addr) (h:Hs) (H:Hp):Prop where
 len:ρ.length=h.length
 nd:ρ.Nodup
 ob:∀(i:Nat) (o:Ob) (a:Addr),h[i]?=some o -> ρ[i]?=some a->OR B ρ H a o
noncomputable def Mu:HO->Bool
 |.lst _=>true|.dK _=>true|.ins ..=>true
 |_=>false
structure Gw (ρ:List Addr) (H:Hp) (ρ':List Addr) (H':Hp):Prop where
 pre:ρ <+: ρ'
 firm:∀a o,H a=some o->Mu o=false->H' a=some o
structure Gr (ρ:List Addr) (H:Hp) (ρ':List Addr) (H':Hp):Prop where
 pre:ρ <+: ρ'
 keep:∀a o,H a=some o->a ∉ ρ -> H' a=some o
 firm:∀a o,H a=some o->Mu o=false->H' a=some o
 fresh:∀a,a ∈ ρ'->a ∉ ρ -> H a=none
section
variable {K:PySem.W.Frag} {B:Bd} {ρ ρ' ρ1 ρ2:List Addr} {H H' H1 H2:Hp} {h h':Hs}
theorem Gr.w(g:Gr ρ H ρ' H'):Gw ρ H ρ' H':=⟨g.pre,g.firm⟩
theorem Gr.refl:Gr ρ H ρ H:=⟨prefix_refl _,λ_ _ e _=>e,λ_ _ e _=>e,λ_ e n=>absurd e n⟩
theorem Gr.trans(g:Gr ρ H ρ1 H1)(k:Gr ρ1 H1 ρ2 H2):Gr ρ H ρ2 H2 where
 pre:=g.pre.trans k.pre
 keep a o e n:=k.keep a o (g.keep a o e n) λz=>by rw[g.fresh a z n]at e;cases e
 firm a o e n:=k.firm a o (g.firm a o e n) n
 fresh a z n:=by
  by_cases hb:a ∈ ρ1
  ·exact g.fresh a hb n
  ·cases e:H a with
   |none=>rfl
   |some o=>have e1:=g.keep a o e n;rw[k.fresh a z hb]at e1;cases e1
theorem qa{i:Nat}(p:ρ <+: ρ')(e:ρ[i]?=some a):ρ'[i]?=some a:=by
 obtain⟨t,rfl⟩:=p;have hi:i < ρ.length:=(List.getElem?_eq_some_iff.mp e).1;rw[getElem?_append_left hi];exact e
theorem Gw.SX(g:Gw ρ H ρ' H')(e:jK K H a xs):jK K H' a xs:=by
 rcases e with (e|⟨o,e⟩)|e
 ·exact .inl (.inl (g.firm _ _ e rfl))
 ·exact .inl (.inr ⟨o,g.firm _ _ e rfl⟩)
 ·exact .inr e
theorem Gw.LR(g:Gw ρ H ρ' H')(e:JW K H a xs):JW K H' a xs:=by
 rcases e with ⟨o,e⟩|e
 ·exact .inl ⟨o,g.firm _ _ e rfl⟩
 ·exact .inr e
mutual
theorem VR.lK(g:Gw ρ H ρ' H'):∀(v:Val) (x:V),VR K ρ H v x->VR K ρ' H' v x
 |.non,x,e=>by rw[VR]at e |-;exact e
 |.bl b,x,e=>by rw[VR]at e |-;exact e
 |.int b,x,e=>by rw[VR]at e |-;exact e
 |.str b,x,e=>by rw[VR]at e |-;exact e
 | .tup vs,x,e=>by
  rw[VR]at e |-;obtain⟨a,xs,rfl,q1,q2⟩:=e;exact⟨a,xs,rfl,g.SX q1,aC.lK g vs xs q2⟩
 | .rl vs,x,e=>by
  rw[VR]at e |-;obtain⟨a,xs,rfl,q1,q2⟩:=e;exact⟨a,xs,rfl,g.LR q1,aC.lK g vs xs q2⟩
 |.dc _ _,x,e=>by rw[VR]at e;exact e.elim
 |.ob _ _ _,x,e=>by rw[VR]at e;exact e.elim
 | .ref i,x,e=>by
  rw[VR]at e |-;obtain⟨a,rfl,q⟩:=e;exact⟨a,rfl,qa g.pre q⟩
theorem aC.lK(g:Gw ρ H ρ' H'):∀(vs:List Val) (xs:List V),aC K ρ H vs xs->aC K ρ' H' vs xs
 |[],xs,e=>by rw[aC]at e |-;exact e
 | v::vs,xs,e=>by
  rw[aC]at e |-;obtain⟨x,r,rfl,q1,q2⟩:=e;exact⟨x,r,rfl,VR.lK g v x q1,aC.lK g vs r q2⟩
end
theorem gS.lK(g:Gw ρ H ρ' H'):∀(vs:List (Key×Val)) (xs:List (Key×V)),gS K ρ H vs xs->gS K ρ' H' vs xs
 |[],xs,e=>e
 |(k,v)::vs,xs,⟨x,r,e,q1,q2⟩=>⟨x,r,e,VR.lK g v x q1,gS.lK g vs r q2⟩
theorem mW.lK(g:Gw ρ H ρ' H'):∀(vs:List (Str×Val)) (xs:List (Str×V)),mW K ρ H vs xs->mW K ρ' H' vs xs
 |[],xs,e=>e
 |(k,v)::vs,xs,⟨x,r,e,q1,q2⟩=>⟨x,r,e,VR.lK g v x q1,mW.lK g vs r q2⟩
theorem mW.look:∀{vs:List (Str×Val)} {xs:List (Str×V)},mW K ρ H vs xs->(vs.lookup x=none->xs.lookup x=none)/\∀v,vs.lookup x=some v->∃y,xs.lookup x=some y/\VR K ρ H v y
 |[],xs,e=>by rw[mW]at e;subst e;exact⟨λ_=>rfl,λv z=>by cases z⟩
 | (k,v)::vs,xs,e=>by
  rw[mW]at e;obtain⟨y,r,rfl,q1,q2⟩:=e;rw[lookup_cons,lookup_cons];cases hb:x==k with
  |true=>exact⟨λz=>(by cases z),λw z=>by cases z;exact⟨y,rfl,q1⟩⟩
  |false=>exact mW.look q2
theorem mW.length:∀{vs:List (Str×Val)} {xs:List (Str×V)},mW K ρ H vs xs->vs.length=xs.length
 |[],xs,e=>by rw[mW]at e;subst e;rfl
 |(k,v)::vs,xs,e=>by rw[mW]at e;obtain⟨y,r,rfl,_,q⟩:=e;simp[mW.length q]
theorem mW.put(hw:VR K ρ H w y):∀{vs:List (Str×Val)} {xs:List (Str×V)},mW K ρ H vs xs->mW K ρ H (qR x w vs) (jM x y xs)
 |[],xs,e=>by rw[mW]at e;subst e;exact⟨y,[],rfl,hw,rfl⟩
 | (k,v)::vs,xs,e=>by
  rw[mW]at e;obtain⟨z,r,rfl,q1,q2⟩:=e;rw[qR,jM]
  by_cases hk:k=x
  ·rw[if_pos hk,if_pos hk];exact⟨y,r,rfl,hw,q2⟩
  ·rw[if_neg hk,if_neg hk];exact⟨z,_,rfl,q1,mW.put hw q2⟩
theorem VR.up(g:Gr ρ H ρ' H')(v:Val)(x:V)(e:VR K ρ H v x):VR K ρ' H' v x:=VR.lK g.w v x e
theorem aC.up(g:Gr ρ H ρ' H')(v:List Val)(x:List V)(e:aC K ρ H v x):aC K ρ' H' v x:=aC.lK g.w v x e
theorem gS.up(g:Gr ρ H ρ' H')(v:List (Key×Val))(x:List (Key×V))(e:gS K ρ H v x):gS K ρ' H' v x:=gS.lK g.w v x e
theorem mW.up(g:Gr ρ H ρ' H')(v:List (Str×Val))(x:List (Str×V))(e:mW K ρ H v x):mW K ρ' H' v x:=mW.lK g.w v x e
theorem aC.nil:aC K ρ H [] []:=by rw[aC]
theorem aC.cons{v:Val}{vs:List Val}{x:V}{xs:List V}(a:VR K ρ H v x)(b:aC K ρ H vs xs):aC K ρ H (v::vs) (x::xs):=by rw[aC];exact⟨x,xs,rfl,a,b⟩
theorem aC.length:∀{vs:List Val} {xs:List V},aC K ρ H vs xs->vs.length=xs.length
 |[],xs,e=>by rw[aC]at e;subst e;rfl
 |v::vs,xs,e=>by rw[aC]at e;obtain⟨x,r,rfl,_,q⟩:=e;simp[aC.length q]
theorem aC.get:∀{vs:List Val} {xs:List V} {i:Nat} {v:Val},aC K ρ H vs xs->vs[i]?=some v->∃x,xs[i]?=some x/\VR K ρ H v x
 |[],xs,i,v,e,q=>by simp at q
 | w::vs,xs,0,v,e,q=>by
  rw[aC]at e;obtain⟨x,r,rfl,a,_⟩:=e;simp at q;subst q;exact⟨x,rfl,a⟩
 | w::vs,xs,i+1,v,e,q=>by
  rw[aC]at e;obtain⟨x,r,rfl,_,b⟩:=e;simp at q;obtain⟨y,q1,q2⟩:=aC.get b q;exact⟨y,by simpa using q1,q2⟩
theorem aC.append:∀{vs ws:List Val} {xs ys:List V},aC K ρ H vs xs->aC K ρ H ws ys->aC K ρ H (vs++ws) (xs++ys)
 |[],ws,xs,ys,e,q=>by rw[aC]at e;subst e;exact q
 | w::vs,ws,xs,ys,e,q=>by
  rw[aC]at e;obtain⟨x,r,rfl,a,b⟩:=e;exact aC.cons a (aC.append b q)
theorem aC.take:∀{vs:List Val} {xs:List V} (n:Nat),aC K ρ H vs xs->aC K ρ H (vs.take n) (xs.take n)
 |_,_,0,_=>by simp;exact aC.nil
 |[],xs,n+1,e=>by rw[aC]at e;subst e;simp;exact aC.nil
 | w::vs,xs,n+1,e=>by
  rw[aC]at e;obtain⟨x,r,rfl,a,b⟩:=e;exact aC.cons a (aC.take n b)
theorem aC.drop:∀{vs:List Val} {xs:List V} (n:Nat),aC K ρ H vs xs->aC K ρ H (vs.drop n) (xs.drop n)
 |_,_,0,e=>by simpa using e
 |[],xs,n+1,e=>by rw[aC]at e;subst e;simp;exact aC.nil
 | w::vs,xs,n+1,e=>by
  rw[aC]at e;obtain⟨x,r,rfl,a,b⟩:=e;exact aC.drop n b
theorem aC.cut(lo hi:Option Int)(e:aC K ρ H vs xs):aC K ρ H (ck vs lo hi) (we xs lo hi):=by
 unfold ck we;rw[e.length];exact aC.take _ (aC.drop _ e)
theorem aC.kj{i:Int}(e:aC K ρ H vs xs)(q:L2.kj vs i=some v):∃x,L2.kj xs i=some x/\VR K ρ H v x:=by
 unfold L2.kj at q |-;rw[e.length]at q;cases hi:L2.Bt xs.length i with
 |none=>rw[hi]at q;cases q
 |some n=>rw[hi]at q;exact aC.get e q
theorem aC.set:∀{vs:List Val} {xs:List V} (n:Nat) {v:Val} {x:V},aC K ρ H vs xs->VR K ρ H v x->aC K ρ H (vs.set n v) (xs.set n x)
 |[],xs,n,v,x,e,q=>by rw[aC]at e;subst e;simp;exact aC.nil
 | w::vs,xs,0,v,x,e,q=>by
  rw[aC]at e;obtain⟨y,r,rfl,a,b⟩:=e;exact aC.cons q b
 | w::vs,xs,n+1,v,x,e,q=>by
  rw[aC]at e;obtain⟨y,r,rfl,a,b⟩:=e;exact aC.cons a (aC.set n b q)
theorem aC.one(e:aC K ρ H [v] xs):∃x,xs=[x]/\VR K ρ H v x:=by
 rw[aC]at e;obtain⟨x,r,rfl,a,b⟩:=e;rw[aC]at b;subst b;exact⟨x,rfl,a⟩
theorem aC.two(e:aC K ρ H [v,w] xs):∃x y,xs=[x,y]/\VR K ρ H v x/\VR K ρ H w y:=by
 rw[aC]at e;obtain⟨x,r,rfl,a,b⟩:=e;obtain⟨y,rfl,c⟩:=aC.one b;exact⟨x,y,rfl,a,c⟩
theorem VR.int{i:Int}:VR K ρ H (.int i) (.int i):=by rw[VR]
theorem VR.str:VR K ρ H (.str i) (.str i):=by rw[VR]
theorem VR.bl{i:Bool}:VR K ρ H (.bl i) (.bl i):=by rw[VR]
theorem VR.non:VR K ρ H .non .non:=by rw[VR]
theorem VR.tup(q:jK K H a xs)(e:aC K ρ H vs xs):VR K ρ H (.tup vs) (.ref a):=by rw[VR];exact⟨a,xs,rfl,q,e⟩
theorem VR.ref{i:Nat}(q:ρ[i]?=some a):VR K ρ H (.ref i) (.ref a):=by rw[VR];exact⟨a,rfl,q⟩
theorem aC.ints:∀{ns:List Int} {xs:List V},aC K ρ H (ns.map Val.int) xs↔xs=ns.map V.int
 |[],xs=>by simp[aC]
 | n::ns,xs=>by
  simp only[map_cons];rw[aC];constructor
  ·rintro⟨x,r,rfl,a,b⟩;rw[VR]at a;subst a;rw[(aC.ints (ns:=ns)).mp b]
  ·rintro rfl;exact⟨_,_,rfl,VR.int,(aC.ints (ns:=ns)).mpr rfl⟩
theorem aC.bools:∀{ns:List Bool} {xs:List V},aC K ρ H (ns.map Val.bl) xs↔xs=ns.map V.bl
 |[],xs=>by simp[aC]
 | n::ns,xs=>by
  simp only[map_cons];rw[aC];constructor
  ·rintro⟨x,r,rfl,a,b⟩;rw[VR]at a;subst a;rw[(aC.bools (ns:=ns)).mp b]
  ·rintro rfl;exact⟨_,_,rfl,VR.bl,(aC.bools (ns:=ns)).mpr rfl⟩
theorem aC.tups:∀{p7:List (List Int)} {xs:List V},aC K ρ H (p7.map mT) xs->∃rs:List (Addr×List Int),xs=rs.map (λr=>V.ref r.1)/\p7=rs.map (·.2)/\∀r∈rs,jK K H r.1 (r.2.map V.int)
 |[],xs,e=>by simp only[map_nil]at e;rw[aC]at e;exact⟨[],e,rfl,λ_ z=>nomatch z⟩
 | ks::p7,xs,e=>by
  simp only[map_cons]at e;rw[aC]at e;obtain⟨x,r,rfl,a,b⟩:=e;obtain⟨rs,e1,e2,e3⟩:=aC.tups b;unfold mT at a;rw[VR]at a;obtain⟨p,ys,rfl,g1,g2⟩:=a;rw[aC.ints.mp g2]at g1;refine⟨(p,ks)::rs,by rw[e1];rfl,by rw[e2];rfl,λr hr=>?_⟩
  rcases mem_cons.mp hr with z|z
  ·rw[z];exact g1
  ·exact e3 r z
theorem aC.Ab:∀{rs:List (Addr×List Int)},(∀r∈rs,jK K H r.1 (r.2.map V.int))->aC K ρ H ((rs.map (·.2)).map mT) (rs.map λr=>V.ref r.1)
 |[],_=>aC.nil
 |r::rs,e=>aC.cons (VR.tup (e r mem_cons_self) (aC.ints.mpr rfl)) (aC.Ab λq hq=>e q (mem_cons_of_mem _ hq))
theorem OR.mu(q:OR B ρ H a o):∃u,H a=some u/\Mu u=true:=by
 cases o with
 |lst xs=>obtain⟨ys,e,_⟩:=q;exact⟨_,e,rfl⟩
 |dct xs=>obtain⟨ys,e,_⟩:=q;exact⟨_,e,rfl⟩
 |ins c fs=>obtain⟨dx,ys,e,_⟩:=q;exact⟨_,e,rfl⟩
theorem HR.mu(r:HR B ρ h H)(e:a ∈ ρ):∃u,H a=some u/\Mu u=true:=by
 obtain⟨i,hi,rfl⟩:=getElem_of_mem e;have hi':i<h.length:=by rw[<-r.len];exact hi
 exact(r.ob i _ _ (List.getElem?_eq_getElem hi') (List.getElem?_eq_getElem hi)).mu
theorem HR.out(r:HR B ρ h H)(e:H p=none):p ∉ ρ:=λz=>by
 obtain⟨u,q,_⟩:=r.mu z;rw[e]at q;cases q
theorem OR.lK(g:Gw ρ H ρ' H')(e:H' a=H a)(q:OR B ρ H a o):OR B ρ' H' a o:=by
 cases o with
 |lst xs=>obtain⟨ys,e1,e2⟩:=q;exact⟨ys,e.trans e1,aC.lK g _ _ e2⟩
 |dct xs=>obtain⟨ys,e1,e2⟩:=q;exact⟨ys,e.trans e1,gS.lK g _ _ e2⟩
 |ins c fs=>obtain⟨dx,ys,e1,e2⟩:=q;exact⟨dx,ys,e.trans e1,mW.lK g _ _ e2⟩
theorem OR.up(g:Gr ρ H ρ' H')(e:H' a=H a)(q:OR B ρ H a o):OR B ρ' H' a o:=OR.lK g.w e q
theorem Gr.side(e:H p=none):Gr ρ H ρ (upd H p o) where
 pre:=prefix_refl _
 keep a u q _:=by rw[ao (aG q e)];exact q
 firm a u q _:=by rw[ao (aG q e)];exact q
 fresh a z n:=absurd z n
theorem HR.side(r:HR B ρ h H)(e:H p=none):HR B ρ h (upd H p o) where
 len:=r.len
 nd:=r.nd
 ob i u a q1 q2:=by refine OR.up (Gr.side e) ?_ (r.ob i u a q1 q2);refine ao λz=>?_;subst z;exact r.out e (mem_of_getElem? q2)
theorem Gw.other(e:H p=some u)(hm:Mu u=true):Gw ρ H ρ (upd H p o) where
 pre:=prefix_refl _
 firm a w q n:=by
  have:a≠p:=λz=>by subst z;rw[e]at q;cases q;rw[hm]at n;cases n
  rw[ao this];exact q
theorem HR.other(r:HR B ρ h H)(hp:p ∉ ρ)(e:H p=some u)(hm:Mu u=true):HR B ρ h (upd H p o) where
 len:=r.len
 nd:=r.nd
 ob i w a q1 q2:=OR.lK (Gw.other e hm) (ao λz=>by subst z;exact hp (mem_of_getElem? q2)) (r.ob i w a q1 q2)
theorem Gr.new(e:H p=none):Gr ρ H (ρ ++ [p]) (upd H p o) where
 pre:=prefix_append _ _
 keep a u q _:=by rw[ao (aG q e)];exact q
 firm a u q _:=by rw[ao (aG q e)];exact q
 fresh a z n:=by
  rcases mem_append.mp z with z|z
  ·exact absurd z n
  ·rw[mem_singleton.mp z];exact e
theorem HR.new(r:HR B ρ h H)(e:H p=none)(q:OR B (ρ ++ [p]) (upd H p o) p u):HR B (ρ ++ [p]) (h++[u]) (upd H p o) where
 len:=by simp[r.len]
 nd:=by rw[nodup_append];refine⟨r.nd,by simp,λa ha b hb=>?_⟩;rw[mem_singleton.mp hb];rintro rfl;exact r.out e ha
 ob i v a q1 q2:=by
  by_cases hi:i<h.length
  ·rw[getElem?_append_left hi]at q1;rw[getElem?_append_left (by rw[r.len];exact hi)]at q2;refine OR.up (Gr.new e) (ao λz=>?_) (r.ob i v a q1 q2);subst z;exact r.out e (mem_of_getElem? q2)
  ·rw[getElem?_append_right (by omega)]at q1
   rw[getElem?_append_right (by rw[r.len];omega)]at q2;have hi0:i-h.length=0:=by have:=(List.getElem?_eq_some_iff.mp q1).1;simp at this;omega
   rw[hi0]at q1;rw[r.len,hi0]at q2;simp at q1 q2;subst q1;subst q2;exact q
theorem Ac(r:HR B ρ h H):VR K (ρ ++ [p]) H' (.ref h.length) (.ref p):=VR.ref (by rw[<-r.len];simp)
theorem JX{α:Type}:∀{l:List α} {i j:Nat} {a:α},l.Nodup->l[i]?=some a->l[j]?=some a->i=j
 |[],i,j,a,_,e,_=>by simp at e
 |b::l,0,0,a,_,_,_=>rfl
 | b::l,0,j+1,a,n,e,f=>by
  simp at e f;subst e;exact absurd (mem_of_getElem? f) (nodup_cons.mp n).1
 | b::l,i+1,0,a,n,e,f=>by
  simp at e f;subst f;exact absurd (mem_of_getElem? e) (nodup_cons.mp n).1
 | b::l,i+1,j+1,a,n,e,f=>by
  simp at e f;rw[JX (nodup_cons.mp n).2 e f]
theorem Gr.put(hp:p ∈ ρ)(e:H p=some u)(hm:Mu u=true):Gr ρ H ρ (upd H p o) where
 pre:=prefix_refl _
 keep a w q n:=by rw[ao λz=>n (by rw[z];exact hp)];exact q
 firm a w q n:=by
  have:a≠p:=λz=>by subst z;rw[e]at q;cases q;rw[hm]at n;cases n
  rw[ao this];exact q
 fresh a z n:=absurd z n
theorem HR.put{i:Nat}(r:HR B ρ h H)(hi:ρ[i]?=some p)(e:h[i]?=some w)(q:OR B ρ (upd H p o) p u):HR B ρ (h.set i u) (upd H p o) where
 len:=by simp[r.len]
 nd:=r.nd
 ob j v a q1 q2:=by
  obtain⟨z,k1,k2⟩:=(r.ob i w p e hi).mu
  by_cases hj:j=i
  ·subst hj;rw[hi]at q2;cases q2;have hlt:j<h.length:=(List.getElem?_eq_some_iff.mp e).1;rw[getElem?_set_self hlt]at q1;cases q1;exact q
  ·rw[getElem?_set_ne (λz=>hj z.symm)]at q1;refine OR.up (Gr.put (mem_of_getElem? hi) k1 k2) (ao λz=>?_) (r.ob j v a q1 q2);subst z;exact hj (JX r.nd q2 hi)
theorem fz(r:HR B ρ h H)(q:VR B.K ρ H v x)(e:aE h v=some xs):∃a ys,x=.ref a/\gI B.K H a ys/\aC B.K ρ H xs ys:=by
 cases v with
 |rl vs=>simp only[aE]at e;cases e;rw[VR]at q;obtain⟨a,ys,rfl,k1,k2⟩:=q;exact⟨a,ys,rfl,k1.sq,k2⟩
 |ref i=>
  simp only[aE]at e;split at e
  ·rename_i zs e1;cases e;rw[VR]at q;obtain⟨a,rfl,k1⟩:=q;obtain⟨ys,k2,k3⟩:=r.ob i _ a e1 k1;exact⟨a,ys,rfl,.inl (.inl k2),k3⟩
  ·cases e
 |_=>cases e
theorem lz{i:Nat}(r:HR B ρ h H)(q:VR B.K ρ H (.ref i) x)(e:h[i]?=some (.lst xs)):∃a ys,x=.ref a /\ ρ[i]?=some a/\H a=some (.lst ys)/\aC B.K ρ H xs ys:=by
 rw[VR]at q;obtain⟨a,rfl,k1⟩:=q;obtain⟨ys,k2,k3⟩:=r.ob i _ a e k1;exact⟨a,ys,rfl,k1,k2,k3⟩
theorem zf(r:HR B ρ h H)(q:VR B.K ρ H v x)(e:dJ h v=some xs):∃a ys,x=.ref a/\(gI B.K H a ys\/jK B.K H a ys)/\aC B.K ρ H xs ys:=by
 cases v with
 |tup vs=>simp only[dJ]at e;cases e;rw[VR]at q;obtain⟨a,ys,rfl,k1,k2⟩:=q;exact⟨a,ys,rfl,.inr k1,k2⟩
 |rl vs=>obtain⟨a,ys,e1,k1,k2⟩:=fz r q (show aE h (.rl vs)=some xs from e);exact⟨a,ys,e1,.inl k1,k2⟩
 |ref vs=>obtain⟨a,ys,e1,k1,k2⟩:=fz r q (show aE h (.ref vs)=some xs from e);exact⟨a,ys,e1,.inl k1,k2⟩
 |_=>cases e
theorem n6(r:HR B ρ h H):∀(n:Nat) (v:Val) (x:V) (d:PyData),VR B.K ρ H v x->toD n h v=some d->Den B.K H d x/\d.canLay0=true/\d.depth<=n:=by
 intro n
 induction n with
 |zero=>intro v x d _ e;simp only[toD]at e;cases e
 |succ n ih=>
  have all:∀(vs:List Val) (xs:List V) (ds:List PyData),aC B.K ρ H vs xs->cj (toD n h) vs=some ds->fc B.K H ds xs/\PyData.canLayAll0 ds=true/\PyData.depthAll ds<=n:=by
   intro vs
   induction vs with
   |nil=>intro xs ds q e;simp only[cj]at e;cases e;rw[aC]at q;subst q;exact⟨fc.nil,rfl,by simp[PyData.depthAll]⟩
   |cons v vs ihv=>intro xs ds q e;simp only[cj]at e;obtain⟨d,e1,e⟩:=bind_eq_some_iff.mp e;obtain⟨ds',e2,e⟩:=bind_eq_some_iff.mp e;cases e;rw[aC]at q;obtain⟨x,r,rfl,q1,q2⟩:=q;obtain⟨a1,a2,a3⟩:=ih v x d q1 e1;obtain⟨b1,b2,b3⟩:=ihv r ds' q2 e2;refine⟨fc.cons a1 b1,by simp[PyData.canLayAll0,a2,b2],?_⟩;simp only[PyData.depthAll];omega
  intro v x d q e;cases v with
  |non=>simp only[toD]at e;cases e;rw[VR]at q;subst q;exact⟨Den.none,rfl,by simp[PyData.depth]⟩
  |bl b=>simp only[toD]at e;cases e;rw[VR]at q;subst q;exact⟨Den.bool,rfl,by simp[PyData.depth]⟩
  |int b=>simp only[toD]at e;cases e;rw[VR]at q;subst q;exact⟨Den.int,rfl,by simp[PyData.depth]⟩
  |str b=>
   simp only[toD]at e;split at e
   ·rename_i hs;cases e;rw[VR]at q;subst q;exact⟨Den.str,by simp[PyData.canLay0,hs],by simp[PyData.depth]⟩
   ·cases e
  |tup vs=>simp only[toD]at e;obtain⟨ds,e1,e⟩:=bind_eq_some_iff.mp e;cases e;rw[VR]at q;obtain⟨a,xs,rfl,q1,q2⟩:=q;obtain⟨b1,b2,b3⟩:=all vs xs ds q2 e1;exact⟨Den.tuple q1 b1,by simp[PyData.canLay0,b2],by simp only[PyData.depth];omega⟩
  |rl vs=>simp only[toD]at e;obtain⟨ds,e1,e⟩:=bind_eq_some_iff.mp e;cases e;rw[VR]at q;obtain⟨a,xs,rfl,q1,q2⟩:=q;obtain⟨b1,b2,b3⟩:=all vs xs ds q2 e1;exact⟨Den.list q1.sq b1,by simp[PyData.canLay0,b2],by simp only[PyData.depth];omega⟩
  |dc _ _=>rw[VR]at q;exact q.elim
  |ob _ _ _=>rw[VR]at q;exact q.elim
  |ref i=>simp only[toD]at e;obtain⟨vs,e0,e⟩:=bind_eq_some_iff.mp e;obtain⟨ds,e1,e⟩:=bind_eq_some_iff.mp e;cases e;obtain⟨a,xs,rfl,q1,q2⟩:=fz r q e0;obtain⟨b1,b2,b3⟩:=all vs xs ds q2 e1;exact⟨Den.list q1 b1,by simp[PyData.canLay0,b2],by simp only[PyData.depth];omega⟩
end
end Hv
end
section
namespace Hv
open PySem L2 PyProof.Rows
theorem n8(x:List Int):∀l,(u6 x l).Perm (x::l)
 |[]=>.refl _
 | y::r=>by
  unfold u6;split
  ·exact((n8 x r).cons y).trans (.swap _ _ _)
  ·exact .refl _
theorem qS:∀l,(mR l).Perm l
 |[]=>.refl _
 |x::r=>(n8 x _).trans ((qS r).cons x)
theorem wR{a b c:List Int}(h1:HT.lexLt b a=false)(h2:HT.lexLt c b=false):HT.lexLt c a=false:=by
 cases e:HT.lexLt c a with
 |false=>rfl
 |true=>
  rcases pP.t6 c b a e with z|z
  ·rw[h2]at z;cases z
  ·rw[h1]at z;cases z
theorem wU{a b:List Int}(h:HT.lexLt a b=true):HT.lexLt b a=false:=by
 cases e:HT.lexLt b a with
 |false=>rfl
 |true=>have:=pP.iQ _ _ _ h e;rw[pP.jN]at this;cases this
theorem Ad(x:List Int):∀l:List (List Int),l.Pairwise (λa b=>HT.lexLt b a=false)->(u6 x l).Pairwise (λa b=>HT.lexLt b a=false)
 |[],_=>by simp[u6]
 | y::r,h=>by
  obtain⟨h1,h2⟩:=pairwise_cons.mp h;unfold u6
  split
  ·rename_i hlt
   refine pairwise_cons.mpr ⟨λz hz=>?_,Ad x r h2⟩
   rcases mem_cons.mp ((n8 x r).mem_iff.mp hz) with rfl|hz
   ·exact wU hlt
   ·exact h1 z hz
  ·rename_i hlt
   refine pairwise_cons.mpr ⟨λz hz=>?_,h⟩;have hxy:HT.lexLt y x=false:=by simpa using hlt
   rcases mem_cons.mp hz with rfl|hz
   ·exact hxy
   ·exact wR hxy (h1 z hz)
theorem wV:∀l,(mR l).Pairwise (λa b=>HT.lexLt b a=false)
 |[]=>.nil
 |x::r=>Ad x _ (wV r)
theorem DN(hp:l.Perm p7)(hs:l.Pairwise (λa b=>HT.lexLt b a=false)):l=mR p7 :=
 List.Perm.eq_of_pairwise (λa b _ _ h1 h2=>pP.iP a b h2 h1) hs (wV p7) (hp.trans (qS p7).symm)
theorem BS{ns:List Int}{m:Int}(h:m∈ns)(h2:∀a∈ns,m<=a):u7 ns=some (.int m):=by
 cases ns with
 |nil=>cases h
 |cons a r=>
  have key:∀(r:List Int) (a:Int),(r.foldl min a)∈a::r/\∀b∈a::r,r.foldl min a<=b:=by
   intro r
   induction r with
   |nil=>intro a;simp
   |cons c r ih=>
    intro a;obtain⟨q1,q2⟩:=ih (min a c);refine⟨?_,λb hb=>?_⟩
    ·show List.foldl min (min a c) r∈_
     rcases mem_cons.mp q1 with z|z
     ·rw[z]
      rcases Int.le_total a c with hc|hc
      ·rw[Int.min_eq_left hc];exact mem_cons_self
      ·rw[Int.min_eq_right hc];exact mem_cons_of_mem _ mem_cons_self
     ·exact mem_cons_of_mem _ (mem_cons_of_mem _ z)
    ·show List.foldl min (min a c) r<=b
     have q3:=q2 (min a c) mem_cons_self
     rcases mem_cons.mp hb with z|z
     ·subst z;omega
     ·rcases mem_cons.mp z with z|z
      ·subst z;omega
      ·exact q2 b (mem_cons_of_mem _ z)
  obtain⟨q1,q2⟩:=key r a;show some (Val.int (r.foldl min a))=_;rw[Int.le_antisymm (q2 m h) (h2 _ q1)]
theorem BU{ns:List Int}{m:Int}(h:m∈ns)(h2:∀a∈ns,a<=m):u9 ns=some (.int m):=by
 cases ns with
 |nil=>cases h
 |cons a r=>
  have key:∀(r:List Int) (a:Int),(r.foldl max a)∈a::r/\∀b∈a::r,b<=r.foldl max a:=by
   intro r
   induction r with
   |nil=>intro a;simp
   |cons c r ih=>
    intro a;obtain⟨q1,q2⟩:=ih (max a c);refine⟨?_,λb hb=>?_⟩
    ·show List.foldl max (max a c) r∈_
     rcases mem_cons.mp q1 with z|z
     ·rw[z]
      rcases Int.le_total a c with hc|hc
      ·rw[Int.max_eq_right hc];exact mem_cons_of_mem _ mem_cons_self
      ·rw[Int.max_eq_left hc];exact mem_cons_self
     ·exact mem_cons_of_mem _ (mem_cons_of_mem _ z)
    ·show b<=List.foldl max (max a c) r
     have q3:=q2 (max a c) mem_cons_self
     rcases mem_cons.mp hb with z|z
     ·subst z;omega
     ·rcases mem_cons.mp z with z|z
      ·subst z;omega
      ·exact q2 b (mem_cons_of_mem _ z)
  obtain⟨q1,q2⟩:=key r a;show some (Val.int (r.foldl max a))=_;rw[Int.le_antisymm (h2 _ q1) (q2 m h)]
noncomputable def Post(B:Bd)(EX:Nat->List V->Hp->Prop)(ρ:List Addr)(H:Hp){α:Type}(W:α -> Hs->List Addr->Hp->Prop):Out α -> Prop
 |.ok a h'=>∀ρ' H',Gr ρ H ρ' H'->HR B ρ' h' H'->W a h' ρ' H'
 |.exc c vs h'=>∀ρ' H' xs,Gr ρ H ρ' H'->HR B ρ' h' H'->aC B.K ρ' H' vs xs->EX c xs H'
 |.no=>False
noncomputable def WV(K:PySem.W.Frag)(Q:VK):Val->Hs->List Addr->Hp->Prop:=λv _ ρ' H'=>∀x,VR K ρ' H' v x->Q x H'
section
variable {B:Bd} {EX:Nat->List V->Hp->Prop} {ρ ρ':List Addr} {H H':Hp} {α β:Type} {W:β -> Hs->List Addr->Hp->Prop} {h h':Hs} {Q:VK}
theorem Post.up(g:Gr ρ H ρ' H')(p:Post B EX ρ H W o):Post B EX ρ' H' W o:=by
 cases o with
 |ok a h'=>exact λρ2 H2 g2 r=>p ρ2 H2 (g.trans g2) r
 |exc c vs h'=>exact λρ2 H2 xs g2 r=>p ρ2 H2 xs (g.trans g2) r
 |no=>exact p
theorem aK{c:Bool}(p:Post B EX ρ H W (aH c m h)):c=true/\Post B EX ρ H W (m h):=by
 unfold aH at p;split at p
 ·rename_i e;exact⟨e,p⟩
 ·exact p.elim
theorem aD(p:Post B EX ρ H W (bnd (ask f) g h)):∃a,f h=some a/\Post B EX ρ H W (g a h):=by
 unfold bnd ask bH at p;cases e:f h with
 |none=>rw[e]at p;exact p.elim
 |some a=>rw[e]at p;exact⟨a,rfl,p⟩
theorem dw(r:HR B ρ h H)(p:Post B EX ρ H W (ask f h)):∃a,f h=some a/\W a h ρ H:=by
 unfold ask bH at p;cases e:f h with
 |none=>rw[e]at p;exact p.elim
 |some a=>rw[e]at p;exact⟨a,rfl,p ρ H Gr.refl r⟩
theorem bM(p:Post B EX ρ H W (bnd (bH o) g h)):∃a,o=some a/\Post B EX ρ H W (g a h):=by
 unfold bnd bH at p;cases e:o with
 |none=>rw[e]at p;exact p.elim
 |some a=>rw[e]at p;exact⟨a,rfl,p⟩
theorem cL(r:HR B ρ h H)(p:Post B EX ρ H W (bH o h)):∃a,o=some a/\W a h ρ H:=by
 unfold bH at p;cases e:o with
 |none=>rw[e]at p;exact p.elim
 |some a=>rw[e]at p;exact⟨a,rfl,p ρ H Gr.refl r⟩
theorem ai(r:HR B ρ h H)(p:Post B EX ρ H W (ret a h)):W a h ρ H:=p ρ H Gr.refl r
theorem wW(r:HR B ρ h H)(hp:H p=none)(q:OR B (ρ ++ [p]) (upd H p O) p o)(w:Post B EX ρ H (WV B.K Q) (new o h)):Q (.ref p) (upd H p O) :=
 w (ρ ++ [p]) (upd H p O) (Gr.new hp) (r.new hp q) _ (Ac r)
theorem cM(r:HR B ρ h H)(hp:H p=none)(q:aC B.K ρ H xs ys)(w:Post B EX ρ H (WV B.K Q) (new (.lst xs) h)):Q (.ref p) (upd H p (.lst ys)) :=
 wW (o:=.lst xs) (O:=.lst ys) r hp ⟨ys,aO,aC.up (Gr.new hp) _ _ q⟩ w
theorem qT(r:HR B ρ h H)(hp:H p=none)(q:aC B.K ρ H xs ys)(w:Post B EX ρ H (WV B.K Q) (ret (Val.tup xs) h)):Q (.ref p) (upd H p (.tup ys)) :=
 w ρ (upd H p (.tup ys)) (Gr.side hp) (r.side hp) _ (VR.tup (jK.of aO) (aC.up (Gr.side hp) _ _ q))
theorem av(p:Post B EX ρ H W (bnd m f h))(k:∀v h1 ρ1 x H1,Gr ρ H ρ1 H1->HR B ρ1 h1 H1->VR B.K ρ1 H1 v x->Post B EX ρ1 H1 W (f v h1)->Q x H1):Post B EX ρ H (WV B.K Q) (m h):=by
 unfold bnd at p;cases e:m h with
 |ok v h1=>rw[e]at p;exact λρ1 H1 g r x q=>k v h1 ρ1 x H1 g r q (Post.up g p)
 |exc c vs h1=>rw[e]at p;exact p
 |no=>rw[e]at p;exact p
theorem bD(p:Post B EX ρ H W (bnd m f h))(k:∀v h1 ρ1 H1,Gr ρ H ρ1 H1->HR B ρ1 h1 H1->Post B EX ρ1 H1 W (f v h1)->W' v h1 ρ1 H1):Post B EX ρ H W' (m h):=by
 unfold bnd at p;cases e:m h with
 |ok v h1=>rw[e]at p;exact λρ1 H1 g r=>k v h1 ρ1 H1 g r (Post.up g p)
 |exc c vs h1=>rw[e]at p;exact p
 |no=>rw[e]at p;exact p
end
theorem fZ:∀{ds:List Val} {ns:List Int},bf ds=some ns->ds=ns.map .int
 |[],ns,e=>by simp only[bf,cj]at e;cases e;rfl
 | v::r,ns,e=>by
  simp only[bf,cj]at e;obtain⟨i,e1,e⟩:=bind_eq_some_iff.mp e;obtain⟨is,e2,e⟩:=bind_eq_some_iff.mp e;cases e;cases v<;>first|cases e1|skip
  rw[fZ (show bf r=some is from e2)];rfl
theorem qU:∀{ds:List Val} {ns:List Bool},fY ds=some ns->ds=ns.map .bl
 |[],ns,e=>by simp only[fY,cj]at e;cases e;rfl
 | v::r,ns,e=>by
  simp only[fY,cj]at e;obtain⟨i,e1,e⟩:=bind_eq_some_iff.mp e;obtain⟨is,e2,e⟩:=bind_eq_some_iff.mp e;cases e;cases v<;>first|cases e1|skip
  rw[qU (show fY r=some is from e2)];rfl
theorem uo:∀{ds:List Val} {p7:List (List Int)},lV ds=some p7->ds=p7.map mT/\∀ks∈p7,ks≠[]
 |[],ns,e=>by simp only[lV,cj]at e;cases e;exact⟨rfl,λ_ z=>nomatch z⟩
 | v::r,ns,e=>by
  simp only[lV,cj]at e;obtain⟨i,e1,e⟩:=bind_eq_some_iff.mp e;obtain⟨is,e2,e⟩:=bind_eq_some_iff.mp e;cases e;cases v<;>first|cases e1|skip
  rename_i vs;dsimp only at e1;split at e1
  ·cases e1
  ·rename_i hne
   obtain⟨q1,q2⟩:=uo (show lV r=some is from e2);have e3:=fZ e1;subst e3;refine⟨by rw[q1];rfl,λks hk=>?_⟩
   rcases mem_cons.mp hk with z|z
   ·subst z;intro z;subst z;exact hne rfl
   ·exact q2 ks z
section
variable {X:Cx} {cl:Nat->Addr} {EX:Nat->List V->Hp->Prop}
noncomputable abbrev bd(X:Cx)(cl:Nat->Addr):Bd:=⟨X.K,cl⟩
theorem HM:kh X (binaryOp .Add) (λx y H Q=>∃a b xs ys,x=.ref a/\y=.ref b/\gI X.K H a xs/\gI X.K H b ys/\xs.length+ys.length<=sizeLine/\∀p,H p=none->Q (.ref p) (upd H p (.lst (xs++ys)))):=by
 intro pins s σ H x y v u Q I rx ry h;obtain⟨l,l',xs,ys,rfl,rfl,q1,q3,hl,q⟩:=h;cases rx;cases ry;obtain⟨its,r1,pl1,z1⟩:=I.list q1;obtain⟨its',r2,pl2,z2⟩:=I.list q3;have l1:=r1.length;have l2:=r2.length;obtain⟨⟨oc,od,odt,osl⟩,n1,e1,e2,_,e4⟩:=pl1;obtain⟨⟨oc',od',aac,UK⟩,n2,f1,f2,_,f4⟩:=pl2;cases e2;cases e4;cases f2;cases f4;refine concat_meets ⟨_,e1,rfl⟩ ⟨_,f1,rfl⟩ noFill_list_add seq_list_add PySem.F.slot_list_add PySem.F.entry_list_add (PySem.F.args_list_add_2 _ _) (list_addW l l' its.toArray its'.toArray n1 n2 od od' osl UK (by simp only[size_toArray];omega)) ⟨e1,f1,?_⟩;have ea:its.toArray++its'.toArray=(its++its').toArray:=by simp
 rw[ea];have hn:H s.heap.objs.size=none:=I.hok.fresh (Nat.le_refl _);exact⟨.ref s.heap.objs.size,_,I.Ul (t':=s.toks) (its:=its++its') (r1.append r2) (by rw[length_append];omega),rfl,q _ hn⟩
noncomputable def zg:HJ->Operator
 |.add=>.Add|.sub=>.Sub|.mul=>.Mult|.fdiv=>.FloorDiv|.mod=>.Mod|.pow=>.Pow
noncomputable def Ae:LP->CmpOp
 |.eq=>.Eq|.ne=>.NotEq|.lt=>.Lt|.le=>.LtE|.gt=>.Gt|.ge=>.GtE|.isn=>.Is|.ntn=>.IsNot|.sO=>.In|.nin=>.NotIn
noncomputable def rB(B:Bd)(EX:Nat->List V->Hp->Prop)(o:HJ):R2:=λx y H Q=>∃ρ h v w,HR B ρ h H/\VR B.K ρ H v x/\VR B.K ρ H w y/\Post B EX ρ H (WV B.K Q) (JU o v w h)
theorem gQ.log{j:Int}(h:gQ j=true):0<j/\j.natAbs.log2<9000:=by
 have h:=of_decide_eq_true h;refine⟨h.1,(Nat.log2_lt (by omega)).mpr ?_⟩;have e:j.natAbs<2 ^ 200:=by
  have:(2:Nat) ^ 200=1606938044258990275541962092341162602522202993782792835301376:=by decide
  omega
 exact lt_of_lt_of_le e (Nat.pow_le_pow_right (by decide) (by decide))
theorem DO:kh X (binaryOp .FloorDiv) (rI (λ_ j=>gQ j=true) λi j=>.int (i/j)):=Lb λi j _ _ _ _ _ hc q=>by
 obtain⟨h1,h2⟩:=gQ.log hc;exact PyProof.Rows.floordiv_int (by omega) (by rw[Int.fdiv_eq_ediv_of_nonneg i (by omega)];exact q) (.inl (PyProof.noPylong_of_log2 h2))
theorem BV:kh X (inplaceOp .FloorDiv) (rI (λ_ j=>gQ j=true) λi j=>.int (i/j)):=Lb λi j _ _ _ _ _ hc q=>by
 obtain⟨h1,h2⟩:=gQ.log hc;exact PyProof.Rows.ifloordiv_int (by omega) (by rw[Int.fdiv_eq_ediv_of_nonneg i (by omega)];exact q) (.inl (PyProof.noPylong_of_log2 h2))
theorem qV(ho:o≠.add)(v w:Val)(h:Hs):(∃i j,v=.int i/\w=.int j)\/JU o v w h=.no:=by
 cases v with
 |int i=>
  cases w with
  |int j=>exact .inl ⟨i,j,rfl,rfl⟩
  |_=>right;cases o<;>first|rfl|exact absurd rfl ho
 |_=>right;cases o<;>first|rfl|exact absurd rfl ho
theorem LS(o:HJ):kh X (binaryOp (zg o)) (rB (bd X cl) EX o):=by
 intro pins s σ H x y v' u' Q I rx ry hh;obtain⟨ρ,h,v,w,r,hv,hw,p⟩:=hh;have lists:Post (bd X cl) EX ρ H (WV X.K Q) (bnd (ask λh=>aE h v) (λa=>bnd (ask λh=>aE h w) λb=>aH (decide (a.length+b.length<=sizeLine)) (new (.lst (a++b)))) h)->wpAny (model X.prog X.w) X.A (binaryOp .Add v' u') (EP X pins σ Q) X.xe s:=by intro p;obtain⟨a,e1,p⟩:=aD p;obtain⟨b,e2,p⟩:=aD p;obtain⟨e3,p⟩:=aK p;have e3:=of_decide_eq_true e3;obtain⟨a1,Qa,rfl,k1,k2⟩:=fz r hv e1;obtain⟨a2,UL,rfl,k3,k4⟩:=fz r hw e2;exact HM pins s σ H _ _ v' u' Q I rx ry ⟨a1,a2,Qa,UL,rfl,rfl,k1,k3,by rw[<-k2.length,<-k4.length];exact e3,λq hq=>cM r hq (aC.append k2 k4) p⟩
 cases o with
 |add=>
  cases v<;>cases w<;>first
   |exact lists p
   |skip
  ·rename_i a b;rw[VR]at hv hw;subst hv;subst hw;exact Lc pins s σ H _ _ _ _ Q I rx ry ⟨a,b,rfl,rfl,ai r p _ VR.int⟩
  ·rename_i a b;rw[VR]at hv hw;subst hv;subst hw;obtain⟨e,p⟩:=aK p;exact yF pins s σ H _ _ _ _ Q I rx ry ⟨a,b,rfl,rfl,of_decide_eq_true e,ai r p _ VR.str⟩
  ·rename_i a b
   rw[VR]at hv hw;obtain⟨a1,Qa,rfl,k1,k2⟩:=hv;obtain⟨a2,UL,rfl,k3,k4⟩:=hw;obtain⟨e,p⟩:=aK p;simp only[and_eq_true,not_eq_true',decide_eq_true_eq]at e;refine GX pins s σ H _ _ _ _ Q I rx ry ⟨a1,a2,Qa,UL,rfl,rfl,k1,k3,?_,by rw[<-k2.length,<-k4.length];exact e.2,λz=>?_,λ_ q hq=>qT r hq (aC.append k2 k4) p⟩
   ·intro z;subst z
    have:=k2.length;cases a with
    |nil=>simp at e
    |cons _ _=>simp at this
   ·subst z
    have hb:b=[]:=by cases b with|nil=>rfl|cons _ _=>have:=k4.length;simp at this
    subst hb;rw[append_nil]at p;exact ai r p _ (VR.tup k1 k2)
 |sub=>
  rcases qV (o:=.sub) (by intro z;cases z) v w h with ⟨i,j,rfl,rfl⟩|z
  case inr=>rw[z]at p;exact p.elim
  rw[VR]at hv hw;subst hv;subst hw;exact Ld pins s σ H _ _ _ _ Q I rx ry ⟨_,_,rfl,rfl,ai r p _ VR.int⟩
 |mul=>
  rcases qV (o:=.mul) (by intro z;cases z) v w h with ⟨i,j,rfl,rfl⟩|z
  case inr=>rw[z]at p;exact p.elim
  rw[VR]at hv hw;subst hv;subst hw;obtain⟨hm,p⟩:=aK p;refine Le pins s σ H _ _ _ _ Q I rx ry ⟨_,_,rfl,rfl,?_,ai r p _ VR.int⟩;unfold kD at hm;simp only[or_eq_true,and_eq_true,decide_eq_true_eq]at hm;exact hm
 |fdiv=>
  rcases qV (o:=.fdiv) (by intro z;cases z) v w h with ⟨i,j,rfl,rfl⟩|z
  case inr=>rw[z]at p;exact p.elim
  rw[VR]at hv hw;subst hv;subst hw;obtain⟨hm,p⟩:=aK p;exact DO pins s σ H _ _ _ _ Q I rx ry ⟨_,_,rfl,rfl,hm,ai r p _ VR.int⟩
 |mod=>
  rcases qV (o:=.mod) (by intro z;cases z) v w h with ⟨i,j,rfl,rfl⟩|z
  case inr=>rw[z]at p;exact p.elim
  rw[VR]at hv hw;subst hv;subst hw;obtain⟨hm,p⟩:=aK p;exact Lf pins s σ H _ _ _ _ Q I rx ry ⟨_,_,rfl,rfl,of_decide_eq_true hm,ai r p _ VR.int⟩
 |pow=>
  rcases qV (o:=.pow) (by intro z;cases z) v w h with ⟨i,j,rfl,rfl⟩|z
  case inr=>rw[z]at p;exact p.elim
  rw[VR]at hv hw;subst hv;subst hw;obtain⟨hm,p⟩:=aK p;have hm:=of_decide_eq_true hm;exact Lg pins s σ H _ _ _ _ Q I rx ry ⟨_,_,rfl,rfl,hm,ai r p _ VR.int⟩
end
end Hv
end
section
namespace Hv
open PySem L2 PyProof.Rows
section
variable {X:Cx} {cl:Nat->Addr} {EX:Nat->List V->Hp->Prop}
theorem wX{b:Bool}(e:Cv h v w=some b):∃d f,toD 16 h v=some d/\toD 16 h w=some f/\b=PyData.eqv d f:=by
 unfold Cv at e;obtain⟨d,e1,e⟩:=bind_eq_some_iff.mp e;obtain⟨f,e2,e⟩:=bind_eq_some_iff.mp e;exact⟨d,f,e1,e2,(Option.some.inj e).symm⟩
theorem Af{K:PySem.W.Frag}{ρ:List Addr}{H:Hp}{v:Val}{x:V}(q:VR K ρ H v x):decide (x=.non)=qN v:=by
 cases v<;>rw[VR]at q
 ·subst q;rfl
 ·subst q;rfl
 ·subst q;rfl
 ·subst q;rfl
 ·obtain⟨a,xs,rfl,_⟩:=q;rfl
 ·obtain⟨a,xs,rfl,_⟩:=q;rfl
 ·exact q.elim
 ·exact q.elim
 ·obtain⟨a,rfl,_⟩:=q;rfl
theorem LU(hu:X.A.units+64<cLine)(neg:Bool):kh X (compareOp (if neg=true then .NotIn else .In)) (λx y H Q=>∃d f ds,Den X.K H d x/\Den X.K H f y/\d.canLay0=true/\f.canLay0=true/\d.depth<=16/\(f=.list ds\/f=.tuple ds)/\Q (.bl (if neg=true then !(ds.any λy=>PyData.eqv y d) else ds.any λy=>PyData.eqv y d)) H):=by
 intro pins s σ H x y v u Q I rx ry hh;obtain⟨d,f,ds,hd,hf,c1,c2,hz,e,q⟩:=hh;obtain⟨as,ra⟩:=Den.reads I d x v c1 hd rx;obtain⟨bs,rb⟩:=Den.reads I f y u c2 hf ry;have SY:X.A.units+1+min (PyData.depthAll ds) d.depth<cLine:=by have:=Nat.min_le_right (PyData.depthAll ds) d.depth;omega
 rcases e with rfl|rfl
 ·have c3:PyData.canLayAll0 ds=true:=by simpa [PyData.canLay0] using c2
  cases neg with
  |true=>exact SeqAt.notIn_list_reads rb ra c3 c1 SY ⟨.bl _,H,I,rfl,q⟩
  |false=>exact SeqAt.in_list_reads rb ra c3 c1 SY ⟨.bl _,H,I,rfl,q⟩
 ·have c3:PyData.canLayAll0 ds=true:=by simpa [PyData.canLay0] using c2
  cases neg with
  |true=>exact SeqAt.notIn_tuple_reads rb ra c3 c1 SY ⟨.bl _,H,I,rfl,q⟩
  |false=>exact SeqAt.in_tuple_reads rb ra c3 c1 SY ⟨.bl _,H,I,rfl,q⟩
theorem gS.val{K:PySem.W.Frag}{ρ:List Addr}{H:Hp}(k:Key):∀{kvs:List (Key×Val)} {ks:List (Key×V)},gS K ρ H kvs ks->(bZ kvs k=none->iY ks k=none)/\∀v,bZ kvs k=some v->∃x,iY ks k=some x/\VR K ρ H v x
 | [],ks,e=>by
  have:ks=[]:=e;subst this;exact⟨λ_=>rfl,λv z=>by simp[bZ]at z⟩
 | (k',v')::kvs,ks,⟨x,r,e,q1,q2⟩=>by
  subst e;obtain⟨a,b⟩:=gS.val k q2
  by_cases hk:k'=k
  ·subst hk;refine⟨λz=>by simp[bZ]at z,λv z=>⟨x,by simp[iY],?_⟩⟩;simp[bZ]at z;subst z;exact q1
  ·have e1:bZ ((k',v')::kvs) k=bZ kvs k:=by simp[bZ,hk]
   have e2:iY ((k',x)::r) k=iY r k:=by simp[iY,hk]
   rw[e1,e2];exact⟨a,b⟩
theorem gS.length{K:PySem.W.Frag}{ρ:List Addr}{H:Hp}:∀{kvs:List (Key×Val)} {ks:List (Key×V)},gS K ρ H kvs ks->kvs.length=ks.length
 |[],ks,e=>by have:ks=[]:=e;subst this;rfl
 |(k',v')::kvs,ks,⟨x,r,e,q1,q2⟩=>by subst e;simp[gS.length q2]
theorem gS.any{K:PySem.W.Frag}{ρ:List Addr}{H:Hp}(k:Key):∀{kvs:List (Key×Val)} {ks:List (Key×V)},gS K ρ H kvs ks->(kvs.any λkv=>decide (kv.1=k))=(ks.any λkv=>decide (kv.1=k))
 |[],ks,e=>by have:ks=[]:=e;subst this;rfl
 |(k',v')::kvs,ks,⟨x,r,e,q1,q2⟩=>by subst e;simp only[any_cons];rw[gS.any k q2]
theorem gS.repl{K:PySem.W.Frag}{ρ:List Addr}{H:Hp}(k:Key){v:Val}{y:V}(q:VR K ρ H v y):∀{kvs:List (Key×Val)} {ks:List (Key×V)},gS K ρ H kvs ks->gS K ρ H (kvs.map λkv=>if kv.1=k then (kv.1,v) else kv) (ks.map λkv=>if kv.1=k then (kv.1,y) else kv)
 |[],ks,e=>by have:ks=[]:=e;subst this;rfl
 | (k',v')::kvs,ks,⟨x,r,e,q1,q2⟩=>by
  subst e;simp only[map_cons]
  by_cases hk:k'=k
  ·rw[if_pos hk,if_pos hk];exact⟨y,_,rfl,q,gS.repl k q q2⟩
  ·rw[if_neg hk,if_neg hk];exact⟨x,_,rfl,q1,gS.repl k q q2⟩
theorem gS.snoc{K:PySem.W.Frag}{ρ:List Addr}{H:Hp}(k:Key){v:Val}{y:V}(q:VR K ρ H v y):∀{kvs:List (Key×Val)} {ks:List (Key×V)},gS K ρ H kvs ks->gS K ρ H (kvs++[(k,v)]) (ks++[(k,y)])
 |[],ks,e=>by have:ks=[]:=e;subst this;exact⟨y,[],rfl,q,rfl⟩
 |(k',v')::kvs,ks,⟨x,r,e,q1,q2⟩=>by subst e;exact⟨x,_,rfl,q1,gS.snoc k q q2⟩
theorem gS.put{K:PySem.W.Frag}{ρ:List Addr}{H:Hp}(k:Key){v:Val}{y:V}(q:VR K ρ H v y){kvs:List (Key×Val)}{ks:List (Key×V)}(e:gS K ρ H kvs ks):gS K ρ H (iL kvs k v) (putK ks k y):=by
 unfold iL putK;rw[gS.any k e]
 split
 ·exact gS.repl k q e
 ·exact gS.snoc k q e
theorem DP{K:PySem.W.Frag}{ρ:List Addr}{H:Hp}{v:Val}{x:V}{k:Key}(q:VR K ρ H v x)(e:keyOf v=some k):x=kV k:=by
 cases v<;>simp only[keyOf]at e<;>first|cases e|skip
 ·rw[VR]at q;exact q
 ·rw[VR]at q;exact q
theorem Ag(hu:X.A.units+64<cLine):Ow X (λx y H Q=>∃a v,x=.ref a/\lI H a y (some v)/\Q v H):=by
 intro value slice pins s σ H x y v u Q I rx ry h hs;obtain⟨a,z,rfl,g,q⟩:=h;cases rx;have hT:=wo I g;unfold subscriptTail;refine wpAny_bind ?_;rw[getitemInPython_of_ne hT.not_modules];refine wpAny_bind (wpAny_specialOf hT PySem.F.slot_dict_getitem.lookup ?_);have fin:wpAny (model X.prog X.w) X.A (subscripted slice false (.ref a) u) (λr s₃=>wpAny (model X.prog X.w) X.A (letTemporaryGo value (.ref a) r >>= λ_=>pure r) (EP X pins σ Q) X.xe s₃) X.xe s:=by rw[hs];exact wpAny_operating (Bv (by omega) I g ry λw' s' I' r'=>wpAny_bind (wpAny_letTemporaryGo (wpAny_pure ⟨z,H,I',r',q⟩)))
 first
  |exact wpAny_pure (wpAny_bind fin)
  |exact wpAny_bind (wpAny_pure (wpAny_bind fin))
  |exact wpAny_bind fin
noncomputable def rC(B:Bd)(o:LP):R2:=λx y H Q=>∃ρ h v w b,HR B ρ h H/\VR B.K ρ H v x/\VR B.K ρ H w y/\cop h o v w=some b/\Q (.bl b) H
theorem mX{b:Bool}(e:memD h v w=some b):∃d f ds,toD 16 h v=some d/\toD 16 h w=some f/\(f=.list ds\/f=.tuple ds)/\b=ds.any λy=>PyData.eqv y d:=by
 unfold memD at e;obtain⟨f,e1,e⟩:=bind_eq_some_iff.mp e;obtain⟨d,e2,e⟩:=bind_eq_some_iff.mp e;cases f<;>simp only[LQ]at e<;>first|cases e|skip
 ·exact⟨d,_,_,e2,e1,.inl rfl,rfl⟩
 ·exact⟨d,_,_,e2,e1,.inr rfl,rfl⟩
theorem BW{b:Bool}(hw:∀ks vs,w≠.dc ks vs)(e:vc h v w=some b):(∃x y,v=.str x/\w=.str y/\b = !(Builtin.Str.occurrences y x 0 y.length 1).isEmpty)\/(∃i kvs k,w=.ref i/\h[i]?=some (.dct kvs)/\keyOf v=some k/\b=(bZ kvs k).isSome) \/
  ∃d f ds,toD 16 h v=some d/\toD 16 h w=some f/\(f=.list ds\/f=.tuple ds)/\b=ds.any λy=>PyData.eqv y d:=by
 cases w with
 |ref i=>
  have e':(h[i]?).bind (HL h v i)=some b:=by cases v<;>exact e
  obtain⟨ob,e1,e2⟩:=bind_eq_some_iff.mp e';cases ob with
  |dct kvs=>obtain⟨k,e3,e4⟩:=bind_eq_some_iff.mp (show (keyOf v).bind _=some b from e2);exact .inr (.inl ⟨i,kvs,k,rfl,e1,e3,(Option.some.inj e4).symm⟩)
  |lst xs=>exact .inr (.inr (mX e2))
  |ins c fs=>exact .inr (.inr (mX e2))
 |dc ks vs=>exact absurd rfl (hw ks vs)
 |str y=>
  cases v with
  |str x=>exact .inl ⟨x,y,rfl,rfl,(Option.some.inj e).symm⟩
  |_=>exact .inr (.inr (mX e))
 |_=>exact .inr (.inr (mX (by cases v<;>exact e)))
theorem DQ(hu:X.A.units+64<cLine)(o:LP):kh X (compareOp (Ae o)) (rC (bd X cl) o):=by
 intro pins s σ H x y v' u' Q I rx ry hh;obtain⟨ρ,h,v,w,b,r,hv,hw,e,q⟩:=hh;have mem:∀(neg:Bool),vc h v w=some (if neg=true then !b else b)->wpAny (model X.prog X.w) X.A (compareOp (if neg=true then .NotIn else .In) v' u') (EP X pins σ Q) X.xe s:=by
  intro neg e;have nd:∀ks vs,w≠.dc ks vs:=λks vs z=>by subst z;rw[VR]at hw;exact hw.elim
  rcases BW nd e with ⟨a,c,rfl,rfl,eb⟩|⟨i,kvs,k,rfl,e1,e2,eb⟩|⟨d,f,ds,e1,e2,e3,eb⟩
  ·rw[VR]at hv;rw[VR]at hw;subst hv;subst hw
   cases neg with
   |true=>refine uJ pins s σ H _ _ v' u' Q I rx ry ⟨a,c,rfl,rfl,?_⟩;rw[if_pos rfl]at eb;rw[<-eb,Bool.not_not];exact q
   |false=>refine Bk pins s σ H _ _ v' u' Q I rx ry ⟨a,c,rfl,rfl,?_⟩;rw[if_neg Bool.false_ne_true]at eb;rw[<-eb];exact q
  ·rw[VR]at hw
   obtain⟨a,rfl,k1⟩:=hw;obtain⟨ks,k2,k3⟩:=r.ob i _ a e1 k1;have ex:=DP hv e2;subst ex;have es:(iY ks k).isSome=(bZ kvs k).isSome:=by
    obtain⟨z1,z2⟩:=gS.val k k3;cases e4:bZ kvs k with
    |none=>rw[z1 e4];rfl
    |some z=>obtain⟨x,z3,_⟩:=z2 z e4;rw[z3];rfl
   cases ry;cases neg with
   |true=>refine Hj (by omega) I (lI.k (k:=k) k2) rx λs' I'=>⟨.bl _,H,I',rfl,?_⟩;rw[if_pos rfl]at eb;rw[es,<-eb,Bool.not_not];exact q
   |false=>refine Um (by omega) I (lI.k (k:=k) k2) rx λs' I'=>⟨.bl _,H,I',rfl,?_⟩;rw[if_neg Bool.false_ne_true]at eb;rw[es,<-eb];exact q
  ·obtain⟨a1,a2,a3⟩:=n6 r 16 v x d hv e1
   obtain⟨b1,b2,b3⟩:=n6 r 16 w y f hw e2;refine LU hu neg pins s σ H x y v' u' Q I rx ry ⟨d,f,ds,a1,b1,a2,b2,a3,e3,?_⟩;cases neg with
   |true=>rw[if_pos rfl]at eb |-;rw[<-eb,Bool.not_not];exact q
   |false=>rw[if_neg Bool.false_ne_true]at eb |-;rw[<-eb];exact q
 cases o with
 |eq=>obtain⟨d,f,e1,e2,rfl⟩:=wX (show Cv h v w=some b by exact e);obtain⟨a1,a2,a3⟩:=n6 r 16 v x d hv e1;obtain⟨b1,b2,b3⟩:=n6 r 16 w y f hw e2;exact LJ hu pins s σ H x y v' u' Q I rx ry ⟨d,f,a1,b1,a2,b2,by omega,q⟩
 |ne=>have e':(Cv h v w).map (!·)=some b:=e;obtain⟨c,e3,rfl⟩:=map_eq_some_iff.mp e';obtain⟨d,f,e1,e2,rfl⟩:=wX e3;obtain⟨a1,a2,a3⟩:=n6 r 16 v x d hv e1;obtain⟨b1,b2,b3⟩:=n6 r 16 w y f hw e2;exact LK hu pins s σ H x y v' u' Q I rx ry ⟨d,f,a1,b1,a2,b2,by omega,q⟩
 |lt=>obtain⟨i,j,rfl,rfl⟩:=kG (.inl rfl) e;cases e;rw[VR]at hv;rw[VR]at hw;subst hv;subst hw;exact Pg pins s σ H _ _ v' u' Q I rx ry ⟨_,_,rfl,rfl,q⟩
 |le=>obtain⟨i,j,rfl,rfl⟩:=kG (.inr (.inl rfl)) e;cases e;rw[VR]at hv;rw[VR]at hw;subst hv;subst hw;exact Ph pins s σ H _ _ v' u' Q I rx ry ⟨_,_,rfl,rfl,q⟩
 |gt=>obtain⟨i,j,rfl,rfl⟩:=kG (.inr (.inr (.inl rfl))) e;cases e;rw[VR]at hv;rw[VR]at hw;subst hv;subst hw;exact Pj pins s σ H _ _ v' u' Q I rx ry ⟨_,_,rfl,rfl,q⟩
 |ge=>obtain⟨i,j,rfl,rfl⟩:=kG (.inr (.inr (.inr rfl))) e;cases e;rw[VR]at hv;rw[VR]at hw;subst hv;subst hw;exact Pk pins s σ H _ _ v' u' Q I rx ry ⟨_,_,rfl,rfl,q⟩
 |isn=>
  have e:JV v w=some b:=e;cases w<;>first|(cases e;done)|skip
  ·cases e;rw[VR]at hw;subst hw;refine Lh pins s σ H x _ v' u' Q I rx ry ⟨rfl,?_⟩;rw[Af hv];exact q
  ·cases v<;>first|(cases e;done)|skip
   cases e;rw[VR]at hv;rw[VR]at hw;subst hv;subst hw;exact LL pins s σ H _ _ v' u' Q I rx ry ⟨_,_,rfl,rfl,q⟩
 |ntn=>
  have e:(JV v w).map (!·)=some b:=e;cases w<;>first|(cases e;done)|skip
  ·cases e;rw[VR]at hw;subst hw;refine GN pins s σ H x _ v' u' Q I rx ry ⟨rfl,?_⟩;rw[Af hv];exact q
  ·cases v<;>first|(cases e;done)|skip
   cases e;rw[VR]at hv;rw[VR]at hw;subst hv;subst hw;exact HE pins s σ H _ _ v' u' Q I rx ry ⟨_,_,rfl,rfl,q⟩
 |sO=>exact mem false (by rw[if_neg Bool.false_ne_true];exact e)
 |nin=>have e':(vc h v w).map (!·)=some b:=e;obtain⟨c,e3,rfl⟩:=map_eq_some_iff.mp e';exact mem true (by rw[e3];simp)
theorem LV{b:Bool}(r:HR B ρ h H)(q:VR B.K ρ H v x)(e:cB h v=some b):Li B.K x H b:=by
 cases v with
 |non=>rw[VR]at q;subst q;exact(Option.some.inj e).symm
 |bl c=>rw[VR]at q;subst q;exact(Option.some.inj e).symm
 |int i=>rw[VR]at q;subst q;exact(Option.some.inj e).symm
 |str z=>
  rw[VR]at q;subst q;simp only[cB]at e;split at e
  ·rename_i hl;exact⟨hl,(Option.some.inj e).symm⟩
  ·cases e
 |tup vs=>rw[VR]at q;obtain⟨a,xs,rfl,q1,q2⟩:=q;refine .inr (.inl ⟨xs,q1,?_⟩);rw[<-Option.some.inj e];have:=q2.length;cases vs<;>cases xs<;>simp_all
 |rl vs=>rw[VR]at q;obtain⟨a,xs,rfl,q1,q2⟩:=q;refine .inl ⟨xs,q1.sq,?_⟩;rw[<-Option.some.inj e];have:=q2.length;cases vs<;>cases xs<;>simp_all
 |dc _ _=>rw[VR]at q;exact q.elim
 |ob _ _ _=>rw[VR]at q;exact q.elim
 |ref i=>
  rw[VR]at q;obtain⟨a,rfl,q1⟩:=q;simp only[cB]at e;split at e
  ·rename_i vs e1;obtain⟨xs,k1,k2⟩:=r.ob i _ a e1 q1;refine .inl ⟨xs,.inl (.inl k1),?_⟩;rw[<-Option.some.inj e];have:=k2.length;cases vs<;>cases xs<;>simp_all
  ·rename_i vs e1;obtain⟨xs,k1,k2⟩:=r.ob i _ a e1 q1;refine .inr (.inr ⟨xs,k1,?_⟩);rw[<-Option.some.inj e];have:=k2.length;cases vs<;>cases xs<;>simp_all
  ·cases e
noncomputable def UM(B:Bd):R2:=λx y H Q=>∃ρ h v w z,HR B ρ h H/\VR B.K ρ H v x/\VR B.K ρ H w y/\n5 h v w=some z/\∀u,VR B.K ρ H z u->Q u H
theorem LW(hu:X.A.units+64<cLine):Ow X (UM (bd X cl)):=by
 intro value slice pins s σ H x y v' u' Q I rx ry hh hs;obtain⟨ρ,h,v,w,z,r,hv,hw,e,q⟩:=hh;cases v with
 |str t=>
  cases w<;>first|cases e|skip
  rename_i i;change (if t.length<=sizeLine then (kj t.cps.toList i).map (λc=>Val.str ⟨#[c]⟩) else none)=some z at e;split at e
  ·rename_i hl;obtain⟨c,e1,rfl⟩:=map_eq_some_iff.mp e;rw[VR]at hv;rw[VR]at hw;subst hv;subst hw;exact Lv value slice pins s σ H _ _ v' u' Q I rx ry ⟨t,i,c,rfl,rfl,hl,e1,q _ VR.str⟩ hs
  ·cases e
 |tup vs=>
  cases w<;>first|cases e|skip
  rename_i i;rw[VR]at hv;rw[VR]at hw;subst hw;obtain⟨a,xs,rfl,q1,q2⟩:=hv;obtain⟨t,e2,q3⟩:=aC.kj q2 e;exact Lu value slice pins s σ H _ _ v' u' Q I rx ry ⟨a,xs,i,t,rfl,rfl,q1,e2,q _ q3⟩ hs
 |rl vs=>
  cases w<;>first|cases e|skip
  rename_i i;rw[VR]at hv;rw[VR]at hw;subst hw;obtain⟨a,xs,rfl,q1,q2⟩:=hv;obtain⟨t,e2,q3⟩:=aC.kj q2 e;exact zW value slice pins s σ H _ _ v' u' Q I rx ry ⟨a,xs,i,t,rfl,rfl,q1.sq,e2,q _ q3⟩ hs
 |ref j=>
  cases w with
  |int i=>
   change (match h[j]? with|some (.dct kvs)=>bZ kvs (.inl i)|_=>(aE h (.ref j)).bind λxs=>kj xs i)=some z at e;split at e
   ·rename_i kvs e1;rw[VR]at hv;obtain⟨a,rfl,q1⟩:=hv;obtain⟨ks,k1,k2⟩:=r.ob j _ a e1 q1;obtain⟨t,e2,q3⟩:=(gS.val (.inl i) k2).2 z e;have g:lI H a (kV (.inl i)) (iY ks (.inl i)):=lI.k k1;rw[e2]at g;rw[VR]at hw;subst hw;exact Ag hu value slice pins s σ H _ _ v' u' Q I rx ry ⟨a,t,rfl,g,q _ q3⟩ hs
   ·obtain⟨vs,e1,e⟩:=bind_eq_some_iff.mp e;obtain⟨a,xs,rfl,q1,q2⟩:=fz r hv e1;rw[VR]at hw;subst hw;obtain⟨t,e2,q3⟩:=aC.kj q2 e;exact zW value slice pins s σ H _ _ v' u' Q I rx ry ⟨a,xs,i,t,rfl,rfl,q1,e2,q _ q3⟩ hs
  |str y=>
   change (match h[j]? with|some (.dct kvs)=>bZ kvs (.inr y)|_=>none)=some z at e;split at e
   ·rename_i kvs e1;rw[VR]at hv;obtain⟨a,rfl,q1⟩:=hv;obtain⟨ks,k1,k2⟩:=r.ob j _ a e1 q1;obtain⟨t,e2,q3⟩:=(gS.val (.inr y) k2).2 z e;have g:lI H a (kV (.inr y)) (iY ks (.inr y)):=lI.k k1;rw[e2]at g;rw[VR]at hw;subst hw;exact Ag hu value slice pins s σ H _ _ v' u' Q I rx ry ⟨a,t,rfl,g,q _ q3⟩ hs
   ·cases e
  |_=>cases e
 |dc _ _=>rw[VR]at hv;exact hv.elim
 |_=>cases w<;>cases e
noncomputable def rSl(B:Bd)(EX:Nat->List V->Hp->Prop):V->Option Int->Option Int->Hp->VK->Prop:=λx lo hi H Q=>∃ρ h v,HR B ρ h H/\VR B.K ρ H v x/\Post B EX ρ H (WV B.K Q) (tu v lo hi h)
theorem LX:SQ X (rSl (bd X cl) EX):=by
 intro pins s σ H x v' vl vu lo hi sl Q I rx hs pl pu hh;obtain⟨ρ,h,v,r,hv,p⟩:=hh;have lists:Post (bd X cl) EX ρ H (WV X.K Q) (bnd (ask λh=>aE h v) (λxs=>new (.lst (ck xs lo hi))) h)->∃T id,typeLookup (.type T) "__getitem__" = pure (some (.builtin id))/\s.TypeIs v' T/\wpAny (model X.prog X.w) X.A (getItem v' (.ref sl)) (EP X pins σ Q) X.xe s:=by intro p;obtain⟨a,e1,p⟩:=aD p;obtain⟨a1,Qa,rfl,k1,k2⟩:=fz r hv e1;exact GY pins s σ H _ v' vl vu lo hi sl Q I rx hs pl pu ⟨a1,Qa,rfl,k1,λq hq=>cM r hq (aC.cut lo hi k2) p⟩
 cases v with
 |tup vs=>simp only[tu]at p;rw[VR]at hv;obtain⟨a,xs,rfl,q1,q2⟩:=hv;obtain⟨e,p⟩:=aK p;refine Lr pins s σ H _ v' vl vu lo hi sl Q I rx hs pl pu ⟨a,xs,rfl,q1,?_,λq hq=>qT r hq (aC.cut lo hi q2) p⟩;rw[<-q2.length];simp only[not_eq_true',Bool.and_eq_false_iff,decide_eq_false_iff_not]at e;rintro⟨z1,z2⟩;exact e.elim (λk=>k z1) λk=>k z2
 |_=>exact lists p
end
end Hv
end
section
set_option backward.match.sparseCases false
namespace Hv
open PySem L2 PyProof.Rows
section
variable {X:Cx} {cl:Nat->Addr} {EX:Nat->List V->Hp->Prop}
noncomputable def Gk(B:Bd)(EX:Nat->List V->Hp->Prop)(b:Bl):List V->Hp->VK->Prop:=λxs H Q=>∃ρ h vs,HR B ρ h H/\aC B.K ρ H vs xs/\Post B EX ρ H (WV B.K Q) (blt b vs h)
theorem LY:cR X (.builtin "len") (Gk (bd X cl) EX .len):=by
 intro pins s σ H xs us Q I rr hh;obtain⟨ρ,h,vs,r,hv,p⟩:=hh
 match vs,p with
 |[v],p=>
  obtain⟨n,e,p⟩:=aD p;obtain⟨x,rfl,hx⟩:=aC.one hv;have fin:=ai r p _ VR.int;cases v with
  |str z=>
   simp only[mV]at e;split at e
   ·rename_i hl;cases e;rw[VR]at hx;subst hx;exact L2.mJ pins s σ H _ us Q I rr ⟨_,z.length,rfl,⟨hl,rfl⟩,fin⟩
   ·cases e
  |tup vs=>simp only[mV]at e;cases e;rw[VR]at hx;obtain⟨a,ys,rfl,q1,q2⟩:=hx;refine L2.mJ pins s σ H _ us Q I rr ⟨_,ys.length,rfl,.inr ⟨ys,q1,rfl⟩,?_⟩;rw[<-q2.length];exact fin
  |rl vs=>simp only[mV]at e;cases e;rw[VR]at hx;obtain⟨a,ys,rfl,q1,q2⟩:=hx;refine L2.mJ pins s σ H _ us Q I rr ⟨_,ys.length,rfl,.inl ⟨ys,q1.sq,rfl⟩,?_⟩;rw[<-q2.length];exact fin
  |dc _ _=>rw[VR]at hx;exact hx.elim
  |ob _ _ _=>rw[VR]at hx;exact hx.elim
  |ref i=>
   rw[VR]at hx;obtain⟨a,rfl,q1⟩:=hx;simp only[mV]at e;split at e
   ·rename_i vs e1;cases e;obtain⟨ys,k1,k2⟩:=r.ob i _ a e1 q1;refine L2.mJ pins s σ H _ us Q I rr ⟨_,ys.length,rfl,.inl ⟨ys,.inl (.inl k1),rfl⟩,?_⟩;rw[<-k2.length];exact fin
   ·rename_i vs e1;cases e;obtain⟨ks,k1,k2⟩:=r.ob i _ a e1 q1;refine BA pins s σ H _ us Q I rr ⟨a,ks,rfl,k1,?_⟩;rw[<-k2.length];exact fin
   ·cases e
  |_=>simp only[mV]at e;cases e
theorem LZ(hc:X.calm=true):cR X (.builtin "min") (Gk (bd X cl) EX .min):=by
 intro pins s σ H xs us Q I rr hh;obtain⟨ρ,h,vs,r,hv,p⟩:=hh;have seq:∀v,vs=[v]->Post (bd X cl) EX ρ H (WV X.K Q) (bnd (ask λh=>dJ h v) (λxs=>bH ((bf xs).bind u7)) h)->wpAny (model X.prog X.w) X.A (call (.builtin "min") us) (EP X pins σ Q) X.xe s:=by
  rintro v rfl p;obtain⟨zs,e,p⟩:=aD p;obtain⟨x,rfl,hx⟩:=aC.one hv;obtain⟨a,ys,rfl,q1,q2⟩:=zf r hx e;obtain⟨m,e1,p⟩:=cL r p;obtain⟨ns,e2,e3⟩:=bind_eq_some_iff.mp e1;rw[fZ e2]at q2;rw[aC.ints.mp q2]at q1;have hne:0<ns.length:=by cases ns with|nil=>cases e3|cons _ _=>simp
  refine uY hc pins s σ H _ us Q I rr ⟨a,ns,rfl,q1,hne,λm hm hmin=>?_⟩;rw[BS hm hmin]at e3;cases e3;exact p _ VR.int
 match vs,p with
 |[.int a,.int b],p=>obtain⟨x,y,rfl,hx,hy⟩:=aC.two hv;rw[VR]at hx;rw[VR]at hy;subst hx;subst hy;exact Bo hc pins s σ H _ us Q I rr ⟨a,b,rfl,ai r p _ VR.int⟩
 |[v],p=>exact seq v rfl (by cases v<;>exact p)
theorem Ma(hc:X.calm=true):cR X (.builtin "max") (Gk (bd X cl) EX .max):=by
 intro pins s σ H xs us Q I rr hh;obtain⟨ρ,h,vs,r,hv,p⟩:=hh;have seq:∀v,vs=[v]->Post (bd X cl) EX ρ H (WV X.K Q) (bnd (ask λh=>dJ h v) (λxs=>bH ((bf xs).bind u9)) h)->wpAny (model X.prog X.w) X.A (call (.builtin "max") us) (EP X pins σ Q) X.xe s:=by
  rintro v rfl p;obtain⟨zs,e,p⟩:=aD p;obtain⟨x,rfl,hx⟩:=aC.one hv;obtain⟨a,ys,rfl,q1,q2⟩:=zf r hx e;obtain⟨m,e1,p⟩:=cL r p;obtain⟨ns,e2,e3⟩:=bind_eq_some_iff.mp e1;rw[fZ e2]at q2;rw[aC.ints.mp q2]at q1;have hne:0<ns.length:=by cases ns with|nil=>cases e3|cons _ _=>simp
  refine uZ hc pins s σ H _ us Q I rr ⟨a,ns,rfl,q1,hne,λm hm hmin=>?_⟩;rw[BU hm hmin]at e3;cases e3;exact p _ VR.int
 match vs,p with
 |[.int a,.int b],p=>obtain⟨x,y,rfl,hx,hy⟩:=aC.two hv;rw[VR]at hx;rw[VR]at hy;subst hx;subst hy;exact Bm hc pins s σ H _ us Q I rr ⟨a,b,rfl,ai r p _ VR.int⟩
 |[v],p=>exact seq v rfl (by cases v<;>exact p)
theorem BX:cR X (.builtin "sorted") (Gk (bd X cl) EX .sorted):=by
 intro pins s σ H xs us Q I rr hh;obtain⟨ρ,h,vs,r,hv,p⟩:=hh
 match vs,p with
 |[v],p=>
  obtain⟨zs,e,p⟩:=aD p;obtain⟨out,e1,p⟩:=bM p;obtain⟨x,rfl,hx⟩:=aC.one hv;obtain⟨a,ys,rfl,q1,q2⟩:=fz r hx e;unfold fQ at e1;split at e1
  ·rename_i h64
   cases e2:bf zs with
   |some ns=>rw[e2]at e1;cases e1;rw[fZ e2]at q2 h64;rw[aC.ints.mp q2]at q1;rw[length_map]at h64;exact nV pins s σ H _ us Q I rr ⟨a,ns,rfl,q1,h64,λl hl=>cM r hl (aC.ints.mpr rfl) p⟩
   |none=>rw[e2]at e1;obtain⟨p7,e3,e4⟩:=bind_eq_some_iff.mp e1;cases e4;obtain⟨g1,g2⟩:=uo e3;rw[g1]at q2 h64;obtain⟨rs,r1,r2,r3⟩:=aC.tups q2;rw[r1]at q1;rw[length_map,r2,length_map]at h64;refine nW pins s σ H _ us Q I rr ⟨a,rs,rfl,q1,h64,λp hp=>⟨r3 p hp,g2 _ (by rw[r2];exact mem_map_of_mem hp)⟩,λl qs hl hp hs=>?_⟩;have e4:qs.map (·.2)=mR p7:=DN (by rw[r2];exact hp.map _) (pairwise_map.mpr hs);rw[<-e4]at p;exact cM r hl (aC.Ab λz hz=>r3 z (hp.mem_iff.mp hz)) p
  ·cases e1
theorem HN:cR X (.type "list") (Gk (bd X cl) EX .list):=by
 intro pins s σ H xs us Q I rr hh;obtain⟨ρ,h,vs,r,hv,p⟩:=hh
 match vs,p with
 |[v],p=>obtain⟨zs,e,p⟩:=aD p;obtain⟨x,rfl,hx⟩:=aC.one hv;obtain⟨a,ys,rfl,q1,q2⟩:=zf r hx e;exact uT pins s σ H _ us Q I rr ⟨a,ys,rfl,q1,λl hl=>cM r hl q2 p⟩
theorem DR:cR X (.type "tuple") (Gk (bd X cl) EX .tuple):=by
 intro pins s σ H xs us Q I rr hh;obtain⟨ρ,h,vs,r,hv,p⟩:=hh;exact(show False from p).elim
theorem Mb:cR X (.type "str") (Gk (bd X cl) EX .str):=by
 intro pins s σ H xs us Q I rr hh;obtain⟨ρ,h,vs,r,hv,p⟩:=hh;exact(show False from p).elim
theorem Mc:cR X (.type "int") (Gk (bd X cl) EX .int):=by
 intro pins s σ H xs us Q I rr hh;obtain⟨ρ,h,vs,r,hv,p⟩:=hh
 match vs,p with
 |[.int i],p=>obtain⟨x,rfl,hx⟩:=aC.one hv;rw[VR]at hx;subst hx;exact tM pins s σ H _ us Q I rr (.inl ⟨i,rfl,ai r p _ VR.int⟩)
 |[.bl i],p=>obtain⟨x,rfl,hx⟩:=aC.one hv;rw[VR]at hx;subst hx;exact tM pins s σ H _ us Q I rr (.inr ⟨i,rfl,ai r p _ VR.int⟩)
theorem Mf(hc:X.calm=true):cR X (.builtin "all") (Gk (bd X cl) EX .all):=by
 intro pins s σ H xs us Q I rr hh;obtain⟨ρ,h,vs,r,hv,p⟩:=hh
 match vs,p with
 |[v],p=>obtain⟨zs,e,p⟩:=aD p;obtain⟨bs,e1,p⟩:=bM p;obtain⟨x,rfl,hx⟩:=aC.one hv;obtain⟨a,ys,rfl,q1,q2⟩:=fz r hx e;rw[qU e1]at q2;rw[aC.bools.mp q2]at q1;exact sY hc pins s σ H _ us Q I rr ⟨a,bs,rfl,q1,ai r p _ VR.bl⟩
theorem Mg(hc:X.calm=true):cR X (.builtin "any") (Gk (bd X cl) EX .any):=by
 intro pins s σ H xs us Q I rr hh;obtain⟨ρ,h,vs,r,hv,p⟩:=hh;exact(show False from p).elim
noncomputable def rIs(B:Bd)(EX:Nat->List V->Hp->Prop)(T:String):List V->Hp->VK->Prop:=λxs H Q=>∃ρ h v x,xs=[x,.ty T]/\HR B ρ h H/\VR B.K ρ H v x/\Post B EX ρ H (WV B.K Q) (blt (.isin T) [v] h)
theorem HP(K:PySem.W.Frag)(t T:String)(ht:t∈["NoneType","bool","int","str","list","tuple","dict"])(hT:T∈["list","tuple","str","bool","int","dict"]) :
  kitOne K (.type t) (.type T)=some (decide (T=t\/(T = "int" /\ t = "bool"))):=by
 simp only[mem_cons,not_mem_nil,or_false]at ht hT
 rcases ht with rfl|rfl|rfl|rfl|rfl|rfl|rfl<;>rcases hT with rfl|rfl|rfl|rfl|rfl|rfl<;>rfl
theorem HQ{T:String}:cR X (.builtin "isinstance") (rIs (bd X cl) EX T):=by
 intro pins s σ H xs us Q I rr hh;obtain⟨ρ,h,v,x,rfl,r,hx,p⟩:=hh;obtain⟨u,w',rfl,r1,r2⟩:=vals2 rr;cases r2;obtain⟨t,e,p⟩:=aD p;obtain⟨b,e1,p⟩:=bM p;have q:=ai r p _ VR.bl;unfold DL at e1;split at e1
 ·rename_i hT'
  have hT:T∈["list","tuple","str","bool","int","dict"]:=by simpa using hT'
  cases e1;have fin:∀tk,EP X pins σ Q (.bool (decide (T=t\/(T = "int" /\ t = "bool")))) { s with toks:=tk }:=λtk=>⟨.bl _,H,I.tok _,rfl,q⟩;have tab:=λht=>HP X.K t T ht hT;cases v with
  |non=>rw[VR]at hx;subst hx;cases r1;simp only[BQ]at e;cases e;exact kia_one PySem.W.kitx_none I.nM True.intro (tab (by simp)) (λz=>nomatch z) fin
  |bl c=>rw[VR]at hx;subst hx;cases r1;simp only[BQ]at e;cases e;exact kia_one PySem.W.kitx_bool I.nM True.intro (tab (by simp)) (λz=>nomatch z) fin
  |int i=>rw[VR]at hx;subst hx;obtain⟨t',rfl⟩:=r1;simp only[BQ]at e;cases e;exact kia_one PySem.W.kitx_int I.nM True.intro (tab (by simp)) (λz=>nomatch z) fin
  |str i=>rw[VR]at hx;subst hx;obtain⟨t',rfl⟩:=r1;simp only[BQ]at e;cases e;exact kia_one PySem.W.kitx_str I.nM True.intro (tab (by simp)) (λz=>nomatch z) fin
  |tup vs=>rw[VR]at hx;obtain⟨a,ys,rfl,q1,_⟩:=hx;cases r1;simp only[BQ]at e;cases e;obtain⟨_,_,⟨o,e1,e2,_⟩,_⟩:=I.tuple q1;exact kia_one PySem.W.kitx_tuple I.nM ⟨o,e1,e2⟩ (tab (by simp)) (λz=>nomatch z) fin
  |rl vs=>rw[VR]at hx;obtain⟨a,ys,rfl,q1,_⟩:=hx;cases r1;simp only[BQ]at e;cases e;obtain⟨_,_,⟨o,n,e1,e2,_⟩,_⟩:=I.list q1.sq;exact kia_one kitx_list I.nM ⟨o,e1,e2⟩ (tab (by simp)) (λz=>nomatch z) fin
  |dc _ _=>rw[VR]at hx;exact hx.elim
  |ob _ _ _=>rw[VR]at hx;exact hx.elim
  |ref i=>
   rw[VR]at hx;obtain⟨a,rfl,q1⟩:=hx;cases r1;simp only[BQ]at e;split at e
   ·rename_i vs e1;cases e;obtain⟨ys,k1,k2⟩:=r.ob i _ a e1 q1;obtain⟨_,_,⟨o,n,e1,e2,_⟩,_⟩:=I.list (xs:=ys) (.inl (.inl k1));exact kia_one kitx_list I.nM ⟨o,e1,e2⟩ (tab (by simp)) (λz=>nomatch z) fin
   ·rename_i vs e1;cases e;obtain⟨ks,k1,k2⟩:=r.ob i _ a e1 q1;obtain⟨_,_,vs,_,p⟩:=(show bT X.prog X.w H s.heap a (.dK ks) from I.hok a _ k1);obtain⟨o,es,ep,h1,h2,_⟩:=p;exact kia_one PySem.W.kitx_dict I.nM ⟨o,h1,h2.1⟩ (tab (by simp)) (λz=>nomatch z) fin
   ·cases e
 ·cases e1
noncomputable def S0(B:Bd)(EX:Nat->List V->Hp->Prop)(m:Me):V->List V->Hp->VK->Prop:=λx xs H Q=>∃ρ h v vs,HR B ρ h H/\VR B.K ρ H v x/\aC B.K ρ H vs xs/\Post B EX ρ H (WV B.K Q) (met m v vs h)
theorem HS:Pw X "str.join" (S0 (bd X cl) EX .join):=by
 intro pins s σ H x xs u us Q I ru rr hh;obtain⟨ρ,h,v,vs,r,hv,hvs,p⟩:=hh;exact(show False from p).elim
theorem wY{i:Nat}(r:HR B ρ h H)(hi:ρ[i]?=some a)(e:h[i]?=some u)(eU:H a=some U)(hm:Mu U=true)(q:OR B ρ (upd H a O) a o)
  (p:Post B EX ρ H (WV B.K Q) (bnd (put i o) (λ_=>ret Val.non) h)):Q .non (upd H a O) :=
 p ρ (upd H a O) (Gr.put (mem_of_getElem? hi) eU hm) (r.put hi e q) _ VR.non
theorem BY:Pw X "list.append" (S0 (bd X cl) EX .append):=by
 intro pins s σ H x xs v' us Q I rx rv hh;obtain⟨ρ,h,v,vs,r,hv,hvs,p⟩:=hh
 match v,vs,p with
 |.ref i,[w],p=>
  obtain⟨zs,e,p⟩:=aD p;split at e
  ·rename_i zs' e1;cases e;obtain⟨e2,p⟩:=aK p;obtain⟨a,ys,rfl,q0,q1,q2⟩:=lz r hv e1;obtain⟨y,rfl,hy⟩:=aC.one hvs;refine tU pins s σ H _ _ v' us Q I rx rv ⟨a,ys,y,rfl,rfl,q1,by rw[<-q2.length];exact of_decide_eq_true e2,?_⟩;have g:Gr ρ H ρ (upd H a (.lst (ys++[y]))):=Gr.put (mem_of_getElem? q0) q1 rfl;exact wY (o:=.lst (zs++[w])) r q0 e1 q1 rfl ⟨_,aO,aC.append (aC.up g _ _ q2) (aC.up g _ _ (aC.cons hy aC.nil))⟩ p
  ·cases e
theorem BZ:Pw X "list.extend" (S0 (bd X cl) EX .extend):=by
 intro pins s σ H x xs v' us Q I rx rv hh;obtain⟨ρ,h,v,vs,r,hv,hvs,p⟩:=hh
 match v,vs,p with
 |.ref i,[w],p=>
  obtain⟨zs,e,p⟩:=aD p;split at e
  ·rename_i zs' e1;cases e
   obtain⟨ws,e3,p⟩:=aD p;obtain⟨e2,p⟩:=aK p;have e2:=of_decide_eq_true e2;obtain⟨a,ys,rfl,q0,q1,q2⟩:=lz r hv e1;obtain⟨y,rfl,hy⟩:=aC.one hvs;have fin:∀(bs:List V),aC X.K ρ H ws bs->Q .non (upd H a (.lst (ys++bs))):=λbs hb=>by
    have g:Gr ρ H ρ (upd H a (.lst (ys++bs))):=Gr.put (mem_of_getElem? q0) q1 rfl;exact wY (o:=.lst (zs++ws)) r q0 e1 q1 rfl ⟨_,aO,aC.append (aC.up g _ _ q2) (aC.up g _ _ hb)⟩ p
   cases w with
   |tup ts=>simp only[wQ]at e3;cases e3;rw[VR]at hy;obtain⟨b,bs,rfl,k1,k2⟩:=hy;exact yX pins s σ H _ _ v' us Q I rx rv ⟨a,b,ys,bs,rfl,rfl,q1,k1,by rw[<-q2.length,<-k2.length];exact e2,fin bs k2⟩
   |ref j=>
    simp only[wQ,aE]at e3;split at e3
    ·rename_i ts e4;cases e3;obtain⟨b,bs,rfl,k0,k1,k2⟩:=lz r hy e4;exact Bu pins s σ H _ _ v' us Q I rx rv ⟨a,b,ys,bs,rfl,rfl,q1,k1,by rw[<-q2.length,<-k2.length];exact e2,fin bs k2⟩
    ·cases e3
   |_=>simp only[wQ]at e3;cases e3
  ·cases e
end
end Hv
end
section
namespace Hv
open PySem L2 PyProof.Rows
structure Tb where
 nc:Nat
 HU:List Str
 HV:List (Nat×Str×Nat)
 Gm:List (Str×Str×Nat)
 isc:List (Str×List Bool)
structure pR where
 N:List Str
 sc:Scope
 fns:List (Str×Nat)
 cons:List (Str×Val)
 tb:Tb
noncomputable def pS(sc:Scope)(x:Str):Bool:=(sc.names.lookup x==some .local||sc.names.lookup x==some .cell||sc.names.lookup x==some .free) && !(x==("__debug__":Str)) && !(x==("__classdict__":Str))
noncomputable def zh(sc:Scope)(x:Str):Bool:=sc.names.lookup x==some .globalImplicit && !(x==("__debug__":Str)) && !(x==("__name__":Str))
noncomputable def DS:Const->Val->Bool
 |.none,.non=>true
 |.bool a,.bl b=>a==b
 |.int a,.int b=>a==b
 |.str a,.str b=>a==b
 |_,_=>false
noncomputable def Mh(o:HJ)(op:Operator):Bool:=decide (op=zg o)
noncomputable def Qc(o:LP)(op:CmpOp):Bool:=decide (op=Ae o)
noncomputable def Qd:Bl->Str
 |.len=>"len" | .min=>"min" | .max=>"max" | .sorted=>"sorted" | .list=>"list" | .tuple=>"tuple" | .str=>"str" | .int=>"int" | .all=>"all" | .any=>"any" | .isin _=>"isinstance"
noncomputable def noStar:Expr->Bool
 |.Starred ..=>false
 |_=>true
noncomputable def qb:Expr->Bool
 |.Slice ..=>false
 |_=>true
noncomputable def HW:Expr->Bool
 |.Name ..=>true|.Call ..=>true|.Subscript ..=>true|.List ..=>true|.Tuple ..=>true|.ListComp ..=>true|.Attribute ..=>true|.BinOp ..=>true
 |_=>false
noncomputable def superB:Expr->Bool
 |.Call (.Name _ _) [] [] _=>false
 |_=>true
noncomputable def JY(scope xsc:Scope):Scope :=
 { scope with names:=scope.names.map λ(n,k)=>if (k==.free&&xsc.kind==.function&&xsc.names.lookup n==some .cell) then (n,.cell) else (n,k) }
noncomputable def pR.vd(Γ:pR)(scope:Scope)(N':List Str):pR:={ Γ with N:=N',sc:=JY scope Γ.sc }
noncomputable def wZ(Γ:pR):z9->Expr->Bool
 |.one i,.Name x _=>Γ.N[i]?==some x && Γ.sc.names.lookup x==some .local
 | .tup is,.Tuple es _ _=>es.length==is.length&&(is.zip es).all λp=>match p.2 with
  |.Name x _=>Γ.N[p.1]?==some x && Γ.sc.names.lookup x==some .local
  |_=>false
 |_,_=>false
noncomputable def xg:z9->List Nat
 |.one i=>[i]
 |.tup is=>is
noncomputable def meN:Me->Str
 |.join=>"join" | .append=>"append" | .extend=>"extend"
noncomputable def zj:Val->Val->Bool
 |.non,.non=>true
 |.bl a,.bl b=>a==b
 |.int a,.int b=>a==b
 |.str a,.str b=>a==b
 |_,_=>false
noncomputable def Ox:Expr->Bool
 |.Name _ _=>true
 |_=>false
noncomputable def JZ:Expr->Str
 |.Name x _=>x
 |_=>""
theorem mY(h:Ox e=true):∃x p,e=.Name x p:=by
 cases e<;>first|exact⟨_,_,rfl⟩|exact nomatch (show false=true from h)
noncomputable def dfC(Γ:pR)(N':List Str)(js:List (Option Nat))(p q i j:Nat)(elt tg iter c0:Expr)(ia:Int)(scope:Scope):Bool:=match c0 with
 | .Compare l [.NotIn] [r] _=>Ox l&&Ox r&&(ia==0&&gP Γ.N Γ.sc scope N' js&&decide (N'.Nodup)&&wZ (Γ.vd scope N') (.one p) tg&&js[p]?==some none&&js[q]?==some (some j)&&p != q && !behindInMarks .NotIn r &&
   (N'[p]?==some (JZ elt)&&pS (Γ.vd scope N').sc (JZ elt))&&(N'[p]?==some (JZ l)&&pS (Γ.vd scope N').sc (JZ l))&&(N'[q]?==some (JZ r)&&pS (Γ.vd scope N').sc (JZ r))&&(Γ.N[i]?==some (JZ iter)&&pS Γ.sc (JZ iter)))
 |_=>false
noncomputable def J0(Γ:pR)(N':List Str)(js:List (Option Nat))(p q i j:Nat):Expr->Bool
 |.ListComp elt [⟨tg,iter,[c0],ia⟩] scope _=>Ox elt&&Ox tg&&Ox iter&&dfC Γ N' js p q i j elt tg iter c0 ia scope
 |_=>false
mutual
noncomputable def bK(Γ:pR):IE->Expr->Bool
 | .var i,e=>match e with
  |.Name x _=>Γ.N[i]?==some x&&pS Γ.sc x
  |_=>false
 | .cst d,e=>match e with
  |.Constant c _ _=>DS c d
  |_=>false
 | .con x d,e=>match e with
  |.Name y _=>x==y&&zh Γ.sc x && Γ.cons.any λp=>p.1==x&&zj p.2 d
  |_=>false
 |.no,_=>false
 | .bin o a b,e=>match e with
  |.BinOp l op r _=>Mh o op&&bK Γ a l&&bK Γ b r
  |_=>false
 | .neg a,e=>match e with
  |.UnaryOp .USub l _=>bK Γ a l
  |_=>false
 | .cmp o a b,e=>match e with
  |.Compare l [op] [r] _=>Qc o op && !behindInMarks op r&&bK Γ a l&&bK Γ b r
  |_=>false
 |.chn _ _ _ _ _,_=>false
 | .and a b,e=>match e with
  |.BoolOp .And (l::m::r) pos=>bK Γ a l&&(match r with|[]=>bK Γ b m|n::r'=>bK Γ b (.BoolOp .And (m::n::r') pos))
  |_=>false
 | .or a b,e=>match e with
  |.BoolOp .Or (l::m::r) pos=>bK Γ a l&&(match r with|[]=>bK Γ b m|n::r'=>bK Γ b (.BoolOp .Or (m::n::r') pos))
  |_=>false
 | .not a,e=>match e with
  |.UnaryOp .Not l _=>bK Γ a l
  |_=>false
 |.ite _ _ _,_=>false
 | .tup es,e=>match e with
  |.Tuple ls _ _=>aN Γ es ls
  |_=>false
 | .lst es,e=>match e with
  |.List ls _=>aN Γ es ls
  |_=>false
 | .idx a b,e=>match e with
  |.Subscript l r _=>qb r&&bK Γ a l&&bK Γ b r
  |_=>false
 | .slc a lo hi,e=>match e with
  |.Subscript l (.Slice l' h' none _) _=>bK Γ a l&&(match l' with|none=>dQ lo|some e=>!dQ lo&&bK Γ lo e)&&(match h' with|none=>dQ hi|some e=>!dQ hi&&bK Γ hi e)
  |_=>false
 | .call j es,e=>match e with
  |.Call (.Name x _) args [] _=>zh Γ.sc x && Γ.fns[j]?==some (x,args.length)&&decide (args.length<1000)&&aN Γ es args
  |.Call (.Attribute (.Name x _) m ap) args [] cp=>zh Γ.sc x && Γ.tb.Gm.contains (x,m,j)&&(match Γ.fns[j]? with|some (_,n)=>n==1000+args.length|none=>false)&&decide (args.length<29)&&ap.endLine==cp.line&&aN Γ es args && !args.isEmpty
  |_=>false
 | .blt b es,e=>match e with
  | .Call (.Name x _) args [] _=>zh Γ.sc x&&x==Qd b&&(match b with
   |.isin T=>(match args with|[a,.Name y _]=>zh Γ.sc y&&y==(T:Str)&&["list","tuple","str","bool","int","dict"].contains T&&aN Γ es [a]|_=>false)
   |_=>!args.isEmpty&&aN Γ es args)
  |_=>false
 | .met m a es,e=>match e with
  |.Call (.Attribute o x ap) args [] cp=>x==meN m&&superB o && !args.isEmpty&&decide (args.length<29)&&ap.endLine==cp.line&&bK Γ a o&&aN Γ es args
  |_=>false
 | .comp N' js pat k it c elt,e=>match e with
  | .ListComp e [⟨tg,iter,ifs,0⟩] scope _=>gP Γ.N Γ.sc scope N' js&&Ah Γ k it iter&&decide (N'.Nodup)&&wZ (Γ.vd scope N') pat tg&&((xg pat).all λi=>js[i]?==some none)&&(match k,pat with|.enum,.one _=>false|.zip,.one _=>false|_,_=>true) &&
   (match ifs with|[]=>dQ c|[t]=>!dQ c&&bK (Γ.vd scope N') c t|_=>false)&&bK (Γ.vd scope N') elt e
  |_=>false
 | .dct0,e=>match e with
  |.Dict [] [] _=>true
  |_=>false
 | .sset a,e=>match e with
  |.Call (.Name x _) [.Call (.Name y _) [l] [] _] [] _=>x==("sorted":Str)&&y==("set":Str)&&zh Γ.sc x&&zh Γ.sc y&&noStar l&&bK Γ a l
  |_=>false
 | .dget d k x,e=>match e with
  |.Call (.Attribute o m ap) [a,b] [] cp=>m==("get":Str)&&superB o&&noStar a&&noStar b&&ap.endLine==cp.line&&bK Γ d o&&bK Γ k a&&bK Γ x b
  |_=>false
 | .dct1 k v,e=>match e with
  |.Dict [some a] [b] _=>bK Γ k a&&bK Γ v b
  |_=>false
 | .lkeys d,e=>match e with
  |.Call (.Name x _) [.Name y q] [] _=>x==("list":Str)&&zh Γ.sc x&&bK Γ d (.Name y q)
  |_=>false
 |.sdef _ _ _,_=>false
 |.svals _,_=>false
 | .skeys d,e=>match e with
  |.Call (.Name x _) [.Name y q] [] _=>x==("sorted":Str)&&zh Γ.sc x&&bK Γ d (.Name y q)
  |_=>false
 | .fld n a x,e=>match e with
  |.Attribute o y _=>x==y&&superB o&&n == Γ.tb.nc && Γ.tb.HU.contains x&&bK Γ a o
  |_=>false
 |.rev _ _,_=>false
 | .dflt N' js p q d w,e=>match d,w with
  |.var i,.var j=>J0 Γ N' js p q i j e
  |_,_=>false
 |.isc _ _ _,_=>false
 | .mth a m js es,e=>match e with
  |.Call (.Attribute o x ap) args [] cp=>x==m&&superB o&&decide (args.length<29)&&ap.endLine==cp.line&&(js.all λp=>decide (p.1 < Γ.tb.nc) && Γ.tb.HV.contains (p.1,m,p.2)&&(match Γ.fns[p.2]? with|some (_,n)=>n==1001+args.length|none=>false))&&bK Γ a o&&aN Γ es args
  |_=>false
noncomputable def aN(Γ:pR):o7->List Expr->Bool
 |.nil,ls=>ls.isEmpty
 | .cons e es,ls=>match ls with
  |l::ls=>noStar l&&bK Γ e l&&aN Γ es ls
  |[]=>false
noncomputable def Ah(Γ:pR)(k:Ik):o7->Expr->Bool
 |.nil,_=>false
 | .cons e es,l=>match k with
  |.seq=>(match es with|.nil=>HW l&&bK Γ e l|_=>false)
  |.range=>(match l with|.Call (.Name x _) (a::args) [] _=>x==("range":Str)&&zh Γ.sc x&&noStar a&&bK Γ e a&&aN Γ es args&&decide (args.length<2)|_=>false)
  |.enum=>(match es,l with|.nil,.Call (.Name x _) [a] [] _=>x==("enumerate":Str)&&zh Γ.sc x&&noStar a&&bK Γ e a|_,_=>false)
  |.zip=>false
end
noncomputable abbrev Fn:=Nat->List Val->M Val
noncomputable def cW(K:PySem.W.Frag)(ρ:List Addr)(env:Env)(σ:L2.St)(H:Hp):Prop:=∀(i:Nat) (v:Val),env[i]?=some (some v)->∃x,σ[i]?=some (some x)/\VR K ρ H v x
theorem cW.lK{K:PySem.W.Frag}{ρ ρ':List Addr}{env:Env}{σ:L2.St}{H H':Hp}(e:cW K ρ env σ H)(g:Gw ρ H ρ' H'):cW K ρ' env σ H':=λi v q=>by
 obtain⟨x,q1,q2⟩:=e i v q;exact⟨x,q1,VR.lK g v x q2⟩
theorem cW.up{K:PySem.W.Frag}{ρ ρ':List Addr}{env:Env}{σ:L2.St}{H H':Hp}(e:cW K ρ env σ H)(g:Gr ρ H ρ' H'):cW K ρ' env σ H':=e.lK g.w
noncomputable def WVs(K:PySem.W.Frag)(Q:List V->Hp->Prop):List Val->Hs->List Addr->Hp->Prop:=λvs _ ρ' H'=>∀xs,aC K ρ' H' vs xs->Q xs H'
noncomputable def WT(Q:Bool->Hp->Prop):Bool->Hs->List Addr->Hp->Prop:=λb _ _ H'=>Q b H'
noncomputable def Mi(Φ:Fn)(ir:IE)(env:Env):M Bool:=bnd (aJ Φ ir env) λx=>ask λh=>cB h x
noncomputable def tV(Φ:Fn)(B:Bd)(EX:Nat->List V->Hp->Prop)(ir:IE):TE:=λσ H Q=>∃ρ env h,cW B.K ρ env σ H/\HR B ρ h H/\Post B EX ρ H (WV B.K Q) (aJ Φ ir env h)
noncomputable def YN(Φ:Fn)(B:Bd)(EX:Nat->List V->Hp->Prop)(fh:o7):TA:=λσ H Q=>∃ρ env h,cW B.K ρ env σ H/\HR B ρ h H/\Post B EX ρ H (WVs B.K Q) (bz Φ fh env h)
noncomputable def tT(Φ:Fn)(B:Bd)(EX:Nat->List V->Hp->Prop)(ir:IE):TT:=λσ H Q=>∃ρ env h,cW B.K ρ env σ H/\HR B ρ h H/\Post B EX ρ H (WT Q) (Mi Φ ir env h)
theorem _root_.L2.PE.imp(h:PE X e t)(i:∀σ H Q,t' σ H Q->t σ H Q):PE X e t':=λpins s σ H Q I hw=>h pins s σ H Q I (i σ H Q hw)
theorem _root_.L2.PT.imp(h:PT X e t)(i:∀σ H Q,t' σ H Q->t σ H Q):PT X e t':=λpins s σ H Q I hw=>h pins s σ H Q I (i σ H Q hw)
theorem _root_.L2.PA.imp(h:PA X es t)(i:∀σ H Q,t' σ H Q->t σ H Q):PA X es t':=λpos pins s σ H Q I hw=>h pos pins s σ H Q I (i σ H Q hw)
theorem _root_.L2.PO.imp(h:PO X e t)(i:∀σ H Q,t' σ H Q->t σ H Q):PO X e t':=λpins s σ H Q I hw=>h pins s σ H Q I (i σ H Q hw)
theorem _root_.L2.PI.imp(h:PI X tg iter t)(i:∀σ H R,t' σ H R->t σ H R):PI X tg iter t':=λpins s σ H R I hw=>h pins s σ H R I (i σ H R hw)
theorem bh{α β γ:Type}(m:M α)(f:α -> M β)(g:β -> M γ):bnd (bnd m f) g=bnd m λx=>bnd (f x) g:=by
 funext h;show (match (match m h with|.ok a h'=>f a h'|.exc c vs h'=>.exc c vs h'|.no=>.no) with|.ok a h'=>g a h'|.exc c vs h'=>.exc c vs h'|.no=>.no)=(match m h with|.ok a h'=>bnd (f a) g h'|.exc c vs h'=>.exc c vs h'|.no=>.no);cases m h<;>rfl
theorem cX{α β:Type}(a:α)(f:α -> M β):bnd (ret a) f=f a:=rfl
noncomputable def ve(B:Bd)(n:Nat)(φ:List Val->M Val):Sp:=λxs H Q _=>∃ρ h vs,vs.length=n/\HR B ρ h H/\aC B.K ρ H vs xs/\Post B (λ_ _ _=>False) ρ H (WV B.K Q) (φ vs h)
noncomputable def Oz(P:Program)(w:World)(B:Bd)(mg:Str->Option Value)(base:Heap)(k:Nat)(j:Nat)(x:Str)(n:Nat)(φ:List Val->M Val):Prop :=
 (n<1000/\((∃(f:Addr) (fd:FuncData) (ps:List Str),ps.length=n/\mg x=some (.ref f)/\keepIn B.K (.ref f)=true/\Binds B.K fd ps []/\fU P w B.K mg base yr k f fd ps (ve B n φ)) \/
  ∃(c:Nat) (f:Addr) (fd:FuncData) (ps:List Str) (φ0:List Val->M Val),φ = DM c φ0/\ps.length=n+1/\mg x=some (.ref (B.cl c))/\Mk B.K (B.cl c) f/\Binds B.K fd ps []/\fU P w B.K mg base yr k f fd ps (ve B (n+1) φ0))) \/
 (1000<=n/\∃(fd:FuncData) (ps:List Str),ps.length=n-1000/\Binds B.K fd ps []/\fU P w B.K mg base yr k (B.cl (1000+j)) fd ps (ve B (n-1000) φ))
noncomputable def iu:List Str:=["len","min","max","sorted","list","tuple","str","all","any","isinstance","range","enumerate","int","bool","dict","set","zip"]
structure Ctx (Φ:Fn) (Γ:pR) (k:Nat) (X:Cx) (cl:Nat->Addr) (EX:Nat->List V->Hp->Prop):Prop where
 N:X.N = Γ.N
 sc:X.env.scope = Γ.sc
 calm:X.calm=true
 room:dP (k+1) X.A
 mq:∀c xs H,¬ EX c xs H
 fns:∀j x n,Γ.fns[j]?=some (x,n)->Oz X.prog X.w (bd X cl) X.mg X.base k j x n (Φ j)
 cls:∀c,c < Γ.tb.nc->Cu X.K (cl c)/\∀x ∈ Γ.tb.HU,ku X.K (cl c) x
 HV:∀p ∈ Γ.tb.HV,Meth X.K (cl p.1) p.2.1 (cl (1000+p.2.2))
 Gm:∀p ∈ Γ.tb.Gm,∃C,X.mg p.1=some (.ref C)/\LN X.K C p.2.1 (cl (1000+p.2.2))
 isc:∀p ∈ Γ.tb.isc,∃C,X.mg p.1=some (.ref C)/\∀c b,p.2[c]?=some b->YM X.K (cl c)/\kitOne X.K (.ref (cl c)) (.ref C)=some b
 cons:∀p ∈ Γ.cons,∃v u,X.mg p.1=some u/\RelV v u/\∀K ρ H,VR K ρ H p.2 v
 blt:∀x∈iu,X.mg x=none
section
variable {Φ:Fn} {Γ:pR} {k:Nat} {X:Cx} {cl:Nat->Addr} {EX:Nat->List V->Hp->Prop}
theorem Ctx.units(c:Ctx Φ Γ k X cl EX):X.A.units+64<cLine:=c.room.units
theorem Ctx.vis(c:Ctx Φ Γ k X cl EX)(h:pS Γ.sc x=true):OO X.env.scope x/\(x==("__debug__":Str))=false/\(x==("__classdict__":Str))=false:=by
 unfold pS at h;simp only[and_eq_true,or_eq_true,beq_iff_eq,not_eq_true']at h;obtain⟨⟨h1,h2⟩,h3⟩:=h;refine⟨?_,h2,h3⟩;unfold OO;rw[c.sc]
 rcases h1 with (z|z)|z
 ·exact .inl z
 ·exact .inr (.inl z)
 ·exact .inr (.inr z)
theorem Ctx.gl(c:Ctx Φ Γ k X cl EX)(h:zh Γ.sc x=true):Gl X x/\(x==("__debug__":Str))=false/\x ≠ "__name__":=by
 unfold zh at h;simp only[and_eq_true,beq_iff_eq,not_eq_true']at h;obtain⟨⟨h1,h2⟩,h3⟩:=h;refine⟨?_,h2,λz=>by rw[z]at h3;simp at h3⟩;show X.env.scope.names.lookup x=_;rw[c.sc];exact h1
theorem Ctx.vd(c:Ctx Φ Γ k X cl EX)(scope:Scope)(N':List Str)(cls:List (Str×Addr))(C:Addr)(s:Shared)(H:Hp)(fp:List Addr):Ctx Φ (Γ.vd scope N') k (bE X scope N' cls C s H fp) cl EX:=by
 refine⟨rfl,?_,c.calm,c.room,c.mq,c.fns,c.cls,c.HV,c.Gm,c.isc,c.cons,c.blt⟩;show relabel scope X.env=JY scope Γ.sc;rw[<-c.sc];rfl
theorem bq(h:noStar e=true):starEach (e::es) env=(false,eval e env)::starEach es env:=by
 cases e<;>first|rfl|(simp[noStar]at h)
theorem gq:∀{es:List Expr} {fh:o7},aN Γ fh es=true->(backTo pos (starEach es env)).any (·.1)=false
 |[],_,_=>rfl
 |e::es,.nil,h=>by simp[aN]at h
 | e::es,.cons i fh,h=>by
  simp only[aN,and_eq_true]at h;rw[bq h.1.1];show (false||(backTo pos (starEach es env)).any (·.1))=false;rw[gq (fh:=fh) h.2];rfl
theorem qW(h:aN Γ fh es=true):(backTo pos (starEach es env)).all (λx=>!x.1)=true:=by
 have q:=gq (pos:=pos) (env:=env) h;rw[all_eq_true];intro x hx;have:=List.any_eq_false.mp q x hx;simpa using this
theorem zk(h:qb e=true):zV e:=by
 intro o i;cases e<;>first|rfl|(simp[qb]at h)
theorem super_ok(h:superB e=true):attributeBase e x env whole=whole:=by
 cases e<;>first
  |rfl
  |skip
 rename_i f args kws pos;cases f<;>first
  |rfl
  |skip
 cases args with
 |cons a r=>rfl
 |nil=>
  cases kws with
  |cons a r=>rfl
  |nil=>simp[superB]at h
theorem cT(q:PE X e (tV Φ (bd X cl) EX ir))(he:∀whole,isTrue e X.env whole=(do let v <-whole;standAt e.pos;holding [v] (truthy v))):PT X e (tT Φ (bd X cl) EX ir) :=
 (CP q he).imp λσ H Q ⟨ρ,env,h,hE,r,p⟩=>⟨ρ,env,h,hE,r,av p λv h1 ρ1 x H1 g1 r1 q1 p1=>by
  obtain⟨b,e,w⟩:=dw r1 p1;exact⟨b,LV r1 q1 e,w⟩⟩
theorem CN:SO X (unaryOp .USub) (λx H Q=>∃i,x=.int i/\Q (.int (-i)) H):=by
 intro pins s σ H x v Q I rx h;obtain⟨i,rfl,q⟩:=h;obtain⟨t,rfl⟩:=rx;exact neg_int ⟨.int (-i),H,I.tok _,⟨_,rfl⟩,q⟩
theorem J1(h:PT X (.BoolOp op vs pos) t):PW X (.BoolOp op vs pos) t:=λwhole pins s σ H Q I hw=>h pins s σ H Q I hw
noncomputable def cu(Φ:Fn)(ir:IE):Prop:=∀(Γ:pR) (k:Nat) (X:Cx) (cl:Nat->Addr) (EX:Nat->List V->Hp->Prop) (e:Expr),Ctx Φ Γ k X cl EX->bK Γ ir e=true->PE X e (tV Φ (bd X cl) EX ir)/\PT X e (tT Φ (bd X cl) EX ir)
noncomputable def kH(Φ:Fn)(fh:o7):Prop:=(∀(Γ:pR) (k:Nat) (X:Cx) (cl:Nat->Addr) (EX:Nat->List V->Hp->Prop) (es:List Expr),Ctx Φ Γ k X cl EX->aN Γ fh es=true->PA X es (YN Φ (bd X cl) EX fh))/\match fh with
 |.nil=>True
 | .cons e r=>cu Φ e/\match r with
  |.nil=>True
  |.cons e' _=>cu Φ e'
theorem Ai(h:Mh o op=true):op=zg o:=of_decide_eq_true h
theorem HX(h:Qc o op=true):op=Ae o:=of_decide_eq_true h
theorem n9(hs:∀env h,aJ Φ ir env h=.no):cu Φ ir:=by
 intro Γ k X cl EX e c h;exact⟨λpins s σ H Q I ⟨ρ,env,h,hE,r,p⟩=>by rw[hs]at p;exact p.elim,λpins s σ H Q I ⟨ρ,env,h,hE,r,p⟩=>by unfold Mi bnd at p;rw[hs]at p;exact p.elim⟩
theorem Mj{i:Nat}:cu Φ (.var i):=by
 intro Γ k X cl EX e c h
 (conv at h=>lhs;whnf);split at h<;>first|cases h|skip
 rename_i x pos;simp only[and_eq_true,beq_iff_eq]at h;obtain⟨v1,v2,v3⟩:=c.vis h.2;have q:PE X (.Name x pos) (tV Φ (bd X cl) EX (.var i)):=by refine(yy (by rw[c.N];exact h.1) v1 v2 v3).imp λσ H Q aI=>?_;obtain⟨ρ,env,h,hE,r,p⟩:=aI;rw[aJ.eq_def]at p;dsimp only at p;obtain⟨d,e1,w⟩:=cL r p;split at e1<;>cases e1;rename_i e1;obtain⟨x,e2,e3⟩:=hE i d e1;exact⟨x,e2,w x e3⟩
 exact⟨q,cT q λ_=>rfl⟩
theorem Ml:cu Φ (.cst d):=by
 intro Γ k X cl EX e c h
 (conv at h=>lhs;whnf);split at h<;>first|cases h|skip
 rename_i cc j pos;have q:PE X (.Constant cc j pos) (tV Φ (bd X cl) EX (.cst d)):=by
  unfold DS at h;split at h<;>first|cases h|skip
  ·refine KP.imp λσ H Q aI=>?_;obtain⟨ρ,env,h,hE,r,p⟩:=aI;simp only[aJ]at p;exact ai r p _ VR.non
  ·cases eq_of_beq h;refine OV.imp λσ H Q aI=>?_;obtain⟨ρ,env,h,hE,r,p⟩:=aI;simp only[aJ]at p;exact ai r p _ VR.bl
  ·cases eq_of_beq h;refine KO.imp λσ H Q aI=>?_;obtain⟨ρ,env,h,hE,r,p⟩:=aI;simp only[aJ]at p;exact ai r p _ VR.int
  ·cases eq_of_beq h;refine KQ.imp λσ H Q aI=>?_;obtain⟨ρ,env,h,hE,r,p⟩:=aI;simp only[aJ]at p;exact ai r p _ VR.str
 exact⟨q,cT q λ_=>rfl⟩
theorem B3(h:zj a b=true):a=b:=by
 unfold zj at h;split at h<;>first|rfl|(cases eq_of_beq h;rfl)|cases h
theorem Mm:cu Φ (.con x d):=by
 intro Γ k X cl EX e c h
 (conv at h=>lhs;whnf);split at h<;>first|cases h|skip
 rename_i y pos;simp only[and_eq_true,beq_iff_eq]at h;obtain⟨⟨h1,h2⟩,h3⟩:=h;subst h1;obtain⟨g1,g2,g3⟩:=c.gl h2;obtain⟨p,hp,h4⟩:=List.any_eq_true.mp h3;simp only[and_eq_true,beq_iff_eq]at h4;obtain⟨v,u,m1,m2,m3⟩:=c.cons p hp;rw[h4.1]at m1;have q:PE X (.Name x pos) (tV Φ (bd X cl) EX (.con x d)):=by refine(Gu g1 m1 m2 g2).imp λσ H Q aI=>?_;obtain⟨ρ,env,h,hE,r,p⟩:=aI;simp only[aJ]at p;exact ai r p _ (by rw[<-B3 h4.2];exact m3 _ _ _)
 exact⟨q,cT q λ_=>rfl⟩
theorem Qe:cu Φ .no:=by
 intro Γ k X cl EX e c h
 (conv at h=>lhs;whnf);cases h
theorem DT:kH Φ .nil:=by
 refine⟨fun Γ k X cl EX es c h=>?_,trivial⟩;rw[aN]at h;cases es with
 |cons a r=>cases h
 |nil=>refine CT.imp λσ H Q aI=>?_;obtain⟨ρ,env,h,hE,r,p⟩:=aI;simp only[bz]at p;exact ai r p _ aC.nil
theorem Aj(h1:cu Φ e)(h2:kH Φ es):kH Φ (.cons e es):=by
 refine⟨fun Γ k X cl EX ls c h=>?_,h1,?_⟩
 ·rw[aN.eq_def]at h;dsimp only at h
  cases ls with
  |nil=>cases h
  |cons l ls=>simp only[and_eq_true]at h;refine(uL (h1 Γ k X cl EX l c h.1.2).1 (h2.1 Γ k X cl EX ls c h.2) (bq h.1.1)).imp λσ H Q aI=>?_;obtain⟨ρ,env,h,hE,r,p⟩:=aI;simp only[bz]at p;refine⟨ρ,env,h,hE,r,av p λv h1 ρ1 x H1 g1 r1 q1 p1=>⟨ρ1,env,h1,hE.up g1,r1,bD p1 λvs h2 ρ2 H2 g2 r2 p2 xs q2=>?_⟩⟩;exact ai r2 p2 _ (aC.cons (VR.up g2 _ _ q1) q2)
 ·cases es with
  |nil=>trivial
  |cons e' r=>exact h2.2.1
theorem Mn(ha:cu Φ a)(hb:cu Φ b):cu Φ (.bin o a b):=by
 intro Γ k X cl EX e c h
 (conv at h=>lhs;whnf);split at h<;>first|cases h|skip
 rename_i l op r pos;simp only[and_eq_true]at h;obtain⟨⟨h1,h2⟩,h3⟩:=h;have eo:op=zg o:=Ai h1;subst eo;have q:PE X (.BinOp l (zg o) r pos) (tV Φ (bd X cl) EX (.bin o a b)):=by refine(Pe (LS (cl:=cl) (EX:=EX) o) (ha Γ k X cl EX l c h2).1 (hb Γ k X cl EX r c h3).1).imp λσ H Q aI=>?_;obtain⟨ρ,env,h,hE,r,p⟩:=aI;simp only[aJ]at p;exact⟨ρ,env,h,hE,r,av p λv h1 ρ1 x H1 g1 r1 q1 p1=>⟨ρ1,env,h1,hE.up g1,r1,av p1 λw h2 ρ2 y H2 g2 r2 q2 p2=>⟨ρ2,h2,v,w,r2,VR.up g2 _ _ q1,q2,p2⟩⟩⟩
 exact⟨q,cT q λ_=>rfl⟩
theorem Mp(ha:cu Φ a):cu Φ (.neg a):=by
 intro Γ k X cl EX e c h
 (conv at h=>lhs;whnf);split at h<;>first|cases h|skip
 rename_i l pos;have q:PE X (.UnaryOp .USub l pos) (tV Φ (bd X cl) EX (.neg a)):=by
  refine(Pf CN (ha Γ k X cl EX l c h).1).imp λσ H Q aI=>?_;obtain⟨ρ,env,h,hE,r,p⟩:=aI;simp only[aJ]at p;refine⟨ρ,env,h,hE,r,av p λv h1 ρ1 x H1 g1 r1 q1 p1=>?_⟩;cases v<;>first|exact p1.elim|skip
  rw[VR]at q1;exact⟨_,q1,ai r1 p1 _ VR.int⟩
 exact⟨q,cT q λ_=>rfl⟩
theorem Mq(ha:cu Φ a)(hb:cu Φ b):cu Φ (.cmp o a b):=by
 intro Γ k X cl EX e c h
 (conv at h=>lhs;whnf);split at h<;>first|cases h|skip
 rename_i l op r pos;simp only[and_eq_true,not_eq_true']at h;obtain⟨⟨⟨h1,h4⟩,h2⟩,h3⟩:=h;have eo:op=Ae o:=HX h1;subst eo;refine⟨(GO (DQ (cl:=cl) c.units o) (ha Γ k X cl EX l c h2).1 (hb Γ k X cl EX r c h3).1 h4).imp λσ H Q ⟨ρ,env,h,hE,r,p⟩=>?_,(zR (DQ (cl:=cl) c.units o) (ha Γ k X cl EX l c h2).1 (hb Γ k X cl EX r c h3).1 h4).imp λσ H Q ⟨ρ,env,h,hE,r,p⟩=>?_⟩
 ·simp only[aJ]at p;refine⟨ρ,env,h,hE,r,av p λv h1 ρ1 x H1 g1 r1 q1 p1=>⟨ρ1,env,h1,hE.up g1,r1,av p1 λw h2 ρ2 y H2 g2 r2 q2 p2=>?_⟩⟩;obtain⟨t,e,p3⟩:=aD p2;exact⟨ρ2,h2,v,w,t,r2,VR.up g2 _ _ q1,q2,e,ai r2 p3 _ VR.bl⟩
 ·simp only[Mi,aJ,bh,cX]at p;refine⟨ρ,env,h,hE,r,av p λv h1 ρ1 x H1 g1 r1 q1 p1=>⟨ρ1,env,h1,hE.up g1,r1,av p1 λw h2 ρ2 y H2 g2 r2 q2 p2=>?_⟩⟩;obtain⟨t,e,p3⟩:=aD p2;obtain⟨t',e',w'⟩:=dw r2 p3;cases (show some t=some t' from e');exact⟨ρ2,h2,v,w,t,r2,VR.up g2 _ _ q1,q2,e,t,rfl,w'⟩
theorem Mr(ha:cu Φ a)(hb:cu Φ b)(hd:cu Φ d):cu Φ (.chn o o' a b d):=n9 λ_ _=>rfl
end
end Hv
end
section
namespace Hv
open PySem L2 PyProof.Rows
section
variable {B:Bd} {EX:Nat->List V->Hp->Prop} {ρ:List Addr} {H:Hp} {β:Type} {W:β -> Hs->List Addr->Hp->Prop} {h:Hs}
theorem post_bool(p:Post B EX ρ H W (bnd (qQ v) f h)):∃t,v=.bl t/\Post B EX ρ H W (f t h):=by
 cases v with
 |bl t=>exact⟨t,rfl,p⟩
 |_=>exact p.elim
theorem oh(p:Post B EX ρ H W (bnd m F h))(k:∀v h1,Post B EX ρ H W (F v h1)->∃t,cB h1 v=some t/\∀ρ1 H1,Gr ρ H ρ1 H1->HR B ρ1 h1 H1->Q t H1) :
  Post B EX ρ H (WT Q) (bnd m (λx=>ask λh=>cB h x) h):=by
 unfold bnd at p |-;cases e:m h with
 |ok v h1=>
  rw[e]at p;obtain⟨t,e1,q⟩:=k v h1 p;show Post B EX ρ H (WT Q) (ask (λh=>cB h v) h1);have e2:ask (λh=>cB h v) h1=.ok t h1:=by unfold ask bH;dsimp only;rw[e1]
  rw[e2];exact λρ1 H1 g r=>q ρ1 H1 g r
 |exc c vs h1=>rw[e]at p;exact p
 |no=>rw[e]at p;exact p
end
section
variable {Φ:Fn} {Γ:pR} {k:Nat} {X:Cx} {cl:Nat->Addr} {EX:Nat->List V->Hp->Prop}
theorem Ms(ha:cu Φ a)(hb:cu Φ b):cu Φ (.and a b):=by
 intro Γ k X cl EX e c h
 (conv at h=>lhs;whnf);split at h<;>first|cases h|skip
 rename_i l m r pos;simp only[and_eq_true]at h;obtain⟨h1,h2⟩:=h;have hB:PE X (.BoolOp .And (m::r) pos) (tV Φ (bd X cl) EX b)/\PW X (.BoolOp .And (m::r) pos) (tT Φ (bd X cl) EX b):=by
  cases r with
  |nil=>exact⟨CC (hb Γ k X cl EX m c h2).1,Gx (hb Γ k X cl EX m c h2).2⟩
  |cons n r'=>exact⟨(hb Γ k X cl EX _ c h2).1,J1 (hb Γ k X cl EX _ c h2).2⟩
 refine⟨(KW (ha Γ k X cl EX l c h1).1 hB.1).imp λσ H Q ⟨ρ,env,h,hE,r,p⟩=>?_,(KS (ha Γ k X cl EX l c h1).2 hB.2).pt.imp λσ H Q ⟨ρ,env,h,hE,r,p⟩=>?_⟩
 ·simp only[aJ]at p
  refine⟨ρ,env,h,hE,r,av p λv h1 ρ1 x H1 g1 r1 q1 p1=>?_⟩;obtain⟨t,rfl,p2⟩:=post_bool p1;rw[VR]at q1;refine⟨t,q1,?_⟩;cases t with
  |true=>rw[if_pos rfl]at p2 |-;refine⟨ρ1,env,h1,hE.up g1,r1,av p2 λw h2 ρ2 y H2 g2 r2 q2 p3=>?_⟩;obtain⟨u,rfl,p4⟩:=post_bool p3;exact ai r2 p4 _ q2
  |false=>rw[if_neg Bool.false_ne_true]at p2 |-;exact ai r1 p2 _ VR.bl
 ·simp only[Mi,aJ,bh]at p
  refine⟨ρ,env,h,hE,r,oh p λv h1 p1=>?_⟩;obtain⟨t,rfl,p2⟩:=post_bool p1;refine⟨t,rfl,λρ1 H1 g1 r1=>?_⟩;have p2:=Post.up g1 p2;cases t with
  |true=>rw[if_pos rfl]at p2 |-;simp only[bh,cX]at p2;refine⟨ρ1,env,h1,hE.up g1,r1,oh p2 λw h2 p3=>?_⟩;obtain⟨u,rfl,p4⟩:=post_bool p3;exact⟨u,rfl,λρ2 H2 g2 r2=>by obtain⟨t',e',w'⟩:=dw r2 (Post.up g2 p4);cases (show some u=some t' from e');exact w'⟩
  |false=>rw[if_neg Bool.false_ne_true]at p2 |-;obtain⟨t',e',w'⟩:=dw r1 (show Post _ _ ρ1 H1 _ (ask (λh=>cB h (.bl false)) h1) from p2);cases (show some false=some t' from e');exact w'
theorem Qf(ha:cu Φ a)(hb:cu Φ b):cu Φ (.or a b):=by
 intro Γ k X cl EX e c h
 (conv at h=>lhs;whnf);split at h<;>first|cases h|skip
 rename_i l m r pos;simp only[and_eq_true]at h;obtain⟨h1,h2⟩:=h;have hB:PE X (.BoolOp .Or (m::r) pos) (tV Φ (bd X cl) EX b)/\PW X (.BoolOp .Or (m::r) pos) (tT Φ (bd X cl) EX b):=by
  cases r with
  |nil=>exact⟨CC (hb Γ k X cl EX m c h2).1,KR (hb Γ k X cl EX m c h2).2⟩
  |cons n r'=>exact⟨(hb Γ k X cl EX _ c h2).1,J1 (hb Γ k X cl EX _ c h2).2⟩
 refine⟨(OZ (ha Γ k X cl EX l c h1).1 hB.1).imp λσ H Q ⟨ρ,env,h,hE,r,p⟩=>?_,(OW (ha Γ k X cl EX l c h1).2 hB.2).pt.imp λσ H Q ⟨ρ,env,h,hE,r,p⟩=>?_⟩
 ·simp only[aJ]at p
  refine⟨ρ,env,h,hE,r,av p λv h1 ρ1 x H1 g1 r1 q1 p1=>?_⟩;obtain⟨t,rfl,p2⟩:=post_bool p1;rw[VR]at q1;refine⟨t,q1,?_⟩;cases t with
  |false=>rw[if_neg Bool.false_ne_true]at p2 |-;refine⟨ρ1,env,h1,hE.up g1,r1,av p2 λw h2 ρ2 y H2 g2 r2 q2 p3=>?_⟩;obtain⟨u,rfl,p4⟩:=post_bool p3;exact ai r2 p4 _ q2
  |true=>rw[if_pos rfl]at p2 |-;exact ai r1 p2 _ VR.bl
 ·simp only[Mi,aJ,bh]at p
  refine⟨ρ,env,h,hE,r,oh p λv h1 p1=>?_⟩;obtain⟨t,rfl,p2⟩:=post_bool p1;refine⟨t,rfl,λρ1 H1 g1 r1=>?_⟩;have p2:=Post.up g1 p2;cases t with
  |false=>rw[if_neg Bool.false_ne_true]at p2 |-;simp only[bh,cX]at p2;refine⟨ρ1,env,h1,hE.up g1,r1,oh p2 λw h2 p3=>?_⟩;obtain⟨u,rfl,p4⟩:=post_bool p3;exact⟨u,rfl,λρ2 H2 g2 r2=>by obtain⟨t',e',w'⟩:=dw r2 (Post.up g2 p4);cases (show some u=some t' from e');exact w'⟩
  |true=>rw[if_pos rfl]at p2 |-;obtain⟨t',e',w'⟩:=dw r1 (show Post _ _ ρ1 H1 _ (ask (λh=>cB h (.bl true)) h1) from p2);cases (show some true=some t' from e');exact w'
theorem Mt(ha:cu Φ a):cu Φ (.not a):=by
 intro Γ k X cl EX e c h
 (conv at h=>lhs;whnf);split at h<;>first|cases h|skip
 rename_i l pos;refine⟨(KY (ha Γ k X cl EX l c h).1).imp λσ H Q ⟨ρ,env,h,hE,r,p⟩=>?_,(KU (ha Γ k X cl EX l c h).2).imp λσ H Q ⟨ρ,env,h,hE,r,p⟩=>?_⟩
 ·simp only[aJ]at p;refine⟨ρ,env,h,hE,r,av p λv h1 ρ1 x H1 g1 r1 q1 p1=>?_⟩;obtain⟨t,rfl,p2⟩:=post_bool p1;rw[VR]at q1;exact⟨t,q1,ai r1 p2 _ VR.bl⟩
 ·simp only[Mi,aJ,bh]at p;refine⟨ρ,env,h,hE,r,oh p λv h1 p1=>?_⟩;obtain⟨t,rfl,p2⟩:=post_bool p1;refine⟨t,rfl,λρ1 H1 g1 r1=>?_⟩;obtain⟨t',e',w'⟩:=dw r1 (show Post _ _ ρ1 H1 _ (ask (λh=>cB h (.bl (!t))) h1) from Post.up g1 p2);cases (show some (!t)=some t' from e');exact w'
theorem Mv(ht:cu Φ t)(ha:cu Φ a)(hb:cu Φ b):cu Φ (.ite t a b):=n9 λ_ _=>rfl
theorem Mw(hs:kH Φ es):cu Φ (.tup es):=by
 intro Γ k X cl EX e c h
 (conv at h=>lhs;whnf);split at h<;>first|cases h|skip
 rename_i ls x1 pos;have q:PE X (.Tuple ls x1 pos) (tV Φ (bd X cl) EX (.tup es)):=by refine(Lm (hs.1 Γ k X cl EX ls c h)).imp λσ H Q aI=>?_;obtain⟨ρ,env,h,hE,r,p⟩:=aI;simp only[aJ]at p;refine⟨ρ,env,h,hE,r,bD p λvs h1 ρ1 H1 g1 r1 p1 xs q1=>?_⟩;obtain⟨e1,p2⟩:=aK p1;exact⟨by rw[<-q1.length];exact of_decide_eq_true e1,λq hq=>qT r1 hq q1 p2⟩
 exact⟨q,cT q λ_=>rfl⟩
theorem Mx(hs:kH Φ es):cu Φ (.lst es):=by
 intro Γ k X cl EX e c h
 (conv at h=>lhs;whnf);split at h<;>first|cases h|skip
 rename_i ls pos;have q:PE X (.List ls pos) (tV Φ (bd X cl) EX (.lst es)):=by refine(Lo (hs.1 Γ k X cl EX ls c h)).imp λσ H Q aI=>?_;obtain⟨ρ,env,h,hE,r,p⟩:=aI;simp only[aJ]at p;refine⟨ρ,env,h,hE,r,bD p λvs h1 ρ1 H1 g1 r1 p1 xs q1=>?_⟩;obtain⟨e1,p2⟩:=aK p1;exact⟨by rw[<-q1.length];exact of_decide_eq_true e1,λq hq=>cM r1 hq q1 p2⟩
 exact⟨q,cT q λ_=>rfl⟩
theorem HY:cu Φ .dct0:=by
 intro Γ k X cl EX e c h
 (conv at h=>lhs;whnf);split at h<;>first|cases h|skip
 rename_i pos;have q:PE X (.Dict [] [] pos) (tV Φ (bd X cl) EX .dct0):=by refine(Df (X:=X) (pos:=pos)).imp λσ H Q aI=>?_;obtain⟨ρ,env,h,hE,r,p⟩:=aI;simp only[aJ]at p;exact λa ha=>wW (o:=.dct []) (O:=.dK []) r ha ⟨[],aO,(by rw[gS])⟩ p
 exact⟨q,cT q λ_=>rfl⟩
theorem My(ha:cu Φ a)(hb:cu Φ b):cu Φ (.idx a b):=by
 intro Γ k X cl EX e c h
 (conv at h=>lhs;whnf);split at h<;>first|cases h|skip
 rename_i l r pos;simp only[and_eq_true]at h;have q:PE X (.Subscript l r pos) (tV Φ (bd X cl) EX (.idx a b)):=by refine(Px (LW (cl:=cl) c.units) (ha Γ k X cl EX l c h.1.2).1 (hb Γ k X cl EX r c h.2).1 (zk h.1.1)).imp λσ H Q aI=>?_;obtain⟨ρ,env,h,hE,r,p⟩:=aI;simp only[aJ]at p;refine⟨ρ,env,h,hE,r,av p λv h1 ρ1 x H1 g1 r1 q1 p1=>⟨ρ1,env,h1,hE.up g1,r1,av p1 λw h2 ρ2 y H2 g2 r2 q2 p2=>?_⟩⟩;obtain⟨z,e,w'⟩:=dw r2 p2;exact⟨ρ2,h2,v,w,z,r2,VR.up g2 _ _ q1,q2,e,w'⟩
 exact⟨q,cT q λ_=>rfl⟩
noncomputable def Qg(Φ:Fn)(ir:IE)(env:Env):M (Option Int):=if dQ ir=true then ret none else bnd (aJ Φ ir env) λv=>bnd (bH (jZ v)) λi=>ret (some i)
noncomputable def tP(Φ:Fn)(B:Bd)(EX:Nat->List V->Hp->Prop)(ir:IE):TO:=λσ H Q=>∃ρ env h,cW B.K ρ env σ H/\HR B ρ h H/\Post B EX ρ H (λo _ _ H'=>Q o H') (Qg Φ ir env h)
theorem uq{i:Int}(h:jZ d=some i):d=.int i:=by cases d<;>cases h;rfl
theorem Ak(hi:cu Φ ir)(c:Ctx Φ Γ k X cl EX)(h:(match o with|none=>dQ ir|some e=>!dQ ir&&bK Γ ir e)=true):PO X o (tP Φ (bd X cl) EX ir):=by
 cases o with
 |none=>refine GV.imp λσ H Q aI=>?_;obtain⟨ρ,env,h',hE,r,p⟩:=aI;unfold Qg at p;rw[if_pos h]at p;exact ai r p
 |some e=>simp only[and_eq_true,not_eq_true']at h;refine(GW (hi Γ k X cl EX e c h.2).1).imp λσ H Q aI=>?_;obtain⟨ρ,env,h',hE,r,p⟩:=aI;unfold Qg at p;rw[if_neg (by rw[h.1];exact Bool.false_ne_true)]at p;refine⟨ρ,env,h',hE,r,av p λv h1 ρ1 x H1 g1 r1 q1 p1=>?_⟩;obtain⟨i,e1,p2⟩:=bM p1;cases uq e1;rw[VR]at q1;exact⟨i,q1,ai r1 p2⟩
theorem Mz{a lo hi:IE}(ha:cu Φ a)(hl:cu Φ lo)(hh:cu Φ hi):cu Φ (.slc a lo hi):=by
 intro Γ k X cl EX e c h
 (conv at h=>lhs;whnf);split at h<;>first|cases h|skip
 rename_i l l' h' p2 pos;simp only[and_eq_true]at h;have q:PE X (.Subscript l (.Slice l' h' none p2) pos) (tV Φ (bd X cl) EX (.slc a lo hi)):=by refine(CY (LX (cl:=cl) (EX:=EX)) (ha Γ k X cl EX l c h.1.1).1 (Ak hl c h.1.2) (Ak hh c h.2)).imp λσ H Q aI=>?_;obtain⟨ρ,env,h,hE,r,p⟩:=aI;simp only[aJ]at p;refine⟨ρ,env,h,hE,r,av p λv h1 ρ1 x H1 g1 r1 q1 p1=>⟨ρ1,env,h1,hE.up g1,r1,bD (m:=Qg Φ lo env) p1 λlo' h2 ρ2 H2 g2 r2 p3=>⟨ρ2,env,h2,(hE.up g1).up g2,r2,bD (m:=Qg Φ hi env) p3 λhi' h3 ρ3 H3 g3 r3 p4=>?_⟩⟩⟩;exact⟨ρ3,h3,v,r3,VR.up (g2.trans g3) _ _ q1,p4⟩
 exact⟨q,cT q λ_=>rfl⟩
theorem MA(ha:cu Φ a)(hs:cu Φ sx):cu Φ (.rev a sx):=n9 λ_ _=>rfl
theorem ju:∀{fh:o7} {ls:List Expr} {vs:List Val} {h h':Hs},aN Γ fh ls=true->bz Φ fh env h=.ok vs h'->vs.length=ls.length:=by
 intro fh
 induction fh using o7.rec (motive_1:=λ_=>True) with
 |nil=>
  intro ls ds h h' a b;rw[aN]at a;simp only[bz,ret]at b;cases b;cases ls with
  |nil=>rfl
  |cons _ _=>cases a
 |cons e es _ ih=>
  intro ls ds h h' a b;rw[aN.eq_def]at a;dsimp only at a;cases ls with
  |nil=>cases a
  |cons l ls=>
   simp only[and_eq_true]at a;simp only[bz,bnd]at b;cases e1:aJ Φ e env h with
   |ok v h1=>
    rw[e1]at b;dsimp only at b;cases e2:bz Φ es env h1 with
    |ok vs h2=>rw[e2]at b;cases b;simp[ih a.2 e2]
    |exc _ _ _=>rw[e2]at b;cases b
    |no=>rw[e2]at b;cases b
   |exc _ _ _=>rw[e1]at b;cases b
   |no=>rw[e1]at b;cases b
 |_=>trivial
theorem eW{α β:Type}{W:β -> Hs->List Addr->Hp->Prop}{W':α -> Hs->List Addr->Hp->Prop}{m:M α}{f:α -> M β}(p:Post B EX ρ H W (bnd m f h))(k:∀v h1 ρ1 H1,m h=.ok v h1->Gr ρ H ρ1 H1->HR B ρ1 h1 H1->Post B EX ρ1 H1 W (f v h1)->W' v h1 ρ1 H1):Post B EX ρ H W' (m h):=by
 unfold bnd at p;cases e:m h with
 |ok v h1=>rw[e]at p;exact λρ1 H1 g r=>k v h1 ρ1 H1 e g r (Post.up g p)
 |exc c vs h1=>rw[e]at p;exact p
 |no=>rw[e]at p;exact p
theorem eF{α:Type}{h:Hs}{W:α -> Hs->List Addr->Hp->Prop}{o:Out α}(n:∀c xs H,¬ EX c xs H)(p:Post B EX ρ H W o):Post B (λ_ _ _=>False) ρ H W o:=by
 cases o with
 |ok a h'=>exact p
 |exc c vs h'=>exact λρ' H' xs g r q=>n _ _ _ (p ρ' H' xs g r q)
 |no=>exact p
theorem Am{n c:Nat}{φ0:List Val->M Val}(r:HR B ρ h H)(hv:aC B.K ρ H vs xs)(hl:vs.length=n)(p:Post B (λ_ _ _=>False) ρ H (WV B.K Q) (DM c φ0 vs h))
  (nx:H x=none) (nd:H dx=none) (ne:dx≠x):ve B (n+1) φ0 (.ref x::xs) (upd (upd H dx (.own x)) x (.ins (B.cl c) dx [])) (λv H2=>v=.non/\Q (.ref x) H2) E:=by
 have r1:HR B ρ h (upd H dx (.own x)):=r.side nd;have YO:(upd H dx (.own x)) x=none:=by rw[ao λz=>ne z.symm];exact nx
 have g:Gr ρ H (ρ ++ [x]) (upd (upd H dx (.own x)) x (.ins (B.cl c) dx [])):=(Gr.side nd).trans (Gr.new YO);have r2:HR B (ρ ++ [x]) (h++[.ins c []]) (upd (upd H dx (.own x)) x (.ins (B.cl c) dx [])):=r1.new YO ⟨dx,[],aO,rfl⟩;have hx:(ρ ++ [x])[h.length]?=some x:=by rw[<-r.len];simp
 refine⟨ρ ++ [x],h++[.ins c []],.ref h.length::vs,by simp[hl],r2,aC.cons (VR.ref hx) (aC.up g _ _ hv),?_⟩;have p2:Post B (λ_ _ _=>False) (ρ ++ [x]) (upd (upd H dx (.own x)) x (.ins (B.cl c) dx [])) (WV B.K Q) (bnd (φ0 (.ref h.length::vs)) (λr=>match r with|.non=>ret (.ref h.length)|_=>bH none) (h++[.ins c []])):=Post.up g p;refine bD p2 λv h1 ρ1 H1 g1 r3 p3 y hy=>?_;cases v<;>first|exact p3.elim|skip
 rw[VR]at hy;exact⟨hy,ai r3 p3 _ (VR.ref (qa g1.pre hx))⟩
theorem HZ{j:Nat}{k:Nat}(hs:kH Φ es)(c:Ctx Φ Γ k X cl EX)
  (h:(zh Γ.sc x && Γ.fns[j]?==some (x,args.length)&&decide (args.length<1000)&&aN Γ es args)=true):PE X (.Call (.Name x p) args [] pos) (tV Φ (bd X cl) EX (.call j es))/\PT X (.Call (.Name x p) args [] pos) (tT Φ (bd X cl) EX (.call j es)):=by
 simp only[and_eq_true,beq_iff_eq,decide_eq_true_eq]at h;obtain⟨⟨⟨h1,h2⟩,h3⟩,h4⟩:=h;obtain⟨g1,g2,g3⟩:=c.gl h1;have room:dP k X.A:=c.room.mono (le_succ k);have q:PE X (.Call (.Name x p) args [] pos) (tV Φ (bd X cl) EX (.call j es)):=by
  rcases c.fns j x _ h2 with ⟨_,⟨f,fd,ps,f1,f2,f3,f4,f5⟩|⟨cc,f,fd,ps,φ0,f0,f1,f2,f3,f4,f5⟩⟩|⟨z,_⟩
  ·cases args with
   |nil=>
    cases es with
    |cons i fh=>rw[aN.eq_def]at h4;cases h4
    |nil=>refine(CU f5 room g1 f2 f3 f4 .nil qB g2).imp λσ H Q aI=>?_;obtain⟨ρ,env,h,hE,r,p⟩:=aI;simp only[aJ,bz,cX]at p;exact⟨ρ,h,[],rfl,r,aC.nil,eF (h:=h) c.mq p⟩
   |cons l ls=>
    cases es with
    |nil=>rw[aN]at h4;cases h4
    |cons i fh=>have h5:=h4;rw[aN.eq_def]at h5;dsimp only at h5;simp only[and_eq_true]at h5;refine(GQ f5 room g1 f2 f3 f4 .nil qB (hs.1 Γ k X cl EX _ c h4) g2 (bq h5.1.1) (gq h5.2)).imp λσ H Q aI=>?_;obtain⟨ρ,env,h,hE,r,p⟩:=aI;simp only[aJ]at p;refine⟨ρ,env,h,hE,r,eW p λvs h1 ρ1 H1 e1 g1 r1 p1 xs q1=>⟨ρ1,h1,vs,ju h4 e1,r1,by rw[append_nil];exact q1,eF (h:=h1) c.mq p1⟩⟩
  ·cases args with
   |nil=>
    cases es with
    |cons i fh=>rw[aN.eq_def]at h4;cases h4
    |nil=>refine(CV f3 f5 c.room g1 f2 f4 .nil qB g2).imp λσ H Q aI=>?_;obtain⟨ρ,env,h,hE,r,p⟩:=aI;simp only[aJ,bz,cX]at p;intro y dy ny UN UO;rw[f0]at p;exact Am (B:=bd X cl) r aC.nil rfl (eF (h:=h) c.mq p) ny UN UO
   |cons l ls=>
    cases es with
    |nil=>rw[aN]at h4;cases h4
    |cons i fh=>have h5:=h4;rw[aN.eq_def]at h5;dsimp only at h5;simp only[and_eq_true]at h5;refine(GR f3 f5 c.room g1 f2 f4 .nil qB (hs.1 Γ k X cl EX _ c h4) g2 (bq h5.1.1) (gq h5.2)).imp λσ H Q aI=>?_;obtain⟨ρ,env,h,hE,r,p⟩:=aI;simp only[aJ]at p;refine⟨ρ,env,h,hE,r,eW p λvs h1 ρ1 H1 e1 g1 r1 p1 xs q1 y dy ny UN UO=>?_⟩;rw[f0]at p1;rw[append_nil];exact Am (B:=bd X cl) r1 q1 (ju h4 e1) (eF (h:=h1) c.mq p1) ny UN UO
  ·omega
 exact⟨q,cT q λ_=>rfl⟩
theorem Ia{j:Nat}{k:Nat}(hs:kH Φ es)(c:Ctx Φ Γ k X cl EX)
  (h:(zh Γ.sc x && Γ.tb.Gm.contains (x,m,j)&&(match Γ.fns[j]? with|some (_,n)=>n==1000+args.length|none=>false)&&decide (args.length<29)&&ap.endLine==cp.line&&aN Γ es args && !args.isEmpty)=true) :
  PE X (.Call (.Attribute (.Name x p) m ap) args [] cp) (tV Φ (bd X cl) EX (.call j es))/\PT X (.Call (.Attribute (.Name x p) m ap) args [] cp) (tT Φ (bd X cl) EX (.call j es)):=by
 simp only[and_eq_true,beq_iff_eq,decide_eq_true_eq,contains_iff_mem]at h;obtain⟨⟨⟨⟨⟨⟨h1,h2⟩,h3⟩,h4⟩,h5⟩,h6⟩,h7⟩:=h;obtain⟨g1,g2,g3⟩:=c.gl h1;obtain⟨C,hm,cm⟩:=c.Gm _ h2;have hf:∃xx,Γ.fns[j]?=some (xx,1000+args.length):=by
  cases ef:Γ.fns[j]? with
  |none=>rw[ef]at h3;cases h3
  |some q=>rw[ef]at h3;obtain⟨q1,q2⟩:=q;exact⟨q1,by rw[show q2=_ from eq_of_beq h3]⟩
 obtain⟨xx,hf⟩:=hf;have room:dP k X.A:=c.room.mono (le_succ k)
 rcases c.fns j xx _ hf with ⟨z,_⟩|⟨_,fd,ps,f1,f4,f5⟩
 ·omega
 rw[show 1000+args.length-1000=args.length by omega]at f5;have few:((backTo cp (starEach args X.env)).all (λx=>!x.1)&&(backToKw cp (keywordEach [] X.env)).all (λx=>x.1.isSome)
   && decide (args.length+([]:List Keyword).length+(if ([]:List Keyword).isEmpty then 0 else 1)<30))=true:=by
  rw[qW h6];simp only[Bool.true_and,and_eq_true];exact⟨rfl,decide_eq_true (by simp;omega)⟩
 have hl:(ap.endLine==cp.line)=true:=by rw[h5];exact beq_self_eq_true _
 have q:PE X (.Call (.Attribute (.Name x p) m ap) args [] cp) (tV Φ (bd X cl) EX (.call j es)):=by
  cases args with
  |nil=>exact absurd h7 (by simp)
  |cons l ls=>
   cases es with
   |nil=>rw[aN]at h6;cases h6
   |cons i fh=>have h8:=h6;rw[aN.eq_def]at h8;dsimp only at h8;simp only[and_eq_true]at h8;refine(LO (k:=k) f5 room g1 hm cm f4 (hs.1 Γ k X cl EX _ c h6) g2 few hl (bq h8.1.1) (gq h8.2)).imp λσ H Q aI=>?_;obtain⟨ρ,env,h,hE,r,p⟩:=aI;simp only[aJ]at p;refine⟨ρ,env,h,hE,r,eW p λvs h1 ρ1 H1 e1 g1 r1 p1 xs q1=>⟨ρ1,h1,vs,ju h6 e1,r1,q1,eF (h:=h1) c.mq p1⟩⟩
 exact⟨q,cT q λ_=>rfl⟩
theorem Ib{j:Nat}(hs:kH Φ es):cu Φ (.call j es):=by
 intro Γ k X cl EX e c h
 (conv at h=>lhs;whnf);split at h<;>first|cases h|skip
 ·exact HZ hs c h
 ·exact Ia hs c h
theorem MB{n:Nat}(ha:cu Φ a):cu Φ (.fld n a x):=by
 intro Γ k X cl EX e c h
 (conv at h=>lhs;whnf);split at h<;>first|cases h|skip
 rename_i o y pos;simp only[and_eq_true,beq_iff_eq,contains_iff_mem]at h;obtain⟨⟨⟨⟨h1,h2⟩,h3⟩,h4⟩,h5⟩:=h;subst h1;have q:PE X (.Attribute o x pos) (tV Φ (bd X cl) EX (.fld n a x)):=by
  refine(pe_fld (ha Γ k X cl EX o c h5).1 (super_ok h2)).imp λσ H Q aI=>?_;obtain⟨ρ,env,h,hE,r,p⟩:=aI;simp only[aJ]at p;refine⟨ρ,env,h,hE,r,av p λv h1 ρ1 y H1 g1 r1 q1 p1=>?_⟩;obtain⟨z,e1,w⟩:=dw r1 p1;cases v<;>first|(cases e1;done)|(rw[VR]at q1;exact q1.elim)|skip
  rename_i i;rw[VR]at q1;obtain⟨ad,rfl,q1⟩:=q1;have hx:∃c0 fs,h1[i]?=some (.ins c0 fs)/\c0<n/\fs.lookup x=some z:=by
   change (match h1[i]? with|some (.ins c fs)=>if c<n then fs.lookup x else none|_=>none)=some z at e1;split at e1
   ·rename_i c0 fs e2
    split at e1
    ·rename_i hc;exact⟨c0,fs,e2,hc,e1⟩
    ·cases e1
   ·cases e1
  obtain⟨c0,fs,e2,hc,e3⟩:=hx;obtain⟨dx,gs,k1,k2⟩:=r1.ob i _ ad e2 q1;obtain⟨y,l1,l2⟩:=k2.look.2 z e3;obtain⟨cc,nn⟩:=c.cls c0 (by omega);exact⟨ad,cl c0,dx,gs,y,rfl,k1,cc,nn x h4,l1,w y l2⟩
 exact⟨q,cT q λ_=>rfl⟩
theorem xh:∀{js:List (Nat×Nat)} {c j:Nat},js.lookup c=some j->(c,j)∈js
 | (a,b)::r,c,j,e=>by
  rw[lookup_cons]at e;cases hb:c==a with
  |true=>rw[hb]at e;cases e;rw[eq_of_beq hb];exact mem_cons_self
  |false=>rw[hb]at e;exact mem_cons_of_mem _ (xh e)
theorem MC(ha:cu Φ a)(hs:kH Φ es):cu Φ (.mth a m js es):=by
 intro Γ k X cl EX e c h
 (conv at h=>lhs;whnf);split at h<;>first|cases h|skip
 rename_i o x ap args cp;simp only[and_eq_true,beq_iff_eq,all_eq_true,decide_eq_true_eq,contains_iff_mem]at h;obtain⟨⟨⟨⟨⟨⟨h1,h2⟩,h3⟩,h4⟩,h5⟩,h6⟩,h7⟩:=h;subst h1;have few:((backTo cp (starEach args X.env)).all (λx=>!x.1)&&(backToKw cp (keywordEach [] X.env)).all (λx=>x.1.isSome)
   && decide (args.length+([]:List Keyword).length+(if ([]:List Keyword).isEmpty then 0 else 1)<30))=true:=by
  rw[qW h7];simp only[Bool.true_and,and_eq_true];exact⟨rfl,decide_eq_true (by simp;omega)⟩
 have hl:(ap.endLine==cp.line)=true:=by rw[h4];exact beq_self_eq_true _
 have room:dP k X.A:=c.room.mono (le_succ k);have main:∀(σ:L2.St) (H:Hp) (Q:VK) (v:Val) (h1:Hs) (ρ1:List Addr) (y:V) (H1:Hp) (F:Nat->M Val),HR (bd X cl) ρ1 h1 H1->VR X.K ρ1 H1 v y->Post (bd X cl) EX ρ1 H1 (WV X.K Q) (bnd (ask λh=>lJ h v x js) F h1) ->
   ∃j i ad c0 dx gs fd ps,v=.ref i/\y=.ref ad/\H1 ad=some (.ins (cl c0) dx gs)/\Cu X.K (cl c0)/\Meth X.K (cl c0) x (cl (1000+j))/\gs.lookup x=none/\Binds X.K fd ps [] /\
    fU X.prog X.w X.K X.mg X.base yr k (cl (1000+j)) fd ps (ve (bd X cl) (1+args.length) (Φ j))/\Post (bd X cl) EX ρ1 H1 (WV X.K Q) (F j h1):=by
  intro σ H Q v h1 ρ1 y H1 F r1 q1 p1;obtain⟨j,e1,p2⟩:=aD p1;cases v<;>first|(cases e1;done)|(rw[VR]at q1;exact q1.elim)|skip
  rename_i i;rw[VR]at q1;obtain⟨ad,rfl,q1⟩:=q1;have hx:∃c0 fs,h1[i]?=some (.ins c0 fs)/\fs.lookup x=none/\js.lookup c0=some j:=by
   change (match h1[i]? with|some (.ins c fs)=>if (fs.lookup x).isNone=true then js.lookup c else none|_=>none)=some j at e1;split at e1
   ·rename_i c0 fs e2
    split at e1
    ·rename_i hc;exact⟨c0,fs,e2,by simpa using hc,e1⟩
    ·cases e1
   ·cases e1
  obtain⟨c0,fs,e2,hn,e3⟩:=hx;obtain⟨dx,gs,k1,k2⟩:=r1.ob i _ ad e2 q1;obtain⟨⟨m1,m2⟩,m3⟩:=h5 _ (xh e3);dsimp only at m1 m2 m3;have cc:=(c.cls c0 m1).1;have mm:=c.HV _ m2;dsimp only at mm;have hf:∃xx,Γ.fns[j]?=some (xx,1001+args.length):=by
   cases ef:Γ.fns[j]? with
   |none=>rw[ef]at m3;cases m3
   |some q=>rw[ef]at m3;obtain⟨q1,q2⟩:=q;exact⟨q1,by rw[show q2=_ from eq_of_beq m3]⟩
  obtain⟨xx,hf⟩:=hf
  rcases c.fns j xx _ hf with ⟨z,_⟩|⟨_,fd,ps,f1,f4,f5⟩
  ·omega
  ·rw[show 1001+args.length-1000=1+args.length by omega]at f5;exact⟨j,i,ad,c0,dx,gs,fd,ps,rfl,rfl,k1,cc,mm,k2.look.1 hn,f4,f5,p2⟩
 have q:PE X (.Call (.Attribute o x ap) args [] cp) (tV Φ (bd X cl) EX (.mth a x js es)):=by
  cases args with
  |nil=>
   cases es with
   |cons i fh=>rw[aN.eq_def]at h7;cases h7
   |nil=>refine(pe_mth0 (k:=k) (ha Γ k X cl EX o c h6).1 (super_ok h2) hl room).imp λσ H Q aI=>?_;obtain⟨ρ,env,h,hE,r,p⟩:=aI;simp only[aJ,bz,cX]at p;refine⟨ρ,env,h,hE,r,av p λv h1 ρ1 y H1 g1 r1 q1 p1=>?_⟩;obtain⟨j,i,ad,c0,dx,gs,fd,ps,rfl,rfl,k1,cc,mm,k2,f4,f5,p2⟩:=main σ H Q v h1 ρ1 y H1 _ r1 q1 p1;exact⟨ad,cl c0,dx,gs,cl (1000+j),fd,ps,_,rfl,k1,cc,mm,k2,f4,f5,ρ1,h1,[.ref i],rfl,r1,aC.cons q1 aC.nil,eF (h:=h1) c.mq p2⟩
  |cons l ls=>
   cases es with
   |nil=>rw[aN]at h7;cases h7
   |cons i fh=>have h8:=h7;rw[aN.eq_def]at h8;dsimp only at h8;simp only[and_eq_true]at h8;refine(pe_mthD (k:=k) (ha Γ k X cl EX o c h6).1 (hs.1 Γ k X cl EX _ c h7) (super_ok h2) few hl room (bq h8.1.1) (gq h8.2)).imp λσ H Q aI=>?_;obtain⟨ρ,env,h,hE,r,p⟩:=aI;simp only[aJ]at p;refine⟨ρ,env,h,hE,r,av p λv h1 ρ1 y H1 g1 r1 q1 p1=>?_⟩;obtain⟨j,i,ad,c0,dx,gs,fd,ps,rfl,rfl,k1,cc,mm,k2,f4,f5,p2⟩:=main σ H Q v h1 ρ1 y H1 _ r1 q1 p1;refine⟨ad,cl c0,dx,gs,cl (1000+j),fd,ps,_,rfl,k1,cc,mm,k2,f4,f5,ρ1,env,h1,hE.up g1,r1,eW p2 λvs h2 ρ2 H2 e4 g2 r2 p3 xs q2=>?_⟩;refine⟨ρ2,h2,.ref i::vs,?_,r2,aC.cons (VR.up g2 _ _ q1) q2,eF (h:=h2) c.mq p3⟩;rw[length_cons,ju h7 e4];omega
 exact⟨q,cT q λ_=>rfl⟩
end
end Hv
end
section
namespace Hv
open PySem L2 PyProof.Rows
section
variable {Φ:Fn} {Γ:pR} {k:Nat} {X:Cx} {cl:Nat->Addr} {EX:Nat->List V->Hp->Prop}
theorem MD:bootBuiltins "all" = some (.builtin "all"):=by decide +kernel
theorem ME:bootBuiltins "any" = some (.builtin "any"):=by decide +kernel
theorem oj:bootBuiltins "sorted" = some (.builtin "sorted"):=by decide +kernel
theorem MF:bootBuiltins "min" = some (.builtin "min"):=by decide +kernel
theorem MG:bootBuiltins "max" = some (.builtin "max"):=by decide +kernel
theorem vf:bootBuiltins "list" = some (.type "list"):=by decide +kernel
theorem xj:bootBuiltins "tuple" = some (.type "tuple"):=by decide +kernel
theorem DU:bootBuiltins "str" = some (.type "str"):=by decide +kernel
theorem DV:bootBuiltins "int" = some (.type "int"):=by decide +kernel
theorem Ic:bootBuiltins "bool" = some (.type "bool"):=by decide +kernel
theorem Ie:bootBuiltins "dict" = some (.type "dict"):=by decide +kernel
theorem Ig:bootBuiltins "isinstance" = some (.builtin "isinstance"):=by decide +kernel
theorem xm:bz Φ (.cons e .nil) env=bnd (aJ Φ e env) λd=>ret [d]:=by
 simp only[bz,cX]
theorem six{T:String}(h:["list","tuple","str","bool","int","dict"].contains T=true):T = "list" \/ T = "tuple" \/ T = "str" \/ T = "bool" \/ T = "int" \/ T = "dict":=by simpa using h
theorem Ih{T:String}(h:["list","tuple","str","bool","int","dict"].contains T=true):(T:Str)∈iu/\bootBuiltins (T:Str)=some (.type T)/\(T:Str) ≠ "__name__" /\ ((T:Str)==("__debug__":Str))=false:=by
 rcases six h with rfl|rfl|rfl|rfl|rfl|rfl
 ·exact⟨by decide,vf,by decide,by decide⟩
 ·exact⟨by decide,xj,by decide,by decide⟩
 ·exact⟨by decide,DU,by decide,by decide⟩
 ·exact⟨by decide,Ic,by decide,by decide⟩
 ·exact⟨by decide,DV,by decide,by decide⟩
 ·exact⟨by decide,Ie,by decide,by decide⟩
theorem Ii{T:String}(hs:kH Φ es):cu Φ (.blt (.isin T) es):=by
 intro Γ k X cl EX e c h
 (conv at h=>lhs;whnf);split at h<;>first|cases h|skip
 rename_i x p args pos;simp only[and_eq_true,beq_iff_eq]at h;obtain⟨⟨h1,h2⟩,h3⟩:=h;subst h2;obtain⟨g1,g2,g3⟩:=c.gl h1;split at h3<;>first|cases h3|skip
 rename_i a y yp;simp only[and_eq_true,beq_iff_eq]at h3;obtain⟨⟨⟨k1,k2⟩,k3⟩,k4⟩:=h3;obtain⟨b1,b2,b3,b4⟩:=Ih k3;obtain⟨y1,y2,y3⟩:=c.gl k1;subst k2;cases es with
 |nil=>rw[aN]at k4;cases k4
 |cons i fh=>
  rw[aN.eq_def]at k4;dsimp only at k4;simp only[and_eq_true]at k4;cases fh with
  |cons j fh=>have:=k4.2;rw[aN.eq_def]at this;cases this
  |nil=>
   have q:PE X (.Call (.Name (Qd (.isin T)) p) [a,.Name (T:Str) yp] [] pos) (tV Φ (bd X cl) EX (.blt (.isin T) (.cons i .nil))):=by refine(gZ (HQ (cl:=cl) (EX:=EX) (T:=T)) g1 (c.blt _ (show ("isinstance":Str)∈iu by decide)) Ig (uL (hs.2.1 Γ k X cl EX a c k4.1.2).1 (uL (Gv (v:=.ty T) y1 (c.blt _ b1) b2 rfl b3 b4) CT) (bq k4.1.1)) g3 g2 (bq k4.1.1)).imp λσ H Q aI=>?_;obtain⟨ρ,env,h,hE,r,p⟩:=aI;simp only[aJ,xm,bh,cX]at p;exact⟨ρ,env,h,hE,r,av p λv h1 ρ1 x H1 g1 r1 q1 p1=>⟨ρ1,h1,v,x,rfl,r1,q1,p1⟩⟩
   exact⟨q,cT q λ_=>rfl⟩
theorem MH:bootBuiltins "set" = some (.type "set"):=by decide +kernel
theorem Ij(ha:cu Φ a):cu Φ (.sset a):=by
 intro Γ k X cl EX e c h
 (conv at h=>lhs;whnf);split at h<;>first|cases h|skip
 rename_i x p1 y p2 l pos2 pos1;simp only[and_eq_true,beq_iff_eq]at h;obtain⟨⟨⟨⟨⟨h1,h2⟩,h3⟩,h4⟩,h5⟩,h6⟩:=h;subst h1;subst h2;have q:PE X (.Call (.Name "sorted" p1) [.Call (.Name "set" p2) [l] [] pos2] [] pos1) (tV Φ (bd X cl) EX (.sset a)):=by have qe:=(ha Γ k X cl EX l c h6).1;intro pins s σ H Q I hh;have hd:X.A.handled=none:=I.ok.hd c.calm;refine((HD hd (c.gl h3).1 (c.blt _ (by decide)) (c.gl h4).1 (c.blt _ (by decide)) oj MH qe (bq (env:=X.env) (es:=[]) h5)).imp λσ H Q ⟨ρ,env,h,hE,r,p⟩=>?_) pins s σ H Q I hh;simp only[aJ]at p;refine⟨ρ,env,h,hE,r,av p λv h1 ρ1 x H1 g1 r1 q1 p1=>?_⟩;obtain⟨zs,e,p1⟩:=aD p1;obtain⟨ns,e1,p1⟩:=bM p1;obtain⟨e2,p1⟩:=aK p1;obtain⟨b,ys,rfl,q2,q3⟩:=fz r1 q1 e;rw[fZ e1]at q3;rw[aC.ints.mp q3]at q2;exact⟨b,ns,rfl,q2,of_decide_eq_true e2,λl hl=>cM r1 hl (aC.ints.mpr rfl) p1⟩
 exact⟨q,cT q λ_=>rfl⟩
theorem Il{d k x:IE}(hd:cu Φ d)(hk:cu Φ k)(hx:cu Φ x):cu Φ (.dget d k x):=by
 intro Γ n X cl EX e c h
 (conv at h=>lhs;whnf);split at h<;>first|cases h|skip
 rename_i o m ap a b cp;simp only[and_eq_true,beq_iff_eq]at h;obtain⟨⟨⟨⟨⟨⟨⟨h1,h2⟩,h3⟩,h4⟩,h5⟩,h6⟩,h7⟩,h8⟩:=h;subst h1;have st:starEach [a,b] X.env=[(false,eval a X.env),(false,eval b X.env)]:=by rw[bq h3,bq h4];rfl
 have m2:M2 X o "get" ap a b cp:=⟨super_ok h2,by rw[st];rfl,by rw[h5];exact beq_self_eq_true _,by rw[st];rfl⟩;have q:PE X (.Call (.Attribute o "get" ap) [a,b] [] cp) (tV Φ (bd X cl) EX (.dget d k x)):=by
  refine(Dh (by have:=c.units;omega) (hd Γ n X cl EX o c h6).1 (hk Γ n X cl EX a c h7).1 (hx Γ n X cl EX b c h8).1 m2).imp λσ H Q aI=>?_;obtain⟨ρ,env,h,hE,r,p⟩:=aI;simp only[aJ]at p;refine⟨ρ,env,h,hE,r,av p λv h1 ρ1 y H1 g1 r1 q1 p1=>?_⟩;obtain⟨u0,e1,pA⟩:=aD p1;clear p1;cases v<;>first|(cases e1;done)|(rw[VR]at q1;exact q1.elim)|skip
  rename_i i;rw[VR]at q1;obtain⟨ad,rfl,q1⟩:=q1;have hdc:∃kvs,h1[i]?=some (.dct kvs):=by
   change (match h1[i]? with|some (.dct _)=>some ()|_=>none)=some _ at e1;split at e1
   ·rename_i kvs e2;exact⟨kvs,e2⟩
   ·cases e1
  obtain⟨kvs,e2⟩:=hdc;obtain⟨ks,k1,k2⟩:=r1.ob i _ ad e2 q1;refine⟨ad,rfl,.inl ⟨ks,.inl k1⟩,ρ1,env,h1,hE.up g1,r1,av pA λw h2 ρ2 y2 H2 g2 r2 q2 p2=>?_⟩;obtain⟨kk,e3,p2⟩:=bM p2;refine⟨ρ2,env,h2,(hE.up g1).up g2,r2,av p2 λz h3 ρ3 y3 H3 g3 r3 q3 p3=>?_⟩;obtain⟨rr,e4,p3⟩:=aD p3;have q4:ρ3[i]?=some ad:=qa (g2.trans g3).pre q1;have hd3:∃kvs,h3[i]?=some (.dct kvs)/\rr=bZ kvs kk:=by
   change (match h3[i]? with|some (.dct kvs)=>some (bZ kvs kk)|_=>none)=some rr at e4;split at e4
   ·rename_i kvs e2;cases e4;exact⟨kvs,e2,rfl⟩
   ·cases e4
  obtain⟨UP,e5,rfl⟩:=hd3;obtain⟨ks3,k3,k4⟩:=r3.ob i _ ad e5 q4;have ek:y2=kV kk:=by
   cases w<;>first|(cases e3;done)|skip
   ·cases e3;rw[VR]at q2;exact q2
   ·cases e3;rw[VR]at q2;exact q2
  refine⟨iY ks3 kk,by rw[ek];exact lI.k k3,?_⟩;cases ev:bZ UP kk with
  |none=>rw[ev]at p3;rw[(gS.val kk k4).1 ev];exact ai r3 p3 _ q3
  |some z'=>obtain⟨t,e6,q6⟩:=(gS.val kk k4).2 z' ev;rw[ev]at p3;rw[e6];exact ai r3 p3 _ q6
 exact⟨q,cT q λ_=>rfl⟩
theorem An{K:PySem.W.Frag}{ρ:List Addr}{H:Hp}:∀{kvs:List (Key×Val)} {ks:List (Key×V)},gS K ρ H kvs ks->aC K ρ H ((kvs.map (·.1)).map BP) (ks.map λkv=>kV kv.1)
 |[],ks,q=>by rw[gS]at q;subst q;exact rfl
 | (k,v)::kvs,ks,q=>by
  rw[gS]at q;obtain⟨x,r,rfl,_,q⟩:=q;refine⟨kV k,_,rfl,?_,An q⟩;cases k with
  |inl i=>exact VR.int
  |inr s=>exact VR.str
theorem B4{kB:Unit}:∀(σ:L2.St) (H:Hp) (Q:VK),tV Φ (bd X cl) EX (.lkeys d) σ H Q->YJ (tV Φ (bd X cl) EX d) σ H Q:=λσ H Q ⟨ρ,env,h,hE,r,p⟩=>by
 simp only[aJ]at p;refine⟨ρ,env,h,hE,r,av p λv h1 ρ1 y H1 g1 r1 q1 p1=>?_⟩;obtain⟨UQ,e1,pA⟩:=aD p1;clear p1;cases v<;>first|(cases e1;done)|(rw[VR]at q1;exact q1.elim)|skip
 rename_i i;rw[VR]at q1;obtain⟨ad,rfl,q1⟩:=q1;have hdc:∃kvs,h1[i]?=some (.dct kvs)/\UQ=kvs.map (·.1):=by
  change (match h1[i]? with|some (.dct kvs)=>some (kvs.map (·.1))|_=>none)=some _ at e1;split at e1
  ·rename_i kvs e2;cases e1;exact⟨kvs,e2,rfl⟩
  ·cases e1
 obtain⟨kvs,e2,rfl⟩:=hdc;obtain⟨ks,k1,k2⟩:=r1.ob i _ ad e2 q1;exact⟨ad,ks,rfl,k1,λl hl=>cM r1 hl (An k2) pA⟩
theorem DW(hd:cu Φ d):cu Φ (.lkeys d):=by
 intro Γ n X cl EX e c h
 (conv at h=>lhs;whnf);split at h<;>first|cases h|skip
 ·rename_i x p y qp pos
  simp only[and_eq_true,beq_iff_eq]at h;obtain⟨⟨h1,h3⟩,h6⟩:=h;subst h1;have q:PE X (.Call (.Name "list" p) [.Name y qp] [] pos) (tV Φ (bd X cl) EX (.lkeys d)):=by have qe:=(hd Γ n X cl EX _ c h6).1;intro pins s σ H Q I hh;have hdl:X.A.handled=none:=I.ok.hd c.calm;exact((BL hdl (bq rfl) (c.gl h3).1 (c.blt _ (by decide)) vf qe).imp (B4 (kB:=()))) pins s σ H Q I hh
  exact⟨q,cT q λ_=>rfl⟩
theorem Im{d k x:IE}(hd:cu Φ d)(hk:cu Φ k)(hx:cu Φ x):cu Φ (.sdef d k x):=n9 λ_ _=>rfl
theorem vg{K:PySem.W.Frag}{ρ:List Addr}{H:Hp}:∀{kvs:List (Key×Val)} {ks:List (Key×V)},gS K ρ H kvs ks->ks.map (·.1)=kvs.map (·.1)
 |[],ks,q=>by rw[gS]at q;subst q;rfl
 | (k,v)::kvs,ks,q=>by
  rw[gS]at q;obtain⟨x,r,rfl,_,q⟩:=q;rw[map_cons,map_cons,vg q]
theorem vh:∀{ks:List Key} {ns:List Int},qO ks=some ns->ks=ns.map Sum.inl
 |[],ns,e=>by cases e;rfl
 | k::ks,ns,e=>by
  unfold qO at e;rw[cj]at e;obtain⟨i,e1,e⟩:=bind_eq_some_iff.mp e;obtain⟨r,e2,e⟩:=bind_eq_some_iff.mp e;cases e;cases k with
  |inl j=>cases e1;rw[vh e2];rfl
  |inr _=>cases e1
theorem B5{kB:Unit}:∀(σ:L2.St) (H:Hp) (Q:VK),tV Φ (bd X cl) EX (.skeys d) σ H Q->YK (tV Φ (bd X cl) EX d) σ H Q:=λσ H Q ⟨ρ,env,h,hE,r,p⟩=>by
 simp only[aJ]at p;refine⟨ρ,env,h,hE,r,av p λv h1 ρ1 y H1 g1 r1 q1 p1=>?_⟩;obtain⟨ns0,e1,pA⟩:=aD p1;clear p1;unfold kE at e1;obtain⟨UQ,e5,e6⟩:=bind_eq_some_iff.mp e1;clear e1;obtain⟨ns,e3,e4⟩:=bind_eq_some_iff.mp e6;clear e6;have e1:=e5;clear e5;cases v<;>first|(cases e1;done)|(rw[VR]at q1;exact q1.elim)|skip
 rename_i i;rw[VR]at q1;obtain⟨ad,rfl,q1⟩:=q1;have hdc:∃kvs,h1[i]?=some (.dct kvs)/\UQ=kvs.map (·.1):=by
  change (match h1[i]? with|some (.dct kvs)=>some (kvs.map (·.1))|_=>none)=some _ at e1;split at e1
  ·rename_i kvs e2;cases e1;exact⟨kvs,e2,rfl⟩
  ·cases e1
 obtain⟨kvs,e2,rfl⟩:=hdc;obtain⟨ks,k1,k2⟩:=r1.ob i _ ad e2 q1
 by_cases hl:ns.length<64
 ·rw[if_pos hl]at e4;cases e4;exact⟨ad,ks,ns,rfl,k1,(vg k2).trans (vh e3),hl,λl hl=>cM r1 hl (aC.ints.mpr rfl) pA⟩
 ·rw[if_neg hl]at e4;cases e4
theorem DX(hd:cu Φ d):cu Φ (.skeys d):=by
 intro Γ n X cl EX e c h
 (conv at h=>lhs;whnf);split at h<;>first|cases h|skip
 ·rename_i x p y qp pos
  simp only[and_eq_true,beq_iff_eq]at h;obtain⟨⟨h1,h3⟩,h6⟩:=h;subst h1;have q:PE X (.Call (.Name "sorted" p) [.Name y qp] [] pos) (tV Φ (bd X cl) EX (.skeys d)):=by have qe:=(hd Γ n X cl EX _ c h6).1;intro pins s σ H Q I hh;have hdl:X.A.handled=none:=I.ok.hd c.calm;exact((BN hdl (bq rfl) (c.gl h3).1 (c.blt _ (by decide)) oj qe).imp (B5 (kB:=()))) pins s σ H Q I hh
  exact⟨q,cT q λ_=>rfl⟩
theorem DY(hd:cu Φ d):cu Φ (.svals d):=n9 λ_ _=>rfl
theorem MI(hs:kH Φ es):cu Φ (.blt b es):=by
 cases b with
 |isin T=>exact Ii hs
 |_=>
  intro Γ k X cl EX e c h
  (conv at h=>lhs;whnf);split at h<;>first|cases h|skip
  rename_i x p args pos;simp only[and_eq_true,beq_iff_eq]at h;obtain⟨⟨h1,h2⟩,h3⟩:=h;subst h2;obtain⟨g1,g2,g3⟩:=c.gl h1;cases args with
  |nil=>cases h3.1
  |cons l ls=>
   cases es with
   |nil=>have:=h3.2;rw[aN]at this;cases this
   |cons i fh=>
    have h5:=h3.2;rw[aN.eq_def]at h5;dsimp only at h5;simp only[and_eq_true]at h5;have hA:=hs.1 Γ k X cl EX _ c h3.2;have st:=bq (env:=X.env) (es:=ls) h5.1.1;have an:=gq (pos:=pos) (env:=X.env) h5.2;refine(λq=>⟨q,cT q λ_=>rfl⟩) ?_
    first
     |refine(gZ (LY (cl:=cl) (EX:=EX)) g1 (c.blt _ (by decide)) PySem.boot_len hA g3 g2 st an).imp λσ H Q ⟨ρ,env,h,hE,r,p⟩=>?_
     |refine(gZ (LZ (cl:=cl) (EX:=EX) c.calm) g1 (c.blt _ (by decide)) MF hA g3 g2 st an).imp λσ H Q ⟨ρ,env,h,hE,r,p⟩=>?_
     |refine(gZ (Ma (cl:=cl) (EX:=EX) c.calm) g1 (c.blt _ (by decide)) MG hA g3 g2 st an).imp λσ H Q ⟨ρ,env,h,hE,r,p⟩=>?_
     |refine(gZ (BX (cl:=cl) (EX:=EX)) g1 (c.blt _ (by decide)) oj hA g3 g2 st an).imp λσ H Q ⟨ρ,env,h,hE,r,p⟩=>?_
     |refine(gZ (Mf (cl:=cl) (EX:=EX) c.calm) g1 (c.blt _ (by decide)) MD hA g3 g2 st an).imp λσ H Q ⟨ρ,env,h,hE,r,p⟩=>?_
     |refine(gZ (Mg (cl:=cl) (EX:=EX) c.calm) g1 (c.blt _ (by decide)) ME hA g3 g2 st an).imp λσ H Q ⟨ρ,env,h,hE,r,p⟩=>?_
     |refine(lq (HN (cl:=cl) (EX:=EX)) g1 (c.blt _ (by decide)) vf hA g3 g2 st an).imp λσ H Q ⟨ρ,env,h,hE,r,p⟩=>?_
     |refine(lq (DR (cl:=cl) (EX:=EX)) g1 (c.blt _ (by decide)) xj hA g3 g2 st an).imp λσ H Q ⟨ρ,env,h,hE,r,p⟩=>?_
     |refine(lq (Mb (cl:=cl) (EX:=EX)) g1 (c.blt _ (by decide)) DU hA g3 g2 st an).imp λσ H Q ⟨ρ,env,h,hE,r,p⟩=>?_
     |refine(lq (Mc (cl:=cl) (EX:=EX)) g1 (c.blt _ (by decide)) DV hA g3 g2 st an).imp λσ H Q ⟨ρ,env,h,hE,r,p⟩=>?_
    simp only[aJ]at p;exact⟨ρ,env,h,hE,r,bD p λvs h1 ρ1 H1 g1 r1 p1 xs q1=>⟨ρ1,h1,vs,r1,q1,p1⟩⟩
noncomputable def YQ:Me->String
 |.join=>"str" | .append=>"list" | .extend=>"list"
theorem Io(r:HR B ρ h H)(q:VR B.K ρ H v x)(e:recv h m v=some ()):Uj B.K (YQ m) x H:=by
 cases m<;>cases v<;>simp only[recv]at e<;>first|cases e|skip
 ·rw[VR]at q;subst q;rfl
 ·split at e
  ·rename_i xs e1;obtain⟨a,ys,rfl,q0,q1,q2⟩:=lz r q e1;exact .inl ⟨rfl,ys,.inl (.inl q1)⟩
  ·cases e
 ·split at e
  ·rename_i xs e1;obtain⟨a,ys,rfl,q0,q1,q2⟩:=lz r q e1;exact .inl ⟨rfl,ys,.inl (.inl q1)⟩
  ·cases e
theorem MJ(ha:cu Φ a)(hs:kH Φ es):cu Φ (.met m a es):=by
 intro Γ k X cl EX e c h
 (conv at h=>lhs;whnf);split at h<;>first|cases h|skip
 rename_i o x ap args cp;simp only[and_eq_true,beq_iff_eq]at h;obtain⟨⟨⟨⟨⟨⟨h1,h2⟩,h3⟩,h4⟩,h5⟩,h6⟩,h7⟩:=h;subst h1;cases args with
 |nil=>cases h3
 |cons l ls=>
  have hA:=hs.1 Γ k X cl EX _ c h7;have h8:noStar l=true/\∃fh,aN Γ fh ls=true:=by
   cases es with
   |nil=>rw[aN]at h7;cases h7
   |cons i fh=>rw[aN.eq_def]at h7;dsimp only at h7;simp only[and_eq_true]at h7;exact⟨h7.1.1,fh,h7.2⟩
  obtain⟨n1,fh,n2⟩:=h8;have st:=bq (env:=X.env) (es:=ls) n1;have an:=gq (pos:=cp) (env:=X.env) n2;have few:((backTo cp (starEach (l::ls) X.env)).all (λx=>!x.1)&&(backToKw cp (keywordEach [] X.env)).all (λx=>x.1.isSome)
   && decide ((l::ls).length+([]:List Keyword).length+(if ([]:List Keyword).isEmpty then 0 else 1)<30))=true:=by
   rw[qW h7];have:(l::ls).length<29:=of_decide_eq_true h4;simp only[Bool.true_and,and_eq_true];exact⟨rfl,decide_eq_true (by simp at this |-;omega)⟩
  have hl:(ap.endLine==cp.line)=true:=by rw[h5];exact beq_self_eq_true _
  refine(λq=>⟨q,cT q λ_=>rfl⟩) ?_;have fin:∀(T:String) (r:V->List V->Hp->VK->Prop),(∀x xs H Q,S0 (bd X cl) EX m x xs H Q->r x xs H Q)->T=YQ m->∀σ H Q,tV Φ (bd X cl) EX (.met m a es) σ H Q->Yu X.K T r (tV Φ (bd X cl) EX a) (YN Φ (bd X cl) EX es) σ H Q:=by rintro T rr hr rfl σ H Q ⟨ρ,env,h,hE,r,p⟩;simp only[aJ]at p;refine⟨ρ,env,h,hE,r,av p λv h1 ρ1 x H1 g1 r1 q1 p1=>?_⟩;obtain⟨_,e1,p2⟩:=aD p1;refine⟨Io r1 q1 e1,ρ1,env,h1,hE.up g1,r1,bD p2 λvs h2 ρ2 H2 g2 r2 p3 xs q2=>hr _ _ _ _ ⟨ρ2,h2,v,vs,r2,VR.up g2 _ _ q1,q2,p3⟩⟩
  cases m with
  |join=>exact(Dc PySem.F.plainAttrs_str PySem.F.slot_str_join PySem.F.type_str_join (HS (cl:=cl) (EX:=EX)) (ha Γ k X cl EX o c h6).1 hA (super_ok h2) few hl st an).imp (fin _ _ (λ_ _ _ _ z=>z) rfl)
  |append=>exact(Dc PySem.F.plainAttrs_list PySem.F.slot_list_append PySem.F.type_list_append (BY (cl:=cl) (EX:=EX)) (ha Γ k X cl EX o c h6).1 hA (super_ok h2) few hl st an).imp (fin _ _ (λ_ _ _ _ z=>z) rfl)
  |extend=>exact(Dc PySem.F.plainAttrs_list PySem.F.slot_list_extend PySem.F.type_list_extend (BZ (cl:=cl) (EX:=EX)) (ha Γ k X cl EX o c h6).1 hA (super_ok h2) few hl st an).imp (fin _ _ (λ_ _ _ _ z=>z) rfl)
end
end Hv
end
section
namespace Hv
open PySem L2 PyProof.Rows
theorem _root_.L2.PI.or(h:PI X tg iter t)(h':PI X tg iter t'):PI X tg iter (λσ H R=>t σ H R\/t' σ H R):=λpins s σ H R I hw=>hw.elim (h pins s σ H R I) (h' pins s σ H R I)
structure Walks (B:Bd) (src:Src) (J:It) (ρ1:List Addr) (H1:Hp):Prop where
 stop:∀{ρ h H i xs},Gw ρ1 H1 ρ H->HR B ρ h H->src.items h=some xs->xs.length<=i->J.stop i H
 go:∀{ρ h H i xs v},Gw ρ1 H1 ρ H->HR B ρ h H->src.items h=some xs->xs[i]?=some v->J.go i H
 yz:∀{ρ h H i xs v y H'},Gw ρ1 H1 ρ H->HR B ρ h H->src.items h=some xs->xs[i]?=some v->J.yz i H y H'->Gr ρ H ρ H'/\HR B ρ h H'/\VR B.K ρ H' v y
section
variable {B:Bd} {ρ1:List Addr} {H1:Hp} {a:Addr}
theorem B6(q:jK B.K H1 a xs)(e:aC B.K ρ1 H1 vs xs):Walks B (.fix vs) (TY B.K a) ρ1 H1 where
 stop:=λg r hi hl=>by
  cases hi;exact⟨xs,g.SX q,by rw[<-e.length];exact hl⟩
 go:=λg r hi hv=>by
  cases hi;obtain⟨x,k1,_⟩:=e.get hv;exact⟨xs,x,g.SX q,k1⟩
 yz:=λg r hi hv y=>by
  cases hi;obtain⟨rfl,y⟩:=y;obtain⟨x,k1,k2⟩:=e.get hv;have:=y xs (g.SX q);rw[k1]at this;cases this;exact⟨Gr.refl,r,VR.lK g _ _ k2⟩
theorem DZ(q:JW B.K H1 a xs)(e:aC B.K ρ1 H1 vs xs):Walks B (.fix vs) (SM B.K a) ρ1 H1 where
 stop:=λg r hi hl=>by
  cases hi;exact⟨xs,(g.LR q).sq,by rw[<-e.length];exact hl⟩
 go:=λg r hi hv=>by
  cases hi;obtain⟨x,k1,_⟩:=e.get hv;exact⟨xs,x,(g.LR q).sq,k1⟩
 yz:=λg r hi hv y=>by
  cases hi;obtain⟨rfl,y⟩:=y;obtain⟨x,k1,k2⟩:=e.get hv;have:=y xs (g.LR q).sq;rw[k1]at this;cases this;exact⟨Gr.refl,r,VR.lK g _ _ k2⟩
theorem lA{i:Nat}(q:ρ1[i]?=some a)(g:Gw ρ1 H1 ρ H)(r:HR B ρ h H)(hi:(Src.live i).items h=some xs):∃ys,gI B.K H a ys/\aC B.K ρ H xs ys:=by
 obtain⟨b,ys,e,k1,k2⟩:=fz r (VR.ref (qa g.pre q)) (show aE h (.ref i)=some xs from hi);cases e;exact⟨ys,k1,k2⟩
theorem zl{i:Nat}(q:ρ1[i]?=some a):Walks B (.live i) (SM B.K a) ρ1 H1 where
 stop:=λg r hi hl=>by
  obtain⟨ys,k1,k2⟩:=lA q g r hi;exact⟨ys,k1,by rw[<-k2.length];exact hl⟩
 go:=λg r hi hv=>by
  obtain⟨ys,k1,k2⟩:=lA q g r hi;obtain⟨x,k3,_⟩:=k2.get hv;exact⟨ys,x,k1,k3⟩
 yz:=λg r hi hv y=>by
  obtain⟨ys,k1,k2⟩:=lA q g r hi;obtain⟨rfl,y⟩:=y;obtain⟨x,k3,k4⟩:=k2.get hv;have:=y ys k1;rw[k3]at this;cases this;exact⟨Gr.refl,r,k4⟩
theorem jc(lo:Int)(n:Nat):(cz lo n).length=n:=by unfold cz;simp
theorem o8{lo:Int}{n:Nat}:Walks B (.fix (cz lo n)) (Pa lo n) ρ1 H1 where
 stop:=λg r hi hl=>by
  cases hi;rw[jc]at hl;exact hl
 go:=λg r hi hv=>by
  cases hi;have:=(List.getElem?_eq_some_iff.mp hv).1;rw[jc]at this;exact this
 yz:=λ{ρ h H i xs v y H'} g r hi hv y'=>by
  cases hi;obtain⟨rfl,rfl⟩:=y';have hl:=(List.getElem?_eq_some_iff.mp hv).1;rw[jc]at hl;have e:(cz lo n)[i]?=some (.int (lo+i)):=by unfold cz;simp[hl]
  rw[e]at hv;cases hv;exact⟨Gr.refl,r,VR.int⟩
theorem gT:∀(i:Nat) (ds:List Val),(cS i ds).length=ds.length
 |_,[]=>rfl
 |i,d::r=>by simp[cS,gT (i+1) r]
theorem ur:∀(k:Nat) (ds:List Val) (i:Nat) (d:Val),ds[i]?=some d->(cS k ds)[i]?=some (.tup [.int ((k+i:Nat):Int),d])
 |_,[],_,_,h=>by simp at h
 |k,e::r,0,d,h=>by simp at h;subst h;simp[cS]
 | k,e::r,i+1,d,h=>by
  have:=ur (k+1) r i d (by simpa using h);simp only[cS,List.getElem?_cons_succ];rw[this];have e1:k+1+i=k+(i+1):=by omega
  rw[e1]
theorem om{i:Nat}(e:(cS 0 ds)[i]?=some v):∃d,ds[i]?=some d/\v=.tup [.int (i:Int),d]:=by
 have hl:=(List.getElem?_eq_some_iff.mp e).1;rw[gT]at hl;have e1:=ur 0 ds i ds[i] (List.getElem?_eq_getElem hl);rw[e]at e1;cases e1;exact⟨ds[i],List.getElem?_eq_getElem hl,by rw[Nat.zero_add]⟩
theorem xq{i:Nat}(r:HR B ρ h H)(k1:gI B.K H a ys)(k2:aC B.K ρ H xs ys)(hv:(cS 0 xs)[i]?=some v)(hy:(PN B.K a).yz i H y H'):Gr ρ H ρ H'/\HR B ρ h H'/\VR B.K ρ H' v y:=by
 obtain⟨p,w,hn,rfl,rfl,hy⟩:=hy;obtain⟨d,e1,rfl⟩:=om hv;obtain⟨x,k3,k4⟩:=k2.get e1;have:=hy ys k1;rw[k3]at this;cases this;exact⟨Gr.side hn,r.side hn,VR.tup (jK.of aO) (aC.cons VR.int (aC.cons (VR.up (Gr.side hn) _ _ k4) aC.nil))⟩
theorem xr(q:JW B.K H1 a xs)(e:aC B.K ρ1 H1 vs xs):Walks B (.fix (cS 0 vs)) (PN B.K a) ρ1 H1 where
 stop:=λg r hi hl=>by
  cases hi;rw[gT]at hl;exact⟨xs,(g.LR q).sq,by rw[<-e.length];exact hl⟩
 go:=λg r hi hv=>by
  cases hi;obtain⟨d,e1,_⟩:=om hv;obtain⟨x,k1,_⟩:=e.get e1;exact⟨xs,x,(g.LR q).sq,k1⟩
 yz:=λg r hi hv y=>by
  cases hi;exact xq r (g.LR q).sq (aC.lK g _ _ e) hv y
theorem xu{i:Nat}(q:ρ1[i]?=some a):Walks B (.enum i) (PN B.K a) ρ1 H1 where
 stop:=λg r hi hl=>by
  obtain⟨zs,e1,rfl⟩:=map_eq_some_iff.mp hi;obtain⟨ys,k1,k2⟩:=lA q g r e1;rw[gT]at hl;exact⟨ys,k1,by rw[<-k2.length];exact hl⟩
 go:=λg r hi hv=>by
  obtain⟨zs,e1,rfl⟩:=map_eq_some_iff.mp hi;obtain⟨ys,k1,k2⟩:=lA q g r e1;obtain⟨d,e2,_⟩:=om hv;obtain⟨x,k3,_⟩:=k2.get e2;exact⟨ys,x,k1,k3⟩
 yz:=λg r hi hv y=>by
  obtain⟨zs,e1,rfl⟩:=map_eq_some_iff.mp hi;obtain⟨ys,k1,k2⟩:=lA q g r e1;exact xq r k1 k2 hv y
end
section
variable {Φ:Fn} {Γ:pR} {k:Nat} {X:Cx} {cl:Nat->Addr} {EX:Nat->List V->Hp->Prop}
noncomputable def OA(Φ:Fn)(ik:Ik)(it:o7)(env:Env):M Src:=bnd (bz Φ it env) λits=>bH (srcOf ik its)
noncomputable def tI(Φ:Fn)(B:Bd)(EX:Nat->List V->Hp->Prop)(ik:Ik)(it:o7):TI:=λσ H R=>∃ρ env h,cW B.K ρ env σ H/\HR B ρ h H /\
 Post B EX ρ H (λsrc h' ρ' H'=>(∃xs,src.items h'=some xs)/\∀J,Walks B src J ρ' H'->R J H') (OA Φ ik it env h)
theorem J2(hs:kH Φ it)(c:Ctx Φ Γ k X cl EX)(h:Ah Γ ik it iter=true)(ht:ik=.enum\/ik=.zip->∃es kk pos,tg=.Tuple es kk pos):PI X tg iter (tI Φ (bd X cl) EX ik it)/\∀x,foldedSetIterable iter X.env x=pure x:=by
 cases it with
 |nil=>rw[Ah]at h;cases h
 |cons e es=>
  (conv at h=>lhs;whnf)
  cases ik with
  |seq=>
   dsimp only at h;split at h<;>first|cases h|skip
   rename_i hs';simp only[and_eq_true]at h;have q:=(hs.2.1 Γ k X cl EX iter c h.2).1;refine⟨((GD q).or (K8 q)).imp λσ H R ⟨ρ,env,h,hE,r,p⟩=>?_,λx=>?_⟩
   ·simp only[OA,xm,bh,cX]at p
    have key:∀(Q:VK),(∀v h1 ρ1 x H1,aJ Φ e env h=.ok v h1->Gr ρ H ρ1 H1->HR (bd X cl) ρ1 h1 H1->VR X.K ρ1 H1 v x->Post (bd X cl) EX ρ1 H1 (λsrc h' ρ' H'=>(∃xs,src.items h'=some xs)/\∀J,Walks (bd X cl) src J ρ' H'->R J H') (bH (srcOf .seq [v]) h1)->Q x H1)->tV Φ (bd X cl) EX e σ H Q:=λQ kk=>
     ⟨ρ,env,h,hE,r,eW p λv h1 ρ1 H1 e1 g1 r1 p1 x q1=>kk v h1 ρ1 x H1 e1 g1 r1 q1 p1⟩
    cases ev:aJ Φ e env h with
    |ok v h1=>
     cases v with
     |tup vs=>refine .inr (key _ λv h1 ρ1 x H1 e1 g1 r1 q1 p1=>?_);rw[ev]at e1;cases e1;obtain⟨src,e2,w1,w2⟩:=cL r1 p1;cases e2;rw[VR]at q1;obtain⟨a,xs,rfl,k1,k2⟩:=q1;exact⟨a,rfl,⟨xs,k1⟩,w2 _ (B6 k1 k2)⟩
     |rl vs=>refine .inl (key _ λv h1 ρ1 x H1 e1 g1 r1 q1 p1=>?_);rw[ev]at e1;cases e1;obtain⟨src,e2,w1,w2⟩:=cL r1 p1;cases e2;rw[VR]at q1;obtain⟨a,xs,rfl,k1,k2⟩:=q1;exact⟨a,rfl,⟨xs,k1.sq⟩,w2 _ (DZ k1 k2)⟩
     |ref i=>refine .inl (key _ λv h1 ρ1 x H1 e1 g1 r1 q1 p1=>?_);rw[ev]at e1;cases e1;obtain⟨src,e2,⟨zs,w1⟩,w2⟩:=cL r1 p1;cases e2;have q0:=q1;rw[VR]at q1;obtain⟨a,rfl,k1⟩:=q1;obtain⟨b,ys,e3,k2,k3⟩:=fz r1 q0 (show aE h1 (.ref i)=some zs from w1);cases e3;exact⟨a,rfl,⟨ys,k2⟩,w2 _ (zl k1)⟩
     |_=>refine .inl (key _ λv h1 ρ1 x H1 e1 g1 r1 q1 p1=>?_);rw[ev]at e1;cases e1;obtain⟨src,e2,_⟩:=cL r1 p1;cases e2
    |exc _ _ _=>exact .inl (key _ λv h1 ρ1 x H1 e1=>by rw[ev]at e1;cases e1)
    |no=>exact .inl (key _ λv h1 ρ1 x H1 e1=>by rw[ev]at e1;cases e1)
   ·cases iter<;>first|rfl|(exact absurd h.1 Bool.false_ne_true)
  |range=>
   dsimp only at h;split at h<;>first|cases h|skip
   rename_i x xp a args pos;simp only[and_eq_true,beq_iff_eq]at h;obtain⟨⟨⟨⟨⟨h1,h2⟩,h3⟩,h4⟩,h5⟩,h6⟩:=h;subst h1;obtain⟨g1,g2,g3⟩:=c.gl h2;have hm:=c.blt _ (show ("range":Str)∈iu by decide);refine⟨?_,λx=>rfl⟩;have hA:=hs.1 Γ k X cl EX (a::args) c (by rw[aN.eq_def];simp[h3,h4,h5]);cases args with
   |nil=>
    cases es with
    |cons i fh=>rw[aN.eq_def]at h5;cases h5
    |nil=>
     refine(Bg g1 hm hA (bq h3)).imp λσ H R aI=>?_;obtain⟨ρ,env,h,hE,r,p⟩:=aI;refine⟨ρ,env,h,hE,r,eW p λvs h1 ρ1 H1 e1 YR r1 p1 xs q1=>?_⟩;obtain⟨src,e2,w1,w2⟩:=cL r1 p1
     match vs,e2 with
     |[.int n],e2=>
      change (if inR n=true then some (Src.fix (cz 0 n.toNat)) else none)=some src at e2;split at e2
      ·rename_i hn;cases e2;simp only[inR,and_eq_true,decide_eq_true_eq]at hn;obtain⟨x,rfl,hx⟩:=aC.one q1;rw[VR]at hx;subst hx;exact⟨n,rfl,hn.1,hn.2,w2 _ o8⟩
      ·cases e2
     |[.int _,.int _],e2=>have:=ju (Γ:=Γ) (ls:=[a]) (by rw[aN.eq_def];simp[h3,h4,aN]) e1;simp at this
   |cons b args=>
    cases args with
    |cons _ _=>have:=of_decide_eq_true h6;simp only[length_cons]at this;omega
    |nil=>
     have hb:noStar b=true:=by
      cases es with
      |nil=>rw[aN]at h5;cases h5
      |cons i fh=>rw[aN.eq_def]at h5;dsimp only at h5;simp only[and_eq_true]at h5;exact h5.1.1
     refine(Bh g1 hm hA (by rw[bq h3,bq hb];rfl) (by rw[bq hb];rfl)).imp λσ H R aI=>?_;obtain⟨ρ,env,h,hE,r,p⟩:=aI;refine⟨ρ,env,h,hE,r,eW p λvs h1 ρ1 H1 e1 YR r1 p1 xs q1=>?_⟩;obtain⟨src,e2,w1,w2⟩:=cL r1 p1
     match vs,e2 with
     |[.int _],e2=>have:=ju (Γ:=Γ) (ls:=[a,b]) (by rw[aN.eq_def];simp[h3,h4,h5]) e1;simp at this
     |[.int lo,.int hi],e2=>
      change (if (inR lo&&inR hi)=true then some (Src.fix (cz lo (hi-lo).toNat)) else none)=some src at e2;split at e2
      ·rename_i hn;cases e2;simp only[inR,and_eq_true,decide_eq_true_eq]at hn;obtain⟨x,y,rfl,hx,hy⟩:=aC.two q1;rw[VR]at hx;rw[VR]at hy;subst hx;subst hy;exact⟨lo,hi,rfl,⟨hn.1.1,hn.1.2,hn.2.1,hn.2.2⟩,w2 _ o8⟩
      ·cases e2
  |enum=>
   dsimp only at h;split at h<;>first|cases h|skip
   rename_i x xp a pos;simp only[and_eq_true,beq_iff_eq]at h;obtain⟨⟨⟨h1,h2⟩,h3⟩,h4⟩:=h;subst h1;obtain⟨g1,g2,g3⟩:=c.gl h2;have hm:=c.blt _ (show ("enumerate":Str)∈iu by decide);obtain⟨tes,tk,tp,rfl⟩:=ht (.inl rfl);refine⟨?_,λx=>rfl⟩;have hA:=hs.1 Γ k X cl EX [a] c (by rw[aN.eq_def];simp[h3,h4,aN]);refine(Hw g1 hm hA (bq h3)).imp λσ H R aI=>?_;obtain⟨ρ,env,h,hE,r,p⟩:=aI;refine⟨ρ,env,h,hE,r,eW p λvs h1 ρ1 H1 e1 YR r1 p1 xs q1=>?_⟩;obtain⟨src,e2,⟨zs,w1⟩,w2⟩:=cL r1 p1
   match vs,e2 with
   |[.rl ws],e2=>cases e2;obtain⟨x,rfl,hx⟩:=aC.one q1;rw[VR]at hx;obtain⟨b,ys,rfl,k1,k2⟩:=hx;exact⟨b,rfl,⟨ys,k1.sq⟩,w2 _ (xr k1 k2)⟩
   |[.ref i],e2=>cases e2;obtain⟨x,rfl,hx⟩:=aC.one q1;obtain⟨us,w3,_⟩:=map_eq_some_iff.mp w1;obtain⟨b,ys,rfl,k2,k3⟩:=fz r1 hx w3;rw[VR]at hx;obtain⟨b',e3,k1⟩:=hx;cases e3;exact⟨b,rfl,⟨ys,k2⟩,w2 _ (xu k1)⟩
  |zip=>cases h
end
end Hv
end
section
namespace Hv
open PySem L2 PyProof.Rows
section
variable {Φ:Fn} {Γ:pR} {k:Nat} {X:Cx} {cl:Nat->Addr} {EX:Nat->List V->Hp->Prop}
noncomputable def qX:List Nat->Oq
 |[]=>O7
 |i::is=>JO (oX i) (qX is)
noncomputable def B7(K:PySem.W.Frag):z9->TG
 |.one i=>oX i
 |.tup is=>O8 K is.length (qX is)
noncomputable def jd:List Nat->List V->L2.St->L2.St
 |i::is,v::vs,σ=>jd is vs (σ.set i (some v))
 |_,_,σ=>σ
theorem oq:∀{is:List Nat} {vs:List V} {σ:L2.St} {H:Hp} {Q:L2.St->Hp->Prop},vs.length=is.length->Q (jd is vs σ) H->qX is vs σ H Q
 |[],[],_,_,_,_,h=>⟨rfl,h⟩
 |i::is,v::vs,σ,H,Q,hl,h=>⟨v,vs,rfl,oq (by simpa using hl) h⟩
theorem uu(hnd:X.N.Nodup):∀{is:List Nat} {es:List Expr},es.length=is.length->(∀p∈is.zip es,∃x pos,p.2=.Name x pos/\X.N[p.1]?=some x/\X.env.scope.names.lookup x=some .local)->Ot X es (qX is)
 |[],[],_,_=>zP
 | i::is,e::es,hl,h=>by
  obtain⟨x,pos,rfl,h1,h2⟩:=h (i,e) (by simp);exact v7 (pY hnd h1 (.inl h2) (.inr h2)) (uu hnd (by simpa using hl) λp hp=>h p (by simp[hp]))
theorem iw:∀{es:List Expr},(∀e∈es,∃x pos,e=.Name x pos)->(assignEach es env).length=es.length/\(assignEach es env).findIdx? (·.1)=none
 |[],_=>⟨rfl,rfl⟩
 | e::es,h=>by
  obtain⟨x,pos,rfl⟩:=h e mem_cons_self;obtain⟨h1,h2⟩:=iw (env:=env) (es:=es) λe he=>h e (mem_cons_of_mem _ he);have e1:assignEach (Expr.Name x pos::es) env=(false,assign (Expr.Name x pos) env)::assignEach es env:=rfl;rw[e1];refine⟨by simp[h1],?_⟩;rw[List.findIdx?_cons,h2];rfl
theorem D3{i:Nat}(h:wZ Γ (.one i) tg=true):∃x p,tg=.Name x p:=by
 cases tg<;>first|exact⟨_,_,rfl⟩|exact absurd h Bool.false_ne_true
theorem xw{is:List Nat}(h:wZ Γ (.tup is) tg=true):∃es k p,tg=.Tuple es k p:=by
 cases tg<;>first|exact⟨_,_,_,rfl⟩|exact absurd h Bool.false_ne_true
theorem D4(c:Ctx Φ Γ k X cl EX)(hnd:X.N.Nodup)(h:wZ Γ pat tg=true):PG X tg (B7 X.K pat):=by
 cases pat with
 |one i=>obtain⟨x,xp,rfl⟩:=D3 h;simp only[wZ,and_eq_true,beq_iff_eq]at h;obtain⟨h1,h2⟩:=h;exact pY hnd (by rw[c.N];exact h1) (.inl (by rw[c.sc];exact h2)) (.inr (by rw[c.sc];exact h2))
 |tup is=>
  obtain⟨es,kk,pos,rfl⟩:=xw h
  ·
   simp only[wZ,and_eq_true,beq_iff_eq,all_eq_true]at h;obtain⟨h1,h2⟩:=h;have names:∀p∈is.zip es,∃x pos,p.2=.Name x pos/\X.N[p.1]?=some x/\X.env.scope.names.lookup x=some .local:=λp hp=>by
    have q:=h2 p hp;cases ep:p.2<;>rw[ep]at q<;>simp at q;rename_i x pos';exact⟨x,pos',rfl,by rw[c.N];exact q.1,by rw[c.sc];exact q.2⟩
   have all:∀e∈es,∃x pos,e=.Name x pos:=λe he=>by
    obtain⟨n,hn,rfl⟩:=getElem_of_mem he;have hm:(is[n]'(by omega),es[n])∈is.zip es:=List.mem_iff_getElem?.mpr ⟨n,by rw[List.getElem?_zip_eq_some];simp[hn]⟩;obtain⟨x,pos,q,_⟩:=names _ hm;exact⟨x,pos,q⟩
   obtain⟨l1,l2⟩:=iw (env:=X.env) all;exact CI c.calm (uu hnd h1 names) (by rw[l1,h1]) l2
noncomputable def xy(Γ:pR):z9->Expr->Bool
 |.one i,.Name x _=>Γ.N[i]?==some x&&(Γ.sc.names.lookup x==some .local || Γ.sc.names.lookup x==some .cell)
 | .tup is,.Tuple es _ _=>es.length==is.length&&(is.zip es).all λp=>match p.2 with
  |.Name x _=>Γ.N[p.1]?==some x&&(Γ.sc.names.lookup x==some .local || Γ.sc.names.lookup x==some .cell)
  |_=>false
 |_,_=>false
theorem qY(hfn:∀x,X.fn x=true)(hnd:X.N.Nodup):∀{is:List Nat} {es:List Expr},es.length=is.length->(∀p∈is.zip es,∃x pos,p.2=.Name x pos/\X.N[p.1]?=some x/\Loc X.env.scope x)->Ot X es (qX is)
 |[],[],_,_=>zP
 | i::is,e::es,hl,h=>by
  obtain⟨x,pos,rfl,h1,h2⟩:=h (i,e) (by simp);exact v7 (pY hnd h1 h2 (.inl (hfn x))) (qY hfn hnd (by simpa using hl) λp hp=>h p (by simp[hp]))
theorem qZ{i:Nat}(h:xy Γ (.one i) tg=true):∃x p,tg=.Name x p:=by
 cases tg<;>first|exact⟨_,_,rfl⟩|exact absurd h Bool.false_ne_true
theorem mZ{is:List Nat}(h:xy Γ (.tup is) tg=true):∃es k p,tg=.Tuple es k p:=by
 cases tg<;>first|exact⟨_,_,_,rfl⟩|exact absurd h Bool.false_ne_true
theorem Ao(c:Ctx Φ Γ k X cl EX)(hfn:∀x,X.fn x=true)(hnd:X.N.Nodup)(h:xy Γ pat tg=true):PG X tg (B7 X.K pat):=by
 have loc:∀x,(Γ.sc.names.lookup x==some .local || Γ.sc.names.lookup x==some .cell)=true->Loc X.env.scope x:=λx e=>by
  unfold L2.Loc;rw[c.sc];simpa using e
 cases pat with
 |one i=>obtain⟨x,pos,rfl⟩:=qZ h;simp only[xy,and_eq_true,beq_iff_eq]at h;obtain⟨h1,h2⟩:=h;exact pY hnd (by rw[c.N];exact h1) (loc _ h2) (.inl (hfn _))
 |tup is=>
  obtain⟨es,kk,pos,rfl⟩:=mZ h
  ·
   simp only[xy,and_eq_true,beq_iff_eq,all_eq_true]at h;obtain⟨h1,h2⟩:=h;have names:∀p∈is.zip es,∃x pos,p.2=.Name x pos/\X.N[p.1]?=some x/\Loc X.env.scope x:=λp hp=>by
    have q:=h2 p hp;cases ep:p.2<;>rw[ep]at q<;>first|cases q|skip
    rename_i x pos';simp only[and_eq_true,beq_iff_eq]at q;exact⟨x,pos',rfl,by rw[c.N];exact q.1,loc _ q.2⟩
   have all:∀e∈es,∃x pos,e=.Name x pos:=λe he=>by
    obtain⟨n,hn,rfl⟩:=getElem_of_mem he;have hm:(is[n]'(by omega),es[n])∈is.zip es:=List.mem_iff_getElem?.mpr ⟨n,by rw[List.getElem?_zip_eq_some];simp[hn]⟩;obtain⟨x,pos,q,_⟩:=names _ hm;exact⟨x,pos,q⟩
   obtain⟨l1,l2⟩:=iw (env:=X.env) all;exact CI c.calm (qY hfn hnd h1 names) (by rw[l1,h1]) l2
theorem cW.set{K:PySem.W.Frag}{ρ:List Addr}{env:Env}{σ:L2.St}{H:Hp}{i:Nat}{v:Val}{x:V}(e:cW K ρ env σ H)(hl:env.length = σ.length)(q:VR K ρ H v x):cW K ρ (env.set i (some v)) (σ.set i (some x)) H:=λj w hj=>by
 by_cases hij:i=j
 ·subst hij
  have hi:i<env.length:=by have:=(List.getElem?_eq_some_iff.mp hj).1;simpa using this
  rw[getElem?_set_self hi]at hj;cases hj;exact⟨x,by rw[getElem?_set_self (by rw[<-hl];exact hi)],q⟩
 ·rw[getElem?_set_ne hij]at hj;rw[getElem?_set_ne hij];exact e j w hj
theorem mD{K:PySem.W.Frag}{ρ:List Addr}{H:Hp}:∀{is:List Nat} {ds:List Val} {xs:List V} {env env':Env} {σ:L2.St},bindAll is ds env=some env'->aC K ρ H ds xs->cW K ρ env σ H->env.length = σ.length->cW K ρ env' (jd is xs σ) H/\env'.length=(jd is xs σ).length/\(jd is xs σ).length = σ.length/\xs.length=is.length
 | [],[],xs,env,env',σ,e,q,hE,hl=>by
  rw[aC]at q;subst q;simp only[bindAll]at e;cases e;exact⟨hE,hl,rfl,rfl⟩
 | i::is,d::ds,xs,env,env',σ,e,q,hE,hl=>by
  rw[aC]at q;obtain⟨x,r,rfl,q1,q2⟩:=q;simp only[bindAll]at e;obtain⟨a1,a2,a3,a4⟩:=mD e q2 (hE.set hl q1) (by simp[hl]);exact⟨a1,a2,by rw[show jd (i::is) (x::r) σ = jd is r (σ.set i (some x)) from rfl,a3];simp,by simp[a4]⟩
 |[],_::_,_,_,_,_,e,_,_,_=>by simp[bindAll]at e
 |_::_,[],_,_,_,_,e,_,_,_=>by simp[bindAll]at e
theorem Aq{K:PySem.W.Frag}{ρ:List Addr}{H:Hp}{pat:z9}{v:Val}{x:V}{env env':Env}{σ:L2.St}{Q:L2.St->Hp->Prop}(e:gJ pat v env=some env')(q:VR K ρ H v x)(hE:cW K ρ env σ H)(hl:env.length = σ.length)
  (kk:∀σ',cW K ρ env' σ' H->env'.length = σ'.length -> σ'.length = σ.length->Q σ' H):B7 K pat x σ H Q:=by
 cases pat with
 |one i=>simp only[gJ]at e;cases e;exact kk _ (hE.set hl q) (by simp[hl]) (by simp)
 |tup is=>
  cases v<;>simp only[gJ]at e<;>first|cases e|skip
  rw[VR]at q;obtain⟨a,xs,rfl,q1,q2⟩:=q;obtain⟨a1,a2,a3,a4⟩:=mD e q2 hE hl;exact⟨a,xs,rfl,q1,a4,oq a4 (kk _ a1 a2 a3)⟩
theorem lB{α β:Type}{W:β -> Hs->List Addr->Hp->Prop}{W':α -> Hs->List Addr->Hp->Prop}{m:M α}{f:α -> M β}(g:Gr ρ H ρ' H')(p:Post B EX ρ H W (bnd m f h))
  (kk:∀v h1 ρ2 H2,m h=.ok v h1->Post B EX ρ H W (f v h1)->Gr ρ' H' ρ2 H2->HR B ρ2 h1 H2->W' v h1 ρ2 H2):Post B EX ρ' H' W' (m h):=by
 unfold bnd at p;cases e:m h with
 |ok v h1=>rw[e]at p;exact λρ2 H2 g2 r2=>kk v h1 ρ2 H2 e p g2 r2
 |exc c vs h1=>rw[e]at p;exact λρ2 H2 xs g2 r2 q=>p ρ2 H2 xs (g.trans g2) r2 q
 |no=>rw[e]at p;exact p
theorem HR.adopt(r:HR B ρ h H)(hD:D ∉ ρ)(q:OR B (ρ ++ [D]) H D u):HR B (ρ ++ [D]) (h++[u]) H where
 len:=by simp[r.len]
 nd:=by rw[nodup_append];refine⟨r.nd,by simp,λa ha b hb=>?_⟩;rw[mem_singleton.mp hb];rintro rfl;exact hD ha
 ob i v a q1 q2:=by
  by_cases hi:i<h.length
  ·rw[getElem?_append_left hi]at q1;rw[getElem?_append_left (by rw[r.len];exact hi)]at q2;exact OR.lK ⟨prefix_append _ _,λ_ _ e _=>e⟩ rfl (r.ob i v a q1 q2)
  ·rw[getElem?_append_right (by omega)]at q1
   rw[getElem?_append_right (by rw[r.len];omega)]at q2;have hi0:i-h.length=0:=by have:=(List.getElem?_eq_some_iff.mp q1).1;simp at this;omega
   rw[hi0]at q1;rw[r.len,hi0]at q2;simp at q1 q2;subst q1;subst q2;exact q
theorem Gr.over(g:Gr ρ H ρ' H')(hD:H D=none):Gr ρ H ρ' (upd H' D o) where
 pre:=g.pre
 keep a u e n:=by rw[ao (aG e hD)];exact g.keep a u e n
 firm a u e n:=by rw[ao (aG e hD)];exact g.firm a u e n
 fresh:=g.fresh
theorem Gr.adopt(g:Gr ρ H ρ' H')(hD:H D=none):Gr ρ H (ρ'++[D]) H' where
 pre:=g.pre.trans (prefix_append _ _)
 keep:=g.keep
 firm:=g.firm
 fresh a z n:=by
  rcases mem_append.mp z with z|z
  ·exact g.fresh a z n
  ·rw[mem_singleton.mp z];exact hD
theorem Ip{K:PySem.W.Frag}{ρ:List Addr}{env:Env}{σ:L2.St}{H:Hp}{js:List (Option Nat)}(e:cW K ρ env σ H):cW K ρ (kF js env) (ie js σ) H:=λi v q=>by
 unfold kF at q;rw[getElem?_map]at q;cases hj:js[i]? with
 |none=>rw[hj]at q;cases q
 |some o=>
  rw[hj]at q;simp only[map_some]at q;cases o with
  |none=>cases q
  |some j=>
   dsimp only at q;cases ej:env[j]? with
   |none=>rw[ej]at q;cases q
   |some w=>
    cases w with
    |none=>rw[ej]at q;cases q
    |some d=>rw[ej]at q;cases q;obtain⟨x,q1,q2⟩:=e j _ ej;refine⟨x,?_,q2⟩;unfold ie;rw[getElem?_map,hj];simp only[map_some];rw[q1]
theorem D5{K:PySem.W.Frag}{ρ:List Addr}{env:Env}{σ σ':L2.St}{H:Hp}{js:List (Option Nat)}{pat:z9}(hp:(xg pat).all (λi=>js[i]?==some none)=true)(e:cW K ρ (kF js env) σ H)(hs:∀i,i∉xg pat -> σ'[i]? = σ[i]?):cW K ρ (kF js env) σ' H:=λi v q=>by
 have hi:i∉xg pat:=λz=>by
  have h1:=all_eq_true.mp hp i z;have h2:js[i]?=some none:=eq_of_beq h1;unfold kF at q;rw[getElem?_map,h2]at q;cases q
 obtain⟨x,q1,q2⟩:=e i v q;exact⟨x,(hs i hi).trans q1,q2⟩
theorem rj:∀{is:List Nat} {xs:List V} {σ:L2.St} {i:Nat},i∉is->(jd is xs σ)[i]? = σ[i]?
 |[],xs,σ,i,_=>by cases xs<;>rfl
 |j::is,[],σ,i,_=>rfl
 | j::is,x::xs,σ,i,h=>by
  rw[show jd (j::is) (x::xs) σ = jd is xs (σ.set j (some x)) from rfl,rj λz=>h (mem_cons_of_mem _ z),getElem?_set_ne λz=>h (by rw[z];exact mem_cons_self)]
theorem D6{K:PySem.W.Frag}{ρ:List Addr}{H:Hp}{pat:z9}{v:Val}{x:V}{env env':Env}{σ:L2.St}{Q:L2.St->Hp->Prop}(e:gJ pat v env=some env')(q:VR K ρ H v x)(hE:cW K ρ env σ H)(hl:env.length = σ.length)
  (kk:∀σ',cW K ρ env' σ' H -> σ'.length = σ.length->(∀i,i∉xg pat -> σ'[i]? = σ[i]?)->Q σ' H):B7 K pat x σ H Q:=by
 cases pat with
 |one i=>simp only[gJ]at e;cases e;exact kk _ (hE.set hl q) (by simp) λj hj=>getElem?_set_ne λz=>hj (by rw[z];exact mem_singleton.mpr rfl)
 |tup is=>
  cases v<;>simp only[gJ]at e<;>first|cases e|skip
  rw[VR]at q;obtain⟨a,xs,rfl,q1,q2⟩:=q;obtain⟨a1,a2,a3,a4⟩:=mD e q2 hE hl;exact⟨a,xs,rfl,q1,a4,oq a4 (kk _ a1 a3 λj hj=>rj hj)⟩
theorem rm(hs:kH Φ it)(hc:cu Φ t)(he:cu Φ elt)(c:Ctx Φ Γ k X cl EX)(h:bK Γ (.comp N' js pat ik it t elt) e=true) :
  ∃e' tg iter ifs scope pos wi g tt te,e=.ListComp e' [⟨tg,iter,ifs,0⟩] scope pos/\gP X.N X.env.scope scope N' js=true/\PI X tg iter wi/\(∀cls C s H fp,PG (bE X scope N' cls C s H fp) tg g)/\(∀cls C s H fp,Gh (bE X scope N' cls C s H fp) ifs tt) /\
   (∀cls C s H fp,PE (bE X scope N' cls C s H fp) e' te)/\(∀x,foldedSetIterable iter X.env x=pure x)/\∀σ H Q,tV Φ (bd X cl) EX (.comp N' js pat ik it t elt) σ H Q->wF wi js g tt te σ H Q:=by
 (conv at h=>lhs;whnf);split at h<;>first|cases h|skip
 rename_i e' tg iter ifs scope pos;simp only[and_eq_true]at h;obtain⟨⟨⟨⟨⟨⟨⟨h1,h2⟩,h3⟩,h4⟩,h5⟩,h6⟩,h7⟩,h8⟩:=h;have hnd:N'.Nodup:=of_decide_eq_true h3;have hen:ik=.enum\/ik=.zip->∃es kk pos,tg=.Tuple es kk pos:=by
  intro hz;cases pat with
  |one i=>rcases hz with rfl|rfl<;>cases h6
  |tup is=>exact xw h4
 obtain⟨hi,hf⟩:=J2 hs c h2 hen
 let tt:TT:=if dQ t=true then wD else tT Φ (bd X cl) EX t
 have Ub:∀cls C s H fp,Gh (bE X scope N' cls C s H fp) ifs tt:=λcls C s H fp=>by
  have c':=c.vd scope N' cls C s H fp;cases ifs with
  |nil=>have:dQ t=true:=h7;show Gh _ [] (if dQ t=true then wD else tT Φ (bd X cl) EX t);rw[if_pos this];exact Ht
  |cons a r=>
   cases r with
   |cons _ _=>cases h7
   |nil=>simp only[and_eq_true,not_eq_true']at h7;show Gh _ [a] (if dQ t=true then wD else tT Φ (bd X cl) EX t);rw[if_neg (by rw[h7.1];exact Bool.false_ne_true)];exact zX (hc _ _ _ _ _ _ c' h7.2).2
 refine⟨e',tg,iter,ifs,scope,pos,_,B7 X.K pat,tt,tV Φ (bd X cl) EX elt,rfl,by rw[c.N,c.sc];exact h1,hi,λcls C s H fp=>D4 (c.vd scope N' cls C s H fp) hnd h4,Ub,λcls C s H fp=>(he _ _ _ _ _ _ (c.vd scope N' cls C s H fp) h8).1,hf,λσ H Q ⟨ρ,env,h,hE,r,p⟩=>?_⟩
 ·skip
  simp only[aJ]at p
  let f:Val->M (Option Val):=λd=>bnd (bH (gJ pat d (kF js env))) λenv'=>bnd (if dQ t=true then ret true else bnd (aJ Φ t env') λv=>ask λh=>cB h v) λt=>
    if t=true then bnd (aJ Φ elt env') λe=>ret (some e) else ret none
  have p':Post (bd X cl) EX ρ H (WV X.K Q) (bnd (OA Φ ik it env) (λsrc=>bnd (ask λh=>src.items h) λxs=>aH (decide (xs.length<=100000)) (bnd (gp src f xs.length 0 []) λys=>new (.lst ys))) h):=by unfold OA;rw[bh];exact p
  refine⟨ρ,env,h,hE,r,bD p' λsrc h1 ρ1 H1 g1 r1 p1=>?_⟩;obtain⟨xs,e1,p2⟩:=aD p1;obtain⟨e2,p3⟩:=aK p2;have e2:=of_decide_eq_true e2;refine⟨⟨xs,e1⟩,λJ wk D hD=>?_⟩;have hDl:(100000:Nat)<sizeLine:=by rw[sizeLine_eq];decide
  refine⟨λi m σ' H'=>∃ρ' h' acc ys,Gr ρ1 H1 ρ' H'/\HR (bd X cl) ρ' h' H'/\D ∉ ρ'/\H' D=some (.lst ys)/\aC X.K ρ' H' acc ys/\cW X.K ρ' (kF js env) σ' H' /\ σ'.length=js.length/\acc.length<=i/\i+m=xs.length /\
   Post (bd X cl) EX ρ1 H1 (WV X.K Q) (bnd (gp src f m i acc) (λys=>new (.lst ys)) h'),⟨xs.length,ρ1,h1,[],[],Gr.side hD,r1.side hD,r1.out hD,aO,aC.nil,(Ip (hE.up g1)).up (Gr.side hD),iZ js σ,Nat.le_refl _,by omega,p3⟩,?_⟩
  rintro i m σ' H' ⟨ρ',h',acc,ys,w1,w2,w3,w4,w5,w6,w7,w8,w9,vj⟩;have fin:∀p:Post (bd X cl) EX ρ1 H1 (WV X.K Q) (new (.lst acc) h'),Q (.ref D) H':=λp=>by
   refine p (ρ'++[D]) H' (w1.adopt hD) (w2.adopt w3 ⟨ys,w4,aC.lK ⟨prefix_append _ _,λ_ _ e _=>e⟩ _ _ w5⟩) _ (VR.ref (by rw[<-w2.len];simp))
  cases m with
  |zero=>
   simp only[gp,bh]at vj;obtain⟨xs',k1,vj⟩:=aD vj;have Qh:Post (bd X cl) EX ρ1 H1 (WV X.K Q) (bnd (aH (decide (xs'.length<=i)) (ret acc)) (λys=>new (.lst ys)) h'):=vj;unfold aH at Qh
   by_cases hl:xs'.length<=i
   ·have:bnd (λh=>if decide (xs'.length<=i)=true then ret acc h else Out.no) (λys=>new (.lst ys)) h'=new (.lst acc) h':=by
     unfold bnd;dsimp only;rw[if_pos (decide_eq_true hl)];rfl
    rw[this] at Qh;exact .inl ⟨wk.stop w1.w w2 k1 hl,fin Qh⟩
   ·have:bnd (λh=>if decide (xs'.length<=i)=true then ret acc h else Out.no) (λys=>new (.lst ys)) h'=Out.no:=by
     unfold bnd;dsimp only;rw[if_neg (by rw[decide_eq_false hl];exact Bool.false_ne_true)]
    rw[this] at Qh;exact Qh.elim
  |succ m=>
   simp only[gp,bh]at vj;obtain⟨xs',k1,vj⟩:=aD vj;cases hx:xs'[i]? with
   |none=>rw[hx]at vj;exact .inl ⟨wk.stop w1.w w2 k1 (List.getElem?_eq_none_iff.mp hx),fin vj⟩
   |some v=>
    rw[hx]at vj;dsimp only at vj;refine .inr ⟨wk.go w1.w w2 k1 hx,_,λzY Hu w=>⟨m,lt_succ_self _,w⟩,λy H2 hy=>?_⟩;obtain⟨z1,z2,z3⟩:=wk.yz w1.w w2 k1 hx hy;simp only[bh]at vj;simp only[f,bh]at vj;obtain⟨env',k2,vj⟩:=bM vj;refine D6 k2 z3 (w6.up z1) (by rw[w7];simp[kF]) λσ2 S4 hl2 hout=>?_;have MK:H2 D=some (.lst ys):=z1.keep _ _ w4 w3;have G2:Gr ρ1 H1 ρ' H2:=w1.trans z1;have body:∀(b:Bool) (h3:Hs) (ρ3:List Addr) (H3:Hp),Gr ρ' H2 ρ3 H3->HR (bd X cl) ρ3 h3 H3->Post (bd X cl) EX ρ1 H1 (WV X.K Q) (bnd (if b=true then bnd (aJ Φ elt env') λe=>ret (some e) else ret none) (λo=>bnd (gp src f m (i+1) (match o with|some e=>acc++[e]|none=>acc)) λys=>new (.lst ys)) h3) ->
      (if b=true then tV Φ (bd X cl) EX elt σ2 H3 (λy H4=>∃ys,H4 D=some (.lst ys)/\ys.length<sizeLine/\(λσ' H'=>∃ρ' h' acc ys,Gr ρ1 H1 ρ' H'/\HR (bd X cl) ρ' h' H'/\D ∉ ρ'/\H' D=some (.lst ys)/\aC X.K ρ' H' acc ys/\cW X.K ρ' (kF js env) σ' H' /\ σ'.length=js.length/\acc.length<=i+1/\i+1+m=xs.length /\
       Post (bd X cl) EX ρ1 H1 (WV X.K Q) (bnd (gp src f m (i+1) acc) (λys=>new (.lst ys)) h')) σ2 (upd H4 D (.lst (ys++[y]))))
      else (λσ' H'=>∃ρ' h' acc ys,Gr ρ1 H1 ρ' H'/\HR (bd X cl) ρ' h' H'/\D ∉ ρ'/\H' D=some (.lst ys)/\aC X.K ρ' H' acc ys/\cW X.K ρ' (kF js env) σ' H' /\ σ'.length=js.length/\acc.length<=i+1/\i+1+m=xs.length /\
       Post (bd X cl) EX ρ1 H1 (WV X.K Q) (bnd (gp src f m (i+1) acc) (λys=>new (.lst ys)) h')) σ2 H3):=by
     intro b h3 ρ3 H3 g3 r3 p5;have UR:D ∉ ρ3:=λz=>by have:=g3.fresh D z w3;rw[MK]at this;cases this
     have OC:H3 D=some (.lst ys):=g3.keep _ _ MK w3;have E3:cW X.K ρ3 (kF js env) σ2 H3:=(D5 h5 (w6.up z1) hout).up g3;cases b with
     |true=>
      rw[if_pos rfl]at p5 |-;simp only[bh,cX]at p5;refine⟨ρ3,env',h3,S4.up g3,r3,lB (G2.trans g3) p5 λv4 h4 ρ4 H4 _ p6 g4 r4 y4 q4=>?_⟩;have YS:D ∉ ρ4:=λz=>by have:=g4.fresh D z UR;rw[OC]at this;cases this
      have Qi:H4 D=some (.lst ys):=g4.keep _ _ OC UR;have gw:Gw ρ4 H4 ρ4 (upd H4 D (.lst (ys++[y4]))):=Gw.other Qi rfl;have la:=w5.length;refine⟨ys,Qi,by omega,ρ4,h4,acc++[v4],ys++[y4],((G2.trans g3).trans g4).over hD,r4.other YS Qi rfl,YS,aO,aC.append (aC.lK gw _ _ (aC.up ((z1.trans g3).trans g4) _ _ w5)) (aC.lK gw _ _ (aC.cons q4 aC.nil)),(E3.up g4).lK gw,by rw[hl2,w7],by simp;omega,by omega,p6⟩
     |false=>rw[if_neg Bool.false_ne_true]at p5 |-;exact⟨ρ3,h3,acc,ys,G2.trans g3,r3,UR,OC,aC.up (z1.trans g3) _ _ w5,E3,by rw[hl2,w7],by omega,by omega,p5⟩
    show (if dQ t=true then wD else tT Φ (bd X cl) EX t) σ2 H2 _
    by_cases hn:dQ t=true
    ·rw[if_pos hn];rw[if_pos hn,cX]at vj;exact body true h' ρ' H2 Gr.refl z2 vj
    ·rw[if_neg hn];rw[if_neg hn]at vj;exact⟨ρ',env',h',S4,z2,lB G2 vj λb h3 ρ3 H3 _ p5 g3 r3=>body b h3 ρ3 H3 g3 r3 p5⟩
theorem Iq(hs:kH Φ it)(hc:cu Φ t)(he:cu Φ elt):cu Φ (.comp N' js pat ik it t elt):=by
 intro Γ k X cl EX e c h;obtain⟨e',tg,iter,ifs,scope,pos,wi,g,tt,te,rfl,h1,h2,h3,h4,h5,h6,h7⟩:=rm hs hc he c h;have q:=(zZ (pos:=pos) h1 c.calm h2 h3 h4 h5 h6).imp h7;exact⟨q,cT q λ_=>rfl⟩
theorem Ir{k v:IE}(hk:cu Φ k)(hv:cu Φ v):cu Φ (.dct1 k v):=by
 intro Γ n X cl EX e c h
 (conv at h=>lhs;whnf);split at h<;>first|cases h|skip
 rename_i a b pos;simp only[and_eq_true]at h;have q:PE X (.Dict [some a] [b] pos) (tV Φ (bd X cl) EX (.dct1 k v)):=by
  refine(Ho (Dg (hk Γ n X cl EX a c h.1).1 (hv Γ n X cl EX b c h.2).1 Hl) rfl rfl (by simp) (by simp)).imp λσ H Q aI=>?_;obtain⟨ρ,env,h,hE,r,p⟩:=aI;intro D hD;have g0:Gr ρ H ρ (upd H D (.dK [])):=Gr.side hD;simp only[aJ]at p;refine⟨ρ,env,h,hE.up g0,r.side hD,lB g0 p λx h1 ρ1 H1 _ p1 g1 r1 y1 q1=>?_⟩;obtain⟨kk,e1,p1⟩:=bM p1;refine⟨ρ1,env,h1,(hE.up g0).up g1,r1,lB (g0.trans g1) p1 λy h2 ρ2 H2 _ p2 g2 r2 y2 q2=>?_⟩;have YT:D ∉ ρ:=r.out hD;have MK:D ∉ ρ2:=λz=>by have:=(g1.trans g2).fresh D z YT;rw[aO]at this;cases this
  have e2:H2 D=some (.dK []):=(g1.trans g2).keep D _ aO YT;have ek:y1=kV kk:=by
   cases x<;>first|(cases e1;done)|skip
   ·cases e1;rw[VR]at q1;exact q1
   ·cases e1;rw[VR]at q1;exact q1
  refine⟨e2,[(kk,y2)],by rw[ek];rfl,by simp,?_⟩;have gw:Gw ρ2 H2 (ρ2++[D]) (upd H2 D (.dK (nU [] [(kk,y2)]))):=⟨prefix_append _ _,(Gw.other (ρ:=ρ2) e2 rfl).firm⟩;exact p2 (ρ2++[D]) _ ((((g0.trans g1).trans g2).over hD).adopt hD) ((r2.other MK e2 rfl).adopt MK ⟨[(kk,y2)],aO,y2,[],rfl,VR.lK gw _ _ q2,rfl⟩) _ (Ac r2)
 exact⟨q,cT q λ_=>rfl⟩
theorem D7{ns ms:List Int}{kvs:List (Key×V)}(e:kvs.map (·.1)=ns.map Sum.inl):((kvs.map λkv=>kV kv.1).filter λk=>!Gg k (ms.map V.int))=(ns.filter λn=>!(ms.any λm=>m==n)).map V.int:=by
 have hk:(kvs.map λkv=>kV kv.1)=ns.map V.int:=by have:=congrArg (List.map kV) e;rw[map_map,map_map]at this;exact this
 rw[hk,List.filter_map]
 congr 1
 refine filter_congr λn _=>?_;show (!Gg (V.int n) (ms.map V.int))=_;unfold Gg;rw[any_map];rfl
noncomputable def dfP(Γ:pR)(N':List Str)(js:List (Option Nat))(p q i j:Nat)(e:Expr):Prop:=∃y1 p1 y2 yp dn dp y3 p3 en ep cp ia scope pos,e=.ListComp (.Name y1 p1) [⟨.Name y2 yp,.Name dn dp,[.Compare (.Name y3 p3) [.NotIn] [.Name en ep] cp],ia⟩] scope pos/\(ia==0&&gP Γ.N Γ.sc scope N' js&&decide (N'.Nodup)&&wZ (Γ.vd scope N') (.one p) (.Name y2 yp)&&js[p]?==some none&&js[q]?==some (some j)&&p != q && !behindInMarks .NotIn (.Name en ep) &&
   (N'[p]?==some y1&&pS (Γ.vd scope N').sc y1)&&(N'[p]?==some y3&&pS (Γ.vd scope N').sc y3)&&(N'[q]?==some en&&pS (Γ.vd scope N').sc en)&&(Γ.N[i]?==some dn&&pS Γ.sc dn))=true
theorem ML{x y:Bool}(f:(x&&y)=true):x=true/\y=true:=Bool.and_eq_true_iff.mp f
theorem B8{p q i j:Nat}(h:J0 Γ N' js p q i j e=true):dfP Γ N' js p q i j e:=by
 cases e<;>first|exact nomatch (show false=true from h)|skip
 rename_i elt gens scope pos;cases gens with
 |nil=>exact nomatch (show false=true from h)
 |cons g r=>
 obtain⟨tg,iter,ifs,ia⟩:=g;cases ifs with
 |nil=>exact nomatch (show false=true from h)
 |cons c0 r0=>
 cases r0 with
 |cons _ _=>exact nomatch (show false=true from h)
 |nil=>
 cases r with
 |cons _ _=>exact nomatch (show false=true from h)
 |nil=>
 have k:=ML h;have k1:=ML k.1;have k2:=ML k1.1;obtain⟨y1,p1,rfl⟩:=mY k2.1;obtain⟨y2,yp,rfl⟩:=mY k2.2;obtain⟨dn,dp,rfl⟩:=mY k1.2;replace h:=k.2;clear k k1 k2;cases c0<;>first|exact nomatch (show false=true from h)|skip
 rename_i l ops rs cp;cases ops with
 |nil=>exact nomatch (show false=true from h)
 |cons op r1=>
 cases op<;>first|exact nomatch (show false=true from h)|skip
 cases r1 with
 |cons _ _=>exact nomatch (show false=true from h)
 |nil=>
 cases rs with
 |nil=>exact nomatch (show false=true from h)
 |cons x0 r2=>
 cases r2 with
 |cons _ _=>exact nomatch (show false=true from h)
 |nil=>
 have k:=ML h;have k1:=ML k.1;obtain⟨y3,p3,rfl⟩:=mY k1.1;obtain⟨en,ep,rfl⟩:=mY k1.2;exact⟨_,_,_,_,_,_,_,_,_,_,_,_,_,_,rfl,k.2⟩
theorem rq{p q:Nat}(c:Ctx Φ Γ k X cl EX)(h:bK Γ (.dflt N' js p q d w) e=true) :
  ∃e' tg iter ifs scope pos wi g tt te,e=.ListComp e' [⟨tg,iter,ifs,0⟩] scope pos/\gP X.N X.env.scope scope N' js=true/\PI X tg iter wi/\(∀cls C s H fp,PG (bE X scope N' cls C s H fp) tg g)/\(∀cls C s H fp,Gh (bE X scope N' cls C s H fp) ifs tt) /\
   (∀cls C s H fp,PE (bE X scope N' cls C s H fp) e' te)/\(∀x,foldedSetIterable iter X.env x=pure x)/\∀σ H Q,tV Φ (bd X cl) EX (.dflt N' js p q d w) σ H Q->DG (wF wi js g tt te) σ H Q:=by
 (conv at h=>lhs;whnf);split at h<;>first|cases h|skip
 rename_i i j;obtain⟨y1,p1,y2,yp,dn,dp,y3,p3,en,ep,cp,ia,scope,pos,e0,hh⟩:=B8 h;clear h;subst e0;have h:=hh;simp only[and_eq_true,beq_iff_eq,bne_iff_ne,ne_eq,not_eq_true']at h;obtain⟨⟨⟨⟨⟨⟨⟨⟨⟨⟨⟨h0,h1⟩,h2⟩,h3⟩,h4⟩,h5⟩,h6⟩,h7⟩,h8⟩,h9⟩,MM⟩,h11⟩:=h;subst h0;have hnd:N'.Nodup:=of_decide_eq_true h2;have nm:∀{x:Str} {i:Nat} {pos:Pos} (_:N'[i]?=some x/\pS (Γ.vd scope N').sc x=true) cls C s H fp,PE (bE X scope N' cls C s H fp) (.Name x pos) (sS i):=λhx cls C s H fp=>by
  obtain⟨v1,v2,v3⟩:=(c.vd scope N' cls C s H fp).vis hx.2;exact yy hx.1 v1 v2 v3
 obtain⟨v1,v2,v3⟩:=c.vis h11.2;have hpl:p<js.length:=(List.getElem?_eq_some_iff.mp h4).1;refine⟨_,_,_,_,_,_,DI (sS i),oX p,CO (Ov (Ui X.K true) (sS p) (sS q)),sS p,rfl,by rw[c.N,c.sc];exact h1,HH (yy (by rw[c.N];exact h11.1) v1 v2 v3),λcls C s H fp=>D4 (c.vd scope N' cls C s H fp) hnd h3,
  λcls C s H fp=>zX (zR (X:=bE X scope N' cls C s H fp) uS (nm h9 cls C s H fp) (nm MM cls C s H fp) h7),nm h8,λx=>rfl,λσ H Q ⟨ρ,env,h,hE,r,pp⟩=>?_⟩
 simp only[aJ]at pp;obtain⟨o,e1,pp⟩:=bM pp;obtain⟨ks,e2,pp⟩:=aD pp;obtain⟨u,e3,pp⟩:=bM pp;obtain⟨zs,e4,pp⟩:=aD pp;split at e1<;>cases e1;rename_i e1;split at e3<;>cases e3;rename_i e3;obtain⟨x,s1,q1⟩:=hE i o e1;obtain⟨y,s2,q2⟩:=hE j u e3;cases o<;>first|(cases e2;done)|(rw[VR]at q1;exact q1.elim)|skip
 rename_i n;rw[VR]at q1;obtain⟨ad,rfl,q1⟩:=q1;have hdc:∃kvs,h[n]?=some (.dct kvs)/\ks=kvs.map (·.1):=by
  change (match h[n]? with|some (.dct kvs)=>some (kvs.map (·.1))|_=>none)=some _ at e2;split at e2
  ·rename_i kvs e5;cases e2;exact⟨kvs,e5,rfl⟩
  ·cases e2
 obtain⟨kvs,e5,rfl⟩:=hdc;obtain⟨YU,k1,k2⟩:=r.ob n _ ad e5 q1;unfold qP at e4;obtain⟨ns,e6,e4⟩:=bind_eq_some_iff.mp e4;obtain⟨xs,e7,e4⟩:=bind_eq_some_iff.mp e4;obtain⟨ms,e8,e4⟩:=bind_eq_some_iff.mp e4;obtain⟨b,ys,rfl,sq,vr⟩:=fz r q2 e7
 by_cases hl:ns.length<=100000
 ·rw[if_pos hl]at e4
  cases e4;rw[fZ e8]at vr;have ey:=aC.ints.mp vr;subst ey;have ek:=(vg k2).trans (vh e6);have el:YU.length=ns.length:=by have:=congrArg length ek;simpa using this
  refine LM h6 hpl ⟨ad,YU,b,_,s1,k1,by rw[el,sizeLine_eq];omega,?_,sq,?_,λD hD=>?_⟩
  ·unfold ie;rw[getElem?_map,h5];show some (match σ[j]? with|some (some v)=>some v|_=>none)=_;rw[s2]
  ·rw[all_map];exact all_eq_true.mpr λ_ _=>rfl
  ·rw[D7 ek];exact cM r hD (aC.ints.mpr rfl) pp
 ·rw[if_neg hl]at e4;cases e4
theorem Iu{p q:Nat}:cu Φ (.dflt N' js p q d w):=by
 intro Γ k X cl EX e c h;obtain⟨e2,US,iter,ifs,zm,pos2,wi,g,tt,te,rfl,q1,q2,q3,q4,q5,q6,q7⟩:=rq c h;have q:PE X (.ListComp e2 [⟨US,iter,ifs,0⟩] zm pos2) (tV Φ (bd X cl) EX (.dflt N' js p q d w)):=(HF (zZ q1 c.calm q2 q3 q4 q5 q6)).imp q7;exact⟨q,cT q λ_=>rfl⟩
theorem MN(ha:cu Φ a):cu Φ (.isc a x bs):=n9 λ_ _=>rfl
theorem ou:(∀ir,cu Φ ir)/\∀fh,kH Φ fh:=by
 have one:∀ir,cu Φ ir:=by
  intro ir;exact IE.rec (motive_1:=λir=>cu Φ ir) (motive_2:=λfh=>kH Φ fh) (λ_=>Mj) (λ_=>Ml) (λ_ _=>Mm) Qe (λ_ _ _ a b=>Mn a b) (λ_ a=>Mp a) (λ_ _ _ a b=>Mq a b) (λ_ _ _ _ _ a b c=>Mr a b c)
   (λ_ _ a b=>Ms a b) (λ_ _ a b=>Qf a b) (λ_ a=>Mt a) (λ_ _ _ a b c=>Mv a b c) (λ_ a=>Mw a) (λ_ a=>Mx a) (λ_ _ a b=>My a b) (λ_ _ _ a b c=>Mz a b c) (λ_ _ a=>Ib a) (λ_ _ a=>MI a)
   (λ_ _ _ a b=>MJ a b) (λ_ _ _ _ _ _ _ a b c=>Iq a b c) HY (λ_ a=>Ij a) (λ_ _ _ a b c=>Il a b c) (λ_ _ a b=>Ir a b) (λ_ a=>DW a) (λ_ _ _ a b c=>Im a b c) (λ_ a=>DY a) (λ_ a=>DX a) (λ_ _ _ a=>MB a) (λ_ _ _ _ a b=>MC a b) (λ_ _ a b=>MA a b) (λ_ _ _ _ _ _ _ _=>Iu) (λ_ _ _ a=>MN a) DT (λ_ _ a b=>Aj a b) ir
 refine⟨one,λfh=>?_⟩
 induction fh using o7.rec (motive_1:=λ_=>True) with
 |nil=>exact DT
 |cons e es _ ih=>exact Aj (one e) ih
 |_=>trivial
end
end Hv
end
section
namespace Hv
open PySem L2 PyProof.Rows
noncomputable def oz:Expr->Bool
 |.ListComp ..=>false|.SetComp ..=>false|.DictComp ..=>false
 |_=>true
noncomputable def Qj:Expr->Bool
 |.Tuple ..=>false
 |_=>true
noncomputable def UT:Expr->Bool
 |.SetComp ..=>false|.DictComp ..=>false
 |_=>true
mutual
noncomputable def Qk(Γ:pR):IS->Stmt->Bool
 | .expr e,s=>match s with
  |.Expr x _=>oz x&&bK Γ e x
  |_=>false
 | .asg p e,s=>match s with
  |.Assign [tg] x _=>xy Γ p tg&&bK Γ e x&&(match p with|.one _=>UT x|.tup _=>oz x&&Qj x)
  |_=>false
 | .aug i o e,s=>match s with
  |.AugAssign (.Name x _) op v _=>Γ.N[i]?==some x&&(Γ.sc.names.lookup x==some .local || Γ.sc.names.lookup x==some .cell)&&Mh o op&&(match o with|.pow=>false|_=>true)&&bK Γ e v
  |_=>false
 | .fX o i v,s=>match s with
  |.Assign [.Subscript a b _] x _=>qb b&&oz x&&bK Γ o a&&bK Γ i b&&bK Γ v x
  |_=>false
 | .iff c a b,s=>match s with
  |.If t x y _=>bK Γ c t&&bg Γ a x&&bg Γ b y
  |_=>false
 | .for p k it body,s=>match s with
  |.For tg iter x [] _=>xy Γ p tg&&Ah Γ k it iter&&(match k,p with|.enum,.one _=>false|.zip,.one _=>false|_,_=>true)&&bg Γ body x
  |_=>false
 | .whl _ c body,s=>match s with
  |.While t x [] _=>bK Γ c t&&bg Γ body x
  |_=>false
 | .ret e,s=>match s with
  |.Return (some x) _=>bK Γ e x
  |_=>false
 | .HK,s=>match s with
  |.Return none _=>true
  |_=>false
 | .brk,s=>match s with
  |.Break _=>true
  |_=>false
 | .cnt,s=>match s with
  |.Continue _=>true
  |_=>false
 | .pass,s=>match s with
  |.Pass _=>true
  |.Expr (.Constant (.str _) _ _) _=>true
  |_=>false
 |.never,_=>true
 | .setF n a x v,s=>match s with
  |.Assign [.Attribute o y _] e _=>x==y&&oz e&&n == Γ.tb.nc && Γ.tb.HU.contains x&&bK Γ a o&&bK Γ v e
  |_=>false
noncomputable def bg(Γ:pR):eE->List Stmt->Bool
 |.nil,ls=>ls.isEmpty
 | .cons s r,ls=>match ls with
  |l::ls=>Qk Γ s l&&bg Γ r ls
  |[]=>false
end
structure MO (Φ:Fn) (Γ:pR) (k:Nat) (X:Cx) (cl:Nat->Addr) (EX:Nat->List V->Hp->Prop):Prop extends Ctx Φ Γ k X cl EX where
 fn:∀x,X.fn x=true
 nd:X.N.Nodup
 kind:X.env.scope.kind=.function
 xe:PassesOwn (model X.prog X.w) X.A X.env X.xe
noncomputable def WF(K:PySem.W.Frag)(D:Ends):Fl->Hs->List Addr->Hp->Prop
 |.nx env',_,ρ',H'=>∀σ',cW K ρ' env' σ' H'->env'.length = σ'.length->D.nx σ' H'
 |.rt v,_,ρ',H'=>∀x,VR K ρ' H' v x->D.rt x H'
 |.bk env',_,ρ',H'=>∀σ',cW K ρ' env' σ' H'->env'.length = σ'.length->D.bk σ' H'
 |.ct env',_,ρ',H'=>∀σ',cW K ρ' env' σ' H'->env'.length = σ'.length->D.ct σ' H'
noncomputable def tS(Φ:Fn)(B:Bd)(EX:Nat->List V->Hp->Prop)(ir:IS):TS:=λD σ H=>∃ρ env h,cW B.K ρ env σ H/\env.length = σ.length/\HR B ρ h H/\Post B EX ρ H (WF B.K D) (gK Φ ir env h)
noncomputable def tSs(Φ:Fn)(B:Bd)(EX:Nat->List V->Hp->Prop)(ir:eE):TS:=λD σ H=>∃ρ env h,cW B.K ρ env σ H/\env.length = σ.length/\HR B ρ h H/\Post B EX ρ H (WF B.K D) (fu Φ ir env h)
theorem _root_.L2.PS.imp(h:PS X e t)(i:∀D σ H,t' D σ H->t D σ H):PS X e t':=λpins s σ H D I hw=>h pins s σ H D I (i D σ H hw)
theorem _root_.L2.yq.imp(h:yq X e t)(i:∀D σ H,t' D σ H->t D σ H):yq X e t':=λpins s σ H D I hw=>h pins s σ H D I (i D σ H hw)
section
variable {Φ:Fn} {Γ:pR} {k:Nat} {X:Cx} {cl:Nat->Addr} {EX:Nat->List V->Hp->Prop}
noncomputable def yt(Φ:Fn)(ir:IS):Prop:=∀(Γ:pR) (k:Nat) (X:Cx) (cl:Nat->Addr) (EX:Nat->List V->Hp->Prop) (st:Stmt),MO Φ Γ k X cl EX->Qk Γ ir st=true->PS X st (tS Φ (bd X cl) EX ir)
noncomputable def vn(Φ:Fn)(fh:eE):Prop:=∀(Γ:pR) (k:Nat) (X:Cx) (cl:Nat->Addr) (EX:Nat->List V->Hp->Prop) (st:List Stmt),MO Φ Γ k X cl EX->bg Γ fh st=true->yq X st (tSs Φ (bd X cl) EX fh)
theorem kI{n:Nat}(h:oz e=true):swapsWith e t n env=pure false:=by
 cases e<;>first|rfl|(exact absurd h Bool.false_ne_true)
theorem Iv(ir:IE)(c:Ctx Φ Γ k X cl EX)(h:bK Γ ir e=true):PE X e (tV Φ (bd X cl) EX ir):=(ou.1 ir Γ k X cl EX e c h).1
theorem YV(ir:IE)(c:Ctx Φ Γ k X cl EX)(h:bK Γ ir e=true):PT X e (tT Φ (bd X cl) EX ir):=(ou.1 ir Γ k X cl EX e c h).2
theorem MP:yt Φ (.expr e):=by
 intro Γ k X cl EX st c h
 (conv at h=>lhs;whnf);split at h<;>first|cases h|skip
 simp only[and_eq_true]at h;refine(GA (Iv e c.toCtx h.2) (kI h.1)).imp λD σ H aI=>?_;obtain⟨ρ,env,h,hE,hl,r,p⟩:=aI;simp only[gK]at p;exact⟨ρ,env,h,hE,r,av p λv h1 ρ1 x H1 g1 r1 q1 p1=>ai r1 p1 σ (hE.up g1) hl⟩
theorem Ql:yt Φ (.asg p e):=by
 intro Γ k X cl EX st c h
 (conv at h=>lhs;whnf);split at h<;>first|cases h|skip
 rename_i tg x pos;simp only[and_eq_true]at h;obtain⟨⟨h1,h2⟩,h3⟩:=h;have hg:=Ao c.toCtx c.fn c.nd h1;have he:=Iv e c.toCtx h2;have fin:∀D σ H,tS Φ (bd X cl) EX (.asg p e) D σ H->GC (tV Φ (bd X cl) EX e) (B7 X.K p) D σ H:=λD σ H ⟨ρ,env,h,hE,hl,r,pp⟩=>by
  simp only[gK]at pp;refine⟨ρ,env,h,hE,r,av pp λv h1 ρ1 x H1 g1 r1 q1 p1=>?_⟩;obtain⟨env',e1,p2⟩:=bM p1;exact Aq e1 q1 (hE.up g1) hl λσ' UU hl' _=>ai r1 p2 σ' UU hl'
 have h1':(assignEach [tg] X.env).map (·.2)=[assign tg X.env]:=by
  cases p with
  |one i=>obtain⟨t,tp,rfl⟩:=qZ h1;rfl
  |tup is=>obtain⟨es,kk,tp,rfl⟩:=mZ h1;rfl
 cases p with
 |tup is=>
  simp only[and_eq_true]at h3;refine(CJ he hg ?_ ?_ h1').imp fin
  ·show swapsWith x (some tg) _ _=_;exact kI h3.1
  ·obtain⟨es,kk,tp,rfl⟩:=mZ h1;cases x<;>first|rfl|(exact absurd h3.2 Bool.false_ne_true)
 |one i=>
  obtain⟨t,tp,rfl⟩:=qZ h1
  ·
   simp only[xy,and_eq_true,beq_iff_eq]at h1;have loc:L2.Loc X.env.scope t:=by unfold L2.Loc;rw[c.sc];simpa using h1.2
   have pl:oz x=true->PS X (.Assign [.Name t tp] x pos) (tS Φ (bd X cl) EX (.asg (.one i) e)):=λhx=>(CK c.nd (by rw[c.N];exact h1.1) loc he (kI hx) (.inl (c.fn t))).imp fin;cases x with
   |ListComp e' gens scope p2=>
    cases hb:(X.env.kindOf t==some .local&&tp.line==p2.line && !(scope.names.any λ(n,k)=>n==t&&(k==.local||k==.cell))) with
    |false=>
     refine(CK c.nd (by rw[c.N];exact h1.1) loc he ?_ (.inl (c.fn t))).imp fin;have bk:(X.env.blockKind==.function)=true:=by unfold Env.blockKind;rw[c.kind];rfl
     show (pure (X.env.blockKind==.function&&X.env.kindOf t==some .local&&tp.line==p2.line && !(scope.names.any λ(n,k)=>n==t&&(k==.local||k==.cell))):Sem Bool)=pure false;rw[bk,Bool.true_and,hb]
    |true=>
     have bk:(X.env.blockKind==.function)=true:=by unfold Env.blockKind;rw[c.kind];rfl
     have hsw:swapsWith (.ListComp e' gens scope p2) (some (.Name t tp)) pos.line X.env=pure true:=by show (pure (X.env.blockKind==.function&&X.env.kindOf t==some .local&&tp.line==p2.line && !(scope.names.any λ(n,k)=>n==t&&(k==.local||k==.cell))):Sem Bool)=pure true;rw[bk,Bool.true_and,hb]
     cases e with
     |comp N' js pat ik it Qm elt=>obtain⟨e2,US,iter,ifs,zm,pos2,wi,g,tt,te,q0,q1,q2,q3,q4,q5,q6,q7⟩:=rm (ou.2 it) (ou.1 Qm) (ou.1 elt) c.toCtx h2;cases q0;refine(z4 c.nd (by rw[c.N];exact h1.1) loc q1 c.calm q2 q3 q4 q5 hsw (.inl (c.fn t)) q6).imp λD σ H hh=>?_;exact q7 σ H _ (fin D σ H hh)
     |dflt N' js p q d w=>obtain⟨e2,US,iter,ifs,zm,pos2,wi,g,tt,te,q0,q1,q2,q3,q4,q5,q6,q7⟩:=rq c.toCtx h2;cases q0;refine(HG (z4 c.nd (by rw[c.N];exact h1.1) loc q1 c.calm q2 q3 q4 q5 hsw (.inl (c.fn t)) q6)).imp λD σ H hh=>?_;exact q7 σ H _ (fin D σ H hh)
     |_=>first|exact absurd h2 Bool.false_ne_true|(rw[bK.eq_def]at h2;cases h2)
   |SetComp _ _ _ _=>exact absurd h3 Bool.false_ne_true
   |DictComp _ _ _ _ _=>exact absurd h3 Bool.false_ne_true
   |_=>exact pl rfl
noncomputable def YW(B:Bd)(EX:Nat->List V->Hp->Prop)(o:HJ):R2:=λx y H Q=>∃ρ h i j,HR B ρ h H/\x=.int i/\y=.int j/\Post B EX ρ H (WV B.K Q) (JU o (.int i) (.int j) h)
theorem MQ(ho:(match o with|.pow=>false|_=>true)=true):kh X (inplaceOp (zg o)) (YW (bd X cl) EX o):=by
 intro pins s σ H x y v' u' Q I rx ry hh;obtain⟨ρ,h,i,j,r,rfl,rfl,p⟩:=hh;cases o with
 |add=>exact GI pins s σ H _ _ _ _ Q I rx ry ⟨_,_,rfl,rfl,ai r p _ VR.int⟩
 |sub=>exact GJ pins s σ H _ _ _ _ Q I rx ry ⟨_,_,rfl,rfl,ai r p _ VR.int⟩
 |mul=>obtain⟨hm,p⟩:=aK p;refine GK pins s σ H _ _ _ _ Q I rx ry ⟨_,_,rfl,rfl,?_,ai r p _ VR.int⟩;unfold kD at hm;simp only[or_eq_true,and_eq_true,decide_eq_true_eq]at hm;exact hm
 |fdiv=>obtain⟨hm,p⟩:=aK p;exact BV pins s σ H _ _ _ _ Q I rx ry ⟨_,_,rfl,rfl,hm,ai r p _ VR.int⟩
 |mod=>obtain⟨hm,p⟩:=aK p;have hm:=of_decide_eq_true hm;exact GL pins s σ H _ _ _ _ Q I rx ry ⟨_,_,rfl,rfl,hm,ai r p _ VR.int⟩
 |pow=>cases ho
theorem Qn{i:Nat}:yt Φ (.aug i o e):=by
 intro Γ k X cl EX st c h
 (conv at h=>lhs;whnf);split at h<;>first|cases h|skip
 rename_i x xp op v pos;simp only[and_eq_true,beq_iff_eq]at h;obtain⟨⟨⟨⟨h1,h2⟩,h3⟩,h4⟩,h5⟩:=h;have eo:op=zg o:=Ai h3;subst eo;have loc:L2.Loc X.env.scope x:=by unfold L2.Loc;rw[c.sc];simpa using h2
 refine(K6 (ti:=YW (bd X cl) EX o) c.nd (by rw[c.N];exact h1) loc (Iv e c.toCtx h5) (MQ h4) (.inl (c.fn x))).imp λD σ H aI=>?_;obtain⟨ρ,env,h,hE,hl,r,p⟩:=aI;simp only[gK]at p;obtain⟨n,e1,p⟩:=bM p;split at e1<;>cases e1;rename_i e1;obtain⟨y,k1,k2⟩:=hE i _ e1;rw[VR]at k2;subst k2;refine⟨_,k1,ρ,env,h,hE,r,av p λv h1 ρ1 z H1 g1 r1 q1 p1=>?_⟩;obtain⟨m,e2,p2⟩:=bM p1;cases uq e2;rw[VR]at q1;subst q1;refine⟨ρ1,h1,n,m,r1,rfl,rfl,av p2 λw h2 ρ2 u H2 g2 r2 q2 p3=>?_⟩;exact ai r2 p3 _ (((hE.up g1).up g2).set hl q2) (by simp[hl])
noncomputable def Qo(B:Bd)(EX:Nat->List V->Hp->Prop):K3:=λo i v H Q=>∃ρ h a b w,HR B ρ h H/\VR B.K ρ H a o/\VR B.K ρ H b i/\VR B.K ρ H w v/\Post B EX ρ H (λ_ _ _ H'=>Q H') (um a b w h)
theorem MR(hu:X.A.units+64<cLine):K4 X (Qo (bd X cl) EX):=by
 intro pins s σ H o i v ov iv u Q I ro ri rv hh;obtain⟨ρ,h,a,b,w,r,ha,hb,hw,p⟩:=hh;cases a with
 |ref j=>
  simp only[um]at p;obtain⟨ob,e1,p⟩:=aD p;have dict:∀kvs,ob=.dct kvs->Post (bd X cl) EX ρ H (λ_ _ _ H'=>Q H') (bnd (bH (keyOf b)) (λk=>aH (decide (kvs.length<sizeLine)) (put j (.dct (iL kvs k w)))) h)->wpAny (model X.prog X.w) X.A (setItem ov iv u) (λ_ s'=>∃H',L2.Inv X pins σ H' s'/\Q H') X.xe s:=by rintro kvs rfl p;obtain⟨kk,e2,p⟩:=bM p;obtain⟨e3,p⟩:=aK p;have e3:=of_decide_eq_true e3;rw[VR]at ha;obtain⟨A,rfl,k1⟩:=ha;obtain⟨ks,k2,k3⟩:=r.ob j _ A e1 k1;cases ro;have ek:=DP hb e2;subst ek;refine Bw (by omega) I (Hi.k (v:=v) k2 (by rw[<-k3.length];exact e3)) ri rv λs' I'=>⟨_,I',?_⟩;have g:Gr ρ H ρ (upd H A (.dK (putK ks kk v))):=Gr.put (mem_of_getElem? k1) k2 rfl;exact p ρ _ g (r.put k1 e1 (u:=.dct (iL kvs kk w)) ⟨_,aO,gS.put kk (VR.up g _ _ hw) (gS.up g _ _ k3)⟩)
  cases ob with
  |lst xs=>
   cases b<;>first|(exact p.elim)|skip
   rename_i n _;obtain⟨jj,e2,p⟩:=bM p;obtain⟨A,ys,rfl,k1,k2,k3⟩:=lz r ha e1;rw[VR]at hb;subst hb;refine set_list pins s σ H _ _ v ov iv u Q I ro ri rv ⟨A,ys,n,jj,rfl,rfl,k2,by rw[<-k3.length];exact e2,?_⟩;have g:Gr ρ H ρ (upd H A (.lst (ys.set jj v))):=Gr.put (mem_of_getElem? k1) k2 rfl;exact p ρ _ g (r.put k1 e1 (u:=.lst (xs.set jj w)) ⟨_,aO,aC.set jj (aC.up g _ _ k3) (VR.up g _ _ hw)⟩)
  |dct kvs=>exact dict kvs rfl (by cases b<;>exact p)
  |ins c fs=>cases b<;>exact p.elim
 |_=>exact p.elim
theorem MS:yt Φ (.fX o i v):=by
 intro Γ k X cl EX st c h
 (conv at h=>lhs;whnf);split at h<;>first|cases h|skip
 rename_i a b sp x pos;simp only[and_eq_true]at h;obtain⟨⟨⟨⟨h1,h2⟩,h3⟩,h4⟩,h5⟩:=h;have hpg:PG X (.Subscript a b sp) (O9 (tV Φ (bd X cl) EX o) (tV Φ (bd X cl) EX i) (Qo (bd X cl) EX)):=K5 (Iv o c.toCtx h3) (Iv i c.toCtx h4) (MR c.units) (by
  intro v;cases b<;>first|rfl|(exact absurd h1 Bool.false_ne_true))
 refine(CJ (Iv v c.toCtx h5) hpg (kI (t:=some (.Subscript a b sp)) (n:=pos.line) (env:=X.env) h2) (by cases x<;>rfl) rfl).imp λD σ H aI=>?_;obtain⟨ρ,env,h,hE,hl,r,p⟩:=aI;simp only[gK]at p;refine⟨ρ,env,h,hE,r,av p λw h1 ρ1 x1 H1 g1 r1 q1 p1=>⟨ρ1,env,h1,hE.up g1,r1,av p1 λw2 h2 ρ2 x2 H2 g2 r2 q2 p2=>⟨ρ2,env,h2,(hE.up g1).up g2,r2,av p2 λw3 h3 ρ3 x3 H3 g3 r3 q3 p3=>?_⟩⟩⟩;refine⟨ρ3,h3,w2,w3,w,r3,VR.up g3 _ _ q2,q3,VR.up (g2.trans g3) _ _ q1,bD p3 λ_ h4 ρ4 H4 g4 r4 p4=>?_⟩;exact ai r4 p4 σ (((hE.up g1).up g2).up g3 |>.up g4) hl
theorem Qp(ha:vn Φ a)(hb:vn Φ b):yt Φ (.iff t a b):=by
 intro Γ k X cl EX st c h
 (conv at h=>lhs;whnf);split at h<;>first|cases h|skip
 rename_i tt x y pos;simp only[and_eq_true]at h;refine(O6 (YV t c.toCtx h.1.1) (ha Γ k X cl EX x c h.1.2) (hb Γ k X cl EX y c h.2)).imp λD σ H aI=>?_;obtain⟨ρ,env,h,hE,hl,r,p⟩:=aI;simp only[gK]at p;refine⟨ρ,env,h,hE,r,oh p λv h1 p1=>?_⟩;obtain⟨s,e1,p2⟩:=aD p1;refine⟨s,e1,λρ1 H1 g1 r1=>?_⟩;have p2:=Post.up g1 p2;cases s with
 |true=>rw[if_pos rfl]at p2 |-;exact⟨ρ1,env,h1,hE.up g1,hl,r1,p2⟩
 |false=>rw[if_neg Bool.false_ne_true]at p2 |-;exact⟨ρ1,env,h1,hE.up g1,hl,r1,p2⟩
theorem Qq(hb:vn Φ body):yt Φ (.for p ik it body):=by
 intro Γ k X cl EX st c h
 (conv at h=>lhs;whnf);split at h<;>first|cases h|skip
 rename_i tg iter x pos;simp only[and_eq_true]at h;obtain⟨⟨⟨h1,h2⟩,h3⟩,h4⟩:=h;have hen:ik=.enum\/ik=.zip->∃es kk pos,tg=.Tuple es kk pos:=by
  intro hz;cases p with
  |one i=>rcases hz with rfl|rfl<;>cases h3
  |tup is=>exact mZ h1
 obtain⟨hi,hf⟩:=J2 (ou.2 it) c.toCtx h2 hen;refine(K9 c.xe c.calm hi (Ao c.toCtx c.fn c.nd h1) (hb Γ k X cl EX x c h4) hf).imp λD σ H aI=>?_;obtain⟨ρ,env,h,hE,hl,r,pp⟩:=aI;simp only[gK]at pp;have p':Post (bd X cl) EX ρ H (WF X.K D) (bnd (OA Φ ik it env) (λsrc=>bnd (ask λh=>src.items h) λxs=>forM src (λx env=>bnd (bH (gJ p x env)) λenv'=>fu Φ body env') xs.length 0 env) h):=by unfold OA;rw[bh];exact pp
 refine⟨ρ,env,h,hE,r,bD p' λsrc h1 ρ1 H1 g1 r1 p1=>?_⟩;obtain⟨xs,e1,p2⟩:=aD p1;refine⟨⟨xs,e1⟩,λJ wk=>?_⟩;refine⟨λi m σ' H'=>∃ρ' env' h',Gr ρ1 H1 ρ' H'/\cW X.K ρ' env' σ' H'/\env'.length = σ'.length/\HR (bd X cl) ρ' h' H'/\Post (bd X cl) EX ρ' H' (WF X.K D) (forM src (λx env=>bnd (bH (gJ p x env)) λenv'=>fu Φ body env') m i env' h'),
  ⟨xs.length,ρ1,env,h1,Gr.refl,hE.up g1,hl,r1,p2⟩,?_⟩
 rintro i m σ' H' ⟨ρ',env',h',w1,w2,w3,w4,w5⟩;cases m with
 |zero=>simp only[forM]at w5;obtain⟨xs',k1,w5⟩:=aD w5;obtain⟨k2,w5⟩:=aK w5;exact .inl ⟨wk.stop w1.w w4 k1 (of_decide_eq_true k2),ai w4 w5 σ' w2 w3⟩
 |succ m=>
  simp only[forM]at w5;obtain⟨xs',k1,w5⟩:=aD w5;cases hx:xs'[i]? with
  |none=>rw[hx]at w5;exact .inl ⟨wk.stop w1.w w4 k1 (List.getElem?_eq_none_iff.mp hx),ai w4 w5 σ' w2 w3⟩
  |some v=>
   rw[hx]at w5;dsimp only at w5;refine .inr ⟨wk.go w1.w w4 k1 hx,_,λzY Hu w=>⟨m,lt_succ_self _,w⟩,λy H2 hy=>?_⟩;obtain⟨z1,z2,z3⟩:=wk.yz w1.w w4 k1 hx hy;rw[bh]at w5;obtain⟨kJ,k2,w5⟩:=bM w5;refine Aq k2 z3 (w2.up z1) w3 λσ2 S4 hl2 _=>⟨ρ',kJ,h',S4,hl2,z2,bD (Post.up z1 w5) λf h3 ρ3 H3 g3 r3 p3=>?_⟩;cases f with
   |nx vo=>exact λσ3 D8 hl3=>⟨ρ3,vo,h3,(w1.trans z1).trans g3,D8,hl3,r3,p3⟩
   |ct vo=>exact λσ3 D8 hl3=>⟨ρ3,vo,h3,(w1.trans z1).trans g3,D8,hl3,r3,p3⟩
   |bk vo=>exact λσ3 D8 hl3=>ai r3 p3 σ3 D8 hl3
   |rt v=>exact(ai r3 p3:WF X.K D (.rt v) h3 ρ3 H3)
theorem Qs{n:Nat}(hb:vn Φ body):yt Φ (.whl n t body):=by
 intro Γ k X cl EX st c h
 (conv at h=>lhs;whnf);split at h<;>first|cases h|skip
 rename_i tt x pos;simp only[and_eq_true]at h;refine(CL c.xe (YV t c.toCtx h.1) (hb Γ k X cl EX x c h.2)).imp λD σ H aI=>?_;obtain⟨ρ,env,h,hE,hl,r,p⟩:=aI;simp only[gK]at p;refine⟨λm σ H=>∃ρ env h,cW X.K ρ env σ H/\env.length = σ.length/\HR (bd X cl) ρ h H/\Post (bd X cl) EX ρ H (WF X.K D) (BR (λenv=>bnd (aJ Φ t env) λx=>ask λh=>cB h x) (fu Φ body) m env h),⟨n,ρ,env,h,hE,hl,r,p⟩,?_⟩;rintro m σ' H' ⟨ρ',env',h',w1,w2,w3,w4⟩;cases m with
 |zero=>exact w4.elim
 |succ m=>
  simp only[BR]at w4;refine⟨ρ',env',h',w1,w3,bD (m:=Mi Φ t env') w4 λb h1 ρ1 H1 g1 r1 p1=>?_⟩;show if b=true then _ else _
  cases b with
  |true=>
   rw[if_pos rfl]at p1 |-;refine⟨_,λzY Hu w=>⟨m,lt_succ_self _,w⟩,ρ1,env',h1,w1.up g1,w2,r1,bD p1 λf h3 ρ3 H3 g3 r3 p3=>?_⟩;cases f with
   |nx vo=>exact λσ3 D8 hl3=>⟨ρ3,vo,h3,D8,hl3,r3,p3⟩
   |ct vo=>exact λσ3 D8 hl3=>⟨ρ3,vo,h3,D8,hl3,r3,p3⟩
   |bk vo=>exact λσ3 D8 hl3=>ai r3 p3 σ3 D8 hl3
   |rt v=>exact(ai r3 p3:WF X.K D (.rt v) h3 ρ3 H3)
  |false=>rw[if_neg Bool.false_ne_true]at p1 |-;exact ai r1 p1 σ' (w1.up g1) w2
theorem Qt:yt Φ (.ret e):=by
 intro Γ k X cl EX st c h
 (conv at h=>lhs;whnf);split at h<;>first|cases h|skip
 refine(K1 (Iv e c.toCtx h)).imp λD σ H aI=>?_;obtain⟨ρ,env,h,hE,hl,r,p⟩:=aI;simp only[gK]at p;exact⟨ρ,env,h,hE,r,av p λv h1 ρ1 x H1 g1 r1 q1 p1=>ai r1 p1 x q1⟩
theorem MT:yt Φ .HK:=by
 intro Γ k X cl EX st c h
 (conv at h=>lhs;whnf);split at h<;>first|cases h|skip
 refine GB.imp λD σ H aI=>?_;obtain⟨ρ,env,h,hE,hl,r,p⟩:=aI;simp only[gK]at p;exact ai r p _ VR.non
theorem Qu:yt Φ .brk:=by
 intro Γ k X cl EX st c h
 (conv at h=>lhs;whnf);split at h<;>first|cases h|skip
 refine CG.imp λD σ H aI=>?_;obtain⟨ρ,env,h,hE,hl,r,p⟩:=aI;simp only[gK]at p;exact ai r p σ hE hl
theorem Qv:yt Φ .cnt:=by
 intro Γ k X cl EX st c h
 (conv at h=>lhs;whnf);split at h<;>first|cases h|skip
 refine v5.imp λD σ H aI=>?_;obtain⟨ρ,env,h,hE,hl,r,p⟩:=aI;simp only[gK]at p;exact ai r p σ hE hl
theorem MU:yt Φ .pass:=by
 intro Γ k X cl EX st c h
 (conv at h=>lhs;whnf);split at h<;>first|cases h|skip
 ·refine Gz.imp λD σ H aI=>?_;obtain⟨ρ,env,h,hE,hl,r,p⟩:=aI;simp only[gK]at p;exact ai r p σ hE hl
 ·refine K0.imp λD σ H aI=>?_;obtain⟨ρ,env,h,hE,hl,r,p⟩:=aI;simp only[gK]at p;exact ai r p σ hE hl
theorem Iw:yt Φ .never:=by
 intro Γ k X cl EX st c h;refine CH.imp λD σ H aI=>?_;obtain⟨ρ,env,h,hE,hl,r,p⟩:=aI;simp only[gK]at p;exact p.elim
theorem B9{α β:Type}(c:Bool)(m:M α)(f:α -> M β):bnd (aH c m) f=aH c (bnd m f):=by
 funext h;unfold bnd aH;cases c<;>rfl
theorem MV{n:Nat}:yt Φ (.setF n a x v):=by
 intro Γ k X cl EX st c h
 (conv at h=>lhs;whnf);split at h<;>first|cases h|skip
 rename_i o y ap e pos;simp only[and_eq_true,beq_iff_eq,contains_iff_mem]at h;obtain⟨⟨⟨⟨⟨h1,h2⟩,h3⟩,h4⟩,h5⟩,h6⟩:=h;subst h1;refine(Lk (Iv a c.toCtx h5) (Iv v c.toCtx h6) (kI (t:=some (.Attribute o x ap)) (n:=pos.line) (env:=X.env) h2)).imp λD σ H aI=>?_;obtain⟨ρ,env,h,hE,hl,r,p⟩:=aI;simp only[gK]at p;refine⟨ρ,env,h,hE,r,av p λw h1 ρ1 x1 H1 g1 r1 q1 p1=>⟨ρ1,env,h1,hE.up g1,r1,av p1 λw2 h2 ρ2 x2 H2 g2 r2 q2 p2=>?_⟩⟩;cases w2<;>first|exact p2.elim|skip
 rename_i i;rw[VR]at q2;obtain⟨ad,rfl,q2⟩:=q2;unfold Aa at p2;dsimp only at p2;rw[bh]at p2;obtain⟨pr,e1,p3⟩:=aD p2;have hx:h2[i]?=some (.ins pr.1 pr.2)/\pr.1<n:=by
  split at e1
  ·rename_i c0 fs e2
   split at e1
   ·rename_i hc;cases e1;exact⟨e2,hc⟩
   ·cases e1
  ·cases e1
 obtain⟨dx,gs,k1,k2⟩:=r2.ob i _ ad hx.1 q2;obtain⟨cc,nn⟩:=c.cls pr.1 (by omega);have p4:Post (bd X cl) EX ρ2 H2 (WF X.K D) (aH (decide (pr.2.length<1000)) (bnd (put i (.ins pr.1 (qR x w pr.2))) λ_=>ret (.nx env)) h2):=by rw[<-B9];exact p3
 obtain⟨el,p5⟩:=aK p4;refine⟨ad,cl pr.1,dx,gs,rfl,k1,cc,nn x h4,by rw[<-k2.length];exact of_decide_eq_true el,?_⟩;have g:Gr ρ2 H2 ρ2 (upd H2 ad (.ins (cl pr.1) dx (jM x x1 gs))):=Gr.put (mem_of_getElem? q2) k1 rfl;exact p5 ρ2 _ g (r2.put q2 hx.1 (u:=.ins pr.1 (qR x w pr.2)) ⟨dx,_,aO,mW.put (VR.up (g2.trans g) _ _ q1) (mW.up g _ _ k2)⟩) σ (((hE.up g1).up g2).up g) hl
theorem MW:vn Φ .nil:=by
 intro Γ k X cl EX st c h;rw[bg]at h;cases st with
 |cons _ _=>cases h
 |nil=>refine Gy.imp λD σ H aI=>?_;obtain⟨ρ,env,h,hE,hl,r,p⟩:=aI;simp only[fu]at p;exact ai r p σ hE hl
theorem Iz(h1:yt Φ s)(h2:vn Φ ss):vn Φ (.cons s ss):=by
 intro Γ k X cl EX st c h;rw[bg.eq_def]at h;dsimp only at h;cases st with
 |nil=>cases h
 |cons l ls=>
  simp only[and_eq_true]at h;refine(CF (h1 Γ k X cl EX l c h.1) (h2 Γ k X cl EX ls c h.2)).imp λD σ H aI=>?_;obtain⟨ρ,env,h,hE,hl,r,p⟩:=aI;simp only[fu]at p;refine⟨ρ,env,h,hE,hl,r,bD p λf h1 ρ1 H1 g1 r1 p1=>?_⟩;cases f with
  |nx env'=>exact λσ' UU hl'=>⟨ρ1,env',h1,UU,hl',r1,p1⟩
  |rt v=>exact(ai r1 p1:WF X.K D (.rt v) h1 ρ1 H1)
  |bk env'=>exact(ai r1 p1:WF X.K D (.bk env') h1 ρ1 H1)
  |ct env'=>exact(ai r1 p1:WF X.K D (.ct env') h1 ρ1 H1)
theorem D9:∀fh,vn Φ fh:=by
 intro fh;exact eE.rec (motive_1:=λs=>yt Φ s) (motive_2:=λss=>vn Φ ss) (λ_=>MP) (λ_ _=>Ql) (λ_ _ _=>Qn) (λ_ _ _=>MS) (λ_ _ _ a b=>Qp a b) (λ_ _ _ _ a=>Qq a) (λ_ _ _ a=>Qs a) (λ_=>Qt) MT Qu Qv MU Iw (λ_ _ _ _=>MV)
  MW (λ_ _ a b=>Iz a b) fh
end
end Hv
end
section
namespace Hv
open PySem L2 PyProof.Rows
noncomputable abbrev Row:=Str×Nat×(List Val->M Val)
noncomputable def look(fs:List Row)(j:Nat):List Val->M Val:=match fs[j]? with
 |some r=>r.2.2
 |none=>λ_=>bH none
noncomputable def cC(P:Program)(w:World)(B:Bd)(mg:Str->Option Value)(base:Heap)(k:Nat)(fs:List Row):Prop:=∀(j:Nat) (r:Row),fs[j]?=some r->Oz P w B mg base k j r.1 r.2.1 r.2.2
noncomputable def aP(N P:List Str)(sc:Scope):Bool :=
 sc.kind==.function && !sc.isCoroutine && !sc.isGenerator&&decide N.Nodup&&N.take P.length==P&&(P.all λx=>sc.names.lookup x==some .local||sc.names.lookup x==some .cell)&&(sc.names.all λy=>y.2 != .free)
theorem Ea(h:aP N P sc=true):pZ N P sc:=by
 unfold aP at h;simp only[and_eq_true,beq_iff_eq,not_eq_true',decide_eq_true_eq,all_eq_true,or_eq_true,bne_iff_ne]at h;obtain⟨⟨⟨⟨⟨⟨h1,h2⟩,h3⟩,h4⟩,h5⟩,h6⟩,h7⟩:=h;exact⟨h1,h2,h3,h4,h5,h6,h7⟩
structure Base (K:PySem.W.Frag) (cl:Nat->Addr) (mg:Str->Option Value) (cons:List (Str×Val)) (tb:Tb):Prop where
 blt:∀x∈iu,mg x=none
 cons:∀p∈cons,∃v u,mg p.1=some u/\RelV v u/\∀K ρ H,VR K ρ H p.2 v
 cls:∀c,c<tb.nc->Cu K (cl c)/\∀x∈tb.HU,ku K (cl c) x
 HV:∀p∈tb.HV,Meth K (cl p.1) p.2.1 (cl (1000+p.2.2))
 Gm:∀p∈tb.Gm,∃C,mg p.1=some (.ref C)/\LN K C p.2.1 (cl (1000+p.2.2))
 isc:∀p∈tb.isc,∃C,mg p.1=some (.ref C)/\∀c b,p.2[c]?=some b->YM K (cl c)/\kitOne K (.ref (cl c)) (.ref C)=some b
section
variable {P:Program} {w:World} {K:PySem.W.Frag} {cl:Nat->Addr} {mg:Str->Option Value} {base:Heap} {k:Nat} {fs:List Row} {cons:List (Str×Val)} {tb:Tb}
theorem Ar{x qual:Str}{st:Stmt}{f:Addr}{fd:FuncData}{N ps:List Str}{body:eE}(T:Base K cl mg cons tb)(A:cC P w ⟨K,cl⟩ mg base k fs)(F:Hr K x qual st f fd)(hS:aP N ps (aa st)=true)
  (hc:bg ⟨N,aa st,fs.map (λr=>(r.1,r.2.1)),cons,tb⟩ body (ak st)=true):fU P w K mg base yr (k+2) f fd ps (ve ⟨K,cl⟩ ps.length (gR (look fs) N.length body)):=by
 have S:=Ea hS;refine F.ok S (λvs H Q E h=>?_) (λcdv A' outer s H vs Q E hr h=>?_)
 ·obtain⟨ρ,h,ws,h1,_,h2,_⟩:=h;rw[<-h2.length,h1]
 ·obtain⟨ρ,h,ws,hl,r,hv,p⟩:=h
  have lv:=hv.length
  let X:Cx:=(yM yr P w K mg base N qual (aa st) f cdv A' outer s H E).O0
  have c:MO (look fs) ⟨N,aa st,fs.map (λr=>(r.1,r.2.1)),cons,tb⟩ k X cl (λ_ _ _=>False):=by
   refine { N:=rfl,sc:=rfl,calm:=rfl,room:=hr,mq:=λ_ _ _ z=>z,fns:=λj x n e=>?_,cls:=T.cls,HV:=T.HV,Gm:=T.Gm,isc:=T.isc,cons:=T.cons,blt:=T.blt,fn:=λ_=>rfl,nd:=S.nd,kind:=S.kind,xe:=PassesOwn.never };have e':(fs.map (λr=>(r.1,r.2.1)))[j]?=some (x,n):=e;rw[getElem?_map]at e';cases er:fs[j]? with
   |none=>rw[er]at e';cases e'
   |some r=>rw[er]at e';cases e';have:=A j r er;unfold look;rw[er];exact this
  refine⟨_,D9 body _ k X cl _ (ak st) c hc,ρ,ws.map some++replicate (N.length-ws.length) none,h,λi v e=>?_,?_,r,bD p λfl h1 ρ1 H1 g1 r1 p1=>?_⟩
  ·by_cases hi:i<ws.length
   ·rw[getElem?_append_left (by simpa using hi)]at e
    rw[getElem?_map]at e;cases ei:ws[i]? with
    |none=>rw[ei]at e;cases e
    |some w'=>rw[ei]at e;cases e;obtain⟨y,q1,q2⟩:=hv.get ei;refine⟨y,?_,q2⟩;show (vs.map some++_)[i]?=_;rw[getElem?_append_left (by rw[length_map,<-lv];exact hi),getElem?_map,q1];rfl
   ·rw[getElem?_append_right (by simp;omega)]at e;have:=mem_of_getElem? e;rw[List.mem_replicate]at this;exact absurd this.2 (by simp)
  ·show _=(vs.map some++_).length;simp[lv]
  ·cases fl with
   |nx env'=>exact λσ' _ _=>ai r1 p1 _ VR.non
   |rt v=>exact(ai r1 p1:WV K Q v h1 ρ1 H1)
   |bk env'=>exact p1.elim
   |ct env'=>exact p1.elim
theorem _root_.Hv.Oz.mono{j:Nat}{n:Nat}(g:Oz P w B mg base k j x n φ):Oz P w B mg base (k+2) j x n φ:=by
 have le:k<=k+2:=Nat.le_add_right _ _
 rcases g with ⟨h,⟨f,fd,ps,q1,q2,q3,q4,q5⟩|⟨c,f,fd,ps,φ0,q0,q1,q2,q3,q4,q5⟩⟩|⟨h,fd,ps,q1,q4,q5⟩
 ·exact .inl ⟨h,.inl ⟨f,fd,ps,q1,q2,q3,q4,q5.mono le⟩⟩
 ·exact .inl ⟨h,.inr ⟨c,f,fd,ps,φ0,q0,q1,q2,q3,q4,q5.mono le⟩⟩
 ·exact .inr ⟨h,fd,ps,q1,q4,q5.mono le⟩
theorem all_nil:cC P w ⟨K,cl⟩ mg base k []:=λj r e=>by simp at e
theorem bA{x qual:Str}{st:Stmt}{f:Addr}{fd:FuncData}{N ps:List Str}{body:eE}(T:Base K cl mg cons tb)(A:cC P w ⟨K,cl⟩ mg base k fs)(F:Hr K x qual st f fd)(hm:mg x=some (.ref f))(hb:Binds K fd ps [])(Eb:ps.length<1000)(hS:aP N ps (aa st)=true)
  (hc:bg ⟨N,aa st,fs.map (λr=>(r.1,r.2.1)),cons,tb⟩ body (ak st)=true):cC P w ⟨K,cl⟩ mg base (k+2) (fs++[(x,ps.length,gR (look fs) N.length body)]):=λj r e=>by
 by_cases hj:j<fs.length
 ·rw[getElem?_append_left hj]at e;exact(A j r e).mono
 ·rw[getElem?_append_right (by omega)]at e
  have hj0:j-fs.length=0:=by have:=(List.getElem?_eq_some_iff.mp e).1;simp at this;omega
  rw[hj0]at e;simp at e;subst e;exact .inl ⟨Eb,.inl ⟨f,fd,ps,rfl,hm,F.kp,hb,Ar T A F hS hc⟩⟩
theorem As{r0:Row}(A:cC P w ⟨K,cl⟩ mg base k fs)(g:Oz P w ⟨K,cl⟩ mg base (k+2) fs.length r0.1 r0.2.1 r0.2.2):cC P w ⟨K,cl⟩ mg base (k+2) (fs++[r0]):=λj r e=>by
 by_cases hj:j<fs.length
 ·rw[getElem?_append_left hj]at e;exact(A j r e).mono
 ·rw[getElem?_append_right (by omega)]at e
  have hj0:j-fs.length=0:=by have:=(List.getElem?_eq_some_iff.mp e).1;simp at this;omega
  rw[hj0]at e;simp at e;subst e;rw[show j=fs.length by omega];exact g
theorem iy{x qual y:Str}{st:Stmt}{f:Addr}{fd:FuncData}{N ps:List Str}{body:eE}(T:Base K cl mg cons tb)(A:cC P w ⟨K,cl⟩ mg base k fs)(F:Hr K x qual st f fd)(hf:cl (1000+fs.length)=f)(hb:Binds K fd ps [])(hS:aP N ps (aa st)=true)
  (hc:bg ⟨N,aa st,fs.map (λr=>(r.1,r.2.1)),cons,tb⟩ body (ak st)=true):cC P w ⟨K,cl⟩ mg base (k+2) (fs++[(y,1000+ps.length,gR (look fs) N.length body)]):=by
 refine As (r0:=(y,1000+ps.length,gR (look fs) N.length body)) A (.inr ⟨Nat.le_add_right _ _,fd,ps,?_,hb,?_⟩)
 ·show ps.length=1000+ps.length-1000;omega
 ·show fU P w K mg base yr (k+2) (cl (1000+fs.length)) fd ps (ve ⟨K,cl⟩ (1000+ps.length-1000) _);rw[hf,show 1000+ps.length-1000=ps.length by omega];exact Ar T A F hS hc
theorem all_class{x i qual:Str}{st:Stmt}{f:Addr}{fd:FuncData}{N ps:List Str}{n c:Nat}{body:eE}(T:Base K cl mg cons tb)(A:cC P w ⟨K,cl⟩ mg base k fs)(F:Hr K i qual st f fd)(hm:mg x=some (.ref (cl c)))(M:Mk K (cl c) f)(hb:Binds K fd ps [])(hn:ps.length=n+1)(Eb:n<1000)(hS:aP N ps (aa st)=true)
  (hc:bg ⟨N,aa st,fs.map (λr=>(r.1,r.2.1)),cons,tb⟩ body (ak st)=true):cC P w ⟨K,cl⟩ mg base (k+2) (fs++[(x,n,DM c (gR (look fs) N.length body))]):=by
 refine As (r0:=(x,n,DM c (gR (look fs) N.length body))) A (.inl ⟨Eb,.inr ⟨c,f,fd,ps,_,rfl,hn,hm,M,hb,?_⟩⟩);rw[<-hn];exact Ar T A F hS hc
end
theorem xA{α:Type}:∀{us:List α},us.length=1->∃a,us=[a]
 |[a],_=>⟨a,rfl⟩
theorem fR{α:Type}:∀{us:List α},us.length=2->∃a b,us=[a,b]
 |[a,b],_=>⟨a,b,rfl⟩
theorem uv{α:Type}:∀{us:List α},us.length=3->∃a b c,us=[a,b,c]
 |[a,b,c],_=>⟨a,b,c,rfl⟩
theorem MX{K:PySem.W.Frag}{cl:Nat->Addr}{φ:List Val->M Val}{H:Hp}{a:Addr}{ns:List Int}(hO:Di H)(hS:gI K H a (ns.map V.int))(h:∃h',φ [.rl (ns.map .int)] []=.ok (.bl true) h') :
  ve ⟨K,cl⟩ 1 φ [.ref a] H (λv _=>v=.bl true) λ_ _ _=>False:=by
 obtain⟨h',e⟩:=h;have sr:JW K H a (ns.map V.int):=by
  rcases hS with (z|z)|z
  ·rcases hO a with y|⟨o,xs,y⟩
   ·rw[y]at z;cases z
   ·rw[y]at z;cases z
  ·exact .inl z
  ·exact .inr (.inr z)
 refine⟨[],[],[.rl (ns.map .int)],rfl,⟨rfl,nodup_nil,λi o a e=>by simp at e⟩,aC.cons (by rw[VR];exact⟨a,_,rfl,sr,aC.ints.mpr rfl⟩) aC.nil,?_⟩;rw[e];intro ρ' H' g r x q;rw[VR]at q;exact q
noncomputable def S5(K:PySem.W.Frag):Sp:=λvs H Q _=>∃(a:Addr) (ns:List Int),vs=[.ref a]/\Di H/\gI K H a (ns.map V.int)/\ns.length<=63/\∀H',Q (.bl true) H'
theorem MY{K:PySem.W.Frag}{cl:Nat->Addr}{φ:List Val->M Val}(hφ:∀ns:List Int,ns.length<=63->∃h',φ [.rl (ns.map .int)] []=.ok (.bl true) h')(vs:List V)(H:Hp)(Q:VK)(E:XK)(h:S5 K vs H Q E):ve ⟨K,cl⟩ 1 φ vs H Q E:=by
 obtain⟨a,ns,rfl,hO,hS,hl,hq⟩:=h;obtain⟨ρ,h,vs,q1,q2,q3,q4⟩:=MX (cl:=cl) hO hS (hφ ns hl);refine⟨ρ,h,vs,q1,q2,q3,?_⟩;revert q4;cases φ vs h with
 |ok v h'=>exact λq4 ρ' H' g r x hx=>by rw[show x=_ from q4 ρ' H' g r x hx];exact hq H'
 |exc c ws h'=>exact λq4=>q4
 |no=>exact λq4=>q4
theorem walk{l:PySem.W.OpenLaw}{q:Program}{loose:List Str}{XP:(Str->Option Value)->Heap->Prop}{YP:World->Heap->Prop}{d:DefRec}{K:Params->PySem.W.Frag}{k:Nat}{x:Str}(hn:l.most=some 63)(hdf:d.params.defaults=[])(hr:dP k callerA)
  (hY:∀(w:World) (h:Heap),YP w h->(K w.params).In h)
  (F:∀(w:World) (mg:Str->Option Value) (fa:Addr) (h:Heap),(K w.params).In h->h.Ns mainGlobals mg->mg d.name=some (.ref fa) ->
   ∃fd:FuncData,(∀(s:Shared) (u:Value),BindsTo s fd ⟨[u],[]⟩ [(x,u)])/\∀base:Heap,(K w.params).In base->base.Ns mainGlobals mg->fU l.prog w (K w.params) mg base yr k fa fd [x] (S5 (K w.params))) :
  PySem.W.WalkO q loose XP YP l.row.toRowW d [] (λf vs=>PySem.call f vs) :=
 L2.Hq (n:=63) (k:=k) (x:=x) (CX:=λ_=>yr) (sp:=λw=>S5 (K w.params)) hn (by decide) hdf hr hY F (λ_ _ a ns hl hO hS=>⟨a,ns,rfl,hO,hS,hl,λ_=>rfl⟩) λ_ _ _ _ _ z=>z
end Hv
end
section
namespace Hv
open PySem L2
inductive Pr (α:Type)
 |ok (a:α)|exc (c:Nat) (ds:List Val)|no
noncomputable def pb{α β:Type}(m:Pr α)(f:α -> Pr β):Pr β:=match m with
 |.ok a=>f a
 |.exc c ds=>.exc c ds
 |.no=>.no
noncomputable def pl{α:Type}(o:Option α):Pr α:=match o with
 |some a=>.ok a
 |none=>.no
noncomputable def pg{α:Type}(c:Bool)(m:Pr α):Pr α:=if c=true then m else .no
inductive Mk
 |sh|nw|ow
noncomputable def oA:Mk->Bool
 |.ow=>false
 |_=>true
noncomputable def OE:Mk->Bool
 |.nw=>true
 |_=>false
noncomputable abbrev bB:=List (Option (Mk×Val))
noncomputable abbrev FV:=Bool×Val
mutual
noncomputable def j3:Val->Bool
 |.rl _=>false
 |.dc _ _=>false
 |.ob _ _ _=>false
 |.ref _=>false
 |.tup vs=>bR vs
 |.non=>true
 |.bl _=>true
 |.int _=>true
 |.str _=>true
noncomputable def bR:List Val->Bool
 |[]=>true
 |v::vs=>j3 v&&bR vs
end
noncomputable def jO(f:Bool)(d:Val):Mk:=if (f && !j3 d)=true then .nw else .sh
noncomputable def putD(ks:List Key)(ds:List Val)(k:Key)(d:Val):Val:=.dc ((iL (ks.zip ds) k d).map (·.1)) ((iL (ks.zip ds) k d).map (·.2))
noncomputable def lM:HJ->Val->Val->Pr FV
 |.add,.int a,.int b=>.ok (true,.int (a+b))
 |.add,.str a,.str b=>pg (decide (a.length+b.length<=sizeLine)) (.ok (true,.str (a++b)))
 |.add,.tup a,.tup b=>pg (!a.isEmpty&&decide (a.length+b.length<=sizeLine)) (.ok (bR (a++b),.tup (a++b)))
 |.add,.rl a,.rl b=>pg (decide (a.length+b.length<=sizeLine)) (.ok (bR (a++b),.rl (a++b)))
 |.sub,.int a,.int b=>.ok (true,.int (a-b))
 |.mul,.int a,.int b=>pg (kD a b) (.ok (true,.int (a*b)))
 |.fdiv,.int a,.int b=>pg (gQ b) (.ok (true,.int (a/b)))
 |.mod,.int a,.int b=>pg (decide (0<b)) (.ok (true,.int (a%b)))
 |.pow,.int a,.int b=>pg (decide (0<=b/\b<=1000000/\a.natAbs<2 ^ 64)) (.ok (true,.int (a ^ b.toNat)))
 |_,_,_=>.no
noncomputable def Ca(v:Val)(lo hi:Option Int):Pr FV:=match v with
 |.tup vs=>pg (!(decide (HT.e9 vs.length 0 lo=0)&&decide (HT.e9 vs.length vs.length hi=vs.length))) (.ok (bR (ck vs lo hi),.tup (ck vs lo hi)))
 |.rl vs=>.ok (bR (ck vs lo hi),.rl (ck vs lo hi))
 |_=>.no
noncomputable def jP:Bl->List Val->Pr FV
 |.len,[v]=>pb (pl (mV [] v)) λn=>.ok (true,.int n)
 |.min,[.int a,.int b]=>.ok (true,.int (if b<a then b else a))
 |.max,[.int a,.int b]=>.ok (true,.int (if b>a then b else a))
 |.min,[v]=>pb (pl (dJ [] v)) λxs=>pb (pl ((bf xs).bind u7)) λm=>.ok (true,m)
 |.max,[v]=>pb (pl (dJ [] v)) λxs=>pb (pl ((bf xs).bind u9)) λm=>.ok (true,m)
 |.sorted,[.rl xs]=>pb (pl (fQ xs)) λys=>.ok (true,.rl ys)
 |.list,[v]=>pb (pl (dJ [] v)) λxs=>.ok (bR xs,.rl xs)
 |.int,[.bl b]=>.ok (true,.int (if b=true then 1 else 0))
 |.int,[.int i]=>.ok (true,.int i)
 |.all,[.rl xs]=>pb (pl (fY xs)) λbs=>.ok (true,.bl (bs.all id))
 |.isin T,[v]=>pb (pl (BQ [] v)) λt=>pb (pl (DL T t)) λb=>.ok (true,.bl b)
 |_,_=>.no
noncomputable def kK:Ik->List Val->Option (List Val)
 |.seq,[.tup vs]=>some vs
 |.seq,[.rl vs]=>some vs
 |.range,[.int n]=>if inR n then some (cz 0 n.toNat) else none
 |.range,[.int a,.int b]=>if inR a&&inR b then some (cz a (b-a).toNat) else none
 |.enum,[.rl vs]=>some (cS 0 vs)
 |_,_=>none
noncomputable def Ec(k:Ik)(ds:List Val):Option (List Val):=match k with
 |.zip=>none
 |k=>kK k ds
noncomputable def cH:List Nat->List Val->bB->Option bB
 |[],[],env=>some env
 |i::is,d::ds,env=>cH is ds (env.set i (some (.sh,d)))
 |_,_,_=>none
noncomputable def fD:z9->Val->bB->Option bB
 |.one i,d,env=>some (env.set i (some (.sh,d)))
 |.tup is,.tup ds,env=>cH is ds env
 |_,_,_=>none
noncomputable def fS(js:List (Option Nat))(env:bB):bB:=js.map λo=>match o with
 |none=>none
 | some j=>match env[j]? with
  |some (some d)=>some d
  |_=>none
noncomputable def j4(f:Val->Pr (Option FV)):List Val->Pr (Bool×List Val)
 |[]=>.ok (true,[])
 |x::r=>pb (f x) λo=>pb (j4 f r) λp=>.ok (match o with|some e=>(e.1&&p.1,e.2::p.2)|none=>p)
noncomputable def rA:Val->Pr Bool
 |.bl b=>.ok b
 |_=>.no
noncomputable def iM(env:bB):IE->Option FV
 | .var i=>match env[i]? with
  |some (some (_,d))=>some (j3 d,d)
  |_=>none
 |_=>none
noncomputable def isVar:IE->Bool
 |.var _=>true
 |_=>false
mutual
noncomputable def bI(Ψ:Nat->List Val->Pr FV):IE->bB->Pr FV
 | .var i,env=>match env[i]? with
  |some (some (m,d))=>pg (oA m) (.ok (j3 d,d))
  |_=>.no
 |.cst d,_=>.ok (j3 d,d)
 |.con _ d,_=>.ok (j3 d,d)
 |.no,_=>.no
 |.bin o a b,env=>pb (if isVar a=true then pl (iM env a) else bI Ψ a env) λx=>pb (if isVar b=true then pl (iM env b) else bI Ψ b env) λy=>lM o x.2 y.2
 | .neg a,env=>pb (bI Ψ a env) λx=>match x.2 with
  |.int i=>.ok (true,.int (-i))
  |_=>.no
 |.cmp o a b,env=>pb (if isVar a=true then pl (iM env a) else bI Ψ a env) λx=>pb (if isVar b=true then pl (iM env b) else bI Ψ b env) λy=>pb (pl (cop [] o x.2 y.2)) λt=>.ok (true,.bl t)
 |.chn _ _ _ _ _,_=>.no
 |.and a b,env=>pb (bI Ψ a env) λx=>pb (rA x.2) λt=>if t=true then pb (bI Ψ b env) λy=>pb (rA y.2) λu=>.ok (true,.bl u) else .ok (true,.bl false)
 |.or a b,env=>pb (bI Ψ a env) λx=>pb (rA x.2) λt=>if t=true then .ok (true,.bl true) else pb (bI Ψ b env) λy=>pb (rA y.2) λu=>.ok (true,.bl u)
 |.not a,env=>pb (bI Ψ a env) λx=>pb (rA x.2) λt=>.ok (true,.bl (!t))
 |.ite _ _ _,_=>.no
 |.tup es,env=>pb (vp Ψ es env) λp=>pg (decide (p.2.length<=sizeLine)) (.ok (p.1,.tup p.2))
 |.lst es,env=>pb (vp Ψ es env) λp=>pg (decide (p.2.length<=sizeLine)) (.ok (p.1,.rl p.2))
 |.idx a b,env=>pb (if isVar a=true then pl (iM env a) else bI Ψ a env) λx=>pb (bI Ψ b env) λy=>pb (pl (n5 [] x.2 y.2)) λz=>.ok (j3 z,z)
 |.slc a lo hi,env=>pb (if isVar a=true then pl (iM env a) else bI Ψ a env) λx=>pb (if dQ lo=true then .ok none else pb (bI Ψ lo env) λv=>pb (pl (jZ v.2)) λi=>.ok (some i)) λl=>
   pb (if dQ hi=true then .ok none else pb (bI Ψ hi env) λv=>pb (pl (jZ v.2)) λi=>.ok (some i)) λu=>Ca x.2 l u
 |.call j es,env=>pb (vp Ψ es env) λp=>Ψ j p.2
 |.blt b es,env=>pb (iz Ψ es env) λds=>jP b ds
 | .met m a es,env=>match m with
  |.join=>.no
  |_=>.no
 | .comp _ js pat k it c elt,env=>pb (iz Ψ it env) λits=>pb (pl (Ec k its)) λxs=>pg (decide (xs.length<=100000))
   (pb (j4 (λd=>pb (pl (fD pat d (fS js env))) λenv'=>pb (if dQ c=true then .ok true else pb (bI Ψ c env') λv=>pl (cB [] v.2)) λt=>
    if t=true then pb (bI Ψ elt env') λe=>.ok (some e) else .ok none) xs) λp=>.ok (p.1,.rl p.2))
 |.dct0,_=>.ok (true,.dc [] [])
 | .sset a,env=>pb (if isVar a=true then pl (iM env a) else bI Ψ a env) λx=>match x.2 with
  |.rl xs=>pb (pl (bf xs)) λns=>pg (decide (ns.length<64)) (.ok (true,.rl ((PySem.W.sortI (L2.ff [] ns)).map .int)))
  |_=>.no
 |.dget d k x,env=>pb (if isVar d=true then pl (iM env d) else bI Ψ d env) λo=>pb (pl (DK [] o.2)) λ_=>pb (bI Ψ k env) λi=>pb (pl (keyOf i.2)) λkk=>pb (bI Ψ x env) λz=>pb (pl (ze [] o.2 kk)) λr=>.ok (j3 (r.getD z.2),r.getD z.2)
 |.dct1 k v,env=>pb (bI Ψ k env) λx=>pb (pl (keyOf x.2)) λkk=>pb (bI Ψ v env) λy=>.ok (y.1,.dc [kk] [y.2])
 |.lkeys d,env=>pb (if isVar d=true then pl (iM env d) else bI Ψ d env) λo=>pb (pl (mU [] o.2)) λks=>.ok (true,.rl (ks.map BP))
 |.sdef ..,_=>.no
 |.svals _,_=>.no
 |.skeys d,env=>pb (if isVar d=true then pl (iM env d) else bI Ψ d env) λo=>pb (pl (kE [] o.2)) λns=>.ok (true,.rl (ns.map .int))
 |.fld n a x,env=>pb (if isVar a=true then pl (iM env a) else bI Ψ a env) λo=>pb (pl (jb n [] o.2 x)) λz=>.ok (j3 z,z)
 |.mth a m js es,env=>pb (bI Ψ a env) λo=>pb (pl (lJ [] o.2 m js)) λj=>pb (vp Ψ es env) λp=>Ψ j (o.2::p.2)
 |.rev _ _,_=>.no
 |.dflt _ _ _ _ d w,env=>pb (if isVar d=true then pl (iM env d) else bI Ψ d env) λo=>pb (pl (mU [] o.2)) λks=>pb (if isVar w=true then pl (iM env w) else bI Ψ w env) λv=>pb (pl (qP [] ks v.2)) λns=>.ok (true,.rl (ns.map .int))
 |.isc _ _ _,_=>.no
noncomputable def vp(Ψ:Nat->List Val->Pr FV):o7->bB->Pr (Bool×List Val)
 |.nil,_=>.ok (true,[])
 |.cons e es,env=>pb (bI Ψ e env) λd=>pb (vp Ψ es env) λp=>.ok (d.1&&p.1,d.2::p.2)
noncomputable def iz(Ψ:Nat->List Val->Pr FV):o7->bB->Pr (List Val)
 |.nil,_=>.ok []
 |.cons e es,env=>pb (if isVar e=true then pl (iM env e) else bI Ψ e env) λd=>pb (iz Ψ es env) λp=>.ok (d.2::p)
end
noncomputable def yu(Ψ:Nat->List Val->Pr FV)(e:IE)(env:bB):Pr FV:=if isVar e=true then pl (iM env e) else bI Ψ e env
inductive zo
 |nx (env:bB)|rt (p:FV)|bk (env:bB)|ct (env:bB)
mutual
noncomputable def tw:IS->List Nat
 |.expr (.met .append (.var i) _)=>[i]
 |.expr (.met .extend (.var i) _)=>[i]
 |.fX (.var i) _ _=>[i]
 |.iff _ a b=>gr a++gr b
 |.for _ _ _ b=>gr b
 |.whl _ _ b=>gr b
 |_=>[]
noncomputable def gr:eE->List Nat
 |.nil=>[]
 |.cons s r=>tw s++gr r
end
noncomputable def stored:z9->List Nat
 |.one i=>[i]
 |.tup is=>is
mutual
noncomputable def oB:IS->List Nat
 |.asg p _=>stored p
 |.aug i _ _=>[i]
 |.iff _ a b=>lW a++lW b
 |.for p _ _ b=>stored p++lW b
 |.whl _ _ b=>lW b
 |_=>[]
noncomputable def lW:eE->List Nat
 |.nil=>[]
 |.cons s r=>oB s++lW r
end
noncomputable def UW:IE->Bool
 |.lst _=>true
 |.comp ..=>true
 |.slc ..=>true
 |.blt .list _=>true
 |.blt .sorted _=>true
 |.dct0=>true
 |.dct1 ..=>true
 |_=>false
noncomputable def oE(body:Val->bB->Pr zo):List Val->bB->Pr zo
 |[],env=>.ok (.nx env)
 | x::r,env=>pb (body x env) λf=>match f with
  |.nx env'=>oE body r env'
  |.ct env'=>oE body r env'
  |.bk env'=>.ok (.nx env')
  |.rt p=>.ok (.rt p)
noncomputable def oF(c:bB->Pr Bool)(body:bB->Pr zo):Nat->bB->Pr zo
 |0,_=>.no
 | n+1,env=>pb (c env) λt=>if t=true then pb (body env) λf=>(match f with
   |.nx env'=>oF c body n env'
   |.ct env'=>oF c body n env'
   |.bk env'=>.ok (.nx env')
   |.rt p=>.ok (.rt p)) else .ok (.nx env)
noncomputable def YX:Mk->Mk
 |.ow=>.sh
 |m=>m
noncomputable def YY:Option (Mk×Val)->Option (Mk×Val)
 |none=>none
 |some (m,d)=>some (YX m,d)
noncomputable def kg(env:bB):bB:=env.map YY
noncomputable def S6(Ψ:Nat->List Val->Pr FV)(e:IE)(env:bB):Pr FV:=match e with
 | .var i=>match env[i]? with
  | some (some (m,d))=>if oA m=true then .ok (j3 d||OE m,d) else match d with
   |.rl ds=>.ok (bR ds,.rl ds)
   |.dc ks ds=>.ok (bR ds,.dc ks ds)
   |_=>.no
  |_=>.no
 |.call j es=>bI Ψ (.call j es) (kg env)
 |.tup es=>bI Ψ (.tup es) (kg env)
 |e=>bI Ψ e env
noncomputable def xB(p:z9)(it:o7)(body:eE):Bool:=match it with
 |.cons (.var i) .nil=>!(gr body).contains i && !(lW body).contains i && !(stored p).contains i
 |_=>true
mutual
noncomputable def aQ(Ψ:Nat->List Val->Pr FV)(ms:List Nat):IS->bB->Pr zo
 | .expr e,env=>match e with
  | .met .append (.var i) (.cons a .nil)=>match env[i]? with
   |some (some (.ow,.rl ds))=>pb (bI Ψ a env) λx=>pg (decide (ds.length<sizeLine)) (.ok (.nx (env.set i (some (.ow,.rl (ds++[x.2]))))))
   |_=>.no
  | .met .extend (.var i) (.cons a .nil)=>match env[i]? with
   | some (some (.ow,.rl ds))=>pb (bI Ψ a env) λx=>match x.2 with
    |.tup vs=>pg (decide (ds.length+vs.length<=sizeLine)) (.ok (.nx (env.set i (some (.ow,.rl (ds++vs))))))
    |_=>.no
   |_=>.no
  |e=>pb (bI Ψ e env) λ_=>.ok (.nx env)
 | .asg p e,env=>match p with
  | .one i=>if ms.contains i=true then pg (UW e) (pb (bI Ψ e env) λx=>match x.2 with
    |.rl ds=>.ok (.nx (env.set i (some (.ow,.rl ds))))
    |.dc ks ds=>.ok (.nx (env.set i (some (.ow,.dc ks ds))))
    |_=>.no) else pb (bI Ψ e env) λx=>.ok (.nx (env.set i (some (jO x.1 x.2,x.2))))
  |.tup is=>pg (is.all λi=>!ms.contains i) (pb (bI Ψ e env) λx=>pb (pl (fD (.tup is) x.2 env)) λenv'=>.ok (.nx env'))
 |.aug i o e,env=>pg (!ms.contains i) (pb (pl (match env[i]? with|some (some (_,.int x))=>some x|_=>none)) λx=>pb (bI Ψ e env) λv=>pb (pl (jZ v.2)) λy=>pb (lM o (.int x) (.int y)) λz=>.ok (.nx (env.set i (some (.sh,z.2)))))
 | .fX o i v,env=>match o with
  | .var j=>pb (bI Ψ v env) λx=>match env[j]? with
   |some (some (.ow,.rl ds))=>pb (bI Ψ i env) λz=>pb (pl (jZ z.2)) λk=>pb (pl (Bt ds.length k)) λn=>.ok (.nx (env.set j (some (.ow,.rl (ds.set n x.2)))))
   |some (some (.ow,.dc ks ds))=>pb (bI Ψ i env) λz=>pb (pl (keyOf z.2)) λk=>pg (decide (ks.length<sizeLine)) (.ok (.nx (env.set j (some (.ow,putD ks ds k x.2)))))
   |_=>.no
  |_=>.no
 |.iff c a b,env=>pb (yu Ψ c env) λx=>pb (pl (cB [] x.2)) λt=>if t=true then aV Ψ ms a env else aV Ψ ms b env
 |.for p k it body,env=>pg (xB p it body&&(stored p).all λi=>!ms.contains i) (pb (iz Ψ it env) λits=>pb (pl (kK k its)) λxs=>
   oE (λx env=>pb (pl (fD p x env)) λenv'=>aV Ψ ms body env') xs env)
 |.whl n c body,env=>oF (λenv=>pb (yu Ψ c env) λx=>pl (cB [] x.2)) (aV Ψ ms body) n env
 |.ret e,env=>pb (S6 Ψ e env) λp=>.ok (.rt p)
 |.HK,_=>.ok (.rt (true,.non))
 |.brk,env=>.ok (.bk env)
 |.cnt,env=>.ok (.ct env)
 |.pass,env=>.ok (.nx env)
 |.never,_=>.no
 |.setF _ _ _ _,_=>.no
noncomputable def aV(Ψ:Nat->List Val->Pr FV)(ms:List Nat):eE->bB->Pr zo
 |.nil,env=>.ok (.nx env)
 | .cons s r,env=>pb (aQ Ψ ms s env) λf=>match f with
  |.nx env'=>aV Ψ ms r env'
  |f=>.ok f
end
noncomputable def eG(Ψ:Nat->List Val->Pr FV)(n:Nat)(body:eE)(ds:List Val):Pr FV :=
 pb (aV Ψ (gr body) body (ds.map (λd=>some (.sh,d))++replicate (n-ds.length) none)) λf=>match f with
  |.nx _=>.ok (true,.non)
  |.rt p=>.ok p
  |_=>.no
end Hv
end
section
namespace Hv
open PySem L2
noncomputable abbrev AP:=Option Nat->Prop
noncomputable def Fr(n:Nat):AP:=λo=>match o with
 |none=>False
 |some k=>n<=k
theorem Fr.le{n m:Nat}(h:n<=m):∀o,Fr m o->Fr n o
 |none,e=>e
 |some k,e=>le_trans h e
mutual
noncomputable def Dn(A:AP)(h:Hs):Val->Val->Prop
 |.non,v=>v=.non
 |.bl b,v=>v=.bl b
 |.int i,v=>v=.int i
 |.str x,v=>v=.str x
 |.tup ds,v=>∃vs,v=.tup vs/\au A h ds vs
 |.rl ds,v=>(∃vs,v=.rl vs/\A none/\au A h ds vs)\/∃i vs,v=.ref i/\A (some i)/\h[i]?=some (.lst vs)/\au A h ds vs
 |.dc ks ds,v=>∃i kvs,v=.ref i/\A (some i)/\h[i]?=some (.dct kvs)/\kvs.map (·.1)=ks/\au A h ds (kvs.map (·.2))
 |.ob c xs ds,v=>∃i fs,v=.ref i/\A (some i)/\h[i]?=some (.ins c fs)/\fs.map (·.1)=xs/\au A h ds (fs.map (·.2))
 |.ref _,_=>False
noncomputable def au(A:AP)(h:Hs):List Val->List Val->Prop
 |[],vs=>vs=[]
 |d::ds,vs=>∃v r,vs=v::r/\Dn A h d v/\au A h ds r
end
section
variable {A A':AP} {h h' h1:Hs}
mutual
theorem Dn.mono(hA:∀i,A i->A' i)(hh:∀(i:Nat) (o:Ob),A (some i)->h[i]?=some o->h'[i]?=some o):∀(d v:Val),Dn A h d v->Dn A' h' d v
 |.non,v,e=>by rw[Dn]at e |-;exact e
 |.bl _,v,e=>by rw[Dn]at e |-;exact e
 |.int _,v,e=>by rw[Dn]at e |-;exact e
 |.str _,v,e=>by rw[Dn]at e |-;exact e
 | .tup ds,v,e=>by
  rw[Dn]at e |-;obtain⟨vs,rfl,q⟩:=e;exact⟨vs,rfl,au.mono hA hh ds vs q⟩
 | .rl ds,v,e=>by
  rw[Dn]at e |-
  rcases e with ⟨vs,rfl,n,q⟩|⟨i,vs,rfl,a,g,q⟩
  ·exact .inl ⟨vs,rfl,hA _ n,au.mono hA hh ds vs q⟩
  ·exact .inr ⟨i,vs,rfl,hA _ a,hh i _ a g,au.mono hA hh ds vs q⟩
 | .dc ks ds,v,e=>by
  rw[Dn]at e |-;obtain⟨i,kvs,rfl,a,g,k,q⟩:=e;exact⟨i,kvs,rfl,hA _ a,hh i _ a g,k,au.mono hA hh ds _ q⟩
 | .ob c xs ds,v,e=>by
  rw[Dn]at e |-;obtain⟨i,kvs,rfl,a,g,k,q⟩:=e;exact⟨i,kvs,rfl,hA _ a,hh i _ a g,k,au.mono hA hh ds _ q⟩
 |.ref _,v,e=>by rw[Dn]at e;exact e.elim
theorem au.mono(hA:∀i,A i->A' i)(hh:∀(i:Nat) (o:Ob),A (some i)->h[i]?=some o->h'[i]?=some o):∀(ds vs:List Val),au A h ds vs->au A' h' ds vs
 |[],vs,e=>by rw[au]at e |-;exact e
 | d::ds,vs,e=>by
  rw[au]at e |-;obtain⟨v,r,rfl,q1,q2⟩:=e;exact⟨v,r,rfl,Dn.mono hA hh d v q1,au.mono hA hh ds r q2⟩
end
theorem cF{i:Nat}(p:h<+:h')(e:h[i]?=some o):h'[i]?=some o:=by
 obtain⟨t,rfl⟩:=p;have hi:i<h.length:=(List.getElem?_eq_some_iff.mp e).1;rw[getElem?_append_left hi];exact e
theorem Dn.ext(p:h<+:h')(e:Dn A h d v):Dn A h' d v:=Dn.mono (λ_ a=>a) (λ_ _ _ q=>cF p q) d v e
theorem au.ext(p:h<+:h')(e:au A h d v):au A h' d v:=au.mono (λ_ a=>a) (λ_ _ _ q=>cF p q) d v e
theorem Dn.iK(hA:∀i,A i->A' i)(e:Dn A h d v):Dn A' h d v:=Dn.mono hA (λ_ _ _ q=>q) d v e
theorem au.iK(hA:∀i,A i->A' i)(e:au A h d v):au A' h d v:=au.mono hA (λ_ _ _ q=>q) d v e
mutual
theorem je:∀(d v:Val),j3 d=true->(Dn A h d v↔v=d)
 |.non,v,_=>by rw[Dn]
 |.bl _,v,_=>by rw[Dn]
 |.int _,v,_=>by rw[Dn]
 |.str _,v,_=>by rw[Dn]
 | .tup ds,v,e=>by
  rw[j3]at e;rw[Dn];constructor
  ·rintro⟨vs,rfl,q⟩;rw[(aS ds vs e).mp q]
  ·rintro rfl;exact⟨ds,rfl,(aS ds ds e).mpr rfl⟩
 |.rl _,v,e=>by rw[j3]at e;cases e
 |.dc _ _,v,e=>by rw[j3]at e;cases e
 |.ob _ _ _,v,e=>by rw[j3]at e;cases e
 |.ref _,v,e=>by rw[j3]at e;cases e
theorem aS:∀(ds vs:List Val),bR ds=true->(au A h ds vs↔vs=ds)
 |[],vs,_=>by rw[au]
 | d::ds,vs,e=>by
  rw[bR,and_eq_true]at e;rw[au];constructor
  ·rintro⟨v,r,rfl,q1,q2⟩;rw[(je d v e.1).mp q1,(aS ds r e.2).mp q2]
  ·rintro rfl;exact⟨d,ds,rfl,(je d d e.1).mpr rfl,(aS ds ds e.2).mpr rfl⟩
end
theorem au.nil:au A h [] []:=by rw[au]
theorem au.cons{d v:Val}{ds vs:List Val}(a:Dn A h d v)(b:au A h ds vs):au A h (d::ds) (v::vs):=by rw[au];exact⟨v,vs,rfl,a,b⟩
theorem au.length:∀{ds vs:List Val},au A h ds vs->ds.length=vs.length
 |[],vs,e=>by rw[au]at e;subst e;rfl
 |d::ds,vs,e=>by rw[au]at e;obtain⟨v,r,rfl,_,q⟩:=e;simp[au.length q]
theorem au.get:∀{ds vs:List Val} {i:Nat} {d:Val},au A h ds vs->ds[i]?=some d->∃v,vs[i]?=some v/\Dn A h d v
 |[],vs,i,d,e,q=>by simp at q
 | c::ds,vs,0,d,e,q=>by
  rw[au]at e;obtain⟨v,r,rfl,a,_⟩:=e;simp at q;subst q;exact⟨v,rfl,a⟩
 | c::ds,vs,i+1,d,e,q=>by
  rw[au]at e;obtain⟨v,r,rfl,_,b⟩:=e;simp at q;obtain⟨w,q1,q2⟩:=au.get b q;exact⟨w,by simpa using q1,q2⟩
theorem au.append:∀{ds es vs ws:List Val},au A h ds vs->au A h es ws->au A h (ds++es) (vs++ws)
 |[],es,vs,ws,e,q=>by rw[au]at e;subst e;exact q
 | d::ds,es,vs,ws,e,q=>by
  rw[au]at e;obtain⟨v,r,rfl,a,b⟩:=e;exact au.cons a (au.append b q)
theorem au.take:∀{ds vs:List Val} (n:Nat),au A h ds vs->au A h (ds.take n) (vs.take n)
 |_,_,0,_=>by simp;exact au.nil
 |[],vs,n+1,e=>by rw[au]at e;subst e;simp;exact au.nil
 | d::ds,vs,n+1,e=>by
  rw[au]at e;obtain⟨v,r,rfl,a,b⟩:=e;exact au.cons a (au.take n b)
theorem au.drop:∀{ds vs:List Val} (n:Nat),au A h ds vs->au A h (ds.drop n) (vs.drop n)
 |_,_,0,e=>by simpa using e
 |[],vs,n+1,e=>by rw[au]at e;subst e;simp;exact au.nil
 | d::ds,vs,n+1,e=>by
  rw[au]at e;obtain⟨v,r,rfl,a,b⟩:=e;exact au.drop n b
theorem au.cut(lo hi:Option Int)(e:au A h ds vs):au A h (ck ds lo hi) (ck vs lo hi):=by
 unfold ck;rw[e.length];exact au.take _ (au.drop _ e)
theorem au.app:∀{ds es vs ws:List Val},au A h ds vs->au A h es ws->au A h (ds++es) (vs++ws)
 |[],_,vs,_,e,q=>by rw[au]at e;subst e;exact q
 | d::ds,_,vs,_,e,q=>by
  rw[au]at e;obtain⟨v,r,rfl,a,b⟩:=e;rw[cons_append,cons_append,au];exact⟨v,_,rfl,a,au.app b q⟩
theorem au.set:∀{ds vs:List Val} (n:Nat) {d v:Val},au A h ds vs->Dn A h d v->au A h (ds.set n d) (vs.set n v)
 |[],vs,n,d,v,e,q=>by rw[au]at e;subst e;simp;exact au.nil
 | c::ds,vs,0,d,v,e,q=>by
  rw[au]at e;obtain⟨w,r,rfl,a,b⟩:=e;exact au.cons q b
 | c::ds,vs,n+1,d,v,e,q=>by
  rw[au]at e;obtain⟨w,r,rfl,a,b⟩:=e;exact au.cons a (au.set n b q)
theorem au.kj{i:Int}(e:au A h ds vs)(q:L2.kj ds i=some d):∃v,L2.kj vs i=some v/\Dn A h d v:=by
 unfold L2.kj at q |-;rw[e.length]at q;cases hi:L2.Bt vs.length i with
 |none=>rw[hi]at q;cases q
 |some n=>rw[hi]at q;exact au.get e q
theorem au.one(e:au A h [d] vs):∃v,vs=[v]/\Dn A h d v:=by
 rw[au]at e;obtain⟨v,r,rfl,a,b⟩:=e;rw[au]at b;subst b;exact⟨v,rfl,a⟩
noncomputable def OD(A:AP)(h:Hs)(d:Val)(a:Nat):Prop:=match d with
 |.rl ds=>∃vs,h[a]?=some (.lst vs)/\au A h ds vs
 |.dc ks ds=>∃kvs,h[a]?=some (.dct kvs)/\kvs.map (·.1)=ks/\au A h ds (kvs.map (·.2))
 |_=>False
theorem OD.mono{a:Nat}(e:OD A h d a)(ho:∀o,h[a]?=some o->h'[a]?=some o)(hq:∀ds vs,au A h ds vs->au A' h' ds vs):OD A' h' d a:=by
 cases d with
 |rl ds=>obtain⟨vs,g,q⟩:=e;exact⟨vs,ho _ g,hq _ _ q⟩
 |dc ks ds=>obtain⟨kvs,g,k,q⟩:=e;exact⟨kvs,ho _ g,k,hq _ _ q⟩
 |_=>exact False.elim e
theorem OD.ext{a:Nat}(p:h<+:h')(e:OD A h d a):OD A h' d a:=e.mono (λ_ g=>cF p g) λ_ _ q=>q.ext p
theorem OD.lt{a:Nat}(e:OD A h d a):a<h.length:=by
 cases d with
 |rl ds=>obtain⟨vs,g,q⟩:=e;exact(List.getElem?_eq_some_iff.mp g).1
 |dc ks ds=>obtain⟨kvs,g,k,q⟩:=e;exact(List.getElem?_eq_some_iff.mp g).1
 |_=>exact False.elim e
theorem OD.dn{a:Nat}(e:OD A h d a)(ha:A (.some a)):Dn A h d (.ref a):=by
 cases d with
 |rl ds=>obtain⟨vs,g,q⟩:=e;rw[Dn];exact .inr ⟨a,vs,rfl,ha,g,q⟩
 |dc ks ds=>obtain⟨kvs,g,k,q⟩:=e;rw[Dn];exact⟨a,kvs,rfl,ha,g,k,q⟩
 |_=>exact False.elim e
noncomputable def OB(A:AP)(h:Hs)(d:Val)(o:Ob):Prop:=match d with
 |.rl ds=>∃vs,o=.lst vs/\au A h ds vs
 |.dc ks ds=>∃kvs,o=.dct kvs/\kvs.map (·.1)=ks/\au A h ds (kvs.map (·.2))
 |_=>False
theorem OB.od{a:Nat}(e:OB A h d o)(g:h'[a]?=.some o)(hq:∀ds vs,au A h ds vs->au A' h' ds vs):OD A' h' d a:=by
 cases d with
 |rl ds=>obtain⟨vs,rfl,q⟩:=e;exact⟨vs,g,hq _ _ q⟩
 |dc ks ds=>obtain⟨kvs,rfl,k,q⟩:=e;exact⟨kvs,g,k,hq _ _ q⟩
 |_=>exact False.elim e
noncomputable def DB(A:AP)(h:Hs)(d v:Val):Prop:=Dn A h d v\/∃i,v=.ref i/\OD A h d i
theorem DB.all(e:DB A h d v):Dn (λ_=>True) h d v:=by
 rcases e with e|⟨i,rfl,q⟩
 ·exact e.iK λ_ _=>trivial
 ·exact(q.mono (A':=λ_=>True) (λ_ g=>g) λ_ _ z=>z.iK λ_ _=>trivial).dn trivial
theorem DB.ext(p:h<+:h')(e:DB A h d v):DB A h' d v:=by
 rcases e with e|⟨i,rfl,q⟩
 ·exact .inl (e.ext p)
 ·exact .inr ⟨i,rfl,q.ext p⟩
theorem DB.dc(e:DB A h (.dc ks ds) v):∃i kvs,v=.ref i/\h[i]?=some (.dct kvs)/\kvs.map (·.1)=ks/\au A h ds (kvs.map (·.2)):=by
 rcases e with e|⟨i,rfl,kvs,g,k,q⟩
 ·rw[Dn]at e;obtain⟨i,kvs,rfl,_,g,k,q⟩:=e;exact⟨i,kvs,rfl,g,k,q⟩
 ·exact⟨i,kvs,rfl,g,k,q⟩
theorem DB.lst(e:DB A h (.rl ds) v):∃vs,aE h v=some vs/\au A h ds vs:=by
 rcases e with e|⟨i,rfl,vs,g,q⟩
 ·rw[Dn]at e
  rcases e with ⟨vs,rfl,_,q⟩|⟨i,vs,rfl,_,g,q⟩
  ·exact⟨vs,rfl,q⟩
  ·exact⟨vs,by simp[aE,g],q⟩
 ·exact⟨vs,by simp[aE,g],q⟩
theorem DB.seq(e:DB A h d v)(q:dJ [] d=some ds):∃vs,dJ h v=some vs/\au A h ds vs:=by
 cases d with
 |tup es=>
  simp only[dJ]at q;cases q
  rcases e with e|⟨_,_,e1⟩
  ·rw[Dn]at e;obtain⟨vs,rfl,q⟩:=e;exact⟨vs,rfl,q⟩
  ·exact False.elim e1
 |rl es=>simp only[dJ,aE]at q;cases q;obtain⟨vs,q1,q2⟩:=e.lst;refine⟨vs,?_,q2⟩;cases v<;>first|(simp[aE]at q1;done)|exact q1
 |ref i=>simp[dJ,aE]at q
 |_=>simp[dJ,aE]at q
theorem DB.int{i:Int}(e:DB A h (.int i) v):v=.int i:=by
 rcases e with e|⟨_,_,e1⟩
 ·rw[Dn]at e;exact e
 ·exact False.elim e1
theorem DB.str(e:DB A h (.str i) v):v=.str i:=by
 rcases e with e|⟨_,_,e1⟩
 ·rw[Dn]at e;exact e
 ·exact False.elim e1
theorem DB.bl{i:Bool}(e:DB A h (.bl i) v):v=.bl i:=by
 rcases e with e|⟨_,_,e1⟩
 ·rw[Dn]at e;exact e
 ·exact False.elim e1
theorem DB.tup(e:DB A h (.tup ds) v):∃vs,v=.tup vs/\au A h ds vs:=by
 rcases e with e|⟨_,_,e1⟩
 ·rw[Dn]at e;exact e
 ·exact False.elim e1
theorem vq:∀(n:Nat) (d v:Val) (p:PyData),Dn (λ_=>True) h d v->toD n [] d=some p->toD n h v=some p:=by
 intro n
 induction n with
 |zero=>intro d v p _ e;simp[toD]at e
 |succ n ih=>
  have all:∀(ds vs:List Val) (ps:List PyData),au (λ_=>True) h ds vs->cj (toD n []) ds=some ps->cj (toD n h) vs=some ps:=by
   intro ds
   induction ds with
   |nil=>intro vs ps q e;rw[au]at q;subst q;exact e
   |cons d ds ihd=>intro vs ps q e;rw[au]at q;obtain⟨v,r,rfl,q1,q2⟩:=q;simp only[cj]at e |-;obtain⟨x,e1,e⟩:=bind_eq_some_iff.mp e;obtain⟨xs,e2,e⟩:=bind_eq_some_iff.mp e;rw[ih d v x q1 e1,ihd r xs q2 e2];exact e
  intro d v p q e;cases d with
  |non=>rw[Dn]at q;subst q;exact e
  |bl b=>rw[Dn]at q;subst q;exact e
  |int b=>rw[Dn]at q;subst q;exact e
  |str b=>rw[Dn]at q;subst q;exact e
  |tup ds=>rw[Dn]at q;obtain⟨vs,rfl,q⟩:=q;simp only[toD]at e |-;obtain⟨ps,e1,e⟩:=bind_eq_some_iff.mp e;rw[all ds vs ps q e1];exact e
  |rl ds=>
   rw[Dn]at q;simp only[toD]at e;obtain⟨ps,e1,e⟩:=bind_eq_some_iff.mp e
   rcases q with ⟨vs,rfl,_,q⟩|⟨i,vs,rfl,_,g,q⟩
   ·simp only[toD];rw[all ds vs ps q e1];exact e
   ·simp only[toD,aE,g,bind_some];rw[all ds vs ps q e1];exact e
  |dc ks ds=>simp[toD]at e
  |ob c xs ds=>simp[toD]at e
  |ref i=>rw[Dn]at q;exact q.elim
theorem J3{b:Bool}(a:DB A h d v)(c:DB A h e w)(q:Cv [] d e=some b):Cv h v w=some b:=by
 unfold Cv at q |-;obtain⟨x,e1,q⟩:=bind_eq_some_iff.mp q;obtain⟨y,e2,q⟩:=bind_eq_some_iff.mp q;rw[vq 16 d v x a.all e1,vq 16 e w y c.all e2];exact q
theorem Ed(a:DB A h d v):qN v=qN d:=by
 rcases a with a|⟨i,rfl,q⟩
 ·cases d<;>rw[Dn]at a
  ·subst a;rfl
  ·subst a;rfl
  ·subst a;rfl
  ·subst a;rfl
  ·obtain⟨vs,rfl,_⟩:=a;rfl
  ·rcases a with ⟨vs,rfl,_⟩|⟨i,vs,rfl,_⟩<;>rfl
  ·obtain⟨i,kvs,rfl,_⟩:=a;rfl
  ·obtain⟨i,kvs,rfl,_⟩:=a;rfl
  ·exact a.elim
 ·cases d<;>first|exact False.elim q|rfl
theorem Ef{b:Bool}(q:memD h v (.str y)=some b):False:=by
 unfold memD at q;obtain⟨x,e1,q⟩:=bind_eq_some_iff.mp q;obtain⟨z,e2,q⟩:=bind_eq_some_iff.mp q;simp only[toD]at e1;split at e1<;>cases e1;simp[LQ]at q
theorem Eg{b:Bool}(a:DB A h d v)(c:DB A h e w)(q:vc [] d e=some b):vc h v w=some b:=by
 have data:memD [] d e=some b->memD h v w=some b:=λq=>by
  unfold memD at q |-;obtain⟨x,e1,q⟩:=bind_eq_some_iff.mp q;obtain⟨y,e2,q⟩:=bind_eq_some_iff.mp q;rw[vq 16 e w x c.all e1,vq 16 d v y a.all e2];exact q
 cases e with
 |str y=>
  have:=c.str;subst this;cases d with
  |str x=>have:=a.str;subst this;exact q
  |_=>exact(Ef (data q)).elim
 |tup es=>obtain⟨ws,rfl,_⟩:=c.tup;have q':=data (by cases d<;>exact q);cases v<;>exact q'
 |rl es=>
  have q':=data (by cases d<;>exact q)
  rcases c with c|⟨i,rfl,vs,g,q2⟩
  ·rw[Dn]at c
   rcases c with ⟨ws,rfl,_⟩|⟨i,ws,rfl,_,g,_⟩
   ·cases v<;>exact q'
   ·cases v<;>(show (h[i]?).bind _=_;rw[g];exact q')
  ·cases v<;>(show (h[i]?).bind _=_;rw[g];exact q')
 |dc ks es=>
  obtain⟨i,kvs,rfl,g,hk,_⟩:=c.dc
  ·skip
   have q':(keyOf d).bind (λk=>some (ks.any λj=>decide (j=k)))=some b:=by cases d<;>exact q
   obtain⟨kk,e1,q'⟩:=bind_eq_some_iff.mp q';have ev:keyOf v=some kk:=by
    cases d<;>simp only[keyOf]at e1<;>first|(cases e1;done)|skip
    ·have:=a.int;subst this;exact e1
    ·have:=a.str;subst this;exact e1
   have:(bZ kvs kk).isSome=(ks.any λj=>decide (j=kk)):=by
    subst hk;unfold bZ;rw[isSome_map,any_map];have key:∀l:List (Key×Val),(List.find? (λkv=>decide (kv.fst=kk)) l).isSome=l.any ((λj=>decide (j=kk))∘λx=>x.fst):=by
     intro l
     induction l with
     |nil=>rfl
     |cons x l ih=>
      rw[find?_cons,any_cons]
      by_cases hx:x.1=kk
      ·simp[hx]
      ·simp[hx];simpa using ih
    exact key kvs
   have fin:HL h v i (.dct kvs)=some b:=by simp only[HL,ev,bind_some,this];exact q'
   cases v<;>(show (h[i]?).bind _=_;rw[g];exact fin)
 |ref i=>
  rcases c with c|⟨_,_,e1⟩
  ·rw[Dn]at c;exact c.elim
  ·exact False.elim e1
 |ob cc xs es=>
  have q':memD [] d (.ob cc xs es)=some b:=by cases d<;>exact q
  unfold memD at q';obtain⟨x,e1,q'⟩:=bind_eq_some_iff.mp q';simp[toD]at e1
 |non=>
  have q':=data (by cases d<;>exact q);have:w=.non:=by
   rcases c with c|⟨_,_,e1⟩
   ·rw[Dn]at c;exact c
   ·exact False.elim e1
  subst this;cases v<;>exact q'
 |bl x=>
  have q':=data (by cases d<;>exact q);have:w=.bl x:=by
   rcases c with c|⟨_,_,e1⟩
   ·rw[Dn]at c;exact c
   ·exact False.elim e1
  subst this;cases v<;>exact q'
 |int x=>
  have q':=data (by cases d<;>exact q);have:w=.int x:=by
   rcases c with c|⟨_,_,e1⟩
   ·rw[Dn]at c;exact c
   ·exact False.elim e1
  subst this;cases v<;>exact q'
theorem Eh{b:Bool}(a:DB A h d v)(c:DB A h e w)(q:JV d e=some b):JV v w=some b:=by
 cases e<;>first|(cases q;done)|skip
 ·have:w=.non:=by
   rcases c with c|⟨_,_,e1⟩
   ·rw[Dn]at c;exact c
   ·exact False.elim e1
  subst this;show some (qN v)=_;rw[Ed a];exact q
 ·have:=c.bl;subst this
  cases d<;>first|(cases q;done)|skip
  have:=a.bl;subst this;exact q
theorem MZ{b:Bool}(a:DB A h d v)(c:DB A h e w)(q:cop [] o d e=some b):cop h o v w=some b:=by
 cases o with
 |eq=>exact J3 a c q
 |ne=>obtain⟨x,e1,e2⟩:=map_eq_some_iff.mp (show (Cv [] d e).map _=some b from q);show (Cv h v w).map _=_;rw[J3 a c e1];exact congrArg some e2
 |isn=>exact Eh a c q
 |ntn=>obtain⟨x,e1,e2⟩:=map_eq_some_iff.mp (show (JV d e).map _=some b from q);show (JV v w).map _=_;rw[Eh a c e1];exact congrArg some e2
 |sO=>exact Eg a c q
 |nin=>obtain⟨x,e1,e2⟩:=map_eq_some_iff.mp (show (vc [] d e).map _=some b from q);show (vc h v w).map _=_;rw[Eg a c e1];exact congrArg some e2
 |lt=>obtain⟨i,j,rfl,rfl⟩:=kG (.inl rfl) q;have:=a.int;subst this;have:=c.int;subst this;exact q
 |le=>obtain⟨i,j,rfl,rfl⟩:=kG (.inr (.inl rfl)) q;have:=a.int;subst this;have:=c.int;subst this;exact q
 |gt=>obtain⟨i,j,rfl,rfl⟩:=kG (.inr (.inr (.inl rfl))) q;have:=a.int;subst this;have:=c.int;subst this;exact q
 |ge=>obtain⟨i,j,rfl,rfl⟩:=kG (.inr (.inr (.inr rfl))) q;have:=a.int;subst this;have:=c.int;subst this;exact q
theorem vv{b:Bool}(a:DB A h d v)(q:cB [] d=some b):cB h v=some b:=by
 cases d with
 |rl ds=>
  obtain⟨vs,q1,q2⟩:=a.lst;have l:=q2.length;have e:(!ds.isEmpty) = !vs.isEmpty:=by cases ds<;>cases vs<;>simp_all
  simp only[cB]at q;rw[e]at q;cases v<;>simp only[aE]at q1<;>first|(cases q1;done)|skip
  ·cases q1;exact q
  ·split at q1<;>cases q1;rename_i g;simp only[cB,g];exact q
 |tup ds=>
  obtain⟨vs,rfl,q2⟩:=a.tup;have l:=q2.length;have e:(!ds.isEmpty) = !vs.isEmpty:=by cases ds<;>cases vs<;>simp_all
  simp only[cB]at q |-;rw[<-e];exact q
 |dc ks ds=>obtain⟨i,kvs,rfl,g,hk,_⟩:=a.dc;subst hk;simp only[cB,g]at q |-;rw[<-q];cases kvs<;>rfl
 |ob c xs ds=>cases q
 |ref i=>
  rcases a with a|⟨_,_,e1⟩
  ·rw[Dn]at a;exact a.elim
  ·exact False.elim e1
 |non=>
  rcases a with a|⟨_,_,e1⟩
  ·rw[Dn]at a;subst a;exact q
  ·exact False.elim e1
 |bl b=>have:=a.bl;subst this;exact q
 |int b=>have:=a.int;subst this;exact q
 |str b=>have:=a.str;subst this;exact q
theorem M0{n:Nat}(a:DB A h d v)(q:mV [] d=some n):mV h v=some n:=by
 cases d with
 |rl ds=>
  obtain⟨vs,q1,q2⟩:=a.lst;have l:=q2.length;simp only[mV]at q;rw[l]at q;cases v<;>simp only[aE]at q1<;>first|(cases q1;done)|skip
  ·cases q1;exact q
  ·split at q1<;>cases q1;rename_i g;simp only[mV,g];exact q
 |tup ds=>obtain⟨vs,rfl,q2⟩:=a.tup;simp only[mV]at q |-;rw[<-q2.length];exact q
 |dc ks ds=>obtain⟨i,kvs,rfl,g,hk,_⟩:=a.dc;subst hk;simp only[mV,g]at q |-;rw[<-q];simp
 |str b=>have:=a.str;subst this;exact q
 |_=>simp[mV]at q
theorem Qw{t:String}(a:DB A h d v)(q:BQ [] d=some t):BQ h v=some t:=by
 cases d with
 |rl ds=>
  obtain⟨vs,q1,q2⟩:=a.lst;cases v<;>simp only[aE]at q1<;>first|(cases q1;done)|skip
  ·exact q
  ·split at q1<;>cases q1;rename_i g;simp only[BQ,g];exact q
 |tup ds=>obtain⟨vs,rfl,q2⟩:=a.tup;exact q
 |dc ks ds=>obtain⟨i,kvs,rfl,g,hk,_⟩:=a.dc;simp only[BQ,g]at q |-;exact q
 |ob c xs ds=>cases q
 |ref i=>
  rcases a with a|⟨_,_,e1⟩
  ·rw[Dn]at a;exact a.elim
  ·exact False.elim e1
 |non=>
  rcases a with a|⟨_,_,e1⟩
  ·rw[Dn]at a;subst a;exact q
  ·exact False.elim e1
 |bl b=>have:=a.bl;subst this;exact q
 |int b=>have:=a.int;subst this;exact q
 |str b=>have:=a.str;subst this;exact q
theorem qc:∀{kvs:List (Key×Val)} {ks:List Key} {ds:List Val} {z:Val},kvs.map (·.1)=ks->au A h ds (kvs.map (·.2))->bZ (ks.zip ds) k=some z->∃v,bZ kvs k=some v/\Dn A h z v
 |[],ks,ds,z,hk,q,e=>by subst hk;simp[bZ]at e
 | (k',v')::kvs,ks,ds,z,hk,q,e=>by
  subst hk;have l:=q.length;cases ds with
  |nil=>simp at l
  |cons d ds=>
   simp only[map_cons]at q;rw[au]at q;obtain⟨v,r,e1,q1,q2⟩:=q;cases e1
   by_cases hkk:k'=k
   ·subst hkk;simp[bZ]at e |-;subst e;exact q1
   ·have e':bZ ((kvs.map (·.1)).zip ds) k=some z:=by simpa [bZ,hkk] using e
    obtain⟨w,a1,a2⟩:=qc rfl q2 e';exact⟨w,by simpa [bZ,hkk] using a1,a2⟩
theorem DB.o9{j:Nat}(c:DB A h (.ref j) v):False:=by
 rcases c with c|⟨_,_,e1⟩
 ·rw[Dn]at c;exact c
 ·exact e1
theorem Au:∀{kvs:List (Key×Val)} {ds:List Val},au A h ds (kvs.map (·.2))->bZ ((kvs.map (·.1)).zip ds) k=none->bZ kvs k=none
 |[],ds,q,e=>rfl
 | (k',v')::kvs,ds,q,e=>by
  cases ds with
  |nil=>rw[au]at q;cases q
  |cons d ds=>
   rw[map_cons,au]at q;obtain⟨v,r,eq,q1,q2⟩:=q;cases eq;unfold bZ at e |-;rw[map_cons,zip_cons_cons,find?_cons]at e;rw[find?_cons]
   by_cases hk:k'=k
   ·simp[hk]at e
   ·simp only[hk,decide_false]at e |-;exact Au q2 e
theorem zp(a:Dn A h d v)(e:keyOf d=some kk):keyOf v=some kk:=by
 cases d<;>first|(cases e;done)|skip
 ·rw[Dn]at a;subst a;exact e
 ·rw[Dn]at a;subst a;exact e
theorem M3(a:DB A h o v)(e:ze [] o k=some r):∃r',ze h v k=some r'/\∀z z',Dn A h z z'->Dn A h (r.getD z) (r'.getD z'):=by
 cases o<;>first|(cases e;done)|(exact(DB.o9 a).elim)|skip
 rename_i ks ds;obtain⟨i,kvs,rfl,g,hk,q⟩:=a.dc;cases e;have eg:ze h (.ref i) k=some (bZ kvs k):=by show (match h[i]? with|some (.dct kvs)=>some (bZ kvs k)|_=>none)=_;rw[g]
 refine⟨_,eg,λz z' hz=>?_⟩;cases ev:bZ (ks.zip ds) k with
 |none=>subst hk;rw[Au q ev];exact hz
 |some d=>obtain⟨u,e1,e2⟩:=qc hk q ev;rw[e1];exact e2
theorem rD(a:DB A h o v)(e:mU [] o=some ks):mU h v=some ks:=by
 cases o<;>first|(cases e;done)|(exact(DB.o9 a).elim)|skip
 obtain⟨i,kvs,rfl,g,hk,q⟩:=a.dc;cases e;show (match h[i]? with|some (.dct kvs)=>some (kvs.map (λkv:Key×Val=>kv.1))|_=>none)=_;rw[g];exact congrArg some hk
theorem m8:∀ks:List Key,bR (ks.map BP)=true
 |[]=>rfl
 |.inl _::ks=>by rw[map_cons,bR,m8 ks];rfl
 |.inr _::ks=>by rw[map_cons,bR,m8 ks];rfl
theorem ID{u:Unit}(a:DB A h o v)(e:DK [] o=some u):DK h v=some u:=by
 cases o<;>first|(cases e;done)|(exact(DB.o9 a).elim)|skip
 obtain⟨i,kvs,rfl,g,hk,q⟩:=a.dc;show (match h[i]? with|some (.dct _)=>some ()|_=>none)=_;rw[g]
theorem M4(a:DB A h d v)(c:Dn A h e w)(q:n5 [] d e=some z):∃u,n5 h v w=some u/\Dn A h z u:=by
 cases e with
 |int i=>
  rw[Dn]at c;subst c;cases d with
  |str x=>
   have:=a.str;subst this;refine⟨z,q,?_⟩;change (if x.length<=sizeLine then (kj x.cps.toList i).map (λc=>Val.str ⟨#[c]⟩) else none)=some z at q;split at q
   ·obtain⟨c,_,rfl⟩:=map_eq_some_iff.mp q;rw[Dn]
   ·cases q
  |tup ds=>obtain⟨vs,rfl,q2⟩:=a.tup;exact q2.kj q
  |rl ds=>
   obtain⟨vs,q1,q2⟩:=a.lst;obtain⟨u,q3,q4⟩:=q2.kj q;refine⟨u,?_,q4⟩;cases v<;>simp only[aE]at q1<;>first|(cases q1;done)|skip
   ·cases q1;exact q3
   ·split at q1<;>cases q1;rename_i g;unfold n5;simp only[aE,g,bind_some];exact q3
  |dc ks ds=>obtain⟨i',kvs,rfl,g,hk,q2⟩:=a.dc;obtain⟨u,q3,q4⟩:=qc hk q2 q;refine⟨u,?_,q4⟩;show (match h[i']? with|some (.dct kvs)=>bZ kvs (.inl i)|_=>(aE h (.ref i')).bind λxs=>kj xs i)=_;rw[g];exact q3
  |ref j=>exact(DB.o9 a).elim
  |_=>cases q
 |str x=>
  rw[Dn]at c;subst c;cases d with
  |dc ks ds=>obtain⟨i',kvs,rfl,g,hk,q2⟩:=a.dc;obtain⟨u,q3,q4⟩:=qc hk q2 q;refine⟨u,?_,q4⟩;show (match h[i']? with|some (.dct kvs)=>bZ kvs (.inr x)|_=>none)=_;rw[g];exact q3
  |ref j=>exact(DB.o9 a).elim
  |_=>cases q
 |_=>cases d<;>first|(cases q;done)|exact(DB.o9 a).elim
theorem vz:∀{fs:List (Str×Val)} {ds:List Val},au A h ds (fs.map (·.2))->(((fs.map (·.1)).zip ds).lookup x=none->fs.lookup x=none)/\∀z,((fs.map (·.1)).zip ds).lookup x=some z->∃u,fs.lookup x=some u/\Dn A h z u
 |[],ds,q=>⟨λ_=>rfl,λz e=>by simp at e⟩
 | (k,v)::fs,ds,q=>by
  cases ds with
  |nil=>rw[au]at q;cases q
  |cons d ds=>
   rw[map_cons,au]at q;obtain⟨w,r,eq,q1,q2⟩:=q;cases eq;rw[map_cons,zip_cons_cons,lookup_cons,lookup_cons];cases hb:x==k with
   |true=>exact⟨λz=>(by cases z),λz e=>(by cases e;exact⟨v,rfl,q1⟩)⟩
   |false=>exact vz q2
theorem DB.ob{c:Nat}(e:DB A h (.ob c xs ds) v):∃i fs,v=.ref i/\h[i]?=some (.ins c fs)/\fs.map (·.1)=xs/\au A h ds (fs.map (·.2)):=by
 rcases e with e|⟨_,_,e1⟩
 ·rw[Dn]at e;obtain⟨i,fs,rfl,_,g,k,q⟩:=e;exact⟨i,fs,rfl,g,k,q⟩
 ·exact False.elim e1
theorem M5{n:Nat}(a:DB A h o v)(e:jb n [] o x=some z):∃u,jb n h v x=some u/\Dn A h z u:=by
 cases o<;>first|(cases e;done)|(exact(DB.o9 a).elim)|skip
 obtain⟨i,fs,rfl,g,hk,q⟩:=a.ob;subst hk;unfold jb at e;dsimp only at e;split at e
 ·rename_i hc;obtain⟨u,e1,e2⟩:=(vz q).2 z e;refine⟨u,?_,e2⟩;unfold jb;dsimp only;rw[g];dsimp only;rw[if_pos hc];exact e1
 ·cases e
theorem M6{j:Nat}(a:DB A h o v)(e:lJ [] o m js=some j):lJ h v m js=some j:=by
 cases o<;>first|(cases e;done)|(exact(DB.o9 a).elim)|skip
 obtain⟨i,fs,rfl,g,hk,q⟩:=a.ob;subst hk;unfold lJ at e;dsimp only at e;split at e
 ·rename_i hc;have e1:=(vz q).1 (by simpa using hc);unfold lJ;dsimp only;rw[g];dsimp only;rw[if_pos (by rw[e1];rfl)];exact e
 ·cases e
end
end Hv
end
section
namespace Hv
open PySem L2
noncomputable def Up(A:AP)(h:Hs):Prop:=∀k,h.length<=k->A (some k)
noncomputable def Rel(A:AP)(h:Hs){α β:Type}(R:α -> Hs -> β -> Prop)(o:Out β):Pr α -> Prop
 |.ok a=>∃b h',o=.ok b h'/\h<+:h'/\R a h' b
 |.exc c es=>∃ws h',o=.exc c ws h'/\h<+:h'/\au A h' es ws
 |.no=>True
noncomputable def RV(A:AP)(h:Hs):FV->Hs->Val->Prop:=λx h' v=>Dn A h' x.2 v/\(x.1=true->Dn (Fr h.length) h' x.2 v)
noncomputable def RVs(A:AP)(h:Hs):Bool×List Val->Hs->List Val->Prop:=λx h' v=>au A h' x.2 v/\(x.1=true->au (Fr h.length) h' x.2 v)
noncomputable def UX(A:AP):FV->Hs->Val->Prop:=λx h' v=>DB A h' x.2 v
noncomputable def IF(A:AP)(h:Hs):List Val->List Val->Prop
 |[],vs=>vs=[]
 |d::ds,vs=>∃v r,vs=v::r/\DB A h d v/\IF A h ds r
noncomputable def ER(A:AP)(af:bB)(env:Env)(h:Hs):Prop:=∀(i:Nat) (f:Mk) (d:Val),af[i]?=some (some (f,d)) ->
 if oA f=false then ∃a,env[i]?=some (some (.ref a))/\OD A h d a else ∃v,env[i]?=some (some v)/\Dn A h d v
section
variable {A:AP} {h h1:Hs} {α β γ δ:Type}
theorem Up.ext(u:Up A h)(p:h<+:h1):Up A h1:=λk hk=>u k (le_trans p.length_le hk)
theorem ER.ext(e:ER A af env h)(p:h<+:h1):ER A af env h1:=λi f d q=>by
 have:=e i f d q;revert this;generalize oA f=t;intro this;cases t with
 |false=>rw[if_pos rfl]at this |-;obtain⟨a,k2,k3⟩:=this;exact⟨a,k2,k3.ext p⟩
 |true=>rw[if_neg (by decide)]at this |-;obtain⟨v,k1,k2⟩:=this;exact⟨v,k1,k2.ext p⟩
theorem ah(r:Rel A h R (m h) p)(k:∀a h1 b,h<+:h1->R a h1 b->Rel A h1 R' (f b h1) (F a)):Rel A h R' (bnd m f h) (pb p F):=by
 unfold bnd;cases p with
 |ok a=>
  obtain⟨b,h1,e,q,r⟩:=r;rw[e];show Rel A h R' (f b h1) (F a);have:=k a h1 b q r;cases e2:F a with
  |ok c=>rw[e2]at this;obtain⟨d,h2,e3,q2,r2⟩:=this;exact⟨d,h2,e3,q.trans q2,r2⟩
  |exc c es=>rw[e2]at this;obtain⟨d,h2,e3,q2,r2⟩:=this;exact⟨d,h2,e3,q.trans q2,r2⟩
  |no=>trivial
 |exc c es=>obtain⟨ws,h1,e,q,r⟩:=r;rw[e];exact⟨ws,h1,rfl,q,r⟩
 |no=>trivial
theorem aA(r:R a h b):Rel A h R (ret b h) (.ok a):=⟨b,h,rfl,prefix_refl _,r⟩
theorem bC(r:∀a,o=some a->∃b,o'=some b/\R a h b):Rel A h R (bH o' h) (pl o):=by
 cases o with
 |none=>trivial
 |some a=>obtain⟨b,rfl,q⟩:=r a rfl;exact⟨b,h,rfl,prefix_refl _,q⟩
theorem bO(r:∀a,o=some a->∃b,f h=some b/\R a h b):Rel A h R (ask f h) (pl o):=bC r
theorem bW{c c':Bool}(e:c=true->c'=true)(r:c=true->Rel A h R (m h) p):Rel A h R (aH c' m h) (pg c p):=by
 unfold aH pg;cases c with
 |true=>rw[if_pos (e rfl),if_pos rfl];exact r rfl
 |false=>rw[if_neg Bool.false_ne_true];trivial
theorem xC(r:Rel A h R o p)(k:∀a h' b,h<+:h'->R a h' b->R' a h' b):Rel A h R' o p:=by
 cases p with
 |ok a=>obtain⟨b,h',e,q,r⟩:=r;exact⟨b,h',e,q,k a h' b q r⟩
 |exc c es=>exact r
 |no=>trivial
theorem dR(o:Ob):h<+:h++[o]:=prefix_append _ _
theorem jv(o:Ob):(h++[o])[h.length]?=some o:=by simp
theorem gm{f:Bool}{h0:Hs}(u:Up A h)(p:h0<+:h)(q:au A h xs vs)(g:f=true->au (Fr h0.length) h xs vs):Rel A h (RV A h0) (new (.lst vs) h) (.ok (f,.rl xs)):=by
 refine⟨_,_,rfl,dR _,?_,λhf=>?_⟩
 ·show Dn A _ (.rl xs) _;rw[Dn];exact .inr ⟨_,vs,rfl,u _ (Nat.le_refl _),jv _,q.ext (dR _)⟩
 ·show Dn _ _ (.rl xs) _;rw[Dn];exact .inr ⟨_,vs,rfl,p.length_le,jv _,(g hf).ext (dR _)⟩
theorem oG{h0:Hs}(q:Dn A h d v):RV A h0 (j3 d,d) h v:=⟨q,λhi=>(je d v hi).mpr ((je d v hi).mp q)⟩
theorem iA(q:au A h ds vs)(hi:bR ds=true):au A' h' ds vs:=(aS ds vs hi).mpr ((aS ds vs hi).mp q)
theorem jf{i:Int}{h0:Hs}{f:Bool}:RV A h0 (f,.int i) h (.int i):=⟨by rw[Dn],λ_=>by rw[Dn]⟩
theorem pe{i:Bool}{h0:Hs}{f:Bool}:RV A h0 (f,.bl i) h (.bl i):=⟨by rw[Dn],λ_=>by rw[Dn]⟩
theorem M7{h0:Hs}{f:Bool}:RV A h0 (f,.str i) h (.str i):=⟨by rw[Dn],λ_=>by rw[Dn]⟩
theorem RV.br{h0:Hs}(r:RV A h0 x h v):UX A x h v:=.inl r.1
theorem IG(ho:o≠.add)(v w:Val):(∃i j,v=.int i/\w=.int j)\/lM o v w=.no:=by
 cases v with
 |int i=>
  cases w with
  |int j=>exact .inl ⟨i,j,rfl,rfl⟩
  |_=>right;cases o<;>first|rfl|exact absurd rfl ho
 |_=>right;cases o<;>first|rfl|exact absurd rfl ho
theorem Av{h0:Hs}(u:Up A h)(p:h0<+:h)(a:DB A h d v)(c:DB A h e w):Rel A h (RV A h0) (JU o v w h) (lM o d e):=by
 have ii:o≠.add->(∃i j,d=.int i/\e=.int j)\/lM o d e=.no:=λho=>IG ho d e;cases o with
 |add=>
  cases d<;>cases e<;>first|trivial|skip
  ·have:=a.int;subst this;have:=c.int;subst this;exact aA jf
  ·have:=a.str;subst this;have:=c.str;subst this;exact bW (λz=>z) λ_=>aA M7
  ·rename_i xs ys
   obtain⟨vs,rfl,q1⟩:=a.tup;obtain⟨ws,rfl,q2⟩:=c.tup;have l1:=q1.length;have l2:=q2.length;refine bW (λz=>?_) λ_=>aA ⟨?_,λhi=>?_⟩
   ·rw[l1,l2]at z
    have:xs.isEmpty=vs.isEmpty:=by cases xs<;>cases vs<;>simp_all
    rw[<-this];exact z
   ·show Dn A h (.tup _) _;rw[Dn];exact⟨_,rfl,q1.append q2⟩
   ·show Dn _ h (.tup _) _;rw[Dn];exact⟨_,rfl,iA (q1.append q2) hi⟩
  ·rename_i xs ys
   obtain⟨vs,e1,q1⟩:=a.lst;obtain⟨ws,e2,q2⟩:=c.lst;have eb:JU .add v w=bnd (ask λh=>aE h v) λa=>bnd (ask λh=>aE h w) λb=>aH (decide (a.length+b.length<=sizeLine)) (new (.lst (a++b))):=by
    cases v<;>simp only[aE]at e1<;>first|(cases e1;done)|skip
    all_goals cases w<;>simp only[aE]at e2<;>first|(cases e2;done)|rfl
   have ev:JU .add v w h=aH (decide (vs.length+ws.length<=sizeLine)) (new (.lst (vs++ws))) h:=by rw[eb];unfold bnd ask bH;dsimp only;rw[e1];dsimp only;rw[e2]
   rw[ev];refine bW (λz=>?_) λ_=>gm u p (q1.append q2) λhi=>iA (q1.append q2) hi;rw[<-q1.length,<-q2.length];exact z
 |_=>
  rcases ii (by intro z;cases z) with ⟨i,j,rfl,rfl⟩|z
  case inr=>rw[z];trivial
  have:=a.int;subst this;have:=c.int;subst this
  first
   |exact aA jf
   |exact bW (λz=>z) λ_=>aA jf
theorem II{lo hi:Option Int}{h0:Hs}(u:Up A h)(p:h0<+:h)(a:DB A h d v):Rel A h (RV A h0) (tu v lo hi h) (Ca d lo hi):=by
 cases d with
 |tup ds=>
  obtain⟨vs,rfl,q⟩:=a.tup;have l:=q.length;simp only[Ca,tu];refine bW (λz=>?_) λ_=>aA ⟨?_,λhi=>?_⟩
  ·rw[l]at z;exact z
  ·show Dn A h (.tup _) _;rw[Dn];exact⟨_,rfl,q.cut lo hi⟩
  ·show Dn _ h (.tup _) _;rw[Dn];exact⟨_,rfl,iA (q.cut _ _) hi⟩
 |rl ds=>
  obtain⟨vs,e1,q⟩:=a.lst;have ev:tu v lo hi h=new (.lst (ck vs lo hi)) h:=by
   have:tu v lo hi=bnd (ask λh=>aE h v) λxs=>new (.lst (ck xs lo hi)):=by cases v<;>simp only[aE]at e1<;>first|(cases e1;done)|rfl
   rw[this];unfold bnd ask bH;dsimp only;rw[e1]
  rw[ev];exact gm u p (q.cut lo hi) λhh=>iA (q.cut lo hi) hh
 |_=>trivial
theorem IF.one(e:IF A h [d] vs):∃v,vs=[v]/\DB A h d v:=by
 obtain⟨v,r,rfl,a,b⟩:=e;cases (show r=[] from b);exact⟨v,rfl,a⟩
theorem IJ{ns:List Int}(q:au A h ds vs)(e:bf ds=some ns):vs=ds:=by
 have:bR ds=true:=by
  clear q
  induction ds generalizing ns with
  |nil=>rfl
  |cons d ds ih=>
   simp only[bf,cj]at e;obtain⟨i,e1,e⟩:=bind_eq_some_iff.mp e;obtain⟨is,e2,e⟩:=bind_eq_some_iff.mp e;cases d<;>first|(cases e1;done)|skip
   rw[bR,j3,Bool.true_and];exact ih e2
 exact(aS ds vs this).mp q
theorem Ei(q:au A h ds vs)(e:fY ds=some ns):vs=ds:=by
 have:bR ds=true:=by
  clear q
  induction ds generalizing ns with
  |nil=>rfl
  |cons d ds ih=>
   simp only[fY,cj]at e;obtain⟨i,e1,e⟩:=bind_eq_some_iff.mp e;obtain⟨is,e2,e⟩:=bind_eq_some_iff.mp e;cases d<;>first|(cases e1;done)|skip
   rw[bR,j3,Bool.true_and];exact ih e2
 exact(aS ds vs this).mp q
theorem rE:∀{ds:List Val} {ns:List Int},bf ds=some ns->bR ds=true
 |[],_,_=>rfl
 | d::ds,ns,e=>by
  simp only[bf,cj]at e;obtain⟨i,e1,e⟩:=bind_eq_some_iff.mp e;obtain⟨is,e2,e⟩:=bind_eq_some_iff.mp e;cases d<;>first|(cases e1;done)|skip
  rw[bR,j3,Bool.true_and];exact rE (show bf ds=some is from e2)
theorem xD:∀{ds:List Val} {ns:List (List Int)},lV ds=some ns->bR ds=true
 |[],_,_=>rfl
 | d::ds,ns,e=>by
  simp only[lV,cj]at e;obtain⟨i,e1,e⟩:=bind_eq_some_iff.mp e;obtain⟨is,e2,e⟩:=bind_eq_some_iff.mp e;cases d<;>first|(cases e1;done)|skip
  rename_i vs;dsimp only at e1;split at e1
  ·cases e1
  ·rw[bR,j3,rE e1,Bool.true_and];exact xD (show lV ds=some is from e2)
theorem bu:∀ns:List Int,bR (ns.map .int)=true
 |[]=>rfl
 |n::ns=>by rw[map_cons,bR,j3,Bool.true_and];exact bu ns
theorem m9:∀p7:List (List Int),bR (p7.map mT)=true
 |[]=>rfl
 |n::ns=>by rw[map_cons,bR,mT,j3,bu,Bool.true_and];exact m9 ns
theorem uw(e:fQ xs=some ys):bR xs=true/\bR ys=true:=by
 unfold fQ at e;split at e
 ·cases e2:bf xs with
  |some ns=>rw[e2]at e;cases e;exact⟨rE e2,bu _⟩
  |none=>rw[e2]at e;obtain⟨p7,e3,e4⟩:=bind_eq_some_iff.mp e;cases e4;exact⟨xD e3,m9 _⟩
 ·cases e
theorem IK{h0:Hs}(u:Up A h)(p:h0<+:h)(a:IF A h ds vs):Rel A h (RV A h0) (blt b vs h) (jP b ds):=by
 have mm:∀(f:List Int->Option Val) (d:Val),(∀ns m,f ns=some m->∃i,m=.int i)->∀v,DB A h d v->Rel A h (RV A h0) (bnd (ask λh=>dJ h v) (λxs=>bH ((bf xs).bind f)) h) (pb (pl (dJ [] d)) λxs=>pb (pl ((bf xs).bind f)) λm=>.ok (true,m)):=by
  intro f d hf v hv;refine ah (R:=λxs h' ws=>au A h' xs ws) (bO λxs e=>hv.seq e) λxs h1 ws q1 q=>?_;have:bH ((bf ws).bind f) h1=bnd (bH ((bf ws).bind f)) (λm=>ret m) h1:=by unfold bnd bH;cases (bf ws).bind f<;>rfl
  rw[this];refine ah (R:=λm _ m'=>m'=m/\∃i,m=.int i) (bC λm e=>?_) λm h2 m' _ hm=>?_
  ·obtain⟨ns,e1,e2⟩:=bind_eq_some_iff.mp e;rw[IJ q e1];exact⟨m,e,rfl,hf ns m e2⟩
  ·obtain⟨rfl,i,rfl⟩:=hm;exact aA jf
 have hmin:∀ns m,u7 ns=some m->∃i,m=Val.int i:=λns m e=>by cases ns<;>simp[u7]at e;exact⟨_,e.symm⟩
 have UY:∀ns m,u9 ns=some m->∃i,m=Val.int i:=λns m e=>by cases ns<;>simp[u9]at e;exact⟨_,e.symm⟩
 match ds,a with
 |[],a=>cases b<;>trivial
 |[d],a=>
  obtain⟨v,rfl,hv⟩:=a.one;cases b with
  |len=>exact ah (R:=λn _ m=>m=n) (bO λn e=>⟨n,M0 hv e,rfl⟩) λn h1 m _ e=>by subst e;exact aA jf
  |min=>
   have e1:jP .min [d]=pb (pl (dJ [] d)) λxs=>pb (pl ((bf xs).bind u7)) λm=>.ok (true,m):=by cases d<;>rfl
   have e2:blt .min [v]=bnd (ask λh=>dJ h v) λxs=>bH ((bf xs).bind u7):=by cases v<;>rfl
   rw[e1,e2];exact mm u7 d hmin v hv
  |max=>
   have e1:jP .max [d]=pb (pl (dJ [] d)) λxs=>pb (pl ((bf xs).bind u9)) λm=>.ok (true,m):=by cases d<;>rfl
   have e2:blt .max [v]=bnd (ask λh=>dJ h v) λxs=>bH ((bf xs).bind u9):=by cases v<;>rfl
   rw[e1,e2];exact mm u9 d UY v hv
  |sorted=>
   cases d<;>first|trivial|skip
   rename_i xs;obtain⟨ws,e1,q⟩:=hv.lst;have ev:bnd (ask λh=>aE h v) (λxs=>bnd (bH (fQ xs)) λys=>new (.lst ys)) h=bnd (bH (fQ ws)) (λys=>new (.lst ys)) h:=by unfold bnd ask bH;dsimp only;rw[e1]
   show Rel A h (RV A h0) (bnd (ask λh=>aE h v) (λxs=>bnd (bH (fQ xs)) λys=>new (.lst ys)) h) _;rw[ev];refine ah (R:=λys _ zs=>zs=ys/\bR ys=true) (bC λys e=>?_) λys h1 zs q1 hz=>?_
   ·obtain⟨i1,i2⟩:=uw e;rw[(aS xs ws i1).mp q];exact⟨ys,e,rfl,i2⟩
   ·obtain⟨rfl,hi⟩:=hz;exact gm (u.ext q1) (p.trans q1) ((aS _ _ hi).mpr rfl) λ_=>(aS _ _ hi).mpr rfl
  |list=>refine ah (R:=λxs h' ws=>au A h' xs ws) (bO λxs e=>hv.seq e) λxs h1 ws q1 q=>?_;exact gm (u.ext q1) (p.trans q1) q λhi=>iA q hi
  |tuple=>trivial
  |str=>trivial
  |int=>
   cases d<;>first|trivial|skip
   ·have:=hv.bl;subst this;exact aA jf
   ·have:=hv.int;subst this;exact aA jf
  |all=>
   cases d<;>first|trivial|skip
   rename_i xs;obtain⟨ws,e1,q⟩:=hv.lst;have ev:bnd (ask λh=>aE h v) (λxs=>bnd (bH (fY xs)) λbs=>ret (Val.bl (bs.all id))) h=bnd (bH (fY ws)) (λbs=>ret (Val.bl (bs.all id))) h:=by unfold bnd ask bH;dsimp only;rw[e1]
   show Rel A h (RV A h0) (bnd (ask λh=>aE h v) (λxs=>bnd (bH (fY xs)) λbs=>ret (Val.bl (bs.all id))) h) _;rw[ev];exact ah (R:=λys _ zs=>zs=ys) (bC λys e=>⟨ys,by rw[Ei q e];exact e,rfl⟩) λys h1 zs q1 hz=>by subst hz;exact aA pe
  |any=>trivial
  |isin T=>refine ah (R:=λn _ m=>m=n) (bO λn e=>⟨n,Qw hv e,rfl⟩) λn h1 m _ e=>?_;subst e;exact ah (R:=λn _ m=>m=n) (bC λn e=>⟨n,e,rfl⟩) λn h1 m _ e=>by subst e;exact aA pe
 |[d,e],a=>
  obtain⟨v,r,rfl,hv,hr⟩:=a;obtain⟨w,rfl,hw⟩:=IF.one hr;cases b<;>first|trivial|(cases d<;>trivial)|skip
  ·cases d<;>cases e<;>first|trivial|skip
   have:=hv.int;subst this;have:=hw.int;subst this;exact aA jf
  ·cases d<;>cases e<;>first|trivial|skip
   have:=hv.int;subst this;have:=hw.int;subst this;exact aA jf
 |x::y::z::t,a=>cases b<;>first|trivial|(cases x<;>trivial)|(cases x<;>cases y<;>trivial)
end
end Hv
end
section
namespace Hv
open PySem L2
noncomputable def Imp(φ:List Val->M Val)(ψ:List Val->Pr FV):Prop:=∀(A:AP) (h:Hs) (ds vs:List Val),Up A h->au A h ds vs->Rel A h (RV A h) (φ vs h) (ψ ds)
section
variable {Φ:Nat->List Val->M Val} {Ψ:Nat->List Val->Pr FV} {A:AP} {h h1:Hs}
theorem gU{x y:Bool}(f:(x&&y)=true):x=true/\y=true:=Bool.and_eq_true_iff.mp f
theorem vA{x y z:Bool}(f:(x&&y&&z)=true):(x=true/\y=true)/\z=true:=⟨gU (gU f).1,(gU f).2⟩
noncomputable def cg(Φ:Nat->List Val->M Val)(Ψ:Nat->List Val->Pr FV)(ir:IE):Prop:=∀(af:bB) (env:Env) (A:AP) (h:Hs),Up A h->ER A af env h->Rel A h (RV A h) (aJ Φ ir env h) (bI Ψ ir af)
noncomputable def lO(Φ:Nat->List Val->M Val)(Ψ:Nat->List Val->Pr FV)(fh:o7):Prop:=(∀(af:bB) (env:Env) (A:AP) (h:Hs),Up A h->ER A af env h->Rel A h (RVs A h) (bz Φ fh env h) (vp Ψ fh af)) /\
 ∀(af:bB) (env:Env) (A:AP) (h:Hs),Up A h->ER A af env h->Rel A h (λds h' vs=>IF A h' ds vs) (bz Φ fh env h) (iz Ψ fh af)
theorem RV.up{h0 h':Hs}(p:h0<+:h)(r:RV A h x h' v):RV A h0 x h' v:=⟨r.1,λf=>(r.2 f).iK (Fr.le p.length_le)⟩
theorem Ej{h0:Hs}(p:h0<+:h)(r:Rel A h (RV A h) o x):Rel A h (RV A h0) o x:=xC r λ_ _ _ _ q=>q.up p
theorem Qx{i:Nat}(e:ER A af env h):Rel A h (UX A) (aJ Φ (.var i) env h) (pl (iM af (.var i))):=by
 rw[aJ];refine bC λx hx=>?_;simp only[iM]at hx;split at hx
 ·rename_i f d hd
  cases hx;have:=e i f d hd;revert this;generalize oA f=t;intro this;cases t with
  |false=>rw[if_pos rfl]at this;obtain⟨a,k2,k3⟩:=this;exact⟨.ref a,by rw[k2],.inr ⟨a,rfl,k3⟩⟩
  |true=>rw[if_neg (by decide)]at this;obtain⟨v,k1,k2⟩:=this;exact⟨v,by rw[k1],.inl k2⟩
 ·cases hx
theorem kL(o:cg Φ Ψ ir)(u:Up A h)(e:ER A af env h):Rel A h (UX A) (aJ Φ ir env h) (if isVar ir=true then pl (iM af ir) else bI Ψ ir af):=by
 by_cases hv:isVar ir=true
 ·rw[if_pos hv];cases ir<;>first|(cases hv;done)|exact Qx e
 ·rw[if_neg hv];exact xC (o af env A h u e) λ_ _ _ _ q=>q.br
theorem IL{α β:Type}{R:α -> Hs -> β -> Prop}{c:Bool}{o:Out β}{p:Pr α}(r:c=true->Rel A h R o p):Rel A h R o (pg c p):=by
 unfold pg;cases c with
 |true=>rw[if_pos rfl];exact r rfl
 |false=>rw[if_neg Bool.false_ne_true];trivial
theorem v_var{i:Nat}:cg Φ Ψ (.var i):=λaf env A h u e=>by
 rw[aJ,bI];cases hv:af[i]? with
 |none=>trivial
 |some o=>
  cases o with
  |none=>trivial
  |some fd=>
   obtain⟨f,d⟩:=fd;refine IL λhf=>?_
   ·have:=e i f d hv;rw[if_neg (by simp[hf])]at this;obtain⟨v,k1,k2⟩:=this;rw[k1];exact⟨v,h,rfl,prefix_refl _,oG k2⟩
theorem Aw{α:Type}{f:Hs->Option α}:ask f h=bnd (ask f) (λz=>ret z) h:=by unfold bnd ask bH;cases f h<;>rfl
theorem Ax(f:j3 d=true):Dn A h d d:=(je d d f).mpr rfl
theorem Qy(f:j3 d=true):cg Φ Ψ (.cst d):=λaf env A h u e=>by rw[aJ,bI];exact aA (oG (Ax f))
theorem Qz(f:j3 d=true):cg Φ Ψ (.con x d):=λaf env A h u e=>by rw[aJ,bI];exact aA (oG (Ax f))
theorem UZ:cg Φ Ψ .no:=λaf env A h u e=>by rw[bI];trivial
theorem QA(ha:cg Φ Ψ a)(hb:cg Φ Ψ b):cg Φ Ψ (.bin o a b):=λaf env A h u e=>by
 rw[aJ,bI];exact ah (kL ha u e) λx h1 v p1 q1=>ah (kL hb (u.ext p1) (e.ext p1)) λy h2 w p2 q2=>Av ((u.ext p1).ext p2) (p1.trans p2) (DB.ext p2 q1) q2
theorem QB(ha:cg Φ Ψ a):cg Φ Ψ (.neg a):=λaf env A h u e=>by
 rw[aJ,bI];refine ah (ha af env A h u e) λx h1 v p1 q1=>?_;obtain⟨f,d⟩:=x;have q:=q1.1;cases d<;>dsimp only<;>first|trivial|skip
 dsimp only at q;rw[Dn]at q;subst q;exact aA jf
theorem QC(ha:cg Φ Ψ a)(hb:cg Φ Ψ b):cg Φ Ψ (.cmp o a b):=λaf env A h u e=>by
 rw[aJ,bI];exact ah (kL ha u e) λx h1 v p1 q1=>ah (kL hb (u.ext p1) (e.ext p1)) λy h2 w p2 q2=>
  ah (R:=λt _ t'=>t'=t) (bO λt et=>⟨t,MZ (DB.ext p2 q1) q2 et,rfl⟩) λt h3 t' p3 et=>by subst et;exact aA pe
theorem QD(ha:cg Φ Ψ a)(hb:cg Φ Ψ b)(hc:cg Φ Ψ c):cg Φ Ψ (.chn o o' a b c):=λaf env A h u e=>by rw[bI];trivial
theorem kM(q:Dn A h d v):Rel A h (λt _ t'=>t'=t) (qQ v h) (rA d):=by
 cases d<;>first|trivial|skip
 rw[Dn]at q;subst q;exact aA rfl
theorem v_and(ha:cg Φ Ψ a)(hb:cg Φ Ψ b):cg Φ Ψ (.and a b):=λaf env A h u e=>by
 rw[aJ,bI];refine ah (ha af env A h u e) λx h1 v p1 q1=>ah (kM q1.1) λt h2 t' p2 et=>?_;subst et;cases t' with
 |true=>rw[if_pos rfl,if_pos rfl];exact ah (hb af env A h2 ((u.ext p1).ext p2) ((e.ext p1).ext p2)) λy h3 w p3 q3=>ah (kM q3.1) λt h2 t' p2 et=>by subst et;exact aA pe
 |false=>rw[if_neg Bool.false_ne_true,if_neg Bool.false_ne_true];exact aA pe
theorem v_or(ha:cg Φ Ψ a)(hb:cg Φ Ψ b):cg Φ Ψ (.or a b):=λaf env A h u e=>by
 rw[aJ,bI];refine ah (ha af env A h u e) λx h1 v p1 q1=>ah (kM q1.1) λt h2 t' p2 et=>?_;subst et;cases t' with
 |false=>rw[if_neg Bool.false_ne_true,if_neg Bool.false_ne_true];exact ah (hb af env A h2 ((u.ext p1).ext p2) ((e.ext p1).ext p2)) λy h3 w p3 q3=>ah (kM q3.1) λt h2 t' p2 et=>by subst et;exact aA pe
 |true=>rw[if_pos rfl,if_pos rfl];exact aA pe
theorem v_not(ha:cg Φ Ψ a):cg Φ Ψ (.not a):=λaf env A h u e=>by
 rw[aJ,bI];exact ah (ha af env A h u e) λx h1 v p1 q1=>ah (kM q1.1) λt h2 t' p2 et=>by subst et;exact aA pe
theorem v_ite(hc:cg Φ Ψ c)(ha:cg Φ Ψ a)(hb:cg Φ Ψ b):cg Φ Ψ (.ite c a b):=λaf env A h u e=>by rw[bI];trivial
theorem J4:lO Φ Ψ .nil:=⟨λaf env A h u e=>by rw[bz,vp];exact aA ⟨au.nil,λ_=>au.nil⟩,λaf env A h u e=>by rw[bz,iz];exact aA rfl⟩
theorem Ek(he:cg Φ Ψ e)(hs:lO Φ Ψ es):lO Φ Ψ (.cons e es):=by
 refine⟨λaf env A h u er=>?_,λaf env A h u er=>?_⟩
 ·rw[bz,vp]
  refine ah (he af env A h u er) λx h1 v p1 q1=>ah (hs.1 af env A h1 (u.ext p1) (er.ext p1)) λy h2 vs p2 q2=>?_;refine aA ⟨au.cons (q1.1.ext p2) q2.1,λhf=>?_⟩;have hf':x.1=true/\y.1=true:=by simpa using hf
  exact au.cons ((q1.2 hf'.1).ext p2) ((q2.2 hf'.2).iK (Fr.le p1.length_le))
 ·rw[bz,iz];refine ah (kL he u er) λx h1 v p1 q1=>ah (hs.2 af env A h1 (u.ext p1) (er.ext p1)) λy h2 vs p2 q2=>?_;exact aA ⟨v,vs,rfl,DB.ext p2 q1,q2⟩
theorem QE(hs:lO Φ Ψ es):cg Φ Ψ (.tup es):=λaf env A h u e=>by
 rw[aJ,bI];refine ah (hs.1 af env A h u e) λx h1 vs p1 q1=>bW (λz=>by rw[<-q1.1.length];exact z) λ_=>aA ⟨?_,λhf=>?_⟩
 ·show Dn A h1 (.tup _) _;rw[Dn];exact⟨vs,rfl,q1.1⟩
 ·show Dn _ h1 (.tup _) _;rw[Dn];exact⟨vs,rfl,q1.2 hf⟩
theorem M8:cg Φ Ψ .dct0:=λaf env A h u e=>by
 rw[aJ,bI];refine⟨_,_,rfl,dR _,?_,λhf=>?_⟩
 ·show Dn A _ (.dc [] []) _;rw[Dn];exact⟨_,[],rfl,u _ (Nat.le_refl _),jv _,rfl,au.nil⟩
 ·show Dn _ _ (.dc [] []) _;rw[Dn];exact⟨_,[],rfl,Nat.le_refl _,jv _,rfl,au.nil⟩
theorem M9(hk:cg Φ Ψ k)(hv:cg Φ Ψ v):cg Φ Ψ (.dct1 k v):=λaf env A h u e=>by
 rw[aJ,bI];refine ah (hk af env A h u e) λx h1 w p1 q1=>ah (R:=λkk _ kk'=>kk'=kk) (bC λkk ek=>⟨kk,zp q1.1 ek,rfl⟩) λkk h2 kk' p2 hkk=>?_;subst hkk;refine ah (hv af env A h2 ((u.ext p1).ext p2) ((e.ext p1).ext p2)) λy h3 z p3 q3=>?_;have p:=(p1.trans p2).trans p3;refine⟨_,_,rfl,dR _,?_,λhf=>?_⟩
 ·show Dn A _ (.dc [kk'] [y.2]) _;rw[Dn];exact⟨_,[(kk',z)],rfl,u _ p.length_le,jv _,rfl,au.cons (q3.1.ext (dR _)) au.nil⟩
 ·show Dn _ _ (.dc [kk'] [y.2]) _;rw[Dn];exact⟨_,[(kk',z)],rfl,p.length_le,jv _,rfl,au.cons (((q3.2 hf).iK (Fr.le (p1.trans p2).length_le)).ext (dR _)) au.nil⟩
theorem Na(hd:cg Φ Ψ d)(hk:cg Φ Ψ k)(hx:cg Φ Ψ x):cg Φ Ψ (.dget d k x):=λaf env A h u e=>by
 rw[aJ,bI];refine ah (kL hd u e) λo h1 v p1 q1=>ah (R:=λ_ _ _=>True) (bO λt et=>⟨t,ID q1 et,trivial⟩) λ_ h2 _ p2 _=>?_;refine ah (hk af env A h2 ((u.ext p1).ext p2) ((e.ext p1).ext p2)) λi h3 w p3 q3=>ah (R:=λkk _ kk'=>kk'=kk) (bC λkk ek=>⟨kk,zp q3.1 ek,rfl⟩) λkk h4 kk' p4 hkk=>?_;subst hkk;have YZ:=((p1.trans p2).trans p3).trans p4;refine ah (hx af env A h4 (u.ext YZ) (e.ext YZ)) λz h5 z' p5 q5=>?_;refine ah (R:=λr h' r'=>∀a b,Dn A h5 a b->Dn A h' (r.getD a) (r'.getD b)) (bO λr er=>?_) λr h6 r' p6 hr=>aA (oG (hr _ _ q5.1));obtain⟨r',e1,e2⟩:=M3 (DB.ext ((p2.trans p3).trans (p4.trans p5)) q1) er;exact⟨r',e1,e2⟩
theorem IM(hd:cg Φ Ψ d):cg Φ Ψ (.lkeys d):=λaf env A h u e=>by
 rw[aJ,bI];refine ah (kL hd u e) λo h1 v p1 q1=>ah (R:=λks _ ks'=>ks'=ks) (bO λks ek=>⟨ks,rD q1 ek,rfl⟩) λks h2 ks' p2 hk=>?_;subst hk;exact gm ((u.ext p1).ext p2) (p1.trans p2) ((aS _ _ (m8 ks')).mpr rfl) λ_=>(aS _ _ (m8 ks')).mpr rfl
theorem IP(hd:cg Φ Ψ d):cg Φ Ψ (.skeys d):=λaf env A h u e=>by
 rw[aJ,bI];refine ah (kL hd u e) λo h1 v p1 q1=>ah (R:=λns _ ns'=>ns'=ns) (bO λns en=>⟨ns,?_,rfl⟩) λns h2 ns' p2 hk=>?_
 ·unfold kE at en |-;obtain⟨ks,e1,e2⟩:=bind_eq_some_iff.mp en;rw[rD q1 e1];exact e2
 ·subst hk;exact gm ((u.ext p1).ext p2) (p1.trans p2) ((aS _ _ (bu ns')).mpr rfl) λ_=>(aS _ _ (bu ns')).mpr rfl
theorem ng:∀{xs:List Val} {ns:List Int},bf xs=some ns->xs=ns.map .int
 |[],ns,e=>by cases e;rfl
 | x::xs,ns,e=>by
  unfold bf at e;rw[cj]at e;obtain⟨i,e1,e⟩:=bind_eq_some_iff.mp e;obtain⟨r,e2,e⟩:=bind_eq_some_iff.mp e;cases e;cases x<;>simp at e1;subst e1;rw[ng e2];rfl
theorem Nb{p q:Nat}(hd:cg Φ Ψ d)(hw:cg Φ Ψ w):cg Φ Ψ (.dflt N' js p q d w):=λaf env A h u e=>by
 rw[aJ,bI];refine ah (kL hd u e) λo h1 v p1 q1=>ah (R:=λks _ ks'=>ks'=ks) (bO λks ek=>⟨ks,rD q1 ek,rfl⟩) λks h2 ks' p2 hk=>?_;subst hk;refine ah (kL hw ((u.ext p1).ext p2) ((e.ext p1).ext p2)) λx h3 z p3 q3=>ah (R:=λns _ ns'=>ns'=ns) (bO λns en=>⟨ns,?_,rfl⟩) λns h4 ns' p4 hk=>?_
 ·unfold qP at en |-
  obtain⟨ks1,e1,Y0⟩:=bind_eq_some_iff.mp en;obtain⟨xs,e2,Y3⟩:=bind_eq_some_iff.mp Y0;obtain⟨ms,e3,en3⟩:=bind_eq_some_iff.mp Y3;clear en Y0 Y3;obtain⟨f,d⟩:=x;cases d<;>first|(cases e2;done)|skip
  cases e2;obtain⟨vs,e4,e5⟩:=DB.lst q3;rw[ng e3]at e5;rw[e1,e4,(aS _ _ (bu ms)).mp e5,<-ng e3];show ((bf _).bind _)=_;rw[e3];exact en3
 ·subst hk;exact gm ((((u.ext p1).ext p2).ext p3).ext p4) (((p1.trans p2).trans p3).trans p4) ((aS _ _ (bu ns')).mpr rfl) λ_=>(aS _ _ (bu ns')).mpr rfl
theorem QF(ha:cg Φ Ψ a):cg Φ Ψ (.isc a x bs):=λaf env A h u e=>by rw[bI];trivial
theorem Nc(ha:cg Φ Ψ a):cg Φ Ψ (.sset a):=λaf env A h u e=>by
 rw[aJ,bI];refine ah (kL ha u e) λx h1 v p1 q1=>?_;obtain⟨f,d⟩:=x;cases d<;>first|trivial|skip
 rename_i xs;obtain⟨vs,e1,e2⟩:=DB.lst q1;have ea:∀(F:List Val->M Val),bnd (ask λh=>aE h v) F h1=F vs h1:=λF=>by unfold bnd ask bH;dsimp only;rw[e1]
 rw[ea];show Rel A h1 _ _ (pb (pl (bf xs)) _);refine ah (R:=λns h' ns'=>ns'=ns) (bC λns en=>⟨ns,?_,rfl⟩) λns h2 ns' p2 en=>?_
 ·have ei:=ng en;subst ei;rw[(aS _ _ (bu ns)).mp e2];exact en
 ·subst en;refine bW (λz=>z) λ_=>?_;have hi:∀ms:List Int,au A h2 (ms.map Val.int) (ms.map Val.int):=λms=>(aS _ _ (bu ms)).mpr rfl;exact gm ((u.ext p1).ext p2) (p1.trans p2) (hi _) λ_=>(aS _ _ (bu _)).mpr rfl
theorem QG(hs:lO Φ Ψ es):cg Φ Ψ (.lst es):=λaf env A h u e=>by
 rw[aJ,bI];exact ah (hs.1 af env A h u e) λx h1 vs p1 q1=>bW (λz=>by rw[<-q1.1.length];exact z) λ_=>gm (u.ext p1) p1 q1.1 q1.2
theorem QH(ha:cg Φ Ψ a)(hb:cg Φ Ψ b):cg Φ Ψ (.idx a b):=λaf env A h u e=>by
 rw[aJ,bI];refine ah (kL ha u e) λx h1 v p1 q1=>ah (hb af env A h1 (u.ext p1) (e.ext p1)) λy h2 w p2 q2=>?_;rw[Aw];exact ah (R:=λz h' z'=>Dn A h' z z') (bO λz ez=>M4 (DB.ext p2 q1) q2.1 ez) λz h3 z' p3 q3=>aA (oG q3)
theorem nh(o:cg Φ Ψ ir)(u:Up A h)(e:ER A af env h) :
  Rel A h (λ(t:Option Int) _ t'=>t'=t) ((if dQ ir=true then ret none else bnd (aJ Φ ir env) λv=>bnd (bH (jZ v)) λi=>ret (some i)) h) (if dQ ir=true then .ok none else pb (bI Ψ ir af) λv=>pb (pl (jZ v.2)) λi=>.ok (some i)):=by
 by_cases hn:dQ ir=true
 ·rw[if_pos hn,if_pos hn];exact aA rfl
 ·rw[if_neg hn,if_neg hn]
  refine ah (o af env A h u e) λx h1 v p1 q1=>ah (R:=λt _ t'=>t'=t) (bC λi ei=>?_) λt h2 t' p2 et=>by subst et;exact aA rfl
  obtain⟨f,d⟩:=x;have q:=q1.1;cases d<;>first|(cases ei;done)|skip
  dsimp only at q;rw[Dn]at q;subst q;exact⟨i,ei,rfl⟩
theorem QI(ha:cg Φ Ψ a)(hl:cg Φ Ψ lo)(hh:cg Φ Ψ hi):cg Φ Ψ (.slc a lo hi):=λaf env A h u e=>by
 rw[aJ,bI];refine ah (kL ha u e) λx h1 v p1 q1=>ah (nh hl (u.ext p1) (e.ext p1)) λl h2 l' p2 el=>ah (nh hh ((u.ext p1).ext p2) ((e.ext p1).ext p2)) λr h3 r' p3 er=>?_;subst el;subst er;exact II (((u.ext p1).ext p2).ext p3) ((p1.trans p2).trans p3) (DB.ext (p2.trans p3) q1)
theorem QJ(ha:cg Φ Ψ a)(hs:cg Φ Ψ sx):cg Φ Ψ (.rev a sx):=λaf env A h u e=>by rw[bI];trivial
theorem Nd{j:Nat}(hΦ:∀j,Imp (Φ j) (Ψ j))(hs:lO Φ Ψ es):cg Φ Ψ (.call j es):=λaf env A h u e=>by
 rw[aJ,bI];exact ah (hs.1 af env A h u e) λx h1 vs p1 q1=>Ej p1 (hΦ j A h1 x.2 vs (u.ext p1) q1.1)
theorem QK{n:Nat}(ha:cg Φ Ψ a):cg Φ Ψ (.fld n a x):=λaf env A h u e=>by
 rw[aJ,bI];refine ah (kL ha u e) λo h1 v p1 q1=>?_;rw[Aw];exact ah (R:=λz h' z'=>Dn A h' z z') (bO λz ez=>M5 q1 ez) λz h3 z' p3 q3=>aA (oG q3)
theorem QL(hΦ:∀j,Imp (Φ j) (Ψ j))(ha:cg Φ Ψ a)(hs:lO Φ Ψ es):cg Φ Ψ (.mth a m js es):=λaf env A h u e=>by
 rw[aJ,bI];refine ah (ha af env A h u e) λo h1 v p1 q1=>ah (R:=λj _ j'=>j'=j) (bO λj ej=>⟨j,M6 (.inl q1.1) ej,rfl⟩) λj h2 j' p2 hj=>?_;subst hj;exact ah (hs.1 af env A h2 ((u.ext p1).ext p2) ((e.ext p1).ext p2)) λx h3 vs p3 q3=>Ej ((p1.trans p2).trans p3) (hΦ j' A h3 (o.2::x.2) (v::vs) (((u.ext p1).ext p2).ext p3) (au.cons (q1.1.ext (p2.trans p3)) q3.1))
theorem QM(hs:lO Φ Ψ es):cg Φ Ψ (.blt b es):=λaf env A h u e=>by
 rw[aJ,bI];exact ah (hs.2 af env A h u e) λx h1 vs p1 q1=>IK (u.ext p1) p1 q1
theorem QN(ha:cg Φ Ψ a)(hs:lO Φ Ψ es):cg Φ Ψ (.met m a es):=λaf env A h u e=>by
 cases m with
 |join=>rw[bI];trivial
 |append=>rw[bI]<;>first|trivial|(intro z;cases z)
 |extend=>rw[bI]<;>first|trivial|(intro z;cases z)
noncomputable def SrcR(A:AP)(h:Hs)(xs:List Val)(src:Src):Prop:=∃ws,au A h xs ws/\∀h',h<+:h'->src.items h'=some ws
theorem lC{lo:Int}{n:Nat}:au A h (cz lo n) (cz lo n):=by
 unfold cz;generalize List.range n=l
 induction l with
 |nil=>exact au.nil
 |cons a l ih=>exact au.cons (by rw[Dn]) ih
theorem jw:∀{xs ws:List Val} (i:Nat),au A h xs ws->au A h (cS i xs) (cS i ws)
 |[],ws,i,q=>by rw[au]at q;subst q;exact au.nil
 | x::xs,ws,i,q=>by
  rw[au]at q;obtain⟨w,r,rfl,a,b⟩:=q;exact au.cons (by rw[Dn];exact⟨_,rfl,au.cons (by rw[Dn]) (au.cons a au.nil)⟩) (jw (i+1) b)
theorem Ay{ds vs:List Val}(a:DB A h (.rl ds) v):∃ws,au A h ds ws/\((v=.rl ws)\/∃i,v=.ref i/\∀h',h<+:h'->aE h' (.ref i)=some ws):=by
 rcases a with a|⟨i,rfl,vs,g,q⟩
 ·rw[Dn]at a
  rcases a with ⟨vs,rfl,_,q⟩|⟨i,vs,rfl,_,g,q⟩
  ·exact⟨vs,q,.inl rfl⟩
  ·exact⟨vs,q,.inr ⟨i,rfl,λh' p=>by simp[aE,cF p g]⟩⟩
 ·exact⟨vs,q,.inr ⟨i,rfl,λh' p=>by simp[aE,cF p g]⟩⟩
theorem Az(a:IF A h ds vs):Rel A h (λxs h' src=>SrcR A h' xs src) (bH (srcOf k vs) h) (pl (Ec k ds)):=by
 refine bC λxs e=>?_;cases k with
 |seq=>
  match ds,e with
  |[.tup es],e=>cases e;obtain⟨v,rfl,hv⟩:=a.one;obtain⟨ws,rfl,q⟩:=hv.tup;exact⟨.fix ws,rfl,ws,q,λ_ _=>rfl⟩
  |[.rl es],e=>
   cases e;obtain⟨v,rfl,hv⟩:=a.one;obtain⟨ws,q,rfl|⟨i,rfl,g⟩⟩:=Ay (vs:=[]) hv
   ·exact⟨.fix ws,rfl,ws,q,λ_ _=>rfl⟩
   ·exact⟨.live i,rfl,ws,q,λh' p=>g h' p⟩
 |range=>
  match ds,e with
  |[.int n],e=>
   obtain⟨v,rfl,hv⟩:=a.one;have:=hv.int;subst this;change (if inR n=true then some (cz 0 n.toNat) else none)=some _ at e;split at e
   ·rename_i hn;cases e;exact⟨.fix _,if_pos hn,_,lC,λ_ _=>rfl⟩
   ·cases e
  |[.int n,.int m],e=>
   obtain⟨v,r,rfl,hv,hr⟩:=a;obtain⟨w,rfl,hw⟩:=IF.one hr;have:=hv.int;subst this;have:=hw.int;subst this;change (if (inR n&&inR m)=true then some (cz n (m-n).toNat) else none)=some _ at e;split at e
   ·rename_i hn;cases e;exact⟨.fix _,if_pos hn,_,lC,λ_ _=>rfl⟩
   ·cases e
 |enum=>
  match ds,e with
  |[.rl es],e=>
   cases e;obtain⟨v,rfl,hv⟩:=a.one;obtain⟨ws,q,rfl|⟨i,rfl,g⟩⟩:=Ay (vs:=[]) hv
   ·exact⟨.fix _,rfl,_,jw 0 q,λ_ _=>rfl⟩
   ·exact⟨.enum i,rfl,_,jw 0 q,λh' p=>by simp[Src.items,g h' p]⟩
 |zip=>cases e
theorem AA:∀{is:List Nat} {ds vs:List Val} {af aM:bB} {env:Env},cH is ds af=some aM->au A h ds vs->ER A af env h->(∀i∈is,i<af.length->i<env.length)->∃env',bindAll is vs env=some env'/\ER A aM env' h
 | [],[],vs,af,aM,env,e,q,er,_=>by
  rw[au]at q;subst q;simp only[cH]at e;cases e;exact⟨env,rfl,er⟩
 | i::is,d::ds,vs,af,aM,env,e,q,er,hl=>by
  rw[au]at q;obtain⟨v,r,rfl,q1,q2⟩:=q;simp only[cH]at e;have QO:ER A (af.set i (some (.sh,d))) (env.set i (some v)) h:=λj f d' hj=>by
   by_cases hij:i=j
   ·subst hij
    have hi:i<af.length:=by have:=(List.getElem?_eq_some_iff.mp hj).1;simpa using this
    rw[getElem?_set_self hi]at hj;cases hj;rw[if_neg (by decide)];exact⟨v,by rw[getElem?_set_self (hl i mem_cons_self hi)],q1⟩
   ·rw[getElem?_set_ne hij]at hj;rw[getElem?_set_ne hij];exact er j f d' hj
  simp only[bindAll];exact AA e q2 QO λj hj hl'=>by simpa using hl j (mem_cons_of_mem _ hj) (by simpa using hl')
 |[],_::_,_,_,_,_,e,_,_,_=>by simp[cH]at e
 |_::_,[],_,_,_,_,e,_,_,_=>by simp[cH]at e
theorem xE(e:fD p d af=some aM)(q:Dn A h d v)(er:ER A af env h)(hl:af.length<=env.length):∃env',gJ p v env=some env'/\ER A aM env' h:=by
 cases p with
 |one i=>
  simp only[fD]at e;cases e;refine⟨_,rfl,λj f d' hj=>?_⟩
  by_cases hij:i=j
  ·subst hij
   have hi:i<af.length:=by have:=(List.getElem?_eq_some_iff.mp hj).1;simpa using this
   rw[getElem?_set_self hi]at hj;cases hj;rw[if_neg (by decide)];exact⟨v,by rw[getElem?_set_self (by omega)],q⟩
  ·rw[getElem?_set_ne hij]at hj;rw[getElem?_set_ne hij];exact er j f d' hj
 |tup is=>
  cases d<;>simp only[fD]at e<;>first|(cases e;done)|skip
  rw[Dn]at q;obtain⟨vs,rfl,q⟩:=q;exact AA e q er λi _ hi=>by omega
theorem AB(e:ER A af env h):ER A (fS js af) (kF js env) h:=λi f d q=>by
 unfold fS at q;rw[getElem?_map]at q;cases hj:js[i]? with
 |none=>rw[hj]at q;cases q
 |some o=>
  rw[hj]at q;simp only[map_some]at q;cases o with
  |none=>cases q
  |some j=>
   dsimp only at q;cases ej:af[j]? with
   |none=>rw[ej]at q;cases q
   |some w=>
    cases w with
    |none=>rw[ej]at q;cases q
    |some fd=>
     rw[ej]at q;cases q;have:=e j f d ej;revert this;generalize oA f=t;intro this;cases t with
     |false=>rw[if_pos rfl]at this |-;obtain⟨a,k2,k3⟩:=this;refine⟨a,?_,k3⟩;unfold kF;rw[getElem?_map,hj];simp only[map_some];rw[k2]
     |true=>rw[if_neg (by decide)]at this |-;obtain⟨v,k1,k2⟩:=this;refine⟨v,?_,k2⟩;unfold kF;rw[getElem?_map,hj];simp only[map_some];rw[k1]
theorem rF :
  ∀(xs:List Val) (vs:List Val) (i:Nat) (acc:List Val) (h:Hs),hb<+:h->Up A h->(∀h',h<+:h'->src.items h'=some ws)->ws.drop i=vs->au A h xs vs ->
   (∀x v h',h<+:h'->Dn A h' x v->Rel A h' (λo h'' o'=>match o,o' with|some e,some e'=>RV A hb e h'' e'|none,none=>True|_,_=>False) (f v h') (g x)) ->
   Rel A h (λp h' ys=>∃zs,ys=acc++zs/\au A h' p.2 zs/\(p.1=true->au (Fr hb.length) h' p.2 zs)) (gp src f vs.length i acc h) (j4 g xs)
 | [],vs,i,acc,h,QS,u,hi,hd,q,hf=>by
  rw[au]at q;subst q;have hl:ws.length<=i:=List.drop_eq_nil_iff.mp hd;have ev:gp src f ([]:List Val).length i acc h=.ok acc h:=by show gp src f 0 i acc h=_;simp only[gp];unfold bnd ask bH aH;dsimp only;rw[hi h (prefix_refl _)];dsimp only;rw[if_pos (decide_eq_true hl)];rfl
  rw[ev,j4];exact⟨acc,h,rfl,prefix_refl _,[],by simp,au.nil,λ_=>au.nil⟩
 | x::xs,vs,i,acc,h,QS,u,hi,hd,q,hf=>by
  rw[au]at q;obtain⟨v,r,rfl,q1,q2⟩:=q;have hv:ws[i]?=some v:=by have:=congrArg (λl=>l[0]?) hd;simpa using this
  have hr:ws.drop (i+1)=r:=by
   have:ws.drop (i+1)=(ws.drop i).drop 1:=by rw[List.drop_drop]
   rw[this,hd];rfl
  have ev:gp src f (v::r).length i acc h=bnd (f v) (λo=>gp src f r.length (i+1) (match o with|some e=>acc++[e]|none=>acc)) h:=by show gp src f (r.length+1) i acc h=_;simp only[gp];unfold bnd ask bH;dsimp only;rw[hi h (prefix_refl _)];dsimp only;rw[hv];try rfl
  rw[ev,j4];refine ah (hf x v h (prefix_refl _) q1) λo h1 o' p1 ho=>?_;have ih:=λacc'=>rF xs r (i+1) acc' h1 (QS.trans p1) (u.ext p1) (λh' p=>hi h' (p1.trans p)) hr (q2.ext p1) λx v h' p=>hf x v h' (p1.trans p);cases o' with
  |some e'=>
   cases o with
   |none=>exact ho.elim
   |some e=>
    have ih:=ih (acc++[e']);cases e2:j4 g xs with
    |ok p=>
     rw[e2]at ih;obtain⟨ys,h2,e3,p2,zs,rfl,z1,z2⟩:=ih;refine⟨_,h2,e3,p2,e'::zs,by simp,au.cons (ho.1.ext p2) z1,λhp=>?_⟩;have Y4:e.1=true/\p.1=true:=by simpa using hp
     exact au.cons ((ho.2 Y4.1).ext p2) (z2 Y4.2)
    |exc c es=>rw[e2]at ih;exact ih
    |no=>trivial
  |none=>
   cases o with
   |some e'=>exact ho.elim
   |none=>
    have ih:=ih acc;cases e2:j4 g xs with
    |ok p=>rw[e2]at ih;obtain⟨ys,h2,e3,p2,zs,rfl,z1,z2⟩:=ih;exact⟨_,h2,e3,p2,zs,rfl,z1,z2⟩
    |exc c es=>rw[e2]at ih;exact ih
    |no=>trivial
theorem Nf(hs:lO Φ Ψ it)(hc:cg Φ Ψ c)(he:cg Φ Ψ elt):cg Φ Ψ (.comp N js pat k it c elt):=λaf env A h u e=>by
 rw[aJ,bI];refine ah (hs.2 af env A h u e) λds h1 vs p1 q1=>ah (Az q1) λxs h2 src p2 q2=>?_;obtain⟨ws,q3,q4⟩:=q2;have l:=q3.length;have ev:∀(F:List Val->M Val),bnd (ask λh=>src.items h) F h2=F ws h2:=λF=>by unfold bnd ask bH;dsimp only;rw[q4 h2 (prefix_refl _)]
 rw[ev];refine bW (λz=>by rw[<-l];exact z) λ_=>?_;have u2:=(u.ext p1).ext p2;have e2:=(e.ext p1).ext p2;refine ah (rF (hb:=h) xs ws 0 [] h2 (p1.trans p2) u2 q4 rfl q3 λx v h' p' qx=>?_) λp h3 ys p3 hp=>?_
 ·refine ah (R:=λaM _ env'=>∃_:ER A aM env' h',True) (bC λaM ev'=>?_) λaM h4 env' p4 he'=>?_
  ·obtain⟨env',a1,a2⟩:=xE ev' qx (AB (e2.ext p')) (by simp[fS,kF]);exact⟨env',a1,a2,trivial⟩
  ·obtain⟨er,_⟩:=he'
   have er:=er.ext p4;have u4:=(u2.ext p').ext p4;have Qm:Rel A h4 (λt _ t'=>t'=t) ((if dQ c=true then ret true else bnd (aJ Φ c env') λv=>ask λh=>cB h v) h4) (if dQ c=true then .ok true else pb (bI Ψ c aM) λv=>pl (cB [] v.2)):=by
    by_cases hn:dQ c=true
    ·rw[if_pos hn,if_pos hn];exact aA rfl
    ·rw[if_neg hn,if_neg hn];exact ah (hc aM env' A h4 u4 er) λy h5 w p5 q5=>bO λt et=>⟨t,vv q5.br et,rfl⟩
   refine ah Qm λt h5 t' p5 et=>?_;subst et;cases t' with
   |true=>rw[if_pos rfl,if_pos rfl];exact ah (he aM env' A h5 (u4.ext p5) (er.ext p5)) λy h6 w p6 q6=>aA (q6.up ((p1.trans p2).trans (p'.trans (p4.trans p5))))
   |false=>rw[if_neg Bool.false_ne_true,if_neg Bool.false_ne_true];exact aA trivial
 ·obtain⟨zs,rfl,z1,z2⟩:=hp;exact gm (u2.ext p3) ((p1.trans p2).trans p3) z1 z2
mutual
noncomputable def eX:IE->Bool
 |.cst d=>j3 d
 |.con _ d=>j3 d
 |.bin _ a b=>eX a&&eX b
 |.neg a=>eX a
 |.cmp _ a b=>eX a&&eX b
 |.chn _ _ a b c=>eX a&&eX b&&eX c
 |.and a b=>eX a&&eX b
 |.or a b=>eX a&&eX b
 |.not a=>eX a
 |.ite a b c=>eX a&&eX b&&eX c
 |.tup es=>ni es
 |.lst es=>ni es
 |.idx a b=>eX a&&eX b
 |.slc a b c=>eX a&&eX b&&eX c
 |.call _ es=>ni es
 |.blt _ es=>ni es
 |.met _ a es=>eX a&&ni es
 |.comp _ _ _ _ es a b=>ni es&&eX a&&eX b
 |.var _=>true
 |.no=>true
 |.dct0=>true
 |.sset a=>eX a
 |.dget a b c=>eX a&&eX b&&eX c
 |.dct1 a b=>eX a&&eX b
 |.lkeys a=>eX a
 |.sdef ..=>false
 |.svals _=>false
 |.skeys a=>eX a
 |.fld _ a _=>eX a
 |.mth a _ _ es=>eX a&&ni es
 |.rev a b=>eX a&&eX b
 |.dflt _ _ _ _ a b=>eX a&&eX b
 |.isc a _ _=>eX a
noncomputable def ni:o7->Bool
 |.nil=>true
 |.cons e es=>eX e&&ni es
end
theorem v_all(hΦ:∀j,Imp (Φ j) (Ψ j)):(∀ir,eX ir=true->cg Φ Ψ ir)/\∀fh,ni fh=true->lO Φ Ψ fh:=by
 have one:∀ir,eX ir=true->cg Φ Ψ ir:=by
  intro ir;refine IE.rec (motive_1:=λir=>eX ir=true->cg Φ Ψ ir) (motive_2:=λfh=>ni fh=true->lO Φ Ψ fh) ?_ ?_ ?_ ?_ ?_ ?_ ?_ ?_ ?_ ?_ ?_ ?_ ?_ ?_ ?_ ?_ ?_ ?_ ?_ ?_ ?_ ?_ ?_ ?_ ?_ ?_ ?_ ?_ ?_ ?_ ?_ ?_ ?_ ?_ ?_ ir
  ·exact λ_ _=>v_var
  ·exact λ_ f=>Qy f
  ·exact λ_ _ f=>Qz f
  ·exact λ_=>UZ
  ·intro _ _ _ a b f;have f:=gU f;exact QA (a f.1) (b f.2)
  ·intro _ a f;exact QB (a f)
  ·intro _ _ _ a b f;have f:=gU f;exact QC (a f.1) (b f.2)
  ·intro _ _ _ _ _ a b c f;have f:=vA f;exact QD (a f.1.1) (b f.1.2) (c f.2)
  ·intro _ _ a b f;have f:=gU f;exact v_and (a f.1) (b f.2)
  ·intro _ _ a b f;have f:=gU f;exact v_or (a f.1) (b f.2)
  ·intro _ a f;exact v_not (a f)
  ·intro _ _ _ a b c f;have f:=vA f;exact v_ite (a f.1.1) (b f.1.2) (c f.2)
  ·intro _ a f;exact QE (a f)
  ·intro _ a f;exact QG (a f)
  ·intro _ _ a b f;have f:=gU f;exact QH (a f.1) (b f.2)
  ·intro _ _ _ a b c f;have f:=vA f;exact QI (a f.1.1) (b f.1.2) (c f.2)
  ·intro _ _ a f;exact Nd hΦ (a f)
  ·intro _ _ a f;exact QM (a f)
  ·intro _ _ _ a b f;have f:=gU f;exact QN (a f.1) (b f.2)
  ·intro _ _ _ _ _ _ _ a b c f;have f:=vA f;exact Nf (a f.1.1) (b f.1.2) (c f.2)
  ·exact λ_=>M8
  ·intro _ a f;exact Nc (a f)
  ·intro _ _ _ a b c f;have f:=vA f;exact Na (a f.1.1) (b f.1.2) (c f.2)
  ·intro _ _ a b f;have f:=gU f;exact M9 (a f.1) (b f.2)
  ·intro _ a f;exact IM (a f)
  ·intro _ _ _ _ _ _ f;exact nomatch (show false=true from f)
  ·intro _ _ f;exact nomatch (show false=true from f)
  ·intro _ a f;exact IP (a f)
  ·intro _ _ _ a f;exact QK (a f)
  ·intro _ _ _ _ a b f;have f:=gU f;exact QL hΦ (a f.1) (b f.2)
  ·intro _ _ a b f;have f:=gU f;exact QJ (a f.1) (b f.2)
  ·intro _ _ _ _ _ _ a b f;have f:=gU f;exact Nb (a f.1) (b f.2)
  ·intro _ _ _ a f;exact QF (a f)
  ·exact λ_=>J4
  ·intro _ _ a b f;have f:=gU f;exact Ek (a f.1) (b f.2)
 refine⟨one,λfh=>?_⟩
 induction fh using o7.rec (motive_1:=λ_=>True) with
 |nil=>exact λ_=>J4
 |cons e es _ ih=>exact λf=>by have f:=gU f;exact Ek (one e f.1) (ih f.2)
 |_=>trivial
end
end Hv
end
section
namespace Hv
open PySem L2
section
variable {A A':AP} {h h':Hs}
mutual
theorem Dn.move(hn:A none->A' none)(hh:∀(i:Nat) (o:Ob),A (some i)->h[i]?=some o->A' (some i)/\h'[i]?=some o):∀(d v:Val),Dn A h d v->Dn A' h' d v
 |.non,v,e=>by rw[Dn]at e |-;exact e
 |.bl _,v,e=>by rw[Dn]at e |-;exact e
 |.int _,v,e=>by rw[Dn]at e |-;exact e
 |.str _,v,e=>by rw[Dn]at e |-;exact e
 | .tup ds,v,e=>by
  rw[Dn]at e |-;obtain⟨vs,rfl,q⟩:=e;exact⟨vs,rfl,au.move hn hh ds vs q⟩
 | .rl ds,v,e=>by
  rw[Dn]at e |-
  rcases e with ⟨vs,rfl,n,q⟩|⟨i,vs,rfl,a,g,q⟩
  ·exact .inl ⟨vs,rfl,hn n,au.move hn hh ds vs q⟩
  ·exact .inr ⟨i,vs,rfl,(hh i _ a g).1,(hh i _ a g).2,au.move hn hh ds vs q⟩
 | .dc ks ds,v,e=>by
  rw[Dn]at e |-;obtain⟨i,kvs,rfl,a,g,k,q⟩:=e;exact⟨i,kvs,rfl,(hh i _ a g).1,(hh i _ a g).2,k,au.move hn hh ds _ q⟩
 | .ob c xs ds,v,e=>by
  rw[Dn]at e |-;obtain⟨i,kvs,rfl,a,g,k,q⟩:=e;exact⟨i,kvs,rfl,(hh i _ a g).1,(hh i _ a g).2,k,au.move hn hh ds _ q⟩
 |.ref _,v,e=>by rw[Dn]at e;exact e.elim
theorem au.move(hn:A none->A' none)(hh:∀(i:Nat) (o:Ob),A (some i)->h[i]?=some o->A' (some i)/\h'[i]?=some o):∀(ds vs:List Val),au A h ds vs->au A' h' ds vs
 |[],vs,e=>by rw[au]at e |-;exact e
 | d::ds,vs,e=>by
  rw[au]at e |-;obtain⟨v,r,rfl,q1,q2⟩:=e;exact⟨v,r,rfl,Dn.move hn hh d v q1,au.move hn hh ds r q2⟩
end
end
noncomputable def Al(A0:AP)(O:Nat->Option Nat):AP:=λo=>A0 o/\∀i,o.isSome=true->O i≠o
structure SR (A0:AP) (h0:Hs) (af:bB) (env:Env) (h:Hs) (O:Nat->Option Nat):Prop where
 len:af.length=env.length
 sh:∀(i:Nat) (m:Mk) (d:Val),af[i]?=some (some (m,d))->oA m=true->∃v,env[i]?=some (some v)/\Dn (Al A0 O) h d v/\(OE m=true->Dn (Al (Fr h0.length) O) h d v)
 ow:∀(i:Nat) (d:Val),af[i]?=some (some (.ow,d))->∃a,env[i]?=some (some (.ref a))/\O i=some a/\OD (Al A0 O) h d a
 own:∀i a,O i=some a->h0.length<=a/\a<h.length/\∃d,af[i]?=some (some (.ow,d))
 inj:∀i j a,O i=some a->O j=some a->i=j
 pre:h0<+:h
 up:Up A0 h0
structure Fm (m:List Nat) (af:bB) (env:Env) (h:Hs) (O:Nat->Option Nat) (aM:bB) (env':Env) (h':Hs) (O':Nat->Option Nat):Prop where
 le:h.length<=h'.length
 keep:∀k,k<h.length->(∀i,O i≠some k)->h'[k]?=h[k]?/\∀i,O' i≠some k
 stay:∀i,i∉m->O' i=O i/\aM[i]?=af[i]?/\env'[i]?=env[i]?/\∀a,O i=some a->h'[a]?=h[a]?
noncomputable def RF(A0:AP)(h0:Hs)(m:List Nat)(af:bB)(env:Env)(h:Hs)(O:Nat->Option Nat):zo->Hs->Fl->Prop
 |.nx aM,h',.nx env'=>∃O',SR A0 h0 aM env' h' O'/\Fm m af env h O aM env' h' O'
 |.bk aM,h',.bk env'=>∃O',SR A0 h0 aM env' h' O'/\Fm m af env h O aM env' h' O'
 |.ct aM,h',.ct env'=>∃O',SR A0 h0 aM env' h' O'/\Fm m af env h O aM env' h' O'
 |.rt p,h',.rt v=>Dn A0 h' p.2 v/\(p.1=true->Dn (Fr h0.length) h' p.2 v)/\h0<+:h'
 |_,_,_=>False
noncomputable def jg(A0:AP)(h0:Hs){α β:Type}(R:α -> Hs -> β -> Prop)(o:Out β):Pr α -> Prop
 |.ok f=>∃g h',o=.ok g h'/\R f h' g
 |.exc c es=>∃ws h',o=.exc c ws h'/\h0<+:h'/\au A0 h' es ws
 |.no=>True
section
variable {A0:AP} {h0:Hs} {af:bB} {env:Env} {h h1:Hs} {O:Nat->Option Nat} {m:List Nat}
theorem SR.er(s:SR A0 h0 af env h O):ER (Al A0 O) af env h:=λi f d e=>by
 cases f with
 |ow=>rw[if_pos (show oA .ow=false by decide)];obtain⟨a,k2,_,k3⟩:=s.ow i d e;exact⟨a,k2,k3⟩
 |sh=>rw[if_neg (by decide)];obtain⟨v,k1,k2,_⟩:=s.sh i _ d e rfl;exact⟨v,k1,k2⟩
 |nw=>rw[if_neg (by decide)];obtain⟨v,k1,k2,_⟩:=s.sh i _ d e rfl;exact⟨v,k1,k2⟩
theorem SR.yv(s:SR A0 h0 af env h O):Up (Al A0 O) h:=λk hk=>⟨s.up k (le_trans s.pre.length_le hk),λi _ e=>by have:=(s.own i k e).2.1;omega⟩
theorem SR.ext(s:SR A0 h0 af env h O)(p:h<+:h1):SR A0 h0 af env h1 O where
 len:=s.len
 sh i m d e hm:=by obtain⟨v,k1,k2,k3⟩:=s.sh i m d e hm;exact⟨v,k1,k2.ext p,λz=>(k3 z).ext p⟩
 ow i d e:=by obtain⟨a,k2,k3,k4⟩:=s.ow i d e;exact⟨a,k2,k3,k4.ext p⟩
 own i a e:=by obtain⟨k1,k2,k3⟩:=s.own i a e;exact⟨k1,lt_of_lt_of_le k2 p.length_le,k3⟩
 inj:=s.inj
 pre:=s.pre.trans p
 up:=s.up
theorem jx(p:h<+:h1){k:Nat}(hk:k<h.length):h1[k]?=h[k]?:=by
 obtain⟨t,rfl⟩:=p;rw[getElem?_append_left hk]
theorem Fm.refl(s:SR A0 h0 af env h O)(p:h<+:h1):Fm m af env h O af env h1 O where
 le:=p.length_le
 keep k hk n:=⟨jx p hk,n⟩
 stay i _:=⟨rfl,rfl,rfl,λa e=>jx p (s.own i a e).2.1⟩
theorem Fm.trans{nj pq:bB}{gW kJ:Env}{h2:Hs}{O1 O2:Nat->Option Nat}(a:Fm m af env h O nj gW h1 O1)(b:Fm m nj gW h1 O1 pq kJ h2 O2):Fm m af env h O pq kJ h2 O2 where
 le:=le_trans a.le b.le
 keep k hk n:=by obtain⟨a1,a2⟩:=a.keep k hk n;obtain⟨b1,b2⟩:=b.keep k (lt_of_lt_of_le hk a.le) a2;exact⟨b1.trans a1,b2⟩
 stay i hi:=by obtain⟨a1,a2,a3,a4⟩:=a.stay i hi;obtain⟨b1,b2,b3,b4⟩:=b.stay i hi;exact⟨b1.trans a1,b2.trans a2,b3.trans a3,λc e=>(b4 c (a1.trans e)).trans (a4 c e)⟩
theorem Fm.iK{m':List Nat}(hm:∀i∈m,i∈m')(a:Fm m af env h O aM env' h1 O'):Fm m' af env h O aM env' h1 O':=⟨a.le,a.keep,λi hi=>a.stay i λz=>hi (hm i z)⟩
theorem RF.pre(s:SR A0 h0 af env h O)(p:h<+:h1)(r:RF A0 h0 m af env h1 O f h' g):RF A0 h0 m af env h O f h' g:=by
 cases f<;>cases g<;>first|exact r.elim|exact r|(obtain⟨O',a,b⟩:=r;exact⟨O',a,(Fm.refl s p).trans b⟩)
theorem RF.iK{m':List Nat}(hm:∀i∈m,i∈m')(r:RF A0 h0 m af env h O f h' g):RF A0 h0 m' af env h O f h' g:=by
 cases f<;>cases g<;>first|exact r.elim|exact r|(obtain⟨O',a,b⟩:=r;exact⟨O',a,b.iK hm⟩)
theorem RF.seq{nj:bB}{gW:Env}{O1:Nat->Option Nat}(a:Fm m af env h O nj gW h1 O1)(r:RF A0 h0 m nj gW h1 O1 f h' g):RF A0 h0 m af env h O f h' g:=by
 cases f<;>cases g<;>first|exact r.elim|exact r|(obtain⟨O',b,c⟩:=r;exact⟨O',b,a.trans c⟩)
theorem bw{α β γ δ:Type}{R:α -> Hs -> β -> Prop}{R':γ -> Hs -> δ -> Prop}{mm:M β}{f:β -> M δ}{p:Pr α}{F:α -> Pr γ}(s:SR A0 h0 af env h O)(r:Rel (Al A0 O) h R (mm h) p)(k:∀a h1 b,h<+:h1->R a h1 b->jg A0 h0 R' (f b h1) (F a)):jg A0 h0 R' (bnd mm f h) (pb p F):=by
 unfold bnd;cases p with
 |ok a=>obtain⟨b,h1,e,q,r⟩:=r;rw[e];exact k a h1 b q r
 |exc c es=>obtain⟨ws,h1,e,q,r⟩:=r;rw[e];exact⟨ws,h1,rfl,s.pre.trans q,r.iK λ_ z=>z.1⟩
 |no=>trivial
theorem aW{α β:Type}{R:α -> Hs -> β -> Prop}{a:α}{b:β}(r:R a h b):jg A0 h0 R (ret b h) (.ok a):=⟨b,h,rfl,r⟩
theorem f6{α β:Type}{R R':α -> Hs -> β -> Prop}{o:Out β}{p:Pr α}(r:jg A0 h0 R o p)(k:∀a h' b,R a h' b->R' a h' b):jg A0 h0 R' o p:=by
 cases p with
 |ok a=>obtain⟨b,h',e,r⟩:=r;exact⟨b,h',e,k a h' b r⟩
 |exc c es=>exact r
 |no=>trivial
theorem nk{α β γ δ:Type}{R:α -> Hs -> β -> Prop}{R':γ -> Hs -> δ -> Prop}{mm:M β}{f:β -> M δ}{p:Pr α}{F:α -> Pr γ}(r:jg A0 h0 R (mm h) p)(k:∀a h1 b,R a h1 b->jg A0 h0 R' (f b h1) (F a)):jg A0 h0 R' (bnd mm f h) (pb p F):=by
 unfold bnd;cases p with
 |ok a=>obtain⟨b,h1,e,r⟩:=r;rw[e];exact k a h1 b r
 |exc c es=>obtain⟨ws,h1,e,q,r⟩:=r;rw[e];exact⟨ws,h1,rfl,q,r⟩
 |no=>trivial
theorem jQ{α β:Type}{R:α -> Hs -> β -> Prop}{c:Bool}{o:Out β}{p:Pr α}(r:c=true->jg A0 h0 R o p):jg A0 h0 R o (pg c p):=by
 unfold pg;cases c with
 |true=>rw[if_pos rfl];exact r rfl
 |false=>rw[if_neg Bool.false_ne_true];trivial
noncomputable def gM(O:Nat->Option Nat)(i:Nat):Nat->Option Nat:=λj=>if j=i then none else O j
theorem qd:Al A0 O none->Al A0 O none:=id
theorem kN:Al A0 O none->Al A0 O' none:=λh=>⟨h.1,λ_ z=>by cases z⟩
theorem jR{i:Nat}:∀k,Al A0 O k->Al A0 (gM O i) k:=λk ⟨a,b⟩=>⟨a,λj z=>by unfold gM;split;(cases k<;>simp_all);exact b j z⟩
theorem SR.setM(s:SR A0 h0 af env h O){i:Nat}{mk:Mk}{d v:Val}(hmk:oA mk=true)(q:Dn (Al A0 O) h d v)(qn:OE mk=true->Dn (Al (Fr h0.length) O) h d v):SR A0 h0 (af.set i (some (mk,d))) (env.set i (some v)) h (gM O i)/\Fm [i] af env h O (af.set i (some (mk,d))) (env.set i (some v)) h (gM O i):=by
 refine⟨⟨by simp[s.len],λj m' d' e hm'=>?_,λj d' e=>?_,λj a e=>?_,λj l a e1 e2=>?_,s.pre,s.up⟩,Nat.le_refl _,λk hk n=>⟨rfl,λj=>?_⟩,λj hj=>?_⟩
 ·by_cases hij:i=j
  ·subst hij
   have hi:i<af.length:=by have:=(List.getElem?_eq_some_iff.mp e).1;simpa using this
   rw[getElem?_set_self hi]at e;cases e;exact⟨v,by rw[getElem?_set_self (by rw[<-s.len];exact hi)],q.iK jR,λz=>(qn z).iK jR⟩
  ·rw[getElem?_set_ne hij]at e;rw[getElem?_set_ne hij];obtain⟨w,k1,k2,k3⟩:=s.sh j m' d' e hm';exact⟨w,k1,k2.iK jR,λz=>(k3 z).iK jR⟩
 ·by_cases hij:i=j
  ·subst hij
   have hi:i<af.length:=by have:=(List.getElem?_eq_some_iff.mp e).1;simpa using this
   rw[getElem?_set_self hi]at e;cases e;cases hmk
  ·rw[getElem?_set_ne hij]at e;rw[getElem?_set_ne hij];obtain⟨a,k2,k3,k4⟩:=s.ow j d' e;exact⟨a,k2,by unfold gM;rw[if_neg (λz=>hij z.symm)];exact k3,k4.mono (λ_ g=>g) λ_ _ z=>z.iK jR⟩
 ·unfold gM at e
  split at e
  ·cases e
  ·rename_i hj;obtain⟨k1,k2,d',k3⟩:=s.own j a e;exact⟨k1,k2,d',by rw[getElem?_set_ne (λz=>hj z.symm)];exact k3⟩
 ·unfold gM at e1 e2
  split at e1
  ·cases e1
  ·split at e2
   ·cases e2
   ·exact s.inj j l a e1 e2
 ·unfold gM;split;simp;exact n j
 ·have hj':j≠i:=by simpa using hj
  exact⟨by unfold gM;rw[if_neg hj'],getElem?_set_ne (λz=>hj' z.symm),getElem?_set_ne (λz=>hj' z.symm),λ_ _=>rfl⟩
theorem SR.set(s:SR A0 h0 af env h O){i:Nat}(q:Dn (Al A0 O) h d v):SR A0 h0 (af.set i (some (.sh,d))) (env.set i (some v)) h (gM O i)/\Fm [i] af env h O (af.set i (some (.sh,d))) (env.set i (some v)) h (gM O i):=s.setM rfl q λz=>nomatch z
theorem SR.binds:∀{is:List Nat} {ds vs:List Val} {af:bB} {env:Env} {O:Nat->Option Nat} {aM:bB},SR A0 h0 af env h O->cH is ds af=some aM->au (Al A0 O) h ds vs ->
  ∃env' O',bindAll is vs env=some env'/\SR A0 h0 aM env' h O'/\Fm is af env h O aM env' h O'
 | [],[],vs,af,env,O,aM,s,e,q=>by
  rw[au]at q;subst q;simp only[cH]at e;cases e;exact⟨env,O,rfl,s,Fm.refl s (prefix_refl _)⟩
 | i::is,d::ds,vs,af,env,O,aM,s,e,q=>by
  rw[au]at q;obtain⟨v,r,rfl,q1,q2⟩:=q;simp only[cH]at e;obtain⟨s1,f1⟩:=s.set (i:=i) q1;obtain⟨env',O',b1,b2,b3⟩:=SR.binds s1 e (q2.iK jR);refine⟨env',O',by simp only[bindAll];exact b1,b2,(f1.iK λj hj=>?_).trans (b3.iK λj hj=>mem_cons_of_mem _ hj)⟩;rw[mem_singleton.mp hj];exact mem_cons_self
 |[],_::_,_,_,_,_,_,_,e,_=>by simp[cH]at e
 |_::_,[],_,_,_,_,_,_,e,_=>by simp[cH]at e
theorem SR.bind(s:SR A0 h0 af env h O)(e:fD p d af=some aM)(q:Dn (Al A0 O) h d v):∃env' O',gJ p v env=some env'/\SR A0 h0 aM env' h O'/\Fm (stored p) af env h O aM env' h O':=by
 cases p with
 |one i=>simp only[fD]at e;cases e;obtain⟨s1,f1⟩:=s.set (i:=i) q;exact⟨_,_,rfl,s1,f1⟩
 |tup is=>
  cases d<;>simp only[fD]at e<;>first|(cases e;done)|skip
  rw[Dn]at q;obtain⟨vs,rfl,q⟩:=q;exact s.binds e q
theorem IQ{a:Nat}(p:h0<+:h)(ha:h0.length<=a):h0<+:h.set a o:=by
 obtain⟨t,rfl⟩:=p;rw[List.set_append_right _ _ ha];exact prefix_append _ _
theorem SR.put(s:SR A0 h0 af env h O){i a:Nat}{d d1:Val}(e:af[i]?=some (some (.ow,d)))(ha:O i=some a)(q:OB (Al A0 O) h d1 ob) :
  SR A0 h0 (af.set i (some (.ow,d1))) env (h.set a ob) O/\Fm [i] af env h O (af.set i (some (.ow,d1))) env (h.set a ob) O:=by
 obtain⟨o1,o2,_⟩:=s.own i a ha;have hi:i<af.length:=(List.getElem?_eq_some_iff.mp e).1;have mv:∀{A0:AP} (k:Nat) (o:Ob),Al A0 O k->h[k]?=some o->Al A0 O k/\(h.set a ob)[k]?=some o:=λk o hk g=>⟨hk,by rw[getElem?_set_ne λz=>hk.2 i rfl (by rw[<-z];exact ha)];exact g⟩;obtain⟨a0,e2,e3,_⟩:=s.ow i d e;refine⟨⟨by simp[s.len],λj m' d' ej hm'=>?_,λj d' ej=>?_,λj b ej=>?_,s.inj,IQ s.pre o1,s.up⟩,by simp,λk hk n=>⟨?_,n⟩,λj hj=>?_⟩
 ·by_cases hij:i=j
  ·subst hij;rw[getElem?_set_self hi]at ej;cases ej;cases hm'
  ·rw[getElem?_set_ne hij]at ej;obtain⟨w,k1,k2,k3⟩:=s.sh j m' d' ej hm';exact⟨w,k1,Dn.move qd mv _ _ k2,λz=>Dn.move qd mv _ _ (k3 z)⟩
 ·by_cases hij:i=j
  ·subst hij;rw[getElem?_set_self hi]at ej;cases ej;rw[ha]at e3;cases e3;exact⟨a,e2,ha,q.od (by rw[getElem?_set_self o2]) λ_ _ z=>au.move qd mv _ _ z⟩
  ·rw[getElem?_set_ne hij]at ej;obtain⟨a1,k2,k3,k4⟩:=s.ow j d' ej;have:a≠a1:=λz=>hij (s.inj i j a ha (by rw[z];exact k3));exact⟨a1,k2,k3,k4.mono (λ_ g=>by rw[getElem?_set_ne this];exact g) λ_ _ z=>au.move qd mv _ _ z⟩
 ·obtain⟨k1,k2,d',k3⟩:=s.own j b ej
  refine⟨k1,by simp[k2],?_⟩
  by_cases hij:i=j
  ·subst hij;exact⟨_,by rw[getElem?_set_self hi]⟩
  ·exact⟨d',by rw[getElem?_set_ne hij];exact k3⟩
 ·rw[getElem?_set_ne λz=>n i (by rw[<-z];exact ha)]
 ·have hj':j≠i:=by simpa using hj
  exact⟨rfl,getElem?_set_ne (λz=>hj' z.symm),rfl,λb eb=>by rw[getElem?_set_ne λz=>hj' (s.inj j i b eb (by rw[<-z];exact ha))]⟩
noncomputable def tB(O:Nat->Option Nat)(i a:Nat):Nat->Option Nat:=λj=>if j=i then some a else O j
theorem SR.fresh(s:SR A0 h0 af env h O){i:Nat}{d1:Val}{h2:Hs}(p:h<+:h2)(q:OB (Al A0 O) h2 d1 ob) :
  SR A0 h0 (af.set i (some (.ow,d1))) (env.set i (some (.ref h2.length))) (h2++[ob]) (if i<af.length then tB O i h2.length else gM O i) /\
   Fm [i] af env h O (af.set i (some (.ow,d1))) (env.set i (some (.ref h2.length))) (h2++[ob]) (if i<af.length then tB O i h2.length else gM O i):=by
 have pp:h<+:h2++[ob]:=p.trans (prefix_append _ _);have s2:=s.ext p;have mv:∀{A0:AP} (j:Nat),∀(k:Nat) (o:Ob),Al A0 O k->h2[k]?=some o->Al A0 (if i<af.length then tB O i h2.length else gM O i) k/\(h2++[ob])[k]?=some o:=λ{A0} j k o hk g=>by
  have hlt:k<h2.length:=(List.getElem?_eq_some_iff.mp g).1;refine⟨?_,by rw[getElem?_append_left hlt];exact g⟩
  split
  ·refine⟨hk.1,λl _=>?_⟩
   unfold tB
   split
   ·intro z;cases z;omega
   ·exact hk.2 l rfl
  ·exact jR k hk
 by_cases hi:i<af.length
 ·rw[if_pos hi]at mv |-
  refine⟨⟨by simp[s.len],λj m' d' ej hm'=>?_,λj d' ej=>?_,λj b ej=>?_,λj l b e1 e2=>?_,s.pre.trans pp,s.up⟩,pp.length_le,λk hk n=>⟨jx pp hk,λl=>?_⟩,λj hj=>?_⟩
  ·by_cases hij:i=j
   ·subst hij;rw[getElem?_set_self hi]at ej;cases ej;cases hm'
   ·rw[getElem?_set_ne hij]at ej;rw[getElem?_set_ne hij];obtain⟨w,k1,k2,k3⟩:=s2.sh j m' d' ej hm';exact⟨w,k1,Dn.move kN (mv 0) _ _ k2,λz=>Dn.move kN (mv 0) _ _ (k3 z)⟩
  ·by_cases hij:i=j
   ·subst hij;rw[getElem?_set_self hi]at ej;cases ej;exact⟨h2.length,by rw[getElem?_set_self (by rw[<-s.len];exact hi)],by unfold tB;rw[if_pos rfl],q.od (by simp) λ_ _ z=>au.move kN (mv 0) _ _ z⟩
   ·rw[getElem?_set_ne hij]at ej;rw[getElem?_set_ne hij];obtain⟨a1,k2,k3,k4⟩:=s2.ow j d' ej;have hlt:a1<h2.length:=k4.lt;exact⟨a1,k2,by unfold tB;rw[if_neg λz=>hij z.symm];exact k3,k4.mono (λ_ g=>by rw[getElem?_append_left hlt];exact g) λ_ _ z=>au.move kN (mv 0) _ _ z⟩
  ·unfold tB at ej
   split at ej
   ·rename_i hj;cases ej;subst hj;exact⟨le_trans s.pre.length_le p.length_le,by simp,_,by rw[getElem?_set_self hi]⟩
   ·rename_i hj;obtain⟨k1,k2,d',k3⟩:=s2.own j b ej;exact⟨k1,by simp;omega,d',by rw[getElem?_set_ne λz=>hj z.symm];exact k3⟩
  ·unfold tB at e1 e2
   split at e1
   ·rename_i h1;cases e1
    split at e2
    ·rename_i h3;rw[h1,h3]
    ·have:=(s2.own l _ e2).2.1;omega
   ·split at e2
    ·cases e2;have:=(s2.own j _ e1).2.1;omega
    ·exact s.inj j l b e1 e2
  ·unfold tB;split
   ·intro z;cases z;have:=p.length_le;omega
   ·exact n l
  ·have hj':j≠i:=by simpa using hj
   exact⟨by unfold tB;rw[if_neg hj'],getElem?_set_ne (λz=>hj' z.symm),getElem?_set_ne (λz=>hj' z.symm),λb eb=>jx pp (s.own j b eb).2.1⟩
 ·rw[if_neg hi]at mv |-
  have e1:af.set i (some (.ow,d1))=af:=List.set_eq_of_length_le (by omega);have e2:env.set i (some (.ref h2.length))=env:=List.set_eq_of_length_le (by rw[<-s.len];omega);have e3:gM O i=O:=by
   funext j;unfold gM;split
   ·rename_i hj;subst hj
    cases e:O j with
    |none=>rfl
    |some a=>obtain⟨_,_,d,k⟩:=s.own j a e;exact absurd (List.getElem?_eq_some_iff.mp k).1 hi
   ·rfl
  rw[e1,e2,e3];exact⟨s.ext pp,Fm.refl s pp⟩
end
end Hv
end
section
namespace Hv
open PySem L2
section
variable {Φ:Nat->List Val->M Val} {Ψ:Nat->List Val->Pr FV} {A:AP} {h h1:Hs}
noncomputable def isRef:Val->Bool
 |.rl _=>true
 |.dc _ _=>true
 |_=>false
noncomputable def RN(A:AP)(h:Hs):FV->Hs->Val->Prop:=λx h' v=>isRef x.2=true->∃h2 o,h'=h2++[o]/\v=.ref h2.length/\h<+:h2/\OB A h2 x.2 o
noncomputable def J5(Φ:Nat->List Val->M Val)(Ψ:Nat->List Val->Pr FV)(ir:IE):Prop:=∀(af:bB) (env:Env) (A:AP) (h:Hs),Up A h->ER A af env h->Rel A h (RN A h) (aJ Φ ir env h) (bI Ψ ir af)
theorem kO{f:Bool}{h0:Hs}(p:h0<+:h)(q:au A h xs vs):Rel A h (RN A h0) (new (.lst vs) h) (.ok (f,.rl xs)) :=
 ⟨_,_,rfl,dR _,λ_=>⟨h,.lst vs,rfl,rfl,p,vs,rfl,q⟩⟩
theorem Ng:J5 Φ Ψ .dct0:=λaf env A h u e=>by
 rw[aJ,bI];exact⟨_,_,rfl,dR _,λ_=>⟨h,.dct [],rfl,rfl,prefix_refl _,[],rfl,rfl,au.nil⟩⟩
theorem Nh(hk:cg Φ Ψ k)(hv:cg Φ Ψ v):J5 Φ Ψ (.dct1 k v):=λaf env A h u e=>by
 rw[aJ,bI];refine ah (hk af env A h u e) λx h1 w p1 q1=>ah (R:=λkk _ kk'=>kk'=kk) (bC λkk ek=>⟨kk,zp q1.1 ek,rfl⟩) λkk h2 kk' p2 hkk=>?_;subst hkk;refine ah (hv af env A h2 ((u.ext p1).ext p2) ((e.ext p1).ext p2)) λy h3 z p3 q3=>?_;exact⟨_,_,rfl,dR _,λ_=>⟨h3,.dct [(kk',z)],rfl,rfl,(p1.trans p2).trans p3,[(kk',z)],rfl,rfl,au.cons q3.1 au.nil⟩⟩
theorem QT(hs:lO Φ Ψ es):J5 Φ Ψ (.lst es):=λaf env A h u e=>by
 rw[aJ,bI];exact ah (hs.1 af env A h u e) λx h1 vs p1 q1=>bW (λz=>by rw[<-q1.1.length];exact z) λ_=>kO p1 q1.1
theorem QU(ha:cg Φ Ψ a)(hl:cg Φ Ψ lo)(hh:cg Φ Ψ hi):J5 Φ Ψ (.slc a lo hi):=λaf env A h u e=>by
 rw[aJ,bI];refine ah (kL ha u e) λx h1 v p1 q1=>ah (nh hl (u.ext p1) (e.ext p1)) λl h2 l' p2 el=>ah (nh hh ((u.ext p1).ext p2) ((e.ext p1).ext p2)) λr h3 r' p3 er=>?_;subst el;subst er;have q1:=DB.ext (p2.trans p3) q1;obtain⟨f,d⟩:=x;cases d with
 |tup ds=>obtain⟨vs,rfl,q⟩:=DB.tup q1;have l:=q.length;simp only[Ca,tu];exact bW (λz=>by rw[l]at z;exact z) λ_=>aA λe=>by cases e
 |rl ds=>
  obtain⟨vs,e1,q⟩:=DB.lst q1;have ev:tu v l' r' h3=new (.lst (ck vs l' r')) h3:=by
   have:tu v l' r'=bnd (ask λh=>aE h v) λxs=>new (.lst (ck xs l' r')):=by cases v<;>simp only[aE]at e1<;>first|(cases e1;done)|rfl
   rw[this];unfold bnd ask bH;dsimp only;rw[e1]
  rw[ev];exact kO ((p1.trans p2).trans p3) (q.cut l' r')
 |_=>trivial
theorem Ni(hs:lO Φ Ψ es):J5 Φ Ψ (.blt .list es):=λaf env A h u e=>by
 rw[aJ,bI];refine ah (hs.2 af env A h u e) λds h1 vs p1 q1=>?_
 match ds,q1 with
 |[],q1=>trivial
 |[d],q1=>obtain⟨v,rfl,hv⟩:=q1.one;exact ah (R:=λxs h' ws=>au A h' xs ws) (bO λxs e=>hv.seq e) λxs h2 ws p2 q=>kO (p1.trans p2) q
 |_::_::_,_=>trivial
theorem El(hs:lO Φ Ψ es):J5 Φ Ψ (.blt .sorted es):=λaf env A h u e=>by
 rw[aJ,bI];refine ah (hs.2 af env A h u e) λds h1 vs p1 q1=>?_
 match ds,q1 with
 |[],q1=>trivial
 |[d],q1=>
  obtain⟨v,rfl,hv⟩:=q1.one;cases d<;>first|trivial|skip
  rename_i xs;obtain⟨ws,e1,q⟩:=hv.lst;have ev:bnd (ask λh=>aE h v) (λxs=>bnd (bH (fQ xs)) λys=>new (.lst ys)) h1=bnd (bH (fQ ws)) (λys=>new (.lst ys)) h1:=by unfold bnd ask bH;dsimp only;rw[e1]
  show Rel A h1 (RN A h) (bnd (ask λh=>aE h v) (λxs=>bnd (bH (fQ xs)) λys=>new (.lst ys)) h1) _;rw[ev];refine ah (R:=λys _ zs=>zs=ys/\bR ys=true) (bC λys e=>?_) λys h2 zs p2 hz=>?_
  ·obtain⟨i1,i2⟩:=uw e;rw[(aS xs ws i1).mp q];exact⟨ys,e,rfl,i2⟩
  ·obtain⟨rfl,hi⟩:=hz;exact kO (p1.trans p2) ((aS _ _ hi).mpr rfl)
 |x::_::_,_=>cases x<;>trivial
theorem Nj(hs:lO Φ Ψ it)(hc:cg Φ Ψ c)(he:cg Φ Ψ elt):J5 Φ Ψ (.comp N js pat k it c elt):=λaf env A h u e=>by
 rw[aJ,bI];refine ah (hs.2 af env A h u e) λds h1 vs p1 q1=>ah (Az q1) λxs h2 src p2 q2=>?_;obtain⟨ws,q3,q4⟩:=q2;have l:=q3.length;have ev:∀(F:List Val->M Val),bnd (ask λh=>src.items h) F h2=F ws h2:=λF=>by unfold bnd ask bH;dsimp only;rw[q4 h2 (prefix_refl _)]
 rw[ev];refine bW (λz=>by rw[<-l];exact z) λ_=>?_;have u2:=(u.ext p1).ext p2;have e2:=(e.ext p1).ext p2;refine ah (rF (hb:=h) xs ws 0 [] h2 (p1.trans p2) u2 q4 rfl q3 λx v h' p' qx=>?_) λp h3 ys p3 hp=>?_
 ·refine ah (R:=λaM _ env'=>∃_:ER A aM env' h',True) (bC λaM ev'=>?_) λaM h4 env' p4 he'=>?_
  ·obtain⟨env',a1,a2⟩:=xE ev' qx (AB (e2.ext p')) (by simp[fS,kF]);exact⟨env',a1,a2,trivial⟩
  ·obtain⟨er,_⟩:=he'
   have er:=er.ext p4;have u4:=(u2.ext p').ext p4;have Qm:Rel A h4 (λt _ t'=>t'=t) ((if dQ c=true then ret true else bnd (aJ Φ c env') λv=>ask λh=>cB h v) h4) (if dQ c=true then .ok true else pb (bI Ψ c aM) λv=>pl (cB [] v.2)):=by
    by_cases hn:dQ c=true
    ·rw[if_pos hn,if_pos hn];exact aA rfl
    ·rw[if_neg hn,if_neg hn];exact ah (hc aM env' A h4 u4 er) λy h5 w p5 q5=>bO λt et=>⟨t,vv q5.br et,rfl⟩
   refine ah Qm λt h5 t' p5 et=>?_;subst et;cases t' with
   |true=>rw[if_pos rfl,if_pos rfl];exact ah (he aM env' A h5 (u4.ext p5) (er.ext p5)) λy h6 w p6 q6=>aA (q6.up ((p1.trans p2).trans (p'.trans (p4.trans p5))))
   |false=>rw[if_neg Bool.false_ne_true,if_neg Bool.false_ne_true];exact aA trivial
 ·obtain⟨zs,rfl,z1,z2⟩:=hp;exact kO ((p1.trans p2).trans p3) z1
theorem QV(hΦ:∀j,Imp (Φ j) (Ψ j))(hf:UW e=true)(ho:eX e=true):J5 Φ Ψ e:=by
 have V:=v_all hΦ;cases e<;>first|(cases hf;done)|skip
 ·exact QT (V.2 _ ho)
 ·have ho:=vA ho;exact QU (V.1 _ ho.1.1) (V.1 _ ho.1.2) (V.1 _ ho.2)
 ·rename_i b es
  change ni _=true at ho;cases b<;>first|(cases hf;done)|skip
  ·exact El (V.2 _ ho)
  ·exact Ni (V.2 _ ho)
 ·have ho:=vA ho;exact Nj (V.2 _ ho.1.1) (V.1 _ ho.1.2) (V.1 _ ho.2)
 ·exact Ng
 ·have ho:=gU ho;exact Nh (V.1 _ ho.1) (V.1 _ ho.2)
mutual
noncomputable def Y5:IS->Bool
 |.expr e=>eX e
 |.asg _ e=>eX e
 |.aug _ _ e=>eX e
 |.fX o i v=>eX o&&eX i&&eX v
 |.iff c a b=>eX c&&xF a&&xF b
 |.for _ _ it b=>ni it&&xF b
 |.whl _ c b=>eX c&&xF b
 |.ret e=>eX e
 |_=>true
noncomputable def xF:eE->Bool
 |.nil=>true
 |.cons s r=>Y5 s&&xF r
end
noncomputable def mS(s:IS):List Nat:=tw s++oB s
noncomputable def IT(s:eE):List Nat:=gr s++lW s
variable {ms:List Nat}
noncomputable def AD(Φ:Nat->List Val->M Val)(Ψ:Nat->List Val->Pr FV)(ms:List Nat)(s:IS):Prop:=∀(A0:AP) (h0:Hs) (af:bB) (env:Env) (h:Hs) (O:Nat->Option Nat),SR A0 h0 af env h O->jg A0 h0 (RF A0 h0 (mS s) af env h O) (gK Φ s env h) (aQ Ψ ms s af)
noncomputable def vB(Φ:Nat->List Val->M Val)(Ψ:Nat->List Val->Pr FV)(ms:List Nat)(s:eE):Prop:=∀(A0:AP) (h0:Hs) (af:bB) (env:Env) (h:Hs) (O:Nat->Option Nat),SR A0 h0 af env h O->jg A0 h0 (RF A0 h0 (IT s) af env h O) (fu Φ s env h) (aV Ψ ms s af)
theorem Em(he:cg Φ Ψ e)(hx:∀af,aQ Ψ ms (.expr e) af=pb (bI Ψ e af) λ_=>.ok (.nx af)):AD Φ Ψ ms (.expr e):=λA0 h0 af env h O s=>by
 rw[gK,hx];exact bw s (he af env _ h s.yv s.er) λx h1 v p1 q1=>aW ⟨O,s.ext p1,Fm.refl s p1⟩
theorem bF{α β γ:Type}(m:M α)(f:α -> M β)(g:β -> M γ):bnd (bnd m f) g=bnd m λx=>bnd (f x) g:=by
 funext h;show (match (match m h with|.ok a h'=>f a h'|.exc c vs h'=>.exc c vs h'|.no=>.no) with|.ok a h'=>g a h'|.exc c vs h'=>.exc c vs h'|.no=>.no)=(match m h with|.ok a h'=>bnd (f a) g h'|.exc c vs h'=>.exc c vs h'|.no=>.no);cases m h<;>rfl
theorem aq{α β:Type}{m:M α}{f:α -> M β}{a:α}{h h1:Hs}(e:m h=.ok a h1):bnd m f h=f a h1:=by unfold bnd;rw[e]
theorem bV{i:Nat}(e:env[i]?=some (some v)):aJ Φ (.var i) env h=.ok v h:=by rw[aJ,e];rfl
theorem Cb{i:Nat}(ha:cg Φ Ψ a):AD Φ Ψ ms (.expr (.met .append (.var i) (.cons a .nil))):=λA0 h0 af env h O s=>by
 rw[gK,aQ];try dsimp only
 split
 ·rename_i ds hv
  obtain⟨b,e2,e3,vs,e4,e5⟩:=s.ow i _ hv;have ev:bnd (aJ Φ (.met .append (.var i) (.cons a .nil)) env) (λ_=>ret (Fl.nx env)) h=bnd (aJ Φ a env) (λv=>bnd (met .append (.ref b) [v]) λ_=>ret (Fl.nx env)) h:=by
   rw[aJ,bF,aq (bV e2)];rw[bF,aq (a:=()) (h1:=h) (by unfold ask bH;simp[recv,e4])];rw[bF,bz,bF]
   congr 1
  rw[ev];refine bw s (ha af env _ h s.yv s.er) λx h1 v p1 q1=>jQ λhg=>?_;have s1:=s.ext p1;obtain⟨s2,f2⟩:=s1.put (d1:=.rl (ds++[x.2])) (ob:=.lst (vs++[v])) hv e3 ⟨_,rfl,(e5.ext p1).append (au.cons q1.1 au.nil)⟩;have l:=e5.length;refine⟨.nx env,h1.set b (.lst (vs++[v])),?_,O,s2,(Fm.refl s p1).trans (f2.iK λj hj=>?_)⟩
  ·have g:=cF p1 e4;unfold met bnd ask bH aH put ret;dsimp only;rw[g];dsimp only;rw[if_pos (by rw[<-l];exact hg)]
  ·rw[mem_singleton.mp hj];exact mem_append_left _ mem_cons_self
 ·trivial
theorem Cc{i:Nat}(ha:cg Φ Ψ a):AD Φ Ψ ms (.expr (.met .extend (.var i) (.cons a .nil))):=λA0 h0 af env h O s=>by
 rw[gK,aQ];try dsimp only
 split
 ·rename_i ds hv
  obtain⟨b,e2,e3,vs,e4,e5⟩:=s.ow i _ hv;have ev:bnd (aJ Φ (.met .extend (.var i) (.cons a .nil)) env) (λ_=>ret (Fl.nx env)) h=bnd (aJ Φ a env) (λv=>bnd (met .extend (.ref b) [v]) λ_=>ret (Fl.nx env)) h:=by
   rw[aJ,bF,aq (bV e2)];rw[bF,aq (a:=()) (h1:=h) (by unfold ask bH;simp[recv,e4])];rw[bF,bz,bF]
   congr 1
  rw[ev];refine bw s (ha af env _ h s.yv s.er) λx h1 v p1 q1=>?_;obtain⟨f,d⟩:=x;cases d<;>first|trivial|skip
  rename_i ts;have q:=q1.1;dsimp only at q;rw[Dn]at q;obtain⟨ws,rfl,q⟩:=q;refine jQ λhg=>?_;have s1:=s.ext p1;obtain⟨s2,f2⟩:=s1.put (d1:=.rl (ds++ts)) (ob:=.lst (vs++ws)) hv e3 ⟨_,rfl,(e5.ext p1).append q⟩;have l:=e5.length;have l2:=q.length;refine⟨.nx env,h1.set b (.lst (vs++ws)),?_,O,s2,(Fm.refl s p1).trans (f2.iK λj hj=>?_)⟩
  ·have g:=cF p1 e4;unfold met bnd ask bH aH put ret wQ;dsimp only;rw[g];dsimp only;rw[if_pos (by rw[<-l,<-l2];exact hg)]
  ·rw[mem_singleton.mp hj];exact mem_append_left _ mem_cons_self
 ·trivial
theorem IU(hΦ:∀j,Imp (Φ j) (Ψ j))(ho:eX e=true):AD Φ Ψ ms (.expr e):=by
 have V:=v_all hΦ;have gen:(∀af,aQ Ψ ms (.expr e) af=pb (bI Ψ e af) λ_=>.ok (.nx af))->AD Φ Ψ ms (.expr e):=λhx=>Em (V.1 e ho) hx;cases e with
 |met m a es=>
  cases m with
  |join=>exact gen λaf=>by rw[aQ]<;>(intros;simp_all)
  |append=>
   cases a with
   |var i=>
    cases es with
    |nil=>exact gen λaf=>by rw[aQ]<;>(intros;simp_all)
    |cons x r=>
     cases r with
     |nil=>exact Cb (V.1 x (gU (gU ho).2).1)
     |cons _ _=>exact gen λaf=>by rw[aQ]<;>(intros;simp_all)
   |_=>exact gen λaf=>by rw[aQ]<;>(intros;simp_all)
  |extend=>
   cases a with
   |var i=>
    cases es with
    |nil=>exact gen λaf=>by rw[aQ]<;>(intros;simp_all)
    |cons x r=>
     cases r with
     |nil=>exact Cc (V.1 x (gU (gU ho).2).1)
     |cons _ _=>exact gen λaf=>by rw[aQ]<;>(intros;simp_all)
   |_=>exact gen λaf=>by rw[aQ]<;>(intros;simp_all)
 |_=>exact gen λaf=>by rw[aQ]<;>(intros;simp_all)
end
end Hv
end
section
namespace Hv
open PySem L2
section
variable {Φ:Nat->List Val->M Val} {Ψ:Nat->List Val->Pr FV} {ms:List Nat}
theorem Cd{i:Nat}{l:List Nat}(h:i∈l):∀j∈[i],j∈l:=λj hj=>by rw[mem_singleton.mp hj];exact h
theorem Nk(hΦ:∀j,Imp (Φ j) (Ψ j))(ho:eX e=true):AD Φ Ψ ms (.asg p e):=λA0 h0 af env h O s=>by
 have V:=(v_all hΦ).1 e ho;cases p with
 |one i=>
  rw[gK,aQ];try dsimp only
  split
  ·refine jQ λhf=>?_
   refine bw s (QV hΦ hf ho af env _ h s.yv s.er) λx h1 v p1 q1=>?_;obtain⟨f,d⟩:=x;cases d<;>first|trivial|skip
   ·obtain⟨h2,vs,rfl,rfl,p2,q2⟩:=q1 rfl;obtain⟨s2,f2⟩:=s.fresh (i:=i) p2 q2;exact⟨_,_,rfl,_,s2,f2.iK (Cd (by simp[mS,oB,stored]))⟩
   ·obtain⟨h2,vs,rfl,rfl,p2,q2⟩:=q1 rfl;obtain⟨s2,f2⟩:=s.fresh (i:=i) p2 q2;exact⟨_,_,rfl,_,s2,f2.iK (Cd (by simp[mS,oB,stored]))⟩
  ·refine bw s (V af env _ h s.yv s.er) λx h1 v p1 q1=>?_
   have hnw:OE (jO x.1 x.2)=true->Dn (Al (Fr h0.length) O) h1 x.2 v:=λz=>by
    have hx:x.1=true:=by
     unfold jO at z;split at z
     ·rename_i hh;simp only[and_eq_true]at hh;exact hh.1
     ·cases z
    refine(q1.2 hx).iK λo ho=>?_;cases o with
    |none=>exact ho.elim
    |some k=>exact⟨le_trans s.pre.length_le ho,λj _ e=>by have:=(s.own j k e).2.1;have ho':h.length<=k:=ho;omega⟩
   have hrd:oA (jO x.1 x.2)=true:=by unfold jO;split<;>rfl
   obtain⟨s2,f2⟩:=(s.ext p1).setM (i:=i) hrd q1.1 hnw;exact⟨_,_,rfl,_,s2,(Fm.refl s p1).trans (f2.iK (Cd (by simp[mS,oB,stored])))⟩
 |tup is=>
  rw[gK,aQ];try dsimp only
  refine jQ λhf=>bw s (V af env _ h s.yv s.er) λx h1 v p1 q1=>?_;have s1:=s.ext p1;refine bw s1 (R:=λaM h' env'=>∃O',SR A0 h0 aM env' h' O'/\Fm (stored (.tup is)) af env h1 O aM env' h' O') (bC λaM ev=>?_) λaM h2 env' p2 hh=>?_
  ·obtain⟨env',O',b1,b2,b3⟩:=s1.bind ev q1.1;exact⟨env',b1,O',b2,b3⟩
  ·obtain⟨O',b2,b3⟩:=hh;exact aW ⟨O',b2,(Fm.refl s p1).trans (b3.iK λj hj=>by simp only[mS,oB];exact mem_append_right _ hj)⟩
theorem Nl{i:Nat}(hΦ:∀j,Imp (Φ j) (Ψ j))(ho:eX e=true):AD Φ Ψ ms (.aug i o e):=λA0 h0 af env h O s=>by
 have V:=(v_all hΦ).1 e ho;rw[gK,aQ];refine jQ λhf=>bw s (R:=λx _ y=>y=x) (bC λx hx=>?_) λx h1 y p1 exy=>?_
 ·split at hx<;>cases hx
  rename_i f hv;have:=s.er i f _ hv;revert this;generalize oA f=t;intro this;cases t with
  |false=>rw[if_pos rfl]at this;obtain⟨_,_,k⟩:=this;exact False.elim k
  |true=>rw[if_neg (by decide)]at this;obtain⟨v,k1,k2⟩:=this;rw[Dn]at k2;subst k2;exact⟨x,by rw[k1],rfl⟩
 ·subst exy
  have s1:=s.ext p1;refine bw s1 (V af env _ h1 s1.yv s1.er) λz h2 v p2 q2=>?_;have s2:=s1.ext p2;refine bw s2 (R:=λx _ y=>y=x) (bC λn en=>?_) λn h3 n' p3 enn=>?_
  ·obtain⟨f,d⟩:=z
   have q:=q2.1;cases d<;>first|(cases en;done)|skip
   dsimp only at q;rw[Dn]at q;subst q;exact⟨n,en,rfl⟩
  ·subst enn;have s3:=s2.ext p3;refine bw s3 (Av (h0:=h3) s3.yv (prefix_refl _) (.inl (by rw[Dn])) (.inl (by rw[Dn]))) λw h4 w' p4 q4=>?_;obtain⟨s5,f5⟩:=(s3.ext p4).set (i:=i) q4.1;exact aW ⟨_,s5,(Fm.refl s (((p1.trans p2).trans p3).trans p4)).trans (f5.iK (Cd (by simp[mS,oB])))⟩
theorem AE(k:Key)(l:List (Key×Val)):(l.any λkv=>decide (kv.1=k))=((l.map (·.1)).any λx=>decide (x=k)):=by
 rw[any_map];rfl
theorem AF(e:Dn A h d v):∀{kvs:List (Key×Val)} {ds:List Val},au A h ds (kvs.map (·.2)) ->
  au A h ((((kvs.map (·.1)).zip ds).map λkv=>if kv.1=k then (kv.1,d) else kv).map (·.2)) ((kvs.map λkv=>if kv.1=k then (kv.1,v) else kv).map (·.2))
 |[],ds,q=>by simp only[map_nil,List.zip_nil_left];exact au.nil
 | (k',v')::kvs,ds,q=>by
  have l:=q.length;cases ds with
  |nil=>simp at l
  |cons d' ds=>
   simp only[map_cons]at q;rw[au]at q;obtain⟨v1,r,e1,q1,q2⟩:=q;cases e1;simp only[map_cons,zip_cons_cons];refine au.cons ?_ (AF e q2)
   by_cases hk:k'=k
   ·rw[if_pos hk,if_pos hk];exact e
   ·rw[if_neg hk,if_neg hk];exact q1
theorem pB(k:Key)(d:Val)(l:List (Key×Val)):(l.map λkv=>if kv.1=k then (kv.1,d) else kv).map (·.1)=l.map (·.1):=by
 rw[map_map];refine map_congr_left λx _=>?_;show (if x.1=k then (x.1,d) else x).1=x.1
 split<;>rfl
theorem IV(hk:kvs.map (·.1)=ks)(q:au A h ds (kvs.map (·.2)))(e:Dn A h d v) :
  (iL kvs k v).map (·.1)=(iL (ks.zip ds) k d).map (·.1)/\au A h ((iL (ks.zip ds) k d).map (·.2)) ((iL kvs k v).map (·.2)):=by
 subst hk;have l:=q.length;rw[length_map]at l;have z1:((kvs.map (·.1)).zip ds).map (·.1)=kvs.map (·.1):=List.map_fst_zip (by rw[length_map];omega);have z2:((kvs.map (·.1)).zip ds).map (·.2)=ds:=List.map_snd_zip (by rw[length_map];omega);unfold iL;rw[AE,AE,z1]
 split
 ·rw[pB,pB,z1];exact⟨rfl,AF e q⟩
 ·rw[map_append,map_append,map_append,map_append,z1,z2];exact⟨rfl,q.append (au.cons e au.nil)⟩
theorem IW(hΦ:∀j,Imp (Φ j) (Ψ j))(ho:eX o=true)(hi:eX i=true)(hv:eX v=true):AD Φ Ψ ms (.fX o i v):=λA0 h0 af env h O s=>by
 have V:=(v_all hΦ).1;cases o with
 |var j=>
  rw[gK,aQ];refine bw s (V v hv af env _ h s.yv s.er) λx h1 w p1 q1=>?_;have s1:=s.ext p1
  split
  ·rename_i ds hj
   obtain⟨b,e2,e3,vs,e4,e5⟩:=s1.ow j _ hj;rw[aq (bV e2)];refine bw s1 (V i hi af env _ h1 s1.yv s1.er) λz h2 u p2 q2=>?_;have s2:=s1.ext p2;obtain⟨f,d⟩:=z;have q:=q2.1;cases d<;>first|trivial|skip
   dsimp only at q;rw[Dn]at q;subst q;rename_i kk;have g:=cF p2 e4;have l:=e5.length;show jg A0 h0 _ _ (pb (pl (Bt ds.length kk)) _);cases hn:Bt ds.length kk with
   |none=>trivial
   |some n=>obtain⟨s3,f3⟩:=s2.put (d1:=.rl (ds.set n x.2)) (ob:=.lst (vs.set n w)) hj e3 ⟨_,rfl,(e5.ext p2).set n (q1.1.ext p2)⟩;refine⟨.nx env,h2.set b (.lst (vs.set n w)),?_,O,s3,(Fm.refl s (p1.trans p2)).trans (f3.iK (Cd (by simp[mS,tw])))⟩;rw[l]at hn;simp only[um];unfold bnd ask bH put ret;dsimp only;rw[g];dsimp only;rw[hn]
  ·rename_i ks ds hj
   obtain⟨b,e2,e3,kvs,e4,ek,e5⟩:=s1.ow j _ hj;rw[aq (bV e2)];refine bw s1 (V i hi af env _ h1 s1.yv s1.er) λz h2 u p2 q2=>?_;have s2:=s1.ext p2;obtain⟨f,d⟩:=z;have q:=q2.1;dsimp only at q;show jg A0 h0 _ _ (pb (pl (keyOf d)) _);cases hk:keyOf d with
   |none=>trivial
   |some kk=>
    have hu:keyOf u=some kk:=by
     cases d<;>simp only[keyOf]at hk<;>first|(cases hk;done)|skip
     all_goals (rw[Dn]at q;subst q;exact hk)
    show jg A0 h0 _ _ (pg _ _);refine jQ λhl=>?_;have g:=cF p2 e4;obtain⟨k1,k2⟩:=IV (k:=kk) ek (e5.ext p2) (q1.1.ext p2);obtain⟨s3,f3⟩:=s2.put (d1:=putD ks ds kk x.2) (ob:=.dct (iL kvs kk w)) hj e3 ⟨_,rfl,k1,k2⟩;refine⟨.nx env,h2.set b (.dct (iL kvs kk w)),?_,O,s3,(Fm.refl s (p1.trans p2)).trans (f3.iK (Cd (by simp[mS,tw])))⟩;have hl':decide (kvs.length<sizeLine)=true:=by rw[<-ek,length_map]at hl;exact hl
    simp only[um];unfold bnd ask bH put ret aH;dsimp only;rw[g];dsimp only;rw[hu];dsimp only;rw[if_pos hl']
  ·trivial
 |_=>rw[aQ]<;>first|trivial|(intros;simp_all)
theorem Nn(hΦ:∀j,Imp (Φ j) (Ψ j))(hc:eX c=true)(ha:vB Φ Ψ ms a)(hb:vB Φ Ψ ms b):AD Φ Ψ ms (.iff c a b):=λA0 h0 af env h O s=>by
 have V:=(v_all hΦ).1 c hc;rw[gK,aQ];refine bw s (kL V s.yv s.er) λx h1 v p1 q1=>?_;have s1:=s.ext p1;refine bw s1 (R:=λt _ t'=>t'=t) (bO λt et=>⟨t,vv q1 et,rfl⟩) λt h2 t' p2 et=>?_;subst et;have s2:=s1.ext p2;cases t' with
 |true=>
  rw[if_pos rfl,if_pos rfl];refine f6 (ha A0 h0 af env h2 O s2) λf h' g r=>(r.pre s (p1.trans p2)).iK λi hi=>?_;simp only[IT,mS,tw,oB,mem_append]at hi |-
  rcases hi with z|z
  ·exact .inl (.inl z)
  ·exact .inr (.inl z)
 |false=>
  rw[if_neg Bool.false_ne_true,if_neg Bool.false_ne_true];refine f6 (hb A0 h0 af env h2 O s2) λf h' g r=>(r.pre s (p1.trans p2)).iK λi hi=>?_;simp only[IT,mS,tw,oB,mem_append]at hi |-
  rcases hi with z|z
  ·exact .inl (.inr z)
  ·exact .inr (.inr z)
noncomputable def zq(h:Hs)(O:Nat->Option Nat)(m:List Nat)(src:Src)(ws:List Val):Prop :=
 ∀h':Hs,(∀k,k<h.length->(∀i,O i≠some k)->h'[k]?=h[k]?)->(∀i,i∉m->∀a,O i=some a->h'[a]?=h[a]?)->src.items h'=some ws
theorem eL{i:Nat}(e:h[i]?=some (.lst ws)):(Src.live i).items h=some ws:=by simp[Src.items,aE,e]
theorem jS{i:Nat}(e:h[i]?=some (.lst ws)):(Src.enum i).items h=some (cS 0 ws):=by simp[Src.items,aE,e]
theorem xG{A0:AP}{h0:Hs}{m:List Nat}(hb:∀af env h O x v,SR A0 h0 af env h O->Dn (Al A0 O) h x v->jg A0 h0 (RF A0 h0 m af env h O) (body v env h) (bodyV x af))
  {nj:bB} {gW:Env} {h1:Hs} {O1:Nat->Option Nat} (st:zq h1 O1 m src ws) :
  ∀(xs vs:List Val) (i:Nat) (af:bB) (env:Env) (h:Hs) (O:Nat->Option Nat),SR A0 h0 af env h O->Fm m nj gW h1 O1 af env h O->ws.drop i=vs->au (Al A0 O) h xs vs ->
   jg A0 h0 (RF A0 h0 m nj gW h1 O1) (forM src body vs.length i env h) (oE bodyV xs af)
 | [],vs,i,af,env,h,O,s,f,hd,q=>by
  rw[au]at q;subst q;have hl:ws.length<=i:=List.drop_eq_nil_iff.mp hd;have hi:=st h (λk hk n=>(f.keep k hk n).1) (λj hj a e=>(f.stay j hj).2.2.2 a e);rw[oE];refine⟨.nx env,h,?_,O,s,f⟩;show forM src body 0 i env h=_;simp only[forM];unfold bnd ask bH aH;dsimp only;rw[hi];dsimp only;rw[if_pos (decide_eq_true hl)];rfl
 | x::xs,vs,i,af,env,h,O,s,f,hd,q=>by
  rw[au]at q;obtain⟨v,r,rfl,q1,q2⟩:=q;have hv:ws[i]?=some v:=by have:=congrArg (λl=>l[0]?) hd;simpa using this
  have hr:ws.drop (i+1)=r:=by
   have:ws.drop (i+1)=(ws.drop i).drop 1:=by rw[List.drop_drop]
   rw[this,hd];rfl
  have hi:=st h (λk hk n=>(f.keep k hk n).1) (λj hj a e=>(f.stay j hj).2.2.2 a e);have ev:forM src body (v::r).length i env h=bnd (body v env) (λf=>match f with
   |.nx env'=>forM src body r.length (i+1) env'
   |.ct env'=>forM src body r.length (i+1) env'
   |.bk env'=>ret (.nx env')
   |.rt v=>ret (.rt v)) h:=by
   show forM src body (r.length+1) i env h=_;simp only[forM];unfold bnd ask bH;dsimp only;rw[hi];dsimp only;rw[hv];try rfl
  rw[ev,oE];refine nk (hb af env h O x v s q1) λfl h2 gl hr2=>?_;have go:∀aM env' O',SR A0 h0 aM env' h2 O'->Fm m af env h O aM env' h2 O'->jg A0 h0 (RF A0 h0 m nj gW h1 O1) (forM src body r.length (i+1) env' h2) (oE bodyV xs aM):=λaM env' O' s' f'=>by
   refine xG hb st xs r (i+1) aM env' h2 O' s' (f.trans f') hr (au.move kN (λk o hk g=>?_) _ _ q2);have hlt:k<h.length:=(List.getElem?_eq_some_iff.mp g).1;obtain⟨a1,a2⟩:=f'.keep k hlt λi=>hk.2 i rfl;exact⟨⟨hk.1,λi _=>a2 i⟩,a1.trans g⟩
  cases fl<;>cases gl<;>first|exact hr2.elim|skip
  ·obtain⟨O',s',f'⟩:=hr2;exact go _ _ O' s' f'
  ·exact aW hr2
  ·obtain⟨O',s',f'⟩:=hr2;exact aW ⟨O',s',f.trans f'⟩
  ·obtain⟨O',s',f'⟩:=hr2;exact go _ _ O' s' f'
theorem En{A0:AP}{m:List Nat}(q:Dn (Al A0 O) h d v)(e:kK k [d]=some xs):∃src ws,srcOf k [v]=some src/\au (Al A0 O) h xs ws/\src.items h=some ws/\zq h O m src ws:=by
 have lst:∀es,d=.rl es->(∃ws,v=.rl ws/\au (Al A0 O) h es ws)\/∃a ws,v=.ref a/\h[a]?=some (.lst ws)/\au (Al A0 O) h es ws/\∀h':Hs,(∀k,k<h.length->(∀i,O i≠some k)->h'[k]?=h[k]?)->h'[a]?=some (Ob.lst ws):=by
  rintro es rfl;rw[Dn]at q
  rcases q with ⟨ws,rfl,_,q⟩|⟨a,ws,rfl,al,g,q⟩
  ·exact .inl ⟨ws,rfl,q⟩
  ·exact .inr ⟨a,ws,rfl,g,q,λh' hk=>(hk a (List.getElem?_eq_some_iff.mp g).1 λi=>al.2 i rfl).trans g⟩
 cases k with
 |seq=>
  cases d<;>first|(cases e;done)|skip
  ·cases e;rw[Dn]at q;obtain⟨ws,rfl,q⟩:=q;exact⟨.fix ws,ws,rfl,q,rfl,λ_ _ _=>rfl⟩
  ·cases e
   rcases lst _ rfl with ⟨ws,rfl,q'⟩|⟨a,ws,rfl,g,q',st⟩
   ·exact⟨.fix ws,ws,rfl,q',rfl,λ_ _ _=>rfl⟩
   ·exact⟨.live a,ws,rfl,q',eL g,λh' hk _=>eL (st h' hk)⟩
 |range=>
  cases d<;>first|(cases e;done)|skip
  rw[Dn]at q;subst q;rename_i n;change (if inR n=true then some (cz 0 n.toNat) else none)=some _ at e;split at e
  ·rename_i hn;cases e;exact⟨.fix _,_,if_pos hn,lC,rfl,λ_ _ _=>rfl⟩
  ·cases e
 |enum=>
  cases d<;>first|(cases e;done)|skip
  cases e
  rcases lst _ rfl with ⟨ws,rfl,q'⟩|⟨a,ws,rfl,g,q',st⟩
  ·exact⟨.fix _,_,rfl,jw 0 q',rfl,λ_ _ _=>rfl⟩
  ·exact⟨.enum a,_,rfl,jw 0 q',jS g,λh' hk _=>jS (st h' hk)⟩
 |zip=>cases e
theorem Eo{α β γ δ:Type}{R:α -> Hs -> β -> Prop}{R':γ -> Hs -> δ -> Prop}{m:M β}{f:β -> M δ}{p:Pr α}{F:α -> Pr γ}(r:Rel A h R (m h) p)(k:∀a h1 b,p=.ok a->h<+:h1->R a h1 b->Rel A h1 R' (f b h1) (F a)):Rel A h R' (bnd m f h) (pb p F):=by
 unfold bnd;cases p with
 |ok a=>
  obtain⟨b,h1,e,q,r⟩:=r;rw[e];show Rel A h R' (f b h1) (F a);have:=k a h1 b rfl q r;cases e2:F a with
  |ok c=>rw[e2]at this;obtain⟨d,h2,e3,q2,r2⟩:=this;exact⟨d,h2,e3,q.trans q2,r2⟩
  |exc c es=>rw[e2]at this;obtain⟨d,h2,e3,q2,r2⟩:=this;exact⟨d,h2,e3,q.trans q2,r2⟩
  |no=>trivial
 |exc c es=>obtain⟨ws,h1,e,q,r⟩:=r;rw[e];exact⟨ws,h1,rfl,q,r⟩
 |no=>trivial
theorem Ep{e e2:IE}(h:iz Ψ (.cons e (.cons e2 r)) af=.ok ds):2<=ds.length:=by
 rw[iz,iz]at h;cases h1:(if isVar e=true then pl (iM af e) else bI Ψ e af) with
 |ok a=>
  rw[h1]at h;cases h2:(if isVar e2=true then pl (iM af e2) else bI Ψ e2 af) with
  |ok b=>
   rw[h2]at h;cases h3:iz Ψ r af with
   |ok c=>rw[h3]at h;cases h;simp
   |exc _ _=>rw[h3]at h;cases h
   |no=>rw[h3]at h;cases h
  |exc _ _=>rw[h2]at h;cases h
  |no=>rw[h2]at h;cases h
 |exc _ _=>rw[h1]at h;cases h
 |no=>rw[h1]at h;cases h
theorem Er{d1 d2:Val}(ex:kK k [d1,d2]=some xs):k=.range/\∃n m,d1=.int n/\d2=.int m/\(inR n&&inR m)=true/\xs=cz n (m-n).toNat:=by
 cases k with
 |seq=>cases d1<;>cases ex
 |enum=>cases d1<;>cases ex
 |zip=>cases ex
 |range=>
  cases d1<;>first|(cases ex;done)|skip
  cases d2<;>first|(cases ex;done)|skip
  rename_i n m;change (if (inR n&&inR m)=true then some (cz n (m-n).toNat) else none)=some xs at ex
  by_cases hn:(inR n&&inR m)=true
  ·rw[if_pos hn]at ex;cases ex;exact⟨rfl,n,m,rfl,rfl,hn,rfl⟩
  ·rw[if_neg hn]at ex;cases ex
theorem zu{d1 d2 d3:Val}:kK k (d1::d2::d3::r)=none:=by
 cases k with
 |seq=>cases d1<;>rfl
 |enum=>cases d1<;>rfl
 |zip=>rfl
 |range=>cases d1<;>first|rfl|(cases d2<;>rfl)
theorem IX{A0:AP}{h0:Hs}{m:List Nat}(hΦ:∀j,Imp (Φ j) (Ψ j))(hi:ni it=true)(s:SR A0 h0 af env h O)(hm:∀i,it=.cons (.var i) .nil->i∉m) :
  Rel (Al A0 O) h (λxs h' src=>∃ws,au (Al A0 O) h' xs ws/\src.items h'=some ws/\zq h' O m src ws) (bnd (bz Φ it env) (λits=>bH (srcOf k its)) h) (pb (iz Ψ it af) λits=>pl (kK k its)):=by
 have V:=v_all hΦ;cases it with
 |nil=>rw[iz];cases k<;>trivial
 |cons e es=>
  cases es with
  |nil=>
   replace hi:=gU hi
   by_cases hv:isVar e=true
   ·cases e<;>first|(cases hv;done)|skip
    rename_i i;rw[iz,iz,if_pos hv];simp only[iM];cases hx:af[i]? with
    |none=>trivial
    |some o=>
     cases o with
     |none=>trivial
     |some fd=>
      obtain⟨f,d⟩:=fd;show Rel _ _ _ _ (pl (kK k [d]));cases hf:oA f with
      |false=>
       have hf:f=.ow:=by cases f<;>first|rfl|cases hf
       subst hf;obtain⟨a,e2,e3,e4⟩:=s.ow i d hx;have ev:bnd (bz Φ (.cons (.var i) .nil) env) (λits=>bH (srcOf k its)) h=bH (srcOf k [.ref a]) h:=by rw[bz,bz,bF,aq (bV e2)];rfl
       rw[ev];refine bC λxs ex=>?_;have hd:∃ds,d=.rl ds:=by cases d<;>first|exact⟨_,rfl⟩|exact False.elim e4|(cases k<;>cases ex)
       obtain⟨ds,rfl⟩:=hd;obtain⟨vs,e4,e5⟩:=e4;have st:∀h':Hs,(∀i,i∉m->∀a,O i=some a->h'[a]?=h[a]?)->h'[a]?=some (Ob.lst vs):=λh' hs=>(hs i (hm i rfl) a e3).trans e4;cases k with
       |seq=>cases ex;exact⟨.live a,rfl,vs,e5,eL e4,λh' _ hs=>eL (st h' hs)⟩
       |range=>cases ex
       |enum=>cases ex;exact⟨.enum a,rfl,_,jw 0 e5,jS e4,λh' _ hs=>jS (st h' hs)⟩
       |zip=>cases ex
      |true=>
       obtain⟨v,e1,e2,_⟩:=s.sh i f d hx hf;have ev:bnd (bz Φ (.cons (.var i) .nil) env) (λits=>bH (srcOf k its)) h=bH (srcOf k [v]) h:=by rw[bz,bz,bF,aq (bV e1)];rfl
       rw[ev];refine bC λxs ex=>?_;obtain⟨src,ws,a1,a2,a3,a4⟩:=En (m:=m) e2 ex;exact⟨src,a1,ws,a2,a3,a4⟩
   ·rw[iz,iz,if_neg hv]
    have ev:bnd (bz Φ (.cons e .nil) env) (λits=>bH (srcOf k its)) h=bnd (aJ Φ e env) (λv=>bH (srcOf k [v])) h:=by rw[bz,bz,bF];rfl
    rw[ev];have ep:(pb (pb (bI Ψ e af) λd=>pb (Pr.ok ([]:List Val)) λp=>Pr.ok (d.2::p)) λits=>pl (kK k its))=pb (bI Ψ e af) λd=>pl (kK k [d.2]):=by cases bI Ψ e af<;>rfl
    rw[ep];refine ah (V.1 e hi.1 af env _ h s.yv s.er) λx h1 v p1 q1=>bC λxs ex=>?_;obtain⟨src,ws,a1,a2,a3,a4⟩:=En (m:=m) q1.1 ex;exact⟨src,a1,ws,a2,a3,a4⟩
  |cons e2 r=>
   have V2:=V.2 _ hi;refine Eo (V2.2 af env _ h s.yv s.er) λds h1 vs eb p1 q1=>bC λxs ex=>?_;have hl:2<=ds.length:=Ep eb
   match ds,q1 with
   |[],q1=>cases k<;>cases ex
   |[d],q1=>simp at hl
   |[d1,d2],q1=>obtain⟨v,rr,rfl,hv,hr⟩:=q1;obtain⟨w,rfl,hw⟩:=IF.one hr;obtain⟨rfl,n,m',rfl,rfl,hn,rfl⟩:=Er ex;have:=hv.int;subst this;have:=hw.int;subst this;exact⟨.fix _,if_pos hn,_,lC,rfl,λ_ _ _=>rfl⟩
   |d1::d2::d3::dr,q1=>rw[zu]at ex;cases ex
theorem Np(hΦ:∀j,Imp (Φ j) (Ψ j))(hi:ni it=true)(hb:vB Φ Ψ ms body):AD Φ Ψ ms (.for p k it body):=λA0 h0 af env h O s=>by
 rw[gK,aQ];refine jQ λhg=>?_;rw[and_eq_true]at hg;have hm:∀i,it=.cons (.var i) .nil->i∉mS (.for p k it body):=by
  rintro i rfl z;simp only[xB,and_eq_true,not_eq_true',List.contains_eq_mem,decide_eq_false_iff_not]at hg;simp only[mS,tw,oB,mem_append]at z
  rcases z with z|z|z
  ·exact hg.1.1.1 z
  ·exact hg.1.2 z
  ·exact hg.1.1.2 z
 have ev:∀(F:Src->M Fl),bnd (bz Φ it env) (λits=>bnd (bH (srcOf k its)) F) h=bnd (bnd (bz Φ it env) λits=>bH (srcOf k its)) F h:=λF=>by rw[bF]
 have ep:∀(F:List Val->Pr zo),pb (iz Ψ it af) (λits=>pb (pl (kK k its)) F)=pb (pb (iz Ψ it af) λits=>pl (kK k its)) F:=λF=>by cases iz Ψ it af<;>rfl
 rw[ev,ep];refine bw s (IX (m:=mS (.for p k it body)) hΦ hi s hm) λxs h1 src p1 hx=>?_;obtain⟨ws,q1,q2,st⟩:=hx;have s1:=s.ext p1;have l:=q1.length;have ev2:∀(F:List Val->M Fl),bnd (ask λh=>src.items h) F h1=F ws h1:=λF=>by unfold bnd ask bH;dsimp only;rw[q2]
 rw[ev2];refine f6 (xG (m:=mS (.for p k it body)) (λaM env' h' O' x v s' qx=>?_) st xs ws 0 af env h1 O s1 (Fm.refl s1 (prefix_refl _)) rfl q1) λf h' g r=>r.pre s p1;refine bw s' (R:=λpq h2 kJ=>∃O2,SR A0 h0 pq kJ h2 O2/\Fm (stored p) aM env' h' O' pq kJ h2 O2) (bC λpq e2=>?_) λpq h2 kJ p2 hh=>?_
 ·obtain⟨kJ,O2,b1,b2,b3⟩:=s'.bind e2 qx;exact⟨kJ,b1,O2,b2,b3⟩
 ·obtain⟨O2,b2,b3⟩:=hh
  refine f6 (hb A0 h0 pq kJ h2 O2 b2) λf h'' g r=>RF.seq (b3.iK λi hi=>?_) (r.iK λi hi=>?_)
  ·simp only[mS,tw,oB,mem_append];exact .inr (.inl hi)
  ·simp only[IT,mS,tw,oB,mem_append]at hi |-
   rcases hi with z|z
   ·exact .inl z
   ·exact .inr (.inr z)
theorem Nq{n:Nat}(hΦ:∀j,Imp (Φ j) (Ψ j))(hc:eX c=true)(hb:vB Φ Ψ ms body):AD Φ Ψ ms (.whl n c body):=λA0 h0 af env h O s=>by
 have V:=(v_all hΦ).1 c hc;rw[gK,aQ]
 induction n generalizing af env h O with
 |zero=>trivial
 |succ n ih=>
  simp only[BR,oF];have ct:Rel (Al A0 O) h (λt _ t'=>t'=t) ((bnd (aJ Φ c env) λx=>ask λh=>cB h x) h) (pb (yu Ψ c af) λx=>pl (cB [] x.2)) :=
   ah (kL V s.yv s.er) λx h1 v p1 q1=>bO λt et=>⟨t,vv q1 et,rfl⟩
  refine bw s ct λt h1 t' p1 et=>?_;subst et;have s1:=s.ext p1;cases t' with
  |true=>
   rw[if_pos rfl,if_pos rfl];refine nk (hb A0 h0 af env h1 O s1) λf h2 g r=>?_;have r:=(r.pre s p1).iK (m':=mS (.whl n c body)) λi hi=>hi;cases f<;>cases g<;>first|exact r.elim|skip
   ·obtain⟨O',s',f'⟩:=r;exact f6 (ih _ _ _ O' s') λf h' g r'=>RF.seq f' r'
   ·exact aW r
   ·obtain⟨O',s',f'⟩:=r;exact aW ⟨O',s',f'⟩
   ·obtain⟨O',s',f'⟩:=r;exact f6 (ih _ _ _ O' s') λf h' g r'=>RF.seq f' r'
  |false=>rw[if_neg Bool.false_ne_true,if_neg Bool.false_ne_true];exact aW ⟨O,s1,Fm.refl s p1⟩
theorem J6:oA (YX m)=true:=by cases m<;>rfl
theorem SR.fr{A0:AP}{h0:Hs}(s:SR A0 h0 af env h O):ER A0 (kg af) env h:=λi f d e=>by
 unfold kg at e;rw[getElem?_map]at e;cases hx:af[i]? with
 |none=>rw[hx]at e;cases e
 |some o=>
  rw[hx]at e;cases o with
  |none=>cases e
  |some fd=>
   obtain⟨m,d'⟩:=fd;cases e;rw[if_neg (by rw[J6];decide)];cases hm:oA m with
   |false=>
    have hm:m=.ow:=by cases m<;>first|rfl|cases hm
    subst hm;obtain⟨a,e2,e3,e4⟩:=s.ow i d hx;exact⟨_,e2,(e4.mono (A':=A0) (λ_ g=>g) λ_ _ z=>z.iK λ_ y=>y.1).dn (s.up a (s.own i a e3).1)⟩
   |true=>obtain⟨v,e1,e2,_⟩:=s.sh i m d hx hm;exact⟨v,e1,e2.iK λ_ z=>z.1⟩
theorem ux{A0:AP}{h0:Hs}{α β γ δ:Type}{R:α -> Hs -> β -> Prop}{R':γ -> Hs -> δ -> Prop}{mm:M β}{f:β -> M δ}{p:Pr α}{F:α -> Pr γ}(s:SR A0 h0 af env h O)(r:Rel A0 h R (mm h) p)(k:∀a h1 b,h<+:h1->R a h1 b->jg A0 h0 R' (f b h1) (F a)):jg A0 h0 R' (bnd mm f h) (pb p F):=by
 unfold bnd;cases p with
 |ok a=>obtain⟨b,h1,e,q,r⟩:=r;rw[e];exact k a h1 b q r
 |exc c es=>obtain⟨ws,h1,e,q,r⟩:=r;rw[e];exact⟨ws,h1,rfl,s.pre.trans q,r⟩
 |no=>trivial
theorem Nr(hΦ:∀j,Imp (Φ j) (Ψ j))(ho:eX e=true):AD Φ Ψ ms (.ret e):=λA0 h0 af env h O s=>by
 have V:=(v_all hΦ).1 e ho;have gen:S6 Ψ e af=bI Ψ e af->jg A0 h0 (RF A0 h0 (mS (.ret e)) af env h O) (gK Φ (.ret e) env h) (aQ Ψ ms (.ret e) af):=λhe=>by
  rw[gK,aQ,he];exact bw s (V af env _ h s.yv s.er) λx h1 v p1 q1=>aW ⟨q1.1.iK λ_ z=>z.1,λf=>(q1.2 f).iK (Fr.le s.pre.length_le),s.pre.trans p1⟩
 cases e with
 |var i=>
  rw[gK,aQ];simp only[S6];cases hx:af[i]? with
  |none=>trivial
  |some o=>
   cases o with
   |none=>trivial
   |some fd=>
    obtain⟨f,d⟩:=fd;cases hf:oA f with
    |false=>
     have hf:f=.ow:=by cases f<;>first|rfl|cases hf
     subst hf;obtain⟨a,e2,e3,e4⟩:=s.ow i d hx;rw[aq (bV e2)];have ha:=s.own i a e3;cases d<;>first|exact False.elim e4|skip
     ·refine⟨_,h,rfl,?_,λhi=>?_,s.pre⟩
      ·exact(e4.mono (A':=A0) (λ_ g=>g) λ_ _ z=>z.iK λ_ y=>y.1).dn (s.up a ha.1)
      ·obtain⟨vs,e4,e5⟩:=e4;show Dn _ h (.rl _) (.ref a);rw[Dn];exact .inr ⟨a,vs,rfl,ha.1,e4,iA e5 hi⟩
     ·refine⟨_,h,rfl,?_,λhi=>?_,s.pre⟩
      ·exact(e4.mono (A':=A0) (λ_ g=>g) λ_ _ z=>z.iK λ_ y=>y.1).dn (s.up a ha.1)
      ·obtain⟨kvs,e4,ek,e5⟩:=e4;show Dn _ h (.dc _ _) (.ref a);rw[Dn];exact⟨a,kvs,rfl,ha.1,e4,ek,iA e5 hi⟩
    |true=>
     obtain⟨v,e1,e2,e3⟩:=s.sh i f d hx hf;rw[aq (bV e1)];dsimp only;rw[if_pos hf];refine⟨_,h,rfl,e2.iK λ_ z=>z.1,λhi=>?_,s.pre⟩
     rcases(or_eq_true _ _).mp hi with hi|hi
     ·exact(je d v hi).mpr ((je d v hi).mp e2)
     ·exact(e3 hi).iK λ_ z=>z.1
 |call j es=>rw[gK,aQ];exact ux s (V (kg af) env A0 h (s.up.ext s.pre) s.fr) λx h1 v p1 q1=>aW ⟨q1.1,λf=>(q1.2 f).iK (Fr.le s.pre.length_le),s.pre.trans p1⟩
 |tup es=>rw[gK,aQ];exact ux s (V (kg af) env A0 h (s.up.ext s.pre) s.fr) λx h1 v p1 q1=>aW ⟨q1.1,λf=>(q1.2 f).iK (Fr.le s.pre.length_le),s.pre.trans p1⟩
 |_=>exact gen rfl
theorem Nt:vB Φ Ψ ms .nil:=λA0 h0 af env h O s=>by rw[fu,aV];exact aW ⟨O,s,Fm.refl s (prefix_refl _)⟩
theorem IY(ha:AD Φ Ψ ms a)(hr:vB Φ Ψ ms r):vB Φ Ψ ms (.cons a r):=λA0 h0 af env h O s=>by
 rw[fu,aV];have w1:∀i∈mS a,i∈IT (.cons a r):=λi hi=>by
  simp only[mS,IT,gr,lW,mem_append]at hi |-
  rcases hi with z|z
  ·exact .inl (.inl z)
  ·exact .inr (.inl z)
 have w2:∀i∈IT r,i∈IT (.cons a r):=λi hi=>by
  simp only[IT,gr,lW,mem_append]at hi |-
  rcases hi with z|z
  ·exact .inl (.inr z)
  ·exact .inr (.inr z)
 refine nk (ha A0 h0 af env h O s) λf h1 g rr=>?_;have rr:=rr.iK w1;cases f<;>cases g<;>first|exact rr.elim|skip
 ·obtain⟨O',s',f'⟩:=rr;exact f6 (hr A0 h0 _ _ h1 O' s') λf h' g r'=>RF.seq f' (r'.iK w2)
 ·exact aW rr
 ·exact aW rr
 ·exact aW rr
theorem QW(hΦ:∀j,Imp (Φ j) (Ψ j)):∀ss,xF ss=true->vB Φ Ψ ms ss:=by
 intro ss;refine eE.rec (motive_1:=λs=>Y5 s=true->AD Φ Ψ ms s) (motive_2:=λss=>xF ss=true->vB Φ Ψ ms ss) ?_ ?_ ?_ ?_ ?_ ?_ ?_ ?_ ?_ ?_ ?_ ?_ ?_ ?_ ?_ ?_ ss
 ·exact λe f=>IU hΦ f
 ·exact λp e f=>Nk hΦ f
 ·exact λi o e f=>Nl hΦ f
 ·intro o i v f;have f:=vA f;exact IW hΦ f.1.1 f.1.2 f.2
 ·intro c a b ia ib f;have f:=vA f;exact Nn hΦ f.1.1 (ia f.1.2) (ib f.2)
 ·intro p k it b ib f;have f:=gU f;exact Np hΦ f.1 (ib f.2)
 ·intro n c b ib f;have f:=gU f;exact Nq hΦ f.1 (ib f.2)
 ·exact λe f=>Nr hΦ f
 ·exact λ_ A0 h0 af env h O s=>by rw[gK,aQ];exact aW ⟨by rw[Dn],λ_=>by rw[Dn],s.pre⟩
 ·exact λ_ A0 h0 af env h O s=>by rw[gK,aQ];exact aW ⟨O,s,Fm.refl s (prefix_refl _)⟩
 ·exact λ_ A0 h0 af env h O s=>by rw[gK,aQ];exact aW ⟨O,s,Fm.refl s (prefix_refl _)⟩
 ·exact λ_ A0 h0 af env h O s=>by rw[gK,aQ];exact aW ⟨O,s,Fm.refl s (prefix_refl _)⟩
 ·exact λ_ A0 h0 af env h O s=>by rw[aQ];trivial
 ·exact λ_ _ _ _ _ A0 h0 af env h O s=>by rw[aQ];trivial
 ·exact λ_=>Nt
 ·intro a r ia ir f;have f:=gU f;exact IY (ia f.1) (ir f.2)
theorem QX{n:Nat}(u:Up A h)(q:au A h ds vs):SR A h (ds.map (λd=>some (.sh,d))++replicate (n-ds.length) none) (vs.map some++replicate (n-vs.length) none) h (λ_=>none):=by
 have l:=q.length;have al:∀k,A k->Al A (λ_=>none) k:=λk hk=>⟨hk,λi z e=>by subst e;cases z⟩;have get:∀(i:Nat) (f:Mk) (d:Val),(ds.map (λd=>some (.sh,d))++replicate (n-ds.length) none:bB)[i]?=some (some (f,d))->f=.sh/\ds[i]?=some d:=λi f d e=>by
  by_cases hi:i<ds.length
  ·rw[getElem?_append_left (by simpa using hi),getElem?_map]at e
   cases ei:ds[i]? with
   |none=>rw[ei]at e;cases e
   |some d'=>rw[ei]at e;cases e;exact⟨rfl,rfl⟩
  ·rw[getElem?_append_right (by simp;omega)]at e;have:=mem_of_getElem? e;rw[List.mem_replicate]at this;exact absurd this.2 (by simp)
 refine⟨by simp[l],λi m d e hm=>?_,λi d e=>?_,(λi a e=>nomatch e),(λi j a e=>nomatch e),prefix_refl _,u⟩
 ·obtain⟨hm',e⟩:=get i m d e;obtain⟨v,k1,k2⟩:=q.get e;have hi:i<vs.length:=(List.getElem?_eq_some_iff.mp k1).1;exact⟨v,by rw[getElem?_append_left (by simpa using hi),getElem?_map,k1];rfl,k2.iK al,λz=>by subst hm';cases z⟩
 ·obtain⟨z,_⟩:=get i .ow d e;cases z
theorem bJ{n:Nat}(hΦ:∀j,Imp (Φ j) (Ψ j))(ho:xF body=true):Imp (gR Φ n body) (eG Ψ n body):=λA h ds vs u q=>by
 have l:=q.length;have s:=QX (n:=n) u q;unfold gR eG;have r:=nk (R':=λx h' v=>h<+:h'/\RV A h x h' v) (QW (ms:=gr body) hΦ body ho A h _ _ h _ s) (f:=λf=>match f with
  |.nx _=>ret .non
  |.rt v=>ret v
  |_=>bH none) (F:=λf=>match f with
  |.nx _=>.ok (true,.non)
  |.rt p=>.ok p
  | _=>.no) λf h1 g rr=>by
   cases f<;>cases g<;>first|exact rr.elim|skip
   ·obtain⟨O',s',_⟩:=rr;exact aW ⟨s'.pre,by show Dn _ _ Val.non _;rw[Dn],λ_=>by show Dn _ _ Val.non _;rw[Dn]⟩
   ·exact aW ⟨rr.2.2,rr.1,rr.2.1⟩
   ·trivial
   ·trivial
 revert r;generalize (pb (aV Ψ (gr body) body (ds.map (λd=>some (.sh,d))++replicate (n-ds.length) none)) _)=p;intro r;cases p with
 |ok x=>obtain⟨v,h',e,a,b⟩:=r;exact⟨v,h',e,a,b⟩
 |exc c es=>exact r
 |no=>trivial
end
end Hv
end
section
namespace Hv
open PySem L2
noncomputable abbrev aZ:=List Val->Pr FV
noncomputable def aj(gs:List aZ)(j:Nat):aZ:=match gs[j]? with
 |some g=>g
 |none=>λ_=>.no
noncomputable def dD(fs:List Row)(gs:List aZ):Prop:=fs.length=gs.length/\∀(j:Nat) (r:Row) (g:aZ),fs[j]?=some r->gs[j]?=some g->Imp r.2.2 g
theorem Es:dD [] []:=⟨rfl,λj r g e=>by simp at e⟩
theorem ay(a:dD fs gs)(j:Nat):Imp (look fs j) (aj gs j):=by
 unfold look aj;cases e:fs[j]? with
 |none=>
  have:gs[j]?=none:=by have:=List.getElem?_eq_none_iff.mp e;exact List.getElem?_eq_none_iff.mpr (by rw[<-a.1];exact this)
  rw[this];exact λ_ _ _ _ _ _=>trivial
 |some r=>
  cases e2:gs[j]? with
  |none=>exact λ_ _ _ _ _ _=>trivial
  |some g=>exact a.2 j r g e e2
theorem aB{k:Nat}(a:dD fs gs)(i:Imp f g):dD (fs++[(x,k,f)]) (gs++[g]):=by
 refine⟨by simp[a.1],λj r g' e1 e2=>?_⟩
 by_cases hj:j<fs.length
 ·rw[getElem?_append_left hj]at e1;rw[getElem?_append_left (by rw[<-a.1];exact hj)]at e2;exact a.2 j r g' e1 e2
 ·rw[getElem?_append_right (by omega)]at e1
  rw[getElem?_append_right (by rw[<-a.1];omega)]at e2;have hj0:j-fs.length=0:=by have:=(List.getElem?_eq_some_iff.mp e1).1;simp at this;omega
  rw[<-a.1]at e2;rw[hj0]at e1 e2;simp at e1 e2;subst e1;subst e2;exact i
theorem Et(i:Imp φ ψ){ns:List Int}{f:Bool}(e:ψ [.rl (ns.map .int)]=.ok (f,.bl true)):∃h',φ [.rl (ns.map .int)] []=.ok (.bl true) h':=by
 have r:=i (λ_=>True) [] [.rl (ns.map .int)] [.rl (ns.map .int)] (λ_ _=>trivial) (au.cons (by rw[Dn];exact .inl ⟨_,rfl,trivial,(aS _ _ (bu ns)).mpr rfl⟩) au.nil);rw[e]at r;obtain⟨v,h',e1,_,q⟩:=r;have q:=q.1;dsimp only at q;rw[Dn]at q;subst q;exact⟨h',e1⟩
end Hv
end
section
namespace Hv
open PySem L2
section
variable {α β γ:Type}
theorem bN(a:α)(f:α -> Pr β):pb (.ok a) f=f a:=rfl
theorem Nu(c:Prop)[Decidable c](m n:Pr α)(f:α -> Pr β):pb (if c then m else n) f=if c then pb m f else pb n f:=by split<;>rfl
theorem kP(m:Pr α)(f:α -> Pr β)(g:β -> Pr γ):pb (pb m f) g=pb m λx=>pb (f x) g:=by cases m<;>rfl
theorem jT(a:α):pl (some a)=.ok a:=rfl
theorem vC(m:Pr α):pg true m=m:=rfl
theorem Nv(c:Prop)[Decidable c](m:Pr α):pg (decide c) m=if c then m else .no:=by unfold pg;simp
theorem vD{c:Bool}(h:c=true)(m:Pr α):pg c m=m:=by rw[h];rfl
end
theorem uy{f:Bool}:oA (jO f d)=true:=by unfold jO;split<;>rfl
theorem QY:oA .sh=true:=rfl
theorem QZ:oA .nw=true:=rfl
theorem Ra:oA .ow=false:=rfl
theorem Rb:OE .sh=false:=rfl
theorem Rc:OE .nw=true:=rfl
theorem rG{f:Bool}{i:Int}:jO f (.int i)=.sh:=by cases f<;>rfl
theorem Rf{f:Bool}{i:Bool}:jO f (.bl i)=.sh:=by cases f<;>rfl
theorem Nx{f:Bool}:jO f (.str i)=.sh:=by cases f<;>rfl
theorem Ny{f:Bool}:jO f .non=.sh:=by cases f<;>rfl
theorem Nz:jO false d=.sh:=rfl
theorem rH:jO true (.rl ds)=.nw:=rfl
theorem Rg:jO true (.dc ks ds)=.nw:=rfl
section
variable {a b:Int} {x y:Str} {t:Bool} {vs ws:List Val} {v:Val}
theorem Rh:lM .add (.int a) (.int b)=.ok (true,.int (a+b)):=rfl
theorem Ri:lM .sub (.int a) (.int b)=.ok (true,.int (a-b)):=rfl
theorem J7(h:kD a b=true):lM .mul (.int a) (.int b)=.ok (true,.int (a*b)):=by simp only[lM];exact vD h _
theorem fE(h:gQ b=true):lM .fdiv (.int a) (.int b)=.ok (true,.int (a/b)):=by simp only[lM];exact vD h _
theorem fF(h:decide (0<b)=true):lM .mod (.int a) (.int b)=.ok (true,.int (a%b)):=by simp only[lM];exact vD h _
theorem AG(h:decide (0<=b/\b<=1000000/\a.natAbs<2 ^ 64)=true):lM .pow (.int a) (.int b)=.ok (true,.int (a ^ b.toNat)):=by simp only[lM];exact vD h _
theorem U0:cop [] .lt (.int a) (.int b)=some (decide (a<b)):=rfl
theorem U1:cop [] .le (.int a) (.int b)=some (decide (a<=b)):=rfl
theorem U3:cop [] .gt (.int a) (.int b)=some (decide (b<a)):=rfl
theorem U4:cop [] .ge (.int a) (.int b)=some (decide (b<=a)):=rfl
theorem U5:cop [] .eq (.int a) (.int b)=some (decide (a=b)):=by
 show some (a==b)=_
 congr 1
theorem IZ:cop [] .ne (.int a) (.int b)=some (!decide (a=b)):=by
 show some (!(a==b))=_
 congr 1
theorem Rj:cop [] .isn v .non=some (qN v):=by cases v<;>rfl
theorem Rk:cop [] .ntn v .non=some (!qN v):=by cases v<;>rfl
theorem Eu:cB [] (.bl t)=some t:=rfl
theorem Rm:cB [] (.int a)=some (a != 0):=rfl
theorem Rn:cB [] (.rl vs)=some (!vs.isEmpty):=rfl
theorem Ro:cB [] (.tup vs)=some (!vs.isEmpty):=rfl
theorem Rp:jP .len [.rl vs]=.ok (true,.int vs.length):=rfl
theorem Rq:jP .len [.tup vs]=.ok (true,.int vs.length):=rfl
theorem Rt:jP .min [.int a,.int b]=.ok (true,.int (if b<a then b else a)):=rfl
theorem Ru:jP .max [.int a,.int b]=.ok (true,.int (if b>a then b else a)):=rfl
theorem NB:jP .min [.tup [.int a,.int b]]=.ok (true,.int (min a b)):=rfl
theorem NC:jP .max [.tup [.int a,.int b]]=.ok (true,.int (max a b)):=rfl
theorem ND:jP .list [.rl vs]=.ok (bR vs,.rl vs):=rfl
theorem NG:jP .list [.tup vs]=.ok (bR vs,.rl vs):=rfl
theorem Rv:jP .int [.bl t]=.ok (true,.int (if t=true then 1 else 0)):=rfl
theorem kQ(h:kj vs a=some v):n5 [] (.rl vs) (.int a)=some v:=h
theorem cY(h:kj vs a=some v):n5 [] (.tup vs) (.int a)=some v:=h
end
theorem pT:kj (v::vs) (0:Int)=some v:=by
 have:=mL (xs:=v::vs) (j:=0) (v:=v) rfl;exact this
theorem oH:kj (u::v::vs) (1:Int)=some v:=by
 have:=mL (xs:=u::v::vs) (j:=1) (v:=v) rfl;exact this
theorem ne_self(h:toD 16 [] d=some p)(hp:p.canLay0=true):cop [] .ne d d=some false:=by
 simp only[cop,Cv,h,bind_some];rw[SeqAt.eqv_refl p hp];rfl
end Hv
end
section
namespace Hv
open PySem L2
theorem cU:kK .seq [.rl vs]=some vs:=rfl
theorem NH:Ec .seq ds=kK .seq ds:=rfl
theorem NI:Ec .range ds=kK .range ds:=rfl
theorem NJ:Ec .enum ds=kK .enum ds:=rfl
theorem Rx:kK .enum [.rl vs]=some (cS 0 vs):=rfl
theorem Ew{lo hi:Option Int}:Ca (.rl vs) lo hi=.ok (bR (ck vs lo hi),.rl (ck vs lo hi)):=rfl
theorem aU{i:Nat}:fD (.one i) d env=some (env.set i (some (.sh,d))):=rfl
theorem NK{i j:Nat}:fD (.tup [i,j]) (.tup [d,e]) env=some ((env.set i (some (.sh,d))).set j (some (.sh,e))):=rfl
theorem rJ{α β:Type}(f:α -> β)(ds:List α)(lo hi:Option Int):ck (ds.map f) lo hi=(ck ds lo hi).map f:=by
 unfold ck;simp only[length_map,List.map_take,List.map_drop]
theorem xH{α:Type}(ds:List α)(lo hi:Option Int):(ck ds lo hi).length<=ds.length:=by
 unfold ck;simp only[length_take,length_drop];omega
theorem lD:∀(i:Nat) (ds:List Val),(cS i ds).length=ds.length
 |_,[]=>rfl
 |i,d::r=>by rw[cS,length_cons,lD (i+1) r,length_cons]
theorem jy{α β γ:Type}{f:β -> Option γ}{g:α -> β}{k:α -> γ}:∀(xs:List α),(∀x∈xs,f (g x)=some (k x))->cj f (xs.map g)=some (xs.map k)
 |[],_=>rfl
 | x::r,h=>by
  rw[map_cons,cj,h x mem_cons_self,jy r λy hy=>h y (mem_cons_of_mem _ hy)];rfl
theorem ints_map(xs:List Int):bf (xs.map .int)=some xs:=by
 have:=jy (f:=λv=>match v with|.int i=>some i|_=>none) (g:=Val.int) (k:=id) xs λ_ _=>rfl;rw[map_id]at this;exact this
theorem zw(p7:List (List Int))(h:∀k∈p7,k≠[])(hl:p7.length<64):fQ (p7.map mT)=some ((mR p7).map mT):=by
 unfold fQ;rw[if_pos (by rw[length_map];exact hl)];cases p7 with
 |nil=>rfl
 |cons k r=>
  have e:bf (List.map mT (k::r))=none:=by unfold bf ;rw[map_cons,cj];rfl
  rw[e];have e2:lV (List.map mT (k::r))=some (k::r):=by
   have:=jy (f:=λv=>match v with|.tup vs=>if vs.isEmpty then none else bf vs|_=>none) (g:=mT) (k:=id) (k::r) λx hx=>by
    have hx:=h x hx;show (if (x.map Val.int).isEmpty=true then none else bf (x.map .int))=some x;rw[if_neg (by simpa using hx),ints_map]
   rw[map_id]at this;exact this
  show (lV (List.map mT (k::r))).bind _=_;rw[e2];rfl
theorem zx{α:Type}(xs:List α):fY (xs.map λ_=>Val.bl true)=some (xs.map λ_=>true):=jy (g:=λ_=>Val.bl true) (k:=λ_=>true) xs λ_ _=>rfl
theorem all_true{α:Type}(xs:List α):jP .all [.rl (xs.map λ_=>Val.bl true)]=.ok (true,.bl true):=by
 show pb (pl (fY _)) _=_;rw[zx,jT,bN]
 congr 3
 simp
theorem zy{α:Type}{n:Nat}(f:α -> Val)(g:α -> PyData)(xs:List α)(e:∀x∈xs,toD n h (f x)=some (g x)):toD (n+1) h (.rl (xs.map f))=some (.list (xs.map g)):=by
 show (cj (toD n h) _).bind _=_;rw[jy xs e];rfl
theorem Ja{α:Type}{n:Nat}(f:α -> Val)(g:α -> PyData)(xs:List α)(e:∀x∈xs,toD n h (f x)=some (g x)):toD (n+1) h (.tup (xs.map f))=some (.tuple (xs.map g)):=by
 show (cj (toD n h) _).bind _=_;rw[jy xs e];rfl
theorem jU{α:Type}(g:α -> PyData):∀(xs:List α),(∀x∈xs,(g x).canLay0=true)->PyData.canLayAll0 (xs.map g)=true
 |[],_=>by simp[PyData.canLayAll0]
 | x::r,h=>by
  rw[map_cons,PyData.canLayAll0,h x mem_cons_self,jU g r λy hy=>h y (mem_cons_of_mem _ hy)];rfl
theorem Ce{n:Nat}(hc:c env=.ok true)(hb:body env=.ok (.nx env')):oF c body (n+1) env=oF c body n env':=by
 rw[oF,hc,bN,if_pos rfl,hb,bN]
theorem Ex{n:Nat}(hc:c env=.ok false):oF c body (n+1) env=.ok (.nx env):=by
 rw[oF,hc,bN,if_neg (by decide)]
end Hv
end
section
namespace Hv
open PySem L2
theorem uz{α:Type}(enc:α -> Val)(Q:List α -> bB->Prop):∀(us done:List α) (env:bB),Q done env->(∀(pre:List α) (u:α) (post:List α) (env:bB),done++us=pre++u::post->Q pre env->∃env',body (enc u) env=.ok (.nx env')/\Q (pre++[u]) env')->∃env',oE body (us.map enc) env=.ok (.nx env')/\Q (done++us) env'
 |[],done,env,q,_=>⟨env,rfl,by rw[append_nil];exact q⟩
 | x::xs,done,env,q,h=>by
  obtain⟨env',e,q'⟩:=h done x xs env rfl q;have eq:done++x::xs=done++[x]++xs:=by simp
  obtain⟨kJ,e2,q2⟩:=uz enc Q xs (done++[x]) env' q' (by rw[<-eq];exact h);refine⟨kJ,?_,by rw[eq];exact q2⟩;rw[map_cons,oE,e,bN];exact e2
theorem bL{α:Type}(enc:α -> Val){us:List α}{kB:bB}{β:Type}{k:zo->Pr β}(G:Pr β -> Prop)(Q:List α -> bB->Prop)(h0:Q [] kB)
  (step:∀(pre:List α) (u:α) (post:List α) (env:bB),us=pre++u::post->Q pre env->∃env',body (enc u) env=.ok (.nx env')/\Q (pre++[u]) env')
  (post:∀env',Q us env'->G (k (.nx env'))):G (pb (oE body (us.map enc) kB) k):=by
 obtain⟨env',e,q⟩:=uz enc Q us [] kB h0 (λpre x post env ep q=>step pre x post env ep q);rw[e,bN];exact post env' q
theorem xJ(Q:Nat->bB->Prop)
  (step:∀m env,Q m env->(c env=.ok false)\/(c env=.ok true/\∃m' env',body env=.ok (.nx env')/\Q m' env'/\m'<m)) :
  ∀(n m:Nat) (env:bB),m<n->Q m env->∃m' env',oF c body n env=.ok (.nx env')/\Q m' env'/\c env'=.ok false
 |0,m,env,h,_=>absurd h (Nat.not_lt_zero _)
 | n+1,m,env,h,q=>by
  rcases step m env q with e|⟨e,m',env',eb,q',hm⟩
  ·exact⟨m,env,Ex e,q,e⟩
  ·obtain⟨m2,kJ,e2,q2,c2⟩:=xJ Q step n m' env' (by omega) q';exact⟨m2,kJ,by rw[Ce e eb];exact e2,q2,c2⟩
theorem Jb{n:Nat}{kB:bB}{β:Type}{k:zo->Pr β}(G:Pr β -> Prop)(Q:Nat->bB->Prop)(m:Nat)(hn:m<n)(h0:Q m kB)
  (step:∀m env,Q m env->(c env=.ok false)\/(c env=.ok true/\∃m' env',body env=.ok (.nx env')/\Q m' env'/\m'<m))
  (post:∀m env',Q m env'->c env'=.ok false->G (k (.nx env'))):G (pb (oF c body n kB) k):=by
 obtain⟨m',env',e,q,hc⟩:=xJ Q step n m kB hn h0;rw[e,bN];exact post m' env' q hc
theorem dH:∀{l m:List Int},l.Nodup->(∀x∈l,x∈m)->l.length<=m.length
 |[],_,_,_=>zero_le _
 | x::r,m,h,hs=>by
  rw[nodup_cons]at h;have hx:x∈m:=hs x mem_cons_self;have:=dH (m:=m.erase x) h.2 λy hy=>(List.mem_erase_of_ne (λe:y=x=>h.1 (e▸hy))).mpr (hs y (mem_cons_of_mem _ hy));rw[List.length_erase_of_mem hx]at this;have:=List.length_pos_of_mem hx;rw[length_cons];omega
noncomputable abbrev lX(xs:List Int)(g:Int->Val):Val:=.dc (xs.map Sum.inl) (xs.map g)
noncomputable def oJ(g:Int->Val)(x:Int)(v:Val):Int->Val:=λy=>if y=x then v else g y
theorem vF(xs:List Int)(g:Int->Val):(xs.map (Sum.inl:Int->Key)).zip (xs.map g)=xs.map λx=>((Sum.inl x:Key),g x):=by
 induction xs with
 |nil=>rfl
 |cons x r ih=>simp only[map_cons,zip_cons_cons,ih]
theorem oK{xs:List Int}{x:Int}(h:x∈xs):n5 [] (lX xs g) (.int x)=some (g x):=by
 show bZ _ _=_;rw[vF];unfold bZ
 induction xs with
 |nil=>simp at h
 |cons y r ih=>
  rw[map_cons,find?_cons]
  by_cases e:y=x
  ·subst e;simp
  ·have:((Sum.inl y:Key)=Sum.inl x)=False:=by simp[e]
   simp only[this,decide_false];exact ih (by rcases mem_cons.mp h with h|h;exact absurd h.symm e;exact h)
theorem zA(xs:List Int)(g:Int->Val)(x:Int):((xs.map λx=>((Sum.inl x:Key),g x)).any λkv=>decide (kv.1=Sum.inl x))=decide (x∈xs):=by
 induction xs with
 |nil=>rfl
 |cons y r ih=>
  rw[map_cons,any_cons,ih]
  by_cases e:y=x
  ·subst e;simp
  ·have e':¬ x=y:=λh=>e h.symm;simp[e,e']
theorem vG{xs:List Int}{x:Int}(h:x∈xs):putD (xs.map Sum.inl) (xs.map g) (.inl x) v=lX xs (oJ g x v):=by
 unfold putD iL;rw[vF,zA,if_pos (by simpa using h)];unfold lX;rw[map_map,map_map]
 congr 1
 ·refine map_congr_left λy _=>?_
  show ((if (Sum.inl y:Key)=Sum.inl x then ((Sum.inl y:Key),v) else (Sum.inl y,g y)).1)=_
  split<;>rfl
 ·rw[map_map,map_map]
  refine map_congr_left λy _=>?_;show ((if (Sum.inl y:Key)=Sum.inl x then ((Sum.inl y:Key),v) else (Sum.inl y,g y)).2)=_;unfold oJ
  by_cases e:y=x
  ·rw[if_pos (by rw[e]),if_pos e]
  ·rw[if_neg (by simpa using e),if_neg e]
theorem vH{xs:List Int}{x:Int}(h:x∉xs):putD (xs.map Sum.inl) (xs.map g) (.inl x) v=lX (xs++[x]) (oJ g x v):=by
 unfold putD iL;rw[vF,zA,if_neg (by simpa using h)];unfold lX;simp only[map_append,map_map,map_cons,map_nil]
 congr 1
 congr 1
 ·refine map_congr_left λy hy=>?_;show g y=oJ g x v y;unfold oJ;rw[if_neg (λe:y=x=>h (e▸hy))]
 ·simp[oJ]
theorem cN{xs:List Int}(h:∀x∈xs,g x=g' x):lX xs g=lX xs g':=by
 unfold lX;rw[map_congr_left h]
theorem rK{x:Int}:keyOf (.int x)=some (.inl x):=rfl
theorem Jc(a b:Int):PyData.eqv (.int a) (.int b)=decide (a=b):=by
 show (a==b)=_
 by_cases h:a=b<;>simp[h]
theorem pC{xs:List Int}{x:Int}:cop [] .sO (.int x) (.rl (xs.map .int))=some (decide (x∈xs)):=by
 show (toD 16 [] (.rl (xs.map .int))).bind _=_;rw[zy Val.int PyData.int xs λ_ _=>rfl];show some ((xs.map PyData.int).any λy=>PyData.eqv y (.int x))=_
 congr 1
 induction xs with
 |nil=>rfl
 |cons y r ih=>
  rw[map_cons,any_cons,ih,Jc]
  by_cases e:y=x
  ·subst e;simp
  ·have e':¬ x=y:=λh=>e h.symm;simp[e,e']
theorem Ey{xs:List Int}{x:Int}:cop [] .nin (.int x) (.rl (xs.map .int))=some (!decide (x∈xs)):=by
 show (cop [] .sO (.int x) (.rl (xs.map .int))).map _=_;rw[pC];rfl
theorem rL(x:Int):∀(ns ks:List Int),x∈ff ks ns↔x∈ks\/x∈ns
 |[],ks=>by simp[ff]
 | k::r,ks=>by
  rw[ff,rL x r,fq]
  split
  ·rename_i h
   constructor
   ·rintro(h'|h')
    ·exact .inl h'
    ·exact .inr (mem_cons_of_mem _ h')
   ·rintro(h'|h')
    ·exact .inl h'
    ·rcases mem_cons.mp h' with h'|h'
     ·exact .inl (h'▸h)
     ·exact .inr h'
  ·simp[or_assoc]
theorem f7:∀(ns ks:List Int),ks.Nodup->(ff ks ns).Nodup
 |[],ks,h=>h
 | k::r,ks,h=>by
  rw[ff];refine f7 r _ ?_;rw[fq]
  split
  ·exact h
  ·rename_i hk;rw[nodup_append];exact⟨h,by simp,λa ha b hb=>by simp at hb;subst hb;exact λe=>hk (e▸ha)⟩
noncomputable def fX(ns:List Int):List Int:=PySem.W.sortI (ff [] ns)
theorem Ez(x:Int)(ns:List Int):x∈fX ns↔x∈ns:=by
 unfold fX;rw[(sortI_perm _).mem_iff,rL];simp
theorem f9(ns:List Int):(fX ns).Nodup:=by
 unfold fX;rw[(sortI_perm _).nodup_iff];exact f7 ns [] nodup_nil
inductive Way (es:List (Int×Int)):Int->Int->Prop
 |refl (a:Int):Way es a a
 |fwd {a b c:Int}:Way es a b->(b,c)∈es->Way es a c
 |bwd {a b c:Int}:Way es a b->(c,b)∈es->Way es a c
theorem Way.trans{a b c:Int}(h:Way es a b)(k:Way es b c):Way es a c:=by
 induction k with
 |refl=>exact h
 |fwd _ m ih=>exact .fwd ih m
 |bwd _ m ih=>exact .bwd ih m
theorem Way.symm{a b:Int}(h:Way es a b):Way es b a:=by
 induction h with
 |refl=>exact .refl _
 |fwd _ m ih=>exact(Way.bwd (.refl _) m).trans ih
 |bwd _ m ih=>exact(Way.fwd (.refl _) m).trans ih
theorem Way.mono(hs:∀e∈es,e∈fs){a b:Int}(h:Way es a b):Way fs a b:=by
 induction h with
 |refl=>exact .refl _
 |fwd _ m ih=>exact .fwd ih (hs _ m)
 |bwd _ m ih=>exact .bwd ih (hs _ m)
theorem Way.const{α:Type}(f:Int -> α)(hf:∀e∈es,f e.1=f e.2){a b:Int}(h:Way es a b):f a=f b:=by
 induction h with
 |refl=>rfl
 |fwd _ m ih=>exact ih.trans (hf _ m)
 |bwd _ m ih=>exact ih.trans (hf _ m).symm
structure ko (ps:List Int) (es:List (Int×Int)) (f:Int->Int):Prop where
 sO:∀x∈ps,f x∈ps
 way:∀x∈ps,Way es x (f x)
 same:∀e∈es,f e.1=f e.2
theorem ko.iff{ps:List Int}(h:ko ps es f){x y:Int}(hx:x∈ps)(hy:y∈ps):f x=f y↔Way es x y:=by
 constructor
 ·intro e;have:=(h.way y hy).symm;rw[<-e]at this;exact(h.way x hx).trans this
 ·exact λw=>w.const f h.same
theorem ko.start(ps:List Int):ko ps [] id:=⟨λx h=>h,λx _=>.refl x,λe h=>by simp at h⟩
theorem ko.step{ps:List Int}(h:ko ps es f){a b:Int}(ha:a∈ps)(hb:b∈ps)(kept gone:Int)(hk:(kept=f a/\gone=f b)\/(kept=f b/\gone=f a)):ko ps (es++[(a,b)]) (λx=>if f x=gone then kept else f x):=by
 have up:∀{x y},Way es x y->Way (es++[(a,b)]) x y:=λw=>w.mono λe he=>mem_append_left _ he;have ab:Way (es++[(a,b)]) a b:=.fwd (.refl _) (by simp);refine⟨λx hx=>?_,λx hx=>?_,λe he=>?_⟩
 ·split
  ·rcases hk with ⟨k,_⟩|⟨k,_⟩<;>rw[k]<;>exact h.sO _ (by assumption)
  ·exact h.sO x hx
 ·split
  ·rename_i e
   have w1:=up (h.way x hx);rw[e]at w1;refine w1.trans ?_
   rcases hk with ⟨k,g⟩|⟨k,g⟩
   ·rw[k,g];exact((up (h.way b hb)).symm.trans ab.symm).trans (up (h.way a ha))
   ·rw[k,g];exact((up (h.way a ha)).symm.trans ab).trans (up (h.way b hb))
  ·exact up (h.way x hx)
 ·rcases mem_append.mp he with he|he
  ·rw[h.same e he]
  ·rw[mem_singleton]at he
   subst he
   rcases hk with ⟨k,g⟩|⟨k,g⟩
   ·rw[k,g];rw[if_pos (rfl:f b=f b)];split<;>rfl
   ·rw[k,g];rw[if_pos (rfl:f a=f a)];split<;>rfl
end Hv
end
section
namespace Hv
open PySem L2
noncomputable abbrev T3:=Int×Int×Int
noncomputable def l3(t:T3):List Int:=[t.1,t.2.1,t.2.2]
noncomputable def dS(t:T3):Val:=.tup [.int t.1,.int t.2.1,.int t.2.2]
noncomputable def rM(x:T3):List T3->List T3
 |[]=>[x]
 |y::r=>if HT.lexLt (l3 y) (l3 x)=true then y::rM x r else x::y::r
noncomputable def j5:List T3->List T3
 |[]=>[]
 |x::r=>rM x (j5 r)
theorem xK(x:T3):∀l:List T3,u6 (l3 x) (l.map l3)=(rM x l).map l3
 |[]=>rfl
 | y::r=>by
  rw[map_cons,u6,rM]
  split
  ·rw[map_cons,xK x r]
  ·rfl
theorem uA:∀l:List T3,mR (l.map l3)=(j5 l).map l3
 |[]=>rfl
 |x::r=>by rw[map_cons,mR,uA r,xK];rfl
theorem oM(x:T3):∀l:List T3,(rM x l).Perm (x::l)
 |[]=>.refl _
 | y::r=>by
  rw[rM]
  split
  ·exact((oM x r).cons y).trans (List.Perm.swap ..)
  ·exact .refl _
theorem gb:∀l:List T3,(j5 l).Perm l
 |[]=>.refl _
 |x::r=>(oM x _).trans ((gb r).cons x)
theorem Jd(ts:List T3)(hl:ts.length<64):fQ (ts.map dS)=some ((j5 ts).map dS):=by
 have e:∀us:List T3,us.map dS=(us.map l3).map mT:=λus=>by rw[map_map];rfl
 rw[e,zw _ (λk hk=>by obtain⟨t,_,rfl⟩:=mem_map.mp hk;simp[l3]) (by rw[length_map];exact hl),uA,e]
theorem xM(hl:ts.length<64):jP .sorted [.rl (ts.map dS)]=.ok (true,.rl ((j5 ts).map dS)):=by
 show pb (pl (fQ _)) _=_;rw[Jd ts hl];rfl
noncomputable def EA(ts:List T3):Prop:=ts.Pairwise λa b=>a.1<b.1
theorem AH(x:T3):∀l:List T3,EA l->(∀y∈l,y.1≠x.1)->EA (rM x l)
 |[],_,_=>by simp[rM,EA]
 | y::r,h,hn=>by
  unfold EA at *;rw[pairwise_cons]at h;have ny:y.1≠x.1:=hn y mem_cons_self;rw[rM];have lx:HT.lexLt (l3 y) (l3 x)=decide (y.1<x.1):=by show HT.lexLt (y.1::_) (x.1::_)=_;rw[HT.fV,if_neg ny]
  rw[lx]
  by_cases c:y.1<x.1
  ·rw[if_pos (by simpa using c),pairwise_cons]
   refine⟨λz hz=>?_,AH x r h.2 λz hz=>hn z (mem_cons_of_mem _ hz)⟩
   rcases mem_cons.mp ((oM x r).mem_iff.mp hz) with hz|hz
   ·rw[hz];exact c
   ·exact h.1 z hz
  ·rw[if_neg (by simpa using c),pairwise_cons,pairwise_cons]
   refine⟨λz hz=>?_,h⟩;have:x.1<y.1:=by omega
   rcases mem_cons.mp hz with hz|hz
   ·rw[hz];exact this
   ·have:=h.1 z hz;omega
theorem xN:∀l:List T3,(l.map (·.1)).Nodup->EA (j5 l)
 |[],_=>.nil
 | x::r,h=>by
  rw[map_cons,nodup_cons]at h;refine AH x _ (xN r h.2) λy hy e=>h.1 ?_;rw[(gb r).mem_iff]at hy;exact mem_map.mpr ⟨y,hy,e⟩
noncomputable def turnT(t:T3):T3:=(t.1,if t.2.2<t.2.1 then t.2.2 else t.2.1,if t.2.2>t.2.1 then t.2.2 else t.2.1)
noncomputable def cG(p q:Int)(ts:List T3):Val:=.tup [.tup [.int p,.int q],.rl (ts.map dS)]
theorem Je{i j k:Nat}:fD (.tup [i,j,k]) (dS t) env=some (((env.set i (some (.sh,.int t.1))).set j (some (.sh,.int t.2.1))).set k (some (.sh,.int t.2.2))):=rfl
theorem Cf{α:Type}(ds:List α)(lo:Int)(n:Nat)(h:0<=lo):(ck ds (some lo) (some (lo+n))).length<=n:=by
 unfold ck HT.e9;dsimp only;rw[if_neg (by omega),if_neg (by omega)];simp only[length_take,length_drop];omega
theorem NL:Ca (dS t) (some 1) none=.ok (true,.tup [.int t.2.1,.int t.2.2]):=rfl
theorem rN{α:Type}(enc:α -> Val)(g:α -> FV):∀(us:List α),(∀u∈us,f (enc u)=.ok (some (g u)))->j4 f (us.map enc)=.ok (us.all λu=>(g u).1,us.map λu=>(g u).2)
 |[],_=>rfl
 | x::xs,h=>by
  rw[map_cons,j4,h x mem_cons_self,bN,rN enc g xs λy hy=>h y (mem_cons_of_mem _ hy),bN];rfl
theorem eO{α:Type}(enc dec:α -> Val)(us:List α)(h:∀u∈us,f (enc u)=.ok (some (true,dec u))):j4 f (us.map enc)=.ok (true,us.map dec):=by
 rw[rN enc (λu=>(true,dec u)) us h];simp
theorem eV{α:Type}(enc dec:α -> Val)(t:α -> Bool):∀(us:List α),(∀u∈us,f (enc u)=.ok (if t u=true then some (true,dec u) else none))->j4 f (us.map enc)=.ok (true,(us.filter t).map dec)
 |[],_=>rfl
 | x::xs,h=>by
  rw[map_cons,j4,h x mem_cons_self,bN,eV enc dec t xs λy hy=>h y (mem_cons_of_mem _ hy),bN]
  by_cases hx:t x=true
  ·rw[if_pos hx,List.filter_cons_of_pos hx];rfl
  ·rw[if_neg hx,List.filter_cons_of_neg hx]
theorem Jf:∀m,m<67->∀d,d<67->0<m->0<d->(m*d)%67≠0:=by decide +kernel
theorem Jg{m c i j:Int}(hm:0<m/\m<67)(hi:0<=i/\i<67)(hj:0<=j/\j<67)(e:(m*i+c)%67=(m*j+c)%67):i=j:=by
 have key:∀i j:Int,0<=i->j<67->i<j->(m*i+c)%67=(m*j+c)%67->False:=by
  intro i j h0 h1 hlt e;obtain⟨a,ha⟩:=eq_ofNat_of_zero_le (show 0<=m by omega);obtain⟨d,hd⟩:=eq_ofNat_of_zero_le (show 0<=j-i by omega);have p:=Jf a (by omega) d (by omega) (by omega) (by omega);have:m*j=m*i+m*(j-i):=by rw[Int.mul_sub];omega
  rw[this]at e;have e2:(m*(j-i))%67=0:=by omega
  rw[ha,hd]at e2;apply p;have:((a*d:Nat):Int)%67=0:=by rw[Int.natCast_mul];exact e2
  omega
 rcases Int.lt_trichotomy i j with h|h|h
 ·exact(key i j hi.1 hj.2 h e).elim
 ·exact h
 ·exact(key j i hj.1 hi.2 h e.symm).elim
theorem rO{α:Type}{f:Hs->Option α}{a:α}(e:f h=some a):ask f h=.ok a h:=by show (match f h with|some a=>Out.ok a h|none=>Out.no)=_;rw[e]
theorem jV{α β:Type}{f:Hs->Option α}{g:α -> M β}{a:α}(e:f h=some a):bnd (ask f) g h=g a h:=aq (rO e)
theorem qf{α β:Type}{o:Option α}{g:α -> M β}{a:α}(e:o=some a):bnd (bH o) g h=g a h:=aq (by unfold bH;rw[e])
end Hv
end
section
namespace Hv
open PySem L2
noncomputable def Gn:Val->Option (Int×Int×Int)
 |.tup [.int a,.int b,.int c]=>some (a,b,c)
 |_=>none
noncomputable def jz(kvs:List (Key×Val))(t:Int×Int×Int):List (Key×Val):=iL kvs (.inl t.1) (.tup [.int t.2.1,.int t.2.2])
noncomputable def bU(p q:Int)(ts:List (Int×Int×Int)):List (Key×Val):=ts.foldl jz [(.inl (-1),.tup [.int p,.int q])]
noncomputable def kR(Ψ:Nat->List Val->Pr FV)(c jo jp:Nat)(ds:List Val):Pr FV:=match ds with
 | [net]=>(match Ψ jo [net] with
  | .ok (true,.tup [.tup [.int p,.int q],.rl ts])=>pb (pl (cj Gn ts)) λes=>pg (decide (es.length<1000)) (match Ψ jp [.tup [.tup [.int p,.int q],.rl ts]] with
   |.ok (true,y)=>.ok (true,.ob c ["net","places","ends"] [.tup [.tup [.int p,.int q],.rl ts],y,.dc ((bU p q es).map (·.1)) ((bU p q es).map (·.2))])
   |_=>.no)
  |_=>.no)
 |_=>.no
noncomputable abbrev rP(n jo jp:Nat):eE:=.cons (.setF n (.var 0) "net" (.call jo (.cons (.var 1) .nil))) (.cons (.setF n (.var 0) "places" (.call jp (.cons (.fld n (.var 0) "net") .nil))) (.cons (.setF n (.var 0) "ends" (.dct1 (.con "THOUGHT" (.int (-1))) (.idx (.fld n (.var 0) "net") (.cst (.int 0)))))
 (.cons (.for (.tup [2,3,4]) .seq (.cons (.idx (.fld n (.var 0) "net") (.cst (.int 1))) .nil) (.cons (.fX (.fld n (.var 0) "ends") (.var 2) (.tup (.cons (.var 3) (.cons (.var 4) .nil)))) .nil)) .nil)))
noncomputable def AI(t:Int×Int×Int):Val:=.tup [.int t.1,.int t.2.1,.int t.2.2]
theorem Jh(e:Gn v=some t):v=AI t:=by
 unfold Gn at e;split at e
 ·cases e;rfl
 ·cases e
theorem xO:∀{vs:List Val} {ts:List (Int×Int×Int)},cj Gn vs=some ts->vs=ts.map AI
 |[],ts,e=>by cases e;rfl
 | v::vs,ts,e=>by
  rw[cj]at e;obtain⟨t,e1,e⟩:=bind_eq_some_iff.mp e;obtain⟨r,e2,e⟩:=bind_eq_some_iff.mp e;cases e;rw[Jh e1,xO e2];rfl
theorem vI:∀ts:List (Int×Int×Int),bR (ts.map AI)=true
 |[]=>rfl
 |t::r=>by rw[map_cons,bR,vI r];rfl
theorem EB(kvs:List (Key×Val))(k:Key)(v:Val):(iL kvs k v).length<=kvs.length+1:=by
 unfold iL
 split
 ·rw[length_map];omega
 ·rw[length_append];simp
theorem EC(hv:j3 v=true)(kvs:List (Key×Val))(h:∀kv∈kvs,j3 kv.2=true):∀kv∈iL kvs k v,j3 kv.2=true:=by
 unfold iL;intro kv hk;split at hk
 ·obtain⟨z,hz,rfl⟩:=mem_map.mp hk
  split
  ·exact hv
  ·exact h z hz
 ·rcases mem_append.mp hk with hk|hk
  ·exact h kv hk
  ·rw[mem_singleton.mp hk];exact hv
theorem xP:∀(ts:List (Int×Int×Int)) (kvs:List (Key×Val)),(∀kv∈kvs,j3 kv.2=true)->∀kv∈ts.foldl jz kvs,j3 kv.2=true
 |[],kvs,h=>h
 |t::r,kvs,h=>xP r _ (EC rfl kvs h)
theorem xQ:∀{vs:List Val},(∀v∈vs,j3 v=true)->bR vs=true
 |[],_=>rfl
 |v::vs,h=>by rw[bR,h v mem_cons_self,xQ λw hw=>h w (mem_cons_of_mem _ hw)];rfl
section
variable {Φ:Nat->List Val->M Val} {Ψ:Nat->List Val->Pr FV}
theorem uB{n c D L E:Nat}{ts:List (Int×Int×Int)}{fs:List (Str×Val)}(hc:c<n)(hf:fs.lookup ("ends":Str)=some (Val.ref E))(NN:ts.length<1000)(Y6:D≠E)(U6:L≠E) :
  ∀(m j:Nat) (kvs:List (Key×Val)) (env:Env) (h h':Hs),m+j=ts.length->kvs.length<=j+1->env[0]?=some (some (.ref D))->4<env.length->h[D]?=some (.ins c fs)->h[L]?=some (.lst (ts.map AI))->h'.length=h.length->(∀k,k≠E->h'[k]?=h[k]?)->h'[E]?=some (.dct kvs) ->
  ∃env' h2,forM (.live L) (λx env=>bnd (bH (gJ (.tup [2,3,4]) x env)) λenv'=>fu Φ (.cons (.fX (.fld n (.var 0) "ends") (.var 2) (.tup (.cons (.var 3) (.cons (.var 4) .nil)))) .nil) env') m j env h'=.ok (.nx env') h2 /\
   h2.length=h.length/\(∀k,k≠E->h2[k]?=h[k]?)/\h2[E]?=some (.dct ((ts.drop j).foldl jz kvs))
 | 0,j,kvs,env,h,h',hm,hk,he,hl,hD,hL,h1,h2,h3=>by
  refine⟨env,h',?_,h1,h2,?_⟩
  ·rw[forM,jV (a:=ts.map AI) (eL (by rw[h2 L U6];exact hL))];unfold aH;rw[if_pos (decide_eq_true (by rw[length_map];omega))];rfl
  ·rw[List.drop_of_length_le (by omega)];exact h3
 | m+1,j,kvs,env,h,h',hm,hk,he,hl,hD,hL,h1,h2,h3=>by
  have hj:j<ts.length:=by omega
  have hE:E<h'.length:=(List.getElem?_eq_some_iff.mp h3).1
  let gW:Env:=((env.set 2 (some (.int ts[j].1))).set 3 (some (.int ts[j].2.1))).set 4 (some (.int ts[j].2.2))
  have b1:gJ (.tup [2,3,4]) (AI ts[j]) env=some gW:=rfl;have g0:gW[0]?=some (some (.ref D)):=by show (((env.set 2 _).set 3 _).set 4 _)[0]?=_;rw[getElem?_set_ne (by omega),getElem?_set_ne (by omega),getElem?_set_ne (by omega)];exact he
  have g2:gW[2]?=some (some (.int ts[j].1)):=by show (((env.set 2 _).set 3 _).set 4 _)[2]?=_;rw[getElem?_set_ne (by omega),getElem?_set_ne (by omega),getElem?_set_self (by omega)]
  have g3:gW[3]?=some (some (.int ts[j].2.1)):=by show (((env.set 2 _).set 3 _).set 4 _)[3]?=_;rw[getElem?_set_ne (by omega),getElem?_set_self (by rw[length_set];omega)]
  have g4:gW[4]?=some (some (.int ts[j].2.2)):=by show (((env.set 2 _).set 3 _).set 4 _)[4]?=_;rw[getElem?_set_self (by rw[length_set,length_set];omega)]
  have evf:aJ Φ (.fld n (.var 0) "ends") gW h'=.ok (.ref E) h':=by rw[aJ,aq (bV g0)];refine rO (f:=λh=>jb n h (.ref D) "ends") ?_;unfold jb;dsimp only;rw[h2 D Y6,hD];dsimp only;rw[if_pos hc];exact hf
  have evt:aJ Φ (.tup (.cons (.var 3) (.cons (.var 4) .nil))) gW h'=.ok (.tup [.int ts[j].2.1,.int ts[j].2.2]) h':=by
   rw[aJ,aq (a:=[.int ts[j].2.1,.int ts[j].2.2]) (h1:=h')]
   ·unfold aH;rw[if_pos (decide_eq_true (show ([Val.int ts[j].2.1,Val.int ts[j].2.2]:List Val).length<=sizeLine from(by decide:2<=sizeLine)))];rfl
   ·rw[bz,aq (bV g3),bz];rw[show bnd (bnd (aJ Φ (.var 4) gW) λd=>bnd (bz Φ .nil gW) λds=>ret (d::ds)) (λds=>ret (Val.int ts[j].2.1::ds)) h'=_ from aq (a:=[.int ts[j].2.2]) (h1:=h') (by rw[aq (bV g4),bz];rfl)];rfl
  have st:fu Φ (.cons (.fX (.fld n (.var 0) "ends") (.var 2) (.tup (.cons (.var 3) (.cons (.var 4) .nil)))) .nil) gW h'=.ok (.nx gW) (h'.set E (.dct (jz kvs ts[j]))):=by
   rw[fu,aq (a:=Fl.nx gW) (h1:=h'.set E (.dct (jz kvs ts[j])))]
   ·dsimp only;rw[fu];rfl
   ·rw[gK,aq evt,aq evf,aq (bV g2)]
    rw[aq (a:=()) (h1:=h'.set E (.dct (jz kvs ts[j])))]
    ·rfl
    ·unfold um;dsimp only;rw[jV (f:=λh=>h[E]?) h3];dsimp only;rw[qf (o:=keyOf (.int ts[j].1)) (a:=.inl ts[j].1) rfl];unfold aH;rw[if_pos (decide_eq_true (by unfold sizeLine;omega))];rfl
  have hlen:(jz kvs ts[j]).length<=j+1+1:=le_trans (EB _ _ _) (by omega);obtain⟨kJ,h4,r1,r2,r3,r4⟩:=uB hc hf NN Y6 U6 m (j+1) (jz kvs ts[j]) gW h (h'.set E (.dct (jz kvs ts[j]))) (by omega) hlen g0 (by show 4<(((env.set 2 _).set 3 _).set 4 _).length;simp;omega) hD hL (by simp[h1])
   (λk hk=>by rw[getElem?_set_ne λz=>hk z.symm];exact h2 k hk) (getElem?_set_self hE)
  refine⟨kJ,h4,?_,r2,r3,?_⟩
  ·rw[forM,jV (a:=ts.map AI) (eL (by rw[h2 L U6];exact hL))]
   rw[show (ts.map AI)[j]?=some (AI ts[j]) by rw[getElem?_map,List.getElem?_eq_getElem hj];rfl];dsimp only;rw[aq (a:=Fl.nx gW) (h1:=h'.set E (.dct (jz kvs ts[j])))]
   ·exact r1
   ·rw[qf b1];exact st
  ·rw[List.drop_eq_getElem_cons hj,List.foldl_cons];exact r4
theorem qg{n c i:Nat}(hc:c<n)(g:h[i]?=some (.ins c fs))(hl:fs.length<1000):bnd (Aa n (.ref i) x v) (λ_=>ret (Fl.nx env)) h=.ok (.nx env) (h.set i (.ins c (qR x v fs))):=by
 unfold Aa;dsimp only;rw[bF,jV (a:=(c,fs)) (by rw[g];dsimp only;rw[if_pos hc])];dsimp only;unfold bnd aH;rw[if_pos (decide_eq_true hl)];rfl
theorem xR{n c jo jp:Nat}(hc:c<n)(hΦ:∀j,Imp (Φ j) (Ψ j)){p q':Int}(u:Up A h)(qn:Dn A h net v)(e1:Ψ jo [net]=.ok (true,.tup [.tup [.int p,.int q'],.rl ts]))(e2:cj Gn ts=some es)(hz:es.length<1000)
  (e3:Ψ jp [.tup [.tup [.int p,.int q'],.rl ts]]=.ok (true,y)):∃(h8:Hs) (V1 v2 vE:Val),gR Φ 5 (rP n jo jp) [.ref h.length,v] (h++[Ob.ins c []])=.ok .non h8/\h<+:h8/\h8[h.length]?=some (.ins c [("net",V1),("places",v2),("ends",vE)]) /\
   ∀B:AP,(∀k,h.length+1<=k->B (some k))->au B h8 [.tup [.tup [.int p,.int q'],.rl ts],y,.dc ((bU p q' es).map (·.1)) ((bU p q' es).map (·.2))] [V1,v2,vE]:=by
 have et:=xO e2;have Y7:h<+:h++[Ob.ins c []]:=prefix_append _ _;have u1:=u.ext Y7;have R1:=hΦ jo A (h++[Ob.ins c []]) [net] [v] u1 (au.cons (qn.ext Y7) au.nil);rw[e1] at R1;obtain⟨v1,h2,f1,U7,_,dF⟩:=R1;have dA:=dF rfl;clear dF;have MK:h2[h.length]?=some (.ins c []):=cF U7 (by simp);have l2:h.length+1<=h2.length:=by have:=U7.length_le;simpa using this
 rw[Dn]at dA;obtain⟨ws,rfl,dB⟩:=dA;rw[au]at dB;obtain⟨w0,r0,rfl,d0,d1⟩:=dB;obtain⟨w1,rfl,d5⟩:=au.one d1;clear d1;have ew0:w0=.tup [.int p,.int q']:=(je _ _ (show j3 (.tup [.int p,.int q'])=true from rfl)).mp d0;subst ew0;rw[Dn]at d5
 rcases d5 with ⟨_,_,z,_⟩|⟨L,ws,rfl,aL,gL,d6⟩
 ·exact False.elim z
 rw[et]at d6;have ews:ws=es.map AI:=(aS _ _ (vI es)).mp d6;subst ews;have hL:(h++[Ob.ins c []]).length<=L:=aL;have hL':h.length+1<=L:=by simpa using hL
 have lL:L<h2.length:=(List.getElem?_eq_some_iff.mp gL).1
 let V1:Val:=.tup [.tup [.int p,.int q'],.ref L]
 let h3:Hs:=h2.set h.length (.ins c [("net",V1)])
 have OC:h3[h.length]?=some (.ins c [("net",V1)]):=getElem?_set_self (by omega);have Y8:h3[L]?=some (.lst (es.map AI)):=by show (h2.set _ _)[L]?=_;rw[getElem?_set_ne (by omega)];exact gL
 have l3:h3.length=h2.length:=length_set;have Y9:Dn (Fr (h.length+1)) h3 (.tup [.tup [.int p,.int q'],.rl ts]) V1:=by rw[Dn];refine⟨_,rfl,au.cons ((je _ _ (show j3 (.tup [.int p,.int q'])=true from rfl)).mpr rfl) (au.cons ?_ au.nil)⟩;rw[Dn];exact .inr ⟨L,_,rfl,hL',Y8,by rw[et];exact(aS _ _ (vI es)).mpr rfl⟩
 have R2:=hΦ jp (Fr (h.length+1)) h3 [.tup [.tup [.int p,.int q'],.rl ts]] [V1] (λk hk=>by show h.length+1<=k;omega) (au.cons Y9 au.nil);rw[e3] at R2;obtain⟨v2,h4,f2,Ry,_,dG⟩:=R2;have d2:=dG rfl;clear dG;have Qi:h4[h.length]?=some (.ins c [("net",V1)]):=cF Ry OC;have l4:h3.length<=h4.length:=Ry.length_le
 let h5:Hs:=h4.set h.length (.ins c [("net",V1),("places",v2)])
 have Za:h5[h.length]?=some (.ins c [("net",V1),("places",v2)]):=getElem?_set_self (by omega);have l5:h5.length=h4.length:=length_set
 let h6:Hs:=h5++[Ob.dct [(.inl (-1),.tup [.int p,.int q'])]]
 have hD6:h6[h.length]?=some (.ins c [("net",V1),("places",v2)]):=cF (prefix_append _ _) Za;have l6:h6.length=h5.length+1:=by show (h5++[_]).length=_;simp
 let FS:List (Str×Val):=[("net",V1),("places",v2),("ends",.ref h5.length)]
 let h7:Hs:=h6.set h.length (.ins c FS)
 have U8:h7[h.length]?=some (.ins c FS):=getElem?_set_self (by omega);have l7:h7.length=h6.length:=length_set;have hE7:h7[h5.length]?=some (.dct [(.inl (-1),.tup [.int p,.int q'])]):=by show (h6.set _ _)[h5.length]?=_;rw[getElem?_set_ne (by omega)];show (h5++[_])[h5.length]?=_;simp
 have hk7:∀k,k≠h.length->k<h4.length->h7[k]?=h4[k]?:=λk n1 n2=>by
  show (h6.set _ _)[k]?=_;rw[getElem?_set_ne λz=>n1 z.symm];show (h5++[_])[k]?=_;rw[getElem?_append_left (by omega)];show (h4.set _ _)[k]?=_;rw[getElem?_set_ne λz=>n1 z.symm]
 have gL4:h4[L]?=some (.lst (es.map AI)):=cF Ry Y8;have Zb:h7[L]?=some (.lst (es.map AI)):=by rw[hk7 L (by omega) (by omega)];exact gL4
 let env:Env:=[some (.ref h.length),some v,none,none,none]
 have k1:("ends":Str) ≠ "net":=by decide
 obtain⟨env',h8,lp,l8,k8,d8⟩:=uB (Φ:=Φ) (fs:=FS) (ts:=es) hc (by rfl) hz (by omega) (by omega) es.length 0 [(.inl (-1),.tup [.int p,.int q'])] env h7 h7 (by omega) (by simp) rfl (by decide:4<5) U8 Zb rfl (λ_ _=>rfl) hE7;have fldN:∀(g:Hs) (fs:List (Str×Val)),g[h.length]?=some (.ins c (("net",V1)::fs))->aJ Φ (.fld n (.var 0) "net") env g=.ok V1 g:=λg fs hg=>by
  rw[aJ,aq (bV rfl)];refine rO (f:=λh'=>jb n h' (.ref h.length) "net") ?_;unfold jb;dsimp only;rw[hg];dsimp only;rw[if_pos hc];rfl
 have s1:gK Φ (.setF n (.var 0) "net" (.call jo (.cons (.var 1) .nil))) env (h++[Ob.ins c []])=.ok (.nx env) h3:=by
  have e:aJ Φ (.call jo (.cons (.var 1) .nil)) env (h++[Ob.ins c []])=.ok V1 h2:=by
   rw[aJ,aq (a:=[v]) (h1:=h++[Ob.ins c []])]
   ·exact f1
   ·rw[bz,aq (bV rfl),bz];rfl
  rw[gK,aq e,aq (bV rfl)];exact qg hc MK (by decide)
 have s2:gK Φ (.setF n (.var 0) "places" (.call jp (.cons (.fld n (.var 0) "net") .nil))) env h3=.ok (.nx env) h5:=by
  have e:aJ Φ (.call jp (.cons (.fld n (.var 0) "net") .nil)) env h3=.ok v2 h4:=by
   rw[aJ,aq (a:=[V1]) (h1:=h3)]
   ·exact f2
   ·rw[bz,aq (fldN h3 [] OC),bz];rfl
  rw[gK,aq e,aq (bV rfl)];exact qg hc Qi (by decide:1<1000)
 have s3:gK Φ (.setF n (.var 0) "ends" (.dct1 (.con "THOUGHT" (.int (-1))) (.idx (.fld n (.var 0) "net") (.cst (.int 0))))) env h5=.ok (.nx env) h7:=by
  have e0:aJ Φ (.idx (.fld n (.var 0) "net") (.cst (.int 0))) env h5=.ok (.tup [.int p,.int q']) h5:=by rw[aJ,aq (fldN h5 _ Za),aq (a:=.int 0) (h1:=h5) (by rw[aJ];rfl)];rfl
  have e:aJ Φ (.dct1 (.con "THOUGHT" (.int (-1))) (.idx (.fld n (.var 0) "net") (.cst (.int 0)))) env h5=.ok (.ref h5.length) h6:=by rw[aJ,aq (a:=.int (-1)) (h1:=h5) (by rw[aJ];rfl),qf (o:=keyOf (.int (-1))) (a:=.inl (-1)) rfl,aq e0];rfl
  rw[gK,aq e,aq (bV rfl)];exact qg hc hD6 (by decide:2<1000)
 have s4:gK Φ (.for (.tup [2,3,4]) .seq (.cons (.idx (.fld n (.var 0) "net") (.cst (.int 1))) .nil) (.cons (.fX (.fld n (.var 0) "ends") (.var 2) (.tup (.cons (.var 3) (.cons (.var 4) .nil)))) .nil)) env h7=.ok (.nx env') h8:=by
  have e0:aJ Φ (.idx (.fld n (.var 0) "net") (.cst (.int 1))) env h7=.ok (.ref L) h7:=by rw[aJ,aq (fldN h7 _ U8),aq (a:=.int 1) (h1:=h7) (by rw[aJ];rfl)];rfl
  rw[gK,aq (a:=[.ref L]) (h1:=h7)]
  ·rw[qf (o:=srcOf .seq [.ref L]) (a:=.live L) rfl,jV (a:=es.map AI) (eL Zb),length_map];exact lp
  ·rw[bz,aq e0,bz];rfl
 have run:gR Φ 5 (rP n jo jp) [.ref h.length,v] (h++[Ob.ins c []])=.ok .non h8:=by
  unfold gR;rw[aq (a:=Fl.nx env') (h1:=h8)]
  ·rfl
  ·show fu Φ (rP n jo jp) env _=_;rw[fu,aq s1];dsimp only;rw[fu,aq s2];dsimp only;rw[fu,aq s3];dsimp only;rw[fu,aq s4];dsimp only;rw[fu];rfl
 have U9:∀k,k≠h.length->k<h4.length->h8[k]?=h4[k]?:=λk n1 n2=>(k8 k (by omega)).trans (hk7 k n1 n2);have hpre:h<+:h8:=by
  refine List.prefix_iff_getElem?.mpr λi hi=>?_;have hi4:i<h4.length:=by omega
  rw[U9 i (by omega) hi4];have:(h2.set h.length (.ins c [("net",V1)]))[i]?=h2[i]?:=getElem?_set_ne (by omega);have e3':h4[i]?=h3[i]?:=jx Ry (by omega);rw[e3',this,jx U7 (by simp;omega),getElem?_append_left hi,List.getElem?_eq_getElem hi]
 refine⟨h8,V1,v2,.ref h5.length,run,hpre,by rw[k8 _ (by omega)];exact U8,λB hB=>au.cons ?_ (au.cons ?_ (au.cons ?_ au.nil))⟩
 ·refine Dn.mono (A:=Fr (h.length+1)) (h:=h3) (λo z=>?_) (λk o a g=>?_) _ _ Y9
  ·cases o with
   |none=>exact False.elim z
   |some k=>exact hB k z
  ·have a:h.length+1<=k:=a;have:=(List.getElem?_eq_some_iff.mp g).1;rw[U9 k (by omega) (by omega)];exact cF Ry g
 ·refine Dn.mono (A:=Fr h3.length) (h:=h4) (λo z=>?_) (λk o a g=>?_) _ _ d2
  ·cases o with
   |none=>exact False.elim z
   |some k=>exact hB k (by have:h3.length<=k:=z;omega)
  ·have a:h3.length<=k:=a;have:=(List.getElem?_eq_some_iff.mp g).1;rw[U9 k (by omega) (by omega)];exact g
 ·rw[Dn]
  refine⟨h5.length,bU p q' es,rfl,hB _ (by omega),?_,rfl,?_⟩
  ·rw[List.drop_zero]at d8;exact d8
  ·refine(aS _ _ (xQ λw hw=>?_)).mpr rfl;obtain⟨kv,hkv,rfl⟩:=mem_map.mp hw;exact xP es _ (λkv hk=>by rw[mem_singleton.mp hk];rfl) kv hkv
theorem xS{n c jo jp:Nat}(hc:c<n)(hΦ:∀j,Imp (Φ j) (Ψ j)):Imp (DM c (gR Φ 5 (rP n jo jp))) (kR Ψ c jo jp):=λA h ds vs u q=>by
 unfold kR
 split
 ·rename_i net
  obtain⟨v,rfl,qn⟩:=au.one q
  split
  ·rename_i p q' ts e1
   cases e2:cj Gn ts with
   |none=>trivial
   |some es=>
    show Rel A h (RV A h) _ (pg (decide (es.length<1000)) _)
    by_cases hz:es.length<1000
    ·unfold pg
     rw[if_pos (decide_eq_true hz)]
     split
     ·rename_i y e3
      obtain⟨h8,V1,v2,vE,r1,p8,g8,d8⟩:=xR (Ψ:=Ψ) hc hΦ u qn e1 e2 hz e3;have run:DM c (gR Φ 5 (rP n jo jp)) [v] h=.ok (.ref h.length) h8:=by show bnd (gR Φ 5 (rP n jo jp) [.ref h.length,v]) _ (h++[Ob.ins c []])=_;rw[aq r1];rfl
      have dn:∀B:AP,(∀k,h.length<=k->B (some k))->Dn B h8 (.ob c ["net","places","ends"] [.tup [.tup [.int p,.int q'],.rl ts],y,.dc ((bU p q' es).map (·.1)) ((bU p q' es).map (·.2))]) (.ref h.length):=λB hB=>by
       rw[Dn];exact⟨h.length,_,rfl,hB _ (Nat.le_refl _),g8,rfl,d8 B λk hk=>hB k (by omega)⟩
      exact⟨_,h8,run,p8,dn A λk hk=>u k hk,λ_=>dn _ λk hk=>hk⟩
     ·trivial
    ·unfold pg;rw[if_neg (by simpa using hz)];trivial
  ·trivial
 ·trivial
noncomputable def uC(Ψ' Ψ:Nat->List Val->Pr FV)(c jo jp jt jr:Nat)(ds:List Val):Pr FV:=match kR Ψ' c jo jp ds with
 | .ok (_,.ob c' ns vs)=>(match Ψ jt [.ob c' ns vs] with
  | .ok (_,t)=>(match Ψ jr [.ob c' ns vs,t] with
   |.ok (_,.int m)=>.ok (true,.ob c' (ns++[("whole":Str)]) (vs++[.int m]))
   |_=>.no)
  |_=>.no)
 |_=>.no
noncomputable abbrev AJ(n ji:Nat)(jst jsr:List (Nat×Nat)):eE:=.cons (.expr (.call ji (.cons (.var 0) (.cons (.var 1) .nil)))) (.cons (.setF n (.var 0) "whole" (.mth (.var 0) "tree_rank" jsr (.cons (.mth (.var 0) "ties" jst .nil) .nil))) .nil)
theorem ED{c jo jp:Nat}(e:kR Ψ c jo jp ds=.ok fw):∃net p q ts es y,ds=[net] /\ Ψ jo [net]=.ok (true,.tup [.tup [.int p,.int q],.rl ts])/\cj Gn ts=some es/\es.length<1000 /\ Ψ jp [.tup [.tup [.int p,.int q],.rl ts]]=.ok (true,y) /\
  fw=(true,.ob c ["net","places","ends"] [.tup [.tup [.int p,.int q],.rl ts],y,.dc ((bU p q es).map (·.1)) ((bU p q es).map (·.2))]):=by
 unfold kR at e;split at e
 ·rename_i net
  split at e
  ·rename_i p q ts e1
   cases e2:cj Gn ts with
   |none=>rw[e2]at e;cases e
   |some es=>
    rw[e2]at e;change pg (decide (es.length<1000)) _=_ at e;unfold pg at e
    by_cases hz:es.length<1000
    ·rw[if_pos (decide_eq_true hz)]at e
     split at e
     ·rename_i y e3;cases e;exact⟨net,p,q,ts,es,y,rfl,e1,e2,hz,e3,rfl⟩
     ·cases e
    ·rw[if_neg (by simpa using hz)]at e;cases e
  ·cases e
 ·cases e
theorem EE{c c' jo jp jt jr:Nat}{f f1 f2:Bool}{m:Int}(e0:kR Ψ' c jo jp ds=.ok (f,.ob c' ns vs))(e1:Ψ jt [.ob c' ns vs]=.ok (f1,t))(e2:Ψ jr [.ob c' ns vs,t]=.ok (f2,.int m)):uC Ψ' Ψ c jo jp jt jr ds=.ok (true,.ob c' (ns++[("whole":Str)]) (vs++[.int m])):=by
 unfold uC;rw[e0];dsimp only;rw[e1];dsimp only;rw[e2]
theorem EF:Imp φ (λ_=>.no):=λ_ _ _ _ _ _=>trivial
theorem EG{n c ji jo jp jt jr:Nat}(hc:c<n)(hΦ':∀j,Imp (Φ' j) (Ψ' j))(hΦ:∀j,Imp (Φ j) (Ψ j))(hji:Φ ji=gR Φ' 5 (rP n jo jp))(ht:jst.lookup c=some jt)(hr:jsr.lookup c=some jr) :
  Imp (DM c (gR Φ 2 (AJ n ji jst jsr))) (uC Ψ' Ψ c jo jp jt jr):=λA h ds vs u q=>by
 unfold uC;cases e0:kR Ψ' c jo jp ds with
 |no=>trivial
 |exc _ _=>trivial
 |ok fw=>
  obtain⟨net,p,q',ts,es,y,rfl,e1,e2,hz,e3,rfl⟩:=ED e0;dsimp only;obtain⟨v,rfl,qn⟩:=au.one q;obtain⟨h8,V1,v2,vE,r1,p8,g8,d8⟩:=xR (Φ:=Φ') (Ψ:=Ψ') hc hΦ' u qn e1 e2 hz e3;have l8:=p8.length_le;have b8:h.length<h8.length:=(List.getElem?_eq_some_iff.mp g8).1;have dO:∀h',h8<+:h'->Dn (Fr h.length) h' (.ob c ["net","places","ends"] [.tup [.tup [.int p,.int q'],.rl ts],y,.dc ((bU p q' es).map (·.1)) ((bU p q' es).map (·.2))]) (.ref h.length):=λh' p'=>by
   rw[Dn];exact⟨h.length,_,rfl,Nat.le_refl _,cF p' g8,rfl,au.mono (λ_ a=>a) (λ_ _ _ g=>cF p' g) _ _ (d8 (Fr h.length) λk hk=>show h.length<=k by omega)⟩
  have R1:=hΦ jt (Fr h.length) h8 _ _ (λk hk=>show h.length<=k by omega) (au.cons (dO h8 (prefix_refl _)) au.nil);generalize hob:Val.ob c ["net","places","ends"] [.tup [.tup [.int p,.int q'],.rl ts],y,.dc ((bU p q' es).map (·.1)) ((bU p q' es).map (·.2))]=ob at R1 dO;cases e4:Ψ jt [ob] with
  |no=>trivial
  |exc _ _=>trivial
  |ok ft=>
   obtain⟨f1,t⟩:=ft;dsimp only;rw[e4] at R1;obtain⟨vt,h9,x1,p9,d9,_⟩:=R1;have l9:=p9.length_le;have R2:=hΦ jr (Fr h.length) h9 _ _ (λk hk=>show h.length<=k by omega) (au.cons (dO h9 p9) (au.cons d9 au.nil));cases e5:Ψ jr [ob,t] with
   |no=>trivial
   |exc _ _=>trivial
   |ok fm=>
    obtain⟨f2,m⟩:=fm;rw[e5] at R2;obtain⟨vm,MM,x2,S7,OF,dz⟩:=R2;clear dz;cases m<;>first|trivial|skip
    rename_i m;have OF:Dn (Fr h.length) MM (.int m) vm:=OF;rw[Dn] at OF;subst OF;subst hob;dsimp only;have g10:=cF (p9.trans S7) g8;have g9:=cF p9 g8;have l10:=S7.length_le
    let h11:Hs:=MM.set h.length (.ins c [("net",V1),("places",v2),("ends",vE),("whole",.int m)])
    let env:Env:=[some (.ref h.length),some v]
    have mt:∀(g:Hs) (x:Str) (js:List (Nat×Nat)) (jj:Nat),g[h.length]?=some (.ins c [("net",V1),("places",v2),("ends",vE)])->("net":Str)≠x->("places":Str)≠x->("ends":Str)≠x->js.lookup c=some jj->lJ g (.ref h.length) x js=some jj:=λg x js jj hg n1 n2 n3 hj=>by
     unfold lJ;dsimp only;rw[hg];dsimp only;rw[if_pos]
     ·exact hj
     ·rw[lookup_cons,lookup_cons,lookup_cons,List.lookup_nil];rw[beq_eq_false_iff_ne.mpr n1.symm,beq_eq_false_iff_ne.mpr n2.symm,beq_eq_false_iff_ne.mpr n3.symm];rfl
    have s1:gK Φ (.expr (.call ji (.cons (.var 0) (.cons (.var 1) .nil)))) env (h++[Ob.ins c []])=.ok (.nx env) h8:=by
     rw[gK,aq (a:=.non) (h1:=h8)]
     ·rfl
     ·rw[aJ,aq (a:=[.ref h.length,v]) (h1:=h++[Ob.ins c []])]
      ·rw[hji];exact r1
      ·rw[bz,aq (bV rfl),bz];rw[show bnd (bnd (aJ Φ (.var 1) env) λd=>bnd (bz Φ .nil env) λds=>ret (d::ds)) (λds=>ret (Val.ref h.length::ds)) (h++[Ob.ins c []])=_ from aq (a:=[v]) (h1:=h++[Ob.ins c []]) (by rw[aq (bV rfl),bz];rfl)];rfl
    have eT:aJ Φ (.mth (.var 0) "ties" jst .nil) env h8=.ok vt h9:=by rw[aJ,aq (bV rfl),jV (a:=jt) (mt h8 _ _ _ g8 (by decide) (by decide) (by decide) ht),bz];exact x1
    have s2:gK Φ (.setF n (.var 0) "whole" (.mth (.var 0) "tree_rank" jsr (.cons (.mth (.var 0) "ties" jst .nil) .nil))) env h8=.ok (.nx env) h11:=by
     have e:aJ Φ (.mth (.var 0) "tree_rank" jsr (.cons (.mth (.var 0) "ties" jst .nil) .nil)) env h8=.ok (.int m) MM:=by
      rw[aJ,aq (bV rfl),jV (a:=jr) (mt h8 _ _ _ g8 (by decide) (by decide) (by decide) hr),bz];rw[aq (a:=[vt]) (h1:=h9)]
      ·exact x2
      ·rw[aq eT,bz];rfl
     rw[gK,aq e,aq (bV rfl)];exact qg hc g10 (by decide:3<1000)
    have run:DM c (gR Φ 2 (AJ n ji jst jsr)) [v] h=.ok (.ref h.length) h11:=by
     show bnd (gR Φ 2 (AJ n ji jst jsr) [.ref h.length,v]) _ (h++[Ob.ins c []])=_;rw[aq (a:=.non) (h1:=h11)]
     ·rfl
     ·unfold gR
      rw[aq (a:=Fl.nx env) (h1:=h11)]
      ·rfl
      ·show fu Φ (AJ n ji jst jsr) env _=_;rw[fu,aq s1];dsimp only;rw[fu,aq s2];dsimp only;rw[fu];rfl
    have hpre:h<+:h11:=by refine List.prefix_iff_getElem?.mpr λi hi=>?_;show (MM.set _ _)[i]?=_;rw[getElem?_set_ne (by omega)];exact List.prefix_iff_getElem?.mp ((p8.trans p9).trans S7) i hi
    have g11:h11[h.length]?=some (.ins c [("net",V1),("places",v2),("ends",vE),("whole",.int m)]):=getElem?_set_self (by omega);have dn:∀B:AP,(∀k,h.length<=k->B (some k))->Dn B h11 (.ob c ((["net","places","ends"]:List Str)++[("whole":Str)]) ([.tup [.tup [.int p,.int q'],.rl ts],y,.dc ((bU p q' es).map (·.1)) ((bU p q' es).map (·.2))]++[.int m])) (.ref h.length):=λB hB=>by
     rw[Dn];refine⟨h.length,_,rfl,hB _ (Nat.le_refl _),g11,rfl,?_⟩;have dd:=au.mono (A':=B) (h':=h11) (λo z=>?_) (λk o a g=>?_) _ _ (d8 (Fr (h.length+1)) λk hk=>hk)
     ·exact au.app dd (au.cons ((je _ _ rfl).mpr rfl) au.nil)
     ·cases o with
      |none=>exact False.elim z
      |some k=>exact hB k (by have:h.length+1<=k:=z;omega)
     ·have a:h.length+1<=k:=a;show (MM.set _ _)[k]?=_;rw[getElem?_set_ne (by omega)];exact cF (p9.trans S7) g
    exact⟨_,h11,run,hpre,dn A λk hk=>u k hk,λ_=>dn _ λk hk=>hk⟩
end
end Hv
end
section
namespace Hv
open PySem L2
noncomputable def cnt(φ:Int->Int)(ps:List Int):Nat:=(ff [] (ps.map φ)).length
theorem gn{ps:List Int}{v:Int}:v∈ff [] (ps.map φ)↔∃x∈ps,φ x=v:=by
 rw[rL];simp
theorem EH{ps:List Int}(h:∀x∈ps,∀y∈ps,g x=g y->f x=f y):cnt f ps<=cnt g ps:=by
 classical
 let r:Int->Int:=λv=>if hv:∃x∈ps,f x=v then g (Classical.choose hv) else 0
 have hr:∀v∈ff [] (ps.map f),∃x∈ps,f x=v/\r v=g x:=λv hv=>by
  have e:=gn.mp hv;refine⟨Classical.choose e,(choose_spec e).1,(choose_spec e).2,?_⟩;show (if hv:∃x∈ps,f x=v then g (Classical.choose hv) else 0)=_;rw[dif_pos e]
 have nd:((ff [] (ps.map f)).map r).Nodup:=by
  have n0:=f7 (ps.map f) [] nodup_nil;revert hr n0;generalize ff [] (ps.map f)=l;intro hr n0
  induction l with
  |nil=>exact nodup_nil
  |cons v l ih=>rw[nodup_cons]at n0;rw[map_cons,nodup_cons];refine⟨λhm=>?_,ih (λw hw=>hr w (mem_cons_of_mem _ hw)) n0.2⟩;obtain⟨w,hw,e⟩:=mem_map.mp hm;obtain⟨x,hx,e1,e2⟩:=hr v (mem_cons_self ..);obtain⟨y,hy,e3,e4⟩:=hr w (mem_cons_of_mem _ hw);have:f x=f y:=h x hx y hy (by rw[<-e2,<-e4,e]);exact n0.1 (by rw[<-e1,this,e3];exact hw)
 have:=dH nd (m:=ff [] (ps.map g)) λz hz=>by
  obtain⟨v,hv,rfl⟩:=mem_map.mp hz;obtain⟨x,hx,_,e2⟩:=hr v hv;rw[e2];exact gn.mpr ⟨x,hx,rfl⟩
 rw[length_map]at this;exact this
theorem NO{ps:List Int}(h:∀x∈ps,∀y∈ps,f x=f y↔g x=g y):cnt f ps=cnt g ps :=
 Nat.le_antisymm (EH λx hx y hy=>(h x hx y hy).mpr) (EH λx hx y hy=>(h x hx y hy).mp)
theorem cnt_join{ps:List Int}{a b:Int}(ha:a∈ps)(hb:b∈ps)(ne:ψ a ≠ ψ b):cnt (λx=>if ψ x = ψ b then ψ a else ψ x) ps+1=cnt ψ ps:=by
 have m1:ψ b∈ff [] (ps.map ψ):=gn.mpr ⟨b,hb,rfl⟩;have n1:=f7 (ps.map ψ) [] nodup_nil;have n2:=f7 (ps.map λx=>if ψ x = ψ b then ψ a else ψ x) [] nodup_nil;have le1:=dH n2 (m:=(ff [] (ps.map ψ)).erase (ψ b)) λv hv=>by
  obtain⟨x,hx,e⟩:=gn.mp hv;rw[List.Nodup.mem_erase_iff n1]
  by_cases c:ψ x = ψ b
  ·rw[if_pos c]at e;subst e;exact⟨ne,gn.mpr ⟨a,ha,rfl⟩⟩
  ·rw[if_neg c]at e;subst e;exact⟨c,gn.mpr ⟨x,hx,rfl⟩⟩
 have le2:=dH (n1.erase (ψ b)) (m:=ff [] (ps.map λx=>if ψ x = ψ b then ψ a else ψ x)) λv hv=>by
  rw[List.Nodup.mem_erase_iff n1]at hv;obtain⟨x,hx,e⟩:=gn.mp hv.2;subst e;exact gn.mpr ⟨x,hx,by rw[if_neg hv.1]⟩
 rw[List.length_erase_of_mem m1]at le1 le2;have:=List.length_pos_of_mem m1;unfold cnt;omega
end Hv
end
section
namespace Hv
open PySem L2
theorem ko.fix{ps:List Int}(h:ko ps es φ){x:Int}(hx:x∈ps):φ (φ x) = φ x:=((h.way x hx).const φ h.same).symm
noncomputable def rk(φ:Int->Int)(ps:List Int):Nat:=(ps.filter λx=>!decide (φ x=x)).length
theorem AK(t:Int->Bool):∀ps:List Int,(ps.filter t).length+(ps.filter λx=>!t x).length=ps.length
 |[]=>rfl
 | x::r=>by
  have ih:=AK t r;cases h:t x with
  |true=>rw[List.filter_cons_of_pos h,List.filter_cons_of_neg (by simp[h]),length_cons,length_cons];omega
  |false=>rw[List.filter_cons_of_neg (by simp[h]),List.filter_cons_of_pos (by simp[h]),length_cons,length_cons];omega
theorem rQ{ps:List Int}(h:ko ps es φ)(hn:ps.Nodup):rk φ ps+cnt φ ps=ps.length:=by
 have e:cnt φ ps=(ps.filter λx=>decide (φ x=x)).length:=by
  unfold cnt;refine Nat.le_antisymm (dH (f7 _ [] nodup_nil) λv hv=>?_) (dH (hn.filter _) λv hv=>?_)
  ·obtain⟨x,hx,rfl⟩:=gn.mp hv;exact mem_filter.mpr ⟨h.sO x hx,decide_eq_true (h.fix hx)⟩
  ·obtain⟨a,b⟩:=mem_filter.mp hv;exact gn.mpr ⟨v,a,of_decide_eq_true b⟩
 rw[e];have:=AK (λx=>decide (φ x=x)) ps;unfold rk;omega
theorem NP{ps:List Int}(hn:ps.Nodup):cnt id ps=ps.length:=by
 have h:=rQ (ko.start ps) hn;have:rk id ps=0:=by unfold rk;rw[List.filter_eq_nil_iff.mpr λx _=>by simp];rfl
 omega
theorem J8{ps:List Int}{n:Nat}(h1:ko ps es φ)(h2:ko ps es ψ)(hn:ps.Nodup)(e:n+cnt ψ ps=ps.length):n=rk φ ps:=by
 have c:cnt φ ps=cnt ψ ps:=NO λx hx y hy=>by rw[h1.iff hx hy,h2.iff hx hy]
 have:=rQ h1 hn;omega
theorem ko.uD{ps:List Int}(h:ko ps es f){a b:Int}(ha:a∈ps)(hb:b∈ps)(e:f a=f b):ko ps (es++[(a,b)]) f:=by
 have:=h.step ha hb (f a) (f b) (.inl ⟨rfl,rfl⟩);have ef:(λx=>if f x=f b then f a else f x)=f:=funext λx=>by
  split
  ·rename_i c;rw[c,e]
  ·rfl
 rwa [ef]at this
theorem NQ{xs:List Int}{x:Int}:ze [] (lX xs g) (.inl x)=some (if x∈xs then some (g x) else none):=by
 unfold ze lX;dsimp only;rw[vF]
 congr 1
 unfold bZ
 induction xs with
 |nil=>simp
 |cons y r ih=>
  rw[map_cons,find?_cons]
  by_cases e:y=x
  ·subst e;simp
  ·have:((Sum.inl y:Key)=Sum.inl x)=False:=by simp[e]
   have e':¬ x=y:=λh=>e h.symm;simp only[this,decide_false];rw[ih];simp[e']
theorem AL{ks:List Int}{ψ:Int->Int}{a:Int}:putD (ks.map Sum.inl) (ks.map λx=>Val.int (ψ x)) (.inl a) (.int (ψ a))=lX (fq ks a) λx=>.int (ψ x):=by
 have eu:∀y,oJ (λx=>Val.int (ψ x)) a (.int (ψ a)) y=.int (ψ y):=λy=>by
  unfold oJ
  split
  ·rename_i e;rw[e]
  ·rfl
 unfold fq
 by_cases h:a∈ks
 ·rw[vG h,if_pos h];exact cN λy _=>eu y
 ·rw[vH h,if_neg h];exact cN λy _=>eu y
theorem jA{ks:List Int}{a x:Int}:x∈fq ks a↔x∈ks\/x=a:=by
 unfold fq
 split
 ·rename_i h;exact⟨.inl,λk=>k.elim id λe=>e▸h⟩
 ·simp
theorem AM{ks:List Int}{a:Int}(h:ks.Nodup):(fq ks a).Nodup:=by
 unfold fq
 split
 ·exact h
 ·rename_i n;rw[nodup_append];exact⟨h,by simp,λx hx y hy e=>n (by rw[mem_singleton]at hy;rw[<-hy,<-e];exact hx)⟩
theorem kT(ks:List Int)(a:Int):(fq ks a).length<=ks.length+1:=by
 unfold fq
 split
 ·omega
 ·simp
theorem rR:∀ks:List Int,qO (ks.map Sum.inl)=some ks
 |[]=>rfl
 | x::r=>by
  have ih:=rR r;unfold qO at ih |-;rw[map_cons,cj,ih];rfl
theorem xT{ks:List Int}(h:ks.length<64):kE [] (lX ks g)=some (PySem.W.sortI ks):=by
 unfold kE;show (qO (ks.map Sum.inl)).bind _=_;rw[rR];show (if ks.length<64 then some (PySem.W.sortI ks) else none)=_;rw[if_pos h]
structure Cg (ps ks:List Int) (es:List (Int×Int)) (ψ:Int->Int) (n:Nat):Prop where
 Ji:ko ps es ψ
 nd:ks.Nodup
 off:∀x,x∉ks -> ψ x=x
 sO:∀x∈ks,ψ x∈ks
 num:n+cnt ψ ps=ps.length
 len:ks.length<=2*es.length
theorem Cg.start{ps:List Int}(hn:ps.Nodup):Cg ps [] [] id 0:=⟨ko.start ps,nodup_nil,λ_ _=>rfl,λx h=>by simp at h,by rw[NP hn];omega,Nat.le_refl _⟩
theorem Cg.stay{ps ks:List Int}{n:Nat}(m:Cg ps ks es ψ n){a b:Int}(ha:a∈ps)(hb:b∈ps)(e:ψ a = ψ b):Cg ps ks (es++[(a,b)]) ψ n :=
 ⟨m.Ji.uD ha hb e,m.nd,m.off,m.sO,m.num,by have:=m.len;simp;omega⟩
theorem Cg.join{ps ks:List Int}{n:Nat}(m:Cg ps ks es ψ n){a b:Int}(ha:a∈ps)(hb:b∈ps)(ne:ψ a ≠ ψ b):Cg ps (fq (fq ks a) b) (es++[(a,b)]) (λx=>if ψ x = ψ b then ψ a else ψ x) (n+1):=by
 have key:∀x,x∈ks\/x=a\/x=b -> ψ x∈fq (fq ks a) b:=λx hx=>by
  rw[jA,jA]
  by_cases h:x∈ks
  ·exact .inl (.inl (m.sO x h))
  ·rw[m.off x h]
   rcases hx with hx|hx|hx
   ·exact absurd hx h
   ·exact .inl (.inr hx)
   ·exact .inr hx
 refine⟨m.Ji.step ha hb (ψ a) (ψ b) (.inl ⟨rfl,rfl⟩),AM (AM m.nd),λx hx=>?_,λx hx=>?_,?_,?_⟩
 ·have hx':x∉ks:=λh=>hx (jA.mpr (.inl (jA.mpr (.inl h))));rw[m.off x hx'];rw[if_neg];intro e;exact hx (by rw[e];exact key b (.inr (.inr rfl)))
 ·split
  ·exact key a (.inr (.inl rfl))
  ·refine key x ?_
   rcases jA.mp hx with h|h
   ·rcases jA.mp h with h|h
    ·exact .inl h
    ·exact .inr (.inl h)
   ·exact .inr (.inr h)
 ·have:=cnt_join ha hb ne;have:=m.num;omega
 ·have h1:=kT (fq ks a) b;have h2:=kT ks a;have:=m.len;simp;omega
end Hv
end
section
namespace Hv
open PySem L2
noncomputable def OG(ps:List Int)(es:List (Int×Int)):Prop:=∀e∈es,e.1∈ps/\e.2∈ps
theorem EI{ps:List Int}:∀(es pre:List (Int×Int)) (φ:Int->Int),ko ps pre φ -> OG ps es->∃ψ,ko ps (pre++es) ψ
 |[],pre,φ,h,_=>⟨φ,by rw[append_nil];exact h⟩
 | e::r,pre,φ,h,hi=>by
  obtain⟨h1,h2⟩:=hi e mem_cons_self;have st:=h.step h1 h2 (φ e.1) (φ e.2) (.inl ⟨rfl,rfl⟩);obtain⟨ψ,k⟩:=EI r (pre++[(e.1,e.2)]) _ st λx hx=>hi x (mem_cons_of_mem _ hx);exact⟨ψ,by rw[List.append_assoc]at k;exact k⟩
theorem EJ{ps:List Int}(hi:OG ps es):∃ψ,ko ps es ψ:=by
 obtain⟨ψ,h⟩:=EI es [] id (ko.start ps) hi;exact⟨ψ,h⟩
theorem ko.NR{ps:List Int}(h:ko ps es φ)(hm:∀e,e∈es↔e∈es'):ko ps es' φ :=
 ⟨h.sO,λx hx=>(h.way x hx).mono λe he=>(hm e).mp he,λe he=>h.same e ((hm e).mpr he)⟩
open Classical in
noncomputable def tr(ps:List Int)(es:List (Int×Int)):Nat:=if h:∃φ,ko ps es φ then rk (Classical.choose h) ps else 0
theorem nq{ps:List Int}(h:ko ps es φ)(hn:ps.Nodup):tr ps es=rk φ ps:=by
 unfold tr;have h':∃φ,ko ps es φ:=⟨φ,h⟩;rw[dif_pos h'];have h2:=choose_spec h';exact J8 h h2 hn (rQ h2 hn)
theorem NS{ps:List Int}{n:Nat}(h:ko ps es ψ)(hn:ps.Nodup)(e:n+cnt ψ ps=ps.length):n=tr ps es:=by
 rw[nq h hn];exact J8 h h hn e
theorem xU{ps:List Int}(hn:ps.Nodup)(hi:OG ps es)(hm:∀e,e∈es↔e∈es'):tr ps es=tr ps es':=by
 obtain⟨φ,h⟩:=EJ hi;rw[nq h hn,nq (h.NR hm) hn]
open Classical in
theorem Jj{ps:List Int}{a b:Int}(hn:ps.Nodup)(hi:OG ps es)(ha:a∈ps)(hb:b∈ps)(hm:∀e,e∈es'↔e∈es\/e=(a,b)):tr ps es'=tr ps es+if Way es a b then 0 else 1:=by
 obtain⟨φ,h⟩:=EJ hi;have hi':OG ps (es++[(a,b)]):=λe he=>by
  rcases mem_append.mp he with he|he
  ·exact hi e he
  ·rw[mem_singleton.mp he];exact⟨ha,hb⟩
 rw[<-xU (es:=es++[(a,b)]) hn hi' (λe=>by rw[hm e];simp)]
 by_cases c:φ a = φ b
 ·rw[if_pos ((h.iff ha hb).mp c),nq (h.uD ha hb c) hn,nq h hn,Nat.add_zero]
 ·rw[if_neg (λw=>c ((h.iff ha hb).mpr w))];have st:=h.step ha hb (φ a) (φ b) (.inl ⟨rfl,rfl⟩);have e1:=rQ st hn;have e2:=rQ h hn;have e3:=cnt_join ha hb c;rw[nq st hn,nq h hn];omega
end Hv
end
section
namespace K36
open PySem L2 Hv
noncomputable abbrev Jk:List PySem.Str:=["_law_script","_law_k"]
noncomputable abbrev Rz:List PySem.Str:=["_law_one","_law_two","_law_k","_law_step","_law_shift"]
noncomputable abbrev RA:List PySem.Str:=["_law_script","_law_cells","_law_one","_law_two","_law_pick","_law_many","_law_places","_law_ties","_law_k","_law_cell_here","_law_here","_law_there","_law_poles"]
noncomputable abbrev RB:List PySem.Str:=["_law_net_here","_law_ends_here","_law_name","_law_one","_law_other"]
noncomputable abbrev RC:List PySem.Str:=["_law_ends_here","_law_row_here","_law_part","_law_many","_law_name","_law_one","_law_other","_law_place"]
noncomputable abbrev RD:List PySem.Str:=["_law_kind","_law_ends_here","_law_row_here","_law_rest"]
noncomputable abbrev RE:List PySem.Str:=["_law_kind","_law_ends_here","_law_names","_law_found","_law_name"]
noncomputable abbrev RG:List PySem.Str:=["poles","ties","named","name","one","other"]
noncomputable abbrev Ci:List PySem.Str:=["self","net","name","one","other"]
noncomputable abbrev RH:List PySem.Str:=["places","pairs","firsts","place","one","other","kept","gone"]
noncomputable abbrev lY:List PySem.Str:=["self","net"]
noncomputable abbrev AN:List PySem.Str:=["_law_kind","_law_net_here"]
noncomputable abbrev iR:List PySem.Str:=["self","row"]
noncomputable abbrev J9:List PySem.Str:=["rule","ones","others","left","right","many"]
noncomputable abbrev Ka:List PySem.Str:=["_law_cell_here","_law_many","_law_number_here","_law_found","_law_k"]
noncomputable abbrev Kc:List PySem.Str:=["_law_script","_law_most","_law_rest","_law_many","_law_places","_law_one","_law_other","_law_names","_law_cell_here","_law_ties","_law_name","_law_here","_law_there"]
noncomputable abbrev Kd:List PySem.Str:=["_law_names","_law_cell_here","_law_row_here","_law_name"]
noncomputable abbrev Ke:List PySem.Str:=["_law_kind","_law_ends_here","_law_row_here","_law_many"]
noncomputable abbrev AO:List PySem.Str:=["_law_kind","_law_ends_here","_law_row_here"]
noncomputable abbrev Kf:List PySem.Str:=["_law_kind","_law_ends_here","_law_names"]
noncomputable def top(i:Nat):Stmt:=PySem.Challenge.pw_linkorcut_k36_whole_reaching_alike.main.body.getD i (.Pass ⟨0,0,0,0⟩)
noncomputable def cons:List (Str×Val):=[("THOUGHT",(.int (-1)))]
noncomputable def tb:Tb:=⟨3,["net","places","ends","whole"],[(0,"tree_rank",14),(1,"tree_rank",14),(2,"tree_rank",14),(0,"ties",16),(1,"ties",16),(2,"ties",16),(0,"rank",19),(1,"rank",20),(2,"rank",21),(0,"reach",22),(1,"reach",22),(2,"reach",22)],[("Rule","__init__",12)],[]⟩
noncomputable def bP(i:Nat):Stmt:=match top 9 with|.ClassDef (body:=b) ..=>b.getD i (.Pass ⟨0,0,0,0⟩)|_=>.Pass ⟨0,0,0,0⟩
noncomputable def rS(i:Nat):Stmt:=match top 10 with|.ClassDef (body:=b) ..=>b.getD i (.Pass ⟨0,0,0,0⟩)|_=>.Pass ⟨0,0,0,0⟩
noncomputable def iS(i:Nat):Stmt:=match top 11 with|.ClassDef (body:=b) ..=>b.getD i (.Pass ⟨0,0,0,0⟩)|_=>.Pass ⟨0,0,0,0⟩
noncomputable def jB:eE:=(.cons (.iff (.cmp .lt (.var 1) (.blt .len (.cons (.var 0) .nil))) (.cons (.ret (.idx (.var 0) (.var 1))) .nil) .nil) (.cons (.ret (.cst (.int 0))) .nil))
noncomputable def gu:eE:=(.cons (.asg (.one 3) (.cst (.int 1))) (.cons (.asg (.one 4) (.cst (.int 0))) (.cons (.iff (.cmp .gt (.bin .mod (.var 0) (.cst (.int 3))) (.cst (.int 0))) (.cons (.asg (.one 3) (.bin .add (.cst (.int 1)) (.bin .mod (.bin .fdiv (.var 0) (.cst (.int 3))) (.bin .pow (.cst (.int 10)) (.cst (.int 56)))))) (.cons (.asg (.one 4) (.bin .mod (.bin .fdiv (.var 1) (.cst (.int 66))) (.bin .pow (.cst (.int 10)) (.cst (.int 58))))) .nil)) .nil) (.cons (.ret (.bin .add (.bin .mul (.var 3) (.bin .mod (.bin .add (.bin .mul (.bin .add (.cst (.int 1)) (.bin .mod (.var 1) (.cst (.int 66)))) (.var 2)) (.var 0)) (.cst (.int 67)))) (.var 4))) .nil))))
noncomputable def kU:eE:=(.cons (.asg (.one 2) (.call 0 (.cons (.var 0) (.cons (.cst (.int 0)) .nil)))) (.cons (.asg (.one 3) (.call 0 (.cons (.var 0) (.cons (.cst (.int 1)) .nil)))) (.cons (.asg (.one 4) (.call 0 (.cons (.var 0) (.cons (.cst (.int 2)) .nil)))) (.cons (.asg (.one 5) (.bin .add (.cst (.int 2)) (.bin .mod (.var 4) (.cst (.int 7))))) (.cons (.asg (.one 6) (.comp ["_law_k","_law_two","_law_one"] [none,some 3,some 2] (.one 0) .range (.cons (.var 5) .nil) .no (.call 1 (.cons (.var 1) (.cons (.var 2) (.cons (.var 0) .nil)))))) (.cons (.asg (.one 7) (.lst .nil)) (.cons (.for (.tup [8,9]) .enum (.cons (.var 1) .nil) (.cons (.asg (.one 10) (.idx (.var 6) (.bin .mod (.var 9) (.var 5)))) (.cons (.asg (.one 11) (.idx (.var 6) (.bin .mod (.bin .fdiv (.var 9) (.var 5)) (.var 5)))) (.cons (.expr (.met .append (.var 7) (.cons (.tup (.cons (.call 1 (.cons (.var 2) (.cons (.var 3) (.cons (.var 8) .nil)))) (.cons (.blt .min (.cons (.var 10) (.cons (.var 11) .nil))) (.cons (.blt .max (.cons (.var 10) (.cons (.var 11) .nil))) .nil)))) .nil))) .nil)))) (.cons (.asg (.one 12) (.blt .sorted (.cons (.lst (.cons (.idx (.var 6) (.cst (.int 0))) (.cons (.idx (.var 6) (.bin .sub (.cst (.int 1)) (.blt .int (.cons (.cmp .eq (.bin .mod (.bin .fdiv (.var 4) (.cst (.int 7))) (.cst (.int 8))) (.cst (.int 3))) .nil)))) .nil))) .nil))) (.cons (.ret (.tup (.cons (.tup (.cons (.idx (.var 12) (.cst (.int 0))) (.cons (.idx (.var 12) (.cst (.int 1))) .nil))) (.cons (.blt .sorted (.cons (.var 7) .nil)) .nil)))) .nil)))))))))
noncomputable def jC:eE:=(.cons (.asg (.one 1) (.dct1 (.neg (.cst (.int 1))) (.idx (.var 0) (.cst (.int 0))))) (.cons (.for (.tup [2,3,4]) .seq (.cons (.idx (.var 0) (.cst (.int 1))) .nil) (.cons (.fX (.var 1) (.var 2) (.tup (.cons (.var 3) (.cons (.var 4) .nil)))) .nil)) (.cons (.ret (.var 1)) .nil)))
noncomputable def gx:eE:=(.cons (.asg (.one 2) .dct0) (.cons (.asg (.one 3) (.cst (.int 0))) (.cons (.for (.one 4) .seq (.cons (.var 1) .nil) (.cons (.asg (.one 5) (.dget (.var 2) (.idx (.idx (.var 0) (.var 4)) (.cst (.int 0))) (.idx (.idx (.var 0) (.var 4)) (.cst (.int 0))))) (.cons (.asg (.one 6) (.dget (.var 2) (.idx (.idx (.var 0) (.var 4)) (.cst (.int 1))) (.idx (.idx (.var 0) (.var 4)) (.cst (.int 1))))) (.cons (.iff (.cmp .ne (.var 5) (.var 6)) (.cons (.aug 3 .add (.cst (.int 1))) (.cons (.fX (.var 2) (.idx (.idx (.var 0) (.var 4)) (.cst (.int 0))) (.var 5)) (.cons (.fX (.var 2) (.idx (.idx (.var 0) (.var 4)) (.cst (.int 1))) (.var 6)) (.cons (.for (.one 7) .seq (.cons (.lkeys (.var 2)) .nil) (.cons (.iff (.cmp .eq (.idx (.var 2) (.var 7)) (.var 6)) (.cons (.fX (.var 2) (.var 7) (.var 5)) .nil) .nil) .nil)) .nil)))) .nil) .nil)))) (.cons (.ret (.var 3)) .nil))))
noncomputable def gc:eE:=(.cons (.iff (.cmp .eq (.var 0) (.cst (.int 0))) (.cons (.ret (.blt .len (.cons (.var 2) .nil))) .nil) .nil) (.cons (.iff (.cmp .eq (.var 0) (.cst (.int 1))) (.cons (.ret (.call 4 (.cons (.var 1) (.cons (.var 2) .nil)))) .nil) .nil) (.cons (.asg (.one 3) (.dflt ["_law_name","_law_row_here"] [none,some 2] 0 1 (.var 1) (.var 2))) (.cons (.ret (.bin .add (.bin .sub (.blt .len (.cons (.var 2) .nil)) (.call 4 (.cons (.var 1) (.cons (.lkeys (.var 1)) .nil)))) (.call 4 (.cons (.var 1) (.cons (.var 3) .nil))))) .nil))))
noncomputable def dU:eE:=(.cons (.asg (.one 3) (.lst .nil)) (.cons (.for (.one 4) .seq (.cons (.var 2) .nil) (.cons (.iff (.cmp .eq (.call 5 (.cons (.var 0) (.cons (.var 1) (.cons (.bin .add (.var 3) (.lst (.cons (.var 4) .nil))) .nil)))) (.bin .add (.blt .len (.cons (.var 3) .nil)) (.cst (.int 1)))) (.cons (.expr (.met .append (.var 3) (.cons (.var 4) .nil))) .nil) .nil) .nil)) (.cons (.ret (.var 3)) .nil)))
noncomputable def cI:eE:=(.cons (.asg (.one 2) (.lst .nil)) (.cons (.for (.tup [3,4,5]) .seq (.cons (.var 1) .nil) (.cons (.expr (.met .append (.var 2) (.cons (.tup (.cons (.var 3) (.cons (.blt .min (.cons (.var 4) (.cons (.var 5) .nil))) (.cons (.blt .max (.cons (.var 4) (.cons (.var 5) .nil))) .nil)))) .nil))) .nil)) (.cons (.ret (.tup (.cons (.tup (.cons (.blt .min (.cons (.idx (.var 0) (.cst (.int 0))) (.cons (.idx (.var 0) (.cst (.int 1))) .nil))) (.cons (.blt .max (.cons (.idx (.var 0) (.cst (.int 0))) (.cons (.idx (.var 0) (.cst (.int 1))) .nil))) .nil))) (.cons (.blt .sorted (.cons (.var 2) .nil)) .nil)))) .nil)))
noncomputable def iB:eE:=(.cons (.ret (.call 7 (.cons (.idx (.var 0) (.cst (.int 0))) (.cons (.idx (.var 0) (.cst (.int 1))) .nil)))) .nil)
noncomputable def fG:eE:=(.cons (.asg (.one 1) (.blt .list (.cons (.idx (.var 0) (.cst (.int 0))) .nil))) (.cons (.for (.one 2) .seq (.cons (.idx (.var 0) (.cst (.int 1))) .nil) (.cons (.expr (.met .extend (.var 1) (.cons (.slc (.var 2) (.cst (.int 1)) .no) .nil))) .nil)) (.cons (.ret (.sset (.var 1))) .nil)))
noncomputable def vJ:eE:=(.cons (.setF 3 (.var 0) "net" (.call 8 (.cons (.var 1) .nil))) (.cons (.setF 3 (.var 0) "places" (.call 9 (.cons (.fld 3 (.var 0) "net") .nil))) (.cons (.setF 3 (.var 0) "ends" (.dct1 (.con "THOUGHT" (.int (-1))) (.idx (.fld 3 (.var 0) "net") (.cst (.int 0))))) (.cons (.for (.tup [2,3,4]) .seq (.cons (.idx (.fld 3 (.var 0) "net") (.cst (.int 1))) .nil) (.cons (.fX (.fld 3 (.var 0) "ends") (.var 2) (.tup (.cons (.var 3) (.cons (.var 4) .nil)))) .nil)) .nil))))
noncomputable def mE:eE:=(.cons (.setF 3 (.var 0) "net" (.call 8 (.cons (.var 1) .nil))) (.cons (.setF 3 (.var 0) "places" (.call 9 (.cons (.fld 3 (.var 0) "net") .nil))) (.cons (.setF 3 (.var 0) "ends" (.dct1 (.con "THOUGHT" (.int (-1))) (.idx (.fld 3 (.var 0) "net") (.cst (.int 0))))) (.cons (.for (.tup [2,3,4]) .seq (.cons (.idx (.fld 3 (.var 0) "net") (.cst (.int 1))) .nil) (.cons (.fX (.fld 3 (.var 0) "ends") (.var 2) (.tup (.cons (.var 3) (.cons (.var 4) .nil)))) .nil)) .nil))))
noncomputable def gf:eE:=(.cons (.setF 3 (.var 0) "net" (.call 8 (.cons (.var 1) .nil))) (.cons (.setF 3 (.var 0) "places" (.call 9 (.cons (.fld 3 (.var 0) "net") .nil))) (.cons (.setF 3 (.var 0) "ends" (.dct1 (.con "THOUGHT" (.int (-1))) (.idx (.fld 3 (.var 0) "net") (.cst (.int 0))))) (.cons (.for (.tup [2,3,4]) .seq (.cons (.idx (.fld 3 (.var 0) "net") (.cst (.int 1))) .nil) (.cons (.fX (.fld 3 (.var 0) "ends") (.var 2) (.tup (.cons (.var 3) (.cons (.var 4) .nil)))) .nil)) .nil))))
noncomputable def fH:eE:=(.cons (.asg (.one 2) .dct0) (.cons (.for (.one 3) .seq (.cons (.var 0) .nil) (.cons (.fX (.var 2) (.var 3) (.var 3)) .nil)) (.cons (.for (.tup [4,5]) .seq (.cons (.var 1) .nil) (.cons (.asg (.one 6) (.blt .min (.cons (.idx (.var 2) (.var 4)) (.cons (.idx (.var 2) (.var 5)) .nil)))) (.cons (.asg (.one 7) (.blt .max (.cons (.idx (.var 2) (.var 4)) (.cons (.idx (.var 2) (.var 5)) .nil)))) (.cons (.for (.one 3) .seq (.cons (.var 0) .nil) (.cons (.iff (.cmp .eq (.idx (.var 2) (.var 3)) (.var 7)) (.cons (.fX (.var 2) (.var 3) (.var 6)) .nil) .nil) .nil)) .nil)))) (.cons (.ret (.var 2)) .nil))))
noncomputable def bX:eE:=(.cons (.asg (.one 2) (.call 13 (.cons (.fld 3 (.var 0) "places") (.cons (.comp ["tie","self"] [none,some 0] (.one 0) .seq (.cons (.var 1) .nil) .no (.idx (.fld 3 (.var 1) "ends") (.var 0))) .nil)))) (.cons (.ret (.blt .len (.cons (.comp ["place","firsts"] [none,some 2] (.one 0) .seq (.cons (.fld 3 (.var 0) "places") .nil) (.cmp .ne (.idx (.var 1) (.var 0)) (.var 0)) (.var 0)) .nil))) .nil))
noncomputable def gy:eE:=(.cons (.ret (.comp ["tie"] [none] (.one 0) .seq (.cons (.idx (.var 0) (.cst (.int 1))) .nil) .no (.idx (.var 0) (.cst (.int 0))))) .nil)
noncomputable def fJ:eE:=(.cons (.ret (.bin .add (.lst (.cons (.con "THOUGHT" (.int (-1))) .nil)) (.call 15 (.cons (.fld 3 (.var 0) "net") .nil)))) .nil)
noncomputable def oN:eE:=(.cons (.expr (.call 12 (.cons (.var 0) (.cons (.var 1) .nil)))) (.cons (.setF 3 (.var 0) "whole" (.mth (.var 0) "tree_rank" [(0,14),(1,14),(2,14)] (.cons (.mth (.var 0) "ties" [(0,16),(1,16),(2,16)] .nil) .nil))) .nil))
noncomputable def gg:eE:=(.cons (.iff (.cmp .eq (.var 0) (.cst (.int 1))) (.cons (.ret (.call 11 (.cons (.var 1) .nil))) .nil) .nil) (.cons (.iff (.cmp .eq (.var 0) (.cst (.int 2))) (.cons (.ret (.call 17 (.cons (.var 1) .nil))) .nil) .nil) (.cons (.ret (.call 10 (.cons (.var 1) .nil))) .nil)))
noncomputable def fK:eE:=(.cons (.ret (.blt .len (.cons (.var 1) .nil))) .nil)
noncomputable def cJ:eE:=(.cons (.ret (.mth (.var 0) "tree_rank" [(0,14),(1,14),(2,14)] (.cons (.var 1) .nil))) .nil)
noncomputable def cZ:eE:=(.cons (.asg (.one 2) (.comp ["tie","row"] [none,some 1] (.one 0) .seq (.cons (.mth (.var 0) "ties" [(0,16),(1,16),(2,16)] .nil) .nil) (.cmp .nin (.var 0) (.var 1)) (.var 0))) (.cons (.ret (.bin .add (.bin .sub (.blt .len (.cons (.var 1) .nil)) (.fld 3 (.var 0) "whole")) (.mth (.var 0) "tree_rank" [(0,14),(1,14),(2,14)] (.cons (.var 2) .nil)))) .nil))
noncomputable def dW:eE:=(.cons (.asg (.one 2) (.mth (.var 0) "rank" [(0,19),(1,20),(2,21)] (.cons (.var 1) .nil))) (.cons (.ret (.comp ["tie","row","rank","self"] [none,some 1,some 2,some 0] (.one 0) .seq (.cons (.mth (.var 0) "ties" [(0,16),(1,16),(2,16)] .nil) .nil) (.or (.cmp .sO (.var 0) (.var 1)) (.cmp .le (.mth (.var 3) "rank" [(0,19),(1,20),(2,21)] (.cons (.bin .add (.var 1) (.lst (.cons (.var 0) .nil))) .nil)) (.var 2))) (.var 0))) .nil))
noncomputable def dX:eE:=(.cons (.asg (.one 3) (.mth (.var 0) "reach" [(0,22),(1,22),(2,22)] (.cons (.var 2) .nil))) (.cons (.ret (.comp ["name","reached"] [none,some 3] (.one 0) .seq (.cons (.var 1) .nil) (.cmp .sO (.var 0) (.var 1)) (.var 0))) .nil))
noncomputable def gh:eE:=(.cons (.asg (.one 3) (.blt .sorted (.cons (.var 1) .nil))) (.cons (.asg (.one 4) (.blt .sorted (.cons (.var 2) .nil))) (.cons (.asg (.one 5) (.cst .non)) (.cons (.whl 100000 (.cmp .ne (.var 5) (.bin .add (.blt .len (.cons (.var 3) .nil)) (.blt .len (.cons (.var 4) .nil)))) (.cons (.asg (.one 5) (.bin .add (.blt .len (.cons (.var 3) .nil)) (.blt .len (.cons (.var 4) .nil)))) (.cons (.asg (.one 3) (.call 23 (.cons (.var 0) (.cons (.var 3) (.cons (.var 4) .nil))))) (.cons (.asg (.one 4) (.call 23 (.cons (.var 0) (.cons (.var 4) (.cons (.var 3) .nil))))) .nil)))) (.cons (.ret (.tup (.cons (.var 3) (.cons (.var 4) .nil)))) .nil)))))
noncomputable def bS:eE:=(.cons (.asg (.one 2) (.neg (.cst (.int 1)))) (.cons (.asg (.one 3) (.lst .nil)) (.cons (.for (.one 4) .range (.cons (.var 1) .nil) (.cons (.asg (.one 2) (.bin .add (.bin .add (.var 2) (.cst (.int 1))) (.bin .mod (.var 0) (.bin .pow (.cst (.int 10)) (.cst (.int 57)))))) (.cons (.asg (.one 0) (.bin .fdiv (.var 0) (.bin .pow (.cst (.int 10)) (.cst (.int 57))))) (.cons (.expr (.met .append (.var 3) (.cons (.var 2) .nil))) .nil)))) (.cons (.ret (.var 3)) .nil))))
noncomputable def fL:eE:=(.cons (.asg (.one 2) (.call 0 (.cons (.var 0) (.cons (.cst (.int 2)) .nil)))) (.cons (.asg (.one 3) (.bin .add (.cst (.int 2)) (.bin .mod (.var 2) (.cst (.int 7))))) (.cons (.asg (.one 4) (.call 25 (.cons (.call 0 (.cons (.var 0) (.cons (.cst (.int 1)) .nil))) (.cons (.var 3) .nil)))) (.cons (.asg (.one 5) (.bin .mod (.bin .fdiv (.var 2) (.cst (.int 7))) (.var 3))) (.cons (.asg (.one 6) (.bin .mod (.bin .fdiv (.bin .fdiv (.var 2) (.cst (.int 7))) (.var 3)) (.var 3))) (.cons (.asg (.one 7) (.call 25 (.cons (.call 0 (.cons (.var 0) (.cons (.cst (.int 0)) .nil))) (.cons (.bin .mod (.bin .fdiv (.bin .fdiv (.bin .fdiv (.var 2) (.cst (.int 7))) (.var 3)) (.var 3)) (.bin .add (.var 1) (.cst (.int 1)))) .nil)))) (.cons (.asg (.one 8) (.call 0 (.cons (.var 0) (.cons (.cst (.int 3)) .nil)))) (.cons (.asg (.one 9) (.lst .nil)) (.cons (.for (.one 10) .seq (.cons (.var 7) .nil) (.cons (.asg (.one 11) (.idx (.var 4) (.bin .mod (.var 8) (.var 3)))) (.cons (.asg (.one 12) (.idx (.var 4) (.bin .mod (.bin .fdiv (.var 8) (.var 3)) (.var 3)))) (.cons (.expr (.met .append (.var 9) (.cons (.tup (.cons (.var 10) (.cons (.blt .min (.cons (.var 11) (.cons (.var 12) .nil))) (.cons (.blt .max (.cons (.var 11) (.cons (.var 12) .nil))) .nil)))) .nil))) (.cons (.asg (.one 8) (.bin .fdiv (.bin .fdiv (.var 8) (.var 3)) (.var 3))) .nil))))) (.cons (.ret (.tup (.cons (.tup (.cons (.idx (.var 4) (.blt .min (.cons (.var 5) (.cons (.var 6) .nil)))) (.cons (.idx (.var 4) (.blt .max (.cons (.var 5) (.cons (.var 6) .nil)))) .nil))) (.cons (.var 9) .nil)))) .nil))))))))))
noncomputable def kW:eE:=(.cons (.asg (.one 2) (.lst .nil)) (.cons (.for (.one 3) .seq (.cons (.var 0) .nil) (.cons (.iff (.cmp .eq (.bin .mod (.var 1) (.cst (.int 2))) (.cst (.int 1))) (.cons (.expr (.met .append (.var 2) (.cons (.var 3) .nil))) .nil) .nil) (.cons (.asg (.one 1) (.bin .fdiv (.var 1) (.cst (.int 2)))) .nil))) (.cons (.ret (.var 2)) .nil)))
noncomputable def fM:eE:=(.cons (.asg (.one 3) (.call 5 (.cons (.var 0) (.cons (.var 1) (.cons (.var 2) .nil))))) (.cons (.ret (.comp ["_law_name","_law_row_here","_law_many","_law_kind","_law_ends_here"] [none,some 2,some 3,some 0,some 1] (.one 0) .seq (.cons (.skeys (.var 1)) .nil) (.or (.cmp .sO (.var 0) (.var 1)) (.cmp .eq (.call 5 (.cons (.var 3) (.cons (.var 4) (.cons (.bin .add (.var 1) (.lst (.cons (.var 0) .nil))) .nil)))) (.var 2))) (.var 0))) .nil))
noncomputable def kX:eE:=(.cons (.asg (.one 1) (.bin .fdiv (.call 0 (.cons (.var 0) (.cons (.cst (.int 2)) .nil))) (.cst (.int 56)))) (.cons (.asg (.one 2) (.call 2 (.cons (.var 0) (.cons (.slc (.var 0) (.cst (.int 3)) (.bin .add (.cst (.int 3)) (.bin .mod (.var 1) (.cst (.int 15))))) .nil)))) (.cons (.iff (.and (.cmp .eq (.bin .mod (.blt .len (.cons (.var 0) .nil)) (.cst (.int 2))) (.cst (.int 0))) (.cmp .ge (.call 0 (.cons (.var 0) (.cons (.cst (.int 3)) .nil))) (.bin .pow (.cst (.int 10)) (.cst (.int 18))))) (.cons (.asg (.one 1) (.call 0 (.cons (.var 0) (.cons (.cst (.int 4)) .nil)))) (.cons (.asg (.one 2) (.call 26 (.cons (.var 0) (.cons (.cst (.int 14)) .nil)))) .nil)) .nil) (.cons (.asg (.one 3) (.call 3 (.cons (.var 2) .nil))) (.cons (.asg (.one 4) (.bin .add (.cst (.int 1)) (.bin .mod (.bin .fdiv (.var 1) (.cst (.int 15))) (.cst (.int 2))))) (.cons (.asg (.one 5) (.skeys (.var 3))) (.cons (.asg (.one 6) (.bin .mod (.call 0 (.cons (.var 0) (.cons (.cst (.int 17)) .nil))) (.blt .len (.cons (.var 5) .nil)))) (.cons (.asg (.one 5) (.bin .add (.slc (.var 5) (.var 6) .no) (.slc (.var 5) .no (.var 6)))) (.cons (.asg (.one 7) (.var 5)) (.cons (.iff (.and (.cmp .eq (.bin .mod (.blt .len (.cons (.var 0) .nil)) (.cst (.int 2))) (.cst (.int 0))) (.cmp .ge (.call 0 (.cons (.var 0) (.cons (.cst (.int 3)) .nil))) (.bin .pow (.cst (.int 10)) (.cst (.int 18))))) (.cons (.asg (.one 7) (.call 27 (.cons (.var 5) (.cons (.call 0 (.cons (.var 0) (.cons (.cst (.int 6)) .nil))) .nil)))) (.cons (.asg (.one 5) (.call 27 (.cons (.var 5) (.cons (.call 0 (.cons (.var 0) (.cons (.cst (.int 5)) .nil))) .nil)))) .nil)) .nil) (.cons (.asg (.one 8) (.call 6 (.cons (.var 4) (.cons (.var 3) (.cons (.var 5) .nil))))) (.cons (.asg (.one 9) (.call 6 (.cons (.var 4) (.cons (.var 3) (.cons (.comp ["_law_name","_law_ones"] [none,some 8] (.one 0) .seq (.cons (.var 7) .nil) (.cmp .nin (.var 0) (.var 1)) (.var 0)) .nil))))) (.cons (.asg (.one 10) (.call 18 (.cons (.var 4) (.cons (.var 2) .nil)))) (.cons (.asg (.one 11) (.call 24 (.cons (.var 10) (.cons (.blt .list (.cons (.var 8) .nil)) (.cons (.blt .list (.cons (.var 9) .nil)) .nil))))) (.cons (.iff (.or (.not (.blt .all (.cons (.comp ["_law_name","_law_ones"] [none,some 8] (.one 0) .seq (.cons (.idx (.var 11) (.cst (.int 0))) .nil) .no (.cmp .sO (.var 0) (.var 1))) .nil))) (.not (.blt .all (.cons (.comp ["_law_name","_law_others"] [none,some 9] (.one 0) .seq (.cons (.idx (.var 11) (.cst (.int 1))) .nil) .no (.cmp .sO (.var 0) (.var 1))) .nil)))) (.cons (.ret (.cst (.bl false))) .nil) .nil) (.cons (.iff (.cmp .ne (.blt .len (.cons (.idx (.var 11) (.cst (.int 0))) .nil)) (.blt .len (.cons (.idx (.var 11) (.cst (.int 1))) .nil))) (.cons (.ret (.cst (.bl false))) .nil) .nil) (.cons (.iff (.cmp .ne (.call 28 (.cons (.var 4) (.cons (.var 3) (.cons (.idx (.var 11) (.cst (.int 0))) .nil)))) (.call 28 (.cons (.var 4) (.cons (.var 3) (.cons (.idx (.var 11) (.cst (.int 1))) .nil))))) (.cons (.ret (.cst (.bl false))) .nil) .nil) (.cons (.iff (.cmp .ne (.call 24 (.cons (.var 10) (.cons (.blt .list (.cons (.idx (.var 11) (.cst (.int 0))) .nil)) (.cons (.blt .list (.cons (.idx (.var 11) (.cst (.int 1))) .nil)) .nil)))) (.var 11)) (.cons (.ret (.cst (.bl false))) .nil) .nil) (.cons (.iff (.cmp .ne (.call 24 (.cons (.var 10) (.cons (.blt .list (.cons (.var 9) .nil)) (.cons (.blt .list (.cons (.var 8) .nil)) .nil)))) (.tup (.cons (.idx (.var 11) (.cst (.int 1))) (.cons (.idx (.var 11) (.cst (.int 0))) .nil)))) (.cons (.ret (.cst (.bl false))) .nil) .nil) (.cons (.for (.one 12) .seq (.cons (.slc (.var 0) (.cst (.int 18)) (.cst (.int 28))) .nil) (.cons (.asg (.one 13) (.call 24 (.cons (.var 10) (.cons (.call 27 (.cons (.var 8) (.cons (.var 12) .nil))) (.cons (.call 27 (.cons (.var 9) (.cons (.bin .fdiv (.var 12) (.cst (.int 3))) .nil))) .nil))))) (.cons (.iff (.or (.not (.blt .all (.cons (.comp ["_law_name","_law_found"] [none,some 11] (.one 0) .seq (.cons (.idx (.var 13) (.cst (.int 0))) .nil) .no (.cmp .sO (.var 0) (.idx (.var 1) (.cst (.int 0))))) .nil))) (.not (.blt .all (.cons (.comp ["_law_name","_law_found"] [none,some 11] (.one 0) .seq (.cons (.idx (.var 13) (.cst (.int 1))) .nil) .no (.cmp .sO (.var 0) (.idx (.var 1) (.cst (.int 1))))) .nil)))) (.cons (.ret (.cst (.bl false))) .nil) .nil) .nil))) (.cons (.ret (.cst (.bl true))) .nil)))))))))))))))))))))
noncomputable def RI:List Row:=[]
noncomputable def xV:List Val->M Val:=gR (look RI) 2 jB
noncomputable def RJ:List Row:=RI++[(("_law_cell":Str),2,xV)]
noncomputable def rT:List Val->M Val:=gR (look RJ) 5 gu
noncomputable def RK:List Row:=RJ++[(("_law_number":Str),3,rT)]
noncomputable def AQ:List Val->M Val:=gR (look RK) 13 kU
noncomputable def RL:List Row:=RK++[(("_law_net":Str),2,AQ)]
noncomputable def xW:List Val->M Val:=gR (look RL) 5 jC
noncomputable def RM:List Row:=RL++[(("_law_ends":Str),1,xW)]
noncomputable def rV:List Val->M Val:=gR (look RM) 8 gx
noncomputable def RO:List Row:=RM++[(("_law_joined":Str),2,rV)]
noncomputable def xX:List Val->M Val:=gR (look RO) 4 gc
noncomputable def RP:List Row:=RO++[(("_law_rank":Str),3,xX)]
noncomputable def nt:List Val->M Val:=gR (look RP) 5 dU
noncomputable def RQ:List Row:=RP++[(("_law_free_row":Str),3,nt)]
noncomputable def kY:List Val->M Val:=gR (look RQ) 6 cI
noncomputable def RS:List Row:=RQ++[(("put_in_order":Str),2,kY)]
noncomputable def uE:List Val->M Val:=gR (look RS) 1 iB
noncomputable def RT:List Row:=RS++[(("own_net":Str),1,uE)]
noncomputable def pD:List Val->M Val:=gR (look RT) 3 fG
noncomputable def EK:List Row:=RT++[(("places_of":Str),1,pD)]
noncomputable def EL:List Val->M Val:=DM 0 (gR (look EK) 5 vJ)
noncomputable def EM:List Row:=EK++[(("Rule":Str),1,EL)]
noncomputable def uF:List Val->M Val:=DM 1 (gR (look EM) 5 mE)
noncomputable def EN:List Row:=EM++[(("ByTrees":Str),1,uF)]
noncomputable def j6:List Val->M Val:=gR (look EN) 5 gf
noncomputable def EO:List Row:=EN++[(("Rule.__init__":Str),1002,j6)]
noncomputable def pF:List Val->M Val:=gR (look EO) 8 fH
noncomputable def ES:List Row:=EO++[(("firsts_by":Str),2,pF)]
noncomputable def jD:List Val->M Val:=gR (look ES) 3 bX
noncomputable def ET:List Row:=ES++[(("Rule.tree_rank":Str),1002,jD)]
noncomputable def rW:List Val->M Val:=gR (look ET) 1 gy
noncomputable def EU:List Row:=ET++[(("names_of":Str),1,rW)]
noncomputable def pG:List Val->M Val:=gR (look EU) 1 fJ
noncomputable def EW:List Row:=EU++[(("Rule.ties":Str),1001,pG)]
noncomputable def xY:List Val->M Val:=DM 2 (gR (look EW) 2 oN)
noncomputable def EY:List Row:=EW++[(("ByRest":Str),1,xY)]
noncomputable def xZ:List Val->M Val:=gR (look EY) 2 gg
noncomputable def EZ:List Row:=EY++[(("_law_rule":Str),2,xZ)]
noncomputable def pH:List Val->M Val:=gR (look EZ) 2 fK
noncomputable def E1:List Row:=EZ++[(("Rule.rank":Str),1002,pH)]
noncomputable def kZ:List Val->M Val:=gR (look E1) 2 cJ
noncomputable def E2:List Row:=E1++[(("ByTrees.rank":Str),1002,kZ)]
noncomputable def lZ:List Val->M Val:=gR (look E2) 3 cZ
noncomputable def E4:List Row:=E2++[(("ByRest.rank":Str),1002,lZ)]
noncomputable def nu:List Val->M Val:=gR (look E4) 3 dW
noncomputable def E5:List Row:=E4++[(("Rule.reach":Str),1002,nu)]
noncomputable def nv:List Val->M Val:=gR (look E5) 4 dX
noncomputable def E6:List Row:=E5++[(("reached_by":Str),3,nv)]
noncomputable def uG:List Val->M Val:=gR (look E6) 6 gh
noncomputable def E7:List Row:=E6++[(("thinned":Str),3,uG)]
noncomputable def j7:List Val->M Val:=gR (look E7) 5 bS
noncomputable def E8:List Row:=E7++[(("_law_gap_numbers":Str),2,j7)]
noncomputable def pI:List Val->M Val:=gR (look E8) 13 fL
noncomputable def E9:List Row:=E8++[(("_law_any_net":Str),2,pI)]
noncomputable def AR:List Val->M Val:=gR (look E9) 4 kW
noncomputable def Fb:List Row:=E9++[(("_law_row":Str),2,AR)]
noncomputable def pJ:List Val->M Val:=gR (look Fb) 4 fM
noncomputable def Jl:List Row:=Fb++[(("_law_reached":Str),3,pJ)]
noncomputable def Fc:List Val->M Val:=gR (look Jl) 14 kX
noncomputable def Va:List aZ:=[]
noncomputable def aX:aZ:=eG (aj Va) 2 jB
noncomputable def Vb:List aZ:=Va++[aX]
noncomputable def iC:aZ:=eG (aj Vb) 5 gu
noncomputable def RU:List aZ:=Vb++[iC]
noncomputable def nC:aZ:=eG (aj RU) 13 kU
noncomputable def Vc:List aZ:=RU++[nC]
noncomputable def k7:aZ:=eG (aj Vc) 5 jC
noncomputable def Vd:List aZ:=Vc++[k7]
noncomputable def gi:aZ:=eG (aj Vd) 8 gx
noncomputable def S8:List aZ:=Vd++[gi]
noncomputable def gz:aZ:=eG (aj S8) 4 gc
noncomputable def S9:List aZ:=S8++[gz]
noncomputable def fN:aZ:=eG (aj S9) 5 dU
noncomputable def Ve:List aZ:=S9++[fN]
noncomputable def dg:aZ:=eG (aj Ve) 6 cI
noncomputable def Tc:List aZ:=Ve++[dg]
noncomputable def cO:aZ:=eG (aj Tc) 1 iB
noncomputable def Vf:List aZ:=Tc++[cO]
noncomputable def bY:aZ:=eG (aj Vf) 3 fG
noncomputable def Fd:List aZ:=Vf++[bY]
noncomputable def vK:aZ:=kR (aj Fd) 0 8 9
noncomputable def Fe:List aZ:=Fd++[vK]
noncomputable def lE:aZ:=kR (aj Fe) 1 8 9
noncomputable def Ff:List aZ:=Fe++[lE]
noncomputable def j8:aZ:=λ_=>.no
noncomputable def NT:List aZ:=Ff++[j8]
noncomputable def eY:aZ:=eG (aj NT) 8 fH
noncomputable def Jm:List aZ:=NT++[eY]
noncomputable def aT:aZ:=eG (aj Jm) 3 bX
noncomputable def NU:List aZ:=Jm++[aT]
noncomputable def iD:aZ:=eG (aj NU) 1 gy
noncomputable def Jo:List aZ:=NU++[iD]
noncomputable def cD:aZ:=eG (aj Jo) 1 fJ
noncomputable def Fg:List aZ:=Jo++[cD]
noncomputable def nD:aZ:=uC (aj Ff) (aj Fg) 2 8 9 16 14
noncomputable def Cj:List aZ:=Fg++[nD]
noncomputable def iE:aZ:=eG (aj Cj) 2 gg
noncomputable def NV:List aZ:=Cj++[iE]
noncomputable def gA:aZ:=eG (aj NV) 2 fK
noncomputable def Jp:List aZ:=NV++[gA]
noncomputable def dh:aZ:=eG (aj Jp) 2 cJ
noncomputable def Fi:List aZ:=Jp++[dh]
noncomputable def cP:aZ:=eG (aj Fi) 3 cZ
noncomputable def vL:List aZ:=Fi++[cP]
noncomputable def fO:aZ:=eG (aj vL) 3 dW
noncomputable def Jq:List aZ:=vL++[fO]
noncomputable def fP:aZ:=eG (aj Jq) 4 dX
noncomputable def gB:List aZ:=Jq++[fP]
noncomputable def lF:aZ:=eG (aj gB) 6 gh
noncomputable def tD:List aZ:=gB++[lF]
noncomputable def cK:aZ:=eG (aj tD) 5 bS
noncomputable def Fj:List aZ:=tD++[cK]
noncomputable def gC:aZ:=eG (aj Fj) 13 fL
noncomputable def NW:List aZ:=Fj++[gC]
noncomputable def nE:aZ:=eG (aj NW) 4 kW
noncomputable def Jr:List aZ:=NW++[nE]
noncomputable def gD:aZ:=eG (aj Jr) 4 fM
noncomputable def dY:List aZ:=Jr++[gD]
noncomputable def Kg:aZ:=eG (aj dY) 14 kX
theorem pU:aj RU 0=aX:=rfl
theorem iT:aj RU 1=iC:=rfl
theorem iF:aj S8 4=gi:=rfl
theorem gE:aj S9 5=gz:=rfl
theorem jE:aj Tc 7=dg:=rfl
theorem pV:aj Fd 8=cO:=rfl
theorem nF:aj Fd 9=bY:=rfl
theorem mF:aj Fe 8=cO:=rfl
theorem k9:aj Fe 9=bY:=rfl
theorem jh:aj Ff 8=cO:=rfl
theorem iG:aj Ff 9=bY:=rfl
theorem gX:aj Jm 13=eY:=rfl
theorem ki:aj Jo 15=iD:=rfl
theorem jk:aj Fg 14=aT:=rfl
theorem lQ:aj Fg 16=cD:=rfl
theorem rX:aj Cj 10=vK:=rfl
theorem nG:aj Cj 11=lE:=rfl
theorem oO:aj Cj 17=nD:=rfl
theorem gj:aj Jp 14=aT:=rfl
theorem gF:aj Fi 14=aT:=rfl
theorem jl:aj Fi 16=cD:=rfl
theorem jF:aj vL 16=cD:=rfl
theorem eZ:aj vL 19=gA:=rfl
theorem di:aj vL 20=dh:=rfl
theorem dM:aj vL 21=cP:=rfl
theorem jm:aj Jq 22=fO:=rfl
theorem fT:aj gB 23=fP:=rfl
theorem dN:aj Fj 0=aX:=rfl
theorem dj:aj Fj 25=cK:=rfl
theorem gO:aj Jr 5=gz:=rfl
theorem cQ:aj dY 0=aX:=rfl
theorem vM:aj dY 2=nC:=rfl
theorem tE:aj dY 3=k7:=rfl
theorem iU:aj dY 6=fN:=rfl
theorem tF:aj dY 18=iE:=rfl
theorem oQ:aj dY 26=gC:=rfl
theorem jW:aj dY 27=nE:=rfl
theorem oR:aj dY 28=gD:=rfl
theorem i0:dD RI Va:=Es
theorem Fo:Imp xV aX:=bJ (ay i0) (by decide +kernel)
theorem i1:dD RJ Vb:=aB i0 Fo
theorem zB:Imp rT iC:=bJ (ay i1) (by decide +kernel)
theorem i2:dD RK RU:=aB i1 zB
theorem Js:Imp AQ nC:=bJ (ay i2) (by decide +kernel)
theorem i3:dD RL Vc:=aB i2 Js
theorem Fp:Imp xW k7:=bJ (ay i3) (by decide +kernel)
theorem i4:dD RM Vd:=aB i3 Fp
theorem zC:Imp rV gi:=bJ (ay i4) (by decide +kernel)
theorem i5:dD RO S8:=aB i4 zC
theorem Fq:Imp xX gz:=bJ (ay i5) (by decide +kernel)
theorem i6:dD RP S9:=aB i5 Fq
theorem vN:Imp nt fN:=bJ (ay i6) (by decide +kernel)
theorem i7:dD RQ Ve:=aB i6 vN
theorem rY:Imp kY dg:=bJ (ay i7) (by decide +kernel)
theorem i8:dD RS Tc:=aB i7 rY
theorem Ck:Imp uE cO:=bJ (ay i8) (by decide +kernel)
theorem i9:dD RT Vf:=aB i8 Ck
theorem x6:Imp pD bY:=bJ (ay i9) (by decide +kernel)
theorem Zc:dD EK Fd:=aB i9 x6
theorem NX:Imp EL vK:=xS (n:=3) (by decide) (ay Zc)
theorem Zd:dD EM Fe:=aB Zc NX
theorem Cm:Imp uF lE:=xS (n:=3) (by decide) (ay Zd)
theorem i12:dD EN Ff:=aB Zd Cm
theorem pW:Imp j6 j8:=EF
theorem Ze:dD EO NT:=aB i12 pW
theorem x8:Imp pF eY:=bJ (ay Ze) (by decide +kernel)
theorem Zf:dD ES Jm:=aB Ze x8
theorem oS:Imp jD aT:=bJ (ay Zf) (by decide +kernel)
theorem Zg:dD ET NU:=aB Zf oS
theorem zE:Imp rW iD:=bJ (ay Zg) (by decide +kernel)
theorem Zh:dD EU Jo:=aB Zg zE
theorem x9:Imp pG cD:=bJ (ay Zh) (by decide +kernel)
theorem Zi:dD EW Fg:=aB Zh x9
theorem Ft:Imp xY nD:=EG (n:=3) (ji:=12) (by decide) (ay i12) (ay Zi) rfl rfl rfl
theorem Zj:dD EY Cj:=aB Zi Ft
theorem Fv:Imp xZ iE:=bJ (ay Zj) (by decide +kernel)
theorem Zk:dD EZ NV:=aB Zj Fv
theorem ya:Imp pH gA:=bJ (ay Zk) (by decide +kernel)
theorem Zl:dD E1 Jp:=aB Zk ya
theorem rZ:Imp kZ dh:=bJ (ay Zl) (by decide +kernel)
theorem Zm:dD E2 Fi:=aB Zl rZ
theorem tG:Imp lZ cP:=bJ (ay Zm) (by decide +kernel)
theorem Zn:dD E4 vL:=aB Zm tG
theorem vO:Imp nu fO:=bJ (ay Zn) (by decide +kernel)
theorem Zo:dD E5 Jq:=aB Zn vO
theorem vP:Imp nv fP:=bJ (ay Zo) (by decide +kernel)
theorem Zp:dD E6 gB:=aB Zo vP
theorem Cn:Imp uG lF:=bJ (ay Zp) (by decide +kernel)
theorem Zq:dD E7 tD:=aB Zp Cn
theorem pX:Imp j7 cK:=bJ (ay Zq) (by decide +kernel)
theorem Zr:dD E8 Fj:=aB Zq pX
theorem yb:Imp pI gC:=bJ (ay Zr) (by decide +kernel)
theorem Zs:dD E9 NW:=aB Zr yb
theorem Jt:Imp AR nE:=bJ (ay Zs) (by decide +kernel)
theorem Zt:dD Fb Jr:=aB Zs Jt
theorem yc:Imp pJ gD:=bJ (ay Zt) (by decide +kernel)
theorem i29:dD Jl dY:=aB Zt yc
theorem Ju{ns:List Int}{f:Bool}(e:Kg [.rl (ns.map .int)]=.ok (f,.bl true)):∃h',Fc [.rl (ns.map .int)] []=.ok (.bl true) h':=Et (bJ (ay i29) (by decide +kernel)) e
theorem c0:aP ["_law_script","_law_k"] ["_law_script","_law_k"] (aa (top 16))=true:=by decide +kernel
theorem d0:bg ⟨Jk,aa (top 16),RI.map (λr=>(r.1,r.2.1)),cons,tb⟩ jB (ak (top 16))=true:=by decide +kernel
theorem c1:aP ["_law_one","_law_two","_law_k","_law_step","_law_shift"] ["_law_one","_law_two","_law_k"] (aa (top 17))=true:=by decide +kernel
theorem d1:bg ⟨Rz,aa (top 17),RJ.map (λr=>(r.1,r.2.1)),cons,tb⟩ gu (ak (top 17))=true:=by decide +kernel
theorem c2:aP ["_law_script","_law_cells","_law_one","_law_two","_law_pick","_law_many","_law_places","_law_ties","_law_k","_law_cell_here","_law_here","_law_there","_law_poles"] ["_law_script","_law_cells"] (aa (top 18))=true:=by decide +kernel
theorem d2:bg ⟨RA,aa (top 18),RK.map (λr=>(r.1,r.2.1)),cons,tb⟩ kU (ak (top 18))=true:=by decide +kernel
theorem c3:aP ["_law_net_here","_law_ends_here","_law_name","_law_one","_law_other"] ["_law_net_here"] (aa (top 19))=true:=by decide +kernel
theorem d3:bg ⟨RB,aa (top 19),RL.map (λr=>(r.1,r.2.1)),cons,tb⟩ jC (ak (top 19))=true:=by decide +kernel
theorem c4:aP ["_law_ends_here","_law_row_here","_law_part","_law_many","_law_name","_law_one","_law_other","_law_place"] ["_law_ends_here","_law_row_here"] (aa (top 20))=true:=by decide +kernel
theorem d4:bg ⟨RC,aa (top 20),RM.map (λr=>(r.1,r.2.1)),cons,tb⟩ gx (ak (top 20))=true:=by decide +kernel
theorem c5:aP ["_law_kind","_law_ends_here","_law_row_here","_law_rest"] ["_law_kind","_law_ends_here","_law_row_here"] (aa (top 21))=true:=by decide +kernel
theorem d5:bg ⟨RD,aa (top 21),RO.map (λr=>(r.1,r.2.1)),cons,tb⟩ gc (ak (top 21))=true:=by decide +kernel
theorem c6:aP ["_law_kind","_law_ends_here","_law_names","_law_found","_law_name"] ["_law_kind","_law_ends_here","_law_names"] (aa (top 24))=true:=by decide +kernel
theorem d6:bg ⟨RE,aa (top 24),RP.map (λr=>(r.1,r.2.1)),cons,tb⟩ dU (ak (top 24))=true:=by decide +kernel
theorem c7:aP ["poles","ties","named","name","one","other"] ["poles","ties"] (aa (top 1))=true:=by decide +kernel
theorem d7:bg ⟨RG,aa (top 1),RQ.map (λr=>(r.1,r.2.1)),cons,tb⟩ cI (ak (top 1))=true:=by decide +kernel
theorem c8:aP ["net"] ["net"] (aa (top 2))=true:=by decide +kernel
theorem d8:bg ⟨["net"],aa (top 2),RS.map (λr=>(r.1,r.2.1)),cons,tb⟩ iB (ak (top 2))=true:=by decide +kernel
theorem c9:aP ["net","places","tie"] ["net"] (aa (top 3))=true:=by decide +kernel
theorem d9:bg ⟨["net","places","tie"],aa (top 3),RT.map (λr=>(r.1,r.2.1)),cons,tb⟩ fG (ak (top 3))=true:=by decide +kernel
theorem c10:aP ["self","net","name","one","other"] ["self","net"] (aa (bP 0))=true:=by decide +kernel
theorem OF:bg ⟨Ci,aa (bP 0),EK.map (λr=>(r.1,r.2.1)),cons,tb⟩ vJ (ak (bP 0))=true:=by decide +kernel
theorem Td:aP ["self","net","name","one","other"] ["self","net"] (aa (bP 0))=true:=by decide +kernel
theorem d11:bg ⟨Ci,aa (bP 0),EM.map (λr=>(r.1,r.2.1)),cons,tb⟩ mE (ak (bP 0))=true:=by decide +kernel
theorem c12:aP ["self","net","name","one","other"] ["self","net"] (aa (bP 0))=true:=by decide +kernel
theorem d12:bg ⟨Ci,aa (bP 0),EN.map (λr=>(r.1,r.2.1)),cons,tb⟩ gf (ak (bP 0))=true:=by decide +kernel
theorem l0:aP ["places","pairs","firsts","place","one","other","kept","gone"] ["places","pairs"] (aa (top 6))=true:=by decide +kernel
theorem RW:bg ⟨RH,aa (top 6),EO.map (λr=>(r.1,r.2.1)),cons,tb⟩ fH (ak (top 6))=true:=by decide +kernel
theorem c14:aP ["self","row","firsts"] ["self","row"] (aa (bP 7))=true:=by decide +kernel
theorem d14:bg ⟨["self","row","firsts"],aa (bP 7),ES.map (λr=>(r.1,r.2.1)),cons,tb⟩ bX (ak (bP 7))=true:=by decide +kernel
theorem c15:aP ["net"] ["net"] (aa (top 4))=true:=by decide +kernel
theorem d15:bg ⟨["net"],aa (top 4),ET.map (λr=>(r.1,r.2.1)),cons,tb⟩ gy (ak (top 4))=true:=by decide +kernel
theorem c16:aP ["self"] ["self"] (aa (bP 3))=true:=by decide +kernel
theorem d16:bg ⟨["self"],aa (bP 3),EU.map (λr=>(r.1,r.2.1)),cons,tb⟩ fJ (ak (bP 3))=true:=by decide +kernel
theorem Vg:aP ["self","net"] ["self","net"] (aa (iS 0))=true:=by decide +kernel
theorem d17:bg ⟨lY,aa (iS 0),EW.map (λr=>(r.1,r.2.1)),cons,tb⟩ oN (ak (iS 0))=true:=by decide +kernel
theorem c18:aP ["_law_kind","_law_net_here"] ["_law_kind","_law_net_here"] (aa (top 22))=true:=by decide +kernel
theorem d18:bg ⟨AN,aa (top 22),EY.map (λr=>(r.1,r.2.1)),cons,tb⟩ gg (ak (top 22))=true:=by decide +kernel
theorem c19:aP ["self","row"] ["self","row"] (aa (bP 4))=true:=by decide +kernel
theorem d19:bg ⟨iR,aa (bP 4),EZ.map (λr=>(r.1,r.2.1)),cons,tb⟩ fK (ak (bP 4))=true:=by decide +kernel
theorem c20:aP ["self","row"] ["self","row"] (aa (rS 1))=true:=by decide +kernel
theorem d20:bg ⟨iR,aa (rS 1),E1.map (λr=>(r.1,r.2.1)),cons,tb⟩ cJ (ak (rS 1))=true:=by decide +kernel
theorem c21:aP ["self","row","rest"] ["self","row"] (aa (iS 2))=true:=by decide +kernel
theorem d21:bg ⟨["self","row","rest"],aa (iS 2),E2.map (λr=>(r.1,r.2.1)),cons,tb⟩ cZ (ak (iS 2))=true:=by decide +kernel
theorem c22:aP ["self","row","rank"] ["self","row"] (aa (bP 6))=true:=by decide +kernel
theorem d22:bg ⟨["self","row","rank"],aa (bP 6),E4.map (λr=>(r.1,r.2.1)),cons,tb⟩ dW (ak (bP 6))=true:=by decide +kernel
theorem c23:aP ["rule","row","other","reached"] ["rule","row","other"] (aa (top 14))=true:=by decide +kernel
theorem d23:bg ⟨["rule","row","other","reached"],aa (top 14),E5.map (λr=>(r.1,r.2.1)),cons,tb⟩ dX (ak (top 14))=true:=by decide +kernel
theorem c24:aP ["rule","ones","others","left","right","many"] ["rule","ones","others"] (aa (top 13))=true:=by decide +kernel
theorem d24:bg ⟨J9,aa (top 13),E6.map (λr=>(r.1,r.2.1)),cons,tb⟩ gh (ak (top 13))=true:=by decide +kernel
theorem c25:aP ["_law_cell_here","_law_many","_law_number_here","_law_found","_law_k"] ["_law_cell_here","_law_many"] (aa (top 26))=true:=by decide +kernel
theorem d25:bg ⟨Ka,aa (top 26),E7.map (λr=>(r.1,r.2.1)),cons,tb⟩ bS (ak (top 26))=true:=by decide +kernel
theorem c26:aP ["_law_script","_law_most","_law_rest","_law_many","_law_places","_law_one","_law_other","_law_names","_law_cell_here","_law_ties","_law_name","_law_here","_law_there"] ["_law_script","_law_most"] (aa (top 27))=true:=by decide +kernel
theorem d26:bg ⟨Kc,aa (top 27),E8.map (λr=>(r.1,r.2.1)),cons,tb⟩ fL (ak (top 27))=true:=by decide +kernel
theorem c27:aP ["_law_names","_law_cell_here","_law_row_here","_law_name"] ["_law_names","_law_cell_here"] (aa (top 23))=true:=by decide +kernel
theorem d27:bg ⟨Kd,aa (top 23),E9.map (λr=>(r.1,r.2.1)),cons,tb⟩ kW (ak (top 23))=true:=by decide +kernel
theorem c28:aP ["_law_kind","_law_ends_here","_law_row_here","_law_many"] ["_law_kind","_law_ends_here","_law_row_here"] (aa (top 25))=true:=by decide +kernel
theorem d28:bg ⟨Ke,aa (top 25),Fb.map (λr=>(r.1,r.2.1)),cons,tb⟩ fM (ak (top 25))=true:=by decide +kernel
theorem c29:aP ["_law_script","_law_size","_law_net_here","_law_ends_here","_law_kind","_law_names","_law_turn","_law_beside","_law_ones","_law_others","_law_rule_here","_law_found","_law_cell_here","_law_part"] ["_law_script"] (aa (top 28))=true:=by decide +kernel
theorem d29:bg ⟨["_law_script","_law_size","_law_net_here","_law_ends_here","_law_kind","_law_names","_law_turn","_law_beside","_law_ones","_law_others","_law_rule_here","_law_found","_law_cell_here","_law_part"],aa (top 28),Jl.map (λr=>(r.1,r.2.1)),cons,tb⟩ kX (ak (top 28))=true:=by decide +kernel
section
variable {P:Program} {w:World} {K:PySem.W.Frag} {mg:Str->Option Value} {base:Heap}
theorem all_mk{l:PySem.W.OpenLaw}{h:Heap}{fa:Addr}(X:K.In h)(G:h.Ns mainGlobals mg)(P8:mg "law" = some (.ref fa))(hφ:∀ns:List Int,ns.length<=63->∃h',Fc [.rl (ns.map .int)] []=.ok (.bl true) h'){D0:Addr}{D1:Addr}{D2:Addr}{E0:Addr}{oc0 kV0 dc0 pm0 Zu ct0:Value}{od0 an0:Option Addr}{sl0:Array (Option Value)}{a0:Addr}{oc1 kV1 dc1 pm1 Zv ct1:Value}{od1 an1:Option Addr}{sl1:Array (Option Value)}{a1:Addr}{oc2 kV2 dc2 pm2 Zw ct2:Value}{od2 ML:Option Addr}{sl2:Array (Option Value)}{a2:Addr}{oc3 kV3 dc3 pm3 Zx ct3:Value}{od3 an3:Option Addr}{sl3:Array (Option Value)}{a3:Addr}{oc4 kV4 dc4 pm4 Zy ct4:Value}{od4 an4:Option Addr}{sl4:Array (Option Value)}{a4:Addr}{oc5 kV5 dc5 pm5 Zz ct5:Value}{od5 an5:Option Addr}{sl5:Array (Option Value)}{a5:Addr}{oc6 kV6 dc6 pm6 ZA ct6:Value}{od6 an6:Option Addr}{sl6:Array (Option Value)}{a6:Addr}{oc7 kV7 dc7 pm7 ZC ct7:Value}{od7 an7:Option Addr}{sl7:Array (Option Value)}{a7:Addr}{oc8 kV8 dc8 pm8 ZD ct8:Value}{od8 an8:Option Addr}{sl8:Array (Option Value)}{a8:Addr}{oc9 kV9 dc9 pm9 ZE ct9:Value}{od9 an9:Option Addr}{sl9:Array (Option Value)}{a9:Addr}{Vh Vi Vj Vk RX Vl:Value}{Vm Vn:Option Addr}{Vo:Array (Option Value)}{RY:Addr}{Vp Vq Vr Vs RZ Vt:Value}{Vu Vv:Option Addr}{Vw:Array (Option Value)}{R0:Addr}{Vx Vy Vz VA R3 VB:Value}{VC VD:Option Addr}{VE:Array (Option Value)}{OH:Addr}{VF VG VH VI R4 VJ:Value}{VL VM:Option Addr}{VN:Array (Option Value)}{Te:Addr}{VO VP VQ VS R5 VT:Value}{VU VW:Option Addr}{VX:Array (Option Value)}{Kh:Addr}{VY VZ V3 V4 R6 V5:Value}{V6 V7:Option Addr}{V8:Array (Option Value)}{Tf:Addr}{V9 Wa Wb Wc R7 Wd:Value}{We Wf:Option Addr}{Wg:Array (Option Value)}{Kl:Addr}{Wh Wi Wj Wk R8 Wl:Value}{Wm Wn:Option Addr}{Wo:Array (Option Value)}{R9:Addr}{Wq Wr Ws Wt Sa Wu:Value}{Wv Ww:Option Addr}{Wx:Array (Option Value)}{Tg:Addr}{Wz WA WB WC Sb WD:Value}{WE WG:Option Addr}{WH:Array (Option Value)}{OI:Addr}{WI WJ WK WL Sd WM:Value}{WN WO:Option Addr}{WQ:Array (Option Value)}{OJ:Addr}{WR WS WU WW Se WX:Value}{WY WZ:Option Addr}{W0:Array (Option Value)}{OL:Addr}{W2 W3 W4 W5 Sf W6:Value}{W7 W8:Option Addr}{W9:Array (Option Value)}{Km:Addr}{Xa Xb Xc Xd Sg Xe:Value}{Xf Xg:Option Addr}{Xh:Array (Option Value)}{Ti:Addr}{Xi Xj Xk Xl Sh Xm:Value}{Xn Xo:Option Addr}{Xp:Array (Option Value)}{Tj:Addr}{Xq Xr Xs Xu Si Xv:Value}{Xw Xx:Option Addr}{Xy:Array (Option Value)}{Tn:Addr}{Xz XA XC XD Sj XE:Value}{XF XG:Option Addr}{XH:Array (Option Value)}{To:Addr}{XI XJ XM XO Sk XQ:Value}{XR XS:Option Addr}{XT:Array (Option Value)}{Tp:Addr}{XU XW XX XY Sm XZ:Value}{X0 X3:Option Addr}{X4:Array (Option Value)}{Tq:Addr}{X5 Sn So Sq NY Ss:Value}{X6 Su:Option Addr}{X7:Array (Option Value)}{X8:Addr}{tk0:Tok}
  (DA0:PySem.W.nsIn K mainGlobals "Rule" = some (some (.ref D0))) (DG0:plainGet K D0 Str.empty=true) (DH0:hasDictIn K D0=true) (DO0:plainOver K D0=true) (DS0:findIn K (.ref D0) "__setattr__" = some (some (.builtin "object.__setattr__"))) (DM0:makesIn K D0=true) (DK0:keepIn K (.ref D0)=true)
  (DN0_0:findIn K (.ref D0) "net" = some none)
  (DN0_1:findIn K (.ref D0) "places" = some none)
  (DN0_2:findIn K (.ref D0) "ends" = some none)
  (DN0_3:findIn K (.ref D0) "whole" = some none)
  (DA1:PySem.W.nsIn K mainGlobals "ByTrees" = some (some (.ref D1))) (DG1:plainGet K D1 Str.empty=true) (DH1:hasDictIn K D1=true) (DO1:plainOver K D1=true) (DS1:findIn K (.ref D1) "__setattr__" = some (some (.builtin "object.__setattr__"))) (DM1:makesIn K D1=true) (DK1:keepIn K (.ref D1)=true)
  (DN1_0:findIn K (.ref D1) "net" = some none)
  (DN1_1:findIn K (.ref D1) "places" = some none)
  (DN1_2:findIn K (.ref D1) "ends" = some none)
  (DN1_3:findIn K (.ref D1) "whole" = some none)
  (DA2:PySem.W.nsIn K mainGlobals "ByRest" = some (some (.ref D2))) (DG2:plainGet K D2 Str.empty=true) (DH2:hasDictIn K D2=true) (DO2:plainOver K D2=true) (DS2:findIn K (.ref D2) "__setattr__" = some (some (.builtin "object.__setattr__"))) (DM2:makesIn K D2=true) (DK2:keepIn K (.ref D2)=true)
  (DN2_0:findIn K (.ref D2) "net" = some none)
  (DN2_1:findIn K (.ref D2) "places" = some none)
  (DN2_2:findIn K (.ref D2) "ends" = some none)
  (DN2_3:findIn K (.ref D2) "whole" = some none)
  (EA0:PySem.W.nsIn K mainGlobals "Rule" = some (some (.ref E0)))
  (EG0:specialIn K (.ref E0) "__getattribute__" = some (some (.builtin "type.__getattribute__"))) (ER0:readsIn K E0 (.type "type")=true)
  (A0:PySem.W.nsIn K mainGlobals "_law_cell" = some (some (.ref a0)))
  (L0:K.lookup a0=some ⟨oc0,od0,.func (PySem.W.fnOf "_law_cell" "_law_cell" (aF (top 16)) (ak (top 16)) (aa (top 16)) .none kV0 dc0 pm0 an0 Zu ct0),sl0⟩) (C0:codeIn K Zu "_law_cell" = true) (Q0:keepIn K (.ref a0)=true)
  (A1:PySem.W.nsIn K mainGlobals "_law_number" = some (some (.ref a1)))
  (L1:K.lookup a1=some ⟨oc1,od1,.func (PySem.W.fnOf "_law_number" "_law_number" (aF (top 17)) (ak (top 17)) (aa (top 17)) .none kV1 dc1 pm1 an1 Zv ct1),sl1⟩) (C1:codeIn K Zv "_law_number" = true) (Q1:keepIn K (.ref a1)=true)
  (A2:PySem.W.nsIn K mainGlobals "_law_net" = some (some (.ref a2)))
  (L2:K.lookup a2=some ⟨oc2,od2,.func (PySem.W.fnOf "_law_net" "_law_net" (aF (top 18)) (ak (top 18)) (aa (top 18)) .none kV2 dc2 pm2 ML Zw ct2),sl2⟩) (C2:codeIn K Zw "_law_net" = true) (Q2:keepIn K (.ref a2)=true)
  (A3:PySem.W.nsIn K mainGlobals "_law_ends" = some (some (.ref a3)))
  (L3:K.lookup a3=some ⟨oc3,od3,.func (PySem.W.fnOf "_law_ends" "_law_ends" (aF (top 19)) (ak (top 19)) (aa (top 19)) .none kV3 dc3 pm3 an3 Zx ct3),sl3⟩) (C3:codeIn K Zx "_law_ends" = true) (Q3:keepIn K (.ref a3)=true)
  (A4:PySem.W.nsIn K mainGlobals "_law_joined" = some (some (.ref a4)))
  (L4:K.lookup a4=some ⟨oc4,od4,.func (PySem.W.fnOf "_law_joined" "_law_joined" (aF (top 20)) (ak (top 20)) (aa (top 20)) .none kV4 dc4 pm4 an4 Zy ct4),sl4⟩) (C4:codeIn K Zy "_law_joined" = true) (Q4:keepIn K (.ref a4)=true)
  (A5:PySem.W.nsIn K mainGlobals "_law_rank" = some (some (.ref a5)))
  (L5:K.lookup a5=some ⟨oc5,od5,.func (PySem.W.fnOf "_law_rank" "_law_rank" (aF (top 21)) (ak (top 21)) (aa (top 21)) .none kV5 dc5 pm5 an5 Zz ct5),sl5⟩) (C5:codeIn K Zz "_law_rank" = true) (Q5:keepIn K (.ref a5)=true)
  (A6:PySem.W.nsIn K mainGlobals "_law_free_row" = some (some (.ref a6)))
  (L6:K.lookup a6=some ⟨oc6,od6,.func (PySem.W.fnOf "_law_free_row" "_law_free_row" (aF (top 24)) (ak (top 24)) (aa (top 24)) .none kV6 dc6 pm6 an6 ZA ct6),sl6⟩) (C6:codeIn K ZA "_law_free_row" = true) (Q6:keepIn K (.ref a6)=true)
  (A7:PySem.W.nsIn K mainGlobals "put_in_order" = some (some (.ref a7)))
  (L7:K.lookup a7=some ⟨oc7,od7,.func (PySem.W.fnOf "put_in_order" "put_in_order" (aF (top 1)) (ak (top 1)) (aa (top 1)) .none kV7 dc7 pm7 an7 ZC ct7),sl7⟩) (C7:codeIn K ZC "put_in_order" = true) (Q7:keepIn K (.ref a7)=true)
  (A8:PySem.W.nsIn K mainGlobals "own_net" = some (some (.ref a8)))
  (L8:K.lookup a8=some ⟨oc8,od8,.func (PySem.W.fnOf "own_net" "own_net" (aF (top 2)) (ak (top 2)) (aa (top 2)) .none kV8 dc8 pm8 an8 ZD ct8),sl8⟩) (C8:codeIn K ZD "own_net" = true) (Q8:keepIn K (.ref a8)=true)
  (A9:PySem.W.nsIn K mainGlobals "places_of" = some (some (.ref a9)))
  (L9:K.lookup a9=some ⟨oc9,od9,.func (PySem.W.fnOf "places_of" "places_of" (aF (top 3)) (ak (top 3)) (aa (top 3)) .none kV9 dc9 pm9 an9 ZE ct9),sl9⟩) (C9:codeIn K ZE "places_of" = true) (Q9:keepIn K (.ref a9)=true)
  (A10:findIn K (.ref D0) "__init__" = some (some (.ref RY))) (I10:PySem.W.isFn K (.ref RY)=true)
  (L10:K.lookup RY=some ⟨Vh,Vm,.func (PySem.W.fnOf "__init__" "Rule.__init__" (aF (bP 0)) (ak (bP 0)) (aa (bP 0)) .none Vi Vj Vk Vn RX Vl),Vo⟩) (C10:codeIn K RX "Rule.__init__" = true) (Q10:keepIn K (.ref RY)=true)
  (A11:findIn K (.ref D1) "__init__" = some (some (.ref R0))) (I11:PySem.W.isFn K (.ref R0)=true)
  (L11:K.lookup R0=some ⟨Vp,Vu,.func (PySem.W.fnOf "__init__" "Rule.__init__" (aF (bP 0)) (ak (bP 0)) (aa (bP 0)) .none Vq Vr Vs Vv RZ Vt),Vw⟩) (C11:codeIn K RZ "Rule.__init__" = true) (Q11:keepIn K (.ref R0)=true)
  (EF0_12:findCls K (.ref E0) (.type "type") "__init__" = some (.val (.ref OH)))
  (I12:PySem.W.isFn K (.ref OH)=true)
  (L12:K.lookup OH=some ⟨Vx,VC,.func (PySem.W.fnOf "__init__" "Rule.__init__" (aF (bP 0)) (ak (bP 0)) (aa (bP 0)) .none Vy Vz VA VD R3 VB),VE⟩) (C12:codeIn K R3 "Rule.__init__" = true) (Q12:keepIn K (.ref OH)=true)
  (A13:PySem.W.nsIn K mainGlobals "firsts_by" = some (some (.ref Te)))
  (L13:K.lookup Te=some ⟨VF,VL,.func (PySem.W.fnOf "firsts_by" "firsts_by" (aF (top 6)) (ak (top 6)) (aa (top 6)) .none VG VH VI VM R4 VJ),VN⟩) (C13:codeIn K R4 "firsts_by" = true) (Q13:keepIn K (.ref Te)=true)
  (M0_14:findIn K (.ref D0) "tree_rank" = some (some (.ref Kh)))
  (M1_14:findIn K (.ref D1) "tree_rank" = some (some (.ref Kh)))
  (M2_14:findIn K (.ref D2) "tree_rank" = some (some (.ref Kh)))
  (I14:PySem.W.isFn K (.ref Kh)=true)
  (L14:K.lookup Kh=some ⟨VO,VU,.func (PySem.W.fnOf "tree_rank" "Rule.tree_rank" (aF (bP 7)) (ak (bP 7)) (aa (bP 7)) .none VP VQ VS VW R5 VT),VX⟩) (C14:codeIn K R5 "Rule.tree_rank" = true) (Q14:keepIn K (.ref Kh)=true)
  (A15:PySem.W.nsIn K mainGlobals "names_of" = some (some (.ref Tf)))
  (L15:K.lookup Tf=some ⟨VY,V6,.func (PySem.W.fnOf "names_of" "names_of" (aF (top 4)) (ak (top 4)) (aa (top 4)) .none VZ V3 V4 V7 R6 V5),V8⟩) (C15:codeIn K R6 "names_of" = true) (Q15:keepIn K (.ref Tf)=true)
  (M0_16:findIn K (.ref D0) "ties" = some (some (.ref Kl)))
  (M1_16:findIn K (.ref D1) "ties" = some (some (.ref Kl)))
  (M2_16:findIn K (.ref D2) "ties" = some (some (.ref Kl)))
  (I16:PySem.W.isFn K (.ref Kl)=true)
  (L16:K.lookup Kl=some ⟨V9,We,.func (PySem.W.fnOf "ties" "Rule.ties" (aF (bP 3)) (ak (bP 3)) (aa (bP 3)) .none Wa Wb Wc Wf R7 Wd),Wg⟩) (C16:codeIn K R7 "Rule.ties" = true) (Q16:keepIn K (.ref Kl)=true)
  (A17:findIn K (.ref D2) "__init__" = some (some (.ref R9))) (I17:PySem.W.isFn K (.ref R9)=true)
  (L17:K.lookup R9=some ⟨Wh,Wm,.func (PySem.W.fnOf "__init__" "ByRest.__init__" (aF (iS 0)) (ak (iS 0)) (aa (iS 0)) .none Wi Wj Wk Wn R8 Wl),Wo⟩) (C17:codeIn K R8 "ByRest.__init__" = true) (Q17:keepIn K (.ref R9)=true)
  (A18:PySem.W.nsIn K mainGlobals "_law_rule" = some (some (.ref Tg)))
  (L18:K.lookup Tg=some ⟨Wq,Wv,.func (PySem.W.fnOf "_law_rule" "_law_rule" (aF (top 22)) (ak (top 22)) (aa (top 22)) .none Wr Ws Wt Ww Sa Wu),Wx⟩) (C18:codeIn K Sa "_law_rule" = true) (Q18:keepIn K (.ref Tg)=true)
  (M0_19:findIn K (.ref D0) "rank" = some (some (.ref OI)))
  (I19:PySem.W.isFn K (.ref OI)=true)
  (L19:K.lookup OI=some ⟨Wz,WE,.func (PySem.W.fnOf "rank" "Rule.rank" (aF (bP 4)) (ak (bP 4)) (aa (bP 4)) .none WA WB WC WG Sb WD),WH⟩) (C19:codeIn K Sb "Rule.rank" = true) (Q19:keepIn K (.ref OI)=true)
  (M1_20:findIn K (.ref D1) "rank" = some (some (.ref OJ)))
  (I20:PySem.W.isFn K (.ref OJ)=true)
  (L20:K.lookup OJ=some ⟨WI,WN,.func (PySem.W.fnOf "rank" "ByTrees.rank" (aF (rS 1)) (ak (rS 1)) (aa (rS 1)) .none WJ WK WL WO Sd WM),WQ⟩) (C20:codeIn K Sd "ByTrees.rank" = true) (Q20:keepIn K (.ref OJ)=true)
  (M2_21:findIn K (.ref D2) "rank" = some (some (.ref OL)))
  (I21:PySem.W.isFn K (.ref OL)=true)
  (L21:K.lookup OL=some ⟨WR,WY,.func (PySem.W.fnOf "rank" "ByRest.rank" (aF (iS 2)) (ak (iS 2)) (aa (iS 2)) .none WS WU WW WZ Se WX),W0⟩) (C21:codeIn K Se "ByRest.rank" = true) (Q21:keepIn K (.ref OL)=true)
  (M0_22:findIn K (.ref D0) "reach" = some (some (.ref Km)))
  (M1_22:findIn K (.ref D1) "reach" = some (some (.ref Km)))
  (M2_22:findIn K (.ref D2) "reach" = some (some (.ref Km)))
  (I22:PySem.W.isFn K (.ref Km)=true)
  (L22:K.lookup Km=some ⟨W2,W7,.func (PySem.W.fnOf "reach" "Rule.reach" (aF (bP 6)) (ak (bP 6)) (aa (bP 6)) .none W3 W4 W5 W8 Sf W6),W9⟩) (C22:codeIn K Sf "Rule.reach" = true) (Q22:keepIn K (.ref Km)=true)
  (A23:PySem.W.nsIn K mainGlobals "reached_by" = some (some (.ref Ti)))
  (L23:K.lookup Ti=some ⟨Xa,Xf,.func (PySem.W.fnOf "reached_by" "reached_by" (aF (top 14)) (ak (top 14)) (aa (top 14)) .none Xb Xc Xd Xg Sg Xe),Xh⟩) (C23:codeIn K Sg "reached_by" = true) (Q23:keepIn K (.ref Ti)=true)
  (A24:PySem.W.nsIn K mainGlobals "thinned" = some (some (.ref Tj)))
  (L24:K.lookup Tj=some ⟨Xi,Xn,.func (PySem.W.fnOf "thinned" "thinned" (aF (top 13)) (ak (top 13)) (aa (top 13)) .none Xj Xk Xl Xo Sh Xm),Xp⟩) (C24:codeIn K Sh "thinned" = true) (Q24:keepIn K (.ref Tj)=true)
  (A25:PySem.W.nsIn K mainGlobals "_law_gap_numbers" = some (some (.ref Tn)))
  (L25:K.lookup Tn=some ⟨Xq,Xw,.func (PySem.W.fnOf "_law_gap_numbers" "_law_gap_numbers" (aF (top 26)) (ak (top 26)) (aa (top 26)) .none Xr Xs Xu Xx Si Xv),Xy⟩) (C25:codeIn K Si "_law_gap_numbers" = true) (Q25:keepIn K (.ref Tn)=true)
  (A26:PySem.W.nsIn K mainGlobals "_law_any_net" = some (some (.ref To)))
  (L26:K.lookup To=some ⟨Xz,XF,.func (PySem.W.fnOf "_law_any_net" "_law_any_net" (aF (top 27)) (ak (top 27)) (aa (top 27)) .none XA XC XD XG Sj XE),XH⟩) (C26:codeIn K Sj "_law_any_net" = true) (Q26:keepIn K (.ref To)=true)
  (A27:PySem.W.nsIn K mainGlobals "_law_row" = some (some (.ref Tp)))
  (L27:K.lookup Tp=some ⟨XI,XR,.func (PySem.W.fnOf "_law_row" "_law_row" (aF (top 23)) (ak (top 23)) (aa (top 23)) .none XJ XM XO XS Sk XQ),XT⟩) (C27:codeIn K Sk "_law_row" = true) (Q27:keepIn K (.ref Tp)=true)
  (A28:PySem.W.nsIn K mainGlobals "_law_reached" = some (some (.ref Tq)))
  (L28:K.lookup Tq=some ⟨XU,X0,.func (PySem.W.fnOf "_law_reached" "_law_reached" (aF (top 25)) (ak (top 25)) (aa (top 25)) .none XW XX XY X3 Sm XZ),X4⟩) (C28:codeIn K Sm "_law_reached" = true) (Q28:keepIn K (.ref Tq)=true)
  (A29:PySem.W.nsIn K mainGlobals "law" = some (some (.ref X8)))
  (L29:K.lookup X8=some ⟨X5,X6,.func (PySem.W.fnOf "law" "law" (aF (top 28)) (ak (top 28)) (aa (top 28)) .none Sn So Sq Su NY Ss),X7⟩) (C29:codeIn K NY "law" = true) (Q29:keepIn K (.ref X8)=true)
  (Z0:PySem.W.nsIn K mainGlobals "len" = some none)
  (Z1:PySem.W.nsIn K mainGlobals "min" = some none)
  (Z2:PySem.W.nsIn K mainGlobals "max" = some none)
  (Z3:PySem.W.nsIn K mainGlobals "sorted" = some none)
  (Z4:PySem.W.nsIn K mainGlobals "list" = some none)
  (Z5:PySem.W.nsIn K mainGlobals "tuple" = some none)
  (Z6:PySem.W.nsIn K mainGlobals "str" = some none)
  (Z7:PySem.W.nsIn K mainGlobals "all" = some none)
  (Z8:PySem.W.nsIn K mainGlobals "any" = some none)
  (Z9:PySem.W.nsIn K mainGlobals "isinstance" = some none)
  (Z10:PySem.W.nsIn K mainGlobals "range" = some none)
  (Z11:PySem.W.nsIn K mainGlobals "enumerate" = some none)
  (Z12:PySem.W.nsIn K mainGlobals "int" = some none)
  (Z13:PySem.W.nsIn K mainGlobals "bool" = some none)
  (Z14:PySem.W.nsIn K mainGlobals "dict" = some none)
  (Z15:PySem.W.nsIn K mainGlobals "set" = some none)
  (Z16:PySem.W.nsIn K mainGlobals "zip" = some none)
  (V0:PySem.W.nsIn K mainGlobals "THOUGHT" = some (some (.int (-1) tk0))) :
  ∃fd:FuncData,(∀(s:Shared) (v:Value),BindsTo s fd ⟨[v],[]⟩ [("_law_script",v)])/\∀base:Heap,K.In base->base.Ns mainGlobals mg->fU l.prog w K mg base yr 60 fa fd ["_law_script"] (S5 K):=by
 have e:=P8.symm.trans (mg_of X G A29);cases e;obtain⟨cl,hcl⟩:∃cl:Nat->Addr,cl=λn=>if n=0 then D0 else if n=1 then D1 else if n=2 then D2 else if n=1012 then OH else if n=1014 then Kh else if n=1016 then Kl else if n=1019 then OI else if n=1020 then OJ else if n=1021 then OL else if n=1022 then Km else 0:=⟨_,rfl⟩
 have T:Base K cl mg cons tb:=by
  subst hcl;refine⟨λx hx=>?_,λp hp=>?_,λc hc=>?_,λp hp=>?_,λp hp=>?_,λp hp=>?_⟩
  ·simp only[iu,mem_cons,not_mem_nil,or_false]at hx
   rcases hx with rfl|rfl|rfl|rfl|rfl|rfl|rfl|rfl|rfl|rfl|rfl|rfl|rfl|rfl|rfl|rfl|rfl
   ·exact mg_none_of X G Z0
   ·exact mg_none_of X G Z1
   ·exact mg_none_of X G Z2
   ·exact mg_none_of X G Z3
   ·exact mg_none_of X G Z4
   ·exact mg_none_of X G Z5
   ·exact mg_none_of X G Z6
   ·exact mg_none_of X G Z7
   ·exact mg_none_of X G Z8
   ·exact mg_none_of X G Z9
   ·exact mg_none_of X G Z10
   ·exact mg_none_of X G Z11
   ·exact mg_none_of X G Z12
   ·exact mg_none_of X G Z13
   ·exact mg_none_of X G Z14
   ·exact mg_none_of X G Z15
   ·exact mg_none_of X G Z16
  ·simp only[cons,mem_cons,not_mem_nil,or_false]at hp
   rcases hp with rfl
   ·exact⟨.int (-1),_,mg_of X G V0,⟨_,rfl⟩,λ_ _ _=>VR.int⟩
  ·have hc:c<3:=hc
   match c,hc with
   |0,_=>
    refine⟨⟨DG0,DH0,DO0,DS0⟩,λx hx=>?_⟩;simp only[tb,mem_cons,not_mem_nil,or_false]at hx
    rcases hx with rfl|rfl|rfl|rfl
    ·exact DN0_0
    ·exact DN0_1
    ·exact DN0_2
    ·exact DN0_3
   |1,_=>
    refine⟨⟨DG1,DH1,DO1,DS1⟩,λx hx=>?_⟩;simp only[tb,mem_cons,not_mem_nil,or_false]at hx
    rcases hx with rfl|rfl|rfl|rfl
    ·exact DN1_0
    ·exact DN1_1
    ·exact DN1_2
    ·exact DN1_3
   |2,_=>
    refine⟨⟨DG2,DH2,DO2,DS2⟩,λx hx=>?_⟩;simp only[tb,mem_cons,not_mem_nil,or_false]at hx
    rcases hx with rfl|rfl|rfl|rfl
    ·exact DN2_0
    ·exact DN2_1
    ·exact DN2_2
    ·exact DN2_3
  ·simp only[tb,mem_cons,not_mem_nil,or_false]at hp
   rcases hp with rfl|rfl|rfl|rfl|rfl|rfl|rfl|rfl|rfl|rfl|rfl|rfl
   ·exact⟨M0_14,I14,Q14⟩
   ·exact⟨M1_14,I14,Q14⟩
   ·exact⟨M2_14,I14,Q14⟩
   ·exact⟨M0_16,I16,Q16⟩
   ·exact⟨M1_16,I16,Q16⟩
   ·exact⟨M2_16,I16,Q16⟩
   ·exact⟨M0_19,I19,Q19⟩
   ·exact⟨M1_20,I20,Q20⟩
   ·exact⟨M2_21,I21,Q21⟩
   ·exact⟨M0_22,I22,Q22⟩
   ·exact⟨M1_22,I22,Q22⟩
   ·exact⟨M2_22,I22,Q22⟩
  ·simp only[tb,mem_cons,not_mem_nil,or_false]at hp
   rcases hp with rfl
   ·exact⟨E0,mg_of X G EA0,⟨EG0,ER0,EF0_12,Q12⟩⟩
  ·simp[tb]at hp
 have F0:=bx (st:=(top 16)) L0 C0 Q0;have b0:=F0.binds (ps:=Jk) λ_ _ _ _ _ _ us hl=>by obtain⟨_,_,rfl⟩:=fR hl;exact rfl
 have F1:=bx (st:=(top 17)) L1 C1 Q1;have b1:=F1.binds (ps:=["_law_one","_law_two","_law_k"]) λ_ _ _ _ _ _ us hl=>by obtain⟨_,_,_,rfl⟩:=uv hl;exact rfl
 have F2:=bx (st:=(top 18)) L2 C2 Q2;have b2:=F2.binds (ps:=["_law_script","_law_cells"]) λ_ _ _ _ _ _ us hl=>by obtain⟨_,_,rfl⟩:=fR hl;exact rfl
 have F3:=bx (st:=(top 19)) L3 C3 Q3;have b3:=F3.binds (ps:=["_law_net_here"]) λ_ _ _ _ _ _ us hl=>by obtain⟨_,rfl⟩:=xA hl;exact rfl
 have F4:=bx (st:=(top 20)) L4 C4 Q4;have b4:=F4.binds (ps:=["_law_ends_here","_law_row_here"]) λ_ _ _ _ _ _ us hl=>by obtain⟨_,_,rfl⟩:=fR hl;exact rfl
 have F5:=bx (st:=(top 21)) L5 C5 Q5;have b5:=F5.binds (ps:=AO) λ_ _ _ _ _ _ us hl=>by obtain⟨_,_,_,rfl⟩:=uv hl;exact rfl
 have F6:=bx (st:=(top 24)) L6 C6 Q6;have b6:=F6.binds (ps:=Kf) λ_ _ _ _ _ _ us hl=>by obtain⟨_,_,_,rfl⟩:=uv hl;exact rfl
 have F7:=bx (st:=(top 1)) L7 C7 Q7;have b7:=F7.binds (ps:=["poles","ties"]) λ_ _ _ _ _ _ us hl=>by obtain⟨_,_,rfl⟩:=fR hl;exact rfl
 have F8:=bx (st:=(top 2)) L8 C8 Q8;have b8:=F8.binds (ps:=["net"]) λ_ _ _ _ _ _ us hl=>by obtain⟨_,rfl⟩:=xA hl;exact rfl
 have F9:=bx (st:=(top 3)) L9 C9 Q9;have b9:=F9.binds (ps:=["net"]) λ_ _ _ _ _ _ us hl=>by obtain⟨_,rfl⟩:=xA hl;exact rfl
 have ZF:=bx (st:=(bP 0)) L10 C10 Q10;have b10:=ZF.binds (ps:=lY) λ_ _ _ _ _ _ us hl=>by obtain⟨_,_,rfl⟩:=fR hl;exact rfl
 have ZG:=bx (st:=(bP 0)) L11 C11 Q11;have b11:=ZG.binds (ps:=lY) λ_ _ _ _ _ _ us hl=>by obtain⟨_,_,rfl⟩:=fR hl;exact rfl
 have ZH:=bx (st:=(bP 0)) L12 C12 Q12;have b12:=ZH.binds (ps:=lY) λ_ _ _ _ _ _ us hl=>by obtain⟨_,_,rfl⟩:=fR hl;exact rfl
 have ZI:=bx (st:=(top 6)) L13 C13 Q13;have b13:=ZI.binds (ps:=["places","pairs"]) λ_ _ _ _ _ _ us hl=>by obtain⟨_,_,rfl⟩:=fR hl;exact rfl
 have ZJ:=bx (st:=(bP 7)) L14 C14 Q14;have b14:=ZJ.binds (ps:=iR) λ_ _ _ _ _ _ us hl=>by obtain⟨_,_,rfl⟩:=fR hl;exact rfl
 have ZK:=bx (st:=(top 4)) L15 C15 Q15;have b15:=ZK.binds (ps:=["net"]) λ_ _ _ _ _ _ us hl=>by obtain⟨_,rfl⟩:=xA hl;exact rfl
 have ZL:=bx (st:=(bP 3)) L16 C16 Q16;have b16:=ZL.binds (ps:=["self"]) λ_ _ _ _ _ _ us hl=>by obtain⟨_,rfl⟩:=xA hl;exact rfl
 have ZM:=bx (st:=(iS 0)) L17 C17 Q17;have b17:=ZM.binds (ps:=lY) λ_ _ _ _ _ _ us hl=>by obtain⟨_,_,rfl⟩:=fR hl;exact rfl
 have ZN:=bx (st:=(top 22)) L18 C18 Q18;have b18:=ZN.binds (ps:=AN) λ_ _ _ _ _ _ us hl=>by obtain⟨_,_,rfl⟩:=fR hl;exact rfl
 have ZO:=bx (st:=(bP 4)) L19 C19 Q19;have b19:=ZO.binds (ps:=iR) λ_ _ _ _ _ _ us hl=>by obtain⟨_,_,rfl⟩:=fR hl;exact rfl
 have ZP:=bx (st:=(rS 1)) L20 C20 Q20;have b20:=ZP.binds (ps:=iR) λ_ _ _ _ _ _ us hl=>by obtain⟨_,_,rfl⟩:=fR hl;exact rfl
 have ZQ:=bx (st:=(iS 2)) L21 C21 Q21;have b21:=ZQ.binds (ps:=iR) λ_ _ _ _ _ _ us hl=>by obtain⟨_,_,rfl⟩:=fR hl;exact rfl
 have ZR:=bx (st:=(bP 6)) L22 C22 Q22;have b22:=ZR.binds (ps:=iR) λ_ _ _ _ _ _ us hl=>by obtain⟨_,_,rfl⟩:=fR hl;exact rfl
 have ZS:=bx (st:=(top 14)) L23 C23 Q23;have b23:=ZS.binds (ps:=["rule","row","other"]) λ_ _ _ _ _ _ us hl=>by obtain⟨_,_,_,rfl⟩:=uv hl;exact rfl
 have ZT:=bx (st:=(top 13)) L24 C24 Q24;have b24:=ZT.binds (ps:=["rule","ones","others"]) λ_ _ _ _ _ _ us hl=>by obtain⟨_,_,_,rfl⟩:=uv hl;exact rfl
 have ZU:=bx (st:=(top 26)) L25 C25 Q25;have b25:=ZU.binds (ps:=["_law_cell_here","_law_many"]) λ_ _ _ _ _ _ us hl=>by obtain⟨_,_,rfl⟩:=fR hl;exact rfl
 have ZV:=bx (st:=(top 27)) L26 C26 Q26;have b26:=ZV.binds (ps:=["_law_script","_law_most"]) λ_ _ _ _ _ _ us hl=>by obtain⟨_,_,rfl⟩:=fR hl;exact rfl
 have ZW:=bx (st:=(top 23)) L27 C27 Q27;have b27:=ZW.binds (ps:=["_law_names","_law_cell_here"]) λ_ _ _ _ _ _ us hl=>by obtain⟨_,_,rfl⟩:=fR hl;exact rfl
 have ZX:=bx (st:=(top 25)) L28 C28 Q28;have b28:=ZX.binds (ps:=AO) λ_ _ _ _ _ _ us hl=>by obtain⟨_,_,_,rfl⟩:=uv hl;exact rfl
 have F29:=bx (st:=(top 28)) L29 C29 Q29;refine⟨PySem.W.fnOf "law" "law" (aF (top 28)) (ak (top 28)) (aa (top 28)) .none Sn So Sq Su NY Ss,λs v=>.of_eq rfl,λbase _ _=>?_⟩;have G0:cC l.prog w ⟨K,cl⟩ mg base 0 RI:=all_nil;have G1:cC l.prog w ⟨K,cl⟩ mg base 2 RJ:=bA (x:="_law_cell") (N:=Jk) (ps:=Jk) (body:=jB) (f:=a0) T G0 F0 (mg_of X G A0) b0 (by decide) c0 d0;have G2:cC l.prog w ⟨K,cl⟩ mg base 4 RK:=bA (x:="_law_number") (N:=Rz) (ps:=["_law_one","_law_two","_law_k"]) (body:=gu) (f:=a1) T G1 F1 (mg_of X G A1) b1 (by decide) c1 d1;have G3:cC l.prog w ⟨K,cl⟩ mg base 6 RL:=bA (x:="_law_net") (N:=RA) (ps:=["_law_script","_law_cells"]) (body:=kU) (f:=a2) T G2 F2 (mg_of X G A2) b2 (by decide) c2 d2;have G4:cC l.prog w ⟨K,cl⟩ mg base 8 RM:=bA (x:="_law_ends") (N:=RB) (ps:=["_law_net_here"]) (body:=jC) (f:=a3) T G3 F3 (mg_of X G A3) b3 (by decide) c3 d3;have G5:cC l.prog w ⟨K,cl⟩ mg base 10 RO:=bA (x:="_law_joined") (N:=RC) (ps:=["_law_ends_here","_law_row_here"]) (body:=gx) (f:=a4) T G4 F4 (mg_of X G A4) b4 (by decide) c4 d4;have G6:cC l.prog w ⟨K,cl⟩ mg base 12 RP:=bA (x:="_law_rank") (N:=RD) (ps:=AO) (body:=gc) (f:=a5) T G5 F5 (mg_of X G A5) b5 (by decide) c5 d5;have G7:cC l.prog w ⟨K,cl⟩ mg base 14 RQ:=bA (x:="_law_free_row") (N:=RE) (ps:=Kf) (body:=dU) (f:=a6) T G6 F6 (mg_of X G A6) b6 (by decide) c6 d6;have G8:cC l.prog w ⟨K,cl⟩ mg base 16 RS:=bA (x:="put_in_order") (N:=RG) (ps:=["poles","ties"]) (body:=cI) (f:=a7) T G7 F7 (mg_of X G A7) b7 (by decide) c7 d7;have G9:cC l.prog w ⟨K,cl⟩ mg base 18 RT:=bA (x:="own_net") (N:=["net"]) (ps:=["net"]) (body:=iB) (f:=a8) T G8 F8 (mg_of X G A8) b8 (by decide) c8 d8;have G10:cC l.prog w ⟨K,cl⟩ mg base 20 EK:=bA (x:="places_of") (N:=["net","places","tie"]) (ps:=["net"]) (body:=fG) (f:=a9) T G9 F9 (mg_of X G A9) b9 (by decide) c9 d9;have G11:cC l.prog w ⟨K,cl⟩ mg base 22 EM:=all_class (x:="Rule") (N:=Ci) (ps:=lY) (body:=vJ) (n:=1) (f:=RY) (c:=0) T G10 ZF (by rw[hcl];exact mg_of X G DA0) (by rw[hcl];exact⟨DM0,A10,I10,DK0⟩) b10 rfl (by decide) c10 OF;have G12:cC l.prog w ⟨K,cl⟩ mg base 24 EN:=all_class (x:="ByTrees") (N:=Ci) (ps:=lY) (body:=mE) (n:=1) (f:=R0) (c:=1) T G11 ZG (by rw[hcl];exact mg_of X G DA1) (by rw[hcl];exact⟨DM1,A11,I11,DK1⟩) b11 rfl (by decide) Td d11;have G13:cC l.prog w ⟨K,cl⟩ mg base 26 EO:=iy (y:="Rule.__init__") (N:=Ci) (ps:=lY) (body:=gf) (f:=OH) T G12 ZH (by rw[hcl];rfl) b12 c12 d12;have G14:cC l.prog w ⟨K,cl⟩ mg base 28 ES:=bA (x:="firsts_by") (N:=RH) (ps:=["places","pairs"]) (body:=fH) (f:=Te) T G13 ZI (mg_of X G A13) b13 (by decide) l0 RW;have G15:cC l.prog w ⟨K,cl⟩ mg base 30 ET:=iy (y:="Rule.tree_rank") (N:=["self","row","firsts"]) (ps:=iR) (body:=bX) (f:=Kh) T G14 ZJ (by rw[hcl];rfl) b14 c14 d14;have G16:cC l.prog w ⟨K,cl⟩ mg base 32 EU:=bA (x:="names_of") (N:=["net"]) (ps:=["net"]) (body:=gy) (f:=Tf) T G15 ZK (mg_of X G A15) b15 (by decide) c15 d15;have G17:cC l.prog w ⟨K,cl⟩ mg base 34 EW:=iy (y:="Rule.ties") (N:=["self"]) (ps:=["self"]) (body:=fJ) (f:=Kl) T G16 ZL (by rw[hcl];rfl) b16 c16 d16;have G18:cC l.prog w ⟨K,cl⟩ mg base 36 EY:=all_class (x:="ByRest") (N:=lY) (ps:=lY) (body:=oN) (n:=1) (f:=R9) (c:=2) T G17 ZM (by rw[hcl];exact mg_of X G DA2) (by rw[hcl];exact⟨DM2,A17,I17,DK2⟩) b17 rfl (by decide) Vg d17;have G19:cC l.prog w ⟨K,cl⟩ mg base 38 EZ:=bA (x:="_law_rule") (N:=AN) (ps:=AN) (body:=gg) (f:=Tg) T G18 ZN (mg_of X G A18) b18 (by decide) c18 d18;have G20:cC l.prog w ⟨K,cl⟩ mg base 40 E1:=iy (y:="Rule.rank") (N:=iR) (ps:=iR) (body:=fK) (f:=OI) T G19 ZO (by rw[hcl];rfl) b19 c19 d19;have G21:cC l.prog w ⟨K,cl⟩ mg base 42 E2:=iy (y:="ByTrees.rank") (N:=iR) (ps:=iR) (body:=cJ) (f:=OJ) T G20 ZP (by rw[hcl];rfl) b20 c20 d20;have G22:cC l.prog w ⟨K,cl⟩ mg base 44 E4:=iy (y:="ByRest.rank") (N:=["self","row","rest"]) (ps:=iR) (body:=cZ) (f:=OL) T G21 ZQ (by rw[hcl];rfl) b21 c21 d21;have G23:cC l.prog w ⟨K,cl⟩ mg base 46 E5:=iy (y:="Rule.reach") (N:=["self","row","rank"]) (ps:=iR) (body:=dW) (f:=Km) T G22 ZR (by rw[hcl];rfl) b22 c22 d22;have G24:cC l.prog w ⟨K,cl⟩ mg base 48 E6:=bA (x:="reached_by") (N:=["rule","row","other","reached"]) (ps:=["rule","row","other"]) (body:=dX) (f:=Ti) T G23 ZS (mg_of X G A23) b23 (by decide) c23 d23;have G25:cC l.prog w ⟨K,cl⟩ mg base 50 E7:=bA (x:="thinned") (N:=J9) (ps:=["rule","ones","others"]) (body:=gh) (f:=Tj) T G24 ZT (mg_of X G A24) b24 (by decide) c24 d24;have G26:cC l.prog w ⟨K,cl⟩ mg base 52 E8:=bA (x:="_law_gap_numbers") (N:=Ka) (ps:=["_law_cell_here","_law_many"]) (body:=bS) (f:=Tn) T G25 ZU (mg_of X G A25) b25 (by decide) c25 d25;have G27:cC l.prog w ⟨K,cl⟩ mg base 54 E9:=bA (x:="_law_any_net") (N:=Kc) (ps:=["_law_script","_law_most"]) (body:=fL) (f:=To) T G26 ZV (mg_of X G A26) b26 (by decide) c26 d26;have G28:cC l.prog w ⟨K,cl⟩ mg base 56 Fb:=bA (x:="_law_row") (N:=Kd) (ps:=["_law_names","_law_cell_here"]) (body:=kW) (f:=Tp) T G27 ZW (mg_of X G A27) b27 (by decide) c27 d27;have G29:cC l.prog w ⟨K,cl⟩ mg base 58 Jl:=bA (x:="_law_reached") (N:=Ke) (ps:=AO) (body:=fM) (f:=Tq) T G28 ZX (mg_of X G A28) b28 (by decide) c28 d28;exact(Ar T G29 F29 c29 d29).imp (MY hφ)
end
end K36
end
section
open PySem L2 Hv
set_option hygiene false
local macro_rules | `(tactic| simp only[EV,$ls,*] $[$l:location]?)=>`(tactic| simp only[eG,NH,NI,NJ,uy,QY,QZ,Ra,Rb,Rc,rG,Rf,Nx,Ny,Nz,rH,Rg,aV,aQ,yu,bI,vp,iz,S6,kg,YY,J6,bN,Nu,jT,vC,Nv,isVar,iM,List.getElem?_cons_zero,List.getElem?_cons_succ,set_cons_zero,set_cons_succ,map_cons,map_nil,length_cons,length_nil,cons_append,nil_append,List.replicate_succ,List.replicate_zero,Nat.reduceSub,Nat.reduceAdd,Nat.reduceLeDiff,Rh,Ri,U0,U1,U3,U4,U5,IZ,Rj,Rk,Eu,Rm,Rn,Ro,Rp,Rq,Rt,Ru,NB,NC,ND,NG,Rv,j3,bR,rA,UW,dQ,jZ,Hv.stored,List.contains_nil,List.contains_cons,List.elem_nil,List.elem_cons,Nat.reduceBEq,Nat.reduceEqDiff,BEq.rfl,all_cons,List.all_nil,beq_self_eq_true,xB,gr,tw,lW,oB,↓reduceIte,Bool.and_true,Bool.true_and,Bool.false_and,Bool.and_false,Bool.or_false,Bool.false_or,Bool.or_true,Bool.true_or,Bool.or_self,zero_le,Bool.not_true,Bool.not_false,false_eq_true,decide_eq_true_eq,not_eq_true',decide_eq_false_iff_not,append_nil,nil_append,reduceCtorEq,$ls,*] $[$l:location]?)
section
open PySem L2 Hv
namespace K36
noncomputable def cellAt(ns:List Int)(k:Nat):Int:=ns.getD k 0
theorem iV(ns:List Int)(k:Nat):aX [.rl (ns.map .int),.int k]=.ok (true,.int (cellAt ns k)):=by
 unfold aX jB
 by_cases h:k<ns.length
 ·have e:kj (List.map Val.int ns) (k:Int)=some (.int (ns[k])):=mL (by simp[h])
  have h':(k:Int)<ns.length:=by omega
  simp only[EV,kQ e,length_map,h',cellAt,List.getD,List.getElem?_eq_getElem h,Option.getD_some]
 ·have h':¬ (k:Int)<ns.length:=by omega
  have e:ns[k]?=none:=by simp;omega
  simp only[EV,length_map,h',cellAt,List.getD,e,getD_none]
noncomputable def iH(one two k:Int):Int:=(if 0<one%3 then 1+one/3%10 ^ 56 else 1)*(((1+two%66)*k+one)%67)+(if 0<one%3 then two/66%10 ^ 58 else 0)
theorem Co(a b:Int)(h:0<=b/\b<67):kD a b=true:=by
 unfold kD;simp only[or_eq_true,and_eq_true,decide_eq_true_eq];right;omega
theorem zF(a b:Int)(h:0<=a/\a<67):kD a b=true:=by
 unfold kD;simp only[or_eq_true,and_eq_true,decide_eq_true_eq];left;omega
theorem AS(one two k:Int):iC [.int one,.int two,.int k]=.ok (true,.int (iH one two k)):=by
 unfold iC gu iH;have m1:kD (1+two%66) k=true:=zF _ _ (by omega);have m2:∀x,kD x (((1+two%66)*k+one)%67)=true:=λx=>Co _ _ (by omega);simp only[EV,fF (show decide ((0:Int)<3)=true by decide),fF (show decide ((0:Int)<66)=true by decide),fF (show decide ((0:Int)<67)=true by decide),fE (show gQ 3=true by decide),fE (show gQ 66=true by decide),AG (show decide ((0:Int)<=56/\(56:Int)<=1000000/\(10:Int).natAbs<2 ^ 64)=true by decide),AG (show decide ((0:Int)<=58/\(58:Int)<=1000000/\(10:Int).natAbs<2 ^ 64)=true by decide),J7 m1,J7 (m2 _),fF (show decide ((0:Int)<10 ^ (56:Int).toNat)=true by decide),fF (show decide ((0:Int)<10 ^ (58:Int).toNat)=true by decide)]
 repeat' split
 all_goals first|rfl|contradiction
theorem Jv(one two k:Int):0<=iH one two k:=by
 unfold iH;generalize ((1+two%66)*k+one)=z;have hs:∃st:Int,(if 0<one%3 then 1+one/3%10 ^ 56 else 1)=st/\1<=st:=by refine⟨_,rfl,?_⟩;split<;>omega
 have hf:∃sh:Int,(if 0<one%3 then two/66%10 ^ 58 else 0)=sh/\0<=sh:=by refine⟨_,rfl,?_⟩;split<;>omega
 obtain⟨st,e1,a1⟩:=hs;obtain⟨sh,e2,b1⟩:=hf;rw[e1,e2];have p1:0<=st*(z%67):=Int.mul_nonneg (by omega) (by omega);omega
theorem Fw(one two i j:Int)(hi:0<=i/\i<67)(hj:0<=j/\j<67)(e:iH one two i=iH one two j):i=j:=by
 unfold iH at e;have hs:∃st:Int,(if 0<one%3 then 1+one/3%10 ^ 56 else 1)=st/\1<=st:=by refine⟨_,rfl,?_⟩;split<;>omega
 obtain⟨st,e1,a1⟩:=hs;rw[e1]at e;have e2:st*(((1+two%66)*i+one)%67)=st*(((1+two%66)*j+one)%67):=by omega
 have e3:=Int.eq_of_mul_eq_mul_left (by omega:st≠0) e2;exact Jg (by omega) hi hj e3
theorem Kn{n:Int}(h:inR n=true):kK .range [.int n]=some ((List.range n.toNat).map λ(i:Nat)=>Val.int (0+(i:Int))):=by
 show (if inR n=true then some (cz 0 n.toNat) else none)=_;rw[if_pos h];rfl
structure aY (p q:Int) (ts:List T3):Prop where
 ord:p<=q
 len:ts.length<=14
 up:EA ts
 ends:∀t∈ts,t.2.1<=t.2.2
 names:∀t∈ts,0<=t.1
theorem r6:∀(i:Nat) (ms:List Int) (pre post:List Val) (x:Val),cS i (ms.map .int)=pre++x::post->∃c:Int,x=.tup [.int ((i+pre.length:Nat):Int),.int c]
 |_,[],pre,post,x,h=>by simp[cS]at h
 | i,d::r,[],post,x,h=>by
  rw[map_cons,cS,nil_append]at h;injection h with h _
  exact⟨d,by rw[<-h];rfl⟩
 | i,d::r,y::pre,post,x,h=>by
  rw[map_cons,cS,cons_append]at h;injection h with _ h
  obtain⟨c,e⟩:=r6 (i+1) r pre post x h;exact⟨c,by rw[e,length_cons];congr 4;omega⟩
structure zG (one two:Int) (ts:List T3):Prop where
 name:∀i (h:i<ts.length),(ts[i]).1=iH one two i
 ends:∀t∈ts,t.2.1<=t.2.2
theorem zG.nodup{one two:Int}(h:zG one two ts)(hl:ts.length<=14):(ts.map (·.1)).Nodup:=by
 unfold List.Nodup;rw[pairwise_iff_getElem];intro i j hi hj hij;rw[length_map]at hi hj;rw[getElem_map,getElem_map,h.name i hi,h.name j hj];intro e;have:=Fw one two i j (by omega) (by omega) e;omega
theorem Sv(a b:Int):∃x y,PySem.W.sortI [a,b]=[x,y]/\x<=y:=by
 have hl:(PySem.W.sortI [a,b]).length=2:=(sortI_perm _).length_eq;have hs:=sortI_rises [a,b]
 match h:PySem.W.sortI [a,b],hl,hs with
 |[x,y],_,hs=>exact⟨x,y,rfl,by simpa using hs⟩
theorem yd(h:fQ xs=some ys):jP .sorted [.rl xs]=.ok (true,.rl ys):=by
 show (pb (pl (fQ xs)) (λys:List Val=>Pr.ok ((true,Val.rl ys):FV)):Pr FV)=_;rw[h];rfl
theorem NZ(ns ms:List Int)(hm:ms.length<=14):∃p q ts,nC [.rl (ns.map .int),.rl (ms.map .int)]=.ok (true,cG p q ts)/\aY p q ts/\ts.length=ms.length:=by
 have c0:aX [.rl (ns.map .int),.int 0]=.ok (true,.int (cellAt ns 0)):=iV ns 0;have c1:aX [.rl (ns.map .int),.int 1]=.ok (true,.int (cellAt ns 1)):=iV ns 1;have c2:aX [.rl (ns.map .int),.int 2]=.ok (true,.int (cellAt ns 2)):=iV ns 2;unfold nC kU;generalize cellAt ns 0=one at *;generalize cellAt ns 1=two at *;generalize cellAt ns 2=pick at *;have Sw:2<=2+pick%7/\2+pick%7<=8:=by omega
 simp only[EV,pU,c0,c1,c2,fF (show decide ((0:Int)<7)=true by decide)];generalize ZY:2+pick%7=many at *;have hR:inR many=true:=by unfold inR;simp only[and_eq_true,decide_eq_true_eq];omega
 have hc:many.toNat<=100000:=by omega
 simp only[EV,Kn hR,fS,length_map,length_range,hc];rw[eO (λi:Nat=>Val.int (0+(i:Int))) (λi:Nat=>.int (iH two one (0+(i:Int)))) (List.range many.toNat) (λi hi=>by
  simp only[EV,aU,iT,AS])]
 have hpl:∀i:Int,0<=i->i<many->kj ((List.range many.toNat).map λi:Nat=>Val.int (iH two one (0+(i:Int)))) i=some (.int (iH two one i)):=λi h0 h1=>by
  obtain⟨k,rfl⟩:=eq_ofNat_of_zero_le h0;refine mL ?_;rw[getElem?_map,List.getElem?_range (by omega)];simp
 generalize ePl:((List.range many.toNat).map λi:Nat=>Val.int (iH two one (0+(i:Int))))=Pl at *;simp only[EV,Rx]
 repeat rw[kP]
 have hx:cS 0 (ms.map Val.int)=(cS 0 (ms.map Val.int)).map id:=(map_id _).symm;rw[hx];have hmp:decide (0<many)=true:=by rw[decide_eq_true_eq];omega
 have Tr:gQ many=true:=by unfold gQ;rw[decide_eq_true_eq];omega
 have z3:3<=sizeLine:=by decide
 have z2:2<=sizeLine:=by decide
 refine bL id (λr:Pr FV=>∃p q ts,r=.ok (true,cG p q ts)/\aY p q ts/\ts.length=ms.length)
  (λdone env=>∃(ts:List T3) (m6:Mk) (a b c d:Option (Mk×Val)),env=[some (.sh,.rl (ns.map .int)),some (.sh,.rl (ms.map .int)),some (.sh,.int one),some (.sh,.int two),some (.sh,.int pick),some (.sh,.int many),some (m6,.rl Pl),some (.ow,.rl (ts.map dS)),a,b,c,d,none]/\oA m6=true/\ts.length=done.length/\zG one two ts)
  ⟨[],_,none,none,none,none,rfl,by first|rfl|exact uy,rfl,⟨λi h=>by simp at h,λ_ h=>by simp at h⟩⟩ ?_ ?_
 ·rintro pre x post env hx ⟨ts,m6,a,b,c,d,rfl,h6,hl,ok⟩
  have aad:pre.length<14:=by have:=congrArg length hx;rw[lD,length_map,length_append,length_cons]at this;omega
  obtain⟨cell,rfl⟩:=r6 _ _ _ _ _ hx;rw[Nat.zero_add];have i1:=hpl (cell%many) (emod_nonneg _ (by omega)) (emod_lt_of_pos _ (by omega));have i2:=hpl (cell/many%many) (emod_nonneg _ (by omega)) (emod_lt_of_pos _ (by omega));generalize iH two one (cell%many)=n1 at *;generalize iH two one (cell/many%many)=n2 at *;have e3:=AS one two (pre.length:Int);have z:ts.length<sizeLine:=by rw[hl];unfold sizeLine;omega
  have tt:Val.tup [.int (iH one two (pre.length:Int)),.int (if n2<n1 then n2 else n1),.int (if n2>n1 then n2 else n1)]=dS (turnT (iH one two (pre.length:Int),n1,n2)):=rfl;refine⟨_,?_,ts++[turnT (iH one two (pre.length:Int),n1,n2)],m6,some (.sh,.int pre.length),some (.sh,.int cell),some (.sh,.int n1),some (.sh,.int n2),rfl,h6,by simp[hl],⟨λi hi=>?_,λt ht=>?_⟩⟩
  ·simp only[EV,id,NK,h6,fF hmp,fE Tr,kQ i1,kQ i2,iT,e3,z3,tt,length_map,z,map_append]
  ·rw[List.getElem_append]
   split
   ·exact ok.name i (by assumption)
   ·simp only[length_append,length_cons,length_nil]at hi
    have:i=pre.length:=by omega
    subst this;simp[hl,turnT]
  ·rcases mem_append.mp ht with ht|ht
   ·exact ok.ends t ht
   ·rw[mem_singleton]at ht;subst ht;unfold turnT;dsimp only;split<;>split<;>omega
 ·rintro env ⟨ts,m6,a,b,c,d,rfl,h6,hl,ok⟩
  have Sx:ts.length<=14:=by rw[hl,lD,length_map];exact hm
  have j0:=hpl 0 (by omega) (by omega);have j1:kj Pl (1-(if pick/7%8=3 then 1 else 0))=some (.int (iH two one (1-(if pick/7%8=3 then 1 else 0)))):=hpl _ (by split<;>omega) (by split<;>omega);obtain⟨x,y,es,hxy⟩:=Sv (iH two one 0) (iH two one (1-(if pick/7%8=3 then 1 else 0)));generalize iH two one (1-(if pick/7%8=3 then 1 else 0))=n1 at *;have esV:jP .sorted [.rl [.int (iH two one 0),.int n1]]=.ok (true,.rl [.int x,.int y]):=by refine yd ?_;show (if 2<64 then some ((PySem.W.sortI [iH two one 0,n1]).map Val.int) else none)=_;rw[if_pos (by decide),es];rfl
  have eI:∀b:Bool,jP .int [.bl b]=.ok (true,.int (if b=true then 1 else 0)):=λ_=>rfl;have dI:(if decide (pick/7%8=3)=true then (1:Int) else 0)=if pick/7%8=3 then 1 else 0:=by
   by_cases c:pick/7%8=3<;>simp[c]
  refine⟨x,y,j5 ts,?_,⟨hxy,?_,?_,?_,?_⟩,?_⟩
  ·simp only[EV,h6,kQ j0,fE (show gQ 7=true by decide),fF (show decide ((0:Int)<8)=true by decide),eI,dI,kQ j1,z2,esV,kQ pT,kQ oH,xM (show ts.length<64 by omega)];rfl
  ·rw[(gb ts).length_eq];exact Sx
  ·exact xN ts (ok.nodup Sx)
  ·exact λt ht=>ok.ends t ((gb ts).mem_iff.mp ht)
  ·intro t ht;obtain⟨i,hi,rfl⟩:=getElem_of_mem ((gb ts).mem_iff.mp ht);rw[ok.name i hi];exact Jv _ _ _
  ·rw[(gb ts).length_eq,hl,lD,length_map]
end K36
end
section
open PySem L2 Hv
namespace K36
noncomputable def j9(p q:Int)(ts:List T3):List Int:=p::q::ts.flatMap λt=>[t.2.1,t.2.2]
noncomputable def oU(p q:Int)(ts:List T3):List Int:=fX (j9 p q ts)
theorem oV(p q:Int)(ts:List T3):(j9 p q ts).length=2+2*ts.length:=by
 unfold j9
 induction ts with
 |nil=>rfl
 |cons t r ih=>simp only[List.flatMap_cons,length_cons,length_append,length_nil] at *;omega
theorem ye:∀(ns ks:List Int),(ff ks ns).length<=ks.length+ns.length
 |[],ks=>Nat.le_refl _
 | k::r,ks=>by
  rw[ff,length_cons];have:=ye r (fq ks k);have:=qJ ks k;omega
theorem Jw{p q:Int}(h:ts.length<=14):(oU p q ts).length<64:=by
 unfold oU fX;rw[(sortI_perm _).length_eq];have:=ye (j9 p q ts) [];rw[oV]at this;simp only[length_nil]at this;omega
theorem qh{p q x:Int}:x∈oU p q ts↔x=p\/x=q\/∃t∈ts,x=t.2.1\/x=t.2.2:=by
 unfold oU;rw[Ez];unfold j9;simp only[mem_cons,List.mem_flatMap,not_mem_nil,or_false]
theorem places_eq{p q:Int}(h:ts.length<=14):bY [cG p q ts]=.ok (true,.rl ((oU p q ts).map .int)):=by
 unfold bY fG cG;simp only[EV,cY pT,cY oH,cU];rw[kP];refine bL dS (λr:Pr FV=>r=.ok (true,.rl ((oU p q ts).map .int)))
  (λdone env=>∃a,env=[some (.sh,cG p q ts),some (.ow,.rl ((j9 p q done).map .int)),a])
  ⟨none,rfl⟩ ?_ ?_
 ·rintro pre t post env hx ⟨a,rfl⟩
  refine⟨[some (.sh,cG p q ts),some (.ow,.rl ((j9 p q (pre++[t])).map .int)),some (.sh,dS t)],?_,_,rfl⟩;have hpl:pre.length<14:=by have:=congrArg length hx;rw[length_append,length_cons]at this;omega
  have z:((j9 p q pre).map Val.int).length+2<=sizeLine:=by rw[length_map,oV];unfold sizeLine;omega
  have ea:(j9 p q (pre++[t])).map Val.int=(j9 p q pre).map Val.int++[.int t.2.1,.int t.2.2]:=by unfold j9;simp
  simp only[EV,aU,NL,z,ea]
 ·rintro env ⟨a,rfl⟩
  have hl:(j9 p q ts).length<64:=by rw[oV];omega
  simp only[EV,ints_map,hl];rfl
end K36
end
section
open PySem L2 Hv
namespace K36
noncomputable def nH(e:Int×Int):Val:=.tup [.int e.1,.int e.2]
theorem Jx{i j:Nat}:fD (.tup [i,j]) (nH e) env=some ((env.set i (some (.sh,.int e.1))).set j (some (.sh,.int e.2))):=rfl
theorem Cp(ps:List Int)(hn:ps.Nodup)(hl:ps.length<64)(es:List (Int×Int))(he:∀e∈es,e.1∈ps/\e.2∈ps):∃f φ,eY [.rl (ps.map .int),.rl (es.map nH)]=.ok (f,lX ps λx=>.int (φ x))/\ko ps es φ:=by
 unfold eY fH;simp only[EV,cU];rw[kP];have hz:∀pre:List Int,pre.length<=ps.length->(pre.map (Sum.inl:Int->Key)).length<sizeLine:=λpre h=>by rw[length_map];unfold sizeLine;omega
 refine bL Val.int (λr:Pr FV=>∃f φ,r=.ok (f,lX ps λx=>.int (φ x))/\ko ps es φ)
  (λdone env=>∃a,env=[some (.sh,.rl (ps.map .int)),some (.sh,.rl (es.map nH)),some (.ow,lX done λx=>.int x),a,none,none,none,none])
  ⟨none,rfl⟩ ?_ ?_
 ·rintro pre x post env hx ⟨a,rfl⟩
  have Yb:x∉pre:=by rw[hx,nodup_append]at hn;exact λh=>hn.2.2 x h x (by simp) rfl
  refine⟨[some (.sh,.rl (ps.map .int)),some (.sh,.rl (es.map nH)),some (.ow,lX (pre++[x]) λx=>.int x),some (.sh,.int x),none,none,none,none],?_,_,rfl⟩;simp only[EV,aU,rK,hz pre (by rw[hx];simp),vH Yb];rw[cN (g':=λx=>Val.int x)];intro y _;unfold oJ
  split
  ·rename_i e;rw[e]
  ·rfl
 ·rintro env ⟨a,rfl⟩
  simp only[EV,cU];rw[kP];refine bL nH (λr:Pr FV=>∃f φ,r=.ok (f,lX ps λx=>.int (φ x))/\ko ps es φ)
   (λdone env=>∃(φ:Int->Int) (a b c d e:Option (Mk×Val)),env=[some (.sh,.rl (ps.map .int)),some (.sh,.rl (es.map nH)),some (.ow,lX ps λx=>.int (φ x)),a,b,c,d,e]/\ko ps done φ)
   ⟨id,_,_,_,_,_,rfl,ko.start ps⟩ ?_ ?_
  ·rintro pre e post env hx ⟨φ,a,b,c,d,f,rfl,Ji⟩
   obtain⟨h1,h2⟩:=he e (by rw[hx];simp);simp only[EV,Jx,oK h1,oK h2,cU];have hk:∃kept gone:Int,(if φ e.2 < φ e.1 then φ e.2 else φ e.1)=kept/\(if φ e.2 > φ e.1 then φ e.2 else φ e.1)=gone/\((kept = φ e.1/\gone = φ e.2)\/(kept = φ e.2/\gone = φ e.1)):=by
    refine⟨_,_,rfl,rfl,?_⟩
    split<;>split<;>omega
   obtain⟨kept,gone,ek,eg,hk⟩:=hk;rw[ek,eg];refine bL Val.int (λr:Pr zo=>∃env',r=.ok (.nx env')/\∃(φ:Int->Int) (a b c d f:Option (Mk×Val)),env'=[some (.sh,.rl (ps.map .int)),some (.sh,.rl (es.map nH)),some (.ow,lX ps λx=>.int (φ x)),a,b,c,d,f]/\ko ps (pre++[e]) φ)
    (λdone env=>∃a,env=[some (.sh,.rl (ps.map .int)),some (.sh,.rl (es.map nH)),some (.ow,lX ps λx=>.int (if x∈done /\ φ x=gone then kept else φ x)),a,some (.sh,.int e.1),some (.sh,.int e.2),some (.sh,.int kept),some (.sh,.int gone)])
    ⟨a,by simp⟩ ?_ ?_
   ·rintro done x post env hy ⟨a,rfl⟩
    have Yb:x∉done:=by rw[hy,nodup_append]at hn;exact λh=>hn.2.2 x h x (by simp) rfl
    have hxs:x∈ps:=by rw[hy];simp
    refine⟨_,?_,some (.sh,.int x),rfl⟩;simp only[EV,aU,oK hxs,rK,hz ps (Nat.le_refl _),vG hxs,Yb,false_and,if_false]
    by_cases hg:φ x=gone
    ·simp only[hg,↓reduceIte]
     rw[cN];intro y _;unfold oJ
     by_cases e:y=x
     ·subst e;simp[hg]
     ·simp[e]
    ·simp only[hg,↓reduceIte]
     rw[cN];intro y _
     by_cases e:y=x
     ·subst e;simp[hg]
     ·simp[e]
   ·rintro env ⟨a,rfl⟩;refine⟨_,rfl,(λx=>if φ x=gone then kept else φ x),a,some (.sh,.int e.1),some (.sh,.int e.2),some (.sh,.int kept),some (.sh,.int gone),?_,Ji.step h1 h2 kept gone hk⟩;rw[cN];intro y hy;simp[hy]
  ·rintro env ⟨φ,a,b,c,d,e,rfl,Ji⟩;simp only[EV,bN];exact⟨_,φ,rfl,Ji⟩
end K36
end
section
open PySem L2 Hv
namespace K36
theorem order_eq{p q:Int}{us:List T3}(hl:us.length<=16):dg [.tup [.int p,.int q],.rl (us.map dS)]=.ok (true,cG (if q<p then q else p) (if q>p then q else p) (j5 (us.map turnT))):=by
 unfold dg cI;have z0:0<=sizeLine:=by decide
 have z2:2<=sizeLine:=by decide
 have z3:3<=sizeLine:=by decide
 simp only[EV,cU];rw[kP];refine bL dS (λr:Pr FV=>r=.ok (true,cG (if q<p then q else p) (if q>p then q else p) (j5 (us.map turnT))))
  (λdone env=>∃a b c,env=[some (.sh,.tup [.int p,.int q]),some (.sh,.rl (us.map dS)),some (.ow,.rl ((done.map turnT).map dS)),a,b,c])
  ⟨none,none,none,rfl⟩ ?_ ?_
 ·rintro pre t post env hx ⟨a,b,c,rfl⟩
  have hpl:pre.length<16:=by have:=congrArg length hx;rw[length_append,length_cons]at this;omega
  have z:((pre.map turnT).map dS).length<sizeLine:=by rw[length_map,length_map];unfold sizeLine;omega
  refine⟨[some (.sh,.tup [.int p,.int q]),some (.sh,.rl (us.map dS)),some (.ow,.rl (((pre++[t]).map turnT).map dS)),some (.sh,.int t.1),some (.sh,.int t.2.1),some (.sh,.int t.2.2)],?_,_,_,_,rfl⟩;have ea:((pre++[t]).map turnT).map dS=(pre.map turnT).map dS++[dS (turnT t)]:=by simp
  simp only[EV,Je,z3,z,ea];rfl
 ·rintro env ⟨a,b,c,rfl⟩;simp only[EV,cY pT,cY oH,z2,xM (show (us.map turnT).length<64 by rw[length_map];omega)];rfl
theorem Cq{p q:Int}(hl:us.length<=16):cO [cG p q us]=.ok (true,cG (if q<p then q else p) (if q>p then q else p) (j5 (us.map turnT))):=by
 have e:=order_eq (p:=p) (q:=q) hl;unfold cO iB;unfold cG at e |-;simp only[EV,jE,cY pT,cY oH,e]
end K36
end
section
open PySem L2 Hv
namespace K36
noncomputable def nameV(t:T3):Val:=.int t.1
theorem Jy(h:t.2.1<=t.2.2):turnT t=t:=by
 obtain⟨a,b,c⟩:=t;unfold turnT;dsimp only at h |-;rw[Prod.mk.injEq,Prod.mk.injEq];refine⟨rfl,?_,?_⟩<;>split<;>omega
theorem Jz:∀{l:List T3},(∀y∈l,x.1<y.1)->rM x l=x::l
 |[],_=>rfl
 | y::r,h=>by
  rw[rM];have lx:HT.lexLt (l3 y) (l3 x)=decide (y.1<x.1):=by show HT.lexLt (y.1::_) (x.1::_)=_;have:=h y mem_cons_self;rw[HT.fV,if_neg (by omega)]
  have:=h y mem_cons_self;rw[lx,if_neg (by simp;omega)]
theorem yf:∀{l:List T3},EA l->j5 l=l
 |[],_=>rfl
 | x::r,h=>by
  unfold EA at h;rw[pairwise_cons]at h;rw[j5,yf h.2,Jz h.1]
theorem N3{p q:Int}(ok:aY p q ts):cO [cG p q ts]=.ok (true,cG p q ts):=by
 have e:=Cq (p:=p) (q:=q) (us:=ts) (le_trans ok.len (by decide));have em:ts.map turnT=ts:=by rw[map_congr_left λt ht=>Jy (ok.ends t ht)];exact map_id _
 have ep:(if q<p then q else p)=p:=by have:=ok.ord;split<;>omega
 have eq:(if q>p then q else p)=q:=by have:=ok.ord;split<;>omega
 rw[em,yf ok.up,ep,eq]at e;exact e
theorem Fy:∀ts:List T3,cj Gn (ts.map dS)=some ts
 |[]=>rfl
 |t::r=>by rw[map_cons,cj,show Gn (dS t)=some t from rfl,bind_some,Fy r];rfl
noncomputable def mh(c:Nat)(p q:Int)(ts:List T3):Val:=.ob c ["net","places","ends"] [cG p q ts,.rl ((oU p q ts).map .int),.dc ((bU p q ts).map (·.1)) ((bU p q ts).map (·.2))]
noncomputable def jG(c:Nat)(p q:Int)(ts:List T3)(w:Int):Val:=.ob c ["net","places","ends","whole"] [cG p q ts,.rl ((oU p q ts).map .int),.dc ((bU p q ts).map (·.1)) ((bU p q ts).map (·.2)),.int w]
theorem r8{c jo jp:Nat}{p q:Int}(h1:Ψ jo=cO)(h2:Ψ jp=bY)(ok:aY p q ts):kR Ψ c jo jp [cG p q ts]=.ok (true,mh c p q ts):=by
 have e1:=N3 ok;have e2:=places_eq (p:=p) (q:=q) ok.len;unfold kR;dsimp only;rw[h1,e1];unfold cG at e2 |-;dsimp only;rw[Fy,jT,bN,h2];unfold pg;rw[if_pos (decide_eq_true (by have:=ok.len;omega)),e2];rfl
noncomputable def nms(ts:List T3):List Int:=-1::ts.map (·.1)
theorem oW(h:a.length+b.length<=sizeLine):lM .add (.rl a) (.rl b)=.ok (bR (a++b),.rl (a++b)):=by
 show pg _ _=_;unfold pg;rw[if_pos (decide_eq_true h)]
theorem Fz{c:Nat}{p q:Int}{ts:List T3}{m:Str}{js:List (Nat×Nat)}{j:Nat}(hj:js.lookup c=some j)(h:m ≠ "net" /\ m ≠ "places" /\ m ≠ "ends" /\ m ≠ "whole"):lJ [] (mh c p q ts) m js=some j:=by
 unfold mh lJ;dsimp only;have e:∀vs:List Val,vs.length=3->((["net","places","ends"]:List Str).zip vs).lookup m=none:=λvs hv=>by
  match vs,hv with
  |[a,b,c],_=>rw[zip_cons_cons,lookup_cons,beq_false_of_ne h.1,zip_cons_cons,lookup_cons,beq_false_of_ne h.2.1,zip_cons_cons,lookup_cons,beq_false_of_ne h.2.2.1];rfl
 rw[e _ rfl];exact hj
theorem r9{c:Nat}{p q w:Int}{ts:List T3}{m:Str}{js:List (Nat×Nat)}{j:Nat}(hj:js.lookup c=some j)(h:m ≠ "net" /\ m ≠ "places" /\ m ≠ "ends" /\ m ≠ "whole"):lJ [] (jG c p q ts w) m js=some j:=by
 unfold jG lJ;dsimp only;have e:∀vs:List Val,vs.length=4->((["net","places","ends","whole"]:List Str).zip vs).lookup m=none:=λvs hv=>by
  match vs,hv with
  |[a,b,c,d],_=>rw[zip_cons_cons,lookup_cons,beq_false_of_ne h.1,zip_cons_cons,lookup_cons,beq_false_of_ne h.2.1,zip_cons_cons,lookup_cons,beq_false_of_ne h.2.2.1,zip_cons_cons,lookup_cons,beq_false_of_ne h.2.2.2];rfl
 rw[e _ rfl];exact hj
theorem Cr{c:Nat}(hc:c<3){p q w:Int}:jb 3 [] (jG c p q ts w) "whole" = some (.int w):=by
 unfold jG jb;dsimp only;rw[if_pos hc];rfl
theorem iI(l:List Int):bR (l.map Val.int)=true:=bu l
theorem yg{p q:Int}(ok:aY p q ts):PySem.W.sortI (nms ts)=nms ts:=by
 refine(eq_sortI (List.Perm.refl _) ?_).symm;unfold nms;rw[pairwise_cons];refine⟨λx hx=>?_,?_⟩
 ·obtain⟨t,ht,rfl⟩:=mem_map.mp hx;have:=ok.names t ht;omega
 ·rw[pairwise_map];have:=ok.up;unfold EA at this;exact this.imp λh=>by omega
theorem jH{p q:Int}(ok:aY p q ts):(nms ts).Nodup:=by
 unfold nms;rw[nodup_cons];refine⟨λh=>?_,?_⟩
 ·obtain⟨t,ht,e⟩:=mem_map.mp h;have:=ok.names t ht;omega
 ·have:=ok.up;unfold EA at this;rw[List.Nodup,pairwise_map];exact this.imp λh=>by omega
theorem JA(l:List Int):cop [] .ne (.rl (l.map .int)) (.rl (l.map .int))=some false:=by
 refine ne_self (zy Val.int PyData.int l λ_ _=>rfl) ?_;rw[PyData.canLay0];exact jU _ _ λt _=>by rw[PyData.canLay0]
noncomputable def nI:List Int->Int->List Int
 |[],_=>[]
 |x::r,c=>if c%2=1 then x::nI r (c/2) else nI r (c/2)
theorem jI:∀(ns:List Int) (c:Int),(nI ns c).Sublist ns
 |[],_=>.slnil
 | x::r,c=>by
  rw[nI]
  split
  ·exact(jI r _).cons_cons x
  ·exact(jI r _).cons x
theorem vQ(ns:List Int)(c:Int)(h:ns.length<64):nE [.rl (ns.map .int),.int c]=.ok (true,.rl ((nI ns c).map .int)):=by
 unfold nE kW;simp only[EV,cU,show 0<=sizeLine by decide]
 repeat rw[kP]
 refine bL Val.int (λr:Pr FV=>r=.ok (true,.rl ((nI ns c).map .int)))
  (λdone env=>∃(l:List Int) (c':Int) (a:Option (Mk×Val)),env=[some (.sh,.rl (ns.map .int)),some (.sh,.int c'),some (.ow,.rl (l.map .int)),a]/\nI ns c=l++nI (ns.drop done.length) c'/\l.length<=done.length)
  ⟨[],c,none,rfl,rfl,Nat.le_refl _⟩ ?_ ?_
 ·rintro pre x post env hx ⟨l,c',a,rfl,hl,hle⟩
  have hd:ns.drop pre.length=x::post:=by rw[hx];simp
  have hd2:ns.drop (pre++[x]).length=post:=by rw[hx];simp
  have hpl:pre.length<64:=by have:=congrArg length hx;rw[length_append,length_cons]at this;omega
  have z:(l.map Val.int).length<sizeLine:=by rw[length_map];unfold sizeLine;omega
  rw[hd,nI]at hl;simp only[EV,aU,fF (show decide ((0:Int)<2)=true by decide),fE (show gQ 2=true by decide)]
  by_cases e:c'%2=1
  ·rw[if_pos e]at hl;refine⟨_,?_,l++[x],c'/2,some (.sh,.int x),rfl,by rw[hd2,hl];simp,by simp;omega⟩;simp only[EV,e,decide_true,z,map_append,fE (show gQ 2=true by decide)]
  ·rw[if_neg e]at hl;refine⟨_,?_,l,c'/2,some (.sh,.int x),rfl,by rw[hd2,hl],by simp;omega⟩;simp only[EV,e,decide_false,fE (show gQ 2=true by decide)]
 ·rintro env ⟨l,c',a,rfl,hl,hle⟩;rw[List.drop_length,nI,append_nil]at hl;simp only[EV,hl,iI]
noncomputable def bG(p q:Int)(ts:List T3)(x:Int):Int×Int:=match ts.find? (λt=>decide (t.1=x)) with
 |some t=>(t.2.1,t.2.2)
 |none=>(p,q)
theorem FA:∀{ts:List T3},(ts.map (·.1)).Nodup->t∈ts->ts.find? (λu=>decide (u.1=t.1))=some t
 | u::r,hn,ht=>by
  rw[map_cons,nodup_cons]at hn;rw[find?_cons]
  by_cases e:u.1=t.1
  ·rw[decide_eq_true e]
   rcases mem_cons.mp ht with rfl|ht
   ·rfl
   ·exact absurd (e▸mem_map_of_mem (f:=(·.1)) ht) hn.1
  ·rw[decide_eq_false e]
   rcases mem_cons.mp ht with rfl|ht
   ·exact absurd rfl e
   ·exact FA hn.2 ht
theorem sd{p q:Int}(ok:aY p q ts):(ts.map (·.1)).Nodup:=(nodup_cons.mp (jH ok)).2
theorem zH{p q:Int}(ok:aY p q ts)(ht:t∈ts):bG p q ts t.1=(t.2.1,t.2.2):=by
 unfold bG;rw[FA (sd ok) ht]
theorem zJ{p q:Int}(ok:aY p q ts):bG p q ts (-1)=(p,q):=by
 unfold bG;rw[List.find?_eq_none.mpr λt ht=>by have:=ok.names t ht;simp;omega]
theorem qi{p q:Int}(ok:aY p q ts){x:Int}(hx:x∈nms ts):(bG p q ts x).1∈oU p q ts/\(bG p q ts x).2∈oU p q ts:=by
 unfold nms at hx
 rcases mem_cons.mp hx with rfl|hx
 ·rw[zJ ok];exact⟨qh.mpr (.inl rfl),qh.mpr (.inr (.inl rfl))⟩
 ·obtain⟨t,ht,rfl⟩:=mem_map.mp hx;rw[zH ok ht];exact⟨qh.mpr (.inr (.inr ⟨t,ht,.inl rfl⟩)),qh.mpr (.inr (.inr ⟨t,ht,.inr rfl⟩))⟩
theorem AU(g:Int->Val):∀(us:List T3) (ks:List Int),(∀u∈us,u.1∉ks)->(us.map (·.1)).Nodup->(∀u∈us,g u.1=.tup [.int u.2.1,.int u.2.2]) ->
  us.foldl jz (ks.map λx=>((Sum.inl x:Key),g x))=(ks++us.map (·.1)).map λx=>((Sum.inl x:Key),g x)
 |[],ks,_,_,_=>by simp
 | u::r,ks,h1,h2,h3=>by
  rw[map_cons,nodup_cons]at h2;have e:jz (ks.map λx=>((Sum.inl x:Key),g x)) u=(ks++[u.1]).map λx=>((Sum.inl x:Key),g x):=by unfold jz iL;rw[zA,if_neg (by simpa using h1 u mem_cons_self),map_append,map_cons,map_nil,h3 u mem_cons_self]
  rw[List.foldl_cons,e,AU g r (ks++[u.1]) (λv hv z=>?_) h2.2 λv hv=>h3 v (mem_cons_of_mem _ hv)]
  ·simp
  ·rcases mem_append.mp z with z|z
   ·exact h1 v (mem_cons_of_mem _ hv) z
   ·rw[mem_singleton]at z;exact h2.1 (z▸mem_map_of_mem (f:=(·.1)) hv)
noncomputable def jX(p q:Int)(ts:List T3)(x:Int):Val:=nH (bG p q ts x)
noncomputable def gk(p q:Int)(ts:List T3):Val:=lX (nms ts) (jX p q ts)
theorem AV{p q:Int}(ok:aY p q ts):Val.dc ((bU p q ts).map (·.1)) ((bU p q ts).map (·.2))=gk p q ts:=by
 have e:bU p q ts=(nms ts).map λx=>((Sum.inl x:Key),jX p q ts x):=by
  have h:=AU (jX p q ts) ts [-1] (λu hu z=>by
   rw[mem_singleton]at z;have:=ok.names u hu;omega) (sd ok) λu hu=>by unfold jX;rw[zH ok hu];rfl
  unfold bU nms;rw[map_cons,map_nil]at h;have e1:jX p q ts (-1)=.tup [.int p,.int q]:=by unfold jX;rw[zJ ok];rfl
  rw[e1]at h;exact h
 rw[e,map_map,map_map];rfl
structure FD (o:Val) (p q:Int) (ts:List T3):Prop where
 net:jb 3 [] o "net" = some (cG p q ts)
 places:jb 3 [] o "places" = some (.rl ((oU p q ts).map .int))
 ends:jb 3 [] o "ends" = some (gk p q ts)
theorem vR{c:Nat}(hc:c<3){p q:Int}(ok:aY p q ts):FD (mh c p q ts) p q ts:=by
 refine⟨?_,?_,?_⟩
 ·unfold mh jb;dsimp only;rw[if_pos hc];rfl
 ·unfold mh jb;dsimp only;rw[if_pos hc];rfl
 ·rw[<-AV ok];unfold mh jb;dsimp only;rw[if_pos hc];rfl
theorem vS{c:Nat}(hc:c<3){p q w:Int}(ok:aY p q ts):FD (jG c p q ts w) p q ts:=by
 refine⟨?_,?_,?_⟩
 ·unfold jG jb;dsimp only;rw[if_pos hc];rfl
 ·unfold jG jb;dsimp only;rw[if_pos hc];rfl
 ·rw[<-AV ok];unfold jG jb;dsimp only;rw[if_pos hc];rfl
theorem FE{p q:Int}(h:ts.length<=14):iD [cG p q ts]=.ok (true,.rl (ts.map nameV)):=by
 unfold iD gy cG;have hc:ts.length<=100000:=by omega
 simp only[EV,cY oH,cU,fS,length_map,hc];rw[eO dS nameV ts (λt ht=>by
  have i0:n5 [] (dS t) (.int 0)=some (.int t.1):=rfl;simp only[EV,aU,i0,nameV])]
 simp only[EV,bN]
theorem vU{p q:Int}(ro:FD o p q ts)(h:ts.length<=14):cD [o]=.ok (true,.rl ((nms ts).map .int)):=by
 have e1:=FE (p:=p) (q:=q) h;unfold cD fJ;have z1:1<=sizeLine:=by decide
 have z:([.int (-1)]:List Val).length+(ts.map nameV).length<=sizeLine:=by rw[length_map];simp;unfold sizeLine;omega
 simp only[EV,ro.net,ki,e1,z1,oW z];have em:[Val.int (-1)]++ts.map nameV=(nms ts).map .int:=by unfold nms;rw[map_cons,map_map];rfl
 have en:bR (ts.map nameV)=true:=by rw[show ts.map nameV=(ts.map (·.1)).map Val.int by rw[map_map];rfl];exact iI _
 rw[show Val.int (-1)::ts.map nameV=(nms ts).map .int from em,en]
theorem se(p q:Int)(ts:List T3)(x:Int):j3 (jX p q ts x)=true:=rfl
theorem FF{p q:Int}{x:Int}:n5 [] (jX p q ts x) (.int 0)=some (.int (bG p q ts x).1):=rfl
theorem FG{p q:Int}{x:Int}:n5 [] (jX p q ts x) (.int 1)=some (.int (bG p q ts x).2):=rfl
theorem vV{p q:Int}{x:Int}(h:x∈nms ts):n5 [] (gk p q ts) (.int x)=some (jX p q ts x):=oK h
theorem FH(p q:Int)(ts:List T3):∀l:List Int,bR (l.map (jX p q ts))=true
 |[]=>rfl
 |x::r=>by rw[map_cons,bR,FH p q ts r];rfl
theorem gY{p q:Int}(ok:aY p q ts):(nms ts).length<=15:=by
 have:=ok.len;unfold nms;simp;omega
noncomputable def lH(p q:Int)(ts:List T3)(P:List Int):Nat:=tr (oU p q ts) (P.map (bG p q ts))
theorem FI{p q:Int}(ok:aY p q ts){P:List Int}(hP:∀x∈P,x∈nms ts):OG (oU p q ts) (P.map (bG p q ts)):=λe he=>by
 obtain⟨x,hx,rfl⟩:=mem_map.mp he;exact qi ok (hP x hx)
theorem sf{p q:Int}(ok:aY p q ts)(ro:FD o p q ts){P:List Int}(hP:∀x∈P,x∈nms ts)(hl:P.length<=15):aT [o,.rl (P.map .int)]=.ok (true,.int (lH p q ts P)):=by
 have hpl:=Jw (p:=p) (q:=q) ok.len;have Sy:(oU p q ts).Nodup:=f9 _;obtain⟨f,φ,ef,Ji⟩:=Cp (oU p q ts) Sy hpl (P.map (bG p q ts)) (λe he=>by
  obtain⟨x,hx,rfl⟩:=mem_map.mp he;exact qi ok (hP x hx))
 have et:lH p q ts P=rk φ (oU p q ts):=nq Ji Sy;rw[et];rw[map_map]at ef;unfold aT bX;have hc:P.length<=100000:=by omega
 have hc2:(oU p q ts).length<=100000:=by omega
 simp only[EV,ro.places,ro.ends,cU,fS,length_map,hc];rw[eO Val.int (jX p q ts) P (λx hx=>by
  simp only[EV,aU,ro.ends,vV (hP x hx),se])]
 have ef':eY [.rl ((oU p q ts).map .int),.rl (P.map (jX p q ts))]=.ok (f,lX (oU p q ts) λx=>.int (φ x)):=ef;simp only[EV,gX,ef',ro.places,cU,fS,length_map,hc2];rw[eV Val.int Val.int (λx=>!decide (φ x=x)) (oU p q ts) (λx hx=>by
  have hi:=oK (g:=λx=>Val.int (φ x)) hx;simp only[EV,aU,hi]
  by_cases c:φ x=x
  ·simp[c]
  ·simp[c])]
 simp only[EV,length_map];rfl
theorem FJ{c jo jp jt jr:Nat}(hc:c<3){p q:Int}(h1:Ψ' jo=cO)(h2:Ψ' jp=bY)(h3:Ψ jt=cD)(h4:Ψ jr=aT)(ok:aY p q ts) :
  uC Ψ' Ψ c jo jp jt jr [cG p q ts]=.ok (true,jG c p q ts (lH p q ts (nms ts))):=by
 have e3:=vU (vR hc ok) ok.len;have e1:=sf ok (vR hc ok) (P:=nms ts) (λ_ h=>h) (gY ok);rw[<-h3]at e3;rw[<-h4]at e1;exact EE (r8 h1 h2 ok) e3 e1
noncomputable def others(ts:List T3)(P:List Int):List Int:=(nms ts).filter λx=>!decide (x∈P)
theorem mG{P:List Int}:∀x∈others ts P,x∈nms ts:=λx hx=>(mem_filter.mp hx).1
theorem AW{p q:Int}(ok:aY p q ts){P:List Int}:(others ts P).length<=15:=le_trans (length_filter_le _ _) (gY ok)
theorem FL{c:Nat}(hc:c<3)(jt:([(0,16),(1,16),(2,16)]:List (Nat×Nat)).lookup c=some 16)(jr:([(0,14),(1,14),(2,14)]:List (Nat×Nat)).lookup c=some 14){p q w:Int}(ok:aY p q ts){P:List Int}:cP [jG c p q ts w,.rl (P.map .int)]=.ok (true,.int ((P.length:Int)-w+lH p q ts (others ts P))):=by
 have e1:=sf ok (vS (w:=w) hc ok) (P:=others ts P) mG (AW ok);have e3:=vU (vS (w:=w) hc ok) ok.len;have hl:(nms ts).length<=100000:=by have:=gY ok;omega
 have m1:=r9 (p:=p) (q:=q) (w:=w) (ts:=ts) (m:="ties") jt (by decide);have m2:=r9 (p:=p) (q:=q) (w:=w) (ts:=ts) (m:="tree_rank") jr (by decide);unfold cP cZ;simp only[EV,m1,jl,e3,cU,fS,length_map,hl];rw[eV Val.int Val.int (λx=>!decide (x∈P)) (nms ts) (λx hx=>by
  simp only[EV,aU,Ey]
  by_cases c:x∈P
  ·simp[c]
  ·simp[c])]
 have YB:aT [jG c p q ts w,.rl (((nms ts).filter λx=>!decide (x∈P)).map .int)]=.ok (true,.int (lH p q ts (others ts P))):=e1;simp only[EV,m2,gF,YB,Cr hc,length_map]
theorem uH:∀ks:List Int,bf (ks.map Val.int)=some ks
 |[]=>rfl
 | k::r=>by
  have:=uH r;unfold bf at this |-;rw[map_cons,cj,this];rfl
theorem JB{ks ms:List Int}(h:ks.length<=100000):qP [] (ks.map Sum.inl) (.rl (ms.map .int))=some (ks.filter λx=>!decide (x∈ms)):=by
 unfold qP;rw[rR,bind_some,show aE [] (.rl (ms.map .int))=some (ms.map .int) from rfl,bind_some,uH,bind_some,if_pos h]
 congr 1
 refine filter_congr λx _=>?_
 congr 1
 rw[Bool.eq_iff_iff,List.any_eq_true,decide_eq_true_eq];constructor
 ·rintro⟨m,hm,e⟩;rw[<-eq_of_beq e];exact hm
 ·exact λhm=>⟨x,hm,beq_self_eq_true _⟩
end K36
end
section
open PySem L2 Hv
namespace K36
theorem yh{p q:Int}(ok:aY p q ts):k7 [cG p q ts]=.ok (true,gk p q ts):=by
 have hl:=ok.len;unfold k7 jC cG;have em:jX p q ts (-1)=.tup [.int p,.int q]:=by unfold jX;rw[zJ ok];rfl
 simp only[EV,cY pT,cY oH,rK,cU,show (-(1:Int)) = -1 from rfl]
 repeat rw[kP]
 refine bL dS (λr:Pr FV=>r=.ok (true,gk p q ts))
  (λdone env=>∃a b c,env=[some (.sh,.tup [.tup [.int p,.int q],.rl (ts.map dS)]),some (.ow,lX (nms done) (jX p q ts)),a,b,c])
  ⟨none,none,none,by unfold nms lX;rw[map_nil,map_cons,map_cons,em];rfl⟩ ?_ ?_
 ·rintro pre t post env hx ⟨a,b,c,rfl⟩
  have hp:pre.length<=14:=by have:=congrArg length hx;rw[length_append,length_cons]at this;omega
  have hnew:t.1∉nms pre:=λz=>by
   unfold nms at z;have hn:=sd ok;rw[hx,map_append,map_cons,nodup_append]at hn
   rcases mem_cons.mp z with z|z
   ·have:=ok.names t (by rw[hx];simp);omega
   ·exact hn.2.2 t.1 z t.1 mem_cons_self rfl
  have zz:((nms pre).map (Sum.inl:Int->Key)).length<sizeLine:=by rw[length_map];unfold nms;simp;unfold sizeLine;omega
  have z2:2<=sizeLine:=by decide
  have bt:∀env:bB,fD (.tup [2,3,4]) (dS t) env=some (((env.set 2 (some (.sh,.int t.1))).set 3 (some (.sh,.int t.2.1))).set 4 (some (.sh,.int t.2.2))):=λ_=>rfl;refine⟨_,?_,some (.sh,.int t.1),some (.sh,.int t.2.1),some (.sh,.int t.2.2),rfl⟩;simp only[EV,bt,rK,zz,z2,vH hnew];have eD:lX (nms pre++[t.1]) (oJ (jX p q ts) t.1 (.tup [.int t.2.1,.int t.2.2]))=lX (nms (pre++[t])) (jX p q ts):=by
   rw[show nms (pre++[t])=nms pre++[t.1] by unfold nms;simp];refine cN λy hy=>?_;unfold oJ
   split
   ·rename_i e;rw[e];unfold jX;rw[zH ok (by rw[hx];simp)];rfl
   ·rfl
  rw[eD]
 ·rintro env ⟨a,b,c,rfl⟩;simp only[EV,FH];rfl
theorem Cs{p q:Int}(ok:aY p q ts){P:List Int}(hP:∀x∈P,x∈nms ts)(hl:P.length<=15):∃(n:Nat) (ψ:Int->Int) (ks:List Int),gi [gk p q ts,.rl (P.map .int)]=.ok (true,.int n)/\Cg (oU p q ts) ks (P.map (bG p q ts)) ψ n:=by
 have Sy:(oU p q ts).Nodup:=f9 _;unfold gi gx;simp only[EV,cU]
 repeat rw[kP]
 refine bL Val.int (λr:Pr FV=>∃(n:Nat) (ψ:Int->Int) (ks:List Int),r=.ok (true,.int n)/\Cg (oU p q ts) ks (P.map (bG p q ts)) ψ n)
  (λdone env=>∃(n:Nat) (ψ:Int->Int) (ks:List Int) (a b c d:Option (Mk×Val)),env=[some (.sh,gk p q ts),some (.sh,.rl (P.map .int)),some (.ow,lX ks λx=>.int (ψ x)),some (.sh,.int n),a,b,c,d]/\Cg (oU p q ts) ks (done.map (bG p q ts)) ψ n)
  ⟨0,id,[],none,none,none,none,rfl,Cg.start Sy⟩ ?_ ?_
 ·rintro pre x post env hx ⟨n,ψ,ks,a,b,c,d,rfl,m⟩
  have hxm:x∈P:=by rw[hx];simp
  have hxn:=hP x hxm;obtain⟨h1,h2⟩:=qi ok hxn;have hpre:pre.length<=14:=by have:=congrArg length hx;rw[length_append,length_cons]at this;omega
  have hks:ks.length<=28:=by have:=m.len;rw[length_map]at this;omega
  have gd:∀y:Int,((if y∈ks then some (Val.int (ψ y)) else none).getD (.int y))=.int (ψ y):=λy=>by
   by_cases h:y∈ks
   ·rw[if_pos h];rfl
   ·rw[if_neg h,m.off y h];rfl
  have isd:DK [] (lX ks λx=>Val.int (ψ x))=some ():=rfl;simp only[EV,aU,vV hxn,FF,FG,se,isd,rK,NQ,gd];have est:(pre++[x]).map (bG p q ts)=pre.map (bG p q ts)++[((bG p q ts x).1,(bG p q ts x).2)]:=by rw[map_append];rfl
  rw[est]
  by_cases c:ψ (bG p q ts x).1 = ψ (bG p q ts x).2
  ·refine⟨[some (.sh,gk p q ts),some (.sh,.rl (P.map .int)),some (.ow,lX ks λx=>.int (ψ x)),some (.sh,.int n),some (.sh,.int x),some (.sh,.int (ψ (bG p q ts x).1)),some (.sh,.int (ψ (bG p q ts x).2)),d],?_,n,ψ,ks,_,_,_,_,rfl,m.stay h1 h2 c⟩;simp only[EV,c,not_true,decide_false]
  ·have m2:=m.join h1 h2 c
   generalize Sz:fq (fq ks (bG p q ts x).1) (bG p q ts x).2=ks' at m2;have zz:∀l:List Int,l.length<=40->(l.map (Sum.inl:Int->Key)).length<sizeLine:=λl h=>by rw[length_map];unfold sizeLine;omega
   have l1:(fq ks (bG p q ts x).1).length<=40:=by have:=kT ks (bG p q ts x).1;omega
   have l2:ks'.length<=40:=by have:=kT (fq ks (bG p q ts x).1) (bG p q ts x).2;rw[Sz]at this;have:=kT ks (bG p q ts x).1;omega
   have pt1:=AL (ks:=ks) (ψ:=ψ) (a:=(bG p q ts x).1);have ZZ:=AL (ks:=fq ks (bG p q ts x).1) (ψ:=ψ) (a:=(bG p q ts x).2);rw[Sz] at ZZ;have ky:mU [] (lX ks' λx=>Val.int (ψ x))=some (ks'.map Sum.inl):=rfl;have kv:(ks'.map (Sum.inl:Int->Key)).map BP=ks'.map Val.int:=by rw[map_map];rfl
   simp only[EV,c,not_false_iff,decide_true,vV hxn,FF,FG,se,rK,zz ks (by omega),zz _ l1,pt1,ZZ,ky,kv,cU]
   repeat rw[kP]
   refine bL Val.int (λr:Pr zo=>∃env',r=.ok (.nx env')/\∃(n:Nat) (ψ:Int->Int) (ks:List Int) (a b c d:Option (Mk×Val)),env'=[some (.sh,gk p q ts),some (.sh,.rl (P.map .int)),some (.ow,lX ks λx=>.int (ψ x)),some (.sh,.int n),a,b,c,d]/\Cg (oU p q ts) ks (pre.map (bG p q ts)++[((bG p q ts x).1,(bG p q ts x).2)]) ψ n)
    (λdone env=>∃a,env=[some (.sh,gk p q ts),some (.sh,.rl (P.map .int)),some (.ow,lX ks' λy=>.int (if y∈done /\ ψ y = ψ (bG p q ts x).2 then ψ (bG p q ts x).1 else ψ y)),some (.sh,.int ((n:Int)+1)),some (.sh,.int x),some (.sh,.int (ψ (bG p q ts x).1)),some (.sh,.int (ψ (bG p q ts x).2)),a])
    ?_ ?_ ?_
   ·exact⟨d,by simp⟩
   ·rintro done y post env hy ⟨a,rfl⟩
    have hn:=m2.nd;have hyp:y∉done:=by rw[hy,nodup_append]at hn;exact λh=>hn.2.2 y h y (by simp) rfl
    have hys:y∈ks':=by rw[hy];simp
    refine⟨_,?_,some (.sh,.int y),rfl⟩;simp only[EV,aU,oK hys,rK,zz ks' l2,vG hys,hyp,false_and,if_false]
    by_cases hg:ψ y = ψ (bG p q ts x).2
    ·simp only[hg,↓reduceIte]
     rw[cN];intro z _;unfold oJ
     by_cases e:z=y
     ·subst e;simp[hg]
     ·simp[e]
    ·simp only[hg,↓reduceIte]
     rw[cN];intro z _
     by_cases e:z=y
     ·subst e;simp[hg]
     ·simp[e]
   ·rintro env ⟨a,rfl⟩
    refine⟨_,rfl,n+1,(λy=>if ψ y = ψ (bG p q ts x).2 then ψ (bG p q ts x).1 else ψ y),ks',some (.sh,.int x),some (.sh,.int (ψ (bG p q ts x).1)),some (.sh,.int (ψ (bG p q ts x).2)),a,?_,m2⟩;rw[cN (g':=λy=>.int (if ψ y = ψ (bG p q ts x).2 then ψ (bG p q ts x).1 else ψ y))]
    ·rfl
    ·intro z hz;simp[hz]
 ·rintro env ⟨n,ψ,ks,a,b,c,d,rfl,m⟩;simp only[EV,bN];exact⟨n,ψ,ks,rfl,m⟩
theorem sj{p q:Int}(ok:aY p q ts){P:List Int}(hP:∀x∈P,x∈nms ts)(hl:P.length<=15):gi [gk p q ts,.rl (P.map .int)]=.ok (true,.int (lH p q ts P)):=by
 obtain⟨n,ψ,ks,e,m⟩:=Cs ok hP hl;rw[e,NS m.Ji (f9 _) m.num];rfl
end K36
end
section
open PySem L2 Hv
namespace K36
theorem FN{p q:Int}{P Q:List Int}{x:Int}(h:∀y,y∈Q↔y∈P\/y=x):∀e,e∈Q.map (bG p q ts)↔e∈P.map (bG p q ts)\/e=((bG p q ts x).1,(bG p q ts x).2):=λe=>by
 constructor
 ·intro he
  obtain⟨y,hy,rfl⟩:=mem_map.mp he
  rcases(h y).mp hy with hy|rfl
  ·exact .inl (mem_map_of_mem hy)
  ·exact .inr rfl
 ·rintro(he|rfl)
  ·obtain⟨y,hy,rfl⟩:=mem_map.mp he;exact mem_map_of_mem ((h y).mpr (.inl hy))
  ·exact mem_map_of_mem (f:=bG p q ts) ((h x).mpr (.inr rfl))
section
variable {p q:Int} {ts:List T3}
noncomputable def Wy(p q:Int)(ts:List T3)(P:List Int)(x:Int):Prop:=Way (P.map (bG p q ts)) (bG p q ts x).1 (bG p q ts x).2
theorem Wy.mono{P Q:List Int}(h:∀y∈P,y∈Q){x:Int}(w:Wy p q ts P x):Wy p q ts Q x:=by
 unfold Wy at w |-;refine Way.mono (λe he=>?_) w;obtain⟨y,hy,rfl⟩:=mem_map.mp he;exact mem_map_of_mem (h y hy)
open Classical in
theorem Ko(ok:aY p q ts){P Q:List Int}{x:Int}(hP:∀y∈P,y∈nms ts)(hx:x∈nms ts)(h:∀y,y∈Q↔y∈P\/y=x):lH p q ts Q=lH p q ts P+if Wy p q ts P x then 0 else 1:=by
 obtain⟨h1,h2⟩:=qi ok hx;exact Jj (ps:=oU p q ts) (f9 _) (FI ok hP) h1 h2 (FN (p:=p) (q:=q) (ts:=ts) h)
theorem su(ok:aY p q ts){P Q:List Int}{x:Int}(hP:∀y∈P,y∈nms ts)(hx:x∈nms ts)(h:∀y,y∈Q↔y∈P\/y=x):lH p q ts P<=lH p q ts Q/\lH p q ts Q<=lH p q ts P+1:=by
 rw[Ko ok hP hx h]
 split<;>omega
theorem AX(ok:aY p q ts){P Q:List Int}{x:Int}(hP:∀y∈P,y∈nms ts)(hx:x∈nms ts)(h:∀y,y∈Q↔y∈P\/y=x):Wy p q ts P x↔lH p q ts Q=lH p q ts P:=by
 rw[Ko ok hP hx h]
 split
 ·exact⟨λ_=>rfl,λ_=>‹_›⟩
 ·exact⟨λw=>absurd w ‹_›,λe=>by omega⟩
theorem yi(ok:aY p q ts){P Q:List Int}(hP:∀y∈P,y∈nms ts)(h:∀y,y∈P↔y∈Q):lH p q ts P=lH p q ts Q:=by
 refine xU (f9 _) (FI ok hP) λe=>⟨λhe=>?_,λhe=>?_⟩
 ·obtain⟨y,hy,rfl⟩:=mem_map.mp he;exact mem_map_of_mem ((h y).mp hy)
 ·obtain⟨y,hy,rfl⟩:=mem_map.mp he;exact mem_map_of_mem ((h y).mpr hy)
theorem dZ{R:List Int}{x:Int}(y:Int):y∈R++[x]↔y∈R\/y=x:=by simp
theorem nJ{R:List Int}{x:Int}(hR:∀y∈R,y∈nms ts)(hx:x∈nms ts):∀y∈R++[x],y∈nms ts:=λy hy=>by
 rcases(dZ y).mp hy with h|rfl
 ·exact hR y h
 ·exact hx
theorem JC:lH p q ts []=0:=by
 unfold lH;rw[map_nil,nq (ps:=oU p q ts) (ko.start _) (f9 _)];unfold rk;simp
theorem nK{P:List Int}{y:Int}:y∈others ts P↔y∈nms ts/\y∉P:=by
 unfold others;rw[mem_filter];simp
end
end K36
end
section
open PySem L2 Hv
namespace K36
structure lR (N:List Int) (r:List Int->Int):Prop where
 nil:r []=0
 same:∀P Q:List Int,P.Nodup->Q.Nodup->(∀y∈P,y∈N)->(∀y,y∈P↔y∈Q)->r P=r Q
 step:∀(P:List Int) (x:Int),P.Nodup->(∀y∈P,y∈N)->x∈N->x∉P->r (P++[x])=r P\/r (P++[x])=r P+1
 loc:∀(P Q:List Int) (x:Int),P.Nodup->Q.Nodup->(∀y∈Q,y∈N)->(∀y∈P,y∈Q)->x∈N->x∉Q->r (P++[x])=r P->r (Q++[x])=r Q
theorem iO{P:List Int}{x:Int}(hn:P.Nodup)(hx:x∉P):(P++[x]).Nodup:=by
 rw[nodup_append];exact⟨hn,by simp,λa ha b hb e=>hx (by rw[mem_singleton]at hb;rw[<-hb,<-e];exact ha)⟩
theorem FO{P D:List Int}{x:Int}(h:(P++x::D).Nodup):P.Nodup/\x∉P:=by
 rw[nodup_append]at h;exact⟨h.1,λhx=>h.2.2 x hx x mem_cons_self rfl⟩
theorem sy(P D:List Int)(x:Int):P++x::D=(P++[x])++D:=by rw[List.append_assoc];rfl
section
variable {N:List Int} {r:List Int->Int} (h:lR N r)
include h
theorem lR.app:∀(D P:List Int),(P++D).Nodup->(∀y∈P++D,y∈N)->r P<=r (P++D)/\r (P++D)<=r P+D.length
 |[],P,_,_=>by rw[append_nil];exact⟨Int.le_refl _,by simp⟩
 | x::D,P,hn,hi=>by
  obtain⟨n1,n2⟩:=FO hn;have s:=h.step P x n1 (λy hy=>hi y (mem_append_left _ hy)) (hi x (mem_append_right _ mem_cons_self)) n2;rw[sy]at hn hi |-;have ih:=lR.app D (P++[x]) hn hi;rw[length_cons];omega
theorem lR.bound{P:List Int}(hn:P.Nodup)(hP:∀y∈P,y∈N):0<=r P/\r P<=P.length:=by
 have:=h.app P [] hn hP;rw[h.nil,nil_append]at this;omega
theorem lR.mono{P Q:List Int}(hp:P.Nodup)(hq:Q.Nodup)(hQ:∀y∈Q,y∈N)(hs:∀y∈P,y∈Q):r P<=r Q:=by
 have nd:(P++Q.filter λy=>!decide (y∈P)).Nodup:=by rw[nodup_append];exact⟨hp,hq.sublist filter_sublist,λa ha b hb e=>by subst e;have:=(mem_filter.mp hb).2;simp[ha]at this⟩
 have mm:∀y,y∈(P++Q.filter λy=>!decide (y∈P))↔y∈Q:=λy=>by
  rw[mem_append,mem_filter];constructor
  ·rintro(z|z)
   ·exact hs y z
   ·exact z.1
  ·intro z
   by_cases c:y∈P
   ·exact .inl c
   ·exact .inr ⟨z,by simpa using c⟩
 have:=(h.app _ P nd λy hy=>hQ y ((mm y).mp hy)).1;rwa [h.same _ Q nd hq (λy hy=>hQ y ((mm y).mp hy)) mm]at this
theorem lR.close:∀(E P:List Int),(P++E).Nodup->(∀y∈P++E,y∈N)->(∀x∈E,r (P++[x])=r P)->r (P++E)=r P
 |[],P,_,_,_=>by rw[append_nil]
 | x::E,P,hn,hi,hE=>by
  obtain⟨n1,n2⟩:=FO hn;have hP:∀y∈P,y∈N:=λy hy=>hi y (mem_append_left _ hy);have hx:=hi x (mem_append_right _ mem_cons_self);have e1:=hE x mem_cons_self;have hall:∀y∈E,y∈N/\y∉P++[x]:=λy hy=>⟨hi y (mem_append_right _ (mem_cons_of_mem _ hy)),λz=>by
   rw[sy,nodup_append]at hn;exact hn.2.2 y z y hy rfl⟩
  rw[sy]at hn hi |-;rw[lR.close E (P++[x]) hn hi λy hy=>h.loc P (P++[x]) y n1 (iO n1 n2) (λy hy=>by rcases(dZ y).mp hy with q|rfl;exact hP y q;exact hx) (λz hz=>mem_append_left _ hz) (hall y hy).1 (hall y hy).2 (hE y (mem_cons_of_mem _ hy)),e1]
noncomputable def gG(N:List Int)(r:List Int->Int)(P:List Int):List Int:=N.filter λx=>decide (x∈P)||decide (r (P++[x])=r P)
omit h in
theorem cy{P:List Int}{x:Int}:x∈gG N r P↔x∈N/\(x∈P\/r (P++[x])=r P):=by
 unfold gG;rw[mem_filter,or_eq_true,decide_eq_true_eq,decide_eq_true_eq]
theorem lR.sD(hN:N.Nodup){P:List Int}(hn:P.Nodup)(hP:∀y∈P,y∈N):r (gG N r P)=r P:=by
 have hc:(gG N r P).Nodup:=by unfold gG;exact hN.sublist filter_sublist
 have nd:(P++(gG N r P).filter λy=>!decide (y∈P)).Nodup:=by rw[nodup_append];exact⟨hn,hc.sublist filter_sublist,λa ha b hb e=>by subst e;have:=(mem_filter.mp hb).2;simp[ha]at this⟩
 have mm:∀y,y∈(P++(gG N r P).filter λy=>!decide (y∈P))↔y∈gG N r P:=λy=>by
  rw[mem_append,mem_filter];constructor
  ·rintro(z|z)
   ·exact cy.mpr ⟨hP y z,.inl z⟩
   ·exact z.1
  ·intro z
   by_cases c:y∈P
   ·exact .inl c
   ·exact .inr ⟨z,by simpa using c⟩
 have hi:∀y∈(P++(gG N r P).filter λy=>!decide (y∈P)),y∈N:=λy hy=>(cy.mp ((mm y).mp hy)).1;rw[<-h.same _ _ nd hc hi mm];refine h.close _ P nd hi λx hx=>?_;obtain⟨h1,h2⟩:=mem_filter.mp hx;exact(cy.mp h1).2.resolve_left (by simpa using h2)
theorem lR.JD(hN:N.Nodup){P:List Int}(hn:P.Nodup)(hP:∀y∈P,y∈N):gG N r (gG N r P)=gG N r P:=by
 have hc:(gG N r P).Nodup:=by unfold gG;exact hN.sublist filter_sublist
 have hr:=h.sD hN hn hP;rw[gG]
 conv=>rhs;rw[gG]
 refine filter_congr λx hx=>?_;rw[Bool.eq_iff_iff,or_eq_true,or_eq_true,decide_eq_true_eq,decide_eq_true_eq,decide_eq_true_eq,decide_eq_true_eq,hr]
 by_cases c:x∈gG N r P
 ·exact⟨λ_=>(cy.mp c).2,λ_=>.inl c⟩
 ·constructor
  ·rintro(z|z)
   ·exact absurd z c
   ·exfalso
    have nP:x∉P:=λq=>c (cy.mpr ⟨hx,.inl q⟩);have m:=h.mono (P:=P++[x]) (Q:=gG N r P++[x]) (iO hn nP) (iO hc c) ((λy hy=>by rcases(dZ y).mp hy with q|rfl;exact(cy.mp q).1;exact hx)) λy hy=>by
     rcases(dZ y).mp hy with q|rfl
     ·exact mem_append_left _ (cy.mpr ⟨hP y q,.inl q⟩)
     ·simp
    have s:=h.step P x hn hP hx nP;exact c (cy.mpr ⟨hx,.inr (by omega)⟩)
  ·exact λz=>absurd (cy.mpr ⟨hx,z⟩) c
end
section
variable {p q:Int} {ts:List T3}
noncomputable def kq(κ:Nat)(p q:Int)(ts:List T3)(P:List Int):Int:=if κ = 0 then (P.length:Int) else if κ = 1 then (lH p q ts P:Int) else (P.length:Int)-lH p q ts (nms ts)+lH p q ts (others ts P)
theorem sE{P Q:List Int}(hp:P.Nodup)(hq:Q.Nodup)(h:∀y,y∈P↔y∈Q):P.length=Q.length :=
 Nat.le_antisymm (dH hp λx hx=>(h x).mp hx) (dH hq λx hx=>(h x).mpr hx)
theorem nL{P:List Int}{x:Int}(hx:x∈nms ts)(hn:x∉P)(y:Int):y∈others ts P↔y∈others ts (P++[x])\/y=x:=by
 rw[nK,nK,dZ];constructor
 ·rintro⟨h1,h2⟩
  by_cases c:y=x
  ·exact .inr c
  ·exact .inl ⟨h1,λz=>z.elim h2 c⟩
 ·rintro(⟨h1,h2⟩|rfl)
  ·exact⟨h1,λz=>h2 (.inl z)⟩
  ·exact⟨hx,hn⟩
theorem yj(ok:aY p q ts){κ:Nat}(hk:κ < 3):lR (nms ts) (kq κ p q ts):=by
 match κ,hk with
 |0,_=>have e:∀P,kq 0 p q ts P=(P.length:Int):=λP=>if_pos rfl;refine⟨by rw[e];rfl,λP Q hp hq _ h=>by rw[e,e,sE hp hq h],λP x _ _ _ _=>.inr (by rw[e,e,length_append];rfl),λP Q x _ _ _ _ _ _ z=>?_⟩;rw[e,e,length_append]at z;simp at z;omega
 |1,_=>
  have e:∀P,kq 1 p q ts P=(lH p q ts P:Int):=λP=>by unfold kq;rw[if_neg (by decide),if_pos rfl]
  refine⟨by rw[e,JC];rfl,λP Q _ _ hP h=>by rw[e,e,yi ok hP h],λP x _ hP hx _=>?_,λP Q x _ _ hQ hs hx _ z=>?_⟩
  ·have:=su ok (Q:=P++[x]) hP hx dZ;rw[e,e];omega
  ·rw[e,e]at z |-;have hP:∀y∈P,y∈nms ts:=λy hy=>hQ y (hs y hy);have w:=(AX ok (Q:=P++[x]) hP hx dZ).mpr (by omega);rw[(AX ok (Q:=Q++[x]) hQ hx dZ).mp (w.mono hs)]
 |2,_=>
  have e:∀P,kq 2 p q ts P=(P.length:Int)-lH p q ts (nms ts)+lH p q ts (others ts P):=λP=>by unfold kq;rw[if_neg (by decide),if_neg (by decide)]
  have l1:∀(P:List Int) (x:Int),((P++[x]).length:Int)=P.length+1:=λP x=>by simp
  refine⟨?_,λP Q hp hq hP h=>?_,λP x _ hP hx hn=>?_,λP Q x _ _ hQ hs hx hn z=>?_⟩
  ·have:others ts []=nms ts:=by unfold others;rw[filter_eq_self];simp
   rw[e,this,length_nil];omega
  ·rw[e,e,sE hp hq h,yi ok mG (P:=others ts P) (Q:=others ts Q) λy=>by rw[nK,nK,h]]
  ·have:=su ok (P:=others ts (P++[x])) (Q:=others ts P) (x:=x) mG hx (nL hx hn);rw[e,e,l1];omega
  ·rw[e,e,l1]at z |-
   have hnP:x∉P:=λw=>hn (hs x w);have sQ:=su ok (P:=others ts (Q++[x])) (Q:=others ts Q) (x:=x) mG hx (nL hx hn);have y1:=AX ok (P:=others ts (P++[x])) (Q:=others ts P) (x:=x) mG hx (nL hx hnP);have y2:=AX ok (P:=others ts (Q++[x])) (Q:=others ts Q) (x:=x) mG hx (nL hx hn);have n1:¬ Wy p q ts (others ts (P++[x])) x:=λw=>by have:=y1.mp w;omega
   have n2:¬ lH p q ts (others ts Q)=lH p q ts (others ts (Q++[x])):=λw=>n1 ((y2.mpr w).mono λy hy=>by
    rw[nK]at hy |-;exact⟨hy.1,λk=>hy.2 (by rcases(dZ y).mp k with k|k;exact mem_append_left _ (hs y k);rw[k];simp)⟩)
   omega
end
end K36
end
section
open PySem L2 Hv
namespace K36
noncomputable def Rw(N P:List Int):Prop:=P.Nodup/\∀y∈P,y∈N
noncomputable def Fx(N:List Int)(r:List Int->Int)(A B:List Int):Prop:=(∀x∈A,x∈gG N r B)/\∀x∈B,x∈gG N r A
structure jJ (N:List Int) (r:List Int->Int) (A0 B0 L R:List Int):Prop where
 sl:L.Sublist (PySem.W.sortI A0)
 sr:R.Sublist (PySem.W.sortI B0)
 fx:Fx N r L R
 most:∀A B,Rw N A->Rw N B->Fx N r A B->(∀x∈A,x∈A0)->(∀x∈B,x∈B0)->(∀x∈A,x∈L)/\∀x∈B,x∈R
theorem Rw.sub{N P Q:List Int}(h:Rw N Q)(s:P.Sublist Q):Rw N P:=⟨h.1.sublist s,λy hy=>h.2 y (s.subset hy)⟩
theorem Rw.sort{N P:List Int}(h:Rw N P):Rw N (PySem.W.sortI P):=⟨(sortI_perm P).nodup_iff.mpr h.1,λy hy=>h.2 y ((sortI_perm P).mem_iff.mp hy)⟩
theorem jJ.flip{N:List Int}{A0 B0 L R:List Int}(t:jJ N r A0 B0 L R):jJ N r B0 A0 R L :=
 ⟨t.sr,t.sl,⟨t.fx.2,t.fx.1⟩,λA B ha hb f h1 h2=>(t.most B A hb ha ⟨f.2,f.1⟩ h2 h1).symm⟩
theorem gH{A0 L:List Int}(s:L.Sublist (PySem.W.sortI A0)):∀x∈L,x∈A0:=λx hx=>(sortI_perm A0).mem_iff.mp (s.subset hx)
theorem sub_le{A0 L:List Int}(s:L.Sublist (PySem.W.sortI A0)):L.Pairwise (· <= ·):=(sortI_rises A0).sublist s
theorem iW{L M:List Int}(hl:L.Nodup)(hm:M.Nodup)(h:∀x,x∈L↔x∈M)(sl:L.Pairwise (· <= ·))(sm:M.Pairwise (· <= ·)):L=M:=by
 have p:L.Perm M:=(List.perm_ext_iff_of_nodup hl hm).mpr h;exact(eq_sortI p sl).trans (eq_sortI (List.Perm.refl M) sm).symm
section
variable {N:List Int} {r:List Int->Int} (h:lR N r) (hN:N.Nodup)
include h
theorem lR.sG{P Q:List Int}(hp:Rw N P)(hq:Rw N Q)(hs:∀y∈P,y∈Q){x:Int}(hx:x∈gG N r P):x∈gG N r Q:=by
 obtain⟨h1,h2⟩:=cy.mp hx;refine cy.mpr ⟨h1,?_⟩
 rcases h2 with z|z
 ·exact .inl (hs x z)
 ·by_cases c:x∈Q
  ·exact .inl c
  ·exact .inr (h.loc P Q x hp.1 hq.1 hq.2 hs h1 c z)
include hN
theorem sH{P:List Int}:Rw N (gG N r P):=⟨by unfold gG;exact hN.sublist filter_sublist,λy hy=>(cy.mp hy).1⟩
theorem lR.JE{A B:List Int}(ha:Rw N A)(hb:Rw N B)(f:Fx N r A B):r A=r B:=by
 have e1:=h.sD hN hb.1 hb.2;have e2:=h.sD hN ha.1 ha.2;have m1:=h.mono ha.1 (sH h hN (P:=B)).1 (sH h hN).2 f.1;have m2:=h.mono hb.1 (sH h hN (P:=A)).1 (sH h hN).2 f.2;omega
theorem lR.N4{A B:List Int}(ha:Rw N A)(hb:Rw N B)(f:Fx N r A B):gG N r A=gG N r B:=by
 have hc:∀{A B:List Int},Rw N A->Rw N B->(∀x∈A,x∈gG N r B)->∀x∈gG N r A,x∈gG N r B:=λha hb f x hx=>by
  have:=h.sG ha (sH h hN) f hx;rwa [h.JD hN hb.1 hb.2]at this
 have k:∀x∈N,(decide (x∈A)||decide (r (A++[x])=r A))=(decide (x∈B)||decide (r (B++[x])=r B)):=λx hx=>by
  rw[Bool.eq_iff_iff,or_eq_true,or_eq_true,decide_eq_true_eq,decide_eq_true_eq,decide_eq_true_eq,decide_eq_true_eq];exact⟨λz=>(cy.mp (hc ha hb f.1 x (cy.mpr ⟨hx,z⟩))).2,λz=>(cy.mp (hc hb ha f.2 x (cy.mpr ⟨hx,z⟩))).2⟩
 unfold gG;exact filter_congr k
omit hN in
theorem lR.yk{P Q:List Int}(hp:Rw N P)(hq:Rw N Q)(hs:∀y∈P,y∈Q)(f:r Q=Q.length):r P=P.length:=by
 have nd:(P++Q.filter λy=>!decide (y∈P)).Nodup:=by rw[nodup_append];exact⟨hp.1,hq.1.sublist filter_sublist,λa ha b hb e=>by subst e;have:=(mem_filter.mp hb).2;simp[ha]at this⟩
 have mm:∀y,y∈(P++Q.filter λy=>!decide (y∈P))↔y∈Q:=λy=>by
  rw[mem_append,mem_filter];constructor
  ·rintro(z|z)
   ·exact hs y z
   ·exact z.1
  ·intro z
   by_cases c:y∈P
   ·exact .inl c
   ·exact .inr ⟨z,by simpa using c⟩
 have hi:∀y∈(P++Q.filter λy=>!decide (y∈P)),y∈N:=λy hy=>hq.2 y ((mm y).mp hy);have a:=(h.app _ P nd hi).2;have b:=(h.bound hp.1 hp.2).2;have l:=sE nd hq.1 mm;rw[length_append]at l;rw[h.same _ Q nd hq.1 hi mm]at a;omega
omit h hN in
theorem jJ.rw{A0 B0 L R:List Int}(t:jJ N r A0 B0 L R)(ha:Rw N A0)(hb:Rw N B0):Rw N L/\Rw N R:=⟨ha.sort.sub t.sl,hb.sort.sub t.sr⟩
theorem jJ.len{A0 B0 L R:List Int}(t:jJ N r A0 B0 L R)(ha:Rw N A0)(hb:Rw N B0)(fa:r A0=A0.length)(fb:r B0=B0.length):L.length=R.length:=by
 obtain⟨hl,hr⟩:=t.rw ha hb;have e:=h.JE hN hl hr t.fx;have e1:=h.yk hl ha (gH t.sl) fa;have e2:=h.yk hr hb (gH t.sr) fb;omega
omit h hN in
theorem jJ.uniq{A0 B0 L R L' R':List Int}(t:jJ N r A0 B0 L R)(t':jJ N r A0 B0 L' R')(ha:Rw N A0)(hb:Rw N B0):L=L'/\R=R':=by
 obtain⟨hl,hr⟩:=t.rw ha hb;obtain⟨hl',hr'⟩:=t'.rw ha hb;have m1:=t.most L' R' hl' hr' t'.fx (gH t'.sl) (gH t'.sr);have m2:=t'.most L R hl hr t.fx (gH t.sl) (gH t.sr);exact⟨iW hl.1 hl'.1 (λx=>⟨m2.1 x,m1.1 x⟩) (sub_le t.sl) (sub_le t'.sl),iW hr.1 hr'.1 (λx=>⟨m2.2 x,m1.2 x⟩) (sub_le t.sr) (sub_le t'.sr)⟩
omit h hN in
theorem jJ.again{A0 B0 L R L' R':List Int}(t:jJ N r A0 B0 L R)(t':jJ N r L R L' R')(ha:Rw N A0)(hb:Rw N B0):L'=L/\R'=R:=by
 obtain⟨hl,hr⟩:=t.rw ha hb;obtain⟨hl',hr'⟩:=t'.rw hl hr;have m:=t'.most L R hl hr t.fx (λ_ h=>h) λ_ h=>h;exact⟨iW hl'.1 hl.1 (λx=>⟨gH t'.sl x,m.1 x⟩) (sub_le t'.sl) (sub_le t.sl),iW hr'.1 hr.1 (λx=>⟨gH t'.sr x,m.2 x⟩) (sub_le t'.sr) (sub_le t.sr)⟩
omit h hN in
theorem jJ.part{A0 B0 L R A1 B1 L' R':List Int}(t:jJ N r A0 B0 L R)(t':jJ N r A1 B1 L' R')(ha:Rw N A1)(hb:Rw N B1)(sa:∀x∈A1,x∈A0)(sb:∀x∈B1,x∈B0):(∀x∈L',x∈L)/\∀x∈R',x∈R:=by
 obtain⟨hl',hr'⟩:=t'.rw ha hb;exact t.most L' R' hl' hr' t'.fx (λx hx=>sa x (gH t'.sl x hx)) λx hx=>sb x (gH t'.sr x hx)
theorem lR.turn{A0 B0 L R:List Int}(hl:Rw N L)(hr:Rw N R)(m:∀A B,Rw N A->Rw N B->Fx N r A B->(∀x∈A,x∈A0)->(∀x∈B,x∈B0)->(∀x∈A,x∈L)/\∀x∈B,x∈R) :
  ∀A B,Rw N A->Rw N B->Fx N r A B->(∀x∈A,x∈A0)->(∀x∈B,x∈B0)->(∀x∈A,x∈L.filter λx=>decide (x∈gG N r R))/\∀x∈B,x∈R.filter λx=>decide (x∈gG N r (L.filter λx=>decide (x∈gG N r R))):=by
 intro A B ha hb f sa sb;obtain⟨m1,m2⟩:=m A B ha hb f sa sb;have k1:∀x∈A,x∈L.filter λx=>decide (x∈gG N r R):=λx hx=>mem_filter.mpr ⟨m1 x hx,by rw[decide_eq_true_eq];exact h.sG hb hr m2 (f.1 x hx)⟩;refine⟨k1,λx hx=>mem_filter.mpr ⟨m2 x hx,?_⟩⟩;rw[decide_eq_true_eq];exact h.sG ha (hl.sub filter_sublist) k1 (f.2 x hx)
omit h hN in
theorem AY{L:List Int}(e:(L.filter F).length=L.length):∀x∈L,F x=true:=filter_eq_self.mp (filter_sublist.eq_of_length e)
omit h hN in
theorem FP{L R:List Int}(e:(L.filter λx=>decide (x∈gG N r R)).length+(R.filter λx=>decide (x∈gG N r (L.filter λx=>decide (x∈gG N r R)))).length=L.length+R.length):L.filter (λx=>decide (x∈gG N r R))=L/\R.filter (λx=>decide (x∈gG N r (L.filter λx=>decide (x∈gG N r R))))=R/\Fx N r L R:=by
 have l1:=length_filter_le (λx=>decide (x∈gG N r R)) L;have l2:=length_filter_le (λx=>decide (x∈gG N r (L.filter λx=>decide (x∈gG N r R)))) R;have f1:=AY (L:=L) (F:=λx=>decide (x∈gG N r R)) (by omega);have e1:L.filter (λx=>decide (x∈gG N r R))=L:=filter_eq_self.mpr f1;rw[e1]at e l2 |-;have f2:=AY (L:=R) (F:=λx=>decide (x∈gG N r L)) (by omega);exact⟨rfl,filter_eq_self.mpr f2,λx hx=>of_decide_eq_true (f1 x hx),λx hx=>of_decide_eq_true (f2 x hx)⟩
end
end K36
end
section
open PySem L2 Hv
namespace K36
noncomputable def Tt:IE:=.bin .pow (.cst (.int 10)) (.cst (.int 57))
noncomputable def Cw:Int:=10 ^ (57:Int).toNat
theorem AZ:0<Cw:=by decide
theorem N5:gQ Cw=true:=by decide
noncomputable def s1:IS:=.asg (.one 2) (.bin .add (.bin .add (.var 2) (.cst (.int 1))) (.bin .mod (.var 0) Tt))
noncomputable def s2:IS:=.asg (.one 0) (.bin .fdiv (.var 0) Tt)
noncomputable def s3:IS:=.expr (.met .append (.var 3) (.cons (.var 2) .nil))
noncomputable def yl:eE:=.cons s1 (.cons s2 (.cons s3 .nil))
theorem lG{ms:List Nat}(h:aQ Ψ ms st env=.ok (.nx env')):aV Ψ ms (.cons st r) env=aV Ψ ms r env':=by
 rw[aV,h];rfl
theorem FQ:bI Ψ Tt env=.ok (true,.int Cw):=by
 unfold Tt;simp only[bI,bN,AG (show decide ((0:Int)<=57/\(57:Int)<=1000000/\(10:Int).natAbs<2 ^ 64)=true by decide)];rfl
theorem SA{c n y:Int}:aQ Ψ [3] s1 [some (.sh,.int c),some (.sh,.int n),some (.sh,.int y),some (.ow,v),d]=.ok (.nx [some (.sh,.int c),some (.sh,.int n),some (.sh,.int (y+1+c%Cw)),some (.ow,v),d]):=by
 unfold s1;simp only[EV,FQ,fF (show decide (0<Cw)=true by rw[decide_eq_true_eq];exact AZ)];exact if_neg (by decide)
theorem SD{c n y:Int}:aQ Ψ [3] s2 [some (.sh,.int c),some (.sh,.int n),some (.sh,.int y),some (.ow,v),d]=.ok (.nx [some (.sh,.int (c/Cw)),some (.sh,.int n),some (.sh,.int y),some (.ow,v),d]):=by
 unfold s2;simp only[EV,FQ,fE N5];exact if_neg (by decide)
theorem SE{c n y:Int}{xs:List Int}(h:xs.length<64):aQ Ψ [3] s3 [some (.sh,.int c),some (.sh,.int n),some (.sh,.int y),some (.ow,.rl (xs.map .int)),d]=.ok (.nx [some (.sh,.int c),some (.sh,.int n),some (.sh,.int y),some (.ow,.rl ((xs++[y]).map .int)),d]):=by
 unfold s3;have z:xs.length<sizeLine:=by unfold sizeLine;omega
 simp only[EV,length_map,z,map_append]
theorem JF{c n y:Int}{xs:List Int}(h:xs.length<64):aV Ψ [3] yl [some (.sh,.int c),some (.sh,.int n),some (.sh,.int y),some (.ow,.rl (xs.map .int)),d]=.ok (.nx [some (.sh,.int (c/Cw)),some (.sh,.int n),some (.sh,.int (y+1+c%Cw)),some (.ow,.rl ((xs++[y+1+c%Cw]).map .int)),d]):=by
 unfold yl;rw[lG SA,lG SD,lG (SE h)];simp only[aV]
theorem JG{c n:Int}{y:Int}(h:inR n=true):aQ Ψ [3] (.for (.one 4) .range (.cons (.var 1) .nil) yl) [some (.sh,.int c),some (.sh,.int n),some (.sh,.int y),some (.ow,v),d] =
  oE (λx env=>pb (pl (fD (.one 4) x env)) λenv'=>aV Ψ [3] yl env') ((List.range n.toNat).map λ(i:Nat)=>Val.int (0+(i:Int))) [some (.sh,.int c),some (.sh,.int n),some (.sh,.int y),some (.ow,v),d]:=by
 rw[aQ,show (xB (.one 4) (.cons (.var 1) .nil) yl&&(Hv.stored (.one 4)).all λi=>!([3]:List Nat).contains i)=true from by decide,vC];have e:iz Ψ (.cons (.var 1) .nil) [some (.sh,.int c),some (.sh,.int n),some (.sh,.int y),some (.ow,v),d]=.ok [.int n]:=by simp only[EV,bN]
 rw[e,bN,Kn h,jT,bN]
noncomputable def SG:Prop:=∀(c:Int) (n:Nat),n<=15->∃xs:List Int,cK [.int c,.int (n:Int)]=.ok (true,.rl (xs.map .int))/\xs.length=n/\xs.Pairwise (· < ·)/\∀x∈xs,0<=x
theorem FT:SG:=by
 intro c n hn;have hr:inR (n:Int)=true:=by unfold inR;simp;omega
 unfold cK eG;have e1:aQ (aj tD) [3] (.asg (.one 2) (.neg (.cst (.int 1)))) [some (.sh,.int c),some (.sh,.int n),none,none,none]=.ok (.nx [some (.sh,.int c),some (.sh,.int n),some (.sh,.int (-1)),none,none]):=by
  simp only[EV,bN]
  try rfl
 have e2:aQ (aj tD) [3] (.asg (.one 3) (.lst .nil)) [some (.sh,.int c),some (.sh,.int n),some (.sh,.int (-1)),none,none]=.ok (.nx [some (.sh,.int c),some (.sh,.int n),some (.sh,.int (-1)),some (.ow,.rl []),none]):=by simp only[EV,bN]
 have hm:gr bS=[3]:=by decide
 have hi:bS=(.cons (.asg (.one 2) (.neg (.cst (.int 1)))) (.cons (.asg (.one 3) (.lst .nil)) (.cons (.for (.one 4) .range (.cons (.var 1) .nil) yl) (.cons (.ret (.var 3)) .nil)))):=rfl;rw[hm,hi];show ∃xs:List Int,pb (aV (aj tD) [3] _ [some (.sh,.int c),some (.sh,.int n),none,none,none]) _=_/\_;rw[lG e1,lG e2];have key:=bL (us:=List.range n) (k:=λf=>Pr.ok f) (body:=λx env=>pb (pl (fD (.one 4) x env)) λenv'=>aV (aj tD) [3] yl env') (λi:Nat=>Val.int (0+(i:Int)))
  (λr:Pr zo=>∃(c' y:Int) (xs:List Int) (d:Option (Mk×Val)),r=.ok (.nx [some (.sh,.int c'),some (.sh,.int n),some (.sh,.int y),some (.ow,.rl (xs.map .int)),d])/\xs.length=n/\xs.Pairwise (· < ·)/\∀x∈xs,0<=x)
  (kB:=[some (.sh,.int c),some (.sh,.int n),some (.sh,.int (-1)),some (.ow,.rl []),none])
  (λdone env=>∃(c' y:Int) (xs:List Int) (d:Option (Mk×Val)),env=[some (.sh,.int c'),some (.sh,.int n),some (.sh,.int y),some (.ow,.rl (xs.map .int)),d]/\xs.length=done.length/\xs.Pairwise (· < ·)/\(∀x∈xs,0<=x/\x<=y) /\ -1<=y)
  ⟨c,-1,[],none,rfl,rfl,List.Pairwise.nil,λ_ h=>by simp at h,by omega⟩ (by
   rintro pre k post env hx ⟨c',y,xs,d,rfl,hl,hp,hb,hy⟩;have hlt:xs.length<64:=by have:=congrArg length hx;rw[length_append,length_cons,length_range]at this;omega
   have hmod:=emod_nonneg c' (show Cw≠0 from Int.ne_of_gt AZ);have eb:=JF (Ψ:=aj tD) (c:=c') (n:=n) (y:=y) (d:=some (.sh,.int (0+(k:Int)))) hlt;generalize c'%Cw=m at *;refine⟨_,eb,c'/Cw,y+1+m,xs++[y+1+m],_,rfl,?_,?_,?_,by omega⟩
   ·rw[length_append,length_append,hl];rfl
   ·rw[List.pairwise_append];refine⟨hp,List.pairwise_singleton _ _,λa ha b hb'=>?_⟩;rw[mem_singleton]at hb';subst hb';have:=(hb a ha).2;omega
   ·intro x hx'
    rcases mem_append.mp hx' with h|h
    ·have:=hb x h;omega
    ·rw[mem_singleton]at h;subst h;omega) (by
   rintro env ⟨c',y,xs,d,rfl,hl,hp,hb,hy⟩;exact⟨c',y,xs,d,rfl,by rw[hl,length_range],hp,λx hx=>(hb x hx).1⟩)
 have hf:=JG (Ψ:=aj tD) (c:=c) (n:=n) (y:=-1) (v:=.rl []) (d:=none) hr;rw[toNat_natCast]at hf;cases e:oE (λx env=>pb (pl (fD (.one 4) x env)) λenv'=>aV (aj tD) [3] yl env') ((List.range n).map λi:Nat=>Val.int (0+(i:Int))) [some (.sh,.int c),some (.sh,.int n),some (.sh,.int (-1)),some (.ow,.rl []),none] with
 |ok f=>
  rw[e]at key hf;obtain⟨c',y,xs,d,er,h1,h2,h3⟩:=key;have QO:f=.nx [some (.sh,.int c'),some (.sh,.int n),some (.sh,.int y),some (.ow,.rl (xs.map .int)),d]:=by injection er
  subst QO;have im:bR (xs.map Val.int)=true:=by
   clear er h1 h2 h3 hf e
   induction xs with
   |nil=>rfl
   |cons t r ih=>rw[map_cons,bR,ih];rfl
  refine⟨xs,?_,h1,h2,h3⟩;rw[lG hf];simp only[EV,im]
  try rfl
 |exc _ _=>rw[e]at key;obtain⟨_,_,_,_,er,_⟩:=key;cases er
 |no=>rw[e]at key;obtain⟨_,_,_,_,er,_⟩:=key;cases er
end K36
end
section
open PySem L2 Hv
namespace K36
theorem zK(ns:List Int):∃p q ts,gC [.rl (ns.map .int),.int 14]=.ok (false,cG p q ts)/\aY p q ts:=by
 have c0:aX [.rl (ns.map .int),.int 0]=.ok (true,.int (cellAt ns 0)):=iV ns 0;have c1:aX [.rl (ns.map .int),.int 1]=.ok (true,.int (cellAt ns 1)):=iV ns 1;have c2:aX [.rl (ns.map .int),.int 2]=.ok (true,.int (cellAt ns 2)):=iV ns 2;have c3:aX [.rl (ns.map .int),.int 3]=.ok (true,.int (cellAt ns 3)):=iV ns 3;unfold gC fL;generalize cellAt ns 0=k0 at *;generalize cellAt ns 1=k1 at *;generalize cellAt ns 2=rest at *;generalize cellAt ns 3=k3 at *;have Sw:2<=2+rest%7/\2+rest%7<=8:=by omega
 simp only[EV,dN,c1,c2,fF (show decide ((0:Int)<7)=true by decide)];generalize 2+rest%7=many at *;obtain⟨m,rfl⟩:=eq_ofNat_of_zero_le (show 0<=many by omega);have hm:2<=m/\m<=8:=by omega
 obtain⟨Pl,eP,lP,uP,nP⟩:=FT k1 m (by omega);have hmp:decide (0<(m:Int))=true:=by rw[decide_eq_true_eq];omega
 have Tr:gQ (m:Int)=true:=by unfold gQ;rw[decide_eq_true_eq];omega
 simp only[EV,dj,eP,fE (show gQ 7=true by decide),fE Tr,fF hmp,dN,c0,fF (show decide ((0:Int)<14+1)=true by decide)];have hj0:0<=rest/7/(m:Int)/(m:Int)%(14+1)/\rest/7/(m:Int)/(m:Int)%(14+1)<=14:=by omega
 generalize rest/7/(m:Int)/(m:Int)%(14+1)=j at *;obtain⟨n,rfl⟩:=eq_ofNat_of_zero_le hj0.1;obtain⟨N,eN,lN,uN,nN⟩:=FT k0 n (by omega);have i1:=emod_nonneg (rest/7) (show (m:Int)≠0 by omega);have i2:=emod_lt_of_pos (rest/7) (show 0<(m:Int) by omega);have i3:=emod_nonneg (rest/7/(m:Int)) (show (m:Int)≠0 by omega);have i4:=emod_lt_of_pos (rest/7/(m:Int)) (show 0<(m:Int) by omega);generalize rest/7%(m:Int)=o1 at *;generalize rest/7/(m:Int)%(m:Int)=o2 at *;have hpl:∀i:Int,0<=i->i<m->kj (Pl.map Val.int) i=some (.int (Pl.getD i.toNat 0)):=λi h0 h1=>by
  obtain⟨k,rfl⟩:=eq_ofNat_of_zero_le h0;refine mL ?_;rw[getElem?_map,List.getElem?_eq_getElem (by omega)];simp[List.getD,List.getElem?_eq_getElem (show k<Pl.length by omega)]
 have mono:∀i j:Int,0<=i->i<=j->j<m->Pl.getD i.toNat 0<=Pl.getD j.toNat 0:=λi j h0 h1 h2=>by
  obtain⟨a,rfl⟩:=eq_ofNat_of_zero_le h0;obtain⟨b,rfl⟩:=eq_ofNat_of_zero_le (show 0<=j by omega);rw[toNat_natCast,toNat_natCast];have ga:∀k,(h:k<Pl.length)->Pl.getD k 0=Pl[k]:=λk h=>by simp[List.getD,List.getElem?_eq_getElem h]
  rw[ga a (by omega),ga b (by omega)]
  by_cases e:a=b
  ·subst e;exact Int.le_refl _
  ·exact Int.le_of_lt (pairwise_iff_getElem.mp uP a b (by omega) (by omega) (by omega))
 simp only[EV,dj,eN,dN,c3,show 0<=sizeLine by decide,cU]
 repeat rw[kP]
 have z3:3<=sizeLine:=by decide
 have z2:2<=sizeLine:=by decide
 generalize ePl:Pl.map Val.int=PV at *;refine bL Val.int (λr:Pr FV=>∃p q ts,r=.ok (false,cG p q ts)/\aY p q ts)
  (λdone env=>∃(c':Int) (ts:List T3) (m4 m7:Mk) (a b d:Option (Mk×Val)),env=[some (.sh,.rl (ns.map .int)),some (.sh,.int 14),some (.sh,.int rest),some (.sh,.int (m:Int)),some (m4,.rl PV),some (.sh,.int o1),some (.sh,.int o2),some (m7,.rl (N.map .int)),some (.sh,.int c'),some (.ow,.rl (ts.map dS)),a,b,d]/\oA m4=true/\ts.map (·.1)=done/\∀t∈ts,t.2.1<=t.2.2)
  ⟨k3,[],_,_,none,none,none,rfl,by first|rfl|exact uy,rfl,λ_ h=>by simp at h⟩ ?_ ?_
 ·rintro pre x post env hx ⟨c',ts,m4,m7,a,b,d,rfl,h4,ht,he⟩
  have Sy:pre.length<15:=by have:=congrArg length hx;rw[length_append,length_cons]at this;omega
  have hl:ts.length=pre.length:=by rw[<-ht,length_map]
  have z:ts.length<sizeLine:=by rw[hl];unfold sizeLine;omega
  have q1:=hpl (c'%m) (emod_nonneg _ (by omega)) (emod_lt_of_pos _ (by omega));have q2:=hpl (c'/m%m) (emod_nonneg _ (by omega)) (emod_lt_of_pos _ (by omega));generalize Pl.getD (c'%(m:Int)).toNat 0=n1 at *;generalize Pl.getD (c'/(m:Int)%(m:Int)).toNat 0=n2 at *;have tt:Val.tup [.int x,.int (if n2<n1 then n2 else n1),.int (if n2>n1 then n2 else n1)]=dS (turnT (x,n1,n2)):=rfl;refine⟨_,?_,c'/m/m,ts++[turnT (x,n1,n2)],m4,m7,some (.sh,.int x),some (.sh,.int n1),some (.sh,.int n2),rfl,h4,?_,λt Yc=>?_⟩
  ·simp only[EV,aU,h4,fF hmp,fE Tr,kQ q1,kQ q2,z3,tt,length_map,z,map_append]
  ·rw[map_append,ht];rfl
  ·rcases mem_append.mp Yc with h|h
   ·exact he t h
   ·rw[mem_singleton]at h;subst h;unfold turnT;dsimp only;split<;>split<;>omega
 ·rintro env ⟨c',ts,m4,m7,a,b,d,rfl,h4,ht,he⟩
  have q1:=hpl (if o2<o1 then o2 else o1) (by split<;>omega) (by split<;>omega);have q2:=hpl (if o2>o1 then o2 else o1) (by split<;>omega) (by split<;>omega);have hle:=mono (if o2<o1 then o2 else o1) (if o2>o1 then o2 else o1) (by split<;>omega) (by split<;>split<;>omega) (by split<;>omega);have im:bR (ts.map dS)=true:=by
   clear ht he
   induction ts with
   |nil=>rfl
   |cons t r ih=>rw[map_cons,bR,ih];rfl
  refine⟨_,_,ts,?_,⟨hle,?_,?_,he,λt Yc=>?_⟩⟩
  ·simp only[EV,h4,kQ q1,kQ q2,z2,im];rfl
  ·have:ts.length=N.length:=by rw[<-ht,length_map]
   omega
  ·unfold EA;have:=uN;rw[<-ht,pairwise_map]at this;exact this
  ·exact nN _ (by rw[<-ht];exact mem_map_of_mem Yc)
end K36
end
section
open PySem L2 Hv
namespace K36
noncomputable abbrev NF(m:Str):Prop:=m ≠ "net" /\ m ≠ "places" /\ m ≠ "ends" /\ m ≠ "whole"
noncomputable def iJ(κ:Nat)(p q:Int)(ts:List T3):Val:=if κ = 2 then jG 2 p q ts (lH p q ts (nms ts)) else mh κ p q ts
theorem FU{κ:Nat}{p q:Int}{ts:List T3}{m:Str}{js:List (Nat×Nat)}{j:Nat}(hj:js.lookup κ = some j)(h:NF m):lJ [] (iJ κ p q ts) m js=some j:=by
 unfold iJ
 split
 ·rename_i e;subst e;exact r9 hj h
 ·exact Fz hj h
theorem FW{κ:Nat}(hk:κ < 3){p q:Int}(ok:aY p q ts):FD (iJ κ p q ts) p q ts:=by
 unfold iJ
 split
 ·exact vS (by decide) ok
 ·exact vR hk ok
theorem sub_len{p q:Int}(ok:aY p q ts){P:List Int}(hn:P.Nodup)(hP:∀x∈P,x∈nms ts):P.length<=15:=le_trans (dH hn hP) (gY ok)
theorem FY{Ψ:Nat->List Val->Pr FV}(h0:Ψ 19=gA)(h1:Ψ 20=dh)(h2:Ψ 21=cP){κ:Nat}(hk:κ < 3){p q:Int}{ts:List T3}(ok:aY p q ts){P:List Int}(hP:∀x∈P,x∈nms ts)(hl:P.length<=15):Ψ (19 + κ) [iJ κ p q ts,.rl (P.map .int)]=.ok (true,.int (kq κ p q ts P)):=by
 match κ,hk with
 |0,_=>rw[h0];unfold gA fK;simp only[EV,length_map];rfl
 |1,_=>rw[h1];have e:=sf (o:=iJ 1 p q ts) ok (FW (by decide) ok) hP hl;have m:=FU (κ:=1) (p:=p) (q:=q) (ts:=ts) (m:="tree_rank") (js:=[(0,14),(1,14),(2,14)]) (j:=14) rfl (by decide);unfold dh cJ;simp only[EV,m,gj,e];rfl
 |2,_=>rw[h2];exact FL (c:=2) (by decide) rfl rfl ok
theorem mrk{κ:Nat}(hk:κ < 3){p q:Int}{ts:List T3}:lJ [] (iJ κ p q ts) "rank" [(0,19),(1,20),(2,21)]=some (19 + κ):=by
 refine FU ?_ (by decide)
 match κ,hk with
 |0,_=>rfl
 |1,_=>rfl
 |2,_=>rfl
theorem m3{κ:Nat}(hk:κ < 3){p q:Int}{ts:List T3}{m:Str}{j:Nat}(h:NF m):lJ [] (iJ κ p q ts) m [(0,j),(1,j),(2,j)]=some j:=by
 refine FU ?_ h
 match κ,hk with
 |0,_=>rfl
 |1,_=>rfl
 |2,_=>rfl
theorem FZ{κ:Nat}(hk:κ < 3){p q:Int}(ok:aY p q ts){P:List Int}(hn:P.Nodup)(hP:∀x∈P,x∈nms ts):fO [iJ κ p q ts,.rl (P.map .int)]=.ok (true,.rl ((gG (nms ts) (kq κ p q ts) P).map .int)):=by
 have hl:=sub_len ok hn hP;have e:=FY (Ψ:=aj vL) eZ di dM hk ok hP hl;have e1:=vU (FW hk ok) ok.len;have hc:(nms ts).length<=100000:=by have:=gY ok;omega
 have mt:=m3 hk (p:=p) (q:=q) (ts:=ts) (m:="ties") (j:=16) (by decide);unfold fO dW;simp only[EV,mrk hk,e,mt,jF,e1,cU,fS,length_map,hc];rw[eV Val.int Val.int (λx=>decide (x∈P)||decide (kq κ p q ts (P++[x])=kq κ p q ts P)) (nms ts) (λx hx=>by
  have z1:1<=sizeLine:=by decide
  have z:(P.map Val.int).length+([.int x]:List Val).length<=sizeLine:=by rw[length_map];simp;unfold sizeLine;omega
  have em:P.map Val.int++[.int x]=(P++[x]).map .int:=by rw[map_append];rfl
  simp only[EV,aU,pC]
  by_cases c:x∈P
  ·simp[c]
  ·have e2:=FY (Ψ:=aj vL) eZ di dM hk ok (P:=P++[x]) (nJ hP hx) (sub_len ok (iO hn c) (nJ hP hx))
   simp only[EV,c,decide_false,z1,oW z,em,mrk hk,e2];have hm:=(yj ok hk).step P x hn hP hx c
   by_cases d:kq κ p q ts (P++[x])=kq κ p q ts P
   ·simp[d]
   ·have:¬ kq κ p q ts (P++[x])<=kq κ p q ts P:=by omega
    simp[d,this])]
 simp only[EV,bN];rfl
theorem Ga{κ:Nat}(hk:κ < 3){p q:Int}(ok:aY p q ts):iE [.int (κ:Int),cG p q ts]=.ok (true,iJ κ p q ts):=by
 have r0:vK [cG p q ts]=.ok (true,mh 0 p q ts):=r8 pV nF ok;have r1:lE [cG p q ts]=.ok (true,mh 1 p q ts):=r8 mF k9 ok;have r2:nD [cG p q ts]=.ok (true,jG 2 p q ts (lH p q ts (nms ts))):=FJ (by decide) jh iG lQ jk ok
 match κ,hk with
 |0,_=>have d1:decide (((0:Nat):Int)=1)=false:=rfl;have d2:decide (((0:Nat):Int)=2)=false:=rfl;unfold iE gg;simp only[EV,d1,d2,rX,r0];rfl
 |1,_=>have d1:decide (((1:Nat):Int)=1)=true:=rfl;unfold iE gg;simp only[EV,d1,nG,r1];rfl
 |2,_=>have d1:decide (((2:Nat):Int)=1)=false:=rfl;have d2:decide (((2:Nat):Int)=2)=true:=rfl;unfold iE gg;simp only[EV,d1,d2,oO,r2];rfl
theorem sI{κ:Nat}(hk:κ < 3){p q:Int}(ok:aY p q ts){P:List Int}(hP:∀x∈P,x∈nms ts)(hl:P.length<=15):gz [.int (κ:Int),gk p q ts,.rl (P.map .int)]=.ok (true,.int (kq κ p q ts P)):=by
 match κ,hk with
 |0,_=>have d1:decide (((0:Nat):Int)=0)=true:=rfl;unfold gz gc;simp only[EV,d1,length_map];rfl
 |1,_=>have d1:decide (((1:Nat):Int)=0)=false:=rfl;have d2:decide (((1:Nat):Int)=1)=true:=rfl;have e:=sj ok hP hl;unfold gz gc;simp only[EV,d1,d2,iF,e];rfl
 |2,_=>
  have d1:decide (((2:Nat):Int)=0)=false:=rfl;have d2:decide (((2:Nat):Int)=1)=false:=rfl;have ew:=sj ok (P:=nms ts) (λ_ h=>h) (gY ok);have e2:=sj ok (P:=others ts P) mG (AW ok);have ky:mU [] (gk p q ts)=some ((nms ts).map Sum.inl):=rfl;have kv:((nms ts).map (Sum.inl:Int->Key)).map BP=(nms ts).map Val.int:=by rw[map_map];rfl
  have df:qP [] ((nms ts).map Sum.inl) (.rl (P.map .int))=some (others ts P):=JB (by have:=gY ok;omega);unfold gz gc;simp only[EV,d1,d2,ky,kv,df,iF,ew,e2,length_map];rfl
theorem sorted_ints{l:List Int}(h:l.length<64):jP .sorted [.rl (l.map .int)]=.ok (true,.rl ((PySem.W.sortI l).map .int)):=by
 refine yd ?_;unfold fQ;rw[if_pos (by rw[length_map];exact h),ints_map]
theorem az{ms:List Nat}(h:aQ Ψ ms st env=.ok (.nx env')):aV Ψ ms (.cons st r) env=aV Ψ ms r env':=by
 rw[aV,h];rfl
theorem dm{i:Nat}{f:Bool}(h:bI Ψ e env=.ok (f,v)):aQ Ψ [] (.asg (.one i) e) env=.ok (.nx (env.set i (some (jO f v,v)))):=by
 rw[aQ]
 try dsimp only
 rw[h];rfl
theorem pK{ms:List Nat}{f:Bool}(h:yu Ψ c env=.ok (f,.bl false)):aQ Ψ ms (.iff c a .nil) env=.ok (.nx env):=by
 rw[aQ,h,bN];show pb (pl (cB [] (.bl false))) _=_;rw[Eu,jT,bN,if_neg Bool.false_ne_true,aV]
theorem Kp{ms:List Nat}{f:Bool}(h:yu Ψ c env=.ok (f,.bl true)):aQ Ψ ms (.iff c a .nil) env=aV Ψ ms a env:=by
 rw[aQ,h,bN];show pb (pl (cB [] (.bl true))) _=_;rw[Eu,jT,bN,if_pos rfl]
noncomputable abbrev Sl:=Option (Mk×Val)
section
variable {κ:Nat} {p q:Int} {ts:List T3}
theorem pL(hk:κ < 3)(ok:aY p q ts){Ns:List Int}(hN:Rw (nms ts) Ns):∃P,Rw (nms ts) P/\(∀x∈P,x∈Ns)/\kq κ p q ts P=P.length/\fN [.int (κ:Int),gk p q ts,.rl (Ns.map .int)]=.ok (true,.rl (P.map .int)):=by
 unfold fN dU;have z0:0<=sizeLine:=by decide
 have z1:1<=sizeLine:=by decide
 simp only[EV,z0,cU];rw[kP];refine bL Val.int (λr:Pr FV=>∃P,Rw (nms ts) P/\(∀x∈P,x∈Ns)/\kq κ p q ts P=P.length/\r=.ok (true,.rl (P.map .int)))
  (λdone env=>∃P d,Rw (nms ts) P/\(∀x∈P,x∈done)/\kq κ p q ts P=P.length/\env=[some (.sh,.int (κ:Int)),some (.sh,gk p q ts),some (.sh,.rl (Ns.map .int)),some (.ow,.rl (P.map .int)),d])
  ⟨[],none,⟨nodup_nil,λ_ h=>by simp at h⟩,λ_ h=>by simp at h,by rw[(yj ok hk).nil];rfl,rfl⟩ ?_ ?_
 ·rintro pre x post env hx ⟨P,d,hP,hd,hr,rfl⟩
  have hxN:x∈nms ts:=hN.2 x (by rw[hx];simp);have hxP:x∉P:=λhm=>by
   have:=hN.1;rw[hx,nodup_append]at this;exact this.2.2 x (hd x hm) x mem_cons_self rfl
  have hl:=sub_len ok hP.1 hP.2;have Tu:Rw (nms ts) (P++[x]):=⟨iO hP.1 hxP,nJ hP.2 hxN⟩;have e:=sI hk ok (P:=P++[x]) Tu.2 (sub_len ok Tu.1 Tu.2);have z:(P.map Val.int).length+([.int x]:List Val).length<=sizeLine:=by rw[length_map];simp;unfold sizeLine;omega
  have zz:P.length<sizeLine:=by unfold sizeLine;omega
  have em:P.map Val.int++[.int x]=(P++[x]).map .int:=by rw[map_append];rfl
  by_cases c:kq κ p q ts (P++[x])=(P.length:Int)+1
  ·refine⟨_,?_,P++[x],some (.sh,.int x),Tu,λy hy=>?_,by rw[c];simp,rfl⟩
   ·simp only[EV,aU,z1,oW z,em,gE,e,length_map,c,decide_true,zz]
   ·rcases(dZ y).mp hy with k|rfl
    ·exact mem_append_left _ (hd y k)
    ·simp
  ·refine⟨_,?_,P,some (.sh,.int x),hP,λy hy=>mem_append_left _ (hd y hy),hr,rfl⟩;simp only[EV,aU,z1,oW z,em,gE,e,length_map,c,decide_false]
 ·rintro env ⟨P,d,hP,hd,hr,rfl⟩
  refine⟨P,hP,hd,hr,?_⟩;simp only[EV,iI]
  try rfl
theorem sJ(hk:κ < 3)(ok:aY p q ts){P:List Int}(hP:Rw (nms ts) P):gD [.int (κ:Int),gk p q ts,.rl (P.map .int)]=.ok (true,.rl ((gG (nms ts) (kq κ p q ts) P).map .int)):=by
 have hl:=sub_len ok hP.1 hP.2;have hN:(nms ts).length<64:=by have:=gY ok;omega
 have sk:kE [] (gk p q ts)=some (nms ts):=by unfold gk;rw[xT hN,yg ok]
 have e:=sI hk ok hP.2 hl;have hc:(nms ts).length<=100000:=by omega
 unfold gD fM;simp only[EV,gO,e,sk,cU,fS,length_map,hc];rw[eV Val.int Val.int (λx=>decide (x∈P)||decide (kq κ p q ts (P++[x])=kq κ p q ts P)) (nms ts) (λx hx=>by
  have z1:1<=sizeLine:=by decide
  have z:(P.map Val.int).length+([.int x]:List Val).length<=sizeLine:=by rw[length_map];simp;unfold sizeLine;omega
  have em:P.map Val.int++[.int x]=(P++[x]).map .int:=by rw[map_append];rfl
  simp only[EV,aU,pC]
  by_cases c:x∈P
  ·simp[c]
  ·have e2:=sI hk ok (P:=P++[x]) (nJ hP.2 hx) (sub_len ok (iO hP.1 c) (nJ hP.2 hx))
   simp only[EV,c,decide_false,z1,oW z,em,gO,e2]
   by_cases d:kq κ p q ts (P++[x])=kq κ p q ts P<;>simp[d])]
 simp only[EV,bN];rfl
theorem Kq(hk:κ < 3)(ok:aY p q ts){L R:List Int}(hL:Rw (nms ts) L)(hR:Rw (nms ts) R):fP [iJ κ p q ts,.rl (L.map .int),.rl (R.map .int)]=.ok (true,.rl ((L.filter λx=>decide (x∈gG (nms ts) (kq κ p q ts) R)).map .int)):=by
 have rc:=FZ hk ok hR.1 hR.2;have mr:=m3 hk (p:=p) (q:=q) (ts:=ts) (m:="reach") (j:=22) (by decide);have hc:L.length<=100000:=by have:=sub_len ok hL.1 hL.2;omega
 unfold fP dX;simp only[EV,mr,jm,rc,cU,fS,length_map,hc];rw[eV Val.int Val.int (λx=>decide (x∈gG (nms ts) (kq κ p q ts) R)) L (λx hx=>by
  simp only[EV,aU,pC]
  by_cases c:x∈gG (nms ts) (kq κ p q ts) R<;>simp[c])]
 rfl
theorem Gb(t:Int):cop [] .ne .non (.int t)=some true:=rfl
noncomputable def wC:IE:=.cmp .ne (.var 5) (.bin .add (.blt .len (.cons (.var 3) .nil)) (.blt .len (.cons (.var 4) .nil)))
noncomputable def wB:eE:=.cons (.asg (.one 5) (.bin .add (.blt .len (.cons (.var 3) .nil)) (.blt .len (.cons (.var 4) .nil)))) (.cons (.asg (.one 3) (.call 23 (.cons (.var 0) (.cons (.var 3) (.cons (.var 4) .nil))))) (.cons (.asg (.one 4) (.call 23 (.cons (.var 0) (.cons (.var 4) (.cons (.var 3) .nil))))) .nil))
noncomputable def TE(κ:Nat)(p q:Int)(ts:List T3)(A B L R:List Int)(m:Val):bB:=[some (.sh,iJ κ p q ts),some (.sh,.rl (A.map .int)),some (.sh,.rl (B.map .int)),some (.nw,.rl (L.map .int)),some (.nw,.rl (R.map .int)),some (.sh,m)]
theorem ym{A B L R:List Int}{b:Bool}(h:cop [] .ne m (.int ((L.length:Int)+R.length))=some b):yu (aj gB) wC (TE κ p q ts A B L R m)=.ok (true,.bl b):=by
 unfold wC TE;simp only[EV,length_map,h]
noncomputable def tL(κ:Nat)(p q:Int)(ts:List T3)(L R:List Int):List Int:=L.filter λx=>decide (x∈gG (nms ts) (kq κ p q ts) R)
theorem Kr(hk:κ < 3)(ok:aY p q ts){A B L R:List Int}(hL:Rw (nms ts) L)(hR:Rw (nms ts) R):aV (aj gB) [] wB (TE κ p q ts A B L R m)=.ok (.nx (TE κ p q ts A B (tL κ p q ts L R) (tL κ p q ts R (tL κ p q ts L R)) (.int ((L.length:Int)+R.length)))):=by
 have b1:=Kq hk ok hL hR;have b2:=Kq hk ok hR (hL.sub (P:=tL κ p q ts L R) filter_sublist);have e1:aQ (aj gB) [] (.asg (.one 5) (.bin .add (.blt .len (.cons (.var 3) .nil)) (.blt .len (.cons (.var 4) .nil)))) (TE κ p q ts A B L R m)=.ok (.nx (TE κ p q ts A B L R (.int ((L.length:Int)+R.length)))):=by
  rw[dm (f:=true) (v:=.int ((L.length:Int)+R.length))]
  ·rfl
  ·unfold TE;simp only[EV,length_map]
 have e2:aQ (aj gB) [] (.asg (.one 3) (.call 23 (.cons (.var 0) (.cons (.var 3) (.cons (.var 4) .nil))))) (TE κ p q ts A B L R (.int ((L.length:Int)+R.length)))=.ok (.nx (TE κ p q ts A B (tL κ p q ts L R) R (.int ((L.length:Int)+R.length)))):=by
  rw[dm (f:=true) (v:=.rl ((tL κ p q ts L R).map .int))]
  ·rfl
  ·unfold TE;simp only[EV,fT,b1];rfl
 have e3:aQ (aj gB) [] (.asg (.one 4) (.call 23 (.cons (.var 0) (.cons (.var 4) (.cons (.var 3) .nil))))) (TE κ p q ts A B (tL κ p q ts L R) R (.int ((L.length:Int)+R.length)))=.ok (.nx (TE κ p q ts A B (tL κ p q ts L R) (tL κ p q ts R (tL κ p q ts L R)) (.int ((L.length:Int)+R.length)))):=by
  rw[dm (f:=true) (v:=.rl ((tL κ p q ts R (tL κ p q ts L R)).map .int))]
  ·rfl
  ·unfold TE;simp only[EV,fT,b2];rfl
 unfold wB;rw[az e1,az e2,az e3,aV]
noncomputable def TQ(κ:Nat)(p q:Int)(ts:List T3)(A B:List Int)(m:Nat)(env:bB):Prop:=∃L R:List Int,L.Sublist (PySem.W.sortI A)/\R.Sublist (PySem.W.sortI B) /\
 (∀A' B',Rw (nms ts) A'->Rw (nms ts) B'->Fx (nms ts) (kq κ p q ts) A' B'->(∀x∈A',x∈A)->(∀x∈B',x∈B)->(∀x∈A',x∈L)/\∀x∈B',x∈R) /\
 ((env=TE κ p q ts A B L R .non/\m=2*(L.length+R.length)+1)\/∃k:Nat,env=TE κ p q ts A B L R (.int (k:Int))/\(k=L.length+R.length->Fx (nms ts) (kq κ p q ts) L R)/\m=2*(L.length+R.length)+if k=L.length+R.length then 0 else 1)
theorem zL(hk:κ < 3)(ok:aY p q ts){A B:List Int}(hA:Rw (nms ts) A)(hB:Rw (nms ts) B):∃L R,jJ (nms ts) (kq κ p q ts) A B L R/\lF [iJ κ p q ts,.rl (A.map .int),.rl (B.map .int)]=.ok (false,.tup [.rl (L.map .int),.rl (R.map .int)]):=by
 have h:=yj ok hk;have hN:=jH ok;have la:=sub_len ok hA.1 hA.2;have lb:=sub_len ok hB.1 hB.2;have sa:=sorted_ints (l:=A) (by omega);have sb:=sorted_ints (l:=B) (by omega);have pa:=(sortI_perm A);have QS:=(sortI_perm B);have key:=Jb (c:=λenv=>pb (yu (aj gB) wC env) λx=>pl (cB [] x.2)) (body:=aV (aj gB) [] wB) (n:=100000) (kB:=TE κ p q ts A B (PySem.W.sortI A) (PySem.W.sortI B) .non) (k:=λf=>Pr.ok f)
  (λr:Pr zo=>∃L R m,jJ (nms ts) (kq κ p q ts) A B L R/\r=.ok (.nx (TE κ p q ts A B L R m))) (TQ κ p q ts A B) (2*((PySem.W.sortI A).length+(PySem.W.sortI B).length)+1) (by rw[pa.length_eq,QS.length_eq];omega)
  ⟨_,_,List.Sublist.refl _,List.Sublist.refl _,λA' B' _ _ _ s1 s2=>⟨λx hx=>pa.mem_iff.mpr (s1 x hx),λx hx=>QS.mem_iff.mpr (s2 x hx)⟩,.inl ⟨rfl,rfl⟩⟩ (by
   rintro m env ⟨L,R,sl,sr,mo,hh⟩;have hL:=hA.sort.sub sl;have hR:=hB.sort.sub sr;have l1:(tL κ p q ts L R).length<=L.length:=length_filter_le _ _;have l2:(tL κ p q ts R (tL κ p q ts L R)).length<=R.length:=length_filter_le _ _;have nx:∃m' env',aV (aj gB) [] wB env=.ok (.nx env')/\TQ κ p q ts A B m' env'/\m'<2*(L.length+R.length)+1:=by
    have nxt:TQ κ p q ts A B (2*((tL κ p q ts L R).length+(tL κ p q ts R (tL κ p q ts L R)).length)+if L.length+R.length=(tL κ p q ts L R).length+(tL κ p q ts R (tL κ p q ts L R)).length then 0 else 1) (TE κ p q ts A B (tL κ p q ts L R) (tL κ p q ts R (tL κ p q ts L R)) (.int (((L.length+R.length:Nat)):Int))) :=
     ⟨_,_,filter_sublist.trans sl,filter_sublist.trans sr,h.turn hN hL hR mo,.inr ⟨_,rfl,λe=>by
      obtain⟨x1,x2,x3⟩:=FP (N:=nms ts) (r:=kq κ p q ts) (L:=L) (R:=R) e.symm;rw[x2,x1];exact x3,rfl⟩⟩
    have lt:(2*((tL κ p q ts L R).length+(tL κ p q ts R (tL κ p q ts L R)).length)+if L.length+R.length=(tL κ p q ts L R).length+(tL κ p q ts R (tL κ p q ts L R)).length then 0 else 1)<2*(L.length+R.length)+1:=by split<;>omega
    rcases hh with ⟨rfl,_⟩|⟨k,rfl,_,_⟩
    ·exact⟨_,_,Kr hk ok hL hR,nxt,lt⟩
    ·exact⟨_,_,Kr hk ok hL hR,nxt,lt⟩
   rcases hh with ⟨rfl,rfl⟩|⟨k,rfl,kf,rfl⟩
   ·refine .inr ⟨?_,nx⟩;show pb (yu (aj gB) wC (TE κ p q ts A B L R .non)) _=_;rw[ym (Gb _)];rfl
   ·by_cases c:k=L.length+R.length
    ·refine .inl ?_;show pb (yu (aj gB) wC (TE κ p q ts A B L R (.int (k:Int)))) _=_;rw[ym (b:=false) (by rw[IZ,c];simp)];rfl
    ·rw[if_neg c];refine .inr ⟨?_,nx⟩;show pb (yu (aj gB) wC (TE κ p q ts A B L R (.int (k:Int)))) _=_;rw[ym (b:=true) (by rw[IZ,decide_eq_false (by omega)];rfl)];rfl) (by
   rintro m env ⟨L,R,sl,sr,mo,hh⟩ hc
   rcases hh with ⟨rfl,_⟩|⟨k,rfl,kf,_⟩
   ·exfalso;change pb (yu (aj gB) wC (TE κ p q ts A B L R .non)) _=_ at hc;rw[ym (Gb _)]at hc;cases hc
   ·by_cases c:k=L.length+R.length
    ·exact⟨L,R,_,⟨sl,sr,kf c,mo⟩,rfl⟩
    ·exfalso;change pb (yu (aj gB) wC (TE κ p q ts A B L R (.int (k:Int)))) _=_ at hc;rw[ym (b:=true) (by rw[IZ,decide_eq_false (by omega)];rfl)]at hc;cases hc)
 have hir:gh=.cons (.asg (.one 3) (.blt .sorted (.cons (.var 1) .nil))) (.cons (.asg (.one 4) (.blt .sorted (.cons (.var 2) .nil))) (.cons (.asg (.one 5) (.cst .non)) (.cons (.whl 100000 wC wB) (.cons (.ret (.tup (.cons (.var 3) (.cons (.var 4) .nil)))) .nil)))):=rfl;have e1:aQ (aj gB) [] (.asg (.one 3) (.blt .sorted (.cons (.var 1) .nil))) [some (.sh,iJ κ p q ts),some (.sh,.rl (A.map .int)),some (.sh,.rl (B.map .int)),none,none,none]=.ok (.nx [some (.sh,iJ κ p q ts),some (.sh,.rl (A.map .int)),some (.sh,.rl (B.map .int)),some (.nw,.rl ((PySem.W.sortI A).map .int)),none,none]):=by rw[dm (f:=true) (v:=.rl ((PySem.W.sortI A).map .int)) (by simp only[EV,sa])];rfl
 have e2:aQ (aj gB) [] (.asg (.one 4) (.blt .sorted (.cons (.var 2) .nil))) [some (.sh,iJ κ p q ts),some (.sh,.rl (A.map .int)),some (.sh,.rl (B.map .int)),some (.nw,.rl ((PySem.W.sortI A).map .int)),none,none]=.ok (.nx [some (.sh,iJ κ p q ts),some (.sh,.rl (A.map .int)),some (.sh,.rl (B.map .int)),some (.nw,.rl ((PySem.W.sortI A).map .int)),some (.nw,.rl ((PySem.W.sortI B).map .int)),none]):=by rw[dm (f:=true) (v:=.rl ((PySem.W.sortI B).map .int)) (by simp only[EV,sb])];rfl
 have e3:aQ (aj gB) [] (.asg (.one 5) (.cst .non)) [some (.sh,iJ κ p q ts),some (.sh,.rl (A.map .int)),some (.sh,.rl (B.map .int)),some (.nw,.rl ((PySem.W.sortI A).map .int)),some (.nw,.rl ((PySem.W.sortI B).map .int)),none]=.ok (.nx (TE κ p q ts A B (PySem.W.sortI A) (PySem.W.sortI B) .non)):=by rw[dm (f:=true) (v:=.non) (by simp only[EV,bN])];rfl
 have e4:aQ (aj gB) [] (.whl 100000 wC wB) (TE κ p q ts A B (PySem.W.sortI A) (PySem.W.sortI B) .non)=oF (λenv=>pb (yu (aj gB) wC env) λx=>pl (cB [] x.2)) (aV (aj gB) [] wB) 100000 (TE κ p q ts A B (PySem.W.sortI A) (PySem.W.sortI B) .non):=by rw[aQ]
 cases e:oF (λenv=>pb (yu (aj gB) wC env) λx=>pl (cB [] x.2)) (aV (aj gB) [] wB) 100000 (TE κ p q ts A B (PySem.W.sortI A) (PySem.W.sortI B) .non) with
 |exc _ _=>rw[e]at key;obtain⟨_,_,_,_,er⟩:=key;cases er
 |no=>rw[e]at key;obtain⟨_,_,_,_,er⟩:=key;cases er
 |ok f=>
  rw[e]at key;obtain⟨L,R,m,th,er⟩:=key;have QO:f=.nx (TE κ p q ts A B L R m):=by injection er
  subst QO;rw[e]at e4;refine⟨L,R,th,?_⟩;unfold lF eG;rw[show gr gh=[] from by decide,hir];show pb (aV (aj gB) [] _ [some (.sh,iJ κ p q ts),some (.sh,.rl (A.map .int)),some (.sh,.rl (B.map .int)),none,none,none]) _=_;rw[az e1,az e2,az e3,az e4];have z2:2<=sizeLine:=by decide
  unfold TE;simp only[EV,z2]
  try rfl
end
theorem Ks(L R:List Int):cop [] .ne (.tup [.rl (L.map .int),.rl (R.map .int)]) (.tup [.rl (L.map .int),.rl (R.map .int)])=some false:=by
 refine ne_self (Ja (λl:List Int=>Val.rl (l.map .int)) (λl:List Int=>PyData.list (l.map .int)) [L,R] λl _=>zy Val.int PyData.int l λ_ _=>rfl) ?_;rw[PyData.canLay0];exact jU _ _ λl _=>by
  rw[PyData.canLay0];exact jU _ _ λt _=>by rw[PyData.canLay0]
noncomputable def Ct:eE:=.cons (.ret (.cst (.bl false))) .nil
noncomputable def f0:IE:=.idx (.var 11) (.cst (.int 0))
noncomputable def f1:IE:=.idx (.var 11) (.cst (.int 1))
noncomputable def JH(a:IE):IE:=.blt .list (.cons a .nil)
noncomputable def Ku(a b:IE):IE:=.call 24 (.cons (.var 10) (.cons a (.cons b .nil)))
noncomputable def Yd:IS:=.asg (.one 11) (Ku (JH (.var 8)) (JH (.var 9)))
noncomputable def Cy(x:Str)(k:Nat)(s e:IE):IE:=.blt .all (.cons (.comp ["_law_name",x] [none,some k] (.one 0) .seq (.cons s .nil) .no (.cmp .sO (.var 0) e)) .nil)
noncomputable def Ye:IS:=.iff (.or (.not (Cy "_law_ones" 8 f0 (.var 1))) (.not (Cy "_law_others" 9 f1 (.var 1)))) Ct .nil
noncomputable def Yg:IS:=.iff (.cmp .ne (.blt .len (.cons f0 .nil)) (.blt .len (.cons f1 .nil))) Ct .nil
noncomputable def Yh(a:IE):IE:=.call 28 (.cons (.var 4) (.cons (.var 3) (.cons a .nil)))
noncomputable def Yi:IS:=.iff (.cmp .ne (Yh f0) (Yh f1)) Ct .nil
noncomputable def Yj:IS:=.iff (.cmp .ne (Ku (JH f0) (JH f1)) (.var 11)) Ct .nil
noncomputable def Yk:IS:=.iff (.cmp .ne (Ku (JH (.var 9)) (JH (.var 8))) (.tup (.cons f1 (.cons f0 .nil)))) Ct .nil
noncomputable def w1:IS:=.asg (.one 13) (Ku (.call 27 (.cons (.var 8) (.cons (.var 12) .nil))) (.call 27 (.cons (.var 9) (.cons (.bin .fdiv (.var 12) (.cst (.int 3))) .nil))))
noncomputable def w2:IS:=.iff (.or (.not (Cy "_law_found" 11 (.idx (.var 13) (.cst (.int 0))) (.idx (.var 1) (.cst (.int 0))))) (.not (Cy "_law_found" 11 (.idx (.var 13) (.cst (.int 1))) (.idx (.var 1) (.cst (.int 1)))))) Ct .nil
noncomputable def sL:eE:=.cons w1 (.cons w2 .nil)
noncomputable def yo:IE:=.slc (.var 0) (.cst (.int 18)) (.cst (.int 28))
noncomputable def Gd:eE:=.cons Yd (.cons Ye (.cons Yg (.cons Yi (.cons Yj (.cons Yk (.cons (.for (.one 12) .seq (.cons yo .nil) sL) (.cons (.ret (.cst (.bl true))) .nil)))))))
section
variable {L R:List Int}
structure Fr where
 ns:List Int
 κ:Nat
 p:Int
 q:Int
 ts:List T3
 A:List Int
 B:List Int
 a1:Sl
 a2:Sl
 a5:Sl
 a6:Sl
 a7:Sl
 m3:Mk
noncomputable def LE(F:Fr)(r:List Sl):bB:=some (.sh,.rl (F.ns.map .int))::F.a1::F.a2::some (F.m3,gk F.p F.q F.ts)::some (.sh,.int (F.κ:Int))::F.a5::F.a6::F.a7::some (.nw,.rl (F.A.map .int))::some (.nw,.rl (F.B.map .int))::some (jO true (iJ F.κ F.p F.q F.ts),iJ F.κ F.p F.q F.ts)::r
noncomputable def tH(st:IS)(env:bB):Prop:=aQ (aj dY) [] st env=.ok (.nx env)
noncomputable def jY(L R:List Int):Val:=.tup [.rl (L.map .int),.rl (R.map .int)]
structure Bas (F:Fr):Prop where
 hk:F.κ < 3
 ok:aY F.p F.q F.ts
 hA:Rw (nms F.ts) F.A
 hB:Rw (nms F.ts) F.B
 fA:kq F.κ F.p F.q F.ts F.A=F.A.length
 fB:kq F.κ F.p F.q F.ts F.B=F.B.length
 h3:oA F.m3=true
noncomputable abbrev Th(F:Fr):List Int->List Int->List Int->List Int->Prop:=jJ (nms F.ts) (kq F.κ F.p F.q F.ts)
variable {F:Fr} (T:Bas F) (th:Th F F.A F.B L R)
include T
theorem Bas.JI{P Q:List Int}(hP:Rw (nms F.ts) P)(hQ:Rw (nms F.ts) Q):∃L R,Th F P Q L R/\aj dY 24 [iJ F.κ F.p F.q F.ts,.rl (P.map .int),.rl (Q.map .int)]=.ok (false,.tup [.rl (L.map .int),.rl (R.map .int)]):=zL T.hk T.ok hP hQ
theorem N6{Td c12 l0:Sl}:∃L R,Th F F.A F.B L R/\aQ (aj dY) [] Yd (LE F [Td,c12,l0])=.ok (.nx (LE F [some (.sh,jY L R),c12,l0])):=by
 obtain⟨L,R,th,e⟩:=T.JI T.hA T.hB;refine⟨L,R,th,?_⟩;unfold Yd Ku JH;rw[dm (f:=false) (v:=jY L R)]
 ·rfl
 ·unfold LE;simp only[EV,iI,e];rfl
include th
theorem N7{c12 l0:Sl}:tH Ye (LE F [some (.sh,jY L R),c12,l0]):=by
 obtain⟨hl,hr⟩:=th.rw T.hA T.hB;have l1:=sub_len T.ok hl.1 hl.2;have l2:=sub_len T.ok hr.1 hr.2;have hc1:L.length<=100000:=by omega
 have hc2:R.length<=100000:=by omega
 have k1:bI (aj dY) (Cy "_law_ones" 8 f0 (.var 1)) (LE F [some (.sh,jY L R),c12,l0])=.ok (true,.bl true):=by
  unfold Cy f0 LE jY;simp only[EV,cY pT,cU,fS,length_map,hc1];rw[eO Val.int (λ_=>.bl true) L (λx hx=>by
   have c:=gH th.sl x hx;simp only[EV,aU,pC,c,decide_true])]
  simp only[EV,all_true]
 have k2:bI (aj dY) (Cy "_law_others" 9 f1 (.var 1)) (LE F [some (.sh,jY L R),c12,l0])=.ok (true,.bl true):=by
  unfold Cy f1 LE jY;simp only[EV,cY oH,cU,fS,length_map,hc2];rw[eO Val.int (λ_=>.bl true) R (λx hx=>by
   have c:=gH th.sr x hx;simp only[EV,aU,pC,c,decide_true])]
  simp only[EV,all_true]
 unfold tH Ye;refine pK (f:=true) ?_;simp only[EV,k1,k2]
theorem N8{c12 l0:Sl}:tH Yg (LE F [some (.sh,jY L R),c12,l0]):=by
 have hl:=jJ.len (yj T.ok T.hk) (jH T.ok) th T.hA T.hB T.fA T.fB;unfold tH Yg f0 f1;refine pK (f:=true) ?_;unfold LE jY;simp only[EV,cY pT,cY oH,length_map,hl,decide_true]
theorem N9{c12 l0:Sl}:tH Yi (LE F [some (.sh,jY L R),c12,l0]):=by
 obtain⟨hl,hr⟩:=th.rw T.hA T.hB;have e1:=sJ T.hk T.ok hl;have e2:=sJ T.hk T.ok hr;rw[(yj T.ok T.hk).N4 (jH T.ok) hl hr th.fx]at e1;unfold tH Yi Yh f0 f1;refine pK (f:=true) ?_;unfold LE jY;simp only[EV,T.h3,cY pT,cY oH,oR,e1,e2,JA]
theorem Oa{c12 l0:Sl}:tH Yj (LE F [some (.sh,jY L R),c12,l0]):=by
 obtain⟨hl,hr⟩:=th.rw T.hA T.hB;obtain⟨L',R',th',e⟩:=T.JI hl hr;obtain⟨q1,q2⟩:=th.again th' T.hA T.hB;rw[q1,q2]at e;unfold tH Yj Ku JH f0 f1;refine pK (f:=true) ?_;unfold LE jY;simp only[EV,cY pT,cY oH,iI,e,Ks]
theorem Oc{c12 l0:Sl}:tH Yk (LE F [some (.sh,jY L R),c12,l0]):=by
 obtain⟨R',L',th',e⟩:=T.JI T.hB T.hA;obtain⟨q1,q2⟩:=th'.flip.uniq th T.hA T.hB;rw[q1,q2]at e;have z2:2<=sizeLine:=by decide
 unfold tH Yk Ku JH f0 f1;refine pK (f:=true) ?_;unfold LE jY;simp only[EV,cY pT,cY oH,iI,z2,e,Ks]
theorem JJ{x:Int}{l0:Sl}:∃RW,aV (aj dY) [] sL (LE F [some (.sh,jY L R),some (.sh,.int x),l0])=.ok (.nx (LE F [some (.sh,jY L R),some (.sh,.int x),RW])):=by
 have la:=sub_len T.ok T.hA.1 T.hA.2;have lb:=sub_len T.ok T.hB.1 T.hB.2;have r1:=vQ F.A x (by omega);have r2:=vQ F.B (x/3) (by omega);have s1:=jI F.A x;have s2:=jI F.B (x/3);generalize nI F.A x=P at r1 s1;generalize nI F.B (x/3)=Q at r2 s2;have hP:=T.hA.sub s1;have hQ:=T.hB.sub s2;obtain⟨L',R',th',e⟩:=T.JI hP hQ;obtain⟨i1,i2⟩:=th.part th' hP hQ (λy hy=>s1.subset hy) λy hy=>s2.subset hy;obtain⟨hl,hr⟩:=th'.rw hP hQ;have l1:=sub_len T.ok hl.1 hl.2;have l2:=sub_len T.ok hr.1 hr.2;have hc1:L'.length<=100000:=by omega
 have hc2:R'.length<=100000:=by omega
 have e1:aQ (aj dY) [] w1 (LE F [some (.sh,jY L R),some (.sh,.int x),l0])=.ok (.nx (LE F [some (.sh,jY L R),some (.sh,.int x),some (.sh,jY L' R')])):=by
  unfold w1 Ku;rw[dm (f:=false) (v:=jY L' R')]
  ·rfl
  ·unfold LE;simp only[EV,jW,r1,fE (show gQ 3=true by decide),r2,e];rfl
 have k1:bI (aj dY) (Cy "_law_found" 11 (.idx (.var 13) (.cst (.int 0))) (.idx (.var 1) (.cst (.int 0)))) (LE F [some (.sh,jY L R),some (.sh,.int x),some (.sh,jY L' R')])=.ok (true,.bl true):=by
  unfold Cy LE jY;simp only[EV,cY pT,cU,fS,length_map,hc1];rw[eO Val.int (λ_=>.bl true) L' (λy hy=>by
   have c:=i1 y hy;simp only[EV,aU,cY pT,pC,c,decide_true])]
  simp only[EV,all_true]
 have k2:bI (aj dY) (Cy "_law_found" 11 (.idx (.var 13) (.cst (.int 1))) (.idx (.var 1) (.cst (.int 1)))) (LE F [some (.sh,jY L R),some (.sh,.int x),some (.sh,jY L' R')])=.ok (true,.bl true):=by
  unfold Cy LE jY;simp only[EV,cY oH,cU,fS,length_map,hc2];rw[eO Val.int (λ_=>.bl true) R' (λy hy=>by
   have c:=i2 y hy;simp only[EV,aU,cY oH,pC,c,decide_true])]
  simp only[EV,all_true]
 have e2:aQ (aj dY) [] w2 (LE F [some (.sh,jY L R),some (.sh,.int x),some (.sh,jY L' R')])=.ok (.nx (LE F [some (.sh,jY L R),some (.sh,.int x),some (.sh,jY L' R')])):=by unfold w2;refine pK (f:=true) ?_;simp only[EV,k1,k2]
 refine⟨some (.sh,jY L' R'),?_⟩;unfold sL;rw[az e1,az e2,aV]
theorem JK:∃c12 l0,aQ (aj dY) [] (.for (.one 12) .seq (.cons yo .nil) sL) (LE F [some (.sh,jY L R),none,none])=.ok (.nx (LE F [some (.sh,jY L R),c12,l0])):=by
 generalize hLs:ck F.ns (some 18) (some 28)=Ls;have he:iz (aj dY) (.cons yo .nil) (LE F [some (.sh,jY L R),none,none])=.ok [.rl (Ls.map .int)]:=by unfold yo LE;simp only[EV,Ew,rJ,hLs]
 rw[aQ,show (xB (.one 12) (.cons yo .nil) sL&&(Hv.stored (.one 12)).all λi=>!([]:List Nat).contains i)=true from by decide,vC,he,bN,cU,jT,bN];have key:=bL (us:=Ls) (k:=λf=>Pr.ok f) (body:=λx env=>pb (pl (fD (.one 12) x env)) λenv'=>aV (aj dY) [] sL env') Val.int
  (λr:Pr zo=>∃c12 l0,r=.ok (.nx (LE F [some (.sh,jY L R),c12,l0])))
  (kB:=LE F [some (.sh,jY L R),none,none])
  (λdone env=>∃c12 l0,env=LE F [some (.sh,jY L R),c12,l0])
  ⟨none,none,rfl⟩ (by
   rintro pre x post env hx ⟨c12,l0,rfl⟩;obtain⟨RW,h⟩:=JJ T th (x:=x) (l0:=l0);exact⟨_,h,_,RW,rfl⟩) (by
   rintro env ⟨c12,l0,rfl⟩;exact⟨c12,l0,rfl⟩)
 cases e:oE (λx env=>pb (pl (fD (.one 12) x env)) λenv'=>aV (aj dY) [] sL env') (Ls.map Val.int) (LE F [some (.sh,jY L R),none,none]) with
 |ok f=>rw[e]at key;exact key
 |exc _ _=>rw[e]at key;exact key
 |no=>rw[e]at key;exact key
omit th in
theorem JL:aV (aj dY) [] Gd (LE F [none,none,none])=.ok (.rt (true,.bl true)):=by
 obtain⟨L,R,th,e14⟩:=N6 T (Td:=none) (c12:=none) (l0:=none);obtain⟨c12,l0,el⟩:=JK T th;unfold Gd;rw[az e14,az (show aQ _ _ _ _=_ from N7 T th),az (show aQ _ _ _ _=_ from N8 T th),az (show aQ _ _ _ _=_ from N9 T th),az (show aQ _ _ _ _=_ from Oa T th),az (show aQ _ _ _ _=_ from Oc T th),az el];rfl
end
noncomputable def cE(k:Int):IE:=.call 0 (.cons (.var 0) (.cons (.cst (.int k)) .nil))
noncomputable def SH:IE:=.call 2 (.cons (.var 0) (.cons (.slc (.var 0) (.cst (.int 3)) (.bin .add (.cst (.int 3)) (.bin .mod (.var 1) (.cst (.int 15))))) .nil))
noncomputable def sM:IE:=.cmp .eq (.bin .mod (.blt .len (.cons (.var 0) .nil)) (.cst (.int 2))) (.cst (.int 0))
noncomputable def Yl:IE:=.bin .pow (.cst (.int 10)) (.cst (.int 18))
noncomputable def zM:IE:=.cmp .ge (cE 3) Yl
noncomputable def Od:IE:=.call 26 (.cons (.var 0) (.cons (.cst (.int 14)) .nil))
noncomputable def Kv:IE:=.bin .add (.cst (.int 1)) (.bin .mod (.bin .fdiv (.var 1) (.cst (.int 15))) (.cst (.int 2)))
noncomputable def Kw:IE:=.bin .mod (cE 17) (.blt .len (.cons (.var 5) .nil))
noncomputable def SJ:IE:=.bin .add (.slc (.var 5) (.var 6) .no) (.slc (.var 5) .no (.var 6))
noncomputable def JM(k:Int):IE:=.call 27 (.cons (.var 5) (.cons (cE k) .nil))
noncomputable def Ky:IE:=.call 6 (.cons (.var 4) (.cons (.var 3) (.cons (.var 5) .nil)))
noncomputable def Kz:IE:=.call 6 (.cons (.var 4) (.cons (.var 3) (.cons (.comp ["_law_name","_law_ones"] [none,some 8] (.one 0) .seq (.cons (.var 7) .nil) (.cmp .nin (.var 0) (.var 1)) (.var 0)) .nil)))
noncomputable def KA:IE:=.call 18 (.cons (.var 4) (.cons (.var 2) .nil))
noncomputable def Oe:eE:=.cons (.asg (.one 8) Ky) (.cons (.asg (.one 9) Kz) (.cons (.asg (.one 10) KA) Gd))
noncomputable def Of:eE:=.cons (.asg (.one 7) (JM 6)) (.cons (.asg (.one 5) (JM 5)) .nil)
noncomputable def Og:eE:=.cons (.asg (.one 3) (.call 3 (.cons (.var 2) .nil))) (.cons (.asg (.one 4) Kv) (.cons (.asg (.one 5) (.skeys (.var 3))) (.cons (.asg (.one 6) Kw) (.cons (.asg (.one 5) SJ) (.cons (.asg (.one 7) (.var 5)) (.cons (.iff (.and sM zM) Of .nil) Oe))))))
theorem Oh:kX=.cons (.asg (.one 1) (.bin .fdiv (cE 2) (.cst (.int 56)))) (.cons (.asg (.one 2) SH) (.cons (.iff (.and sM zM) (.cons (.asg (.one 1) (cE 4)) (.cons (.asg (.one 2) Od) .nil)) .nil) Og)):=rfl
theorem Oi:bI Ψ Yl env=.ok (true,.int (10 ^ (18:Int).toNat)):=by
 unfold Yl;simp only[bI,bN,AG (show decide ((0:Int)<=18/\(18:Int)<=1000000/\(10:Int).natAbs<2 ^ 64)=true by decide)];rfl
theorem KC{n d k:Nat}(h:k<=n):HT.e9 n d (some (k:Int))=k:=by
 unfold HT.e9;dsimp only;rw[if_neg (by omega),toNat_natCast];omega
theorem Oj{N:List Int}(hN:N.Nodup){k:Nat}(h:k<=N.length):Rw N (ck N (some (k:Int)) none++ck N none (some (k:Int))):=by
 have e1:ck N (some (k:Int)) none=N.drop k:=by unfold ck;rw[KC h];show (N.drop k).take (N.length-k)=N.drop k;rw[List.take_of_length_le (by rw[length_drop];omega)]
 have e2:ck N none (some (k:Int))=N.take k:=by unfold ck;rw[KC h];show (N.drop 0).take (k-0)=N.take k;rw[List.drop_zero,Nat.sub_zero]
 rw[e1,e2];have p:(N.drop k++N.take k).Perm N:=(List.perm_append_comm).trans (by rw[List.take_append_drop]);exact⟨p.nodup_iff.mpr hN,λy hy=>p.mem_iff.mp hy⟩
section
variable {ns:List Int} {κ:Nat} {p q:Int} {ts:List T3}
theorem Ge(hk:κ < 3)(ok:aY p q ts){m2 m3 m5 m7:Mk}(h2:oA m2=true)(h3:oA m3=true)(h5:oA m5=true)(h7:oA m7=true){N1 N2:List Int}(r1:Rw (nms ts) N1)(r2:Rw (nms ts) N2){a1 a6:Sl}:aV (aj dY) [] Oe [some (.sh,.rl (ns.map .int)),a1,some (m2,cG p q ts),some (m3,gk p q ts),some (.sh,.int (κ:Int)),some (m5,.rl (N1.map .int)),a6,some (m7,.rl (N2.map .int)),none,none,none,none,none,none]=.ok (.rt (true,.bl true)):=by
 obtain⟨A,hA,_,fA,eA⟩:=pL hk ok r1;have hc:N2.length<=100000:=by have:=sub_len ok r2.1 r2.2;omega
 obtain⟨B,hB,_,fB,eB⟩:=pL hk ok (Ns:=N2.filter λx=>!decide (x∈A)) (r2.sub filter_sublist);have er:=Ga hk ok;unfold Oe;rw[az (dm (i:=8) (f:=true) (v:=.rl (A.map .int)) (by unfold Ky;simp only[EV,h3,h5,iU,eA]))];simp only[set_cons_succ,set_cons_zero,rH];rw[az (dm (i:=9) (f:=true) (v:=.rl (B.map .int)) (by
  unfold Kz;simp only[EV,h3,h7,cU,fS,length_map,hc];rw[eV Val.int Val.int (λy=>!decide (y∈A)) N2 (λy hy=>by
   simp only[EV,aU,Ey]
   by_cases c:y∈A<;>simp[c])]
  simp only[EV,iU,eB]))]
 simp only[set_cons_succ,set_cons_zero,rH];rw[az (dm (i:=10) (f:=true) (v:=iJ κ p q ts) (by unfold KA;simp only[EV,h2,tF,er]))];simp only[set_cons_succ,set_cons_zero];exact JL (F:=⟨ns,κ,p,q,ts,A,B,a1,some (m2,cG p q ts),some (m5,.rl (N1.map .int)),a6,some (m7,.rl (N2.map .int)),m3⟩) ⟨hk,ok,hA,hB,fA,fB,h3⟩
end
theorem Ol(ns:List Int)(hn:ns.length<=63):∃f,Kg [.rl (ns.map .int)]=.ok (f,.bl true):=by
 have cc:∀k:Nat,aX [.rl (ns.map .int),.int (k:Int)]=.ok (true,.int (cellAt ns k)):=λk=>iV ns k;have c2:aX [.rl (ns.map .int),.int 2]=.ok (true,.int (cellAt ns 2)):=cc 2;have c3:aX [.rl (ns.map .int),.int 3]=.ok (true,.int (cellAt ns 3)):=cc 3;have c4:aX [.rl (ns.map .int),.int 4]=.ok (true,.int (cellAt ns 4)):=cc 4;have c5:aX [.rl (ns.map .int),.int 5]=.ok (true,.int (cellAt ns 5)):=cc 5;have c6:aX [.rl (ns.map .int),.int 6]=.ok (true,.int (cellAt ns 6)):=cc 6;have Vg:aX [.rl (ns.map .int),.int 17]=.ok (true,.int (cellAt ns 17)):=cc 17;generalize hsz:cellAt ns 2/56=sz at *;generalize cellAt ns 3=k3 at *;generalize cellAt ns 4=k4 at *;generalize cellAt ns 5=k5 at *;generalize cellAt ns 6=k6 at *;generalize cellAt ns 17=k17 at *;have hcl:(ck ns (some 3) (some (3+sz%15))).length<=14:=by obtain⟨k,hk⟩:=eq_ofNat_of_zero_le (show 0<=sz%15 by omega);have h:=Cf ns 3 k (by omega);rw[<-hk]at h;omega
 obtain⟨p0,q0,Ym,en,ok0,_⟩:=NZ ns (ck ns (some 3) (some (3+sz%15))) hcl;obtain⟨p1,q1,ts1,ea,ok1⟩:=zK ns;have ev:∃b,∀r:List Sl,yu (aj dY) (.and sM zM) (some (.sh,.rl (ns.map .int))::r)=.ok (true,.bl b):=by
  by_cases h:(ns.length:Int)%2=0
  ·refine⟨decide ((10 ^ (18:Int).toNat:Int)<=k3),λr=>?_⟩;unfold sM zM cE;simp only[EV,length_map,fF (show decide ((0:Int)<2)=true by decide),h,decide_true,cQ,c3,Oi];exact if_neg (by decide)
  ·refine⟨false,λr=>?_⟩;unfold sM zM cE;simp only[EV,length_map,fF (show decide ((0:Int)<2)=true by decide),h,decide_false]
 obtain⟨b,ev⟩:=ev;have key:∀(s p q:Int) (ts:List T3) (m:Mk),aY p q ts->oA m=true->aV (aj dY) [] Og [some (.sh,.rl (ns.map .int)),some (.sh,.int s),some (m,cG p q ts),none,none,none,none,none,none,none,none,none,none,none]=.ok (.rt (true,.bl true)):=λs p q ts m ok hm=>by
  obtain⟨κ,hκ⟩:=eq_ofNat_of_zero_le (show 0<=1+s/15%2 by omega);have hk:κ < 3:=by omega
  have ee:=yh ok;have hN:(nms ts).length<64:=by have:=gY ok;omega
  have sk:kE [] (gk p q ts)=some (nms ts):=by unfold gk;rw[xT hN,yg ok]
  have hlt:0<((nms ts).length:Int):=by unfold nms;simp
  have j1:=emod_nonneg k17 (show ((nms ts).length:Int)≠0 by omega);have j2:=emod_lt_of_pos k17 hlt;obtain⟨k,hkk⟩:=eq_ofNat_of_zero_le j1;have hkl:k<=(nms ts).length:=by omega
  have rr:=Oj (jH ok) hkl;have z:((ck (nms ts) (some (k:Int)) none).map Val.int).length+((ck (nms ts) none (some (k:Int))).map Val.int).length<=sizeLine:=by have:=xH (nms ts) (some (k:Int)) none;have:=xH (nms ts) none (some (k:Int));rw[length_map,length_map];unfold sizeLine;omega
  have em:(ck (nms ts) (some (k:Int)) none).map Val.int++(ck (nms ts) none (some (k:Int))).map Val.int=(ck (nms ts) (some (k:Int)) none++ck (nms ts) none (some (k:Int))).map .int:=by rw[map_append]
  generalize ck (nms ts) (some (k:Int)) none++ck (nms ts) none (some (k:Int))=Nm at rr em;unfold Og;rw[az (dm (i:=3) (f:=true) (v:=gk p q ts) (by simp only[EV,hm,tE,ee]))];simp only[set_cons_succ,set_cons_zero];rw[az (dm (i:=4) (f:=true) (v:=.int (κ:Int)) (by unfold Kv;simp only[EV,fE (show gQ 15=true by decide),fF (show decide ((0:Int)<2)=true by decide),hκ]))];simp only[set_cons_succ,set_cons_zero,rG];rw[az (dm (i:=5) (f:=true) (v:=.rl ((nms ts).map .int)) (by simp only[EV,sk]))];simp only[set_cons_succ,set_cons_zero,rH];rw[az (dm (i:=6) (f:=true) (v:=.int (k:Int)) (by unfold Kw cE;simp only[EV,cQ,Vg,length_map,fF (show decide (0<((nms ts).length:Int))=true by rw[decide_eq_true_eq];exact hlt),hkk]))];simp only[set_cons_succ,set_cons_zero,rG];rw[az (dm (i:=5) (f:=true) (v:=.rl (Nm.map .int)) (by unfold SJ;simp only[EV,Ew,rJ,oW z,em,iI]))];simp only[set_cons_succ,set_cons_zero,rH];rw[az (dm (i:=7) (f:=false) (v:=.rl (Nm.map .int)) (by simp only[EV,bN]))];simp only[set_cons_succ,set_cons_zero,Nz];cases b with
  |false=>rw[az (pK (ev _))];exact Ge hk ok hm uy rfl rfl rr rr
  |true=>
   have hl:Nm.length<64:=by have:=sub_len ok rr.1 rr.2;omega
   have w1:=vQ Nm k6 hl;have w2:=vQ Nm k5 hl;have s1:=jI Nm k6;have s2:=jI Nm k5;generalize nI Nm k6=M1 at w1 s1;generalize nI Nm k5=M2 at w2 s2;have e7:aQ (aj dY) [] (.iff (.and sM zM) Of .nil) [some (.sh,.rl (ns.map .int)),some (.sh,.int s),some (m,cG p q ts),some (jO true (gk p q ts),gk p q ts),some (.sh,.int (κ:Int)),some (.nw,.rl (Nm.map .int)),some (.sh,.int (k:Int)),some (.sh,.rl (Nm.map .int)),none,none,none,none,none,none]=.ok (.nx [some (.sh,.rl (ns.map .int)),some (.sh,.int s),some (m,cG p q ts),some (jO true (gk p q ts),gk p q ts),some (.sh,.int (κ:Int)),some (.nw,.rl (M2.map .int)),some (.sh,.int (k:Int)),some (.nw,.rl (M1.map .int)),none,none,none,none,none,none]):=by rw[Kp (ev _)];unfold Of;rw[az (dm (i:=7) (f:=true) (v:=.rl (M1.map .int)) (by unfold JM cE;simp only[EV,cQ,c6,jW,w1]))];simp only[set_cons_succ,set_cons_zero,rH];rw[az (dm (i:=5) (f:=true) (v:=.rl (M2.map .int)) (by unfold JM cE;simp only[EV,cQ,c5,jW,w2]))];simp only[set_cons_succ,set_cons_zero,rH];rw[aV]
   rw[az e7];exact Ge hk ok hm uy rfl rfl (rr.sub s2) (rr.sub s1)
 have fin:aV (aj dY) [] kX [some (.sh,.rl (ns.map .int)),none,none,none,none,none,none,none,none,none,none,none,none,none]=.ok (.rt (true,.bl true)):=by
  rw[Oh];rw[az (dm (i:=1) (f:=true) (v:=.int sz) (by unfold cE;simp only[EV,cQ,c2,fE (show gQ 56=true by decide),hsz]))];simp only[set_cons_succ,set_cons_zero,rG];rw[az (dm (i:=2) (f:=true) (v:=cG p0 q0 Ym) (by unfold SH;simp only[EV,fF (show decide ((0:Int)<15)=true by decide),Ew,rJ,vM,en]))];simp only[set_cons_succ,set_cons_zero];cases b with
  |false=>rw[az (pK (ev _))];exact key _ _ _ _ _ ok0 uy
  |true=>
   have e7:aQ (aj dY) [] (.iff (.and sM zM) (.cons (.asg (.one 1) (cE 4)) (.cons (.asg (.one 2) Od) .nil)) .nil) [some (.sh,.rl (ns.map .int)),some (.sh,.int sz),some (jO true (cG p0 q0 Ym),cG p0 q0 Ym),none,none,none,none,none,none,none,none,none,none,none]=.ok (.nx [some (.sh,.rl (ns.map .int)),some (.sh,.int k4),some (.sh,cG p1 q1 ts1),none,none,none,none,none,none,none,none,none,none,none]):=by rw[Kp (ev _)];rw[az (dm (i:=1) (f:=true) (v:=.int k4) (by unfold cE;simp only[EV,cQ,c4]))];simp only[set_cons_succ,set_cons_zero,rG];rw[az (dm (i:=2) (f:=false) (v:=cG p1 q1 ts1) (by unfold Od;simp only[EV,oQ,ea]))];simp only[set_cons_succ,set_cons_zero,Nz];rw[aV]
   rw[az e7];exact key _ _ _ _ _ ok1 rfl
 refine⟨true,?_⟩;show pb (aV (aj dY) (gr kX) kX [some (.sh,.rl (ns.map .int)),none,none,none,none,none,none,none,none,none,none,none,none,none]) _=_;rw[show gr kX=[] from by decide,fin];rfl
theorem true(ns:List Int)(hn:ns.length<=63):∃h',Fc [.rl (ns.map .int)] []=.ok (.bl true) h':=by
 obtain⟨f,e⟩:=Ol ns hn;exact Ju e
end K36
end
end
section
namespace PySem.W.Fast
theorem tw16265198465576669288:True:=trivial
theorem tw17790694169429849176:True:=trivial
theorem tw1698378495117422501:True:=trivial
theorem tw4389471968546854757:True:=trivial
theorem tw10486775135020003825:True:=trivial
theorem tw12756177362921639558:True:=trivial
theorem tw7609416894803473673:True:=trivial
theorem tw9333908526673653414:True:=trivial
theorem tw16235194022719249638:True:=trivial
theorem tw6609889000635326686:True:=trivial
theorem tw17751723346218852136:True:=trivial
theorem tw17989013610844364743:True:=trivial
theorem tw16368183413267552211:True:=trivial
theorem tw2751457732153748023:True:=trivial
theorem tw5406944470756126552:True:=trivial
theorem tw4446781825435746637:True:=trivial
theorem tw14162808061347522080:True:=trivial
theorem tw6912081816236083216:True:=trivial
theorem tw16559140496870788284:True:=trivial
theorem tw18385105356480150890:True:=trivial
theorem tw875997612546319433:True:=trivial
theorem tw12920734032566678802:True:=trivial
theorem tw8087794666523853380:True:=trivial
theorem tw535552253108098731:True:=trivial
theorem tw12002407437683827004:True:=trivial
theorem tw13041355141616818728:True:=trivial
theorem tw2693069445431151368:True:=trivial
theorem tw18029567259129240175:True:=trivial
theorem tw13237863961725382106:True:=trivial
theorem tw6856855159709506483:True:=trivial
theorem tw10826925285947829232:True:=trivial
theorem tw17229240067842735970:True:=trivial
theorem tw11971201660798954761:True:=trivial
theorem tw15072230647017918364:True:=trivial
theorem tw9477846906318608885:True:=trivial
theorem tw1726847247745584931:True:=trivial
theorem tw11126323325248775440:True:=trivial
theorem tw6751519474443691142:True:=trivial
theorem tw16046275510589360237:True:=trivial
theorem tw4150226975068956341:True:=trivial
theorem tw17092354699344350590:True:=trivial
theorem tw738758442266310802:True:=trivial
theorem tw10741994000615031791:True:=trivial
theorem tw538846173056914603:True:=trivial
theorem tw16878815453508015738:True:=trivial
theorem tw9609765387581906072:True:=trivial
theorem tw2624335481033150370:True:=trivial
theorem tw13547399958102783820:True:=trivial
theorem tw18366309252679758982:True:=trivial
theorem tw8630933561780852372:True:=trivial
theorem tw15779794771826854110:True:=trivial
theorem tw13809278451806410305:True:=trivial
theorem tw11079071525495776428:True:=trivial
theorem tw17215729451111180248:True:=trivial
theorem tw13105399091294500077:True:=trivial
theorem tw3457502329320725879:True:=trivial
theorem tw16005726099661354024:True:=trivial
theorem tw16567126731250319496:True:=trivial
theorem tw4076669319758946199:True:=trivial
theorem tw6588043569955693350:True:=trivial
theorem tw6093104204705203726:True:=trivial
theorem tw10648813312344020292:True:=trivial
theorem tw138206052105075042:True:=trivial
theorem tw12614399790143648214:True:=trivial
theorem tw9941763054922772888:True:=trivial
theorem tw14929437381448910030:True:=trivial
theorem tw11743945405484391061:True:=trivial
theorem tw4355873630724960932:True:=trivial
theorem tw9190901767516276680:True:=trivial
end PySem.W.Fast
open PySem PySem.W PyProof.Rows
set_option maxRecDepth 100000 in
set_option maxHeartbeats 0 in
theorem PySem.Challenge.cw_linkorcut_k36_whole_reaching_alike_holds : PySem.Challenge.rw_linkorcut_k36_whole_reaching_alike.Holds := by
 w_on;o_law;k_head;(case hw=>w_witness2)
 k_fill
 refine Hv.walk (l:=PySem.Challenge.rw_linkorcut_k36_whole_reaching_alike) (k:=60) (x:="_law_script") rfl rfl ⟨rfl,by decide,by decide⟩ (λw h Y=>PySem.W.kIn_of Y) ?F
 case F=>
  intro w mg fa h KX G hmg;refine' K36.all_mk KX G hmg K36.true ?_ ?_ ?_ ?_ ?_ ?_ ?_ ?_ ?_ ?_ ?_ ?_ ?_ ?_ ?_ ?_ ?_ ?_ ?_ ?_ ?_ ?_ ?_ ?_ ?_ ?_ ?_ ?_ ?_ ?_ ?_ ?_ ?_ ?_ ?_ ?_ ?_ ?_ ?_ ?_ ?_ ?_ ?_ ?_ ?_ ?_ ?_ ?_ ?_ ?_ ?_ ?_ ?_ ?_ ?_ ?_ ?_ ?_ ?_ ?_ ?_ ?_ ?_ ?_ ?_ ?_ ?_ ?_ ?_ ?_ ?_ ?_ ?_ ?_ ?_ ?_ ?_ ?_ ?_ ?_ ?_ ?_ ?_ ?_ ?_ ?_ ?_ ?_ ?_ ?_ ?_ ?_ ?_ ?_ ?_ ?_ ?_ ?_ ?_ ?_ ?_ ?_ ?_ ?_ ?_ ?_ ?_ ?_ ?_ ?_ ?_ ?_ ?_ ?_ ?_ ?_ ?_ ?_ ?_ ?_ ?_ ?_ ?_ ?_ ?_ ?_ ?_ ?_ ?_ ?_ ?_ ?_ ?_ ?_ ?_ ?_ ?_ ?_ ?_ ?_ ?_ ?_ ?_ ?_ ?_ ?_ ?_ ?_ ?_ ?_ ?_ ?_ ?_ ?_ ?_ ?_ ?_ ?_ ?_ ?_ ?_ ?_ ?_ ?_ ?_ ?_ ?_ ?_ ?_ ?_ ?_ ?_ ?_ ?_ ?_ ?_ ?_ ?_ ?_ ?_ ?_ ?_ ?_ ?_ ?_ ?_ ?_ ?_ ?_ ?_
  all_goals try k_is
#print axioms PySem.Challenge.cw_linkorcut_k36_whole_reaching_alike_holds
end
