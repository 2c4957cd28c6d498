import PyProof.Rows.All
import Wide.All
import OpenK.AllK
import Wide.FinOn
import Lean
import PyProof.EqAt
import PyProof.EqKinds
import PyProof.TupleCall
import KE.KDictList
import KE.KDictLaws
import KE.KDictSum
import KE.KRevSl
import PyProof.DictWalks
import PySem.Challenge.RW_linkorcut_k27_behind_a_deed
set_option Elab.async false
set_option linter.all false
set_option maxRecDepth 100000
set_option maxHeartbeats 4000000
set_option genSizeOf false
set_option backward.eqns.nonrecursive false
set_option backward.eqns.deepRecursiveSplit false
set_option bootstrap.genMatcherCode false
open Array(getElem?_toList length_toList toList)
open Bool(and_eq_true false_eq_true not_eq_true' or_eq_true)
open Classical(byContradiction choose_spec)
open PySem.Heap(get?_push_of_some get?_push_size get?_update_other get?_update_self lt_size size_push)
open Int(not_lt)
open List(all_cons all_eq_true any_cons any_map append_nil cons_append contains_iff_mem elem_nil ext_getElem filter_congr filter_cons_of_pos find?_cons getElem?_append_left getElem?_append_right getElem?_map getElem?_set_ne getElem?_set_self getElem_map getElem_of_mem length length_append length_cons length_drop length_map length_nil length_range length_set length_take lookup_cons map_append map_congr_left map_cons map_id map_map map_nil mem_append mem_append_left mem_append_right mem_cons mem_cons_of_mem mem_cons_self mem_filter mem_map mem_map_of_mem mem_of_getElem? mem_singleton nil_append nodup_append nodup_cons nodup_nil not_mem_nil of_mem_zip pairwise_cons pairwise_map prefix_append prefix_refl range' replicate reverse_cons set_cons_succ set_cons_zero size_toArray toArray zip_cons_cons)
open Nat(le_of_lt le_refl le_succ le_trans lt_irrefl lt_of_lt_of_le lt_succ_of_lt lt_succ_self lt_trans mod_lt ne_of_gt ne_of_lt zero_add zero_le)
open Option(bind_eq_some_iff bind_some getD_none isSome_map map_eq_some_iff map_some)
open PySem.W(callWith_K callWith_K0 cellsFrom_some codeIn emptyDict eq_sortI findCls findIn handedIn hasDictIn instObj kat_lt keepIn kia_one kitOne kitx_bool kitx_dict kitx_int kitx_list kitx_none kitx_str kitx_tuple lookIn makesIn methodObj mg_none_of mg_of plainGet plainGet_of plainOver readsIn sortI_perm specialIn takerIn takesIn typeIn)
section
namespace L2
open PySem PySem.Spec PyProof.Rows
noncomputable abbrev Key:=Sum Int Str
noncomputable def oh:Key->Value->Bool
 | .inl k,v=>Value.isInt k v
 | .inr x,v=>Value.isStrOf x v
noncomputable def PK(w:World):Key->Int
 | .inl k=>hashInt k
 | .inr x=>hashStr w x
theorem bD:∀{k:Key} {v:Value},oh k v=true->(∃i t,k=Sum.inl i/\v=Value.int i t)\/(∃x t,k=Sum.inr x/\v=Value.str x t)
 | .inl i,v,h=>by
  obtain⟨t,e⟩:=Value.isInt_shape (k:=i) (v:=v) h;exact .inl ⟨i,t,rfl,e⟩
 | .inr x,v,h=>by
  obtain⟨t,e⟩:=Value.isStrOf_shape (x:=x) (v:=v) h;exact .inr ⟨x,t,rfl,e⟩
theorem za(i:Int)(t:Tok):oh (.inl i) (.int i t)=true:=by simp[oh,Value.isInt]
theorem zb(x:Str)(t:Tok):oh (.inr x) (.str x t)=true:=by simp[oh,Value.isStrOf]
theorem HV(a b:Int):decide ((Sum.inl a:Key)=Sum.inl b)=(a==b):=by
 by_cases e:a=b
 ·subst e;simp
 ·have h:¬ (Sum.inl a:Key)=Sum.inl b:=λq=>e (Sum.inl.inj q);rw[decide_eq_false h];exact(beq_eq_false_iff_ne.mpr e).symm
theorem HW(a b:Str):decide ((Sum.inr a:Key)=Sum.inr b)=decide (a=b):=by
 by_cases e:a=b
 ·subst e;simp
 ·have h:¬ (Sum.inr a:Key)=Sum.inr b:=λq=>e (Sum.inr.inj q);rw[decide_eq_false h,decide_eq_false e]
theorem HX(a:Int)(b:Str):decide ((Sum.inl a:Key)=Sum.inr b)=false:=decide_eq_false (λq=>nomatch q)
theorem HY(a:Str)(b:Int):decide ((Sum.inr a:Key)=Sum.inl b)=false:=decide_eq_false (λq=>nomatch q)
noncomputable def aU(prog:Program)(w:World):PySem.KeyKind prog w Key where
 is:=oh
 hash:=PK w
 inj:=λv a b ha hb=>by
  rcases bD ha with ⟨i,t,rfl,rfl⟩|⟨x,t,rfl,rfl⟩
  ·rcases bD hb with ⟨j,u,rfl,e⟩|⟨y,u,rfl,e⟩
   ·injection e with e1 _;rw[e1]
   ·exact nomatch e
  ·rcases bD hb with ⟨j,u,rfl,e⟩|⟨y,u,rfl,e⟩
   ·exact nomatch e
   ·injection e with e1 _;rw[e1]
 byValue:=λk v h=>by
  rcases bD h with ⟨i,t,rfl,rfl⟩|⟨x,t,rfl,rfl⟩<;>rfl
 pyHash:=λhv h=>by
  rcases bD hv with ⟨i,t,rfl,rfl⟩|⟨x,t,rfl,rfl⟩
  ·exact wpAny_pyHash_int h
  ·exact wpAny_pyHash_str h
 eqBool:=λhu hv h=>by
  rcases bD hu with ⟨i,t,rfl,rfl⟩|⟨x,t,rfl,rfl⟩
  ·rcases bD hv with ⟨j,u,rfl,rfl⟩|⟨y,u,rfl,rfl⟩
   ·rw[HV] at h;exact wpAny_eqBool_int h
   ·rw[HX] at h;exact SeqAt.EqAt.int_str i t y u _ _ _ _ h
  ·rcases bD hv with ⟨j,u,rfl,rfl⟩|⟨y,u,rfl,rfl⟩
   ·rw[HY] at h;exact SeqAt.EqAt.str_int x t j u _ _ _ _ h
   ·rw[HW] at h;exact wpAny_eqBool_str h
 «strs»:=λk x t v h=>by
  rcases bD h with ⟨i,u,rfl,e⟩|⟨y,u,rfl,e⟩
  ·exact nomatch e
  ·injection e with e1 _
   subst e1;cases v<;>rfl
theorem vP(prog:Program)(w:World)(k:Key)(v:Value):(aU prog w).is k v=oh k v:=rfl
theorem tO(prog:Program)(w:World)(i:Int)(t:Tok):(aU prog w).is (.inl i) (.int i t)=true:=za i t
theorem tQ(prog:Program)(w:World)(x:Str)(t:Tok):(aU prog w).is (.inr x) (.str x t)=true:=zb x t
end L2
namespace L2
open PySem PySem.Spec PyProof.Rows
inductive V where
 | non|bl (b:Bool)|int (i:Int)|str (x:Str)|byt (b:Array UInt8)|flt (b:UInt64)|ref (a:Addr)|ty (n:String)
 deriving DecidableEq
noncomputable def RelV:V->Value->Prop
 | .non,u=>u=Value.none
 | .bl b,u=>u=Value.bool b
 | .int i,u=>∃t,u=Value.int i t
 | .str x,u=>∃t,u=Value.str x t
 | .byt b,u=>∃t,u=Value.bytes b t
 | .flt b,u=>∃t,u=Value.float b t
 | .ref a,u=>u=Value.ref a
 | .ty n,u=>u=Value.type n
noncomputable abbrev Vals:List V->List Value->Prop:=Paired RelV
theorem Vals.length(r:Vals xs us):xs.length=us.length:=Paired.length r
theorem Vals.get:∀{xs:List V} {us:List Value} {i:Nat} {x:V},Vals xs us->xs[i]?=some x->∃u,us[i]?=some u/\RelV x u
 | _,_,_,_,.nil,e=>by simp at e
 | _,_,0,_,.cons r _,e=>by simp at e;subst e;exact⟨_,rfl,r⟩
 | _,_,i+1,x,.cons _ t,e=>by
  obtain⟨u,h1,h2⟩:=Vals.get (i:=i) (x:=x) t (by simpa using e);exact⟨u,by simpa using h1,h2⟩
theorem Vals.set(r:RelV x u):∀{xs:List V} {us:List Value} (i:Nat),Vals xs us->Vals (xs.set i x) (us.set i u)
 | _,_,_,.nil=>.nil
 | _,_,0,.cons _ t=>.cons r t
 | _,_,i+1,.cons q t=>.cons q (Vals.set r i t)
theorem Vals.append:∀{xs ys:List V} {us ws:List Value},Vals xs us->Vals ys ws->Vals (xs++ys) (us++ws)
 | _,_,_,_,.nil,s=>s
 | _,_,_,_,.cons r t,s=>.cons r (Vals.append t s)
theorem Vals.take:∀{xs:List V} {us:List Value} (n:Nat),Vals xs us->Vals (xs.take n) (us.take n)
 | _,_,0,_=>.nil
 | _,_,_+1,.nil=>.nil
 | _,_,n+1,.cons r t=>.cons r (Vals.take n t)
theorem Vals.drop:∀{xs:List V} {us:List Value} (n:Nat),Vals xs us->Vals (xs.drop n) (us.drop n)
 | _,_,0,r=>r
 | _,_,_+1,.nil=>.nil
 | _,_,n+1,.cons _ t=>Vals.drop n t
noncomputable def iZ:Option V->Option Value->Prop
 | some v,some u=>RelV v u
 | none,none=>True
 | _,_=>False
noncomputable def KV{κ:Type}:List (κ × V)->List (κ × Value)->Prop:=Paired λ(p:κ × V) (q:κ × Value)=>p.1=q.1/\RelV p.2 q.2
noncomputable def kV:Key->V
 | .inl i=>.int i
 | .inr x=>.str x
inductive HO where
  | lst (xs:List V)
  | tup (xs:List V)
  | dK (kvs:List (Key×V))|dT (kvs:List (List Key×V))
  | set (S:Int->Bool) (n:Nat)
  | ins (C dx:Addr) (fs:List (Str×V))
  | own (x:Addr)
  | xd (fs:List (Str×V))
  | met (f x:Addr)
  | rng (lo hi:Int)
  | nL (o:Obj) (u:HO)
  | tbl (ps:Array Value)
  | ext (φ:Heap->Prop)
noncomputable abbrev Hp:=Addr->Option HO
noncomputable def upd(H:Hp)(a:Addr)(o:HO):Hp:=λb=>if b=a then some o else H b
theorem aR:upd H a o a=some o:=by unfold upd;rw[if_pos rfl]
theorem az(h:b≠a):upd H a o b=H b:=by unfold upd;rw[if_neg h]
theorem LS{H:Hp}{a b:Addr}{o u:HO}(h:H a=some o)(h':H b=some u)(d:o≠u):a≠b:=by
 intro e;subst e;rw[h] at h';exact d (Option.some.inj h')
theorem aE{H:Hp}{a b:Addr}{o:HO}(h:H a=some o)(h':H b=none):a≠b:=by
 intro e;subst e;rw[h] at h';cases h'
section
variable (P:Program) (w:World)
noncomputable def bx(H:Hp)(h:Heap)(a:Addr):HO->Prop
 | .lst xs=>xs.length<=sizeLine/\∃(its:List Value) (n:Nat),Vals xs its/\h.get? a=some { cls:=.type "list",data:=.seq its.toArray n }
 | .tup xs=>xs.length<=sizeLine/\∃its:List Value,Vals xs its/\IsTup h a its.toArray
 | .dK kvs=>kvs.length<=sizeLine/\(a==sysModules)=false/\∃vs,KV kvs vs/\h.DictOf (aU P w) a vs
 | .dT kvs=>kvs.length<=sizeLine/\(a==sysModules)=false/\∃xs:List (List Key×Addr×Value),
   Paired (λ(p:List Key×V) (q:List Key×Addr×Value)=>p.1=q.1/\H q.2.1=some (.tup (p.1.map kV))/\RelV p.2 q.2.2) kvs xs /\
   ∃o es ep,h.get? a=some o/\o.ExactDict/\o.data=.dict es ep/\es.toList=xs.map (entryOfKey (tupleKind (aU P w)))/\(xs.map (·.1)).Nodup
 | .set S n=>h.SetOf (intKind P w) a S n
 | .ins C dx fs=>H dx=some (.own a)/\fs.length<=1000/\dx≠a/\h.get? a=some (instObj C dx) /\
   ∃mA,h.Ns1 dx mA/\(∀f,iZ (fs.lookup f) (mA f))/\PySem.Within mA (fs.map (·.1))
 | .own _=>∃o,h.get? a=some o
 | .xd fs=>∃mA,h.Ns1 a mA/\∀f,iZ (fs.lookup f) (mA f)
 | .rng lo hi=>∃t u v,h.get? a=some { cls:=.type "range",data:=.fields #[.int lo t,.int hi u,.int 1 v] }
 | .nL o u=>h.get? a=some o/\bx H h a u
 | .tbl ps=>h.get? a=some { cls:=.none,data:=.fields ps }
 | .met f x=>h.get? a=some (methodObj (.ref f) (.ref x))
 | .ext φ=>φ h/\(∃o,h.get? a=some o)/\∀h1 h2:Heap,φ h1->(∀o,h1.get? a=some o->h2.get? a=some o) -> φ h2
noncomputable def kr(H:Hp)(h:Heap):Prop:=∀a o,H a=some o->bx P w H h a o
end
section
variable {P:Program} {w:World} {H H':Hp} {h h':Heap} {a:Addr} {o:HO}
theorem bx.lt(x:bx P w H h a o):a<h.objs.size:=by
 cases o with
 | lst xs=>obtain⟨_,_,_,_,e⟩:=x;exact lt_size e
 | tup xs=>obtain⟨_,_,_,p⟩:=x;exact p.lt
 | dK kvs=>obtain⟨_,_,_,_,o,_,_,e,_⟩:=x;exact lt_size e
 | dT kvs=>obtain⟨_,_,_,_,o,_,_,e,_⟩:=x;exact lt_size e
 | set S n=>obtain⟨o,_,_,_,e,_⟩:=x;exact lt_size e
 | ins C dx fs=>obtain⟨_,_,_,e,_⟩:=x;exact lt_size e
 | own y=>obtain⟨_,e⟩:=x;exact lt_size e
 | xd fs=>obtain⟨_,⟨_,_,_,e,_⟩,_⟩:=x;exact lt_size e
 | rng lo hi=>obtain⟨_,_,_,e⟩:=x;exact lt_size e
 | nL ob u=>obtain⟨e,_⟩:=x;exact lt_size e
 | tbl ps=>exact lt_size (show h.get? a=some _ from x)
 | met f y=>exact lt_size (show h.get? a=some _ from x)
 | ext φ=>obtain⟨_,⟨_,e⟩,_⟩:=x;exact lt_size e
theorem Paired.HZ{α β:Type}{F G:α -> β -> Prop}:∀{l₁:List α} {l₂:List β},Paired F l₁ l₂->(∀a b,F a b->G a b)->Paired G l₁ l₂
 | _,_,.nil,_=>.nil
 | _,_,.cons r t,f=>.cons (f _ _ r) (Paired.HZ t f)
theorem bx.stay(x:bx P w H h a o)(k:∀b u,(b=a\/H b=some (.own a))->h.get? b=some u->h'.get? b=some u)
  (ho:∀b,H b=some (.own a)->H' b=some (.own a)) (ht:∀b xs,H b=some (.tup xs)->H' b=some (.tup xs)):bx P w H' h' a o:=by
 induction o with
 | lst xs=>obtain⟨z,its,n,r,e⟩:=x;exact⟨z,its,n,r,k _ _ (.inl rfl) e⟩
 | tup xs=>obtain⟨z,its,r,ob,e,c⟩:=x;exact⟨z,its,r,ob,k _ _ (.inl rfl) e,c⟩
 | dK kvs=>obtain⟨z,y,vs,r,ob,es,ep,e,c⟩:=x;exact⟨z,y,vs,r,ob,es,ep,k _ _ (.inl rfl) e,c⟩
 | dT kvs =>obtain⟨z,y,xs,r,ob,es,ep,e,c⟩:=x;exact⟨z,y,xs,Paired.HZ r λp q z=>⟨z.1,ht _ _ z.2.1,z.2.2⟩,ob,es,ep,k _ _ (.inl rfl) e,c⟩
 | set S n=>obtain⟨ob,es,ep,t,e,c⟩:=x;exact⟨ob,es,ep,t,k _ _ (.inl rfl) e,c⟩
 | ins C dx fs =>obtain⟨d,z,ne,e,mA,⟨od,es,ep,e2,c⟩,r⟩:=x;exact⟨ho _ d,z,ne,k _ _ (.inl rfl) e,mA,⟨od,es,ep,k _ _ (.inr d) e2,c⟩,r⟩
 | own y=>obtain⟨ob,e⟩:=x;exact⟨ob,k _ _ (.inl rfl) e⟩
 | xd fs=>obtain⟨mA,⟨od,es,ep,e,c⟩,r⟩:=x;exact⟨mA,⟨od,es,ep,k _ _ (.inl rfl) e,c⟩,r⟩
 | rng lo hi=>obtain⟨t,u,v,e⟩:=x;exact⟨t,u,v,k _ _ (.inl rfl) e⟩
 | nL ob u ih=>obtain⟨e,q⟩:=x;exact⟨k _ _ (.inl rfl) e,ih q⟩
 | tbl ps =>have e:h.get? a=some { cls:=.none,data:=.fields ps }:=x;show h'.get? a=some { cls:=.none,data:=.fields ps };exact k a _ (.inl rfl) e
 | met f y =>have e:h.get? a=some (methodObj (.ref f) (.ref y)):=x;show h'.get? a=some (methodObj (.ref f) (.ref y));exact k a _ (.inl rfl) e
 | ext φ=>obtain⟨p,⟨o,e⟩,st⟩:=x;exact⟨st _ _ p λo q=>k _ _ (.inl rfl) q,⟨o,k _ _ (.inl rfl) e⟩,st⟩
theorem kr.lt(x:kr P w H h)(e:H a=some o):a<h.objs.size:=(x a o e).lt
theorem kr.fresh(x:kr P w H h)(e:h.objs.size<=a):H a=none:=by
 cases q:H a with
 | none=>rfl
 | some u=>exact absurd (lt_of_lt_of_le (x.lt q) e) (lt_irrefl _)
theorem kr.kept(x:kr P w H h)(k:∀b u,h.get? b=some u->h'.get? b=some u):kr P w H h':=λa o e =>
 (x a o e).stay (λb u _ q=>k b u q) (λ_ q=>q) λ_ _ q=>q
theorem kr.laid(x:kr P w H h)(k:∀b u,h.get? b=some u->h'.get? b=some u)(hp:h.objs.size<=a)(new:bx P w (upd H a o) h' a o):kr P w (upd H a o) h':=λb u e=>by
 have hn:=x.fresh hp
 by_cases hb:b=a
 ·subst hb;rw[aR] at e;cases e;exact new
 ·rw[az hb] at e;exact(x b u e).stay (λc v _ q=>k c v q) (λc q=>by rw[az (aE q hn)];exact q) λc xs q=>by rw[az (aE q hn)];exact q
end
noncomputable def Rd(H:Hp)(a:Addr)(u:HO):Prop:=H a=some u\/∃o,H a=some (.nL o u)
theorem Rd.ok(r:Rd H a u)(x:kr P w H h):bx P w H h a u:=by
 rcases r with r|⟨o,r⟩
 ·exact x a u r
 ·obtain⟨_,q⟩:=x a _ r;exact q
noncomputable def LU:Option HO->Prop
 | some (.lst _)=>True
 | some (.dK _)=>True
 | some (.dT _)=>True
 | some (.set _ _)=>True
 | some (.ins _ _ _)=>True
 | some (.ext _)=>True
 | _=>False
section
variable {P:Program} {w:World} {H:Hp} {h h':Heap} {x e:Addr} {o':HO}
theorem kr.write(ok:kr P w H h)(mu:LU (H x))(he:e=x\/H e=some (.own x))(k:∀b u,b≠e->h.get? b=some u->h'.get? b=some u)(LA:∃u,h'.get? e=some u)
  (new:bx P w (upd H x o') h' x o'):kr P w (upd H x o') h':=λb u q=>by
 have nown:∀c y,H c=some (.own y)->c≠x:=λc y r z=>by subst z;rw[r] at mu;exact mu
 have ntup:∀c xs,H c=some (.tup xs)->c≠x:=λc xs r z=>by subst z;rw[r] at mu;exact mu
 by_cases hb:b=x
 ·subst hb;rw[aR] at q;cases q;exact new
 ·rw[az hb] at q
  by_cases Ia:b=e
  ·have q':H b=some (.own x):=by
    rcases he with z|z
    ·exact absurd (Ia.trans z) hb
    ·rw[Ia];exact z
   rw[q] at q';cases q';obtain⟨v,hv⟩:=LA;exact⟨v,by rw[Ia];exact hv⟩
  ·refine(ok b u q).stay (λc v hc r=>k c v ?_ r) (λc r=>by rw[az (nown c b r)];exact r) λc xs r=>by rw[az (ntup c xs r)];exact r
   rcases hc with rfl|hc
   ·exact Ia
   ·rintro rfl
    rcases he with z|z
    ·exact nown c b hc z
    ·rw[hc] at z;cases z;exact hb rfl
end
structure Un (fs ex:List Addr) (H H':Hp) (h h':Heap):Prop where
 keep:∀b o,h.get? b=some o->H b=none->b∉fs->b∉ex->h'.get? b=some o
 slot:∀b o,h.get? b=some o->H b=none->b∈fs->b∉ex->∃sl,h'.get? b=some { o with slots:=sl }
 free:∀b o,h.get? b=some o->H b=none->b∉ex->H' b=none
 there:∀b o,h.get? b=some o->b∉ex->∃o',h'.get? b=some o'
 tups:∀b xs,H b=some (.tup xs)->H' b=some (.tup xs)
 frzs:∀b o u,H b=some (.nL o u)->H' b=some (.nL o u)
 rZ:∀b ps,H b=some (.tbl ps)->∃more,H' b=some (.tbl (ps++more))
section
variable {fs fs' ex ex':List Addr} {H H1 H2:Hp} {h h1 h2 h':Heap} {a x e:Addr} {o:HO}
theorem Un.any(u:Un fs ex H H1 h h1)(q:h.get? b=some ob)(n:H b=none)(hx:b∉ex):∃sl,h1.get? b=some { ob with slots:=sl }:=by
 by_cases hb:b∈fs
 ·exact u.slot b ob q n hb hx
 ·exact⟨ob.slots,u.keep b ob q n hb hx⟩
theorem Un.kept(k:∀b u,h.get? b=some u->h'.get? b=some u):Un fs ex H H h h' :=
 ⟨λb ob q _ _ _=>k b ob q,λb ob q _ _ _=>⟨ob.slots,k b ob q⟩,λ_ _ _ n _=>n,λb ob q _=>⟨ob,k b ob q⟩,λ_ _ q=>q,λ_ _ _ q=>q,λ_ ps q=>⟨#[],by rw[q];simp⟩⟩
theorem Un.refl:Un fs ex H H h h:=Un.kept λ_ _ q=>q
theorem Un.laid(k:∀b u,h.get? b=some u->h'.get? b=some u)(hp:h.objs.size<=a)(hn:H a=none):Un fs ex H (upd H a o) h h' where
 keep:=λb u q _ _ _=>k b u q
 slot:=λb u q _ _ _=>⟨u.slots,k b u q⟩
 free:=λb u q n _=>by rw[az (ne_of_lt (lt_of_lt_of_le (lt_size q) hp))];exact n
 there:=λb u q _=>⟨u,k b u q⟩
 tups:=λb xs q=>by rw[az (aE q hn)];exact q
 frzs:=λb u xs q=>by rw[az (aE q hn)];exact q
 rZ:=λb ps q=>⟨#[],by rw[az (aE q hn),q];simp⟩
theorem Un.write(mu:LU (H x))(he:e=x\/H e=some (.own x))(k:∀b u,b≠e->h.get? b=some u->h'.get? b=some u)(LA:∃u,h'.get? e=some u):Un fs ex H (upd H x o) h h':=by
 have hx:∀b,H b=none->b≠x:=λb n z=>by subst z;rw[n] at mu;exact mu
 have hb:∀b,H b=none->b≠e:=λb n z=>by
  subst z
  rcases he with r|r
  ·exact hx b n r
  ·rw[n] at r;cases r
 have hm:∀b u,H b=some u->¬ LU (some u)->b≠x:=λb u q nm z=>by subst z;rw[q] at mu;exact nm mu
 refine⟨λb u q n _ _=>k b u (hb b n) q,λb u q n _ _=>⟨u.slots,k b u (hb b n) q⟩,λb u q n _=>by rw[az (hx b n)];exact n,λb u q _=>?_,
  λb xs q=>by rw[az (hm b _ q λz=>z)];exact q,λb u xs q=>by rw[az (hm b _ q λz=>z)];exact q,λb ps q=>⟨#[],by rw[az (hm b _ q λz=>z),q];simp⟩⟩
 by_cases Ia:b=e
 ·subst Ia;exact LA
 ·exact⟨u,k b u Ia q⟩
end
noncomputable def cQ(h:Heap)(H:Hp):List Addr:=(List.range h.objs.size).filter λa=>(H a).isSome
noncomputable def r6(h:Heap)(H:Hp):Heap:=PySem.W.hideAll h (cQ h H)
theorem zc(h:Heap)(H:Hp):(r6 h H).objs.size=h.objs.size:=PySem.W.hideAll_size _ _
theorem AB(e:h.get? b=some o)(n:H b=none):(r6 h H).get? b=some o :=
 PySem.W.hideAll_get _ e λhm=>by
  have q:(H b).isSome=true:=(mem_filter.mp hm).2;rw[n] at q;simp at q
theorem DN(e:(r6 h H).get? b=some o):h.get? b=some o/\H b=none:=by
 have e':h.get? b=some o:=PySem.W.of_hideAll (cQ h H) e;refine⟨e',?_⟩;cases q:H b with
 | none=>rfl
 | some x =>have hm:b∈cQ h H:=mem_filter.mpr ⟨List.mem_range.mpr (lt_size e'),by simp[q]⟩;have z:(r6 h H).get? b=none:=PySem.W.hideAll_none (cQ h H) hm;rw[z] at e;cases e
noncomputable def DO(g h:Heap)(L:Addr):List (Addr×Obj):=(List.range h.objs.size).filterMap λa=>if a=L\/(g.get? a).isSome=true then none else (h.get? a).map λo=>(a,o)
noncomputable def rest(g h:Heap)(L d:Addr):List (Addr×Obj):=(DO g h L).filter λp=>decide (p.1≠d)
end L2
namespace L2
open PySem PySem.Spec PyProof.Rows
structure Mod (K:PySem.W.Frag) (mg:Str->Option Value) (base:Heap):Prop where
 LB:K.In base
 glob:base.Ns mainGlobals mg
 blt:∃mb,base.Ns builtinsNs mb/\∀x:Str,x ≠ "__name__" -> mb x=bootBuiltins x
 nolimit:base.NoLimit
structure Cx where
 prog:Program
 w:World
 K:PySem.W.Frag
 mg:Str->Option Value
 base:Heap
 A:Around
 N:List Str
 s₀:Shared
 H₀:Hp
 env:Env
 outer:List Env
 stack:List Env
 ex:List Addr
 fn:Str->Bool
 calm:Bool
 pn:List (Addr×Obj)
 xe:Value->Shared->Prop
noncomputable def frs(l:List Env):List Addr:=l.filterMap (·.frame)
noncomputable abbrev Cx.fs(X:Cx):List Addr:=frs X.outer
noncomputable def O6(sc:Scope)(x:Str):Prop:=sc.names.lookup x=some .local\/sc.names.lookup x=some .cell\/sc.names.lookup x=some .free
noncomputable def Loc(sc:Scope)(x:Str):Prop:=sc.names.lookup x=some .local\/sc.names.lookup x=some .cell
noncomputable def Look(env:Env)(h:Heap)(m:Str->Option Value)(x:Str)(u:Value):Prop :=
 (env.kindOf x=some .local/\m x=some u)\/((env.kindOf x=some .cell\/env.kindOf x=some .free)/\∃c,env.cells.lookup x=some c/\h.IsCell c (some u))
structure Cx.Ok (X:Cx):Prop where
 mod:Mod X.K X.mg X.base
 kind:X.env.scope.kind=.function
 glob:X.env.globals=mainGlobals
 blt:X.env.builtins=builtinsNs
 above:X.s₀.heap.objs.size<=X.env.locals
 inj:∀x y c,X.env.cells.lookup x=some c->X.env.cells.lookup y=some c->x=y
 has:∀x,(X.env.kindOf x=some .cell\/X.env.kindOf x=some .free)->∃c,X.env.cells.lookup x=some c
 LV:∀x c,X.fn x=true->X.env.cells.lookup x=some c->X.s₀.heap.objs.size<=c
 hd:X.calm=true->X.A.handled=none
 frames:X.A.frames=some X.stack
 stk:X.stack=X.outer\/(X.stack=X.env::X.outer/\X.env.frame=some X.env.locals)
 PM:∀b∈X.ex,b≠X.env.locals/\∀x c,X.env.cells.lookup x=some c->c≠b
 bs:∀b o,X.base.get? b=some o->X.s₀.heap.get? b=some o/\X.H₀ b=none
 GF:X.base.objs.size<=X.s₀.heap.objs.size
 ku:∀b o,X.base.get? b=some o->b∉X.ex
 AD:∀b∈X.ex,b∉X.fs
 nF:X.s₀.heap.FunFrames X.base X.outer
 Ib:∀b∈X.fs,X.H₀ b=none
structure Inv (X:Cx) (pins:List (Addr×Obj)) (σ:List (Option V)) (H:Hp) (s:Shared):Prop where
 ok:X.Ok
 os:s.os=X.s₀.os
 bare:AllBare s.gens
 base:Un X.fs X.ex X.H₀ H X.s₀.heap s.heap
 loc:∃m,s.heap.Ns X.env.locals m/\∀(i:Nat) (x:Str) (v:V),X.N[i]?=some x -> σ[i]?=some (some v)->O6 X.env.scope x->∃u,RelV v u/\Look X.env s.heap m x u
 cell:∀x c,X.env.cells.lookup x=some c->∃v,s.heap.IsCell c v
 free:H X.env.locals=none
 iQ:∀x c,X.env.cells.lookup x=some c->H c=none
 pin:∀p∈X.pn++pins,s.heap.get? p.1=some p.2/\H p.1=none/\p.1≠X.env.locals/\p.1∉X.fs/\∀v,p.2.data≠.cell v
 hok:kr X.prog X.w H s.heap
 len:σ.length=X.N.length
section
variable {X:Cx} {pins:List (Addr×Obj)} {σ:List (Option V)} {H H':Hp} {s:Shared} {h':Heap}
theorem Cx.Ok.PN(ok:X.Ok)(e:X.base.get? b=some o):b∉X.fs:=λhb=>by
 have:=(ok.nF.mem hb).1;rw[e] at this;cases this
theorem Inv.bs(I:Inv X pins σ H s):∀b o,X.base.get? b=some o->s.heap.get? b=some o/\H b=none:=λb o e =>
 ⟨I.base.keep b o (I.ok.bs b o e).1 (I.ok.bs b o e).2 (I.ok.PN e) (I.ok.ku b o e),I.base.free b o (I.ok.bs b o e).1 (I.ok.bs b o e).2 (I.ok.ku b o e)⟩
theorem Inv.bk(I:Inv X pins σ H s):∀b o,X.base.get? b=some o->s.heap.get? b=some o:=λb o e=>(I.bs b o e).1
theorem Inv.mod(I:Inv X pins σ H s):Mod X.K X.mg X.base:=I.ok.mod
theorem Inv.iR(I:Inv X pins σ H s):X.K.In s.heap:=I.ok.mod.LB.keeps I.bk
theorem Inv.lt(I:Inv X pins σ H s):X.env.locals<s.heap.objs.size:=let ⟨_,hn,_⟩:=I.loc;hn.lt
theorem Inv.sz(I:Inv X pins σ H s):X.s₀.heap.objs.size<=s.heap.objs.size:=le_trans I.ok.above (le_of_lt I.lt)
theorem Inv.PR(I:Inv X pins σ H s)(h:s.heap.objs.size<=a):a∉X.fs:=λhb=>by
 obtain⟨_,o,ho,_⟩:=I.ok.nF.mem hb;exact absurd (lt_of_lt_of_le (lt_size ho) (le_trans I.sz h)) (lt_irrefl _)
theorem Inv.cne(I:Inv X pins σ H s):∀x c,X.env.cells.lookup x=some c->c≠X.env.locals:=λx c e z=>by
 obtain⟨v,o,ho,hd⟩:=I.cell x c e;obtain⟨m,⟨o',es,ep,ho',hd',_⟩,_⟩:=I.loc;rw[z,ho'] at ho;cases ho;rw[hd'] at hd;cases hd
theorem Inv.nF(I:Inv X pins σ H s):s.heap.FunFrames X.base X.outer:=by
 have all:∀(l:List Env),(∀b∈frs l,b∈X.fs)->X.s₀.heap.FunFrames X.base l->s.heap.FunFrames X.base l:=by
  intro l
  induction l with
  | nil=>intro _ _;trivial
  | cons env r ih =>intro hs hl;obtain⟨hk,⟨L,o,hf,hn,ho,hd⟩,hr⟩:=hl;have hL:L∈X.fs:=hs L (by unfold frs;rw[List.filterMap_cons,hf];exact mem_cons_self);obtain⟨sl,e⟩:=I.base.slot L o ho (I.ok.Ib L hL) hL λz=>I.ok.AD L z hL;exact⟨hk,⟨L,_,hf,hn,e,hd⟩,ih (λb hb=>hs b (by unfold frs;rw[List.filterMap_cons,hf];exact mem_cons_of_mem _ hb)) hr⟩
 exact all X.outer (λ_ hb=>hb) I.ok.nF
theorem Inv.stack(I:Inv X pins σ H s):s.heap.FunFrames X.base X.stack:=by
 rcases I.ok.stk with e|⟨e,hf⟩
 ·rw[e];exact I.nF
 ·rw[e];obtain⟨m,hn,_⟩:=I.loc;refine .cons (by rw[I.ok.kind];decide) hf hn ?_ I.nF;exact Heap.get?_none_of_le (le_trans I.ok.GF I.ok.above)
theorem Inv.vQ(I:Inv X pins σ H s):∀b∈frs X.stack,b∈X.env.locals::X.fs:=λb hb=>by
 rcases I.ok.stk with e|⟨e,hf⟩
 ·rw[e] at hb;exact mem_cons_of_mem _ hb
 ·rw[e] at hb;unfold frs at hb;rw[List.filterMap_cons,hf] at hb;exact hb
theorem Inv.xG(I:Inv X pins σ H s):∀b∈frs X.stack,H b=none:=λb hb=>by
 rcases mem_cons.mp (I.vQ b hb) with e|hb
 ·rw[e];exact I.free
 ·obtain⟨_,o,ho,_⟩:=I.ok.nF.mem hb;exact I.base.free b o ho (I.ok.Ib b hb) λz=>I.ok.AD b z hb
theorem Inv.step{g':Array GenState}{t':Nat}{d':Drawn}{ch:List Addr}(I:Inv X pins σ H s)
  (hch:∀b∈ch,(b∈X.ex\/X.s₀.heap.objs.size<=b)/\b≠X.env.locals/\(∀x c,X.env.cells.lookup x=some c->c≠b)/\∀p∈X.pn++pins,p.1≠b)
  (keep:∀b o,b≠X.env.locals->b∉X.fs->b∉ch->s.heap.get? b=some o->H b=none->h'.get? b=some o)
  (slot:∀b o,b≠X.env.locals->b∈X.fs->b∉ch->s.heap.get? b=some o->H b=none->∃sl,h'.get? b=some { o with slots:=sl }) (free:∀b o,b∉ch->s.heap.get? b=some o->H b=none->H' b=none)
  (there:∀b o,b∉ch->s.heap.get? b=some o->∃o',h'.get? b=some o')
  (tups:∀b xs,H b=some (.tup xs)->H' b=some (.tup xs)) (frzs:∀b o u,H b=some (.nL o u)->H' b=some (.nL o u)) (rZ:∀b ps,H b=some (.tbl ps)->∃more,H' b=some (.tbl (ps++more)))
  (ns:∀m,s.heap.Ns X.env.locals m->h'.Ns X.env.locals m) (hok:kr X.prog X.w H' h') (hg:AllBare g') :
  Inv X pins σ H' { s with heap:=h',gens:=g',drawn:=d',toks:=t' }:=by
 have neL:∀b o,X.s₀.heap.get? b=some o->b≠X.env.locals:=λb o e=>ne_of_lt (lt_of_lt_of_le (lt_size e) I.ok.above);have neC:∀b o,X.s₀.heap.get? b=some o->b∉X.ex->b∉ch:=λb o e hx hb=>by
  rcases(hch b hb).1 with z|z
  ·exact hx z
  ·exact absurd (lt_of_lt_of_le (lt_size e) z) (lt_irrefl _)
 have cellK:∀x c,X.env.cells.lookup x=some c->∀v,s.heap.IsCell c v->h'.IsCell c v:=λx c e v ⟨o,ho,hd⟩=>by
  have LW:c∉ch:=λz=>(hch c z).2.2.1 x c e rfl
  by_cases hc:c∈X.fs
  ·obtain⟨sl,q⟩:=slot c o (I.cne x c e) hc LW ho (I.iQ x c e);exact⟨_,q,hd⟩
  ·exact⟨o,keep c o (I.cne x c e) hc LW ho (I.iQ x c e),hd⟩
 refine⟨I.ok,I.os,hg,⟨λb o e n hb hx=>?_,λb o e n hb hx=>?_,λb o e n hx=>?_,λb o e hx=>?_,λb xs e=>tups b xs (I.base.tups b xs e),λb o xs e=>frzs b o xs (I.base.frzs b o xs e),λb ps e=>?_⟩,?_,λx c e=>?_,?_,λx c e=>?_,λp hp=>?_,hok,I.len⟩
 ·exact keep b o (neL b o e) hb (neC b o e hx) (I.base.keep b o e n hb hx) (I.base.free b o e n hx)
 ·obtain⟨sl,e1⟩:=I.base.slot b o e n hb hx;obtain⟨Vi,e2⟩:=slot b _ (neL b o e) hb (neC b o e hx) e1 (I.base.free b o e n hx);exact⟨Vi,e2⟩
 ·obtain⟨o',e1⟩:=I.base.there b o e hx;exact free b o' (neC b o e hx) e1 (I.base.free b o e n hx)
 ·obtain⟨o',e1⟩:=I.base.there b o e hx;exact there b o' (neC b o e hx) e1
 ·obtain⟨m1,e1⟩:=I.base.rZ b ps e;obtain⟨m2,e2⟩:=rZ b _ e1;exact⟨m1++m2,by rw[e2,Array.append_assoc]⟩
 ·obtain⟨m,hn,hl⟩:=I.loc
  refine⟨m,ns m hn,λi x v e1 e2 e3=>?_⟩;obtain⟨u,r,l⟩:=hl i x v e1 e2 e3;refine⟨u,r,?_⟩
  rcases l with l|⟨k,c,e,z⟩
  ·exact .inl l
  ·exact .inr ⟨k,c,e,cellK x c e _ z⟩
 ·obtain⟨v,z⟩:=I.cell x c e;exact⟨v,cellK x c e v z⟩
 ·obtain⟨m,⟨o,_,_,ho,_⟩,_⟩:=I.loc;exact free _ o (λz=>(hch _ z).2.1 rfl) ho I.free
 ·obtain⟨v,o,ho,hd⟩:=I.cell x c e;exact free c o (λz=>(hch c z).2.2.1 x c e rfl) ho (I.iQ x c e)
 ·obtain⟨e,n,ne,nf,d⟩:=I.pin p hp;have LW:p.1∉ch:=λz=>(hch p.1 z).2.2.2 p hp rfl;exact⟨keep p.1 p.2 ne nf LW e n,free p.1 p.2 LW e n,ne,nf,d⟩
theorem Inv.un{t':Nat}(I:Inv X pins σ H s)(u:Un X.fs [] H H' s.heap h')(hok:kr X.prog X.w H' h'):Inv X pins σ H' { s with heap:=h',toks:=t' }:=by
 obtain⟨m,⟨o,es,ep,ho,r⟩,_⟩:=id I.loc;obtain⟨sl,hL⟩:=u.any ho I.free (by simp);exact I.step (g':=s.gens) (d':=s.drawn) (ch:=[]) (λ_ z=>nomatch z) (λb o _ hb _ e n=>u.keep b o e n hb (by simp)) (λb o _ hb _ e n=>u.slot b o e n hb (by simp)) (λb o _ e n=>u.free b o e n (by simp)) (λb o _ e=>u.there b o e (by simp)) u.tups u.frzs u.rZ (λm' hm=>by
  obtain⟨o',es',PU,ho',r'⟩:=hm;rw[ho] at ho';cases ho';exact⟨_,es',PU,hL,r'⟩) hok I.bare
theorem Inv.call{t':Nat}(I:Inv X pins σ H s)(u:Un (frs X.stack) ch H H' s.heap h')(hok:kr X.prog X.w H' h')(hg:AllBare g')
  (hch:∀b∈ch,(b∈X.ex\/X.s₀.heap.objs.size<=b)/\b≠X.env.locals/\(∀x c,X.env.cells.lookup x=some c->c≠b)/\∀p∈X.pn++pins,p.1≠b) :
  Inv X pins σ H' { s with heap:=h',gens:=g',drawn:=d',toks:=t' }:=by
 obtain⟨m,⟨o,es,ep,ho,r⟩,_⟩:=id I.loc;obtain⟨sl,hL⟩:=u.any ho I.free λz=>(hch _ z).2.1 rfl;exact I.step (ch:=ch) hch (λb o hL hb hc e n=>u.keep b o e n (λz=>(mem_cons.mp (I.vQ b z)).elim hL hb) hc) (λb o _ _ hc e n=>u.any e n hc) (λb o hc e n=>u.free b o e n hc) (λb o hc e=>u.there b o e hc) u.tups u.frzs u.rZ (λm' hm=>by
  obtain⟨o',es',PU,ho',r'⟩:=hm;rw[ho] at ho';cases ho';exact⟨_,es',PU,hL,r'⟩) hok hg
theorem Inv.turned{t':Nat}(I:Inv X pins σ H s)(k:∀b o,b≠it->s.heap.get? b=some o->h'.get? b=some o)(hn:H it=none)(hL:it≠X.env.locals)
  (h1:it∈X.ex\/X.s₀.heap.objs.size<=it) (h2:∀x c,X.env.cells.lookup x=some c->c≠it) (h3:∀p∈X.pn++pins,p.1≠it):Inv X pins σ H { s with heap:=h',toks:=t' }:=by
 have LX:∀b u,H b=some u->b≠it:=λb u e z=>by rw[z,hn] at e;cases e
 refine I.step (g':=s.gens) (d':=s.drawn) (ch:=[it]) (λb hb=>?_) (λb o _ _ hc e _=>k b o (λz=>hc (by simp[z])) e) (λb o _ _ hc e _=>⟨o.slots,k b o (λz=>hc (by simp[z])) e⟩) (λ_ _ _ _ n=>n)
  (λb o hc e=>⟨o,k b o (λz=>hc (by simp[z])) e⟩) (λ_ _ e=>e) (λ_ _ _ e=>e) (λb ps e=>⟨#[],by rw[e];simp⟩) (λm hm=>?_) (λb u e=>?_) I.bare
 ·have e:b=it:=by simpa using hb
  subst e;exact⟨h1,hL,h2,h3⟩
 ·obtain⟨o,es,ep,ho,r⟩:=hm;exact⟨o,es,ep,k _ o (Ne.symm hL) ho,r⟩
 ·refine(I.hok b u e).stay (λc v hc q=>k c v ?_ q) (λ_ q=>q) λ_ _ q=>q
  rcases hc with z|z
  ·rw[z];exact LX b u e
  ·exact LX c _ z
theorem Inv.tok(I:Inv X pins σ H s)(t:Nat):Inv X pins σ H { s with toks:=t }:=I.un (h':=s.heap) (t':=t) Un.refl I.hok
theorem Inv.kept{t':Nat}(I:Inv X pins σ H s)(k:∀b u,s.heap.get? b=some u->h'.get? b=some u):Inv X pins σ H { s with heap:=h',toks:=t' }:=I.un (Un.kept k) (I.hok.kept k)
theorem Inv.laid{t':Nat}(I:Inv X pins σ H s)(k:∀b u,s.heap.get? b=some u->h'.get? b=some u)(hp:s.heap.objs.size<=a)(new:bx X.prog X.w (upd H a o) h' a o) :
  Inv X pins σ (upd H a o) { s with heap:=h',toks:=t' }:=I.un (Un.laid k hp (I.hok.fresh hp)) (I.hok.laid k hp new)
theorem Inv.write{t':Nat}(I:Inv X pins σ H s)(mu:LU (H x))(he:e=x\/H e=some (.own x))(k:∀b u,b≠e->s.heap.get? b=some u->h'.get? b=some u)(LA:∃u,h'.get? e=some u)
  (new:bx X.prog X.w (upd H x o) h' x o):Inv X pins σ (upd H x o) { s with heap:=h',toks:=t' }:=I.un (Un.write mu he k LA) (I.hok.write mu he k LA new)
theorem Inv.xH(I:Inv X pins σ H s)(h:∀p∈LY,s.heap.get? p.1=some p.2/\H p.1=none/\p.1≠X.env.locals/\p.1∉X.fs/\∀v,p.2.data≠.cell v):Inv X LY σ H s :=
 ⟨I.ok,I.os,I.bare,I.base,I.loc,I.cell,I.free,I.iQ,λp hp=>(mem_append.mp hp).elim (λz=>I.pin p (mem_append_left _ z)) (h p),I.hok,I.len⟩
theorem tR{N:List Str}(hN:N.Nodup){i j:Nat}{x:Str}(a:N[i]?=some x)(b:N[j]?=some x):i=j:=by
 obtain⟨h1,e1⟩:=List.getElem?_eq_some_iff.mp a;obtain⟨h2,e2⟩:=List.getElem?_eq_some_iff.mp b;exact(List.getElem_inj hN).mp (e1.trans e2.symm)
theorem qD{i:Nat}(I:Inv X pins σ H s)(hN:X.N.Nodup)(hi:X.N[i]?=some x)(hx:Loc X.env.scope x)(r:RelV v u)
  (h:∀s',Inv X pins (σ.set i (some v)) H s'->(∃a,Heap.SameBut a s.heap s'.heap/\(a=X.env.locals\/X.env.cells.lookup x=some a))->Q () s') (hf:X.fn x=true\/X.env.scope.names.lookup x=some .local:=by first|exact .inl rfl|exact .inr rfl|assumption):wpAny M A (storeName X.env x u) Q E s:=by
 obtain⟨m,hn,hl⟩:=id I.loc;have hcls:(X.env.scope.kind==.class||(X.env.scope.kind==.module&&X.env.locals != X.env.globals))=false:=by rw[I.ok.kind];rfl
 have TM:i < σ.length:=by rw[I.len];exact(List.getElem?_eq_some_iff.mp hi).1
 have cne:=I.cne;have tracked:∀{a:Addr} {h':Heap},(∃o,s.heap.get? a=some o/\H a=none)->Heap.SameBut a s.heap h'->kr X.prog X.w H h':=λ{a h'} ha hs b ob e=>by
  obtain⟨_,_,hfree⟩:=ha;refine(I.hok b ob e).stay (λc w' hc q=>(hs.2 c ?_).trans q) (λ_ q=>q) λ_ _ q=>q;rintro rfl
  rcases hc with rfl|hc
  ·rw[hfree] at e;cases e
  ·rw[hfree] at hc;cases hc
 rcases hx with hk|hk
 ·refine wpAny_storeName_local hk hn (λh' hn' hs=>?_) hcls
  obtain⟨oL,_,_,Vj,_⟩:=id hn;refine h _ ⟨I.ok,I.os,I.bare,⟨λb o e n hb hx=>?_,λb o e n hb hx=>?_,I.base.free,λb o e hx=>?_,I.base.tups,I.base.frzs,I.base.rZ⟩,⟨_,hn',λj y v' e1 e2 e3=>?_⟩,λy c e=>?_,I.free,I.iQ,λp hp=>?_,tracked ⟨oL,Vj,I.free⟩ hs,by simpa using I.len⟩ ⟨_,hs,.inl rfl⟩
  ·exact(hs.2 b (ne_of_lt (lt_of_lt_of_le (lt_size e) I.ok.above))).trans (I.base.keep b o e n hb hx)
  ·obtain⟨sl,e1⟩:=I.base.slot b o e n hb hx;exact⟨sl,(hs.2 b (ne_of_lt (lt_of_lt_of_le (lt_size e) I.ok.above))).trans e1⟩
  ·obtain⟨o',e1⟩:=I.base.there b o e hx;exact⟨o',(hs.2 b (ne_of_lt (lt_of_lt_of_le (lt_size e) I.ok.above))).trans e1⟩
  ·by_cases hj:j=i
   ·subst hj;rw[hi] at e1;cases e1;rw[getElem?_set_self TM] at e2;cases e2;exact⟨u,r,.inl ⟨hk,by simp⟩⟩
   ·rw[getElem?_set_ne (Ne.symm hj)] at e2
    obtain⟨u',r',q⟩:=hl j y v' e1 e2 e3;refine⟨u',r',?_⟩
    rcases q with ⟨k,e⟩|⟨k,c,e,z⟩
    ·refine .inl ⟨k,?_⟩;have:y≠x:=λe=>hj (tR hN e1 (e▸hi));simp[this,e]
    ·exact .inr ⟨k,c,e,z.sameBut hs (cne y c e)⟩
  ·obtain⟨w',z⟩:=I.cell y c e;exact⟨w',z.sameBut hs (cne y c e)⟩
  ·obtain⟨e,n,ne,nf,d⟩:=I.pin p hp;exact⟨(hs.2 p.1 ne).trans e,n,ne,nf,d⟩
 ·have hfn:X.fn x=true:=by
   rcases hf with z|z
   ·exact z
   ·rw[z] at hk;cases hk
  obtain⟨c,hc⟩:=I.ok.has x (.inl hk);obtain⟨w',z⟩:=I.cell x c hc;refine wpAny_storeName_cell I.ok.kind hk hc z (λh' hc' hs=>?_);obtain⟨oc,hoc,AE⟩:=id z;refine h { s with heap:=h' } ⟨I.ok,I.os,I.bare,⟨λb o e n hb hx=>?_,λb o e n hb hx=>?_,I.base.free,λb o e hx=>?_,I.base.tups,I.base.frzs,I.base.rZ⟩,⟨m,hn.sameBut hs (Ne.symm (cne x c hc)),λj y v' e1 e2 e3=>?_⟩,λy c' e=>?_,I.free,I.iQ,λp hp=>?_,tracked ⟨oc,hoc,I.iQ x c hc⟩ hs,by simpa using I.len⟩ ⟨c,hs,.inr hc⟩
  ·exact(hs.2 b (ne_of_lt (lt_of_lt_of_le (lt_size e) (I.ok.LV x c hfn hc)))).trans (I.base.keep b o e n hb hx)
  ·obtain⟨sl,e1⟩:=I.base.slot b o e n hb hx;exact⟨sl,(hs.2 b (ne_of_lt (lt_of_lt_of_le (lt_size e) (I.ok.LV x c hfn hc)))).trans e1⟩
  ·obtain⟨o',e1⟩:=I.base.there b o e hx;exact⟨o',(hs.2 b (ne_of_lt (lt_of_lt_of_le (lt_size e) (I.ok.LV x c hfn hc)))).trans e1⟩
  ·by_cases hj:j=i
   ·subst hj;rw[hi] at e1;cases e1;rw[getElem?_set_self TM] at e2;cases e2;exact⟨u,r,.inr ⟨.inl hk,c,hc,hc'⟩⟩
   ·rw[getElem?_set_ne (Ne.symm hj)] at e2
    obtain⟨u',r',q⟩:=hl j y v' e1 e2 e3;refine⟨u',r',?_⟩
    rcases q with q|⟨k,c',e,z'⟩
    ·exact .inl q
    ·refine .inr ⟨k,c',e,z'.sameBut hs ?_⟩;rintro rfl;exact hj (tR hN e1 (I.ok.inj _ _ _ e hc▸hi))
  ·by_cases hcc:c'=c
   ·subst hcc;exact⟨_,hc'⟩
   ·obtain⟨w2,z2⟩:=I.cell y c' e;exact⟨w2,z2.sameBut hs hcc⟩
  ·obtain⟨e,n,ne,nf,d⟩:=I.pin p hp;refine⟨(hs.2 p.1 ?_).trans e,n,ne,nf,d⟩;intro q;rw[q,hoc] at e;have q':oc=p.2:=Option.some.inj e;exact d w' (by rw[<-q'];exact AE)
theorem tU{i:Nat}(I:Inv X pins σ H s)(hN:X.N.Nodup)(hi:X.N[i]?=some x)(hx:Loc X.env.scope x)(r:RelV v u)
  (h:∀s',Inv X pins (σ.set i (some v)) H s'->Q () s') (hf:X.fn x=true\/X.env.scope.names.lookup x=some .local:=by first|exact .inl rfl|exact .inr rfl|assumption):wpAny M A (storeName X.env x u) Q E s :=
 qD I hN hi hx r (λs' I' _=>h s' I') hf
theorem Inv.LZ(I:Inv X pins σ H s)(ho:s'.os=s.os)(u:Un (frs X.stack) ch H H' s.heap s'.heap)(hok:kr X.prog X.w H' s'.heap)(hg:AllBare s'.gens)
  (hch:∀b∈ch,(b∈X.ex\/X.s₀.heap.objs.size<=b)/\b≠X.env.locals/\(∀x c,X.env.cells.lookup x=some c->c≠b)/\∀p∈X.pn++pins,p.1≠b):Inv X pins σ H' s':=by
 obtain⟨h',g',d',t',o'⟩:=s';have e:o'=s.os:=ho;subst e;exact I.call (g':=g') (t':=t') (d':=d') u hok hg hch
end
noncomputable abbrev XK:=Value->Option Addr->Hp->Prop
noncomputable abbrev St:=List (Option V)
noncomputable abbrev VK:=V->Hp->Prop
noncomputable abbrev TE:=St->Hp->VK->Prop
noncomputable abbrev TT:=St->Hp->(Bool->Hp->Prop)->Prop
noncomputable abbrev TA:=St->Hp->(List V->Hp->Prop)->Prop
structure Ends where
 nx:St->Hp->Prop
 rt:VK
 bk:St->Hp->Prop:=λ_ _=>False
 ct:St->Hp->Prop:=λ_ _=>False
noncomputable abbrev TS:=Ends->St->Hp->Prop
noncomputable def EP(X:Cx)(pins:List (Addr×Obj))(σ:St)(Q:VK)(u:Value)(s':Shared):Prop:=∃v H',Inv X pins σ H' s'/\RelV v u/\Q v H'
noncomputable def TP(X:Cx)(pins:List (Addr×Obj))(σ:St)(Q:Bool->Hp->Prop)(b:Bool)(s':Shared):Prop:=∃H',Inv X pins σ H' s'/\Q b H'
noncomputable def AP(X:Cx)(pins:List (Addr×Obj))(σ:St)(Q:List V->Hp->Prop)(us:List Value)(s':Shared):Prop:=∃vs H',Inv X pins σ H' s'/\Vals vs us/\Q vs H'
noncomputable def SP(X:Cx)(pins:List (Addr×Obj))(D:Ends)(f:Flow)(s':Shared):Prop :=
 match f with
 | .next=>∃σ' H',Inv X pins σ' H' s'/\D.nx σ' H'
 | .brk=>∃σ' H',Inv X pins σ' H' s'/\D.bk σ' H'
 | .cont=>∃σ' H',Inv X pins σ' H' s'/\D.ct σ' H'
 | .ret u=>∃v σ' H',Inv X pins σ' H' s'/\RelV v u/\D.rt v H'
noncomputable def PE(X:Cx)(e:Expr)(t:TE):Prop :=
 ∀(pins:List (Addr×Obj)) (s:Shared) (σ:St) (H:Hp) (Q:VK),Inv X pins σ H s->t σ H Q->wpAny (model X.prog X.w) X.A (eval e X.env) (EP X pins σ Q) X.xe s
noncomputable def PT(X:Cx)(e:Expr)(t:TT):Prop :=
 ∀(pins:List (Addr×Obj)) (s:Shared) (σ:St) (H:Hp) (Q:Bool->Hp->Prop),Inv X pins σ H s->t σ H Q->wpAny (model X.prog X.w) X.A (isTrue e X.env (eval e X.env)) (TP X pins σ Q) X.xe s
noncomputable def PW(X:Cx)(e:Expr)(t:TT):Prop :=
 ∀(whole:Sem Value) (pins:List (Addr×Obj)) (s:Shared) (σ:St) (H:Hp) (Q:Bool->Hp->Prop),Inv X pins σ H s->t σ H Q->wpAny (model X.prog X.w) X.A (isTrue e X.env whole) (TP X pins σ Q) X.xe s
theorem PW.pt(h:PW X e t):PT X e t:=h _
noncomputable def PA(X:Cx)(es:List Expr)(t:TA):Prop :=
 ∀(pos:Pos) (pins:List (Addr×Obj)) (s:Shared) (σ:St) (H:Hp) (Q:List V->Hp->Prop),Inv X pins σ H s->t σ H Q->wpAny (model X.prog X.w) X.A (spliced (backTo pos (starEach es X.env))) (AP X pins σ Q) X.xe s
noncomputable def PS(X:Cx)(st:Stmt)(t:TS):Prop :=
 ∀(pins:List (Addr×Obj)) (s:Shared) (σ:St) (H:Hp) (D:Ends),Inv X pins σ H s->t D σ H->wpAny (model X.prog X.w) X.A (exec st X.env) (SP X pins D) X.xe s
noncomputable def vR(X:Cx)(st:List Stmt)(t:TS):Prop :=
 ∀(pins:List (Addr×Obj)) (s:Shared) (σ:St) (H:Hp) (D:Ends),Inv X pins σ H s->t D σ H->wpAny (model X.prog X.w) X.A (execs st X.env) (SP X pins D) X.xe s
theorem cu{α:Type}{t:Sem α}{Q Q':α -> Shared->Prop}(h:wpAny M A t Q E s)(hQ:∀a s,Q a s->Q' a s):wpAny M A t Q' E s:=wpAny_mono h hQ λ_ _ x=>x
end L2
namespace L2
open PySem PySem.Spec PyProof.Rows
section
variable {X:Cx}
theorem bin{a b:Expr}{ta tb:TE}(ha:PE X a ta)(hb:PE X b tb){pins:List (Addr×Obj)}{s:Shared}{σ:St}{H:Hp}{R:V->V->Hp->Prop}(I:Inv X pins σ H s)(h:ta σ H λx H1=>tb σ H1 λy H2=>R x y H2)
  {α:Type} {Q:α -> Shared->Prop} {f:Value->Value->Sem α}
  (hf:∀v u s2 x y H2,Inv X pins σ H2 s2->RelV x v->RelV y u->R x y H2->wpAny (model X.prog X.w) X.A (f v u) Q X.xe s2) :
  wpAny (model X.prog X.w) X.A (eval a X.env) (λv s₁=>wpAny (model X.prog X.w) X.A (eval b X.env) (λu s₂=>wpAny (model X.prog X.w) X.A (f v u) Q X.xe s₂) X.xe s₁) X.xe s:=by
 refine cu (ha pins s σ H _ I h) λv s1 aJ=>?_;obtain⟨x,H1,I1,r1,q1⟩:=aJ;refine cu (hb pins s1 σ H1 _ I1 q1) λu s2 aJ=>?_;obtain⟨y,H2,I2,r2,q2⟩:=aJ;exact hf v u s2 x y H2 I2 r1 r2 q2
noncomputable def PV(i:Nat):TE:=λσ H Q=>∃v,σ[i]?=some (some v)/\Q v H
noncomputable def tC(v:V):TE:=λ_ H Q=>Q v H
theorem Ic{i:Nat}(hN:X.N[i]?=some x)(hv:O6 X.env.scope x)(hd:(x==("__debug__":Str))=false:=by decide)(hcd:(x==("__classdict__":Str))=false:=by decide):PE X (.Name x pos) (PV i):=by
 intro pins s σ H Q I h;obtain⟨v,e,h⟩:=h;obtain⟨m,hn,hl⟩:=I.loc;obtain⟨u,r,l⟩:=hl i x v hN e hv;have fin:EP X pins σ Q u s:=⟨v,H,I,r,h⟩
 rcases l with ⟨hk,hm⟩|⟨hk,c,hc,hcell⟩
 ·exact wpAny_Name (wpAny_loadName_local I.ok.kind hk hn hm fin) hd
 ·rcases hk with hk|hk
  ·exact wpAny_Name (wpAny_loadName_cell I.ok.kind hk hc hcell fin) hd
  ·exact wpAny_Name (wpAny_loadName_free I.ok.kind hk hc hcell fin hcd) hd
theorem Ie{i j pos}:PE X (.Constant (.int i) j pos) (tC (.int i)):=λ_ _ _ H _ I h=>wpAny_Constant_int ⟨.int i,H,I.tok _,⟨_,rfl⟩,h⟩
theorem Ma{b j pos}:PE X (.Constant (.bool b) j pos) (tC (.bl b)):=λ_ _ _ H _ I h=>Constant_bool ⟨.bl b,H,I,rfl,h⟩
theorem Ig{j pos}:PE X (.Constant .none j pos) (tC .non):=λ_ _ _ H _ I h=>Constant_none ⟨.non,H,I,rfl,h⟩
theorem Ih{x j pos}:PE X (.Constant (.str x) j pos) (tC (.str x)):=λ_ _ _ H _ I h=>Calls.Constant_str ⟨.str x,H,I.tok _,⟨_,rfl⟩,h⟩
noncomputable def Gl(X:Cx)(x:Str):Prop:=X.env.kindOf x=some .globalImplicit
theorem jK(I:Inv X pins σ H s)(hg:Gl X x)(hm:X.mg x=some u)(h:Q u s)
  (hd:(x==("__debug__":Str))=false:=by decide):wpAny (model X.prog X.w) X.A (eval (.Name x pos) X.env) Q E s :=
 Calls.Name_function_global I.ok.kind hg (Calls.loadGlobal_global (by rw[I.ok.glob];exact I.mod.glob.keeps I.bk) hm h) hd
theorem gG(I:Inv X pins σ H s)(hg:Gl X x)(hm:X.mg x=none)(hv:bootBuiltins x=some u)(h:Q u s)
  (hn:x ≠ "__name__":=by decide) (hd:(x==("__debug__":Str))=false:=by decide):wpAny (model X.prog X.w) X.A (eval (.Name x pos) X.env) Q E s:=by
 obtain⟨mb,h1,h2⟩:=I.mod.blt;exact Calls.Name_function_global I.ok.kind hg (Calls.loadGlobal_builtin (by rw[I.ok.glob];exact I.mod.glob.keeps I.bk) hm (by rw[I.ok.blt];exact h1.keeps I.bk) ((h2 x hn).trans hv) h) hd
theorem xJ(hg:Gl X x)(hm:X.mg x=some u)(r:RelV v u)(hd:(x==("__debug__":Str))=false:=by decide):PE X (.Name x pos) (tC v) :=
 λ_ _ _ H _ I h=>jK I hg hm ⟨v,H,I,r,h⟩ hd
theorem DP(hg:Gl X x)(hm:X.mg x=none)(hv:bootBuiltins x=some u)(r:RelV v u)(hn:x ≠ "__name__":=by decide)(hd:(x==("__debug__":Str))=false:=by decide):PE X (.Name x pos) (tC v) :=
 λ_ _ _ H _ I h=>gG I hg hm hv ⟨v,H,I,r,h⟩ hn hd
variable {a b:Expr} {ta tb:TE} {pos:Pos}
variable {tA O7:TT} {rest:List Expr}
noncomputable def PX(t u:TT):TT:=λσ H Q=>t σ H λc H1=>if c=true then u σ H1 Q else Q false H1
noncomputable def Vk(t u:TT):TT:=λσ H Q=>t σ H λc H1=>if c=true then Q true H1 else u σ H1 Q
noncomputable def PY(t:TT):TT:=λσ H Q=>t σ H λc H1=>Q (!c) H1
theorem DQ(ha:PT X a tA):PW X (.BoolOp .And [a] pos) tA:=by
 intro wh pins s σ H Q I h;refine isTrue_and (cu (ha pins s σ H Q I h) λc s1 e=>?_);cases c with
 | true=>exact isTrue_and_nil e
 | false=>exact e
theorem Ii(ha:PT X a tA):PW X (.BoolOp .Or [a] pos) tA:=by
 intro wh pins s σ H Q I h;refine isTrue_or (cu (ha pins s σ H Q I h) λc s1 e=>?_);cases c with
 | false=>exact isTrue_or_nil e
 | true=>exact e
theorem Ij(ha:PT X a tA)(hb:PW X (.BoolOp .And (b::rest) pos) O7):PW X (.BoolOp .And (a::b::rest) pos) (PX tA O7):=by
 intro wh pins s σ H Q I h;refine isTrue_and (cu (ha pins s σ H _ I h) λc s1 aJ=>?_);obtain⟨H1,I1,q1⟩:=aJ;cases c with
 | true=>exact hb wh pins s1 σ H1 Q I1 q1
 | false=>exact⟨H1,I1,q1⟩
theorem Mb(ha:PT X a tA)(hb:PW X (.BoolOp .Or (b::rest) pos) O7):PW X (.BoolOp .Or (a::b::rest) pos) (Vk tA O7):=by
 intro wh pins s σ H Q I h;refine isTrue_or (cu (ha pins s σ H _ I h) λc s1 aJ=>?_);obtain⟨H1,I1,q1⟩:=aJ;cases c with
 | true=>exact⟨H1,I1,q1⟩
 | false=>exact hb wh pins s1 σ H1 Q I1 q1
theorem Il(ha:PT X a tA):PT X (.UnaryOp .Not a pos) (PY tA):=by
 intro pins s σ H Q I h;exact isTrue_not (ha pins s σ H (λc H1=>Q (!c) H1) I h)
noncomputable def Mc(ta tb:TE):TE:=λσ H Q=>ta σ H λx H1=>∃c,x=.bl c/\if c=true then tb σ H1 Q else Q (.bl false) H1
noncomputable def PZ(ta tb:TE):TE:=λσ H Q=>ta σ H λx H1=>∃c,x=.bl c/\if c=true then Q (.bl true) H1 else tb σ H1 Q
noncomputable def Mf(ta:TE):TE:=λσ H Q=>ta σ H λx H1=>∃c,x=.bl c/\Q (.bl (!c)) H1
theorem AF{op}(h:PE X a t):PE X (.BoolOp op [a] pos) t:=λpins s σ H Q I hw=>BoolOp_one (h pins s σ H Q I hw)
theorem Im(ha:PE X a ta)(hb:PE X (.BoolOp .And (b::rest) pos) tb):PE X (.BoolOp .And (a::b::rest) pos) (Mc ta tb):=by
 intro pins s σ H Q I h;refine BoolOp_and (cu (ha pins s σ H _ I h) λv s1 aJ=>?_);obtain⟨x,H1,I1,r1,q1⟩:=aJ;obtain⟨c,rfl,q1⟩:=q1;cases r1;refine wpAny_truthy_bool ?_;cases c with
 | true=>exact hb pins s1 σ H1 Q I1 q1
 | false=>exact⟨.bl false,H1,I1,rfl,q1⟩
theorem Mg(ha:PE X a ta)(hb:PE X (.BoolOp .Or (b::rest) pos) tb):PE X (.BoolOp .Or (a::b::rest) pos) (PZ ta tb):=by
 intro pins s σ H Q I h;refine BoolOp_or (cu (ha pins s σ H _ I h) λv s1 aJ=>?_);obtain⟨x,H1,I1,r1,q1⟩:=aJ;obtain⟨c,rfl,q1⟩:=q1;cases r1;refine wpAny_truthy_bool ?_;cases c with
 | false=>exact hb pins s1 σ H1 Q I1 q1
 | true=>exact⟨.bl true,H1,I1,rfl,q1⟩
theorem Io(ha:PE X a ta):PE X (.UnaryOp .Not a pos) (Mf ta):=by
 intro pins s σ H Q I h;refine UnaryOp_ (cu (ha pins s σ H _ I h) λv s1 aJ=>?_);obtain⟨x,H1,I1,r1,q1⟩:=aJ;obtain⟨c,rfl,q1⟩:=q1;cases r1;exact not_of (wpAny_truthy_bool ⟨.bl (!c),H1,I1,rfl,q1⟩)
end
end L2
namespace L2
open PySem PySem.Spec PyProof.Rows
noncomputable def gz(K:PySem.W.Frag)(H:Hp)(a:Addr)(xs:List V):Prop :=
 Rd H a (.lst xs) \/
  ∃(o:Obj) (its:Array Value) (n:Nat),K.lookup a=some o/\o.cls=.type "list" /\ o.dict=none/\o.data=.seq its n/\its.size<=sizeLine/\Vals xs its.toList
noncomputable def iS(K:PySem.W.Frag)(H:Hp)(a:Addr)(xs:List V):Prop :=
 Rd H a (.tup xs) \/
  ∃(o:Obj) (its:Array Value) (n:Nat),K.lookup a=some o/\o.cls=.type "tuple" /\ o.data=.seq its n/\its.size<=sizeLine/\Vals xs its.toList
noncomputable def P0:Value->Option V
 | .none=>some .non
 | .bool b=>some (.bl b)
 | .int i _=>some (.int i)
 | .str x _=>some (.str x)
 | .bytes b _=>some (.byt b)
 | .float b _=>some (.flt b)
 | .ref a=>some (.ref a)
 | .type n=>some (.ty n)
 | _=>none
theorem RelV.abs(r:RelV x u):P0 u=some x:=by
 cases x with
 | non=>cases r;rfl
 | bl _=>cases r;rfl
 | int _=>obtain⟨t,rfl⟩:=r;rfl
 | str _=>obtain⟨t,rfl⟩:=r;rfl
 | byt _=>obtain⟨t,rfl⟩:=r;rfl
 | flt _=>obtain⟨t,rfl⟩:=r;rfl
 | ref _=>cases r;rfl
 | ty _=>cases r;rfl
theorem RelV.inj(r:RelV x u)(q:RelV y u):x=y:=Option.some.inj (r.abs.symm.trans q.abs)
theorem Vals.inj:∀{xs ys:List V} {us:List Value},Vals xs us->Vals ys us->xs=ys
 | _,_,_,.nil,.nil=>rfl
 | _,_,_,.cons r t,.cons r' t'=>by rw[r.inj r',Vals.inj t t']
section
variable {X:Cx} {pins:List (Addr×Obj)} {σ:St} {H:Hp} {s:Shared} {a:Addr} {xs ys:List V}
theorem iS.of{K:PySem.W.Frag}(h:H a=some (.tup xs)):iS K H a xs:=.inl (.inl h)
theorem Inv.list(I:Inv X pins σ H s)(h:gz X.K H a xs):∃its:List Value,Vals xs its/\PlainL s.heap a its.toArray/\xs.length<=sizeLine:=by
 rcases h with h|⟨o,its,n,hk,hc,hd,hs,hz,r⟩
 ·obtain⟨z,its,n,r,e⟩:=h.ok I.hok;exact⟨its,r,⟨_,n,e,rfl,rfl,rfl⟩,z⟩
 ·refine⟨its.toList,r,⟨o,n,I.iR a o hk,hc,hd,by simpa using hs⟩,?_⟩;have e:=r.length;simp only[length_toList] at e;omega
theorem Inv.tuple(I:Inv X pins σ H s)(h:iS X.K H a xs):∃its:List Value,Vals xs its/\IsTup s.heap a its.toArray/\xs.length<=sizeLine:=by
 rcases h with h|⟨o,its,n,hk,hc,hs,hz,r⟩
 ·obtain⟨z,its,r,p⟩:=h.ok I.hok;exact⟨its,r,p,z⟩
 ·refine⟨its.toList,r,⟨o,I.iR a o hk,hc,n,by simpa using hs⟩,?_⟩;have e:=r.length;simp only[length_toList] at e;omega
theorem Inv.tW(I:Inv X pins σ H s)(h:gz X.K H a xs)(h':gz X.K H a ys):xs=ys:=by
 obtain⟨its,r,⟨o,n,e,_,_,d⟩,_⟩:=I.list h;obtain⟨its',r',⟨o',n',e',_,_,d'⟩,_⟩:=I.list h';rw[e] at e';cases e';rw[d] at d';injection d' with d1 _
 have:its=its':=by simpa using congrArg toList d1
 subst this;exact r.inj r'
theorem Inv.zd(I:Inv X pins σ H s)(h:iS X.K H a xs)(h':iS X.K H a ys):xs=ys:=by
 obtain⟨its,r,⟨o,e,_,n,d⟩,_⟩:=I.tuple h;obtain⟨its',r',⟨o',e',_,n',d'⟩,_⟩:=I.tuple h';rw[e] at e';cases e';rw[d] at d';injection d' with d1 _
 have:its=its':=by simpa using congrArg toList d1
 subst this;exact r.inj r'
end
noncomputable abbrev Cx.qq(X:Cx)(E:Value->Shared->Prop):Cx:={ X with xe:=E }
noncomputable abbrev Cx.Mh(X:Cx):Cx:=X.qq λ_ _=>False
theorem Cx.Ok.qq{X:Cx}(ok:X.Ok)(E:Value->Shared->Prop):(X.qq E).Ok :=
 ⟨ok.mod,ok.kind,ok.glob,ok.blt,ok.above,ok.inj,ok.has,ok.LV,ok.hd,ok.frames,ok.stk,ok.PM,ok.bs,ok.GF,ok.ku,ok.AD,ok.nF,ok.Ib⟩
theorem Cx.Ok.je{X:Cx}{E:Value->Shared->Prop}(ok:(X.qq E).Ok):X.Ok :=
 ⟨ok.mod,ok.kind,ok.glob,ok.blt,ok.above,ok.inj,ok.has,ok.LV,ok.hd,ok.frames,ok.stk,ok.PM,ok.bs,ok.GF,ok.ku,ok.AD,ok.nF,ok.Ib⟩
section
variable {X:Cx} {pins:List (Addr×Obj)} {σ:St} {H:Hp} {s:Shared} {E:Value->Shared->Prop}
theorem Inv.qq(I:Inv X pins σ H s)(E:Value->Shared->Prop):Inv (X.qq E) pins σ H s:=⟨I.ok.qq E,I.os,I.bare,I.base,I.loc,I.cell,I.free,I.iQ,I.pin,I.hok,I.len⟩
theorem Inv.je(I:Inv (X.qq E) pins σ H s):Inv X pins σ H s:=⟨I.ok.je,I.os,I.bare,I.base,I.loc,I.cell,I.free,I.iQ,I.pin,I.hok,I.len⟩
theorem SP.je(h:SP (X.qq E) pins D f s'):SP X pins D f s':=by
 cases f with
 | next=>obtain⟨σ',H',I,q⟩:=h;exact⟨σ',H',I.je,q⟩
 | brk=>obtain⟨σ',H',I,q⟩:=h;exact⟨σ',H',I.je,q⟩
 | cont=>obtain⟨σ',H',I,q⟩:=h;exact⟨σ',H',I.je,q⟩
 | ret u=>obtain⟨v,σ',H',I,r,q⟩:=h;exact⟨v,σ',H',I.je,r,q⟩
theorem vR.Mh{st:List Stmt}{t:TS}(h:vR X.Mh st t):vR X st t:=λpins s σ H D I hw =>
 wpAny_mono (h pins s σ H D (I.qq _) hw) (λ_ _ q=>q.je) λ_ _ z=>False.elim z
end
section
variable {X:Cx} {st:Stmt} {rest:List Stmt} {t u:TS} {e:Expr} {te:TE} {pos:Pos}
noncomputable def AG:TS:=λD σ H=>D.nx σ H
noncomputable def P1(t u:TS):TS:=λD σ H=>t { D with nx:=u D } σ H
theorem DR:vR X [] AG:=λ_ _ σ H _ I h=>wpAny_execs_nil ⟨σ,H,I,h⟩
theorem AH(h1:PS X st t)(h2:vR X rest u):vR X (st::rest) (P1 t u):=by
 intro pins s σ H D I h;refine wpAny_execs_cons (cu (h1 pins s σ H { D with nx:=u D } I h) λf s1 q=>?_);cases f with
 | next =>obtain⟨σ',H',I',q⟩:=q;exact h2 pins s1 σ' H' D I' q
 | ret v=>exact q
 | brk=>exact q
 | cont=>exact q
noncomputable def Ip:TS:=λD σ H=>D.bk σ H
noncomputable def Mi:TS:=λD σ H=>D.ct σ H
theorem DS:PS X (.Pass pos) AG:=λ_ _ σ H _ I h=>wpAny_Pass ⟨σ,H,I,h⟩
theorem AI:PS X (.Break pos) Ip:=λ_ _ σ H _ I h=>wpAny_Break ⟨σ,H,I,h⟩
theorem tX:PS X (.Continue pos) Mi:=λ_ _ σ H _ I h=>wpAny_Continue ⟨σ,H,I,h⟩
theorem Inv.quiet(I:Inv X pins σ H s):interactive X.env=false:=by simp[interactive,I.ok.kind]
theorem Iq{x j pos pos'}:PS X (.Expr (.Constant (.str x) j pos) pos') AG:=λ_ s σ H _ I h=>wpAny_Expr (Calls.Constant_str (show SP X _ _ .next { s with toks:=s.toks+1 } from⟨σ,H,I.tok _,h⟩)) I.quiet
noncomputable def Mj(te:TE):TS:=λD σ H=>te σ H λ_ H1=>D.nx σ H1
theorem DT(he:PE X e te)(hs:swapsWith e none pos.line X.env=pure false:=by rfl):PS X (.Expr e pos) (Mj te):=by
 intro pins s σ H D I h;exact wpAny_Expr_any (cu (he pins s σ H _ I h) λv s1 ⟨x,H1,I1,r1,q1⟩=>⟨σ,H1,I1,q1⟩) I.quiet hs
noncomputable def P4(te:TE):TS:=λD σ H=>te σ H D.rt
theorem Ir(he:PE X e te):PS X (.Return (some e) pos) (P4 te):=by
 intro pins s σ H D I h;exact wpAny_Return_some (cu (he pins s σ H _ I h) λv s1 ⟨x,H1,I1,r1,q1⟩=>⟨x,σ,H1,I1,r1,q1⟩)
noncomputable def Ml:TS:=λD _ H=>D.rt .non H
theorem DU:PS X (.Return none pos) Ml:=λ_ _ σ H _ I h=>wpAny_Return_none ⟨.non,σ,H,I,rfl,h⟩
noncomputable def P5(c:TT)(t u:TS):TS:=λD σ H=>c σ H λb H1=>if b=true then t D σ H1 else u D σ H1
theorem Mm(hc:PT X c tc)(ha:vR X a t)(hb:vR X b u):PS X (.If c a b pos) (P5 tc t u):=by
 intro pins s σ H D I h;refine wpAny_If (cu (hc pins s σ H _ I h) λd s1 aJ=>?_);obtain⟨H1,I1,q1⟩:=aJ;cases d with
 | true=>exact ha pins s1 σ H1 D I1 q1
 | false=>exact hb pins s1 σ H1 D I1 q1
noncomputable def Iu:TS:=λ_ _ _=>False
theorem oj:PS X st Iu:=λ_ _ _ _ _ _ h=>h.elim
end
noncomputable abbrev TG:=V->St->Hp->(St->Hp->Prop)->Prop
noncomputable abbrev LC:=List V->St->Hp->(St->Hp->Prop)->Prop
noncomputable def PG(X:Cx)(target:Expr)(t:TG):Prop :=
 ∀(pins:List (Addr×Obj)) (s:Shared) (σ:St) (H:Hp) (v:V) (u:Value) (Q:St->Hp->Prop),Inv X pins σ H s->RelV v u->t v σ H Q ->
  wpAny (model X.prog X.w) X.A (assign target X.env u) (λ_ s'=>∃σ' H',Inv X pins σ' H' s'/\Q σ' H') X.xe s
noncomputable def LD(X:Cx)(ts:List Expr)(t:LC):Prop :=
 ∀(pins:List (Addr×Obj)) (s:Shared) (σ:St) (H:Hp) (vs:List V) (us:List Value) (Q:St->Hp->Prop),Inv X pins σ H s->Vals vs us->t vs σ H Q ->
  wpAny (model X.prog X.w) X.A (assignInOrder ((assignEach ts X.env).map (·.2)) us) (λ_ s'=>∃σ' H',Inv X pins σ' H' s'/\Q σ' H') X.xe s
noncomputable abbrev Iv:=V->V->V->Hp->(Hp->Prop)->Prop
noncomputable def Iw(X:Cx)(t:Iv):Prop :=
 ∀(pins:List (Addr×Obj)) (s:Shared) (σ:St) (H:Hp) (o i v:V) (ov iv u:Value) (Q:Hp->Prop),Inv X pins σ H s->RelV o ov->RelV i iv->RelV v u->t o i v H Q ->
  wpAny (model X.prog X.w) X.A (setItem ov iv u) (λ_ s'=>∃H',Inv X pins σ H' s'/\Q H') X.xe s
section
variable {X:Cx} {pos:Pos}
noncomputable def qE(i:Nat):TG:=λv σ H Q=>Q (σ.set i (some v)) H
theorem nM{i:Nat}(hN:X.N.Nodup)(hi:X.N[i]?=some x)(hx:Loc X.env.scope x)(hf:X.fn x=true\/X.env.scope.names.lookup x=some .local:=by first|exact .inl rfl|exact .inr rfl|assumption):PG X (.Name x pos) (qE i):=by
 intro pins s σ H v u Q I r h;exact wpAny_assign_Name (tU I hN hi hx r (λs' I'=>⟨_,H,I',h⟩) hf)
noncomputable def Mn:LC:=λvs σ H Q=>vs=[]/\Q σ H
noncomputable def GG(t:TG)(u:LC):LC:=λvs σ H Q=>∃v r,vs=v::r/\t v σ H λσ' H'=>u r σ' H' Q
theorem xK:LD X [] Mn:=by
 intro pins s σ H vs us Q I r h;obtain⟨e,h⟩:=h;subst e;cases r;exact assignInOrder_nil ⟨σ,H,I,h⟩
theorem tY(h1:PG X e t)(h2:LD X es u)
  (hs:(assignEach (e::es) X.env).map (·.2)=assign e X.env::(assignEach es X.env).map (·.2):=by rfl):LD X (e::es) (GG t u):=by
 intro pins s σ H vs us Q I r h;obtain⟨v,vr,e1,h⟩:=h;subst e1;cases r with
 | cons r rr =>rw[hs];refine assignInOrder_cons (cu (h1 pins s σ H _ _ _ I r h) λ_ s1 aJ=>?_);obtain⟨σ1,H1,I1,q1⟩:=aJ;exact h2 pins s1 σ1 H1 _ _ Q I1 rr q1
noncomputable def Mp(K:PySem.W.Frag)(n:Nat)(t:LC):TG:=λv σ H Q=>∃a xs,v=.ref a/\iS K H a xs/\xs.length=n/\t xs σ H Q
theorem AJ{k:Nat}{n:Nat}(hc:X.calm=true)(h:LD X es t)
  (hn:(assignEach es X.env).length=n:=by rfl) (hst:(assignEach es X.env).findIdx? (·.1)=none:=by rfl):PG X (.Tuple es k pos) (Mp X.K n t):=by
 intro pins s σ H v u Q I r hw;obtain⟨a,xs,e1,hq,hl,hw⟩:=hw;subst e1;cases r;obtain⟨its,rv,ht,hz⟩:=I.tuple hq;refine assign_Tuple_tuple (I.ok.hd hc) ht (by simp[hn,<-hl,rv.length]) hst λh' hx=>?_;have I1:Inv X pins σ H { s with heap:=h' }:=I.kept (t':=s.toks) λb o e=>hx b o (ne_of_lt (lt_size e)) e;exact h pins _ σ H xs _ Q I1 (by simpa using rv) hw
noncomputable def Mq(to ti:TE)(t:Iv):TG:=λv σ H Q=>to σ H λo H1=>ti σ H1 λi H2=>t o i v H2 λH3=>Q σ H3
theorem Iz(ho:PE X o to)(hi:PE X i ti)(hs:Iw X t)
  (ha:∀v,assign (.Subscript o i pos) X.env v=(do
   let ov <-holding [v] (eval o X.env)
   let iv <-holding [v,ov] (eval i X.env)
   standAt pos
   holding [v,ov,iv] (setItem ov iv v)
   release [v,ov,iv] []):=by intro _;rfl):PG X (.Subscript o i pos) (Mq to ti t):=by
 intro pins s σ H v u Q I r h;rw[ha];refine wpAny_bind (wpAny_holding (cu (ho pins s σ H _ I h) λov s1 aJ=>?_));obtain⟨x,H1,I1,r1,q1⟩:=aJ;refine wpAny_bind (wpAny_holding (cu (hi pins s1 σ H1 _ I1 q1) λiv s2 aJ=>?_));obtain⟨y,H2,I2,r2,q2⟩:=aJ;refine wpAny_bind (wpAny_standAt (wpAny_bind (wpAny_holding (cu (hs pins s2 σ H2 x y v ov iv u _ I2 r1 r2 r q2) λ_ s3 aJ=>?_))));obtain⟨H3,I3,q3⟩:=aJ;exact wpAny_release ⟨σ,H3,I3,q3⟩
noncomputable def DV(te:TE)(g:TG):TS:=λD σ H=>te σ H λx H1=>g x σ H1 D.nx
theorem AK(he:PE X e te)(hg:PG X tg g)(hs:swapsWithSole [tg] e pos.line X.env=pure false:=by rfl)(hw:swappedStores [tg] e X.env=pure none:=by rfl)
  (h1:(assignEach [tg] X.env).map (·.2)=[assign tg X.env]:=by rfl):PS X (.Assign [tg] e pos) (DV te g):=by
 intro pins s σ H D I h;refine wpAny_Assign_stores (cu (he pins s σ H _ I h) λv s1 ⟨x,H1,I1,r1,q1⟩=>?_) hs hw;rw[h1];exact cu (hg pins s1 σ H1 x v _ I1 r1 q1) λ_ s2 q=>q
theorem AL{i:Nat}(hN:X.N.Nodup)(hi:X.N[i]?=some x)(hx:Loc X.env.scope x)(he:PE X e te)(hs:swapsWith e (some (.Name x pos')) pos.line X.env=pure false:=by rfl)(hf:X.fn x=true\/X.env.scope.names.lookup x=some .local:=by first|exact .inl rfl|exact .inr rfl|assumption) :
  PS X (.Assign [.Name x pos'] e pos) (DV te (qE i)):=by
 intro pins s σ H D I h;refine wpAny_Assign_Name (cu (he pins s σ H _ I h) λv s1 ⟨y,H1,I1,r1,q1⟩=>?_) hs;exact tU I1 hN hi hx r1 (λs2 I2=>⟨_,H1,I2,q1⟩) hf
end
section
variable {X:Cx} {pos:Pos}
end
structure It where
 go:Nat->Hp->Prop
 vS:Nat->Hp->V->Hp->Prop
 stop:Nat->Hp->Prop
noncomputable def nG(X:Cx)(pins:List (Addr×Obj))(H:Hp)(b:Addr):Prop :=
 H b=none/\b≠X.env.locals/\b∉X.fs/\(b∈X.ex\/X.s₀.heap.objs.size<=b)/\(∀x c,X.env.cells.lookup x=some c->c≠b)/\∀p∈X.pn++pins,p.1≠b
theorem Inv.DW(I:Inv X pins σ H s)(hb:s.heap.objs.size<=b)(hn:H' b=none):nG X pins H' b:=by
 refine⟨hn,ne_of_gt (lt_of_lt_of_le I.lt hb),I.PR hb,.inr (le_trans I.sz hb),λx c e z=>?_,λp hp z=>?_⟩
 ·obtain⟨v,q⟩:=I.cell x c e;exact absurd (lt_of_lt_of_le q.lt (by rw[z];exact hb)) (lt_irrefl _)
 ·exact absurd (lt_of_lt_of_le (lt_size (I.pin p hp).1) (by rw[z];exact hb)) (lt_irrefl _)
structure Turn (P:Program) (w:World) (K:PySem.W.Frag) (tg:Expr) (J:It) (fp:List Addr) (it:Addr) (tn:Nat->Heap->Prop):Prop where
 mem:it∈fp
 obj:∀i h,tn i h->∀b∈fp,∃o,h.get? b=some o/\∀v,o.data≠.cell v
 keep:∀i h h',tn i h->(∀b∈fp,∀o,h.get? b=some o->h'.get? b=some o)->tn i h'
 item:∀(X:Cx),X.prog=P->X.w=w->X.K=K->X.calm=true->∀(i:Nat) (pins:List (Addr×Obj)) (s:Shared) (σ:St) (H:Hp) (E:Value->Shared->Prop),Inv X pins σ H s->(∀b∈fp,nG X pins H b)->tn i s.heap->J.go i H ->
  wpAny (model P w) X.A (pyNext (.ref it)) (λr s1=>∃u,r=some u /\
   wpAny (model P w) X.A (letOwnedTupleGo tg (.ref it) u) (λ_ s2=>∃x H',Inv X pins σ H' s2/\RelV x u/\J.vS i H x H'/\tn (i+1) s2.heap/\∀b∈fp,H' b=none) E s1) E s
 done:∀(X:Cx),X.prog=P->X.w=w->X.K=K->X.calm=true->∀(i:Nat) (pins:List (Addr×Obj)) (s:Shared) (σ:St) (H:Hp) (E:Value->Shared->Prop),Inv X pins σ H s->(∀b∈fp,nG X pins H b)->tn i s.heap->J.stop i H ->
  wpAny (model P w) X.A (pyNext (.ref it)) (λr s1=>r=none/\Inv X pins σ H s1) E s
 self:∀(A:Around) (i:Nat) (s:Shared) (Q:Value->Shared->Prop) (E:Value->Shared->Prop),tn i s.heap->Q (.ref it) s->wpAny (model P w) A (pyIter (.ref it)) Q E s
noncomputable abbrev TI:=St->Hp->(It->Hp->Prop)->Prop
noncomputable def TQ(X:Cx)(pins:List (Addr×Obj))(σ:St)(tg:Expr)(R:It->Hp->Prop)(itv:Value)(s2:Shared):Prop :=
 ∃(it:Addr) (fp:List Addr) (tn:Nat->Heap->Prop) (J:It) (H':Hp),itv=.ref it/\Inv X pins σ H' s2/\Turn X.prog X.w X.K tg J fp it tn/\tn 0 s2.heap/\(∀b∈fp,nG X pins H' b)/\R J H'
noncomputable def PI(X:Cx)(tg iter:Expr)(wi:TI):Prop :=
 ∀(pins:List (Addr×Obj)) (s:Shared) (σ:St) (H:Hp) (R:It->Hp->Prop),Inv X pins σ H s->wi σ H R ->
  wpAny (model X.prog X.w) X.A (eval iter X.env) (λv s1=>wpAny (model X.prog X.w) X.A (pyIter v) (TQ X pins σ tg R) X.xe s1) X.xe s
theorem AM{n:String}(ho:s.heap.get? it=some o)(hc:o.cls=.type n)(hd:o.data=.fields vs)
  (hn:["enumerate","zip","dict_itemiterator","dict_reverseitemiterator","odict_iterator","itertools.zip_longest","itertools.pairwise"].contains n=false) (hQ:Q () s):wpAny M A (letOwnedTupleGo tg (.ref it) u) Q E s:=by
 unfold letOwnedTupleGo;cases tg<;>first
  | exact wpAny_pure hQ
  | (cases u<;>first
    | exact wpAny_pure hQ
    | (refine wpAny_bind (wpAny_load ho ?_)
       rw[hc,hd];show wpAny M A (if (["enumerate","zip","dict_itemiterator","dict_reverseitemiterator","odict_iterator","itertools.zip_longest","itertools.pairwise"].contains n&&vs[0]?==some (rawInt _))=true then _ else _) Q E s;rw[if_neg (by intro h;rw[hn,Bool.false_and] at h;cases h)];exact wpAny_pure hQ))
noncomputable def O8(K:PySem.W.Frag)(a:Addr):It :=
 ⟨λi H=>∃xs x,gz K H a xs/\xs[i]?=some x,λi H x H'=>H'=H/\∀xs,gz K H a xs->xs[i]?=some x,λi H=>∃xs,gz K H a xs/\xs.length<=i⟩
noncomputable def P6(K:PySem.W.Frag)(a:Addr):It :=
 ⟨λi H=>∃xs x,iS K H a xs/\xs[i]?=some x,λi H x H'=>H'=H/\∀xs,iS K H a xs->xs[i]?=some x,λi H=>∃xs,iS K H a xs/\xs.length<=i⟩
noncomputable def Mr(lo:Int)(n:Nat):It:=⟨λi _=>i<n,λi H x H'=>H'=H/\x=.int (lo+i),λi _=>n<=i⟩
theorem ze{P:Program}{w:World}{K:PySem.W.Frag}{tg:Expr}(a it:Addr):Turn P w K tg (O8 K a) [it] it (λi h=>h.IsListIter it a i) where
 mem:=by simp
 obj:=λi h st b hb=>by
  have e:b=it:=by simpa using hb
  subst e;obtain⟨o,e,c,d⟩:=st;exact⟨o,e,λv z=>by rw[d] at z;cases z⟩
 keep:=λi h h' st k=>st.at λo e=>k it (by simp) o e
 item:=by intro X hP hw hK hc i pins s σ H E I hf st hg;subst hP hw hK;obtain⟨xs,x,hq,hx⟩:=hg;obtain⟨its,rv,p,hz⟩:=I.list hq;obtain⟨u,hu,ru⟩:=rv.get hx;obtain⟨f0,f1,f2,f3,f4,f5⟩:=hf it (by simp);refine wpAny_pyNext_list_item st p.isList (x:=u) (by simpa using hu) λh' st' sb=>?_;have I1:Inv X pins σ H { s with heap:=h' }:=I.turned (t':=s.toks) (λb o hb e=>(sb.2 b hb).trans e) f0 f1 f3 f4 f5;obtain⟨o,e,c,d⟩:=id st';exact⟨u,rfl,AM (s:={ s with heap:=h' }) e c d (by decide) ⟨x,H,I1,ru,⟨rfl,λys hy=>by rw[I.tW hy hq];exact hx⟩,st',λb hb=>(hf b hb).1⟩⟩
 done:=by intro X hP hw hK hc i pins s σ H E I hf st hg;subst hP hw hK;obtain⟨xs,hq,hx⟩:=hg;obtain⟨its,rv,p,hz⟩:=I.list hq;obtain⟨f0,f1,f2,f3,f4,f5⟩:=hf it (by simp);have hl:=rv.length;exact wpAny_pyNext_list_end (I.ok.hd hc) st p.isList (by simp;omega) λh' eb=>⟨rfl,I.turned (t':=s.toks) (λb o hb e=>eb b o hb e) f0 f1 f3 f4 f5⟩
 self:=λ_ _ _ _ _ st h=>wpAny_pyIter_listiter st h
theorem vU{P:Program}{w:World}{K:PySem.W.Frag}{tg:Expr}(a it:Addr):Turn P w K tg (P6 K a) [it] it (λi h=>h.IsTupleIter it a i) where
 mem:=by simp
 obj:=λi h st b hb=>by
  have e:b=it:=by simpa using hb
  subst e;obtain⟨o,e,c,d⟩:=st;exact⟨o,e,λv z=>by rw[d] at z;cases z⟩
 keep:=λi h h' st k=>st.at λo e=>k it (by simp) o e
 item:=by intro X hP hw hK hc i pins s σ H E I hf st hg;subst hP hw hK;obtain⟨xs,x,hq,hx⟩:=hg;obtain⟨its,rv,p,hz⟩:=I.tuple hq;obtain⟨u,hu,ru⟩:=rv.get hx;obtain⟨f0,f1,f2,f3,f4,f5⟩:=hf it (by simp);refine wpAny_pyNext_tuple_item st (show s.heap.IsTuple a its.toArray from p) (x:=u) (by simpa using hu) λh' st' sb=>?_;have I1:Inv X pins σ H { s with heap:=h' }:=I.turned (t':=s.toks) (λb o hb e=>(sb.2 b hb).trans e) f0 f1 f3 f4 f5;obtain⟨o,e,c,d⟩:=id st';exact⟨u,rfl,AM (s:={ s with heap:=h' }) e c d (by decide) ⟨x,H,I1,ru,⟨rfl,λys hy=>by rw[I.zd hy hq];exact hx⟩,st',λb hb=>(hf b hb).1⟩⟩
 done:=by intro X hP hw hK hc i pins s σ H E I hf st hg;subst hP hw hK;obtain⟨xs,hq,hx⟩:=hg;obtain⟨its,rv,p,hz⟩:=I.tuple hq;obtain⟨f0,f1,f2,f3,f4,f5⟩:=hf it (by simp);have hl:=rv.length;exact wpAny_pyNext_tuple_end (I.ok.hd hc) st (show s.heap.IsTuple a its.toArray from p) (by simp;omega) λh' eb=>⟨rfl,I.turned (t':=s.toks) (λb o hb e=>eb b o hb e) f0 f1 f3 f4 f5⟩
 self:=λ_ _ _ _ _ st h=>wpAny_pyIter_tupleiter st h
theorem vV{P:Program}{w:World}{K:PySem.W.Frag}{tg:Expr}(it:Addr)(lo:Int)(n:Nat):Turn P w K tg (Mr lo n) [it] it (λi h=>IsRangeIter h it (lo+(i:Nat)*1) ((n:Int)-(i:Nat)) 1) where
 mem:=by simp
 obj:=λi h st b hb=>by
  have e:b=it:=by simpa using hb
  subst e;exact⟨_,st,λv z=>by
   have z':Data.fields _=Data.cell v:=z;cases z'⟩
 keep:=λi h h' st k=>k it (by simp) _ st
 item:=by intro X hP hw hK hc i pins s σ H E I hf st hg;subst hP hw hK;obtain⟨f0,f1,f2,f3,f4,f5⟩:=hf it (by simp);have W:=Walks.range (prog:=X.prog) (w:=X.w) (I.ok.hd hc) it lo 1 n;refine W.item i s _ _ hg st λv h' tk hv st' kk=>?_;obtain⟨t,rfl⟩:=hv;have I1:Inv X pins σ H { s with heap:=h',toks:=tk }:=I.turned (λb o hb e=>kk b o (by simpa using hb) e) f0 f1 f3 f4 f5;refine⟨_,rfl,AM (s:={ s with heap:=h',toks:=tk }) (n:="range_iterator") st' rfl rfl (by decide) ⟨.int (lo+i),H,I1,⟨t,?_⟩,⟨rfl,rfl⟩,st',λb hb=>(hf b hb).1⟩⟩;rw[Int.mul_one]
 done:=by intro X hP hw hK hc i pins s σ H E I hf st hg;subst hP hw hK;obtain⟨f0,f1,f2,f3,f4,f5⟩:=hf it (by simp);exact wpAny_pyNext_range_end (I.ok.hd hc) st (by have:n<=i:=hg;omega) λh' eb=>⟨rfl,I.turned (t':=s.toks) (λb o hb e=>eb b o hb e) f0 f1 f3 f4 f5⟩
 self:=λ_ _ _ _ _ st h=>wpAny_pyIter_rangeiter st h
end L2
namespace L2
open PySem PySem.Spec PyProof.Rows
section
variable {X:Cx} {tg:Expr}
noncomputable def Ms(K:PySem.W.Frag)(tl:TE):TI:=λσ H R=>tl σ H λx H1=>∃a,x=.ref a/\(∃xs,gz K H1 a xs)/\R (O8 K a) H1
noncomputable def P7(K:PySem.W.Frag)(tl:TE):TI:=λσ H R=>tl σ H λx H1=>∃a,x=.ref a/\(∃xs,iS K H1 a xs)/\R (P6 K a) H1
theorem DX(hl:PE X l tl):PI X tg l (Ms X.K tl):=by
 intro pins s σ H R I h;refine cu (hl pins s σ H _ I h) λv s1 aJ=>?_;obtain⟨x,H1,I1,r1,q1⟩:=aJ;obtain⟨a,e,⟨xs,hq⟩,q⟩:=q1;subst e;cases r1;obtain⟨its,rv,p,hz⟩:=I1.list hq;refine wpAny_pyIter_list p.isList ?_;refine⟨s1.heap.objs.size,[s1.heap.objs.size],_,_,H1,rfl,I1.kept (t':=s1.toks) λb o e=>get?_push_of_some _ e,ze a _,⟨_,get?_push_size _ rfl,rfl,rfl⟩,λb hb=>?_,q⟩;have e:b=s1.heap.objs.size:=by simpa using hb
 subst e;exact I1.DW (le_refl _) (I1.hok.fresh (le_refl _))
theorem ID(hl:PE X l tl):PI X tg l (P7 X.K tl):=by
 intro pins s σ H R I h;refine cu (hl pins s σ H _ I h) λv s1 aJ=>?_;obtain⟨x,H1,I1,r1,q1⟩:=aJ;obtain⟨a,e,⟨xs,hq⟩,q⟩:=q1;subst e;cases r1;obtain⟨its,rv,p,hz⟩:=I1.tuple hq;refine wpAny_pyIter_tuple (show s1.heap.IsTuple a its.toArray from p) ?_;refine⟨s1.heap.objs.size,[s1.heap.objs.size],_,_,H1,rfl,I1.kept (t':=s1.toks) λb o e=>get?_push_of_some _ e,vU a _,⟨_,get?_push_size _ rfl,rfl,rfl⟩,λb hb=>?_,q⟩;have e:b=s1.heap.objs.size:=by simpa using hb
 subst e;exact I1.DW (le_refl _) (I1.hok.fresh (le_refl _))
theorem tZ{lo hi:Int}{tk:Nat}(I:Inv X pins σ H s)(h1:-(2 ^ 62)<=lo)(h2:lo<2 ^ 62)(h3:-(2 ^ 62)<=hi)(h4:hi<2 ^ 62)
  (q:R (Mr lo (hi-lo).toNat) H):wpAny (model X.prog X.w) X.A (pyIter (.ref s.heap.objs.size)) (TQ X pins σ tg R) E { s with heap:=s.heap.push { cls:=.type "range",data:=.fields #[.int lo t,.int hi u,.int 1 v] },toks:=tk }:=by
 refine wpAny_pyIter_range (IsRange.new ..) (small_one h1 h2 h3 h4) ?_;have I1:Inv X pins σ H { s with heap:=s.heap.push { cls:=.type "range",data:=.fields #[.int lo t,.int hi u,.int 1 v] },toks:=tk }:=I.kept λb o e=>get?_push_of_some _ e;refine⟨(s.heap.push { cls:=.type "range",data:=.fields #[.int lo t,.int hi u,.int 1 v] }).objs.size,[(s.heap.push { cls:=.type "range",data:=.fields #[.int lo t,.int hi u,.int 1 v] }).objs.size],_,_,H,rfl,
  I1.kept (t':=tk) λb o e=>get?_push_of_some _ e,vV _ lo (hi-lo).toNat,?_,λb hb=>?_,q⟩
 ·have e1:lo+((0:Nat):Int)*1=lo:=by simp
  have e2:(((hi-lo).toNat:Nat):Int)-((0:Nat):Int)=Builtin.Range.rangeSize lo hi 1:=by rw[rangeSize_one];split<;>omega
  show IsRangeIter _ _ (lo+((0:Nat):Int)*1) ((((hi-lo).toNat:Nat):Int)-((0:Nat):Int)) 1;rw[e1,e2];exact get?_push_size _ rfl
 ·have e:b=(s.heap.push { cls:=.type "range",data:=.fields #[.int lo t,.int hi u,.int 1 v] }).objs.size:=by simpa using hb
  subst e;exact I1.DW (le_refl _) (I1.hok.fresh (le_refl _))
noncomputable def Mt(ta:TA):TI:=λσ H R=>ta σ H λvs H1=>∃j:Int,vs=[.int j] /\ -(2 ^ 62)<=j/\j<2 ^ 62/\R (Mr 0 j.toNat) H1
noncomputable def Mv(ta:TA):TI:=λσ H R=>ta σ H λvs H1=>∃i j:Int,vs=[.int i,.int j]/\(-(2 ^ 62)<=i/\i<2 ^ 62 /\ -(2 ^ 62)<=j/\j<2 ^ 62)/\R (Mr i (j-i).toNat) H1
theorem zf(hg:Gl X "range")(hm:X.mg "range" = none)(ha:PA X [a] ta)(hs:starEach [a] X.env=[(false,eval a X.env)]:=by rfl):PI X tg (.Call (.Name "range" p) [a] [] pos) (Mt ta):=by
 intro pins s σ H R I h;refine Call_ (gG I hg hm boot_range (PyProof.Rows.callWith_type1 (cu (ha pos pins s σ H _ I h) λus s1 aJ=>?_) hs rfl));obtain⟨vs,H1,I1,r1,q1⟩:=aJ;obtain⟨j,e,q1,q2,q⟩:=q1;subst e;cases r1 with
 | cons r rr =>cases rr;obtain⟨t,rfl⟩:=r;exact call_range_1 (tZ I1 (by omega) (by omega) q1 q2 (by simpa using q))
theorem zg(hg:Gl X "range")(hm:X.mg "range" = none)(ha:PA X [a,b] ta)(hs:starEach [a,b] X.env=[(false,eval a X.env),(false,eval b X.env)]:=by rfl)(hs2:starEach [b] X.env=[(false,eval b X.env)]:=by rfl) :
  PI X tg (.Call (.Name "range" p) [a,b] [] pos) (Mv ta):=by
 intro pins s σ H R I h;refine Call_ (gG I hg hm boot_range (PyProof.Rows.callWith_type1 (cu (ha pos pins s σ H _ I h) λus s1 ⟨vs,H1,I1,r1,q1⟩=>?_) (by rw[hs,hs2]) (by rw[hs2];rfl)));obtain⟨i,j,e,⟨q1,q2,q3,q4⟩,q⟩:=q1;subst e;cases r1 with
 | cons r rr =>
  cases rr with
  | cons r' rr =>cases rr;obtain⟨t,rfl⟩:=r;obtain⟨t',rfl⟩:=r';exact call_range_2 (tZ I1 q1 q2 q3 q4 q)
noncomputable def P8(wi:TI)(g:TG)(tb:TS):TS:=λD σ H=>wi σ H λJ H1=>∃W:Nat->Nat->St->Hp->Prop,(∃m,W 0 m σ H1)/\∀i m σ H,W i m σ H ->
 (J.stop i H/\D.nx σ H)\/(J.go i H/\∃N:St->Hp->Prop,(∀σ' H',N σ' H'->∃m',m'<m/\W (i+1) m' σ' H')/\∀x H',J.vS i H x H'->g x σ H' λσ2 H2=>tb { D with nx:=N,ct:=N,bk:=D.nx } σ2 H2)
noncomputable def om(fp:List Addr)(h:Heap):List (Addr×Obj):=fp.filterMap λb=>(h.get? b).map λo=>(b,o)
theorem iF(hb:b∈fp)(e:h.get? b=some o):(b,o)∈om fp h:=List.mem_filterMap.mpr ⟨b,hb,by rw[e];rfl⟩
theorem zh(hp:p∈om fp h):p.1∈fp/\h.get? p.1=some p.2:=by
 obtain⟨b,hb,e⟩:=List.mem_filterMap.mp hp;cases q:h.get? b with
 | none=>rw[q] at e;cases e
 | some o =>rw[q] at e;have e':(b,o)=p:=Option.some.inj e;subst e';exact⟨hb,q⟩
theorem Inv.pinned(I:Inv X pins σ H s)(hf:∀b∈fp,nG X pins H b)(ho:∀b∈fp,∃o,s.heap.get? b=some o/\∀v,o.data≠.cell v):Inv X (pins++om fp s.heap) σ H s :=
 I.xH λp hp=>(mem_append.mp hp).elim (λz=>I.pin p (mem_append_right _ z)) λz=>by
  obtain⟨hb,e⟩:=zh z;obtain⟨f0,f1,f2,_⟩:=hf p.1 hb;obtain⟨o,e',d⟩:=ho p.1 hb;rw[e] at e';cases e';exact⟨e,f0,f1,f2,d⟩
theorem Inv.kO(I:Inv X (pins++pl) σ H s):Inv X pins σ H s:=I.xH λp hp=>I.pin p (mem_append_right _ (mem_append_left _ hp))
theorem IF(hp:PassesOwn (model X.prog X.w) X.A X.env X.xe)(hc:X.calm=true)(hi:PI X tg iter wi)(hg:PG X tg g)(hb:vR X body tb)
  (hs:∀x,foldedSetIterable iter X.env x=pure x:=by intro _;rfl):PS X (.For tg iter body [] pos) (P8 wi g tb):=by
 intro pins s σ H D I h;refine wpAny_For (cu (hi pins s σ H _ I h) λv s1 h1=>cu h1 λitv s2 h2=>?_) hs;obtain⟨it,fp,tn,J,H2,e,I2,T,st2,f2,W,⟨m0,w0⟩,turn⟩:=h2;subst e;have stat:∀{H':Hp},(∀b∈fp,H' b=none)->∀b∈fp,nG X pins H' b:=λhn b hb=>⟨hn b hb,(f2 b hb).2⟩;refine codeAny_forLoop_any (λn s'=>∃i σ' H',Inv X pins σ' H' s'/\tn i s'.heap/\(∀b∈fp,H' b=none)/\W i n σ' H') ?_ m0 ⟨0,σ,H2,I2,st2,λb hb=>(f2 b hb).1,w0⟩;rintro n s3 ⟨i,σ3,H3,I3,st3,TR,w3⟩
 rcases turn i n σ3 H3 w3 with ⟨stop,qn⟩|⟨go,N,hN,step⟩
 ·refine wpAny_passesOwn hp (cu (T.done X rfl rfl rfl hc i pins s3 σ3 H3 X.xe I3 (stat TR) st3 stop) λr s4 aJ=>?_);obtain⟨hr,I4⟩:=aJ;subst hr;exact wpAny_execs_nil ⟨σ3,H3,I4,qn⟩
 ·refine wpAny_passesOwn hp (cu (T.item X rfl rfl rfl hc i pins s3 σ3 H3 X.xe I3 (stat TR) st3 go) λr s4 aJ=>?_)
  obtain⟨u,hr,h4⟩:=aJ;subst hr;refine wpAny_passesOwn hp (cu h4 λ_ s5 aJ=>?_);obtain⟨x,H5,I5,r5,y5,DE,O9⟩:=aJ;have Vl:=I5.pinned (stat O9) (T.obj _ _ DE);refine wpAny_passesOwn hp (cu (hg _ s5 σ3 H5 x u _ Vl r5 (step x H5 y5)) λ_ s6 aJ=>?_);obtain⟨σ6,H6,I6,q6⟩:=aJ;refine wpAny_passesOwn hp (cu (hb _ s6 σ6 H6 _ I6 q6) λf s7 q7=>?_);have again:∀{σ7:St} {H7:Hp},Inv X (pins++om fp s5.heap) σ7 H7 s7->N σ7 H7->∃m,m<n/\∃i σ' H',Inv X pins σ' H' s7/\tn i s7.heap/\(∀b∈fp,H' b=none)/\W i m σ' H':=λ{σ7 H7} I7 n7=>by
   obtain⟨m',hm,w7⟩:=hN σ7 H7 n7;refine⟨m',hm,i+1,σ7,H7,I7.kO,T.keep _ _ _ DE λb hb o e=>(I7.pin (b,o) (mem_append_right _ (mem_append_right _ (iF hb e)))).1,λb hb=>?_,w7⟩;obtain⟨o,e,d⟩:=T.obj _ _ DE b hb;exact(I7.pin (b,o) (mem_append_right _ (mem_append_right _ (iF hb e)))).2.1
  cases f with
  | next=>obtain⟨σ7,H7,I7,n7⟩:=q7;exact again I7 n7
  | cont=>obtain⟨σ7,H7,I7,n7⟩:=q7;exact again I7 n7
  | brk=>obtain⟨σ7,H7,I7,q7⟩:=q7;exact⟨σ7,H7,I7.kO,q7⟩
  | ret v=>obtain⟨x7,σ7,H7,I7,r7,q7⟩:=q7;exact⟨x7,σ7,H7,I7.kO,r7,q7⟩
end
end L2
namespace L2
open PySem PySem.Spec PyProof.Rows
noncomputable abbrev R2:=V->V->Hp->VK->Prop
noncomputable def kN(X:Cx)(f:Value->Value->Sem Value)(r:R2):Prop :=
 ∀(pins:List (Addr×Obj)) (s:Shared) (σ:St) (H:Hp) (x y:V) (v u:Value) (Q:VK),Inv X pins σ H s->RelV x v->RelV y u->r x y H Q ->
  wpAny (model X.prog X.w) X.A (f v u) (EP X pins σ Q) X.xe s
noncomputable def Pa(X:Cx)(f:Value->Sem Value)(r:V->Hp->VK->Prop):Prop :=
 ∀(pins:List (Addr×Obj)) (s:Shared) (σ:St) (H:Hp) (x:V) (v:Value) (Q:VK),Inv X pins σ H s->RelV x v->r x H Q ->
  wpAny (model X.prog X.w) X.A (f v) (EP X pins σ Q) X.xe s
noncomputable def cH(X:Cx)(f:Value)(r:List V->Hp->VK->Prop):Prop :=
 ∀(pins:List (Addr×Obj)) (s:Shared) (σ:St) (H:Hp) (xs:List V) (us:List Value) (Q:VK),Inv X pins σ H s->Vals xs us->r xs H Q ->
  wpAny (model X.prog X.w) X.A (call f us) (EP X pins σ Q) X.xe s
noncomputable def P9(X:Cx)(r:V->Hp->(Bool->Hp->Prop)->Prop):Prop :=
 ∀(pins:List (Addr×Obj)) (s:Shared) (σ:St) (H:Hp) (x:V) (v:Value) (Q:Bool->Hp->Prop),Inv X pins σ H s->RelV x v->r x H Q ->
  wpAny (model X.prog X.w) X.A (truthy v) (TP X pins σ Q) X.xe s
noncomputable def Pb(r:R2)(ta tb:TE):TE:=λσ H Q=>ta σ H λx H1=>tb σ H1 λy H2=>r x y H2 Q
noncomputable def Vm(r:V->Hp->VK->Prop)(ta:TE):TE:=λσ H Q=>ta σ H λx H1=>r x H1 Q
noncomputable def rI(C:Int->Int->Prop)(g:Int->Int->V):R2:=λx y H Q=>∃i j,x=.int i/\y=.int j/\C i j/\Q (g i j) H
noncomputable def GH(g:Int->Int->V):R2:=λx y H Q=>∃i j,x=.int i/\y=.int j/\Q (g i j) H
noncomputable def rU(g:Int->V):V->Hp->VK->Prop:=λx H Q=>∃i,x=.int i/\Q (g i) H
section
variable {X:Cx} {a b c:Expr} {ta tb tc:TE} {pos:Pos}
theorem IG(ha:PE X a ta)(hb:PE X b tb){pins:List (Addr×Obj)}{s:Shared}{σ:St}{H:Hp}{R:V->V->Hp->Prop}(I:Inv X pins σ H s)
  (h:ta σ H λx H1=>tb σ H1 λy H2=>R x y H2) {Q:Value->Shared->Prop} {f:Value->Value->Sem Value}
  (hf:∀v u s2 x y H2,Inv X pins σ H2 s2->RelV x v->RelV y u->R x y H2->wpAny (model X.prog X.w) X.A (f v u) Q X.xe s2) :
  wpAny (model X.prog X.w) X.A (eval a X.env) (λv s₁=>wpAny (model X.prog X.w) X.A (eval b X.env) (λu s₂=>wpAny (model X.prog X.w) X.A (f v u) Q X.xe s₂) X.xe s₁) X.xe s:=by
 refine cu (ha pins s σ H _ I h) λv s1 aJ=>?_;obtain⟨x,H1,I1,r1,q1⟩:=aJ;refine cu (hb pins s1 σ H1 _ I1 q1) λu s2 aJ=>?_;obtain⟨y,H2,I2,r2,q2⟩:=aJ;exact hf v u s2 x y H2 I2 r1 r2 q2
theorem Mw(ho:kN X (binaryOp op) r)(ha:PE X a ta)(hb:PE X b tb):PE X (.BinOp a op b pos) (Pb r ta tb):=by
 intro pins s σ H Q I h;exact wpAny_BinOp (IG ha hb I h λv u s2 x y H2 I2 rx ry q=>ho pins s2 σ H2 x y v u Q I2 rx ry q)
theorem Mx(ho:Pa X (unaryOp op) r)(ha:PE X a ta):PE X (.UnaryOp op a pos) (Vm r ta):=by
 intro pins s σ H Q I h;exact UnaryOp_ (cu (ha pins s σ H _ I h) λv s1 ⟨x,H1,I1,r1,q1⟩=>ho pins s1 σ H1 x v Q I1 r1 q1)
theorem Pc{f:Value->Value->Sem Value}{C:Int->Int->Prop}{g:Int->Int->Int}
  (rule:∀(i j:Int) (t u:Tok) (s:Shared) (Q:Value->Shared->Prop) (E:Value->Shared->Prop),C i j->Q (.int (g i j) s.toks) { s with toks:=s.toks+1 }->wpAny (model X.prog X.w) X.A (f (.int i t) (.int j u)) Q E s) :
  kN X f (rI C λi j=>.int (g i j)):=by
 intro pins s σ H x y v u Q I rx ry h;obtain⟨i,j,rfl,rfl,hc,q⟩:=h;obtain⟨t,rfl⟩:=rx;obtain⟨t',rfl⟩:=ry;exact rule i j t t' s _ _ hc ⟨.int (g i j),H,I.tok _,⟨_,rfl⟩,q⟩
theorem My{f:Value->Value->Sem Value}{g:Int->Int->Int}
  (rule:∀(i j:Int) (t u:Tok) (s:Shared) (Q:Value->Shared->Prop) (E:Value->Shared->Prop),Q (.int (g i j) s.toks) { s with toks:=s.toks+1 }->wpAny (model X.prog X.w) X.A (f (.int i t) (.int j u)) Q E s) :
  kN X f (GH λi j=>.int (g i j)):=by
 intro pins s σ H x y v u Q I rx ry h;obtain⟨i,j,rfl,rfl,q⟩:=h;obtain⟨t,rfl⟩:=rx;obtain⟨t',rfl⟩:=ry;exact rule i j t t' s _ _ ⟨.int (g i j),H,I.tok _,⟨_,rfl⟩,q⟩
theorem DY{f:Value->Value->Sem Value}{g:Int->Int->Bool}
  (rule:∀(i j:Int) (t u:Tok) (s:Shared) (Q:Value->Shared->Prop) (E:Value->Shared->Prop),Q (.bool (g i j)) s->wpAny (model X.prog X.w) X.A (f (.int i t) (.int j u)) Q E s) :
  kN X f (GH λi j=>.bl (g i j)):=by
 intro pins s σ H x y v u Q I rx ry h;obtain⟨i,j,rfl,rfl,q⟩:=h;obtain⟨t,rfl⟩:=rx;obtain⟨t',rfl⟩:=ry;exact rule i j t t' s _ _ ⟨.bl (g i j),H,I,rfl,q⟩
noncomputable def Qa(i j:Int):Prop:=0<=j/\j<=1000000/\i.natAbs<2 ^ 64
noncomputable def II(i j:Int):Prop:=(-(2 ^ 64)<i/\i<2 ^ 64)\/(-(2 ^ 64)<j/\j<2 ^ 64)
theorem II.ok{i j:Int}(h:II i j):IntMulOk i j:=by
 rcases h with ⟨h1,h2⟩|⟨h1,h2⟩
 ·exact .of_left (intBits_le_64 h1 h2)
 ·exact .of_right (intBits_le_64 h1 h2)
theorem IJ:kN X (binaryOp .Add) (GH λi j=>.int (i+j)):=My λ_ _ _ _ _ _ _ q=>add_int q
theorem IK:kN X (binaryOp .Sub) (GH λi j=>.int (i-j)):=My λ_ _ _ _ _ _ _ q=>sub_int q
theorem IL:kN X (binaryOp .Mult) (rI II λi j=>.int (i*j)):=Pc λ_ _ _ _ _ _ _ hc q=>mul_int q hc.ok
theorem IM:kN X (binaryOp .Mod) (rI (λ_ j=>0<j) λi j=>.int (i%j)):=Pc λi j _ _ _ _ _ hc q=>by
 have h1:(0:Int)<j:=hc;exact mod_int' (by omega) (by rw[Int.fmod_eq_emod_of_nonneg i (by omega)];exact q)
theorem IP:kN X (binaryOp .Pow) (rI Qa λi j=>.int (i ^ j.toNat)):=Pc λ_ _ _ _ _ _ _ hc q=>pow_int_small hc.1 hc.2.1 hc.2.2 q
theorem Vn{f:Value->Sem Value}{g:Int->Int}
  (rule:∀(i:Int) (t:Tok) (s:Shared) (Q:Value->Shared->Prop) (E:Value->Shared->Prop),Q (.int (g i) s.toks) { s with toks:=s.toks+1 }->wpAny (model X.prog X.w) X.A (f (.int i t)) Q E s) :
  Pa X f (rU λi=>.int (g i)):=by
 intro pins s σ H x v Q I rx h;obtain⟨i,rfl,q⟩:=h;obtain⟨t,rfl⟩:=rx;exact rule i t s _ _ ⟨.int (g i),H,I.tok _,⟨_,rfl⟩,q⟩
theorem AN:Pa X (unaryOp .USub) (rU λi=>.int (-i)):=Vn λ_ _ _ _ _ q=>neg_int q
end
section
variable {X:Cx} {a b c:Expr} {ta tb tc:TE} {pos:Pos}
theorem lP{k k':Bool}(I:Inv X pins σ H s)(q:Q (.bl k) H)(e:k=k'):EP X pins σ Q (.bool k') s:=by
 subst e;exact⟨.bl k,H,I,rfl,q⟩
theorem Mz:kN X (compareOp .Lt) (GH λi j=>.bl (decide (i<j))):=DY λ_ _ _ _ _ _ _ q=>lt_int q
theorem MA:kN X (compareOp .LtE) (GH λi j=>.bl (decide (i<=j))):=DY λ_ _ _ _ _ _ _ q=>le_int q
theorem MB:kN X (compareOp .Gt) (GH λi j=>.bl (decide (j<i))):=DY λ_ _ _ _ _ _ _ q=>gt_int q
theorem MC:kN X (compareOp .GtE) (GH λi j=>.bl (decide (j<=i))):=DY λ_ _ _ _ _ _ _ q=>ge_int q
theorem zj:kN X (compareOp .In) (λx y H Q=>∃i j,x=.str i/\y=.str j/\Q (.bl (!(Builtin.Str.occurrences j i 0 j.length 1).isEmpty)) H):=by
 intro pins s σ H x y v u Q I rx ry h;obtain⟨i,j,rfl,rfl,q⟩:=h;obtain⟨t,rfl⟩:=rx;obtain⟨t',rfl⟩:=ry;exact in_str (lP I q rfl)
theorem IQ:kN X (compareOp .Is) (λx y H Q=>y=.non/\Q (.bl (decide (x=.non))) H):=by
 intro pins s σ H x y v u Q I rx ry h;obtain⟨rfl,q⟩:=h;cases ry;refine is_none_gen (lP I q ?_);cases x<;>first
  | (cases rx;rfl)
  | (obtain⟨t,rfl⟩:=rx;rfl)
theorem DZ:kN X (compareOp .IsNot) (λx y H Q=>y=.non/\Q (.bl (!decide (x=.non))) H):=by
 intro pins s σ H x y v u Q I rx ry h;obtain⟨rfl,q⟩:=h;cases ry;refine isnot_none_gen (lP I q ?_);cases x<;>first
  | (cases rx;rfl)
  | (obtain⟨t,rfl⟩:=rx;rfl)
theorem r8:kN X (compareOp .NotIn) (λx y H Q=>∃i j,x=.str i/\y=.str j/\Q (.bl (!(!(Builtin.Str.occurrences j i 0 j.length 1).isEmpty))) H):=by
 intro pins s σ H x y v u Q I rx ry h;obtain⟨i,j,rfl,rfl,q⟩:=h;obtain⟨t,rfl⟩:=rx;obtain⟨t',rfl⟩:=ry;exact notIn_str (lP I q rfl)
theorem Qc(b:Expr)(h:op≠.In:=by decide)(h2:op≠.NotIn:=by decide):behindInMarks op b=false:=by
 have e1:(op==CmpOp.In)=false:=by cases op<;>first|rfl|exact absurd rfl h
 have e2:(op==CmpOp.NotIn)=false:=by cases op<;>first|rfl|exact absurd rfl h2
 cases b<;>simp[behindInMarks,e1,e2]
theorem D3(ho:kN X (compareOp op) r)(ha:PE X a ta)(hb:PE X b tb)(hm:behindInMarks op b=false):PE X (.Compare a [op] [b] pos) (Pb r ta tb):=by
 intro pins s σ H Q I h;exact wpAny_Compare1 (IG ha hb I h λv u s2 x y H2 I2 rx ry q=>ho pins s2 σ H2 x y v u Q I2 rx ry q) hm
noncomputable def MD(t:TE):TT:=λσ H Q=>t σ H λx H'=>∃k,x=.bl k/\Q k H'
theorem D4(ho:kN X (compareOp op) r)(ha:PE X a ta)(hb:PE X b tb)(hm:behindInMarks op b=false):PT X (.Compare a [op] [b] pos) (MD (Pb r ta tb)):=by
 intro pins s σ H Q I h;refine wpAny_isTrue_Compare1 (cu (ha pins s σ H _ I h) λv s1 ⟨x,H1,I1,r1,q1⟩=>cu (hb pins s1 σ H1 _ I1 q1) λu s2 ⟨y,H2,I2,r2,q2⟩ =>
  cu (ho pins s2 σ H2 x y v u _ I2 r1 r2 q2) λc s3 ⟨z,H3,I3,r3,k,e,q3⟩=>?_) hm
 subst e;cases r3;exact wpAny_truthy_bool ⟨H3,I3,q3⟩
noncomputable def IT(K:PySem.W.Frag)(x:V)(H:Hp)(k:Bool):Prop :=
 match x with
 | .non=>k=false
 | .bl b=>k=b
 | .int i=>k=(i != 0)
 | .str y=>y.length<=sizeLine/\k=((y.length:Int) != 0)
 | .byt y=>y.size<=sizeLine/\k=((y.size:Int) != 0)
 | .ref p=>(∃xs,gz K H p xs/\k = !xs.isEmpty)\/(∃xs,iS K H p xs/\k = !xs.isEmpty)\/∃kvs,H p=some (.dK kvs)/\k = !kvs.isEmpty
 | _=>False
theorem vW{κ:Type}{kvs:List (κ × V)}{vs:List (κ × Value)}(r:KV kvs vs):(!vs.isEmpty) = !kvs.isEmpty:=by
 cases r<;>rfl
theorem oq(r:Vals xs its):(!its.toArray.isEmpty) = !xs.isEmpty:=by
 cases r<;>simp
theorem lQ:(sizeLine:Nat)<2 ^ 63:=by rw[sizeLine_eq];decide
theorem IU:P9 X (λx H Q=>∃k,IT X.K x H k/\Q k H):=by
 intro pins s σ H x v Q I rx h;obtain⟨k,e,q⟩:=h;have hl:=lQ;have hs:sizeLine=16777216:=sizeLine_eq;cases x with
 | non =>cases rx;have e':k=false:=e;subst e';exact truthy_none ⟨H,I,q⟩
 | bl b =>cases rx;have e':k=b:=e;subst e';exact wpAny_truthy_bool ⟨H,I,q⟩
 | int i =>obtain⟨t,rfl⟩:=rx;have e':k=(i != 0):=e;subst e';exact PySem.P.truthy_int ⟨H,I,q⟩
 | str y =>obtain⟨t,rfl⟩:=rx;obtain⟨hy,e'⟩:y.length<=sizeLine/\k=((y.length:Int) != 0):=e;subst e';exact PySem.P.truthy_str (by omega) ⟨H,I.tok _,q⟩
 | byt y =>obtain⟨t,rfl⟩:=rx;obtain⟨hy,e'⟩:y.size<=sizeLine/\k=((y.size:Int) != 0):=e;subst e';exact PySem.W.truthy_bytes (by omega) ⟨H,I.tok _,q⟩
 | ref p =>
  cases rx;have e':(∃xs,gz X.K H p xs/\k = !xs.isEmpty)\/(∃xs,iS X.K H p xs/\k = !xs.isEmpty)\/∃kvs,H p=some (.dK kvs)/\k = !kvs.isEmpty:=e
  rcases e' with ⟨xs,hx,e'⟩|⟨xs,hx,e'⟩|⟨kvs,hx,e'⟩
  ·subst e';obtain⟨its,r,pl,hz⟩:=I.list hx;have hlen:=r.length;exact wpAny_truthy_list pl.isList (by simp only[size_toArray];omega) ⟨H,I.tok _,by rw[oq r];exact q⟩
  ·subst e';obtain⟨its,r,pl,hz⟩:=I.tuple hx;have hlen:=r.length;exact truthy_tuple pl (by simp only[size_toArray];omega) ⟨H,I.tok _,by rw[oq r];exact q⟩
  ·subst e';obtain⟨hz,hS,vs,r,m⟩:kvs.length<=sizeLine/\(p==sysModules)=false/\∃vs,KV kvs vs/\s.heap.DictOf (aU X.prog X.w) p vs:=I.hok p _ hx;have hlen:kvs.length=vs.length:=Paired.length r;exact wpAny_truthy_dict hS m (by omega) ⟨H,I.tok _,by rw[vW r];exact q⟩
 | _=>exact(show False from e).elim
theorem AO(ha:PE X a ta)(he:∀whole,isTrue a X.env whole=(do let v <-whole;standAt a.pos;holding [v] (truthy v))) :
  PT X a (λσ H Q=>ta σ H λx H'=>∃k,IT X.K x H' k/\Q k H'):=by
 intro pins s σ H Q I h;exact isTrue_plain (cu (ha pins s σ H _ I h) λv s1 ⟨x,H1,I1,r1,q1⟩=>IU pins s1 σ H1 x v Q I1 r1 q1) (he _)
theorem vX:kN X (binaryOp .Add) (λx y H Q=>∃i j,x=.str i/\y=.str j/\i.length+j.length<=sizeLine/\Q (.str (i++j)) H):=by
 intro pins s σ H x y v u Q I rx ry h;obtain⟨i,j,rfl,rfl,hz,q⟩:=h;obtain⟨t,rfl⟩:=rx;obtain⟨t',rfl⟩:=ry;exact add_str (λt' tk=>⟨.str (i++j),H,I.tok _,⟨_,rfl⟩,q⟩) hz
theorem vals1(r:Vals [x] us):∃u,us=[u]/\RelV x u:=by
 cases r with
 | cons r1 r2=>cases r2;exact⟨_,rfl,r1⟩
theorem vals2(r:Vals [x,y] us):∃u w',us=[u,w']/\RelV x u/\RelV y w':=by
 cases r with
 | cons r1 r2 =>
  cases r2 with
  | cons r3 r4=>cases r4;exact⟨_,_,rfl,r1,r3⟩
theorem zk(hc:X.calm=true):cH X (.builtin "max") (λxs H Q=>∃i j,xs=[.int i,.int j]/\Q (.int (if j>i then j else i)) H):=by
 intro pins s σ H xs us Q I r h;obtain⟨i,j,rfl,q⟩:=h;obtain⟨u,w',rfl,⟨t,rfl⟩,⟨t',rfl⟩⟩:=vals2 r;refine max_two_ints (I.ok.hd hc) λh' tk k=>⟨_,H,I.kept k,?_,q⟩
 by_cases hj:j>i
 ·rw[if_pos hj,if_pos hj];exact⟨_,rfl⟩
 ·rw[if_neg hj,if_neg hj];exact⟨_,rfl⟩
theorem zl(hc:X.calm=true):cH X (.builtin "min") (λxs H Q=>∃i j,xs=[.int i,.int j]/\Q (.int (if j<i then j else i)) H):=by
 intro pins s σ H xs us Q I r h;obtain⟨i,j,rfl,q⟩:=h;obtain⟨u,w',rfl,⟨t,rfl⟩,⟨t',rfl⟩⟩:=vals2 r;refine min_two_ints (I.ok.hd hc) λh' tk k=>⟨_,H,I.kept k,?_,q⟩
 by_cases hj:j<i
 ·rw[if_pos hj,if_pos hj];exact⟨_,rfl⟩
 ·rw[if_neg hj,if_neg hj];exact⟨_,rfl⟩
theorem qF:cH X (.type "int") (λxs H Q=>(∃i,xs=[.int i]/\Q (.int i) H)\/∃k,xs=[.bl k]/\Q (.int (if k then 1 else 0)) H):=by
 intro pins s σ H xs us Q I r h
 rcases h with ⟨i,rfl,q⟩|⟨k,rfl,q⟩
 ·obtain⟨u,rfl,t,rfl⟩:=vals1 r;exact call_int_int ⟨.int i,H,I,⟨_,rfl⟩,q⟩
 ·obtain⟨u,rfl,r1⟩:=vals1 r;cases r1;exact call_int_bool ⟨.int (if k then 1 else 0),H,I.tok _,⟨_,rfl⟩,q⟩
noncomputable def Qd(K:PySem.W.Frag)(x:V)(H:Hp)(n:Nat):Prop :=
 match x with
 | .str y=>y.length<=sizeLine/\n=y.length
 | .byt y=>y.size<=sizeLine/\n=y.size
 | .ref p=>(∃xs,gz K H p xs/\n=xs.length)\/∃xs,iS K H p xs/\n=xs.length
 | _=>False
theorem kP:cH X (.builtin "len") (λxs H Q=>∃x n,xs=[x]/\Qd X.K x H n/\Q (.int n) H):=by
 intro pins s σ H xs us Q I r h;obtain⟨x,n,rfl,e,q⟩:=h;obtain⟨u,rfl,rx⟩:=vals1 r;have hl:=lQ;have hs:sizeLine=16777216:=sizeLine_eq;cases x with
 | str y =>obtain⟨t,rfl⟩:=rx;obtain⟨hy,e'⟩:y.length<=sizeLine/\n=y.length:=e;subst e';exact len_str (by omega) ⟨.int _,H,I.tok _,⟨_,rfl⟩,q⟩
 | byt y =>obtain⟨t,rfl⟩:=rx;obtain⟨hy,e'⟩:y.size<=sizeLine/\n=y.size:=e;subst e';exact PySem.W.len_bytes (by omega) ⟨.int _,H,I.tok _,⟨_,rfl⟩,q⟩
 | ref p =>
  cases rx;have e':(∃xs,gz X.K H p xs/\n=xs.length)\/∃xs,iS X.K H p xs/\n=xs.length:=e
  rcases e' with ⟨xs,hx,e'⟩|⟨xs,hx,e'⟩
  ·subst e';obtain⟨its,r',pl,hz⟩:=I.list hx;have hlen:=r'.length;exact Calls.call_len_list pl.isList (by simp only[size_toArray];omega) ⟨.int xs.length,H,I.tok _,⟨_,by simp only[size_toArray];rw[hlen]⟩,q⟩
  ·subst e';obtain⟨its,r',pl,hz⟩:=I.tuple hx;have hlen:=r'.length;exact len_tuple pl (by simp only[size_toArray];omega) ⟨.int xs.length,H,I.tok _,⟨_,by simp only[size_toArray];rw[hlen]⟩,q⟩
 | _=>exact(show False from e).elim
end
end L2
namespace L2
open PySem PySem.Spec PyProof.Rows
structure vY (h:Heap) (x dx C:Addr) (mA:Str->Option Value):Prop where
 obj:h.get? x=some (instObj C dx)
 ns:h.Ns1 dx mA
 ne:dx≠x
theorem zm{h:Heap}{dx:Addr}{mA:Str->Option Value}(n:h.Ns1 dx mA):∃od,h.get? dx=some od/\∀name,lookIn name od=some (mA name):=by
 obtain⟨o,es,ep,ho,hd,hk,_,hm⟩:=n;refine⟨o,ho,λname=>?_⟩;have e:=hm name;unfold nsFind findBy at e;rw[<-Array.find?_toList] at e;unfold lookIn;rw[hd];dsimp only
 split
 ·rename_i y q;rw[q] at e;exact congrArg some e
 ·rename_i q
  rw[q] at e;have a:es.toList.any (·.refKey)=false:=by rw[List.any_eq_false];intro y hy;obtain⟨z,t,hkey⟩:=hk y (Array.mem_toList_iff.mp hy);simp[DictEntry.refKey,hkey]
  have a':¬ es.toList.any (·.refKey)=true:=by rw[a];exact Bool.false_ne_true
  rw[if_neg a'];exact congrArg some e
theorem vY.look(I:vY h x dx C mA):∃od,PySem.W.InstAt h x (instObj C dx) C (some od)/\∀name,lookIn name od=some (mA name) :=
 let ⟨od,ho,hl⟩:=zm I.ns
 ⟨od,⟨I.obj,rfl,rfl,ho⟩,hl⟩
section
variable {prog:Program} {w:World} {A:Around} {E:Value->Shared->Prop} {s:Shared} {K:PySem.W.Frag} {x dx C f:Addr} {mA:Str->Option Value} {name:Str} {v:Value}
theorem get_map{expr:Bool}(X:K.In s.heap)(I:vY s.heap x dx C mA)(hg:plainGet K C name=true)(hh:hasDictIn K C=true)
  (ha:findIn K (.ref C) name=some none) (hv:mA name=some v) (hv':handedIn v=true) (h:Q v { s with toks:=s.toks+1 }) :
  wpAny (model prog w) A (getAttr (.ref x) name expr) Q E s:=by
 obtain⟨od,J,hl⟩:=I.look;exact PySem.W.get_value X J (plainGet_of hg).1 (PySem.W.findObj_own hh ha rfl (by rw[hl,hv])) hv' h
theorem AQ(X:K.In s.heap)(I:vY s.heap x dx C mA)(hg:plainGet K C name=true)
  (hf:findIn K (.ref C) name=some (some (.ref f))) (ht:PySem.W.isFn K (.ref f)=true) (hv:mA name=none) (h:Q (.ref f,[.ref x]) s) :
  wpAny (model prog w) A (getMethod (.ref x) name pl) Q E s:=by
 obtain⟨od,J,hl⟩:=I.look;exact PySem.W.method_fn X J (plainGet_of hg).1 (plainGet_of hg).2 hf (beq_iff_eq.mp ht) (by show (lookIn name od).map (·.isSome)=some false;rw[hl,hv];rfl) h
theorem D5(X:K.In s.heap)(I:vY s.heap x dx C mA)
  (hs:findIn K (.ref C) "__setattr__" = some (some (.builtin "object.__setattr__"))) (hp:plainOver K C=true) (ht:takerIn K C name=some none) (hh:hasDictIn K C=true)
  (hw:PySem.Within mA ns) (hsz:ns.length<=sizeLine)
  (h:∀h',vY h' x dx C (λy=>if y=name then some v else mA y)->Heap.SameBut dx s.heap h'->Q () { s with heap:=h',toks:=s.toks+2 }) :
  wpAny (model prog w) A (setAttr (.ref x) name v) Q E s:=by
 obtain⟨od,J,hl⟩:=I.look;refine PySem.W.set_plain X J hs (PySem.W.osa_open (s:={ s with toks:=s.toks+1 }) (r:=none) X J hp ht λb=>?_);obtain⟨cd,hc,hd'⟩:=PySem.W.any_some hh;have hx:s.heap.get? x=some ⟨.ref C,some dx,.plain,#[]⟩:=I.obj;refine wpAny_bind (wpAny_pure (wpAny_bind (wpAny_bind (wpAny_loadPart hx (wpAny_bind (PySem.W.Looks.here (s:={ s with toks:=s.toks+1 }) (PySem.W.looks_clsIn X hc) ?_))))));rw[hd'];refine wpAny_pure (a:=some dx) (wpAny_bind (wpAny_pure (wpAny_bind ?_)));refine wpAny_nsSet1 (s:={ s with toks:=s.toks+1 }) I.ns λh' hn2 hs2=>?_;obtain⟨oD,esD,YV,Vo,Vp,Vq⟩:=hn2.count (PySem.Within.cons name v hw);refine wpAny_bind (wpAny_lookBehind Vo (by rw[Vp];exact pastItsLine_dict (le_trans Vq (by rw[length_cons];omega))) ?_);exact wpAny_pure (h _ ⟨(hs2.2 _ (Ne.symm I.ne)).trans I.obj,hn2,I.ne⟩ hs2)
theorem AR(X:K.In s.heap)(hm:makesIn K C=true)
  (hi:findIn K (.ref C) "__init__" = some (some (.ref f))) (hf:typeIn K (.ref f)=some (.type "function"))
  (h:codeAny (model prog w) (A.under (.builtin "type.__call__" ⟨.ref C::vs,kw⟩)) (.call (.ref f) ⟨.ref (s.heap.objs.size+1)::vs,kw⟩) (PySem.W.InitBack (s.heap.objs.size+1) R)
   { s with heap:=(s.heap.push emptyDict).push (instObj C s.heap.objs.size) }) :
  codeAny (model prog w) A (.call (.ref C) ⟨vs,kw⟩) R s:=by
 obtain⟨hh,g,d,t,os⟩:=s;exact PySem.W.make_core (PySem.W.makes_of X hm) (PySem.W.looks_findIn X hi) (λself=>PySem.W.bind_fn X self hf) (.inl rfl) h
end
noncomputable def iG(f:Str)(v:V):List (Str×V)->List (Str×V)
 | []=>[(f,v)]
 | (g,x)::r=>if g=f then (g,v)::r else (g,x)::iG f v r
theorem mX(f g:Str)(v:V):∀fs:List (Str×V),(iG f v fs).lookup g=if g=f then some v else fs.lookup g
 | []=>by
  show List.lookup g [(f,v)]=_
  by_cases h:g=f
  ·have hb:(g==f)=true:=beq_iff_eq.mpr h;simp only[List.lookup,hb,if_pos h]
  ·have hb:(g==f)=false:=beq_eq_false_iff_ne.mpr h;simp only[List.lookup,hb,if_neg h]
 | (k,x)::r=>by
  have ih:=mX f g v r;rw[show iG f v ((k,x)::r)=(if k=f then (k,v)::r else (k,x)::iG f v r) from rfl]
  by_cases hk:k=f
  ·rw[if_pos hk]
   by_cases h:g=k
   ·have hb:(g==k)=true:=beq_iff_eq.mpr h;simp only[List.lookup,hb,if_pos (h.trans hk)]
   ·have hb:(g==k)=false:=beq_eq_false_iff_ne.mpr h;simp only[List.lookup,hb,if_neg (λe:g=f=>h (e.trans hk.symm))]
  ·rw[if_neg hk]
   by_cases h:g=k
   ·have hb:(g==k)=true:=beq_iff_eq.mpr h;simp only[List.lookup,hb,if_neg (λe:g=f=>hk (h.symm.trans e))]
   ·have hb:(g==k)=false:=beq_eq_false_iff_ne.mpr h;simp only[List.lookup,hb];exact ih
theorem lR(f:Str)(v:V):∀fs:List (Str×V),f∈(iG f v fs).map (·.1)/\∀g,g∈fs.map (·.1)->g∈(iG f v fs).map (·.1)
 | []=>⟨by simp[iG],λg h=>by simp at h⟩
 | (k,x)::r=>by
  obtain⟨i1,i2⟩:=lR f v r;rw[show iG f v ((k,x)::r)=(if k=f then (k,v)::r else (k,x)::iG f v r) from rfl]
  by_cases hk:k=f
  ·rw[if_pos hk];subst hk;exact⟨by simp,λg h=>by simpa using h⟩
  ·rw[if_neg hk]
   refine⟨?_,λg h=>?_⟩
   ·rw[map_cons];exact mem_cons_of_mem _ i1
   ·rw[map_cons] at h |-
    rcases mem_cons.mp h with e|e
    ·exact mem_cons.mpr (.inl e)
    ·exact mem_cons_of_mem _ (i2 g e)
theorem mY(f:Str)(v:V):∀fs:List (Str×V),(iG f v fs).length<=fs.length+1
 | []=>by simp[iG]
 | (k,x)::r=>by
  have ih:=mY f v r;rw[show iG f v ((k,x)::r)=(if k=f then (k,v)::r else (k,x)::iG f v r) from rfl]
  by_cases hk:k=f
  ·rw[if_pos hk,length_cons,length_cons];omega
  ·rw[if_neg hk,length_cons,length_cons];omega
theorem iZ.some_of(r:iZ (some v) o):∃u,o=some u/\RelV v u:=by
 cases o with
 | none=>exact(show False from r).elim
 | some u=>exact⟨u,rfl,r⟩
theorem iZ.none_of(r:iZ none o):o=none:=by
 cases o with
 | none=>rfl
 | some u=>exact(show False from r).elim
theorem zo(r:RelV v u):handedIn u=true:=by
 cases v with
 | non=>cases (show u=Value.none from r);rfl
 | bl b=>cases (show u=Value.bool b from r);rfl
 | int i=>obtain⟨t,e⟩:=(show ∃t,u=Value.int i t from r);cases e;rfl
 | str x=>obtain⟨t,e⟩:=(show ∃t,u=Value.str x t from r);cases e;rfl
 | byt b=>obtain⟨t,e⟩:=(show ∃t,u=Value.bytes b t from r);cases e;rfl
 | flt b=>obtain⟨t,e⟩:=(show ∃t,u=Value.float b t from r);cases e;rfl
 | ref a=>cases (show u=Value.ref a from r);rfl
 | ty n=>cases (show u=Value.type n from r);rfl
section
variable {P:Program} {w:World} {H H':Hp} {h h':Heap} {a C dx:Addr} {fs fs':List (Str×V)}
theorem nN(hok:kr P w H h)(e:H a=some (.ins C dx fs)):∃mA,vY h a dx C mA/\(∀f,iZ (fs.lookup f) (mA f))/\PySem.Within mA (fs.map (·.1))/\fs.length<=1000/\H dx=some (.own a):=by
 obtain⟨d,z,ne,ob,mA,n,r,q⟩:=(show bx P w H h a (.ins C dx fs) from hok a _ e);exact⟨mA,⟨ob,n,ne⟩,r,q,z,d⟩
end
structure zp (K:PySem.W.Frag) (C:Addr):Prop where
 pg:plainGet K C Str.empty=true
 hd:hasDictIn K C=true
 po:plainOver K C=true
 sa:findIn K (.ref C) "__setattr__" = some (some (.builtin "object.__setattr__"))
theorem zp.get{K:PySem.W.Frag}{C:Addr}(c:zp K C)(f:Str):plainGet K C f=true:=c.pg
noncomputable def jf(K:PySem.W.Frag)(C:Addr)(f:Str):Prop:=findIn K (.ref C) f=some none
theorem jf.ME{K:PySem.W.Frag}{C:Addr}{f:Str}(n:jf K C f):takerIn K C f=some none:=by
 unfold takerIn;rw[show findIn K (.ref C) f=some none from n];rfl
structure Meth (K:PySem.W.Frag) (C:Addr) (m:Str) (f:Addr):Prop where
 at_:findIn K (.ref C) m=some (some (.ref f))
 fn:PySem.W.isFn K (.ref f)=true
 kp:keepIn K (.ref f)=true
section
variable {X:Cx} {pins:List (Addr×Obj)} {σ:St} {H:Hp} {s:Shared} {a C dx:Addr} {fs:List (Str×V)} {f:Str} {v:V} {A:Around} {E:Value->Shared->Prop}
theorem vZ{b:Bool}(I:Inv X pins σ H s)(e:H a=some (.ins C dx fs))(c:zp X.K C)(n:jf X.K C f)(l:fs.lookup f=some v)
  (h:∀u s',Inv X pins σ H s'->RelV v u->Q u s'):wpAny (model X.prog X.w) A (getAttr (.ref a) f b) Q E s:=by
 obtain⟨mA,O,r,_,_,_⟩:=nN I.hok e;obtain⟨u,hu,ru⟩:=iZ.some_of (v:=v) (o:=mA f) (by rw[<-l];exact r f);exact get_map I.iR O (c.get f) c.hd n hu (zo ru) (h u _ (I.tok _) ru)
theorem ou(I:Inv X pins σ H s)(e:H a=some (.ins C dx fs))(c:zp X.K C)(k:Meth X.K C m g)(l:fs.lookup m=none)
  (h:Q (.ref g,[.ref a]) s):wpAny (model X.prog X.w) A (getMethod (.ref a) m pl) Q E s:=by
 obtain⟨mA,O,r,_,_,_⟩:=nN I.hok e;have hn:mA m=none:=iZ.none_of (by rw[<-l];exact r m);exact AQ I.iR O (c.get m) k.at_ k.fn hn h
theorem v5(I:Inv X pins σ H s)(e:H a=some (.ins C dx fs))(c:zp X.K C)(n:jf X.K C f)(hl:fs.length<1000)(ry:RelV y u)
  (h:∀s',Inv X pins σ (upd H a (.ins C dx (iG f y fs))) s'->Q () s'):wpAny (model X.prog X.w) A (setAttr (.ref a) f u) Q E s:=by
 obtain⟨mA,O,r,wi,_,ho⟩:=nN I.hok e;have hz:(fs.map (·.1)).length<=sizeLine:=by rw[length_map,sizeLine_eq];omega
 refine D5 I.iR O c.sa c.po n.ME c.hd wi hz λh' O' sb=>h _ ?_;have hd:∃o,h'.get? dx=some o:=let ⟨o,_,_,e',_⟩:=O'.ns;⟨o,e'⟩
 refine I.write (x:=a) (e:=dx) (by rw[e];exact True.intro) (.inr ho) (λb q hb z=>(sb.2 b hb).trans z) hd ?_;refine⟨by rw[az O.ne];exact ho,?_,O.ne,O'.obj,_,O'.ns,λg=>?_,λg hg=>?_⟩
 ·have:=mY f y fs;omega
 ·show iZ ((iG f y fs).lookup g) (if g=f then some u else mA g)
  rw[mX]
  by_cases q:g=f
  ·rw[if_pos q,if_pos q];exact ry
  ·rw[if_neg q,if_neg q];exact r g
 ·by_cases q:g=f
  ·rw[q];exact(lR f y fs).1
  ·refine(lR f y fs).2 g (wi g λz=>hg ?_);show (if g=f then some u else mA g)=none;rw[if_neg q];exact z
theorem Inv.made(I:Inv X pins σ H s):Inv X pins σ (upd (upd H s.heap.objs.size (.own (s.heap.objs.size+1))) (s.heap.objs.size+1) (.ins C s.heap.objs.size []))
  { s with heap:=(s.heap.push emptyDict).push (instObj C s.heap.objs.size) }:=by
 have e1:(s.heap.push emptyDict).get? s.heap.objs.size=some emptyDict:=get?_push_size s.heap rfl;have e2:((s.heap.push emptyDict).push (instObj C s.heap.objs.size)).get? (s.heap.objs.size+1)=some (instObj C s.heap.objs.size):=by have:=get?_push_size (s.heap.push emptyDict) (o:=instObj C s.heap.objs.size) rfl;rwa [size_push] at this
 have e3:(s.heap.push emptyDict).Ns s.heap.objs.size (λ_=>none):=⟨emptyDict,#[],_,e1,rfl,(λe he=>absurd he (by simp)),λ_=>rfl⟩;have I1:=I.laid (a:=s.heap.objs.size) (o:=.own (s.heap.objs.size+1)) (h':=s.heap.push emptyDict) (t':=s.toks) (λb u q=>get?_push_of_some _ q) (le_refl _) ⟨_,e1⟩;refine I1.laid (a:=s.heap.objs.size+1) (o:=.ins C s.heap.objs.size []) (t':=s.toks) (λb u q=>get?_push_of_some _ q) (Nat.le_of_eq (size_push _ _)) ?_;have ne:s.heap.objs.size≠s.heap.objs.size+1:=ne_of_lt (lt_succ_self _);refine⟨by rw[az ne,aR],zero_le _,ne,e2,λ_=>none,(Heap.Ns1.of_empty e3).at λo q=>get?_push_of_some _ q,λ_=>True.intro,λy hy=>absurd rfl hy⟩
theorem attr_of(hb:attributeBase e f env (eval e env)=eval e env)
  (h:wpAny (model prog w) A (eval e env) (λo s₁=>wpAny (model prog w) A (getAttr o f true) Q E s₁) E s):wpAny (model prog w) A (eval (.Attribute e f pos) env) Q E s :=
 Attribute_any_ h (by rw[arm_eval_Attribute,hb])
end
noncomputable def tFld(K:PySem.W.Frag)(ta:TE)(f:Str):TE:=λσ H Q=>ta σ H λx H1=>∃a C dx fs v,x=.ref a/\H1 a=some (.ins C dx fs)/\zp K C/\jf K C f/\fs.lookup f=some v/\Q v H1
noncomputable def Qe(K:PySem.W.Frag)(ta tv:TE)(f:Str):TS:=λD σ H=>tv σ H λy H1=>ta σ H1 λx H2=>∃a C dx fs,x=.ref a/\H2 a=some (.ins C dx fs)/\zp K C/\jf K C f/\fs.length<1000 /\
 D.nx σ (upd H2 a (.ins C dx (iG f y fs)))
section
variable {X:Cx} {o e value:Expr} {f:Str} {pos pos' tpos:Pos} {ta tv:TE}
theorem pe_fld(he:PE X e ta)(hb:attributeBase e f X.env (eval e X.env)=eval e X.env):PE X (.Attribute e f pos) (tFld X.K ta f):=by
 intro pins s σ H Q I h;refine attr_of hb (cu (he pins s σ H _ I h) λu s1 aJ=>?_);obtain⟨x,H1,I1,rx,a,C,dx,fs,v,ex,ea,c,n,l,q⟩:=aJ;subst ex;obtain rfl:u=Value.ref a:=rx;exact vZ I1 ea c n l λu' s2 I2 ru=>⟨v,H1,I2,ru,q⟩
theorem IV(ha:PE X o ta)(hv:PE X value tv)(hs:swapsWith value (some (.Attribute o f pos')) pos.line X.env=pure false):PS X (.Assign [.Attribute o f pos'] value pos) (Qe X.K ta tv f):=by
 intro pins s σ H D I h;refine plainObj_wpAny_Assign_Attribute (cu (hv pins s σ H _ I h) λu s1 ⟨y,H1,I1,ry,q⟩=>cu (ha pins s1 σ H1 _ I1 q) λov s2 ⟨x,H2,I2,rx,a,C,dx,fs,ex,ea,c,n,l,q2⟩=>?_) hs;subst ex;obtain rfl:ov=Value.ref a:=rx;exact v5 I2 ea c n l ry λs3 I3=>⟨σ,_,I3,q2⟩
end
section
variable {X:Cx} {pins:List (Addr×Obj)} {σ:St} {H:Hp} {s:Shared} {A:Around} {E:Value->Shared->Prop} {Q:Value->Shared->Prop} {c:Value} {b:Bool}
inductive lT (K:PySem.W.Frag) (H:Hp):V->Value->Prop where
 | non:lT K H .non (.type "NoneType")
 | bl (x:Bool):lT K H (.bl x) (.type "bool")
 | int (i:Int):lT K H (.int i) (.type "int")
 | str (x:Str):lT K H (.str x) (.type "str")
 | flt (x:UInt64):lT K H (.flt x) (.type "float")
 | lst {a:Addr} {xs:List V} (e:H a=some (.lst xs)):lT K H (.ref a) (.type "list")
 | nL {a:Addr} {o:Obj} {xs:List V} (e:H a=some (.nL o (.lst xs))):lT K H (.ref a) (.type "list")
 | tup {a:Addr} {xs:List V} (e:H a=some (.tup xs)):lT K H (.ref a) (.type "tuple")
 | dK {a:Addr} {kvs:List (Key×V)} (e:H a=some (.dK kvs)):lT K H (.ref a) (.type "dict")
 | dT {a:Addr} {kvs:List (List Key×V)} (e:H a=some (.dT kvs)):lT K H (.ref a) (.type "dict")
 | ins {a C dx:Addr} {fs:List (Str×V)} (e:H a=some (.ins C dx fs)) (cl:zp K C) (ha:findIn K (.ref C) "__class__" = some (some (.builtin "object.__class__")))
   (hn:specialIn K (.builtin "object.__class__") "__get__" = some (some (.builtin "getset_descriptor.__get__"))) (htk:takesIn K (.builtin "object.__class__")=some true)
   (hm:PySem.W.mroIn K C (.type "object")=some true):lT K H (.ref a) (.ref C)
theorem zq(I:Inv X pins σ H s)(rx:RelV x u)(ty:lT X.K H x t)(e:kitOne X.K t c=some b)(h:∀tk,Q (.bool b) { s with toks:=tk }) :
  wpAny (model X.prog X.w) A (call (.builtin "isinstance") [u,c]) Q E s:=by
 cases ty with
 | non=>cases (show u=Value.none from rx);exact kia_one kitx_none I.iR True.intro e (λz=>nomatch z) h
 | bl y=>cases (show u=Value.bool y from rx);exact kia_one kitx_bool I.iR True.intro e (λz=>nomatch z) h
 | int i=>obtain⟨t,q⟩:=(show ∃t,u=Value.int i t from rx);cases q;exact kia_one kitx_int I.iR True.intro e (λz=>nomatch z) h
 | str y=>obtain⟨t,q⟩:=(show ∃t,u=Value.str y t from rx);cases q;exact kia_one kitx_str I.iR True.intro e (λz=>nomatch z) h
 | flt y=>obtain⟨t,q⟩:=(show ∃t,u=Value.float y t from rx);cases q;exact kia_one PySem.W.kitx_float I.iR True.intro e (λz=>nomatch z) h
 | @lst a xs ea =>cases (show u=Value.ref a from rx);obtain⟨_,_,n,_,h1⟩:=(show bx X.prog X.w H s.heap a (.lst xs) from I.hok a _ ea);exact kia_one kitx_list I.iR ⟨_,h1,rfl⟩ e (λz=>nomatch z) h
 | @nL a ob xs ea =>cases (show u=Value.ref a from rx);obtain⟨_,_,_,n,_,h1⟩:=(show bx X.prog X.w H s.heap a (.nL ob (.lst xs)) from I.hok a _ ea);exact kia_one kitx_list I.iR ⟨_,h1,rfl⟩ e (λz=>nomatch z) h
 | @tup a xs ea =>cases (show u=Value.ref a from rx);obtain⟨_,_,_,p⟩:=(show bx X.prog X.w H s.heap a (.tup xs) from I.hok a _ ea);obtain⟨o,h1,h2,_⟩:=p;exact kia_one kitx_tuple I.iR ⟨o,h1,h2⟩ e (λz=>nomatch z) h
 | @dK a kvs ea =>cases (show u=Value.ref a from rx);obtain⟨_,_,vs,_,p⟩:=(show bx X.prog X.w H s.heap a (.dK kvs) from I.hok a _ ea);obtain⟨o,es,ep,h1,h2,_⟩:=p;exact kia_one kitx_dict I.iR ⟨o,h1,h2.1⟩ e (λz=>nomatch z) h
 | @dT a kvs ea =>cases (show u=Value.ref a from rx);obtain⟨_,_,xs,_,o,es,ep,h1,h2,_⟩:=(show bx X.prog X.w H s.heap a (.dT kvs) from I.hok a _ ea);exact kia_one kitx_dict I.iR ⟨o,h1,h2.1⟩ e (λz=>nomatch z) h
 | @ins a C dx fs ea cl ha hn htk hm =>cases (show u=Value.ref a from rx);obtain⟨mA,O,_⟩:=nN I.hok ea;obtain⟨od,J,_⟩:=O.look;exact kia_one (PySem.W.kitx_own (cl.get _) cl.hd ha hn htk hm) I.iR J e (λz=>nomatch z) h
end
end L2
namespace L2
open PySem PySem.Spec PyProof.Rows
structure cW (k:Nat) (A:Around):Prop where
 hd:A.handled=none
 dp:A.depth+3*k+5<recursionLimit
 un:A.units+16*k+200<cLine
theorem cW.mono{j k:Nat}(r:cW k A)(h:j<=k):cW j A:=⟨r.hd,by have:=r.dp;omega,by have:=r.un;omega⟩
theorem cW.deeper{k:Nat}(r:cW (k+1) A)(env:Env):cW k (A.deeper env) :=
 ⟨r.hd,by have:=r.dp;show A.depth+1+3*k+5<_;omega,by have:=r.un;show A.units+3+16*k+200<_;omega⟩
theorem v7{A:Around}{C:Addr}{us:List Value}{kw:List (Str×Value)}:(A.under (.builtin "type.__call__" ⟨.ref C::us,kw⟩)).depth=A.depth+1:=by
 first|rfl|simp[Around.under,Code.weight,Code.isCreation,Code.isGuard,Code.isCaller,Code.frames,Code.isFrame,guardIds]
theorem v8{A:Around}{C:Addr}{us:List Value}{kw:List (Str×Value)}:(A.under (.builtin "type.__call__" ⟨.ref C::us,kw⟩)).units=A.units+1:=by
 first|rfl|simp[Around.under,Code.cUnits,Code.frames,Code.isFrame]
theorem cW.make{k:Nat}(r:cW (k+1) A)(C:Addr)(us:List Value)(kw:List (Str×Value)):cW k (A.under (.builtin "type.__call__" ⟨.ref C::us,kw⟩)) :=
 ⟨r.hd,by have:=r.dp;rw[v7];omega,by have:=r.un;rw[v8];omega⟩
theorem cW.depth{k:Nat}(r:cW k A):A.depth<recursionLimit:=by have:=r.dp;omega
theorem cW.units{k:Nat}(r:cW k A):A.units+64<cLine:=by have:=r.un;omega
noncomputable def IW:TA:=λ_ H Q=>Q [] H
noncomputable def MF(ta:TE)(tr:TA):TA:=λσ H Q=>ta σ H λx H1=>tr σ H1 λxs H2=>Q (x::xs) H2
section
variable {X:Cx} {e:Expr} {es:List Expr} {te:TE} {t:TA} {pos:Pos}
theorem v9:PA X [] IW:=λ_ _ _ _ H Q I h=>Calls.spliced_nil ⟨[],H,I,.nil,h⟩
theorem kQ(ha:PE X e te)(hr:PA X es t)(hs:starEach (e::es) X.env=(false,eval e X.env)::starEach es X.env:=by rfl):PA X (e::es) (MF te t):=by
 intro pos pins s σ H Q I h;rw[hs];show wpAny _ _ (spliced ((false,eval e X.env)::backTo pos (starEach es X.env))) _ _ s;refine Calls.spliced_cons (cu (ha pins s σ H _ I h) λu s1 aJ=>?_);obtain⟨x,H1,I1,r1,q1⟩:=aJ;exact cu (hr pos pins s1 σ H1 _ I1 q1) λus s2 ⟨xs,H2,I2,r2,q2⟩=>⟨x::xs,H2,I2,.cons r1 r2,q2⟩
noncomputable def Qf(t:TA):TE:=λσ H Q=>t σ H λxs H1=>xs.length<=sizeLine/\∀p,H1 p=none->Q (.ref p) (upd H1 p (.tup xs))
noncomputable def Qg(t:TA):TE:=λσ H Q=>t σ H λxs H1=>xs.length<=sizeLine/\∀p,H1 p=none->Q (.ref p) (upd H1 p (.lst xs))
theorem IX{x1}(h:PA X es t):PE X (.Tuple es x1 pos) (Qf t):=by
 intro pins s σ H Q I hq;refine wpAny_Tuple_spliced (cu (h pos pins s σ H _ I hq) λus s1 ⟨xs,H1,I1,r,z,q⟩=>⟨by rw[<-r.length];exact z,?_⟩);have hf:H1 s1.heap.objs.size=none:=I1.hok.fresh (le_refl _);refine⟨.ref s1.heap.objs.size,upd H1 s1.heap.objs.size (.tup xs),I1.laid (t':=s1.toks) (λb u e=>get?_push_of_some _ e) (le_refl _) ?_,rfl,q _ hf⟩;exact⟨z,us,r,⟨_,get?_push_size _ rfl,rfl,_,rfl⟩⟩
theorem IY(h:PA X es t):PE X (.List es pos) (Qg t):=by
 intro pins s σ H Q I hq;refine wpAny_List_spliced (cu (h pos pins s σ H _ I hq) λus s1 ⟨xs,H1,I1,r,z,q⟩=>⟨by rw[<-r.length];exact z,?_⟩);have hf:H1 s1.heap.objs.size=none:=I1.hok.fresh (le_refl _);refine⟨.ref s1.heap.objs.size,upd H1 s1.heap.objs.size (.lst xs),I1.laid (t':=s1.toks) (λb u e=>get?_push_of_some _ e) (le_refl _) ?_,rfl,q _ hf⟩;exact⟨z,us,0,r,get?_push_size _ rfl⟩
end
noncomputable abbrev Sp:=List V->Hp->VK->XK->Prop
noncomputable abbrev zu:=List Env->Hp->Shared->XK->Value->Shared->Prop
structure wc (P:Program) (w:World) (K:PySem.W.Frag) (mg:Str->Option Value) (base:Heap) (A:Around) (outer:List Env) (s:Shared) (H:Hp):Prop where
 frames:A.frames=some outer
 mod:Mod K mg base
 bs:∀b o,base.get? b=some o->s.heap.get? b=some o/\H b=none
 GF:base.objs.size<=s.heap.objs.size
 nF:s.heap.FunFrames base outer
 Ib:∀b∈frs outer,H b=none
 hok:kr P w H s.heap
 bare:AllBare s.gens
noncomputable def CE(outer:List Env)(P:Program)(w:World)(H:Hp)(s:Shared)(Q:VK)(u:Value)(s':Shared):Prop :=
 ∃v H',s'.os=s.os/\AllBare s'.gens/\Un (frs outer) [] H H' s.heap s'.heap/\kr P w H' s'.heap/\RelV v u/\Q v H'
noncomputable def CR(CX:zu)(outer:List Env)(P:Program)(w:World)(H:Hp)(s:Shared)(Q:VK)(E:XK)(r:Result)(s':Shared):Prop :=
 match r with
 | .ok (.ret u)=>CE outer P w H s Q u s'
 | .ok _=>False
 | .error e=>CX outer H s E e s'
structure eB (P:Program) (w:World) (K:PySem.W.Frag) (mg:Str->Option Value) (base:Heap) (CX:zu) (k:Nat) (f:Addr) (fd:FuncData) (ps:List Str) (sp:Sp):Prop where
 len:∀vs H Q E,sp vs H Q E->vs.length=ps.length
 run:∀(A:Around) (outer:List Env) (s:Shared) (H:Hp) (args:Args) (us:List Value) (vs:List V) (Q:VK) (E:XK),cW k A->wc P w K mg base A outer s H->BindsTo s fd args (ps.zip us)->Vals vs us->sp vs H Q E ->
  codeAny (model P w) A (.call (.ref f) args) (CR CX outer P w H s Q E) s
theorem eB.mono{P:Program}{w:World}{K:PySem.W.Frag}{mg:Str->Option Value}{base:Heap}{CX:zu}{j k:Nat}{f:Addr}{fd:FuncData}{ps:List Str}{sp:Sp}(F:eB P w K mg base CX j f fd ps sp)(h:j<=k) :
  eB P w K mg base CX k f fd ps sp:=⟨F.len,λA outer s H args us vs Q E hr=>F.run A outer s H args us vs Q E (hr.mono h)⟩
theorem eB.imp{P:Program}{w:World}{K:PySem.W.Frag}{mg:Str->Option Value}{base:Heap}{CX:zu}{k:Nat}{f:Addr}{fd:FuncData}{ps:List Str}{sp TU:Sp}(F:eB P w K mg base CX k f fd ps sp)
  (h:∀vs H Q E,TU vs H Q E->sp vs H Q E):eB P w K mg base CX k f fd ps TU :=
 ⟨λvs H Q E q=>F.len vs H Q E (h _ _ _ _ q),λA outer s H args us vs Q E hr he hb hv hs=>F.run A outer s H args us vs Q E hr he hb hv (h _ _ _ _ hs)⟩
theorem wc.make{P:Program}{w:World}{K:PySem.W.Frag}{mg:Str->Option Value}{base:Heap}{A:Around}{outer:List Env}{s:Shared}{H:Hp}(e:wc P w K mg base A outer s H)(C:Addr)(us:List Value)(kw:List (Str×Value)) :
  wc P w K mg base (A.under (.builtin "type.__call__" ⟨.ref C::us,kw⟩)) outer s H:=⟨by first|exact e.frames|(simpa [Around.under,Code.envs,Code.isFrame,pushEnvs] using e.frames),e.mod,e.bs,e.GF,e.nF,e.Ib,e.hok,e.bare⟩
section
variable {X:Cx} {pins:List (Addr×Obj)} {σ:St} {H:Hp} {s s':Shared}
theorem Inv.oz(I:Inv X pins σ H s):wc X.prog X.w X.K X.mg X.base X.A X.stack s H :=
 ⟨I.ok.frames,I.ok.mod,I.bs,le_trans I.ok.GF I.sz,I.stack,I.xG,I.hok,I.bare⟩
theorem Inv.after(I:Inv X pins σ H s)(h:CE X.stack X.prog X.w H s Q u s'):EP X pins σ Q u s':=by
 obtain⟨v,H',os,bare,un,hok,r,q⟩:=h;obtain⟨hh,g,d,t,os'⟩:=s';obtain rfl:os'=s.os:=os;exact⟨v,H',I.call (h':=hh) (g':=g) (d':=d) (t':=t) (ch:=[]) un hok bare (λb z=>absurd z (by simp)),r,q⟩
end
noncomputable def GI(sp:Sp)(qm:List V)(E:XK)(t:TA):TE:=λσ H Q=>t σ H λvs H1=>sp (vs++qm) H1 Q E
noncomputable def GJ(C:Addr)(sp:Sp)(qm:List V)(E:XK)(t:TA):TE:=λσ H Q=>t σ H λvs H1=>∀x dx,H1 x=none->H1 dx=none->dx≠x ->
 sp (.ref x::(vs++qm)) (upd (upd H1 dx (.own x)) x (.ins C dx [])) (λv H2=>v=.non/\Q (.ref x) H2) E
noncomputable def Binds(K:PySem.W.Frag)(fd:FuncData)(ps:List Str)(ds:List Value):Prop :=
 ∀(s:Shared) (us:List Value),K.In s.heap->(us++ds).length=ps.length->BindsTo s fd ⟨us,[]⟩ (ps.zip (us++ds))
theorem Binds.all{K:PySem.W.Frag}{fd:FuncData}{ps:List Str}(h:∀us:List Value,us.length=ps.length->bindArgs fd ⟨us,[]⟩=pure (ps.zip us)):Binds K fd ps []:=λs us _ hl=>by
 rw[append_nil] at hl |-;exact .of_eq (h us hl)
noncomputable def Passes(CX:zu)(X:Cx)(E:XK):Prop:=∀(pins:List (Addr×Obj)) (σ:St) (H:Hp) (s:Shared) (e:Value) (s':Shared),Inv X pins σ H s->CX X.stack H s E e s'->X.xe e s'
section
variable {X:Cx} {CX:zu} {k:Nat} {f C:Addr} {fd:FuncData} {ps:List Str} {sp:Sp} {qm:List V} {ds:List Value} {E:XK} {x m:Str} {p pos apos:Pos} {e o:Expr} {es:List Expr} {ta:TE} {t:TA}
theorem oA(F:eB X.prog X.w X.K X.mg X.base CX k f fd ps sp)(hr:cW k X.A)(hb:Binds X.K fd ps ds)(hd:Vals qm ds)(hx:Passes CX X E)
  (I:Inv X pins σ H s) (r:Vals vs us) (h:sp (vs++qm) H Q E):wpAny (model X.prog X.w) X.A (call (.ref f) us) (EP X pins σ Q) X.xe s:=by
 have r2:Vals (vs++qm) (us++ds):=r.append hd;have hl:(us++ds).length=ps.length:=by rw[<-r2.length];exact F.len _ _ _ _ h
 refine wpAny_call (codeAny_mono (F.run X.A X.stack s H ⟨us,[]⟩ (us++ds) (vs++qm) Q E hr I.oz (hb s us I.iR hl) r2 h) λr s' hq=>?_);cases r with
 | error e=>exact hx pins σ H s e s' I hq
 | ok fl =>
  cases fl with
  | ret u=>exact I.after hq
  | next=>exact False.elim hq
  | brk=>exact False.elim hq
  | cont=>exact False.elim hq
theorem D6(F:eB X.prog X.w X.K X.mg X.base CX k f fd ps sp)(hr:cW k X.A)(hg:Gl X x)(hm:X.mg x=some (.ref f))(hk:keepIn X.K (.ref f)=true)(hb:Binds X.K fd ps ds)(hd:Vals qm ds)(hx:Passes CX X E)
  (ha:PA X (e::es) t) (hdb:(x==("__debug__":Str))=false:=by decide) (he:starEach (e::es) X.env=(false,eval e X.env)::starEach es X.env:=by rfl) (hpl:(backTo pos (starEach es X.env)).any (·.1)=false:=by rfl) :
  PE X (.Call (.Name x p) (e::es) [] pos) (GI sp qm E t):=by
 intro pins s σ H Q I h;refine wpAny_Call_Name_kw (jK I hg hm ?_ hdb);refine callWith_K (h₀:=X.base) I.ok.mod.LB hk (cu (ha pos pins s σ H _ I h) λus s1 ⟨vs,H1,I1,r,q⟩=>⟨I1.iR,?_⟩) he hpl;exact oA F hr hb hd hx I1 r q
theorem AS(F:eB X.prog X.w X.K X.mg X.base CX k f fd ps sp)(hr:cW k X.A)(hg:Gl X x)(hm:X.mg x=some (.ref f))(hk:keepIn X.K (.ref f)=true)(hb:Binds X.K fd ps ds)(hd:Vals qm ds)(hx:Passes CX X E)
  (hdb:(x==("__debug__":Str))=false:=by decide):PE X (.Call (.Name x p) [] [] pos) (GI sp qm E IW):=by
 intro pins s σ H Q I h;refine wpAny_Call_Name_kw (jK I hg hm ?_ hdb);exact callWith_K0 I.iR hk (oA (us:=[]) F hr hb hd hx I .nil h)
structure Mk (K:PySem.W.Frag) (C f:Addr):Prop where
 makes:makesIn K C=true
 init:findIn K (.ref C) "__init__" = some (some (.ref f))
 fn:PySem.W.isFn K (.ref f)=true
 kp:keepIn K (.ref C)=true
theorem t6(M:Mk X.K C f)(F:eB X.prog X.w X.K X.mg X.base CX k f fd ps sp)(hr:cW (k+1) X.A)(hb:Binds X.K fd ps ds)(hd:Vals qm ds)
  (hx:Passes CX X E) (I:Inv X pins σ H s) (r:Vals vs us)
  (h:∀x dx,H x=none->H dx=none->dx≠x->sp (.ref x::(vs++qm)) (upd (upd H dx (.own x)) x (.ins C dx [])) (λv H2=>v=.non/\Q (.ref x) H2) E) :
  wpAny (model X.prog X.w) X.A (call (.ref C) us) (EP X pins σ Q) X.xe s:=by
 have hq:=h (s.heap.objs.size+1) s.heap.objs.size (I.hok.fresh (le_succ _)) (I.hok.fresh (le_refl _)) (ne_of_lt (lt_succ_self _));have I2:=Inv.made (C:=C) I;have r2:Vals (V.ref (s.heap.objs.size+1)::(vs++qm)) (Value.ref (s.heap.objs.size+1)::(us++ds)):=.cons rfl (r.append hd);have hl:(Value.ref (s.heap.objs.size+1)::us++ds).length=ps.length:=by have e:=r2.length;rw[F.len _ _ _ _ hq] at e;exact e.symm
 refine wpAny_call (AR (f:=f) I.iR M.makes M.init (beq_iff_eq.mp M.fn) (codeAny_mono (F.run _ X.stack _ _ ⟨Value.ref (s.heap.objs.size+1)::us,[]⟩ (Value.ref (s.heap.objs.size+1)::(us++ds)) _ _ E (hr.make C us [])
  (I2.oz.make C us []) (hb _ (Value.ref (s.heap.objs.size+1)::us) I2.iR hl) r2 hq) λr s' hq'=>?_))
 cases r with
 | error e=>exact hx pins σ _ _ e s' I2 hq'
 | ok fl =>
  cases fl with
  | ret u =>obtain⟨v,H',I3,rv,ev,q3⟩:=I2.after hq';subst ev;exact⟨rv,⟨V.ref (s.heap.objs.size+1),H',I3,rfl,q3⟩⟩
  | next=>exact False.elim hq'
  | brk=>exact False.elim hq'
  | cont=>exact False.elim hq'
theorem D7(M:Mk X.K C f)(F:eB X.prog X.w X.K X.mg X.base CX k f fd ps sp)(hr:cW (k+1) X.A)(hg:Gl X x)(hm:X.mg x=some (.ref C))(hb:Binds X.K fd ps ds)(hd:Vals qm ds)(hx:Passes CX X E)
  (ha:PA X (e::es) t) (hdb:(x==("__debug__":Str))=false:=by decide) (he:starEach (e::es) X.env=(false,eval e X.env)::starEach es X.env:=by rfl) (hpl:(backTo pos (starEach es X.env)).any (·.1)=false:=by rfl) :
  PE X (.Call (.Name x p) (e::es) [] pos) (GJ C sp qm E t):=by
 intro pins s σ H Q I h;refine wpAny_Call_Name_kw (jK I hg hm ?_ hdb);refine callWith_K (h₀:=X.base) I.ok.mod.LB M.kp (cu (ha pos pins s σ H _ I h) λus s1 ⟨vs,H1,I1,r,q⟩=>⟨I1.iR,?_⟩) he hpl;exact t6 M F hr hb hd hx I1 r q
theorem AU(M:Mk X.K C f)(F:eB X.prog X.w X.K X.mg X.base CX k f fd ps sp)(hr:cW (k+1) X.A)(hg:Gl X x)(hm:X.mg x=some (.ref C))(hb:Binds X.K fd ps ds)(hd:Vals qm ds)(hx:Passes CX X E)
  (hdb:(x==("__debug__":Str))=false:=by decide):PE X (.Call (.Name x p) [] [] pos) (GJ C sp qm E IW):=by
 intro pins s σ H Q I h;refine wpAny_Call_Name_kw (jK I hg hm ?_ hdb);exact callWith_K0 I.iR M.kp (t6 (us:=[]) M F hr hb hd hx I .nil h)
end
section
variable {X:Cx} {CX:zu} {k:Nat} {f C:Addr} {fd:FuncData} {ps ks:List Str} {sp:Sp} {E:XK} {x m:Str} {p pos apos kpos:Pos} {e o:Expr} {es:List Expr} {kws:List Keyword} {te ta:TE} {t tk:TA} {nm:Option Str}
variable {g:List Value->List Value->List Value} {gV:List V->List V->List V}
end
structure nO (N P:List Str) (sc:Scope):Prop where
 kind:sc.kind=.function
 co:sc.isCoroutine=false
 gen:sc.isGenerator=false
 nd:N.Nodup
 pre:N.take P.length=P
 par:∀x∈P,sc.names.lookup x=some .local\/sc.names.lookup x=some .cell
 IZ:∀y∈sc.names,y.2≠.free
theorem qG{kindOf:Str->Option NameKind}{x:Str}:∀{binds:List (Str×Value)} {m:Str->Option Value},(∀v,(x,v)∉binds)->bindL kindOf binds m x=m x
 | [],_,_=>rfl
 | (n,v)::r,m,h=>by
  unfold bindL;rw[qG λw hw=>h w (mem_cons_of_mem _ hw)]
  split
  ·have:x≠n:=by rintro rfl;exact h v mem_cons_self
   simp[this]
  ·rfl
theorem qH{kindOf:Str->Option NameKind}{x:Str}:∀{binds:List (Str×Value)} {m:Str->Option Value},(∀v,(x,v)∉binds)->bindC kindOf binds m x=m x
 | [],_,_=>rfl
 | (n,v)::r,m,h=>by
  unfold bindC;rw[qH λw hw=>h w (mem_cons_of_mem _ hw)]
  split
  ·rfl
  ·have:x≠n:=by rintro rfl;exact h v mem_cons_self
   simp[this]
theorem qI{kindOf:Str->Option NameKind}{x:Str}{v:Value}:∀{P:List Str} {vs:List Value} {i:Nat} {m:Str->Option Value},P.Nodup->P[i]?=some x->vs[i]?=some v->kindOf x=some .local ->
  bindL kindOf (P.zip vs) m x=some v
 | [],_,_,_,_,h,_,_=>by simp at h
 | _::_,[],_,_,_,_,h,_=>by simp at h
 | p::P,w::vs,0,m,nd,h1,h2,hk=>by
  simp at h1 h2;subst h1;subst h2;show bindL kindOf ((p,w)::P.zip vs) m p=_;unfold bindL;rw[qG λv hv=>(nodup_cons.mp nd).1 (of_mem_zip hv).1,if_pos hk];simp
 | p::P,w::vs,i+1,m,nd,h1,h2,hk=>by
  show bindL kindOf ((p,w)::P.zip vs) m x=_;unfold bindL;exact qI (i:=i) (nodup_cons.mp nd).2 (by simpa using h1) (by simpa using h2) hk
theorem qJ{kindOf:Str->Option NameKind}{x:Str}{v:Value}:∀{P:List Str} {vs:List Value} {i:Nat} {m:Str->Option Value},P.Nodup->P[i]?=some x->vs[i]?=some v->kindOf x≠some .local ->
  bindC kindOf (P.zip vs) m x=some v
 | [],_,_,_,_,h,_,_=>by simp at h
 | _::_,[],_,_,_,_,h,_=>by simp at h
 | p::P,w::vs,0,m,nd,h1,h2,hk=>by
  simp at h1 h2;subst h1;subst h2;show bindC kindOf ((p,w)::P.zip vs) m p=_;unfold bindC;rw[qH λv hv=>(nodup_cons.mp nd).1 (of_mem_zip hv).1,if_neg hk];simp
 | p::P,w::vs,i+1,m,nd,h1,h2,hk=>by
  show bindC kindOf ((p,w)::P.zip vs) m x=_;unfold bindC;exact qJ (i:=i) (nodup_cons.mp nd).2 (by simpa using h1) (by simpa using h2) hk
noncomputable def start(N:List Str)(vs:List V):St:=vs.map some++replicate (N.length-vs.length) none
noncomputable def we(CX:zu)(P:Program)(w:World)(K:PySem.W.Frag)(mg:Str->Option Value)(base:Heap)(N:List Str)(qual:Str)(scope:Scope)(f:Addr)(cd:Value)(A:Around)(outer:List Env)(s:Shared)(H:Hp)(E:XK):Cx where
 prog:=P
 w:=w
 K:=K
 mg:=mg
 base:=base
 A:=A.deeper (envOfC qual scope s.heap.objs.size f cd)
 N:=N
 s₀:=s
 H₀:=H
 env:=envOfC qual scope s.heap.objs.size f cd
 outer:=outer
 stack:=envOfC qual scope s.heap.objs.size f cd::outer
 ex:=[]
 calm:=true
 fn:=λ_=>true
 pn:=[]
 xe:=λe s'=>wpAny (model P w) (A.deeper (envOfC qual scope s.heap.objs.size f cd)) (leaving (envOfC qual scope s.heap.objs.size f cd) e) (λ_ s''=>CX outer H s E e s'') (λe' s''=>CX outer H s E e' s'') s'
theorem t7{sc:Scope}{n:Nat}{x:Str}(h:sc.names.lookup x=some .cell):∃c,(cellsFrom n sc.names []).lookup x=some c:=by
 have q:=cellsFrom_some sc.names n [] (.inl h);exact Option.isSome_iff_exists.mp q
theorem zv{CX:zu}{P:Program}{w:World}{K:PySem.W.Frag}{mg:Str->Option Value}{base:Heap}{N ps:List Str}{qual:Str}{scope:Scope}{f:Addr}{cd:Value}{A:Around}{outer:List Env}{s s1:Shared}{H:Hp}{E:XK}{us:List Value}{vs:List V}
  (S:nO N ps scope) (hd:A.handled=none) (e0:wc P w K mg base A outer s H) (hl:vs.length=ps.length) (r:Vals vs us)
  (x:InCallC s s.heap.objs.size (bindL (envOfC qual scope s.heap.objs.size f cd).kindOf (ps.zip us) λ_=>none) (cellsFrom (s.heap.objs.size+1) scope.names []) (bindC (envOfC qual scope s.heap.objs.size f cd).kindOf (ps.zip us) λ_=>none) s1) :
  Inv (we CX P w K mg base N qual scope f cd A outer s H E) [] (start N vs) H s1:=by
 have hpl:ps.length<=N.length:=by have:=congrArg length S.pre;rw[length_take] at this;omega
 obtain⟨h1,tk,rfl,hk⟩:=x.done;have noA:∀b:Addr,b∉(we CX P w K mg base N qual scope f cd A outer s H E).ex:=λb z=>absurd (show b∈([]:List Addr) from z) (by simp);refine⟨⟨e0.mod,S.kind,rfl,rfl,le_refl _,λy z c h1 h2=>?_,λy hy=>?_,λy c _ h=>?_,λ_=>hd,Around.frames_deeper e0.frames,.inr ⟨rfl,rfl⟩,λb z=>absurd z (noA b),e0.bs,e0.GF,λb _ _=>noA b,λb z=>absurd z (noA b),e0.nF,e0.Ib⟩,
  rfl,e0.bare,Un.kept hk,⟨_,x.toInCall.ns,λi y v h1 h2 h3=>?_⟩,λy c h=>⟨_,x.cell y c h⟩,e0.hok.fresh (le_refl _),λy c h=>?_,λp hp=>absurd (show p∈([]:List (Addr×Obj)) from hp) (by simp),e0.hok.kept hk,?_⟩
 ·exact name_of_addr x.apart (PySem.mem_of_lookup h1) (PySem.mem_of_lookup h2)
 ·have hy:scope.names.lookup y=some .cell\/scope.names.lookup y=some .free:=hy
  rcases hy with hy|hy
  ·exact t7 hy
  ·exact absurd rfl (S.IZ _ (PySem.mem_of_lookup hy))
 ·exact le_of_lt (x.above y c (PySem.mem_of_lookup h))
 ·have hi:i<vs.length:=by
   unfold start at h2
   by_cases hi:i<vs.length
   ·exact hi
   ·rw[getElem?_append_right (by simpa using hi)] at h2;rw[List.getElem?_replicate] at h2;split at h2<;>cases h2
  have ha:vs[i]?=some v:=by
   unfold start at h2;rw[getElem?_append_left (by simpa using hi),getElem?_map] at h2;cases e:vs[i]? with
   | none=>rw[e] at h2;cases h2
   | some a=>rw[e] at h2;cases h2;rfl
  obtain⟨u,hu,rv⟩:=r.get ha;have hp:ps[i]?=some y:=by rw[<-S.pre,List.getElem?_take_of_lt (by omega)];exact h1
  have TV:ps.Nodup:=by rw[<-S.pre];exact S.nd.sublist (List.take_sublist _ _)
  refine⟨u,rv,?_⟩
  rcases S.par y (mem_of_getElem? hp) with k|k
  ·exact .inl ⟨k,qI TV hp hu k⟩
  ·obtain⟨c,e⟩:=t7 (n:=s.heap.objs.size+1) k;refine .inr ⟨.inl k,c,e,?_⟩;have q:=x.cell y c e;rw[qJ TV hp hu (by show scope.names.lookup y≠_;rw[k];decide)] at q;exact q
 ·exact e0.hok.fresh (le_of_lt (x.above y c (PySem.mem_of_lookup h)))
 ·unfold start;show _=N.length;rw[length_append,length_map,List.length_replicate];omega
theorem MG{CX:zu}{P:Program}{w:World}{K:PySem.W.Frag}{mg:Str->Option Value}{base:Heap}{k:Nat}{f:Addr}{name qual:Str}{params:Arguments}{body:List Stmt}{scope:Scope}{dV kV doc pm cdv ct oc:Value}{an od:Option Addr}
  {osl:Array (Option Value)} {N ps:List Str} {sp:Sp} (lk:K.lookup f=some ⟨oc,od,.func (PySem.W.fnOf name qual params body scope dV kV doc pm an cdv ct),osl⟩) (hcd:codeIn K cdv qual=true) (S:nO N ps scope)
  (len:∀vs H Q E,sp vs H Q E->vs.length=ps.length)
  (hbody:∀(A:Around) (outer:List Env) (s:Shared) (H:Hp) (vs:List V) (Q:VK) (E:XK),cW k (A.deeper (envOfC qual scope s.heap.objs.size f cdv))->sp vs H Q E ->
   ∃t,vR (we CX P w K mg base N qual scope f cdv A outer s H E) body t/\t { nx:=λ_ H'=>Q .non H',rt:=Q } (start N vs) H) :
  eB P w K mg base CX (k+1) f (PySem.W.fnOf name qual params body scope dV kV doc pm an cdv ct) ps sp:=by
 refine⟨len,λA outer s H args us vs Q E hr e0 hb r hsp=>?_⟩;have hl:=len _ _ _ _ hsp;have KX:K.In s.heap:=e0.mod.LB.keeps λb o e=>(e0.bs b o e).1;have lim:s.heap.NoLimit:=e0.mod.nolimit.keeps λb o e=>(e0.bs b o e).1;have hkind:∀y∈ps.zip us,scope.names.lookup y.1=some .local\/(scope.names.lookup y.1=some .cell/\((cellsFrom (s.heap.objs.size+1) scope.names []).lookup y.1).isSome=true):=λ⟨n,v⟩ hy=>by
  rcases S.par n (of_mem_zip hy).1 with q|q
  ·exact .inl q
  ·exact .inr ⟨q,cellsFrom_some _ _ _ (.inl q)⟩
 refine codeAny_call_function hr.depth (KX _ _ lk) rfl S.co S.gen rfl (PySem.W.codeRec_of KX hcd) (hb _ _ _ _ ?_);refine wpAny_newFunctionEnv_cells S.kind hkind λenv he s1 x=>?_;subst he;refine⟨lim.keeps x.toInCall.keep,codeAny_func ?_⟩;obtain⟨t,ht,hq⟩:=hbody A outer s H vs Q E (hr.deeper _) hsp;have I:Inv (we CX P w K mg base N qual scope f cdv A outer s H E) [] (start N vs) H s1:=zv S hr.hd e0 hl r x;refine wpAny_mono (ht [] s1 (start N vs) H _ I hq) (λfl s' hs=>?_) λe s' hs=>hs;have fin:∀{σ':St} {H':Hp} {v:V} {u:Value},Inv (we CX P w K mg base N qual scope f cdv A outer s H E) [] σ' H' s'->RelV v u->Q v H'->CE outer P w H s Q u s' :=
  λ{σ' H' v u} J rv q=>⟨v,H',J.os,J.bare,J.base,J.hok,rv,q⟩
 cases fl with
 | ret u =>obtain⟨v,σ',H',J,rv,q⟩:=hs;exact fin J rv q
 | next =>obtain⟨σ',H',J,q⟩:=hs;exact fin (v:=V.non) (u:=Value.none) J rfl q
 | brk =>obtain⟨_,_,_,q⟩:=hs;exact False.elim q
 | cont =>obtain⟨_,_,_,q⟩:=hs;exact False.elim q
end L2
namespace L2
open PySem PySem.Spec PyProof.Rows
section
variable {X:Cx} {x:Str} {p pos:Pos} {e:Expr} {es:List Expr} {t:TA} {id T:String} {r:List V->Hp->VK->Prop}
noncomputable def TX(r:List V->Hp->VK->Prop)(t:TA):TE:=λσ H Q=>t σ H λvs H1=>r vs H1 Q
theorem fh(hc:cH X (.builtin id) r)(hg:Gl X x)(hm:X.mg x=none)(hv:bootBuiltins x=some (.builtin id))(ha:PA X (e::es) t)(hn:x ≠ "__name__":=by decide)(hdb:(x==("__debug__":Str))=false:=by decide)
  (he:starEach (e::es) X.env=(false,eval e X.env)::starEach es X.env:=by rfl) (hpl:(backTo pos (starEach es X.env)).any (·.1)=false:=by rfl):PE X (.Call (.Name x p) (e::es) [] pos) (TX r t):=by
 intro pins s σ H Q I h;refine wpAny_Call_Name_kw (gG I hg hm hv ?_ hn hdb);exact PyProof.Rows.callWith_builtin1 (cu (ha pos pins s σ H _ I h) λus s1 ⟨vs,H1,I1,r1,q1⟩=>hc pins s1 σ H1 vs us Q I1 r1 q1) he hpl
theorem jL(hc:cH X (.type T) r)(hg:Gl X x)(hm:X.mg x=none)(hv:bootBuiltins x=some (.type T))(ha:PA X (e::es) t)(hn:x ≠ "__name__":=by decide)(hdb:(x==("__debug__":Str))=false:=by decide)
  (he:starEach (e::es) X.env=(false,eval e X.env)::starEach es X.env:=by rfl) (hpl:(backTo pos (starEach es X.env)).any (·.1)=false:=by rfl):PE X (.Call (.Name x p) (e::es) [] pos) (TX r t):=by
 intro pins s σ H Q I h;refine wpAny_Call_Name_kw (gG I hg hm hv ?_ hn hdb);exact PyProof.Rows.callWith_type1 (cu (ha pos pins s σ H _ I h) λus s1 ⟨vs,H1,I1,r1,q1⟩=>hc pins s1 σ H1 vs us Q I1 r1 q1) he hpl
end
end L2
namespace HT
open PySem PyProof.Rows
noncomputable def lexLt:List Int->List Int->Bool
 | [],[]=>false
 | [],_::_=>true
 | _::_,[]=>false
 | x::xs,y::ys=>if x=y then lexLt xs ys else decide (x<y)
theorem eE(x y:Int)(xs ys:List Int):lexLt (x::xs) (y::ys)=if x=y then lexLt xs ys else decide (x<y):=rfl
theorem qt:lexLt [] []=false:=rfl
theorem fW(y:Int)(ys:List Int):lexLt [] (y::ys)=true:=rfl
theorem dP(x:Int)(xs:List Int):lexLt (x::xs) []=false:=rfl
section
open PySem.SeqAt
open PySem.AutoSeq1 (wpAny_loadPart')
open PySem.MeetsSeq PySem.MeetsSeq2 PySem.MeetsSeq3
end
section
variable {prog:Program} {w:World} {A:Around} {E:Value->Shared->Prop} {s:Shared}
theorem D8(ht:IsTup s.heap t vs.toArray)(hb:IsTup s.heap b ws.toArray)(hv:vs≠[])
  (h1:ws=[]->Q (.ref t) s) (h2:ws≠[]->Q (.ref s.heap.objs.size) { s with heap:=s.heap.push { cls:=.type "tuple",data:=.seq (vs++ws).toArray } })
  (hsz:vs.length+ws.length<=sizeLine):wpAny (model prog w) A (binaryOp .Add (.ref t) (.ref b)) Q E s:=by
 obtain⟨⟨cls,dd,data,sl⟩,ho,hc,n,hd⟩:=id ht;obtain⟨⟨Vr,dd2,data2,sl2⟩,ho2,hc2,n2,hd2⟩:=id hb;simp only at hc hd hc2 hd2;subst hc hd hc2 hd2;have e:vs.toArray++ws.toArray=(vs++ws).toArray:=by simp
 by_cases hw:ws=[]
 ·exact concat_meets ⟨_,ho,rfl⟩ ⟨_,ho2,rfl⟩ noFill_tuple_add seq_tuple_add PySem.F.slot_tuple_add PySem.F.entry_tuple_add (PySem.F.args_tuple_add_2 _ _)
   (tuple_addW1 t b vs.toArray ws.toArray n n2 dd dd2 sl sl2 (by simpa using hv) (by simp[hw])) ⟨ho,ho2,h1 hw⟩
 ·refine concat_meets ⟨_,ho,rfl⟩ ⟨_,ho2,rfl⟩ noFill_tuple_add seq_tuple_add PySem.F.slot_tuple_add PySem.F.entry_tuple_add (PySem.F.args_tuple_add_2 _ _)
   (tuple_addW2 t b vs.toArray ws.toArray n n2 dd dd2 sl sl2 (by simpa using hv) (by simpa using hw) (by rw[size_toArray,size_toArray];exact hsz)) ⟨ho,ho2,?_⟩
  rw[e];exact h2 hw
noncomputable def dQ(n d:Nat):Option Int->Nat
 | none=>d
 | some v=>if v<0 then (v+(n:Int)).toNat else min v.toNat n
theorem I0(n d:Nat)(hd:d<=n)(o:Option Int):dQ n d o<=n:=by
 cases o with
 | none=>exact hd
 | some v =>
  show (if v<0 then (v+(n:Int)).toNat else min v.toNat n)<=n
  by_cases hv:v<0
  ·rw[if_pos hv];omega
  ·rw[if_neg hv];exact Nat.min_le_right _ _
theorem xM(v:Int)(n d:Nat):(if v<0 then max (v+(n:Int)) 0 else min v (n:Int))=((dQ n d (some v):Nat):Int):=by
 show (if v<0 then max (v+(n:Int)) 0 else min v (n:Int))=(((if v<0 then (v+(n:Int)).toNat else min v.toNat n):Nat):Int)
 by_cases hv:v<0
 ·simp only[if_pos hv];omega
 ·simp only[if_neg hv];omega
theorem wg(lo hi:Option Int)(n:Nat):Builtin.Slice.sliceAdjust lo hi 1 (n:Int)=(((dQ n 0 lo:Nat):Int),((dQ n n hi:Nat):Int)):=by
 have h1:¬ ((1:Int)<0):=by omega
 unfold Builtin.Slice.sliceAdjust;simp only[h1,if_false];refine Prod.ext ?_ ?_
 ·cases lo with
  | none=>rfl
  | some v=>exact xM v n 0
 ·cases hi with
  | none=>rfl
  | some v=>exact xM v n n
theorem wj(i j:Nat):Builtin.Slice.slicePlaces (i:Int) (j:Int) 1=j-i:=by
 unfold Builtin.Slice.slicePlaces;have h1:(1:Int)>0:=by omega
 simp only[h1,if_true,Int.ediv_one]
 split<;>omega
theorem oB{o:Option Int}(p:IsPart v o)(h:Q o s):wpAny (model prog w) A (Builtin.Slice.slicePartIndex v) Q E s:=by
 cases p with
 | none=>exact slicePart_none h
 | int i t=>exact slicePart_int h
theorem lU{lo hi:Option Int}{n:Nat}(hs:s.heap.IsSliceOf sl vl vu .none)(pl:IsPart vl lo)(pu:IsPart vu hi)
  (h:Q (((dQ n 0 lo:Nat):Int),1,dQ n n hi-dQ n 0 lo) s):wpAny (model prog w) A (Builtin.Slice.sliceApplied (.ref sl) (pure (n:Int))) Q E s:=by
 obtain⟨os,hos,hcs,hds⟩:=id hs;unfold Builtin.Slice.sliceApplied Builtin.Slice.sliceFields;refine wpAny_bind (wpAny_bind (wpAny_field hos hds (x:=vl) rfl (wpAny_bind (wpAny_field hos hds (x:=vu) rfl (wpAny_bind (wpAny_field hos hds (x:=.none) rfl (wpAny_pure ?_)))))));refine wpAny_bind (slicePart_none ?_);show wpAny _ _ (if ((1:Int)==0)=true then _ else _) _ _ s;rw[if_neg (by decide)];refine wpAny_bind (oB pl (wpAny_bind (oB pu (wpAny_bind (wpAny_pure ?_)))));show wpAny _ _ (match Builtin.Slice.sliceAdjust lo hi 1 (n:Int) with|(lo,hi)=>pure (lo,(1:Int),Builtin.Slice.slicePlaces lo hi 1)) _ _ s;rw[wg lo hi n];show wpAny _ _ (pure (((dQ n 0 lo:Nat):Int),(1:Int),Builtin.Slice.slicePlaces ((dQ n 0 lo:Nat):Int) ((dQ n n hi:Nat):Int) 1)) _ _ s;rw[wj];exact wpAny_pure h
theorem AV(xs:Array Value)(i k:Nat):((List.range k).filterMap λ(m:Nat)=>xs[((i:Int)+(m:Int)*1).toNat]?).toArray=((xs.toList.drop i).take k).toArray:=by
 have e:(λ(m:Nat)=>xs[((i:Int)+(m:Int)*1).toNat]?)=λm=>xs[i+m]?:=by
  funext m;have:((i:Int)+(m:Int)*1).toNat=i+m:=by omega
  rw[this]
 rw[e];have:=pick_run xs i k;rw[List.filterMap_map] at this;have e2:((λx=>xs[x]?)∘λx=>i+x)=λm=>xs[i+m]?:=rfl;rw[e2] at this;rw[this]
theorem kR{lo hi:Option Int}(ht:IsTup s.heap t items)(hs:s.heap.IsSliceOf sl vl vu .none)(pl:IsPart vl lo)(pu:IsPart vu hi)
  (hw:¬ (dQ items.size 0 lo=0/\dQ items.size items.size hi=items.size))
  (h:Q (.ref s.heap.objs.size) { s with heap:=s.heap.push { cls:=.type "tuple",data:=.seq ((items.toList.drop (dQ items.size 0 lo)).take (dQ items.size items.size hi-dQ items.size 0 lo)).toArray } })
  (hsz:items.size<=sizeLine):wpAny (model prog w) A (getItem (.ref t) (.ref sl)) Q E s:=by
 have xN:sizeOk (.seq ((items.toList.drop (dQ items.size 0 lo)).take (dQ items.size items.size hi-dQ items.size 0 lo)).toArray):=by show ((items.toList.drop (dQ items.size 0 lo)).take (dQ items.size items.size hi-dQ items.size 0 lo)).toArray.size<=sizeLine;rw[size_toArray,length_take,length_drop,length_toList];omega
 have hj:dQ items.size items.size hi<=items.size:=I0 _ _ (le_refl _) hi;obtain⟨os,hos,hcs,hds⟩:=id hs;have Qh:s.TypeIs (.ref sl) "slice":=⟨os,hos,hcs⟩;unfold getItem
 try with_reducible refine wpAny_holding ?_
 first|refine wpAny_bind (wpAny_pure ?_)|skip
 refine wpAny_bind (wpAny_sequenceKey ht.typeIs (by decide) ?_);refine wpAny_bind (wpAny_callSpecial?_slot (name:=Str.ofString "__getitem__") ht.typeIs PyProof.Rows.slot_tuple_getitem
  (wpAny_call_entry PyProof.Rows.slot_tuple_getitem ht.typeIs entry_tuple_getitem ?_ (args_tuple_getitem _ _)))
 show wpAny _ _ (Builtin.Tuple.tupleItemsOf (.ref t) >>= _) _ _ s;refine wpAny_bind (tupleItemsOf_ ht ?_);refine wpAny_bind (wpAny_typeOf Qh ?_);rw[if_pos (by decide)];refine wpAny_bind (lU hs pl pu ?_);have hno:¬ ((((dQ items.size 0 lo:Nat):Int)==0&&(1:Int)==1&&(dQ items.size items.size hi-dQ items.size 0 lo)==items.size)=true):=by intro q;rw[and_eq_true,and_eq_true] at q;have q1:((dQ items.size 0 lo:Nat):Int)=0:=eq_of_beq q.1.1;have q2:dQ items.size items.size hi-dQ items.size 0 lo=items.size:=eq_of_beq q.2;exact hw ⟨by omega,by omega⟩
 show wpAny _ _ (if (((dQ items.size 0 lo:Nat):Int)==0&&(1:Int)==1&&(dQ items.size items.size hi-dQ items.size 0 lo)==items.size)=true then _ else _) _ _ s;rw[if_neg hno,AV]
 first
  | exact wpAny_bind (m:=Builtin.Tuple.tupleExact _) (wpAny_newObj_type (wpAny_pure ⟨_,rfl,wpAny_pure h⟩) xN)
  | exact wpAny_bind (m:=Builtin.Tuple.tupleExact _) (wpAny_newObj_type (wpAny_bind (wpAny_pure (wpAny_pure ⟨_,rfl,wpAny_pure h⟩))) xN)
  | exact wpAny_bind (wpAny_bind (m:=Builtin.Tuple.tupleExact _) (wpAny_newObj_type (wpAny_pure (wpAny_pure ⟨_,rfl,wpAny_pure h⟩)) xN))
  | exact wpAny_bind (wpAny_bind (m:=Builtin.Tuple.tupleExact _) (wpAny_newObj_type (wpAny_pure ⟨_,rfl,wpAny_pure h⟩) xN))
end
end HT
namespace L2
open PySem PySem.Spec PyProof.Rows
noncomputable abbrev TO:=St->Hp->(Option Int->Hp->Prop)->Prop
noncomputable def PO(X:Cx)(e:Option Expr)(t:TO):Prop :=
 ∀(pins:List (Addr×Obj)) (s:Shared) (σ:St) (H:Hp) (Q:Option Int->Hp->Prop),Inv X pins σ H s->t σ H Q ->
  wpAny (model X.prog X.w) X.A (evalPart e X.env) (λu s'=>∃o H',Inv X pins σ H' s'/\IsPart u o/\Q o H') X.xe s
noncomputable def D9:TO:=λ_ H Q=>Q none H
noncomputable def MH(t:TE):TO:=λσ H Q=>t σ H λx H1=>∃i,x=.int i/\Q (some i) H1
theorem intsAre_of{ns:List Int}:∀{us:List Value},Vals (ns.map V.int) us->IntsAre us ns:=by
 induction ns with
 | nil=>intro us r;rw[map_nil] at r;cases r;exact .nil
 | cons n ns ih =>
  intro us r;rw[map_cons] at r;cases r with
  | cons r1 r2 =>obtain⟨t,e⟩:=r1;subst e;exact .cons n t (ih r2)
section
variable {X:Cx} {e:Expr} {te:TE} {lo hi:Option Expr} {tl th:TO} {pos p2:Pos}
theorem Ea:PO X none D9:=by
 intro pins s σ H Q I h;rw[evalPart_none];exact wpAny_pure ⟨none,H,I,.none,h⟩
theorem Eb(h:PE X e te):PO X (some e) (MH te):=by
 intro pins s σ H Q I hw;rw[evalPart_some];refine cu (h pins s σ H _ I hw) λu s1 aJ=>?_;obtain⟨x,H1,I1,r1,q1⟩:=aJ;obtain⟨i,rfl,q⟩:=q1;obtain⟨t,rfl⟩:=r1;exact⟨some i,H1,I1,.int i t,q⟩
noncomputable def Pd(X:Cx)(r:V->Option Int->Option Int->Hp->VK->Prop):Prop :=
 ∀(pins:List (Addr×Obj)) (s:Shared) (σ:St) (H:Hp) (x:V) (v vl vu:Value) (lo hi:Option Int) (sl:Addr) (Q:VK),Inv X pins σ H s->RelV x v->s.heap.IsSliceOf sl vl vu .none->IsPart vl lo->IsPart vu hi->r x lo hi H Q ->
  ∃T id,typeLookup (.type T) "__getitem__" = pure (some (.builtin id))/\s.TypeIs v T/\wpAny (model X.prog X.w) X.A (getItem v (.ref sl)) (EP X pins σ Q) X.xe s
noncomputable def Vs(r:V->Option Int->Option Int->Hp->VK->Prop)(te:TE)(tl th:TO):TE:=λσ H Q=>te σ H λx H1=>tl σ H1 λl H2=>th σ H2 λu H3=>r x l u H3 Q
theorem AW(hr:Pd X r)(he:PE X e te)(hl:PO X lo tl)(hu:PO X hi th):PE X (.Subscript e (.Slice lo hi none p2) pos) (Vs r te tl th):=by
 intro pins s σ H Q I h;refine Subscript_ (cu (he pins s σ H _ I h) λv s1 aJ=>?_);obtain⟨x,H1,I1,r1,q1⟩:=aJ;refine wpAny_Slice (cu (hl pins s1 σ H1 _ I1 q1) λvl s2 ⟨l,H2,I2,pl,q2⟩=>cu (hu pins s2 σ H2 _ I2 q2) λvu s3 aJ=>?_);obtain⟨u,H3,I3,pu,q3⟩:=aJ;rw[evalPart_none];refine wpAny_pure ?_;have I4:Inv X pins σ H3 { s3 with heap:=s3.heap.push { cls:=.type "slice",data:=.fields #[vl,vu,.none] } }:=I3.kept (t':=s3.toks) λb ob q=>get?_push_of_some _ q;obtain⟨T,id,hT,ht,hg⟩:=hr pins { s3 with heap:=s3.heap.push { cls:=.type "slice",data:=.fields #[vl,vu,.none] } } σ H3 x v vl vu l u s3.heap.objs.size Q I4 r1 (Heap.IsSliceOf.new ..) pl pu q3;show wpAny (model X.prog X.w) X.A (subscriptTail e (.Slice lo hi none p2) v (.ref s3.heap.objs.size)) (EP X pins σ Q) X.xe { s3 with heap:=s3.heap.push { cls:=.type "slice",data:=.fields #[vl,vu,.none] } };exact tail_any (ops:=[.ref s3.heap.objs.size,v]) ht hT hg (by with_unfolding_all rfl)
noncomputable def t8(xs:List V)(lo hi:Option Int):List V:=(xs.drop (HT.dQ xs.length 0 lo)).take (HT.dQ xs.length xs.length hi-HT.dQ xs.length 0 lo)
theorem mZ(xs:List V)(lo hi:Option Int):(t8 xs lo hi).length<=xs.length:=by
 unfold t8;rw[length_take,length_drop];omega
noncomputable def Qi(K:PySem.W.Frag):V->Option Int->Option Int->Hp->VK->Prop:=λx lo hi H Q=>∃a xs,x=.ref a/\iS K H a xs /\
 ¬ (HT.dQ xs.length 0 lo=0/\HT.dQ xs.length xs.length hi=xs.length)/\∀p,H p=none->Q (.ref p) (upd H p (.tup (t8 xs lo hi)))
theorem Ja:Pd X (Qi X.K):=by
 intro pins s σ H x v vl vu lo hi sl Q I rx hs pl pu h;obtain⟨a,xs,rfl,hx,hw,q⟩:=h;cases rx;obtain⟨its,r,ht,hz⟩:=I.tuple hx;have hlen:its.toArray.size=xs.length:=by rw[size_toArray];exact r.length.symm
 refine⟨"tuple",_,PyProof.Rows.slot_tuple_getitem.lookup,ht.typeIs,?_⟩;refine HT.kR ht hs pl pu (by rw[hlen];exact hw) ?_ (by rw[hlen];exact hz);rw[hlen];refine⟨.ref s.heap.objs.size,_,I.laid (t':=s.toks) (o:=.tup (t8 xs lo hi)) (λb ob q=>get?_push_of_some _ q) (le_refl _) ?_,rfl,q _ (I.hok.fresh (le_refl _))⟩;exact⟨le_trans (mZ xs lo hi) hz,_,(r.drop (HT.dQ xs.length 0 lo)).take (HT.dQ xs.length xs.length hi-HT.dQ xs.length 0 lo),IsTup.new _ _⟩
noncomputable def MI(K:PySem.W.Frag):R2:=λx y H Q=>∃a b xs ys,x=.ref a/\y=.ref b/\iS K H a xs/\iS K H b ys/\xs≠[]/\xs.length+ys.length<=sizeLine /\
 (ys=[]->Q (.ref a) H)/\(ys≠[]->∀p,H p=none->Q (.ref p) (upd H p (.tup (xs++ys))))
theorem Vals.r9(r:Vals xs us):us=[]↔xs=[]:=by
 cases r with
 | nil=>simp
 | cons _ _=>simp
theorem Ec:kN X (binaryOp .Add) (MI X.K):=by
 intro pins s σ H x y v u Q I rx ry h;obtain⟨a,b,xs,ys,rfl,rfl,ha,hb,hx,hz,q1,q2⟩:=h;cases rx;cases ry;obtain⟨its,r1,p1,_⟩:=I.tuple ha;obtain⟨its2,r2,p2,_⟩:=I.tuple hb;refine HT.D8 p1 p2 (λz=>hx (r1.r9.mp z)) (λz=>⟨.ref a,H,I,rfl,q1 (r2.r9.mp z)⟩) (λz=>?_) (by rw[<-r1.length,<-r2.length];exact hz);refine⟨.ref s.heap.objs.size,_,I.laid (t':=s.toks) (o:=.tup (xs++ys)) (λb ob q=>get?_push_of_some _ q) (le_refl _) ?_,rfl,q2 (λw=>z (r2.r9.mpr w)) _ (I.hok.fresh (le_refl _))⟩;exact⟨by rw[length_append];exact hz,_,r1.append r2,IsTup.new _ _⟩
end
end L2
namespace L2
open PySem PySem.Spec PyProof.Rows
noncomputable def zw(n:Nat)(i:Int):Option Nat:=if 0<=i then (if i<n then some i.toNat else none) else if -(n:Int)<=i then some (i+n).toNat else none
noncomputable def jd{α:Type}(xs:List α)(i:Int):Option α:=(zw xs.length i).bind λj=>xs[j]?
theorem xO{n:Nat}{i:Int}{j:Nat}(h:zw n i=some j):seqIndex? i n=some j/\j<n /\ -(n:Int)<=i/\i<n:=by
 unfold zw at h
 by_cases h0:0<=i
 ·rw[if_pos h0] at h
  by_cases h1:i<n
  ·rw[if_pos h1] at h;have e:i.toNat=j:=Option.some.inj h;exact⟨by rw[seqIndex_of h0 h1,e],by omega,by omega,h1⟩
  ·rw[if_neg h1] at h;cases h
 ·rw[if_neg h0] at h
  by_cases h1:-(n:Int)<=i
  ·rw[if_pos h1] at h;have e:(i+n).toNat=j:=Option.some.inj h;exact⟨by rw[seqIndex_neg (by omega) h1,e],by omega,h1,by omega⟩
  ·rw[if_neg h1] at h;cases h
theorem sd{α:Type}{xs:List α}{i:Int}{v:α}(h:jd xs i=some v):∃j,seqIndex? i xs.length=some j/\xs[j]?=some v/\j<xs.length /\ -(xs.length:Int)<=i/\i<xs.length:=by
 unfold jd at h;cases e:zw xs.length i with
 | none=>rw[e] at h;cases h
 | some j =>rw[e] at h;obtain⟨h1,h2,h3,h4⟩:=xO e;exact⟨j,h1,h,h2,h3,h4⟩
theorem kT{α:Type}{xs:List α}{j:Nat}{v:α}(h:xs[j]?=some v):jd xs (j:Int)=some v:=by
 have hj:j<xs.length:=(List.getElem?_eq_some_iff.mp h).1;have e:zw xs.length (j:Int)=some j:=by unfold zw;rw[if_pos (by omega),if_pos (by omega)];simp
 unfold jd;rw[e];exact h
noncomputable def xP(b:Expr):Prop:=∀o i,subscripted b false o i=operate [o,i] (getItem o i)
noncomputable def LF(X:Cx)(r:R2):Prop :=
 ∀(value slice:Expr) (pins:List (Addr×Obj)) (s:Shared) (σ:St) (H:Hp) (x y:V) (v u:Value) (Q:VK),Inv X pins σ H s->RelV x v->RelV y u->r x y H Q ->
  subscripted slice false v u=operate [v,u] (getItem v u)->wpAny (model X.prog X.w) X.A (subscriptTail value slice v u) (EP X pins σ Q) X.xe s
noncomputable def MJ(X:Cx)(id:String)(r:V->List V->Hp->VK->Prop):Prop :=
 ∀(pins:List (Addr×Obj)) (s:Shared) (σ:St) (H:Hp) (x:V) (xs:List V) (v:Value) (us:List Value) (Q:VK),Inv X pins σ H s->RelV x v->Vals xs us->r x xs H Q ->
  wpAny (model X.prog X.w) X.A (call (.builtin id) (v::us)) (EP X pins σ Q) X.xe s
section
variable {X:Cx} {a b:Expr} {ta tb:TE} {pos:Pos}
theorem MK(hr:LF X r)(ha:PE X a ta)(hb:PE X b tb)(hs:xP b):PE X (.Subscript a b pos) (Pb r ta tb):=by
 intro pins s σ H Q I h;exact Subscript_ (IG ha hb I h λv u s2 x y H2 I2 rx ry q=>hr a b pins s2 σ H2 x y v u Q I2 rx ry q (hs _ _))
noncomputable def Qj(K:PySem.W.Frag):R2:=λx y H Q=>∃p xs i v,x=.ref p/\y=.int i/\gz K H p xs/\jd xs i=some v/\Q v H
noncomputable def Qk(K:PySem.W.Frag):R2:=λx y H Q=>∃p xs i v,x=.ref p/\y=.int i/\iS K H p xs/\jd xs i=some v/\Q v H
noncomputable def Ql:R2:=λx y H Q=>∃z i c,x=.str z/\y=.int i/\z.length<=sizeLine/\jd z.cps.toList i=some c/\Q (.str ⟨#[c]⟩) H
theorem xQ:LF X (Qj X.K):=by
 intro value slice pins s σ H x y v u Q I rx ry h hs;obtain⟨p,xs,i,z,rfl,rfl,hq,he,q⟩:=h;cases rx;obtain⟨t,rfl⟩:=ry;obtain⟨its,r,pl,hz⟩:=I.list hq;obtain⟨j,h1,h2,h3,h4,h5⟩:=sd he;obtain⟨w,ew,rw'⟩:=r.get h2;have hl:=r.length;have hn:=lQ;have fin:EP X pins σ Q w s:=⟨z,H,I,rw',q⟩
 by_cases h0:0<=i
 ·have hj:i.toNat=j:=by
   rw[seqIndex_of h0 h5] at h1;exact Option.some.inj h1
  exact item_listR pl.isList h0 (by omega) (by rw[hj];simpa using ew) fin hs
 ·have hj:(i+(its.toArray.size:Int)).toNat=j:=by
   rw[seqIndex_neg (by omega) h4] at h1;rw[size_toArray,<-hl];exact Option.some.inj h1
  exact subscriptTail_builtinR (x:=w) pl.isList.typeIs slot_list_getitem.lookup
   (wpAny_getItem_list_neg (Q:=λr s'=>r=w/\EP X pins σ Q r s') pl.isList (by omega) (by rw[size_toArray]<;>omega) (by omega) (by rw[hj];simpa using ew) ⟨rfl,fin⟩) hs
theorem Jb:LF X (Qk X.K):=by
 intro value slice pins s σ H x y v u Q I rx ry h hs;obtain⟨p,xs,i,z,rfl,rfl,hq,he,q⟩:=h;cases rx;obtain⟨t,rfl⟩:=ry;obtain⟨its,r,pl,hz⟩:=I.tuple hq;obtain⟨j,h1,h2,h3,h4,h5⟩:=sd he;obtain⟨w,ew,rw'⟩:=r.get h2;have hl:=r.length;have hn:=lQ;have fin:EP X pins σ Q w s:=⟨z,H,I,rw',q⟩;exact subscriptTail_builtinR (x:=w) pl.typeIs slot_tuple_getitem.lookup
  (getItem_tuple (j:=j) (Q:=λr s'=>r=w/\EP X pins σ Q r s') pl (by omega) (by omega) (by rw[size_toArray,<-hl];exact h1) (by simpa using ew) ⟨rfl,fin⟩) hs
theorem Jc:LF X Ql:=by
 intro value slice pins s σ H x y v u Q I rx ry h hs;obtain⟨z,i,c,rfl,rfl,hz,he,q⟩:=h;obtain⟨t,rfl⟩:=rx;obtain⟨t',rfl⟩:=ry;obtain⟨j,h1,h2,h3,h4,h5⟩:=sd he;have hl:z.cps.toList.length=z.length:=by simp[Str.length]
 rw[hl] at h1 h4 h5;have hn:=lQ;exact tail_any (typeIs_str s z t) slot_str_getitem.lookup (getItem_str (c:=c) (by
  have e1:decide (i < -(2 ^ 63:Int))=false:=decide_eq_false (by omega);have e2:decide (i≥2 ^ 63)=false:=decide_eq_false (by omega);rw[e1,e2,Bool.or_false]) (by rw[h1];simpa using h2) ⟨.str ⟨#[c]⟩,H,I.tok _,⟨_,rfl⟩,q⟩) hs
theorem wm(its:List Value)(n j:Nat)(u:Value):Obj.mapSeq (·.setIfInBounds j u) { cls:=.type "list",data:=.seq its.toArray n }={ cls:=.type "list",data:=.seq (its.set j u).toArray n }:=by
 simp[Obj.mapSeq]
theorem Inv.lst{pins:List (Addr×Obj)}{σ:St}{H:Hp}{s:Shared}{p:Addr}{xs:List V}(I:Inv X pins σ H s)(h:H p=some (.lst xs)) :
  ∃(its:List Value) (n:Nat),Vals xs its/\s.heap.get? p=some { cls:=.type "list",data:=.seq its.toArray n }/\xs.length<=sizeLine:=by
 obtain⟨z,its,n,r,e⟩:=I.hok p _ h;exact⟨its,n,r,e,z⟩
theorem Inv.Jd{pins:List (Addr×Obj)}{σ:St}{H:Hp}{s:Shared}{p:Addr}{xs ys:List V}{its its':List Value}{n n':Nat}{f:Obj->Obj}(I:Inv X pins σ H s)(h:H p=some (.lst xs))
  (ho:s.heap.get? p=some { cls:=.type "list",data:=.seq its.toArray n }) (hf:f { cls:=.type "list",data:=.seq its.toArray n }={ cls:=.type "list",data:=.seq its'.toArray n' }) (r:Vals ys its') (hz:ys.length<=sizeLine) (t:Nat) :
  Inv X pins σ (upd H p (.lst ys)) { s with heap:=s.heap.update p f,toks:=t }:=by
 have e:(s.heap.update p f).get? p=some { cls:=.type "list",data:=.seq its'.toArray n' }:=by rw[get?_update_self f ho (by rw[hf]<;>rfl),hf]
 refine I.write (x:=p) (e:=p) (by rw[h];trivial) (.inl rfl) (λb u hb q=>(get?_update_other _ _ (Ne.symm hb)).trans q) ⟨_,e⟩ ?_;exact⟨hz,its',n',r,e⟩
noncomputable def ML:V->V->V->Hp->(Hp->Prop)->Prop:=λo i v H Q=>∃p xs k j,o=.ref p/\i=.int k/\H p=some (.lst xs)/\zw xs.length k=some j/\Q (upd H p (.lst (xs.set j v)))
theorem set_list:Iw X ML:=by
 intro pins s σ H o i v ov iv u Q I ro ri rv h;obtain⟨p,xs,k,j,rfl,rfl,hp,hj,q⟩:=h;cases ro;obtain⟨t,rfl⟩:=ri;obtain⟨its,n,r,ho,hz⟩:=I.lst hp;obtain⟨h1,h2,h3,h4⟩:=xO hj;have hl:=r.length;have hn:=lQ;have I':Inv X pins σ (upd H p (.lst (xs.set j v))) { s with heap:=s.heap.update p (Obj.mapSeq (·.setIfInBounds j u)) } :=
  I.Jd hp ho (wm its n j u) (r.set rv j) (by rw[length_set];exact hz) s.toks
 by_cases h0:0<=k
 ·have hk:k.toNat=j:=by
   rw[seqIndex_of h0 h4] at h1;exact Option.some.inj h1
  exact PySem.W.ki_setAt ho h0 (by omega) (by rw[size_toArray,<-hl];exact h4) (by rw[hk];exact⟨_,I',q⟩)
 ·have hk:(k+(its.toArray.size:Int)).toNat=j:=by
   rw[seqIndex_neg (by omega) h3] at h1;rw[size_toArray,<-hl];exact Option.some.inj h1
  exact PySem.W.ki_setBack ho (by omega) (by rw[size_toArray,<-hl];exact h3) (by omega) (by rw[hk];exact⟨_,I',q⟩)
theorem se(lo hi:Option Int)(n:Nat):(sliceBounds lo hi none n).1=((HT.dQ n 0 lo:Nat):Int)/\(sliceBounds lo hi none n).2.1=((HT.dQ n n hi:Nat):Int)/\(sliceBounds lo hi none n).2.2=1:=by
 refine⟨?_,?_,rfl⟩
 ·cases lo with
  | none=>simp[sliceBounds,HT.dQ]
  | some i =>
   simp only[sliceBounds,HT.dQ,getD_none,show (1:Int)>0 by decide,if_true]
   by_cases h:i<0
   ·simp only[h,if_true]<;>omega
   ·simp only[h,if_false]<;>omega
 ·cases hi with
  | none=>simp[sliceBounds,HT.dQ]
  | some i =>
   simp only[sliceBounds,HT.dQ,getD_none,show (1:Int)>0 by decide,if_true]
   by_cases h:i<0
   ·simp only[h,if_true]<;>omega
   ·simp only[h,if_false]<;>omega
theorem qu(its:List Value)(lo hi:Option Int):slicePick its.toArray lo hi none=((its.drop (HT.dQ its.length 0 lo)).take (HT.dQ its.length its.length hi-HT.dQ its.length 0 lo)).toArray:=by
 obtain⟨h1,h2,h3⟩:=se lo hi its.toArray.size;unfold slicePick;rw[h1,h2,h3];simp only[sliceRange_one,pick_run,size_toArray]<;>rfl
noncomputable def Qm(K:PySem.W.Frag):V->Option Int->Option Int->Hp->VK->Prop:=λx lo hi H Q=>∃a xs,x=.ref a/\gz K H a xs/\∀p,H p=none->Q (.ref p) (upd H p (.lst (t8 xs lo hi)))
theorem Ed:Pd X (Qm X.K):=by
 intro pins s σ H x v vl vu lo hi sl Q I rx hs pl pu h;obtain⟨a,xs,rfl,hx,q⟩:=h;cases rx;obtain⟨its,r,ht,hz⟩:=I.list hx;have hlen:=r.length;refine⟨"list",_,slot_list_getitem.lookup,ht.isList.typeIs,?_⟩;refine wpAny_getItem_list_slice ht.isList hs pl pu .none (by simp) ?_ (by rw[size_toArray]<;>omega);rw[qu,<-hlen];refine⟨.ref s.heap.objs.size,_,I.laid (t':=s.toks) (o:=.lst (t8 xs lo hi)) (λb ob q=>get?_push_of_some _ q) (le_refl _) ?_,rfl,q _ (I.hok.fresh (le_refl _))⟩;exact⟨le_trans (mZ xs lo hi) hz,_,0,(r.drop (HT.dQ xs.length 0 lo)).take (HT.dQ xs.length xs.length hi-HT.dQ xs.length 0 lo),get?_push_size _ rfl⟩
theorem sf:cH X (.type "list") (λxs H Q=>∃p ys,xs=[.ref p]/\(gz X.K H p ys\/iS X.K H p ys)/\∀l,H l=none->Q (.ref l) (upd H l (.lst ys))):=by
 intro pins s σ H xs us Q I r h;obtain⟨p,ys,rfl,hq,q⟩:=h;obtain⟨u,rfl,rx⟩:=vals1 r;cases rx;have fin:∀(its:List Value),Vals ys its->ys.length<=sizeLine->∀(h':Heap) (c':Nat),(∀b o',s.heap.get? b=some o'->h'.get? b=some o') ->
   h'.get? s.heap.objs.size=some { cls:=.type "list",dict:=none,data:=.seq its.toArray c',slots:=#[] }->EP X pins σ Q (.ref s.heap.objs.size) { s with heap:=h' }:=λits r' hz h' c' kp e =>
  ⟨.ref s.heap.objs.size,_,I.laid (t':=s.toks) kp (le_refl _) (show bx X.prog X.w _ h' _ (.lst ys) from⟨hz,its,c',r',e⟩),rfl,q _ (I.hok.fresh (le_refl _))⟩
 rcases hq with hq|hq
 ·obtain⟨its,r',pl,hz⟩:=I.list hq;have hlen:=r'.length;obtain⟨o,ho,hc,n,hd⟩:=pl.isList;exact call_list_seq p (.inl rfl) ho hc hd (λh' c' kp e=>fin its r' hz h' c' kp e) (by simp only[size_toArray]<;>omega)
 ·obtain⟨its,r',pl,hz⟩:=I.tuple hq;have hlen:=r'.length;obtain⟨o,ho,hc,n,hd⟩:=pl;exact call_list_seq p (.inr rfl) ho hc hd (λh' c' kp e=>fin its r' hz h' c' kp e) (by simp only[size_toArray]<;>omega)
noncomputable def Qn(K:PySem.W.Frag)(T:String)(x:V)(H:Hp):Prop:=match x with
 | .str _=>T = "str"
 | .int _=>T = "int"
 | .ref p=>(T = "list" /\ ∃xs,gz K H p xs)\/(T = "tuple" /\ ∃o,K.lookup p=some o/\o.cls=.type "tuple" /\ o.dict=none) \/
   (T = "dict" /\ ((∃kvs,H p=some (.dK kvs))\/∃kvs,H p=some (.dT kvs)))\/(T = "set" /\ ∃S n,H p=some (.set S n))
 | _=>False
theorem Je{T:String}(I:Inv X pins σ H s)(r:RelV x v)(ty:Qn X.K T x H) :
  s.TypeIs v T/\∀a,v=.ref a->∃ob,s.heap.get? a=some ob/\ob.dict=none:=by
 cases x with
 | str z =>obtain⟨t,rfl⟩:=r;cases (show T = "str" from ty);exact⟨typeIs_str s z t,λ_ e=>nomatch e⟩
 | int i =>obtain⟨t,rfl⟩:=r;cases (show T = "int" from ty);exact⟨typeIs_int s i t,λ_ e=>nomatch e⟩
 | ref p =>
  cases r
  rcases ty with ⟨rfl,xs,hq⟩|⟨rfl,o,hk,hc,hd⟩|⟨rfl,hk⟩|⟨rfl,S,n,hk⟩
  ·obtain⟨its,_,pl,_⟩:=I.list hq;refine⟨pl.isList.typeIs,λa e=>?_⟩;cases e;obtain⟨o,n,e,c,hd,_⟩:=pl;exact⟨o,e,hd⟩
  ·refine⟨⟨o,I.iR p o hk,hc⟩,λa e=>?_⟩;cases e;exact⟨o,I.iR _ o hk,hd⟩
  ·have z:∃o,s.heap.get? p=some o/\o.ExactDict:=by
    rcases hk with ⟨kvs,hk⟩|⟨kvs,hk⟩
    ·obtain⟨_,_,_,_,o,_,_,e,ex,_⟩:=I.hok p _ hk;exact⟨o,e,ex⟩
    ·obtain⟨_,_,_,_,o,_,_,e,ex,_⟩:=I.hok p _ hk;exact⟨o,e,ex⟩
   obtain⟨o,e,ex⟩:=z;refine⟨⟨o,e,ex.1⟩,λa e2=>?_⟩;cases e2;exact⟨o,e,ex.2.1⟩
  ·obtain⟨o,_,_,_,e,ex,_⟩:=I.hok p _ hk;refine⟨⟨o,e,ex.1⟩,λa e2=>?_⟩;cases e2;exact⟨o,e,ex.2.1⟩
 | _=>exact False.elim ty
noncomputable def TY(K:PySem.W.Frag)(T:String)(r:V->List V->Hp->VK->Prop)(to:TE)(t:TA):TE:=λσ H Q=>to σ H λx H1=>Qn K T x H1/\t σ H1 λxs H2=>r x xs H2 Q
variable {o e:Expr} {es:List Expr} {to:TE} {t:TA} {name:Str} {apos cpos:Pos} {T id:String} {r:V->List V->Hp->VK->Prop}
theorem AX(pa:PlainAttrs T)(slot:Slot T name id)(hty:typeOf (.builtin id)=pure (.type "method_descriptor"))(hm:MJ X id r)(ho:PE X o to)(ha:PA X (e::es) t)
  (hbase:attributeBase o name X.env (eval o X.env)=eval o X.env:=by rfl)
  (hfew:((backTo cpos (starEach (e::es) X.env)).all (λx=>!x.1)&&(backToKw cpos (keywordEach [] X.env)).all (λx=>x.1.isSome)
   && decide ((e::es).length+([]:List Keyword).length+(if ([]:List Keyword).isEmpty then 0 else 1)<30))=true:=by rfl)
  (hline:(apos.endLine==cpos.line)=true:=by rfl) (hs:starEach (e::es) X.env=(false,eval e X.env)::starEach es X.env:=by rfl) (hplain:(backTo cpos (starEach es X.env)).any (·.1)=false:=by rfl) :
  PE X (.Call (.Attribute o name apos) (e::es) [] cpos) (TY X.K T r to t):=by
 intro pins s σ H Q I h;refine wpAny_Call_method_late hbase hfew hline rfl (cu (ho pins s σ H _ I h) λv s1 aJ=>?_);obtain⟨x,H1,I1,r1,ty,q1⟩:=aJ;obtain⟨h1,h2⟩:=Je I1 r1 ty;refine⟨T,id,pa,slot,hty,h1,h2,?_⟩;have hA:=ha cpos pins s1 σ H1 _ I1 q1;rw[hs] at hA |-;refine Calls.callWith_builtin (by show (false||(backTo cpos (starEach es X.env)).any (·.1))=false;rw[hplain]<;>rfl) (Calls.evalArgs_plain ?_);exact cu hA λus s2 ⟨vs,H2,I2,r2,q2⟩=>hm pins s2 σ H2 x vs v us Q I2 r1 r2 q2
/- xs.append(e),list.index on a MM tuple .. are MJ facts of 06m -/
end
end L2
namespace L2
open PySem PySem.Spec PyProof.Rows
noncomputable def Qo(X:Cx)(id:String)(r:V->List V->Hp->VK->Prop):Prop :=
 ∀(pins:List (Addr×Obj)) (s:Shared) (σ:St) (H:Hp) (x:V) (xs:List V) (v:Value) (us:List Value) (Q:VK),Inv X pins σ H s->RelV x v->Vals xs us->r x xs H Q ->
  wpAny (model X.prog X.w) X.A (call (.builtin id) (v::us)) (EP X pins σ Q) X.xe s
theorem Vals.one:∀{x:V} {us:List Value},Vals [x] us->∃u,us=[u]/\RelV x u
 | _,_,.cons r .nil=>⟨_,rfl,r⟩
section
variable {X:Cx} {pins:List (Addr×Obj)} {σ:St} {H:Hp} {s:Shared} {l b:Addr} {xs ys zs:List V}
theorem Inv.Jf{its its':List Value}{n:Nat}{f:Array Value->Array Value}{t':Nat}(I:Inv X pins σ H s)(hH:H l=some (.lst xs))
  (e:s.heap.get? l=some { cls:=.type "list",data:=.seq its.toArray n }) (hf:f its.toArray=its'.toArray) (hv:Vals ys its') (hz:ys.length<=sizeLine) :
  Inv X pins σ (upd H l (.lst ys)) { s with heap:=s.heap.update l (Obj.mapSeq f),toks:=t' }:=by
 have q:=PySem.IsL.update e f;rw[hf] at q;refine I.write (x:=l) (e:=l) (by rw[hH];exact trivial) (.inl rfl) (λb' u hb hu=>(get?_update_other s.heap (Obj.mapSeq f) (Ne.symm hb)).trans hu) ⟨_,q⟩ ?_;exact⟨hz,its',_,hv,q⟩
theorem Inv.Qp{t':Nat}(I:Inv X pins σ H s)(hv:Vals ys its)(hz:ys.length<=sizeLine) :
  Inv X pins σ (upd H s.heap.objs.size (.lst ys)) { s with heap:=s.heap.push { cls:=.type "list",data:=.seq its.toArray },toks:=t' } :=
 I.laid (λ_ _ q=>get?_push_of_some _ q) (le_refl _) ⟨hz,its,0,hv,get?_push_size _ rfl⟩
theorem Inv.Ef(I:Inv X pins σ H s)(hH:H l=some (.lst xs)):xs.length<=sizeLine/\∃(its:List Value) (n:Nat),Vals xs its/\xs.length=its.length/\s.heap.get? l=some { cls:=.type "list",data:=.seq its.toArray n }:=by
 obtain⟨z,its,n,r,e⟩:=I.hok l _ hH;exact⟨z,its,n,r,r.length,e⟩
theorem t9{n:Nat}(h:n<=sizeLine):Builtin.List.listTooLong n=false:=by
 unfold Builtin.List.listTooLong;exact decide_eq_false (by omega)
end
section
variable {X:Cx}
noncomputable def Eg:V->List V->Hp->VK->Prop:=λx vs H Q=>∃l xs y,x=.ref l/\vs=[y]/\H l=some (.lst xs)/\xs.length<sizeLine/\Q .non (upd H l (.lst (xs++[y])))
theorem qK:Qo X "list.append" Eg:=by
 intro pins s σ H x vs v us Q I rx rv h;obtain⟨l,xs,y,rfl,rfl,hH,hz,q⟩:=h;cases rx;obtain⟨u,rfl,ru⟩:=rv.one;obtain⟨z,its,n,r,hl,e⟩:=I.Ef hH;refine call_meets F.slot_list_append ⟨_,e,rfl⟩ F.entry_list_append (F.args_list_append_2 _ _) (PySem.list_append l its.toArray n u (by rw[size_toArray];omega)) ⟨e,?_⟩;refine⟨.non,_,I.Jf (its':=its++[u]) hH e (by simp) (r.append (.cons ru .nil)) ?_,rfl,q⟩;rw[length_append,List.length_singleton];omega
noncomputable def Eh:V->List V->Hp->VK->Prop:=λx vs H Q=>∃l b xs zs,x=.ref l/\vs=[.ref b]/\H l=some (.lst xs)/\H b=some (.lst zs)/\xs.length+zs.length<=sizeLine/\Q .non (upd H l (.lst (xs++zs)))
theorem zx:Qo X "list.extend" Eh:=by
 intro pins s σ H x vs v us Q I rx rv h;obtain⟨l,b,xs,zs,rfl,rfl,hH,hB,hz,q⟩:=h;cases rx;obtain⟨u,rfl,ru⟩:=rv.one;cases ru;obtain⟨z,its,n,r,hl,e⟩:=I.Ef hH;obtain⟨z2,its2,n2,r2,hl2,e2⟩:=I.Ef hB;have hsz:its.toArray.size+its2.toArray.size<=sizeLine:=by rw[size_toArray,size_toArray];omega
 have AY:¬ (!its.toArray.isEmpty&&Builtin.List.listTooLong (its.toArray.size+its2.toArray.size))=true:=by rw[t9 hsz,Bool.and_false];exact Bool.false_ne_true
 refine call_meets F.slot_list_extend ⟨_,e,rfl⟩ F.entry_list_extend (F.args_list_extend_2 _ _)
  (AutoSeq1.list_extend_list_list_0 l its.toArray n b its2.toArray n2 AY (by rw[size_toArray];omega) (by omega)) ⟨e,e2,?_⟩
 refine⟨.non,_,I.Jf (its':=its++its2) hH e (by simp) (r.append r2) ?_,rfl,q⟩;rw[length_append];omega
end
section
variable {prog:Program} {w:World} {A:Around} {E:Value->Shared->Prop} {s:Shared}
end
section
variable {X:Cx}
end
end L2
namespace L2
open PySem PySem.Spec PyProof.Rows
section
variable {κ:Type} [DecidableEq κ]
noncomputable def gH(kvs:List (κ × V))(k:κ):Option V:=(kvs.find? λkv=>decide (kv.1=k)).map (·.2)
noncomputable def putK(kvs:List (κ × V))(k:κ)(v:V):List (κ × V) :=
 if (kvs.any λkv=>decide (kv.1=k))=true then kvs.map (λkv=>if kv.1=k then (kv.1,v) else kv) else kvs++[(k,v)]
theorem oE{p:κ × V}{r:List (κ × V)}{k:κ}(e:p.1=k):gH (p::r) k=some p.2:=by simp[gH,find?_cons,e]
theorem oF{p:κ × V}{r:List (κ × V)}{k:κ}(e:¬ p.1=k):gH (p::r) k=gH r k:=by simp[gH,find?_cons,e]
theorem ua(k:κ):∀kvs:List (κ × V),(kvs.any λkv=>decide (kv.1=k))=(gH kvs k).isSome
 | []=>rfl
 | p::r=>by
  rw[any_cons]
  by_cases e:p.1=k
  ·simp only[oE e,decide_eq_true e,Bool.true_or,Option.isSome_some]
  ·rw[oF e,decide_eq_false e,Bool.false_or];exact ua k r
theorem jg(kvs:List (κ × V))(k:κ)(v:V):(putK kvs k v).length<=kvs.length+1:=by
 unfold putK
 split
 ·rw[length_map];omega
 ·rw[length_append,length_cons,length_nil];omega
theorem iZ.gU(r:iZ o u):o.isSome=u.isSome:=by
 cases o with
 | none=>cases u with
  | none=>rfl
  | some _=>exact(show False from r).elim
 | some _=>cases u with
  | none=>exact(show False from r).elim
  | some _=>rfl
theorem iZ.getD(r:iZ o u)(rd:RelV d d'):RelV (o.getD d) (u.getD d'):=by
 cases o with
 | none=>cases u with
  | none=>exact rd
  | some _=>exact(show False from r).elim
 | some _=>cases u with
  | none=>exact(show False from r).elim
  | some _=>exact r
theorem KV.val(r:KV kvs vs)(k:κ):iZ (gH kvs k) (valueAt vs k):=by
 unfold KV at r
 induction r with
 | nil=>exact True.intro
 | @cons p q ps qs h t ih =>
  obtain⟨h1,h2⟩:=h
  by_cases e:p.1=k
  ·have e':q.1=k:=h1.symm.trans e
   have b:valueAt (q::qs) k=some q.2:=by simp[valueAt,find?_cons,e']
   rw[oE e,b];exact h2
  ·have e':¬ q.1=k:=λz=>e (h1.trans z)
   have b:valueAt (q::qs) k=valueAt qs k:=by simp[valueAt,find?_cons,e']
   rw[oF e,b];exact ih
theorem KV.any(r:KV kvs vs)(k:κ):(kvs.any λkv=>decide (kv.1=k))=vs.any λkv=>decide (kv.1=k):=by
 unfold KV at r
 induction r with
 | nil=>rfl
 | cons h t ih=>rw[any_cons,any_cons,ih,h.1]
theorem KV.repl(r:KV kvs vs)(k:κ)(ry:RelV y u) :
  KV (kvs.map λkv=>if kv.1=k then (kv.1,y) else kv) (vs.map λkv=>if kv.1=k then (kv.1,u) else kv):=by
 unfold KV at r |-
 induction r with
 | nil=>exact .nil
 | @cons p q ps qs h t ih =>
  rw[map_cons,map_cons];refine .cons ?_ ih;obtain⟨h1,h2⟩:=h
  by_cases e:p.1=k
  ·rw[if_pos e,if_pos (h1.symm.trans e)];exact⟨h1,ry⟩
  ·rw[if_neg e,if_neg (λz=>e (h1.trans z))];exact⟨h1,h2⟩
theorem KV.put(r:KV kvs vs)(k:κ)(ry:RelV y u):KV (putK kvs k y) (stored vs k u):=by
 unfold putK stored;rw[r.any k]
 by_cases e:(vs.any λkv=>decide (kv.1=k))=true
 ·rw[if_pos e,if_pos e];exact r.repl k ry
 ·rw[if_neg e,if_neg e];exact Paired.snoc r ⟨rfl,ry⟩
theorem KV.length(r:KV kvs vs):kvs.length=vs.length:=Paired.length r
end
theorem oG(r:RelV (kV k) u):(aU P w).is k u=true:=by
 cases k with
 | inl i=>obtain⟨t,e⟩:=(show ∃t,u=Value.int i t from r);subst e;exact tO P w i t
 | inr x=>obtain⟨t,e⟩:=(show ∃t,u=Value.str x t from r);subst e;exact tQ P w x t
theorem qL:∀{ks:List Key} {us:List Value},Vals (ks.map kV) us->ItemsAre (aU P w) ks us
 | [],_,r=>by rw[map_nil] at r;cases r;exact .nil
 | k::ks,_,r=>by
  rw[map_cons] at r;cases r with
  | cons h t=>exact .cons (oG h) (qL t)
noncomputable abbrev KT(H:Hp):List (List Key×V)->List (List Key×Addr×Value)->Prop:=Paired λp q=>p.1=q.1/\H q.2.1=some (.tup (p.1.map kV))/\RelV p.2 q.2.2
theorem KT.val(r:KT H kvs xs)(k:List Key):iZ (gH kvs k) ((atKey xs k).map (·.2)):=by
 induction r with
 | nil=>exact True.intro
 | @cons p q ps qs h t ih =>
  obtain⟨h1,_,h2⟩:=h
  by_cases e:p.1=k
  ·have e':q.1=k:=h1.symm.trans e
   have b:atKey (q::qs) k=some q.2:=by simp[atKey,find?_cons,e']
   rw[oE e,b];exact h2
  ·have e':¬ q.1=k:=λz=>e (h1.trans z)
   have b:atKey (q::qs) k=atKey qs k:=by simp[atKey,find?_cons,e']
   rw[oF e,b];exact ih
theorem KT.repl(r:KT H kvs xs)(k:List Key)(ry:RelV y u) :
  KT H (kvs.map λkv=>if kv.1=k then (kv.1,y) else kv) (xs.map (putAt k u)):=by
 induction r with
 | nil=>exact .nil
 | @cons p q ps qs h t ih =>
  rw[map_cons,map_cons];refine .cons ?_ ih;obtain⟨h1,h2,h3⟩:=h;unfold putAt
  by_cases e:p.1=k
  ·rw[if_pos e,if_pos (h1.symm.trans e)];exact⟨h1,h2,ry⟩
  ·rw[if_neg e,if_neg (λz=>e (h1.trans z))];exact⟨h1,h2,h3⟩
theorem KT.put(r:KT H kvs xs)(k:List Key)(hb:H b=some (.tup (k.map kV)))(ry:RelV y u) :
  KT H (putK kvs k y) (storedH xs k b u):=by
 have e:(kvs.any λkv=>decide (kv.1=k))=(atKey xs k).isSome:=by rw[ua,(r.val k).gU,isSome_map]
 unfold putK storedH;rw[e]
 by_cases q:(atKey xs k).isSome=true
 ·rw[if_pos q,if_pos q];exact r.repl k ry
 ·rw[if_neg q,if_neg q];exact Paired.snoc r ⟨rfl,hb,ry⟩
theorem KT.keeps(r:KT H kvs xs)(ht:∀b ys,H b=some (.tup ys)->H' b=some (.tup ys)):KT H' kvs xs :=
 Paired.HZ r λ_ _ z=>⟨z.1,ht _ _ z.2.1,z.2.2⟩
section
variable {P:Program} {w:World} {H:Hp} {h:Heap} {a:Addr}
theorem GK(ok:kr P w H h)(e:Rd H a u):bx P w H h a u:=e.ok ok
theorem m5(ok:kr P w H h)(e:Rd H a (.dK kvs)):kvs.length<=sizeLine/\(a==sysModules)=false/\∃vs,KV kvs vs/\h.DictOf (aU P w) a vs :=
 show bx P w H h a (.dK kvs) from GK ok e
theorem xR(ok:kr P w H h)(e:H a=some (.dK kvs)):kvs.length<=sizeLine/\(a==sysModules)=false/\∃vs,KV kvs vs/\h.DictOf (aU P w) a vs:=m5 ok (.inl e)
theorem lV(ok:kr P w H h)(e:H a=some (.tup (ks.map kV))):(tupleKind (aU P w)).is h ks a:=by
 obtain⟨_,its,r,o,h1,h2,n,h3⟩:=(show bx P w H h a (.tup (ks.map kV)) from ok a _ e);exact⟨o,its.toArray,n,h1,h2,h3,by simpa using qL r⟩
theorem oH(ok:kr P w H h)(e:Rd H a (.dT kvs)):kvs.length<=sizeLine/\(a==sysModules)=false /\
  ∃xs,KT H kvs xs/\h.DictOfH (tupleKind (aU P w)) a xs:=by
 obtain⟨z,y,xs,r,o,es,ep,h1,h2,h3,h4,h5⟩:=(show bx P w H h a (.dT kvs) from GK ok e);refine⟨z,y,xs,r,o,es,ep,h1,h2,h3,h4,λx hx=>?_,h5⟩;have all:∀{l:List (List Key×V)} {m:List (List Key×Addr×Value)},KT H l m->∀x∈m,(tupleKind (aU P w)).is h x.1 x.2.1:=by
  intro l m q
  induction q with
  | nil=>intro x hx;exact nomatch hx
  | @cons p q ps qs hq t ih =>
   intro x hx
   rcases mem_cons.mp hx with e|hx
   ·subst e;exact lV ok (by rw[<-hq.1];exact hq.2.1)
   ·exact ih x hx
 exact all r x hx
theorem MN(ok:kr P w H h)(e:H a=some (.dT kvs)):kvs.length<=sizeLine/\(a==sysModules)=false /\
  ∃xs,KT H kvs xs/\h.DictOfH (tupleKind (aU P w)) a xs:=oH ok (.inl e)
end
noncomputable def jX(H:Hp)(a:Addr)(y:V)(r:Option V):Prop :=
 (∃kvs k,Rd H a (.dK kvs)/\y=kV k/\r=gH kvs k)\/∃kvs k b,Rd H a (.dT kvs)/\y=.ref b/\H b=some (.tup (k.map kV))/\r=gH kvs k
noncomputable def Ei(H:Hp)(a:Addr)(y v:V)(H':Hp):Prop :=
 (∃kvs k,H a=some (.dK kvs)/\y=kV k/\kvs.length<sizeLine/\H'=upd H a (.dK (putK kvs k v))) \/
 ∃kvs k b,H a=some (.dT kvs)/\y=.ref b/\H b=some (.tup (k.map kV))/\kvs.length<sizeLine/\H'=upd H a (.dT (putK kvs k v))
theorem jX.k{H:Hp}{a:Addr}{kvs:List (Key×V)}{k:Key}(e:H a=some (.dK kvs)):jX H a (kV k) (gH kvs k):=.inl ⟨kvs,k,.inl e,rfl,rfl⟩
theorem Ei.k{H:Hp}{a:Addr}{kvs:List (Key×V)}{k:Key}{v:V}(e:H a=some (.dK kvs))(hl:kvs.length<sizeLine):Ei H a (kV k) v (upd H a (.dK (putK kvs k v))):=.inl ⟨kvs,k,e,rfl,hl,rfl⟩
section
variable {X:Cx} {pins:List (Addr×Obj)} {σ:St} {H:Hp} {s:Shared} {a:Addr} {y v:V} {u r:Value} {o:Option V} {A:Around} {E:Value->Shared->Prop}
theorem Inv.big(I:Inv X pins σ H s):sysModules<s.heap.objs.size:=by
 have h:mainGlobals<s.heap.objs.size:=(I.mod.glob.keeps I.bk).lt;exact lt_trans (by decide) h
theorem zy(hu:A.units+1<cLine)(I:Inv X pins σ H s)(g:jX H a y (some v))(ry:RelV y u)(h:∀w' s',Inv X pins σ H s'->RelV v w'->Q w' s') :
  wpAny (model X.prog X.w) A (getItem (.ref a) u) Q E s:=by
 rcases g with ⟨kvs,k,e,ey,l⟩|⟨kvs,k,b,e,ey,eb,l⟩
 ·subst ey;obtain⟨z,hd,vs,rel,dd⟩:=m5 I.hok e;obtain⟨w',hw,rw'⟩:=iZ.some_of (v:=v) (o:=valueAt vs k) (by rw[l];exact rel.val k);exact wpAny_getItem_of (oG ry) dd.mapOf hw (h w' _ (I.tok _) rw')
 ·subst ey;cases (show u=Value.ref b from ry);obtain⟨z,hd,xs,rel,dd⟩:=oH I.hok e;obtain⟨w',hw,rw'⟩:=iZ.some_of (v:=v) (o:=(atKey xs k).map (·.2)) (by rw[l];exact rel.val k);obtain⟨p,hp,hp2⟩:=map_eq_some_iff.mp hw;refine wpAny_getItem_heap (tupleKind_room_in1 hu) (lV I.hok eb) dd hp ?_;rw[hp2];exact h w' _ (I.tok _) rw'
theorem Qq(hu:A.units+1<cLine)(I:Inv X pins σ H s)(g:jX H a y o)(ry:RelV y u)(h:∀s',Inv X pins σ H s'->Q (.bool o.isSome) s') :
  wpAny (model X.prog X.w) A (compareOp .In u (.ref a)) Q E s:=by
 rcases g with ⟨kvs,k,e,ey,l⟩|⟨kvs,k,b,e,ey,eb,l⟩
 ·subst ey;obtain⟨z,hd,vs,rel,dd⟩:=m5 I.hok e;refine wpAny_in_of (oG ry) hd dd.mapOf ?_;rw[<-(rel.val k).gU,<-l];exact h _ (I.tok _)
 ·subst ey;cases (show u=Value.ref b from ry);obtain⟨z,hd,xs,rel,dd⟩:=oH I.hok e;refine wpAny_in_heap (tupleKind_room_in1 hu) (lV I.hok eb) hd dd ?_;have q:=(rel.val k).gU;rw[isSome_map] at q;rw[<-q,<-l];exact h _ (I.tok _)
theorem Ej(hu:A.units+1<cLine)(I:Inv X pins σ H s)(g:jX H a y o)(ry:RelV y u)(h:∀s',Inv X pins σ H s'->Q (.bool (!o.isSome)) s') :
  wpAny (model X.prog X.w) A (compareOp .NotIn u (.ref a)) Q E s:=by
 rcases g with ⟨kvs,k,e,ey,l⟩|⟨kvs,k,b,e,ey,eb,l⟩
 ·subst ey;obtain⟨z,hd,vs,rel,dd⟩:=m5 I.hok e;refine wpAny_notIn_of (oG ry) hd dd.mapOf ?_;rw[<-(rel.val k).gU,<-l];exact h _ (I.tok _)
 ·subst ey;cases (show u=Value.ref b from ry);obtain⟨z,hd,xs,rel,dd⟩:=oH I.hok e;refine wpAny_notIn_heap (tupleKind_room_in1 hu) (lV I.hok eb) hd dd ?_;have q:=(rel.val k).gU;rw[isSome_map] at q;rw[<-q,<-l];exact h _ (I.tok _)
theorem sj{t':Nat}(I:Inv X pins σ H s)(mu:LU (H a))(hs:Heap.SameBut a s.heap h')(he:∃q,h'.get? a=some q)(new:bx X.prog X.w (upd H a ob) h' a ob) :
  Inv X pins σ (upd H a ob) { s with heap:=h',toks:=t' } :=
 I.write (x:=a) (e:=a) mu (.inl rfl) (λb q hb z=>(hs.2 b hb).trans z) he new
theorem AZ(z:kvs.length<=sizeLine)(hd:(a==sysModules)=false)(rel:KV kvs vs)(dd:h'.DictOf (aU P w) a vs) :
  bx P w H' h' a (.dK kvs):=⟨z,hd,vs,rel,dd⟩
theorem zz(hu:A.units+1<cLine)(I:Inv X pins σ H s)(g:Ei H a y v H')(ry:RelV y u)(rv:RelV v r)(h:∀s',Inv X pins σ H' s'->Q () s') :
  wpAny (model X.prog X.w) A (setItem (.ref a) u r) Q E s:=by
 rcases g with ⟨kvs,k,e,ey,l,eH⟩|⟨kvs,k,b,e,ey,eb,l,eH⟩
 ·subst ey eH
  obtain⟨z,hd,vs,rel,dd⟩:=xR I.hok e;have hz:vs.length<=sizeLine:=by rw[<-rel.length];exact z
  have hl:(putK kvs k v).length<=sizeLine:=by have:=jg kvs k v;omega
  refine wpAny_setItem_pairs (hsz:=hz) (oG ry) dd λh' Jg hs=>h _ ?_;have he:∃q,h'.get? a=some q:=let ⟨q,_,_,hq,_⟩:=Jg;⟨q,hq⟩
  exact sj I (by rw[e];exact True.intro) hs he (AZ hl hd (rel.put k rv) Jg)
 ·subst ey eH
  cases (show u=Value.ref b from ry);obtain⟨z,hd,xs,rel,dd⟩:=MN I.hok e;have hz:xs.length<=sizeLine:=by rw[<-Paired.length rel];exact z
  have hl:(putK kvs k v).length<=sizeLine:=by have:=jg kvs k v;omega
  refine wpAny_setItem_heap (hsz:=hz) (tupleKind_room_in1 hu) (lV I.hok eb) dd λh' Jg hs=>h _ ?_;obtain⟨q,es,ep,hq,h2,h3,h4,_,h5⟩:=Jg;refine sj I (by rw[e];exact True.intro) hs ⟨q,hq⟩ ⟨hl,hd,_,(rel.put k eb rv).keeps λc ys ec=>?_,q,es,ep,hq,h2,h3,h4,h5⟩;rw[az (LS ec e (λz=>nomatch z))];exact ec
end
section
variable {X:Cx} {pins:List (Addr×Obj)} {σ:St} {H:Hp} {s:Shared} {a:Addr} {kvs:List (Key×V)} {k:Key} {u:Value} {A:Around} {E:Value->Shared->Prop}
theorem MO(I:Inv X pins σ H s)(e:Rd H a (.dK kvs))(h:∀t s',Inv X pins σ H s'->Q (.int kvs.length t) s'):wpAny (model X.prog X.w) A (call (.builtin "len") [.ref a]) Q E s:=by
 obtain⟨z,hd,vs,rel,dd⟩:=m5 I.hok e;refine call_len_dict hd dd (by rw[<-rel.length];rw[sizeLine_eq] at z;omega) ?_;rw[<-rel.length];exact h _ _ (I.tok _)
end
theorem uc(I:Inv X pins σ H s)(g:jX H a y o):s.TypeIs (.ref a) "dict":=by
 rcases g with ⟨kvs,k,e,_,_⟩|⟨kvs,k,b,e,_,_,_⟩
 ·obtain⟨_,_,vs,_,dd⟩:=m5 I.hok e;exact dd.typeIs
 ·obtain⟨_,_,xs,_,dd⟩:=oH I.hok e;exact dd.typeIs
section
variable {X:Cx} {o i e value:Expr} {pos pos' tpos:Pos} {td ty tv:TE}
end
theorem ud(h:Heap)(hb:sysModules<h.objs.size):bx P w H (h.push { cls:=.type "dict",data:=.dict #[] }) h.objs.size (.dK []) :=
 ⟨zero_le _,beq_eq_false_iff_ne.mpr (Ne.symm (ne_of_lt hb)),[],.nil,Heap.DictOf.new h⟩
noncomputable def Jh:TE:=λ_ H Q=>∀p,H p=none->Q (.ref p) (upd H p (.dK []))
section
variable {X:Cx} {pos:Pos}
theorem A6:PE X (.Dict [] [] pos) Jh:=λpins s σ H Q I h =>
 wpAny_Dict_empty ⟨.ref s.heap.objs.size,_,I.laid (a:=s.heap.objs.size) (o:=.dK []) (t':=s.toks) (λ_ _ q=>get?_push_of_some _ q) (le_refl _) (ud s.heap I.big),rfl,h _ (I.hok.fresh (le_refl _))⟩
end
noncomputable def wo:List (TE×TE)->St->Hp->(List (V×V)->Hp->Prop)->Prop
 | [],_,H,Q=>Q [] H
 | (tk,tv)::r,σ,H,Q=>tk σ H λx H1=>tv σ H1 λy H2=>wo r σ H2 λps H3=>Q ((x,y)::ps) H3
noncomputable abbrev VV:List (V×V)->List (Value×Value)->Prop:=Paired λp q=>RelV p.1 q.1/\RelV p.2 q.2
noncomputable def Pe(X:Cx)(pos:Pos)(keys:List (Option Expr))(values:List Expr)(Ji:List (TE×TE)):Prop :=
 ∀(pins:List (Addr×Obj)) (s:Shared) (σ:St) (H:Hp) (Q:List (V×V)->Hp->Prop),Inv X pins σ H s->wo Ji σ H Q ->
  wpAny (model X.prog X.w) X.A (evalPairs (pairTrees keys values X.env pos)) (λvs s'=>∃ps H',Inv X pins σ H' s'/\VV ps vs/\Q ps H') X.xe s
theorem Ek:Pe X pos [] [] []:=λpins s σ H Q I h=>pairTrees_nil_walk ⟨[],H,I,.nil,h⟩
theorem A8(hk:PE X k tk)(hv:PE X v tv)(hr:Pe X pos ks vs Ji) :
  Pe X pos (some k::ks) (v::vs) ((tk,tv)::Ji):=λpins s σ H Q I h =>
 pairTrees_cons_walk (cu (hk pins s σ H _ I h) λu s1 ⟨x,H1,I1,rx,q1⟩=>cu (hv pins s1 σ H1 _ I1 q1) λw2 s2 ⟨y,H2,I2,ry,q2⟩ =>
  cu (hr pins s2 σ H2 _ I2 q2) λws s3 ⟨ps,H3,I3,rel,q3⟩=>⟨(x,y)::ps,H3,I3,.cons ⟨rx,ry⟩ rel,q3⟩)
noncomputable def lW(kvs more:List (Key×V)):List (Key×V):=more.foldl (λacc kv=>putK acc kv.1 kv.2) kvs
theorem KV.merge:∀{more:List (Key×V)} {rs:List (Key×Value)} {kvs:List (Key×V)} {vs:List (Key×Value)},KV more rs->KV kvs vs->KV (lW kvs more) (merged vs rs):=by
 intro more rs kvs vs r;unfold KV at r
 induction r generalizing kvs vs with
 | nil=>intro q;exact q
 | @cons p q ps qs h t ih =>
  intro r0;have e:KV (putK kvs p.1 p.2) (stored vs q.1 q.2):=by have:=r0.put p.1 h.2;rw[<-h.1];exact this
  exact ih e
theorem j9:∀(more kvs:List (Key×V)),(lW kvs more).length<=kvs.length+more.length
 | [],kvs=>by show kvs.length<=kvs.length+0;omega
 | p::r,kvs=>by
  have h1:=j9 r (putK kvs p.1 p.2);have h2:=jg kvs p.1 p.2;show (lW (putK kvs p.1 p.2) r).length<=_;rw[length_cons];omega
theorem oJ:∀{kvs:List (Key×V)} {ws:List (Value×Value)},VV (kvs.map λkv=>(kV kv.1,kv.2)) ws->∃rs,Carries (aU P w) ws rs/\KV kvs rs
 | [],_,r=>by rw[map_nil] at r;cases r;exact⟨[],True.intro,.nil⟩
 | p::kvs,_,r=>by
  rw[map_cons] at r;cases r with
  | @cons a b as bs h t =>obtain⟨rs,c,q⟩:=oJ (P:=P) (w:=w) t;obtain⟨b1,b2⟩:=b;exact⟨(p.1,b2)::rs,⟨oG h.1,rfl,c⟩,.cons ⟨rfl,h.2⟩ q⟩
noncomputable def MP(Ji:List (TE×TE)):TE:=λσ H Q=>∀p,H p=none->wo Ji σ (upd H p (.dK [])) λps H2=>H2 p=some (.dK [])/\∃kvs:List (Key×V),ps=kvs.map (λkv=>(kV kv.1,kv.2))/\kvs.length<=15/\Q (.ref p) (upd H2 p (.dK (lW [] kvs)))
theorem El(h:Pe X pos keys values Ji)(hall:keys.all (·.isSome)=true)(hl:keys.length=values.length)(h0:keys≠[])
  (Vt:keys.length<=15):PE X (.Dict keys values pos) (MP Ji):=by
 intro pins s σ H Q I q;have hn:=I.hok.fresh (le_refl s.heap.objs.size);have I1:=I.laid (a:=s.heap.objs.size) (o:=.dK []) (h':=s.heap.push { cls:=.type "dict",data:=.dict #[] }) (t':=s.toks) (λ_ _ q=>get?_push_of_some _ q) (le_refl _) (ud s.heap I.big);refine wpAny_Dict_walk (knd:=aU X.prog X.w) hall hl h0 Vt (cu (h pins _ σ _ _ I1 (q _ hn)) λws s2 aJ=>?_);obtain⟨ps,H2,I2,rel,e,kvs,ep,lk,q2⟩:=aJ;subst ep;obtain⟨rs,c,rk⟩:=oJ (P:=X.prog) (w:=X.w) rel;obtain⟨z,hd,YW,r0,dd⟩:=xR I2.hok e;cases r0;refine⟨rs,c,dd,λh' Jg hs=>⟨.ref s.heap.objs.size,_,?_,rfl,q2⟩⟩;have hz:(lW [] kvs).length<=sizeLine:=by have h1:=j9 kvs [];rw[length_nil] at h1;rw[sizeLine_eq];omega
 have he:∃q,h'.get? s.heap.objs.size=some q:=let ⟨q,_,_,hq,_⟩:=Jg;⟨q,hq⟩
 exact sj I2 (by rw[e];exact True.intro) hs he (AZ hz hd (rk.merge .nil) Jg)
structure M2 (X:Cx) (o:Expr) (m:Str) (apos:Pos) (e f:Expr) (cpos:Pos):Prop where
 base:attributeBase o m X.env (eval o X.env)=eval o X.env
 few:((backTo cpos (starEach [e,f] X.env)).all (λx=>!x.1)&&(backToKw cpos (keywordEach [] X.env)).all (λx=>x.1.isSome)
  && decide (([e,f]:List Expr).length+([]:List Keyword).length+(if ([]:List Keyword).isEmpty then 0 else 1)<30))=true
 line:(apos.endLine==cpos.line)=true
 trees:backTo cpos (starEach [e,f] X.env)=[(false,eval e X.env),(false,eval f X.env)]
noncomputable def TZ(H:Hp)(a:Addr):Prop:=(∃kvs,Rd H a (.dK kvs))\/∃kvs,Rd H a (.dT kvs)
theorem wu(I:Inv X pins σ H s)(d:TZ H a) :
  s.TypeIs (.ref a) "dict" /\ (∀b,Value.ref a=.ref b->∃ob,s.heap.get? b=some ob/\ob.dict=none)/\(a==sysModules)=false:=by
 rcases d with ⟨kvs,e⟩|⟨kvs,e⟩
 ·obtain⟨_,hd,vs,_,dd⟩:=m5 I.hok e;refine⟨dd.typeIs,λb q=>?_,hd⟩;cases q;obtain⟨ob,_,_,h1,h2,_⟩:=dd;exact⟨ob,h1,h2.2.1⟩
 ·obtain⟨_,hd,xs,_,dd⟩:=oH I.hok e;refine⟨dd.typeIs,λb q=>?_,hd⟩;cases q;obtain⟨ob,_,_,h1,h2,_⟩:=dd;exact⟨ob,h1,h2.2.1⟩
section
variable {X:Cx} {pins:List (Addr×Obj)} {σ:St} {H:Hp} {s:Shared} {a:Addr} {y d:V} {u r:Value} {o:Option V} {A:Around} {E:Value->Shared->Prop}
theorem Jj(hu:A.units+1<cLine)(I:Inv X pins σ H s)(g:jX H a y o)(ry:RelV y u)(rd:RelV d r)(h:∀w' s',Inv X pins σ H s'->RelV (o.getD d) w'->Q w' s') :
  wpAny (model X.prog X.w) A (call (.builtin "dict.get") [.ref a,u,r]) Q E s:=by
 rcases g with ⟨kvs,k,e,ey,l⟩|⟨kvs,k,b,e,ey,eb,l⟩
 ·subst ey;obtain⟨z,hd,vs,rel,dd⟩:=m5 I.hok e;refine call_meetsIn PySem.F.slot_dict_get dd.typeIs PySem.F.entry_dict_get (PySem.F.args_dict_get_3 _ _ _) (meets_dict_get_default (aU X.prog X.w) a (oG ry) hd r) ⟨_,dd.mapOf,h _ _ (I.tok _) ?_⟩;rw[l];exact(rel.val k).getD rd
 ·subst ey;cases (show u=Value.ref b from ry);obtain⟨z,hd,xs,rel,dd⟩:=oH I.hok e;refine call_meetsIn PySem.F.slot_dict_get dd.typeIs PySem.F.entry_dict_get (PySem.F.args_dict_get_3 _ _ _) (meetsH_dict_get_default (tupleKind (aU X.prog X.w)) a b hd r) ⟨tupleKind_room_in1 hu,k,xs,lV I.hok eb,dd,h _ _ (I.tok _) ?_⟩;rw[l];exact(rel.val k).getD rd
end
noncomputable def Jk(td ty tx:TE):TE:=λσ H Q=>td σ H λx H1=>∃a,x=.ref a/\TZ H1 a/\ty σ H1 λy H2=>tx σ H2 λz H3=>∃o,jX H3 a y o/\Q (o.getD z) H3
section
variable {X:Cx} {o e f:Expr} {apos cpos:Pos} {td ty tx:TE}
theorem Ba(hu:X.A.units+1<cLine)(ho:PE X o td)(he:PE X e ty)(hf:PE X f tx)(m:M2 X o "get" apos e f cpos):PE X (.Call (.Attribute o "get" apos) [e,f] [] cpos) (Jk td ty tx):=by
 intro pins s σ H Q I h;refine wpAny_Call_method m.base m.few m.line PySem.F.plainAttrs_dict PySem.F.slot_dict_get PySem.F.type_dict_get (cu (ho pins s σ H _ I h) λu s1 aJ=>?_);obtain⟨x,H1,I1,rx,a,ex,d,q1⟩:=aJ;subst ex;obtain rfl:u=Value.ref a:=rx;obtain⟨t1,t2,_⟩:=wu I1 d;refine⟨t1,t2,?_⟩;rw[m.trees];refine Calls.callWith_builtin rfl (Calls.evalArgs_plain (Calls.spliced_cons (cu (he pins s1 σ H1 _ I1 q1) λiv s2 ⟨y,H2,I2,ry,q2⟩ =>
  Calls.spliced_cons (cu (hf pins s2 σ H2 _ I2 q2) λfv s3 ⟨z,H3,I3,rz,ov,g,q3⟩=>Calls.spliced_nil ?_))))
 exact Jj hu I3 g ry rz λw' s4 I4 rw'=>⟨_,H3,I4,rw',q3⟩
end
section
variable {X:Cx} {pins:List (Addr×Obj)} {σ:St} {H:Hp} {s:Shared} {a:Addr} {kvs:List (Key×V)} {A:Around} {E:Value->Shared->Prop}
end
section
variable {X:Cx} {pins:List (Addr×Obj)} {σ:St} {H:Hp} {s:Shared} {a:Addr} {y:V} {u:Value} {A:Around} {E:Value->Shared->Prop}
end
end L2
namespace T4
open PySem PySem.W PySem.Calls PyProof.Rows
theorem nH:∀(ns:List Int) (vs:List Value),WellAll P h vs (ns.map WData.int)->IntsAre vs ns:=by
 intro ns
 induction ns with
 | nil =>intro vs w;rw[map_nil] at w;cases w;exact .nil
 | cons n ns ih =>
  intro vs w;rw[map_cons] at w;cases w with
  | cons a b =>cases a;exact .cons _ _ (ih _ b)
theorem zA{l:OpenLaw}{n:Nat}(hn:l.most=some n){P:Params}{h:Heap}{args:List WData}{vals:List Value}
  (hpre:l.row.toRowW.claim.pre args=true) (hwl:WellAll P h vals args) :
  ∃a vs ns,vals=[Value.ref a]/\args=[WData.list (ns.map WData.int)]/\h.get? a=some { cls:=.type "list",data:=.seq vs.toArray }/\IntsAre vs ns/\ns.length<=n:=by
 have hsh:WShape.hasAll [] args [.list .int]=true:=(pre_splitW hpre).1;have hc:l.pre.holds [] { args:=args }=true:=(pre_splitW hpre).2;obtain⟨d,r,rfl,h1,h2⟩:=hasAllW_cons hsh;obtain rfl:=hasAllW_nil h2;obtain⟨xs,rfl,h3⟩:=hasW_list h1;obtain⟨ns,rfl⟩:=items_int h3;have hlen:ns.length<=n:=by
  unfold OpenLaw.pre at hc;have h4:(WTm.not (.lt (.lit (.int (n:Int))) (.len (.arg 0)))).holds [] { args:=[.list (ns.map .int)] }=true:=by have h4:=(holds_andW hc).1;rw[hn] at h4;exact h4
  have h5:=condW_of h4 (w_not (w_lt w_lit (w_len_list (w_arg rfl))));rw[length_map] at h5;refine Nat.le_of_not_lt λq=>?_;have q':(n:Int)<((ns.length:Nat):Int):=by omega
  first
   | (rw[decide_eq_true q'] at h5;exact absurd h5 (by decide))
   | (simp at h5;omega)
 cases hwl with
 | cons w1 w2 =>
  cases w2;cases w1 with
  | list ho hall=>exact⟨_,_,ns,rfl,rfl,ho,nH ns _ hall,hlen⟩
theorem zB(l:OpenLaw)(args:List WData):l.row.toRowW.claim.post args (.bool true) args=true :=
 postW_of (r:=l.row.toRowW) (X:=(true==true))
  (show WShape.has [] (.bool true) .bool=true by first|rfl|decide|simp[WShape.has,WShape.arms,WShape.armsAll])
  (show (WTm.eq .res (.lit (.bool true))).value [] { args:=args,res:=some (.bool true),after:=args }=some (.bool (true==true)) from w_eq_bool (w_res rfl) w_lit) rfl
theorem ue{l:OpenLaw}{n:Nat}{q:Program}{loose:List Str}{XP:(Str->Option Value)->Heap->Prop}{YP:World->Heap->Prop}{d:DefRec}
  (hn:l.most=some n) (hdf:d.params.defaults=[])
  (call:∀(w:World) (s₀ s₁:Shared) (mg mb:Str->Option Value) (fa:Addr) (o:Obj) (pm cd doc:Value) (a:Addr) (vs:List Value) (ns:List Int),
   Ground q loose [] XP w s₀ mg mb s₁.heap->YP w s₁.heap ->
   s₁.heap.get? fa=some o->o.data=.func (docDef d.name d.params d.body d.scope pm cd doc)->s₁.heap.CodeRec cd d.name->mg d.name=some (.ref fa) ->
   s₁.heap.get? a=some { cls:=.type "list",data:=.seq vs.toArray }->IntsAre vs ns->ns.length<=n->s₁.gens = #[] ->
   codeAny (model l.prog w) callerA (.call (.ref fa) ⟨[.ref a],[]⟩) (λr s'=>r=.ok (.ret (.bool true))/\OldK s₁.heap s'.heap/\s'.os=s₁.os/\AllBare s'.gens) s₁) :
  WalkO q loose XP YP l.row.toRowW d [] (λf vs=>PySem.call f vs):=by
 intro w s₀ s₁ mg mb G Y fa o pm cd doc dV kV ho hd hcd hD hmg hg args vals as hpre hlay hrd hwl hlo;obtain rfl:dV=.none:=Dflts.none hD hdf;obtain rfl:kV=.none:=Dflts.noKw hD;obtain⟨a,vs,ns,rfl,rfl,hobj,hints,hlen⟩:=zA hn hpre hwl;refine enter_call (codeAny_mono (call w s₀ s₁ mg mb fa o pm cd doc a vs ns G Y ho (fd_plain hd) hcd hmg hobj hints hlen hg) λr s' hq=>?_);obtain⟨rfl,h2,h3,h4⟩:=hq;exact⟨.inl ⟨.bool true,.bool true,[],rfl,λ_=>rfl,.bool true,zB l _,λ_=>⟨List.Pairwise.nil,λ_ hm=>(nomatch hm)⟩⟩,h2,h3,h4⟩
section
variable {prog:Program} {w:World} {A:Around} {E:Value->Shared->Prop} {s:Shared} {K:Frag}
noncomputable def ledger(h:Heap)(L d:Addr):List (Addr×Obj):=(List.range h.objs.size).filterMap λa=>if a=L\/a=d then none else (h.get? a).map λo=>(a,o)
end
end T4
namespace L2
open PySem PySem.Spec PyProof.Rows
theorem gW:∀{vs:List Value} {ns:List Int},IntsAre vs ns->Vals (ns.map V.int) vs
 | _,_,.nil=>.nil
 | _,_,.cons n t h=>.cons ⟨t,rfl⟩ (gW h)
noncomputable def Bb(H:Hp):Prop:=∀b,H b=none\/∃o xs,H b=some (.nL o (.lst xs))
theorem Bc{P:Program}{w:World}{K:PySem.W.Frag}{mg mb:Str->Option Value}{CX:zu}{k:Nat}{fa a:Addr}{fd:FuncData}{x:Str}{sp:Sp}{s₁:Shared}{vs:List Value}{ns:List Int}
  (KX:K.In s₁.heap) (hns:s₁.heap.Ns mainGlobals mg) (hb:s₁.heap.Ns builtinsNs mb) (Vu:∀x:Str,x ≠ "__name__" -> mb x=bootBuiltins x) (hlim:s₁.heap.NoLimit) (hg:s₁.gens = #[])
  (ha:s₁.heap.get? a=some { cls:=.type "list",data:=.seq vs.toArray }) (hi:IntsAre vs ns) (hl:ns.length<=sizeLine) (hr:cW k callerA)
  (F:∀base:Heap,K.In base->base.Ns mainGlobals mg->eB P w K mg base CX k fa fd [x] sp) (hbind:∀(s:Shared) (u:Value),BindsTo s fd ⟨[u],[]⟩ [(x,u)])
  (hsp:∀H:Hp,Bb H->gz K H a (ns.map V.int)->sp [.ref a] H (λv _=>v=.bl true) λ_ _ _=>False)
  (hCX:∀H e s',CX [] H s₁ (λ_ _ _=>False) e s'->False) :
  codeAny (model P w) callerA (.call (.ref fa) ⟨[.ref a],[]⟩) (λr s'=>r=.ok (.ret (.bool true))/\OldK s₁.heap s'.heap/\s'.os=s₁.os/\AllBare s'.gens) s₁:=by
 have rv:=gW hi;have Qs:=hi.length;have core:∀H:Hp,Bb H->gz K H a (ns.map V.int)->kr P w H s₁.heap->(∀b,H b≠none->b=a)->(H a≠none->K.lookup a=none) ->
   codeAny (model P w) callerA (.call (.ref fa) ⟨[.ref a],[]⟩) (λr s'=>r=.ok (.ret (.bool true))/\OldK s₁.heap s'.heap/\s'.os=s₁.os/\AllBare s'.gens) s₁:=by
  intro H hO hS hok hA hK;have base_of:∀{b:Addr} {o:Obj},s₁.heap.get? b=some o->H b=none->(r6 s₁.heap H).get? b=some o:=λe n=>AB e n;have noA:∀{b:Addr} {o:Obj} {es:Array DictEntry} {ep:Nat},s₁.heap.get? b=some o->o.data=.dict es ep->H b=none:=λ{b o es ep} e d=>by
   cases q:H b with
   | none=>rfl
   | some u =>have e':b=a:=hA b (by rw[q];simp);subst e';rw[ha] at e;cases e;have d':Data.seq vs.toArray _=Data.dict es ep:=d;cases d'
  have nsK:∀{b:Addr} {m:Str->Option Value},s₁.heap.Ns b m->(r6 s₁.heap H).Ns b m:=λ{b m} ⟨o,es,ep,e,d,r⟩=>⟨o,es,ep,base_of e (noA e d),d,r⟩;have T5:K.In (r6 s₁.heap H):=λb o e=>base_of (KX b o e) (by
   cases q:H b with
   | none=>rfl
   | some u =>have e':b=a:=hA b (by rw[q];simp);subst e';rw[hK (by rw[q];simp)] at e;cases e)
  have hM:Mod K mg (r6 s₁.heap H):=⟨T5,nsK hns,⟨mb,nsK hb,Vu⟩,let ⟨mc,h1,h2⟩:=hlim;⟨mc,nsK h1,h2⟩⟩;have e0:wc P w K mg (r6 s₁.heap H) callerA [] s₁ H:=⟨rfl,hM,λb o e=>DN e,Nat.le_of_eq (zc _ _),trivial,λb hb=>absurd (show b∈([]:List Addr) from hb) (by simp),hok,.of_eq hg⟩;refine codeAny_mono ((F _ T5 (nsK hns)).run callerA [] s₁ H ⟨[.ref a],[]⟩ [.ref a] [.ref a] _ _ hr e0 (hbind s₁ (.ref a)) (.cons rfl .nil) (hsp H hO hS)) λr s' h=>?_;cases r with
  | error e=>exact(hCX H e s' h).elim
  | ok fl =>
   cases fl with
   | next=>exact False.elim h
   | brk=>exact False.elim h
   | cont=>exact False.elim h
   | ret u =>
    obtain⟨v,H',os,bare,un,Qt,r',q⟩:=h;have q':v=.bl true:=q;subst q';obtain rfl:u=Value.bool true:=r';refine⟨rfl,OldK.of_keep λb o e=>?_,os,bare⟩;cases q:H b with
    | none=>exact un.keep b o e q (by intro z;exact absurd (show b∈([]:List Addr) from z) (by simp)) (by simp)
    | some u =>
     rcases hO b with z|⟨ob,xs,z⟩
     ·rw[q] at z;cases z
     ·have z2:=un.frzs b ob _ z;obtain⟨e1,_⟩:=hok b _ z;obtain⟨e2,_⟩:=Qt b _ z2;rw[e] at e1;cases e1;exact e2
 cases hk:K.lookup a with
 | some o =>have e:=KX a o hk;rw[ha] at e;cases e;refine core (λ_=>none) (λ_=>.inl rfl) (.inr ⟨_,vs.toArray,_,hk,rfl,rfl,rfl,by rw[size_toArray,Qs];exact hl,by simpa using rv⟩) (λb u z=>by have z':(none:Option HO)=some u:=z;cases z') (λb z=>absurd rfl z) λz=>absurd rfl z
 | none =>
  refine core (λb=>if b=a then some (.nL { cls:=.type "list",data:=.seq vs.toArray } (.lst (ns.map V.int))) else none) (λb=>?_) (.inl (.inr ⟨{ cls:=.type "list",data:=.seq vs.toArray },if_pos rfl⟩)) (λb u z=>?_) (λb z=>?_) λ_=>hk
  ·by_cases hb:b=a
   ·exact .inr ⟨_,_,if_pos hb⟩
   ·exact .inl (if_neg hb)
  ·by_cases hb:b=a
   ·have z':=(if_pos hb).symm.trans z;cases z';subst hb;exact⟨ha,by rw[length_map];exact hl,vs,_,rv,ha⟩
   ·have z':=(if_neg hb).symm.trans z;cases z'
  ·by_cases hb:b=a
   ·exact hb
   ·exact absurd (if_neg hb) z
end L2
namespace L2
open PySem PySem.Spec PyProof.Rows
theorem Em{l:PySem.W.OpenLaw}{n k:Nat}{q:Program}{loose:List Str}{XP:(Str->Option Value)->Heap->Prop}{YP:World->Heap->Prop}{d:DefRec}{K:Params->PySem.W.Frag}{CX:World->zu}{sp:World->Sp}{x:Str}
  (hn:l.most=some n) (hn2:n<=sizeLine) (hdf:d.params.defaults=[]) (hr:cW k callerA)
  (hY:∀(w:World) (h:Heap),YP w h->(K w.params).In h)
  (F:∀(w:World) (mg:Str->Option Value) (fa:Addr) (h:Heap),(K w.params).In h->h.Ns mainGlobals mg->mg d.name=some (.ref fa) ->
   ∃fd:FuncData,(∀(s:Shared) (u:Value),BindsTo s fd ⟨[u],[]⟩ [(x,u)]) /\
    ∀base:Heap,(K w.params).In base->base.Ns mainGlobals mg->eB l.prog w (K w.params) mg base (CX w) k fa fd [x] (sp w))
  (hsp:∀(w:World) (H:Hp) (a:Addr) (ns:List Int),ns.length<=n->Bb H->gz (K w.params) H a (ns.map V.int)->sp w [.ref a] H (λv _=>v=.bl true) λ_ _ _=>False)
  (hCX:∀(w:World) (H:Hp) (s:Shared) (e:Value) (s':Shared),CX w [] H s (λ_ _ _=>False) e s'->False) :
  PySem.W.WalkO q loose XP YP l.row.toRowW d [] (λf vs=>PySem.call f vs):=by
 refine T4.ue hn hdf λw s₀ s₁ mg mb fa o pm cd doc a vs ns G Y ho hd hcd hmg hobj hints hlen hg=>?_;have KX:=hY w _ Y;obtain⟨fd,hb,hF⟩:=F w mg fa _ KX G.T.g hmg;exact Bc KX G.T.g G.T.b G.T.builtins G.T.nolimit hg hobj hints (le_trans hlen hn2) hr hF hb (λH hO hS=>hsp w H a ns hlen hO hS) λH e s'=>hCX w H s₁ e s'
end L2
namespace L2
open PySem PySem.Spec PyProof.Rows
noncomputable def aO(s:Stmt):Arguments:=match s with
 | .FunctionDef _ a _ _ _ _ _ _ _ _=>a
 | _=>{ posonlyargs:=[],args:=[],vararg:=none,kwonlyargs:=[],kw_defaults:=[],kwarg:=none,defaults:=[] }
noncomputable def aj(s:Stmt):List Stmt:=match s with
 | .FunctionDef _ _ b _ _ _ _ _ _ _=>b
 | _=>[]
noncomputable def af(s:Stmt):Scope:=match s with
 | .FunctionDef _ _ _ _ _ _ sc _ _ _=>sc
 | _=>{ kind:=.function,names:=[],isGenerator:=false,isCoroutine:=false }
noncomputable abbrev vM:zu:=λ_ _ _ _ _ _=>False
noncomputable abbrev E0:XK:=λ_ _ _=>False
theorem oK:Passes vM X E0:=λ_ _ _ _ _ _ _ h=>h.elim
structure En (K:PySem.W.Frag) (x qual:Str) (st:Stmt) (f:Addr) (fd:FuncData):Prop where
 ex:∃(oc:Value) (od:Option Addr) (kV doc pm:Value) (an:Option Addr) (cdv ct:Value) (osl:Array (Option Value)),
  fd=PySem.W.fnOf x qual (aO st) (aj st) (af st) .none kV doc pm an cdv ct/\K.lookup f=some ⟨oc,od,.func fd,osl⟩/\codeIn K cdv qual=true
 kp:keepIn K (.ref f)=true
section
variable {P:Program} {w:World} {K:PySem.W.Frag} {mg:Str->Option Value} {base:Heap}
theorem En.ok{x qual:Str}{st:Stmt}{f:Addr}{fd:FuncData}{N ps:List Str}{k:Nat}{sp:Sp}(F:En K x qual st f fd)(S:nO N ps (af st))(len:∀vs H Q E,sp vs H Q E->vs.length=ps.length)
  (hbody:∀(cdv:Value) (A:Around) (outer:List Env) (s:Shared) (H:Hp) (vs:List V) (Q:VK) (E:XK),cW k (A.deeper (envOfC qual (af st) s.heap.objs.size f cdv))->sp vs H Q E ->
   ∃t,vR (we vM P w K mg base N qual (af st) f cdv A outer s H E).Mh (aj st) t/\t { nx:=λ_ H'=>Q .non H',rt:=Q } (start N vs) H):eB P w K mg base vM (k+1) f fd ps sp:=by
 obtain⟨oc,od,kV,doc,pm,an,cdv,ct,osl,rfl,lk,hcd⟩:=F.ex;refine MG lk hcd S len λA outer s H vs Q E hr hsp=>?_;obtain⟨t,h,q⟩:=hbody cdv A outer s H vs Q E hr hsp;exact⟨t,h.Mh,q⟩
theorem En.binds{x qual:Str}{st:Stmt}{f:Addr}{fd:FuncData}{ps:List Str}(F:En K x qual st f fd)
  (h:∀(kV doc pm:Value) (an:Option Addr) (cdv ct:Value) (us:List Value),us.length=ps.length->bindArgs (PySem.W.fnOf x qual (aO st) (aj st) (af st) .none kV doc pm an cdv ct) ⟨us,[]⟩=pure (ps.zip us)):Binds K fd ps []:=by
 obtain⟨oc,od,kV,doc,pm,an,cdv,ct,osl,rfl,lk,hcd⟩:=F.ex;exact .all (h kV doc pm an cdv ct)
theorem bM{x qual:Str}{st:Stmt}{f:Addr}{oc:Value}{od an:Option Addr}{osl:Array (Option Value)}{kV doc pm cdv ct:Value}(l:K.lookup f=some ⟨oc,od,.func (PySem.W.fnOf x qual (aO st) (aj st) (af st) .none kV doc pm an cdv ct),osl⟩)
  (c:codeIn K cdv qual=true) (k:keepIn K (.ref f)=true):En K x qual st f (PySem.W.fnOf x qual (aO st) (aj st) (af st) .none kV doc pm an cdv ct):=⟨⟨oc,od,kV,doc,pm,an,cdv,ct,osl,rfl,l,c⟩,k⟩
end
section
variable {X:Cx}
theorem zC:cH X (.builtin "len") (λxs H Q=>∃a kvs,xs=[V.ref a]/\H a=some (.dK kvs)/\Q (.int kvs.length) H):=by
 intro pins s σ H xs us Q I r h;obtain⟨a,kvs,rfl,ha,q⟩:=h;obtain⟨u,rfl,ru⟩:=vals1 r;cases ru;exact MO I (.inl ha) λt s' I'=>⟨.int kvs.length,H,I',⟨t,rfl⟩,q⟩
end
noncomputable def wz(H H':Hp):Prop:=∀b o,H b=some o->H' b=some o
theorem wz.seq{K:PySem.W.Frag}{H H':Hp}{a:Addr}{xs:List V}(e:wz H H')(h:gz K H a xs):gz K H' a xs:=by
 rcases h with (h|⟨o,h⟩)|h
 ·exact .inl (.inl (e _ _ h))
 ·exact .inl (.inr ⟨o,e _ _ h⟩)
 ·exact .inr h
section
variable {κ:Type} [DecidableEq κ]
end
end L2
end
section
namespace L2
open PySem PySem.Spec PyProof.Rows
theorem kB(env:Env):∀(names:List (Str×NameKind)) (acc:List (Str×Addr)),(∀y∈names,y.2=.free->∃c,env.cells.lookup y.1=some c) ->
  (∀x c,acc.lookup x=some c->env.cells.lookup x=some c) ->
  ∃cl,(forIn names acc λx r=>if (x.snd==NameKind.free)=true then do let c <-cellOf env x.fst;pure (ForInStep.yield ((x.fst,c)::r)) else pure (ForInStep.yield r))=(pure cl:Sem (List (Str×Addr))) /\
   (∀x c,cl.lookup x=some c->env.cells.lookup x=some c)/\∀x,((x,NameKind.free)∈names\/∃c,acc.lookup x=some c)->∃c,cl.lookup x=some c
 | [],acc,_,ha=>⟨acc,rfl,ha,λx h=>h.elim (λz=>nomatch z) λz=>z⟩
 | (n,k)::r,acc,hn,ha=>by
  have hr:∀y∈r,y.2=NameKind.free->∃c,env.cells.lookup y.1=some c:=λy hy=>hn y (mem_cons_of_mem _ hy)
  by_cases hk:k=.free
  ·subst hk
   obtain⟨c,hc⟩:=hn (n,.free) mem_cons_self rfl;have ha':∀x d,((n,c)::acc).lookup x=some d->env.cells.lookup x=some d:=λx d h=>by
    rw[lookup_cons] at h;cases e:x==n with
    | true =>rw[e] at h;have e':x=n:=eq_of_beq e;cases h;rw[e'];exact hc
    | false=>rw[e] at h;exact ha x d h
   obtain⟨cl,e1,e2,e3⟩:=kB env r ((n,c)::acc) hr ha';refine⟨cl,?_,e2,λx h=>?_⟩
   ·rw[List.forIn_cons]
    have hco:cellOf env n=pure c:=by unfold cellOf;rw[hc]
    simp only[beq_self_eq_true,if_true,hco];exact e1
   ·by_cases hx:x=n
    ·subst hx;exact e3 x (.inr ⟨c,by simp[lookup_cons]⟩)
    ·rcases h with h|⟨d,h⟩
     ·rcases mem_cons.mp h with z|z
      ·exact absurd (congrArg Prod.fst z) hx
      ·exact e3 x (.inl z)
     ·refine e3 x (.inr ⟨d,?_⟩);rw[lookup_cons];have:(x==n)=false:=beq_eq_false_iff_ne.mpr hx;rw[this];exact h
  ·have hb:(k==NameKind.free)=false:=beq_eq_false_iff_ne.mpr hk
   obtain⟨cl,e1,e2,e3⟩:=kB env r acc hr ha;refine⟨cl,?_,e2,λx h=>e3 x ?_⟩
   ·rw[List.forIn_cons];simp only[hb,false_eq_true,if_false];exact e1
   ·rcases h with h|h
    ·rcases mem_cons.mp h with z|z
     ·cases z;exact absurd rfl hk
     ·exact .inl z
    ·exact .inr h
theorem oM(h:∀y∈scope.names,y.2=.free->∃c,env.cells.lookup y.1=some c) :
  ∃cl,closureFor scope env=pure cl/\(∀x c,cl.lookup x=some c->env.cells.lookup x=some c)/\∀x,(x,NameKind.free)∈scope.names->∃c,cl.lookup x=some c:=by
 obtain⟨cl,e1,e2,e3⟩:=kB env scope.names [] h (λx c z=>by simp at z);refine⟨cl,?_,e2,λx hx=>e3 x (.inl hx)⟩;unfold closureFor;simp only[bind_pure];exact e1
noncomputable def bH(X:Cx)(scope:Scope)(N':List Str)(cl:List (Str×Addr))(C:Addr)(s:Shared)(H:Hp)(fp:List Addr):Cx :=
 { prog:=X.prog,w:=X.w,K:=X.K,mg:=X.mg,base:=X.base,A:=X.A,N:=N',s₀:=s,H₀:=H,env:=compEnvC scope cl C X.env,outer:=X.stack,stack:=X.stack,ex:=fp,fn:=λ_=>false,calm:=X.calm,pn:=[],xe:=λ_ _=>False }
noncomputable def iH(js:List (Option Nat))(σ:St):St:=js.map λo=>match o with
 | none=>none
 | some j=>match σ[j]? with
  | some (some v)=>some v
  | _=>none
noncomputable def su(sc:Scope)(x:Str):Bool:=sc.names.lookup x==some .cell||sc.names.lookup x==some .free
noncomputable def iI(XN:List Str)(xsc scope:Scope)(N':List Str)(js:List (Option Nat)):Bool :=
 scope.kind==.function&&(scope.names.all λy=>y.2 != .local||scope.names.lookup y.1==some .local)&&(scope.names.all λy=>y.2 != .cell) &&
 (scope.names.all λy=>y.2 != .free||(su xsc y.1&&scope.names.lookup y.1==some .free))&&js.length==N'.length &&
 ((N'.zip js).all λp=>match p.2 with|none=>true|some j=>XN[j]?==some p.1&&scope.names.lookup p.1==some .free)
structure sy (X:Cx) (scope:Scope) (N':List Str) (js:List (Option Nat)):Prop where
 kind:scope.kind=.function
 names:∀y∈scope.names,y.2=.local->scope.names.lookup y.1=some .local
 Be:∀y∈scope.names,y.2≠.cell
 free:∀y∈scope.names,y.2=.free->su X.env.scope y.1=true/\scope.names.lookup y.1=some .free
 len:js.length=N'.length
 src:∀(i:Nat) (x:Str) (j:Nat),N'[i]?=some x->js[i]?=some (some j)->X.N[j]?=some x/\scope.names.lookup x=some .free
theorem qM(h:iI X.N X.env.scope scope N' js=true):sy X scope N' js:=by
 unfold iI at h;simp only[and_eq_true,all_eq_true] at h;obtain⟨⟨⟨⟨⟨h1,h2⟩,h3⟩,h4⟩,h5⟩,h6⟩:=h;refine⟨eq_of_beq h1,λy hy e=>?_,λy hy e=>?_,λy hy e=>?_,eq_of_beq h5,λi x j e1 e2=>?_⟩
 ·have:=h2 y hy;rw[e] at this;simpa using this
 ·have:=h3 y hy;rw[e] at this;simp at this
 ·have:=h4 y hy;rw[e] at this;simpa using this
 ·have hm:(x,some j)∈N'.zip js:=by
   refine List.mem_iff_getElem?.mpr ⟨i,?_⟩;rw[List.getElem?_zip_eq_some];exact⟨e1,e2⟩
  have:=h6 _ hm;simpa using this
theorem kc(js:List (Option Nat))(σ:St):(iH js σ).length=js.length:=by unfold iH;rw[length_map]
noncomputable def Eo(X:Cx)(ifs:List Expr)(t:TT):Prop :=
 ∀(pins:List (Addr×Obj)) (s:Shared) (σ:St) (H:Hp) (Q:Bool->Hp->Prop),Inv X pins σ H s->t σ H Q ->
  wpAny (model X.prog X.w) X.A (forIn ifs true λc r=>if r=true then do let ok <-isTrue c X.env (eval c X.env);pure (ForInStep.yield ok) else pure (ForInStep.yield r)) (TP X pins σ Q) X.xe s
noncomputable def uf:TT:=λ_ H Q=>Q true H
theorem Ep:Eo X [] uf:=λ_ _ _ H _ I h=>wpAny_tests_nil ⟨H,I,h⟩
theorem Er(h:PT X c t):Eo X [c] t:=λpins s σ H Q I hw=>wpAny_tests_one (h pins s σ H Q I hw)
noncomputable def Bf(wi:TI)(js:List (Option Nat))(g:TG)(tt:TT)(te:TE):TE:=λσ H Q=>wi σ H λJ H1=>∀D,H1 D=none->∃W:Nat->Nat->St->Hp->Prop,(∃m,W 0 m (iH js σ) (upd H1 D (.lst []))) /\
 ∀i m σ' H,W i m σ' H->(J.stop i H/\Q (.ref D) H)\/(J.go i H/\∃N:St->Hp->Prop,(∀Aw H',N Aw H'->∃m',m'<m/\W (i+1) m' Aw H') /\
  ∀x H',J.vS i H x H'->g x σ' H' λσ2 H2=>tt σ2 H2 λb H3=>if b=true then te σ2 H3 λy H4=>∃ys,H4 D=some (.lst ys)/\ys.length<sizeLine/\N σ2 (upd H4 D (.lst (ys++[y]))) else N σ2 H3)
theorem qv(hc:∀y∈scope.names,y.2≠.cell)
  (h:(relabel scope env).names.lookup x=some .cell\/(relabel scope env).names.lookup x=some .free):(x,NameKind.free)∈scope.names:=by
 unfold relabel at h;simp only at h;generalize scope.names=ns at hc h
 induction ns with
 | nil=>simp at h
 | cons p r ih =>
  obtain⟨n,k⟩:=p;have hc':∀y∈r,y.2≠.cell:=λy hy=>hc y (mem_cons_of_mem _ hy);simp only[map_cons] at h;cases hx:x==n with
  | true =>
   have e':x=n:=eq_of_beq hx;subst e'
   by_cases hk:k=.free
   ·subst hk;exact mem_cons_self
   ·have hk2:=hc (x,k) mem_cons_self
    have hb:(k==NameKind.free)=false:=beq_eq_false_iff_ne.mpr hk;rw[hb] at h;simp only[Bool.false_and,false_eq_true,if_false,lookup_cons,beq_self_eq_true] at h
    rcases h with h|h
    ·exact absurd (Option.some.inj h) hk2
    ·exact absurd (Option.some.inj h) hk
  | false =>
   refine mem_cons_of_mem _ (ih hc' ?_)
   by_cases hk:(k==NameKind.free&&env.scope.kind==.function&&env.kindOf n==some .cell)=true
   ·rw[if_pos hk] at h;simp only[lookup_cons,hx] at h;exact h
   ·rw[if_neg hk] at h;simp only[lookup_cons,hx] at h;exact h
theorem sD(h:scope.names.lookup x=some .free) :
  (relabel scope env).names.lookup x=some .cell\/(relabel scope env).names.lookup x=some .free:=by
 unfold relabel;simp only;generalize scope.names=ns at h
 induction ns with
 | nil=>simp at h
 | cons p r ih =>
  obtain⟨n,k⟩:=p;simp only[map_cons];cases hx:x==n with
  | true =>
   simp only[lookup_cons,hx] at h;have hk:=Option.some.inj h;subst hk
   by_cases hk:(NameKind.free==NameKind.free&&env.scope.kind==.function&&env.kindOf n==some .cell)=true
   ·rw[if_pos hk];simp[lookup_cons,hx]
   ·rw[if_neg hk];simp[lookup_cons,hx]
  | false =>
   simp only[lookup_cons,hx] at h
   by_cases hk:(k==NameKind.free&&env.scope.kind==.function&&env.kindOf n==some .cell)=true
   ·rw[if_pos hk];simp only[lookup_cons,hx];exact ih h
   ·rw[if_neg hk];simp only[lookup_cons,hx];exact ih h
section
variable {X:Cx} {pins:List (Addr×Obj)} {σ:St} {scope:Scope} {N':List Str} {js:List (Option Nat)}
theorem oN(ok:sy X scope N' js)(xo:X.Ok):∀y∈scope.names,y.2=.free->∃c,X.env.cells.lookup y.1=some c:=λy hy e=>by
 have:=(ok.free y hy e).1;unfold su at this;rw[or_eq_true] at this;refine xo.has y.1 ?_
 rcases this with z|z
 ·exact .inl (eq_of_beq z)
 ·exact .inr (eq_of_beq z)
theorem wB{tk:Nat}(ok:sy X scope N' js)(I:Inv X pins σ H s)
  (hcl1:∀x c,cl.lookup x=some c->X.env.cells.lookup x=some c) (hcl2:∀x,(x,NameKind.free)∈scope.names->∃c,cl.lookup x=some c)
  (hfp:∀b∈fp,nG X pins H b) (hlt:∀b∈fp,b<s.heap.objs.size)
  (hns:h'.Ns s.heap.objs.size (λ_=>none)) (hk:∀b o,s.heap.get? b=some o->h'.get? b=some o) :
  Inv (bH X scope N' cl s.heap.objs.size s H fp) [] (iH js σ) H { s with heap:=h',toks:=tk }:=by
 have cellK:∀x c,cl.lookup x=some c->∃v,s.heap.IsCell c v:=λx c e=>I.cell x c (hcl1 x c e);have hCf:H s.heap.objs.size=none:=I.hok.fresh (le_refl _);refine⟨⟨I.ok.mod,ok.kind,I.ok.glob,I.ok.blt,le_refl _,λx y c e1 e2=>I.ok.inj x y c (hcl1 x c e1) (hcl1 y c e2),λx hx=>hcl2 x (qv ok.Be hx),λx c hf _=>absurd hf (by intro z;cases z),I.ok.hd,I.ok.frames,.inl rfl,
   λb hb=>⟨ne_of_lt (hlt b hb),λx c e z=>?_⟩,I.bs,le_trans I.ok.GF I.sz,λb o e hb=>?_,λb hb hs=>?_,I.stack,I.xG⟩,rfl,I.bare,Un.kept hk,⟨_,hns,λi x v e1 e2 e3=>?_⟩,λx c e=>?_,hCf,λx c e=>I.iQ x c (hcl1 x c e),
   λp hp=>absurd (show p∈([]:List (Addr×Obj)) from hp) (by simp),I.hok.kept hk,?_⟩
 ·exact(hfp b hb).2.2.2.2.1 x c (hcl1 x c e) z
 ·rcases(hfp b hb).2.2.2.1 with z|z
  ·exact I.ok.ku b o e z
  ·exact absurd (lt_of_lt_of_le (lt_size (I.ok.bs b o e).1) z) (lt_irrefl _)
 ·rcases mem_cons.mp (I.vQ b hs) with z|z
  ·exact(hfp b hb).2.1 z
  ·exact(hfp b hb).2.2.1 z
 ·-- a name Vv has a value: one of the def around
  have DF:(iH js σ)[i]?=some (some v):=e2;unfold iH at DF;rw[getElem?_map] at DF;cases hj:js[i]? with
  | none=>rw[hj] at DF;cases DF
  | some o =>
   rw[hj] at DF;cases o with
   | none=>simp at DF
   | some j =>
    obtain⟨hN,hf⟩:=ok.src i x j e1 hj;cases hs:σ[j]? with
    | none=>simp[hs] at DF
    | some ov =>
     cases ov with
     | none=>simp[hs] at DF
     | some v' =>
      simp[hs] at DF;subst DF;have hfr:=(ok.free (x,.free) (PySem.mem_of_lookup hf) rfl).1;unfold su at hfr;rw[or_eq_true] at hfr;have MQ:X.env.scope.names.lookup x=some .cell\/X.env.scope.names.lookup x=some .free:=hfr.imp eq_of_beq eq_of_beq;obtain⟨m,_,hl⟩:=I.loc;obtain⟨u,r,l⟩:=hl j x v' hN hs (.inr MQ);refine⟨u,r,.inr ⟨sD hf,?_⟩⟩
      rcases l with ⟨k,_⟩|⟨_,c,e,z⟩
      ·have k':X.env.scope.names.lookup x=some .local:=k
       rcases MQ with q|q<;>(rw[q] at k';cases k')
      ·obtain⟨d,hd⟩:=hcl2 x (PySem.mem_of_lookup hf);have e':=hcl1 x d hd;rw[e] at e';cases e';obtain⟨oc,hoc,AE⟩:=z;exact⟨c,hd,oc,hk _ _ hoc,AE⟩
 ·obtain⟨v,oc,hoc,AE⟩:=cellK x c e;exact⟨v,oc,hk _ _ hoc,AE⟩
 ·rw[kc];exact ok.len
theorem zE(I:Inv X pins σ H s)(hfp:∀b∈fp,nG X pins H b)
  (J:Inv (bH X scope N' cl C s H fp) [] σ' H' s'):Inv X pins σ H' s' :=
 I.LZ (ch:=fp) J.os J.base J.hok J.bare λb hb=>⟨(hfp b hb).2.2.2.1,(hfp b hb).2.1,(hfp b hb).2.2.2.2.1,(hfp b hb).2.2.2.2.2⟩
end
section
variable {X:Cx} {scope:Scope} {N':List Str} {js:List (Option Nat)} {tg elt iter:Expr} {ifs:List Expr} {pos:Pos} {wi:TI} {g:TG} {tt:TT} {te:TE}
theorem ug{pins:List (Addr×Obj)}{σ:St}{H2:Hp}{s2:Shared}{it:Addr}{fp:List Addr}{tn:Nat->Heap->Prop}{J:It}{cl:List (Str×Addr)}{E:Value->Shared->Prop}{RR:Value->Addr->Result->Shared->Prop}{Q:VK}
  (ok:sy X scope N' js) (hc:X.calm=true) (I2:Inv X pins σ H2 s2) (T:Turn X.prog X.w X.K tg J fp it tn) (st2:tn 0 s2.heap) (f2:∀b∈fp,nG X pins H2 b)
  (hcl1:∀x c,cl.lookup x=some c->X.env.cells.lookup x=some c) (hcl2:∀x,(x,NameKind.free)∈scope.names->∃c,cl.lookup x=some c)
  (hg:∀cl C s H fp,PG (bH X scope N' cl C s H fp) tg g) (ht:∀cl C s H fp,Eo (bH X scope N' cl C s H fp) ifs tt) (he:∀cl C s H fp,PE (bH X scope N' cl C s H fp) elt te)
  (rd:∀D,H2 D=none->∃W:Nat->Nat->St->Hp->Prop,(∃m,W 0 m (iH js σ) (upd H2 D (.lst []))) /\
   ∀i m σ' H,W i m σ' H->(J.stop i H/\Q (.ref D) H)\/(J.go i H/\∃N:St->Hp->Prop,(∀Aw H',N Aw H'->∃m',m'<m/\W (i+1) m' Aw H') /\
    ∀x H',J.vS i H x H'->g x σ' H' λσ2 H2=>tt σ2 H2 λb H3=>if b=true then te σ2 H3 λy H4=>∃ys,H4 D=some (.lst ys)/\ys.length<sizeLine/\N σ2 (upd H4 D (.lst (ys++[y]))) else N σ2 H3))
  (hRR:∀(D C:Addr) (s':Shared) (H':Hp) (m:Str->Option Value),s2.heap.objs.size<=C->Inv X pins σ H' s'->H' C=none->s'.heap.Ns C m->Q (.ref D) H'->RR (.ref D) C (.ok .next) s') :
  wpAny (model X.prog X.w) X.A (newList []) (λacc s₃=>wpAny (model X.prog X.w) X.A (newFunctionEnv scope X.env.globals cl [] X.env.qual none .none (some X.env)) (λcenv s₄ =>
   codeAny (model X.prog X.w) X.A (.compStart (.ListComp elt [⟨tg,iter,ifs,0⟩] scope pos) 0 (.ref it) acc { cenv with scope:=relabel scope X.env }) (RR acc cenv.locals) s₄) E s₃) E s2:=by
 have hD:H2 s2.heap.objs.size=none:=I2.hok.fresh (le_refl _);refine wpAny_newObj_type (wpAny_newFunctionEnv ok.Be (by intro y hy;simp at hy) (λh₁ MR MS=>?_) ok.kind);dsimp only at MR MS |-;have I3:Inv X pins σ (upd H2 s2.heap.objs.size (.lst [])) { s2 with heap:=s2.heap.push { cls:=.type "list",dict:=none,data:=.seq ([]:List Value).toArray },toks:=s2.toks } :=
  I2.laid (t':=s2.toks) (λb u e=>get?_push_of_some _ e) (le_refl _) ⟨by simp,[],0,.nil,get?_push_size _ rfl⟩
 generalize MT:({ s2 with heap:=s2.heap.push { cls:=.type "list",dict:=none,data:=.seq ([]:List Value).toArray },toks:=s2.toks }:Shared)=s3 at I3;have hsz:s3.heap.objs.size=s2.heap.objs.size+1:=by rw[<-MT];exact size_push ..
 have eC:(s2.heap.push { cls:=.type "list",dict:=none,data:=.seq ([]:List Value).toArray }).objs.size=s3.heap.objs.size:=by rw[<-MT]
 have f3:∀b∈fp,nG X pins (upd H2 s2.heap.objs.size (.lst [])) b:=λb hb=>by
  obtain⟨o,e,_⟩:=T.obj _ _ st2 b hb;refine⟨?_,(f2 b hb).2⟩;rw[az (ne_of_lt (lt_size e))];exact(f2 b hb).1
 have hlt:∀b∈fp,b<s3.heap.objs.size:=λb hb=>by
  obtain⟨o,e,_⟩:=T.obj _ _ st2 b hb;have hb2:b<s2.heap.objs.size:=lt_size e;rw[hsz];exact lt_succ_of_lt hb2
 have keep:∀b o,s3.heap.get? b=some o->h₁.get? b=some o:=λb o e=>by
  have e':(s2.heap.push { cls:=.type "list",dict:=none,data:=.seq ([]:List Value).toArray }).get? b=some o:=by rw[<-MT] at e;exact e
  exact MS.extBut b o (ne_of_lt (lt_size e')) (get?_push_of_some _ e')
 have I4:=wB (tk:=s2.toks+([]:List (Str×Value)).length) ok I3 hcl1 hcl2 f3 hlt (h':=h₁) (by rw[<-eC];simpa using MR) keep;have LG:tn 0 h₁:=T.keep _ _ _ st2 λb hb o e=>keep b o (by rw[<-MT];exact get?_push_of_some _ e);obtain⟨W,⟨m0,w0⟩,turn⟩:=rd _ hD;have stat:∀{H':Hp},(∀b∈fp,H' b=none)->∀b∈fp,nG (bH X scope N' cl s3.heap.objs.size s3 (upd H2 s2.heap.objs.size (.lst [])) fp) [] H' b:=λ{H'} hn b hb =>
  ⟨hn b hb,ne_of_lt (hlt b hb),I4.ok.AD b hb,.inl hb,(I4.ok.PM b hb).2,λp hp=>absurd (show p∈([]:List (Addr×Obj)) from hp) (by simp)⟩
 have Vw:∀tk,({ s2 with heap:=h₁,toks:=tk }:Shared)={ s3 with heap:=h₁,toks:=tk }:=λtk=>by rw[<-MT]
 have loop:codeAny (model X.prog X.w) X.A (.compLoop (.ListComp elt [⟨tg,iter,ifs,0⟩] scope pos) 0 (.ref it) (.ref s2.heap.objs.size) (compEnvC scope cl s3.heap.objs.size X.env)) (RR (.ref s2.heap.objs.size) s3.heap.objs.size)
   { s3 with heap:=h₁,toks:=s2.toks+([]:List (Str×Value)).length }:=by
  refine codeAny_loop rfl (λn s'=>∃i σ' H',Inv (bH X scope N' cl s3.heap.objs.size s3 (upd H2 s2.heap.objs.size (.lst [])) fp) [] σ' H' s'/\tn i s'.heap/\(∀b∈fp,H' b=none)/\W i n σ' H') ?_ m0 ⟨0,_,_,I4,LG,λb hb=>(f3 b hb).1,w0⟩;rintro n s5 ⟨i,σ5,H5,I5,DE,O9,w5⟩;show wpAny _ X.A ((compTurn (.ListComp elt [⟨tg,iter,ifs,0⟩] scope pos) 0 (.ref it) (.ref s2.heap.objs.size) (compEnvC scope cl s3.heap.objs.size X.env)).onRaise (λx=>do noteFrame x (compEnvC scope cl s3.heap.objs.size X.env);theTreesLotGoes x)) _ _ s5;refine wpAny_noted ?_;rw[compTurn_list];refine wpAny_bind (wpAny_standAt (wpAny_bind ?_))
  rcases turn i n σ5 H5 w5 with ⟨stop,qn⟩|⟨go,N,hN,step⟩
  ·refine wpAny_mono (T.done (bH X scope N' cl s3.heap.objs.size s3 (upd H2 s2.heap.objs.size (.lst [])) fp) rfl rfl rfl hc i [] s5 σ5 H5 (λ_ _=>False) I5 (stat O9) DE stop) (λr s6 ⟨hr,I6⟩=>?_) λ_ _ z=>z.elim;subst hr;refine wpAny_pure ?_;obtain⟨m,hm,_⟩:=id I6.loc;exact hRR _ _ s6 H5 m (by rw[hsz];exact le_succ _) (zE I3 f3 I6) I6.free hm qn
  ·refine wpAny_mono (T.item (bH X scope N' cl s3.heap.objs.size s3 (upd H2 s2.heap.objs.size (.lst [])) fp) rfl rfl rfl hc i [] s5 σ5 H5 (λ_ _=>False) I5 (stat O9) DE go) (λr s6 ⟨u,hr,h6⟩=>?_) λ_ _ z=>z.elim
   subst hr;refine wpAny_bind (wpAny_mono h6 (λ_ s7 ⟨x,H7,I7,r7,y7,Qu,Vx⟩=>?_) λ_ _ z=>z.elim);have Vy:=I7.pinned (stat Vx) (T.obj _ _ Qu);refine wpAny_bind (wpAny_mono (hg _ _ _ _ _ _ s7 σ5 H7 x u _ Vy r7 (step x H7 y7)) (λ_ s8 ⟨σ8,H8,I8,q8⟩=>?_) λ_ _ z=>z.elim);refine wpAny_bind (wpAny_mono (ht _ _ _ _ _ _ s8 σ8 H8 _ I8 q8) (λb s9 ⟨H9,I9,q9⟩=>?_) λ_ _ z=>z.elim);have Bg:∀{sA:Shared} {σA:St} {HA:Hp},Inv (bH X scope N' cl s3.heap.objs.size s3 (upd H2 s2.heap.objs.size (.lst [])) fp) ([]++om fp s7.heap) σA HA sA->N σA HA ->
     ∃m,m<n/\∃i σ' H',Inv (bH X scope N' cl s3.heap.objs.size s3 (upd H2 s2.heap.objs.size (.lst [])) fp) [] σ' H' sA/\tn i sA.heap/\(∀b∈fp,H' b=none)/\W i m σ' H':=λ{sA σA HA} IA nA=>by
    obtain⟨m',hm,wA⟩:=hN σA HA nA;refine⟨m',hm,i+1,σA,HA,IA.kO,T.keep _ _ _ Qu λb hb o e=>(IA.pin (b,o) (mem_append_right _ (mem_append_right _ (iF hb e)))).1,λb hb=>?_,wA⟩;obtain⟨o,e,d⟩:=T.obj _ _ Qu b hb;exact(IA.pin (b,o) (mem_append_right _ (mem_append_right _ (iF hb e)))).2.1
   cases b with
   | false=>exact wpAny_pure ⟨rfl,Bg I9 (by simpa using q9)⟩
   | true =>rw[if_pos rfl] at q9;refine wpAny_bind (wpAny_bind (wpAny_mono (he _ _ _ _ _ _ s9 σ8 H9 _ I9 q9) (λv sB ⟨y,HB,IB,rB,ys,hys,hlen,nB⟩=>?_) λ_ _ z=>z.elim));refine wpAny_bind (wpAny_mono (qK (X:=bH X scope N' cl s3.heap.objs.size s3 (upd H2 s2.heap.objs.size (.lst [])) fp) _ sB σ8 HB (.ref s2.heap.objs.size) [y] _ [v] (λ_ HC=>HC=upd HB s2.heap.objs.size (.lst (ys++[y]))) IB rfl (.cons rB .nil) ⟨_,ys,y,rfl,rfl,hys,hlen,rfl⟩) (λv' sC ⟨_,HC,IC,_,Vz⟩=>?_) λ_ _ z=>z.elim);subst Vz;exact wpAny_pure (wpAny_pure ⟨rfl,Bg IC nB⟩)
 rw[Vw];have Qv:({ newEnv scope (s2.heap.push { cls:=.type "list",dict:=none,data:=.seq ([]:List Value).toArray }).objs.size X.env.globals cl X.env.qual none Value.none (some X.env) builtinsNs with scope:=relabel scope X.env }:Env)=compEnvC scope cl s3.heap.objs.size X.env:=by rw[eC];rfl
 have Qw:(newEnv scope (s2.heap.push { cls:=.type "list",dict:=none,data:=.seq ([]:List Value).toArray }).objs.size X.env.globals cl X.env.qual none Value.none (some X.env) builtinsNs).locals=s3.heap.objs.size:=by rw[eC];rfl
 rw[Qv,Qw];exact codeAny_compStart_list loop (T.self _ _ _ _ _ LG loop)
theorem Es(hok:iI X.N X.env.scope scope N' js=true)(hc:X.calm=true)(hi:PI X tg iter wi)(hg:∀cl C s H fp,PG (bH X scope N' cl C s H fp) tg g)
  (ht:∀cl C s H fp,Eo (bH X scope N' cl C s H fp) ifs tt) (he:∀cl C s H fp,PE (bH X scope N' cl C s H fp) elt te)
  (hs:∀x,foldedSetIterable iter X.env x=pure x:=by intro _;rfl):PE X (.ListComp elt [⟨tg,iter,ifs,0⟩] scope pos) (Bf wi js g tt te):=by
 intro pins s σ H Q I h;have ok:=qM hok;obtain⟨cl,Qx,hcl1,hcl2⟩:=oM (oN ok I.ok);rw[eval_ListComp];refine wpAny_comprehension_free (use:=none) rfl hs Qx ok.kind ok.names (cu (hi pins s σ H _ I h) λxv s1 h1=>cu h1 λitv s2 h2=>?_);obtain⟨it,fp,tn,J,H2,rfl,I2,T,st2,f2,rd⟩:=h2;refine ug (RR:=λacc C=>compPost (model X.prog X.w) X.A X.xe none (EP X pins σ Q) acc C) ok hc I2 T st2 f2 hcl1 hcl2 hg ht he rd ?_;intro D C s' H' m hC J' fC hm q;refine⟨m,hm,λh' hs'=>⟨.ref D,H',?_,rfl,q⟩⟩;refine J'.turned (t':=s'.toks) (λb o hb e=>hs'.extBut b o hb e) fC (ne_of_gt (lt_of_lt_of_le I2.lt hC)) (.inr (le_trans I2.sz hC)) (λx c e z=>?_) λp hp z=>?_
 ·obtain⟨v,q'⟩:=I2.cell x c e;exact absurd (lt_of_lt_of_le q'.lt (by rw[z];exact hC)) (lt_irrefl _)
 ·exact absurd (lt_of_lt_of_le (lt_size (I2.pin p hp).1) (by rw[z];exact hC)) (lt_irrefl _)
theorem Et{i:Nat}(hN:X.N.Nodup)(hx:X.N[i]?=some x)(hl:Loc X.env.scope x)(hok:iI X.N X.env.scope scope N' js=true)(hc:X.calm=true)(hi:PI X tg iter wi)(hg:∀cl C s H fp,PG (bH X scope N' cl C s H fp) tg g)
  (ht:∀cl C s H fp,Eo (bH X scope N' cl C s H fp) ifs tt) (he:∀cl C s H fp,PE (bH X scope N' cl C s H fp) elt te)
  (hsw:swapsWith (.ListComp elt [⟨tg,iter,ifs,0⟩] scope pos) (some (.Name x pos')) spos.line X.env=pure true:=by rfl)
  (hf:X.fn x=true\/X.env.scope.names.lookup x=some .local:=by first|exact .inl rfl|exact .inr rfl|assumption)
  (hs:∀x,foldedSetIterable iter X.env x=pure x:=by intro _;rfl):PS X (.Assign [.Name x pos'] (.ListComp elt [⟨tg,iter,ifs,0⟩] scope pos) spos) (DV (Bf wi js g tt te) (qE i)):=by
 intro pins s σ H D I h;have ok:=qM hok;obtain⟨cl,Qx,hcl1,hcl2⟩:=oM (oN ok I.ok);rw[exec_Assign_Name_used _ _ _ _ hsw];refine wpAny_bind (wpAny_standAt (wpAny_bind ?_));show wpAny _ X.A (do let _ <-comprehension (.ListComp elt [⟨tg,iter,ifs,0⟩] scope pos) scope X.env _ (newList []) false (eval iter X.env) (some (assign (.Name x pos') X.env))) _ _ s;refine wpAny_bind (wpAny_mono (wpAny_comprehension_free (use:=some (assign (.Name x pos') X.env)) (Q:=λ_ s'=>SP X pins D .next s') rfl hs Qx ok.kind ok.names
  (cu (hi pins s σ H _ I h) λxv s1 h1=>cu h1 λitv s2 h2=>?_)) (λ_ s' hq=>wpAny_pure (wpAny_pure hq)) λ_ _ e=>e)
 obtain⟨it,fp,tn,J,H2,rfl,I2,T,st2,f2,rd⟩:=h2;refine ug (RR:=λacc C=>compPost (model X.prog X.w) X.A X.xe (some (assign (.Name x pos') X.env)) (λ_ s'=>SP X pins D .next s') acc C) (Q:=λx H1=>qE i x σ H1 D.nx) ok hc I2 T st2 f2 hcl1 hcl2 hg ht he rd ?_;intro E C s' H' m hC J' fC hm q;have T6:C≠X.env.locals:=ne_of_gt (lt_of_lt_of_le I2.lt hC);have hCc:∀x c,X.env.cells.lookup x=some c->c≠C:=λx c e z=>by
  obtain⟨v,q'⟩:=I2.cell x c e;exact absurd (lt_of_lt_of_le q'.lt (by rw[z];exact hC)) (lt_irrefl _)
 refine cu (show wpAny _ X.A (assign (.Name x pos') X.env (.ref E)) (λ_ s''=>(∃Aw Jl,Inv X pins Aw Jl s''/\D.nx Aw Jl/\Jl C=none)/\∃m,s''.heap.Ns C m) X.xe s' from ?_) λ_ s'' ⟨⟨Aw,Jl,Qy,VA,Qz⟩,VB,Jm⟩=>?_
 ·refine wpAny_assign_Name (qD J' hN hx hl (show RelV (.ref E) (.ref E) from rfl) (λs'' Qy ⟨a,VC,ha⟩=>⟨⟨_,H',Qy,q,fC⟩,m,?_⟩) hf)
  refine hm.sameBut VC ?_
  rcases ha with z|z
  ·rw[z];exact T6
  ·exact λw=>hCc _ _ z w.symm
 ·refine⟨VB,Jm,λh' hs'=>⟨Aw,Jl,?_,VA⟩⟩;refine Qy.turned (t':=s''.toks) (λb o hb e=>hs'.extBut b o hb e) Qz T6 (.inr (le_trans I2.sz hC)) hCc λp hp z=>?_;exact absurd (lt_of_lt_of_le (lt_size (I2.pin p hp).1) (by rw[z];exact hC)) (lt_irrefl _)
end
end L2
end
section
namespace L2
open PySem PySem.Spec PyProof.Rows
theorem Inv.xS{X:Cx}{pins:List (Addr×Obj)}{σ:St}{H:Hp}{s:Shared}{h':Heap}{t':Nat}{ch:List Addr}(I:Inv X pins σ H s)(hf:∀b∈ch,nG X pins H b)
  (k:∀b o,b∉ch->s.heap.get? b=some o->h'.get? b=some o):Inv X pins σ H { s with heap:=h',toks:=t' }:=by
 have LX:∀b u,H b=some u->b∉ch:=λb u e z=>by rw[(hf b z).1] at e;cases e
 refine I.step (g':=s.gens) (d':=s.drawn) (ch:=ch) (λb hb=>?_) (λb o _ _ hc e _=>k b o hc e) (λb o _ _ hc e _=>⟨o.slots,k b o hc e⟩) (λ_ _ _ _ n=>n)
  (λb o hc e=>⟨o,k b o hc e⟩) (λ_ _ e=>e) (λ_ _ _ e=>e) (λb ps e=>⟨#[],by rw[e];simp⟩) (λm hm=>?_) (λb u e=>?_) I.bare
 ·exact⟨(hf b hb).2.2.2.1,(hf b hb).2.1,(hf b hb).2.2.2.2.1,(hf b hb).2.2.2.2.2⟩
 ·obtain⟨o,es,ep,ho,r⟩:=hm;exact⟨o,es,ep,k _ o (λz=>(hf _ z).2.1 rfl) ho,r⟩
 ·refine(I.hok b u e).stay (λc v hc q=>k c v ?_ q) (λ_ q=>q) λ_ _ q=>q
  rcases hc with z|z
  ·rw[z];exact LX b u e
  ·exact LX c _ z
noncomputable def MU(K:PySem.W.Frag)(a:Addr):It :=
 ⟨λi H=>∃xs x,gz K H a xs/\xs[i]?=some x,λi H x H'=>∃p v,H p=none/\x=.ref p/\H'=upd H p (.tup [.int i,v])/\∀xs,gz K H a xs->xs[i]?=some v,λi H=>∃xs,gz K H a xs/\xs.length<=i⟩
theorem zF{P:Program}{w:World}{K:PySem.W.Frag}{es:List Expr}{k:Nat}{pos:Pos}(a e it:Addr)(hne:e≠it) :
  Turn P w K (.Tuple es k pos) (MU K a) [e,it] e (λi h=>(∃old,IsEnum h e it i old)/\h.IsListIter it a i) where
 mem:=by simp
 obj:=λi h st b hb=>by
  obtain⟨⟨old,he⟩,⟨o,e2,c,d⟩⟩:=st
  rcases mem_cons.mp hb with z|z
  ·subst z;exact⟨_,he,λv z=>nomatch z⟩
  ·rw[mem_singleton.mp z];exact⟨o,e2,λv z=>by rw[d] at z;cases z⟩
 keep:=λi h h' st k=>⟨let ⟨old,he⟩:=st.1;⟨old,k e (by simp) _ he⟩,st.2.at λo e=>k it (by simp) o e⟩
 item:=by
  intro X hP hw hK hc i pins s σ H E I hf st hg;subst hP hw hK;obtain⟨xs,x,hq,hx⟩:=hg;obtain⟨its,rv,p,hz⟩:=I.list hq;obtain⟨u,hu,ru⟩:=rv.get hx;obtain⟨⟨old,he⟩,hit⟩:=st;have hei:e<s.heap.objs.size:=lt_size he;have VD:it<s.heap.objs.size:=by obtain⟨_,y,_⟩:=hit;exact lt_size y
  refine wpAny_pyNext_enum_item he hit p.isList (x:=u) (by simpa using hu) hne λh' ho QA hT hsz hk=>?_;refine⟨_,rfl,?_⟩;refine wpAny_letOwnedTupleGo_enum ho λh2 VE hs2=>?_;have hT2:h2.get? s.heap.objs.size=some { cls:=.type "tuple",data:=.seq #[.int i s.toks,u] }:=hs2.extBut _ _ (ne_of_gt hei) hT;have I1:Inv X pins σ H { s with heap:=h2,toks:=s.toks+1 }:=I.xS (ch:=[e,it]) hf λb o hb q=>by
   have h1:b≠e:=λz=>hb (by simp[z]);have h2:b≠it:=λz=>hb (by simp[z]);exact hs2.extBut b o h1 (hk b o h1 h2 q)
  have hn:H s.heap.objs.size=none:=I.hok.fresh (le_refl _);have I2:Inv X pins σ (upd H s.heap.objs.size (.tup [.int i,x])) { s with heap:=h2,toks:=s.toks+1 }:=by
   have un:Un X.fs [] H (upd H s.heap.objs.size (.tup [.int i,x])) s.heap s.heap:=Un.laid (λb u q=>q) (le_refl _) hn;refine⟨I1.ok,I1.os,I1.bare,?_,I1.loc,I1.cell,?_,λy c q=>?_,λp hp=>?_,λb o q=>?_,I1.len⟩
   ·refine⟨I1.base.keep,I1.base.slot,λb o q n hx=>?_,I1.base.there,λb ys q=>?_,λb o ys q=>?_,λb ps q=>?_⟩
    ·have hlt:b<s.heap.objs.size:=lt_of_lt_of_le (lt_size q) I.sz;rw[az (ne_of_lt hlt)];exact I1.base.free b o q n hx
    ·rw[az (aE (I1.base.tups b ys q) hn)];exact I1.base.tups b ys q
    ·rw[az (aE (I1.base.frzs b o ys q) hn)];exact I1.base.frzs b o ys q
    ·obtain⟨more,z⟩:=I1.base.rZ b ps q;exact⟨more,by rw[az (aE z hn)];exact z⟩
   ·rw[az (ne_of_lt I.lt)];exact I1.free
   ·obtain⟨v,z⟩:=I.cell y c q;rw[az (ne_of_lt z.lt)];exact I1.iQ y c q
   ·obtain⟨q1,q2,q3⟩:=I1.pin p hp;refine⟨q1,?_,q3⟩;rw[az (ne_of_lt (lt_size (I.pin p hp).1))];exact q2
   ·by_cases hb:b=s.heap.objs.size
    ·subst hb;rw[aR] at q;cases q;exact⟨by show 2<=sizeLine;decide,[.int i s.toks,u],.cons ⟨_,rfl⟩ (.cons ru .nil),_,hT2,rfl,_,rfl⟩
    ·rw[az hb] at q;exact(I1.hok b o q).stay (λc v _ z=>z) (λc z=>by rw[az (aE z hn)];exact z) λc ys z=>by rw[az (aE z hn)];exact z
  refine⟨.ref s.heap.objs.size,_,I2,rfl,⟨s.heap.objs.size,x,hn,rfl,rfl,λys hy=>by rw[I.tW hy hq];exact hx⟩,⟨⟨_,by simpa using VE⟩,?_⟩,λb hb=>?_⟩
  ·exact QA.at λo y=>(hs2.2 it hne.symm).trans y
  ·have hlt:b<s.heap.objs.size:=by
    rcases mem_cons.mp hb with z|z
    ·rw[z];exact hei
    ·rw[mem_singleton.mp z];exact VD
   rw[az (ne_of_lt hlt)];exact(hf b hb).1
 done:=by intro X hP hw hK hc i pins s σ H E I hf st hg;subst hP hw hK;obtain⟨xs,hq,hx⟩:=hg;obtain⟨its,rv,p,hz⟩:=I.list hq;obtain⟨⟨old,he⟩,hit⟩:=st;have hl:=rv.length;exact wpAny_pyNext_enum_end (I.ok.hd hc) he hit p.isList (by simp;omega) λh' eb=>⟨rfl,I.xS (t':=s.toks) (ch:=[e,it]) hf λb o hb q=>eb b o (λz=>hb (by simp[z])) q⟩
 self:=λ_ _ _ _ _ st h=>let ⟨_,he⟩:=st.1;wpAny_pyIter_enum he h
noncomputable def MV(K:PySem.W.Frag)(ta:TA):TI:=λσ H R=>ta σ H λvs H1=>∃a,vs=[.ref a]/\(∃xs,gz K H1 a xs)/\R (MU K a) H1
theorem Eu{k:Nat}(hg:Gl X "enumerate")(hm:X.mg "enumerate" = none)(ha:PA X [a] ta)(hs:starEach [a] X.env=[(false,eval a X.env)]:=by rfl) :
  PI X (.Tuple es k tpos) (.Call (.Name "enumerate" p) [a] [] pos) (MV X.K ta):=by
 intro pins s σ H R I h;refine Call_ (gG I hg hm boot_enumerate (PyProof.Rows.callWith_type1 (cu (ha pos pins s σ H _ I h) λus s1 aJ=>?_) hs rfl));obtain⟨vs,H1,I1,r1,q1⟩:=aJ;obtain⟨l,e,⟨xs,hq⟩,q⟩:=q1;subst e;cases r1 with
 | cons r rr =>
  cases rr;cases r;obtain⟨its,rv,pl,hz⟩:=I1.list hq;refine call_enumerate_list pl.isList λh' he hit hsz hk=>?_;have I2:Inv X pins σ H1 { s1 with heap:=h' }:=I1.kept (t':=s1.toks) hk;refine wpAny_pyIter_enum (s:={ s1 with heap:=h' }) he ?_;refine⟨_,[s1.heap.objs.size+1,s1.heap.objs.size],_,_,H1,rfl,I2,zF l _ _ (ne_of_gt (lt_succ_self _)),⟨⟨_,by simpa using he⟩,hit⟩,λb hb=>?_,q⟩;have hb':s1.heap.objs.size<=b:=by
   rcases mem_cons.mp hb with z|z
   ·rw[z];exact le_succ _
   ·rw[mem_singleton.mp z];exact le_refl _
  exact I1.DW hb' (I1.hok.fresh hb')
end L2
end
section
namespace L2
open PySem PySem.W PyProof.Rows
namespace nP
section
variable {O:KeyOrd} {key:Nat->O.α} {N:Nat} {cmp:Nat->Nat->(Bool->Shared->Prop)->Shared->Prop} {s:Shared}
noncomputable def K(O:KeyOrd)(key:Nat->O.α)(p:Array Nat)(i:Nat):O.α:=key (p.getD i 0)
noncomputable def Up(O:KeyOrd)(key:Nat->O.α)(p:Array Nat)(k:Nat):Prop:=∀i j,i<=j->j<k->O.kle (K O key p i) (K O key p j)
noncomputable def Down(O:KeyOrd)(key:Nat->O.α)(p:Array Nat)(k:Nat):Prop:=∀i j,i<=j->j<k->O.kle (K O key p j) (K O key p i)
noncomputable def Ew(O:KeyOrd)(key:Nat->O.α)(N:Nat)(cmp:Nat->Nat->(Bool->Shared->Prop)->Shared->Prop)(s:Shared):Prop :=
 ∀i j (C:Bool->Shared->Prop),i<N->j<N->C (O.blt (key i) (key j)) s->cmp i j C s
noncomputable def Ent(N:Nat)(p:Array Nat):Prop:=p.size=N/\0<N/\∀x∈p.toList,x<N
theorem Ent.at{p:Array Nat}(h:Ent N p)(i:Nat):p.getD i 0<N:=by
 by_cases hi:i<p.size
 ·have e:p.getD i 0=p[i]:=by simp[Array.getD,hi]
  rw[e];exact h.2.2 _ (by simp)
 ·have e:p.getD i 0=0:=by simp[Array.getD,hi]
  rw[e];exact h.2.1
theorem Ent.perm{p q:Array Nat}(h:Ent N p)(e:q.Perm p):Ent N q :=
 ⟨e.size_eq.trans h.1,h.2.1,λx hx=>h.2.2 x ((Array.perm_iff_toList_perm.mp e).mem_iff.mp hx)⟩
theorem K_congr{p q:Array Nat}{i j:Nat}(h:p[i]?=q[j]?):K O key p i=K O key q j:=by
 unfold K;rw[Array.getD_eq_getD_getElem?,Array.getD_eq_getD_getElem?,h]
theorem K_bubble{p:Array Nat}{src d:Nat}(hs:src<p.size)(hd:d<=src)(k:Nat) :
  K O key (bubble p src d) k=if k=src-d then K O key p src else if src-d<k/\k<=src then K O key p (k-1) else K O key p k:=by
 have e:=getElem?_bubble hs d hd k
 by_cases h1:k=src-d
 ·rw[if_pos h1] at e |-;exact K_congr e
 ·rw[if_neg h1] at e |-
  by_cases h2:src-d<k/\k<=src
  ·rw[if_pos h2] at e |-;exact K_congr e
  ·rw[if_neg h2] at e |-;exact K_congr e
theorem Bh{p:Array Nat}{i j:Nat}(hj:j<=p.size)(k:Nat):K O key (kas_rev p i j) k=if i<=k/\k<j then K O key p (i+j-1-k) else K O key p k:=by
 have e:=getElem?_mirror_all (i:=i) hj k
 by_cases h1:i<=k/\k<j
 ·rw[if_pos h1] at e |-;exact K_congr e
 ·rw[if_neg h1] at e |-;exact K_congr e
theorem oO{p:Array Nat}{i j:Nat}(hj:j<=p.size)(h:∀k,i<=k->k<j->K O key p k=K O key p (j-1))(k:Nat):K O key (kas_rev p i j) k=K O key p k:=by
 rw[Bh hj]
 split
 ·rw[h _ (by omega) (by omega),h k (by omega) (by omega)]
 ·rfl
theorem uh{p:Array Nat}{m:Nat}(h:∀t,1<=t->t<m->O.kle (K O key p (t-1)) (K O key p t)):Up O key p m:=by
 intro i j hij hj
 induction j with
 | zero =>
  have:i=0:=by omega
  subst this;exact KeyOrd.kle_refl _
 | succ j ih =>
  by_cases e:i=j+1
  ·subst e;exact KeyOrd.kle_refl _
  ·exact KeyOrd.kle_trans (ih (by omega) (by omega)) (h (j+1) (by omega) hj)
theorem Jo(hA:Ew O key N cmp s){p:Array Nat}(he:Ent N p):∀(f n:Nat) {Q:Nat->Shared->Prop},1<=n ->
  (∀m,n<=m->m<=n+f->(∀t,n<=t->t<m->O.kle (K O key p (t-1)) (K O key p t))->(m<n+f->O.klt (K O key p m) (K O key p (m-1)))->Q m s)->(kas_asc p f n).kasWp cmp Q s
 | 0,n,Q,hn,h=>h n (le_refl _) (le_refl _) (λt h1 h2=>by omega) λq=>by omega
 | f+1,n,Q,hn,h=>by
  show cmp _ _ _ s;refine hA _ _ _ (he.at _) (he.at _) ?_;cases hb:O.blt (key (p.getD n 0)) (key (p.getD (n-1) 0)) with
  | true=>exact h n (le_refl _) (by omega) (λt h1 h2=>by omega) λ_=>hb
  | false =>
   show (kas_asc p f (n+1)).kasWp cmp Q s;refine Jo hA he f (n+1) (by omega) λm h1 h2 h3 h4=>h m (by omega) (by omega) (λt t1 t2=>?_) λq=>h4 (by omega)
   by_cases e:t=n
   ·subst e;exact hb
   ·exact h3 t (by omega) t2
theorem xT(hA:Ew O key N cmp s):∀(f:Nat) (p:Array Nat) (n q:Nat) {Q:Array Nat×Nat×Nat->Shared->Prop},Ent N p->1<=n->n+f<=N->q+1<=n->Down O key p n->(∀i,n-(q+1)<=i->i<n->K O key p i=K O key p (n-1)) ->
  (∀p' n' q',p'.Perm p->Ent N p'->1<=n'->n<=n'->n'<=n+f->q'+1<=n'->Down O key p' n'->(∀i,n'-(q'+1)<=i->i<n'->K O key p' i=K O key p' (n'-1))->Q (p',n',q') s)->(kas_desc f p n q).kasWp cmp Q s
 | 0,p,n,q,Q,he,hn,hN,hq,hd,hl,h=>h p n q (Array.Perm.refl _) he hn (le_refl _) (le_refl _) hq hd hl
 | f+1,p,n,q,Q,he,hn,hN,hq,hd,hl,h=>by
  show cmp _ _ _ s;refine hA _ _ _ (he.at _) (he.at _) ?_;cases hb:O.blt (key (p.getD n 0)) (key (p.getD (n-1) 0)) with
  | true =>
   have hlt:O.klt (K O key p n) (K O key p (n-1)):=hb;have hd1:Down O key p (n+1):=λi j hij hj=>by
    by_cases e:j=n
    ·subst e
     by_cases e2:i=j
     ·subst e2;exact KeyOrd.kle_refl _
     ·exact KeyOrd.kle_trans (KeyOrd.kle_of_klt hlt) (hd i (j-1) (by omega) (by omega))
    ·exact hd i j hij (by omega)
   show (if q>0 then kas_desc f (kas_rev p (n-(q+1)) n) (n+1) 0 else kas_desc f p (n+1) 0).kasWp cmp Q s
   by_cases T7:q>0
   ·rw[if_pos T7]
    have ep:(kas_rev p (n-(q+1)) n).Perm p:=mirror_perm _ _ _ _;have eK:∀k,K O key (kas_rev p (n-(q+1)) n) k=K O key p k:=λk=>oO (by rw[he.1];omega) hl k;refine xT hA f _ (n+1) 0 (he.perm ep) (by omega) (by omega) (by omega) (λi j hij hj=>by rw[eK,eK];exact hd1 i j hij hj) (λi h1 h2=>?_) λp' n' q' g1 g2 g3 g4 g5 g6 g7 g8=>h p' n' q' (g1.trans ep) g2 g3 (by omega) (by omega) g6 g7 g8;have:i=n:=by omega
    subst this;rfl
   ·rw[if_neg T7]
    refine xT hA f p (n+1) 0 he (by omega) (by omega) (by omega) hd1 (λi h1 h2=>?_) λp' n' q' g1 g2 g3 g4 g5 g6 g7 g8=>h p' n' q' g1 g2 g3 (by omega) (by omega) g6 g7 g8;have:i=n:=by omega
    subst this;rfl
  | false =>
   show cmp _ _ _ s;refine hA _ _ _ (he.at _) (he.at _) ?_;cases hc:O.blt (key (p.getD (n-1) 0)) (key (p.getD n 0)) with
   | true=>exact h p n q (Array.Perm.refl _) he hn (le_refl _) (by omega) hq hd hl
   | false =>
    have heq:K O key p n=K O key p (n-1):=O.total _ _ hb hc;show (kas_desc f p (n+1) (q+1)).kasWp cmp Q s;refine xT hA f p (n+1) (q+1) he (by omega) (by omega) (by omega) (λi j hij hj=>?_) (λi h1 h2=>?_) λp' n' q' g1 g2 g3 g4 g5 g6 g7 g8=>h p' n' q' g1 g2 g3 (by omega) (by omega) g6 g7 g8
    ·by_cases e:j=n
     ·subst e
      by_cases e2:i=j
      ·subst e2;exact KeyOrd.kle_refl _
      ·rw[heq];exact hd i (j-1) (by omega) (by omega)
     ·exact hd i j hij (by omega)
    ·show K O key p i=K O key p (n+1-1)
     rw[Nat.add_sub_cancel]
     by_cases e:i=n
     ·subst e;rfl
     ·rw[heq];exact hl i (by omega) (by omega)
theorem Bj(hA:Ew O key N cmp s){p:Array Nat}{n nrem:Nat}(he:Ent N p)(h1:1<=n)(hn:n<=nrem)(hr:nrem<=N)(hd:Down O key p n)
  (h:∀m p',p'.Perm p->Ent N p'->1<=m->m<=nrem->Up O key p' m->Q (m,p') s):(kas_tail3 n nrem p).kasWp cmp Q s:=by
 unfold kas_tail3;rw[KasT.kasWp_bind];have ep:(kas_rev p 0 n).Perm p:=mirror_perm _ _ _ _;have hz:n<=p.size:=by rw[he.1];omega
 refine Jo hA (he.perm ep) _ _ h1 λm a1 a2 a3 _=>h m _ ep (he.perm ep) (by omega) (by omega) (uh λt t1 t2=>?_)
 by_cases e:t<n
 ·rw[Bh hz,Bh hz,if_pos (by omega),if_pos (by omega)];exact hd _ _ (by omega) (by omega)
 ·exact a3 t (by omega) t2
theorem qN(hA:Ew O key N cmp s){p:Array Nat}{n nrem:Nat}(he:Ent N p)(hn:n+1<=nrem)(hr:nrem<=N)(hd:Down O key p (n+1))
  (h:∀m p',p'.Perm p->Ent N p'->1<=m->m<=nrem->Up O key p' m->Q (m,p') s):(kas_descPart n nrem p).kasWp cmp Q s:=by
 unfold kas_descPart;rw[KasT.kasWp_bind];have MW:∀i,n+1-(0+1)<=i->i<n+1->K O key p i=K O key p (n+1-1):=λi h1 h2=>by
  have e:i=n:=by omega
  subst e;rfl
 refine xT hA (nrem-(n+1)) p (n+1) 0 he (by omega) (by omega) (by omega) hd MW λp' n' q' g1 g2 g3 g4 g5 g6 g7 g8=>?_;show (if q'>0 then kas_tail3 n' nrem (kas_rev p' (n'-(q'+1)) n') else kas_tail3 n' nrem p').kasWp cmp Q s
 by_cases hq:q'>0
 ·rw[if_pos hq];have ep:(kas_rev p' (n'-(q'+1)) n').Perm p':=mirror_perm _ _ _ _;have eK:∀k,K O key (kas_rev p' (n'-(q'+1)) n') k=K O key p' k:=λk=>oO (by rw[g2.1];omega) g8 k;exact Bj hA (g2.perm ep) g3 (by omega) hr (λi j hij hj=>by rw[eK,eK];exact g7 i j hij hj) λm p'' a1 a2 a3 a4 a5=>h m p'' ((a1.trans ep).trans g1) a2 a3 a4 a5
 ·rw[if_neg hq];exact Bj hA g2 g3 (by omega) hr g7 λm p'' a1 a2 a3 a4 a5=>h m p'' (a1.trans g1) a2 a3 a4 a5
theorem Jp(hA:Ew O key N cmp s){p:Array Nat}{nrem:Nat}(he:Ent N p)(h1:1<=nrem)(hr:nrem<=N)
  (h:∀m p',p'.Perm p->Ent N p'->1<=m->m<=nrem->Up O key p' m->Q (m,p') s):(kas_count nrem p).kasWp cmp Q s:=by
 unfold kas_count;rw[KasT.kasWp_bind];refine Jo hA he _ _ (le_refl _) λn a1 a2 a3 a4=>?_;have hup:Up O key p n:=uh λt t1 t2=>a3 t t1 t2
 by_cases e1:(n==nrem)=true
 ·rw[if_pos e1];exact h n p (Array.Perm.refl _) he a1 (by omega) hup
 ·rw[if_neg e1]
  have T8:n≠nrem:=λz=>e1 (by simp[z]);have hlt:O.klt (K O key p n) (K O key p (n-1)):=a4 (by omega)
  by_cases e2:n>1
  ·rw[if_pos e2]
   show cmp _ _ _ s;refine hA _ _ _ (he.at _) (he.at _) ?_;cases hc:O.blt (key (p.getD 0 0)) (key (p.getD (n-1) 0)) with
   | true=>exact h n p (Array.Perm.refl _) he a1 (by omega) hup
   | false =>
    have hle:O.kle (K O key p (n-1)) (K O key p 0):=hc;have ep:(kas_rev p 0 n).Perm p:=mirror_perm _ _ _ _;have hall:∀k,0<=k->k<n->K O key p k=K O key p (n-1):=λk _ hk =>
     KeyOrd.kle_antisymm (hup k (n-1) (by omega) (by omega)) (KeyOrd.kle_trans hle (hup 0 k (by omega) hk))
    have eK:∀k,K O key (kas_rev p 0 n) k=K O key p k:=λk=>oO (by rw[he.1];omega) hall k;show (kas_descPart n nrem (kas_rev p 0 n)).kasWp cmp Q s;refine qN hA (he.perm ep) (by omega) hr (λi j hij hj=>?_) λm p' b1 b2 b3 b4 b5=>h m p' (b1.trans ep) b2 b3 b4 b5;rw[eK,eK]
    by_cases ej:j=n
    ·subst ej
     by_cases ei:i=j
     ·subst ei;exact KeyOrd.kle_refl _
     ·rw[hall i (by omega) (by omega)];exact KeyOrd.kle_of_klt hlt
    ·rw[hall i (by omega) (by omega),hall j (by omega) (by omega)];exact KeyOrd.kle_refl _
  ·rw[if_neg e2]
   have en:n=1:=by omega
   subst en;refine qN hA he (by omega) hr (λi j hij hj=>?_) λm p' b1 b2 b3 b4 b5=>h m p' b1 b2 b3 b4 b5
   by_cases ei:i=j
   ·subst ei;exact KeyOrd.kle_refl _
   ·have:i=0/\j=1:=by omega
    obtain⟨rfl,rfl⟩:=this;exact KeyOrd.kle_of_klt hlt
theorem wC(hA:Ew O key N cmp s){p:Array Nat}{k:Nat}(he:Ent N p)(hs:Up O key p k):∀(f l r:Nat) {Q:Nat->Shared->Prop},l<=r->r<=k->r-l<=f ->
  (∀i,i<l->O.kle (K O key p i) (K O key p k))->(∀i,r<=i->i<k->O.klt (K O key p k) (K O key p i)) ->
  (∀l',l'<=k->(∀i,i<l'->O.kle (K O key p i) (K O key p k))->(∀i,l'<=i->i<k->O.klt (K O key p k) (K O key p i))->Q l' s)->(kas_place p k f l r).kasWp cmp Q s
 | 0,l,r,Q,hlr,hrk,hf,hlo,hhi,h=>by
  have:l=r:=by omega
  subst this;exact h l hrk hlo hhi
 | f+1,l,r,Q,hlr,hrk,hf,hlo,hhi,h=>by
  show (if l≥r then KasT.ret l else _).kasWp cmp Q s
  by_cases hge:l≥r
  ·rw[if_pos hge]
   have:l=r:=by omega
   subst this;exact h l hrk hlo hhi
  ·rw[if_neg hge]
   show cmp _ _ _ s;refine hA _ _ _ (he.at _) (he.at _) ?_;cases hb:O.blt (key (p.getD k 0)) (key (p.getD ((l+r)/2) 0)) with
   | true =>show (kas_place p k f l ((l+r)/2)).kasWp cmp Q s;exact wC hA he hs f l ((l+r)/2) (by omega) (by omega) (by omega) hlo (λi h1 h2=>KeyOrd.klt_of_klt_of_kle hb (hs _ _ h1 h2)) h
   | false =>show (kas_place p k f ((l+r)/2+1) r).kasWp cmp Q s;exact wC hA he hs f ((l+r)/2+1) r (by omega) (by omega) (by omega) (λi h1=>KeyOrd.kle_trans (hs i ((l+r)/2) (by omega) (by omega)) hb) hhi h
theorem MX(hA:Ew O key N cmp s):∀(f:Nat) (p:Array Nat) (k:Nat) {Q:Array Nat->Shared->Prop},Ent N p->k+f<=N->Up O key p k->(∀p',p'.Perm p->Up O key p' (k+f)->Q p' s)->(kas_bin f p k).kasWp cmp Q s
 | 0,p,k,Q,he,hk,hs,h=>h p (Array.Perm.refl _) hs
 | f+1,p,k,Q,he,hk,hs,h=>by
  show ((kas_place p k k 0 k).bind λl=>kas_bin f (bubble p k (k-l)) (k+1)).kasWp cmp Q s;rw[KasT.kasWp_bind];refine wC hA he hs k 0 k (by omega) (by omega) (by omega) (λi hi=>by omega) (λi h1 h2=>by omega) λl hl hlo hhi=>?_;have ep:(bubble p k (k-l)).Perm p:=bubble_perm _ _ _;have hks:k<p.size:=by rw[he.1];omega
  refine MX hA f _ (k+1) (he.perm ep) (by omega) (λi j hij hj=>?_) λp' a1 a2=>h p' (a1.trans ep) (by rwa [show k+(f+1)=k+1+f by omega]);rw[K_bubble hks (by omega),K_bubble hks (by omega),show k-(k-l)=l by omega]
  repeat' split
  all_goals first
   | (exfalso;omega)
   | exact KeyOrd.kle_refl _
   | exact hlo _ (by omega)
   | exact KeyOrd.kle_of_klt (hhi _ (by omega) (by omega))
   | exact hs _ _ (by omega) (by omega)
theorem MY(hA:Ew O key N cmp s)(h1:1<=N)(h:∀p,p.Perm (toArray (List.range N))->Up O key p N->Q p s):(kas_sort N).kasWp cmp Q s:=by
 unfold kas_sort;rw[KasT.kasWp_bind];have he:Ent N (toArray (List.range N)):=⟨by simp,h1,λx hx=>by simpa using hx⟩;refine Jp hA he h1 (le_refl _) λm p a1 a2 a3 a4 a5=>?_;show (if m<N then kas_bin (N-max m 1) p (max m 1) else KasT.ret p).kasWp cmp Q s;have em:max m 1=m:=by omega
 by_cases hlt:m<N
 ·rw[if_pos hlt,em];exact MX hA _ p m a2 (by omega) a5 λp' b1 b2=>h p' (b1.trans a1) (by rwa [show m+(N-m)=N by omega] at b2)
 ·rw[if_neg hlt]
  have:m=N:=by omega
  subst this;exact h p a1 a5
end
end nP
end L2
end
section
namespace L2
open PySem PySem.W PyProof.Rows
namespace nP
theorem dR{α:Type}(l:List α)(d:α):(List.range l.length).map (λi=>l.getD i d)=l:=by
 refine ext_getElem (by simp) λi h1 h2=>?_;simp[h2]
section
variable {prog:Program} {w:World} {A:Around} {E:Value->Shared->Prop} {s:Shared}
noncomputable def qO(prog:Program)(w:World)(A:Around)(O:KeyOrd)(key:Nat->O.α)(vs:List Value)(s6:Shared):Prop :=
 wpAny (model prog w) A (keyKind' vs.toArray) (λκ s'=>s'=s6/\Ew O key vs.length (kas_ask prog w A κ vs) s6) (λ_ _=>False) s6
structure Bk (O:KeyOrd) (key:Nat->O.α) (n:Nat) (p:List Nat):Prop where
 perm:p.Perm (List.range n)
 up:(p.map key).Pairwise O.kle
theorem Ex{n:Nat}{p:Array Nat}(h1:p.Perm (toArray (List.range n)))(h2:Up O key p n):Bk O key n p.toList:=by
 have hp:p.toList.Perm (List.range n):=by simpa using Array.perm_iff_toList_perm.mp h1
 refine⟨hp,List.pairwise_iff_getElem.mpr λi j hi hj hij=>?_⟩;have hz:p.toList.length=n:=by rw[hp.length_eq,length_range]
 rw[length_map] at hi hj;have q:=h2 i j (le_of_lt hij) (by omega);have ei:p.getD i 0=p.toList[i]:=by simp at hi;simp[Array.getD,hi]
 have ej:p.getD j 0=p.toList[j]:=by simp at hj;simp[Array.getD,hj]
 unfold K at q;rw[ei,ej] at q;rw[getElem_map,getElem_map];exact q
theorem Bm{n:Nat}(ho:s.heap.get? a=some (seqObj "list" vs.toArray n))(h64:vs.length<64)
  (hk:2<=vs.length->∀h6:Heap,(∀b o,b≠a->s.heap.get? b=some o->h6.get? b=some o)->qO prog w A O key vs { s with heap:=h6 })
  (h:∀p,Bk O key vs.length p->P (.done (.ret .none)) { s with heap:=sortedHeap s.heap a vs (p.map λi=>vs.getD i Value.none).toArray }) :
  wpAny (model prog w) A (Builtin.«list.sort» ⟨[.ref a],[]⟩) P E s:=by
 have alt:a<s.heap.objs.size:=lt_size ho;have big:vs.length<=sizeLine:=by rw[sizeLine_eq];omega
 rw[list_sort_plain];apply wpAny_bind;apply listItems_at ho rfl;apply wpAny_bind;refine listUpdate_at ho rfl ?_ (by rw[size_toArray];exact big) (zero_le _);have q1:=get?_update_seq ho (λ_=>(#[]:Array Value));apply wpAny_bind;apply seqEpoch_at q1 rfl;apply wpAny_bind;refine wpAny_newTuple ?_ (by show vs.length<=sizeLine;exact big);apply wpAny_bind;refine wpAny_newList ?_ (zero_le _);apply wpAny_holding;generalize hN:((s.heap.update a (Obj.mapSeq λ_=>(#[]:Array Value))).push (seqObj "tuple" vs.toArray 0)).push (seqObj "list" #[] 0)=h6;have MZ:∀b o,b≠a->s.heap.get? b=some o->h6.get? b=some o:=λb o hb e=>by
  rw[<-hN];refine get?_push_of_some _ (get?_push_of_some _ ?_);rw[Heap.get?_update_ne _ _ _ _ hb];exact e
 have q6:h6.get? a=some (seqObj "list" #[] (if (#[]:Array Value).size==vs.toArray.size then n else n+1)):=by rw[<-hN];exact get?_push_of_some _ (get?_push_of_some _ q1)
 have eS:∀out,h6.update a (Obj.mapSeq λ_=>out)=sortedHeap s.heap a vs out:=λout=>by rw[<-hN];rfl
 show wpAny (model prog w) A _ P E { s with heap:=h6 };dsimp only
 by_cases h2:vs.toArray.size<2
 ·rw[if_pos h2,if_pos h2]
  apply wpAny_bind;apply wpAny_pure;rw[StateT.run_pure];apply wpAny_bind;apply wpAny_pure;dsimp only;have eo:(arrOf (SortSt.mk' general' (vs.toArray.zip vs.toArray) #[] 7 none)).map (·.2)=vs.toArray:=by show (vs.toArray.zip vs.toArray).map (·.2)=vs.toArray;apply Array.toList_inj.mp;simp[List.map_snd_zip]
  rw[eo];apply wpAny_bind;apply seqEpoch_at q6 rfl;apply wpAny_bind;refine listUpdate_at q6 rfl ?_ (zero_le _) (by show vs.toArray.size<=_;rw[size_toArray];omega);have hb:((if (#[]:Array Value).size==vs.toArray.size then n else n+1) != (if (#[]:Array Value).size==vs.toArray.size then n else n+1))=false:=by simp
  rw[eS];simp only[hb,false_eq_true,if_false];apply wpAny_pure;have g:=h (List.range vs.length) ⟨List.Perm.refl _,?_⟩
  ·rw[dR] at g;exact g
  ·rw[size_toArray] at h2;refine List.pairwise_iff_getElem.mpr λi j hi hj hij=>?_;simp at hi hj;omega
 ·rw[if_neg h2,if_neg h2]
  rw[size_toArray] at h2;have ask:=hk (by omega) h6 MZ;apply wpAny_bind;refine wpAny_mono ask (λκ s0 hκ=>?_) λ_ _ x=>x.elim;obtain⟨rfl,VF⟩:=hκ;apply wpAny_bind;refine wpAny_mono (kat_run (Q:=λst' s'=>s'={ s with heap:=h6 }/\∃p:Array Nat,Bk O key vs.length p.toList/\p.size=vs.length/\(arrOf st').map (·.2)=(p.toList.map λi=>vs.getD i Value.none).toArray/\failedOf st'=none)
   (G:=λp s'=>s'={ s with heap:=h6 }/\Bk O key vs.length p.toList) rfl (by omega) h64 (λp st' s' a1 a2 a3 a4=>⟨a4.1,p,a4.2,a1,kat_snds rfl a2,a3⟩)
   (MY VF (by omega) λp b1 b2=>⟨rfl,Ex b1 b2⟩)) ?_ λ_ _ x=>x
  rintro⟨⟨⟩,st'⟩ s' ⟨rfl,p,op,pz,er,ef⟩;dsimp only;rw[er];apply wpAny_bind;apply seqEpoch_at q6 rfl;apply wpAny_bind;refine listUpdate_at q6 rfl ?_ (zero_le _) (by show (toArray _).size<=_;rw[size_toArray,length_map,length_toList,pz];omega);have hb:((if (#[]:Array Value).size==vs.toArray.size then n else n+1) != (if (#[]:Array Value).size==vs.toArray.size then n else n+1))=false:=by simp
  rw[eS,ef];simp only[hb,false_eq_true,if_false];exact wpAny_pure (h p.toList op)
theorem fX
  (h:wpAny (model prog w) A.in1 (collect x) (λvs s1=>vs.length<64/\∃key:Nat->O.α,(2<=vs.length->∀h6:Heap,(∀b o,s1.heap.get? b=some o->h6.get? b=some o)->qO prog w A.in1.in1 O key vs { s1 with heap:=h6 }) /\
   ∀p h',Bk O key vs.length p->(∀b o,s1.heap.get? b=some o->h'.get? b=some o)->(∃e,h'.get? s1.heap.objs.size=some (seqObj "list" (p.map λi=>vs.getD i Value.none).toArray e))->Q (.ref s1.heap.objs.size) { s1 with heap:=h' }) E s) :
  wpAny (model prog w) A (call (.builtin "sorted") [x]) Q E s:=by
 refine Calls.call_function_entry kind_sorted plain_sorted entry_sorted (args_sorted1 _) ?_;unfold Builtin.«sorted»;refine wpAny_bind (m:=checkCount "sorted" 1 1 _) (wpAny_pure ?_);apply wpAny_bind;refine wpAny_mono h (λvs s1 ⟨h64,key,hk,hq⟩=>?_) λ_ _ z=>z;have big:vs.length<=sizeLine:=by rw[sizeLine_eq];omega
 apply wpAny_bind;refine wpAny_newList ?_ big;have q:(s1.heap.push (seqObj "list" vs.toArray 0)).get? s1.heap.objs.size=some (seqObj "list" vs.toArray 0):=get?_push_size _ rfl;apply wpAny_bind;apply wpAny_holding;refine wpAny_call_entry (s:={ s1 with heap:=s1.heap.push (seqObj "list" vs.toArray 0) }) slot_list_sort ⟨_,q,rfl⟩ entry_list_sort ?_ (args_list_sort _);refine Bm (key:=key) (s:={ s1 with heap:=s1.heap.push (seqObj "list" vs.toArray 0) }) q h64 (λh2 h6 k6=>?_) λp op=>⟨_,rfl,wpAny_pure ⟨_,rfl,?_⟩⟩
 ·exact hk h2 h6 λb o e=>k6 b o (ne_of_lt (lt_size e)) (get?_push_of_some _ e)
 ·refine hq p _ op (λb o e=>?_) (sortedHeap_at q);rw[sortedHeap_old (ne_of_lt (lt_size e)) (by rw[size_push'];exact lt_succ_of_lt (lt_size e))];exact get?_push_of_some _ e
end
noncomputable def oQ:KeyOrd where
 α:=Int
 blt:=λa b=>decide (a<b)
 irrefl:=λa=>by simp
 trans:=λa b c h1 h2=>by simp at *;omega
 negTrans:=λa b c h=>by simp at *;omega
 total:=λa b h1 h2=>by simp at *;omega
theorem oR{s6:Shared}{ns:List Int}(hI:IntsAre vs ns)(h2:2<=vs.length):qO prog w A oQ (λi=>ns.getD i 0) vs s6:=by
 have at_:∀i,i<vs.length->∃t,vs.getD i Value.none=.int (ns.getD i 0) t:=by
  intro i hi
  induction hI generalizing i with
  | nil=>simp at hi
  | cons z t r ih =>
   cases i with
   | zero=>exact⟨t,by simp⟩
   | succ i =>
    by_cases hr:2<=1
    ·omega
    ·simp only[length_cons] at hi
     have aux:∀{vs:List Value} {ns:List Int},IntsAre vs ns->∀i,i<vs.length->∃t,vs.getD i Value.none=.int (ns.getD i 0) t:=by
      intro vs ns q
      induction q with
      | nil=>intro i hi;simp at hi
      | cons z t r ih =>
       intro i hi;cases i with
       | zero=>exact⟨t,by simp⟩
       | succ i=>simp only[length_cons] at hi;obtain⟨u,e⟩:=ih i (by omega);exact⟨u,by simpa using e⟩
     obtain⟨u,e⟩:=aux r i (by omega);exact⟨u,by simpa using e⟩
 obtain⟨v₁,v₂,rest,rfl⟩:∃v₁ v₂ rest,vs=v₁::v₂::rest:=by
  match vs,h2 with
  | v₁::v₂::rest,_=>exact⟨v₁,v₂,rest,rfl⟩
 unfold qO;rw[keyKind_ints hI];refine wpAny_pure ⟨rfl,λi j C hi hj hc=>?_⟩;obtain⟨t,e1⟩:=at_ i hi;obtain⟨u,e2⟩:=at_ j hj;unfold kas_ask;rw[e1,e2,keyLt'_oneType];exact oneLt_int hc
theorem iJ:∀a,HT.lexLt a a=false
 | []=>rfl
 | x::xs=>by rw[HT.eE,if_pos rfl];exact iJ xs
theorem gA:∀a b,HT.lexLt a b=false->HT.lexLt b a=false->a=b
 | [],[],_,_=>rfl
 | [],_::_,h,_=>by rw[HT.fW] at h;cases h
 | _::_,[],_,h=>by rw[HT.fW] at h;cases h
 | x::xs,y::ys,h1,h2=>by
  rw[HT.eE] at h1 h2
  by_cases e:x=y
  ·subst e;rw[if_pos rfl] at h1 h2;rw[gA xs ys h1 h2]
  ·rw[if_neg e] at h1;rw[if_neg (λz=>e z.symm)] at h2;simp at h1 h2;omega
theorem gB:∀a b c,HT.lexLt a b=true->HT.lexLt b c=true->HT.lexLt a c=true
 | [],[],c,h,_=>by rw[HT.qt] at h;cases h
 | [],_::_,[],_,h=>by rw[HT.dP] at h;cases h
 | [],_::_,_::_,_,_=>rfl
 | _::_,[],_,h,_=>by rw[HT.dP] at h;cases h
 | _::_,_::_,[],_,h=>by rw[HT.dP] at h;cases h
 | x::xs,y::ys,z::zs,h1,h2=>by
  rw[HT.eE] at h1 h2 |-
  by_cases e1:x=y
  ·subst e1
   rw[if_pos rfl] at h1
   by_cases e2:x=z
   ·subst e2;rw[if_pos rfl] at h2 |-;exact gB xs ys zs h1 h2
   ·rw[if_neg e2] at h2 |-;exact h2
  ·rw[if_neg e1] at h1
   by_cases e2:y=z
   ·subst e2;rw[if_neg e1];exact h1
   ·rw[if_neg e2] at h2;simp at h1 h2;rw[if_neg (by omega)];simp;omega
theorem qP(a b c:List Int)(h:HT.lexLt a c=true):HT.lexLt a b=true\/HT.lexLt b c=true:=by
 cases h1:HT.lexLt a b with
 | true=>exact .inl rfl
 | false =>
  cases h2:HT.lexLt b c with
  | true=>exact .inr rfl
  | false =>
   cases h3:HT.lexLt b a with
   | true=>have:=gB _ _ _ h3 h;rw[h2] at this;cases this
   | false=>rw[gA _ _ h1 h3] at h;rw[h2] at h;cases h
noncomputable def lexOrd:KeyOrd where
 α:=List Int
 blt:=HT.lexLt
 irrefl:=iJ
 trans:=gB
 negTrans:=qP
 total:=gA
section
variable {prog:Program} {w:World} {A:Around} {s:Shared}
theorem m7{b fin:Bool}:∀{us vs:List Value} {ns ms:List Int} (i:Nat),IntsAre us ns->IntsAre vs ms->(ns.length<ms.length↔fin=true)->us.length=ns.length ->
  Q (HT.lexLt ns ms) s->(ns.length=ms.length\/i=i)->(∀k,k<ns.length->k<ms.length->True)->(ns.length≠ms.length->True)->(fin=decide (ns.length<ms.length))->KatLex prog w A b fin Q (us.zip vs) i s
 | _,_,_,_,i,.nil,.nil,_,_,hq,_,_,_,hf=>by
  refine kat_nil ?_;rw[hf];exact hq
 | _,_,_,_,i,.nil,.cons _ _ _,_,_,hq,_,_,_,hf=>by
  refine kat_nil ?_;rw[hf];simpa [HT.fW] using hq
 | _,_,_,_,i,.cons _ _ _,.nil,_,_,hq,_,_,_,hf=>by
  refine kat_nil ?_;rw[hf];simpa [HT.dP] using hq
 | _,_,_,_,i,.cons x t r,.cons y u r',h1,h2,hq,_,_,_,hf=>by
  refine kat_cons (wpAny_eqBool_int ?_);rw[HT.eE] at hq
  by_cases e:x=y
  ·subst e
   rw[if_pos rfl] at hq;rw[beq_self_eq_true];refine kat_yes (m7 (i+1) r r' ?_ ?_ hq (.inr rfl) (λ_ _ _=>trivial) (λ_=>trivial) ?_)
   ·simpa using h1
   ·simpa using h2
   ·rw[hf];simp
  ·rw[if_neg e] at hq
   rw[show (x==y)=false from beq_eq_false_iff_ne.mpr e];refine kat_no ?_;cases hb:(b&&i==0) with
   | true=>exact oneLt_int hq
   | false=>exact kat_one _ _ (PyProof.Rows.lt_int hq)
end
end nP
end L2
end
section
namespace L2
open PySem PySem.Spec PyProof.Rows
noncomputable def QB:Key->PyData
 | .inl i=>.int i
 | .inr x=>.str x
mutual
noncomputable def Den(K:PySem.W.Frag)(H:Hp):PyData->V->Prop
 | .none,v=>v=.non
 | .bool b,v=>v=.bl b
 | .int i,v=>v=.int i
 | .str x,v=>v=.str x
 | .list ds,v=>∃a xs,v=.ref a/\gz K H a xs/\dJ K H ds xs
 | .tuple ds,v=>∃a xs,v=.ref a/\iS K H a xs/\dJ K H ds xs
 | .dict kvs,v=>∃a ks,v=.ref a/\H a=some (.dK ks)/\kU K H kvs ks
noncomputable def dJ(K:PySem.W.Frag)(H:Hp):List PyData->List V->Prop
 | [],xs=>xs=[]
 | d::ds,xs=>∃x r,xs=x::r/\Den K H d x/\dJ K H ds r
noncomputable def kU(K:PySem.W.Frag)(H:Hp):List (PyData×PyData)->List (Key×V)->Prop
 | [],ks=>ks=[]
 | (k,d)::r,ks=>∃key x rest,ks=(key,x)::rest/\k=QB key/\Den K H d x/\kU K H r rest
end
theorem wz.tup{K:PySem.W.Frag}{H H':Hp}{a:Addr}{xs:List V}(e:wz H H')(h:iS K H a xs):iS K H' a xs:=by
 rcases h with (h|⟨o,h⟩)|h
 ·exact .inl (.inl (e _ _ h))
 ·exact .inl (.inr ⟨o,e _ _ h⟩)
 ·exact .inr h
section
variable {K:PySem.W.Frag} {H H':Hp}
mutual
theorem Den.same(e:wz H H'):∀(d:PyData) (v:V),Den K H d v->Den K H' d v
 | .none,_,h=>by rw[Den] at h |-;exact h
 | .bool _,_,h=>by rw[Den] at h |-;exact h
 | .int _,_,h=>by rw[Den] at h |-;exact h
 | .str _,_,h=>by rw[Den] at h |-;exact h
 | .list ds,v,h=>by
  rw[Den] at h |-;obtain⟨a,xs,q1,q2,q3⟩:=h;exact⟨a,xs,q1,e.seq q2,dJ.same e ds xs q3⟩
 | .tuple ds,v,h=>by
  rw[Den] at h |-;obtain⟨a,xs,q1,q2,q3⟩:=h;exact⟨a,xs,q1,e.tup q2,dJ.same e ds xs q3⟩
 | .dict kvs,v,h=>by
  rw[Den] at h |-;obtain⟨a,ks,q1,q2,q3⟩:=h;exact⟨a,ks,q1,e _ _ q2,kU.same e kvs ks q3⟩
theorem dJ.same(e:wz H H'):∀(ds:List PyData) (xs:List V),dJ K H ds xs->dJ K H' ds xs
 | [],_,h=>by rw[dJ] at h |-;exact h
 | d::ds,xs,h=>by
  rw[dJ] at h |-;obtain⟨x,r,q1,q2,q3⟩:=h;exact⟨x,r,q1,Den.same e d x q2,dJ.same e ds r q3⟩
theorem kU.same(e:wz H H'):∀(kvs:List (PyData×PyData)) (ks:List (Key×V)),kU K H kvs ks->kU K H' kvs ks
 | [],_,h=>by rw[kU] at h |-;exact h
 | (k,d)::r,ks,h=>by
  rw[kU] at h |-;obtain⟨key,x,rest,q1,q2,q3,q4⟩:=h;exact⟨key,x,rest,q1,q2,Den.same e d x q3,kU.same e r rest q4⟩
end
theorem dJ.nil:dJ K H [] []:=by rw[dJ]
theorem dJ.cons{d:PyData}{ds:List PyData}{x:V}{r:List V}(h1:Den K H d x)(h2:dJ K H ds r):dJ K H (d::ds) (x::r):=by rw[dJ];exact⟨x,r,rfl,h1,h2⟩
theorem Den.int{i:Int}:Den K H (.int i) (.int i):=by rw[Den]
theorem Den.str:Den K H (.str x) (.str x):=by rw[Den]
theorem Den.bool{b:Bool}:Den K H (.bool b) (.bl b):=by rw[Den]
theorem Den.none:Den K H .none .non:=by rw[Den]
theorem Den.list(h:gz K H a xs)(q:dJ K H ds xs):Den K H (.list ds) (.ref a):=by rw[Den];exact⟨a,xs,rfl,h,q⟩
theorem Den.tuple(h:iS K H a xs)(q:dJ K H ds xs):Den K H (.tuple ds) (.ref a):=by rw[Den];exact⟨a,xs,rfl,h,q⟩
end
section
variable {X:Cx} {pins:List (Addr×Obj)} {σ:St} {H:Hp} {s:Shared}
mutual
theorem Den.reads(I:Inv X pins σ H s):∀(d:PyData) (v:V) (u:Value),d.canLay0=true->Den X.K H d v->RelV v u->∃as,Reads s.heap u d as
 | .none,v,u,_,h,r=>by rw[Den] at h;subst h;cases r;exact⟨_,.none⟩
 | .bool b,v,u,_,h,r=>by rw[Den] at h;subst h;cases r;exact⟨_,.bool b⟩
 | .int i,v,u,_,h,r=>by rw[Den] at h;subst h;obtain⟨t,rfl⟩:=r;exact⟨_,.int i t⟩
 | .str x,v,u,_,h,r=>by rw[Den] at h;subst h;obtain⟨t,rfl⟩:=r;exact⟨_,.str x t⟩
 | .list ds,v,u,c,h,r=>by
  rw[Den] at h;obtain⟨a,xs,rfl,q1,q2⟩:=h;cases r;obtain⟨its,rv,⟨o,n,e1,e2,_,e3⟩,_⟩:=I.list q1;obtain⟨as,ra⟩:=dJ.reads I ds xs its (by simpa [PyData.canLay0] using c) q2 rv;exact⟨_,.list e1 e2 e3 (by simpa using ra)⟩
 | .tuple ds,v,u,c,h,r=>by
  rw[Den] at h;obtain⟨a,xs,rfl,q1,q2⟩:=h;cases r;obtain⟨its,rv,⟨o,e1,e2,n,e3⟩,_⟩:=I.tuple q1;obtain⟨as,ra⟩:=dJ.reads I ds xs its (by simpa [PyData.canLay0] using c) q2 rv;exact⟨_,.tuple e1 e2 e3 (by simpa using ra)⟩
 | .dict _,_,_,c,_,_=>by simp[PyData.canLay0] at c
theorem dJ.reads(I:Inv X pins σ H s):∀(ds:List PyData) (xs:List V) (us:List Value),PyData.canLayAll0 ds=true->dJ X.K H ds xs->Vals xs us->∃as,ReadsAll s.heap us ds as
 | [],xs,us,_,h,r=>by rw[dJ] at h;subst h;cases r;exact⟨_,.nil⟩
 | d::ds,xs,us,c,h,r=>by
  have c':d.canLay0=true/\PyData.canLayAll0 ds=true:=by simpa [PyData.canLayAll0] using c
  rw[dJ] at h;obtain⟨x,rest,rfl,q1,q2⟩:=h;cases r with
  | cons r1 r2 =>obtain⟨as,ra⟩:=Den.reads I d x _ c'.1 q1 r1;obtain⟨bs,rb⟩:=dJ.reads I ds rest _ c'.2 q2 r2;exact⟨_,.cons ra rb⟩
end
end
section
variable {X:Cx}
noncomputable def QC(K:PySem.W.Frag):R2:=λx y H Q=>∃d e,Den K H d x/\Den K H e y/\d.canLay0=true/\e.canLay0=true/\d.depth<=60/\Q (.bl (PyData.eqv d e)) H
noncomputable def QD(K:PySem.W.Frag):R2:=λx y H Q=>∃d e,Den K H d x/\Den K H e y/\d.canLay0=true/\e.canLay0=true/\d.depth<=60/\Q (.bl (!PyData.eqv d e)) H
theorem Jq(hu:X.A.units+64<cLine):kN X (compareOp .Eq) (QC X.K):=by
 intro pins s σ H x y v u Q I rx ry h;obtain⟨d,e,hd,he,c1,c2,hz,q⟩:=h;obtain⟨as,ra⟩:=Den.reads I d x v c1 hd rx;obtain⟨bs,rb⟩:=Den.reads I e y u c2 he ry;exact SeqAt.compareEq_reads ra rb c1 c2 (by have:=Nat.min_le_left d.depth e.depth;omega) ⟨.bl _,H,I,rfl,q⟩
theorem Jr(hu:X.A.units+64<cLine):kN X (compareOp .NotEq) (QD X.K):=by
 intro pins s σ H x y v u Q I rx ry h;obtain⟨d,e,hd,he,c1,c2,hz,q⟩:=h;obtain⟨as,ra⟩:=Den.reads I d x v c1 hd rx;obtain⟨bs,rb⟩:=Den.reads I e y u c2 he ry;exact SeqAt.compareNe_reads ra rb c1 c2 (by have:=Nat.min_le_left d.depth e.depth;omega) ⟨.bl _,H,I,rfl,q⟩
theorem oS{ns:List Int}(I:Inv X pins σ H s)(hq:gz X.K H p (ns.map V.int))(h64:ns.length<64)
  (q:∀l,H l=none->Q (.ref l) (upd H l (.lst ((PySem.W.sortI ns).map V.int)))):wpAny (model X.prog X.w) X.A (call (.builtin "sorted") [.ref p]) (EP X pins σ Q) X.xe s:=by
 obtain⟨its,rv,pl,hz⟩:=I.list hq;have hi:=intsAre_of rv;have hl:=hi.length;refine sorted_ints pl.isList hi (by omega) λout ns' a1 a2 a3=>?_;obtain⟨e,he⟩:=sortedAll_at s.heap its out;have es:ns'=PySem.W.sortI ns:=eq_sortI a2 a3;subst es;have hn:H (s.heap.objs.size+1)=none:=I.hok.fresh (le_succ _);refine⟨.ref (s.heap.objs.size+1),_,I.laid (t':=s.toks) (λb o z=>sortedAll_old z) (le_succ _) (show bx X.prog X.w _ _ _ (.lst ((PySem.W.sortI ns).map V.int)) from⟨?_,out.toList,e,gW a1,by simpa using he⟩),rfl,q _ hn⟩;rw[length_map,(sortI_perm ns).length_eq,sizeLine_eq];omega
theorem lX:cH X (.builtin "sorted") (λxs H Q=>∃p ns,xs=[.ref p]/\gz X.K H p (ns.map V.int)/\ns.length<64/\∀l,H l=none->Q (.ref l) (upd H l (.lst ((PySem.W.sortI ns).map V.int)))):=by
 intro pins s σ H xs us Q I r h;obtain⟨p,ns,rfl,hq,h64,q⟩:=h;obtain⟨u,rfl,ru⟩:=vals1 r;cases ru;exact oS I hq h64 q
noncomputable def M0(K:PySem.W.Frag)(H:Hp)(r:Addr×List Int):Prop:=iS K H r.1 (r.2.map V.int)/\r.2≠[]
theorem wD{pins:List (Addr×Obj)}{σ:St}{H:Hp}{s:Shared}{A:Around}{rs:List (Addr×List Int)}{h6:Heap}{s6:Shared}(I:Inv X pins σ H s)(ht:∀r∈rs,M0 X.K H r)(h2:2<=rs.length)(k:∀b o,s.heap.get? b=some o->s6.heap.get? b=some o) :
  nP.qO X.prog X.w A nP.lexOrd (λi=>(rs.getD i (0,[])).2) (rs.map λr=>Value.ref r.1) s6:=by
 have tup:∀r∈rs,∃its o n,s6.heap.get? r.1=some o/\o.cls=.type "tuple" /\ o.data=.seq (toArray its) n/\IntsAre its r.2:=λr hr=>by
  obtain⟨its,rv,⟨o,e1,e2,n,e3⟩,_⟩:=I.tuple (ht r hr).1;exact⟨its,o,n,k _ _ e1,e2,e3,intsAre_of rv⟩
 have kt:∀rs:List (Addr×List Int),(∀r∈rs,∃its o n,s6.heap.get? r.1=some o/\o.cls=.type "tuple" /\ o.data=.seq (toArray its) n/\IntsAre its r.2)->(∀r∈rs,r.2≠[]) ->
   ∃fs,PySem.W.KatTups s6.heap (rs.map λr=>Value.ref r.1) fs/\fs.length=rs.length/\∀v∈fs,∃i t,v=Value.int i t:=by
  intro rs
  induction rs with
  | nil=>intro _ _;exact⟨[],PySem.W.KatTups.nil,rfl,λv hv=>nomatch hv⟩
  | cons r rs ih =>
   intro g1 g2;obtain⟨fs,q1,q2,q3⟩:=ih (λr' hr'=>g1 r' (mem_cons_of_mem _ hr')) λr' hr'=>g2 r' (mem_cons_of_mem _ hr');obtain⟨its,o,n,e1,e2,e3,hi⟩:=g1 r mem_cons_self;have hne:=g2 r mem_cons_self;cases hr:r.2 with
   | nil=>exact absurd hr hne
   | cons i is =>
    rw[hr] at hi;cases hi with
    | cons _ t hi' =>
     refine⟨.int i t::fs,PySem.W.KatTups.cons e1 e2 e3 (by simp) q1,by simp[q2],λv hv=>?_⟩
     rcases mem_cons.mp hv with z|z
     ·exact⟨i,t,z⟩
     ·exact q3 v z
 obtain⟨fs,q1,q2,q3⟩:=kt rs tup λr hr=>(ht r hr).2;unfold nP.qO;refine PySem.W.kat_kind q1 (by omega) (T:=Value.type "int") (λv hv=>?_) rfl ⟨rfl,λi j C hi hj hc=>?_⟩
 ·obtain⟨i,t,rfl⟩:=q3 v hv;exact PySem.W.Looks.of_pure rfl
 ·rw[length_map] at hi hj
  unfold PySem.W.kas_ask;have e1:(rs.map λr=>Value.ref r.1).getD i Value.none=Value.ref rs[i].1:=by simp[hi]
  have e2:(rs.map λr=>Value.ref r.1).getD j Value.none=Value.ref rs[j].1:=by simp[hj]
  have e3:rs.getD i (0,[])=rs[i]:=by simp[hi]
  have e4:rs.getD j (0,[])=rs[j]:=by simp[hj]
  rw[e1,e2];simp only[e3,e4] at hc;obtain⟨its,o,n,a1,a2,a3,a4⟩:=tup rs[i] (List.getElem_mem hi);obtain⟨its',o',n',b1,b2,b3,b4⟩:=tup rs[j] (List.getElem_mem hj);have l1:=a4.length;have l2:=b4.length;refine kat_lt a1 a3 b1 b3 (nP.m7 0 a4 b4 ?_ l1 hc (.inr rfl) (λ_ _ _=>trivial) (λ_=>trivial) ?_)
  ·rw[size_toArray,size_toArray,l1,l2];simp
  ·rw[size_toArray,size_toArray,l1,l2]
theorem zG{rs:List (Addr×List Int)}:∀{us:List Value},Vals (rs.map λr=>V.ref r.1) us->us=rs.map λr=>Value.ref r.1:=by
 induction rs with
 | nil=>intro us r;cases r;rfl
 | cons a rs ih =>
  intro us r;cases r with
  | cons r1 r2=>cases r1;rw[ih r2];rfl
theorem lY:cH X (.builtin "sorted") (λxs H Q=>∃(p:Addr) (rs:List (Addr×List Int)),xs=[.ref p]/\gz X.K H p (rs.map λr=>V.ref r.1)/\rs.length<64/\(∀r∈rs,M0 X.K H r) /\
  ∀(l:Addr) (qs:List (Addr×List Int)),H l=none->qs.Perm rs->qs.Pairwise (λa b=>HT.lexLt b.2 a.2=false)->Q (.ref l) (upd H l (.lst (qs.map λr=>V.ref r.1)))):=by
 intro pins s σ H xs us Q I r h;obtain⟨p,rs,rfl,hq,h64,ht,q⟩:=h;obtain⟨u,rfl,ru⟩:=vals1 r;cases ru;obtain⟨its,rv,pl,hz⟩:=I.list hq;have ev:=zG rv;subst ev;refine nP.fX (O:=nP.lexOrd) (collect_list pl.isList ?_ (by rw[length_map,sizeLine_eq];omega));have k1:∀b o,s.heap.get? b=some o->((s.heap.push (seqObj "list" #[] 0)).update s.heap.objs.size (Obj.mapSeq (· ++ (rs.map λr=>Value.ref r.1).toArray))).get? b=some o:=λb o e=>by
  rw[Heap.get?_update_ne _ _ _ _ (ne_of_lt (lt_size e))];exact get?_push_of_some _ e
 have VG:((s.heap.push (seqObj "list" #[] 0)).update s.heap.objs.size (Obj.mapSeq (· ++ (rs.map λr=>Value.ref r.1).toArray))).objs.size=s.heap.objs.size+1:=by rw[Heap.size_update,size_push']
 refine⟨by rw[length_map];exact h64,λi=>(rs.getD i (0,[])).2,λh2 h6 k6=>?_,λpp h' op k' he=>?_⟩
 ·rw[length_map] at h2;exact wD (h6:=h6) I ht h2 λb o e=>k6 b o (k1 b o e)
 ·rw[length_map] at op
  dsimp only at k' he |-;rw[VG] at he |-;obtain⟨e,he⟩:=he;have hn:H (s.heap.objs.size+1)=none:=I.hok.fresh (le_succ _);have lp:pp.length=rs.length:=by rw[op.perm.length_eq,length_range]
  have mem:∀i∈pp,i<rs.length:=λi hi=>by simpa using op.perm.mem_iff.mp hi
  have QE:(pp.map λi=>(rs.map λr=>Value.ref r.1).getD i Value.none)=(pp.map λi=>rs.getD i (0,[])).map λr=>Value.ref r.1:=by rw[map_map];refine map_congr_left λi hi=>?_;simp[mem i hi]
  have qp:(pp.map λi=>rs.getD i (0,[])).Perm rs:=by have:=op.perm.map λi=>rs.getD i (0,[]);rwa [nP.dR] at this
  have qs:(pp.map λi=>rs.getD i (0,[])).Pairwise (λa b=>HT.lexLt b.2 a.2=false):=by have up1:=pairwise_map.mp op.up;exact pairwise_map.mpr up1
  refine⟨.ref (s.heap.objs.size+1),_,I.laid (t':=s.toks) (λb o z=>k' b o (k1 b o z)) (le_succ _) (show bx X.prog X.w _ _ _ (.lst ((pp.map λi=>rs.getD i (0,[])).map λr=>V.ref r.1)) from⟨?_,_,e,?_,he⟩),rfl,q _ _ hn qp qs⟩
  ·rw[length_map,length_map,lp,sizeLine_eq];omega
  ·rw[QE]
   generalize (pp.map λi=>rs.getD i (0,[]))=zs
   induction zs with
   | nil=>exact .nil
   | cons z zs ih=>exact .cons rfl ih
theorem xU{ns:List Int}(h:IntsAre us ns):∀(i:Nat) (v:Value),us[i]?=some v->∃t,v=.int (ns.getD i 0) t:=by
 induction h with
 | nil=>intro i v e;simp at e
 | cons z t r ih =>
  intro i v e;cases i with
  | zero=>simp at e;exact⟨t,by simp[<-e]⟩
  | succ i=>obtain⟨u,q⟩:=ih i v (by simpa using e);exact⟨u,by simpa using q⟩
theorem qQ{pins:List (Addr×Obj)}{σ:St}{H:Hp}{s:Shared}{p:Addr}{ns:List Int}(I:Inv X pins σ H s)(hc:X.calm=true)(hq:gz X.K H p (ns.map V.int)\/iS X.K H p (ns.map V.int))(hne:0<ns.length){Q:Value->Shared->Prop}{f:String}{bt:Int->Int->Bool}{op:CmpOp}
  (hf:∀{Q:Value->Shared->Prop},wpAny (model X.prog X.w) X.A.in1 (pyIter (.ref p)) (λit s₂=>∃I fp wr n P St bt,it=.ref I/\Walks X.prog X.w X.A.in1 I fp wr n P St/\St 0 s₂.heap/\(∀b∈fp,b<s₂.heap.objs.size)/\0<n/\CmpOf X.prog X.w X.A.in1 op P bt /\
   ∀v h' tk,P (argBest bt (n-1)) v->(∀b o,b∉wr->s₂.heap.get? b=some o->h'.get? b=some o)->Q v { s₂ with heap:=h',toks:=tk }) X.xe s->wpAny (model X.prog X.w) X.A (call (.builtin f) [.ref p]) Q X.xe s)
  (hcmp:∀(P:Nat->Value->Prop),(∀i v,P i v->∃t,v=.int (ns.getD i 0) t)->CmpOf X.prog X.w X.A.in1 op P λi j=>bt (ns.getD i 0) (ns.getD j 0))
  (h:∀t h' tk,(∀b o,s.heap.get? b=some o->h'.get? b=some o)->argBest (λi j=>bt (ns.getD i 0) (ns.getD j 0)) (ns.length-1)<ns.length->Q (.int (ns.getD (argBest (λi j=>bt (ns.getD i 0) (ns.getD j 0)) (ns.length-1)) 0) t) { s with heap:=h',toks:=tk }) :
  wpAny (model X.prog X.w) X.A (call (.builtin f) [.ref p]) Q X.xe s:=by
 have hh:X.A.in1.handled=none:=I.ok.hd hc;have up:∀{us:List Value} (P:Nat->Value->Prop) (hi:IntsAre us ns),(∀i v,P i v->us.toArray[i]?=some v)->∀i v,P i v->∃t,v=.int (ns.getD i 0) t:=λP hi hP i v q=>xU hi i v (by simpa using hP i v q);have best:∀{us:List Value} (hi:IntsAre us ns) (v:Value) (h':Heap) (tk:Nat),us.toArray[argBest (λi j=>bt (ns.getD i 0) (ns.getD j 0)) (us.toArray.size-1)]?=some v->(∀b o,s.heap.get? b=some o->h'.get? b=some o)->Q v { s with heap:=h',toks:=tk }:=λ{us} hi v h' tk e k=>by
  have hl:=hi.length;rw[size_toArray,hl] at e;have e':us[argBest (λi j=>bt (ns.getD i 0) (ns.getD j 0)) (ns.length-1)]?=some v:=by simpa using e
  obtain⟨t,rfl⟩:=xU hi _ v e';exact h t h' tk k (by have:=(List.getElem?_eq_some_iff.mp e').1;omega)
 rcases hq with hq|hq
 ·obtain⟨its,rv,pl,hz⟩:=I.list hq
  have hi:=intsAre_of rv;have hl:=hi.length;have hpl:=pl.isList;have hlt:p<s.heap.objs.size:=by obtain⟨_,e,_⟩:=hpl;exact lt_size e
  refine hf (wpAny_pyIter_list hpl ⟨s.heap.objs.size,[s.heap.objs.size,p],[s.heap.objs.size],its.toArray.size,_,_,λi j=>bt (ns.getD i 0) (ns.getD j 0),rfl,Walks.list hh _ p (ne_of_lt hlt) its.toArray,⟨⟨_,get?_push_size _ rfl,rfl,rfl⟩,hpl.push _⟩,λb hb=>?_,by rw[size_toArray];omega,
   hcmp _ (up _ hi λi v q=>q),λv h' tk e k=>?_⟩)
  ·simp only[size_push']
   rcases mem_cons.mp hb with z|z
   ·rw[z];exact lt_succ_self _
   ·rw[mem_singleton.mp z];exact lt_succ_of_lt hlt
  ·exact best hi v h' tk e λb o z=>k b o (by simp;exact ne_of_lt (lt_size z)) (get?_push_of_some _ z)
 ·obtain⟨its,rv,pl,hz⟩:=I.tuple hq
  have hi:=intsAre_of rv;have hl:=hi.length;have hpl:s.heap.IsTuple p its.toArray:=pl;have hlt:p<s.heap.objs.size:=by obtain⟨_,e,_⟩:=hpl;exact lt_size e
  refine hf (wpAny_pyIter_tuple hpl ⟨s.heap.objs.size,[s.heap.objs.size,p],[s.heap.objs.size],its.toArray.size,_,_,λi j=>bt (ns.getD i 0) (ns.getD j 0),rfl,Walks.tuple hh _ p (ne_of_lt hlt) its.toArray,⟨⟨_,get?_push_size _ rfl,rfl,rfl⟩,?_⟩,λb hb=>?_,by rw[size_toArray];omega,
   hcmp _ (up _ hi λi v q=>q),λv h' tk e k=>?_⟩)
  ·obtain⟨o,e,c⟩:=hpl;exact⟨o,get?_push_of_some _ e,c⟩
  ·simp only[size_push']
   rcases mem_cons.mp hb with z|z
   ·rw[z];exact lt_succ_self _
   ·rw[mem_singleton.mp z];exact lt_succ_of_lt hlt
  ·exact best hi v h' tk e λb o z=>k b o (by simp;exact ne_of_lt (lt_size z)) (get?_push_of_some _ z)
theorem sE(hc:X.calm=true):cH X (.builtin "min") (λxs H Q=>∃(p:Addr) (ns:List Int),xs=[.ref p]/\(gz X.K H p (ns.map V.int)\/iS X.K H p (ns.map V.int))/\0<ns.length/\∀m,m∈ns->(∀a∈ns,m<=a)->Q (.int m) H):=by
 intro pins s σ H xs us Q I r h;obtain⟨p,ns,rfl,hq,hne,q⟩:=h;obtain⟨u,rfl,ru⟩:=vals1 r;cases ru;refine qQ (bt:=λa b=>decide (a<b)) (op:=.Lt) I hc hq hne (λ{Q} h=>call_min_walk h) (λP hP=>?_) λt h' tk k hb=>⟨.int _,H,I.kept k,⟨t,rfl⟩,q _ ?_ λa ha=>?_⟩
 ·intro i j x y s' Q' E' hx hy hQ;obtain⟨t,rfl⟩:=hP i x hx;obtain⟨t',rfl⟩:=hP j y hy;exact lt_int (by simpa using hQ)
 ·exact getD_mem hb
 ·obtain⟨j,hj,rfl⟩:=mem_getD ha;exact(argBest_lt (λi=>ns.getD i 0) (ns.length-1)).2 j (by omega)
theorem sG(hc:X.calm=true):cH X (.builtin "max") (λxs H Q=>∃(p:Addr) (ns:List Int),xs=[.ref p]/\(gz X.K H p (ns.map V.int)\/iS X.K H p (ns.map V.int))/\0<ns.length/\∀m,m∈ns->(∀a∈ns,a<=m)->Q (.int m) H):=by
 intro pins s σ H xs us Q I r h;obtain⟨p,ns,rfl,hq,hne,q⟩:=h;obtain⟨u,rfl,ru⟩:=vals1 r;cases ru;refine qQ (bt:=λa b=>decide (a>b)) (op:=.Gt) I hc hq hne (λ{Q} h=>call_max_walk h) (λP hP=>?_) λt h' tk k hb=>⟨.int _,H,I.kept k,⟨t,rfl⟩,q _ ?_ λa ha=>?_⟩
 ·intro i j x y s' Q' E' hx hy hQ;obtain⟨t,rfl⟩:=hP i x hx;obtain⟨t',rfl⟩:=hP j y hy;exact gt_int (by simpa using hQ)
 ·exact getD_mem hb
 ·obtain⟨j,hj,rfl⟩:=mem_getD ha;exact(argBest_gt (λi=>ns.getD i 0) (ns.length-1)).2 j (by omega)
end
end L2
end
section
namespace L2
open PySem PySem.Spec PyProof.Rows
section
variable {X:Cx}
section
open PySem.AutoSeq1 (wpAny_loadPart')
theorem sH(l b:Addr)(items items2:Array Value)(n n2:Nat)(dd2:Option Addr)(sl2:Array (Option Value))(hs0:¬(!items.isEmpty&&Builtin.List.listTooLong (items.size+items2.size))=true)(hs1:items.size<=sizeLine)(hs2:items.size+items2.size<=sizeLine+1) :
  Meets (Builtin.«list.extend» ⟨[.ref l,.ref b],[]⟩) (λ_ R s=>s.heap.get? l=some { cls:=.type "list",data:=.seq items n }/\s.heap.get? b=some { cls:=.type "tuple",dict:=dd2,data:=.seq items2 n2,slots:=sl2 } /\
   R (.ok (.ret Value.none)) { s with heap:=s.heap.update l (Obj.mapSeq λx=>x++items2) }) :=
 .of_wp λprog w A R s h=>by
  obtain⟨hp,g,d,tk,os⟩:=s;obtain⟨hl,hb,h⟩:=h;have f2:=AutoSeq1.sub_tuple_tuple;have f3:=AutoSeq1.sub_list_list;have f4:=AutoSeq1.sub_tuple_list;have f5:=AutoSeq1.sub_list_tuple;have hz':(items++items2).size<=sizeLine+1:=by rw[Array.size_append];exact hs2
  wp_walk using (wpAny_updateSeq hl rfl (hz:=hs1) (_hz':=hz')),wpAny_loadPart' hl,wpAny_loadPart' hb
  exact⟨_,rfl,h⟩
end
noncomputable def Bo(K:PySem.W.Frag):V->List V->Hp->VK->Prop:=λx vs H Q=>∃l b xs zs,x=.ref l/\vs=[.ref b]/\H l=some (.lst xs)/\iS K H b zs/\xs.length+zs.length<=sizeLine/\Q .non (upd H l (.lst (xs++zs)))
theorem wF:Qo X "list.extend" (Bo X.K):=by
 intro pins s σ H x vs v us Q I rx rv h;obtain⟨l,b,xs,zs,rfl,rfl,hH,hB,hz,q⟩:=h;cases rx;obtain⟨u,rfl,ru⟩:=rv.one;cases ru;obtain⟨z,its,n,r,hl,e⟩:=I.Ef hH;obtain⟨its2,r2,⟨⟨oc,od,VH,osl⟩,e2,ec,n2,ed⟩,z2⟩:=I.tuple hB;cases ec;cases ed;have l2:=r2.length;have hsz:its.toArray.size+its2.toArray.size<=sizeLine:=by rw[size_toArray,size_toArray];omega
 have AY:¬ (!its.toArray.isEmpty&&Builtin.List.listTooLong (its.toArray.size+its2.toArray.size))=true:=by rw[t9 hsz,Bool.and_false];exact Bool.false_ne_true
 refine call_meets F.slot_list_extend ⟨_,e,rfl⟩ F.entry_list_extend (F.args_list_extend_2 _ _)
  (sH l b its.toArray its2.toArray n n2 od osl AY (by rw[size_toArray];omega) (by omega)) ⟨e,e2,?_⟩
 refine⟨.non,_,I.Jf (its':=its++its2) hH e (by simp) (r.append r2) ?_,rfl,q⟩;rw[length_append];omega
end
end L2
end
section
namespace L2
open PySem
noncomputable def qR(xs:Array Nat):Prop:=xs.toList.Pairwise (· < ·)
structure Cut (xs:Array Nat) (j p:Nat):Prop where
 le:p<=xs.size
 lo:∀(i:Nat) (hi:i<xs.size),i<p->xs[i]<j
 hi:∀(i:Nat) (hi:i<xs.size),p<=i->j<=xs[i]
theorem Cut.one{xs:Array Nat}{j p q:Nat}(a:Cut xs j p)(b:Cut xs j q):p=q:=by
 rcases Nat.lt_trichotomy p q with h|h|h
 ·have hp:p<xs.size:=lt_of_lt_of_le h b.le;have:=a.hi p hp (le_refl _);have:=b.lo p hp h;omega
 ·exact h
 ·have hq:q<xs.size:=lt_of_lt_of_le h a.le;have:=b.hi q hq (le_refl _);have:=a.lo q hq h;omega
theorem qR.get{xs:Array Nat}(r:qR xs){a b:Nat}(ha:a<xs.size)(hb:b<xs.size)(h:a<b):xs[a]<xs[b]:=by
 have:=List.pairwise_iff_getElem.mp r a b (by simpa using ha) (by simpa using hb) h;simpa using this
theorem wG{xs:Array Nat}(r:qR xs)(j:Nat):∀(fuel lo hi:Nat),lo<=hi->hi<=xs.size->hi-lo<=fuel->(∀(i:Nat) (hi:i<xs.size),i<lo->xs[i]<j)->(∀(i:Nat) (h:i<xs.size),hi<=i->j<=xs[i])->Cut xs j (SetTable.below.go xs j fuel lo hi)
 | 0,lo,hi,h1,h2,h3,a,b=>by
  have:lo=hi:=by omega
  subst this;exact⟨h2,a,b⟩
 | fuel+1,lo,hi,h1,h2,h3,a,b=>by
  unfold SetTable.below.go
  by_cases hlt:lo<hi
  ·rw[if_pos hlt]
   dsimp only;have hm:(lo+hi)/2<xs.size:=by omega
   have eg:xs.getD ((lo+hi)/2) j=xs[(lo+hi)/2]:=by simp[Array.getD,hm]
   rw[eg]
   by_cases hc:xs[(lo+hi)/2]<j
   ·rw[if_pos hc]
    refine wG r j fuel _ hi (by omega) h2 (by omega) (λi hi' hl=>?_) b
    by_cases e:i=(lo+hi)/2
    ·subst e;exact hc
    ·exact lt_trans (r.get hi' hm (by omega)) hc
   ·rw[if_neg hc]
    refine wG r j fuel lo _ (by omega) (by omega) (by omega) a (λi hi' hl=>?_)
    by_cases e:i=(lo+hi)/2
    ·subst e;omega
    ·have:=r.get hm hi' (by omega);omega
  ·rw[if_neg hlt]
   have:lo=hi:=by omega
   subst this;exact⟨h2,a,b⟩
theorem jM{xs:Array Nat}(r:qR xs)(j:Nat):Cut xs j (SetTable.below xs j) :=
 wG r j xs.size 0 xs.size (zero_le _) (le_refl _) (by omega) (λi _ h=>by omega) (λi h hl=>by omega)
theorem wH{xs:Array Nat}(r:qR xs):SetTable.below xs 0=0:=(jM r 0).one ⟨zero_le _,λi _ h=>by omega,λi _ _=>zero_le _⟩
theorem wI{xs:Array Nat}(r:qR xs){i:Nat}(hi:i<xs.size):SetTable.below xs (xs[i]+1)=i+1:=by
 refine(jM r _).one ⟨hi,λk hk h=>?_,λk hk h=>?_⟩
 ·by_cases e:k=i
  ·subst e;omega
  ·have:=r.get hk hi (by omega);omega
 ·have:=r.get hi hk (by omega);omega
theorem zH{xs:Array Nat}(r:qR xs){j:Nat}(h:j∈xs):xs[SetTable.below xs j]?=some j:=by
 obtain⟨k,hk,e⟩:=Array.mem_iff_getElem.mp h;have:SetTable.below xs j=k:=by
  refine(jM r j).one ⟨le_of_lt hk,λi hi h=>?_,λi hi h=>?_⟩
  ·have:=r.get hi hk h;omega
  ·by_cases e':i=k
   ·subst e';omega
   ·have:=r.get hk hi (by omega);omega
 rw[this,Array.getElem?_eq_getElem hk,e]
theorem zJ{xs:Array Nat}(r:qR xs){j:Nat}(h:j∉xs):qR (SetTable.insertAt xs (SetTable.below xs j) j):=by
 have c:=jM r j;unfold qR;rw[SetTable.toList_insertAt];have rl:xs.toList.Pairwise (· < ·):=r;have lo:∀a∈xs.toList.take (SetTable.below xs j),a<j:=λa ha=>by
  obtain⟨i,hi,e⟩:=List.mem_iff_getElem.mp ha;rw[length_take,length_toList] at hi;rw[List.getElem_take] at e;have:=c.lo i (by omega) (by omega);rw[<-e];simpa using this
 have up:∀a∈xs.toList.drop (SetTable.below xs j),j<a:=λa ha=>by
  obtain⟨i,hi,e⟩:=List.mem_iff_getElem.mp ha;rw[length_drop,length_toList] at hi;rw[List.getElem_drop] at e;have h1:=c.hi (SetTable.below xs j+i) (by omega) (by omega);have e':xs[SetTable.below xs j+i]'(by omega)=a:=by rw[<-e];simp
  rw[e'] at h1;have:a≠j:=λz=>h (by rw[<-z,<-e'];exact Array.getElem_mem _);omega
 rw[List.pairwise_append];refine⟨rl.sublist (List.take_sublist _ _),pairwise_cons.mpr ⟨up,rl.sublist (List.drop_sublist _ _)⟩,λa ha b hb=>?_⟩
 rcases mem_cons.mp hb with e|hb
 ·rw[e];exact lo a ha
 ·exact lt_trans (lo a ha) (up b hb)
theorem kW(n:Nat):qR (Array.range n):=by
 unfold qR;rw[Array.toList_range];exact List.pairwise_lt_range
theorem qS{t:SetTable}(r:qR t.place){j:Nat}(h:t.slot j=.empty\/t.slot j=.dummy):j∉t.place:=λhm=>by
 have e:=zH r hm;unfold SetTable.slot at h;dsimp only at h;rw[e] at h;simp at h
theorem kC{h:Int}:∀(fuel:Nat) (p:SetTable.Probe) (j:Nat) (d:Option Nat),(∀k,p.dummy=some k->t.slot k=.dummy)->SetTable.probe.go t f h fuel p=some (.empty j d)->t.slot j=.empty/\∀k,d=some k->t.slot k=.dummy
 | 0,p,j,d,hd,e=>by simp[SetTable.probe.go] at e
 | fuel+1,p,j,d,hd,e=>by
  have ad:∀q:SetTable.Probe,(t.advance q).dummy=q.dummy:=λq=>by unfold SetTable.advance;split<;>rfl
  unfold SetTable.probe.go at e;split at e
  ·rename_i hs;cases e;exact⟨hs,hd⟩
  ·rename_i hs;refine kC fuel _ j d (λk hk=>?_) e;rw[ad] at hk;cases hk;exact hs
  ·split at e
   ·cases e
   ·exact kC fuel _ j d (λk hk=>hd k (by rw[<-ad];exact hk)) e
theorem Bp{t:SetTable}(r:qR t.place){h:Int}{s:Nat}{b:Bool}(e:t.freeSlot h=some (s,b)):s∉t.place:=by
 unfold SetTable.freeSlot at e;split at e
 ·rename_i j d hp
  cases e;obtain⟨h1,h2⟩:=kC _ _ _ _ (λk hk=>by simp[SetTable.probeStart] at hk) hp;cases d with
  | none=>exact qS r (.inl h1)
  | some k=>exact qS r (.inr (h2 k rfl))
 ·cases e
theorem zK(r:qR t.place)(es:Array (Int×Value))(h:Int)(x:Value):qR (layNew t es h x).2.1.place/\(layNew t es h x).2.1.led=t.led:=by
 unfold layNew
 split
 ·rename_i s b e
  have fr:=Bp r e;dsimp only;unfold SetTable.orStandIn
  split
  ·exact⟨zJ r fr,rfl⟩
  ·exact⟨kW _,rfl⟩
 ·exact⟨kW _,rfl⟩
theorem Bq(r:qR t.place)(es:Array (Int×Value))(n:Nat):qR (relayAll t es n).2.1.place/\(relayAll t es n).2.1.led=t.led:=by
 unfold relayAll
 split
 ·rename_i t' order e
  dsimp only
  split
  ·unfold SetTable.relaid SetTable.laid at e;obtain⟨ow,e1,e⟩:=bind_eq_some_iff.mp e;cases e;refine⟨?_,rfl⟩;show List.Pairwise _ (List.map _ _).toArray.toList;rw[List.toList_toArray,pairwise_map];refine List.Pairwise.filterMap _ (R:=(· < ·)) (λa a' hl b hb b' hb'=>?_) List.pairwise_lt_range;obtain⟨x,_,rfl⟩:=map_eq_some_iff.mp hb;obtain⟨y,_,rfl⟩:=map_eq_some_iff.mp hb';exact hl
  ·exact⟨kW _,rfl⟩
 ·exact⟨kW _,rfl⟩
end L2
end
section
namespace L2
open PySem PyProof.Rows
noncomputable def qw(w:World):Bool:=w.params.followText "set-order"
structure GL (w:World) (es:Array (Int×Value)) (t:SetTable):Prop where
 few:es.size<scanBound
 fit:t.fits es.size=true
 rs:qR t.place
 led:t.led = !qw w
structure dS (prog:Program) (w:World) (h:Heap) (a:Addr) (o:Obj) (es:Array (Int×Value)) (ep:Nat) (t:SetTable) (ks:List Int):Prop where
 at_:h.get? a=some o
 ex:o.ExactSet
 dat:o.data=.set es ep t
 el:ElemsOf (intKind prog w) es.toList
 tab:GL w es t
 T9:ks.Nodup
 mem:∀k,k∈ks↔∃e∈es.toList,(intKind prog w).is k e.2=true
 num:es.size=ks.length
noncomputable def nI(prog:Program)(w:World)(h:Heap)(a:Addr)(ks:List Int):Prop:=∃o es ep t,dS prog w h a o es ep t ks
noncomputable def oU(ks:List Int)(k:Int):List Int:=if k∈ks then ks else ks++[k]
section
variable {prog:Program} {w:World} {A:Around} {E:Value->Shared->Prop} {s:Shared}
theorem Br{h:Heap}{a:Addr}{o:Obj}{es es':Array (Int×Value)}{ep:Nat}{t t':SetTable}(ho:h.get? a=some o)(hd:o.data=.set es ep t):(h.update a (Obj.putSet es' t')).get? a=some { o with data:=.set es' (ep+1) t' }:=by
 have q:=get?_update_self (Obj.putSet es' t') ho (by rw[putSet_of es' t' hd];rfl);rw[putSet_of es' t' hd] at q;exact q
theorem nI.frame{ks:List Int}(S:nI prog w h a ks)(k:∀o,h.get? a=some o->h'.get? a=some o):nI prog w h' a ks:=by
 obtain⟨o,es,ep,t,i⟩:=S;exact⟨o,es,ep,t,{ i with at_:=k o i.at_ }⟩
theorem mem_push{es es1:List (Int×Value)}{ks:List Int}{k:Int}(hx:(intKind prog w).is k x=true)(hm:∀j,j∈ks↔∃e∈es,(intKind prog w).is j e.2=true)(p:es1.Perm (es++[((intKind prog w).hash k,x)]))(j:Int) :
  j∈ks++[k]↔∃e∈es1,(intKind prog w).is j e.2=true:=by
 rw[mem_append,mem_singleton,hm];constructor
 ·rintro(⟨e,he,q⟩|rfl)
  ·exact⟨e,p.mem_iff.mpr (mem_append_left _ he),q⟩
  ·exact⟨_,p.mem_iff.mpr (mem_append_right _ mem_cons_self),hx⟩
 ·rintro⟨e,he,q⟩
  rcases mem_append.mp (p.mem_iff.mp he) with z|z
  ·exact .inl ⟨e,z,q⟩
  ·rw[mem_singleton] at z;subst z;exact .inr ((intKind prog w).inj x j k q hx)
theorem um{g:Bool->Sem Unit}(hg:∀(b:Bool) (s₁:Shared) (Q':Unit->Shared->Prop),Q' () s₁->wpAny (model prog w) A (g b) Q' E s₁)
  {a:Addr} {o:Obj} {es es1:Array (Int×Value)} {ep:Nat} {t t2:SetTable} {ks:List Int} (ho:s.heap.get? a=some o) (hex:o.ExactSet) (hd:o.data=.set es ep t)
  (hel:ElemsOf (intKind prog w) es1.toList) (hm:∀k,k∈ks↔∃e∈es1.toList,(intKind prog w).is k e.2=true) (hnd:ks.Nodup) (hn:es1.size=ks.length) (ht:GL w es1 t2) {b:Bool} {R:Option Bool->Shared->Prop}
  (h:∀h',Heap.SameBut a s.heap h'->nI prog w h' a ks->R (some true) { s with heap:=h' }) :
  wpAny (model prog w) A (do
    storeSet a es1 t2
    if (!b&&t2.tooFull)=true then do
      g (relayAll t2 es1 (SetTable.grown es1.size)).2.2
      storeSet a (relayAll t2 es1 (SetTable.grown es1.size)).1 (relayAll t2 es1 (SetTable.grown es1.size)).2.1
      pure (some true)
     else pure (some true)) R E s:=by
 refine wpAny_bind (wpAny_storeSet_of ho hd ?_ (fits_of_scanBound ht.few));have h1:=Br (es':=es1) (t':=t2) ho hd;have b1:=Heap.SameBut.update s.heap a (Obj.putSet es1 t2)
 split
 ·have p:=relayAll_perm t2 es1 (SetTable.grown es1.size)
  have f:=relayAll_fits t2 es1 (SetTable.grown es1.size);have rr:=Bq ht.rs es1 (SetTable.grown es1.size);generalize relayAll t2 es1 (SetTable.grown es1.size)=Rl at p f rr |-;obtain⟨QF,t3,gv⟩:=Rl;dsimp only at p f rr |-;have z:QF.size=es1.size:=by rw[<-length_toList,p.length_eq,length_toList]
  have few:QF.size<scanBound:=by rw[z];exact ht.few
  refine wpAny_bind (hg _ _ _ ?_);refine wpAny_bind (wpAny_storeSet_of h1 rfl ?_ (fits_of_scanBound few));refine wpAny_pure (h _ (b1.trans (Heap.SameBut.update _ a _)) ⟨_,QF,_,t3,Br h1 rfl,hex,rfl,hel.perm p,⟨few,f,rr.1,rr.2.trans ht.led⟩,hnd,λk=>(hm k).trans ⟨λ⟨e,he,q⟩=>⟨e,p.mem_iff.mpr he,q⟩,λ⟨e,he,q⟩=>⟨e,p.mem_iff.mp he,q⟩⟩,z.trans hn⟩)
 ·exact wpAny_pure (h _ b1 ⟨_,es1,_,t2,h1,hex,rfl,hel,ht,hnd,hm,hn⟩)
theorem add_int{ks:List Int}{k:Int}(S:nI prog w s.heap a ks)(room:ks.length+1<scanBound)
  (h:∀h' b,Heap.SameBut a s.heap h'->nI prog w h' a (oU ks k)->Q b { s with heap:=h' }) :
  wpAny (model prog w) A (setAddHashed a (.int k tk) ((intKind prog w).hash k)) Q E s:=by
 obtain⟨o,es,ep,t,I⟩:=S;have hx:(intKind prog w).is k (.int k tk)=true:=intKind_is _ _ _ _;have sc:(Value.int k tk).scannable=true:=rfl;unfold setAddHashed setAddHashedIn;refine wpAny_holding (wpAny_bind (wpAny_setState_of I.at_ I.dat I.tab.fit ?_));dsimp only;rw[byScan_of sc I.tab.few I.el];simp only[↓reduceIte];unfold setAddByScan;refine wpAny_bind (wpAny_bind (wpAny_rule (wpAny_bind (wpAny_setScan_of hx I.at_ I.dat I.tab.fit I.el ?_))));cases hr:List.findIdx? (λe=>(intKind prog w).is k e.2) es.toList with
 | some j =>
  dsimp only;obtain⟨hj,pj,_⟩:=List.findIdx?_eq_some_iff_getElem.mp hr;have hk:k∈ks:=(I.mem k).mpr ⟨es.toList[j],List.getElem_mem hj,pj⟩;refine wpAny_pure (wpAny_pure ?_);have e:s={ s with heap:=s.heap }:=by cases s;rfl
  rw[e];exact h s.heap _ (Heap.SameBut.refl a s.heap) (by unfold oU;rw[if_pos hk];exact⟨o,es,ep,t,I⟩)
 | none =>
  dsimp only;have hk:k∉ks:=λz=>by
   obtain⟨e,he,p⟩:=(I.mem k).mp z;have:=List.findIdx?_eq_none_iff.mp hr e he;rw[p] at this;cases this
  have gw:∀(b:Bool) (s₁:Shared) (Q':Unit->Shared->Prop),Q' () s₁->wpAny (model prog w) A (match b with|true=>rule "set.scan.the-table-gave-way" | false=>pure ()) Q' E s₁:=λb s₁ Q' q=>by
   cases b
   ·exact wpAny_pure q
   ·exact wpAny_rule q
  have p:=layNew_perm t es ((intKind prog w).hash k) (.int k tk);have f:=layNew_fits t es ((intKind prog w).hash k) (.int k tk);have rr:=zK I.tab.rs es ((intKind prog w).hash k) (.int k tk);generalize layNew t es ((intKind prog w).hash k) (.int k tk)=Ln at p f rr |-;obtain⟨es1,t1,wd,gv⟩:=Ln;dsimp only at p f rr |-;rw[Array.toList_push] at p;have z:es1.size=(ks++[k]).length:=by rw[<-length_toList,p.length_eq,length_append,length_append,length_toList,I.num];rfl
  have few:es1.size<scanBound:=by rw[z,length_append];simpa using room
  have nd:(ks++[k]).Nodup:=by rw[nodup_append];exact⟨I.T9,by simp,λx hx' y hy e=>hk (by rw[mem_singleton] at hy;rw[<-hy,<-e];exact hx')⟩
  have Ua:ElemsOf (intKind prog w) es1.toList:=(I.el.push hx sc).perm p;have m1:=mem_push hx I.mem p;have fin:∀h',Heap.SameBut a s.heap h'->nI prog w h' a (ks++[k])->Q true { s with heap:=h' }:=λh' sb S'=>h h' true sb (by unfold oU;rw[if_neg hk];exact S');refine wpAny_bind (gw _ _ _ ?_)
  split
  ·refine wpAny_bind ?_
   rw[hashByValue_scannable 8 sc];refine wpAny_pure ?_;refine um gw I.at_ I.ex I.dat Ua m1 nd z ⟨few,?_,?_,?_⟩ λh' sb S'=>wpAny_pure (fin h' sb S')
   ·split
    ·exact f
    ·exact SetTable.fits_plain_off f
   ·split
    ·exact rr.1
    ·exact rr.1
   ·split
    ·exact rr.2.trans I.tab.led
    ·exact rr.2.trans I.tab.led
  ·refine wpAny_bind (wpAny_pure ?_);simp only[↓reduceIte];exact um gw I.at_ I.ex I.dat Ua m1 nd z ⟨few,f,rr.1,rr.2.trans I.tab.led⟩ λh' sb S'=>wpAny_pure (fin h' sb S')
end
end L2
end
section
namespace L2
open PySem PyProof.Rows
noncomputable def dM:List Int->List Int->List Int
 | ks,[]=>ks
 | ks,k::r=>dM (oU ks k) r
theorem oV(ks:List Int)(k:Int):(oU ks k).length<=ks.length+1:=by unfold oU;split<;>simp
section
variable {prog:Program} {w:World} {A:Around} {E:Value->Shared->Prop} {s:Shared}
theorem Bs{R:Result->Shared->Prop}{I:Addr}{fp wr:List Addr}{G:Array GenState->Array GenState->Prop}{n:Nat}{P:Nat->Value->Prop}{St:Nat->Shared->Prop}(W:WalksS prog w A.in1 I fp wr G n P St)(S:Addr)(hSf:S∉fp)(val:Nat->Int)(hval:∀i v,P i v->∃t,v=.int (val i) t) :
  ∀(k i:Nat) (s:Shared) (ks:List Int),n-i=k->i<=n->ks.length+k+1<scanBound->St i s->nI prog w s.heap S ks ->
   (∀s',Moved (S::wr) G s s'->nI prog w s'.heap S (dM ks ((range' i k).map val))->R (.ok (.ret .none)) s') ->
   codeAny (model prog w) A (.builtin "set.update.loop" ⟨[.ref S,.ref I],[]⟩) R s:=by
 have Ub:S∉wr:=λh=>hSf (W.sub _ h);have sub:∀b∈wr,b∈S::wr:=λb hb=>mem_cons_of_mem _ hb;intro k
 induction k with
 | zero =>
  intro i s ks hk hi _ hst hS hR;have:i=n:=by omega
  subst this;refine codeAny_builtin PyProof.Rows.F.entry_set_update_loop ?_;rw[Around.under_plainId PyProof.Rows.F.plain_set_update_loop _];show wpAny _ A.in1 (pyNext (.ref I) >>= _) _ _ s;refine wpAny_bind (W.done s _ _ hst λs' hm=>?_);show wpAny _ A.in1 (ret Value.none) _ _ s';exact wpAny_pure (hR s' (hm.mono sub) (hS.frame λo e=>hm.heap S _ Ub e))
 | succ k ih =>
  intro i s ks hk hi hl hst hS hR;have hlt:i<n:=by omega
  refine codeAny_builtin PyProof.Rows.F.entry_set_update_loop ?_;rw[Around.under_plainId PyProof.Rows.F.plain_set_update_loop _];show wpAny _ A.in1 (pyNext (.ref I) >>= _) _ _ s;refine wpAny_bind (W.item i s _ _ hlt hst λv s' hP QG hm=>?_);obtain⟨t,rfl⟩:=hval i v hP;have hS':=hS.frame (h':=s'.heap) λo e=>hm.heap S _ Ub e;show wpAny _ A.in1 (holding [Value.int (val i) t] (setAdd S (.int (val i) t)) >>= _) _ _ s';refine wpAny_bind (wpAny_holding ?_);unfold setAdd;refine wpAny_holding (wpAny_bind ((intKind prog w).pyHash (k:=val i) (intKind_is _ _ _ _) ?_));refine add_int (s:={ s' with toks:=s'.toks+1 }) hS' (by omega) λh' b sb S2=>?_;have hl2:=oV ks (val i);refine wpAny_pure ⟨plainId_quiet PyProof.Rows.F.plain_set_update_loop _,ih (i+1) _ (oU ks (val i)) (by omega) hlt (by omega) (W.frame _ s' _ _ QG (le_succ _) λb hb o e=>?_) S2 λs'' Jm S3=>?_⟩
  ·rw[sb.2 b λz=>hSf (by rw[<-z];exact hb)];exact e
  ·refine hR s'' (Moved.trans W.gtrans ((hm.mono sub).then_heap (le_succ _) λb o hb e=>?_) Jm) ?_
   ·rw[sb.2 b λz=>hb (by rw[z];exact mem_cons_self)];exact e
   ·rw[List.range'_succ,map_cons,dM];exact S3
noncomputable abbrev oW(w:World):Obj:={ cls:=.type "set",dict:=none,data:=.set #[] 0 (.fresh 0 0 (!qw w)) }
theorem Ey(e:h.get? a=some (oW w)):nI prog w h a [] :=
 ⟨_,#[],0,_,e,⟨rfl,rfl,rfl⟩,rfl,λx hx=>by simp at hx,⟨by show 0<4096;decide,rfl,List.Pairwise.nil,rfl⟩,nodup_nil,λk=>by simp,rfl⟩
theorem Bt(a:Value)(h:Q₁ (.ref s.heap.objs.size) { s with heap:=s.heap.push (oW w) }) :
  codeAny (model prog w) A (.call (.builtin "set.__new__") ⟨[.type "set",a],[]⟩) (wants Q₁ E) s:=by
 refine codeAny_of_tree ?_;show wpAny _ A.in1 (do checkBuiltinCall "set.__new__" ⟨[.type "set",a],[]⟩;again (.builtin "set.__new__" ⟨[.type "set",a],[]⟩)) _ _ s;refine wpAny_bind (wpAny_of_eq (PySem.F.newCall_set_1 a) (wpAny_pure ⟨plainId_quiet PySem.F.plain_set_new _,codeAny_builtin PySem.F.entry_set_new ?_⟩));rw[Around.under_plainId PySem.F.plain_set_new _];unfold Builtin.«set.__new__» Builtin.Frozenset.newClass;have hsub:=sub_set_self;obtain⟨hp,g,d,tk,os⟩:=s;dsimp only
 wp_walk
 refine wpAny_askSetting (wpAny_pure ?_);dsimp only;simp only[newObj];refine wpAny_bind (wpAny_alloc (wpAny_pure ?_));exact wpAny_pure h
end
end L2
end
section
namespace L2
open PySem PyProof.Rows
section
variable {prog:Program} {w:World} {A:Around} {E:Value->Shared->Prop} {s:Shared}
theorem wJ{ns:List Int}(hi:IntsAre vs ns):(range' 0 vs.length).map (λi=>ns.getD i 0)=ns:=by
 have hl:=IntsAre.length hi;apply ext_getElem
 ·rw[length_map,List.length_range',hl]
 ·intro i h1 h2;simp[List.getD,h2]
theorem uo{ns:List Int}(hh:A.handled=none)(hl:s.heap.IsList l items)(hi:IntsAre items.toList ns)(hb:items.size+1<scanBound)
  (h:∀(h':Heap) (tk:Nat),nI prog w h' s.heap.objs.size (dM [] ns)->(∀b o,b<s.heap.objs.size->s.heap.get? b=some o->h'.get? b=some o)->Q (.ref s.heap.objs.size) { s with heap:=h',toks:=tk }) :
  wpAny (model prog w) A (call (.type "set") [.ref l]) Q E s:=by
 obtain⟨c,tl,mro⟩:=PySem.F.called_set.mro;have made:=PySem.F.called_set.made;have sub:=PySem.F.called_set.sub;refine wpAny_call (codeAny_of_tree ?_);show wpAny _ _ (callAny (.type "set") _) _ _ _;refine wpAny_pure ⟨Code.quiet_builtin _ (by decide +kernel),codeAny_builtin PySem.F.entry_type_call ?_⟩;rw[Around.under_plain (weight_type_call_type "set" [.ref l] []) rfl];have n1:=PySem.F.called_set.notType;have n2:=PySem.F.called_set.canCreate;have n3:=PySem.F.typeCall_set_1 (.ref l)
 repeat (any_goals (first|assumption|wp_step))
 refine codeAny_mono (Bt (.ref l) (E:=E) (Q₁:=λobj s₁=>obj=.ref s.heap.objs.size/\s₁={ s with heap:=s.heap.push (oW w) }) ⟨rfl,rfl⟩) λr s₁ hr=>?_;cases r with
 | error e=>exact hr
 | ok fl =>
  cases fl with
  | ret obj =>
   obtain⟨rfl,rfl⟩:=hr;have Uc:(s.heap.push (oW w)).get? s.heap.objs.size=some (oW w):=get?_push_size _ rfl;have hT:Shared.TypeIs { s with heap:=s.heap.push (oW w) } (.ref s.heap.objs.size) "set":=⟨_,Uc,rfl⟩;have look:=PySem.F.called_set.init.lookup;have bind:=PySem.F.called_set.init.bind (.ref s.heap.objs.size)
   repeat (any_goals (first|assumption|wp_step))
   refine codeAny_mono (codeAny_call_builtin (R:=wants (λr s₂=>r=.none/\∃h' tk,s₂={ s with heap:=h',toks:=tk }/\nI prog w h' s.heap.objs.size (dM [] ns) /\
     (∀b o,b<s.heap.objs.size->s.heap.get? b=some o->h'.get? b=some o)) E) PySem.F.called_set.init.plain PySem.F.entry_set_init (check_set_init_1 hT ?_)) λr₂ s₂ QH=>?_
   ·obtain⟨ol,Ud,cl,nl,dl⟩:=hl
    obtain⟨oc,od,YX,os⟩:=ol;simp only at cl dl;subst cl;subst dl;have QI:(s.heap.push (oW w)).get? l=some { cls:=.type "list",dict:=od,data:=.seq items nl,slots:=os }:=get?_push_of_some _ Ud;have q1:=PySem.F.sub_list_set;have q2:=PySem.F.sub_list_frozenset;have q3:(Value.type "list" == Value.type "dict")=false:=by decide
    have hl1:(s.heap.push (oW w)).IsList l items:=⟨_,QI,rfl,nl,rfl⟩;unfold Builtin.«set.__init__» noKeywords Builtin.Frozenset.updateFrom;generalize VI:pyIter=PI
    wp_walk
    subst VI;refine wpAny_pyIter_list hl1 (wpAny_bind (wpAny_runValue ?_));have lS:l<s.heap.objs.size:=lt_size Ud;have h3:A.in1.in1.in1.handled=none:=by simp[hh]
    have VJ:l≠(s.heap.push (oW w)).objs.size:=by rw[size_push];exact ne_of_lt (lt_succ_of_lt lS)
    have sF:s.heap.objs.size∉[(s.heap.push (oW w)).objs.size,l]:=by rw[size_push];simp only[mem_cons,not_mem_nil,or_false,not_or];exact⟨ne_of_lt (lt_succ_self _),ne_of_gt lS⟩
    have val:∀(i:Nat) (v:Value),items[i]?=some v->∃t,v=.int ((λi=>ns.getD i 0) i) t:=λi v hv=>IntsAre.int_at hi i v (by rw[getElem?_toList];exact hv);refine Bs ((Walks.list h3 _ l VJ items).toS) s.heap.objs.size sF (λi=>ns.getD i 0) val (items.size-0) 0 _ [] (by omega) (zero_le _) (by simpa using hb) ⟨⟨_,get?_push_size _ rfl,rfl,rfl⟩,hl1.push _⟩ ?s0 ?sR
    case s0=>exact Ey (get?_push_of_some _ Uc)
    case sR =>
     intro s' hm S';obtain⟨h',g',d',tk',os'⟩:=s';have eg:g'=s.gens:=hm.gens;have ed:d'=s.drawn:=hm.drawn;have eo:os'=s.os:=hm.os;subst eg;subst ed;subst eo;refine wpAny_pure ?_;show wpAny _ _ (ret Value.none) _ _ _;have e0:(range' 0 (items.size-0)).map (λi=>ns.getD i 0)=ns:=by have:=wJ hi;rw[length_toList] at this;exact this
     rw[e0] at S';refine wpAny_pure ⟨rfl,h',tk',rfl,S',λb o hb e=>?_⟩;have b1:b≠s.heap.objs.size:=ne_of_lt hb;have b2:b≠(s.heap.push (oW w)).objs.size:=by rw[size_push];exact ne_of_lt (lt_succ_of_lt hb)
     exact hm.heap b o (by simp only[mem_cons,not_mem_nil,or_false,not_or];exact⟨b1,b2⟩) (get?_push_of_some _ (get?_push_of_some _ e))
   ·cases r₂ with
    | error e=>exact QH
    | ok VL =>
     cases VL with
     | ret r =>
      obtain⟨rfl,h',tk,rfl,S',hk⟩:=QH
      repeat (any_goals (first|assumption|wp_step))
      exact h _ _ S' hk
     | _=>exact QH.elim
  | _=>exact hr.elim
end
end L2
end
section
namespace L2
open PySem PyProof.Rows
namespace SI
theorem wK:entryFor table "set.__iter__" = some Builtin.«frozenset.__iter__» :=
 entryFor_alias (id':="frozenset.__iter__") (by kernel_rfl) rfl (by decide +kernel) (by kernel_rfl)
theorem owner:Manifest.owners.lookup (String.ofList ['r','o','t','a','r','e','t','i','_','t','e','s'].reverse)=some Manifest.sig_set_iterator:=by kernel_rfl
theorem slot_next:Slot "set_iterator" "__next__" "set_iterator.__next__" :=
 .of (owner:="set_iterator") (n:="__next__") (by rw[typeLookup_type,builtinLookup_eq_fast];kernel_rfl) (by decide +kernel) (by decide +kernel) (by decide +kernel) (by first|exact .inl (by decide +kernel)|exact .inr (by decide +kernel)) (by rw[isSubtype_type];kernel_rfl)
theorem entry_next:entryFor table "set_iterator.__next__" = some Builtin.«set_iterator.__next__»:=entryFor_of_tree (by kernel_rfl)
theorem args_next(a:Value):argsOk "set_iterator.__next__" ⟨[a],[]⟩:=by
 unfold argsOk;rw[signature?_of (id:="set_iterator.__next__") (n:=['_','_','t','x','e','n','_','_']) (o:=['r','o','t','a','r','e','t','i','_','t','e','s']) (by kernel_rfl) owner];kernel_rfl
theorem qT:Slot "set_iterator" "__iter__" "set_iterator.__iter__" :=
 .of (owner:="set_iterator") (n:="__iter__") (by rw[typeLookup_type,builtinLookup_eq_fast];kernel_rfl) (by decide +kernel) (by decide +kernel) (by decide +kernel) (by first|exact .inl (by decide +kernel)|exact .inr (by decide +kernel)) (by rw[isSubtype_type];kernel_rfl)
theorem entry_self:entryFor table "set_iterator.__iter__" = some Builtin.«dict_keyiterator.__iter__» :=
 entryFor_alias (id':="dict_keyiterator.__iter__") (by kernel_rfl) rfl (by decide +kernel) (by kernel_rfl)
theorem zL(a:Value):argsOk "set_iterator.__iter__" ⟨[a],[]⟩:=by
 unfold argsOk;rw[signature?_of (id:="set_iterator.__iter__") (n:=['_','_','r','e','t','i','_','_']) (o:=['r','o','t','a','r','e','t','i','_','t','e','s']) (by kernel_rfl) owner];kernel_rfl
end SI
section
variable {prog:Program} {w:World} {A:Around} {E:Value->Shared->Prop} {s:Shared}
noncomputable def eF(h:Heap)(it:Addr)(f:Value)(i:Nat)(a:Addr)(n ep:Nat):Prop:=∃o,h.get? it=some o/\o.cls=.type "set_iterator" /\ o.data=.fields #[f,.int i 0,.ref a,.int n 0,.int ep 0]
theorem eF.typeIs{i:Nat}{n ep:Nat}(x:eF s.heap it f i a n ep):s.TypeIs (.ref it) "set_iterator":=let ⟨o,ho,hc,_⟩:=x;⟨o,ho,hc⟩
theorem lZ{i:Nat}{n ep:Nat}(x:eF s.heap it f i a n ep)(h:Q (.ref it) s):wpAny (model prog w) A (pyIter (.ref it)) Q E s:=by
 refine wpAny_pyIter_slot x.typeIs SI.qT (wpAny_call_entry SI.qT x.typeIs SI.entry_self ?_ (SI.zL _));exact wpAny_pure ⟨_,rfl,"set_iterator",_,x.typeIs,SI.slot_next.lookup,h⟩
end
end L2
end
section
namespace L2
open PySem PyProof.Rows
section
variable {prog:Program} {w:World} {A:Around} {E:Value->Shared->Prop} {s:Shared}
theorem gI{ep:Nat}(ho:s.heap.get? a=some o)(hd:o.data=.set es ep t)(hf:t.fits es.size=true)(h:Q es s):wpAny (model prog w) A (setEntries a) Q E s:=by
 unfold setEntries;exact wpAny_bind (wpAny_setState_of ho hd hf (wpAny_pure h))
theorem jN(h:Q (qw w) s):wpAny (model prog w) A setsByText Q E s:=by
 unfold setsByText;exact wpAny_bind (wpAny_askSetting (wpAny_pure h))
theorem qU{ep sl g:Nat}{ks:List Int}(S:dS prog w s.heap a o es ep t ks)(hb:qw w=false)(hp:(!t.plain&&decide (es.size>1))=false)
  (hQ:Q (match es[SetTable.below t.place sl]?,t.place[SetTable.below t.place sl]? with|some (_,x),some j=>some (x,j+1)|_,_=>none) s):wpAny (model prog w) A (setNext a sl g ep) Q E s:=by
 have led:t.led=true:=by rw[S.tab.led,hb];rfl
 unfold setNext;refine wpAny_bind (wpAny_setState_of S.at_ S.dat S.tab.fit ?_);dsimp only;refine wpAny_bind (jN ?_);rw[hb];simp only[false_eq_true,↓reduceIte];rw[if_neg (λz=>by
  have z':(!t.plain&&decide (es.size>1))=true:=z;rw[hp] at z';cases z')]
 refine wpAny_bind ?_;show wpAny _ _ (if (!t.led && !es.isEmpty)=true then Sem.unsupported "set:maker-not-led" else pure ()) _ _ _;rw[if_neg (by rw[led];simp)];exact wpAny_pure (wpAny_pure hQ)
theorem qV{ep sl g:Nat}{ks:List Int}(S:dS prog w s.heap a o es ep t ks)(hb:qw w=true)
  (hQ:Q (((pickOrder (w.params.setOrder a ep) es)[g]?).map λe=>(e.2,sl)) s):wpAny (model prog w) A (setNext a sl g ep) Q E s:=by
 unfold setNext;refine wpAny_bind (wpAny_setState_of S.at_ S.dat S.tab.fit ?_);dsimp only;refine wpAny_bind (jN ?_);rw[hb];simp only[bne_self_eq_false,false_eq_true,↓reduceIte];unfold setWalk;refine wpAny_bind (wpAny_bind (wpAny_setState_of S.at_ S.dat S.tab.fit ?_));dsimp only;refine wpAny_bind (jN ?_);rw[hb];simp only[↓reduceIte];exact wpAny_bind (wpAny_askSetting (wpAny_pure (wpAny_pure hQ)))
theorem kX{ep:Nat}{ks:List Int}{i sl:Nat}(hh:A.handled=none)(x:eF s.heap it (.int sl 0) i a es.size ep)(S:dS prog w s.heap a o es ep t ks)
  (hn:∀(A:Around) (E:Value->Shared->Prop) (Q:Option (Value×Nat)->Shared->Prop),Q r s->wpAny (model prog w) A (setNext a sl i ep) Q E s)
  (hQ:∀v nx,r=some (v,nx)->∀h',eF h' it (.int (nx:Nat) 0) (i+1) a es.size ep->Heap.SameBut it s.heap h'->Q (some v) { s with heap:=h' })
  (hE:r=none->∀h',Heap.ExtBut it s.heap h'->Q none { s with heap:=h' }):wpAny (model prog w) A (pyNext (.ref it)) Q E s:=by
 obtain⟨oi,DG,QJ,hdi⟩:=id x;unfold pyNext;refine wpAny_bind (wpAny_attempt (wpAny_callSpecial?_slot (name:=Str.ofString "__next__") x.typeIs SI.slot_next (wpAny_call_entry SI.slot_next x.typeIs SI.entry_next ?_ (SI.args_next _))));unfold Builtin.«set_iterator.__next__»;refine wpAny_bind (wpAny_pure ?_);refine wpAny_bind (wpAny_fieldsOf DG hdi ?_);dsimp only;refine wpAny_bind (gI S.at_ S.dat S.tab.fit ?_);rw[if_neg (by simp)];refine wpAny_bind (hn _ _ _ ?_);cases r with
 | some p =>
  obtain⟨v,nx⟩:=p;dsimp only;refine wpAny_bind (wpAny_setField DG hdi (by simp) ?_);have h1:=get?_update_self (Obj.mapFields (·.setIfInBounds 0 (rawInt nx))) DG (Obj.isFreed_of_fields (Obj.data_mapFields hdi _));have d1:=Obj.data_mapFields hdi (·.setIfInBounds 0 (rawInt nx));refine wpAny_bind (wpAny_setField h1 d1 (by simp) ?_);have h2:=get?_update_self (Obj.mapFields (·.setIfInBounds 1 (rawInt ((i:Int)+1)))) h1 (Obj.isFreed_of_fields (Obj.data_mapFields d1 _));refine wpAny_pure ⟨_,rfl,wpAny_pure (hQ v nx rfl _ ⟨_,h2,?_,?_⟩ ((Heap.SameBut.update ..).trans (Heap.SameBut.update ..)))⟩
  ·rw[Obj.cls_mapFields,Obj.cls_mapFields];exact QJ
  ·rw[Obj.data_mapFields d1];simp[rawInt]
 | none =>dsimp only;refine wpAny_bind (wpAny_setField DG hdi (by simp) ?_);refine wpAny_bind ?_;simp only[newExc,newTuple];refine wpAny_bind (wpAny_newObj_type ?_ (by size_fits));refine wpAny_bind (m:=firstArgMember _ _) (wpAny_of_eq (a:=Value.none) (by first|rfl|(simp only[firstArgMember];rfl)) ?_);refine wpAny_newObj_type ?_ (by size_fits);simp only[raiseNew];refine wpAny_bind (wpAny_handled ?_);rw[show A.in1.handled=none from hh];refine wpAny_bind (wpAny_pure (wpAny_throw ?_));refine wpAny_bind (wpAny_isInstance (T:="StopIteration") (b:=true) ⟨_,get?_push_size _ rfl,rfl⟩ isSubtype_stop ?_);exact wpAny_pure (hE rfl _ (((Heap.SameBut.update ..).extBut.push _).push _))
end
end L2
end
section
namespace L2
open PySem PyProof.Rows
theorem kD{α:Type}:∀(l:List α) (i:Nat) (h:i<l.length),(l[i]::l.eraseIdx i).Perm l
 | x::l,0,_=>List.Perm.refl _
 | x::l,i+1,h=>by
  simp only[List.getElem_cons_succ,List.eraseIdx_cons_succ];exact(List.Perm.swap _ _ _).trans (List.Perm.cons x (kD l i (by simpa using h)))
section
variable {prog:Program} {w:World} {A:Around} {E:Value->Shared->Prop} {s:Shared}
theorem zM{n:Nat}(hn:n≠0)(h:∀i d,i<n->Q i { s with drawn:=d }):wpAny (model prog w) A (choose src n) Q E s:=fun Γ p hΓ=>by
 show Sem.wp _ _ (Sem.choose src n Sem.pure) _ _ _ _;rw[Sem.wp];exact⟨hn,h _ _ (mod_lt _ (Nat.pos_of_ne_zero hn))⟩
theorem xV{α:Type}:∀(n:Nat) (xs:List α) (s:Shared) (Q:List α -> Shared->Prop),xs.length=n->(∀ys d,ys.Perm xs->Q ys { s with drawn:=d })->wpAny (model prog w) A (drawOrder n xs) Q E s
 | 0,xs,s,Q,hl,h=>by
  have:xs=[]:=List.eq_nil_of_length_eq_zero hl;subst this;unfold drawOrder;exact wpAny_pure (h [] s.drawn (List.Perm.refl _))
 | n+1,[],s,Q,hl,h=>by simp at hl
 | n+1,x::xs,s,Q,hl,h=>by
  unfold drawOrder;refine wpAny_bind (zM (by simp) λi d hi=>?_);have hx:(x::xs)[i]?=some ((x::xs)[i]):=List.getElem?_eq_getElem hi;rw[hx];dsimp only;refine wpAny_bind (xV n ((x::xs).eraseIdx i) _ _ (by rw[List.length_eraseIdx,if_pos hi];simp at hl |-;omega) λys d' p=>wpAny_pure ?_);exact h _ d' (((List.Perm.cons _ p).trans (kD _ i hi)))
theorem oX{ep c:Nat}{ks:List Int}{i:Nat}{ps:List Nat}(hh:A.handled=none)(x:eF s.heap it (.ref td) i a es.size ep)(S:dS prog w s.heap a o es ep t ks)
  (hT:s.heap.get? td=some oT) (Pf:oT.data=.seq (ps.map λ(j:Nat)=>rawInt j).toArray c) (hlt:∀j∈ps,j<es.size)
  (hQ:∀j e,ps[i]?=some j->es[j]?=some e->∀h',eF h' it (.ref td) (i+1) a es.size ep->Heap.SameBut it s.heap h'->Q (some e.2) { s with heap:=h' })
  (hE:ps[i]?=none->∀h',Heap.ExtBut it s.heap h'->Q none { s with heap:=h' }):wpAny (model prog w) A (pyNext (.ref it)) Q E s:=by
 obtain⟨oi,DG,QJ,hdi⟩:=id x;unfold pyNext;refine wpAny_bind (wpAny_attempt (wpAny_callSpecial?_slot (name:=Str.ofString "__next__") x.typeIs SI.slot_next (wpAny_call_entry SI.slot_next x.typeIs SI.entry_next ?_ (SI.args_next _))));unfold Builtin.«set_iterator.__next__»;refine wpAny_bind (wpAny_pure ?_);refine wpAny_bind (wpAny_fieldsOf DG hdi ?_);dsimp only;refine wpAny_bind (gI S.at_ S.dat S.tab.fit ?_);rw[if_neg (by simp)];refine wpAny_bind (wpAny_seqItems hT Pf ?_);dsimp only;have hg:((ps.map λ(j:Nat)=>rawInt j).toArray)[((i:Nat):Int).toNat]?=(ps[i]?).map λ(j:Nat)=>rawInt j:=by simp
 rw[hg];cases hp:ps[i]? with
 | some j =>
  have hj:j<es.size:=hlt j (mem_of_getElem? hp);simp only[map_some,rawInt];refine wpAny_bind ?_;unfold setNextDrawn;refine wpAny_bind (wpAny_setState_of S.at_ S.dat S.tab.fit ?_);dsimp only;rw[if_neg (by simp)];have VM:es[((j:Nat):Int).toNat]?=some es[j]:=by simp[hj]
  rw[VM];refine wpAny_pure ?_;refine wpAny_bind (wpAny_setField DG hdi (by simp) ?_);have h2:=get?_update_self (Obj.mapFields (·.setIfInBounds 1 (.int ((i:Int)+1) 0))) DG (Obj.isFreed_of_fields (Obj.data_mapFields hdi _));refine wpAny_pure ⟨_,rfl,wpAny_pure (hQ j _ hp (Array.getElem?_eq_getElem hj) _ ⟨_,h2,?_,?_⟩ (Heap.SameBut.update ..))⟩
  ·rw[Obj.cls_mapFields];exact QJ
  ·rw[Obj.data_mapFields hdi];simp
 | none =>simp only[Option.map_none];refine wpAny_bind (wpAny_setField DG hdi (by simp) ?_);have h1:=get?_update_self (Obj.mapFields (·.setIfInBounds 0 (rawInt 0))) DG (Obj.isFreed_of_fields (Obj.data_mapFields hdi _));have d1:=Obj.data_mapFields hdi (·.setIfInBounds 0 (rawInt 0));refine wpAny_bind (wpAny_setField h1 d1 (by simp) ?_);refine wpAny_bind ?_;simp only[newExc,newTuple];refine wpAny_bind (wpAny_newObj_type ?_ (by size_fits));refine wpAny_bind (m:=firstArgMember _ _) (wpAny_of_eq (a:=Value.none) (by first|rfl|(simp only[firstArgMember];rfl)) ?_);refine wpAny_newObj_type ?_ (by size_fits);simp only[raiseNew];refine wpAny_bind (wpAny_handled ?_);rw[show A.in1.handled=none from hh];refine wpAny_bind (wpAny_pure (wpAny_throw ?_));refine wpAny_bind (wpAny_isInstance (T:="StopIteration") (b:=true) ⟨_,get?_push_size _ rfl,rfl⟩ isSubtype_stop ?_);exact wpAny_pure (hE hp _ ((((Heap.SameBut.update ..).trans (Heap.SameBut.update ..)).extBut.push _).push _))
end
end L2
end
section
namespace L2
open PySem PyProof.Rows
theorem qW{α:Type}(f:Nat->Nat):∀(n k:Nat) (l:List α) (out:Array α),l.length=n->(pickOrder.go f n k l out).toList.Perm (out.toList++l)
 | 0,k,l,out,h=>by
  have:l=[]:=List.eq_nil_of_length_eq_zero h;subst this;unfold pickOrder.go;simp
 | n+1,k,l,out,h=>by
  unfold pickOrder.go;have hl:0<l.length:=by omega
  have hi:f k%l.length<l.length:=mod_lt _ hl;rw[List.getElem?_eq_getElem hi];dsimp only;refine(qW f n (k+1) _ _ (by rw[List.length_eraseIdx,if_pos hi];omega)).trans ?_;rw[Array.toList_push,List.append_assoc];exact List.Perm.append_left _ (kD l _ hi)
theorem qX{t:SetTable}{n:Nat}(h:t.fits n=true):t.place.size=n:=by
 simp only[SetTable.fits,and_eq_true,beq_iff_eq] at h;exact h.1
noncomputable def Pg(t:SetTable):Nat->Nat
 | 0=>0
 | i+1=>t.place.getD i 0+1
theorem qY(r:qR t.place):∀i,i<=t.place.size->SetTable.below t.place (Pg t i)=i
 | 0,_=>wH r
 | i+1,h=>by
  have hi:i<t.place.size:=h;have e:Pg t (i+1)=t.place[i]+1:=by simp[Pg,Array.getD,hi]
  rw[e];exact wI r hi
section
variable {prog:Program} {w:World} {A:Around} {E:Value->Shared->Prop} {s:Shared}
theorem dS.keep{ep:Nat}{ks:List Int}(S:dS prog w h a o es ep t ks)(k:∀o,h.get? a=some o->h'.get? a=some o):dS prog w h' a o es ep t ks:={ S with at_:=k o S.at_ }
theorem eF.keep{i:Nat}{n ep:Nat}(x:eF h it f i a n ep)(k:∀o,h.get? it=some o->h'.get? it=some o):eF h' it f i a n ep:=by
 obtain⟨o,ho,r⟩:=x;exact⟨o,k o ho,r⟩
noncomputable def PL(L:List (Int×Value))(i:Nat)(v:Value):Prop:=∃e,L[i]?=some e/\v=e.2
theorem zN(hh:A.handled=none){ep:Nat}{ks:List Int}(hne:a≠I)(hb:qw w=false)(hp:(!t.plain&&decide (es.size>1))=false) :
  Walks prog w A I [I,a] [I] es.toList.length (PL es.toList) (λi h=>dS prog w h a o es ep t ks/\eF h I (.int (Pg t i) 0) i a es.size ep) where
 sub:=λb hb=>by simp at hb;simp[hb]
 frame:=λ_ _ _ st hk=>⟨st.1.keep λo e=>hk a (by simp) o e,st.2.keep λo e=>hk I (by simp) o e⟩
 item:=λi s Q E hi st hQ=>by
  have hi:i<es.size:=by simpa using hi
  have hz:=qX st.1.tab.fit;have hb':=qY st.1.tab.rs i (by rw[hz];exact le_of_lt hi);refine kX (r:=some (es[i].2,t.place.getD i 0+1)) hh st.2 st.1 (λA E Q q=>qU st.1 hb hp ?_) (λv nx e h' x' sb=>?_) (λe=>nomatch e)
  ·rw[hb',Array.getElem?_eq_getElem hi,Array.getElem?_eq_getElem (by rw[hz];exact hi)]
   have e1:t.place[i]'(by rw[hz];exact hi)=t.place.getD i 0:=by simp[Array.getD,hz,hi]
   dsimp only;rw[e1];exact q
  ·cases e;exact hQ _ h' s.toks ⟨es[i],by simp[hi],rfl⟩ ⟨st.1.keep λo e=>sb.extBut a o hne e,x'⟩ λb o hb e=>sb.extBut b o (λz=>hb (by simp[z])) e
 done:=λs Q E st hQ=>by
  have hz:=qX st.1.tab.fit;have hb':=qY st.1.tab.rs es.toList.length (by rw[hz];simp);refine kX (r:=none) hh st.2 st.1 (λA E Q q=>qU st.1 hb hp ?_) (λv nx e=>nomatch e) (λ_ h' sb=>hQ h' s.toks λb o hb e=>sb b o (λz=>hb (by simp[z])) e);rw[hb',Array.getElem?_eq_none (by simp)];exact q
 self:=λ_ _ _ _ st hQ=>lZ st.2 hQ
theorem zO(hh:A.handled=none){ep:Nat}{ks:List Int}(hne:a≠I)(hb:qw w=true) :
  Walks prog w A I [I,a] [I] (pickOrder (w.params.setOrder a ep) es).toList.length (PL (pickOrder (w.params.setOrder a ep) es).toList) (λi h=>dS prog w h a o es ep t ks/\eF h I (.int (0:Nat) 0) i a es.size ep) where
 sub:=λb hb=>by simp at hb;simp[hb]
 frame:=λ_ _ _ st hk=>⟨st.1.keep λo e=>hk a (by simp) o e,st.2.keep λo e=>hk I (by simp) o e⟩
 item:=λi s Q E hi st hQ=>by
  have hi:i<(pickOrder (w.params.setOrder a ep) es).size:=by simpa using hi
  refine kX (r:=some ((pickOrder (w.params.setOrder a ep) es)[i].2,0)) hh st.2 st.1 (λA E Q q=>qV st.1 hb ?_) (λv nx e h' x' sb=>?_) (λe=>nomatch e)
  ·rw[Array.getElem?_eq_getElem hi];exact q
  ·cases e;exact hQ _ h' s.toks ⟨(pickOrder (w.params.setOrder a ep) es)[i],by simp[hi],rfl⟩ ⟨st.1.keep λo e=>sb.extBut a o hne e,x'⟩ λb o hb e=>sb.extBut b o (λz=>hb (by simp[z])) e
 done:=λs Q E st hQ=>by
  refine kX (r:=none) hh st.2 st.1 (λA E Q q=>qV st.1 hb ?_) (λv nx e=>nomatch e) (λ_ h' sb=>hQ h' s.toks λb o hb e=>sb b o (λz=>hb (by simp[z])) e);rw[Array.getElem?_eq_none (by simp)];exact q
 self:=λ_ _ _ _ st hQ=>lZ st.2 hQ
theorem wL(hh:A.handled=none){ep c:Nat}{ks:List Int}{ps:List Nat}(hne:a≠I)(hnt:td≠I)(hlt:∀j∈ps,j<es.size)(Pf:oT.data=.seq (ps.map λ(j:Nat)=>rawInt j).toArray c) :
  Walks prog w A I [I,a,td] [I] ps.length (PL (ps.map λj=>es.getD j (0,.none))) (λi h=>dS prog w h a o es ep t ks/\eF h I (.ref td) i a es.size ep/\h.get? td=some oT) where
 sub:=λb hb=>by simp at hb;simp[hb]
 frame:=λ_ _ _ st hk=>⟨st.1.keep λo e=>hk a (by simp) o e,st.2.1.keep λo e=>hk I (by simp) o e,hk td (by simp) _ st.2.2⟩
 item:=λi s Q E hi st hQ=>by
  refine oX hh st.2.1 st.1 st.2.2 Pf hlt (λj e hj he h' x' sb=>?_) (λhn=>absurd hn (by rw[List.getElem?_eq_getElem hi];simp));refine hQ _ h' s.toks ⟨e,?_,rfl⟩ ⟨st.1.keep λo e=>sb.extBut a o hne e,x',sb.extBut td _ hnt st.2.2⟩ λb o hb e=>sb.extBut b o (λz=>hb (by simp[z])) e;rw[getElem?_map,hj];have hjl:j<es.size:=(Array.getElem?_eq_some_iff.mp he).1;have:=(Array.getElem?_eq_some_iff.mp he).2;simp[Array.getD,hjl,this]
 done:=λs Q E st hQ=>oX hh st.2.1 st.1 st.2.2 Pf hlt (λj e hj=>absurd hj (by simp)) (λ_ h' sb=>hQ h' s.toks λb o hb e=>sb b o (λz=>hb (by simp[z])) e)
 self:=λ_ _ _ _ st hQ=>lZ st.2.1 hQ
end
end L2
end
section
namespace L2
open PySem PyProof.Rows
section
variable {prog:Program} {w:World} {A:Around} {E:Value->Shared->Prop} {s:Shared}
theorem Bu{ep:Nat}{ks:List Int}(S:dS prog w s.heap a o es ep t ks)(h:Q (!qw w&&(!t.plain&&decide (es.size>1))) s):wpAny (model prog w) A (setDrawn a) Q E s:=by
 unfold setDrawn;refine wpAny_bind (wpAny_setState_of S.at_ S.dat S.tab.fit ?_);dsimp only;exact wpAny_bind (jN (wpAny_pure h))
theorem uq{ep:Nat}{ks:List Int}(S:dS prog w s.heap a o es ep t ks)(h:Q ep s):wpAny (model prog w) A (setEpoch a) Q E s:=wpAny_setEpoch_of S.at_ S.dat S.tab.fit h
theorem Bv(hh:A.handled=none){ep:Nat}{ks:List Int}(S:dS prog w s.heap a o es ep t ks)
  (hQ:∀(h':Heap) d (I:Addr) (fp:List Addr) (L:List (Int×Value)) (St:Nat->Heap->Prop),L.Perm es.toList->Walks prog w A I fp [I] L.length (PL L) St->St 0 h'->s.heap.objs.size<=I->I<h'.objs.size->(∀b∈fp,b=a\/s.heap.objs.size<=b)->(∀b o,s.heap.get? b=some o->h'.get? b=some o)->Q (.ref I) { s with heap:=h',drawn:=d }) :
  wpAny (model prog w) A (pyIter (.ref a)) Q E s:=by
 have hT:s.TypeIs (.ref a) "set":=⟨o,S.at_,S.ex.1⟩;have hlt:a<s.heap.objs.size:=lt_size S.at_;refine wpAny_pyIter_slot hT PySem.F.slot_set_iter (wpAny_call_entry PySem.F.slot_set_iter hT SI.wK ?_ (PySem.F.args_set_iter_1 _));unfold Builtin.«frozenset.__iter__» Builtin.Frozenset.slot0 Builtin.Frozenset.sizeOf;refine wpAny_bind (wpAny_bind (wpAny_pure (wpAny_pure ?_)));refine wpAny_bind (wpAny_bind (gI S.at_ S.dat S.tab.fit (wpAny_pure ?_)));refine wpAny_bind (Bu S ?_);cases hd:(!qw w&&(!t.plain&&decide (es.size>1))) with
 | false =>
  simp only[false_eq_true,↓reduceIte];refine wpAny_bind (wpAny_pure ?_);refine wpAny_bind (uq S ?_);refine wpAny_bind (wpAny_newObj_type (wpAny_pure ⟨_,rfl,"set_iterator",_,⟨_,get?_push_size _ rfl,rfl⟩,SI.slot_next.lookup,?_⟩));have e:s={ s with drawn:=s.drawn }:=by cases s;rfl
  have Ue:∀b∈[s.heap.objs.size,a],b=a\/s.heap.objs.size<=b:=λb hb=>by
   simp only[mem_cons,not_mem_nil,or_false] at hb
   rcases hb with rfl|rfl
   ·exact .inr (le_refl _)
   ·exact .inl rfl
  have sz:s.heap.objs.size<(s.heap.push { cls:=.type "set_iterator",data:=.fields ([rawInt 0,rawInt 0,.ref a,rawInt es.size,rawInt ep]:List Value).toArray }).objs.size:=by rw[size_push];exact lt_succ_self _
  cases hb:qw w with
  | true =>exact hQ _ s.drawn _ _ _ _ (qW _ _ 0 es.toList #[] (by simp)) (zO hh (ne_of_lt hlt) hb) ⟨S.keep λo e=>get?_push_of_some _ e,⟨_,get?_push_size _ rfl,rfl,rfl⟩⟩ (le_refl _) sz Ue λb o e=>get?_push_of_some _ e
  | false =>rw[hb] at hd;exact hQ _ s.drawn _ _ _ _ (List.Perm.refl _) (zN hh (ne_of_lt hlt) hb (by simpa using hd)) ⟨S.keep λo e=>get?_push_of_some _ e,⟨_,get?_push_size _ rfl,rfl,rfl⟩⟩ (le_refl _) sz Ue λb o e=>get?_push_of_some _ e
 | true =>
  simp only[↓reduceIte];refine wpAny_bind (xV es.size (List.range es.size) s _ (by simp) λps d pp=>?_);refine wpAny_bind ?_;simp only[newTuple];refine wpAny_newObj_type ?_ (by show (toArray _).size<=sizeLine;rw[size_toArray,length_map,pp.length_eq,length_range];exact fits_of_scanBound S.tab.few);have S1:dS prog w (s.heap.push { cls:=.type "tuple",data:=.seq (ps.map λ(i:Nat)=>rawInt i).toArray }) a o es ep t ks:=S.keep λo e=>get?_push_of_some _ e;refine wpAny_bind (uq S1 ?_);refine wpAny_bind (wpAny_newObj_type (wpAny_pure ⟨_,rfl,"set_iterator",_,⟨_,get?_push_size _ rfl,rfl⟩,SI.slot_next.lookup,?_⟩));have hpl:∀j∈ps,j<es.size:=λj hj=>by simpa using pp.mem_iff.mp hj
  have perm:(ps.map λj=>es.getD j (0,Value.none)).Perm es.toList:=by
   have e2:(List.range es.size).map (λj=>es.getD j (0,Value.none))=es.toList:=by
    apply ext_getElem
    ·simp
    ·intro i h1 h2
     have hi:i<es.size:=by simpa using h2
     simp[Array.getD,hi]
   rw[<-e2];exact pp.map _
  have z1:(s.heap.push { cls:=.type "tuple",data:=.seq (ps.map λ(i:Nat)=>rawInt i).toArray }).objs.size=s.heap.objs.size+1:=size_push _ _;have W:=wL (prog:=prog) (w:=w) (A:=A) (o:=o) (ep:=ep) (t:=t) (ks:=ks) hh (I:=s.heap.objs.size+1) (a:=a) (td:=s.heap.objs.size) (oT:={ cls:=.type "tuple",data:=.seq (ps.map λ(i:Nat)=>rawInt i).toArray }) (es:=es) (c:=0) (ps:=ps) (ne_of_lt (lt_succ_of_lt hlt)) (ne_of_lt (lt_succ_self _)) hpl rfl;rw[show ps.length=(ps.map λj=>es.getD j (0,Value.none)).length by simp] at W;rw[z1];refine hQ _ d _ _ _ _ perm W ⟨S1.keep λo e=>get?_push_of_some _ e,⟨{ cls:=.type "set_iterator",data:=.fields ([.ref s.heap.objs.size,rawInt 0,.ref a,rawInt es.size,rawInt ep]:List Value).toArray },?_,rfl,rfl⟩,get?_push_of_some _ (get?_push_size _ rfl)⟩ (le_succ _) ?_ ?_ λb o e=>get?_push_of_some _ (get?_push_of_some _ e)
  ·rw[<-z1];exact get?_push_size _ rfl
  ·rw[size_push,z1];exact lt_succ_self _
  ·intro b hb
   simp only[mem_cons,not_mem_nil,or_false] at hb
   rcases hb with rfl|rfl|rfl
   ·exact .inr (le_succ _)
   ·exact .inl rfl
   ·exact .inr (le_refl _)
end
end L2
end
section
namespace L2
open PySem PyProof.Rows
section
variable {prog:Program} {w:World} {A:Around} {E:Value->Shared->Prop} {s:Shared}
theorem Bw(hT:s.TypeIs (.ref r) "set")(h:Q false s):wpAny (model prog w) A (Builtin.List.listLengthHint (.ref r)) Q E s:=by
 unfold Builtin.List.listLengthHint;refine wpAny_bind (wpAny_specialOf hT PySem.F.slot_set_len.lookup ?_);generalize hid:("set.__len__":String)=VN
 wp_delta
 rw[show splitId VN=some ("set","__len__") from by subst hid;decide +kernel];subst hid;refine wpAny_bind (wpAny_isInstance (T:="set") (b:=true) hT sub_set_self ?_);refine wpAny_ite_split (λz=>absurd z (by decide)) (λ_=>?_);refine wpAny_ite_split (λ_=>?_) (λz=>absurd (by decide +kernel) z);exact wpAny_bind (wpAny_typeOf hT (wpAny_pure h))
theorem ur(hh:A.handled=none){ep:Nat}{ks:List Int}(S:dS prog w s.heap a o es ep t ks)
  (h:∀(h':Heap) (tk:Nat) d (L:List (Int×Value)),(∀b o,s.heap.get? b=some o->h'.get? b=some o)->s.heap.objs.size<h'.objs.size->L.Perm es.toList->R (L.map (·.2)) { s with heap:=h',toks:=tk,drawn:=d }) :
  wpAny (model prog w) A (collect (.ref a)) R E s:=by
 have hlt:a<s.heap.objs.size:=lt_size S.at_;unfold collect;refine wpAny_bind (wpAny_runValue (codeAny_builtin entry_proto_collect' ?_));rw[Around.under_plainId PySem.F.plain_proto_collect _];show wpAny _ A.in1 (newList [] >>= λl=>again (.builtin "list.__iadd__" ⟨[l,.ref a],[]⟩)) _ _ s;refine wpAny_bind (wpAny_newObj_type ?_);refine wpAny_pure ⟨plainId_quiet PySem.F.plain_list_iadd _,codeAny_builtin entry_list_iadd' ?_⟩;rw[Around.under_plainId PySem.F.plain_list_iadd _]
 let s1:Shared:={ s with heap:=s.heap.push { cls:=.type "list",data:=.seq ([]:List Value).toArray } }
 have l1:s1.heap.get? s.heap.objs.size=some { cls:=.type "list",data:=.seq #[] }:=get?_push_size _ rfl;have S1:dS prog w s1.heap a o es ep t ks:=S.keep λo e=>get?_push_of_some _ e;have z1:s1.heap.objs.size=s.heap.objs.size+1:=size_push _ _;have hT:s1.TypeIs (.ref a) "set":=⟨o,S1.at_,S1.ex.1⟩;show wpAny _ A.in1 (Builtin.List.listExtendWith (.ref s.heap.objs.size) (.ref a) (.ref s.heap.objs.size)) _ _ s1;unfold Builtin.List.listExtendWith;refine wpAny_bind (wpAny_typeOf hT ?_);have n1:Builtin.List.listSameRef (.ref s.heap.objs.size) (.ref a)=false:=by simp[Builtin.List.listSameRef,ne_of_gt hlt]
 simp only[n1,show (Value.type "set" == Value.type "list")=false by decide,show (Value.type "set" == Value.type "tuple")=false by decide,Bool.or_false,false_eq_true,if_false];refine wpAny_bind (Bv (A:=A.in1) (by simp[hh]) S1 λh2 d I fp L St perm W st zI YY hfp k2=>?_);have l2:h2.get? s.heap.objs.size=some { cls:=.type "list",data:=.seq #[] }:=k2 _ _ l1;have nfp:s.heap.objs.size∉fp:=λz=>by
  rcases hfp _ z with e|e
  ·exact absurd e (ne_of_gt hlt)
  ·rw[z1] at e;exact absurd e (Nat.not_succ_le_self _)
 have hl:L.length<=sizeLine:=by rw[perm.length_eq,length_toList];exact fits_of_scanBound S.tab.few
 have key:∀(hp:Heap) (c₁:Nat) (Rr:Result->Shared->Prop),St 0 hp->(∀b o,b≠s.heap.objs.size->h2.get? b=some o->hp.get? b=some o)->hp.get? s.heap.objs.size=some { cls:=.type "list",data:=.seq #[] c₁ } ->
   (∀(s':Shared) (acc:Array Value) (c:Nat),s'.heap.get? s.heap.objs.size=some { cls:=.type "list",dict:=none,data:=.seq acc c,slots:=#[] }->R acc.toList s'->Rr (.ok (.ret (.ref s.heap.objs.size))) s') ->
   codeAny (model prog w) A (.builtin "list.extend.loop" ⟨[.ref s.heap.objs.size,.ref I,.ref s.heap.objs.size],[]⟩) Rr { s1 with heap:=hp,drawn:=d }:=by
  intro hp c₁ Rr hst hk hS hR;refine codeAny_extend_loopS W.toS hl s.heap.objs.size nfp (.ref s.heap.objs.size) L.length 0 _ #[] c₁ rfl (zero_le _) hst hS (ItemsOf.nil _) λs' acc c hm hS' hacc=>?_;refine hR s' acc c hS' ?_;have ea:acc.toList=L.map (·.2):=by
   apply ext_getElem
   ·rw[length_toList,hacc.1,length_map]
   ·intro j h1 h2
    have hj:j<acc.size:=by simpa using h1
    obtain⟨e,he,hv⟩:=hacc.2 j acc[j] (Array.getElem?_eq_getElem hj);rw[Array.getElem_toList,hv,getElem_map];obtain⟨hj2,e2⟩:=List.getElem?_eq_some_iff.mp he;rw[e2]
  rw[ea,Moved.eq_with hm];refine h s'.heap s'.toks d L (λb o e=>?_) (lt_size hS') perm;have hb:b<s.heap.objs.size:=lt_size e;refine hm.heap b o (λz=>?_) (hk b o (ne_of_lt hb) (k2 b o (get?_push_of_some _ e)))
  rcases mem_cons.mp z with z|z
  ·exact absurd z (ne_of_lt hb)
  ·rw[mem_singleton] at z;rw[z] at hb;rw[z1] at zI;exact absurd (lt_of_lt_of_le hb (Nat.le_of_succ_le zI)) (lt_irrefl _)
 have fin:∀(s':Shared) (acc:Array Value) (c:Nat),s'.heap.get? s.heap.objs.size=some { cls:=.type "list",dict:=none,data:=.seq acc c,slots:=#[] }->R acc.toList s'->wpAny (model prog w) A (load s.heap.objs.size >>= λob=>(match ob.data with|.seq xs _=>pure xs.toList|_=>unsupported "internal:collect")) R E s':=λs' acc c e q=>wpAny_bind (wpAny_load e (wpAny_pure q));refine wpAny_bind (wpAny_holding (Bw ⟨o,k2 _ _ S1.at_,S1.ex.1⟩ ?_));refine wpAny_ite_split (λ_=>?_) (λ_=>wpAny_pure ⟨plainId_quiet PySem.F.plain_extend_loop _,key _ 0 _ st (λb o _ e=>e) l2 fin⟩);refine wpAny_bind (wpAny_rule ?_);refine wpAny_bind ?_;show wpAny _ _ (updateSeq s.heap.objs.size (·.push .none) >>= λ_=>updateSeq s.heap.objs.size (·.pop)) _ _ _;refine wpAny_bind (wpAny_updateSeq l2 rfl ?_);have l3:=get?_update_self (Obj.mapSeq (·.push Value.none)) l2 rfl;refine wpAny_updateSeq (hz:=by seq_fits) l3 rfl ?_;have l4:=get?_update_self (Obj.mapSeq (·.pop)) l3 rfl;have oth:∀b o,b≠s.heap.objs.size->h2.get? b=some o->((h2.update s.heap.objs.size (Obj.mapSeq (·.push Value.none))).update s.heap.objs.size (Obj.mapSeq (·.pop))).get? b=some o:=λb o hb e=>(get?_update_other _ _ (Ne.symm hb)).trans ((get?_update_other _ _ (Ne.symm hb)).trans e);exact wpAny_pure ⟨plainId_quiet PySem.F.plain_extend_loop _,key _ _ _ (W.frame 0 _ _ st λb hb o e=>oth b o (λz=>nfp (z▸hb)) e) oth l4 fin⟩
end
end L2
end
section
namespace L2
open PySem PyProof.Rows
theorem uu:∀(ks ns:List Int),ks.Nodup->(∀k∈ks,k∈ns)->ks.length=ns.length->ks.Perm ns
 | [],ns,_,_,h=>by
  have:ns=[]:=List.eq_nil_of_length_eq_zero h.symm;subst this;exact List.Perm.refl _
 | k::ks,ns,nd,hs,hl=>by
  have hk:=hs k mem_cons_self;have Ug:=nodup_cons.mp nd;have p:=List.perm_cons_erase hk;refine(List.Perm.cons k (uu ks (ns.erase k) Ug.2 (λx hx=>?_) ?_)).trans p.symm
  ·exact(List.mem_erase_of_ne λz=>Ug.1 (by rw[<-z];exact hx)).mpr (hs x (mem_cons_of_mem _ hx))
  ·rw[List.length_erase_of_mem hk];simp only[length_cons] at hl;omega
noncomputable def uv:Value->Int
 | .int i _=>i
 | _=>0
section
variable {prog:Program} {w:World} {A:Around} {E:Value->Shared->Prop} {s:Shared}
theorem oY:∀{L:List (Int×Value)},ElemsOf (intKind prog w) L->IntsAre (L.map (·.2)) (L.map λe=>uv e.2)
 | [],_=>.nil
 | (h,v)::L,el=>by
  obtain⟨⟨k,hk,_⟩,_⟩:=el _ mem_cons_self;obtain⟨t,e⟩:=Value.isInt_shape (k:=k) (v:=v) hk;subst e;exact .cons k t (oY λx hx=>el x (mem_cons_of_mem _ hx))
theorem Bx{h:Heap}{a:Addr}{o:Obj}{es:Array (Int×Value)}{ep:Nat}{t:SetTable}{ks:List Int}(S:dS prog w h a o es ep t ks){L:List (Int×Value)}(p:L.Perm es.toList):(L.map λe=>uv e.2).Perm ks:=by
 refine(uu ks _ S.T9 (λk hk=>?_) ?_).symm
 ·obtain⟨e,he,q⟩:=(S.mem k).mp hk;obtain⟨t',ev⟩:=Value.isInt_shape (k:=k) (v:=e.2) q;exact mem_map.mpr ⟨e,p.mem_iff.mpr he,by rw[ev];rfl⟩
 ·have:=S.num;rw[length_map,p.length_eq,length_toList];exact this.symm
theorem wM(hh:A.handled=none){ep:Nat}{ks:List Int}(S:dS prog w s.heap a o es ep t ks)(h64:ks.length<64)
  (hQ:∀(h':Heap) (tk:Nat) d (D:Addr) (out:List Value) (e:Nat),(∀b o,s.heap.get? b=some o->h'.get? b=some o)->s.heap.objs.size<=D->h'.get? D=some (seqObj "list" out.toArray e)->IntsAre out (PySem.W.sortI ks)->Q (.ref D) { s with heap:=h',toks:=tk,drawn:=d }) :
  wpAny (model prog w) A (call (.builtin "sorted") [.ref a]) Q E s:=by
 refine nP.fX (O:=nP.oQ) (ur (A:=A.in1) (by simp[hh]) S λh' tk d L hk hz perm=>?_);have el:ElemsOf (intKind prog w) L:=S.el.perm perm;have hI:=oY el;have pk:=Bx S perm;have hl:(L.map (·.2)).length<64:=by rw[length_map];have:=pk.length_eq;rw[length_map] at this;omega
 refine⟨hl,λi=>(L.map λe=>uv e.2).getD i 0,λh2 h6 _=>nP.oR hI h2,λp h'' outs k2 he=>?_⟩;obtain⟨e,he⟩:=he;have lv:(L.map (·.2)).length=(L.map λe=>uv e.2).length:=by rw[length_map,length_map]
 have mem:∀i∈p,i<L.length:=λi hi=>by have:=outs.perm.mem_iff.mp hi;simpa using this
 have pn:(p.map λi=>(L.map λe=>uv e.2).getD i 0).Perm ks:=by have:=outs.perm.map λi=>(L.map λe=>uv e.2).getD i 0;rw[lv,nP.dR] at this;exact this.trans pk
 have up:(p.map λi=>(L.map λe=>uv e.2).getD i 0).Pairwise (· <= ·):=by refine List.Pairwise.imp (R:=nP.oQ.kle) (λ{x y:Int} hxy=>?_) outs.up;have hxy:(decide (y<x):Bool)=false:=hxy;exact not_lt.mp (of_decide_eq_false hxy)
 have es:=eq_sortI pn up;refine hQ h'' tk d h'.objs.size _ e (λb o z=>k2 b o (hk b o z)) (le_of_lt hz) he ?_;rw[<-es];clear he es up pn outs
 induction p with
 | nil=>exact .nil
 | cons i r ih =>
  have hi:=mem i mem_cons_self;have hi2:i<(L.map (·.2)).length:=by simpa using hi
  obtain⟨t',ev⟩:=IntsAre.int_at hI i _ (List.getElem?_eq_getElem hi2);rw[map_cons,map_cons];have e1:(L.map (·.2)).getD i Value.none=.int ((L.map λe=>uv e.2).getD i 0) t':=by rw[<-ev];simp[List.getD,List.getElem?_eq_getElem hi]
  rw[e1];exact .cons _ t' (ih λj hj=>mem j (mem_cons_of_mem _ hj))
end
end L2
end
section
namespace L2
open PySem PySem.Spec PyProof.Rows
section
variable {X:Cx}
theorem Inv.draws(I:Inv X pins σ H s)(d:Drawn):Inv X pins σ H { s with drawn:=d }:=⟨I.ok,I.os,I.bare,I.base,I.loc,I.cell,I.free,I.iQ,I.pin,I.hok,I.len⟩
noncomputable def VO(K:PySem.W.Frag)(te:TE):TE:=λσ H Q=>te σ H λx H1=>∃p ns,x=.ref p/\gz K H1 p (ns.map V.int)/\ns.length<64/\∀l,H1 l=none->Q (.ref l) (upd H1 l (.lst ((PySem.W.sortI (dM [] ns)).map V.int)))
theorem uw:∀(ns ks:List Int),(dM ks ns).length<=ks.length+ns.length
 | [],ks=>by simp[dM]
 | n::ns,ks=>by
  rw[dM,length_cons];have:=uw ns (oU ks n);have:=oV ks n;omega
theorem Ez{p1 p2 pos1 pos2:Pos}(hh:X.A.handled=none)(hg:Gl X "sorted")(hm:X.mg "sorted" = none)(VP:Gl X "set")(hm2:X.mg "set" = none)(hv:bootBuiltins "sorted" = some (.builtin "sorted"))(hv2:bootBuiltins "set" = some (.type "set"))(he:PE X e te)
  (hs:starEach [e] X.env=[(false,eval e X.env)]):PE X (.Call (.Name "sorted" p1) [.Call (.Name "set" p2) [e] [] pos2] [] pos1) (VO X.K te):=by
 intro pins s σ H Q I h;refine wpAny_Call_Name_kw (gG I hg hm hv ?_ (by decide) (by decide));refine PyProof.Rows.callWith_builtin1 ?_ rfl rfl;show wpAny _ _ (spliced [(false,eval (.Call (.Name "set" p2) [e] [] pos2) X.env)]) _ _ s;refine Calls.spliced_cons ?_;refine wpAny_Call_Name_kw (gG I VP hm2 hv2 ?_ (by decide) (by decide));refine PyProof.Rows.callWith_type1 ?_ hs rfl;show wpAny _ _ (spliced (backTo pos2 (starEach [e] X.env))) _ _ s;rw[hs];show wpAny _ _ (spliced [(false,eval e X.env)]) _ _ s;refine Calls.spliced_cons (cu (he pins s σ H _ I h) λu s1 ⟨x,H1,I1,r1,p,ns,ex,hq,h64,q⟩=>Calls.spliced_nil ?_);subst ex;cases r1;obtain⟨its,rv,pl,hz⟩:=I1.list hq;have hi:=intsAre_of rv;have hl:=hi.length;refine uo hh pl.isList (by simpa using hi) (by show its.toArray.size+1<4096;rw[size_toArray,hl];omega) λh2 tk S k2=>?_;obtain⟨o,es,ep,t,S⟩:=S;refine Calls.spliced_nil ?_;have hk:=uw ns [];have QK:(dM [] ns).length<64:=by simp at hk;omega
 refine wM (s:={ s1 with heap:=h2,toks:=tk }) hh S QK λh3 VQ d D out e k3 zD eD hout=>?_;have hD:s1.heap.objs.size<=D:=le_trans (le_of_lt (lt_size S.at_)) zD;have hn:H1 D=none:=I1.hok.fresh hD;refine⟨.ref D,_,(I1.draws d).laid (t':=VQ) (λb o z=>k3 b o (k2 b o (lt_size z) z)) hD (show bx X.prog X.w _ _ _ (.lst ((PySem.W.sortI (dM [] ns)).map V.int)) from⟨?_,out,e,gW hout,eD⟩),rfl,q _ hn⟩;rw[length_map,(sortI_perm _).length_eq,sizeLine_eq];omega
end
end L2
end
section
namespace L2
open PySem PySem.Spec PyProof.Rows PySem.W
section
variable {X:Cx}
noncomputable def Uh(to:TE):TE:=λσ H Q=>to σ H λx H1=>∃a kvs,x=.ref a/\H1 a=some (.dK kvs)/\∀l,H1 l=none->Q (.ref l) (upd H1 l (.lst (kvs.map λkv=>kV kv.1)))
theorem Js(e:(aU P w).is k u=true):RelV (kV k) u:=by
 rw[vP] at e
 rcases bD e with ⟨i,t,rfl,rfl⟩|⟨x,t,rfl,rfl⟩
 ·exact⟨t,rfl⟩
 ·exact⟨t,rfl⟩
theorem l0:∀{kvs:List (Key×V)} {vs:List (Key×Value)} {out:List Value},KV kvs vs->out.length=vs.length->(∀(j:Nat) (v:Value),out[j]?=some v->∃(k:Key) (x:Value),vs[j]?=some (k,x)/\(aU P w).is k v=true)->Vals (kvs.map λkv=>kV kv.1) out
 | [],vs,out,r,hl,h=>by
  cases r;cases out with
  | nil=>exact .nil
  | cons _ _=>simp at hl
 | p::kvs,vs,out,r,hl,h=>by
  cases r with
  | @cons _ q _ qs hq t =>
   cases out with
   | nil=>simp at hl
   | cons v out =>
    obtain⟨k,x,e1,e2⟩:=h 0 v rfl;simp at e1;refine .cons ?_ (l0 t (by simpa using hl) λj u hu=>h (j+1) u hu);have:p.1=k:=by rw[hq.1,e1]
    show RelV (kV p.1) v;rw[this];exact Js e2
end
end L2
end
section
namespace L2
open PySem PySem.Spec PyProof.Rows PySem.W
section
variable {X:Cx} {pins:List (Addr×Obj)} {σ:St} {H:Hp} {s:Shared} {a:Addr} {kvs:List (Key×V)} {k:Key} {u r:Value} {z:V} {A:Around} {E:Value->Shared->Prop}
end
end L2
end
section
namespace L2
open PySem PySem.Spec PyProof.Rows
section
open PySem.AutoSeq1 (wpAny_loadPart')
open PySem.MeetsSeq PySem.MeetsSeq3
end
end L2
end
section
namespace L2
open PySem PySem.Spec PyProof.Rows PySem.W
section
variable {X:Cx}
end
end L2
end
section
namespace L2
open PySem PySem.Spec PyProof.Rows PySem.W
section
variable {X:Cx}
end
end L2
end
section
namespace L2
open PySem PySem.Spec PyProof.Rows PySem.W
section
variable {X:Cx}
noncomputable def Ui(to:TE):TE:=λσ H Q=>to σ H λx H1=>∃(a:Addr) (kvs:List (Key×V)) (ns:List Int),x=.ref a/\H1 a=some (.dK kvs)/\kvs.map (·.1)=ns.map Sum.inl/\ns.length<64/\∀l,H1 l=none->Q (.ref l) (upd H1 l (.lst ((PySem.W.sortI ns).map V.int)))
theorem qZ{ns:List Int}(hI:IntsAre vs ns):∀(p:List Nat),(∀i∈p,i<ns.length)->IntsAre (p.map λi=>vs.getD i Value.none) (p.map λi=>ns.getD i 0)
 | [],_=>.nil
 | i::r,mem=>by
  have hi:=mem i mem_cons_self;have hi2:i<vs.length:=by rw[hI.length];exact hi
  obtain⟨t',ev⟩:=IntsAre.int_at hI i _ (List.getElem?_eq_getElem hi2);rw[map_cons,map_cons];have e1:vs.getD i Value.none=.int (ns.getD i 0) t':=by rw[<-ev];simp[List.getD,List.getElem?_eq_getElem hi2]
  rw[e1];exact .cons _ t' (qZ hI r λj hj=>mem j (mem_cons_of_mem _ hj))
end
end L2
end
section
namespace L2
open PySem PySem.Spec PyProof.Rows
end L2
end
section
namespace L2
open PySem PySem.Spec PyProof.Rows
section
variable {X:Cx}
theorem mh
  (hbase:attributeBase o m env (eval o env)=eval o env)
  (hfew:((backTo cp (starEach args env)).all (λx=>!x.1)&&(backToKw cp (keywordEach [] env)).all (λx=>x.1.isSome)
   && decide (args.length+([]:List Keyword).length+(if ([]:List Keyword).isEmpty then 0 else 1)<30))=true) (hline:(ap.endLine==cp.line)=true)
  (h:wpAny M A (eval o env) (λov s₁=>∀pl,wpAny M A (getMethod ov m pl) (λfx s₂=>wpAny M A (callWith cp fx.1 fx.2 (backTo cp (starEach args env)) (backToKw cp (keywordEach [] env))) Q E s₂) E s₁) E s) :
  wpAny M A (eval (.Call (.Attribute o m ap) args [] cp) env) Q E s:=by
 rw[arm_eval_Call,hbase];refine wpAny_bind (wpAny_mono h (λov s₁ h₁=>?_) λ_ _ e=>e);refine wpAny_bind (wpAny_standAt ?_);have M1:methodCallForm (args.length+([]:List Keyword).length) (backTo cp (starEach args env)) (backToKw cp (keywordEach [] env))=true:=hfew;have hpos:methodCallPos true o env ap cp=pure cp:=by unfold methodCallPos;simp[hline]
 unfold methodCall;rw[M1];refine wpAny_bind (wpAny_holding (wpAny_mono (h₁ _) (λfx s₂ h₂=>?_) λ_ _ e=>e));exact wpAny_bind (wpAny_of_eq hpos h₂)
theorem pe_mthD{k:Nat}(he:PE X o ta)(ha:PA X (l::ls) t)(hbase:attributeBase o m X.env (eval o X.env)=eval o X.env)
  (hfew:((backTo cp (starEach (l::ls) X.env)).all (λx=>!x.1)&&(backToKw cp (keywordEach [] X.env)).all (λx=>x.1.isSome)
   && decide ((l::ls).length+([]:List Keyword).length+(if ([]:List Keyword).isEmpty then 0 else 1)<30))=true) (hline:(ap.endLine==cp.line)=true) (hr:cW k X.A)
  (st:starEach (l::ls) X.env=(false,eval l X.env)::starEach ls X.env) (an:(backTo cp (starEach ls X.env)).any (·.1)=false) :
  PE X (.Call (.Attribute o m ap) (l::ls) [] cp) (λσ H Q=>ta σ H λx H1=>∃a C dx fs f fd ps sp,x=.ref a/\H1 a=some (.ins C dx fs)/\zp X.K C/\Meth X.K C m f/\fs.lookup m=none/\Binds X.K fd ps [] /\
   eB X.prog X.w X.K X.mg X.base vM k f fd ps sp/\t σ H1 λvs H2=>sp (x::vs) H2 Q E0):=by
 intro pins s σ H Q I h;refine mh hbase hfew hline (cu (he pins s σ H _ I h) λu s1 aJ pl=>?_);obtain⟨x,H1,I1,rx,a,C,dx,fs,f,fd,ps,sp,ex,ea,c,hm,ln,hb,F,q⟩:=aJ;subst ex;obtain rfl:u=Value.ref a:=rx;refine ou I1 ea c hm ln ?_;refine callWith_K (first:=[.ref a]) (h₀:=X.base) I.ok.mod.LB hm.kp (cu (ha cp pins s1 σ H1 _ I1 q) λus s2 ⟨vs,H2,I2,r,q2⟩=>⟨I2.iR,?_⟩) st an;exact oA (us:=.ref a::us) (vs:=.ref a::vs) (qm:=[]) (ds:=[]) F hr hb .nil oK I2 (.cons rfl r) (by rw[append_nil];exact q2)
theorem pe_mth0{k:Nat}(he:PE X o ta)(hbase:attributeBase o m X.env (eval o X.env)=eval o X.env)
  (hline:(ap.endLine==cp.line)=true) (hr:cW k X.A) :
  PE X (.Call (.Attribute o m ap) [] [] cp) (λσ H Q=>ta σ H λx H1=>∃a C dx fs f fd ps sp,x=.ref a/\H1 a=some (.ins C dx fs)/\zp X.K C/\Meth X.K C m f/\fs.lookup m=none/\Binds X.K fd ps [] /\
   eB X.prog X.w X.K X.mg X.base vM k f fd ps sp/\sp [x] H1 Q E0):=by
 intro pins s σ H Q I h;refine mh hbase rfl hline (cu (he pins s σ H _ I h) λu s1 aJ pl=>?_);obtain⟨x,H1,I1,rx,a,C,dx,fs,f,fd,ps,sp,ex,ea,c,hm,ln,hb,F,q⟩:=aJ;subst ex;obtain rfl:u=Value.ref a:=rx;refine ou I1 ea c hm ln ?_;exact callWith_K0 (first:=[.ref a]) I1.iR hm.kp (oA (us:=[.ref a]) (vs:=[.ref a]) (qm:=[]) (ds:=[]) F hr hb .nil oK I1 (.cons rfl .nil) q)
theorem Jt:kN X (compareOp .Is) (λx y H Q=>∃b c,x=.bl b/\y=.bl c/\Q (.bl (b==c)) H):=by
 intro pins s σ H x y v u Q I rx ry h;obtain⟨b,c,rfl,rfl,q⟩:=h;cases rx;cases ry;refine wpAny_is_plain rfl (lP I q ?_);cases b<;>cases c<;>rfl
theorem EA:kN X (compareOp .IsNot) (λx y H Q=>∃b c,x=.bl b/\y=.bl c/\Q (.bl (!(b==c))) H):=by
 intro pins s σ H x y v u Q I rx ry h;obtain⟨b,c,rfl,rfl,q⟩:=h;cases rx;cases ry;refine wpAny_isNot_plain rfl (lP I q ?_);cases b<;>cases c<;>rfl
end
end L2
end
section
namespace L2
open PySem PySem.Spec PyProof.Rows PySem.W
section
variable {X:Cx}
theorem M3{t':Nat}(I:Inv X pins σ H s)(k:∀b u,s.heap.get? b=some u->h'.get? b=some u)(hp:s.heap.get? a=none)(hn:H a=none)(new:bx X.prog X.w (upd H a o) h' a o) :
  Inv X pins σ (upd H a o) { s with heap:=h',toks:=t' }:=by
 refine I.un ⟨λb u q _ _ _=>k b u q,λb u q _ _ _=>⟨u.slots,k b u q⟩,λb u q n _=>?_,λb u q _=>⟨u,k b u q⟩,λb xs q=>by rw[az (aE q hn)];exact q,λb u xs q=>by rw[az (aE q hn)];exact q,λb ps q=>⟨#[],by rw[az (aE q hn),q];simp⟩⟩ λb u e=>?_
 ·rw[az λz=>by rw[z,hp] at q;cases q];exact n
 ·by_cases hb:b=a
  ·subst hb;rw[aR] at e;cases e;exact new
  ·rw[az hb] at e;exact(I.hok b u e).stay (λc v _ q=>k c v q) (λc q=>by rw[az (aE q hn)];exact q) λc xs q=>by rw[az (aE q hn)];exact q
noncomputable def VS(K:PySem.W.Frag)(te:TE)(ts:TO):TE:=λσ H Q=>te σ H λx H1=>ts σ H1 λi H2=>i=some (-1)/\∃a xs,x=.ref a/\gz K H2 a xs/\∀p,H2 p=none->Q (.ref p) (upd H2 p (.lst xs.reverse))
theorem ux:∀{xs:List V} {its:List Value},Vals xs its->Vals xs.reverse its.reverse
 | [],_,h=>by cases h;exact .nil
 | x::r,_,h=>by
  cases h with
  | cons a t =>rw[reverse_cons,reverse_cons];exact Vals.append (ux t) (.cons a .nil)
theorem Ju{e st:Expr}{te:TE}{ts:TO}{p2 pos:Pos}(he:PE X e te)(hs:PO X (some st) ts):PE X (.Subscript e (.Slice none none (some st) p2) pos) (VS X.K te ts):=by
 intro pins s σ H Q I h;refine Subscript_ (cu (he pins s σ H _ I h) λv s1 aJ=>?_);obtain⟨x,H1,I1,r1,q1⟩:=aJ;refine wpAny_Slice ?_;rw[evalPart_none];refine wpAny_pure ?_;refine wpAny_pure ?_;refine cu (hs pins s1 σ H1 _ I1 q1) λvk s3 aJ=>?_;obtain⟨k,H3,I3,pk,q3⟩:=aJ;obtain⟨rfl,a,xs,rfl,hx,q⟩:=q3;cases r1;have I4:Inv X pins σ H3 { s3 with heap:=s3.heap.push { cls:=.type "slice",data:=.fields #[.none,.none,vk] } }:=I3.kept (t':=s3.toks) λb ob q=>get?_push_of_some _ q;obtain⟨its,r,ht,hz⟩:=I4.list hx;have hlen:=r.length;show wpAny (model X.prog X.w) X.A (subscriptTail e (.Slice none none (some st) p2) (.ref a) (.ref s3.heap.objs.size)) (EP X pins σ Q) X.xe { s3 with heap:=s3.heap.push { cls:=.type "slice",data:=.fields #[.none,.none,vk] } };refine tail_any (ops:=[.ref a,.ref s3.heap.objs.size]) ht.isList.typeIs slot_list_getitem.lookup ?_ (by with_unfolding_all rfl);refine wpAny_getItem_list_slice ht.isList (Heap.IsSliceOf.new ..) .none .none pk (by decide) ?_ (by rw[size_toArray]<;>omega);rw[PySem.W.krv_pick];refine⟨.ref _,_,I4.laid (t':=s3.toks) (o:=.lst xs.reverse) (λb ob q=>get?_push_of_some _ q) (le_refl _) ?_,rfl,q _ (I4.hok.fresh (le_refl _))⟩;exact⟨by rw[List.length_reverse];exact hz,_,0,ux r,get?_push_size _ rfl⟩
theorem zP(hh:X.A.handled=none)(hst:starEach [o] X.env=[(false,eval o X.env)])(hg:Gl X "list")(hm:X.mg "list" = none)(hv:bootBuiltins "list" = some (.type "list"))(ho:PE X o to):PE X (.Call (.Name "list" p) [o] [] pos) (Uh to):=by
 intro pins s σ H Q I h;refine wpAny_Call_Name_kw (gG I hg hm hv ?_ (by decide) (by decide));refine PyProof.Rows.callWith_type1 ?_ hst rfl;rw[hst];show wpAny _ _ (spliced [(false,eval o X.env)]) _ _ s;refine Calls.spliced_cons ?_;refine cu (ho pins s σ H _ I h) λu s1 aJ=>?_;obtain⟨x,H1,I1,r1,a,kvs,ex,ea,q⟩:=aJ;subst ex;cases r1;obtain⟨t1,t2,hd⟩:=wu I1 (.inl ⟨kvs,.inl ea⟩);obtain⟨hz,_,vs,rel,dd⟩:=xR I1.hok ea;refine Calls.spliced_nil ?_;obtain⟨ep,da⟩:=dd.dictAt;have hlen:=rel.length;refine kdl_call (kdl_dict (knd:=aU X.prog X.w) (kvs:=vs) (ep:=ep) (d:=a) hd) hh da (by rw[<-hlen];exact hz) λh' tk acc c k2 eD hacc=>?_;have hn:H1 s1.heap.objs.size=none:=I1.hok.fresh (le_refl _);refine⟨.ref _,_,I1.laid (t':=tk) (λb o z=>k2 b o z) (le_refl _) (show bx X.prog X.w _ _ _ (.lst (kvs.map λkv=>kV kv.1)) from⟨?_,acc.toList,c,?_,?_⟩),rfl,q _ hn⟩
 ·rw[length_map];exact hz
 ·exact l0 (P:=X.prog) (w:=X.w) rel (by rw[length_toList];exact hacc.1) λj v e=>hacc.2 j v (by rw[<-getElem?_toList];exact e)
 ·first|(rw[Array.toArray_toList];exact eD)|simpa using eD
theorem zQ(hh:X.A.handled=none)(hst:starEach [o] X.env=[(false,eval o X.env)])(hg:Gl X "sorted")(hm:X.mg "sorted" = none)(hv:bootBuiltins "sorted" = some (.builtin "sorted"))(ho:PE X o to):PE X (.Call (.Name "sorted" p) [o] [] pos) (Ui to):=by
 intro pins s σ H Q I h;refine wpAny_Call_Name_kw (gG I hg hm hv ?_ (by decide) (by decide));refine PyProof.Rows.callWith_builtin1 ?_ hst rfl;rw[hst];show wpAny _ _ (spliced [(false,eval o X.env)]) _ _ s;refine Calls.spliced_cons ?_;refine cu (ho pins s σ H _ I h) λu s1 aJ=>?_;obtain⟨x,H1,I1,r1,a,kvs,ns,ex,ea,ens,h64,q⟩:=aJ;subst ex;cases r1;obtain⟨t1,t2,hd⟩:=wu I1 (.inl ⟨kvs,.inl ea⟩);obtain⟨hz,_,vs,rel,dd⟩:=xR I1.hok ea;refine Calls.spliced_nil ?_;obtain⟨ep,da⟩:=dd.dictAt;have hlen:=rel.length;refine nP.fX (O:=nP.oQ) (kdu_collect (A:=X.A.in1) (kdl_dict (knd:=aU X.prog X.w) (kvs:=vs) (ep:=ep) (d:=a) hd) (by simp[hh]) da (by rw[<-hlen];exact hz) λh' tk acc k1 hacc=>?_);have hV:Vals (kvs.map λkv=>kV kv.1) acc.toList:=l0 (P:=X.prog) (w:=X.w) rel (by rw[length_toList];exact hacc.1) λj v e=>hacc.2 j v (by rw[<-getElem?_toList];exact e);have hk:(kvs.map λkv=>kV kv.1)=ns.map V.int:=by have:=congrArg (List.map kV) ens;rw[map_map,map_map] at this;exact this
 rw[hk] at hV;have hI:=intsAre_of hV;have lv:=hI.length;have hN:∀b o,s1.heap.get? b=some o->b≠h'.objs.size:=λb o e z=>by
  have q:=lt_size (k1 b o e);rw[z] at q;exact lt_irrefl _ q
 refine⟨by rw[lv];exact h64,λi=>ns.getD i 0,λh2 h6 _=>nP.oR hI h2,λpp h'' outs k' he=>?_⟩;obtain⟨e,he⟩:=he;have mem:∀i∈pp,i<ns.length:=λi hi=>by have:=outs.perm.mem_iff.mp hi;rw[lv] at this;simpa using this
 have pn:(pp.map λi=>ns.getD i 0).Perm ns:=by have:=outs.perm.map λi=>ns.getD i 0;rw[lv,nP.dR] at this;exact this
 have up:(pp.map λi=>ns.getD i 0).Pairwise (· <= ·):=by refine List.Pairwise.imp (R:=nP.oQ.kle) (λ{x y:Int} hxy=>?_) outs.up;have hxy:(decide (y<x):Bool)=false:=hxy;exact not_lt.mp (of_decide_eq_false hxy)
 have es:=eq_sortI pn up;have hout:=qZ hI pp mem;rw[es] at hout;dsimp only at k' he |-;have hl:s1.heap.get? h'.objs.size=none:=by
  cases e:s1.heap.get? h'.objs.size with
  | none=>rfl
  | some o=>exact absurd rfl (hN _ o e)
 have hn:H1 h'.objs.size=none:=(kr.kept I1.hok k1).fresh (le_refl _);refine⟨.ref h'.objs.size,_,M3 I1 (t':=tk) (λb o z=>k' b o (k1 b o z)) hl hn (show bx X.prog X.w _ _ _ (.lst ((PySem.W.sortI ns).map V.int)) from⟨?_,_,e,gW hout,he⟩),rfl,q _ hn⟩;rw[length_map,(sortI_perm _).length_eq,sizeLine_eq];omega
end
end L2
end
section
namespace L2
open PySem PySem.Spec PyProof.Rows PySem.W
section
variable {X:Cx}
structure Jv (K:PySem.W.Frag) (C:Addr) (m:Str) (f:Addr):Prop where
 ga:specialIn K (.ref C) "__getattribute__" = some (some (.builtin "type.__getattribute__"))
 rd:readsIn K C (.type "type")=true
 at_:findCls K (.ref C) (.type "type") m=some (.val (.ref f))
 kp:keepIn K (.ref f)=true
theorem Jw{k:Nat}(F:eB X.prog X.w X.K X.mg X.base vM k f fd ps sp)(hr:cW k X.A)(hg:Gl X x)(hm:X.mg x=some (.ref C))(c:Jv X.K C m f)(hb:Binds X.K fd ps [])
  (ha:PA X (l::ls) t) (hd:(x==("__debug__":Str))=false)
  (hfew:((backTo cp (starEach (l::ls) X.env)).all (λx=>!x.1)&&(backToKw cp (keywordEach [] X.env)).all (λx=>x.1.isSome)
   && decide ((l::ls).length+([]:List Keyword).length+(if ([]:List Keyword).isEmpty then 0 else 1)<30))=true) (hline:(ap.endLine==cp.line)=true)
  (st:starEach (l::ls) X.env=(false,eval l X.env)::starEach ls X.env) (an:(backTo cp (starEach ls X.env)).any (·.1)=false) :
  PE X (.Call (.Attribute (.Name x np) m ap) (l::ls) [] cp) (λσ H Q=>t σ H λvs H1=>sp vs H1 Q E0):=by
 intro pins s σ H Q I h;refine mh rfl hfew hline (jK I hg hm (λpl=>?_) hd);refine PySem.W.method_cls I.iR c.ga (PySem.W.cls_value I.iR c.rd c.at_ rfl ?_);refine callWith_K (first:=[]) (h₀:=X.base) I.ok.mod.LB c.kp (cu (ha cp pins _ σ H _ (I.tok _) h) λus s2 ⟨vs,H2,I2,r,q2⟩=>⟨I2.iR,?_⟩) st an;exact oA (us:=us) (vs:=vs) (qm:=[]) (ds:=[]) F hr hb .nil oK I2 r (by rw[append_nil];exact q2)
structure Uj (K:PySem.W.Frag) (C:Addr):Prop where
 ha:findIn K (.ref C) "__class__" = some (some (.builtin "object.__class__"))
 hn:specialIn K (.builtin "object.__class__") "__get__" = some (some (.builtin "getset_descriptor.__get__"))
 htk:takesIn K (.builtin "object.__class__")=some true
 hm:PySem.W.mroIn K C (.type "object")=some true
theorem By:cH X (.builtin "isinstance") (λxs H Q=>∃(x:V) (t:Value) (b:Bool),xs=[x,.ref C]/\lT X.K H x t/\kitOne X.K t (.ref C)=some b/\Q (.bl b) H):=by
 intro pins s σ H xs us Q I r h;obtain⟨x,t,b,rfl,ty,e,q⟩:=h;obtain⟨u,w',rfl,r1,r2⟩:=vals2 r;cases r2;exact zq I r1 ty e λtk=>⟨.bl b,H,I.tok _,rfl,q⟩
end
end L2
end
section
namespace Hv
open PySem L2 PyProof.Rows
inductive Val
 | non|bl (b:Bool)|int (i:Int)|str (x:Str)|tup (vs:List Val)|rl (vs:List Val)|dc (ks:List Key) (vs:List Val)|ob (c:Nat) (xs:List Str) (vs:List Val)|ref (i:Nat)
inductive Ob
 | lst (xs:List Val)|dct (kvs:List (Key×Val))|ins (c:Nat) (fs:List (Str×Val))
noncomputable abbrev Hs:=List Ob
inductive Out (α:Type)
 | ok (a:α) (h:Hs)|exc (c:Nat) (vs:List Val) (h:Hs)|no
noncomputable abbrev M(α:Type):=Hs->Out α
noncomputable def ret{α:Type}(a:α):M α:=λh=>.ok a h
noncomputable def bnd{α β:Type}(m:M α)(f:α -> M β):M β:=λh=>match m h with
 | .ok a h'=>f a h'
 | .exc c vs h'=>.exc c vs h'
 | .no=>.no
noncomputable def bg{α:Type}(o:Option α):M α:=λh=>match o with
 | some a=>.ok a h
 | none=>.no
noncomputable def ask{α:Type}(f:Hs->Option α):M α:=λh=>bg (f h) h
noncomputable def new(o:Ob):M Val:=λh=>.ok (.ref h.length) (h++[o])
noncomputable def put(i:Nat)(o:Ob):M Unit:=λh=>.ok () (h.set i o)
noncomputable def cj{α β:Type}(f:α -> Option β):List α -> Option (List β)
 | []=>some []
 | a::r=>(f a).bind λb=>(cj f r).bind λbs=>some (b::bs)
inductive GN|add|sub|mul|fdiv|mod|pow
 deriving DecidableEq
inductive Jx|eq|ne|lt|le|gt|ge|isn|ntn|BA|nin
 deriving DecidableEq
inductive Bl|len|min|max|sorted|list|tuple|str|int|all|any|isin (T:String)
 deriving DecidableEq
inductive Me|join|append|extend
 deriving DecidableEq
inductive xW|one (i:Nat)|tup (is:List Nat)
 deriving DecidableEq
inductive Ik|seq|range|enum|zip
 deriving DecidableEq
mutual
inductive IE
 | var (i:Nat)|cst (d:Val)|con (x:Str) (d:Val)|no
 | bin (o:GN) (a b:IE)|neg (a:IE)|cmp (o:Jx) (a b:IE)|chn (o p:Jx) (a b c:IE)
 | and (a b:IE)|or (a b:IE)|not (a:IE)|ite (c a b:IE)
 | tup (es:m8)|lst (es:m8)|idx (a b:IE)|slc (a lo hi:IE)
 | call (j:Nat) (es:m8)|blt (b:Bl) (es:m8)|met (m:Me) (a:IE) (es:m8)
 | comp (N:List Str) (js:List (Option Nat)) (pat:xW) (k:Ik) (it:m8) (c elt:IE)
 | dct0
 | sset (a:IE)
 | dget (d k x:IE)
 | dct1 (k v:IE)
 | lkeys (d:IE)
 | sdef (d k x:IE)
 | svals (d:IE)
 | skeys (d:IE)
 | fld (n:Nat) (a:IE) (x:Str)
 | mth (a:IE) (m:Str) (js:List (Nat×Nat)) (es:m8)
 | rev (a s:IE)
 | dflt (N:List Str) (js:List (Option Nat)) (p q:Nat) (d w:IE)
 | isc (a:IE) (x:Str) (bs:List Bool)
inductive m8|nil|cons (e:IE) (es:m8)
end
noncomputable abbrev Env:=List (Option Val)
mutual
inductive IS
 | expr (e:IE)|asg (p:xW) (e:IE)|aug (i:Nat) (o:GN) (e:IE)|gu (o i v:IE)
 | iff (c:IE) (a b:fM)|for (p:xW) (k:Ik) (it:m8) (body:fM)|whl (n:Nat) (c:IE) (body:fM)
 | ret (e:IE)|EB|brk|cnt|pass|never|setF (n:Nat) (a:IE) (x:Str) (v:IE)
inductive fM|nil|cons (s:IS) (r:fM)
end
noncomputable def aB(h:Hs):Val->Option (List Val)
 | .rl vs=>some vs
 | .ref i=>match h[i]? with
  | some (.lst xs)=>some xs
  | _=>none
 | _=>none
noncomputable def cV(h:Hs):Val->Option (List Val)
 | .tup vs=>some vs
 | v=>aB h v
noncomputable def uy(h:Hs):Val->Option (List Val)
 | .tup vs=>some vs
 | .ref i=>aB h (.ref i)
 | _=>none
noncomputable def aS:List Val->Option (List Int):=cj λv=>match v with
 | .int i=>some i
 | _=>none
noncomputable def strs?:List Val->Option (List Str):=cj λv=>match v with
 | .str i=>some i
 | _=>none
noncomputable def QL:List Val->Option (List Bool):=cj λv=>match v with
 | .bl i=>some i
 | _=>none
noncomputable def kg:List Val->Option (List (List Int)):=cj λv=>match v with
 | .tup vs=>if vs.isEmpty then none else aS vs
 | _=>none
noncomputable def toD:Nat->Hs->Val->Option PyData
 | 0,_,_=>none
 | _+1,_,.non=>some .none
 | _+1,_,.bl b=>some (.bool b)
 | _+1,_,.int i=>some (.int i)
 | _+1,_,.str x=>if PyData.strOk x=true then some (.str x) else none
 | n+1,h,.tup vs=>(cj (toD n h) vs).bind λds=>some (.tuple ds)
 | n+1,h,.rl vs=>(cj (toD n h) vs).bind λds=>some (.list ds)
 | _+1,_,.dc _ _=>none
 | _+1,_,.ob _ _ _=>none
 | n+1,h,.ref i=>(aB h (.ref i)).bind λxs=>(cj (toD n h) xs).bind λds=>some (.list ds)
noncomputable def Ax(h:Hs)(v w:Val):Option Bool:=(toD 16 h v).bind λd=>(toD 16 h w).bind λe=>some (PyData.eqv d e)
noncomputable def sI(x:List Int):List (List Int)->List (List Int)
 | []=>[x]
 | y::r=>if HT.lexLt y x=true then y::sI x r else x::y::r
noncomputable def kY:List (List Int)->List (List Int)
 | []=>[]
 | x::r=>sI x (kY r)
noncomputable def kZ(ks:List Int):Val:=.tup (ks.map .int)
noncomputable def eu(xs:List Val):Option (List Val) :=
 if xs.length<64 then
  match aS xs with
  | some ns=>some ((PySem.W.sortI ns).map .int)
  | none=>(kg xs).bind λnQ=>some ((kY nQ).map kZ)
 else none
noncomputable def sJ:List Int->Option Val
 | []=>none
 | a::r=>some (.int (r.foldl min a))
noncomputable def sL:List Int->Option Val
 | []=>none
 | a::r=>some (.int (r.foldl max a))
noncomputable def kh(i j:Int):Bool:=(decide (-(2 ^ 64)<i)&&decide (i<2 ^ 64))||(decide (-(2 ^ 64)<j)&&decide (j<2 ^ 64))
noncomputable def aD{α:Type}(c:Bool)(m:M α):M α:=λh=>if c=true then m h else .no
noncomputable def jh(b:Int):Bool:=decide (0<b/\b<1606938044258990275541962092341162602522202993782792835301376)
noncomputable def LH:GN->Val->Val->M Val
 | .add,.int a,.int b=>ret (.int (a+b))
 | .add,.str a,.str b=>aD (decide (a.length+b.length<=sizeLine)) (ret (.str (a++b)))
 | .add,.tup a,.tup b=>aD (!a.isEmpty&&decide (a.length+b.length<=sizeLine)) (ret (.tup (a++b)))
 | .add,v,w=>bnd (ask λh=>aB h v) λa=>bnd (ask λh=>aB h w) λb=>aD (decide (a.length+b.length<=sizeLine)) (new (.lst (a++b)))
 | .sub,.int a,.int b=>ret (.int (a-b))
 | .mul,.int a,.int b=>aD (kh a b) (ret (.int (a*b)))
 | .fdiv,.int a,.int b=>aD (jh b) (ret (.int (a/b)))
 | .mod,.int a,.int b=>aD (decide (0<b)) (ret (.int (a%b)))
 | .pow,.int a,.int b=>aD (decide (0<=b/\b<=1000000/\a.natAbs<2 ^ 64)) (ret (.int (a ^ b.toNat)))
 | _,_,_=>bg none
noncomputable def oZ:Val->Bool
 | .non=>true
 | _=>false
noncomputable def bN(kvs:List (Key×Val))(k:Key):Option Val:=(kvs.find? λkv=>decide (kv.1=k)).map (·.2)
noncomputable def fY(kvs:List (Key×Val))(k:Key)(v:Val):List (Key×Val) :=
 if (kvs.any λkv=>decide (kv.1=k))=true then kvs.map (λkv=>if kv.1=k then (kv.1,v) else kv) else kvs++[(k,v)]
noncomputable def keyOf:Val->Option Key
 | .int i=>some (.inl i)
 | .str x=>some (.inr x)
 | _=>none
noncomputable def Jy(f d:PyData):Option Bool:=match f with
 | .list ds=>some (ds.any λy=>PyData.eqv y d)
 | .tuple ds=>some (ds.any λy=>PyData.eqv y d)
 | _=>none
noncomputable def memD(h:Hs)(v w:Val):Option Bool:=(toD 16 h w).bind λf=>(toD 16 h v).bind λd=>Jy f d
noncomputable def EC(h:Hs)(v:Val)(i:Nat):Ob->Option Bool
 | .dct kvs=>(keyOf v).bind λk=>some (bN kvs k).isSome
 | _=>memD h v (.ref i)
noncomputable def sM(h:Hs):Val->Val->Option Bool
 | .str a,.str b=>some (!(Builtin.Str.occurrences b a 0 b.length 1).isEmpty)
 | v,.ref i=>(h[i]?).bind (EC h v i)
 | v,.dc ks _=>(keyOf v).bind λk=>some (ks.any λj=>decide (j=k))
 | v,w=>memD h v w
noncomputable def GO(v w:Val):Option Bool:=match w with
 | .non=>some (oZ v)
 | .bl b=>(match v with
  | .bl a=>some (a==b)
  | _=>none)
 | _=>none
noncomputable def cop(h:Hs):Jx->Val->Val->Option Bool
 | .eq,v,w=>Ax h v w
 | .ne,v,w=>(Ax h v w).map (!·)
 | .lt,.int a,.int b=>some (decide (a<b))
 | .le,.int a,.int b=>some (decide (a<=b))
 | .gt,.int a,.int b=>some (decide (b<a))
 | .ge,.int a,.int b=>some (decide (b<=a))
 | .isn,v,w=>GO v w
 | .ntn,v,w=>(GO v w).map (!·)
 | .BA,v,w=>sM h v w
 | .nin,v,w=>(sM h v w).map (!·)
 | _,_,_=>none
noncomputable def cX(h:Hs):Val->Option Bool
 | .non=>some false
 | .bl b=>some b
 | .int i=>some (i != 0)
 | .str x=>if x.length<=sizeLine then some ((x.length:Int) != 0) else none
 | .tup vs=>some (!vs.isEmpty)
 | .rl vs=>some (!vs.isEmpty)
 | .dc ks _=>some (!ks.isEmpty)
 | .ob _ _ _=>none
 | .ref i=>match h[i]? with
  | some (.lst xs)=>some (!xs.isEmpty)
  | some (.dct xs)=>some (!xs.isEmpty)
  | _=>none
noncomputable def ja(h:Hs):Val->Val->Option Val
 | .str x,.int i=>if x.length<=sizeLine then (jd x.cps.toList i).map λc=>.str ⟨#[c]⟩ else none
 | .tup vs,.int i=>jd vs i
 | .rl vs,.int i=>jd vs i
 | .ref j,.int i=>match h[j]? with
  | some (.dct kvs)=>bN kvs (.inl i)
  | _=>(aB h (.ref j)).bind λxs=>jd xs i
 | .ref j,.str x=>match h[j]? with
  | some (.dct kvs)=>bN kvs (.inr x)
  | _=>none
 | .dc ks vs,.int i=>bN (ks.zip vs) (.inl i)
 | .dc ks vs,.str x=>bN (ks.zip vs) (.inr x)
 | _,_=>none
noncomputable def BB(h:Hs)(o:Val):Option Unit:=match o with
 | .ref i=>(match h[i]? with
  | some (.dct _)=>some ()
  | _=>none)
 | .dc _ _=>some ()
 | _=>none
noncomputable def zR(h:Hs)(o:Val)(k:Key):Option (Option Val):=match o with
 | .ref i=>(match h[i]? with
  | some (.dct kvs)=>some (bN kvs k)
  | _=>none)
 | .dc ks vs=>some (bN (ks.zip vs) k)
 | _=>none
noncomputable def uz(h:Hs)(o:Val):Option (List Key):=match o with
 | .ref i=>(match h[i]? with
  | some (.dct kvs)=>some (kvs.map (·.1))
  | _=>none)
 | .dc ks _=>some ks
 | _=>none
noncomputable def ED:Key->Val
 | .inl i=>.int i
 | .inr x=>.str x
noncomputable def Uk(o:Val)(k:Key)(z:Val):M Val:=match o with
 | .ref j=>bnd (ask λh=>match h[j]? with|some (.dct kvs)=>some kvs|_=>none) λkvs=>aD (decide (kvs.length<sizeLine)) (match bN kvs k with
  | some v=>ret v
  | none=>bnd (put j (.dct (fY kvs k z))) λ_=>ret z)
 | _=>bg none
noncomputable def rj:List Key->Option (List Int):=cj λk=>match k with
 | .inl i=>some i
 | .inr _=>none
noncomputable def sN(h:Hs)(o:Val):Option (List Int):=(uz h o).bind λks=>(rj ks).bind λns=>if ns.length<64 then some (PySem.W.sortI ns) else none
noncomputable def GP(h:Hs)(ks:List Key)(w:Val):Option (List Int):=(rj ks).bind λns=>(aB h w).bind λxs=>(aS xs).bind λms=>if ns.length<=100000 then some (ns.filter λn=>!(ms.any λm=>m==n)) else none
noncomputable def cY{α:Type}(ds:List α)(lo hi:Option Int):List α:=(ds.drop (HT.dQ ds.length 0 lo)).take (HT.dQ ds.length ds.length hi-HT.dQ ds.length 0 lo)
noncomputable def qy(v:Val)(lo hi:Option Int):M Val:=match v with
 | .tup vs=>aD (!(decide (HT.dQ vs.length 0 lo=0)&&decide (HT.dQ vs.length vs.length hi=vs.length))) (ret (.tup (cY vs lo hi)))
 | v=>bnd (ask λh=>aB h v) λxs=>new (.lst (cY xs lo hi))
noncomputable def uA(h:Hs):Val->Option String
 | .non=>some "NoneType" | .bl _=>some "bool" | .int _=>some "int" | .str _=>some "str" | .tup _=>some "tuple" | .rl _=>some "list" | .dc _ _=>some "dict" | .ob _ _ _=>none
 | .ref i=>match h[i]? with
  | some (.lst _)=>some "list"
  | some (.dct _)=>some "dict"
  | _=>none
noncomputable def uB(T:String)(t:String):Option Bool :=
 if ["list","tuple","str","bool","int","dict"].contains T=true then some (decide (T=t\/(T = "int" /\ t = "bool"))) else none
noncomputable def k7(h:Hs):Val->Option Nat
 | .str x=>if x.length<=sizeLine then some x.length else none
 | .tup vs=>some vs.length
 | .rl vs=>some vs.length
 | .dc ks _=>some ks.length
 | .ref i=>match h[i]? with
  | some (.lst xs)=>some xs.length
  | some (.dct xs)=>some xs.length
  | _=>none
 | _=>none
noncomputable def blt:Bl->List Val->M Val
 | .len,[v]=>bnd (ask λh=>k7 h v) λn=>ret (.int n)
 | .min,[.int a,.int b]=>ret (.int (if b<a then b else a))
 | .max,[.int a,.int b]=>ret (.int (if b>a then b else a))
 | .min,[v]=>bnd (ask λh=>cV h v) λxs=>bg ((aS xs).bind sJ)
 | .max,[v]=>bnd (ask λh=>cV h v) λxs=>bg ((aS xs).bind sL)
 | .sorted,[v]=>bnd (ask λh=>aB h v) λxs=>bnd (bg (eu xs)) λys=>new (.lst ys)
 | .list,[v]=>bnd (ask λh=>cV h v) λxs=>new (.lst xs)
 | .int,[.bl b]=>ret (.int (if b=true then 1 else 0))
 | .int,[.int i]=>ret (.int i)
 | .isin T,[v]=>bnd (ask λh=>uA h v) λt=>bnd (bg (uB T t)) λb=>ret (.bl b)
 | _,_=>bg none
noncomputable def met:Me->Val->List Val->M Val
 | .append,.ref i,[v]=>bnd (ask λh=>match h[i]? with|some (.lst xs)=>some xs|_=>none) λxs=>aD (decide (xs.length<sizeLine)) (bnd (put i (.lst (xs++[v]))) λ_=>ret .non)
 | .extend,.ref i,[v]=>bnd (ask λh=>match h[i]? with|some (.lst xs)=>some xs|_=>none) λxs=>bnd (ask λh=>uy h v) λys=>aD (decide (xs.length+ys.length<=sizeLine)) (bnd (put i (.lst (xs++ys))) λ_=>ret .non)
 | _,_,_=>bg none
noncomputable def recv(h:Hs):Me->Val->Option Unit
 | .join,.str _=>some ()
 | .append,.ref i=>match h[i]? with|some (.lst _)=>some ()|_=>none
 | .extend,.ref i=>match h[i]? with|some (.lst _)=>some ()|_=>none
 | _,_=>none
inductive Src
 | fix (xs:List Val)|live (i:Nat)|enum (i:Nat)|zip (v w:Val)
noncomputable def cI:Nat->List Val->List Val
 | _,[]=>[]
 | i,d::r=>.tup [.int i,d]::cI (i+1) r
noncomputable def M4:List Val->List Val->List Val
 | a::r,b::t=>.tup [a,b]::M4 r t
 | _,_=>[]
noncomputable def bX(lo:Int)(n:Nat):List Val:=(List.range n).map λ(i:Nat)=>Val.int (lo+(i:Int))
noncomputable def inR(i:Int):Bool:=decide (-(2 ^ 62)<=i)&&decide (i<2 ^ 62)
noncomputable def srcOf:Ik->List Val->Option Src
 | .seq,[.tup vs]=>some (.fix vs)
 | .seq,[.rl vs]=>some (.fix vs)
 | .seq,[.ref i]=>some (.live i)
 | .range,[.int n]=>if inR n then some (.fix (bX 0 n.toNat)) else none
 | .range,[.int a,.int b]=>if inR a&&inR b then some (.fix (bX a (b-a).toNat)) else none
 | .enum,[.rl vs]=>some (.fix (cI 0 vs))
 | .enum,[.ref i]=>some (.enum i)
 | .zip,[v,w]=>some (.zip v w)
 | _,_=>none
noncomputable def Src.items(h:Hs):Src->Option (List Val)
 | .fix xs=>some xs
 | .live i=>aB h (.ref i)
 | .enum i=>(aB h (.ref i)).map (cI 0)
 | .zip v w=>(aB h v).bind λxs=>(aB h w).map λys=>M4 xs ys
noncomputable def bindAll:List Nat->List Val->Env->Option Env
 | [],[],env=>some env
 | i::is,d::ds,env=>bindAll is ds (env.set i (some d))
 | _,_,_=>none
noncomputable def fG:xW->Val->Env->Option Env
 | .one i,d,env=>some (env.set i (some d))
 | .tup is,.tup ds,env=>bindAll is ds env
 | _,_,_=>none
noncomputable def jk(js:List (Option Nat))(env:Env):Env:=js.map λo=>match o with
 | none=>none
 | some j=>match env[j]? with
  | some (some d)=>some d
  | _=>none
noncomputable def fj(src:Src)(f:Val->M (Option Val)):Nat->Nat->List Val->M (List Val)
 | 0,i,acc=>bnd (ask λh=>src.items h) λxs=>aD (decide (xs.length<=i)) (ret acc)
 | n+1,i,acc=>bnd (ask λh=>src.items h) λxs=>match xs[i]? with
  | none=>ret acc
  | some x=>bnd (f x) λo=>fj src f n (i+1) (match o with|some e=>acc++[e]|none=>acc)
noncomputable def cG:IE->Bool
 | .no=>true
 | _=>false
noncomputable def gX:Val->Option Int
 | .int i=>some i
 | _=>none
noncomputable def o4:Val->M Bool
 | .bl b=>ret b
 | _=>bg none
noncomputable def gJ(n:Nat)(h:Hs)(o:Val)(x:Str):Option Val:=match o with
 | .ref i=>(match h[i]? with
  | some (.ins c fs)=>if c<n then fs.lookup x else none
  | _=>none)
 | .ob c xs vs=>if c<n then (xs.zip vs).lookup x else none
 | _=>none
noncomputable def wN(h:Hs)(o:Val)(bs:List Bool):Option Bool:=match o with
 | .ref i=>(match h[i]? with
  | some (.ins c _)=>bs[c]?
  | _=>none)
 | .ob c _ _=>bs[c]?
 | _=>none
noncomputable def jY(h:Hs)(o:Val)(m:Str)(js:List (Nat×Nat)):Option Nat:=match o with
 | .ref i=>(match h[i]? with
  | some (.ins c fs)=>if (fs.lookup m).isNone=true then js.lookup c else none
  | _=>none)
 | .ob c xs vs=>if ((xs.zip vs).lookup m).isNone=true then js.lookup c else none
 | _=>none
noncomputable def o5(f:Str)(v:Val):List (Str×Val)->List (Str×Val)
 | []=>[(f,v)]
 | (g,x)::r=>if g=f then (g,v)::r else (g,x)::o5 f v r
noncomputable def xX(n:Nat)(o:Val)(x:Str)(v:Val):M Unit:=match o with
 | .ref i=>bnd (ask λh=>match h[i]? with|some (.ins c fs)=>if c<n then some (c,fs) else none|_=>none) λp=>aD (decide (p.2.length<1000)) (put i (.ins p.1 (o5 x v p.2)))
 | _=>bg none
noncomputable def DH(c:Nat)(φ:List Val->M Val)(vs:List Val):M Val:=bnd (new (.ins c [])) λo=>bnd (φ (o::vs)) λr=>match r with
 | .non=>ret o
 | _=>bg none
mutual
noncomputable def aF(Φ:Nat->List Val->M Val):IE->Env->M Val
 | .var i,env=>bg (match env[i]? with
  | some (some d)=>some d
  | _=>none)
 | .cst d,_=>ret d
 | .con _ d,_=>ret d
 | .no,_=>bg none
 | .bin o a b,env=>bnd (aF Φ a env) λx=>bnd (aF Φ b env) λy=>LH o x y
 | .neg a,env=>bnd (aF Φ a env) λx=>match x with
  | .int i=>ret (.int (-i))
  | _=>bg none
 | .cmp o a b,env=>bnd (aF Φ a env) λx=>bnd (aF Φ b env) λy=>bnd (ask λh=>cop h o x y) λt=>ret (.bl t)
 | .chn _ _ _ _ _,_=>bg none
 | .and a b,env=>bnd (aF Φ a env) λx=>bnd (o4 x) λt=>if t=true then bnd (aF Φ b env) λy=>bnd (o4 y) λu=>ret (.bl u) else ret (.bl false)
 | .or a b,env=>bnd (aF Φ a env) λx=>bnd (o4 x) λt=>if t=true then ret (.bl true) else bnd (aF Φ b env) λy=>bnd (o4 y) λu=>ret (.bl u)
 | .not a,env=>bnd (aF Φ a env) λx=>bnd (o4 x) λt=>ret (.bl (!t))
 | .ite _ _ _,_=>bg none
 | .tup es,env=>bnd (aV Φ es env) λds=>aD (decide (ds.length<=sizeLine)) (ret (.tup ds))
 | .lst es,env=>bnd (aV Φ es env) λds=>aD (decide (ds.length<=sizeLine)) (new (.lst ds))
 | .idx a b,env=>bnd (aF Φ a env) λx=>bnd (aF Φ b env) λy=>ask λh=>ja h x y
 | .slc a lo hi,env=>bnd (aF Φ a env) λx=>bnd (if cG lo=true then ret none else bnd (aF Φ lo env) λv=>bnd (bg (gX v)) λi=>ret (some i)) λl =>
   bnd (if cG hi=true then ret none else bnd (aF Φ hi env) λv=>bnd (bg (gX v)) λi=>ret (some i)) λu=>qy x l u
 | .call j es,env=>bnd (aV Φ es env) λds=>Φ j ds
 | .blt b es,env=>bnd (aV Φ es env) λds=>blt b ds
 | .met m a es,env=>bnd (aF Φ a env) λx=>bnd (ask λh=>recv h m x) λ_=>bnd (aV Φ es env) λds=>met m x ds
 | .comp _ js pat k it c elt,env=>bnd (aV Φ it env) λits=>bnd (bg (srcOf k its)) λsrc=>bnd (ask λh=>src.items h) λxs=>aD (decide (xs.length<=100000))
   (bnd (fj src (λd=>bnd (bg (fG pat d (jk js env))) λenv'=>bnd (if cG c=true then ret true else bnd (aF Φ c env') λv=>ask λh=>cX h v) λt =>
    if t=true then bnd (aF Φ elt env') λe=>ret (some e) else ret none) xs.length 0 []) λys=>new (.lst ys))
 | .dct0,_=>new (.dct [])
 | .sset a,env=>bnd (aF Φ a env) λv=>bnd (ask λh=>aB h v) λxs=>bnd (bg (aS xs)) λns=>aD (decide (ns.length<64)) (new (.lst ((PySem.W.sortI (L2.dM [] ns)).map .int)))
 | .dget d k x,env=>bnd (aF Φ d env) λo=>bnd (ask λh=>BB h o) λ_=>bnd (aF Φ k env) λi=>bnd (bg (keyOf i)) λkk=>bnd (aF Φ x env) λz=>bnd (ask λh=>zR h o kk) λr=>ret (r.getD z)
 | .dct1 k v,env=>bnd (aF Φ k env) λx=>bnd (bg (keyOf x)) λkk=>bnd (aF Φ v env) λy=>new (.dct [(kk,y)])
 | .lkeys d,env=>bnd (aF Φ d env) λo=>bnd (ask λh=>uz h o) λks=>new (.lst (ks.map ED))
 | .sdef _ _ _,_=>bg none
 | .svals _,_=>bg none
 | .skeys d,env=>bnd (aF Φ d env) λo=>bnd (ask λh=>sN h o) λns=>new (.lst (ns.map .int))
 | .fld n a x,env=>bnd (aF Φ a env) λo=>ask λh=>gJ n h o x
 | .mth a m js es,env=>bnd (aF Φ a env) λo=>bnd (ask λh=>jY h o m js) λj=>bnd (aV Φ es env) λds=>Φ j (o::ds)
 | .rev a s,env=>bnd (aF Φ a env) λx=>bnd (if cG s=true then ret none else bnd (aF Φ s env) λv=>bnd (bg (gX v)) λi=>ret (some i)) λk =>
   aD (decide (k=some (-1))) (bnd (ask λh=>aB h x) λxs=>new (.lst xs.reverse))
 | .dflt _ _ _ _ _ _,_=>bg none
 | .isc a _ bs,env=>bnd (aF Φ a env) λo=>bnd (ask λh=>wN h o bs) λb=>ret (.bl b)
noncomputable def aV(Φ:Nat->List Val->M Val):m8->Env->M (List Val)
 | .nil,_=>ret []
 | .cons e es,env=>bnd (aF Φ e env) λd=>bnd (aV Φ es env) λds=>ret (d::ds)
end
inductive Fl
 | nx (env:Env)|rt (v:Val)|bk (env:Env)|ct (env:Env)
noncomputable def forM(src:Src)(body:Val->Env->M Fl):Nat->Nat->Env->M Fl
 | 0,i,env=>bnd (ask λh=>src.items h) λxs=>aD (decide (xs.length<=i)) (ret (.nx env))
 | n+1,i,env=>bnd (ask λh=>src.items h) λxs=>match xs[i]? with
  | none=>ret (.nx env)
  | some x=>bnd (body x env) λf=>match f with
   | .nx env'=>forM src body n (i+1) env'
   | .ct env'=>forM src body n (i+1) env'
   | .bk env'=>ret (.nx env')
   | .rt v=>ret (.rt v)
noncomputable def rm(o i v:Val):M Unit:=match o with
 | .ref j=>bnd (ask λh=>h[j]?) λob=>match ob,i with
  | .lst xs,.int k=>bnd (bg (zw xs.length k)) λn=>put j (.lst (xs.set n v))
  | .dct kvs,i=>bnd (bg (keyOf i)) λk=>aD (decide (kvs.length<sizeLine)) (put j (.dct (fY kvs k v)))
  | _,_=>bg none
 | _=>bg none
mutual
noncomputable def fS(Φ:Nat->List Val->M Val):IS->Env->M Fl
 | .expr e,env=>bnd (aF Φ e env) λ_=>ret (.nx env)
 | .asg p e,env=>bnd (aF Φ e env) λv=>bnd (bg (fG p v env)) λenv'=>ret (.nx env')
 | .aug _ _ _,_=>bg none
 | .gu o i v,env=>bnd (aF Φ v env) λx=>bnd (aF Φ o env) λy=>bnd (aF Φ i env) λz=>bnd (rm y z x) λ_=>ret (.nx env)
 | .iff c a b,env=>bnd (aF Φ c env) λx=>bnd (ask λh=>cX h x) λt=>if t=true then eG Φ a env else eG Φ b env
 | .for p k it body,env=>bnd (aV Φ it env) λits=>bnd (bg (srcOf k its)) λsrc=>bnd (ask λh=>src.items h) λxs =>
   forM src (λx env=>bnd (bg (fG p x env)) λenv'=>eG Φ body env') xs.length 0 env
 | .whl _ _ _,_=>bg none
 | .ret e,env=>bnd (aF Φ e env) λv=>ret (.rt v)
 | .EB,_=>ret (.rt .non)
 | .brk,env=>ret (.bk env)
 | .cnt,env=>ret (.ct env)
 | .pass,env=>ret (.nx env)
 | .never,_=>bg none
 | .setF n a x v,env=>bnd (aF Φ v env) λy=>bnd (aF Φ a env) λo=>bnd (xX n o x y) λ_=>ret (.nx env)
noncomputable def eG(Φ:Nat->List Val->M Val):fM->Env->M Fl
 | .nil,env=>ret (.nx env)
 | .cons s r,env=>bnd (fS Φ s env) λf=>match f with
  | .nx env'=>eG Φ r env'
  | f=>ret f
end
noncomputable def gY(Φ:Nat->List Val->M Val)(n:Nat)(body:fM)(vs:List Val):M Val :=
 bnd (eG Φ body (vs.map some++replicate (n-vs.length) none)) λf=>match f with
  | .nx _=>ret .non
  | .rt v=>ret v
  | _=>bg none
theorem jl{b:Bool}(ho:o=.lt\/o=.le\/o=.gt\/o=.ge)(e:cop h o v w=some b):∃i j,v=.int i/\w=.int j:=by
 cases v with
 | int i =>
  cases w with
  | int j=>exact⟨i,j,rfl,rfl⟩
  | _=>rcases ho with rfl|rfl|rfl|rfl<;>cases e
 | _=>rcases ho with rfl|rfl|rfl|rfl<;>cases e
end Hv
end
section
namespace Hv
open PySem L2 PyProof.Rows
structure Bd where
 K:PySem.W.Frag
 cl:Nat->Addr
noncomputable def GQ(K:PySem.W.Frag)(H:Hp)(a:Addr)(xs:List V):Prop :=
 (∃o,H a=some (.nL o (.lst xs)))\/gz K (λ_=>none) a xs
theorem GQ.sq{K:PySem.W.Frag}{H:Hp}{a:Addr}{xs:List V}(h:GQ K H a xs):gz K H a xs:=by
 rcases h with ⟨o,h⟩|(h|⟨o,h⟩)|h
 ·exact .inl (.inr ⟨o,h⟩)
 ·cases h
 ·cases h
 ·exact .inr h
mutual
noncomputable def VR(K:PySem.W.Frag)(ρ:List Addr)(H:Hp):Val->V->Prop
 | .non,x=>x=.non
 | .bl b,x=>x=.bl b
 | .int i,x=>x=.int i
 | .str s,x=>x=.str s
 | .tup vs,x=>∃a xs,x=.ref a/\iS K H a xs/\av K ρ H vs xs
 | .rl vs,x=>∃a xs,x=.ref a/\GQ K H a xs/\av K ρ H vs xs
 | .dc _ _,_=>False
 | .ob _ _ _,_=>False
 | .ref i,x=>∃a,x=.ref a /\ ρ[i]?=some a
noncomputable def av(K:PySem.W.Frag)(ρ:List Addr)(H:Hp):List Val->List V->Prop
 | [],xs=>xs=[]
 | v::vs,xs=>∃x r,xs=x::r/\VR K ρ H v x/\av K ρ H vs r
end
noncomputable def fN(K:PySem.W.Frag)(ρ:List Addr)(H:Hp):List (Key×Val)->List (Key×V)->Prop
 | [],xs=>xs=[]
 | (k,v)::vs,xs=>∃x r,xs=(k,x)::r/\VR K ρ H v x/\fN K ρ H vs r
noncomputable def k9(K:PySem.W.Frag)(ρ:List Addr)(H:Hp):List (Str×Val)->List (Str×V)->Prop
 | [],xs=>xs=[]
 | (k,v)::vs,xs=>∃x r,xs=(k,x)::r/\VR K ρ H v x/\k9 K ρ H vs r
noncomputable def OR(B:Bd)(ρ:List Addr)(H:Hp)(a:Addr):Ob->Prop
 | .lst xs=>∃ys,H a=some (.lst ys)/\av B.K ρ H xs ys
 | .dct kvs=>∃ks,H a=some (.dK ks)/\fN B.K ρ H kvs ks
 | .ins c fs=>∃dx gs,H a=some (.ins (B.cl c) dx gs)/\k9 B.K ρ H fs gs
structure HR (B:Bd) (ρ:List Addr) (h:Hs) (H:Hp):Prop where
 len:ρ.length=h.length
 nd:ρ.Nodup
 ob:∀(i:Nat) (o:Ob) (a:Addr),h[i]?=some o -> ρ[i]?=some a->OR B ρ H a o
noncomputable def Mu:HO->Bool
 | .lst _=>true|.dK _=>true|.ins ..=>true
 | _=>false
structure Gw (ρ:List Addr) (H:Hp) (ρ':List Addr) (H':Hp):Prop where
 pre:ρ <+: ρ'
 firm:∀a o,H a=some o->Mu o=false->H' a=some o
structure Gr (ρ:List Addr) (H:Hp) (ρ':List Addr) (H':Hp):Prop where
 pre:ρ <+: ρ'
 keep:∀a o,H a=some o->a ∉ ρ -> H' a=some o
 firm:∀a o,H a=some o->Mu o=false->H' a=some o
 fresh:∀a,a ∈ ρ'->a ∉ ρ -> H a=none
section
variable {K:PySem.W.Frag} {B:Bd} {ρ ρ' ρ1 ρ2:List Addr} {H H' H1 H2:Hp} {h h':Hs}
theorem Gr.w(g:Gr ρ H ρ' H'):Gw ρ H ρ' H':=⟨g.pre,g.firm⟩
theorem Gr.refl:Gr ρ H ρ H:=⟨prefix_refl _,λ_ _ e _=>e,λ_ _ e _=>e,λ_ e n=>absurd e n⟩
theorem Gr.trans(g:Gr ρ H ρ1 H1)(k:Gr ρ1 H1 ρ2 H2):Gr ρ H ρ2 H2 where
 pre:=g.pre.trans k.pre
 keep a o e n:=k.keep a o (g.keep a o e n) λz=>by rw[g.fresh a z n] at e;cases e
 firm a o e n:=k.firm a o (g.firm a o e n) n
 fresh a z n:=by
  by_cases hb:a ∈ ρ1
  ·exact g.fresh a hb n
  ·cases e:H a with
   | none=>rfl
   | some o =>have e1:=g.keep a o e n;rw[k.fresh a z hb] at e1;cases e1
theorem nR{i:Nat}(p:ρ <+: ρ')(e:ρ[i]?=some a):ρ'[i]?=some a:=by
 obtain⟨t,rfl⟩:=p;have hi:i < ρ.length:=(List.getElem?_eq_some_iff.mp e).1;rw[getElem?_append_left hi];exact e
theorem Gw.Ph(g:Gw ρ H ρ' H')(e:iS K H a xs):iS K H' a xs:=by
 rcases e with (e|⟨o,e⟩)|e
 ·exact .inl (.inl (g.firm _ _ e rfl))
 ·exact .inl (.inr ⟨o,g.firm _ _ e rfl⟩)
 ·exact .inr e
theorem Gw.Jz(g:Gw ρ H ρ' H')(e:GQ K H a xs):GQ K H' a xs:=by
 rcases e with ⟨o,e⟩|e
 ·exact .inl ⟨o,g.firm _ _ e rfl⟩
 ·exact .inr e
mutual
theorem VR.jZ(g:Gw ρ H ρ' H'):∀(v:Val) (x:V),VR K ρ H v x->VR K ρ' H' v x
 | .non,x,e=>by rw[VR] at e |-;exact e
 | .bl b,x,e=>by rw[VR] at e |-;exact e
 | .int b,x,e=>by rw[VR] at e |-;exact e
 | .str b,x,e=>by rw[VR] at e |-;exact e
 | .tup vs,x,e=>by
  rw[VR] at e |-;obtain⟨a,xs,rfl,q1,q2⟩:=e;exact⟨a,xs,rfl,g.Ph q1,av.jZ g vs xs q2⟩
 | .rl vs,x,e=>by
  rw[VR] at e |-;obtain⟨a,xs,rfl,q1,q2⟩:=e;exact⟨a,xs,rfl,g.Jz q1,av.jZ g vs xs q2⟩
 | .dc _ _,x,e=>by rw[VR] at e;exact e.elim
 | .ob _ _ _,x,e=>by rw[VR] at e;exact e.elim
 | .ref i,x,e=>by
  rw[VR] at e |-;obtain⟨a,rfl,q⟩:=e;exact⟨a,rfl,nR g.pre q⟩
theorem av.jZ(g:Gw ρ H ρ' H'):∀(vs:List Val) (xs:List V),av K ρ H vs xs->av K ρ' H' vs xs
 | [],xs,e=>by rw[av] at e |-;exact e
 | v::vs,xs,e=>by
  rw[av] at e |-;obtain⟨x,r,rfl,q1,q2⟩:=e;exact⟨x,r,rfl,VR.jZ g v x q1,av.jZ g vs r q2⟩
end
theorem fN.jZ(g:Gw ρ H ρ' H'):∀(vs:List (Key×Val)) (xs:List (Key×V)),fN K ρ H vs xs->fN K ρ' H' vs xs
 | [],xs,e=>e
 | (k,v)::vs,xs,⟨x,r,e,q1,q2⟩=>⟨x,r,e,VR.jZ g v x q1,fN.jZ g vs r q2⟩
theorem k9.jZ(g:Gw ρ H ρ' H'):∀(vs:List (Str×Val)) (xs:List (Str×V)),k9 K ρ H vs xs->k9 K ρ' H' vs xs
 | [],xs,e=>e
 | (k,v)::vs,xs,⟨x,r,e,q1,q2⟩=>⟨x,r,e,VR.jZ g v x q1,k9.jZ g vs r q2⟩
theorem k9.look:∀{vs:List (Str×Val)} {xs:List (Str×V)},k9 K ρ H vs xs->(vs.lookup x=none->xs.lookup x=none)/\∀v,vs.lookup x=some v->∃y,xs.lookup x=some y/\VR K ρ H v y
 | [],xs,e=>by rw[k9] at e;subst e;exact⟨λ_=>rfl,λv z=>by cases z⟩
 | (k,v)::vs,xs,e=>by
  rw[k9] at e;obtain⟨y,r,rfl,q1,q2⟩:=e;rw[lookup_cons,lookup_cons];cases hb:x==k with
  | true=>exact⟨λz=>(by cases z),λw z=>by cases z;exact⟨y,rfl,q1⟩⟩
  | false=>exact k9.look q2
theorem k9.length:∀{vs:List (Str×Val)} {xs:List (Str×V)},k9 K ρ H vs xs->vs.length=xs.length
 | [],xs,e=>by rw[k9] at e;subst e;rfl
 | (k,v)::vs,xs,e=>by rw[k9] at e;obtain⟨y,r,rfl,_,q⟩:=e;simp[k9.length q]
theorem k9.put(hw:VR K ρ H w y):∀{vs:List (Str×Val)} {xs:List (Str×V)},k9 K ρ H vs xs->k9 K ρ H (o5 x w vs) (iG x y xs)
 | [],xs,e=>by rw[k9] at e;subst e;exact⟨y,[],rfl,hw,rfl⟩
 | (k,v)::vs,xs,e=>by
  rw[k9] at e;obtain⟨z,r,rfl,q1,q2⟩:=e;rw[o5,iG]
  by_cases hk:k=x
  ·rw[if_pos hk,if_pos hk];exact⟨y,r,rfl,hw,q2⟩
  ·rw[if_neg hk,if_neg hk];exact⟨z,_,rfl,q1,k9.put hw q2⟩
theorem VR.up(g:Gr ρ H ρ' H')(v:Val)(x:V)(e:VR K ρ H v x):VR K ρ' H' v x:=VR.jZ g.w v x e
theorem av.up(g:Gr ρ H ρ' H')(v:List Val)(x:List V)(e:av K ρ H v x):av K ρ' H' v x:=av.jZ g.w v x e
theorem fN.up(g:Gr ρ H ρ' H')(v:List (Key×Val))(x:List (Key×V))(e:fN K ρ H v x):fN K ρ' H' v x:=fN.jZ g.w v x e
theorem k9.up(g:Gr ρ H ρ' H')(v:List (Str×Val))(x:List (Str×V))(e:k9 K ρ H v x):k9 K ρ' H' v x:=k9.jZ g.w v x e
theorem av.nil:av K ρ H [] []:=by rw[av]
theorem av.cons{v:Val}{vs:List Val}{x:V}{xs:List V}(a:VR K ρ H v x)(b:av K ρ H vs xs):av K ρ H (v::vs) (x::xs):=by rw[av];exact⟨x,xs,rfl,a,b⟩
theorem av.length:∀{vs:List Val} {xs:List V},av K ρ H vs xs->vs.length=xs.length
 | [],xs,e=>by rw[av] at e;subst e;rfl
 | v::vs,xs,e=>by rw[av] at e;obtain⟨x,r,rfl,_,q⟩:=e;simp[av.length q]
theorem av.get:∀{vs:List Val} {xs:List V} {i:Nat} {v:Val},av K ρ H vs xs->vs[i]?=some v->∃x,xs[i]?=some x/\VR K ρ H v x
 | [],xs,i,v,e,q=>by simp at q
 | w::vs,xs,0,v,e,q=>by
  rw[av] at e;obtain⟨x,r,rfl,a,_⟩:=e;simp at q;subst q;exact⟨x,rfl,a⟩
 | w::vs,xs,i+1,v,e,q=>by
  rw[av] at e;obtain⟨x,r,rfl,_,b⟩:=e;simp at q;obtain⟨y,q1,q2⟩:=av.get b q;exact⟨y,by simpa using q1,q2⟩
theorem av.append:∀{vs ws:List Val} {xs ys:List V},av K ρ H vs xs->av K ρ H ws ys->av K ρ H (vs++ws) (xs++ys)
 | [],ws,xs,ys,e,q=>by rw[av] at e;subst e;exact q
 | w::vs,ws,xs,ys,e,q=>by
  rw[av] at e;obtain⟨x,r,rfl,a,b⟩:=e;exact av.cons a (av.append b q)
theorem av.take:∀{vs:List Val} {xs:List V} (n:Nat),av K ρ H vs xs->av K ρ H (vs.take n) (xs.take n)
 | _,_,0,_=>by simp;exact av.nil
 | [],xs,n+1,e=>by rw[av] at e;subst e;simp;exact av.nil
 | w::vs,xs,n+1,e=>by
  rw[av] at e;obtain⟨x,r,rfl,a,b⟩:=e;exact av.cons a (av.take n b)
theorem av.drop:∀{vs:List Val} {xs:List V} (n:Nat),av K ρ H vs xs->av K ρ H (vs.drop n) (xs.drop n)
 | _,_,0,e=>by simpa using e
 | [],xs,n+1,e=>by rw[av] at e;subst e;simp;exact av.nil
 | w::vs,xs,n+1,e=>by
  rw[av] at e;obtain⟨x,r,rfl,a,b⟩:=e;exact av.drop n b
theorem av.cut(lo hi:Option Int)(e:av K ρ H vs xs):av K ρ H (cY vs lo hi) (t8 xs lo hi):=by
 unfold cY t8;rw[e.length];exact av.take _ (av.drop _ e)
theorem av.app:∀{vs ws:List Val} {xs ys:List V},av K ρ H vs xs->av K ρ H ws ys->av K ρ H (vs++ws) (xs++ys)
 | [],_,xs,_,e,q=>by rw[av] at e;subst e;exact q
 | v::vs,_,xs,_,e,q=>by
  rw[av] at e;obtain⟨x,r,rfl,a,b⟩:=e;rw[cons_append,cons_append,av];exact⟨x,_,rfl,a,av.app b q⟩
theorem av.rev:∀{vs:List Val} {xs:List V},av K ρ H vs xs->av K ρ H vs.reverse xs.reverse
 | [],xs,e=>by rw[av] at e;subst e;rw[List.reverse_nil,List.reverse_nil,av]
 | v::vs,xs,e=>by
  rw[av] at e;obtain⟨x,r,rfl,a,b⟩:=e;rw[reverse_cons,reverse_cons];refine av.app (av.rev b) ?_;rw[av];exact⟨x,[],rfl,a,by rw[av]⟩
theorem av.jd{i:Int}(e:av K ρ H vs xs)(q:L2.jd vs i=some v):∃x,L2.jd xs i=some x/\VR K ρ H v x:=by
 unfold L2.jd at q |-;rw[e.length] at q;cases hi:L2.zw xs.length i with
 | none=>rw[hi] at q;cases q
 | some n=>rw[hi] at q;exact av.get e q
theorem av.set:∀{vs:List Val} {xs:List V} (n:Nat) {v:Val} {x:V},av K ρ H vs xs->VR K ρ H v x->av K ρ H (vs.set n v) (xs.set n x)
 | [],xs,n,v,x,e,q=>by rw[av] at e;subst e;simp;exact av.nil
 | w::vs,xs,0,v,x,e,q=>by
  rw[av] at e;obtain⟨y,r,rfl,a,b⟩:=e;exact av.cons q b
 | w::vs,xs,n+1,v,x,e,q=>by
  rw[av] at e;obtain⟨y,r,rfl,a,b⟩:=e;exact av.cons a (av.set n b q)
theorem av.one(e:av K ρ H [v] xs):∃x,xs=[x]/\VR K ρ H v x:=by
 rw[av] at e;obtain⟨x,r,rfl,a,b⟩:=e;rw[av] at b;subst b;exact⟨x,rfl,a⟩
theorem av.two(e:av K ρ H [v,w] xs):∃x y,xs=[x,y]/\VR K ρ H v x/\VR K ρ H w y:=by
 rw[av] at e;obtain⟨x,r,rfl,a,b⟩:=e;obtain⟨y,rfl,c⟩:=av.one b;exact⟨x,y,rfl,a,c⟩
theorem VR.int{i:Int}:VR K ρ H (.int i) (.int i):=by rw[VR]
theorem VR.str:VR K ρ H (.str i) (.str i):=by rw[VR]
theorem VR.bl{i:Bool}:VR K ρ H (.bl i) (.bl i):=by rw[VR]
theorem VR.non:VR K ρ H .non .non:=by rw[VR]
theorem VR.tup{a:Addr}{vs:List Val}{xs:List V}(q:iS K H a xs)(e:av K ρ H vs xs):VR K ρ H (.tup vs) (.ref a):=by rw[VR];exact⟨a,xs,rfl,q,e⟩
theorem VR.ref{i:Nat}(q:ρ[i]?=some a):VR K ρ H (.ref i) (.ref a):=by rw[VR];exact⟨a,rfl,q⟩
theorem av.ints:∀{ns:List Int} {xs:List V},av K ρ H (ns.map Val.int) xs↔xs=ns.map V.int
 | [],xs=>by simp[av]
 | n::ns,xs=>by
  simp only[map_cons];rw[av];constructor
  ·rintro⟨x,r,rfl,a,b⟩;rw[VR] at a;subst a;rw[(av.ints (ns:=ns)).mp b]
  ·rintro rfl;exact⟨_,_,rfl,VR.int,(av.ints (ns:=ns)).mpr rfl⟩
theorem av.tups:∀{nQ:List (List Int)} {xs:List V},av K ρ H (nQ.map kZ) xs->∃rs:List (Addr×List Int),xs=rs.map (λr=>V.ref r.1)/\nQ=rs.map (·.2)/\∀r∈rs,iS K H r.1 (r.2.map V.int)
 | [],xs,e=>by simp only[map_nil] at e;rw[av] at e;exact⟨[],e,rfl,λ_ z=>nomatch z⟩
 | ks::nQ,xs,e=>by
  simp only[map_cons] at e;rw[av] at e;obtain⟨x,r,rfl,a,b⟩:=e;obtain⟨rs,e1,e2,e3⟩:=av.tups b;unfold kZ at a;rw[VR] at a;obtain⟨p,ys,rfl,g1,g2⟩:=a;rw[av.ints.mp g2] at g1;refine⟨(p,ks)::rs,by rw[e1];rfl,by rw[e2];rfl,λr hr=>?_⟩
  rcases mem_cons.mp hr with z|z
  ·rw[z];exact g1
  ·exact e3 r z
theorem av.xY:∀{rs:List (Addr×List Int)},(∀r∈rs,iS K H r.1 (r.2.map V.int))->av K ρ H ((rs.map (·.2)).map kZ) (rs.map λr=>V.ref r.1)
 | [],_=>av.nil
 | r::rs,e=>av.cons (VR.tup (e r mem_cons_self) (av.ints.mpr rfl)) (av.xY λq hq=>e q (mem_cons_of_mem _ hq))
theorem OR.mu(q:OR B ρ H a o):∃u,H a=some u/\Mu u=true:=by
 cases o with
 | lst xs=>obtain⟨ys,e,_⟩:=q;exact⟨_,e,rfl⟩
 | dct xs=>obtain⟨ys,e,_⟩:=q;exact⟨_,e,rfl⟩
 | ins c fs=>obtain⟨dx,ys,e,_⟩:=q;exact⟨_,e,rfl⟩
theorem HR.mu(r:HR B ρ h H)(e:a ∈ ρ):∃u,H a=some u/\Mu u=true:=by
 obtain⟨i,hi,rfl⟩:=getElem_of_mem e;have hi':i<h.length:=by rw[<-r.len];exact hi
 exact(r.ob i _ _ (List.getElem?_eq_getElem hi') (List.getElem?_eq_getElem hi)).mu
theorem HR.out(r:HR B ρ h H)(e:H p=none):p ∉ ρ:=λz=>by
 obtain⟨u,q,_⟩:=r.mu z;rw[e] at q;cases q
theorem OR.jZ(g:Gw ρ H ρ' H')(e:H' a=H a)(q:OR B ρ H a o):OR B ρ' H' a o:=by
 cases o with
 | lst xs=>obtain⟨ys,e1,e2⟩:=q;exact⟨ys,e.trans e1,av.jZ g _ _ e2⟩
 | dct xs=>obtain⟨ys,e1,e2⟩:=q;exact⟨ys,e.trans e1,fN.jZ g _ _ e2⟩
 | ins c fs=>obtain⟨dx,ys,e1,e2⟩:=q;exact⟨dx,ys,e.trans e1,k9.jZ g _ _ e2⟩
theorem OR.up(g:Gr ρ H ρ' H')(e:H' a=H a)(q:OR B ρ H a o):OR B ρ' H' a o:=OR.jZ g.w e q
theorem Gr.side(e:H p=none):Gr ρ H ρ (upd H p o) where
 pre:=prefix_refl _
 keep a u q _:=by rw[az (aE q e)];exact q
 firm a u q _:=by rw[az (aE q e)];exact q
 fresh a z n:=absurd z n
theorem HR.side(r:HR B ρ h H)(e:H p=none):HR B ρ h (upd H p o) where
 len:=r.len
 nd:=r.nd
 ob i u a q1 q2:=by refine OR.up (Gr.side e) ?_ (r.ob i u a q1 q2);refine az λz=>?_;subst z;exact r.out e (mem_of_getElem? q2)
theorem Gw.other(e:H p=some u)(hm:Mu u=true):Gw ρ H ρ (upd H p o) where
 pre:=prefix_refl _
 firm a w q n:=by
  have:a≠p:=λz=>by subst z;rw[e] at q;cases q;rw[hm] at n;cases n
  rw[az this];exact q
theorem HR.other(r:HR B ρ h H)(hp:p ∉ ρ)(e:H p=some u)(hm:Mu u=true):HR B ρ h (upd H p o) where
 len:=r.len
 nd:=r.nd
 ob i w a q1 q2:=OR.jZ (Gw.other e hm) (az λz=>by subst z;exact hp (mem_of_getElem? q2)) (r.ob i w a q1 q2)
theorem Gr.new(e:H p=none):Gr ρ H (ρ ++ [p]) (upd H p o) where
 pre:=prefix_append _ _
 keep a u q _:=by rw[az (aE q e)];exact q
 firm a u q _:=by rw[az (aE q e)];exact q
 fresh a z n:=by
  rcases mem_append.mp z with z|z
  ·exact absurd z n
  ·rw[mem_singleton.mp z];exact e
theorem HR.new(r:HR B ρ h H)(e:H p=none)(q:OR B (ρ ++ [p]) (upd H p o) p u):HR B (ρ ++ [p]) (h++[u]) (upd H p o) where
 len:=by simp[r.len]
 nd:=by rw[nodup_append];refine⟨r.nd,by simp,λa ha b hb=>?_⟩;rw[mem_singleton.mp hb];rintro rfl;exact r.out e ha
 ob i v a q1 q2:=by
  by_cases hi:i<h.length
  ·rw[getElem?_append_left hi] at q1;rw[getElem?_append_left (by rw[r.len];exact hi)] at q2;refine OR.up (Gr.new e) (az λz=>?_) (r.ob i v a q1 q2);subst z;exact r.out e (mem_of_getElem? q2)
  ·rw[getElem?_append_right (by omega)] at q1
   rw[getElem?_append_right (by rw[r.len];omega)] at q2;have hi0:i-h.length=0:=by have:=(List.getElem?_eq_some_iff.mp q1).1;simp at this;omega
   rw[hi0] at q1;rw[r.len,hi0] at q2;simp at q1 q2;subst q1;subst q2;exact q
theorem xZ(r:HR B ρ h H):VR K (ρ ++ [p]) H' (.ref h.length) (.ref p):=VR.ref (by rw[<-r.len];simp)
theorem GR{α:Type}:∀{l:List α} {i j:Nat} {a:α},l.Nodup->l[i]?=some a->l[j]?=some a->i=j
 | [],i,j,a,_,e,_=>by simp at e
 | b::l,0,0,a,_,_,_=>rfl
 | b::l,0,j+1,a,n,e,f=>by
  simp at e f;subst e;exact absurd (mem_of_getElem? f) (nodup_cons.mp n).1
 | b::l,i+1,0,a,n,e,f=>by
  simp at e f;subst f;exact absurd (mem_of_getElem? e) (nodup_cons.mp n).1
 | b::l,i+1,j+1,a,n,e,f=>by
  simp at e f;rw[GR (nodup_cons.mp n).2 e f]
theorem Gr.put(hp:p ∈ ρ)(e:H p=some u)(hm:Mu u=true):Gr ρ H ρ (upd H p o) where
 pre:=prefix_refl _
 keep a w q n:=by rw[az λz=>n (by rw[z];exact hp)];exact q
 firm a w q n:=by
  have:a≠p:=λz=>by subst z;rw[e] at q;cases q;rw[hm] at n;cases n
  rw[az this];exact q
 fresh a z n:=absurd z n
theorem HR.put{i:Nat}(r:HR B ρ h H)(hi:ρ[i]?=some p)(e:h[i]?=some w)(q:OR B ρ (upd H p o) p u):HR B ρ (h.set i u) (upd H p o) where
 len:=by simp[r.len]
 nd:=r.nd
 ob j v a q1 q2:=by
  obtain⟨z,k1,k2⟩:=(r.ob i w p e hi).mu
  by_cases hj:j=i
  ·subst hj;rw[hi] at q2;cases q2;have hlt:j<h.length:=(List.getElem?_eq_some_iff.mp e).1;rw[getElem?_set_self hlt] at q1;cases q1;exact q
  ·rw[getElem?_set_ne (λz=>hj z.symm)] at q1;refine OR.up (Gr.put (mem_of_getElem? hi) k1 k2) (az λz=>?_) (r.ob j v a q1 q2);subst z;exact hj (GR r.nd q2 hi)
theorem eL(r:HR B ρ h H)(q:VR B.K ρ H v x)(e:aB h v=some xs):∃a ys,x=.ref a/\gz B.K H a ys/\av B.K ρ H xs ys:=by
 cases v with
 | rl vs =>simp only[aB] at e;cases e;rw[VR] at q;obtain⟨a,ys,rfl,k1,k2⟩:=q;exact⟨a,ys,rfl,k1.sq,k2⟩
 | ref i =>
  simp only[aB] at e;split at e
  ·rename_i zs e1;cases e;rw[VR] at q;obtain⟨a,rfl,k1⟩:=q;obtain⟨ys,k2,k3⟩:=r.ob i _ a e1 k1;exact⟨a,ys,rfl,.inl (.inl k2),k3⟩
  ·cases e
 | _=>cases e
theorem jO{i:Nat}(r:HR B ρ h H)(q:VR B.K ρ H (.ref i) x)(e:h[i]?=some (.lst xs)):∃a ys,x=.ref a /\ ρ[i]?=some a/\H a=some (.lst ys)/\av B.K ρ H xs ys:=by
 rw[VR] at q;obtain⟨a,rfl,k1⟩:=q;obtain⟨ys,k2,k3⟩:=r.ob i _ a e k1;exact⟨a,ys,rfl,k1,k2,k3⟩
theorem wO(r:HR B ρ h H)(q:VR B.K ρ H v x)(e:cV h v=some xs):∃a ys,x=.ref a/\(gz B.K H a ys\/iS B.K H a ys)/\av B.K ρ H xs ys:=by
 cases v with
 | tup vs =>simp only[cV] at e;cases e;rw[VR] at q;obtain⟨a,ys,rfl,k1,k2⟩:=q;exact⟨a,ys,rfl,.inr k1,k2⟩
 | rl vs=>obtain⟨a,ys,e1,k1,k2⟩:=eL r q (show aB h (.rl vs)=some xs from e);exact⟨a,ys,e1,.inl k1,k2⟩
 | ref vs=>obtain⟨a,ys,e1,k1,k2⟩:=eL r q (show aB h (.ref vs)=some xs from e);exact⟨a,ys,e1,.inl k1,k2⟩
 | _=>cases e
theorem mj(r:HR B ρ h H):∀(n:Nat) (v:Val) (x:V) (d:PyData),VR B.K ρ H v x->toD n h v=some d->Den B.K H d x/\d.canLay0=true/\d.depth<=n:=by
 intro n
 induction n with
 | zero=>intro v x d _ e;simp only[toD] at e;cases e
 | succ n ih =>
  have all:∀(vs:List Val) (xs:List V) (ds:List PyData),av B.K ρ H vs xs->cj (toD n h) vs=some ds->dJ B.K H ds xs/\PyData.canLayAll0 ds=true/\PyData.depthAll ds<=n:=by
   intro vs
   induction vs with
   | nil=>intro xs ds q e;simp only[cj] at e;cases e;rw[av] at q;subst q;exact⟨dJ.nil,rfl,by simp[PyData.depthAll]⟩
   | cons v vs VT =>intro xs ds q e;simp only[cj] at e;obtain⟨d,e1,e⟩:=bind_eq_some_iff.mp e;obtain⟨ds',e2,e⟩:=bind_eq_some_iff.mp e;cases e;rw[av] at q;obtain⟨x,r,rfl,q1,q2⟩:=q;obtain⟨a1,a2,a3⟩:=ih v x d q1 e1;obtain⟨b1,b2,b3⟩:=VT r ds' q2 e2;refine⟨dJ.cons a1 b1,by simp[PyData.canLayAll0,a2,b2],?_⟩;simp only[PyData.depthAll];omega
  intro v x d q e;cases v with
  | non=>simp only[toD] at e;cases e;rw[VR] at q;subst q;exact⟨Den.none,rfl,by simp[PyData.depth]⟩
  | bl b=>simp only[toD] at e;cases e;rw[VR] at q;subst q;exact⟨Den.bool,rfl,by simp[PyData.depth]⟩
  | int b=>simp only[toD] at e;cases e;rw[VR] at q;subst q;exact⟨Den.int,rfl,by simp[PyData.depth]⟩
  | str b =>
   simp only[toD] at e;split at e
   ·rename_i hs;cases e;rw[VR] at q;subst q;exact⟨Den.str,by simp[PyData.canLay0,hs],by simp[PyData.depth]⟩
   ·cases e
  | tup vs =>simp only[toD] at e;obtain⟨ds,e1,e⟩:=bind_eq_some_iff.mp e;cases e;rw[VR] at q;obtain⟨a,xs,rfl,q1,q2⟩:=q;obtain⟨b1,b2,b3⟩:=all vs xs ds q2 e1;exact⟨Den.tuple q1 b1,by simp[PyData.canLay0,b2],by simp only[PyData.depth];omega⟩
  | rl vs =>simp only[toD] at e;obtain⟨ds,e1,e⟩:=bind_eq_some_iff.mp e;cases e;rw[VR] at q;obtain⟨a,xs,rfl,q1,q2⟩:=q;obtain⟨b1,b2,b3⟩:=all vs xs ds q2 e1;exact⟨Den.list q1.sq b1,by simp[PyData.canLay0,b2],by simp only[PyData.depth];omega⟩
  | dc _ _=>rw[VR] at q;exact q.elim
  | ob _ _ _=>rw[VR] at q;exact q.elim
  | ref i =>simp only[toD] at e;obtain⟨vs,e0,e⟩:=bind_eq_some_iff.mp e;obtain⟨ds,e1,e⟩:=bind_eq_some_iff.mp e;cases e;obtain⟨a,xs,rfl,q1,q2⟩:=eL r q e0;obtain⟨b1,b2,b3⟩:=all vs xs ds q2 e1;exact⟨Den.list q1 b1,by simp[PyData.canLay0,b2],by simp only[PyData.depth];omega⟩
end
end Hv
end
section
namespace Hv
open PySem L2 PyProof.Rows
theorem mq(x:List Int):∀l,(sI x l).Perm (x::l)
 | []=>.refl _
 | y::r=>by
  unfold sI;split
  ·exact((mq x r).cons y).trans (.swap _ _ _)
  ·exact .refl _
theorem o6:∀l,(kY l).Perm l
 | []=>.refl _
 | x::r=>(mq x _).trans ((o6 r).cons x)
theorem uC{a b c:List Int}(h1:HT.lexLt b a=false)(h2:HT.lexLt c b=false):HT.lexLt c a=false:=by
 cases e:HT.lexLt c a with
 | false=>rfl
 | true =>
  rcases nP.qP c b a e with z|z
  ·rw[h2] at z;cases z
  ·rw[h1] at z;cases z
theorem uD{a b:List Int}(h:HT.lexLt a b=true):HT.lexLt b a=false:=by
 cases e:HT.lexLt b a with
 | false=>rfl
 | true=>have:=nP.gB _ _ _ h e;rw[nP.iJ] at this;cases this
theorem x6(x:List Int):∀l:List (List Int),l.Pairwise (λa b=>HT.lexLt b a=false)->(sI x l).Pairwise (λa b=>HT.lexLt b a=false)
 | [],_=>by simp[sI]
 | y::r,h=>by
  obtain⟨h1,h2⟩:=pairwise_cons.mp h;unfold sI
  split
  ·rename_i hlt
   refine pairwise_cons.mpr ⟨λz hz=>?_,x6 x r h2⟩
   rcases mem_cons.mp ((mq x r).mem_iff.mp hz) with rfl|hz
   ·exact uD hlt
   ·exact h1 z hz
  ·rename_i hlt
   refine pairwise_cons.mpr ⟨λz hz=>?_,h⟩;have hxy:HT.lexLt y x=false:=by simpa using hlt
   rcases mem_cons.mp hz with rfl|hz
   ·exact hxy
   ·exact uC hxy (h1 z hz)
theorem uE:∀l,(kY l).Pairwise (λa b=>HT.lexLt b a=false)
 | []=>.nil
 | x::r=>x6 x _ (uE r)
theorem BC(hp:l.Perm nQ)(hs:l.Pairwise (λa b=>HT.lexLt b a=false)):l=kY nQ :=
 List.Perm.eq_of_pairwise (λa b _ _ h1 h2=>nP.gA a b h2 h1) hs (uE nQ) (hp.trans (o6 nQ).symm)
theorem zS{ns:List Int}{m:Int}(h:m∈ns)(h2:∀a∈ns,m<=a):sJ ns=some (.int m):=by
 cases ns with
 | nil=>cases h
 | cons a r =>
  have key:∀(r:List Int) (a:Int),(r.foldl min a)∈a::r/\∀b∈a::r,r.foldl min a<=b:=by
   intro r
   induction r with
   | nil=>intro a;simp
   | cons c r ih =>
    intro a;obtain⟨q1,q2⟩:=ih (min a c);refine⟨?_,λb hb=>?_⟩
    ·show List.foldl min (min a c) r∈_
     rcases mem_cons.mp q1 with z|z
     ·rw[z]
      rcases Int.le_total a c with hc|hc
      ·rw[Int.min_eq_left hc];exact mem_cons_self
      ·rw[Int.min_eq_right hc];exact mem_cons_of_mem _ mem_cons_self
     ·exact mem_cons_of_mem _ (mem_cons_of_mem _ z)
    ·show List.foldl min (min a c) r<=b
     have q3:=q2 (min a c) mem_cons_self
     rcases mem_cons.mp hb with z|z
     ·subst z;omega
     ·rcases mem_cons.mp z with z|z
      ·subst z;omega
      ·exact q2 b (mem_cons_of_mem _ z)
  obtain⟨q1,q2⟩:=key r a;show some (Val.int (r.foldl min a))=_;rw[Int.le_antisymm (q2 m h) (h2 _ q1)]
theorem zT{ns:List Int}{m:Int}(h:m∈ns)(h2:∀a∈ns,a<=m):sL ns=some (.int m):=by
 cases ns with
 | nil=>cases h
 | cons a r =>
  have key:∀(r:List Int) (a:Int),(r.foldl max a)∈a::r/\∀b∈a::r,b<=r.foldl max a:=by
   intro r
   induction r with
   | nil=>intro a;simp
   | cons c r ih =>
    intro a;obtain⟨q1,q2⟩:=ih (max a c);refine⟨?_,λb hb=>?_⟩
    ·show List.foldl max (max a c) r∈_
     rcases mem_cons.mp q1 with z|z
     ·rw[z]
      rcases Int.le_total a c with hc|hc
      ·rw[Int.max_eq_right hc];exact mem_cons_of_mem _ mem_cons_self
      ·rw[Int.max_eq_left hc];exact mem_cons_self
     ·exact mem_cons_of_mem _ (mem_cons_of_mem _ z)
    ·show b<=List.foldl max (max a c) r
     have q3:=q2 (max a c) mem_cons_self
     rcases mem_cons.mp hb with z|z
     ·subst z;omega
     ·rcases mem_cons.mp z with z|z
      ·subst z;omega
      ·exact q2 b (mem_cons_of_mem _ z)
  obtain⟨q1,q2⟩:=key r a;show some (Val.int (r.foldl max a))=_;rw[Int.le_antisymm (h2 _ q1) (q2 m h)]
noncomputable def Post(B:Bd)(EX:Nat->List V->Hp->Prop)(ρ:List Addr)(H:Hp){α:Type}(W:α -> Hs->List Addr->Hp->Prop):Out α -> Prop
 | .ok a h'=>∀ρ' H',Gr ρ H ρ' H'->HR B ρ' h' H'->W a h' ρ' H'
 | .exc c vs h'=>∀ρ' H' xs,Gr ρ H ρ' H'->HR B ρ' h' H'->av B.K ρ' H' vs xs->EX c xs H'
 | .no=>False
noncomputable def WV(K:PySem.W.Frag)(Q:VK):Val->Hs->List Addr->Hp->Prop:=λv _ ρ' H'=>∀x,VR K ρ' H' v x->Q x H'
section
variable {B:Bd} {EX:Nat->List V->Hp->Prop} {ρ ρ':List Addr} {H H':Hp} {α β:Type} {W:β -> Hs->List Addr->Hp->Prop} {h h':Hs} {Q:VK}
theorem Post.up(g:Gr ρ H ρ' H')(p:Post B EX ρ H W o):Post B EX ρ' H' W o:=by
 cases o with
 | ok a h'=>exact λρ2 H2 g2 r=>p ρ2 H2 (g.trans g2) r
 | exc c vs h'=>exact λρ2 H2 xs g2 r=>p ρ2 H2 xs (g.trans g2) r
 | no=>exact p
theorem aN{c:Bool}(p:Post B EX ρ H W (aD c m h)):c=true/\Post B EX ρ H W (m h):=by
 unfold aD at p;split at p
 ·rename_i e;exact⟨e,p⟩
 ·exact p.elim
theorem aA(p:Post B EX ρ H W (bnd (ask f) g h)):∃a,f h=some a/\Post B EX ρ H W (g a h):=by
 unfold bnd ask bg at p;cases e:f h with
 | none=>rw[e] at p;exact p.elim
 | some a=>rw[e] at p;exact⟨a,rfl,p⟩
theorem cR(r:HR B ρ h H)(p:Post B EX ρ H W (ask f h)):∃a,f h=some a/\W a h ρ H:=by
 unfold ask bg at p;cases e:f h with
 | none=>rw[e] at p;exact p.elim
 | some a=>rw[e] at p;exact⟨a,rfl,p ρ H Gr.refl r⟩
theorem cJ(p:Post B EX ρ H W (bnd (bg o) g h)):∃a,o=some a/\Post B EX ρ H W (g a h):=by
 unfold bnd bg at p;cases e:o with
 | none=>rw[e] at p;exact p.elim
 | some a=>rw[e] at p;exact⟨a,rfl,p⟩
theorem cD(r:HR B ρ h H)(p:Post B EX ρ H W (bg o h)):∃a,o=some a/\W a h ρ H:=by
 unfold bg at p;cases e:o with
 | none=>rw[e] at p;exact p.elim
 | some a=>rw[e] at p;exact⟨a,rfl,p ρ H Gr.refl r⟩
theorem ai(r:HR B ρ h H)(p:Post B EX ρ H W (ret a h)):W a h ρ H:=p ρ H Gr.refl r
theorem uF(r:HR B ρ h H)(hp:H p=none)(q:OR B (ρ ++ [p]) (upd H p O) p o)(w:Post B EX ρ H (WV B.K Q) (new o h)):Q (.ref p) (upd H p O) :=
 w (ρ ++ [p]) (upd H p O) (Gr.new hp) (r.new hp q) _ (xZ r)
theorem cE(r:HR B ρ h H)(hp:H p=none)(q:av B.K ρ H xs ys)(w:Post B EX ρ H (WV B.K Q) (new (.lst xs) h)):Q (.ref p) (upd H p (.lst ys)) :=
 uF (o:=.lst xs) (O:=.lst ys) r hp ⟨ys,aR,av.up (Gr.new hp) _ _ q⟩ w
theorem o7(r:HR B ρ h H)(hp:H p=none)(q:av B.K ρ H xs ys)(w:Post B EX ρ H (WV B.K Q) (ret (Val.tup xs) h)):Q (.ref p) (upd H p (.tup ys)) :=
 w ρ (upd H p (.tup ys)) (Gr.side hp) (r.side hp) _ (VR.tup (iS.of aR) (av.up (Gr.side hp) _ _ q))
theorem aq(p:Post B EX ρ H W (bnd m f h))(k:∀v h1 ρ1 x H1,Gr ρ H ρ1 H1->HR B ρ1 h1 H1->VR B.K ρ1 H1 v x->Post B EX ρ1 H1 W (f v h1)->Q x H1):Post B EX ρ H (WV B.K Q) (m h):=by
 unfold bnd at p;cases e:m h with
 | ok v h1=>rw[e] at p;exact λρ1 H1 g r x q=>k v h1 ρ1 x H1 g r q (Post.up g p)
 | exc c vs h1=>rw[e] at p;exact p
 | no=>rw[e] at p;exact p
theorem aY(p:Post B EX ρ H W (bnd m f h))(k:∀v h1 ρ1 H1,Gr ρ H ρ1 H1->HR B ρ1 h1 H1->Post B EX ρ1 H1 W (f v h1)->W' v h1 ρ1 H1):Post B EX ρ H W' (m h):=by
 unfold bnd at p;cases e:m h with
 | ok v h1=>rw[e] at p;exact λρ1 H1 g r=>k v h1 ρ1 H1 g r (Post.up g p)
 | exc c vs h1=>rw[e] at p;exact p
 | no=>rw[e] at p;exact p
end
theorem fT:∀{ds:List Val} {ns:List Int},aS ds=some ns->ds=ns.map .int
 | [],ns,e=>by simp only[aS,cj] at e;cases e;rfl
 | v::r,ns,e=>by
  simp only[aS,cj] at e;obtain⟨i,e1,e⟩:=bind_eq_some_iff.mp e;obtain⟨is,e2,e⟩:=bind_eq_some_iff.mp e;cases e;cases v<;>first|cases e1|skip
  rw[fT (show aS r=some is from e2)];rfl
theorem rq:∀{ds:List Val} {nQ:List (List Int)},kg ds=some nQ->ds=nQ.map kZ/\∀ks∈nQ,ks≠[]
 | [],ns,e=>by simp only[kg,cj] at e;cases e;exact⟨rfl,λ_ z=>nomatch z⟩
 | v::r,ns,e=>by
  simp only[kg,cj] at e;obtain⟨i,e1,e⟩:=bind_eq_some_iff.mp e;obtain⟨is,e2,e⟩:=bind_eq_some_iff.mp e;cases e;cases v<;>first|cases e1|skip
  rename_i vs;dsimp only at e1;split at e1
  ·cases e1
  ·rename_i hne
   obtain⟨q1,q2⟩:=rq (show kg r=some is from e2);have e3:=fT e1;subst e3;refine⟨by rw[q1];rfl,λks hk=>?_⟩
   rcases mem_cons.mp hk with z|z
   ·subst z;intro z;subst z;exact hne rfl
   ·exact q2 ks z
section
variable {X:Cx} {cl:Nat->Addr} {EX:Nat->List V->Hp->Prop}
noncomputable abbrev bd(X:Cx)(cl:Nat->Addr):Bd:=⟨X.K,cl⟩
theorem EE:kN X (binaryOp .Add) (λx y H Q=>∃a b xs ys,x=.ref a/\y=.ref b/\gz X.K H a xs/\gz X.K H b ys/\xs.length+ys.length<=sizeLine/\∀p,H p=none->Q (.ref p) (upd H p (.lst (xs++ys)))):=by
 intro pins s σ H x y v u Q I rx ry h;obtain⟨l,l',xs,ys,rfl,rfl,q1,q3,hl,q⟩:=h;cases rx;cases ry;obtain⟨its,r1,VU,z1⟩:=I.list q1;obtain⟨its',r2,VW,z2⟩:=I.list q3;have l1:=r1.length;have l2:=r2.length;obtain⟨⟨oc,od,VH,osl⟩,n1,e1,e2,_,e4⟩:=VU;obtain⟨⟨YZ,od',VX,QM⟩,n2,f1,f2,_,f4⟩:=VW;cases e2;cases e4;cases f2;cases f4;refine concat_meets ⟨_,e1,rfl⟩ ⟨_,f1,rfl⟩ noFill_list_add seq_list_add PySem.F.slot_list_add PySem.F.entry_list_add (PySem.F.args_list_add_2 _ _) (list_addW l l' its.toArray its'.toArray n1 n2 od od' osl QM (by simp only[size_toArray];omega)) ⟨e1,f1,?_⟩;have ea:its.toArray++its'.toArray=(its++its').toArray:=by simp
 rw[ea];have hn:H s.heap.objs.size=none:=I.hok.fresh (le_refl _);exact⟨.ref s.heap.objs.size,_,I.Qp (t':=s.toks) (its:=its++its') (r1.append r2) (by rw[length_append];omega),rfl,q _ hn⟩
noncomputable def BD:GN->Operator
 | .add=>.Add|.sub=>.Sub|.mul=>.Mult|.fdiv=>.FloorDiv|.mod=>.Mod|.pow=>.Pow
noncomputable def x8:Jx->CmpOp
 | .eq=>.Eq|.ne=>.NotEq|.lt=>.Lt|.le=>.LtE|.gt=>.Gt|.ge=>.GtE|.isn=>.Is|.ntn=>.IsNot|.BA=>.In|.nin=>.NotIn
noncomputable def rB(B:Bd)(EX:Nat->List V->Hp->Prop)(o:GN):R2:=λx y H Q=>∃ρ h v w,HR B ρ h H/\VR B.K ρ H v x/\VR B.K ρ H w y/\Post B EX ρ H (WV B.K Q) (LH o v w h)
theorem jh.log{j:Int}(h:jh j=true):0<j/\j.natAbs.log2<9000:=by
 have h:=of_decide_eq_true h;refine⟨h.1,(Nat.log2_lt (by omega)).mpr ?_⟩;have e:j.natAbs<2 ^ 200:=by
  have:(2:Nat) ^ 200=1606938044258990275541962092341162602522202993782792835301376:=by decide
  omega
 exact lt_of_lt_of_le e (Nat.pow_le_pow_right (by decide) (by decide))
theorem BE:kN X (binaryOp .FloorDiv) (rI (λ_ j=>jh j=true) λi j=>.int (i/j)):=Pc λi j _ _ _ _ _ hc q=>by
 obtain⟨h1,h2⟩:=jh.log hc;exact PyProof.Rows.floordiv_int (by omega) (by rw[Int.fdiv_eq_ediv_of_nonneg i (by omega)];exact q) (.inl (PyProof.noPylong_of_log2 h2))
theorem o8(ho:o≠.add)(v w:Val)(h:Hs):(∃i j,v=.int i/\w=.int j)\/LH o v w h=.no:=by
 cases v with
 | int i =>
  cases w with
  | int j=>exact .inl ⟨i,j,rfl,rfl⟩
  | _=>right;cases o<;>first|rfl|exact absurd rfl ho
 | _=>right;cases o<;>first|rfl|exact absurd rfl ho
theorem JA(o:GN):kN X (binaryOp (BD o)) (rB (bd X cl) EX o):=by
 intro pins s σ H x y v' u' Q I rx ry hh;obtain⟨ρ,h,v,w,r,hv,hw,p⟩:=hh;have lists:Post (bd X cl) EX ρ H (WV X.K Q) (bnd (ask λh=>aB h v) (λa=>bnd (ask λh=>aB h w) λb=>aD (decide (a.length+b.length<=sizeLine)) (new (.lst (a++b)))) h)->wpAny (model X.prog X.w) X.A (binaryOp .Add v' u') (EP X pins σ Q) X.xe s:=by intro p;obtain⟨a,e1,p⟩:=aA p;obtain⟨b,e2,p⟩:=aA p;obtain⟨e3,p⟩:=aN p;have e3:=of_decide_eq_true e3;obtain⟨a1,M5,rfl,k1,k2⟩:=eL r hv e1;obtain⟨a2,QN,rfl,k3,k4⟩:=eL r hw e2;exact EE pins s σ H _ _ v' u' Q I rx ry ⟨a1,a2,M5,QN,rfl,rfl,k1,k3,by rw[<-k2.length,<-k4.length];exact e3,λq hq=>cE r hq (av.append k2 k4) p⟩
 cases o with
 | add =>
  cases v<;>cases w<;>first
   | exact lists p
   | skip
  ·rename_i a b;rw[VR] at hv hw;subst hv;subst hw;exact IJ pins s σ H _ _ _ _ Q I rx ry ⟨a,b,rfl,rfl,ai r p _ VR.int⟩
  ·rename_i a b;rw[VR] at hv hw;subst hv;subst hw;obtain⟨e,p⟩:=aN p;exact vX pins s σ H _ _ _ _ Q I rx ry ⟨a,b,rfl,rfl,of_decide_eq_true e,ai r p _ VR.str⟩
  ·rename_i a b
   rw[VR] at hv hw;obtain⟨a1,M5,rfl,k1,k2⟩:=hv;obtain⟨a2,QN,rfl,k3,k4⟩:=hw;obtain⟨e,p⟩:=aN p;simp only[and_eq_true,not_eq_true',decide_eq_true_eq] at e;refine Ec pins s σ H _ _ _ _ Q I rx ry ⟨a1,a2,M5,QN,rfl,rfl,k1,k3,?_,by rw[<-k2.length,<-k4.length];exact e.2,λz=>?_,λ_ q hq=>o7 r hq (av.append k2 k4) p⟩
   ·intro z;subst z
    have:=k2.length;cases a with
    | nil=>simp at e
    | cons _ _=>simp at this
   ·subst z
    have hb:b=[]:=by cases b with|nil=>rfl|cons _ _=>have:=k4.length;simp at this
    subst hb;rw[append_nil] at p;exact ai r p _ (VR.tup k1 k2)
 | sub =>
  rcases o8 (o:=.sub) (by intro z;cases z) v w h with ⟨i,j,rfl,rfl⟩|z
  case inr=>rw[z] at p;exact p.elim
  rw[VR] at hv hw;subst hv;subst hw;exact IK pins s σ H _ _ _ _ Q I rx ry ⟨_,_,rfl,rfl,ai r p _ VR.int⟩
 | mul =>
  rcases o8 (o:=.mul) (by intro z;cases z) v w h with ⟨i,j,rfl,rfl⟩|z
  case inr=>rw[z] at p;exact p.elim
  rw[VR] at hv hw;subst hv;subst hw;obtain⟨hm,p⟩:=aN p;refine IL pins s σ H _ _ _ _ Q I rx ry ⟨_,_,rfl,rfl,?_,ai r p _ VR.int⟩;unfold kh at hm;simp only[or_eq_true,and_eq_true,decide_eq_true_eq] at hm;exact hm
 | fdiv =>
  rcases o8 (o:=.fdiv) (by intro z;cases z) v w h with ⟨i,j,rfl,rfl⟩|z
  case inr=>rw[z] at p;exact p.elim
  rw[VR] at hv hw;subst hv;subst hw;obtain⟨hm,p⟩:=aN p;exact BE pins s σ H _ _ _ _ Q I rx ry ⟨_,_,rfl,rfl,hm,ai r p _ VR.int⟩
 | mod =>
  rcases o8 (o:=.mod) (by intro z;cases z) v w h with ⟨i,j,rfl,rfl⟩|z
  case inr=>rw[z] at p;exact p.elim
  rw[VR] at hv hw;subst hv;subst hw;obtain⟨hm,p⟩:=aN p;exact IM pins s σ H _ _ _ _ Q I rx ry ⟨_,_,rfl,rfl,of_decide_eq_true hm,ai r p _ VR.int⟩
 | pow =>
  rcases o8 (o:=.pow) (by intro z;cases z) v w h with ⟨i,j,rfl,rfl⟩|z
  case inr=>rw[z] at p;exact p.elim
  rw[VR] at hv hw;subst hv;subst hw;obtain⟨hm,p⟩:=aN p;have hm:=of_decide_eq_true hm;exact IP pins s σ H _ _ _ _ Q I rx ry ⟨_,_,rfl,rfl,hm,ai r p _ VR.int⟩
end
end Hv
end
section
namespace Hv
open PySem L2 PyProof.Rows
section
variable {X:Cx} {cl:Nat->Addr} {EX:Nat->List V->Hp->Prop}
theorem uG{b:Bool}(e:Ax h v w=some b):∃d f,toD 16 h v=some d/\toD 16 h w=some f/\b=PyData.eqv d f:=by
 unfold Ax at e;obtain⟨d,e1,e⟩:=bind_eq_some_iff.mp e;obtain⟨f,e2,e⟩:=bind_eq_some_iff.mp e;exact⟨d,f,e1,e2,(Option.some.inj e).symm⟩
theorem x9{K:PySem.W.Frag}{ρ:List Addr}{H:Hp}{v:Val}{x:V}(q:VR K ρ H v x):decide (x=.non)=oZ v:=by
 cases v<;>rw[VR] at q
 ·subst q;rfl
 ·subst q;rfl
 ·subst q;rfl
 ·subst q;rfl
 ·obtain⟨a,xs,rfl,_⟩:=q;rfl
 ·obtain⟨a,xs,rfl,_⟩:=q;rfl
 ·exact q.elim
 ·exact q.elim
 ·obtain⟨a,rfl,_⟩:=q;rfl
theorem JB(hu:X.A.units+64<cLine)(neg:Bool):kN X (compareOp (if neg=true then .NotIn else .In)) (λx y H Q=>∃d f ds,Den X.K H d x/\Den X.K H f y/\d.canLay0=true/\f.canLay0=true/\d.depth<=16/\(f=.list ds\/f=.tuple ds)/\Q (.bl (if neg=true then !(ds.any λy=>PyData.eqv y d) else ds.any λy=>PyData.eqv y d)) H):=by
 intro pins s σ H x y v u Q I rx ry hh;obtain⟨d,f,ds,hd,hf,c1,c2,hz,e,q⟩:=hh;obtain⟨as,ra⟩:=Den.reads I d x v c1 hd rx;obtain⟨bs,rb⟩:=Den.reads I f y u c2 hf ry;have Pj:X.A.units+1+min (PyData.depthAll ds) d.depth<cLine:=by have:=Nat.min_le_right (PyData.depthAll ds) d.depth;omega
 rcases e with rfl|rfl
 ·have c3:PyData.canLayAll0 ds=true:=by simpa [PyData.canLay0] using c2
  cases neg with
  | true=>exact SeqAt.notIn_list_reads rb ra c3 c1 Pj ⟨.bl _,H,I,rfl,q⟩
  | false=>exact SeqAt.in_list_reads rb ra c3 c1 Pj ⟨.bl _,H,I,rfl,q⟩
 ·have c3:PyData.canLayAll0 ds=true:=by simpa [PyData.canLay0] using c2
  cases neg with
  | true=>exact SeqAt.notIn_tuple_reads rb ra c3 c1 Pj ⟨.bl _,H,I,rfl,q⟩
  | false=>exact SeqAt.in_tuple_reads rb ra c3 c1 Pj ⟨.bl _,H,I,rfl,q⟩
theorem fN.val{K:PySem.W.Frag}{ρ:List Addr}{H:Hp}(k:Key):∀{kvs:List (Key×Val)} {ks:List (Key×V)},fN K ρ H kvs ks->(bN kvs k=none->gH ks k=none)/\∀v,bN kvs k=some v->∃x,gH ks k=some x/\VR K ρ H v x
 | [],ks,e=>by
  have:ks=[]:=e;subst this;exact⟨λ_=>rfl,λv z=>by simp[bN] at z⟩
 | (k',v')::kvs,ks,⟨x,r,e,q1,q2⟩=>by
  subst e;obtain⟨a,b⟩:=fN.val k q2
  by_cases hk:k'=k
  ·subst hk;refine⟨λz=>by simp[bN] at z,λv z=>⟨x,by simp[gH],?_⟩⟩;simp[bN] at z;subst z;exact q1
  ·have e1:bN ((k',v')::kvs) k=bN kvs k:=by simp[bN,hk]
   have e2:gH ((k',x)::r) k=gH r k:=by simp[gH,hk]
   rw[e1,e2];exact⟨a,b⟩
theorem fN.length{K:PySem.W.Frag}{ρ:List Addr}{H:Hp}:∀{kvs:List (Key×Val)} {ks:List (Key×V)},fN K ρ H kvs ks->kvs.length=ks.length
 | [],ks,e=>by have:ks=[]:=e;subst this;rfl
 | (k',v')::kvs,ks,⟨x,r,e,q1,q2⟩=>by subst e;simp[fN.length q2]
theorem fN.any{K:PySem.W.Frag}{ρ:List Addr}{H:Hp}(k:Key):∀{kvs:List (Key×Val)} {ks:List (Key×V)},fN K ρ H kvs ks->(kvs.any λkv=>decide (kv.1=k))=(ks.any λkv=>decide (kv.1=k))
 | [],ks,e=>by have:ks=[]:=e;subst this;rfl
 | (k',v')::kvs,ks,⟨x,r,e,q1,q2⟩=>by subst e;simp only[any_cons];rw[fN.any k q2]
theorem fN.repl{K:PySem.W.Frag}{ρ:List Addr}{H:Hp}(k:Key){v:Val}{y:V}(q:VR K ρ H v y):∀{kvs:List (Key×Val)} {ks:List (Key×V)},fN K ρ H kvs ks->fN K ρ H (kvs.map λkv=>if kv.1=k then (kv.1,v) else kv) (ks.map λkv=>if kv.1=k then (kv.1,y) else kv)
 | [],ks,e=>by have:ks=[]:=e;subst this;rfl
 | (k',v')::kvs,ks,⟨x,r,e,q1,q2⟩=>by
  subst e;simp only[map_cons]
  by_cases hk:k'=k
  ·rw[if_pos hk,if_pos hk];exact⟨y,_,rfl,q,fN.repl k q q2⟩
  ·rw[if_neg hk,if_neg hk];exact⟨x,_,rfl,q1,fN.repl k q q2⟩
theorem fN.snoc{K:PySem.W.Frag}{ρ:List Addr}{H:Hp}(k:Key){v:Val}{y:V}(q:VR K ρ H v y):∀{kvs:List (Key×Val)} {ks:List (Key×V)},fN K ρ H kvs ks->fN K ρ H (kvs++[(k,v)]) (ks++[(k,y)])
 | [],ks,e=>by have:ks=[]:=e;subst this;exact⟨y,[],rfl,q,rfl⟩
 | (k',v')::kvs,ks,⟨x,r,e,q1,q2⟩=>by subst e;exact⟨x,_,rfl,q1,fN.snoc k q q2⟩
theorem fN.put{K:PySem.W.Frag}{ρ:List Addr}{H:Hp}(k:Key){v:Val}{y:V}(q:VR K ρ H v y){kvs:List (Key×Val)}{ks:List (Key×V)}(e:fN K ρ H kvs ks):fN K ρ H (fY kvs k v) (putK ks k y):=by
 unfold fY putK;rw[fN.any k e]
 split
 ·exact fN.repl k q e
 ·exact fN.snoc k q e
theorem BF{K:PySem.W.Frag}{ρ:List Addr}{H:Hp}{v:Val}{x:V}{k:Key}(q:VR K ρ H v x)(e:keyOf v=some k):x=kV k:=by
 cases v<;>simp only[keyOf] at e<;>first|cases e|skip
 ·rw[VR] at q;exact q
 ·rw[VR] at q;exact q
theorem ya(hu:X.A.units+64<cLine):LF X (λx y H Q=>∃a v,x=.ref a/\jX H a y (some v)/\Q v H):=by
 intro value slice pins s σ H x y v u Q I rx ry h hs;obtain⟨a,z,rfl,g,q⟩:=h;cases rx;have hT:=uc I g;unfold subscriptTail;refine wpAny_bind ?_;rw[getitemInPython_of_ne hT.not_modules];refine wpAny_bind (wpAny_specialOf hT PySem.F.slot_dict_getitem.lookup ?_);have fin:wpAny (model X.prog X.w) X.A (subscripted slice false (.ref a) u) (λr s₃=>wpAny (model X.prog X.w) X.A (letTemporaryGo value (.ref a) r >>= λ_=>pure r) (EP X pins σ Q) X.xe s₃) X.xe s:=by rw[hs];exact wpAny_operating (zy (by omega) I g ry λw' s' I' r'=>wpAny_bind (wpAny_letTemporaryGo (wpAny_pure ⟨z,H,I',r',q⟩)))
 first
  | exact wpAny_pure (wpAny_bind fin)
  | exact wpAny_bind (wpAny_pure (wpAny_bind fin))
  | exact wpAny_bind fin
noncomputable def rC(B:Bd)(o:Jx):R2:=λx y H Q=>∃ρ h v w b,HR B ρ h H/\VR B.K ρ H v x/\VR B.K ρ H w y/\cop h o v w=some b/\Q (.bl b) H
theorem lg{b:Bool}(e:memD h v w=some b):∃d f ds,toD 16 h v=some d/\toD 16 h w=some f/\(f=.list ds\/f=.tuple ds)/\b=ds.any λy=>PyData.eqv y d:=by
 unfold memD at e;obtain⟨f,e1,e⟩:=bind_eq_some_iff.mp e;obtain⟨d,e2,e⟩:=bind_eq_some_iff.mp e;cases f<;>simp only[Jy] at e<;>first|cases e|skip
 ·exact⟨d,_,_,e2,e1,.inl rfl,rfl⟩
 ·exact⟨d,_,_,e2,e1,.inr rfl,rfl⟩
theorem zU{b:Bool}(hw:∀ks vs,w≠.dc ks vs)(e:sM h v w=some b):(∃x y,v=.str x/\w=.str y/\b = !(Builtin.Str.occurrences y x 0 y.length 1).isEmpty)\/(∃i kvs k,w=.ref i/\h[i]?=some (.dct kvs)/\keyOf v=some k/\b=(bN kvs k).isSome) \/
  ∃d f ds,toD 16 h v=some d/\toD 16 h w=some f/\(f=.list ds\/f=.tuple ds)/\b=ds.any λy=>PyData.eqv y d:=by
 cases w with
 | ref i =>
  have e':(h[i]?).bind (EC h v i)=some b:=by cases v<;>exact e
  obtain⟨ob,e1,e2⟩:=bind_eq_some_iff.mp e';cases ob with
  | dct kvs =>obtain⟨k,e3,e4⟩:=bind_eq_some_iff.mp (show (keyOf v).bind _=some b from e2);exact .inr (.inl ⟨i,kvs,k,rfl,e1,e3,(Option.some.inj e4).symm⟩)
  | lst xs=>exact .inr (.inr (lg e2))
  | ins c fs=>exact .inr (.inr (lg e2))
 | dc ks vs=>exact absurd rfl (hw ks vs)
 | str y =>
  cases v with
  | str x=>exact .inl ⟨x,y,rfl,rfl,(Option.some.inj e).symm⟩
  | _=>exact .inr (.inr (lg e))
 | _=>exact .inr (.inr (lg (by cases v<;>exact e)))
theorem BG(hu:X.A.units+64<cLine)(o:Jx):kN X (compareOp (x8 o)) (rC (bd X cl) o):=by
 intro pins s σ H x y v' u' Q I rx ry hh;obtain⟨ρ,h,v,w,b,r,hv,hw,e,q⟩:=hh;have mem:∀(neg:Bool),sM h v w=some (if neg=true then !b else b)->wpAny (model X.prog X.w) X.A (compareOp (if neg=true then .NotIn else .In) v' u') (EP X pins σ Q) X.xe s:=by
  intro neg e;have nd:∀ks vs,w≠.dc ks vs:=λks vs z=>by subst z;rw[VR] at hw;exact hw.elim
  rcases zU nd e with ⟨a,c,rfl,rfl,eb⟩|⟨i,kvs,k,rfl,e1,e2,eb⟩|⟨d,f,ds,e1,e2,e3,eb⟩
  ·rw[VR] at hv;rw[VR] at hw;subst hv;subst hw
   cases neg with
   | true =>refine r8 pins s σ H _ _ v' u' Q I rx ry ⟨a,c,rfl,rfl,?_⟩;rw[if_pos rfl] at eb;rw[<-eb,Bool.not_not];exact q
   | false =>refine zj pins s σ H _ _ v' u' Q I rx ry ⟨a,c,rfl,rfl,?_⟩;rw[if_neg Bool.false_ne_true] at eb;rw[<-eb];exact q
  ·rw[VR] at hw
   obtain⟨a,rfl,k1⟩:=hw;obtain⟨ks,k2,k3⟩:=r.ob i _ a e1 k1;have ex:=BF hv e2;subst ex;have es:(gH ks k).isSome=(bN kvs k).isSome:=by
    obtain⟨z1,z2⟩:=fN.val k k3;cases e4:bN kvs k with
    | none=>rw[z1 e4];rfl
    | some z=>obtain⟨x,z3,_⟩:=z2 z e4;rw[z3];rfl
   cases ry;cases neg with
   | true =>refine Ej (by omega) I (jX.k (k:=k) k2) rx λs' I'=>⟨.bl _,H,I',rfl,?_⟩;rw[if_pos rfl] at eb;rw[es,<-eb,Bool.not_not];exact q
   | false =>refine Qq (by omega) I (jX.k (k:=k) k2) rx λs' I'=>⟨.bl _,H,I',rfl,?_⟩;rw[if_neg Bool.false_ne_true] at eb;rw[es,<-eb];exact q
  ·obtain⟨a1,a2,a3⟩:=mj r 16 v x d hv e1
   obtain⟨b1,b2,b3⟩:=mj r 16 w y f hw e2;refine JB hu neg pins s σ H x y v' u' Q I rx ry ⟨d,f,ds,a1,b1,a2,b2,a3,e3,?_⟩;cases neg with
   | true=>rw[if_pos rfl] at eb |-;rw[<-eb,Bool.not_not];exact q
   | false=>rw[if_neg Bool.false_ne_true] at eb |-;rw[<-eb];exact q
 cases o with
 | eq =>obtain⟨d,f,e1,e2,rfl⟩:=uG (show Ax h v w=some b by exact e);obtain⟨a1,a2,a3⟩:=mj r 16 v x d hv e1;obtain⟨b1,b2,b3⟩:=mj r 16 w y f hw e2;exact Jq hu pins s σ H x y v' u' Q I rx ry ⟨d,f,a1,b1,a2,b2,by omega,q⟩
 | ne =>have e':(Ax h v w).map (!·)=some b:=e;obtain⟨c,e3,rfl⟩:=map_eq_some_iff.mp e';obtain⟨d,f,e1,e2,rfl⟩:=uG e3;obtain⟨a1,a2,a3⟩:=mj r 16 v x d hv e1;obtain⟨b1,b2,b3⟩:=mj r 16 w y f hw e2;exact Jr hu pins s σ H x y v' u' Q I rx ry ⟨d,f,a1,b1,a2,b2,by omega,q⟩
 | lt =>obtain⟨i,j,rfl,rfl⟩:=jl (.inl rfl) e;cases e;rw[VR] at hv;rw[VR] at hw;subst hv;subst hw;exact Mz pins s σ H _ _ v' u' Q I rx ry ⟨_,_,rfl,rfl,q⟩
 | le =>obtain⟨i,j,rfl,rfl⟩:=jl (.inr (.inl rfl)) e;cases e;rw[VR] at hv;rw[VR] at hw;subst hv;subst hw;exact MA pins s σ H _ _ v' u' Q I rx ry ⟨_,_,rfl,rfl,q⟩
 | gt =>obtain⟨i,j,rfl,rfl⟩:=jl (.inr (.inr (.inl rfl))) e;cases e;rw[VR] at hv;rw[VR] at hw;subst hv;subst hw;exact MB pins s σ H _ _ v' u' Q I rx ry ⟨_,_,rfl,rfl,q⟩
 | ge =>obtain⟨i,j,rfl,rfl⟩:=jl (.inr (.inr (.inr rfl))) e;cases e;rw[VR] at hv;rw[VR] at hw;subst hv;subst hw;exact MC pins s σ H _ _ v' u' Q I rx ry ⟨_,_,rfl,rfl,q⟩
 | isn =>
  have e:GO v w=some b:=e;cases w<;>first|(cases e;done)|skip
  ·cases e;rw[VR] at hw;subst hw;refine IQ pins s σ H x _ v' u' Q I rx ry ⟨rfl,?_⟩;rw[x9 hv];exact q
  ·cases v<;>first|(cases e;done)|skip
   cases e;rw[VR] at hv;rw[VR] at hw;subst hv;subst hw;exact Jt pins s σ H _ _ v' u' Q I rx ry ⟨_,_,rfl,rfl,q⟩
 | ntn =>
  have e:(GO v w).map (!·)=some b:=e;cases w<;>first|(cases e;done)|skip
  ·cases e;rw[VR] at hw;subst hw;refine DZ pins s σ H x _ v' u' Q I rx ry ⟨rfl,?_⟩;rw[x9 hv];exact q
  ·cases v<;>first|(cases e;done)|skip
   cases e;rw[VR] at hv;rw[VR] at hw;subst hv;subst hw;exact EA pins s σ H _ _ v' u' Q I rx ry ⟨_,_,rfl,rfl,q⟩
 | BA=>exact mem false (by rw[if_neg Bool.false_ne_true];exact e)
 | nin =>have e':(sM h v w).map (!·)=some b:=e;obtain⟨c,e3,rfl⟩:=map_eq_some_iff.mp e';exact mem true (by rw[e3];simp)
theorem JC{b:Bool}(r:HR B ρ h H)(q:VR B.K ρ H v x)(e:cX h v=some b):IT B.K x H b:=by
 cases v with
 | non=>rw[VR] at q;subst q;exact(Option.some.inj e).symm
 | bl c=>rw[VR] at q;subst q;exact(Option.some.inj e).symm
 | int i=>rw[VR] at q;subst q;exact(Option.some.inj e).symm
 | str z =>
  rw[VR] at q;subst q;simp only[cX] at e;split at e
  ·rename_i hl;exact⟨hl,(Option.some.inj e).symm⟩
  ·cases e
 | tup vs =>rw[VR] at q;obtain⟨a,xs,rfl,q1,q2⟩:=q;refine .inr (.inl ⟨xs,q1,?_⟩);rw[<-Option.some.inj e];have:=q2.length;cases vs<;>cases xs<;>simp_all
 | rl vs =>rw[VR] at q;obtain⟨a,xs,rfl,q1,q2⟩:=q;refine .inl ⟨xs,q1.sq,?_⟩;rw[<-Option.some.inj e];have:=q2.length;cases vs<;>cases xs<;>simp_all
 | dc _ _=>rw[VR] at q;exact q.elim
 | ob _ _ _=>rw[VR] at q;exact q.elim
 | ref i =>
  rw[VR] at q;obtain⟨a,rfl,q1⟩:=q;simp only[cX] at e;split at e
  ·rename_i vs e1;obtain⟨xs,k1,k2⟩:=r.ob i _ a e1 q1;refine .inl ⟨xs,.inl (.inl k1),?_⟩;rw[<-Option.some.inj e];have:=k2.length;cases vs<;>cases xs<;>simp_all
  ·rename_i vs e1;obtain⟨xs,k1,k2⟩:=r.ob i _ a e1 q1;refine .inr (.inr ⟨xs,k1,?_⟩);rw[<-Option.some.inj e];have:=k2.length;cases vs<;>cases xs<;>simp_all
  ·cases e
noncomputable def QO(B:Bd):R2:=λx y H Q=>∃ρ h v w z,HR B ρ h H/\VR B.K ρ H v x/\VR B.K ρ H w y/\ja h v w=some z/\∀u,VR B.K ρ H z u->Q u H
theorem JD(hu:X.A.units+64<cLine):LF X (QO (bd X cl)):=by
 intro value slice pins s σ H x y v' u' Q I rx ry hh hs;obtain⟨ρ,h,v,w,z,r,hv,hw,e,q⟩:=hh;cases v with
 | str t =>
  cases w<;>first|cases e|skip
  rename_i i;change (if t.length<=sizeLine then (jd t.cps.toList i).map (λc=>Val.str ⟨#[c]⟩) else none)=some z at e;split at e
  ·rename_i hl;obtain⟨c,e1,rfl⟩:=map_eq_some_iff.mp e;rw[VR] at hv;rw[VR] at hw;subst hv;subst hw;exact Jc value slice pins s σ H _ _ v' u' Q I rx ry ⟨t,i,c,rfl,rfl,hl,e1,q _ VR.str⟩ hs
  ·cases e
 | tup vs =>
  cases w<;>first|cases e|skip
  rename_i i;rw[VR] at hv;rw[VR] at hw;subst hw;obtain⟨a,xs,rfl,q1,q2⟩:=hv;obtain⟨t,e2,q3⟩:=av.jd q2 e;exact Jb value slice pins s σ H _ _ v' u' Q I rx ry ⟨a,xs,i,t,rfl,rfl,q1,e2,q _ q3⟩ hs
 | rl vs =>
  cases w<;>first|cases e|skip
  rename_i i;rw[VR] at hv;rw[VR] at hw;subst hw;obtain⟨a,xs,rfl,q1,q2⟩:=hv;obtain⟨t,e2,q3⟩:=av.jd q2 e;exact xQ value slice pins s σ H _ _ v' u' Q I rx ry ⟨a,xs,i,t,rfl,rfl,q1.sq,e2,q _ q3⟩ hs
 | ref j =>
  cases w with
  | int i =>
   change (match h[j]? with|some (.dct kvs)=>bN kvs (.inl i)|_=>(aB h (.ref j)).bind λxs=>jd xs i)=some z at e;split at e
   ·rename_i kvs e1;rw[VR] at hv;obtain⟨a,rfl,q1⟩:=hv;obtain⟨ks,k1,k2⟩:=r.ob j _ a e1 q1;obtain⟨t,e2,q3⟩:=(fN.val (.inl i) k2).2 z e;have g:jX H a (kV (.inl i)) (gH ks (.inl i)):=jX.k k1;rw[e2] at g;rw[VR] at hw;subst hw;exact ya hu value slice pins s σ H _ _ v' u' Q I rx ry ⟨a,t,rfl,g,q _ q3⟩ hs
   ·obtain⟨vs,e1,e⟩:=bind_eq_some_iff.mp e;obtain⟨a,xs,rfl,q1,q2⟩:=eL r hv e1;rw[VR] at hw;subst hw;obtain⟨t,e2,q3⟩:=av.jd q2 e;exact xQ value slice pins s σ H _ _ v' u' Q I rx ry ⟨a,xs,i,t,rfl,rfl,q1,e2,q _ q3⟩ hs
  | str y =>
   change (match h[j]? with|some (.dct kvs)=>bN kvs (.inr y)|_=>none)=some z at e;split at e
   ·rename_i kvs e1;rw[VR] at hv;obtain⟨a,rfl,q1⟩:=hv;obtain⟨ks,k1,k2⟩:=r.ob j _ a e1 q1;obtain⟨t,e2,q3⟩:=(fN.val (.inr y) k2).2 z e;have g:jX H a (kV (.inr y)) (gH ks (.inr y)):=jX.k k1;rw[e2] at g;rw[VR] at hw;subst hw;exact ya hu value slice pins s σ H _ _ v' u' Q I rx ry ⟨a,t,rfl,g,q _ q3⟩ hs
   ·cases e
  | _=>cases e
 | dc _ _=>rw[VR] at hv;exact hv.elim
 | _=>cases w<;>cases e
noncomputable def VY(B:Bd)(EX:Nat->List V->Hp->Prop):V->Option Int->Option Int->Hp->VK->Prop:=λx lo hi H Q=>∃ρ h v,HR B ρ h H/\VR B.K ρ H v x/\Post B EX ρ H (WV B.K Q) (qy v lo hi h)
theorem JE:Pd X (VY (bd X cl) EX):=by
 intro pins s σ H x v' vl vu lo hi sl Q I rx hs pl pu hh;obtain⟨ρ,h,v,r,hv,p⟩:=hh;have lists:Post (bd X cl) EX ρ H (WV X.K Q) (bnd (ask λh=>aB h v) (λxs=>new (.lst (cY xs lo hi))) h)->∃T id,typeLookup (.type T) "__getitem__" = pure (some (.builtin id))/\s.TypeIs v' T/\wpAny (model X.prog X.w) X.A (getItem v' (.ref sl)) (EP X pins σ Q) X.xe s:=by intro p;obtain⟨a,e1,p⟩:=aA p;obtain⟨a1,M5,rfl,k1,k2⟩:=eL r hv e1;exact Ed pins s σ H _ v' vl vu lo hi sl Q I rx hs pl pu ⟨a1,M5,rfl,k1,λq hq=>cE r hq (av.cut lo hi k2) p⟩
 cases v with
 | tup vs =>simp only[qy] at p;rw[VR] at hv;obtain⟨a,xs,rfl,q1,q2⟩:=hv;obtain⟨e,p⟩:=aN p;refine Ja pins s σ H _ v' vl vu lo hi sl Q I rx hs pl pu ⟨a,xs,rfl,q1,?_,λq hq=>o7 r hq (av.cut lo hi q2) p⟩;rw[<-q2.length];simp only[not_eq_true',Bool.and_eq_false_iff,decide_eq_false_iff_not] at e;rintro⟨z1,z2⟩;exact e.elim (λk=>k z1) λk=>k z2
 | _=>exact lists p
end
end Hv
end
section
set_option backward.match.sparseCases false
namespace Hv
open PySem L2 PyProof.Rows
section
variable {X:Cx} {cl:Nat->Addr} {EX:Nat->List V->Hp->Prop}
noncomputable def DI(B:Bd)(EX:Nat->List V->Hp->Prop)(b:Bl):List V->Hp->VK->Prop:=λxs H Q=>∃ρ h vs,HR B ρ h H/\av B.K ρ H vs xs/\Post B EX ρ H (WV B.K Q) (blt b vs h)
theorem JF:cH X (.builtin "len") (DI (bd X cl) EX .len):=by
 intro pins s σ H xs us Q I rr hh;obtain⟨ρ,h,vs,r,hv,p⟩:=hh
 match vs,p with
 | [v],p =>
  obtain⟨n,e,p⟩:=aA p;obtain⟨x,rfl,hx⟩:=av.one hv;have fin:=ai r p _ VR.int;cases v with
  | str z =>
   simp only[k7] at e;split at e
   ·rename_i hl;cases e;rw[VR] at hx;subst hx;exact L2.kP pins s σ H _ us Q I rr ⟨_,z.length,rfl,⟨hl,rfl⟩,fin⟩
   ·cases e
  | tup vs =>simp only[k7] at e;cases e;rw[VR] at hx;obtain⟨a,ys,rfl,q1,q2⟩:=hx;refine L2.kP pins s σ H _ us Q I rr ⟨_,ys.length,rfl,.inr ⟨ys,q1,rfl⟩,?_⟩;rw[<-q2.length];exact fin
  | rl vs =>simp only[k7] at e;cases e;rw[VR] at hx;obtain⟨a,ys,rfl,q1,q2⟩:=hx;refine L2.kP pins s σ H _ us Q I rr ⟨_,ys.length,rfl,.inl ⟨ys,q1.sq,rfl⟩,?_⟩;rw[<-q2.length];exact fin
  | dc _ _=>rw[VR] at hx;exact hx.elim
  | ob _ _ _=>rw[VR] at hx;exact hx.elim
  | ref i =>
   rw[VR] at hx;obtain⟨a,rfl,q1⟩:=hx;simp only[k7] at e;split at e
   ·rename_i vs e1;cases e;obtain⟨ys,k1,k2⟩:=r.ob i _ a e1 q1;refine L2.kP pins s σ H _ us Q I rr ⟨_,ys.length,rfl,.inl ⟨ys,.inl (.inl k1),rfl⟩,?_⟩;rw[<-k2.length];exact fin
   ·rename_i vs e1;cases e;obtain⟨ks,k1,k2⟩:=r.ob i _ a e1 q1;refine zC pins s σ H _ us Q I rr ⟨a,ks,rfl,k1,?_⟩;rw[<-k2.length];exact fin
   ·cases e
  | _=>simp only[k7] at e;cases e
theorem JG(hc:X.calm=true):cH X (.builtin "min") (DI (bd X cl) EX .min):=by
 intro pins s σ H xs us Q I rr hh;obtain⟨ρ,h,vs,r,hv,p⟩:=hh;have seq:∀v,vs=[v]->Post (bd X cl) EX ρ H (WV X.K Q) (bnd (ask λh=>cV h v) (λxs=>bg ((aS xs).bind sJ)) h)->wpAny (model X.prog X.w) X.A (call (.builtin "min") us) (EP X pins σ Q) X.xe s:=by
  rintro v rfl p;obtain⟨zs,e,p⟩:=aA p;obtain⟨x,rfl,hx⟩:=av.one hv;obtain⟨a,ys,rfl,q1,q2⟩:=wO r hx e;obtain⟨m,e1,p⟩:=cD r p;obtain⟨ns,e2,e3⟩:=bind_eq_some_iff.mp e1;rw[fT e2] at q2;rw[av.ints.mp q2] at q1;have hne:0<ns.length:=by cases ns with|nil=>cases e3|cons _ _=>simp
  refine sE hc pins s σ H _ us Q I rr ⟨a,ns,rfl,q1,hne,λm hm hmin=>?_⟩;rw[zS hm hmin] at e3;cases e3;exact p _ VR.int
 match vs,p with
 | [.int a,.int b],p =>obtain⟨x,y,rfl,hx,hy⟩:=av.two hv;rw[VR] at hx;rw[VR] at hy;subst hx;subst hy;exact zl hc pins s σ H _ us Q I rr ⟨a,b,rfl,ai r p _ VR.int⟩
 | [v],p=>exact seq v rfl (by cases v<;>exact p)
theorem JH(hc:X.calm=true):cH X (.builtin "max") (DI (bd X cl) EX .max):=by
 intro pins s σ H xs us Q I rr hh;obtain⟨ρ,h,vs,r,hv,p⟩:=hh;have seq:∀v,vs=[v]->Post (bd X cl) EX ρ H (WV X.K Q) (bnd (ask λh=>cV h v) (λxs=>bg ((aS xs).bind sL)) h)->wpAny (model X.prog X.w) X.A (call (.builtin "max") us) (EP X pins σ Q) X.xe s:=by
  rintro v rfl p;obtain⟨zs,e,p⟩:=aA p;obtain⟨x,rfl,hx⟩:=av.one hv;obtain⟨a,ys,rfl,q1,q2⟩:=wO r hx e;obtain⟨m,e1,p⟩:=cD r p;obtain⟨ns,e2,e3⟩:=bind_eq_some_iff.mp e1;rw[fT e2] at q2;rw[av.ints.mp q2] at q1;have hne:0<ns.length:=by cases ns with|nil=>cases e3|cons _ _=>simp
  refine sG hc pins s σ H _ us Q I rr ⟨a,ns,rfl,q1,hne,λm hm hmin=>?_⟩;rw[zT hm hmin] at e3;cases e3;exact p _ VR.int
 match vs,p with
 | [.int a,.int b],p =>obtain⟨x,y,rfl,hx,hy⟩:=av.two hv;rw[VR] at hx;rw[VR] at hy;subst hx;subst hy;exact zk hc pins s σ H _ us Q I rr ⟨a,b,rfl,ai r p _ VR.int⟩
 | [v],p=>exact seq v rfl (by cases v<;>exact p)
theorem zV:cH X (.builtin "sorted") (DI (bd X cl) EX .sorted):=by
 intro pins s σ H xs us Q I rr hh;obtain⟨ρ,h,vs,r,hv,p⟩:=hh
 match vs,p with
 | [v],p =>
  obtain⟨zs,e,p⟩:=aA p;obtain⟨out,e1,p⟩:=cJ p;obtain⟨x,rfl,hx⟩:=av.one hv;obtain⟨a,ys,rfl,q1,q2⟩:=eL r hx e;unfold eu at e1;split at e1
  ·rename_i h64
   cases e2:aS zs with
   | some ns =>rw[e2] at e1;cases e1;rw[fT e2] at q2 h64;rw[av.ints.mp q2] at q1;rw[length_map] at h64;exact lX pins s σ H _ us Q I rr ⟨a,ns,rfl,q1,h64,λl hl=>cE r hl (av.ints.mpr rfl) p⟩
   | none =>rw[e2] at e1;obtain⟨nQ,e3,e4⟩:=bind_eq_some_iff.mp e1;cases e4;obtain⟨g1,g2⟩:=rq e3;rw[g1] at q2 h64;obtain⟨rs,r1,r2,r3⟩:=av.tups q2;rw[r1] at q1;rw[length_map,r2,length_map] at h64;refine lY pins s σ H _ us Q I rr ⟨a,rs,rfl,q1,h64,λp hp=>⟨r3 p hp,g2 _ (by rw[r2];exact mem_map_of_mem hp)⟩,λl qs hl hp hs=>?_⟩;have e4:qs.map (·.2)=kY nQ:=BC (by rw[r2];exact hp.map _) (pairwise_map.mpr hs);rw[<-e4] at p;exact cE r hl (av.xY λz hz=>r3 z (hp.mem_iff.mp hz)) p
  ·cases e1
theorem EF:cH X (.type "list") (DI (bd X cl) EX .list):=by
 intro pins s σ H xs us Q I rr hh;obtain⟨ρ,h,vs,r,hv,p⟩:=hh
 match vs,p with
 | [v],p =>obtain⟨zs,e,p⟩:=aA p;obtain⟨x,rfl,hx⟩:=av.one hv;obtain⟨a,ys,rfl,q1,q2⟩:=wO r hx e;exact sf pins s σ H _ us Q I rr ⟨a,ys,rfl,q1,λl hl=>cE r hl q2 p⟩
theorem BH:cH X (.type "tuple") (DI (bd X cl) EX .tuple):=by
 intro pins s σ H xs us Q I rr hh;obtain⟨ρ,h,vs,r,hv,p⟩:=hh;exact(show False from p).elim
theorem JI:cH X (.type "str") (DI (bd X cl) EX .str):=by
 intro pins s σ H xs us Q I rr hh;obtain⟨ρ,h,vs,r,hv,p⟩:=hh;exact(show False from p).elim
theorem JJ:cH X (.type "int") (DI (bd X cl) EX .int):=by
 intro pins s σ H xs us Q I rr hh;obtain⟨ρ,h,vs,r,hv,p⟩:=hh
 match vs,p with
 | [.int i],p =>obtain⟨x,rfl,hx⟩:=av.one hv;rw[VR] at hx;subst hx;exact qF pins s σ H _ us Q I rr (.inl ⟨i,rfl,ai r p _ VR.int⟩)
 | [.bl i],p =>obtain⟨x,rfl,hx⟩:=av.one hv;rw[VR] at hx;subst hx;exact qF pins s σ H _ us Q I rr (.inr ⟨i,rfl,ai r p _ VR.int⟩)
theorem JK(hc:X.calm=true):cH X (.builtin "all") (DI (bd X cl) EX .all):=by
 intro pins s σ H xs us Q I rr hh;obtain⟨ρ,h,vs,r,hv,p⟩:=hh;exact(show False from p).elim
theorem JL(hc:X.calm=true):cH X (.builtin "any") (DI (bd X cl) EX .any):=by
 intro pins s σ H xs us Q I rr hh;obtain⟨ρ,h,vs,r,hv,p⟩:=hh;exact(show False from p).elim
noncomputable def VZ(B:Bd)(EX:Nat->List V->Hp->Prop)(T:String):List V->Hp->VK->Prop:=λxs H Q=>∃ρ h v x,xs=[x,.ty T]/\HR B ρ h H/\VR B.K ρ H v x/\Post B EX ρ H (WV B.K Q) (blt (.isin T) [v] h)
theorem EG(K:PySem.W.Frag)(t T:String)(ht:t∈["NoneType","bool","int","str","list","tuple","dict"])(hT:T∈["list","tuple","str","bool","int","dict"]) :
  kitOne K (.type t) (.type T)=some (decide (T=t\/(T = "int" /\ t = "bool"))):=by
 simp only[mem_cons,not_mem_nil,or_false] at ht hT
 rcases ht with rfl|rfl|rfl|rfl|rfl|rfl|rfl<;>rcases hT with rfl|rfl|rfl|rfl|rfl|rfl<;>rfl
theorem EH{T:String}:cH X (.builtin "isinstance") (VZ (bd X cl) EX T):=by
 intro pins s σ H xs us Q I rr hh;obtain⟨ρ,h,v,x,rfl,r,hx,p⟩:=hh;obtain⟨u,w',rfl,r1,r2⟩:=vals2 rr;cases r2;obtain⟨t,e,p⟩:=aA p;obtain⟨b,e1,p⟩:=cJ p;have q:=ai r p _ VR.bl;unfold uB at e1;split at e1
 ·rename_i V3
  have hT:T∈["list","tuple","str","bool","int","dict"]:=by simpa using V3
  cases e1;have fin:∀tk,EP X pins σ Q (.bool (decide (T=t\/(T = "int" /\ t = "bool")))) { s with toks:=tk }:=λtk=>⟨.bl _,H,I.tok _,rfl,q⟩;have tab:=λht=>EG X.K t T ht hT;cases v with
  | non=>rw[VR] at hx;subst hx;cases r1;simp only[uA] at e;cases e;exact kia_one kitx_none I.iR True.intro (tab (by simp)) (λz=>nomatch z) fin
  | bl c=>rw[VR] at hx;subst hx;cases r1;simp only[uA] at e;cases e;exact kia_one kitx_bool I.iR True.intro (tab (by simp)) (λz=>nomatch z) fin
  | int i=>rw[VR] at hx;subst hx;obtain⟨t',rfl⟩:=r1;simp only[uA] at e;cases e;exact kia_one kitx_int I.iR True.intro (tab (by simp)) (λz=>nomatch z) fin
  | str i=>rw[VR] at hx;subst hx;obtain⟨t',rfl⟩:=r1;simp only[uA] at e;cases e;exact kia_one kitx_str I.iR True.intro (tab (by simp)) (λz=>nomatch z) fin
  | tup vs =>rw[VR] at hx;obtain⟨a,ys,rfl,q1,_⟩:=hx;cases r1;simp only[uA] at e;cases e;obtain⟨_,_,⟨o,e1,e2,_⟩,_⟩:=I.tuple q1;exact kia_one kitx_tuple I.iR ⟨o,e1,e2⟩ (tab (by simp)) (λz=>nomatch z) fin
  | rl vs =>rw[VR] at hx;obtain⟨a,ys,rfl,q1,_⟩:=hx;cases r1;simp only[uA] at e;cases e;obtain⟨_,_,⟨o,n,e1,e2,_⟩,_⟩:=I.list q1.sq;exact kia_one kitx_list I.iR ⟨o,e1,e2⟩ (tab (by simp)) (λz=>nomatch z) fin
  | dc _ _=>rw[VR] at hx;exact hx.elim
  | ob _ _ _=>rw[VR] at hx;exact hx.elim
  | ref i =>
   rw[VR] at hx;obtain⟨a,rfl,q1⟩:=hx;cases r1;simp only[uA] at e;split at e
   ·rename_i vs e1;cases e;obtain⟨ys,k1,k2⟩:=r.ob i _ a e1 q1;obtain⟨_,_,⟨o,n,e1,e2,_⟩,_⟩:=I.list (xs:=ys) (.inl (.inl k1));exact kia_one kitx_list I.iR ⟨o,e1,e2⟩ (tab (by simp)) (λz=>nomatch z) fin
   ·rename_i vs e1;cases e;obtain⟨ks,k1,k2⟩:=r.ob i _ a e1 q1;obtain⟨_,_,vs,_,p⟩:=(show bx X.prog X.w H s.heap a (.dK ks) from I.hok a _ k1);obtain⟨o,es,ep,h1,h2,_⟩:=p;exact kia_one kitx_dict I.iR ⟨o,h1,h2.1⟩ (tab (by simp)) (λz=>nomatch z) fin
   ·cases e
 ·cases e1
noncomputable def Pk(B:Bd)(EX:Nat->List V->Hp->Prop)(m:Me):V->List V->Hp->VK->Prop:=λx xs H Q=>∃ρ h v vs,HR B ρ h H/\VR B.K ρ H v x/\av B.K ρ H vs xs/\Post B EX ρ H (WV B.K Q) (met m v vs h)
theorem EI:MJ X "str.join" (Pk (bd X cl) EX .join):=by
 intro pins s σ H x xs u us Q I ru rr hh;obtain⟨ρ,h,v,vs,r,hv,hvs,p⟩:=hh;exact(show False from p).elim
theorem uH{i:Nat}(r:HR B ρ h H)(hi:ρ[i]?=some a)(e:h[i]?=some u)(eU:H a=some U)(hm:Mu U=true)(q:OR B ρ (upd H a O) a o)
  (p:Post B EX ρ H (WV B.K Q) (bnd (put i o) (λ_=>ret Val.non) h)):Q .non (upd H a O) :=
 p ρ (upd H a O) (Gr.put (mem_of_getElem? hi) eU hm) (r.put hi e q) _ VR.non
theorem zW:MJ X "list.append" (Pk (bd X cl) EX .append):=by
 intro pins s σ H x xs v' us Q I rx rv hh;obtain⟨ρ,h,v,vs,r,hv,hvs,p⟩:=hh
 match v,vs,p with
 | .ref i,[w],p =>
  obtain⟨zs,e,p⟩:=aA p;split at e
  ·rename_i zs' e1;cases e;obtain⟨e2,p⟩:=aN p;obtain⟨a,ys,rfl,q0,q1,q2⟩:=jO r hv e1;obtain⟨y,rfl,hy⟩:=av.one hvs;refine qK pins s σ H _ _ v' us Q I rx rv ⟨a,ys,y,rfl,rfl,q1,by rw[<-q2.length];exact of_decide_eq_true e2,?_⟩;have g:Gr ρ H ρ (upd H a (.lst (ys++[y]))):=Gr.put (mem_of_getElem? q0) q1 rfl;exact uH (o:=.lst (zs++[w])) r q0 e1 q1 rfl ⟨_,aR,av.append (av.up g _ _ q2) (av.up g _ _ (av.cons hy av.nil))⟩ p
  ·cases e
theorem zX:MJ X "list.extend" (Pk (bd X cl) EX .extend):=by
 intro pins s σ H x xs v' us Q I rx rv hh;obtain⟨ρ,h,v,vs,r,hv,hvs,p⟩:=hh
 match v,vs,p with
 | .ref i,[w],p =>
  obtain⟨zs,e,p⟩:=aA p;split at e
  ·rename_i zs' e1;cases e
   obtain⟨ws,e3,p⟩:=aA p;obtain⟨e2,p⟩:=aN p;have e2:=of_decide_eq_true e2;obtain⟨a,ys,rfl,q0,q1,q2⟩:=jO r hv e1;obtain⟨y,rfl,hy⟩:=av.one hvs;have fin:∀(bs:List V),av X.K ρ H ws bs->Q .non (upd H a (.lst (ys++bs))):=λbs hb=>by
    have g:Gr ρ H ρ (upd H a (.lst (ys++bs))):=Gr.put (mem_of_getElem? q0) q1 rfl;exact uH (o:=.lst (zs++ws)) r q0 e1 q1 rfl ⟨_,aR,av.append (av.up g _ _ q2) (av.up g _ _ hb)⟩ p
   cases w with
   | tup ts =>simp only[uy] at e3;cases e3;rw[VR] at hy;obtain⟨b,bs,rfl,k1,k2⟩:=hy;exact wF pins s σ H _ _ v' us Q I rx rv ⟨a,b,ys,bs,rfl,rfl,q1,k1,by rw[<-q2.length,<-k2.length];exact e2,fin bs k2⟩
   | ref j =>
    simp only[uy,aB] at e3;split at e3
    ·rename_i ts e4;cases e3;obtain⟨b,bs,rfl,k0,k1,k2⟩:=jO r hy e4;exact zx pins s σ H _ _ v' us Q I rx rv ⟨a,b,ys,bs,rfl,rfl,q1,k1,by rw[<-q2.length,<-k2.length];exact e2,fin bs k2⟩
    ·cases e3
   | _=>simp only[uy] at e3;cases e3
  ·cases e
end
end Hv
end
section
namespace Hv
open PySem L2 PyProof.Rows
structure Tb where
 nc:Nat
 EJ:List Str
 EK:List (Nat×Str×Nat)
 DJ:List (Str×Str×Nat)
 isc:List (Str×List Bool)
structure o9 where
 N:List Str
 sc:Scope
 fns:List (Str×Nat)
 cons:List (Str×Val)
 tb:Tb
noncomputable def wQ(sc:Scope)(x:Str):Bool:=(sc.names.lookup x==some .local||sc.names.lookup x==some .cell||sc.names.lookup x==some .free) && !(x==("__debug__":Str)) && !(x==("__classdict__":Str))
noncomputable def uI(sc:Scope)(x:Str):Bool:=sc.names.lookup x==some .globalImplicit && !(x==("__debug__":Str)) && !(x==("__name__":Str))
noncomputable def BI:Const->Val->Bool
 | .none,.non=>true
 | .bool a,.bl b=>a==b
 | .int a,.int b=>a==b
 | .str a,.str b=>a==b
 | _,_=>false
noncomputable def JM(o:GN)(op:Operator):Bool:=decide (op=BD o)
noncomputable def M6(o:Jx)(op:CmpOp):Bool:=decide (op=x8 o)
noncomputable def M7:Bl->Str
 | .len=>"len" | .min=>"min" | .max=>"max" | .sorted=>"sorted" | .list=>"list" | .tuple=>"tuple" | .str=>"str" | .int=>"int" | .all=>"all" | .any=>"any" | .isin _=>"isinstance"
noncomputable def noStar:Expr->Bool
 | .Starred ..=>false
 | _=>true
noncomputable def nS:Expr->Bool
 | .Slice ..=>false
 | _=>true
noncomputable def EL:Expr->Bool
 | .Name ..=>true|.Call ..=>true|.Subscript ..=>true|.List ..=>true|.Tuple ..=>true|.ListComp ..=>true|.Attribute ..=>true|.BinOp ..=>true
 | _=>false
noncomputable def superB:Expr->Bool
 | .Call (.Name _ _) [] [] _=>false
 | _=>true
noncomputable def GS(scope xsc:Scope):Scope :=
 { scope with names:=scope.names.map λ(n,k)=>if (k==.free&&xsc.kind==.function&&xsc.names.lookup n==some .cell) then (n,.cell) else (n,k) }
noncomputable def o9.Ay(Γ:o9)(scope:Scope)(N':List Str):o9:={ Γ with N:=N',sc:=GS scope Γ.sc }
noncomputable def wR(Γ:o9):xW->Expr->Bool
 | .one i,.Name x _=>Γ.N[i]?==some x && Γ.sc.names.lookup x==some .local
 | .tup is,.Tuple es _ _=>es.length==is.length&&(is.zip es).all λp=>match p.2 with
  | .Name x _=>Γ.N[p.1]?==some x && Γ.sc.names.lookup x==some .local
  | _=>false
 | _,_=>false
noncomputable def uJ:xW->List Nat
 | .one i=>[i]
 | .tup is=>is
noncomputable def V4:Me->Str
 | .join=>"join" | .append=>"append" | .extend=>"extend"
noncomputable def wU:Val->Val->Bool
 | .non,.non=>true
 | .bl a,.bl b=>a==b
 | .int a,.int b=>a==b
 | .str a,.str b=>a==b
 | _,_=>false
noncomputable def Ul(Γ:o9)(N':List Str)(js:List (Option Nat))(p q i j:Nat):Expr->Bool
 | .ListComp (.Name y1 _) [⟨.Name y2 yp,.Name dn _,[.Compare (.Name y3 _) [.NotIn] [.Name en ep] _],ia⟩] scope _=>ia==0&&iI Γ.N Γ.sc scope N' js&&decide (N'.Nodup)&&wR (Γ.Ay scope N') (.one p) (.Name y2 yp)&&js[p]?==some none&&js[q]?==some (some j)&&p != q && !behindInMarks .NotIn (.Name en ep) &&
   (N'[p]?==some y1&&wQ (Γ.Ay scope N').sc y1)&&(N'[p]?==some y3&&wQ (Γ.Ay scope N').sc y3)&&(N'[q]?==some en&&wQ (Γ.Ay scope N').sc en)&&(Γ.N[i]?==some dn&&wQ Γ.sc dn)
 | _=>false
mutual
noncomputable def aG(Γ:o9):IE->Expr->Bool
 | .var i,e=>match e with
  | .Name x _=>Γ.N[i]?==some x&&wQ Γ.sc x
  | _=>false
 | .cst d,e=>match e with
  | .Constant c _ _=>BI c d
  | _=>false
 | .con x d,e=>match e with
  | .Name y _=>x==y&&uI Γ.sc x && Γ.cons.any λp=>p.1==x&&wU p.2 d
  | _=>false
 | .no,_=>false
 | .bin o a b,e=>match e with
  | .BinOp l op r _=>JM o op&&aG Γ a l&&aG Γ b r
  | _=>false
 | .neg a,e=>match e with
  | .UnaryOp .USub l _=>aG Γ a l
  | _=>false
 | .cmp o a b,e=>match e with
  | .Compare l [op] [r] _=>M6 o op && !behindInMarks op r&&aG Γ a l&&aG Γ b r
  | _=>false
 | .chn _ _ _ _ _,_=>false
 | .and a b,e=>match e with
  | .BoolOp .And (l::m::r) pos=>aG Γ a l&&(match r with|[]=>aG Γ b m|n::r'=>aG Γ b (.BoolOp .And (m::n::r') pos))
  | _=>false
 | .or a b,e=>match e with
  | .BoolOp .Or (l::m::r) pos=>aG Γ a l&&(match r with|[]=>aG Γ b m|n::r'=>aG Γ b (.BoolOp .Or (m::n::r') pos))
  | _=>false
 | .not a,e=>match e with
  | .UnaryOp .Not l _=>aG Γ a l
  | _=>false
 | .ite _ _ _,_=>false
 | .tup es,e=>match e with
  | .Tuple ls _ _=>aM Γ es ls
  | _=>false
 | .lst es,e=>match e with
  | .List ls _=>aM Γ es ls
  | _=>false
 | .idx a b,e=>match e with
  | .Subscript l r _=>nS r&&aG Γ a l&&aG Γ b r
  | _=>false
 | .slc a lo hi,e=>match e with
  | .Subscript l (.Slice l' h' none _) _=>aG Γ a l&&(match l' with|none=>cG lo|some e=>!cG lo&&aG Γ lo e)&&(match h' with|none=>cG hi|some e=>!cG hi&&aG Γ hi e)
  | _=>false
 | .call j es,e=>match e with
  | .Call (.Name x _) args [] _=>uI Γ.sc x && Γ.fns[j]?==some (x,args.length)&&decide (args.length<1000)&&aM Γ es args
  | .Call (.Attribute (.Name x _) m ap) args [] cp=>uI Γ.sc x && Γ.tb.DJ.contains (x,m,j)&&(match Γ.fns[j]? with|some (_,n)=>n==1000+args.length|none=>false)&&decide (args.length<29)&&ap.endLine==cp.line&&aM Γ es args && !args.isEmpty
  | _=>false
 | .blt b es,e=>match e with
  | .Call (.Name x _) args [] _=>uI Γ.sc x&&x==M7 b&&(match b with
   | .isin T=>(match args with|[a,.Name y _]=>uI Γ.sc y&&y==(T:Str)&&["list","tuple","str","bool","int","dict"].contains T&&aM Γ es [a]|_=>false)
   | _=>!args.isEmpty&&aM Γ es args)
  | _=>false
 | .met m a es,e=>match e with
  | .Call (.Attribute o x ap) args [] cp=>x==V4 m&&superB o && !args.isEmpty&&decide (args.length<29)&&ap.endLine==cp.line&&aG Γ a o&&aM Γ es args
  | _=>false
 | .comp N' js pat k it c elt,e=>match e with
  | .ListComp e [⟨tg,iter,ifs,0⟩] scope _=>iI Γ.N Γ.sc scope N' js&&uK Γ k it iter&&decide (N'.Nodup)&&wR (Γ.Ay scope N') pat tg&&((uJ pat).all λi=>js[i]?==some none)&&(match k,pat with|.enum,.one _=>false|.zip,.one _=>false|_,_=>true) &&
   (match ifs with|[]=>cG c|[t]=>!cG c&&aG (Γ.Ay scope N') c t|_=>false)&&aG (Γ.Ay scope N') elt e
  | _=>false
 | .dct0,e=>match e with
  | .Dict [] [] _=>true
  | _=>false
 | .sset a,e=>match e with
  | .Call (.Name x _) [.Call (.Name y _) [l] [] _] [] _=>x==("sorted":Str)&&y==("set":Str)&&uI Γ.sc x&&uI Γ.sc y&&noStar l&&aG Γ a l
  | _=>false
 | .dget d k x,e=>match e with
  | .Call (.Attribute o m ap) [a,b] [] cp=>m==("get":Str)&&superB o&&noStar a&&noStar b&&ap.endLine==cp.line&&aG Γ d o&&aG Γ k a&&aG Γ x b
  | _=>false
 | .dct1 k v,e=>match e with
  | .Dict [some a] [b] _=>aG Γ k a&&aG Γ v b
  | _=>false
 | .lkeys d,e=>match e with
  | .Call (.Name x _) [.Name y q] [] _=>x==("list":Str)&&uI Γ.sc x&&aG Γ d (.Name y q)
  | _=>false
 | .sdef _ _ _,_=>false
 | .svals _,_=>false
 | .skeys d,e=>match e with
  | .Call (.Name x _) [.Name y q] [] _=>x==("sorted":Str)&&uI Γ.sc x&&aG Γ d (.Name y q)
  | _=>false
 | .fld n a x,e=>match e with
  | .Attribute o y _=>x==y&&superB o&&n == Γ.tb.nc && Γ.tb.EJ.contains x&&aG Γ a o
  | _=>false
 | .rev a s,e=>match e with
  | .Subscript l (.Slice none none st _) _=>aG Γ a l&&st.isSome&&(match st with|none=>cG s|some e=>!cG s&&aG Γ s e)
  | _=>false
 | .dflt _ _ _ _ _ _,_=>false
 | .isc a x bs,e=>match e with
  | .Call (.Name f _) [l,.Name y _] [] _=>f==("isinstance":Str)&&uI Γ.sc f&&y==x&&uI Γ.sc y&&noStar l && Γ.tb.isc.contains (x,bs)&&decide (bs.length <= Γ.tb.nc)&&aG Γ a l
  | _=>false
 | .mth a m js es,e=>match e with
  | .Call (.Attribute o x ap) args [] cp=>x==m&&superB o&&decide (args.length<29)&&ap.endLine==cp.line&&(js.all λp=>decide (p.1 < Γ.tb.nc) && Γ.tb.EK.contains (p.1,m,p.2)&&(match Γ.fns[p.2]? with|some (_,n)=>n==1001+args.length|none=>false))&&aG Γ a o&&aM Γ es args
  | _=>false
noncomputable def aM(Γ:o9):m8->List Expr->Bool
 | .nil,ls=>ls.isEmpty
 | .cons e es,ls=>match ls with
  | l::ls=>noStar l&&aG Γ e l&&aM Γ es ls
  | []=>false
noncomputable def uK(Γ:o9)(k:Ik):m8->Expr->Bool
 | .nil,_=>false
 | .cons e es,l=>match k with
  | .seq=>(match es with|.nil=>EL l&&aG Γ e l|_=>false)
  | .range=>(match l with|.Call (.Name x _) (a::args) [] _=>x==("range":Str)&&uI Γ.sc x&&noStar a&&aG Γ e a&&aM Γ es args&&decide (args.length<2)|_=>false)
  | .enum=>(match es,l with|.nil,.Call (.Name x _) [a] [] _=>x==("enumerate":Str)&&uI Γ.sc x&&noStar a&&aG Γ e a|_,_=>false)
  | .zip=>false
end
noncomputable abbrev Fn:=Nat->List Val->M Val
noncomputable def cS(K:PySem.W.Frag)(ρ:List Addr)(env:Env)(σ:L2.St)(H:Hp):Prop:=∀(i:Nat) (v:Val),env[i]?=some (some v)->∃x,σ[i]?=some (some x)/\VR K ρ H v x
theorem cS.jZ{K:PySem.W.Frag}{ρ ρ':List Addr}{env:Env}{σ:L2.St}{H H':Hp}(e:cS K ρ env σ H)(g:Gw ρ H ρ' H'):cS K ρ' env σ H':=λi v q=>by
 obtain⟨x,q1,q2⟩:=e i v q;exact⟨x,q1,VR.jZ g v x q2⟩
theorem cS.up{K:PySem.W.Frag}{ρ ρ':List Addr}{env:Env}{σ:L2.St}{H H':Hp}(e:cS K ρ env σ H)(g:Gr ρ H ρ' H'):cS K ρ' env σ H':=e.jZ g.w
noncomputable def V5(K:PySem.W.Frag)(Q:List V->Hp->Prop):List Val->Hs->List Addr->Hp->Prop:=λvs _ ρ' H'=>∀xs,av K ρ' H' vs xs->Q xs H'
noncomputable def WT(Q:Bool->Hp->Prop):Bool->Hs->List Addr->Hp->Prop:=λb _ _ H'=>Q b H'
noncomputable def LI(Φ:Fn)(ir:IE)(env:Env):M Bool:=bnd (aF Φ ir env) λx=>ask λh=>cX h x
noncomputable def tV(Φ:Fn)(B:Bd)(EX:Nat->List V->Hp->Prop)(ir:IE):TE:=λσ H Q=>∃ρ env h,cS B.K ρ env σ H/\HR B ρ h H/\Post B EX ρ H (WV B.K Q) (aF Φ ir env h)
noncomputable def Um(Φ:Fn)(B:Bd)(EX:Nat->List V->Hp->Prop)(dN:m8):TA:=λσ H Q=>∃ρ env h,cS B.K ρ env σ H/\HR B ρ h H/\Post B EX ρ H (V5 B.K Q) (aV Φ dN env h)
noncomputable def tT(Φ:Fn)(B:Bd)(EX:Nat->List V->Hp->Prop)(ir:IE):TT:=λσ H Q=>∃ρ env h,cS B.K ρ env σ H/\HR B ρ h H/\Post B EX ρ H (WT Q) (LI Φ ir env h)
theorem _root_.L2.PE.imp(h:PE X e t)(i:∀σ H Q,t' σ H Q->t σ H Q):PE X e t':=λpins s σ H Q I hw=>h pins s σ H Q I (i σ H Q hw)
theorem _root_.L2.PT.imp(h:PT X e t)(i:∀σ H Q,t' σ H Q->t σ H Q):PT X e t':=λpins s σ H Q I hw=>h pins s σ H Q I (i σ H Q hw)
theorem _root_.L2.PA.imp(h:PA X es t)(i:∀σ H Q,t' σ H Q->t σ H Q):PA X es t':=λpos pins s σ H Q I hw=>h pos pins s σ H Q I (i σ H Q hw)
theorem _root_.L2.PO.imp(h:PO X e t)(i:∀σ H Q,t' σ H Q->t σ H Q):PO X e t':=λpins s σ H Q I hw=>h pins s σ H Q I (i σ H Q hw)
theorem _root_.L2.PI.imp(h:PI X tg iter t)(i:∀σ H R,t' σ H R->t σ H R):PI X tg iter t':=λpins s σ H R I hw=>h pins s σ H R I (i σ H R hw)
theorem aT{α β γ:Type}(m:M α)(f:α -> M β)(g:β -> M γ):bnd (bnd m f) g=bnd m λx=>bnd (f x) g:=by
 funext h;show (match (match m h with|.ok a h'=>f a h'|.exc c vs h'=>.exc c vs h'|.no=>.no) with|.ok a h'=>g a h'|.exc c vs h'=>.exc c vs h'|.no=>.no)=(match m h with|.ok a h'=>bnd (f a) g h'|.exc c vs h'=>.exc c vs h'|.no=>.no);cases m h<;>rfl
theorem cK{α β:Type}(a:α)(f:α -> M β):bnd (ret a) f=f a:=rfl
noncomputable def sO(B:Bd)(n:Nat)(φ:List Val->M Val):Sp:=λxs H Q _=>∃ρ h vs,vs.length=n/\HR B ρ h H/\av B.K ρ H vs xs/\Post B (λ_ _ _=>False) ρ H (WV B.K Q) (φ vs h)
noncomputable def LJ(P:Program)(w:World)(B:Bd)(mg:Str->Option Value)(base:Heap)(k:Nat)(j:Nat)(x:Str)(n:Nat)(φ:List Val->M Val):Prop :=
 (n<1000/\((∃(f:Addr) (fd:FuncData) (ps:List Str),ps.length=n/\mg x=some (.ref f)/\keepIn B.K (.ref f)=true/\Binds B.K fd ps []/\eB P w B.K mg base vM k f fd ps (sO B n φ)) \/
  ∃(c:Nat) (f:Addr) (fd:FuncData) (ps:List Str) (φ0:List Val->M Val),φ = DH c φ0/\ps.length=n+1/\mg x=some (.ref (B.cl c))/\Mk B.K (B.cl c) f/\Binds B.K fd ps []/\eB P w B.K mg base vM k f fd ps (sO B (n+1) φ0))) \/
 (1000<=n/\∃(fd:FuncData) (ps:List Str),ps.length=n-1000/\Binds B.K fd ps []/\eB P w B.K mg base vM k (B.cl (1000+j)) fd ps (sO B (n-1000) φ))
noncomputable def fk:List Str:=["len","min","max","sorted","list","tuple","str","all","any","isinstance","range","enumerate","int","bool","dict","set","zip"]
structure Ctx (Φ:Fn) (Γ:o9) (k:Nat) (X:Cx) (cl:Nat->Addr) (EX:Nat->List V->Hp->Prop):Prop where
 N:X.N = Γ.N
 sc:X.env.scope = Γ.sc
 calm:X.calm=true
 room:cW (k+1) X.A
 ku:∀c xs H,¬ EX c xs H
 fns:∀j x n,Γ.fns[j]?=some (x,n)->LJ X.prog X.w (bd X cl) X.mg X.base k j x n (Φ j)
 cls:∀c,c < Γ.tb.nc->zp X.K (cl c)/\∀x ∈ Γ.tb.EJ,jf X.K (cl c) x
 EK:∀p ∈ Γ.tb.EK,Meth X.K (cl p.1) p.2.1 (cl (1000+p.2.2))
 DJ:∀p ∈ Γ.tb.DJ,∃C,X.mg p.1=some (.ref C)/\Jv X.K C p.2.1 (cl (1000+p.2.2))
 isc:∀p ∈ Γ.tb.isc,∃C,X.mg p.1=some (.ref C)/\∀c b,p.2[c]?=some b->Uj X.K (cl c)/\kitOne X.K (.ref (cl c)) (.ref C)=some b
 cons:∀p ∈ Γ.cons,∃v u,X.mg p.1=some u/\RelV v u/\∀K ρ H,VR K ρ H p.2 v
 blt:∀x∈fk,X.mg x=none
section
variable {Φ:Fn} {Γ:o9} {k:Nat} {X:Cx} {cl:Nat->Addr} {EX:Nat->List V->Hp->Prop}
theorem Ctx.units(c:Ctx Φ Γ k X cl EX):X.A.units+64<cLine:=c.room.units
theorem Ctx.vis(c:Ctx Φ Γ k X cl EX)(h:wQ Γ.sc x=true):O6 X.env.scope x/\(x==("__debug__":Str))=false/\(x==("__classdict__":Str))=false:=by
 unfold wQ at h;simp only[and_eq_true,or_eq_true,beq_iff_eq,not_eq_true'] at h;obtain⟨⟨h1,h2⟩,h3⟩:=h;refine⟨?_,h2,h3⟩;unfold O6;rw[c.sc]
 rcases h1 with (z|z)|z
 ·exact .inl z
 ·exact .inr (.inl z)
 ·exact .inr (.inr z)
theorem Ctx.gl(c:Ctx Φ Γ k X cl EX)(h:uI Γ.sc x=true):Gl X x/\(x==("__debug__":Str))=false/\x ≠ "__name__":=by
 unfold uI at h;simp only[and_eq_true,beq_iff_eq,not_eq_true'] at h;obtain⟨⟨h1,h2⟩,h3⟩:=h;refine⟨?_,h2,λz=>by rw[z] at h3;simp at h3⟩;show X.env.scope.names.lookup x=_;rw[c.sc];exact h1
theorem Ctx.Ay(c:Ctx Φ Γ k X cl EX)(scope:Scope)(N':List Str)(cls:List (Str×Addr))(C:Addr)(s:Shared)(H:Hp)(fp:List Addr):Ctx Φ (Γ.Ay scope N') k (bH X scope N' cls C s H fp) cl EX:=by
 refine⟨rfl,?_,c.calm,c.room,c.ku,c.fns,c.cls,c.EK,c.DJ,c.isc,c.cons,c.blt⟩;show relabel scope X.env=GS scope Γ.sc;rw[<-c.sc];rfl
theorem aQ(h:noStar e=true):starEach (e::es) env=(false,eval e env)::starEach es env:=by
 cases e<;>first|rfl|(simp[noStar] at h)
theorem fq:∀{es:List Expr} {dN:m8},aM Γ dN es=true->(backTo pos (starEach es env)).any (·.1)=false
 | [],_,_=>rfl
 | e::es,.nil,h=>by simp[aM] at h
 | e::es,.cons i dN,h=>by
  simp only[aM,and_eq_true] at h;rw[aQ h.1.1];show (false||(backTo pos (starEach es env)).any (·.1))=false;rw[fq (dN:=dN) h.2];rfl
theorem pe(h:aM Γ dN es=true):(backTo pos (starEach es env)).all (λx=>!x.1)=true:=by
 have q:=fq (pos:=pos) (env:=env) h;rw[all_eq_true];intro x hx;have:=List.any_eq_false.mp q x hx;simpa using this
theorem wV(h:nS e=true):xP e:=by
 intro o i;cases e<;>first|rfl|(simp[nS] at h)
theorem super_ok(h:superB e=true):attributeBase e x env whole=whole:=by
 cases e<;>first
  | rfl
  | skip
 rename_i f args kws pos;cases f<;>first
  | rfl
  | skip
 cases args with
 | cons a r=>rfl
 | nil =>
  cases kws with
  | cons a r=>rfl
  | nil=>simp[superB] at h
theorem cy(q:PE X e (tV Φ (bd X cl) EX ir))(he:∀whole,isTrue e X.env whole=(do let v <-whole;standAt e.pos;holding [v] (truthy v))):PT X e (tT Φ (bd X cl) EX ir) :=
 (AO q he).imp λσ H Q ⟨ρ,env,h,hE,r,p⟩=>⟨ρ,env,h,hE,r,aq p λv h1 ρ1 x H1 g1 r1 q1 p1=>by
  obtain⟨b,e,w⟩:=cR r1 p1;exact⟨b,JC r1 q1 e,w⟩⟩
theorem AN:Pa X (unaryOp .USub) (λx H Q=>∃i,x=.int i/\Q (.int (-i)) H):=by
 intro pins s σ H x v Q I rx h;obtain⟨i,rfl,q⟩:=h;obtain⟨t,rfl⟩:=rx;exact neg_int ⟨.int (-i),H,I.tok _,⟨_,rfl⟩,q⟩
theorem GU(h:PT X (.BoolOp op vs pos) t):PW X (.BoolOp op vs pos) t:=λwhole pins s σ H Q I hw=>h pins s σ H Q I hw
noncomputable def bW(Φ:Fn)(ir:IE):Prop:=∀(Γ:o9) (k:Nat) (X:Cx) (cl:Nat->Addr) (EX:Nat->List V->Hp->Prop) (e:Expr),Ctx Φ Γ k X cl EX->aG Γ ir e=true->PE X e (tV Φ (bd X cl) EX ir)/\PT X e (tT Φ (bd X cl) EX ir)
noncomputable def jm(Φ:Fn)(dN:m8):Prop:=(∀(Γ:o9) (k:Nat) (X:Cx) (cl:Nat->Addr) (EX:Nat->List V->Hp->Prop) (es:List Expr),Ctx Φ Γ k X cl EX->aM Γ dN es=true->PA X es (Um Φ (bd X cl) EX dN))/\match dN with
 | .nil=>True
 | .cons e r=>bW Φ e/\match r with
  | .nil=>True
  | .cons e' _=>bW Φ e'
theorem EM(h:JM o op=true):op=BD o:=of_decide_eq_true h
theorem EO(h:M6 o op=true):op=x8 o:=of_decide_eq_true h
theorem pq(hs:∀env h,aF Φ ir env h=.no):bW Φ ir:=by
 intro Γ k X cl EX e c h;exact⟨λpins s σ H Q I ⟨ρ,env,h,hE,r,p⟩=>by rw[hs] at p;exact p.elim,λpins s σ H Q I ⟨ρ,env,h,hE,r,p⟩=>by unfold LI bnd at p;rw[hs] at p;exact p.elim⟩
theorem JN{i:Nat}:bW Φ (.var i):=by
 intro Γ k X cl EX e c h;rw[aG.eq_def] at h;dsimp only at h;split at h<;>first|cases h|skip
 rename_i x pos;simp only[and_eq_true,beq_iff_eq] at h;obtain⟨v1,v2,v3⟩:=c.vis h.2;have q:PE X (.Name x pos) (tV Φ (bd X cl) EX (.var i)):=by refine(Ic (by rw[c.N];exact h.1) v1 v2 v3).imp λσ H Q aJ=>?_;obtain⟨ρ,env,h,hE,r,p⟩:=aJ;rw[aF.eq_def] at p;dsimp only at p;obtain⟨d,e1,w⟩:=cD r p;split at e1<;>cases e1;rename_i e1;obtain⟨x,e2,e3⟩:=hE i d e1;exact⟨x,e2,w x e3⟩
 exact⟨q,cy q λ_=>rfl⟩
theorem JO:bW Φ (.cst d):=by
 intro Γ k X cl EX e c h;rw[aG.eq_def] at h;dsimp only at h;split at h<;>first|cases h|skip
 rename_i cc j pos;have q:PE X (.Constant cc j pos) (tV Φ (bd X cl) EX (.cst d)):=by
  unfold BI at h;split at h<;>first|cases h|skip
  ·refine Ig.imp λσ H Q aJ=>?_;obtain⟨ρ,env,h,hE,r,p⟩:=aJ;simp only[aF] at p;exact ai r p _ VR.non
  ·cases eq_of_beq h;refine Ma.imp λσ H Q aJ=>?_;obtain⟨ρ,env,h,hE,r,p⟩:=aJ;simp only[aF] at p;exact ai r p _ VR.bl
  ·cases eq_of_beq h;refine Ie.imp λσ H Q aJ=>?_;obtain⟨ρ,env,h,hE,r,p⟩:=aJ;simp only[aF] at p;exact ai r p _ VR.int
  ·cases eq_of_beq h;refine Ih.imp λσ H Q aJ=>?_;obtain⟨ρ,env,h,hE,r,p⟩:=aJ;simp only[aF] at p;exact ai r p _ VR.str
 exact⟨q,cy q λ_=>rfl⟩
theorem zY(h:wU a b=true):a=b:=by
 unfold wU at h;split at h<;>first|rfl|(cases eq_of_beq h;rfl)|cases h
theorem JP:bW Φ (.con x d):=by
 intro Γ k X cl EX e c h;rw[aG.eq_def] at h;dsimp only at h;split at h<;>first|cases h|skip
 rename_i y pos;simp only[and_eq_true,beq_iff_eq] at h;obtain⟨⟨h1,h2⟩,h3⟩:=h;subst h1;obtain⟨g1,g2,g3⟩:=c.gl h2;obtain⟨p,hp,h4⟩:=List.any_eq_true.mp h3;simp only[and_eq_true,beq_iff_eq] at h4;obtain⟨v,u,m1,m2,m3⟩:=c.cons p hp;rw[h4.1] at m1;have q:PE X (.Name x pos) (tV Φ (bd X cl) EX (.con x d)):=by refine(xJ g1 m1 m2 g2).imp λσ H Q aJ=>?_;obtain⟨ρ,env,h,hE,r,p⟩:=aJ;simp only[aF] at p;exact ai r p _ (by rw[<-zY h4.2];exact m3 _ _ _)
 exact⟨q,cy q λ_=>rfl⟩
theorem M8:bW Φ .no:=by
 intro Γ k X cl EX e c h;rw[aG.eq_def] at h;dsimp only at h;cases h
theorem BJ:jm Φ .nil:=by
 refine⟨fun Γ k X cl EX es c h=>?_,trivial⟩;rw[aM] at h;cases es with
 | cons a r=>cases h
 | nil =>refine v9.imp λσ H Q aJ=>?_;obtain⟨ρ,env,h,hE,r,p⟩:=aJ;simp only[aV] at p;exact ai r p _ av.nil
theorem yb(h1:bW Φ e)(h2:jm Φ es):jm Φ (.cons e es):=by
 refine⟨fun Γ k X cl EX ls c h=>?_,h1,?_⟩
 ·rw[aM.eq_def] at h;dsimp only at h
  cases ls with
  | nil=>cases h
  | cons l ls =>simp only[and_eq_true] at h;refine(kQ (h1 Γ k X cl EX l c h.1.2).1 (h2.1 Γ k X cl EX ls c h.2) (aQ h.1.1)).imp λσ H Q aJ=>?_;obtain⟨ρ,env,h,hE,r,p⟩:=aJ;simp only[aV] at p;refine⟨ρ,env,h,hE,r,aq p λv h1 ρ1 x H1 g1 r1 q1 p1=>⟨ρ1,env,h1,hE.up g1,r1,aY p1 λvs h2 ρ2 H2 g2 r2 p2 xs q2=>?_⟩⟩;exact ai r2 p2 _ (av.cons (VR.up g2 _ _ q1) q2)
 ·cases es with
  | nil=>trivial
  | cons e' r=>exact h2.2.1
theorem JQ(ha:bW Φ a)(hb:bW Φ b):bW Φ (.bin o a b):=by
 intro Γ k X cl EX e c h;rw[aG.eq_def] at h;dsimp only at h;split at h<;>first|cases h|skip
 rename_i l op r pos;simp only[and_eq_true] at h;obtain⟨⟨h1,h2⟩,h3⟩:=h;have eo:op=BD o:=EM h1;subst eo;have q:PE X (.BinOp l (BD o) r pos) (tV Φ (bd X cl) EX (.bin o a b)):=by refine(Mw (JA (cl:=cl) (EX:=EX) o) (ha Γ k X cl EX l c h2).1 (hb Γ k X cl EX r c h3).1).imp λσ H Q aJ=>?_;obtain⟨ρ,env,h,hE,r,p⟩:=aJ;simp only[aF] at p;exact⟨ρ,env,h,hE,r,aq p λv h1 ρ1 x H1 g1 r1 q1 p1=>⟨ρ1,env,h1,hE.up g1,r1,aq p1 λw h2 ρ2 y H2 g2 r2 q2 p2=>⟨ρ2,h2,v,w,r2,VR.up g2 _ _ q1,q2,p2⟩⟩⟩
 exact⟨q,cy q λ_=>rfl⟩
theorem JR(ha:bW Φ a):bW Φ (.neg a):=by
 intro Γ k X cl EX e c h;rw[aG.eq_def] at h;dsimp only at h;split at h<;>first|cases h|skip
 rename_i l pos;have q:PE X (.UnaryOp .USub l pos) (tV Φ (bd X cl) EX (.neg a)):=by
  refine(Mx AN (ha Γ k X cl EX l c h).1).imp λσ H Q aJ=>?_;obtain⟨ρ,env,h,hE,r,p⟩:=aJ;simp only[aF] at p;refine⟨ρ,env,h,hE,r,aq p λv h1 ρ1 x H1 g1 r1 q1 p1=>?_⟩;cases v<;>first|exact p1.elim|skip
  rw[VR] at q1;exact⟨_,q1,ai r1 p1 _ VR.int⟩
 exact⟨q,cy q λ_=>rfl⟩
theorem JS(ha:bW Φ a)(hb:bW Φ b):bW Φ (.cmp o a b):=by
 intro Γ k X cl EX e c h;rw[aG.eq_def] at h;dsimp only at h;split at h<;>first|cases h|skip
 rename_i l op r pos;simp only[and_eq_true,not_eq_true'] at h;obtain⟨⟨⟨h1,h4⟩,h2⟩,h3⟩:=h;have eo:op=x8 o:=EO h1;subst eo;refine⟨(D3 (BG (cl:=cl) c.units o) (ha Γ k X cl EX l c h2).1 (hb Γ k X cl EX r c h3).1 h4).imp λσ H Q ⟨ρ,env,h,hE,r,p⟩=>?_,(D4 (BG (cl:=cl) c.units o) (ha Γ k X cl EX l c h2).1 (hb Γ k X cl EX r c h3).1 h4).imp λσ H Q ⟨ρ,env,h,hE,r,p⟩=>?_⟩
 ·simp only[aF] at p;refine⟨ρ,env,h,hE,r,aq p λv h1 ρ1 x H1 g1 r1 q1 p1=>⟨ρ1,env,h1,hE.up g1,r1,aq p1 λw h2 ρ2 y H2 g2 r2 q2 p2=>?_⟩⟩;obtain⟨t,e,p3⟩:=aA p2;exact⟨ρ2,h2,v,w,t,r2,VR.up g2 _ _ q1,q2,e,ai r2 p3 _ VR.bl⟩
 ·simp only[LI,aF,aT,cK] at p;refine⟨ρ,env,h,hE,r,aq p λv h1 ρ1 x H1 g1 r1 q1 p1=>⟨ρ1,env,h1,hE.up g1,r1,aq p1 λw h2 ρ2 y H2 g2 r2 q2 p2=>?_⟩⟩;obtain⟨t,e,p3⟩:=aA p2;obtain⟨t',e',w'⟩:=cR r2 p3;cases (show some t=some t' from e');exact⟨ρ2,h2,v,w,t,r2,VR.up g2 _ _ q1,q2,e,t,rfl,w'⟩
theorem JT(ha:bW Φ a)(hb:bW Φ b)(hd:bW Φ d):bW Φ (.chn o o' a b d):=pq λ_ _=>rfl
end
end Hv
end
section
namespace Hv
open PySem L2 PyProof.Rows
section
variable {B:Bd} {EX:Nat->List V->Hp->Prop} {ρ:List Addr} {H:Hp} {β:Type} {W:β -> Hs->List Addr->Hp->Prop} {h:Hs}
theorem post_bool(p:Post B EX ρ H W (bnd (o4 v) f h)):∃t,v=.bl t/\Post B EX ρ H W (f t h):=by
 cases v with
 | bl t=>exact⟨t,rfl,p⟩
 | _=>exact p.elim
theorem mw(p:Post B EX ρ H W (bnd m F h))(k:∀v h1,Post B EX ρ H W (F v h1)->∃t,cX h1 v=some t/\∀ρ1 H1,Gr ρ H ρ1 H1->HR B ρ1 h1 H1->Q t H1) :
  Post B EX ρ H (WT Q) (bnd m (λx=>ask λh=>cX h x) h):=by
 unfold bnd at p |-;cases e:m h with
 | ok v h1 =>
  rw[e] at p;obtain⟨t,e1,q⟩:=k v h1 p;show Post B EX ρ H (WT Q) (ask (λh=>cX h v) h1);have e2:ask (λh=>cX h v) h1=.ok t h1:=by unfold ask bg;dsimp only;rw[e1]
  rw[e2];exact λρ1 H1 g r=>q ρ1 H1 g r
 | exc c vs h1=>rw[e] at p;exact p
 | no=>rw[e] at p;exact p
end
section
variable {Φ:Fn} {Γ:o9} {k:Nat} {X:Cx} {cl:Nat->Addr} {EX:Nat->List V->Hp->Prop}
theorem JU(ha:bW Φ a)(hb:bW Φ b):bW Φ (.and a b):=by
 intro Γ k X cl EX e c h;rw[aG.eq_def] at h;dsimp only at h;split at h<;>first|cases h|skip
 rename_i l m r pos;simp only[and_eq_true] at h;obtain⟨h1,h2⟩:=h;have hB:PE X (.BoolOp .And (m::r) pos) (tV Φ (bd X cl) EX b)/\PW X (.BoolOp .And (m::r) pos) (tT Φ (bd X cl) EX b):=by
  cases r with
  | nil=>exact⟨AF (hb Γ k X cl EX m c h2).1,DQ (hb Γ k X cl EX m c h2).2⟩
  | cons n r'=>exact⟨(hb Γ k X cl EX _ c h2).1,GU (hb Γ k X cl EX _ c h2).2⟩
 refine⟨(Im (ha Γ k X cl EX l c h1).1 hB.1).imp λσ H Q ⟨ρ,env,h,hE,r,p⟩=>?_,(Ij (ha Γ k X cl EX l c h1).2 hB.2).pt.imp λσ H Q ⟨ρ,env,h,hE,r,p⟩=>?_⟩
 ·simp only[aF] at p
  refine⟨ρ,env,h,hE,r,aq p λv h1 ρ1 x H1 g1 r1 q1 p1=>?_⟩;obtain⟨t,rfl,p2⟩:=post_bool p1;rw[VR] at q1;refine⟨t,q1,?_⟩;cases t with
  | true =>rw[if_pos rfl] at p2 |-;refine⟨ρ1,env,h1,hE.up g1,r1,aq p2 λw h2 ρ2 y H2 g2 r2 q2 p3=>?_⟩;obtain⟨u,rfl,p4⟩:=post_bool p3;exact ai r2 p4 _ q2
  | false =>rw[if_neg Bool.false_ne_true] at p2 |-;exact ai r1 p2 _ VR.bl
 ·simp only[LI,aF,aT] at p
  refine⟨ρ,env,h,hE,r,mw p λv h1 p1=>?_⟩;obtain⟨t,rfl,p2⟩:=post_bool p1;refine⟨t,rfl,λρ1 H1 g1 r1=>?_⟩;have p2:=Post.up g1 p2;cases t with
  | true =>rw[if_pos rfl] at p2 |-;simp only[aT,cK] at p2;refine⟨ρ1,env,h1,hE.up g1,r1,mw p2 λw h2 p3=>?_⟩;obtain⟨u,rfl,p4⟩:=post_bool p3;exact⟨u,rfl,λρ2 H2 g2 r2=>by obtain⟨t',e',w'⟩:=cR r2 (Post.up g2 p4);cases (show some u=some t' from e');exact w'⟩
  | false =>rw[if_neg Bool.false_ne_true] at p2 |-;obtain⟨t',e',w'⟩:=cR r1 (show Post _ _ ρ1 H1 _ (ask (λh=>cX h (.bl false)) h1) from p2);cases (show some false=some t' from e');exact w'
theorem M9(ha:bW Φ a)(hb:bW Φ b):bW Φ (.or a b):=by
 intro Γ k X cl EX e c h;rw[aG.eq_def] at h;dsimp only at h;split at h<;>first|cases h|skip
 rename_i l m r pos;simp only[and_eq_true] at h;obtain⟨h1,h2⟩:=h;have hB:PE X (.BoolOp .Or (m::r) pos) (tV Φ (bd X cl) EX b)/\PW X (.BoolOp .Or (m::r) pos) (tT Φ (bd X cl) EX b):=by
  cases r with
  | nil=>exact⟨AF (hb Γ k X cl EX m c h2).1,Ii (hb Γ k X cl EX m c h2).2⟩
  | cons n r'=>exact⟨(hb Γ k X cl EX _ c h2).1,GU (hb Γ k X cl EX _ c h2).2⟩
 refine⟨(Mg (ha Γ k X cl EX l c h1).1 hB.1).imp λσ H Q ⟨ρ,env,h,hE,r,p⟩=>?_,(Mb (ha Γ k X cl EX l c h1).2 hB.2).pt.imp λσ H Q ⟨ρ,env,h,hE,r,p⟩=>?_⟩
 ·simp only[aF] at p
  refine⟨ρ,env,h,hE,r,aq p λv h1 ρ1 x H1 g1 r1 q1 p1=>?_⟩;obtain⟨t,rfl,p2⟩:=post_bool p1;rw[VR] at q1;refine⟨t,q1,?_⟩;cases t with
  | false =>rw[if_neg Bool.false_ne_true] at p2 |-;refine⟨ρ1,env,h1,hE.up g1,r1,aq p2 λw h2 ρ2 y H2 g2 r2 q2 p3=>?_⟩;obtain⟨u,rfl,p4⟩:=post_bool p3;exact ai r2 p4 _ q2
  | true =>rw[if_pos rfl] at p2 |-;exact ai r1 p2 _ VR.bl
 ·simp only[LI,aF,aT] at p
  refine⟨ρ,env,h,hE,r,mw p λv h1 p1=>?_⟩;obtain⟨t,rfl,p2⟩:=post_bool p1;refine⟨t,rfl,λρ1 H1 g1 r1=>?_⟩;have p2:=Post.up g1 p2;cases t with
  | false =>rw[if_neg Bool.false_ne_true] at p2 |-;simp only[aT,cK] at p2;refine⟨ρ1,env,h1,hE.up g1,r1,mw p2 λw h2 p3=>?_⟩;obtain⟨u,rfl,p4⟩:=post_bool p3;exact⟨u,rfl,λρ2 H2 g2 r2=>by obtain⟨t',e',w'⟩:=cR r2 (Post.up g2 p4);cases (show some u=some t' from e');exact w'⟩
  | true =>rw[if_pos rfl] at p2 |-;obtain⟨t',e',w'⟩:=cR r1 (show Post _ _ ρ1 H1 _ (ask (λh=>cX h (.bl true)) h1) from p2);cases (show some true=some t' from e');exact w'
theorem JV(ha:bW Φ a):bW Φ (.not a):=by
 intro Γ k X cl EX e c h;rw[aG.eq_def] at h;dsimp only at h;split at h<;>first|cases h|skip
 rename_i l pos;refine⟨(Io (ha Γ k X cl EX l c h).1).imp λσ H Q ⟨ρ,env,h,hE,r,p⟩=>?_,(Il (ha Γ k X cl EX l c h).2).imp λσ H Q ⟨ρ,env,h,hE,r,p⟩=>?_⟩
 ·simp only[aF] at p;refine⟨ρ,env,h,hE,r,aq p λv h1 ρ1 x H1 g1 r1 q1 p1=>?_⟩;obtain⟨t,rfl,p2⟩:=post_bool p1;rw[VR] at q1;exact⟨t,q1,ai r1 p2 _ VR.bl⟩
 ·simp only[LI,aF,aT] at p;refine⟨ρ,env,h,hE,r,mw p λv h1 p1=>?_⟩;obtain⟨t,rfl,p2⟩:=post_bool p1;refine⟨t,rfl,λρ1 H1 g1 r1=>?_⟩;obtain⟨t',e',w'⟩:=cR r1 (show Post _ _ ρ1 H1 _ (ask (λh=>cX h (.bl (!t))) h1) from Post.up g1 p2);cases (show some (!t)=some t' from e');exact w'
theorem JW(ht:bW Φ t)(ha:bW Φ a)(hb:bW Φ b):bW Φ (.ite t a b):=pq λ_ _=>rfl
theorem JX(hs:jm Φ es):bW Φ (.tup es):=by
 intro Γ k X cl EX e c h;rw[aG.eq_def] at h;dsimp only at h;split at h<;>first|cases h|skip
 rename_i ls x1 pos;have q:PE X (.Tuple ls x1 pos) (tV Φ (bd X cl) EX (.tup es)):=by refine(IX (hs.1 Γ k X cl EX ls c h)).imp λσ H Q aJ=>?_;obtain⟨ρ,env,h,hE,r,p⟩:=aJ;simp only[aF] at p;refine⟨ρ,env,h,hE,r,aY p λvs h1 ρ1 H1 g1 r1 p1 xs q1=>?_⟩;obtain⟨e1,p2⟩:=aN p1;exact⟨by rw[<-q1.length];exact of_decide_eq_true e1,λq hq=>o7 r1 hq q1 p2⟩
 exact⟨q,cy q λ_=>rfl⟩
theorem JY(hs:jm Φ es):bW Φ (.lst es):=by
 intro Γ k X cl EX e c h;rw[aG.eq_def] at h;dsimp only at h;split at h<;>first|cases h|skip
 rename_i ls pos;have q:PE X (.List ls pos) (tV Φ (bd X cl) EX (.lst es)):=by refine(IY (hs.1 Γ k X cl EX ls c h)).imp λσ H Q aJ=>?_;obtain⟨ρ,env,h,hE,r,p⟩:=aJ;simp only[aF] at p;refine⟨ρ,env,h,hE,r,aY p λvs h1 ρ1 H1 g1 r1 p1 xs q1=>?_⟩;obtain⟨e1,p2⟩:=aN p1;exact⟨by rw[<-q1.length];exact of_decide_eq_true e1,λq hq=>cE r1 hq q1 p2⟩
 exact⟨q,cy q λ_=>rfl⟩
theorem ES:bW Φ .dct0:=by
 intro Γ k X cl EX e c h;rw[aG.eq_def] at h;dsimp only at h;split at h<;>first|cases h|skip
 rename_i pos;have q:PE X (.Dict [] [] pos) (tV Φ (bd X cl) EX .dct0):=by refine(A6 (X:=X) (pos:=pos)).imp λσ H Q aJ=>?_;obtain⟨ρ,env,h,hE,r,p⟩:=aJ;simp only[aF] at p;exact λa ha=>uF (o:=.dct []) (O:=.dK []) r ha ⟨[],aR,(by rw[fN])⟩ p
 exact⟨q,cy q λ_=>rfl⟩
theorem JZ(ha:bW Φ a)(hb:bW Φ b):bW Φ (.idx a b):=by
 intro Γ k X cl EX e c h;rw[aG.eq_def] at h;dsimp only at h;split at h<;>first|cases h|skip
 rename_i l r pos;simp only[and_eq_true] at h;have q:PE X (.Subscript l r pos) (tV Φ (bd X cl) EX (.idx a b)):=by refine(MK (JD (cl:=cl) c.units) (ha Γ k X cl EX l c h.1.2).1 (hb Γ k X cl EX r c h.2).1 (wV h.1.1)).imp λσ H Q aJ=>?_;obtain⟨ρ,env,h,hE,r,p⟩:=aJ;simp only[aF] at p;refine⟨ρ,env,h,hE,r,aq p λv h1 ρ1 x H1 g1 r1 q1 p1=>⟨ρ1,env,h1,hE.up g1,r1,aq p1 λw h2 ρ2 y H2 g2 r2 q2 p2=>?_⟩⟩;obtain⟨z,e,w'⟩:=cR r2 p2;exact⟨ρ2,h2,v,w,z,r2,VR.up g2 _ _ q1,q2,e,w'⟩
 exact⟨q,cy q λ_=>rfl⟩
noncomputable def LK(Φ:Fn)(ir:IE)(env:Env):M (Option Int):=if cG ir=true then ret none else bnd (aF Φ ir env) λv=>bnd (bg (gX v)) λi=>ret (some i)
noncomputable def tP(Φ:Fn)(B:Bd)(EX:Nat->List V->Hp->Prop)(ir:IE):TO:=λσ H Q=>∃ρ env h,cS B.K ρ env σ H/\HR B ρ h H/\Post B EX ρ H (λo _ _ H'=>Q o H') (LK Φ ir env h)
theorem zZ{i:Int}(h:gX d=some i):d=.int i:=by cases d<;>cases h;rfl
theorem sP(hi:bW Φ ir)(c:Ctx Φ Γ k X cl EX)(h:(match o with|none=>cG ir|some e=>!cG ir&&aG Γ ir e)=true):PO X o (tP Φ (bd X cl) EX ir):=by
 cases o with
 | none =>refine Ea.imp λσ H Q aJ=>?_;obtain⟨ρ,env,h',hE,r,p⟩:=aJ;unfold LK at p;rw[if_pos h] at p;exact ai r p
 | some e =>simp only[and_eq_true,not_eq_true'] at h;refine(Eb (hi Γ k X cl EX e c h.2).1).imp λσ H Q aJ=>?_;obtain⟨ρ,env,h',hE,r,p⟩:=aJ;unfold LK at p;rw[if_neg (by rw[h.1];exact Bool.false_ne_true)] at p;refine⟨ρ,env,h',hE,r,aq p λv h1 ρ1 x H1 g1 r1 q1 p1=>?_⟩;obtain⟨i,e1,p2⟩:=cJ p1;cases zZ e1;rw[VR] at q1;exact⟨i,q1,ai r1 p2⟩
theorem J0{a lo hi:IE}(ha:bW Φ a)(hl:bW Φ lo)(hh:bW Φ hi):bW Φ (.slc a lo hi):=by
 intro Γ k X cl EX e c h;rw[aG.eq_def] at h;dsimp only at h;split at h<;>first|cases h|skip
 rename_i l l' h' p2 pos;simp only[and_eq_true] at h;have q:PE X (.Subscript l (.Slice l' h' none p2) pos) (tV Φ (bd X cl) EX (.slc a lo hi)):=by refine(AW (JE (cl:=cl) (EX:=EX)) (ha Γ k X cl EX l c h.1.1).1 (sP hl c h.1.2) (sP hh c h.2)).imp λσ H Q aJ=>?_;obtain⟨ρ,env,h,hE,r,p⟩:=aJ;simp only[aF] at p;refine⟨ρ,env,h,hE,r,aq p λv h1 ρ1 x H1 g1 r1 q1 p1=>⟨ρ1,env,h1,hE.up g1,r1,aY (m:=LK Φ lo env) p1 λlo' h2 ρ2 H2 g2 r2 p3=>⟨ρ2,env,h2,(hE.up g1).up g2,r2,aY (m:=LK Φ hi env) p3 λhi' h3 ρ3 H3 g3 r3 p4=>?_⟩⟩⟩;exact⟨ρ3,h3,v,r3,VR.up (g2.trans g3) _ _ q1,p4⟩
 exact⟨q,cy q λ_=>rfl⟩
theorem J1(ha:bW Φ a)(hs:bW Φ sx):bW Φ (.rev a sx):=by
 intro Γ k X cl EX e c h;rw[aG.eq_def] at h;dsimp only at h;split at h<;>first|cases h|skip
 rename_i l st p2 pos;simp only[and_eq_true] at h;obtain⟨⟨h1,h2⟩,h3⟩:=h;obtain⟨st,rfl⟩:=Option.isSome_iff_exists.mp h2;have q:PE X (.Subscript l (.Slice none none (some st) p2) pos) (tV Φ (bd X cl) EX (.rev a sx)):=by refine(Ju (ha Γ k X cl EX l c h1).1 (sP hs c h3)).imp λσ H Q aJ=>?_;obtain⟨ρ,env,h,hE,r,p⟩:=aJ;simp only[aF] at p;refine⟨ρ,env,h,hE,r,aq p λv h1 ρ1 x H1 g1 r1 q1 p1=>⟨ρ1,env,h1,hE.up g1,r1,aY (m:=LK Φ sx env) p1 λlo' h2 ρ2 H2 g2 r2 p3=>?_⟩⟩;obtain⟨e1,p4⟩:=aN p3;obtain⟨xs,e2,p5⟩:=aA p4;obtain⟨ad,ys,rfl,k1,k2⟩:=eL r2 (VR.up g2 _ _ q1) e2;exact⟨of_decide_eq_true e1,ad,ys,rfl,k1,λq hq=>cE r2 hq (av.rev k2) p5⟩
 exact⟨q,cy q λ_=>rfl⟩
theorem gZ:∀{dN:m8} {ls:List Expr} {vs:List Val} {h h':Hs},aM Γ dN ls=true->aV Φ dN env h=.ok vs h'->vs.length=ls.length:=by
 intro dN
 induction dN using m8.rec (motive_1:=λ_=>True) with
 | nil =>
  intro ls ds h h' a b;rw[aM] at a;simp only[aV,ret] at b;cases b;cases ls with
  | nil=>rfl
  | cons _ _=>cases a
 | cons e es _ ih =>
  intro ls ds h h' a b;rw[aM.eq_def] at a;dsimp only at a;cases ls with
  | nil=>cases a
  | cons l ls =>
   simp only[and_eq_true] at a;simp only[aV,bnd] at b;cases e1:aF Φ e env h with
   | ok v h1 =>
    rw[e1] at b;dsimp only at b;cases e2:aV Φ es env h1 with
    | ok vs h2 =>rw[e2] at b;cases b;simp[ih a.2 e2]
    | exc _ _ _=>rw[e2] at b;cases b
    | no=>rw[e2] at b;cases b
   | exc _ _ _=>rw[e1] at b;cases b
   | no=>rw[e1] at b;cases b
 | _=>trivial
theorem dw{α β:Type}{W:β -> Hs->List Addr->Hp->Prop}{W':α -> Hs->List Addr->Hp->Prop}{m:M α}{f:α -> M β}(p:Post B EX ρ H W (bnd m f h))(k:∀v h1 ρ1 H1,m h=.ok v h1->Gr ρ H ρ1 H1->HR B ρ1 h1 H1->Post B EX ρ1 H1 W (f v h1)->W' v h1 ρ1 H1):Post B EX ρ H W' (m h):=by
 unfold bnd at p;cases e:m h with
 | ok v h1=>rw[e] at p;exact λρ1 H1 g r=>k v h1 ρ1 H1 e g r (Post.up g p)
 | exc c vs h1=>rw[e] at p;exact p
 | no=>rw[e] at p;exact p
theorem di{α:Type}{h:Hs}{W:α -> Hs->List Addr->Hp->Prop}{o:Out α}(n:∀c xs H,¬ EX c xs H)(p:Post B EX ρ H W o):Post B (λ_ _ _=>False) ρ H W o:=by
 cases o with
 | ok a h'=>exact p
 | exc c vs h'=>exact λρ' H' xs g r q=>n _ _ _ (p ρ' H' xs g r q)
 | no=>exact p
theorem yc{n c:Nat}{φ0:List Val->M Val}(r:HR B ρ h H)(hv:av B.K ρ H vs xs)(hl:vs.length=n)(p:Post B (λ_ _ _=>False) ρ H (WV B.K Q) (DH c φ0 vs h))
  (nx:H x=none) (nd:H dx=none) (ne:dx≠x):sO B (n+1) φ0 (.ref x::xs) (upd (upd H dx (.own x)) x (.ins (B.cl c) dx [])) (λv H2=>v=.non/\Q (.ref x) H2) E:=by
 have r1:HR B ρ h (upd H dx (.own x)):=r.side nd;have Uo:(upd H dx (.own x)) x=none:=by rw[az λz=>ne z.symm];exact nx
 have g:Gr ρ H (ρ ++ [x]) (upd (upd H dx (.own x)) x (.ins (B.cl c) dx [])):=(Gr.side nd).trans (Gr.new Uo);have r2:HR B (ρ ++ [x]) (h++[.ins c []]) (upd (upd H dx (.own x)) x (.ins (B.cl c) dx [])):=r1.new Uo ⟨dx,[],aR,rfl⟩;have hx:(ρ ++ [x])[h.length]?=some x:=by rw[<-r.len];simp
 refine⟨ρ ++ [x],h++[.ins c []],.ref h.length::vs,by simp[hl],r2,av.cons (VR.ref hx) (av.up g _ _ hv),?_⟩;have p2:Post B (λ_ _ _=>False) (ρ ++ [x]) (upd (upd H dx (.own x)) x (.ins (B.cl c) dx [])) (WV B.K Q) (bnd (φ0 (.ref h.length::vs)) (λr=>match r with|.non=>ret (.ref h.length)|_=>bg none) (h++[.ins c []])):=Post.up g p;refine aY p2 λv h1 ρ1 H1 g1 r3 p3 y hy=>?_;cases v<;>first|exact p3.elim|skip
 rw[VR] at hy;exact⟨hy,ai r3 p3 _ (VR.ref (nR g1.pre hx))⟩
theorem ET{j:Nat}{k:Nat}(hs:jm Φ es)(c:Ctx Φ Γ k X cl EX)
  (h:(uI Γ.sc x && Γ.fns[j]?==some (x,args.length)&&decide (args.length<1000)&&aM Γ es args)=true):PE X (.Call (.Name x p) args [] pos) (tV Φ (bd X cl) EX (.call j es))/\PT X (.Call (.Name x p) args [] pos) (tT Φ (bd X cl) EX (.call j es)):=by
 simp only[and_eq_true,beq_iff_eq,decide_eq_true_eq] at h;obtain⟨⟨⟨h1,h2⟩,h3⟩,h4⟩:=h;obtain⟨g1,g2,g3⟩:=c.gl h1;have room:cW k X.A:=c.room.mono (le_succ k);have q:PE X (.Call (.Name x p) args [] pos) (tV Φ (bd X cl) EX (.call j es)):=by
  rcases c.fns j x _ h2 with ⟨_,⟨f,fd,ps,f1,f2,f3,f4,f5⟩|⟨cc,f,fd,ps,φ0,f0,f1,f2,f3,f4,f5⟩⟩|⟨z,_⟩
  ·cases args with
   | nil =>
    cases es with
    | cons i dN=>rw[aM.eq_def] at h4;cases h4
    | nil =>refine(AS f5 room g1 f2 f3 f4 .nil oK g2).imp λσ H Q aJ=>?_;obtain⟨ρ,env,h,hE,r,p⟩:=aJ;simp only[aF,aV,cK] at p;exact⟨ρ,h,[],rfl,r,av.nil,di (h:=h) c.ku p⟩
   | cons l ls =>
    cases es with
    | nil=>rw[aM] at h4;cases h4
    | cons i dN =>have h5:=h4;rw[aM.eq_def] at h5;dsimp only at h5;simp only[and_eq_true] at h5;refine(D6 f5 room g1 f2 f3 f4 .nil oK (hs.1 Γ k X cl EX _ c h4) g2 (aQ h5.1.1) (fq h5.2)).imp λσ H Q aJ=>?_;obtain⟨ρ,env,h,hE,r,p⟩:=aJ;simp only[aF] at p;refine⟨ρ,env,h,hE,r,dw p λvs h1 ρ1 H1 e1 g1 r1 p1 xs q1=>⟨ρ1,h1,vs,gZ h4 e1,r1,by rw[append_nil];exact q1,di (h:=h1) c.ku p1⟩⟩
  ·cases args with
   | nil =>
    cases es with
    | cons i dN=>rw[aM.eq_def] at h4;cases h4
    | nil =>refine(AU f3 f5 c.room g1 f2 f4 .nil oK g2).imp λσ H Q aJ=>?_;obtain⟨ρ,env,h,hE,r,p⟩:=aJ;simp only[aF,aV,cK] at p;intro y dy ny QS QT;rw[f0] at p;exact yc (B:=bd X cl) r av.nil rfl (di (h:=h) c.ku p) ny QS QT
   | cons l ls =>
    cases es with
    | nil=>rw[aM] at h4;cases h4
    | cons i dN =>have h5:=h4;rw[aM.eq_def] at h5;dsimp only at h5;simp only[and_eq_true] at h5;refine(D7 f3 f5 c.room g1 f2 f4 .nil oK (hs.1 Γ k X cl EX _ c h4) g2 (aQ h5.1.1) (fq h5.2)).imp λσ H Q aJ=>?_;obtain⟨ρ,env,h,hE,r,p⟩:=aJ;simp only[aF] at p;refine⟨ρ,env,h,hE,r,dw p λvs h1 ρ1 H1 e1 g1 r1 p1 xs q1 y dy ny QS QT=>?_⟩;rw[f0] at p1;rw[append_nil];exact yc (B:=bd X cl) r1 q1 (gZ h4 e1) (di (h:=h1) c.ku p1) ny QS QT
  ·omega
 exact⟨q,cy q λ_=>rfl⟩
theorem EU{j:Nat}{k:Nat}(hs:jm Φ es)(c:Ctx Φ Γ k X cl EX)
  (h:(uI Γ.sc x && Γ.tb.DJ.contains (x,m,j)&&(match Γ.fns[j]? with|some (_,n)=>n==1000+args.length|none=>false)&&decide (args.length<29)&&ap.endLine==cp.line&&aM Γ es args && !args.isEmpty)=true) :
  PE X (.Call (.Attribute (.Name x p) m ap) args [] cp) (tV Φ (bd X cl) EX (.call j es))/\PT X (.Call (.Attribute (.Name x p) m ap) args [] cp) (tT Φ (bd X cl) EX (.call j es)):=by
 simp only[and_eq_true,beq_iff_eq,decide_eq_true_eq,contains_iff_mem] at h;obtain⟨⟨⟨⟨⟨⟨h1,h2⟩,h3⟩,h4⟩,h5⟩,h6⟩,h7⟩:=h;obtain⟨g1,g2,g3⟩:=c.gl h1;obtain⟨C,hm,cm⟩:=c.DJ _ h2;have hf:∃xx,Γ.fns[j]?=some (xx,1000+args.length):=by
  cases ef:Γ.fns[j]? with
  | none=>rw[ef] at h3;cases h3
  | some q=>rw[ef] at h3;obtain⟨q1,q2⟩:=q;exact⟨q1,by rw[show q2=_ from eq_of_beq h3]⟩
 obtain⟨xx,hf⟩:=hf;have room:cW k X.A:=c.room.mono (le_succ k)
 rcases c.fns j xx _ hf with ⟨z,_⟩|⟨_,fd,ps,f1,f4,f5⟩
 ·omega
 rw[show 1000+args.length-1000=args.length by omega] at f5;have few:((backTo cp (starEach args X.env)).all (λx=>!x.1)&&(backToKw cp (keywordEach [] X.env)).all (λx=>x.1.isSome)
   && decide (args.length+([]:List Keyword).length+(if ([]:List Keyword).isEmpty then 0 else 1)<30))=true:=by
  rw[pe h6];simp only[Bool.true_and,and_eq_true];exact⟨rfl,decide_eq_true (by simp;omega)⟩
 have hl:(ap.endLine==cp.line)=true:=by rw[h5];exact beq_self_eq_true _
 have q:PE X (.Call (.Attribute (.Name x p) m ap) args [] cp) (tV Φ (bd X cl) EX (.call j es)):=by
  cases args with
  | nil=>exact absurd h7 (by simp)
  | cons l ls =>
   cases es with
   | nil=>rw[aM] at h6;cases h6
   | cons i dN =>have h8:=h6;rw[aM.eq_def] at h8;dsimp only at h8;simp only[and_eq_true] at h8;refine(Jw (k:=k) f5 room g1 hm cm f4 (hs.1 Γ k X cl EX _ c h6) g2 few hl (aQ h8.1.1) (fq h8.2)).imp λσ H Q aJ=>?_;obtain⟨ρ,env,h,hE,r,p⟩:=aJ;simp only[aF] at p;refine⟨ρ,env,h,hE,r,dw p λvs h1 ρ1 H1 e1 g1 r1 p1 xs q1=>⟨ρ1,h1,vs,gZ h6 e1,r1,q1,di (h:=h1) c.ku p1⟩⟩
 exact⟨q,cy q λ_=>rfl⟩
theorem EW{j:Nat}(hs:jm Φ es):bW Φ (.call j es):=by
 intro Γ k X cl EX e c h;rw[aG.eq_def] at h;dsimp only at h;split at h<;>first|cases h|skip
 ·exact ET hs c h
 ·exact EU hs c h
theorem J2{n:Nat}(ha:bW Φ a):bW Φ (.fld n a x):=by
 intro Γ k X cl EX e c h;rw[aG.eq_def] at h;dsimp only at h;split at h<;>first|cases h|skip
 rename_i o y pos;simp only[and_eq_true,beq_iff_eq,contains_iff_mem] at h;obtain⟨⟨⟨⟨h1,h2⟩,h3⟩,h4⟩,h5⟩:=h;subst h1;have q:PE X (.Attribute o x pos) (tV Φ (bd X cl) EX (.fld n a x)):=by
  refine(pe_fld (ha Γ k X cl EX o c h5).1 (super_ok h2)).imp λσ H Q aJ=>?_;obtain⟨ρ,env,h,hE,r,p⟩:=aJ;simp only[aF] at p;refine⟨ρ,env,h,hE,r,aq p λv h1 ρ1 y H1 g1 r1 q1 p1=>?_⟩;obtain⟨z,e1,w⟩:=cR r1 p1;cases v<;>first|(cases e1;done)|(rw[VR] at q1;exact q1.elim)|skip
  rename_i i;rw[VR] at q1;obtain⟨ad,rfl,q1⟩:=q1;have hx:∃c0 fs,h1[i]?=some (.ins c0 fs)/\c0<n/\fs.lookup x=some z:=by
   change (match h1[i]? with|some (.ins c fs)=>if c<n then fs.lookup x else none|_=>none)=some z at e1;split at e1
   ·rename_i c0 fs e2
    split at e1
    ·rename_i hc;exact⟨c0,fs,e2,hc,e1⟩
    ·cases e1
   ·cases e1
  obtain⟨c0,fs,e2,hc,e3⟩:=hx;obtain⟨dx,gs,k1,k2⟩:=r1.ob i _ ad e2 q1;obtain⟨y,l1,l2⟩:=k2.look.2 z e3;obtain⟨cc,nn⟩:=c.cls c0 (by omega);exact⟨ad,cl c0,dx,gs,y,rfl,k1,cc,nn x h4,l1,w y l2⟩
 exact⟨q,cy q λ_=>rfl⟩
theorem uL:∀{js:List (Nat×Nat)} {c j:Nat},js.lookup c=some j->(c,j)∈js
 | (a,b)::r,c,j,e=>by
  rw[lookup_cons] at e;cases hb:c==a with
  | true=>rw[hb] at e;cases e;rw[eq_of_beq hb];exact mem_cons_self
  | false=>rw[hb] at e;exact mem_cons_of_mem _ (uL e)
theorem J3(ha:bW Φ a)(hs:jm Φ es):bW Φ (.mth a m js es):=by
 intro Γ k X cl EX e c h;rw[aG.eq_def] at h;dsimp only at h;split at h<;>first|cases h|skip
 rename_i o x ap args cp;simp only[and_eq_true,beq_iff_eq,all_eq_true,decide_eq_true_eq,contains_iff_mem] at h;obtain⟨⟨⟨⟨⟨⟨h1,h2⟩,h3⟩,h4⟩,h5⟩,h6⟩,h7⟩:=h;subst h1;have few:((backTo cp (starEach args X.env)).all (λx=>!x.1)&&(backToKw cp (keywordEach [] X.env)).all (λx=>x.1.isSome)
   && decide (args.length+([]:List Keyword).length+(if ([]:List Keyword).isEmpty then 0 else 1)<30))=true:=by
  rw[pe h7];simp only[Bool.true_and,and_eq_true];exact⟨rfl,decide_eq_true (by simp;omega)⟩
 have hl:(ap.endLine==cp.line)=true:=by rw[h4];exact beq_self_eq_true _
 have room:cW k X.A:=c.room.mono (le_succ k);have main:∀(σ:L2.St) (H:Hp) (Q:VK) (v:Val) (h1:Hs) (ρ1:List Addr) (y:V) (H1:Hp) (F:Nat->M Val),HR (bd X cl) ρ1 h1 H1->VR X.K ρ1 H1 v y->Post (bd X cl) EX ρ1 H1 (WV X.K Q) (bnd (ask λh=>jY h v x js) F h1) ->
   ∃j i ad c0 dx gs fd ps,v=.ref i/\y=.ref ad/\H1 ad=some (.ins (cl c0) dx gs)/\zp X.K (cl c0)/\Meth X.K (cl c0) x (cl (1000+j))/\gs.lookup x=none/\Binds X.K fd ps [] /\
    eB X.prog X.w X.K X.mg X.base vM k (cl (1000+j)) fd ps (sO (bd X cl) (1+args.length) (Φ j))/\Post (bd X cl) EX ρ1 H1 (WV X.K Q) (F j h1):=by
  intro σ H Q v h1 ρ1 y H1 F r1 q1 p1;obtain⟨j,e1,p2⟩:=aA p1;cases v<;>first|(cases e1;done)|(rw[VR] at q1;exact q1.elim)|skip
  rename_i i;rw[VR] at q1;obtain⟨ad,rfl,q1⟩:=q1;have hx:∃c0 fs,h1[i]?=some (.ins c0 fs)/\fs.lookup x=none/\js.lookup c0=some j:=by
   change (match h1[i]? with|some (.ins c fs)=>if (fs.lookup x).isNone=true then js.lookup c else none|_=>none)=some j at e1;split at e1
   ·rename_i c0 fs e2
    split at e1
    ·rename_i hc;exact⟨c0,fs,e2,by simpa using hc,e1⟩
    ·cases e1
   ·cases e1
  obtain⟨c0,fs,e2,hn,e3⟩:=hx;obtain⟨dx,gs,k1,k2⟩:=r1.ob i _ ad e2 q1;obtain⟨⟨m1,m2⟩,m3⟩:=h5 _ (uL e3);dsimp only at m1 m2 m3;have cc:=(c.cls c0 m1).1;have mm:=c.EK _ m2;dsimp only at mm;have hf:∃xx,Γ.fns[j]?=some (xx,1001+args.length):=by
   cases ef:Γ.fns[j]? with
   | none=>rw[ef] at m3;cases m3
   | some q=>rw[ef] at m3;obtain⟨q1,q2⟩:=q;exact⟨q1,by rw[show q2=_ from eq_of_beq m3]⟩
  obtain⟨xx,hf⟩:=hf
  rcases c.fns j xx _ hf with ⟨z,_⟩|⟨_,fd,ps,f1,f4,f5⟩
  ·omega
  ·rw[show 1001+args.length-1000=1+args.length by omega] at f5;exact⟨j,i,ad,c0,dx,gs,fd,ps,rfl,rfl,k1,cc,mm,k2.look.1 hn,f4,f5,p2⟩
 have q:PE X (.Call (.Attribute o x ap) args [] cp) (tV Φ (bd X cl) EX (.mth a x js es)):=by
  cases args with
  | nil =>
   cases es with
   | cons i dN=>rw[aM.eq_def] at h7;cases h7
   | nil =>refine(pe_mth0 (k:=k) (ha Γ k X cl EX o c h6).1 (super_ok h2) hl room).imp λσ H Q aJ=>?_;obtain⟨ρ,env,h,hE,r,p⟩:=aJ;simp only[aF,aV,cK] at p;refine⟨ρ,env,h,hE,r,aq p λv h1 ρ1 y H1 g1 r1 q1 p1=>?_⟩;obtain⟨j,i,ad,c0,dx,gs,fd,ps,rfl,rfl,k1,cc,mm,k2,f4,f5,p2⟩:=main σ H Q v h1 ρ1 y H1 _ r1 q1 p1;exact⟨ad,cl c0,dx,gs,cl (1000+j),fd,ps,_,rfl,k1,cc,mm,k2,f4,f5,ρ1,h1,[.ref i],rfl,r1,av.cons q1 av.nil,di (h:=h1) c.ku p2⟩
  | cons l ls =>
   cases es with
   | nil=>rw[aM] at h7;cases h7
   | cons i dN =>have h8:=h7;rw[aM.eq_def] at h8;dsimp only at h8;simp only[and_eq_true] at h8;refine(pe_mthD (k:=k) (ha Γ k X cl EX o c h6).1 (hs.1 Γ k X cl EX _ c h7) (super_ok h2) few hl room (aQ h8.1.1) (fq h8.2)).imp λσ H Q aJ=>?_;obtain⟨ρ,env,h,hE,r,p⟩:=aJ;simp only[aF] at p;refine⟨ρ,env,h,hE,r,aq p λv h1 ρ1 y H1 g1 r1 q1 p1=>?_⟩;obtain⟨j,i,ad,c0,dx,gs,fd,ps,rfl,rfl,k1,cc,mm,k2,f4,f5,p2⟩:=main σ H Q v h1 ρ1 y H1 _ r1 q1 p1;refine⟨ad,cl c0,dx,gs,cl (1000+j),fd,ps,_,rfl,k1,cc,mm,k2,f4,f5,ρ1,env,h1,hE.up g1,r1,dw p2 λvs h2 ρ2 H2 e4 g2 r2 p3 xs q2=>?_⟩;refine⟨ρ2,h2,.ref i::vs,?_,r2,av.cons (VR.up g2 _ _ q1) q2,di (h:=h2) c.ku p3⟩;rw[length_cons,gZ h7 e4];omega
 exact⟨q,cy q λ_=>rfl⟩
end
end Hv
end
section
namespace Hv
open PySem L2 PyProof.Rows
section
variable {Φ:Fn} {Γ:o9} {k:Nat} {X:Cx} {cl:Nat->Addr} {EX:Nat->List V->Hp->Prop}
theorem J4:bootBuiltins "all" = some (.builtin "all"):=by decide +kernel
theorem J5:bootBuiltins "any" = some (.builtin "any"):=by decide +kernel
theorem mz:bootBuiltins "sorted" = some (.builtin "sorted"):=by decide +kernel
theorem J6:bootBuiltins "min" = some (.builtin "min"):=by decide +kernel
theorem J7:bootBuiltins "max" = some (.builtin "max"):=by decide +kernel
theorem sQ:bootBuiltins "list" = some (.type "list"):=by decide +kernel
theorem uM:bootBuiltins "tuple" = some (.type "tuple"):=by decide +kernel
theorem BK:bootBuiltins "str" = some (.type "str"):=by decide +kernel
theorem BL:bootBuiltins "int" = some (.type "int"):=by decide +kernel
theorem EY:bootBuiltins "bool" = some (.type "bool"):=by decide +kernel
theorem EZ:bootBuiltins "dict" = some (.type "dict"):=by decide +kernel
theorem yd:bootBuiltins "isinstance" = some (.builtin "isinstance"):=by decide +kernel
theorem uN:aV Φ (.cons e .nil) env=bnd (aF Φ e env) λd=>ret [d]:=by
 simp only[aV,cK]
theorem six{T:String}(h:["list","tuple","str","bool","int","dict"].contains T=true):T = "list" \/ T = "tuple" \/ T = "str" \/ T = "bool" \/ T = "int" \/ T = "dict":=by simpa using h
theorem E4{T:String}(h:["list","tuple","str","bool","int","dict"].contains T=true):(T:Str)∈fk/\bootBuiltins (T:Str)=some (.type T)/\(T:Str) ≠ "__name__" /\ ((T:Str)==("__debug__":Str))=false:=by
 rcases six h with rfl|rfl|rfl|rfl|rfl|rfl
 ·exact⟨by decide,sQ,by decide,by decide⟩
 ·exact⟨by decide,uM,by decide,by decide⟩
 ·exact⟨by decide,BK,by decide,by decide⟩
 ·exact⟨by decide,EY,by decide,by decide⟩
 ·exact⟨by decide,BL,by decide,by decide⟩
 ·exact⟨by decide,EZ,by decide,by decide⟩
theorem E5{T:String}(hs:jm Φ es):bW Φ (.blt (.isin T) es):=by
 intro Γ k X cl EX e c h;rw[aG.eq_def] at h;dsimp only at h;split at h<;>first|cases h|skip
 rename_i x p args pos;simp only[and_eq_true,beq_iff_eq] at h;obtain⟨⟨h1,h2⟩,h3⟩:=h;subst h2;obtain⟨g1,g2,g3⟩:=c.gl h1;split at h3<;>first|cases h3|skip
 rename_i a y yp;simp only[and_eq_true,beq_iff_eq] at h3;obtain⟨⟨⟨k1,k2⟩,k3⟩,k4⟩:=h3;obtain⟨b1,b2,b3,b4⟩:=E4 k3;obtain⟨y1,y2,y3⟩:=c.gl k1;subst k2;cases es with
 | nil=>rw[aM] at k4;cases k4
 | cons i dN =>
  rw[aM.eq_def] at k4;dsimp only at k4;simp only[and_eq_true] at k4;cases dN with
  | cons j dN=>have:=k4.2;rw[aM.eq_def] at this;cases this
  | nil =>
   have q:PE X (.Call (.Name (M7 (.isin T)) p) [a,.Name (T:Str) yp] [] pos) (tV Φ (bd X cl) EX (.blt (.isin T) (.cons i .nil))):=by refine(fh (EH (cl:=cl) (EX:=EX) (T:=T)) g1 (c.blt _ (show ("isinstance":Str)∈fk by decide)) yd (kQ (hs.2.1 Γ k X cl EX a c k4.1.2).1 (kQ (DP (v:=.ty T) y1 (c.blt _ b1) b2 rfl b3 b4) v9) (aQ k4.1.1)) g3 g2 (aQ k4.1.1)).imp λσ H Q aJ=>?_;obtain⟨ρ,env,h,hE,r,p⟩:=aJ;simp only[aF,uN,aT,cK] at p;exact⟨ρ,env,h,hE,r,aq p λv h1 ρ1 x H1 g1 r1 q1 p1=>⟨ρ1,h1,v,x,rfl,r1,q1,p1⟩⟩
   exact⟨q,cy q λ_=>rfl⟩
theorem J8:bootBuiltins "set" = some (.type "set"):=by decide +kernel
theorem E6(ha:bW Φ a):bW Φ (.sset a):=by
 intro Γ k X cl EX e c h;rw[aG.eq_def] at h;dsimp only at h;split at h<;>first|cases h|skip
 rename_i x p1 y p2 l pos2 pos1;simp only[and_eq_true,beq_iff_eq] at h;obtain⟨⟨⟨⟨⟨h1,h2⟩,h3⟩,h4⟩,h5⟩,h6⟩:=h;subst h1;subst h2;have q:PE X (.Call (.Name "sorted" p1) [.Call (.Name "set" p2) [l] [] pos2] [] pos1) (tV Φ (bd X cl) EX (.sset a)):=by have qe:=(ha Γ k X cl EX l c h6).1;intro pins s σ H Q I hh;have hd:X.A.handled=none:=I.ok.hd c.calm;refine((Ez hd (c.gl h3).1 (c.blt _ (by decide)) (c.gl h4).1 (c.blt _ (by decide)) mz J8 qe (aQ (env:=X.env) (es:=[]) h5)).imp λσ H Q ⟨ρ,env,h,hE,r,p⟩=>?_) pins s σ H Q I hh;simp only[aF] at p;refine⟨ρ,env,h,hE,r,aq p λv h1 ρ1 x H1 g1 r1 q1 p1=>?_⟩;obtain⟨zs,e,p1⟩:=aA p1;obtain⟨ns,e1,p1⟩:=cJ p1;obtain⟨e2,p1⟩:=aN p1;obtain⟨b,ys,rfl,q2,q3⟩:=eL r1 q1 e;rw[fT e1] at q3;rw[av.ints.mp q3] at q2;exact⟨b,ns,rfl,q2,of_decide_eq_true e2,λl hl=>cE r1 hl (av.ints.mpr rfl) p1⟩
 exact⟨q,cy q λ_=>rfl⟩
theorem E7{d k x:IE}(hd:bW Φ d)(hk:bW Φ k)(hx:bW Φ x):bW Φ (.dget d k x):=by
 intro Γ n X cl EX e c h;rw[aG.eq_def] at h;dsimp only at h;split at h<;>first|cases h|skip
 rename_i o m ap a b cp;simp only[and_eq_true,beq_iff_eq] at h;obtain⟨⟨⟨⟨⟨⟨⟨h1,h2⟩,h3⟩,h4⟩,h5⟩,h6⟩,h7⟩,h8⟩:=h;subst h1;have st:starEach [a,b] X.env=[(false,eval a X.env),(false,eval b X.env)]:=by rw[aQ h3,aQ h4];rfl
 have m2:M2 X o "get" ap a b cp:=⟨super_ok h2,by rw[st];rfl,by rw[h5];exact beq_self_eq_true _,by rw[st];rfl⟩;have q:PE X (.Call (.Attribute o "get" ap) [a,b] [] cp) (tV Φ (bd X cl) EX (.dget d k x)):=by
  refine(Ba (by have:=c.units;omega) (hd Γ n X cl EX o c h6).1 (hk Γ n X cl EX a c h7).1 (hx Γ n X cl EX b c h8).1 m2).imp λσ H Q aJ=>?_;obtain⟨ρ,env,h,hE,r,p⟩:=aJ;simp only[aF] at p;refine⟨ρ,env,h,hE,r,aq p λv h1 ρ1 y H1 g1 r1 q1 p1=>?_⟩;obtain⟨u0,e1,pA⟩:=aA p1;clear p1;cases v<;>first|(cases e1;done)|(rw[VR] at q1;exact q1.elim)|skip
  rename_i i;rw[VR] at q1;obtain⟨ad,rfl,q1⟩:=q1;have hdc:∃kvs,h1[i]?=some (.dct kvs):=by
   change (match h1[i]? with|some (.dct _)=>some ()|_=>none)=some _ at e1;split at e1
   ·rename_i kvs e2;exact⟨kvs,e2⟩
   ·cases e1
  obtain⟨kvs,e2⟩:=hdc;obtain⟨ks,k1,k2⟩:=r1.ob i _ ad e2 q1;refine⟨ad,rfl,.inl ⟨ks,.inl k1⟩,ρ1,env,h1,hE.up g1,r1,aq pA λw h2 ρ2 y2 H2 g2 r2 q2 p2=>?_⟩;obtain⟨kk,e3,p2⟩:=cJ p2;refine⟨ρ2,env,h2,(hE.up g1).up g2,r2,aq p2 λz h3 ρ3 y3 H3 g3 r3 q3 p3=>?_⟩;obtain⟨rr,e4,p3⟩:=aA p3;have q4:ρ3[i]?=some ad:=nR (g2.trans g3).pre q1;have V6:∃kvs,h3[i]?=some (.dct kvs)/\rr=bN kvs kk:=by
   change (match h3[i]? with|some (.dct kvs)=>some (bN kvs kk)|_=>none)=some rr at e4;split at e4
   ·rename_i kvs e2;cases e4;exact⟨kvs,e2,rfl⟩
   ·cases e4
  obtain⟨QU,e5,rfl⟩:=V6;obtain⟨V7,k3,k4⟩:=r3.ob i _ ad e5 q4;have ek:y2=kV kk:=by
   cases w<;>first|(cases e3;done)|skip
   ·cases e3;rw[VR] at q2;exact q2
   ·cases e3;rw[VR] at q2;exact q2
  refine⟨gH V7 kk,by rw[ek];exact jX.k k3,?_⟩;cases ev:bN QU kk with
  | none =>rw[ev] at p3;rw[(fN.val kk k4).1 ev];exact ai r3 p3 _ q3
  | some z' =>obtain⟨t,e6,q6⟩:=(fN.val kk k4).2 z' ev;rw[ev] at p3;rw[e6];exact ai r3 p3 _ q6
 exact⟨q,cy q λ_=>rfl⟩
theorem ye{K:PySem.W.Frag}{ρ:List Addr}{H:Hp}:∀{kvs:List (Key×Val)} {ks:List (Key×V)},fN K ρ H kvs ks->av K ρ H ((kvs.map (·.1)).map ED) (ks.map λkv=>kV kv.1)
 | [],ks,q=>by rw[fN] at q;subst q;exact rfl
 | (k,v)::kvs,ks,q=>by
  rw[fN] at q;obtain⟨x,r,rfl,_,q⟩:=q;refine⟨kV k,_,rfl,?_,ye q⟩;cases k with
  | inl i=>exact VR.int
  | inr s=>exact VR.str
theorem z4{oz:Unit}:∀(σ:L2.St) (H:Hp) (Q:VK),tV Φ (bd X cl) EX (.lkeys d) σ H Q->Uh (tV Φ (bd X cl) EX d) σ H Q:=λσ H Q ⟨ρ,env,h,hE,r,p⟩=>by
 simp only[aF] at p;refine⟨ρ,env,h,hE,r,aq p λv h1 ρ1 y H1 g1 r1 q1 p1=>?_⟩;obtain⟨QV,e1,pA⟩:=aA p1;clear p1;cases v<;>first|(cases e1;done)|(rw[VR] at q1;exact q1.elim)|skip
 rename_i i;rw[VR] at q1;obtain⟨ad,rfl,q1⟩:=q1;have hdc:∃kvs,h1[i]?=some (.dct kvs)/\QV=kvs.map (·.1):=by
  change (match h1[i]? with|some (.dct kvs)=>some (kvs.map (·.1))|_=>none)=some _ at e1;split at e1
  ·rename_i kvs e2;cases e1;exact⟨kvs,e2,rfl⟩
  ·cases e1
 obtain⟨kvs,e2,rfl⟩:=hdc;obtain⟨ks,k1,k2⟩:=r1.ob i _ ad e2 q1;exact⟨ad,ks,rfl,k1,λl hl=>cE r1 hl (ye k2) pA⟩
theorem BN(hd:bW Φ d):bW Φ (.lkeys d):=by
 intro Γ n X cl EX e c h;rw[aG.eq_def] at h;dsimp only at h;split at h<;>first|cases h|skip
 ·rename_i x p y qp pos
  simp only[and_eq_true,beq_iff_eq] at h;obtain⟨⟨h1,h3⟩,h6⟩:=h;subst h1;have q:PE X (.Call (.Name "list" p) [.Name y qp] [] pos) (tV Φ (bd X cl) EX (.lkeys d)):=by have qe:=(hd Γ n X cl EX _ c h6).1;intro pins s σ H Q I hh;have hdl:X.A.handled=none:=I.ok.hd c.calm;exact((zP hdl (aQ rfl) (c.gl h3).1 (c.blt _ (by decide)) sQ qe).imp (z4 (oz:=()))) pins s σ H Q I hh
  exact⟨q,cy q λ_=>rfl⟩
theorem E8{d k x:IE}(hd:bW Φ d)(hk:bW Φ k)(hx:bW Φ x):bW Φ (.sdef d k x):=pq λ_ _=>rfl
theorem yf{α β:Type}{f:α -> β}:∀{l:List α},(l.map f).Nodup->∀a∈l,∀b∈l,f a=f b->a=b
 | x::l,h,a,ha,b,hb,e=>by
  rw[map_cons,nodup_cons] at h
  rcases mem_cons.mp ha with e1|ha2
  ·rcases mem_cons.mp hb with e2|hb2
   ·rw[e1,e2]
   ·rw[e1] at e;exact(h.1 (e▸mem_map_of_mem hb2)).elim
  ·rcases mem_cons.mp hb with e2|hb2
   ·rw[e2] at e;exact(h.1 (e▸mem_map_of_mem ha2)).elim
   ·exact yf h.2 a ha2 b hb2 e
theorem yg{K:PySem.W.Frag}{ρ:List Addr}{H:Hp}:∀{kvs:List (Key×Val)} {ks:List (Key×V)},fN K ρ H kvs ks->ks.map (·.1)=kvs.map (·.1)
 | [],ks,q=>by rw[fN] at q;subst q;rfl
 | (k,v)::kvs,ks,q=>by
  rw[fN] at q;obtain⟨x,r,rfl,_,q⟩:=q;rw[map_cons,map_cons,yg q]
theorem yh:∀{ks:List Key} {ns:List Int},rj ks=some ns->ks=ns.map Sum.inl
 | [],ns,e=>by cases e;rfl
 | k::ks,ns,e=>by
  unfold rj at e;rw[cj] at e;obtain⟨i,e1,e⟩:=bind_eq_some_iff.mp e;obtain⟨r,e2,e⟩:=bind_eq_some_iff.mp e;cases e;cases k with
  | inl j=>cases e1;rw[yh e2];rfl
  | inr _=>cases e1
theorem z5{oz:Unit}:∀(σ:L2.St) (H:Hp) (Q:VK),tV Φ (bd X cl) EX (.skeys d) σ H Q->Ui (tV Φ (bd X cl) EX d) σ H Q:=λσ H Q ⟨ρ,env,h,hE,r,p⟩=>by
 simp only[aF] at p;refine⟨ρ,env,h,hE,r,aq p λv h1 ρ1 y H1 g1 r1 q1 p1=>?_⟩;obtain⟨Y0,e1,pA⟩:=aA p1;clear p1;unfold sN at e1;obtain⟨QV,e5,e6⟩:=bind_eq_some_iff.mp e1;clear e1;obtain⟨ns,e3,e4⟩:=bind_eq_some_iff.mp e6;clear e6;have e1:=e5;clear e5;cases v<;>first|(cases e1;done)|(rw[VR] at q1;exact q1.elim)|skip
 rename_i i;rw[VR] at q1;obtain⟨ad,rfl,q1⟩:=q1;have hdc:∃kvs,h1[i]?=some (.dct kvs)/\QV=kvs.map (·.1):=by
  change (match h1[i]? with|some (.dct kvs)=>some (kvs.map (·.1))|_=>none)=some _ at e1;split at e1
  ·rename_i kvs e2;cases e1;exact⟨kvs,e2,rfl⟩
  ·cases e1
 obtain⟨kvs,e2,rfl⟩:=hdc;obtain⟨ks,k1,k2⟩:=r1.ob i _ ad e2 q1
 by_cases hl:ns.length<64
 ·rw[if_pos hl] at e4;cases e4;exact⟨ad,ks,ns,rfl,k1,(yg k2).trans (yh e3),hl,λl hl=>cE r1 hl (av.ints.mpr rfl) pA⟩
 ·rw[if_neg hl] at e4;cases e4
theorem BO(hd:bW Φ d):bW Φ (.skeys d):=by
 intro Γ n X cl EX e c h;rw[aG.eq_def] at h;dsimp only at h;split at h<;>first|cases h|skip
 ·rename_i x p y qp pos
  simp only[and_eq_true,beq_iff_eq] at h;obtain⟨⟨h1,h3⟩,h6⟩:=h;subst h1;have q:PE X (.Call (.Name "sorted" p) [.Name y qp] [] pos) (tV Φ (bd X cl) EX (.skeys d)):=by have qe:=(hd Γ n X cl EX _ c h6).1;intro pins s σ H Q I hh;have hdl:X.A.handled=none:=I.ok.hd c.calm;exact((zQ hdl (aQ rfl) (c.gl h3).1 (c.blt _ (by decide)) mz qe).imp (z5 (oz:=()))) pins s σ H Q I hh
  exact⟨q,cy q λ_=>rfl⟩
theorem BP(hd:bW Φ d):bW Φ (.svals d):=pq λ_ _=>rfl
theorem J9(hs:jm Φ es):bW Φ (.blt b es):=by
 cases b with
 | isin T=>exact E5 hs
 | _ =>
  intro Γ k X cl EX e c h;rw[aG.eq_def] at h;dsimp only at h;split at h<;>first|cases h|skip
  rename_i x p args pos;simp only[and_eq_true,beq_iff_eq] at h;obtain⟨⟨h1,h2⟩,h3⟩:=h;subst h2;obtain⟨g1,g2,g3⟩:=c.gl h1;cases args with
  | nil=>cases h3.1
  | cons l ls =>
   cases es with
   | nil=>have:=h3.2;rw[aM] at this;cases this
   | cons i dN =>
    have h5:=h3.2;rw[aM.eq_def] at h5;dsimp only at h5;simp only[and_eq_true] at h5;have hA:=hs.1 Γ k X cl EX _ c h3.2;have st:=aQ (env:=X.env) (es:=ls) h5.1.1;have an:=fq (pos:=pos) (env:=X.env) h5.2;refine(λq=>⟨q,cy q λ_=>rfl⟩) ?_
    first
     | refine(fh (JF (cl:=cl) (EX:=EX)) g1 (c.blt _ (by decide)) PySem.boot_len hA g3 g2 st an).imp λσ H Q ⟨ρ,env,h,hE,r,p⟩=>?_
     | refine(fh (JG (cl:=cl) (EX:=EX) c.calm) g1 (c.blt _ (by decide)) J6 hA g3 g2 st an).imp λσ H Q ⟨ρ,env,h,hE,r,p⟩=>?_
     | refine(fh (JH (cl:=cl) (EX:=EX) c.calm) g1 (c.blt _ (by decide)) J7 hA g3 g2 st an).imp λσ H Q ⟨ρ,env,h,hE,r,p⟩=>?_
     | refine(fh (zV (cl:=cl) (EX:=EX)) g1 (c.blt _ (by decide)) mz hA g3 g2 st an).imp λσ H Q ⟨ρ,env,h,hE,r,p⟩=>?_
     | refine(fh (JK (cl:=cl) (EX:=EX) c.calm) g1 (c.blt _ (by decide)) J4 hA g3 g2 st an).imp λσ H Q ⟨ρ,env,h,hE,r,p⟩=>?_
     | refine(fh (JL (cl:=cl) (EX:=EX) c.calm) g1 (c.blt _ (by decide)) J5 hA g3 g2 st an).imp λσ H Q ⟨ρ,env,h,hE,r,p⟩=>?_
     | refine(jL (EF (cl:=cl) (EX:=EX)) g1 (c.blt _ (by decide)) sQ hA g3 g2 st an).imp λσ H Q ⟨ρ,env,h,hE,r,p⟩=>?_
     | refine(jL (BH (cl:=cl) (EX:=EX)) g1 (c.blt _ (by decide)) uM hA g3 g2 st an).imp λσ H Q ⟨ρ,env,h,hE,r,p⟩=>?_
     | refine(jL (JI (cl:=cl) (EX:=EX)) g1 (c.blt _ (by decide)) BK hA g3 g2 st an).imp λσ H Q ⟨ρ,env,h,hE,r,p⟩=>?_
     | refine(jL (JJ (cl:=cl) (EX:=EX)) g1 (c.blt _ (by decide)) BL hA g3 g2 st an).imp λσ H Q ⟨ρ,env,h,hE,r,p⟩=>?_
    simp only[aF] at p;exact⟨ρ,env,h,hE,r,aY p λvs h1 ρ1 H1 g1 r1 p1 xs q1=>⟨ρ1,h1,vs,r1,q1,p1⟩⟩
noncomputable def Uq:Me->String
 | .join=>"str" | .append=>"list" | .extend=>"list"
theorem E9(r:HR B ρ h H)(q:VR B.K ρ H v x)(e:recv h m v=some ()):Qn B.K (Uq m) x H:=by
 cases m<;>cases v<;>simp only[recv] at e<;>first|cases e|skip
 ·rw[VR] at q;subst q;rfl
 ·split at e
  ·rename_i xs e1;obtain⟨a,ys,rfl,q0,q1,q2⟩:=jO r q e1;exact .inl ⟨rfl,ys,.inl (.inl q1)⟩
  ·cases e
 ·split at e
  ·rename_i xs e1;obtain⟨a,ys,rfl,q0,q1,q2⟩:=jO r q e1;exact .inl ⟨rfl,ys,.inl (.inl q1)⟩
  ·cases e
theorem Ka(ha:bW Φ a)(hs:jm Φ es):bW Φ (.met m a es):=by
 intro Γ k X cl EX e c h;rw[aG.eq_def] at h;dsimp only at h;split at h<;>first|cases h|skip
 rename_i o x ap args cp;simp only[and_eq_true,beq_iff_eq] at h;obtain⟨⟨⟨⟨⟨⟨h1,h2⟩,h3⟩,h4⟩,h5⟩,h6⟩,h7⟩:=h;subst h1;cases args with
 | nil=>cases h3
 | cons l ls =>
  have hA:=hs.1 Γ k X cl EX _ c h7;have h8:noStar l=true/\∃dN,aM Γ dN ls=true:=by
   cases es with
   | nil=>rw[aM] at h7;cases h7
   | cons i dN=>rw[aM.eq_def] at h7;dsimp only at h7;simp only[and_eq_true] at h7;exact⟨h7.1.1,dN,h7.2⟩
  obtain⟨n1,dN,n2⟩:=h8;have st:=aQ (env:=X.env) (es:=ls) n1;have an:=fq (pos:=cp) (env:=X.env) n2;have few:((backTo cp (starEach (l::ls) X.env)).all (λx=>!x.1)&&(backToKw cp (keywordEach [] X.env)).all (λx=>x.1.isSome)
   && decide ((l::ls).length+([]:List Keyword).length+(if ([]:List Keyword).isEmpty then 0 else 1)<30))=true:=by
   rw[pe h7];have:(l::ls).length<29:=of_decide_eq_true h4;simp only[Bool.true_and,and_eq_true];exact⟨rfl,decide_eq_true (by simp at this |-;omega)⟩
  have hl:(ap.endLine==cp.line)=true:=by rw[h5];exact beq_self_eq_true _
  refine(λq=>⟨q,cy q λ_=>rfl⟩) ?_;have fin:∀(T:String) (r:V->List V->Hp->VK->Prop),(∀x xs H Q,Pk (bd X cl) EX m x xs H Q->r x xs H Q)->T=Uq m->∀σ H Q,tV Φ (bd X cl) EX (.met m a es) σ H Q->TY X.K T r (tV Φ (bd X cl) EX a) (Um Φ (bd X cl) EX es) σ H Q:=by rintro T rr hr rfl σ H Q ⟨ρ,env,h,hE,r,p⟩;simp only[aF] at p;refine⟨ρ,env,h,hE,r,aq p λv h1 ρ1 x H1 g1 r1 q1 p1=>?_⟩;obtain⟨_,e1,p2⟩:=aA p1;refine⟨E9 r1 q1 e1,ρ1,env,h1,hE.up g1,r1,aY p2 λvs h2 ρ2 H2 g2 r2 p3 xs q2=>hr _ _ _ _ ⟨ρ2,h2,v,vs,r2,VR.up g2 _ _ q1,q2,p3⟩⟩
  cases m with
  | join=>exact(AX PySem.F.plainAttrs_str PySem.F.slot_str_join PySem.F.type_str_join (EI (cl:=cl) (EX:=EX)) (ha Γ k X cl EX o c h6).1 hA (super_ok h2) few hl st an).imp (fin _ _ (λ_ _ _ _ z=>z) rfl)
  | append=>exact(AX PySem.F.plainAttrs_list PySem.F.slot_list_append PySem.F.type_list_append (zW (cl:=cl) (EX:=EX)) (ha Γ k X cl EX o c h6).1 hA (super_ok h2) few hl st an).imp (fin _ _ (λ_ _ _ _ z=>z) rfl)
  | extend=>exact(AX PySem.F.plainAttrs_list PySem.F.slot_list_extend PySem.F.type_list_extend (zX (cl:=cl) (EX:=EX)) (ha Γ k X cl EX o c h6).1 hA (super_ok h2) few hl st an).imp (fin _ _ (λ_ _ _ _ z=>z) rfl)
end
end Hv
end
section
namespace Hv
open PySem L2 PyProof.Rows
theorem _root_.L2.PI.or(h:PI X tg iter t)(h':PI X tg iter t'):PI X tg iter (λσ H R=>t σ H R\/t' σ H R):=λpins s σ H R I hw=>hw.elim (h pins s σ H R I) (h' pins s σ H R I)
structure Walks (B:Bd) (src:Src) (J:It) (ρ1:List Addr) (H1:Hp):Prop where
 stop:∀{ρ h H i xs},Gw ρ1 H1 ρ H->HR B ρ h H->src.items h=some xs->xs.length<=i->J.stop i H
 go:∀{ρ h H i xs v},Gw ρ1 H1 ρ H->HR B ρ h H->src.items h=some xs->xs[i]?=some v->J.go i H
 vS:∀{ρ h H i xs v y H'},Gw ρ1 H1 ρ H->HR B ρ h H->src.items h=some xs->xs[i]?=some v->J.vS i H y H'->Gr ρ H ρ H'/\HR B ρ h H'/\VR B.K ρ H' v y
section
variable {B:Bd} {ρ1:List Addr} {H1:Hp} {a:Addr}
theorem z6(q:iS B.K H1 a xs)(e:av B.K ρ1 H1 vs xs):Walks B (.fix vs) (P6 B.K a) ρ1 H1 where
 stop:=λg r hi hl=>by
  cases hi;exact⟨xs,g.Ph q,by rw[<-e.length];exact hl⟩
 go:=λg r hi hv=>by
  cases hi;obtain⟨x,k1,_⟩:=e.get hv;exact⟨xs,x,g.Ph q,k1⟩
 vS:=λg r hi hv y=>by
  cases hi;obtain⟨rfl,y⟩:=y;obtain⟨x,k1,k2⟩:=e.get hv;have:=y xs (g.Ph q);rw[k1] at this;cases this;exact⟨Gr.refl,r,VR.jZ g _ _ k2⟩
theorem BQ(q:GQ B.K H1 a xs)(e:av B.K ρ1 H1 vs xs):Walks B (.fix vs) (O8 B.K a) ρ1 H1 where
 stop:=λg r hi hl=>by
  cases hi;exact⟨xs,(g.Jz q).sq,by rw[<-e.length];exact hl⟩
 go:=λg r hi hv=>by
  cases hi;obtain⟨x,k1,_⟩:=e.get hv;exact⟨xs,x,(g.Jz q).sq,k1⟩
 vS:=λg r hi hv y=>by
  cases hi;obtain⟨rfl,y⟩:=y;obtain⟨x,k1,k2⟩:=e.get hv;have:=y xs (g.Jz q).sq;rw[k1] at this;cases this;exact⟨Gr.refl,r,VR.jZ g _ _ k2⟩
theorem jP{i:Nat}(q:ρ1[i]?=some a)(g:Gw ρ1 H1 ρ H)(r:HR B ρ h H)(hi:(Src.live i).items h=some xs):∃ys,gz B.K H a ys/\av B.K ρ H xs ys:=by
 obtain⟨b,ys,e,k1,k2⟩:=eL r (VR.ref (nR g.pre q)) (show aB h (.ref i)=some xs from hi);cases e;exact⟨ys,k1,k2⟩
theorem wW{i:Nat}(q:ρ1[i]?=some a):Walks B (.live i) (O8 B.K a) ρ1 H1 where
 stop:=λg r hi hl=>by
  obtain⟨ys,k1,k2⟩:=jP q g r hi;exact⟨ys,k1,by rw[<-k2.length];exact hl⟩
 go:=λg r hi hv=>by
  obtain⟨ys,k1,k2⟩:=jP q g r hi;obtain⟨x,k3,_⟩:=k2.get hv;exact⟨ys,x,k1,k3⟩
 vS:=λg r hi hv y=>by
  obtain⟨ys,k1,k2⟩:=jP q g r hi;obtain⟨rfl,y⟩:=y;obtain⟨x,k3,k4⟩:=k2.get hv;have:=y ys k1;rw[k3] at this;cases this;exact⟨Gr.refl,r,k4⟩
theorem gK(lo:Int)(n:Nat):(bX lo n).length=n:=by unfold bX;simp
theorem m9{lo:Int}{n:Nat}:Walks B (.fix (bX lo n)) (Mr lo n) ρ1 H1 where
 stop:=λg r hi hl=>by
  cases hi;rw[gK] at hl;exact hl
 go:=λg r hi hv=>by
  cases hi;have:=(List.getElem?_eq_some_iff.mp hv).1;rw[gK] at this;exact this
 vS:=λ{ρ h H i xs v y H'} g r hi hv y'=>by
  cases hi;obtain⟨rfl,rfl⟩:=y';have hl:=(List.getElem?_eq_some_iff.mp hv).1;rw[gK] at hl;have e:(bX lo n)[i]?=some (.int (lo+i)):=by unfold bX;simp[hl]
  rw[e] at hv;cases hv;exact⟨Gr.refl,r,VR.int⟩
theorem fO:∀(i:Nat) (ds:List Val),(cI i ds).length=ds.length
 | _,[]=>rfl
 | i,d::r=>by simp[cI,fO (i+1) r]
theorem rA:∀(k:Nat) (ds:List Val) (i:Nat) (d:Val),ds[i]?=some d->(cI k ds)[i]?=some (.tup [.int ((k+i:Nat):Int),d])
 | _,[],_,_,h=>by simp at h
 | k,e::r,0,d,h=>by simp at h;subst h;simp[cI]
 | k,e::r,i+1,d,h=>by
  have:=rA (k+1) r i d (by simpa using h);simp only[cI,List.getElem?_cons_succ];rw[this];have e1:k+1+i=k+(i+1):=by omega
  rw[e1]
theorem mC{i:Nat}(e:(cI 0 ds)[i]?=some v):∃d,ds[i]?=some d/\v=.tup [.int (i:Int),d]:=by
 have hl:=(List.getElem?_eq_some_iff.mp e).1;rw[fO] at hl;have e1:=rA 0 ds i ds[i] (List.getElem?_eq_getElem hl);rw[e] at e1;cases e1;exact⟨ds[i],List.getElem?_eq_getElem hl,by rw[zero_add]⟩
theorem uO{i:Nat}(r:HR B ρ h H)(k1:gz B.K H a ys)(k2:av B.K ρ H xs ys)(hv:(cI 0 xs)[i]?=some v)(hy:(MU B.K a).vS i H y H'):Gr ρ H ρ H'/\HR B ρ h H'/\VR B.K ρ H' v y:=by
 obtain⟨p,w,hn,rfl,rfl,hy⟩:=hy;obtain⟨d,e1,rfl⟩:=mC hv;obtain⟨x,k3,k4⟩:=k2.get e1;have:=hy ys k1;rw[k3] at this;cases this;exact⟨Gr.side hn,r.side hn,VR.tup (iS.of aR) (av.cons VR.int (av.cons (VR.up (Gr.side hn) _ _ k4) av.nil))⟩
theorem uP(q:GQ B.K H1 a xs)(e:av B.K ρ1 H1 vs xs):Walks B (.fix (cI 0 vs)) (MU B.K a) ρ1 H1 where
 stop:=λg r hi hl=>by
  cases hi;rw[fO] at hl;exact⟨xs,(g.Jz q).sq,by rw[<-e.length];exact hl⟩
 go:=λg r hi hv=>by
  cases hi;obtain⟨d,e1,_⟩:=mC hv;obtain⟨x,k1,_⟩:=e.get e1;exact⟨xs,x,(g.Jz q).sq,k1⟩
 vS:=λg r hi hv y=>by
  cases hi;exact uO r (g.Jz q).sq (av.jZ g _ _ e) hv y
theorem uQ{i:Nat}(q:ρ1[i]?=some a):Walks B (.enum i) (MU B.K a) ρ1 H1 where
 stop:=λg r hi hl=>by
  obtain⟨zs,e1,rfl⟩:=map_eq_some_iff.mp hi;obtain⟨ys,k1,k2⟩:=jP q g r e1;rw[fO] at hl;exact⟨ys,k1,by rw[<-k2.length];exact hl⟩
 go:=λg r hi hv=>by
  obtain⟨zs,e1,rfl⟩:=map_eq_some_iff.mp hi;obtain⟨ys,k1,k2⟩:=jP q g r e1;obtain⟨d,e2,_⟩:=mC hv;obtain⟨x,k3,_⟩:=k2.get e2;exact⟨ys,x,k1,k3⟩
 vS:=λg r hi hv y=>by
  obtain⟨zs,e1,rfl⟩:=map_eq_some_iff.mp hi;obtain⟨ys,k1,k2⟩:=jP q g r e1;exact uO r k1 k2 hv y
end
section
variable {Φ:Fn} {Γ:o9} {k:Nat} {X:Cx} {cl:Nat->Addr} {EX:Nat->List V->Hp->Prop}
noncomputable def LL(Φ:Fn)(ik:Ik)(it:m8)(env:Env):M Src:=bnd (aV Φ it env) λits=>bg (srcOf ik its)
noncomputable def tI(Φ:Fn)(B:Bd)(EX:Nat->List V->Hp->Prop)(ik:Ik)(it:m8):TI:=λσ H R=>∃ρ env h,cS B.K ρ env σ H/\HR B ρ h H /\
 Post B EX ρ H (λsrc h' ρ' H'=>(∃xs,src.items h'=some xs)/\∀J,Walks B src J ρ' H'->R J H') (LL Φ ik it env h)
theorem GV(hs:jm Φ it)(c:Ctx Φ Γ k X cl EX)(h:uK Γ ik it iter=true)(ht:ik=.enum\/ik=.zip->∃es kk pos,tg=.Tuple es kk pos):PI X tg iter (tI Φ (bd X cl) EX ik it)/\∀x,foldedSetIterable iter X.env x=pure x:=by
 cases it with
 | nil=>rw[uK] at h;cases h
 | cons e es =>
  rw[uK.eq_def] at h;dsimp only at h;cases ik with
  | seq =>
   dsimp only at h;split at h<;>first|cases h|skip
   rename_i hs';simp only[and_eq_true] at h;have q:=(hs.2.1 Γ k X cl EX iter c h.2).1;refine⟨((DX q).or (ID q)).imp λσ H R ⟨ρ,env,h,hE,r,p⟩=>?_,λx=>?_⟩
   ·simp only[LL,uN,aT,cK] at p
    have key:∀(Q:VK),(∀v h1 ρ1 x H1,aF Φ e env h=.ok v h1->Gr ρ H ρ1 H1->HR (bd X cl) ρ1 h1 H1->VR X.K ρ1 H1 v x->Post (bd X cl) EX ρ1 H1 (λsrc h' ρ' H'=>(∃xs,src.items h'=some xs)/\∀J,Walks (bd X cl) src J ρ' H'->R J H') (bg (srcOf .seq [v]) h1)->Q x H1)->tV Φ (bd X cl) EX e σ H Q:=λQ kk =>
     ⟨ρ,env,h,hE,r,dw p λv h1 ρ1 H1 e1 g1 r1 p1 x q1=>kk v h1 ρ1 x H1 e1 g1 r1 q1 p1⟩
    cases ev:aF Φ e env h with
    | ok v h1 =>
     cases v with
     | tup vs =>refine .inr (key _ λv h1 ρ1 x H1 e1 g1 r1 q1 p1=>?_);rw[ev] at e1;cases e1;obtain⟨src,e2,w1,w2⟩:=cD r1 p1;cases e2;rw[VR] at q1;obtain⟨a,xs,rfl,k1,k2⟩:=q1;exact⟨a,rfl,⟨xs,k1⟩,w2 _ (z6 k1 k2)⟩
     | rl vs =>refine .inl (key _ λv h1 ρ1 x H1 e1 g1 r1 q1 p1=>?_);rw[ev] at e1;cases e1;obtain⟨src,e2,w1,w2⟩:=cD r1 p1;cases e2;rw[VR] at q1;obtain⟨a,xs,rfl,k1,k2⟩:=q1;exact⟨a,rfl,⟨xs,k1.sq⟩,w2 _ (BQ k1 k2)⟩
     | ref i =>refine .inl (key _ λv h1 ρ1 x H1 e1 g1 r1 q1 p1=>?_);rw[ev] at e1;cases e1;obtain⟨src,e2,⟨zs,w1⟩,w2⟩:=cD r1 p1;cases e2;have q0:=q1;rw[VR] at q1;obtain⟨a,rfl,k1⟩:=q1;obtain⟨b,ys,e3,k2,k3⟩:=eL r1 q0 (show aB h1 (.ref i)=some zs from w1);cases e3;exact⟨a,rfl,⟨ys,k2⟩,w2 _ (wW k1)⟩
     | _ =>refine .inl (key _ λv h1 ρ1 x H1 e1 g1 r1 q1 p1=>?_);rw[ev] at e1;cases e1;obtain⟨src,e2,_⟩:=cD r1 p1;cases e2
    | exc _ _ _=>exact .inl (key _ λv h1 ρ1 x H1 e1=>by rw[ev] at e1;cases e1)
    | no=>exact .inl (key _ λv h1 ρ1 x H1 e1=>by rw[ev] at e1;cases e1)
   ·cases iter<;>first|rfl|(exact absurd h.1 Bool.false_ne_true)
  | range =>
   dsimp only at h;split at h<;>first|cases h|skip
   rename_i x xp a args pos;simp only[and_eq_true,beq_iff_eq] at h;obtain⟨⟨⟨⟨⟨h1,h2⟩,h3⟩,h4⟩,h5⟩,h6⟩:=h;subst h1;obtain⟨g1,g2,g3⟩:=c.gl h2;have hm:=c.blt _ (show ("range":Str)∈fk by decide);refine⟨?_,λx=>rfl⟩;have hA:=hs.1 Γ k X cl EX (a::args) c (by rw[aM.eq_def];simp[h3,h4,h5]);cases args with
   | nil =>
    cases es with
    | cons i dN=>rw[aM.eq_def] at h5;cases h5
    | nil =>
     refine(zf g1 hm hA (aQ h3)).imp λσ H R aJ=>?_;obtain⟨ρ,env,h,hE,r,p⟩:=aJ;refine⟨ρ,env,h,hE,r,dw p λvs h1 ρ1 H1 e1 Ur r1 p1 xs q1=>?_⟩;obtain⟨src,e2,w1,w2⟩:=cD r1 p1
     match vs,e2 with
     | [.int n],e2 =>
      change (if inR n=true then some (Src.fix (bX 0 n.toNat)) else none)=some src at e2;split at e2
      ·rename_i hn;cases e2;simp only[inR,and_eq_true,decide_eq_true_eq] at hn;obtain⟨x,rfl,hx⟩:=av.one q1;rw[VR] at hx;subst hx;exact⟨n,rfl,hn.1,hn.2,w2 _ m9⟩
      ·cases e2
     | [.int _,.int _],e2=>have:=gZ (Γ:=Γ) (ls:=[a]) (by rw[aM.eq_def];simp[h3,h4,aM]) e1;simp at this
   | cons b args =>
    cases args with
    | cons _ _=>have:=of_decide_eq_true h6;simp only[length_cons] at this;omega
    | nil =>
     have hb:noStar b=true:=by
      cases es with
      | nil=>rw[aM] at h5;cases h5
      | cons i dN=>rw[aM.eq_def] at h5;dsimp only at h5;simp only[and_eq_true] at h5;exact h5.1.1
     refine(zg g1 hm hA (by rw[aQ h3,aQ hb];rfl) (by rw[aQ hb];rfl)).imp λσ H R aJ=>?_;obtain⟨ρ,env,h,hE,r,p⟩:=aJ;refine⟨ρ,env,h,hE,r,dw p λvs h1 ρ1 H1 e1 Ur r1 p1 xs q1=>?_⟩;obtain⟨src,e2,w1,w2⟩:=cD r1 p1
     match vs,e2 with
     | [.int _],e2=>have:=gZ (Γ:=Γ) (ls:=[a,b]) (by rw[aM.eq_def];simp[h3,h4,h5]) e1;simp at this
     | [.int lo,.int hi],e2 =>
      change (if (inR lo&&inR hi)=true then some (Src.fix (bX lo (hi-lo).toNat)) else none)=some src at e2;split at e2
      ·rename_i hn;cases e2;simp only[inR,and_eq_true,decide_eq_true_eq] at hn;obtain⟨x,y,rfl,hx,hy⟩:=av.two q1;rw[VR] at hx;rw[VR] at hy;subst hx;subst hy;exact⟨lo,hi,rfl,⟨hn.1.1,hn.1.2,hn.2.1,hn.2.2⟩,w2 _ m9⟩
      ·cases e2
  | enum =>
   dsimp only at h;split at h<;>first|cases h|skip
   rename_i x xp a pos;simp only[and_eq_true,beq_iff_eq] at h;obtain⟨⟨⟨h1,h2⟩,h3⟩,h4⟩:=h;subst h1;obtain⟨g1,g2,g3⟩:=c.gl h2;have hm:=c.blt _ (show ("enumerate":Str)∈fk by decide);obtain⟨Y3,tk,tp,rfl⟩:=ht (.inl rfl);refine⟨?_,λx=>rfl⟩;have hA:=hs.1 Γ k X cl EX [a] c (by rw[aM.eq_def];simp[h3,h4,aM]);refine(Eu g1 hm hA (aQ h3)).imp λσ H R aJ=>?_;obtain⟨ρ,env,h,hE,r,p⟩:=aJ;refine⟨ρ,env,h,hE,r,dw p λvs h1 ρ1 H1 e1 Ur r1 p1 xs q1=>?_⟩;obtain⟨src,e2,⟨zs,w1⟩,w2⟩:=cD r1 p1
   match vs,e2 with
   | [.rl ws],e2 =>cases e2;obtain⟨x,rfl,hx⟩:=av.one q1;rw[VR] at hx;obtain⟨b,ys,rfl,k1,k2⟩:=hx;exact⟨b,rfl,⟨ys,k1.sq⟩,w2 _ (uP k1 k2)⟩
   | [.ref i],e2 =>cases e2;obtain⟨x,rfl,hx⟩:=av.one q1;obtain⟨us,w3,_⟩:=map_eq_some_iff.mp w1;obtain⟨b,ys,rfl,k2,k3⟩:=eL r1 hx w3;rw[VR] at hx;obtain⟨b',e3,k1⟩:=hx;cases e3;exact⟨b,rfl,⟨ys,k2⟩,w2 _ (uQ k1)⟩
  | zip=>cases h
end
end Hv
end
section
namespace Hv
open PySem L2 PyProof.Rows
section
variable {Φ:Fn} {Γ:o9} {k:Nat} {X:Cx} {cl:Nat->Addr} {EX:Nat->List V->Hp->Prop}
noncomputable def pB:List Nat->LC
 | []=>Mn
 | i::is=>GG (qE i) (pB is)
noncomputable def z7(K:PySem.W.Frag):xW->TG
 | .one i=>qE i
 | .tup is=>Mp K is.length (pB is)
noncomputable def gM:List Nat->List V->L2.St->L2.St
 | i::is,v::vs,σ=>gM is vs (σ.set i (some v))
 | _,_,σ=>σ
theorem mD:∀{is:List Nat} {vs:List V} {σ:L2.St} {H:Hp} {Q:L2.St->Hp->Prop},vs.length=is.length->Q (gM is vs σ) H->pB is vs σ H Q
 | [],[],_,_,_,_,h=>⟨rfl,h⟩
 | i::is,v::vs,σ,H,Q,hl,h=>⟨v,vs,rfl,mD (by simpa using hl) h⟩
theorem rD(hnd:X.N.Nodup):∀{is:List Nat} {es:List Expr},es.length=is.length->(∀p∈is.zip es,∃x pos,p.2=.Name x pos/\X.N[p.1]?=some x/\X.env.scope.names.lookup x=some .local)->LD X es (pB is)
 | [],[],_,_=>xK
 | i::is,e::es,hl,h=>by
  obtain⟨x,pos,rfl,h1,h2⟩:=h (i,e) (by simp);exact tY (nM hnd h1 (.inl h2) (.inr h2)) (rD hnd (by simpa using hl) λp hp=>h p (by simp[hp]))
theorem fZ:∀{es:List Expr},(∀e∈es,∃x pos,e=.Name x pos)->(assignEach es env).length=es.length/\(assignEach es env).findIdx? (·.1)=none
 | [],_=>⟨rfl,rfl⟩
 | e::es,h=>by
  obtain⟨x,pos,rfl⟩:=h e mem_cons_self;obtain⟨h1,h2⟩:=fZ (env:=env) (es:=es) λe he=>h e (mem_cons_of_mem _ he);have e1:assignEach (Expr.Name x pos::es) env=(false,assign (Expr.Name x pos) env)::assignEach es env:=rfl;rw[e1];refine⟨by simp[h1],?_⟩;rw[List.findIdx?_cons,h2];rfl
theorem BR{i:Nat}(h:wR Γ (.one i) tg=true):∃x p,tg=.Name x p:=by
 cases tg<;>first|exact⟨_,_,rfl⟩|exact absurd h Bool.false_ne_true
theorem uR{is:List Nat}(h:wR Γ (.tup is) tg=true):∃es k p,tg=.Tuple es k p:=by
 cases tg<;>first|exact⟨_,_,_,rfl⟩|exact absurd h Bool.false_ne_true
theorem Kc(c:Ctx Φ Γ k X cl EX)(hnd:X.N.Nodup)(h:wR Γ pat tg=true):PG X tg (z7 X.K pat):=by
 cases pat with
 | one i =>obtain⟨x,xp,rfl⟩:=BR h;simp only[wR,and_eq_true,beq_iff_eq] at h;obtain⟨h1,h2⟩:=h;exact nM hnd (by rw[c.N];exact h1) (.inl (by rw[c.sc];exact h2)) (.inr (by rw[c.sc];exact h2))
 | tup is =>
  obtain⟨es,kk,pos,rfl⟩:=uR h
  ·
   simp only[wR,and_eq_true,beq_iff_eq,all_eq_true] at h;obtain⟨h1,h2⟩:=h;have names:∀p∈is.zip es,∃x pos,p.2=.Name x pos/\X.N[p.1]?=some x/\X.env.scope.names.lookup x=some .local:=λp hp=>by
    have q:=h2 p hp;cases ep:p.2<;>rw[ep] at q<;>simp at q;rename_i x pos';exact⟨x,pos',rfl,by rw[c.N];exact q.1,by rw[c.sc];exact q.2⟩
   have all:∀e∈es,∃x pos,e=.Name x pos:=λe he=>by
    obtain⟨n,hn,rfl⟩:=getElem_of_mem he;have hm:(is[n]'(by omega),es[n])∈is.zip es:=List.mem_iff_getElem?.mpr ⟨n,by rw[List.getElem?_zip_eq_some];simp[hn]⟩;obtain⟨x,pos,q,_⟩:=names _ hm;exact⟨x,pos,q⟩
   obtain⟨l1,l2⟩:=fZ (env:=X.env) all;exact AJ c.calm (rD hnd h1 names) (by rw[l1,h1]) l2
noncomputable def uS(Γ:o9):xW->Expr->Bool
 | .one i,.Name x _=>Γ.N[i]?==some x&&(Γ.sc.names.lookup x==some .local || Γ.sc.names.lookup x==some .cell)
 | .tup is,.Tuple es _ _=>es.length==is.length&&(is.zip es).all λp=>match p.2 with
  | .Name x _=>Γ.N[p.1]?==some x&&(Γ.sc.names.lookup x==some .local || Γ.sc.names.lookup x==some .cell)
  | _=>false
 | _,_=>false
theorem pC(hfn:∀x,X.fn x=true)(hnd:X.N.Nodup):∀{is:List Nat} {es:List Expr},es.length=is.length->(∀p∈is.zip es,∃x pos,p.2=.Name x pos/\X.N[p.1]?=some x/\Loc X.env.scope x)->LD X es (pB is)
 | [],[],_,_=>xK
 | i::is,e::es,hl,h=>by
  obtain⟨x,pos,rfl,h1,h2⟩:=h (i,e) (by simp);exact tY (nM hnd h1 h2 (.inl (hfn x))) (pC hfn hnd (by simpa using hl) λp hp=>h p (by simp[hp]))
theorem pD{i:Nat}(h:uS Γ (.one i) tg=true):∃x p,tg=.Name x p:=by
 cases tg<;>first|exact⟨_,_,rfl⟩|exact absurd h Bool.false_ne_true
theorem lq{is:List Nat}(h:uS Γ (.tup is) tg=true):∃es k p,tg=.Tuple es k p:=by
 cases tg<;>first|exact⟨_,_,_,rfl⟩|exact absurd h Bool.false_ne_true
theorem yi(c:Ctx Φ Γ k X cl EX)(hfn:∀x,X.fn x=true)(hnd:X.N.Nodup)(h:uS Γ pat tg=true):PG X tg (z7 X.K pat):=by
 have loc:∀x,(Γ.sc.names.lookup x==some .local || Γ.sc.names.lookup x==some .cell)=true->Loc X.env.scope x:=λx e=>by
  unfold L2.Loc;rw[c.sc];simpa using e
 cases pat with
 | one i =>obtain⟨x,pos,rfl⟩:=pD h;simp only[uS,and_eq_true,beq_iff_eq] at h;obtain⟨h1,h2⟩:=h;exact nM hnd (by rw[c.N];exact h1) (loc _ h2) (.inl (hfn _))
 | tup is =>
  obtain⟨es,kk,pos,rfl⟩:=lq h
  ·
   simp only[uS,and_eq_true,beq_iff_eq,all_eq_true] at h;obtain⟨h1,h2⟩:=h;have names:∀p∈is.zip es,∃x pos,p.2=.Name x pos/\X.N[p.1]?=some x/\Loc X.env.scope x:=λp hp=>by
    have q:=h2 p hp;cases ep:p.2<;>rw[ep] at q<;>first|cases q|skip
    rename_i x pos';simp only[and_eq_true,beq_iff_eq] at q;exact⟨x,pos',rfl,by rw[c.N];exact q.1,loc _ q.2⟩
   have all:∀e∈es,∃x pos,e=.Name x pos:=λe he=>by
    obtain⟨n,hn,rfl⟩:=getElem_of_mem he;have hm:(is[n]'(by omega),es[n])∈is.zip es:=List.mem_iff_getElem?.mpr ⟨n,by rw[List.getElem?_zip_eq_some];simp[hn]⟩;obtain⟨x,pos,q,_⟩:=names _ hm;exact⟨x,pos,q⟩
   obtain⟨l1,l2⟩:=fZ (env:=X.env) all;exact AJ c.calm (pC hfn hnd h1 names) (by rw[l1,h1]) l2
theorem cS.set{K:PySem.W.Frag}{ρ:List Addr}{env:Env}{σ:L2.St}{H:Hp}{i:Nat}{v:Val}{x:V}(e:cS K ρ env σ H)(hl:env.length = σ.length)(q:VR K ρ H v x):cS K ρ (env.set i (some v)) (σ.set i (some x)) H:=λj w hj=>by
 by_cases hij:i=j
 ·subst hij
  have hi:i<env.length:=by have:=(List.getElem?_eq_some_iff.mp hj).1;simpa using this
  rw[getElem?_set_self hi] at hj;cases hj;exact⟨x,by rw[getElem?_set_self (by rw[<-hl];exact hi)],q⟩
 ·rw[getElem?_set_ne hij] at hj;rw[getElem?_set_ne hij];exact e j w hj
theorem kE{K:PySem.W.Frag}{ρ:List Addr}{H:Hp}:∀{is:List Nat} {ds:List Val} {xs:List V} {env env':Env} {σ:L2.St},bindAll is ds env=some env'->av K ρ H ds xs->cS K ρ env σ H->env.length = σ.length->cS K ρ env' (gM is xs σ) H/\env'.length=(gM is xs σ).length/\(gM is xs σ).length = σ.length/\xs.length=is.length
 | [],[],xs,env,env',σ,e,q,hE,hl=>by
  rw[av] at q;subst q;simp only[bindAll] at e;cases e;exact⟨hE,hl,rfl,rfl⟩
 | i::is,d::ds,xs,env,env',σ,e,q,hE,hl=>by
  rw[av] at q;obtain⟨x,r,rfl,q1,q2⟩:=q;simp only[bindAll] at e;obtain⟨a1,a2,a3,a4⟩:=kE e q2 (hE.set hl q1) (by simp[hl]);exact⟨a1,a2,by rw[show gM (i::is) (x::r) σ = gM is r (σ.set i (some x)) from rfl,a3];simp,by simp[a4]⟩
 | [],_::_,_,_,_,_,e,_,_,_=>by simp[bindAll] at e
 | _::_,[],_,_,_,_,e,_,_,_=>by simp[bindAll] at e
theorem yj{K:PySem.W.Frag}{ρ:List Addr}{H:Hp}{pat:xW}{v:Val}{x:V}{env env':Env}{σ:L2.St}{Q:L2.St->Hp->Prop}(e:fG pat v env=some env')(q:VR K ρ H v x)(hE:cS K ρ env σ H)(hl:env.length = σ.length)
  (kk:∀σ',cS K ρ env' σ' H->env'.length = σ'.length -> σ'.length = σ.length->Q σ' H):z7 K pat x σ H Q:=by
 cases pat with
 | one i =>simp only[fG] at e;cases e;exact kk _ (hE.set hl q) (by simp[hl]) (by simp)
 | tup is =>
  cases v<;>simp only[fG] at e<;>first|cases e|skip
  rw[VR] at q;obtain⟨a,xs,rfl,q1,q2⟩:=q;obtain⟨a1,a2,a3,a4⟩:=kE e q2 hE hl;exact⟨a,xs,rfl,q1,a4,mD a4 (kk _ a1 a2 a3)⟩
theorem jQ{α β:Type}{W:β -> Hs->List Addr->Hp->Prop}{W':α -> Hs->List Addr->Hp->Prop}{m:M α}{f:α -> M β}(g:Gr ρ H ρ' H')(p:Post B EX ρ H W (bnd m f h))
  (kk:∀v h1 ρ2 H2,m h=.ok v h1->Post B EX ρ H W (f v h1)->Gr ρ' H' ρ2 H2->HR B ρ2 h1 H2->W' v h1 ρ2 H2):Post B EX ρ' H' W' (m h):=by
 unfold bnd at p;cases e:m h with
 | ok v h1=>rw[e] at p;exact λρ2 H2 g2 r2=>kk v h1 ρ2 H2 e p g2 r2
 | exc c vs h1=>rw[e] at p;exact λρ2 H2 xs g2 r2 q=>p ρ2 H2 xs (g.trans g2) r2 q
 | no=>rw[e] at p;exact p
theorem HR.adopt(r:HR B ρ h H)(hD:D ∉ ρ)(q:OR B (ρ ++ [D]) H D u):HR B (ρ ++ [D]) (h++[u]) H where
 len:=by simp[r.len]
 nd:=by rw[nodup_append];refine⟨r.nd,by simp,λa ha b hb=>?_⟩;rw[mem_singleton.mp hb];rintro rfl;exact hD ha
 ob i v a q1 q2:=by
  by_cases hi:i<h.length
  ·rw[getElem?_append_left hi] at q1;rw[getElem?_append_left (by rw[r.len];exact hi)] at q2;exact OR.jZ ⟨prefix_append _ _,λ_ _ e _=>e⟩ rfl (r.ob i v a q1 q2)
  ·rw[getElem?_append_right (by omega)] at q1
   rw[getElem?_append_right (by rw[r.len];omega)] at q2;have hi0:i-h.length=0:=by have:=(List.getElem?_eq_some_iff.mp q1).1;simp at this;omega
   rw[hi0] at q1;rw[r.len,hi0] at q2;simp at q1 q2;subst q1;subst q2;exact q
theorem Gr.over(g:Gr ρ H ρ' H')(hD:H D=none):Gr ρ H ρ' (upd H' D o) where
 pre:=g.pre
 keep a u e n:=by rw[az (aE e hD)];exact g.keep a u e n
 firm a u e n:=by rw[az (aE e hD)];exact g.firm a u e n
 fresh:=g.fresh
theorem Gr.adopt(g:Gr ρ H ρ' H')(hD:H D=none):Gr ρ H (ρ'++[D]) H' where
 pre:=g.pre.trans (prefix_append _ _)
 keep:=g.keep
 firm:=g.firm
 fresh a z n:=by
  rcases mem_append.mp z with z|z
  ·exact g.fresh a z n
  ·rw[mem_singleton.mp z];exact hD
theorem Fb{K:PySem.W.Frag}{ρ:List Addr}{env:Env}{σ:L2.St}{H:Hp}{js:List (Option Nat)}(e:cS K ρ env σ H):cS K ρ (jk js env) (iH js σ) H:=λi v q=>by
 unfold jk at q;rw[getElem?_map] at q;cases hj:js[i]? with
 | none=>rw[hj] at q;cases q
 | some o =>
  rw[hj] at q;simp only[map_some] at q;cases o with
  | none=>cases q
  | some j =>
   dsimp only at q;cases ej:env[j]? with
   | none=>rw[ej] at q;cases q
   | some w =>
    cases w with
    | none=>rw[ej] at q;cases q
    | some d =>rw[ej] at q;cases q;obtain⟨x,q1,q2⟩:=e j _ ej;refine⟨x,?_,q2⟩;unfold iH;rw[getElem?_map,hj];simp only[map_some];rw[q1]
theorem BS{K:PySem.W.Frag}{ρ:List Addr}{env:Env}{σ σ':L2.St}{H:Hp}{js:List (Option Nat)}{pat:xW}(hp:(uJ pat).all (λi=>js[i]?==some none)=true)(e:cS K ρ (jk js env) σ H)(hs:∀i,i∉uJ pat -> σ'[i]? = σ[i]?):cS K ρ (jk js env) σ' H:=λi v q=>by
 have hi:i∉uJ pat:=λz=>by
  have h1:=all_eq_true.mp hp i z;have h2:js[i]?=some none:=eq_of_beq h1;unfold jk at q;rw[getElem?_map,h2] at q;cases q
 obtain⟨x,q1,q2⟩:=e i v q;exact⟨x,(hs i hi).trans q1,q2⟩
theorem pF:∀{is:List Nat} {xs:List V} {σ:L2.St} {i:Nat},i∉is->(gM is xs σ)[i]? = σ[i]?
 | [],xs,σ,i,_=>by cases xs<;>rfl
 | j::is,[],σ,i,_=>rfl
 | j::is,x::xs,σ,i,h=>by
  rw[show gM (j::is) (x::xs) σ = gM is xs (σ.set j (some x)) from rfl,pF λz=>h (mem_cons_of_mem _ z),getElem?_set_ne λz=>h (by rw[z];exact mem_cons_self)]
theorem BU{K:PySem.W.Frag}{ρ:List Addr}{H:Hp}{pat:xW}{v:Val}{x:V}{env env':Env}{σ:L2.St}{Q:L2.St->Hp->Prop}(e:fG pat v env=some env')(q:VR K ρ H v x)(hE:cS K ρ env σ H)(hl:env.length = σ.length)
  (kk:∀σ',cS K ρ env' σ' H -> σ'.length = σ.length->(∀i,i∉uJ pat -> σ'[i]? = σ[i]?)->Q σ' H):z7 K pat x σ H Q:=by
 cases pat with
 | one i =>simp only[fG] at e;cases e;exact kk _ (hE.set hl q) (by simp) λj hj=>getElem?_set_ne λz=>hj (by rw[z];exact mem_singleton.mpr rfl)
 | tup is =>
  cases v<;>simp only[fG] at e<;>first|cases e|skip
  rw[VR] at q;obtain⟨a,xs,rfl,q1,q2⟩:=q;obtain⟨a1,a2,a3,a4⟩:=kE e q2 hE hl;exact⟨a,xs,rfl,q1,a4,mD a4 (kk _ a1 a3 λj hj=>pF hj)⟩
theorem pG(hs:jm Φ it)(hc:bW Φ t)(he:bW Φ elt)(c:Ctx Φ Γ k X cl EX)(h:aG Γ (.comp N' js pat ik it t elt) e=true) :
  ∃e' tg iter ifs scope pos wi g tt te,e=.ListComp e' [⟨tg,iter,ifs,0⟩] scope pos/\iI X.N X.env.scope scope N' js=true/\PI X tg iter wi/\(∀cls C s H fp,PG (bH X scope N' cls C s H fp) tg g)/\(∀cls C s H fp,Eo (bH X scope N' cls C s H fp) ifs tt) /\
   (∀cls C s H fp,PE (bH X scope N' cls C s H fp) e' te)/\(∀x,foldedSetIterable iter X.env x=pure x)/\∀σ H Q,tV Φ (bd X cl) EX (.comp N' js pat ik it t elt) σ H Q->Bf wi js g tt te σ H Q:=by
 rw[aG.eq_def] at h;dsimp only at h;split at h<;>first|cases h|skip
 rename_i e' tg iter ifs scope pos;simp only[and_eq_true] at h;obtain⟨⟨⟨⟨⟨⟨⟨h1,h2⟩,h3⟩,h4⟩,h5⟩,h6⟩,h7⟩,h8⟩:=h;have hnd:N'.Nodup:=of_decide_eq_true h3;have hen:ik=.enum\/ik=.zip->∃es kk pos,tg=.Tuple es kk pos:=by
  intro hz;cases pat with
  | one i=>rcases hz with rfl|rfl<;>cases h6
  | tup is=>exact uR h4
 obtain⟨hi,hf⟩:=GV hs c h2 hen
 let tt:TT:=if cG t=true then uf else tT Φ (bd X cl) EX t
 have Qh:∀cls C s H fp,Eo (bH X scope N' cls C s H fp) ifs tt:=λcls C s H fp=>by
  have c':=c.Ay scope N' cls C s H fp;cases ifs with
  | nil =>have:cG t=true:=h7;show Eo _ [] (if cG t=true then uf else tT Φ (bd X cl) EX t);rw[if_pos this];exact Ep
  | cons a r =>
   cases r with
   | cons _ _=>cases h7
   | nil =>simp only[and_eq_true,not_eq_true'] at h7;show Eo _ [a] (if cG t=true then uf else tT Φ (bd X cl) EX t);rw[if_neg (by rw[h7.1];exact Bool.false_ne_true)];exact Er (hc _ _ _ _ _ _ c' h7.2).2
 refine⟨e',tg,iter,ifs,scope,pos,_,z7 X.K pat,tt,tV Φ (bd X cl) EX elt,rfl,by rw[c.N,c.sc];exact h1,hi,λcls C s H fp=>Kc (c.Ay scope N' cls C s H fp) hnd h4,Qh,λcls C s H fp=>(he _ _ _ _ _ _ (c.Ay scope N' cls C s H fp) h8).1,hf,λσ H Q ⟨ρ,env,h,hE,r,p⟩=>?_⟩
 ·skip
  simp only[aF] at p
  let f:Val->M (Option Val):=λd=>bnd (bg (fG pat d (jk js env))) λenv'=>bnd (if cG t=true then ret true else bnd (aF Φ t env') λv=>ask λh=>cX h v) λt =>
    if t=true then bnd (aF Φ elt env') λe=>ret (some e) else ret none
  have p':Post (bd X cl) EX ρ H (WV X.K Q) (bnd (LL Φ ik it env) (λsrc=>bnd (ask λh=>src.items h) λxs=>aD (decide (xs.length<=100000)) (bnd (fj src f xs.length 0 []) λys=>new (.lst ys))) h):=by unfold LL;rw[aT];exact p
  refine⟨ρ,env,h,hE,r,aY p' λsrc h1 ρ1 H1 g1 r1 p1=>?_⟩;obtain⟨xs,e1,p2⟩:=aA p1;obtain⟨e2,p3⟩:=aN p2;have e2:=of_decide_eq_true e2;refine⟨⟨xs,e1⟩,λJ wk D hD=>?_⟩;have Y4:(100000:Nat)<sizeLine:=by rw[sizeLine_eq];decide
  refine⟨λi m σ' H'=>∃ρ' h' acc ys,Gr ρ1 H1 ρ' H'/\HR (bd X cl) ρ' h' H'/\D ∉ ρ'/\H' D=some (.lst ys)/\av X.K ρ' H' acc ys/\cS X.K ρ' (jk js env) σ' H' /\ σ'.length=js.length/\acc.length<=i/\i+m=xs.length /\
   Post (bd X cl) EX ρ1 H1 (WV X.K Q) (bnd (fj src f m i acc) (λys=>new (.lst ys)) h'),⟨xs.length,ρ1,h1,[],[],Gr.side hD,r1.side hD,r1.out hD,aR,av.nil,(Fb (hE.up g1)).up (Gr.side hD),kc js σ,le_refl _,by omega,p3⟩,?_⟩
  rintro i m σ' H' ⟨ρ',h',acc,ys,w1,w2,w3,w4,w5,w6,w7,w8,w9,sS⟩;have fin:∀p:Post (bd X cl) EX ρ1 H1 (WV X.K Q) (new (.lst acc) h'),Q (.ref D) H':=λp=>by
   refine p (ρ'++[D]) H' (w1.adopt hD) (w2.adopt w3 ⟨ys,w4,av.jZ ⟨prefix_append _ _,λ_ _ e _=>e⟩ _ _ w5⟩) _ (VR.ref (by rw[<-w2.len];simp))
  cases m with
  | zero =>
   simp only[fj,aT] at sS;obtain⟨xs',k1,sS⟩:=aA sS;have Na:Post (bd X cl) EX ρ1 H1 (WV X.K Q) (bnd (aD (decide (xs'.length<=i)) (ret acc)) (λys=>new (.lst ys)) h'):=sS;unfold aD at Na
   by_cases hl:xs'.length<=i
   ·have:bnd (λh=>if decide (xs'.length<=i)=true then ret acc h else Out.no) (λys=>new (.lst ys)) h'=new (.lst acc) h':=by
     unfold bnd;dsimp only;rw[if_pos (decide_eq_true hl)];rfl
    rw[this] at Na;exact .inl ⟨wk.stop w1.w w2 k1 hl,fin Na⟩
   ·have:bnd (λh=>if decide (xs'.length<=i)=true then ret acc h else Out.no) (λys=>new (.lst ys)) h'=Out.no:=by
     unfold bnd;dsimp only;rw[if_neg (by rw[decide_eq_false hl];exact Bool.false_ne_true)]
    rw[this] at Na;exact Na.elim
  | succ m =>
   simp only[fj,aT] at sS;obtain⟨xs',k1,sS⟩:=aA sS;cases hx:xs'[i]? with
   | none =>rw[hx] at sS;exact .inl ⟨wk.stop w1.w w2 k1 (List.getElem?_eq_none_iff.mp hx),fin sS⟩
   | some v =>
    rw[hx] at sS;dsimp only at sS;refine .inr ⟨wk.go w1.w w2 k1 hx,_,λAw Jl w=>⟨m,lt_succ_self _,w⟩,λy H2 hy=>?_⟩;obtain⟨z1,z2,z3⟩:=wk.vS w1.w w2 k1 hx hy;simp only[aT] at sS;simp only[f,aT] at sS;obtain⟨env',k2,sS⟩:=cJ sS;refine BU k2 z3 (w6.up z1) (by rw[w7];simp[jk]) λσ2 Pn hl2 hout=>?_;have Kd:H2 D=some (.lst ys):=z1.keep _ _ w4 w3;have G2:Gr ρ1 H1 ρ' H2:=w1.trans z1;have body:∀(b:Bool) (h3:Hs) (ρ3:List Addr) (H3:Hp),Gr ρ' H2 ρ3 H3->HR (bd X cl) ρ3 h3 H3->Post (bd X cl) EX ρ1 H1 (WV X.K Q) (bnd (if b=true then bnd (aF Φ elt env') λe=>ret (some e) else ret none) (λo=>bnd (fj src f m (i+1) (match o with|some e=>acc++[e]|none=>acc)) λys=>new (.lst ys)) h3) ->
      (if b=true then tV Φ (bd X cl) EX elt σ2 H3 (λy H4=>∃ys,H4 D=some (.lst ys)/\ys.length<sizeLine/\(λσ' H'=>∃ρ' h' acc ys,Gr ρ1 H1 ρ' H'/\HR (bd X cl) ρ' h' H'/\D ∉ ρ'/\H' D=some (.lst ys)/\av X.K ρ' H' acc ys/\cS X.K ρ' (jk js env) σ' H' /\ σ'.length=js.length/\acc.length<=i+1/\i+1+m=xs.length /\
       Post (bd X cl) EX ρ1 H1 (WV X.K Q) (bnd (fj src f m (i+1) acc) (λys=>new (.lst ys)) h')) σ2 (upd H4 D (.lst (ys++[y]))))
      else (λσ' H'=>∃ρ' h' acc ys,Gr ρ1 H1 ρ' H'/\HR (bd X cl) ρ' h' H'/\D ∉ ρ'/\H' D=some (.lst ys)/\av X.K ρ' H' acc ys/\cS X.K ρ' (jk js env) σ' H' /\ σ'.length=js.length/\acc.length<=i+1/\i+1+m=xs.length /\
       Post (bd X cl) EX ρ1 H1 (WV X.K Q) (bnd (fj src f m (i+1) acc) (λys=>new (.lst ys)) h')) σ2 H3):=by
     intro b h3 ρ3 H3 g3 r3 p5;have QW:D ∉ ρ3:=λz=>by have:=g3.fresh D z w3;rw[Kd] at this;cases this
     have LM:H3 D=some (.lst ys):=g3.keep _ _ Kd w3;have E3:cS X.K ρ3 (jk js env) σ2 H3:=(BS h5 (w6.up z1) hout).up g3;cases b with
     | true =>
      rw[if_pos rfl] at p5 |-;simp only[aT,cK] at p5;refine⟨ρ3,env',h3,Pn.up g3,r3,jQ (G2.trans g3) p5 λv4 h4 ρ4 H4 _ p6 g4 r4 y4 q4=>?_⟩;have Us:D ∉ ρ4:=λz=>by have:=g4.fresh D z QW;rw[LM] at this;cases this
      have Nb:H4 D=some (.lst ys):=g4.keep _ _ LM QW;have gw:Gw ρ4 H4 ρ4 (upd H4 D (.lst (ys++[y4]))):=Gw.other Nb rfl;have la:=w5.length;refine⟨ys,Nb,by omega,ρ4,h4,acc++[v4],ys++[y4],((G2.trans g3).trans g4).over hD,r4.other Us Nb rfl,Us,aR,av.append (av.jZ gw _ _ (av.up ((z1.trans g3).trans g4) _ _ w5)) (av.jZ gw _ _ (av.cons q4 av.nil)),(E3.up g4).jZ gw,by rw[hl2,w7],by simp;omega,by omega,p6⟩
     | false =>rw[if_neg Bool.false_ne_true] at p5 |-;exact⟨ρ3,h3,acc,ys,G2.trans g3,r3,QW,LM,av.up (z1.trans g3) _ _ w5,E3,by rw[hl2,w7],by omega,by omega,p5⟩
    show (if cG t=true then uf else tT Φ (bd X cl) EX t) σ2 H2 _
    by_cases hn:cG t=true
    ·rw[if_pos hn];rw[if_pos hn,cK] at sS;exact body true h' ρ' H2 Gr.refl z2 sS
    ·rw[if_neg hn];rw[if_neg hn] at sS;exact⟨ρ',env',h',Pn,z2,jQ G2 sS λb h3 ρ3 H3 _ p5 g3 r3=>body b h3 ρ3 H3 g3 r3 p5⟩
theorem Fc(hs:jm Φ it)(hc:bW Φ t)(he:bW Φ elt):bW Φ (.comp N' js pat ik it t elt):=by
 intro Γ k X cl EX e c h;obtain⟨e',tg,iter,ifs,scope,pos,wi,g,tt,te,rfl,h1,h2,h3,h4,h5,h6,h7⟩:=pG hs hc he c h;have q:=(Es (pos:=pos) h1 c.calm h2 h3 h4 h5 h6).imp h7;exact⟨q,cy q λ_=>rfl⟩
theorem Fd{k v:IE}(hk:bW Φ k)(hv:bW Φ v):bW Φ (.dct1 k v):=by
 intro Γ n X cl EX e c h;rw[aG.eq_def] at h;dsimp only at h;split at h<;>first|cases h|skip
 rename_i a b pos;simp only[and_eq_true] at h;have q:PE X (.Dict [some a] [b] pos) (tV Φ (bd X cl) EX (.dct1 k v)):=by
  refine(El (A8 (hk Γ n X cl EX a c h.1).1 (hv Γ n X cl EX b c h.2).1 Ek) rfl rfl (by simp) (by simp)).imp λσ H Q aJ=>?_;obtain⟨ρ,env,h,hE,r,p⟩:=aJ;intro D hD;have g0:Gr ρ H ρ (upd H D (.dK [])):=Gr.side hD;simp only[aF] at p;refine⟨ρ,env,h,hE.up g0,r.side hD,jQ g0 p λx h1 ρ1 H1 _ p1 g1 r1 y1 q1=>?_⟩;obtain⟨kk,e1,p1⟩:=cJ p1;refine⟨ρ1,env,h1,(hE.up g0).up g1,r1,jQ (g0.trans g1) p1 λy h2 ρ2 H2 _ p2 g2 r2 y2 q2=>?_⟩;have Ut:D ∉ ρ:=r.out hD;have Kd:D ∉ ρ2:=λz=>by have:=(g1.trans g2).fresh D z Ut;rw[aR] at this;cases this
  have e2:H2 D=some (.dK []):=(g1.trans g2).keep D _ aR Ut;have ek:y1=kV kk:=by
   cases x<;>first|(cases e1;done)|skip
   ·cases e1;rw[VR] at q1;exact q1
   ·cases e1;rw[VR] at q1;exact q1
  refine⟨e2,[(kk,y2)],by rw[ek];rfl,by simp,?_⟩;have gw:Gw ρ2 H2 (ρ2++[D]) (upd H2 D (.dK (lW [] [(kk,y2)]))):=⟨prefix_append _ _,(Gw.other (ρ:=ρ2) e2 rfl).firm⟩;exact p2 (ρ2++[D]) _ ((((g0.trans g1).trans g2).over hD).adopt hD) ((r2.other Kd e2 rfl).adopt Kd ⟨[(kk,y2)],aR,y2,[],rfl,VR.jZ gw _ _ q2,rfl⟩) _ (xZ r2)
 exact⟨q,cy q λ_=>rfl⟩
theorem Fe{p q:Nat}:bW Φ (.dflt N' js p q d w):=pq λ_ _=>rfl
theorem Ke(ha:bW Φ a):bW Φ (.isc a x bs):=by
 intro Γ k X cl EX e c h;rw[aG.eq_def] at h;dsimp only at h;split at h<;>first|cases h|skip
 rename_i f fp l y yp pos;simp only[and_eq_true,beq_iff_eq,contains_iff_mem,decide_eq_true_eq] at h;obtain⟨⟨⟨⟨⟨⟨⟨h1,h2⟩,h3⟩,h4⟩,h5⟩,h6⟩,h7⟩,h8⟩:=h;subst h1;subst h3;obtain⟨g1,g2,g3⟩:=c.gl h2;obtain⟨y1,y2,y3⟩:=c.gl h4;obtain⟨C,hm,hC⟩:=c.isc _ h6;have q:PE X (.Call (.Name "isinstance" fp) [l,.Name y yp] [] pos) (tV Φ (bd X cl) EX (.isc a y bs)):=by
  refine(fh (By (C:=C)) g1 (c.blt _ (show ("isinstance":Str)∈fk by decide)) yd (kQ (ha Γ k X cl EX l c h8).1 (kQ (xJ (v:=.ref C) y1 hm rfl y2) v9) (aQ h5)) g3 g2 (aQ h5)).imp λσ H Q aJ=>?_;obtain⟨ρ,env,h,hE,r,p⟩:=aJ;simp only[aF] at p;refine⟨ρ,env,h,hE,r,aq p λv h1 ρ1 z H1 g1 r1 q1 p1=>?_⟩;obtain⟨b,e1,p2⟩:=aA p1;cases v<;>first|(cases e1;done)|(rw[VR] at q1;exact q1.elim)|skip
  rename_i i;rw[VR] at q1;obtain⟨ad,rfl,q1⟩:=q1;have hx:∃c0 fs,h1[i]?=some (.ins c0 fs)/\bs[c0]?=some b:=by
   change (match h1[i]? with|some (.ins c _)=>bs[c]?|_=>none)=some b at e1;split at e1
   ·rename_i c0 fs e2;exact⟨c0,fs,e2,e1⟩
   ·cases e1
  obtain⟨c0,fs,e2,e3⟩:=hx;obtain⟨dx,gs,k1,k2⟩:=r1.ob i _ ad e2 q1;obtain⟨ti,kk⟩:=hC c0 b e3;have hl:c0<bs.length:=(List.getElem?_eq_some_iff.mp e3).1;exact⟨.ref ad,.ref (cl c0),b,rfl,.ins k1 (c.cls c0 (by omega)).1 ti.ha ti.hn ti.htk ti.hm,kk,ai r1 p2 _ VR.bl⟩
 exact⟨q,cy q λ_=>rfl⟩
theorem mE:(∀ir,bW Φ ir)/\∀dN,jm Φ dN:=by
 have one:∀ir,bW Φ ir:=by
  intro ir;exact IE.rec (motive_1:=λir=>bW Φ ir) (motive_2:=λdN=>jm Φ dN) (λ_=>JN) (λ_=>JO) (λ_ _=>JP) M8 (λ_ _ _ a b=>JQ a b) (λ_ a=>JR a) (λ_ _ _ a b=>JS a b) (λ_ _ _ _ _ a b c=>JT a b c)
   (λ_ _ a b=>JU a b) (λ_ _ a b=>M9 a b) (λ_ a=>JV a) (λ_ _ _ a b c=>JW a b c) (λ_ a=>JX a) (λ_ a=>JY a) (λ_ _ a b=>JZ a b) (λ_ _ _ a b c=>J0 a b c) (λ_ _ a=>EW a) (λ_ _ a=>J9 a)
   (λ_ _ _ a b=>Ka a b) (λ_ _ _ _ _ _ _ a b c=>Fc a b c) ES (λ_ a=>E6 a) (λ_ _ _ a b c=>E7 a b c) (λ_ _ a b=>Fd a b) (λ_ a=>BN a) (λ_ _ _ a b c=>E8 a b c) (λ_ a=>BP a) (λ_ a=>BO a) (λ_ _ _ a=>J2 a) (λ_ _ _ _ a b=>J3 a b) (λ_ _ a b=>J1 a b) (λ_ _ _ _ _ _ _ _=>Fe) (λ_ _ _ a=>Ke a) BJ (λ_ _ a b=>yb a b) ir
 refine⟨one,λdN=>?_⟩
 induction dN using m8.rec (motive_1:=λ_=>True) with
 | nil=>exact BJ
 | cons e es _ ih=>exact yb (one e) ih
 | _=>trivial
end
end Hv
end
section
namespace Hv
open PySem L2 PyProof.Rows
noncomputable def mF:Expr->Bool
 | .ListComp ..=>false|.SetComp ..=>false|.DictComp ..=>false
 | _=>true
noncomputable def Nc:Expr->Bool
 | .Tuple ..=>false
 | _=>true
noncomputable def QX:Expr->Bool
 | .SetComp ..=>false|.DictComp ..=>false
 | _=>true
mutual
noncomputable def mG(Γ:o9):IS->Stmt->Bool
 | .expr e,s=>match s with
  | .Expr x _=>mF x&&aG Γ e x
  | _=>false
 | .asg p e,s=>match s with
  | .Assign [tg] x _=>uS Γ p tg&&aG Γ e x&&(match p with|.one _=>QX x|.tup _=>mF x&&Nc x)
  | _=>false
 | .aug i o e,s=>match s with
  | .AugAssign (.Name x _) op v _=>Γ.N[i]?==some x&&(Γ.sc.names.lookup x==some .local || Γ.sc.names.lookup x==some .cell)&&JM o op&&(match o with|.pow=>false|_=>true)&&aG Γ e v
  | _=>false
 | .gu o i v,s=>match s with
  | .Assign [.Subscript a b _] x _=>nS b&&mF x&&aG Γ o a&&aG Γ i b&&aG Γ v x
  | _=>false
 | .iff c a b,s=>match s with
  | .If t x y _=>aG Γ c t&&bq Γ a x&&bq Γ b y
  | _=>false
 | .for p k it body,s=>match s with
  | .For tg iter x [] _=>uS Γ p tg&&uK Γ k it iter&&(match k,p with|.enum,.one _=>false|.zip,.one _=>false|_,_=>true)&&bq Γ body x
  | _=>false
 | .whl _ c body,s=>match s with
  | .While t x [] _=>aG Γ c t&&bq Γ body x
  | _=>false
 | .ret e,s=>match s with
  | .Return (some x) _=>aG Γ e x
  | _=>false
 | .EB,s=>match s with
  | .Return none _=>true
  | _=>false
 | .brk,s=>match s with
  | .Break _=>true
  | _=>false
 | .cnt,s=>match s with
  | .Continue _=>true
  | _=>false
 | .pass,s=>match s with
  | .Pass _=>true
  | .Expr (.Constant (.str _) _ _) _=>true
  | _=>false
 | .never,_=>true
 | .setF n a x v,s=>match s with
  | .Assign [.Attribute o y _] e _=>x==y&&mF e&&n == Γ.tb.nc && Γ.tb.EJ.contains x&&aG Γ a o&&aG Γ v e
  | _=>false
noncomputable def bq(Γ:o9):fM->List Stmt->Bool
 | .nil,ls=>ls.isEmpty
 | .cons s r,ls=>match ls with
  | l::ls=>mG Γ s l&&bq Γ r ls
  | []=>false
end
structure Kf (Φ:Fn) (Γ:o9) (k:Nat) (X:Cx) (cl:Nat->Addr) (EX:Nat->List V->Hp->Prop):Prop extends Ctx Φ Γ k X cl EX where
 fn:∀x,X.fn x=true
 nd:X.N.Nodup
 kind:X.env.scope.kind=.function
 xe:PassesOwn (model X.prog X.w) X.A X.env X.xe
noncomputable def WF(K:PySem.W.Frag)(D:Ends):Fl->Hs->List Addr->Hp->Prop
 | .nx env',_,ρ',H'=>∀σ',cS K ρ' env' σ' H'->env'.length = σ'.length->D.nx σ' H'
 | .rt v,_,ρ',H'=>∀x,VR K ρ' H' v x->D.rt x H'
 | .bk env',_,ρ',H'=>∀σ',cS K ρ' env' σ' H'->env'.length = σ'.length->D.bk σ' H'
 | .ct env',_,ρ',H'=>∀σ',cS K ρ' env' σ' H'->env'.length = σ'.length->D.ct σ' H'
noncomputable def tS(Φ:Fn)(B:Bd)(EX:Nat->List V->Hp->Prop)(ir:IS):TS:=λD σ H=>∃ρ env h,cS B.K ρ env σ H/\env.length = σ.length/\HR B ρ h H/\Post B EX ρ H (WF B.K D) (fS Φ ir env h)
noncomputable def V8(Φ:Fn)(B:Bd)(EX:Nat->List V->Hp->Prop)(ir:fM):TS:=λD σ H=>∃ρ env h,cS B.K ρ env σ H/\env.length = σ.length/\HR B ρ h H/\Post B EX ρ H (WF B.K D) (eG Φ ir env h)
theorem _root_.L2.PS.imp(h:PS X e t)(i:∀D σ H,t' D σ H->t D σ H):PS X e t':=λpins s σ H D I hw=>h pins s σ H D I (i D σ H hw)
theorem _root_.L2.vR.imp(h:vR X e t)(i:∀D σ H,t' D σ H->t D σ H):vR X e t':=λpins s σ H D I hw=>h pins s σ H D I (i D σ H hw)
section
variable {Φ:Fn} {Γ:o9} {k:Nat} {X:Cx} {cl:Nat->Addr} {EX:Nat->List V->Hp->Prop}
noncomputable def uT(Φ:Fn)(ir:IS):Prop:=∀(Γ:o9) (k:Nat) (X:Cx) (cl:Nat->Addr) (EX:Nat->List V->Hp->Prop) (st:Stmt),Kf Φ Γ k X cl EX->mG Γ ir st=true->PS X st (tS Φ (bd X cl) EX ir)
noncomputable def sU(Φ:Fn)(dN:fM):Prop:=∀(Γ:o9) (k:Nat) (X:Cx) (cl:Nat->Addr) (EX:Nat->List V->Hp->Prop) (st:List Stmt),Kf Φ Γ k X cl EX->bq Γ dN st=true->vR X st (V8 Φ (bd X cl) EX dN)
theorem jn{n:Nat}(h:mF e=true):swapsWith e t n env=pure false:=by
 cases e<;>first|rfl|(exact absurd h Bool.false_ne_true)
theorem GW(ir:IE)(c:Ctx Φ Γ k X cl EX)(h:aG Γ ir e=true):PE X e (tV Φ (bd X cl) EX ir):=(mE.1 ir Γ k X cl EX e c h).1
theorem V9(ir:IE)(c:Ctx Φ Γ k X cl EX)(h:aG Γ ir e=true):PT X e (tT Φ (bd X cl) EX ir):=(mE.1 ir Γ k X cl EX e c h).2
theorem GX(hs:∀env h,fS Φ ir env h=.no):uT Φ ir:=by
 intro Γ k X cl EX st c h;refine oj.imp λD σ H ⟨ρ,env,h,hE,hl,r,p⟩=>?_;rw[hs] at p;exact p.elim
theorem Kg:uT Φ (.expr e):=by
 intro Γ k X cl EX st c h;rw[mG.eq_def] at h;dsimp only at h;split at h<;>first|cases h|skip
 simp only[and_eq_true] at h;refine(DT (GW e c.toCtx h.2) (jn h.1)).imp λD σ H aJ=>?_;obtain⟨ρ,env,h,hE,hl,r,p⟩:=aJ;simp only[fS] at p;exact⟨ρ,env,h,hE,r,aq p λv h1 ρ1 x H1 g1 r1 q1 p1=>ai r1 p1 σ (hE.up g1) hl⟩
theorem Nd:uT Φ (.asg p e):=by
 intro Γ k X cl EX st c h;rw[mG.eq_def] at h;dsimp only at h;split at h<;>first|cases h|skip
 rename_i tg x pos;simp only[and_eq_true] at h;obtain⟨⟨h1,h2⟩,h3⟩:=h;have hg:=yi c.toCtx c.fn c.nd h1;have he:=GW e c.toCtx h2;have fin:∀D σ H,tS Φ (bd X cl) EX (.asg p e) D σ H->DV (tV Φ (bd X cl) EX e) (z7 X.K p) D σ H:=λD σ H ⟨ρ,env,h,hE,hl,r,pp⟩=>by
  simp only[fS] at pp;refine⟨ρ,env,h,hE,r,aq pp λv h1 ρ1 x H1 g1 r1 q1 p1=>?_⟩;obtain⟨env',e1,p2⟩:=cJ p1;exact yj e1 q1 (hE.up g1) hl λσ' QY hl' _=>ai r1 p2 σ' QY hl'
 have Wa:(assignEach [tg] X.env).map (·.2)=[assign tg X.env]:=by
  cases p with
  | one i=>obtain⟨t,tp,rfl⟩:=pD h1;rfl
  | tup is=>obtain⟨es,kk,tp,rfl⟩:=lq h1;rfl
 cases p with
 | tup is =>
  simp only[and_eq_true] at h3;refine(AK he hg ?_ ?_ Wa).imp fin
  ·show swapsWith x (some tg) _ _=_;exact jn h3.1
  ·obtain⟨es,kk,tp,rfl⟩:=lq h1;cases x<;>first|rfl|(exact absurd h3.2 Bool.false_ne_true)
 | one i =>
  obtain⟨t,tp,rfl⟩:=pD h1
  ·
   simp only[uS,and_eq_true,beq_iff_eq] at h1;have loc:L2.Loc X.env.scope t:=by unfold L2.Loc;rw[c.sc];simpa using h1.2
   have pl:mF x=true->PS X (.Assign [.Name t tp] x pos) (tS Φ (bd X cl) EX (.asg (.one i) e)):=λhx=>(AL c.nd (by rw[c.N];exact h1.1) loc he (jn hx) (.inl (c.fn t))).imp fin;cases x with
   | ListComp e' gens scope p2 =>
    cases hb:(X.env.kindOf t==some .local&&tp.line==p2.line && !(scope.names.any λ(n,k)=>n==t&&(k==.local||k==.cell))) with
    | false =>
     refine(AL c.nd (by rw[c.N];exact h1.1) loc he ?_ (.inl (c.fn t))).imp fin;have bk:(X.env.blockKind==.function)=true:=by unfold Env.blockKind;rw[c.kind];rfl
     show (pure (X.env.blockKind==.function&&X.env.kindOf t==some .local&&tp.line==p2.line && !(scope.names.any λ(n,k)=>n==t&&(k==.local||k==.cell))):Sem Bool)=pure false;rw[bk,Bool.true_and,hb]
    | true =>
     have bk:(X.env.blockKind==.function)=true:=by unfold Env.blockKind;rw[c.kind];rfl
     have hsw:swapsWith (.ListComp e' gens scope p2) (some (.Name t tp)) pos.line X.env=pure true:=by show (pure (X.env.blockKind==.function&&X.env.kindOf t==some .local&&tp.line==p2.line && !(scope.names.any λ(n,k)=>n==t&&(k==.local||k==.cell))):Sem Bool)=pure true;rw[bk,Bool.true_and,hb]
     cases e with
     | comp N' js pat ik it Nf elt =>obtain⟨e2,Y5,iter,ifs,QZ,pos2,wi,g,tt,te,q0,q1,q2,q3,q4,q5,q6,q7⟩:=pG (mE.2 it) (mE.1 Nf) (mE.1 elt) c.toCtx h2;cases q0;refine(Et c.nd (by rw[c.N];exact h1.1) loc q1 c.calm q2 q3 q4 q5 hsw (.inl (c.fn t)) q6).imp λD σ H hh=>?_;exact q7 σ H _ (fin D σ H hh)
     | dflt N' js p q d w =>refine oj.imp λD σ H hh=>?_;obtain⟨ρ,env,h,hE,hl,r,pp⟩:=hh;simp only[fS,aF] at pp;exact pp.elim
     | _=>first|exact absurd h2 Bool.false_ne_true|(rw[aG.eq_def] at h2;cases h2)
   | SetComp _ _ _ _=>exact absurd h3 Bool.false_ne_true
   | DictComp _ _ _ _ _=>exact absurd h3 Bool.false_ne_true
   | _=>exact pl rfl
theorem Ng{i:Nat}:uT Φ (.aug i o e):=GX λ_ _=>rfl
noncomputable def Nh(B:Bd)(EX:Nat->List V->Hp->Prop):Iv:=λo i v H Q=>∃ρ h a b w,HR B ρ h H/\VR B.K ρ H a o/\VR B.K ρ H b i/\VR B.K ρ H w v/\Post B EX ρ H (λ_ _ _ H'=>Q H') (rm a b w h)
theorem Kh(hu:X.A.units+64<cLine):Iw X (Nh (bd X cl) EX):=by
 intro pins s σ H o i v ov iv u Q I ro ri rv hh;obtain⟨ρ,h,a,b,w,r,ha,hb,hw,p⟩:=hh;cases a with
 | ref j =>
  simp only[rm] at p;obtain⟨ob,e1,p⟩:=aA p;have dict:∀kvs,ob=.dct kvs->Post (bd X cl) EX ρ H (λ_ _ _ H'=>Q H') (bnd (bg (keyOf b)) (λk=>aD (decide (kvs.length<sizeLine)) (put j (.dct (fY kvs k w)))) h)->wpAny (model X.prog X.w) X.A (setItem ov iv u) (λ_ s'=>∃H',L2.Inv X pins σ H' s'/\Q H') X.xe s:=by rintro kvs rfl p;obtain⟨kk,e2,p⟩:=cJ p;obtain⟨e3,p⟩:=aN p;have e3:=of_decide_eq_true e3;rw[VR] at ha;obtain⟨A,rfl,k1⟩:=ha;obtain⟨ks,k2,k3⟩:=r.ob j _ A e1 k1;cases ro;have ek:=BF hb e2;subst ek;refine zz (by omega) I (Ei.k (v:=v) k2 (by rw[<-k3.length];exact e3)) ri rv λs' I'=>⟨_,I',?_⟩;have g:Gr ρ H ρ (upd H A (.dK (putK ks kk v))):=Gr.put (mem_of_getElem? k1) k2 rfl;exact p ρ _ g (r.put k1 e1 (u:=.dct (fY kvs kk w)) ⟨_,aR,fN.put kk (VR.up g _ _ hw) (fN.up g _ _ k3)⟩)
  cases ob with
  | lst xs =>
   cases b<;>first|(exact p.elim)|skip
   rename_i n _;obtain⟨jj,e2,p⟩:=cJ p;obtain⟨A,ys,rfl,k1,k2,k3⟩:=jO r ha e1;rw[VR] at hb;subst hb;refine set_list pins s σ H _ _ v ov iv u Q I ro ri rv ⟨A,ys,n,jj,rfl,rfl,k2,by rw[<-k3.length];exact e2,?_⟩;have g:Gr ρ H ρ (upd H A (.lst (ys.set jj v))):=Gr.put (mem_of_getElem? k1) k2 rfl;exact p ρ _ g (r.put k1 e1 (u:=.lst (xs.set jj w)) ⟨_,aR,av.set jj (av.up g _ _ k3) (VR.up g _ _ hw)⟩)
  | dct kvs=>exact dict kvs rfl (by cases b<;>exact p)
  | ins c fs=>cases b<;>exact p.elim
 | _=>exact p.elim
theorem Kl:uT Φ (.gu o i v):=by
 intro Γ k X cl EX st c h;rw[mG.eq_def] at h;dsimp only at h;split at h<;>first|cases h|skip
 rename_i a b sp x pos;simp only[and_eq_true] at h;obtain⟨⟨⟨⟨h1,h2⟩,h3⟩,h4⟩,h5⟩:=h;have Wb:PG X (.Subscript a b sp) (Mq (tV Φ (bd X cl) EX o) (tV Φ (bd X cl) EX i) (Nh (bd X cl) EX)):=Iz (GW o c.toCtx h3) (GW i c.toCtx h4) (Kh c.units) (by
  intro v;cases b<;>first|rfl|(exact absurd h1 Bool.false_ne_true))
 refine(AK (GW v c.toCtx h5) Wb (jn (t:=some (.Subscript a b sp)) (n:=pos.line) (env:=X.env) h2) (by cases x<;>rfl) rfl).imp λD σ H aJ=>?_;obtain⟨ρ,env,h,hE,hl,r,p⟩:=aJ;simp only[fS] at p;refine⟨ρ,env,h,hE,r,aq p λw h1 ρ1 x1 H1 g1 r1 q1 p1=>⟨ρ1,env,h1,hE.up g1,r1,aq p1 λw2 h2 ρ2 x2 H2 g2 r2 q2 p2=>⟨ρ2,env,h2,(hE.up g1).up g2,r2,aq p2 λw3 h3 ρ3 x3 H3 g3 r3 q3 p3=>?_⟩⟩⟩;refine⟨ρ3,h3,w2,w3,w,r3,VR.up g3 _ _ q2,q3,VR.up (g2.trans g3) _ _ q1,aY p3 λ_ h4 ρ4 H4 g4 r4 p4=>?_⟩;exact ai r4 p4 σ (((hE.up g1).up g2).up g3 |>.up g4) hl
theorem Ni(ha:sU Φ a)(hb:sU Φ b):uT Φ (.iff t a b):=by
 intro Γ k X cl EX st c h;rw[mG.eq_def] at h;dsimp only at h;split at h<;>first|cases h|skip
 rename_i tt x y pos;simp only[and_eq_true] at h;refine(Mm (V9 t c.toCtx h.1.1) (ha Γ k X cl EX x c h.1.2) (hb Γ k X cl EX y c h.2)).imp λD σ H aJ=>?_;obtain⟨ρ,env,h,hE,hl,r,p⟩:=aJ;simp only[fS] at p;refine⟨ρ,env,h,hE,r,mw p λv h1 p1=>?_⟩;obtain⟨s,e1,p2⟩:=aA p1;refine⟨s,e1,λρ1 H1 g1 r1=>?_⟩;have p2:=Post.up g1 p2;cases s with
 | true=>rw[if_pos rfl] at p2 |-;exact⟨ρ1,env,h1,hE.up g1,hl,r1,p2⟩
 | false=>rw[if_neg Bool.false_ne_true] at p2 |-;exact⟨ρ1,env,h1,hE.up g1,hl,r1,p2⟩
theorem Nj(hb:sU Φ body):uT Φ (.for p ik it body):=by
 intro Γ k X cl EX st c h;rw[mG.eq_def] at h;dsimp only at h;split at h<;>first|cases h|skip
 rename_i tg iter x pos;simp only[and_eq_true] at h;obtain⟨⟨⟨h1,h2⟩,h3⟩,h4⟩:=h;have hen:ik=.enum\/ik=.zip->∃es kk pos,tg=.Tuple es kk pos:=by
  intro hz;cases p with
  | one i=>rcases hz with rfl|rfl<;>cases h3
  | tup is=>exact lq h1
 obtain⟨hi,hf⟩:=GV (mE.2 it) c.toCtx h2 hen;refine(IF c.xe c.calm hi (yi c.toCtx c.fn c.nd h1) (hb Γ k X cl EX x c h4) hf).imp λD σ H aJ=>?_;obtain⟨ρ,env,h,hE,hl,r,pp⟩:=aJ;simp only[fS] at pp;have p':Post (bd X cl) EX ρ H (WF X.K D) (bnd (LL Φ ik it env) (λsrc=>bnd (ask λh=>src.items h) λxs=>forM src (λx env=>bnd (bg (fG p x env)) λenv'=>eG Φ body env') xs.length 0 env) h):=by unfold LL;rw[aT];exact pp
 refine⟨ρ,env,h,hE,r,aY p' λsrc h1 ρ1 H1 g1 r1 p1=>?_⟩;obtain⟨xs,e1,p2⟩:=aA p1;refine⟨⟨xs,e1⟩,λJ wk=>?_⟩;refine⟨λi m σ' H'=>∃ρ' env' h',Gr ρ1 H1 ρ' H'/\cS X.K ρ' env' σ' H'/\env'.length = σ'.length/\HR (bd X cl) ρ' h' H'/\Post (bd X cl) EX ρ' H' (WF X.K D) (forM src (λx env=>bnd (bg (fG p x env)) λenv'=>eG Φ body env') m i env' h'),
  ⟨xs.length,ρ1,env,h1,Gr.refl,hE.up g1,hl,r1,p2⟩,?_⟩
 rintro i m σ' H' ⟨ρ',env',h',w1,w2,w3,w4,w5⟩;cases m with
 | zero =>simp only[forM] at w5;obtain⟨xs',k1,w5⟩:=aA w5;obtain⟨k2,w5⟩:=aN w5;exact .inl ⟨wk.stop w1.w w4 k1 (of_decide_eq_true k2),ai w4 w5 σ' w2 w3⟩
 | succ m =>
  simp only[forM] at w5;obtain⟨xs',k1,w5⟩:=aA w5;cases hx:xs'[i]? with
  | none =>rw[hx] at w5;exact .inl ⟨wk.stop w1.w w4 k1 (List.getElem?_eq_none_iff.mp hx),ai w4 w5 σ' w2 w3⟩
  | some v =>
   rw[hx] at w5;dsimp only at w5;refine .inr ⟨wk.go w1.w w4 k1 hx,_,λAw Jl w=>⟨m,lt_succ_self _,w⟩,λy H2 hy=>?_⟩;obtain⟨z1,z2,z3⟩:=wk.vS w1.w w4 k1 hx hy;rw[aT] at w5;obtain⟨kF,k2,w5⟩:=cJ w5;refine yj k2 z3 (w2.up z1) w3 λσ2 Pn hl2 _=>⟨ρ',kF,h',Pn,hl2,z2,aY (Post.up z1 w5) λf h3 ρ3 H3 g3 r3 p3=>?_⟩;cases f with
   | nx Ff=>exact λσ3 Nk hl3=>⟨ρ3,Ff,h3,(w1.trans z1).trans g3,Nk,hl3,r3,p3⟩
   | ct Ff=>exact λσ3 Nk hl3=>⟨ρ3,Ff,h3,(w1.trans z1).trans g3,Nk,hl3,r3,p3⟩
   | bk Ff=>exact λσ3 Nk hl3=>ai r3 p3 σ3 Nk hl3
   | rt v=>exact(ai r3 p3:WF X.K D (.rt v) h3 ρ3 H3)
theorem Nl{n:Nat}(hb:sU Φ body):uT Φ (.whl n t body):=GX λ_ _=>rfl
theorem Nm:uT Φ (.ret e):=by
 intro Γ k X cl EX st c h;rw[mG.eq_def] at h;dsimp only at h;split at h<;>first|cases h|skip
 refine(Ir (GW e c.toCtx h)).imp λD σ H aJ=>?_;obtain⟨ρ,env,h,hE,hl,r,p⟩:=aJ;simp only[fS] at p;exact⟨ρ,env,h,hE,r,aq p λv h1 ρ1 x H1 g1 r1 q1 p1=>ai r1 p1 x q1⟩
theorem Km:uT Φ .EB:=by
 intro Γ k X cl EX st c h;rw[mG.eq_def] at h;dsimp only at h;split at h<;>first|cases h|skip
 refine DU.imp λD σ H aJ=>?_;obtain⟨ρ,env,h,hE,hl,r,p⟩:=aJ;simp only[fS] at p;exact ai r p _ VR.non
theorem Nn:uT Φ .brk:=by
 intro Γ k X cl EX st c h;rw[mG.eq_def] at h;dsimp only at h;split at h<;>first|cases h|skip
 refine AI.imp λD σ H aJ=>?_;obtain⟨ρ,env,h,hE,hl,r,p⟩:=aJ;simp only[fS] at p;exact ai r p σ hE hl
theorem Np:uT Φ .cnt:=by
 intro Γ k X cl EX st c h;rw[mG.eq_def] at h;dsimp only at h;split at h<;>first|cases h|skip
 refine tX.imp λD σ H aJ=>?_;obtain⟨ρ,env,h,hE,hl,r,p⟩:=aJ;simp only[fS] at p;exact ai r p σ hE hl
theorem Kn:uT Φ .pass:=by
 intro Γ k X cl EX st c h;rw[mG.eq_def] at h;dsimp only at h;split at h<;>first|cases h|skip
 ·refine DS.imp λD σ H aJ=>?_;obtain⟨ρ,env,h,hE,hl,r,p⟩:=aJ;simp only[fS] at p;exact ai r p σ hE hl
 ·refine Iq.imp λD σ H aJ=>?_;obtain⟨ρ,env,h,hE,hl,r,p⟩:=aJ;simp only[fS] at p;exact ai r p σ hE hl
theorem Fg:uT Φ .never:=by
 intro Γ k X cl EX st c h;refine oj.imp λD σ H aJ=>?_;obtain⟨ρ,env,h,hE,hl,r,p⟩:=aJ;simp only[fS] at p;exact p.elim
theorem z8{α β:Type}(c:Bool)(m:M α)(f:α -> M β):bnd (aD c m) f=aD c (bnd m f):=by
 funext h;unfold bnd aD;cases c<;>rfl
theorem Ko{n:Nat}:uT Φ (.setF n a x v):=by
 intro Γ k X cl EX st c h;rw[mG.eq_def] at h;dsimp only at h;split at h<;>first|cases h|skip
 rename_i o y ap e pos;simp only[and_eq_true,beq_iff_eq,contains_iff_mem] at h;obtain⟨⟨⟨⟨⟨h1,h2⟩,h3⟩,h4⟩,h5⟩,h6⟩:=h;subst h1;refine(IV (GW a c.toCtx h5) (GW v c.toCtx h6) (jn (t:=some (.Attribute o x ap)) (n:=pos.line) (env:=X.env) h2)).imp λD σ H aJ=>?_;obtain⟨ρ,env,h,hE,hl,r,p⟩:=aJ;simp only[fS] at p;refine⟨ρ,env,h,hE,r,aq p λw h1 ρ1 x1 H1 g1 r1 q1 p1=>⟨ρ1,env,h1,hE.up g1,r1,aq p1 λw2 h2 ρ2 x2 H2 g2 r2 q2 p2=>?_⟩⟩;cases w2<;>first|exact p2.elim|skip
 rename_i i;rw[VR] at q2;obtain⟨ad,rfl,q2⟩:=q2;unfold xX at p2;dsimp only at p2;rw[aT] at p2;obtain⟨pr,e1,p3⟩:=aA p2;have hx:h2[i]?=some (.ins pr.1 pr.2)/\pr.1<n:=by
  split at e1
  ·rename_i c0 fs e2
   split at e1
   ·rename_i hc;cases e1;exact⟨e2,hc⟩
   ·cases e1
  ·cases e1
 obtain⟨dx,gs,k1,k2⟩:=r2.ob i _ ad hx.1 q2;obtain⟨cc,nn⟩:=c.cls pr.1 (by omega);have p4:Post (bd X cl) EX ρ2 H2 (WF X.K D) (aD (decide (pr.2.length<1000)) (bnd (put i (.ins pr.1 (o5 x w pr.2))) λ_=>ret (.nx env)) h2):=by rw[<-z8];exact p3
 obtain⟨el,p5⟩:=aN p4;refine⟨ad,cl pr.1,dx,gs,rfl,k1,cc,nn x h4,by rw[<-k2.length];exact of_decide_eq_true el,?_⟩;have g:Gr ρ2 H2 ρ2 (upd H2 ad (.ins (cl pr.1) dx (iG x x1 gs))):=Gr.put (mem_of_getElem? q2) k1 rfl;exact p5 ρ2 _ g (r2.put q2 hx.1 (u:=.ins pr.1 (o5 x w pr.2)) ⟨dx,_,aR,k9.put (VR.up (g2.trans g) _ _ q1) (k9.up g _ _ k2)⟩) σ (((hE.up g1).up g2).up g) hl
theorem Kp:sU Φ .nil:=by
 intro Γ k X cl EX st c h;rw[bq] at h;cases st with
 | cons _ _=>cases h
 | nil =>refine DR.imp λD σ H aJ=>?_;obtain⟨ρ,env,h,hE,hl,r,p⟩:=aJ;simp only[eG] at p;exact ai r p σ hE hl
theorem Fi(h1:uT Φ s)(h2:sU Φ ss):sU Φ (.cons s ss):=by
 intro Γ k X cl EX st c h;rw[bq.eq_def] at h;dsimp only at h;cases st with
 | nil=>cases h
 | cons l ls =>
  simp only[and_eq_true] at h;refine(AH (h1 Γ k X cl EX l c h.1) (h2 Γ k X cl EX ls c h.2)).imp λD σ H aJ=>?_;obtain⟨ρ,env,h,hE,hl,r,p⟩:=aJ;simp only[eG] at p;refine⟨ρ,env,h,hE,hl,r,aY p λf h1 ρ1 H1 g1 r1 p1=>?_⟩;cases f with
  | nx env'=>exact λσ' QY hl'=>⟨ρ1,env',h1,QY,hl',r1,p1⟩
  | rt v=>exact(ai r1 p1:WF X.K D (.rt v) h1 ρ1 H1)
  | bk env'=>exact(ai r1 p1:WF X.K D (.bk env') h1 ρ1 H1)
  | ct env'=>exact(ai r1 p1:WF X.K D (.ct env') h1 ρ1 H1)
theorem BV:∀dN,sU Φ dN:=by
 intro dN;exact fM.rec (motive_1:=λs=>uT Φ s) (motive_2:=λss=>sU Φ ss) (λ_=>Kg) (λ_ _=>Nd) (λ_ _ _=>Ng) (λ_ _ _=>Kl) (λ_ _ _ a b=>Ni a b) (λ_ _ _ _ a=>Nj a) (λ_ _ _ a=>Nl a) (λ_=>Nm) Km Nn Np Kn Fg (λ_ _ _ _=>Ko)
  Kp (λ_ _ a b=>Fi a b) dN
end
end Hv
end
section
namespace Hv
open PySem L2 PyProof.Rows
noncomputable abbrev Row:=Str×Nat×(List Val->M Val)
noncomputable def look(fs:List Row)(j:Nat):List Val->M Val:=match fs[j]? with
 | some r=>r.2.2
 | none=>λ_=>bg none
noncomputable def cZ(P:Program)(w:World)(B:Bd)(mg:Str->Option Value)(base:Heap)(k:Nat)(fs:List Row):Prop:=∀(j:Nat) (r:Row),fs[j]?=some r->LJ P w B mg base k j r.1 r.2.1 r.2.2
noncomputable def aX(N P:List Str)(sc:Scope):Bool :=
 sc.kind==.function && !sc.isCoroutine && !sc.isGenerator&&decide N.Nodup&&N.take P.length==P&&(P.all λx=>sc.names.lookup x==some .local||sc.names.lookup x==some .cell)&&(sc.names.all λy=>y.2 != .free)
theorem BW(h:aX N P sc=true):nO N P sc:=by
 unfold aX at h;simp only[and_eq_true,beq_iff_eq,not_eq_true',decide_eq_true_eq,all_eq_true,or_eq_true,bne_iff_ne] at h;obtain⟨⟨⟨⟨⟨⟨h1,h2⟩,h3⟩,h4⟩,h5⟩,h6⟩,h7⟩:=h;exact⟨h1,h2,h3,h4,h5,h6,h7⟩
structure Base (K:PySem.W.Frag) (cl:Nat->Addr) (mg:Str->Option Value) (cons:List (Str×Val)) (tb:Tb):Prop where
 blt:∀x∈fk,mg x=none
 cons:∀p∈cons,∃v u,mg p.1=some u/\RelV v u/\∀K ρ H,VR K ρ H p.2 v
 cls:∀c,c<tb.nc->zp K (cl c)/\∀x∈tb.EJ,jf K (cl c) x
 EK:∀p∈tb.EK,Meth K (cl p.1) p.2.1 (cl (1000+p.2.2))
 DJ:∀p∈tb.DJ,∃C,mg p.1=some (.ref C)/\Jv K C p.2.1 (cl (1000+p.2.2))
 isc:∀p∈tb.isc,∃C,mg p.1=some (.ref C)/\∀c b,p.2[c]?=some b->Uj K (cl c)/\kitOne K (.ref (cl c)) (.ref C)=some b
section
variable {P:Program} {w:World} {K:PySem.W.Frag} {cl:Nat->Addr} {mg:Str->Option Value} {base:Heap} {k:Nat} {fs:List Row} {cons:List (Str×Val)} {tb:Tb}
theorem yk{x qual:Str}{st:Stmt}{f:Addr}{fd:FuncData}{N ps:List Str}{body:fM}(T:Base K cl mg cons tb)(A:cZ P w ⟨K,cl⟩ mg base k fs)(F:En K x qual st f fd)(hS:aX N ps (af st)=true)
  (hc:bq ⟨N,af st,fs.map (λr=>(r.1,r.2.1)),cons,tb⟩ body (aj st)=true):eB P w K mg base vM (k+2) f fd ps (sO ⟨K,cl⟩ ps.length (gY (look fs) N.length body)):=by
 have S:=BW hS;refine F.ok S (λvs H Q E h=>?_) (λcdv A' outer s H vs Q E hr h=>?_)
 ·obtain⟨ρ,h,ws,h1,_,h2,_⟩:=h;rw[<-h2.length,h1]
 ·obtain⟨ρ,h,ws,hl,r,hv,p⟩:=h
  have lv:=hv.length
  let X:Cx:=(we vM P w K mg base N qual (af st) f cdv A' outer s H E).Mh
  have c:Kf (look fs) ⟨N,af st,fs.map (λr=>(r.1,r.2.1)),cons,tb⟩ k X cl (λ_ _ _=>False):=by
   refine { N:=rfl,sc:=rfl,calm:=rfl,room:=hr,ku:=λ_ _ _ z=>z,fns:=λj x n e=>?_,cls:=T.cls,EK:=T.EK,DJ:=T.DJ,isc:=T.isc,cons:=T.cons,blt:=T.blt,fn:=λ_=>rfl,nd:=S.nd,kind:=S.kind,xe:=PassesOwn.never };have e':(fs.map (λr=>(r.1,r.2.1)))[j]?=some (x,n):=e;rw[getElem?_map] at e';cases er:fs[j]? with
   | none=>rw[er] at e';cases e'
   | some r =>rw[er] at e';cases e';have:=A j r er;unfold look;rw[er];exact this
  refine⟨_,BV body _ k X cl _ (aj st) c hc,ρ,ws.map some++replicate (N.length-ws.length) none,h,λi v e=>?_,?_,r,aY p λfl h1 ρ1 H1 g1 r1 p1=>?_⟩
  ·by_cases hi:i<ws.length
   ·rw[getElem?_append_left (by simpa using hi)] at e
    rw[getElem?_map] at e;cases ei:ws[i]? with
    | none=>rw[ei] at e;cases e
    | some w' =>rw[ei] at e;cases e;obtain⟨y,q1,q2⟩:=hv.get ei;refine⟨y,?_,q2⟩;show (vs.map some++_)[i]?=_;rw[getElem?_append_left (by rw[length_map,<-lv];exact hi),getElem?_map,q1];rfl
   ·rw[getElem?_append_right (by simp;omega)] at e;have:=mem_of_getElem? e;rw[List.mem_replicate] at this;exact absurd this.2 (by simp)
  ·show _=(vs.map some++_).length;simp[lv]
  ·cases fl with
   | nx env'=>exact λσ' _ _=>ai r1 p1 _ VR.non
   | rt v=>exact(ai r1 p1:WV K Q v h1 ρ1 H1)
   | bk env'=>exact p1.elim
   | ct env'=>exact p1.elim
theorem _root_.Hv.LJ.mono{j:Nat}{n:Nat}(g:LJ P w B mg base k j x n φ):LJ P w B mg base (k+2) j x n φ:=by
 have le:k<=k+2:=Nat.le_add_right _ _
 rcases g with ⟨h,⟨f,fd,ps,q1,q2,q3,q4,q5⟩|⟨c,f,fd,ps,φ0,q0,q1,q2,q3,q4,q5⟩⟩|⟨h,fd,ps,q1,q4,q5⟩
 ·exact .inl ⟨h,.inl ⟨f,fd,ps,q1,q2,q3,q4,q5.mono le⟩⟩
 ·exact .inl ⟨h,.inr ⟨c,f,fd,ps,φ0,q0,q1,q2,q3,q4,q5.mono le⟩⟩
 ·exact .inr ⟨h,fd,ps,q1,q4,q5.mono le⟩
theorem all_nil:cZ P w ⟨K,cl⟩ mg base k []:=λj r e=>by simp at e
theorem bP{x qual:Str}{st:Stmt}{f:Addr}{fd:FuncData}{N ps:List Str}{body:fM}(T:Base K cl mg cons tb)(A:cZ P w ⟨K,cl⟩ mg base k fs)(F:En K x qual st f fd)(hm:mg x=some (.ref f))(hb:Binds K fd ps [])(BX:ps.length<1000)(hS:aX N ps (af st)=true)
  (hc:bq ⟨N,af st,fs.map (λr=>(r.1,r.2.1)),cons,tb⟩ body (aj st)=true):cZ P w ⟨K,cl⟩ mg base (k+2) (fs++[(x,ps.length,gY (look fs) N.length body)]):=λj r e=>by
 by_cases hj:j<fs.length
 ·rw[getElem?_append_left hj] at e;exact(A j r e).mono
 ·rw[getElem?_append_right (by omega)] at e
  have hj0:j-fs.length=0:=by have:=(List.getElem?_eq_some_iff.mp e).1;simp at this;omega
  rw[hj0] at e;simp at e;subst e;exact .inl ⟨BX,.inl ⟨f,fd,ps,rfl,hm,F.kp,hb,yk T A F hS hc⟩⟩
theorem yl{r0:Row}(A:cZ P w ⟨K,cl⟩ mg base k fs)(g:LJ P w ⟨K,cl⟩ mg base (k+2) fs.length r0.1 r0.2.1 r0.2.2):cZ P w ⟨K,cl⟩ mg base (k+2) (fs++[r0]):=λj r e=>by
 by_cases hj:j<fs.length
 ·rw[getElem?_append_left hj] at e;exact(A j r e).mono
 ·rw[getElem?_append_right (by omega)] at e
  have hj0:j-fs.length=0:=by have:=(List.getElem?_eq_some_iff.mp e).1;simp at this;omega
  rw[hj0] at e;simp at e;subst e;rw[show j=fs.length by omega];exact g
theorem jq{x qual y:Str}{st:Stmt}{f:Addr}{fd:FuncData}{N ps:List Str}{body:fM}(T:Base K cl mg cons tb)(A:cZ P w ⟨K,cl⟩ mg base k fs)(F:En K x qual st f fd)(hf:cl (1000+fs.length)=f)(hb:Binds K fd ps [])(hS:aX N ps (af st)=true)
  (hc:bq ⟨N,af st,fs.map (λr=>(r.1,r.2.1)),cons,tb⟩ body (aj st)=true):cZ P w ⟨K,cl⟩ mg base (k+2) (fs++[(y,1000+ps.length,gY (look fs) N.length body)]):=by
 refine yl (r0:=(y,1000+ps.length,gY (look fs) N.length body)) A (.inr ⟨Nat.le_add_right _ _,fd,ps,?_,hb,?_⟩)
 ·show ps.length=1000+ps.length-1000;omega
 ·show eB P w K mg base vM (k+2) (cl (1000+fs.length)) fd ps (sO ⟨K,cl⟩ (1000+ps.length-1000) _);rw[hf,show 1000+ps.length-1000=ps.length by omega];exact yk T A F hS hc
theorem all_class{x i qual:Str}{st:Stmt}{f:Addr}{fd:FuncData}{N ps:List Str}{n c:Nat}{body:fM}(T:Base K cl mg cons tb)(A:cZ P w ⟨K,cl⟩ mg base k fs)(F:En K i qual st f fd)(hm:mg x=some (.ref (cl c)))(M:Mk K (cl c) f)(hb:Binds K fd ps [])(hn:ps.length=n+1)(BX:n<1000)(hS:aX N ps (af st)=true)
  (hc:bq ⟨N,af st,fs.map (λr=>(r.1,r.2.1)),cons,tb⟩ body (aj st)=true):cZ P w ⟨K,cl⟩ mg base (k+2) (fs++[(x,n,DH c (gY (look fs) N.length body))]):=by
 refine yl (r0:=(x,n,DH c (gY (look fs) N.length body))) A (.inl ⟨BX,.inr ⟨c,f,fd,ps,_,rfl,hn,hm,M,hb,?_⟩⟩);rw[<-hn];exact yk T A F hS hc
end
theorem ym{α:Type}:∀{us:List α},us.length=1->∃a,us=[a]
 | [a],_=>⟨a,rfl⟩
theorem fH{α:Type}:∀{us:List α},us.length=2->∃a b,us=[a,b]
 | [a,b],_=>⟨a,b,rfl⟩
theorem Nq{α:Type}:∀{us:List α},us.length=3->∃a b c,us=[a,b,c]
 | [a,b,c],_=>⟨a,b,c,rfl⟩
theorem Kq{K:PySem.W.Frag}{cl:Nat->Addr}{φ:List Val->M Val}{H:Hp}{a:Addr}{ns:List Int}(hO:Bb H)(hS:gz K H a (ns.map V.int))(h:∃h',φ [.rl (ns.map .int)] []=.ok (.bl true) h') :
  sO ⟨K,cl⟩ 1 φ [.ref a] H (λv _=>v=.bl true) λ_ _ _=>False:=by
 obtain⟨h',e⟩:=h;have sr:GQ K H a (ns.map V.int):=by
  rcases hS with (z|z)|z
  ·rcases hO a with y|⟨o,xs,y⟩
   ·rw[y] at z;cases z
   ·rw[y] at z;cases z
  ·exact .inl z
  ·exact .inr (.inr z)
 refine⟨[],[],[.rl (ns.map .int)],rfl,⟨rfl,nodup_nil,λi o a e=>by simp at e⟩,av.cons (by rw[VR];exact⟨a,_,rfl,sr,av.ints.mpr rfl⟩) av.nil,?_⟩;rw[e];intro ρ' H' g r x q;rw[VR] at q;exact q
noncomputable def Po(K:PySem.W.Frag):Sp:=λvs H Q _=>∃(a:Addr) (ns:List Int),vs=[.ref a]/\Bb H/\gz K H a (ns.map V.int)/\ns.length<=63/\∀H',Q (.bl true) H'
theorem Kr{K:PySem.W.Frag}{cl:Nat->Addr}{φ:List Val->M Val}(hφ:∀ns:List Int,ns.length<=63->∃h',φ [.rl (ns.map .int)] []=.ok (.bl true) h')(vs:List V)(H:Hp)(Q:VK)(E:XK)(h:Po K vs H Q E):sO ⟨K,cl⟩ 1 φ vs H Q E:=by
 obtain⟨a,ns,rfl,hO,hS,hl,hq⟩:=h;obtain⟨ρ,h,vs,q1,q2,q3,q4⟩:=Kq (cl:=cl) hO hS (hφ ns hl);refine⟨ρ,h,vs,q1,q2,q3,?_⟩;revert q4;cases φ vs h with
 | ok v h'=>exact λq4 ρ' H' g r x hx=>by rw[show x=_ from q4 ρ' H' g r x hx];exact hq H'
 | exc c ws h'=>exact λq4=>q4
 | no=>exact λq4=>q4
theorem walk{l:PySem.W.OpenLaw}{q:Program}{loose:List Str}{XP:(Str->Option Value)->Heap->Prop}{YP:World->Heap->Prop}{d:DefRec}{K:Params->PySem.W.Frag}{k:Nat}{x:Str}(hn:l.most=some 63)(hdf:d.params.defaults=[])(hr:cW k callerA)
  (hY:∀(w:World) (h:Heap),YP w h->(K w.params).In h)
  (F:∀(w:World) (mg:Str->Option Value) (fa:Addr) (h:Heap),(K w.params).In h->h.Ns mainGlobals mg->mg d.name=some (.ref fa) ->
   ∃fd:FuncData,(∀(s:Shared) (u:Value),BindsTo s fd ⟨[u],[]⟩ [(x,u)])/\∀base:Heap,(K w.params).In base->base.Ns mainGlobals mg->eB l.prog w (K w.params) mg base vM k fa fd [x] (Po (K w.params))) :
  PySem.W.WalkO q loose XP YP l.row.toRowW d [] (λf vs=>PySem.call f vs) :=
 L2.Em (n:=63) (k:=k) (x:=x) (CX:=λ_=>vM) (sp:=λw=>Po (K w.params)) hn (by decide) hdf hr hY F (λ_ _ a ns hl hO hS=>⟨a,ns,rfl,hO,hS,hl,λ_=>rfl⟩) λ_ _ _ _ _ z=>z
end Hv
end
section
namespace Hv
open PySem L2
inductive Pr (α:Type)
 | ok (a:α)|exc (c:Nat) (ds:List Val)|no
noncomputable def pb{α β:Type}(m:Pr α)(f:α -> Pr β):Pr β:=match m with
 | .ok a=>f a
 | .exc c ds=>.exc c ds
 | .no=>.no
noncomputable def pl{α:Type}(o:Option α):Pr α:=match o with
 | some a=>.ok a
 | none=>.no
noncomputable def pg{α:Type}(c:Bool)(m:Pr α):Pr α:=if c=true then m else .no
inductive Mk
 | sh|nw|ow
noncomputable def rE:Mk->Bool
 | .ow=>false
 | _=>true
noncomputable def LN:Mk->Bool
 | .nw=>true
 | _=>false
noncomputable abbrev bz:=List (Option (Mk×Val))
noncomputable abbrev FV:=Bool×Val
mutual
noncomputable def iE:Val->Bool
 | .rl _=>false
 | .dc _ _=>false
 | .ob _ _ _=>false
 | .ref _=>false
 | .tup vs=>bI vs
 | .non=>true
 | .bl _=>true
 | .int _=>true
 | .str _=>true
noncomputable def bI:List Val->Bool
 | []=>true
 | v::vs=>iE v&&bI vs
end
noncomputable def fu(f:Bool)(d:Val):Mk:=if (f && !iE d)=true then .nw else .sh
noncomputable def putD(ks:List Key)(ds:List Val)(k:Key)(d:Val):Val:=.dc ((fY (ks.zip ds) k d).map (·.1)) ((fY (ks.zip ds) k d).map (·.2))
noncomputable def j3:GN->Val->Val->Pr FV
 | .add,.int a,.int b=>.ok (true,.int (a+b))
 | .add,.str a,.str b=>pg (decide (a.length+b.length<=sizeLine)) (.ok (true,.str (a++b)))
 | .add,.tup a,.tup b=>pg (!a.isEmpty&&decide (a.length+b.length<=sizeLine)) (.ok (bI (a++b),.tup (a++b)))
 | .add,.rl a,.rl b=>pg (decide (a.length+b.length<=sizeLine)) (.ok (bI (a++b),.rl (a++b)))
 | .sub,.int a,.int b=>.ok (true,.int (a-b))
 | .mul,.int a,.int b=>pg (kh a b) (.ok (true,.int (a*b)))
 | .fdiv,.int a,.int b=>pg (jh b) (.ok (true,.int (a/b)))
 | .mod,.int a,.int b=>pg (decide (0<b)) (.ok (true,.int (a%b)))
 | .pow,.int a,.int b=>pg (decide (0<=b/\b<=1000000/\a.natAbs<2 ^ 64)) (.ok (true,.int (a ^ b.toNat)))
 | _,_,_=>.no
noncomputable def z9(v:Val)(lo hi:Option Int):Pr FV:=match v with
 | .tup vs=>pg (!(decide (HT.dQ vs.length 0 lo=0)&&decide (HT.dQ vs.length vs.length hi=vs.length))) (.ok (bI (cY vs lo hi),.tup (cY vs lo hi)))
 | .rl vs=>.ok (bI (cY vs lo hi),.rl (cY vs lo hi))
 | _=>.no
noncomputable def f6:Bl->List Val->Pr FV
 | .len,[v]=>pb (pl (k7 [] v)) λn=>.ok (true,.int n)
 | .min,[.int a,.int b]=>.ok (true,.int (if b<a then b else a))
 | .max,[.int a,.int b]=>.ok (true,.int (if b>a then b else a))
 | .min,[v]=>pb (pl (cV [] v)) λxs=>pb (pl ((aS xs).bind sJ)) λm=>.ok (true,m)
 | .max,[v]=>pb (pl (cV [] v)) λxs=>pb (pl ((aS xs).bind sL)) λm=>.ok (true,m)
 | .sorted,[.rl xs]=>pb (pl (eu xs)) λys=>.ok (true,.rl ys)
 | .list,[v]=>pb (pl (cV [] v)) λxs=>.ok (bI xs,.rl xs)
 | .int,[.bl b]=>.ok (true,.int (if b=true then 1 else 0))
 | .int,[.int i]=>.ok (true,.int i)
 | .isin T,[v]=>pb (pl (uA [] v)) λt=>pb (pl (uB T t)) λb=>.ok (true,.bl b)
 | _,_=>.no
noncomputable def ju:Ik->List Val->Option (List Val)
 | .seq,[.tup vs]=>some vs
 | .seq,[.rl vs]=>some vs
 | .range,[.int n]=>if inR n then some (bX 0 n.toNat) else none
 | .range,[.int a,.int b]=>if inR a&&inR b then some (bX a (b-a).toNat) else none
 | .enum,[.rl vs]=>some (cI 0 vs)
 | _,_=>none
noncomputable def BY(k:Ik)(ds:List Val):Option (List Val):=match k with
 | .zip=>none
 | k=>ju k ds
noncomputable def cz:List Nat->List Val->bz->Option bz
 | [],[],env=>some env
 | i::is,d::ds,env=>cz is ds (env.set i (some (.sh,d)))
 | _,_,_=>none
noncomputable def f7:xW->Val->bz->Option bz
 | .one i,d,env=>some (env.set i (some (.sh,d)))
 | .tup is,.tup ds,env=>cz is ds env
 | _,_,_=>none
noncomputable def iT(js:List (Option Nat))(env:bz):bz:=js.map λo=>match o with
 | none=>none
 | some j=>match env[j]? with
  | some (some d)=>some d
  | _=>none
noncomputable def iU(f:Val->Pr (Option FV)):List Val->Pr (Bool×List Val)
 | []=>.ok (true,[])
 | x::r=>pb (f x) λo=>pb (iU f r) λp=>.ok (match o with|some e=>(e.1&&p.1,e.2::p.2)|none=>p)
noncomputable def nh:Val->Pr Bool
 | .bl b=>.ok b
 | _=>.no
noncomputable def f9(env:bz):IE->Option FV
 | .var i=>match env[i]? with
  | some (some (_,d))=>some (iE d,d)
  | _=>none
 | _=>none
noncomputable def isVar:IE->Bool
 | .var _=>true
 | _=>false
mutual
noncomputable def bu(Ψ:Nat->List Val->Pr FV):IE->bz->Pr FV
 | .var i,env=>match env[i]? with
  | some (some (m,d))=>pg (rE m) (.ok (iE d,d))
  | _=>.no
 | .cst d,_=>.ok (iE d,d)
 | .con _ d,_=>.ok (iE d,d)
 | .no,_=>.no
 | .bin o a b,env=>pb (if isVar a=true then pl (f9 env a) else bu Ψ a env) λx=>pb (if isVar b=true then pl (f9 env b) else bu Ψ b env) λy=>j3 o x.2 y.2
 | .neg a,env=>pb (bu Ψ a env) λx=>match x.2 with
  | .int i=>.ok (true,.int (-i))
  | _=>.no
 | .cmp o a b,env=>pb (if isVar a=true then pl (f9 env a) else bu Ψ a env) λx=>pb (if isVar b=true then pl (f9 env b) else bu Ψ b env) λy=>pb (pl (cop [] o x.2 y.2)) λt=>.ok (true,.bl t)
 | .chn _ _ _ _ _,_=>.no
 | .and a b,env=>pb (bu Ψ a env) λx=>pb (nh x.2) λt=>if t=true then pb (bu Ψ b env) λy=>pb (nh y.2) λu=>.ok (true,.bl u) else .ok (true,.bl false)
 | .or a b,env=>pb (bu Ψ a env) λx=>pb (nh x.2) λt=>if t=true then .ok (true,.bl true) else pb (bu Ψ b env) λy=>pb (nh y.2) λu=>.ok (true,.bl u)
 | .not a,env=>pb (bu Ψ a env) λx=>pb (nh x.2) λt=>.ok (true,.bl (!t))
 | .ite _ _ _,_=>.no
 | .tup es,env=>pb (qz Ψ es env) λp=>pg (decide (p.2.length<=sizeLine)) (.ok (p.1,.tup p.2))
 | .lst es,env=>pb (qz Ψ es env) λp=>pg (decide (p.2.length<=sizeLine)) (.ok (p.1,.rl p.2))
 | .idx a b,env=>pb (if isVar a=true then pl (f9 env a) else bu Ψ a env) λx=>pb (bu Ψ b env) λy=>pb (pl (ja [] x.2 y.2)) λz=>.ok (iE z,z)
 | .slc a lo hi,env=>pb (if isVar a=true then pl (f9 env a) else bu Ψ a env) λx=>pb (if cG lo=true then .ok none else pb (bu Ψ lo env) λv=>pb (pl (gX v.2)) λi=>.ok (some i)) λl =>
   pb (if cG hi=true then .ok none else pb (bu Ψ hi env) λv=>pb (pl (gX v.2)) λi=>.ok (some i)) λu=>z9 x.2 l u
 | .call j es,env=>pb (qz Ψ es env) λp=>Ψ j p.2
 | .blt b es,env=>pb (gb Ψ es env) λds=>f6 b ds
 | .met m a es,env=>match m with
  | .join=>.no
  | _=>.no
 | .comp _ js pat k it c elt,env=>pb (gb Ψ it env) λits=>pb (pl (BY k its)) λxs=>pg (decide (xs.length<=100000))
   (pb (iU (λd=>pb (pl (f7 pat d (iT js env))) λenv'=>pb (if cG c=true then .ok true else pb (bu Ψ c env') λv=>pl (cX [] v.2)) λt =>
    if t=true then pb (bu Ψ elt env') λe=>.ok (some e) else .ok none) xs) λp=>.ok (p.1,.rl p.2))
 | .dct0,_=>.ok (true,.dc [] [])
 | .sset a,env=>pb (if isVar a=true then pl (f9 env a) else bu Ψ a env) λx=>match x.2 with
  | .rl xs=>pb (pl (aS xs)) λns=>pg (decide (ns.length<64)) (.ok (true,.rl ((PySem.W.sortI (L2.dM [] ns)).map .int)))
  | _=>.no
 | .dget d k x,env=>pb (if isVar d=true then pl (f9 env d) else bu Ψ d env) λo=>pb (pl (BB [] o.2)) λ_=>pb (bu Ψ k env) λi=>pb (pl (keyOf i.2)) λkk=>pb (bu Ψ x env) λz=>pb (pl (zR [] o.2 kk)) λr=>.ok (iE (r.getD z.2),r.getD z.2)
 | .dct1 k v,env=>pb (bu Ψ k env) λx=>pb (pl (keyOf x.2)) λkk=>pb (bu Ψ v env) λy=>.ok (y.1,.dc [kk] [y.2])
 | .lkeys d,env=>pb (if isVar d=true then pl (f9 env d) else bu Ψ d env) λo=>pb (pl (uz [] o.2)) λks=>.ok (true,.rl (ks.map ED))
 | .sdef ..,_=>.no
 | .svals _,_=>.no
 | .skeys d,env=>pb (if isVar d=true then pl (f9 env d) else bu Ψ d env) λo=>pb (pl (sN [] o.2)) λns=>.ok (true,.rl (ns.map .int))
 | .fld n a x,env=>pb (if isVar a=true then pl (f9 env a) else bu Ψ a env) λo=>pb (pl (gJ n [] o.2 x)) λz=>.ok (iE z,z)
 | .mth a m js es,env=>pb (bu Ψ a env) λo=>pb (pl (jY [] o.2 m js)) λj=>pb (qz Ψ es env) λp=>Ψ j (o.2::p.2)
 | .rev a s,env=>pb (if isVar a=true then pl (f9 env a) else bu Ψ a env) λx=>pb (if cG s=true then .ok none else pb (bu Ψ s env) λv=>pb (pl (gX v.2)) λi=>.ok (some i)) λk =>
   pg (decide (k=some (-1))) (match x.2 with
    | .rl vs=>.ok (bI vs.reverse,.rl vs.reverse)
    | _=>.no)
 | .dflt _ _ _ _ _ _,_=>.no
 | .isc a _ bs,env=>pb (if isVar a=true then pl (f9 env a) else bu Ψ a env) λo=>pb (pl (wN [] o.2 bs)) λb=>.ok (true,.bl b)
noncomputable def qz(Ψ:Nat->List Val->Pr FV):m8->bz->Pr (Bool×List Val)
 | .nil,_=>.ok (true,[])
 | .cons e es,env=>pb (bu Ψ e env) λd=>pb (qz Ψ es env) λp=>.ok (d.1&&p.1,d.2::p.2)
noncomputable def gb(Ψ:Nat->List Val->Pr FV):m8->bz->Pr (List Val)
 | .nil,_=>.ok []
 | .cons e es,env=>pb (if isVar e=true then pl (f9 env e) else bu Ψ e env) λd=>pb (gb Ψ es env) λp=>.ok (d.2::p)
end
noncomputable def Nr(Ψ:Nat->List Val->Pr FV)(e:IE)(env:bz):Pr FV:=if isVar e=true then pl (f9 env e) else bu Ψ e env
inductive Fj
 | nx (env:bz)|rt (p:FV)|bk (env:bz)|ct (env:bz)
mutual
noncomputable def pH:IS->List Nat
 | .expr (.met .append (.var i) _)=>[i]
 | .expr (.met .extend (.var i) _)=>[i]
 | .gu (.var i) _ _=>[i]
 | .iff _ a b=>fJ a++fJ b
 | .for _ _ _ b=>fJ b
 | .whl _ _ b=>fJ b
 | _=>[]
noncomputable def fJ:fM->List Nat
 | .nil=>[]
 | .cons s r=>pH s++fJ r
end
noncomputable def stored:xW->List Nat
 | .one i=>[i]
 | .tup is=>is
mutual
noncomputable def mH:IS->List Nat
 | .asg p _=>stored p
 | .aug i _ _=>[i]
 | .iff _ a b=>jv a++jv b
 | .for p _ _ b=>stored p++jv b
 | .whl _ _ b=>jv b
 | _=>[]
noncomputable def jv:fM->List Nat
 | .nil=>[]
 | .cons s r=>mH s++jv r
end
noncomputable def Pp:IE->Bool
 | .lst _=>true
 | .comp ..=>true
 | .slc ..=>true
 | .blt .list _=>true
 | .blt .sorted _=>true
 | .dct0=>true
 | .dct1 ..=>true
 | _=>false
noncomputable def mJ(body:Val->bz->Pr Fj):List Val->bz->Pr Fj
 | [],env=>.ok (.nx env)
 | x::r,env=>pb (body x env) λf=>match f with
  | .nx env'=>mJ body r env'
  | .ct env'=>mJ body r env'
  | .bk env'=>.ok (.nx env')
  | .rt p=>.ok (.rt p)
noncomputable def Uu:Mk->Mk
 | .ow=>.sh
 | m=>m
noncomputable def Ra:Option (Mk×Val)->Option (Mk×Val)
 | none=>none
 | some (m,d)=>some (Uu m,d)
noncomputable def nL(env:bz):bz:=env.map Ra
noncomputable def Nt(Ψ:Nat->List Val->Pr FV)(e:IE)(env:bz):Pr FV:=match e with
 | .var i=>match env[i]? with
  | some (some (m,d))=>if rE m=true then .ok (iE d||LN m,d) else match d with
   | .rl ds=>.ok (bI ds,.rl ds)
   | .dc ks ds=>.ok (bI ds,.dc ks ds)
   | _=>.no
  | _=>.no
 | .call j es=>bu Ψ (.call j es) (nL env)
 | .tup es=>bu Ψ (.tup es) (nL env)
 | e=>bu Ψ e env
noncomputable def uU(p:xW)(it:m8)(body:fM):Bool:=match it with
 | .cons (.var i) .nil=>!(fJ body).contains i && !(jv body).contains i && !(stored p).contains i
 | _=>true
mutual
noncomputable def bA(Ψ:Nat->List Val->Pr FV)(ms:List Nat):IS->bz->Pr Fj
 | .expr e,env=>match e with
  | .met .append (.var i) (.cons a .nil)=>match env[i]? with
   | some (some (.ow,.rl ds))=>pb (bu Ψ a env) λx=>pg (decide (ds.length<sizeLine)) (.ok (.nx (env.set i (some (.ow,.rl (ds++[x.2]))))))
   | _=>.no
  | .met .extend (.var i) (.cons a .nil)=>match env[i]? with
   | some (some (.ow,.rl ds))=>pb (bu Ψ a env) λx=>match x.2 with
    | .tup vs=>pg (decide (ds.length+vs.length<=sizeLine)) (.ok (.nx (env.set i (some (.ow,.rl (ds++vs))))))
    | _=>.no
   | _=>.no
  | e=>pb (bu Ψ e env) λ_=>.ok (.nx env)
 | .asg p e,env=>match p with
  | .one i=>if ms.contains i=true then pg (Pp e) (pb (bu Ψ e env) λx=>match x.2 with
    | .rl ds=>.ok (.nx (env.set i (some (.ow,.rl ds))))
    | .dc ks ds=>.ok (.nx (env.set i (some (.ow,.dc ks ds))))
    | _=>.no) else pb (bu Ψ e env) λx=>.ok (.nx (env.set i (some (fu x.1 x.2,x.2))))
  | .tup is=>pg (is.all λi=>!ms.contains i) (pb (bu Ψ e env) λx=>pb (pl (f7 (.tup is) x.2 env)) λenv'=>.ok (.nx env'))
 | .aug _ _ _,_=>.no
 | .gu o i v,env=>match o with
  | .var j=>pb (bu Ψ v env) λx=>match env[j]? with
   | some (some (.ow,.rl ds))=>pb (bu Ψ i env) λz=>pb (pl (gX z.2)) λk=>pb (pl (zw ds.length k)) λn=>.ok (.nx (env.set j (some (.ow,.rl (ds.set n x.2)))))
   | some (some (.ow,.dc ks ds))=>pb (bu Ψ i env) λz=>pb (pl (keyOf z.2)) λk=>pg (decide (ks.length<sizeLine)) (.ok (.nx (env.set j (some (.ow,putD ks ds k x.2)))))
   | _=>.no
  | _=>.no
 | .iff c a b,env=>pb (Nr Ψ c env) λx=>pb (pl (cX [] x.2)) λt=>if t=true then cL Ψ ms a env else cL Ψ ms b env
 | .for p k it body,env=>pg (uU p it body&&(stored p).all λi=>!ms.contains i) (pb (gb Ψ it env) λits=>pb (pl (ju k its)) λxs =>
   mJ (λx env=>pb (pl (f7 p x env)) λenv'=>cL Ψ ms body env') xs env)
 | .whl _ _ _,_=>.no
 | .ret e,env=>pb (Nt Ψ e env) λp=>.ok (.rt p)
 | .EB,_=>.ok (.rt (true,.non))
 | .brk,env=>.ok (.bk env)
 | .cnt,env=>.ok (.ct env)
 | .pass,env=>.ok (.nx env)
 | .never,_=>.no
 | .setF _ _ _ _,_=>.no
noncomputable def cL(Ψ:Nat->List Val->Pr FV)(ms:List Nat):fM->bz->Pr Fj
 | .nil,env=>.ok (.nx env)
 | .cons s r,env=>pb (bA Ψ ms s env) λf=>match f with
  | .nx env'=>cL Ψ ms r env'
  | f=>.ok f
end
noncomputable def gc(Ψ:Nat->List Val->Pr FV)(n:Nat)(body:fM)(ds:List Val):Pr FV :=
 pb (cL Ψ (fJ body) body (ds.map (λd=>some (.sh,d))++replicate (n-ds.length) none)) λf=>match f with
  | .nx _=>.ok (true,.non)
  | .rt p=>.ok p
  | _=>.no
end Hv
end
section
namespace Hv
open PySem L2
noncomputable abbrev AP:=Option Nat->Prop
noncomputable def Fr(n:Nat):AP:=λo=>match o with
 | none=>False
 | some k=>n<=k
theorem Fr.le{n m:Nat}(h:n<=m):∀o,Fr m o->Fr n o
 | none,e=>e
 | some k,e=>le_trans h e
mutual
noncomputable def Dn(A:AP)(h:Hs):Val->Val->Prop
 | .non,v=>v=.non
 | .bl b,v=>v=.bl b
 | .int i,v=>v=.int i
 | .str x,v=>v=.str x
 | .tup ds,v=>∃vs,v=.tup vs/\ak A h ds vs
 | .rl ds,v=>(∃vs,v=.rl vs/\A none/\ak A h ds vs)\/∃i vs,v=.ref i/\A (some i)/\h[i]?=some (.lst vs)/\ak A h ds vs
 | .dc ks ds,v=>∃i kvs,v=.ref i/\A (some i)/\h[i]?=some (.dct kvs)/\kvs.map (·.1)=ks/\ak A h ds (kvs.map (·.2))
 | .ob c xs ds,v=>∃i fs,v=.ref i/\A (some i)/\h[i]?=some (.ins c fs)/\fs.map (·.1)=xs/\ak A h ds (fs.map (·.2))
 | .ref _,_=>False
noncomputable def ak(A:AP)(h:Hs):List Val->List Val->Prop
 | [],vs=>vs=[]
 | d::ds,vs=>∃v r,vs=v::r/\Dn A h d v/\ak A h ds r
end
section
variable {A A':AP} {h h' h1:Hs}
mutual
theorem Dn.mono(hA:∀i,A i->A' i)(hh:∀(i:Nat) (o:Ob),A (some i)->h[i]?=some o->h'[i]?=some o):∀(d v:Val),Dn A h d v->Dn A' h' d v
 | .non,v,e=>by rw[Dn] at e |-;exact e
 | .bl _,v,e=>by rw[Dn] at e |-;exact e
 | .int _,v,e=>by rw[Dn] at e |-;exact e
 | .str _,v,e=>by rw[Dn] at e |-;exact e
 | .tup ds,v,e=>by
  rw[Dn] at e |-;obtain⟨vs,rfl,q⟩:=e;exact⟨vs,rfl,ak.mono hA hh ds vs q⟩
 | .rl ds,v,e=>by
  rw[Dn] at e |-
  rcases e with ⟨vs,rfl,n,q⟩|⟨i,vs,rfl,a,g,q⟩
  ·exact .inl ⟨vs,rfl,hA _ n,ak.mono hA hh ds vs q⟩
  ·exact .inr ⟨i,vs,rfl,hA _ a,hh i _ a g,ak.mono hA hh ds vs q⟩
 | .dc ks ds,v,e=>by
  rw[Dn] at e |-;obtain⟨i,kvs,rfl,a,g,k,q⟩:=e;exact⟨i,kvs,rfl,hA _ a,hh i _ a g,k,ak.mono hA hh ds _ q⟩
 | .ob c xs ds,v,e=>by
  rw[Dn] at e |-;obtain⟨i,kvs,rfl,a,g,k,q⟩:=e;exact⟨i,kvs,rfl,hA _ a,hh i _ a g,k,ak.mono hA hh ds _ q⟩
 | .ref _,v,e=>by rw[Dn] at e;exact e.elim
theorem ak.mono(hA:∀i,A i->A' i)(hh:∀(i:Nat) (o:Ob),A (some i)->h[i]?=some o->h'[i]?=some o):∀(ds vs:List Val),ak A h ds vs->ak A' h' ds vs
 | [],vs,e=>by rw[ak] at e |-;exact e
 | d::ds,vs,e=>by
  rw[ak] at e |-;obtain⟨v,r,rfl,q1,q2⟩:=e;exact⟨v,r,rfl,Dn.mono hA hh d v q1,ak.mono hA hh ds r q2⟩
end
theorem ck{i:Nat}(p:h<+:h')(e:h[i]?=some o):h'[i]?=some o:=by
 obtain⟨t,rfl⟩:=p;have hi:i<h.length:=(List.getElem?_eq_some_iff.mp e).1;rw[getElem?_append_left hi];exact e
theorem Dn.ext(p:h<+:h')(e:Dn A h d v):Dn A h' d v:=Dn.mono (λ_ a=>a) (λ_ _ _ q=>ck p q) d v e
theorem ak.ext(p:h<+:h')(e:ak A h d v):ak A h' d v:=ak.mono (λ_ a=>a) (λ_ _ _ q=>ck p q) d v e
theorem Dn.gC(hA:∀i,A i->A' i)(e:Dn A h d v):Dn A' h d v:=Dn.mono hA (λ_ _ _ q=>q) d v e
theorem ak.gC(hA:∀i,A i->A' i)(e:ak A h d v):ak A' h d v:=ak.mono hA (λ_ _ _ q=>q) d v e
mutual
theorem gO:∀(d v:Val),iE d=true->(Dn A h d v↔v=d)
 | .non,v,_=>by rw[Dn]
 | .bl _,v,_=>by rw[Dn]
 | .int _,v,_=>by rw[Dn]
 | .str _,v,_=>by rw[Dn]
 | .tup ds,v,e=>by
  rw[iE] at e;rw[Dn];constructor
  ·rintro⟨vs,rfl,q⟩;rw[(aW ds vs e).mp q]
  ·rintro rfl;exact⟨ds,rfl,(aW ds ds e).mpr rfl⟩
 | .rl _,v,e=>by rw[iE] at e;cases e
 | .dc _ _,v,e=>by rw[iE] at e;cases e
 | .ob _ _ _,v,e=>by rw[iE] at e;cases e
 | .ref _,v,e=>by rw[iE] at e;cases e
theorem aW:∀(ds vs:List Val),bI ds=true->(ak A h ds vs↔vs=ds)
 | [],vs,_=>by rw[ak]
 | d::ds,vs,e=>by
  rw[bI,and_eq_true] at e;rw[ak];constructor
  ·rintro⟨v,r,rfl,q1,q2⟩;rw[(gO d v e.1).mp q1,(aW ds r e.2).mp q2]
  ·rintro rfl;exact⟨d,ds,rfl,(gO d d e.1).mpr rfl,(aW ds ds e.2).mpr rfl⟩
end
theorem ak.nil:ak A h [] []:=by rw[ak]
theorem ak.cons{d v:Val}{ds vs:List Val}(a:Dn A h d v)(b:ak A h ds vs):ak A h (d::ds) (v::vs):=by rw[ak];exact⟨v,vs,rfl,a,b⟩
theorem ak.length:∀{ds vs:List Val},ak A h ds vs->ds.length=vs.length
 | [],vs,e=>by rw[ak] at e;subst e;rfl
 | d::ds,vs,e=>by rw[ak] at e;obtain⟨v,r,rfl,_,q⟩:=e;simp[ak.length q]
theorem ak.get:∀{ds vs:List Val} {i:Nat} {d:Val},ak A h ds vs->ds[i]?=some d->∃v,vs[i]?=some v/\Dn A h d v
 | [],vs,i,d,e,q=>by simp at q
 | c::ds,vs,0,d,e,q=>by
  rw[ak] at e;obtain⟨v,r,rfl,a,_⟩:=e;simp at q;subst q;exact⟨v,rfl,a⟩
 | c::ds,vs,i+1,d,e,q=>by
  rw[ak] at e;obtain⟨v,r,rfl,_,b⟩:=e;simp at q;obtain⟨w,q1,q2⟩:=ak.get b q;exact⟨w,by simpa using q1,q2⟩
theorem ak.append:∀{ds es vs ws:List Val},ak A h ds vs->ak A h es ws->ak A h (ds++es) (vs++ws)
 | [],es,vs,ws,e,q=>by rw[ak] at e;subst e;exact q
 | d::ds,es,vs,ws,e,q=>by
  rw[ak] at e;obtain⟨v,r,rfl,a,b⟩:=e;exact ak.cons a (ak.append b q)
theorem ak.take:∀{ds vs:List Val} (n:Nat),ak A h ds vs->ak A h (ds.take n) (vs.take n)
 | _,_,0,_=>by simp;exact ak.nil
 | [],vs,n+1,e=>by rw[ak] at e;subst e;simp;exact ak.nil
 | d::ds,vs,n+1,e=>by
  rw[ak] at e;obtain⟨v,r,rfl,a,b⟩:=e;exact ak.cons a (ak.take n b)
theorem ak.drop:∀{ds vs:List Val} (n:Nat),ak A h ds vs->ak A h (ds.drop n) (vs.drop n)
 | _,_,0,e=>by simpa using e
 | [],vs,n+1,e=>by rw[ak] at e;subst e;simp;exact ak.nil
 | d::ds,vs,n+1,e=>by
  rw[ak] at e;obtain⟨v,r,rfl,a,b⟩:=e;exact ak.drop n b
theorem ak.cut(lo hi:Option Int)(e:ak A h ds vs):ak A h (cY ds lo hi) (cY vs lo hi):=by
 unfold cY;rw[e.length];exact ak.take _ (ak.drop _ e)
theorem ak.app:∀{ds es vs ws:List Val},ak A h ds vs->ak A h es ws->ak A h (ds++es) (vs++ws)
 | [],_,vs,_,e,q=>by rw[ak] at e;subst e;exact q
 | d::ds,_,vs,_,e,q=>by
  rw[ak] at e;obtain⟨v,r,rfl,a,b⟩:=e;rw[cons_append,cons_append,ak];exact⟨v,_,rfl,a,ak.app b q⟩
theorem ak.rev:∀{ds vs:List Val},ak A h ds vs->ak A h ds.reverse vs.reverse
 | [],vs,e=>by rw[ak] at e;subst e;exact ak.nil
 | d::ds,vs,e=>by
  rw[ak] at e;obtain⟨v,r,rfl,a,b⟩:=e;rw[reverse_cons,reverse_cons];refine ak.app (ak.rev b) ?_;rw[ak];exact⟨v,[],rfl,a,by rw[ak]⟩
theorem ak.set:∀{ds vs:List Val} (n:Nat) {d v:Val},ak A h ds vs->Dn A h d v->ak A h (ds.set n d) (vs.set n v)
 | [],vs,n,d,v,e,q=>by rw[ak] at e;subst e;simp;exact ak.nil
 | c::ds,vs,0,d,v,e,q=>by
  rw[ak] at e;obtain⟨w,r,rfl,a,b⟩:=e;exact ak.cons q b
 | c::ds,vs,n+1,d,v,e,q=>by
  rw[ak] at e;obtain⟨w,r,rfl,a,b⟩:=e;exact ak.cons a (ak.set n b q)
theorem ak.jd{i:Int}(e:ak A h ds vs)(q:L2.jd ds i=some d):∃v,L2.jd vs i=some v/\Dn A h d v:=by
 unfold L2.jd at q |-;rw[e.length] at q;cases hi:L2.zw vs.length i with
 | none=>rw[hi] at q;cases q
 | some n=>rw[hi] at q;exact ak.get e q
theorem ak.one(e:ak A h [d] vs):∃v,vs=[v]/\Dn A h d v:=by
 rw[ak] at e;obtain⟨v,r,rfl,a,b⟩:=e;rw[ak] at b;subst b;exact⟨v,rfl,a⟩
noncomputable def OD(A:AP)(h:Hs)(d:Val)(a:Nat):Prop:=match d with
 | .rl ds=>∃vs,h[a]?=some (.lst vs)/\ak A h ds vs
 | .dc ks ds=>∃kvs,h[a]?=some (.dct kvs)/\kvs.map (·.1)=ks/\ak A h ds (kvs.map (·.2))
 | _=>False
theorem OD.mono{a:Nat}(e:OD A h d a)(ho:∀o,h[a]?=some o->h'[a]?=some o)(hq:∀ds vs,ak A h ds vs->ak A' h' ds vs):OD A' h' d a:=by
 cases d with
 | rl ds=>obtain⟨vs,g,q⟩:=e;exact⟨vs,ho _ g,hq _ _ q⟩
 | dc ks ds=>obtain⟨kvs,g,k,q⟩:=e;exact⟨kvs,ho _ g,k,hq _ _ q⟩
 | _=>exact False.elim e
theorem OD.ext{a:Nat}(p:h<+:h')(e:OD A h d a):OD A h' d a:=e.mono (λ_ g=>ck p g) λ_ _ q=>q.ext p
theorem OD.lt{a:Nat}(e:OD A h d a):a<h.length:=by
 cases d with
 | rl ds=>obtain⟨vs,g,q⟩:=e;exact(List.getElem?_eq_some_iff.mp g).1
 | dc ks ds=>obtain⟨kvs,g,k,q⟩:=e;exact(List.getElem?_eq_some_iff.mp g).1
 | _=>exact False.elim e
theorem OD.dn{a:Nat}(e:OD A h d a)(ha:A (.some a)):Dn A h d (.ref a):=by
 cases d with
 | rl ds=>obtain⟨vs,g,q⟩:=e;rw[Dn];exact .inr ⟨a,vs,rfl,ha,g,q⟩
 | dc ks ds=>obtain⟨kvs,g,k,q⟩:=e;rw[Dn];exact⟨a,kvs,rfl,ha,g,k,q⟩
 | _=>exact False.elim e
noncomputable def OB(A:AP)(h:Hs)(d:Val)(o:Ob):Prop:=match d with
 | .rl ds=>∃vs,o=.lst vs/\ak A h ds vs
 | .dc ks ds=>∃kvs,o=.dct kvs/\kvs.map (·.1)=ks/\ak A h ds (kvs.map (·.2))
 | _=>False
theorem OB.od{a:Nat}(e:OB A h d o)(g:h'[a]?=.some o)(hq:∀ds vs,ak A h ds vs->ak A' h' ds vs):OD A' h' d a:=by
 cases d with
 | rl ds=>obtain⟨vs,rfl,q⟩:=e;exact⟨vs,g,hq _ _ q⟩
 | dc ks ds=>obtain⟨kvs,rfl,k,q⟩:=e;exact⟨kvs,g,k,hq _ _ q⟩
 | _=>exact False.elim e
noncomputable def DB(A:AP)(h:Hs)(d v:Val):Prop:=Dn A h d v\/∃i,v=.ref i/\OD A h d i
theorem DB.all(e:DB A h d v):Dn (λ_=>True) h d v:=by
 rcases e with e|⟨i,rfl,q⟩
 ·exact e.gC λ_ _=>trivial
 ·exact(q.mono (A':=λ_=>True) (λ_ g=>g) λ_ _ z=>z.gC λ_ _=>trivial).dn trivial
theorem DB.ext(p:h<+:h')(e:DB A h d v):DB A h' d v:=by
 rcases e with e|⟨i,rfl,q⟩
 ·exact .inl (e.ext p)
 ·exact .inr ⟨i,rfl,q.ext p⟩
theorem DB.dc(e:DB A h (.dc ks ds) v):∃i kvs,v=.ref i/\h[i]?=some (.dct kvs)/\kvs.map (·.1)=ks/\ak A h ds (kvs.map (·.2)):=by
 rcases e with e|⟨i,rfl,kvs,g,k,q⟩
 ·rw[Dn] at e;obtain⟨i,kvs,rfl,_,g,k,q⟩:=e;exact⟨i,kvs,rfl,g,k,q⟩
 ·exact⟨i,kvs,rfl,g,k,q⟩
theorem DB.lst{ds:List Val}{v:Val}(e:DB A h (.rl ds) v):∃vs,aB h v=some vs/\ak A h ds vs:=by
 rcases e with e|⟨i,rfl,vs,g,q⟩
 ·rw[Dn] at e
  rcases e with ⟨vs,rfl,_,q⟩|⟨i,vs,rfl,_,g,q⟩
  ·exact⟨vs,rfl,q⟩
  ·exact⟨vs,by simp[aB,g],q⟩
 ·exact⟨vs,by simp[aB,g],q⟩
theorem DB.seq(e:DB A h d v)(q:cV [] d=some ds):∃vs,cV h v=some vs/\ak A h ds vs:=by
 cases d with
 | tup es =>
  simp only[cV] at q;cases q
  rcases e with e|⟨_,_,e1⟩
  ·rw[Dn] at e;obtain⟨vs,rfl,q⟩:=e;exact⟨vs,rfl,q⟩
  ·exact False.elim e1
 | rl es =>simp only[cV,aB] at q;cases q;obtain⟨vs,q1,q2⟩:=e.lst;refine⟨vs,?_,q2⟩;cases v<;>first|(simp[aB] at q1;done)|exact q1
 | ref i=>simp[cV,aB] at q
 | _=>simp[cV,aB] at q
theorem DB.int{i:Int}(e:DB A h (.int i) v):v=.int i:=by
 rcases e with e|⟨_,_,e1⟩
 ·rw[Dn] at e;exact e
 ·exact False.elim e1
theorem DB.str(e:DB A h (.str i) v):v=.str i:=by
 rcases e with e|⟨_,_,e1⟩
 ·rw[Dn] at e;exact e
 ·exact False.elim e1
theorem DB.bl{i:Bool}(e:DB A h (.bl i) v):v=.bl i:=by
 rcases e with e|⟨_,_,e1⟩
 ·rw[Dn] at e;exact e
 ·exact False.elim e1
theorem DB.tup{v:Val}{ds:List Val}(e:DB A h (.tup ds) v):∃vs,v=.tup vs/\ak A h ds vs:=by
 rcases e with e|⟨_,_,e1⟩
 ·rw[Dn] at e;exact e
 ·exact False.elim e1
theorem sV:∀(n:Nat) (d v:Val) (p:PyData),Dn (λ_=>True) h d v->toD n [] d=some p->toD n h v=some p:=by
 intro n
 induction n with
 | zero=>intro d v p _ e;simp[toD] at e
 | succ n ih =>
  have all:∀(ds vs:List Val) (ps:List PyData),ak (λ_=>True) h ds vs->cj (toD n []) ds=some ps->cj (toD n h) vs=some ps:=by
   intro ds
   induction ds with
   | nil=>intro vs ps q e;rw[ak] at q;subst q;exact e
   | cons d ds Wc =>intro vs ps q e;rw[ak] at q;obtain⟨v,r,rfl,q1,q2⟩:=q;simp only[cj] at e |-;obtain⟨x,e1,e⟩:=bind_eq_some_iff.mp e;obtain⟨xs,e2,e⟩:=bind_eq_some_iff.mp e;rw[ih d v x q1 e1,Wc r xs q2 e2];exact e
  intro d v p q e;cases d with
  | non=>rw[Dn] at q;subst q;exact e
  | bl b=>rw[Dn] at q;subst q;exact e
  | int b=>rw[Dn] at q;subst q;exact e
  | str b=>rw[Dn] at q;subst q;exact e
  | tup ds =>rw[Dn] at q;obtain⟨vs,rfl,q⟩:=q;simp only[toD] at e |-;obtain⟨ps,e1,e⟩:=bind_eq_some_iff.mp e;rw[all ds vs ps q e1];exact e
  | rl ds =>
   rw[Dn] at q;simp only[toD] at e;obtain⟨ps,e1,e⟩:=bind_eq_some_iff.mp e
   rcases q with ⟨vs,rfl,_,q⟩|⟨i,vs,rfl,_,g,q⟩
   ·simp only[toD];rw[all ds vs ps q e1];exact e
   ·simp only[toD,aB,g,bind_some];rw[all ds vs ps q e1];exact e
  | dc ks ds=>simp[toD] at e
  | ob c xs ds=>simp[toD] at e
  | ref i=>rw[Dn] at q;exact q.elim
theorem GY{b:Bool}(a:DB A h d v)(c:DB A h e w)(q:Ax [] d e=some b):Ax h v w=some b:=by
 unfold Ax at q |-;obtain⟨x,e1,q⟩:=bind_eq_some_iff.mp q;obtain⟨y,e2,q⟩:=bind_eq_some_iff.mp q;rw[sV 16 d v x a.all e1,sV 16 e w y c.all e2];exact q
theorem BZ(a:DB A h d v):oZ v=oZ d:=by
 rcases a with a|⟨i,rfl,q⟩
 ·cases d<;>rw[Dn] at a
  ·subst a;rfl
  ·subst a;rfl
  ·subst a;rfl
  ·subst a;rfl
  ·obtain⟨vs,rfl,_⟩:=a;rfl
  ·rcases a with ⟨vs,rfl,_⟩|⟨i,vs,rfl,_⟩<;>rfl
  ·obtain⟨i,kvs,rfl,_⟩:=a;rfl
  ·obtain⟨i,kvs,rfl,_⟩:=a;rfl
  ·exact a.elim
 ·cases d<;>first|exact False.elim q|rfl
theorem B0{b:Bool}(q:memD h v (.str y)=some b):False:=by
 unfold memD at q;obtain⟨x,e1,q⟩:=bind_eq_some_iff.mp q;obtain⟨z,e2,q⟩:=bind_eq_some_iff.mp q;simp only[toD] at e1;split at e1<;>cases e1;simp[Jy] at q
theorem B3{b:Bool}(a:DB A h d v)(c:DB A h e w)(q:sM [] d e=some b):sM h v w=some b:=by
 have data:memD [] d e=some b->memD h v w=some b:=λq=>by
  unfold memD at q |-;obtain⟨x,e1,q⟩:=bind_eq_some_iff.mp q;obtain⟨y,e2,q⟩:=bind_eq_some_iff.mp q;rw[sV 16 e w x c.all e1,sV 16 d v y a.all e2];exact q
 cases e with
 | str y =>
  have:=c.str;subst this;cases d with
  | str x=>have:=a.str;subst this;exact q
  | _=>exact(B0 (data q)).elim
 | tup es =>obtain⟨ws,rfl,_⟩:=c.tup;have q':=data (by cases d<;>exact q);cases v<;>exact q'
 | rl es =>
  have q':=data (by cases d<;>exact q)
  rcases c with c|⟨i,rfl,vs,g,q2⟩
  ·rw[Dn] at c
   rcases c with ⟨ws,rfl,_⟩|⟨i,ws,rfl,_,g,_⟩
   ·cases v<;>exact q'
   ·cases v<;>(show (h[i]?).bind _=_;rw[g];exact q')
  ·cases v<;>(show (h[i]?).bind _=_;rw[g];exact q')
 | dc ks es =>
  obtain⟨i,kvs,rfl,g,hk,_⟩:=c.dc
  ·skip
   have q':(keyOf d).bind (λk=>some (ks.any λj=>decide (j=k)))=some b:=by cases d<;>exact q
   obtain⟨kk,e1,q'⟩:=bind_eq_some_iff.mp q';have ev:keyOf v=some kk:=by
    cases d<;>simp only[keyOf] at e1<;>first|(cases e1;done)|skip
    ·have:=a.int;subst this;exact e1
    ·have:=a.str;subst this;exact e1
   have:(bN kvs kk).isSome=(ks.any λj=>decide (j=kk)):=by
    subst hk;unfold bN;rw[isSome_map,any_map];have key:∀l:List (Key×Val),(List.find? (λkv=>decide (kv.fst=kk)) l).isSome=l.any ((λj=>decide (j=kk))∘λx=>x.fst):=by
     intro l
     induction l with
     | nil=>rfl
     | cons x l ih =>
      rw[find?_cons,any_cons]
      by_cases hx:x.1=kk
      ·simp[hx]
      ·simp[hx];simpa using ih
    exact key kvs
   have fin:EC h v i (.dct kvs)=some b:=by simp only[EC,ev,bind_some,this];exact q'
   cases v<;>(show (h[i]?).bind _=_;rw[g];exact fin)
 | ref i =>
  rcases c with c|⟨_,_,e1⟩
  ·rw[Dn] at c;exact c.elim
  ·exact False.elim e1
 | ob cc xs es =>
  have q':memD [] d (.ob cc xs es)=some b:=by cases d<;>exact q
  unfold memD at q';obtain⟨x,e1,q'⟩:=bind_eq_some_iff.mp q';simp[toD] at e1
 | non =>
  have q':=data (by cases d<;>exact q);have:w=.non:=by
   rcases c with c|⟨_,_,e1⟩
   ·rw[Dn] at c;exact c
   ·exact False.elim e1
  subst this;cases v<;>exact q'
 | bl x =>
  have q':=data (by cases d<;>exact q);have:w=.bl x:=by
   rcases c with c|⟨_,_,e1⟩
   ·rw[Dn] at c;exact c
   ·exact False.elim e1
  subst this;cases v<;>exact q'
 | int x =>
  have q':=data (by cases d<;>exact q);have:w=.int x:=by
   rcases c with c|⟨_,_,e1⟩
   ·rw[Dn] at c;exact c
   ·exact False.elim e1
  subst this;cases v<;>exact q'
theorem B4{b:Bool}(a:DB A h d v)(c:DB A h e w)(q:GO d e=some b):GO v w=some b:=by
 cases e<;>first|(cases q;done)|skip
 ·have:w=.non:=by
   rcases c with c|⟨_,_,e1⟩
   ·rw[Dn] at c;exact c
   ·exact False.elim e1
  subst this;show some (oZ v)=_;rw[BZ a];exact q
 ·have:=c.bl;subst this
  cases d<;>first|(cases q;done)|skip
  have:=a.bl;subst this;exact q
theorem Ks{b:Bool}(a:DB A h d v)(c:DB A h e w)(q:cop [] o d e=some b):cop h o v w=some b:=by
 cases o with
 | eq=>exact GY a c q
 | ne =>obtain⟨x,e1,e2⟩:=map_eq_some_iff.mp (show (Ax [] d e).map _=some b from q);show (Ax h v w).map _=_;rw[GY a c e1];exact congrArg some e2
 | isn=>exact B4 a c q
 | ntn =>obtain⟨x,e1,e2⟩:=map_eq_some_iff.mp (show (GO d e).map _=some b from q);show (GO v w).map _=_;rw[B4 a c e1];exact congrArg some e2
 | BA=>exact B3 a c q
 | nin =>obtain⟨x,e1,e2⟩:=map_eq_some_iff.mp (show (sM [] d e).map _=some b from q);show (sM h v w).map _=_;rw[B3 a c e1];exact congrArg some e2
 | lt =>obtain⟨i,j,rfl,rfl⟩:=jl (.inl rfl) q;have:=a.int;subst this;have:=c.int;subst this;exact q
 | le =>obtain⟨i,j,rfl,rfl⟩:=jl (.inr (.inl rfl)) q;have:=a.int;subst this;have:=c.int;subst this;exact q
 | gt =>obtain⟨i,j,rfl,rfl⟩:=jl (.inr (.inr (.inl rfl))) q;have:=a.int;subst this;have:=c.int;subst this;exact q
 | ge =>obtain⟨i,j,rfl,rfl⟩:=jl (.inr (.inr (.inr rfl))) q;have:=a.int;subst this;have:=c.int;subst this;exact q
theorem wX{b:Bool}(a:DB A h d v)(q:cX [] d=some b):cX h v=some b:=by
 cases d with
 | rl ds =>
  obtain⟨vs,q1,q2⟩:=a.lst;have l:=q2.length;have e:(!ds.isEmpty) = !vs.isEmpty:=by cases ds<;>cases vs<;>simp_all
  simp only[cX] at q;rw[e] at q;cases v<;>simp only[aB] at q1<;>first|(cases q1;done)|skip
  ·cases q1;exact q
  ·split at q1<;>cases q1;rename_i g;simp only[cX,g];exact q
 | tup ds =>
  obtain⟨vs,rfl,q2⟩:=a.tup;have l:=q2.length;have e:(!ds.isEmpty) = !vs.isEmpty:=by cases ds<;>cases vs<;>simp_all
  simp only[cX] at q |-;rw[<-e];exact q
 | dc ks ds =>obtain⟨i,kvs,rfl,g,hk,_⟩:=a.dc;subst hk;simp only[cX,g] at q |-;rw[<-q];cases kvs<;>rfl
 | ob c xs ds=>cases q
 | ref i =>
  rcases a with a|⟨_,_,e1⟩
  ·rw[Dn] at a;exact a.elim
  ·exact False.elim e1
 | non =>
  rcases a with a|⟨_,_,e1⟩
  ·rw[Dn] at a;subst a;exact q
  ·exact False.elim e1
 | bl b=>have:=a.bl;subst this;exact q
 | int b=>have:=a.int;subst this;exact q
 | str b=>have:=a.str;subst this;exact q
theorem Ku{n:Nat}(a:DB A h d v)(q:k7 [] d=some n):k7 h v=some n:=by
 cases d with
 | rl ds =>
  obtain⟨vs,q1,q2⟩:=a.lst;have l:=q2.length;simp only[k7] at q;rw[l] at q;cases v<;>simp only[aB] at q1<;>first|(cases q1;done)|skip
  ·cases q1;exact q
  ·split at q1<;>cases q1;rename_i g;simp only[k7,g];exact q
 | tup ds =>obtain⟨vs,rfl,q2⟩:=a.tup;simp only[k7] at q |-;rw[<-q2.length];exact q
 | dc ks ds =>obtain⟨i,kvs,rfl,g,hk,_⟩:=a.dc;subst hk;simp only[k7,g] at q |-;rw[<-q];simp
 | str b=>have:=a.str;subst this;exact q
 | _=>simp[k7] at q
theorem Nu{t:String}(a:DB A h d v)(q:uA [] d=some t):uA h v=some t:=by
 cases d with
 | rl ds =>
  obtain⟨vs,q1,q2⟩:=a.lst;cases v<;>simp only[aB] at q1<;>first|(cases q1;done)|skip
  ·exact q
  ·split at q1<;>cases q1;rename_i g;simp only[uA,g];exact q
 | tup ds=>obtain⟨vs,rfl,q2⟩:=a.tup;exact q
 | dc ks ds =>obtain⟨i,kvs,rfl,g,hk,_⟩:=a.dc;simp only[uA,g] at q |-;exact q
 | ob c xs ds=>cases q
 | ref i =>
  rcases a with a|⟨_,_,e1⟩
  ·rw[Dn] at a;exact a.elim
  ·exact False.elim e1
 | non =>
  rcases a with a|⟨_,_,e1⟩
  ·rw[Dn] at a;subst a;exact q
  ·exact False.elim e1
 | bl b=>have:=a.bl;subst this;exact q
 | int b=>have:=a.int;subst this;exact q
 | str b=>have:=a.str;subst this;exact q
theorem nT:∀{kvs:List (Key×Val)} {ks:List Key} {ds:List Val} {z:Val},kvs.map (·.1)=ks->ak A h ds (kvs.map (·.2))->bN (ks.zip ds) k=some z->∃v,bN kvs k=some v/\Dn A h z v
 | [],ks,ds,z,hk,q,e=>by subst hk;simp[bN] at e
 | (k',v')::kvs,ks,ds,z,hk,q,e=>by
  subst hk;have l:=q.length;cases ds with
  | nil=>simp at l
  | cons d ds =>
   simp only[map_cons] at q;rw[ak] at q;obtain⟨v,r,e1,q1,q2⟩:=q;cases e1
   by_cases hkk:k'=k
   ·subst hkk;simp[bN] at e |-;subst e;exact q1
   ·have e':bN ((kvs.map (·.1)).zip ds) k=some z:=by simpa [bN,hkk] using e
    obtain⟨w,a1,a2⟩:=nT rfl q2 e';exact⟨w,by simpa [bN,hkk] using a1,a2⟩
theorem DB.lu{j:Nat}(c:DB A h (.ref j) v):False:=by
 rcases c with c|⟨_,_,e1⟩
 ·rw[Dn] at c;exact c
 ·exact e1
theorem yo:∀{kvs:List (Key×Val)} {ds:List Val},ak A h ds (kvs.map (·.2))->bN ((kvs.map (·.1)).zip ds) k=none->bN kvs k=none
 | [],ds,q,e=>rfl
 | (k',v')::kvs,ds,q,e=>by
  cases ds with
  | nil=>rw[ak] at q;cases q
  | cons d ds =>
   rw[map_cons,ak] at q;obtain⟨v,r,eq,q1,q2⟩:=q;cases eq;unfold bN at e |-;rw[map_cons,zip_cons_cons,find?_cons] at e;rw[find?_cons]
   by_cases hk:k'=k
   ·simp[hk] at e
   ·simp only[hk,decide_false] at e |-;exact yo q2 e
theorem wY(a:Dn A h d v)(e:keyOf d=some kk):keyOf v=some kk:=by
 cases d<;>first|(cases e;done)|skip
 ·rw[Dn] at a;subst a;exact e
 ·rw[Dn] at a;subst a;exact e
theorem Kv(a:DB A h o v)(e:zR [] o k=some r):∃r',zR h v k=some r'/\∀z z',Dn A h z z'->Dn A h (r.getD z) (r'.getD z'):=by
 cases o<;>first|(cases e;done)|(exact(DB.lu a).elim)|skip
 rename_i ks ds;obtain⟨i,kvs,rfl,g,hk,q⟩:=a.dc;cases e;have eg:zR h (.ref i) k=some (bN kvs k):=by show (match h[i]? with|some (.dct kvs)=>some (bN kvs k)|_=>none)=_;rw[g]
 refine⟨_,eg,λz z' hz=>?_⟩;cases ev:bN (ks.zip ds) k with
 | none =>subst hk;rw[yo q ev];exact hz
 | some d =>obtain⟨u,e1,e2⟩:=nT hk q ev;rw[e1];exact e2
theorem uV(a:DB A h o v)(e:uz [] o=some ks):uz h v=some ks:=by
 cases o<;>first|(cases e;done)|(exact(DB.lu a).elim)|skip
 obtain⟨i,kvs,rfl,g,hk,q⟩:=a.dc;cases e;show (match h[i]? with|some (.dct kvs)=>some (kvs.map (λkv:Key×Val=>kv.1))|_=>none)=_;rw[g];exact congrArg some hk
theorem ly:∀ks:List Key,bI (ks.map ED)=true
 | []=>rfl
 | .inl _::ks=>by rw[map_cons,bI,ly ks];rfl
 | .inr _::ks=>by rw[map_cons,bI,ly ks];rfl
theorem Fo{u:Unit}(a:DB A h o v)(e:BB [] o=some u):BB h v=some u:=by
 cases o<;>first|(cases e;done)|(exact(DB.lu a).elim)|skip
 obtain⟨i,kvs,rfl,g,hk,q⟩:=a.dc;show (match h[i]? with|some (.dct _)=>some ()|_=>none)=_;rw[g]
theorem Kw(a:DB A h d v)(c:Dn A h e w)(q:ja [] d e=some z):∃u,ja h v w=some u/\Dn A h z u:=by
 cases e with
 | int i =>
  rw[Dn] at c;subst c;cases d with
  | str x =>
   have:=a.str;subst this;refine⟨z,q,?_⟩;change (if x.length<=sizeLine then (jd x.cps.toList i).map (λc=>Val.str ⟨#[c]⟩) else none)=some z at q;split at q
   ·obtain⟨c,_,rfl⟩:=map_eq_some_iff.mp q;rw[Dn]
   ·cases q
  | tup ds =>obtain⟨vs,rfl,q2⟩:=a.tup;exact q2.jd q
  | rl ds =>
   obtain⟨vs,q1,q2⟩:=a.lst;obtain⟨u,q3,q4⟩:=q2.jd q;refine⟨u,?_,q4⟩;cases v<;>simp only[aB] at q1<;>first|(cases q1;done)|skip
   ·cases q1;exact q3
   ·split at q1<;>cases q1;rename_i g;unfold ja;simp only[aB,g,bind_some];exact q3
  | dc ks ds =>obtain⟨i',kvs,rfl,g,hk,q2⟩:=a.dc;obtain⟨u,q3,q4⟩:=nT hk q2 q;refine⟨u,?_,q4⟩;show (match h[i']? with|some (.dct kvs)=>bN kvs (.inl i)|_=>(aB h (.ref i')).bind λxs=>jd xs i)=_;rw[g];exact q3
  | ref j=>exact(DB.lu a).elim
  | _=>cases q
 | str x =>
  rw[Dn] at c;subst c;cases d with
  | dc ks ds =>obtain⟨i',kvs,rfl,g,hk,q2⟩:=a.dc;obtain⟨u,q3,q4⟩:=nT hk q2 q;refine⟨u,?_,q4⟩;show (match h[i']? with|some (.dct kvs)=>bN kvs (.inr x)|_=>none)=_;rw[g];exact q3
  | ref j=>exact(DB.lu a).elim
  | _=>cases q
 | _=>cases d<;>first|(cases q;done)|exact(DB.lu a).elim
theorem sW:∀{fs:List (Str×Val)} {ds:List Val},ak A h ds (fs.map (·.2))->(((fs.map (·.1)).zip ds).lookup x=none->fs.lookup x=none)/\∀z,((fs.map (·.1)).zip ds).lookup x=some z->∃u,fs.lookup x=some u/\Dn A h z u
 | [],ds,q=>⟨λ_=>rfl,λz e=>by simp at e⟩
 | (k,v)::fs,ds,q=>by
  cases ds with
  | nil=>rw[ak] at q;cases q
  | cons d ds =>
   rw[map_cons,ak] at q;obtain⟨w,r,eq,q1,q2⟩:=q;cases eq;rw[map_cons,zip_cons_cons,lookup_cons,lookup_cons];cases hb:x==k with
   | true=>exact⟨λz=>(by cases z),λz e=>(by cases e;exact⟨v,rfl,q1⟩)⟩
   | false=>exact sW q2
theorem DB.ob{c:Nat}(e:DB A h (.ob c xs ds) v):∃i fs,v=.ref i/\h[i]?=some (.ins c fs)/\fs.map (·.1)=xs/\ak A h ds (fs.map (·.2)):=by
 rcases e with e|⟨_,_,e1⟩
 ·rw[Dn] at e;obtain⟨i,fs,rfl,_,g,k,q⟩:=e;exact⟨i,fs,rfl,g,k,q⟩
 ·exact False.elim e1
theorem Ky{n:Nat}(a:DB A h o v)(e:gJ n [] o x=some z):∃u,gJ n h v x=some u/\Dn A h z u:=by
 cases o<;>first|(cases e;done)|(exact(DB.lu a).elim)|skip
 obtain⟨i,fs,rfl,g,hk,q⟩:=a.ob;subst hk;unfold gJ at e;dsimp only at e;split at e
 ·rename_i hc;obtain⟨u,e1,e2⟩:=(sW q).2 z e;refine⟨u,?_,e2⟩;unfold gJ;dsimp only;rw[g];dsimp only;rw[if_pos hc];exact e1
 ·cases e
theorem Kz{j:Nat}(a:DB A h o v)(e:jY [] o m js=some j):jY h v m js=some j:=by
 cases o<;>first|(cases e;done)|(exact(DB.lu a).elim)|skip
 obtain⟨i,fs,rfl,g,hk,q⟩:=a.ob;subst hk;unfold jY at e;dsimp only at e;split at e
 ·rename_i hc;have e1:=(sW q).1 (by simpa using hc);unfold jY;dsimp only;rw[g];dsimp only;rw[if_pos (by rw[e1];rfl)];exact e
 ·cases e
theorem KA{b:Bool}(a:DB A h o v)(e:wN [] o bs=some b):wN h v bs=some b:=by
 cases o<;>first|(cases e;done)|(exact(DB.lu a).elim)|skip
 obtain⟨i,fs,rfl,g,hk,q⟩:=a.ob;unfold wN;dsimp only;rw[g];exact e
end
end Hv
end
section
namespace Hv
open PySem L2
noncomputable def Up(A:AP)(h:Hs):Prop:=∀k,h.length<=k->A (some k)
noncomputable def Rel(A:AP)(h:Hs){α β:Type}(R:α -> Hs -> β -> Prop)(o:Out β):Pr α -> Prop
 | .ok a=>∃b h',o=.ok b h'/\h<+:h'/\R a h' b
 | .exc c es=>∃ws h',o=.exc c ws h'/\h<+:h'/\ak A h' es ws
 | .no=>True
noncomputable def RV(A:AP)(h:Hs):FV->Hs->Val->Prop:=λx h' v=>Dn A h' x.2 v/\(x.1=true->Dn (Fr h.length) h' x.2 v)
noncomputable def Wd(A:AP)(h:Hs):Bool×List Val->Hs->List Val->Prop:=λx h' v=>ak A h' x.2 v/\(x.1=true->ak (Fr h.length) h' x.2 v)
noncomputable def Rb(A:AP):FV->Hs->Val->Prop:=λx h' v=>DB A h' x.2 v
noncomputable def Fp(A:AP)(h:Hs):List Val->List Val->Prop
 | [],vs=>vs=[]
 | d::ds,vs=>∃v r,vs=v::r/\DB A h d v/\Fp A h ds r
noncomputable def ER(A:AP)(aa:bz)(env:Env)(h:Hs):Prop:=∀(i:Nat) (f:Mk) (d:Val),aa[i]?=some (some (f,d)) ->
 if rE f=false then ∃a,env[i]?=some (some (.ref a))/\OD A h d a else ∃v,env[i]?=some (some v)/\Dn A h d v
section
variable {A:AP} {h h1:Hs} {α β γ δ:Type}
theorem Up.ext(u:Up A h)(p:h<+:h1):Up A h1:=λk hk=>u k (le_trans p.length_le hk)
theorem ER.ext(e:ER A aa env h)(p:h<+:h1):ER A aa env h1:=λi f d q=>by
 have:=e i f d q;revert this;generalize rE f=t;intro this;cases t with
 | false =>rw[if_pos rfl] at this |-;obtain⟨a,k2,k3⟩:=this;exact⟨a,k2,k3.ext p⟩
 | true =>rw[if_neg (by decide)] at this |-;obtain⟨v,k1,k2⟩:=this;exact⟨v,k1,k2.ext p⟩
theorem ah(r:Rel A h R (m h) p)(k:∀a h1 b,h<+:h1->R a h1 b->Rel A h1 R' (f b h1) (F a)):Rel A h R' (bnd m f h) (pb p F):=by
 unfold bnd;cases p with
 | ok a =>
  obtain⟨b,h1,e,q,r⟩:=r;rw[e];show Rel A h R' (f b h1) (F a);have:=k a h1 b q r;cases e2:F a with
  | ok c=>rw[e2] at this;obtain⟨d,h2,e3,q2,r2⟩:=this;exact⟨d,h2,e3,q.trans q2,r2⟩
  | exc c es=>rw[e2] at this;obtain⟨d,h2,e3,q2,r2⟩:=this;exact⟨d,h2,e3,q.trans q2,r2⟩
  | no=>trivial
 | exc c es =>obtain⟨ws,h1,e,q,r⟩:=r;rw[e];exact⟨ws,h1,rfl,q,r⟩
 | no=>trivial
theorem ay(r:R a h b):Rel A h R (ret b h) (.ok a):=⟨b,h,rfl,prefix_refl _,r⟩
theorem bw(r:∀a,o=some a->∃b,o'=some b/\R a h b):Rel A h R (bg o' h) (pl o):=by
 cases o with
 | none=>trivial
 | some a=>obtain⟨b,rfl,q⟩:=r a rfl;exact⟨b,h,rfl,prefix_refl _,q⟩
theorem bQ(r:∀a,o=some a->∃b,f h=some b/\R a h b):Rel A h R (ask f h) (pl o):=bw r
theorem bF{c c':Bool}(e:c=true->c'=true)(r:c=true->Rel A h R (m h) p):Rel A h R (aD c' m h) (pg c p):=by
 unfold aD pg;cases c with
 | true=>rw[if_pos (e rfl),if_pos rfl];exact r rfl
 | false=>rw[if_neg Bool.false_ne_true];trivial
theorem uW(r:Rel A h R o p)(k:∀a h' b,h<+:h'->R a h' b->R' a h' b):Rel A h R' o p:=by
 cases p with
 | ok a=>obtain⟨b,h',e,q,r⟩:=r;exact⟨b,h',e,q,k a h' b q r⟩
 | exc c es=>exact r
 | no=>trivial
theorem dg(o:Ob):h<+:h++[o]:=prefix_append _ _
theorem ic(o:Ob):(h++[o])[h.length]?=some o:=by simp
theorem e8{f:Bool}{h0:Hs}(u:Up A h)(p:h0<+:h)(q:ak A h xs vs)(g:f=true->ak (Fr h0.length) h xs vs):Rel A h (RV A h0) (new (.lst vs) h) (.ok (f,.rl xs)):=by
 refine⟨_,_,rfl,dg _,?_,λhf=>?_⟩
 ·show Dn A _ (.rl xs) _;rw[Dn];exact .inr ⟨_,vs,rfl,u _ (le_refl _),ic _,q.ext (dg _)⟩
 ·show Dn _ _ (.rl xs) _;rw[Dn];exact .inr ⟨_,vs,rfl,p.length_le,ic _,(g hf).ext (dg _)⟩
theorem kG{h0:Hs}(q:Dn A h d v):RV A h0 (iE d,d) h v:=⟨q,λhi=>(gO d v hi).mpr ((gO d v hi).mp q)⟩
theorem fy(q:ak A h ds vs)(hi:bI ds=true):ak A' h' ds vs:=(aW ds vs hi).mpr ((aW ds vs hi).mp q)
theorem gP{i:Int}{h0:Hs}{f:Bool}:RV A h0 (f,.int i) h (.int i):=⟨by rw[Dn],λ_=>by rw[Dn]⟩
theorem pI{i:Bool}{h0:Hs}{f:Bool}:RV A h0 (f,.bl i) h (.bl i):=⟨by rw[Dn],λ_=>by rw[Dn]⟩
theorem KC{h0:Hs}{f:Bool}:RV A h0 (f,.str i) h (.str i):=⟨by rw[Dn],λ_=>by rw[Dn]⟩
theorem RV.br{h0:Hs}(r:RV A h0 x h v):Rb A x h v:=.inl r.1
theorem Fq(ho:o≠.add)(v w:Val):(∃i j,v=.int i/\w=.int j)\/j3 o v w=.no:=by
 cases v with
 | int i =>
  cases w with
  | int j=>exact .inl ⟨i,j,rfl,rfl⟩
  | _=>right;cases o<;>first|rfl|exact absurd rfl ho
 | _=>right;cases o<;>first|rfl|exact absurd rfl ho
theorem Ft{h0:Hs}(u:Up A h)(p:h0<+:h)(a:DB A h d v)(c:DB A h e w):Rel A h (RV A h0) (LH o v w h) (j3 o d e):=by
 have ii:o≠.add->(∃i j,d=.int i/\e=.int j)\/j3 o d e=.no:=λho=>Fq ho d e;cases o with
 | add =>
  cases d<;>cases e<;>first|trivial|skip
  ·have:=a.int;subst this;have:=c.int;subst this;exact ay gP
  ·have:=a.str;subst this;have:=c.str;subst this;exact bF (λz=>z) λ_=>ay KC
  ·rename_i xs ys
   obtain⟨vs,rfl,q1⟩:=a.tup;obtain⟨ws,rfl,q2⟩:=c.tup;have l1:=q1.length;have l2:=q2.length;refine bF (λz=>?_) λ_=>ay ⟨?_,λhi=>?_⟩
   ·rw[l1,l2] at z
    have:xs.isEmpty=vs.isEmpty:=by cases xs<;>cases vs<;>simp_all
    rw[<-this];exact z
   ·show Dn A h (.tup _) _;rw[Dn];exact⟨_,rfl,q1.append q2⟩
   ·show Dn _ h (.tup _) _;rw[Dn];exact⟨_,rfl,fy (q1.append q2) hi⟩
  ·rename_i xs ys
   obtain⟨vs,e1,q1⟩:=a.lst;obtain⟨ws,e2,q2⟩:=c.lst;have eb:LH .add v w=bnd (ask λh=>aB h v) λa=>bnd (ask λh=>aB h w) λb=>aD (decide (a.length+b.length<=sizeLine)) (new (.lst (a++b))):=by
    cases v<;>simp only[aB] at e1<;>first|(cases e1;done)|skip
    all_goals cases w<;>simp only[aB] at e2<;>first|(cases e2;done)|rfl
   have ev:LH .add v w h=aD (decide (vs.length+ws.length<=sizeLine)) (new (.lst (vs++ws))) h:=by rw[eb];unfold bnd ask bg;dsimp only;rw[e1];dsimp only;rw[e2]
   rw[ev];refine bF (λz=>?_) λ_=>e8 u p (q1.append q2) λhi=>fy (q1.append q2) hi;rw[<-q1.length,<-q2.length];exact z
 | _ =>
  rcases ii (by intro z;cases z) with ⟨i,j,rfl,rfl⟩|z
  case inr=>rw[z];trivial
  have:=a.int;subst this;have:=c.int;subst this
  first
   | exact ay gP
   | exact bF (λz=>z) λ_=>ay gP
theorem Fv{lo hi:Option Int}{h0:Hs}(u:Up A h)(p:h0<+:h)(a:DB A h d v):Rel A h (RV A h0) (qy v lo hi h) (z9 d lo hi):=by
 cases d with
 | tup ds =>
  obtain⟨vs,rfl,q⟩:=a.tup;have l:=q.length;simp only[z9,qy];refine bF (λz=>?_) λ_=>ay ⟨?_,λhi=>?_⟩
  ·rw[l] at z;exact z
  ·show Dn A h (.tup _) _;rw[Dn];exact⟨_,rfl,q.cut lo hi⟩
  ·show Dn _ h (.tup _) _;rw[Dn];exact⟨_,rfl,fy (q.cut _ _) hi⟩
 | rl ds =>
  obtain⟨vs,e1,q⟩:=a.lst;have ev:qy v lo hi h=new (.lst (cY vs lo hi)) h:=by
   have:qy v lo hi=bnd (ask λh=>aB h v) λxs=>new (.lst (cY xs lo hi)):=by cases v<;>simp only[aB] at e1<;>first|(cases e1;done)|rfl
   rw[this];unfold bnd ask bg;dsimp only;rw[e1]
  rw[ev];exact e8 u p (q.cut lo hi) λhh=>fy (q.cut lo hi) hh
 | _=>trivial
theorem Fp.one(e:Fp A h [d] vs):∃v,vs=[v]/\DB A h d v:=by
 obtain⟨v,r,rfl,a,b⟩:=e;cases (show r=[] from b);exact⟨v,rfl,a⟩
theorem Fw{ns:List Int}(q:ak A h ds vs)(e:aS ds=some ns):vs=ds:=by
 have:bI ds=true:=by
  clear q
  induction ds generalizing ns with
  | nil=>rfl
  | cons d ds ih =>
   simp only[aS,cj] at e;obtain⟨i,e1,e⟩:=bind_eq_some_iff.mp e;obtain⟨is,e2,e⟩:=bind_eq_some_iff.mp e;cases d<;>first|(cases e1;done)|skip
   rw[bI,iE,Bool.true_and];exact ih e2
 exact(aW ds vs this).mp q
theorem pJ:∀{ds:List Val} {ns:List Int},aS ds=some ns->bI ds=true
 | [],_,_=>rfl
 | d::ds,ns,e=>by
  simp only[aS,cj] at e;obtain⟨i,e1,e⟩:=bind_eq_some_iff.mp e;obtain⟨is,e2,e⟩:=bind_eq_some_iff.mp e;cases d<;>first|(cases e1;done)|skip
  rw[bI,iE,Bool.true_and];exact pJ (show aS ds=some is from e2)
theorem uX:∀{ds:List Val} {ns:List (List Int)},kg ds=some ns->bI ds=true
 | [],_,_=>rfl
 | d::ds,ns,e=>by
  simp only[kg,cj] at e;obtain⟨i,e1,e⟩:=bind_eq_some_iff.mp e;obtain⟨is,e2,e⟩:=bind_eq_some_iff.mp e;cases d<;>first|(cases e1;done)|skip
  rename_i vs;dsimp only at e1;split at e1
  ·cases e1
  ·rw[bI,iE,pJ e1,Bool.true_and];exact uX (show kg ds=some is from e2)
theorem bE:∀ns:List Int,bI (ns.map .int)=true
 | []=>rfl
 | n::ns=>by rw[map_cons,bI,iE,Bool.true_and];exact bE ns
theorem lz:∀nQ:List (List Int),bI (nQ.map kZ)=true
 | []=>rfl
 | n::ns=>by rw[map_cons,bI,kZ,iE,bE,Bool.true_and];exact lz ns
theorem rF(e:eu xs=some ys):bI xs=true/\bI ys=true:=by
 unfold eu at e;split at e
 ·cases e2:aS xs with
  | some ns=>rw[e2] at e;cases e;exact⟨pJ e2,bE _⟩
  | none =>rw[e2] at e;obtain⟨nQ,e3,e4⟩:=bind_eq_some_iff.mp e;cases e4;exact⟨uX e3,lz _⟩
 ·cases e
theorem Fx{h0:Hs}(u:Up A h)(p:h0<+:h)(a:Fp A h ds vs):Rel A h (RV A h0) (blt b vs h) (f6 b ds):=by
 have mm:∀(f:List Int->Option Val) (d:Val),(∀ns m,f ns=some m->∃i,m=.int i)->∀v,DB A h d v->Rel A h (RV A h0) (bnd (ask λh=>cV h v) (λxs=>bg ((aS xs).bind f)) h) (pb (pl (cV [] d)) λxs=>pb (pl ((aS xs).bind f)) λm=>.ok (true,m)):=by
  intro f d hf v hv;refine ah (R:=λxs h' ws=>ak A h' xs ws) (bQ λxs e=>hv.seq e) λxs h1 ws q1 q=>?_;have:bg ((aS ws).bind f) h1=bnd (bg ((aS ws).bind f)) (λm=>ret m) h1:=by unfold bnd bg;cases (aS ws).bind f<;>rfl
  rw[this];refine ah (R:=λm _ m'=>m'=m/\∃i,m=.int i) (bw λm e=>?_) λm h2 m' _ hm=>?_
  ·obtain⟨ns,e1,e2⟩:=bind_eq_some_iff.mp e;rw[Fw q e1];exact⟨m,e,rfl,hf ns m e2⟩
  ·obtain⟨rfl,i,rfl⟩:=hm;exact ay gP
 have hmin:∀ns m,sJ ns=some m->∃i,m=Val.int i:=λns m e=>by cases ns<;>simp[sJ] at e;exact⟨_,e.symm⟩
 have Rc:∀ns m,sL ns=some m->∃i,m=Val.int i:=λns m e=>by cases ns<;>simp[sL] at e;exact⟨_,e.symm⟩
 match ds,a with
 | [],a=>cases b<;>trivial
 | [d],a =>
  obtain⟨v,rfl,hv⟩:=a.one;cases b with
  | len =>exact ah (R:=λn _ m=>m=n) (bQ λn e=>⟨n,Ku hv e,rfl⟩) λn h1 m _ e=>by subst e;exact ay gP
  | min =>
   have e1:f6 .min [d]=pb (pl (cV [] d)) λxs=>pb (pl ((aS xs).bind sJ)) λm=>.ok (true,m):=by cases d<;>rfl
   have e2:blt .min [v]=bnd (ask λh=>cV h v) λxs=>bg ((aS xs).bind sJ):=by cases v<;>rfl
   rw[e1,e2];exact mm sJ d hmin v hv
  | max =>
   have e1:f6 .max [d]=pb (pl (cV [] d)) λxs=>pb (pl ((aS xs).bind sL)) λm=>.ok (true,m):=by cases d<;>rfl
   have e2:blt .max [v]=bnd (ask λh=>cV h v) λxs=>bg ((aS xs).bind sL):=by cases v<;>rfl
   rw[e1,e2];exact mm sL d Rc v hv
  | sorted =>
   cases d<;>first|trivial|skip
   rename_i xs;obtain⟨ws,e1,q⟩:=hv.lst;have ev:bnd (ask λh=>aB h v) (λxs=>bnd (bg (eu xs)) λys=>new (.lst ys)) h=bnd (bg (eu ws)) (λys=>new (.lst ys)) h:=by unfold bnd ask bg;dsimp only;rw[e1]
   show Rel A h (RV A h0) (bnd (ask λh=>aB h v) (λxs=>bnd (bg (eu xs)) λys=>new (.lst ys)) h) _;rw[ev];refine ah (R:=λys _ zs=>zs=ys/\bI ys=true) (bw λys e=>?_) λys h1 zs q1 hz=>?_
   ·obtain⟨i1,i2⟩:=rF e;rw[(aW xs ws i1).mp q];exact⟨ys,e,rfl,i2⟩
   ·obtain⟨rfl,hi⟩:=hz;exact e8 (u.ext q1) (p.trans q1) ((aW _ _ hi).mpr rfl) λ_=>(aW _ _ hi).mpr rfl
  | list =>refine ah (R:=λxs h' ws=>ak A h' xs ws) (bQ λxs e=>hv.seq e) λxs h1 ws q1 q=>?_;exact e8 (u.ext q1) (p.trans q1) q λhi=>fy q hi
  | tuple=>trivial
  | str=>trivial
  | int =>
   cases d<;>first|trivial|skip
   ·have:=hv.bl;subst this;exact ay gP
   ·have:=hv.int;subst this;exact ay gP
  | all=>trivial
  | any=>trivial
  | isin T =>refine ah (R:=λn _ m=>m=n) (bQ λn e=>⟨n,Nu hv e,rfl⟩) λn h1 m _ e=>?_;subst e;exact ah (R:=λn _ m=>m=n) (bw λn e=>⟨n,e,rfl⟩) λn h1 m _ e=>by subst e;exact ay pI
 | [d,e],a =>
  obtain⟨v,r,rfl,hv,hr⟩:=a;obtain⟨w,rfl,hw⟩:=Fp.one hr;cases b<;>first|trivial|(cases d<;>trivial)|skip
  ·cases d<;>cases e<;>first|trivial|skip
   have:=hv.int;subst this;have:=hw.int;subst this;exact ay gP
  ·cases d<;>cases e<;>first|trivial|skip
   have:=hv.int;subst this;have:=hw.int;subst this;exact ay gP
 | x::y::z::t,a=>cases b<;>first|trivial|(cases x<;>trivial)|(cases x<;>cases y<;>trivial)
end
end Hv
end
section
namespace Hv
open PySem L2
noncomputable def Imp(φ:List Val->M Val)(ψ:List Val->Pr FV):Prop:=∀(A:AP) (h:Hs) (ds vs:List Val),Up A h->ak A h ds vs->Rel A h (RV A h) (φ vs h) (ψ ds)
section
variable {Φ:Nat->List Val->M Val} {Ψ:Nat->List Val->Pr FV} {A:AP} {h h1:Hs}
noncomputable def bU(Φ:Nat->List Val->M Val)(Ψ:Nat->List Val->Pr FV)(ir:IE):Prop:=∀(aa:bz) (env:Env) (A:AP) (h:Hs),Up A h->ER A aa env h->Rel A h (RV A h) (aF Φ ir env h) (bu Ψ ir aa)
noncomputable def j4(Φ:Nat->List Val->M Val)(Ψ:Nat->List Val->Pr FV)(dN:m8):Prop:=(∀(aa:bz) (env:Env) (A:AP) (h:Hs),Up A h->ER A aa env h->Rel A h (Wd A h) (aV Φ dN env h) (qz Ψ dN aa)) /\
 ∀(aa:bz) (env:Env) (A:AP) (h:Hs),Up A h->ER A aa env h->Rel A h (λds h' vs=>Fp A h' ds vs) (aV Φ dN env h) (gb Ψ dN aa)
theorem RV.up{h0 h':Hs}(p:h0<+:h)(r:RV A h x h' v):RV A h0 x h' v:=⟨r.1,λf=>(r.2 f).gC (Fr.le p.length_le)⟩
theorem B5{h0:Hs}(p:h0<+:h)(r:Rel A h (RV A h) o x):Rel A h (RV A h0) o x:=uW r λ_ _ _ _ q=>q.up p
theorem Nv{i:Nat}(e:ER A aa env h):Rel A h (Rb A) (aF Φ (.var i) env h) (pl (f9 aa (.var i))):=by
 rw[aF];refine bw λx hx=>?_;simp only[f9] at hx;split at hx
 ·rename_i f d hd
  cases hx;have:=e i f d hd;revert this;generalize rE f=t;intro this;cases t with
  | false =>rw[if_pos rfl] at this;obtain⟨a,k2,k3⟩:=this;exact⟨.ref a,by rw[k2],.inr ⟨a,rfl,k3⟩⟩
  | true =>rw[if_neg (by decide)] at this;obtain⟨v,k1,k2⟩:=this;exact⟨v,by rw[k1],.inl k2⟩
 ·cases hx
theorem j5(o:bU Φ Ψ ir)(u:Up A h)(e:ER A aa env h):Rel A h (Rb A) (aF Φ ir env h) (if isVar ir=true then pl (f9 aa ir) else bu Ψ ir aa):=by
 by_cases hv:isVar ir=true
 ·rw[if_pos hv];cases ir<;>first|(cases hv;done)|exact Nv e
 ·rw[if_neg hv];exact uW (o aa env A h u e) λ_ _ _ _ q=>q.br
theorem Fy{α β:Type}{R:α -> Hs -> β -> Prop}{c:Bool}{o:Out β}{p:Pr α}(r:c=true->Rel A h R o p):Rel A h R o (pg c p):=by
 unfold pg;cases c with
 | true=>rw[if_pos rfl];exact r rfl
 | false=>rw[if_neg Bool.false_ne_true];trivial
theorem v_var{i:Nat}:bU Φ Ψ (.var i):=λaa env A h u e=>by
 rw[aF,bu];cases hv:aa[i]? with
 | none=>trivial
 | some o =>
  cases o with
  | none=>trivial
  | some fd =>
   obtain⟨f,d⟩:=fd;refine Fy λhf=>?_
   ·have:=e i f d hv;rw[if_neg (by simp[hf])] at this;obtain⟨v,k1,k2⟩:=this;rw[k1];exact⟨v,h,rfl,prefix_refl _,kG k2⟩
theorem yq{α:Type}{f:Hs->Option α}:ask f h=bnd (ask f) (λz=>ret z) h:=by unfold bnd ask bg;cases f h<;>rfl
theorem yr(f:iE d=true):Dn A h d d:=(gO d d f).mpr rfl
theorem Nx(f:iE d=true):bU Φ Ψ (.cst d):=λaa env A h u e=>by rw[aF,bu];exact ay (kG (yr f))
theorem Ny(f:iE d=true):bU Φ Ψ (.con x d):=λaa env A h u e=>by rw[aF,bu];exact ay (kG (yr f))
theorem Rf:bU Φ Ψ .no:=λaa env A h u e=>by rw[bu];trivial
theorem Nz(ha:bU Φ Ψ a)(hb:bU Φ Ψ b):bU Φ Ψ (.bin o a b):=λaa env A h u e=>by
 rw[aF,bu];exact ah (j5 ha u e) λx h1 v p1 q1=>ah (j5 hb (u.ext p1) (e.ext p1)) λy h2 w p2 q2=>Ft ((u.ext p1).ext p2) (p1.trans p2) (DB.ext p2 q1) q2
theorem NB(ha:bU Φ Ψ a):bU Φ Ψ (.neg a):=λaa env A h u e=>by
 rw[aF,bu];refine ah (ha aa env A h u e) λx h1 v p1 q1=>?_;obtain⟨f,d⟩:=x;have q:=q1.1;cases d<;>dsimp only<;>first|trivial|skip
 dsimp only at q;rw[Dn] at q;subst q;exact ay gP
theorem NC(ha:bU Φ Ψ a)(hb:bU Φ Ψ b):bU Φ Ψ (.cmp o a b):=λaa env A h u e=>by
 rw[aF,bu];exact ah (j5 ha u e) λx h1 v p1 q1=>ah (j5 hb (u.ext p1) (e.ext p1)) λy h2 w p2 q2 =>
  ah (R:=λt _ t'=>t'=t) (bQ λt et=>⟨t,Ks (DB.ext p2 q1) q2 et,rfl⟩) λt h3 t' p3 et=>by subst et;exact ay pI
theorem ND(ha:bU Φ Ψ a)(hb:bU Φ Ψ b)(hc:bU Φ Ψ c):bU Φ Ψ (.chn o o' a b c):=λaa env A h u e=>by rw[bu];trivial
theorem jw(q:Dn A h d v):Rel A h (λt _ t'=>t'=t) (o4 v h) (nh d):=by
 cases d<;>first|trivial|skip
 rw[Dn] at q;subst q;exact ay rfl
theorem v_and(ha:bU Φ Ψ a)(hb:bU Φ Ψ b):bU Φ Ψ (.and a b):=λaa env A h u e=>by
 rw[aF,bu];refine ah (ha aa env A h u e) λx h1 v p1 q1=>ah (jw q1.1) λt h2 t' p2 et=>?_;subst et;cases t' with
 | true =>rw[if_pos rfl,if_pos rfl];exact ah (hb aa env A h2 ((u.ext p1).ext p2) ((e.ext p1).ext p2)) λy h3 w p3 q3=>ah (jw q3.1) λt h2 t' p2 et=>by subst et;exact ay pI
 | false =>rw[if_neg Bool.false_ne_true,if_neg Bool.false_ne_true];exact ay pI
theorem v_or(ha:bU Φ Ψ a)(hb:bU Φ Ψ b):bU Φ Ψ (.or a b):=λaa env A h u e=>by
 rw[aF,bu];refine ah (ha aa env A h u e) λx h1 v p1 q1=>ah (jw q1.1) λt h2 t' p2 et=>?_;subst et;cases t' with
 | false =>rw[if_neg Bool.false_ne_true,if_neg Bool.false_ne_true];exact ah (hb aa env A h2 ((u.ext p1).ext p2) ((e.ext p1).ext p2)) λy h3 w p3 q3=>ah (jw q3.1) λt h2 t' p2 et=>by subst et;exact ay pI
 | true =>rw[if_pos rfl,if_pos rfl];exact ay pI
theorem v_not(ha:bU Φ Ψ a):bU Φ Ψ (.not a):=λaa env A h u e=>by
 rw[aF,bu];exact ah (ha aa env A h u e) λx h1 v p1 q1=>ah (jw q1.1) λt h2 t' p2 et=>by subst et;exact ay pI
theorem v_ite(hc:bU Φ Ψ c)(ha:bU Φ Ψ a)(hb:bU Φ Ψ b):bU Φ Ψ (.ite c a b):=λaa env A h u e=>by rw[bu];trivial
theorem GZ:j4 Φ Ψ .nil:=⟨λaa env A h u e=>by rw[aV,qz];exact ay ⟨ak.nil,λ_=>ak.nil⟩,λaa env A h u e=>by rw[aV,gb];exact ay rfl⟩
theorem B6(he:bU Φ Ψ e)(hs:j4 Φ Ψ es):j4 Φ Ψ (.cons e es):=by
 refine⟨λaa env A h u er=>?_,λaa env A h u er=>?_⟩
 ·rw[aV,qz]
  refine ah (he aa env A h u er) λx h1 v p1 q1=>ah (hs.1 aa env A h1 (u.ext p1) (er.ext p1)) λy h2 vs p2 q2=>?_;refine ay ⟨ak.cons (q1.1.ext p2) q2.1,λhf=>?_⟩;have hf':x.1=true/\y.1=true:=by simpa using hf
  exact ak.cons ((q1.2 hf'.1).ext p2) ((q2.2 hf'.2).gC (Fr.le p1.length_le))
 ·rw[aV,gb];refine ah (j5 he u er) λx h1 v p1 q1=>ah (hs.2 aa env A h1 (u.ext p1) (er.ext p1)) λy h2 vs p2 q2=>?_;exact ay ⟨v,vs,rfl,DB.ext p2 q1,q2⟩
theorem NG(hs:j4 Φ Ψ es):bU Φ Ψ (.tup es):=λaa env A h u e=>by
 rw[aF,bu];refine ah (hs.1 aa env A h u e) λx h1 vs p1 q1=>bF (λz=>by rw[<-q1.1.length];exact z) λ_=>ay ⟨?_,λhf=>?_⟩
 ·show Dn A h1 (.tup _) _;rw[Dn];exact⟨vs,rfl,q1.1⟩
 ·show Dn _ h1 (.tup _) _;rw[Dn];exact⟨vs,rfl,q1.2 hf⟩
theorem KD:bU Φ Ψ .dct0:=λaa env A h u e=>by
 rw[aF,bu];refine⟨_,_,rfl,dg _,?_,λhf=>?_⟩
 ·show Dn A _ (.dc [] []) _;rw[Dn];exact⟨_,[],rfl,u _ (le_refl _),ic _,rfl,ak.nil⟩
 ·show Dn _ _ (.dc [] []) _;rw[Dn];exact⟨_,[],rfl,le_refl _,ic _,rfl,ak.nil⟩
theorem KG(hk:bU Φ Ψ k)(hv:bU Φ Ψ v):bU Φ Ψ (.dct1 k v):=λaa env A h u e=>by
 rw[aF,bu];refine ah (hk aa env A h u e) λx h1 w p1 q1=>ah (R:=λkk _ kk'=>kk'=kk) (bw λkk ek=>⟨kk,wY q1.1 ek,rfl⟩) λkk h2 kk' p2 hkk=>?_;subst hkk;refine ah (hv aa env A h2 ((u.ext p1).ext p2) ((e.ext p1).ext p2)) λy h3 z p3 q3=>?_;have p:=(p1.trans p2).trans p3;refine⟨_,_,rfl,dg _,?_,λhf=>?_⟩
 ·show Dn A _ (.dc [kk'] [y.2]) _;rw[Dn];exact⟨_,[(kk',z)],rfl,u _ p.length_le,ic _,rfl,ak.cons (q3.1.ext (dg _)) ak.nil⟩
 ·show Dn _ _ (.dc [kk'] [y.2]) _;rw[Dn];exact⟨_,[(kk',z)],rfl,p.length_le,ic _,rfl,ak.cons (((q3.2 hf).gC (Fr.le (p1.trans p2).length_le)).ext (dg _)) ak.nil⟩
theorem KH(hd:bU Φ Ψ d)(hk:bU Φ Ψ k)(hx:bU Φ Ψ x):bU Φ Ψ (.dget d k x):=λaa env A h u e=>by
 rw[aF,bu];refine ah (j5 hd u e) λo h1 v p1 q1=>ah (R:=λ_ _ _=>True) (bQ λt et=>⟨t,Fo q1 et,trivial⟩) λ_ h2 _ p2 _=>?_;refine ah (hk aa env A h2 ((u.ext p1).ext p2) ((e.ext p1).ext p2)) λi h3 w p3 q3=>ah (R:=λkk _ kk'=>kk'=kk) (bw λkk ek=>⟨kk,wY q3.1 ek,rfl⟩) λkk h4 kk' p4 hkk=>?_;subst hkk;have Uv:=((p1.trans p2).trans p3).trans p4;refine ah (hx aa env A h4 (u.ext Uv) (e.ext Uv)) λz h5 z' p5 q5=>?_;refine ah (R:=λr h' r'=>∀a b,Dn A h5 a b->Dn A h' (r.getD a) (r'.getD b)) (bQ λr er=>?_) λr h6 r' p6 hr=>ay (kG (hr _ _ q5.1));obtain⟨r',e1,e2⟩:=Kv (DB.ext ((p2.trans p3).trans (p4.trans p5)) q1) er;exact⟨r',e1,e2⟩
theorem Fz(hd:bU Φ Ψ d):bU Φ Ψ (.lkeys d):=λaa env A h u e=>by
 rw[aF,bu];refine ah (j5 hd u e) λo h1 v p1 q1=>ah (R:=λks _ ks'=>ks'=ks) (bQ λks ek=>⟨ks,uV q1 ek,rfl⟩) λks h2 ks' p2 hk=>?_;subst hk;exact e8 ((u.ext p1).ext p2) (p1.trans p2) ((aW _ _ (ly ks')).mpr rfl) λ_=>(aW _ _ (ly ks')).mpr rfl
theorem FA(hd:bU Φ Ψ d):bU Φ Ψ (.skeys d):=λaa env A h u e=>by
 rw[aF,bu];refine ah (j5 hd u e) λo h1 v p1 q1=>ah (R:=λns _ ns'=>ns'=ns) (bQ λns en=>⟨ns,?_,rfl⟩) λns h2 ns' p2 hk=>?_
 ·unfold sN at en |-;obtain⟨ks,e1,e2⟩:=bind_eq_some_iff.mp en;rw[uV q1 e1];exact e2
 ·subst hk;exact e8 ((u.ext p1).ext p2) (p1.trans p2) ((aW _ _ (bE ns')).mpr rfl) λ_=>(aW _ _ (bE ns')).mpr rfl
theorem uY:∀{xs:List Val} {ns:List Int},aS xs=some ns->xs=ns.map .int
 | [],ns,e=>by cases e;rfl
 | x::xs,ns,e=>by
  unfold aS at e;rw[cj] at e;obtain⟨i,e1,e⟩:=bind_eq_some_iff.mp e;obtain⟨r,e2,e⟩:=bind_eq_some_iff.mp e;cases e;cases x<;>simp at e1;subst e1;rw[uY e2];rfl
theorem KI{p q:Nat}(hd:bU Φ Ψ d)(hw:bU Φ Ψ w):bU Φ Ψ (.dflt N' js p q d w):=λaa env A h u e=>by rw[bu];trivial
theorem NH(ha:bU Φ Ψ a):bU Φ Ψ (.isc a x bs):=λaa env A h u e=>by
 rw[aF,bu];refine ah (j5 ha u e) λo h1 v p1 q1=>ah (R:=λb _ b'=>b'=b) (bQ λb eb=>⟨b,KA q1 eb,rfl⟩) λb h2 b' p2 hb=>?_;subst hb;exact ay (kG (d:=.bl b') (by rw[Dn]))
theorem KJ(ha:bU Φ Ψ a):bU Φ Ψ (.sset a):=λaa env A h u e=>by
 rw[aF,bu];refine ah (j5 ha u e) λx h1 v p1 q1=>?_;obtain⟨f,d⟩:=x;cases d<;>first|trivial|skip
 rename_i xs;obtain⟨vs,e1,e2⟩:=DB.lst q1;have ea:∀(F:List Val->M Val),bnd (ask λh=>aB h v) F h1=F vs h1:=λF=>by unfold bnd ask bg;dsimp only;rw[e1]
 rw[ea];show Rel A h1 _ _ (pb (pl (aS xs)) _);refine ah (R:=λns h' ns'=>ns'=ns) (bw λns en=>⟨ns,?_,rfl⟩) λns h2 ns' p2 en=>?_
 ·have ei:=uY en;subst ei;rw[(aW _ _ (bE ns)).mp e2];exact en
 ·subst en;refine bF (λz=>z) λ_=>?_;have hi:∀ms:List Int,ak A h2 (ms.map Val.int) (ms.map Val.int):=λms=>(aW _ _ (bE ms)).mpr rfl;exact e8 ((u.ext p1).ext p2) (p1.trans p2) (hi _) λ_=>(aW _ _ (bE _)).mpr rfl
theorem NI(hs:j4 Φ Ψ es):bU Φ Ψ (.lst es):=λaa env A h u e=>by
 rw[aF,bu];exact ah (hs.1 aa env A h u e) λx h1 vs p1 q1=>bF (λz=>by rw[<-q1.1.length];exact z) λ_=>e8 (u.ext p1) p1 q1.1 q1.2
theorem NJ(ha:bU Φ Ψ a)(hb:bU Φ Ψ b):bU Φ Ψ (.idx a b):=λaa env A h u e=>by
 rw[aF,bu];refine ah (j5 ha u e) λx h1 v p1 q1=>ah (hb aa env A h1 (u.ext p1) (e.ext p1)) λy h2 w p2 q2=>?_;rw[yq];exact ah (R:=λz h' z'=>Dn A h' z z') (bQ λz ez=>Kw (DB.ext p2 q1) q2.1 ez) λz h3 z' p3 q3=>ay (kG q3)
theorem jx(o:bU Φ Ψ ir)(u:Up A h)(e:ER A aa env h) :
  Rel A h (λ(t:Option Int) _ t'=>t'=t) ((if cG ir=true then ret none else bnd (aF Φ ir env) λv=>bnd (bg (gX v)) λi=>ret (some i)) h) (if cG ir=true then .ok none else pb (bu Ψ ir aa) λv=>pb (pl (gX v.2)) λi=>.ok (some i)):=by
 by_cases hn:cG ir=true
 ·rw[if_pos hn,if_pos hn];exact ay rfl
 ·rw[if_neg hn,if_neg hn]
  refine ah (o aa env A h u e) λx h1 v p1 q1=>ah (R:=λt _ t'=>t'=t) (bw λi ei=>?_) λt h2 t' p2 et=>by subst et;exact ay rfl
  obtain⟨f,d⟩:=x;have q:=q1.1;cases d<;>first|(cases ei;done)|skip
  dsimp only at q;rw[Dn] at q;subst q;exact⟨i,ei,rfl⟩
theorem NK(ha:bU Φ Ψ a)(hl:bU Φ Ψ lo)(hh:bU Φ Ψ hi):bU Φ Ψ (.slc a lo hi):=λaa env A h u e=>by
 rw[aF,bu];refine ah (j5 ha u e) λx h1 v p1 q1=>ah (jx hl (u.ext p1) (e.ext p1)) λl h2 l' p2 el=>ah (jx hh ((u.ext p1).ext p2) ((e.ext p1).ext p2)) λr h3 r' p3 er=>?_;subst el;subst er;exact Fv (((u.ext p1).ext p2).ext p3) ((p1.trans p2).trans p3) (DB.ext (p2.trans p3) q1)
theorem NL(ha:bU Φ Ψ a)(hs:bU Φ Ψ sx):bU Φ Ψ (.rev a sx):=λaa env A h u e=>by
 rw[aF,bu];refine ah (j5 ha u e) λx h1 v p1 q1=>ah (jx hs (u.ext p1) (e.ext p1)) λl h2 l' p2 el=>?_;subst el;refine bF (λz=>z) λ_=>?_;obtain⟨f,d⟩:=x;cases d with
 | rl ds =>
  obtain⟨vs,e1,q⟩:=DB.lst (DB.ext p2 q1);have ev:bnd (ask λh=>aB h v) (λxs=>new (.lst xs.reverse)) h2=new (.lst vs.reverse) h2:=by unfold bnd ask bg;dsimp only;rw[e1]
  rw[ev];exact e8 ((u.ext p1).ext p2) (p1.trans p2) (ak.rev q) λhh=>fy (ak.rev q) hh
 | _=>trivial
theorem KL{j:Nat}(hΦ:∀j,Imp (Φ j) (Ψ j))(hs:j4 Φ Ψ es):bU Φ Ψ (.call j es):=λaa env A h u e=>by
 rw[aF,bu];exact ah (hs.1 aa env A h u e) λx h1 vs p1 q1=>B5 p1 (hΦ j A h1 x.2 vs (u.ext p1) q1.1)
theorem NN{n:Nat}(ha:bU Φ Ψ a):bU Φ Ψ (.fld n a x):=λaa env A h u e=>by
 rw[aF,bu];refine ah (j5 ha u e) λo h1 v p1 q1=>?_;rw[yq];exact ah (R:=λz h' z'=>Dn A h' z z') (bQ λz ez=>Ky q1 ez) λz h3 z' p3 q3=>ay (kG q3)
theorem NO(hΦ:∀j,Imp (Φ j) (Ψ j))(ha:bU Φ Ψ a)(hs:j4 Φ Ψ es):bU Φ Ψ (.mth a m js es):=λaa env A h u e=>by
 rw[aF,bu];refine ah (ha aa env A h u e) λo h1 v p1 q1=>ah (R:=λj _ j'=>j'=j) (bQ λj ej=>⟨j,Kz (.inl q1.1) ej,rfl⟩) λj h2 j' p2 hj=>?_;subst hj;exact ah (hs.1 aa env A h2 ((u.ext p1).ext p2) ((e.ext p1).ext p2)) λx h3 vs p3 q3=>B5 ((p1.trans p2).trans p3) (hΦ j' A h3 (o.2::x.2) (v::vs) (((u.ext p1).ext p2).ext p3) (ak.cons (q1.1.ext (p2.trans p3)) q3.1))
theorem NP(hs:j4 Φ Ψ es):bU Φ Ψ (.blt b es):=λaa env A h u e=>by
 rw[aF,bu];exact ah (hs.2 aa env A h u e) λx h1 vs p1 q1=>Fx (u.ext p1) p1 q1
theorem NQ(ha:bU Φ Ψ a)(hs:j4 Φ Ψ es):bU Φ Ψ (.met m a es):=λaa env A h u e=>by
 cases m with
 | join=>rw[bu];trivial
 | append=>rw[bu]<;>first|trivial|(intro z;cases z)
 | extend=>rw[bu]<;>first|trivial|(intro z;cases z)
noncomputable def SrcR(A:AP)(h:Hs)(xs:List Val)(src:Src):Prop:=∃ws,ak A h xs ws/\∀h',h<+:h'->src.items h'=some ws
theorem jR{lo:Int}{n:Nat}:ak A h (bX lo n) (bX lo n):=by
 unfold bX;generalize List.range n=l
 induction l with
 | nil=>exact ak.nil
 | cons a l ih=>exact ak.cons (by rw[Dn]) ih
theorem ie:∀{xs ws:List Val} (i:Nat),ak A h xs ws->ak A h (cI i xs) (cI i ws)
 | [],ws,i,q=>by rw[ak] at q;subst q;exact ak.nil
 | x::xs,ws,i,q=>by
  rw[ak] at q;obtain⟨w,r,rfl,a,b⟩:=q;exact ak.cons (by rw[Dn];exact⟨_,rfl,ak.cons (by rw[Dn]) (ak.cons a ak.nil)⟩) (ie (i+1) b)
theorem yt{ds vs:List Val}(a:DB A h (.rl ds) v):∃ws,ak A h ds ws/\((v=.rl ws)\/∃i,v=.ref i/\∀h',h<+:h'->aB h' (.ref i)=some ws):=by
 rcases a with a|⟨i,rfl,vs,g,q⟩
 ·rw[Dn] at a
  rcases a with ⟨vs,rfl,_,q⟩|⟨i,vs,rfl,_,g,q⟩
  ·exact⟨vs,q,.inl rfl⟩
  ·exact⟨vs,q,.inr ⟨i,rfl,λh' p=>by simp[aB,ck p g]⟩⟩
 ·exact⟨vs,q,.inr ⟨i,rfl,λh' p=>by simp[aB,ck p g]⟩⟩
theorem yu(a:Fp A h ds vs):Rel A h (λxs h' src=>SrcR A h' xs src) (bg (srcOf k vs) h) (pl (BY k ds)):=by
 refine bw λxs e=>?_;cases k with
 | seq =>
  match ds,e with
  | [.tup es],e =>cases e;obtain⟨v,rfl,hv⟩:=a.one;obtain⟨ws,rfl,q⟩:=hv.tup;exact⟨.fix ws,rfl,ws,q,λ_ _=>rfl⟩
  | [.rl es],e =>
   cases e;obtain⟨v,rfl,hv⟩:=a.one;obtain⟨ws,q,rfl|⟨i,rfl,g⟩⟩:=yt (vs:=[]) hv
   ·exact⟨.fix ws,rfl,ws,q,λ_ _=>rfl⟩
   ·exact⟨.live i,rfl,ws,q,λh' p=>g h' p⟩
 | range =>
  match ds,e with
  | [.int n],e =>
   obtain⟨v,rfl,hv⟩:=a.one;have:=hv.int;subst this;change (if inR n=true then some (bX 0 n.toNat) else none)=some _ at e;split at e
   ·rename_i hn;cases e;exact⟨.fix _,if_pos hn,_,jR,λ_ _=>rfl⟩
   ·cases e
  | [.int n,.int m],e =>
   obtain⟨v,r,rfl,hv,hr⟩:=a;obtain⟨w,rfl,hw⟩:=Fp.one hr;have:=hv.int;subst this;have:=hw.int;subst this;change (if (inR n&&inR m)=true then some (bX n (m-n).toNat) else none)=some _ at e;split at e
   ·rename_i hn;cases e;exact⟨.fix _,if_pos hn,_,jR,λ_ _=>rfl⟩
   ·cases e
 | enum =>
  match ds,e with
  | [.rl es],e =>
   cases e;obtain⟨v,rfl,hv⟩:=a.one;obtain⟨ws,q,rfl|⟨i,rfl,g⟩⟩:=yt (vs:=[]) hv
   ·exact⟨.fix _,rfl,_,ie 0 q,λ_ _=>rfl⟩
   ·exact⟨.enum i,rfl,_,ie 0 q,λh' p=>by simp[Src.items,g h' p]⟩
 | zip=>cases e
theorem yv:∀{is:List Nat} {ds vs:List Val} {aa aH:bz} {env:Env},cz is ds aa=some aH->ak A h ds vs->ER A aa env h->(∀i∈is,i<aa.length->i<env.length)->∃env',bindAll is vs env=some env'/\ER A aH env' h
 | [],[],vs,aa,aH,env,e,q,er,_=>by
  rw[ak] at q;subst q;simp only[cz] at e;cases e;exact⟨env,rfl,er⟩
 | i::is,d::ds,vs,aa,aH,env,e,q,er,hl=>by
  rw[ak] at q;obtain⟨v,r,rfl,q1,q2⟩:=q;simp only[cz] at e;have We:ER A (aa.set i (some (.sh,d))) (env.set i (some v)) h:=λj f d' hj=>by
   by_cases hij:i=j
   ·subst hij
    have hi:i<aa.length:=by have:=(List.getElem?_eq_some_iff.mp hj).1;simpa using this
    rw[getElem?_set_self hi] at hj;cases hj;rw[if_neg (by decide)];exact⟨v,by rw[getElem?_set_self (hl i mem_cons_self hi)],q1⟩
   ·rw[getElem?_set_ne hij] at hj;rw[getElem?_set_ne hij];exact er j f d' hj
  simp only[bindAll];exact yv e q2 We λj hj hl'=>by simpa using hl j (mem_cons_of_mem _ hj) (by simpa using hl')
 | [],_::_,_,_,_,_,e,_,_,_=>by simp[cz] at e
 | _::_,[],_,_,_,_,e,_,_,_=>by simp[cz] at e
theorem uZ(e:f7 p d aa=some aH)(q:Dn A h d v)(er:ER A aa env h)(hl:aa.length<=env.length):∃env',fG p v env=some env'/\ER A aH env' h:=by
 cases p with
 | one i =>
  simp only[f7] at e;cases e;refine⟨_,rfl,λj f d' hj=>?_⟩
  by_cases hij:i=j
  ·subst hij
   have hi:i<aa.length:=by have:=(List.getElem?_eq_some_iff.mp hj).1;simpa using this
   rw[getElem?_set_self hi] at hj;cases hj;rw[if_neg (by decide)];exact⟨v,by rw[getElem?_set_self (by omega)],q⟩
  ·rw[getElem?_set_ne hij] at hj;rw[getElem?_set_ne hij];exact er j f d' hj
 | tup is =>
  cases d<;>simp only[f7] at e<;>first|(cases e;done)|skip
  rw[Dn] at q;obtain⟨vs,rfl,q⟩:=q;exact yv e q er λi _ hi=>by omega
theorem yw(e:ER A aa env h):ER A (iT js aa) (jk js env) h:=λi f d q=>by
 unfold iT at q;rw[getElem?_map] at q;cases hj:js[i]? with
 | none=>rw[hj] at q;cases q
 | some o =>
  rw[hj] at q;simp only[map_some] at q;cases o with
  | none=>cases q
  | some j =>
   dsimp only at q;cases ej:aa[j]? with
   | none=>rw[ej] at q;cases q
   | some w =>
    cases w with
    | none=>rw[ej] at q;cases q
    | some fd =>
     rw[ej] at q;cases q;have:=e j f d ej;revert this;generalize rE f=t;intro this;cases t with
     | false =>rw[if_pos rfl] at this |-;obtain⟨a,k2,k3⟩:=this;refine⟨a,?_,k3⟩;unfold jk;rw[getElem?_map,hj];simp only[map_some];rw[k2]
     | true =>rw[if_neg (by decide)] at this |-;obtain⟨v,k1,k2⟩:=this;refine⟨v,?_,k2⟩;unfold jk;rw[getElem?_map,hj];simp only[map_some];rw[k1]
theorem pK :
  ∀(xs:List Val) (vs:List Val) (i:Nat) (acc:List Val) (h:Hs),hb<+:h->Up A h->(∀h',h<+:h'->src.items h'=some ws)->ws.drop i=vs->ak A h xs vs ->
   (∀x v h',h<+:h'->Dn A h' x v->Rel A h' (λo h'' o'=>match o,o' with|some e,some e'=>RV A hb e h'' e'|none,none=>True|_,_=>False) (f v h') (g x)) ->
   Rel A h (λp h' ys=>∃zs,ys=acc++zs/\ak A h' p.2 zs/\(p.1=true->ak (Fr hb.length) h' p.2 zs)) (fj src f vs.length i acc h) (iU g xs)
 | [],vs,i,acc,h,Uw,u,hi,hd,q,hf=>by
  rw[ak] at q;subst q;have hl:ws.length<=i:=List.drop_eq_nil_iff.mp hd;have ev:fj src f ([]:List Val).length i acc h=.ok acc h:=by show fj src f 0 i acc h=_;simp only[fj];unfold bnd ask bg aD;dsimp only;rw[hi h (prefix_refl _)];dsimp only;rw[if_pos (decide_eq_true hl)];rfl
  rw[ev,iU];exact⟨acc,h,rfl,prefix_refl _,[],by simp,ak.nil,λ_=>ak.nil⟩
 | x::xs,vs,i,acc,h,Uw,u,hi,hd,q,hf=>by
  rw[ak] at q;obtain⟨v,r,rfl,q1,q2⟩:=q;have hv:ws[i]?=some v:=by have:=congrArg (λl=>l[0]?) hd;simpa using this
  have hr:ws.drop (i+1)=r:=by
   have:ws.drop (i+1)=(ws.drop i).drop 1:=by rw[List.drop_drop]
   rw[this,hd];rfl
  have ev:fj src f (v::r).length i acc h=bnd (f v) (λo=>fj src f r.length (i+1) (match o with|some e=>acc++[e]|none=>acc)) h:=by show fj src f (r.length+1) i acc h=_;simp only[fj];unfold bnd ask bg;dsimp only;rw[hi h (prefix_refl _)];dsimp only;rw[hv];try rfl
  rw[ev,iU];refine ah (hf x v h (prefix_refl _) q1) λo h1 o' p1 ho=>?_;have ih:=λacc'=>pK xs r (i+1) acc' h1 (Uw.trans p1) (u.ext p1) (λh' p=>hi h' (p1.trans p)) hr (q2.ext p1) λx v h' p=>hf x v h' (p1.trans p);cases o' with
  | some e' =>
   cases o with
   | none=>exact ho.elim
   | some e =>
    have ih:=ih (acc++[e']);cases e2:iU g xs with
    | ok p =>
     rw[e2] at ih;obtain⟨ys,h2,e3,p2,zs,rfl,z1,z2⟩:=ih;refine⟨_,h2,e3,p2,e'::zs,by simp,ak.cons (ho.1.ext p2) z1,λhp=>?_⟩;have Ux:e.1=true/\p.1=true:=by simpa using hp
     exact ak.cons ((ho.2 Ux.1).ext p2) (z2 Ux.2)
    | exc c es=>rw[e2] at ih;exact ih
    | no=>trivial
  | none =>
   cases o with
   | some e'=>exact ho.elim
   | none =>
    have ih:=ih acc;cases e2:iU g xs with
    | ok p =>rw[e2] at ih;obtain⟨ys,h2,e3,p2,zs,rfl,z1,z2⟩:=ih;exact⟨_,h2,e3,p2,zs,rfl,z1,z2⟩
    | exc c es=>rw[e2] at ih;exact ih
    | no=>trivial
theorem KN(hs:j4 Φ Ψ it)(hc:bU Φ Ψ c)(he:bU Φ Ψ elt):bU Φ Ψ (.comp N js pat k it c elt):=λaa env A h u e=>by
 rw[aF,bu];refine ah (hs.2 aa env A h u e) λds h1 vs p1 q1=>ah (yu q1) λxs h2 src p2 q2=>?_;obtain⟨ws,q3,q4⟩:=q2;have l:=q3.length;have ev:∀(F:List Val->M Val),bnd (ask λh=>src.items h) F h2=F ws h2:=λF=>by unfold bnd ask bg;dsimp only;rw[q4 h2 (prefix_refl _)]
 rw[ev];refine bF (λz=>by rw[<-l];exact z) λ_=>?_;have u2:=(u.ext p1).ext p2;have e2:=(e.ext p1).ext p2;refine ah (pK (hb:=h) xs ws 0 [] h2 (p1.trans p2) u2 q4 rfl q3 λx v h' p' qx=>?_) λp h3 ys p3 hp=>?_
 ·refine ah (R:=λaH _ env'=>∃_:ER A aH env' h',True) (bw λaH ev'=>?_) λaH h4 env' p4 he'=>?_
  ·obtain⟨env',a1,a2⟩:=uZ ev' qx (yw (e2.ext p')) (by simp[iT,jk]);exact⟨env',a1,a2,trivial⟩
  ·obtain⟨er,_⟩:=he'
   have er:=er.ext p4;have u4:=(u2.ext p').ext p4;have Nf:Rel A h4 (λt _ t'=>t'=t) ((if cG c=true then ret true else bnd (aF Φ c env') λv=>ask λh=>cX h v) h4) (if cG c=true then .ok true else pb (bu Ψ c aH) λv=>pl (cX [] v.2)):=by
    by_cases hn:cG c=true
    ·rw[if_pos hn,if_pos hn];exact ay rfl
    ·rw[if_neg hn,if_neg hn];exact ah (hc aH env' A h4 u4 er) λy h5 w p5 q5=>bQ λt et=>⟨t,wX q5.br et,rfl⟩
   refine ah Nf λt h5 t' p5 et=>?_;subst et;cases t' with
   | true =>rw[if_pos rfl,if_pos rfl];exact ah (he aH env' A h5 (u4.ext p5) (er.ext p5)) λy h6 w p6 q6=>ay (q6.up ((p1.trans p2).trans (p'.trans (p4.trans p5))))
   | false =>rw[if_neg Bool.false_ne_true,if_neg Bool.false_ne_true];exact ay trivial
 ·obtain⟨zs,rfl,z1,z2⟩:=hp;exact e8 (u2.ext p3) ((p1.trans p2).trans p3) z1 z2
mutual
noncomputable def bB:IE->Bool
 | .cst d=>iE d
 | .con _ d=>iE d
 | .bin _ a b=>bB a&&bB b
 | .neg a=>bB a
 | .cmp _ a b=>bB a&&bB b
 | .chn _ _ a b c=>bB a&&bB b&&bB c
 | .and a b=>bB a&&bB b
 | .or a b=>bB a&&bB b
 | .not a=>bB a
 | .ite a b c=>bB a&&bB b&&bB c
 | .tup es=>ig es
 | .lst es=>ig es
 | .idx a b=>bB a&&bB b
 | .slc a b c=>bB a&&bB b&&bB c
 | .call _ es=>ig es
 | .blt _ es=>ig es
 | .met _ a es=>bB a&&ig es
 | .comp _ _ _ _ es a b=>ig es&&bB a&&bB b
 | .var _=>true
 | .no=>true
 | .dct0=>true
 | .sset a=>bB a
 | .dget a b c=>bB a&&bB b&&bB c
 | .dct1 a b=>bB a&&bB b
 | .lkeys a=>bB a
 | .sdef ..=>false
 | .svals _=>false
 | .skeys a=>bB a
 | .fld _ a _=>bB a
 | .mth a _ _ es=>bB a&&ig es
 | .rev a b=>bB a&&bB b
 | .dflt _ _ _ _ a b=>bB a&&bB b
 | .isc a _ _=>bB a
noncomputable def ig:m8->Bool
 | .nil=>true
 | .cons e es=>bB e&&ig es
end
theorem v_all(hΦ:∀j,Imp (Φ j) (Ψ j)):(∀ir,bB ir=true->bU Φ Ψ ir)/\∀dN,ig dN=true->j4 Φ Ψ dN:=by
 have one:∀ir,bB ir=true->bU Φ Ψ ir:=by
  intro ir;refine IE.rec (motive_1:=λir=>bB ir=true->bU Φ Ψ ir) (motive_2:=λdN=>ig dN=true->j4 Φ Ψ dN) ?_ ?_ ?_ ?_ ?_ ?_ ?_ ?_ ?_ ?_ ?_ ?_ ?_ ?_ ?_ ?_ ?_ ?_ ?_ ?_ ?_ ?_ ?_ ?_ ?_ ?_ ?_ ?_ ?_ ?_ ?_ ?_ ?_ ?_ ?_ ir
  ·exact λ_ _=>v_var
  ·exact λ_ f=>Nx (by rw[bB] at f;exact f)
  ·exact λ_ _ f=>Ny (by rw[bB] at f;exact f)
  ·exact λ_=>Rf
  ·intro _ _ _ a b f;rw[bB,and_eq_true] at f;exact Nz (a f.1) (b f.2)
  ·intro _ a f;rw[bB] at f;exact NB (a f)
  ·intro _ _ _ a b f;rw[bB,and_eq_true] at f;exact NC (a f.1) (b f.2)
  ·intro _ _ _ _ _ a b c f;rw[bB,and_eq_true,and_eq_true] at f;exact ND (a f.1.1) (b f.1.2) (c f.2)
  ·intro _ _ a b f;rw[bB,and_eq_true] at f;exact v_and (a f.1) (b f.2)
  ·intro _ _ a b f;rw[bB,and_eq_true] at f;exact v_or (a f.1) (b f.2)
  ·intro _ a f;rw[bB] at f;exact v_not (a f)
  ·intro _ _ _ a b c f;rw[bB,and_eq_true,and_eq_true] at f;exact v_ite (a f.1.1) (b f.1.2) (c f.2)
  ·intro _ a f;rw[bB] at f;exact NG (a f)
  ·intro _ a f;rw[bB] at f;exact NI (a f)
  ·intro _ _ a b f;rw[bB,and_eq_true] at f;exact NJ (a f.1) (b f.2)
  ·intro _ _ _ a b c f;rw[bB,and_eq_true,and_eq_true] at f;exact NK (a f.1.1) (b f.1.2) (c f.2)
  ·intro _ _ a f;rw[bB] at f;exact KL hΦ (a f)
  ·intro _ _ a f;rw[bB] at f;exact NP (a f)
  ·intro _ _ _ a b f;rw[bB,and_eq_true] at f;exact NQ (a f.1) (b f.2)
  ·intro _ _ _ _ _ _ _ a b c f;rw[bB,and_eq_true,and_eq_true] at f;exact KN (a f.1.1) (b f.1.2) (c f.2)
  ·exact λ_=>KD
  ·intro _ a f;rw[bB] at f;exact KJ (a f)
  ·intro _ _ _ a b c f;rw[bB,and_eq_true,and_eq_true] at f;exact KH (a f.1.1) (b f.1.2) (c f.2)
  ·intro _ _ a b f;rw[bB,and_eq_true] at f;exact KG (a f.1) (b f.2)
  ·intro _ a f;rw[bB] at f;exact Fz (a f)
  ·intro _ _ _ _ _ _ f;rw[bB] at f;cases f
  ·intro _ _ f;rw[bB] at f;cases f
  ·intro _ a f;rw[bB] at f;exact FA (a f)
  ·intro _ _ _ a f;rw[bB] at f;exact NN (a f)
  ·intro _ _ _ _ a b f;rw[bB,and_eq_true] at f;exact NO hΦ (a f.1) (b f.2)
  ·intro _ _ a b f;rw[bB,and_eq_true] at f;exact NL (a f.1) (b f.2)
  ·intro _ _ _ _ _ _ a b f;rw[bB,and_eq_true] at f;exact KI (a f.1) (b f.2)
  ·intro _ _ _ a f;rw[bB] at f;exact NH (a f)
  ·exact λ_=>GZ
  ·intro _ _ a b f;rw[ig,and_eq_true] at f;exact B6 (a f.1) (b f.2)
 refine⟨one,λdN=>?_⟩
 induction dN using m8.rec (motive_1:=λ_=>True) with
 | nil=>exact λ_=>GZ
 | cons e es _ ih=>exact λf=>by rw[ig,and_eq_true] at f;exact B6 (one e f.1) (ih f.2)
 | _=>trivial
end
end Hv
end
section
namespace Hv
open PySem L2
section
variable {A A':AP} {h h':Hs}
mutual
theorem Dn.move(hn:A none->A' none)(hh:∀(i:Nat) (o:Ob),A (some i)->h[i]?=some o->A' (some i)/\h'[i]?=some o):∀(d v:Val),Dn A h d v->Dn A' h' d v
 | .non,v,e=>by rw[Dn] at e |-;exact e
 | .bl _,v,e=>by rw[Dn] at e |-;exact e
 | .int _,v,e=>by rw[Dn] at e |-;exact e
 | .str _,v,e=>by rw[Dn] at e |-;exact e
 | .tup ds,v,e=>by
  rw[Dn] at e |-;obtain⟨vs,rfl,q⟩:=e;exact⟨vs,rfl,ak.move hn hh ds vs q⟩
 | .rl ds,v,e=>by
  rw[Dn] at e |-
  rcases e with ⟨vs,rfl,n,q⟩|⟨i,vs,rfl,a,g,q⟩
  ·exact .inl ⟨vs,rfl,hn n,ak.move hn hh ds vs q⟩
  ·exact .inr ⟨i,vs,rfl,(hh i _ a g).1,(hh i _ a g).2,ak.move hn hh ds vs q⟩
 | .dc ks ds,v,e=>by
  rw[Dn] at e |-;obtain⟨i,kvs,rfl,a,g,k,q⟩:=e;exact⟨i,kvs,rfl,(hh i _ a g).1,(hh i _ a g).2,k,ak.move hn hh ds _ q⟩
 | .ob c xs ds,v,e=>by
  rw[Dn] at e |-;obtain⟨i,kvs,rfl,a,g,k,q⟩:=e;exact⟨i,kvs,rfl,(hh i _ a g).1,(hh i _ a g).2,k,ak.move hn hh ds _ q⟩
 | .ref _,v,e=>by rw[Dn] at e;exact e.elim
theorem ak.move(hn:A none->A' none)(hh:∀(i:Nat) (o:Ob),A (some i)->h[i]?=some o->A' (some i)/\h'[i]?=some o):∀(ds vs:List Val),ak A h ds vs->ak A' h' ds vs
 | [],vs,e=>by rw[ak] at e |-;exact e
 | d::ds,vs,e=>by
  rw[ak] at e |-;obtain⟨v,r,rfl,q1,q2⟩:=e;exact⟨v,r,rfl,Dn.move hn hh d v q1,ak.move hn hh ds r q2⟩
end
end
noncomputable def Al(A0:AP)(O:Nat->Option Nat):AP:=λo=>A0 o/\∀i,o.isSome=true->O i≠o
structure SR (A0:AP) (h0:Hs) (aa:bz) (env:Env) (h:Hs) (O:Nat->Option Nat):Prop where
 len:aa.length=env.length
 sh:∀(i:Nat) (m:Mk) (d:Val),aa[i]?=some (some (m,d))->rE m=true->∃v,env[i]?=some (some v)/\Dn (Al A0 O) h d v/\(LN m=true->Dn (Al (Fr h0.length) O) h d v)
 ow:∀(i:Nat) (d:Val),aa[i]?=some (some (.ow,d))->∃a,env[i]?=some (some (.ref a))/\O i=some a/\OD (Al A0 O) h d a
 own:∀i a,O i=some a->h0.length<=a/\a<h.length/\∃d,aa[i]?=some (some (.ow,d))
 inj:∀i j a,O i=some a->O j=some a->i=j
 pre:h0<+:h
 up:Up A0 h0
structure Fm (m:List Nat) (aa:bz) (env:Env) (h:Hs) (O:Nat->Option Nat) (aH:bz) (env':Env) (h':Hs) (O':Nat->Option Nat):Prop where
 le:h.length<=h'.length
 keep:∀k,k<h.length->(∀i,O i≠some k)->h'[k]?=h[k]?/\∀i,O' i≠some k
 stay:∀i,i∉m->O' i=O i/\aH[i]?=aa[i]?/\env'[i]?=env[i]?/\∀a,O i=some a->h'[a]?=h[a]?
noncomputable def RF(A0:AP)(h0:Hs)(m:List Nat)(aa:bz)(env:Env)(h:Hs)(O:Nat->Option Nat):Fj->Hs->Fl->Prop
 | .nx aH,h',.nx env'=>∃O',SR A0 h0 aH env' h' O'/\Fm m aa env h O aH env' h' O'
 | .bk aH,h',.bk env'=>∃O',SR A0 h0 aH env' h' O'/\Fm m aa env h O aH env' h' O'
 | .ct aH,h',.ct env'=>∃O',SR A0 h0 aH env' h' O'/\Fm m aa env h O aH env' h' O'
 | .rt p,h',.rt v=>Dn A0 h' p.2 v/\(p.1=true->Dn (Fr h0.length) h' p.2 v)/\h0<+:h'
 | _,_,_=>False
noncomputable def gQ(A0:AP)(h0:Hs){α β:Type}(R:α -> Hs -> β -> Prop)(o:Out β):Pr α -> Prop
 | .ok f=>∃g h',o=.ok g h'/\R f h' g
 | .exc c es=>∃ws h',o=.exc c ws h'/\h0<+:h'/\ak A0 h' es ws
 | .no=>True
section
variable {A0:AP} {h0:Hs} {aa:bz} {env:Env} {h h1:Hs} {O:Nat->Option Nat} {m:List Nat}
theorem SR.er(s:SR A0 h0 aa env h O):ER (Al A0 O) aa env h:=λi f d e=>by
 cases f with
 | ow =>rw[if_pos (show rE .ow=false by decide)];obtain⟨a,k2,_,k3⟩:=s.ow i d e;exact⟨a,k2,k3⟩
 | sh=>rw[if_neg (by decide)];obtain⟨v,k1,k2,_⟩:=s.sh i _ d e rfl;exact⟨v,k1,k2⟩
 | nw=>rw[if_neg (by decide)];obtain⟨v,k1,k2,_⟩:=s.sh i _ d e rfl;exact⟨v,k1,k2⟩
theorem SR.Aa(s:SR A0 h0 aa env h O):Up (Al A0 O) h:=λk hk=>⟨s.up k (le_trans s.pre.length_le hk),λi _ e=>by have:=(s.own i k e).2.1;omega⟩
theorem SR.ext(s:SR A0 h0 aa env h O)(p:h<+:h1):SR A0 h0 aa env h1 O where
 len:=s.len
 sh i m d e hm:=by obtain⟨v,k1,k2,k3⟩:=s.sh i m d e hm;exact⟨v,k1,k2.ext p,λz=>(k3 z).ext p⟩
 ow i d e:=by obtain⟨a,k2,k3,k4⟩:=s.ow i d e;exact⟨a,k2,k3,k4.ext p⟩
 own i a e:=by obtain⟨k1,k2,k3⟩:=s.own i a e;exact⟨k1,lt_of_lt_of_le k2 p.length_le,k3⟩
 inj:=s.inj
 pre:=s.pre.trans p
 up:=s.up
theorem iu(p:h<+:h1){k:Nat}(hk:k<h.length):h1[k]?=h[k]?:=by
 obtain⟨t,rfl⟩:=p;rw[getElem?_append_left hk]
theorem Fm.refl(s:SR A0 h0 aa env h O)(p:h<+:h1):Fm m aa env h O aa env h1 O where
 le:=p.length_le
 keep k hk n:=⟨iu p hk,n⟩
 stay i _:=⟨rfl,rfl,rfl,λa e=>iu p (s.own i a e).2.1⟩
theorem Fm.trans{lA ni:bz}{fP kF:Env}{h2:Hs}{O1 O2:Nat->Option Nat}(a:Fm m aa env h O lA fP h1 O1)(b:Fm m lA fP h1 O1 ni kF h2 O2):Fm m aa env h O ni kF h2 O2 where
 le:=le_trans a.le b.le
 keep k hk n:=by obtain⟨a1,a2⟩:=a.keep k hk n;obtain⟨b1,b2⟩:=b.keep k (lt_of_lt_of_le hk a.le) a2;exact⟨b1.trans a1,b2⟩
 stay i hi:=by obtain⟨a1,a2,a3,a4⟩:=a.stay i hi;obtain⟨b1,b2,b3,b4⟩:=b.stay i hi;exact⟨b1.trans a1,b2.trans a2,b3.trans a3,λc e=>(b4 c (a1.trans e)).trans (a4 c e)⟩
theorem Fm.gC{m':List Nat}(hm:∀i∈m,i∈m')(a:Fm m aa env h O aH env' h1 O'):Fm m' aa env h O aH env' h1 O':=⟨a.le,a.keep,λi hi=>a.stay i λz=>hi (hm i z)⟩
theorem RF.pre(s:SR A0 h0 aa env h O)(p:h<+:h1)(r:RF A0 h0 m aa env h1 O f h' g):RF A0 h0 m aa env h O f h' g:=by
 cases f<;>cases g<;>first|exact r.elim|exact r|(obtain⟨O',a,b⟩:=r;exact⟨O',a,(Fm.refl s p).trans b⟩)
theorem RF.gC{m':List Nat}(hm:∀i∈m,i∈m')(r:RF A0 h0 m aa env h O f h' g):RF A0 h0 m' aa env h O f h' g:=by
 cases f<;>cases g<;>first|exact r.elim|exact r|(obtain⟨O',a,b⟩:=r;exact⟨O',a,b.gC hm⟩)
theorem RF.seq{lA:bz}{fP:Env}{O1:Nat->Option Nat}(a:Fm m aa env h O lA fP h1 O1)(r:RF A0 h0 m lA fP h1 O1 f h' g):RF A0 h0 m aa env h O f h' g:=by
 cases f<;>cases g<;>first|exact r.elim|exact r|(obtain⟨O',b,c⟩:=r;exact⟨O',b,a.trans c⟩)
theorem bJ{α β γ δ:Type}{R:α -> Hs -> β -> Prop}{R':γ -> Hs -> δ -> Prop}{mm:M β}{f:β -> M δ}{p:Pr α}{F:α -> Pr γ}(s:SR A0 h0 aa env h O)(r:Rel (Al A0 O) h R (mm h) p)(k:∀a h1 b,h<+:h1->R a h1 b->gQ A0 h0 R' (f b h1) (F a)):gQ A0 h0 R' (bnd mm f h) (pb p F):=by
 unfold bnd;cases p with
 | ok a=>obtain⟨b,h1,e,q,r⟩:=r;rw[e];exact k a h1 b q r
 | exc c es=>obtain⟨ws,h1,e,q,r⟩:=r;rw[e];exact⟨ws,h1,rfl,s.pre.trans q,r.gC λ_ z=>z.1⟩
 | no=>trivial
theorem bf{α β:Type}{R:α -> Hs -> β -> Prop}{a:α}{b:β}(r:R a h b):gQ A0 h0 R (ret b h) (.ok a):=⟨b,h,rfl,r⟩
theorem iw{α β:Type}{R R':α -> Hs -> β -> Prop}{o:Out β}{p:Pr α}(r:gQ A0 h0 R o p)(k:∀a h' b,R a h' b->R' a h' b):gQ A0 h0 R' o p:=by
 cases p with
 | ok a=>obtain⟨b,h',e,r⟩:=r;exact⟨b,h',e,k a h' b r⟩
 | exc c es=>exact r
 | no=>trivial
theorem pL{α β γ δ:Type}{R:α -> Hs -> β -> Prop}{R':γ -> Hs -> δ -> Prop}{mm:M β}{f:β -> M δ}{p:Pr α}{F:α -> Pr γ}(r:gQ A0 h0 R (mm h) p)(k:∀a h1 b,R a h1 b->gQ A0 h0 R' (f b h1) (F a)):gQ A0 h0 R' (bnd mm f h) (pb p F):=by
 unfold bnd;cases p with
 | ok a=>obtain⟨b,h1,e,r⟩:=r;rw[e];exact k a h1 b r
 | exc c es=>obtain⟨ws,h1,e,q,r⟩:=r;rw[e];exact⟨ws,h1,rfl,q,r⟩
 | no=>trivial
theorem jS{α β:Type}{R:α -> Hs -> β -> Prop}{c:Bool}{o:Out β}{p:Pr α}(r:c=true->gQ A0 h0 R o p):gQ A0 h0 R o (pg c p):=by
 unfold pg;cases c with
 | true=>rw[if_pos rfl];exact r rfl
 | false=>rw[if_neg Bool.false_ne_true];trivial
noncomputable def fK(O:Nat->Option Nat)(i:Nat):Nat->Option Nat:=λj=>if j=i then none else O j
theorem nU:Al A0 O none->Al A0 O none:=id
theorem jy:Al A0 O none->Al A0 O' none:=λh=>⟨h.1,λ_ z=>by cases z⟩
theorem iK{i:Nat}:∀k,Al A0 O k->Al A0 (fK O i) k:=λk ⟨a,b⟩=>⟨a,λj z=>by unfold fK;split;(cases k<;>simp_all);exact b j z⟩
theorem SR.setM(s:SR A0 h0 aa env h O){i:Nat}{mk:Mk}{d v:Val}(Wf:rE mk=true)(q:Dn (Al A0 O) h d v)(qn:LN mk=true->Dn (Al (Fr h0.length) O) h d v):SR A0 h0 (aa.set i (some (mk,d))) (env.set i (some v)) h (fK O i)/\Fm [i] aa env h O (aa.set i (some (mk,d))) (env.set i (some v)) h (fK O i):=by
 refine⟨⟨by simp[s.len],λj m' d' e hm'=>?_,λj d' e=>?_,λj a e=>?_,λj l a e1 e2=>?_,s.pre,s.up⟩,le_refl _,λk hk n=>⟨rfl,λj=>?_⟩,λj hj=>?_⟩
 ·by_cases hij:i=j
  ·subst hij
   have hi:i<aa.length:=by have:=(List.getElem?_eq_some_iff.mp e).1;simpa using this
   rw[getElem?_set_self hi] at e;cases e;exact⟨v,by rw[getElem?_set_self (by rw[<-s.len];exact hi)],q.gC iK,λz=>(qn z).gC iK⟩
  ·rw[getElem?_set_ne hij] at e;rw[getElem?_set_ne hij];obtain⟨w,k1,k2,k3⟩:=s.sh j m' d' e hm';exact⟨w,k1,k2.gC iK,λz=>(k3 z).gC iK⟩
 ·by_cases hij:i=j
  ·subst hij
   have hi:i<aa.length:=by have:=(List.getElem?_eq_some_iff.mp e).1;simpa using this
   rw[getElem?_set_self hi] at e;cases e;cases Wf
  ·rw[getElem?_set_ne hij] at e;rw[getElem?_set_ne hij];obtain⟨a,k2,k3,k4⟩:=s.ow j d' e;exact⟨a,k2,by unfold fK;rw[if_neg (λz=>hij z.symm)];exact k3,k4.mono (λ_ g=>g) λ_ _ z=>z.gC iK⟩
 ·unfold fK at e
  split at e
  ·cases e
  ·rename_i hj;obtain⟨k1,k2,d',k3⟩:=s.own j a e;exact⟨k1,k2,d',by rw[getElem?_set_ne (λz=>hj z.symm)];exact k3⟩
 ·unfold fK at e1 e2
  split at e1
  ·cases e1
  ·split at e2
   ·cases e2
   ·exact s.inj j l a e1 e2
 ·unfold fK;split;simp;exact n j
 ·have hj':j≠i:=by simpa using hj
  exact⟨by unfold fK;rw[if_neg hj'],getElem?_set_ne (λz=>hj' z.symm),getElem?_set_ne (λz=>hj' z.symm),λ_ _=>rfl⟩
theorem SR.set(s:SR A0 h0 aa env h O){i:Nat}(q:Dn (Al A0 O) h d v):SR A0 h0 (aa.set i (some (.sh,d))) (env.set i (some v)) h (fK O i)/\Fm [i] aa env h O (aa.set i (some (.sh,d))) (env.set i (some v)) h (fK O i):=s.setM rfl q λz=>nomatch z
theorem SR.binds:∀{is:List Nat} {ds vs:List Val} {aa:bz} {env:Env} {O:Nat->Option Nat} {aH:bz},SR A0 h0 aa env h O->cz is ds aa=some aH->ak (Al A0 O) h ds vs ->
  ∃env' O',bindAll is vs env=some env'/\SR A0 h0 aH env' h O'/\Fm is aa env h O aH env' h O'
 | [],[],vs,aa,env,O,aH,s,e,q=>by
  rw[ak] at q;subst q;simp only[cz] at e;cases e;exact⟨env,O,rfl,s,Fm.refl s (prefix_refl _)⟩
 | i::is,d::ds,vs,aa,env,O,aH,s,e,q=>by
  rw[ak] at q;obtain⟨v,r,rfl,q1,q2⟩:=q;simp only[cz] at e;obtain⟨s1,f1⟩:=s.set (i:=i) q1;obtain⟨env',O',b1,b2,b3⟩:=SR.binds s1 e (q2.gC iK);refine⟨env',O',by simp only[bindAll];exact b1,b2,(f1.gC λj hj=>?_).trans (b3.gC λj hj=>mem_cons_of_mem _ hj)⟩;rw[mem_singleton.mp hj];exact mem_cons_self
 | [],_::_,_,_,_,_,_,_,e,_=>by simp[cz] at e
 | _::_,[],_,_,_,_,_,_,e,_=>by simp[cz] at e
theorem SR.bind(s:SR A0 h0 aa env h O)(e:f7 p d aa=some aH)(q:Dn (Al A0 O) h d v):∃env' O',fG p v env=some env'/\SR A0 h0 aH env' h O'/\Fm (stored p) aa env h O aH env' h O':=by
 cases p with
 | one i =>simp only[f7] at e;cases e;obtain⟨s1,f1⟩:=s.set (i:=i) q;exact⟨_,_,rfl,s1,f1⟩
 | tup is =>
  cases d<;>simp only[f7] at e<;>first|(cases e;done)|skip
  rw[Dn] at q;obtain⟨vs,rfl,q⟩:=q;exact s.binds e q
theorem FD{a:Nat}(p:h0<+:h)(ha:h0.length<=a):h0<+:h.set a o:=by
 obtain⟨t,rfl⟩:=p;rw[List.set_append_right _ _ ha];exact prefix_append _ _
theorem SR.put(s:SR A0 h0 aa env h O){i a:Nat}{d d1:Val}(e:aa[i]?=some (some (.ow,d)))(ha:O i=some a)(q:OB (Al A0 O) h d1 ob) :
  SR A0 h0 (aa.set i (some (.ow,d1))) env (h.set a ob) O/\Fm [i] aa env h O (aa.set i (some (.ow,d1))) env (h.set a ob) O:=by
 obtain⟨o1,o2,_⟩:=s.own i a ha;have hi:i<aa.length:=(List.getElem?_eq_some_iff.mp e).1;have mv:∀{A0:AP} (k:Nat) (o:Ob),Al A0 O k->h[k]?=some o->Al A0 O k/\(h.set a ob)[k]?=some o:=λk o hk g=>⟨hk,by rw[getElem?_set_ne λz=>hk.2 i rfl (by rw[<-z];exact ha)];exact g⟩;obtain⟨a0,e2,e3,_⟩:=s.ow i d e;refine⟨⟨by simp[s.len],λj m' d' ej hm'=>?_,λj d' ej=>?_,λj b ej=>?_,s.inj,FD s.pre o1,s.up⟩,by simp,λk hk n=>⟨?_,n⟩,λj hj=>?_⟩
 ·by_cases hij:i=j
  ·subst hij;rw[getElem?_set_self hi] at ej;cases ej;cases hm'
  ·rw[getElem?_set_ne hij] at ej;obtain⟨w,k1,k2,k3⟩:=s.sh j m' d' ej hm';exact⟨w,k1,Dn.move nU mv _ _ k2,λz=>Dn.move nU mv _ _ (k3 z)⟩
 ·by_cases hij:i=j
  ·subst hij;rw[getElem?_set_self hi] at ej;cases ej;rw[ha] at e3;cases e3;exact⟨a,e2,ha,q.od (by rw[getElem?_set_self o2]) λ_ _ z=>ak.move nU mv _ _ z⟩
  ·rw[getElem?_set_ne hij] at ej;obtain⟨a1,k2,k3,k4⟩:=s.ow j d' ej;have:a≠a1:=λz=>hij (s.inj i j a ha (by rw[z];exact k3));exact⟨a1,k2,k3,k4.mono (λ_ g=>by rw[getElem?_set_ne this];exact g) λ_ _ z=>ak.move nU mv _ _ z⟩
 ·obtain⟨k1,k2,d',k3⟩:=s.own j b ej
  refine⟨k1,by simp[k2],?_⟩
  by_cases hij:i=j
  ·subst hij;exact⟨_,by rw[getElem?_set_self hi]⟩
  ·exact⟨d',by rw[getElem?_set_ne hij];exact k3⟩
 ·rw[getElem?_set_ne λz=>n i (by rw[<-z];exact ha)]
 ·have hj':j≠i:=by simpa using hj
  exact⟨rfl,getElem?_set_ne (λz=>hj' z.symm),rfl,λb eb=>by rw[getElem?_set_ne λz=>hj' (s.inj j i b eb (by rw[<-z];exact ha))]⟩
noncomputable def qA(O:Nat->Option Nat)(i a:Nat):Nat->Option Nat:=λj=>if j=i then some a else O j
theorem SR.fresh(s:SR A0 h0 aa env h O){i:Nat}{d1:Val}{h2:Hs}(p:h<+:h2)(q:OB (Al A0 O) h2 d1 ob) :
  SR A0 h0 (aa.set i (some (.ow,d1))) (env.set i (some (.ref h2.length))) (h2++[ob]) (if i<aa.length then qA O i h2.length else fK O i) /\
   Fm [i] aa env h O (aa.set i (some (.ow,d1))) (env.set i (some (.ref h2.length))) (h2++[ob]) (if i<aa.length then qA O i h2.length else fK O i):=by
 have pp:h<+:h2++[ob]:=p.trans (prefix_append _ _);have s2:=s.ext p;have mv:∀{A0:AP} (j:Nat),∀(k:Nat) (o:Ob),Al A0 O k->h2[k]?=some o->Al A0 (if i<aa.length then qA O i h2.length else fK O i) k/\(h2++[ob])[k]?=some o:=λ{A0} j k o hk g=>by
  have hlt:k<h2.length:=(List.getElem?_eq_some_iff.mp g).1;refine⟨?_,by rw[getElem?_append_left hlt];exact g⟩
  split
  ·refine⟨hk.1,λl _=>?_⟩
   unfold qA
   split
   ·intro z;cases z;omega
   ·exact hk.2 l rfl
  ·exact iK k hk
 by_cases hi:i<aa.length
 ·rw[if_pos hi] at mv |-
  refine⟨⟨by simp[s.len],λj m' d' ej hm'=>?_,λj d' ej=>?_,λj b ej=>?_,λj l b e1 e2=>?_,s.pre.trans pp,s.up⟩,pp.length_le,λk hk n=>⟨iu pp hk,λl=>?_⟩,λj hj=>?_⟩
  ·by_cases hij:i=j
   ·subst hij;rw[getElem?_set_self hi] at ej;cases ej;cases hm'
   ·rw[getElem?_set_ne hij] at ej;rw[getElem?_set_ne hij];obtain⟨w,k1,k2,k3⟩:=s2.sh j m' d' ej hm';exact⟨w,k1,Dn.move jy (mv 0) _ _ k2,λz=>Dn.move jy (mv 0) _ _ (k3 z)⟩
  ·by_cases hij:i=j
   ·subst hij;rw[getElem?_set_self hi] at ej;cases ej;exact⟨h2.length,by rw[getElem?_set_self (by rw[<-s.len];exact hi)],by unfold qA;rw[if_pos rfl],q.od (by simp) λ_ _ z=>ak.move jy (mv 0) _ _ z⟩
   ·rw[getElem?_set_ne hij] at ej;rw[getElem?_set_ne hij];obtain⟨a1,k2,k3,k4⟩:=s2.ow j d' ej;have hlt:a1<h2.length:=k4.lt;exact⟨a1,k2,by unfold qA;rw[if_neg λz=>hij z.symm];exact k3,k4.mono (λ_ g=>by rw[getElem?_append_left hlt];exact g) λ_ _ z=>ak.move jy (mv 0) _ _ z⟩
  ·unfold qA at ej
   split at ej
   ·rename_i hj;cases ej;subst hj;exact⟨le_trans s.pre.length_le p.length_le,by simp,_,by rw[getElem?_set_self hi]⟩
   ·rename_i hj;obtain⟨k1,k2,d',k3⟩:=s2.own j b ej;exact⟨k1,by simp;omega,d',by rw[getElem?_set_ne λz=>hj z.symm];exact k3⟩
  ·unfold qA at e1 e2
   split at e1
   ·rename_i h1;cases e1
    split at e2
    ·rename_i h3;rw[h1,h3]
    ·have:=(s2.own l _ e2).2.1;omega
   ·split at e2
    ·cases e2;have:=(s2.own j _ e1).2.1;omega
    ·exact s.inj j l b e1 e2
  ·unfold qA;split
   ·intro z;cases z;have:=p.length_le;omega
   ·exact n l
  ·have hj':j≠i:=by simpa using hj
   exact⟨by unfold qA;rw[if_neg hj'],getElem?_set_ne (λz=>hj' z.symm),getElem?_set_ne (λz=>hj' z.symm),λb eb=>iu pp (s.own j b eb).2.1⟩
 ·rw[if_neg hi] at mv |-
  have e1:aa.set i (some (.ow,d1))=aa:=List.set_eq_of_length_le (by omega);have e2:env.set i (some (.ref h2.length))=env:=List.set_eq_of_length_le (by rw[<-s.len];omega);have e3:fK O i=O:=by
   funext j;unfold fK;split
   ·rename_i hj;subst hj
    cases e:O j with
    | none=>rfl
    | some a=>obtain⟨_,_,d,k⟩:=s.own j a e;exact absurd (List.getElem?_eq_some_iff.mp k).1 hi
   ·rfl
  rw[e1,e2,e3];exact⟨s.ext pp,Fm.refl s pp⟩
end
end Hv
end
section
namespace Hv
open PySem L2
section
variable {Φ:Nat->List Val->M Val} {Ψ:Nat->List Val->Pr FV} {A:AP} {h h1:Hs}
noncomputable def isRef:Val->Bool
 | .rl _=>true
 | .dc _ _=>true
 | _=>false
noncomputable def RN(A:AP)(h:Hs):FV->Hs->Val->Prop:=λx h' v=>isRef x.2=true->∃h2 o,h'=h2++[o]/\v=.ref h2.length/\h<+:h2/\OB A h2 x.2 o
noncomputable def Hf(Φ:Nat->List Val->M Val)(Ψ:Nat->List Val->Pr FV)(ir:IE):Prop:=∀(aa:bz) (env:Env) (A:AP) (h:Hs),Up A h->ER A aa env h->Rel A h (RN A h) (aF Φ ir env h) (bu Ψ ir aa)
theorem jz{f:Bool}{h0:Hs}(p:h0<+:h)(q:ak A h xs vs):Rel A h (RN A h0) (new (.lst vs) h) (.ok (f,.rl xs)) :=
 ⟨_,_,rfl,dg _,λ_=>⟨h,.lst vs,rfl,rfl,p,vs,rfl,q⟩⟩
theorem KO:Hf Φ Ψ .dct0:=λaa env A h u e=>by
 rw[aF,bu];exact⟨_,_,rfl,dg _,λ_=>⟨h,.dct [],rfl,rfl,prefix_refl _,[],rfl,rfl,ak.nil⟩⟩
theorem KP(hk:bU Φ Ψ k)(hv:bU Φ Ψ v):Hf Φ Ψ (.dct1 k v):=λaa env A h u e=>by
 rw[aF,bu];refine ah (hk aa env A h u e) λx h1 w p1 q1=>ah (R:=λkk _ kk'=>kk'=kk) (bw λkk ek=>⟨kk,wY q1.1 ek,rfl⟩) λkk h2 kk' p2 hkk=>?_;subst hkk;refine ah (hv aa env A h2 ((u.ext p1).ext p2) ((e.ext p1).ext p2)) λy h3 z p3 q3=>?_;exact⟨_,_,rfl,dg _,λ_=>⟨h3,.dct [(kk',z)],rfl,rfl,(p1.trans p2).trans p3,[(kk',z)],rfl,rfl,ak.cons q3.1 ak.nil⟩⟩
theorem NR(hs:j4 Φ Ψ es):Hf Φ Ψ (.lst es):=λaa env A h u e=>by
 rw[aF,bu];exact ah (hs.1 aa env A h u e) λx h1 vs p1 q1=>bF (λz=>by rw[<-q1.1.length];exact z) λ_=>jz p1 q1.1
theorem NS(ha:bU Φ Ψ a)(hl:bU Φ Ψ lo)(hh:bU Φ Ψ hi):Hf Φ Ψ (.slc a lo hi):=λaa env A h u e=>by
 rw[aF,bu];refine ah (j5 ha u e) λx h1 v p1 q1=>ah (jx hl (u.ext p1) (e.ext p1)) λl h2 l' p2 el=>ah (jx hh ((u.ext p1).ext p2) ((e.ext p1).ext p2)) λr h3 r' p3 er=>?_;subst el;subst er;have q1:=DB.ext (p2.trans p3) q1;obtain⟨f,d⟩:=x;cases d with
 | tup ds =>obtain⟨vs,rfl,q⟩:=DB.tup q1;have l:=q.length;simp only[z9,qy];exact bF (λz=>by rw[l] at z;exact z) λ_=>ay λe=>by cases e
 | rl ds =>
  obtain⟨vs,e1,q⟩:=DB.lst q1;have ev:qy v l' r' h3=new (.lst (cY vs l' r')) h3:=by
   have:qy v l' r'=bnd (ask λh=>aB h v) λxs=>new (.lst (cY xs l' r')):=by cases v<;>simp only[aB] at e1<;>first|(cases e1;done)|rfl
   rw[this];unfold bnd ask bg;dsimp only;rw[e1]
  rw[ev];exact jz ((p1.trans p2).trans p3) (q.cut l' r')
 | _=>trivial
theorem KQ(hs:j4 Φ Ψ es):Hf Φ Ψ (.blt .list es):=λaa env A h u e=>by
 rw[aF,bu];refine ah (hs.2 aa env A h u e) λds h1 vs p1 q1=>?_
 match ds,q1 with
 | [],q1=>trivial
 | [d],q1 =>obtain⟨v,rfl,hv⟩:=q1.one;exact ah (R:=λxs h' ws=>ak A h' xs ws) (bQ λxs e=>hv.seq e) λxs h2 ws p2 q=>jz (p1.trans p2) q
 | _::_::_,_=>trivial
theorem B7(hs:j4 Φ Ψ es):Hf Φ Ψ (.blt .sorted es):=λaa env A h u e=>by
 rw[aF,bu];refine ah (hs.2 aa env A h u e) λds h1 vs p1 q1=>?_
 match ds,q1 with
 | [],q1=>trivial
 | [d],q1 =>
  obtain⟨v,rfl,hv⟩:=q1.one;cases d<;>first|trivial|skip
  rename_i xs;obtain⟨ws,e1,q⟩:=hv.lst;have ev:bnd (ask λh=>aB h v) (λxs=>bnd (bg (eu xs)) λys=>new (.lst ys)) h1=bnd (bg (eu ws)) (λys=>new (.lst ys)) h1:=by unfold bnd ask bg;dsimp only;rw[e1]
  show Rel A h1 (RN A h) (bnd (ask λh=>aB h v) (λxs=>bnd (bg (eu xs)) λys=>new (.lst ys)) h1) _;rw[ev];refine ah (R:=λys _ zs=>zs=ys/\bI ys=true) (bw λys e=>?_) λys h2 zs p2 hz=>?_
  ·obtain⟨i1,i2⟩:=rF e;rw[(aW xs ws i1).mp q];exact⟨ys,e,rfl,i2⟩
  ·obtain⟨rfl,hi⟩:=hz;exact jz (p1.trans p2) ((aW _ _ hi).mpr rfl)
 | x::_::_,_=>cases x<;>trivial
theorem KR(hs:j4 Φ Ψ it)(hc:bU Φ Ψ c)(he:bU Φ Ψ elt):Hf Φ Ψ (.comp N js pat k it c elt):=λaa env A h u e=>by
 rw[aF,bu];refine ah (hs.2 aa env A h u e) λds h1 vs p1 q1=>ah (yu q1) λxs h2 src p2 q2=>?_;obtain⟨ws,q3,q4⟩:=q2;have l:=q3.length;have ev:∀(F:List Val->M Val),bnd (ask λh=>src.items h) F h2=F ws h2:=λF=>by unfold bnd ask bg;dsimp only;rw[q4 h2 (prefix_refl _)]
 rw[ev];refine bF (λz=>by rw[<-l];exact z) λ_=>?_;have u2:=(u.ext p1).ext p2;have e2:=(e.ext p1).ext p2;refine ah (pK (hb:=h) xs ws 0 [] h2 (p1.trans p2) u2 q4 rfl q3 λx v h' p' qx=>?_) λp h3 ys p3 hp=>?_
 ·refine ah (R:=λaH _ env'=>∃_:ER A aH env' h',True) (bw λaH ev'=>?_) λaH h4 env' p4 he'=>?_
  ·obtain⟨env',a1,a2⟩:=uZ ev' qx (yw (e2.ext p')) (by simp[iT,jk]);exact⟨env',a1,a2,trivial⟩
  ·obtain⟨er,_⟩:=he'
   have er:=er.ext p4;have u4:=(u2.ext p').ext p4;have Nf:Rel A h4 (λt _ t'=>t'=t) ((if cG c=true then ret true else bnd (aF Φ c env') λv=>ask λh=>cX h v) h4) (if cG c=true then .ok true else pb (bu Ψ c aH) λv=>pl (cX [] v.2)):=by
    by_cases hn:cG c=true
    ·rw[if_pos hn,if_pos hn];exact ay rfl
    ·rw[if_neg hn,if_neg hn];exact ah (hc aH env' A h4 u4 er) λy h5 w p5 q5=>bQ λt et=>⟨t,wX q5.br et,rfl⟩
   refine ah Nf λt h5 t' p5 et=>?_;subst et;cases t' with
   | true =>rw[if_pos rfl,if_pos rfl];exact ah (he aH env' A h5 (u4.ext p5) (er.ext p5)) λy h6 w p6 q6=>ay (q6.up ((p1.trans p2).trans (p'.trans (p4.trans p5))))
   | false =>rw[if_neg Bool.false_ne_true,if_neg Bool.false_ne_true];exact ay trivial
 ·obtain⟨zs,rfl,z1,z2⟩:=hp;exact jz ((p1.trans p2).trans p3) z1
theorem NT(hΦ:∀j,Imp (Φ j) (Ψ j))(hf:Pp e=true)(ho:bB e=true):Hf Φ Ψ e:=by
 have V:=v_all hΦ;cases e<;>first|(cases hf;done)|skip
 ·rw[bB] at ho;exact NR (V.2 _ ho)
 ·rw[bB,and_eq_true,and_eq_true] at ho;exact NS (V.1 _ ho.1.1) (V.1 _ ho.1.2) (V.1 _ ho.2)
 ·rename_i b es
  rw[bB] at ho;cases b<;>first|(cases hf;done)|skip
  ·exact B7 (V.2 _ ho)
  ·exact KQ (V.2 _ ho)
 ·rw[bB,and_eq_true,and_eq_true] at ho;exact KR (V.2 _ ho.1.1) (V.1 _ ho.1.2) (V.1 _ ho.2)
 ·exact KO
 ·rw[bB,and_eq_true] at ho;exact KP (V.1 _ ho.1) (V.1 _ ho.2)
mutual
noncomputable def DK:IS->Bool
 | .expr e=>bB e
 | .asg _ e=>bB e
 | .aug _ _ e=>bB e
 | .gu o i v=>bB o&&bB i&&bB v
 | .iff c a b=>bB c&&sX a&&sX b
 | .for _ _ it b=>ig it&&sX b
 | .whl _ c b=>bB c&&sX b
 | .ret e=>bB e
 | _=>true
noncomputable def sX:fM->Bool
 | .nil=>true
 | .cons s r=>DK s&&sX r
end
noncomputable def mS(s:IS):List Nat:=pH s++mH s
noncomputable def FE(s:fM):List Nat:=fJ s++jv s
variable {ms:List Nat}
noncomputable def yx(Φ:Nat->List Val->M Val)(Ψ:Nat->List Val->Pr FV)(ms:List Nat)(s:IS):Prop:=∀(A0:AP) (h0:Hs) (aa:bz) (env:Env) (h:Hs) (O:Nat->Option Nat),SR A0 h0 aa env h O->gQ A0 h0 (RF A0 h0 (mS s) aa env h O) (fS Φ s env h) (bA Ψ ms s aa)
noncomputable def sY(Φ:Nat->List Val->M Val)(Ψ:Nat->List Val->Pr FV)(ms:List Nat)(s:fM):Prop:=∀(A0:AP) (h0:Hs) (aa:bz) (env:Env) (h:Hs) (O:Nat->Option Nat),SR A0 h0 aa env h O->gQ A0 h0 (RF A0 h0 (FE s) aa env h O) (eG Φ s env h) (cL Ψ ms s aa)
theorem B8(he:bU Φ Ψ e)(hx:∀aa,bA Ψ ms (.expr e) aa=pb (bu Ψ e aa) λ_=>.ok (.nx aa)):yx Φ Ψ ms (.expr e):=λA0 h0 aa env h O s=>by
 rw[fS,hx];exact bJ s (he aa env _ h s.Aa s.er) λx h1 v p1 q1=>bf ⟨O,s.ext p1,Fm.refl s p1⟩
theorem aZ{α β γ:Type}(m:M α)(f:α -> M β)(g:β -> M γ):bnd (bnd m f) g=bnd m λx=>bnd (f x) g:=by
 funext h;show (match (match m h with|.ok a h'=>f a h'|.exc c vs h'=>.exc c vs h'|.no=>.no) with|.ok a h'=>g a h'|.exc c vs h'=>.exc c vs h'|.no=>.no)=(match m h with|.ok a h'=>bnd (f a) g h'|.exc c vs h'=>.exc c vs h'|.no=>.no);cases m h<;>rfl
theorem ao{α β:Type}{m:M α}{f:α -> M β}{a:α}{h h1:Hs}(e:m h=.ok a h1):bnd m f h=f a h1:=by unfold bnd;rw[e]
theorem bO{i:Nat}(e:env[i]?=some (some v)):aF Φ (.var i) env h=.ok v h:=by rw[aF,e];rfl
theorem Ab{i:Nat}(ha:bU Φ Ψ a):yx Φ Ψ ms (.expr (.met .append (.var i) (.cons a .nil))):=λA0 h0 aa env h O s=>by
 rw[fS,bA];try dsimp only
 split
 ·rename_i ds hv
  obtain⟨b,e2,e3,vs,e4,e5⟩:=s.ow i _ hv;have ev:bnd (aF Φ (.met .append (.var i) (.cons a .nil)) env) (λ_=>ret (Fl.nx env)) h=bnd (aF Φ a env) (λv=>bnd (met .append (.ref b) [v]) λ_=>ret (Fl.nx env)) h:=by
   rw[aF,aZ,ao (bO e2)];rw[aZ,ao (a:=()) (h1:=h) (by unfold ask bg;simp[recv,e4])];rw[aZ,aV,aZ]
   congr 1
  rw[ev];refine bJ s (ha aa env _ h s.Aa s.er) λx h1 v p1 q1=>jS λhg=>?_;have s1:=s.ext p1;obtain⟨s2,f2⟩:=s1.put (d1:=.rl (ds++[x.2])) (ob:=.lst (vs++[v])) hv e3 ⟨_,rfl,(e5.ext p1).append (ak.cons q1.1 ak.nil)⟩;have l:=e5.length;refine⟨.nx env,h1.set b (.lst (vs++[v])),?_,O,s2,(Fm.refl s p1).trans (f2.gC λj hj=>?_)⟩
  ·have g:=ck p1 e4;unfold met bnd ask bg aD put ret;dsimp only;rw[g];dsimp only;rw[if_pos (by rw[<-l];exact hg)]
  ·rw[mem_singleton.mp hj];exact mem_append_left _ mem_cons_self
 ·trivial
theorem Ac{i:Nat}(ha:bU Φ Ψ a):yx Φ Ψ ms (.expr (.met .extend (.var i) (.cons a .nil))):=λA0 h0 aa env h O s=>by
 rw[fS,bA];try dsimp only
 split
 ·rename_i ds hv
  obtain⟨b,e2,e3,vs,e4,e5⟩:=s.ow i _ hv;have ev:bnd (aF Φ (.met .extend (.var i) (.cons a .nil)) env) (λ_=>ret (Fl.nx env)) h=bnd (aF Φ a env) (λv=>bnd (met .extend (.ref b) [v]) λ_=>ret (Fl.nx env)) h:=by
   rw[aF,aZ,ao (bO e2)];rw[aZ,ao (a:=()) (h1:=h) (by unfold ask bg;simp[recv,e4])];rw[aZ,aV,aZ]
   congr 1
  rw[ev];refine bJ s (ha aa env _ h s.Aa s.er) λx h1 v p1 q1=>?_;obtain⟨f,d⟩:=x;cases d<;>first|trivial|skip
  rename_i ts;have q:=q1.1;dsimp only at q;rw[Dn] at q;obtain⟨ws,rfl,q⟩:=q;refine jS λhg=>?_;have s1:=s.ext p1;obtain⟨s2,f2⟩:=s1.put (d1:=.rl (ds++ts)) (ob:=.lst (vs++ws)) hv e3 ⟨_,rfl,(e5.ext p1).append q⟩;have l:=e5.length;have l2:=q.length;refine⟨.nx env,h1.set b (.lst (vs++ws)),?_,O,s2,(Fm.refl s p1).trans (f2.gC λj hj=>?_)⟩
  ·have g:=ck p1 e4;unfold met bnd ask bg aD put ret uy;dsimp only;rw[g];dsimp only;rw[if_pos (by rw[<-l,<-l2];exact hg)]
  ·rw[mem_singleton.mp hj];exact mem_append_left _ mem_cons_self
 ·trivial
theorem FF(hΦ:∀j,Imp (Φ j) (Ψ j))(ho:bB e=true):yx Φ Ψ ms (.expr e):=by
 have V:=v_all hΦ;have gen:(∀aa,bA Ψ ms (.expr e) aa=pb (bu Ψ e aa) λ_=>.ok (.nx aa))->yx Φ Ψ ms (.expr e):=λhx=>B8 (V.1 e ho) hx;cases e with
 | met m a es =>
  cases m with
  | join=>exact gen λaa=>by rw[bA]<;>(intros;simp_all)
  | append =>
   cases a with
   | var i =>
    cases es with
    | nil=>exact gen λaa=>by rw[bA]<;>(intros;simp_all)
    | cons x r =>
     cases r with
     | nil=>rw[bB,ig,ig,and_eq_true,and_eq_true] at ho;exact Ab (V.1 x ho.2.1)
     | cons _ _=>exact gen λaa=>by rw[bA]<;>(intros;simp_all)
   | _=>exact gen λaa=>by rw[bA]<;>(intros;simp_all)
  | extend =>
   cases a with
   | var i =>
    cases es with
    | nil=>exact gen λaa=>by rw[bA]<;>(intros;simp_all)
    | cons x r =>
     cases r with
     | nil=>rw[bB,ig,ig,and_eq_true,and_eq_true] at ho;exact Ac (V.1 x ho.2.1)
     | cons _ _=>exact gen λaa=>by rw[bA]<;>(intros;simp_all)
   | _=>exact gen λaa=>by rw[bA]<;>(intros;simp_all)
 | _=>exact gen λaa=>by rw[bA]<;>(intros;simp_all)
end
end Hv
end
section
namespace Hv
open PySem L2
section
variable {Φ:Nat->List Val->M Val} {Ψ:Nat->List Val->Pr FV} {ms:List Nat}
theorem B9{i:Nat}{l:List Nat}(h:i∈l):∀j∈[i],j∈l:=λj hj=>by rw[mem_singleton.mp hj];exact h
theorem KS(hΦ:∀j,Imp (Φ j) (Ψ j))(ho:bB e=true):yx Φ Ψ ms (.asg p e):=λA0 h0 aa env h O s=>by
 have V:=(v_all hΦ).1 e ho;cases p with
 | one i =>
  rw[fS,bA];try dsimp only
  split
  ·refine jS λhf=>?_
   refine bJ s (NT hΦ hf ho aa env _ h s.Aa s.er) λx h1 v p1 q1=>?_;obtain⟨f,d⟩:=x;cases d<;>first|trivial|skip
   ·obtain⟨h2,vs,rfl,rfl,p2,q2⟩:=q1 rfl;obtain⟨s2,f2⟩:=s.fresh (i:=i) p2 q2;exact⟨_,_,rfl,_,s2,f2.gC (B9 (by simp[mS,mH,stored]))⟩
   ·obtain⟨h2,vs,rfl,rfl,p2,q2⟩:=q1 rfl;obtain⟨s2,f2⟩:=s.fresh (i:=i) p2 q2;exact⟨_,_,rfl,_,s2,f2.gC (B9 (by simp[mS,mH,stored]))⟩
  ·refine bJ s (V aa env _ h s.Aa s.er) λx h1 v p1 q1=>?_
   have hnw:LN (fu x.1 x.2)=true->Dn (Al (Fr h0.length) O) h1 x.2 v:=λz=>by
    have hx:x.1=true:=by
     unfold fu at z;split at z
     ·rename_i hh;simp only[and_eq_true] at hh;exact hh.1
     ·cases z
    refine(q1.2 hx).gC λo ho=>?_;cases o with
    | none=>exact ho.elim
    | some k=>exact⟨le_trans s.pre.length_le ho,λj _ e=>by have:=(s.own j k e).2.1;have ho':h.length<=k:=ho;omega⟩
   have hrd:rE (fu x.1 x.2)=true:=by unfold fu;split<;>rfl
   obtain⟨s2,f2⟩:=(s.ext p1).setM (i:=i) hrd q1.1 hnw;exact⟨_,_,rfl,_,s2,(Fm.refl s p1).trans (f2.gC (B9 (by simp[mS,mH,stored])))⟩
 | tup is =>
  rw[fS,bA];try dsimp only
  refine jS λhf=>bJ s (V aa env _ h s.Aa s.er) λx h1 v p1 q1=>?_;have s1:=s.ext p1;refine bJ s1 (R:=λaH h' env'=>∃O',SR A0 h0 aH env' h' O'/\Fm (stored (.tup is)) aa env h1 O aH env' h' O') (bw λaH ev=>?_) λaH h2 env' p2 hh=>?_
  ·obtain⟨env',O',b1,b2,b3⟩:=s1.bind ev q1.1;exact⟨env',b1,O',b2,b3⟩
  ·obtain⟨O',b2,b3⟩:=hh;exact bf ⟨O',b2,(Fm.refl s p1).trans (b3.gC λj hj=>by simp only[mS,mH];exact mem_append_right _ hj)⟩
theorem KU{i:Nat}(hΦ:∀j,Imp (Φ j) (Ψ j))(ho:bB e=true):yx Φ Ψ ms (.aug i o e):=λA0 h0 aa env h O s=>by rw[bA];trivial
theorem yy(k:Key)(l:List (Key×Val)):(l.any λkv=>decide (kv.1=k))=((l.map (·.1)).any λx=>decide (x=k)):=by
 rw[any_map];rfl
theorem yz(e:Dn A h d v):∀{kvs:List (Key×Val)} {ds:List Val},ak A h ds (kvs.map (·.2)) ->
  ak A h ((((kvs.map (·.1)).zip ds).map λkv=>if kv.1=k then (kv.1,d) else kv).map (·.2)) ((kvs.map λkv=>if kv.1=k then (kv.1,v) else kv).map (·.2))
 | [],ds,q=>by simp only[map_nil,List.zip_nil_left];exact ak.nil
 | (k',v')::kvs,ds,q=>by
  have l:=q.length;cases ds with
  | nil=>simp at l
  | cons d' ds =>
   simp only[map_cons] at q;rw[ak] at q;obtain⟨v1,r,e1,q1,q2⟩:=q;cases e1;simp only[map_cons,zip_cons_cons];refine ak.cons ?_ (yz e q2)
   by_cases hk:k'=k
   ·rw[if_pos hk,if_pos hk];exact e
   ·rw[if_neg hk,if_neg hk];exact q1
theorem nj(k:Key)(d:Val)(l:List (Key×Val)):(l.map λkv=>if kv.1=k then (kv.1,d) else kv).map (·.1)=l.map (·.1):=by
 rw[map_map];refine map_congr_left λx _=>?_;show (if x.1=k then (x.1,d) else x).1=x.1
 split<;>rfl
theorem FG(hk:kvs.map (·.1)=ks)(q:ak A h ds (kvs.map (·.2)))(e:Dn A h d v) :
  (fY kvs k v).map (·.1)=(fY (ks.zip ds) k d).map (·.1)/\ak A h ((fY (ks.zip ds) k d).map (·.2)) ((fY kvs k v).map (·.2)):=by
 subst hk;have l:=q.length;rw[length_map] at l;have z1:((kvs.map (·.1)).zip ds).map (·.1)=kvs.map (·.1):=List.map_fst_zip (by rw[length_map];omega);have z2:((kvs.map (·.1)).zip ds).map (·.2)=ds:=List.map_snd_zip (by rw[length_map];omega);unfold fY;rw[yy,yy,z1]
 split
 ·rw[nj,nj,z1];exact⟨rfl,yz e q⟩
 ·rw[map_append,map_append,map_append,map_append,z1,z2];exact⟨rfl,q.append (ak.cons e ak.nil)⟩
theorem FH(hΦ:∀j,Imp (Φ j) (Ψ j))(ho:bB o=true)(hi:bB i=true)(hv:bB v=true):yx Φ Ψ ms (.gu o i v):=λA0 h0 aa env h O s=>by
 have V:=(v_all hΦ).1;cases o with
 | var j =>
  rw[fS,bA];refine bJ s (V v hv aa env _ h s.Aa s.er) λx h1 w p1 q1=>?_;have s1:=s.ext p1
  split
  ·rename_i ds hj
   obtain⟨b,e2,e3,vs,e4,e5⟩:=s1.ow j _ hj;rw[ao (bO e2)];refine bJ s1 (V i hi aa env _ h1 s1.Aa s1.er) λz h2 u p2 q2=>?_;have s2:=s1.ext p2;obtain⟨f,d⟩:=z;have q:=q2.1;cases d<;>first|trivial|skip
   dsimp only at q;rw[Dn] at q;subst q;rename_i kk;have g:=ck p2 e4;have l:=e5.length;show gQ A0 h0 _ _ (pb (pl (zw ds.length kk)) _);cases hn:zw ds.length kk with
   | none=>trivial
   | some n =>obtain⟨s3,f3⟩:=s2.put (d1:=.rl (ds.set n x.2)) (ob:=.lst (vs.set n w)) hj e3 ⟨_,rfl,(e5.ext p2).set n (q1.1.ext p2)⟩;refine⟨.nx env,h2.set b (.lst (vs.set n w)),?_,O,s3,(Fm.refl s (p1.trans p2)).trans (f3.gC (B9 (by simp[mS,pH])))⟩;rw[l] at hn;simp only[rm];unfold bnd ask bg put ret;dsimp only;rw[g];dsimp only;rw[hn]
  ·rename_i ks ds hj
   obtain⟨b,e2,e3,kvs,e4,ek,e5⟩:=s1.ow j _ hj;rw[ao (bO e2)];refine bJ s1 (V i hi aa env _ h1 s1.Aa s1.er) λz h2 u p2 q2=>?_;have s2:=s1.ext p2;obtain⟨f,d⟩:=z;have q:=q2.1;dsimp only at q;show gQ A0 h0 _ _ (pb (pl (keyOf d)) _);cases hk:keyOf d with
   | none=>trivial
   | some kk =>
    have hu:keyOf u=some kk:=by
     cases d<;>simp only[keyOf] at hk<;>first|(cases hk;done)|skip
     all_goals (rw[Dn] at q;subst q;exact hk)
    show gQ A0 h0 _ _ (pg _ _);refine jS λhl=>?_;have g:=ck p2 e4;obtain⟨k1,k2⟩:=FG (k:=kk) ek (e5.ext p2) (q1.1.ext p2);obtain⟨s3,f3⟩:=s2.put (d1:=putD ks ds kk x.2) (ob:=.dct (fY kvs kk w)) hj e3 ⟨_,rfl,k1,k2⟩;refine⟨.nx env,h2.set b (.dct (fY kvs kk w)),?_,O,s3,(Fm.refl s (p1.trans p2)).trans (f3.gC (B9 (by simp[mS,pH])))⟩;have hl':decide (kvs.length<sizeLine)=true:=by rw[<-ek,length_map] at hl;exact hl
    simp only[rm];unfold bnd ask bg put ret aD;dsimp only;rw[g];dsimp only;rw[hu];dsimp only;rw[if_pos hl']
  ·trivial
 | _=>rw[bA]<;>first|trivial|(intros;simp_all)
theorem KW(hΦ:∀j,Imp (Φ j) (Ψ j))(hc:bB c=true)(ha:sY Φ Ψ ms a)(hb:sY Φ Ψ ms b):yx Φ Ψ ms (.iff c a b):=λA0 h0 aa env h O s=>by
 have V:=(v_all hΦ).1 c hc;rw[fS,bA];refine bJ s (j5 V s.Aa s.er) λx h1 v p1 q1=>?_;have s1:=s.ext p1;refine bJ s1 (R:=λt _ t'=>t'=t) (bQ λt et=>⟨t,wX q1 et,rfl⟩) λt h2 t' p2 et=>?_;subst et;have s2:=s1.ext p2;cases t' with
 | true =>
  rw[if_pos rfl,if_pos rfl];refine iw (ha A0 h0 aa env h2 O s2) λf h' g r=>(r.pre s (p1.trans p2)).gC λi hi=>?_;simp only[FE,mS,pH,mH,mem_append] at hi |-
  rcases hi with z|z
  ·exact .inl (.inl z)
  ·exact .inr (.inl z)
 | false =>
  rw[if_neg Bool.false_ne_true,if_neg Bool.false_ne_true];refine iw (hb A0 h0 aa env h2 O s2) λf h' g r=>(r.pre s (p1.trans p2)).gC λi hi=>?_;simp only[FE,mS,pH,mH,mem_append] at hi |-
  rcases hi with z|z
  ·exact .inl (.inr z)
  ·exact .inr (.inr z)
noncomputable def wZ(h:Hs)(O:Nat->Option Nat)(m:List Nat)(src:Src)(ws:List Val):Prop :=
 ∀h':Hs,(∀k,k<h.length->(∀i,O i≠some k)->h'[k]?=h[k]?)->(∀i,i∉m->∀a,O i=some a->h'[a]?=h[a]?)->src.items h'=some ws
theorem dj{i:Nat}(e:h[i]?=some (.lst ws)):(Src.live i).items h=some ws:=by simp[Src.items,aB,e]
theorem iL{i:Nat}(e:h[i]?=some (.lst ws)):(Src.enum i).items h=some (cI 0 ws):=by simp[Src.items,aB,e]
theorem u5{A0:AP}{h0:Hs}{m:List Nat}(hb:∀aa env h O x v,SR A0 h0 aa env h O->Dn (Al A0 O) h x v->gQ A0 h0 (RF A0 h0 m aa env h O) (body v env h) (bodyV x aa))
  {lA:bz} {fP:Env} {h1:Hs} {O1:Nat->Option Nat} (st:wZ h1 O1 m src ws) :
  ∀(xs vs:List Val) (i:Nat) (aa:bz) (env:Env) (h:Hs) (O:Nat->Option Nat),SR A0 h0 aa env h O->Fm m lA fP h1 O1 aa env h O->ws.drop i=vs->ak (Al A0 O) h xs vs ->
   gQ A0 h0 (RF A0 h0 m lA fP h1 O1) (forM src body vs.length i env h) (mJ bodyV xs aa)
 | [],vs,i,aa,env,h,O,s,f,hd,q=>by
  rw[ak] at q;subst q;have hl:ws.length<=i:=List.drop_eq_nil_iff.mp hd;have hi:=st h (λk hk n=>(f.keep k hk n).1) (λj hj a e=>(f.stay j hj).2.2.2 a e);rw[mJ];refine⟨.nx env,h,?_,O,s,f⟩;show forM src body 0 i env h=_;simp only[forM];unfold bnd ask bg aD;dsimp only;rw[hi];dsimp only;rw[if_pos (decide_eq_true hl)];rfl
 | x::xs,vs,i,aa,env,h,O,s,f,hd,q=>by
  rw[ak] at q;obtain⟨v,r,rfl,q1,q2⟩:=q;have hv:ws[i]?=some v:=by have:=congrArg (λl=>l[0]?) hd;simpa using this
  have hr:ws.drop (i+1)=r:=by
   have:ws.drop (i+1)=(ws.drop i).drop 1:=by rw[List.drop_drop]
   rw[this,hd];rfl
  have hi:=st h (λk hk n=>(f.keep k hk n).1) (λj hj a e=>(f.stay j hj).2.2.2 a e);have ev:forM src body (v::r).length i env h=bnd (body v env) (λf=>match f with
   | .nx env'=>forM src body r.length (i+1) env'
   | .ct env'=>forM src body r.length (i+1) env'
   | .bk env'=>ret (.nx env')
   | .rt v=>ret (.rt v)) h:=by
   show forM src body (r.length+1) i env h=_;simp only[forM];unfold bnd ask bg;dsimp only;rw[hi];dsimp only;rw[hv];try rfl
  rw[ev,mJ];refine pL (hb aa env h O x v s q1) λfl h2 gl hr2=>?_;have go:∀aH env' O',SR A0 h0 aH env' h2 O'->Fm m aa env h O aH env' h2 O'->gQ A0 h0 (RF A0 h0 m lA fP h1 O1) (forM src body r.length (i+1) env' h2) (mJ bodyV xs aH):=λaH env' O' s' f'=>by
   refine u5 hb st xs r (i+1) aH env' h2 O' s' (f.trans f') hr (ak.move jy (λk o hk g=>?_) _ _ q2);have hlt:k<h.length:=(List.getElem?_eq_some_iff.mp g).1;obtain⟨a1,a2⟩:=f'.keep k hlt λi=>hk.2 i rfl;exact⟨⟨hk.1,λi _=>a2 i⟩,a1.trans g⟩
  cases fl<;>cases gl<;>first|exact hr2.elim|skip
  ·obtain⟨O',s',f'⟩:=hr2;exact go _ _ O' s' f'
  ·exact bf hr2
  ·obtain⟨O',s',f'⟩:=hr2;exact bf ⟨O',s',f.trans f'⟩
  ·obtain⟨O',s',f'⟩:=hr2;exact go _ _ O' s' f'
theorem Ca{A0:AP}{m:List Nat}(q:Dn (Al A0 O) h d v)(e:ju k [d]=some xs):∃src ws,srcOf k [v]=some src/\ak (Al A0 O) h xs ws/\src.items h=some ws/\wZ h O m src ws:=by
 have lst:∀es,d=.rl es->(∃ws,v=.rl ws/\ak (Al A0 O) h es ws)\/∃a ws,v=.ref a/\h[a]?=some (.lst ws)/\ak (Al A0 O) h es ws/\∀h':Hs,(∀k,k<h.length->(∀i,O i≠some k)->h'[k]?=h[k]?)->h'[a]?=some (Ob.lst ws):=by
  rintro es rfl;rw[Dn] at q
  rcases q with ⟨ws,rfl,_,q⟩|⟨a,ws,rfl,al,g,q⟩
  ·exact .inl ⟨ws,rfl,q⟩
  ·exact .inr ⟨a,ws,rfl,g,q,λh' hk=>(hk a (List.getElem?_eq_some_iff.mp g).1 λi=>al.2 i rfl).trans g⟩
 cases k with
 | seq =>
  cases d<;>first|(cases e;done)|skip
  ·cases e;rw[Dn] at q;obtain⟨ws,rfl,q⟩:=q;exact⟨.fix ws,ws,rfl,q,rfl,λ_ _ _=>rfl⟩
  ·cases e
   rcases lst _ rfl with ⟨ws,rfl,q'⟩|⟨a,ws,rfl,g,q',st⟩
   ·exact⟨.fix ws,ws,rfl,q',rfl,λ_ _ _=>rfl⟩
   ·exact⟨.live a,ws,rfl,q',dj g,λh' hk _=>dj (st h' hk)⟩
 | range =>
  cases d<;>first|(cases e;done)|skip
  rw[Dn] at q;subst q;rename_i n;change (if inR n=true then some (bX 0 n.toNat) else none)=some _ at e;split at e
  ·rename_i hn;cases e;exact⟨.fix _,_,if_pos hn,jR,rfl,λ_ _ _=>rfl⟩
  ·cases e
 | enum =>
  cases d<;>first|(cases e;done)|skip
  cases e
  rcases lst _ rfl with ⟨ws,rfl,q'⟩|⟨a,ws,rfl,g,q',st⟩
  ·exact⟨.fix _,_,rfl,ie 0 q',rfl,λ_ _ _=>rfl⟩
  ·exact⟨.enum a,_,rfl,ie 0 q',iL g,λh' hk _=>iL (st h' hk)⟩
 | zip=>cases e
theorem Cb{α β γ δ:Type}{R:α -> Hs -> β -> Prop}{R':γ -> Hs -> δ -> Prop}{m:M β}{f:β -> M δ}{p:Pr α}{F:α -> Pr γ}(r:Rel A h R (m h) p)(k:∀a h1 b,p=.ok a->h<+:h1->R a h1 b->Rel A h1 R' (f b h1) (F a)):Rel A h R' (bnd m f h) (pb p F):=by
 unfold bnd;cases p with
 | ok a =>
  obtain⟨b,h1,e,q,r⟩:=r;rw[e];show Rel A h R' (f b h1) (F a);have:=k a h1 b rfl q r;cases e2:F a with
  | ok c=>rw[e2] at this;obtain⟨d,h2,e3,q2,r2⟩:=this;exact⟨d,h2,e3,q.trans q2,r2⟩
  | exc c es=>rw[e2] at this;obtain⟨d,h2,e3,q2,r2⟩:=this;exact⟨d,h2,e3,q.trans q2,r2⟩
  | no=>trivial
 | exc c es =>obtain⟨ws,h1,e,q,r⟩:=r;rw[e];exact⟨ws,h1,rfl,q,r⟩
 | no=>trivial
theorem Cc{e e2:IE}(h:gb Ψ (.cons e (.cons e2 r)) aa=.ok ds):2<=ds.length:=by
 rw[gb,gb] at h;cases h1:(if isVar e=true then pl (f9 aa e) else bu Ψ e aa) with
 | ok a =>
  rw[h1] at h;cases h2:(if isVar e2=true then pl (f9 aa e2) else bu Ψ e2 aa) with
  | ok b =>
   rw[h2] at h;cases h3:gb Ψ r aa with
   | ok c=>rw[h3] at h;cases h;simp
   | exc _ _=>rw[h3] at h;cases h
   | no=>rw[h3] at h;cases h
  | exc _ _=>rw[h2] at h;cases h
  | no=>rw[h2] at h;cases h
 | exc _ _=>rw[h1] at h;cases h
 | no=>rw[h1] at h;cases h
theorem Cd{d1 d2:Val}(ex:ju k [d1,d2]=some xs):k=.range/\∃n m,d1=.int n/\d2=.int m/\(inR n&&inR m)=true/\xs=bX n (m-n).toNat:=by
 cases k with
 | seq=>cases d1<;>cases ex
 | enum=>cases d1<;>cases ex
 | zip=>cases ex
 | range =>
  cases d1<;>first|(cases ex;done)|skip
  cases d2<;>first|(cases ex;done)|skip
  rename_i n m;change (if (inR n&&inR m)=true then some (bX n (m-n).toNat) else none)=some xs at ex
  by_cases hn:(inR n&&inR m)=true
  ·rw[if_pos hn] at ex;cases ex;exact⟨rfl,n,m,rfl,rfl,hn,rfl⟩
  ·rw[if_neg hn] at ex;cases ex
theorem xg{d1 d2 d3:Val}:ju k (d1::d2::d3::r)=none:=by
 cases k with
 | seq=>cases d1<;>rfl
 | enum=>cases d1<;>rfl
 | zip=>rfl
 | range=>cases d1<;>first|rfl|(cases d2<;>rfl)
theorem FI{A0:AP}{h0:Hs}{m:List Nat}(hΦ:∀j,Imp (Φ j) (Ψ j))(hi:ig it=true)(s:SR A0 h0 aa env h O)(hm:∀i,it=.cons (.var i) .nil->i∉m) :
  Rel (Al A0 O) h (λxs h' src=>∃ws,ak (Al A0 O) h' xs ws/\src.items h'=some ws/\wZ h' O m src ws) (bnd (aV Φ it env) (λits=>bg (srcOf k its)) h) (pb (gb Ψ it aa) λits=>pl (ju k its)):=by
 have V:=v_all hΦ;cases it with
 | nil=>rw[gb];cases k<;>trivial
 | cons e es =>
  cases es with
  | nil =>
   rw[ig,and_eq_true] at hi
   by_cases hv:isVar e=true
   ·cases e<;>first|(cases hv;done)|skip
    rename_i i;rw[gb,gb,if_pos hv];simp only[f9];cases hx:aa[i]? with
    | none=>trivial
    | some o =>
     cases o with
     | none=>trivial
     | some fd =>
      obtain⟨f,d⟩:=fd;show Rel _ _ _ _ (pl (ju k [d]));cases hf:rE f with
      | false =>
       have hf:f=.ow:=by cases f<;>first|rfl|cases hf
       subst hf;obtain⟨a,e2,e3,e4⟩:=s.ow i d hx;have ev:bnd (aV Φ (.cons (.var i) .nil) env) (λits=>bg (srcOf k its)) h=bg (srcOf k [.ref a]) h:=by rw[aV,aV,aZ,ao (bO e2)];rfl
       rw[ev];refine bw λxs ex=>?_;have hd:∃ds,d=.rl ds:=by cases d<;>first|exact⟨_,rfl⟩|exact False.elim e4|(cases k<;>cases ex)
       obtain⟨ds,rfl⟩:=hd;obtain⟨vs,e4,e5⟩:=e4;have st:∀h':Hs,(∀i,i∉m->∀a,O i=some a->h'[a]?=h[a]?)->h'[a]?=some (Ob.lst vs):=λh' hs=>(hs i (hm i rfl) a e3).trans e4;cases k with
       | seq=>cases ex;exact⟨.live a,rfl,vs,e5,dj e4,λh' _ hs=>dj (st h' hs)⟩
       | range=>cases ex
       | enum=>cases ex;exact⟨.enum a,rfl,_,ie 0 e5,iL e4,λh' _ hs=>iL (st h' hs)⟩
       | zip=>cases ex
      | true =>
       obtain⟨v,e1,e2,_⟩:=s.sh i f d hx hf;have ev:bnd (aV Φ (.cons (.var i) .nil) env) (λits=>bg (srcOf k its)) h=bg (srcOf k [v]) h:=by rw[aV,aV,aZ,ao (bO e1)];rfl
       rw[ev];refine bw λxs ex=>?_;obtain⟨src,ws,a1,a2,a3,a4⟩:=Ca (m:=m) e2 ex;exact⟨src,a1,ws,a2,a3,a4⟩
   ·rw[gb,gb,if_neg hv]
    have ev:bnd (aV Φ (.cons e .nil) env) (λits=>bg (srcOf k its)) h=bnd (aF Φ e env) (λv=>bg (srcOf k [v])) h:=by rw[aV,aV,aZ];rfl
    rw[ev];have ep:(pb (pb (bu Ψ e aa) λd=>pb (Pr.ok ([]:List Val)) λp=>Pr.ok (d.2::p)) λits=>pl (ju k its))=pb (bu Ψ e aa) λd=>pl (ju k [d.2]):=by cases bu Ψ e aa<;>rfl
    rw[ep];refine ah (V.1 e hi.1 aa env _ h s.Aa s.er) λx h1 v p1 q1=>bw λxs ex=>?_;obtain⟨src,ws,a1,a2,a3,a4⟩:=Ca (m:=m) q1.1 ex;exact⟨src,a1,ws,a2,a3,a4⟩
  | cons e2 r =>
   have V2:=V.2 _ hi;refine Cb (V2.2 aa env _ h s.Aa s.er) λds h1 vs eb p1 q1=>bw λxs ex=>?_;have hl:2<=ds.length:=Cc eb
   match ds,q1 with
   | [],q1=>cases k<;>cases ex
   | [d],q1=>simp at hl
   | [d1,d2],q1 =>obtain⟨v,rr,rfl,hv,hr⟩:=q1;obtain⟨w,rfl,hw⟩:=Fp.one hr;obtain⟨rfl,n,m',rfl,rfl,hn,rfl⟩:=Cd ex;have:=hv.int;subst this;have:=hw.int;subst this;exact⟨.fix _,if_pos hn,_,jR,rfl,λ_ _ _=>rfl⟩
   | d1::d2::d3::dr,q1=>rw[xg] at ex;cases ex
theorem KY(hΦ:∀j,Imp (Φ j) (Ψ j))(hi:ig it=true)(hb:sY Φ Ψ ms body):yx Φ Ψ ms (.for p k it body):=λA0 h0 aa env h O s=>by
 rw[fS,bA];refine jS λhg=>?_;rw[and_eq_true] at hg;have hm:∀i,it=.cons (.var i) .nil->i∉mS (.for p k it body):=by
  rintro i rfl z;simp only[uU,and_eq_true,not_eq_true',List.contains_eq_mem,decide_eq_false_iff_not] at hg;simp only[mS,pH,mH,mem_append] at z
  rcases z with z|z|z
  ·exact hg.1.1.1 z
  ·exact hg.1.2 z
  ·exact hg.1.1.2 z
 have ev:∀(F:Src->M Fl),bnd (aV Φ it env) (λits=>bnd (bg (srcOf k its)) F) h=bnd (bnd (aV Φ it env) λits=>bg (srcOf k its)) F h:=λF=>by rw[aZ]
 have ep:∀(F:List Val->Pr Fj),pb (gb Ψ it aa) (λits=>pb (pl (ju k its)) F)=pb (pb (gb Ψ it aa) λits=>pl (ju k its)) F:=λF=>by cases gb Ψ it aa<;>rfl
 rw[ev,ep];refine bJ s (FI (m:=mS (.for p k it body)) hΦ hi s hm) λxs h1 src p1 hx=>?_;obtain⟨ws,q1,q2,st⟩:=hx;have s1:=s.ext p1;have l:=q1.length;have Wg:∀(F:List Val->M Fl),bnd (ask λh=>src.items h) F h1=F ws h1:=λF=>by unfold bnd ask bg;dsimp only;rw[q2]
 rw[Wg];refine iw (u5 (m:=mS (.for p k it body)) (λaH env' h' O' x v s' qx=>?_) st xs ws 0 aa env h1 O s1 (Fm.refl s1 (prefix_refl _)) rfl q1) λf h' g r=>r.pre s p1;refine bJ s' (R:=λni h2 kF=>∃O2,SR A0 h0 ni kF h2 O2/\Fm (stored p) aH env' h' O' ni kF h2 O2) (bw λni e2=>?_) λni h2 kF p2 hh=>?_
 ·obtain⟨kF,O2,b1,b2,b3⟩:=s'.bind e2 qx;exact⟨kF,b1,O2,b2,b3⟩
 ·obtain⟨O2,b2,b3⟩:=hh
  refine iw (hb A0 h0 ni kF h2 O2 b2) λf h'' g r=>RF.seq (b3.gC λi hi=>?_) (r.gC λi hi=>?_)
  ·simp only[mS,pH,mH,mem_append];exact .inr (.inl hi)
  ·simp only[FE,mS,pH,mH,mem_append] at hi |-
   rcases hi with z|z
   ·exact .inl z
   ·exact .inr (.inr z)
theorem KZ{n:Nat}(hΦ:∀j,Imp (Φ j) (Ψ j))(hc:bB c=true)(hb:sY Φ Ψ ms body):yx Φ Ψ ms (.whl n c body):=λA0 h0 aa env h O s=>by rw[bA];trivial
theorem Ce:rE (Uu m)=true:=by cases m<;>rfl
theorem SR.fr{A0:AP}{h0:Hs}(s:SR A0 h0 aa env h O):ER A0 (nL aa) env h:=λi f d e=>by
 unfold nL at e;rw[getElem?_map] at e;cases hx:aa[i]? with
 | none=>rw[hx] at e;cases e
 | some o =>
  rw[hx] at e;cases o with
  | none=>cases e
  | some fd =>
   obtain⟨m,d'⟩:=fd;cases e;rw[if_neg (by rw[Ce];decide)];cases hm:rE m with
   | false =>
    have hm:m=.ow:=by cases m<;>first|rfl|cases hm
    subst hm;obtain⟨a,e2,e3,e4⟩:=s.ow i d hx;exact⟨_,e2,(e4.mono (A':=A0) (λ_ g=>g) λ_ _ z=>z.gC λ_ y=>y.1).dn (s.up a (s.own i a e3).1)⟩
   | true =>obtain⟨v,e1,e2,_⟩:=s.sh i m d hx hm;exact⟨v,e1,e2.gC λ_ z=>z.1⟩
theorem rG{A0:AP}{h0:Hs}{α β γ δ:Type}{R:α -> Hs -> β -> Prop}{R':γ -> Hs -> δ -> Prop}{mm:M β}{f:β -> M δ}{p:Pr α}{F:α -> Pr γ}(s:SR A0 h0 aa env h O)(r:Rel A0 h R (mm h) p)(k:∀a h1 b,h<+:h1->R a h1 b->gQ A0 h0 R' (f b h1) (F a)):gQ A0 h0 R' (bnd mm f h) (pb p F):=by
 unfold bnd;cases p with
 | ok a=>obtain⟨b,h1,e,q,r⟩:=r;rw[e];exact k a h1 b q r
 | exc c es=>obtain⟨ws,h1,e,q,r⟩:=r;rw[e];exact⟨ws,h1,rfl,s.pre.trans q,r⟩
 | no=>trivial
theorem K0(hΦ:∀j,Imp (Φ j) (Ψ j))(ho:bB e=true):yx Φ Ψ ms (.ret e):=λA0 h0 aa env h O s=>by
 have V:=(v_all hΦ).1 e ho;have gen:Nt Ψ e aa=bu Ψ e aa->gQ A0 h0 (RF A0 h0 (mS (.ret e)) aa env h O) (fS Φ (.ret e) env h) (bA Ψ ms (.ret e) aa):=λhe=>by
  rw[fS,bA,he];exact bJ s (V aa env _ h s.Aa s.er) λx h1 v p1 q1=>bf ⟨q1.1.gC λ_ z=>z.1,λf=>(q1.2 f).gC (Fr.le s.pre.length_le),s.pre.trans p1⟩
 cases e with
 | var i =>
  rw[fS,bA];simp only[Nt];cases hx:aa[i]? with
  | none=>trivial
  | some o =>
   cases o with
   | none=>trivial
   | some fd =>
    obtain⟨f,d⟩:=fd;cases hf:rE f with
    | false =>
     have hf:f=.ow:=by cases f<;>first|rfl|cases hf
     subst hf;obtain⟨a,e2,e3,e4⟩:=s.ow i d hx;rw[ao (bO e2)];have ha:=s.own i a e3;cases d<;>first|exact False.elim e4|skip
     ·refine⟨_,h,rfl,?_,λhi=>?_,s.pre⟩
      ·exact(e4.mono (A':=A0) (λ_ g=>g) λ_ _ z=>z.gC λ_ y=>y.1).dn (s.up a ha.1)
      ·obtain⟨vs,e4,e5⟩:=e4;show Dn _ h (.rl _) (.ref a);rw[Dn];exact .inr ⟨a,vs,rfl,ha.1,e4,fy e5 hi⟩
     ·refine⟨_,h,rfl,?_,λhi=>?_,s.pre⟩
      ·exact(e4.mono (A':=A0) (λ_ g=>g) λ_ _ z=>z.gC λ_ y=>y.1).dn (s.up a ha.1)
      ·obtain⟨kvs,e4,ek,e5⟩:=e4;show Dn _ h (.dc _ _) (.ref a);rw[Dn];exact⟨a,kvs,rfl,ha.1,e4,ek,fy e5 hi⟩
    | true =>
     obtain⟨v,e1,e2,e3⟩:=s.sh i f d hx hf;rw[ao (bO e1)];dsimp only;rw[if_pos hf];refine⟨_,h,rfl,e2.gC λ_ z=>z.1,λhi=>?_,s.pre⟩
     rcases(or_eq_true _ _).mp hi with hi|hi
     ·exact(gO d v hi).mpr ((gO d v hi).mp e2)
     ·exact(e3 hi).gC λ_ z=>z.1
 | call j es =>rw[fS,bA];exact rG s (V (nL aa) env A0 h (s.up.ext s.pre) s.fr) λx h1 v p1 q1=>bf ⟨q1.1,λf=>(q1.2 f).gC (Fr.le s.pre.length_le),s.pre.trans p1⟩
 | tup es =>rw[fS,bA];exact rG s (V (nL aa) env A0 h (s.up.ext s.pre) s.fr) λx h1 v p1 q1=>bf ⟨q1.1,λf=>(q1.2 f).gC (Fr.le s.pre.length_le),s.pre.trans p1⟩
 | _=>exact gen rfl
theorem K1:sY Φ Ψ ms .nil:=λA0 h0 aa env h O s=>by rw[eG,cL];exact bf ⟨O,s,Fm.refl s (prefix_refl _)⟩
theorem FJ(ha:yx Φ Ψ ms a)(hr:sY Φ Ψ ms r):sY Φ Ψ ms (.cons a r):=λA0 h0 aa env h O s=>by
 rw[eG,cL];have w1:∀i∈mS a,i∈FE (.cons a r):=λi hi=>by
  simp only[mS,FE,fJ,jv,mem_append] at hi |-
  rcases hi with z|z
  ·exact .inl (.inl z)
  ·exact .inr (.inl z)
 have w2:∀i∈FE r,i∈FE (.cons a r):=λi hi=>by
  simp only[FE,fJ,jv,mem_append] at hi |-
  rcases hi with z|z
  ·exact .inl (.inr z)
  ·exact .inr (.inr z)
 refine pL (ha A0 h0 aa env h O s) λf h1 g rr=>?_;have rr:=rr.gC w1;cases f<;>cases g<;>first|exact rr.elim|skip
 ·obtain⟨O',s',f'⟩:=rr;exact iw (hr A0 h0 _ _ h1 O' s') λf h' g r'=>RF.seq f' (r'.gC w2)
 ·exact bf rr
 ·exact bf rr
 ·exact bf rr
theorem NU(hΦ:∀j,Imp (Φ j) (Ψ j)):∀ss,sX ss=true->sY Φ Ψ ms ss:=by
 intro ss;refine fM.rec (motive_1:=λs=>DK s=true->yx Φ Ψ ms s) (motive_2:=λss=>sX ss=true->sY Φ Ψ ms ss) ?_ ?_ ?_ ?_ ?_ ?_ ?_ ?_ ?_ ?_ ?_ ?_ ?_ ?_ ?_ ?_ ss
 ·exact λe f=>FF hΦ (by rw[DK] at f;exact f)
 ·exact λp e f=>KS hΦ (by rw[DK] at f;exact f)
 ·exact λi o e f=>KU hΦ (by rw[DK] at f;exact f)
 ·intro o i v f;rw[DK,and_eq_true,and_eq_true] at f;exact FH hΦ f.1.1 f.1.2 f.2
 ·intro c a b ia ib f;rw[DK,and_eq_true,and_eq_true] at f;exact KW hΦ f.1.1 (ia f.1.2) (ib f.2)
 ·intro p k it b ib f;rw[DK,and_eq_true] at f;exact KY hΦ f.1 (ib f.2)
 ·intro n c b ib f;rw[DK,and_eq_true] at f;exact KZ hΦ f.1 (ib f.2)
 ·exact λe f=>K0 hΦ (by rw[DK] at f;exact f)
 ·exact λ_ A0 h0 aa env h O s=>by rw[fS,bA];exact bf ⟨by rw[Dn],λ_=>by rw[Dn],s.pre⟩
 ·exact λ_ A0 h0 aa env h O s=>by rw[fS,bA];exact bf ⟨O,s,Fm.refl s (prefix_refl _)⟩
 ·exact λ_ A0 h0 aa env h O s=>by rw[fS,bA];exact bf ⟨O,s,Fm.refl s (prefix_refl _)⟩
 ·exact λ_ A0 h0 aa env h O s=>by rw[fS,bA];exact bf ⟨O,s,Fm.refl s (prefix_refl _)⟩
 ·exact λ_ A0 h0 aa env h O s=>by rw[bA];trivial
 ·exact λ_ _ _ _ _ A0 h0 aa env h O s=>by rw[bA];trivial
 ·exact λ_=>K1
 ·intro a r ia ir f;rw[sX,and_eq_true] at f;exact FJ (ia f.1) (ir f.2)
theorem NV{n:Nat}(u:Up A h)(q:ak A h ds vs):SR A h (ds.map (λd=>some (.sh,d))++replicate (n-ds.length) none) (vs.map some++replicate (n-vs.length) none) h (λ_=>none):=by
 have l:=q.length;have al:∀k,A k->Al A (λ_=>none) k:=λk hk=>⟨hk,λi z e=>by subst e;cases z⟩;have get:∀(i:Nat) (f:Mk) (d:Val),(ds.map (λd=>some (.sh,d))++replicate (n-ds.length) none:bz)[i]?=some (some (f,d))->f=.sh/\ds[i]?=some d:=λi f d e=>by
  by_cases hi:i<ds.length
  ·rw[getElem?_append_left (by simpa using hi),getElem?_map] at e
   cases ei:ds[i]? with
   | none=>rw[ei] at e;cases e
   | some d'=>rw[ei] at e;cases e;exact⟨rfl,rfl⟩
  ·rw[getElem?_append_right (by simp;omega)] at e;have:=mem_of_getElem? e;rw[List.mem_replicate] at this;exact absurd this.2 (by simp)
 refine⟨by simp[l],λi m d e hm=>?_,λi d e=>?_,(λi a e=>nomatch e),(λi j a e=>nomatch e),prefix_refl _,u⟩
 ·obtain⟨hm',e⟩:=get i m d e;obtain⟨v,k1,k2⟩:=q.get e;have hi:i<vs.length:=(List.getElem?_eq_some_iff.mp k1).1;exact⟨v,by rw[getElem?_append_left (by simpa using hi),getElem?_map,k1];rfl,k2.gC al,λz=>by subst hm';cases z⟩
 ·obtain⟨z,_⟩:=get i .ow d e;cases z
theorem bY{n:Nat}(hΦ:∀j,Imp (Φ j) (Ψ j))(ho:sX body=true):Imp (gY Φ n body) (gc Ψ n body):=λA h ds vs u q=>by
 have l:=q.length;have s:=NV (n:=n) u q;unfold gY gc;have r:=pL (R':=λx h' v=>h<+:h'/\RV A h x h' v) (NU (ms:=fJ body) hΦ body ho A h _ _ h _ s) (f:=λf=>match f with
  | .nx _=>ret .non
  | .rt v=>ret v
  | _=>bg none) (F:=λf=>match f with
  | .nx _=>.ok (true,.non)
  | .rt p=>.ok p
  | _=>.no) λf h1 g rr=>by
   cases f<;>cases g<;>first|exact rr.elim|skip
   ·obtain⟨O',s',_⟩:=rr;exact bf ⟨s'.pre,by show Dn _ _ Val.non _;rw[Dn],λ_=>by show Dn _ _ Val.non _;rw[Dn]⟩
   ·exact bf ⟨rr.2.2,rr.1,rr.2.1⟩
   ·trivial
   ·trivial
 revert r;generalize (pb (cL Ψ (fJ body) body (ds.map (λd=>some (.sh,d))++replicate (n-ds.length) none)) _)=p;intro r;cases p with
 | ok x=>obtain⟨v,h',e,a,b⟩:=r;exact⟨v,h',e,a,b⟩
 | exc c es=>exact r
 | no=>trivial
end
end Hv
end
section
namespace Hv
open PySem L2
noncomputable abbrev bC:=List Val->Pr FV
noncomputable def au(gs:List bC)(j:Nat):bC:=match gs[j]? with
 | some g=>g
 | none=>λ_=>.no
noncomputable def eN(fs:List Row)(gs:List bC):Prop:=fs.length=gs.length/\∀(j:Nat) (r:Row) (g:bC),fs[j]?=some r->gs[j]?=some g->Imp r.2.2 g
theorem Cf:eN [] []:=⟨rfl,λj r g e=>by simp at e⟩
theorem aI(a:eN fs gs)(j:Nat):Imp (look fs j) (au gs j):=by
 unfold look au;cases e:fs[j]? with
 | none =>
  have:gs[j]?=none:=by have:=List.getElem?_eq_none_iff.mp e;exact List.getElem?_eq_none_iff.mpr (by rw[<-a.1];exact this)
  rw[this];exact λ_ _ _ _ _ _=>trivial
 | some r =>
  cases e2:gs[j]? with
  | none=>exact λ_ _ _ _ _ _=>trivial
  | some g=>exact a.2 j r g e e2
theorem aK{k:Nat}(a:eN fs gs)(i:Imp f g):eN (fs++[(x,k,f)]) (gs++[g]):=by
 refine⟨by simp[a.1],λj r g' e1 e2=>?_⟩
 by_cases hj:j<fs.length
 ·rw[getElem?_append_left hj] at e1;rw[getElem?_append_left (by rw[<-a.1];exact hj)] at e2;exact a.2 j r g' e1 e2
 ·rw[getElem?_append_right (by omega)] at e1
  rw[getElem?_append_right (by rw[<-a.1];omega)] at e2;have hj0:j-fs.length=0:=by have:=(List.getElem?_eq_some_iff.mp e1).1;simp at this;omega
  rw[<-a.1] at e2;rw[hj0] at e1 e2;simp at e1 e2;subst e1;subst e2;exact i
theorem Cg(i:Imp φ ψ){ns:List Int}{f:Bool}(e:ψ [.rl (ns.map .int)]=.ok (f,.bl true)):∃h',φ [.rl (ns.map .int)] []=.ok (.bl true) h':=by
 have r:=i (λ_=>True) [] [.rl (ns.map .int)] [.rl (ns.map .int)] (λ_ _=>trivial) (ak.cons (by rw[Dn];exact .inl ⟨_,rfl,trivial,(aW _ _ (bE ns)).mpr rfl⟩) ak.nil);rw[e] at r;obtain⟨v,h',e1,_,q⟩:=r;have q:=q.1;dsimp only at q;rw[Dn] at q;subst q;exact⟨h',e1⟩
end Hv
end
section
namespace Hv
open PySem L2
section
variable {α β γ:Type}
theorem cA(a:α)(f:α -> Pr β):pb (.ok a) f=f a:=rfl
theorem Ci(c:Prop)[Decidable c](m n:Pr α)(f:α -> Pr β):pb (if c then m else n) f=if c then pb m f else pb n f:=by split<;>rfl
theorem pM(m:Pr α)(f:α -> Pr β)(g:β -> Pr γ):pb (pb m f) g=pb m λx=>pb (f x) g:=by cases m<;>rfl
theorem gD(a:α):pl (some a)=.ok a:=rfl
theorem sZ(m:Pr α):pg true m=m:=rfl
theorem Cj(c:Prop)[Decidable c](m:Pr α):pg (decide c) m=if c then m else .no:=by unfold pg;simp
theorem tu{c:Bool}(h:c=true)(m:Pr α):pg c m=m:=by rw[h];rfl
end
theorem yC{f:Bool}:rE (fu f d)=true:=by unfold fu;split<;>rfl
theorem Hg:rE .sh=true:=rfl
theorem Hh:rE .nw=true:=rfl
theorem Hi:rE .ow=false:=rfl
theorem Hj:LN .sh=false:=rfl
theorem Hl:LN .nw=true:=rfl
theorem tw{f:Bool}{i:Int}:fu f (.int i)=.sh:=by cases f<;>rfl
theorem Ho{f:Bool}{i:Bool}:fu f (.bl i)=.sh:=by cases f<;>rfl
theorem Ck{f:Bool}:fu f (.str i)=.sh:=by cases f<;>rfl
theorem Cm{f:Bool}:fu f .non=.sh:=by cases f<;>rfl
theorem NW:fu false d=.sh:=rfl
theorem Cn:fu true (.rl ds)=.nw:=rfl
theorem Hq:fu true (.dc ks ds)=.nw:=rfl
section
variable {a b:Int} {x y:Str} {t:Bool} {vs ws:List Val} {v:Val}
theorem Hr:j3 .add (.int a) (.int b)=.ok (true,.int (a+b)):=rfl
theorem Ht:j3 .sub (.int a) (.int b)=.ok (true,.int (a-b)):=rfl
theorem Hu(h:kh a b=true):j3 .mul (.int a) (.int b)=.ok (true,.int (a*b)):=by simp only[j3];exact tu h _
theorem iM(h:jh b=true):j3 .fdiv (.int a) (.int b)=.ok (true,.int (a/b)):=by simp only[j3];exact tu h _
theorem jA(h:decide (0<b)=true):j3 .mod (.int a) (.int b)=.ok (true,.int (a%b)):=by simp only[j3];exact tu h _
theorem Hw(h:decide (0<=b/\b<=1000000/\a.natAbs<2 ^ 64)=true):j3 .pow (.int a) (.int b)=.ok (true,.int (a ^ b.toNat)):=by simp only[j3];exact tu h _
theorem NX:cop [] .lt (.int a) (.int b)=some (decide (a<b)):=rfl
theorem NY:cop [] .le (.int a) (.int b)=some (decide (a<=b)):=rfl
theorem NZ:cop [] .gt (.int a) (.int b)=some (decide (b<a)):=rfl
theorem N1:cop [] .ge (.int a) (.int b)=some (decide (b<=a)):=rfl
theorem N2:cop [] .eq (.int a) (.int b)=some (decide (a=b)):=by
 show some (a==b)=_
 congr 1
theorem N3:cop [] .ne (.int a) (.int b)=some (!decide (a=b)):=by
 show some (!(a==b))=_
 congr 1
theorem Hx:cop [] .isn v .non=some (oZ v):=by cases v<;>rfl
theorem Hy:cop [] .ntn v .non=some (!oZ v):=by cases v<;>rfl
theorem yD:cX [] (.bl t)=some t:=rfl
theorem Hz:cX [] (.int a)=some (a != 0):=rfl
theorem HD:cX [] (.rl vs)=some (!vs.isEmpty):=rfl
theorem HE:cX [] (.tup vs)=some (!vs.isEmpty):=rfl
theorem HF:f6 .len [.rl vs]=.ok (true,.int vs.length):=rfl
theorem HG:f6 .len [.tup vs]=.ok (true,.int vs.length):=rfl
theorem HH:f6 .min [.int a,.int b]=.ok (true,.int (if b<a then b else a)):=rfl
theorem HJ:f6 .max [.int a,.int b]=.ok (true,.int (if b>a then b else a)):=rfl
theorem Co:f6 .min [.tup [.int a,.int b]]=.ok (true,.int (min a b)):=rfl
theorem Cp:f6 .max [.tup [.int a,.int b]]=.ok (true,.int (max a b)):=rfl
theorem Cq:f6 .list [.rl vs]=.ok (bI vs,.rl vs):=rfl
theorem Cr:f6 .list [.tup vs]=.ok (bI vs,.rl vs):=rfl
theorem HK:f6 .int [.bl t]=.ok (true,.int (if t=true then 1 else 0)):=rfl
theorem nk(h:jd vs a=some v):ja [] (.rl vs) (.int a)=some v:=h
theorem fL(h:jd vs a=some v):ja [] (.tup vs) (.int a)=some v:=h
end
theorem xh:jd (v::vs) (0:Int)=some v:=by
 have:=kT (xs:=v::vs) (j:=0) (v:=v) rfl;exact this
theorem pN:jd (u::v::vs) (1:Int)=some v:=by
 have:=kT (xs:=u::v::vs) (j:=1) (v:=v) rfl;exact this
theorem Ad{T:String}{t:String}(h1:uA [] v=some t)(h2:uB T t=some true):f6 (.isin T) [v]=.ok (true,.bl true):=by
 show pb (pl (uA [] v)) _=_;rw[h1,gD,cA,h2];rfl
theorem xj{T:String}{t:String}(h1:uA [] v=some t)(h2:uB T t=some false):f6 (.isin T) [v]=.ok (true,.bl false):=by
 show pb (pl (uA [] v)) _=_;rw[h1,gD,cA,h2];rfl
theorem ne_self(h:toD 16 [] d=some p)(hp:p.canLay0=true):cop [] .ne d d=some false:=by
 simp only[cop,Ax,h,bind_some];rw[SeqAt.eqv_refl p hp];rfl
end Hv
end
section
namespace Hv
open PySem L2
theorem gf:ju .seq [.rl vs]=some vs:=rfl
theorem Cs:BY .seq ds=ju .seq ds:=rfl
theorem Ct:BY .range ds=ju .range ds:=rfl
theorem Cu:BY .enum ds=ju .enum ds:=rfl
theorem N4:ju .enum [.rl vs]=some (cI 0 vs):=rfl
theorem HL{lo hi:Option Int}:z9 (.rl vs) lo hi=.ok (bI (cY vs lo hi),.rl (cY vs lo hi)):=rfl
theorem cM{i:Nat}:f7 (.one i) d env=some (env.set i (some (.sh,d))):=rfl
theorem K2{i j:Nat}:f7 (.tup [i,j]) (.tup [d,e]) env=some ((env.set i (some (.sh,d))).set j (some (.sh,e))):=rfl
theorem u6{α β:Type}(f:α -> β)(ds:List α)(lo hi:Option Int):cY (ds.map f) lo hi=(cY ds lo hi).map f:=by
 unfold cY;simp only[length_map,List.map_take,List.map_drop]
theorem Cv{α:Type}(ds:List α)(lo hi:Option Int):(cY ds lo hi).length<=ds.length:=by
 unfold cY;simp only[length_take,length_drop];omega
theorem jT:∀(i:Nat) (ds:List Val),(cI i ds).length=ds.length
 | _,[]=>rfl
 | i,d::r=>by rw[cI,length_cons,jT (i+1) r,length_cons]
theorem lB{α β γ:Type}{f:β -> Option γ}{g:α -> β}{k:α -> γ}:∀(xs:List α),(∀x∈xs,f (g x)=some (k x))->cj f (xs.map g)=some (xs.map k)
 | [],_=>rfl
 | x::r,h=>by
  rw[map_cons,cj,h x mem_cons_self,lB r λy hy=>h y (mem_cons_of_mem _ hy)];rfl
theorem ints_map(xs:List Int):aS (xs.map .int)=some xs:=by
 have:=lB (f:=λv=>match v with|.int i=>some i|_=>none) (g:=Val.int) (k:=id) xs λ_ _=>rfl;rw[map_id] at this;exact this
theorem xm(nQ:List (List Int))(h:∀k∈nQ,k≠[])(hl:nQ.length<64):eu (nQ.map kZ)=some ((kY nQ).map kZ):=by
 unfold eu;rw[if_pos (by rw[length_map];exact hl)];cases nQ with
 | nil=>rfl
 | cons k r =>
  have e:aS (List.map kZ (k::r))=none:=by unfold aS ;rw[map_cons,cj];rfl
  rw[e];have e2:kg (List.map kZ (k::r))=some (k::r):=by
   have:=lB (f:=λv=>match v with|.tup vs=>if vs.isEmpty then none else aS vs|_=>none) (g:=kZ) (k:=id) (k::r) λx hx=>by
    have hx:=h x hx;show (if (x.map Val.int).isEmpty=true then none else aS (x.map .int))=some x;rw[if_neg (by simpa using hx),ints_map]
   rw[map_id] at this;exact this
  show (kg (List.map kZ (k::r))).bind _=_;rw[e2];rfl
theorem Cw{α:Type}{n:Nat}(f:α -> Val)(g:α -> PyData)(xs:List α)(e:∀x∈xs,toD n h (f x)=some (g x)):toD (n+1) h (.rl (xs.map f))=some (.list (xs.map g)):=by
 show (cj (toD n h) _).bind _=_;rw[lB xs e];rfl
theorem pO{α:Type}(g:α -> PyData):∀(xs:List α),(∀x∈xs,(g x).canLay0=true)->PyData.canLayAll0 (xs.map g)=true
 | [],_=>by simp[PyData.canLayAll0]
 | x::r,h=>by
  rw[map_cons,PyData.canLayAll0,h x mem_cons_self,pO g r λy hy=>h y (mem_cons_of_mem _ hy)];rfl
end Hv
end
section
namespace Hv
open PySem L2
theorem rH{α:Type}(enc:α -> Val)(Q:List α -> bz->Prop):∀(us done:List α) (env:bz),Q done env->(∀(pre:List α) (u:α) (post:List α) (env:bz),done++us=pre++u::post->Q pre env->∃env',body (enc u) env=.ok (.nx env')/\Q (pre++[u]) env')->∃env',mJ body (us.map enc) env=.ok (.nx env')/\Q (done++us) env'
 | [],done,env,q,_=>⟨env,rfl,by rw[append_nil];exact q⟩
 | x::xs,done,env,q,h=>by
  obtain⟨env',e,q'⟩:=h done x xs env rfl q;have eq:done++x::xs=done++[x]++xs:=by simp
  obtain⟨kF,e2,q2⟩:=rH enc Q xs (done++[x]) env' q' (by rw[<-eq];exact h);refine⟨kF,?_,by rw[eq];exact q2⟩;rw[map_cons,mJ,e,cA];exact e2
theorem cT{α:Type}(enc:α -> Val){us:List α}{oz:bz}{β:Type}{k:Fj->Pr β}(G:Pr β -> Prop)(Q:List α -> bz->Prop)(h0:Q [] oz)
  (step:∀(pre:List α) (u:α) (post:List α) (env:bz),us=pre++u::post->Q pre env->∃env',body (enc u) env=.ok (.nx env')/\Q (pre++[u]) env')
  (post:∀env',Q us env'->G (k (.nx env'))):G (pb (mJ body (us.map enc) oz) k):=by
 obtain⟨env',e,q⟩:=rH enc Q us [] oz h0 (λpre x post env ep q=>step pre x post env ep q);rw[e,cA];exact post env' q
theorem eO:∀{l m:List Int},l.Nodup->(∀x∈l,x∈m)->l.length<=m.length
 | [],_,_,_=>zero_le _
 | x::r,m,h,hs=>by
  rw[nodup_cons] at h;have hx:x∈m:=hs x mem_cons_self;have:=eO (m:=m.erase x) h.2 λy hy=>(List.mem_erase_of_ne (λe:y=x=>h.1 (e▸hy))).mpr (hs y (mem_cons_of_mem _ hy));rw[List.length_erase_of_mem hx] at this;have:=List.length_pos_of_mem hx;rw[length_cons];omega
noncomputable abbrev tN(xs:List Int)(g:Int->Val):Val:=.dc (xs.map Sum.inl) (xs.map g)
noncomputable def u7(g:Int->Val)(x:Int)(v:Val):Int->Val:=λy=>if y=x then v else g y
theorem xq(xs:List Int)(g:Int->Val):(xs.map (Sum.inl:Int->Key)).zip (xs.map g)=xs.map λx=>((Sum.inl x:Key),g x):=by
 induction xs with
 | nil=>rfl
 | cons x r ih=>simp only[map_cons,zip_cons_cons,ih]
theorem pP{xs:List Int}{x:Int}(h:x∈xs):ja [] (tN xs g) (.int x)=some (g x):=by
 show bN _ _=_;rw[xq];unfold bN
 induction xs with
 | nil=>simp at h
 | cons y r ih =>
  rw[map_cons,find?_cons]
  by_cases e:y=x
  ·subst e;simp
  ·have:((Sum.inl y:Key)=Sum.inl x)=False:=by simp[e]
   simp only[this,decide_false];exact ih (by rcases mem_cons.mp h with h|h;exact absurd h.symm e;exact h)
theorem xr(xs:List Int)(g:Int->Val)(x:Int):((xs.map λx=>((Sum.inl x:Key),g x)).any λkv=>decide (kv.1=Sum.inl x))=decide (x∈xs):=by
 induction xs with
 | nil=>rfl
 | cons y r ih =>
  rw[map_cons,any_cons,ih]
  by_cases e:y=x
  ·subst e;simp
  ·have e':¬ x=y:=λh=>e h.symm;simp[e,e']
theorem FL{xs:List Int}{x:Int}(h:x∈xs):putD (xs.map Sum.inl) (xs.map g) (.inl x) v=tN xs (u7 g x v):=by
 unfold putD fY;rw[xq,xr,if_pos (by simpa using h)];unfold tN;rw[map_map,map_map]
 congr 1
 ·refine map_congr_left λy _=>?_
  show ((if (Sum.inl y:Key)=Sum.inl x then ((Sum.inl y:Key),v) else (Sum.inl y,g y)).1)=_
  split<;>rfl
 ·rw[map_map,map_map]
  refine map_congr_left λy _=>?_;show ((if (Sum.inl y:Key)=Sum.inl x then ((Sum.inl y:Key),v) else (Sum.inl y,g y)).2)=_;unfold u7
  by_cases e:y=x
  ·rw[if_pos (by rw[e]),if_pos e]
  ·rw[if_neg (by simpa using e),if_neg e]
theorem FN{xs:List Int}{x:Int}(h:x∉xs):putD (xs.map Sum.inl) (xs.map g) (.inl x) v=tN (xs++[x]) (u7 g x v):=by
 unfold putD fY;rw[xq,xr,if_neg (by simpa using h)];unfold tN;simp only[map_append,map_map,map_cons,map_nil]
 congr 1
 congr 1
 ·refine map_congr_left λy hy=>?_;show g y=u7 g x v y;unfold u7;rw[if_neg (λe:y=x=>h (e▸hy))]
 ·simp[u7]
theorem jU{xs:List Int}(h:∀x∈xs,g x=g' x):tN xs g=tN xs g':=by
 unfold tN;rw[map_congr_left h]
theorem yE{x:Int}:keyOf (.int x)=some (.inl x):=rfl
theorem FO(a b:Int):PyData.eqv (.int a) (.int b)=decide (a=b):=by
 show (a==b)=_
 by_cases h:a=b<;>simp[h]
theorem N5{xs:List Int}{x:Int}:cop [] .BA (.int x) (.rl (xs.map .int))=some (decide (x∈xs)):=by
 show (toD 16 [] (.rl (xs.map .int))).bind _=_;rw[Cw Val.int PyData.int xs λ_ _=>rfl];show some ((xs.map PyData.int).any λy=>PyData.eqv y (.int x))=_
 congr 1
 induction xs with
 | nil=>rfl
 | cons y r ih =>
  rw[map_cons,any_cons,ih,FO]
  by_cases e:y=x
  ·subst e;simp
  ·have e':¬ x=y:=λh=>e h.symm;simp[e,e']
theorem K3{xs:List Int}{x:Int}:cop [] .nin (.int x) (.rl (xs.map .int))=some (!decide (x∈xs)):=by
 show (cop [] .BA (.int x) (.rl (xs.map .int))).map _=_;rw[N5];rfl
theorem pQ(x:Int):∀(ns ks:List Int),x∈dM ks ns↔x∈ks\/x∈ns
 | [],ks=>by simp[dM]
 | k::r,ks=>by
  rw[dM,pQ x r,oU]
  split
  ·rename_i h
   constructor
   ·rintro(h'|h')
    ·exact .inl h'
    ·exact .inr (mem_cons_of_mem _ h')
   ·rintro(h'|h')
    ·exact .inl h'
    ·rcases mem_cons.mp h' with h'|h'
     ·exact .inl (h'▸h)
     ·exact .inr h'
  ·simp[or_assoc]
theorem eV:∀(ns ks:List Int),ks.Nodup->(dM ks ns).Nodup
 | [],ks,h=>h
 | k::r,ks,h=>by
  rw[dM];refine eV r _ ?_;rw[oU]
  split
  ·exact h
  ·rename_i hk;rw[nodup_append];exact⟨h,by simp,λa ha b hb=>by simp at hb;subst hb;exact λe=>hk (e▸ha)⟩
noncomputable def gu(ns:List Int):List Int:=PySem.W.sortI (dM [] ns)
theorem Cy(x:Int)(ns:List Int):x∈gu ns↔x∈ns:=by
 unfold gu;rw[(sortI_perm _).mem_iff,pQ];simp
theorem iN(ns:List Int):(gu ns).Nodup:=by
 unfold gu;rw[(sortI_perm _).nodup_iff];exact eV ns [] nodup_nil
inductive Way (es:List (Int×Int)):Int->Int->Prop
 | refl (a:Int):Way es a a
 | fwd {a b c:Int}:Way es a b->(b,c)∈es->Way es a c
 | bwd {a b c:Int}:Way es a b->(c,b)∈es->Way es a c
theorem Way.trans{a b c:Int}(h:Way es a b)(k:Way es b c):Way es a c:=by
 induction k with
 | refl=>exact h
 | fwd _ m ih=>exact .fwd ih m
 | bwd _ m ih=>exact .bwd ih m
theorem Way.symm{a b:Int}(h:Way es a b):Way es b a:=by
 induction h with
 | refl=>exact .refl _
 | fwd _ m ih=>exact(Way.bwd (.refl _) m).trans ih
 | bwd _ m ih=>exact(Way.fwd (.refl _) m).trans ih
theorem Way.mono(hs:∀e∈es,e∈fs){a b:Int}(h:Way es a b):Way fs a b:=by
 induction h with
 | refl=>exact .refl _
 | fwd _ m ih=>exact .fwd ih (hs _ m)
 | bwd _ m ih=>exact .bwd ih (hs _ m)
theorem Way.const{α:Type}(f:Int -> α)(hf:∀e∈es,f e.1=f e.2){a b:Int}(h:Way es a b):f a=f b:=by
 induction h with
 | refl=>rfl
 | fwd _ m ih=>exact ih.trans (hf _ m)
 | bwd _ m ih=>exact ih.trans (hf _ m).symm
structure ki (ps:List Int) (es:List (Int×Int)) (f:Int->Int):Prop where
 BA:∀x∈ps,f x∈ps
 way:∀x∈ps,Way es x (f x)
 same:∀e∈es,f e.1=f e.2
theorem ki.iff{ps:List Int}(h:ki ps es f){x y:Int}(hx:x∈ps)(hy:y∈ps):f x=f y↔Way es x y:=by
 constructor
 ·intro e;have:=(h.way y hy).symm;rw[<-e] at this;exact(h.way x hx).trans this
 ·exact λw=>w.const f h.same
theorem ki.start(ps:List Int):ki ps [] id:=⟨λx h=>h,λx _=>.refl x,λe h=>by simp at h⟩
theorem ki.step{ps:List Int}(h:ki ps es f){a b:Int}(ha:a∈ps)(hb:b∈ps)(kept gone:Int)(hk:(kept=f a/\gone=f b)\/(kept=f b/\gone=f a)):ki ps (es++[(a,b)]) (λx=>if f x=gone then kept else f x):=by
 have up:∀{x y},Way es x y->Way (es++[(a,b)]) x y:=λw=>w.mono λe he=>mem_append_left _ he;have ab:Way (es++[(a,b)]) a b:=.fwd (.refl _) (by simp);refine⟨λx hx=>?_,λx hx=>?_,λe he=>?_⟩
 ·split
  ·rcases hk with ⟨k,_⟩|⟨k,_⟩<;>rw[k]<;>exact h.BA _ (by assumption)
  ·exact h.BA x hx
 ·split
  ·rename_i e
   have w1:=up (h.way x hx);rw[e] at w1;refine w1.trans ?_
   rcases hk with ⟨k,g⟩|⟨k,g⟩
   ·rw[k,g];exact((up (h.way b hb)).symm.trans ab.symm).trans (up (h.way a ha))
   ·rw[k,g];exact((up (h.way a ha)).symm.trans ab).trans (up (h.way b hb))
  ·exact up (h.way x hx)
 ·rcases mem_append.mp he with he|he
  ·rw[h.same e he]
  ·rw[mem_singleton] at he
   subst he
   rcases hk with ⟨k,g⟩|⟨k,g⟩
   ·rw[k,g];rw[if_pos (rfl:f b=f b)];split<;>rfl
   ·rw[k,g];rw[if_pos (rfl:f a=f a)];split<;>rfl
end Hv
end
section
namespace Hv
open PySem L2
noncomputable abbrev T3:=Int×Int×Int
noncomputable def l3(t:T3):List Int:=[t.1,t.2.1,t.2.2]
noncomputable def bG(t:T3):Val:=.tup [.int t.1,.int t.2.1,.int t.2.2]
noncomputable def pR(x:T3):List T3->List T3
 | []=>[x]
 | y::r=>if HT.lexLt (l3 y) (l3 x)=true then y::pR x r else x::y::r
noncomputable def gg:List T3->List T3
 | []=>[]
 | x::r=>pR x (gg r)
theorem u9(x:T3):∀l:List T3,sI (l3 x) (l.map l3)=(pR x l).map l3
 | []=>rfl
 | y::r=>by
  rw[map_cons,sI,pR]
  split
  ·rw[map_cons,u9 x r]
  ·rfl
theorem rJ:∀l:List T3,kY (l.map l3)=(gg l).map l3
 | []=>rfl
 | x::r=>by rw[map_cons,kY,rJ r,u9];rfl
theorem mK(x:T3):∀l:List T3,(pR x l).Perm (x::l)
 | []=>.refl _
 | y::r=>by
  rw[pR]
  split
  ·exact((mK x r).cons y).trans (List.Perm.swap ..)
  ·exact .refl _
theorem eW:∀l:List T3,(gg l).Perm l
 | []=>.refl _
 | x::r=>(mK x _).trans ((eW r).cons x)
theorem FP(ts:List T3)(hl:ts.length<64):eu (ts.map bG)=some ((gg ts).map bG):=by
 have e:∀us:List T3,us.map bG=(us.map l3).map kZ:=λus=>by rw[map_map];rfl
 rw[e,xm _ (λk hk=>by obtain⟨t,_,rfl⟩:=mem_map.mp hk;simp[l3]) (by rw[length_map];exact hl),rJ,e]
theorem vc(hl:ts.length<64):f6 .sorted [.rl (ts.map bG)]=.ok (true,.rl ((gg ts).map bG)):=by
 show pb (pl (eu _)) _=_;rw[FP ts hl];rfl
noncomputable def xu(ts:List T3):Prop:=ts.Pairwise λa b=>a.1<b.1
theorem yF(x:T3):∀l:List T3,xu l->(∀y∈l,y.1≠x.1)->xu (pR x l)
 | [],_,_=>by simp[pR,xu]
 | y::r,h,hn=>by
  unfold xu at *;rw[pairwise_cons] at h;have ny:y.1≠x.1:=hn y mem_cons_self;rw[pR];have lx:HT.lexLt (l3 y) (l3 x)=decide (y.1<x.1):=by show HT.lexLt (y.1::_) (x.1::_)=_;rw[HT.eE,if_neg ny]
  rw[lx]
  by_cases c:y.1<x.1
  ·rw[if_pos (by simpa using c),pairwise_cons]
   refine⟨λz hz=>?_,yF x r h.2 λz hz=>hn z (mem_cons_of_mem _ hz)⟩
   rcases mem_cons.mp ((mK x r).mem_iff.mp hz) with hz|hz
   ·rw[hz];exact c
   ·exact h.1 z hz
  ·rw[if_neg (by simpa using c),pairwise_cons,pairwise_cons]
   refine⟨λz hz=>?_,h⟩;have:x.1<y.1:=by omega
   rcases mem_cons.mp hz with hz|hz
   ·rw[hz];exact this
   ·have:=h.1 z hz;omega
theorem vd:∀l:List T3,(l.map (·.1)).Nodup->xu (gg l)
 | [],_=>.nil
 | x::r,h=>by
  rw[map_cons,nodup_cons] at h;refine yF x _ (vd r h.2) λy hy e=>h.1 ?_;rw[(eW r).mem_iff] at hy;exact mem_map.mpr ⟨y,hy,e⟩
noncomputable def turnT(t:T3):T3:=(t.1,if t.2.2<t.2.1 then t.2.2 else t.2.1,if t.2.2>t.2.1 then t.2.2 else t.2.1)
noncomputable def bh(p q:Int)(ts:List T3):Val:=.tup [.tup [.int p,.int q],.rl (ts.map bG)]
theorem nV{i j k:Nat}:f7 (.tup [i,j,k]) (bG t) env=some (((env.set i (some (.sh,.int t.1))).set j (some (.sh,.int t.2.1))).set k (some (.sh,.int t.2.2))):=rfl
theorem Ae{α:Type}(ds:List α)(lo:Int)(n:Nat)(h:0<=lo):(cY ds (some lo) (some (lo+n))).length<=n:=by
 unfold cY HT.dQ;dsimp only;rw[if_neg (by omega),if_neg (by omega)];simp only[length_take,length_drop];omega
theorem K4:z9 (bG t) (some 1) none=.ok (true,.tup [.int t.2.1,.int t.2.2]):=rfl
theorem pS{α:Type}(enc:α -> Val)(g:α -> FV):∀(us:List α),(∀u∈us,f (enc u)=.ok (some (g u)))->iU f (us.map enc)=.ok (us.all λu=>(g u).1,us.map λu=>(g u).2)
 | [],_=>rfl
 | x::xs,h=>by
  rw[map_cons,iU,h x mem_cons_self,cA,pS enc g xs λy hy=>h y (mem_cons_of_mem _ hy),cA];rfl
theorem kH{α:Type}(enc dec:α -> Val)(us:List α)(h:∀u∈us,f (enc u)=.ok (some (true,dec u))):iU f (us.map enc)=.ok (true,us.map dec):=by
 rw[pS enc (λu=>(true,dec u)) us h];simp
theorem gh{α:Type}(enc dec:α -> Val)(t:α -> Bool):∀(us:List α),(∀u∈us,f (enc u)=.ok (if t u=true then some (true,dec u) else none))->iU f (us.map enc)=.ok (true,(us.filter t).map dec)
 | [],_=>rfl
 | x::xs,h=>by
  rw[map_cons,iU,h x mem_cons_self,cA,gh enc dec t xs λy hy=>h y (mem_cons_of_mem _ hy),cA]
  by_cases hx:t x=true
  ·rw[if_pos hx,filter_cons_of_pos hx];rfl
  ·rw[if_neg hx,List.filter_cons_of_neg hx]
theorem FQ:∀m,m<67->∀d,d<67->0<m->0<d->(m*d)%67≠0:=by decide +kernel
theorem FT{m c i j:Int}(hm:0<m/\m<67)(hi:0<=i/\i<67)(hj:0<=j/\j<67)(e:(m*i+c)%67=(m*j+c)%67):i=j:=by
 have key:∀i j:Int,0<=i->j<67->i<j->(m*i+c)%67=(m*j+c)%67->False:=by
  intro i j h0 h1 hlt e;obtain⟨a,ha⟩:=Int.eq_ofNat_of_zero_le (show 0<=m by omega);obtain⟨d,hd⟩:=Int.eq_ofNat_of_zero_le (show 0<=j-i by omega);have p:=FQ a (by omega) d (by omega) (by omega) (by omega);have:m*j=m*i+m*(j-i):=by rw[Int.mul_sub];omega
  rw[this] at e;have e2:(m*(j-i))%67=0:=by omega
  rw[ha,hd] at e2;apply p;have:((a*d:Nat):Int)%67=0:=by rw[Int.natCast_mul];exact e2
  omega
 rcases Int.lt_trichotomy i j with h|h|h
 ·exact(key i j hi.1 hj.2 h e).elim
 ·exact h
 ·exact(key j i hj.1 hi.2 h e.symm).elim
theorem pT{α:Type}{f:Hs->Option α}{a:α}(e:f h=some a):ask f h=.ok a h:=by show (match f h with|some a=>Out.ok a h|none=>Out.no)=_;rw[e]
theorem iO{α β:Type}{f:Hs->Option α}{g:α -> M β}{a:α}(e:f h=some a):bnd (ask f) g h=g a h:=ao (pT e)
theorem nW{α β:Type}{o:Option α}{g:α -> M β}{a:α}(e:o=some a):bnd (bg o) g h=g a h:=ao (by unfold bg;rw[e])
end Hv
end
section
namespace Hv
open PySem L2
noncomputable def DL:Val->Option (Int×Int×Int)
 | .tup [.int a,.int b,.int c]=>some (a,b,c)
 | _=>none
noncomputable def iy(kvs:List (Key×Val))(t:Int×Int×Int):List (Key×Val):=fY kvs (.inl t.1) (.tup [.int t.2.1,.int t.2.2])
noncomputable def bK(p q:Int)(ts:List (Int×Int×Int)):List (Key×Val):=ts.foldl iy [(.inl (-1),.tup [.int p,.int q])]
noncomputable def kj(Ψ:Nat->List Val->Pr FV)(c jo jp:Nat)(ds:List Val):Pr FV:=match ds with
 | [net]=>(match Ψ jo [net] with
  | .ok (true,.tup [.tup [.int p,.int q],.rl ts])=>pb (pl (cj DL ts)) λes=>pg (decide (es.length<1000)) (match Ψ jp [.tup [.tup [.int p,.int q],.rl ts]] with
   | .ok (true,y)=>.ok (true,.ob c ["net","places","ends"] [.tup [.tup [.int p,.int q],.rl ts],y,.dc ((bK p q es).map (·.1)) ((bK p q es).map (·.2))])
   | _=>.no)
  | _=>.no)
 | _=>.no
noncomputable abbrev pU(n jo jp:Nat):fM:=.cons (.setF n (.var 0) "net" (.call jo (.cons (.var 1) .nil))) (.cons (.setF n (.var 0) "places" (.call jp (.cons (.fld n (.var 0) "net") .nil))) (.cons (.setF n (.var 0) "ends" (.dct1 (.con "THOUGHT" (.int (-1))) (.idx (.fld n (.var 0) "net") (.cst (.int 0)))))
 (.cons (.for (.tup [2,3,4]) .seq (.cons (.idx (.fld n (.var 0) "net") (.cst (.int 1))) .nil) (.cons (.gu (.fld n (.var 0) "ends") (.var 2) (.tup (.cons (.var 3) (.cons (.var 4) .nil)))) .nil)) .nil)))
noncomputable def yG(t:Int×Int×Int):Val:=.tup [.int t.1,.int t.2.1,.int t.2.2]
theorem FU(e:DL v=some t):v=yG t:=by
 unfold DL at e;split at e
 ·cases e;rfl
 ·cases e
theorem ve:∀{vs:List Val} {ts:List (Int×Int×Int)},cj DL vs=some ts->vs=ts.map yG
 | [],ts,e=>by cases e;rfl
 | v::vs,ts,e=>by
  rw[cj] at e;obtain⟨t,e1,e⟩:=bind_eq_some_iff.mp e;obtain⟨r,e2,e⟩:=bind_eq_some_iff.mp e;cases e;rw[FU e1,ve e2];rfl
theorem tB:∀ts:List (Int×Int×Int),bI (ts.map yG)=true
 | []=>rfl
 | t::r=>by rw[map_cons,bI,tB r];rfl
theorem Cz(kvs:List (Key×Val))(k:Key)(v:Val):(fY kvs k v).length<=kvs.length+1:=by
 unfold fY
 split
 ·rw[length_map];omega
 ·rw[length_append];simp
theorem CA(hv:iE v=true)(kvs:List (Key×Val))(h:∀kv∈kvs,iE kv.2=true):∀kv∈fY kvs k v,iE kv.2=true:=by
 unfold fY;intro kv hk;split at hk
 ·obtain⟨z,hz,rfl⟩:=mem_map.mp hk
  split
  ·exact hv
  ·exact h z hz
 ·rcases mem_append.mp hk with hk|hk
  ·exact h kv hk
  ·rw[mem_singleton.mp hk];exact hv
theorem vf:∀(ts:List (Int×Int×Int)) (kvs:List (Key×Val)),(∀kv∈kvs,iE kv.2=true)->∀kv∈ts.foldl iy kvs,iE kv.2=true
 | [],kvs,h=>h
 | t::r,kvs,h=>vf r _ (CA rfl kvs h)
theorem vg:∀{vs:List Val},(∀v∈vs,iE v=true)->bI vs=true
 | [],_=>rfl
 | v::vs,h=>by rw[bI,h v mem_cons_self,vg λw hw=>h w (mem_cons_of_mem _ hw)];rfl
section
variable {Φ:Nat->List Val->M Val} {Ψ:Nat->List Val->Pr FV}
theorem rK{n c D L E:Nat}{ts:List (Int×Int×Int)}{fs:List (Str×Val)}(hc:c<n)(hf:fs.lookup ("ends":Str)=some (Val.ref E))(K5:ts.length<1000)(Uy:D≠E)(Rg:L≠E) :
  ∀(m j:Nat) (kvs:List (Key×Val)) (env:Env) (h h':Hs),m+j=ts.length->kvs.length<=j+1->env[0]?=some (some (.ref D))->4<env.length->h[D]?=some (.ins c fs)->h[L]?=some (.lst (ts.map yG))->h'.length=h.length->(∀k,k≠E->h'[k]?=h[k]?)->h'[E]?=some (.dct kvs) ->
  ∃env' h2,forM (.live L) (λx env=>bnd (bg (fG (.tup [2,3,4]) x env)) λenv'=>eG Φ (.cons (.gu (.fld n (.var 0) "ends") (.var 2) (.tup (.cons (.var 3) (.cons (.var 4) .nil)))) .nil) env') m j env h'=.ok (.nx env') h2 /\
   h2.length=h.length/\(∀k,k≠E->h2[k]?=h[k]?)/\h2[E]?=some (.dct ((ts.drop j).foldl iy kvs))
 | 0,j,kvs,env,h,h',hm,hk,he,hl,hD,hL,h1,h2,h3=>by
  refine⟨env,h',?_,h1,h2,?_⟩
  ·rw[forM,iO (a:=ts.map yG) (dj (by rw[h2 L Rg];exact hL))];unfold aD;rw[if_pos (decide_eq_true (by rw[length_map];omega))];rfl
  ·rw[List.drop_of_length_le (by omega)];exact h3
 | m+1,j,kvs,env,h,h',hm,hk,he,hl,hD,hL,h1,h2,h3=>by
  have hj:j<ts.length:=by omega
  have hE:E<h'.length:=(List.getElem?_eq_some_iff.mp h3).1
  let fP:Env:=((env.set 2 (some (.int ts[j].1))).set 3 (some (.int ts[j].2.1))).set 4 (some (.int ts[j].2.2))
  have b1:fG (.tup [2,3,4]) (yG ts[j]) env=some fP:=rfl;have g0:fP[0]?=some (some (.ref D)):=by show (((env.set 2 _).set 3 _).set 4 _)[0]?=_;rw[getElem?_set_ne (by omega),getElem?_set_ne (by omega),getElem?_set_ne (by omega)];exact he
  have g2:fP[2]?=some (some (.int ts[j].1)):=by show (((env.set 2 _).set 3 _).set 4 _)[2]?=_;rw[getElem?_set_ne (by omega),getElem?_set_ne (by omega),getElem?_set_self (by omega)]
  have g3:fP[3]?=some (some (.int ts[j].2.1)):=by show (((env.set 2 _).set 3 _).set 4 _)[3]?=_;rw[getElem?_set_ne (by omega),getElem?_set_self (by rw[length_set];omega)]
  have g4:fP[4]?=some (some (.int ts[j].2.2)):=by show (((env.set 2 _).set 3 _).set 4 _)[4]?=_;rw[getElem?_set_self (by rw[length_set,length_set];omega)]
  have Wh:aF Φ (.fld n (.var 0) "ends") fP h'=.ok (.ref E) h':=by rw[aF,ao (bO g0)];refine pT (f:=λh=>gJ n h (.ref D) "ends") ?_;unfold gJ;dsimp only;rw[h2 D Uy,hD];dsimp only;rw[if_pos hc];exact hf
  have Wi:aF Φ (.tup (.cons (.var 3) (.cons (.var 4) .nil))) fP h'=.ok (.tup [.int ts[j].2.1,.int ts[j].2.2]) h':=by
   rw[aF,ao (a:=[.int ts[j].2.1,.int ts[j].2.2]) (h1:=h')]
   ·unfold aD;rw[if_pos (decide_eq_true (show ([Val.int ts[j].2.1,Val.int ts[j].2.2]:List Val).length<=sizeLine from(by decide:2<=sizeLine)))];rfl
   ·rw[aV,ao (bO g3),aV];rw[show bnd (bnd (aF Φ (.var 4) fP) λd=>bnd (aV Φ .nil fP) λds=>ret (d::ds)) (λds=>ret (Val.int ts[j].2.1::ds)) h'=_ from ao (a:=[.int ts[j].2.2]) (h1:=h') (by rw[ao (bO g4),aV];rfl)];rfl
  have st:eG Φ (.cons (.gu (.fld n (.var 0) "ends") (.var 2) (.tup (.cons (.var 3) (.cons (.var 4) .nil)))) .nil) fP h'=.ok (.nx fP) (h'.set E (.dct (iy kvs ts[j]))):=by
   rw[eG,ao (a:=Fl.nx fP) (h1:=h'.set E (.dct (iy kvs ts[j])))]
   ·dsimp only;rw[eG];rfl
   ·rw[fS,ao Wi,ao Wh,ao (bO g2)]
    rw[ao (a:=()) (h1:=h'.set E (.dct (iy kvs ts[j])))]
    ·rfl
    ·unfold rm;dsimp only;rw[iO (f:=λh=>h[E]?) h3];dsimp only;rw[nW (o:=keyOf (.int ts[j].1)) (a:=.inl ts[j].1) rfl];unfold aD;rw[if_pos (decide_eq_true (by unfold sizeLine;omega))];rfl
  have hlen:(iy kvs ts[j]).length<=j+1+1:=le_trans (Cz _ _ _) (by omega);obtain⟨kF,h4,r1,r2,r3,r4⟩:=rK hc hf K5 Uy Rg m (j+1) (iy kvs ts[j]) fP h (h'.set E (.dct (iy kvs ts[j]))) (by omega) hlen g0 (by show 4<(((env.set 2 _).set 3 _).set 4 _).length;simp;omega) hD hL (by simp[h1])
   (λk hk=>by rw[getElem?_set_ne λz=>hk z.symm];exact h2 k hk) (getElem?_set_self hE)
  refine⟨kF,h4,?_,r2,r3,?_⟩
  ·rw[forM,iO (a:=ts.map yG) (dj (by rw[h2 L Rg];exact hL))]
   rw[show (ts.map yG)[j]?=some (yG ts[j]) by rw[getElem?_map,List.getElem?_eq_getElem hj];rfl];dsimp only;rw[ao (a:=Fl.nx fP) (h1:=h'.set E (.dct (iy kvs ts[j])))]
   ·exact r1
   ·rw[nW b1];exact st
  ·rw[List.drop_eq_getElem_cons hj,List.foldl_cons];exact r4
theorem nX{n c i:Nat}(hc:c<n)(g:h[i]?=some (.ins c fs))(hl:fs.length<1000):bnd (xX n (.ref i) x v) (λ_=>ret (Fl.nx env)) h=.ok (.nx env) (h.set i (.ins c (o5 x v fs))):=by
 unfold xX;dsimp only;rw[aZ,iO (a:=(c,fs)) (by rw[g];dsimp only;rw[if_pos hc])];dsimp only;unfold bnd aD;rw[if_pos (decide_eq_true hl)];rfl
theorem vh{n c jo jp:Nat}(hc:c<n)(hΦ:∀j,Imp (Φ j) (Ψ j)){p q':Int}(u:Up A h)(qn:Dn A h net v)(e1:Ψ jo [net]=.ok (true,.tup [.tup [.int p,.int q'],.rl ts]))(e2:cj DL ts=some es)(hz:es.length<1000)
  (e3:Ψ jp [.tup [.tup [.int p,.int q'],.rl ts]]=.ok (true,y)):∃(h8:Hs) (V1 v2 vE:Val),gY Φ 5 (pU n jo jp) [.ref h.length,v] (h++[Ob.ins c []])=.ok .non h8/\h<+:h8/\h8[h.length]?=some (.ins c [("net",V1),("places",v2),("ends",vE)]) /\
   ∀B:AP,(∀k,h.length+1<=k->B (some k))->ak B h8 [.tup [.tup [.int p,.int q'],.rl ts],y,.dc ((bK p q' es).map (·.1)) ((bK p q' es).map (·.2))] [V1,v2,vE]:=by
 have et:=ve e2;have Uz:h<+:h++[Ob.ins c []]:=prefix_append _ _;have u1:=u.ext Uz;have R1:=hΦ jo A (h++[Ob.ins c []]) [net] [v] u1 (ak.cons (qn.ext Uz) ak.nil);rw[e1] at R1;obtain⟨v1,h2,f1,Rh,_,dF⟩:=R1;have dA:=dF rfl;clear dF;have Kd:h2[h.length]?=some (.ins c []):=ck Rh (by simp);have l2:h.length+1<=h2.length:=by have:=Rh.length_le;simpa using this
 rw[Dn] at dA;obtain⟨ws,rfl,dB⟩:=dA;rw[ak] at dB;obtain⟨w0,r0,rfl,d0,d1⟩:=dB;obtain⟨w1,rfl,d5⟩:=ak.one d1;clear d1;have Wj:w0=.tup [.int p,.int q']:=(gO _ _ (show iE (.tup [.int p,.int q'])=true from rfl)).mp d0;subst Wj;rw[Dn] at d5
 rcases d5 with ⟨_,_,z,_⟩|⟨L,ws,rfl,aL,gL,d6⟩
 ·exact False.elim z
 rw[et] at d6;have Wk:ws=es.map yG:=(aW _ _ (tB es)).mp d6;subst Wk;have hL:(h++[Ob.ins c []]).length<=L:=aL;have hL':h.length+1<=L:=by simpa using hL
 have lL:L<h2.length:=(List.getElem?_eq_some_iff.mp gL).1
 let V1:Val:=.tup [.tup [.int p,.int q'],.ref L]
 let h3:Hs:=h2.set h.length (.ins c [("net",V1)])
 have LM:h3[h.length]?=some (.ins c [("net",V1)]):=getElem?_set_self (by omega);have UA:h3[L]?=some (.lst (es.map yG)):=by show (h2.set _ _)[L]?=_;rw[getElem?_set_ne (by omega)];exact gL
 have l3:h3.length=h2.length:=length_set;have UB:Dn (Fr (h.length+1)) h3 (.tup [.tup [.int p,.int q'],.rl ts]) V1:=by rw[Dn];refine⟨_,rfl,ak.cons ((gO _ _ (show iE (.tup [.int p,.int q'])=true from rfl)).mpr rfl) (ak.cons ?_ ak.nil)⟩;rw[Dn];exact .inr ⟨L,_,rfl,hL',UA,by rw[et];exact(aW _ _ (tB es)).mpr rfl⟩
 have R2:=hΦ jp (Fr (h.length+1)) h3 [.tup [.tup [.int p,.int q'],.rl ts]] [V1] (λk hk=>by show h.length+1<=k;omega) (ak.cons UB ak.nil);rw[e3] at R2;obtain⟨v2,h4,f2,N6,_,dG⟩:=R2;have d2:=dG rfl;clear dG;have Nb:h4[h.length]?=some (.ins c [("net",V1)]):=ck N6 LM;have l4:h3.length<=h4.length:=N6.length_le
 let h5:Hs:=h4.set h.length (.ins c [("net",V1),("places",v2)])
 have UC:h5[h.length]?=some (.ins c [("net",V1),("places",v2)]):=getElem?_set_self (by omega);have l5:h5.length=h4.length:=length_set
 let h6:Hs:=h5++[Ob.dct [(.inl (-1),.tup [.int p,.int q'])]]
 have Wl:h6[h.length]?=some (.ins c [("net",V1),("places",v2)]):=ck (prefix_append _ _) UC;have l6:h6.length=h5.length+1:=by show (h5++[_]).length=_;simp
 let FS:List (Str×Val):=[("net",V1),("places",v2),("ends",.ref h5.length)]
 let h7:Hs:=h6.set h.length (.ins c FS)
 have Ri:h7[h.length]?=some (.ins c FS):=getElem?_set_self (by omega);have l7:h7.length=h6.length:=length_set;have Wm:h7[h5.length]?=some (.dct [(.inl (-1),.tup [.int p,.int q'])]):=by show (h6.set _ _)[h5.length]?=_;rw[getElem?_set_ne (by omega)];show (h5++[_])[h5.length]?=_;simp
 have hk7:∀k,k≠h.length->k<h4.length->h7[k]?=h4[k]?:=λk n1 n2=>by
  show (h6.set _ _)[k]?=_;rw[getElem?_set_ne λz=>n1 z.symm];show (h5++[_])[k]?=_;rw[getElem?_append_left (by omega)];show (h4.set _ _)[k]?=_;rw[getElem?_set_ne λz=>n1 z.symm]
 have Wn:h4[L]?=some (.lst (es.map yG)):=ck N6 UA;have UD:h7[L]?=some (.lst (es.map yG)):=by rw[hk7 L (by omega) (by omega)];exact Wn
 let env:Env:=[some (.ref h.length),some v,none,none,none]
 have k1:("ends":Str) ≠ "net":=by decide
 obtain⟨env',h8,lp,l8,k8,d8⟩:=rK (Φ:=Φ) (fs:=FS) (ts:=es) hc (by rfl) hz (by omega) (by omega) es.length 0 [(.inl (-1),.tup [.int p,.int q'])] env h7 h7 (by omega) (by simp) rfl (by decide:4<5) Ri UD rfl (λ_ _=>rfl) Wm;have fldN:∀(g:Hs) (fs:List (Str×Val)),g[h.length]?=some (.ins c (("net",V1)::fs))->aF Φ (.fld n (.var 0) "net") env g=.ok V1 g:=λg fs hg=>by
  rw[aF,ao (bO rfl)];refine pT (f:=λh'=>gJ n h' (.ref h.length) "net") ?_;unfold gJ;dsimp only;rw[hg];dsimp only;rw[if_pos hc];rfl
 have s1:fS Φ (.setF n (.var 0) "net" (.call jo (.cons (.var 1) .nil))) env (h++[Ob.ins c []])=.ok (.nx env) h3:=by
  have e:aF Φ (.call jo (.cons (.var 1) .nil)) env (h++[Ob.ins c []])=.ok V1 h2:=by
   rw[aF,ao (a:=[v]) (h1:=h++[Ob.ins c []])]
   ·exact f1
   ·rw[aV,ao (bO rfl),aV];rfl
  rw[fS,ao e,ao (bO rfl)];exact nX hc Kd (by decide)
 have s2:fS Φ (.setF n (.var 0) "places" (.call jp (.cons (.fld n (.var 0) "net") .nil))) env h3=.ok (.nx env) h5:=by
  have e:aF Φ (.call jp (.cons (.fld n (.var 0) "net") .nil)) env h3=.ok v2 h4:=by
   rw[aF,ao (a:=[V1]) (h1:=h3)]
   ·exact f2
   ·rw[aV,ao (fldN h3 [] LM),aV];rfl
  rw[fS,ao e,ao (bO rfl)];exact nX hc Nb (by decide:1<1000)
 have s3:fS Φ (.setF n (.var 0) "ends" (.dct1 (.con "THOUGHT" (.int (-1))) (.idx (.fld n (.var 0) "net") (.cst (.int 0))))) env h5=.ok (.nx env) h7:=by
  have e0:aF Φ (.idx (.fld n (.var 0) "net") (.cst (.int 0))) env h5=.ok (.tup [.int p,.int q']) h5:=by rw[aF,ao (fldN h5 _ UC),ao (a:=.int 0) (h1:=h5) (by rw[aF];rfl)];rfl
  have e:aF Φ (.dct1 (.con "THOUGHT" (.int (-1))) (.idx (.fld n (.var 0) "net") (.cst (.int 0)))) env h5=.ok (.ref h5.length) h6:=by rw[aF,ao (a:=.int (-1)) (h1:=h5) (by rw[aF];rfl),nW (o:=keyOf (.int (-1))) (a:=.inl (-1)) rfl,ao e0];rfl
  rw[fS,ao e,ao (bO rfl)];exact nX hc Wl (by decide:2<1000)
 have s4:fS Φ (.for (.tup [2,3,4]) .seq (.cons (.idx (.fld n (.var 0) "net") (.cst (.int 1))) .nil) (.cons (.gu (.fld n (.var 0) "ends") (.var 2) (.tup (.cons (.var 3) (.cons (.var 4) .nil)))) .nil)) env h7=.ok (.nx env') h8:=by
  have e0:aF Φ (.idx (.fld n (.var 0) "net") (.cst (.int 1))) env h7=.ok (.ref L) h7:=by rw[aF,ao (fldN h7 _ Ri),ao (a:=.int 1) (h1:=h7) (by rw[aF];rfl)];rfl
  rw[fS,ao (a:=[.ref L]) (h1:=h7)]
  ·rw[nW (o:=srcOf .seq [.ref L]) (a:=.live L) rfl,iO (a:=es.map yG) (dj UD),length_map];exact lp
  ·rw[aV,ao e0,aV];rfl
 have run:gY Φ 5 (pU n jo jp) [.ref h.length,v] (h++[Ob.ins c []])=.ok .non h8:=by
  unfold gY;rw[ao (a:=Fl.nx env') (h1:=h8)]
  ·rfl
  ·show eG Φ (pU n jo jp) env _=_;rw[eG,ao s1];dsimp only;rw[eG,ao s2];dsimp only;rw[eG,ao s3];dsimp only;rw[eG,ao s4];dsimp only;rw[eG];rfl
 have Rj:∀k,k≠h.length->k<h4.length->h8[k]?=h4[k]?:=λk n1 n2=>(k8 k (by omega)).trans (hk7 k n1 n2);have hpre:h<+:h8:=by
  refine List.prefix_iff_getElem?.mpr λi hi=>?_;have Wo:i<h4.length:=by omega
  rw[Rj i (by omega) Wo];have:(h2.set h.length (.ins c [("net",V1)]))[i]?=h2[i]?:=getElem?_set_ne (by omega);have Wq:h4[i]?=h3[i]?:=iu N6 (by omega);rw[Wq,this,iu Rh (by simp;omega),getElem?_append_left hi,List.getElem?_eq_getElem hi]
 refine⟨h8,V1,v2,.ref h5.length,run,hpre,by rw[k8 _ (by omega)];exact Ri,λB hB=>ak.cons ?_ (ak.cons ?_ (ak.cons ?_ ak.nil))⟩
 ·refine Dn.mono (A:=Fr (h.length+1)) (h:=h3) (λo z=>?_) (λk o a g=>?_) _ _ UB
  ·cases o with
   | none=>exact False.elim z
   | some k=>exact hB k z
  ·have a:h.length+1<=k:=a;have:=(List.getElem?_eq_some_iff.mp g).1;rw[Rj k (by omega) (by omega)];exact ck N6 g
 ·refine Dn.mono (A:=Fr h3.length) (h:=h4) (λo z=>?_) (λk o a g=>?_) _ _ d2
  ·cases o with
   | none=>exact False.elim z
   | some k=>exact hB k (by have:h3.length<=k:=z;omega)
  ·have a:h3.length<=k:=a;have:=(List.getElem?_eq_some_iff.mp g).1;rw[Rj k (by omega) (by omega)];exact g
 ·rw[Dn]
  refine⟨h5.length,bK p q' es,rfl,hB _ (by omega),?_,rfl,?_⟩
  ·rw[List.drop_zero] at d8;exact d8
  ·refine(aW _ _ (vg λw hw=>?_)).mpr rfl;obtain⟨kv,hkv,rfl⟩:=mem_map.mp hw;exact vf es _ (λkv hk=>by rw[mem_singleton.mp hk];rfl) kv hkv
theorem CB{n c jo jp:Nat}(hc:c<n)(hΦ:∀j,Imp (Φ j) (Ψ j)):Imp (DH c (gY Φ 5 (pU n jo jp))) (kj Ψ c jo jp):=λA h ds vs u q=>by
 unfold kj
 split
 ·rename_i net
  obtain⟨v,rfl,qn⟩:=ak.one q
  split
  ·rename_i p q' ts e1
   cases e2:cj DL ts with
   | none=>trivial
   | some es =>
    show Rel A h (RV A h) _ (pg (decide (es.length<1000)) _)
    by_cases hz:es.length<1000
    ·unfold pg
     rw[if_pos (decide_eq_true hz)]
     split
     ·rename_i y e3
      obtain⟨h8,V1,v2,vE,r1,p8,g8,d8⟩:=vh (Ψ:=Ψ) hc hΦ u qn e1 e2 hz e3;have run:DH c (gY Φ 5 (pU n jo jp)) [v] h=.ok (.ref h.length) h8:=by show bnd (gY Φ 5 (pU n jo jp) [.ref h.length,v]) _ (h++[Ob.ins c []])=_;rw[ao r1];rfl
      have dn:∀B:AP,(∀k,h.length<=k->B (some k))->Dn B h8 (.ob c ["net","places","ends"] [.tup [.tup [.int p,.int q'],.rl ts],y,.dc ((bK p q' es).map (·.1)) ((bK p q' es).map (·.2))]) (.ref h.length):=λB hB=>by
       rw[Dn];exact⟨h.length,_,rfl,hB _ (le_refl _),g8,rfl,d8 B λk hk=>hB k (by omega)⟩
      exact⟨_,h8,run,p8,dn A λk hk=>u k hk,λ_=>dn _ λk hk=>hk⟩
     ·trivial
    ·unfold pg;rw[if_neg (by simpa using hz)];trivial
  ·trivial
 ·trivial
noncomputable def rL(Ψ' Ψ:Nat->List Val->Pr FV)(c jo jp jt jr:Nat)(ds:List Val):Pr FV:=match kj Ψ' c jo jp ds with
 | .ok (_,.ob c' ns vs)=>(match Ψ jt [.ob c' ns vs] with
  | .ok (_,t)=>(match Ψ jr [.ob c' ns vs,t] with
   | .ok (_,.int m)=>.ok (true,.ob c' (ns++[("whole":Str)]) (vs++[.int m]))
   | _=>.no)
  | _=>.no)
 | _=>.no
noncomputable abbrev yH(n ji:Nat)(jst jsr:List (Nat×Nat)):fM:=.cons (.expr (.call ji (.cons (.var 0) (.cons (.var 1) .nil)))) (.cons (.setF n (.var 0) "whole" (.mth (.var 0) "tree_rank" jsr (.cons (.mth (.var 0) "ties" jst .nil) .nil))) .nil)
theorem CC{c jo jp:Nat}(e:kj Ψ c jo jp ds=.ok fw):∃net p q ts es y,ds=[net] /\ Ψ jo [net]=.ok (true,.tup [.tup [.int p,.int q],.rl ts])/\cj DL ts=some es/\es.length<1000 /\ Ψ jp [.tup [.tup [.int p,.int q],.rl ts]]=.ok (true,y) /\
  fw=(true,.ob c ["net","places","ends"] [.tup [.tup [.int p,.int q],.rl ts],y,.dc ((bK p q es).map (·.1)) ((bK p q es).map (·.2))]):=by
 unfold kj at e;split at e
 ·rename_i net
  split at e
  ·rename_i p q ts e1
   cases e2:cj DL ts with
   | none=>rw[e2] at e;cases e
   | some es =>
    rw[e2] at e;change pg (decide (es.length<1000)) _=_ at e;unfold pg at e
    by_cases hz:es.length<1000
    ·rw[if_pos (decide_eq_true hz)] at e
     split at e
     ·rename_i y e3;cases e;exact⟨net,p,q,ts,es,y,rfl,e1,e2,hz,e3,rfl⟩
     ·cases e
    ·rw[if_neg (by simpa using hz)] at e;cases e
  ·cases e
 ·cases e
theorem CD{c c' jo jp jt jr:Nat}{f f1 f2:Bool}{m:Int}(e0:kj Ψ' c jo jp ds=.ok (f,.ob c' ns vs))(e1:Ψ jt [.ob c' ns vs]=.ok (f1,t))(e2:Ψ jr [.ob c' ns vs,t]=.ok (f2,.int m)):rL Ψ' Ψ c jo jp jt jr ds=.ok (true,.ob c' (ns++[("whole":Str)]) (vs++[.int m])):=by
 unfold rL;rw[e0];dsimp only;rw[e1];dsimp only;rw[e2]
theorem CF:Imp φ (λ_=>.no):=λ_ _ _ _ _ _=>trivial
theorem CG{n c ji jo jp jt jr:Nat}(hc:c<n)(Wr:∀j,Imp (Φ' j) (Ψ' j))(hΦ:∀j,Imp (Φ j) (Ψ j))(hji:Φ ji=gY Φ' 5 (pU n jo jp))(ht:jst.lookup c=some jt)(hr:jsr.lookup c=some jr) :
  Imp (DH c (gY Φ 2 (yH n ji jst jsr))) (rL Ψ' Ψ c jo jp jt jr):=λA h ds vs u q=>by
 unfold rL;cases e0:kj Ψ' c jo jp ds with
 | no=>trivial
 | exc _ _=>trivial
 | ok fw =>
  obtain⟨net,p,q',ts,es,y,rfl,e1,e2,hz,e3,rfl⟩:=CC e0;dsimp only;obtain⟨v,rfl,qn⟩:=ak.one q;obtain⟨h8,V1,v2,vE,r1,p8,g8,d8⟩:=vh (Φ:=Φ') (Ψ:=Ψ') hc Wr u qn e1 e2 hz e3;have l8:=p8.length_le;have b8:h.length<h8.length:=(List.getElem?_eq_some_iff.mp g8).1;have dO:∀h',h8<+:h'->Dn (Fr h.length) h' (.ob c ["net","places","ends"] [.tup [.tup [.int p,.int q'],.rl ts],y,.dc ((bK p q' es).map (·.1)) ((bK p q' es).map (·.2))]) (.ref h.length):=λh' p'=>by
   rw[Dn];exact⟨h.length,_,rfl,le_refl _,ck p' g8,rfl,ak.mono (λ_ a=>a) (λ_ _ _ g=>ck p' g) _ _ (d8 (Fr h.length) λk hk=>show h.length<=k by omega)⟩
  have R1:=hΦ jt (Fr h.length) h8 _ _ (λk hk=>show h.length<=k by omega) (ak.cons (dO h8 (prefix_refl _)) ak.nil);generalize hob:Val.ob c ["net","places","ends"] [.tup [.tup [.int p,.int q'],.rl ts],y,.dc ((bK p q' es).map (·.1)) ((bK p q' es).map (·.2))]=ob at R1 dO;cases e4:Ψ jt [ob] with
  | no=>trivial
  | exc _ _=>trivial
  | ok ft =>
   obtain⟨f1,t⟩:=ft;dsimp only;rw[e4] at R1;obtain⟨vt,h9,x1,p9,d9,_⟩:=R1;have l9:=p9.length_le;have R2:=hΦ jr (Fr h.length) h9 _ _ (λk hk=>show h.length<=k by omega) (ak.cons (dO h9 p9) (ak.cons d9 ak.nil));cases e5:Ψ jr [ob,t] with
   | no=>trivial
   | exc _ _=>trivial
   | ok fm =>
    obtain⟨f2,m⟩:=fm;rw[e5] at R2;obtain⟨vm,N7,x2,Pq,DM,dz⟩:=R2;clear dz;cases m<;>first|trivial|skip
    rename_i m;have DM:Dn (Fr h.length) N7 (.int m) vm:=DM;rw[Dn] at DM;subst DM;subst hob;dsimp only;have Ws:=ck (p9.trans Pq) g8;have g9:=ck p9 g8;have Y6:=Pq.length_le
    let h11:Hs:=N7.set h.length (.ins c [("net",V1),("places",v2),("ends",vE),("whole",.int m)])
    let env:Env:=[some (.ref h.length),some v]
    have mt:∀(g:Hs) (x:Str) (js:List (Nat×Nat)) (jj:Nat),g[h.length]?=some (.ins c [("net",V1),("places",v2),("ends",vE)])->("net":Str)≠x->("places":Str)≠x->("ends":Str)≠x->js.lookup c=some jj->jY g (.ref h.length) x js=some jj:=λg x js jj hg n1 n2 n3 hj=>by
     unfold jY;dsimp only;rw[hg];dsimp only;rw[if_pos]
     ·exact hj
     ·rw[lookup_cons,lookup_cons,lookup_cons,List.lookup_nil];rw[beq_eq_false_iff_ne.mpr n1.symm,beq_eq_false_iff_ne.mpr n2.symm,beq_eq_false_iff_ne.mpr n3.symm];rfl
    have s1:fS Φ (.expr (.call ji (.cons (.var 0) (.cons (.var 1) .nil)))) env (h++[Ob.ins c []])=.ok (.nx env) h8:=by
     rw[fS,ao (a:=.non) (h1:=h8)]
     ·rfl
     ·rw[aF,ao (a:=[.ref h.length,v]) (h1:=h++[Ob.ins c []])]
      ·rw[hji];exact r1
      ·rw[aV,ao (bO rfl),aV];rw[show bnd (bnd (aF Φ (.var 1) env) λd=>bnd (aV Φ .nil env) λds=>ret (d::ds)) (λds=>ret (Val.ref h.length::ds)) (h++[Ob.ins c []])=_ from ao (a:=[v]) (h1:=h++[Ob.ins c []]) (by rw[ao (bO rfl),aV];rfl)];rfl
    have eT:aF Φ (.mth (.var 0) "ties" jst .nil) env h8=.ok vt h9:=by rw[aF,ao (bO rfl),iO (a:=jt) (mt h8 _ _ _ g8 (by decide) (by decide) (by decide) ht),aV];exact x1
    have s2:fS Φ (.setF n (.var 0) "whole" (.mth (.var 0) "tree_rank" jsr (.cons (.mth (.var 0) "ties" jst .nil) .nil))) env h8=.ok (.nx env) h11:=by
     have e:aF Φ (.mth (.var 0) "tree_rank" jsr (.cons (.mth (.var 0) "ties" jst .nil) .nil)) env h8=.ok (.int m) N7:=by
      rw[aF,ao (bO rfl),iO (a:=jr) (mt h8 _ _ _ g8 (by decide) (by decide) (by decide) hr),aV];rw[ao (a:=[vt]) (h1:=h9)]
      ·exact x2
      ·rw[ao eT,aV];rfl
     rw[fS,ao e,ao (bO rfl)];exact nX hc Ws (by decide:3<1000)
    have run:DH c (gY Φ 2 (yH n ji jst jsr)) [v] h=.ok (.ref h.length) h11:=by
     show bnd (gY Φ 2 (yH n ji jst jsr) [.ref h.length,v]) _ (h++[Ob.ins c []])=_;rw[ao (a:=.non) (h1:=h11)]
     ·rfl
     ·unfold gY
      rw[ao (a:=Fl.nx env) (h1:=h11)]
      ·rfl
      ·show eG Φ (yH n ji jst jsr) env _=_;rw[eG,ao s1];dsimp only;rw[eG,ao s2];dsimp only;rw[eG];rfl
    have hpre:h<+:h11:=by refine List.prefix_iff_getElem?.mpr λi hi=>?_;show (N7.set _ _)[i]?=_;rw[getElem?_set_ne (by omega)];exact List.prefix_iff_getElem?.mp ((p8.trans p9).trans Pq) i hi
    have Wt:h11[h.length]?=some (.ins c [("net",V1),("places",v2),("ends",vE),("whole",.int m)]):=getElem?_set_self (by omega);have dn:∀B:AP,(∀k,h.length<=k->B (some k))->Dn B h11 (.ob c ((["net","places","ends"]:List Str)++[("whole":Str)]) ([.tup [.tup [.int p,.int q'],.rl ts],y,.dc ((bK p q' es).map (·.1)) ((bK p q' es).map (·.2))]++[.int m])) (.ref h.length):=λB hB=>by
     rw[Dn];refine⟨h.length,_,rfl,hB _ (le_refl _),Wt,rfl,?_⟩;have dd:=ak.mono (A':=B) (h':=h11) (λo z=>?_) (λk o a g=>?_) _ _ (d8 (Fr (h.length+1)) λk hk=>hk)
     ·exact ak.app dd (ak.cons ((gO _ _ rfl).mpr rfl) ak.nil)
     ·cases o with
      | none=>exact False.elim z
      | some k=>exact hB k (by have:h.length+1<=k:=z;omega)
     ·have a:h.length+1<=k:=a;show (N7.set _ _)[k]?=_;rw[getElem?_set_ne (by omega)];exact ck (p9.trans Pq) g
    exact⟨_,h11,run,hpre,dn A λk hk=>u k hk,λ_=>dn _ λk hk=>hk⟩
end
end Hv
end
section
namespace Hv
open PySem L2
noncomputable def cnt(φ:Int->Int)(ps:List Int):Nat:=(dM [] (ps.map φ)).length
theorem e9{ps:List Int}{v:Int}:v∈dM [] (ps.map φ)↔∃x∈ps,φ x=v:=by
 rw[pQ];simp
theorem CH{ps:List Int}(h:∀x∈ps,∀y∈ps,g x=g y->f x=f y):cnt f ps<=cnt g ps:=by
 classical
 let r:Int->Int:=λv=>if hv:∃x∈ps,f x=v then g (Classical.choose hv) else 0
 have hr:∀v∈dM [] (ps.map f),∃x∈ps,f x=v/\r v=g x:=λv hv=>by
  have e:=e9.mp hv;refine⟨Classical.choose e,(choose_spec e).1,(choose_spec e).2,?_⟩;show (if hv:∃x∈ps,f x=v then g (Classical.choose hv) else 0)=_;rw[dif_pos e]
 have nd:((dM [] (ps.map f)).map r).Nodup:=by
  have n0:=eV (ps.map f) [] nodup_nil;revert hr n0;generalize dM [] (ps.map f)=l;intro hr n0
  induction l with
  | nil=>exact nodup_nil
  | cons v l ih =>rw[nodup_cons] at n0;rw[map_cons,nodup_cons];refine⟨λhm=>?_,ih (λw hw=>hr w (mem_cons_of_mem _ hw)) n0.2⟩;obtain⟨w,hw,e⟩:=mem_map.mp hm;obtain⟨x,hx,e1,e2⟩:=hr v (mem_cons_self ..);obtain⟨y,hy,e3,e4⟩:=hr w (mem_cons_of_mem _ hw);have:f x=f y:=h x hx y hy (by rw[<-e2,<-e4,e]);exact n0.1 (by rw[<-e1,this,e3];exact hw)
 have:=eO nd (m:=dM [] (ps.map g)) λz hz=>by
  obtain⟨v,hv,rfl⟩:=mem_map.mp hz;obtain⟨x,hx,_,e2⟩:=hr v hv;rw[e2];exact e9.mpr ⟨x,hx,rfl⟩
 rw[length_map] at this;exact this
theorem K6{ps:List Int}(h:∀x∈ps,∀y∈ps,f x=f y↔g x=g y):cnt f ps=cnt g ps :=
 Nat.le_antisymm (CH λx hx y hy=>(h x hx y hy).mpr) (CH λx hx y hy=>(h x hx y hy).mp)
theorem cnt_join{ps:List Int}{a b:Int}(ha:a∈ps)(hb:b∈ps)(ne:ψ a ≠ ψ b):cnt (λx=>if ψ x = ψ b then ψ a else ψ x) ps+1=cnt ψ ps:=by
 have m1:ψ b∈dM [] (ps.map ψ):=e9.mpr ⟨b,hb,rfl⟩;have n1:=eV (ps.map ψ) [] nodup_nil;have n2:=eV (ps.map λx=>if ψ x = ψ b then ψ a else ψ x) [] nodup_nil;have Wu:=eO n2 (m:=(dM [] (ps.map ψ)).erase (ψ b)) λv hv=>by
  obtain⟨x,hx,e⟩:=e9.mp hv;rw[List.Nodup.mem_erase_iff n1]
  by_cases c:ψ x = ψ b
  ·rw[if_pos c] at e;subst e;exact⟨ne,e9.mpr ⟨a,ha,rfl⟩⟩
  ·rw[if_neg c] at e;subst e;exact⟨c,e9.mpr ⟨x,hx,rfl⟩⟩
 have Wv:=eO (n1.erase (ψ b)) (m:=dM [] (ps.map λx=>if ψ x = ψ b then ψ a else ψ x)) λv hv=>by
  rw[List.Nodup.mem_erase_iff n1] at hv;obtain⟨x,hx,e⟩:=e9.mp hv.2;subst e;exact e9.mpr ⟨x,hx,by rw[if_neg hv.1]⟩
 rw[List.length_erase_of_mem m1] at Wu Wv;have:=List.length_pos_of_mem m1;unfold cnt;omega
end Hv
end
section
namespace Hv
open PySem L2
theorem ki.fix{ps:List Int}(h:ki ps es φ){x:Int}(hx:x∈ps):φ (φ x) = φ x:=((h.way x hx).const φ h.same).symm
noncomputable def rk(φ:Int->Int)(ps:List Int):Nat:=(ps.filter λx=>!decide (φ x=x)).length
theorem yI(t:Int->Bool):∀ps:List Int,(ps.filter t).length+(ps.filter λx=>!t x).length=ps.length
 | []=>rfl
 | x::r=>by
  have ih:=yI t r;cases h:t x with
  | true=>rw[filter_cons_of_pos h,List.filter_cons_of_neg (by simp[h]),length_cons,length_cons];omega
  | false=>rw[List.filter_cons_of_neg (by simp[h]),filter_cons_of_pos (by simp[h]),length_cons,length_cons];omega
theorem tD{ps:List Int}(h:ki ps es φ)(hn:ps.Nodup):rk φ ps+cnt φ ps=ps.length:=by
 have e:cnt φ ps=(ps.filter λx=>decide (φ x=x)).length:=by
  unfold cnt;refine Nat.le_antisymm (eO (eV _ [] nodup_nil) λv hv=>?_) (eO (hn.filter _) λv hv=>?_)
  ·obtain⟨x,hx,rfl⟩:=e9.mp hv;exact mem_filter.mpr ⟨h.BA x hx,decide_eq_true (h.fix hx)⟩
  ·obtain⟨a,b⟩:=mem_filter.mp hv;exact e9.mpr ⟨v,a,of_decide_eq_true b⟩
 rw[e];have:=yI (λx=>decide (φ x=x)) ps;unfold rk;omega
theorem N8{ps:List Int}{n:Nat}(h1:ki ps es φ)(h2:ki ps es ψ)(hn:ps.Nodup)(e:n+cnt ψ ps=ps.length):n=rk φ ps:=by
 have c:cnt φ ps=cnt ψ ps:=K6 λx hx y hy=>by rw[h1.iff hx hy,h2.iff hx hy]
 have:=tD h1 hn;omega
theorem ki.Af{ps:List Int}(h:ki ps es f){a b:Int}(ha:a∈ps)(hb:b∈ps)(e:f a=f b):ki ps (es++[(a,b)]) f:=by
 have:=h.step ha hb (f a) (f b) (.inl ⟨rfl,rfl⟩);have ef:(λx=>if f x=f b then f a else f x)=f:=funext λx=>by
  split
  ·rename_i c;rw[c,e]
  ·rfl
 rwa [ef] at this
theorem vj:∀ks:List Int,rj (ks.map Sum.inl)=some ks
 | []=>rfl
 | x::r=>by
  have ih:=vj r;unfold rj at ih |-;rw[map_cons,cj,ih];rfl
end Hv
end
section
namespace Hv
open PySem L2
noncomputable def LO(ps:List Int)(es:List (Int×Int)):Prop:=∀e∈es,e.1∈ps/\e.2∈ps
theorem CI{ps:List Int}:∀(es pre:List (Int×Int)) (φ:Int->Int),ki ps pre φ -> LO ps es->∃ψ,ki ps (pre++es) ψ
 | [],pre,φ,h,_=>⟨φ,by rw[append_nil];exact h⟩
 | e::r,pre,φ,h,hi=>by
  obtain⟨h1,h2⟩:=hi e mem_cons_self;have st:=h.step h1 h2 (φ e.1) (φ e.2) (.inl ⟨rfl,rfl⟩);obtain⟨ψ,k⟩:=CI r (pre++[(e.1,e.2)]) _ st λx hx=>hi x (mem_cons_of_mem _ hx);exact⟨ψ,by rw[List.append_assoc] at k;exact k⟩
theorem CJ{ps:List Int}(hi:LO ps es):∃ψ,ki ps es ψ:=by
 obtain⟨ψ,h⟩:=CI es [] id (ki.start ps) hi;exact⟨ψ,h⟩
theorem ki.K7{ps:List Int}(h:ki ps es φ)(hm:∀e,e∈es↔e∈es'):ki ps es' φ :=
 ⟨h.BA,λx hx=>(h.way x hx).mono λe he=>(hm e).mp he,λe he=>h.same e ((hm e).mpr he)⟩
open Classical in
noncomputable def tr(ps:List Int)(es:List (Int×Int)):Nat:=if h:∃φ,ki ps es φ then rk (Classical.choose h) ps else 0
theorem nq{ps:List Int}(h:ki ps es φ)(hn:ps.Nodup):tr ps es=rk φ ps:=by
 unfold tr;have h':∃φ,ki ps es φ:=⟨φ,h⟩;rw[dif_pos h'];have h2:=choose_spec h';exact N8 h h2 hn (tD h2 hn)
theorem vn{ps:List Int}(hn:ps.Nodup)(hi:LO ps es)(hm:∀e,e∈es↔e∈es'):tr ps es=tr ps es':=by
 obtain⟨φ,h⟩:=CJ hi;rw[nq h hn,nq (h.K7 hm) hn]
open Classical in
theorem FW{ps:List Int}{a b:Int}(hn:ps.Nodup)(hi:LO ps es)(ha:a∈ps)(hb:b∈ps)(hm:∀e,e∈es'↔e∈es\/e=(a,b)):tr ps es'=tr ps es+if Way es a b then 0 else 1:=by
 obtain⟨φ,h⟩:=CJ hi;have hi':LO ps (es++[(a,b)]):=λe he=>by
  rcases mem_append.mp he with he|he
  ·exact hi e he
  ·rw[mem_singleton.mp he];exact⟨ha,hb⟩
 rw[<-vn (es:=es++[(a,b)]) hn hi' (λe=>by rw[hm e];simp)]
 by_cases c:φ a = φ b
 ·rw[if_pos ((h.iff ha hb).mp c),nq (h.Af ha hb c) hn,nq h hn,Nat.add_zero]
 ·rw[if_neg (λw=>c ((h.iff ha hb).mpr w))];have st:=h.step ha hb (φ a) (φ b) (.inl ⟨rfl,rfl⟩);have e1:=tD st hn;have e2:=tD h hn;have e3:=cnt_join ha hb c;rw[nq st hn,nq h hn];omega
end Hv
end
section
namespace K27
open PySem L2 Hv
noncomputable def top(i:Nat):Stmt:=PySem.Challenge.pw_linkorcut_k27_behind_a_deed.main.body.getD i (.Pass ⟨0,0,0,0⟩)
noncomputable def cons:List (Str×Val):=[("THOUGHT",(.int (-1)))]
noncomputable def tb:Tb:=⟨2,["net","places","ends","whole"],[(0,"tree_rank",8),(1,"tree_rank",8),(0,"ties",10),(1,"ties",10),(0,"rank",19),(1,"rank",20)],[("Rule","__init__",6)],[("ByRest",[true,false]),("ByTrees",[false,true])]⟩
noncomputable def gE(i:Nat):Stmt:=match top 16 with|.ClassDef (body:=b) ..=>b.getD i (.Pass ⟨0,0,0,0⟩)|_=>.Pass ⟨0,0,0,0⟩
noncomputable def bV(i:Nat):Stmt:=match top 14 with|.ClassDef (body:=b) ..=>b.getD i (.Pass ⟨0,0,0,0⟩)|_=>.Pass ⟨0,0,0,0⟩
noncomputable def pV(i:Nat):Stmt:=match top 15 with|.ClassDef (body:=b) ..=>b.getD i (.Pass ⟨0,0,0,0⟩)|_=>.Pass ⟨0,0,0,0⟩
noncomputable def iz:fM:=(.cons (.iff (.cmp .lt (.var 1) (.blt .len (.cons (.var 0) .nil))) (.cons (.ret (.idx (.var 0) (.var 1))) .nil) .nil) (.cons (.ret (.cst (.int 0))) .nil))
noncomputable def fz:fM:=(.cons (.asg (.one 3) (.cst (.int 1))) (.cons (.asg (.one 4) (.cst (.int 0))) (.cons (.iff (.cmp .gt (.bin .mod (.var 0) (.cst (.int 3))) (.cst (.int 0))) (.cons (.asg (.one 3) (.bin .add (.cst (.int 1)) (.bin .mod (.bin .fdiv (.var 0) (.cst (.int 3))) (.bin .pow (.cst (.int 10)) (.cst (.int 56)))))) (.cons (.asg (.one 4) (.bin .mod (.bin .fdiv (.var 1) (.cst (.int 66))) (.bin .pow (.cst (.int 10)) (.cst (.int 58))))) .nil)) .nil) (.cons (.ret (.bin .add (.bin .mul (.var 3) (.bin .mod (.bin .add (.bin .mul (.bin .add (.cst (.int 1)) (.bin .mod (.var 1) (.cst (.int 66)))) (.var 2)) (.var 0)) (.cst (.int 67)))) (.var 4))) .nil))))
noncomputable def jB:fM:=(.cons (.asg (.one 2) (.call 0 (.cons (.var 0) (.cons (.cst (.int 0)) .nil)))) (.cons (.asg (.one 3) (.call 0 (.cons (.var 0) (.cons (.cst (.int 1)) .nil)))) (.cons (.asg (.one 4) (.call 0 (.cons (.var 0) (.cons (.cst (.int 2)) .nil)))) (.cons (.asg (.one 5) (.bin .add (.cst (.int 2)) (.bin .mod (.var 4) (.cst (.int 7))))) (.cons (.asg (.one 6) (.comp ["_law_k","_law_two","_law_one"] [none,some 3,some 2] (.one 0) .range (.cons (.var 5) .nil) .no (.call 1 (.cons (.var 1) (.cons (.var 2) (.cons (.var 0) .nil)))))) (.cons (.asg (.one 7) (.lst .nil)) (.cons (.for (.tup [8,9]) .enum (.cons (.var 1) .nil) (.cons (.asg (.one 10) (.idx (.var 6) (.bin .mod (.var 9) (.var 5)))) (.cons (.asg (.one 11) (.idx (.var 6) (.bin .mod (.bin .fdiv (.var 9) (.var 5)) (.var 5)))) (.cons (.expr (.met .append (.var 7) (.cons (.tup (.cons (.call 1 (.cons (.var 2) (.cons (.var 3) (.cons (.var 8) .nil)))) (.cons (.blt .min (.cons (.var 10) (.cons (.var 11) .nil))) (.cons (.blt .max (.cons (.var 10) (.cons (.var 11) .nil))) .nil)))) .nil))) .nil)))) (.cons (.asg (.one 12) (.blt .sorted (.cons (.lst (.cons (.idx (.var 6) (.cst (.int 0))) (.cons (.idx (.var 6) (.bin .sub (.cst (.int 1)) (.blt .int (.cons (.cmp .eq (.bin .mod (.bin .fdiv (.var 4) (.cst (.int 7))) (.cst (.int 8))) (.cst (.int 3))) .nil)))) .nil))) .nil))) (.cons (.ret (.tup (.cons (.tup (.cons (.idx (.var 12) (.cst (.int 0))) (.cons (.idx (.var 12) (.cst (.int 1))) .nil))) (.cons (.blt .sorted (.cons (.var 7) .nil)) .nil)))) .nil)))))))))
noncomputable def cB:fM:=(.cons (.asg (.one 2) (.lst .nil)) (.cons (.for (.tup [3,4,5]) .seq (.cons (.var 1) .nil) (.cons (.expr (.met .append (.var 2) (.cons (.tup (.cons (.var 3) (.cons (.blt .min (.cons (.var 4) (.cons (.var 5) .nil))) (.cons (.blt .max (.cons (.var 4) (.cons (.var 5) .nil))) .nil)))) .nil))) .nil)) (.cons (.ret (.tup (.cons (.tup (.cons (.blt .min (.cons (.idx (.var 0) (.cst (.int 0))) (.cons (.idx (.var 0) (.cst (.int 1))) .nil))) (.cons (.blt .max (.cons (.idx (.var 0) (.cst (.int 0))) (.cons (.idx (.var 0) (.cst (.int 1))) .nil))) .nil))) (.cons (.blt .sorted (.cons (.var 2) .nil)) .nil)))) .nil)))
noncomputable def gi:fM:=(.cons (.ret (.call 3 (.cons (.idx (.var 0) (.cst (.int 0))) (.cons (.idx (.var 0) (.cst (.int 1))) .nil)))) .nil)
noncomputable def dU:fM:=(.cons (.asg (.one 1) (.blt .list (.cons (.idx (.var 0) (.cst (.int 0))) .nil))) (.cons (.for (.one 2) .seq (.cons (.idx (.var 0) (.cst (.int 1))) .nil) (.cons (.expr (.met .extend (.var 1) (.cons (.slc (.var 2) (.cst (.int 1)) .no) .nil))) .nil)) (.cons (.ret (.sset (.var 1))) .nil)))
noncomputable def eX:fM:=(.cons (.setF 2 (.var 0) "net" (.call 4 (.cons (.var 1) .nil))) (.cons (.setF 2 (.var 0) "places" (.call 5 (.cons (.fld 2 (.var 0) "net") .nil))) (.cons (.setF 2 (.var 0) "ends" (.dct1 (.con "THOUGHT" (.int (-1))) (.idx (.fld 2 (.var 0) "net") (.cst (.int 0))))) (.cons (.for (.tup [2,3,4]) .seq (.cons (.idx (.fld 2 (.var 0) "net") (.cst (.int 1))) .nil) (.cons (.gu (.fld 2 (.var 0) "ends") (.var 2) (.tup (.cons (.var 3) (.cons (.var 4) .nil)))) .nil)) .nil))))
noncomputable def dW:fM:=(.cons (.asg (.one 2) .dct0) (.cons (.for (.one 3) .seq (.cons (.var 0) .nil) (.cons (.gu (.var 2) (.var 3) (.var 3)) .nil)) (.cons (.for (.tup [4,5]) .seq (.cons (.var 1) .nil) (.cons (.asg (.one 6) (.blt .min (.cons (.idx (.var 2) (.var 4)) (.cons (.idx (.var 2) (.var 5)) .nil)))) (.cons (.asg (.one 7) (.blt .max (.cons (.idx (.var 2) (.var 4)) (.cons (.idx (.var 2) (.var 5)) .nil)))) (.cons (.for (.one 3) .seq (.cons (.var 0) .nil) (.cons (.iff (.cmp .eq (.idx (.var 2) (.var 3)) (.var 7)) (.cons (.gu (.var 2) (.var 3) (.var 6)) .nil) .nil) .nil)) .nil)))) (.cons (.ret (.var 2)) .nil))))
noncomputable def bR:fM:=(.cons (.asg (.one 2) (.call 7 (.cons (.fld 2 (.var 0) "places") (.cons (.comp ["tie","self"] [none,some 0] (.one 0) .seq (.cons (.var 1) .nil) .no (.idx (.fld 2 (.var 1) "ends") (.var 0))) .nil)))) (.cons (.ret (.blt .len (.cons (.comp ["place","firsts"] [none,some 2] (.one 0) .seq (.cons (.fld 2 (.var 0) "places") .nil) (.cmp .ne (.idx (.var 1) (.var 0)) (.var 0)) (.var 0)) .nil))) .nil))
noncomputable def fB:fM:=(.cons (.ret (.comp ["tie"] [none] (.one 0) .seq (.cons (.idx (.var 0) (.cst (.int 1))) .nil) .no (.idx (.var 0) (.cst (.int 0))))) .nil)
noncomputable def dX:fM:=(.cons (.ret (.bin .add (.lst (.cons (.con "THOUGHT" (.int (-1))) .nil)) (.call 9 (.cons (.fld 2 (.var 0) "net") .nil)))) .nil)
noncomputable def mL:fM:=(.cons (.expr (.call 6 (.cons (.var 0) (.cons (.var 1) .nil)))) (.cons (.setF 2 (.var 0) "whole" (.mth (.var 0) "tree_rank" [(0,8),(1,8)] (.cons (.mth (.var 0) "ties" [(0,10),(1,10)] .nil) .nil))) .nil))
noncomputable def kI:fM:=(.cons (.setF 2 (.var 0) "net" (.call 4 (.cons (.var 1) .nil))) (.cons (.setF 2 (.var 0) "places" (.call 5 (.cons (.fld 2 (.var 0) "net") .nil))) (.cons (.setF 2 (.var 0) "ends" (.dct1 (.con "THOUGHT" (.int (-1))) (.idx (.fld 2 (.var 0) "net") (.cst (.int 0))))) (.cons (.for (.tup [2,3,4]) .seq (.cons (.idx (.fld 2 (.var 0) "net") (.cst (.int 1))) .nil) (.cons (.gu (.fld 2 (.var 0) "ends") (.var 2) (.tup (.cons (.var 3) (.cons (.var 4) .nil)))) .nil)) .nil))))
noncomputable def eY:fM:=(.cons (.iff (.cmp .eq (.var 0) (.cst (.str "linker"))) (.cons (.ret (.call 12 (.cons (.var 1) .nil))) .nil) .nil) (.cons (.ret (.call 11 (.cons (.var 1) .nil))) .nil))
noncomputable def gj:fM:=(.cons (.for (.tup [2,3,4]) .seq (.cons (.idx (.var 0) (.cst (.int 1))) .nil) (.cons (.iff (.cmp .eq (.var 2) (.var 1)) (.cons (.ret (.tup (.cons (.var 3) (.cons (.var 4) .nil)))) .nil) .nil) .nil)) (.cons .never .nil))
noncomputable def gk:fM:=(.cons (.expr (.call 14 (.cons (.var 0) (.cons (.var 1) .nil)))) (.cons (.ret (.comp ["each","tie"] [none,some 1] (.one 0) .seq (.cons (.idx (.var 0) (.cst (.int 1))) .nil) (.cmp .ne (.idx (.var 0) (.cst (.int 0))) (.var 1)) (.var 0))) .nil))
noncomputable def jC:fM:=(.cons (.asg (.one 2) (.call 14 (.cons (.var 0) (.cons (.var 1) .nil)))) (.cons (.asg (.one 3) (.dct1 (.idx (.var 2) (.cst (.int 1))) (.idx (.var 2) (.cst (.int 0))))) (.cons (.asg (.one 4) (.tup (.cons (.dget (.var 3) (.idx (.idx (.var 0) (.cst (.int 0))) (.cst (.int 0))) (.idx (.idx (.var 0) (.cst (.int 0))) (.cst (.int 0)))) (.cons (.dget (.var 3) (.idx (.idx (.var 0) (.cst (.int 0))) (.cst (.int 1))) (.idx (.idx (.var 0) (.cst (.int 0))) (.cst (.int 1)))) .nil)))) (.cons (.asg (.one 5) (.lst .nil)) (.cons (.for (.tup [6,7,8]) .seq (.cons (.call 15 (.cons (.var 0) (.cons (.var 1) .nil))) .nil) (.cons (.expr (.met .append (.var 5) (.cons (.tup (.cons (.var 6) (.cons (.dget (.var 3) (.var 7) (.var 7)) (.cons (.dget (.var 3) (.var 8) (.var 8)) .nil)))) .nil))) .nil)) (.cons (.ret (.call 3 (.cons (.var 4) (.cons (.var 5) .nil)))) .nil))))))
noncomputable def dY:fM:=(.cons (.ret (.call 3 (.cons (.idx (.var 0) (.cst (.int 0))) (.cons (.call 15 (.cons (.var 0) (.cons (.var 1) .nil))) .nil)))) .nil)
noncomputable def jD:fM:=(.cons (.asg (.one 2) (.lst .nil)) (.cons (.for (.one 3) .seq (.cons (.var 0) .nil) (.cons (.iff (.cmp .eq (.bin .mod (.var 1) (.cst (.int 2))) (.cst (.int 1))) (.cons (.expr (.met .append (.var 2) (.cons (.var 3) .nil))) .nil) .nil) (.cons (.asg (.one 1) (.bin .fdiv (.var 1) (.cst (.int 2)))) .nil))) (.cons (.ret (.var 2)) .nil)))
noncomputable def cN:fM:=(.cons (.asg (.one 2) (.comp ["tie","row"] [none,some 1] (.one 0) .seq (.cons (.mth (.var 0) "ties" [(0,10),(1,10)] .nil) .nil) (.cmp .nin (.var 0) (.var 1)) (.var 0))) (.cons (.ret (.bin .add (.bin .sub (.blt .len (.cons (.var 1) .nil)) (.fld 2 (.var 0) "whole")) (.mth (.var 0) "tree_rank" [(0,8),(1,8)] (.cons (.var 2) .nil)))) .nil))
noncomputable def cC:fM:=(.cons (.ret (.mth (.var 0) "tree_rank" [(0,8),(1,8)] (.cons (.var 1) .nil))) .nil)
noncomputable def jE:fM:=(.cons (.asg (.one 1) (.bin .fdiv (.call 0 (.cons (.var 0) (.cons (.cst (.int 2)) .nil))) (.cst (.int 56)))) (.cons (.asg (.one 2) (.call 2 (.cons (.var 0) (.cons (.slc (.var 0) (.cst (.int 3)) (.bin .add (.cst (.int 3)) (.bin .mod (.var 1) (.cst (.int 15))))) .nil)))) (.cons (.asg (.one 3) (.call 13 (.cons (.cst (.str "linker")) (.cons (.var 2) .nil)))) (.cons (.asg (.one 4) (.call 13 (.cons (.cst (.str "cutter")) (.cons (.var 2) .nil)))) (.cons (.iff (.or (.not (.isc (.var 3) "ByTrees" [false,true])) (.not (.isc (.var 4) "ByRest" [true,false]))) (.cons (.ret (.cst (.bl false))) .nil) .nil) (.cons (.iff (.cmp .eq (.blt .len (.cons (.idx (.var 2) (.cst (.int 1))) .nil)) (.cst (.int 0))) (.cons (.ret (.cst (.bl true))) .nil) .nil) (.cons (.asg (.one 5) (.idx (.idx (.idx (.var 2) (.cst (.int 1))) (.bin .mod (.bin .fdiv (.var 1) (.cst (.int 15))) (.blt .len (.cons (.idx (.var 2) (.cst (.int 1))) .nil)))) (.cst (.int 0)))) (.cons (.asg (.one 6) (.blt .sorted (.cons (.bin .add (.lst (.cons (.neg (.cst (.int 1))) .nil)) (.comp ["_law_each","_law_name"] [none,some 5] (.one 0) .seq (.cons (.idx (.var 2) (.cst (.int 1))) .nil) (.cmp .ne (.idx (.var 0) (.cst (.int 0))) (.var 1)) (.idx (.var 0) (.cst (.int 0))))) .nil))) (.cons (.asg (.one 7) (.call 16 (.cons (.var 2) (.cons (.var 5) .nil)))) (.cons (.asg (.one 8) (.call 17 (.cons (.var 2) (.cons (.var 5) .nil)))) (.cons (.for (.one 9) .seq (.cons (.bin .add (.lst (.cons (.cst (.int 0)) .nil)) (.slc (.var 0) (.cst (.int 17)) (.cst (.int 63)))) .nil) (.cons (.asg (.one 10) (.call 18 (.cons (.var 6) (.cons (.var 9) .nil)))) (.cons (.asg (.one 11) (.bin .add (.var 10) (.lst (.cons (.var 5) .nil)))) (.cons (.iff (.cmp .ne (.mth (.call 13 (.cons (.cst (.str "linker")) (.cons (.var 7) .nil))) "rank" [(0,19),(1,20)] (.cons (.var 10) .nil)) (.bin .sub (.mth (.var 3) "rank" [(0,19),(1,20)] (.cons (.var 11) .nil)) (.mth (.var 3) "rank" [(0,19),(1,20)] (.cons (.lst (.cons (.var 5) .nil)) .nil)))) (.cons (.ret (.cst (.bl false))) .nil) .nil) (.cons (.iff (.cmp .ne (.mth (.call 13 (.cons (.cst (.str "cutter")) (.cons (.var 8) .nil))) "rank" [(0,19),(1,20)] (.cons (.var 10) .nil)) (.bin .sub (.mth (.var 4) "rank" [(0,19),(1,20)] (.cons (.var 11) .nil)) (.mth (.var 4) "rank" [(0,19),(1,20)] (.cons (.lst (.cons (.var 5) .nil)) .nil)))) (.cons (.ret (.cst (.bl false))) .nil) .nil) (.cons (.iff (.cmp .ne (.mth (.call 13 (.cons (.cst (.str "cutter")) (.cons (.var 7) .nil))) "rank" [(0,19),(1,20)] (.cons (.var 10) .nil)) (.mth (.var 4) "rank" [(0,19),(1,20)] (.cons (.var 10) .nil))) (.cons (.ret (.cst (.bl false))) .nil) .nil) (.cons (.iff (.cmp .ne (.mth (.call 13 (.cons (.cst (.str "linker")) (.cons (.var 8) .nil))) "rank" [(0,19),(1,20)] (.cons (.var 10) .nil)) (.mth (.var 3) "rank" [(0,19),(1,20)] (.cons (.var 10) .nil))) (.cons (.ret (.cst (.bl false))) .nil) .nil) .nil))))))) (.cons (.ret (.cst (.bl true))) .nil))))))))))))
noncomputable def N9:List Row:=[]
noncomputable def vo:List Val->M Val:=gY (look N9) 2 iz
noncomputable def Oa:List Row:=N9++[(("_law_cell":Str),2,vo)]
noncomputable def pW:List Val->M Val:=gY (look Oa) 5 fz
noncomputable def Oc:List Row:=Oa++[(("_law_number":Str),3,pW)]
noncomputable def yJ:List Val->M Val:=gY (look Oc) 13 jB
noncomputable def Od:List Row:=Oc++[(("_law_net":Str),2,yJ)]
noncomputable def jF:List Val->M Val:=gY (look Od) 6 cB
noncomputable def Oe:List Row:=Od++[(("put_in_order":Str),2,jF)]
noncomputable def rM:List Val->M Val:=gY (look Oe) 1 gi
noncomputable def Of:List Row:=Oe++[(("own_net":Str),1,rM)]
noncomputable def nt:List Val->M Val:=gY (look Of) 3 dU
noncomputable def Og:List Row:=Of++[(("places_of":Str),1,nt)]
noncomputable def iV:List Val->M Val:=gY (look Og) 5 eX
noncomputable def Oh:List Row:=Og++[(("Rule.__init__":Str),1002,iV)]
noncomputable def nu:List Val->M Val:=gY (look Oh) 8 dW
noncomputable def Oi:List Row:=Oh++[(("firsts_by":Str),2,nu)]
noncomputable def iA:List Val->M Val:=gY (look Oi) 3 bR
noncomputable def Oj:List Row:=Oi++[(("Rule.tree_rank":Str),1002,iA)]
noncomputable def pX:List Val->M Val:=gY (look Oj) 1 fB
noncomputable def CK:List Row:=Oj++[(("names_of":Str),1,pX)]
noncomputable def nv:List Val->M Val:=gY (look CK) 1 dX
noncomputable def CL:List Row:=CK++[(("Rule.ties":Str),1001,nv)]
noncomputable def vp:List Val->M Val:=DH 0 (gY (look CL) 2 mL)
noncomputable def CM:List Row:=CL++[(("ByRest":Str),1,vp)]
noncomputable def rN:List Val->M Val:=DH 1 (gY (look CM) 5 kI)
noncomputable def CN:List Row:=CM++[(("ByTrees":Str),1,rN)]
noncomputable def rO:List Val->M Val:=gY (look CN) 2 eY
noncomputable def CO:List Row:=CN++[(("rule_of":Str),2,rO)]
noncomputable def rP:List Val->M Val:=gY (look CO) 5 gj
noncomputable def CP:List Row:=CO++[(("ends_of":Str),2,rP)]
noncomputable def rQ:List Val->M Val:=gY (look CP) 2 gk
noncomputable def CQ:List Row:=CP++[(("without":Str),2,rQ)]
noncomputable def yK:List Val->M Val:=gY (look CQ) 9 jC
noncomputable def CS:List Row:=CQ++[(("drawn":Str),2,yK)]
noncomputable def nC:List Val->M Val:=gY (look CS) 2 dY
noncomputable def CT:List Row:=CS++[(("taken_out":Str),2,nC)]
noncomputable def yL:List Val->M Val:=gY (look CT) 4 jD
noncomputable def CU:List Row:=CT++[(("_law_row":Str),2,yL)]
noncomputable def ko:List Val->M Val:=gY (look CU) 3 cN
noncomputable def CV:List Row:=CU++[(("ByRest.rank":Str),1002,ko)]
noncomputable def jG:List Val->M Val:=gY (look CV) 2 cC
noncomputable def CW:List Row:=CV++[(("ByTrees.rank":Str),1002,jG)]
noncomputable def vq:List Val->M Val:=gY (look CW) 12 jE
noncomputable def Rk:List Row:=CW++[(("law":Str),1,vq)]
noncomputable def Rm:List bC:=[]
noncomputable def dh:bC:=gc (au Rm) 2 iz
noncomputable def Rn:List bC:=Rm++[dh]
noncomputable def gm:bC:=gc (au Rn) 5 fz
noncomputable def Ol:List bC:=Rn++[gm]
noncomputable def lC:bC:=gc (au Ol) 13 jB
noncomputable def Ro:List bC:=Ol++[lC]
noncomputable def bL:bC:=gc (au Ro) 6 cB
noncomputable def Pu:List bC:=Ro++[bL]
noncomputable def cU:bC:=gc (au Pu) 1 gi
noncomputable def Rp:List bC:=Pu++[cU]
noncomputable def cg:bC:=gc (au Rp) 3 dU
noncomputable def Om:List bC:=Rp++[cg]
noncomputable def fF:bC:=λ_=>.no
noncomputable def Rq:List bC:=Om++[fF]
noncomputable def dD:bC:=gc (au Rq) 8 dW
noncomputable def Pw:List bC:=Rq++[dD]
noncomputable def aP:bC:=gc (au Pw) 3 bR
noncomputable def Rt:List bC:=Pw++[aP]
noncomputable def gn:bC:=gc (au Rt) 1 fB
noncomputable def FY:List bC:=Rt++[gn]
noncomputable def cO:bC:=gc (au FY) 1 dX
noncomputable def Ag:List bC:=FY++[cO]
noncomputable def lD:bC:=rL (au Om) (au Ag) 0 4 5 10 8
noncomputable def CY:List bC:=Ag++[lD]
noncomputable def jV:bC:=kj (au CY) 1 4 5
noncomputable def CZ:List bC:=CY++[jV]
noncomputable def eZ:bC:=gc (au CZ) 2 eY
noncomputable def K8:List bC:=CZ++[eZ]
noncomputable def fU:bC:=gc (au K8) 5 gj
noncomputable def FZ:List bC:=K8++[fU]
noncomputable def fV:bC:=gc (au FZ) 2 gk
noncomputable def Ah:List bC:=FZ++[fV]
noncomputable def jW:bC:=gc (au Ah) 9 jC
noncomputable def Dc:List bC:=Ah++[jW]
noncomputable def dH:bC:=gc (au Dc) 2 dY
noncomputable def K9:List bC:=Dc++[dH]
noncomputable def lE:bC:=gc (au K9) 4 jD
noncomputable def Dd:List bC:=K9++[lE]
noncomputable def cF:bC:=gc (au Dd) 3 cN
noncomputable def Ga:List bC:=Dd++[cF]
noncomputable def cP:bC:=gc (au Ga) 2 cC
noncomputable def dm:List bC:=Ga++[cP]
noncomputable def yM:bC:=gc (au dm) 12 jE
noncomputable def Ru:List bC:=dm++[yM]
theorem nJ:au Ol 0=dh:=rfl
theorem gF:au Ol 1=gm:=rfl
theorem iB:au Pu 3=bL:=rfl
theorem gR:au Om 4=cU:=rfl
theorem gp:au Om 5=cg:=rfl
theorem fQ:au Pw 7=dD:=rfl
theorem jb:au FY 9=gn:=rfl
theorem rR:au Ag 6=fF:=rfl
theorem gS:au Ag 8=aP:=rfl
theorem j6:au Ag 10=cO:=rfl
theorem kJ:au CY 4=cU:=rfl
theorem jH:au CY 5=cg:=rfl
theorem lF:au CZ 11=lD:=rfl
theorem kK:au CZ 12=jV:=rfl
theorem kL:au FZ 14=fU:=rfl
theorem jc:au Ah 3=bL:=rfl
theorem mO:au Ah 14=fU:=rfl
theorem mP:au Ah 15=fV:=rfl
theorem gx:au Dc 3=bL:=rfl
theorem jI:au Dc 15=fV:=rfl
theorem fD:au Dd 8=aP:=rfl
theorem gT:au Dd 10=cO:=rfl
theorem e7:au Ga 8=aP:=rfl
theorem qB:au dm 0=dh:=rfl
theorem tE:au dm 2=lC:=rfl
theorem bZ:au dm 13=eZ:=rfl
theorem tF:au dm 16=jW:=rfl
theorem mQ:au dm 17=dH:=rfl
theorem tG:au dm 18=lE:=rfl
theorem xw:au dm 19=cF:=rfl
theorem vN:au dm 20=cP:=rfl
theorem i0:eN N9 Rm:=Cf
theorem De:Imp vo dh:=bY (aI i0) (by decide +kernel)
theorem i1:eN Oa Rn:=aK i0 De
theorem xy:Imp pW gm:=bY (aI i1) (by decide +kernel)
theorem i2:eN Oc Ol:=aK i1 xy
theorem Gb:Imp yJ lC:=bY (aI i2) (by decide +kernel)
theorem i3:eN Od Ro:=aK i2 Gb
theorem pY:Imp jF bL:=bY (aI i3) (by decide +kernel)
theorem i4:eN Oe Pu:=aK i3 pY
theorem Ai:Imp rM cU:=bY (aI i4) (by decide +kernel)
theorem i5:eN Of Rp:=aK i4 Ai
theorem vv:Imp nt cg:=bY (aI i5) (by decide +kernel)
theorem i6:eN Og Om:=aK i5 vv
theorem nK:Imp iV fF:=CF
theorem i7:eN Oh Rq:=aK i6 nK
theorem vz:Imp nu dD:=bY (aI i7) (by decide +kernel)
theorem i8:eN Oi Pw:=aK i7 vz
theorem mR:Imp iA aP:=bY (aI i8) (by decide +kernel)
theorem i9:eN Oj Rt:=aK i8 mR
theorem xA:Imp pX gn:=bY (aI i9) (by decide +kernel)
theorem UE:eN CK FY:=aK i9 xA
theorem vA:Imp nv cO:=bY (aI UE) (by decide +kernel)
theorem UG:eN CL Ag:=aK UE vA
theorem Df:Imp vp lD:=CG (n:=2) (ji:=6) (by decide) (aI i6) (aI UG) rfl rfl rfl
theorem i12:eN CM CY:=aK UG Df
theorem Aj:Imp rN jV:=CB (n:=2) (by decide) (aI i12)
theorem UH:eN CN CZ:=aK i12 Aj
theorem Ak:Imp rO eZ:=bY (aI UH) (by decide +kernel)
theorem UI:eN CO K8:=aK UH Ak
theorem Am:Imp rP fU:=bY (aI UI) (by decide +kernel)
theorem UJ:eN CP FZ:=aK UI Am
theorem An:Imp rQ fV:=bY (aI UJ) (by decide +kernel)
theorem UK:eN CQ Ah:=aK UJ An
theorem Gd:Imp yK jW:=bY (aI UK) (by decide +kernel)
theorem UL:eN CS Dc:=aK UK Gd
theorem vB:Imp nC dH:=bY (aI UL) (by decide +kernel)
theorem UM:eN CT K9:=aK UL vB
theorem Ge:Imp yL lE:=bY (aI UM) (by decide +kernel)
theorem UN:eN CU Dd:=aK UM Ge
theorem qC:Imp ko cF:=bY (aI UN) (by decide +kernel)
theorem UO:eN CV Ga:=aK UN qC
theorem pZ:Imp jG cP:=bY (aI UO) (by decide +kernel)
theorem Rv:eN CW dm:=aK UO pZ
theorem Gf{ns:List Int}{f:Bool}(e:yM [.rl (ns.map .int)]=.ok (f,.bl true)):∃h',vq [.rl (ns.map .int)] []=.ok (.bl true) h':=Cg (bY (aI Rv) (by decide +kernel)) e
theorem Oo:Imp vq yM:=bY (aI Rv) (by decide +kernel)
theorem Y7:eN Rk Ru:=aK Rv Oo
theorem c0:aX ["_law_script","_law_k"] ["_law_script","_law_k"] (af (top 23))=true:=by decide +kernel
theorem d0:bq ⟨["_law_script","_law_k"],af (top 23),N9.map (λr=>(r.1,r.2.1)),cons,tb⟩ iz (aj (top 23))=true:=by decide +kernel
theorem c1:aX ["_law_one","_law_two","_law_k","_law_step","_law_shift"] ["_law_one","_law_two","_law_k"] (af (top 24))=true:=by decide +kernel
theorem d1:bq ⟨["_law_one","_law_two","_law_k","_law_step","_law_shift"],af (top 24),Oa.map (λr=>(r.1,r.2.1)),cons,tb⟩ fz (aj (top 24))=true:=by decide +kernel
theorem c2:aX ["_law_script","_law_cells","_law_one","_law_two","_law_pick","_law_many","_law_places","_law_ties","_law_k","_law_cell_here","_law_here","_law_there","_law_poles"] ["_law_script","_law_cells"] (af (top 25))=true:=by decide +kernel
theorem d2:bq ⟨["_law_script","_law_cells","_law_one","_law_two","_law_pick","_law_many","_law_places","_law_ties","_law_k","_law_cell_here","_law_here","_law_there","_law_poles"],af (top 25),Oc.map (λr=>(r.1,r.2.1)),cons,tb⟩ jB (aj (top 25))=true:=by decide +kernel
theorem c3:aX ["poles","ties","named","name","one","other"] ["poles","ties"] (af (top 5))=true:=by decide +kernel
theorem d3:bq ⟨["poles","ties","named","name","one","other"],af (top 5),Od.map (λr=>(r.1,r.2.1)),cons,tb⟩ cB (aj (top 5))=true:=by decide +kernel
theorem c4:aX ["net"] ["net"] (af (top 6))=true:=by decide +kernel
theorem d4:bq ⟨["net"],af (top 6),Oe.map (λr=>(r.1,r.2.1)),cons,tb⟩ gi (aj (top 6))=true:=by decide +kernel
theorem c5:aX ["net","places","tie"] ["net"] (af (top 7))=true:=by decide +kernel
theorem d5:bq ⟨["net","places","tie"],af (top 7),Of.map (λr=>(r.1,r.2.1)),cons,tb⟩ dU (aj (top 7))=true:=by decide +kernel
theorem c6:aX ["self","net","name","one","other"] ["self","net"] (af (bV 0))=true:=by decide +kernel
theorem d6:bq ⟨["self","net","name","one","other"],af (bV 0),Og.map (λr=>(r.1,r.2.1)),cons,tb⟩ eX (aj (bV 0))=true:=by decide +kernel
theorem c7:aX ["places","pairs","firsts","place","one","other","kept","gone"] ["places","pairs"] (af (top 11))=true:=by decide +kernel
theorem d7:bq ⟨["places","pairs","firsts","place","one","other","kept","gone"],af (top 11),Oh.map (λr=>(r.1,r.2.1)),cons,tb⟩ dW (aj (top 11))=true:=by decide +kernel
theorem c8:aX ["self","row","firsts"] ["self","row"] (af (bV 7))=true:=by decide +kernel
theorem d8:bq ⟨["self","row","firsts"],af (bV 7),Oi.map (λr=>(r.1,r.2.1)),cons,tb⟩ bR (aj (bV 7))=true:=by decide +kernel
theorem c9:aX ["net"] ["net"] (af (top 8))=true:=by decide +kernel
theorem d9:bq ⟨["net"],af (top 8),Oj.map (λr=>(r.1,r.2.1)),cons,tb⟩ fB (aj (top 8))=true:=by decide +kernel
theorem Ao:aX ["self"] ["self"] (af (bV 3))=true:=by decide +kernel
theorem DM:bq ⟨["self"],af (bV 3),CK.map (λr=>(r.1,r.2.1)),cons,tb⟩ dX (aj (bV 3))=true:=by decide +kernel
theorem vO:aX ["self","net"] ["self","net"] (af (gE 0))=true:=by decide +kernel
theorem Oq:bq ⟨["self","net"],af (gE 0),CL.map (λr=>(r.1,r.2.1)),cons,tb⟩ mL (aj (gE 0))=true:=by decide +kernel
theorem c12:aX ["self","net","name","one","other"] ["self","net"] (af (bV 0))=true:=by decide +kernel
theorem Ww:bq ⟨["self","net","name","one","other"],af (bV 0),CM.map (λr=>(r.1,r.2.1)),cons,tb⟩ kI (aj (bV 0))=true:=by decide +kernel
theorem Wx:aX ["side","net"] ["side","net"] (af (top 17))=true:=by decide +kernel
theorem Wz:bq ⟨["side","net"],af (top 17),CN.map (λr=>(r.1,r.2.1)),cons,tb⟩ eY (aj (top 17))=true:=by decide +kernel
theorem WA:aX ["net","tie","name","one","other"] ["net","tie"] (af (top 9))=true:=by decide +kernel
theorem WB:bq ⟨["net","tie","name","one","other"],af (top 9),CO.map (λr=>(r.1,r.2.1)),cons,tb⟩ gj (aj (top 9))=true:=by decide +kernel
theorem WC:aX ["net","tie"] ["net","tie"] (af (top 19))=true:=by decide +kernel
theorem WD:bq ⟨["net","tie"],af (top 19),CP.map (λr=>(r.1,r.2.1)),cons,tb⟩ gk (aj (top 19))=true:=by decide +kernel
theorem WE:aX ["net","tie","ends","places","poles","ties","name","one","other"] ["net","tie"] (af (top 21))=true:=by decide +kernel
theorem WG:bq ⟨["net","tie","ends","places","poles","ties","name","one","other"],af (top 21),CQ.map (λr=>(r.1,r.2.1)),cons,tb⟩ jC (aj (top 21))=true:=by decide +kernel
theorem WH:aX ["net","tie"] ["net","tie"] (af (top 20))=true:=by decide +kernel
theorem WI:bq ⟨["net","tie"],af (top 20),CS.map (λr=>(r.1,r.2.1)),cons,tb⟩ dY (aj (top 20))=true:=by decide +kernel
theorem WJ:aX ["_law_names","_law_cell_here","_law_row_here","_law_name"] ["_law_names","_law_cell_here"] (af (top 26))=true:=by decide +kernel
theorem WK:bq ⟨["_law_names","_law_cell_here","_law_row_here","_law_name"],af (top 26),CT.map (λr=>(r.1,r.2.1)),cons,tb⟩ jD (aj (top 26))=true:=by decide +kernel
theorem WL:aX ["self","row","rest"] ["self","row"] (af (gE 2))=true:=by decide +kernel
theorem WM:bq ⟨["self","row","rest"],af (gE 2),CU.map (λr=>(r.1,r.2.1)),cons,tb⟩ cN (aj (gE 2))=true:=by decide +kernel
theorem WN:aX ["self","row"] ["self","row"] (af (pV 1))=true:=by decide +kernel
theorem WO:bq ⟨["self","row"],af (pV 1),CV.map (λr=>(r.1,r.2.1)),cons,tb⟩ cC (aj (pV 1))=true:=by decide +kernel
theorem WQ:aX ["_law_script","_law_size","_law_net_here","_law_first","_law_second","_law_name","_law_others","_law_kept","_law_gone","_law_cell_here","_law_picked","_law_wider"] ["_law_script"] (af (top 27))=true:=by decide +kernel
theorem WR:bq ⟨["_law_script","_law_size","_law_net_here","_law_first","_law_second","_law_name","_law_others","_law_kept","_law_gone","_law_cell_here","_law_picked","_law_wider"],af (top 27),CW.map (λr=>(r.1,r.2.1)),cons,tb⟩ jE (aj (top 27))=true:=by decide +kernel
section
variable {P:Program} {w:World} {K:PySem.W.Frag} {mg:Str->Option Value} {base:Heap}
theorem all_mk{l:PySem.W.OpenLaw}{h:Heap}{fa:Addr}(X:K.In h)(G:h.Ns mainGlobals mg)(WS:mg "law" = some (.ref fa))(hφ:∀ns:List Int,ns.length<=63->∃h',vq [.rl (ns.map .int)] []=.ok (.bl true) h'){D0:Addr}{D1:Addr}{E0:Addr}{E1:Addr}{E2:Addr}{WU WW WX WY UP WZ:Value}{W0 W2:Option Addr}{W3:Array (Option Value)}{a0:Addr}{W4 W5 W6 W7 UQ W8:Value}{W9 Xa:Option Addr}{Xb:Array (Option Value)}{a1:Addr}{Xc Xd Xe Xf UR Xg:Value}{Xh Xi:Option Addr}{sl2:Array (Option Value)}{a2:Addr}{Xj Xk Xl Xm US Xn:Value}{Xo Xp:Option Addr}{Xq:Array (Option Value)}{a3:Addr}{Xr Xs Xu Xv UT Xw:Value}{Xx Xy:Option Addr}{Xz:Array (Option Value)}{a4:Addr}{XA XC XD XE UU XF:Value}{XG XH:Option Addr}{XI:Array (Option Value)}{a5:Addr}{XJ XM XO XQ UW XR:Value}{XS XT:Option Addr}{XU:Array (Option Value)}{a6:Addr}{XW XX XY XZ UX X0:Value}{X3 X4:Option Addr}{X5:Array (Option Value)}{a7:Addr}{X6 X7 X8 Yb UY Yc:Value}{Yd Ye:Option Addr}{Yg:Array (Option Value)}{a8:Addr}{Yh Yi Yj Yk UZ Yl:Value}{Ym Yn:Option Addr}{Yo:Array (Option Value)}{a9:Addr}{Rw Rx Ry Rz Ot RA:Value}{RB RC:Option Addr}{RD:Array (Option Value)}{La:Addr}{RE RG RH RI Ou RJ:Value}{RK RL:Option Addr}{RM:Array (Option Value)}{Ov:Addr}{RO RP RQ RS Ow RT:Value}{RU RW:Option Addr}{RX:Array (Option Value)}{Ox:Addr}{RY RZ R0 R3 Oz R4:Value}{R5 R6:Option Addr}{R7:Array (Option Value)}{Px:Addr}{R8 R9 Sa Sb OA Sd:Value}{Se Sf:Option Addr}{Sg:Array (Option Value)}{Py:Addr}{Sh Si Sj Sk OC Sm:Value}{Sn So:Option Addr}{Sq:Array (Option Value)}{Pz:Addr}{Ss Su Sv Sw OE Sx:Value}{Sy Sz:Option Addr}{SA:Array (Option Value)}{PB:Addr}{SD SE SG SH OF SJ:Value}{SK SM:Option Addr}{SN:Array (Option Value)}{PC:Addr}{SO SQ SS SV OG SW:Value}{SX SY:Option Addr}{S0:Array (Option Value)}{PD:Addr}{S4 S5 S6 S7 OH S8:Value}{S9 Tc:Option Addr}{Td:Array (Option Value)}{LP:Addr}{Te Tf Tg Th OI Ti:Value}{Tj Tn:Option Addr}{To:Array (Option Value)}{LQ:Addr}{Tp OJ OL OM Lb ON:Value}{Tq OO:Option Addr}{Tr:Array (Option Value)}{Tt:Addr}{tk0:Tok}
  (DA0:PySem.W.nsIn K mainGlobals "ByRest" = some (some (.ref D0))) (DG0:plainGet K D0 Str.empty=true) (DH0:hasDictIn K D0=true) (DO0:plainOver K D0=true) (DS0:findIn K (.ref D0) "__setattr__" = some (some (.builtin "object.__setattr__"))) (DM0:makesIn K D0=true) (DK0:keepIn K (.ref D0)=true)
  (DN0_0:findIn K (.ref D0) "net" = some none)
  (DN0_1:findIn K (.ref D0) "places" = some none)
  (DN0_2:findIn K (.ref D0) "ends" = some none)
  (DN0_3:findIn K (.ref D0) "whole" = some none)
  (DA1:PySem.W.nsIn K mainGlobals "ByTrees" = some (some (.ref D1))) (DG1:plainGet K D1 Str.empty=true) (DH1:hasDictIn K D1=true) (DO1:plainOver K D1=true) (DS1:findIn K (.ref D1) "__setattr__" = some (some (.builtin "object.__setattr__"))) (DM1:makesIn K D1=true) (DK1:keepIn K (.ref D1)=true)
  (DN1_0:findIn K (.ref D1) "net" = some none)
  (DN1_1:findIn K (.ref D1) "places" = some none)
  (DN1_2:findIn K (.ref D1) "ends" = some none)
  (DN1_3:findIn K (.ref D1) "whole" = some none)
  (EA0:PySem.W.nsIn K mainGlobals "Rule" = some (some (.ref E0)))
  (EG0:specialIn K (.ref E0) "__getattribute__" = some (some (.builtin "type.__getattribute__"))) (ER0:readsIn K E0 (.type "type")=true)
  (EA1:PySem.W.nsIn K mainGlobals "ByRest" = some (some (.ref E1)))
  (EK1_0:kitOne K (.ref D0) (.ref E1)=some true)
  (EK1_1:kitOne K (.ref D1) (.ref E1)=some false)
  (EA2:PySem.W.nsIn K mainGlobals "ByTrees" = some (some (.ref E2)))
  (EK2_0:kitOne K (.ref D0) (.ref E2)=some false)
  (EK2_1:kitOne K (.ref D1) (.ref E2)=some true)
  (TN:specialIn K (.builtin "object.__class__") "__get__" = some (some (.builtin "getset_descriptor.__get__"))) (TT:takesIn K (.builtin "object.__class__")=some true)
  (TA0:findIn K (.ref D0) "__class__" = some (some (.builtin "object.__class__"))) (TM0:PySem.W.mroIn K D0 (.type "object")=some true)
  (TA1:findIn K (.ref D1) "__class__" = some (some (.builtin "object.__class__"))) (TM1:PySem.W.mroIn K D1 (.type "object")=some true)
  (A0:PySem.W.nsIn K mainGlobals "_law_cell" = some (some (.ref a0)))
  (L0:K.lookup a0=some ⟨WU,W0,.func (PySem.W.fnOf "_law_cell" "_law_cell" (aO (top 23)) (aj (top 23)) (af (top 23)) .none WW WX WY W2 UP WZ),W3⟩) (C0:codeIn K UP "_law_cell" = true) (Q0:keepIn K (.ref a0)=true)
  (A1:PySem.W.nsIn K mainGlobals "_law_number" = some (some (.ref a1)))
  (L1:K.lookup a1=some ⟨W4,W9,.func (PySem.W.fnOf "_law_number" "_law_number" (aO (top 24)) (aj (top 24)) (af (top 24)) .none W5 W6 W7 Xa UQ W8),Xb⟩) (C1:codeIn K UQ "_law_number" = true) (Q1:keepIn K (.ref a1)=true)
  (A2:PySem.W.nsIn K mainGlobals "_law_net" = some (some (.ref a2)))
  (L2:K.lookup a2=some ⟨Xc,Xh,.func (PySem.W.fnOf "_law_net" "_law_net" (aO (top 25)) (aj (top 25)) (af (top 25)) .none Xd Xe Xf Xi UR Xg),sl2⟩) (C2:codeIn K UR "_law_net" = true) (Q2:keepIn K (.ref a2)=true)
  (A3:PySem.W.nsIn K mainGlobals "put_in_order" = some (some (.ref a3)))
  (L3:K.lookup a3=some ⟨Xj,Xo,.func (PySem.W.fnOf "put_in_order" "put_in_order" (aO (top 5)) (aj (top 5)) (af (top 5)) .none Xk Xl Xm Xp US Xn),Xq⟩) (C3:codeIn K US "put_in_order" = true) (Q3:keepIn K (.ref a3)=true)
  (A4:PySem.W.nsIn K mainGlobals "own_net" = some (some (.ref a4)))
  (L4:K.lookup a4=some ⟨Xr,Xx,.func (PySem.W.fnOf "own_net" "own_net" (aO (top 6)) (aj (top 6)) (af (top 6)) .none Xs Xu Xv Xy UT Xw),Xz⟩) (C4:codeIn K UT "own_net" = true) (Q4:keepIn K (.ref a4)=true)
  (A5:PySem.W.nsIn K mainGlobals "places_of" = some (some (.ref a5)))
  (L5:K.lookup a5=some ⟨XA,XG,.func (PySem.W.fnOf "places_of" "places_of" (aO (top 7)) (aj (top 7)) (af (top 7)) .none XC XD XE XH UU XF),XI⟩) (C5:codeIn K UU "places_of" = true) (Q5:keepIn K (.ref a5)=true)
  (EF0_6:findCls K (.ref E0) (.type "type") "__init__" = some (.val (.ref a6)))
  (I6:PySem.W.isFn K (.ref a6)=true)
  (L6:K.lookup a6=some ⟨XJ,XS,.func (PySem.W.fnOf "__init__" "Rule.__init__" (aO (bV 0)) (aj (bV 0)) (af (bV 0)) .none XM XO XQ XT UW XR),XU⟩) (C6:codeIn K UW "Rule.__init__" = true) (Q6:keepIn K (.ref a6)=true)
  (A7:PySem.W.nsIn K mainGlobals "firsts_by" = some (some (.ref a7)))
  (L7:K.lookup a7=some ⟨XW,X3,.func (PySem.W.fnOf "firsts_by" "firsts_by" (aO (top 11)) (aj (top 11)) (af (top 11)) .none XX XY XZ X4 UX X0),X5⟩) (C7:codeIn K UX "firsts_by" = true) (Q7:keepIn K (.ref a7)=true)
  (M0_8:findIn K (.ref D0) "tree_rank" = some (some (.ref a8)))
  (M1_8:findIn K (.ref D1) "tree_rank" = some (some (.ref a8)))
  (I8:PySem.W.isFn K (.ref a8)=true)
  (L8:K.lookup a8=some ⟨X6,Yd,.func (PySem.W.fnOf "tree_rank" "Rule.tree_rank" (aO (bV 7)) (aj (bV 7)) (af (bV 7)) .none X7 X8 Yb Ye UY Yc),Yg⟩) (C8:codeIn K UY "Rule.tree_rank" = true) (Q8:keepIn K (.ref a8)=true)
  (A9:PySem.W.nsIn K mainGlobals "names_of" = some (some (.ref a9)))
  (L9:K.lookup a9=some ⟨Yh,Ym,.func (PySem.W.fnOf "names_of" "names_of" (aO (top 8)) (aj (top 8)) (af (top 8)) .none Yi Yj Yk Yn UZ Yl),Yo⟩) (C9:codeIn K UZ "names_of" = true) (Q9:keepIn K (.ref a9)=true)
  (M0_10:findIn K (.ref D0) "ties" = some (some (.ref La)))
  (M1_10:findIn K (.ref D1) "ties" = some (some (.ref La)))
  (I10:PySem.W.isFn K (.ref La)=true)
  (L10:K.lookup La=some ⟨Rw,RB,.func (PySem.W.fnOf "ties" "Rule.ties" (aO (bV 3)) (aj (bV 3)) (af (bV 3)) .none Rx Ry Rz RC Ot RA),RD⟩) (C10:codeIn K Ot "Rule.ties" = true) (Q10:keepIn K (.ref La)=true)
  (A11:findIn K (.ref D0) "__init__" = some (some (.ref Ov))) (I11:PySem.W.isFn K (.ref Ov)=true)
  (L11:K.lookup Ov=some ⟨RE,RK,.func (PySem.W.fnOf "__init__" "ByRest.__init__" (aO (gE 0)) (aj (gE 0)) (af (gE 0)) .none RG RH RI RL Ou RJ),RM⟩) (C11:codeIn K Ou "ByRest.__init__" = true) (Q11:keepIn K (.ref Ov)=true)
  (A12:findIn K (.ref D1) "__init__" = some (some (.ref Ox))) (I12:PySem.W.isFn K (.ref Ox)=true)
  (L12:K.lookup Ox=some ⟨RO,RU,.func (PySem.W.fnOf "__init__" "Rule.__init__" (aO (bV 0)) (aj (bV 0)) (af (bV 0)) .none RP RQ RS RW Ow RT),RX⟩) (C12:codeIn K Ow "Rule.__init__" = true) (Q12:keepIn K (.ref Ox)=true)
  (A13:PySem.W.nsIn K mainGlobals "rule_of" = some (some (.ref Px)))
  (L13:K.lookup Px=some ⟨RY,R5,.func (PySem.W.fnOf "rule_of" "rule_of" (aO (top 17)) (aj (top 17)) (af (top 17)) .none RZ R0 R3 R6 Oz R4),R7⟩) (C13:codeIn K Oz "rule_of" = true) (Q13:keepIn K (.ref Px)=true)
  (A14:PySem.W.nsIn K mainGlobals "ends_of" = some (some (.ref Py)))
  (L14:K.lookup Py=some ⟨R8,Se,.func (PySem.W.fnOf "ends_of" "ends_of" (aO (top 9)) (aj (top 9)) (af (top 9)) .none R9 Sa Sb Sf OA Sd),Sg⟩) (C14:codeIn K OA "ends_of" = true) (Q14:keepIn K (.ref Py)=true)
  (A15:PySem.W.nsIn K mainGlobals "without" = some (some (.ref Pz)))
  (L15:K.lookup Pz=some ⟨Sh,Sn,.func (PySem.W.fnOf "without" "without" (aO (top 19)) (aj (top 19)) (af (top 19)) .none Si Sj Sk So OC Sm),Sq⟩) (C15:codeIn K OC "without" = true) (Q15:keepIn K (.ref Pz)=true)
  (A16:PySem.W.nsIn K mainGlobals "drawn" = some (some (.ref PB)))
  (L16:K.lookup PB=some ⟨Ss,Sy,.func (PySem.W.fnOf "drawn" "drawn" (aO (top 21)) (aj (top 21)) (af (top 21)) .none Su Sv Sw Sz OE Sx),SA⟩) (C16:codeIn K OE "drawn" = true) (Q16:keepIn K (.ref PB)=true)
  (A17:PySem.W.nsIn K mainGlobals "taken_out" = some (some (.ref PC)))
  (L17:K.lookup PC=some ⟨SD,SK,.func (PySem.W.fnOf "taken_out" "taken_out" (aO (top 20)) (aj (top 20)) (af (top 20)) .none SE SG SH SM OF SJ),SN⟩) (C17:codeIn K OF "taken_out" = true) (Q17:keepIn K (.ref PC)=true)
  (A18:PySem.W.nsIn K mainGlobals "_law_row" = some (some (.ref PD)))
  (L18:K.lookup PD=some ⟨SO,SX,.func (PySem.W.fnOf "_law_row" "_law_row" (aO (top 26)) (aj (top 26)) (af (top 26)) .none SQ SS SV SY OG SW),S0⟩) (C18:codeIn K OG "_law_row" = true) (Q18:keepIn K (.ref PD)=true)
  (M0_19:findIn K (.ref D0) "rank" = some (some (.ref LP)))
  (I19:PySem.W.isFn K (.ref LP)=true)
  (L19:K.lookup LP=some ⟨S4,S9,.func (PySem.W.fnOf "rank" "ByRest.rank" (aO (gE 2)) (aj (gE 2)) (af (gE 2)) .none S5 S6 S7 Tc OH S8),Td⟩) (C19:codeIn K OH "ByRest.rank" = true) (Q19:keepIn K (.ref LP)=true)
  (M1_20:findIn K (.ref D1) "rank" = some (some (.ref LQ)))
  (I20:PySem.W.isFn K (.ref LQ)=true)
  (L20:K.lookup LQ=some ⟨Te,Tj,.func (PySem.W.fnOf "rank" "ByTrees.rank" (aO (pV 1)) (aj (pV 1)) (af (pV 1)) .none Tf Tg Th Tn OI Ti),To⟩) (C20:codeIn K OI "ByTrees.rank" = true) (Q20:keepIn K (.ref LQ)=true)
  (A21:PySem.W.nsIn K mainGlobals "law" = some (some (.ref Tt)))
  (L21:K.lookup Tt=some ⟨Tp,Tq,.func (PySem.W.fnOf "law" "law" (aO (top 27)) (aj (top 27)) (af (top 27)) .none OJ OL OM OO Lb ON),Tr⟩) (C21:codeIn K Lb "law" = true) (Q21:keepIn K (.ref Tt)=true)
  (Z0:PySem.W.nsIn K mainGlobals "len" = some none)
  (Z1:PySem.W.nsIn K mainGlobals "min" = some none)
  (Z2:PySem.W.nsIn K mainGlobals "max" = some none)
  (Z3:PySem.W.nsIn K mainGlobals "sorted" = some none)
  (Z4:PySem.W.nsIn K mainGlobals "list" = some none)
  (Z5:PySem.W.nsIn K mainGlobals "tuple" = some none)
  (Z6:PySem.W.nsIn K mainGlobals "str" = some none)
  (Z7:PySem.W.nsIn K mainGlobals "all" = some none)
  (Z8:PySem.W.nsIn K mainGlobals "any" = some none)
  (Z9:PySem.W.nsIn K mainGlobals "isinstance" = some none)
  (Z10:PySem.W.nsIn K mainGlobals "range" = some none)
  (Z11:PySem.W.nsIn K mainGlobals "enumerate" = some none)
  (Z12:PySem.W.nsIn K mainGlobals "int" = some none)
  (Z13:PySem.W.nsIn K mainGlobals "bool" = some none)
  (Z14:PySem.W.nsIn K mainGlobals "dict" = some none)
  (Z15:PySem.W.nsIn K mainGlobals "set" = some none)
  (Z16:PySem.W.nsIn K mainGlobals "zip" = some none)
  (V0:PySem.W.nsIn K mainGlobals "THOUGHT" = some (some (.int (-1) tk0))) :
  ∃fd:FuncData,(∀(s:Shared) (v:Value),BindsTo s fd ⟨[v],[]⟩ [("_law_script",v)])/\∀base:Heap,K.In base->base.Ns mainGlobals mg->eB l.prog w K mg base vM 44 fa fd ["_law_script"] (Po K):=by
 have e:=WS.symm.trans (mg_of X G A21);cases e;obtain⟨cl,hcl⟩:∃cl:Nat->Addr,cl=λn=>if n=0 then D0 else if n=1 then D1 else if n=1006 then a6 else if n=1008 then a8 else if n=1010 then La else if n=1019 then LP else if n=1020 then LQ else 0:=⟨_,rfl⟩
 have T:Base K cl mg cons tb:=by
  subst hcl;refine⟨λx hx=>?_,λp hp=>?_,λc hc=>?_,λp hp=>?_,λp hp=>?_,λp hp=>?_⟩
  ·simp only[fk,mem_cons,not_mem_nil,or_false] at hx
   rcases hx with rfl|rfl|rfl|rfl|rfl|rfl|rfl|rfl|rfl|rfl|rfl|rfl|rfl|rfl|rfl|rfl|rfl
   ·exact mg_none_of X G Z0
   ·exact mg_none_of X G Z1
   ·exact mg_none_of X G Z2
   ·exact mg_none_of X G Z3
   ·exact mg_none_of X G Z4
   ·exact mg_none_of X G Z5
   ·exact mg_none_of X G Z6
   ·exact mg_none_of X G Z7
   ·exact mg_none_of X G Z8
   ·exact mg_none_of X G Z9
   ·exact mg_none_of X G Z10
   ·exact mg_none_of X G Z11
   ·exact mg_none_of X G Z12
   ·exact mg_none_of X G Z13
   ·exact mg_none_of X G Z14
   ·exact mg_none_of X G Z15
   ·exact mg_none_of X G Z16
  ·simp only[cons,mem_cons,not_mem_nil,or_false] at hp
   rcases hp with rfl
   ·exact⟨.int (-1),_,mg_of X G V0,⟨_,rfl⟩,λ_ _ _=>VR.int⟩
  ·have hc:c<2:=hc
   match c,hc with
   | 0,_ =>
    refine⟨⟨DG0,DH0,DO0,DS0⟩,λx hx=>?_⟩;simp only[tb,mem_cons,not_mem_nil,or_false] at hx
    rcases hx with rfl|rfl|rfl|rfl
    ·exact DN0_0
    ·exact DN0_1
    ·exact DN0_2
    ·exact DN0_3
   | 1,_ =>
    refine⟨⟨DG1,DH1,DO1,DS1⟩,λx hx=>?_⟩;simp only[tb,mem_cons,not_mem_nil,or_false] at hx
    rcases hx with rfl|rfl|rfl|rfl
    ·exact DN1_0
    ·exact DN1_1
    ·exact DN1_2
    ·exact DN1_3
  ·simp only[tb,mem_cons,not_mem_nil,or_false] at hp
   rcases hp with rfl|rfl|rfl|rfl|rfl|rfl
   ·exact⟨M0_8,I8,Q8⟩
   ·exact⟨M1_8,I8,Q8⟩
   ·exact⟨M0_10,I10,Q10⟩
   ·exact⟨M1_10,I10,Q10⟩
   ·exact⟨M0_19,I19,Q19⟩
   ·exact⟨M1_20,I20,Q20⟩
  ·simp only[tb,mem_cons,not_mem_nil,or_false] at hp
   rcases hp with rfl
   ·exact⟨E0,mg_of X G EA0,⟨EG0,ER0,EF0_6,Q6⟩⟩
  ·simp only[tb,mem_cons,not_mem_nil,or_false] at hp
   rcases hp with rfl|rfl
   ·refine⟨E1,mg_of X G EA1,λc b hb=>?_⟩
    match c,hb with
    | 0,hb=>cases hb;exact⟨⟨TA0,TN,TT,TM0⟩,EK1_0⟩
    | 1,hb=>cases hb;exact⟨⟨TA1,TN,TT,TM1⟩,EK1_1⟩
    | n+2,hb=>simp at hb
   ·refine⟨E2,mg_of X G EA2,λc b hb=>?_⟩
    match c,hb with
    | 0,hb=>cases hb;exact⟨⟨TA0,TN,TT,TM0⟩,EK2_0⟩
    | 1,hb=>cases hb;exact⟨⟨TA1,TN,TT,TM1⟩,EK2_1⟩
    | n+2,hb=>simp at hb
 have F0:=bM (st:=(top 23)) L0 C0 Q0;have b0:=F0.binds (ps:=["_law_script","_law_k"]) λ_ _ _ _ _ _ us hl=>by obtain⟨_,_,rfl⟩:=fH hl;exact rfl
 have F1:=bM (st:=(top 24)) L1 C1 Q1;have b1:=F1.binds (ps:=["_law_one","_law_two","_law_k"]) λ_ _ _ _ _ _ us hl=>by obtain⟨_,_,_,rfl⟩:=Nq hl;exact rfl
 have F2:=bM (st:=(top 25)) L2 C2 Q2;have b2:=F2.binds (ps:=["_law_script","_law_cells"]) λ_ _ _ _ _ _ us hl=>by obtain⟨_,_,rfl⟩:=fH hl;exact rfl
 have F3:=bM (st:=(top 5)) L3 C3 Q3;have b3:=F3.binds (ps:=["poles","ties"]) λ_ _ _ _ _ _ us hl=>by obtain⟨_,_,rfl⟩:=fH hl;exact rfl
 have F4:=bM (st:=(top 6)) L4 C4 Q4;have b4:=F4.binds (ps:=["net"]) λ_ _ _ _ _ _ us hl=>by obtain⟨_,rfl⟩:=ym hl;exact rfl
 have F5:=bM (st:=(top 7)) L5 C5 Q5;have b5:=F5.binds (ps:=["net"]) λ_ _ _ _ _ _ us hl=>by obtain⟨_,rfl⟩:=ym hl;exact rfl
 have F6:=bM (st:=(bV 0)) L6 C6 Q6;have b6:=F6.binds (ps:=["self","net"]) λ_ _ _ _ _ _ us hl=>by obtain⟨_,_,rfl⟩:=fH hl;exact rfl
 have F7:=bM (st:=(top 11)) L7 C7 Q7;have b7:=F7.binds (ps:=["places","pairs"]) λ_ _ _ _ _ _ us hl=>by obtain⟨_,_,rfl⟩:=fH hl;exact rfl
 have F8:=bM (st:=(bV 7)) L8 C8 Q8;have b8:=F8.binds (ps:=["self","row"]) λ_ _ _ _ _ _ us hl=>by obtain⟨_,_,rfl⟩:=fH hl;exact rfl
 have F9:=bM (st:=(top 8)) L9 C9 Q9;have b9:=F9.binds (ps:=["net"]) λ_ _ _ _ _ _ us hl=>by obtain⟨_,rfl⟩:=ym hl;exact rfl
 have U0:=bM (st:=(bV 3)) L10 C10 Q10;have Yp:=U0.binds (ps:=["self"]) λ_ _ _ _ _ _ us hl=>by obtain⟨_,rfl⟩:=ym hl;exact rfl
 have U1:=bM (st:=(gE 0)) L11 C11 Q11;have Yq:=U1.binds (ps:=["self","net"]) λ_ _ _ _ _ _ us hl=>by obtain⟨_,_,rfl⟩:=fH hl;exact rfl
 have U3:=bM (st:=(bV 0)) L12 C12 Q12;have Yr:=U3.binds (ps:=["self","net"]) λ_ _ _ _ _ _ us hl=>by obtain⟨_,_,rfl⟩:=fH hl;exact rfl
 have U4:=bM (st:=(top 17)) L13 C13 Q13;have Ys:=U4.binds (ps:=["side","net"]) λ_ _ _ _ _ _ us hl=>by obtain⟨_,_,rfl⟩:=fH hl;exact rfl
 have U5:=bM (st:=(top 9)) L14 C14 Q14;have Yt:=U5.binds (ps:=["net","tie"]) λ_ _ _ _ _ _ us hl=>by obtain⟨_,_,rfl⟩:=fH hl;exact rfl
 have U6:=bM (st:=(top 19)) L15 C15 Q15;have Yu:=U6.binds (ps:=["net","tie"]) λ_ _ _ _ _ _ us hl=>by obtain⟨_,_,rfl⟩:=fH hl;exact rfl
 have U7:=bM (st:=(top 21)) L16 C16 Q16;have Yv:=U7.binds (ps:=["net","tie"]) λ_ _ _ _ _ _ us hl=>by obtain⟨_,_,rfl⟩:=fH hl;exact rfl
 have U8:=bM (st:=(top 20)) L17 C17 Q17;have Yw:=U8.binds (ps:=["net","tie"]) λ_ _ _ _ _ _ us hl=>by obtain⟨_,_,rfl⟩:=fH hl;exact rfl
 have U9:=bM (st:=(top 26)) L18 C18 Q18;have Yx:=U9.binds (ps:=["_law_names","_law_cell_here"]) λ_ _ _ _ _ _ us hl=>by obtain⟨_,_,rfl⟩:=fH hl;exact rfl
 have Va:=bM (st:=(gE 2)) L19 C19 Q19;have Yy:=Va.binds (ps:=["self","row"]) λ_ _ _ _ _ _ us hl=>by obtain⟨_,_,rfl⟩:=fH hl;exact rfl
 have Vb:=bM (st:=(pV 1)) L20 C20 Q20;have Yz:=Vb.binds (ps:=["self","row"]) λ_ _ _ _ _ _ us hl=>by obtain⟨_,_,rfl⟩:=fH hl;exact rfl
 have YA:=bM (st:=(top 27)) L21 C21 Q21;refine⟨PySem.W.fnOf "law" "law" (aO (top 27)) (aj (top 27)) (af (top 27)) .none OJ OL OM OO Lb ON,λs v=>.of_eq rfl,λbase _ _=>?_⟩;have G0:cZ l.prog w ⟨K,cl⟩ mg base 0 N9:=all_nil;have G1:cZ l.prog w ⟨K,cl⟩ mg base 2 Oa:=bP (x:="_law_cell") (N:=["_law_script","_law_k"]) (ps:=["_law_script","_law_k"]) (body:=iz) (f:=a0) T G0 F0 (mg_of X G A0) b0 (by decide) c0 d0;have G2:cZ l.prog w ⟨K,cl⟩ mg base 4 Oc:=bP (x:="_law_number") (N:=["_law_one","_law_two","_law_k","_law_step","_law_shift"]) (ps:=["_law_one","_law_two","_law_k"]) (body:=fz) (f:=a1) T G1 F1 (mg_of X G A1) b1 (by decide) c1 d1;have G3:cZ l.prog w ⟨K,cl⟩ mg base 6 Od:=bP (x:="_law_net") (N:=["_law_script","_law_cells","_law_one","_law_two","_law_pick","_law_many","_law_places","_law_ties","_law_k","_law_cell_here","_law_here","_law_there","_law_poles"]) (ps:=["_law_script","_law_cells"]) (body:=jB) (f:=a2) T G2 F2 (mg_of X G A2) b2 (by decide) c2 d2;have G4:cZ l.prog w ⟨K,cl⟩ mg base 8 Oe:=bP (x:="put_in_order") (N:=["poles","ties","named","name","one","other"]) (ps:=["poles","ties"]) (body:=cB) (f:=a3) T G3 F3 (mg_of X G A3) b3 (by decide) c3 d3;have G5:cZ l.prog w ⟨K,cl⟩ mg base 10 Of:=bP (x:="own_net") (N:=["net"]) (ps:=["net"]) (body:=gi) (f:=a4) T G4 F4 (mg_of X G A4) b4 (by decide) c4 d4;have G6:cZ l.prog w ⟨K,cl⟩ mg base 12 Og:=bP (x:="places_of") (N:=["net","places","tie"]) (ps:=["net"]) (body:=dU) (f:=a5) T G5 F5 (mg_of X G A5) b5 (by decide) c5 d5;have G7:cZ l.prog w ⟨K,cl⟩ mg base 14 Oh:=jq (y:="Rule.__init__") (N:=["self","net","name","one","other"]) (ps:=["self","net"]) (body:=eX) (f:=a6) T G6 F6 (by rw[hcl];rfl) b6 c6 d6;have G8:cZ l.prog w ⟨K,cl⟩ mg base 16 Oi:=bP (x:="firsts_by") (N:=["places","pairs","firsts","place","one","other","kept","gone"]) (ps:=["places","pairs"]) (body:=dW) (f:=a7) T G7 F7 (mg_of X G A7) b7 (by decide) c7 d7;have G9:cZ l.prog w ⟨K,cl⟩ mg base 18 Oj:=jq (y:="Rule.tree_rank") (N:=["self","row","firsts"]) (ps:=["self","row"]) (body:=bR) (f:=a8) T G8 F8 (by rw[hcl];rfl) b8 c8 d8;have YB:cZ l.prog w ⟨K,cl⟩ mg base 20 CK:=bP (x:="names_of") (N:=["net"]) (ps:=["net"]) (body:=fB) (f:=a9) T G9 F9 (mg_of X G A9) b9 (by decide) c9 d9;have YC:cZ l.prog w ⟨K,cl⟩ mg base 22 CL:=jq (y:="Rule.ties") (N:=["self"]) (ps:=["self"]) (body:=dX) (f:=La) T YB U0 (by rw[hcl];rfl) Yp Ao DM;have YD:cZ l.prog w ⟨K,cl⟩ mg base 24 CM:=all_class (x:="ByRest") (N:=["self","net"]) (ps:=["self","net"]) (body:=mL) (n:=1) (f:=Ov) (c:=0) T YC U1 (by rw[hcl];exact mg_of X G DA0) (by rw[hcl];exact⟨DM0,A11,I11,DK0⟩) Yq rfl (by decide) vO Oq;have YE:cZ l.prog w ⟨K,cl⟩ mg base 26 CN:=all_class (x:="ByTrees") (N:=["self","net","name","one","other"]) (ps:=["self","net"]) (body:=kI) (n:=1) (f:=Ox) (c:=1) T YD U3 (by rw[hcl];exact mg_of X G DA1) (by rw[hcl];exact⟨DM1,A12,I12,DK1⟩) Yr rfl (by decide) c12 Ww;have YF:cZ l.prog w ⟨K,cl⟩ mg base 28 CO:=bP (x:="rule_of") (N:=["side","net"]) (ps:=["side","net"]) (body:=eY) (f:=Px) T YE U4 (mg_of X G A13) Ys (by decide) Wx Wz;have YG:cZ l.prog w ⟨K,cl⟩ mg base 30 CP:=bP (x:="ends_of") (N:=["net","tie","name","one","other"]) (ps:=["net","tie"]) (body:=gj) (f:=Py) T YF U5 (mg_of X G A14) Yt (by decide) WA WB;have YH:cZ l.prog w ⟨K,cl⟩ mg base 32 CQ:=bP (x:="without") (N:=["net","tie"]) (ps:=["net","tie"]) (body:=gk) (f:=Pz) T YG U6 (mg_of X G A15) Yu (by decide) WC WD;have YI:cZ l.prog w ⟨K,cl⟩ mg base 34 CS:=bP (x:="drawn") (N:=["net","tie","ends","places","poles","ties","name","one","other"]) (ps:=["net","tie"]) (body:=jC) (f:=PB) T YH U7 (mg_of X G A16) Yv (by decide) WE WG;have YJ:cZ l.prog w ⟨K,cl⟩ mg base 36 CT:=bP (x:="taken_out") (N:=["net","tie"]) (ps:=["net","tie"]) (body:=dY) (f:=PC) T YI U8 (mg_of X G A17) Yw (by decide) WH WI;have YK:cZ l.prog w ⟨K,cl⟩ mg base 38 CU:=bP (x:="_law_row") (N:=["_law_names","_law_cell_here","_law_row_here","_law_name"]) (ps:=["_law_names","_law_cell_here"]) (body:=jD) (f:=PD) T YJ U9 (mg_of X G A18) Yx (by decide) WJ WK;have YL:cZ l.prog w ⟨K,cl⟩ mg base 40 CV:=jq (y:="ByRest.rank") (N:=["self","row","rest"]) (ps:=["self","row"]) (body:=cN) (f:=LP) T YK Va (by rw[hcl];rfl) Yy WL WM;have YM:cZ l.prog w ⟨K,cl⟩ mg base 42 CW:=jq (y:="ByTrees.rank") (N:=["self","row"]) (ps:=["self","row"]) (body:=cC) (f:=LQ) T YL Vb (by rw[hcl];rfl) Yz WN WO;exact(yk T YM YA WQ WR).imp (Kr hφ)
end
end K27
end
section
open PySem L2 Hv
local macro_rules | `(tactic| simp only[EV,$ls,*] $[$l:location]?)=>`(tactic| simp only[gc,Cs,Ct,Cu,yC,Hg,Hh,Hi,Hj,Hl,tw,Ho,Ck,Cm,NW,Cn,Hq,cL,bA,Nr,bu,qz,gb,Nt,nL,Ra,Ce,cA,Ci,gD,sZ,Cj,isVar,f9,List.getElem?_cons_zero,List.getElem?_cons_succ,set_cons_zero,set_cons_succ,map_cons,map_nil,length_cons,length_nil,cons_append,nil_append,List.replicate_succ,List.replicate_zero,Nat.reduceSub,Nat.reduceAdd,Nat.reduceLeDiff,Hr,Ht,NX,NY,NZ,N1,N2,N3,Hx,Hy,yD,Hz,HD,HE,HF,HG,HH,HJ,Co,Cp,Cq,Cr,HK,iE,bI,nh,Pp,cG,gX,Hv.stored,List.contains_nil,List.contains_cons,elem_nil,List.elem_cons,Nat.reduceBEq,Nat.reduceEqDiff,BEq.rfl,all_cons,List.all_nil,beq_self_eq_true,uU,fJ,pH,jv,mH,↓reduceIte,Bool.and_true,Bool.true_and,Bool.false_and,Bool.and_false,Bool.or_false,Bool.false_or,Bool.or_true,Bool.true_or,Bool.or_self,zero_le,Bool.not_true,Bool.not_false,false_eq_true,decide_eq_true_eq,not_eq_true',decide_eq_false_iff_not,append_nil,nil_append,reduceCtorEq,$ls,*] $[$l:location]?)
section
open PySem L2 Hv
namespace K27
noncomputable def cellAt(ns:List Int)(k:Nat):Int:=ns.getD k 0
theorem nY(ns:List Int)(k:Nat):dh [.rl (ns.map .int),.int k]=.ok (true,.int (cellAt ns k)):=by
 unfold dh iz
 by_cases h:k<ns.length
 ·have e:jd (List.map Val.int ns) (k:Int)=some (.int (ns[k])):=kT (by simp[h])
  have h':(k:Int)<ns.length:=by omega
  simp only[EV,nk e,length_map,h',cellAt,List.getD,List.getElem?_eq_getElem h,Option.getD_some]
 ·have h':¬ (k:Int)<ns.length:=by omega
  have e:ns[k]?=none:=by simp;omega
  simp only[EV,length_map,h',cellAt,List.getD,e,getD_none]
noncomputable def gq(one two k:Int):Int:=(if 0<one%3 then 1+one/3%10 ^ 56 else 1)*(((1+two%66)*k+one)%67)+(if 0<one%3 then two/66%10 ^ 58 else 0)
theorem Aq(a b:Int)(h:0<=b/\b<67):kh a b=true:=by
 unfold kh;simp only[or_eq_true,and_eq_true,decide_eq_true_eq];right;omega
theorem xB(a b:Int)(h:0<=a/\a<67):kh a b=true:=by
 unfold kh;simp only[or_eq_true,and_eq_true,decide_eq_true_eq];left;omega
theorem yN(one two k:Int):gm [.int one,.int two,.int k]=.ok (true,.int (gq one two k)):=by
 unfold gm fz gq;have m1:kh (1+two%66) k=true:=xB _ _ (by omega);have m2:∀x,kh x (((1+two%66)*k+one)%67)=true:=λx=>Aq _ _ (by omega);simp only[EV,jA (show decide ((0:Int)<3)=true by decide),jA (show decide ((0:Int)<66)=true by decide),jA (show decide ((0:Int)<67)=true by decide),iM (show jh 3=true by decide),iM (show jh 66=true by decide),Hw (show decide ((0:Int)<=56/\(56:Int)<=1000000/\(10:Int).natAbs<2 ^ 64)=true by decide),Hw (show decide ((0:Int)<=58/\(58:Int)<=1000000/\(10:Int).natAbs<2 ^ 64)=true by decide),Hu m1,Hu (m2 _),jA (show decide ((0:Int)<10 ^ (56:Int).toNat)=true by decide),jA (show decide ((0:Int)<10 ^ (58:Int).toNat)=true by decide)]
 repeat' split
 all_goals first|rfl|contradiction
theorem Gg(one two k:Int):0<=gq one two k:=by
 unfold gq;generalize ((1+two%66)*k+one)=z;have hs:∃st:Int,(if 0<one%3 then 1+one/3%10 ^ 56 else 1)=st/\1<=st:=by refine⟨_,rfl,?_⟩;split<;>omega
 have hf:∃sh:Int,(if 0<one%3 then two/66%10 ^ 58 else 0)=sh/\0<=sh:=by refine⟨_,rfl,?_⟩;split<;>omega
 obtain⟨st,e1,a1⟩:=hs;obtain⟨sh,e2,b1⟩:=hf;rw[e1,e2];have p1:0<=st*(z%67):=Int.mul_nonneg (by omega) (by omega);omega
theorem Dg(one two i j:Int)(hi:0<=i/\i<67)(hj:0<=j/\j<67)(e:gq one two i=gq one two j):i=j:=by
 unfold gq at e;have hs:∃st:Int,(if 0<one%3 then 1+one/3%10 ^ 56 else 1)=st/\1<=st:=by refine⟨_,rfl,?_⟩;split<;>omega
 obtain⟨st,e1,a1⟩:=hs;rw[e1] at e;have e2:st*(((1+two%66)*i+one)%67)=st*(((1+two%66)*j+one)%67):=by omega
 have e3:=Int.eq_of_mul_eq_mul_left (by omega:st≠0) e2;exact FT (by omega) hi hj e3
theorem OP{n:Int}(h:inR n=true):ju .range [.int n]=some ((List.range n.toNat).map λ(i:Nat)=>Val.int (0+(i:Int))):=by
 show (if inR n=true then some (bX 0 n.toNat) else none)=_;rw[if_pos h];rfl
structure aC (p q:Int) (ts:List T3):Prop where
 ord:p<=q
 len:ts.length<=14
 up:xu ts
 ends:∀t∈ts,t.2.1<=t.2.2
 names:∀t∈ts,0<=t.1
theorem p7:∀(i:Nat) (ms:List Int) (pre post:List Val) (x:Val),cI i (ms.map .int)=pre++x::post->∃c:Int,x=.tup [.int ((i+pre.length:Nat):Int),.int c]
 | _,[],pre,post,x,h=>by simp[cI] at h
 | i,d::r,[],post,x,h=>by
  rw[map_cons,cI,nil_append] at h;injection h with h _
  exact⟨d,by rw[<-h];rfl⟩
 | i,d::r,y::pre,post,x,h=>by
  rw[map_cons,cI,cons_append] at h;injection h with _ h
  obtain⟨c,e⟩:=p7 (i+1) r pre post x h;exact⟨c,by rw[e,length_cons];congr 4;omega⟩
structure xC (one two:Int) (ts:List T3):Prop where
 name:∀i (h:i<ts.length),(ts[i]).1=gq one two i
 ends:∀t∈ts,t.2.1<=t.2.2
theorem xC.nodup{one two:Int}(h:xC one two ts)(hl:ts.length<=14):(ts.map (·.1)).Nodup:=by
 unfold List.Nodup;rw[List.pairwise_iff_getElem];intro i j hi hj hij;rw[length_map] at hi hj;rw[getElem_map,getElem_map,h.name i hi,h.name j hj];intro e;have:=Dg one two i j (by omega) (by omega) e;omega
theorem OQ(a b:Int):∃x y,PySem.W.sortI [a,b]=[x,y]/\x<=y:=by
 have hl:(PySem.W.sortI [a,b]).length=2:=(sortI_perm _).length_eq;have hs:=PySem.W.sortI_rises [a,b]
 match h:PySem.W.sortI [a,b],hl,hs with
 | [x,y],_,hs=>exact⟨x,y,rfl,by simpa using hs⟩
theorem vC(h:eu xs=some ys):f6 .sorted [.rl xs]=.ok (true,.rl ys):=by
 show (pb (pl (eu xs)) (λys:List Val=>Pr.ok ((true,Val.rl ys):FV)):Pr FV)=_;rw[h];rfl
theorem Lc(ns ms:List Int)(hm:ms.length<=14):∃p q ts,lC [.rl (ns.map .int),.rl (ms.map .int)]=.ok (true,bh p q ts)/\aC p q ts/\ts.length=ms.length:=by
 have c0:dh [.rl (ns.map .int),.int 0]=.ok (true,.int (cellAt ns 0)):=nY ns 0;have c1:dh [.rl (ns.map .int),.int 1]=.ok (true,.int (cellAt ns 1)):=nY ns 1;have c2:dh [.rl (ns.map .int),.int 2]=.ok (true,.int (cellAt ns 2)):=nY ns 2;unfold lC jB;generalize cellAt ns 0=one at *;generalize cellAt ns 1=two at *;generalize cellAt ns 2=pick at *;have Vc:2<=2+pick%7/\2+pick%7<=8:=by omega
 simp only[EV,nJ,c0,c1,c2,jA (show decide ((0:Int)<7)=true by decide)];generalize Vd:2+pick%7=many at *;have hR:inR many=true:=by unfold inR;simp only[and_eq_true,decide_eq_true_eq];omega
 have hc:many.toNat<=100000:=by omega
 simp only[EV,OP hR,iT,length_map,length_range,hc];rw[kH (λi:Nat=>Val.int (0+(i:Int))) (λi:Nat=>.int (gq two one (0+(i:Int)))) (List.range many.toNat) (λi hi=>by
  simp only[EV,cM,gF,yN])]
 have hpl:∀i:Int,0<=i->i<many->jd ((List.range many.toNat).map λi:Nat=>Val.int (gq two one (0+(i:Int)))) i=some (.int (gq two one i)):=λi h0 h1=>by
  obtain⟨k,rfl⟩:=Int.eq_ofNat_of_zero_le h0;refine kT ?_;rw[getElem?_map,List.getElem?_range (by omega)];simp
 generalize Y8:((List.range many.toNat).map λi:Nat=>Val.int (gq two one (0+(i:Int))))=Pl at *;simp only[EV,N4]
 repeat rw[pM]
 have hx:cI 0 (ms.map Val.int)=(cI 0 (ms.map Val.int)).map id:=(map_id _).symm;rw[hx];have hmp:decide (0<many)=true:=by rw[decide_eq_true_eq];omega
 have YN:jh many=true:=by unfold jh;rw[decide_eq_true_eq];omega
 have z3:3<=sizeLine:=by decide
 have z2:2<=sizeLine:=by decide
 refine cT id (λr:Pr FV=>∃p q ts,r=.ok (true,bh p q ts)/\aC p q ts/\ts.length=ms.length)
  (λdone env=>∃(ts:List T3) (m6:Mk) (a b c d:Option (Mk×Val)),env=[some (.sh,.rl (ns.map .int)),some (.sh,.rl (ms.map .int)),some (.sh,.int one),some (.sh,.int two),some (.sh,.int pick),some (.sh,.int many),some (m6,.rl Pl),some (.ow,.rl (ts.map bG)),a,b,c,d,none]/\rE m6=true/\ts.length=done.length/\xC one two ts)
  ⟨[],_,none,none,none,none,rfl,by first|rfl|exact yC,rfl,⟨λi h=>by simp at h,λ_ h=>by simp at h⟩⟩ ?_ ?_
 ·rintro pre x post env hx ⟨ts,m6,a,b,c,d,rfl,h6,hl,ok⟩
  have YO:pre.length<14:=by have:=congrArg length hx;rw[jT,length_map,length_append,length_cons] at this;omega
  obtain⟨cell,rfl⟩:=p7 _ _ _ _ _ hx;rw[zero_add];have i1:=hpl (cell%many) (Int.emod_nonneg _ (by omega)) (Int.emod_lt_of_pos _ (by omega));have i2:=hpl (cell/many%many) (Int.emod_nonneg _ (by omega)) (Int.emod_lt_of_pos _ (by omega));generalize gq two one (cell%many)=n1 at *;generalize gq two one (cell/many%many)=n2 at *;have e3:=yN one two (pre.length:Int);have z:ts.length<sizeLine:=by rw[hl];unfold sizeLine;omega
  have tt:Val.tup [.int (gq one two (pre.length:Int)),.int (if n2<n1 then n2 else n1),.int (if n2>n1 then n2 else n1)]=bG (turnT (gq one two (pre.length:Int),n1,n2)):=rfl;refine⟨_,?_,ts++[turnT (gq one two (pre.length:Int),n1,n2)],m6,some (.sh,.int pre.length),some (.sh,.int cell),some (.sh,.int n1),some (.sh,.int n2),rfl,h6,by simp[hl],⟨λi hi=>?_,λt ht=>?_⟩⟩
  ·simp only[EV,id,K2,h6,jA hmp,iM YN,nk i1,nk i2,gF,e3,z3,tt,length_map,z,map_append]
  ·rw[List.getElem_append]
   split
   ·exact ok.name i (by assumption)
   ·simp only[length_append,length_cons,length_nil] at hi
    have:i=pre.length:=by omega
    subst this;simp[hl,turnT]
  ·rcases mem_append.mp ht with ht|ht
   ·exact ok.ends t ht
   ·rw[mem_singleton] at ht;subst ht;unfold turnT;dsimp only;split<;>split<;>omega
 ·rintro env ⟨ts,m6,a,b,c,d,rfl,h6,hl,ok⟩
  have OS:ts.length<=14:=by rw[hl,jT,length_map];exact hm
  have j0:=hpl 0 (by omega) (by omega);have j1:jd Pl (1-(if pick/7%8=3 then 1 else 0))=some (.int (gq two one (1-(if pick/7%8=3 then 1 else 0)))):=hpl _ (by split<;>omega) (by split<;>omega);obtain⟨x,y,es,hxy⟩:=OQ (gq two one 0) (gq two one (1-(if pick/7%8=3 then 1 else 0)));generalize gq two one (1-(if pick/7%8=3 then 1 else 0))=n1 at *;have YQ:f6 .sorted [.rl [.int (gq two one 0),.int n1]]=.ok (true,.rl [.int x,.int y]):=by refine vC ?_;show (if 2<64 then some ((PySem.W.sortI [gq two one 0,n1]).map Val.int) else none)=_;rw[if_pos (by decide),es];rfl
  have eI:∀b:Bool,f6 .int [.bl b]=.ok (true,.int (if b=true then 1 else 0)):=λ_=>rfl;have dI:(if decide (pick/7%8=3)=true then (1:Int) else 0)=if pick/7%8=3 then 1 else 0:=by
   by_cases c:pick/7%8=3<;>simp[c]
  refine⟨x,y,gg ts,?_,⟨hxy,?_,?_,?_,?_⟩,?_⟩
  ·simp only[EV,h6,nk j0,iM (show jh 7=true by decide),jA (show decide ((0:Int)<8)=true by decide),eI,dI,nk j1,z2,YQ,nk xh,nk pN,vc (show ts.length<64 by omega)];rfl
  ·rw[(eW ts).length_eq];exact OS
  ·exact vd ts (ok.nodup OS)
  ·exact λt ht=>ok.ends t ((eW ts).mem_iff.mp ht)
  ·intro t ht;obtain⟨i,hi,rfl⟩:=getElem_of_mem ((eW ts).mem_iff.mp ht);rw[ok.name i hi];exact Gg _ _ _
  ·rw[(eW ts).length_eq,hl,jT,length_map]
end K27
end
section
open PySem L2 Hv
namespace K27
noncomputable def qa(t:T3):Int×Int:=(t.2.1,t.2.2)
noncomputable def iW(p q:Int)(ts:List T3):List Int:=p::q::ts.flatMap λt=>[t.2.1,t.2.2]
noncomputable def qo(p q:Int)(ts:List T3):List Int:=gu (iW p q ts)
theorem mT(p q:Int)(ts:List T3):(iW p q ts).length=2+2*ts.length:=by
 unfold iW
 induction ts with
 | nil=>rfl
 | cons t r ih=>simp only[List.flatMap_cons,length_cons,length_append,length_nil] at *;omega
theorem vD:∀(ns ks:List Int),(dM ks ns).length<=ks.length+ns.length
 | [],ks=>le_refl _
 | k::r,ks=>by
  rw[dM,length_cons];have:=vD r (oU ks k);have:=oV ks k;omega
theorem Gh{p q:Int}(h:ts.length<=14):(qo p q ts).length<64:=by
 unfold qo gu;rw[(sortI_perm _).length_eq];have:=vD (iW p q ts) [];rw[mT] at this;simp only[length_nil] at this;omega
theorem nZ{p q x:Int}:x∈qo p q ts↔x=p\/x=q\/∃t∈ts,x=t.2.1\/x=t.2.2:=by
 unfold qo;rw[Cy];unfold iW;simp only[mem_cons,List.mem_flatMap,not_mem_nil,or_false]
theorem places_eq{p q:Int}(h:ts.length<=14):cg [bh p q ts]=.ok (true,.rl ((qo p q ts).map .int)):=by
 unfold cg dU bh;simp only[EV,fL xh,fL pN,gf];rw[pM];refine cT bG (λr:Pr FV=>r=.ok (true,.rl ((qo p q ts).map .int)))
  (λdone env=>∃a,env=[some (.sh,bh p q ts),some (.ow,.rl ((iW p q done).map .int)),a])
  ⟨none,rfl⟩ ?_ ?_
 ·rintro pre t post env hx ⟨a,rfl⟩
  refine⟨[some (.sh,bh p q ts),some (.ow,.rl ((iW p q (pre++[t])).map .int)),some (.sh,bG t)],?_,_,rfl⟩;have hpl:pre.length<14:=by have:=congrArg length hx;rw[length_append,length_cons] at this;omega
  have z:((iW p q pre).map Val.int).length+2<=sizeLine:=by rw[length_map,mT];unfold sizeLine;omega
  have ea:(iW p q (pre++[t])).map Val.int=(iW p q pre).map Val.int++[.int t.2.1,.int t.2.2]:=by unfold iW;simp
  simp only[EV,cM,K4,z,ea]
 ·rintro env ⟨a,rfl⟩
  have hl:(iW p q ts).length<64:=by rw[mT];omega
  simp only[EV,ints_map,hl];rfl
end K27
end
section
open PySem L2 Hv
namespace K27
noncomputable def gr(e:Int×Int):Val:=.tup [.int e.1,.int e.2]
theorem Gi{i j:Nat}:f7 (.tup [i,j]) (gr e) env=some ((env.set i (some (.sh,.int e.1))).set j (some (.sh,.int e.2))):=rfl
theorem Ar(ps:List Int)(hn:ps.Nodup)(hl:ps.length<64)(es:List (Int×Int))(he:∀e∈es,e.1∈ps/\e.2∈ps):∃f φ,dD [.rl (ps.map .int),.rl (es.map gr)]=.ok (f,tN ps λx=>.int (φ x))/\ki ps es φ:=by
 unfold dD dW;simp only[EV,gf];rw[pM];have hz:∀pre:List Int,pre.length<=ps.length->(pre.map (Sum.inl:Int->Key)).length<sizeLine:=λpre h=>by rw[length_map];unfold sizeLine;omega
 refine cT Val.int (λr:Pr FV=>∃f φ,r=.ok (f,tN ps λx=>.int (φ x))/\ki ps es φ)
  (λdone env=>∃a,env=[some (.sh,.rl (ps.map .int)),some (.sh,.rl (es.map gr)),some (.ow,tN done λx=>.int x),a,none,none,none,none])
  ⟨none,rfl⟩ ?_ ?_
 ·rintro pre x post env hx ⟨a,rfl⟩
  have Tu:x∉pre:=by rw[hx,nodup_append] at hn;exact λh=>hn.2.2 x h x (by simp) rfl
  refine⟨[some (.sh,.rl (ps.map .int)),some (.sh,.rl (es.map gr)),some (.ow,tN (pre++[x]) λx=>.int x),some (.sh,.int x),none,none,none,none],?_,_,rfl⟩;simp only[EV,cM,yE,hz pre (by rw[hx];simp),FN Tu];rw[jU (g':=λx=>Val.int x)];intro y _;unfold u7
  split
  ·rename_i e;rw[e]
  ·rfl
 ·rintro env ⟨a,rfl⟩
  simp only[EV,gf];rw[pM];refine cT gr (λr:Pr FV=>∃f φ,r=.ok (f,tN ps λx=>.int (φ x))/\ki ps es φ)
   (λdone env=>∃(φ:Int->Int) (a b c d e:Option (Mk×Val)),env=[some (.sh,.rl (ps.map .int)),some (.sh,.rl (es.map gr)),some (.ow,tN ps λx=>.int (φ x)),a,b,c,d,e]/\ki ps done φ)
   ⟨id,_,_,_,_,_,rfl,ki.start ps⟩ ?_ ?_
  ·rintro pre e post env hx ⟨φ,a,b,c,d,f,rfl,OT⟩
   obtain⟨h1,h2⟩:=he e (by rw[hx];simp);simp only[EV,Gi,pP h1,pP h2,gf];have hk:∃kept gone:Int,(if φ e.2 < φ e.1 then φ e.2 else φ e.1)=kept/\(if φ e.2 > φ e.1 then φ e.2 else φ e.1)=gone/\((kept = φ e.1/\gone = φ e.2)\/(kept = φ e.2/\gone = φ e.1)):=by
    refine⟨_,_,rfl,rfl,?_⟩
    split<;>split<;>omega
   obtain⟨kept,gone,ek,eg,hk⟩:=hk;rw[ek,eg];refine cT Val.int (λr:Pr Fj=>∃env',r=.ok (.nx env')/\∃(φ:Int->Int) (a b c d f:Option (Mk×Val)),env'=[some (.sh,.rl (ps.map .int)),some (.sh,.rl (es.map gr)),some (.ow,tN ps λx=>.int (φ x)),a,b,c,d,f]/\ki ps (pre++[e]) φ)
    (λdone env=>∃a,env=[some (.sh,.rl (ps.map .int)),some (.sh,.rl (es.map gr)),some (.ow,tN ps λx=>.int (if x∈done /\ φ x=gone then kept else φ x)),a,some (.sh,.int e.1),some (.sh,.int e.2),some (.sh,.int kept),some (.sh,.int gone)])
    ⟨a,by simp⟩ ?_ ?_
   ·rintro done x post env hy ⟨a,rfl⟩
    have Tu:x∉done:=by rw[hy,nodup_append] at hn;exact λh=>hn.2.2 x h x (by simp) rfl
    have hxs:x∈ps:=by rw[hy];simp
    refine⟨_,?_,some (.sh,.int x),rfl⟩;simp only[EV,cM,pP hxs,yE,hz ps (le_refl _),FL hxs,Tu,false_and,if_false]
    by_cases hg:φ x=gone
    ·simp only[hg,↓reduceIte]
     rw[jU];intro y _;unfold u7
     by_cases e:y=x
     ·subst e;simp[hg]
     ·simp[e]
    ·simp only[hg,↓reduceIte]
     rw[jU];intro y _
     by_cases e:y=x
     ·subst e;simp[hg]
     ·simp[e]
   ·rintro env ⟨a,rfl⟩;refine⟨_,rfl,(λx=>if φ x=gone then kept else φ x),a,some (.sh,.int e.1),some (.sh,.int e.2),some (.sh,.int kept),some (.sh,.int gone),?_,OT.step h1 h2 kept gone hk⟩;rw[jU];intro y hy;simp[hy]
  ·rintro env ⟨φ,a,b,c,d,e,rfl,OT⟩;simp only[EV,cA];exact⟨_,φ,rfl,OT⟩
end K27
end
section
open PySem L2 Hv
namespace K27
theorem order_eq{p q:Int}{us:List T3}(hl:us.length<=16):bL [.tup [.int p,.int q],.rl (us.map bG)]=.ok (true,bh (if q<p then q else p) (if q>p then q else p) (gg (us.map turnT))):=by
 unfold bL cB;have z0:0<=sizeLine:=by decide
 have z2:2<=sizeLine:=by decide
 have z3:3<=sizeLine:=by decide
 simp only[EV,gf];rw[pM];refine cT bG (λr:Pr FV=>r=.ok (true,bh (if q<p then q else p) (if q>p then q else p) (gg (us.map turnT))))
  (λdone env=>∃a b c,env=[some (.sh,.tup [.int p,.int q]),some (.sh,.rl (us.map bG)),some (.ow,.rl ((done.map turnT).map bG)),a,b,c])
  ⟨none,none,none,rfl⟩ ?_ ?_
 ·rintro pre t post env hx ⟨a,b,c,rfl⟩
  have hpl:pre.length<16:=by have:=congrArg length hx;rw[length_append,length_cons] at this;omega
  have z:((pre.map turnT).map bG).length<sizeLine:=by rw[length_map,length_map];unfold sizeLine;omega
  refine⟨[some (.sh,.tup [.int p,.int q]),some (.sh,.rl (us.map bG)),some (.ow,.rl (((pre++[t]).map turnT).map bG)),some (.sh,.int t.1),some (.sh,.int t.2.1),some (.sh,.int t.2.2)],?_,_,_,_,rfl⟩;have ea:((pre++[t]).map turnT).map bG=(pre.map turnT).map bG++[bG (turnT t)]:=by simp
  simp only[EV,nV,z3,z,ea];rfl
 ·rintro env ⟨a,b,c,rfl⟩;simp only[EV,fL xh,fL pN,z2,vc (show (us.map turnT).length<64 by rw[length_map];omega)];rfl
theorem As{p q:Int}(hl:us.length<=16):cU [bh p q us]=.ok (true,bh (if q<p then q else p) (if q>p then q else p) (gg (us.map turnT))):=by
 have e:=order_eq (p:=p) (q:=q) hl;unfold cU gi;unfold bh at e |-;simp only[EV,iB,fL xh,fL pN,e]
end K27
end
section
open PySem L2 Hv
namespace K27
noncomputable def nameV(t:T3):Val:=.int t.1
theorem yO(h:t.2.1<=t.2.2):turnT t=t:=by
 obtain⟨a,b,c⟩:=t;unfold turnT;dsimp only at h |-;rw[Prod.mk.injEq,Prod.mk.injEq];refine⟨rfl,?_,?_⟩<;>split<;>omega
theorem Gj:∀{l:List T3},(∀y∈l,x.1<y.1)->pR x l=x::l
 | [],_=>rfl
 | y::r,h=>by
  rw[pR];have lx:HT.lexLt (l3 y) (l3 x)=decide (y.1<x.1):=by show HT.lexLt (y.1::_) (x.1::_)=_;have:=h y mem_cons_self;rw[HT.eE,if_neg (by omega)]
  have:=h y mem_cons_self;rw[lx,if_neg (by simp;omega)]
theorem lG:∀{l:List T3},xu l->gg l=l
 | [],_=>rfl
 | x::r,h=>by
  unfold xu at h;rw[pairwise_cons] at h;rw[gg,lG h.2,Gj h.1]
theorem Ld{p q:Int}(ok:aC p q ts):cU [bh p q ts]=.ok (true,bh p q ts):=by
 have e:=As (p:=p) (q:=q) (us:=ts) (le_trans ok.len (by decide));have em:ts.map turnT=ts:=by rw[map_congr_left λt ht=>yO (ok.ends t ht)];exact map_id _
 have ep:(if q<p then q else p)=p:=by have:=ok.ord;split<;>omega
 have eq:(if q>p then q else p)=q:=by have:=ok.ord;split<;>omega
 rw[em,lG ok.up,ep,eq] at e;exact e
theorem Dh:∀ts:List T3,cj DL (ts.map bG)=some ts
 | []=>rfl
 | t::r=>by rw[map_cons,cj,show DL (bG t)=some t from rfl,bind_some,Dh r];rfl
noncomputable def nD(c:Nat)(p q:Int)(ts:List T3):Val:=.ob c ["net","places","ends"] [bh p q ts,.rl ((qo p q ts).map .int),.dc ((bK p q ts).map (·.1)) ((bK p q ts).map (·.2))]
noncomputable def iX(c:Nat)(p q:Int)(ts:List T3)(w:Int):Val:=.ob c ["net","places","ends","whole"] [bh p q ts,.rl ((qo p q ts).map .int),.dc ((bK p q ts).map (·.1)) ((bK p q ts).map (·.2)),.int w]
theorem vF{c jo jp:Nat}{p q:Int}(h1:Ψ jo=cU)(h2:Ψ jp=cg)(ok:aC p q ts):kj Ψ c jo jp [bh p q ts]=.ok (true,nD c p q ts):=by
 have e1:=Ld ok;have e2:=places_eq (p:=p) (q:=q) ok.len;unfold kj;dsimp only;rw[h1,e1];unfold bh at e2 |-;dsimp only;rw[Dh,gD,cA,h2];unfold pg;rw[if_pos (decide_eq_true (by have:=ok.len;omega)),e2];rfl
noncomputable def nms(ts:List T3):List Int:=-1::ts.map (·.1)
theorem tH(h:a.length+b.length<=sizeLine):j3 .add (.rl a) (.rl b)=.ok (bI (a++b),.rl (a++b)):=by
 show pg _ _=_;unfold pg;rw[if_pos (decide_eq_true h)]
theorem vG{c:Nat}{p q:Int}{ts:List T3}{m:Str}{js:List (Nat×Nat)}{j:Nat}(hj:js.lookup c=some j)(h:m ≠ "net" /\ m ≠ "places" /\ m ≠ "ends" /\ m ≠ "whole"):jY [] (nD c p q ts) m js=some j:=by
 unfold nD jY;dsimp only;have e:∀vs:List Val,vs.length=3->((["net","places","ends"]:List Str).zip vs).lookup m=none:=λvs hv=>by
  match vs,hv with
  | [a,b,c],_ =>rw[zip_cons_cons,lookup_cons,beq_false_of_ne h.1,zip_cons_cons,lookup_cons,beq_false_of_ne h.2.1,zip_cons_cons,lookup_cons,beq_false_of_ne h.2.2.1];rfl
 rw[e _ rfl];exact hj
theorem qb{c:Nat}{p q w:Int}{ts:List T3}{m:Str}{js:List (Nat×Nat)}{j:Nat}(hj:js.lookup c=some j)(h:m ≠ "net" /\ m ≠ "places" /\ m ≠ "ends" /\ m ≠ "whole"):jY [] (iX c p q ts w) m js=some j:=by
 unfold iX jY;dsimp only;have e:∀vs:List Val,vs.length=4->((["net","places","ends","whole"]:List Str).zip vs).lookup m=none:=λvs hv=>by
  match vs,hv with
  | [a,b,c,d],_ =>rw[zip_cons_cons,lookup_cons,beq_false_of_ne h.1,zip_cons_cons,lookup_cons,beq_false_of_ne h.2.1,zip_cons_cons,lookup_cons,beq_false_of_ne h.2.2.1,zip_cons_cons,lookup_cons,beq_false_of_ne h.2.2.2];rfl
 rw[e _ rfl];exact hj
theorem Au{c:Nat}(hc:c<2){p q w:Int}:gJ 2 [] (iX c p q ts w) "whole" = some (.int w):=by
 unfold iX gJ;dsimp only;rw[if_pos hc];rfl
theorem qc(l:List Int):bI (l.map Val.int)=true:=bE l
theorem Di{p q:Int}(ok:aC p q ts):PySem.W.sortI (nms ts)=nms ts:=by
 refine(eq_sortI (List.Perm.refl _) ?_).symm;unfold nms;rw[pairwise_cons];refine⟨λx hx=>?_,?_⟩
 ·obtain⟨t,ht,rfl⟩:=mem_map.mp hx;have:=ok.names t ht;omega
 ·rw[pairwise_map];have:=ok.up;unfold xu at this;exact this.imp λh=>by omega
theorem rS{p q:Int}(ok:aC p q ts):(nms ts).Nodup:=by
 unfold nms;rw[nodup_cons];refine⟨λh=>?_,?_⟩
 ·obtain⟨t,ht,e⟩:=mem_map.mp h;have:=ok.names t ht;omega
 ·have:=ok.up;unfold xu at this;rw[List.Nodup,pairwise_map];exact this.imp λh=>by omega
theorem Y9(t:Int):f6 (.isin "int") [.int t]=.ok (true,.bl true):=Ad (t:="int") rfl (by decide)
theorem YR(t:Int):f6 (.isin "bool") [.int t]=.ok (true,.bl false):=xj (t:="int") rfl (by decide)
theorem PF(l:List Int):cop [] .ne (.rl (l.map .int)) (.rl (l.map .int))=some false:=by
 refine ne_self (Cw Val.int PyData.int l λ_ _=>rfl) ?_;rw[PyData.canLay0];exact pO _ _ λt _=>by rw[PyData.canLay0]
noncomputable def qd:List Int->Int->List Int
 | [],_=>[]
 | x::r,c=>if c%2=1 then x::qd r (c/2) else qd r (c/2)
theorem qf:∀(ns:List Int) (c:Int),(qd ns c).Sublist ns
 | [],_=>.slnil
 | x::r,c=>by
  rw[qd]
  split
  ·exact(qf r _).cons_cons x
  ·exact(qf r _).cons x
theorem Le(ns:List Int)(c:Int)(h:ns.length<64):lE [.rl (ns.map .int),.int c]=.ok (true,.rl ((qd ns c).map .int)):=by
 unfold lE jD;simp only[EV,gf,show 0<=sizeLine by decide]
 repeat rw[pM]
 refine cT Val.int (λr:Pr FV=>r=.ok (true,.rl ((qd ns c).map .int)))
  (λdone env=>∃(l:List Int) (c':Int) (a:Option (Mk×Val)),env=[some (.sh,.rl (ns.map .int)),some (.sh,.int c'),some (.ow,.rl (l.map .int)),a]/\qd ns c=l++qd (ns.drop done.length) c'/\l.length<=done.length)
  ⟨[],c,none,rfl,rfl,le_refl _⟩ ?_ ?_
 ·rintro pre x post env hx ⟨l,c',a,rfl,hl,hle⟩
  have hd:ns.drop pre.length=x::post:=by rw[hx];simp
  have hd2:ns.drop (pre++[x]).length=post:=by rw[hx];simp
  have hpl:pre.length<64:=by have:=congrArg length hx;rw[length_append,length_cons] at this;omega
  have z:(l.map Val.int).length<sizeLine:=by rw[length_map];unfold sizeLine;omega
  rw[hd,qd] at hl;simp only[EV,cM,jA (show decide ((0:Int)<2)=true by decide),iM (show jh 2=true by decide)]
  by_cases e:c'%2=1
  ·rw[if_pos e] at hl;refine⟨_,?_,l++[x],c'/2,some (.sh,.int x),rfl,by rw[hd2,hl];simp,by simp;omega⟩;simp only[EV,e,decide_true,z,map_append,iM (show jh 2=true by decide)]
  ·rw[if_neg e] at hl;refine⟨_,?_,l,c'/2,some (.sh,.int x),rfl,by rw[hd2,hl],by simp;omega⟩;simp only[EV,e,decide_false,iM (show jh 2=true by decide)]
 ·rintro env ⟨l,c',a,rfl,hl,hle⟩;rw[List.drop_length,qd,append_nil] at hl;simp only[EV,hl,qc]
noncomputable def fE(p q:Int)(ts:List T3)(x:Int):Int×Int:=match ts.find? (λt=>decide (t.1=x)) with
 | some t=>(t.2.1,t.2.2)
 | none=>(p,q)
theorem Dj:∀{ts:List T3},(ts.map (·.1)).Nodup->t∈ts->ts.find? (λu=>decide (u.1=t.1))=some t
 | u::r,hn,ht=>by
  rw[map_cons,nodup_cons] at hn;rw[find?_cons]
  by_cases e:u.1=t.1
  ·rw[decide_eq_true e]
   rcases mem_cons.mp ht with rfl|ht
   ·rfl
   ·exact absurd (e▸mem_map_of_mem (f:=(·.1)) ht) hn.1
  ·rw[decide_eq_false e]
   rcases mem_cons.mp ht with rfl|ht
   ·exact absurd rfl e
   ·exact Dj hn.2 ht
theorem lH{p q:Int}(ok:aC p q ts):(ts.map (·.1)).Nodup:=(nodup_cons.mp (rS ok)).2
theorem kM{p q:Int}(ok:aC p q ts)(ht:t∈ts):fE p q ts t.1=(t.2.1,t.2.2):=by
 unfold fE;rw[Dj (lH ok) ht]
theorem mU{p q:Int}(ok:aC p q ts):fE p q ts (-1)=(p,q):=by
 unfold fE;rw[List.find?_eq_none.mpr λt ht=>by have:=ok.names t ht;simp;omega]
theorem tK{p q:Int}(ok:aC p q ts){x:Int}(hx:x∈nms ts):(fE p q ts x).1∈qo p q ts/\(fE p q ts x).2∈qo p q ts:=by
 unfold nms at hx
 rcases mem_cons.mp hx with rfl|hx
 ·rw[mU ok];exact⟨nZ.mpr (.inl rfl),nZ.mpr (.inr (.inl rfl))⟩
 ·obtain⟨t,ht,rfl⟩:=mem_map.mp hx;rw[kM ok ht];exact⟨nZ.mpr (.inr (.inr ⟨t,ht,.inl rfl⟩)),nZ.mpr (.inr (.inr ⟨t,ht,.inr rfl⟩))⟩
theorem yP(g:Int->Val):∀(us:List T3) (ks:List Int),(∀u∈us,u.1∉ks)->(us.map (·.1)).Nodup->(∀u∈us,g u.1=.tup [.int u.2.1,.int u.2.2]) ->
  us.foldl iy (ks.map λx=>((Sum.inl x:Key),g x))=(ks++us.map (·.1)).map λx=>((Sum.inl x:Key),g x)
 | [],ks,_,_,_=>by simp
 | u::r,ks,h1,h2,h3=>by
  rw[map_cons,nodup_cons] at h2;have e:iy (ks.map λx=>((Sum.inl x:Key),g x)) u=(ks++[u.1]).map λx=>((Sum.inl x:Key),g x):=by unfold iy fY;rw[xr,if_neg (by simpa using h1 u mem_cons_self),map_append,map_cons,map_nil,h3 u mem_cons_self]
  rw[List.foldl_cons,e,yP g r (ks++[u.1]) (λv hv z=>?_) h2.2 λv hv=>h3 v (mem_cons_of_mem _ hv)]
  ·simp
  ·rcases mem_append.mp z with z|z
   ·exact h1 v (mem_cons_of_mem _ hv) z
   ·rw[mem_singleton] at z;exact h2.1 (z▸mem_map_of_mem (f:=(·.1)) hv)
noncomputable def mV(p q:Int)(ts:List T3)(x:Int):Val:=gr (fE p q ts x)
noncomputable def Lf(p q:Int)(ts:List T3):Val:=tN (nms ts) (mV p q ts)
theorem yQ{p q:Int}(ok:aC p q ts):Val.dc ((bK p q ts).map (·.1)) ((bK p q ts).map (·.2))=Lf p q ts:=by
 have e:bK p q ts=(nms ts).map λx=>((Sum.inl x:Key),mV p q ts x):=by
  have h:=yP (mV p q ts) ts [-1] (λu hu z=>by
   rw[mem_singleton] at z;have:=ok.names u hu;omega) (lH ok) λu hu=>by unfold mV;rw[kM ok hu];rfl
  unfold bK nms;rw[map_cons,map_nil] at h;have e1:mV p q ts (-1)=.tup [.int p,.int q]:=by unfold mV;rw[mU ok];rfl
  rw[e1] at h;exact h
 rw[e,map_map,map_map];rfl
structure Gk (o:Val) (p q:Int) (ts:List T3):Prop where
 net:gJ 2 [] o "net" = some (bh p q ts)
 places:gJ 2 [] o "places" = some (.rl ((qo p q ts).map .int))
 ends:gJ 2 [] o "ends" = some (Lf p q ts)
theorem tL{c:Nat}(hc:c<2){p q:Int}(ok:aC p q ts):Gk (nD c p q ts) p q ts:=by
 refine⟨?_,?_,?_⟩
 ·unfold nD gJ;dsimp only;rw[if_pos hc];rfl
 ·unfold nD gJ;dsimp only;rw[if_pos hc];rfl
 ·rw[<-yQ ok];unfold nD gJ;dsimp only;rw[if_pos hc];rfl
theorem yR{c:Nat}(hc:c<2){p q w:Int}(ok:aC p q ts):Gk (iX c p q ts w) p q ts:=by
 refine⟨?_,?_,?_⟩
 ·unfold iX gJ;dsimp only;rw[if_pos hc];rfl
 ·unfold iX gJ;dsimp only;rw[if_pos hc];rfl
 ·rw[<-yQ ok];unfold iX gJ;dsimp only;rw[if_pos hc];rfl
theorem Dk{p q:Int}(h:ts.length<=14):gn [bh p q ts]=.ok (true,.rl (ts.map nameV)):=by
 unfold gn fB bh;have hc:ts.length<=100000:=by omega
 simp only[EV,fL pN,gf,iT,length_map,hc];rw[kH bG nameV ts (λt ht=>by
  have i0:ja [] (bG t) (.int 0)=some (.int t.1):=rfl;simp only[EV,cM,i0,nameV])]
 simp only[EV,cA]
theorem yS{p q:Int}(ro:Gk o p q ts)(h:ts.length<=14):cO [o]=.ok (true,.rl ((nms ts).map .int)):=by
 have e1:=Dk (p:=p) (q:=q) h;unfold cO dX;have z1:1<=sizeLine:=by decide
 have z:([.int (-1)]:List Val).length+(ts.map nameV).length<=sizeLine:=by rw[length_map];simp;unfold sizeLine;omega
 simp only[EV,ro.net,jb,e1,z1,tH z];have em:[Val.int (-1)]++ts.map nameV=(nms ts).map .int:=by unfold nms;rw[map_cons,map_map];rfl
 have en:bI (ts.map nameV)=true:=by rw[show ts.map nameV=(ts.map (·.1)).map Val.int by rw[map_map];rfl];exact qc _
 rw[show Val.int (-1)::ts.map nameV=(nms ts).map .int from em,en]
theorem OU(e:Int×Int):iE (gr e)=true:=rfl
theorem Dl(p q:Int)(ts:List T3)(x:Int):iE (mV p q ts x)=true:=rfl
theorem Tv{p q:Int}{x:Int}:ja [] (mV p q ts x) (.int 0)=some (.int (fE p q ts x).1):=rfl
theorem Tw{p q:Int}{x:Int}:ja [] (mV p q ts x) (.int 1)=some (.int (fE p q ts x).2):=rfl
theorem Gm{p q:Int}{x:Int}(h:x∈nms ts):ja [] (Lf p q ts) (.int x)=some (mV p q ts x):=pP h
theorem Lg(p q:Int)(ts:List T3):∀l:List Int,bI (l.map (mV p q ts))=true
 | []=>rfl
 | x::r=>by rw[map_cons,bI,Lg p q ts r];rfl
theorem lI{p q:Int}(ok:aC p q ts):(nms ts).length<=15:=by
 have:=ok.len;unfold nms;simp;omega
noncomputable def cQ(p q:Int)(ts:List T3)(P:List Int):Nat:=tr (qo p q ts) (P.map (fE p q ts))
theorem Dm{p q:Int}(ok:aC p q ts){P:List Int}(hP:∀x∈P,x∈nms ts):LO (qo p q ts) (P.map (fE p q ts)):=λe he=>by
 obtain⟨x,hx,rfl⟩:=mem_map.mp he;exact tK ok (hP x hx)
theorem qg{p q:Int}(ok:aC p q ts)(ro:Gk o p q ts){P:List Int}(hP:∀x∈P,x∈nms ts)(hl:P.length<=15):aP [o,.rl (P.map .int)]=.ok (true,.int (cQ p q ts P)):=by
 have hpl:=Gh (p:=p) (q:=q) ok.len;have Ve:(qo p q ts).Nodup:=iN _;obtain⟨f,φ,ef,OT⟩:=Ar (qo p q ts) Ve hpl (P.map (fE p q ts)) (λe he=>by
  obtain⟨x,hx,rfl⟩:=mem_map.mp he;exact tK ok (hP x hx))
 have et:cQ p q ts P=rk φ (qo p q ts):=nq OT Ve;rw[et];rw[map_map] at ef;unfold aP bR;have hc:P.length<=100000:=by omega
 have hc2:(qo p q ts).length<=100000:=by omega
 simp only[EV,ro.places,ro.ends,gf,iT,length_map,hc];rw[kH Val.int (mV p q ts) P (λx hx=>by
  simp only[EV,cM,ro.ends,Gm (hP x hx),Dl])]
 have YS:dD [.rl ((qo p q ts).map .int),.rl (P.map (mV p q ts))]=.ok (f,tN (qo p q ts) λx=>.int (φ x)):=ef;simp only[EV,fQ,YS,ro.places,gf,iT,length_map,hc2];rw[gh Val.int Val.int (λx=>!decide (φ x=x)) (qo p q ts) (λx hx=>by
  have hi:=pP (g:=λx=>Val.int (φ x)) hx;simp only[EV,cM,hi]
  by_cases c:φ x=x
  ·simp[c]
  ·simp[c])]
 simp only[EV,length_map];rfl
theorem Gn:∀us:List T3,bI (us.map bG)=true
 | []=>rfl
 | u::r=>by rw[map_cons,bI,Gn r];rfl
theorem Dp{c jo jp jt jr:Nat}(hc:c<2){p q:Int}(h1:Ψ' jo=cU)(h2:Ψ' jp=cg)(h3:Ψ jt=cO)(h4:Ψ jr=aP)(ok:aC p q ts) :
  rL Ψ' Ψ c jo jp jt jr [bh p q ts]=.ok (true,iX c p q ts (cQ p q ts (nms ts))):=by
 have e3:=yS (tL hc ok) ok.len;have e1:=qg ok (tL hc ok) (P:=nms ts) (λ_ h=>h) (lI ok);rw[<-h3] at e3;rw[<-h4] at e1;exact CD (vF h1 h2 ok) e3 e1
noncomputable def others(ts:List T3)(P:List Int):List Int:=(nms ts).filter λx=>!decide (x∈P)
theorem mW{P:List Int}:∀x∈others ts P,x∈nms ts:=λx hx=>(mem_filter.mp hx).1
theorem Gp{p q:Int}(ok:aC p q ts){P:List Int}:(others ts P).length<=15:=le_trans (List.length_filter_le _ _) (lI ok)
theorem Dq{c:Nat}(hc:c<2)(jt:([(0,10),(1,10)]:List (Nat×Nat)).lookup c=some 10)(jr:([(0,8),(1,8)]:List (Nat×Nat)).lookup c=some 8){p q w:Int}(ok:aC p q ts){P:List Int}:cF [iX c p q ts w,.rl (P.map .int)]=.ok (true,.int ((P.length:Int)-w+cQ p q ts (others ts P))):=by
 have e1:=qg ok (yR (w:=w) hc ok) (P:=others ts P) mW (Gp ok);have e3:=yS (yR (w:=w) hc ok) ok.len;have hl:(nms ts).length<=100000:=by have:=lI ok;omega
 have m1:=qb (p:=p) (q:=q) (w:=w) (ts:=ts) (m:="ties") jt (by decide);have m2:=qb (p:=p) (q:=q) (w:=w) (ts:=ts) (m:="tree_rank") jr (by decide);unfold cF cN;simp only[EV,m1,gT,e3,gf,iT,length_map,hl];rw[gh Val.int Val.int (λx=>!decide (x∈P)) (nms ts) (λx hx=>by
  simp only[EV,cM,K3]
  by_cases c:x∈P
  ·simp[c]
  ·simp[c])]
 have T8:aP [iX c p q ts w,.rl (((nms ts).filter λx=>!decide (x∈P)).map .int)]=.ok (true,.int (cQ p q ts (others ts P))):=e1;simp only[EV,m2,fD,T8,Au hc,length_map]
theorem rT:∀ks:List Int,aS (ks.map Val.int)=some ks
 | []=>rfl
 | k::r=>by
  have:=rT r;unfold aS at this |-;rw[map_cons,cj,this];rfl
theorem PJ{ks ms:List Int}(h:ks.length<=100000):GP [] (ks.map Sum.inl) (.rl (ms.map .int))=some (ks.filter λx=>!decide (x∈ms)):=by
 unfold GP;rw[vj,bind_some,show aB [] (.rl (ms.map .int))=some (ms.map .int) from rfl,bind_some,rT,bind_some,if_pos h]
 congr 1
 refine filter_congr λx _=>?_
 congr 1
 rw[Bool.eq_iff_iff,List.any_eq_true,decide_eq_true_eq];constructor
 ·rintro⟨m,hm,e⟩;rw[<-eq_of_beq e];exact hm
 ·exact λhm=>⟨x,hm,beq_self_eq_true _⟩
end K27
end
section
open PySem L2 Hv
namespace K27
theorem vH{α:Type}(enc:α -> Val)(Q:bz->Prop)(x:α)(res:FV):∀(us:List α) (env:bz),Q env->x∈us ->
  (∀u∈us,∀env,Q env->(body (enc u) env=.ok (.rt res))\/(u≠x/\∃env',body (enc u) env=.ok (.nx env')/\Q env'))->mJ body (us.map enc) env=.ok (.rt res)
 | u::us,env,q,hx,h=>by
  rw[map_cons,mJ]
  rcases h u (mem_cons_self ..) env q with e|⟨ne,env',e,q'⟩
  ·rw[e,cA]
  ·rw[e,cA]
   rcases mem_cons.mp hx with hx|hx
   ·exact(ne hx.symm).elim
   ·exact vH enc Q x res us env' q' hx λv hv=>h v (mem_cons_of_mem _ hv)
theorem yT{p q:Int}(hn:(ts.map (·.1)).Nodup)(ht:t∈ts):fU [bh p q ts,.int t.1]=.ok (true,gr (qa t)):=by
 unfold fU gj bh;simp only[EV,fL xh,fL pN,gf];rw[vH bG (λenv=>∃a b c,env=[some (.sh,.tup [.tup [.int p,.int q],.rl (ts.map bG)]),some (.sh,.int t.1),a,b,c]) t (true,gr (qa t)) ts _ ⟨none,none,none,rfl⟩ ht]
 ·rfl
 ·rintro u hu env ⟨a,b,c,rfl⟩
  by_cases e:u.1=t.1
  ·left
   have:=yf hn u hu t ht e;subst this;simp only[EV,nV,decide_true,↓reduceIte];rfl
  ·right
   refine⟨λz=>e (by rw[z]),[some (.sh,.tup [.tup [.int p,.int q],.rl (ts.map bG)]),some (.sh,.int t.1),some (.sh,.int u.1),some (.sh,.int u.2.1),some (.sh,.int u.2.2)],?_,_,_,_,rfl⟩;simp only[EV,nV];simp[e]
noncomputable def dZ(ts:List T3)(t:T3):List T3:=ts.filter λu=>!decide (u.1=t.1)
noncomputable def HM(e:Int×Int)(a b:Int):Prop:=e=(a,b)\/e=(b,a)
theorem HM.way{a b:Int}(s:HM e a b)(h:e∈es):Way es a b:=by
 rcases s with rfl|rfl
 ·exact .fwd (.refl _) h
 ·exact .bwd (.refl _) h
noncomputable def Gq(D:List (Int×Int))(f:Int->Int):Prop:=∀x y,f x=f y↔Way D x y
theorem Dr(g:Gq D f)(h1:∀e∈es,∃e'∈es',HM e' (f e.1) (f e.2))(h2:∀e'∈es',∃e∈es,HM e' (f e.1) (f e.2))(x y:Int):Way es' (f x) (f y)↔Way (es++D) x y:=by
 have up:∀{x y},f x=f y->Way (es++D) x y:=λe=>((g _ _).mp e).mono λe he=>mem_append_right _ he;constructor
 ·have aux:∀u v,Way es' u v->∀x,u=f x->∃y,v=f y/\Way (es++D) x y:=by
   intro u v w
   induction w with
   | refl=>exact λx e=>⟨x,e,.refl _⟩
   | fwd _ m ih =>
    intro x e;obtain⟨y,e1,w1⟩:=ih x e;obtain⟨⟨a,b⟩,he,s⟩:=h2 _ m;have m':(a,b)∈es++D:=mem_append_left _ he
    rcases s with s|s<;>(injection s with s1 s2;dsimp only at s1 s2)
    ·exact⟨b,s2,(w1.trans (up (e1.symm.trans s1))).fwd m'⟩
    ·exact⟨a,s2,(w1.trans (up (e1.symm.trans s1))).bwd m'⟩
   | bwd _ m ih =>
    intro x e;obtain⟨y,e1,w1⟩:=ih x e;obtain⟨⟨a,b⟩,he,s⟩:=h2 _ m;have m':(a,b)∈es++D:=mem_append_left _ he
    rcases s with s|s<;>(injection s with s1 s2;dsimp only at s1 s2)
    ·exact⟨a,s1,(w1.trans (up (e1.symm.trans s2))).bwd m'⟩
    ·exact⟨b,s1,(w1.trans (up (e1.symm.trans s2))).fwd m'⟩
  intro w;obtain⟨z,e,w⟩:=aux _ _ w x rfl;exact w.trans (up e.symm)
 ·intro w
  have st:∀a b,(a,b)∈es++D->Way es' (f a) (f b):=λa b m=>by
   rcases mem_append.mp m with m|m
   ·obtain⟨e',he',s⟩:=h1 _ m;exact s.way he'
   ·rw[(g a b).mpr (.fwd (.refl _) m)];exact .refl _
  induction w with
  | refl=>exact .refl _
  | fwd _ m ih=>exact ih.trans (st _ _ m)
  | bwd _ m ih=>exact ih.trans (st _ _ m).symm
noncomputable def iY(a b x:Int):Int:=if x=b then a else x
theorem Gq.one(a b:Int):Gq [(a,b)] (iY a b):=λx y=>by
 have ab:Way [(a,b)] a b:=.fwd (.refl _) (by simp);constructor
 ·unfold iY
  intro e;split at e<;>split at e
  ·rename_i h1 h2;rw[h1,h2];exact .refl _
  ·rename_i h1 h2;rw[h1,<-e];exact ab.symm
  ·rename_i h1 h2;rw[h2,e];exact ab
  ·rw[e];exact .refl _
 ·exact λw=>w.const (iY a b) λe he=>by
   rw[mem_singleton] at he;subst he;unfold iY;simp
theorem iC:u∈dZ ts t↔u∈ts/\u.1≠t.1:=by
 unfold dZ;rw[mem_filter];simp
theorem lJ{n:Nat}(h:ts.length<=n):(dZ ts t).length<=n:=le_trans (List.length_filter_le ..) h
theorem yU(t:T3):HM (qa (turnT t)) t.2.1 t.2.2:=by
 unfold HM qa turnT;dsimp only;rw[Prod.mk.injEq,Prod.mk.injEq]
 split<;>split<;>omega
noncomputable def yV(g:Int->Int)(t:T3):T3:=(t.1,g t.2.1,g t.2.2)
theorem Ds:iE (bG t)=true:=rfl
theorem qh{p q:Int}(h:ts.length<=14)(hn:(ts.map (·.1)).Nodup)(ht:t∈ts):fV [bh p q ts,.int t.1]=.ok (true,.rl ((dZ ts t).map bG)):=by
 have e1:=yT (p:=p) (q:=q) hn ht;unfold fV gk;have hc:ts.length<=100000:=by omega
 unfold bh at *;simp only[EV,kL,e1,fL pN,gf,iT,length_map,hc];rw[gh bG bG (λu=>!decide (u.1=t.1)) ts (λu hu=>by
  have i0:ja [] (bG u) (.int 0)=some (.int u.1):=rfl;simp only[EV,cM,i0,Ds]
  by_cases c:u.1=t.1<;>simp[c])]
 rfl
theorem Dt{p q:Int}(h:ts.length<=14)(hn:(ts.map (·.1)).Nodup)(ht:t∈ts):dH [bh p q ts,.int t.1]=.ok (true,bh (if q<p then q else p) (if q>p then q else p) (gg ((dZ ts t).map turnT))):=by
 have e1:=qh (p:=p) (q:=q) h hn ht;have e2:=order_eq (p:=p) (q:=q) (us:=dZ ts t) (le_trans (lJ h) (by decide));unfold dH dY;unfold bh at e1 |-;simp only[EV,jI,gx,e1,fL xh,e2];rfl
theorem OV{a b x:Int}:zR [] (.dc [Sum.inl b] [.int a]) (.inl x)=some (if x=b then some (.int a) else none):=by
 show some (bN [((Sum.inl b:Key),Val.int a)] (.inl x))=_;unfold bN
 by_cases c:x=b
 ·subst c;simp
 ·have c':¬ b=x:=λz=>c z.symm;simp[c,c']
theorem HN{a b x:Int}:(if x=b then some (Val.int a) else none).getD (.int x)=.int (iY a b x):=by
 unfold iY;split<;>rfl
theorem HP:BB [] (.dc ks vs)=some ():=rfl
theorem Lh:ja [] (gr e) (.int 0)=some (.int e.1):=rfl
theorem Li:ja [] (gr e) (.int 1)=some (.int e.2):=rfl
theorem Du{p q:Int}(h:ts.length<=14)(hn:(ts.map (·.1)).Nodup)(ht:t∈ts):jW [bh p q ts,.int t.1]=.ok (true,bh (turnT (0,iY t.2.1 t.2.2 p,iY t.2.1 t.2.2 q)).2.1 (turnT (0,iY t.2.1 t.2.2 p,iY t.2.1 t.2.2 q)).2.2 (gg (((dZ ts t).map (yV (iY t.2.1 t.2.2))).map turnT))):=by
 have e1:=qh (p:=p) (q:=q) h hn ht;have e0:=yT (p:=p) (q:=q) hn ht;have e2:=order_eq (p:=iY t.2.1 t.2.2 p) (q:=iY t.2.1 t.2.2 q) (us:=(dZ ts t).map (yV (iY t.2.1 t.2.2))) (by rw[length_map];exact le_trans (lJ h) (by decide));have z2:2<=sizeLine:=by decide
 have z3:3<=sizeLine:=by decide
 have z0:0<=sizeLine:=by decide
 unfold jW jC;unfold bh at e1 e0 |-;have ee:∀t:T3,(qa t).1=t.2.1/\(qa t).2=t.2.2:=λ_=>⟨rfl,rfl⟩;simp only[EV,mO,mP,e0,e1,Lh,Li,ee,fL xh,fL pN,yE,HP,OV,HN,gf,z0,z2]
 repeat rw[pM]
 refine cT bG (λr:Pr FV=>r=.ok (true,.tup [.tup [.int (turnT (0,iY t.2.1 t.2.2 p,iY t.2.1 t.2.2 q)).2.1,.int (turnT (0,iY t.2.1 t.2.2 p,iY t.2.1 t.2.2 q)).2.2],.rl ((gg (((dZ ts t).map (yV (iY t.2.1 t.2.2))).map turnT)).map bG)]))
  (λdone env=>∃m1 m2 a b c,env=[some (.sh,.tup [.tup [.int p,.int q],.rl (ts.map bG)]),some (.sh,.int t.1),some (m1,gr (qa t)),some (.nw,.dc [Sum.inl t.2.2] [.int t.2.1]),some (m2,.tup [.int (iY t.2.1 t.2.2 p),.int (iY t.2.1 t.2.2 q)]),some (.ow,.rl ((done.map (yV (iY t.2.1 t.2.2))).map bG)),a,b,c])
  ⟨_,_,none,none,none,rfl⟩ ?_ ?_
 ·rintro pre u post env hx ⟨m1,m2,a,b,c,rfl⟩
  have hpl:pre.length<14:=by have:=congrArg length hx;rw[length_append,length_cons] at this;have:=lJ (t:=t) h;omega
  have z:((pre.map (yV (iY t.2.1 t.2.2))).map bG).length<sizeLine:=by rw[length_map,length_map];unfold sizeLine;omega
  have ea:((pre++[u]).map (yV (iY t.2.1 t.2.2))).map bG=(pre.map (yV (iY t.2.1 t.2.2))).map bG++[bG (yV (iY t.2.1 t.2.2) u)]:=by simp
  refine⟨_,?_,m1,m2,some (.sh,.int u.1),some (.sh,.int u.2.1),some (.sh,.int u.2.2),rfl⟩;simp only[EV,nV,yE,HP,OV,HN,z3,z,ea];rfl
 ·rintro env ⟨m1,m2,a,b,c,rfl⟩;simp only[EV,jc,e2];rfl
end K27
end
end
section
open PySem L2 Hv
namespace K27
theorem Dv{p q:Int}{P Q:List Int}{x:Int}(h:∀y,y∈Q↔y∈P\/y=x):∀e,e∈Q.map (fE p q ts)↔e∈P.map (fE p q ts)\/e=((fE p q ts x).1,(fE p q ts x).2):=λe=>by
 constructor
 ·intro he
  obtain⟨y,hy,rfl⟩:=mem_map.mp he
  rcases(h y).mp hy with hy|rfl
  ·exact .inl (mem_map_of_mem hy)
  ·exact .inr rfl
 ·rintro(he|rfl)
  ·obtain⟨y,hy,rfl⟩:=mem_map.mp he;exact mem_map_of_mem ((h y).mpr (.inl hy))
  ·exact mem_map_of_mem (f:=fE p q ts) ((h x).mpr (.inr rfl))
section
variable {p q:Int} {ts:List T3}
noncomputable def Wy(p q:Int)(ts:List T3)(P:List Int)(x:Int):Prop:=Way (P.map (fE p q ts)) (fE p q ts x).1 (fE p q ts x).2
theorem Wy.mono{P Q:List Int}(h:∀y∈P,y∈Q){x:Int}(w:Wy p q ts P x):Wy p q ts Q x:=by
 unfold Wy at w |-;refine Way.mono (λe he=>?_) w;obtain⟨y,hy,rfl⟩:=mem_map.mp he;exact mem_map_of_mem (h y hy)
open Classical in
theorem rV(ok:aC p q ts){P Q:List Int}{x:Int}(hP:∀y∈P,y∈nms ts)(hx:x∈nms ts)(h:∀y,y∈Q↔y∈P\/y=x):cQ p q ts Q=cQ p q ts P+if Wy p q ts P x then 0 else 1:=by
 obtain⟨h1,h2⟩:=tK ok hx;exact FW (ps:=qo p q ts) (iN _) (Dm ok hP) h1 h2 (Dv (p:=p) (q:=q) (ts:=ts) h)
theorem jJ(ok:aC p q ts){P Q:List Int}{x:Int}(hP:∀y∈P,y∈nms ts)(hx:x∈nms ts)(h:∀y,y∈Q↔y∈P\/y=x):cQ p q ts P<=cQ p q ts Q/\cQ p q ts Q<=cQ p q ts P+1:=by
 rw[rV ok hP hx h]
 split<;>omega
theorem vI(ok:aC p q ts){P Q:List Int}{x:Int}(hP:∀y∈P,y∈nms ts)(hx:x∈nms ts)(h:∀y,y∈Q↔y∈P\/y=x):Wy p q ts P x↔cQ p q ts Q=cQ p q ts P:=by
 rw[rV ok hP hx h]
 split
 ·exact⟨λ_=>rfl,λ_=>‹_›⟩
 ·exact⟨λw=>absurd w ‹_›,λe=>by omega⟩
theorem iD(ok:aC p q ts){P Q:List Int}(hP:∀y∈P,y∈nms ts)(h:∀y,y∈P↔y∈Q):cQ p q ts P=cQ p q ts Q:=by
 refine vn (iN _) (Dm ok hP) λe=>⟨λhe=>?_,λhe=>?_⟩
 ·obtain⟨y,hy,rfl⟩:=mem_map.mp he;exact mem_map_of_mem ((h y).mp hy)
 ·obtain⟨y,hy,rfl⟩:=mem_map.mp he;exact mem_map_of_mem ((h y).mpr hy)
theorem bS{R:List Int}{x:Int}(y:Int):y∈R++[x]↔y∈R\/y=x:=by simp
theorem n5{R:List Int}{x:Int}(hR:∀y∈R,y∈nms ts)(hx:x∈nms ts):∀y∈R++[x],y∈nms ts:=λy hy=>by
 rcases(bS y).mp hy with h|rfl
 ·exact hR y h
 ·exact hx
theorem tM(ok:aC p q ts):∀(xs R:List Int),(∀y∈R,y∈nms ts)->(∀y∈xs,y∈nms ts)->cQ p q ts R<=cQ p q ts (R++xs)/\cQ p q ts (R++xs)<=cQ p q ts R+xs.length
 | [],R,_,_=>by rw[append_nil];exact⟨le_refl _,le_refl _⟩
 | x::xs,R,hR,hx=>by
  have h1:=jJ ok (Q:=R++[x]) hR (hx x mem_cons_self) bS;have h2:=tM ok xs (R++[x]) (n5 hR (hx x mem_cons_self)) λy hy=>hx y (mem_cons_of_mem _ hy);rw[List.append_assoc] at h2;rw[length_cons];exact⟨le_trans h1.1 h2.1,by have:=h2.2;have:=h1.2;show cQ p q ts (R++([x]++xs))<=_;omega⟩
theorem yW(ok:aC p q ts):∀(xs R:List Int),(∀y∈R,y∈nms ts)->(∀y∈xs,y∈nms ts)->(∀y∈xs,Wy p q ts R y)->cQ p q ts (R++xs)=cQ p q ts R
 | [],R,_,_,_=>by rw[append_nil]
 | x::xs,R,hR,hx,hw=>by
  have h1:=(vI ok (Q:=R++[x]) hR (hx x mem_cons_self) bS).mp (hw x mem_cons_self);have h2:=yW ok xs (R++[x]) (n5 hR (hx x mem_cons_self)) (λy hy=>hx y (mem_cons_of_mem _ hy)) λy hy=>(hw y (mem_cons_of_mem _ hy)).mono λz hz=>mem_append_left _ hz;rw[List.append_assoc,h1] at h2;exact h2
theorem vJ(ok:aC p q ts):∀(xs R:List Int),(∀y∈R,y∈nms ts)->(∀y∈xs,y∈nms ts)->(∀pre x post,xs=pre++x::post->¬ Wy p q ts (R++pre) x)->cQ p q ts (R++xs)=cQ p q ts R+xs.length
 | [],R,_,_,_=>by rw[append_nil];rfl
 | x::xs,R,hR,hx,hw=>by
  have n1:¬ Wy p q ts R x:=by have:=hw [] x xs rfl;rwa [append_nil] at this
  have s1:=jJ ok (Q:=R++[x]) hR (hx x mem_cons_self) bS;have h1:¬ cQ p q ts (R++[x])=cQ p q ts R:=λe=>n1 ((vI ok (Q:=R++[x]) hR (hx x mem_cons_self) bS).mpr e);have h2:=vJ ok xs (R++[x]) (n5 hR (hx x mem_cons_self)) (λy hy=>hx y (mem_cons_of_mem _ hy)) λpre y post e=>by
   have:=hw (x::pre) y post (by rw[e];rfl);rw[List.append_assoc];exact this
  rw[List.append_assoc] at h2;rw[length_cons];show cQ p q ts (R++([x]++xs))=_;omega
theorem lK:cQ p q ts []=0:=by
 unfold cQ;rw[map_nil,nq (ps:=qo p q ts) (ki.start _) (iN _)];unfold rk;simp
theorem Gs(ok:aC p q ts){P Q:List Int}(h:∀y∈P,y∈Q)(hQ:∀y∈Q,y∈nms ts):cQ p q ts P<=cQ p q ts Q:=by
 have hP:∀y∈P,y∈nms ts:=λy hy=>hQ y (h y hy);have h1:=(tM ok Q P hP hQ).1;rwa [iD ok (P:=P++Q) (Q:=Q) (λy hy=>by rcases mem_append.mp hy with h|h;exact hP y h;exact hQ y h) λy=>⟨λhy=>by rcases mem_append.mp hy with z|z;exact h y z;exact z,λhy=>mem_append_right _ hy⟩] at h1
theorem Lj(ok:aC p q ts){P:List Int}(hP:∀y∈P,y∈nms ts):cQ p q ts P<=P.length:=by
 have:=(tM ok P [] (λ_ h=>by simp at h) hP).2;rw[lK,nil_append] at this;omega
theorem LR(ok:aC p q ts){R:List Int}(hR:∀y∈R,y∈nms ts):cQ p q ts R=cQ p q ts (nms ts)↔∀x∈nms ts,x∈R\/cQ p q ts (R++[x])=cQ p q ts R:=by
 constructor
 ·intro e x hx;refine .inr ?_;have h1:=(jJ ok (Q:=R++[x]) hR hx bS).1;have h2:=Gs ok (P:=R++[x]) (Q:=nms ts) (n5 hR hx) λ_ h=>h;omega
 ·intro h
  have e:=yW ok (nms ts) R hR (λ_ h=>h) λx hx=>by
   rcases h x hx with hr|e
   ·exact(vI ok (Q:=R) hR hx λy=>⟨λh=>.inl h,λh=>h.elim id λe=>e▸hr⟩).mpr rfl
   ·exact(vI ok (Q:=R++[x]) hR hx bS).mpr e
  rw[<-e];exact iD ok (λy hy=>by rcases mem_append.mp hy with h|h;exact hR y h;exact h) λy=>⟨λhy=>by rcases mem_append.mp hy with z|z;exact hR y z;exact z,λhy=>mem_append_right _ hy⟩
theorem fR{P:List Int}{y:Int}:y∈others ts P↔y∈nms ts/\y∉P:=by
 unfold others;rw[mem_filter];simp
theorem Gu{P:List Int}(hP:∀y∈P,y∈nms ts){y:Int}:y∈others ts (others ts P)↔y∈P:=by
 rw[fR,fR];constructor
 ·rintro⟨h1,h2⟩;exact byContradiction λn=>h2 ⟨h1,n⟩
 ·exact λh=>⟨hP y h,λz=>z.2 h⟩
theorem OW(ok:aC p q ts){P:List Int}(hn:P.Nodup)(hP:∀y∈P,y∈nms ts):cQ p q ts P=P.length↔∀x∈nms ts,x∈others ts P\/cQ p q ts (others ts (others ts P++[x]))+1=cQ p q ts (others ts (others ts P)):=by
 have YT:cQ p q ts (others ts (others ts P))=cQ p q ts P:=iD ok mW λy=>Gu hP;have hm:∀x y,y∈others ts (others ts P++[x])↔y∈P/\y≠x:=λx y=>by
  rw[fR,bS,fR];constructor
  ·rintro⟨h1,h2⟩;exact⟨byContradiction λn=>h2 (.inl ⟨h1,n⟩),λe=>h2 (.inr e)⟩
  ·rintro⟨h1,h2⟩;exact⟨hP y h1,λz=>z.elim (λz=>z.2 h1) h2⟩
 have hq:∀x∈P,∀y,y∈P↔y∈others ts (others ts P++[x])\/y=x:=λx hx y=>by
  rw[hm];constructor
  ·intro h
   by_cases e:y=x
   ·exact .inr e
   ·exact .inl ⟨h,e⟩
  ·rintro(h|rfl)
   ·exact h.1
   ·exact hx
 rw[YT];constructor
 ·intro e x hx
  by_cases Gv:x∈P
  ·refine .inr ?_
   have h1:=(jJ ok (P:=others ts (others ts P++[x])) (Q:=P) mW hx (hq x Gv)).2;have h2:cQ p q ts (others ts (others ts P++[x]))=cQ p q ts (P.erase x):=iD ok mW λy=>by
    rw[hm,hn.mem_erase_iff];exact⟨λh=>⟨h.2,h.1⟩,λh=>⟨h.2,h.1⟩⟩
   have h3:=Lj ok (P:=P.erase x) λy hy=>hP y (List.mem_of_mem_erase hy);rw[List.length_erase_of_mem Gv] at h3;have:=List.length_pos_of_mem Gv;omega
  ·exact .inl (fR.mpr ⟨hx,Gv⟩)
 ·intro h
  have e:=vJ ok P [] (λ_ h=>by simp at h) hP λpre x post e w=>by
   have Gv:x∈P:=by rw[e];simp
   have hpre:∀y∈pre,y∈P/\y≠x:=λy hy=>by
    refine⟨by rw[e];exact mem_append_left _ hy,λz=>?_⟩;subst z;rw[e,nodup_append] at hn;exact hn.2.2 y hy y mem_cons_self rfl
   have w2:Wy p q ts (others ts (others ts P++[x])) x:=w.mono λy hy=>(hm x y).mpr (hpre y (by simpa using hy));have e2:=(vI ok (P:=others ts (others ts P++[x])) (Q:=P) mW (hP x Gv) (hq x Gv)).mp w2
   rcases h x (hP x Gv) with z|z
   ·exact(fR.mp z).2 Gv
   ·omega
  rw[lK,nil_append] at e;omega
theorem missed(ok:aC p q ts){P:List Int}{x:Int}(hx:x∈nms ts)(hn:x∉P):others ts (P++[x])=(others ts P).filter (λy=>!decide (y=x))/\(cQ p q ts (others ts (P++[x]))+1=cQ p q ts (others ts P)↔cQ p q ts (others ts (P++[x]))<cQ p q ts (others ts P)):=by
 constructor
 ·unfold others
  rw[List.filter_filter];refine filter_congr λy _=>?_
  by_cases a:y∈P<;>by_cases b:y=x<;>simp[a,b]
 ·have h1:=(jJ ok (P:=others ts (P++[x])) (Q:=others ts P) (x:=x) mW hx λy=>by
   rw[fR,fR,bS];constructor
   ·rintro⟨h1,h2⟩
    by_cases c:y=x
    ·exact .inr c
    ·exact .inl ⟨h1,λz=>z.elim h2 c⟩
   ·rintro(⟨h1,h2⟩|rfl)
    ·exact⟨h1,λz=>h2 (.inl z)⟩
    ·exact⟨hx,hn⟩).2
  omega
end
end K27
end
section
open PySem L2 Hv
namespace K27
section
variable {p q:Int} {ts:List T3} {t:T3}
noncomputable def j7(ts:List T3)(t:T3):List T3:=((dZ ts t).map (yV (iY t.2.1 t.2.2))).map turnT
noncomputable def j8(p q:Int)(t:T3):T3:=turnT (0,iY t.2.1 t.2.2 p,iY t.2.1 t.2.2 q)
theorem vK(u:T3):(turnT u).1=u.1:=rfl
theorem rW:(j7 ts t).map (·.1)=(dZ ts t).map (·.1):=by
 unfold j7;rw[map_map,map_map];rfl
theorem n6(ok:aC p q ts):xu (dZ ts t):=by
 have:=ok.up;unfold xu dZ at *;exact this.sublist List.filter_sublist
theorem n8(hf:∀u,(f u).1=u.1)(h:xu us):xu (us.map f):=by
 unfold xu at *;rw[pairwise_map];exact h.imp λ{a b} h=>by rw[hf,hf];exact h
theorem yX(u:T3):(turnT u).2.1<=(turnT u).2.2:=by
 unfold turnT;dsimp only;split<;>split<;>omega
theorem fc(ok:aC p q ts):aC p q (dZ ts t) :=
 ⟨ok.ord,lJ ok.len,n6 ok,λu hu=>ok.ends u (iC.mp hu).1,λu hu=>ok.names u (iC.mp hu).1⟩
theorem iP(ok:aC p q ts):aC (j8 p q t).2.1 (j8 p q t).2.2 (j7 ts t):=by
 refine⟨yX _,?_,?_,λu hu=>?_,λu hu=>?_⟩
 ·unfold j7;rw[length_map,length_map];exact lJ ok.len
 ·exact n8 vK (n8 (f:=yV (iY t.2.1 t.2.2)) (λ_=>rfl) (n6 (t:=t) ok))
 ·obtain⟨v,_,rfl⟩:=mem_map.mp hu;exact yX _
 ·have:u.1∈(j7 ts t).map (·.1):=mem_map_of_mem hu;rw[rW] at this;obtain⟨v,hv,e⟩:=mem_map.mp this;have:=ok.names v (iC.mp hv).1;rw[<-e];exact this
theorem Gx(ok:aC p q ts)(ht:t∈ts):dH [bh p q ts,.int t.1]=.ok (true,bh p q (dZ ts t)):=by
 rw[Dt ok.len (lH ok) ht];have e1:(dZ ts t).map turnT=dZ ts t:=(map_congr_left λu hu=>yO (ok.ends u (iC.mp hu).1)).trans (map_id _);have h1:(if q<p then q else p)=p:=if_neg (by have:=ok.ord;omega);have h2:(if q>p then q else p)=q:=by have:=ok.ord;split<;>omega
 rw[e1,lG (n6 ok),h1,h2]
theorem Gy(ok:aC p q ts)(ht:t∈ts):jW [bh p q ts,.int t.1]=.ok (true,bh (j8 p q t).2.1 (j8 p q t).2.2 (j7 ts t)):=by
 rw[Du ok.len (lH ok) ht,lG (n8 vK (n8 (f:=yV (iY t.2.1 t.2.2)) (λ_=>rfl) (n6 (t:=t) ok)))];rfl
noncomputable def gy(ts:List T3)(t:T3):List Int:=nms (dZ ts t)
theorem xD(ok:aC p q ts)(ht:t∈ts):gy ts t=(nms ts).filter λy=>!decide (y=t.1):=by
 have h0:=ok.names t ht;unfold gy nms dZ;rw[filter_cons_of_pos (by rw[not_eq_true',decide_eq_false_iff_not];omega),List.filter_map];rfl
theorem ff(ok:aC p q ts)(ht:t∈ts){y:Int}:y∈gy ts t↔y∈nms ts/\y≠t.1:=by
 rw[xD ok ht,mem_filter];simp
theorem lM:nms (j7 ts t)=gy ts t:=by
 unfold nms gy nms;rw[rW]
theorem vL(ok:aC p q ts)(ht:t∈ts){x:Int}(hx:x∈gy ts t):fE p q (dZ ts t) x=fE p q ts x:=by
 unfold gy nms at hx
 rcases mem_cons.mp hx with rfl|h
 ·rw[mU (fc ok),mU ok]
 ·obtain⟨u,hu,rfl⟩:=mem_map.mp h;rw[kM (fc ok) hu,kM ok (iC.mp hu).1]
theorem qi(ok:aC p q ts)(ht:t∈ts){x:Int}(hx:x∈gy ts t):HM (fE (j8 p q t).2.1 (j8 p q t).2.2 (j7 ts t) x) (iY t.2.1 t.2.2 (fE p q ts x).1) (iY t.2.1 t.2.2 (fE p q ts x).2):=by
 have hx':=hx;unfold gy nms at hx'
 rcases mem_cons.mp hx' with rfl|h
 ·rw[mU (iP ok),mU ok];exact yU (0,iY t.2.1 t.2.2 p,iY t.2.1 t.2.2 q)
 ·obtain⟨u,hu,rfl⟩:=mem_map.mp h;have hm:turnT (yV (iY t.2.1 t.2.2) u)∈j7 ts t:=mem_map_of_mem (mem_map_of_mem hu);have e:=kM (iP ok) hm;rw[show (turnT (yV (iY t.2.1 t.2.2) u)).1=u.1 from rfl] at e;rw[e,kM ok (iC.mp hu).1];exact yU (yV (iY t.2.1 t.2.2) u)
theorem Lk{a b:Int}(s:HM e a b):Way es e.1 e.2↔Way es a b:=by
 rcases s with rfl|rfl
 ·exact Iff.rfl
 ·exact⟨Way.symm,Way.symm⟩
theorem Ll(ok:aC p q ts)(ht:t∈ts){P:List Int}(hP:∀y∈P,y∈gy ts t){x:Int}(hx:x∈gy ts t):Wy (j8 p q t).2.1 (j8 p q t).2.2 (j7 ts t) P x↔Wy p q ts (P++[t.1]) x:=by
 unfold Wy;rw[Lk (qi ok ht hx),Dr (es:=P.map (fE p q ts)) (D:=[(t.2.1,t.2.2)]) (Gq.one t.2.1 t.2.2) (λe he=>?_) (λe' he'=>?_)]
 ·rw[map_append,map_cons,map_nil,kM ok ht]
 ·obtain⟨y,hy,rfl⟩:=mem_map.mp he;exact⟨_,mem_map_of_mem hy,qi ok ht (hP y hy)⟩
 ·obtain⟨y,hy,rfl⟩:=mem_map.mp he';exact⟨_,mem_map_of_mem hy,qi ok ht (hP y hy)⟩
theorem Gz(ok:aC p q ts)(ht:t∈ts){P:List Int}(hP:∀y∈P,y∈gy ts t){x:Int}(hx:x∈gy ts t):Wy p q (dZ ts t) P x↔Wy p q ts P x:=by
 unfold Wy;rw[vL ok ht hx,map_congr_left λy hy=>vL ok ht (hP y hy)]
theorem lN{R:List Int}{x:Int}(y:Int):y∈x::R↔y∈R\/y=x:=by rw[mem_cons,or_comm]
theorem Av(ht:t∈ts):t.1∈nms ts:=mem_cons_of_mem _ (mem_map_of_mem ht)
open Classical in
theorem n9(ok:aC p q ts)(ht:t∈ts):∀P:List Int,(∀y∈P,y∈gy ts t)->cQ (j8 p q t).2.1 (j8 p q t).2.2 (j7 ts t) P+cQ p q ts [t.1]=cQ p q ts (P++[t.1])
 | [],_=>by rw[lK,nil_append,zero_add]
 | x::P,h=>by
  have hP:∀y∈P,y∈gy ts t:=λy hy=>h y (mem_cons_of_mem _ hy);have hx:=h x mem_cons_self;have ih:=n9 ok ht P hP;have hin:∀y∈P++[t.1],y∈nms ts:=λy hy=>by
   rcases(bS y).mp hy with z|rfl
   ·exact((ff ok ht).mp (hP y z)).1
   ·exact Av ht
  rw[rV (iP ok) (P:=P) (Q:=x::P) (by rw[lM];exact hP) (by rw[lM];exact hx) lN,
   rV ok (P:=P++[t.1]) (Q:=(x::P)++[t.1]) hin ((ff ok ht).mp hx).1 (λy=>by rw[cons_append];exact lN y)]
  have e:=Ll ok ht hP hx
  by_cases c:Wy p q ts (P++[t.1]) x
  ·rw[if_pos c,if_pos (e.mpr c)];omega
  ·rw[if_neg c,if_neg (λz=>c (e.mp z))];omega
open Classical in
theorem lO(ok:aC p q ts)(ht:t∈ts):∀P:List Int,(∀y∈P,y∈gy ts t)->cQ p q (dZ ts t) P=cQ p q ts P
 | [],_=>by rw[lK,lK]
 | x::P,h=>by
  have hP:∀y∈P,y∈gy ts t:=λy hy=>h y (mem_cons_of_mem _ hy);have hx:=h x mem_cons_self;rw[rV (fc ok) (P:=P) (Q:=x::P) hP hx lN,rV ok (P:=P) (Q:=x::P) (λy hy=>((ff ok ht).mp (hP y hy)).1) ((ff ok ht).mp hx).1 lN,lO ok ht P hP];have e:=Gz ok ht hP hx
  by_cases c:Wy p q ts P x
  ·rw[if_pos c,if_pos (e.mpr c)]
  ·rw[if_neg c,if_neg (λz=>c (e.mp z))]
theorem Dw(ok:aC p q ts)(ht:t∈ts){P:List Int}:others ts (P++[t.1])=(gy ts t).filter λy=>!decide (y∈P):=by
 rw[xD ok ht,List.filter_filter];unfold others;refine filter_congr λy _=>?_
 by_cases a:y∈P<;>by_cases b:y=t.1<;>simp[a,b]
theorem GA(ok:aC p q ts)(ht:t∈ts):others ts [t.1]=gy ts t:=by
 rw[xD ok ht];unfold others;refine filter_congr λy _=>?_;simp
theorem GB{P:List Int}:others (j7 ts t) P=(gy ts t).filter λy=>!decide (y∈P):=by
 unfold others;rw[lM]
theorem Dy{P:List Int}:others (dZ ts t) P=(gy ts t).filter λy=>!decide (y∈P):=rfl
noncomputable def HQ(p q:Int)(ts:List T3)(P:List Int):Int:=(P.length:Int)-cQ p q ts (nms ts)+cQ p q ts (others ts P)
section
variable (ok:aC p q ts) (ht:t∈ts) {P:List Int} (hP:∀y∈P,y∈gy ts t)
include ok ht hP
theorem Tz:(cQ (j8 p q t).2.1 (j8 p q t).2.2 (j7 ts t) P:Int)=cQ p q ts (P++[t.1])-cQ p q ts [t.1]:=by
 have:=n9 ok ht P hP;omega
theorem TF:(cQ p q (dZ ts t) P:Int)=cQ p q ts P:=by rw[lO ok ht P hP]
theorem TH:HQ p q (dZ ts t) P=HQ p q ts (P++[t.1])-HQ p q ts [t.1]:=by
 unfold HQ;rw[Dw ok ht,GA ok ht,Dy,show nms (dZ ts t)=gy ts t from rfl,lO ok ht (gy ts t) (λ_ h=>h),lO ok ht _ (λy hy=>(mem_filter.mp hy).1),length_append];simp only[length_cons,length_nil];omega
theorem TJ:HQ (j8 p q t).2.1 (j8 p q t).2.2 (j7 ts t) P=HQ p q ts P:=by
 have e1:=n9 ok ht (gy ts t) (λ_ h=>h);have e2:=n9 ok ht ((gy ts t).filter λy=>!decide (y∈P)) (λy hy=>(mem_filter.mp hy).1);have hin:∀l:List Int,(∀y∈l,y∈gy ts t)->∀y∈l++[t.1],y∈nms ts:=λl hl y hy=>by
  rcases(bS y).mp hy with z|rfl
  ·exact((ff ok ht).mp (hl y z)).1
  ·exact Av ht
 have s1:cQ p q ts (gy ts t++[t.1])=cQ p q ts (nms ts):=iD ok (hin _ λ_ h=>h) λy=>by
  rw[bS,ff ok ht];constructor
  ·rintro(h|rfl)
   ·exact h.1
   ·exact Av ht
  ·intro h
   by_cases c:y=t.1
   ·exact .inr c
   ·exact .inl ⟨h,c⟩
 have s2:cQ p q ts ((gy ts t).filter (λy=>!decide (y∈P))++[t.1])=cQ p q ts (others ts P):=iD ok (hin _ λy hy=>(mem_filter.mp hy).1) λy=>by
  rw[bS,mem_filter,ff ok ht,fR];have hn:t.1∉P:=λh=>((ff ok ht).mp (hP _ h)).2 rfl;constructor
  ·rintro(⟨h1,h2⟩|rfl)
   ·exact⟨h1.1,by simpa using h2⟩
   ·exact⟨Av ht,hn⟩
  ·rintro⟨h1,h2⟩
   by_cases c:y=t.1
   ·exact .inr c
   ·exact .inl ⟨⟨h1,c⟩,by simpa using h2⟩
 unfold HQ;rw[GB,lM];omega
end
end
end K27
end
section
open PySem L2 Hv
local macro_rules | `(tactic| simp only[EV,$ls,*] $[$l:location]?)=>`(tactic| simp only[gc,Cs,Ct,Cu,yC,Hg,Hh,Hi,Hj,Hl,tw,Ho,Ck,Cm,NW,Cn,Hq,cL,bA,Nr,bu,qz,gb,Nt,nL,Ra,Ce,cA,Ci,gD,sZ,Cj,isVar,f9,List.getElem?_cons_zero,List.getElem?_cons_succ,set_cons_zero,set_cons_succ,map_cons,map_nil,length_cons,length_nil,cons_append,nil_append,List.replicate_succ,List.replicate_zero,Nat.reduceSub,Nat.reduceAdd,Nat.reduceLeDiff,Hr,Ht,NX,NY,NZ,N1,N2,N3,Hx,Hy,yD,Hz,HD,HE,HF,HG,HH,HJ,Co,Cp,Cq,Cr,HK,iE,bI,nh,Pp,cG,gX,Hv.stored,List.contains_nil,List.contains_cons,elem_nil,List.elem_cons,Nat.reduceBEq,Nat.reduceEqDiff,BEq.rfl,all_cons,List.all_nil,beq_self_eq_true,uU,fJ,pH,jv,mH,↓reduceIte,Bool.and_true,Bool.true_and,Bool.false_and,Bool.and_false,Bool.or_false,Bool.false_or,Bool.or_true,Bool.true_or,Bool.or_self,zero_le,Bool.not_true,Bool.not_false,false_eq_true,decide_eq_true_eq,not_eq_true',decide_eq_false_iff_not,append_nil,nil_append,reduceCtorEq,$ls,*] $[$l:location]?)
section
open PySem L2 Hv
namespace K27
noncomputable abbrev NF(m:Str):Prop:=m ≠ "net" /\ m ≠ "places" /\ m ≠ "ends" /\ m ≠ "whole"
noncomputable def yY(p q:Int)(ts:List T3):Val:=nD 1 p q ts
noncomputable def Az(p q:Int)(ts:List T3):Val:=iX 0 p q ts (cQ p q ts (nms ts))
section
variable {p q:Int} {ts:List T3}
theorem xE{Ψ:Nat->List Val->Pr FV}(h:Ψ 13=eZ)(ok:aC p q ts):Ψ 13 [.str "linker",bh p q ts]=.ok (true,yY p q ts):=by
 rw[h];have r1:jV [bh p q ts]=.ok (true,yY p q ts):=vF kJ jH ok;have d1:cop [] .eq (.str "linker") (.str "linker")=some true:=by decide +kernel
 unfold eZ eY;simp only[EV,d1,kK,r1]
theorem xF{Ψ:Nat->List Val->Pr FV}(h:Ψ 13=eZ)(ok:aC p q ts):Ψ 13 [.str "cutter",bh p q ts]=.ok (true,Az p q ts):=by
 rw[h];have r2:lD [bh p q ts]=.ok (true,Az p q ts):=Dp (by decide) gR gp j6 gS ok;have d1:cop [] .eq (.str "cutter") (.str "linker")=some false:=by decide +kernel
 unfold eZ eY;simp only[EV,d1,lF,r2]
theorem OX:wN [] (yY p q ts) [false,true]=some true:=rfl
theorem OY:wN [] (Az p q ts) [true,false]=some true:=rfl
theorem HS:jY [] (yY p q ts) "rank" [(0,19),(1,20)]=some 20:=vG rfl (by decide)
theorem HU:jY [] (Az p q ts) "rank" [(0,19),(1,20)]=some 19:=qb rfl (by decide)
theorem qj(ok:aC p q ts){P:List Int}(hP:∀x∈P,x∈nms ts)(hl:P.length<=15):au dm 20 [yY p q ts,.rl (P.map .int)]=.ok (true,.int (cQ p q ts P)):=by
 rw[show au dm 20=cP from rfl];have e:=qg (o:=yY p q ts) ok (tL (by decide) ok) hP hl;have m:jY [] (yY p q ts) "tree_rank" [(0,8),(1,8)]=some 8:=vG rfl (by decide);unfold cP cC;simp only[EV,m,e7,e]
theorem qk(ok:aC p q ts){P:List Int}:au dm 19 [Az p q ts,.rl (P.map .int)]=.ok (true,.int (HQ p q ts P)):=by
 rw[show au dm 19=cF from rfl];exact Dq (c:=0) (by decide) rfl rfl ok
end
theorem bT{ms:List Nat}(h:bA Ψ ms st env=.ok (.nx env')):cL Ψ ms (.cons st r) env=cL Ψ ms r env':=by
 rw[cL,h];rfl
theorem kq{i:Nat}{f:Bool}(h:bu Ψ e env=.ok (f,v)):bA Ψ [] (.asg (.one i) e) env=.ok (.nx (env.set i (some (fu f v,v)))):=by
 rw[bA]
 try dsimp only
 rw[h];rfl
theorem rX{ms:List Nat}{f:Bool}(h:Nr Ψ c env=.ok (f,.bl false)):bA Ψ ms (.iff c a .nil) env=.ok (.nx env):=by
 rw[bA,h,cA];show pb (pl (cX [] (.bl false))) _=_;rw[yD,gD,cA,if_neg Bool.false_ne_true,cL]
noncomputable abbrev Sl:=Option (Mk×Val)
noncomputable def yZ(r a:IE):IE:=.mth r "rank" [(0,19),(1,20)] (.cons a .nil)
noncomputable def AA(x:Str)(i:Nat):IE:=.call 13 (.cons (.cst (.str x)) (.cons (.var i) .nil))
noncomputable def st1:IS:=.asg (.one 10) (.call 18 (.cons (.var 6) (.cons (.var 9) .nil)))
noncomputable def st2:IS:=.asg (.one 11) (.bin .add (.var 10) (.lst (.cons (.var 5) .nil)))
noncomputable def Dz:fM:=.cons (.ret (.cst (.bl false))) .nil
noncomputable def st3:IS:=.iff (.cmp .ne (yZ (AA "linker" 7) (.var 10)) (.bin .sub (yZ (.var 3) (.var 11)) (yZ (.var 3) (.lst (.cons (.var 5) .nil))))) Dz .nil
noncomputable def LG:IS:=.iff (.cmp .ne (yZ (AA "cutter" 8) (.var 10)) (.bin .sub (yZ (.var 4) (.var 11)) (yZ (.var 4) (.lst (.cons (.var 5) .nil))))) Dz .nil
noncomputable def DE:IS:=.iff (.cmp .ne (yZ (AA "cutter" 7) (.var 10)) (yZ (.var 4) (.var 10))) Dz .nil
noncomputable def TL:IS:=.iff (.cmp .ne (yZ (AA "linker" 8) (.var 10)) (yZ (.var 3) (.var 10))) Dz .nil
noncomputable def nE:fM:=.cons st1 (.cons st2 (.cons st3 (.cons LG (.cons DE (.cons TL .nil)))))
noncomputable def rY:IE:=(.bin .add (.lst (.cons (.cst (.int 0)) .nil)) (.slc (.var 0) (.cst (.int 17)) (.cst (.int 63))))
noncomputable def Vf:IE:=.bin .fdiv (.call 0 (.cons (.var 0) (.cons (.cst (.int 2)) .nil))) (.cst (.int 56))
noncomputable def OZ:IE:=.call 2 (.cons (.var 0) (.cons (.slc (.var 0) (.cst (.int 3)) (.bin .add (.cst (.int 3)) (.bin .mod (.var 1) (.cst (.int 15))))) .nil))
noncomputable def O0:IE:=.or (.not (.isc (.var 3) "ByTrees" [false,true])) (.not (.isc (.var 4) "ByRest" [true,false]))
noncomputable def ql:IE:=.idx (.var 2) (.cst (.int 1))
noncomputable def DA:IE:=.cmp .eq (.blt .len (.cons ql .nil)) (.cst (.int 0))
noncomputable def DC:IE:=.idx (.idx ql (.bin .mod (.bin .fdiv (.var 1) (.cst (.int 15))) (.blt .len (.cons ql .nil)))) (.cst (.int 0))
noncomputable def Lm:IE:=.blt .sorted (.cons (.bin .add (.lst (.cons (.neg (.cst (.int 1))) .nil)) (.comp ["_law_each","_law_name"] [none,some 5] (.one 0) .seq (.cons ql .nil) (.cmp .ne (.idx (.var 0) (.cst (.int 0))) (.var 1)) (.idx (.var 0) (.cst (.int 0))))) .nil)
theorem Lo:jE=.cons (.asg (.one 1) Vf) (.cons (.asg (.one 2) OZ) (.cons (.asg (.one 3) (AA "linker" 2)) (.cons (.asg (.one 4) (AA "cutter" 2)) (.cons (.iff O0 Dz .nil) (.cons (.iff DA (.cons (.ret (.cst (.bl true))) .nil) .nil) (.cons (.asg (.one 5) DC) (.cons (.asg (.one 6) Lm) (.cons (.asg (.one 7) (.call 16 (.cons (.var 2) (.cons (.var 5) .nil)))) (.cons (.asg (.one 8) (.call 17 (.cons (.var 2) (.cons (.var 5) .nil)))) (.cons (.for (.one 9) .seq (.cons rY .nil) nE) (.cons (.ret (.cst (.bl true))) .nil))))))))))):=rfl
section
variable {ns:List Int} {sz:Int} {p q:Int} {ts:List T3} {t:T3}
noncomputable def O3(p q:Int)(ts:List T3)(t:T3):Val:=bh (j8 p q t).2.1 (j8 p q t).2.2 (j7 ts t)
noncomputable def O4(p q:Int)(ts:List T3)(t:T3):Val:=bh p q (dZ ts t)
noncomputable def EN(ns:List Int)(sz p q:Int)(ts:List T3)(t:T3)(r:List Sl):bz:=some (.sh,.rl (ns.map .int))::some (.sh,.int sz)::some (fu true (bh p q ts),bh p q ts)::some (fu true (yY p q ts),yY p q ts)::some (fu true (Az p q ts),Az p q ts)::some (.sh,.int t.1)::some (.nw,.rl ((gy ts t).map .int))::some (fu true (O3 p q ts t),O3 p q ts t)::some (fu true (O4 p q ts t),O4 p q ts t)::r
theorem y9(ok:aC p q ts):(gy ts t).length<=15:=lI (fc ok)
theorem Lp(ok:aC p q ts):(gy ts t).Nodup:=rS (fc ok)
theorem Lq(ok:aC p q ts){x:Int}{Ao vO:Sl}:∃P:List Int,(P.Nodup/\∀y∈P,y∈gy ts t)/\bA (au dm) [] st1 (EN ns sz p q ts t [some (.sh,.int x),Ao,vO])=.ok (.nx (EN ns sz p q ts t [some (.sh,.int x),some (.nw,.rl (P.map .int)),vO])):=by
 have hN:(gy ts t).length<64:=by have:=y9 (t:=t) ok;omega
 have Vg:=Le (gy ts t) x hN;have hsub:=qf (gy ts t) x;generalize qd (gy ts t) x=l at Vg hsub;refine⟨l,⟨hsub.nodup (Lp ok),λy hy=>hsub.subset hy⟩,?_⟩;unfold st1;rw[kq (f:=true) (v:=.rl (l.map .int))]
 ·rfl
 ·unfold EN;simp only[EV,tG,Vg]
theorem Lr{x:Int}{P:List Int}(hl:P.length<=15){vO:Sl}:bA (au dm) [] st2 (EN ns sz p q ts t [some (.sh,.int x),some (.nw,.rl (P.map .int)),vO])=.ok (.nx (EN ns sz p q ts t [some (.sh,.int x),some (.nw,.rl (P.map .int)),some (.nw,.rl ((P++[t.1]).map .int))])):=by
 have z1:1<=sizeLine:=by decide
 have z:(P.map Val.int).length+([.int t.1]:List Val).length<=sizeLine:=by rw[length_map];simp;unfold sizeLine;omega
 have em:P.map Val.int++[.int t.1]=(P++[t.1]).map .int:=by rw[map_append];rfl
 unfold st2;rw[kq (f:=true) (v:=.rl ((P++[t.1]).map .int))]
 ·rfl
 ·unfold EN;simp only[EV,z1,tH z,em,qc]
section
variable (ok:aC p q ts) (ht:t∈ts) {x:Int} {P:List Int} (hn:P.Nodup) (hP:∀y∈P,y∈gy ts t)
include ok ht hn hP
theorem facts:(∀y∈P,y∈nms ts)/\P.length<=14/\(∀y∈P++[t.1],y∈nms ts)/\(P++[t.1]).length<=15/\(∀y∈[t.1],y∈nms ts)/\(∀y∈P,y∈nms (j7 ts t))/\(∀y∈P,y∈nms (dZ ts t)):=by
 have h1:∀y∈P,y∈nms ts:=λy hy=>((ff ok ht).mp (hP y hy)).1;have h3:∀y∈P++[t.1],y∈nms ts:=λy hy=>by
  rcases(bS y).mp hy with z|rfl
  ·exact h1 y z
  ·exact Av ht
 have nd:(P++[t.1]).Nodup:=by rw[nodup_append];exact⟨hn,by simp,λa ha b hb e=>((ff ok ht).mp (hP a ha)).2 (by rw[mem_singleton] at hb;rw[e,hb])⟩
 have l1:=le_trans (eO nd h3) (lI ok);have l2:(P++[t.1]).length=P.length+1:=by simp
 exact⟨h1,by omega,h3,l1,λy hy=>by rw[mem_singleton.mp hy];exact Av ht,by rw[lM];exact hP,hP⟩
theorem Lu:bA (au dm) [] st3 (EN ns sz p q ts t [some (.sh,.int x),some (.nw,.rl (P.map .int)),some (.nw,.rl ((P++[t.1]).map .int))])=.ok (.nx (EN ns sz p q ts t [some (.sh,.int x),some (.nw,.rl (P.map .int)),some (.nw,.rl ((P++[t.1]).map .int))])):=by
 obtain⟨h1,h2,h3,h4,h5,h6,h7⟩:=facts ok ht hn hP;have e1:=xE bZ (iP (t:=t) ok);have e2:=qj (iP (t:=t) ok) h6 (by omega);have e3:=qj ok h3 h4;have e4:=qj ok h5 (by simp);have z1:1<=sizeLine:=by decide
 unfold st3 yZ AA;refine rX (f:=true) ?_;unfold EN O3;simp only[map_cons,map_nil] at e4;simp only[EV,e1,HS,e2,e3,z1,e4,Tz ok ht hP,decide_true]
theorem Lv:bA (au dm) [] LG (EN ns sz p q ts t [some (.sh,.int x),some (.nw,.rl (P.map .int)),some (.nw,.rl ((P++[t.1]).map .int))])=.ok (.nx (EN ns sz p q ts t [some (.sh,.int x),some (.nw,.rl (P.map .int)),some (.nw,.rl ((P++[t.1]).map .int))])):=by
 have e1:=xF bZ (fc (t:=t) ok);have e2:=qk (fc (t:=t) ok) (P:=P);have e3:=qk ok (P:=P++[t.1]);have e4:=qk ok (P:=[t.1]);have z1:1<=sizeLine:=by decide
 unfold LG yZ AA;refine rX (f:=true) ?_;unfold EN O4;simp only[map_cons,map_nil] at e4;simp only[EV,e1,HU,e2,e3,z1,e4,TH ok ht hP,decide_true]
theorem Lw:bA (au dm) [] DE (EN ns sz p q ts t [some (.sh,.int x),some (.nw,.rl (P.map .int)),some (.nw,.rl ((P++[t.1]).map .int))])=.ok (.nx (EN ns sz p q ts t [some (.sh,.int x),some (.nw,.rl (P.map .int)),some (.nw,.rl ((P++[t.1]).map .int))])):=by
 have e1:=xF bZ (iP (t:=t) ok);have e2:=qk (iP (t:=t) ok) (P:=P);have e3:=qk ok (P:=P);unfold DE yZ AA;refine rX (f:=true) ?_;unfold EN O3;simp only[EV,e1,HU,e2,e3,TJ ok ht hP,decide_true]
theorem Lx:bA (au dm) [] TL (EN ns sz p q ts t [some (.sh,.int x),some (.nw,.rl (P.map .int)),some (.nw,.rl ((P++[t.1]).map .int))])=.ok (.nx (EN ns sz p q ts t [some (.sh,.int x),some (.nw,.rl (P.map .int)),some (.nw,.rl ((P++[t.1]).map .int))])):=by
 obtain⟨h1,h2,h3,h4,h5,h6,h7⟩:=facts ok ht hn hP;have e1:=xE bZ (fc (t:=t) ok);have e2:=qj (fc (t:=t) ok) h7 (by omega);have e3:=qj ok h1 (by omega);unfold TL yZ AA;refine rX (f:=true) ?_;unfold EN O4;simp only[EV,e1,HS,e2,e3,TF ok ht hP,decide_true]
end
theorem GC(ok:aC p q ts)(ht:t∈ts){x:Int}{Ao vO:Sl}:∃DM Oq,cL (au dm) [] nE (EN ns sz p q ts t [some (.sh,.int x),Ao,vO])=.ok (.nx (EN ns sz p q ts t [some (.sh,.int x),DM,Oq])):=by
 obtain⟨P,⟨hn,hP⟩,e1⟩:=Lq (ns:=ns) (sz:=sz) (t:=t) ok (x:=x) (Ao:=Ao) (vO:=vO);obtain⟨h1,h2,_⟩:=facts ok ht hn hP;refine⟨some (.nw,.rl (P.map .int)),some (.nw,.rl ((P++[t.1]).map .int)),?_⟩;unfold nE;rw[bT e1,bT (Lr (by omega)),bT (Lu ok ht hn hP),bT (Lv ok ht hn hP),bT (Lw ok ht hn hP),bT (Lx ok ht hn hP),cL]
theorem GD(hns:ns.length<=63)(ok:aC p q ts)(ht:t∈ts):∃r:List Sl,bA (au dm) [] (.for (.one 9) .seq (.cons rY .nil) nE) (EN ns sz p q ts t [none,none,none])=.ok (.nx (EN ns sz p q ts t r)):=by
 have z1:1<=sizeLine:=by decide
 have YU:(cY ns (some 17) (some 63)).length<=63:=by have:=Cv ns (some 17) (some 63);omega
 have O5:j3 .add (.rl [.int 0]) (.rl ((cY ns (some 17) (some 63)).map .int))=.ok (bI ((0::cY ns (some 17) (some 63)).map .int),.rl ((0::cY ns (some 17) (some 63)).map .int)):=by rw[tH (by rw[length_map];simp;unfold sizeLine;omega)];rfl
 generalize (0::cY ns (some 17) (some 63))=Ls at O5;have he:gb (au dm) (.cons rY .nil) (EN ns sz p q ts t [none,none,none])=.ok [.rl (Ls.map .int)]:=by unfold rY EN;simp only[EV,z1,HL,u6,O5]
 rw[bA,show (uU (.one 9) (.cons rY .nil) nE&&(Hv.stored (.one 9)).all λi=>!([]:List Nat).contains i)=true from by decide,sZ,he,cA,gf,gD,cA];have key:=cT (us:=Ls) (k:=λf=>Pr.ok f) (body:=λx env=>pb (pl (f7 (.one 9) x env)) λenv'=>cL (au dm) [] nE env') Val.int
  (λr:Pr Fj=>∃s:List Sl,r=.ok (.nx (EN ns sz p q ts t s)))
  (oz:=EN ns sz p q ts t [none,none,none])
  (λdone env=>∃c9 Ao vO,env=EN ns sz p q ts t [c9,Ao,vO])
  ⟨none,none,none,rfl⟩ (by
   rintro pre x post env hx ⟨c9,Ao,vO,rfl⟩;obtain⟨DM,Oq,h⟩:=GC (ns:=ns) (sz:=sz) ok ht (x:=x) (Ao:=Ao) (vO:=vO);exact⟨_,h,_,DM,Oq,rfl⟩) (by
   rintro env ⟨c9,Ao,vO,rfl⟩;exact⟨_,rfl⟩)
 cases e:mJ (λx env=>pb (pl (f7 (.one 9) x env)) λenv'=>cL (au dm) [] nE env') (Ls.map Val.int) (EN ns sz p q ts t [none,none,none]) with
 | ok f=>rw[e] at key;exact key
 | exc _ _=>rw[e] at key;exact key
 | no=>rw[e] at key;exact key
end
theorem sorted_ints{l:List Int}(h:l.length<64):f6 .sorted [.rl (l.map .int)]=.ok (true,.rl ((PySem.W.sortI l).map .int)):=by
 refine vC ?_;unfold eu;rw[if_pos (by rw[length_map];exact h),ints_map]
theorem Ly{p q:Int}(ok:aC p q ts)(ht:t∈ts)(hm:rE m=true):bu Ψ Lm (a::b::some (m,bh p q ts)::c::d::some (.sh,.int t.1)::r)=.ok (true,.rl ((gy ts t).map .int)):=by
 have hc:ts.length<=100000:=by have:=ok.len;omega
 have z1:1<=sizeLine:=by decide
 have hN:(gy ts t).length<64:=by have:=y9 (t:=t) ok;omega
 have hl:((-1)::((ts.filter λu=>!decide (u.1=t.1)).map (·.1)))=gy ts t:=rfl;have em:([.int (-1)]:List Val)++(ts.filter λu=>!decide (u.1=t.1)).map (λu=>Val.int u.1)=(gy ts t).map .int:=by rw[<-hl,map_cons,map_map];rfl
 have z:([.int (-1)]:List Val).length+((ts.filter λu=>!decide (u.1=t.1)).map (λu=>Val.int u.1)).length<=sizeLine:=by have:=List.length_filter_le (λu=>!decide (u.1=t.1)) ts;rw[length_map];simp only[length_cons,length_nil];unfold sizeLine;have:=ok.len;omega
 have ng:f6 .sorted [.rl ((gy ts t).map .int)]=.ok (true,.rl ((gy ts t).map .int)):=by have h:=Di (fc (t:=t) ok);rw[sorted_ints hN];unfold gy;rw[h]
 unfold Lm ql bh;simp only[EV,hm,fL pN,gf,iT,length_map,hc,z1];rw[gh bG (λu=>Val.int u.1) (λu=>!decide (u.1=t.1)) ts (λu hu=>by
  have i0:ja [] (bG u) (.int 0)=some (.int u.1):=rfl;simp only[EV,cM,i0,Ds]
  by_cases c:u.1=t.1<;>simp[c])]
 simp only[EV,cA];rw[tH z,em,cA,cA];exact ng
theorem Lz(ns:List Int)(hn:ns.length<=63):∃f,yM [.rl (ns.map .int)]=.ok (f,.bl true):=by
 have c2:dh [.rl (ns.map .int),.int 2]=.ok (true,.int (cellAt ns 2)):=nY ns 2;generalize hsz:cellAt ns 2/56=sz at *;have hcl:(cY ns (some 3) (some (3+sz%15))).length<=14:=by obtain⟨k,hk⟩:=Int.eq_ofNat_of_zero_le (show 0<=sz%15 by omega);have h:=Ae ns 3 k (by omega);rw[<-hk] at h;omega
 obtain⟨p,q,ts,en,ok,_⟩:=Lc ns (cY ns (some 3) (some (3+sz%15))) hcl;have fin:cL (au dm) [] jE [some (.sh,.rl (ns.map .int)),none,none,none,none,none,none,none,none,none,none,none]=.ok (.rt (true,.bl true)):=by
  rw[Lo];rw[bT (kq (i:=1) (f:=true) (v:=.int sz) (by unfold Vf;simp only[EV,qB,c2,iM (show jh 56=true by decide),hsz]))];simp only[set_cons_succ,set_cons_zero,tw];rw[bT (kq (i:=2) (f:=true) (v:=bh p q ts) (by unfold OZ;simp only[EV,jA (show decide ((0:Int)<15)=true by decide),HL,u6,tE,en]))];simp only[set_cons_succ,set_cons_zero];rw[bT (kq (i:=3) (f:=true) (v:=yY p q ts) (by unfold AA;simp only[EV,xE bZ ok]))];simp only[set_cons_succ,set_cons_zero];rw[bT (kq (i:=4) (f:=true) (v:=Az p q ts) (by unfold AA;simp only[EV,xF bZ ok]))];simp only[set_cons_succ,set_cons_zero];rw[bT (rX (f:=true) (by unfold O0;simp only[EV,OX,OY]))];have hz:Nr (au dm) DA [some (.sh,.rl (ns.map .int)),some (.sh,.int sz),some (fu true (bh p q ts),bh p q ts),some (fu true (yY p q ts),yY p q ts),some (fu true (Az p q ts),Az p q ts),none,none,none,none,none,none,none]=.ok (true,.bl (decide ((ts.length:Int)=0))):=by unfold DA ql;unfold bh;simp only[EV,fL pN,length_map]
  by_cases h0:ts.length=0
  ·have d0:decide ((ts.length:Int)=0)=true:=by rw[decide_eq_true_eq];omega
   rw[d0] at hz;rw[cL,bA,hz,cA];show pb (pb (pl (cX [] (.bl true))) _) _=_;rw[yD,gD,cA,if_pos rfl];simp only[EV,cA]
   try rfl
  ·have d0:decide ((ts.length:Int)=0)=false:=by rw[decide_eq_false_iff_not];omega
   rw[d0] at hz;rw[bT (rX hz)];have hlt:0<(ts.length:Int):=by omega
   have j1:=Int.emod_nonneg (sz/15) (show (ts.length:Int)≠0 by omega);have j2:=Int.emod_lt_of_pos (sz/15) hlt;obtain⟨k,hk⟩:=Int.eq_ofNat_of_zero_le j1;rw[hk] at j2;have Vh:k<ts.length:=by omega
   have ht:ts[k]∈ts:=List.getElem_mem Vh;have hat:jd (ts.map bG) (k:Int)=some (bG ts[k]):=kT (by rw[getElem?_map,List.getElem?_eq_getElem Vh];rfl);generalize ts[k]=t at ht hat
   have i0:ja [] (bG t) (.int 0)=some (.int t.1):=rfl;have e5:bu (au dm) DC [some (.sh,.rl (ns.map .int)),some (.sh,.int sz),some (fu true (bh p q ts),bh p q ts),some (fu true (yY p q ts),yY p q ts),some (fu true (Az p q ts),Az p q ts),none,none,none,none,none,none,none]=.ok (true,.int t.1):=by unfold DC ql;unfold bh;simp only[EV,fL pN,length_map,iM (show jh 15=true by decide),jA (show decide (0<(ts.length:Int))=true by rw[decide_eq_true_eq];exact hlt),hk,nk hat,i0]
   rw[bT (kq (i:=5) e5)];simp only[set_cons_succ,set_cons_zero,tw];rw[bT (kq (i:=6) (Ly ok ht yC))];simp only[set_cons_succ,set_cons_zero,Cn];rw[bT (kq (i:=7) (f:=true) (v:=O3 p q ts t) (by simp only[EV,tF,Gy ok ht];rfl))];simp only[set_cons_succ,set_cons_zero];rw[bT (kq (i:=8) (f:=true) (v:=O4 p q ts t) (by simp only[EV,mQ,Gx ok ht];rfl))];simp only[set_cons_succ,set_cons_zero];obtain⟨r,e1⟩:=GD (sz:=sz) hn ok ht;have e2:cL (au dm) [] (.cons (.for (.one 9) .seq (.cons rY .nil) nE) (.cons (.ret (.cst (.bl true))) .nil)) (EN ns sz p q ts t [none,none,none])=.ok (.rt (true,.bl true)):=by rw[bT e1];rfl
   exact e2
 refine⟨true,?_⟩;show pb (cL (au dm) (fJ jE) jE [some (.sh,.rl (ns.map .int)),none,none,none,none,none,none,none,none,none,none,none]) _=_;rw[show fJ jE=[] from by decide,fin];rfl
theorem true(ns:List Int)(hn:ns.length<=63):∃h',vq [.rl (ns.map .int)] []=.ok (.bl true) h':=by
 obtain⟨f,e⟩:=Lz ns hn;exact Gf e
end K27
end
end
section
inductive PySem.W.Fast|tw1833361901377423950|tw3721057595912364621|tw17689633991413878661|tw12202817266565736039|tw11546772848826175698|tw3166364863704946461|tw17141056439761095583|tw1337297438309391526|tw6575761727859492435|tw3169439611488715719|tw14476062940179080178|tw2159203567940778597|tw148418008593964906|tw18074819482620197849|tw2155167942011164374|tw1438168206383455330|tw9746028897391685410|tw12943896876019457966|tw12903951092826066923|tw7779777377907737256|tw13768213291538641163|tw13999399901141575433|tw1973267174239737263|tw4202642709669395728|tw9816824014758602782|tw8847747050888579576|tw4994054149614600468|tw12970936292662744938|tw1898799650693674663|tw16785552997612379613|tw11953320489406617830|tw4667011167334435331|tw7724740131916177717|tw2263694562111511582|tw7830052849569727139|tw16681038090305984323|tw17610371831187291083|tw13574302069331633014|tw1660175438781785350|tw15267060545522531319|tw1259787758947767556|tw11287727472583348013|tw17737662787086054334|tw18083504416392977854|tw8040113889805331861|tw6771341648292167515|tw8996122265403722239|tw5084505652824256791|tw11107878220966584959|tw16494420716487315474|tw372986097364137973|tw1856203267429158193|tw3622204704257727782|tw17517232773634803952|tw1675138020037891279|tw14378133770034479725|tw950169379471295573|tw3990040394346557847|tw7744314189839171179|tw12942599485564215902|tw746646342644954558|tw3875203466904175564|tw3874376099922138775|tw11584458791075835708|tw17341459005968353411|tw12273748556228706846|tw18257688883890211003|tw8442516373368013248|tw17055796794660780777|tw16416302196513868089|tw11807399820200602310|tw47431566621494362|tw3054747453144108303|tw541735383456840524|tw16673869401541520405|tw2366320080662748172|tw15295363272487761091|tw16231724317106442328|tw17303545891386959468|tw5706398653227013818|tw13586425938369258841|tw6225199770944621347|tw3994735579766223574|tw4641599190679291406|tw1428750098081317648|tw522185064871908608|tw2500810544245063074|tw4612159102978551850|tw12661457841425932692
open PySem PySem.W PyProof.Rows
set_option maxRecDepth 100000 in
set_option maxHeartbeats 0 in
theorem PySem.Challenge.cw_linkorcut_k27_behind_a_deed_holds : PySem.Challenge.rw_linkorcut_k27_behind_a_deed.Holds := by
 w_on;o_law;k_head;(case hw=>w_witness2)
 k_fill
 refine Hv.walk (l:=PySem.Challenge.rw_linkorcut_k27_behind_a_deed) (k:=44) (x:="_law_script") rfl rfl ⟨rfl,by decide,by decide⟩ (λw h Y=>PySem.W.kIn_of Y) ?F
 case F =>
  intro w mg fa h KX G hmg;refine' K27.all_mk KX G hmg K27.true ?DA0 ?DG0 ?DH0 ?DO0 ?DS0 ?DM0 ?DK0 ?DN0_0 ?DN0_1 ?DN0_2 ?DN0_3 ?DA1 ?DG1 ?DH1 ?DO1 ?DS1 ?DM1 ?DK1 ?DN1_0 ?DN1_1 ?DN1_2 ?DN1_3 ?EA0 ?EG0 ?ER0 ?EA1 ?EK1_0 ?EK1_1 ?EA2 ?EK2_0 ?EK2_1 ?TN ?TT ?TA0 ?TM0 ?TA1 ?TM1 ?A0 ?L0 ?C0 ?Q0 ?A1 ?L1 ?C1 ?Q1 ?A2 ?L2 ?C2 ?Q2 ?A3 ?L3 ?C3 ?Q3 ?A4 ?L4 ?C4 ?Q4 ?A5 ?L5 ?C5 ?Q5 ?EF0_6 ?I6 ?L6 ?C6 ?Q6 ?A7 ?L7 ?C7 ?Q7 ?M0_8 ?M1_8 ?I8 ?L8 ?C8 ?Q8 ?A9 ?L9 ?C9 ?Q9 ?M0_10 ?M1_10 ?I10 ?L10 ?C10 ?Q10 ?A11 ?I11 ?L11 ?C11 ?Q11 ?A12 ?I12 ?L12 ?C12 ?Q12 ?A13 ?L13 ?C13 ?Q13 ?A14 ?L14 ?C14 ?Q14 ?A15 ?L15 ?C15 ?Q15 ?A16 ?L16 ?C16 ?Q16 ?A17 ?L17 ?C17 ?Q17 ?A18 ?L18 ?C18 ?Q18 ?M0_19 ?I19 ?L19 ?C19 ?Q19 ?M1_20 ?I20 ?L20 ?C20 ?Q20 ?A21 ?L21 ?C21 ?Q21 ?Z0 ?Z1 ?Z2 ?Z3 ?Z4 ?Z5 ?Z6 ?Z7 ?Z8 ?Z9 ?Z10 ?Z11 ?Z12 ?Z13 ?Z14 ?Z15 ?Z16 ?V0
  (case DA0=>k_is)
  (case DG0=>k_is)
  (case DH0=>k_is)
  (case DO0=>k_is)
  (case DS0=>k_is)
  (case DM0=>k_is)
  (case DK0=>k_is)
  (case DN0_0=>k_is)
  (case DN0_1=>k_is)
  (case DN0_2=>k_is)
  (case DN0_3=>k_is)
  (case DA1=>k_is)
  (case DG1=>k_is)
  (case DH1=>k_is)
  (case DO1=>k_is)
  (case DS1=>k_is)
  (case DM1=>k_is)
  (case DK1=>k_is)
  (case DN1_0=>k_is)
  (case DN1_1=>k_is)
  (case DN1_2=>k_is)
  (case DN1_3=>k_is)
  (case EA0=>k_is)
  (case EG0=>k_is)
  (case ER0=>k_is)
  (case EA1=>k_is)
  (case EK1_0=>kit_is)
  (case EK1_1=>kit_is)
  (case EA2=>k_is)
  (case EK2_0=>kit_is)
  (case EK2_1=>kit_is)
  (case TN=>k_is)
  (case TT=>k_is)
  (case TA0=>k_is)
  (case TM0=>k_is)
  (case TA1=>k_is)
  (case TM1=>k_is)
  (case A0=>k_is)
  (case L0=>k_is)
  (case C0=>k_is)
  (case Q0=>k_is)
  (case A1=>k_is)
  (case L1=>k_is)
  (case C1=>k_is)
  (case Q1=>k_is)
  (case A2=>k_is)
  (case L2=>k_is)
  (case C2=>k_is)
  (case Q2=>k_is)
  (case A3=>k_is)
  (case L3=>k_is)
  (case C3=>k_is)
  (case Q3=>k_is)
  (case A4=>k_is)
  (case L4=>k_is)
  (case C4=>k_is)
  (case Q4=>k_is)
  (case A5=>k_is)
  (case L5=>k_is)
  (case C5=>k_is)
  (case Q5=>k_is)
  (case EF0_6=>k_is)
  (case I6=>k_is)
  (case L6=>k_is)
  (case C6=>k_is)
  (case Q6=>k_is)
  (case A7=>k_is)
  (case L7=>k_is)
  (case C7=>k_is)
  (case Q7=>k_is)
  (case M0_8=>k_is)
  (case M1_8=>k_is)
  (case I8=>k_is)
  (case L8=>k_is)
  (case C8=>k_is)
  (case Q8=>k_is)
  (case A9=>k_is)
  (case L9=>k_is)
  (case C9=>k_is)
  (case Q9=>k_is)
  (case M0_10=>k_is)
  (case M1_10=>k_is)
  (case I10=>k_is)
  (case L10=>k_is)
  (case C10=>k_is)
  (case Q10=>k_is)
  (case A11=>k_is)
  (case I11=>k_is)
  (case L11=>k_is)
  (case C11=>k_is)
  (case Q11=>k_is)
  (case A12=>k_is)
  (case I12=>k_is)
  (case L12=>k_is)
  (case C12=>k_is)
  (case Q12=>k_is)
  (case A13=>k_is)
  (case L13=>k_is)
  (case C13=>k_is)
  (case Q13=>k_is)
  (case A14=>k_is)
  (case L14=>k_is)
  (case C14=>k_is)
  (case Q14=>k_is)
  (case A15=>k_is)
  (case L15=>k_is)
  (case C15=>k_is)
  (case Q15=>k_is)
  (case A16=>k_is)
  (case L16=>k_is)
  (case C16=>k_is)
  (case Q16=>k_is)
  (case A17=>k_is)
  (case L17=>k_is)
  (case C17=>k_is)
  (case Q17=>k_is)
  (case A18=>k_is)
  (case L18=>k_is)
  (case C18=>k_is)
  (case Q18=>k_is)
  (case M0_19=>k_is)
  (case I19=>k_is)
  (case L19=>k_is)
  (case C19=>k_is)
  (case Q19=>k_is)
  (case M1_20=>k_is)
  (case I20=>k_is)
  (case L20=>k_is)
  (case C20=>k_is)
  (case Q20=>k_is)
  (case A21=>k_is)
  (case L21=>k_is)
  (case C21=>k_is)
  (case Q21=>k_is)
  (case Z0=>k_is)
  (case Z1=>k_is)
  (case Z2=>k_is)
  (case Z3=>k_is)
  (case Z4=>k_is)
  (case Z5=>k_is)
  (case Z6=>k_is)
  (case Z7=>k_is)
  (case Z8=>k_is)
  (case Z9=>k_is)
  (case Z10=>k_is)
  (case Z11=>k_is)
  (case Z12=>k_is)
  (case Z13=>k_is)
  (case Z14=>k_is)
  (case Z15=>k_is)
  (case Z16=>k_is)
  (case V0=>k_is)
#print axioms PySem.Challenge.cw_linkorcut_k27_behind_a_deed_holds
end
