import PyProof.Rows.All
import Wide.All
import OpenK.AllK
import Wide.FinOn
import Lean
import PyProof.EqAt
import PyProof.EqKinds
import PyProof.TupleCall
import KE.KDictList
import KE.KDictLaws
import KE.KDictSum
import KE.KRevSl
import PyProof.DictWalks
import PySem.Challenge.RW_linkorcut_k24_free_and_reached
set_option Elab.async false
set_option compiler.extract_closed false
set_option linter.all false
set_option maxRecDepth 100000
set_option maxHeartbeats 4000000
set_option genSizeOf false
set_option backward.eqns.nonrecursive false
set_option backward.eqns.deepRecursiveSplit false
set_option bootstrap.genMatcherCode false
open Array(getElem?_toList length_toList)
open Bool(and_eq_true false_eq_true not_eq_true' or_eq_true)
open Classical(choose_spec)
open PySem.Heap(get?_push_of_some get?_push_size get?_update_other get?_update_self lt_size size_push)
open Int(not_lt)
open List(all_cons all_eq_true all_map any_cons any_map append_nil cons_append contains_iff_mem drop_drop ext_getElem find?_cons getElem?_append_left getElem?_append_right getElem?_cons_succ getElem?_map getElem?_set_ne getElem?_set_self getElem_map getElem_of_mem length length_append length_cons length_drop length_filter_le length_map length_nil length_range length_set length_take lookup_cons map_append map_congr_left map_cons map_id map_map map_nil mem_append mem_append_left mem_append_right mem_cons mem_cons_of_mem mem_cons_self mem_filter mem_map mem_map_of_mem mem_of_getElem? mem_replicate mem_singleton nil_append nodup_append nodup_cons nodup_nil not_mem_nil of_mem_zip pairwise_cons pairwise_map prefix_append prefix_refl range' replicate reverse_cons set_cons_succ set_cons_zero size_toArray toArray zip_cons_cons)
open Nat(le_of_lt le_refl le_succ le_trans lt_irrefl lt_of_lt_of_le lt_succ_of_lt lt_succ_self lt_trans mod_lt ne_of_gt ne_of_lt zero_le)
open Option(bind_eq_some_iff bind_some getD_none isSome_map map_eq_some_iff map_some)
open PySem.W(callWith_K callWith_K0 cellsFrom_some codeIn emptyDict eq_sortI findCls findIn handedIn hasDictIn instObj kat_lt keepIn kia_one kitOne kitx_bool kitx_dict kitx_int kitx_list kitx_none kitx_str kitx_tuple lookIn makesIn methodObj mg_none_of mg_of plainGet plainGet_of plainOver readsIn sortI_perm specialIn takerIn takesIn typeIn)
section
namespace L2
open PySem PySem.Spec PyProof.Rows
noncomputable abbrev Key:=Sum Int Str
noncomputable def o6:Key->Value->Bool
 | .inl k,v=>Value.isInt k v
 | .inr x,v=>Value.isStrOf x v
noncomputable def Rn(w:World):Key->Int
 | .inl k=>hashInt k
 | .inr x=>hashStr w x
theorem bO:∀{k:Key} {v:Value},o6 k v=true->(∃i t,k=Sum.inl i/\v=Value.int i t)\/(∃x t,k=Sum.inr x/\v=Value.str x t)
 | .inl i,v,h=>by
  obtain⟨t,e⟩:=Value.isInt_shape (k:=i) (v:=v) h;exact .inl ⟨i,t,rfl,e⟩
 | .inr x,v,h=>by
  obtain⟨t,e⟩:=Value.isStrOf_shape (x:=x) (v:=v) h;exact .inr ⟨x,t,rfl,e⟩
theorem z6(i:Int)(t:Tok):o6 (.inl i) (.int i t)=true:=by simp[o6,Value.isInt]
theorem z7(x:Str)(t:Tok):o6 (.inr x) (.str x t)=true:=by simp[o6,Value.isStrOf]
theorem Ja(a b:Int):decide ((Sum.inl a:Key)=Sum.inl b)=(a==b):=by
 by_cases e:a=b
 ·subst e;simp
 ·have h:¬ (Sum.inl a:Key)=Sum.inl b:=λq=>e (Sum.inl.inj q);rw[decide_eq_false h];exact(beq_eq_false_iff_ne.mpr e).symm
theorem Jb(a b:Str):decide ((Sum.inr a:Key)=Sum.inr b)=decide (a=b):=by
 by_cases e:a=b
 ·subst e;simp
 ·have h:¬ (Sum.inr a:Key)=Sum.inr b:=λq=>e (Sum.inr.inj q);rw[decide_eq_false h,decide_eq_false e]
theorem Jc(a:Int)(b:Str):decide ((Sum.inl a:Key)=Sum.inr b)=false:=decide_eq_false (λq=>nomatch q)
theorem Jd(a:Str)(b:Int):decide ((Sum.inr a:Key)=Sum.inl b)=false:=decide_eq_false (λq=>nomatch q)
noncomputable def aQ(prog:Program)(w:World):PySem.KeyKind prog w Key where
 is:=o6
 hash:=Rn w
 inj:=λv a b ha hb=>by
  rcases bO ha with ⟨i,t,rfl,rfl⟩|⟨x,t,rfl,rfl⟩
  ·rcases bO hb with ⟨j,u,rfl,e⟩|⟨y,u,rfl,e⟩
   ·injection e with e1 _;rw[e1]
   ·exact nomatch e
  ·rcases bO hb with ⟨j,u,rfl,e⟩|⟨y,u,rfl,e⟩
   ·exact nomatch e
   ·injection e with e1 _;rw[e1]
 byValue:=λk v h=>by
  rcases bO h with ⟨i,t,rfl,rfl⟩|⟨x,t,rfl,rfl⟩<;>rfl
 pyHash:=λhv h=>by
  rcases bO hv with ⟨i,t,rfl,rfl⟩|⟨x,t,rfl,rfl⟩
  ·exact wpAny_pyHash_int h
  ·exact wpAny_pyHash_str h
 eqBool:=λhu hv h=>by
  rcases bO hu with ⟨i,t,rfl,rfl⟩|⟨x,t,rfl,rfl⟩
  ·rcases bO hv with ⟨j,u,rfl,rfl⟩|⟨y,u,rfl,rfl⟩
   ·rw[Ja] at h;exact wpAny_eqBool_int h
   ·rw[Jc] at h;exact SeqAt.EqAt.int_str i t y u _ _ _ _ h
  ·rcases bO hv with ⟨j,u,rfl,rfl⟩|⟨y,u,rfl,rfl⟩
   ·rw[Jd] at h;exact SeqAt.EqAt.str_int x t j u _ _ _ _ h
   ·rw[Jb] at h;exact wpAny_eqBool_str h
 «strs»:=λk x t v h=>by
  rcases bO h with ⟨i,u,rfl,e⟩|⟨y,u,rfl,e⟩
  ·exact nomatch e
  ·injection e with e1 _
   subst e1;cases v<;>rfl
theorem xu(prog:Program)(w:World)(k:Key)(v:Value):(aQ prog w).is k v=o6 k v:=rfl
theorem uR(prog:Program)(w:World)(i:Int)(t:Tok):(aQ prog w).is (.inl i) (.int i t)=true:=z6 i t
theorem uS(prog:Program)(w:World)(x:Str)(t:Tok):(aQ prog w).is (.inr x) (.str x t)=true:=z7 x t
end L2
namespace L2
open PySem PySem.Spec PyProof.Rows
inductive V where
 | non|bl (b:Bool)|int (i:Int)|str (x:Str)|byt (b:Array UInt8)|flt (b:UInt64)|ref (a:Addr)|ty (n:String)
 deriving DecidableEq
noncomputable def RelV:V->Value->Prop
 | .non,u=>u=Value.none
 | .bl b,u=>u=Value.bool b
 | .int i,u=>∃t,u=Value.int i t
 | .str x,u=>∃t,u=Value.str x t
 | .byt b,u=>∃t,u=Value.bytes b t
 | .flt b,u=>∃t,u=Value.float b t
 | .ref a,u=>u=Value.ref a
 | .ty n,u=>u=Value.type n
noncomputable abbrev Vals:List V->List Value->Prop:=Paired RelV
theorem Vals.length(r:Vals xs us):xs.length=us.length:=Paired.length r
theorem Vals.get:∀{xs:List V} {us:List Value} {i:Nat} {x:V},Vals xs us->xs[i]?=some x->∃u,us[i]?=some u/\RelV x u
 | _,_,_,_,.nil,e=>by simp at e
 | _,_,0,_,.cons r _,e=>by simp at e;subst e;exact⟨_,rfl,r⟩
 | _,_,i+1,x,.cons _ t,e=>by
  obtain⟨u,h1,h2⟩:=Vals.get (i:=i) (x:=x) t (by simpa using e);exact⟨u,by simpa using h1,h2⟩
theorem Vals.set(r:RelV x u):∀{xs:List V} {us:List Value} (i:Nat),Vals xs us->Vals (xs.set i x) (us.set i u)
 | _,_,_,.nil=>.nil
 | _,_,0,.cons _ t=>.cons r t
 | _,_,i+1,.cons q t=>.cons q (Vals.set r i t)
theorem Vals.append:∀{xs ys:List V} {us ws:List Value},Vals xs us->Vals ys ws->Vals (xs++ys) (us++ws)
 | _,_,_,_,.nil,s=>s
 | _,_,_,_,.cons r t,s=>.cons r (Vals.append t s)
theorem Vals.take:∀{xs:List V} {us:List Value} (n:Nat),Vals xs us->Vals (xs.take n) (us.take n)
 | _,_,0,_=>.nil
 | _,_,_+1,.nil=>.nil
 | _,_,n+1,.cons r t=>.cons r (Vals.take n t)
theorem Vals.drop:∀{xs:List V} {us:List Value} (n:Nat),Vals xs us->Vals (xs.drop n) (us.drop n)
 | _,_,0,r=>r
 | _,_,_+1,.nil=>.nil
 | _,_,n+1,.cons _ t=>Vals.drop n t
noncomputable def jO:Option V->Option Value->Prop
 | some v,some u=>RelV v u
 | none,none=>True
 | _,_=>False
noncomputable def KV{κ:Type}:List (κ × V)->List (κ × Value)->Prop:=Paired λ(p:κ × V) (q:κ × Value)=>p.1=q.1/\RelV p.2 q.2
noncomputable def kV:Key->V
 | .inl i=>.int i
 | .inr x=>.str x
inductive HO where
  | lst (xs:List V)
  | tup (xs:List V)
  | dK (kvs:List (Key×V))|dT (kvs:List (List Key×V))
  | set (S:Int->Bool) (n:Nat)
  | ins (C dx:Addr) (fs:List (Str×V))
  | own (x:Addr)
  | xd (fs:List (Str×V))
  | met (f x:Addr)
  | rng (lo hi:Int)
  | iR (o:Obj) (u:HO)
  | tbl (ps:Array Value)
  | ext (φ:Heap->Prop)
noncomputable abbrev Hp:=Addr->Option HO
noncomputable def upd(H:Hp)(a:Addr)(o:HO):Hp:=λb=>if b=a then some o else H b
theorem aO:upd H a o a=some o:=by unfold upd;rw[if_pos rfl]
theorem au(h:b≠a):upd H a o b=H b:=by unfold upd;rw[if_neg h]
theorem EL:upd (upd H a o) a u=upd H a u:=by
 funext b;unfold upd;split<;>rfl
theorem M1{H:Hp}{a b:Addr}{o u:HO}(h:H a=some o)(h':H b=some u)(d:o≠u):a≠b:=by
 intro e;subst e;rw[h] at h';exact d (Option.some.inj h')
theorem aI{H:Hp}{a b:Addr}{o:HO}(h:H a=some o)(h':H b=none):a≠b:=by
 intro e;subst e;rw[h] at h';cases h'
section
variable (P:Program) (w:World)
noncomputable def bE(H:Hp)(h:Heap)(a:Addr):HO->Prop
 | .lst xs=>xs.length<=sizeLine/\∃(its:List Value) (n:Nat),Vals xs its/\h.get? a=some { cls:=.type "list",data:=.seq its.toArray n }
 | .tup xs=>xs.length<=sizeLine/\∃its:List Value,Vals xs its/\IsTup h a its.toArray
 | .dK kvs=>kvs.length<=sizeLine/\(a==sysModules)=false/\∃vs,KV kvs vs/\h.DictOf (aQ P w) a vs
 | .dT kvs=>kvs.length<=sizeLine/\(a==sysModules)=false/\∃xs:List (List Key×Addr×Value),
   Paired (λ(p:List Key×V) (q:List Key×Addr×Value)=>p.1=q.1/\H q.2.1=some (.tup (p.1.map kV))/\RelV p.2 q.2.2) kvs xs /\
   ∃o es ep,h.get? a=some o/\o.ExactDict/\o.data=.dict es ep/\es.toList=xs.map (entryOfKey (tupleKind (aQ P w)))/\(xs.map (·.1)).Nodup
 | .set S n=>h.SetOf (intKind P w) a S n
 | .ins C dx fs=>H dx=some (.own a)/\fs.length<=1000/\dx≠a/\h.get? a=some (instObj C dx) /\
   ∃mA,h.Ns1 dx mA/\(∀f,jO (fs.lookup f) (mA f))/\PySem.Within mA (fs.map (·.1))
 | .own _=>∃o,h.get? a=some o
 | .xd fs=>∃mA,h.Ns1 a mA/\∀f,jO (fs.lookup f) (mA f)
 | .rng lo hi=>∃t u v,h.get? a=some { cls:=.type "range",data:=.fields #[.int lo t,.int hi u,.int 1 v] }
 | .iR o u=>h.get? a=some o/\bE H h a u
 | .tbl ps=>h.get? a=some { cls:=.none,data:=.fields ps }
 | .met f x=>h.get? a=some (methodObj (.ref f) (.ref x))
 | .ext φ=>φ h/\(∃o,h.get? a=some o)/\∀h1 h2:Heap,φ h1->(∀o,h1.get? a=some o->h2.get? a=some o) -> φ h2
noncomputable def lq(H:Hp)(h:Heap):Prop:=∀a o,H a=some o->bE P w H h a o
end
section
variable {P:Program} {w:World} {H H':Hp} {h h':Heap} {a:Addr} {o:HO}
theorem bE.lt(x:bE P w H h a o):a<h.objs.size:=by
 cases o with
 | lst xs=>obtain⟨_,_,_,_,e⟩:=x;exact lt_size e
 | tup xs=>obtain⟨_,_,_,p⟩:=x;exact p.lt
 | dK kvs=>obtain⟨_,_,_,_,o,_,_,e,_⟩:=x;exact lt_size e
 | dT kvs=>obtain⟨_,_,_,_,o,_,_,e,_⟩:=x;exact lt_size e
 | set S n=>obtain⟨o,_,_,_,e,_⟩:=x;exact lt_size e
 | ins C dx fs=>obtain⟨_,_,_,e,_⟩:=x;exact lt_size e
 | own y=>obtain⟨_,e⟩:=x;exact lt_size e
 | xd fs=>obtain⟨_,⟨_,_,_,e,_⟩,_⟩:=x;exact lt_size e
 | rng lo hi=>obtain⟨_,_,_,e⟩:=x;exact lt_size e
 | iR ob u=>obtain⟨e,_⟩:=x;exact lt_size e
 | tbl ps=>exact lt_size (show h.get? a=some _ from x)
 | met f y=>exact lt_size (show h.get? a=some _ from x)
 | ext φ=>obtain⟨_,⟨_,e⟩,_⟩:=x;exact lt_size e
theorem Paired.Je{α β:Type}{F G:α -> β -> Prop}:∀{l₁:List α} {l₂:List β},Paired F l₁ l₂->(∀a b,F a b->G a b)->Paired G l₁ l₂
 | _,_,.nil,_=>.nil
 | _,_,.cons r t,f=>.cons (f _ _ r) (Paired.Je t f)
theorem bE.stay(x:bE P w H h a o)(k:∀b u,(b=a\/H b=some (.own a))->h.get? b=some u->h'.get? b=some u)
  (ho:∀b,H b=some (.own a)->H' b=some (.own a)) (ht:∀b xs,H b=some (.tup xs)->H' b=some (.tup xs)):bE P w H' h' a o:=by
 induction o with
 | lst xs=>obtain⟨z,its,n,r,e⟩:=x;exact⟨z,its,n,r,k _ _ (.inl rfl) e⟩
 | tup xs=>obtain⟨z,its,r,ob,e,c⟩:=x;exact⟨z,its,r,ob,k _ _ (.inl rfl) e,c⟩
 | dK kvs=>obtain⟨z,y,vs,r,ob,es,ep,e,c⟩:=x;exact⟨z,y,vs,r,ob,es,ep,k _ _ (.inl rfl) e,c⟩
 | dT kvs =>obtain⟨z,y,xs,r,ob,es,ep,e,c⟩:=x;exact⟨z,y,xs,Paired.Je r λp q z=>⟨z.1,ht _ _ z.2.1,z.2.2⟩,ob,es,ep,k _ _ (.inl rfl) e,c⟩
 | set S n=>obtain⟨ob,es,ep,t,e,c⟩:=x;exact⟨ob,es,ep,t,k _ _ (.inl rfl) e,c⟩
 | ins C dx fs =>obtain⟨d,z,ne,e,mA,⟨od,es,ep,e2,c⟩,r⟩:=x;exact⟨ho _ d,z,ne,k _ _ (.inl rfl) e,mA,⟨od,es,ep,k _ _ (.inr d) e2,c⟩,r⟩
 | own y=>obtain⟨ob,e⟩:=x;exact⟨ob,k _ _ (.inl rfl) e⟩
 | xd fs=>obtain⟨mA,⟨od,es,ep,e,c⟩,r⟩:=x;exact⟨mA,⟨od,es,ep,k _ _ (.inl rfl) e,c⟩,r⟩
 | rng lo hi=>obtain⟨t,u,v,e⟩:=x;exact⟨t,u,v,k _ _ (.inl rfl) e⟩
 | iR ob u ih=>obtain⟨e,q⟩:=x;exact⟨k _ _ (.inl rfl) e,ih q⟩
 | tbl ps =>have e:h.get? a=some { cls:=.none,data:=.fields ps }:=x;show h'.get? a=some { cls:=.none,data:=.fields ps };exact k a _ (.inl rfl) e
 | met f y =>have e:h.get? a=some (methodObj (.ref f) (.ref y)):=x;show h'.get? a=some (methodObj (.ref f) (.ref y));exact k a _ (.inl rfl) e
 | ext φ=>obtain⟨p,⟨o,e⟩,st⟩:=x;exact⟨st _ _ p λo q=>k _ _ (.inl rfl) q,⟨o,k _ _ (.inl rfl) e⟩,st⟩
theorem lq.lt(x:lq P w H h)(e:H a=some o):a<h.objs.size:=(x a o e).lt
theorem lq.fresh(x:lq P w H h)(e:h.objs.size<=a):H a=none:=by
 cases q:H a with
 | none=>rfl
 | some u=>exact absurd (lt_of_lt_of_le (x.lt q) e) (lt_irrefl _)
theorem lq.kept(x:lq P w H h)(k:∀b u,h.get? b=some u->h'.get? b=some u):lq P w H h':=λa o e =>
 (x a o e).stay (λb u _ q=>k b u q) (λ_ q=>q) λ_ _ q=>q
theorem lq.laid(x:lq P w H h)(k:∀b u,h.get? b=some u->h'.get? b=some u)(hp:h.objs.size<=a)(new:bE P w (upd H a o) h' a o):lq P w (upd H a o) h':=λb u e=>by
 have hn:=x.fresh hp
 by_cases hb:b=a
 ·subst hb;rw[aO] at e;cases e;exact new
 ·rw[au hb] at e;exact(x b u e).stay (λc v _ q=>k c v q) (λc q=>by rw[au (aI q hn)];exact q) λc xs q=>by rw[au (aI q hn)];exact q
end
noncomputable def Rd(H:Hp)(a:Addr)(u:HO):Prop:=H a=some u\/∃o,H a=some (.iR o u)
theorem Rd.ok(r:Rd H a u)(x:lq P w H h):bE P w H h a u:=by
 rcases r with r|⟨o,r⟩
 ·exact x a u r
 ·obtain⟨_,q⟩:=x a _ r;exact q
noncomputable def M3:Option HO->Prop
 | some (.lst _)=>True
 | some (.dK _)=>True
 | some (.dT _)=>True
 | some (.set _ _)=>True
 | some (.ins _ _ _)=>True
 | some (.ext _)=>True
 | _=>False
section
variable {P:Program} {w:World} {H:Hp} {h h':Heap} {x e:Addr} {o':HO}
theorem lq.write(ok:lq P w H h)(mu:M3 (H x))(he:e=x\/H e=some (.own x))(k:∀b u,b≠e->h.get? b=some u->h'.get? b=some u)(MI:∃u,h'.get? e=some u)
  (new:bE P w (upd H x o') h' x o'):lq P w (upd H x o') h':=λb u q=>by
 have nown:∀c y,H c=some (.own y)->c≠x:=λc y r z=>by subst z;rw[r] at mu;exact mu
 have ntup:∀c xs,H c=some (.tup xs)->c≠x:=λc xs r z=>by subst z;rw[r] at mu;exact mu
 by_cases hb:b=x
 ·subst hb;rw[aO] at q;cases q;exact new
 ·rw[au hb] at q
  by_cases Jf:b=e
  ·have q':H b=some (.own x):=by
    rcases he with z|z
    ·exact absurd (Jf.trans z) hb
    ·rw[Jf];exact z
   rw[q] at q';cases q';obtain⟨v,hv⟩:=MI;exact⟨v,by rw[Jf];exact hv⟩
  ·refine(ok b u q).stay (λc v hc r=>k c v ?_ r) (λc r=>by rw[au (nown c b r)];exact r) λc xs r=>by rw[au (ntup c xs r)];exact r
   rcases hc with rfl|hc
   ·exact Jf
   ·rintro rfl
    rcases he with z|z
    ·exact nown c b hc z
    ·rw[hc] at z;cases z;exact hb rfl
end
structure Un (fs ex:List Addr) (H H':Hp) (h h':Heap):Prop where
 keep:∀b o,h.get? b=some o->H b=none->b∉fs->b∉ex->h'.get? b=some o
 slot:∀b o,h.get? b=some o->H b=none->b∈fs->b∉ex->∃sl,h'.get? b=some { o with slots:=sl }
 free:∀b o,h.get? b=some o->H b=none->b∉ex->H' b=none
 there:∀b o,h.get? b=some o->b∉ex->∃o',h'.get? b=some o'
 tups:∀b xs,H b=some (.tup xs)->H' b=some (.tup xs)
 frzs:∀b o u,H b=some (.iR o u)->H' b=some (.iR o u)
 qZ:∀b ps,H b=some (.tbl ps)->∃more,H' b=some (.tbl (ps++more))
section
variable {fs fs' ex ex':List Addr} {H H1 H2:Hp} {h h1 h2 h':Heap} {a x e:Addr} {o:HO}
theorem Un.any(u:Un fs ex H H1 h h1)(q:h.get? b=some ob)(n:H b=none)(hx:b∉ex):∃sl,h1.get? b=some { ob with slots:=sl }:=by
 by_cases hb:b∈fs
 ·exact u.slot b ob q n hb hx
 ·exact⟨ob.slots,u.keep b ob q n hb hx⟩
theorem Un.kept(k:∀b u,h.get? b=some u->h'.get? b=some u):Un fs ex H H h h' :=
 ⟨λb ob q _ _ _=>k b ob q,λb ob q _ _ _=>⟨ob.slots,k b ob q⟩,λ_ _ _ n _=>n,λb ob q _=>⟨ob,k b ob q⟩,λ_ _ q=>q,λ_ _ _ q=>q,λ_ ps q=>⟨#[],by rw[q];simp⟩⟩
theorem Un.refl:Un fs ex H H h h:=Un.kept λ_ _ q=>q
theorem Un.laid(k:∀b u,h.get? b=some u->h'.get? b=some u)(hp:h.objs.size<=a)(hn:H a=none):Un fs ex H (upd H a o) h h' where
 keep:=λb u q _ _ _=>k b u q
 slot:=λb u q _ _ _=>⟨u.slots,k b u q⟩
 free:=λb u q n _=>by rw[au (ne_of_lt (lt_of_lt_of_le (lt_size q) hp))];exact n
 there:=λb u q _=>⟨u,k b u q⟩
 tups:=λb xs q=>by rw[au (aI q hn)];exact q
 frzs:=λb u xs q=>by rw[au (aI q hn)];exact q
 qZ:=λb ps q=>⟨#[],by rw[au (aI q hn),q];simp⟩
theorem Un.write(mu:M3 (H x))(he:e=x\/H e=some (.own x))(k:∀b u,b≠e->h.get? b=some u->h'.get? b=some u)(MI:∃u,h'.get? e=some u):Un fs ex H (upd H x o) h h':=by
 have hx:∀b,H b=none->b≠x:=λb n z=>by subst z;rw[n] at mu;exact mu
 have hb:∀b,H b=none->b≠e:=λb n z=>by
  subst z
  rcases he with r|r
  ·exact hx b n r
  ·rw[n] at r;cases r
 have hm:∀b u,H b=some u->¬ M3 (some u)->b≠x:=λb u q nm z=>by subst z;rw[q] at mu;exact nm mu
 refine⟨λb u q n _ _=>k b u (hb b n) q,λb u q n _ _=>⟨u.slots,k b u (hb b n) q⟩,λb u q n _=>by rw[au (hx b n)];exact n,λb u q _=>?_,
  λb xs q=>by rw[au (hm b _ q λz=>z)];exact q,λb u xs q=>by rw[au (hm b _ q λz=>z)];exact q,λb ps q=>⟨#[],by rw[au (hm b _ q λz=>z),q];simp⟩⟩
 by_cases Jf:b=e
 ·subst Jf;exact MI
 ·exact⟨u,k b u Jf q⟩
end
noncomputable def rj(h:Heap)(H:Hp):List Addr:=(List.range h.objs.size).filter λa=>(H a).isSome
noncomputable def tE(h:Heap)(H:Hp):Heap:=PySem.W.hideAll h (rj h H)
theorem z8(h:Heap)(H:Hp):(tE h H).objs.size=h.objs.size:=PySem.W.hideAll_size _ _
theorem BB(e:h.get? b=some o)(n:H b=none):(tE h H).get? b=some o :=
 PySem.W.hideAll_get _ e λhm=>by
  have q:(H b).isSome=true:=(mem_filter.mp hm).2;rw[n] at q;simp at q
theorem EM(e:(tE h H).get? b=some o):h.get? b=some o/\H b=none:=by
 have e':h.get? b=some o:=PySem.W.of_hideAll (rj h H) e;refine⟨e',?_⟩;cases q:H b with
 | none=>rfl
 | some x =>have hm:b∈rj h H:=mem_filter.mpr ⟨List.mem_range.mpr (lt_size e'),by simp[q]⟩;have z:(tE h H).get? b=none:=PySem.W.hideAll_none (rj h H) hm;rw[z] at e;cases e
noncomputable def EO(g h:Heap)(L:Addr):List (Addr×Obj):=(List.range h.objs.size).filterMap λa=>if a=L\/(g.get? a).isSome=true then none else (h.get? a).map λo=>(a,o)
noncomputable def rest(g h:Heap)(L d:Addr):List (Addr×Obj):=(EO g h L).filter λp=>decide (p.1≠d)
end L2
namespace L2
open PySem PySem.Spec PyProof.Rows
structure Mod (K:PySem.W.Frag) (mg:Str->Option Value) (base:Heap):Prop where
 MJ:K.In base
 glob:base.Ns mainGlobals mg
 blt:∃mb,base.Ns builtinsNs mb/\∀x:Str,x ≠ "__name__" -> mb x=bootBuiltins x
 nolimit:base.NoLimit
structure Cx where
 prog:Program
 w:World
 K:PySem.W.Frag
 mg:Str->Option Value
 base:Heap
 A:Around
 N:List Str
 s₀:Shared
 H₀:Hp
 env:Env
 outer:List Env
 stack:List Env
 ex:List Addr
 fn:Str->Bool
 calm:Bool
 pn:List (Addr×Obj)
 xe:Value->Shared->Prop
noncomputable def frs(l:List Env):List Addr:=l.filterMap (·.frame)
noncomputable abbrev Cx.fs(X:Cx):List Addr:=frs X.outer
noncomputable def M4(sc:Scope)(x:Str):Prop:=sc.names.lookup x=some .local\/sc.names.lookup x=some .cell\/sc.names.lookup x=some .free
noncomputable def Loc(sc:Scope)(x:Str):Prop:=sc.names.lookup x=some .local\/sc.names.lookup x=some .cell
noncomputable def Look(env:Env)(h:Heap)(m:Str->Option Value)(x:Str)(u:Value):Prop :=
 (env.kindOf x=some .local/\m x=some u)\/((env.kindOf x=some .cell\/env.kindOf x=some .free)/\∃c,env.cells.lookup x=some c/\h.IsCell c (some u))
structure Cx.Ok (X:Cx):Prop where
 mod:Mod X.K X.mg X.base
 kind:X.env.scope.kind=.function
 glob:X.env.globals=mainGlobals
 blt:X.env.builtins=builtinsNs
 above:X.s₀.heap.objs.size<=X.env.locals
 inj:∀x y c,X.env.cells.lookup x=some c->X.env.cells.lookup y=some c->x=y
 has:∀x,(X.env.kindOf x=some .cell\/X.env.kindOf x=some .free)->∃c,X.env.cells.lookup x=some c
 M5:∀x c,X.fn x=true->X.env.cells.lookup x=some c->X.s₀.heap.objs.size<=c
 hd:X.calm=true->X.A.handled=none
 frames:X.A.frames=some X.stack
 stk:X.stack=X.outer\/(X.stack=X.env::X.outer/\X.env.frame=some X.env.locals)
 Ro:∀b∈X.ex,b≠X.env.locals/\∀x c,X.env.cells.lookup x=some c->c≠b
 bs:∀b o,X.base.get? b=some o->X.s₀.heap.get? b=some o/\X.H₀ b=none
 HY:X.base.objs.size<=X.s₀.heap.objs.size
 lu:∀b o,X.base.get? b=some o->b∉X.ex
 BC:∀b∈X.ex,b∉X.fs
 oq:X.s₀.heap.FunFrames X.base X.outer
 Jg:∀b∈X.fs,X.H₀ b=none
structure Inv (X:Cx) (pins:List (Addr×Obj)) (σ:List (Option V)) (H:Hp) (s:Shared):Prop where
 ok:X.Ok
 os:s.os=X.s₀.os
 bare:AllBare s.gens
 base:Un X.fs X.ex X.H₀ H X.s₀.heap s.heap
 loc:∃m,s.heap.Ns X.env.locals m/\∀(i:Nat) (x:Str) (v:V),X.N[i]?=some x -> σ[i]?=some (some v)->M4 X.env.scope x->∃u,RelV v u/\Look X.env s.heap m x u
 cell:∀x c,X.env.cells.lookup x=some c->∃v,s.heap.IsCell c v
 free:H X.env.locals=none
 gX:∀x c,X.env.cells.lookup x=some c->H c=none
 pin:∀p∈X.pn++pins,s.heap.get? p.1=some p.2/\H p.1=none/\p.1≠X.env.locals/\p.1∉X.fs/\∀v,p.2.data≠.cell v
 hok:lq X.prog X.w H s.heap
 len:σ.length=X.N.length
section
variable {X:Cx} {pins:List (Addr×Obj)} {σ:List (Option V)} {H H':Hp} {s:Shared} {h':Heap}
theorem Cx.Ok.Rp(ok:X.Ok)(e:X.base.get? b=some o):b∉X.fs:=λhb=>by
 have:=(ok.oq.mem hb).1;rw[e] at this;cases this
theorem Inv.bs(I:Inv X pins σ H s):∀b o,X.base.get? b=some o->s.heap.get? b=some o/\H b=none:=λb o e =>
 ⟨I.base.keep b o (I.ok.bs b o e).1 (I.ok.bs b o e).2 (I.ok.Rp e) (I.ok.lu b o e),I.base.free b o (I.ok.bs b o e).1 (I.ok.bs b o e).2 (I.ok.lu b o e)⟩
theorem Inv.bk(I:Inv X pins σ H s):∀b o,X.base.get? b=some o->s.heap.get? b=some o:=λb o e=>(I.bs b o e).1
theorem Inv.mod(I:Inv X pins σ H s):Mod X.K X.mg X.base:=I.ok.mod
theorem Inv.jI(I:Inv X pins σ H s):X.K.In s.heap:=I.ok.mod.MJ.keeps I.bk
theorem Inv.lt(I:Inv X pins σ H s):X.env.locals<s.heap.objs.size:=let ⟨_,hn,_⟩:=I.loc;hn.lt
theorem Inv.sz(I:Inv X pins σ H s):X.s₀.heap.objs.size<=s.heap.objs.size:=le_trans I.ok.above (le_of_lt I.lt)
theorem Inv.Rq(I:Inv X pins σ H s)(h:s.heap.objs.size<=a):a∉X.fs:=λhb=>by
 obtain⟨_,o,ho,_⟩:=I.ok.oq.mem hb;exact absurd (lt_of_lt_of_le (lt_size ho) (le_trans I.sz h)) (lt_irrefl _)
theorem Inv.cne(I:Inv X pins σ H s):∀x c,X.env.cells.lookup x=some c->c≠X.env.locals:=λx c e z=>by
 obtain⟨v,o,ho,hd⟩:=I.cell x c e;obtain⟨m,⟨o',es,ep,ho',hd',_⟩,_⟩:=I.loc;rw[z,ho'] at ho;cases ho;rw[hd'] at hd;cases hd
theorem Inv.oq(I:Inv X pins σ H s):s.heap.FunFrames X.base X.outer:=by
 have all:∀(l:List Env),(∀b∈frs l,b∈X.fs)->X.s₀.heap.FunFrames X.base l->s.heap.FunFrames X.base l:=by
  intro l
  induction l with
  | nil=>intro _ _;trivial
  | cons env r ih =>intro hs hl;obtain⟨hk,⟨L,o,hf,hn,ho,hd⟩,hr⟩:=hl;have hL:L∈X.fs:=hs L (by unfold frs;rw[List.filterMap_cons,hf];exact mem_cons_self);obtain⟨sl,e⟩:=I.base.slot L o ho (I.ok.Jg L hL) hL λz=>I.ok.BC L z hL;exact⟨hk,⟨L,_,hf,hn,e,hd⟩,ih (λb hb=>hs b (by unfold frs;rw[List.filterMap_cons,hf];exact mem_cons_of_mem _ hb)) hr⟩
 exact all X.outer (λ_ hb=>hb) I.ok.oq
theorem Inv.stack(I:Inv X pins σ H s):s.heap.FunFrames X.base X.stack:=by
 rcases I.ok.stk with e|⟨e,hf⟩
 ·rw[e];exact I.oq
 ·rw[e];obtain⟨m,hn,_⟩:=I.loc;refine .cons (by rw[I.ok.kind];decide) hf hn ?_ I.oq;exact Heap.get?_none_of_le (le_trans I.ok.HY I.ok.above)
theorem Inv.xw(I:Inv X pins σ H s):∀b∈frs X.stack,b∈X.env.locals::X.fs:=λb hb=>by
 rcases I.ok.stk with e|⟨e,hf⟩
 ·rw[e] at hb;exact mem_cons_of_mem _ hb
 ·rw[e] at hb;unfold frs at hb;rw[List.filterMap_cons,hf] at hb;exact hb
theorem Inv.yM(I:Inv X pins σ H s):∀b∈frs X.stack,H b=none:=λb hb=>by
 rcases mem_cons.mp (I.xw b hb) with e|hb
 ·rw[e];exact I.free
 ·obtain⟨_,o,ho,_⟩:=I.ok.oq.mem hb;exact I.base.free b o ho (I.ok.Jg b hb) λz=>I.ok.BC b z hb
theorem Inv.step{g':Array GenState}{t':Nat}{d':Drawn}{ch:List Addr}(I:Inv X pins σ H s)
  (hch:∀b∈ch,(b∈X.ex\/X.s₀.heap.objs.size<=b)/\b≠X.env.locals/\(∀x c,X.env.cells.lookup x=some c->c≠b)/\∀p∈X.pn++pins,p.1≠b)
  (keep:∀b o,b≠X.env.locals->b∉X.fs->b∉ch->s.heap.get? b=some o->H b=none->h'.get? b=some o)
  (slot:∀b o,b≠X.env.locals->b∈X.fs->b∉ch->s.heap.get? b=some o->H b=none->∃sl,h'.get? b=some { o with slots:=sl }) (free:∀b o,b∉ch->s.heap.get? b=some o->H b=none->H' b=none)
  (there:∀b o,b∉ch->s.heap.get? b=some o->∃o',h'.get? b=some o')
  (tups:∀b xs,H b=some (.tup xs)->H' b=some (.tup xs)) (frzs:∀b o u,H b=some (.iR o u)->H' b=some (.iR o u)) (qZ:∀b ps,H b=some (.tbl ps)->∃more,H' b=some (.tbl (ps++more)))
  (ns:∀m,s.heap.Ns X.env.locals m->h'.Ns X.env.locals m) (hok:lq X.prog X.w H' h') (hg:AllBare g') :
  Inv X pins σ H' { s with heap:=h',gens:=g',drawn:=d',toks:=t' }:=by
 have neL:∀b o,X.s₀.heap.get? b=some o->b≠X.env.locals:=λb o e=>ne_of_lt (lt_of_lt_of_le (lt_size e) I.ok.above);have neC:∀b o,X.s₀.heap.get? b=some o->b∉X.ex->b∉ch:=λb o e hx hb=>by
  rcases(hch b hb).1 with z|z
  ·exact hx z
  ·exact absurd (lt_of_lt_of_le (lt_size e) z) (lt_irrefl _)
 have cellK:∀x c,X.env.cells.lookup x=some c->∀v,s.heap.IsCell c v->h'.IsCell c v:=λx c e v ⟨o,ho,hd⟩=>by
  have M6:c∉ch:=λz=>(hch c z).2.2.1 x c e rfl
  by_cases hc:c∈X.fs
  ·obtain⟨sl,q⟩:=slot c o (I.cne x c e) hc M6 ho (I.gX x c e);exact⟨_,q,hd⟩
  ·exact⟨o,keep c o (I.cne x c e) hc M6 ho (I.gX x c e),hd⟩
 refine⟨I.ok,I.os,hg,⟨λb o e n hb hx=>?_,λb o e n hb hx=>?_,λb o e n hx=>?_,λb o e hx=>?_,λb xs e=>tups b xs (I.base.tups b xs e),λb o xs e=>frzs b o xs (I.base.frzs b o xs e),λb ps e=>?_⟩,?_,λx c e=>?_,?_,λx c e=>?_,λp hp=>?_,hok,I.len⟩
 ·exact keep b o (neL b o e) hb (neC b o e hx) (I.base.keep b o e n hb hx) (I.base.free b o e n hx)
 ·obtain⟨sl,e1⟩:=I.base.slot b o e n hb hx;obtain⟨XH,e2⟩:=slot b _ (neL b o e) hb (neC b o e hx) e1 (I.base.free b o e n hx);exact⟨XH,e2⟩
 ·obtain⟨o',e1⟩:=I.base.there b o e hx;exact free b o' (neC b o e hx) e1 (I.base.free b o e n hx)
 ·obtain⟨o',e1⟩:=I.base.there b o e hx;exact there b o' (neC b o e hx) e1
 ·obtain⟨m1,e1⟩:=I.base.qZ b ps e;obtain⟨m2,e2⟩:=qZ b _ e1;exact⟨m1++m2,by rw[e2,Array.append_assoc]⟩
 ·obtain⟨m,hn,hl⟩:=I.loc
  refine⟨m,ns m hn,λi x v e1 e2 e3=>?_⟩;obtain⟨u,r,l⟩:=hl i x v e1 e2 e3;refine⟨u,r,?_⟩
  rcases l with l|⟨k,c,e,z⟩
  ·exact .inl l
  ·exact .inr ⟨k,c,e,cellK x c e _ z⟩
 ·obtain⟨v,z⟩:=I.cell x c e;exact⟨v,cellK x c e v z⟩
 ·obtain⟨m,⟨o,_,_,ho,_⟩,_⟩:=I.loc;exact free _ o (λz=>(hch _ z).2.1 rfl) ho I.free
 ·obtain⟨v,o,ho,hd⟩:=I.cell x c e;exact free c o (λz=>(hch c z).2.2.1 x c e rfl) ho (I.gX x c e)
 ·obtain⟨e,n,ne,nf,d⟩:=I.pin p hp;have M6:p.1∉ch:=λz=>(hch p.1 z).2.2.2 p hp rfl;exact⟨keep p.1 p.2 ne nf M6 e n,free p.1 p.2 M6 e n,ne,nf,d⟩
theorem Inv.un{t':Nat}(I:Inv X pins σ H s)(u:Un X.fs [] H H' s.heap h')(hok:lq X.prog X.w H' h'):Inv X pins σ H' { s with heap:=h',toks:=t' }:=by
 obtain⟨m,⟨o,es,ep,ho,r⟩,_⟩:=id I.loc;obtain⟨sl,hL⟩:=u.any ho I.free (by simp);exact I.step (g':=s.gens) (d':=s.drawn) (ch:=[]) (λ_ z=>nomatch z) (λb o _ hb _ e n=>u.keep b o e n hb (by simp)) (λb o _ hb _ e n=>u.slot b o e n hb (by simp)) (λb o _ e n=>u.free b o e n (by simp)) (λb o _ e=>u.there b o e (by simp)) u.tups u.frzs u.qZ (λm' hm=>by
  obtain⟨o',es',Rt,ho',r'⟩:=hm;rw[ho] at ho';cases ho';exact⟨_,es',Rt,hL,r'⟩) hok I.bare
theorem Inv.call{t':Nat}(I:Inv X pins σ H s)(u:Un (frs X.stack) ch H H' s.heap h')(hok:lq X.prog X.w H' h')(hg:AllBare g')
  (hch:∀b∈ch,(b∈X.ex\/X.s₀.heap.objs.size<=b)/\b≠X.env.locals/\(∀x c,X.env.cells.lookup x=some c->c≠b)/\∀p∈X.pn++pins,p.1≠b) :
  Inv X pins σ H' { s with heap:=h',gens:=g',drawn:=d',toks:=t' }:=by
 obtain⟨m,⟨o,es,ep,ho,r⟩,_⟩:=id I.loc;obtain⟨sl,hL⟩:=u.any ho I.free λz=>(hch _ z).2.1 rfl;exact I.step (ch:=ch) hch (λb o hL hb hc e n=>u.keep b o e n (λz=>(mem_cons.mp (I.xw b z)).elim hL hb) hc) (λb o _ _ hc e n=>u.any e n hc) (λb o hc e n=>u.free b o e n hc) (λb o hc e=>u.there b o e hc) u.tups u.frzs u.qZ (λm' hm=>by
  obtain⟨o',es',Rt,ho',r'⟩:=hm;rw[ho] at ho';cases ho';exact⟨_,es',Rt,hL,r'⟩) hok hg
theorem Inv.turned{t':Nat}(I:Inv X pins σ H s)(k:∀b o,b≠it->s.heap.get? b=some o->h'.get? b=some o)(hn:H it=none)(hL:it≠X.env.locals)
  (h1:it∈X.ex\/X.s₀.heap.objs.size<=it) (h2:∀x c,X.env.cells.lookup x=some c->c≠it) (h3:∀p∈X.pn++pins,p.1≠it):Inv X pins σ H { s with heap:=h',toks:=t' }:=by
 have M7:∀b u,H b=some u->b≠it:=λb u e z=>by rw[z,hn] at e;cases e
 refine I.step (g':=s.gens) (d':=s.drawn) (ch:=[it]) (λb hb=>?_) (λb o _ _ hc e _=>k b o (λz=>hc (by simp[z])) e) (λb o _ _ hc e _=>⟨o.slots,k b o (λz=>hc (by simp[z])) e⟩) (λ_ _ _ _ n=>n)
  (λb o hc e=>⟨o,k b o (λz=>hc (by simp[z])) e⟩) (λ_ _ e=>e) (λ_ _ _ e=>e) (λb ps e=>⟨#[],by rw[e];simp⟩) (λm hm=>?_) (λb u e=>?_) I.bare
 ·have e:b=it:=by simpa using hb
  subst e;exact⟨h1,hL,h2,h3⟩
 ·obtain⟨o,es,ep,ho,r⟩:=hm;exact⟨o,es,ep,k _ o (Ne.symm hL) ho,r⟩
 ·refine(I.hok b u e).stay (λc v hc q=>k c v ?_ q) (λ_ q=>q) λ_ _ q=>q
  rcases hc with z|z
  ·rw[z];exact M7 b u e
  ·exact M7 c _ z
theorem Inv.tok(I:Inv X pins σ H s)(t:Nat):Inv X pins σ H { s with toks:=t }:=I.un (h':=s.heap) (t':=t) Un.refl I.hok
theorem Inv.kept{t':Nat}(I:Inv X pins σ H s)(k:∀b u,s.heap.get? b=some u->h'.get? b=some u):Inv X pins σ H { s with heap:=h',toks:=t' }:=I.un (Un.kept k) (I.hok.kept k)
theorem Inv.laid{t':Nat}(I:Inv X pins σ H s)(k:∀b u,s.heap.get? b=some u->h'.get? b=some u)(hp:s.heap.objs.size<=a)(new:bE X.prog X.w (upd H a o) h' a o) :
  Inv X pins σ (upd H a o) { s with heap:=h',toks:=t' }:=I.un (Un.laid k hp (I.hok.fresh hp)) (I.hok.laid k hp new)
theorem Inv.write{t':Nat}(I:Inv X pins σ H s)(mu:M3 (H x))(he:e=x\/H e=some (.own x))(k:∀b u,b≠e->s.heap.get? b=some u->h'.get? b=some u)(MI:∃u,h'.get? e=some u)
  (new:bE X.prog X.w (upd H x o) h' x o):Inv X pins σ (upd H x o) { s with heap:=h',toks:=t' }:=I.un (Un.write mu he k MI) (I.hok.write mu he k MI new)
theorem Inv.yN(I:Inv X pins σ H s)(h:∀p∈M8,s.heap.get? p.1=some p.2/\H p.1=none/\p.1≠X.env.locals/\p.1∉X.fs/\∀v,p.2.data≠.cell v):Inv X M8 σ H s :=
 ⟨I.ok,I.os,I.bare,I.base,I.loc,I.cell,I.free,I.gX,λp hp=>(mem_append.mp hp).elim (λz=>I.pin p (mem_append_left _ z)) (h p),I.hok,I.len⟩
theorem uT{N:List Str}(hN:N.Nodup){i j:Nat}{x:Str}(a:N[i]?=some x)(b:N[j]?=some x):i=j:=by
 obtain⟨h1,e1⟩:=List.getElem?_eq_some_iff.mp a;obtain⟨h2,e2⟩:=List.getElem?_eq_some_iff.mp b;exact(List.getElem_inj hN).mp (e1.trans e2.symm)
theorem rP{i:Nat}(I:Inv X pins σ H s)(hN:X.N.Nodup)(hi:X.N[i]?=some x)(hx:Loc X.env.scope x)(r:RelV v u)
  (h:∀s',Inv X pins (σ.set i (some v)) H s'->(∃a,Heap.SameBut a s.heap s'.heap/\(a=X.env.locals\/X.env.cells.lookup x=some a))->Q () s') (hf:X.fn x=true\/X.env.scope.names.lookup x=some .local:=by first|exact .inl rfl|exact .inr rfl|assumption):wpAny M A (storeName X.env x u) Q E s:=by
 obtain⟨m,hn,hl⟩:=id I.loc;have hcls:(X.env.scope.kind==.class||(X.env.scope.kind==.module&&X.env.locals != X.env.globals))=false:=by rw[I.ok.kind];rfl
 have V3:i < σ.length:=by rw[I.len];exact(List.getElem?_eq_some_iff.mp hi).1
 have cne:=I.cne;have tracked:∀{a:Addr} {h':Heap},(∃o,s.heap.get? a=some o/\H a=none)->Heap.SameBut a s.heap h'->lq X.prog X.w H h':=λ{a h'} ha hs b ob e=>by
  obtain⟨_,_,hfree⟩:=ha;refine(I.hok b ob e).stay (λc w' hc q=>(hs.2 c ?_).trans q) (λ_ q=>q) λ_ _ q=>q;rintro rfl
  rcases hc with rfl|hc
  ·rw[hfree] at e;cases e
  ·rw[hfree] at hc;cases hc
 rcases hx with hk|hk
 ·refine wpAny_storeName_local hk hn (λh' hn' hs=>?_) hcls
  obtain⟨oL,_,_,XI,_⟩:=id hn;refine h _ ⟨I.ok,I.os,I.bare,⟨λb o e n hb hx=>?_,λb o e n hb hx=>?_,I.base.free,λb o e hx=>?_,I.base.tups,I.base.frzs,I.base.qZ⟩,⟨_,hn',λj y v' e1 e2 e3=>?_⟩,λy c e=>?_,I.free,I.gX,λp hp=>?_,tracked ⟨oL,XI,I.free⟩ hs,by simpa using I.len⟩ ⟨_,hs,.inl rfl⟩
  ·exact(hs.2 b (ne_of_lt (lt_of_lt_of_le (lt_size e) I.ok.above))).trans (I.base.keep b o e n hb hx)
  ·obtain⟨sl,e1⟩:=I.base.slot b o e n hb hx;exact⟨sl,(hs.2 b (ne_of_lt (lt_of_lt_of_le (lt_size e) I.ok.above))).trans e1⟩
  ·obtain⟨o',e1⟩:=I.base.there b o e hx;exact⟨o',(hs.2 b (ne_of_lt (lt_of_lt_of_le (lt_size e) I.ok.above))).trans e1⟩
  ·by_cases hj:j=i
   ·subst hj;rw[hi] at e1;cases e1;rw[getElem?_set_self V3] at e2;cases e2;exact⟨u,r,.inl ⟨hk,by simp⟩⟩
   ·rw[getElem?_set_ne (Ne.symm hj)] at e2
    obtain⟨u',r',q⟩:=hl j y v' e1 e2 e3;refine⟨u',r',?_⟩
    rcases q with ⟨k,e⟩|⟨k,c,e,z⟩
    ·refine .inl ⟨k,?_⟩;have:y≠x:=λe=>hj (uT hN e1 (e▸hi));simp[this,e]
    ·exact .inr ⟨k,c,e,z.sameBut hs (cne y c e)⟩
  ·obtain⟨w',z⟩:=I.cell y c e;exact⟨w',z.sameBut hs (cne y c e)⟩
  ·obtain⟨e,n,ne,nf,d⟩:=I.pin p hp;exact⟨(hs.2 p.1 ne).trans e,n,ne,nf,d⟩
 ·have hfn:X.fn x=true:=by
   rcases hf with z|z
   ·exact z
   ·rw[z] at hk;cases hk
  obtain⟨c,hc⟩:=I.ok.has x (.inl hk);obtain⟨w',z⟩:=I.cell x c hc;refine wpAny_storeName_cell I.ok.kind hk hc z (λh' hc' hs=>?_);obtain⟨oc,hoc,BD⟩:=id z;refine h { s with heap:=h' } ⟨I.ok,I.os,I.bare,⟨λb o e n hb hx=>?_,λb o e n hb hx=>?_,I.base.free,λb o e hx=>?_,I.base.tups,I.base.frzs,I.base.qZ⟩,⟨m,hn.sameBut hs (Ne.symm (cne x c hc)),λj y v' e1 e2 e3=>?_⟩,λy c' e=>?_,I.free,I.gX,λp hp=>?_,tracked ⟨oc,hoc,I.gX x c hc⟩ hs,by simpa using I.len⟩ ⟨c,hs,.inr hc⟩
  ·exact(hs.2 b (ne_of_lt (lt_of_lt_of_le (lt_size e) (I.ok.M5 x c hfn hc)))).trans (I.base.keep b o e n hb hx)
  ·obtain⟨sl,e1⟩:=I.base.slot b o e n hb hx;exact⟨sl,(hs.2 b (ne_of_lt (lt_of_lt_of_le (lt_size e) (I.ok.M5 x c hfn hc)))).trans e1⟩
  ·obtain⟨o',e1⟩:=I.base.there b o e hx;exact⟨o',(hs.2 b (ne_of_lt (lt_of_lt_of_le (lt_size e) (I.ok.M5 x c hfn hc)))).trans e1⟩
  ·by_cases hj:j=i
   ·subst hj;rw[hi] at e1;cases e1;rw[getElem?_set_self V3] at e2;cases e2;exact⟨u,r,.inr ⟨.inl hk,c,hc,hc'⟩⟩
   ·rw[getElem?_set_ne (Ne.symm hj)] at e2
    obtain⟨u',r',q⟩:=hl j y v' e1 e2 e3;refine⟨u',r',?_⟩
    rcases q with q|⟨k,c',e,z'⟩
    ·exact .inl q
    ·refine .inr ⟨k,c',e,z'.sameBut hs ?_⟩;rintro rfl;exact hj (uT hN e1 (I.ok.inj _ _ _ e hc▸hi))
  ·by_cases hcc:c'=c
   ·subst hcc;exact⟨_,hc'⟩
   ·obtain⟨w2,z2⟩:=I.cell y c' e;exact⟨w2,z2.sameBut hs hcc⟩
  ·obtain⟨e,n,ne,nf,d⟩:=I.pin p hp;refine⟨(hs.2 p.1 ?_).trans e,n,ne,nf,d⟩;intro q;rw[q,hoc] at e;have q':oc=p.2:=Option.some.inj e;exact d w' (by rw[<-q'];exact BD)
theorem o7{i:Nat}(I:Inv X pins σ H s)(hN:X.N.Nodup)(hi:X.N[i]?=some x)(hx:Loc X.env.scope x)(r:RelV v u)
  (h:∀s',Inv X pins (σ.set i (some v)) H s'->Q () s') (hf:X.fn x=true\/X.env.scope.names.lookup x=some .local:=by first|exact .inl rfl|exact .inr rfl|assumption):wpAny M A (storeName X.env x u) Q E s :=
 rP I hN hi hx r (λs' I' _=>h s' I') hf
theorem Inv.M9(I:Inv X pins σ H s)(ho:s'.os=s.os)(u:Un (frs X.stack) ch H H' s.heap s'.heap)(hok:lq X.prog X.w H' s'.heap)(hg:AllBare s'.gens)
  (hch:∀b∈ch,(b∈X.ex\/X.s₀.heap.objs.size<=b)/\b≠X.env.locals/\(∀x c,X.env.cells.lookup x=some c->c≠b)/\∀p∈X.pn++pins,p.1≠b):Inv X pins σ H' s':=by
 obtain⟨h',g',d',t',o'⟩:=s';have e:o'=s.os:=ho;subst e;exact I.call (g':=g') (t':=t') (d':=d') u hok hg hch
end
noncomputable abbrev XK:=Value->Option Addr->Hp->Prop
noncomputable abbrev St:=List (Option V)
noncomputable abbrev VK:=V->Hp->Prop
noncomputable abbrev TE:=St->Hp->VK->Prop
noncomputable abbrev TT:=St->Hp->(Bool->Hp->Prop)->Prop
noncomputable abbrev TA:=St->Hp->(List V->Hp->Prop)->Prop
structure Ends where
 nx:St->Hp->Prop
 rt:VK
 bk:St->Hp->Prop:=λ_ _=>False
 ct:St->Hp->Prop:=λ_ _=>False
noncomputable abbrev TS:=Ends->St->Hp->Prop
noncomputable def EP(X:Cx)(pins:List (Addr×Obj))(σ:St)(Q:VK)(u:Value)(s':Shared):Prop:=∃v H',Inv X pins σ H' s'/\RelV v u/\Q v H'
noncomputable def TP(X:Cx)(pins:List (Addr×Obj))(σ:St)(Q:Bool->Hp->Prop)(b:Bool)(s':Shared):Prop:=∃H',Inv X pins σ H' s'/\Q b H'
noncomputable def AP(X:Cx)(pins:List (Addr×Obj))(σ:St)(Q:List V->Hp->Prop)(us:List Value)(s':Shared):Prop:=∃vs H',Inv X pins σ H' s'/\Vals vs us/\Q vs H'
noncomputable def SP(X:Cx)(pins:List (Addr×Obj))(D:Ends)(f:Flow)(s':Shared):Prop :=
 match f with
 | .next=>∃σ' H',Inv X pins σ' H' s'/\D.nx σ' H'
 | .brk=>∃σ' H',Inv X pins σ' H' s'/\D.bk σ' H'
 | .cont=>∃σ' H',Inv X pins σ' H' s'/\D.ct σ' H'
 | .ret u=>∃v σ' H',Inv X pins σ' H' s'/\RelV v u/\D.rt v H'
noncomputable def PE(X:Cx)(e:Expr)(t:TE):Prop :=
 ∀(pins:List (Addr×Obj)) (s:Shared) (σ:St) (H:Hp) (Q:VK),Inv X pins σ H s->t σ H Q->wpAny (model X.prog X.w) X.A (eval e X.env) (EP X pins σ Q) X.xe s
noncomputable def PT(X:Cx)(e:Expr)(t:TT):Prop :=
 ∀(pins:List (Addr×Obj)) (s:Shared) (σ:St) (H:Hp) (Q:Bool->Hp->Prop),Inv X pins σ H s->t σ H Q->wpAny (model X.prog X.w) X.A (isTrue e X.env (eval e X.env)) (TP X pins σ Q) X.xe s
noncomputable def PW(X:Cx)(e:Expr)(t:TT):Prop :=
 ∀(whole:Sem Value) (pins:List (Addr×Obj)) (s:Shared) (σ:St) (H:Hp) (Q:Bool->Hp->Prop),Inv X pins σ H s->t σ H Q->wpAny (model X.prog X.w) X.A (isTrue e X.env whole) (TP X pins σ Q) X.xe s
theorem PW.pt(h:PW X e t):PT X e t:=h _
noncomputable def PA(X:Cx)(es:List Expr)(t:TA):Prop :=
 ∀(pos:Pos) (pins:List (Addr×Obj)) (s:Shared) (σ:St) (H:Hp) (Q:List V->Hp->Prop),Inv X pins σ H s->t σ H Q->wpAny (model X.prog X.w) X.A (spliced (backTo pos (starEach es X.env))) (AP X pins σ Q) X.xe s
noncomputable def PS(X:Cx)(st:Stmt)(t:TS):Prop :=
 ∀(pins:List (Addr×Obj)) (s:Shared) (σ:St) (H:Hp) (D:Ends),Inv X pins σ H s->t D σ H->wpAny (model X.prog X.w) X.A (exec st X.env) (SP X pins D) X.xe s
noncomputable def xy(X:Cx)(st:List Stmt)(t:TS):Prop :=
 ∀(pins:List (Addr×Obj)) (s:Shared) (σ:St) (H:Hp) (D:Ends),Inv X pins σ H s->t D σ H->wpAny (model X.prog X.w) X.A (execs st X.env) (SP X pins D) X.xe s
theorem cC{α:Type}{t:Sem α}{Q Q':α -> Shared->Prop}(h:wpAny M A t Q E s)(hQ:∀a s,Q a s->Q' a s):wpAny M A t Q' E s:=wpAny_mono h hQ λ_ _ x=>x
end L2
namespace L2
open PySem PySem.Spec PyProof.Rows
section
variable {X:Cx}
theorem bin{a b:Expr}{ta tb:TE}(ha:PE X a ta)(hb:PE X b tb){pins:List (Addr×Obj)}{s:Shared}{σ:St}{H:Hp}{R:V->V->Hp->Prop}(I:Inv X pins σ H s)(h:ta σ H λx H1=>tb σ H1 λy H2=>R x y H2)
  {α:Type} {Q:α -> Shared->Prop} {f:Value->Value->Sem α}
  (hf:∀v u s2 x y H2,Inv X pins σ H2 s2->RelV x v->RelV y u->R x y H2->wpAny (model X.prog X.w) X.A (f v u) Q X.xe s2) :
  wpAny (model X.prog X.w) X.A (eval a X.env) (λv s₁=>wpAny (model X.prog X.w) X.A (eval b X.env) (λu s₂=>wpAny (model X.prog X.w) X.A (f v u) Q X.xe s₂) X.xe s₁) X.xe s:=by
 refine cC (ha pins s σ H _ I h) λv s1 aF=>?_;obtain⟨x,H1,I1,r1,q1⟩:=aF;refine cC (hb pins s1 σ H1 _ I1 q1) λu s2 aF=>?_;obtain⟨y,H2,I2,r2,q2⟩:=aF;exact hf v u s2 x y H2 I2 r1 r2 q2
noncomputable def rm(i:Nat):TE:=λσ H Q=>∃v,σ[i]?=some (some v)/\Q v H
noncomputable def tC(v:V):TE:=λ_ H Q=>Q v H
theorem xA{i:Nat}(hN:X.N[i]?=some x)(hv:M4 X.env.scope x)(hd:(x==("__debug__":Str))=false:=by decide)(hcd:(x==("__classdict__":Str))=false:=by decide):PE X (.Name x pos) (rm i):=by
 intro pins s σ H Q I h;obtain⟨v,e,h⟩:=h;obtain⟨m,hn,hl⟩:=I.loc;obtain⟨u,r,l⟩:=hl i x v hN e hv;have fin:EP X pins σ Q u s:=⟨v,H,I,r,h⟩
 rcases l with ⟨hk,hm⟩|⟨hk,c,hc,hcell⟩
 ·exact wpAny_Name (wpAny_loadName_local I.ok.kind hk hn hm fin) hd
 ·rcases hk with hk|hk
  ·exact wpAny_Name (wpAny_loadName_cell I.ok.kind hk hc hcell fin) hd
  ·exact wpAny_Name (wpAny_loadName_free I.ok.kind hk hc hcell fin hcd) hd
theorem Jh{i j pos}:PE X (.Constant (.int i) j pos) (tC (.int i)):=λ_ _ _ H _ I h=>wpAny_Constant_int ⟨.int i,H,I.tok _,⟨_,rfl⟩,h⟩
theorem Na{b j pos}:PE X (.Constant (.bool b) j pos) (tC (.bl b)):=λ_ _ _ H _ I h=>Constant_bool ⟨.bl b,H,I,rfl,h⟩
theorem Ji{j pos}:PE X (.Constant .none j pos) (tC .non):=λ_ _ _ H _ I h=>Constant_none ⟨.non,H,I,rfl,h⟩
theorem Jj{x j pos}:PE X (.Constant (.str x) j pos) (tC (.str x)):=λ_ _ _ H _ I h=>Calls.Constant_str ⟨.str x,H,I.tok _,⟨_,rfl⟩,h⟩
noncomputable def Gl(X:Cx)(x:Str):Prop:=X.env.kindOf x=some .globalImplicit
theorem kG(I:Inv X pins σ H s)(hg:Gl X x)(hm:X.mg x=some u)(h:Q u s)
  (hd:(x==("__debug__":Str))=false:=by decide):wpAny (model X.prog X.w) X.A (eval (.Name x pos) X.env) Q E s :=
 Calls.Name_function_global I.ok.kind hg (Calls.loadGlobal_global (by rw[I.ok.glob];exact I.mod.glob.keeps I.bk) hm h) hd
theorem iy(I:Inv X pins σ H s)(hg:Gl X x)(hm:X.mg x=none)(hv:bootBuiltins x=some u)(h:Q u s)
  (hn:x ≠ "__name__":=by decide) (hd:(x==("__debug__":Str))=false:=by decide):wpAny (model X.prog X.w) X.A (eval (.Name x pos) X.env) Q E s:=by
 obtain⟨mb,h1,h2⟩:=I.mod.blt;exact Calls.Name_function_global I.ok.kind hg (Calls.loadGlobal_builtin (by rw[I.ok.glob];exact I.mod.glob.keeps I.bk) hm (by rw[I.ok.blt];exact h1.keeps I.bk) ((h2 x hn).trans hv) h) hd
theorem yO(hg:Gl X x)(hm:X.mg x=some u)(r:RelV v u)(hd:(x==("__debug__":Str))=false:=by decide):PE X (.Name x pos) (tC v) :=
 λ_ _ _ H _ I h=>kG I hg hm ⟨v,H,I,r,h⟩ hd
theorem ES(hg:Gl X x)(hm:X.mg x=none)(hv:bootBuiltins x=some u)(r:RelV v u)(hn:x ≠ "__name__":=by decide)(hd:(x==("__debug__":Str))=false:=by decide):PE X (.Name x pos) (tC v) :=
 λ_ _ _ H _ I h=>iy I hg hm hv ⟨v,H,I,r,h⟩ hn hd
variable {a b:Expr} {ta tb:TE} {pos:Pos}
variable {tA QI:TT} {rest:List Expr}
noncomputable def Ru(t u:TT):TT:=λσ H Q=>t σ H λc H1=>if c=true then u σ H1 Q else Q false H1
noncomputable def XJ(t u:TT):TT:=λσ H Q=>t σ H λc H1=>if c=true then Q true H1 else u σ H1 Q
noncomputable def Rv(t:TT):TT:=λσ H Q=>t σ H λc H1=>Q (!c) H1
theorem ET(ha:PT X a tA):PW X (.BoolOp .And [a] pos) tA:=by
 intro wh pins s σ H Q I h;refine isTrue_and (cC (ha pins s σ H Q I h) λc s1 e=>?_);cases c with
 | true=>exact isTrue_and_nil e
 | false=>exact e
theorem Jk(ha:PT X a tA):PW X (.BoolOp .Or [a] pos) tA:=by
 intro wh pins s σ H Q I h;refine isTrue_or (cC (ha pins s σ H Q I h) λc s1 e=>?_);cases c with
 | false=>exact isTrue_or_nil e
 | true=>exact e
theorem Jl(ha:PT X a tA)(hb:PW X (.BoolOp .And (b::rest) pos) QI):PW X (.BoolOp .And (a::b::rest) pos) (Ru tA QI):=by
 intro wh pins s σ H Q I h;refine isTrue_and (cC (ha pins s σ H _ I h) λc s1 aF=>?_);obtain⟨H1,I1,q1⟩:=aF;cases c with
 | true=>exact hb wh pins s1 σ H1 Q I1 q1
 | false=>exact⟨H1,I1,q1⟩
theorem Nb(ha:PT X a tA)(hb:PW X (.BoolOp .Or (b::rest) pos) QI):PW X (.BoolOp .Or (a::b::rest) pos) (XJ tA QI):=by
 intro wh pins s σ H Q I h;refine isTrue_or (cC (ha pins s σ H _ I h) λc s1 aF=>?_);obtain⟨H1,I1,q1⟩:=aF;cases c with
 | true=>exact⟨H1,I1,q1⟩
 | false=>exact hb wh pins s1 σ H1 Q I1 q1
theorem Jm(ha:PT X a tA):PT X (.UnaryOp .Not a pos) (Rv tA):=by
 intro pins s σ H Q I h;exact isTrue_not (ha pins s σ H (λc H1=>Q (!c) H1) I h)
noncomputable def Nc(ta tb:TE):TE:=λσ H Q=>ta σ H λx H1=>∃c,x=.bl c/\if c=true then tb σ H1 Q else Q (.bl false) H1
noncomputable def Rw(ta tb:TE):TE:=λσ H Q=>ta σ H λx H1=>∃c,x=.bl c/\if c=true then Q (.bl true) H1 else tb σ H1 Q
noncomputable def Nd(ta:TE):TE:=λσ H Q=>ta σ H λx H1=>∃c,x=.bl c/\Q (.bl (!c)) H1
theorem BE{op}(h:PE X a t):PE X (.BoolOp op [a] pos) t:=λpins s σ H Q I hw=>BoolOp_one (h pins s σ H Q I hw)
theorem Jo(ha:PE X a ta)(hb:PE X (.BoolOp .And (b::rest) pos) tb):PE X (.BoolOp .And (a::b::rest) pos) (Nc ta tb):=by
 intro pins s σ H Q I h;refine BoolOp_and (cC (ha pins s σ H _ I h) λv s1 aF=>?_);obtain⟨x,H1,I1,r1,q1⟩:=aF;obtain⟨c,rfl,q1⟩:=q1;cases r1;refine wpAny_truthy_bool ?_;cases c with
 | true=>exact hb pins s1 σ H1 Q I1 q1
 | false=>exact⟨.bl false,H1,I1,rfl,q1⟩
theorem Nf(ha:PE X a ta)(hb:PE X (.BoolOp .Or (b::rest) pos) tb):PE X (.BoolOp .Or (a::b::rest) pos) (Rw ta tb):=by
 intro pins s σ H Q I h;refine BoolOp_or (cC (ha pins s σ H _ I h) λv s1 aF=>?_);obtain⟨x,H1,I1,r1,q1⟩:=aF;obtain⟨c,rfl,q1⟩:=q1;cases r1;refine wpAny_truthy_bool ?_;cases c with
 | false=>exact hb pins s1 σ H1 Q I1 q1
 | true=>exact⟨.bl true,H1,I1,rfl,q1⟩
theorem Jp(ha:PE X a ta):PE X (.UnaryOp .Not a pos) (Nd ta):=by
 intro pins s σ H Q I h;refine UnaryOp_ (cC (ha pins s σ H _ I h) λv s1 aF=>?_);obtain⟨x,H1,I1,r1,q1⟩:=aF;obtain⟨c,rfl,q1⟩:=q1;cases r1;exact not_of (wpAny_truthy_bool ⟨.bl (!c),H1,I1,rfl,q1⟩)
end
end L2
namespace L2
open PySem PySem.Spec PyProof.Rows
noncomputable def gn(K:PySem.W.Frag)(H:Hp)(a:Addr)(xs:List V):Prop :=
 Rd H a (.lst xs) \/
  ∃(o:Obj) (its:Array Value) (n:Nat),K.lookup a=some o/\o.cls=.type "list" /\ o.dict=none/\o.data=.seq its n/\its.size<=sizeLine/\Vals xs its.toList
noncomputable def jm(K:PySem.W.Frag)(H:Hp)(a:Addr)(xs:List V):Prop :=
 Rd H a (.tup xs) \/
  ∃(o:Obj) (its:Array Value) (n:Nat),K.lookup a=some o/\o.cls=.type "tuple" /\ o.data=.seq its n/\its.size<=sizeLine/\Vals xs its.toList
noncomputable def Rx:Value->Option V
 | .none=>some .non
 | .bool b=>some (.bl b)
 | .int i _=>some (.int i)
 | .str x _=>some (.str x)
 | .bytes b _=>some (.byt b)
 | .float b _=>some (.flt b)
 | .ref a=>some (.ref a)
 | .type n=>some (.ty n)
 | _=>none
theorem RelV.abs(r:RelV x u):Rx u=some x:=by
 cases x with
 | non=>cases r;rfl
 | bl _=>cases r;rfl
 | int _=>obtain⟨t,rfl⟩:=r;rfl
 | str _=>obtain⟨t,rfl⟩:=r;rfl
 | byt _=>obtain⟨t,rfl⟩:=r;rfl
 | flt _=>obtain⟨t,rfl⟩:=r;rfl
 | ref _=>cases r;rfl
 | ty _=>cases r;rfl
theorem RelV.inj(r:RelV x u)(q:RelV y u):x=y:=Option.some.inj (r.abs.symm.trans q.abs)
theorem Vals.inj:∀{xs ys:List V} {us:List Value},Vals xs us->Vals ys us->xs=ys
 | _,_,_,.nil,.nil=>rfl
 | _,_,_,.cons r t,.cons r' t'=>by rw[r.inj r',Vals.inj t t']
section
variable {X:Cx} {pins:List (Addr×Obj)} {σ:St} {H:Hp} {s:Shared} {a:Addr} {xs ys:List V}
theorem jm.of{K:PySem.W.Frag}(h:H a=some (.tup xs)):jm K H a xs:=.inl (.inl h)
theorem Inv.list(I:Inv X pins σ H s)(h:gn X.K H a xs):∃its:List Value,Vals xs its/\PlainL s.heap a its.toArray/\xs.length<=sizeLine:=by
 rcases h with h|⟨o,its,n,hk,hc,hd,hs,hz,r⟩
 ·obtain⟨z,its,n,r,e⟩:=h.ok I.hok;exact⟨its,r,⟨_,n,e,rfl,rfl,rfl⟩,z⟩
 ·refine⟨its.toList,r,⟨o,n,I.jI a o hk,hc,hd,by simpa using hs⟩,?_⟩;have e:=r.length;simp only[length_toList] at e;omega
theorem Inv.tuple(I:Inv X pins σ H s)(h:jm X.K H a xs):∃its:List Value,Vals xs its/\IsTup s.heap a its.toArray/\xs.length<=sizeLine:=by
 rcases h with h|⟨o,its,n,hk,hc,hs,hz,r⟩
 ·obtain⟨z,its,r,p⟩:=h.ok I.hok;exact⟨its,r,p,z⟩
 ·refine⟨its.toList,r,⟨o,I.jI a o hk,hc,n,by simpa using hs⟩,?_⟩;have e:=r.length;simp only[length_toList] at e;omega
theorem Inv.uU(I:Inv X pins σ H s)(h:gn X.K H a xs)(h':gn X.K H a ys):xs=ys:=by
 obtain⟨its,r,⟨o,n,e,_,_,d⟩,_⟩:=I.list h;obtain⟨its',r',⟨o',n',e',_,_,d'⟩,_⟩:=I.list h';rw[e] at e';cases e';rw[d] at d';injection d' with d1 _
 have:its=its':=by simpa using congrArg Array.toList d1
 subst this;exact r.inj r'
theorem Inv.z9(I:Inv X pins σ H s)(h:jm X.K H a xs)(h':jm X.K H a ys):xs=ys:=by
 obtain⟨its,r,⟨o,e,_,n,d⟩,_⟩:=I.tuple h;obtain⟨its',r',⟨o',e',_,n',d'⟩,_⟩:=I.tuple h';rw[e] at e';cases e';rw[d] at d';injection d' with d1 _
 have:its=its':=by simpa using congrArg Array.toList d1
 subst this;exact r.inj r'
end
noncomputable abbrev Cx.rq(X:Cx)(E:Value->Shared->Prop):Cx:={ X with xe:=E }
noncomputable abbrev Cx.Ng(X:Cx):Cx:=X.rq λ_ _=>False
theorem Cx.Ok.rq{X:Cx}(ok:X.Ok)(E:Value->Shared->Prop):(X.rq E).Ok :=
 ⟨ok.mod,ok.kind,ok.glob,ok.blt,ok.above,ok.inj,ok.has,ok.M5,ok.hd,ok.frames,ok.stk,ok.Ro,ok.bs,ok.HY,ok.lu,ok.BC,ok.oq,ok.Jg⟩
theorem Cx.Ok.jT{X:Cx}{E:Value->Shared->Prop}(ok:(X.rq E).Ok):X.Ok :=
 ⟨ok.mod,ok.kind,ok.glob,ok.blt,ok.above,ok.inj,ok.has,ok.M5,ok.hd,ok.frames,ok.stk,ok.Ro,ok.bs,ok.HY,ok.lu,ok.BC,ok.oq,ok.Jg⟩
section
variable {X:Cx} {pins:List (Addr×Obj)} {σ:St} {H:Hp} {s:Shared} {E:Value->Shared->Prop}
theorem Inv.rq(I:Inv X pins σ H s)(E:Value->Shared->Prop):Inv (X.rq E) pins σ H s:=⟨I.ok.rq E,I.os,I.bare,I.base,I.loc,I.cell,I.free,I.gX,I.pin,I.hok,I.len⟩
theorem Inv.jT(I:Inv (X.rq E) pins σ H s):Inv X pins σ H s:=⟨I.ok.jT,I.os,I.bare,I.base,I.loc,I.cell,I.free,I.gX,I.pin,I.hok,I.len⟩
theorem SP.jT(h:SP (X.rq E) pins D f s'):SP X pins D f s':=by
 cases f with
 | next=>obtain⟨σ',H',I,q⟩:=h;exact⟨σ',H',I.jT,q⟩
 | brk=>obtain⟨σ',H',I,q⟩:=h;exact⟨σ',H',I.jT,q⟩
 | cont=>obtain⟨σ',H',I,q⟩:=h;exact⟨σ',H',I.jT,q⟩
 | ret u=>obtain⟨v,σ',H',I,r,q⟩:=h;exact⟨v,σ',H',I.jT,r,q⟩
theorem xy.Ng{st:List Stmt}{t:TS}(h:xy X.Ng st t):xy X st t:=λpins s σ H D I hw =>
 wpAny_mono (h pins s σ H D (I.rq _) hw) (λ_ _ q=>q.jT) λ_ _ z=>False.elim z
end
section
variable {X:Cx} {st:Stmt} {rest:List Stmt} {t u:TS} {e:Expr} {te:TE} {pos:Pos}
noncomputable def BF:TS:=λD σ H=>D.nx σ H
noncomputable def Ry(t u:TS):TS:=λD σ H=>t { D with nx:=u D } σ H
theorem EU:xy X [] BF:=λ_ _ σ H _ I h=>wpAny_execs_nil ⟨σ,H,I,h⟩
theorem BG(h1:PS X st t)(h2:xy X rest u):xy X (st::rest) (Ry t u):=by
 intro pins s σ H D I h;refine wpAny_execs_cons (cC (h1 pins s σ H { D with nx:=u D } I h) λf s1 q=>?_);cases f with
 | next =>obtain⟨σ',H',I',q⟩:=q;exact h2 pins s1 σ' H' D I' q
 | ret v=>exact q
 | brk=>exact q
 | cont=>exact q
noncomputable def Jq:TS:=λD σ H=>D.bk σ H
noncomputable def Nh:TS:=λD σ H=>D.ct σ H
theorem EW:PS X (.Pass pos) BF:=λ_ _ σ H _ I h=>wpAny_Pass ⟨σ,H,I,h⟩
theorem BH:PS X (.Break pos) Jq:=λ_ _ σ H _ I h=>wpAny_Break ⟨σ,H,I,h⟩
theorem uV:PS X (.Continue pos) Nh:=λ_ _ σ H _ I h=>wpAny_Continue ⟨σ,H,I,h⟩
theorem Inv.quiet(I:Inv X pins σ H s):interactive X.env=false:=by simp[interactive,I.ok.kind]
theorem Jr{x j pos pos'}:PS X (.Expr (.Constant (.str x) j pos) pos') BF:=λ_ s σ H _ I h=>wpAny_Expr (Calls.Constant_str (show SP X _ _ .next { s with toks:=s.toks+1 } from⟨σ,H,I.tok _,h⟩)) I.quiet
noncomputable def Ni(te:TE):TS:=λD σ H=>te σ H λ_ H1=>D.nx σ H1
theorem EY(he:PE X e te)(hs:swapsWith e none pos.line X.env=pure false:=by rfl):PS X (.Expr e pos) (Ni te):=by
 intro pins s σ H D I h;exact wpAny_Expr_any (cC (he pins s σ H _ I h) λv s1 ⟨x,H1,I1,r1,q1⟩=>⟨σ,H1,I1,q1⟩) I.quiet hs
noncomputable def Rz(te:TE):TS:=λD σ H=>te σ H D.rt
theorem Js(he:PE X e te):PS X (.Return (some e) pos) (Rz te):=by
 intro pins s σ H D I h;exact wpAny_Return_some (cC (he pins s σ H _ I h) λv s1 ⟨x,H1,I1,r1,q1⟩=>⟨x,σ,H1,I1,r1,q1⟩)
noncomputable def Nj:TS:=λD _ H=>D.rt .non H
theorem EZ:PS X (.Return none pos) Nj:=λ_ _ σ H _ I h=>wpAny_Return_none ⟨.non,σ,H,I,rfl,h⟩
noncomputable def RA(c:TT)(t u:TS):TS:=λD σ H=>c σ H λb H1=>if b=true then t D σ H1 else u D σ H1
theorem Nk(hc:PT X c tc)(ha:xy X a t)(hb:xy X b u):PS X (.If c a b pos) (RA tc t u):=by
 intro pins s σ H D I h;refine wpAny_If (cC (hc pins s σ H _ I h) λd s1 aF=>?_);obtain⟨H1,I1,q1⟩:=aF;cases d with
 | true=>exact ha pins s1 σ H1 D I1 q1
 | false=>exact hb pins s1 σ H1 D I1 q1
noncomputable def Jt:TS:=λ_ _ _=>False
theorem uW:PS X st Jt:=λ_ _ _ _ _ _ h=>h.elim
end
noncomputable abbrev TG:=V->St->Hp->(St->Hp->Prop)->Prop
noncomputable abbrev MK:=List V->St->Hp->(St->Hp->Prop)->Prop
noncomputable def PG(X:Cx)(target:Expr)(t:TG):Prop :=
 ∀(pins:List (Addr×Obj)) (s:Shared) (σ:St) (H:Hp) (v:V) (u:Value) (Q:St->Hp->Prop),Inv X pins σ H s->RelV v u->t v σ H Q ->
  wpAny (model X.prog X.w) X.A (assign target X.env u) (λ_ s'=>∃σ' H',Inv X pins σ' H' s'/\Q σ' H') X.xe s
noncomputable def ML(X:Cx)(ts:List Expr)(t:MK):Prop :=
 ∀(pins:List (Addr×Obj)) (s:Shared) (σ:St) (H:Hp) (vs:List V) (us:List Value) (Q:St->Hp->Prop),Inv X pins σ H s->Vals vs us->t vs σ H Q ->
  wpAny (model X.prog X.w) X.A (assignInOrder ((assignEach ts X.env).map (·.2)) us) (λ_ s'=>∃σ' H',Inv X pins σ' H' s'/\Q σ' H') X.xe s
noncomputable abbrev Ju:=V->V->V->Hp->(Hp->Prop)->Prop
noncomputable def Jv(X:Cx)(t:Ju):Prop :=
 ∀(pins:List (Addr×Obj)) (s:Shared) (σ:St) (H:Hp) (o i v:V) (ov iv u:Value) (Q:Hp->Prop),Inv X pins σ H s->RelV o ov->RelV i iv->RelV v u->t o i v H Q ->
  wpAny (model X.prog X.w) X.A (setItem ov iv u) (λ_ s'=>∃H',Inv X pins σ H' s'/\Q H') X.xe s
noncomputable abbrev V4:=V->V->Hp->VK->Prop
noncomputable def XM(X:Cx)(op:Operator)(t:V4):Prop :=
 ∀(pins:List (Addr×Obj)) (s:Shared) (σ:St) (H:Hp) (x y:V) (v u:Value) (Q:VK),Inv X pins σ H s->RelV x v->RelV y u->t x y H Q ->
  wpAny (model X.prog X.w) X.A (inplaceOp op v u) (EP X pins σ Q) X.xe s
section
variable {X:Cx} {pos:Pos}
noncomputable def nO(i:Nat):TG:=λv σ H Q=>Q (σ.set i (some v)) H
theorem oM{i:Nat}(hN:X.N.Nodup)(hi:X.N[i]?=some x)(hx:Loc X.env.scope x)(hf:X.fn x=true\/X.env.scope.names.lookup x=some .local:=by first|exact .inl rfl|exact .inr rfl|assumption):PG X (.Name x pos) (nO i):=by
 intro pins s σ H v u Q I r h;exact wpAny_assign_Name (o7 I hN hi hx r (λs' I'=>⟨_,H,I',h⟩) hf)
noncomputable def Nl:MK:=λvs σ H Q=>vs=[]/\Q σ H
noncomputable def HZ(t:TG)(u:MK):MK:=λvs σ H Q=>∃v r,vs=v::r/\t v σ H λσ' H'=>u r σ' H' Q
theorem yP:ML X [] Nl:=by
 intro pins s σ H vs us Q I r h;obtain⟨e,h⟩:=h;subst e;cases r;exact assignInOrder_nil ⟨σ,H,I,h⟩
theorem uX(h1:PG X e t)(h2:ML X es u)
  (hs:(assignEach (e::es) X.env).map (·.2)=assign e X.env::(assignEach es X.env).map (·.2):=by rfl):ML X (e::es) (HZ t u):=by
 intro pins s σ H vs us Q I r h;obtain⟨v,vr,e1,h⟩:=h;subst e1;cases r with
 | cons r rr =>rw[hs];refine assignInOrder_cons (cC (h1 pins s σ H _ _ _ I r h) λ_ s1 aF=>?_);obtain⟨σ1,H1,I1,q1⟩:=aF;exact h2 pins s1 σ1 H1 _ _ Q I1 rr q1
noncomputable def Nm(K:PySem.W.Frag)(n:Nat)(t:MK):TG:=λv σ H Q=>∃a xs,v=.ref a/\jm K H a xs/\xs.length=n/\t xs σ H Q
theorem BI{k:Nat}{n:Nat}(hc:X.calm=true)(h:ML X es t)
  (hn:(assignEach es X.env).length=n:=by rfl) (hst:(assignEach es X.env).findIdx? (·.1)=none:=by rfl):PG X (.Tuple es k pos) (Nm X.K n t):=by
 intro pins s σ H v u Q I r hw;obtain⟨a,xs,e1,hq,hl,hw⟩:=hw;subst e1;cases r;obtain⟨its,rv,ht,hz⟩:=I.tuple hq;refine assign_Tuple_tuple (I.ok.hd hc) ht (by simp[hn,<-hl,rv.length]) hst λh' hx=>?_;have I1:Inv X pins σ H { s with heap:=h' }:=I.kept (t':=s.toks) λb o e=>hx b o (ne_of_lt (lt_size e)) e;exact h pins _ σ H xs _ Q I1 (by simpa using rv) hw
noncomputable def Nn(to ti:TE)(t:Ju):TG:=λv σ H Q=>to σ H λo H1=>ti σ H1 λi H2=>t o i v H2 λH3=>Q σ H3
theorem Jw(ho:PE X o to)(hi:PE X i ti)(hs:Jv X t)
  (ha:∀v,assign (.Subscript o i pos) X.env v=(do
   let ov <-holding [v] (eval o X.env)
   let iv <-holding [v,ov] (eval i X.env)
   standAt pos
   holding [v,ov,iv] (setItem ov iv v)
   release [v,ov,iv] []):=by intro _;rfl):PG X (.Subscript o i pos) (Nn to ti t):=by
 intro pins s σ H v u Q I r h;rw[ha];refine wpAny_bind (wpAny_holding (cC (ho pins s σ H _ I h) λov s1 aF=>?_));obtain⟨x,H1,I1,r1,q1⟩:=aF;refine wpAny_bind (wpAny_holding (cC (hi pins s1 σ H1 _ I1 q1) λiv s2 aF=>?_));obtain⟨y,H2,I2,r2,q2⟩:=aF;refine wpAny_bind (wpAny_standAt (wpAny_bind (wpAny_holding (cC (hs pins s2 σ H2 x y v ov iv u _ I2 r1 r2 r q2) λ_ s3 aF=>?_))));obtain⟨H3,I3,q3⟩:=aF;exact wpAny_release ⟨σ,H3,I3,q3⟩
noncomputable def E1(te:TE)(g:TG):TS:=λD σ H=>te σ H λx H1=>g x σ H1 D.nx
theorem BJ(he:PE X e te)(hg:PG X tg g)(hs:swapsWithSole [tg] e pos.line X.env=pure false:=by rfl)(hw:swappedStores [tg] e X.env=pure none:=by rfl)
  (h1:(assignEach [tg] X.env).map (·.2)=[assign tg X.env]:=by rfl):PS X (.Assign [tg] e pos) (E1 te g):=by
 intro pins s σ H D I h;refine wpAny_Assign_stores (cC (he pins s σ H _ I h) λv s1 ⟨x,H1,I1,r1,q1⟩=>?_) hs hw;rw[h1];exact cC (hg pins s1 σ H1 x v _ I1 r1 q1) λ_ s2 q=>q
theorem BK{i:Nat}(hN:X.N.Nodup)(hi:X.N[i]?=some x)(hx:Loc X.env.scope x)(he:PE X e te)(hs:swapsWith e (some (.Name x pos')) pos.line X.env=pure false:=by rfl)(hf:X.fn x=true\/X.env.scope.names.lookup x=some .local:=by first|exact .inl rfl|exact .inr rfl|assumption) :
  PS X (.Assign [.Name x pos'] e pos) (E1 te (nO i)):=by
 intro pins s σ H D I h;refine wpAny_Assign_Name (cC (he pins s σ H _ I h) λv s1 ⟨y,H1,I1,r1,q1⟩=>?_) hs;exact o7 I1 hN hi hx r1 (λs2 I2=>⟨_,H1,I2,q1⟩) hf
noncomputable def RB(i:Nat)(te:TE)(ti:V4):TS:=λD σ H=>∃x,σ[i]?=some (some x)/\te σ H λy H1=>ti x y H1 λz H2=>D.nx (σ.set i (some z)) H2
theorem Jx{i:Nat}(hN:X.N.Nodup)(hi:X.N[i]?=some x)(hx:Loc X.env.scope x)(he:PE X e te)(ho:XM X op ti)(hf:X.fn x=true\/X.env.scope.names.lookup x=some .local:=by first|exact .inl rfl|exact .inr rfl|assumption) :
  PS X (.AugAssign (.Name x pos') op e pos) (RB i te ti):=by
 intro pins s σ H D I h;obtain⟨v,e1,h⟩:=h;obtain⟨m,hn,hl⟩:=I.loc;have vis:M4 X.env.scope x:=by rcases hx with k|k;exact .inl k;exact .inr (.inl k)
 obtain⟨u,r,l⟩:=hl i x v hi e1 vis;refine wpAny_AugAssign_Name ?_;have go:wpAny (model X.prog X.w) X.A (eval e X.env) (λw s₂=>wpAny (model X.prog X.w) X.A (inplaceOp op u w) (λr s₃=>wpAny (model X.prog X.w) X.A (storeName X.env x r) (λ_=>SP X pins D .next) X.xe s₃) X.xe s₂) X.xe s:=by refine cC (he pins s σ H _ I h) λw s1 aF=>?_;obtain⟨y,H1,I1,r1,q1⟩:=aF;refine cC (ho pins s1 σ H1 v y u w _ I1 r r1 q1) λz s2 aF=>?_;obtain⟨zv,H2,I2,r2,q2⟩:=aF;exact o7 I2 hN hi hx r2 (λs3 I3=>⟨_,H2,I3,q2⟩) hf
 rcases l with ⟨hk,hm⟩|⟨hk,c,hc,hcell⟩
 ·exact wpAny_loadName_local I.ok.kind hk hn hm go
 ·rcases hk with hk|hk
  ·exact wpAny_loadName_cell I.ok.kind hk hc hcell go
  ·rcases hx with k|k
   ·have:X.env.scope.names.lookup x=some .free:=hk;rw[k] at this;cases this
   ·have:X.env.scope.names.lookup x=some .free:=hk;rw[k] at this;cases this
end
section
variable {X:Cx} {pos:Pos}
end
structure It where
 go:Nat->Hp->Prop
 xB:Nat->Hp->V->Hp->Prop
 stop:Nat->Hp->Prop
noncomputable def ou(X:Cx)(pins:List (Addr×Obj))(H:Hp)(b:Addr):Prop :=
 H b=none/\b≠X.env.locals/\b∉X.fs/\(b∈X.ex\/X.s₀.heap.objs.size<=b)/\(∀x c,X.env.cells.lookup x=some c->c≠b)/\∀p∈X.pn++pins,p.1≠b
theorem Inv.BL(I:Inv X pins σ H s)(hb:s.heap.objs.size<=b)(hn:H' b=none):ou X pins H' b:=by
 refine⟨hn,ne_of_gt (lt_of_lt_of_le I.lt hb),I.Rq hb,.inr (le_trans I.sz hb),λx c e z=>?_,λp hp z=>?_⟩
 ·obtain⟨v,q⟩:=I.cell x c e;exact absurd (lt_of_lt_of_le q.lt (by rw[z];exact hb)) (lt_irrefl _)
 ·exact absurd (lt_of_lt_of_le (lt_size (I.pin p hp).1) (by rw[z];exact hb)) (lt_irrefl _)
structure Turn (P:Program) (w:World) (K:PySem.W.Frag) (tg:Expr) (J:It) (fp:List Addr) (it:Addr) (tn:Nat->Heap->Prop):Prop where
 mem:it∈fp
 obj:∀i h,tn i h->∀b∈fp,∃o,h.get? b=some o/\∀v,o.data≠.cell v
 keep:∀i h h',tn i h->(∀b∈fp,∀o,h.get? b=some o->h'.get? b=some o)->tn i h'
 item:∀(X:Cx),X.prog=P->X.w=w->X.K=K->X.calm=true->∀(i:Nat) (pins:List (Addr×Obj)) (s:Shared) (σ:St) (H:Hp) (E:Value->Shared->Prop),Inv X pins σ H s->(∀b∈fp,ou X pins H b)->tn i s.heap->J.go i H ->
  wpAny (model P w) X.A (pyNext (.ref it)) (λr s1=>∃u,r=some u /\
   wpAny (model P w) X.A (letOwnedTupleGo tg (.ref it) u) (λ_ s2=>∃x H',Inv X pins σ H' s2/\RelV x u/\J.xB i H x H'/\tn (i+1) s2.heap/\∀b∈fp,H' b=none) E s1) E s
 done:∀(X:Cx),X.prog=P->X.w=w->X.K=K->X.calm=true->∀(i:Nat) (pins:List (Addr×Obj)) (s:Shared) (σ:St) (H:Hp) (E:Value->Shared->Prop),Inv X pins σ H s->(∀b∈fp,ou X pins H b)->tn i s.heap->J.stop i H ->
  wpAny (model P w) X.A (pyNext (.ref it)) (λr s1=>r=none/\Inv X pins σ H s1) E s
 self:∀(A:Around) (i:Nat) (s:Shared) (Q:Value->Shared->Prop) (E:Value->Shared->Prop),tn i s.heap->Q (.ref it) s->wpAny (model P w) A (pyIter (.ref it)) Q E s
noncomputable abbrev TI:=St->Hp->(It->Hp->Prop)->Prop
noncomputable def V5(X:Cx)(pins:List (Addr×Obj))(σ:St)(tg:Expr)(R:It->Hp->Prop)(itv:Value)(s2:Shared):Prop :=
 ∃(it:Addr) (fp:List Addr) (tn:Nat->Heap->Prop) (J:It) (H':Hp),itv=.ref it/\Inv X pins σ H' s2/\Turn X.prog X.w X.K tg J fp it tn/\tn 0 s2.heap/\(∀b∈fp,ou X pins H' b)/\R J H'
noncomputable def PI(X:Cx)(tg iter:Expr)(wi:TI):Prop :=
 ∀(pins:List (Addr×Obj)) (s:Shared) (σ:St) (H:Hp) (R:It->Hp->Prop),Inv X pins σ H s->wi σ H R ->
  wpAny (model X.prog X.w) X.A (eval iter X.env) (λv s1=>wpAny (model X.prog X.w) X.A (pyIter v) (V5 X pins σ tg R) X.xe s1) X.xe s
theorem yQ{n:String}(ho:s.heap.get? it=some o)(hc:o.cls=.type n)(hd:o.data=.fields vs)
  (hn:["enumerate","zip","dict_itemiterator","dict_reverseitemiterator","odict_iterator","itertools.zip_longest","itertools.pairwise"].contains n=false) (hQ:Q () s):wpAny M A (letOwnedTupleGo tg (.ref it) u) Q E s:=by
 unfold letOwnedTupleGo;cases tg<;>first
  | exact wpAny_pure hQ
  | (cases u<;>first
    | exact wpAny_pure hQ
    | (refine wpAny_bind (wpAny_load ho ?_)
       rw[hc,hd];show wpAny M A (if (["enumerate","zip","dict_itemiterator","dict_reverseitemiterator","odict_iterator","itertools.zip_longest","itertools.pairwise"].contains n&&vs[0]?==some (rawInt _))=true then _ else _) Q E s;rw[if_neg (by intro h;rw[hn,Bool.false_and] at h;cases h)];exact wpAny_pure hQ))
noncomputable def QJ(K:PySem.W.Frag)(a:Addr):It :=
 ⟨λi H=>∃xs x,gn K H a xs/\xs[i]?=some x,λi H x H'=>H'=H/\∀xs,gn K H a xs->xs[i]?=some x,λi H=>∃xs,gn K H a xs/\xs.length<=i⟩
noncomputable def RC(K:PySem.W.Frag)(a:Addr):It :=
 ⟨λi H=>∃xs x,jm K H a xs/\xs[i]?=some x,λi H x H'=>H'=H/\∀xs,jm K H a xs->xs[i]?=some x,λi H=>∃xs,jm K H a xs/\xs.length<=i⟩
noncomputable def Np(lo:Int)(n:Nat):It:=⟨λi _=>i<n,λi H x H'=>H'=H/\x=.int (lo+i),λi _=>n<=i⟩
theorem Aa{P:Program}{w:World}{K:PySem.W.Frag}{tg:Expr}(a it:Addr):Turn P w K tg (QJ K a) [it] it (λi h=>h.IsListIter it a i) where
 mem:=by simp
 obj:=λi h st b hb=>by
  have e:b=it:=by simpa using hb
  subst e;obtain⟨o,e,c,d⟩:=st;exact⟨o,e,λv z=>by rw[d] at z;cases z⟩
 keep:=λi h h' st k=>st.at λo e=>k it (by simp) o e
 item:=by intro X hP hw hK hc i pins s σ H E I hf st hg;subst hP hw hK;obtain⟨xs,x,hq,hx⟩:=hg;obtain⟨its,rv,p,hz⟩:=I.list hq;obtain⟨u,hu,ru⟩:=rv.get hx;obtain⟨f0,f1,f2,f3,f4,f5⟩:=hf it (by simp);refine wpAny_pyNext_list_item st p.isList (x:=u) (by simpa using hu) λh' st' sb=>?_;have I1:Inv X pins σ H { s with heap:=h' }:=I.turned (t':=s.toks) (λb o hb e=>(sb.2 b hb).trans e) f0 f1 f3 f4 f5;obtain⟨o,e,c,d⟩:=id st';exact⟨u,rfl,yQ (s:={ s with heap:=h' }) e c d (by decide) ⟨x,H,I1,ru,⟨rfl,λys hy=>by rw[I.uU hy hq];exact hx⟩,st',λb hb=>(hf b hb).1⟩⟩
 done:=by intro X hP hw hK hc i pins s σ H E I hf st hg;subst hP hw hK;obtain⟨xs,hq,hx⟩:=hg;obtain⟨its,rv,p,hz⟩:=I.list hq;obtain⟨f0,f1,f2,f3,f4,f5⟩:=hf it (by simp);have hl:=rv.length;exact wpAny_pyNext_list_end (I.ok.hd hc) st p.isList (by simp;omega) λh' eb=>⟨rfl,I.turned (t':=s.toks) (λb o hb e=>eb b o hb e) f0 f1 f3 f4 f5⟩
 self:=λ_ _ _ _ _ st h=>wpAny_pyIter_listiter st h
theorem xC{P:Program}{w:World}{K:PySem.W.Frag}{tg:Expr}(a it:Addr):Turn P w K tg (RC K a) [it] it (λi h=>h.IsTupleIter it a i) where
 mem:=by simp
 obj:=λi h st b hb=>by
  have e:b=it:=by simpa using hb
  subst e;obtain⟨o,e,c,d⟩:=st;exact⟨o,e,λv z=>by rw[d] at z;cases z⟩
 keep:=λi h h' st k=>st.at λo e=>k it (by simp) o e
 item:=by intro X hP hw hK hc i pins s σ H E I hf st hg;subst hP hw hK;obtain⟨xs,x,hq,hx⟩:=hg;obtain⟨its,rv,p,hz⟩:=I.tuple hq;obtain⟨u,hu,ru⟩:=rv.get hx;obtain⟨f0,f1,f2,f3,f4,f5⟩:=hf it (by simp);refine wpAny_pyNext_tuple_item st (show s.heap.IsTuple a its.toArray from p) (x:=u) (by simpa using hu) λh' st' sb=>?_;have I1:Inv X pins σ H { s with heap:=h' }:=I.turned (t':=s.toks) (λb o hb e=>(sb.2 b hb).trans e) f0 f1 f3 f4 f5;obtain⟨o,e,c,d⟩:=id st';exact⟨u,rfl,yQ (s:={ s with heap:=h' }) e c d (by decide) ⟨x,H,I1,ru,⟨rfl,λys hy=>by rw[I.z9 hy hq];exact hx⟩,st',λb hb=>(hf b hb).1⟩⟩
 done:=by intro X hP hw hK hc i pins s σ H E I hf st hg;subst hP hw hK;obtain⟨xs,hq,hx⟩:=hg;obtain⟨its,rv,p,hz⟩:=I.tuple hq;obtain⟨f0,f1,f2,f3,f4,f5⟩:=hf it (by simp);have hl:=rv.length;exact wpAny_pyNext_tuple_end (I.ok.hd hc) st (show s.heap.IsTuple a its.toArray from p) (by simp;omega) λh' eb=>⟨rfl,I.turned (t':=s.toks) (λb o hb e=>eb b o hb e) f0 f1 f3 f4 f5⟩
 self:=λ_ _ _ _ _ st h=>wpAny_pyIter_tupleiter st h
theorem xD{P:Program}{w:World}{K:PySem.W.Frag}{tg:Expr}(it:Addr)(lo:Int)(n:Nat):Turn P w K tg (Np lo n) [it] it (λi h=>IsRangeIter h it (lo+(i:Nat)*1) ((n:Int)-(i:Nat)) 1) where
 mem:=by simp
 obj:=λi h st b hb=>by
  have e:b=it:=by simpa using hb
  subst e;exact⟨_,st,λv z=>by
   have z':Data.fields _=Data.cell v:=z;cases z'⟩
 keep:=λi h h' st k=>k it (by simp) _ st
 item:=by intro X hP hw hK hc i pins s σ H E I hf st hg;subst hP hw hK;obtain⟨f0,f1,f2,f3,f4,f5⟩:=hf it (by simp);have W:=Walks.range (prog:=X.prog) (w:=X.w) (I.ok.hd hc) it lo 1 n;refine W.item i s _ _ hg st λv h' tk hv st' kk=>?_;obtain⟨t,rfl⟩:=hv;have I1:Inv X pins σ H { s with heap:=h',toks:=tk }:=I.turned (λb o hb e=>kk b o (by simpa using hb) e) f0 f1 f3 f4 f5;refine⟨_,rfl,yQ (s:={ s with heap:=h',toks:=tk }) (n:="range_iterator") st' rfl rfl (by decide) ⟨.int (lo+i),H,I1,⟨t,?_⟩,⟨rfl,rfl⟩,st',λb hb=>(hf b hb).1⟩⟩;rw[Int.mul_one]
 done:=by intro X hP hw hK hc i pins s σ H E I hf st hg;subst hP hw hK;obtain⟨f0,f1,f2,f3,f4,f5⟩:=hf it (by simp);exact wpAny_pyNext_range_end (I.ok.hd hc) st (by have:n<=i:=hg;omega) λh' eb=>⟨rfl,I.turned (t':=s.toks) (λb o hb e=>eb b o hb e) f0 f1 f3 f4 f5⟩
 self:=λ_ _ _ _ _ st h=>wpAny_pyIter_rangeiter st h
end L2
namespace L2
open PySem PySem.Spec PyProof.Rows
section
variable {X:Cx} {tg:Expr}
noncomputable def Nq(K:PySem.W.Frag)(tl:TE):TI:=λσ H R=>tl σ H λx H1=>∃a,x=.ref a/\(∃xs,gn K H1 a xs)/\R (QJ K a) H1
noncomputable def RD(K:PySem.W.Frag)(tl:TE):TI:=λσ H R=>tl σ H λx H1=>∃a,x=.ref a/\(∃xs,jm K H1 a xs)/\R (RC K a) H1
theorem E2(hl:PE X l tl):PI X tg l (Nq X.K tl):=by
 intro pins s σ H R I h;refine cC (hl pins s σ H _ I h) λv s1 aF=>?_;obtain⟨x,H1,I1,r1,q1⟩:=aF;obtain⟨a,e,⟨xs,hq⟩,q⟩:=q1;subst e;cases r1;obtain⟨its,rv,p,hz⟩:=I1.list hq;refine wpAny_pyIter_list p.isList ?_;refine⟨s1.heap.objs.size,[s1.heap.objs.size],_,_,H1,rfl,I1.kept (t':=s1.toks) λb o e=>get?_push_of_some _ e,Aa a _,⟨_,get?_push_size _ rfl,rfl,rfl⟩,λb hb=>?_,q⟩;have e:b=s1.heap.objs.size:=by simpa using hb
 subst e;exact I1.BL (le_refl _) (I1.hok.fresh (le_refl _))
theorem Jy(hl:PE X l tl):PI X tg l (RD X.K tl):=by
 intro pins s σ H R I h;refine cC (hl pins s σ H _ I h) λv s1 aF=>?_;obtain⟨x,H1,I1,r1,q1⟩:=aF;obtain⟨a,e,⟨xs,hq⟩,q⟩:=q1;subst e;cases r1;obtain⟨its,rv,p,hz⟩:=I1.tuple hq;refine wpAny_pyIter_tuple (show s1.heap.IsTuple a its.toArray from p) ?_;refine⟨s1.heap.objs.size,[s1.heap.objs.size],_,_,H1,rfl,I1.kept (t':=s1.toks) λb o e=>get?_push_of_some _ e,xC a _,⟨_,get?_push_size _ rfl,rfl,rfl⟩,λb hb=>?_,q⟩;have e:b=s1.heap.objs.size:=by simpa using hb
 subst e;exact I1.BL (le_refl _) (I1.hok.fresh (le_refl _))
theorem uY{lo hi:Int}{tk:Nat}(I:Inv X pins σ H s)(h1:-(2 ^ 62)<=lo)(h2:lo<2 ^ 62)(h3:-(2 ^ 62)<=hi)(h4:hi<2 ^ 62)
  (q:R (Np lo (hi-lo).toNat) H):wpAny (model X.prog X.w) X.A (pyIter (.ref s.heap.objs.size)) (V5 X pins σ tg R) E { s with heap:=s.heap.push { cls:=.type "range",data:=.fields #[.int lo t,.int hi u,.int 1 v] },toks:=tk }:=by
 refine wpAny_pyIter_range (IsRange.new ..) (small_one h1 h2 h3 h4) ?_;have I1:Inv X pins σ H { s with heap:=s.heap.push { cls:=.type "range",data:=.fields #[.int lo t,.int hi u,.int 1 v] },toks:=tk }:=I.kept λb o e=>get?_push_of_some _ e;refine⟨(s.heap.push { cls:=.type "range",data:=.fields #[.int lo t,.int hi u,.int 1 v] }).objs.size,[(s.heap.push { cls:=.type "range",data:=.fields #[.int lo t,.int hi u,.int 1 v] }).objs.size],_,_,H,rfl,
  I1.kept (t':=tk) λb o e=>get?_push_of_some _ e,xD _ lo (hi-lo).toNat,?_,λb hb=>?_,q⟩
 ·have e1:lo+((0:Nat):Int)*1=lo:=by simp
  have e2:(((hi-lo).toNat:Nat):Int)-((0:Nat):Int)=Builtin.Range.rangeSize lo hi 1:=by rw[rangeSize_one];split<;>omega
  show IsRangeIter _ _ (lo+((0:Nat):Int)*1) ((((hi-lo).toNat:Nat):Int)-((0:Nat):Int)) 1;rw[e1,e2];exact get?_push_size _ rfl
 ·have e:b=(s.heap.push { cls:=.type "range",data:=.fields #[.int lo t,.int hi u,.int 1 v] }).objs.size:=by simpa using hb
  subst e;exact I1.BL (le_refl _) (I1.hok.fresh (le_refl _))
noncomputable def Nr(ta:TA):TI:=λσ H R=>ta σ H λvs H1=>∃j:Int,vs=[.int j] /\ -(2 ^ 62)<=j/\j<2 ^ 62/\R (Np 0 j.toNat) H1
noncomputable def Nt(ta:TA):TI:=λσ H R=>ta σ H λvs H1=>∃i j:Int,vs=[.int i,.int j]/\(-(2 ^ 62)<=i/\i<2 ^ 62 /\ -(2 ^ 62)<=j/\j<2 ^ 62)/\R (Np i (j-i).toNat) H1
theorem Ab(hg:Gl X "range")(hm:X.mg "range" = none)(ha:PA X [a] ta)(hs:starEach [a] X.env=[(false,eval a X.env)]:=by rfl):PI X tg (.Call (.Name "range" p) [a] [] pos) (Nr ta):=by
 intro pins s σ H R I h;refine Call_ (iy I hg hm boot_range (PyProof.Rows.callWith_type1 (cC (ha pos pins s σ H _ I h) λus s1 aF=>?_) hs rfl));obtain⟨vs,H1,I1,r1,q1⟩:=aF;obtain⟨j,e,q1,q2,q⟩:=q1;subst e;cases r1 with
 | cons r rr =>cases rr;obtain⟨t,rfl⟩:=r;exact call_range_1 (uY I1 (by omega) (by omega) q1 q2 (by simpa using q))
theorem Ac(hg:Gl X "range")(hm:X.mg "range" = none)(ha:PA X [a,b] ta)(hs:starEach [a,b] X.env=[(false,eval a X.env),(false,eval b X.env)]:=by rfl)(hs2:starEach [b] X.env=[(false,eval b X.env)]:=by rfl) :
  PI X tg (.Call (.Name "range" p) [a,b] [] pos) (Nt ta):=by
 intro pins s σ H R I h;refine Call_ (iy I hg hm boot_range (PyProof.Rows.callWith_type1 (cC (ha pos pins s σ H _ I h) λus s1 ⟨vs,H1,I1,r1,q1⟩=>?_) (by rw[hs,hs2]) (by rw[hs2];rfl)));obtain⟨i,j,e,⟨q1,q2,q3,q4⟩,q⟩:=q1;subst e;cases r1 with
 | cons r rr =>
  cases rr with
  | cons r' rr =>cases rr;obtain⟨t,rfl⟩:=r;obtain⟨t',rfl⟩:=r';exact call_range_2 (uY I1 q1 q2 q3 q4 q)
noncomputable def RE(wi:TI)(g:TG)(tb:TS):TS:=λD σ H=>wi σ H λJ H1=>∃W:Nat->Nat->St->Hp->Prop,(∃m,W 0 m σ H1)/\∀i m σ H,W i m σ H ->
 (J.stop i H/\D.nx σ H)\/(J.go i H/\∃N:St->Hp->Prop,(∀σ' H',N σ' H'->∃m',m'<m/\W (i+1) m' σ' H')/\∀x H',J.xB i H x H'->g x σ H' λσ2 H2=>tb { D with nx:=N,ct:=N,bk:=D.nx } σ2 H2)
noncomputable def o8(fp:List Addr)(h:Heap):List (Addr×Obj):=fp.filterMap λb=>(h.get? b).map λo=>(b,o)
theorem jn(hb:b∈fp)(e:h.get? b=some o):(b,o)∈o8 fp h:=List.mem_filterMap.mpr ⟨b,hb,by rw[e];rfl⟩
theorem Ad(hp:p∈o8 fp h):p.1∈fp/\h.get? p.1=some p.2:=by
 obtain⟨b,hb,e⟩:=List.mem_filterMap.mp hp;cases q:h.get? b with
 | none=>rw[q] at e;cases e
 | some o =>rw[q] at e;have e':(b,o)=p:=Option.some.inj e;subst e';exact⟨hb,q⟩
theorem Inv.pinned(I:Inv X pins σ H s)(hf:∀b∈fp,ou X pins H b)(ho:∀b∈fp,∃o,s.heap.get? b=some o/\∀v,o.data≠.cell v):Inv X (pins++o8 fp s.heap) σ H s :=
 I.yN λp hp=>(mem_append.mp hp).elim (λz=>I.pin p (mem_append_right _ z)) λz=>by
  obtain⟨hb,e⟩:=Ad z;obtain⟨f0,f1,f2,_⟩:=hf p.1 hb;obtain⟨o,e',d⟩:=ho p.1 hb;rw[e] at e';cases e';exact⟨e,f0,f1,f2,d⟩
theorem Inv.lI(I:Inv X (pins++pl) σ H s):Inv X pins σ H s:=I.yN λp hp=>I.pin p (mem_append_right _ (mem_append_left _ hp))
theorem Jz(hp:PassesOwn (model X.prog X.w) X.A X.env X.xe)(hc:X.calm=true)(hi:PI X tg iter wi)(hg:PG X tg g)(hb:xy X body tb)
  (hs:∀x,foldedSetIterable iter X.env x=pure x:=by intro _;rfl):PS X (.For tg iter body [] pos) (RE wi g tb):=by
 intro pins s σ H D I h;refine wpAny_For (cC (hi pins s σ H _ I h) λv s1 h1=>cC h1 λitv s2 h2=>?_) hs;obtain⟨it,fp,tn,J,H2,e,I2,T,st2,f2,W,⟨m0,w0⟩,turn⟩:=h2;subst e;have stat:∀{H':Hp},(∀b∈fp,H' b=none)->∀b∈fp,ou X pins H' b:=λhn b hb=>⟨hn b hb,(f2 b hb).2⟩;refine codeAny_forLoop_any (λn s'=>∃i σ' H',Inv X pins σ' H' s'/\tn i s'.heap/\(∀b∈fp,H' b=none)/\W i n σ' H') ?_ m0 ⟨0,σ,H2,I2,st2,λb hb=>(f2 b hb).1,w0⟩;rintro n s3 ⟨i,σ3,H3,I3,st3,V6,w3⟩
 rcases turn i n σ3 H3 w3 with ⟨stop,qn⟩|⟨go,N,hN,step⟩
 ·refine wpAny_passesOwn hp (cC (T.done X rfl rfl rfl hc i pins s3 σ3 H3 X.xe I3 (stat V6) st3 stop) λr s4 aF=>?_);obtain⟨hr,I4⟩:=aF;subst hr;exact wpAny_execs_nil ⟨σ3,H3,I4,qn⟩
 ·refine wpAny_passesOwn hp (cC (T.item X rfl rfl rfl hc i pins s3 σ3 H3 X.xe I3 (stat V6) st3 go) λr s4 aF=>?_)
  obtain⟨u,hr,h4⟩:=aF;subst hr;refine wpAny_passesOwn hp (cC h4 λ_ s5 aF=>?_);obtain⟨x,H5,I5,r5,y5,MM,QK⟩:=aF;have XO:=I5.pinned (stat QK) (T.obj _ _ MM);refine wpAny_passesOwn hp (cC (hg _ s5 σ3 H5 x u _ XO r5 (step x H5 y5)) λ_ s6 aF=>?_);obtain⟨σ6,H6,I6,q6⟩:=aF;refine wpAny_passesOwn hp (cC (hb _ s6 σ6 H6 _ I6 q6) λf s7 q7=>?_);have again:∀{σ7:St} {H7:Hp},Inv X (pins++o8 fp s5.heap) σ7 H7 s7->N σ7 H7->∃m,m<n/\∃i σ' H',Inv X pins σ' H' s7/\tn i s7.heap/\(∀b∈fp,H' b=none)/\W i m σ' H':=λ{σ7 H7} I7 n7=>by
   obtain⟨m',hm,w7⟩:=hN σ7 H7 n7;refine⟨m',hm,i+1,σ7,H7,I7.lI,T.keep _ _ _ MM λb hb o e=>(I7.pin (b,o) (mem_append_right _ (mem_append_right _ (jn hb e)))).1,λb hb=>?_,w7⟩;obtain⟨o,e,d⟩:=T.obj _ _ MM b hb;exact(I7.pin (b,o) (mem_append_right _ (mem_append_right _ (jn hb e)))).2.1
  cases f with
  | next=>obtain⟨σ7,H7,I7,n7⟩:=q7;exact again I7 n7
  | cont=>obtain⟨σ7,H7,I7,n7⟩:=q7;exact again I7 n7
  | brk=>obtain⟨σ7,H7,I7,q7⟩:=q7;exact⟨σ7,H7,I7.lI,q7⟩
  | ret v=>obtain⟨x7,σ7,H7,I7,r7,q7⟩:=q7;exact⟨x7,σ7,H7,I7.lI,r7,q7⟩
end
end L2
namespace L2
open PySem PySem.Spec PyProof.Rows
noncomputable abbrev R2:=V->V->Hp->VK->Prop
noncomputable def jP(X:Cx)(f:Value->Value->Sem Value)(r:R2):Prop :=
 ∀(pins:List (Addr×Obj)) (s:Shared) (σ:St) (H:Hp) (x y:V) (v u:Value) (Q:VK),Inv X pins σ H s->RelV x v->RelV y u->r x y H Q ->
  wpAny (model X.prog X.w) X.A (f v u) (EP X pins σ Q) X.xe s
noncomputable def QL(X:Cx)(f:Value->Sem Value)(r:V->Hp->VK->Prop):Prop :=
 ∀(pins:List (Addr×Obj)) (s:Shared) (σ:St) (H:Hp) (x:V) (v:Value) (Q:VK),Inv X pins σ H s->RelV x v->r x H Q ->
  wpAny (model X.prog X.w) X.A (f v) (EP X pins σ Q) X.xe s
noncomputable def cH(X:Cx)(f:Value)(r:List V->Hp->VK->Prop):Prop :=
 ∀(pins:List (Addr×Obj)) (s:Shared) (σ:St) (H:Hp) (xs:List V) (us:List Value) (Q:VK),Inv X pins σ H s->Vals xs us->r xs H Q ->
  wpAny (model X.prog X.w) X.A (call f us) (EP X pins σ Q) X.xe s
noncomputable def RG(X:Cx)(r:V->Hp->(Bool->Hp->Prop)->Prop):Prop :=
 ∀(pins:List (Addr×Obj)) (s:Shared) (σ:St) (H:Hp) (x:V) (v:Value) (Q:Bool->Hp->Prop),Inv X pins σ H s->RelV x v->r x H Q ->
  wpAny (model X.prog X.w) X.A (truthy v) (TP X pins σ Q) X.xe s
noncomputable def MN(r:R2)(ta tb:TE):TE:=λσ H Q=>ta σ H λx H1=>tb σ H1 λy H2=>r x y H2 Q
noncomputable def XQ(r:V->Hp->VK->Prop)(ta:TE):TE:=λσ H Q=>ta σ H λx H1=>r x H1 Q
noncomputable def rI(C:Int->Int->Prop)(g:Int->Int->V):R2:=λx y H Q=>∃i j,x=.int i/\y=.int j/\C i j/\Q (g i j) H
noncomputable def EB(g:Int->Int->V):R2:=λx y H Q=>∃i j,x=.int i/\y=.int j/\Q (g i j) H
noncomputable def rU(g:Int->V):V->Hp->VK->Prop:=λx H Q=>∃i,x=.int i/\Q (g i) H
section
variable {X:Cx} {a b c:Expr} {ta tb tc:TE} {pos:Pos}
theorem JA(ha:PE X a ta)(hb:PE X b tb){pins:List (Addr×Obj)}{s:Shared}{σ:St}{H:Hp}{R:V->V->Hp->Prop}(I:Inv X pins σ H s)
  (h:ta σ H λx H1=>tb σ H1 λy H2=>R x y H2) {Q:Value->Shared->Prop} {f:Value->Value->Sem Value}
  (hf:∀v u s2 x y H2,Inv X pins σ H2 s2->RelV x v->RelV y u->R x y H2->wpAny (model X.prog X.w) X.A (f v u) Q X.xe s2) :
  wpAny (model X.prog X.w) X.A (eval a X.env) (λv s₁=>wpAny (model X.prog X.w) X.A (eval b X.env) (λu s₂=>wpAny (model X.prog X.w) X.A (f v u) Q X.xe s₂) X.xe s₁) X.xe s:=by
 refine cC (ha pins s σ H _ I h) λv s1 aF=>?_;obtain⟨x,H1,I1,r1,q1⟩:=aF;refine cC (hb pins s1 σ H1 _ I1 q1) λu s2 aF=>?_;obtain⟨y,H2,I2,r2,q2⟩:=aF;exact hf v u s2 x y H2 I2 r1 r2 q2
theorem Nu(ho:jP X (binaryOp op) r)(ha:PE X a ta)(hb:PE X b tb):PE X (.BinOp a op b pos) (MN r ta tb):=by
 intro pins s σ H Q I h;exact wpAny_BinOp (JA ha hb I h λv u s2 x y H2 I2 rx ry q=>ho pins s2 σ H2 x y v u Q I2 rx ry q)
theorem Nv(ho:QL X (unaryOp op) r)(ha:PE X a ta):PE X (.UnaryOp op a pos) (XQ r ta):=by
 intro pins s σ H Q I h;exact UnaryOp_ (cC (ha pins s σ H _ I h) λv s1 ⟨x,H1,I1,r1,q1⟩=>ho pins s1 σ H1 x v Q I1 r1 q1)
theorem JB{f:Value->Value->Sem Value}{C:Int->Int->Prop}{g:Int->Int->Int}
  (rule:∀(i j:Int) (t u:Tok) (s:Shared) (Q:Value->Shared->Prop) (E:Value->Shared->Prop),C i j->Q (.int (g i j) s.toks) { s with toks:=s.toks+1 }->wpAny (model X.prog X.w) X.A (f (.int i t) (.int j u)) Q E s) :
  jP X f (rI C λi j=>.int (g i j)):=by
 intro pins s σ H x y v u Q I rx ry h;obtain⟨i,j,rfl,rfl,hc,q⟩:=h;obtain⟨t,rfl⟩:=rx;obtain⟨t',rfl⟩:=ry;exact rule i j t t' s _ _ hc ⟨.int (g i j),H,I.tok _,⟨_,rfl⟩,q⟩
theorem E4{f:Value->Value->Sem Value}{g:Int->Int->Int}
  (rule:∀(i j:Int) (t u:Tok) (s:Shared) (Q:Value->Shared->Prop) (E:Value->Shared->Prop),Q (.int (g i j) s.toks) { s with toks:=s.toks+1 }->wpAny (model X.prog X.w) X.A (f (.int i t) (.int j u)) Q E s) :
  jP X f (EB λi j=>.int (g i j)):=by
 intro pins s σ H x y v u Q I rx ry h;obtain⟨i,j,rfl,rfl,q⟩:=h;obtain⟨t,rfl⟩:=rx;obtain⟨t',rfl⟩:=ry;exact rule i j t t' s _ _ ⟨.int (g i j),H,I.tok _,⟨_,rfl⟩,q⟩
theorem E5{f:Value->Value->Sem Value}{g:Int->Int->Bool}
  (rule:∀(i j:Int) (t u:Tok) (s:Shared) (Q:Value->Shared->Prop) (E:Value->Shared->Prop),Q (.bool (g i j)) s->wpAny (model X.prog X.w) X.A (f (.int i t) (.int j u)) Q E s) :
  jP X f (EB λi j=>.bl (g i j)):=by
 intro pins s σ H x y v u Q I rx ry h;obtain⟨i,j,rfl,rfl,q⟩:=h;obtain⟨t,rfl⟩:=rx;obtain⟨t',rfl⟩:=ry;exact rule i j t t' s _ _ ⟨.bl (g i j),H,I,rfl,q⟩
noncomputable def RH(i j:Int):Prop:=0<=j/\j<=1000000/\i.natAbs<2 ^ 64
noncomputable def E6(i j:Int):Prop:=(-(2 ^ 64)<i/\i<2 ^ 64)\/(-(2 ^ 64)<j/\j<2 ^ 64)
theorem E6.ok{i j:Int}(h:E6 i j):IntMulOk i j:=by
 rcases h with ⟨h1,h2⟩|⟨h1,h2⟩
 ·exact .of_left (intBits_le_64 h1 h2)
 ·exact .of_right (intBits_le_64 h1 h2)
theorem JC:jP X (binaryOp .Add) (EB λi j=>.int (i+j)):=E4 λ_ _ _ _ _ _ _ q=>add_int q
theorem JD:jP X (binaryOp .Sub) (EB λi j=>.int (i-j)):=E4 λ_ _ _ _ _ _ _ q=>sub_int q
theorem JE:jP X (binaryOp .Mult) (rI E6 λi j=>.int (i*j)):=JB λ_ _ _ _ _ _ _ hc q=>mul_int q hc.ok
theorem JF:jP X (binaryOp .Mod) (rI (λ_ j=>0<j) λi j=>.int (i%j)):=JB λi j _ _ _ _ _ hc q=>by
 have h1:(0:Int)<j:=hc;exact mod_int' (by omega) (by rw[Int.fmod_eq_emod_of_nonneg i (by omega)];exact q)
theorem JG:jP X (binaryOp .Pow) (rI RH λi j=>.int (i ^ j.toNat)):=JB λ_ _ _ _ _ _ _ hc q=>pow_int_small hc.1 hc.2.1 hc.2.2 q
theorem E7:jP X (inplaceOp .Add) (EB λi j=>.int (i+j)):=E4 λ_ _ _ _ _ _ _ q=>iadd_int q
theorem E8:jP X (inplaceOp .Sub) (EB λi j=>.int (i-j)):=E4 λ_ _ _ _ _ _ _ q=>isub_int q
theorem E9:jP X (inplaceOp .Mult) (rI E6 λi j=>.int (i*j)):=JB λ_ _ _ _ _ _ _ hc q=>imul_int q hc.ok
theorem Fb:jP X (inplaceOp .Mod) (rI (λ_ j=>0<j) λi j=>.int (i%j)):=JB λi j _ _ _ _ _ hc q=>by
 have h1:(0:Int)<j:=hc;exact imod_int (by omega) (by rw[Int.fmod_eq_emod_of_nonneg i (by omega)];exact q)
theorem XR{f:Value->Sem Value}{g:Int->Int}
  (rule:∀(i:Int) (t:Tok) (s:Shared) (Q:Value->Shared->Prop) (E:Value->Shared->Prop),Q (.int (g i) s.toks) { s with toks:=s.toks+1 }->wpAny (model X.prog X.w) X.A (f (.int i t)) Q E s) :
  QL X f (rU λi=>.int (g i)):=by
 intro pins s σ H x v Q I rx h;obtain⟨i,rfl,q⟩:=h;obtain⟨t,rfl⟩:=rx;exact rule i t s _ _ ⟨.int (g i),H,I.tok _,⟨_,rfl⟩,q⟩
theorem BN:QL X (unaryOp .USub) (rU λi=>.int (-i)):=XR λ_ _ _ _ _ q=>neg_int q
end
section
variable {X:Cx} {a b c:Expr} {ta tb tc:TE} {pos:Pos}
theorem mT{k k':Bool}(I:Inv X pins σ H s)(q:Q (.bl k) H)(e:k=k'):EP X pins σ Q (.bool k') s:=by
 subst e;exact⟨.bl k,H,I,rfl,q⟩
theorem Nx:jP X (compareOp .Lt) (EB λi j=>.bl (decide (i<j))):=E5 λ_ _ _ _ _ _ _ q=>lt_int q
theorem Ny:jP X (compareOp .LtE) (EB λi j=>.bl (decide (i<=j))):=E5 λ_ _ _ _ _ _ _ q=>le_int q
theorem Nz:jP X (compareOp .Gt) (EB λi j=>.bl (decide (j<i))):=E5 λ_ _ _ _ _ _ _ q=>gt_int q
theorem NB:jP X (compareOp .GtE) (EB λi j=>.bl (decide (j<=i))):=E5 λ_ _ _ _ _ _ _ q=>ge_int q
theorem Ae:jP X (compareOp .In) (λx y H Q=>∃i j,x=.str i/\y=.str j/\Q (.bl (!(Builtin.Str.occurrences j i 0 j.length 1).isEmpty)) H):=by
 intro pins s σ H x y v u Q I rx ry h;obtain⟨i,j,rfl,rfl,q⟩:=h;obtain⟨t,rfl⟩:=rx;obtain⟨t',rfl⟩:=ry;exact in_str (mT I q rfl)
theorem JH:jP X (compareOp .Is) (λx y H Q=>y=.non/\Q (.bl (decide (x=.non))) H):=by
 intro pins s σ H x y v u Q I rx ry h;obtain⟨rfl,q⟩:=h;cases ry;refine is_none_gen (mT I q ?_);cases x<;>first
  | (cases rx;rfl)
  | (obtain⟨t,rfl⟩:=rx;rfl)
theorem Fc:jP X (compareOp .IsNot) (λx y H Q=>y=.non/\Q (.bl (!decide (x=.non))) H):=by
 intro pins s σ H x y v u Q I rx ry h;obtain⟨rfl,q⟩:=h;cases ry;refine isnot_none_gen (mT I q ?_);cases x<;>first
  | (cases rx;rfl)
  | (obtain⟨t,rfl⟩:=rx;rfl)
theorem tF:jP X (compareOp .NotIn) (λx y H Q=>∃i j,x=.str i/\y=.str j/\Q (.bl (!(!(Builtin.Str.occurrences j i 0 j.length 1).isEmpty))) H):=by
 intro pins s σ H x y v u Q I rx ry h;obtain⟨i,j,rfl,rfl,q⟩:=h;obtain⟨t,rfl⟩:=rx;obtain⟨t',rfl⟩:=ry;exact notIn_str (mT I q rfl)
theorem RI(b:Expr)(h:op≠.In:=by decide)(h2:op≠.NotIn:=by decide):behindInMarks op b=false:=by
 have e1:(op==CmpOp.In)=false:=by cases op<;>first|rfl|exact absurd rfl h
 have e2:(op==CmpOp.NotIn)=false:=by cases op<;>first|rfl|exact absurd rfl h2
 cases b<;>simp[behindInMarks,e1,e2]
theorem Fd(ho:jP X (compareOp op) r)(ha:PE X a ta)(hb:PE X b tb)(hm:behindInMarks op b=false):PE X (.Compare a [op] [b] pos) (MN r ta tb):=by
 intro pins s σ H Q I h;exact wpAny_Compare1 (JA ha hb I h λv u s2 x y H2 I2 rx ry q=>ho pins s2 σ H2 x y v u Q I2 rx ry q) hm
noncomputable def BO(t:TE):TT:=λσ H Q=>t σ H λx H'=>∃k,x=.bl k/\Q k H'
theorem yR(ho:jP X (compareOp op) r)(ha:PE X a ta)(hb:PE X b tb)(hm:behindInMarks op b=false):PT X (.Compare a [op] [b] pos) (BO (MN r ta tb)):=by
 intro pins s σ H Q I h;refine wpAny_isTrue_Compare1 (cC (ha pins s σ H _ I h) λv s1 ⟨x,H1,I1,r1,q1⟩=>cC (hb pins s1 σ H1 _ I1 q1) λu s2 ⟨y,H2,I2,r2,q2⟩ =>
  cC (ho pins s2 σ H2 x y v u _ I2 r1 r2 q2) λc s3 ⟨z,H3,I3,r3,k,e,q3⟩=>?_) hm
 subst e;cases r3;exact wpAny_truthy_bool ⟨H3,I3,q3⟩
noncomputable def JI(K:PySem.W.Frag)(x:V)(H:Hp)(k:Bool):Prop :=
 match x with
 | .non=>k=false
 | .bl b=>k=b
 | .int i=>k=(i != 0)
 | .str y=>y.length<=sizeLine/\k=((y.length:Int) != 0)
 | .byt y=>y.size<=sizeLine/\k=((y.size:Int) != 0)
 | .ref p=>(∃xs,gn K H p xs/\k = !xs.isEmpty)\/(∃xs,jm K H p xs/\k = !xs.isEmpty)\/∃kvs,H p=some (.dK kvs)/\k = !kvs.isEmpty
 | _=>False
theorem xE{κ:Type}{kvs:List (κ × V)}{vs:List (κ × Value)}(r:KV kvs vs):(!vs.isEmpty) = !kvs.isEmpty:=by
 cases r<;>rfl
theorem o9(r:Vals xs its):(!its.toArray.isEmpty) = !xs.isEmpty:=by
 cases r<;>simp
theorem mU:(sizeLine:Nat)<2 ^ 63:=by rw[sizeLine_eq];decide
theorem JJ:RG X (λx H Q=>∃k,JI X.K x H k/\Q k H):=by
 intro pins s σ H x v Q I rx h;obtain⟨k,e,q⟩:=h;have hl:=mU;have hs:sizeLine=16777216:=sizeLine_eq;cases x with
 | non =>cases rx;have e':k=false:=e;subst e';exact truthy_none ⟨H,I,q⟩
 | bl b =>cases rx;have e':k=b:=e;subst e';exact wpAny_truthy_bool ⟨H,I,q⟩
 | int i =>obtain⟨t,rfl⟩:=rx;have e':k=(i != 0):=e;subst e';exact PySem.P.truthy_int ⟨H,I,q⟩
 | str y =>obtain⟨t,rfl⟩:=rx;obtain⟨hy,e'⟩:y.length<=sizeLine/\k=((y.length:Int) != 0):=e;subst e';exact PySem.P.truthy_str (by omega) ⟨H,I.tok _,q⟩
 | byt y =>obtain⟨t,rfl⟩:=rx;obtain⟨hy,e'⟩:y.size<=sizeLine/\k=((y.size:Int) != 0):=e;subst e';exact PySem.W.truthy_bytes (by omega) ⟨H,I.tok _,q⟩
 | ref p =>
  cases rx;have e':(∃xs,gn X.K H p xs/\k = !xs.isEmpty)\/(∃xs,jm X.K H p xs/\k = !xs.isEmpty)\/∃kvs,H p=some (.dK kvs)/\k = !kvs.isEmpty:=e
  rcases e' with ⟨xs,hx,e'⟩|⟨xs,hx,e'⟩|⟨kvs,hx,e'⟩
  ·subst e';obtain⟨its,r,pl,hz⟩:=I.list hx;have hlen:=r.length;exact wpAny_truthy_list pl.isList (by simp only[size_toArray];omega) ⟨H,I.tok _,by rw[o9 r];exact q⟩
  ·subst e';obtain⟨its,r,pl,hz⟩:=I.tuple hx;have hlen:=r.length;exact truthy_tuple pl (by simp only[size_toArray];omega) ⟨H,I.tok _,by rw[o9 r];exact q⟩
  ·subst e';obtain⟨hz,hS,vs,r,m⟩:kvs.length<=sizeLine/\(p==sysModules)=false/\∃vs,KV kvs vs/\s.heap.DictOf (aQ X.prog X.w) p vs:=I.hok p _ hx;have hlen:kvs.length=vs.length:=Paired.length r;exact wpAny_truthy_dict hS m (by omega) ⟨H,I.tok _,by rw[xE r];exact q⟩
 | _=>exact(show False from e).elim
theorem BP(ha:PE X a ta)(he:∀whole,isTrue a X.env whole=(do let v <-whole;standAt a.pos;holding [v] (truthy v))) :
  PT X a (λσ H Q=>ta σ H λx H'=>∃k,JI X.K x H' k/\Q k H'):=by
 intro pins s σ H Q I h;exact isTrue_plain (cC (ha pins s σ H _ I h) λv s1 ⟨x,H1,I1,r1,q1⟩=>JJ pins s1 σ H1 x v Q I1 r1 q1) (he _)
theorem xF:jP X (binaryOp .Add) (λx y H Q=>∃i j,x=.str i/\y=.str j/\i.length+j.length<=sizeLine/\Q (.str (i++j)) H):=by
 intro pins s σ H x y v u Q I rx ry h;obtain⟨i,j,rfl,rfl,hz,q⟩:=h;obtain⟨t,rfl⟩:=rx;obtain⟨t',rfl⟩:=ry;exact add_str (λt' tk=>⟨.str (i++j),H,I.tok _,⟨_,rfl⟩,q⟩) hz
theorem vals1(r:Vals [x] us):∃u,us=[u]/\RelV x u:=by
 cases r with
 | cons r1 r2=>cases r2;exact⟨_,rfl,r1⟩
theorem vals2(r:Vals [x,y] us):∃u w',us=[u,w']/\RelV x u/\RelV y w':=by
 cases r with
 | cons r1 r2 =>
  cases r2 with
  | cons r3 r4=>cases r4;exact⟨_,_,rfl,r1,r3⟩
theorem Af(hc:X.calm=true):cH X (.builtin "max") (λxs H Q=>∃i j,xs=[.int i,.int j]/\Q (.int (if j>i then j else i)) H):=by
 intro pins s σ H xs us Q I r h;obtain⟨i,j,rfl,q⟩:=h;obtain⟨u,w',rfl,⟨t,rfl⟩,⟨t',rfl⟩⟩:=vals2 r;refine max_two_ints (I.ok.hd hc) λh' tk k=>⟨_,H,I.kept k,?_,q⟩
 by_cases hj:j>i
 ·rw[if_pos hj,if_pos hj];exact⟨_,rfl⟩
 ·rw[if_neg hj,if_neg hj];exact⟨_,rfl⟩
theorem Ag(hc:X.calm=true):cH X (.builtin "min") (λxs H Q=>∃i j,xs=[.int i,.int j]/\Q (.int (if j<i then j else i)) H):=by
 intro pins s σ H xs us Q I r h;obtain⟨i,j,rfl,q⟩:=h;obtain⟨u,w',rfl,⟨t,rfl⟩,⟨t',rfl⟩⟩:=vals2 r;refine min_two_ints (I.ok.hd hc) λh' tk k=>⟨_,H,I.kept k,?_,q⟩
 by_cases hj:j<i
 ·rw[if_pos hj,if_pos hj];exact⟨_,rfl⟩
 ·rw[if_neg hj,if_neg hj];exact⟨_,rfl⟩
theorem rQ:cH X (.type "int") (λxs H Q=>(∃i,xs=[.int i]/\Q (.int i) H)\/∃k,xs=[.bl k]/\Q (.int (if k then 1 else 0)) H):=by
 intro pins s σ H xs us Q I r h
 rcases h with ⟨i,rfl,q⟩|⟨k,rfl,q⟩
 ·obtain⟨u,rfl,t,rfl⟩:=vals1 r;exact call_int_int ⟨.int i,H,I,⟨_,rfl⟩,q⟩
 ·obtain⟨u,rfl,r1⟩:=vals1 r;cases r1;exact call_int_bool ⟨.int (if k then 1 else 0),H,I.tok _,⟨_,rfl⟩,q⟩
noncomputable def RJ(K:PySem.W.Frag)(x:V)(H:Hp)(n:Nat):Prop :=
 match x with
 | .str y=>y.length<=sizeLine/\n=y.length
 | .byt y=>y.size<=sizeLine/\n=y.size
 | .ref p=>(∃xs,gn K H p xs/\n=xs.length)\/∃xs,jm K H p xs/\n=xs.length
 | _=>False
theorem lJ:cH X (.builtin "len") (λxs H Q=>∃x n,xs=[x]/\RJ X.K x H n/\Q (.int n) H):=by
 intro pins s σ H xs us Q I r h;obtain⟨x,n,rfl,e,q⟩:=h;obtain⟨u,rfl,rx⟩:=vals1 r;have hl:=mU;have hs:sizeLine=16777216:=sizeLine_eq;cases x with
 | str y =>obtain⟨t,rfl⟩:=rx;obtain⟨hy,e'⟩:y.length<=sizeLine/\n=y.length:=e;subst e';exact len_str (by omega) ⟨.int _,H,I.tok _,⟨_,rfl⟩,q⟩
 | byt y =>obtain⟨t,rfl⟩:=rx;obtain⟨hy,e'⟩:y.size<=sizeLine/\n=y.size:=e;subst e';exact PySem.W.len_bytes (by omega) ⟨.int _,H,I.tok _,⟨_,rfl⟩,q⟩
 | ref p =>
  cases rx;have e':(∃xs,gn X.K H p xs/\n=xs.length)\/∃xs,jm X.K H p xs/\n=xs.length:=e
  rcases e' with ⟨xs,hx,e'⟩|⟨xs,hx,e'⟩
  ·subst e';obtain⟨its,r',pl,hz⟩:=I.list hx;have hlen:=r'.length;exact Calls.call_len_list pl.isList (by simp only[size_toArray];omega) ⟨.int xs.length,H,I.tok _,⟨_,by simp only[size_toArray];rw[hlen]⟩,q⟩
  ·subst e';obtain⟨its,r',pl,hz⟩:=I.tuple hx;have hlen:=r'.length;exact len_tuple pl (by simp only[size_toArray];omega) ⟨.int xs.length,H,I.tok _,⟨_,by simp only[size_toArray];rw[hlen]⟩,q⟩
 | _=>exact(show False from e).elim
end
end L2
namespace L2
open PySem PySem.Spec PyProof.Rows
structure xG (h:Heap) (x dx C:Addr) (mA:Str->Option Value):Prop where
 obj:h.get? x=some (instObj C dx)
 ns:h.Ns1 dx mA
 ne:dx≠x
theorem Ah{h:Heap}{dx:Addr}{mA:Str->Option Value}(n:h.Ns1 dx mA):∃od,h.get? dx=some od/\∀name,lookIn name od=some (mA name):=by
 obtain⟨o,es,ep,ho,hd,hk,_,hm⟩:=n;refine⟨o,ho,λname=>?_⟩;have e:=hm name;unfold nsFind findBy at e;rw[<-Array.find?_toList] at e;unfold lookIn;rw[hd];dsimp only
 split
 ·rename_i y q;rw[q] at e;exact congrArg some e
 ·rename_i q
  rw[q] at e;have a:es.toList.any (·.refKey)=false:=by rw[List.any_eq_false];intro y hy;obtain⟨z,t,hkey⟩:=hk y (Array.mem_toList_iff.mp hy);simp[DictEntry.refKey,hkey]
  have a':¬ es.toList.any (·.refKey)=true:=by rw[a];exact Bool.false_ne_true
  rw[if_neg a'];exact congrArg some e
theorem xG.look(I:xG h x dx C mA):∃od,PySem.W.InstAt h x (instObj C dx) C (some od)/\∀name,lookIn name od=some (mA name) :=
 let ⟨od,ho,hl⟩:=Ah I.ns
 ⟨od,⟨I.obj,rfl,rfl,ho⟩,hl⟩
section
variable {prog:Program} {w:World} {A:Around} {E:Value->Shared->Prop} {s:Shared} {K:PySem.W.Frag} {x dx C f:Addr} {mA:Str->Option Value} {name:Str} {v:Value}
theorem get_map{expr:Bool}(X:K.In s.heap)(I:xG s.heap x dx C mA)(hg:plainGet K C name=true)(hh:hasDictIn K C=true)
  (ha:findIn K (.ref C) name=some none) (hv:mA name=some v) (hv':handedIn v=true) (h:Q v { s with toks:=s.toks+1 }) :
  wpAny (model prog w) A (getAttr (.ref x) name expr) Q E s:=by
 obtain⟨od,J,hl⟩:=I.look;exact PySem.W.get_value X J (plainGet_of hg).1 (PySem.W.findObj_own hh ha rfl (by rw[hl,hv])) hv' h
theorem BQ(X:K.In s.heap)(I:xG s.heap x dx C mA)(hg:plainGet K C name=true)
  (hf:findIn K (.ref C) name=some (some (.ref f))) (ht:PySem.W.isFn K (.ref f)=true) (hv:mA name=none) (h:Q (.ref f,[.ref x]) s) :
  wpAny (model prog w) A (getMethod (.ref x) name pl) Q E s:=by
 obtain⟨od,J,hl⟩:=I.look;exact PySem.W.method_fn X J (plainGet_of hg).1 (plainGet_of hg).2 hf (beq_iff_eq.mp ht) (by show (lookIn name od).map (·.isSome)=some false;rw[hl,hv];rfl) h
theorem Fe(X:K.In s.heap)(I:xG s.heap x dx C mA)
  (hs:findIn K (.ref C) "__setattr__" = some (some (.builtin "object.__setattr__"))) (hp:plainOver K C=true) (ht:takerIn K C name=some none) (hh:hasDictIn K C=true)
  (hw:PySem.Within mA ns) (hsz:ns.length<=sizeLine)
  (h:∀h',xG h' x dx C (λy=>if y=name then some v else mA y)->Heap.SameBut dx s.heap h'->Q () { s with heap:=h',toks:=s.toks+2 }) :
  wpAny (model prog w) A (setAttr (.ref x) name v) Q E s:=by
 obtain⟨od,J,hl⟩:=I.look;refine PySem.W.set_plain X J hs (PySem.W.osa_open (s:={ s with toks:=s.toks+1 }) (r:=none) X J hp ht λb=>?_);obtain⟨cd,hc,hd'⟩:=PySem.W.any_some hh;have hx:s.heap.get? x=some ⟨.ref C,some dx,.plain,#[]⟩:=I.obj;refine wpAny_bind (wpAny_pure (wpAny_bind (wpAny_bind (wpAny_loadPart hx (wpAny_bind (PySem.W.Looks.here (s:={ s with toks:=s.toks+1 }) (PySem.W.looks_clsIn X hc) ?_))))));rw[hd'];refine wpAny_pure (a:=some dx) (wpAny_bind (wpAny_pure (wpAny_bind ?_)));refine wpAny_nsSet1 (s:={ s with toks:=s.toks+1 }) I.ns λh' hn2 hs2=>?_;obtain⟨oD,esD,epD,XS,XT,XU⟩:=hn2.count (PySem.Within.cons name v hw);refine wpAny_bind (wpAny_lookBehind XS (by rw[XT];exact pastItsLine_dict (le_trans XU (by rw[length_cons];omega))) ?_);exact wpAny_pure (h _ ⟨(hs2.2 _ (Ne.symm I.ne)).trans I.obj,hn2,I.ne⟩ hs2)
theorem BR(X:K.In s.heap)(hm:makesIn K C=true)
  (hi:findIn K (.ref C) "__init__" = some (some (.ref f))) (hf:typeIn K (.ref f)=some (.type "function"))
  (h:codeAny (model prog w) (A.under (.builtin "type.__call__" ⟨.ref C::vs,kw⟩)) (.call (.ref f) ⟨.ref (s.heap.objs.size+1)::vs,kw⟩) (PySem.W.InitBack (s.heap.objs.size+1) R)
   { s with heap:=(s.heap.push emptyDict).push (instObj C s.heap.objs.size) }) :
  codeAny (model prog w) A (.call (.ref C) ⟨vs,kw⟩) R s:=by
 obtain⟨hh,g,d,t,os⟩:=s;exact PySem.W.make_core (PySem.W.makes_of X hm) (PySem.W.looks_findIn X hi) (λself=>PySem.W.bind_fn X self hf) (.inl rfl) h
end
noncomputable def jq(f:Str)(v:V):List (Str×V)->List (Str×V)
 | []=>[(f,v)]
 | (g,x)::r=>if g=f then (g,v)::r else (g,x)::jq f v r
theorem nP(f g:Str)(v:V):∀fs:List (Str×V),(jq f v fs).lookup g=if g=f then some v else fs.lookup g
 | []=>by
  show List.lookup g [(f,v)]=_
  by_cases h:g=f
  ·have hb:(g==f)=true:=beq_iff_eq.mpr h;simp only[List.lookup,hb,if_pos h]
  ·have hb:(g==f)=false:=beq_eq_false_iff_ne.mpr h;simp only[List.lookup,hb,if_neg h]
 | (k,x)::r=>by
  have ih:=nP f g v r;rw[show jq f v ((k,x)::r)=(if k=f then (k,v)::r else (k,x)::jq f v r) from rfl]
  by_cases hk:k=f
  ·rw[if_pos hk]
   by_cases h:g=k
   ·have hb:(g==k)=true:=beq_iff_eq.mpr h;simp only[List.lookup,hb,if_pos (h.trans hk)]
   ·have hb:(g==k)=false:=beq_eq_false_iff_ne.mpr h;simp only[List.lookup,hb,if_neg (λe:g=f=>h (e.trans hk.symm))]
  ·rw[if_neg hk]
   by_cases h:g=k
   ·have hb:(g==k)=true:=beq_iff_eq.mpr h;simp only[List.lookup,hb,if_neg (λe:g=f=>hk (h.symm.trans e))]
   ·have hb:(g==k)=false:=beq_eq_false_iff_ne.mpr h;simp only[List.lookup,hb];exact ih
theorem mV(f:Str)(v:V):∀fs:List (Str×V),f∈(jq f v fs).map (·.1)/\∀g,g∈fs.map (·.1)->g∈(jq f v fs).map (·.1)
 | []=>⟨by simp[jq],λg h=>by simp at h⟩
 | (k,x)::r=>by
  obtain⟨i1,i2⟩:=mV f v r;rw[show jq f v ((k,x)::r)=(if k=f then (k,v)::r else (k,x)::jq f v r) from rfl]
  by_cases hk:k=f
  ·rw[if_pos hk];subst hk;exact⟨by simp,λg h=>by simpa using h⟩
  ·rw[if_neg hk]
   refine⟨?_,λg h=>?_⟩
   ·rw[map_cons];exact mem_cons_of_mem _ i1
   ·rw[map_cons] at h |-
    rcases mem_cons.mp h with e|e
    ·exact mem_cons.mpr (.inl e)
    ·exact mem_cons_of_mem _ (i2 g e)
theorem nQ(f:Str)(v:V):∀fs:List (Str×V),(jq f v fs).length<=fs.length+1
 | []=>by simp[jq]
 | (k,x)::r=>by
  have ih:=nQ f v r;rw[show jq f v ((k,x)::r)=(if k=f then (k,v)::r else (k,x)::jq f v r) from rfl]
  by_cases hk:k=f
  ·rw[if_pos hk,length_cons,length_cons];omega
  ·rw[if_neg hk,length_cons,length_cons];omega
theorem jO.some_of(r:jO (some v) o):∃u,o=some u/\RelV v u:=by
 cases o with
 | none=>exact(show False from r).elim
 | some u=>exact⟨u,rfl,r⟩
theorem jO.none_of(r:jO none o):o=none:=by
 cases o with
 | none=>rfl
 | some u=>exact(show False from r).elim
theorem Ai(r:RelV v u):handedIn u=true:=by
 cases v with
 | non=>cases (show u=Value.none from r);rfl
 | bl b=>cases (show u=Value.bool b from r);rfl
 | int i=>obtain⟨t,e⟩:=(show ∃t,u=Value.int i t from r);cases e;rfl
 | str x=>obtain⟨t,e⟩:=(show ∃t,u=Value.str x t from r);cases e;rfl
 | byt b=>obtain⟨t,e⟩:=(show ∃t,u=Value.bytes b t from r);cases e;rfl
 | flt b=>obtain⟨t,e⟩:=(show ∃t,u=Value.float b t from r);cases e;rfl
 | ref a=>cases (show u=Value.ref a from r);rfl
 | ty n=>cases (show u=Value.type n from r);rfl
section
variable {P:Program} {w:World} {H H':Hp} {h h':Heap} {a C dx:Addr} {fs fs':List (Str×V)}
theorem oN(hok:lq P w H h)(e:H a=some (.ins C dx fs)):∃mA,xG h a dx C mA/\(∀f,jO (fs.lookup f) (mA f))/\PySem.Within mA (fs.map (·.1))/\fs.length<=1000/\H dx=some (.own a):=by
 obtain⟨d,z,ne,ob,mA,n,r,q⟩:=(show bE P w H h a (.ins C dx fs) from hok a _ e);exact⟨mA,⟨ob,n,ne⟩,r,q,z,d⟩
end
structure Aj (K:PySem.W.Frag) (C:Addr):Prop where
 pg:plainGet K C Str.empty=true
 hd:hasDictIn K C=true
 po:plainOver K C=true
 sa:findIn K (.ref C) "__setattr__" = some (some (.builtin "object.__setattr__"))
theorem Aj.get{K:PySem.W.Frag}{C:Addr}(c:Aj K C)(f:Str):plainGet K C f=true:=c.pg
noncomputable def jU(K:PySem.W.Frag)(C:Addr)(f:Str):Prop:=findIn K (.ref C) f=some none
theorem jU.NC{K:PySem.W.Frag}{C:Addr}{f:Str}(n:jU K C f):takerIn K C f=some none:=by
 unfold takerIn;rw[show findIn K (.ref C) f=some none from n];rfl
structure Meth (K:PySem.W.Frag) (C:Addr) (m:Str) (f:Addr):Prop where
 at_:findIn K (.ref C) m=some (some (.ref f))
 fn:PySem.W.isFn K (.ref f)=true
 kp:keepIn K (.ref f)=true
section
variable {X:Cx} {pins:List (Addr×Obj)} {σ:St} {H:Hp} {s:Shared} {a C dx:Addr} {fs:List (Str×V)} {f:Str} {v:V} {A:Around} {E:Value->Shared->Prop}
theorem xH{b:Bool}(I:Inv X pins σ H s)(e:H a=some (.ins C dx fs))(c:Aj X.K C)(n:jU X.K C f)(l:fs.lookup f=some v)
  (h:∀u s',Inv X pins σ H s'->RelV v u->Q u s'):wpAny (model X.prog X.w) A (getAttr (.ref a) f b) Q E s:=by
 obtain⟨mA,O,r,_,_,_⟩:=oN I.hok e;obtain⟨u,hu,ru⟩:=jO.some_of (v:=v) (o:=mA f) (by rw[<-l];exact r f);exact get_map I.jI O (c.get f) c.hd n hu (Ai ru) (h u _ (I.tok _) ru)
theorem pe(I:Inv X pins σ H s)(e:H a=some (.ins C dx fs))(c:Aj X.K C)(k:Meth X.K C m g)(l:fs.lookup m=none)
  (h:Q (.ref g,[.ref a]) s):wpAny (model X.prog X.w) A (getMethod (.ref a) m pl) Q E s:=by
 obtain⟨mA,O,r,_,_,_⟩:=oN I.hok e;have hn:mA m=none:=jO.none_of (by rw[<-l];exact r m);exact BQ I.jI O (c.get m) k.at_ k.fn hn h
theorem xJ(I:Inv X pins σ H s)(e:H a=some (.ins C dx fs))(c:Aj X.K C)(n:jU X.K C f)(hl:fs.length<1000)(ry:RelV y u)
  (h:∀s',Inv X pins σ (upd H a (.ins C dx (jq f y fs))) s'->Q () s'):wpAny (model X.prog X.w) A (setAttr (.ref a) f u) Q E s:=by
 obtain⟨mA,O,r,wi,_,ho⟩:=oN I.hok e;have hz:(fs.map (·.1)).length<=sizeLine:=by rw[length_map,sizeLine_eq];omega
 refine Fe I.jI O c.sa c.po n.NC c.hd wi hz λh' O' sb=>h _ ?_;have hd:∃o,h'.get? dx=some o:=let ⟨o,_,_,e',_⟩:=O'.ns;⟨o,e'⟩
 refine I.write (x:=a) (e:=dx) (by rw[e];exact True.intro) (.inr ho) (λb q hb z=>(sb.2 b hb).trans z) hd ?_;refine⟨by rw[au O.ne];exact ho,?_,O.ne,O'.obj,_,O'.ns,λg=>?_,λg hg=>?_⟩
 ·have:=nQ f y fs;omega
 ·show jO ((jq f y fs).lookup g) (if g=f then some u else mA g)
  rw[nP]
  by_cases q:g=f
  ·rw[if_pos q,if_pos q];exact ry
  ·rw[if_neg q,if_neg q];exact r g
 ·by_cases q:g=f
  ·rw[q];exact(mV f y fs).1
  ·refine(mV f y fs).2 g (wi g λz=>hg ?_);show (if g=f then some u else mA g)=none;rw[if_neg q];exact z
theorem Inv.made(I:Inv X pins σ H s):Inv X pins σ (upd (upd H s.heap.objs.size (.own (s.heap.objs.size+1))) (s.heap.objs.size+1) (.ins C s.heap.objs.size []))
  { s with heap:=(s.heap.push emptyDict).push (instObj C s.heap.objs.size) }:=by
 have e1:(s.heap.push emptyDict).get? s.heap.objs.size=some emptyDict:=get?_push_size s.heap rfl;have e2:((s.heap.push emptyDict).push (instObj C s.heap.objs.size)).get? (s.heap.objs.size+1)=some (instObj C s.heap.objs.size):=by have:=get?_push_size (s.heap.push emptyDict) (o:=instObj C s.heap.objs.size) rfl;rwa [size_push] at this
 have e3:(s.heap.push emptyDict).Ns s.heap.objs.size (λ_=>none):=⟨emptyDict,#[],_,e1,rfl,(λe he=>absurd he (by simp)),λ_=>rfl⟩;have I1:=I.laid (a:=s.heap.objs.size) (o:=.own (s.heap.objs.size+1)) (h':=s.heap.push emptyDict) (t':=s.toks) (λb u q=>get?_push_of_some _ q) (le_refl _) ⟨_,e1⟩;refine I1.laid (a:=s.heap.objs.size+1) (o:=.ins C s.heap.objs.size []) (t':=s.toks) (λb u q=>get?_push_of_some _ q) (Nat.le_of_eq (size_push _ _)) ?_;have ne:s.heap.objs.size≠s.heap.objs.size+1:=ne_of_lt (lt_succ_self _);refine⟨by rw[au ne,aO],zero_le _,ne,e2,λ_=>none,(Heap.Ns1.of_empty e3).at λo q=>get?_push_of_some _ q,λ_=>True.intro,λy hy=>absurd rfl hy⟩
theorem attr_of(hb:attributeBase e f env (eval e env)=eval e env)
  (h:wpAny (model prog w) A (eval e env) (λo s₁=>wpAny (model prog w) A (getAttr o f true) Q E s₁) E s):wpAny (model prog w) A (eval (.Attribute e f pos) env) Q E s :=
 Attribute_any_ h (by rw[arm_eval_Attribute,hb])
end
noncomputable def tFld(K:PySem.W.Frag)(ta:TE)(f:Str):TE:=λσ H Q=>ta σ H λx H1=>∃a C dx fs v,x=.ref a/\H1 a=some (.ins C dx fs)/\Aj K C/\jU K C f/\fs.lookup f=some v/\Q v H1
noncomputable def RK(K:PySem.W.Frag)(ta tv:TE)(f:Str):TS:=λD σ H=>tv σ H λy H1=>ta σ H1 λx H2=>∃a C dx fs,x=.ref a/\H2 a=some (.ins C dx fs)/\Aj K C/\jU K C f/\fs.length<1000 /\
 D.nx σ (upd H2 a (.ins C dx (jq f y fs)))
section
variable {X:Cx} {o e value:Expr} {f:Str} {pos pos' tpos:Pos} {ta tv:TE}
theorem pe_fld(he:PE X e ta)(hb:attributeBase e f X.env (eval e X.env)=eval e X.env):PE X (.Attribute e f pos) (tFld X.K ta f):=by
 intro pins s σ H Q I h;refine attr_of hb (cC (he pins s σ H _ I h) λu s1 aF=>?_);obtain⟨x,H1,I1,rx,a,C,dx,fs,v,ex,ea,c,n,l,q⟩:=aF;subst ex;obtain rfl:u=Value.ref a:=rx;exact xH I1 ea c n l λu' s2 I2 ru=>⟨v,H1,I2,ru,q⟩
theorem JK(ha:PE X o ta)(hv:PE X value tv)(hs:swapsWith value (some (.Attribute o f pos')) pos.line X.env=pure false):PS X (.Assign [.Attribute o f pos'] value pos) (RK X.K ta tv f):=by
 intro pins s σ H D I h;refine plainObj_wpAny_Assign_Attribute (cC (hv pins s σ H _ I h) λu s1 ⟨y,H1,I1,ry,q⟩=>cC (ha pins s1 σ H1 _ I1 q) λov s2 ⟨x,H2,I2,rx,a,C,dx,fs,ex,ea,c,n,l,q2⟩=>?_) hs;subst ex;obtain rfl:ov=Value.ref a:=rx;exact xJ I2 ea c n l ry λs3 I3=>⟨σ,_,I3,q2⟩
end
section
variable {X:Cx} {pins:List (Addr×Obj)} {σ:St} {H:Hp} {s:Shared} {A:Around} {E:Value->Shared->Prop} {Q:Value->Shared->Prop} {c:Value} {b:Bool}
inductive mW (K:PySem.W.Frag) (H:Hp):V->Value->Prop where
 | non:mW K H .non (.type "NoneType")
 | bl (x:Bool):mW K H (.bl x) (.type "bool")
 | int (i:Int):mW K H (.int i) (.type "int")
 | str (x:Str):mW K H (.str x) (.type "str")
 | flt (x:UInt64):mW K H (.flt x) (.type "float")
 | lst {a:Addr} {xs:List V} (e:H a=some (.lst xs)):mW K H (.ref a) (.type "list")
 | iR {a:Addr} {o:Obj} {xs:List V} (e:H a=some (.iR o (.lst xs))):mW K H (.ref a) (.type "list")
 | tup {a:Addr} {xs:List V} (e:H a=some (.tup xs)):mW K H (.ref a) (.type "tuple")
 | dK {a:Addr} {kvs:List (Key×V)} (e:H a=some (.dK kvs)):mW K H (.ref a) (.type "dict")
 | dT {a:Addr} {kvs:List (List Key×V)} (e:H a=some (.dT kvs)):mW K H (.ref a) (.type "dict")
 | ins {a C dx:Addr} {fs:List (Str×V)} (e:H a=some (.ins C dx fs)) (cl:Aj K C) (ha:findIn K (.ref C) "__class__" = some (some (.builtin "object.__class__")))
   (hn:specialIn K (.builtin "object.__class__") "__get__" = some (some (.builtin "getset_descriptor.__get__"))) (htk:takesIn K (.builtin "object.__class__")=some true)
   (hm:PySem.W.mroIn K C (.type "object")=some true):mW K H (.ref a) (.ref C)
theorem Ak(I:Inv X pins σ H s)(rx:RelV x u)(ty:mW X.K H x t)(e:kitOne X.K t c=some b)(h:∀tk,Q (.bool b) { s with toks:=tk }) :
  wpAny (model X.prog X.w) A (call (.builtin "isinstance") [u,c]) Q E s:=by
 cases ty with
 | non=>cases (show u=Value.none from rx);exact kia_one kitx_none I.jI True.intro e (λz=>nomatch z) h
 | bl y=>cases (show u=Value.bool y from rx);exact kia_one kitx_bool I.jI True.intro e (λz=>nomatch z) h
 | int i=>obtain⟨t,q⟩:=(show ∃t,u=Value.int i t from rx);cases q;exact kia_one kitx_int I.jI True.intro e (λz=>nomatch z) h
 | str y=>obtain⟨t,q⟩:=(show ∃t,u=Value.str y t from rx);cases q;exact kia_one kitx_str I.jI True.intro e (λz=>nomatch z) h
 | flt y=>obtain⟨t,q⟩:=(show ∃t,u=Value.float y t from rx);cases q;exact kia_one PySem.W.kitx_float I.jI True.intro e (λz=>nomatch z) h
 | @lst a xs ea =>cases (show u=Value.ref a from rx);obtain⟨_,_,n,_,h1⟩:=(show bE X.prog X.w H s.heap a (.lst xs) from I.hok a _ ea);exact kia_one kitx_list I.jI ⟨_,h1,rfl⟩ e (λz=>nomatch z) h
 | @iR a ob xs ea =>cases (show u=Value.ref a from rx);obtain⟨_,_,_,n,_,h1⟩:=(show bE X.prog X.w H s.heap a (.iR ob (.lst xs)) from I.hok a _ ea);exact kia_one kitx_list I.jI ⟨_,h1,rfl⟩ e (λz=>nomatch z) h
 | @tup a xs ea =>cases (show u=Value.ref a from rx);obtain⟨_,_,_,p⟩:=(show bE X.prog X.w H s.heap a (.tup xs) from I.hok a _ ea);obtain⟨o,h1,h2,_⟩:=p;exact kia_one kitx_tuple I.jI ⟨o,h1,h2⟩ e (λz=>nomatch z) h
 | @dK a kvs ea =>cases (show u=Value.ref a from rx);obtain⟨_,_,vs,_,p⟩:=(show bE X.prog X.w H s.heap a (.dK kvs) from I.hok a _ ea);obtain⟨o,es,ep,h1,h2,_⟩:=p;exact kia_one kitx_dict I.jI ⟨o,h1,h2.1⟩ e (λz=>nomatch z) h
 | @dT a kvs ea =>cases (show u=Value.ref a from rx);obtain⟨_,_,xs,_,o,es,ep,h1,h2,_⟩:=(show bE X.prog X.w H s.heap a (.dT kvs) from I.hok a _ ea);exact kia_one kitx_dict I.jI ⟨o,h1,h2.1⟩ e (λz=>nomatch z) h
 | @ins a C dx fs ea cl ha hn htk hm =>cases (show u=Value.ref a from rx);obtain⟨mA,O,_⟩:=oN I.hok ea;obtain⟨od,J,_⟩:=O.look;exact kia_one (PySem.W.kitx_own (cl.get _) cl.hd ha hn htk hm) I.jI J e (λz=>nomatch z) h
end
end L2
namespace L2
open PySem PySem.Spec PyProof.Rows
structure di (k:Nat) (A:Around):Prop where
 hd:A.handled=none
 dp:A.depth+3*k+5<recursionLimit
 un:A.units+16*k+200<cLine
theorem di.mono{j k:Nat}(r:di k A)(h:j<=k):di j A:=⟨r.hd,by have:=r.dp;omega,by have:=r.un;omega⟩
theorem di.deeper{k:Nat}(r:di (k+1) A)(env:Env):di k (A.deeper env) :=
 ⟨r.hd,by have:=r.dp;show A.depth+1+3*k+5<_;omega,by have:=r.un;show A.units+3+16*k+200<_;omega⟩
theorem xK{A:Around}{C:Addr}{us:List Value}{kw:List (Str×Value)}:(A.under (.builtin "type.__call__" ⟨.ref C::us,kw⟩)).depth=A.depth+1:=by
 first|rfl|simp[Around.under,Code.weight,Code.isCreation,Code.isGuard,Code.isCaller,Code.frames,Code.isFrame,guardIds]
theorem xM{A:Around}{C:Addr}{us:List Value}{kw:List (Str×Value)}:(A.under (.builtin "type.__call__" ⟨.ref C::us,kw⟩)).units=A.units+1:=by
 first|rfl|simp[Around.under,Code.cUnits,Code.frames,Code.isFrame]
theorem di.make{k:Nat}(r:di (k+1) A)(C:Addr)(us:List Value)(kw:List (Str×Value)):di k (A.under (.builtin "type.__call__" ⟨.ref C::us,kw⟩)) :=
 ⟨r.hd,by have:=r.dp;rw[xK];omega,by have:=r.un;rw[xM];omega⟩
theorem di.depth{k:Nat}(r:di k A):A.depth<recursionLimit:=by have:=r.dp;omega
theorem di.units{k:Nat}(r:di k A):A.units+64<cLine:=by have:=r.un;omega
noncomputable def JL:TA:=λ_ H Q=>Q [] H
noncomputable def ND(ta:TE)(tr:TA):TA:=λσ H Q=>ta σ H λx H1=>tr σ H1 λxs H2=>Q (x::xs) H2
section
variable {X:Cx} {e:Expr} {es:List Expr} {te:TE} {t:TA} {pos:Pos}
theorem xN:PA X [] JL:=λ_ _ _ _ H Q I h=>Calls.spliced_nil ⟨[],H,I,.nil,h⟩
theorem lK(ha:PE X e te)(hr:PA X es t)(hs:starEach (e::es) X.env=(false,eval e X.env)::starEach es X.env:=by rfl):PA X (e::es) (ND te t):=by
 intro pos pins s σ H Q I h;rw[hs];show wpAny _ _ (spliced ((false,eval e X.env)::backTo pos (starEach es X.env))) _ _ s;refine Calls.spliced_cons (cC (ha pins s σ H _ I h) λu s1 aF=>?_);obtain⟨x,H1,I1,r1,q1⟩:=aF;exact cC (hr pos pins s1 σ H1 _ I1 q1) λus s2 ⟨xs,H2,I2,r2,q2⟩=>⟨x::xs,H2,I2,.cons r1 r2,q2⟩
noncomputable def RM(t:TA):TE:=λσ H Q=>t σ H λxs H1=>xs.length<=sizeLine/\∀p,H1 p=none->Q (.ref p) (upd H1 p (.tup xs))
noncomputable def RO(t:TA):TE:=λσ H Q=>t σ H λxs H1=>xs.length<=sizeLine/\∀p,H1 p=none->Q (.ref p) (upd H1 p (.lst xs))
theorem JM{x1}(h:PA X es t):PE X (.Tuple es x1 pos) (RM t):=by
 intro pins s σ H Q I hq;refine wpAny_Tuple_spliced (cC (h pos pins s σ H _ I hq) λus s1 ⟨xs,H1,I1,r,z,q⟩=>⟨by rw[<-r.length];exact z,?_⟩);have hf:H1 s1.heap.objs.size=none:=I1.hok.fresh (le_refl _);refine⟨.ref s1.heap.objs.size,upd H1 s1.heap.objs.size (.tup xs),I1.laid (t':=s1.toks) (λb u e=>get?_push_of_some _ e) (le_refl _) ?_,rfl,q _ hf⟩;exact⟨z,us,r,⟨_,get?_push_size _ rfl,rfl,_,rfl⟩⟩
theorem JN(h:PA X es t):PE X (.List es pos) (RO t):=by
 intro pins s σ H Q I hq;refine wpAny_List_spliced (cC (h pos pins s σ H _ I hq) λus s1 ⟨xs,H1,I1,r,z,q⟩=>⟨by rw[<-r.length];exact z,?_⟩);have hf:H1 s1.heap.objs.size=none:=I1.hok.fresh (le_refl _);refine⟨.ref s1.heap.objs.size,upd H1 s1.heap.objs.size (.lst xs),I1.laid (t':=s1.toks) (λb u e=>get?_push_of_some _ e) (le_refl _) ?_,rfl,q _ hf⟩;exact⟨z,us,0,r,get?_push_size _ rfl⟩
end
noncomputable abbrev Sp:=List V->Hp->VK->XK->Prop
noncomputable abbrev Am:=List Env->Hp->Shared->XK->Value->Shared->Prop
structure xO (P:Program) (w:World) (K:PySem.W.Frag) (mg:Str->Option Value) (base:Heap) (A:Around) (outer:List Env) (s:Shared) (H:Hp):Prop where
 frames:A.frames=some outer
 mod:Mod K mg base
 bs:∀b o,base.get? b=some o->s.heap.get? b=some o/\H b=none
 HY:base.objs.size<=s.heap.objs.size
 oq:s.heap.FunFrames base outer
 Jg:∀b∈frs outer,H b=none
 hok:lq P w H s.heap
 bare:AllBare s.gens
noncomputable def CE(outer:List Env)(P:Program)(w:World)(H:Hp)(s:Shared)(Q:VK)(u:Value)(s':Shared):Prop :=
 ∃v H',s'.os=s.os/\AllBare s'.gens/\Un (frs outer) [] H H' s.heap s'.heap/\lq P w H' s'.heap/\RelV v u/\Q v H'
noncomputable def CR(CX:Am)(outer:List Env)(P:Program)(w:World)(H:Hp)(s:Shared)(Q:VK)(E:XK)(r:Result)(s':Shared):Prop :=
 match r with
 | .ok (.ret u)=>CE outer P w H s Q u s'
 | .ok _=>False
 | .error e=>CX outer H s E e s'
structure fE (P:Program) (w:World) (K:PySem.W.Frag) (mg:Str->Option Value) (base:Heap) (CX:Am) (k:Nat) (f:Addr) (fd:FuncData) (ps:List Str) (sp:Sp):Prop where
 len:∀vs H Q E,sp vs H Q E->vs.length=ps.length
 run:∀(A:Around) (outer:List Env) (s:Shared) (H:Hp) (args:Args) (us:List Value) (vs:List V) (Q:VK) (E:XK),di k A->xO P w K mg base A outer s H->BindsTo s fd args (ps.zip us)->Vals vs us->sp vs H Q E ->
  codeAny (model P w) A (.call (.ref f) args) (CR CX outer P w H s Q E) s
theorem fE.mono{P:Program}{w:World}{K:PySem.W.Frag}{mg:Str->Option Value}{base:Heap}{CX:Am}{j k:Nat}{f:Addr}{fd:FuncData}{ps:List Str}{sp:Sp}(F:fE P w K mg base CX j f fd ps sp)(h:j<=k) :
  fE P w K mg base CX k f fd ps sp:=⟨F.len,λA outer s H args us vs Q E hr=>F.run A outer s H args us vs Q E (hr.mono h)⟩
theorem fE.imp{P:Program}{w:World}{K:PySem.W.Frag}{mg:Str->Option Value}{base:Heap}{CX:Am}{k:Nat}{f:Addr}{fd:FuncData}{ps:List Str}{sp V7:Sp}(F:fE P w K mg base CX k f fd ps sp)
  (h:∀vs H Q E,V7 vs H Q E->sp vs H Q E):fE P w K mg base CX k f fd ps V7 :=
 ⟨λvs H Q E q=>F.len vs H Q E (h _ _ _ _ q),λA outer s H args us vs Q E hr he hb hv hs=>F.run A outer s H args us vs Q E hr he hb hv (h _ _ _ _ hs)⟩
theorem xO.make{P:Program}{w:World}{K:PySem.W.Frag}{mg:Str->Option Value}{base:Heap}{A:Around}{outer:List Env}{s:Shared}{H:Hp}(e:xO P w K mg base A outer s H)(C:Addr)(us:List Value)(kw:List (Str×Value)) :
  xO P w K mg base (A.under (.builtin "type.__call__" ⟨.ref C::us,kw⟩)) outer s H:=⟨by first|exact e.frames|(simpa [Around.under,Code.envs,Code.isFrame,pushEnvs] using e.frames),e.mod,e.bs,e.HY,e.oq,e.Jg,e.hok,e.bare⟩
section
variable {X:Cx} {pins:List (Addr×Obj)} {σ:St} {H:Hp} {s s':Shared}
theorem Inv.oz(I:Inv X pins σ H s):xO X.prog X.w X.K X.mg X.base X.A X.stack s H :=
 ⟨I.ok.frames,I.ok.mod,I.bs,le_trans I.ok.HY I.sz,I.stack,I.yM,I.hok,I.bare⟩
theorem Inv.after(I:Inv X pins σ H s)(h:CE X.stack X.prog X.w H s Q u s'):EP X pins σ Q u s':=by
 obtain⟨v,H',os,bare,un,hok,r,q⟩:=h;obtain⟨hh,g,d,t,os'⟩:=s';obtain rfl:os'=s.os:=os;exact⟨v,H',I.call (h':=hh) (g':=g) (d':=d) (t':=t) (ch:=[]) un hok bare (λb z=>absurd z (by simp)),r,q⟩
end
noncomputable def Ia(sp:Sp)(qY:List V)(E:XK)(t:TA):TE:=λσ H Q=>t σ H λvs H1=>sp (vs++qY) H1 Q E
noncomputable def Ib(C:Addr)(sp:Sp)(qY:List V)(E:XK)(t:TA):TE:=λσ H Q=>t σ H λvs H1=>∀x dx,H1 x=none->H1 dx=none->dx≠x ->
 sp (.ref x::(vs++qY)) (upd (upd H1 dx (.own x)) x (.ins C dx [])) (λv H2=>v=.non/\Q (.ref x) H2) E
noncomputable def Binds(K:PySem.W.Frag)(fd:FuncData)(ps:List Str)(ds:List Value):Prop :=
 ∀(s:Shared) (us:List Value),K.In s.heap->(us++ds).length=ps.length->BindsTo s fd ⟨us,[]⟩ (ps.zip (us++ds))
theorem Binds.all{K:PySem.W.Frag}{fd:FuncData}{ps:List Str}(h:∀us:List Value,us.length=ps.length->bindArgs fd ⟨us,[]⟩=pure (ps.zip us)):Binds K fd ps []:=λs us _ hl=>by
 rw[append_nil] at hl |-;exact .of_eq (h us hl)
noncomputable def Passes(CX:Am)(X:Cx)(E:XK):Prop:=∀(pins:List (Addr×Obj)) (σ:St) (H:Hp) (s:Shared) (e:Value) (s':Shared),Inv X pins σ H s->CX X.stack H s E e s'->X.xe e s'
section
variable {X:Cx} {CX:Am} {k:Nat} {f C:Addr} {fd:FuncData} {ps:List Str} {sp:Sp} {qY:List V} {ds:List Value} {E:XK} {x m:Str} {p pos apos:Pos} {e o:Expr} {es:List Expr} {ta:TE} {t:TA}
theorem pq(F:fE X.prog X.w X.K X.mg X.base CX k f fd ps sp)(hr:di k X.A)(hb:Binds X.K fd ps ds)(hd:Vals qY ds)(hx:Passes CX X E)
  (I:Inv X pins σ H s) (r:Vals vs us) (h:sp (vs++qY) H Q E):wpAny (model X.prog X.w) X.A (call (.ref f) us) (EP X pins σ Q) X.xe s:=by
 have r2:Vals (vs++qY) (us++ds):=r.append hd;have hl:(us++ds).length=ps.length:=by rw[<-r2.length];exact F.len _ _ _ _ h
 refine wpAny_call (codeAny_mono (F.run X.A X.stack s H ⟨us,[]⟩ (us++ds) (vs++qY) Q E hr I.oz (hb s us I.jI hl) r2 h) λr s' hq=>?_);cases r with
 | error e=>exact hx pins σ H s e s' I hq
 | ok fl =>
  cases fl with
  | ret u=>exact I.after hq
  | next=>exact False.elim hq
  | brk=>exact False.elim hq
  | cont=>exact False.elim hq
theorem Ff(F:fE X.prog X.w X.K X.mg X.base CX k f fd ps sp)(hr:di k X.A)(hg:Gl X x)(hm:X.mg x=some (.ref f))(hk:keepIn X.K (.ref f)=true)(hb:Binds X.K fd ps ds)(hd:Vals qY ds)(hx:Passes CX X E)
  (ha:PA X (e::es) t) (hdb:(x==("__debug__":Str))=false:=by decide) (he:starEach (e::es) X.env=(false,eval e X.env)::starEach es X.env:=by rfl) (hpl:(backTo pos (starEach es X.env)).any (·.1)=false:=by rfl) :
  PE X (.Call (.Name x p) (e::es) [] pos) (Ia sp qY E t):=by
 intro pins s σ H Q I h;refine wpAny_Call_Name_kw (kG I hg hm ?_ hdb);refine callWith_K (h₀:=X.base) I.ok.mod.MJ hk (cC (ha pos pins s σ H _ I h) λus s1 ⟨vs,H1,I1,r,q⟩=>⟨I1.jI,?_⟩) he hpl;exact pq F hr hb hd hx I1 r q
theorem BS(F:fE X.prog X.w X.K X.mg X.base CX k f fd ps sp)(hr:di k X.A)(hg:Gl X x)(hm:X.mg x=some (.ref f))(hk:keepIn X.K (.ref f)=true)(hb:Binds X.K fd ps ds)(hd:Vals qY ds)(hx:Passes CX X E)
  (hdb:(x==("__debug__":Str))=false:=by decide):PE X (.Call (.Name x p) [] [] pos) (Ia sp qY E JL):=by
 intro pins s σ H Q I h;refine wpAny_Call_Name_kw (kG I hg hm ?_ hdb);exact callWith_K0 I.jI hk (pq (us:=[]) F hr hb hd hx I .nil h)
structure Mk (K:PySem.W.Frag) (C f:Addr):Prop where
 makes:makesIn K C=true
 init:findIn K (.ref C) "__init__" = some (some (.ref f))
 fn:PySem.W.isFn K (.ref f)=true
 kp:keepIn K (.ref C)=true
theorem uZ(M:Mk X.K C f)(F:fE X.prog X.w X.K X.mg X.base CX k f fd ps sp)(hr:di (k+1) X.A)(hb:Binds X.K fd ps ds)(hd:Vals qY ds)
  (hx:Passes CX X E) (I:Inv X pins σ H s) (r:Vals vs us)
  (h:∀x dx,H x=none->H dx=none->dx≠x->sp (.ref x::(vs++qY)) (upd (upd H dx (.own x)) x (.ins C dx [])) (λv H2=>v=.non/\Q (.ref x) H2) E) :
  wpAny (model X.prog X.w) X.A (call (.ref C) us) (EP X pins σ Q) X.xe s:=by
 have hq:=h (s.heap.objs.size+1) s.heap.objs.size (I.hok.fresh (le_succ _)) (I.hok.fresh (le_refl _)) (ne_of_lt (lt_succ_self _));have I2:=Inv.made (C:=C) I;have r2:Vals (V.ref (s.heap.objs.size+1)::(vs++qY)) (Value.ref (s.heap.objs.size+1)::(us++ds)):=.cons rfl (r.append hd);have hl:(Value.ref (s.heap.objs.size+1)::us++ds).length=ps.length:=by have e:=r2.length;rw[F.len _ _ _ _ hq] at e;exact e.symm
 refine wpAny_call (BR (f:=f) I.jI M.makes M.init (beq_iff_eq.mp M.fn) (codeAny_mono (F.run _ X.stack _ _ ⟨Value.ref (s.heap.objs.size+1)::us,[]⟩ (Value.ref (s.heap.objs.size+1)::(us++ds)) _ _ E (hr.make C us [])
  (I2.oz.make C us []) (hb _ (Value.ref (s.heap.objs.size+1)::us) I2.jI hl) r2 hq) λr s' hq'=>?_))
 cases r with
 | error e=>exact hx pins σ _ _ e s' I2 hq'
 | ok fl =>
  cases fl with
  | ret u =>obtain⟨v,H',I3,rv,ev,q3⟩:=I2.after hq';subst ev;exact⟨rv,⟨V.ref (s.heap.objs.size+1),H',I3,rfl,q3⟩⟩
  | next=>exact False.elim hq'
  | brk=>exact False.elim hq'
  | cont=>exact False.elim hq'
theorem Fg(M:Mk X.K C f)(F:fE X.prog X.w X.K X.mg X.base CX k f fd ps sp)(hr:di (k+1) X.A)(hg:Gl X x)(hm:X.mg x=some (.ref C))(hb:Binds X.K fd ps ds)(hd:Vals qY ds)(hx:Passes CX X E)
  (ha:PA X (e::es) t) (hdb:(x==("__debug__":Str))=false:=by decide) (he:starEach (e::es) X.env=(false,eval e X.env)::starEach es X.env:=by rfl) (hpl:(backTo pos (starEach es X.env)).any (·.1)=false:=by rfl) :
  PE X (.Call (.Name x p) (e::es) [] pos) (Ib C sp qY E t):=by
 intro pins s σ H Q I h;refine wpAny_Call_Name_kw (kG I hg hm ?_ hdb);refine callWith_K (h₀:=X.base) I.ok.mod.MJ M.kp (cC (ha pos pins s σ H _ I h) λus s1 ⟨vs,H1,I1,r,q⟩=>⟨I1.jI,?_⟩) he hpl;exact uZ M F hr hb hd hx I1 r q
theorem BU(M:Mk X.K C f)(F:fE X.prog X.w X.K X.mg X.base CX k f fd ps sp)(hr:di (k+1) X.A)(hg:Gl X x)(hm:X.mg x=some (.ref C))(hb:Binds X.K fd ps ds)(hd:Vals qY ds)(hx:Passes CX X E)
  (hdb:(x==("__debug__":Str))=false:=by decide):PE X (.Call (.Name x p) [] [] pos) (Ib C sp qY E JL):=by
 intro pins s σ H Q I h;refine wpAny_Call_Name_kw (kG I hg hm ?_ hdb);exact callWith_K0 I.jI M.kp (uZ (us:=[]) M F hr hb hd hx I .nil h)
end
section
variable {X:Cx} {CX:Am} {k:Nat} {f C:Addr} {fd:FuncData} {ps ks:List Str} {sp:Sp} {E:XK} {x m:Str} {p pos apos kpos:Pos} {e o:Expr} {es:List Expr} {kws:List Keyword} {te ta:TE} {t tk:TA} {nm:Option Str}
variable {g:List Value->List Value->List Value} {gV:List V->List V->List V}
end
structure oO (N P:List Str) (sc:Scope):Prop where
 kind:sc.kind=.function
 co:sc.isCoroutine=false
 gen:sc.isGenerator=false
 nd:N.Nodup
 pre:N.take P.length=P
 par:∀x∈P,sc.names.lookup x=some .local\/sc.names.lookup x=some .cell
 JO:∀y∈sc.names,y.2≠.free
theorem rR{kindOf:Str->Option NameKind}{x:Str}:∀{binds:List (Str×Value)} {m:Str->Option Value},(∀v,(x,v)∉binds)->bindL kindOf binds m x=m x
 | [],_,_=>rfl
 | (n,v)::r,m,h=>by
  unfold bindL;rw[rR λw hw=>h w (mem_cons_of_mem _ hw)]
  split
  ·have:x≠n:=by rintro rfl;exact h v mem_cons_self
   simp[this]
  ·rfl
theorem rS{kindOf:Str->Option NameKind}{x:Str}:∀{binds:List (Str×Value)} {m:Str->Option Value},(∀v,(x,v)∉binds)->bindC kindOf binds m x=m x
 | [],_,_=>rfl
 | (n,v)::r,m,h=>by
  unfold bindC;rw[rS λw hw=>h w (mem_cons_of_mem _ hw)]
  split
  ·rfl
  ·have:x≠n:=by rintro rfl;exact h v mem_cons_self
   simp[this]
theorem rT{kindOf:Str->Option NameKind}{x:Str}{v:Value}:∀{P:List Str} {vs:List Value} {i:Nat} {m:Str->Option Value},P.Nodup->P[i]?=some x->vs[i]?=some v->kindOf x=some .local ->
  bindL kindOf (P.zip vs) m x=some v
 | [],_,_,_,_,h,_,_=>by simp at h
 | _::_,[],_,_,_,_,h,_=>by simp at h
 | p::P,w::vs,0,m,nd,h1,h2,hk=>by
  simp at h1 h2;subst h1;subst h2;show bindL kindOf ((p,w)::P.zip vs) m p=_;unfold bindL;rw[rR λv hv=>(nodup_cons.mp nd).1 (of_mem_zip hv).1,if_pos hk];simp
 | p::P,w::vs,i+1,m,nd,h1,h2,hk=>by
  show bindL kindOf ((p,w)::P.zip vs) m x=_;unfold bindL;exact rT (i:=i) (nodup_cons.mp nd).2 (by simpa using h1) (by simpa using h2) hk
theorem rV{kindOf:Str->Option NameKind}{x:Str}{v:Value}:∀{P:List Str} {vs:List Value} {i:Nat} {m:Str->Option Value},P.Nodup->P[i]?=some x->vs[i]?=some v->kindOf x≠some .local ->
  bindC kindOf (P.zip vs) m x=some v
 | [],_,_,_,_,h,_,_=>by simp at h
 | _::_,[],_,_,_,_,h,_=>by simp at h
 | p::P,w::vs,0,m,nd,h1,h2,hk=>by
  simp at h1 h2;subst h1;subst h2;show bindC kindOf ((p,w)::P.zip vs) m p=_;unfold bindC;rw[rS λv hv=>(nodup_cons.mp nd).1 (of_mem_zip hv).1,if_neg hk];simp
 | p::P,w::vs,i+1,m,nd,h1,h2,hk=>by
  show bindC kindOf ((p,w)::P.zip vs) m x=_;unfold bindC;exact rV (i:=i) (nodup_cons.mp nd).2 (by simpa using h1) (by simpa using h2) hk
noncomputable def start(N:List Str)(vs:List V):St:=vs.map some++replicate (N.length-vs.length) none
noncomputable def xP(CX:Am)(P:Program)(w:World)(K:PySem.W.Frag)(mg:Str->Option Value)(base:Heap)(N:List Str)(qual:Str)(scope:Scope)(f:Addr)(cd:Value)(A:Around)(outer:List Env)(s:Shared)(H:Hp)(E:XK):Cx where
 prog:=P
 w:=w
 K:=K
 mg:=mg
 base:=base
 A:=A.deeper (envOfC qual scope s.heap.objs.size f cd)
 N:=N
 s₀:=s
 H₀:=H
 env:=envOfC qual scope s.heap.objs.size f cd
 outer:=outer
 stack:=envOfC qual scope s.heap.objs.size f cd::outer
 ex:=[]
 calm:=true
 fn:=λ_=>true
 pn:=[]
 xe:=λe s'=>wpAny (model P w) (A.deeper (envOfC qual scope s.heap.objs.size f cd)) (leaving (envOfC qual scope s.heap.objs.size f cd) e) (λ_ s''=>CX outer H s E e s'') (λe' s''=>CX outer H s E e' s'') s'
theorem u5{sc:Scope}{n:Nat}{x:Str}(h:sc.names.lookup x=some .cell):∃c,(cellsFrom n sc.names []).lookup x=some c:=by
 have q:=cellsFrom_some sc.names n [] (.inl h);exact Option.isSome_iff_exists.mp q
theorem An{CX:Am}{P:Program}{w:World}{K:PySem.W.Frag}{mg:Str->Option Value}{base:Heap}{N ps:List Str}{qual:Str}{scope:Scope}{f:Addr}{cd:Value}{A:Around}{outer:List Env}{s s1:Shared}{H:Hp}{E:XK}{us:List Value}{vs:List V}
  (S:oO N ps scope) (hd:A.handled=none) (e0:xO P w K mg base A outer s H) (hl:vs.length=ps.length) (r:Vals vs us)
  (x:InCallC s s.heap.objs.size (bindL (envOfC qual scope s.heap.objs.size f cd).kindOf (ps.zip us) λ_=>none) (cellsFrom (s.heap.objs.size+1) scope.names []) (bindC (envOfC qual scope s.heap.objs.size f cd).kindOf (ps.zip us) λ_=>none) s1) :
  Inv (xP CX P w K mg base N qual scope f cd A outer s H E) [] (start N vs) H s1:=by
 have hpl:ps.length<=N.length:=by have:=congrArg length S.pre;rw[length_take] at this;omega
 obtain⟨h1,tk,rfl,hk⟩:=x.done;have noA:∀b:Addr,b∉(xP CX P w K mg base N qual scope f cd A outer s H E).ex:=λb z=>absurd (show b∈([]:List Addr) from z) (by simp);refine⟨⟨e0.mod,S.kind,rfl,rfl,le_refl _,λy z c h1 h2=>?_,λy hy=>?_,λy c _ h=>?_,λ_=>hd,Around.frames_deeper e0.frames,.inr ⟨rfl,rfl⟩,λb z=>absurd z (noA b),e0.bs,e0.HY,λb _ _=>noA b,λb z=>absurd z (noA b),e0.oq,e0.Jg⟩,
  rfl,e0.bare,Un.kept hk,⟨_,x.toInCall.ns,λi y v h1 h2 h3=>?_⟩,λy c h=>⟨_,x.cell y c h⟩,e0.hok.fresh (le_refl _),λy c h=>?_,λp hp=>absurd (show p∈([]:List (Addr×Obj)) from hp) (by simp),e0.hok.kept hk,?_⟩
 ·exact name_of_addr x.apart (PySem.mem_of_lookup h1) (PySem.mem_of_lookup h2)
 ·have hy:scope.names.lookup y=some .cell\/scope.names.lookup y=some .free:=hy
  rcases hy with hy|hy
  ·exact u5 hy
  ·exact absurd rfl (S.JO _ (PySem.mem_of_lookup hy))
 ·exact le_of_lt (x.above y c (PySem.mem_of_lookup h))
 ·have hi:i<vs.length:=by
   unfold start at h2
   by_cases hi:i<vs.length
   ·exact hi
   ·rw[getElem?_append_right (by simpa using hi)] at h2;rw[List.getElem?_replicate] at h2;split at h2<;>cases h2
  have ha:vs[i]?=some v:=by
   unfold start at h2;rw[getElem?_append_left (by simpa using hi),getElem?_map] at h2;cases e:vs[i]? with
   | none=>rw[e] at h2;cases h2
   | some a=>rw[e] at h2;cases h2;rfl
  obtain⟨u,hu,rv⟩:=r.get ha;have hp:ps[i]?=some y:=by rw[<-S.pre,List.getElem?_take_of_lt (by omega)];exact h1
  have V8:ps.Nodup:=by rw[<-S.pre];exact S.nd.sublist (List.take_sublist _ _)
  refine⟨u,rv,?_⟩
  rcases S.par y (mem_of_getElem? hp) with k|k
  ·exact .inl ⟨k,rT V8 hp hu k⟩
  ·obtain⟨c,e⟩:=u5 (n:=s.heap.objs.size+1) k;refine .inr ⟨.inl k,c,e,?_⟩;have q:=x.cell y c e;rw[rV V8 hp hu (by show scope.names.lookup y≠_;rw[k];decide)] at q;exact q
 ·exact e0.hok.fresh (le_of_lt (x.above y c (PySem.mem_of_lookup h)))
 ·unfold start;show _=N.length;rw[length_append,length_map,List.length_replicate];omega
theorem NG{CX:Am}{P:Program}{w:World}{K:PySem.W.Frag}{mg:Str->Option Value}{base:Heap}{k:Nat}{f:Addr}{name qual:Str}{params:Arguments}{body:List Stmt}{scope:Scope}{dV kV doc pm cdv ct oc:Value}{an od:Option Addr}
  {osl:Array (Option Value)} {N ps:List Str} {sp:Sp} (lk:K.lookup f=some ⟨oc,od,.func (PySem.W.fnOf name qual params body scope dV kV doc pm an cdv ct),osl⟩) (hcd:codeIn K cdv qual=true) (S:oO N ps scope)
  (len:∀vs H Q E,sp vs H Q E->vs.length=ps.length)
  (hbody:∀(A:Around) (outer:List Env) (s:Shared) (H:Hp) (vs:List V) (Q:VK) (E:XK),di k (A.deeper (envOfC qual scope s.heap.objs.size f cdv))->sp vs H Q E ->
   ∃t,xy (xP CX P w K mg base N qual scope f cdv A outer s H E) body t/\t { nx:=λ_ H'=>Q .non H',rt:=Q } (start N vs) H) :
  fE P w K mg base CX (k+1) f (PySem.W.fnOf name qual params body scope dV kV doc pm an cdv ct) ps sp:=by
 refine⟨len,λA outer s H args us vs Q E hr e0 hb r hsp=>?_⟩;have hl:=len _ _ _ _ hsp;have KX:K.In s.heap:=e0.mod.MJ.keeps λb o e=>(e0.bs b o e).1;have lim:s.heap.NoLimit:=e0.mod.nolimit.keeps λb o e=>(e0.bs b o e).1;have hkind:∀y∈ps.zip us,scope.names.lookup y.1=some .local\/(scope.names.lookup y.1=some .cell/\((cellsFrom (s.heap.objs.size+1) scope.names []).lookup y.1).isSome=true):=λ⟨n,v⟩ hy=>by
  rcases S.par n (of_mem_zip hy).1 with q|q
  ·exact .inl q
  ·exact .inr ⟨q,cellsFrom_some _ _ _ (.inl q)⟩
 refine codeAny_call_function hr.depth (KX _ _ lk) rfl S.co S.gen rfl (PySem.W.codeRec_of KX hcd) (hb _ _ _ _ ?_);refine wpAny_newFunctionEnv_cells S.kind hkind λenv he s1 x=>?_;subst he;refine⟨lim.keeps x.toInCall.keep,codeAny_func ?_⟩;obtain⟨t,ht,hq⟩:=hbody A outer s H vs Q E (hr.deeper _) hsp;have I:Inv (xP CX P w K mg base N qual scope f cdv A outer s H E) [] (start N vs) H s1:=An S hr.hd e0 hl r x;refine wpAny_mono (ht [] s1 (start N vs) H _ I hq) (λfl s' hs=>?_) λe s' hs=>hs;have fin:∀{σ':St} {H':Hp} {v:V} {u:Value},Inv (xP CX P w K mg base N qual scope f cdv A outer s H E) [] σ' H' s'->RelV v u->Q v H'->CE outer P w H s Q u s' :=
  λ{σ' H' v u} J rv q=>⟨v,H',J.os,J.bare,J.base,J.hok,rv,q⟩
 cases fl with
 | ret u =>obtain⟨v,σ',H',J,rv,q⟩:=hs;exact fin J rv q
 | next =>obtain⟨σ',H',J,q⟩:=hs;exact fin (v:=V.non) (u:=Value.none) J rfl q
 | brk =>obtain⟨_,_,_,q⟩:=hs;exact False.elim q
 | cont =>obtain⟨_,_,_,q⟩:=hs;exact False.elim q
end L2
namespace L2
open PySem PySem.Spec PyProof.Rows
section
variable {X:Cx} {x:Str} {p pos:Pos} {e:Expr} {es:List Expr} {t:TA} {id T:String} {r:List V->Hp->VK->Prop}
noncomputable def V9(r:List V->Hp->VK->Prop)(t:TA):TE:=λσ H Q=>t σ H λvs H1=>r vs H1 Q
theorem fV(hc:cH X (.builtin id) r)(hg:Gl X x)(hm:X.mg x=none)(hv:bootBuiltins x=some (.builtin id))(ha:PA X (e::es) t)(hn:x ≠ "__name__":=by decide)(hdb:(x==("__debug__":Str))=false:=by decide)
  (he:starEach (e::es) X.env=(false,eval e X.env)::starEach es X.env:=by rfl) (hpl:(backTo pos (starEach es X.env)).any (·.1)=false:=by rfl):PE X (.Call (.Name x p) (e::es) [] pos) (V9 r t):=by
 intro pins s σ H Q I h;refine wpAny_Call_Name_kw (iy I hg hm hv ?_ hn hdb);exact PyProof.Rows.callWith_builtin1 (cC (ha pos pins s σ H _ I h) λus s1 ⟨vs,H1,I1,r1,q1⟩=>hc pins s1 σ H1 vs us Q I1 r1 q1) he hpl
theorem kH(hc:cH X (.type T) r)(hg:Gl X x)(hm:X.mg x=none)(hv:bootBuiltins x=some (.type T))(ha:PA X (e::es) t)(hn:x ≠ "__name__":=by decide)(hdb:(x==("__debug__":Str))=false:=by decide)
  (he:starEach (e::es) X.env=(false,eval e X.env)::starEach es X.env:=by rfl) (hpl:(backTo pos (starEach es X.env)).any (·.1)=false:=by rfl):PE X (.Call (.Name x p) (e::es) [] pos) (V9 r t):=by
 intro pins s σ H Q I h;refine wpAny_Call_Name_kw (iy I hg hm hv ?_ hn hdb);exact PyProof.Rows.callWith_type1 (cC (ha pos pins s σ H _ I h) λus s1 ⟨vs,H1,I1,r1,q1⟩=>hc pins s1 σ H1 vs us Q I1 r1 q1) he hpl
end
end L2
namespace HT
open PySem PyProof.Rows
noncomputable def lexLt:List Int->List Int->Bool
 | [],[]=>false
 | [],_::_=>true
 | _::_,[]=>false
 | x::xs,y::ys=>if x=y then lexLt xs ys else decide (x<y)
theorem fF(x y:Int)(xs ys:List Int):lexLt (x::xs) (y::ys)=if x=y then lexLt xs ys else decide (x<y):=rfl
theorem rA:lexLt [] []=false:=rfl
theorem gD(y:Int)(ys:List Int):lexLt [] (y::ys)=true:=rfl
theorem eL(x:Int)(xs:List Int):lexLt (x::xs) []=false:=rfl
section
open PySem.SeqAt
open PySem.AutoSeq1 (wpAny_loadPart')
open PySem.MeetsSeq PySem.MeetsSeq2 PySem.MeetsSeq3
end
section
variable {prog:Program} {w:World} {A:Around} {E:Value->Shared->Prop} {s:Shared}
theorem Fi(ht:IsTup s.heap t vs.toArray)(hb:IsTup s.heap b ws.toArray)(hv:vs≠[])
  (h1:ws=[]->Q (.ref t) s) (h2:ws≠[]->Q (.ref s.heap.objs.size) { s with heap:=s.heap.push { cls:=.type "tuple",data:=.seq (vs++ws).toArray } })
  (hsz:vs.length+ws.length<=sizeLine):wpAny (model prog w) A (binaryOp .Add (.ref t) (.ref b)) Q E s:=by
 obtain⟨⟨cls,dd,data,sl⟩,ho,hc,n,hd⟩:=id ht;obtain⟨⟨XW,dd2,data2,sl2⟩,ho2,hc2,n2,hd2⟩:=id hb;simp only at hc hd hc2 hd2;subst hc hd hc2 hd2;have e:vs.toArray++ws.toArray=(vs++ws).toArray:=by simp
 by_cases hw:ws=[]
 ·exact concat_meets ⟨_,ho,rfl⟩ ⟨_,ho2,rfl⟩ noFill_tuple_add seq_tuple_add PySem.F.slot_tuple_add PySem.F.entry_tuple_add (PySem.F.args_tuple_add_2 _ _)
   (tuple_addW1 t b vs.toArray ws.toArray n n2 dd dd2 sl sl2 (by simpa using hv) (by simp[hw])) ⟨ho,ho2,h1 hw⟩
 ·refine concat_meets ⟨_,ho,rfl⟩ ⟨_,ho2,rfl⟩ noFill_tuple_add seq_tuple_add PySem.F.slot_tuple_add PySem.F.entry_tuple_add (PySem.F.args_tuple_add_2 _ _)
   (tuple_addW2 t b vs.toArray ws.toArray n n2 dd dd2 sl sl2 (by simpa using hv) (by simpa using hw) (by rw[size_toArray,size_toArray];exact hsz)) ⟨ho,ho2,?_⟩
  rw[e];exact h2 hw
noncomputable def eN(n d:Nat):Option Int->Nat
 | none=>d
 | some v=>if v<0 then (v+(n:Int)).toNat else min v.toNat n
theorem JP(n d:Nat)(hd:d<=n)(o:Option Int):eN n d o<=n:=by
 cases o with
 | none=>exact hd
 | some v =>
  show (if v<0 then (v+(n:Int)).toNat else min v.toNat n)<=n
  by_cases hv:v<0
  ·rw[if_pos hv];omega
  ·rw[if_neg hv];exact Nat.min_le_right _ _
theorem yS(v:Int)(n d:Nat):(if v<0 then max (v+(n:Int)) 0 else min v (n:Int))=((eN n d (some v):Nat):Int):=by
 show (if v<0 then max (v+(n:Int)) 0 else min v (n:Int))=(((if v<0 then (v+(n:Int)).toNat else min v.toNat n):Nat):Int)
 by_cases hv:v<0
 ·simp only[if_pos hv];omega
 ·simp only[if_neg hv];omega
theorem xQ(lo hi:Option Int)(n:Nat):Builtin.Slice.sliceAdjust lo hi 1 (n:Int)=(((eN n 0 lo:Nat):Int),((eN n n hi:Nat):Int)):=by
 have h1:¬ ((1:Int)<0):=by omega
 unfold Builtin.Slice.sliceAdjust;simp only[h1,if_false];refine Prod.ext ?_ ?_
 ·cases lo with
  | none=>rfl
  | some v=>exact yS v n 0
 ·cases hi with
  | none=>rfl
  | some v=>exact yS v n n
theorem xR(i j:Nat):Builtin.Slice.slicePlaces (i:Int) (j:Int) 1=j-i:=by
 unfold Builtin.Slice.slicePlaces;have h1:(1:Int)>0:=by omega
 simp only[h1,if_true,Int.ediv_one]
 split<;>omega
theorem pB{o:Option Int}(p:IsPart v o)(h:Q o s):wpAny (model prog w) A (Builtin.Slice.slicePartIndex v) Q E s:=by
 cases p with
 | none=>exact slicePart_none h
 | int i t=>exact slicePart_int h
theorem mX{lo hi:Option Int}{n:Nat}(hs:s.heap.IsSliceOf sl vl vu .none)(pl:IsPart vl lo)(pu:IsPart vu hi)
  (h:Q (((eN n 0 lo:Nat):Int),1,eN n n hi-eN n 0 lo) s):wpAny (model prog w) A (Builtin.Slice.sliceApplied (.ref sl) (pure (n:Int))) Q E s:=by
 obtain⟨os,hos,hcs,hds⟩:=id hs;unfold Builtin.Slice.sliceApplied Builtin.Slice.sliceFields;refine wpAny_bind (wpAny_bind (wpAny_field hos hds (x:=vl) rfl (wpAny_bind (wpAny_field hos hds (x:=vu) rfl (wpAny_bind (wpAny_field hos hds (x:=.none) rfl (wpAny_pure ?_)))))));refine wpAny_bind (slicePart_none ?_);show wpAny _ _ (if ((1:Int)==0)=true then _ else _) _ _ s;rw[if_neg (by decide)];refine wpAny_bind (pB pl (wpAny_bind (pB pu (wpAny_bind (wpAny_pure ?_)))));show wpAny _ _ (match Builtin.Slice.sliceAdjust lo hi 1 (n:Int) with|(lo,hi)=>pure (lo,(1:Int),Builtin.Slice.slicePlaces lo hi 1)) _ _ s;rw[xQ lo hi n];show wpAny _ _ (pure (((eN n 0 lo:Nat):Int),(1:Int),Builtin.Slice.slicePlaces ((eN n 0 lo:Nat):Int) ((eN n n hi:Nat):Int) 1)) _ _ s;rw[xR];exact wpAny_pure h
theorem BV(xs:Array Value)(i k:Nat):((List.range k).filterMap λ(m:Nat)=>xs[((i:Int)+(m:Int)*1).toNat]?).toArray=((xs.toList.drop i).take k).toArray:=by
 have e:(λ(m:Nat)=>xs[((i:Int)+(m:Int)*1).toNat]?)=λm=>xs[i+m]?:=by
  funext m;have:((i:Int)+(m:Int)*1).toNat=i+m:=by omega
  rw[this]
 rw[e];have:=pick_run xs i k;rw[List.filterMap_map] at this;have e2:((λx=>xs[x]?)∘λx=>i+x)=λm=>xs[i+m]?:=rfl;rw[e2] at this;rw[this]
theorem lM{lo hi:Option Int}(ht:IsTup s.heap t items)(hs:s.heap.IsSliceOf sl vl vu .none)(pl:IsPart vl lo)(pu:IsPart vu hi)
  (hw:¬ (eN items.size 0 lo=0/\eN items.size items.size hi=items.size))
  (h:Q (.ref s.heap.objs.size) { s with heap:=s.heap.push { cls:=.type "tuple",data:=.seq ((items.toList.drop (eN items.size 0 lo)).take (eN items.size items.size hi-eN items.size 0 lo)).toArray } })
  (hsz:items.size<=sizeLine):wpAny (model prog w) A (getItem (.ref t) (.ref sl)) Q E s:=by
 have yT:sizeOk (.seq ((items.toList.drop (eN items.size 0 lo)).take (eN items.size items.size hi-eN items.size 0 lo)).toArray):=by show ((items.toList.drop (eN items.size 0 lo)).take (eN items.size items.size hi-eN items.size 0 lo)).toArray.size<=sizeLine;rw[size_toArray,length_take,length_drop,length_toList];omega
 have hj:eN items.size items.size hi<=items.size:=JP _ _ (le_refl _) hi;obtain⟨os,hos,hcs,hds⟩:=id hs;have RP:s.TypeIs (.ref sl) "slice":=⟨os,hos,hcs⟩;unfold getItem
 try with_reducible refine wpAny_holding ?_
 first|refine wpAny_bind (wpAny_pure ?_)|skip
 refine wpAny_bind (wpAny_sequenceKey ht.typeIs (by decide) ?_);refine wpAny_bind (wpAny_callSpecial?_slot (name:=Str.ofString "__getitem__") ht.typeIs PyProof.Rows.slot_tuple_getitem
  (wpAny_call_entry PyProof.Rows.slot_tuple_getitem ht.typeIs entry_tuple_getitem ?_ (args_tuple_getitem _ _)))
 show wpAny _ _ (Builtin.Tuple.tupleItemsOf (.ref t) >>= _) _ _ s;refine wpAny_bind (tupleItemsOf_ ht ?_);refine wpAny_bind (wpAny_typeOf RP ?_);rw[if_pos (by decide)];refine wpAny_bind (mX hs pl pu ?_);have hno:¬ ((((eN items.size 0 lo:Nat):Int)==0&&(1:Int)==1&&(eN items.size items.size hi-eN items.size 0 lo)==items.size)=true):=by intro q;rw[and_eq_true,and_eq_true] at q;have q1:((eN items.size 0 lo:Nat):Int)=0:=eq_of_beq q.1.1;have q2:eN items.size items.size hi-eN items.size 0 lo=items.size:=eq_of_beq q.2;exact hw ⟨by omega,by omega⟩
 show wpAny _ _ (if (((eN items.size 0 lo:Nat):Int)==0&&(1:Int)==1&&(eN items.size items.size hi-eN items.size 0 lo)==items.size)=true then _ else _) _ _ s;rw[if_neg hno,BV]
 first
  | exact wpAny_bind (m:=Builtin.Tuple.tupleExact _) (wpAny_newObj_type (wpAny_pure ⟨_,rfl,wpAny_pure h⟩) yT)
  | exact wpAny_bind (m:=Builtin.Tuple.tupleExact _) (wpAny_newObj_type (wpAny_bind (wpAny_pure (wpAny_pure ⟨_,rfl,wpAny_pure h⟩))) yT)
  | exact wpAny_bind (wpAny_bind (m:=Builtin.Tuple.tupleExact _) (wpAny_newObj_type (wpAny_pure (wpAny_pure ⟨_,rfl,wpAny_pure h⟩)) yT))
  | exact wpAny_bind (wpAny_bind (m:=Builtin.Tuple.tupleExact _) (wpAny_newObj_type (wpAny_pure ⟨_,rfl,wpAny_pure h⟩) yT))
end
end HT
namespace L2
open PySem PySem.Spec PyProof.Rows
noncomputable abbrev TO:=St->Hp->(Option Int->Hp->Prop)->Prop
noncomputable def PO(X:Cx)(e:Option Expr)(t:TO):Prop :=
 ∀(pins:List (Addr×Obj)) (s:Shared) (σ:St) (H:Hp) (Q:Option Int->Hp->Prop),Inv X pins σ H s->t σ H Q ->
  wpAny (model X.prog X.w) X.A (evalPart e X.env) (λu s'=>∃o H',Inv X pins σ H' s'/\IsPart u o/\Q o H') X.xe s
noncomputable def Fj:TO:=λ_ H Q=>Q none H
noncomputable def NH(t:TE):TO:=λσ H Q=>t σ H λx H1=>∃i,x=.int i/\Q (some i) H1
theorem intsAre_of{ns:List Int}:∀{us:List Value},Vals (ns.map V.int) us->IntsAre us ns:=by
 induction ns with
 | nil=>intro us r;rw[map_nil] at r;cases r;exact .nil
 | cons n ns ih =>
  intro us r;rw[map_cons] at r;cases r with
  | cons r1 r2 =>obtain⟨t,e⟩:=r1;subst e;exact .cons n t (ih r2)
section
variable {X:Cx} {e:Expr} {te:TE} {lo hi:Option Expr} {tl th:TO} {pos p2:Pos}
theorem Fo:PO X none Fj:=by
 intro pins s σ H Q I h;rw[evalPart_none];exact wpAny_pure ⟨none,H,I,.none,h⟩
theorem Fp(h:PE X e te):PO X (some e) (NH te):=by
 intro pins s σ H Q I hw;rw[evalPart_some];refine cC (h pins s σ H _ I hw) λu s1 aF=>?_;obtain⟨x,H1,I1,r1,q1⟩:=aF;obtain⟨i,rfl,q⟩:=q1;obtain⟨t,rfl⟩:=r1;exact⟨some i,H1,I1,.int i t,q⟩
noncomputable def QM(X:Cx)(r:V->Option Int->Option Int->Hp->VK->Prop):Prop :=
 ∀(pins:List (Addr×Obj)) (s:Shared) (σ:St) (H:Hp) (x:V) (v vl vu:Value) (lo hi:Option Int) (sl:Addr) (Q:VK),Inv X pins σ H s->RelV x v->s.heap.IsSliceOf sl vl vu .none->IsPart vl lo->IsPart vu hi->r x lo hi H Q ->
  ∃T id,typeLookup (.type T) "__getitem__" = pure (some (.builtin id))/\s.TypeIs v T/\wpAny (model X.prog X.w) X.A (getItem v (.ref sl)) (EP X pins σ Q) X.xe s
noncomputable def XX(r:V->Option Int->Option Int->Hp->VK->Prop)(te:TE)(tl th:TO):TE:=λσ H Q=>te σ H λx H1=>tl σ H1 λl H2=>th σ H2 λu H3=>r x l u H3 Q
theorem BW(hr:QM X r)(he:PE X e te)(hl:PO X lo tl)(hu:PO X hi th):PE X (.Subscript e (.Slice lo hi none p2) pos) (XX r te tl th):=by
 intro pins s σ H Q I h;refine Subscript_ (cC (he pins s σ H _ I h) λv s1 aF=>?_);obtain⟨x,H1,I1,r1,q1⟩:=aF;refine wpAny_Slice (cC (hl pins s1 σ H1 _ I1 q1) λvl s2 ⟨l,H2,I2,pl,q2⟩=>cC (hu pins s2 σ H2 _ I2 q2) λvu s3 aF=>?_);obtain⟨u,H3,I3,pu,q3⟩:=aF;rw[evalPart_none];refine wpAny_pure ?_;have I4:Inv X pins σ H3 { s3 with heap:=s3.heap.push { cls:=.type "slice",data:=.fields #[vl,vu,.none] } }:=I3.kept (t':=s3.toks) λb ob q=>get?_push_of_some _ q;obtain⟨T,id,hT,ht,hg⟩:=hr pins { s3 with heap:=s3.heap.push { cls:=.type "slice",data:=.fields #[vl,vu,.none] } } σ H3 x v vl vu l u s3.heap.objs.size Q I4 r1 (Heap.IsSliceOf.new ..) pl pu q3;show wpAny (model X.prog X.w) X.A (subscriptTail e (.Slice lo hi none p2) v (.ref s3.heap.objs.size)) (EP X pins σ Q) X.xe { s3 with heap:=s3.heap.push { cls:=.type "slice",data:=.fields #[vl,vu,.none] } };exact tail_any (ops:=[.ref s3.heap.objs.size,v]) ht hT hg (by with_unfolding_all rfl)
noncomputable def u6(xs:List V)(lo hi:Option Int):List V:=(xs.drop (HT.eN xs.length 0 lo)).take (HT.eN xs.length xs.length hi-HT.eN xs.length 0 lo)
theorem nR(xs:List V)(lo hi:Option Int):(u6 xs lo hi).length<=xs.length:=by
 unfold u6;rw[length_take,length_drop];omega
noncomputable def RQ(K:PySem.W.Frag):V->Option Int->Option Int->Hp->VK->Prop:=λx lo hi H Q=>∃a xs,x=.ref a/\jm K H a xs /\
 ¬ (HT.eN xs.length 0 lo=0/\HT.eN xs.length xs.length hi=xs.length)/\∀p,H p=none->Q (.ref p) (upd H p (.tup (u6 xs lo hi)))
theorem JQ:QM X (RQ X.K):=by
 intro pins s σ H x v vl vu lo hi sl Q I rx hs pl pu h;obtain⟨a,xs,rfl,hx,hw,q⟩:=h;cases rx;obtain⟨its,r,ht,hz⟩:=I.tuple hx;have hlen:its.toArray.size=xs.length:=by rw[size_toArray];exact r.length.symm
 refine⟨"tuple",_,PyProof.Rows.slot_tuple_getitem.lookup,ht.typeIs,?_⟩;refine HT.lM ht hs pl pu (by rw[hlen];exact hw) ?_ (by rw[hlen];exact hz);rw[hlen];refine⟨.ref s.heap.objs.size,_,I.laid (t':=s.toks) (o:=.tup (u6 xs lo hi)) (λb ob q=>get?_push_of_some _ q) (le_refl _) ?_,rfl,q _ (I.hok.fresh (le_refl _))⟩;exact⟨le_trans (nR xs lo hi) hz,_,(r.drop (HT.eN xs.length 0 lo)).take (HT.eN xs.length xs.length hi-HT.eN xs.length 0 lo),IsTup.new _ _⟩
noncomputable def NI(K:PySem.W.Frag):R2:=λx y H Q=>∃a b xs ys,x=.ref a/\y=.ref b/\jm K H a xs/\jm K H b ys/\xs≠[]/\xs.length+ys.length<=sizeLine /\
 (ys=[]->Q (.ref a) H)/\(ys≠[]->∀p,H p=none->Q (.ref p) (upd H p (.tup (xs++ys))))
theorem Vals.tG(r:Vals xs us):us=[]↔xs=[]:=by
 cases r with
 | nil=>simp
 | cons _ _=>simp
theorem Fq:jP X (binaryOp .Add) (NI X.K):=by
 intro pins s σ H x y v u Q I rx ry h;obtain⟨a,b,xs,ys,rfl,rfl,ha,hb,hx,hz,q1,q2⟩:=h;cases rx;cases ry;obtain⟨its,r1,p1,_⟩:=I.tuple ha;obtain⟨its2,r2,p2,_⟩:=I.tuple hb;refine HT.Fi p1 p2 (λz=>hx (r1.tG.mp z)) (λz=>⟨.ref a,H,I,rfl,q1 (r2.tG.mp z)⟩) (λz=>?_) (by rw[<-r1.length,<-r2.length];exact hz);refine⟨.ref s.heap.objs.size,_,I.laid (t':=s.toks) (o:=.tup (xs++ys)) (λb ob q=>get?_push_of_some _ q) (le_refl _) ?_,rfl,q2 (λw=>z (r2.tG.mpr w)) _ (I.hok.fresh (le_refl _))⟩;exact⟨by rw[length_append];exact hz,_,r1.append r2,IsTup.new _ _⟩
end
end L2
namespace L2
open PySem PySem.Spec PyProof.Rows
noncomputable def Ao(n:Nat)(i:Int):Option Nat:=if 0<=i then (if i<n then some i.toNat else none) else if -(n:Int)<=i then some (i+n).toNat else none
noncomputable def jV{α:Type}(xs:List α)(i:Int):Option α:=(Ao xs.length i).bind λj=>xs[j]?
theorem yU{n:Nat}{i:Int}{j:Nat}(h:Ao n i=some j):seqIndex? i n=some j/\j<n /\ -(n:Int)<=i/\i<n:=by
 unfold Ao at h
 by_cases h0:0<=i
 ·rw[if_pos h0] at h
  by_cases h1:i<n
  ·rw[if_pos h1] at h;have e:i.toNat=j:=Option.some.inj h;exact⟨by rw[seqIndex_of h0 h1,e],by omega,by omega,h1⟩
  ·rw[if_neg h1] at h;cases h
 ·rw[if_neg h0] at h
  by_cases h1:-(n:Int)<=i
  ·rw[if_pos h1] at h;have e:(i+n).toNat=j:=Option.some.inj h;exact⟨by rw[seqIndex_neg (by omega) h1,e],by omega,h1,by omega⟩
  ·rw[if_neg h1] at h;cases h
theorem tH{α:Type}{xs:List α}{i:Int}{v:α}(h:jV xs i=some v):∃j,seqIndex? i xs.length=some j/\xs[j]?=some v/\j<xs.length /\ -(xs.length:Int)<=i/\i<xs.length:=by
 unfold jV at h;cases e:Ao xs.length i with
 | none=>rw[e] at h;cases h
 | some j =>rw[e] at h;obtain⟨h1,h2,h3,h4⟩:=yU e;exact⟨j,h1,h,h2,h3,h4⟩
theorem oQ{α:Type}{xs:List α}{j:Nat}{v:α}(h:xs[j]?=some v):jV xs (j:Int)=some v:=by
 have hj:j<xs.length:=(List.getElem?_eq_some_iff.mp h).1;have e:Ao xs.length (j:Int)=some j:=by unfold Ao;rw[if_pos (by omega),if_pos (by omega)];simp
 unfold jV;rw[e];exact h
noncomputable def yV(b:Expr):Prop:=∀o i,subscripted b false o i=operate [o,i] (getItem o i)
noncomputable def MO(X:Cx)(r:R2):Prop :=
 ∀(value slice:Expr) (pins:List (Addr×Obj)) (s:Shared) (σ:St) (H:Hp) (x y:V) (v u:Value) (Q:VK),Inv X pins σ H s->RelV x v->RelV y u->r x y H Q ->
  subscripted slice false v u=operate [v,u] (getItem v u)->wpAny (model X.prog X.w) X.A (subscriptTail value slice v u) (EP X pins σ Q) X.xe s
noncomputable def NJ(X:Cx)(id:String)(r:V->List V->Hp->VK->Prop):Prop :=
 ∀(pins:List (Addr×Obj)) (s:Shared) (σ:St) (H:Hp) (x:V) (xs:List V) (v:Value) (us:List Value) (Q:VK),Inv X pins σ H s->RelV x v->Vals xs us->r x xs H Q ->
  wpAny (model X.prog X.w) X.A (call (.builtin id) (v::us)) (EP X pins σ Q) X.xe s
section
variable {X:Cx} {a b:Expr} {ta tb:TE} {pos:Pos}
theorem NK(hr:MO X r)(ha:PE X a ta)(hb:PE X b tb)(hs:yV b):PE X (.Subscript a b pos) (MN r ta tb):=by
 intro pins s σ H Q I h;exact Subscript_ (JA ha hb I h λv u s2 x y H2 I2 rx ry q=>hr a b pins s2 σ H2 x y v u Q I2 rx ry q (hs _ _))
noncomputable def RS(K:PySem.W.Frag):R2:=λx y H Q=>∃p xs i v,x=.ref p/\y=.int i/\gn K H p xs/\jV xs i=some v/\Q v H
noncomputable def RT(K:PySem.W.Frag):R2:=λx y H Q=>∃p xs i v,x=.ref p/\y=.int i/\jm K H p xs/\jV xs i=some v/\Q v H
noncomputable def RW:R2:=λx y H Q=>∃z i c,x=.str z/\y=.int i/\z.length<=sizeLine/\jV z.cps.toList i=some c/\Q (.str ⟨#[c]⟩) H
theorem yW:MO X (RS X.K):=by
 intro value slice pins s σ H x y v u Q I rx ry h hs;obtain⟨p,xs,i,z,rfl,rfl,hq,he,q⟩:=h;cases rx;obtain⟨t,rfl⟩:=ry;obtain⟨its,r,pl,hz⟩:=I.list hq;obtain⟨j,h1,h2,h3,h4,h5⟩:=tH he;obtain⟨w,ew,rw'⟩:=r.get h2;have hl:=r.length;have hn:=mU;have fin:EP X pins σ Q w s:=⟨z,H,I,rw',q⟩
 by_cases h0:0<=i
 ·have hj:i.toNat=j:=by
   rw[seqIndex_of h0 h5] at h1;exact Option.some.inj h1
  exact item_listR pl.isList h0 (by omega) (by rw[hj];simpa using ew) fin hs
 ·have hj:(i+(its.toArray.size:Int)).toNat=j:=by
   rw[seqIndex_neg (by omega) h4] at h1;rw[size_toArray,<-hl];exact Option.some.inj h1
  exact subscriptTail_builtinR (x:=w) pl.isList.typeIs slot_list_getitem.lookup
   (wpAny_getItem_list_neg (Q:=λr s'=>r=w/\EP X pins σ Q r s') pl.isList (by omega) (by rw[size_toArray]<;>omega) (by omega) (by rw[hj];simpa using ew) ⟨rfl,fin⟩) hs
theorem JR:MO X (RT X.K):=by
 intro value slice pins s σ H x y v u Q I rx ry h hs;obtain⟨p,xs,i,z,rfl,rfl,hq,he,q⟩:=h;cases rx;obtain⟨t,rfl⟩:=ry;obtain⟨its,r,pl,hz⟩:=I.tuple hq;obtain⟨j,h1,h2,h3,h4,h5⟩:=tH he;obtain⟨w,ew,rw'⟩:=r.get h2;have hl:=r.length;have hn:=mU;have fin:EP X pins σ Q w s:=⟨z,H,I,rw',q⟩;exact subscriptTail_builtinR (x:=w) pl.typeIs slot_tuple_getitem.lookup
  (getItem_tuple (j:=j) (Q:=λr s'=>r=w/\EP X pins σ Q r s') pl (by omega) (by omega) (by rw[size_toArray,<-hl];exact h1) (by simpa using ew) ⟨rfl,fin⟩) hs
theorem JS:MO X RW:=by
 intro value slice pins s σ H x y v u Q I rx ry h hs;obtain⟨z,i,c,rfl,rfl,hz,he,q⟩:=h;obtain⟨t,rfl⟩:=rx;obtain⟨t',rfl⟩:=ry;obtain⟨j,h1,h2,h3,h4,h5⟩:=tH he;have hl:z.cps.toList.length=z.length:=by simp[Str.length]
 rw[hl] at h1 h4 h5;have hn:=mU;exact tail_any (typeIs_str s z t) slot_str_getitem.lookup (getItem_str (c:=c) (by
  have e1:decide (i < -(2 ^ 63:Int))=false:=decide_eq_false (by omega);have e2:decide (i≥2 ^ 63)=false:=decide_eq_false (by omega);rw[e1,e2,Bool.or_false]) (by rw[h1];simpa using h2) ⟨.str ⟨#[c]⟩,H,I.tok _,⟨_,rfl⟩,q⟩) hs
theorem xS(its:List Value)(n j:Nat)(u:Value):Obj.mapSeq (·.setIfInBounds j u) { cls:=.type "list",data:=.seq its.toArray n }={ cls:=.type "list",data:=.seq (its.set j u).toArray n }:=by
 simp[Obj.mapSeq]
theorem Inv.lst{pins:List (Addr×Obj)}{σ:St}{H:Hp}{s:Shared}{p:Addr}{xs:List V}(I:Inv X pins σ H s)(h:H p=some (.lst xs)) :
  ∃(its:List Value) (n:Nat),Vals xs its/\s.heap.get? p=some { cls:=.type "list",data:=.seq its.toArray n }/\xs.length<=sizeLine:=by
 obtain⟨z,its,n,r,e⟩:=I.hok p _ h;exact⟨its,n,r,e,z⟩
theorem Inv.JT{pins:List (Addr×Obj)}{σ:St}{H:Hp}{s:Shared}{p:Addr}{xs ys:List V}{its its':List Value}{n n':Nat}{f:Obj->Obj}(I:Inv X pins σ H s)(h:H p=some (.lst xs))
  (ho:s.heap.get? p=some { cls:=.type "list",data:=.seq its.toArray n }) (hf:f { cls:=.type "list",data:=.seq its.toArray n }={ cls:=.type "list",data:=.seq its'.toArray n' }) (r:Vals ys its') (hz:ys.length<=sizeLine) (t:Nat) :
  Inv X pins σ (upd H p (.lst ys)) { s with heap:=s.heap.update p f,toks:=t }:=by
 have e:(s.heap.update p f).get? p=some { cls:=.type "list",data:=.seq its'.toArray n' }:=by rw[get?_update_self f ho (by rw[hf]<;>rfl),hf]
 refine I.write (x:=p) (e:=p) (by rw[h];trivial) (.inl rfl) (λb u hb q=>(get?_update_other _ _ (Ne.symm hb)).trans q) ⟨_,e⟩ ?_;exact⟨hz,its',n',r,e⟩
noncomputable def NL:V->V->V->Hp->(Hp->Prop)->Prop:=λo i v H Q=>∃p xs k j,o=.ref p/\i=.int k/\H p=some (.lst xs)/\Ao xs.length k=some j/\Q (upd H p (.lst (xs.set j v)))
theorem set_list:Jv X NL:=by
 intro pins s σ H o i v ov iv u Q I ro ri rv h;obtain⟨p,xs,k,j,rfl,rfl,hp,hj,q⟩:=h;cases ro;obtain⟨t,rfl⟩:=ri;obtain⟨its,n,r,ho,hz⟩:=I.lst hp;obtain⟨h1,h2,h3,h4⟩:=yU hj;have hl:=r.length;have hn:=mU;have I':Inv X pins σ (upd H p (.lst (xs.set j v))) { s with heap:=s.heap.update p (Obj.mapSeq (·.setIfInBounds j u)) } :=
  I.JT hp ho (xS its n j u) (r.set rv j) (by rw[length_set];exact hz) s.toks
 by_cases h0:0<=k
 ·have hk:k.toNat=j:=by
   rw[seqIndex_of h0 h4] at h1;exact Option.some.inj h1
  exact PySem.W.ki_setAt ho h0 (by omega) (by rw[size_toArray,<-hl];exact h4) (by rw[hk];exact⟨_,I',q⟩)
 ·have hk:(k+(its.toArray.size:Int)).toNat=j:=by
   rw[seqIndex_neg (by omega) h3] at h1;rw[size_toArray,<-hl];exact Option.some.inj h1
  exact PySem.W.ki_setBack ho (by omega) (by rw[size_toArray,<-hl];exact h3) (by omega) (by rw[hk];exact⟨_,I',q⟩)
theorem tK(lo hi:Option Int)(n:Nat):(sliceBounds lo hi none n).1=((HT.eN n 0 lo:Nat):Int)/\(sliceBounds lo hi none n).2.1=((HT.eN n n hi:Nat):Int)/\(sliceBounds lo hi none n).2.2=1:=by
 refine⟨?_,?_,rfl⟩
 ·cases lo with
  | none=>simp[sliceBounds,HT.eN]
  | some i =>
   simp only[sliceBounds,HT.eN,getD_none,show (1:Int)>0 by decide,if_true]
   by_cases h:i<0
   ·simp only[h,if_true]<;>omega
   ·simp only[h,if_false]<;>omega
 ·cases hi with
  | none=>simp[sliceBounds,HT.eN]
  | some i =>
   simp only[sliceBounds,HT.eN,getD_none,show (1:Int)>0 by decide,if_true]
   by_cases h:i<0
   ·simp only[h,if_true]<;>omega
   ·simp only[h,if_false]<;>omega
theorem rD(its:List Value)(lo hi:Option Int):slicePick its.toArray lo hi none=((its.drop (HT.eN its.length 0 lo)).take (HT.eN its.length its.length hi-HT.eN its.length 0 lo)).toArray:=by
 obtain⟨h1,h2,h3⟩:=tK lo hi its.toArray.size;unfold slicePick;rw[h1,h2,h3];simp only[sliceRange_one,pick_run,size_toArray]<;>rfl
noncomputable def RX(K:PySem.W.Frag):V->Option Int->Option Int->Hp->VK->Prop:=λx lo hi H Q=>∃a xs,x=.ref a/\gn K H a xs/\∀p,H p=none->Q (.ref p) (upd H p (.lst (u6 xs lo hi)))
theorem Ft:QM X (RX X.K):=by
 intro pins s σ H x v vl vu lo hi sl Q I rx hs pl pu h;obtain⟨a,xs,rfl,hx,q⟩:=h;cases rx;obtain⟨its,r,ht,hz⟩:=I.list hx;have hlen:=r.length;refine⟨"list",_,slot_list_getitem.lookup,ht.isList.typeIs,?_⟩;refine wpAny_getItem_list_slice ht.isList hs pl pu .none (by simp) ?_ (by rw[size_toArray]<;>omega);rw[rD,<-hlen];refine⟨.ref s.heap.objs.size,_,I.laid (t':=s.toks) (o:=.lst (u6 xs lo hi)) (λb ob q=>get?_push_of_some _ q) (le_refl _) ?_,rfl,q _ (I.hok.fresh (le_refl _))⟩;exact⟨le_trans (nR xs lo hi) hz,_,0,(r.drop (HT.eN xs.length 0 lo)).take (HT.eN xs.length xs.length hi-HT.eN xs.length 0 lo),get?_push_size _ rfl⟩
noncomputable def bx:V->Bool
 | .non=>true
 | .bl _=>true
 | .int _=>true
 | .str _=>true
 | _=>false
noncomputable def Ic:V->V->Bool
 | .non,.non=>true
 | .bl a,.bl b=>a==b
 | .bl a,.int b=>(if a then 1 else 0)==b
 | .int a,.bl b=>a==(if b then 1 else 0)
 | .int a,.int b=>a==b
 | .str a,.str b=>a==b
 | _,_=>false
theorem JU(ry:RelV y u)(rx:RelV x v)(fy:bx y=true)(fx:bx x=true):SeqAt.EqAt A s u v (Ic y x):=by
 cases y with
 | non =>
  cases ry;cases x with
  | non=>cases rx;exact SeqAt.EqAt.same _
  | bl b=>cases rx;exact SeqAt.EqAt.none_bool b
  | int b=>obtain⟨t,rfl⟩:=rx;exact SeqAt.EqAt.none_int b t
  | str b=>obtain⟨t,rfl⟩:=rx;exact SeqAt.EqAt.none_str b t
  | _=>exact absurd (show false=true from fx) Bool.false_ne_true
 | bl a =>
  cases ry;cases x with
  | non=>cases rx;exact SeqAt.EqAt.bool_none a
  | bl b=>cases rx;exact SeqAt.EqAt.bool_bool a b
  | int b=>obtain⟨t,rfl⟩:=rx;exact SeqAt.EqAt.bool_int a b t
  | str b=>obtain⟨t,rfl⟩:=rx;exact SeqAt.EqAt.bool_str a b t
  | _=>exact absurd (show false=true from fx) Bool.false_ne_true
 | int a =>
  obtain⟨t',rfl⟩:=ry;cases x with
  | non=>cases rx;exact SeqAt.EqAt.int_none a t'
  | bl b=>cases rx;exact SeqAt.EqAt.int_bool a t' b
  | int b=>obtain⟨t,rfl⟩:=rx;exact SeqAt.EqAt.int_int a t' b t
  | str b=>obtain⟨t,rfl⟩:=rx;exact SeqAt.EqAt.int_str a t' b t
  | _=>exact absurd (show false=true from fx) Bool.false_ne_true
 | str a =>
  obtain⟨t',rfl⟩:=ry;cases x with
  | non=>cases rx;exact SeqAt.EqAt.str_none a t'
  | bl b=>cases rx;exact SeqAt.EqAt.str_bool a t' b
  | int b=>obtain⟨t,rfl⟩:=rx;exact SeqAt.EqAt.str_int a t' b t
  | str b=>obtain⟨t,rfl⟩:=rx;exact SeqAt.EqAt.str_str a t' b t
  | _=>exact absurd (show false=true from fx) Bool.false_ne_true
 | _=>exact absurd (show false=true from fy) Bool.false_ne_true
noncomputable def Fv(x:V)(u:Value):Bool:=match u with
 | .none=>Ic .non x
 | .bool b=>Ic (.bl b) x
 | .int i _=>Ic (.int i) x
 | .str z _=>Ic (.str z) x
 | _=>false
theorem BX(r:RelV y u)(f:bx y=true):Fv x u=Ic y x:=by
 cases y with
 | non=>cases r;rfl
 | bl b=>cases r;rfl
 | int i=>obtain⟨t,rfl⟩:=r;rfl
 | str z=>obtain⟨t,rfl⟩:=r;rfl
 | _=>exact absurd (show false=true from f) Bool.false_ne_true
theorem tL:∀{xs:List V} {us:List Value},Vals xs us->xs.all bx=true->us.any (Fv x)=xs.any λy=>Ic y x
 | _,_,.nil,_=>rfl
 | y::xs,u::us,.cons r t,f=>by
  rw[all_cons,and_eq_true] at f;rw[any_cons,any_cons,BX r f.1,tL t f.2]
theorem pC(rx:RelV x v)(fx:bx x=true):∀{xs:List V} {us:List Value},Vals xs us->xs.all bx=true->∀u∈us,SeqAt.EqAt A s u v (Fv x u)
 | _,_,.nil,_=>λu hu=>by cases hu
 | y::xs,u::us,.cons r t,f=>λu' hu=>by
  rw[all_cons,and_eq_true] at f
  rcases mem_cons.mp hu with rfl|hu
  ·rw[BX r f.1];exact JU r rx f.1 fx
  ·exact pC rx fx t f.2 u' hu
noncomputable def EC(x:V)(xs:List V):Bool:=xs.any λy=>Ic y x
noncomputable def RY(K:PySem.W.Frag)(neg:Bool):R2:=λx y H Q=>∃p xs,y=.ref p/\(gn K H p xs\/jm K H p xs)/\bx x=true/\xs.all bx=true/\Q (.bl (if neg then !EC x xs else EC x xs)) H
theorem tM:jP X (compareOp .NotIn) (RY X.K true):=by
 intro pins s σ H x y v u Q I rx ry h;obtain⟨p,xs,rfl,hq,fx,fs,q⟩:=h;cases ry
 rcases hq with hq|hq
 ·obtain⟨its,r,pl,hz⟩:=I.list hq;refine SeqAt.notIn_listAt (Fv x) pl.isList (λw hw=>pC rx fx r fs w (by simpa using hw)) ⟨.bl _,H,I,rfl,?_⟩;rw[show its.toArray.any (Fv x)=its.any (Fv x) by simp,tL r fs];exact q
 ·obtain⟨its,r,pl,hz⟩:=I.tuple hq;refine SeqAt.notIn_tupleAt (Fv x) pl (λw hw=>pC rx fx r fs w (by simpa using hw)) ⟨.bl _,H,I,rfl,?_⟩;rw[show its.toArray.any (Fv x)=its.any (Fv x) by simp,tL r fs];exact q
theorem tN:cH X (.type "list") (λxs H Q=>∃p ys,xs=[.ref p]/\(gn X.K H p ys\/jm X.K H p ys)/\∀l,H l=none->Q (.ref l) (upd H l (.lst ys))):=by
 intro pins s σ H xs us Q I r h;obtain⟨p,ys,rfl,hq,q⟩:=h;obtain⟨u,rfl,rx⟩:=vals1 r;cases rx;have fin:∀(its:List Value),Vals ys its->ys.length<=sizeLine->∀(h':Heap) (c':Nat),(∀b o',s.heap.get? b=some o'->h'.get? b=some o') ->
   h'.get? s.heap.objs.size=some { cls:=.type "list",dict:=none,data:=.seq its.toArray c',slots:=#[] }->EP X pins σ Q (.ref s.heap.objs.size) { s with heap:=h' }:=λits r' hz h' c' kp e =>
  ⟨.ref s.heap.objs.size,_,I.laid (t':=s.toks) kp (le_refl _) (show bE X.prog X.w _ h' _ (.lst ys) from⟨hz,its,c',r',e⟩),rfl,q _ (I.hok.fresh (le_refl _))⟩
 rcases hq with hq|hq
 ·obtain⟨its,r',pl,hz⟩:=I.list hq;have hlen:=r'.length;obtain⟨o,ho,hc,n,hd⟩:=pl.isList;exact call_list_seq p (.inl rfl) ho hc hd (λh' c' kp e=>fin its r' hz h' c' kp e) (by simp only[size_toArray]<;>omega)
 ·obtain⟨its,r',pl,hz⟩:=I.tuple hq;have hlen:=r'.length;obtain⟨o,ho,hc,n,hd⟩:=pl;exact call_list_seq p (.inr rfl) ho hc hd (λh' c' kp e=>fin its r' hz h' c' kp e) (by simp only[size_toArray]<;>omega)
noncomputable def RZ(K:PySem.W.Frag)(T:String)(x:V)(H:Hp):Prop:=match x with
 | .str _=>T = "str"
 | .int _=>T = "int"
 | .ref p=>(T = "list" /\ ∃xs,gn K H p xs)\/(T = "tuple" /\ ∃o,K.lookup p=some o/\o.cls=.type "tuple" /\ o.dict=none) \/
   (T = "dict" /\ ((∃kvs,H p=some (.dK kvs))\/∃kvs,H p=some (.dT kvs)))\/(T = "set" /\ ∃S n,H p=some (.set S n))
 | _=>False
theorem JV{T:String}(I:Inv X pins σ H s)(r:RelV x v)(ty:RZ X.K T x H) :
  s.TypeIs v T/\∀a,v=.ref a->∃ob,s.heap.get? a=some ob/\ob.dict=none:=by
 cases x with
 | str z =>obtain⟨t,rfl⟩:=r;cases (show T = "str" from ty);exact⟨typeIs_str s z t,λ_ e=>nomatch e⟩
 | int i =>obtain⟨t,rfl⟩:=r;cases (show T = "int" from ty);exact⟨typeIs_int s i t,λ_ e=>nomatch e⟩
 | ref p =>
  cases r
  rcases ty with ⟨rfl,xs,hq⟩|⟨rfl,o,hk,hc,hd⟩|⟨rfl,hk⟩|⟨rfl,S,n,hk⟩
  ·obtain⟨its,_,pl,_⟩:=I.list hq;refine⟨pl.isList.typeIs,λa e=>?_⟩;cases e;obtain⟨o,n,e,c,hd,_⟩:=pl;exact⟨o,e,hd⟩
  ·refine⟨⟨o,I.jI p o hk,hc⟩,λa e=>?_⟩;cases e;exact⟨o,I.jI _ o hk,hd⟩
  ·have z:∃o,s.heap.get? p=some o/\o.ExactDict:=by
    rcases hk with ⟨kvs,hk⟩|⟨kvs,hk⟩
    ·obtain⟨_,_,_,_,o,_,_,e,ex,_⟩:=I.hok p _ hk;exact⟨o,e,ex⟩
    ·obtain⟨_,_,_,_,o,_,_,e,ex,_⟩:=I.hok p _ hk;exact⟨o,e,ex⟩
   obtain⟨o,e,ex⟩:=z;refine⟨⟨o,e,ex.1⟩,λa e2=>?_⟩;cases e2;exact⟨o,e,ex.2.1⟩
  ·obtain⟨o,_,_,_,e,ex,_⟩:=I.hok p _ hk;refine⟨⟨o,e,ex.1⟩,λa e2=>?_⟩;cases e2;exact⟨o,e,ex.2.1⟩
 | _=>exact False.elim ty
noncomputable def Wa(K:PySem.W.Frag)(T:String)(r:V->List V->Hp->VK->Prop)(to:TE)(t:TA):TE:=λσ H Q=>to σ H λx H1=>RZ K T x H1/\t σ H1 λxs H2=>r x xs H2 Q
variable {o e:Expr} {es:List Expr} {to:TE} {t:TA} {name:Str} {apos cpos:Pos} {T id:String} {r:V->List V->Hp->VK->Prop}
theorem BY(pa:PlainAttrs T)(slot:Slot T name id)(hty:typeOf (.builtin id)=pure (.type "method_descriptor"))(hm:NJ X id r)(ho:PE X o to)(ha:PA X (e::es) t)
  (hbase:attributeBase o name X.env (eval o X.env)=eval o X.env:=by rfl)
  (hfew:((backTo cpos (starEach (e::es) X.env)).all (λx=>!x.1)&&(backToKw cpos (keywordEach [] X.env)).all (λx=>x.1.isSome)
   && decide ((e::es).length+([]:List Keyword).length+(if ([]:List Keyword).isEmpty then 0 else 1)<30))=true:=by rfl)
  (hline:(apos.endLine==cpos.line)=true:=by rfl) (hs:starEach (e::es) X.env=(false,eval e X.env)::starEach es X.env:=by rfl) (hplain:(backTo cpos (starEach es X.env)).any (·.1)=false:=by rfl) :
  PE X (.Call (.Attribute o name apos) (e::es) [] cpos) (Wa X.K T r to t):=by
 intro pins s σ H Q I h;refine wpAny_Call_method_late hbase hfew hline rfl (cC (ho pins s σ H _ I h) λv s1 aF=>?_);obtain⟨x,H1,I1,r1,ty,q1⟩:=aF;obtain⟨h1,h2⟩:=JV I1 r1 ty;refine⟨T,id,pa,slot,hty,h1,h2,?_⟩;have hA:=ha cpos pins s1 σ H1 _ I1 q1;rw[hs] at hA |-;refine Calls.callWith_builtin (by show (false||(backTo cpos (starEach es X.env)).any (·.1))=false;rw[hplain]<;>rfl) (Calls.evalArgs_plain ?_);exact cC hA λus s2 ⟨vs,H2,I2,r2,q2⟩=>hm pins s2 σ H2 x vs v us Q I2 r1 r2 q2
/- xs.append(e),list.index on a NN tuple .. are NJ facts of 06m -/
end
end L2
namespace L2
open PySem PySem.Spec PyProof.Rows
noncomputable def R0(X:Cx)(id:String)(r:V->List V->Hp->VK->Prop):Prop :=
 ∀(pins:List (Addr×Obj)) (s:Shared) (σ:St) (H:Hp) (x:V) (xs:List V) (v:Value) (us:List Value) (Q:VK),Inv X pins σ H s->RelV x v->Vals xs us->r x xs H Q ->
  wpAny (model X.prog X.w) X.A (call (.builtin id) (v::us)) (EP X pins σ Q) X.xe s
theorem Vals.one:∀{x:V} {us:List Value},Vals [x] us->∃u,us=[u]/\RelV x u
 | _,_,.cons r .nil=>⟨_,rfl,r⟩
section
variable {X:Cx} {pins:List (Addr×Obj)} {σ:St} {H:Hp} {s:Shared} {l b:Addr} {xs ys zs:List V}
theorem Inv.JW{its its':List Value}{n:Nat}{f:Array Value->Array Value}{t':Nat}(I:Inv X pins σ H s)(hH:H l=some (.lst xs))
  (e:s.heap.get? l=some { cls:=.type "list",data:=.seq its.toArray n }) (hf:f its.toArray=its'.toArray) (hv:Vals ys its') (hz:ys.length<=sizeLine) :
  Inv X pins σ (upd H l (.lst ys)) { s with heap:=s.heap.update l (Obj.mapSeq f),toks:=t' }:=by
 have q:=PySem.IsL.update e f;rw[hf] at q;refine I.write (x:=l) (e:=l) (by rw[hH];exact trivial) (.inl rfl) (λb' u hb hu=>(get?_update_other s.heap (Obj.mapSeq f) (Ne.symm hb)).trans hu) ⟨_,q⟩ ?_;exact⟨hz,its',_,hv,q⟩
theorem Inv.R3{t':Nat}(I:Inv X pins σ H s)(hv:Vals ys its)(hz:ys.length<=sizeLine) :
  Inv X pins σ (upd H s.heap.objs.size (.lst ys)) { s with heap:=s.heap.push { cls:=.type "list",data:=.seq its.toArray },toks:=t' } :=
 I.laid (λ_ _ q=>get?_push_of_some _ q) (le_refl _) ⟨hz,its,0,hv,get?_push_size _ rfl⟩
theorem Inv.Fw(I:Inv X pins σ H s)(hH:H l=some (.lst xs)):xs.length<=sizeLine/\∃(its:List Value) (n:Nat),Vals xs its/\xs.length=its.length/\s.heap.get? l=some { cls:=.type "list",data:=.seq its.toArray n }:=by
 obtain⟨z,its,n,r,e⟩:=I.hok l _ hH;exact⟨z,its,n,r,r.length,e⟩
theorem u7{n:Nat}(h:n<=sizeLine):Builtin.List.listTooLong n=false:=by
 unfold Builtin.List.listTooLong;exact decide_eq_false (by omega)
end
section
variable {X:Cx}
noncomputable def Fx:V->List V->Hp->VK->Prop:=λx vs H Q=>∃l xs y,x=.ref l/\vs=[y]/\H l=some (.lst xs)/\xs.length<sizeLine/\Q .non (upd H l (.lst (xs++[y])))
theorem rW:R0 X "list.append" Fx:=by
 intro pins s σ H x vs v us Q I rx rv h;obtain⟨l,xs,y,rfl,rfl,hH,hz,q⟩:=h;cases rx;obtain⟨u,rfl,ru⟩:=rv.one;obtain⟨z,its,n,r,hl,e⟩:=I.Fw hH;refine call_meets F.slot_list_append ⟨_,e,rfl⟩ F.entry_list_append (F.args_list_append_2 _ _) (PySem.list_append l its.toArray n u (by rw[size_toArray];omega)) ⟨e,?_⟩;refine⟨.non,_,I.JW (its':=its++[u]) hH e (by simp) (r.append (.cons ru .nil)) ?_,rfl,q⟩;rw[length_append,List.length_singleton];omega
noncomputable def Fy:V->List V->Hp->VK->Prop:=λx vs H Q=>∃l b xs zs,x=.ref l/\vs=[.ref b]/\H l=some (.lst xs)/\H b=some (.lst zs)/\xs.length+zs.length<=sizeLine/\Q .non (upd H l (.lst (xs++zs)))
theorem Aq:R0 X "list.extend" Fy:=by
 intro pins s σ H x vs v us Q I rx rv h;obtain⟨l,b,xs,zs,rfl,rfl,hH,hB,hz,q⟩:=h;cases rx;obtain⟨u,rfl,ru⟩:=rv.one;cases ru;obtain⟨z,its,n,r,hl,e⟩:=I.Fw hH;obtain⟨z2,its2,n2,r2,hl2,e2⟩:=I.Fw hB;have hsz:its.toArray.size+its2.toArray.size<=sizeLine:=by rw[size_toArray,size_toArray];omega
 have BZ:¬ (!its.toArray.isEmpty&&Builtin.List.listTooLong (its.toArray.size+its2.toArray.size))=true:=by rw[u7 hsz,Bool.and_false];exact Bool.false_ne_true
 refine call_meets F.slot_list_extend ⟨_,e,rfl⟩ F.entry_list_extend (F.args_list_extend_2 _ _)
  (AutoSeq1.list_extend_list_list_0 l its.toArray n b its2.toArray n2 BZ (by rw[size_toArray];omega) (by omega)) ⟨e,e2,?_⟩
 refine⟨.non,_,I.JW (its':=its++its2) hH e (by simp) (r.append r2) ?_,rfl,q⟩;rw[length_append];omega
end
section
variable {prog:Program} {w:World} {A:Around} {E:Value->Shared->Prop} {s:Shared}
end
section
variable {X:Cx}
end
end L2
namespace L2
open PySem PySem.Spec PyProof.Rows
section
variable {κ:Type} [DecidableEq κ]
noncomputable def iz(kvs:List (κ × V))(k:κ):Option V:=(kvs.find? λkv=>decide (kv.1=k)).map (·.2)
noncomputable def putK(kvs:List (κ × V))(k:κ)(v:V):List (κ × V) :=
 if (kvs.any λkv=>decide (kv.1=k))=true then kvs.map (λkv=>if kv.1=k then (kv.1,v) else kv) else kvs++[(k,v)]
theorem pD{p:κ × V}{r:List (κ × V)}{k:κ}(e:p.1=k):iz (p::r) k=some p.2:=by simp[iz,find?_cons,e]
theorem pF{p:κ × V}{r:List (κ × V)}{k:κ}(e:¬ p.1=k):iz (p::r) k=iz r k:=by simp[iz,find?_cons,e]
theorem u9(k:κ):∀kvs:List (κ × V),(kvs.any λkv=>decide (kv.1=k))=(iz kvs k).isSome
 | []=>rfl
 | p::r=>by
  rw[any_cons]
  by_cases e:p.1=k
  ·simp only[pD e,decide_eq_true e,Bool.true_or,Option.isSome_some]
  ·rw[pF e,decide_eq_false e,Bool.false_or];exact u9 k r
theorem jW(kvs:List (κ × V))(k:κ)(v:V):(putK kvs k v).length<=kvs.length+1:=by
 unfold putK
 split
 ·rw[length_map];omega
 ·rw[length_append,length_cons,length_nil];omega
theorem jO.iS(r:jO o u):o.isSome=u.isSome:=by
 cases o with
 | none=>cases u with
  | none=>rfl
  | some _=>exact(show False from r).elim
 | some _=>cases u with
  | none=>exact(show False from r).elim
  | some _=>rfl
theorem jO.getD(r:jO o u)(rd:RelV d d'):RelV (o.getD d) (u.getD d'):=by
 cases o with
 | none=>cases u with
  | none=>exact rd
  | some _=>exact(show False from r).elim
 | some _=>cases u with
  | none=>exact(show False from r).elim
  | some _=>exact r
theorem KV.val(r:KV kvs vs)(k:κ):jO (iz kvs k) (valueAt vs k):=by
 unfold KV at r
 induction r with
 | nil=>exact True.intro
 | @cons p q ps qs h t ih =>
  obtain⟨h1,h2⟩:=h
  by_cases e:p.1=k
  ·have e':q.1=k:=h1.symm.trans e
   have b:valueAt (q::qs) k=some q.2:=by simp[valueAt,find?_cons,e']
   rw[pD e,b];exact h2
  ·have e':¬ q.1=k:=λz=>e (h1.trans z)
   have b:valueAt (q::qs) k=valueAt qs k:=by simp[valueAt,find?_cons,e']
   rw[pF e,b];exact ih
theorem KV.any(r:KV kvs vs)(k:κ):(kvs.any λkv=>decide (kv.1=k))=vs.any λkv=>decide (kv.1=k):=by
 unfold KV at r
 induction r with
 | nil=>rfl
 | cons h t ih=>rw[any_cons,any_cons,ih,h.1]
theorem KV.repl(r:KV kvs vs)(k:κ)(ry:RelV y u) :
  KV (kvs.map λkv=>if kv.1=k then (kv.1,y) else kv) (vs.map λkv=>if kv.1=k then (kv.1,u) else kv):=by
 unfold KV at r |-
 induction r with
 | nil=>exact .nil
 | @cons p q ps qs h t ih =>
  rw[map_cons,map_cons];refine .cons ?_ ih;obtain⟨h1,h2⟩:=h
  by_cases e:p.1=k
  ·rw[if_pos e,if_pos (h1.symm.trans e)];exact⟨h1,ry⟩
  ·rw[if_neg e,if_neg (λz=>e (h1.trans z))];exact⟨h1,h2⟩
theorem KV.put(r:KV kvs vs)(k:κ)(ry:RelV y u):KV (putK kvs k y) (stored vs k u):=by
 unfold putK stored;rw[r.any k]
 by_cases e:(vs.any λkv=>decide (kv.1=k))=true
 ·rw[if_pos e,if_pos e];exact r.repl k ry
 ·rw[if_neg e,if_neg e];exact Paired.snoc r ⟨rfl,ry⟩
theorem KV.length(r:KV kvs vs):kvs.length=vs.length:=Paired.length r
end
theorem pG(r:RelV (kV k) u):(aQ P w).is k u=true:=by
 cases k with
 | inl i=>obtain⟨t,e⟩:=(show ∃t,u=Value.int i t from r);subst e;exact uR P w i t
 | inr x=>obtain⟨t,e⟩:=(show ∃t,u=Value.str x t from r);subst e;exact uS P w x t
theorem rX:∀{ks:List Key} {us:List Value},Vals (ks.map kV) us->ItemsAre (aQ P w) ks us
 | [],_,r=>by rw[map_nil] at r;cases r;exact .nil
 | k::ks,_,r=>by
  rw[map_cons] at r;cases r with
  | cons h t=>exact .cons (pG h) (rX t)
noncomputable abbrev KT(H:Hp):List (List Key×V)->List (List Key×Addr×Value)->Prop:=Paired λp q=>p.1=q.1/\H q.2.1=some (.tup (p.1.map kV))/\RelV p.2 q.2.2
theorem KT.val(r:KT H kvs xs)(k:List Key):jO (iz kvs k) ((atKey xs k).map (·.2)):=by
 induction r with
 | nil=>exact True.intro
 | @cons p q ps qs h t ih =>
  obtain⟨h1,_,h2⟩:=h
  by_cases e:p.1=k
  ·have e':q.1=k:=h1.symm.trans e
   have b:atKey (q::qs) k=some q.2:=by simp[atKey,find?_cons,e']
   rw[pD e,b];exact h2
  ·have e':¬ q.1=k:=λz=>e (h1.trans z)
   have b:atKey (q::qs) k=atKey qs k:=by simp[atKey,find?_cons,e']
   rw[pF e,b];exact ih
theorem KT.repl(r:KT H kvs xs)(k:List Key)(ry:RelV y u) :
  KT H (kvs.map λkv=>if kv.1=k then (kv.1,y) else kv) (xs.map (putAt k u)):=by
 induction r with
 | nil=>exact .nil
 | @cons p q ps qs h t ih =>
  rw[map_cons,map_cons];refine .cons ?_ ih;obtain⟨h1,h2,h3⟩:=h;unfold putAt
  by_cases e:p.1=k
  ·rw[if_pos e,if_pos (h1.symm.trans e)];exact⟨h1,h2,ry⟩
  ·rw[if_neg e,if_neg (λz=>e (h1.trans z))];exact⟨h1,h2,h3⟩
theorem KT.put(r:KT H kvs xs)(k:List Key)(hb:H b=some (.tup (k.map kV)))(ry:RelV y u) :
  KT H (putK kvs k y) (storedH xs k b u):=by
 have e:(kvs.any λkv=>decide (kv.1=k))=(atKey xs k).isSome:=by rw[u9,(r.val k).iS,isSome_map]
 unfold putK storedH;rw[e]
 by_cases q:(atKey xs k).isSome=true
 ·rw[if_pos q,if_pos q];exact r.repl k ry
 ·rw[if_neg q,if_neg q];exact Paired.snoc r ⟨rfl,hb,ry⟩
theorem KT.keeps(r:KT H kvs xs)(ht:∀b ys,H b=some (.tup ys)->H' b=some (.tup ys)):KT H' kvs xs :=
 Paired.Je r λ_ _ z=>⟨z.1,ht _ _ z.2.1,z.2.2⟩
section
variable {P:Program} {w:World} {H:Hp} {h:Heap} {a:Addr}
theorem Ie(ok:lq P w H h)(e:Rd H a u):bE P w H h a u:=e.ok ok
theorem nS(ok:lq P w H h)(e:Rd H a (.dK kvs)):kvs.length<=sizeLine/\(a==sysModules)=false/\∃vs,KV kvs vs/\h.DictOf (aQ P w) a vs :=
 show bE P w H h a (.dK kvs) from Ie ok e
theorem vc(ok:lq P w H h)(e:H a=some (.dK kvs)):kvs.length<=sizeLine/\(a==sysModules)=false/\∃vs,KV kvs vs/\h.DictOf (aQ P w) a vs:=nS ok (.inl e)
theorem mY(ok:lq P w H h)(e:H a=some (.tup (ks.map kV))):(tupleKind (aQ P w)).is h ks a:=by
 obtain⟨_,its,r,o,h1,h2,n,h3⟩:=(show bE P w H h a (.tup (ks.map kV)) from ok a _ e);exact⟨o,its.toArray,n,h1,h2,h3,by simpa using rX r⟩
theorem pH(ok:lq P w H h)(e:Rd H a (.dT kvs)):kvs.length<=sizeLine/\(a==sysModules)=false /\
  ∃xs,KT H kvs xs/\h.DictOfH (tupleKind (aQ P w)) a xs:=by
 obtain⟨z,y,xs,r,o,es,ep,h1,h2,h3,h4,h5⟩:=(show bE P w H h a (.dT kvs) from Ie ok e);refine⟨z,y,xs,r,o,es,ep,h1,h2,h3,h4,λx hx=>?_,h5⟩;have all:∀{l:List (List Key×V)} {m:List (List Key×Addr×Value)},KT H l m->∀x∈m,(tupleKind (aQ P w)).is h x.1 x.2.1:=by
  intro l m q
  induction q with
  | nil=>intro x hx;exact nomatch hx
  | @cons p q ps qs hq t ih =>
   intro x hx
   rcases mem_cons.mp hx with e|hx
   ·subst e;exact mY ok (by rw[<-hq.1];exact hq.2.1)
   ·exact ih x hx
 exact all r x hx
theorem NO(ok:lq P w H h)(e:H a=some (.dT kvs)):kvs.length<=sizeLine/\(a==sysModules)=false /\
  ∃xs,KT H kvs xs/\h.DictOfH (tupleKind (aQ P w)) a xs:=pH ok (.inl e)
end
noncomputable def kP(H:Hp)(a:Addr)(y:V)(r:Option V):Prop :=
 (∃kvs k,Rd H a (.dK kvs)/\y=kV k/\r=iz kvs k)\/∃kvs k b,Rd H a (.dT kvs)/\y=.ref b/\H b=some (.tup (k.map kV))/\r=iz kvs k
noncomputable def Fz(H:Hp)(a:Addr)(y v:V)(H':Hp):Prop :=
 (∃kvs k,H a=some (.dK kvs)/\y=kV k/\kvs.length<sizeLine/\H'=upd H a (.dK (putK kvs k v))) \/
 ∃kvs k b,H a=some (.dT kvs)/\y=.ref b/\H b=some (.tup (k.map kV))/\kvs.length<sizeLine/\H'=upd H a (.dT (putK kvs k v))
theorem kP.k{H:Hp}{a:Addr}{kvs:List (Key×V)}{k:Key}(e:H a=some (.dK kvs)):kP H a (kV k) (iz kvs k):=.inl ⟨kvs,k,.inl e,rfl,rfl⟩
theorem Fz.k{H:Hp}{a:Addr}{kvs:List (Key×V)}{k:Key}{v:V}(e:H a=some (.dK kvs))(hl:kvs.length<sizeLine):Fz H a (kV k) v (upd H a (.dK (putK kvs k v))):=.inl ⟨kvs,k,e,rfl,hl,rfl⟩
section
variable {X:Cx} {pins:List (Addr×Obj)} {σ:St} {H:Hp} {s:Shared} {a:Addr} {y v:V} {u r:Value} {o:Option V} {A:Around} {E:Value->Shared->Prop}
theorem Inv.big(I:Inv X pins σ H s):sysModules<s.heap.objs.size:=by
 have h:mainGlobals<s.heap.objs.size:=(I.mod.glob.keeps I.bk).lt;exact lt_trans (by decide) h
theorem Ar(hu:A.units+1<cLine)(I:Inv X pins σ H s)(g:kP H a y (some v))(ry:RelV y u)(h:∀w' s',Inv X pins σ H s'->RelV v w'->Q w' s') :
  wpAny (model X.prog X.w) A (getItem (.ref a) u) Q E s:=by
 rcases g with ⟨kvs,k,e,ey,l⟩|⟨kvs,k,b,e,ey,eb,l⟩
 ·subst ey;obtain⟨z,hd,vs,rel,dd⟩:=nS I.hok e;obtain⟨w',hw,rw'⟩:=jO.some_of (v:=v) (o:=valueAt vs k) (by rw[l];exact rel.val k);exact wpAny_getItem_of (pG ry) dd.mapOf hw (h w' _ (I.tok _) rw')
 ·subst ey;cases (show u=Value.ref b from ry);obtain⟨z,hd,xs,rel,dd⟩:=pH I.hok e;obtain⟨w',hw,rw'⟩:=jO.some_of (v:=v) (o:=(atKey xs k).map (·.2)) (by rw[l];exact rel.val k);obtain⟨p,hp,hp2⟩:=map_eq_some_iff.mp hw;refine wpAny_getItem_heap (tupleKind_room_in1 hu) (mY I.hok eb) dd hp ?_;rw[hp2];exact h w' _ (I.tok _) rw'
theorem R4(hu:A.units+1<cLine)(I:Inv X pins σ H s)(g:kP H a y o)(ry:RelV y u)(h:∀s',Inv X pins σ H s'->Q (.bool o.isSome) s') :
  wpAny (model X.prog X.w) A (compareOp .In u (.ref a)) Q E s:=by
 rcases g with ⟨kvs,k,e,ey,l⟩|⟨kvs,k,b,e,ey,eb,l⟩
 ·subst ey;obtain⟨z,hd,vs,rel,dd⟩:=nS I.hok e;refine wpAny_in_of (pG ry) hd dd.mapOf ?_;rw[<-(rel.val k).iS,<-l];exact h _ (I.tok _)
 ·subst ey;cases (show u=Value.ref b from ry);obtain⟨z,hd,xs,rel,dd⟩:=pH I.hok e;refine wpAny_in_heap (tupleKind_room_in1 hu) (mY I.hok eb) hd dd ?_;have q:=(rel.val k).iS;rw[isSome_map] at q;rw[<-q,<-l];exact h _ (I.tok _)
theorem FA(hu:A.units+1<cLine)(I:Inv X pins σ H s)(g:kP H a y o)(ry:RelV y u)(h:∀s',Inv X pins σ H s'->Q (.bool (!o.isSome)) s') :
  wpAny (model X.prog X.w) A (compareOp .NotIn u (.ref a)) Q E s:=by
 rcases g with ⟨kvs,k,e,ey,l⟩|⟨kvs,k,b,e,ey,eb,l⟩
 ·subst ey;obtain⟨z,hd,vs,rel,dd⟩:=nS I.hok e;refine wpAny_notIn_of (pG ry) hd dd.mapOf ?_;rw[<-(rel.val k).iS,<-l];exact h _ (I.tok _)
 ·subst ey;cases (show u=Value.ref b from ry);obtain⟨z,hd,xs,rel,dd⟩:=pH I.hok e;refine wpAny_notIn_heap (tupleKind_room_in1 hu) (mY I.hok eb) hd dd ?_;have q:=(rel.val k).iS;rw[isSome_map] at q;rw[<-q,<-l];exact h _ (I.tok _)
theorem tO{t':Nat}(I:Inv X pins σ H s)(mu:M3 (H a))(hs:Heap.SameBut a s.heap h')(he:∃q,h'.get? a=some q)(new:bE X.prog X.w (upd H a ob) h' a ob) :
  Inv X pins σ (upd H a ob) { s with heap:=h',toks:=t' } :=
 I.write (x:=a) (e:=a) mu (.inl rfl) (λb q hb z=>(hs.2 b hb).trans z) he new
theorem B0(z:kvs.length<=sizeLine)(hd:(a==sysModules)=false)(rel:KV kvs vs)(dd:h'.DictOf (aQ P w) a vs) :
  bE P w H' h' a (.dK kvs):=⟨z,hd,vs,rel,dd⟩
theorem As(hu:A.units+1<cLine)(I:Inv X pins σ H s)(g:Fz H a y v H')(ry:RelV y u)(rv:RelV v r)(h:∀s',Inv X pins σ H' s'->Q () s') :
  wpAny (model X.prog X.w) A (setItem (.ref a) u r) Q E s:=by
 rcases g with ⟨kvs,k,e,ey,l,eH⟩|⟨kvs,k,b,e,ey,eb,l,eH⟩
 ·subst ey eH
  obtain⟨z,hd,vs,rel,dd⟩:=vc I.hok e;have hz:vs.length<=sizeLine:=by rw[<-rel.length];exact z
  have hl:(putK kvs k v).length<=sizeLine:=by have:=jW kvs k v;omega
  refine wpAny_setItem_pairs (hsz:=hz) (pG ry) dd λh' JX hs=>h _ ?_;have he:∃q,h'.get? a=some q:=let ⟨q,_,_,hq,_⟩:=JX;⟨q,hq⟩
  exact tO I (by rw[e];exact True.intro) hs he (B0 hl hd (rel.put k rv) JX)
 ·subst ey eH
  cases (show u=Value.ref b from ry);obtain⟨z,hd,xs,rel,dd⟩:=NO I.hok e;have hz:xs.length<=sizeLine:=by rw[<-Paired.length rel];exact z
  have hl:(putK kvs k v).length<=sizeLine:=by have:=jW kvs k v;omega
  refine wpAny_setItem_heap (hsz:=hz) (tupleKind_room_in1 hu) (mY I.hok eb) dd λh' JX hs=>h _ ?_;obtain⟨q,es,ep,hq,h2,h3,h4,_,h5⟩:=JX;refine tO I (by rw[e];exact True.intro) hs ⟨q,hq⟩ ⟨hl,hd,_,(rel.put k eb rv).keeps λc ys ec=>?_,q,es,ep,hq,h2,h3,h4,h5⟩;rw[au (M1 ec e (λz=>nomatch z))];exact ec
end
section
variable {X:Cx} {pins:List (Addr×Obj)} {σ:St} {H:Hp} {s:Shared} {a:Addr} {kvs:List (Key×V)} {k:Key} {u:Value} {A:Around} {E:Value->Shared->Prop}
theorem NP(I:Inv X pins σ H s)(e:Rd H a (.dK kvs))(h:∀t s',Inv X pins σ H s'->Q (.int kvs.length t) s'):wpAny (model X.prog X.w) A (call (.builtin "len") [.ref a]) Q E s:=by
 obtain⟨z,hd,vs,rel,dd⟩:=nS I.hok e;refine call_len_dict hd dd (by rw[<-rel.length];rw[sizeLine_eq] at z;omega) ?_;rw[<-rel.length];exact h _ _ (I.tok _)
end
theorem vd(I:Inv X pins σ H s)(g:kP H a y o):s.TypeIs (.ref a) "dict":=by
 rcases g with ⟨kvs,k,e,_,_⟩|⟨kvs,k,b,e,_,_,_⟩
 ·obtain⟨_,_,vs,_,dd⟩:=nS I.hok e;exact dd.typeIs
 ·obtain⟨_,_,xs,_,dd⟩:=pH I.hok e;exact dd.typeIs
section
variable {X:Cx} {o i e value:Expr} {pos pos' tpos:Pos} {td ty tv:TE}
end
theorem ve(h:Heap)(hb:sysModules<h.objs.size):bE P w H (h.push { cls:=.type "dict",data:=.dict #[] }) h.objs.size (.dK []) :=
 ⟨zero_le _,beq_eq_false_iff_ne.mpr (Ne.symm (ne_of_lt hb)),[],.nil,Heap.DictOf.new h⟩
noncomputable def JY:TE:=λ_ H Q=>∀p,H p=none->Q (.ref p) (upd H p (.dK []))
section
variable {X:Cx} {pos:Pos}
theorem B3:PE X (.Dict [] [] pos) JY:=λpins s σ H Q I h =>
 wpAny_Dict_empty ⟨.ref s.heap.objs.size,_,I.laid (a:=s.heap.objs.size) (o:=.dK []) (t':=s.toks) (λ_ _ q=>get?_push_of_some _ q) (le_refl _) (ve s.heap I.big),rfl,h _ (I.hok.fresh (le_refl _))⟩
end
noncomputable def xT:List (TE×TE)->St->Hp->(List (V×V)->Hp->Prop)->Prop
 | [],_,H,Q=>Q [] H
 | (tk,tv)::r,σ,H,Q=>tk σ H λx H1=>tv σ H1 λy H2=>xT r σ H2 λps H3=>Q ((x,y)::ps) H3
noncomputable abbrev VV:List (V×V)->List (Value×Value)->Prop:=Paired λp q=>RelV p.1 q.1/\RelV p.2 q.2
noncomputable def QN(X:Cx)(pos:Pos)(keys:List (Option Expr))(values:List Expr)(JZ:List (TE×TE)):Prop :=
 ∀(pins:List (Addr×Obj)) (s:Shared) (σ:St) (H:Hp) (Q:List (V×V)->Hp->Prop),Inv X pins σ H s->xT JZ σ H Q ->
  wpAny (model X.prog X.w) X.A (evalPairs (pairTrees keys values X.env pos)) (λvs s'=>∃ps H',Inv X pins σ H' s'/\VV ps vs/\Q ps H') X.xe s
theorem FD:QN X pos [] [] []:=λpins s σ H Q I h=>pairTrees_nil_walk ⟨[],H,I,.nil,h⟩
theorem B4(hk:PE X k tk)(hv:PE X v tv)(hr:QN X pos ks vs JZ) :
  QN X pos (some k::ks) (v::vs) ((tk,tv)::JZ):=λpins s σ H Q I h =>
 pairTrees_cons_walk (cC (hk pins s σ H _ I h) λu s1 ⟨x,H1,I1,rx,q1⟩=>cC (hv pins s1 σ H1 _ I1 q1) λw2 s2 ⟨y,H2,I2,ry,q2⟩ =>
  cC (hr pins s2 σ H2 _ I2 q2) λws s3 ⟨ps,H3,I3,rel,q3⟩=>⟨(x,y)::ps,H3,I3,.cons ⟨rx,ry⟩ rel,q3⟩)
noncomputable def mZ(kvs more:List (Key×V)):List (Key×V):=more.foldl (λacc kv=>putK acc kv.1 kv.2) kvs
theorem KV.merge:∀{more:List (Key×V)} {rs:List (Key×Value)} {kvs:List (Key×V)} {vs:List (Key×Value)},KV more rs->KV kvs vs->KV (mZ kvs more) (merged vs rs):=by
 intro more rs kvs vs r;unfold KV at r
 induction r generalizing kvs vs with
 | nil=>intro q;exact q
 | @cons p q ps qs h t ih =>
  intro r0;have e:KV (putK kvs p.1 p.2) (stored vs q.1 q.2):=by have:=r0.put p.1 h.2;rw[<-h.1];exact this
  exact ih e
theorem kW:∀(more kvs:List (Key×V)),(mZ kvs more).length<=kvs.length+more.length
 | [],kvs=>by show kvs.length<=kvs.length+0;omega
 | p::r,kvs=>by
  have h1:=kW r (putK kvs p.1 p.2);have h2:=jW kvs p.1 p.2;show (mZ (putK kvs p.1 p.2) r).length<=_;rw[length_cons];omega
theorem pI:∀{kvs:List (Key×V)} {ws:List (Value×Value)},VV (kvs.map λkv=>(kV kv.1,kv.2)) ws->∃rs,Carries (aQ P w) ws rs/\KV kvs rs
 | [],_,r=>by rw[map_nil] at r;cases r;exact⟨[],True.intro,.nil⟩
 | p::kvs,_,r=>by
  rw[map_cons] at r;cases r with
  | @cons a b as bs h t =>obtain⟨rs,c,q⟩:=pI (P:=P) (w:=w) t;obtain⟨b1,b2⟩:=b;exact⟨(p.1,b2)::rs,⟨pG h.1,rfl,c⟩,.cons ⟨rfl,h.2⟩ q⟩
noncomputable def NQ(JZ:List (TE×TE)):TE:=λσ H Q=>∀p,H p=none->xT JZ σ (upd H p (.dK [])) λps H2=>H2 p=some (.dK [])/\∃kvs:List (Key×V),ps=kvs.map (λkv=>(kV kv.1,kv.2))/\kvs.length<=15/\Q (.ref p) (upd H2 p (.dK (mZ [] kvs)))
theorem FE(h:QN X pos keys values JZ)(hall:keys.all (·.isSome)=true)(hl:keys.length=values.length)(h0:keys≠[])
  (XY:keys.length<=15):PE X (.Dict keys values pos) (NQ JZ):=by
 intro pins s σ H Q I q;have hn:=I.hok.fresh (le_refl s.heap.objs.size);have I1:=I.laid (a:=s.heap.objs.size) (o:=.dK []) (h':=s.heap.push { cls:=.type "dict",data:=.dict #[] }) (t':=s.toks) (λ_ _ q=>get?_push_of_some _ q) (le_refl _) (ve s.heap I.big);refine wpAny_Dict_walk (knd:=aQ X.prog X.w) hall hl h0 XY (cC (h pins _ σ _ _ I1 (q _ hn)) λws s2 aF=>?_);obtain⟨ps,H2,I2,rel,e,kvs,ep,lk,q2⟩:=aF;subst ep;obtain⟨rs,c,rk⟩:=pI (P:=X.prog) (w:=X.w) rel;obtain⟨z,hd,vs0,r0,dd⟩:=vc I2.hok e;cases r0;refine⟨rs,c,dd,λh' JX hs=>⟨.ref s.heap.objs.size,_,?_,rfl,q2⟩⟩;have hz:(mZ [] kvs).length<=sizeLine:=by have h1:=kW kvs [];rw[length_nil] at h1;rw[sizeLine_eq];omega
 have he:∃q,h'.get? s.heap.objs.size=some q:=let ⟨q,_,_,hq,_⟩:=JX;⟨q,hq⟩
 exact tO I2 (by rw[e];exact True.intro) hs he (B0 hz hd (rk.merge .nil) JX)
structure M2 (X:Cx) (o:Expr) (m:Str) (apos:Pos) (e f:Expr) (cpos:Pos):Prop where
 base:attributeBase o m X.env (eval o X.env)=eval o X.env
 few:((backTo cpos (starEach [e,f] X.env)).all (λx=>!x.1)&&(backToKw cpos (keywordEach [] X.env)).all (λx=>x.1.isSome)
  && decide (([e,f]:List Expr).length+([]:List Keyword).length+(if ([]:List Keyword).isEmpty then 0 else 1)<30))=true
 line:(apos.endLine==cpos.line)=true
 trees:backTo cpos (starEach [e,f] X.env)=[(false,eval e X.env),(false,eval f X.env)]
noncomputable def Wb(H:Hp)(a:Addr):Prop:=(∃kvs,Rd H a (.dK kvs))\/∃kvs,Rd H a (.dT kvs)
theorem xU(I:Inv X pins σ H s)(d:Wb H a) :
  s.TypeIs (.ref a) "dict" /\ (∀b,Value.ref a=.ref b->∃ob,s.heap.get? b=some ob/\ob.dict=none)/\(a==sysModules)=false:=by
 rcases d with ⟨kvs,e⟩|⟨kvs,e⟩
 ·obtain⟨_,hd,vs,_,dd⟩:=nS I.hok e;refine⟨dd.typeIs,λb q=>?_,hd⟩;cases q;obtain⟨ob,_,_,h1,h2,_⟩:=dd;exact⟨ob,h1,h2.2.1⟩
 ·obtain⟨_,hd,xs,_,dd⟩:=pH I.hok e;refine⟨dd.typeIs,λb q=>?_,hd⟩;cases q;obtain⟨ob,_,_,h1,h2,_⟩:=dd;exact⟨ob,h1,h2.2.1⟩
section
variable {X:Cx} {pins:List (Addr×Obj)} {σ:St} {H:Hp} {s:Shared} {a:Addr} {y d:V} {u r:Value} {o:Option V} {A:Around} {E:Value->Shared->Prop}
theorem J0(hu:A.units+1<cLine)(I:Inv X pins σ H s)(g:kP H a y o)(ry:RelV y u)(rd:RelV d r)(h:∀w' s',Inv X pins σ H s'->RelV (o.getD d) w'->Q w' s') :
  wpAny (model X.prog X.w) A (call (.builtin "dict.get") [.ref a,u,r]) Q E s:=by
 rcases g with ⟨kvs,k,e,ey,l⟩|⟨kvs,k,b,e,ey,eb,l⟩
 ·subst ey;obtain⟨z,hd,vs,rel,dd⟩:=nS I.hok e;refine call_meetsIn PySem.F.slot_dict_get dd.typeIs PySem.F.entry_dict_get (PySem.F.args_dict_get_3 _ _ _) (meets_dict_get_default (aQ X.prog X.w) a (pG ry) hd r) ⟨_,dd.mapOf,h _ _ (I.tok _) ?_⟩;rw[l];exact(rel.val k).getD rd
 ·subst ey;cases (show u=Value.ref b from ry);obtain⟨z,hd,xs,rel,dd⟩:=pH I.hok e;refine call_meetsIn PySem.F.slot_dict_get dd.typeIs PySem.F.entry_dict_get (PySem.F.args_dict_get_3 _ _ _) (meetsH_dict_get_default (tupleKind (aQ X.prog X.w)) a b hd r) ⟨tupleKind_room_in1 hu,k,xs,mY I.hok eb,dd,h _ _ (I.tok _) ?_⟩;rw[l];exact(rel.val k).getD rd
end
noncomputable def J1(td ty tx:TE):TE:=λσ H Q=>td σ H λx H1=>∃a,x=.ref a/\Wb H1 a/\ty σ H1 λy H2=>tx σ H2 λz H3=>∃o,kP H3 a y o/\Q (o.getD z) H3
section
variable {X:Cx} {o e f:Expr} {apos cpos:Pos} {td ty tx:TE}
theorem B5(hu:X.A.units+1<cLine)(ho:PE X o td)(he:PE X e ty)(hf:PE X f tx)(m:M2 X o "get" apos e f cpos):PE X (.Call (.Attribute o "get" apos) [e,f] [] cpos) (J1 td ty tx):=by
 intro pins s σ H Q I h;refine wpAny_Call_method m.base m.few m.line PySem.F.plainAttrs_dict PySem.F.slot_dict_get PySem.F.type_dict_get (cC (ho pins s σ H _ I h) λu s1 aF=>?_);obtain⟨x,H1,I1,rx,a,ex,d,q1⟩:=aF;subst ex;obtain rfl:u=Value.ref a:=rx;obtain⟨t1,t2,_⟩:=xU I1 d;refine⟨t1,t2,?_⟩;rw[m.trees];refine Calls.callWith_builtin rfl (Calls.evalArgs_plain (Calls.spliced_cons (cC (he pins s1 σ H1 _ I1 q1) λiv s2 ⟨y,H2,I2,ry,q2⟩ =>
  Calls.spliced_cons (cC (hf pins s2 σ H2 _ I2 q2) λfv s3 ⟨z,H3,I3,rz,ov,g,q3⟩=>Calls.spliced_nil ?_))))
 exact J0 hu I3 g ry rz λw' s4 I4 rw'=>⟨_,H3,I4,rw',q3⟩
end
section
variable {X:Cx} {pins:List (Addr×Obj)} {σ:St} {H:Hp} {s:Shared} {a:Addr} {kvs:List (Key×V)} {A:Around} {E:Value->Shared->Prop}
end
section
variable {X:Cx} {pins:List (Addr×Obj)} {σ:St} {H:Hp} {s:Shared} {a:Addr} {y:V} {u:Value} {A:Around} {E:Value->Shared->Prop}
end
end L2
namespace Wc
open PySem PySem.W PySem.Calls PyProof.Rows
theorem oA:∀(ns:List Int) (vs:List Value),WellAll P h vs (ns.map WData.int)->IntsAre vs ns:=by
 intro ns
 induction ns with
 | nil =>intro vs w;rw[map_nil] at w;cases w;exact .nil
 | cons n ns ih =>
  intro vs w;rw[map_cons] at w;cases w with
  | cons a b =>cases a;exact .cons _ _ (ih _ b)
theorem Au{l:OpenLaw}{n:Nat}(hn:l.most=some n){P:Params}{h:Heap}{args:List WData}{vals:List Value}
  (hpre:l.row.toRowW.claim.pre args=true) (hwl:WellAll P h vals args) :
  ∃a vs ns,vals=[Value.ref a]/\args=[WData.list (ns.map WData.int)]/\h.get? a=some { cls:=.type "list",data:=.seq vs.toArray }/\IntsAre vs ns/\ns.length<=n:=by
 have hsh:WShape.hasAll [] args [.list .int]=true:=(pre_splitW hpre).1;have hc:l.pre.holds [] { args:=args }=true:=(pre_splitW hpre).2;obtain⟨d,r,rfl,h1,h2⟩:=hasAllW_cons hsh;obtain rfl:=hasAllW_nil h2;obtain⟨xs,rfl,h3⟩:=hasW_list h1;obtain⟨ns,rfl⟩:=items_int h3;have hlen:ns.length<=n:=by
  unfold OpenLaw.pre at hc;have h4:(WTm.not (.lt (.lit (.int (n:Int))) (.len (.arg 0)))).holds [] { args:=[.list (ns.map .int)] }=true:=by have h4:=(holds_andW hc).1;rw[hn] at h4;exact h4
  have h5:=condW_of h4 (w_not (w_lt w_lit (w_len_list (w_arg rfl))));rw[length_map] at h5;refine Nat.le_of_not_lt λq=>?_;have q':(n:Int)<((ns.length:Nat):Int):=by omega
  first
   | (rw[decide_eq_true q'] at h5;exact absurd h5 (by decide))
   | (simp at h5;omega)
 cases hwl with
 | cons w1 w2 =>
  cases w2;cases w1 with
  | list ho hall=>exact⟨_,_,ns,rfl,rfl,ho,oA ns _ hall,hlen⟩
theorem Av(l:OpenLaw)(args:List WData):l.row.toRowW.claim.post args (.bool true) args=true :=
 postW_of (r:=l.row.toRowW) (X:=(true==true))
  (show WShape.has [] (.bool true) .bool=true by first|rfl|decide|simp[WShape.has,WShape.arms,WShape.armsAll])
  (show (WTm.eq .res (.lit (.bool true))).value [] { args:=args,res:=some (.bool true),after:=args }=some (.bool (true==true)) from w_eq_bool (w_res rfl) w_lit) rfl
theorem vf{l:OpenLaw}{n:Nat}{q:Program}{loose:List Str}{XP:(Str->Option Value)->Heap->Prop}{YP:World->Heap->Prop}{d:DefRec}
  (hn:l.most=some n) (hdf:d.params.defaults=[])
  (call:∀(w:World) (s₀ s₁:Shared) (mg mb:Str->Option Value) (fa:Addr) (o:Obj) (pm cd doc:Value) (a:Addr) (vs:List Value) (ns:List Int),
   Ground q loose [] XP w s₀ mg mb s₁.heap->YP w s₁.heap ->
   s₁.heap.get? fa=some o->o.data=.func (docDef d.name d.params d.body d.scope pm cd doc)->s₁.heap.CodeRec cd d.name->mg d.name=some (.ref fa) ->
   s₁.heap.get? a=some { cls:=.type "list",data:=.seq vs.toArray }->IntsAre vs ns->ns.length<=n->s₁.gens = #[] ->
   codeAny (model l.prog w) callerA (.call (.ref fa) ⟨[.ref a],[]⟩) (λr s'=>r=.ok (.ret (.bool true))/\OldK s₁.heap s'.heap/\s'.os=s₁.os/\AllBare s'.gens) s₁) :
  WalkO q loose XP YP l.row.toRowW d [] (λf vs=>PySem.call f vs):=by
 intro w s₀ s₁ mg mb G Y fa o pm cd doc dV kV ho hd hcd hD hmg hg args vals as hpre hlay hrd hwl hlo;obtain rfl:dV=.none:=Dflts.none hD hdf;obtain rfl:kV=.none:=Dflts.noKw hD;obtain⟨a,vs,ns,rfl,rfl,hobj,hints,hlen⟩:=Au hn hpre hwl;refine enter_call (codeAny_mono (call w s₀ s₁ mg mb fa o pm cd doc a vs ns G Y ho (fd_plain hd) hcd hmg hobj hints hlen hg) λr s' hq=>?_);obtain⟨rfl,h2,h3,h4⟩:=hq;exact⟨.inl ⟨.bool true,.bool true,[],rfl,λ_=>rfl,.bool true,Av l _,λ_=>⟨List.Pairwise.nil,λ_ hm=>(nomatch hm)⟩⟩,h2,h3,h4⟩
section
variable {prog:Program} {w:World} {A:Around} {E:Value->Shared->Prop} {s:Shared} {K:Frag}
noncomputable def ledger(h:Heap)(L d:Addr):List (Addr×Obj):=(List.range h.objs.size).filterMap λa=>if a=L\/a=d then none else (h.get? a).map λo=>(a,o)
end
end Wc
namespace L2
open PySem PySem.Spec PyProof.Rows
theorem iT:∀{vs:List Value} {ns:List Int},IntsAre vs ns->Vals (ns.map V.int) vs
 | _,_,.nil=>.nil
 | _,_,.cons n t h=>.cons ⟨t,rfl⟩ (iT h)
noncomputable def B6(H:Hp):Prop:=∀b,H b=none\/∃o xs,H b=some (.iR o (.lst xs))
theorem B7{P:Program}{w:World}{K:PySem.W.Frag}{mg mb:Str->Option Value}{CX:Am}{k:Nat}{fa a:Addr}{fd:FuncData}{x:Str}{sp:Sp}{s₁:Shared}{vs:List Value}{ns:List Int}
  (KX:K.In s₁.heap) (hns:s₁.heap.Ns mainGlobals mg) (hb:s₁.heap.Ns builtinsNs mb) (XZ:∀x:Str,x ≠ "__name__" -> mb x=bootBuiltins x) (hlim:s₁.heap.NoLimit) (hg:s₁.gens = #[])
  (ha:s₁.heap.get? a=some { cls:=.type "list",data:=.seq vs.toArray }) (hi:IntsAre vs ns) (hl:ns.length<=sizeLine) (hr:di k callerA)
  (F:∀base:Heap,K.In base->base.Ns mainGlobals mg->fE P w K mg base CX k fa fd [x] sp) (hbind:∀(s:Shared) (u:Value),BindsTo s fd ⟨[u],[]⟩ [(x,u)])
  (hsp:∀H:Hp,B6 H->gn K H a (ns.map V.int)->sp [.ref a] H (λv _=>v=.bl true) λ_ _ _=>False)
  (hCX:∀H e s',CX [] H s₁ (λ_ _ _=>False) e s'->False) :
  codeAny (model P w) callerA (.call (.ref fa) ⟨[.ref a],[]⟩) (λr s'=>r=.ok (.ret (.bool true))/\OldK s₁.heap s'.heap/\s'.os=s₁.os/\AllBare s'.gens) s₁:=by
 have rv:=iT hi;have R5:=hi.length;have core:∀H:Hp,B6 H->gn K H a (ns.map V.int)->lq P w H s₁.heap->(∀b,H b≠none->b=a)->(H a≠none->K.lookup a=none) ->
   codeAny (model P w) callerA (.call (.ref fa) ⟨[.ref a],[]⟩) (λr s'=>r=.ok (.ret (.bool true))/\OldK s₁.heap s'.heap/\s'.os=s₁.os/\AllBare s'.gens) s₁:=by
  intro H hO hS hok hA hK;have base_of:∀{b:Addr} {o:Obj},s₁.heap.get? b=some o->H b=none->(tE s₁.heap H).get? b=some o:=λe n=>BB e n;have noA:∀{b:Addr} {o:Obj} {es:Array DictEntry} {ep:Nat},s₁.heap.get? b=some o->o.data=.dict es ep->H b=none:=λ{b o es ep} e d=>by
   cases q:H b with
   | none=>rfl
   | some u =>have e':b=a:=hA b (by rw[q];simp);subst e';rw[ha] at e;cases e;have d':Data.seq vs.toArray _=Data.dict es ep:=d;cases d'
  have nsK:∀{b:Addr} {m:Str->Option Value},s₁.heap.Ns b m->(tE s₁.heap H).Ns b m:=λ{b m} ⟨o,es,ep,e,d,r⟩=>⟨o,es,ep,base_of e (noA e d),d,r⟩;have Wd:K.In (tE s₁.heap H):=λb o e=>base_of (KX b o e) (by
   cases q:H b with
   | none=>rfl
   | some u =>have e':b=a:=hA b (by rw[q];simp);subst e';rw[hK (by rw[q];simp)] at e;cases e)
  have hM:Mod K mg (tE s₁.heap H):=⟨Wd,nsK hns,⟨mb,nsK hb,XZ⟩,let ⟨mc,h1,h2⟩:=hlim;⟨mc,nsK h1,h2⟩⟩;have e0:xO P w K mg (tE s₁.heap H) callerA [] s₁ H:=⟨rfl,hM,λb o e=>EM e,Nat.le_of_eq (z8 _ _),trivial,λb hb=>absurd (show b∈([]:List Addr) from hb) (by simp),hok,.of_eq hg⟩;refine codeAny_mono ((F _ Wd (nsK hns)).run callerA [] s₁ H ⟨[.ref a],[]⟩ [.ref a] [.ref a] _ _ hr e0 (hbind s₁ (.ref a)) (.cons rfl .nil) (hsp H hO hS)) λr s' h=>?_;cases r with
  | error e=>exact(hCX H e s' h).elim
  | ok fl =>
   cases fl with
   | next=>exact False.elim h
   | brk=>exact False.elim h
   | cont=>exact False.elim h
   | ret u =>
    obtain⟨v,H',os,bare,un,R6,r',q⟩:=h;have q':v=.bl true:=q;subst q';obtain rfl:u=Value.bool true:=r';refine⟨rfl,OldK.of_keep λb o e=>?_,os,bare⟩;cases q:H b with
    | none=>exact un.keep b o e q (by intro z;exact absurd (show b∈([]:List Addr) from z) (by simp)) (by simp)
    | some u =>
     rcases hO b with z|⟨ob,xs,z⟩
     ·rw[q] at z;cases z
     ·have z2:=un.frzs b ob _ z;obtain⟨e1,_⟩:=hok b _ z;obtain⟨e2,_⟩:=R6 b _ z2;rw[e] at e1;cases e1;exact e2
 cases hk:K.lookup a with
 | some o =>have e:=KX a o hk;rw[ha] at e;cases e;refine core (λ_=>none) (λ_=>.inl rfl) (.inr ⟨_,vs.toArray,_,hk,rfl,rfl,rfl,by rw[size_toArray,R5];exact hl,by simpa using rv⟩) (λb u z=>by have z':(none:Option HO)=some u:=z;cases z') (λb z=>absurd rfl z) λz=>absurd rfl z
 | none =>
  refine core (λb=>if b=a then some (.iR { cls:=.type "list",data:=.seq vs.toArray } (.lst (ns.map V.int))) else none) (λb=>?_) (.inl (.inr ⟨{ cls:=.type "list",data:=.seq vs.toArray },if_pos rfl⟩)) (λb u z=>?_) (λb z=>?_) λ_=>hk
  ·by_cases hb:b=a
   ·exact .inr ⟨_,_,if_pos hb⟩
   ·exact .inl (if_neg hb)
  ·by_cases hb:b=a
   ·have z':=(if_pos hb).symm.trans z;cases z';subst hb;exact⟨ha,by rw[length_map];exact hl,vs,_,rv,ha⟩
   ·have z':=(if_neg hb).symm.trans z;cases z'
  ·by_cases hb:b=a
   ·exact hb
   ·exact absurd (if_neg hb) z
end L2
namespace L2
open PySem PySem.Spec PyProof.Rows
theorem FF{l:PySem.W.OpenLaw}{n k:Nat}{q:Program}{loose:List Str}{XP:(Str->Option Value)->Heap->Prop}{YP:World->Heap->Prop}{d:DefRec}{K:Params->PySem.W.Frag}{CX:World->Am}{sp:World->Sp}{x:Str}
  (hn:l.most=some n) (hn2:n<=sizeLine) (hdf:d.params.defaults=[]) (hr:di k callerA)
  (hY:∀(w:World) (h:Heap),YP w h->(K w.params).In h)
  (F:∀(w:World) (mg:Str->Option Value) (fa:Addr) (h:Heap),(K w.params).In h->h.Ns mainGlobals mg->mg d.name=some (.ref fa) ->
   ∃fd:FuncData,(∀(s:Shared) (u:Value),BindsTo s fd ⟨[u],[]⟩ [(x,u)]) /\
    ∀base:Heap,(K w.params).In base->base.Ns mainGlobals mg->fE l.prog w (K w.params) mg base (CX w) k fa fd [x] (sp w))
  (hsp:∀(w:World) (H:Hp) (a:Addr) (ns:List Int),ns.length<=n->B6 H->gn (K w.params) H a (ns.map V.int)->sp w [.ref a] H (λv _=>v=.bl true) λ_ _ _=>False)
  (hCX:∀(w:World) (H:Hp) (s:Shared) (e:Value) (s':Shared),CX w [] H s (λ_ _ _=>False) e s'->False) :
  PySem.W.WalkO q loose XP YP l.row.toRowW d [] (λf vs=>PySem.call f vs):=by
 refine Wc.vf hn hdf λw s₀ s₁ mg mb fa o pm cd doc a vs ns G Y ho hd hcd hmg hobj hints hlen hg=>?_;have KX:=hY w _ Y;obtain⟨fd,hb,hF⟩:=F w mg fa _ KX G.T.g hmg;exact B7 KX G.T.g G.T.b G.T.builtins G.T.nolimit hg hobj hints (le_trans hlen hn2) hr hF hb (λH hO hS=>hsp w H a ns hlen hO hS) λH e s'=>hCX w H s₁ e s'
end L2
namespace L2
open PySem PySem.Spec PyProof.Rows
noncomputable def aK(s:Stmt):Arguments:=match s with
 | .FunctionDef _ a _ _ _ _ _ _ _ _=>a
 | _=>{ posonlyargs:=[],args:=[],vararg:=none,kwonlyargs:=[],kw_defaults:=[],kwarg:=none,defaults:=[] }
noncomputable def aj(s:Stmt):List Stmt:=match s with
 | .FunctionDef _ _ b _ _ _ _ _ _ _=>b
 | _=>[]
noncomputable def af(s:Stmt):Scope:=match s with
 | .FunctionDef _ _ _ _ _ _ sc _ _ _=>sc
 | _=>{ kind:=.function,names:=[],isGenerator:=false,isCoroutine:=false }
noncomputable abbrev xr:Am:=λ_ _ _ _ _ _=>False
noncomputable abbrev E0:XK:=λ_ _ _=>False
theorem pJ:Passes xr X E0:=λ_ _ _ _ _ _ _ h=>h.elim
structure FG (K:PySem.W.Frag) (x qual:Str) (st:Stmt) (f:Addr) (fd:FuncData):Prop where
 ex:∃(oc:Value) (od:Option Addr) (kV doc pm:Value) (an:Option Addr) (cdv ct:Value) (osl:Array (Option Value)),
  fd=PySem.W.fnOf x qual (aK st) (aj st) (af st) .none kV doc pm an cdv ct/\K.lookup f=some ⟨oc,od,.func fd,osl⟩/\codeIn K cdv qual=true
 kp:keepIn K (.ref f)=true
section
variable {P:Program} {w:World} {K:PySem.W.Frag} {mg:Str->Option Value} {base:Heap}
theorem FG.ok{x qual:Str}{st:Stmt}{f:Addr}{fd:FuncData}{N ps:List Str}{k:Nat}{sp:Sp}(F:FG K x qual st f fd)(S:oO N ps (af st))(len:∀vs H Q E,sp vs H Q E->vs.length=ps.length)
  (hbody:∀(cdv:Value) (A:Around) (outer:List Env) (s:Shared) (H:Hp) (vs:List V) (Q:VK) (E:XK),di k (A.deeper (envOfC qual (af st) s.heap.objs.size f cdv))->sp vs H Q E ->
   ∃t,xy (xP xr P w K mg base N qual (af st) f cdv A outer s H E).Ng (aj st) t/\t { nx:=λ_ H'=>Q .non H',rt:=Q } (start N vs) H):fE P w K mg base xr (k+1) f fd ps sp:=by
 obtain⟨oc,od,kV,doc,pm,an,cdv,ct,osl,rfl,lk,hcd⟩:=F.ex;refine NG lk hcd S len λA outer s H vs Q E hr hsp=>?_;obtain⟨t,h,q⟩:=hbody cdv A outer s H vs Q E hr hsp;exact⟨t,h.Ng,q⟩
theorem FG.binds{x qual:Str}{st:Stmt}{f:Addr}{fd:FuncData}{ps:List Str}(F:FG K x qual st f fd)
  (h:∀(kV doc pm:Value) (an:Option Addr) (cdv ct:Value) (us:List Value),us.length=ps.length->bindArgs (PySem.W.fnOf x qual (aK st) (aj st) (af st) .none kV doc pm an cdv ct) ⟨us,[]⟩=pure (ps.zip us)):Binds K fd ps []:=by
 obtain⟨oc,od,kV,doc,pm,an,cdv,ct,osl,rfl,lk,hcd⟩:=F.ex;exact .all (h kV doc pm an cdv ct)
theorem bG{x qual:Str}{st:Stmt}{f:Addr}{oc:Value}{od an:Option Addr}{osl:Array (Option Value)}{kV doc pm cdv ct:Value}(l:K.lookup f=some ⟨oc,od,.func (PySem.W.fnOf x qual (aK st) (aj st) (af st) .none kV doc pm an cdv ct),osl⟩)
  (c:codeIn K cdv qual=true) (k:keepIn K (.ref f)=true):FG K x qual st f (PySem.W.fnOf x qual (aK st) (aj st) (af st) .none kV doc pm an cdv ct):=⟨⟨oc,od,kV,doc,pm,an,cdv,ct,osl,rfl,l,c⟩,k⟩
end
section
variable {X:Cx}
theorem Aw:cH X (.builtin "len") (λxs H Q=>∃a kvs,xs=[V.ref a]/\H a=some (.dK kvs)/\Q (.int kvs.length) H):=by
 intro pins s σ H xs us Q I r h;obtain⟨a,kvs,rfl,ha,q⟩:=h;obtain⟨u,rfl,ru⟩:=vals1 r;cases ru;exact NP I (.inl ha) λt s' I'=>⟨.int kvs.length,H,I',⟨t,rfl⟩,q⟩
end
noncomputable def xV(H H':Hp):Prop:=∀b o,H b=some o->H' b=some o
theorem xV.seq{K:PySem.W.Frag}{H H':Hp}{a:Addr}{xs:List V}(e:xV H H')(h:gn K H a xs):gn K H' a xs:=by
 rcases h with (h|⟨o,h⟩)|h
 ·exact .inl (.inl (e _ _ h))
 ·exact .inl (.inr ⟨o,e _ _ h⟩)
 ·exact .inr h
section
variable {κ:Type} [DecidableEq κ]
end
end L2
end
section
namespace L2
open PySem PySem.Spec PyProof.Rows
theorem ly(env:Env):∀(names:List (Str×NameKind)) (acc:List (Str×Addr)),(∀y∈names,y.2=.free->∃c,env.cells.lookup y.1=some c) ->
  (∀x c,acc.lookup x=some c->env.cells.lookup x=some c) ->
  ∃cl,(forIn names acc λx r=>if (x.snd==NameKind.free)=true then do let c <-cellOf env x.fst;pure (ForInStep.yield ((x.fst,c)::r)) else pure (ForInStep.yield r))=(pure cl:Sem (List (Str×Addr))) /\
   (∀x c,cl.lookup x=some c->env.cells.lookup x=some c)/\∀x,((x,NameKind.free)∈names\/∃c,acc.lookup x=some c)->∃c,cl.lookup x=some c
 | [],acc,_,ha=>⟨acc,rfl,ha,λx h=>h.elim (λz=>nomatch z) λz=>z⟩
 | (n,k)::r,acc,hn,ha=>by
  have hr:∀y∈r,y.2=NameKind.free->∃c,env.cells.lookup y.1=some c:=λy hy=>hn y (mem_cons_of_mem _ hy)
  by_cases hk:k=.free
  ·subst hk
   obtain⟨c,hc⟩:=hn (n,.free) mem_cons_self rfl;have ha':∀x d,((n,c)::acc).lookup x=some d->env.cells.lookup x=some d:=λx d h=>by
    rw[lookup_cons] at h;cases e:x==n with
    | true =>rw[e] at h;have e':x=n:=eq_of_beq e;cases h;rw[e'];exact hc
    | false=>rw[e] at h;exact ha x d h
   obtain⟨cl,e1,e2,e3⟩:=ly env r ((n,c)::acc) hr ha';refine⟨cl,?_,e2,λx h=>?_⟩
   ·rw[List.forIn_cons]
    have hco:cellOf env n=pure c:=by unfold cellOf;rw[hc]
    simp only[beq_self_eq_true,if_true,hco];exact e1
   ·by_cases hx:x=n
    ·subst hx;exact e3 x (.inr ⟨c,by simp[lookup_cons]⟩)
    ·rcases h with h|⟨d,h⟩
     ·rcases mem_cons.mp h with z|z
      ·exact absurd (congrArg Prod.fst z) hx
      ·exact e3 x (.inl z)
     ·refine e3 x (.inr ⟨d,?_⟩);rw[lookup_cons];have:(x==n)=false:=beq_eq_false_iff_ne.mpr hx;rw[this];exact h
  ·have hb:(k==NameKind.free)=false:=beq_eq_false_iff_ne.mpr hk
   obtain⟨cl,e1,e2,e3⟩:=ly env r acc hr ha;refine⟨cl,?_,e2,λx h=>e3 x ?_⟩
   ·rw[List.forIn_cons];simp only[hb,false_eq_true,if_false];exact e1
   ·rcases h with h|h
    ·rcases mem_cons.mp h with z|z
     ·cases z;exact absurd rfl hk
     ·exact .inl z
    ·exact .inr h
theorem pK(h:∀y∈scope.names,y.2=.free->∃c,env.cells.lookup y.1=some c) :
  ∃cl,closureFor scope env=pure cl/\(∀x c,cl.lookup x=some c->env.cells.lookup x=some c)/\∀x,(x,NameKind.free)∈scope.names->∃c,cl.lookup x=some c:=by
 obtain⟨cl,e1,e2,e3⟩:=ly env scope.names [] h (λx c z=>by simp at z);refine⟨cl,?_,e2,λx hx=>e3 x (.inl hx)⟩;unfold closureFor;simp only[bind_pure];exact e1
noncomputable def bu(X:Cx)(scope:Scope)(N':List Str)(cl:List (Str×Addr))(C:Addr)(s:Shared)(H:Hp)(fp:List Addr):Cx :=
 { prog:=X.prog,w:=X.w,K:=X.K,mg:=X.mg,base:=X.base,A:=X.A,N:=N',s₀:=s,H₀:=H,env:=compEnvC scope cl C X.env,outer:=X.stack,stack:=X.stack,ex:=fp,fn:=λ_=>false,calm:=X.calm,pn:=[],xe:=λ_ _=>False }
noncomputable def gE(js:List (Option Nat))(σ:St):St:=js.map λo=>match o with
 | none=>none
 | some j=>match σ[j]? with
  | some (some v)=>some v
  | _=>none
noncomputable def tQ(sc:Scope)(x:Str):Bool:=sc.names.lookup x==some .cell||sc.names.lookup x==some .free
noncomputable def gu(XN:List Str)(xsc scope:Scope)(N':List Str)(js:List (Option Nat)):Bool :=
 scope.kind==.function&&(scope.names.all λy=>y.2 != .local||scope.names.lookup y.1==some .local)&&(scope.names.all λy=>y.2 != .cell) &&
 (scope.names.all λy=>y.2 != .free||(tQ xsc y.1&&scope.names.lookup y.1==some .free))&&js.length==N'.length &&
 ((N'.zip js).all λp=>match p.2 with|none=>true|some j=>XN[j]?==some p.1&&scope.names.lookup p.1==some .free)
structure tR (X:Cx) (scope:Scope) (N':List Str) (js:List (Option Nat)):Prop where
 kind:scope.kind=.function
 names:∀y∈scope.names,y.2=.local->scope.names.lookup y.1=some .local
 B8:∀y∈scope.names,y.2≠.cell
 free:∀y∈scope.names,y.2=.free->tQ X.env.scope y.1=true/\scope.names.lookup y.1=some .free
 len:js.length=N'.length
 src:∀(i:Nat) (x:Str) (j:Nat),N'[i]?=some x->js[i]?=some (some j)->X.N[j]?=some x/\scope.names.lookup x=some .free
theorem rY(h:gu X.N X.env.scope scope N' js=true):tR X scope N' js:=by
 unfold gu at h;simp only[and_eq_true,all_eq_true] at h;obtain⟨⟨⟨⟨⟨h1,h2⟩,h3⟩,h4⟩,h5⟩,h6⟩:=h;refine⟨eq_of_beq h1,λy hy e=>?_,λy hy e=>?_,λy hy e=>?_,eq_of_beq h5,λi x j e1 e2=>?_⟩
 ·have:=h2 y hy;rw[e] at this;simpa using this
 ·have:=h3 y hy;rw[e] at this;simp at this
 ·have:=h4 y hy;rw[e] at this;simpa using this
 ·have hm:(x,some j)∈N'.zip js:=by
   refine List.mem_iff_getElem?.mpr ⟨i,?_⟩;rw[List.getElem?_zip_eq_some];exact⟨e1,e2⟩
  have:=h6 _ hm;simpa using this
theorem iA(js:List (Option Nat))(σ:St):(gE js σ).length=js.length:=by unfold gE;rw[length_map]
noncomputable def ED(X:Cx)(ifs:List Expr)(t:TT):Prop :=
 ∀(pins:List (Addr×Obj)) (s:Shared) (σ:St) (H:Hp) (Q:Bool->Hp->Prop),Inv X pins σ H s->t σ H Q ->
  wpAny (model X.prog X.w) X.A (forIn ifs true λc r=>if r=true then do let ok <-isTrue c X.env (eval c X.env);pure (ForInStep.yield ok) else pure (ForInStep.yield r)) (TP X pins σ Q) X.xe s
noncomputable def vg:TT:=λ_ H Q=>Q true H
theorem FH:ED X [] vg:=λ_ _ _ H _ I h=>wpAny_tests_nil ⟨H,I,h⟩
theorem yX(h:PT X c t):ED X [c] t:=λpins s σ H Q I hw=>wpAny_tests_one (h pins s σ H Q I hw)
noncomputable def vh(wi:TI)(js:List (Option Nat))(g:TG)(tt:TT)(te:TE):TE:=λσ H Q=>wi σ H λJ H1=>∀D,H1 D=none->∃W:Nat->Nat->St->Hp->Prop,(∃m,W 0 m (gE js σ) (upd H1 D (.lst []))) /\
 ∀i m σ' H,W i m σ' H->(J.stop i H/\Q (.ref D) H)\/(J.go i H/\∃N:St->Hp->Prop,(∀Ax H',N Ax H'->∃m',m'<m/\W (i+1) m' Ax H') /\
  ∀x H',J.xB i H x H'->g x σ' H' λσ2 H2=>tt σ2 H2 λb H3=>if b=true then te σ2 H3 λy H4=>∃ys,H4 D=some (.lst ys)/\ys.length<sizeLine/\N σ2 (upd H4 D (.lst (ys++[y]))) else N σ2 H3)
theorem rE(hc:∀y∈scope.names,y.2≠.cell)
  (h:(relabel scope env).names.lookup x=some .cell\/(relabel scope env).names.lookup x=some .free):(x,NameKind.free)∈scope.names:=by
 unfold relabel at h;simp only at h;generalize scope.names=ns at hc h
 induction ns with
 | nil=>simp at h
 | cons p r ih =>
  obtain⟨n,k⟩:=p;have hc':∀y∈r,y.2≠.cell:=λy hy=>hc y (mem_cons_of_mem _ hy);simp only[map_cons] at h;cases hx:x==n with
  | true =>
   have e':x=n:=eq_of_beq hx;subst e'
   by_cases hk:k=.free
   ·subst hk;exact mem_cons_self
   ·have hk2:=hc (x,k) mem_cons_self
    have hb:(k==NameKind.free)=false:=beq_eq_false_iff_ne.mpr hk;rw[hb] at h;simp only[Bool.false_and,false_eq_true,if_false,lookup_cons,beq_self_eq_true] at h
    rcases h with h|h
    ·exact absurd (Option.some.inj h) hk2
    ·exact absurd (Option.some.inj h) hk
  | false =>
   refine mem_cons_of_mem _ (ih hc' ?_)
   by_cases hk:(k==NameKind.free&&env.scope.kind==.function&&env.kindOf n==some .cell)=true
   ·rw[if_pos hk] at h;simp only[lookup_cons,hx] at h;exact h
   ·rw[if_neg hk] at h;simp only[lookup_cons,hx] at h;exact h
theorem tU(h:scope.names.lookup x=some .free) :
  (relabel scope env).names.lookup x=some .cell\/(relabel scope env).names.lookup x=some .free:=by
 unfold relabel;simp only;generalize scope.names=ns at h
 induction ns with
 | nil=>simp at h
 | cons p r ih =>
  obtain⟨n,k⟩:=p;simp only[map_cons];cases hx:x==n with
  | true =>
   simp only[lookup_cons,hx] at h;have hk:=Option.some.inj h;subst hk
   by_cases hk:(NameKind.free==NameKind.free&&env.scope.kind==.function&&env.kindOf n==some .cell)=true
   ·rw[if_pos hk];simp[lookup_cons,hx]
   ·rw[if_neg hk];simp[lookup_cons,hx]
  | false =>
   simp only[lookup_cons,hx] at h
   by_cases hk:(k==NameKind.free&&env.scope.kind==.function&&env.kindOf n==some .cell)=true
   ·rw[if_pos hk];simp only[lookup_cons,hx];exact ih h
   ·rw[if_neg hk];simp only[lookup_cons,hx];exact ih h
section
variable {X:Cx} {pins:List (Addr×Obj)} {σ:St} {scope:Scope} {N':List Str} {js:List (Option Nat)}
theorem pL(ok:tR X scope N' js)(xo:X.Ok):∀y∈scope.names,y.2=.free->∃c,X.env.cells.lookup y.1=some c:=λy hy e=>by
 have:=(ok.free y hy e).1;unfold tQ at this;rw[or_eq_true] at this;refine xo.has y.1 ?_
 rcases this with z|z
 ·exact .inl (eq_of_beq z)
 ·exact .inr (eq_of_beq z)
theorem xW{tk:Nat}(ok:tR X scope N' js)(I:Inv X pins σ H s)
  (hcl1:∀x c,cl.lookup x=some c->X.env.cells.lookup x=some c) (hcl2:∀x,(x,NameKind.free)∈scope.names->∃c,cl.lookup x=some c)
  (hfp:∀b∈fp,ou X pins H b) (hlt:∀b∈fp,b<s.heap.objs.size)
  (hns:h'.Ns s.heap.objs.size (λ_=>none)) (hk:∀b o,s.heap.get? b=some o->h'.get? b=some o) :
  Inv (bu X scope N' cl s.heap.objs.size s H fp) [] (gE js σ) H { s with heap:=h',toks:=tk }:=by
 have cellK:∀x c,cl.lookup x=some c->∃v,s.heap.IsCell c v:=λx c e=>I.cell x c (hcl1 x c e);have hCf:H s.heap.objs.size=none:=I.hok.fresh (le_refl _);refine⟨⟨I.ok.mod,ok.kind,I.ok.glob,I.ok.blt,le_refl _,λx y c e1 e2=>I.ok.inj x y c (hcl1 x c e1) (hcl1 y c e2),λx hx=>hcl2 x (rE ok.B8 hx),λx c hf _=>absurd hf (by intro z;cases z),I.ok.hd,I.ok.frames,.inl rfl,
   λb hb=>⟨ne_of_lt (hlt b hb),λx c e z=>?_⟩,I.bs,le_trans I.ok.HY I.sz,λb o e hb=>?_,λb hb hs=>?_,I.stack,I.yM⟩,rfl,I.bare,Un.kept hk,⟨_,hns,λi x v e1 e2 e3=>?_⟩,λx c e=>?_,hCf,λx c e=>I.gX x c (hcl1 x c e),
   λp hp=>absurd (show p∈([]:List (Addr×Obj)) from hp) (by simp),I.hok.kept hk,?_⟩
 ·exact(hfp b hb).2.2.2.2.1 x c (hcl1 x c e) z
 ·rcases(hfp b hb).2.2.2.1 with z|z
  ·exact I.ok.lu b o e z
  ·exact absurd (lt_of_lt_of_le (lt_size (I.ok.bs b o e).1) z) (lt_irrefl _)
 ·rcases mem_cons.mp (I.xw b hs) with z|z
  ·exact(hfp b hb).2.1 z
  ·exact(hfp b hb).2.2.1 z
 ·-- a name X0 has a value: one of the def around
  have EE:(gE js σ)[i]?=some (some v):=e2;unfold gE at EE;rw[getElem?_map] at EE;cases hj:js[i]? with
  | none=>rw[hj] at EE;cases EE
  | some o =>
   rw[hj] at EE;cases o with
   | none=>simp at EE
   | some j =>
    obtain⟨hN,hf⟩:=ok.src i x j e1 hj;cases hs:σ[j]? with
    | none=>simp[hs] at EE
    | some ov =>
     cases ov with
     | none=>simp[hs] at EE
     | some v' =>
      simp[hs] at EE;subst EE;have hfr:=(ok.free (x,.free) (PySem.mem_of_lookup hf) rfl).1;unfold tQ at hfr;rw[or_eq_true] at hfr;have NR:X.env.scope.names.lookup x=some .cell\/X.env.scope.names.lookup x=some .free:=hfr.imp eq_of_beq eq_of_beq;obtain⟨m,_,hl⟩:=I.loc;obtain⟨u,r,l⟩:=hl j x v' hN hs (.inr NR);refine⟨u,r,.inr ⟨tU hf,?_⟩⟩
      rcases l with ⟨k,_⟩|⟨_,c,e,z⟩
      ·have k':X.env.scope.names.lookup x=some .local:=k
       rcases NR with q|q<;>(rw[q] at k';cases k')
      ·obtain⟨d,hd⟩:=hcl2 x (PySem.mem_of_lookup hf);have e':=hcl1 x d hd;rw[e] at e';cases e';obtain⟨oc,hoc,BD⟩:=z;exact⟨c,hd,oc,hk _ _ hoc,BD⟩
 ·obtain⟨v,oc,hoc,BD⟩:=cellK x c e;exact⟨v,oc,hk _ _ hoc,BD⟩
 ·rw[iA];exact ok.len
theorem Ay(I:Inv X pins σ H s)(hfp:∀b∈fp,ou X pins H b)
  (J:Inv (bu X scope N' cl C s H fp) [] σ' H' s'):Inv X pins σ H' s' :=
 I.M9 (ch:=fp) J.os J.base J.hok J.bare λb hb=>⟨(hfp b hb).2.2.2.1,(hfp b hb).2.1,(hfp b hb).2.2.2.2.1,(hfp b hb).2.2.2.2.2⟩
end
section
variable {X:Cx} {scope:Scope} {N':List Str} {js:List (Option Nat)} {tg elt iter:Expr} {ifs:List Expr} {pos:Pos} {wi:TI} {g:TG} {tt:TT} {te:TE}
theorem vj{pins:List (Addr×Obj)}{σ:St}{H2:Hp}{s2:Shared}{it:Addr}{fp:List Addr}{tn:Nat->Heap->Prop}{J:It}{cl:List (Str×Addr)}{E:Value->Shared->Prop}{RR:Value->Addr->Result->Shared->Prop}{Q:VK}
  (ok:tR X scope N' js) (hc:X.calm=true) (I2:Inv X pins σ H2 s2) (T:Turn X.prog X.w X.K tg J fp it tn) (st2:tn 0 s2.heap) (f2:∀b∈fp,ou X pins H2 b)
  (hcl1:∀x c,cl.lookup x=some c->X.env.cells.lookup x=some c) (hcl2:∀x,(x,NameKind.free)∈scope.names->∃c,cl.lookup x=some c)
  (hg:∀cl C s H fp,PG (bu X scope N' cl C s H fp) tg g) (ht:∀cl C s H fp,ED (bu X scope N' cl C s H fp) ifs tt) (he:∀cl C s H fp,PE (bu X scope N' cl C s H fp) elt te)
  (rd:∀D,H2 D=none->∃W:Nat->Nat->St->Hp->Prop,(∃m,W 0 m (gE js σ) (upd H2 D (.lst []))) /\
   ∀i m σ' H,W i m σ' H->(J.stop i H/\Q (.ref D) H)\/(J.go i H/\∃N:St->Hp->Prop,(∀Ax H',N Ax H'->∃m',m'<m/\W (i+1) m' Ax H') /\
    ∀x H',J.xB i H x H'->g x σ' H' λσ2 H2=>tt σ2 H2 λb H3=>if b=true then te σ2 H3 λy H4=>∃ys,H4 D=some (.lst ys)/\ys.length<sizeLine/\N σ2 (upd H4 D (.lst (ys++[y]))) else N σ2 H3))
  (hRR:∀(D C:Addr) (s':Shared) (H':Hp) (m:Str->Option Value),s2.heap.objs.size<=C->Inv X pins σ H' s'->H' C=none->s'.heap.Ns C m->Q (.ref D) H'->RR (.ref D) C (.ok .next) s') :
  wpAny (model X.prog X.w) X.A (newList []) (λacc s₃=>wpAny (model X.prog X.w) X.A (newFunctionEnv scope X.env.globals cl [] X.env.qual none .none (some X.env)) (λcenv s₄ =>
   codeAny (model X.prog X.w) X.A (.compStart (.ListComp elt [⟨tg,iter,ifs,0⟩] scope pos) 0 (.ref it) acc { cenv with scope:=relabel scope X.env }) (RR acc cenv.locals) s₄) E s₃) E s2:=by
 have hD:H2 s2.heap.objs.size=none:=I2.hok.fresh (le_refl _);refine wpAny_newObj_type (wpAny_newFunctionEnv ok.B8 (by intro y hy;simp at hy) (λh₁ NS NT=>?_) ok.kind);dsimp only at NS NT |-;have I3:Inv X pins σ (upd H2 s2.heap.objs.size (.lst [])) { s2 with heap:=s2.heap.push { cls:=.type "list",dict:=none,data:=.seq ([]:List Value).toArray },toks:=s2.toks } :=
  I2.laid (t':=s2.toks) (λb u e=>get?_push_of_some _ e) (le_refl _) ⟨by simp,[],0,.nil,get?_push_size _ rfl⟩
 generalize NU:({ s2 with heap:=s2.heap.push { cls:=.type "list",dict:=none,data:=.seq ([]:List Value).toArray },toks:=s2.toks }:Shared)=s3 at I3;have hsz:s3.heap.objs.size=s2.heap.objs.size+1:=by rw[<-NU];exact size_push ..
 have eC:(s2.heap.push { cls:=.type "list",dict:=none,data:=.seq ([]:List Value).toArray }).objs.size=s3.heap.objs.size:=by rw[<-NU]
 have f3:∀b∈fp,ou X pins (upd H2 s2.heap.objs.size (.lst [])) b:=λb hb=>by
  obtain⟨o,e,_⟩:=T.obj _ _ st2 b hb;refine⟨?_,(f2 b hb).2⟩;rw[au (ne_of_lt (lt_size e))];exact(f2 b hb).1
 have hlt:∀b∈fp,b<s3.heap.objs.size:=λb hb=>by
  obtain⟨o,e,_⟩:=T.obj _ _ st2 b hb;have hb2:b<s2.heap.objs.size:=lt_size e;rw[hsz];exact lt_succ_of_lt hb2
 have keep:∀b o,s3.heap.get? b=some o->h₁.get? b=some o:=λb o e=>by
  have e':(s2.heap.push { cls:=.type "list",dict:=none,data:=.seq ([]:List Value).toArray }).get? b=some o:=by rw[<-NU] at e;exact e
  exact NT.extBut b o (ne_of_lt (lt_size e')) (get?_push_of_some _ e')
 have I4:=xW (tk:=s2.toks+([]:List (Str×Value)).length) ok I3 hcl1 hcl2 f3 hlt (h':=h₁) (by rw[<-eC];simpa using NS) keep;have We:tn 0 h₁:=T.keep _ _ _ st2 λb hb o e=>keep b o (by rw[<-NU];exact get?_push_of_some _ e);obtain⟨W,⟨m0,w0⟩,turn⟩:=rd _ hD;have stat:∀{H':Hp},(∀b∈fp,H' b=none)->∀b∈fp,ou (bu X scope N' cl s3.heap.objs.size s3 (upd H2 s2.heap.objs.size (.lst [])) fp) [] H' b:=λ{H'} hn b hb =>
  ⟨hn b hb,ne_of_lt (hlt b hb),I4.ok.BC b hb,.inl hb,(I4.ok.Ro b hb).2,λp hp=>absurd (show p∈([]:List (Addr×Obj)) from hp) (by simp)⟩
 have X3:∀tk,({ s2 with heap:=h₁,toks:=tk }:Shared)={ s3 with heap:=h₁,toks:=tk }:=λtk=>by rw[<-NU]
 have loop:codeAny (model X.prog X.w) X.A (.compLoop (.ListComp elt [⟨tg,iter,ifs,0⟩] scope pos) 0 (.ref it) (.ref s2.heap.objs.size) (compEnvC scope cl s3.heap.objs.size X.env)) (RR (.ref s2.heap.objs.size) s3.heap.objs.size)
   { s3 with heap:=h₁,toks:=s2.toks+([]:List (Str×Value)).length }:=by
  refine codeAny_loop rfl (λn s'=>∃i σ' H',Inv (bu X scope N' cl s3.heap.objs.size s3 (upd H2 s2.heap.objs.size (.lst [])) fp) [] σ' H' s'/\tn i s'.heap/\(∀b∈fp,H' b=none)/\W i n σ' H') ?_ m0 ⟨0,_,_,I4,We,λb hb=>(f3 b hb).1,w0⟩;rintro n s5 ⟨i,σ5,H5,I5,MM,QK,w5⟩;show wpAny _ X.A ((compTurn (.ListComp elt [⟨tg,iter,ifs,0⟩] scope pos) 0 (.ref it) (.ref s2.heap.objs.size) (compEnvC scope cl s3.heap.objs.size X.env)).onRaise (λx=>do noteFrame x (compEnvC scope cl s3.heap.objs.size X.env);theTreesLotGoes x)) _ _ s5;refine wpAny_noted ?_;rw[compTurn_list];refine wpAny_bind (wpAny_standAt (wpAny_bind ?_))
  rcases turn i n σ5 H5 w5 with ⟨stop,qn⟩|⟨go,N,hN,step⟩
  ·refine wpAny_mono (T.done (bu X scope N' cl s3.heap.objs.size s3 (upd H2 s2.heap.objs.size (.lst [])) fp) rfl rfl rfl hc i [] s5 σ5 H5 (λ_ _=>False) I5 (stat QK) MM stop) (λr s6 ⟨hr,I6⟩=>?_) λ_ _ z=>z.elim;subst hr;refine wpAny_pure ?_;obtain⟨m,hm,_⟩:=id I6.loc;exact hRR _ _ s6 H5 m (by rw[hsz];exact le_succ _) (Ay I3 f3 I6) I6.free hm qn
  ·refine wpAny_mono (T.item (bu X scope N' cl s3.heap.objs.size s3 (upd H2 s2.heap.objs.size (.lst [])) fp) rfl rfl rfl hc i [] s5 σ5 H5 (λ_ _=>False) I5 (stat QK) MM go) (λr s6 ⟨u,hr,h6⟩=>?_) λ_ _ z=>z.elim
   subst hr;refine wpAny_bind (wpAny_mono h6 (λ_ s7 ⟨x,H7,I7,r7,y7,R7,X4⟩=>?_) λ_ _ z=>z.elim);have X5:=I7.pinned (stat X4) (T.obj _ _ R7);refine wpAny_bind (wpAny_mono (hg _ _ _ _ _ _ s7 σ5 H7 x u _ X5 r7 (step x H7 y7)) (λ_ s8 ⟨σ8,H8,I8,q8⟩=>?_) λ_ _ z=>z.elim);refine wpAny_bind (wpAny_mono (ht _ _ _ _ _ _ s8 σ8 H8 _ I8 q8) (λb s9 ⟨H9,I9,q9⟩=>?_) λ_ _ z=>z.elim);have B9:∀{sA:Shared} {σA:St} {HA:Hp},Inv (bu X scope N' cl s3.heap.objs.size s3 (upd H2 s2.heap.objs.size (.lst [])) fp) ([]++o8 fp s7.heap) σA HA sA->N σA HA ->
     ∃m,m<n/\∃i σ' H',Inv (bu X scope N' cl s3.heap.objs.size s3 (upd H2 s2.heap.objs.size (.lst [])) fp) [] σ' H' sA/\tn i sA.heap/\(∀b∈fp,H' b=none)/\W i m σ' H':=λ{sA σA HA} IA nA=>by
    obtain⟨m',hm,wA⟩:=hN σA HA nA;refine⟨m',hm,i+1,σA,HA,IA.lI,T.keep _ _ _ R7 λb hb o e=>(IA.pin (b,o) (mem_append_right _ (mem_append_right _ (jn hb e)))).1,λb hb=>?_,wA⟩;obtain⟨o,e,d⟩:=T.obj _ _ R7 b hb;exact(IA.pin (b,o) (mem_append_right _ (mem_append_right _ (jn hb e)))).2.1
   cases b with
   | false=>exact wpAny_pure ⟨rfl,B9 I9 (by simpa using q9)⟩
   | true =>rw[if_pos rfl] at q9;refine wpAny_bind (wpAny_bind (wpAny_mono (he _ _ _ _ _ _ s9 σ8 H9 _ I9 q9) (λv sB ⟨y,HB,IB,rB,ys,hys,hlen,nB⟩=>?_) λ_ _ z=>z.elim));refine wpAny_bind (wpAny_mono (rW (X:=bu X scope N' cl s3.heap.objs.size s3 (upd H2 s2.heap.objs.size (.lst [])) fp) _ sB σ8 HB (.ref s2.heap.objs.size) [y] _ [v] (λ_ HC=>HC=upd HB s2.heap.objs.size (.lst (ys++[y]))) IB rfl (.cons rB .nil) ⟨_,ys,y,rfl,rfl,hys,hlen,rfl⟩) (λv' sC ⟨_,HC,IC,_,X6⟩=>?_) λ_ _ z=>z.elim);subst X6;exact wpAny_pure (wpAny_pure ⟨rfl,B9 IC nB⟩)
 rw[X3];have R8:({ newEnv scope (s2.heap.push { cls:=.type "list",dict:=none,data:=.seq ([]:List Value).toArray }).objs.size X.env.globals cl X.env.qual none Value.none (some X.env) builtinsNs with scope:=relabel scope X.env }:Env)=compEnvC scope cl s3.heap.objs.size X.env:=by rw[eC];rfl
 have R9:(newEnv scope (s2.heap.push { cls:=.type "list",dict:=none,data:=.seq ([]:List Value).toArray }).objs.size X.env.globals cl X.env.qual none Value.none (some X.env) builtinsNs).locals=s3.heap.objs.size:=by rw[eC];rfl
 rw[R8,R9];exact codeAny_compStart_list loop (T.self _ _ _ _ _ We loop)
theorem yY(hok:gu X.N X.env.scope scope N' js=true)(hc:X.calm=true)(hi:PI X tg iter wi)(hg:∀cl C s H fp,PG (bu X scope N' cl C s H fp) tg g)
  (ht:∀cl C s H fp,ED (bu X scope N' cl C s H fp) ifs tt) (he:∀cl C s H fp,PE (bu X scope N' cl C s H fp) elt te)
  (hs:∀x,foldedSetIterable iter X.env x=pure x:=by intro _;rfl):PE X (.ListComp elt [⟨tg,iter,ifs,0⟩] scope pos) (vh wi js g tt te):=by
 intro pins s σ H Q I h;have ok:=rY hok;obtain⟨cl,Sa,hcl1,hcl2⟩:=pK (pL ok I.ok);rw[eval_ListComp];refine wpAny_comprehension_free (use:=none) rfl hs Sa ok.kind ok.names (cC (hi pins s σ H _ I h) λxv s1 h1=>cC h1 λitv s2 h2=>?_);obtain⟨it,fp,tn,J,H2,rfl,I2,T,st2,f2,rd⟩:=h2;refine vj (RR:=λacc C=>compPost (model X.prog X.w) X.A X.xe none (EP X pins σ Q) acc C) ok hc I2 T st2 f2 hcl1 hcl2 hg ht he rd ?_;intro D C s' H' m hC J' fC hm q;refine⟨m,hm,λh' hs'=>⟨.ref D,H',?_,rfl,q⟩⟩;refine J'.turned (t':=s'.toks) (λb o hb e=>hs'.extBut b o hb e) fC (ne_of_gt (lt_of_lt_of_le I2.lt hC)) (.inr (le_trans I2.sz hC)) (λx c e z=>?_) λp hp z=>?_
 ·obtain⟨v,q'⟩:=I2.cell x c e;exact absurd (lt_of_lt_of_le q'.lt (by rw[z];exact hC)) (lt_irrefl _)
 ·exact absurd (lt_of_lt_of_le (lt_size (I2.pin p hp).1) (by rw[z];exact hC)) (lt_irrefl _)
theorem yZ{i:Nat}(hN:X.N.Nodup)(hx:X.N[i]?=some x)(hl:Loc X.env.scope x)(hok:gu X.N X.env.scope scope N' js=true)(hc:X.calm=true)(hi:PI X tg iter wi)(hg:∀cl C s H fp,PG (bu X scope N' cl C s H fp) tg g)
  (ht:∀cl C s H fp,ED (bu X scope N' cl C s H fp) ifs tt) (he:∀cl C s H fp,PE (bu X scope N' cl C s H fp) elt te)
  (hsw:swapsWith (.ListComp elt [⟨tg,iter,ifs,0⟩] scope pos) (some (.Name x pos')) spos.line X.env=pure true:=by rfl)
  (hf:X.fn x=true\/X.env.scope.names.lookup x=some .local:=by first|exact .inl rfl|exact .inr rfl|assumption)
  (hs:∀x,foldedSetIterable iter X.env x=pure x:=by intro _;rfl):PS X (.Assign [.Name x pos'] (.ListComp elt [⟨tg,iter,ifs,0⟩] scope pos) spos) (E1 (vh wi js g tt te) (nO i)):=by
 intro pins s σ H D I h;have ok:=rY hok;obtain⟨cl,Sa,hcl1,hcl2⟩:=pK (pL ok I.ok);rw[exec_Assign_Name_used _ _ _ _ hsw];refine wpAny_bind (wpAny_standAt (wpAny_bind ?_));show wpAny _ X.A (do let _ <-comprehension (.ListComp elt [⟨tg,iter,ifs,0⟩] scope pos) scope X.env _ (newList []) false (eval iter X.env) (some (assign (.Name x pos') X.env))) _ _ s;refine wpAny_bind (wpAny_mono (wpAny_comprehension_free (use:=some (assign (.Name x pos') X.env)) (Q:=λ_ s'=>SP X pins D .next s') rfl hs Sa ok.kind ok.names
  (cC (hi pins s σ H _ I h) λxv s1 h1=>cC h1 λitv s2 h2=>?_)) (λ_ s' hq=>wpAny_pure (wpAny_pure hq)) λ_ _ e=>e)
 obtain⟨it,fp,tn,J,H2,rfl,I2,T,st2,f2,rd⟩:=h2;refine vj (RR:=λacc C=>compPost (model X.prog X.w) X.A X.xe (some (assign (.Name x pos') X.env)) (λ_ s'=>SP X pins D .next s') acc C) (Q:=λx H1=>nO i x σ H1 D.nx) ok hc I2 T st2 f2 hcl1 hcl2 hg ht he rd ?_;intro E C s' H' m hC J' fC hm q;have Wf:C≠X.env.locals:=ne_of_gt (lt_of_lt_of_le I2.lt hC);have hCc:∀x c,X.env.cells.lookup x=some c->c≠C:=λx c e z=>by
  obtain⟨v,q'⟩:=I2.cell x c e;exact absurd (lt_of_lt_of_le q'.lt (by rw[z];exact hC)) (lt_irrefl _)
 refine cC (show wpAny _ X.A (assign (.Name x pos') X.env (.ref E)) (λ_ s''=>(∃Ax Ig,Inv X pins Ax Ig s''/\D.nx Ax Ig/\Ig C=none)/\∃m,s''.heap.Ns C m) X.xe s' from ?_) λ_ s'' ⟨⟨Ax,Ig,Sb,X7,Sd⟩,X8,J2⟩=>?_
 ·refine wpAny_assign_Name (rP J' hN hx hl (show RelV (.ref E) (.ref E) from rfl) (λs'' Sb ⟨a,Yb,ha⟩=>⟨⟨_,H',Sb,q,fC⟩,m,?_⟩) hf)
  refine hm.sameBut Yb ?_
  rcases ha with z|z
  ·rw[z];exact Wf
  ·exact λw=>hCc _ _ z w.symm
 ·refine⟨X8,J2,λh' hs'=>⟨Ax,Ig,?_,X7⟩⟩;refine Sb.turned (t':=s''.toks) (λb o hb e=>hs'.extBut b o hb e) Sd Wf (.inr (le_trans I2.sz hC)) hCc λp hp z=>?_;exact absurd (lt_of_lt_of_le (lt_size (I2.pin p hp).1) (by rw[z];exact hC)) (lt_irrefl _)
end
end L2
end
section
namespace L2
open PySem PySem.Spec PyProof.Rows
theorem Inv.y9{X:Cx}{pins:List (Addr×Obj)}{σ:St}{H:Hp}{s:Shared}{h':Heap}{t':Nat}{ch:List Addr}(I:Inv X pins σ H s)(hf:∀b∈ch,ou X pins H b)
  (k:∀b o,b∉ch->s.heap.get? b=some o->h'.get? b=some o):Inv X pins σ H { s with heap:=h',toks:=t' }:=by
 have M7:∀b u,H b=some u->b∉ch:=λb u e z=>by rw[(hf b z).1] at e;cases e
 refine I.step (g':=s.gens) (d':=s.drawn) (ch:=ch) (λb hb=>?_) (λb o _ _ hc e _=>k b o hc e) (λb o _ _ hc e _=>⟨o.slots,k b o hc e⟩) (λ_ _ _ _ n=>n)
  (λb o hc e=>⟨o,k b o hc e⟩) (λ_ _ e=>e) (λ_ _ _ e=>e) (λb ps e=>⟨#[],by rw[e];simp⟩) (λm hm=>?_) (λb u e=>?_) I.bare
 ·exact⟨(hf b hb).2.2.2.1,(hf b hb).2.1,(hf b hb).2.2.2.2.1,(hf b hb).2.2.2.2.2⟩
 ·obtain⟨o,es,ep,ho,r⟩:=hm;exact⟨o,es,ep,k _ o (λz=>(hf _ z).2.1 rfl) ho,r⟩
 ·refine(I.hok b u e).stay (λc v hc q=>k c v ?_ q) (λ_ q=>q) λ_ _ q=>q
  rcases hc with z|z
  ·rw[z];exact M7 b u e
  ·exact M7 c _ z
noncomputable def NV(K:PySem.W.Frag)(a:Addr):It :=
 ⟨λi H=>∃xs x,gn K H a xs/\xs[i]?=some x,λi H x H'=>∃p v,H p=none/\x=.ref p/\H'=upd H p (.tup [.int i,v])/\∀xs,gn K H a xs->xs[i]?=some v,λi H=>∃xs,gn K H a xs/\xs.length<=i⟩
theorem Az{P:Program}{w:World}{K:PySem.W.Frag}{es:List Expr}{k:Nat}{pos:Pos}(a e it:Addr)(hne:e≠it) :
  Turn P w K (.Tuple es k pos) (NV K a) [e,it] e (λi h=>(∃old,IsEnum h e it i old)/\h.IsListIter it a i) where
 mem:=by simp
 obj:=λi h st b hb=>by
  obtain⟨⟨old,he⟩,⟨o,e2,c,d⟩⟩:=st
  rcases mem_cons.mp hb with z|z
  ·subst z;exact⟨_,he,λv z=>nomatch z⟩
  ·rw[mem_singleton.mp z];exact⟨o,e2,λv z=>by rw[d] at z;cases z⟩
 keep:=λi h h' st k=>⟨let ⟨old,he⟩:=st.1;⟨old,k e (by simp) _ he⟩,st.2.at λo e=>k it (by simp) o e⟩
 item:=by
  intro X hP hw hK hc i pins s σ H E I hf st hg;subst hP hw hK;obtain⟨xs,x,hq,hx⟩:=hg;obtain⟨its,rv,p,hz⟩:=I.list hq;obtain⟨u,hu,ru⟩:=rv.get hx;obtain⟨⟨old,he⟩,hit⟩:=st;have hei:e<s.heap.objs.size:=lt_size he;have Yc:it<s.heap.objs.size:=by obtain⟨_,y,_⟩:=hit;exact lt_size y
  refine wpAny_pyNext_enum_item he hit p.isList (x:=u) (by simpa using hu) hne λh' ho Se hT hsz hk=>?_;refine⟨_,rfl,?_⟩;refine wpAny_letOwnedTupleGo_enum ho λh2 Yd hs2=>?_;have hT2:h2.get? s.heap.objs.size=some { cls:=.type "tuple",data:=.seq #[.int i s.toks,u] }:=hs2.extBut _ _ (ne_of_gt hei) hT;have I1:Inv X pins σ H { s with heap:=h2,toks:=s.toks+1 }:=I.y9 (ch:=[e,it]) hf λb o hb q=>by
   have h1:b≠e:=λz=>hb (by simp[z]);have h2:b≠it:=λz=>hb (by simp[z]);exact hs2.extBut b o h1 (hk b o h1 h2 q)
  have hn:H s.heap.objs.size=none:=I.hok.fresh (le_refl _);have I2:Inv X pins σ (upd H s.heap.objs.size (.tup [.int i,x])) { s with heap:=h2,toks:=s.toks+1 }:=by
   have un:Un X.fs [] H (upd H s.heap.objs.size (.tup [.int i,x])) s.heap s.heap:=Un.laid (λb u q=>q) (le_refl _) hn;refine⟨I1.ok,I1.os,I1.bare,?_,I1.loc,I1.cell,?_,λy c q=>?_,λp hp=>?_,λb o q=>?_,I1.len⟩
   ·refine⟨I1.base.keep,I1.base.slot,λb o q n hx=>?_,I1.base.there,λb ys q=>?_,λb o ys q=>?_,λb ps q=>?_⟩
    ·have hlt:b<s.heap.objs.size:=lt_of_lt_of_le (lt_size q) I.sz;rw[au (ne_of_lt hlt)];exact I1.base.free b o q n hx
    ·rw[au (aI (I1.base.tups b ys q) hn)];exact I1.base.tups b ys q
    ·rw[au (aI (I1.base.frzs b o ys q) hn)];exact I1.base.frzs b o ys q
    ·obtain⟨more,z⟩:=I1.base.qZ b ps q;exact⟨more,by rw[au (aI z hn)];exact z⟩
   ·rw[au (ne_of_lt I.lt)];exact I1.free
   ·obtain⟨v,z⟩:=I.cell y c q;rw[au (ne_of_lt z.lt)];exact I1.gX y c q
   ·obtain⟨q1,q2,q3⟩:=I1.pin p hp;refine⟨q1,?_,q3⟩;rw[au (ne_of_lt (lt_size (I.pin p hp).1))];exact q2
   ·by_cases hb:b=s.heap.objs.size
    ·subst hb;rw[aO] at q;cases q;exact⟨by show 2<=sizeLine;decide,[.int i s.toks,u],.cons ⟨_,rfl⟩ (.cons ru .nil),_,hT2,rfl,_,rfl⟩
    ·rw[au hb] at q;exact(I1.hok b o q).stay (λc v _ z=>z) (λc z=>by rw[au (aI z hn)];exact z) λc ys z=>by rw[au (aI z hn)];exact z
  refine⟨.ref s.heap.objs.size,_,I2,rfl,⟨s.heap.objs.size,x,hn,rfl,rfl,λys hy=>by rw[I.uU hy hq];exact hx⟩,⟨⟨_,by simpa using Yd⟩,?_⟩,λb hb=>?_⟩
  ·exact Se.at λo y=>(hs2.2 it hne.symm).trans y
  ·have hlt:b<s.heap.objs.size:=by
    rcases mem_cons.mp hb with z|z
    ·rw[z];exact hei
    ·rw[mem_singleton.mp z];exact Yc
   rw[au (ne_of_lt hlt)];exact(hf b hb).1
 done:=by intro X hP hw hK hc i pins s σ H E I hf st hg;subst hP hw hK;obtain⟨xs,hq,hx⟩:=hg;obtain⟨its,rv,p,hz⟩:=I.list hq;obtain⟨⟨old,he⟩,hit⟩:=st;have hl:=rv.length;exact wpAny_pyNext_enum_end (I.ok.hd hc) he hit p.isList (by simp;omega) λh' eb=>⟨rfl,I.y9 (t':=s.toks) (ch:=[e,it]) hf λb o hb q=>eb b o (λz=>hb (by simp[z])) q⟩
 self:=λ_ _ _ _ _ st h=>let ⟨_,he⟩:=st.1;wpAny_pyIter_enum he h
noncomputable def NW(K:PySem.W.Frag)(ta:TA):TI:=λσ H R=>ta σ H λvs H1=>∃a,vs=[.ref a]/\(∃xs,gn K H1 a xs)/\R (NV K a) H1
theorem FI{k:Nat}(hg:Gl X "enumerate")(hm:X.mg "enumerate" = none)(ha:PA X [a] ta)(hs:starEach [a] X.env=[(false,eval a X.env)]:=by rfl) :
  PI X (.Tuple es k tpos) (.Call (.Name "enumerate" p) [a] [] pos) (NW X.K ta):=by
 intro pins s σ H R I h;refine Call_ (iy I hg hm boot_enumerate (PyProof.Rows.callWith_type1 (cC (ha pos pins s σ H _ I h) λus s1 aF=>?_) hs rfl));obtain⟨vs,H1,I1,r1,q1⟩:=aF;obtain⟨l,e,⟨xs,hq⟩,q⟩:=q1;subst e;cases r1 with
 | cons r rr =>
  cases rr;cases r;obtain⟨its,rv,pl,hz⟩:=I1.list hq;refine call_enumerate_list pl.isList λh' he hit hsz hk=>?_;have I2:Inv X pins σ H1 { s1 with heap:=h' }:=I1.kept (t':=s1.toks) hk;refine wpAny_pyIter_enum (s:={ s1 with heap:=h' }) he ?_;refine⟨_,[s1.heap.objs.size+1,s1.heap.objs.size],_,_,H1,rfl,I2,Az l _ _ (ne_of_gt (lt_succ_self _)),⟨⟨_,by simpa using he⟩,hit⟩,λb hb=>?_,q⟩;have hb':s1.heap.objs.size<=b:=by
   rcases mem_cons.mp hb with z|z
   ·rw[z];exact le_succ _
   ·rw[mem_singleton.mp z];exact le_refl _
  exact I1.BL hb' (I1.hok.fresh hb')
end L2
end
section
namespace L2
open PySem PySem.W PyProof.Rows
namespace oB
section
variable {O:KeyOrd} {key:Nat->O.α} {N:Nat} {cmp:Nat->Nat->(Bool->Shared->Prop)->Shared->Prop} {s:Shared}
noncomputable def K(O:KeyOrd)(key:Nat->O.α)(p:Array Nat)(i:Nat):O.α:=key (p.getD i 0)
noncomputable def Up(O:KeyOrd)(key:Nat->O.α)(p:Array Nat)(k:Nat):Prop:=∀i j,i<=j->j<k->O.kle (K O key p i) (K O key p j)
noncomputable def Down(O:KeyOrd)(key:Nat->O.α)(p:Array Nat)(k:Nat):Prop:=∀i j,i<=j->j<k->O.kle (K O key p j) (K O key p i)
noncomputable def FJ(O:KeyOrd)(key:Nat->O.α)(N:Nat)(cmp:Nat->Nat->(Bool->Shared->Prop)->Shared->Prop)(s:Shared):Prop :=
 ∀i j (C:Bool->Shared->Prop),i<N->j<N->C (O.blt (key i) (key j)) s->cmp i j C s
noncomputable def Ent(N:Nat)(p:Array Nat):Prop:=p.size=N/\0<N/\∀x∈p.toList,x<N
theorem Ent.at{p:Array Nat}(h:Ent N p)(i:Nat):p.getD i 0<N:=by
 by_cases hi:i<p.size
 ·have e:p.getD i 0=p[i]:=by simp[Array.getD,hi]
  rw[e];exact h.2.2 _ (by simp)
 ·have e:p.getD i 0=0:=by simp[Array.getD,hi]
  rw[e];exact h.2.1
theorem Ent.perm{p q:Array Nat}(h:Ent N p)(e:q.Perm p):Ent N q :=
 ⟨e.size_eq.trans h.1,h.2.1,λx hx=>h.2.2 x ((Array.perm_iff_toList_perm.mp e).mem_iff.mp hx)⟩
theorem K_congr{p q:Array Nat}{i j:Nat}(h:p[i]?=q[j]?):K O key p i=K O key q j:=by
 unfold K;rw[Array.getD_eq_getD_getElem?,Array.getD_eq_getD_getElem?,h]
theorem K_bubble{p:Array Nat}{src d:Nat}(hs:src<p.size)(hd:d<=src)(k:Nat) :
  K O key (bubble p src d) k=if k=src-d then K O key p src else if src-d<k/\k<=src then K O key p (k-1) else K O key p k:=by
 have e:=getElem?_bubble hs d hd k
 by_cases h1:k=src-d
 ·rw[if_pos h1] at e |-;exact K_congr e
 ·rw[if_neg h1] at e |-
  by_cases h2:src-d<k/\k<=src
  ·rw[if_pos h2] at e |-;exact K_congr e
  ·rw[if_neg h2] at e |-;exact K_congr e
theorem Ca{p:Array Nat}{i j:Nat}(hj:j<=p.size)(k:Nat):K O key (kas_rev p i j) k=if i<=k/\k<j then K O key p (i+j-1-k) else K O key p k:=by
 have e:=getElem?_mirror_all (i:=i) hj k
 by_cases h1:i<=k/\k<j
 ·rw[if_pos h1] at e |-;exact K_congr e
 ·rw[if_neg h1] at e |-;exact K_congr e
theorem pM{p:Array Nat}{i j:Nat}(hj:j<=p.size)(h:∀k,i<=k->k<j->K O key p k=K O key p (j-1))(k:Nat):K O key (kas_rev p i j) k=K O key p k:=by
 rw[Ca hj]
 split
 ·rw[h _ (by omega) (by omega),h k (by omega) (by omega)]
 ·rfl
theorem vn{p:Array Nat}{m:Nat}(h:∀t,1<=t->t<m->O.kle (K O key p (t-1)) (K O key p t)):Up O key p m:=by
 intro i j hij hj
 induction j with
 | zero =>
  have:i=0:=by omega
  subst this;exact KeyOrd.kle_refl _
 | succ j ih =>
  by_cases e:i=j+1
  ·subst e;exact KeyOrd.kle_refl _
  ·exact KeyOrd.kle_trans (ih (by omega) (by omega)) (h (j+1) (by omega) hj)
theorem J3(hA:FJ O key N cmp s){p:Array Nat}(he:Ent N p):∀(f n:Nat) {Q:Nat->Shared->Prop},1<=n ->
  (∀m,n<=m->m<=n+f->(∀t,n<=t->t<m->O.kle (K O key p (t-1)) (K O key p t))->(m<n+f->O.klt (K O key p m) (K O key p (m-1)))->Q m s)->(kas_asc p f n).kasWp cmp Q s
 | 0,n,Q,hn,h=>h n (le_refl _) (le_refl _) (λt h1 h2=>by omega) λq=>by omega
 | f+1,n,Q,hn,h=>by
  show cmp _ _ _ s;refine hA _ _ _ (he.at _) (he.at _) ?_;cases hb:O.blt (key (p.getD n 0)) (key (p.getD (n-1) 0)) with
  | true=>exact h n (le_refl _) (by omega) (λt h1 h2=>by omega) λ_=>hb
  | false =>
   show (kas_asc p f (n+1)).kasWp cmp Q s;refine J3 hA he f (n+1) (by omega) λm h1 h2 h3 h4=>h m (by omega) (by omega) (λt t1 t2=>?_) λq=>h4 (by omega)
   by_cases e:t=n
   ·subst e;exact hb
   ·exact h3 t (by omega) t2
theorem za(hA:FJ O key N cmp s):∀(f:Nat) (p:Array Nat) (n q:Nat) {Q:Array Nat×Nat×Nat->Shared->Prop},Ent N p->1<=n->n+f<=N->q+1<=n->Down O key p n->(∀i,n-(q+1)<=i->i<n->K O key p i=K O key p (n-1)) ->
  (∀p' n' q',p'.Perm p->Ent N p'->1<=n'->n<=n'->n'<=n+f->q'+1<=n'->Down O key p' n'->(∀i,n'-(q'+1)<=i->i<n'->K O key p' i=K O key p' (n'-1))->Q (p',n',q') s)->(kas_desc f p n q).kasWp cmp Q s
 | 0,p,n,q,Q,he,hn,hN,hq,hd,hl,h=>h p n q (Array.Perm.refl _) he hn (le_refl _) (le_refl _) hq hd hl
 | f+1,p,n,q,Q,he,hn,hN,hq,hd,hl,h=>by
  show cmp _ _ _ s;refine hA _ _ _ (he.at _) (he.at _) ?_;cases hb:O.blt (key (p.getD n 0)) (key (p.getD (n-1) 0)) with
  | true =>
   have hlt:O.klt (K O key p n) (K O key p (n-1)):=hb;have hd1:Down O key p (n+1):=λi j hij hj=>by
    by_cases e:j=n
    ·subst e
     by_cases e2:i=j
     ·subst e2;exact KeyOrd.kle_refl _
     ·exact KeyOrd.kle_trans (KeyOrd.kle_of_klt hlt) (hd i (j-1) (by omega) (by omega))
    ·exact hd i j hij (by omega)
   show (if q>0 then kas_desc f (kas_rev p (n-(q+1)) n) (n+1) 0 else kas_desc f p (n+1) 0).kasWp cmp Q s
   by_cases Wg:q>0
   ·rw[if_pos Wg]
    have ep:(kas_rev p (n-(q+1)) n).Perm p:=mirror_perm _ _ _ _;have eK:∀k,K O key (kas_rev p (n-(q+1)) n) k=K O key p k:=λk=>pM (by rw[he.1];omega) hl k;refine za hA f _ (n+1) 0 (he.perm ep) (by omega) (by omega) (by omega) (λi j hij hj=>by rw[eK,eK];exact hd1 i j hij hj) (λi h1 h2=>?_) λp' n' q' g1 g2 g3 g4 g5 g6 g7 g8=>h p' n' q' (g1.trans ep) g2 g3 (by omega) (by omega) g6 g7 g8;have:i=n:=by omega
    subst this;rfl
   ·rw[if_neg Wg]
    refine za hA f p (n+1) 0 he (by omega) (by omega) (by omega) hd1 (λi h1 h2=>?_) λp' n' q' g1 g2 g3 g4 g5 g6 g7 g8=>h p' n' q' g1 g2 g3 (by omega) (by omega) g6 g7 g8;have:i=n:=by omega
    subst this;rfl
  | false =>
   show cmp _ _ _ s;refine hA _ _ _ (he.at _) (he.at _) ?_;cases hc:O.blt (key (p.getD (n-1) 0)) (key (p.getD n 0)) with
   | true=>exact h p n q (Array.Perm.refl _) he hn (le_refl _) (by omega) hq hd hl
   | false =>
    have heq:K O key p n=K O key p (n-1):=O.total _ _ hb hc;show (kas_desc f p (n+1) (q+1)).kasWp cmp Q s;refine za hA f p (n+1) (q+1) he (by omega) (by omega) (by omega) (λi j hij hj=>?_) (λi h1 h2=>?_) λp' n' q' g1 g2 g3 g4 g5 g6 g7 g8=>h p' n' q' g1 g2 g3 (by omega) (by omega) g6 g7 g8
    ·by_cases e:j=n
     ·subst e
      by_cases e2:i=j
      ·subst e2;exact KeyOrd.kle_refl _
      ·rw[heq];exact hd i (j-1) (by omega) (by omega)
     ·exact hd i j hij (by omega)
    ·show K O key p i=K O key p (n+1-1)
     rw[Nat.add_sub_cancel]
     by_cases e:i=n
     ·subst e;rfl
     ·rw[heq];exact hl i (by omega) (by omega)
theorem Cb(hA:FJ O key N cmp s){p:Array Nat}{n nrem:Nat}(he:Ent N p)(h1:1<=n)(hn:n<=nrem)(hr:nrem<=N)(hd:Down O key p n)
  (h:∀m p',p'.Perm p->Ent N p'->1<=m->m<=nrem->Up O key p' m->Q (m,p') s):(kas_tail3 n nrem p).kasWp cmp Q s:=by
 unfold kas_tail3;rw[KasT.kasWp_bind];have ep:(kas_rev p 0 n).Perm p:=mirror_perm _ _ _ _;have hz:n<=p.size:=by rw[he.1];omega
 refine J3 hA (he.perm ep) _ _ h1 λm a1 a2 a3 _=>h m _ ep (he.perm ep) (by omega) (by omega) (vn λt t1 t2=>?_)
 by_cases e:t<n
 ·rw[Ca hz,Ca hz,if_pos (by omega),if_pos (by omega)];exact hd _ _ (by omega) (by omega)
 ·exact a3 t (by omega) t2
theorem rZ(hA:FJ O key N cmp s){p:Array Nat}{n nrem:Nat}(he:Ent N p)(hn:n+1<=nrem)(hr:nrem<=N)(hd:Down O key p (n+1))
  (h:∀m p',p'.Perm p->Ent N p'->1<=m->m<=nrem->Up O key p' m->Q (m,p') s):(kas_descPart n nrem p).kasWp cmp Q s:=by
 unfold kas_descPart;rw[KasT.kasWp_bind];have NX:∀i,n+1-(0+1)<=i->i<n+1->K O key p i=K O key p (n+1-1):=λi h1 h2=>by
  have e:i=n:=by omega
  subst e;rfl
 refine za hA (nrem-(n+1)) p (n+1) 0 he (by omega) (by omega) (by omega) hd NX λp' n' q' g1 g2 g3 g4 g5 g6 g7 g8=>?_;show (if q'>0 then kas_tail3 n' nrem (kas_rev p' (n'-(q'+1)) n') else kas_tail3 n' nrem p').kasWp cmp Q s
 by_cases hq:q'>0
 ·rw[if_pos hq];have ep:(kas_rev p' (n'-(q'+1)) n').Perm p':=mirror_perm _ _ _ _;have eK:∀k,K O key (kas_rev p' (n'-(q'+1)) n') k=K O key p' k:=λk=>pM (by rw[g2.1];omega) g8 k;exact Cb hA (g2.perm ep) g3 (by omega) hr (λi j hij hj=>by rw[eK,eK];exact g7 i j hij hj) λm p'' a1 a2 a3 a4 a5=>h m p'' ((a1.trans ep).trans g1) a2 a3 a4 a5
 ·rw[if_neg hq];exact Cb hA g2 g3 (by omega) hr g7 λm p'' a1 a2 a3 a4 a5=>h m p'' (a1.trans g1) a2 a3 a4 a5
theorem J4(hA:FJ O key N cmp s){p:Array Nat}{nrem:Nat}(he:Ent N p)(h1:1<=nrem)(hr:nrem<=N)
  (h:∀m p',p'.Perm p->Ent N p'->1<=m->m<=nrem->Up O key p' m->Q (m,p') s):(kas_count nrem p).kasWp cmp Q s:=by
 unfold kas_count;rw[KasT.kasWp_bind];refine J3 hA he _ _ (le_refl _) λn a1 a2 a3 a4=>?_;have hup:Up O key p n:=vn λt t1 t2=>a3 t t1 t2
 by_cases e1:(n==nrem)=true
 ·rw[if_pos e1];exact h n p (Array.Perm.refl _) he a1 (by omega) hup
 ·rw[if_neg e1]
  have Wh:n≠nrem:=λz=>e1 (by simp[z]);have hlt:O.klt (K O key p n) (K O key p (n-1)):=a4 (by omega)
  by_cases e2:n>1
  ·rw[if_pos e2]
   show cmp _ _ _ s;refine hA _ _ _ (he.at _) (he.at _) ?_;cases hc:O.blt (key (p.getD 0 0)) (key (p.getD (n-1) 0)) with
   | true=>exact h n p (Array.Perm.refl _) he a1 (by omega) hup
   | false =>
    have hle:O.kle (K O key p (n-1)) (K O key p 0):=hc;have ep:(kas_rev p 0 n).Perm p:=mirror_perm _ _ _ _;have hall:∀k,0<=k->k<n->K O key p k=K O key p (n-1):=λk _ hk =>
     KeyOrd.kle_antisymm (hup k (n-1) (by omega) (by omega)) (KeyOrd.kle_trans hle (hup 0 k (by omega) hk))
    have eK:∀k,K O key (kas_rev p 0 n) k=K O key p k:=λk=>pM (by rw[he.1];omega) hall k;show (kas_descPart n nrem (kas_rev p 0 n)).kasWp cmp Q s;refine rZ hA (he.perm ep) (by omega) hr (λi j hij hj=>?_) λm p' b1 b2 b3 b4 b5=>h m p' (b1.trans ep) b2 b3 b4 b5;rw[eK,eK]
    by_cases ej:j=n
    ·subst ej
     by_cases ei:i=j
     ·subst ei;exact KeyOrd.kle_refl _
     ·rw[hall i (by omega) (by omega)];exact KeyOrd.kle_of_klt hlt
    ·rw[hall i (by omega) (by omega),hall j (by omega) (by omega)];exact KeyOrd.kle_refl _
  ·rw[if_neg e2]
   have en:n=1:=by omega
   subst en;refine rZ hA he (by omega) hr (λi j hij hj=>?_) λm p' b1 b2 b3 b4 b5=>h m p' b1 b2 b3 b4 b5
   by_cases ei:i=j
   ·subst ei;exact KeyOrd.kle_refl _
   ·have:i=0/\j=1:=by omega
    obtain⟨rfl,rfl⟩:=this;exact KeyOrd.kle_of_klt hlt
theorem xX(hA:FJ O key N cmp s){p:Array Nat}{k:Nat}(he:Ent N p)(hs:Up O key p k):∀(f l r:Nat) {Q:Nat->Shared->Prop},l<=r->r<=k->r-l<=f ->
  (∀i,i<l->O.kle (K O key p i) (K O key p k))->(∀i,r<=i->i<k->O.klt (K O key p k) (K O key p i)) ->
  (∀l',l'<=k->(∀i,i<l'->O.kle (K O key p i) (K O key p k))->(∀i,l'<=i->i<k->O.klt (K O key p k) (K O key p i))->Q l' s)->(kas_place p k f l r).kasWp cmp Q s
 | 0,l,r,Q,hlr,hrk,hf,hlo,hhi,h=>by
  have:l=r:=by omega
  subst this;exact h l hrk hlo hhi
 | f+1,l,r,Q,hlr,hrk,hf,hlo,hhi,h=>by
  show (if l≥r then KasT.ret l else _).kasWp cmp Q s
  by_cases hge:l≥r
  ·rw[if_pos hge]
   have:l=r:=by omega
   subst this;exact h l hrk hlo hhi
  ·rw[if_neg hge]
   show cmp _ _ _ s;refine hA _ _ _ (he.at _) (he.at _) ?_;cases hb:O.blt (key (p.getD k 0)) (key (p.getD ((l+r)/2) 0)) with
   | true =>show (kas_place p k f l ((l+r)/2)).kasWp cmp Q s;exact xX hA he hs f l ((l+r)/2) (by omega) (by omega) (by omega) hlo (λi h1 h2=>KeyOrd.klt_of_klt_of_kle hb (hs _ _ h1 h2)) h
   | false =>show (kas_place p k f ((l+r)/2+1) r).kasWp cmp Q s;exact xX hA he hs f ((l+r)/2+1) r (by omega) (by omega) (by omega) (λi h1=>KeyOrd.kle_trans (hs i ((l+r)/2) (by omega) (by omega)) hb) hhi h
theorem NY(hA:FJ O key N cmp s):∀(f:Nat) (p:Array Nat) (k:Nat) {Q:Array Nat->Shared->Prop},Ent N p->k+f<=N->Up O key p k->(∀p',p'.Perm p->Up O key p' (k+f)->Q p' s)->(kas_bin f p k).kasWp cmp Q s
 | 0,p,k,Q,he,hk,hs,h=>h p (Array.Perm.refl _) hs
 | f+1,p,k,Q,he,hk,hs,h=>by
  show ((kas_place p k k 0 k).bind λl=>kas_bin f (bubble p k (k-l)) (k+1)).kasWp cmp Q s;rw[KasT.kasWp_bind];refine xX hA he hs k 0 k (by omega) (by omega) (by omega) (λi hi=>by omega) (λi h1 h2=>by omega) λl hl hlo hhi=>?_;have ep:(bubble p k (k-l)).Perm p:=bubble_perm _ _ _;have hks:k<p.size:=by rw[he.1];omega
  refine NY hA f _ (k+1) (he.perm ep) (by omega) (λi j hij hj=>?_) λp' a1 a2=>h p' (a1.trans ep) (by rwa [show k+(f+1)=k+1+f by omega]);rw[K_bubble hks (by omega),K_bubble hks (by omega),show k-(k-l)=l by omega]
  repeat' split
  all_goals first
   | (exfalso;omega)
   | exact KeyOrd.kle_refl _
   | exact hlo _ (by omega)
   | exact KeyOrd.kle_of_klt (hhi _ (by omega) (by omega))
   | exact hs _ _ (by omega) (by omega)
theorem NZ(hA:FJ O key N cmp s)(h1:1<=N)(h:∀p,p.Perm (toArray (List.range N))->Up O key p N->Q p s):(kas_sort N).kasWp cmp Q s:=by
 unfold kas_sort;rw[KasT.kasWp_bind];have he:Ent N (toArray (List.range N)):=⟨by simp,h1,λx hx=>by simpa using hx⟩;refine J4 hA he h1 (le_refl _) λm p a1 a2 a3 a4 a5=>?_;show (if m<N then kas_bin (N-max m 1) p (max m 1) else KasT.ret p).kasWp cmp Q s;have em:max m 1=m:=by omega
 by_cases hlt:m<N
 ·rw[if_pos hlt,em];exact NY hA _ p m a2 (by omega) a5 λp' b1 b2=>h p' (b1.trans a1) (by rwa [show m+(N-m)=N by omega] at b2)
 ·rw[if_neg hlt]
  have:m=N:=by omega
  subst this;exact h p a1 a5
end
end oB
end L2
end
section
namespace L2
open PySem PySem.W PyProof.Rows
namespace oB
theorem cR{α:Type}(l:List α)(d:α):(List.range l.length).map (λi=>l.getD i d)=l:=by
 refine ext_getElem (by simp) λi h1 h2=>?_;simp[h2]
section
variable {prog:Program} {w:World} {A:Around} {E:Value->Shared->Prop} {s:Shared}
noncomputable def r6(prog:Program)(w:World)(A:Around)(O:KeyOrd)(key:Nat->O.α)(vs:List Value)(s6:Shared):Prop :=
 wpAny (model prog w) A (keyKind' vs.toArray) (λκ s'=>s'=s6/\FJ O key vs.length (kas_ask prog w A κ vs) s6) (λ_ _=>False) s6
structure Cc (O:KeyOrd) (key:Nat->O.α) (n:Nat) (p:List Nat):Prop where
 perm:p.Perm (List.range n)
 up:(p.map key).Pairwise O.kle
theorem FL{n:Nat}{p:Array Nat}(h1:p.Perm (toArray (List.range n)))(h2:Up O key p n):Cc O key n p.toList:=by
 have hp:p.toList.Perm (List.range n):=by simpa using Array.perm_iff_toList_perm.mp h1
 refine⟨hp,List.pairwise_iff_getElem.mpr λi j hi hj hij=>?_⟩;have hz:p.toList.length=n:=by rw[hp.length_eq,length_range]
 rw[length_map] at hi hj;have q:=h2 i j (le_of_lt hij) (by omega);have ei:p.getD i 0=p.toList[i]:=by simp at hi;simp[Array.getD,hi]
 have ej:p.getD j 0=p.toList[j]:=by simp at hj;simp[Array.getD,hj]
 unfold K at q;rw[ei,ej] at q;rw[getElem_map,getElem_map];exact q
theorem Cd{n:Nat}(ho:s.heap.get? a=some (seqObj "list" vs.toArray n))(h64:vs.length<64)
  (hk:2<=vs.length->∀h6:Heap,(∀b o,b≠a->s.heap.get? b=some o->h6.get? b=some o)->r6 prog w A O key vs { s with heap:=h6 })
  (h:∀p,Cc O key vs.length p->P (.done (.ret .none)) { s with heap:=sortedHeap s.heap a vs (p.map λi=>vs.getD i Value.none).toArray }) :
  wpAny (model prog w) A (Builtin.«list.sort» ⟨[.ref a],[]⟩) P E s:=by
 have alt:a<s.heap.objs.size:=lt_size ho;have big:vs.length<=sizeLine:=by rw[sizeLine_eq];omega
 rw[list_sort_plain];apply wpAny_bind;apply listItems_at ho rfl;apply wpAny_bind;refine listUpdate_at ho rfl ?_ (by rw[size_toArray];exact big) (zero_le _);have q1:=get?_update_seq ho (λ_=>(#[]:Array Value));apply wpAny_bind;apply seqEpoch_at q1 rfl;apply wpAny_bind;refine wpAny_newTuple ?_ (by show vs.length<=sizeLine;exact big);apply wpAny_bind;refine wpAny_newList ?_ (zero_le _);apply wpAny_holding;generalize hN:((s.heap.update a (Obj.mapSeq λ_=>(#[]:Array Value))).push (seqObj "tuple" vs.toArray 0)).push (seqObj "list" #[] 0)=h6;have N1:∀b o,b≠a->s.heap.get? b=some o->h6.get? b=some o:=λb o hb e=>by
  rw[<-hN];refine get?_push_of_some _ (get?_push_of_some _ ?_);rw[Heap.get?_update_ne _ _ _ _ hb];exact e
 have q6:h6.get? a=some (seqObj "list" #[] (if (#[]:Array Value).size==vs.toArray.size then n else n+1)):=by rw[<-hN];exact get?_push_of_some _ (get?_push_of_some _ q1)
 have eS:∀out,h6.update a (Obj.mapSeq λ_=>out)=sortedHeap s.heap a vs out:=λout=>by rw[<-hN];rfl
 show wpAny (model prog w) A _ P E { s with heap:=h6 };dsimp only
 by_cases h2:vs.toArray.size<2
 ·rw[if_pos h2,if_pos h2]
  apply wpAny_bind;apply wpAny_pure;rw[StateT.run_pure];apply wpAny_bind;apply wpAny_pure;dsimp only;have eo:(arrOf (SortSt.mk' general' (vs.toArray.zip vs.toArray) #[] 7 none)).map (·.2)=vs.toArray:=by show (vs.toArray.zip vs.toArray).map (·.2)=vs.toArray;apply Array.toList_inj.mp;simp[List.map_snd_zip]
  rw[eo];apply wpAny_bind;apply seqEpoch_at q6 rfl;apply wpAny_bind;refine listUpdate_at q6 rfl ?_ (zero_le _) (by show vs.toArray.size<=_;rw[size_toArray];omega);have hb:((if (#[]:Array Value).size==vs.toArray.size then n else n+1) != (if (#[]:Array Value).size==vs.toArray.size then n else n+1))=false:=by simp
  rw[eS];simp only[hb,false_eq_true,if_false];apply wpAny_pure;have g:=h (List.range vs.length) ⟨List.Perm.refl _,?_⟩
  ·rw[cR] at g;exact g
  ·rw[size_toArray] at h2;refine List.pairwise_iff_getElem.mpr λi j hi hj hij=>?_;simp at hi hj;omega
 ·rw[if_neg h2,if_neg h2]
  rw[size_toArray] at h2;have ask:=hk (by omega) h6 N1;apply wpAny_bind;refine wpAny_mono ask (λκ s0 hκ=>?_) λ_ _ x=>x.elim;obtain⟨rfl,Ye⟩:=hκ;apply wpAny_bind;refine wpAny_mono (kat_run (Q:=λst' s'=>s'={ s with heap:=h6 }/\∃p:Array Nat,Cc O key vs.length p.toList/\p.size=vs.length/\(arrOf st').map (·.2)=(p.toList.map λi=>vs.getD i Value.none).toArray/\failedOf st'=none)
   (G:=λp s'=>s'={ s with heap:=h6 }/\Cc O key vs.length p.toList) rfl (by omega) h64 (λp st' s' a1 a2 a3 a4=>⟨a4.1,p,a4.2,a1,kat_snds rfl a2,a3⟩)
   (NZ Ye (by omega) λp b1 b2=>⟨rfl,FL b1 b2⟩)) ?_ λ_ _ x=>x
  rintro⟨⟨⟩,st'⟩ s' ⟨rfl,p,op,pz,er,ef⟩;dsimp only;rw[er];apply wpAny_bind;apply seqEpoch_at q6 rfl;apply wpAny_bind;refine listUpdate_at q6 rfl ?_ (zero_le _) (by show (toArray _).size<=_;rw[size_toArray,length_map,length_toList,pz];omega);have hb:((if (#[]:Array Value).size==vs.toArray.size then n else n+1) != (if (#[]:Array Value).size==vs.toArray.size then n else n+1))=false:=by simp
  rw[eS,ef];simp only[hb,false_eq_true,if_false];exact wpAny_pure (h p.toList op)
theorem gF
  (h:wpAny (model prog w) A.in1 (collect x) (λvs s1=>vs.length<64/\∃key:Nat->O.α,(2<=vs.length->∀h6:Heap,(∀b o,s1.heap.get? b=some o->h6.get? b=some o)->r6 prog w A.in1.in1 O key vs { s1 with heap:=h6 }) /\
   ∀p h',Cc O key vs.length p->(∀b o,s1.heap.get? b=some o->h'.get? b=some o)->(∃e,h'.get? s1.heap.objs.size=some (seqObj "list" (p.map λi=>vs.getD i Value.none).toArray e))->Q (.ref s1.heap.objs.size) { s1 with heap:=h' }) E s) :
  wpAny (model prog w) A (call (.builtin "sorted") [x]) Q E s:=by
 refine Calls.call_function_entry kind_sorted plain_sorted entry_sorted (args_sorted1 _) ?_;unfold Builtin.«sorted»;refine wpAny_bind (m:=checkCount "sorted" 1 1 _) (wpAny_pure ?_);apply wpAny_bind;refine wpAny_mono h (λvs s1 ⟨h64,key,hk,hq⟩=>?_) λ_ _ z=>z;have big:vs.length<=sizeLine:=by rw[sizeLine_eq];omega
 apply wpAny_bind;refine wpAny_newList ?_ big;have q:(s1.heap.push (seqObj "list" vs.toArray 0)).get? s1.heap.objs.size=some (seqObj "list" vs.toArray 0):=get?_push_size _ rfl;apply wpAny_bind;apply wpAny_holding;refine wpAny_call_entry (s:={ s1 with heap:=s1.heap.push (seqObj "list" vs.toArray 0) }) slot_list_sort ⟨_,q,rfl⟩ entry_list_sort ?_ (args_list_sort _);refine Cd (key:=key) (s:={ s1 with heap:=s1.heap.push (seqObj "list" vs.toArray 0) }) q h64 (λh2 h6 k6=>?_) λp op=>⟨_,rfl,wpAny_pure ⟨_,rfl,?_⟩⟩
 ·exact hk h2 h6 λb o e=>k6 b o (ne_of_lt (lt_size e)) (get?_push_of_some _ e)
 ·refine hq p _ op (λb o e=>?_) (sortedHeap_at q);rw[sortedHeap_old (ne_of_lt (lt_size e)) (by rw[size_push'];exact lt_succ_of_lt (lt_size e))];exact get?_push_of_some _ e
end
noncomputable def pN:KeyOrd where
 α:=Int
 blt:=λa b=>decide (a<b)
 irrefl:=λa=>by simp
 trans:=λa b c h1 h2=>by simp at *;omega
 negTrans:=λa b c h=>by simp at *;omega
 total:=λa b h1 h2=>by simp at *;omega
theorem pO{s6:Shared}{ns:List Int}(hI:IntsAre vs ns)(h2:2<=vs.length):r6 prog w A pN (λi=>ns.getD i 0) vs s6:=by
 have at_:∀i,i<vs.length->∃t,vs.getD i Value.none=.int (ns.getD i 0) t:=by
  intro i hi
  induction hI generalizing i with
  | nil=>simp at hi
  | cons z t r ih =>
   cases i with
   | zero=>exact⟨t,by simp⟩
   | succ i =>
    by_cases hr:2<=1
    ·omega
    ·simp only[length_cons] at hi
     have aux:∀{vs:List Value} {ns:List Int},IntsAre vs ns->∀i,i<vs.length->∃t,vs.getD i Value.none=.int (ns.getD i 0) t:=by
      intro vs ns q
      induction q with
      | nil=>intro i hi;simp at hi
      | cons z t r ih =>
       intro i hi;cases i with
       | zero=>exact⟨t,by simp⟩
       | succ i=>simp only[length_cons] at hi;obtain⟨u,e⟩:=ih i (by omega);exact⟨u,by simpa using e⟩
     obtain⟨u,e⟩:=aux r i (by omega);exact⟨u,by simpa using e⟩
 obtain⟨v₁,v₂,rest,rfl⟩:∃v₁ v₂ rest,vs=v₁::v₂::rest:=by
  match vs,h2 with
  | v₁::v₂::rest,_=>exact⟨v₁,v₂,rest,rfl⟩
 unfold r6;rw[keyKind_ints hI];refine wpAny_pure ⟨rfl,λi j C hi hj hc=>?_⟩;obtain⟨t,e1⟩:=at_ i hi;obtain⟨u,e2⟩:=at_ j hj;unfold kas_ask;rw[e1,e2,keyLt'_oneType];exact oneLt_int hc
theorem ju:∀a,HT.lexLt a a=false
 | []=>rfl
 | x::xs=>by rw[HT.fF,if_pos rfl];exact ju xs
theorem gY:∀a b,HT.lexLt a b=false->HT.lexLt b a=false->a=b
 | [],[],_,_=>rfl
 | [],_::_,h,_=>by rw[HT.gD] at h;cases h
 | _::_,[],_,h=>by rw[HT.gD] at h;cases h
 | x::xs,y::ys,h1,h2=>by
  rw[HT.fF] at h1 h2
  by_cases e:x=y
  ·subst e;rw[if_pos rfl] at h1 h2;rw[gY xs ys h1 h2]
  ·rw[if_neg e] at h1;rw[if_neg (λz=>e z.symm)] at h2;simp at h1 h2;omega
theorem gZ:∀a b c,HT.lexLt a b=true->HT.lexLt b c=true->HT.lexLt a c=true
 | [],[],c,h,_=>by rw[HT.rA] at h;cases h
 | [],_::_,[],_,h=>by rw[HT.eL] at h;cases h
 | [],_::_,_::_,_,_=>rfl
 | _::_,[],_,h,_=>by rw[HT.eL] at h;cases h
 | _::_,_::_,[],_,h=>by rw[HT.eL] at h;cases h
 | x::xs,y::ys,z::zs,h1,h2=>by
  rw[HT.fF] at h1 h2 |-
  by_cases e1:x=y
  ·subst e1
   rw[if_pos rfl] at h1
   by_cases e2:x=z
   ·subst e2;rw[if_pos rfl] at h2 |-;exact gZ xs ys zs h1 h2
   ·rw[if_neg e2] at h2 |-;exact h2
  ·rw[if_neg e1] at h1
   by_cases e2:y=z
   ·subst e2;rw[if_neg e1];exact h1
   ·rw[if_neg e2] at h2;simp at h1 h2;rw[if_neg (by omega)];simp;omega
theorem r8(a b c:List Int)(h:HT.lexLt a c=true):HT.lexLt a b=true\/HT.lexLt b c=true:=by
 cases h1:HT.lexLt a b with
 | true=>exact .inl rfl
 | false =>
  cases h2:HT.lexLt b c with
  | true=>exact .inr rfl
  | false =>
   cases h3:HT.lexLt b a with
   | true=>have:=gZ _ _ _ h3 h;rw[h2] at this;cases this
   | false=>rw[gY _ _ h1 h3] at h;rw[h2] at h;cases h
noncomputable def lexOrd:KeyOrd where
 α:=List Int
 blt:=HT.lexLt
 irrefl:=ju
 trans:=gZ
 negTrans:=r8
 total:=gY
section
variable {prog:Program} {w:World} {A:Around} {s:Shared}
theorem nT{b fin:Bool}:∀{us vs:List Value} {ns ms:List Int} (i:Nat),IntsAre us ns->IntsAre vs ms->(ns.length<ms.length↔fin=true)->us.length=ns.length ->
  Q (HT.lexLt ns ms) s->(ns.length=ms.length\/i=i)->(∀k,k<ns.length->k<ms.length->True)->(ns.length≠ms.length->True)->(fin=decide (ns.length<ms.length))->KatLex prog w A b fin Q (us.zip vs) i s
 | _,_,_,_,i,.nil,.nil,_,_,hq,_,_,_,hf=>by
  refine kat_nil ?_;rw[hf];exact hq
 | _,_,_,_,i,.nil,.cons _ _ _,_,_,hq,_,_,_,hf=>by
  refine kat_nil ?_;rw[hf];simpa [HT.gD] using hq
 | _,_,_,_,i,.cons _ _ _,.nil,_,_,hq,_,_,_,hf=>by
  refine kat_nil ?_;rw[hf];simpa [HT.eL] using hq
 | _,_,_,_,i,.cons x t r,.cons y u r',h1,h2,hq,_,_,_,hf=>by
  refine kat_cons (wpAny_eqBool_int ?_);rw[HT.fF] at hq
  by_cases e:x=y
  ·subst e
   rw[if_pos rfl] at hq;rw[beq_self_eq_true];refine kat_yes (nT (i+1) r r' ?_ ?_ hq (.inr rfl) (λ_ _ _=>trivial) (λ_=>trivial) ?_)
   ·simpa using h1
   ·simpa using h2
   ·rw[hf];simp
  ·rw[if_neg e] at hq
   rw[show (x==y)=false from beq_eq_false_iff_ne.mpr e];refine kat_no ?_;cases hb:(b&&i==0) with
   | true=>exact oneLt_int hq
   | false=>exact kat_one _ _ (PyProof.Rows.lt_int hq)
end
end oB
end L2
end
section
namespace L2
open PySem PySem.Spec PyProof.Rows
noncomputable def Sf:Key->PyData
 | .inl i=>.int i
 | .inr x=>.str x
mutual
noncomputable def Den(K:PySem.W.Frag)(H:Hp):PyData->V->Prop
 | .none,v=>v=.non
 | .bool b,v=>v=.bl b
 | .int i,v=>v=.int i
 | .str x,v=>v=.str x
 | .list ds,v=>∃a xs,v=.ref a/\gn K H a xs/\dY K H ds xs
 | .tuple ds,v=>∃a xs,v=.ref a/\jm K H a xs/\dY K H ds xs
 | .dict kvs,v=>∃a ks,v=.ref a/\H a=some (.dK ks)/\lN K H kvs ks
noncomputable def dY(K:PySem.W.Frag)(H:Hp):List PyData->List V->Prop
 | [],xs=>xs=[]
 | d::ds,xs=>∃x r,xs=x::r/\Den K H d x/\dY K H ds r
noncomputable def lN(K:PySem.W.Frag)(H:Hp):List (PyData×PyData)->List (Key×V)->Prop
 | [],ks=>ks=[]
 | (k,d)::r,ks=>∃key x rest,ks=(key,x)::rest/\k=Sf key/\Den K H d x/\lN K H r rest
end
theorem xV.tup{K:PySem.W.Frag}{H H':Hp}{a:Addr}{xs:List V}(e:xV H H')(h:jm K H a xs):jm K H' a xs:=by
 rcases h with (h|⟨o,h⟩)|h
 ·exact .inl (.inl (e _ _ h))
 ·exact .inl (.inr ⟨o,e _ _ h⟩)
 ·exact .inr h
section
variable {K:PySem.W.Frag} {H H':Hp}
mutual
theorem Den.same(e:xV H H'):∀(d:PyData) (v:V),Den K H d v->Den K H' d v
 | .none,_,h=>by rw[Den] at h |-;exact h
 | .bool _,_,h=>by rw[Den] at h |-;exact h
 | .int _,_,h=>by rw[Den] at h |-;exact h
 | .str _,_,h=>by rw[Den] at h |-;exact h
 | .list ds,v,h=>by
  rw[Den] at h |-;obtain⟨a,xs,q1,q2,q3⟩:=h;exact⟨a,xs,q1,e.seq q2,dY.same e ds xs q3⟩
 | .tuple ds,v,h=>by
  rw[Den] at h |-;obtain⟨a,xs,q1,q2,q3⟩:=h;exact⟨a,xs,q1,e.tup q2,dY.same e ds xs q3⟩
 | .dict kvs,v,h=>by
  rw[Den] at h |-;obtain⟨a,ks,q1,q2,q3⟩:=h;exact⟨a,ks,q1,e _ _ q2,lN.same e kvs ks q3⟩
theorem dY.same(e:xV H H'):∀(ds:List PyData) (xs:List V),dY K H ds xs->dY K H' ds xs
 | [],_,h=>by rw[dY] at h |-;exact h
 | d::ds,xs,h=>by
  rw[dY] at h |-;obtain⟨x,r,q1,q2,q3⟩:=h;exact⟨x,r,q1,Den.same e d x q2,dY.same e ds r q3⟩
theorem lN.same(e:xV H H'):∀(kvs:List (PyData×PyData)) (ks:List (Key×V)),lN K H kvs ks->lN K H' kvs ks
 | [],_,h=>by rw[lN] at h |-;exact h
 | (k,d)::r,ks,h=>by
  rw[lN] at h |-;obtain⟨key,x,rest,q1,q2,q3,q4⟩:=h;exact⟨key,x,rest,q1,q2,Den.same e d x q3,lN.same e r rest q4⟩
end
theorem dY.nil:dY K H [] []:=by rw[dY]
theorem dY.cons{d:PyData}{ds:List PyData}{x:V}{r:List V}(h1:Den K H d x)(h2:dY K H ds r):dY K H (d::ds) (x::r):=by rw[dY];exact⟨x,r,rfl,h1,h2⟩
theorem Den.int{i:Int}:Den K H (.int i) (.int i):=by rw[Den]
theorem Den.str:Den K H (.str x) (.str x):=by rw[Den]
theorem Den.bool{b:Bool}:Den K H (.bool b) (.bl b):=by rw[Den]
theorem Den.none:Den K H .none .non:=by rw[Den]
theorem Den.list(h:gn K H a xs)(q:dY K H ds xs):Den K H (.list ds) (.ref a):=by rw[Den];exact⟨a,xs,rfl,h,q⟩
theorem Den.tuple(h:jm K H a xs)(q:dY K H ds xs):Den K H (.tuple ds) (.ref a):=by rw[Den];exact⟨a,xs,rfl,h,q⟩
end
section
variable {X:Cx} {pins:List (Addr×Obj)} {σ:St} {H:Hp} {s:Shared}
mutual
theorem Den.reads(I:Inv X pins σ H s):∀(d:PyData) (v:V) (u:Value),d.canLay0=true->Den X.K H d v->RelV v u->∃as,Reads s.heap u d as
 | .none,v,u,_,h,r=>by rw[Den] at h;subst h;cases r;exact⟨_,.none⟩
 | .bool b,v,u,_,h,r=>by rw[Den] at h;subst h;cases r;exact⟨_,.bool b⟩
 | .int i,v,u,_,h,r=>by rw[Den] at h;subst h;obtain⟨t,rfl⟩:=r;exact⟨_,.int i t⟩
 | .str x,v,u,_,h,r=>by rw[Den] at h;subst h;obtain⟨t,rfl⟩:=r;exact⟨_,.str x t⟩
 | .list ds,v,u,c,h,r=>by
  rw[Den] at h;obtain⟨a,xs,rfl,q1,q2⟩:=h;cases r;obtain⟨its,rv,⟨o,n,e1,e2,_,e3⟩,_⟩:=I.list q1;obtain⟨as,ra⟩:=dY.reads I ds xs its (by simpa [PyData.canLay0] using c) q2 rv;exact⟨_,.list e1 e2 e3 (by simpa using ra)⟩
 | .tuple ds,v,u,c,h,r=>by
  rw[Den] at h;obtain⟨a,xs,rfl,q1,q2⟩:=h;cases r;obtain⟨its,rv,⟨o,e1,e2,n,e3⟩,_⟩:=I.tuple q1;obtain⟨as,ra⟩:=dY.reads I ds xs its (by simpa [PyData.canLay0] using c) q2 rv;exact⟨_,.tuple e1 e2 e3 (by simpa using ra)⟩
 | .dict _,_,_,c,_,_=>by simp[PyData.canLay0] at c
theorem dY.reads(I:Inv X pins σ H s):∀(ds:List PyData) (xs:List V) (us:List Value),PyData.canLayAll0 ds=true->dY X.K H ds xs->Vals xs us->∃as,ReadsAll s.heap us ds as
 | [],xs,us,_,h,r=>by rw[dY] at h;subst h;cases r;exact⟨_,.nil⟩
 | d::ds,xs,us,c,h,r=>by
  have c':d.canLay0=true/\PyData.canLayAll0 ds=true:=by simpa [PyData.canLayAll0] using c
  rw[dY] at h;obtain⟨x,rest,rfl,q1,q2⟩:=h;cases r with
  | cons r1 r2 =>obtain⟨as,ra⟩:=Den.reads I d x _ c'.1 q1 r1;obtain⟨bs,rb⟩:=dY.reads I ds rest _ c'.2 q2 r2;exact⟨_,.cons ra rb⟩
end
end
section
variable {X:Cx}
noncomputable def Sg(K:PySem.W.Frag):R2:=λx y H Q=>∃d e,Den K H d x/\Den K H e y/\d.canLay0=true/\e.canLay0=true/\d.depth<=60/\Q (.bl (PyData.eqv d e)) H
noncomputable def Sh(K:PySem.W.Frag):R2:=λx y H Q=>∃d e,Den K H d x/\Den K H e y/\d.canLay0=true/\e.canLay0=true/\d.depth<=60/\Q (.bl (!PyData.eqv d e)) H
theorem J5(hu:X.A.units+64<cLine):jP X (compareOp .Eq) (Sg X.K):=by
 intro pins s σ H x y v u Q I rx ry h;obtain⟨d,e,hd,he,c1,c2,hz,q⟩:=h;obtain⟨as,ra⟩:=Den.reads I d x v c1 hd rx;obtain⟨bs,rb⟩:=Den.reads I e y u c2 he ry;exact SeqAt.compareEq_reads ra rb c1 c2 (by have:=Nat.min_le_left d.depth e.depth;omega) ⟨.bl _,H,I,rfl,q⟩
theorem J6(hu:X.A.units+64<cLine):jP X (compareOp .NotEq) (Sh X.K):=by
 intro pins s σ H x y v u Q I rx ry h;obtain⟨d,e,hd,he,c1,c2,hz,q⟩:=h;obtain⟨as,ra⟩:=Den.reads I d x v c1 hd rx;obtain⟨bs,rb⟩:=Den.reads I e y u c2 he ry;exact SeqAt.compareNe_reads ra rb c1 c2 (by have:=Nat.min_le_left d.depth e.depth;omega) ⟨.bl _,H,I,rfl,q⟩
theorem pP{ns:List Int}(I:Inv X pins σ H s)(hq:gn X.K H p (ns.map V.int))(h64:ns.length<64)
  (q:∀l,H l=none->Q (.ref l) (upd H l (.lst ((PySem.W.sortI ns).map V.int)))):wpAny (model X.prog X.w) X.A (call (.builtin "sorted") [.ref p]) (EP X pins σ Q) X.xe s:=by
 obtain⟨its,rv,pl,hz⟩:=I.list hq;have hi:=intsAre_of rv;have hl:=hi.length;refine sorted_ints pl.isList hi (by omega) λout ns' a1 a2 a3=>?_;obtain⟨e,he⟩:=sortedAll_at s.heap its out;have es:ns'=PySem.W.sortI ns:=eq_sortI a2 a3;subst es;have hn:H (s.heap.objs.size+1)=none:=I.hok.fresh (le_succ _);refine⟨.ref (s.heap.objs.size+1),_,I.laid (t':=s.toks) (λb o z=>sortedAll_old z) (le_succ _) (show bE X.prog X.w _ _ _ (.lst ((PySem.W.sortI ns).map V.int)) from⟨?_,out.toList,e,iT a1,by simpa using he⟩),rfl,q _ hn⟩;rw[length_map,(sortI_perm ns).length_eq,sizeLine_eq];omega
theorem m5:cH X (.builtin "sorted") (λxs H Q=>∃p ns,xs=[.ref p]/\gn X.K H p (ns.map V.int)/\ns.length<64/\∀l,H l=none->Q (.ref l) (upd H l (.lst ((PySem.W.sortI ns).map V.int)))):=by
 intro pins s σ H xs us Q I r h;obtain⟨p,ns,rfl,hq,h64,q⟩:=h;obtain⟨u,rfl,ru⟩:=vals1 r;cases ru;exact pP I hq h64 q
noncomputable def N2(K:PySem.W.Frag)(H:Hp)(r:Addr×List Int):Prop:=jm K H r.1 (r.2.map V.int)/\r.2≠[]
theorem xY{pins:List (Addr×Obj)}{σ:St}{H:Hp}{s:Shared}{A:Around}{rs:List (Addr×List Int)}{h6:Heap}{s6:Shared}(I:Inv X pins σ H s)(ht:∀r∈rs,N2 X.K H r)(h2:2<=rs.length)(k:∀b o,s.heap.get? b=some o->s6.heap.get? b=some o) :
  oB.r6 X.prog X.w A oB.lexOrd (λi=>(rs.getD i (0,[])).2) (rs.map λr=>Value.ref r.1) s6:=by
 have tup:∀r∈rs,∃its o n,s6.heap.get? r.1=some o/\o.cls=.type "tuple" /\ o.data=.seq (toArray its) n/\IntsAre its r.2:=λr hr=>by
  obtain⟨its,rv,⟨o,e1,e2,n,e3⟩,_⟩:=I.tuple (ht r hr).1;exact⟨its,o,n,k _ _ e1,e2,e3,intsAre_of rv⟩
 have kt:∀rs:List (Addr×List Int),(∀r∈rs,∃its o n,s6.heap.get? r.1=some o/\o.cls=.type "tuple" /\ o.data=.seq (toArray its) n/\IntsAre its r.2)->(∀r∈rs,r.2≠[]) ->
   ∃fs,PySem.W.KatTups s6.heap (rs.map λr=>Value.ref r.1) fs/\fs.length=rs.length/\∀v∈fs,∃i t,v=Value.int i t:=by
  intro rs
  induction rs with
  | nil=>intro _ _;exact⟨[],PySem.W.KatTups.nil,rfl,λv hv=>nomatch hv⟩
  | cons r rs ih =>
   intro g1 g2;obtain⟨fs,q1,q2,q3⟩:=ih (λr' hr'=>g1 r' (mem_cons_of_mem _ hr')) λr' hr'=>g2 r' (mem_cons_of_mem _ hr');obtain⟨its,o,n,e1,e2,e3,hi⟩:=g1 r mem_cons_self;have hne:=g2 r mem_cons_self;cases hr:r.2 with
   | nil=>exact absurd hr hne
   | cons i is =>
    rw[hr] at hi;cases hi with
    | cons _ t hi' =>
     refine⟨.int i t::fs,PySem.W.KatTups.cons e1 e2 e3 (by simp) q1,by simp[q2],λv hv=>?_⟩
     rcases mem_cons.mp hv with z|z
     ·exact⟨i,t,z⟩
     ·exact q3 v z
 obtain⟨fs,q1,q2,q3⟩:=kt rs tup λr hr=>(ht r hr).2;unfold oB.r6;refine PySem.W.kat_kind q1 (by omega) (T:=Value.type "int") (λv hv=>?_) rfl ⟨rfl,λi j C hi hj hc=>?_⟩
 ·obtain⟨i,t,rfl⟩:=q3 v hv;exact PySem.W.Looks.of_pure rfl
 ·rw[length_map] at hi hj
  unfold PySem.W.kas_ask;have e1:(rs.map λr=>Value.ref r.1).getD i Value.none=Value.ref rs[i].1:=by simp[hi]
  have e2:(rs.map λr=>Value.ref r.1).getD j Value.none=Value.ref rs[j].1:=by simp[hj]
  have e3:rs.getD i (0,[])=rs[i]:=by simp[hi]
  have e4:rs.getD j (0,[])=rs[j]:=by simp[hj]
  rw[e1,e2];simp only[e3,e4] at hc;obtain⟨its,o,n,a1,a2,a3,a4⟩:=tup rs[i] (List.getElem_mem hi);obtain⟨its',o',n',b1,b2,b3,b4⟩:=tup rs[j] (List.getElem_mem hj);have l1:=a4.length;have l2:=b4.length;refine kat_lt a1 a3 b1 b3 (oB.nT 0 a4 b4 ?_ l1 hc (.inr rfl) (λ_ _ _=>trivial) (λ_=>trivial) ?_)
  ·rw[size_toArray,size_toArray,l1,l2];simp
  ·rw[size_toArray,size_toArray,l1,l2]
theorem AA{rs:List (Addr×List Int)}:∀{us:List Value},Vals (rs.map λr=>V.ref r.1) us->us=rs.map λr=>Value.ref r.1:=by
 induction rs with
 | nil=>intro us r;cases r;rfl
 | cons a rs ih =>
  intro us r;cases r with
  | cons r1 r2=>cases r1;rw[ih r2];rfl
theorem m7:cH X (.builtin "sorted") (λxs H Q=>∃(p:Addr) (rs:List (Addr×List Int)),xs=[.ref p]/\gn X.K H p (rs.map λr=>V.ref r.1)/\rs.length<64/\(∀r∈rs,N2 X.K H r) /\
  ∀(l:Addr) (qs:List (Addr×List Int)),H l=none->qs.Perm rs->qs.Pairwise (λa b=>HT.lexLt b.2 a.2=false)->Q (.ref l) (upd H l (.lst (qs.map λr=>V.ref r.1)))):=by
 intro pins s σ H xs us Q I r h;obtain⟨p,rs,rfl,hq,h64,ht,q⟩:=h;obtain⟨u,rfl,ru⟩:=vals1 r;cases ru;obtain⟨its,rv,pl,hz⟩:=I.list hq;have ev:=AA rv;subst ev;refine oB.gF (O:=oB.lexOrd) (collect_list pl.isList ?_ (by rw[length_map,sizeLine_eq];omega));have k1:∀b o,s.heap.get? b=some o->((s.heap.push (seqObj "list" #[] 0)).update s.heap.objs.size (Obj.mapSeq (· ++ (rs.map λr=>Value.ref r.1).toArray))).get? b=some o:=λb o e=>by
  rw[Heap.get?_update_ne _ _ _ _ (ne_of_lt (lt_size e))];exact get?_push_of_some _ e
 have Yg:((s.heap.push (seqObj "list" #[] 0)).update s.heap.objs.size (Obj.mapSeq (· ++ (rs.map λr=>Value.ref r.1).toArray))).objs.size=s.heap.objs.size+1:=by rw[Heap.size_update,size_push']
 refine⟨by rw[length_map];exact h64,λi=>(rs.getD i (0,[])).2,λh2 h6 k6=>?_,λpp h' op k' he=>?_⟩
 ·rw[length_map] at h2;exact xY (h6:=h6) I ht h2 λb o e=>k6 b o (k1 b o e)
 ·rw[length_map] at op
  dsimp only at k' he |-;rw[Yg] at he |-;obtain⟨e,he⟩:=he;have hn:H (s.heap.objs.size+1)=none:=I.hok.fresh (le_succ _);have lp:pp.length=rs.length:=by rw[op.perm.length_eq,length_range]
  have mem:∀i∈pp,i<rs.length:=λi hi=>by simpa using op.perm.mem_iff.mp hi
  have Si:(pp.map λi=>(rs.map λr=>Value.ref r.1).getD i Value.none)=(pp.map λi=>rs.getD i (0,[])).map λr=>Value.ref r.1:=by rw[map_map];refine map_congr_left λi hi=>?_;simp[mem i hi]
  have qp:(pp.map λi=>rs.getD i (0,[])).Perm rs:=by have:=op.perm.map λi=>rs.getD i (0,[]);rwa [oB.cR] at this
  have qs:(pp.map λi=>rs.getD i (0,[])).Pairwise (λa b=>HT.lexLt b.2 a.2=false):=by have up1:=pairwise_map.mp op.up;exact pairwise_map.mpr up1
  refine⟨.ref (s.heap.objs.size+1),_,I.laid (t':=s.toks) (λb o z=>k' b o (k1 b o z)) (le_succ _) (show bE X.prog X.w _ _ _ (.lst ((pp.map λi=>rs.getD i (0,[])).map λr=>V.ref r.1)) from⟨?_,_,e,?_,he⟩),rfl,q _ _ hn qp qs⟩
  ·rw[length_map,length_map,lp,sizeLine_eq];omega
  ·rw[Si]
   generalize (pp.map λi=>rs.getD i (0,[]))=zs
   induction zs with
   | nil=>exact .nil
   | cons z zs ih=>exact .cons rfl ih
theorem zb{ns:List Int}(h:IntsAre us ns):∀(i:Nat) (v:Value),us[i]?=some v->∃t,v=.int (ns.getD i 0) t:=by
 induction h with
 | nil=>intro i v e;simp at e
 | cons z t r ih =>
  intro i v e;cases i with
  | zero=>simp at e;exact⟨t,by simp[<-e]⟩
  | succ i=>obtain⟨u,q⟩:=ih i v (by simpa using e);exact⟨u,by simpa using q⟩
theorem r9{pins:List (Addr×Obj)}{σ:St}{H:Hp}{s:Shared}{p:Addr}{ns:List Int}(I:Inv X pins σ H s)(hc:X.calm=true)(hq:gn X.K H p (ns.map V.int)\/jm X.K H p (ns.map V.int))(hne:0<ns.length){Q:Value->Shared->Prop}{f:String}{bt:Int->Int->Bool}{op:CmpOp}
  (hf:∀{Q:Value->Shared->Prop},wpAny (model X.prog X.w) X.A.in1 (pyIter (.ref p)) (λit s₂=>∃I fp wr n P St bt,it=.ref I/\Walks X.prog X.w X.A.in1 I fp wr n P St/\St 0 s₂.heap/\(∀b∈fp,b<s₂.heap.objs.size)/\0<n/\CmpOf X.prog X.w X.A.in1 op P bt /\
   ∀v h' tk,P (argBest bt (n-1)) v->(∀b o,b∉wr->s₂.heap.get? b=some o->h'.get? b=some o)->Q v { s₂ with heap:=h',toks:=tk }) X.xe s->wpAny (model X.prog X.w) X.A (call (.builtin f) [.ref p]) Q X.xe s)
  (hcmp:∀(P:Nat->Value->Prop),(∀i v,P i v->∃t,v=.int (ns.getD i 0) t)->CmpOf X.prog X.w X.A.in1 op P λi j=>bt (ns.getD i 0) (ns.getD j 0))
  (h:∀t h' tk,(∀b o,s.heap.get? b=some o->h'.get? b=some o)->argBest (λi j=>bt (ns.getD i 0) (ns.getD j 0)) (ns.length-1)<ns.length->Q (.int (ns.getD (argBest (λi j=>bt (ns.getD i 0) (ns.getD j 0)) (ns.length-1)) 0) t) { s with heap:=h',toks:=tk }) :
  wpAny (model X.prog X.w) X.A (call (.builtin f) [.ref p]) Q X.xe s:=by
 have hh:X.A.in1.handled=none:=I.ok.hd hc;have up:∀{us:List Value} (P:Nat->Value->Prop) (hi:IntsAre us ns),(∀i v,P i v->us.toArray[i]?=some v)->∀i v,P i v->∃t,v=.int (ns.getD i 0) t:=λP hi hP i v q=>zb hi i v (by simpa using hP i v q);have best:∀{us:List Value} (hi:IntsAre us ns) (v:Value) (h':Heap) (tk:Nat),us.toArray[argBest (λi j=>bt (ns.getD i 0) (ns.getD j 0)) (us.toArray.size-1)]?=some v->(∀b o,s.heap.get? b=some o->h'.get? b=some o)->Q v { s with heap:=h',toks:=tk }:=λ{us} hi v h' tk e k=>by
  have hl:=hi.length;rw[size_toArray,hl] at e;have e':us[argBest (λi j=>bt (ns.getD i 0) (ns.getD j 0)) (ns.length-1)]?=some v:=by simpa using e
  obtain⟨t,rfl⟩:=zb hi _ v e';exact h t h' tk k (by have:=(List.getElem?_eq_some_iff.mp e').1;omega)
 rcases hq with hq|hq
 ·obtain⟨its,rv,pl,hz⟩:=I.list hq
  have hi:=intsAre_of rv;have hl:=hi.length;have hpl:=pl.isList;have hlt:p<s.heap.objs.size:=by obtain⟨_,e,_⟩:=hpl;exact lt_size e
  refine hf (wpAny_pyIter_list hpl ⟨s.heap.objs.size,[s.heap.objs.size,p],[s.heap.objs.size],its.toArray.size,_,_,λi j=>bt (ns.getD i 0) (ns.getD j 0),rfl,Walks.list hh _ p (ne_of_lt hlt) its.toArray,⟨⟨_,get?_push_size _ rfl,rfl,rfl⟩,hpl.push _⟩,λb hb=>?_,by rw[size_toArray];omega,
   hcmp _ (up _ hi λi v q=>q),λv h' tk e k=>?_⟩)
  ·simp only[size_push']
   rcases mem_cons.mp hb with z|z
   ·rw[z];exact lt_succ_self _
   ·rw[mem_singleton.mp z];exact lt_succ_of_lt hlt
  ·exact best hi v h' tk e λb o z=>k b o (by simp;exact ne_of_lt (lt_size z)) (get?_push_of_some _ z)
 ·obtain⟨its,rv,pl,hz⟩:=I.tuple hq
  have hi:=intsAre_of rv;have hl:=hi.length;have hpl:s.heap.IsTuple p its.toArray:=pl;have hlt:p<s.heap.objs.size:=by obtain⟨_,e,_⟩:=hpl;exact lt_size e
  refine hf (wpAny_pyIter_tuple hpl ⟨s.heap.objs.size,[s.heap.objs.size,p],[s.heap.objs.size],its.toArray.size,_,_,λi j=>bt (ns.getD i 0) (ns.getD j 0),rfl,Walks.tuple hh _ p (ne_of_lt hlt) its.toArray,⟨⟨_,get?_push_size _ rfl,rfl,rfl⟩,?_⟩,λb hb=>?_,by rw[size_toArray];omega,
   hcmp _ (up _ hi λi v q=>q),λv h' tk e k=>?_⟩)
  ·obtain⟨o,e,c⟩:=hpl;exact⟨o,get?_push_of_some _ e,c⟩
  ·simp only[size_push']
   rcases mem_cons.mp hb with z|z
   ·rw[z];exact lt_succ_self _
   ·rw[mem_singleton.mp z];exact lt_succ_of_lt hlt
  ·exact best hi v h' tk e λb o z=>k b o (by simp;exact ne_of_lt (lt_size z)) (get?_push_of_some _ z)
theorem tW(hc:X.calm=true):cH X (.builtin "min") (λxs H Q=>∃(p:Addr) (ns:List Int),xs=[.ref p]/\(gn X.K H p (ns.map V.int)\/jm X.K H p (ns.map V.int))/\0<ns.length/\∀m,m∈ns->(∀a∈ns,m<=a)->Q (.int m) H):=by
 intro pins s σ H xs us Q I r h;obtain⟨p,ns,rfl,hq,hne,q⟩:=h;obtain⟨u,rfl,ru⟩:=vals1 r;cases ru;refine r9 (bt:=λa b=>decide (a<b)) (op:=.Lt) I hc hq hne (λ{Q} h=>call_min_walk h) (λP hP=>?_) λt h' tk k hb=>⟨.int _,H,I.kept k,⟨t,rfl⟩,q _ ?_ λa ha=>?_⟩
 ·intro i j x y s' Q' E' hx hy hQ;obtain⟨t,rfl⟩:=hP i x hx;obtain⟨t',rfl⟩:=hP j y hy;exact lt_int (by simpa using hQ)
 ·exact getD_mem hb
 ·obtain⟨j,hj,rfl⟩:=mem_getD ha;exact(argBest_lt (λi=>ns.getD i 0) (ns.length-1)).2 j (by omega)
theorem tX(hc:X.calm=true):cH X (.builtin "max") (λxs H Q=>∃(p:Addr) (ns:List Int),xs=[.ref p]/\(gn X.K H p (ns.map V.int)\/jm X.K H p (ns.map V.int))/\0<ns.length/\∀m,m∈ns->(∀a∈ns,a<=m)->Q (.int m) H):=by
 intro pins s σ H xs us Q I r h;obtain⟨p,ns,rfl,hq,hne,q⟩:=h;obtain⟨u,rfl,ru⟩:=vals1 r;cases ru;refine r9 (bt:=λa b=>decide (a>b)) (op:=.Gt) I hc hq hne (λ{Q} h=>call_max_walk h) (λP hP=>?_) λt h' tk k hb=>⟨.int _,H,I.kept k,⟨t,rfl⟩,q _ ?_ λa ha=>?_⟩
 ·intro i j x y s' Q' E' hx hy hQ;obtain⟨t,rfl⟩:=hP i x hx;obtain⟨t',rfl⟩:=hP j y hy;exact gt_int (by simpa using hQ)
 ·exact getD_mem hb
 ·obtain⟨j,hj,rfl⟩:=mem_getD ha;exact(argBest_gt (λi=>ns.getD i 0) (ns.length-1)).2 j (by omega)
end
end L2
end
section
namespace L2
open PySem PySem.Spec PyProof.Rows
section
variable {X:Cx}
theorem xZ{bs:List Bool}:∀{us:List Value},Vals (bs.map V.bl) us->us=bs.map Value.bool:=by
 induction bs with
 | nil=>intro us r;cases r;rfl
 | cons a bs ih =>
  intro us r;cases r with
  | cons r1 r2=>cases r1;rw[ih r2];rfl
theorem pQ(bs:List Bool):((List.range bs.length).all λi=>bs.getD i true)=bs.all id:=by
 conv=>rhs;rw[<-oB.cR bs true]
 rw[all_map];rfl
theorem rF(hc:X.calm=true):cH X (.builtin "all") (λxs H Q=>∃(p:Addr) (bs:List Bool),xs=[.ref p]/\gn X.K H p (bs.map V.bl)/\Q (.bl (bs.all id)) H):=by
 intro pins s σ H xs us Q I r h;obtain⟨p,bs,rfl,hq,q⟩:=h;obtain⟨u,rfl,ru⟩:=vals1 r;cases ru;obtain⟨its,rv,pl,hz⟩:=I.list hq;have ev:=xZ rv;subst ev;have hpl:=pl.isList;have hlt:p<s.heap.objs.size:=by obtain⟨_,e,_⟩:=hpl;exact lt_size e
 refine call_all_walk (wpAny_pyIter_list hpl ⟨s.heap.objs.size,[s.heap.objs.size,p],[s.heap.objs.size],_,_,_,λi=>bs.getD i true,rfl,Walks.list (A:=X.A.in1) (I.ok.hd hc) _ p (ne_of_lt hlt) (bs.map Value.bool).toArray,
  ⟨⟨_,get?_push_size _ rfl,rfl,rfl⟩,hpl.push _⟩,λi v s' Q' E' hP hQ=>?_,λh' tk hk=>?_⟩)
 ·have hi:i<bs.length:=by simpa using (Array.getElem?_eq_some_iff.mp hP).1
  have e:v=Value.bool (bs.getD i true):=by
   have:(bs.map Value.bool)[i]?=some v:=by simpa using hP
   simp[hi] at this;simp[hi,this]
  subst e;exact wpAny_truthy_bool hQ
 ·have e:((List.range (bs.map Value.bool).toArray.size).all λi=>bs.getD i true)=bs.all id:=by rw[size_toArray,length_map];exact pQ bs
  rw[e];exact⟨.bl _,H,I.kept λb o z=>hk b o (by simp;exact ne_of_lt (lt_size z)) (get?_push_of_some _ z),rfl,q⟩
section
open PySem.AutoSeq1 (wpAny_loadPart')
theorem tY(l b:Addr)(items items2:Array Value)(n n2:Nat)(dd2:Option Addr)(sl2:Array (Option Value))(hs0:¬(!items.isEmpty&&Builtin.List.listTooLong (items.size+items2.size))=true)(hs1:items.size<=sizeLine)(hs2:items.size+items2.size<=sizeLine+1) :
  Meets (Builtin.«list.extend» ⟨[.ref l,.ref b],[]⟩) (λ_ R s=>s.heap.get? l=some { cls:=.type "list",data:=.seq items n }/\s.heap.get? b=some { cls:=.type "tuple",dict:=dd2,data:=.seq items2 n2,slots:=sl2 } /\
   R (.ok (.ret Value.none)) { s with heap:=s.heap.update l (Obj.mapSeq λx=>x++items2) }) :=
 .of_wp λprog w A R s h=>by
  obtain⟨hp,g,d,tk,os⟩:=s;obtain⟨hl,hb,h⟩:=h;have f2:=AutoSeq1.sub_tuple_tuple;have f3:=AutoSeq1.sub_list_list;have f4:=AutoSeq1.sub_tuple_list;have f5:=AutoSeq1.sub_list_tuple;have hz':(items++items2).size<=sizeLine+1:=by rw[Array.size_append];exact hs2
  wp_walk using (wpAny_updateSeq hl rfl (hz:=hs1) (_hz':=hz')),wpAny_loadPart' hl,wpAny_loadPart' hb
  exact⟨_,rfl,h⟩
end
noncomputable def Ce(K:PySem.W.Frag):V->List V->Hp->VK->Prop:=λx vs H Q=>∃l b xs zs,x=.ref l/\vs=[.ref b]/\H l=some (.lst xs)/\jm K H b zs/\xs.length+zs.length<=sizeLine/\Q .non (upd H l (.lst (xs++zs)))
theorem x6:R0 X "list.extend" (Ce X.K):=by
 intro pins s σ H x vs v us Q I rx rv h;obtain⟨l,b,xs,zs,rfl,rfl,hH,hB,hz,q⟩:=h;cases rx;obtain⟨u,rfl,ru⟩:=rv.one;cases ru;obtain⟨z,its,n,r,hl,e⟩:=I.Fw hH;obtain⟨its2,r2,⟨⟨oc,od,Yh,osl⟩,e2,ec,n2,ed⟩,z2⟩:=I.tuple hB;cases ec;cases ed;have l2:=r2.length;have hsz:its.toArray.size+its2.toArray.size<=sizeLine:=by rw[size_toArray,size_toArray];omega
 have BZ:¬ (!its.toArray.isEmpty&&Builtin.List.listTooLong (its.toArray.size+its2.toArray.size))=true:=by rw[u7 hsz,Bool.and_false];exact Bool.false_ne_true
 refine call_meets F.slot_list_extend ⟨_,e,rfl⟩ F.entry_list_extend (F.args_list_extend_2 _ _)
  (tY l b its.toArray its2.toArray n n2 od osl BZ (by rw[size_toArray];omega) (by omega)) ⟨e,e2,?_⟩
 refine⟨.non,_,I.JW (its':=its++its2) hH e (by simp) (r.append r2) ?_,rfl,q⟩;rw[length_append];omega
end
end L2
end
section
namespace L2
open PySem
noncomputable def sd(xs:Array Nat):Prop:=xs.toList.Pairwise (· < ·)
structure Cut (xs:Array Nat) (j p:Nat):Prop where
 le:p<=xs.size
 lo:∀(i:Nat) (hi:i<xs.size),i<p->xs[i]<j
 hi:∀(i:Nat) (hi:i<xs.size),p<=i->j<=xs[i]
theorem Cut.one{xs:Array Nat}{j p q:Nat}(a:Cut xs j p)(b:Cut xs j q):p=q:=by
 rcases Nat.lt_trichotomy p q with h|h|h
 ·have hp:p<xs.size:=lt_of_lt_of_le h b.le;have:=a.hi p hp (le_refl _);have:=b.lo p hp h;omega
 ·exact h
 ·have hq:q<xs.size:=lt_of_lt_of_le h a.le;have:=b.hi q hq (le_refl _);have:=a.lo q hq h;omega
theorem sd.get{xs:Array Nat}(r:sd xs){a b:Nat}(ha:a<xs.size)(hb:b<xs.size)(h:a<b):xs[a]<xs[b]:=by
 have:=List.pairwise_iff_getElem.mp r a b (by simpa using ha) (by simpa using hb) h;simpa using this
theorem x8{xs:Array Nat}(r:sd xs)(j:Nat):∀(fuel lo hi:Nat),lo<=hi->hi<=xs.size->hi-lo<=fuel->(∀(i:Nat) (hi:i<xs.size),i<lo->xs[i]<j)->(∀(i:Nat) (h:i<xs.size),hi<=i->j<=xs[i])->Cut xs j (SetTable.below.go xs j fuel lo hi)
 | 0,lo,hi,h1,h2,h3,a,b=>by
  have:lo=hi:=by omega
  subst this;exact⟨h2,a,b⟩
 | fuel+1,lo,hi,h1,h2,h3,a,b=>by
  unfold SetTable.below.go
  by_cases hlt:lo<hi
  ·rw[if_pos hlt]
   dsimp only;have hm:(lo+hi)/2<xs.size:=by omega
   have eg:xs.getD ((lo+hi)/2) j=xs[(lo+hi)/2]:=by simp[Array.getD,hm]
   rw[eg]
   by_cases hc:xs[(lo+hi)/2]<j
   ·rw[if_pos hc]
    refine x8 r j fuel _ hi (by omega) h2 (by omega) (λi hi' hl=>?_) b
    by_cases e:i=(lo+hi)/2
    ·subst e;exact hc
    ·exact lt_trans (r.get hi' hm (by omega)) hc
   ·rw[if_neg hc]
    refine x8 r j fuel lo _ (by omega) (by omega) (by omega) a (λi hi' hl=>?_)
    by_cases e:i=(lo+hi)/2
    ·subst e;omega
    ·have:=r.get hm hi' (by omega);omega
  ·rw[if_neg hlt]
   have:lo=hi:=by omega
   subst this;exact⟨h2,a,b⟩
theorem kI{xs:Array Nat}(r:sd xs)(j:Nat):Cut xs j (SetTable.below xs j) :=
 x8 r j xs.size 0 xs.size (zero_le _) (le_refl _) (by omega) (λi _ h=>by omega) (λi h hl=>by omega)
theorem x9{xs:Array Nat}(r:sd xs):SetTable.below xs 0=0:=(kI r 0).one ⟨zero_le _,λi _ h=>by omega,λi _ _=>zero_le _⟩
theorem ya{xs:Array Nat}(r:sd xs){i:Nat}(hi:i<xs.size):SetTable.below xs (xs[i]+1)=i+1:=by
 refine(kI r _).one ⟨hi,λk hk h=>?_,λk hk h=>?_⟩
 ·by_cases e:k=i
  ·subst e;omega
  ·have:=r.get hk hi (by omega);omega
 ·have:=r.get hi hk (by omega);omega
theorem AB{xs:Array Nat}(r:sd xs){j:Nat}(h:j∈xs):xs[SetTable.below xs j]?=some j:=by
 obtain⟨k,hk,e⟩:=Array.mem_iff_getElem.mp h;have:SetTable.below xs j=k:=by
  refine(kI r j).one ⟨le_of_lt hk,λi hi h=>?_,λi hi h=>?_⟩
  ·have:=r.get hi hk h;omega
  ·by_cases e':i=k
   ·subst e';omega
   ·have:=r.get hk hi (by omega);omega
 rw[this,Array.getElem?_eq_getElem hk,e]
theorem AD{xs:Array Nat}(r:sd xs){j:Nat}(h:j∉xs):sd (SetTable.insertAt xs (SetTable.below xs j) j):=by
 have c:=kI r j;unfold sd;rw[SetTable.toList_insertAt];have rl:xs.toList.Pairwise (· < ·):=r;have lo:∀a∈xs.toList.take (SetTable.below xs j),a<j:=λa ha=>by
  obtain⟨i,hi,e⟩:=List.mem_iff_getElem.mp ha;rw[length_take,length_toList] at hi;rw[List.getElem_take] at e;have:=c.lo i (by omega) (by omega);rw[<-e];simpa using this
 have up:∀a∈xs.toList.drop (SetTable.below xs j),j<a:=λa ha=>by
  obtain⟨i,hi,e⟩:=List.mem_iff_getElem.mp ha;rw[length_drop,length_toList] at hi;rw[List.getElem_drop] at e;have h1:=c.hi (SetTable.below xs j+i) (by omega) (by omega);have e':xs[SetTable.below xs j+i]'(by omega)=a:=by rw[<-e];simp
  rw[e'] at h1;have:a≠j:=λz=>h (by rw[<-z,<-e'];exact Array.getElem_mem _);omega
 rw[List.pairwise_append];refine⟨rl.sublist (List.take_sublist _ _),pairwise_cons.mpr ⟨up,rl.sublist (List.drop_sublist _ _)⟩,λa ha b hb=>?_⟩
 rcases mem_cons.mp hb with e|hb
 ·rw[e];exact lo a ha
 ·exact lt_trans (lo a ha) (up b hb)
theorem lO(n:Nat):sd (Array.range n):=by
 unfold sd;rw[Array.toList_range];exact List.pairwise_lt_range
theorem se{t:SetTable}(r:sd t.place){j:Nat}(h:t.slot j=.empty\/t.slot j=.dummy):j∉t.place:=λhm=>by
 have e:=AB r hm;unfold SetTable.slot at h;dsimp only at h;rw[e] at h;simp at h
theorem lz{h:Int}:∀(fuel:Nat) (p:SetTable.Probe) (j:Nat) (d:Option Nat),(∀k,p.dummy=some k->t.slot k=.dummy)->SetTable.probe.go t f h fuel p=some (.empty j d)->t.slot j=.empty/\∀k,d=some k->t.slot k=.dummy
 | 0,p,j,d,hd,e=>by simp[SetTable.probe.go] at e
 | fuel+1,p,j,d,hd,e=>by
  have ad:∀q:SetTable.Probe,(t.advance q).dummy=q.dummy:=λq=>by unfold SetTable.advance;split<;>rfl
  unfold SetTable.probe.go at e;split at e
  ·rename_i hs;cases e;exact⟨hs,hd⟩
  ·rename_i hs;refine lz fuel _ j d (λk hk=>?_) e;rw[ad] at hk;cases hk;exact hs
  ·split at e
   ·cases e
   ·exact lz fuel _ j d (λk hk=>hd k (by rw[<-ad];exact hk)) e
theorem Cf{t:SetTable}(r:sd t.place){h:Int}{s:Nat}{b:Bool}(e:t.freeSlot h=some (s,b)):s∉t.place:=by
 unfold SetTable.freeSlot at e;split at e
 ·rename_i j d hp
  cases e;obtain⟨h1,h2⟩:=lz _ _ _ _ (λk hk=>by simp[SetTable.probeStart] at hk) hp;cases d with
  | none=>exact se r (.inl h1)
  | some k=>exact se r (.inr (h2 k rfl))
 ·cases e
theorem AE(r:sd t.place)(es:Array (Int×Value))(h:Int)(x:Value):sd (layNew t es h x).2.1.place/\(layNew t es h x).2.1.led=t.led:=by
 unfold layNew
 split
 ·rename_i s b e
  have fr:=Cf r e;dsimp only;unfold SetTable.orStandIn
  split
  ·exact⟨AD r fr,rfl⟩
  ·exact⟨lO _,rfl⟩
 ·exact⟨lO _,rfl⟩
theorem Cg(r:sd t.place)(es:Array (Int×Value))(n:Nat):sd (relayAll t es n).2.1.place/\(relayAll t es n).2.1.led=t.led:=by
 unfold relayAll
 split
 ·rename_i t' order e
  dsimp only
  split
  ·unfold SetTable.relaid SetTable.laid at e;obtain⟨ow,e1,e⟩:=bind_eq_some_iff.mp e;cases e;refine⟨?_,rfl⟩;show List.Pairwise _ (List.map _ _).toArray.toList;rw[List.toList_toArray,pairwise_map];refine List.Pairwise.filterMap _ (R:=(· < ·)) (λa a' hl b hb b' hb'=>?_) List.pairwise_lt_range;obtain⟨x,_,rfl⟩:=map_eq_some_iff.mp hb;obtain⟨y,_,rfl⟩:=map_eq_some_iff.mp hb';exact hl
  ·exact⟨lO _,rfl⟩
 ·exact⟨lO _,rfl⟩
end L2
end
section
namespace L2
open PySem PyProof.Rows
noncomputable def rG(w:World):Bool:=w.params.followText "set-order"
structure Ih (w:World) (es:Array (Int×Value)) (t:SetTable):Prop where
 few:es.size<scanBound
 fit:t.fits es.size=true
 rs:sd t.place
 led:t.led = !rG w
structure eO (prog:Program) (w:World) (h:Heap) (a:Addr) (o:Obj) (es:Array (Int×Value)) (ep:Nat) (t:SetTable) (ks:List Int):Prop where
 at_:h.get? a=some o
 ex:o.ExactSet
 dat:o.data=.set es ep t
 el:ElemsOf (intKind prog w) es.toList
 tab:Ih w es t
 Wi:ks.Nodup
 mem:∀k,k∈ks↔∃e∈es.toList,(intKind prog w).is k e.2=true
 num:es.size=ks.length
noncomputable def oE(prog:Program)(w:World)(h:Heap)(a:Addr)(ks:List Int):Prop:=∃o es ep t,eO prog w h a o es ep t ks
noncomputable def eV(ks:List Int)(k:Int):List Int:=if k∈ks then ks else ks++[k]
section
variable {prog:Program} {w:World} {A:Around} {E:Value->Shared->Prop} {s:Shared}
theorem Ci{h:Heap}{a:Addr}{o:Obj}{es es':Array (Int×Value)}{ep:Nat}{t t':SetTable}(ho:h.get? a=some o)(hd:o.data=.set es ep t):(h.update a (Obj.putSet es' t')).get? a=some { o with data:=.set es' (ep+1) t' }:=by
 have q:=get?_update_self (Obj.putSet es' t') ho (by rw[putSet_of es' t' hd];rfl);rw[putSet_of es' t' hd] at q;exact q
theorem oE.frame{ks:List Int}(S:oE prog w h a ks)(k:∀o,h.get? a=some o->h'.get? a=some o):oE prog w h' a ks:=by
 obtain⟨o,es,ep,t,i⟩:=S;exact⟨o,es,ep,t,{ i with at_:=k o i.at_ }⟩
theorem mem_push{es es1:List (Int×Value)}{ks:List Int}{k:Int}(hx:(intKind prog w).is k x=true)(hm:∀j,j∈ks↔∃e∈es,(intKind prog w).is j e.2=true)(p:es1.Perm (es++[((intKind prog w).hash k,x)]))(j:Int) :
  j∈ks++[k]↔∃e∈es1,(intKind prog w).is j e.2=true:=by
 rw[mem_append,mem_singleton,hm];constructor
 ·rintro(⟨e,he,q⟩|rfl)
  ·exact⟨e,p.mem_iff.mpr (mem_append_left _ he),q⟩
  ·exact⟨_,p.mem_iff.mpr (mem_append_right _ mem_cons_self),hx⟩
 ·rintro⟨e,he,q⟩
  rcases mem_append.mp (p.mem_iff.mp he) with z|z
  ·exact .inl ⟨e,z,q⟩
  ·rw[mem_singleton] at z;subst z;exact .inr ((intKind prog w).inj x j k q hx)
theorem vo{g:Bool->Sem Unit}(hg:∀(b:Bool) (s₁:Shared) (Q':Unit->Shared->Prop),Q' () s₁->wpAny (model prog w) A (g b) Q' E s₁)
  {a:Addr} {o:Obj} {es es1:Array (Int×Value)} {ep:Nat} {t t2:SetTable} {ks:List Int} (ho:s.heap.get? a=some o) (hex:o.ExactSet) (hd:o.data=.set es ep t)
  (hel:ElemsOf (intKind prog w) es1.toList) (hm:∀k,k∈ks↔∃e∈es1.toList,(intKind prog w).is k e.2=true) (hnd:ks.Nodup) (hn:es1.size=ks.length) (ht:Ih w es1 t2) {b:Bool} {R:Option Bool->Shared->Prop}
  (h:∀h',Heap.SameBut a s.heap h'->oE prog w h' a ks->R (some true) { s with heap:=h' }) :
  wpAny (model prog w) A (do
    storeSet a es1 t2
    if (!b&&t2.tooFull)=true then do
      g (relayAll t2 es1 (SetTable.grown es1.size)).2.2
      storeSet a (relayAll t2 es1 (SetTable.grown es1.size)).1 (relayAll t2 es1 (SetTable.grown es1.size)).2.1
      pure (some true)
     else pure (some true)) R E s:=by
 refine wpAny_bind (wpAny_storeSet_of ho hd ?_ (fits_of_scanBound ht.few));have h1:=Ci (es':=es1) (t':=t2) ho hd;have b1:=Heap.SameBut.update s.heap a (Obj.putSet es1 t2)
 split
 ·have p:=relayAll_perm t2 es1 (SetTable.grown es1.size)
  have f:=relayAll_fits t2 es1 (SetTable.grown es1.size);have rr:=Cg ht.rs es1 (SetTable.grown es1.size);generalize relayAll t2 es1 (SetTable.grown es1.size)=Rl at p f rr |-;obtain⟨Sj,t3,gv⟩:=Rl;dsimp only at p f rr |-;have z:Sj.size=es1.size:=by rw[<-length_toList,p.length_eq,length_toList]
  have few:Sj.size<scanBound:=by rw[z];exact ht.few
  refine wpAny_bind (hg _ _ _ ?_);refine wpAny_bind (wpAny_storeSet_of h1 rfl ?_ (fits_of_scanBound few));refine wpAny_pure (h _ (b1.trans (Heap.SameBut.update _ a _)) ⟨_,Sj,_,t3,Ci h1 rfl,hex,rfl,hel.perm p,⟨few,f,rr.1,rr.2.trans ht.led⟩,hnd,λk=>(hm k).trans ⟨λ⟨e,he,q⟩=>⟨e,p.mem_iff.mpr he,q⟩,λ⟨e,he,q⟩=>⟨e,p.mem_iff.mp he,q⟩⟩,z.trans hn⟩)
 ·exact wpAny_pure (h _ b1 ⟨_,es1,_,t2,h1,hex,rfl,hel,ht,hnd,hm,hn⟩)
theorem add_int{ks:List Int}{k:Int}(S:oE prog w s.heap a ks)(room:ks.length+1<scanBound)
  (h:∀h' b,Heap.SameBut a s.heap h'->oE prog w h' a (eV ks k)->Q b { s with heap:=h' }) :
  wpAny (model prog w) A (setAddHashed a (.int k tk) ((intKind prog w).hash k)) Q E s:=by
 obtain⟨o,es,ep,t,I⟩:=S;have hx:(intKind prog w).is k (.int k tk)=true:=intKind_is _ _ _ _;have sc:(Value.int k tk).scannable=true:=rfl;unfold setAddHashed setAddHashedIn;refine wpAny_holding (wpAny_bind (wpAny_setState_of I.at_ I.dat I.tab.fit ?_));dsimp only;rw[byScan_of sc I.tab.few I.el];simp only[↓reduceIte];unfold setAddByScan;refine wpAny_bind (wpAny_bind (wpAny_rule (wpAny_bind (wpAny_setScan_of hx I.at_ I.dat I.tab.fit I.el ?_))));cases hr:List.findIdx? (λe=>(intKind prog w).is k e.2) es.toList with
 | some j =>
  dsimp only;obtain⟨hj,pj,_⟩:=List.findIdx?_eq_some_iff_getElem.mp hr;have hk:k∈ks:=(I.mem k).mpr ⟨es.toList[j],List.getElem_mem hj,pj⟩;refine wpAny_pure (wpAny_pure ?_);have e:s={ s with heap:=s.heap }:=by cases s;rfl
  rw[e];exact h s.heap _ (Heap.SameBut.refl a s.heap) (by unfold eV;rw[if_pos hk];exact⟨o,es,ep,t,I⟩)
 | none =>
  dsimp only;have hk:k∉ks:=λz=>by
   obtain⟨e,he,p⟩:=(I.mem k).mp z;have:=List.findIdx?_eq_none_iff.mp hr e he;rw[p] at this;cases this
  have gw:∀(b:Bool) (s₁:Shared) (Q':Unit->Shared->Prop),Q' () s₁->wpAny (model prog w) A (match b with|true=>rule "set.scan.the-table-gave-way" | false=>pure ()) Q' E s₁:=λb s₁ Q' q=>by
   cases b
   ·exact wpAny_pure q
   ·exact wpAny_rule q
  have p:=layNew_perm t es ((intKind prog w).hash k) (.int k tk);have f:=layNew_fits t es ((intKind prog w).hash k) (.int k tk);have rr:=AE I.tab.rs es ((intKind prog w).hash k) (.int k tk);generalize layNew t es ((intKind prog w).hash k) (.int k tk)=Ln at p f rr |-;obtain⟨es1,t1,wd,gv⟩:=Ln;dsimp only at p f rr |-;rw[Array.toList_push] at p;have z:es1.size=(ks++[k]).length:=by rw[<-length_toList,p.length_eq,length_append,length_append,length_toList,I.num];rfl
  have few:es1.size<scanBound:=by rw[z,length_append];simpa using room
  have nd:(ks++[k]).Nodup:=by rw[nodup_append];exact⟨I.Wi,by simp,λx hx' y hy e=>hk (by rw[mem_singleton] at hy;rw[<-hy,<-e];exact hx')⟩
  have Wj:ElemsOf (intKind prog w) es1.toList:=(I.el.push hx sc).perm p;have m1:=mem_push hx I.mem p;have fin:∀h',Heap.SameBut a s.heap h'->oE prog w h' a (ks++[k])->Q true { s with heap:=h' }:=λh' sb S'=>h h' true sb (by unfold eV;rw[if_neg hk];exact S');refine wpAny_bind (gw _ _ _ ?_)
  split
  ·refine wpAny_bind ?_
   rw[hashByValue_scannable 8 sc];refine wpAny_pure ?_;refine vo gw I.at_ I.ex I.dat Wj m1 nd z ⟨few,?_,?_,?_⟩ λh' sb S'=>wpAny_pure (fin h' sb S')
   ·split
    ·exact f
    ·exact SetTable.fits_plain_off f
   ·split
    ·exact rr.1
    ·exact rr.1
   ·split
    ·exact rr.2.trans I.tab.led
    ·exact rr.2.trans I.tab.led
  ·refine wpAny_bind (wpAny_pure ?_);simp only[↓reduceIte];exact vo gw I.at_ I.ex I.dat Wj m1 nd z ⟨few,f,rr.1,rr.2.trans I.tab.led⟩ λh' sb S'=>wpAny_pure (fin h' sb S')
end
end L2
end
section
namespace L2
open PySem PyProof.Rows
noncomputable def dZ:List Int->List Int->List Int
 | ks,[]=>ks
 | ks,k::r=>dZ (eV ks k) r
theorem pR(ks:List Int)(k:Int):(eV ks k).length<=ks.length+1:=by unfold eV;split<;>simp
section
variable {prog:Program} {w:World} {A:Around} {E:Value->Shared->Prop} {s:Shared}
theorem Cj{R:Result->Shared->Prop}{I:Addr}{fp wr:List Addr}{G:Array GenState->Array GenState->Prop}{n:Nat}{P:Nat->Value->Prop}{St:Nat->Shared->Prop}(W:WalksS prog w A.in1 I fp wr G n P St)(S:Addr)(hSf:S∉fp)(val:Nat->Int)(hval:∀i v,P i v->∃t,v=.int (val i) t) :
  ∀(k i:Nat) (s:Shared) (ks:List Int),n-i=k->i<=n->ks.length+k+1<scanBound->St i s->oE prog w s.heap S ks ->
   (∀s',Moved (S::wr) G s s'->oE prog w s'.heap S (dZ ks ((range' i k).map val))->R (.ok (.ret .none)) s') ->
   codeAny (model prog w) A (.builtin "set.update.loop" ⟨[.ref S,.ref I],[]⟩) R s:=by
 have Wk:S∉wr:=λh=>hSf (W.sub _ h);have sub:∀b∈wr,b∈S::wr:=λb hb=>mem_cons_of_mem _ hb;intro k
 induction k with
 | zero =>
  intro i s ks hk hi _ hst hS hR;have:i=n:=by omega
  subst this;refine codeAny_builtin PyProof.Rows.F.entry_set_update_loop ?_;rw[Around.under_plainId PyProof.Rows.F.plain_set_update_loop _];show wpAny _ A.in1 (pyNext (.ref I) >>= _) _ _ s;refine wpAny_bind (W.done s _ _ hst λs' hm=>?_);show wpAny _ A.in1 (ret Value.none) _ _ s';exact wpAny_pure (hR s' (hm.mono sub) (hS.frame λo e=>hm.heap S _ Wk e))
 | succ k ih =>
  intro i s ks hk hi hl hst hS hR;have hlt:i<n:=by omega
  refine codeAny_builtin PyProof.Rows.F.entry_set_update_loop ?_;rw[Around.under_plainId PyProof.Rows.F.plain_set_update_loop _];show wpAny _ A.in1 (pyNext (.ref I) >>= _) _ _ s;refine wpAny_bind (W.item i s _ _ hlt hst λv s' hP Sk hm=>?_);obtain⟨t,rfl⟩:=hval i v hP;have hS':=hS.frame (h':=s'.heap) λo e=>hm.heap S _ Wk e;show wpAny _ A.in1 (holding [Value.int (val i) t] (setAdd S (.int (val i) t)) >>= _) _ _ s';refine wpAny_bind (wpAny_holding ?_);unfold setAdd;refine wpAny_holding (wpAny_bind ((intKind prog w).pyHash (k:=val i) (intKind_is _ _ _ _) ?_));refine add_int (s:={ s' with toks:=s'.toks+1 }) hS' (by omega) λh' b sb S2=>?_;have hl2:=pR ks (val i);refine wpAny_pure ⟨plainId_quiet PyProof.Rows.F.plain_set_update_loop _,ih (i+1) _ (eV ks (val i)) (by omega) hlt (by omega) (W.frame _ s' _ _ Sk (le_succ _) λb hb o e=>?_) S2 λs'' J2 S3=>?_⟩
  ·rw[sb.2 b λz=>hSf (by rw[<-z];exact hb)];exact e
  ·refine hR s'' (Moved.trans W.gtrans ((hm.mono sub).then_heap (le_succ _) λb o hb e=>?_) J2) ?_
   ·rw[sb.2 b λz=>hb (by rw[z];exact mem_cons_self)];exact e
   ·rw[List.range'_succ,map_cons,dZ];exact S3
noncomputable abbrev pS(w:World):Obj:={ cls:=.type "set",dict:=none,data:=.set #[] 0 (.fresh 0 0 (!rG w)) }
theorem FN(e:h.get? a=some (pS w)):oE prog w h a [] :=
 ⟨_,#[],0,_,e,⟨rfl,rfl,rfl⟩,rfl,λx hx=>by simp at hx,⟨by show 0<4096;decide,rfl,List.Pairwise.nil,rfl⟩,nodup_nil,λk=>by simp,rfl⟩
theorem Ck(a:Value)(h:Q₁ (.ref s.heap.objs.size) { s with heap:=s.heap.push (pS w) }) :
  codeAny (model prog w) A (.call (.builtin "set.__new__") ⟨[.type "set",a],[]⟩) (wants Q₁ E) s:=by
 refine codeAny_of_tree ?_;show wpAny _ A.in1 (do checkBuiltinCall "set.__new__" ⟨[.type "set",a],[]⟩;again (.builtin "set.__new__" ⟨[.type "set",a],[]⟩)) _ _ s;refine wpAny_bind (wpAny_of_eq (PySem.F.newCall_set_1 a) (wpAny_pure ⟨plainId_quiet PySem.F.plain_set_new _,codeAny_builtin PySem.F.entry_set_new ?_⟩));rw[Around.under_plainId PySem.F.plain_set_new _];unfold Builtin.«set.__new__» Builtin.Frozenset.newClass;have hsub:=sub_set_self;obtain⟨hp,g,d,tk,os⟩:=s;dsimp only
 wp_walk
 refine wpAny_askSetting (wpAny_pure ?_);dsimp only;simp only[newObj];refine wpAny_bind (wpAny_alloc (wpAny_pure ?_));exact wpAny_pure h
end
end L2
end
section
namespace L2
open PySem PyProof.Rows
section
variable {prog:Program} {w:World} {A:Around} {E:Value->Shared->Prop} {s:Shared}
theorem yb{ns:List Int}(hi:IntsAre vs ns):(range' 0 vs.length).map (λi=>ns.getD i 0)=ns:=by
 have hl:=IntsAre.length hi;apply ext_getElem
 ·rw[length_map,List.length_range',hl]
 ·intro i h1 h2;simp[List.getD,h2]
theorem vp{ns:List Int}(hh:A.handled=none)(hl:s.heap.IsList l items)(hi:IntsAre items.toList ns)(hb:items.size+1<scanBound)
  (h:∀(h':Heap) (tk:Nat),oE prog w h' s.heap.objs.size (dZ [] ns)->(∀b o,b<s.heap.objs.size->s.heap.get? b=some o->h'.get? b=some o)->Q (.ref s.heap.objs.size) { s with heap:=h',toks:=tk }) :
  wpAny (model prog w) A (call (.type "set") [.ref l]) Q E s:=by
 obtain⟨c,tl,mro⟩:=PySem.F.called_set.mro;have made:=PySem.F.called_set.made;have sub:=PySem.F.called_set.sub;refine wpAny_call (codeAny_of_tree ?_);show wpAny _ _ (callAny (.type "set") _) _ _ _;refine wpAny_pure ⟨Code.quiet_builtin _ (by decide +kernel),codeAny_builtin PySem.F.entry_type_call ?_⟩;rw[Around.under_plain (weight_type_call_type "set" [.ref l] []) rfl];have n1:=PySem.F.called_set.notType;have n2:=PySem.F.called_set.canCreate;have n3:=PySem.F.typeCall_set_1 (.ref l)
 repeat (any_goals (first|assumption|wp_step))
 refine codeAny_mono (Ck (.ref l) (E:=E) (Q₁:=λobj s₁=>obj=.ref s.heap.objs.size/\s₁={ s with heap:=s.heap.push (pS w) }) ⟨rfl,rfl⟩) λr s₁ hr=>?_;cases r with
 | error e=>exact hr
 | ok fl =>
  cases fl with
  | ret obj =>
   obtain⟨rfl,rfl⟩:=hr;have Wl:(s.heap.push (pS w)).get? s.heap.objs.size=some (pS w):=get?_push_size _ rfl;have hT:Shared.TypeIs { s with heap:=s.heap.push (pS w) } (.ref s.heap.objs.size) "set":=⟨_,Wl,rfl⟩;have look:=PySem.F.called_set.init.lookup;have bind:=PySem.F.called_set.init.bind (.ref s.heap.objs.size)
   repeat (any_goals (first|assumption|wp_step))
   refine codeAny_mono (codeAny_call_builtin (R:=wants (λr s₂=>r=.none/\∃h' tk,s₂={ s with heap:=h',toks:=tk }/\oE prog w h' s.heap.objs.size (dZ [] ns) /\
     (∀b o,b<s.heap.objs.size->s.heap.get? b=some o->h'.get? b=some o)) E) PySem.F.called_set.init.plain PySem.F.entry_set_init (check_set_init_1 hT ?_)) λr₂ s₂ Sm=>?_
   ·obtain⟨ol,Wm,cl,nl,dl⟩:=hl
    obtain⟨oc,od,oda,os⟩:=ol;simp only at cl dl;subst cl;subst dl;have Sn:(s.heap.push (pS w)).get? l=some { cls:=.type "list",dict:=od,data:=.seq items nl,slots:=os }:=get?_push_of_some _ Wm;have q1:=PySem.F.sub_list_set;have q2:=PySem.F.sub_list_frozenset;have q3:(Value.type "list" == Value.type "dict")=false:=by decide
    have hl1:(s.heap.push (pS w)).IsList l items:=⟨_,Sn,rfl,nl,rfl⟩;unfold Builtin.«set.__init__» noKeywords Builtin.Frozenset.updateFrom;generalize Yi:pyIter=PI
    wp_walk
    subst Yi;refine wpAny_pyIter_list hl1 (wpAny_bind (wpAny_runValue ?_));have lS:l<s.heap.objs.size:=lt_size Wm;have h3:A.in1.in1.in1.handled=none:=by simp[hh]
    have Yj:l≠(s.heap.push (pS w)).objs.size:=by rw[size_push];exact ne_of_lt (lt_succ_of_lt lS)
    have sF:s.heap.objs.size∉[(s.heap.push (pS w)).objs.size,l]:=by rw[size_push];simp only[mem_cons,not_mem_nil,or_false,not_or];exact⟨ne_of_lt (lt_succ_self _),ne_of_gt lS⟩
    have val:∀(i:Nat) (v:Value),items[i]?=some v->∃t,v=.int ((λi=>ns.getD i 0) i) t:=λi v hv=>IntsAre.int_at hi i v (by rw[getElem?_toList];exact hv);refine Cj ((Walks.list h3 _ l Yj items).toS) s.heap.objs.size sF (λi=>ns.getD i 0) val (items.size-0) 0 _ [] (by omega) (zero_le _) (by simpa using hb) ⟨⟨_,get?_push_size _ rfl,rfl,rfl⟩,hl1.push _⟩ ?s0 ?sR
    case s0=>exact FN (get?_push_of_some _ Wl)
    case sR =>
     intro s' hm S';obtain⟨h',g',d',tk',os'⟩:=s';have eg:g'=s.gens:=hm.gens;have ed:d'=s.drawn:=hm.drawn;have eo:os'=s.os:=hm.os;subst eg;subst ed;subst eo;refine wpAny_pure ?_;show wpAny _ _ (ret Value.none) _ _ _;have e0:(range' 0 (items.size-0)).map (λi=>ns.getD i 0)=ns:=by have:=yb hi;rw[length_toList] at this;exact this
     rw[e0] at S';refine wpAny_pure ⟨rfl,h',tk',rfl,S',λb o hb e=>?_⟩;have b1:b≠s.heap.objs.size:=ne_of_lt hb;have b2:b≠(s.heap.push (pS w)).objs.size:=by rw[size_push];exact ne_of_lt (lt_succ_of_lt hb)
     exact hm.heap b o (by simp only[mem_cons,not_mem_nil,or_false,not_or];exact⟨b1,b2⟩) (get?_push_of_some _ (get?_push_of_some _ e))
   ·cases r₂ with
    | error e=>exact Sm
    | ok Yk =>
     cases Yk with
     | ret r =>
      obtain⟨rfl,h',tk,rfl,S',hk⟩:=Sm
      repeat (any_goals (first|assumption|wp_step))
      exact h _ _ S' hk
     | _=>exact Sm.elim
  | _=>exact hr.elim
end
end L2
end
section
namespace L2
open PySem PyProof.Rows
namespace SI
theorem yc:entryFor table "set.__iter__" = some Builtin.«frozenset.__iter__» :=
 entryFor_alias (id':="frozenset.__iter__") (by kernel_rfl) rfl (by decide +kernel) (by kernel_rfl)
theorem owner:Manifest.owners.lookup (String.ofList ['r','o','t','a','r','e','t','i','_','t','e','s'].reverse)=some Manifest.sig_set_iterator:=by kernel_rfl
theorem slot_next:Slot "set_iterator" "__next__" "set_iterator.__next__" :=
 .of (owner:="set_iterator") (n:="__next__") (by rw[typeLookup_type,builtinLookup_eq_fast];kernel_rfl) (by decide +kernel) (by decide +kernel) (by decide +kernel) (by first|exact .inl (by decide +kernel)|exact .inr (by decide +kernel)) (by rw[isSubtype_type];kernel_rfl)
theorem entry_next:entryFor table "set_iterator.__next__" = some Builtin.«set_iterator.__next__»:=entryFor_of_tree (by kernel_rfl)
theorem args_next(a:Value):argsOk "set_iterator.__next__" ⟨[a],[]⟩:=by
 unfold argsOk;rw[signature?_of (id:="set_iterator.__next__") (n:=['_','_','t','x','e','n','_','_']) (o:=['r','o','t','a','r','e','t','i','_','t','e','s']) (by kernel_rfl) owner];kernel_rfl
theorem sf:Slot "set_iterator" "__iter__" "set_iterator.__iter__" :=
 .of (owner:="set_iterator") (n:="__iter__") (by rw[typeLookup_type,builtinLookup_eq_fast];kernel_rfl) (by decide +kernel) (by decide +kernel) (by decide +kernel) (by first|exact .inl (by decide +kernel)|exact .inr (by decide +kernel)) (by rw[isSubtype_type];kernel_rfl)
theorem entry_self:entryFor table "set_iterator.__iter__" = some Builtin.«dict_keyiterator.__iter__» :=
 entryFor_alias (id':="dict_keyiterator.__iter__") (by kernel_rfl) rfl (by decide +kernel) (by kernel_rfl)
theorem AF(a:Value):argsOk "set_iterator.__iter__" ⟨[a],[]⟩:=by
 unfold argsOk;rw[signature?_of (id:="set_iterator.__iter__") (n:=['_','_','r','e','t','i','_','_']) (o:=['r','o','t','a','r','e','t','i','_','t','e','s']) (by kernel_rfl) owner];kernel_rfl
end SI
section
variable {prog:Program} {w:World} {A:Around} {E:Value->Shared->Prop} {s:Shared}
noncomputable def fG(h:Heap)(it:Addr)(f:Value)(i:Nat)(a:Addr)(n ep:Nat):Prop:=∃o,h.get? it=some o/\o.cls=.type "set_iterator" /\ o.data=.fields #[f,.int i 0,.ref a,.int n 0,.int ep 0]
theorem fG.typeIs{i:Nat}{n ep:Nat}(x:fG s.heap it f i a n ep):s.TypeIs (.ref it) "set_iterator":=let ⟨o,ho,hc,_⟩:=x;⟨o,ho,hc⟩
theorem m8{i:Nat}{n ep:Nat}(x:fG s.heap it f i a n ep)(h:Q (.ref it) s):wpAny (model prog w) A (pyIter (.ref it)) Q E s:=by
 refine wpAny_pyIter_slot x.typeIs SI.sf (wpAny_call_entry SI.sf x.typeIs SI.entry_self ?_ (SI.AF _));exact wpAny_pure ⟨_,rfl,"set_iterator",_,x.typeIs,SI.slot_next.lookup,h⟩
end
end L2
end
section
namespace L2
open PySem PyProof.Rows
section
variable {prog:Program} {w:World} {A:Around} {E:Value->Shared->Prop} {s:Shared}
theorem iB{ep:Nat}(ho:s.heap.get? a=some o)(hd:o.data=.set es ep t)(hf:t.fits es.size=true)(h:Q es s):wpAny (model prog w) A (setEntries a) Q E s:=by
 unfold setEntries;exact wpAny_bind (wpAny_setState_of ho hd hf (wpAny_pure h))
theorem kJ(h:Q (rG w) s):wpAny (model prog w) A setsByText Q E s:=by
 unfold setsByText;exact wpAny_bind (wpAny_askSetting (wpAny_pure h))
theorem sj{ep sl g:Nat}{ks:List Int}(S:eO prog w s.heap a o es ep t ks)(hb:rG w=false)(hp:(!t.plain&&decide (es.size>1))=false)
  (hQ:Q (match es[SetTable.below t.place sl]?,t.place[SetTable.below t.place sl]? with|some (_,x),some j=>some (x,j+1)|_,_=>none) s):wpAny (model prog w) A (setNext a sl g ep) Q E s:=by
 have led:t.led=true:=by rw[S.tab.led,hb];rfl
 unfold setNext;refine wpAny_bind (wpAny_setState_of S.at_ S.dat S.tab.fit ?_);dsimp only;refine wpAny_bind (kJ ?_);rw[hb];simp only[false_eq_true,↓reduceIte];rw[if_neg (λz=>by
  have z':(!t.plain&&decide (es.size>1))=true:=z;rw[hp] at z';cases z')]
 refine wpAny_bind ?_;show wpAny _ _ (if (!t.led && !es.isEmpty)=true then Sem.unsupported "set:maker-not-led" else pure ()) _ _ _;rw[if_neg (by rw[led];simp)];exact wpAny_pure (wpAny_pure hQ)
theorem su{ep sl g:Nat}{ks:List Int}(S:eO prog w s.heap a o es ep t ks)(hb:rG w=true)
  (hQ:Q (((pickOrder (w.params.setOrder a ep) es)[g]?).map λe=>(e.2,sl)) s):wpAny (model prog w) A (setNext a sl g ep) Q E s:=by
 unfold setNext;refine wpAny_bind (wpAny_setState_of S.at_ S.dat S.tab.fit ?_);dsimp only;refine wpAny_bind (kJ ?_);rw[hb];simp only[bne_self_eq_false,false_eq_true,↓reduceIte];unfold setWalk;refine wpAny_bind (wpAny_bind (wpAny_setState_of S.at_ S.dat S.tab.fit ?_));dsimp only;refine wpAny_bind (kJ ?_);rw[hb];simp only[↓reduceIte];exact wpAny_bind (wpAny_askSetting (wpAny_pure (wpAny_pure hQ)))
theorem lP{ep:Nat}{ks:List Int}{i sl:Nat}(hh:A.handled=none)(x:fG s.heap it (.int sl 0) i a es.size ep)(S:eO prog w s.heap a o es ep t ks)
  (hn:∀(A:Around) (E:Value->Shared->Prop) (Q:Option (Value×Nat)->Shared->Prop),Q r s->wpAny (model prog w) A (setNext a sl i ep) Q E s)
  (hQ:∀v nx,r=some (v,nx)->∀h',fG h' it (.int (nx:Nat) 0) (i+1) a es.size ep->Heap.SameBut it s.heap h'->Q (some v) { s with heap:=h' })
  (hE:r=none->∀h',Heap.ExtBut it s.heap h'->Q none { s with heap:=h' }):wpAny (model prog w) A (pyNext (.ref it)) Q E s:=by
 obtain⟨oi,EF,So,hdi⟩:=id x;unfold pyNext;refine wpAny_bind (wpAny_attempt (wpAny_callSpecial?_slot (name:=Str.ofString "__next__") x.typeIs SI.slot_next (wpAny_call_entry SI.slot_next x.typeIs SI.entry_next ?_ (SI.args_next _))));unfold Builtin.«set_iterator.__next__»;refine wpAny_bind (wpAny_pure ?_);refine wpAny_bind (wpAny_fieldsOf EF hdi ?_);dsimp only;refine wpAny_bind (iB S.at_ S.dat S.tab.fit ?_);rw[if_neg (by simp)];refine wpAny_bind (hn _ _ _ ?_);cases r with
 | some p =>
  obtain⟨v,nx⟩:=p;dsimp only;refine wpAny_bind (wpAny_setField EF hdi (by simp) ?_);have h1:=get?_update_self (Obj.mapFields (·.setIfInBounds 0 (rawInt nx))) EF (Obj.isFreed_of_fields (Obj.data_mapFields hdi _));have d1:=Obj.data_mapFields hdi (·.setIfInBounds 0 (rawInt nx));refine wpAny_bind (wpAny_setField h1 d1 (by simp) ?_);have h2:=get?_update_self (Obj.mapFields (·.setIfInBounds 1 (rawInt ((i:Int)+1)))) h1 (Obj.isFreed_of_fields (Obj.data_mapFields d1 _));refine wpAny_pure ⟨_,rfl,wpAny_pure (hQ v nx rfl _ ⟨_,h2,?_,?_⟩ ((Heap.SameBut.update ..).trans (Heap.SameBut.update ..)))⟩
  ·rw[Obj.cls_mapFields,Obj.cls_mapFields];exact So
  ·rw[Obj.data_mapFields d1];simp[rawInt]
 | none =>dsimp only;refine wpAny_bind (wpAny_setField EF hdi (by simp) ?_);refine wpAny_bind ?_;simp only[newExc,newTuple];refine wpAny_bind (wpAny_newObj_type ?_ (by size_fits));refine wpAny_bind (m:=firstArgMember _ _) (wpAny_of_eq (a:=Value.none) (by first|rfl|(simp only[firstArgMember];rfl)) ?_);refine wpAny_newObj_type ?_ (by size_fits);simp only[raiseNew];refine wpAny_bind (wpAny_handled ?_);rw[show A.in1.handled=none from hh];refine wpAny_bind (wpAny_pure (wpAny_throw ?_));refine wpAny_bind (wpAny_isInstance (T:="StopIteration") (b:=true) ⟨_,get?_push_size _ rfl,rfl⟩ isSubtype_stop ?_);exact wpAny_pure (hE rfl _ (((Heap.SameBut.update ..).extBut.push _).push _))
end
end L2
end
section
namespace L2
open PySem PyProof.Rows
theorem lA{α:Type}:∀(l:List α) (i:Nat) (h:i<l.length),(l[i]::l.eraseIdx i).Perm l
 | x::l,0,_=>List.Perm.refl _
 | x::l,i+1,h=>by
  simp only[List.getElem_cons_succ,List.eraseIdx_cons_succ];exact(List.Perm.swap _ _ _).trans (List.Perm.cons x (lA l i (by simpa using h)))
section
variable {prog:Program} {w:World} {A:Around} {E:Value->Shared->Prop} {s:Shared}
theorem AG{n:Nat}(hn:n≠0)(h:∀i d,i<n->Q i { s with drawn:=d }):wpAny (model prog w) A (choose src n) Q E s:=fun Γ p hΓ=>by
 show Sem.wp _ _ (Sem.choose src n Sem.pure) _ _ _ _;rw[Sem.wp];exact⟨hn,h _ _ (mod_lt _ (Nat.pos_of_ne_zero hn))⟩
theorem zc{α:Type}:∀(n:Nat) (xs:List α) (s:Shared) (Q:List α -> Shared->Prop),xs.length=n->(∀ys d,ys.Perm xs->Q ys { s with drawn:=d })->wpAny (model prog w) A (drawOrder n xs) Q E s
 | 0,xs,s,Q,hl,h=>by
  have:xs=[]:=List.eq_nil_of_length_eq_zero hl;subst this;unfold drawOrder;exact wpAny_pure (h [] s.drawn (List.Perm.refl _))
 | n+1,[],s,Q,hl,h=>by simp at hl
 | n+1,x::xs,s,Q,hl,h=>by
  unfold drawOrder;refine wpAny_bind (AG (by simp) λi d hi=>?_);have hx:(x::xs)[i]?=some ((x::xs)[i]):=List.getElem?_eq_getElem hi;rw[hx];dsimp only;refine wpAny_bind (zc n ((x::xs).eraseIdx i) _ _ (by rw[List.length_eraseIdx,if_pos hi];simp at hl |-;omega) λys d' p=>wpAny_pure ?_);exact h _ d' (((List.Perm.cons _ p).trans (lA _ i hi)))
theorem pT{ep c:Nat}{ks:List Int}{i:Nat}{ps:List Nat}(hh:A.handled=none)(x:fG s.heap it (.ref td) i a es.size ep)(S:eO prog w s.heap a o es ep t ks)
  (hT:s.heap.get? td=some oT) (QO:oT.data=.seq (ps.map λ(j:Nat)=>rawInt j).toArray c) (hlt:∀j∈ps,j<es.size)
  (hQ:∀j e,ps[i]?=some j->es[j]?=some e->∀h',fG h' it (.ref td) (i+1) a es.size ep->Heap.SameBut it s.heap h'->Q (some e.2) { s with heap:=h' })
  (hE:ps[i]?=none->∀h',Heap.ExtBut it s.heap h'->Q none { s with heap:=h' }):wpAny (model prog w) A (pyNext (.ref it)) Q E s:=by
 obtain⟨oi,EF,So,hdi⟩:=id x;unfold pyNext;refine wpAny_bind (wpAny_attempt (wpAny_callSpecial?_slot (name:=Str.ofString "__next__") x.typeIs SI.slot_next (wpAny_call_entry SI.slot_next x.typeIs SI.entry_next ?_ (SI.args_next _))));unfold Builtin.«set_iterator.__next__»;refine wpAny_bind (wpAny_pure ?_);refine wpAny_bind (wpAny_fieldsOf EF hdi ?_);dsimp only;refine wpAny_bind (iB S.at_ S.dat S.tab.fit ?_);rw[if_neg (by simp)];refine wpAny_bind (wpAny_seqItems hT QO ?_);dsimp only;have hg:((ps.map λ(j:Nat)=>rawInt j).toArray)[((i:Nat):Int).toNat]?=(ps[i]?).map λ(j:Nat)=>rawInt j:=by simp
 rw[hg];cases hp:ps[i]? with
 | some j =>
  have hj:j<es.size:=hlt j (mem_of_getElem? hp);simp only[map_some,rawInt];refine wpAny_bind ?_;unfold setNextDrawn;refine wpAny_bind (wpAny_setState_of S.at_ S.dat S.tab.fit ?_);dsimp only;rw[if_neg (by simp)];have Yl:es[((j:Nat):Int).toNat]?=some es[j]:=by simp[hj]
  rw[Yl];refine wpAny_pure ?_;refine wpAny_bind (wpAny_setField EF hdi (by simp) ?_);have h2:=get?_update_self (Obj.mapFields (·.setIfInBounds 1 (.int ((i:Int)+1) 0))) EF (Obj.isFreed_of_fields (Obj.data_mapFields hdi _));refine wpAny_pure ⟨_,rfl,wpAny_pure (hQ j _ hp (Array.getElem?_eq_getElem hj) _ ⟨_,h2,?_,?_⟩ (Heap.SameBut.update ..))⟩
  ·rw[Obj.cls_mapFields];exact So
  ·rw[Obj.data_mapFields hdi];simp
 | none =>simp only[Option.map_none];refine wpAny_bind (wpAny_setField EF hdi (by simp) ?_);have h1:=get?_update_self (Obj.mapFields (·.setIfInBounds 0 (rawInt 0))) EF (Obj.isFreed_of_fields (Obj.data_mapFields hdi _));have d1:=Obj.data_mapFields hdi (·.setIfInBounds 0 (rawInt 0));refine wpAny_bind (wpAny_setField h1 d1 (by simp) ?_);refine wpAny_bind ?_;simp only[newExc,newTuple];refine wpAny_bind (wpAny_newObj_type ?_ (by size_fits));refine wpAny_bind (m:=firstArgMember _ _) (wpAny_of_eq (a:=Value.none) (by first|rfl|(simp only[firstArgMember];rfl)) ?_);refine wpAny_newObj_type ?_ (by size_fits);simp only[raiseNew];refine wpAny_bind (wpAny_handled ?_);rw[show A.in1.handled=none from hh];refine wpAny_bind (wpAny_pure (wpAny_throw ?_));refine wpAny_bind (wpAny_isInstance (T:="StopIteration") (b:=true) ⟨_,get?_push_size _ rfl,rfl⟩ isSubtype_stop ?_);exact wpAny_pure (hE hp _ ((((Heap.SameBut.update ..).trans (Heap.SameBut.update ..)).extBut.push _).push _))
end
end L2
end
section
namespace L2
open PySem PyProof.Rows
theorem sy{α:Type}(f:Nat->Nat):∀(n k:Nat) (l:List α) (out:Array α),l.length=n->(pickOrder.go f n k l out).toList.Perm (out.toList++l)
 | 0,k,l,out,h=>by
  have:l=[]:=List.eq_nil_of_length_eq_zero h;subst this;unfold pickOrder.go;simp
 | n+1,k,l,out,h=>by
  unfold pickOrder.go;have hl:0<l.length:=by omega
  have hi:f k%l.length<l.length:=mod_lt _ hl;rw[List.getElem?_eq_getElem hi];dsimp only;refine(sy f n (k+1) _ _ (by rw[List.length_eraseIdx,if_pos hi];omega)).trans ?_;rw[Array.toList_push,List.append_assoc];exact List.Perm.append_left _ (lA l _ hi)
theorem sD{t:SetTable}{n:Nat}(h:t.fits n=true):t.place.size=n:=by
 simp only[SetTable.fits,and_eq_true,beq_iff_eq] at h;exact h.1
noncomputable def QS(t:SetTable):Nat->Nat
 | 0=>0
 | i+1=>t.place.getD i 0+1
theorem sE(r:sd t.place):∀i,i<=t.place.size->SetTable.below t.place (QS t i)=i
 | 0,_=>x9 r
 | i+1,h=>by
  have hi:i<t.place.size:=h;have e:QS t (i+1)=t.place[i]+1:=by simp[QS,Array.getD,hi]
  rw[e];exact ya r hi
section
variable {prog:Program} {w:World} {A:Around} {E:Value->Shared->Prop} {s:Shared}
theorem eO.keep{ep:Nat}{ks:List Int}(S:eO prog w h a o es ep t ks)(k:∀o,h.get? a=some o->h'.get? a=some o):eO prog w h' a o es ep t ks:={ S with at_:=k o S.at_ }
theorem fG.keep{i:Nat}{n ep:Nat}(x:fG h it f i a n ep)(k:∀o,h.get? it=some o->h'.get? it=some o):fG h' it f i a n ep:=by
 obtain⟨o,ho,r⟩:=x;exact⟨o,k o ho,r⟩
noncomputable def PL(L:List (Int×Value))(i:Nat)(v:Value):Prop:=∃e,L[i]?=some e/\v=e.2
theorem AH(hh:A.handled=none){ep:Nat}{ks:List Int}(hne:a≠I)(hb:rG w=false)(hp:(!t.plain&&decide (es.size>1))=false) :
  Walks prog w A I [I,a] [I] es.toList.length (PL es.toList) (λi h=>eO prog w h a o es ep t ks/\fG h I (.int (QS t i) 0) i a es.size ep) where
 sub:=λb hb=>by simp at hb;simp[hb]
 frame:=λ_ _ _ st hk=>⟨st.1.keep λo e=>hk a (by simp) o e,st.2.keep λo e=>hk I (by simp) o e⟩
 item:=λi s Q E hi st hQ=>by
  have hi:i<es.size:=by simpa using hi
  have hz:=sD st.1.tab.fit;have hb':=sE st.1.tab.rs i (by rw[hz];exact le_of_lt hi);refine lP (r:=some (es[i].2,t.place.getD i 0+1)) hh st.2 st.1 (λA E Q q=>sj st.1 hb hp ?_) (λv nx e h' x' sb=>?_) (λe=>nomatch e)
  ·rw[hb',Array.getElem?_eq_getElem hi,Array.getElem?_eq_getElem (by rw[hz];exact hi)]
   have e1:t.place[i]'(by rw[hz];exact hi)=t.place.getD i 0:=by simp[Array.getD,hz,hi]
   dsimp only;rw[e1];exact q
  ·cases e;exact hQ _ h' s.toks ⟨es[i],by simp[hi],rfl⟩ ⟨st.1.keep λo e=>sb.extBut a o hne e,x'⟩ λb o hb e=>sb.extBut b o (λz=>hb (by simp[z])) e
 done:=λs Q E st hQ=>by
  have hz:=sD st.1.tab.fit;have hb':=sE st.1.tab.rs es.toList.length (by rw[hz];simp);refine lP (r:=none) hh st.2 st.1 (λA E Q q=>sj st.1 hb hp ?_) (λv nx e=>nomatch e) (λ_ h' sb=>hQ h' s.toks λb o hb e=>sb b o (λz=>hb (by simp[z])) e);rw[hb',Array.getElem?_eq_none (by simp)];exact q
 self:=λ_ _ _ _ st hQ=>m8 st.2 hQ
theorem AI(hh:A.handled=none){ep:Nat}{ks:List Int}(hne:a≠I)(hb:rG w=true) :
  Walks prog w A I [I,a] [I] (pickOrder (w.params.setOrder a ep) es).toList.length (PL (pickOrder (w.params.setOrder a ep) es).toList) (λi h=>eO prog w h a o es ep t ks/\fG h I (.int (0:Nat) 0) i a es.size ep) where
 sub:=λb hb=>by simp at hb;simp[hb]
 frame:=λ_ _ _ st hk=>⟨st.1.keep λo e=>hk a (by simp) o e,st.2.keep λo e=>hk I (by simp) o e⟩
 item:=λi s Q E hi st hQ=>by
  have hi:i<(pickOrder (w.params.setOrder a ep) es).size:=by simpa using hi
  refine lP (r:=some ((pickOrder (w.params.setOrder a ep) es)[i].2,0)) hh st.2 st.1 (λA E Q q=>su st.1 hb ?_) (λv nx e h' x' sb=>?_) (λe=>nomatch e)
  ·rw[Array.getElem?_eq_getElem hi];exact q
  ·cases e;exact hQ _ h' s.toks ⟨(pickOrder (w.params.setOrder a ep) es)[i],by simp[hi],rfl⟩ ⟨st.1.keep λo e=>sb.extBut a o hne e,x'⟩ λb o hb e=>sb.extBut b o (λz=>hb (by simp[z])) e
 done:=λs Q E st hQ=>by
  refine lP (r:=none) hh st.2 st.1 (λA E Q q=>su st.1 hb ?_) (λv nx e=>nomatch e) (λ_ h' sb=>hQ h' s.toks λb o hb e=>sb b o (λz=>hb (by simp[z])) e);rw[Array.getElem?_eq_none (by simp)];exact q
 self:=λ_ _ _ _ st hQ=>m8 st.2 hQ
theorem yd(hh:A.handled=none){ep c:Nat}{ks:List Int}{ps:List Nat}(hne:a≠I)(hnt:td≠I)(hlt:∀j∈ps,j<es.size)(QO:oT.data=.seq (ps.map λ(j:Nat)=>rawInt j).toArray c) :
  Walks prog w A I [I,a,td] [I] ps.length (PL (ps.map λj=>es.getD j (0,.none))) (λi h=>eO prog w h a o es ep t ks/\fG h I (.ref td) i a es.size ep/\h.get? td=some oT) where
 sub:=λb hb=>by simp at hb;simp[hb]
 frame:=λ_ _ _ st hk=>⟨st.1.keep λo e=>hk a (by simp) o e,st.2.1.keep λo e=>hk I (by simp) o e,hk td (by simp) _ st.2.2⟩
 item:=λi s Q E hi st hQ=>by
  refine pT hh st.2.1 st.1 st.2.2 QO hlt (λj e hj he h' x' sb=>?_) (λhn=>absurd hn (by rw[List.getElem?_eq_getElem hi];simp));refine hQ _ h' s.toks ⟨e,?_,rfl⟩ ⟨st.1.keep λo e=>sb.extBut a o hne e,x',sb.extBut td _ hnt st.2.2⟩ λb o hb e=>sb.extBut b o (λz=>hb (by simp[z])) e;rw[getElem?_map,hj];have hjl:j<es.size:=(Array.getElem?_eq_some_iff.mp he).1;have:=(Array.getElem?_eq_some_iff.mp he).2;simp[Array.getD,hjl,this]
 done:=λs Q E st hQ=>pT hh st.2.1 st.1 st.2.2 QO hlt (λj e hj=>absurd hj (by simp)) (λ_ h' sb=>hQ h' s.toks λb o hb e=>sb b o (λz=>hb (by simp[z])) e)
 self:=λ_ _ _ _ st hQ=>m8 st.2.1 hQ
end
end L2
end
section
namespace L2
open PySem PyProof.Rows
section
variable {prog:Program} {w:World} {A:Around} {E:Value->Shared->Prop} {s:Shared}
theorem Cm{ep:Nat}{ks:List Int}(S:eO prog w s.heap a o es ep t ks)(h:Q (!rG w&&(!t.plain&&decide (es.size>1))) s):wpAny (model prog w) A (setDrawn a) Q E s:=by
 unfold setDrawn;refine wpAny_bind (wpAny_setState_of S.at_ S.dat S.tab.fit ?_);dsimp only;exact wpAny_bind (kJ (wpAny_pure h))
theorem vq{ep:Nat}{ks:List Int}(S:eO prog w s.heap a o es ep t ks)(h:Q ep s):wpAny (model prog w) A (setEpoch a) Q E s:=wpAny_setEpoch_of S.at_ S.dat S.tab.fit h
theorem Cn(hh:A.handled=none){ep:Nat}{ks:List Int}(S:eO prog w s.heap a o es ep t ks)
  (hQ:∀(h':Heap) d (I:Addr) (fp:List Addr) (L:List (Int×Value)) (St:Nat->Heap->Prop),L.Perm es.toList->Walks prog w A I fp [I] L.length (PL L) St->St 0 h'->s.heap.objs.size<=I->I<h'.objs.size->(∀b∈fp,b=a\/s.heap.objs.size<=b)->(∀b o,s.heap.get? b=some o->h'.get? b=some o)->Q (.ref I) { s with heap:=h',drawn:=d }) :
  wpAny (model prog w) A (pyIter (.ref a)) Q E s:=by
 have hT:s.TypeIs (.ref a) "set":=⟨o,S.at_,S.ex.1⟩;have hlt:a<s.heap.objs.size:=lt_size S.at_;refine wpAny_pyIter_slot hT PySem.F.slot_set_iter (wpAny_call_entry PySem.F.slot_set_iter hT SI.yc ?_ (PySem.F.args_set_iter_1 _));unfold Builtin.«frozenset.__iter__» Builtin.Frozenset.slot0 Builtin.Frozenset.sizeOf;refine wpAny_bind (wpAny_bind (wpAny_pure (wpAny_pure ?_)));refine wpAny_bind (wpAny_bind (iB S.at_ S.dat S.tab.fit (wpAny_pure ?_)));refine wpAny_bind (Cm S ?_);cases hd:(!rG w&&(!t.plain&&decide (es.size>1))) with
 | false =>
  simp only[false_eq_true,↓reduceIte];refine wpAny_bind (wpAny_pure ?_);refine wpAny_bind (vq S ?_);refine wpAny_bind (wpAny_newObj_type (wpAny_pure ⟨_,rfl,"set_iterator",_,⟨_,get?_push_size _ rfl,rfl⟩,SI.slot_next.lookup,?_⟩));have e:s={ s with drawn:=s.drawn }:=by cases s;rfl
  have Wn:∀b∈[s.heap.objs.size,a],b=a\/s.heap.objs.size<=b:=λb hb=>by
   simp only[mem_cons,not_mem_nil,or_false] at hb
   rcases hb with rfl|rfl
   ·exact .inr (le_refl _)
   ·exact .inl rfl
  have sz:s.heap.objs.size<(s.heap.push { cls:=.type "set_iterator",data:=.fields ([rawInt 0,rawInt 0,.ref a,rawInt es.size,rawInt ep]:List Value).toArray }).objs.size:=by rw[size_push];exact lt_succ_self _
  cases hb:rG w with
  | true =>exact hQ _ s.drawn _ _ _ _ (sy _ _ 0 es.toList #[] (by simp)) (AI hh (ne_of_lt hlt) hb) ⟨S.keep λo e=>get?_push_of_some _ e,⟨_,get?_push_size _ rfl,rfl,rfl⟩⟩ (le_refl _) sz Wn λb o e=>get?_push_of_some _ e
  | false =>rw[hb] at hd;exact hQ _ s.drawn _ _ _ _ (List.Perm.refl _) (AH hh (ne_of_lt hlt) hb (by simpa using hd)) ⟨S.keep λo e=>get?_push_of_some _ e,⟨_,get?_push_size _ rfl,rfl,rfl⟩⟩ (le_refl _) sz Wn λb o e=>get?_push_of_some _ e
 | true =>
  simp only[↓reduceIte];refine wpAny_bind (zc es.size (List.range es.size) s _ (by simp) λps d pp=>?_);refine wpAny_bind ?_;simp only[newTuple];refine wpAny_newObj_type ?_ (by show (toArray _).size<=sizeLine;rw[size_toArray,length_map,pp.length_eq,length_range];exact fits_of_scanBound S.tab.few);have S1:eO prog w (s.heap.push { cls:=.type "tuple",data:=.seq (ps.map λ(i:Nat)=>rawInt i).toArray }) a o es ep t ks:=S.keep λo e=>get?_push_of_some _ e;refine wpAny_bind (vq S1 ?_);refine wpAny_bind (wpAny_newObj_type (wpAny_pure ⟨_,rfl,"set_iterator",_,⟨_,get?_push_size _ rfl,rfl⟩,SI.slot_next.lookup,?_⟩));have hpl:∀j∈ps,j<es.size:=λj hj=>by simpa using pp.mem_iff.mp hj
  have perm:(ps.map λj=>es.getD j (0,Value.none)).Perm es.toList:=by
   have e2:(List.range es.size).map (λj=>es.getD j (0,Value.none))=es.toList:=by
    apply ext_getElem
    ·simp
    ·intro i h1 h2
     have hi:i<es.size:=by simpa using h2
     simp[Array.getD,hi]
   rw[<-e2];exact pp.map _
  have z1:(s.heap.push { cls:=.type "tuple",data:=.seq (ps.map λ(i:Nat)=>rawInt i).toArray }).objs.size=s.heap.objs.size+1:=size_push _ _;have W:=yd (prog:=prog) (w:=w) (A:=A) (o:=o) (ep:=ep) (t:=t) (ks:=ks) hh (I:=s.heap.objs.size+1) (a:=a) (td:=s.heap.objs.size) (oT:={ cls:=.type "tuple",data:=.seq (ps.map λ(i:Nat)=>rawInt i).toArray }) (es:=es) (c:=0) (ps:=ps) (ne_of_lt (lt_succ_of_lt hlt)) (ne_of_lt (lt_succ_self _)) hpl rfl;rw[show ps.length=(ps.map λj=>es.getD j (0,Value.none)).length by simp] at W;rw[z1];refine hQ _ d _ _ _ _ perm W ⟨S1.keep λo e=>get?_push_of_some _ e,⟨{ cls:=.type "set_iterator",data:=.fields ([.ref s.heap.objs.size,rawInt 0,.ref a,rawInt es.size,rawInt ep]:List Value).toArray },?_,rfl,rfl⟩,get?_push_of_some _ (get?_push_size _ rfl)⟩ (le_succ _) ?_ ?_ λb o e=>get?_push_of_some _ (get?_push_of_some _ e)
  ·rw[<-z1];exact get?_push_size _ rfl
  ·rw[size_push,z1];exact lt_succ_self _
  ·intro b hb
   simp only[mem_cons,not_mem_nil,or_false] at hb
   rcases hb with rfl|rfl|rfl
   ·exact .inr (le_succ _)
   ·exact .inl rfl
   ·exact .inr (le_refl _)
end
end L2
end
section
namespace L2
open PySem PyProof.Rows
section
variable {prog:Program} {w:World} {A:Around} {E:Value->Shared->Prop} {s:Shared}
theorem Co(hT:s.TypeIs (.ref r) "set")(h:Q false s):wpAny (model prog w) A (Builtin.List.listLengthHint (.ref r)) Q E s:=by
 unfold Builtin.List.listLengthHint;refine wpAny_bind (wpAny_specialOf hT PySem.F.slot_set_len.lookup ?_);generalize hid:("set.__len__":String)=Ym
 wp_delta
 rw[show splitId Ym=some ("set","__len__") from by subst hid;decide +kernel];subst hid;refine wpAny_bind (wpAny_isInstance (T:="set") (b:=true) hT sub_set_self ?_);refine wpAny_ite_split (λz=>absurd z (by decide)) (λ_=>?_);refine wpAny_ite_split (λ_=>?_) (λz=>absurd (by decide +kernel) z);exact wpAny_bind (wpAny_typeOf hT (wpAny_pure h))
theorem vv(hh:A.handled=none){ep:Nat}{ks:List Int}(S:eO prog w s.heap a o es ep t ks)
  (h:∀(h':Heap) (tk:Nat) d (L:List (Int×Value)),(∀b o,s.heap.get? b=some o->h'.get? b=some o)->s.heap.objs.size<h'.objs.size->L.Perm es.toList->R (L.map (·.2)) { s with heap:=h',toks:=tk,drawn:=d }) :
  wpAny (model prog w) A (collect (.ref a)) R E s:=by
 have hlt:a<s.heap.objs.size:=lt_size S.at_;unfold collect;refine wpAny_bind (wpAny_runValue (codeAny_builtin entry_proto_collect' ?_));rw[Around.under_plainId PySem.F.plain_proto_collect _];show wpAny _ A.in1 (newList [] >>= λl=>again (.builtin "list.__iadd__" ⟨[l,.ref a],[]⟩)) _ _ s;refine wpAny_bind (wpAny_newObj_type ?_);refine wpAny_pure ⟨plainId_quiet PySem.F.plain_list_iadd _,codeAny_builtin entry_list_iadd' ?_⟩;rw[Around.under_plainId PySem.F.plain_list_iadd _]
 let s1:Shared:={ s with heap:=s.heap.push { cls:=.type "list",data:=.seq ([]:List Value).toArray } }
 have l1:s1.heap.get? s.heap.objs.size=some { cls:=.type "list",data:=.seq #[] }:=get?_push_size _ rfl;have S1:eO prog w s1.heap a o es ep t ks:=S.keep λo e=>get?_push_of_some _ e;have z1:s1.heap.objs.size=s.heap.objs.size+1:=size_push _ _;have hT:s1.TypeIs (.ref a) "set":=⟨o,S1.at_,S1.ex.1⟩;show wpAny _ A.in1 (Builtin.List.listExtendWith (.ref s.heap.objs.size) (.ref a) (.ref s.heap.objs.size)) _ _ s1;unfold Builtin.List.listExtendWith;refine wpAny_bind (wpAny_typeOf hT ?_);have n1:Builtin.List.listSameRef (.ref s.heap.objs.size) (.ref a)=false:=by simp[Builtin.List.listSameRef,ne_of_gt hlt]
 simp only[n1,show (Value.type "set" == Value.type "list")=false by decide,show (Value.type "set" == Value.type "tuple")=false by decide,Bool.or_false,false_eq_true,if_false];refine wpAny_bind (Cn (A:=A.in1) (by simp[hh]) S1 λh2 d I fp L St perm W st zI zI2 hfp k2=>?_);have l2:h2.get? s.heap.objs.size=some { cls:=.type "list",data:=.seq #[] }:=k2 _ _ l1;have nfp:s.heap.objs.size∉fp:=λz=>by
  rcases hfp _ z with e|e
  ·exact absurd e (ne_of_gt hlt)
  ·rw[z1] at e;exact absurd e (Nat.not_succ_le_self _)
 have hl:L.length<=sizeLine:=by rw[perm.length_eq,length_toList];exact fits_of_scanBound S.tab.few
 have key:∀(hp:Heap) (c₁:Nat) (Rr:Result->Shared->Prop),St 0 hp->(∀b o,b≠s.heap.objs.size->h2.get? b=some o->hp.get? b=some o)->hp.get? s.heap.objs.size=some { cls:=.type "list",data:=.seq #[] c₁ } ->
   (∀(s':Shared) (acc:Array Value) (c:Nat),s'.heap.get? s.heap.objs.size=some { cls:=.type "list",dict:=none,data:=.seq acc c,slots:=#[] }->R acc.toList s'->Rr (.ok (.ret (.ref s.heap.objs.size))) s') ->
   codeAny (model prog w) A (.builtin "list.extend.loop" ⟨[.ref s.heap.objs.size,.ref I,.ref s.heap.objs.size],[]⟩) Rr { s1 with heap:=hp,drawn:=d }:=by
  intro hp c₁ Rr hst hk hS hR;refine codeAny_extend_loopS W.toS hl s.heap.objs.size nfp (.ref s.heap.objs.size) L.length 0 _ #[] c₁ rfl (zero_le _) hst hS (ItemsOf.nil _) λs' acc c hm hS' hacc=>?_;refine hR s' acc c hS' ?_;have ea:acc.toList=L.map (·.2):=by
   apply ext_getElem
   ·rw[length_toList,hacc.1,length_map]
   ·intro j h1 h2
    have hj:j<acc.size:=by simpa using h1
    obtain⟨e,he,hv⟩:=hacc.2 j acc[j] (Array.getElem?_eq_getElem hj);rw[Array.getElem_toList,hv,getElem_map];obtain⟨hj2,e2⟩:=List.getElem?_eq_some_iff.mp he;rw[e2]
  rw[ea,Moved.eq_with hm];refine h s'.heap s'.toks d L (λb o e=>?_) (lt_size hS') perm;have hb:b<s.heap.objs.size:=lt_size e;refine hm.heap b o (λz=>?_) (hk b o (ne_of_lt hb) (k2 b o (get?_push_of_some _ e)))
  rcases mem_cons.mp z with z|z
  ·exact absurd z (ne_of_lt hb)
  ·rw[mem_singleton] at z;rw[z] at hb;rw[z1] at zI;exact absurd (lt_of_lt_of_le hb (Nat.le_of_succ_le zI)) (lt_irrefl _)
 have fin:∀(s':Shared) (acc:Array Value) (c:Nat),s'.heap.get? s.heap.objs.size=some { cls:=.type "list",dict:=none,data:=.seq acc c,slots:=#[] }->R acc.toList s'->wpAny (model prog w) A (load s.heap.objs.size >>= λob=>(match ob.data with|.seq xs _=>pure xs.toList|_=>unsupported "internal:collect")) R E s':=λs' acc c e q=>wpAny_bind (wpAny_load e (wpAny_pure q));refine wpAny_bind (wpAny_holding (Co ⟨o,k2 _ _ S1.at_,S1.ex.1⟩ ?_));refine wpAny_ite_split (λ_=>?_) (λ_=>wpAny_pure ⟨plainId_quiet PySem.F.plain_extend_loop _,key _ 0 _ st (λb o _ e=>e) l2 fin⟩);refine wpAny_bind (wpAny_rule ?_);refine wpAny_bind ?_;show wpAny _ _ (updateSeq s.heap.objs.size (·.push .none) >>= λ_=>updateSeq s.heap.objs.size (·.pop)) _ _ _;refine wpAny_bind (wpAny_updateSeq l2 rfl ?_);have l3:=get?_update_self (Obj.mapSeq (·.push Value.none)) l2 rfl;refine wpAny_updateSeq (hz:=by seq_fits) l3 rfl ?_;have l4:=get?_update_self (Obj.mapSeq (·.pop)) l3 rfl;have oth:∀b o,b≠s.heap.objs.size->h2.get? b=some o->((h2.update s.heap.objs.size (Obj.mapSeq (·.push Value.none))).update s.heap.objs.size (Obj.mapSeq (·.pop))).get? b=some o:=λb o hb e=>(get?_update_other _ _ (Ne.symm hb)).trans ((get?_update_other _ _ (Ne.symm hb)).trans e);exact wpAny_pure ⟨plainId_quiet PySem.F.plain_extend_loop _,key _ _ _ (W.frame 0 _ _ st λb hb o e=>oth b o (λz=>nfp (z▸hb)) e) oth l4 fin⟩
end
end L2
end
section
namespace L2
open PySem PyProof.Rows
theorem vz:∀(ks ns:List Int),ks.Nodup->(∀k∈ks,k∈ns)->ks.length=ns.length->ks.Perm ns
 | [],ns,_,_,h=>by
  have:ns=[]:=List.eq_nil_of_length_eq_zero h.symm;subst this;exact List.Perm.refl _
 | k::ks,ns,nd,hs,hl=>by
  have hk:=hs k mem_cons_self;have Wo:=nodup_cons.mp nd;have p:=List.perm_cons_erase hk;refine(List.Perm.cons k (vz ks (ns.erase k) Wo.2 (λx hx=>?_) ?_)).trans p.symm
  ·exact(List.mem_erase_of_ne λz=>Wo.1 (by rw[<-z];exact hx)).mpr (hs x (mem_cons_of_mem _ hx))
  ·rw[List.length_erase_of_mem hk];simp only[length_cons] at hl;omega
noncomputable def vA:Value->Int
 | .int i _=>i
 | _=>0
section
variable {prog:Program} {w:World} {A:Around} {E:Value->Shared->Prop} {s:Shared}
theorem pU:∀{L:List (Int×Value)},ElemsOf (intKind prog w) L->IntsAre (L.map (·.2)) (L.map λe=>vA e.2)
 | [],_=>.nil
 | (h,v)::L,el=>by
  obtain⟨⟨k,hk,_⟩,_⟩:=el _ mem_cons_self;obtain⟨t,e⟩:=Value.isInt_shape (k:=k) (v:=v) hk;subst e;exact .cons k t (pU λx hx=>el x (mem_cons_of_mem _ hx))
theorem Cp{h:Heap}{a:Addr}{o:Obj}{es:Array (Int×Value)}{ep:Nat}{t:SetTable}{ks:List Int}(S:eO prog w h a o es ep t ks){L:List (Int×Value)}(p:L.Perm es.toList):(L.map λe=>vA e.2).Perm ks:=by
 refine(vz ks _ S.Wi (λk hk=>?_) ?_).symm
 ·obtain⟨e,he,q⟩:=(S.mem k).mp hk;obtain⟨t',ev⟩:=Value.isInt_shape (k:=k) (v:=e.2) q;exact mem_map.mpr ⟨e,p.mem_iff.mpr he,by rw[ev];rfl⟩
 ·have:=S.num;rw[length_map,p.length_eq,length_toList];exact this.symm
theorem ye(hh:A.handled=none){ep:Nat}{ks:List Int}(S:eO prog w s.heap a o es ep t ks)(h64:ks.length<64)
  (hQ:∀(h':Heap) (tk:Nat) d (D:Addr) (out:List Value) (e:Nat),(∀b o,s.heap.get? b=some o->h'.get? b=some o)->s.heap.objs.size<=D->h'.get? D=some (seqObj "list" out.toArray e)->IntsAre out (PySem.W.sortI ks)->Q (.ref D) { s with heap:=h',toks:=tk,drawn:=d }) :
  wpAny (model prog w) A (call (.builtin "sorted") [.ref a]) Q E s:=by
 refine oB.gF (O:=oB.pN) (vv (A:=A.in1) (by simp[hh]) S λh' tk d L hk hz perm=>?_);have el:ElemsOf (intKind prog w) L:=S.el.perm perm;have hI:=pU el;have pk:=Cp S perm;have hl:(L.map (·.2)).length<64:=by rw[length_map];have:=pk.length_eq;rw[length_map] at this;omega
 refine⟨hl,λi=>(L.map λe=>vA e.2).getD i 0,λh2 h6 _=>oB.pO hI h2,λp h'' outs k2 he=>?_⟩;obtain⟨e,he⟩:=he;have lv:(L.map (·.2)).length=(L.map λe=>vA e.2).length:=by rw[length_map,length_map]
 have mem:∀i∈p,i<L.length:=λi hi=>by have:=outs.perm.mem_iff.mp hi;simpa using this
 have pn:(p.map λi=>(L.map λe=>vA e.2).getD i 0).Perm ks:=by have:=outs.perm.map λi=>(L.map λe=>vA e.2).getD i 0;rw[lv,oB.cR] at this;exact this.trans pk
 have up:(p.map λi=>(L.map λe=>vA e.2).getD i 0).Pairwise (· <= ·):=by refine List.Pairwise.imp (R:=oB.pN.kle) (λ{x y:Int} hxy=>?_) outs.up;have hxy:(decide (y<x):Bool)=false:=hxy;exact not_lt.mp (of_decide_eq_false hxy)
 have es:=eq_sortI pn up;refine hQ h'' tk d h'.objs.size _ e (λb o z=>k2 b o (hk b o z)) (le_of_lt hz) he ?_;rw[<-es];clear he es up pn outs
 induction p with
 | nil=>exact .nil
 | cons i r ih =>
  have hi:=mem i mem_cons_self;have hi2:i<(L.map (·.2)).length:=by simpa using hi
  obtain⟨t',ev⟩:=IntsAre.int_at hI i _ (List.getElem?_eq_getElem hi2);rw[map_cons,map_cons];have e1:(L.map (·.2)).getD i Value.none=.int ((L.map λe=>vA e.2).getD i 0) t':=by rw[<-ev];simp[List.getD,List.getElem?_eq_getElem hi]
  rw[e1];exact .cons _ t' (ih λj hj=>mem j (mem_cons_of_mem _ hj))
end
end L2
end
section
namespace L2
open PySem PySem.Spec PyProof.Rows
section
variable {X:Cx}
theorem Inv.draws(I:Inv X pins σ H s)(d:Drawn):Inv X pins σ H { s with drawn:=d }:=⟨I.ok,I.os,I.bare,I.base,I.loc,I.cell,I.free,I.gX,I.pin,I.hok,I.len⟩
noncomputable def Yn(K:PySem.W.Frag)(te:TE):TE:=λσ H Q=>te σ H λx H1=>∃p ns,x=.ref p/\gn K H1 p (ns.map V.int)/\ns.length<64/\∀l,H1 l=none->Q (.ref l) (upd H1 l (.lst ((PySem.W.sortI (dZ [] ns)).map V.int)))
theorem vB:∀(ns ks:List Int),(dZ ks ns).length<=ks.length+ns.length
 | [],ks=>by simp[dZ]
 | n::ns,ks=>by
  rw[dZ,length_cons];have:=vB ns (eV ks n);have:=pR ks n;omega
theorem FO{p1 p2 pos1 pos2:Pos}(hh:X.A.handled=none)(hg:Gl X "sorted")(hm:X.mg "sorted" = none)(Yo:Gl X "set")(hm2:X.mg "set" = none)(hv:bootBuiltins "sorted" = some (.builtin "sorted"))(hv2:bootBuiltins "set" = some (.type "set"))(he:PE X e te)
  (hs:starEach [e] X.env=[(false,eval e X.env)]):PE X (.Call (.Name "sorted" p1) [.Call (.Name "set" p2) [e] [] pos2] [] pos1) (Yn X.K te):=by
 intro pins s σ H Q I h;refine wpAny_Call_Name_kw (iy I hg hm hv ?_ (by decide) (by decide));refine PyProof.Rows.callWith_builtin1 ?_ rfl rfl;show wpAny _ _ (spliced [(false,eval (.Call (.Name "set" p2) [e] [] pos2) X.env)]) _ _ s;refine Calls.spliced_cons ?_;refine wpAny_Call_Name_kw (iy I Yo hm2 hv2 ?_ (by decide) (by decide));refine PyProof.Rows.callWith_type1 ?_ hs rfl;show wpAny _ _ (spliced (backTo pos2 (starEach [e] X.env))) _ _ s;rw[hs];show wpAny _ _ (spliced [(false,eval e X.env)]) _ _ s;refine Calls.spliced_cons (cC (he pins s σ H _ I h) λu s1 ⟨x,H1,I1,r1,p,ns,ex,hq,h64,q⟩=>Calls.spliced_nil ?_);subst ex;cases r1;obtain⟨its,rv,pl,hz⟩:=I1.list hq;have hi:=intsAre_of rv;have hl:=hi.length;refine vp hh pl.isList (by simpa using hi) (by show its.toArray.size+1<4096;rw[size_toArray,hl];omega) λh2 tk S k2=>?_;obtain⟨o,es,ep,t,S⟩:=S;refine Calls.spliced_nil ?_;have hk:=vB ns [];have Sq:(dZ [] ns).length<64:=by simp at hk;omega
 refine ye (s:={ s1 with heap:=h2,toks:=tk }) hh S Sq λh3 Yp d D out e k3 zD eD hout=>?_;have hD:s1.heap.objs.size<=D:=le_trans (le_of_lt (lt_size S.at_)) zD;have hn:H1 D=none:=I1.hok.fresh hD;refine⟨.ref D,_,(I1.draws d).laid (t':=Yp) (λb o z=>k3 b o (k2 b o (lt_size z) z)) hD (show bE X.prog X.w _ _ _ (.lst ((PySem.W.sortI (dZ [] ns)).map V.int)) from⟨?_,out,e,iT hout,eD⟩),rfl,q _ hn⟩;rw[length_map,(sortI_perm _).length_eq,sizeLine_eq];omega
end
end L2
end
section
namespace L2
open PySem PySem.Spec PyProof.Rows PySem.W
section
variable {X:Cx}
noncomputable def Wq(to:TE):TE:=λσ H Q=>to σ H λx H1=>∃a kvs,x=.ref a/\H1 a=some (.dK kvs)/\∀l,H1 l=none->Q (.ref l) (upd H1 l (.lst (kvs.map λkv=>kV kv.1)))
theorem Cq(e:(aQ P w).is k u=true):RelV (kV k) u:=by
 rw[xu] at e
 rcases bO e with ⟨i,t,rfl,rfl⟩|⟨x,t,rfl,rfl⟩
 ·exact⟨t,rfl⟩
 ·exact⟨t,rfl⟩
theorem m9:∀{kvs:List (Key×V)} {vs:List (Key×Value)} {out:List Value},KV kvs vs->out.length=vs.length->(∀(j:Nat) (v:Value),out[j]?=some v->∃(k:Key) (x:Value),vs[j]?=some (k,x)/\(aQ P w).is k v=true)->Vals (kvs.map λkv=>kV kv.1) out
 | [],vs,out,r,hl,h=>by
  cases r;cases out with
  | nil=>exact .nil
  | cons _ _=>simp at hl
 | p::kvs,vs,out,r,hl,h=>by
  cases r with
  | @cons _ q _ qs hq t =>
   cases out with
   | nil=>simp at hl
   | cons v out =>
    obtain⟨k,x,e1,e2⟩:=h 0 v rfl;simp at e1;refine .cons ?_ (m9 t (by simpa using hl) λj u hu=>h (j+1) u hu);have:p.1=k:=by rw[hq.1,e1]
    show RelV (kV p.1) v;rw[this];exact Cq e2
end
end L2
end
section
namespace L2
open PySem PySem.Spec PyProof.Rows PySem.W
section
variable {X:Cx} {pins:List (Addr×Obj)} {σ:St} {H:Hp} {s:Shared} {a:Addr} {kvs:List (Key×V)} {k:Key} {u r:Value} {z:V} {A:Around} {E:Value->Shared->Prop}
end
end L2
end
section
namespace L2
open PySem PySem.Spec PyProof.Rows
section
open PySem.AutoSeq1 (wpAny_loadPart')
open PySem.MeetsSeq PySem.MeetsSeq3
end
end L2
end
section
namespace L2
open PySem PySem.Spec PyProof.Rows PySem.W
section
variable {X:Cx}
end
end L2
end
section
namespace L2
open PySem PySem.Spec PyProof.Rows PySem.W
section
variable {X:Cx}
end
end L2
end
section
namespace L2
open PySem PySem.Spec PyProof.Rows PySem.W
section
variable {X:Cx}
noncomputable def Wr(to:TE):TE:=λσ H Q=>to σ H λx H1=>∃(a:Addr) (kvs:List (Key×V)) (ns:List Int),x=.ref a/\H1 a=some (.dK kvs)/\kvs.map (·.1)=ns.map Sum.inl/\ns.length<64/\∀l,H1 l=none->Q (.ref l) (upd H1 l (.lst ((PySem.W.sortI ns).map V.int)))
theorem sG{ns:List Int}(hI:IntsAre vs ns):∀(p:List Nat),(∀i∈p,i<ns.length)->IntsAre (p.map λi=>vs.getD i Value.none) (p.map λi=>ns.getD i 0)
 | [],_=>.nil
 | i::r,mem=>by
  have hi:=mem i mem_cons_self;have hi2:i<vs.length:=by rw[hI.length];exact hi
  obtain⟨t',ev⟩:=IntsAre.int_at hI i _ (List.getElem?_eq_getElem hi2);rw[map_cons,map_cons];have e1:vs.getD i Value.none=.int (ns.getD i 0) t':=by rw[<-ev];simp[List.getD,List.getElem?_eq_getElem hi2]
  rw[e1];exact .cons _ t' (sG hI r λj hj=>mem j (mem_cons_of_mem _ hj))
end
end L2
end
section
namespace L2
open PySem PySem.Spec PyProof.Rows
end L2
end
section
namespace L2
open PySem PySem.Spec PyProof.Rows
section
variable {X:Cx}
theorem ng
  (hbase:attributeBase o m env (eval o env)=eval o env)
  (hfew:((backTo cp (starEach args env)).all (λx=>!x.1)&&(backToKw cp (keywordEach [] env)).all (λx=>x.1.isSome)
   && decide (args.length+([]:List Keyword).length+(if ([]:List Keyword).isEmpty then 0 else 1)<30))=true) (hline:(ap.endLine==cp.line)=true)
  (h:wpAny M A (eval o env) (λov s₁=>∀pl,wpAny M A (getMethod ov m pl) (λfx s₂=>wpAny M A (callWith cp fx.1 fx.2 (backTo cp (starEach args env)) (backToKw cp (keywordEach [] env))) Q E s₂) E s₁) E s) :
  wpAny M A (eval (.Call (.Attribute o m ap) args [] cp) env) Q E s:=by
 rw[arm_eval_Call,hbase];refine wpAny_bind (wpAny_mono h (λov s₁ h₁=>?_) λ_ _ e=>e);refine wpAny_bind (wpAny_standAt ?_);have N3:methodCallForm (args.length+([]:List Keyword).length) (backTo cp (starEach args env)) (backToKw cp (keywordEach [] env))=true:=hfew;have hpos:methodCallPos true o env ap cp=pure cp:=by unfold methodCallPos;simp[hline]
 unfold methodCall;rw[N3];refine wpAny_bind (wpAny_holding (wpAny_mono (h₁ _) (λfx s₂ h₂=>?_) λ_ _ e=>e));exact wpAny_bind (wpAny_of_eq hpos h₂)
theorem pe_mthD{k:Nat}(he:PE X o ta)(ha:PA X (l::ls) t)(hbase:attributeBase o m X.env (eval o X.env)=eval o X.env)
  (hfew:((backTo cp (starEach (l::ls) X.env)).all (λx=>!x.1)&&(backToKw cp (keywordEach [] X.env)).all (λx=>x.1.isSome)
   && decide ((l::ls).length+([]:List Keyword).length+(if ([]:List Keyword).isEmpty then 0 else 1)<30))=true) (hline:(ap.endLine==cp.line)=true) (hr:di k X.A)
  (st:starEach (l::ls) X.env=(false,eval l X.env)::starEach ls X.env) (an:(backTo cp (starEach ls X.env)).any (·.1)=false) :
  PE X (.Call (.Attribute o m ap) (l::ls) [] cp) (λσ H Q=>ta σ H λx H1=>∃a C dx fs f fd ps sp,x=.ref a/\H1 a=some (.ins C dx fs)/\Aj X.K C/\Meth X.K C m f/\fs.lookup m=none/\Binds X.K fd ps [] /\
   fE X.prog X.w X.K X.mg X.base xr k f fd ps sp/\t σ H1 λvs H2=>sp (x::vs) H2 Q E0):=by
 intro pins s σ H Q I h;refine ng hbase hfew hline (cC (he pins s σ H _ I h) λu s1 aF pl=>?_);obtain⟨x,H1,I1,rx,a,C,dx,fs,f,fd,ps,sp,ex,ea,c,hm,ln,hb,F,q⟩:=aF;subst ex;obtain rfl:u=Value.ref a:=rx;refine pe I1 ea c hm ln ?_;refine callWith_K (first:=[.ref a]) (h₀:=X.base) I.ok.mod.MJ hm.kp (cC (ha cp pins s1 σ H1 _ I1 q) λus s2 ⟨vs,H2,I2,r,q2⟩=>⟨I2.jI,?_⟩) st an;exact pq (us:=.ref a::us) (vs:=.ref a::vs) (qY:=[]) (ds:=[]) F hr hb .nil pJ I2 (.cons rfl r) (by rw[append_nil];exact q2)
theorem pe_mth0{k:Nat}(he:PE X o ta)(hbase:attributeBase o m X.env (eval o X.env)=eval o X.env)
  (hline:(ap.endLine==cp.line)=true) (hr:di k X.A) :
  PE X (.Call (.Attribute o m ap) [] [] cp) (λσ H Q=>ta σ H λx H1=>∃a C dx fs f fd ps sp,x=.ref a/\H1 a=some (.ins C dx fs)/\Aj X.K C/\Meth X.K C m f/\fs.lookup m=none/\Binds X.K fd ps [] /\
   fE X.prog X.w X.K X.mg X.base xr k f fd ps sp/\sp [x] H1 Q E0):=by
 intro pins s σ H Q I h;refine ng hbase rfl hline (cC (he pins s σ H _ I h) λu s1 aF pl=>?_);obtain⟨x,H1,I1,rx,a,C,dx,fs,f,fd,ps,sp,ex,ea,c,hm,ln,hb,F,q⟩:=aF;subst ex;obtain rfl:u=Value.ref a:=rx;refine pe I1 ea c hm ln ?_;exact callWith_K0 (first:=[.ref a]) I1.jI hm.kp (pq (us:=[.ref a]) (vs:=[.ref a]) (qY:=[]) (ds:=[]) F hr hb .nil pJ I1 (.cons rfl .nil) q)
theorem J7:jP X (compareOp .Is) (λx y H Q=>∃b c,x=.bl b/\y=.bl c/\Q (.bl (b==c)) H):=by
 intro pins s σ H x y v u Q I rx ry h;obtain⟨b,c,rfl,rfl,q⟩:=h;cases rx;cases ry;refine wpAny_is_plain rfl (mT I q ?_);cases b<;>cases c<;>rfl
theorem FP:jP X (compareOp .IsNot) (λx y H Q=>∃b c,x=.bl b/\y=.bl c/\Q (.bl (!(b==c))) H):=by
 intro pins s σ H x y v u Q I rx ry h;obtain⟨b,c,rfl,rfl,q⟩:=h;cases rx;cases ry;refine wpAny_isNot_plain rfl (mT I q ?_);cases b<;>cases c<;>rfl
end
end L2
end
section
namespace L2
open PySem PySem.Spec PyProof.Rows PySem.W
section
variable {X:Cx}
theorem N4{t':Nat}(I:Inv X pins σ H s)(k:∀b u,s.heap.get? b=some u->h'.get? b=some u)(hp:s.heap.get? a=none)(hn:H a=none)(new:bE X.prog X.w (upd H a o) h' a o) :
  Inv X pins σ (upd H a o) { s with heap:=h',toks:=t' }:=by
 refine I.un ⟨λb u q _ _ _=>k b u q,λb u q _ _ _=>⟨u.slots,k b u q⟩,λb u q n _=>?_,λb u q _=>⟨u,k b u q⟩,λb xs q=>by rw[au (aI q hn)];exact q,λb u xs q=>by rw[au (aI q hn)];exact q,λb ps q=>⟨#[],by rw[au (aI q hn),q];simp⟩⟩ λb u e=>?_
 ·rw[au λz=>by rw[z,hp] at q;cases q];exact n
 ·by_cases hb:b=a
  ·subst hb;rw[aO] at e;cases e;exact new
  ·rw[au hb] at e;exact(I.hok b u e).stay (λc v _ q=>k c v q) (λc q=>by rw[au (aI q hn)];exact q) λc xs q=>by rw[au (aI q hn)];exact q
noncomputable def Yq(K:PySem.W.Frag)(te:TE)(ts:TO):TE:=λσ H Q=>te σ H λx H1=>ts σ H1 λi H2=>i=some (-1)/\∃a xs,x=.ref a/\gn K H2 a xs/\∀p,H2 p=none->Q (.ref p) (upd H2 p (.lst xs.reverse))
theorem vC:∀{xs:List V} {its:List Value},Vals xs its->Vals xs.reverse its.reverse
 | [],_,h=>by cases h;exact .nil
 | x::r,_,h=>by
  cases h with
  | cons a t =>rw[reverse_cons,reverse_cons];exact Vals.append (vC t) (.cons a .nil)
theorem J8{e st:Expr}{te:TE}{ts:TO}{p2 pos:Pos}(he:PE X e te)(hs:PO X (some st) ts):PE X (.Subscript e (.Slice none none (some st) p2) pos) (Yq X.K te ts):=by
 intro pins s σ H Q I h;refine Subscript_ (cC (he pins s σ H _ I h) λv s1 aF=>?_);obtain⟨x,H1,I1,r1,q1⟩:=aF;refine wpAny_Slice ?_;rw[evalPart_none];refine wpAny_pure ?_;refine wpAny_pure ?_;refine cC (hs pins s1 σ H1 _ I1 q1) λvk s3 aF=>?_;obtain⟨k,H3,I3,pk,q3⟩:=aF;obtain⟨rfl,a,xs,rfl,hx,q⟩:=q3;cases r1;have I4:Inv X pins σ H3 { s3 with heap:=s3.heap.push { cls:=.type "slice",data:=.fields #[.none,.none,vk] } }:=I3.kept (t':=s3.toks) λb ob q=>get?_push_of_some _ q;obtain⟨its,r,ht,hz⟩:=I4.list hx;have hlen:=r.length;show wpAny (model X.prog X.w) X.A (subscriptTail e (.Slice none none (some st) p2) (.ref a) (.ref s3.heap.objs.size)) (EP X pins σ Q) X.xe { s3 with heap:=s3.heap.push { cls:=.type "slice",data:=.fields #[.none,.none,vk] } };refine tail_any (ops:=[.ref a,.ref s3.heap.objs.size]) ht.isList.typeIs slot_list_getitem.lookup ?_ (by with_unfolding_all rfl);refine wpAny_getItem_list_slice ht.isList (Heap.IsSliceOf.new ..) .none .none pk (by decide) ?_ (by rw[size_toArray]<;>omega);rw[PySem.W.krv_pick];refine⟨.ref _,_,I4.laid (t':=s3.toks) (o:=.lst xs.reverse) (λb ob q=>get?_push_of_some _ q) (le_refl _) ?_,rfl,q _ (I4.hok.fresh (le_refl _))⟩;exact⟨by rw[List.length_reverse];exact hz,_,0,vC r,get?_push_size _ rfl⟩
theorem AJ(hh:X.A.handled=none)(hst:starEach [o] X.env=[(false,eval o X.env)])(hg:Gl X "list")(hm:X.mg "list" = none)(hv:bootBuiltins "list" = some (.type "list"))(ho:PE X o to):PE X (.Call (.Name "list" p) [o] [] pos) (Wq to):=by
 intro pins s σ H Q I h;refine wpAny_Call_Name_kw (iy I hg hm hv ?_ (by decide) (by decide));refine PyProof.Rows.callWith_type1 ?_ hst rfl;rw[hst];show wpAny _ _ (spliced [(false,eval o X.env)]) _ _ s;refine Calls.spliced_cons ?_;refine cC (ho pins s σ H _ I h) λu s1 aF=>?_;obtain⟨x,H1,I1,r1,a,kvs,ex,ea,q⟩:=aF;subst ex;cases r1;obtain⟨t1,t2,hd⟩:=xU I1 (.inl ⟨kvs,.inl ea⟩);obtain⟨hz,_,vs,rel,dd⟩:=vc I1.hok ea;refine Calls.spliced_nil ?_;obtain⟨ep,da⟩:=dd.dictAt;have hlen:=rel.length;refine kdl_call (kdl_dict (knd:=aQ X.prog X.w) (kvs:=vs) (ep:=ep) (d:=a) hd) hh da (by rw[<-hlen];exact hz) λh' tk acc c k2 eD hacc=>?_;have hn:H1 s1.heap.objs.size=none:=I1.hok.fresh (le_refl _);refine⟨.ref _,_,I1.laid (t':=tk) (λb o z=>k2 b o z) (le_refl _) (show bE X.prog X.w _ _ _ (.lst (kvs.map λkv=>kV kv.1)) from⟨?_,acc.toList,c,?_,?_⟩),rfl,q _ hn⟩
 ·rw[length_map];exact hz
 ·exact m9 (P:=X.prog) (w:=X.w) rel (by rw[length_toList];exact hacc.1) λj v e=>hacc.2 j v (by rw[<-getElem?_toList];exact e)
 ·first|(rw[Array.toArray_toList];exact eD)|simpa using eD
theorem AK(hh:X.A.handled=none)(hst:starEach [o] X.env=[(false,eval o X.env)])(hg:Gl X "sorted")(hm:X.mg "sorted" = none)(hv:bootBuiltins "sorted" = some (.builtin "sorted"))(ho:PE X o to):PE X (.Call (.Name "sorted" p) [o] [] pos) (Wr to):=by
 intro pins s σ H Q I h;refine wpAny_Call_Name_kw (iy I hg hm hv ?_ (by decide) (by decide));refine PyProof.Rows.callWith_builtin1 ?_ hst rfl;rw[hst];show wpAny _ _ (spliced [(false,eval o X.env)]) _ _ s;refine Calls.spliced_cons ?_;refine cC (ho pins s σ H _ I h) λu s1 aF=>?_;obtain⟨x,H1,I1,r1,a,kvs,ns,ex,ea,ens,h64,q⟩:=aF;subst ex;cases r1;obtain⟨t1,t2,hd⟩:=xU I1 (.inl ⟨kvs,.inl ea⟩);obtain⟨hz,_,vs,rel,dd⟩:=vc I1.hok ea;refine Calls.spliced_nil ?_;obtain⟨ep,da⟩:=dd.dictAt;have hlen:=rel.length;refine oB.gF (O:=oB.pN) (kdu_collect (A:=X.A.in1) (kdl_dict (knd:=aQ X.prog X.w) (kvs:=vs) (ep:=ep) (d:=a) hd) (by simp[hh]) da (by rw[<-hlen];exact hz) λh' tk acc k1 hacc=>?_);have hV:Vals (kvs.map λkv=>kV kv.1) acc.toList:=m9 (P:=X.prog) (w:=X.w) rel (by rw[length_toList];exact hacc.1) λj v e=>hacc.2 j v (by rw[<-getElem?_toList];exact e);have hk:(kvs.map λkv=>kV kv.1)=ns.map V.int:=by have:=congrArg (List.map kV) ens;rw[map_map,map_map] at this;exact this
 rw[hk] at hV;have hI:=intsAre_of hV;have lv:=hI.length;have hN:∀b o,s1.heap.get? b=some o->b≠h'.objs.size:=λb o e z=>by
  have q:=lt_size (k1 b o e);rw[z] at q;exact lt_irrefl _ q
 refine⟨by rw[lv];exact h64,λi=>ns.getD i 0,λh2 h6 _=>oB.pO hI h2,λpp h'' outs k' he=>?_⟩;obtain⟨e,he⟩:=he;have mem:∀i∈pp,i<ns.length:=λi hi=>by have:=outs.perm.mem_iff.mp hi;rw[lv] at this;simpa using this
 have pn:(pp.map λi=>ns.getD i 0).Perm ns:=by have:=outs.perm.map λi=>ns.getD i 0;rw[lv,oB.cR] at this;exact this
 have up:(pp.map λi=>ns.getD i 0).Pairwise (· <= ·):=by refine List.Pairwise.imp (R:=oB.pN.kle) (λ{x y:Int} hxy=>?_) outs.up;have hxy:(decide (y<x):Bool)=false:=hxy;exact not_lt.mp (of_decide_eq_false hxy)
 have es:=eq_sortI pn up;have hout:=sG hI pp mem;rw[es] at hout;dsimp only at k' he |-;have hl:s1.heap.get? h'.objs.size=none:=by
  cases e:s1.heap.get? h'.objs.size with
  | none=>rfl
  | some o=>exact absurd rfl (hN _ o e)
 have hn:H1 h'.objs.size=none:=(lq.kept I1.hok k1).fresh (le_refl _);refine⟨.ref h'.objs.size,_,N4 I1 (t':=tk) (λb o z=>k' b o (k1 b o z)) hl hn (show bE X.prog X.w _ _ _ (.lst ((PySem.W.sortI ns).map V.int)) from⟨?_,_,e,iT hout,he⟩),rfl,q _ hn⟩;rw[length_map,(sortI_perm _).length_eq,sizeLine_eq];omega
end
end L2
end
section
namespace L2
open PySem PySem.Spec PyProof.Rows PySem.W
section
variable {X:Cx}
theorem Inv.freeze(I:Inv X pins σ H s)(e:H a=some (.dK kvs))(ho:s.heap.get? a=some o):Inv X pins σ (upd H a (.iR o (.dK kvs))) s :=
 I.write (x:=a) (e:=a) (o:=.iR o (.dK kvs)) (h':=s.heap) (t':=s.toks) (by rw[e];trivial) (.inl rfl) (λb u _ q=>q) ⟨o,ho⟩ ⟨ho,I.hok a _ e⟩
theorem Inv.N5{pins N6:List (Addr×Obj)}{σ σ0:St}{H H0:Hp}{s s0:Shared}{kvs k0:List (Key×V)}(I0:Inv X N6 σ0 H0 s0)(e0:H0 a=some (.dK k0))(I:Inv X pins σ H s)(e:H a=some (.iR o (.dK kvs))):Inv X pins σ (upd H a (.dK kvs)) s:=by
 have nf:∀b,H b=none->b≠a:=λb z y=>by rw[y,e] at z;cases z
 refine⟨I.ok,I.os,I.bare,⟨I.base.keep,I.base.slot,λb ob q n hx=>?_,I.base.there,λb xs q=>?_,λb ob u q=>?_,λb ps q=>?_⟩,I.loc,I.cell,?_,λx c q=>?_,λp hp=>?_,λb u q=>?_,I.len⟩
 ·have z:=I.base.free b ob q n hx;rw[au (nf b z)];exact z
 ·have z:=I.base.tups b xs q;rw[au (λy=>by rw[y,e] at z;cases z)];exact z
 ·have z:=I.base.frzs b ob u q;have z0:=I0.base.frzs b ob u q;rw[au (λy=>by rw[y,e0] at z0;cases z0)];exact z
 ·obtain⟨more,z⟩:=I.base.qZ b ps q;exact⟨more,by rw[au (λy=>by rw[y,e] at z;cases z)];exact z⟩
 ·rw[au (nf _ I.free)];exact I.free
 ·rw[au (nf _ (I.gX x c q))];exact I.gX x c q
 ·obtain⟨q1,q2,q3⟩:=I.pin p hp;exact⟨q1,by rw[au (nf _ q2)];exact q2,q3⟩
 ·by_cases hb:b=a
  ·subst hb;rw[aO] at q;cases q;obtain⟨_,z⟩:=(show bE X.prog X.w H s.heap b (.iR o (.dK kvs)) from I.hok b _ e);exact z
  ·rw[au hb] at q;exact(I.hok b u q).stay (λc v _ z=>z) (λc z=>by rw[au (λy=>by rw[y,e] at z;cases z)];exact z) λc xs z=>by rw[au (λy=>by rw[y,e] at z;cases z)];exact z
noncomputable def Cr(t:TE):TE:=λσ H Q=>∃a kvs,H a=some (.dK kvs)/\t σ H λv H'=>∃o,H' a=some (.iR o (.dK kvs))/\Q v (upd H' a (.dK kvs))
theorem FQ(h:PE X e t):PE X e (Cr t):=by
 intro pins s σ H Q I hh;obtain⟨a,kvs,ea,ht⟩:=hh;exact cC (h pins s σ H _ I ht) λv s1 ⟨x,H1,I1,r1,o,e1,q⟩=>⟨x,_,Inv.N5 I ea I1 e1,r1,q⟩
noncomputable def N7(t:TS):TS:=λD σ H=>∃a kvs,H a=some (.dK kvs)/\t { D with nx:=λσ' H'=>∃o,H' a=some (.iR o (.dK kvs))/\D.nx σ' (upd H' a (.dK kvs)) } σ H
theorem FT{st:Stmt}{t:TS}(h:PS X st t):PS X st (N7 t):=by
 intro pins s σ H D I hh;obtain⟨a,kvs,ea,ht⟩:=hh;refine cC (h pins s σ H _ I ht) λf s1 q=>?_;cases f with
 | next=>obtain⟨σ1,H1,I1,o,e1,q⟩:=q;exact⟨σ1,_,Inv.N5 I ea I1 e1,q⟩
 | brk=>exact q
 | cont=>exact q
 | ret u=>exact q
noncomputable def Ws(a:Addr)(o:Obj)(kvs:List (Key×V)):It :=
 ⟨λi H=>H a=some (.iR o (.dK kvs))/\i<kvs.length,λi H x H'=>H'=H/\∃kv,kvs[i]?=some kv/\x=kV kv.1,λi H=>H a=some (.iR o (.dK kvs))/\kvs.length<=i⟩
theorem Cs:∀{kvs:List (Key×V)} {vs:List (Key×Value)} {i:Nat} {kv:Key×V},KV kvs vs->kvs[i]?=some kv->∃v,vs[i]?=some (kv.1,v)
 | [],_,_,_,_,e=>by simp at e
 | p::kvs,_,0,kv,r,e=>by
  cases r with
  | @cons _ q _ qs hq t =>simp at e;subst e;exact⟨q.2,by rw[hq.1];rfl⟩
 | p::kvs,_,i+1,kv,r,e=>by
  cases r with
  | @cons _ q _ qs hq t =>obtain⟨v,hv⟩:=Cs t (by simpa using e);exact⟨v,by simpa using hv⟩
theorem AL{P:Program}{w:World}{K:PySem.W.Frag}{tg:Expr}(a it:Addr){o:Obj}{es:Array DictEntry}{ep:Nat}{kvs:List (Key×V)}{vs:List (Key×Value)}(rel:KV kvs vs)
  (hd:o.ExactDict/\o.data=.dict es ep/\KeysOf (aQ P w) es/\Pairs (aQ P w) es.toList vs/\(vs.map (·.1)).Nodup) :
  Turn P w K tg (Ws a o kvs) [it] it (λi h=>h.IsKeyIter it a i vs.length ep) where
 mem:=by simp
 obj:=λi h st b hb=>by
  have e:b=it:=by simpa using hb
  subst e;obtain⟨o,e,c,d⟩:=st;exact⟨o,e,λv z=>by rw[d] at z;cases z⟩
 keep:=λi h h' st k=>st.at λo e=>k it (by simp) o e
 item:=by intro X hP hw hK hc i pins s σ H E I hf st hg;subst hP hw hK;obtain⟨ha,hi⟩:=hg;obtain⟨hob,_⟩:=(show bE X.prog X.w H s.heap a (.iR o (.dK kvs)) from I.hok a _ ha);have hm:s.heap.DictAt (aQ X.prog X.w) a vs ep:=⟨o,es,hob,hd⟩;obtain⟨v,hv⟩:=Cs rel (List.getElem?_eq_getElem hi);obtain⟨f0,f1,f2,f3,f4,f5⟩:=hf it (by simp);refine wpAny_pyNext_dict_item st hm hv λkey h' hkey st' sb=>?_;have I1:Inv X pins σ H { s with heap:=h' }:=I.turned (t':=s.toks) (λb o hb e=>(sb.2 b hb).trans e) f0 f1 f3 f4 f5;obtain⟨o',e,c,d⟩:=id st';exact⟨key,rfl,yQ (s:={ s with heap:=h' }) e c d (by decide) ⟨kV kvs[i].1,H,I1,Cq hkey,⟨rfl,kvs[i],List.getElem?_eq_getElem hi,rfl⟩,st',λb hb=>(hf b hb).1⟩⟩
 done:=by intro X hP hw hK hc i pins s σ H E I hf st hg;subst hP hw hK;obtain⟨ha,hi⟩:=hg;obtain⟨hob,_⟩:=(show bE X.prog X.w H s.heap a (.iR o (.dK kvs)) from I.hok a _ ha);have hm:s.heap.DictAt (aQ X.prog X.w) a vs ep:=⟨o,es,hob,hd⟩;obtain⟨f0,f1,f2,f3,f4,f5⟩:=hf it (by simp);exact wpAny_pyNext_dict_end (I.ok.hd hc) st hm (List.getElem?_eq_none (by rw[<-rel.length];exact hi)) λh' eb=>⟨rfl,I.turned (t':=s.toks) (λb o hb e=>eb b o hb e) f0 f1 f3 f4 f5⟩
 self:=λ_ _ _ _ _ st h=>wpAny_pyIter_keyiter st h
noncomputable def Ct(tl:TE):TI:=λσ H R=>tl σ H λx H1=>∃a kvs,x=.ref a/\H1 a=some (.dK kvs)/\∀o,R (Ws a o kvs) (upd H1 a (.iR o (.dK kvs)))
theorem FU(hl:PE X l tl):PI X tg l (Ct tl):=by
 intro pins s σ H R I h;refine cC (hl pins s σ H _ I h) λv s1 aF=>?_;obtain⟨x,H1,I1,r1,q1⟩:=aF;obtain⟨a,kvs,e,ea,q⟩:=q1;subst e;cases r1;obtain⟨hz,hsm,vs,rel,dd⟩:=vc I1.hok ea;obtain⟨ep,da⟩:=dd.dictAt;obtain⟨o,es,ho,r⟩:=id da;have I2:=I1.freeze ea ho;refine wpAny_pyIter_dict hsm da ?_;refine⟨s1.heap.objs.size,[s1.heap.objs.size],_,_,_,rfl,I2.kept (t':=s1.toks) λb o e=>get?_push_of_some _ e,AL a _ rel r,⟨_,get?_push_size _ rfl,rfl,rfl⟩,λb hb=>?_,q o⟩;have e:b=s1.heap.objs.size:=by simpa using hb
 subst e;exact I2.BL (le_refl _) (I2.hok.fresh (le_refl _))
noncomputable def Yr(K:PySem.W.Frag)(js:List (Option Nat))(d q:Nat):TE:=λσ H Q=>∃a kvs b ys,σ[d]?=some (some (.ref a))/\H a=some (.dK kvs)/\kvs.length<=sizeLine/\(gE js σ)[q]?=some (some (.ref b))/\gn K H b ys/\ys.all bx=true /\
 ∀D,H D=none->Q (.ref D) (upd H D (.lst ((kvs.map λkv=>kV kv.1).filter λk=>!EC k ys)))
theorem Cu{K:PySem.W.Frag}{H:Hp}{a b:Addr}{ys:List V}{u:HO}(q:gn K H b ys)(h:∀v,H a=some v->(∀xs,v≠.lst xs)/\∀o xs,v≠.iR o (.lst xs)):gn K (upd H a u) b ys:=by
 rcases q with (q|⟨o,q⟩)|q
 ·exact .inl (.inl (by rw[au (λy=>by subst y;exact(h _ q).1 _ rfl)];exact q))
 ·exact .inl (.inr ⟨o,by rw[au (λy=>by subst y;exact(h _ q).2 _ _ rfl)];exact q⟩)
 ·exact .inr q
theorem J9{K:PySem.W.Frag}{js:List (Option Nat)}{d p q:Nat}(hpq:p≠q)(hp:p<js.length){σ:St}{H:Hp}{Q:VK}(h:Yr K js d q σ H Q):Cr (vh (Ct (rm d)) js (nO p) (BO (MN (RY K true) (rm p) (rm q))) (rm p)) σ H Q:=by
 obtain⟨a,kvs,b,ys,hd,ha,hz,hb,hs,hf,hQ⟩:=h;refine⟨a,kvs,ha,.ref a,hd,a,kvs,rfl,ha,λo D hD=>?_⟩;have Ss:D≠a:=λz=>by rw[z,aO] at hD;cases hD
 have Ys:H D=none:=by rw[au Ss] at hD;exact hD
 have hs1:gn K (upd H a (.iR o (.dK kvs))) b ys:=Cu hs λv hv=>by rw[ha] at hv;cases hv;exact⟨λ_ z=>(nomatch z),λ_ _ z=>(nomatch z)⟩
 let L:Nat->List V:=λi=>((kvs.take i).map λkv=>kV kv.1).filter λk=>!EC k ys
 have hlL:∀i,(L i).length<=i:=λi=>by
  refine le_trans (length_filter_le _ _) ?_;rw[length_map,length_take];omega
 refine⟨λi m σ' H'=>i+m=kvs.length/\H'=upd (upd H a (.iR o (.dK kvs))) D (.lst (L i)) /\ σ'.length=js.length /\ σ'[q]?=some (some (.ref b)),⟨kvs.length,by omega,rfl,iA js σ,hb⟩,?_⟩;rintro i m σ' H' ⟨e1,rfl,e3,e4⟩;have N8:upd (upd H a (.iR o (.dK kvs))) D (.lst (L i)) a=some (.iR o (.dK kvs)):=by rw[au Ss.symm,aO]
 cases m with
 | zero =>
  refine .inl ⟨⟨N8,by omega⟩,o,N8,?_⟩;have:upd (upd (upd H a (.iR o (.dK kvs))) D (.lst (L i))) a (.dK kvs)=upd H D (.lst (L i)):=by
   funext c;unfold upd
   by_cases c1:c=a
   ·rw[if_pos c1,if_neg (by rw[c1];exact Ss.symm),c1];exact ha.symm
   ·rw[if_neg c1]
    by_cases c2:c=D
    ·rw[if_pos c2,if_pos c2]
    ·rw[if_neg c2,if_neg c2,if_neg c1]
  rw[this];have:=hQ D Ys;show Q _ (upd H D (.lst (((kvs.take i).map λkv=>kV kv.1).filter λk=>!EC k ys)));rw[List.take_of_length_le (by omega)];exact this
 | succ m =>
  have hi:i<kvs.length:=by omega
  refine .inr ⟨⟨N8,hi⟩,_,λAx Ig w=>⟨m,lt_succ_self _,w⟩,λx H2 hy=>?_⟩;obtain⟨rfl,kv,hkv,rfl⟩:=hy;have fx:bx (kV kv.1)=true:=by cases kv.1<;>rfl
  have g1:(σ'.set p (some (kV kv.1)))[p]?=some (some (kV kv.1)):=getElem?_set_self (by omega);have g2:(σ'.set p (some (kV kv.1)))[q]?=some (some (.ref b)):=by rw[getElem?_set_ne hpq];exact e4
  have hs2:gn K (upd (upd H a (.iR o (.dK kvs))) D (.lst (L i))) b ys:=Cu hs1 λv hv=>by rw[hD] at hv;cases hv
  have hL:L (i+1)=if (!EC (kV kv.1) ys)=true then L i++[kV kv.1] else L i:=by
   show ((kvs.take (i+1)).map λkv=>kV kv.1).filter _=_;rw[List.take_succ,hkv];simp only[Option.toList,map_append,List.filter_append,map_cons,map_nil,List.filter_cons,List.filter_nil]
   split<;>simp[L]
  refine⟨kV kv.1,g1,.ref b,g2,b,ys,rfl,.inl hs2,fx,hf,_,rfl,?_⟩;simp only[if_true]
  by_cases hin:(!EC (kV kv.1) ys)=true
  ·rw[if_pos hin];refine⟨kV kv.1,g1,L i,aO,by have:=hlL i;omega,by omega,?_,by rw[length_set];exact e3,g2⟩;rw[EL,hL,if_pos hin]
  ·rw[if_neg hin];exact⟨by omega,by rw[hL,if_neg hin],by rw[length_set];exact e3,g2⟩
structure Ka (K:PySem.W.Frag) (C:Addr) (m:Str) (f:Addr):Prop where
 ga:specialIn K (.ref C) "__getattribute__" = some (some (.builtin "type.__getattribute__"))
 rd:readsIn K C (.type "type")=true
 at_:findCls K (.ref C) (.type "type") m=some (.val (.ref f))
 kp:keepIn K (.ref f)=true
theorem Kc{k:Nat}(F:fE X.prog X.w X.K X.mg X.base xr k f fd ps sp)(hr:di k X.A)(hg:Gl X x)(hm:X.mg x=some (.ref C))(c:Ka X.K C m f)(hb:Binds X.K fd ps [])
  (ha:PA X (l::ls) t) (hd:(x==("__debug__":Str))=false)
  (hfew:((backTo cp (starEach (l::ls) X.env)).all (λx=>!x.1)&&(backToKw cp (keywordEach [] X.env)).all (λx=>x.1.isSome)
   && decide ((l::ls).length+([]:List Keyword).length+(if ([]:List Keyword).isEmpty then 0 else 1)<30))=true) (hline:(ap.endLine==cp.line)=true)
  (st:starEach (l::ls) X.env=(false,eval l X.env)::starEach ls X.env) (an:(backTo cp (starEach ls X.env)).any (·.1)=false) :
  PE X (.Call (.Attribute (.Name x np) m ap) (l::ls) [] cp) (λσ H Q=>t σ H λvs H1=>sp vs H1 Q E0):=by
 intro pins s σ H Q I h;refine ng rfl hfew hline (kG I hg hm (λpl=>?_) hd);refine PySem.W.method_cls I.jI c.ga (PySem.W.cls_value I.jI c.rd c.at_ rfl ?_);refine callWith_K (first:=[]) (h₀:=X.base) I.ok.mod.MJ c.kp (cC (ha cp pins _ σ H _ (I.tok _) h) λus s2 ⟨vs,H2,I2,r,q2⟩=>⟨I2.jI,?_⟩) st an;exact pq (us:=us) (vs:=vs) (qY:=[]) (ds:=[]) F hr hb .nil pJ I2 r (by rw[append_nil];exact q2)
structure Wt (K:PySem.W.Frag) (C:Addr):Prop where
 ha:findIn K (.ref C) "__class__" = some (some (.builtin "object.__class__"))
 hn:specialIn K (.builtin "object.__class__") "__get__" = some (some (.builtin "getset_descriptor.__get__"))
 htk:takesIn K (.builtin "object.__class__")=some true
 hm:PySem.W.mroIn K C (.type "object")=some true
theorem Cv:cH X (.builtin "isinstance") (λxs H Q=>∃(x:V) (t:Value) (b:Bool),xs=[x,.ref C]/\mW X.K H x t/\kitOne X.K t (.ref C)=some b/\Q (.bl b) H):=by
 intro pins s σ H xs us Q I r h;obtain⟨x,t,b,rfl,ty,e,q⟩:=h;obtain⟨u,w',rfl,r1,r2⟩:=vals2 r;cases r2;exact Ak I r1 ty e λtk=>⟨.bl b,H,I.tok _,rfl,q⟩
end
end L2
end
section
namespace Hv
open PySem L2 PyProof.Rows
inductive Val
 | non|bl (b:Bool)|int (i:Int)|str (x:Str)|tup (vs:List Val)|rl (vs:List Val)|dc (ks:List Key) (vs:List Val)|ob (c:Nat) (xs:List Str) (vs:List Val)|ref (i:Nat)
inductive Ob
 | lst (xs:List Val)|dct (kvs:List (Key×Val))|ins (c:Nat) (fs:List (Str×Val))
noncomputable abbrev Hs:=List Ob
inductive Out (α:Type)
 | ok (a:α) (h:Hs)|exc (c:Nat) (vs:List Val) (h:Hs)|no
noncomputable abbrev M(α:Type):=Hs->Out α
noncomputable def ret{α:Type}(a:α):M α:=λh=>.ok a h
noncomputable def bnd{α β:Type}(m:M α)(f:α -> M β):M β:=λh=>match m h with
 | .ok a h'=>f a h'
 | .exc c vs h'=>.exc c vs h'
 | .no=>.no
noncomputable def bh{α:Type}(o:Option α):M α:=λh=>match o with
 | some a=>.ok a h
 | none=>.no
noncomputable def ask{α:Type}(f:Hs->Option α):M α:=λh=>bh (f h) h
noncomputable def new(o:Ob):M Val:=λh=>.ok (.ref h.length) (h++[o])
noncomputable def put(i:Nat)(o:Ob):M Unit:=λh=>.ok () (h.set i o)
noncomputable def cg{α β:Type}(f:α -> Option β):List α -> Option (List β)
 | []=>some []
 | a::r=>(f a).bind λb=>(cg f r).bind λbs=>some (b::bs)
inductive FW|add|sub|mul|fdiv|mod|pow
 deriving DecidableEq
inductive Kd|eq|ne|lt|le|gt|ge|isn|ntn|vD|nin
 deriving DecidableEq
inductive Bl|len|min|max|sorted|list|tuple|str|int|all|any|isin (T:String)
 deriving DecidableEq
inductive Me|join|append|extend
 deriving DecidableEq
inductive yf|one (i:Nat)|tup (is:List Nat)
 deriving DecidableEq
inductive Ik|seq|range|enum|zip
 deriving DecidableEq
mutual
inductive IE
 | var (i:Nat)|cst (d:Val)|con (x:Str) (d:Val)|no
 | bin (o:FW) (a b:IE)|neg (a:IE)|cmp (o:Kd) (a b:IE)|chn (o p:Kd) (a b c:IE)
 | and (a b:IE)|or (a b:IE)|not (a:IE)|ite (c a b:IE)
 | tup (es:nU)|lst (es:nU)|idx (a b:IE)|slc (a lo hi:IE)
 | call (j:Nat) (es:nU)|blt (b:Bl) (es:nU)|met (m:Me) (a:IE) (es:nU)
 | comp (N:List Str) (js:List (Option Nat)) (pat:yf) (k:Ik) (it:nU) (c elt:IE)
 | dct0
 | sset (a:IE)
 | dget (d k x:IE)
 | dct1 (k v:IE)
 | lkeys (d:IE)
 | sdef (d k x:IE)
 | svals (d:IE)
 | skeys (d:IE)
 | fld (n:Nat) (a:IE) (x:Str)
 | mth (a:IE) (m:Str) (js:List (Nat×Nat)) (es:nU)
 | rev (a s:IE)
 | dflt (N:List Str) (js:List (Option Nat)) (p q:Nat) (d w:IE)
 | isc (a:IE) (x:Str) (bs:List Bool)
inductive nU|nil|cons (e:IE) (es:nU)
end
noncomputable abbrev Env:=List (Option Val)
mutual
inductive IS
 | expr (e:IE)|asg (p:yf) (e:IE)|aug (i:Nat) (o:FW) (e:IE)|eB (o i v:IE)
 | iff (c:IE) (a b:eW)|for (p:yf) (k:Ik) (it:nU) (body:eW)|whl (n:Nat) (c:IE) (body:eW)
 | ret (e:IE)|FY|brk|cnt|pass|never|setF (n:Nat) (a:IE) (x:Str) (v:IE)
inductive eW|nil|cons (s:IS) (r:eW)
end
noncomputable def aC(h:Hs):Val->Option (List Val)
 | .rl vs=>some vs
 | .ref i=>match h[i]? with
  | some (.lst xs)=>some xs
  | _=>none
 | _=>none
noncomputable def dg(h:Hs):Val->Option (List Val)
 | .tup vs=>some vs
 | v=>aC h v
noncomputable def vF(h:Hs):Val->Option (List Val)
 | .tup vs=>some vs
 | .ref i=>aC h (.ref i)
 | _=>none
noncomputable def aT:List Val->Option (List Int):=cg λv=>match v with
 | .int i=>some i
 | _=>none
noncomputable def strs?:List Val->Option (List Str):=cg λv=>match v with
 | .str i=>some i
 | _=>none
noncomputable def fH:List Val->Option (List Bool):=cg λv=>match v with
 | .bl i=>some i
 | _=>none
noncomputable def kX:List Val->Option (List (List Int)):=cg λv=>match v with
 | .tup vs=>if vs.isEmpty then none else aT vs
 | _=>none
noncomputable def toD:Nat->Hs->Val->Option PyData
 | 0,_,_=>none
 | _+1,_,.non=>some .none
 | _+1,_,.bl b=>some (.bool b)
 | _+1,_,.int i=>some (.int i)
 | _+1,_,.str x=>if PyData.strOk x=true then some (.str x) else none
 | n+1,h,.tup vs=>(cg (toD n h) vs).bind λds=>some (.tuple ds)
 | n+1,h,.rl vs=>(cg (toD n h) vs).bind λds=>some (.list ds)
 | _+1,_,.dc _ _=>none
 | _+1,_,.ob _ _ _=>none
 | n+1,h,.ref i=>(aC h (.ref i)).bind λxs=>(cg (toD n h) xs).bind λds=>some (.list ds)
noncomputable def BA(h:Hs)(v w:Val):Option Bool:=(toD 16 h v).bind λd=>(toD 16 h w).bind λe=>some (PyData.eqv d e)
noncomputable def tZ(x:List Int):List (List Int)->List (List Int)
 | []=>[x]
 | y::r=>if HT.lexLt y x=true then y::tZ x r else x::y::r
noncomputable def lQ:List (List Int)->List (List Int)
 | []=>[]
 | x::r=>tZ x (lQ r)
noncomputable def lR(ks:List Int):Val:=.tup (ks.map .int)
noncomputable def fD(xs:List Val):Option (List Val) :=
 if xs.length<64 then
  match aT xs with
  | some ns=>some ((PySem.W.sortI ns).map .int)
  | none=>(kX xs).bind λoR=>some ((lQ oR).map lR)
 else none
noncomputable def t6:List Int->Option Val
 | []=>none
 | a::r=>some (.int (r.foldl min a))
noncomputable def t7:List Int->Option Val
 | []=>none
 | a::r=>some (.int (r.foldl max a))
noncomputable def jX(i j:Int):Bool:=(decide (-(2 ^ 64)<i)&&decide (i<2 ^ 64))||(decide (-(2 ^ 64)<j)&&decide (j<2 ^ 64))
noncomputable def aE{α:Type}(c:Bool)(m:M α):M α:=λh=>if c=true then m h else .no
noncomputable def iU(b:Int):Bool:=decide (0<b/\b<1606938044258990275541962092341162602522202993782792835301376)
noncomputable def Ii:FW->Val->Val->M Val
 | .add,.int a,.int b=>ret (.int (a+b))
 | .add,.str a,.str b=>aE (decide (a.length+b.length<=sizeLine)) (ret (.str (a++b)))
 | .add,.tup a,.tup b=>aE (!a.isEmpty&&decide (a.length+b.length<=sizeLine)) (ret (.tup (a++b)))
 | .add,v,w=>bnd (ask λh=>aC h v) λa=>bnd (ask λh=>aC h w) λb=>aE (decide (a.length+b.length<=sizeLine)) (new (.lst (a++b)))
 | .sub,.int a,.int b=>ret (.int (a-b))
 | .mul,.int a,.int b=>aE (jX a b) (ret (.int (a*b)))
 | .fdiv,.int a,.int b=>aE (iU b) (ret (.int (a/b)))
 | .mod,.int a,.int b=>aE (decide (0<b)) (ret (.int (a%b)))
 | .pow,.int a,.int b=>aE (decide (0<=b/\b<=1000000/\a.natAbs<2 ^ 64)) (ret (.int (a ^ b.toNat)))
 | _,_,_=>bh none
noncomputable def pV:Val->Bool
 | .non=>true
 | _=>false
noncomputable def bW(kvs:List (Key×Val))(k:Key):Option Val:=(kvs.find? λkv=>decide (kv.1=k)).map (·.2)
noncomputable def gG(kvs:List (Key×Val))(k:Key)(v:Val):List (Key×Val) :=
 if (kvs.any λkv=>decide (kv.1=k))=true then kvs.map (λkv=>if kv.1=k then (kv.1,v) else kv) else kvs++[(k,v)]
noncomputable def keyOf:Val->Option Key
 | .int i=>some (.inl i)
 | .str x=>some (.inr x)
 | _=>none
noncomputable def Ke(f d:PyData):Option Bool:=match f with
 | .list ds=>some (ds.any λy=>PyData.eqv y d)
 | .tuple ds=>some (ds.any λy=>PyData.eqv y d)
 | _=>none
noncomputable def memD(h:Hs)(v w:Val):Option Bool:=(toD 16 h w).bind λf=>(toD 16 h v).bind λd=>Ke f d
noncomputable def FZ(h:Hs)(v:Val)(i:Nat):Ob->Option Bool
 | .dct kvs=>(keyOf v).bind λk=>some (bW kvs k).isSome
 | _=>memD h v (.ref i)
noncomputable def t8(h:Hs):Val->Val->Option Bool
 | .str a,.str b=>some (!(Builtin.Str.occurrences b a 0 b.length 1).isEmpty)
 | v,.ref i=>(h[i]?).bind (FZ h v i)
 | v,.dc ks _=>(keyOf v).bind λk=>some (ks.any λj=>decide (j=k))
 | v,w=>memD h v w
noncomputable def Ij(v w:Val):Option Bool:=match w with
 | .non=>some (pV v)
 | .bl b=>(match v with
  | .bl a=>some (a==b)
  | _=>none)
 | _=>none
noncomputable def cop(h:Hs):Kd->Val->Val->Option Bool
 | .eq,v,w=>BA h v w
 | .ne,v,w=>(BA h v w).map (!·)
 | .lt,.int a,.int b=>some (decide (a<b))
 | .le,.int a,.int b=>some (decide (a<=b))
 | .gt,.int a,.int b=>some (decide (b<a))
 | .ge,.int a,.int b=>some (decide (b<=a))
 | .isn,v,w=>Ij v w
 | .ntn,v,w=>(Ij v w).map (!·)
 | .vD,v,w=>t8 h v w
 | .nin,v,w=>(t8 h v w).map (!·)
 | _,_,_=>none
noncomputable def dj(h:Hs):Val->Option Bool
 | .non=>some false
 | .bl b=>some b
 | .int i=>some (i != 0)
 | .str x=>if x.length<=sizeLine then some ((x.length:Int) != 0) else none
 | .tup vs=>some (!vs.isEmpty)
 | .rl vs=>some (!vs.isEmpty)
 | .dc ks _=>some (!ks.isEmpty)
 | .ob _ _ _=>none
 | .ref i=>match h[i]? with
  | some (.lst xs)=>some (!xs.isEmpty)
  | some (.dct xs)=>some (!xs.isEmpty)
  | _=>none
noncomputable def nh(h:Hs):Val->Val->Option Val
 | .str x,.int i=>if x.length<=sizeLine then (jV x.cps.toList i).map λc=>.str ⟨#[c]⟩ else none
 | .tup vs,.int i=>jV vs i
 | .rl vs,.int i=>jV vs i
 | .ref j,.int i=>match h[j]? with
  | some (.dct kvs)=>bW kvs (.inl i)
  | _=>(aC h (.ref j)).bind λxs=>jV xs i
 | .ref j,.str x=>match h[j]? with
  | some (.dct kvs)=>bW kvs (.inr x)
  | _=>none
 | .dc ks vs,.int i=>bW (ks.zip vs) (.inl i)
 | .dc ks vs,.str x=>bW (ks.zip vs) (.inr x)
 | _,_=>none
noncomputable def Cw(h:Hs)(o:Val):Option Unit:=match o with
 | .ref i=>(match h[i]? with
  | some (.dct _)=>some ()
  | _=>none)
 | .dc _ _=>some ()
 | _=>none
noncomputable def yg(h:Hs)(o:Val)(k:Key):Option (Option Val):=match o with
 | .ref i=>(match h[i]? with
  | some (.dct kvs)=>some (bW kvs k)
  | _=>none)
 | .dc ks vs=>some (bW (ks.zip vs) k)
 | _=>none
noncomputable def lT(h:Hs)(o:Val):Option (List Key):=match o with
 | .ref i=>(match h[i]? with
  | some (.dct kvs)=>some (kvs.map (·.1))
  | _=>none)
 | .dc ks _=>some ks
 | _=>none
noncomputable def AM:Key->Val
 | .inl i=>.int i
 | .inr x=>.str x
noncomputable def Wu(o:Val)(k:Key)(z:Val):M Val:=match o with
 | .ref j=>bnd (ask λh=>match h[j]? with|some (.dct kvs)=>some kvs|_=>none) λkvs=>aE (decide (kvs.length<sizeLine)) (match bW kvs k with
  | some v=>ret v
  | none=>bnd (put j (.dct (gG kvs k z))) λ_=>ret z)
 | _=>bh none
noncomputable def pW:List Key->Option (List Int):=cg λk=>match k with
 | .inl i=>some i
 | .inr _=>none
noncomputable def jY(h:Hs)(o:Val):Option (List Int):=(lT h o).bind λks=>(pW ks).bind λns=>if ns.length<64 then some (PySem.W.sortI ns) else none
noncomputable def pX(h:Hs)(ks:List Key)(w:Val):Option (List Int):=(pW ks).bind λns=>(aC h w).bind λxs=>(aT xs).bind λms=>if ns.length<=100000 then some (ns.filter λn=>!(ms.any λm=>m==n)) else none
noncomputable def dm{α:Type}(ds:List α)(lo hi:Option Int):List α:=(ds.drop (HT.eN ds.length 0 lo)).take (HT.eN ds.length ds.length hi-HT.eN ds.length 0 lo)
noncomputable def rH(v:Val)(lo hi:Option Int):M Val:=match v with
 | .tup vs=>aE (!(decide (HT.eN vs.length 0 lo=0)&&decide (HT.eN vs.length vs.length hi=vs.length))) (ret (.tup (dm vs lo hi)))
 | v=>bnd (ask λh=>aC h v) λxs=>new (.lst (dm xs lo hi))
noncomputable def vG(h:Hs):Val->Option String
 | .non=>some "NoneType" | .bl _=>some "bool" | .int _=>some "int" | .str _=>some "str" | .tup _=>some "tuple" | .rl _=>some "list" | .dc _ _=>some "dict" | .ob _ _ _=>none
 | .ref i=>match h[i]? with
  | some (.lst _)=>some "list"
  | some (.dct _)=>some "dict"
  | _=>none
noncomputable def vH(T:String)(t:String):Option Bool :=
 if ["list","tuple","str","bool","int","dict"].contains T=true then some (decide (T=t\/(T = "int" /\ t = "bool"))) else none
noncomputable def lU(h:Hs):Val->Option Nat
 | .str x=>if x.length<=sizeLine then some x.length else none
 | .tup vs=>some vs.length
 | .rl vs=>some vs.length
 | .dc ks _=>some ks.length
 | .ref i=>match h[i]? with
  | some (.lst xs)=>some xs.length
  | some (.dct xs)=>some xs.length
  | _=>none
 | _=>none
noncomputable def blt:Bl->List Val->M Val
 | .len,[v]=>bnd (ask λh=>lU h v) λn=>ret (.int n)
 | .min,[.int a,.int b]=>ret (.int (if b<a then b else a))
 | .max,[.int a,.int b]=>ret (.int (if b>a then b else a))
 | .min,[v]=>bnd (ask λh=>dg h v) λxs=>bh ((aT xs).bind t6)
 | .max,[v]=>bnd (ask λh=>dg h v) λxs=>bh ((aT xs).bind t7)
 | .sorted,[v]=>bnd (ask λh=>aC h v) λxs=>bnd (bh (fD xs)) λys=>new (.lst ys)
 | .list,[v]=>bnd (ask λh=>dg h v) λxs=>new (.lst xs)
 | .int,[.bl b]=>ret (.int (if b=true then 1 else 0))
 | .int,[.int i]=>ret (.int i)
 | .all,[v]=>bnd (ask λh=>aC h v) λxs=>bnd (bh (fH xs)) λbs=>ret (.bl (bs.all id))
 | .isin T,[v]=>bnd (ask λh=>vG h v) λt=>bnd (bh (vH T t)) λb=>ret (.bl b)
 | _,_=>bh none
noncomputable def met:Me->Val->List Val->M Val
 | .append,.ref i,[v]=>bnd (ask λh=>match h[i]? with|some (.lst xs)=>some xs|_=>none) λxs=>aE (decide (xs.length<sizeLine)) (bnd (put i (.lst (xs++[v]))) λ_=>ret .non)
 | .extend,.ref i,[v]=>bnd (ask λh=>match h[i]? with|some (.lst xs)=>some xs|_=>none) λxs=>bnd (ask λh=>vF h v) λys=>aE (decide (xs.length+ys.length<=sizeLine)) (bnd (put i (.lst (xs++ys))) λ_=>ret .non)
 | _,_,_=>bh none
noncomputable def recv(h:Hs):Me->Val->Option Unit
 | .join,.str _=>some ()
 | .append,.ref i=>match h[i]? with|some (.lst _)=>some ()|_=>none
 | .extend,.ref i=>match h[i]? with|some (.lst _)=>some ()|_=>none
 | _,_=>none
inductive Src
 | fix (xs:List Val)|live (i:Nat)|enum (i:Nat)|zip (v w:Val)
noncomputable def cN:Nat->List Val->List Val
 | _,[]=>[]
 | i,d::r=>.tup [.int i,d]::cN (i+1) r
noncomputable def N9:List Val->List Val->List Val
 | a::r,b::t=>.tup [a,b]::N9 r t
 | _,_=>[]
noncomputable def cy(lo:Int)(n:Nat):List Val:=(List.range n).map λ(i:Nat)=>Val.int (lo+(i:Int))
noncomputable def inR(i:Int):Bool:=decide (-(2 ^ 62)<=i)&&decide (i<2 ^ 62)
noncomputable def srcOf:Ik->List Val->Option Src
 | .seq,[.tup vs]=>some (.fix vs)
 | .seq,[.rl vs]=>some (.fix vs)
 | .seq,[.ref i]=>some (.live i)
 | .range,[.int n]=>if inR n then some (.fix (cy 0 n.toNat)) else none
 | .range,[.int a,.int b]=>if inR a&&inR b then some (.fix (cy a (b-a).toNat)) else none
 | .enum,[.rl vs]=>some (.fix (cN 0 vs))
 | .enum,[.ref i]=>some (.enum i)
 | .zip,[v,w]=>some (.zip v w)
 | _,_=>none
noncomputable def Src.items(h:Hs):Src->Option (List Val)
 | .fix xs=>some xs
 | .live i=>aC h (.ref i)
 | .enum i=>(aC h (.ref i)).map (cN 0)
 | .zip v w=>(aC h v).bind λxs=>(aC h w).map λys=>N9 xs ys
noncomputable def bindAll:List Nat->List Val->Env->Option Env
 | [],[],env=>some env
 | i::is,d::ds,env=>bindAll is ds (env.set i (some d))
 | _,_,_=>none
noncomputable def fW:yf->Val->Env->Option Env
 | .one i,d,env=>some (env.set i (some d))
 | .tup is,.tup ds,env=>bindAll is ds env
 | _,_,_=>none
noncomputable def jZ(js:List (Option Nat))(env:Env):Env:=js.map λo=>match o with
 | none=>none
 | some j=>match env[j]? with
  | some (some d)=>some d
  | _=>none
noncomputable def fX(src:Src)(f:Val->M (Option Val)):Nat->Nat->List Val->M (List Val)
 | 0,i,acc=>bnd (ask λh=>src.items h) λxs=>aE (decide (xs.length<=i)) (ret acc)
 | n+1,i,acc=>bnd (ask λh=>src.items h) λxs=>match xs[i]? with
  | none=>ret acc
  | some x=>bnd (f x) λo=>fX src f n (i+1) (match o with|some e=>acc++[e]|none=>acc)
noncomputable def cP:IE->Bool
 | .no=>true
 | _=>false
noncomputable def ic:Val->Option Int
 | .int i=>some i
 | _=>none
noncomputable def pY:Val->M Bool
 | .bl b=>ret b
 | _=>bh none
noncomputable def iC(n:Nat)(h:Hs)(o:Val)(x:Str):Option Val:=match o with
 | .ref i=>(match h[i]? with
  | some (.ins c fs)=>if c<n then fs.lookup x else none
  | _=>none)
 | .ob c xs vs=>if c<n then (xs.zip vs).lookup x else none
 | _=>none
noncomputable def AN(h:Hs)(o:Val)(bs:List Bool):Option Bool:=match o with
 | .ref i=>(match h[i]? with
  | some (.ins c _)=>bs[c]?
  | _=>none)
 | .ob c _ _=>bs[c]?
 | _=>none
noncomputable def kQ(h:Hs)(o:Val)(m:Str)(js:List (Nat×Nat)):Option Nat:=match o with
 | .ref i=>(match h[i]? with
  | some (.ins c fs)=>if (fs.lookup m).isNone=true then js.lookup c else none
  | _=>none)
 | .ob c xs vs=>if ((xs.zip vs).lookup m).isNone=true then js.lookup c else none
 | _=>none
noncomputable def pZ(f:Str)(v:Val):List (Str×Val)->List (Str×Val)
 | []=>[(f,v)]
 | (g,x)::r=>if g=f then (g,v)::r else (g,x)::pZ f v r
noncomputable def zd(n:Nat)(o:Val)(x:Str)(v:Val):M Unit:=match o with
 | .ref i=>bnd (ask λh=>match h[i]? with|some (.ins c fs)=>if c<n then some (c,fs) else none|_=>none) λp=>aE (decide (p.2.length<1000)) (put i (.ins p.1 (pZ x v p.2)))
 | _=>bh none
noncomputable def Cy(c:Nat)(φ:List Val->M Val)(vs:List Val):M Val:=bnd (new (.ins c [])) λo=>bnd (φ (o::vs)) λr=>match r with
 | .non=>ret o
 | _=>bh none
mutual
noncomputable def aH(Φ:Nat->List Val->M Val):IE->Env->M Val
 | .var i,env=>bh (match env[i]? with
  | some (some d)=>some d
  | _=>none)
 | .cst d,_=>ret d
 | .con _ d,_=>ret d
 | .no,_=>bh none
 | .bin o a b,env=>bnd (aH Φ a env) λx=>bnd (aH Φ b env) λy=>Ii o x y
 | .neg a,env=>bnd (aH Φ a env) λx=>match x with
  | .int i=>ret (.int (-i))
  | _=>bh none
 | .cmp o a b,env=>bnd (aH Φ a env) λx=>bnd (aH Φ b env) λy=>bnd (ask λh=>cop h o x y) λt=>ret (.bl t)
 | .chn _ _ _ _ _,_=>bh none
 | .and a b,env=>bnd (aH Φ a env) λx=>bnd (pY x) λt=>if t=true then bnd (aH Φ b env) λy=>bnd (pY y) λu=>ret (.bl u) else ret (.bl false)
 | .or a b,env=>bnd (aH Φ a env) λx=>bnd (pY x) λt=>if t=true then ret (.bl true) else bnd (aH Φ b env) λy=>bnd (pY y) λu=>ret (.bl u)
 | .not a,env=>bnd (aH Φ a env) λx=>bnd (pY x) λt=>ret (.bl (!t))
 | .ite _ _ _,_=>bh none
 | .tup es,env=>bnd (aW Φ es env) λds=>aE (decide (ds.length<=sizeLine)) (ret (.tup ds))
 | .lst es,env=>bnd (aW Φ es env) λds=>aE (decide (ds.length<=sizeLine)) (new (.lst ds))
 | .idx a b,env=>bnd (aH Φ a env) λx=>bnd (aH Φ b env) λy=>ask λh=>nh h x y
 | .slc a lo hi,env=>bnd (aH Φ a env) λx=>bnd (if cP lo=true then ret none else bnd (aH Φ lo env) λv=>bnd (bh (ic v)) λi=>ret (some i)) λl =>
   bnd (if cP hi=true then ret none else bnd (aH Φ hi env) λv=>bnd (bh (ic v)) λi=>ret (some i)) λu=>rH x l u
 | .call j es,env=>bnd (aW Φ es env) λds=>Φ j ds
 | .blt b es,env=>bnd (aW Φ es env) λds=>blt b ds
 | .met m a es,env=>bnd (aH Φ a env) λx=>bnd (ask λh=>recv h m x) λ_=>bnd (aW Φ es env) λds=>met m x ds
 | .comp _ js pat k it c elt,env=>bnd (aW Φ it env) λits=>bnd (bh (srcOf k its)) λsrc=>bnd (ask λh=>src.items h) λxs=>aE (decide (xs.length<=100000))
   (bnd (fX src (λd=>bnd (bh (fW pat d (jZ js env))) λenv'=>bnd (if cP c=true then ret true else bnd (aH Φ c env') λv=>ask λh=>dj h v) λt =>
    if t=true then bnd (aH Φ elt env') λe=>ret (some e) else ret none) xs.length 0 []) λys=>new (.lst ys))
 | .dct0,_=>new (.dct [])
 | .sset a,env=>bnd (aH Φ a env) λv=>bnd (ask λh=>aC h v) λxs=>bnd (bh (aT xs)) λns=>aE (decide (ns.length<64)) (new (.lst ((PySem.W.sortI (L2.dZ [] ns)).map .int)))
 | .dget d k x,env=>bnd (aH Φ d env) λo=>bnd (ask λh=>Cw h o) λ_=>bnd (aH Φ k env) λi=>bnd (bh (keyOf i)) λkk=>bnd (aH Φ x env) λz=>bnd (ask λh=>yg h o kk) λr=>ret (r.getD z)
 | .dct1 k v,env=>bnd (aH Φ k env) λx=>bnd (bh (keyOf x)) λkk=>bnd (aH Φ v env) λy=>new (.dct [(kk,y)])
 | .lkeys d,env=>bnd (aH Φ d env) λo=>bnd (ask λh=>lT h o) λks=>new (.lst (ks.map AM))
 | .sdef _ _ _,_=>bh none
 | .svals _,_=>bh none
 | .skeys d,env=>bnd (aH Φ d env) λo=>bnd (ask λh=>jY h o) λns=>new (.lst (ns.map .int))
 | .fld n a x,env=>bnd (aH Φ a env) λo=>ask λh=>iC n h o x
 | .mth a m js es,env=>bnd (aH Φ a env) λo=>bnd (ask λh=>kQ h o m js) λj=>bnd (aW Φ es env) λds=>Φ j (o::ds)
 | .rev a s,env=>bnd (aH Φ a env) λx=>bnd (if cP s=true then ret none else bnd (aH Φ s env) λv=>bnd (bh (ic v)) λi=>ret (some i)) λk =>
   aE (decide (k=some (-1))) (bnd (ask λh=>aC h x) λxs=>new (.lst xs.reverse))
 | .dflt _ _ _ _ d w,env=>bnd (aH Φ d env) λo=>bnd (ask λh=>lT h o) λks=>bnd (aH Φ w env) λv=>bnd (ask λh=>pX h ks v) λns=>new (.lst (ns.map .int))
 | .isc a _ bs,env=>bnd (aH Φ a env) λo=>bnd (ask λh=>AN h o bs) λb=>ret (.bl b)
noncomputable def aW(Φ:Nat->List Val->M Val):nU->Env->M (List Val)
 | .nil,_=>ret []
 | .cons e es,env=>bnd (aH Φ e env) λd=>bnd (aW Φ es env) λds=>ret (d::ds)
end
inductive Fl
 | nx (env:Env)|rt (v:Val)|bk (env:Env)|ct (env:Env)
noncomputable def forM(src:Src)(body:Val->Env->M Fl):Nat->Nat->Env->M Fl
 | 0,i,env=>bnd (ask λh=>src.items h) λxs=>aE (decide (xs.length<=i)) (ret (.nx env))
 | n+1,i,env=>bnd (ask λh=>src.items h) λxs=>match xs[i]? with
  | none=>ret (.nx env)
  | some x=>bnd (body x env) λf=>match f with
   | .nx env'=>forM src body n (i+1) env'
   | .ct env'=>forM src body n (i+1) env'
   | .bk env'=>ret (.nx env')
   | .rt v=>ret (.rt v)
noncomputable def sH(o i v:Val):M Unit:=match o with
 | .ref j=>bnd (ask λh=>h[j]?) λob=>match ob,i with
  | .lst xs,.int k=>bnd (bh (Ao xs.length k)) λn=>put j (.lst (xs.set n v))
  | .dct kvs,i=>bnd (bh (keyOf i)) λk=>aE (decide (kvs.length<sizeLine)) (put j (.dct (gG kvs k v)))
  | _,_=>bh none
 | _=>bh none
mutual
noncomputable def eX(Φ:Nat->List Val->M Val):IS->Env->M Fl
 | .expr e,env=>bnd (aH Φ e env) λ_=>ret (.nx env)
 | .asg p e,env=>bnd (aH Φ e env) λv=>bnd (bh (fW p v env)) λenv'=>ret (.nx env')
 | .aug i o e,env=>bnd (bh (match env[i]? with|some (some (.int x))=>some x|_=>none)) λx=>bnd (aH Φ e env) λv=>bnd (bh (ic v)) λy=>bnd (Ii o (.int x) (.int y)) λz=>ret (.nx (env.set i (some z)))
 | .eB o i v,env=>bnd (aH Φ v env) λx=>bnd (aH Φ o env) λy=>bnd (aH Φ i env) λz=>bnd (sH y z x) λ_=>ret (.nx env)
 | .iff c a b,env=>bnd (aH Φ c env) λx=>bnd (ask λh=>dj h x) λt=>if t=true then dP Φ a env else dP Φ b env
 | .for p k it body,env=>bnd (aW Φ it env) λits=>bnd (bh (srcOf k its)) λsrc=>bnd (ask λh=>src.items h) λxs =>
   forM src (λx env=>bnd (bh (fW p x env)) λenv'=>dP Φ body env') xs.length 0 env
 | .whl _ _ _,_=>bh none
 | .ret e,env=>bnd (aH Φ e env) λv=>ret (.rt v)
 | .FY,_=>ret (.rt .non)
 | .brk,env=>ret (.bk env)
 | .cnt,env=>ret (.ct env)
 | .pass,env=>ret (.nx env)
 | .never,_=>bh none
 | .setF n a x v,env=>bnd (aH Φ v env) λy=>bnd (aH Φ a env) λo=>bnd (zd n o x y) λ_=>ret (.nx env)
noncomputable def dP(Φ:Nat->List Val->M Val):eW->Env->M Fl
 | .nil,env=>ret (.nx env)
 | .cons s r,env=>bnd (eX Φ s env) λf=>match f with
  | .nx env'=>dP Φ r env'
  | f=>ret f
end
noncomputable def gU(Φ:Nat->List Val->M Val)(n:Nat)(body:eW)(vs:List Val):M Val :=
 bnd (dP Φ body (vs.map some++replicate (n-vs.length) none)) λf=>match f with
  | .nx _=>ret .non
  | .rt v=>ret v
  | _=>bh none
theorem j3{b:Bool}(ho:o=.lt\/o=.le\/o=.gt\/o=.ge)(e:cop h o v w=some b):∃i j,v=.int i/\w=.int j:=by
 cases v with
 | int i =>
  cases w with
  | int j=>exact⟨i,j,rfl,rfl⟩
  | _=>rcases ho with rfl|rfl|rfl|rfl<;>cases e
 | _=>rcases ho with rfl|rfl|rfl|rfl<;>cases e
end Hv
end
section
namespace Hv
open PySem L2 PyProof.Rows
structure Bd where
 K:PySem.W.Frag
 cl:Nat->Addr
noncomputable def Il(K:PySem.W.Frag)(H:Hp)(a:Addr)(xs:List V):Prop :=
 (∃o,H a=some (.iR o (.lst xs)))\/gn K (λ_=>none) a xs
theorem Il.sq{K:PySem.W.Frag}{H:Hp}{a:Addr}{xs:List V}(h:Il K H a xs):gn K H a xs:=by
 rcases h with ⟨o,h⟩|(h|⟨o,h⟩)|h
 ·exact .inl (.inr ⟨o,h⟩)
 ·cases h
 ·cases h
 ·exact .inr h
mutual
noncomputable def VR(K:PySem.W.Frag)(ρ:List Addr)(H:Hp):Val->V->Prop
 | .non,x=>x=.non
 | .bl b,x=>x=.bl b
 | .int i,x=>x=.int i
 | .str s,x=>x=.str s
 | .tup vs,x=>∃a xs,x=.ref a/\jm K H a xs/\az K ρ H vs xs
 | .rl vs,x=>∃a xs,x=.ref a/\Il K H a xs/\az K ρ H vs xs
 | .dc _ _,_=>False
 | .ob _ _ _,_=>False
 | .ref i,x=>∃a,x=.ref a /\ ρ[i]?=some a
noncomputable def az(K:PySem.W.Frag)(ρ:List Addr)(H:Hp):List Val->List V->Prop
 | [],xs=>xs=[]
 | v::vs,xs=>∃x r,xs=x::r/\VR K ρ H v x/\az K ρ H vs r
end
noncomputable def gx(K:PySem.W.Frag)(ρ:List Addr)(H:Hp):List (Key×Val)->List (Key×V)->Prop
 | [],xs=>xs=[]
 | (k,v)::vs,xs=>∃x r,xs=(k,x)::r/\VR K ρ H v x/\gx K ρ H vs r
noncomputable def lV(K:PySem.W.Frag)(ρ:List Addr)(H:Hp):List (Str×Val)->List (Str×V)->Prop
 | [],xs=>xs=[]
 | (k,v)::vs,xs=>∃x r,xs=(k,x)::r/\VR K ρ H v x/\lV K ρ H vs r
noncomputable def OR(B:Bd)(ρ:List Addr)(H:Hp)(a:Addr):Ob->Prop
 | .lst xs=>∃ys,H a=some (.lst ys)/\az B.K ρ H xs ys
 | .dct kvs=>∃ks,H a=some (.dK ks)/\gx B.K ρ H kvs ks
 | .ins c fs=>∃dx gs,H a=some (.ins (B.cl c) dx gs)/\lV B.K ρ H fs gs
structure HR (B:Bd) (ρ:List Addr) (h:Hs) (H:Hp):Prop where
 len:ρ.length=h.length
 nd:ρ.Nodup
 ob:∀(i:Nat) (o:Ob) (a:Addr),h[i]?=some o -> ρ[i]?=some a->OR B ρ H a o
noncomputable def Mu:HO->Bool
 | .lst _=>true|.dK _=>true|.ins ..=>true
 | _=>false
structure Gw (ρ:List Addr) (H:Hp) (ρ':List Addr) (H':Hp):Prop where
 pre:ρ <+: ρ'
 firm:∀a o,H a=some o->Mu o=false->H' a=some o
structure Gr (ρ:List Addr) (H:Hp) (ρ':List Addr) (H':Hp):Prop where
 pre:ρ <+: ρ'
 keep:∀a o,H a=some o->a ∉ ρ -> H' a=some o
 firm:∀a o,H a=some o->Mu o=false->H' a=some o
 fresh:∀a,a ∈ ρ'->a ∉ ρ -> H a=none
section
variable {K:PySem.W.Frag} {B:Bd} {ρ ρ' ρ1 ρ2:List Addr} {H H' H1 H2:Hp} {h h':Hs}
theorem Gr.w(g:Gr ρ H ρ' H'):Gw ρ H ρ' H':=⟨g.pre,g.firm⟩
theorem Gr.refl:Gr ρ H ρ H:=⟨prefix_refl _,λ_ _ e _=>e,λ_ _ e _=>e,λ_ e n=>absurd e n⟩
theorem Gr.trans(g:Gr ρ H ρ1 H1)(k:Gr ρ1 H1 ρ2 H2):Gr ρ H ρ2 H2 where
 pre:=g.pre.trans k.pre
 keep a o e n:=k.keep a o (g.keep a o e n) λz=>by rw[g.fresh a z n] at e;cases e
 firm a o e n:=k.firm a o (g.firm a o e n) n
 fresh a z n:=by
  by_cases hb:a ∈ ρ1
  ·exact g.fresh a hb n
  ·cases e:H a with
   | none=>rfl
   | some o =>have e1:=g.keep a o e n;rw[k.fresh a z hb] at e1;cases e1
theorem oS{i:Nat}(p:ρ <+: ρ')(e:ρ[i]?=some a):ρ'[i]?=some a:=by
 obtain⟨t,rfl⟩:=p;have hi:i < ρ.length:=(List.getElem?_eq_some_iff.mp e).1;rw[getElem?_append_left hi];exact e
theorem Gw.QT(g:Gw ρ H ρ' H')(e:jm K H a xs):jm K H' a xs:=by
 rcases e with (e|⟨o,e⟩)|e
 ·exact .inl (.inl (g.firm _ _ e rfl))
 ·exact .inl (.inr ⟨o,g.firm _ _ e rfl⟩)
 ·exact .inr e
theorem Gw.Kf(g:Gw ρ H ρ' H')(e:Il K H a xs):Il K H' a xs:=by
 rcases e with ⟨o,e⟩|e
 ·exact .inl ⟨o,g.firm _ _ e rfl⟩
 ·exact .inr e
mutual
theorem VR.kR(g:Gw ρ H ρ' H'):∀(v:Val) (x:V),VR K ρ H v x->VR K ρ' H' v x
 | .non,x,e=>by rw[VR] at e |-;exact e
 | .bl b,x,e=>by rw[VR] at e |-;exact e
 | .int b,x,e=>by rw[VR] at e |-;exact e
 | .str b,x,e=>by rw[VR] at e |-;exact e
 | .tup vs,x,e=>by
  rw[VR] at e |-;obtain⟨a,xs,rfl,q1,q2⟩:=e;exact⟨a,xs,rfl,g.QT q1,az.kR g vs xs q2⟩
 | .rl vs,x,e=>by
  rw[VR] at e |-;obtain⟨a,xs,rfl,q1,q2⟩:=e;exact⟨a,xs,rfl,g.Kf q1,az.kR g vs xs q2⟩
 | .dc _ _,x,e=>by rw[VR] at e;exact e.elim
 | .ob _ _ _,x,e=>by rw[VR] at e;exact e.elim
 | .ref i,x,e=>by
  rw[VR] at e |-;obtain⟨a,rfl,q⟩:=e;exact⟨a,rfl,oS g.pre q⟩
theorem az.kR(g:Gw ρ H ρ' H'):∀(vs:List Val) (xs:List V),az K ρ H vs xs->az K ρ' H' vs xs
 | [],xs,e=>by rw[az] at e |-;exact e
 | v::vs,xs,e=>by
  rw[az] at e |-;obtain⟨x,r,rfl,q1,q2⟩:=e;exact⟨x,r,rfl,VR.kR g v x q1,az.kR g vs r q2⟩
end
theorem gx.kR(g:Gw ρ H ρ' H'):∀(vs:List (Key×Val)) (xs:List (Key×V)),gx K ρ H vs xs->gx K ρ' H' vs xs
 | [],xs,e=>e
 | (k,v)::vs,xs,⟨x,r,e,q1,q2⟩=>⟨x,r,e,VR.kR g v x q1,gx.kR g vs r q2⟩
theorem lV.kR(g:Gw ρ H ρ' H'):∀(vs:List (Str×Val)) (xs:List (Str×V)),lV K ρ H vs xs->lV K ρ' H' vs xs
 | [],xs,e=>e
 | (k,v)::vs,xs,⟨x,r,e,q1,q2⟩=>⟨x,r,e,VR.kR g v x q1,lV.kR g vs r q2⟩
theorem lV.look:∀{vs:List (Str×Val)} {xs:List (Str×V)},lV K ρ H vs xs->(vs.lookup x=none->xs.lookup x=none)/\∀v,vs.lookup x=some v->∃y,xs.lookup x=some y/\VR K ρ H v y
 | [],xs,e=>by rw[lV] at e;subst e;exact⟨λ_=>rfl,λv z=>by cases z⟩
 | (k,v)::vs,xs,e=>by
  rw[lV] at e;obtain⟨y,r,rfl,q1,q2⟩:=e;rw[lookup_cons,lookup_cons];cases hb:x==k with
  | true=>exact⟨λz=>(by cases z),λw z=>by cases z;exact⟨y,rfl,q1⟩⟩
  | false=>exact lV.look q2
theorem lV.length:∀{vs:List (Str×Val)} {xs:List (Str×V)},lV K ρ H vs xs->vs.length=xs.length
 | [],xs,e=>by rw[lV] at e;subst e;rfl
 | (k,v)::vs,xs,e=>by rw[lV] at e;obtain⟨y,r,rfl,_,q⟩:=e;simp[lV.length q]
theorem lV.put(hw:VR K ρ H w y):∀{vs:List (Str×Val)} {xs:List (Str×V)},lV K ρ H vs xs->lV K ρ H (pZ x w vs) (jq x y xs)
 | [],xs,e=>by rw[lV] at e;subst e;exact⟨y,[],rfl,hw,rfl⟩
 | (k,v)::vs,xs,e=>by
  rw[lV] at e;obtain⟨z,r,rfl,q1,q2⟩:=e;rw[pZ,jq]
  by_cases hk:k=x
  ·rw[if_pos hk,if_pos hk];exact⟨y,r,rfl,hw,q2⟩
  ·rw[if_neg hk,if_neg hk];exact⟨z,_,rfl,q1,lV.put hw q2⟩
theorem VR.up(g:Gr ρ H ρ' H')(v:Val)(x:V)(e:VR K ρ H v x):VR K ρ' H' v x:=VR.kR g.w v x e
theorem az.up(g:Gr ρ H ρ' H')(v:List Val)(x:List V)(e:az K ρ H v x):az K ρ' H' v x:=az.kR g.w v x e
theorem gx.up(g:Gr ρ H ρ' H')(v:List (Key×Val))(x:List (Key×V))(e:gx K ρ H v x):gx K ρ' H' v x:=gx.kR g.w v x e
theorem lV.up(g:Gr ρ H ρ' H')(v:List (Str×Val))(x:List (Str×V))(e:lV K ρ H v x):lV K ρ' H' v x:=lV.kR g.w v x e
theorem az.nil:az K ρ H [] []:=by rw[az]
theorem az.cons{v:Val}{vs:List Val}{x:V}{xs:List V}(a:VR K ρ H v x)(b:az K ρ H vs xs):az K ρ H (v::vs) (x::xs):=by rw[az];exact⟨x,xs,rfl,a,b⟩
theorem az.length:∀{vs:List Val} {xs:List V},az K ρ H vs xs->vs.length=xs.length
 | [],xs,e=>by rw[az] at e;subst e;rfl
 | v::vs,xs,e=>by rw[az] at e;obtain⟨x,r,rfl,_,q⟩:=e;simp[az.length q]
theorem az.get:∀{vs:List Val} {xs:List V} {i:Nat} {v:Val},az K ρ H vs xs->vs[i]?=some v->∃x,xs[i]?=some x/\VR K ρ H v x
 | [],xs,i,v,e,q=>by simp at q
 | w::vs,xs,0,v,e,q=>by
  rw[az] at e;obtain⟨x,r,rfl,a,_⟩:=e;simp at q;subst q;exact⟨x,rfl,a⟩
 | w::vs,xs,i+1,v,e,q=>by
  rw[az] at e;obtain⟨x,r,rfl,_,b⟩:=e;simp at q;obtain⟨y,q1,q2⟩:=az.get b q;exact⟨y,by simpa using q1,q2⟩
theorem az.append:∀{vs ws:List Val} {xs ys:List V},az K ρ H vs xs->az K ρ H ws ys->az K ρ H (vs++ws) (xs++ys)
 | [],ws,xs,ys,e,q=>by rw[az] at e;subst e;exact q
 | w::vs,ws,xs,ys,e,q=>by
  rw[az] at e;obtain⟨x,r,rfl,a,b⟩:=e;exact az.cons a (az.append b q)
theorem az.take:∀{vs:List Val} {xs:List V} (n:Nat),az K ρ H vs xs->az K ρ H (vs.take n) (xs.take n)
 | _,_,0,_=>by simp;exact az.nil
 | [],xs,n+1,e=>by rw[az] at e;subst e;simp;exact az.nil
 | w::vs,xs,n+1,e=>by
  rw[az] at e;obtain⟨x,r,rfl,a,b⟩:=e;exact az.cons a (az.take n b)
theorem az.drop:∀{vs:List Val} {xs:List V} (n:Nat),az K ρ H vs xs->az K ρ H (vs.drop n) (xs.drop n)
 | _,_,0,e=>by simpa using e
 | [],xs,n+1,e=>by rw[az] at e;subst e;simp;exact az.nil
 | w::vs,xs,n+1,e=>by
  rw[az] at e;obtain⟨x,r,rfl,a,b⟩:=e;exact az.drop n b
theorem az.cut(lo hi:Option Int)(e:az K ρ H vs xs):az K ρ H (dm vs lo hi) (u6 xs lo hi):=by
 unfold dm u6;rw[e.length];exact az.take _ (az.drop _ e)
theorem az.app:∀{vs ws:List Val} {xs ys:List V},az K ρ H vs xs->az K ρ H ws ys->az K ρ H (vs++ws) (xs++ys)
 | [],_,xs,_,e,q=>by rw[az] at e;subst e;exact q
 | v::vs,_,xs,_,e,q=>by
  rw[az] at e;obtain⟨x,r,rfl,a,b⟩:=e;rw[cons_append,cons_append,az];exact⟨x,_,rfl,a,az.app b q⟩
theorem az.rev:∀{vs:List Val} {xs:List V},az K ρ H vs xs->az K ρ H vs.reverse xs.reverse
 | [],xs,e=>by rw[az] at e;subst e;rw[List.reverse_nil,List.reverse_nil,az]
 | v::vs,xs,e=>by
  rw[az] at e;obtain⟨x,r,rfl,a,b⟩:=e;rw[reverse_cons,reverse_cons];refine az.app (az.rev b) ?_;rw[az];exact⟨x,[],rfl,a,by rw[az]⟩
theorem az.jV{i:Int}(e:az K ρ H vs xs)(q:L2.jV vs i=some v):∃x,L2.jV xs i=some x/\VR K ρ H v x:=by
 unfold L2.jV at q |-;rw[e.length] at q;cases hi:L2.Ao xs.length i with
 | none=>rw[hi] at q;cases q
 | some n=>rw[hi] at q;exact az.get e q
theorem az.set:∀{vs:List Val} {xs:List V} (n:Nat) {v:Val} {x:V},az K ρ H vs xs->VR K ρ H v x->az K ρ H (vs.set n v) (xs.set n x)
 | [],xs,n,v,x,e,q=>by rw[az] at e;subst e;simp;exact az.nil
 | w::vs,xs,0,v,x,e,q=>by
  rw[az] at e;obtain⟨y,r,rfl,a,b⟩:=e;exact az.cons q b
 | w::vs,xs,n+1,v,x,e,q=>by
  rw[az] at e;obtain⟨y,r,rfl,a,b⟩:=e;exact az.cons a (az.set n b q)
theorem az.one(e:az K ρ H [v] xs):∃x,xs=[x]/\VR K ρ H v x:=by
 rw[az] at e;obtain⟨x,r,rfl,a,b⟩:=e;rw[az] at b;subst b;exact⟨x,rfl,a⟩
theorem az.two(e:az K ρ H [v,w] xs):∃x y,xs=[x,y]/\VR K ρ H v x/\VR K ρ H w y:=by
 rw[az] at e;obtain⟨x,r,rfl,a,b⟩:=e;obtain⟨y,rfl,c⟩:=az.one b;exact⟨x,y,rfl,a,c⟩
theorem VR.int{i:Int}:VR K ρ H (.int i) (.int i):=by rw[VR]
theorem VR.str:VR K ρ H (.str i) (.str i):=by rw[VR]
theorem VR.bl{i:Bool}:VR K ρ H (.bl i) (.bl i):=by rw[VR]
theorem VR.non:VR K ρ H .non .non:=by rw[VR]
theorem VR.tup{a:Addr}{vs:List Val}{xs:List V}(q:jm K H a xs)(e:az K ρ H vs xs):VR K ρ H (.tup vs) (.ref a):=by rw[VR];exact⟨a,xs,rfl,q,e⟩
theorem VR.ref{i:Nat}(q:ρ[i]?=some a):VR K ρ H (.ref i) (.ref a):=by rw[VR];exact⟨a,rfl,q⟩
theorem az.ints:∀{ns:List Int} {xs:List V},az K ρ H (ns.map Val.int) xs↔xs=ns.map V.int
 | [],xs=>by simp[az]
 | n::ns,xs=>by
  simp only[map_cons];rw[az];constructor
  ·rintro⟨x,r,rfl,a,b⟩;rw[VR] at a;subst a;rw[(az.ints (ns:=ns)).mp b]
  ·rintro rfl;exact⟨_,_,rfl,VR.int,(az.ints (ns:=ns)).mpr rfl⟩
theorem az.bools:∀{ns:List Bool} {xs:List V},az K ρ H (ns.map Val.bl) xs↔xs=ns.map V.bl
 | [],xs=>by simp[az]
 | n::ns,xs=>by
  simp only[map_cons];rw[az];constructor
  ·rintro⟨x,r,rfl,a,b⟩;rw[VR] at a;subst a;rw[(az.bools (ns:=ns)).mp b]
  ·rintro rfl;exact⟨_,_,rfl,VR.bl,(az.bools (ns:=ns)).mpr rfl⟩
theorem az.tups:∀{oR:List (List Int)} {xs:List V},az K ρ H (oR.map lR) xs->∃rs:List (Addr×List Int),xs=rs.map (λr=>V.ref r.1)/\oR=rs.map (·.2)/\∀r∈rs,jm K H r.1 (r.2.map V.int)
 | [],xs,e=>by simp only[map_nil] at e;rw[az] at e;exact⟨[],e,rfl,λ_ z=>nomatch z⟩
 | ks::oR,xs,e=>by
  simp only[map_cons] at e;rw[az] at e;obtain⟨x,r,rfl,a,b⟩:=e;obtain⟨rs,e1,e2,e3⟩:=az.tups b;unfold lR at a;rw[VR] at a;obtain⟨p,ys,rfl,g1,g2⟩:=a;rw[az.ints.mp g2] at g1;refine⟨(p,ks)::rs,by rw[e1];rfl,by rw[e2];rfl,λr hr=>?_⟩
  rcases mem_cons.mp hr with z|z
  ·rw[z];exact g1
  ·exact e3 r z
theorem az.ze:∀{rs:List (Addr×List Int)},(∀r∈rs,jm K H r.1 (r.2.map V.int))->az K ρ H ((rs.map (·.2)).map lR) (rs.map λr=>V.ref r.1)
 | [],_=>az.nil
 | r::rs,e=>az.cons (VR.tup (e r mem_cons_self) (az.ints.mpr rfl)) (az.ze λq hq=>e q (mem_cons_of_mem _ hq))
theorem OR.mu(q:OR B ρ H a o):∃u,H a=some u/\Mu u=true:=by
 cases o with
 | lst xs=>obtain⟨ys,e,_⟩:=q;exact⟨_,e,rfl⟩
 | dct xs=>obtain⟨ys,e,_⟩:=q;exact⟨_,e,rfl⟩
 | ins c fs=>obtain⟨dx,ys,e,_⟩:=q;exact⟨_,e,rfl⟩
theorem HR.mu(r:HR B ρ h H)(e:a ∈ ρ):∃u,H a=some u/\Mu u=true:=by
 obtain⟨i,hi,rfl⟩:=getElem_of_mem e;have hi':i<h.length:=by rw[<-r.len];exact hi
 exact(r.ob i _ _ (List.getElem?_eq_getElem hi') (List.getElem?_eq_getElem hi)).mu
theorem HR.out(r:HR B ρ h H)(e:H p=none):p ∉ ρ:=λz=>by
 obtain⟨u,q,_⟩:=r.mu z;rw[e] at q;cases q
theorem OR.kR(g:Gw ρ H ρ' H')(e:H' a=H a)(q:OR B ρ H a o):OR B ρ' H' a o:=by
 cases o with
 | lst xs=>obtain⟨ys,e1,e2⟩:=q;exact⟨ys,e.trans e1,az.kR g _ _ e2⟩
 | dct xs=>obtain⟨ys,e1,e2⟩:=q;exact⟨ys,e.trans e1,gx.kR g _ _ e2⟩
 | ins c fs=>obtain⟨dx,ys,e1,e2⟩:=q;exact⟨dx,ys,e.trans e1,lV.kR g _ _ e2⟩
theorem OR.up(g:Gr ρ H ρ' H')(e:H' a=H a)(q:OR B ρ H a o):OR B ρ' H' a o:=OR.kR g.w e q
theorem Gr.side(e:H p=none):Gr ρ H ρ (upd H p o) where
 pre:=prefix_refl _
 keep a u q _:=by rw[au (aI q e)];exact q
 firm a u q _:=by rw[au (aI q e)];exact q
 fresh a z n:=absurd z n
theorem HR.side(r:HR B ρ h H)(e:H p=none):HR B ρ h (upd H p o) where
 len:=r.len
 nd:=r.nd
 ob i u a q1 q2:=by refine OR.up (Gr.side e) ?_ (r.ob i u a q1 q2);refine au λz=>?_;subst z;exact r.out e (mem_of_getElem? q2)
theorem Gw.other(e:H p=some u)(hm:Mu u=true):Gw ρ H ρ (upd H p o) where
 pre:=prefix_refl _
 firm a w q n:=by
  have:a≠p:=λz=>by subst z;rw[e] at q;cases q;rw[hm] at n;cases n
  rw[au this];exact q
theorem HR.other(r:HR B ρ h H)(hp:p ∉ ρ)(e:H p=some u)(hm:Mu u=true):HR B ρ h (upd H p o) where
 len:=r.len
 nd:=r.nd
 ob i w a q1 q2:=OR.kR (Gw.other e hm) (au λz=>by subst z;exact hp (mem_of_getElem? q2)) (r.ob i w a q1 q2)
theorem Gr.new(e:H p=none):Gr ρ H (ρ ++ [p]) (upd H p o) where
 pre:=prefix_append _ _
 keep a u q _:=by rw[au (aI q e)];exact q
 firm a u q _:=by rw[au (aI q e)];exact q
 fresh a z n:=by
  rcases mem_append.mp z with z|z
  ·exact absurd z n
  ·rw[mem_singleton.mp z];exact e
theorem HR.new(r:HR B ρ h H)(e:H p=none)(q:OR B (ρ ++ [p]) (upd H p o) p u):HR B (ρ ++ [p]) (h++[u]) (upd H p o) where
 len:=by simp[r.len]
 nd:=by rw[nodup_append];refine⟨r.nd,by simp,λa ha b hb=>?_⟩;rw[mem_singleton.mp hb];rintro rfl;exact r.out e ha
 ob i v a q1 q2:=by
  by_cases hi:i<h.length
  ·rw[getElem?_append_left hi] at q1;rw[getElem?_append_left (by rw[r.len];exact hi)] at q2;refine OR.up (Gr.new e) (au λz=>?_) (r.ob i v a q1 q2);subst z;exact r.out e (mem_of_getElem? q2)
  ·rw[getElem?_append_right (by omega)] at q1
   rw[getElem?_append_right (by rw[r.len];omega)] at q2;have hi0:i-h.length=0:=by have:=(List.getElem?_eq_some_iff.mp q1).1;simp at this;omega
   rw[hi0] at q1;rw[r.len,hi0] at q2;simp at q1 q2;subst q1;subst q2;exact q
theorem zf(r:HR B ρ h H):VR K (ρ ++ [p]) H' (.ref h.length) (.ref p):=VR.ref (by rw[<-r.len];simp)
theorem Im{α:Type}:∀{l:List α} {i j:Nat} {a:α},l.Nodup->l[i]?=some a->l[j]?=some a->i=j
 | [],i,j,a,_,e,_=>by simp at e
 | b::l,0,0,a,_,_,_=>rfl
 | b::l,0,j+1,a,n,e,f=>by
  simp at e f;subst e;exact absurd (mem_of_getElem? f) (nodup_cons.mp n).1
 | b::l,i+1,0,a,n,e,f=>by
  simp at e f;subst f;exact absurd (mem_of_getElem? e) (nodup_cons.mp n).1
 | b::l,i+1,j+1,a,n,e,f=>by
  simp at e f;rw[Im (nodup_cons.mp n).2 e f]
theorem Gr.put(hp:p ∈ ρ)(e:H p=some u)(hm:Mu u=true):Gr ρ H ρ (upd H p o) where
 pre:=prefix_refl _
 keep a w q n:=by rw[au λz=>n (by rw[z];exact hp)];exact q
 firm a w q n:=by
  have:a≠p:=λz=>by subst z;rw[e] at q;cases q;rw[hm] at n;cases n
  rw[au this];exact q
 fresh a z n:=absurd z n
theorem HR.put{i:Nat}(r:HR B ρ h H)(hi:ρ[i]?=some p)(e:h[i]?=some w)(q:OR B ρ (upd H p o) p u):HR B ρ (h.set i u) (upd H p o) where
 len:=by simp[r.len]
 nd:=r.nd
 ob j v a q1 q2:=by
  obtain⟨z,k1,k2⟩:=(r.ob i w p e hi).mu
  by_cases hj:j=i
  ·subst hj;rw[hi] at q2;cases q2;have hlt:j<h.length:=(List.getElem?_eq_some_iff.mp e).1;rw[getElem?_set_self hlt] at q1;cases q1;exact q
  ·rw[getElem?_set_ne (λz=>hj z.symm)] at q1;refine OR.up (Gr.put (mem_of_getElem? hi) k1 k2) (au λz=>?_) (r.ob j v a q1 q2);subst z;exact hj (Im r.nd q2 hi)
theorem dQ(r:HR B ρ h H)(q:VR B.K ρ H v x)(e:aC h v=some xs):∃a ys,x=.ref a/\gn B.K H a ys/\az B.K ρ H xs ys:=by
 cases v with
 | rl vs =>simp only[aC] at e;cases e;rw[VR] at q;obtain⟨a,ys,rfl,k1,k2⟩:=q;exact⟨a,ys,rfl,k1.sq,k2⟩
 | ref i =>
  simp only[aC] at e;split at e
  ·rename_i zs e1;cases e;rw[VR] at q;obtain⟨a,rfl,k1⟩:=q;obtain⟨ys,k2,k3⟩:=r.ob i _ a e1 k1;exact⟨a,ys,rfl,.inl (.inl k2),k3⟩
  ·cases e
 | _=>cases e
theorem kK{i:Nat}(r:HR B ρ h H)(q:VR B.K ρ H (.ref i) x)(e:h[i]?=some (.lst xs)):∃a ys,x=.ref a /\ ρ[i]?=some a/\H a=some (.lst ys)/\az B.K ρ H xs ys:=by
 rw[VR] at q;obtain⟨a,rfl,k1⟩:=q;obtain⟨ys,k2,k3⟩:=r.ob i _ a e k1;exact⟨a,ys,rfl,k1,k2,k3⟩
theorem yh(r:HR B ρ h H)(q:VR B.K ρ H v x)(e:dg h v=some xs):∃a ys,x=.ref a/\(gn B.K H a ys\/jm B.K H a ys)/\az B.K ρ H xs ys:=by
 cases v with
 | tup vs =>simp only[dg] at e;cases e;rw[VR] at q;obtain⟨a,ys,rfl,k1,k2⟩:=q;exact⟨a,ys,rfl,.inr k1,k2⟩
 | rl vs=>obtain⟨a,ys,e1,k1,k2⟩:=dQ r q (show aC h (.rl vs)=some xs from e);exact⟨a,ys,e1,.inl k1,k2⟩
 | ref vs=>obtain⟨a,ys,e1,k1,k2⟩:=dQ r q (show aC h (.ref vs)=some xs from e);exact⟨a,ys,e1,.inl k1,k2⟩
 | _=>cases e
theorem ni(r:HR B ρ h H):∀(n:Nat) (v:Val) (x:V) (d:PyData),VR B.K ρ H v x->toD n h v=some d->Den B.K H d x/\d.canLay0=true/\d.depth<=n:=by
 intro n
 induction n with
 | zero=>intro v x d _ e;simp only[toD] at e;cases e
 | succ n ih =>
  have all:∀(vs:List Val) (xs:List V) (ds:List PyData),az B.K ρ H vs xs->cg (toD n h) vs=some ds->dY B.K H ds xs/\PyData.canLayAll0 ds=true/\PyData.depthAll ds<=n:=by
   intro vs
   induction vs with
   | nil=>intro xs ds q e;simp only[cg] at e;cases e;rw[az] at q;subst q;exact⟨dY.nil,rfl,by simp[PyData.depthAll]⟩
   | cons v vs Yt =>intro xs ds q e;simp only[cg] at e;obtain⟨d,e1,e⟩:=bind_eq_some_iff.mp e;obtain⟨ds',e2,e⟩:=bind_eq_some_iff.mp e;cases e;rw[az] at q;obtain⟨x,r,rfl,q1,q2⟩:=q;obtain⟨a1,a2,a3⟩:=ih v x d q1 e1;obtain⟨b1,b2,b3⟩:=Yt r ds' q2 e2;refine⟨dY.cons a1 b1,by simp[PyData.canLayAll0,a2,b2],?_⟩;simp only[PyData.depthAll];omega
  intro v x d q e;cases v with
  | non=>simp only[toD] at e;cases e;rw[VR] at q;subst q;exact⟨Den.none,rfl,by simp[PyData.depth]⟩
  | bl b=>simp only[toD] at e;cases e;rw[VR] at q;subst q;exact⟨Den.bool,rfl,by simp[PyData.depth]⟩
  | int b=>simp only[toD] at e;cases e;rw[VR] at q;subst q;exact⟨Den.int,rfl,by simp[PyData.depth]⟩
  | str b =>
   simp only[toD] at e;split at e
   ·rename_i hs;cases e;rw[VR] at q;subst q;exact⟨Den.str,by simp[PyData.canLay0,hs],by simp[PyData.depth]⟩
   ·cases e
  | tup vs =>simp only[toD] at e;obtain⟨ds,e1,e⟩:=bind_eq_some_iff.mp e;cases e;rw[VR] at q;obtain⟨a,xs,rfl,q1,q2⟩:=q;obtain⟨b1,b2,b3⟩:=all vs xs ds q2 e1;exact⟨Den.tuple q1 b1,by simp[PyData.canLay0,b2],by simp only[PyData.depth];omega⟩
  | rl vs =>simp only[toD] at e;obtain⟨ds,e1,e⟩:=bind_eq_some_iff.mp e;cases e;rw[VR] at q;obtain⟨a,xs,rfl,q1,q2⟩:=q;obtain⟨b1,b2,b3⟩:=all vs xs ds q2 e1;exact⟨Den.list q1.sq b1,by simp[PyData.canLay0,b2],by simp only[PyData.depth];omega⟩
  | dc _ _=>rw[VR] at q;exact q.elim
  | ob _ _ _=>rw[VR] at q;exact q.elim
  | ref i =>simp only[toD] at e;obtain⟨vs,e0,e⟩:=bind_eq_some_iff.mp e;obtain⟨ds,e1,e⟩:=bind_eq_some_iff.mp e;cases e;obtain⟨a,xs,rfl,q1,q2⟩:=dQ r q e0;obtain⟨b1,b2,b3⟩:=all vs xs ds q2 e1;exact⟨Den.list q1 b1,by simp[PyData.canLay0,b2],by simp only[PyData.depth];omega⟩
end
end Hv
end
section
namespace Hv
open PySem L2 PyProof.Rows
theorem nj(x:List Int):∀l,(tZ x l).Perm (x::l)
 | []=>.refl _
 | y::r=>by
  unfold tZ;split
  ·exact((nj x r).cons y).trans (.swap _ _ _)
  ·exact .refl _
theorem p7:∀l,(lQ l).Perm l
 | []=>.refl _
 | x::r=>(nj x _).trans ((p7 r).cons x)
theorem vI{a b c:List Int}(h1:HT.lexLt b a=false)(h2:HT.lexLt c b=false):HT.lexLt c a=false:=by
 cases e:HT.lexLt c a with
 | false=>rfl
 | true =>
  rcases oB.r8 c b a e with z|z
  ·rw[h2] at z;cases z
  ·rw[h1] at z;cases z
theorem vJ{a b:List Int}(h:HT.lexLt a b=true):HT.lexLt b a=false:=by
 cases e:HT.lexLt b a with
 | false=>rfl
 | true=>have:=oB.gZ _ _ _ h e;rw[oB.ju] at this;cases this
theorem zg(x:List Int):∀l:List (List Int),l.Pairwise (λa b=>HT.lexLt b a=false)->(tZ x l).Pairwise (λa b=>HT.lexLt b a=false)
 | [],_=>by simp[tZ]
 | y::r,h=>by
  obtain⟨h1,h2⟩:=pairwise_cons.mp h;unfold tZ
  split
  ·rename_i hlt
   refine pairwise_cons.mpr ⟨λz hz=>?_,zg x r h2⟩
   rcases mem_cons.mp ((nj x r).mem_iff.mp hz) with rfl|hz
   ·exact vJ hlt
   ·exact h1 z hz
  ·rename_i hlt
   refine pairwise_cons.mpr ⟨λz hz=>?_,h⟩;have hxy:HT.lexLt y x=false:=by simpa using hlt
   rcases mem_cons.mp hz with rfl|hz
   ·exact hxy
   ·exact vI hxy (h1 z hz)
theorem vK:∀l,(lQ l).Pairwise (λa b=>HT.lexLt b a=false)
 | []=>.nil
 | x::r=>zg x _ (vK r)
theorem Cz(hp:l.Perm oR)(hs:l.Pairwise (λa b=>HT.lexLt b a=false)):l=lQ oR :=
 List.Perm.eq_of_pairwise (λa b _ _ h1 h2=>oB.gY a b h2 h1) hs (vK oR) (hp.trans (p7 oR).symm)
theorem AO{ns:List Int}{m:Int}(h:m∈ns)(h2:∀a∈ns,m<=a):t6 ns=some (.int m):=by
 cases ns with
 | nil=>cases h
 | cons a r =>
  have key:∀(r:List Int) (a:Int),(r.foldl min a)∈a::r/\∀b∈a::r,r.foldl min a<=b:=by
   intro r
   induction r with
   | nil=>intro a;simp
   | cons c r ih =>
    intro a;obtain⟨q1,q2⟩:=ih (min a c);refine⟨?_,λb hb=>?_⟩
    ·show List.foldl min (min a c) r∈_
     rcases mem_cons.mp q1 with z|z
     ·rw[z]
      rcases Int.le_total a c with hc|hc
      ·rw[Int.min_eq_left hc];exact mem_cons_self
      ·rw[Int.min_eq_right hc];exact mem_cons_of_mem _ mem_cons_self
     ·exact mem_cons_of_mem _ (mem_cons_of_mem _ z)
    ·show List.foldl min (min a c) r<=b
     have q3:=q2 (min a c) mem_cons_self
     rcases mem_cons.mp hb with z|z
     ·subst z;omega
     ·rcases mem_cons.mp z with z|z
      ·subst z;omega
      ·exact q2 b (mem_cons_of_mem _ z)
  obtain⟨q1,q2⟩:=key r a;show some (Val.int (r.foldl min a))=_;rw[Int.le_antisymm (q2 m h) (h2 _ q1)]
theorem AQ{ns:List Int}{m:Int}(h:m∈ns)(h2:∀a∈ns,a<=m):t7 ns=some (.int m):=by
 cases ns with
 | nil=>cases h
 | cons a r =>
  have key:∀(r:List Int) (a:Int),(r.foldl max a)∈a::r/\∀b∈a::r,b<=r.foldl max a:=by
   intro r
   induction r with
   | nil=>intro a;simp
   | cons c r ih =>
    intro a;obtain⟨q1,q2⟩:=ih (max a c);refine⟨?_,λb hb=>?_⟩
    ·show List.foldl max (max a c) r∈_
     rcases mem_cons.mp q1 with z|z
     ·rw[z]
      rcases Int.le_total a c with hc|hc
      ·rw[Int.max_eq_right hc];exact mem_cons_of_mem _ mem_cons_self
      ·rw[Int.max_eq_left hc];exact mem_cons_self
     ·exact mem_cons_of_mem _ (mem_cons_of_mem _ z)
    ·show b<=List.foldl max (max a c) r
     have q3:=q2 (max a c) mem_cons_self
     rcases mem_cons.mp hb with z|z
     ·subst z;omega
     ·rcases mem_cons.mp z with z|z
      ·subst z;omega
      ·exact q2 b (mem_cons_of_mem _ z)
  obtain⟨q1,q2⟩:=key r a;show some (Val.int (r.foldl max a))=_;rw[Int.le_antisymm (h2 _ q1) (q2 m h)]
noncomputable def Post(B:Bd)(EX:Nat->List V->Hp->Prop)(ρ:List Addr)(H:Hp){α:Type}(W:α -> Hs->List Addr->Hp->Prop):Out α -> Prop
 | .ok a h'=>∀ρ' H',Gr ρ H ρ' H'->HR B ρ' h' H'->W a h' ρ' H'
 | .exc c vs h'=>∀ρ' H' xs,Gr ρ H ρ' H'->HR B ρ' h' H'->az B.K ρ' H' vs xs->EX c xs H'
 | .no=>False
noncomputable def WV(K:PySem.W.Frag)(Q:VK):Val->Hs->List Addr->Hp->Prop:=λv _ ρ' H'=>∀x,VR K ρ' H' v x->Q x H'
section
variable {B:Bd} {EX:Nat->List V->Hp->Prop} {ρ ρ':List Addr} {H H':Hp} {α β:Type} {W:β -> Hs->List Addr->Hp->Prop} {h h':Hs} {Q:VK}
theorem Post.up(g:Gr ρ H ρ' H')(p:Post B EX ρ H W o):Post B EX ρ' H' W o:=by
 cases o with
 | ok a h'=>exact λρ2 H2 g2 r=>p ρ2 H2 (g.trans g2) r
 | exc c vs h'=>exact λρ2 H2 xs g2 r=>p ρ2 H2 xs (g.trans g2) r
 | no=>exact p
theorem aJ{c:Bool}(p:Post B EX ρ H W (aE c m h)):c=true/\Post B EX ρ H W (m h):=by
 unfold aE at p;split at p
 ·rename_i e;exact⟨e,p⟩
 ·exact p.elim
theorem aA(p:Post B EX ρ H W (bnd (ask f) g h)):∃a,f h=some a/\Post B EX ρ H W (g a h):=by
 unfold bnd ask bh at p;cases e:f h with
 | none=>rw[e] at p;exact p.elim
 | some a=>rw[e] at p;exact⟨a,rfl,p⟩
theorem cX(r:HR B ρ h H)(p:Post B EX ρ H W (ask f h)):∃a,f h=some a/\W a h ρ H:=by
 unfold ask bh at p;cases e:f h with
 | none=>rw[e] at p;exact p.elim
 | some a=>rw[e] at p;exact⟨a,rfl,p ρ H Gr.refl r⟩
theorem bL(p:Post B EX ρ H W (bnd (bh o) g h)):∃a,o=some a/\Post B EX ρ H W (g a h):=by
 unfold bnd bh at p;cases e:o with
 | none=>rw[e] at p;exact p.elim
 | some a=>rw[e] at p;exact⟨a,rfl,p⟩
theorem cK(r:HR B ρ h H)(p:Post B EX ρ H W (bh o h)):∃a,o=some a/\W a h ρ H:=by
 unfold bh at p;cases e:o with
 | none=>rw[e] at p;exact p.elim
 | some a=>rw[e] at p;exact⟨a,rfl,p ρ H Gr.refl r⟩
theorem ai(r:HR B ρ h H)(p:Post B EX ρ H W (ret a h)):W a h ρ H:=p ρ H Gr.refl r
theorem vL(r:HR B ρ h H)(hp:H p=none)(q:OR B (ρ ++ [p]) (upd H p O) p o)(w:Post B EX ρ H (WV B.K Q) (new o h)):Q (.ref p) (upd H p O) :=
 w (ρ ++ [p]) (upd H p O) (Gr.new hp) (r.new hp q) _ (zf r)
theorem cz(r:HR B ρ h H)(hp:H p=none)(q:az B.K ρ H xs ys)(w:Post B EX ρ H (WV B.K Q) (new (.lst xs) h)):Q (.ref p) (upd H p (.lst ys)) :=
 vL (o:=.lst xs) (O:=.lst ys) r hp ⟨ys,aO,az.up (Gr.new hp) _ _ q⟩ w
theorem qa(r:HR B ρ h H)(hp:H p=none)(q:az B.K ρ H xs ys)(w:Post B EX ρ H (WV B.K Q) (ret (Val.tup xs) h)):Q (.ref p) (upd H p (.tup ys)) :=
 w ρ (upd H p (.tup ys)) (Gr.side hp) (r.side hp) _ (VR.tup (jm.of aO) (az.up (Gr.side hp) _ _ q))
theorem av(p:Post B EX ρ H W (bnd m f h))(k:∀v h1 ρ1 x H1,Gr ρ H ρ1 H1->HR B ρ1 h1 H1->VR B.K ρ1 H1 v x->Post B EX ρ1 H1 W (f v h1)->Q x H1):Post B EX ρ H (WV B.K Q) (m h):=by
 unfold bnd at p;cases e:m h with
 | ok v h1=>rw[e] at p;exact λρ1 H1 g r x q=>k v h1 ρ1 x H1 g r q (Post.up g p)
 | exc c vs h1=>rw[e] at p;exact p
 | no=>rw[e] at p;exact p
theorem bC(p:Post B EX ρ H W (bnd m f h))(k:∀v h1 ρ1 H1,Gr ρ H ρ1 H1->HR B ρ1 h1 H1->Post B EX ρ1 H1 W (f v h1)->W' v h1 ρ1 H1):Post B EX ρ H W' (m h):=by
 unfold bnd at p;cases e:m h with
 | ok v h1=>rw[e] at p;exact λρ1 H1 g r=>k v h1 ρ1 H1 g r (Post.up g p)
 | exc c vs h1=>rw[e] at p;exact p
 | no=>rw[e] at p;exact p
end
theorem fJ:∀{ds:List Val} {ns:List Int},aT ds=some ns->ds=ns.map .int
 | [],ns,e=>by simp only[aT,cg] at e;cases e;rfl
 | v::r,ns,e=>by
  simp only[aT,cg] at e;obtain⟨i,e1,e⟩:=bind_eq_some_iff.mp e;obtain⟨is,e2,e⟩:=bind_eq_some_iff.mp e;cases e;cases v<;>first|cases e1|skip
  rw[fJ (show aT r=some is from e2)];rfl
theorem qb:∀{ds:List Val} {ns:List Bool},fH ds=some ns->ds=ns.map .bl
 | [],ns,e=>by simp only[fH,cg] at e;cases e;rfl
 | v::r,ns,e=>by
  simp only[fH,cg] at e;obtain⟨i,e1,e⟩:=bind_eq_some_iff.mp e;obtain⟨is,e2,e⟩:=bind_eq_some_iff.mp e;cases e;cases v<;>first|cases e1|skip
  rw[qb (show fH r=some is from e2)];rfl
theorem sI:∀{ds:List Val} {oR:List (List Int)},kX ds=some oR->ds=oR.map lR/\∀ks∈oR,ks≠[]
 | [],ns,e=>by simp only[kX,cg] at e;cases e;exact⟨rfl,λ_ z=>nomatch z⟩
 | v::r,ns,e=>by
  simp only[kX,cg] at e;obtain⟨i,e1,e⟩:=bind_eq_some_iff.mp e;obtain⟨is,e2,e⟩:=bind_eq_some_iff.mp e;cases e;cases v<;>first|cases e1|skip
  rename_i vs;dsimp only at e1;split at e1
  ·cases e1
  ·rename_i hne
   obtain⟨q1,q2⟩:=sI (show kX r=some is from e2);have e3:=fJ e1;subst e3;refine⟨by rw[q1];rfl,λks hk=>?_⟩
   rcases mem_cons.mp hk with z|z
   ·subst z;intro z;subst z;exact hne rfl
   ·exact q2 ks z
section
variable {X:Cx} {cl:Nat->Addr} {EX:Nat->List V->Hp->Prop}
noncomputable abbrev bd(X:Cx)(cl:Nat->Addr):Bd:=⟨X.K,cl⟩
theorem Ga:jP X (binaryOp .Add) (λx y H Q=>∃a b xs ys,x=.ref a/\y=.ref b/\gn X.K H a xs/\gn X.K H b ys/\xs.length+ys.length<=sizeLine/\∀p,H p=none->Q (.ref p) (upd H p (.lst (xs++ys)))):=by
 intro pins s σ H x y v u Q I rx ry h;obtain⟨l,l',xs,ys,rfl,rfl,q1,q3,hl,q⟩:=h;cases rx;cases ry;obtain⟨its,r1,Yu,z1⟩:=I.list q1;obtain⟨its',r2,Yv,z2⟩:=I.list q3;have l1:=r1.length;have l2:=r2.length;obtain⟨⟨oc,od,Yh,osl⟩,n1,e1,e2,_,e4⟩:=Yu;obtain⟨⟨oc',od',Yw,Su⟩,n2,f1,f2,_,f4⟩:=Yv;cases e2;cases e4;cases f2;cases f4;refine concat_meets ⟨_,e1,rfl⟩ ⟨_,f1,rfl⟩ noFill_list_add seq_list_add PySem.F.slot_list_add PySem.F.entry_list_add (PySem.F.args_list_add_2 _ _) (list_addW l l' its.toArray its'.toArray n1 n2 od od' osl Su (by simp only[size_toArray];omega)) ⟨e1,f1,?_⟩;have ea:its.toArray++its'.toArray=(its++its').toArray:=by simp
 rw[ea];have hn:H s.heap.objs.size=none:=I.hok.fresh (le_refl _);exact⟨.ref s.heap.objs.size,_,I.R3 (t':=s.toks) (its:=its++its') (r1.append r2) (by rw[length_append];omega),rfl,q _ hn⟩
noncomputable def yi:FW->Operator
 | .add=>.Add|.sub=>.Sub|.mul=>.Mult|.fdiv=>.FloorDiv|.mod=>.Mod|.pow=>.Pow
noncomputable def zh:Kd->CmpOp
 | .eq=>.Eq|.ne=>.NotEq|.lt=>.Lt|.le=>.LtE|.gt=>.Gt|.ge=>.GtE|.isn=>.Is|.ntn=>.IsNot|.vD=>.In|.nin=>.NotIn
noncomputable def rB(B:Bd)(EX:Nat->List V->Hp->Prop)(o:FW):R2:=λx y H Q=>∃ρ h v w,HR B ρ h H/\VR B.K ρ H v x/\VR B.K ρ H w y/\Post B EX ρ H (WV B.K Q) (Ii o v w h)
theorem iU.log{j:Int}(h:iU j=true):0<j/\j.natAbs.log2<9000:=by
 have h:=of_decide_eq_true h;refine⟨h.1,(Nat.log2_lt (by omega)).mpr ?_⟩;have e:j.natAbs<2 ^ 200:=by
  have:(2:Nat) ^ 200=1606938044258990275541962092341162602522202993782792835301376:=by decide
  omega
 exact lt_of_lt_of_le e (Nat.pow_le_pow_right (by decide) (by decide))
theorem CA:jP X (binaryOp .FloorDiv) (rI (λ_ j=>iU j=true) λi j=>.int (i/j)):=JB λi j _ _ _ _ _ hc q=>by
 obtain⟨h1,h2⟩:=iU.log hc;exact PyProof.Rows.floordiv_int (by omega) (by rw[Int.fdiv_eq_ediv_of_nonneg i (by omega)];exact q) (.inl (PyProof.noPylong_of_log2 h2))
theorem AR:jP X (inplaceOp .FloorDiv) (rI (λ_ j=>iU j=true) λi j=>.int (i/j)):=JB λi j _ _ _ _ _ hc q=>by
 obtain⟨h1,h2⟩:=iU.log hc;exact PyProof.Rows.ifloordiv_int (by omega) (by rw[Int.fdiv_eq_ediv_of_nonneg i (by omega)];exact q) (.inl (PyProof.noPylong_of_log2 h2))
theorem qc(ho:o≠.add)(v w:Val)(h:Hs):(∃i j,v=.int i/\w=.int j)\/Ii o v w h=.no:=by
 cases v with
 | int i =>
  cases w with
  | int j=>exact .inl ⟨i,j,rfl,rfl⟩
  | _=>right;cases o<;>first|rfl|exact absurd rfl ho
 | _=>right;cases o<;>first|rfl|exact absurd rfl ho
theorem Kg(o:FW):jP X (binaryOp (yi o)) (rB (bd X cl) EX o):=by
 intro pins s σ H x y v' u' Q I rx ry hh;obtain⟨ρ,h,v,w,r,hv,hw,p⟩:=hh;have lists:Post (bd X cl) EX ρ H (WV X.K Q) (bnd (ask λh=>aC h v) (λa=>bnd (ask λh=>aC h w) λb=>aE (decide (a.length+b.length<=sizeLine)) (new (.lst (a++b)))) h)->wpAny (model X.prog X.w) X.A (binaryOp .Add v' u') (EP X pins σ Q) X.xe s:=by intro p;obtain⟨a,e1,p⟩:=aA p;obtain⟨b,e2,p⟩:=aA p;obtain⟨e3,p⟩:=aJ p;have e3:=of_decide_eq_true e3;obtain⟨a1,Oa,rfl,k1,k2⟩:=dQ r hv e1;obtain⟨a2,Sv,rfl,k3,k4⟩:=dQ r hw e2;exact Ga pins s σ H _ _ v' u' Q I rx ry ⟨a1,a2,Oa,Sv,rfl,rfl,k1,k3,by rw[<-k2.length,<-k4.length];exact e3,λq hq=>cz r hq (az.append k2 k4) p⟩
 cases o with
 | add =>
  cases v<;>cases w<;>first
   | exact lists p
   | skip
  ·rename_i a b;rw[VR] at hv hw;subst hv;subst hw;exact JC pins s σ H _ _ _ _ Q I rx ry ⟨a,b,rfl,rfl,ai r p _ VR.int⟩
  ·rename_i a b;rw[VR] at hv hw;subst hv;subst hw;obtain⟨e,p⟩:=aJ p;exact xF pins s σ H _ _ _ _ Q I rx ry ⟨a,b,rfl,rfl,of_decide_eq_true e,ai r p _ VR.str⟩
  ·rename_i a b
   rw[VR] at hv hw;obtain⟨a1,Oa,rfl,k1,k2⟩:=hv;obtain⟨a2,Sv,rfl,k3,k4⟩:=hw;obtain⟨e,p⟩:=aJ p;simp only[and_eq_true,not_eq_true',decide_eq_true_eq] at e;refine Fq pins s σ H _ _ _ _ Q I rx ry ⟨a1,a2,Oa,Sv,rfl,rfl,k1,k3,?_,by rw[<-k2.length,<-k4.length];exact e.2,λz=>?_,λ_ q hq=>qa r hq (az.append k2 k4) p⟩
   ·intro z;subst z
    have:=k2.length;cases a with
    | nil=>simp at e
    | cons _ _=>simp at this
   ·subst z
    have hb:b=[]:=by cases b with|nil=>rfl|cons _ _=>have:=k4.length;simp at this
    subst hb;rw[append_nil] at p;exact ai r p _ (VR.tup k1 k2)
 | sub =>
  rcases qc (o:=.sub) (by intro z;cases z) v w h with ⟨i,j,rfl,rfl⟩|z
  case inr=>rw[z] at p;exact p.elim
  rw[VR] at hv hw;subst hv;subst hw;exact JD pins s σ H _ _ _ _ Q I rx ry ⟨_,_,rfl,rfl,ai r p _ VR.int⟩
 | mul =>
  rcases qc (o:=.mul) (by intro z;cases z) v w h with ⟨i,j,rfl,rfl⟩|z
  case inr=>rw[z] at p;exact p.elim
  rw[VR] at hv hw;subst hv;subst hw;obtain⟨hm,p⟩:=aJ p;refine JE pins s σ H _ _ _ _ Q I rx ry ⟨_,_,rfl,rfl,?_,ai r p _ VR.int⟩;unfold jX at hm;simp only[or_eq_true,and_eq_true,decide_eq_true_eq] at hm;exact hm
 | fdiv =>
  rcases qc (o:=.fdiv) (by intro z;cases z) v w h with ⟨i,j,rfl,rfl⟩|z
  case inr=>rw[z] at p;exact p.elim
  rw[VR] at hv hw;subst hv;subst hw;obtain⟨hm,p⟩:=aJ p;exact CA pins s σ H _ _ _ _ Q I rx ry ⟨_,_,rfl,rfl,hm,ai r p _ VR.int⟩
 | mod =>
  rcases qc (o:=.mod) (by intro z;cases z) v w h with ⟨i,j,rfl,rfl⟩|z
  case inr=>rw[z] at p;exact p.elim
  rw[VR] at hv hw;subst hv;subst hw;obtain⟨hm,p⟩:=aJ p;exact JF pins s σ H _ _ _ _ Q I rx ry ⟨_,_,rfl,rfl,of_decide_eq_true hm,ai r p _ VR.int⟩
 | pow =>
  rcases qc (o:=.pow) (by intro z;cases z) v w h with ⟨i,j,rfl,rfl⟩|z
  case inr=>rw[z] at p;exact p.elim
  rw[VR] at hv hw;subst hv;subst hw;obtain⟨hm,p⟩:=aJ p;have hm:=of_decide_eq_true hm;exact JG pins s σ H _ _ _ _ Q I rx ry ⟨_,_,rfl,rfl,hm,ai r p _ VR.int⟩
end
end Hv
end
section
namespace Hv
open PySem L2 PyProof.Rows
section
variable {X:Cx} {cl:Nat->Addr} {EX:Nat->List V->Hp->Prop}
theorem vM{b:Bool}(e:BA h v w=some b):∃d f,toD 16 h v=some d/\toD 16 h w=some f/\b=PyData.eqv d f:=by
 unfold BA at e;obtain⟨d,e1,e⟩:=bind_eq_some_iff.mp e;obtain⟨f,e2,e⟩:=bind_eq_some_iff.mp e;exact⟨d,f,e1,e2,(Option.some.inj e).symm⟩
theorem zj{K:PySem.W.Frag}{ρ:List Addr}{H:Hp}{v:Val}{x:V}(q:VR K ρ H v x):decide (x=.non)=pV v:=by
 cases v<;>rw[VR] at q
 ·subst q;rfl
 ·subst q;rfl
 ·subst q;rfl
 ·subst q;rfl
 ·obtain⟨a,xs,rfl,_⟩:=q;rfl
 ·obtain⟨a,xs,rfl,_⟩:=q;rfl
 ·exact q.elim
 ·exact q.elim
 ·obtain⟨a,rfl,_⟩:=q;rfl
theorem Kh(hu:X.A.units+64<cLine)(neg:Bool):jP X (compareOp (if neg=true then .NotIn else .In)) (λx y H Q=>∃d f ds,Den X.K H d x/\Den X.K H f y/\d.canLay0=true/\f.canLay0=true/\d.depth<=16/\(f=.list ds\/f=.tuple ds)/\Q (.bl (if neg=true then !(ds.any λy=>PyData.eqv y d) else ds.any λy=>PyData.eqv y d)) H):=by
 intro pins s σ H x y v u Q I rx ry hh;obtain⟨d,f,ds,hd,hf,c1,c2,hz,e,q⟩:=hh;obtain⟨as,ra⟩:=Den.reads I d x v c1 hd rx;obtain⟨bs,rb⟩:=Den.reads I f y u c2 hf ry;have QU:X.A.units+1+min (PyData.depthAll ds) d.depth<cLine:=by have:=Nat.min_le_right (PyData.depthAll ds) d.depth;omega
 rcases e with rfl|rfl
 ·have c3:PyData.canLayAll0 ds=true:=by simpa [PyData.canLay0] using c2
  cases neg with
  | true=>exact SeqAt.notIn_list_reads rb ra c3 c1 QU ⟨.bl _,H,I,rfl,q⟩
  | false=>exact SeqAt.in_list_reads rb ra c3 c1 QU ⟨.bl _,H,I,rfl,q⟩
 ·have c3:PyData.canLayAll0 ds=true:=by simpa [PyData.canLay0] using c2
  cases neg with
  | true=>exact SeqAt.notIn_tuple_reads rb ra c3 c1 QU ⟨.bl _,H,I,rfl,q⟩
  | false=>exact SeqAt.in_tuple_reads rb ra c3 c1 QU ⟨.bl _,H,I,rfl,q⟩
theorem gx.val{K:PySem.W.Frag}{ρ:List Addr}{H:Hp}(k:Key):∀{kvs:List (Key×Val)} {ks:List (Key×V)},gx K ρ H kvs ks->(bW kvs k=none->iz ks k=none)/\∀v,bW kvs k=some v->∃x,iz ks k=some x/\VR K ρ H v x
 | [],ks,e=>by
  have:ks=[]:=e;subst this;exact⟨λ_=>rfl,λv z=>by simp[bW] at z⟩
 | (k',v')::kvs,ks,⟨x,r,e,q1,q2⟩=>by
  subst e;obtain⟨a,b⟩:=gx.val k q2
  by_cases hk:k'=k
  ·subst hk;refine⟨λz=>by simp[bW] at z,λv z=>⟨x,by simp[iz],?_⟩⟩;simp[bW] at z;subst z;exact q1
  ·have e1:bW ((k',v')::kvs) k=bW kvs k:=by simp[bW,hk]
   have e2:iz ((k',x)::r) k=iz r k:=by simp[iz,hk]
   rw[e1,e2];exact⟨a,b⟩
theorem gx.length{K:PySem.W.Frag}{ρ:List Addr}{H:Hp}:∀{kvs:List (Key×Val)} {ks:List (Key×V)},gx K ρ H kvs ks->kvs.length=ks.length
 | [],ks,e=>by have:ks=[]:=e;subst this;rfl
 | (k',v')::kvs,ks,⟨x,r,e,q1,q2⟩=>by subst e;simp[gx.length q2]
theorem gx.any{K:PySem.W.Frag}{ρ:List Addr}{H:Hp}(k:Key):∀{kvs:List (Key×Val)} {ks:List (Key×V)},gx K ρ H kvs ks->(kvs.any λkv=>decide (kv.1=k))=(ks.any λkv=>decide (kv.1=k))
 | [],ks,e=>by have:ks=[]:=e;subst this;rfl
 | (k',v')::kvs,ks,⟨x,r,e,q1,q2⟩=>by subst e;simp only[any_cons];rw[gx.any k q2]
theorem gx.repl{K:PySem.W.Frag}{ρ:List Addr}{H:Hp}(k:Key){v:Val}{y:V}(q:VR K ρ H v y):∀{kvs:List (Key×Val)} {ks:List (Key×V)},gx K ρ H kvs ks->gx K ρ H (kvs.map λkv=>if kv.1=k then (kv.1,v) else kv) (ks.map λkv=>if kv.1=k then (kv.1,y) else kv)
 | [],ks,e=>by have:ks=[]:=e;subst this;rfl
 | (k',v')::kvs,ks,⟨x,r,e,q1,q2⟩=>by
  subst e;simp only[map_cons]
  by_cases hk:k'=k
  ·rw[if_pos hk,if_pos hk];exact⟨y,_,rfl,q,gx.repl k q q2⟩
  ·rw[if_neg hk,if_neg hk];exact⟨x,_,rfl,q1,gx.repl k q q2⟩
theorem gx.snoc{K:PySem.W.Frag}{ρ:List Addr}{H:Hp}(k:Key){v:Val}{y:V}(q:VR K ρ H v y):∀{kvs:List (Key×Val)} {ks:List (Key×V)},gx K ρ H kvs ks->gx K ρ H (kvs++[(k,v)]) (ks++[(k,y)])
 | [],ks,e=>by have:ks=[]:=e;subst this;exact⟨y,[],rfl,q,rfl⟩
 | (k',v')::kvs,ks,⟨x,r,e,q1,q2⟩=>by subst e;exact⟨x,_,rfl,q1,gx.snoc k q q2⟩
theorem gx.put{K:PySem.W.Frag}{ρ:List Addr}{H:Hp}(k:Key){v:Val}{y:V}(q:VR K ρ H v y){kvs:List (Key×Val)}{ks:List (Key×V)}(e:gx K ρ H kvs ks):gx K ρ H (gG kvs k v) (putK ks k y):=by
 unfold gG putK;rw[gx.any k e]
 split
 ·exact gx.repl k q e
 ·exact gx.snoc k q e
theorem CB{K:PySem.W.Frag}{ρ:List Addr}{H:Hp}{v:Val}{x:V}{k:Key}(q:VR K ρ H v x)(e:keyOf v=some k):x=kV k:=by
 cases v<;>simp only[keyOf] at e<;>first|cases e|skip
 ·rw[VR] at q;exact q
 ·rw[VR] at q;exact q
theorem zk(hu:X.A.units+64<cLine):MO X (λx y H Q=>∃a v,x=.ref a/\kP H a y (some v)/\Q v H):=by
 intro value slice pins s σ H x y v u Q I rx ry h hs;obtain⟨a,z,rfl,g,q⟩:=h;cases rx;have hT:=vd I g;unfold subscriptTail;refine wpAny_bind ?_;rw[getitemInPython_of_ne hT.not_modules];refine wpAny_bind (wpAny_specialOf hT PySem.F.slot_dict_getitem.lookup ?_);have fin:wpAny (model X.prog X.w) X.A (subscripted slice false (.ref a) u) (λr s₃=>wpAny (model X.prog X.w) X.A (letTemporaryGo value (.ref a) r >>= λ_=>pure r) (EP X pins σ Q) X.xe s₃) X.xe s:=by rw[hs];exact wpAny_operating (Ar (by omega) I g ry λw' s' I' r'=>wpAny_bind (wpAny_letTemporaryGo (wpAny_pure ⟨z,H,I',r',q⟩)))
 first
  | exact wpAny_pure (wpAny_bind fin)
  | exact wpAny_bind (wpAny_pure (wpAny_bind fin))
  | exact wpAny_bind fin
noncomputable def rC(B:Bd)(o:Kd):R2:=λx y H Q=>∃ρ h v w b,HR B ρ h H/\VR B.K ρ H v x/\VR B.K ρ H w y/\cop h o v w=some b/\Q (.bl b) H
theorem lW{b:Bool}(e:memD h v w=some b):∃d f ds,toD 16 h v=some d/\toD 16 h w=some f/\(f=.list ds\/f=.tuple ds)/\b=ds.any λy=>PyData.eqv y d:=by
 unfold memD at e;obtain⟨f,e1,e⟩:=bind_eq_some_iff.mp e;obtain⟨d,e2,e⟩:=bind_eq_some_iff.mp e;cases f<;>simp only[Ke] at e<;>first|cases e|skip
 ·exact⟨d,_,_,e2,e1,.inl rfl,rfl⟩
 ·exact⟨d,_,_,e2,e1,.inr rfl,rfl⟩
theorem AS{b:Bool}(hw:∀ks vs,w≠.dc ks vs)(e:t8 h v w=some b):(∃x y,v=.str x/\w=.str y/\b = !(Builtin.Str.occurrences y x 0 y.length 1).isEmpty)\/(∃i kvs k,w=.ref i/\h[i]?=some (.dct kvs)/\keyOf v=some k/\b=(bW kvs k).isSome) \/
  ∃d f ds,toD 16 h v=some d/\toD 16 h w=some f/\(f=.list ds\/f=.tuple ds)/\b=ds.any λy=>PyData.eqv y d:=by
 cases w with
 | ref i =>
  have e':(h[i]?).bind (FZ h v i)=some b:=by cases v<;>exact e
  obtain⟨ob,e1,e2⟩:=bind_eq_some_iff.mp e';cases ob with
  | dct kvs =>obtain⟨k,e3,e4⟩:=bind_eq_some_iff.mp (show (keyOf v).bind _=some b from e2);exact .inr (.inl ⟨i,kvs,k,rfl,e1,e3,(Option.some.inj e4).symm⟩)
  | lst xs=>exact .inr (.inr (lW e2))
  | ins c fs=>exact .inr (.inr (lW e2))
 | dc ks vs=>exact absurd rfl (hw ks vs)
 | str y =>
  cases v with
  | str x=>exact .inl ⟨x,y,rfl,rfl,(Option.some.inj e).symm⟩
  | _=>exact .inr (.inr (lW e))
 | _=>exact .inr (.inr (lW (by cases v<;>exact e)))
theorem CC(hu:X.A.units+64<cLine)(o:Kd):jP X (compareOp (zh o)) (rC (bd X cl) o):=by
 intro pins s σ H x y v' u' Q I rx ry hh;obtain⟨ρ,h,v,w,b,r,hv,hw,e,q⟩:=hh;have mem:∀(neg:Bool),t8 h v w=some (if neg=true then !b else b)->wpAny (model X.prog X.w) X.A (compareOp (if neg=true then .NotIn else .In) v' u') (EP X pins σ Q) X.xe s:=by
  intro neg e;have nd:∀ks vs,w≠.dc ks vs:=λks vs z=>by subst z;rw[VR] at hw;exact hw.elim
  rcases AS nd e with ⟨a,c,rfl,rfl,eb⟩|⟨i,kvs,k,rfl,e1,e2,eb⟩|⟨d,f,ds,e1,e2,e3,eb⟩
  ·rw[VR] at hv;rw[VR] at hw;subst hv;subst hw
   cases neg with
   | true =>refine tF pins s σ H _ _ v' u' Q I rx ry ⟨a,c,rfl,rfl,?_⟩;rw[if_pos rfl] at eb;rw[<-eb,Bool.not_not];exact q
   | false =>refine Ae pins s σ H _ _ v' u' Q I rx ry ⟨a,c,rfl,rfl,?_⟩;rw[if_neg Bool.false_ne_true] at eb;rw[<-eb];exact q
  ·rw[VR] at hw
   obtain⟨a,rfl,k1⟩:=hw;obtain⟨ks,k2,k3⟩:=r.ob i _ a e1 k1;have ex:=CB hv e2;subst ex;have es:(iz ks k).isSome=(bW kvs k).isSome:=by
    obtain⟨z1,z2⟩:=gx.val k k3;cases e4:bW kvs k with
    | none=>rw[z1 e4];rfl
    | some z=>obtain⟨x,z3,_⟩:=z2 z e4;rw[z3];rfl
   cases ry;cases neg with
   | true =>refine FA (by omega) I (kP.k (k:=k) k2) rx λs' I'=>⟨.bl _,H,I',rfl,?_⟩;rw[if_pos rfl] at eb;rw[es,<-eb,Bool.not_not];exact q
   | false =>refine R4 (by omega) I (kP.k (k:=k) k2) rx λs' I'=>⟨.bl _,H,I',rfl,?_⟩;rw[if_neg Bool.false_ne_true] at eb;rw[es,<-eb];exact q
  ·obtain⟨a1,a2,a3⟩:=ni r 16 v x d hv e1
   obtain⟨b1,b2,b3⟩:=ni r 16 w y f hw e2;refine Kh hu neg pins s σ H x y v' u' Q I rx ry ⟨d,f,ds,a1,b1,a2,b2,a3,e3,?_⟩;cases neg with
   | true=>rw[if_pos rfl] at eb |-;rw[<-eb,Bool.not_not];exact q
   | false=>rw[if_neg Bool.false_ne_true] at eb |-;rw[<-eb];exact q
 cases o with
 | eq =>obtain⟨d,f,e1,e2,rfl⟩:=vM (show BA h v w=some b by exact e);obtain⟨a1,a2,a3⟩:=ni r 16 v x d hv e1;obtain⟨b1,b2,b3⟩:=ni r 16 w y f hw e2;exact J5 hu pins s σ H x y v' u' Q I rx ry ⟨d,f,a1,b1,a2,b2,by omega,q⟩
 | ne =>have e':(BA h v w).map (!·)=some b:=e;obtain⟨c,e3,rfl⟩:=map_eq_some_iff.mp e';obtain⟨d,f,e1,e2,rfl⟩:=vM e3;obtain⟨a1,a2,a3⟩:=ni r 16 v x d hv e1;obtain⟨b1,b2,b3⟩:=ni r 16 w y f hw e2;exact J6 hu pins s σ H x y v' u' Q I rx ry ⟨d,f,a1,b1,a2,b2,by omega,q⟩
 | lt =>obtain⟨i,j,rfl,rfl⟩:=j3 (.inl rfl) e;cases e;rw[VR] at hv;rw[VR] at hw;subst hv;subst hw;exact Nx pins s σ H _ _ v' u' Q I rx ry ⟨_,_,rfl,rfl,q⟩
 | le =>obtain⟨i,j,rfl,rfl⟩:=j3 (.inr (.inl rfl)) e;cases e;rw[VR] at hv;rw[VR] at hw;subst hv;subst hw;exact Ny pins s σ H _ _ v' u' Q I rx ry ⟨_,_,rfl,rfl,q⟩
 | gt =>obtain⟨i,j,rfl,rfl⟩:=j3 (.inr (.inr (.inl rfl))) e;cases e;rw[VR] at hv;rw[VR] at hw;subst hv;subst hw;exact Nz pins s σ H _ _ v' u' Q I rx ry ⟨_,_,rfl,rfl,q⟩
 | ge =>obtain⟨i,j,rfl,rfl⟩:=j3 (.inr (.inr (.inr rfl))) e;cases e;rw[VR] at hv;rw[VR] at hw;subst hv;subst hw;exact NB pins s σ H _ _ v' u' Q I rx ry ⟨_,_,rfl,rfl,q⟩
 | isn =>
  have e:Ij v w=some b:=e;cases w<;>first|(cases e;done)|skip
  ·cases e;rw[VR] at hw;subst hw;refine JH pins s σ H x _ v' u' Q I rx ry ⟨rfl,?_⟩;rw[zj hv];exact q
  ·cases v<;>first|(cases e;done)|skip
   cases e;rw[VR] at hv;rw[VR] at hw;subst hv;subst hw;exact J7 pins s σ H _ _ v' u' Q I rx ry ⟨_,_,rfl,rfl,q⟩
 | ntn =>
  have e:(Ij v w).map (!·)=some b:=e;cases w<;>first|(cases e;done)|skip
  ·cases e;rw[VR] at hw;subst hw;refine Fc pins s σ H x _ v' u' Q I rx ry ⟨rfl,?_⟩;rw[zj hv];exact q
  ·cases v<;>first|(cases e;done)|skip
   cases e;rw[VR] at hv;rw[VR] at hw;subst hv;subst hw;exact FP pins s σ H _ _ v' u' Q I rx ry ⟨_,_,rfl,rfl,q⟩
 | vD=>exact mem false (by rw[if_neg Bool.false_ne_true];exact e)
 | nin =>have e':(t8 h v w).map (!·)=some b:=e;obtain⟨c,e3,rfl⟩:=map_eq_some_iff.mp e';exact mem true (by rw[e3];simp)
theorem Kl{b:Bool}(r:HR B ρ h H)(q:VR B.K ρ H v x)(e:dj h v=some b):JI B.K x H b:=by
 cases v with
 | non=>rw[VR] at q;subst q;exact(Option.some.inj e).symm
 | bl c=>rw[VR] at q;subst q;exact(Option.some.inj e).symm
 | int i=>rw[VR] at q;subst q;exact(Option.some.inj e).symm
 | str z =>
  rw[VR] at q;subst q;simp only[dj] at e;split at e
  ·rename_i hl;exact⟨hl,(Option.some.inj e).symm⟩
  ·cases e
 | tup vs =>rw[VR] at q;obtain⟨a,xs,rfl,q1,q2⟩:=q;refine .inr (.inl ⟨xs,q1,?_⟩);rw[<-Option.some.inj e];have:=q2.length;cases vs<;>cases xs<;>simp_all
 | rl vs =>rw[VR] at q;obtain⟨a,xs,rfl,q1,q2⟩:=q;refine .inl ⟨xs,q1.sq,?_⟩;rw[<-Option.some.inj e];have:=q2.length;cases vs<;>cases xs<;>simp_all
 | dc _ _=>rw[VR] at q;exact q.elim
 | ob _ _ _=>rw[VR] at q;exact q.elim
 | ref i =>
  rw[VR] at q;obtain⟨a,rfl,q1⟩:=q;simp only[dj] at e;split at e
  ·rename_i vs e1;obtain⟨xs,k1,k2⟩:=r.ob i _ a e1 q1;refine .inl ⟨xs,.inl (.inl k1),?_⟩;rw[<-Option.some.inj e];have:=k2.length;cases vs<;>cases xs<;>simp_all
  ·rename_i vs e1;obtain⟨xs,k1,k2⟩:=r.ob i _ a e1 q1;refine .inr (.inr ⟨xs,k1,?_⟩);rw[<-Option.some.inj e];have:=k2.length;cases vs<;>cases xs<;>simp_all
  ·cases e
noncomputable def Sw(B:Bd):R2:=λx y H Q=>∃ρ h v w z,HR B ρ h H/\VR B.K ρ H v x/\VR B.K ρ H w y/\nh h v w=some z/\∀u,VR B.K ρ H z u->Q u H
theorem Km(hu:X.A.units+64<cLine):MO X (Sw (bd X cl)):=by
 intro value slice pins s σ H x y v' u' Q I rx ry hh hs;obtain⟨ρ,h,v,w,z,r,hv,hw,e,q⟩:=hh;cases v with
 | str t =>
  cases w<;>first|cases e|skip
  rename_i i;change (if t.length<=sizeLine then (jV t.cps.toList i).map (λc=>Val.str ⟨#[c]⟩) else none)=some z at e;split at e
  ·rename_i hl;obtain⟨c,e1,rfl⟩:=map_eq_some_iff.mp e;rw[VR] at hv;rw[VR] at hw;subst hv;subst hw;exact JS value slice pins s σ H _ _ v' u' Q I rx ry ⟨t,i,c,rfl,rfl,hl,e1,q _ VR.str⟩ hs
  ·cases e
 | tup vs =>
  cases w<;>first|cases e|skip
  rename_i i;rw[VR] at hv;rw[VR] at hw;subst hw;obtain⟨a,xs,rfl,q1,q2⟩:=hv;obtain⟨t,e2,q3⟩:=az.jV q2 e;exact JR value slice pins s σ H _ _ v' u' Q I rx ry ⟨a,xs,i,t,rfl,rfl,q1,e2,q _ q3⟩ hs
 | rl vs =>
  cases w<;>first|cases e|skip
  rename_i i;rw[VR] at hv;rw[VR] at hw;subst hw;obtain⟨a,xs,rfl,q1,q2⟩:=hv;obtain⟨t,e2,q3⟩:=az.jV q2 e;exact yW value slice pins s σ H _ _ v' u' Q I rx ry ⟨a,xs,i,t,rfl,rfl,q1.sq,e2,q _ q3⟩ hs
 | ref j =>
  cases w with
  | int i =>
   change (match h[j]? with|some (.dct kvs)=>bW kvs (.inl i)|_=>(aC h (.ref j)).bind λxs=>jV xs i)=some z at e;split at e
   ·rename_i kvs e1;rw[VR] at hv;obtain⟨a,rfl,q1⟩:=hv;obtain⟨ks,k1,k2⟩:=r.ob j _ a e1 q1;obtain⟨t,e2,q3⟩:=(gx.val (.inl i) k2).2 z e;have g:kP H a (kV (.inl i)) (iz ks (.inl i)):=kP.k k1;rw[e2] at g;rw[VR] at hw;subst hw;exact zk hu value slice pins s σ H _ _ v' u' Q I rx ry ⟨a,t,rfl,g,q _ q3⟩ hs
   ·obtain⟨vs,e1,e⟩:=bind_eq_some_iff.mp e;obtain⟨a,xs,rfl,q1,q2⟩:=dQ r hv e1;rw[VR] at hw;subst hw;obtain⟨t,e2,q3⟩:=az.jV q2 e;exact yW value slice pins s σ H _ _ v' u' Q I rx ry ⟨a,xs,i,t,rfl,rfl,q1,e2,q _ q3⟩ hs
  | str y =>
   change (match h[j]? with|some (.dct kvs)=>bW kvs (.inr y)|_=>none)=some z at e;split at e
   ·rename_i kvs e1;rw[VR] at hv;obtain⟨a,rfl,q1⟩:=hv;obtain⟨ks,k1,k2⟩:=r.ob j _ a e1 q1;obtain⟨t,e2,q3⟩:=(gx.val (.inr y) k2).2 z e;have g:kP H a (kV (.inr y)) (iz ks (.inr y)):=kP.k k1;rw[e2] at g;rw[VR] at hw;subst hw;exact zk hu value slice pins s σ H _ _ v' u' Q I rx ry ⟨a,t,rfl,g,q _ q3⟩ hs
   ·cases e
  | _=>cases e
 | dc _ _=>rw[VR] at hv;exact hv.elim
 | _=>cases w<;>cases e
noncomputable def Yx(B:Bd)(EX:Nat->List V->Hp->Prop):V->Option Int->Option Int->Hp->VK->Prop:=λx lo hi H Q=>∃ρ h v,HR B ρ h H/\VR B.K ρ H v x/\Post B EX ρ H (WV B.K Q) (rH v lo hi h)
theorem Kn:QM X (Yx (bd X cl) EX):=by
 intro pins s σ H x v' vl vu lo hi sl Q I rx hs pl pu hh;obtain⟨ρ,h,v,r,hv,p⟩:=hh;have lists:Post (bd X cl) EX ρ H (WV X.K Q) (bnd (ask λh=>aC h v) (λxs=>new (.lst (dm xs lo hi))) h)->∃T id,typeLookup (.type T) "__getitem__" = pure (some (.builtin id))/\s.TypeIs v' T/\wpAny (model X.prog X.w) X.A (getItem v' (.ref sl)) (EP X pins σ Q) X.xe s:=by intro p;obtain⟨a,e1,p⟩:=aA p;obtain⟨a1,Oa,rfl,k1,k2⟩:=dQ r hv e1;exact Ft pins s σ H _ v' vl vu lo hi sl Q I rx hs pl pu ⟨a1,Oa,rfl,k1,λq hq=>cz r hq (az.cut lo hi k2) p⟩
 cases v with
 | tup vs =>simp only[rH] at p;rw[VR] at hv;obtain⟨a,xs,rfl,q1,q2⟩:=hv;obtain⟨e,p⟩:=aJ p;refine JQ pins s σ H _ v' vl vu lo hi sl Q I rx hs pl pu ⟨a,xs,rfl,q1,?_,λq hq=>qa r hq (az.cut lo hi q2) p⟩;rw[<-q2.length];simp only[not_eq_true',Bool.and_eq_false_iff,decide_eq_false_iff_not] at e;rintro⟨z1,z2⟩;exact e.elim (λk=>k z1) λk=>k z2
 | _=>exact lists p
end
end Hv
end
section
set_option backward.match.sparseCases false
namespace Hv
open PySem L2 PyProof.Rows
section
variable {X:Cx} {cl:Nat->Addr} {EX:Nat->List V->Hp->Prop}
noncomputable def EG(B:Bd)(EX:Nat->List V->Hp->Prop)(b:Bl):List V->Hp->VK->Prop:=λxs H Q=>∃ρ h vs,HR B ρ h H/\az B.K ρ H vs xs/\Post B EX ρ H (WV B.K Q) (blt b vs h)
theorem Ko:cH X (.builtin "len") (EG (bd X cl) EX .len):=by
 intro pins s σ H xs us Q I rr hh;obtain⟨ρ,h,vs,r,hv,p⟩:=hh
 match vs,p with
 | [v],p =>
  obtain⟨n,e,p⟩:=aA p;obtain⟨x,rfl,hx⟩:=az.one hv;have fin:=ai r p _ VR.int;cases v with
  | str z =>
   simp only[lU] at e;split at e
   ·rename_i hl;cases e;rw[VR] at hx;subst hx;exact L2.lJ pins s σ H _ us Q I rr ⟨_,z.length,rfl,⟨hl,rfl⟩,fin⟩
   ·cases e
  | tup vs =>simp only[lU] at e;cases e;rw[VR] at hx;obtain⟨a,ys,rfl,q1,q2⟩:=hx;refine L2.lJ pins s σ H _ us Q I rr ⟨_,ys.length,rfl,.inr ⟨ys,q1,rfl⟩,?_⟩;rw[<-q2.length];exact fin
  | rl vs =>simp only[lU] at e;cases e;rw[VR] at hx;obtain⟨a,ys,rfl,q1,q2⟩:=hx;refine L2.lJ pins s σ H _ us Q I rr ⟨_,ys.length,rfl,.inl ⟨ys,q1.sq,rfl⟩,?_⟩;rw[<-q2.length];exact fin
  | dc _ _=>rw[VR] at hx;exact hx.elim
  | ob _ _ _=>rw[VR] at hx;exact hx.elim
  | ref i =>
   rw[VR] at hx;obtain⟨a,rfl,q1⟩:=hx;simp only[lU] at e;split at e
   ·rename_i vs e1;cases e;obtain⟨ys,k1,k2⟩:=r.ob i _ a e1 q1;refine L2.lJ pins s σ H _ us Q I rr ⟨_,ys.length,rfl,.inl ⟨ys,.inl (.inl k1),rfl⟩,?_⟩;rw[<-k2.length];exact fin
   ·rename_i vs e1;cases e;obtain⟨ks,k1,k2⟩:=r.ob i _ a e1 q1;refine Aw pins s σ H _ us Q I rr ⟨a,ks,rfl,k1,?_⟩;rw[<-k2.length];exact fin
   ·cases e
  | _=>simp only[lU] at e;cases e
theorem Kp(hc:X.calm=true):cH X (.builtin "min") (EG (bd X cl) EX .min):=by
 intro pins s σ H xs us Q I rr hh;obtain⟨ρ,h,vs,r,hv,p⟩:=hh;have seq:∀v,vs=[v]->Post (bd X cl) EX ρ H (WV X.K Q) (bnd (ask λh=>dg h v) (λxs=>bh ((aT xs).bind t6)) h)->wpAny (model X.prog X.w) X.A (call (.builtin "min") us) (EP X pins σ Q) X.xe s:=by
  rintro v rfl p;obtain⟨zs,e,p⟩:=aA p;obtain⟨x,rfl,hx⟩:=az.one hv;obtain⟨a,ys,rfl,q1,q2⟩:=yh r hx e;obtain⟨m,e1,p⟩:=cK r p;obtain⟨ns,e2,e3⟩:=bind_eq_some_iff.mp e1;rw[fJ e2] at q2;rw[az.ints.mp q2] at q1;have hne:0<ns.length:=by cases ns with|nil=>cases e3|cons _ _=>simp
  refine tW hc pins s σ H _ us Q I rr ⟨a,ns,rfl,q1,hne,λm hm hmin=>?_⟩;rw[AO hm hmin] at e3;cases e3;exact p _ VR.int
 match vs,p with
 | [.int a,.int b],p =>obtain⟨x,y,rfl,hx,hy⟩:=az.two hv;rw[VR] at hx;rw[VR] at hy;subst hx;subst hy;exact Ag hc pins s σ H _ us Q I rr ⟨a,b,rfl,ai r p _ VR.int⟩
 | [v],p=>exact seq v rfl (by cases v<;>exact p)
theorem Kq(hc:X.calm=true):cH X (.builtin "max") (EG (bd X cl) EX .max):=by
 intro pins s σ H xs us Q I rr hh;obtain⟨ρ,h,vs,r,hv,p⟩:=hh;have seq:∀v,vs=[v]->Post (bd X cl) EX ρ H (WV X.K Q) (bnd (ask λh=>dg h v) (λxs=>bh ((aT xs).bind t7)) h)->wpAny (model X.prog X.w) X.A (call (.builtin "max") us) (EP X pins σ Q) X.xe s:=by
  rintro v rfl p;obtain⟨zs,e,p⟩:=aA p;obtain⟨x,rfl,hx⟩:=az.one hv;obtain⟨a,ys,rfl,q1,q2⟩:=yh r hx e;obtain⟨m,e1,p⟩:=cK r p;obtain⟨ns,e2,e3⟩:=bind_eq_some_iff.mp e1;rw[fJ e2] at q2;rw[az.ints.mp q2] at q1;have hne:0<ns.length:=by cases ns with|nil=>cases e3|cons _ _=>simp
  refine tX hc pins s σ H _ us Q I rr ⟨a,ns,rfl,q1,hne,λm hm hmin=>?_⟩;rw[AQ hm hmin] at e3;cases e3;exact p _ VR.int
 match vs,p with
 | [.int a,.int b],p =>obtain⟨x,y,rfl,hx,hy⟩:=az.two hv;rw[VR] at hx;rw[VR] at hy;subst hx;subst hy;exact Af hc pins s σ H _ us Q I rr ⟨a,b,rfl,ai r p _ VR.int⟩
 | [v],p=>exact seq v rfl (by cases v<;>exact p)
theorem AV:cH X (.builtin "sorted") (EG (bd X cl) EX .sorted):=by
 intro pins s σ H xs us Q I rr hh;obtain⟨ρ,h,vs,r,hv,p⟩:=hh
 match vs,p with
 | [v],p =>
  obtain⟨zs,e,p⟩:=aA p;obtain⟨out,e1,p⟩:=bL p;obtain⟨x,rfl,hx⟩:=az.one hv;obtain⟨a,ys,rfl,q1,q2⟩:=dQ r hx e;unfold fD at e1;split at e1
  ·rename_i h64
   cases e2:aT zs with
   | some ns =>rw[e2] at e1;cases e1;rw[fJ e2] at q2 h64;rw[az.ints.mp q2] at q1;rw[length_map] at h64;exact m5 pins s σ H _ us Q I rr ⟨a,ns,rfl,q1,h64,λl hl=>cz r hl (az.ints.mpr rfl) p⟩
   | none =>rw[e2] at e1;obtain⟨oR,e3,e4⟩:=bind_eq_some_iff.mp e1;cases e4;obtain⟨g1,g2⟩:=sI e3;rw[g1] at q2 h64;obtain⟨rs,r1,r2,r3⟩:=az.tups q2;rw[r1] at q1;rw[length_map,r2,length_map] at h64;refine m7 pins s σ H _ us Q I rr ⟨a,rs,rfl,q1,h64,λp hp=>⟨r3 p hp,g2 _ (by rw[r2];exact mem_map_of_mem hp)⟩,λl qs hl hp hs=>?_⟩;have e4:qs.map (·.2)=lQ oR:=Cz (by rw[r2];exact hp.map _) (pairwise_map.mpr hs);rw[<-e4] at p;exact cz r hl (az.ze λz hz=>r3 z (hp.mem_iff.mp hz)) p
  ·cases e1
theorem Gb:cH X (.type "list") (EG (bd X cl) EX .list):=by
 intro pins s σ H xs us Q I rr hh;obtain⟨ρ,h,vs,r,hv,p⟩:=hh
 match vs,p with
 | [v],p =>obtain⟨zs,e,p⟩:=aA p;obtain⟨x,rfl,hx⟩:=az.one hv;obtain⟨a,ys,rfl,q1,q2⟩:=yh r hx e;exact tN pins s σ H _ us Q I rr ⟨a,ys,rfl,q1,λl hl=>cz r hl q2 p⟩
theorem CD:cH X (.type "tuple") (EG (bd X cl) EX .tuple):=by
 intro pins s σ H xs us Q I rr hh;obtain⟨ρ,h,vs,r,hv,p⟩:=hh;exact(show False from p).elim
theorem Kr:cH X (.type "str") (EG (bd X cl) EX .str):=by
 intro pins s σ H xs us Q I rr hh;obtain⟨ρ,h,vs,r,hv,p⟩:=hh;exact(show False from p).elim
theorem Ks:cH X (.type "int") (EG (bd X cl) EX .int):=by
 intro pins s σ H xs us Q I rr hh;obtain⟨ρ,h,vs,r,hv,p⟩:=hh
 match vs,p with
 | [.int i],p =>obtain⟨x,rfl,hx⟩:=az.one hv;rw[VR] at hx;subst hx;exact rQ pins s σ H _ us Q I rr (.inl ⟨i,rfl,ai r p _ VR.int⟩)
 | [.bl i],p =>obtain⟨x,rfl,hx⟩:=az.one hv;rw[VR] at hx;subst hx;exact rQ pins s σ H _ us Q I rr (.inr ⟨i,rfl,ai r p _ VR.int⟩)
theorem Ku(hc:X.calm=true):cH X (.builtin "all") (EG (bd X cl) EX .all):=by
 intro pins s σ H xs us Q I rr hh;obtain⟨ρ,h,vs,r,hv,p⟩:=hh
 match vs,p with
 | [v],p =>obtain⟨zs,e,p⟩:=aA p;obtain⟨bs,e1,p⟩:=bL p;obtain⟨x,rfl,hx⟩:=az.one hv;obtain⟨a,ys,rfl,q1,q2⟩:=dQ r hx e;rw[qb e1] at q2;rw[az.bools.mp q2] at q1;exact rF hc pins s σ H _ us Q I rr ⟨a,bs,rfl,q1,ai r p _ VR.bl⟩
theorem Kv(hc:X.calm=true):cH X (.builtin "any") (EG (bd X cl) EX .any):=by
 intro pins s σ H xs us Q I rr hh;obtain⟨ρ,h,vs,r,hv,p⟩:=hh;exact(show False from p).elim
noncomputable def Yy(B:Bd)(EX:Nat->List V->Hp->Prop)(T:String):List V->Hp->VK->Prop:=λxs H Q=>∃ρ h v x,xs=[x,.ty T]/\HR B ρ h H/\VR B.K ρ H v x/\Post B EX ρ H (WV B.K Q) (blt (.isin T) [v] h)
theorem Gd(K:PySem.W.Frag)(t T:String)(ht:t∈["NoneType","bool","int","str","list","tuple","dict"])(hT:T∈["list","tuple","str","bool","int","dict"]) :
  kitOne K (.type t) (.type T)=some (decide (T=t\/(T = "int" /\ t = "bool"))):=by
 simp only[mem_cons,not_mem_nil,or_false] at ht hT
 rcases ht with rfl|rfl|rfl|rfl|rfl|rfl|rfl<;>rcases hT with rfl|rfl|rfl|rfl|rfl|rfl<;>rfl
theorem Ge{T:String}:cH X (.builtin "isinstance") (Yy (bd X cl) EX T):=by
 intro pins s σ H xs us Q I rr hh;obtain⟨ρ,h,v,x,rfl,r,hx,p⟩:=hh;obtain⟨u,w',rfl,r1,r2⟩:=vals2 rr;cases r2;obtain⟨t,e,p⟩:=aA p;obtain⟨b,e1,p⟩:=bL p;have q:=ai r p _ VR.bl;unfold vH at e1;split at e1
 ·rename_i Yz
  have hT:T∈["list","tuple","str","bool","int","dict"]:=by simpa using Yz
  cases e1;have fin:∀tk,EP X pins σ Q (.bool (decide (T=t\/(T = "int" /\ t = "bool")))) { s with toks:=tk }:=λtk=>⟨.bl _,H,I.tok _,rfl,q⟩;have tab:=λht=>Gd X.K t T ht hT;cases v with
  | non=>rw[VR] at hx;subst hx;cases r1;simp only[vG] at e;cases e;exact kia_one kitx_none I.jI True.intro (tab (by simp)) (λz=>nomatch z) fin
  | bl c=>rw[VR] at hx;subst hx;cases r1;simp only[vG] at e;cases e;exact kia_one kitx_bool I.jI True.intro (tab (by simp)) (λz=>nomatch z) fin
  | int i=>rw[VR] at hx;subst hx;obtain⟨t',rfl⟩:=r1;simp only[vG] at e;cases e;exact kia_one kitx_int I.jI True.intro (tab (by simp)) (λz=>nomatch z) fin
  | str i=>rw[VR] at hx;subst hx;obtain⟨t',rfl⟩:=r1;simp only[vG] at e;cases e;exact kia_one kitx_str I.jI True.intro (tab (by simp)) (λz=>nomatch z) fin
  | tup vs =>rw[VR] at hx;obtain⟨a,ys,rfl,q1,_⟩:=hx;cases r1;simp only[vG] at e;cases e;obtain⟨_,_,⟨o,e1,e2,_⟩,_⟩:=I.tuple q1;exact kia_one kitx_tuple I.jI ⟨o,e1,e2⟩ (tab (by simp)) (λz=>nomatch z) fin
  | rl vs =>rw[VR] at hx;obtain⟨a,ys,rfl,q1,_⟩:=hx;cases r1;simp only[vG] at e;cases e;obtain⟨_,_,⟨o,n,e1,e2,_⟩,_⟩:=I.list q1.sq;exact kia_one kitx_list I.jI ⟨o,e1,e2⟩ (tab (by simp)) (λz=>nomatch z) fin
  | dc _ _=>rw[VR] at hx;exact hx.elim
  | ob _ _ _=>rw[VR] at hx;exact hx.elim
  | ref i =>
   rw[VR] at hx;obtain⟨a,rfl,q1⟩:=hx;cases r1;simp only[vG] at e;split at e
   ·rename_i vs e1;cases e;obtain⟨ys,k1,k2⟩:=r.ob i _ a e1 q1;obtain⟨_,_,⟨o,n,e1,e2,_⟩,_⟩:=I.list (xs:=ys) (.inl (.inl k1));exact kia_one kitx_list I.jI ⟨o,e1,e2⟩ (tab (by simp)) (λz=>nomatch z) fin
   ·rename_i vs e1;cases e;obtain⟨ks,k1,k2⟩:=r.ob i _ a e1 q1;obtain⟨_,_,vs,_,p⟩:=(show bE X.prog X.w H s.heap a (.dK ks) from I.hok a _ k1);obtain⟨o,es,ep,h1,h2,_⟩:=p;exact kia_one kitx_dict I.jI ⟨o,h1,h2.1⟩ (tab (by simp)) (λz=>nomatch z) fin
   ·cases e
 ·cases e1
noncomputable def QV(B:Bd)(EX:Nat->List V->Hp->Prop)(m:Me):V->List V->Hp->VK->Prop:=λx xs H Q=>∃ρ h v vs,HR B ρ h H/\VR B.K ρ H v x/\az B.K ρ H vs xs/\Post B EX ρ H (WV B.K Q) (met m v vs h)
theorem Gf:NJ X "str.join" (QV (bd X cl) EX .join):=by
 intro pins s σ H x xs u us Q I ru rr hh;obtain⟨ρ,h,v,vs,r,hv,hvs,p⟩:=hh;exact(show False from p).elim
theorem vN{i:Nat}(r:HR B ρ h H)(hi:ρ[i]?=some a)(e:h[i]?=some u)(eU:H a=some U)(hm:Mu U=true)(q:OR B ρ (upd H a O) a o)
  (p:Post B EX ρ H (WV B.K Q) (bnd (put i o) (λ_=>ret Val.non) h)):Q .non (upd H a O) :=
 p ρ (upd H a O) (Gr.put (mem_of_getElem? hi) eU hm) (r.put hi e q) _ VR.non
theorem AW:NJ X "list.append" (QV (bd X cl) EX .append):=by
 intro pins s σ H x xs v' us Q I rx rv hh;obtain⟨ρ,h,v,vs,r,hv,hvs,p⟩:=hh
 match v,vs,p with
 | .ref i,[w],p =>
  obtain⟨zs,e,p⟩:=aA p;split at e
  ·rename_i zs' e1;cases e;obtain⟨e2,p⟩:=aJ p;obtain⟨a,ys,rfl,q0,q1,q2⟩:=kK r hv e1;obtain⟨y,rfl,hy⟩:=az.one hvs;refine rW pins s σ H _ _ v' us Q I rx rv ⟨a,ys,y,rfl,rfl,q1,by rw[<-q2.length];exact of_decide_eq_true e2,?_⟩;have g:Gr ρ H ρ (upd H a (.lst (ys++[y]))):=Gr.put (mem_of_getElem? q0) q1 rfl;exact vN (o:=.lst (zs++[w])) r q0 e1 q1 rfl ⟨_,aO,az.append (az.up g _ _ q2) (az.up g _ _ (az.cons hy az.nil))⟩ p
  ·cases e
theorem AX:NJ X "list.extend" (QV (bd X cl) EX .extend):=by
 intro pins s σ H x xs v' us Q I rx rv hh;obtain⟨ρ,h,v,vs,r,hv,hvs,p⟩:=hh
 match v,vs,p with
 | .ref i,[w],p =>
  obtain⟨zs,e,p⟩:=aA p;split at e
  ·rename_i zs' e1;cases e
   obtain⟨ws,e3,p⟩:=aA p;obtain⟨e2,p⟩:=aJ p;have e2:=of_decide_eq_true e2;obtain⟨a,ys,rfl,q0,q1,q2⟩:=kK r hv e1;obtain⟨y,rfl,hy⟩:=az.one hvs;have fin:∀(bs:List V),az X.K ρ H ws bs->Q .non (upd H a (.lst (ys++bs))):=λbs hb=>by
    have g:Gr ρ H ρ (upd H a (.lst (ys++bs))):=Gr.put (mem_of_getElem? q0) q1 rfl;exact vN (o:=.lst (zs++ws)) r q0 e1 q1 rfl ⟨_,aO,az.append (az.up g _ _ q2) (az.up g _ _ hb)⟩ p
   cases w with
   | tup ts =>simp only[vF] at e3;cases e3;rw[VR] at hy;obtain⟨b,bs,rfl,k1,k2⟩:=hy;exact x6 pins s σ H _ _ v' us Q I rx rv ⟨a,b,ys,bs,rfl,rfl,q1,k1,by rw[<-q2.length,<-k2.length];exact e2,fin bs k2⟩
   | ref j =>
    simp only[vF,aC] at e3;split at e3
    ·rename_i ts e4;cases e3;obtain⟨b,bs,rfl,k0,k1,k2⟩:=kK r hy e4;exact Aq pins s σ H _ _ v' us Q I rx rv ⟨a,b,ys,bs,rfl,rfl,q1,k1,by rw[<-q2.length,<-k2.length];exact e2,fin bs k2⟩
    ·cases e3
   | _=>simp only[vF] at e3;cases e3
  ·cases e
end
end Hv
end
section
namespace Hv
open PySem L2 PyProof.Rows
structure Tb where
 nc:Nat
 Gg:List Str
 Gh:List (Nat×Str×Nat)
 EH:List (Str×Str×Nat)
 isc:List (Str×List Bool)
structure oF where
 N:List Str
 sc:Scope
 fns:List (Str×Nat)
 cons:List (Str×Val)
 tb:Tb
noncomputable def oG(sc:Scope)(x:Str):Bool:=(sc.names.lookup x==some .local||sc.names.lookup x==some .cell||sc.names.lookup x==some .free) && !(x==("__debug__":Str)) && !(x==("__classdict__":Str))
noncomputable def vO(sc:Scope)(x:Str):Bool:=sc.names.lookup x==some .globalImplicit && !(x==("__debug__":Str)) && !(x==("__name__":Str))
noncomputable def CF:Const->Val->Bool
 | .none,.non=>true
 | .bool a,.bl b=>a==b
 | .int a,.int b=>a==b
 | .str a,.str b=>a==b
 | _,_=>false
noncomputable def Kw(o:FW)(op:Operator):Bool:=decide (op=yi o)
noncomputable def Oc(o:Kd)(op:CmpOp):Bool:=decide (op=zh o)
noncomputable def Od:Bl->Str
 | .len=>"len" | .min=>"min" | .max=>"max" | .sorted=>"sorted" | .list=>"list" | .tuple=>"tuple" | .str=>"str" | .int=>"int" | .all=>"all" | .any=>"any" | .isin _=>"isinstance"
noncomputable def noStar:Expr->Bool
 | .Starred ..=>false
 | _=>true
noncomputable def oU:Expr->Bool
 | .Slice ..=>false
 | _=>true
noncomputable def Gi:Expr->Bool
 | .Name ..=>true|.Call ..=>true|.Subscript ..=>true|.List ..=>true|.Tuple ..=>true|.ListComp ..=>true|.Attribute ..=>true|.BinOp ..=>true
 | _=>false
noncomputable def superB:Expr->Bool
 | .Call (.Name _ _) [] [] _=>false
 | _=>true
noncomputable def Io(scope xsc:Scope):Scope :=
 { scope with names:=scope.names.map λ(n,k)=>if (k==.free&&xsc.kind==.function&&xsc.names.lookup n==some .cell) then (n,.cell) else (n,k) }
noncomputable def oF.t9(Γ:oF)(scope:Scope)(N':List Str):oF:={ Γ with N:=N',sc:=Io scope Γ.sc }
noncomputable def vP(Γ:oF):yf->Expr->Bool
 | .one i,.Name x _=>Γ.N[i]?==some x && Γ.sc.names.lookup x==some .local
 | .tup is,.Tuple es _ _=>es.length==is.length&&(is.zip es).all λp=>match p.2 with
  | .Name x _=>Γ.N[p.1]?==some x && Γ.sc.names.lookup x==some .local
  | _=>false
 | _,_=>false
noncomputable def vQ:yf->List Nat
 | .one i=>[i]
 | .tup is=>is
noncomputable def YA:Me->Str
 | .join=>"join" | .append=>"append" | .extend=>"extend"
noncomputable def yj:Val->Val->Bool
 | .non,.non=>true
 | .bl a,.bl b=>a==b
 | .int a,.int b=>a==b
 | .str a,.str b=>a==b
 | _,_=>false
noncomputable def MP:Expr->Bool
 | .Name _ _=>true
 | _=>false
noncomputable def Ip:Expr->Str
 | .Name x _=>x
 | _=>""
theorem lX(h:MP e=true):∃x p,e=.Name x p:=by
 cases e<;>first|exact⟨_,_,rfl⟩|exact nomatch (show false=true from h)
noncomputable def YB(Γ:oF)(N':List Str)(js:List (Option Nat))(p q i j:Nat)(elt tg iter c0:Expr)(ia:Int)(scope:Scope):Bool:=match c0 with
 | .Compare l [.NotIn] [r] _=>MP l&&MP r&&(ia==0&&gu Γ.N Γ.sc scope N' js&&decide (N'.Nodup)&&vP (Γ.t9 scope N') (.one p) tg&&js[p]?==some none&&js[q]?==some (some j)&&p != q && !behindInMarks .NotIn r &&
   (N'[p]?==some (Ip elt)&&oG (Γ.t9 scope N').sc (Ip elt))&&(N'[p]?==some (Ip l)&&oG (Γ.t9 scope N').sc (Ip l))&&(N'[q]?==some (Ip r)&&oG (Γ.t9 scope N').sc (Ip r))&&(Γ.N[i]?==some (Ip iter)&&oG Γ.sc (Ip iter)))
 | _=>false
noncomputable def Iq(Γ:oF)(N':List Str)(js:List (Option Nat))(p q i j:Nat):Expr->Bool
 | .ListComp elt [⟨tg,iter,[c0],ia⟩] scope _=>MP elt&&MP tg&&MP iter&&YB Γ N' js p q i j elt tg iter c0 ia scope
 | _=>false
mutual
noncomputable def bD(Γ:oF):IE->Expr->Bool
 | .var i,e=>match e with
  | .Name x _=>Γ.N[i]?==some x&&oG Γ.sc x
  | _=>false
 | .cst d,e=>match e with
  | .Constant c _ _=>CF c d
  | _=>false
 | .con x d,e=>match e with
  | .Name y _=>x==y&&vO Γ.sc x && Γ.cons.any λp=>p.1==x&&yj p.2 d
  | _=>false
 | .no,_=>false
 | .bin o a b,e=>match e with
  | .BinOp l op r _=>Kw o op&&bD Γ a l&&bD Γ b r
  | _=>false
 | .neg a,e=>match e with
  | .UnaryOp .USub l _=>bD Γ a l
  | _=>false
 | .cmp o a b,e=>match e with
  | .Compare l [op] [r] _=>Oc o op && !behindInMarks op r&&bD Γ a l&&bD Γ b r
  | _=>false
 | .chn _ _ _ _ _,_=>false
 | .and a b,e=>match e with
  | .BoolOp .And (l::m::r) pos=>bD Γ a l&&(match r with|[]=>bD Γ b m|n::r'=>bD Γ b (.BoolOp .And (m::n::r') pos))
  | _=>false
 | .or a b,e=>match e with
  | .BoolOp .Or (l::m::r) pos=>bD Γ a l&&(match r with|[]=>bD Γ b m|n::r'=>bD Γ b (.BoolOp .Or (m::n::r') pos))
  | _=>false
 | .not a,e=>match e with
  | .UnaryOp .Not l _=>bD Γ a l
  | _=>false
 | .ite _ _ _,_=>false
 | .tup es,e=>match e with
  | .Tuple ls _ _=>aM Γ es ls
  | _=>false
 | .lst es,e=>match e with
  | .List ls _=>aM Γ es ls
  | _=>false
 | .idx a b,e=>match e with
  | .Subscript l r _=>oU r&&bD Γ a l&&bD Γ b r
  | _=>false
 | .slc a lo hi,e=>match e with
  | .Subscript l (.Slice l' h' none _) _=>bD Γ a l&&(match l' with|none=>cP lo|some e=>!cP lo&&bD Γ lo e)&&(match h' with|none=>cP hi|some e=>!cP hi&&bD Γ hi e)
  | _=>false
 | .call j es,e=>match e with
  | .Call (.Name x _) args [] _=>vO Γ.sc x && Γ.fns[j]?==some (x,args.length)&&decide (args.length<1000)&&aM Γ es args
  | .Call (.Attribute (.Name x _) m ap) args [] cp=>vO Γ.sc x && Γ.tb.EH.contains (x,m,j)&&(match Γ.fns[j]? with|some (_,n)=>n==1000+args.length|none=>false)&&decide (args.length<29)&&ap.endLine==cp.line&&aM Γ es args && !args.isEmpty
  | _=>false
 | .blt b es,e=>match e with
  | .Call (.Name x _) args [] _=>vO Γ.sc x&&x==Od b&&(match b with
   | .isin T=>(match args with|[a,.Name y _]=>vO Γ.sc y&&y==(T:Str)&&["list","tuple","str","bool","int","dict"].contains T&&aM Γ es [a]|_=>false)
   | _=>!args.isEmpty&&aM Γ es args)
  | _=>false
 | .met m a es,e=>match e with
  | .Call (.Attribute o x ap) args [] cp=>x==YA m&&superB o && !args.isEmpty&&decide (args.length<29)&&ap.endLine==cp.line&&bD Γ a o&&aM Γ es args
  | _=>false
 | .comp N' js pat k it c elt,e=>match e with
  | .ListComp e [⟨tg,iter,ifs,0⟩] scope _=>gu Γ.N Γ.sc scope N' js&&zl Γ k it iter&&decide (N'.Nodup)&&vP (Γ.t9 scope N') pat tg&&((vQ pat).all λi=>js[i]?==some none)&&(match k,pat with|.enum,.one _=>false|.zip,.one _=>false|_,_=>true) &&
   (match ifs with|[]=>cP c|[t]=>!cP c&&bD (Γ.t9 scope N') c t|_=>false)&&bD (Γ.t9 scope N') elt e
  | _=>false
 | .dct0,e=>match e with
  | .Dict [] [] _=>true
  | _=>false
 | .sset a,e=>match e with
  | .Call (.Name x _) [.Call (.Name y _) [l] [] _] [] _=>x==("sorted":Str)&&y==("set":Str)&&vO Γ.sc x&&vO Γ.sc y&&noStar l&&bD Γ a l
  | _=>false
 | .dget d k x,e=>match e with
  | .Call (.Attribute o m ap) [a,b] [] cp=>m==("get":Str)&&superB o&&noStar a&&noStar b&&ap.endLine==cp.line&&bD Γ d o&&bD Γ k a&&bD Γ x b
  | _=>false
 | .dct1 k v,e=>match e with
  | .Dict [some a] [b] _=>bD Γ k a&&bD Γ v b
  | _=>false
 | .lkeys d,e=>match e with
  | .Call (.Name x _) [.Name y q] [] _=>x==("list":Str)&&vO Γ.sc x&&bD Γ d (.Name y q)
  | _=>false
 | .sdef _ _ _,_=>false
 | .svals _,_=>false
 | .skeys d,e=>match e with
  | .Call (.Name x _) [.Name y q] [] _=>x==("sorted":Str)&&vO Γ.sc x&&bD Γ d (.Name y q)
  | _=>false
 | .fld n a x,e=>match e with
  | .Attribute o y _=>x==y&&superB o&&n == Γ.tb.nc && Γ.tb.Gg.contains x&&bD Γ a o
  | _=>false
 | .rev a s,e=>match e with
  | .Subscript l (.Slice none none st _) _=>bD Γ a l&&st.isSome&&(match st with|none=>cP s|some e=>!cP s&&bD Γ s e)
  | _=>false
 | .dflt N' js p q d w,e=>match d,w with
  | .var i,.var j=>Iq Γ N' js p q i j e
  | _,_=>false
 | .isc a x bs,e=>match e with
  | .Call (.Name f _) [l,.Name y _] [] _=>f==("isinstance":Str)&&vO Γ.sc f&&y==x&&vO Γ.sc y&&noStar l && Γ.tb.isc.contains (x,bs)&&decide (bs.length <= Γ.tb.nc)&&bD Γ a l
  | _=>false
 | .mth a m js es,e=>match e with
  | .Call (.Attribute o x ap) args [] cp=>x==m&&superB o&&decide (args.length<29)&&ap.endLine==cp.line&&(js.all λp=>decide (p.1 < Γ.tb.nc) && Γ.tb.Gh.contains (p.1,m,p.2)&&(match Γ.fns[p.2]? with|some (_,n)=>n==1001+args.length|none=>false))&&bD Γ a o&&aM Γ es args
  | _=>false
noncomputable def aM(Γ:oF):nU->List Expr->Bool
 | .nil,ls=>ls.isEmpty
 | .cons e es,ls=>match ls with
  | l::ls=>noStar l&&bD Γ e l&&aM Γ es ls
  | []=>false
noncomputable def zl(Γ:oF)(k:Ik):nU->Expr->Bool
 | .nil,_=>false
 | .cons e es,l=>match k with
  | .seq=>(match es with|.nil=>Gi l&&bD Γ e l|_=>false)
  | .range=>(match l with|.Call (.Name x _) (a::args) [] _=>x==("range":Str)&&vO Γ.sc x&&noStar a&&bD Γ e a&&aM Γ es args&&decide (args.length<2)|_=>false)
  | .enum=>(match es,l with|.nil,.Call (.Name x _) [a] [] _=>x==("enumerate":Str)&&vO Γ.sc x&&noStar a&&bD Γ e a|_,_=>false)
  | .zip=>false
end
noncomputable abbrev Fn:=Nat->List Val->M Val
noncomputable def cY(K:PySem.W.Frag)(ρ:List Addr)(env:Env)(σ:L2.St)(H:Hp):Prop:=∀(i:Nat) (v:Val),env[i]?=some (some v)->∃x,σ[i]?=some (some x)/\VR K ρ H v x
theorem cY.kR{K:PySem.W.Frag}{ρ ρ':List Addr}{env:Env}{σ:L2.St}{H H':Hp}(e:cY K ρ env σ H)(g:Gw ρ H ρ' H'):cY K ρ' env σ H':=λi v q=>by
 obtain⟨x,q1,q2⟩:=e i v q;exact⟨x,q1,VR.kR g v x q2⟩
theorem cY.up{K:PySem.W.Frag}{ρ ρ':List Addr}{env:Env}{σ:L2.St}{H H':Hp}(e:cY K ρ env σ H)(g:Gr ρ H ρ' H'):cY K ρ' env σ H':=e.kR g.w
noncomputable def YC(K:PySem.W.Frag)(Q:List V->Hp->Prop):List Val->Hs->List Addr->Hp->Prop:=λvs _ ρ' H'=>∀xs,az K ρ' H' vs xs->Q xs H'
noncomputable def WT(Q:Bool->Hp->Prop):Bool->Hs->List Addr->Hp->Prop:=λb _ _ H'=>Q b H'
noncomputable def MQ(Φ:Fn)(ir:IE)(env:Env):M Bool:=bnd (aH Φ ir env) λx=>ask λh=>dj h x
noncomputable def tV(Φ:Fn)(B:Bd)(EX:Nat->List V->Hp->Prop)(ir:IE):TE:=λσ H Q=>∃ρ env h,cY B.K ρ env σ H/\HR B ρ h H/\Post B EX ρ H (WV B.K Q) (aH Φ ir env h)
noncomputable def Wv(Φ:Fn)(B:Bd)(EX:Nat->List V->Hp->Prop)(eG:nU):TA:=λσ H Q=>∃ρ env h,cY B.K ρ env σ H/\HR B ρ h H/\Post B EX ρ H (YC B.K Q) (aW Φ eG env h)
noncomputable def tT(Φ:Fn)(B:Bd)(EX:Nat->List V->Hp->Prop)(ir:IE):TT:=λσ H Q=>∃ρ env h,cY B.K ρ env σ H/\HR B ρ h H/\Post B EX ρ H (WT Q) (MQ Φ ir env h)
theorem _root_.L2.PE.imp(h:PE X e t)(i:∀σ H Q,t' σ H Q->t σ H Q):PE X e t':=λpins s σ H Q I hw=>h pins s σ H Q I (i σ H Q hw)
theorem _root_.L2.PT.imp(h:PT X e t)(i:∀σ H Q,t' σ H Q->t σ H Q):PT X e t':=λpins s σ H Q I hw=>h pins s σ H Q I (i σ H Q hw)
theorem _root_.L2.PA.imp(h:PA X es t)(i:∀σ H Q,t' σ H Q->t σ H Q):PA X es t':=λpos pins s σ H Q I hw=>h pos pins s σ H Q I (i σ H Q hw)
theorem _root_.L2.PO.imp(h:PO X e t)(i:∀σ H Q,t' σ H Q->t σ H Q):PO X e t':=λpins s σ H Q I hw=>h pins s σ H Q I (i σ H Q hw)
theorem _root_.L2.PI.imp(h:PI X tg iter t)(i:∀σ H R,t' σ H R->t σ H R):PI X tg iter t':=λpins s σ H R I hw=>h pins s σ H R I (i σ H R hw)
theorem aX{α β γ:Type}(m:M α)(f:α -> M β)(g:β -> M γ):bnd (bnd m f) g=bnd m λx=>bnd (f x) g:=by
 funext h;show (match (match m h with|.ok a h'=>f a h'|.exc c vs h'=>.exc c vs h'|.no=>.no) with|.ok a h'=>g a h'|.exc c vs h'=>.exc c vs h'|.no=>.no)=(match m h with|.ok a h'=>bnd (f a) g h'|.exc c vs h'=>.exc c vs h'|.no=>.no);cases m h<;>rfl
theorem cS{α β:Type}(a:α)(f:α -> M β):bnd (ret a) f=f a:=rfl
noncomputable def ua(B:Bd)(n:Nat)(φ:List Val->M Val):Sp:=λxs H Q _=>∃ρ h vs,vs.length=n/\HR B ρ h H/\az B.K ρ H vs xs/\Post B (λ_ _ _=>False) ρ H (WV B.K Q) (φ vs h)
noncomputable def MR(P:Program)(w:World)(B:Bd)(mg:Str->Option Value)(base:Heap)(k:Nat)(j:Nat)(x:Str)(n:Nat)(φ:List Val->M Val):Prop :=
 (n<1000/\((∃(f:Addr) (fd:FuncData) (ps:List Str),ps.length=n/\mg x=some (.ref f)/\keepIn B.K (.ref f)=true/\Binds B.K fd ps []/\fE P w B.K mg base xr k f fd ps (ua B n φ)) \/
  ∃(c:Nat) (f:Addr) (fd:FuncData) (ps:List Str) (φ0:List Val->M Val),φ = Cy c φ0/\ps.length=n+1/\mg x=some (.ref (B.cl c))/\Mk B.K (B.cl c) f/\Binds B.K fd ps []/\fE P w B.K mg base xr k f fd ps (ua B (n+1) φ0))) \/
 (1000<=n/\∃(fd:FuncData) (ps:List Str),ps.length=n-1000/\Binds B.K fd ps []/\fE P w B.K mg base xr k (B.cl (1000+j)) fd ps (ua B (n-1000) φ))
noncomputable def fY:List Str:=["len","min","max","sorted","list","tuple","str","all","any","isinstance","range","enumerate","int","bool","dict","set","zip"]
structure Ctx (Φ:Fn) (Γ:oF) (k:Nat) (X:Cx) (cl:Nat->Addr) (EX:Nat->List V->Hp->Prop):Prop where
 N:X.N = Γ.N
 sc:X.env.scope = Γ.sc
 calm:X.calm=true
 room:di (k+1) X.A
 lu:∀c xs H,¬ EX c xs H
 fns:∀j x n,Γ.fns[j]?=some (x,n)->MR X.prog X.w (bd X cl) X.mg X.base k j x n (Φ j)
 cls:∀c,c < Γ.tb.nc->Aj X.K (cl c)/\∀x ∈ Γ.tb.Gg,jU X.K (cl c) x
 Gh:∀p ∈ Γ.tb.Gh,Meth X.K (cl p.1) p.2.1 (cl (1000+p.2.2))
 EH:∀p ∈ Γ.tb.EH,∃C,X.mg p.1=some (.ref C)/\Ka X.K C p.2.1 (cl (1000+p.2.2))
 isc:∀p ∈ Γ.tb.isc,∃C,X.mg p.1=some (.ref C)/\∀c b,p.2[c]?=some b->Wt X.K (cl c)/\kitOne X.K (.ref (cl c)) (.ref C)=some b
 cons:∀p ∈ Γ.cons,∃v u,X.mg p.1=some u/\RelV v u/\∀K ρ H,VR K ρ H p.2 v
 blt:∀x∈fY,X.mg x=none
section
variable {Φ:Fn} {Γ:oF} {k:Nat} {X:Cx} {cl:Nat->Addr} {EX:Nat->List V->Hp->Prop}
theorem Ctx.units(c:Ctx Φ Γ k X cl EX):X.A.units+64<cLine:=c.room.units
theorem Ctx.vis(c:Ctx Φ Γ k X cl EX)(h:oG Γ.sc x=true):M4 X.env.scope x/\(x==("__debug__":Str))=false/\(x==("__classdict__":Str))=false:=by
 unfold oG at h;simp only[and_eq_true,or_eq_true,beq_iff_eq,not_eq_true'] at h;obtain⟨⟨h1,h2⟩,h3⟩:=h;refine⟨?_,h2,h3⟩;unfold M4;rw[c.sc]
 rcases h1 with (z|z)|z
 ·exact .inl z
 ·exact .inr (.inl z)
 ·exact .inr (.inr z)
theorem Ctx.gl(c:Ctx Φ Γ k X cl EX)(h:vO Γ.sc x=true):Gl X x/\(x==("__debug__":Str))=false/\x ≠ "__name__":=by
 unfold vO at h;simp only[and_eq_true,beq_iff_eq,not_eq_true'] at h;obtain⟨⟨h1,h2⟩,h3⟩:=h;refine⟨?_,h2,λz=>by rw[z] at h3;simp at h3⟩;show X.env.scope.names.lookup x=_;rw[c.sc];exact h1
theorem Ctx.t9(c:Ctx Φ Γ k X cl EX)(scope:Scope)(N':List Str)(cls:List (Str×Addr))(C:Addr)(s:Shared)(H:Hp)(fp:List Addr):Ctx Φ (Γ.t9 scope N') k (bu X scope N' cls C s H fp) cl EX:=by
 refine⟨rfl,?_,c.calm,c.room,c.lu,c.fns,c.cls,c.Gh,c.EH,c.isc,c.cons,c.blt⟩;show relabel scope X.env=Io scope Γ.sc;rw[<-c.sc];rfl
theorem aS(h:noStar e=true):starEach (e::es) env=(false,eval e env)::starEach es env:=by
 cases e<;>first|rfl|(simp[noStar] at h)
theorem fZ:∀{es:List Expr} {eG:nU},aM Γ eG es=true->(backTo pos (starEach es env)).any (·.1)=false
 | [],_,_=>rfl
 | e::es,.nil,h=>by simp[aM] at h
 | e::es,.cons i eG,h=>by
  simp only[aM,and_eq_true] at h;rw[aS h.1.1];show (false||(backTo pos (starEach es env)).any (·.1))=false;rw[fZ (eG:=eG) h.2];rfl
theorem qd(h:aM Γ eG es=true):(backTo pos (starEach es env)).all (λx=>!x.1)=true:=by
 have q:=fZ (pos:=pos) (env:=env) h;rw[all_eq_true];intro x hx;have:=List.any_eq_false.mp q x hx;simpa using this
theorem yk(h:oU e=true):yV e:=by
 intro o i;cases e<;>first|rfl|(simp[oU] at h)
theorem super_ok(h:superB e=true):attributeBase e x env whole=whole:=by
 cases e<;>first
  | rfl
  | skip
 rename_i f args kws pos;cases f<;>first
  | rfl
  | skip
 cases args with
 | cons a r=>rfl
 | nil =>
  cases kws with
  | cons a r=>rfl
  | nil=>simp[superB] at h
theorem cD(q:PE X e (tV Φ (bd X cl) EX ir))(he:∀whole,isTrue e X.env whole=(do let v <-whole;standAt e.pos;holding [v] (truthy v))):PT X e (tT Φ (bd X cl) EX ir) :=
 (BP q he).imp λσ H Q ⟨ρ,env,h,hE,r,p⟩=>⟨ρ,env,h,hE,r,av p λv h1 ρ1 x H1 g1 r1 q1 p1=>by
  obtain⟨b,e,w⟩:=cX r1 p1;exact⟨b,Kl r1 q1 e,w⟩⟩
theorem BN:QL X (unaryOp .USub) (λx H Q=>∃i,x=.int i/\Q (.int (-i)) H):=by
 intro pins s σ H x v Q I rx h;obtain⟨i,rfl,q⟩:=h;obtain⟨t,rfl⟩:=rx;exact neg_int ⟨.int (-i),H,I.tok _,⟨_,rfl⟩,q⟩
theorem Ir(h:PT X (.BoolOp op vs pos) t):PW X (.BoolOp op vs pos) t:=λwhole pins s σ H Q I hw=>h pins s σ H Q I hw
noncomputable def cu(Φ:Fn)(ir:IE):Prop:=∀(Γ:oF) (k:Nat) (X:Cx) (cl:Nat->Addr) (EX:Nat->List V->Hp->Prop) (e:Expr),Ctx Φ Γ k X cl EX->bD Γ ir e=true->PE X e (tV Φ (bd X cl) EX ir)/\PT X e (tT Φ (bd X cl) EX ir)
noncomputable def j4(Φ:Fn)(eG:nU):Prop:=(∀(Γ:oF) (k:Nat) (X:Cx) (cl:Nat->Addr) (EX:Nat->List V->Hp->Prop) (es:List Expr),Ctx Φ Γ k X cl EX->aM Γ eG es=true->PA X es (Wv Φ (bd X cl) EX eG))/\match eG with
 | .nil=>True
 | .cons e r=>cu Φ e/\match r with
  | .nil=>True
  | .cons e' _=>cu Φ e'
theorem zm(h:Kw o op=true):op=yi o:=of_decide_eq_true h
theorem Gj(h:Oc o op=true):op=zh o:=of_decide_eq_true h
theorem uc(hs:∀env h,aH Φ ir env h=.no):cu Φ ir:=by
 intro Γ k X cl EX e c h;exact⟨λpins s σ H Q I ⟨ρ,env,h,hE,r,p⟩=>by rw[hs] at p;exact p.elim,λpins s σ H Q I ⟨ρ,env,h,hE,r,p⟩=>by unfold MQ bnd at p;rw[hs] at p;exact p.elim⟩
theorem Ky{i:Nat}:cu Φ (.var i):=by
 intro Γ k X cl EX e c h
 (conv at h=>lhs;whnf);split at h<;>first|cases h|skip
 rename_i x pos;simp only[and_eq_true,beq_iff_eq] at h;obtain⟨v1,v2,v3⟩:=c.vis h.2;have q:PE X (.Name x pos) (tV Φ (bd X cl) EX (.var i)):=by refine(xA (by rw[c.N];exact h.1) v1 v2 v3).imp λσ H Q aF=>?_;obtain⟨ρ,env,h,hE,r,p⟩:=aF;rw[aH.eq_def] at p;dsimp only at p;obtain⟨d,e1,w⟩:=cK r p;split at e1<;>cases e1;rename_i e1;obtain⟨x,e2,e3⟩:=hE i d e1;exact⟨x,e2,w x e3⟩
 exact⟨q,cD q λ_=>rfl⟩
theorem Kz:cu Φ (.cst d):=by
 intro Γ k X cl EX e c h
 (conv at h=>lhs;whnf);split at h<;>first|cases h|skip
 rename_i cc j pos;have q:PE X (.Constant cc j pos) (tV Φ (bd X cl) EX (.cst d)):=by
  unfold CF at h;split at h<;>first|cases h|skip
  ·refine Ji.imp λσ H Q aF=>?_;obtain⟨ρ,env,h,hE,r,p⟩:=aF;simp only[aH] at p;exact ai r p _ VR.non
  ·cases eq_of_beq h;refine Na.imp λσ H Q aF=>?_;obtain⟨ρ,env,h,hE,r,p⟩:=aF;simp only[aH] at p;exact ai r p _ VR.bl
  ·cases eq_of_beq h;refine Jh.imp λσ H Q aF=>?_;obtain⟨ρ,env,h,hE,r,p⟩:=aF;simp only[aH] at p;exact ai r p _ VR.int
  ·cases eq_of_beq h;refine Jj.imp λσ H Q aF=>?_;obtain⟨ρ,env,h,hE,r,p⟩:=aF;simp only[aH] at p;exact ai r p _ VR.str
 exact⟨q,cD q λ_=>rfl⟩
theorem AY(h:yj a b=true):a=b:=by
 unfold yj at h;split at h<;>first|rfl|(cases eq_of_beq h;rfl)|cases h
theorem KA:cu Φ (.con x d):=by
 intro Γ k X cl EX e c h
 (conv at h=>lhs;whnf);split at h<;>first|cases h|skip
 rename_i y pos;simp only[and_eq_true,beq_iff_eq] at h;obtain⟨⟨h1,h2⟩,h3⟩:=h;subst h1;obtain⟨g1,g2,g3⟩:=c.gl h2;obtain⟨p,hp,h4⟩:=List.any_eq_true.mp h3;simp only[and_eq_true,beq_iff_eq] at h4;obtain⟨v,u,m1,m2,m3⟩:=c.cons p hp;rw[h4.1] at m1;have q:PE X (.Name x pos) (tV Φ (bd X cl) EX (.con x d)):=by refine(yO g1 m1 m2 g2).imp λσ H Q aF=>?_;obtain⟨ρ,env,h,hE,r,p⟩:=aF;simp only[aH] at p;exact ai r p _ (by rw[<-AY h4.2];exact m3 _ _ _)
 exact⟨q,cD q λ_=>rfl⟩
theorem Oe:cu Φ .no:=by
 intro Γ k X cl EX e c h
 (conv at h=>lhs;whnf);cases h
theorem CG:j4 Φ .nil:=by
 refine⟨fun Γ k X cl EX es c h=>?_,trivial⟩;rw[aM] at h;cases es with
 | cons a r=>cases h
 | nil =>refine xN.imp λσ H Q aF=>?_;obtain⟨ρ,env,h,hE,r,p⟩:=aF;simp only[aW] at p;exact ai r p _ az.nil
theorem zo(h1:cu Φ e)(h2:j4 Φ es):j4 Φ (.cons e es):=by
 refine⟨fun Γ k X cl EX ls c h=>?_,h1,?_⟩
 ·rw[aM.eq_def] at h;dsimp only at h
  cases ls with
  | nil=>cases h
  | cons l ls =>simp only[and_eq_true] at h;refine(lK (h1 Γ k X cl EX l c h.1.2).1 (h2.1 Γ k X cl EX ls c h.2) (aS h.1.1)).imp λσ H Q aF=>?_;obtain⟨ρ,env,h,hE,r,p⟩:=aF;simp only[aW] at p;refine⟨ρ,env,h,hE,r,av p λv h1 ρ1 x H1 g1 r1 q1 p1=>⟨ρ1,env,h1,hE.up g1,r1,bC p1 λvs h2 ρ2 H2 g2 r2 p2 xs q2=>?_⟩⟩;exact ai r2 p2 _ (az.cons (VR.up g2 _ _ q1) q2)
 ·cases es with
  | nil=>trivial
  | cons e' r=>exact h2.2.1
theorem KC(ha:cu Φ a)(hb:cu Φ b):cu Φ (.bin o a b):=by
 intro Γ k X cl EX e c h
 (conv at h=>lhs;whnf);split at h<;>first|cases h|skip
 rename_i l op r pos;simp only[and_eq_true] at h;obtain⟨⟨h1,h2⟩,h3⟩:=h;have eo:op=yi o:=zm h1;subst eo;have q:PE X (.BinOp l (yi o) r pos) (tV Φ (bd X cl) EX (.bin o a b)):=by refine(Nu (Kg (cl:=cl) (EX:=EX) o) (ha Γ k X cl EX l c h2).1 (hb Γ k X cl EX r c h3).1).imp λσ H Q aF=>?_;obtain⟨ρ,env,h,hE,r,p⟩:=aF;simp only[aH] at p;exact⟨ρ,env,h,hE,r,av p λv h1 ρ1 x H1 g1 r1 q1 p1=>⟨ρ1,env,h1,hE.up g1,r1,av p1 λw h2 ρ2 y H2 g2 r2 q2 p2=>⟨ρ2,h2,v,w,r2,VR.up g2 _ _ q1,q2,p2⟩⟩⟩
 exact⟨q,cD q λ_=>rfl⟩
theorem KD(ha:cu Φ a):cu Φ (.neg a):=by
 intro Γ k X cl EX e c h
 (conv at h=>lhs;whnf);split at h<;>first|cases h|skip
 rename_i l pos;have q:PE X (.UnaryOp .USub l pos) (tV Φ (bd X cl) EX (.neg a)):=by
  refine(Nv BN (ha Γ k X cl EX l c h).1).imp λσ H Q aF=>?_;obtain⟨ρ,env,h,hE,r,p⟩:=aF;simp only[aH] at p;refine⟨ρ,env,h,hE,r,av p λv h1 ρ1 x H1 g1 r1 q1 p1=>?_⟩;cases v<;>first|exact p1.elim|skip
  rw[VR] at q1;exact⟨_,q1,ai r1 p1 _ VR.int⟩
 exact⟨q,cD q λ_=>rfl⟩
theorem KG(ha:cu Φ a)(hb:cu Φ b):cu Φ (.cmp o a b):=by
 intro Γ k X cl EX e c h
 (conv at h=>lhs;whnf);split at h<;>first|cases h|skip
 rename_i l op r pos;simp only[and_eq_true,not_eq_true'] at h;obtain⟨⟨⟨h1,h4⟩,h2⟩,h3⟩:=h;have eo:op=zh o:=Gj h1;subst eo;refine⟨(Fd (CC (cl:=cl) c.units o) (ha Γ k X cl EX l c h2).1 (hb Γ k X cl EX r c h3).1 h4).imp λσ H Q ⟨ρ,env,h,hE,r,p⟩=>?_,(yR (CC (cl:=cl) c.units o) (ha Γ k X cl EX l c h2).1 (hb Γ k X cl EX r c h3).1 h4).imp λσ H Q ⟨ρ,env,h,hE,r,p⟩=>?_⟩
 ·simp only[aH] at p;refine⟨ρ,env,h,hE,r,av p λv h1 ρ1 x H1 g1 r1 q1 p1=>⟨ρ1,env,h1,hE.up g1,r1,av p1 λw h2 ρ2 y H2 g2 r2 q2 p2=>?_⟩⟩;obtain⟨t,e,p3⟩:=aA p2;exact⟨ρ2,h2,v,w,t,r2,VR.up g2 _ _ q1,q2,e,ai r2 p3 _ VR.bl⟩
 ·simp only[MQ,aH,aX,cS] at p;refine⟨ρ,env,h,hE,r,av p λv h1 ρ1 x H1 g1 r1 q1 p1=>⟨ρ1,env,h1,hE.up g1,r1,av p1 λw h2 ρ2 y H2 g2 r2 q2 p2=>?_⟩⟩;obtain⟨t,e,p3⟩:=aA p2;obtain⟨t',e',w'⟩:=cX r2 p3;cases (show some t=some t' from e');exact⟨ρ2,h2,v,w,t,r2,VR.up g2 _ _ q1,q2,e,t,rfl,w'⟩
theorem KH(ha:cu Φ a)(hb:cu Φ b)(hd:cu Φ d):cu Φ (.chn o o' a b d):=uc λ_ _=>rfl
end
end Hv
end
section
namespace Hv
open PySem L2 PyProof.Rows
section
variable {B:Bd} {EX:Nat->List V->Hp->Prop} {ρ:List Addr} {H:Hp} {β:Type} {W:β -> Hs->List Addr->Hp->Prop} {h:Hs}
theorem post_bool(p:Post B EX ρ H W (bnd (pY v) f h)):∃t,v=.bl t/\Post B EX ρ H W (f t h):=by
 cases v with
 | bl t=>exact⟨t,rfl,p⟩
 | _=>exact p.elim
theorem nk(p:Post B EX ρ H W (bnd m F h))(k:∀v h1,Post B EX ρ H W (F v h1)->∃t,dj h1 v=some t/\∀ρ1 H1,Gr ρ H ρ1 H1->HR B ρ1 h1 H1->Q t H1) :
  Post B EX ρ H (WT Q) (bnd m (λx=>ask λh=>dj h x) h):=by
 unfold bnd at p |-;cases e:m h with
 | ok v h1 =>
  rw[e] at p;obtain⟨t,e1,q⟩:=k v h1 p;show Post B EX ρ H (WT Q) (ask (λh=>dj h v) h1);have e2:ask (λh=>dj h v) h1=.ok t h1:=by unfold ask bh;dsimp only;rw[e1]
  rw[e2];exact λρ1 H1 g r=>q ρ1 H1 g r
 | exc c vs h1=>rw[e] at p;exact p
 | no=>rw[e] at p;exact p
end
section
variable {Φ:Fn} {Γ:oF} {k:Nat} {X:Cx} {cl:Nat->Addr} {EX:Nat->List V->Hp->Prop}
theorem KI(ha:cu Φ a)(hb:cu Φ b):cu Φ (.and a b):=by
 intro Γ k X cl EX e c h
 (conv at h=>lhs;whnf);split at h<;>first|cases h|skip
 rename_i l m r pos;simp only[and_eq_true] at h;obtain⟨h1,h2⟩:=h;have hB:PE X (.BoolOp .And (m::r) pos) (tV Φ (bd X cl) EX b)/\PW X (.BoolOp .And (m::r) pos) (tT Φ (bd X cl) EX b):=by
  cases r with
  | nil=>exact⟨BE (hb Γ k X cl EX m c h2).1,ET (hb Γ k X cl EX m c h2).2⟩
  | cons n r'=>exact⟨(hb Γ k X cl EX _ c h2).1,Ir (hb Γ k X cl EX _ c h2).2⟩
 refine⟨(Jo (ha Γ k X cl EX l c h1).1 hB.1).imp λσ H Q ⟨ρ,env,h,hE,r,p⟩=>?_,(Jl (ha Γ k X cl EX l c h1).2 hB.2).pt.imp λσ H Q ⟨ρ,env,h,hE,r,p⟩=>?_⟩
 ·simp only[aH] at p
  refine⟨ρ,env,h,hE,r,av p λv h1 ρ1 x H1 g1 r1 q1 p1=>?_⟩;obtain⟨t,rfl,p2⟩:=post_bool p1;rw[VR] at q1;refine⟨t,q1,?_⟩;cases t with
  | true =>rw[if_pos rfl] at p2 |-;refine⟨ρ1,env,h1,hE.up g1,r1,av p2 λw h2 ρ2 y H2 g2 r2 q2 p3=>?_⟩;obtain⟨u,rfl,p4⟩:=post_bool p3;exact ai r2 p4 _ q2
  | false =>rw[if_neg Bool.false_ne_true] at p2 |-;exact ai r1 p2 _ VR.bl
 ·simp only[MQ,aH,aX] at p
  refine⟨ρ,env,h,hE,r,nk p λv h1 p1=>?_⟩;obtain⟨t,rfl,p2⟩:=post_bool p1;refine⟨t,rfl,λρ1 H1 g1 r1=>?_⟩;have p2:=Post.up g1 p2;cases t with
  | true =>rw[if_pos rfl] at p2 |-;simp only[aX,cS] at p2;refine⟨ρ1,env,h1,hE.up g1,r1,nk p2 λw h2 p3=>?_⟩;obtain⟨u,rfl,p4⟩:=post_bool p3;exact⟨u,rfl,λρ2 H2 g2 r2=>by obtain⟨t',e',w'⟩:=cX r2 (Post.up g2 p4);cases (show some u=some t' from e');exact w'⟩
  | false =>rw[if_neg Bool.false_ne_true] at p2 |-;obtain⟨t',e',w'⟩:=cX r1 (show Post _ _ ρ1 H1 _ (ask (λh=>dj h (.bl false)) h1) from p2);cases (show some false=some t' from e');exact w'
theorem Of(ha:cu Φ a)(hb:cu Φ b):cu Φ (.or a b):=by
 intro Γ k X cl EX e c h
 (conv at h=>lhs;whnf);split at h<;>first|cases h|skip
 rename_i l m r pos;simp only[and_eq_true] at h;obtain⟨h1,h2⟩:=h;have hB:PE X (.BoolOp .Or (m::r) pos) (tV Φ (bd X cl) EX b)/\PW X (.BoolOp .Or (m::r) pos) (tT Φ (bd X cl) EX b):=by
  cases r with
  | nil=>exact⟨BE (hb Γ k X cl EX m c h2).1,Jk (hb Γ k X cl EX m c h2).2⟩
  | cons n r'=>exact⟨(hb Γ k X cl EX _ c h2).1,Ir (hb Γ k X cl EX _ c h2).2⟩
 refine⟨(Nf (ha Γ k X cl EX l c h1).1 hB.1).imp λσ H Q ⟨ρ,env,h,hE,r,p⟩=>?_,(Nb (ha Γ k X cl EX l c h1).2 hB.2).pt.imp λσ H Q ⟨ρ,env,h,hE,r,p⟩=>?_⟩
 ·simp only[aH] at p
  refine⟨ρ,env,h,hE,r,av p λv h1 ρ1 x H1 g1 r1 q1 p1=>?_⟩;obtain⟨t,rfl,p2⟩:=post_bool p1;rw[VR] at q1;refine⟨t,q1,?_⟩;cases t with
  | false =>rw[if_neg Bool.false_ne_true] at p2 |-;refine⟨ρ1,env,h1,hE.up g1,r1,av p2 λw h2 ρ2 y H2 g2 r2 q2 p3=>?_⟩;obtain⟨u,rfl,p4⟩:=post_bool p3;exact ai r2 p4 _ q2
  | true =>rw[if_pos rfl] at p2 |-;exact ai r1 p2 _ VR.bl
 ·simp only[MQ,aH,aX] at p
  refine⟨ρ,env,h,hE,r,nk p λv h1 p1=>?_⟩;obtain⟨t,rfl,p2⟩:=post_bool p1;refine⟨t,rfl,λρ1 H1 g1 r1=>?_⟩;have p2:=Post.up g1 p2;cases t with
  | false =>rw[if_neg Bool.false_ne_true] at p2 |-;simp only[aX,cS] at p2;refine⟨ρ1,env,h1,hE.up g1,r1,nk p2 λw h2 p3=>?_⟩;obtain⟨u,rfl,p4⟩:=post_bool p3;exact⟨u,rfl,λρ2 H2 g2 r2=>by obtain⟨t',e',w'⟩:=cX r2 (Post.up g2 p4);cases (show some u=some t' from e');exact w'⟩
  | true =>rw[if_pos rfl] at p2 |-;obtain⟨t',e',w'⟩:=cX r1 (show Post _ _ ρ1 H1 _ (ask (λh=>dj h (.bl true)) h1) from p2);cases (show some true=some t' from e');exact w'
theorem KJ(ha:cu Φ a):cu Φ (.not a):=by
 intro Γ k X cl EX e c h
 (conv at h=>lhs;whnf);split at h<;>first|cases h|skip
 rename_i l pos;refine⟨(Jp (ha Γ k X cl EX l c h).1).imp λσ H Q ⟨ρ,env,h,hE,r,p⟩=>?_,(Jm (ha Γ k X cl EX l c h).2).imp λσ H Q ⟨ρ,env,h,hE,r,p⟩=>?_⟩
 ·simp only[aH] at p;refine⟨ρ,env,h,hE,r,av p λv h1 ρ1 x H1 g1 r1 q1 p1=>?_⟩;obtain⟨t,rfl,p2⟩:=post_bool p1;rw[VR] at q1;exact⟨t,q1,ai r1 p2 _ VR.bl⟩
 ·simp only[MQ,aH,aX] at p;refine⟨ρ,env,h,hE,r,nk p λv h1 p1=>?_⟩;obtain⟨t,rfl,p2⟩:=post_bool p1;refine⟨t,rfl,λρ1 H1 g1 r1=>?_⟩;obtain⟨t',e',w'⟩:=cX r1 (show Post _ _ ρ1 H1 _ (ask (λh=>dj h (.bl (!t))) h1) from Post.up g1 p2);cases (show some (!t)=some t' from e');exact w'
theorem KL(ht:cu Φ t)(ha:cu Φ a)(hb:cu Φ b):cu Φ (.ite t a b):=uc λ_ _=>rfl
theorem KN(hs:j4 Φ es):cu Φ (.tup es):=by
 intro Γ k X cl EX e c h
 (conv at h=>lhs;whnf);split at h<;>first|cases h|skip
 rename_i ls x1 pos;have q:PE X (.Tuple ls x1 pos) (tV Φ (bd X cl) EX (.tup es)):=by refine(JM (hs.1 Γ k X cl EX ls c h)).imp λσ H Q aF=>?_;obtain⟨ρ,env,h,hE,r,p⟩:=aF;simp only[aH] at p;refine⟨ρ,env,h,hE,r,bC p λvs h1 ρ1 H1 g1 r1 p1 xs q1=>?_⟩;obtain⟨e1,p2⟩:=aJ p1;exact⟨by rw[<-q1.length];exact of_decide_eq_true e1,λq hq=>qa r1 hq q1 p2⟩
 exact⟨q,cD q λ_=>rfl⟩
theorem KO(hs:j4 Φ es):cu Φ (.lst es):=by
 intro Γ k X cl EX e c h
 (conv at h=>lhs;whnf);split at h<;>first|cases h|skip
 rename_i ls pos;have q:PE X (.List ls pos) (tV Φ (bd X cl) EX (.lst es)):=by refine(JN (hs.1 Γ k X cl EX ls c h)).imp λσ H Q aF=>?_;obtain⟨ρ,env,h,hE,r,p⟩:=aF;simp only[aH] at p;refine⟨ρ,env,h,hE,r,bC p λvs h1 ρ1 H1 g1 r1 p1 xs q1=>?_⟩;obtain⟨e1,p2⟩:=aJ p1;exact⟨by rw[<-q1.length];exact of_decide_eq_true e1,λq hq=>cz r1 hq q1 p2⟩
 exact⟨q,cD q λ_=>rfl⟩
theorem Gk:cu Φ .dct0:=by
 intro Γ k X cl EX e c h
 (conv at h=>lhs;whnf);split at h<;>first|cases h|skip
 rename_i pos;have q:PE X (.Dict [] [] pos) (tV Φ (bd X cl) EX .dct0):=by refine(B3 (X:=X) (pos:=pos)).imp λσ H Q aF=>?_;obtain⟨ρ,env,h,hE,r,p⟩:=aF;simp only[aH] at p;exact λa ha=>vL (o:=.dct []) (O:=.dK []) r ha ⟨[],aO,(by rw[gx])⟩ p
 exact⟨q,cD q λ_=>rfl⟩
theorem KP(ha:cu Φ a)(hb:cu Φ b):cu Φ (.idx a b):=by
 intro Γ k X cl EX e c h
 (conv at h=>lhs;whnf);split at h<;>first|cases h|skip
 rename_i l r pos;simp only[and_eq_true] at h;have q:PE X (.Subscript l r pos) (tV Φ (bd X cl) EX (.idx a b)):=by refine(NK (Km (cl:=cl) c.units) (ha Γ k X cl EX l c h.1.2).1 (hb Γ k X cl EX r c h.2).1 (yk h.1.1)).imp λσ H Q aF=>?_;obtain⟨ρ,env,h,hE,r,p⟩:=aF;simp only[aH] at p;refine⟨ρ,env,h,hE,r,av p λv h1 ρ1 x H1 g1 r1 q1 p1=>⟨ρ1,env,h1,hE.up g1,r1,av p1 λw h2 ρ2 y H2 g2 r2 q2 p2=>?_⟩⟩;obtain⟨z,e,w'⟩:=cX r2 p2;exact⟨ρ2,h2,v,w,z,r2,VR.up g2 _ _ q1,q2,e,w'⟩
 exact⟨q,cD q λ_=>rfl⟩
noncomputable def MS(Φ:Fn)(ir:IE)(env:Env):M (Option Int):=if cP ir=true then ret none else bnd (aH Φ ir env) λv=>bnd (bh (ic v)) λi=>ret (some i)
noncomputable def tP(Φ:Fn)(B:Bd)(EX:Nat->List V->Hp->Prop)(ir:IE):TO:=λσ H Q=>∃ρ env h,cY B.K ρ env σ H/\HR B ρ h H/\Post B EX ρ H (λo _ _ H'=>Q o H') (MS Φ ir env h)
theorem sJ{i:Int}(h:ic d=some i):d=.int i:=by cases d<;>cases h;rfl
theorem ud(hi:cu Φ ir)(c:Ctx Φ Γ k X cl EX)(h:(match o with|none=>cP ir|some e=>!cP ir&&bD Γ ir e)=true):PO X o (tP Φ (bd X cl) EX ir):=by
 cases o with
 | none =>refine Fo.imp λσ H Q aF=>?_;obtain⟨ρ,env,h',hE,r,p⟩:=aF;unfold MS at p;rw[if_pos h] at p;exact ai r p
 | some e =>simp only[and_eq_true,not_eq_true'] at h;refine(Fp (hi Γ k X cl EX e c h.2).1).imp λσ H Q aF=>?_;obtain⟨ρ,env,h',hE,r,p⟩:=aF;unfold MS at p;rw[if_neg (by rw[h.1];exact Bool.false_ne_true)] at p;refine⟨ρ,env,h',hE,r,av p λv h1 ρ1 x H1 g1 r1 q1 p1=>?_⟩;obtain⟨i,e1,p2⟩:=bL p1;cases sJ e1;rw[VR] at q1;exact⟨i,q1,ai r1 p2⟩
theorem KQ{a lo hi:IE}(ha:cu Φ a)(hl:cu Φ lo)(hh:cu Φ hi):cu Φ (.slc a lo hi):=by
 intro Γ k X cl EX e c h
 (conv at h=>lhs;whnf);split at h<;>first|cases h|skip
 rename_i l l' h' p2 pos;simp only[and_eq_true] at h;have q:PE X (.Subscript l (.Slice l' h' none p2) pos) (tV Φ (bd X cl) EX (.slc a lo hi)):=by refine(BW (Kn (cl:=cl) (EX:=EX)) (ha Γ k X cl EX l c h.1.1).1 (ud hl c h.1.2) (ud hh c h.2)).imp λσ H Q aF=>?_;obtain⟨ρ,env,h,hE,r,p⟩:=aF;simp only[aH] at p;refine⟨ρ,env,h,hE,r,av p λv h1 ρ1 x H1 g1 r1 q1 p1=>⟨ρ1,env,h1,hE.up g1,r1,bC (m:=MS Φ lo env) p1 λlo' h2 ρ2 H2 g2 r2 p3=>⟨ρ2,env,h2,(hE.up g1).up g2,r2,bC (m:=MS Φ hi env) p3 λhi' h3 ρ3 H3 g3 r3 p4=>?_⟩⟩⟩;exact⟨ρ3,h3,v,r3,VR.up (g2.trans g3) _ _ q1,p4⟩
 exact⟨q,cD q λ_=>rfl⟩
theorem KR(ha:cu Φ a)(hs:cu Φ sx):cu Φ (.rev a sx):=by
 intro Γ k X cl EX e c h
 (conv at h=>lhs;whnf);split at h<;>first|cases h|skip
 rename_i l st p2 pos;simp only[and_eq_true] at h;obtain⟨⟨h1,h2⟩,h3⟩:=h;obtain⟨st,rfl⟩:=Option.isSome_iff_exists.mp h2;have q:PE X (.Subscript l (.Slice none none (some st) p2) pos) (tV Φ (bd X cl) EX (.rev a sx)):=by refine(J8 (ha Γ k X cl EX l c h1).1 (ud hs c h3)).imp λσ H Q aF=>?_;obtain⟨ρ,env,h,hE,r,p⟩:=aF;simp only[aH] at p;refine⟨ρ,env,h,hE,r,av p λv h1 ρ1 x H1 g1 r1 q1 p1=>⟨ρ1,env,h1,hE.up g1,r1,bC (m:=MS Φ sx env) p1 λlo' h2 ρ2 H2 g2 r2 p3=>?_⟩⟩;obtain⟨e1,p4⟩:=aJ p3;obtain⟨xs,e2,p5⟩:=aA p4;obtain⟨ad,ys,rfl,k1,k2⟩:=dQ r2 (VR.up g2 _ _ q1) e2;exact⟨of_decide_eq_true e1,ad,ys,rfl,k1,λq hq=>cz r2 hq (az.rev k2) p5⟩
 exact⟨q,cD q λ_=>rfl⟩
theorem iV:∀{eG:nU} {ls:List Expr} {vs:List Val} {h h':Hs},aM Γ eG ls=true->aW Φ eG env h=.ok vs h'->vs.length=ls.length:=by
 intro eG
 induction eG using nU.rec (motive_1:=λ_=>True) with
 | nil =>
  intro ls ds h h' a b;rw[aM] at a;simp only[aW,ret] at b;cases b;cases ls with
  | nil=>rfl
  | cons _ _=>cases a
 | cons e es _ ih =>
  intro ls ds h h' a b;rw[aM.eq_def] at a;dsimp only at a;cases ls with
  | nil=>cases a
  | cons l ls =>
   simp only[and_eq_true] at a;simp only[aW,bnd] at b;cases e1:aH Φ e env h with
   | ok v h1 =>
    rw[e1] at b;dsimp only at b;cases e2:aW Φ es env h1 with
    | ok vs h2 =>rw[e2] at b;cases b;simp[ih a.2 e2]
    | exc _ _ _=>rw[e2] at b;cases b
    | no=>rw[e2] at b;cases b
   | exc _ _ _=>rw[e1] at b;cases b
   | no=>rw[e1] at b;cases b
 | _=>trivial
theorem dS{α β:Type}{W:β -> Hs->List Addr->Hp->Prop}{W':α -> Hs->List Addr->Hp->Prop}{m:M α}{f:α -> M β}(p:Post B EX ρ H W (bnd m f h))(k:∀v h1 ρ1 H1,m h=.ok v h1->Gr ρ H ρ1 H1->HR B ρ1 h1 H1->Post B EX ρ1 H1 W (f v h1)->W' v h1 ρ1 H1):Post B EX ρ H W' (m h):=by
 unfold bnd at p;cases e:m h with
 | ok v h1=>rw[e] at p;exact λρ1 H1 g r=>k v h1 ρ1 H1 e g r (Post.up g p)
 | exc c vs h1=>rw[e] at p;exact p
 | no=>rw[e] at p;exact p
theorem dR{α:Type}{h:Hs}{W:α -> Hs->List Addr->Hp->Prop}{o:Out α}(n:∀c xs H,¬ EX c xs H)(p:Post B EX ρ H W o):Post B (λ_ _ _=>False) ρ H W o:=by
 cases o with
 | ok a h'=>exact p
 | exc c vs h'=>exact λρ' H' xs g r q=>n _ _ _ (p ρ' H' xs g r q)
 | no=>exact p
theorem zp{n c:Nat}{φ0:List Val->M Val}(r:HR B ρ h H)(hv:az B.K ρ H vs xs)(hl:vs.length=n)(p:Post B (λ_ _ _=>False) ρ H (WV B.K Q) (Cy c φ0 vs h))
  (nx:H x=none) (nd:H dx=none) (ne:dx≠x):ua B (n+1) φ0 (.ref x::xs) (upd (upd H dx (.own x)) x (.ins (B.cl c) dx [])) (λv H2=>v=.non/\Q (.ref x) H2) E:=by
 have r1:HR B ρ h (upd H dx (.own x)):=r.side nd;have Ww:(upd H dx (.own x)) x=none:=by rw[au λz=>ne z.symm];exact nx
 have g:Gr ρ H (ρ ++ [x]) (upd (upd H dx (.own x)) x (.ins (B.cl c) dx [])):=(Gr.side nd).trans (Gr.new Ww);have r2:HR B (ρ ++ [x]) (h++[.ins c []]) (upd (upd H dx (.own x)) x (.ins (B.cl c) dx [])):=r1.new Ww ⟨dx,[],aO,rfl⟩;have hx:(ρ ++ [x])[h.length]?=some x:=by rw[<-r.len];simp
 refine⟨ρ ++ [x],h++[.ins c []],.ref h.length::vs,by simp[hl],r2,az.cons (VR.ref hx) (az.up g _ _ hv),?_⟩;have p2:Post B (λ_ _ _=>False) (ρ ++ [x]) (upd (upd H dx (.own x)) x (.ins (B.cl c) dx [])) (WV B.K Q) (bnd (φ0 (.ref h.length::vs)) (λr=>match r with|.non=>ret (.ref h.length)|_=>bh none) (h++[.ins c []])):=Post.up g p;refine bC p2 λv h1 ρ1 H1 g1 r3 p3 y hy=>?_;cases v<;>first|exact p3.elim|skip
 rw[VR] at hy;exact⟨hy,ai r3 p3 _ (VR.ref (oS g1.pre hx))⟩
theorem Gm{j:Nat}{k:Nat}(hs:j4 Φ es)(c:Ctx Φ Γ k X cl EX)
  (h:(vO Γ.sc x && Γ.fns[j]?==some (x,args.length)&&decide (args.length<1000)&&aM Γ es args)=true):PE X (.Call (.Name x p) args [] pos) (tV Φ (bd X cl) EX (.call j es))/\PT X (.Call (.Name x p) args [] pos) (tT Φ (bd X cl) EX (.call j es)):=by
 simp only[and_eq_true,beq_iff_eq,decide_eq_true_eq] at h;obtain⟨⟨⟨h1,h2⟩,h3⟩,h4⟩:=h;obtain⟨g1,g2,g3⟩:=c.gl h1;have room:di k X.A:=c.room.mono (le_succ k);have q:PE X (.Call (.Name x p) args [] pos) (tV Φ (bd X cl) EX (.call j es)):=by
  rcases c.fns j x _ h2 with ⟨_,⟨f,fd,ps,f1,f2,f3,f4,f5⟩|⟨cc,f,fd,ps,φ0,f0,f1,f2,f3,f4,f5⟩⟩|⟨z,_⟩
  ·cases args with
   | nil =>
    cases es with
    | cons i eG=>rw[aM.eq_def] at h4;cases h4
    | nil =>refine(BS f5 room g1 f2 f3 f4 .nil pJ g2).imp λσ H Q aF=>?_;obtain⟨ρ,env,h,hE,r,p⟩:=aF;simp only[aH,aW,cS] at p;exact⟨ρ,h,[],rfl,r,az.nil,dR (h:=h) c.lu p⟩
   | cons l ls =>
    cases es with
    | nil=>rw[aM] at h4;cases h4
    | cons i eG =>have h5:=h4;rw[aM.eq_def] at h5;dsimp only at h5;simp only[and_eq_true] at h5;refine(Ff f5 room g1 f2 f3 f4 .nil pJ (hs.1 Γ k X cl EX _ c h4) g2 (aS h5.1.1) (fZ h5.2)).imp λσ H Q aF=>?_;obtain⟨ρ,env,h,hE,r,p⟩:=aF;simp only[aH] at p;refine⟨ρ,env,h,hE,r,dS p λvs h1 ρ1 H1 e1 g1 r1 p1 xs q1=>⟨ρ1,h1,vs,iV h4 e1,r1,by rw[append_nil];exact q1,dR (h:=h1) c.lu p1⟩⟩
  ·cases args with
   | nil =>
    cases es with
    | cons i eG=>rw[aM.eq_def] at h4;cases h4
    | nil =>refine(BU f3 f5 c.room g1 f2 f4 .nil pJ g2).imp λσ H Q aF=>?_;obtain⟨ρ,env,h,hE,r,p⟩:=aF;simp only[aH,aW,cS] at p;intro y dy ny Sx Sy;rw[f0] at p;exact zp (B:=bd X cl) r az.nil rfl (dR (h:=h) c.lu p) ny Sx Sy
   | cons l ls =>
    cases es with
    | nil=>rw[aM] at h4;cases h4
    | cons i eG =>have h5:=h4;rw[aM.eq_def] at h5;dsimp only at h5;simp only[and_eq_true] at h5;refine(Fg f3 f5 c.room g1 f2 f4 .nil pJ (hs.1 Γ k X cl EX _ c h4) g2 (aS h5.1.1) (fZ h5.2)).imp λσ H Q aF=>?_;obtain⟨ρ,env,h,hE,r,p⟩:=aF;simp only[aH] at p;refine⟨ρ,env,h,hE,r,dS p λvs h1 ρ1 H1 e1 g1 r1 p1 xs q1 y dy ny Sx Sy=>?_⟩;rw[f0] at p1;rw[append_nil];exact zp (B:=bd X cl) r1 q1 (iV h4 e1) (dR (h:=h1) c.lu p1) ny Sx Sy
  ·omega
 exact⟨q,cD q λ_=>rfl⟩
theorem Gn{j:Nat}{k:Nat}(hs:j4 Φ es)(c:Ctx Φ Γ k X cl EX)
  (h:(vO Γ.sc x && Γ.tb.EH.contains (x,m,j)&&(match Γ.fns[j]? with|some (_,n)=>n==1000+args.length|none=>false)&&decide (args.length<29)&&ap.endLine==cp.line&&aM Γ es args && !args.isEmpty)=true) :
  PE X (.Call (.Attribute (.Name x p) m ap) args [] cp) (tV Φ (bd X cl) EX (.call j es))/\PT X (.Call (.Attribute (.Name x p) m ap) args [] cp) (tT Φ (bd X cl) EX (.call j es)):=by
 simp only[and_eq_true,beq_iff_eq,decide_eq_true_eq,contains_iff_mem] at h;obtain⟨⟨⟨⟨⟨⟨h1,h2⟩,h3⟩,h4⟩,h5⟩,h6⟩,h7⟩:=h;obtain⟨g1,g2,g3⟩:=c.gl h1;obtain⟨C,hm,cm⟩:=c.EH _ h2;have hf:∃xx,Γ.fns[j]?=some (xx,1000+args.length):=by
  cases ef:Γ.fns[j]? with
  | none=>rw[ef] at h3;cases h3
  | some q=>rw[ef] at h3;obtain⟨q1,q2⟩:=q;exact⟨q1,by rw[show q2=_ from eq_of_beq h3]⟩
 obtain⟨xx,hf⟩:=hf;have room:di k X.A:=c.room.mono (le_succ k)
 rcases c.fns j xx _ hf with ⟨z,_⟩|⟨_,fd,ps,f1,f4,f5⟩
 ·omega
 rw[show 1000+args.length-1000=args.length by omega] at f5;have few:((backTo cp (starEach args X.env)).all (λx=>!x.1)&&(backToKw cp (keywordEach [] X.env)).all (λx=>x.1.isSome)
   && decide (args.length+([]:List Keyword).length+(if ([]:List Keyword).isEmpty then 0 else 1)<30))=true:=by
  rw[qd h6];simp only[Bool.true_and,and_eq_true];exact⟨rfl,decide_eq_true (by simp;omega)⟩
 have hl:(ap.endLine==cp.line)=true:=by rw[h5];exact beq_self_eq_true _
 have q:PE X (.Call (.Attribute (.Name x p) m ap) args [] cp) (tV Φ (bd X cl) EX (.call j es)):=by
  cases args with
  | nil=>exact absurd h7 (by simp)
  | cons l ls =>
   cases es with
   | nil=>rw[aM] at h6;cases h6
   | cons i eG =>have h8:=h6;rw[aM.eq_def] at h8;dsimp only at h8;simp only[and_eq_true] at h8;refine(Kc (k:=k) f5 room g1 hm cm f4 (hs.1 Γ k X cl EX _ c h6) g2 few hl (aS h8.1.1) (fZ h8.2)).imp λσ H Q aF=>?_;obtain⟨ρ,env,h,hE,r,p⟩:=aF;simp only[aH] at p;refine⟨ρ,env,h,hE,r,dS p λvs h1 ρ1 H1 e1 g1 r1 p1 xs q1=>⟨ρ1,h1,vs,iV h6 e1,r1,q1,dR (h:=h1) c.lu p1⟩⟩
 exact⟨q,cD q λ_=>rfl⟩
theorem Gp{j:Nat}(hs:j4 Φ es):cu Φ (.call j es):=by
 intro Γ k X cl EX e c h
 (conv at h=>lhs;whnf);split at h<;>first|cases h|skip
 ·exact Gm hs c h
 ·exact Gn hs c h
theorem KS{n:Nat}(ha:cu Φ a):cu Φ (.fld n a x):=by
 intro Γ k X cl EX e c h
 (conv at h=>lhs;whnf);split at h<;>first|cases h|skip
 rename_i o y pos;simp only[and_eq_true,beq_iff_eq,contains_iff_mem] at h;obtain⟨⟨⟨⟨h1,h2⟩,h3⟩,h4⟩,h5⟩:=h;subst h1;have q:PE X (.Attribute o x pos) (tV Φ (bd X cl) EX (.fld n a x)):=by
  refine(pe_fld (ha Γ k X cl EX o c h5).1 (super_ok h2)).imp λσ H Q aF=>?_;obtain⟨ρ,env,h,hE,r,p⟩:=aF;simp only[aH] at p;refine⟨ρ,env,h,hE,r,av p λv h1 ρ1 y H1 g1 r1 q1 p1=>?_⟩;obtain⟨z,e1,w⟩:=cX r1 p1;cases v<;>first|(cases e1;done)|(rw[VR] at q1;exact q1.elim)|skip
  rename_i i;rw[VR] at q1;obtain⟨ad,rfl,q1⟩:=q1;have hx:∃c0 fs,h1[i]?=some (.ins c0 fs)/\c0<n/\fs.lookup x=some z:=by
   change (match h1[i]? with|some (.ins c fs)=>if c<n then fs.lookup x else none|_=>none)=some z at e1;split at e1
   ·rename_i c0 fs e2
    split at e1
    ·rename_i hc;exact⟨c0,fs,e2,hc,e1⟩
    ·cases e1
   ·cases e1
  obtain⟨c0,fs,e2,hc,e3⟩:=hx;obtain⟨dx,gs,k1,k2⟩:=r1.ob i _ ad e2 q1;obtain⟨y,l1,l2⟩:=k2.look.2 z e3;obtain⟨cc,nn⟩:=c.cls c0 (by omega);exact⟨ad,cl c0,dx,gs,y,rfl,k1,cc,nn x h4,l1,w y l2⟩
 exact⟨q,cD q λ_=>rfl⟩
theorem vR:∀{js:List (Nat×Nat)} {c j:Nat},js.lookup c=some j->(c,j)∈js
 | (a,b)::r,c,j,e=>by
  rw[lookup_cons] at e;cases hb:c==a with
  | true=>rw[hb] at e;cases e;rw[eq_of_beq hb];exact mem_cons_self
  | false=>rw[hb] at e;exact mem_cons_of_mem _ (vR e)
theorem KW(ha:cu Φ a)(hs:j4 Φ es):cu Φ (.mth a m js es):=by
 intro Γ k X cl EX e c h
 (conv at h=>lhs;whnf);split at h<;>first|cases h|skip
 rename_i o x ap args cp;simp only[and_eq_true,beq_iff_eq,all_eq_true,decide_eq_true_eq,contains_iff_mem] at h;obtain⟨⟨⟨⟨⟨⟨h1,h2⟩,h3⟩,h4⟩,h5⟩,h6⟩,h7⟩:=h;subst h1;have few:((backTo cp (starEach args X.env)).all (λx=>!x.1)&&(backToKw cp (keywordEach [] X.env)).all (λx=>x.1.isSome)
   && decide (args.length+([]:List Keyword).length+(if ([]:List Keyword).isEmpty then 0 else 1)<30))=true:=by
  rw[qd h7];simp only[Bool.true_and,and_eq_true];exact⟨rfl,decide_eq_true (by simp;omega)⟩
 have hl:(ap.endLine==cp.line)=true:=by rw[h4];exact beq_self_eq_true _
 have room:di k X.A:=c.room.mono (le_succ k);have main:∀(σ:L2.St) (H:Hp) (Q:VK) (v:Val) (h1:Hs) (ρ1:List Addr) (y:V) (H1:Hp) (F:Nat->M Val),HR (bd X cl) ρ1 h1 H1->VR X.K ρ1 H1 v y->Post (bd X cl) EX ρ1 H1 (WV X.K Q) (bnd (ask λh=>kQ h v x js) F h1) ->
   ∃j i ad c0 dx gs fd ps,v=.ref i/\y=.ref ad/\H1 ad=some (.ins (cl c0) dx gs)/\Aj X.K (cl c0)/\Meth X.K (cl c0) x (cl (1000+j))/\gs.lookup x=none/\Binds X.K fd ps [] /\
    fE X.prog X.w X.K X.mg X.base xr k (cl (1000+j)) fd ps (ua (bd X cl) (1+args.length) (Φ j))/\Post (bd X cl) EX ρ1 H1 (WV X.K Q) (F j h1):=by
  intro σ H Q v h1 ρ1 y H1 F r1 q1 p1;obtain⟨j,e1,p2⟩:=aA p1;cases v<;>first|(cases e1;done)|(rw[VR] at q1;exact q1.elim)|skip
  rename_i i;rw[VR] at q1;obtain⟨ad,rfl,q1⟩:=q1;have hx:∃c0 fs,h1[i]?=some (.ins c0 fs)/\fs.lookup x=none/\js.lookup c0=some j:=by
   change (match h1[i]? with|some (.ins c fs)=>if (fs.lookup x).isNone=true then js.lookup c else none|_=>none)=some j at e1;split at e1
   ·rename_i c0 fs e2
    split at e1
    ·rename_i hc;exact⟨c0,fs,e2,by simpa using hc,e1⟩
    ·cases e1
   ·cases e1
  obtain⟨c0,fs,e2,hn,e3⟩:=hx;obtain⟨dx,gs,k1,k2⟩:=r1.ob i _ ad e2 q1;obtain⟨⟨m1,m2⟩,m3⟩:=h5 _ (vR e3);dsimp only at m1 m2 m3;have cc:=(c.cls c0 m1).1;have mm:=c.Gh _ m2;dsimp only at mm;have hf:∃xx,Γ.fns[j]?=some (xx,1001+args.length):=by
   cases ef:Γ.fns[j]? with
   | none=>rw[ef] at m3;cases m3
   | some q=>rw[ef] at m3;obtain⟨q1,q2⟩:=q;exact⟨q1,by rw[show q2=_ from eq_of_beq m3]⟩
  obtain⟨xx,hf⟩:=hf
  rcases c.fns j xx _ hf with ⟨z,_⟩|⟨_,fd,ps,f1,f4,f5⟩
  ·omega
  ·rw[show 1001+args.length-1000=1+args.length by omega] at f5;exact⟨j,i,ad,c0,dx,gs,fd,ps,rfl,rfl,k1,cc,mm,k2.look.1 hn,f4,f5,p2⟩
 have q:PE X (.Call (.Attribute o x ap) args [] cp) (tV Φ (bd X cl) EX (.mth a x js es)):=by
  cases args with
  | nil =>
   cases es with
   | cons i eG=>rw[aM.eq_def] at h7;cases h7
   | nil =>refine(pe_mth0 (k:=k) (ha Γ k X cl EX o c h6).1 (super_ok h2) hl room).imp λσ H Q aF=>?_;obtain⟨ρ,env,h,hE,r,p⟩:=aF;simp only[aH,aW,cS] at p;refine⟨ρ,env,h,hE,r,av p λv h1 ρ1 y H1 g1 r1 q1 p1=>?_⟩;obtain⟨j,i,ad,c0,dx,gs,fd,ps,rfl,rfl,k1,cc,mm,k2,f4,f5,p2⟩:=main σ H Q v h1 ρ1 y H1 _ r1 q1 p1;exact⟨ad,cl c0,dx,gs,cl (1000+j),fd,ps,_,rfl,k1,cc,mm,k2,f4,f5,ρ1,h1,[.ref i],rfl,r1,az.cons q1 az.nil,dR (h:=h1) c.lu p2⟩
  | cons l ls =>
   cases es with
   | nil=>rw[aM] at h7;cases h7
   | cons i eG =>have h8:=h7;rw[aM.eq_def] at h8;dsimp only at h8;simp only[and_eq_true] at h8;refine(pe_mthD (k:=k) (ha Γ k X cl EX o c h6).1 (hs.1 Γ k X cl EX _ c h7) (super_ok h2) few hl room (aS h8.1.1) (fZ h8.2)).imp λσ H Q aF=>?_;obtain⟨ρ,env,h,hE,r,p⟩:=aF;simp only[aH] at p;refine⟨ρ,env,h,hE,r,av p λv h1 ρ1 y H1 g1 r1 q1 p1=>?_⟩;obtain⟨j,i,ad,c0,dx,gs,fd,ps,rfl,rfl,k1,cc,mm,k2,f4,f5,p2⟩:=main σ H Q v h1 ρ1 y H1 _ r1 q1 p1;refine⟨ad,cl c0,dx,gs,cl (1000+j),fd,ps,_,rfl,k1,cc,mm,k2,f4,f5,ρ1,env,h1,hE.up g1,r1,dS p2 λvs h2 ρ2 H2 e4 g2 r2 p3 xs q2=>?_⟩;refine⟨ρ2,h2,.ref i::vs,?_,r2,az.cons (VR.up g2 _ _ q1) q2,dR (h:=h2) c.lu p3⟩;rw[length_cons,iV h7 e4];omega
 exact⟨q,cD q λ_=>rfl⟩
end
end Hv
end
section
namespace Hv
open PySem L2 PyProof.Rows
section
variable {Φ:Fn} {Γ:oF} {k:Nat} {X:Cx} {cl:Nat->Addr} {EX:Nat->List V->Hp->Prop}
theorem KY:bootBuiltins "all" = some (.builtin "all"):=by decide +kernel
theorem KZ:bootBuiltins "any" = some (.builtin "any"):=by decide +kernel
theorem nq:bootBuiltins "sorted" = some (.builtin "sorted"):=by decide +kernel
theorem K0:bootBuiltins "min" = some (.builtin "min"):=by decide +kernel
theorem K1:bootBuiltins "max" = some (.builtin "max"):=by decide +kernel
theorem ue:bootBuiltins "list" = some (.type "list"):=by decide +kernel
theorem vS:bootBuiltins "tuple" = some (.type "tuple"):=by decide +kernel
theorem CH:bootBuiltins "str" = some (.type "str"):=by decide +kernel
theorem CI:bootBuiltins "int" = some (.type "int"):=by decide +kernel
theorem Gq:bootBuiltins "bool" = some (.type "bool"):=by decide +kernel
theorem Gs:bootBuiltins "dict" = some (.type "dict"):=by decide +kernel
theorem zq:bootBuiltins "isinstance" = some (.builtin "isinstance"):=by decide +kernel
theorem vU:aW Φ (.cons e .nil) env=bnd (aH Φ e env) λd=>ret [d]:=by
 simp only[aW,cS]
theorem six{T:String}(h:["list","tuple","str","bool","int","dict"].contains T=true):T = "list" \/ T = "tuple" \/ T = "str" \/ T = "bool" \/ T = "int" \/ T = "dict":=by simpa using h
theorem Gu{T:String}(h:["list","tuple","str","bool","int","dict"].contains T=true):(T:Str)∈fY/\bootBuiltins (T:Str)=some (.type T)/\(T:Str) ≠ "__name__" /\ ((T:Str)==("__debug__":Str))=false:=by
 rcases six h with rfl|rfl|rfl|rfl|rfl|rfl
 ·exact⟨by decide,ue,by decide,by decide⟩
 ·exact⟨by decide,vS,by decide,by decide⟩
 ·exact⟨by decide,CH,by decide,by decide⟩
 ·exact⟨by decide,Gq,by decide,by decide⟩
 ·exact⟨by decide,CI,by decide,by decide⟩
 ·exact⟨by decide,Gs,by decide,by decide⟩
theorem Gv{T:String}(hs:j4 Φ es):cu Φ (.blt (.isin T) es):=by
 intro Γ k X cl EX e c h
 (conv at h=>lhs;whnf);split at h<;>first|cases h|skip
 rename_i x p args pos;simp only[and_eq_true,beq_iff_eq] at h;obtain⟨⟨h1,h2⟩,h3⟩:=h;subst h2;obtain⟨g1,g2,g3⟩:=c.gl h1;split at h3<;>first|cases h3|skip
 rename_i a y yp;simp only[and_eq_true,beq_iff_eq] at h3;obtain⟨⟨⟨k1,k2⟩,k3⟩,k4⟩:=h3;obtain⟨b1,b2,b3,b4⟩:=Gu k3;obtain⟨y1,y2,y3⟩:=c.gl k1;subst k2;cases es with
 | nil=>rw[aM] at k4;cases k4
 | cons i eG =>
  rw[aM.eq_def] at k4;dsimp only at k4;simp only[and_eq_true] at k4;cases eG with
  | cons j eG=>have:=k4.2;rw[aM.eq_def] at this;cases this
  | nil =>
   have q:PE X (.Call (.Name (Od (.isin T)) p) [a,.Name (T:Str) yp] [] pos) (tV Φ (bd X cl) EX (.blt (.isin T) (.cons i .nil))):=by refine(fV (Ge (cl:=cl) (EX:=EX) (T:=T)) g1 (c.blt _ (show ("isinstance":Str)∈fY by decide)) zq (lK (hs.2.1 Γ k X cl EX a c k4.1.2).1 (lK (ES (v:=.ty T) y1 (c.blt _ b1) b2 rfl b3 b4) xN) (aS k4.1.1)) g3 g2 (aS k4.1.1)).imp λσ H Q aF=>?_;obtain⟨ρ,env,h,hE,r,p⟩:=aF;simp only[aH,vU,aX,cS] at p;exact⟨ρ,env,h,hE,r,av p λv h1 ρ1 x H1 g1 r1 q1 p1=>⟨ρ1,h1,v,x,rfl,r1,q1,p1⟩⟩
   exact⟨q,cD q λ_=>rfl⟩
theorem K2:bootBuiltins "set" = some (.type "set"):=by decide +kernel
theorem Gx(ha:cu Φ a):cu Φ (.sset a):=by
 intro Γ k X cl EX e c h
 (conv at h=>lhs;whnf);split at h<;>first|cases h|skip
 rename_i x p1 y p2 l pos2 pos1;simp only[and_eq_true,beq_iff_eq] at h;obtain⟨⟨⟨⟨⟨h1,h2⟩,h3⟩,h4⟩,h5⟩,h6⟩:=h;subst h1;subst h2;have q:PE X (.Call (.Name "sorted" p1) [.Call (.Name "set" p2) [l] [] pos2] [] pos1) (tV Φ (bd X cl) EX (.sset a)):=by have qe:=(ha Γ k X cl EX l c h6).1;intro pins s σ H Q I hh;have hd:X.A.handled=none:=I.ok.hd c.calm;refine((FO hd (c.gl h3).1 (c.blt _ (by decide)) (c.gl h4).1 (c.blt _ (by decide)) nq K2 qe (aS (env:=X.env) (es:=[]) h5)).imp λσ H Q ⟨ρ,env,h,hE,r,p⟩=>?_) pins s σ H Q I hh;simp only[aH] at p;refine⟨ρ,env,h,hE,r,av p λv h1 ρ1 x H1 g1 r1 q1 p1=>?_⟩;obtain⟨zs,e,p1⟩:=aA p1;obtain⟨ns,e1,p1⟩:=bL p1;obtain⟨e2,p1⟩:=aJ p1;obtain⟨b,ys,rfl,q2,q3⟩:=dQ r1 q1 e;rw[fJ e1] at q3;rw[az.ints.mp q3] at q2;exact⟨b,ns,rfl,q2,of_decide_eq_true e2,λl hl=>cz r1 hl (az.ints.mpr rfl) p1⟩
 exact⟨q,cD q λ_=>rfl⟩
theorem Gy{d k x:IE}(hd:cu Φ d)(hk:cu Φ k)(hx:cu Φ x):cu Φ (.dget d k x):=by
 intro Γ n X cl EX e c h
 (conv at h=>lhs;whnf);split at h<;>first|cases h|skip
 rename_i o m ap a b cp;simp only[and_eq_true,beq_iff_eq] at h;obtain⟨⟨⟨⟨⟨⟨⟨h1,h2⟩,h3⟩,h4⟩,h5⟩,h6⟩,h7⟩,h8⟩:=h;subst h1;have st:starEach [a,b] X.env=[(false,eval a X.env),(false,eval b X.env)]:=by rw[aS h3,aS h4];rfl
 have m2:M2 X o "get" ap a b cp:=⟨super_ok h2,by rw[st];rfl,by rw[h5];exact beq_self_eq_true _,by rw[st];rfl⟩;have q:PE X (.Call (.Attribute o "get" ap) [a,b] [] cp) (tV Φ (bd X cl) EX (.dget d k x)):=by
  refine(B5 (by have:=c.units;omega) (hd Γ n X cl EX o c h6).1 (hk Γ n X cl EX a c h7).1 (hx Γ n X cl EX b c h8).1 m2).imp λσ H Q aF=>?_;obtain⟨ρ,env,h,hE,r,p⟩:=aF;simp only[aH] at p;refine⟨ρ,env,h,hE,r,av p λv h1 ρ1 y H1 g1 r1 q1 p1=>?_⟩;obtain⟨u0,e1,pA⟩:=aA p1;clear p1;cases v<;>first|(cases e1;done)|(rw[VR] at q1;exact q1.elim)|skip
  rename_i i;rw[VR] at q1;obtain⟨ad,rfl,q1⟩:=q1;have hdc:∃kvs,h1[i]?=some (.dct kvs):=by
   change (match h1[i]? with|some (.dct _)=>some ()|_=>none)=some _ at e1;split at e1
   ·rename_i kvs e2;exact⟨kvs,e2⟩
   ·cases e1
  obtain⟨kvs,e2⟩:=hdc;obtain⟨ks,k1,k2⟩:=r1.ob i _ ad e2 q1;refine⟨ad,rfl,.inl ⟨ks,.inl k1⟩,ρ1,env,h1,hE.up g1,r1,av pA λw h2 ρ2 y2 H2 g2 r2 q2 p2=>?_⟩;obtain⟨kk,e3,p2⟩:=bL p2;refine⟨ρ2,env,h2,(hE.up g1).up g2,r2,av p2 λz h3 ρ3 y3 H3 g3 r3 q3 p3=>?_⟩;obtain⟨rr,e4,p3⟩:=aA p3;have q4:ρ3[i]?=some ad:=oS (g2.trans g3).pre q1;have YD:∃kvs,h3[i]?=some (.dct kvs)/\rr=bW kvs kk:=by
   change (match h3[i]? with|some (.dct kvs)=>some (bW kvs kk)|_=>none)=some rr at e4;split at e4
   ·rename_i kvs e2;cases e4;exact⟨kvs,e2,rfl⟩
   ·cases e4
  obtain⟨Sz,e5,rfl⟩:=YD;obtain⟨YE,k3,k4⟩:=r3.ob i _ ad e5 q4;have ek:y2=kV kk:=by
   cases w<;>first|(cases e3;done)|skip
   ·cases e3;rw[VR] at q2;exact q2
   ·cases e3;rw[VR] at q2;exact q2
  refine⟨iz YE kk,by rw[ek];exact kP.k k3,?_⟩;cases ev:bW Sz kk with
  | none =>rw[ev] at p3;rw[(gx.val kk k4).1 ev];exact ai r3 p3 _ q3
  | some z' =>obtain⟨t,e6,q6⟩:=(gx.val kk k4).2 z' ev;rw[ev] at p3;rw[e6];exact ai r3 p3 _ q6
 exact⟨q,cD q λ_=>rfl⟩
theorem zu{K:PySem.W.Frag}{ρ:List Addr}{H:Hp}:∀{kvs:List (Key×Val)} {ks:List (Key×V)},gx K ρ H kvs ks->az K ρ H ((kvs.map (·.1)).map AM) (ks.map λkv=>kV kv.1)
 | [],ks,q=>by rw[gx] at q;subst q;exact rfl
 | (k,v)::kvs,ks,q=>by
  rw[gx] at q;obtain⟨x,r,rfl,_,q⟩:=q;refine⟨kV k,_,rfl,?_,zu q⟩;cases k with
  | inl i=>exact VR.int
  | inr s=>exact VR.str
theorem AZ{oz:Unit}:∀(σ:L2.St) (H:Hp) (Q:VK),tV Φ (bd X cl) EX (.lkeys d) σ H Q->Wq (tV Φ (bd X cl) EX d) σ H Q:=λσ H Q ⟨ρ,env,h,hE,r,p⟩=>by
 simp only[aH] at p;refine⟨ρ,env,h,hE,r,av p λv h1 ρ1 y H1 g1 r1 q1 p1=>?_⟩;obtain⟨SA,e1,pA⟩:=aA p1;clear p1;cases v<;>first|(cases e1;done)|(rw[VR] at q1;exact q1.elim)|skip
 rename_i i;rw[VR] at q1;obtain⟨ad,rfl,q1⟩:=q1;have hdc:∃kvs,h1[i]?=some (.dct kvs)/\SA=kvs.map (·.1):=by
  change (match h1[i]? with|some (.dct kvs)=>some (kvs.map (·.1))|_=>none)=some _ at e1;split at e1
  ·rename_i kvs e2;cases e1;exact⟨kvs,e2,rfl⟩
  ·cases e1
 obtain⟨kvs,e2,rfl⟩:=hdc;obtain⟨ks,k1,k2⟩:=r1.ob i _ ad e2 q1;exact⟨ad,ks,rfl,k1,λl hl=>cz r1 hl (zu k2) pA⟩
theorem CJ(hd:cu Φ d):cu Φ (.lkeys d):=by
 intro Γ n X cl EX e c h
 (conv at h=>lhs;whnf);split at h<;>first|cases h|skip
 ·rename_i x p y qp pos
  simp only[and_eq_true,beq_iff_eq] at h;obtain⟨⟨h1,h3⟩,h6⟩:=h;subst h1;have q:PE X (.Call (.Name "list" p) [.Name y qp] [] pos) (tV Φ (bd X cl) EX (.lkeys d)):=by have qe:=(hd Γ n X cl EX _ c h6).1;intro pins s σ H Q I hh;have hdl:X.A.handled=none:=I.ok.hd c.calm;exact((AJ hdl (aS rfl) (c.gl h3).1 (c.blt _ (by decide)) ue qe).imp (AZ (oz:=()))) pins s σ H Q I hh
  exact⟨q,cD q λ_=>rfl⟩
theorem Gz{d k x:IE}(hd:cu Φ d)(hk:cu Φ k)(hx:cu Φ x):cu Φ (.sdef d k x):=uc λ_ _=>rfl
theorem uf{K:PySem.W.Frag}{ρ:List Addr}{H:Hp}:∀{kvs:List (Key×Val)} {ks:List (Key×V)},gx K ρ H kvs ks->ks.map (·.1)=kvs.map (·.1)
 | [],ks,q=>by rw[gx] at q;subst q;rfl
 | (k,v)::kvs,ks,q=>by
  rw[gx] at q;obtain⟨x,r,rfl,_,q⟩:=q;rw[map_cons,map_cons,uf q]
theorem ug:∀{ks:List Key} {ns:List Int},pW ks=some ns->ks=ns.map Sum.inl
 | [],ns,e=>by cases e;rfl
 | k::ks,ns,e=>by
  unfold pW at e;rw[cg] at e;obtain⟨i,e1,e⟩:=bind_eq_some_iff.mp e;obtain⟨r,e2,e⟩:=bind_eq_some_iff.mp e;cases e;cases k with
  | inl j=>cases e1;rw[ug e2];rfl
  | inr _=>cases e1
theorem A9{oz:Unit}:∀(σ:L2.St) (H:Hp) (Q:VK),tV Φ (bd X cl) EX (.skeys d) σ H Q->Wr (tV Φ (bd X cl) EX d) σ H Q:=λσ H Q ⟨ρ,env,h,hE,r,p⟩=>by
 simp only[aH] at p;refine⟨ρ,env,h,hE,r,av p λv h1 ρ1 y H1 g1 r1 q1 p1=>?_⟩;obtain⟨ns0,e1,pA⟩:=aA p1;clear p1;unfold jY at e1;obtain⟨SA,e5,e6⟩:=bind_eq_some_iff.mp e1;clear e1;obtain⟨ns,e3,e4⟩:=bind_eq_some_iff.mp e6;clear e6;have e1:=e5;clear e5;cases v<;>first|(cases e1;done)|(rw[VR] at q1;exact q1.elim)|skip
 rename_i i;rw[VR] at q1;obtain⟨ad,rfl,q1⟩:=q1;have hdc:∃kvs,h1[i]?=some (.dct kvs)/\SA=kvs.map (·.1):=by
  change (match h1[i]? with|some (.dct kvs)=>some (kvs.map (·.1))|_=>none)=some _ at e1;split at e1
  ·rename_i kvs e2;cases e1;exact⟨kvs,e2,rfl⟩
  ·cases e1
 obtain⟨kvs,e2,rfl⟩:=hdc;obtain⟨ks,k1,k2⟩:=r1.ob i _ ad e2 q1
 by_cases hl:ns.length<64
 ·rw[if_pos hl] at e4;cases e4;exact⟨ad,ks,ns,rfl,k1,(uf k2).trans (ug e3),hl,λl hl=>cz r1 hl (az.ints.mpr rfl) pA⟩
 ·rw[if_neg hl] at e4;cases e4
theorem CK(hd:cu Φ d):cu Φ (.skeys d):=by
 intro Γ n X cl EX e c h
 (conv at h=>lhs;whnf);split at h<;>first|cases h|skip
 ·rename_i x p y qp pos
  simp only[and_eq_true,beq_iff_eq] at h;obtain⟨⟨h1,h3⟩,h6⟩:=h;subst h1;have q:PE X (.Call (.Name "sorted" p) [.Name y qp] [] pos) (tV Φ (bd X cl) EX (.skeys d)):=by have qe:=(hd Γ n X cl EX _ c h6).1;intro pins s σ H Q I hh;have hdl:X.A.handled=none:=I.ok.hd c.calm;exact((AK hdl (aS rfl) (c.gl h3).1 (c.blt _ (by decide)) nq qe).imp (A9 (oz:=()))) pins s σ H Q I hh
  exact⟨q,cD q λ_=>rfl⟩
theorem CL(hd:cu Φ d):cu Φ (.svals d):=uc λ_ _=>rfl
theorem K3(hs:j4 Φ es):cu Φ (.blt b es):=by
 cases b with
 | isin T=>exact Gv hs
 | _ =>
  intro Γ k X cl EX e c h
  (conv at h=>lhs;whnf);split at h<;>first|cases h|skip
  rename_i x p args pos;simp only[and_eq_true,beq_iff_eq] at h;obtain⟨⟨h1,h2⟩,h3⟩:=h;subst h2;obtain⟨g1,g2,g3⟩:=c.gl h1;cases args with
  | nil=>cases h3.1
  | cons l ls =>
   cases es with
   | nil=>have:=h3.2;rw[aM] at this;cases this
   | cons i eG =>
    have h5:=h3.2;rw[aM.eq_def] at h5;dsimp only at h5;simp only[and_eq_true] at h5;have hA:=hs.1 Γ k X cl EX _ c h3.2;have st:=aS (env:=X.env) (es:=ls) h5.1.1;have an:=fZ (pos:=pos) (env:=X.env) h5.2;refine(λq=>⟨q,cD q λ_=>rfl⟩) ?_
    first
     | refine(fV (Ko (cl:=cl) (EX:=EX)) g1 (c.blt _ (by decide)) PySem.boot_len hA g3 g2 st an).imp λσ H Q ⟨ρ,env,h,hE,r,p⟩=>?_
     | refine(fV (Kp (cl:=cl) (EX:=EX) c.calm) g1 (c.blt _ (by decide)) K0 hA g3 g2 st an).imp λσ H Q ⟨ρ,env,h,hE,r,p⟩=>?_
     | refine(fV (Kq (cl:=cl) (EX:=EX) c.calm) g1 (c.blt _ (by decide)) K1 hA g3 g2 st an).imp λσ H Q ⟨ρ,env,h,hE,r,p⟩=>?_
     | refine(fV (AV (cl:=cl) (EX:=EX)) g1 (c.blt _ (by decide)) nq hA g3 g2 st an).imp λσ H Q ⟨ρ,env,h,hE,r,p⟩=>?_
     | refine(fV (Ku (cl:=cl) (EX:=EX) c.calm) g1 (c.blt _ (by decide)) KY hA g3 g2 st an).imp λσ H Q ⟨ρ,env,h,hE,r,p⟩=>?_
     | refine(fV (Kv (cl:=cl) (EX:=EX) c.calm) g1 (c.blt _ (by decide)) KZ hA g3 g2 st an).imp λσ H Q ⟨ρ,env,h,hE,r,p⟩=>?_
     | refine(kH (Gb (cl:=cl) (EX:=EX)) g1 (c.blt _ (by decide)) ue hA g3 g2 st an).imp λσ H Q ⟨ρ,env,h,hE,r,p⟩=>?_
     | refine(kH (CD (cl:=cl) (EX:=EX)) g1 (c.blt _ (by decide)) vS hA g3 g2 st an).imp λσ H Q ⟨ρ,env,h,hE,r,p⟩=>?_
     | refine(kH (Kr (cl:=cl) (EX:=EX)) g1 (c.blt _ (by decide)) CH hA g3 g2 st an).imp λσ H Q ⟨ρ,env,h,hE,r,p⟩=>?_
     | refine(kH (Ks (cl:=cl) (EX:=EX)) g1 (c.blt _ (by decide)) CI hA g3 g2 st an).imp λσ H Q ⟨ρ,env,h,hE,r,p⟩=>?_
    simp only[aH] at p;exact⟨ρ,env,h,hE,r,bC p λvs h1 ρ1 H1 g1 r1 p1 xs q1=>⟨ρ1,h1,vs,r1,q1,p1⟩⟩
noncomputable def Wx:Me->String
 | .join=>"str" | .append=>"list" | .extend=>"list"
theorem GA(r:HR B ρ h H)(q:VR B.K ρ H v x)(e:recv h m v=some ()):RZ B.K (Wx m) x H:=by
 cases m<;>cases v<;>simp only[recv] at e<;>first|cases e|skip
 ·rw[VR] at q;subst q;rfl
 ·split at e
  ·rename_i xs e1;obtain⟨a,ys,rfl,q0,q1,q2⟩:=kK r q e1;exact .inl ⟨rfl,ys,.inl (.inl q1)⟩
  ·cases e
 ·split at e
  ·rename_i xs e1;obtain⟨a,ys,rfl,q0,q1,q2⟩:=kK r q e1;exact .inl ⟨rfl,ys,.inl (.inl q1)⟩
  ·cases e
theorem K4(ha:cu Φ a)(hs:j4 Φ es):cu Φ (.met m a es):=by
 intro Γ k X cl EX e c h
 (conv at h=>lhs;whnf);split at h<;>first|cases h|skip
 rename_i o x ap args cp;simp only[and_eq_true,beq_iff_eq] at h;obtain⟨⟨⟨⟨⟨⟨h1,h2⟩,h3⟩,h4⟩,h5⟩,h6⟩,h7⟩:=h;subst h1;cases args with
 | nil=>cases h3
 | cons l ls =>
  have hA:=hs.1 Γ k X cl EX _ c h7;have h8:noStar l=true/\∃eG,aM Γ eG ls=true:=by
   cases es with
   | nil=>rw[aM] at h7;cases h7
   | cons i eG=>rw[aM.eq_def] at h7;dsimp only at h7;simp only[and_eq_true] at h7;exact⟨h7.1.1,eG,h7.2⟩
  obtain⟨n1,eG,n2⟩:=h8;have st:=aS (env:=X.env) (es:=ls) n1;have an:=fZ (pos:=cp) (env:=X.env) n2;have few:((backTo cp (starEach (l::ls) X.env)).all (λx=>!x.1)&&(backToKw cp (keywordEach [] X.env)).all (λx=>x.1.isSome)
   && decide ((l::ls).length+([]:List Keyword).length+(if ([]:List Keyword).isEmpty then 0 else 1)<30))=true:=by
   rw[qd h7];have:(l::ls).length<29:=of_decide_eq_true h4;simp only[Bool.true_and,and_eq_true];exact⟨rfl,decide_eq_true (by simp at this |-;omega)⟩
  have hl:(ap.endLine==cp.line)=true:=by rw[h5];exact beq_self_eq_true _
  refine(λq=>⟨q,cD q λ_=>rfl⟩) ?_;have fin:∀(T:String) (r:V->List V->Hp->VK->Prop),(∀x xs H Q,QV (bd X cl) EX m x xs H Q->r x xs H Q)->T=Wx m->∀σ H Q,tV Φ (bd X cl) EX (.met m a es) σ H Q->Wa X.K T r (tV Φ (bd X cl) EX a) (Wv Φ (bd X cl) EX es) σ H Q:=by rintro T rr hr rfl σ H Q ⟨ρ,env,h,hE,r,p⟩;simp only[aH] at p;refine⟨ρ,env,h,hE,r,av p λv h1 ρ1 x H1 g1 r1 q1 p1=>?_⟩;obtain⟨_,e1,p2⟩:=aA p1;refine⟨GA r1 q1 e1,ρ1,env,h1,hE.up g1,r1,bC p2 λvs h2 ρ2 H2 g2 r2 p3 xs q2=>hr _ _ _ _ ⟨ρ2,h2,v,vs,r2,VR.up g2 _ _ q1,q2,p3⟩⟩
  cases m with
  | join=>exact(BY PySem.F.plainAttrs_str PySem.F.slot_str_join PySem.F.type_str_join (Gf (cl:=cl) (EX:=EX)) (ha Γ k X cl EX o c h6).1 hA (super_ok h2) few hl st an).imp (fin _ _ (λ_ _ _ _ z=>z) rfl)
  | append=>exact(BY PySem.F.plainAttrs_list PySem.F.slot_list_append PySem.F.type_list_append (AW (cl:=cl) (EX:=EX)) (ha Γ k X cl EX o c h6).1 hA (super_ok h2) few hl st an).imp (fin _ _ (λ_ _ _ _ z=>z) rfl)
  | extend=>exact(BY PySem.F.plainAttrs_list PySem.F.slot_list_extend PySem.F.type_list_extend (AX (cl:=cl) (EX:=EX)) (ha Γ k X cl EX o c h6).1 hA (super_ok h2) few hl st an).imp (fin _ _ (λ_ _ _ _ z=>z) rfl)
end
end Hv
end
section
namespace Hv
open PySem L2 PyProof.Rows
theorem _root_.L2.PI.or(h:PI X tg iter t)(h':PI X tg iter t'):PI X tg iter (λσ H R=>t σ H R\/t' σ H R):=λpins s σ H R I hw=>hw.elim (h pins s σ H R I) (h' pins s σ H R I)
structure Walks (B:Bd) (src:Src) (J:It) (ρ1:List Addr) (H1:Hp):Prop where
 stop:∀{ρ h H i xs},Gw ρ1 H1 ρ H->HR B ρ h H->src.items h=some xs->xs.length<=i->J.stop i H
 go:∀{ρ h H i xs v},Gw ρ1 H1 ρ H->HR B ρ h H->src.items h=some xs->xs[i]?=some v->J.go i H
 xB:∀{ρ h H i xs v y H'},Gw ρ1 H1 ρ H->HR B ρ h H->src.items h=some xs->xs[i]?=some v->J.xB i H y H'->Gr ρ H ρ H'/\HR B ρ h H'/\VR B.K ρ H' v y
section
variable {B:Bd} {ρ1:List Addr} {H1:Hp} {a:Addr}
theorem Ba(q:jm B.K H1 a xs)(e:az B.K ρ1 H1 vs xs):Walks B (.fix vs) (RC B.K a) ρ1 H1 where
 stop:=λg r hi hl=>by
  cases hi;exact⟨xs,g.QT q,by rw[<-e.length];exact hl⟩
 go:=λg r hi hv=>by
  cases hi;obtain⟨x,k1,_⟩:=e.get hv;exact⟨xs,x,g.QT q,k1⟩
 xB:=λg r hi hv y=>by
  cases hi;obtain⟨rfl,y⟩:=y;obtain⟨x,k1,k2⟩:=e.get hv;have:=y xs (g.QT q);rw[k1] at this;cases this;exact⟨Gr.refl,r,VR.kR g _ _ k2⟩
theorem CM(q:Il B.K H1 a xs)(e:az B.K ρ1 H1 vs xs):Walks B (.fix vs) (QJ B.K a) ρ1 H1 where
 stop:=λg r hi hl=>by
  cases hi;exact⟨xs,(g.Kf q).sq,by rw[<-e.length];exact hl⟩
 go:=λg r hi hv=>by
  cases hi;obtain⟨x,k1,_⟩:=e.get hv;exact⟨xs,x,(g.Kf q).sq,k1⟩
 xB:=λg r hi hv y=>by
  cases hi;obtain⟨rfl,y⟩:=y;obtain⟨x,k1,k2⟩:=e.get hv;have:=y xs (g.Kf q).sq;rw[k1] at this;cases this;exact⟨Gr.refl,r,VR.kR g _ _ k2⟩
theorem kL{i:Nat}(q:ρ1[i]?=some a)(g:Gw ρ1 H1 ρ H)(r:HR B ρ h H)(hi:(Src.live i).items h=some xs):∃ys,gn B.K H a ys/\az B.K ρ H xs ys:=by
 obtain⟨b,ys,e,k1,k2⟩:=dQ r (VR.ref (oS g.pre q)) (show aC h (.ref i)=some xs from hi);cases e;exact⟨ys,k1,k2⟩
theorem yl{i:Nat}(q:ρ1[i]?=some a):Walks B (.live i) (QJ B.K a) ρ1 H1 where
 stop:=λg r hi hl=>by
  obtain⟨ys,k1,k2⟩:=kL q g r hi;exact⟨ys,k1,by rw[<-k2.length];exact hl⟩
 go:=λg r hi hv=>by
  obtain⟨ys,k1,k2⟩:=kL q g r hi;obtain⟨x,k3,_⟩:=k2.get hv;exact⟨ys,x,k1,k3⟩
 xB:=λg r hi hv y=>by
  obtain⟨ys,k1,k2⟩:=kL q g r hi;obtain⟨rfl,y⟩:=y;obtain⟨x,k3,k4⟩:=k2.get hv;have:=y ys k1;rw[k3] at this;cases this;exact⟨Gr.refl,r,k4⟩
theorem iD(lo:Int)(n:Nat):(cy lo n).length=n:=by unfold cy;simp
theorem nV{lo:Int}{n:Nat}:Walks B (.fix (cy lo n)) (Np lo n) ρ1 H1 where
 stop:=λg r hi hl=>by
  cases hi;rw[iD] at hl;exact hl
 go:=λg r hi hv=>by
  cases hi;have:=(List.getElem?_eq_some_iff.mp hv).1;rw[iD] at this;exact this
 xB:=λ{ρ h H i xs v y H'} g r hi hv y'=>by
  cases hi;obtain⟨rfl,rfl⟩:=y';have hl:=(List.getElem?_eq_some_iff.mp hv).1;rw[iD] at hl;have e:(cy lo n)[i]?=some (.int (lo+i)):=by unfold cy;simp[hl]
  rw[e] at hv;cases hv;exact⟨Gr.refl,r,VR.int⟩
theorem gy:∀(i:Nat) (ds:List Val),(cN i ds).length=ds.length
 | _,[]=>rfl
 | i,d::r=>by simp[cN,gy (i+1) r]
theorem sL:∀(k:Nat) (ds:List Val) (i:Nat) (d:Val),ds[i]?=some d->(cN k ds)[i]?=some (.tup [.int ((k+i:Nat):Int),d])
 | _,[],_,_,h=>by simp at h
 | k,e::r,0,d,h=>by simp at h;subst h;simp[cN]
 | k,e::r,i+1,d,h=>by
  have:=sL (k+1) r i d (by simpa using h);simp only[cN,getElem?_cons_succ];rw[this];have e1:k+1+i=k+(i+1):=by omega
  rw[e1]
theorem nt{i:Nat}(e:(cN 0 ds)[i]?=some v):∃d,ds[i]?=some d/\v=.tup [.int (i:Int),d]:=by
 have hl:=(List.getElem?_eq_some_iff.mp e).1;rw[gy] at hl;have e1:=sL 0 ds i ds[i] (List.getElem?_eq_getElem hl);rw[e] at e1;cases e1;exact⟨ds[i],List.getElem?_eq_getElem hl,by rw[Nat.zero_add]⟩
theorem vV{i:Nat}(r:HR B ρ h H)(k1:gn B.K H a ys)(k2:az B.K ρ H xs ys)(hv:(cN 0 xs)[i]?=some v)(hy:(NV B.K a).xB i H y H'):Gr ρ H ρ H'/\HR B ρ h H'/\VR B.K ρ H' v y:=by
 obtain⟨p,w,hn,rfl,rfl,hy⟩:=hy;obtain⟨d,e1,rfl⟩:=nt hv;obtain⟨x,k3,k4⟩:=k2.get e1;have:=hy ys k1;rw[k3] at this;cases this;exact⟨Gr.side hn,r.side hn,VR.tup (jm.of aO) (az.cons VR.int (az.cons (VR.up (Gr.side hn) _ _ k4) az.nil))⟩
theorem vW(q:Il B.K H1 a xs)(e:az B.K ρ1 H1 vs xs):Walks B (.fix (cN 0 vs)) (NV B.K a) ρ1 H1 where
 stop:=λg r hi hl=>by
  cases hi;rw[gy] at hl;exact⟨xs,(g.Kf q).sq,by rw[<-e.length];exact hl⟩
 go:=λg r hi hv=>by
  cases hi;obtain⟨d,e1,_⟩:=nt hv;obtain⟨x,k1,_⟩:=e.get e1;exact⟨xs,x,(g.Kf q).sq,k1⟩
 xB:=λg r hi hv y=>by
  cases hi;exact vV r (g.Kf q).sq (az.kR g _ _ e) hv y
theorem vX{i:Nat}(q:ρ1[i]?=some a):Walks B (.enum i) (NV B.K a) ρ1 H1 where
 stop:=λg r hi hl=>by
  obtain⟨zs,e1,rfl⟩:=map_eq_some_iff.mp hi;obtain⟨ys,k1,k2⟩:=kL q g r e1;rw[gy] at hl;exact⟨ys,k1,by rw[<-k2.length];exact hl⟩
 go:=λg r hi hv=>by
  obtain⟨zs,e1,rfl⟩:=map_eq_some_iff.mp hi;obtain⟨ys,k1,k2⟩:=kL q g r e1;obtain⟨d,e2,_⟩:=nt hv;obtain⟨x,k3,_⟩:=k2.get e2;exact⟨ys,x,k1,k3⟩
 xB:=λg r hi hv y=>by
  obtain⟨zs,e1,rfl⟩:=map_eq_some_iff.mp hi;obtain⟨ys,k1,k2⟩:=kL q g r e1;exact vV r k1 k2 hv y
end
section
variable {Φ:Fn} {Γ:oF} {k:Nat} {X:Cx} {cl:Nat->Addr} {EX:Nat->List V->Hp->Prop}
noncomputable def MT(Φ:Fn)(ik:Ik)(it:nU)(env:Env):M Src:=bnd (aW Φ it env) λits=>bh (srcOf ik its)
noncomputable def tI(Φ:Fn)(B:Bd)(EX:Nat->List V->Hp->Prop)(ik:Ik)(it:nU):TI:=λσ H R=>∃ρ env h,cY B.K ρ env σ H/\HR B ρ h H /\
 Post B EX ρ H (λsrc h' ρ' H'=>(∃xs,src.items h'=some xs)/\∀J,Walks B src J ρ' H'->R J H') (MT Φ ik it env h)
theorem Iu(hs:j4 Φ it)(c:Ctx Φ Γ k X cl EX)(h:zl Γ ik it iter=true)(ht:ik=.enum\/ik=.zip->∃es kk pos,tg=.Tuple es kk pos):PI X tg iter (tI Φ (bd X cl) EX ik it)/\∀x,foldedSetIterable iter X.env x=pure x:=by
 cases it with
 | nil=>rw[zl] at h;cases h
 | cons e es =>
  (conv at h=>lhs;whnf)
  cases ik with
  | seq =>
   dsimp only at h;split at h<;>first|cases h|skip
   rename_i hs';simp only[and_eq_true] at h;have q:=(hs.2.1 Γ k X cl EX iter c h.2).1;refine⟨((E2 q).or (Jy q)).imp λσ H R ⟨ρ,env,h,hE,r,p⟩=>?_,λx=>?_⟩
   ·simp only[MT,vU,aX,cS] at p
    have key:∀(Q:VK),(∀v h1 ρ1 x H1,aH Φ e env h=.ok v h1->Gr ρ H ρ1 H1->HR (bd X cl) ρ1 h1 H1->VR X.K ρ1 H1 v x->Post (bd X cl) EX ρ1 H1 (λsrc h' ρ' H'=>(∃xs,src.items h'=some xs)/\∀J,Walks (bd X cl) src J ρ' H'->R J H') (bh (srcOf .seq [v]) h1)->Q x H1)->tV Φ (bd X cl) EX e σ H Q:=λQ kk =>
     ⟨ρ,env,h,hE,r,dS p λv h1 ρ1 H1 e1 g1 r1 p1 x q1=>kk v h1 ρ1 x H1 e1 g1 r1 q1 p1⟩
    cases ev:aH Φ e env h with
    | ok v h1 =>
     cases v with
     | tup vs =>refine .inr (key _ λv h1 ρ1 x H1 e1 g1 r1 q1 p1=>?_);rw[ev] at e1;cases e1;obtain⟨src,e2,w1,w2⟩:=cK r1 p1;cases e2;rw[VR] at q1;obtain⟨a,xs,rfl,k1,k2⟩:=q1;exact⟨a,rfl,⟨xs,k1⟩,w2 _ (Ba k1 k2)⟩
     | rl vs =>refine .inl (key _ λv h1 ρ1 x H1 e1 g1 r1 q1 p1=>?_);rw[ev] at e1;cases e1;obtain⟨src,e2,w1,w2⟩:=cK r1 p1;cases e2;rw[VR] at q1;obtain⟨a,xs,rfl,k1,k2⟩:=q1;exact⟨a,rfl,⟨xs,k1.sq⟩,w2 _ (CM k1 k2)⟩
     | ref i =>refine .inl (key _ λv h1 ρ1 x H1 e1 g1 r1 q1 p1=>?_);rw[ev] at e1;cases e1;obtain⟨src,e2,⟨zs,w1⟩,w2⟩:=cK r1 p1;cases e2;have q0:=q1;rw[VR] at q1;obtain⟨a,rfl,k1⟩:=q1;obtain⟨b,ys,e3,k2,k3⟩:=dQ r1 q0 (show aC h1 (.ref i)=some zs from w1);cases e3;exact⟨a,rfl,⟨ys,k2⟩,w2 _ (yl k1)⟩
     | _ =>refine .inl (key _ λv h1 ρ1 x H1 e1 g1 r1 q1 p1=>?_);rw[ev] at e1;cases e1;obtain⟨src,e2,_⟩:=cK r1 p1;cases e2
    | exc _ _ _=>exact .inl (key _ λv h1 ρ1 x H1 e1=>by rw[ev] at e1;cases e1)
    | no=>exact .inl (key _ λv h1 ρ1 x H1 e1=>by rw[ev] at e1;cases e1)
   ·cases iter<;>first|rfl|(exact absurd h.1 Bool.false_ne_true)
  | range =>
   dsimp only at h;split at h<;>first|cases h|skip
   rename_i x xp a args pos;simp only[and_eq_true,beq_iff_eq] at h;obtain⟨⟨⟨⟨⟨h1,h2⟩,h3⟩,h4⟩,h5⟩,h6⟩:=h;subst h1;obtain⟨g1,g2,g3⟩:=c.gl h2;have hm:=c.blt _ (show ("range":Str)∈fY by decide);refine⟨?_,λx=>rfl⟩;have hA:=hs.1 Γ k X cl EX (a::args) c (by rw[aM.eq_def];simp[h3,h4,h5]);cases args with
   | nil =>
    cases es with
    | cons i eG=>rw[aM.eq_def] at h5;cases h5
    | nil =>
     refine(Ab g1 hm hA (aS h3)).imp λσ H R aF=>?_;obtain⟨ρ,env,h,hE,r,p⟩:=aF;refine⟨ρ,env,h,hE,r,dS p λvs h1 ρ1 H1 e1 Wy r1 p1 xs q1=>?_⟩;obtain⟨src,e2,w1,w2⟩:=cK r1 p1
     match vs,e2 with
     | [.int n],e2 =>
      change (if inR n=true then some (Src.fix (cy 0 n.toNat)) else none)=some src at e2;split at e2
      ·rename_i hn;cases e2;simp only[inR,and_eq_true,decide_eq_true_eq] at hn;obtain⟨x,rfl,hx⟩:=az.one q1;rw[VR] at hx;subst hx;exact⟨n,rfl,hn.1,hn.2,w2 _ nV⟩
      ·cases e2
     | [.int _,.int _],e2=>have:=iV (Γ:=Γ) (ls:=[a]) (by rw[aM.eq_def];simp[h3,h4,aM]) e1;simp at this
   | cons b args =>
    cases args with
    | cons _ _=>have:=of_decide_eq_true h6;simp only[length_cons] at this;omega
    | nil =>
     have hb:noStar b=true:=by
      cases es with
      | nil=>rw[aM] at h5;cases h5
      | cons i eG=>rw[aM.eq_def] at h5;dsimp only at h5;simp only[and_eq_true] at h5;exact h5.1.1
     refine(Ac g1 hm hA (by rw[aS h3,aS hb];rfl) (by rw[aS hb];rfl)).imp λσ H R aF=>?_;obtain⟨ρ,env,h,hE,r,p⟩:=aF;refine⟨ρ,env,h,hE,r,dS p λvs h1 ρ1 H1 e1 Wy r1 p1 xs q1=>?_⟩;obtain⟨src,e2,w1,w2⟩:=cK r1 p1
     match vs,e2 with
     | [.int _],e2=>have:=iV (Γ:=Γ) (ls:=[a,b]) (by rw[aM.eq_def];simp[h3,h4,h5]) e1;simp at this
     | [.int lo,.int hi],e2 =>
      change (if (inR lo&&inR hi)=true then some (Src.fix (cy lo (hi-lo).toNat)) else none)=some src at e2;split at e2
      ·rename_i hn;cases e2;simp only[inR,and_eq_true,decide_eq_true_eq] at hn;obtain⟨x,y,rfl,hx,hy⟩:=az.two q1;rw[VR] at hx;rw[VR] at hy;subst hx;subst hy;exact⟨lo,hi,rfl,⟨hn.1.1,hn.1.2,hn.2.1,hn.2.2⟩,w2 _ nV⟩
      ·cases e2
  | enum =>
   dsimp only at h;split at h<;>first|cases h|skip
   rename_i x xp a pos;simp only[and_eq_true,beq_iff_eq] at h;obtain⟨⟨⟨h1,h2⟩,h3⟩,h4⟩:=h;subst h1;obtain⟨g1,g2,g3⟩:=c.gl h2;have hm:=c.blt _ (show ("enumerate":Str)∈fY by decide);obtain⟨tes,tk,tp,rfl⟩:=ht (.inl rfl);refine⟨?_,λx=>rfl⟩;have hA:=hs.1 Γ k X cl EX [a] c (by rw[aM.eq_def];simp[h3,h4,aM]);refine(FI g1 hm hA (aS h3)).imp λσ H R aF=>?_;obtain⟨ρ,env,h,hE,r,p⟩:=aF;refine⟨ρ,env,h,hE,r,dS p λvs h1 ρ1 H1 e1 Wy r1 p1 xs q1=>?_⟩;obtain⟨src,e2,⟨zs,w1⟩,w2⟩:=cK r1 p1
   match vs,e2 with
   | [.rl ws],e2 =>cases e2;obtain⟨x,rfl,hx⟩:=az.one q1;rw[VR] at hx;obtain⟨b,ys,rfl,k1,k2⟩:=hx;exact⟨b,rfl,⟨ys,k1.sq⟩,w2 _ (vW k1 k2)⟩
   | [.ref i],e2 =>cases e2;obtain⟨x,rfl,hx⟩:=az.one q1;obtain⟨us,w3,_⟩:=map_eq_some_iff.mp w1;obtain⟨b,ys,rfl,k2,k3⟩:=dQ r1 hx w3;rw[VR] at hx;obtain⟨b',e3,k1⟩:=hx;cases e3;exact⟨b,rfl,⟨ys,k2⟩,w2 _ (vX k1)⟩
  | zip=>cases h
end
end Hv
end
section
namespace Hv
open PySem L2 PyProof.Rows
section
variable {Φ:Fn} {Γ:oF} {k:Nat} {X:Cx} {cl:Nat->Addr} {EX:Nat->List V->Hp->Prop}
noncomputable def qf:List Nat->MK
 | []=>Nl
 | i::is=>HZ (nO i) (qf is)
noncomputable def Bb(K:PySem.W.Frag):yf->TG
 | .one i=>nO i
 | .tup is=>Nm K is.length (qf is)
noncomputable def iE:List Nat->List V->L2.St->L2.St
 | i::is,v::vs,σ=>iE is vs (σ.set i (some v))
 | _,_,σ=>σ
theorem nu:∀{is:List Nat} {vs:List V} {σ:L2.St} {H:Hp} {Q:L2.St->Hp->Prop},vs.length=is.length->Q (iE is vs σ) H->qf is vs σ H Q
 | [],[],_,_,_,_,h=>⟨rfl,h⟩
 | i::is,v::vs,σ,H,Q,hl,h=>⟨v,vs,rfl,nu (by simpa using hl) h⟩
theorem sM(hnd:X.N.Nodup):∀{is:List Nat} {es:List Expr},es.length=is.length->(∀p∈is.zip es,∃x pos,p.2=.Name x pos/\X.N[p.1]?=some x/\X.env.scope.names.lookup x=some .local)->ML X es (qf is)
 | [],[],_,_=>yP
 | i::is,e::es,hl,h=>by
  obtain⟨x,pos,rfl,h1,h2⟩:=h (i,e) (by simp);exact uX (oM hnd h1 (.inl h2) (.inr h2)) (sM hnd (by simpa using hl) λp hp=>h p (by simp[hp]))
theorem gH:∀{es:List Expr},(∀e∈es,∃x pos,e=.Name x pos)->(assignEach es env).length=es.length/\(assignEach es env).findIdx? (·.1)=none
 | [],_=>⟨rfl,rfl⟩
 | e::es,h=>by
  obtain⟨x,pos,rfl⟩:=h e mem_cons_self;obtain⟨h1,h2⟩:=gH (env:=env) (es:=es) λe he=>h e (mem_cons_of_mem _ he);have e1:assignEach (Expr.Name x pos::es) env=(false,assign (Expr.Name x pos) env)::assignEach es env:=rfl;rw[e1];refine⟨by simp[h1],?_⟩;rw[List.findIdx?_cons,h2];rfl
theorem CN{i:Nat}(h:vP Γ (.one i) tg=true):∃x p,tg=.Name x p:=by
 cases tg<;>first|exact⟨_,_,rfl⟩|exact absurd h Bool.false_ne_true
theorem vY{is:List Nat}(h:vP Γ (.tup is) tg=true):∃es k p,tg=.Tuple es k p:=by
 cases tg<;>first|exact⟨_,_,_,rfl⟩|exact absurd h Bool.false_ne_true
theorem CO(c:Ctx Φ Γ k X cl EX)(hnd:X.N.Nodup)(h:vP Γ pat tg=true):PG X tg (Bb X.K pat):=by
 cases pat with
 | one i =>obtain⟨x,xp,rfl⟩:=CN h;simp only[vP,and_eq_true,beq_iff_eq] at h;obtain⟨h1,h2⟩:=h;exact oM hnd (by rw[c.N];exact h1) (.inl (by rw[c.sc];exact h2)) (.inr (by rw[c.sc];exact h2))
 | tup is =>
  obtain⟨es,kk,pos,rfl⟩:=vY h
  ·
   simp only[vP,and_eq_true,beq_iff_eq,all_eq_true] at h;obtain⟨h1,h2⟩:=h;have names:∀p∈is.zip es,∃x pos,p.2=.Name x pos/\X.N[p.1]?=some x/\X.env.scope.names.lookup x=some .local:=λp hp=>by
    have q:=h2 p hp;cases ep:p.2<;>rw[ep] at q<;>simp at q;rename_i x pos';exact⟨x,pos',rfl,by rw[c.N];exact q.1,by rw[c.sc];exact q.2⟩
   have all:∀e∈es,∃x pos,e=.Name x pos:=λe he=>by
    obtain⟨n,hn,rfl⟩:=getElem_of_mem he;have hm:(is[n]'(by omega),es[n])∈is.zip es:=List.mem_iff_getElem?.mpr ⟨n,by rw[List.getElem?_zip_eq_some];simp[hn]⟩;obtain⟨x,pos,q,_⟩:=names _ hm;exact⟨x,pos,q⟩
   obtain⟨l1,l2⟩:=gH (env:=X.env) all;exact BI c.calm (sM hnd h1 names) (by rw[l1,h1]) l2
noncomputable def vZ(Γ:oF):yf->Expr->Bool
 | .one i,.Name x _=>Γ.N[i]?==some x&&(Γ.sc.names.lookup x==some .local || Γ.sc.names.lookup x==some .cell)
 | .tup is,.Tuple es _ _=>es.length==is.length&&(is.zip es).all λp=>match p.2 with
  | .Name x _=>Γ.N[p.1]?==some x&&(Γ.sc.names.lookup x==some .local || Γ.sc.names.lookup x==some .cell)
  | _=>false
 | _,_=>false
theorem qg(hfn:∀x,X.fn x=true)(hnd:X.N.Nodup):∀{is:List Nat} {es:List Expr},es.length=is.length->(∀p∈is.zip es,∃x pos,p.2=.Name x pos/\X.N[p.1]?=some x/\Loc X.env.scope x)->ML X es (qf is)
 | [],[],_,_=>yP
 | i::is,e::es,hl,h=>by
  obtain⟨x,pos,rfl,h1,h2⟩:=h (i,e) (by simp);exact uX (oM hnd h1 h2 (.inl (hfn x))) (qg hfn hnd (by simpa using hl) λp hp=>h p (by simp[hp]))
theorem qh{i:Nat}(h:vZ Γ (.one i) tg=true):∃x p,tg=.Name x p:=by
 cases tg<;>first|exact⟨_,_,rfl⟩|exact absurd h Bool.false_ne_true
theorem lY{is:List Nat}(h:vZ Γ (.tup is) tg=true):∃es k p,tg=.Tuple es k p:=by
 cases tg<;>first|exact⟨_,_,_,rfl⟩|exact absurd h Bool.false_ne_true
theorem zw(c:Ctx Φ Γ k X cl EX)(hfn:∀x,X.fn x=true)(hnd:X.N.Nodup)(h:vZ Γ pat tg=true):PG X tg (Bb X.K pat):=by
 have loc:∀x,(Γ.sc.names.lookup x==some .local || Γ.sc.names.lookup x==some .cell)=true->Loc X.env.scope x:=λx e=>by
  unfold L2.Loc;rw[c.sc];simpa using e
 cases pat with
 | one i =>obtain⟨x,pos,rfl⟩:=qh h;simp only[vZ,and_eq_true,beq_iff_eq] at h;obtain⟨h1,h2⟩:=h;exact oM hnd (by rw[c.N];exact h1) (loc _ h2) (.inl (hfn _))
 | tup is =>
  obtain⟨es,kk,pos,rfl⟩:=lY h
  ·
   simp only[vZ,and_eq_true,beq_iff_eq,all_eq_true] at h;obtain⟨h1,h2⟩:=h;have names:∀p∈is.zip es,∃x pos,p.2=.Name x pos/\X.N[p.1]?=some x/\Loc X.env.scope x:=λp hp=>by
    have q:=h2 p hp;cases ep:p.2<;>rw[ep] at q<;>first|cases q|skip
    rename_i x pos';simp only[and_eq_true,beq_iff_eq] at q;exact⟨x,pos',rfl,by rw[c.N];exact q.1,loc _ q.2⟩
   have all:∀e∈es,∃x pos,e=.Name x pos:=λe he=>by
    obtain⟨n,hn,rfl⟩:=getElem_of_mem he;have hm:(is[n]'(by omega),es[n])∈is.zip es:=List.mem_iff_getElem?.mpr ⟨n,by rw[List.getElem?_zip_eq_some];simp[hn]⟩;obtain⟨x,pos,q,_⟩:=names _ hm;exact⟨x,pos,q⟩
   obtain⟨l1,l2⟩:=gH (env:=X.env) all;exact BI c.calm (qg hfn hnd h1 names) (by rw[l1,h1]) l2
theorem cY.set{K:PySem.W.Frag}{ρ:List Addr}{env:Env}{σ:L2.St}{H:Hp}{i:Nat}{v:Val}{x:V}(e:cY K ρ env σ H)(hl:env.length = σ.length)(q:VR K ρ H v x):cY K ρ (env.set i (some v)) (σ.set i (some x)) H:=λj w hj=>by
 by_cases hij:i=j
 ·subst hij
  have hi:i<env.length:=by have:=(List.getElem?_eq_some_iff.mp hj).1;simpa using this
  rw[getElem?_set_self hi] at hj;cases hj;exact⟨x,by rw[getElem?_set_self (by rw[<-hl];exact hi)],q⟩
 ·rw[getElem?_set_ne hij] at hj;rw[getElem?_set_ne hij];exact e j w hj
theorem lB{K:PySem.W.Frag}{ρ:List Addr}{H:Hp}:∀{is:List Nat} {ds:List Val} {xs:List V} {env env':Env} {σ:L2.St},bindAll is ds env=some env'->az K ρ H ds xs->cY K ρ env σ H->env.length = σ.length->cY K ρ env' (iE is xs σ) H/\env'.length=(iE is xs σ).length/\(iE is xs σ).length = σ.length/\xs.length=is.length
 | [],[],xs,env,env',σ,e,q,hE,hl=>by
  rw[az] at q;subst q;simp only[bindAll] at e;cases e;exact⟨hE,hl,rfl,rfl⟩
 | i::is,d::ds,xs,env,env',σ,e,q,hE,hl=>by
  rw[az] at q;obtain⟨x,r,rfl,q1,q2⟩:=q;simp only[bindAll] at e;obtain⟨a1,a2,a3,a4⟩:=lB e q2 (hE.set hl q1) (by simp[hl]);exact⟨a1,a2,by rw[show iE (i::is) (x::r) σ = iE is r (σ.set i (some x)) from rfl,a3];simp,by simp[a4]⟩
 | [],_::_,_,_,_,_,e,_,_,_=>by simp[bindAll] at e
 | _::_,[],_,_,_,_,e,_,_,_=>by simp[bindAll] at e
theorem zx{K:PySem.W.Frag}{ρ:List Addr}{H:Hp}{pat:yf}{v:Val}{x:V}{env env':Env}{σ:L2.St}{Q:L2.St->Hp->Prop}(e:fW pat v env=some env')(q:VR K ρ H v x)(hE:cY K ρ env σ H)(hl:env.length = σ.length)
  (kk:∀σ',cY K ρ env' σ' H->env'.length = σ'.length -> σ'.length = σ.length->Q σ' H):Bb K pat x σ H Q:=by
 cases pat with
 | one i =>simp only[fW] at e;cases e;exact kk _ (hE.set hl q) (by simp[hl]) (by simp)
 | tup is =>
  cases v<;>simp only[fW] at e<;>first|cases e|skip
  rw[VR] at q;obtain⟨a,xs,rfl,q1,q2⟩:=q;obtain⟨a1,a2,a3,a4⟩:=lB e q2 hE hl;exact⟨a,xs,rfl,q1,a4,nu a4 (kk _ a1 a2 a3)⟩
theorem kM{α β:Type}{W:β -> Hs->List Addr->Hp->Prop}{W':α -> Hs->List Addr->Hp->Prop}{m:M α}{f:α -> M β}(g:Gr ρ H ρ' H')(p:Post B EX ρ H W (bnd m f h))
  (kk:∀v h1 ρ2 H2,m h=.ok v h1->Post B EX ρ H W (f v h1)->Gr ρ' H' ρ2 H2->HR B ρ2 h1 H2->W' v h1 ρ2 H2):Post B EX ρ' H' W' (m h):=by
 unfold bnd at p;cases e:m h with
 | ok v h1=>rw[e] at p;exact λρ2 H2 g2 r2=>kk v h1 ρ2 H2 e p g2 r2
 | exc c vs h1=>rw[e] at p;exact λρ2 H2 xs g2 r2 q=>p ρ2 H2 xs (g.trans g2) r2 q
 | no=>rw[e] at p;exact p
theorem HR.adopt(r:HR B ρ h H)(hD:D ∉ ρ)(q:OR B (ρ ++ [D]) H D u):HR B (ρ ++ [D]) (h++[u]) H where
 len:=by simp[r.len]
 nd:=by rw[nodup_append];refine⟨r.nd,by simp,λa ha b hb=>?_⟩;rw[mem_singleton.mp hb];rintro rfl;exact hD ha
 ob i v a q1 q2:=by
  by_cases hi:i<h.length
  ·rw[getElem?_append_left hi] at q1;rw[getElem?_append_left (by rw[r.len];exact hi)] at q2;exact OR.kR ⟨prefix_append _ _,λ_ _ e _=>e⟩ rfl (r.ob i v a q1 q2)
  ·rw[getElem?_append_right (by omega)] at q1
   rw[getElem?_append_right (by rw[r.len];omega)] at q2;have hi0:i-h.length=0:=by have:=(List.getElem?_eq_some_iff.mp q1).1;simp at this;omega
   rw[hi0] at q1;rw[r.len,hi0] at q2;simp at q1 q2;subst q1;subst q2;exact q
theorem Gr.over(g:Gr ρ H ρ' H')(hD:H D=none):Gr ρ H ρ' (upd H' D o) where
 pre:=g.pre
 keep a u e n:=by rw[au (aI e hD)];exact g.keep a u e n
 firm a u e n:=by rw[au (aI e hD)];exact g.firm a u e n
 fresh:=g.fresh
theorem Gr.adopt(g:Gr ρ H ρ' H')(hD:H D=none):Gr ρ H (ρ'++[D]) H' where
 pre:=g.pre.trans (prefix_append _ _)
 keep:=g.keep
 firm:=g.firm
 fresh a z n:=by
  rcases mem_append.mp z with z|z
  ·exact g.fresh a z n
  ·rw[mem_singleton.mp z];exact hD
theorem GB{K:PySem.W.Frag}{ρ:List Addr}{env:Env}{σ:L2.St}{H:Hp}{js:List (Option Nat)}(e:cY K ρ env σ H):cY K ρ (jZ js env) (gE js σ) H:=λi v q=>by
 unfold jZ at q;rw[getElem?_map] at q;cases hj:js[i]? with
 | none=>rw[hj] at q;cases q
 | some o =>
  rw[hj] at q;simp only[map_some] at q;cases o with
  | none=>cases q
  | some j =>
   dsimp only at q;cases ej:env[j]? with
   | none=>rw[ej] at q;cases q
   | some w =>
    cases w with
    | none=>rw[ej] at q;cases q
    | some d =>rw[ej] at q;cases q;obtain⟨x,q1,q2⟩:=e j _ ej;refine⟨x,?_,q2⟩;unfold gE;rw[getElem?_map,hj];simp only[map_some];rw[q1]
theorem CP{K:PySem.W.Frag}{ρ:List Addr}{env:Env}{σ σ':L2.St}{H:Hp}{js:List (Option Nat)}{pat:yf}(hp:(vQ pat).all (λi=>js[i]?==some none)=true)(e:cY K ρ (jZ js env) σ H)(hs:∀i,i∉vQ pat -> σ'[i]? = σ[i]?):cY K ρ (jZ js env) σ' H:=λi v q=>by
 have hi:i∉vQ pat:=λz=>by
  have h1:=all_eq_true.mp hp i z;have h2:js[i]?=some none:=eq_of_beq h1;unfold jZ at q;rw[getElem?_map,h2] at q;cases q
 obtain⟨x,q1,q2⟩:=e i v q;exact⟨x,(hs i hi).trans q1,q2⟩
theorem qi:∀{is:List Nat} {xs:List V} {σ:L2.St} {i:Nat},i∉is->(iE is xs σ)[i]? = σ[i]?
 | [],xs,σ,i,_=>by cases xs<;>rfl
 | j::is,[],σ,i,_=>rfl
 | j::is,x::xs,σ,i,h=>by
  rw[show iE (j::is) (x::xs) σ = iE is xs (σ.set j (some x)) from rfl,qi λz=>h (mem_cons_of_mem _ z),getElem?_set_ne λz=>h (by rw[z];exact mem_cons_self)]
theorem CQ{K:PySem.W.Frag}{ρ:List Addr}{H:Hp}{pat:yf}{v:Val}{x:V}{env env':Env}{σ:L2.St}{Q:L2.St->Hp->Prop}(e:fW pat v env=some env')(q:VR K ρ H v x)(hE:cY K ρ env σ H)(hl:env.length = σ.length)
  (kk:∀σ',cY K ρ env' σ' H -> σ'.length = σ.length->(∀i,i∉vQ pat -> σ'[i]? = σ[i]?)->Q σ' H):Bb K pat x σ H Q:=by
 cases pat with
 | one i =>simp only[fW] at e;cases e;exact kk _ (hE.set hl q) (by simp) λj hj=>getElem?_set_ne λz=>hj (by rw[z];exact mem_singleton.mpr rfl)
 | tup is =>
  cases v<;>simp only[fW] at e<;>first|cases e|skip
  rw[VR] at q;obtain⟨a,xs,rfl,q1,q2⟩:=q;obtain⟨a1,a2,a3,a4⟩:=lB e q2 hE hl;exact⟨a,xs,rfl,q1,a4,nu a4 (kk _ a1 a3 λj hj=>qi hj)⟩
theorem qj(hs:j4 Φ it)(hc:cu Φ t)(he:cu Φ elt)(c:Ctx Φ Γ k X cl EX)(h:bD Γ (.comp N' js pat ik it t elt) e=true) :
  ∃e' tg iter ifs scope pos wi g tt te,e=.ListComp e' [⟨tg,iter,ifs,0⟩] scope pos/\gu X.N X.env.scope scope N' js=true/\PI X tg iter wi/\(∀cls C s H fp,PG (bu X scope N' cls C s H fp) tg g)/\(∀cls C s H fp,ED (bu X scope N' cls C s H fp) ifs tt) /\
   (∀cls C s H fp,PE (bu X scope N' cls C s H fp) e' te)/\(∀x,foldedSetIterable iter X.env x=pure x)/\∀σ H Q,tV Φ (bd X cl) EX (.comp N' js pat ik it t elt) σ H Q->vh wi js g tt te σ H Q:=by
 (conv at h=>lhs;whnf);split at h<;>first|cases h|skip
 rename_i e' tg iter ifs scope pos;simp only[and_eq_true] at h;obtain⟨⟨⟨⟨⟨⟨⟨h1,h2⟩,h3⟩,h4⟩,h5⟩,h6⟩,h7⟩,h8⟩:=h;have hnd:N'.Nodup:=of_decide_eq_true h3;have hen:ik=.enum\/ik=.zip->∃es kk pos,tg=.Tuple es kk pos:=by
  intro hz;cases pat with
  | one i=>rcases hz with rfl|rfl<;>cases h6
  | tup is=>exact vY h4
 obtain⟨hi,hf⟩:=Iu hs c h2 hen
 let tt:TT:=if cP t=true then vg else tT Φ (bd X cl) EX t
 have RP:∀cls C s H fp,ED (bu X scope N' cls C s H fp) ifs tt:=λcls C s H fp=>by
  have c':=c.t9 scope N' cls C s H fp;cases ifs with
  | nil =>have:cP t=true:=h7;show ED _ [] (if cP t=true then vg else tT Φ (bd X cl) EX t);rw[if_pos this];exact FH
  | cons a r =>
   cases r with
   | cons _ _=>cases h7
   | nil =>simp only[and_eq_true,not_eq_true'] at h7;show ED _ [a] (if cP t=true then vg else tT Φ (bd X cl) EX t);rw[if_neg (by rw[h7.1];exact Bool.false_ne_true)];exact yX (hc _ _ _ _ _ _ c' h7.2).2
 refine⟨e',tg,iter,ifs,scope,pos,_,Bb X.K pat,tt,tV Φ (bd X cl) EX elt,rfl,by rw[c.N,c.sc];exact h1,hi,λcls C s H fp=>CO (c.t9 scope N' cls C s H fp) hnd h4,RP,λcls C s H fp=>(he _ _ _ _ _ _ (c.t9 scope N' cls C s H fp) h8).1,hf,λσ H Q ⟨ρ,env,h,hE,r,p⟩=>?_⟩
 ·skip
  simp only[aH] at p
  let f:Val->M (Option Val):=λd=>bnd (bh (fW pat d (jZ js env))) λenv'=>bnd (if cP t=true then ret true else bnd (aH Φ t env') λv=>ask λh=>dj h v) λt =>
    if t=true then bnd (aH Φ elt env') λe=>ret (some e) else ret none
  have p':Post (bd X cl) EX ρ H (WV X.K Q) (bnd (MT Φ ik it env) (λsrc=>bnd (ask λh=>src.items h) λxs=>aE (decide (xs.length<=100000)) (bnd (fX src f xs.length 0 []) λys=>new (.lst ys))) h):=by unfold MT;rw[aX];exact p
  refine⟨ρ,env,h,hE,r,bC p' λsrc h1 ρ1 H1 g1 r1 p1=>?_⟩;obtain⟨xs,e1,p2⟩:=aA p1;obtain⟨e2,p3⟩:=aJ p2;have e2:=of_decide_eq_true e2;refine⟨⟨xs,e1⟩,λJ wk D hD=>?_⟩;have hDl:(100000:Nat)<sizeLine:=by rw[sizeLine_eq];decide
  refine⟨λi m σ' H'=>∃ρ' h' acc ys,Gr ρ1 H1 ρ' H'/\HR (bd X cl) ρ' h' H'/\D ∉ ρ'/\H' D=some (.lst ys)/\az X.K ρ' H' acc ys/\cY X.K ρ' (jZ js env) σ' H' /\ σ'.length=js.length/\acc.length<=i/\i+m=xs.length /\
   Post (bd X cl) EX ρ1 H1 (WV X.K Q) (bnd (fX src f m i acc) (λys=>new (.lst ys)) h'),⟨xs.length,ρ1,h1,[],[],Gr.side hD,r1.side hD,r1.out hD,aO,az.nil,(GB (hE.up g1)).up (Gr.side hD),iA js σ,le_refl _,by omega,p3⟩,?_⟩
  rintro i m σ' H' ⟨ρ',h',acc,ys,w1,w2,w3,w4,w5,w6,w7,w8,w9,uh⟩;have fin:∀p:Post (bd X cl) EX ρ1 H1 (WV X.K Q) (new (.lst acc) h'),Q (.ref D) H':=λp=>by
   refine p (ρ'++[D]) H' (w1.adopt hD) (w2.adopt w3 ⟨ys,w4,az.kR ⟨prefix_append _ _,λ_ _ e _=>e⟩ _ _ w5⟩) _ (VR.ref (by rw[<-w2.len];simp))
  cases m with
  | zero =>
   simp only[fX,aX] at uh;obtain⟨xs',k1,uh⟩:=aA uh;have Og:Post (bd X cl) EX ρ1 H1 (WV X.K Q) (bnd (aE (decide (xs'.length<=i)) (ret acc)) (λys=>new (.lst ys)) h'):=uh;unfold aE at Og
   by_cases hl:xs'.length<=i
   ·have:bnd (λh=>if decide (xs'.length<=i)=true then ret acc h else Out.no) (λys=>new (.lst ys)) h'=new (.lst acc) h':=by
     unfold bnd;dsimp only;rw[if_pos (decide_eq_true hl)];rfl
    rw[this] at Og;exact .inl ⟨wk.stop w1.w w2 k1 hl,fin Og⟩
   ·have:bnd (λh=>if decide (xs'.length<=i)=true then ret acc h else Out.no) (λys=>new (.lst ys)) h'=Out.no:=by
     unfold bnd;dsimp only;rw[if_neg (by rw[decide_eq_false hl];exact Bool.false_ne_true)]
    rw[this] at Og;exact Og.elim
  | succ m =>
   simp only[fX,aX] at uh;obtain⟨xs',k1,uh⟩:=aA uh;cases hx:xs'[i]? with
   | none =>rw[hx] at uh;exact .inl ⟨wk.stop w1.w w2 k1 (List.getElem?_eq_none_iff.mp hx),fin uh⟩
   | some v =>
    rw[hx] at uh;dsimp only at uh;refine .inr ⟨wk.go w1.w w2 k1 hx,_,λAx Ig w=>⟨m,lt_succ_self _,w⟩,λy H2 hy=>?_⟩;obtain⟨z1,z2,z3⟩:=wk.xB w1.w w2 k1 hx hy;simp only[aX] at uh;simp only[f,aX] at uh;obtain⟨env',k2,uh⟩:=bL uh;refine CQ k2 z3 (w6.up z1) (by rw[w7];simp[jZ]) λσ2 QW hl2 hout=>?_;have K5:H2 D=some (.lst ys):=z1.keep _ _ w4 w3;have G2:Gr ρ1 H1 ρ' H2:=w1.trans z1;have body:∀(b:Bool) (h3:Hs) (ρ3:List Addr) (H3:Hp),Gr ρ' H2 ρ3 H3->HR (bd X cl) ρ3 h3 H3->Post (bd X cl) EX ρ1 H1 (WV X.K Q) (bnd (if b=true then bnd (aH Φ elt env') λe=>ret (some e) else ret none) (λo=>bnd (fX src f m (i+1) (match o with|some e=>acc++[e]|none=>acc)) λys=>new (.lst ys)) h3) ->
      (if b=true then tV Φ (bd X cl) EX elt σ2 H3 (λy H4=>∃ys,H4 D=some (.lst ys)/\ys.length<sizeLine/\(λσ' H'=>∃ρ' h' acc ys,Gr ρ1 H1 ρ' H'/\HR (bd X cl) ρ' h' H'/\D ∉ ρ'/\H' D=some (.lst ys)/\az X.K ρ' H' acc ys/\cY X.K ρ' (jZ js env) σ' H' /\ σ'.length=js.length/\acc.length<=i+1/\i+1+m=xs.length /\
       Post (bd X cl) EX ρ1 H1 (WV X.K Q) (bnd (fX src f m (i+1) acc) (λys=>new (.lst ys)) h')) σ2 (upd H4 D (.lst (ys++[y]))))
      else (λσ' H'=>∃ρ' h' acc ys,Gr ρ1 H1 ρ' H'/\HR (bd X cl) ρ' h' H'/\D ∉ ρ'/\H' D=some (.lst ys)/\az X.K ρ' H' acc ys/\cY X.K ρ' (jZ js env) σ' H' /\ σ'.length=js.length/\acc.length<=i+1/\i+1+m=xs.length /\
       Post (bd X cl) EX ρ1 H1 (WV X.K Q) (bnd (fX src f m (i+1) acc) (λys=>new (.lst ys)) h')) σ2 H3):=by
     intro b h3 ρ3 H3 g3 r3 p5;have SD:D ∉ ρ3:=λz=>by have:=g3.fresh D z w3;rw[K5] at this;cases this
     have MU:H3 D=some (.lst ys):=g3.keep _ _ K5 w3;have E3:cY X.K ρ3 (jZ js env) σ2 H3:=(CP h5 (w6.up z1) hout).up g3;cases b with
     | true =>
      rw[if_pos rfl] at p5 |-;simp only[aX,cS] at p5;refine⟨ρ3,env',h3,QW.up g3,r3,kM (G2.trans g3) p5 λv4 h4 ρ4 H4 _ p6 g4 r4 y4 q4=>?_⟩;have Wz:D ∉ ρ4:=λz=>by have:=g4.fresh D z SD;rw[MU] at this;cases this
      have Oh:H4 D=some (.lst ys):=g4.keep _ _ MU SD;have gw:Gw ρ4 H4 ρ4 (upd H4 D (.lst (ys++[y4]))):=Gw.other Oh rfl;have la:=w5.length;refine⟨ys,Oh,by omega,ρ4,h4,acc++[v4],ys++[y4],((G2.trans g3).trans g4).over hD,r4.other Wz Oh rfl,Wz,aO,az.append (az.kR gw _ _ (az.up ((z1.trans g3).trans g4) _ _ w5)) (az.kR gw _ _ (az.cons q4 az.nil)),(E3.up g4).kR gw,by rw[hl2,w7],by simp;omega,by omega,p6⟩
     | false =>rw[if_neg Bool.false_ne_true] at p5 |-;exact⟨ρ3,h3,acc,ys,G2.trans g3,r3,SD,MU,az.up (z1.trans g3) _ _ w5,E3,by rw[hl2,w7],by omega,by omega,p5⟩
    show (if cP t=true then vg else tT Φ (bd X cl) EX t) σ2 H2 _
    by_cases hn:cP t=true
    ·rw[if_pos hn];rw[if_pos hn,cS] at uh;exact body true h' ρ' H2 Gr.refl z2 uh
    ·rw[if_neg hn];rw[if_neg hn] at uh;exact⟨ρ',env',h',QW,z2,kM G2 uh λb h3 ρ3 H3 _ p5 g3 r3=>body b h3 ρ3 H3 g3 r3 p5⟩
theorem GC(hs:j4 Φ it)(hc:cu Φ t)(he:cu Φ elt):cu Φ (.comp N' js pat ik it t elt):=by
 intro Γ k X cl EX e c h;obtain⟨e',tg,iter,ifs,scope,pos,wi,g,tt,te,rfl,h1,h2,h3,h4,h5,h6,h7⟩:=qj hs hc he c h;have q:=(yY (pos:=pos) h1 c.calm h2 h3 h4 h5 h6).imp h7;exact⟨q,cD q λ_=>rfl⟩
theorem GD{k v:IE}(hk:cu Φ k)(hv:cu Φ v):cu Φ (.dct1 k v):=by
 intro Γ n X cl EX e c h
 (conv at h=>lhs;whnf);split at h<;>first|cases h|skip
 rename_i a b pos;simp only[and_eq_true] at h;have q:PE X (.Dict [some a] [b] pos) (tV Φ (bd X cl) EX (.dct1 k v)):=by
  refine(FE (B4 (hk Γ n X cl EX a c h.1).1 (hv Γ n X cl EX b c h.2).1 FD) rfl rfl (by simp) (by simp)).imp λσ H Q aF=>?_;obtain⟨ρ,env,h,hE,r,p⟩:=aF;intro D hD;have g0:Gr ρ H ρ (upd H D (.dK [])):=Gr.side hD;simp only[aH] at p;refine⟨ρ,env,h,hE.up g0,r.side hD,kM g0 p λx h1 ρ1 H1 _ p1 g1 r1 y1 q1=>?_⟩;obtain⟨kk,e1,p1⟩:=bL p1;refine⟨ρ1,env,h1,(hE.up g0).up g1,r1,kM (g0.trans g1) p1 λy h2 ρ2 H2 _ p2 g2 r2 y2 q2=>?_⟩;have WA:D ∉ ρ:=r.out hD;have K5:D ∉ ρ2:=λz=>by have:=(g1.trans g2).fresh D z WA;rw[aO] at this;cases this
  have e2:H2 D=some (.dK []):=(g1.trans g2).keep D _ aO WA;have ek:y1=kV kk:=by
   cases x<;>first|(cases e1;done)|skip
   ·cases e1;rw[VR] at q1;exact q1
   ·cases e1;rw[VR] at q1;exact q1
  refine⟨e2,[(kk,y2)],by rw[ek];rfl,by simp,?_⟩;have gw:Gw ρ2 H2 (ρ2++[D]) (upd H2 D (.dK (mZ [] [(kk,y2)]))):=⟨prefix_append _ _,(Gw.other (ρ:=ρ2) e2 rfl).firm⟩;exact p2 (ρ2++[D]) _ ((((g0.trans g1).trans g2).over hD).adopt hD) ((r2.other K5 e2 rfl).adopt K5 ⟨[(kk,y2)],aO,y2,[],rfl,VR.kR gw _ _ q2,rfl⟩) _ (zf r2)
 exact⟨q,cD q λ_=>rfl⟩
theorem CS{ns ms:List Int}{kvs:List (Key×V)}(e:kvs.map (·.1)=ns.map Sum.inl):((kvs.map λkv=>kV kv.1).filter λk=>!EC k (ms.map V.int))=(ns.filter λn=>!(ms.any λm=>m==n)).map V.int:=by
 have hk:(kvs.map λkv=>kV kv.1)=ns.map V.int:=by have:=congrArg (List.map kV) e;rw[map_map,map_map] at this;exact this
 rw[hk,List.filter_map]
 congr 1
 refine List.filter_congr λn _=>?_;show (!EC (V.int n) (ms.map V.int))=_;unfold EC;rw[any_map];rfl
noncomputable def YF(Γ:oF)(N':List Str)(js:List (Option Nat))(p q i j:Nat)(e:Expr):Prop:=∃y1 p1 y2 yp dn dp y3 p3 en ep cp ia scope pos,e=.ListComp (.Name y1 p1) [⟨.Name y2 yp,.Name dn dp,[.Compare (.Name y3 p3) [.NotIn] [.Name en ep] cp],ia⟩] scope pos/\(ia==0&&gu Γ.N Γ.sc scope N' js&&decide (N'.Nodup)&&vP (Γ.t9 scope N') (.one p) (.Name y2 yp)&&js[p]?==some none&&js[q]?==some (some j)&&p != q && !behindInMarks .NotIn (.Name en ep) &&
   (N'[p]?==some y1&&oG (Γ.t9 scope N').sc y1)&&(N'[p]?==some y3&&oG (Γ.t9 scope N').sc y3)&&(N'[q]?==some en&&oG (Γ.t9 scope N').sc en)&&(Γ.N[i]?==some dn&&oG Γ.sc dn))=true
theorem K6{x y:Bool}(f:(x&&y)=true):x=true/\y=true:=Bool.and_eq_true_iff.mp f
theorem Bc{p q i j:Nat}(h:Iq Γ N' js p q i j e=true):YF Γ N' js p q i j e:=by
 cases e<;>first|exact nomatch (show false=true from h)|skip
 rename_i elt gens scope pos;cases gens with
 | nil=>exact nomatch (show false=true from h)
 | cons g r =>
 obtain⟨tg,iter,ifs,ia⟩:=g;cases ifs with
 | nil=>exact nomatch (show false=true from h)
 | cons c0 r0 =>
 cases r0 with
 | cons _ _=>exact nomatch (show false=true from h)
 | nil =>
 cases r with
 | cons _ _=>exact nomatch (show false=true from h)
 | nil =>
 have k:=K6 h;have k1:=K6 k.1;have k2:=K6 k1.1;obtain⟨y1,p1,rfl⟩:=lX k2.1;obtain⟨y2,yp,rfl⟩:=lX k2.2;obtain⟨dn,dp,rfl⟩:=lX k1.2;replace h:=k.2;clear k k1 k2;cases c0<;>first|exact nomatch (show false=true from h)|skip
 rename_i l ops rs cp;cases ops with
 | nil=>exact nomatch (show false=true from h)
 | cons op r1 =>
 cases op<;>first|exact nomatch (show false=true from h)|skip
 cases r1 with
 | cons _ _=>exact nomatch (show false=true from h)
 | nil =>
 cases rs with
 | nil=>exact nomatch (show false=true from h)
 | cons x0 r2 =>
 cases r2 with
 | cons _ _=>exact nomatch (show false=true from h)
 | nil =>
 have k:=K6 h;have k1:=K6 k.1;obtain⟨y3,p3,rfl⟩:=lX k1.1;obtain⟨en,ep,rfl⟩:=lX k1.2;exact⟨_,_,_,_,_,_,_,_,_,_,_,_,_,_,rfl,k.2⟩
theorem qk{p q:Nat}(c:Ctx Φ Γ k X cl EX)(h:bD Γ (.dflt N' js p q d w) e=true) :
  ∃e' tg iter ifs scope pos wi g tt te,e=.ListComp e' [⟨tg,iter,ifs,0⟩] scope pos/\gu X.N X.env.scope scope N' js=true/\PI X tg iter wi/\(∀cls C s H fp,PG (bu X scope N' cls C s H fp) tg g)/\(∀cls C s H fp,ED (bu X scope N' cls C s H fp) ifs tt) /\
   (∀cls C s H fp,PE (bu X scope N' cls C s H fp) e' te)/\(∀x,foldedSetIterable iter X.env x=pure x)/\∀σ H Q,tV Φ (bd X cl) EX (.dflt N' js p q d w) σ H Q->Cr (vh wi js g tt te) σ H Q:=by
 (conv at h=>lhs;whnf);split at h<;>first|cases h|skip
 rename_i i j;obtain⟨y1,p1,y2,yp,dn,dp,y3,p3,en,ep,cp,ia,scope,pos,e0,hh⟩:=Bc h;clear h;subst e0;have h:=hh;simp only[and_eq_true,beq_iff_eq,bne_iff_ne,ne_eq,not_eq_true'] at h;obtain⟨⟨⟨⟨⟨⟨⟨⟨⟨⟨⟨h0,h1⟩,h2⟩,h3⟩,h4⟩,h5⟩,h6⟩,h7⟩,h8⟩,h9⟩,K7⟩,h11⟩:=h;subst h0;have hnd:N'.Nodup:=of_decide_eq_true h2;have nm:∀{x:Str} {i:Nat} {pos:Pos} (_:N'[i]?=some x/\oG (Γ.t9 scope N').sc x=true) cls C s H fp,PE (bu X scope N' cls C s H fp) (.Name x pos) (rm i):=λhx cls C s H fp=>by
  obtain⟨v1,v2,v3⟩:=(c.t9 scope N' cls C s H fp).vis hx.2;exact xA hx.1 v1 v2 v3
 obtain⟨v1,v2,v3⟩:=c.vis h11.2;have hpl:p<js.length:=(List.getElem?_eq_some_iff.mp h4).1;refine⟨_,_,_,_,_,_,Ct (rm i),nO p,BO (MN (RY X.K true) (rm p) (rm q)),rm p,rfl,by rw[c.N,c.sc];exact h1,FU (xA (by rw[c.N];exact h11.1) v1 v2 v3),λcls C s H fp=>CO (c.t9 scope N' cls C s H fp) hnd h3,
  λcls C s H fp=>yX (yR (X:=bu X scope N' cls C s H fp) tM (nm h9 cls C s H fp) (nm K7 cls C s H fp) h7),nm h8,λx=>rfl,λσ H Q ⟨ρ,env,h,hE,r,pp⟩=>?_⟩
 simp only[aH] at pp;obtain⟨o,e1,pp⟩:=bL pp;obtain⟨ks,e2,pp⟩:=aA pp;obtain⟨u,e3,pp⟩:=bL pp;obtain⟨zs,e4,pp⟩:=aA pp;split at e1<;>cases e1;rename_i e1;split at e3<;>cases e3;rename_i e3;obtain⟨x,s1,q1⟩:=hE i o e1;obtain⟨y,s2,q2⟩:=hE j u e3;cases o<;>first|(cases e2;done)|(rw[VR] at q1;exact q1.elim)|skip
 rename_i n;rw[VR] at q1;obtain⟨ad,rfl,q1⟩:=q1;have hdc:∃kvs,h[n]?=some (.dct kvs)/\ks=kvs.map (·.1):=by
  change (match h[n]? with|some (.dct kvs)=>some (kvs.map (·.1))|_=>none)=some _ at e2;split at e2
  ·rename_i kvs e5;cases e2;exact⟨kvs,e5,rfl⟩
  ·cases e2
 obtain⟨kvs,e5,rfl⟩:=hdc;obtain⟨WB,k1,k2⟩:=r.ob n _ ad e5 q1;unfold pX at e4;obtain⟨ns,e6,e4⟩:=bind_eq_some_iff.mp e4;obtain⟨xs,e7,e4⟩:=bind_eq_some_iff.mp e4;obtain⟨ms,e8,e4⟩:=bind_eq_some_iff.mp e4;obtain⟨b,ys,rfl,sq,vr⟩:=dQ r q2 e7
 by_cases hl:ns.length<=100000
 ·rw[if_pos hl] at e4
  cases e4;rw[fJ e8] at vr;have ey:=az.ints.mp vr;subst ey;have ek:=(uf k2).trans (ug e6);have el:WB.length=ns.length:=by have:=congrArg length ek;simpa using this
  refine J9 h6 hpl ⟨ad,WB,b,_,s1,k1,by rw[el,sizeLine_eq];omega,?_,sq,?_,λD hD=>?_⟩
  ·unfold gE;rw[getElem?_map,h5];show some (match σ[j]? with|some (some v)=>some v|_=>none)=_;rw[s2]
  ·rw[all_map];exact all_eq_true.mpr λ_ _=>rfl
  ·rw[CS ek];exact cz r hD (az.ints.mpr rfl) pp
 ·rw[if_neg hl] at e4;cases e4
theorem GF{p q:Nat}:cu Φ (.dflt N' js p q d w):=by
 intro Γ k X cl EX e c h;obtain⟨e2,SE,iter,ifs,ym,pos2,wi,g,tt,te,rfl,q1,q2,q3,q4,q5,q6,q7⟩:=qk c h;have q:PE X (.ListComp e2 [⟨SE,iter,ifs,0⟩] ym pos2) (tV Φ (bd X cl) EX (.dflt N' js p q d w)):=(FQ (yY q1 c.calm q2 q3 q4 q5 q6)).imp q7;exact⟨q,cD q λ_=>rfl⟩
theorem K8(ha:cu Φ a):cu Φ (.isc a x bs):=by
 intro Γ k X cl EX e c h
 (conv at h=>lhs;whnf);split at h<;>first|cases h|skip
 rename_i f fp l y yp pos;simp only[and_eq_true,beq_iff_eq,contains_iff_mem,decide_eq_true_eq] at h;obtain⟨⟨⟨⟨⟨⟨⟨h1,h2⟩,h3⟩,h4⟩,h5⟩,h6⟩,h7⟩,h8⟩:=h;subst h1;subst h3;obtain⟨g1,g2,g3⟩:=c.gl h2;obtain⟨y1,y2,y3⟩:=c.gl h4;obtain⟨C,hm,hC⟩:=c.isc _ h6;have q:PE X (.Call (.Name "isinstance" fp) [l,.Name y yp] [] pos) (tV Φ (bd X cl) EX (.isc a y bs)):=by
  refine(fV (Cv (C:=C)) g1 (c.blt _ (show ("isinstance":Str)∈fY by decide)) zq (lK (ha Γ k X cl EX l c h8).1 (lK (yO (v:=.ref C) y1 hm rfl y2) xN) (aS h5)) g3 g2 (aS h5)).imp λσ H Q aF=>?_;obtain⟨ρ,env,h,hE,r,p⟩:=aF;simp only[aH] at p;refine⟨ρ,env,h,hE,r,av p λv h1 ρ1 z H1 g1 r1 q1 p1=>?_⟩;obtain⟨b,e1,p2⟩:=aA p1;cases v<;>first|(cases e1;done)|(rw[VR] at q1;exact q1.elim)|skip
  rename_i i;rw[VR] at q1;obtain⟨ad,rfl,q1⟩:=q1;have hx:∃c0 fs,h1[i]?=some (.ins c0 fs)/\bs[c0]?=some b:=by
   change (match h1[i]? with|some (.ins c _)=>bs[c]?|_=>none)=some b at e1;split at e1
   ·rename_i c0 fs e2;exact⟨c0,fs,e2,e1⟩
   ·cases e1
  obtain⟨c0,fs,e2,e3⟩:=hx;obtain⟨dx,gs,k1,k2⟩:=r1.ob i _ ad e2 q1;obtain⟨ti,kk⟩:=hC c0 b e3;have hl:c0<bs.length:=(List.getElem?_eq_some_iff.mp e3).1;exact⟨.ref ad,.ref (cl c0),b,rfl,.ins k1 (c.cls c0 (by omega)).1 ti.ha ti.hn ti.htk ti.hm,kk,ai r1 p2 _ VR.bl⟩
 exact⟨q,cD q λ_=>rfl⟩
theorem nv:(∀ir,cu Φ ir)/\∀eG,j4 Φ eG:=by
 have one:∀ir,cu Φ ir:=by
  intro ir;exact IE.rec (motive_1:=λir=>cu Φ ir) (motive_2:=λeG=>j4 Φ eG) (λ_=>Ky) (λ_=>Kz) (λ_ _=>KA) Oe (λ_ _ _ a b=>KC a b) (λ_ a=>KD a) (λ_ _ _ a b=>KG a b) (λ_ _ _ _ _ a b c=>KH a b c)
   (λ_ _ a b=>KI a b) (λ_ _ a b=>Of a b) (λ_ a=>KJ a) (λ_ _ _ a b c=>KL a b c) (λ_ a=>KN a) (λ_ a=>KO a) (λ_ _ a b=>KP a b) (λ_ _ _ a b c=>KQ a b c) (λ_ _ a=>Gp a) (λ_ _ a=>K3 a)
   (λ_ _ _ a b=>K4 a b) (λ_ _ _ _ _ _ _ a b c=>GC a b c) Gk (λ_ a=>Gx a) (λ_ _ _ a b c=>Gy a b c) (λ_ _ a b=>GD a b) (λ_ a=>CJ a) (λ_ _ _ a b c=>Gz a b c) (λ_ a=>CL a) (λ_ a=>CK a) (λ_ _ _ a=>KS a) (λ_ _ _ _ a b=>KW a b) (λ_ _ a b=>KR a b) (λ_ _ _ _ _ _ _ _=>GF) (λ_ _ _ a=>K8 a) CG (λ_ _ a b=>zo a b) ir
 refine⟨one,λeG=>?_⟩
 induction eG using nU.rec (motive_1:=λ_=>True) with
 | nil=>exact CG
 | cons e es _ ih=>exact zo (one e) ih
 | _=>trivial
end
end Hv
end
section
namespace Hv
open PySem L2 PyProof.Rows
noncomputable def nC:Expr->Bool
 | .ListComp ..=>false|.SetComp ..=>false|.DictComp ..=>false
 | _=>true
noncomputable def Oi:Expr->Bool
 | .Tuple ..=>false
 | _=>true
noncomputable def SG:Expr->Bool
 | .SetComp ..=>false|.DictComp ..=>false
 | _=>true
mutual
noncomputable def Oj(Γ:oF):IS->Stmt->Bool
 | .expr e,s=>match s with
  | .Expr x _=>nC x&&bD Γ e x
  | _=>false
 | .asg p e,s=>match s with
  | .Assign [tg] x _=>vZ Γ p tg&&bD Γ e x&&(match p with|.one _=>SG x|.tup _=>nC x&&Oi x)
  | _=>false
 | .aug i o e,s=>match s with
  | .AugAssign (.Name x _) op v _=>Γ.N[i]?==some x&&(Γ.sc.names.lookup x==some .local || Γ.sc.names.lookup x==some .cell)&&Kw o op&&(match o with|.pow=>false|_=>true)&&bD Γ e v
  | _=>false
 | .eB o i v,s=>match s with
  | .Assign [.Subscript a b _] x _=>oU b&&nC x&&bD Γ o a&&bD Γ i b&&bD Γ v x
  | _=>false
 | .iff c a b,s=>match s with
  | .If t x y _=>bD Γ c t&&bq Γ a x&&bq Γ b y
  | _=>false
 | .for p k it body,s=>match s with
  | .For tg iter x [] _=>vZ Γ p tg&&zl Γ k it iter&&(match k,p with|.enum,.one _=>false|.zip,.one _=>false|_,_=>true)&&bq Γ body x
  | _=>false
 | .whl _ c body,s=>match s with
  | .While t x [] _=>bD Γ c t&&bq Γ body x
  | _=>false
 | .ret e,s=>match s with
  | .Return (some x) _=>bD Γ e x
  | _=>false
 | .FY,s=>match s with
  | .Return none _=>true
  | _=>false
 | .brk,s=>match s with
  | .Break _=>true
  | _=>false
 | .cnt,s=>match s with
  | .Continue _=>true
  | _=>false
 | .pass,s=>match s with
  | .Pass _=>true
  | .Expr (.Constant (.str _) _ _) _=>true
  | _=>false
 | .never,_=>true
 | .setF n a x v,s=>match s with
  | .Assign [.Attribute o y _] e _=>x==y&&nC e&&n == Γ.tb.nc && Γ.tb.Gg.contains x&&bD Γ a o&&bD Γ v e
  | _=>false
noncomputable def bq(Γ:oF):eW->List Stmt->Bool
 | .nil,ls=>ls.isEmpty
 | .cons s r,ls=>match ls with
  | l::ls=>Oj Γ s l&&bq Γ r ls
  | []=>false
end
structure K9 (Φ:Fn) (Γ:oF) (k:Nat) (X:Cx) (cl:Nat->Addr) (EX:Nat->List V->Hp->Prop):Prop extends Ctx Φ Γ k X cl EX where
 fn:∀x,X.fn x=true
 nd:X.N.Nodup
 kind:X.env.scope.kind=.function
 xe:PassesOwn (model X.prog X.w) X.A X.env X.xe
noncomputable def WF(K:PySem.W.Frag)(D:Ends):Fl->Hs->List Addr->Hp->Prop
 | .nx env',_,ρ',H'=>∀σ',cY K ρ' env' σ' H'->env'.length = σ'.length->D.nx σ' H'
 | .rt v,_,ρ',H'=>∀x,VR K ρ' H' v x->D.rt x H'
 | .bk env',_,ρ',H'=>∀σ',cY K ρ' env' σ' H'->env'.length = σ'.length->D.bk σ' H'
 | .ct env',_,ρ',H'=>∀σ',cY K ρ' env' σ' H'->env'.length = σ'.length->D.ct σ' H'
noncomputable def tS(Φ:Fn)(B:Bd)(EX:Nat->List V->Hp->Prop)(ir:IS):TS:=λD σ H=>∃ρ env h,cY B.K ρ env σ H/\env.length = σ.length/\HR B ρ h H/\Post B EX ρ H (WF B.K D) (eX Φ ir env h)
noncomputable def YG(Φ:Fn)(B:Bd)(EX:Nat->List V->Hp->Prop)(ir:eW):TS:=λD σ H=>∃ρ env h,cY B.K ρ env σ H/\env.length = σ.length/\HR B ρ h H/\Post B EX ρ H (WF B.K D) (dP Φ ir env h)
theorem _root_.L2.PS.imp(h:PS X e t)(i:∀D σ H,t' D σ H->t D σ H):PS X e t':=λpins s σ H D I hw=>h pins s σ H D I (i D σ H hw)
theorem _root_.L2.xy.imp(h:xy X e t)(i:∀D σ H,t' D σ H->t D σ H):xy X e t':=λpins s σ H D I hw=>h pins s σ H D I (i D σ H hw)
section
variable {Φ:Fn} {Γ:oF} {k:Nat} {X:Cx} {cl:Nat->Addr} {EX:Nat->List V->Hp->Prop}
noncomputable def v5(Φ:Fn)(ir:IS):Prop:=∀(Γ:oF) (k:Nat) (X:Cx) (cl:Nat->Addr) (EX:Nat->List V->Hp->Prop) (st:Stmt),K9 Φ Γ k X cl EX->Oj Γ ir st=true->PS X st (tS Φ (bd X cl) EX ir)
noncomputable def um(Φ:Fn)(eG:eW):Prop:=∀(Γ:oF) (k:Nat) (X:Cx) (cl:Nat->Addr) (EX:Nat->List V->Hp->Prop) (st:List Stmt),K9 Φ Γ k X cl EX->bq Γ eG st=true->xy X st (YG Φ (bd X cl) EX eG)
theorem j5{n:Nat}(h:nC e=true):swapsWith e t n env=pure false:=by
 cases e<;>first|rfl|(exact absurd h Bool.false_ne_true)
theorem GG(ir:IE)(c:Ctx Φ Γ k X cl EX)(h:bD Γ ir e=true):PE X e (tV Φ (bd X cl) EX ir):=(nv.1 ir Γ k X cl EX e c h).1
theorem YH(ir:IE)(c:Ctx Φ Γ k X cl EX)(h:bD Γ ir e=true):PT X e (tT Φ (bd X cl) EX ir):=(nv.1 ir Γ k X cl EX e c h).2
theorem Ol(hs:∀env h,eX Φ ir env h=.no):v5 Φ ir:=by
 intro Γ k X cl EX st c h;refine uW.imp λD σ H ⟨ρ,env,h,hE,hl,r,p⟩=>?_;rw[hs] at p;exact p.elim
theorem La:v5 Φ (.expr e):=by
 intro Γ k X cl EX st c h
 (conv at h=>lhs;whnf);split at h<;>first|cases h|skip
 simp only[and_eq_true] at h;refine(EY (GG e c.toCtx h.2) (j5 h.1)).imp λD σ H aF=>?_;obtain⟨ρ,env,h,hE,hl,r,p⟩:=aF;simp only[eX] at p;exact⟨ρ,env,h,hE,r,av p λv h1 ρ1 x H1 g1 r1 q1 p1=>ai r1 p1 σ (hE.up g1) hl⟩
theorem Om:v5 Φ (.asg p e):=by
 intro Γ k X cl EX st c h
 (conv at h=>lhs;whnf);split at h<;>first|cases h|skip
 rename_i tg x pos;simp only[and_eq_true] at h;obtain⟨⟨h1,h2⟩,h3⟩:=h;have hg:=zw c.toCtx c.fn c.nd h1;have he:=GG e c.toCtx h2;have fin:∀D σ H,tS Φ (bd X cl) EX (.asg p e) D σ H->E1 (tV Φ (bd X cl) EX e) (Bb X.K p) D σ H:=λD σ H ⟨ρ,env,h,hE,hl,r,pp⟩=>by
  simp only[eX] at pp;refine⟨ρ,env,h,hE,r,av pp λv h1 ρ1 x H1 g1 r1 q1 p1=>?_⟩;obtain⟨env',e1,p2⟩:=bL p1;exact zx e1 q1 (hE.up g1) hl λσ' SH hl' _=>ai r1 p2 σ' SH hl'
 have YI:(assignEach [tg] X.env).map (·.2)=[assign tg X.env]:=by
  cases p with
  | one i=>obtain⟨t,tp,rfl⟩:=qh h1;rfl
  | tup is=>obtain⟨es,kk,tp,rfl⟩:=lY h1;rfl
 cases p with
 | tup is =>
  simp only[and_eq_true] at h3;refine(BJ he hg ?_ ?_ YI).imp fin
  ·show swapsWith x (some tg) _ _=_;exact j5 h3.1
  ·obtain⟨es,kk,tp,rfl⟩:=lY h1;cases x<;>first|rfl|(exact absurd h3.2 Bool.false_ne_true)
 | one i =>
  obtain⟨t,tp,rfl⟩:=qh h1
  ·
   simp only[vZ,and_eq_true,beq_iff_eq] at h1;have loc:L2.Loc X.env.scope t:=by unfold L2.Loc;rw[c.sc];simpa using h1.2
   have pl:nC x=true->PS X (.Assign [.Name t tp] x pos) (tS Φ (bd X cl) EX (.asg (.one i) e)):=λhx=>(BK c.nd (by rw[c.N];exact h1.1) loc he (j5 hx) (.inl (c.fn t))).imp fin;cases x with
   | ListComp e' gens scope p2 =>
    cases hb:(X.env.kindOf t==some .local&&tp.line==p2.line && !(scope.names.any λ(n,k)=>n==t&&(k==.local||k==.cell))) with
    | false =>
     refine(BK c.nd (by rw[c.N];exact h1.1) loc he ?_ (.inl (c.fn t))).imp fin;have bk:(X.env.blockKind==.function)=true:=by unfold Env.blockKind;rw[c.kind];rfl
     show (pure (X.env.blockKind==.function&&X.env.kindOf t==some .local&&tp.line==p2.line && !(scope.names.any λ(n,k)=>n==t&&(k==.local||k==.cell))):Sem Bool)=pure false;rw[bk,Bool.true_and,hb]
    | true =>
     have bk:(X.env.blockKind==.function)=true:=by unfold Env.blockKind;rw[c.kind];rfl
     have hsw:swapsWith (.ListComp e' gens scope p2) (some (.Name t tp)) pos.line X.env=pure true:=by show (pure (X.env.blockKind==.function&&X.env.kindOf t==some .local&&tp.line==p2.line && !(scope.names.any λ(n,k)=>n==t&&(k==.local||k==.cell))):Sem Bool)=pure true;rw[bk,Bool.true_and,hb]
     cases e with
     | comp N' js pat ik it Oo elt =>obtain⟨e2,SE,iter,ifs,ym,pos2,wi,g,tt,te,q0,q1,q2,q3,q4,q5,q6,q7⟩:=qj (nv.2 it) (nv.1 Oo) (nv.1 elt) c.toCtx h2;cases q0;refine(yZ c.nd (by rw[c.N];exact h1.1) loc q1 c.calm q2 q3 q4 q5 hsw (.inl (c.fn t)) q6).imp λD σ H hh=>?_;exact q7 σ H _ (fin D σ H hh)
     | dflt N' js p q d w =>obtain⟨e2,SE,iter,ifs,ym,pos2,wi,g,tt,te,q0,q1,q2,q3,q4,q5,q6,q7⟩:=qk c.toCtx h2;cases q0;refine(FT (yZ c.nd (by rw[c.N];exact h1.1) loc q1 c.calm q2 q3 q4 q5 hsw (.inl (c.fn t)) q6)).imp λD σ H hh=>?_;exact q7 σ H _ (fin D σ H hh)
     | _=>first|exact absurd h2 Bool.false_ne_true|(rw[bD.eq_def] at h2;cases h2)
   | SetComp _ _ _ _=>exact absurd h3 Bool.false_ne_true
   | DictComp _ _ _ _ _=>exact absurd h3 Bool.false_ne_true
   | _=>exact pl rfl
noncomputable def WC(B:Bd)(EX:Nat->List V->Hp->Prop)(o:FW):R2:=λx y H Q=>∃ρ h i j,HR B ρ h H/\x=.int i/\y=.int j/\Post B EX ρ H (WV B.K Q) (Ii o (.int i) (.int j) h)
theorem Lb(ho:(match o with|.pow=>false|_=>true)=true):jP X (inplaceOp (yi o)) (WC (bd X cl) EX o):=by
 intro pins s σ H x y v' u' Q I rx ry hh;obtain⟨ρ,h,i,j,r,rfl,rfl,p⟩:=hh;cases o with
 | add=>exact E7 pins s σ H _ _ _ _ Q I rx ry ⟨_,_,rfl,rfl,ai r p _ VR.int⟩
 | sub=>exact E8 pins s σ H _ _ _ _ Q I rx ry ⟨_,_,rfl,rfl,ai r p _ VR.int⟩
 | mul =>obtain⟨hm,p⟩:=aJ p;refine E9 pins s σ H _ _ _ _ Q I rx ry ⟨_,_,rfl,rfl,?_,ai r p _ VR.int⟩;unfold jX at hm;simp only[or_eq_true,and_eq_true,decide_eq_true_eq] at hm;exact hm
 | fdiv =>obtain⟨hm,p⟩:=aJ p;exact AR pins s σ H _ _ _ _ Q I rx ry ⟨_,_,rfl,rfl,hm,ai r p _ VR.int⟩
 | mod =>obtain⟨hm,p⟩:=aJ p;have hm:=of_decide_eq_true hm;exact Fb pins s σ H _ _ _ _ Q I rx ry ⟨_,_,rfl,rfl,hm,ai r p _ VR.int⟩
 | pow=>cases ho
theorem Oq{i:Nat}:v5 Φ (.aug i o e):=by
 intro Γ k X cl EX st c h
 (conv at h=>lhs;whnf);split at h<;>first|cases h|skip
 rename_i x xp op v pos;simp only[and_eq_true,beq_iff_eq] at h;obtain⟨⟨⟨⟨h1,h2⟩,h3⟩,h4⟩,h5⟩:=h;have eo:op=yi o:=zm h3;subst eo;have loc:L2.Loc X.env.scope x:=by unfold L2.Loc;rw[c.sc];simpa using h2
 refine(Jx (ti:=WC (bd X cl) EX o) c.nd (by rw[c.N];exact h1) loc (GG e c.toCtx h5) (Lb h4) (.inl (c.fn x))).imp λD σ H aF=>?_;obtain⟨ρ,env,h,hE,hl,r,p⟩:=aF;simp only[eX] at p;obtain⟨n,e1,p⟩:=bL p;split at e1<;>cases e1;rename_i e1;obtain⟨y,k1,k2⟩:=hE i _ e1;rw[VR] at k2;subst k2;refine⟨_,k1,ρ,env,h,hE,r,av p λv h1 ρ1 z H1 g1 r1 q1 p1=>?_⟩;obtain⟨m,e2,p2⟩:=bL p1;cases sJ e2;rw[VR] at q1;subst q1;refine⟨ρ1,h1,n,m,r1,rfl,rfl,av p2 λw h2 ρ2 u H2 g2 r2 q2 p3=>?_⟩;exact ai r2 p3 _ (((hE.up g1).up g2).set hl q2) (by simp[hl])
noncomputable def Ot(B:Bd)(EX:Nat->List V->Hp->Prop):Ju:=λo i v H Q=>∃ρ h a b w,HR B ρ h H/\VR B.K ρ H a o/\VR B.K ρ H b i/\VR B.K ρ H w v/\Post B EX ρ H (λ_ _ _ H'=>Q H') (sH a b w h)
theorem Lc(hu:X.A.units+64<cLine):Jv X (Ot (bd X cl) EX):=by
 intro pins s σ H o i v ov iv u Q I ro ri rv hh;obtain⟨ρ,h,a,b,w,r,ha,hb,hw,p⟩:=hh;cases a with
 | ref j =>
  simp only[sH] at p;obtain⟨ob,e1,p⟩:=aA p;have dict:∀kvs,ob=.dct kvs->Post (bd X cl) EX ρ H (λ_ _ _ H'=>Q H') (bnd (bh (keyOf b)) (λk=>aE (decide (kvs.length<sizeLine)) (put j (.dct (gG kvs k w)))) h)->wpAny (model X.prog X.w) X.A (setItem ov iv u) (λ_ s'=>∃H',L2.Inv X pins σ H' s'/\Q H') X.xe s:=by rintro kvs rfl p;obtain⟨kk,e2,p⟩:=bL p;obtain⟨e3,p⟩:=aJ p;have e3:=of_decide_eq_true e3;rw[VR] at ha;obtain⟨A,rfl,k1⟩:=ha;obtain⟨ks,k2,k3⟩:=r.ob j _ A e1 k1;cases ro;have ek:=CB hb e2;subst ek;refine As (by omega) I (Fz.k (v:=v) k2 (by rw[<-k3.length];exact e3)) ri rv λs' I'=>⟨_,I',?_⟩;have g:Gr ρ H ρ (upd H A (.dK (putK ks kk v))):=Gr.put (mem_of_getElem? k1) k2 rfl;exact p ρ _ g (r.put k1 e1 (u:=.dct (gG kvs kk w)) ⟨_,aO,gx.put kk (VR.up g _ _ hw) (gx.up g _ _ k3)⟩)
  cases ob with
  | lst xs =>
   cases b<;>first|(exact p.elim)|skip
   rename_i n _;obtain⟨jj,e2,p⟩:=bL p;obtain⟨A,ys,rfl,k1,k2,k3⟩:=kK r ha e1;rw[VR] at hb;subst hb;refine set_list pins s σ H _ _ v ov iv u Q I ro ri rv ⟨A,ys,n,jj,rfl,rfl,k2,by rw[<-k3.length];exact e2,?_⟩;have g:Gr ρ H ρ (upd H A (.lst (ys.set jj v))):=Gr.put (mem_of_getElem? k1) k2 rfl;exact p ρ _ g (r.put k1 e1 (u:=.lst (xs.set jj w)) ⟨_,aO,az.set jj (az.up g _ _ k3) (VR.up g _ _ hw)⟩)
  | dct kvs=>exact dict kvs rfl (by cases b<;>exact p)
  | ins c fs=>cases b<;>exact p.elim
 | _=>exact p.elim
theorem Ld:v5 Φ (.eB o i v):=by
 intro Γ k X cl EX st c h
 (conv at h=>lhs;whnf);split at h<;>first|cases h|skip
 rename_i a b sp x pos;simp only[and_eq_true] at h;obtain⟨⟨⟨⟨h1,h2⟩,h3⟩,h4⟩,h5⟩:=h;have YJ:PG X (.Subscript a b sp) (Nn (tV Φ (bd X cl) EX o) (tV Φ (bd X cl) EX i) (Ot (bd X cl) EX)):=Jw (GG o c.toCtx h3) (GG i c.toCtx h4) (Lc c.units) (by
  intro v;cases b<;>first|rfl|(exact absurd h1 Bool.false_ne_true))
 refine(BJ (GG v c.toCtx h5) YJ (j5 (t:=some (.Subscript a b sp)) (n:=pos.line) (env:=X.env) h2) (by cases x<;>rfl) rfl).imp λD σ H aF=>?_;obtain⟨ρ,env,h,hE,hl,r,p⟩:=aF;simp only[eX] at p;refine⟨ρ,env,h,hE,r,av p λw h1 ρ1 x1 H1 g1 r1 q1 p1=>⟨ρ1,env,h1,hE.up g1,r1,av p1 λw2 h2 ρ2 x2 H2 g2 r2 q2 p2=>⟨ρ2,env,h2,(hE.up g1).up g2,r2,av p2 λw3 h3 ρ3 x3 H3 g3 r3 q3 p3=>?_⟩⟩⟩;refine⟨ρ3,h3,w2,w3,w,r3,VR.up g3 _ _ q2,q3,VR.up (g2.trans g3) _ _ q1,bC p3 λ_ h4 ρ4 H4 g4 r4 p4=>?_⟩;exact ai r4 p4 σ (((hE.up g1).up g2).up g3 |>.up g4) hl
theorem Ou(ha:um Φ a)(hb:um Φ b):v5 Φ (.iff t a b):=by
 intro Γ k X cl EX st c h
 (conv at h=>lhs;whnf);split at h<;>first|cases h|skip
 rename_i tt x y pos;simp only[and_eq_true] at h;refine(Nk (YH t c.toCtx h.1.1) (ha Γ k X cl EX x c h.1.2) (hb Γ k X cl EX y c h.2)).imp λD σ H aF=>?_;obtain⟨ρ,env,h,hE,hl,r,p⟩:=aF;simp only[eX] at p;refine⟨ρ,env,h,hE,r,nk p λv h1 p1=>?_⟩;obtain⟨s,e1,p2⟩:=aA p1;refine⟨s,e1,λρ1 H1 g1 r1=>?_⟩;have p2:=Post.up g1 p2;cases s with
 | true=>rw[if_pos rfl] at p2 |-;exact⟨ρ1,env,h1,hE.up g1,hl,r1,p2⟩
 | false=>rw[if_neg Bool.false_ne_true] at p2 |-;exact⟨ρ1,env,h1,hE.up g1,hl,r1,p2⟩
theorem Ov(hb:um Φ body):v5 Φ (.for p ik it body):=by
 intro Γ k X cl EX st c h
 (conv at h=>lhs;whnf);split at h<;>first|cases h|skip
 rename_i tg iter x pos;simp only[and_eq_true] at h;obtain⟨⟨⟨h1,h2⟩,h3⟩,h4⟩:=h;have hen:ik=.enum\/ik=.zip->∃es kk pos,tg=.Tuple es kk pos:=by
  intro hz;cases p with
  | one i=>rcases hz with rfl|rfl<;>cases h3
  | tup is=>exact lY h1
 obtain⟨hi,hf⟩:=Iu (nv.2 it) c.toCtx h2 hen;refine(Jz c.xe c.calm hi (zw c.toCtx c.fn c.nd h1) (hb Γ k X cl EX x c h4) hf).imp λD σ H aF=>?_;obtain⟨ρ,env,h,hE,hl,r,pp⟩:=aF;simp only[eX] at pp;have p':Post (bd X cl) EX ρ H (WF X.K D) (bnd (MT Φ ik it env) (λsrc=>bnd (ask λh=>src.items h) λxs=>forM src (λx env=>bnd (bh (fW p x env)) λenv'=>dP Φ body env') xs.length 0 env) h):=by unfold MT;rw[aX];exact pp
 refine⟨ρ,env,h,hE,r,bC p' λsrc h1 ρ1 H1 g1 r1 p1=>?_⟩;obtain⟨xs,e1,p2⟩:=aA p1;refine⟨⟨xs,e1⟩,λJ wk=>?_⟩;refine⟨λi m σ' H'=>∃ρ' env' h',Gr ρ1 H1 ρ' H'/\cY X.K ρ' env' σ' H'/\env'.length = σ'.length/\HR (bd X cl) ρ' h' H'/\Post (bd X cl) EX ρ' H' (WF X.K D) (forM src (λx env=>bnd (bh (fW p x env)) λenv'=>dP Φ body env') m i env' h'),
  ⟨xs.length,ρ1,env,h1,Gr.refl,hE.up g1,hl,r1,p2⟩,?_⟩
 rintro i m σ' H' ⟨ρ',env',h',w1,w2,w3,w4,w5⟩;cases m with
 | zero =>simp only[forM] at w5;obtain⟨xs',k1,w5⟩:=aA w5;obtain⟨k2,w5⟩:=aJ w5;exact .inl ⟨wk.stop w1.w w4 k1 (of_decide_eq_true k2),ai w4 w5 σ' w2 w3⟩
 | succ m =>
  simp only[forM] at w5;obtain⟨xs',k1,w5⟩:=aA w5;cases hx:xs'[i]? with
  | none =>rw[hx] at w5;exact .inl ⟨wk.stop w1.w w4 k1 (List.getElem?_eq_none_iff.mp hx),ai w4 w5 σ' w2 w3⟩
  | some v =>
   rw[hx] at w5;dsimp only at w5;refine .inr ⟨wk.go w1.w w4 k1 hx,_,λAx Ig w=>⟨m,lt_succ_self _,w⟩,λy H2 hy=>?_⟩;obtain⟨z1,z2,z3⟩:=wk.xB w1.w w4 k1 hx hy;rw[aX] at w5;obtain⟨iF,k2,w5⟩:=bL w5;refine zx k2 z3 (w2.up z1) w3 λσ2 QW hl2 _=>⟨ρ',iF,h',QW,hl2,z2,bC (Post.up z1 w5) λf h3 ρ3 H3 g3 r3 p3=>?_⟩;cases f with
   | nx GH=>exact λσ3 Ow hl3=>⟨ρ3,GH,h3,(w1.trans z1).trans g3,Ow,hl3,r3,p3⟩
   | ct GH=>exact λσ3 Ow hl3=>⟨ρ3,GH,h3,(w1.trans z1).trans g3,Ow,hl3,r3,p3⟩
   | bk GH=>exact λσ3 Ow hl3=>ai r3 p3 σ3 Ow hl3
   | rt v=>exact(ai r3 p3:WF X.K D (.rt v) h3 ρ3 H3)
theorem Ox{n:Nat}(hb:um Φ body):v5 Φ (.whl n t body):=Ol λ_ _=>rfl
theorem Oz:v5 Φ (.ret e):=by
 intro Γ k X cl EX st c h
 (conv at h=>lhs;whnf);split at h<;>first|cases h|skip
 refine(Js (GG e c.toCtx h)).imp λD σ H aF=>?_;obtain⟨ρ,env,h,hE,hl,r,p⟩:=aF;simp only[eX] at p;exact⟨ρ,env,h,hE,r,av p λv h1 ρ1 x H1 g1 r1 q1 p1=>ai r1 p1 x q1⟩
theorem Le:v5 Φ .FY:=by
 intro Γ k X cl EX st c h
 (conv at h=>lhs;whnf);split at h<;>first|cases h|skip
 refine EZ.imp λD σ H aF=>?_;obtain⟨ρ,env,h,hE,hl,r,p⟩:=aF;simp only[eX] at p;exact ai r p _ VR.non
theorem OA:v5 Φ .brk:=by
 intro Γ k X cl EX st c h
 (conv at h=>lhs;whnf);split at h<;>first|cases h|skip
 refine BH.imp λD σ H aF=>?_;obtain⟨ρ,env,h,hE,hl,r,p⟩:=aF;simp only[eX] at p;exact ai r p σ hE hl
theorem OC:v5 Φ .cnt:=by
 intro Γ k X cl EX st c h
 (conv at h=>lhs;whnf);split at h<;>first|cases h|skip
 refine uV.imp λD σ H aF=>?_;obtain⟨ρ,env,h,hE,hl,r,p⟩:=aF;simp only[eX] at p;exact ai r p σ hE hl
theorem Lf:v5 Φ .pass:=by
 intro Γ k X cl EX st c h
 (conv at h=>lhs;whnf);split at h<;>first|cases h|skip
 ·refine EW.imp λD σ H aF=>?_;obtain⟨ρ,env,h,hE,hl,r,p⟩:=aF;simp only[eX] at p;exact ai r p σ hE hl
 ·refine Jr.imp λD σ H aF=>?_;obtain⟨ρ,env,h,hE,hl,r,p⟩:=aF;simp only[eX] at p;exact ai r p σ hE hl
theorem GI:v5 Φ .never:=by
 intro Γ k X cl EX st c h;refine uW.imp λD σ H aF=>?_;obtain⟨ρ,env,h,hE,hl,r,p⟩:=aF;simp only[eX] at p;exact p.elim
theorem Be{α β:Type}(c:Bool)(m:M α)(f:α -> M β):bnd (aE c m) f=aE c (bnd m f):=by
 funext h;unfold bnd aE;cases c<;>rfl
theorem Lg{n:Nat}:v5 Φ (.setF n a x v):=by
 intro Γ k X cl EX st c h
 (conv at h=>lhs;whnf);split at h<;>first|cases h|skip
 rename_i o y ap e pos;simp only[and_eq_true,beq_iff_eq,contains_iff_mem] at h;obtain⟨⟨⟨⟨⟨h1,h2⟩,h3⟩,h4⟩,h5⟩,h6⟩:=h;subst h1;refine(JK (GG a c.toCtx h5) (GG v c.toCtx h6) (j5 (t:=some (.Attribute o x ap)) (n:=pos.line) (env:=X.env) h2)).imp λD σ H aF=>?_;obtain⟨ρ,env,h,hE,hl,r,p⟩:=aF;simp only[eX] at p;refine⟨ρ,env,h,hE,r,av p λw h1 ρ1 x1 H1 g1 r1 q1 p1=>⟨ρ1,env,h1,hE.up g1,r1,av p1 λw2 h2 ρ2 x2 H2 g2 r2 q2 p2=>?_⟩⟩;cases w2<;>first|exact p2.elim|skip
 rename_i i;rw[VR] at q2;obtain⟨ad,rfl,q2⟩:=q2;unfold zd at p2;dsimp only at p2;rw[aX] at p2;obtain⟨pr,e1,p3⟩:=aA p2;have hx:h2[i]?=some (.ins pr.1 pr.2)/\pr.1<n:=by
  split at e1
  ·rename_i c0 fs e2
   split at e1
   ·rename_i hc;cases e1;exact⟨e2,hc⟩
   ·cases e1
  ·cases e1
 obtain⟨dx,gs,k1,k2⟩:=r2.ob i _ ad hx.1 q2;obtain⟨cc,nn⟩:=c.cls pr.1 (by omega);have p4:Post (bd X cl) EX ρ2 H2 (WF X.K D) (aE (decide (pr.2.length<1000)) (bnd (put i (.ins pr.1 (pZ x w pr.2))) λ_=>ret (.nx env)) h2):=by rw[<-Be];exact p3
 obtain⟨el,p5⟩:=aJ p4;refine⟨ad,cl pr.1,dx,gs,rfl,k1,cc,nn x h4,by rw[<-k2.length];exact of_decide_eq_true el,?_⟩;have g:Gr ρ2 H2 ρ2 (upd H2 ad (.ins (cl pr.1) dx (jq x x1 gs))):=Gr.put (mem_of_getElem? q2) k1 rfl;exact p5 ρ2 _ g (r2.put q2 hx.1 (u:=.ins pr.1 (pZ x w pr.2)) ⟨dx,_,aO,lV.put (VR.up (g2.trans g) _ _ q1) (lV.up g _ _ k2)⟩) σ (((hE.up g1).up g2).up g) hl
theorem Lh:um Φ .nil:=by
 intro Γ k X cl EX st c h;rw[bq] at h;cases st with
 | cons _ _=>cases h
 | nil =>refine EU.imp λD σ H aF=>?_;obtain⟨ρ,env,h,hE,hl,r,p⟩:=aF;simp only[dP] at p;exact ai r p σ hE hl
theorem GJ(h1:v5 Φ s)(h2:um Φ ss):um Φ (.cons s ss):=by
 intro Γ k X cl EX st c h;rw[bq.eq_def] at h;dsimp only at h;cases st with
 | nil=>cases h
 | cons l ls =>
  simp only[and_eq_true] at h;refine(BG (h1 Γ k X cl EX l c h.1) (h2 Γ k X cl EX ls c h.2)).imp λD σ H aF=>?_;obtain⟨ρ,env,h,hE,hl,r,p⟩:=aF;simp only[dP] at p;refine⟨ρ,env,h,hE,hl,r,bC p λf h1 ρ1 H1 g1 r1 p1=>?_⟩;cases f with
  | nx env'=>exact λσ' SH hl'=>⟨ρ1,env',h1,SH,hl',r1,p1⟩
  | rt v=>exact(ai r1 p1:WF X.K D (.rt v) h1 ρ1 H1)
  | bk env'=>exact(ai r1 p1:WF X.K D (.bk env') h1 ρ1 H1)
  | ct env'=>exact(ai r1 p1:WF X.K D (.ct env') h1 ρ1 H1)
theorem CT:∀eG,um Φ eG:=by
 intro eG;exact eW.rec (motive_1:=λs=>v5 Φ s) (motive_2:=λss=>um Φ ss) (λ_=>La) (λ_ _=>Om) (λ_ _ _=>Oq) (λ_ _ _=>Ld) (λ_ _ _ a b=>Ou a b) (λ_ _ _ _ a=>Ov a) (λ_ _ _ a=>Ox a) (λ_=>Oz) Le OA OC Lf GI (λ_ _ _ _=>Lg)
  Lh (λ_ _ a b=>GJ a b) eG
end
end Hv
end
section
namespace Hv
open PySem L2 PyProof.Rows
noncomputable abbrev Row:=Str×Nat×(List Val->M Val)
noncomputable def look(fs:List Row)(j:Nat):List Val->M Val:=match fs[j]? with
 | some r=>r.2.2
 | none=>λ_=>bh none
noncomputable def cQ(P:Program)(w:World)(B:Bd)(mg:Str->Option Value)(base:Heap)(k:Nat)(fs:List Row):Prop:=∀(j:Nat) (r:Row),fs[j]?=some r->MR P w B mg base k j r.1 r.2.1 r.2.2
noncomputable def aU(N P:List Str)(sc:Scope):Bool :=
 sc.kind==.function && !sc.isCoroutine && !sc.isGenerator&&decide N.Nodup&&N.take P.length==P&&(P.all λx=>sc.names.lookup x==some .local||sc.names.lookup x==some .cell)&&(sc.names.all λy=>y.2 != .free)
theorem CU(h:aU N P sc=true):oO N P sc:=by
 unfold aU at h;simp only[and_eq_true,beq_iff_eq,not_eq_true',decide_eq_true_eq,all_eq_true,or_eq_true,bne_iff_ne] at h;obtain⟨⟨⟨⟨⟨⟨h1,h2⟩,h3⟩,h4⟩,h5⟩,h6⟩,h7⟩:=h;exact⟨h1,h2,h3,h4,h5,h6,h7⟩
structure Base (K:PySem.W.Frag) (cl:Nat->Addr) (mg:Str->Option Value) (cons:List (Str×Val)) (tb:Tb):Prop where
 blt:∀x∈fY,mg x=none
 cons:∀p∈cons,∃v u,mg p.1=some u/\RelV v u/\∀K ρ H,VR K ρ H p.2 v
 cls:∀c,c<tb.nc->Aj K (cl c)/\∀x∈tb.Gg,jU K (cl c) x
 Gh:∀p∈tb.Gh,Meth K (cl p.1) p.2.1 (cl (1000+p.2.2))
 EH:∀p∈tb.EH,∃C,mg p.1=some (.ref C)/\Ka K C p.2.1 (cl (1000+p.2.2))
 isc:∀p∈tb.isc,∃C,mg p.1=some (.ref C)/\∀c b,p.2[c]?=some b->Wt K (cl c)/\kitOne K (.ref (cl c)) (.ref C)=some b
section
variable {P:Program} {w:World} {K:PySem.W.Frag} {cl:Nat->Addr} {mg:Str->Option Value} {base:Heap} {k:Nat} {fs:List Row} {cons:List (Str×Val)} {tb:Tb}
theorem zy{x qual:Str}{st:Stmt}{f:Addr}{fd:FuncData}{N ps:List Str}{body:eW}(T:Base K cl mg cons tb)(A:cQ P w ⟨K,cl⟩ mg base k fs)(F:FG K x qual st f fd)(hS:aU N ps (af st)=true)
  (hc:bq ⟨N,af st,fs.map (λr=>(r.1,r.2.1)),cons,tb⟩ body (aj st)=true):fE P w K mg base xr (k+2) f fd ps (ua ⟨K,cl⟩ ps.length (gU (look fs) N.length body)):=by
 have S:=CU hS;refine F.ok S (λvs H Q E h=>?_) (λcdv A' outer s H vs Q E hr h=>?_)
 ·obtain⟨ρ,h,ws,h1,_,h2,_⟩:=h;rw[<-h2.length,h1]
 ·obtain⟨ρ,h,ws,hl,r,hv,p⟩:=h
  have lv:=hv.length
  let X:Cx:=(xP xr P w K mg base N qual (af st) f cdv A' outer s H E).Ng
  have c:K9 (look fs) ⟨N,af st,fs.map (λr=>(r.1,r.2.1)),cons,tb⟩ k X cl (λ_ _ _=>False):=by
   refine { N:=rfl,sc:=rfl,calm:=rfl,room:=hr,lu:=λ_ _ _ z=>z,fns:=λj x n e=>?_,cls:=T.cls,Gh:=T.Gh,EH:=T.EH,isc:=T.isc,cons:=T.cons,blt:=T.blt,fn:=λ_=>rfl,nd:=S.nd,kind:=S.kind,xe:=PassesOwn.never };have e':(fs.map (λr=>(r.1,r.2.1)))[j]?=some (x,n):=e;rw[getElem?_map] at e';cases er:fs[j]? with
   | none=>rw[er] at e';cases e'
   | some r =>rw[er] at e';cases e';have:=A j r er;unfold look;rw[er];exact this
  refine⟨_,CT body _ k X cl _ (aj st) c hc,ρ,ws.map some++replicate (N.length-ws.length) none,h,λi v e=>?_,?_,r,bC p λfl h1 ρ1 H1 g1 r1 p1=>?_⟩
  ·by_cases hi:i<ws.length
   ·rw[getElem?_append_left (by simpa using hi)] at e
    rw[getElem?_map] at e;cases ei:ws[i]? with
    | none=>rw[ei] at e;cases e
    | some w' =>rw[ei] at e;cases e;obtain⟨y,q1,q2⟩:=hv.get ei;refine⟨y,?_,q2⟩;show (vs.map some++_)[i]?=_;rw[getElem?_append_left (by rw[length_map,<-lv];exact hi),getElem?_map,q1];rfl
   ·rw[getElem?_append_right (by simp;omega)] at e;have:=mem_of_getElem? e;rw[mem_replicate] at this;exact absurd this.2 (by simp)
  ·show _=(vs.map some++_).length;simp[lv]
  ·cases fl with
   | nx env'=>exact λσ' _ _=>ai r1 p1 _ VR.non
   | rt v=>exact(ai r1 p1:WV K Q v h1 ρ1 H1)
   | bk env'=>exact p1.elim
   | ct env'=>exact p1.elim
theorem _root_.Hv.MR.mono{j:Nat}{n:Nat}(g:MR P w B mg base k j x n φ):MR P w B mg base (k+2) j x n φ:=by
 have le:k<=k+2:=Nat.le_add_right _ _
 rcases g with ⟨h,⟨f,fd,ps,q1,q2,q3,q4,q5⟩|⟨c,f,fd,ps,φ0,q0,q1,q2,q3,q4,q5⟩⟩|⟨h,fd,ps,q1,q4,q5⟩
 ·exact .inl ⟨h,.inl ⟨f,fd,ps,q1,q2,q3,q4,q5.mono le⟩⟩
 ·exact .inl ⟨h,.inr ⟨c,f,fd,ps,φ0,q0,q1,q2,q3,q4,q5.mono le⟩⟩
 ·exact .inr ⟨h,fd,ps,q1,q4,q5.mono le⟩
theorem all_nil:cQ P w ⟨K,cl⟩ mg base k []:=λj r e=>by simp at e
theorem bX{x qual:Str}{st:Stmt}{f:Addr}{fd:FuncData}{N ps:List Str}{body:eW}(T:Base K cl mg cons tb)(A:cQ P w ⟨K,cl⟩ mg base k fs)(F:FG K x qual st f fd)(hm:mg x=some (.ref f))(hb:Binds K fd ps [])(CV:ps.length<1000)(hS:aU N ps (af st)=true)
  (hc:bq ⟨N,af st,fs.map (λr=>(r.1,r.2.1)),cons,tb⟩ body (aj st)=true):cQ P w ⟨K,cl⟩ mg base (k+2) (fs++[(x,ps.length,gU (look fs) N.length body)]):=λj r e=>by
 by_cases hj:j<fs.length
 ·rw[getElem?_append_left hj] at e;exact(A j r e).mono
 ·rw[getElem?_append_right (by omega)] at e
  have hj0:j-fs.length=0:=by have:=(List.getElem?_eq_some_iff.mp e).1;simp at this;omega
  rw[hj0] at e;simp at e;subst e;exact .inl ⟨CV,.inl ⟨f,fd,ps,rfl,hm,F.kp,hb,zy T A F hS hc⟩⟩
theorem zA{r0:Row}(A:cQ P w ⟨K,cl⟩ mg base k fs)(g:MR P w ⟨K,cl⟩ mg base (k+2) fs.length r0.1 r0.2.1 r0.2.2):cQ P w ⟨K,cl⟩ mg base (k+2) (fs++[r0]):=λj r e=>by
 by_cases hj:j<fs.length
 ·rw[getElem?_append_left hj] at e;exact(A j r e).mono
 ·rw[getElem?_append_right (by omega)] at e
  have hj0:j-fs.length=0:=by have:=(List.getElem?_eq_some_iff.mp e).1;simp at this;omega
  rw[hj0] at e;simp at e;subst e;rw[show j=fs.length by omega];exact g
theorem f6{x qual y:Str}{st:Stmt}{f:Addr}{fd:FuncData}{N ps:List Str}{body:eW}(T:Base K cl mg cons tb)(A:cQ P w ⟨K,cl⟩ mg base k fs)(F:FG K x qual st f fd)(hf:cl (1000+fs.length)=f)(hb:Binds K fd ps [])(hS:aU N ps (af st)=true)
  (hc:bq ⟨N,af st,fs.map (λr=>(r.1,r.2.1)),cons,tb⟩ body (aj st)=true):cQ P w ⟨K,cl⟩ mg base (k+2) (fs++[(y,1000+ps.length,gU (look fs) N.length body)]):=by
 refine zA (r0:=(y,1000+ps.length,gU (look fs) N.length body)) A (.inr ⟨Nat.le_add_right _ _,fd,ps,?_,hb,?_⟩)
 ·show ps.length=1000+ps.length-1000;omega
 ·show fE P w K mg base xr (k+2) (cl (1000+fs.length)) fd ps (ua ⟨K,cl⟩ (1000+ps.length-1000) _);rw[hf,show 1000+ps.length-1000=ps.length by omega];exact zy T A F hS hc
theorem all_class{x i qual:Str}{st:Stmt}{f:Addr}{fd:FuncData}{N ps:List Str}{n c:Nat}{body:eW}(T:Base K cl mg cons tb)(A:cQ P w ⟨K,cl⟩ mg base k fs)(F:FG K i qual st f fd)(hm:mg x=some (.ref (cl c)))(M:Mk K (cl c) f)(hb:Binds K fd ps [])(hn:ps.length=n+1)(CV:n<1000)(hS:aU N ps (af st)=true)
  (hc:bq ⟨N,af st,fs.map (λr=>(r.1,r.2.1)),cons,tb⟩ body (aj st)=true):cQ P w ⟨K,cl⟩ mg base (k+2) (fs++[(x,n,Cy c (gU (look fs) N.length body))]):=by
 refine zA (r0:=(x,n,Cy c (gU (look fs) N.length body))) A (.inl ⟨CV,.inr ⟨c,f,fd,ps,_,rfl,hn,hm,M,hb,?_⟩⟩);rw[<-hn];exact zy T A F hS hc
end
theorem sN{α:Type}:∀{us:List α},us.length=1->∃a,us=[a]
 | [a],_=>⟨a,rfl⟩
theorem f7{α:Type}:∀{us:List α},us.length=2->∃a b,us=[a,b]
 | [a,b],_=>⟨a,b,rfl⟩
theorem Iv{α:Type}:∀{us:List α},us.length=3->∃a b c,us=[a,b,c]
 | [a,b,c],_=>⟨a,b,c,rfl⟩
theorem Li{K:PySem.W.Frag}{cl:Nat->Addr}{φ:List Val->M Val}{H:Hp}{a:Addr}{ns:List Int}(hO:B6 H)(hS:gn K H a (ns.map V.int))(h:∃h',φ [.rl (ns.map .int)] []=.ok (.bl true) h') :
  ua ⟨K,cl⟩ 1 φ [.ref a] H (λv _=>v=.bl true) λ_ _ _=>False:=by
 obtain⟨h',e⟩:=h;have sr:Il K H a (ns.map V.int):=by
  rcases hS with (z|z)|z
  ·rcases hO a with y|⟨o,xs,y⟩
   ·rw[y] at z;cases z
   ·rw[y] at z;cases z
  ·exact .inl z
  ·exact .inr (.inr z)
 refine⟨[],[],[.rl (ns.map .int)],rfl,⟨rfl,nodup_nil,λi o a e=>by simp at e⟩,az.cons (by rw[VR];exact⟨a,_,rfl,sr,az.ints.mpr rfl⟩) az.nil,?_⟩;rw[e];intro ρ' H' g r x q;rw[VR] at q;exact q
noncomputable def QX(K:PySem.W.Frag):Sp:=λvs H Q _=>∃(a:Addr) (ns:List Int),vs=[.ref a]/\B6 H/\gn K H a (ns.map V.int)/\ns.length<=63/\∀H',Q (.bl true) H'
theorem Lj{K:PySem.W.Frag}{cl:Nat->Addr}{φ:List Val->M Val}(hφ:∀ns:List Int,ns.length<=63->∃h',φ [.rl (ns.map .int)] []=.ok (.bl true) h')(vs:List V)(H:Hp)(Q:VK)(E:XK)(h:QX K vs H Q E):ua ⟨K,cl⟩ 1 φ vs H Q E:=by
 obtain⟨a,ns,rfl,hO,hS,hl,hq⟩:=h;obtain⟨ρ,h,vs,q1,q2,q3,q4⟩:=Li (cl:=cl) hO hS (hφ ns hl);refine⟨ρ,h,vs,q1,q2,q3,?_⟩;revert q4;cases φ vs h with
 | ok v h'=>exact λq4 ρ' H' g r x hx=>by rw[show x=_ from q4 ρ' H' g r x hx];exact hq H'
 | exc c ws h'=>exact λq4=>q4
 | no=>exact λq4=>q4
theorem walk{l:PySem.W.OpenLaw}{q:Program}{loose:List Str}{XP:(Str->Option Value)->Heap->Prop}{YP:World->Heap->Prop}{d:DefRec}{K:Params->PySem.W.Frag}{k:Nat}{x:Str}(hn:l.most=some 63)(hdf:d.params.defaults=[])(hr:di k callerA)
  (hY:∀(w:World) (h:Heap),YP w h->(K w.params).In h)
  (F:∀(w:World) (mg:Str->Option Value) (fa:Addr) (h:Heap),(K w.params).In h->h.Ns mainGlobals mg->mg d.name=some (.ref fa) ->
   ∃fd:FuncData,(∀(s:Shared) (u:Value),BindsTo s fd ⟨[u],[]⟩ [(x,u)])/\∀base:Heap,(K w.params).In base->base.Ns mainGlobals mg->fE l.prog w (K w.params) mg base xr k fa fd [x] (QX (K w.params))) :
  PySem.W.WalkO q loose XP YP l.row.toRowW d [] (λf vs=>PySem.call f vs) :=
 L2.FF (n:=63) (k:=k) (x:=x) (CX:=λ_=>xr) (sp:=λw=>QX (K w.params)) hn (by decide) hdf hr hY F (λ_ _ a ns hl hO hS=>⟨a,ns,rfl,hO,hS,hl,λ_=>rfl⟩) λ_ _ _ _ _ z=>z
end Hv
end
section
namespace Hv
open PySem L2
inductive Pr (α:Type)
 | ok (a:α)|exc (c:Nat) (ds:List Val)|no
noncomputable def pb{α β:Type}(m:Pr α)(f:α -> Pr β):Pr β:=match m with
 | .ok a=>f a
 | .exc c ds=>.exc c ds
 | .no=>.no
noncomputable def pl{α:Type}(o:Option α):Pr α:=match o with
 | some a=>.ok a
 | none=>.no
noncomputable def pg{α:Type}(c:Bool)(m:Pr α):Pr α:=if c=true then m else .no
inductive Mk
 | sh|nw|ow
noncomputable def sO:Mk->Bool
 | .ow=>false
 | _=>true
noncomputable def MV:Mk->Bool
 | .nw=>true
 | _=>false
noncomputable abbrev aV:=List (Option (Mk×Val))
noncomputable abbrev FV:=Bool×Val
mutual
noncomputable def jv:Val->Bool
 | .rl _=>false
 | .dc _ _=>false
 | .ob _ _ _=>false
 | .ref _=>false
 | .tup vs=>bJ vs
 | .non=>true
 | .bl _=>true
 | .int _=>true
 | .str _=>true
noncomputable def bJ:List Val->Bool
 | []=>true
 | v::vs=>jv v&&bJ vs
end
noncomputable def lZ(f:Bool)(d:Val):Mk:=if (f && !jv d)=true then .nw else .sh
noncomputable def putD(ks:List Key)(ds:List Val)(k:Key)(d:Val):Val:=.dc ((gG (ks.zip ds) k d).map (·.1)) ((gG (ks.zip ds) k d).map (·.2))
noncomputable def j6:FW->Val->Val->Pr FV
 | .add,.int a,.int b=>.ok (true,.int (a+b))
 | .add,.str a,.str b=>pg (decide (a.length+b.length<=sizeLine)) (.ok (true,.str (a++b)))
 | .add,.tup a,.tup b=>pg (!a.isEmpty&&decide (a.length+b.length<=sizeLine)) (.ok (bJ (a++b),.tup (a++b)))
 | .add,.rl a,.rl b=>pg (decide (a.length+b.length<=sizeLine)) (.ok (bJ (a++b),.rl (a++b)))
 | .sub,.int a,.int b=>.ok (true,.int (a-b))
 | .mul,.int a,.int b=>pg (jX a b) (.ok (true,.int (a*b)))
 | .fdiv,.int a,.int b=>pg (iU b) (.ok (true,.int (a/b)))
 | .mod,.int a,.int b=>pg (decide (0<b)) (.ok (true,.int (a%b)))
 | .pow,.int a,.int b=>pg (decide (0<=b/\b<=1000000/\a.natAbs<2 ^ 64)) (.ok (true,.int (a ^ b.toNat)))
 | _,_,_=>.no
noncomputable def Bf(v:Val)(lo hi:Option Int):Pr FV:=match v with
 | .tup vs=>pg (!(decide (HT.eN vs.length 0 lo=0)&&decide (HT.eN vs.length vs.length hi=vs.length))) (.ok (bJ (dm vs lo hi),.tup (dm vs lo hi)))
 | .rl vs=>.ok (bJ (dm vs lo hi),.rl (dm vs lo hi))
 | _=>.no
noncomputable def gp:Bl->List Val->Pr FV
 | .len,[v]=>pb (pl (lU [] v)) λn=>.ok (true,.int n)
 | .min,[.int a,.int b]=>.ok (true,.int (if b<a then b else a))
 | .max,[.int a,.int b]=>.ok (true,.int (if b>a then b else a))
 | .min,[v]=>pb (pl (dg [] v)) λxs=>pb (pl ((aT xs).bind t6)) λm=>.ok (true,m)
 | .max,[v]=>pb (pl (dg [] v)) λxs=>pb (pl ((aT xs).bind t7)) λm=>.ok (true,m)
 | .sorted,[.rl xs]=>pb (pl (fD xs)) λys=>.ok (true,.rl ys)
 | .list,[v]=>pb (pl (dg [] v)) λxs=>.ok (bJ xs,.rl xs)
 | .int,[.bl b]=>.ok (true,.int (if b=true then 1 else 0))
 | .int,[.int i]=>.ok (true,.int i)
 | .all,[.rl xs]=>pb (pl (fH xs)) λbs=>.ok (true,.bl (bs.all id))
 | .isin T,[v]=>pb (pl (vG [] v)) λt=>pb (pl (vH T t)) λb=>.ok (true,.bl b)
 | _,_=>.no
noncomputable def gI:Ik->List Val->Option (List Val)
 | .seq,[.tup vs]=>some vs
 | .seq,[.rl vs]=>some vs
 | .range,[.int n]=>if inR n then some (cy 0 n.toNat) else none
 | .range,[.int a,.int b]=>if inR a&&inR b then some (cy a (b-a).toNat) else none
 | .enum,[.rl vs]=>some (cN 0 vs)
 | _,_=>none
noncomputable def CW(k:Ik)(ds:List Val):Option (List Val):=match k with
 | .zip=>none
 | k=>gI k ds
noncomputable def bH:List Nat->List Val->aV->Option aV
 | [],[],env=>some env
 | i::is,d::ds,env=>bH is ds (env.set i (some (.sh,d)))
 | _,_,_=>none
noncomputable def cO:yf->Val->aV->Option aV
 | .one i,d,env=>some (env.set i (some (.sh,d)))
 | .tup is,.tup ds,env=>bH is ds env
 | _,_,_=>none
noncomputable def jJ(js:List (Option Nat))(env:aV):aV:=js.map λo=>match o with
 | none=>none
 | some j=>match env[j]? with
  | some (some d)=>some d
  | _=>none
noncomputable def jK(f:Val->Pr (Option FV)):List Val->Pr (Bool×List Val)
 | []=>.ok (true,[])
 | x::r=>pb (f x) λo=>pb (jK f r) λp=>.ok (match o with|some e=>(e.1&&p.1,e.2::p.2)|none=>p)
noncomputable def ql:Val->Pr Bool
 | .bl b=>.ok b
 | _=>.no
noncomputable def gz(env:aV):IE->Option FV
 | .var i=>match env[i]? with
  | some (some (_,d))=>some (jv d,d)
  | _=>none
 | _=>none
noncomputable def isVar:IE->Bool
 | .var _=>true
 | _=>false
mutual
noncomputable def aZ(Ψ:Nat->List Val->Pr FV):IE->aV->Pr FV
 | .var i,env=>match env[i]? with
  | some (some (m,d))=>pg (sO m) (.ok (jv d,d))
  | _=>.no
 | .cst d,_=>.ok (jv d,d)
 | .con _ d,_=>.ok (jv d,d)
 | .no,_=>.no
 | .bin o a b,env=>pb (if isVar a=true then pl (gz env a) else aZ Ψ a env) λx=>pb (if isVar b=true then pl (gz env b) else aZ Ψ b env) λy=>j6 o x.2 y.2
 | .neg a,env=>pb (aZ Ψ a env) λx=>match x.2 with
  | .int i=>.ok (true,.int (-i))
  | _=>.no
 | .cmp o a b,env=>pb (if isVar a=true then pl (gz env a) else aZ Ψ a env) λx=>pb (if isVar b=true then pl (gz env b) else aZ Ψ b env) λy=>pb (pl (cop [] o x.2 y.2)) λt=>.ok (true,.bl t)
 | .chn _ _ _ _ _,_=>.no
 | .and a b,env=>pb (aZ Ψ a env) λx=>pb (ql x.2) λt=>if t=true then pb (aZ Ψ b env) λy=>pb (ql y.2) λu=>.ok (true,.bl u) else .ok (true,.bl false)
 | .or a b,env=>pb (aZ Ψ a env) λx=>pb (ql x.2) λt=>if t=true then .ok (true,.bl true) else pb (aZ Ψ b env) λy=>pb (ql y.2) λu=>.ok (true,.bl u)
 | .not a,env=>pb (aZ Ψ a env) λx=>pb (ql x.2) λt=>.ok (true,.bl (!t))
 | .ite _ _ _,_=>.no
 | .tup es,env=>pb (uo Ψ es env) λp=>pg (decide (p.2.length<=sizeLine)) (.ok (p.1,.tup p.2))
 | .lst es,env=>pb (uo Ψ es env) λp=>pg (decide (p.2.length<=sizeLine)) (.ok (p.1,.rl p.2))
 | .idx a b,env=>pb (if isVar a=true then pl (gz env a) else aZ Ψ a env) λx=>pb (aZ Ψ b env) λy=>pb (pl (nh [] x.2 y.2)) λz=>.ok (jv z,z)
 | .slc a lo hi,env=>pb (if isVar a=true then pl (gz env a) else aZ Ψ a env) λx=>pb (if cP lo=true then .ok none else pb (aZ Ψ lo env) λv=>pb (pl (ic v.2)) λi=>.ok (some i)) λl =>
   pb (if cP hi=true then .ok none else pb (aZ Ψ hi env) λv=>pb (pl (ic v.2)) λi=>.ok (some i)) λu=>Bf x.2 l u
 | .call j es,env=>pb (uo Ψ es env) λp=>Ψ j p.2
 | .blt b es,env=>pb (iG Ψ es env) λds=>gp b ds
 | .met m a es,env=>match m with
  | .join=>.no
  | _=>.no
 | .comp _ js pat k it c elt,env=>pb (iG Ψ it env) λits=>pb (pl (CW k its)) λxs=>pg (decide (xs.length<=100000))
   (pb (jK (λd=>pb (pl (cO pat d (jJ js env))) λenv'=>pb (if cP c=true then .ok true else pb (aZ Ψ c env') λv=>pl (dj [] v.2)) λt =>
    if t=true then pb (aZ Ψ elt env') λe=>.ok (some e) else .ok none) xs) λp=>.ok (p.1,.rl p.2))
 | .dct0,_=>.ok (true,.dc [] [])
 | .sset a,env=>pb (if isVar a=true then pl (gz env a) else aZ Ψ a env) λx=>match x.2 with
  | .rl xs=>pb (pl (aT xs)) λns=>pg (decide (ns.length<64)) (.ok (true,.rl ((PySem.W.sortI (L2.dZ [] ns)).map .int)))
  | _=>.no
 | .dget d k x,env=>pb (if isVar d=true then pl (gz env d) else aZ Ψ d env) λo=>pb (pl (Cw [] o.2)) λ_=>pb (aZ Ψ k env) λi=>pb (pl (keyOf i.2)) λkk=>pb (aZ Ψ x env) λz=>pb (pl (yg [] o.2 kk)) λr=>.ok (jv (r.getD z.2),r.getD z.2)
 | .dct1 k v,env=>pb (aZ Ψ k env) λx=>pb (pl (keyOf x.2)) λkk=>pb (aZ Ψ v env) λy=>.ok (y.1,.dc [kk] [y.2])
 | .lkeys d,env=>pb (if isVar d=true then pl (gz env d) else aZ Ψ d env) λo=>pb (pl (lT [] o.2)) λks=>.ok (true,.rl (ks.map AM))
 | .sdef ..,_=>.no
 | .svals _,_=>.no
 | .skeys d,env=>pb (if isVar d=true then pl (gz env d) else aZ Ψ d env) λo=>pb (pl (jY [] o.2)) λns=>.ok (true,.rl (ns.map .int))
 | .fld n a x,env=>pb (if isVar a=true then pl (gz env a) else aZ Ψ a env) λo=>pb (pl (iC n [] o.2 x)) λz=>.ok (jv z,z)
 | .mth a m js es,env=>pb (aZ Ψ a env) λo=>pb (pl (kQ [] o.2 m js)) λj=>pb (uo Ψ es env) λp=>Ψ j (o.2::p.2)
 | .rev a s,env=>pb (if isVar a=true then pl (gz env a) else aZ Ψ a env) λx=>pb (if cP s=true then .ok none else pb (aZ Ψ s env) λv=>pb (pl (ic v.2)) λi=>.ok (some i)) λk =>
   pg (decide (k=some (-1))) (match x.2 with
    | .rl vs=>.ok (bJ vs.reverse,.rl vs.reverse)
    | _=>.no)
 | .dflt _ _ _ _ d w,env=>pb (if isVar d=true then pl (gz env d) else aZ Ψ d env) λo=>pb (pl (lT [] o.2)) λks=>pb (if isVar w=true then pl (gz env w) else aZ Ψ w env) λv=>pb (pl (pX [] ks v.2)) λns=>.ok (true,.rl (ns.map .int))
 | .isc a _ bs,env=>pb (if isVar a=true then pl (gz env a) else aZ Ψ a env) λo=>pb (pl (AN [] o.2 bs)) λb=>.ok (true,.bl b)
noncomputable def uo(Ψ:Nat->List Val->Pr FV):nU->aV->Pr (Bool×List Val)
 | .nil,_=>.ok (true,[])
 | .cons e es,env=>pb (aZ Ψ e env) λd=>pb (uo Ψ es env) λp=>.ok (d.1&&p.1,d.2::p.2)
noncomputable def iG(Ψ:Nat->List Val->Pr FV):nU->aV->Pr (List Val)
 | .nil,_=>.ok []
 | .cons e es,env=>pb (if isVar e=true then pl (gz env e) else aZ Ψ e env) λd=>pb (iG Ψ es env) λp=>.ok (d.2::p)
end
noncomputable def WD(Ψ:Nat->List Val->Pr FV)(e:IE)(env:aV):Pr FV:=if isVar e=true then pl (gz env e) else aZ Ψ e env
inductive yo
 | nx (env:aV)|rt (p:FV)|bk (env:aV)|ct (env:aV)
mutual
noncomputable def rJ:IS->List Nat
 | .expr (.met .append (.var i) _)=>[i]
 | .expr (.met .extend (.var i) _)=>[i]
 | .eB (.var i) _ _=>[i]
 | .iff _ a b=>iW a++iW b
 | .for _ _ _ b=>iW b
 | .whl _ _ b=>iW b
 | _=>[]
noncomputable def iW:eW->List Nat
 | .nil=>[]
 | .cons s r=>rJ s++iW r
end
noncomputable def stored:yf->List Nat
 | .one i=>[i]
 | .tup is=>is
mutual
noncomputable def nD:IS->List Nat
 | .asg p _=>stored p
 | .aug i _ _=>[i]
 | .iff _ a b=>kY a++kY b
 | .for p _ _ b=>stored p++kY b
 | .whl _ _ b=>kY b
 | _=>[]
noncomputable def kY:eW->List Nat
 | .nil=>[]
 | .cons s r=>nD s++kY r
end
noncomputable def SJ:IE->Bool
 | .lst _=>true
 | .comp ..=>true
 | .slc ..=>true
 | .blt .list _=>true
 | .blt .sorted _=>true
 | .dct0=>true
 | .dct1 ..=>true
 | _=>false
noncomputable def jQ(body:Val->aV->Pr yo):List Val->aV->Pr yo
 | [],env=>.ok (.nx env)
 | x::r,env=>pb (body x env) λf=>match f with
  | .nx env'=>jQ body r env'
  | .ct env'=>jQ body r env'
  | .bk env'=>.ok (.nx env')
  | .rt p=>.ok (.rt p)
noncomputable def WE:Mk->Mk
 | .ow=>.sh
 | m=>m
noncomputable def WG:Option (Mk×Val)->Option (Mk×Val)
 | none=>none
 | some (m,d)=>some (WE m,d)
noncomputable def iR(env:aV):aV:=env.map WG
noncomputable def QY(Ψ:Nat->List Val->Pr FV)(e:IE)(env:aV):Pr FV:=match e with
 | .var i=>match env[i]? with
  | some (some (m,d))=>if sO m=true then .ok (jv d||MV m,d) else match d with
   | .rl ds=>.ok (bJ ds,.rl ds)
   | .dc ks ds=>.ok (bJ ds,.dc ks ds)
   | _=>.no
  | _=>.no
 | .call j es=>aZ Ψ (.call j es) (iR env)
 | .tup es=>aZ Ψ (.tup es) (iR env)
 | e=>aZ Ψ e env
noncomputable def CY(p:yf)(it:nU)(body:eW):Bool:=match it with
 | .cons (.var i) .nil=>!(iW body).contains i && !(kY body).contains i && !(stored p).contains i
 | _=>true
mutual
noncomputable def cZ(Ψ:Nat->List Val->Pr FV)(ms:List Nat):IS->aV->Pr yo
 | .expr e,env=>match e with
  | .met .append (.var i) (.cons a .nil)=>match env[i]? with
   | some (some (.ow,.rl ds))=>pb (aZ Ψ a env) λx=>pg (decide (ds.length<sizeLine)) (.ok (.nx (env.set i (some (.ow,.rl (ds++[x.2]))))))
   | _=>.no
  | .met .extend (.var i) (.cons a .nil)=>match env[i]? with
   | some (some (.ow,.rl ds))=>pb (aZ Ψ a env) λx=>match x.2 with
    | .tup vs=>pg (decide (ds.length+vs.length<=sizeLine)) (.ok (.nx (env.set i (some (.ow,.rl (ds++vs))))))
    | _=>.no
   | _=>.no
  | e=>pb (aZ Ψ e env) λ_=>.ok (.nx env)
 | .asg p e,env=>match p with
  | .one i=>if ms.contains i=true then pg (SJ e) (pb (aZ Ψ e env) λx=>match x.2 with
    | .rl ds=>.ok (.nx (env.set i (some (.ow,.rl ds))))
    | .dc ks ds=>.ok (.nx (env.set i (some (.ow,.dc ks ds))))
    | _=>.no) else pb (aZ Ψ e env) λx=>.ok (.nx (env.set i (some (lZ x.1 x.2,x.2))))
  | .tup is=>pg (is.all λi=>!ms.contains i) (pb (aZ Ψ e env) λx=>pb (pl (cO (.tup is) x.2 env)) λenv'=>.ok (.nx env'))
 | .aug i o e,env=>pg (!ms.contains i) (pb (pl (match env[i]? with|some (some (_,.int x))=>some x|_=>none)) λx=>pb (aZ Ψ e env) λv=>pb (pl (ic v.2)) λy=>pb (j6 o (.int x) (.int y)) λz=>.ok (.nx (env.set i (some (.sh,z.2)))))
 | .eB o i v,env=>match o with
  | .var j=>pb (aZ Ψ v env) λx=>match env[j]? with
   | some (some (.ow,.rl ds))=>pb (aZ Ψ i env) λz=>pb (pl (ic z.2)) λk=>pb (pl (Ao ds.length k)) λn=>.ok (.nx (env.set j (some (.ow,.rl (ds.set n x.2)))))
   | some (some (.ow,.dc ks ds))=>pb (aZ Ψ i env) λz=>pb (pl (keyOf z.2)) λk=>pg (decide (ks.length<sizeLine)) (.ok (.nx (env.set j (some (.ow,putD ks ds k x.2)))))
   | _=>.no
  | _=>.no
 | .iff c a b,env=>pb (WD Ψ c env) λx=>pb (pl (dj [] x.2)) λt=>if t=true then kZ Ψ ms a env else kZ Ψ ms b env
 | .for p k it body,env=>pg (CY p it body&&(stored p).all λi=>!ms.contains i) (pb (iG Ψ it env) λits=>pb (pl (gI k its)) λxs =>
   jQ (λx env=>pb (pl (cO p x env)) λenv'=>kZ Ψ ms body env') xs env)
 | .whl _ _ _,_=>.no
 | .ret e,env=>pb (QY Ψ e env) λp=>.ok (.rt p)
 | .FY,_=>.ok (.rt (true,.non))
 | .brk,env=>.ok (.bk env)
 | .cnt,env=>.ok (.ct env)
 | .pass,env=>.ok (.nx env)
 | .never,_=>.no
 | .setF _ _ _ _,_=>.no
noncomputable def kZ(Ψ:Nat->List Val->Pr FV)(ms:List Nat):eW->aV->Pr yo
 | .nil,env=>.ok (.nx env)
 | .cons s r,env=>pb (cZ Ψ ms s env) λf=>match f with
  | .nx env'=>kZ Ψ ms r env'
  | f=>.ok f
end
noncomputable def gA(Ψ:Nat->List Val->Pr FV)(n:Nat)(body:eW)(ds:List Val):Pr FV :=
 pb (kZ Ψ (iW body) body (ds.map (λd=>some (.sh,d))++replicate (n-ds.length) none)) λf=>match f with
  | .nx _=>.ok (true,.non)
  | .rt p=>.ok p
  | _=>.no
end Hv
end
section
namespace Hv
open PySem L2
noncomputable abbrev AP:=Option Nat->Prop
noncomputable def Fr(n:Nat):AP:=λo=>match o with
 | none=>False
 | some k=>n<=k
theorem Fr.le{n m:Nat}(h:n<=m):∀o,Fr m o->Fr n o
 | none,e=>e
 | some k,e=>le_trans h e
mutual
noncomputable def Dn(A:AP)(h:Hs):Val->Val->Prop
 | .non,v=>v=.non
 | .bl b,v=>v=.bl b
 | .int i,v=>v=.int i
 | .str x,v=>v=.str x
 | .tup ds,v=>∃vs,v=.tup vs/\ao A h ds vs
 | .rl ds,v=>(∃vs,v=.rl vs/\A none/\ao A h ds vs)\/∃i vs,v=.ref i/\A (some i)/\h[i]?=some (.lst vs)/\ao A h ds vs
 | .dc ks ds,v=>∃i kvs,v=.ref i/\A (some i)/\h[i]?=some (.dct kvs)/\kvs.map (·.1)=ks/\ao A h ds (kvs.map (·.2))
 | .ob c xs ds,v=>∃i fs,v=.ref i/\A (some i)/\h[i]?=some (.ins c fs)/\fs.map (·.1)=xs/\ao A h ds (fs.map (·.2))
 | .ref _,_=>False
noncomputable def ao(A:AP)(h:Hs):List Val->List Val->Prop
 | [],vs=>vs=[]
 | d::ds,vs=>∃v r,vs=v::r/\Dn A h d v/\ao A h ds r
end
section
variable {A A':AP} {h h' h1:Hs}
mutual
theorem Dn.mono(hA:∀i,A i->A' i)(hh:∀(i:Nat) (o:Ob),A (some i)->h[i]?=some o->h'[i]?=some o):∀(d v:Val),Dn A h d v->Dn A' h' d v
 | .non,v,e=>by rw[Dn] at e |-;exact e
 | .bl _,v,e=>by rw[Dn] at e |-;exact e
 | .int _,v,e=>by rw[Dn] at e |-;exact e
 | .str _,v,e=>by rw[Dn] at e |-;exact e
 | .tup ds,v,e=>by
  rw[Dn] at e |-;obtain⟨vs,rfl,q⟩:=e;exact⟨vs,rfl,ao.mono hA hh ds vs q⟩
 | .rl ds,v,e=>by
  rw[Dn] at e |-
  rcases e with ⟨vs,rfl,n,q⟩|⟨i,vs,rfl,a,g,q⟩
  ·exact .inl ⟨vs,rfl,hA _ n,ao.mono hA hh ds vs q⟩
  ·exact .inr ⟨i,vs,rfl,hA _ a,hh i _ a g,ao.mono hA hh ds vs q⟩
 | .dc ks ds,v,e=>by
  rw[Dn] at e |-;obtain⟨i,kvs,rfl,a,g,k,q⟩:=e;exact⟨i,kvs,rfl,hA _ a,hh i _ a g,k,ao.mono hA hh ds _ q⟩
 | .ob c xs ds,v,e=>by
  rw[Dn] at e |-;obtain⟨i,kvs,rfl,a,g,k,q⟩:=e;exact⟨i,kvs,rfl,hA _ a,hh i _ a g,k,ao.mono hA hh ds _ q⟩
 | .ref _,v,e=>by rw[Dn] at e;exact e.elim
theorem ao.mono(hA:∀i,A i->A' i)(hh:∀(i:Nat) (o:Ob),A (some i)->h[i]?=some o->h'[i]?=some o):∀(ds vs:List Val),ao A h ds vs->ao A' h' ds vs
 | [],vs,e=>by rw[ao] at e |-;exact e
 | d::ds,vs,e=>by
  rw[ao] at e |-;obtain⟨v,r,rfl,q1,q2⟩:=e;exact⟨v,r,rfl,Dn.mono hA hh d v q1,ao.mono hA hh ds r q2⟩
end
theorem bU{i:Nat}(p:h<+:h')(e:h[i]?=some o):h'[i]?=some o:=by
 obtain⟨t,rfl⟩:=p;have hi:i<h.length:=(List.getElem?_eq_some_iff.mp e).1;rw[getElem?_append_left hi];exact e
theorem Dn.ext(p:h<+:h')(e:Dn A h d v):Dn A h' d v:=Dn.mono (λ_ a=>a) (λ_ _ _ q=>bU p q) d v e
theorem ao.ext(p:h<+:h')(e:ao A h d v):ao A h' d v:=ao.mono (λ_ a=>a) (λ_ _ _ q=>bU p q) d v e
theorem Dn.f9(hA:∀i,A i->A' i)(e:Dn A h d v):Dn A' h d v:=Dn.mono hA (λ_ _ _ q=>q) d v e
theorem ao.f9(hA:∀i,A i->A' i)(e:ao A h d v):ao A' h d v:=ao.mono hA (λ_ _ _ q=>q) d v e
mutual
theorem iH:∀(d v:Val),jv d=true->(Dn A h d v↔v=d)
 | .non,v,_=>by rw[Dn]
 | .bl _,v,_=>by rw[Dn]
 | .int _,v,_=>by rw[Dn]
 | .str _,v,_=>by rw[Dn]
 | .tup ds,v,e=>by
  rw[jv] at e;rw[Dn];constructor
  ·rintro⟨vs,rfl,q⟩;rw[(aP ds vs e).mp q]
  ·rintro rfl;exact⟨ds,rfl,(aP ds ds e).mpr rfl⟩
 | .rl _,v,e=>by rw[jv] at e;cases e
 | .dc _ _,v,e=>by rw[jv] at e;cases e
 | .ob _ _ _,v,e=>by rw[jv] at e;cases e
 | .ref _,v,e=>by rw[jv] at e;cases e
theorem aP:∀(ds vs:List Val),bJ ds=true->(ao A h ds vs↔vs=ds)
 | [],vs,_=>by rw[ao]
 | d::ds,vs,e=>by
  rw[bJ,and_eq_true] at e;rw[ao];constructor
  ·rintro⟨v,r,rfl,q1,q2⟩;rw[(iH d v e.1).mp q1,(aP ds r e.2).mp q2]
  ·rintro rfl;exact⟨d,ds,rfl,(iH d d e.1).mpr rfl,(aP ds ds e.2).mpr rfl⟩
end
theorem ao.nil:ao A h [] []:=by rw[ao]
theorem ao.cons{d v:Val}{ds vs:List Val}(a:Dn A h d v)(b:ao A h ds vs):ao A h (d::ds) (v::vs):=by rw[ao];exact⟨v,vs,rfl,a,b⟩
theorem ao.length:∀{ds vs:List Val},ao A h ds vs->ds.length=vs.length
 | [],vs,e=>by rw[ao] at e;subst e;rfl
 | d::ds,vs,e=>by rw[ao] at e;obtain⟨v,r,rfl,_,q⟩:=e;simp[ao.length q]
theorem ao.get:∀{ds vs:List Val} {i:Nat} {d:Val},ao A h ds vs->ds[i]?=some d->∃v,vs[i]?=some v/\Dn A h d v
 | [],vs,i,d,e,q=>by simp at q
 | c::ds,vs,0,d,e,q=>by
  rw[ao] at e;obtain⟨v,r,rfl,a,_⟩:=e;simp at q;subst q;exact⟨v,rfl,a⟩
 | c::ds,vs,i+1,d,e,q=>by
  rw[ao] at e;obtain⟨v,r,rfl,_,b⟩:=e;simp at q;obtain⟨w,q1,q2⟩:=ao.get b q;exact⟨w,by simpa using q1,q2⟩
theorem ao.append:∀{ds es vs ws:List Val},ao A h ds vs->ao A h es ws->ao A h (ds++es) (vs++ws)
 | [],es,vs,ws,e,q=>by rw[ao] at e;subst e;exact q
 | d::ds,es,vs,ws,e,q=>by
  rw[ao] at e;obtain⟨v,r,rfl,a,b⟩:=e;exact ao.cons a (ao.append b q)
theorem ao.take:∀{ds vs:List Val} (n:Nat),ao A h ds vs->ao A h (ds.take n) (vs.take n)
 | _,_,0,_=>by simp;exact ao.nil
 | [],vs,n+1,e=>by rw[ao] at e;subst e;simp;exact ao.nil
 | d::ds,vs,n+1,e=>by
  rw[ao] at e;obtain⟨v,r,rfl,a,b⟩:=e;exact ao.cons a (ao.take n b)
theorem ao.drop:∀{ds vs:List Val} (n:Nat),ao A h ds vs->ao A h (ds.drop n) (vs.drop n)
 | _,_,0,e=>by simpa using e
 | [],vs,n+1,e=>by rw[ao] at e;subst e;simp;exact ao.nil
 | d::ds,vs,n+1,e=>by
  rw[ao] at e;obtain⟨v,r,rfl,a,b⟩:=e;exact ao.drop n b
theorem ao.cut(lo hi:Option Int)(e:ao A h ds vs):ao A h (dm ds lo hi) (dm vs lo hi):=by
 unfold dm;rw[e.length];exact ao.take _ (ao.drop _ e)
theorem ao.app:∀{ds es vs ws:List Val},ao A h ds vs->ao A h es ws->ao A h (ds++es) (vs++ws)
 | [],_,vs,_,e,q=>by rw[ao] at e;subst e;exact q
 | d::ds,_,vs,_,e,q=>by
  rw[ao] at e;obtain⟨v,r,rfl,a,b⟩:=e;rw[cons_append,cons_append,ao];exact⟨v,_,rfl,a,ao.app b q⟩
theorem ao.rev:∀{ds vs:List Val},ao A h ds vs->ao A h ds.reverse vs.reverse
 | [],vs,e=>by rw[ao] at e;subst e;exact ao.nil
 | d::ds,vs,e=>by
  rw[ao] at e;obtain⟨v,r,rfl,a,b⟩:=e;rw[reverse_cons,reverse_cons];refine ao.app (ao.rev b) ?_;rw[ao];exact⟨v,[],rfl,a,by rw[ao]⟩
theorem ao.set:∀{ds vs:List Val} (n:Nat) {d v:Val},ao A h ds vs->Dn A h d v->ao A h (ds.set n d) (vs.set n v)
 | [],vs,n,d,v,e,q=>by rw[ao] at e;subst e;simp;exact ao.nil
 | c::ds,vs,0,d,v,e,q=>by
  rw[ao] at e;obtain⟨w,r,rfl,a,b⟩:=e;exact ao.cons q b
 | c::ds,vs,n+1,d,v,e,q=>by
  rw[ao] at e;obtain⟨w,r,rfl,a,b⟩:=e;exact ao.cons a (ao.set n b q)
theorem ao.jV{i:Int}(e:ao A h ds vs)(q:L2.jV ds i=some d):∃v,L2.jV vs i=some v/\Dn A h d v:=by
 unfold L2.jV at q |-;rw[e.length] at q;cases hi:L2.Ao vs.length i with
 | none=>rw[hi] at q;cases q
 | some n=>rw[hi] at q;exact ao.get e q
theorem ao.one(e:ao A h [d] vs):∃v,vs=[v]/\Dn A h d v:=by
 rw[ao] at e;obtain⟨v,r,rfl,a,b⟩:=e;rw[ao] at b;subst b;exact⟨v,rfl,a⟩
noncomputable def OD(A:AP)(h:Hs)(d:Val)(a:Nat):Prop:=match d with
 | .rl ds=>∃vs,h[a]?=some (.lst vs)/\ao A h ds vs
 | .dc ks ds=>∃kvs,h[a]?=some (.dct kvs)/\kvs.map (·.1)=ks/\ao A h ds (kvs.map (·.2))
 | _=>False
theorem OD.mono{a:Nat}(e:OD A h d a)(ho:∀o,h[a]?=some o->h'[a]?=some o)(hq:∀ds vs,ao A h ds vs->ao A' h' ds vs):OD A' h' d a:=by
 cases d with
 | rl ds=>obtain⟨vs,g,q⟩:=e;exact⟨vs,ho _ g,hq _ _ q⟩
 | dc ks ds=>obtain⟨kvs,g,k,q⟩:=e;exact⟨kvs,ho _ g,k,hq _ _ q⟩
 | _=>exact False.elim e
theorem OD.ext{a:Nat}(p:h<+:h')(e:OD A h d a):OD A h' d a:=e.mono (λ_ g=>bU p g) λ_ _ q=>q.ext p
theorem OD.lt{a:Nat}(e:OD A h d a):a<h.length:=by
 cases d with
 | rl ds=>obtain⟨vs,g,q⟩:=e;exact(List.getElem?_eq_some_iff.mp g).1
 | dc ks ds=>obtain⟨kvs,g,k,q⟩:=e;exact(List.getElem?_eq_some_iff.mp g).1
 | _=>exact False.elim e
theorem OD.dn{a:Nat}(e:OD A h d a)(ha:A (.some a)):Dn A h d (.ref a):=by
 cases d with
 | rl ds=>obtain⟨vs,g,q⟩:=e;rw[Dn];exact .inr ⟨a,vs,rfl,ha,g,q⟩
 | dc ks ds=>obtain⟨kvs,g,k,q⟩:=e;rw[Dn];exact⟨a,kvs,rfl,ha,g,k,q⟩
 | _=>exact False.elim e
noncomputable def OB(A:AP)(h:Hs)(d:Val)(o:Ob):Prop:=match d with
 | .rl ds=>∃vs,o=.lst vs/\ao A h ds vs
 | .dc ks ds=>∃kvs,o=.dct kvs/\kvs.map (·.1)=ks/\ao A h ds (kvs.map (·.2))
 | _=>False
theorem OB.od{a:Nat}(e:OB A h d o)(g:h'[a]?=.some o)(hq:∀ds vs,ao A h ds vs->ao A' h' ds vs):OD A' h' d a:=by
 cases d with
 | rl ds=>obtain⟨vs,rfl,q⟩:=e;exact⟨vs,g,hq _ _ q⟩
 | dc ks ds=>obtain⟨kvs,rfl,k,q⟩:=e;exact⟨kvs,g,k,hq _ _ q⟩
 | _=>exact False.elim e
noncomputable def DB(A:AP)(h:Hs)(d v:Val):Prop:=Dn A h d v\/∃i,v=.ref i/\OD A h d i
theorem DB.all(e:DB A h d v):Dn (λ_=>True) h d v:=by
 rcases e with e|⟨i,rfl,q⟩
 ·exact e.f9 λ_ _=>trivial
 ·exact(q.mono (A':=λ_=>True) (λ_ g=>g) λ_ _ z=>z.f9 λ_ _=>trivial).dn trivial
theorem DB.ext(p:h<+:h')(e:DB A h d v):DB A h' d v:=by
 rcases e with e|⟨i,rfl,q⟩
 ·exact .inl (e.ext p)
 ·exact .inr ⟨i,rfl,q.ext p⟩
theorem DB.dc(e:DB A h (.dc ks ds) v):∃i kvs,v=.ref i/\h[i]?=some (.dct kvs)/\kvs.map (·.1)=ks/\ao A h ds (kvs.map (·.2)):=by
 rcases e with e|⟨i,rfl,kvs,g,k,q⟩
 ·rw[Dn] at e;obtain⟨i,kvs,rfl,_,g,k,q⟩:=e;exact⟨i,kvs,rfl,g,k,q⟩
 ·exact⟨i,kvs,rfl,g,k,q⟩
theorem DB.lst{ds:List Val}{v:Val}(e:DB A h (.rl ds) v):∃vs,aC h v=some vs/\ao A h ds vs:=by
 rcases e with e|⟨i,rfl,vs,g,q⟩
 ·rw[Dn] at e
  rcases e with ⟨vs,rfl,_,q⟩|⟨i,vs,rfl,_,g,q⟩
  ·exact⟨vs,rfl,q⟩
  ·exact⟨vs,by simp[aC,g],q⟩
 ·exact⟨vs,by simp[aC,g],q⟩
theorem DB.seq(e:DB A h d v)(q:dg [] d=some ds):∃vs,dg h v=some vs/\ao A h ds vs:=by
 cases d with
 | tup es =>
  simp only[dg] at q;cases q
  rcases e with e|⟨_,_,e1⟩
  ·rw[Dn] at e;obtain⟨vs,rfl,q⟩:=e;exact⟨vs,rfl,q⟩
  ·exact False.elim e1
 | rl es =>simp only[dg,aC] at q;cases q;obtain⟨vs,q1,q2⟩:=e.lst;refine⟨vs,?_,q2⟩;cases v<;>first|(simp[aC] at q1;done)|exact q1
 | ref i=>simp[dg,aC] at q
 | _=>simp[dg,aC] at q
theorem DB.int{i:Int}(e:DB A h (.int i) v):v=.int i:=by
 rcases e with e|⟨_,_,e1⟩
 ·rw[Dn] at e;exact e
 ·exact False.elim e1
theorem DB.str(e:DB A h (.str i) v):v=.str i:=by
 rcases e with e|⟨_,_,e1⟩
 ·rw[Dn] at e;exact e
 ·exact False.elim e1
theorem DB.bl{i:Bool}(e:DB A h (.bl i) v):v=.bl i:=by
 rcases e with e|⟨_,_,e1⟩
 ·rw[Dn] at e;exact e
 ·exact False.elim e1
theorem DB.tup{v:Val}{ds:List Val}(e:DB A h (.tup ds) v):∃vs,v=.tup vs/\ao A h ds vs:=by
 rcases e with e|⟨_,_,e1⟩
 ·rw[Dn] at e;exact e
 ·exact False.elim e1
theorem uq:∀(n:Nat) (d v:Val) (p:PyData),Dn (λ_=>True) h d v->toD n [] d=some p->toD n h v=some p:=by
 intro n
 induction n with
 | zero=>intro d v p _ e;simp[toD] at e
 | succ n ih =>
  have all:∀(ds vs:List Val) (ps:List PyData),ao (λ_=>True) h ds vs->cg (toD n []) ds=some ps->cg (toD n h) vs=some ps:=by
   intro ds
   induction ds with
   | nil=>intro vs ps q e;rw[ao] at q;subst q;exact e
   | cons d ds YK =>intro vs ps q e;rw[ao] at q;obtain⟨v,r,rfl,q1,q2⟩:=q;simp only[cg] at e |-;obtain⟨x,e1,e⟩:=bind_eq_some_iff.mp e;obtain⟨xs,e2,e⟩:=bind_eq_some_iff.mp e;rw[ih d v x q1 e1,YK r xs q2 e2];exact e
  intro d v p q e;cases d with
  | non=>rw[Dn] at q;subst q;exact e
  | bl b=>rw[Dn] at q;subst q;exact e
  | int b=>rw[Dn] at q;subst q;exact e
  | str b=>rw[Dn] at q;subst q;exact e
  | tup ds =>rw[Dn] at q;obtain⟨vs,rfl,q⟩:=q;simp only[toD] at e |-;obtain⟨ps,e1,e⟩:=bind_eq_some_iff.mp e;rw[all ds vs ps q e1];exact e
  | rl ds =>
   rw[Dn] at q;simp only[toD] at e;obtain⟨ps,e1,e⟩:=bind_eq_some_iff.mp e
   rcases q with ⟨vs,rfl,_,q⟩|⟨i,vs,rfl,_,g,q⟩
   ·simp only[toD];rw[all ds vs ps q e1];exact e
   ·simp only[toD,aC,g,bind_some];rw[all ds vs ps q e1];exact e
  | dc ks ds=>simp[toD] at e
  | ob c xs ds=>simp[toD] at e
  | ref i=>rw[Dn] at q;exact q.elim
theorem Iw{b:Bool}(a:DB A h d v)(c:DB A h e w)(q:BA [] d e=some b):BA h v w=some b:=by
 unfold BA at q |-;obtain⟨x,e1,q⟩:=bind_eq_some_iff.mp q;obtain⟨y,e2,q⟩:=bind_eq_some_iff.mp q;rw[uq 16 d v x a.all e1,uq 16 e w y c.all e2];exact q
theorem CZ(a:DB A h d v):pV v=pV d:=by
 rcases a with a|⟨i,rfl,q⟩
 ·cases d<;>rw[Dn] at a
  ·subst a;rfl
  ·subst a;rfl
  ·subst a;rfl
  ·subst a;rfl
  ·obtain⟨vs,rfl,_⟩:=a;rfl
  ·rcases a with ⟨vs,rfl,_⟩|⟨i,vs,rfl,_⟩<;>rfl
  ·obtain⟨i,kvs,rfl,_⟩:=a;rfl
  ·obtain⟨i,kvs,rfl,_⟩:=a;rfl
  ·exact a.elim
 ·cases d<;>first|exact False.elim q|rfl
theorem Dc{b:Bool}(q:memD h v (.str y)=some b):False:=by
 unfold memD at q;obtain⟨x,e1,q⟩:=bind_eq_some_iff.mp q;obtain⟨z,e2,q⟩:=bind_eq_some_iff.mp q;simp only[toD] at e1;split at e1<;>cases e1;simp[Ke] at q
theorem Dd{b:Bool}(a:DB A h d v)(c:DB A h e w)(q:t8 [] d e=some b):t8 h v w=some b:=by
 have data:memD [] d e=some b->memD h v w=some b:=λq=>by
  unfold memD at q |-;obtain⟨x,e1,q⟩:=bind_eq_some_iff.mp q;obtain⟨y,e2,q⟩:=bind_eq_some_iff.mp q;rw[uq 16 e w x c.all e1,uq 16 d v y a.all e2];exact q
 cases e with
 | str y =>
  have:=c.str;subst this;cases d with
  | str x=>have:=a.str;subst this;exact q
  | _=>exact(Dc (data q)).elim
 | tup es =>obtain⟨ws,rfl,_⟩:=c.tup;have q':=data (by cases d<;>exact q);cases v<;>exact q'
 | rl es =>
  have q':=data (by cases d<;>exact q)
  rcases c with c|⟨i,rfl,vs,g,q2⟩
  ·rw[Dn] at c
   rcases c with ⟨ws,rfl,_⟩|⟨i,ws,rfl,_,g,_⟩
   ·cases v<;>exact q'
   ·cases v<;>(show (h[i]?).bind _=_;rw[g];exact q')
  ·cases v<;>(show (h[i]?).bind _=_;rw[g];exact q')
 | dc ks es =>
  obtain⟨i,kvs,rfl,g,hk,_⟩:=c.dc
  ·skip
   have q':(keyOf d).bind (λk=>some (ks.any λj=>decide (j=k)))=some b:=by cases d<;>exact q
   obtain⟨kk,e1,q'⟩:=bind_eq_some_iff.mp q';have ev:keyOf v=some kk:=by
    cases d<;>simp only[keyOf] at e1<;>first|(cases e1;done)|skip
    ·have:=a.int;subst this;exact e1
    ·have:=a.str;subst this;exact e1
   have:(bW kvs kk).isSome=(ks.any λj=>decide (j=kk)):=by
    subst hk;unfold bW;rw[isSome_map,any_map];have key:∀l:List (Key×Val),(List.find? (λkv=>decide (kv.fst=kk)) l).isSome=l.any ((λj=>decide (j=kk))∘λx=>x.fst):=by
     intro l
     induction l with
     | nil=>rfl
     | cons x l ih =>
      rw[find?_cons,any_cons]
      by_cases hx:x.1=kk
      ·simp[hx]
      ·simp[hx];simpa using ih
    exact key kvs
   have fin:FZ h v i (.dct kvs)=some b:=by simp only[FZ,ev,bind_some,this];exact q'
   cases v<;>(show (h[i]?).bind _=_;rw[g];exact fin)
 | ref i =>
  rcases c with c|⟨_,_,e1⟩
  ·rw[Dn] at c;exact c.elim
  ·exact False.elim e1
 | ob cc xs es =>
  have q':memD [] d (.ob cc xs es)=some b:=by cases d<;>exact q
  unfold memD at q';obtain⟨x,e1,q'⟩:=bind_eq_some_iff.mp q';simp[toD] at e1
 | non =>
  have q':=data (by cases d<;>exact q);have:w=.non:=by
   rcases c with c|⟨_,_,e1⟩
   ·rw[Dn] at c;exact c
   ·exact False.elim e1
  subst this;cases v<;>exact q'
 | bl x =>
  have q':=data (by cases d<;>exact q);have:w=.bl x:=by
   rcases c with c|⟨_,_,e1⟩
   ·rw[Dn] at c;exact c
   ·exact False.elim e1
  subst this;cases v<;>exact q'
 | int x =>
  have q':=data (by cases d<;>exact q);have:w=.int x:=by
   rcases c with c|⟨_,_,e1⟩
   ·rw[Dn] at c;exact c
   ·exact False.elim e1
  subst this;cases v<;>exact q'
theorem De{b:Bool}(a:DB A h d v)(c:DB A h e w)(q:Ij d e=some b):Ij v w=some b:=by
 cases e<;>first|(cases q;done)|skip
 ·have:w=.non:=by
   rcases c with c|⟨_,_,e1⟩
   ·rw[Dn] at c;exact c
   ·exact False.elim e1
  subst this;show some (pV v)=_;rw[CZ a];exact q
 ·have:=c.bl;subst this
  cases d<;>first|(cases q;done)|skip
  have:=a.bl;subst this;exact q
theorem Lk{b:Bool}(a:DB A h d v)(c:DB A h e w)(q:cop [] o d e=some b):cop h o v w=some b:=by
 cases o with
 | eq=>exact Iw a c q
 | ne =>obtain⟨x,e1,e2⟩:=map_eq_some_iff.mp (show (BA [] d e).map _=some b from q);show (BA h v w).map _=_;rw[Iw a c e1];exact congrArg some e2
 | isn=>exact De a c q
 | ntn =>obtain⟨x,e1,e2⟩:=map_eq_some_iff.mp (show (Ij d e).map _=some b from q);show (Ij v w).map _=_;rw[De a c e1];exact congrArg some e2
 | vD=>exact Dd a c q
 | nin =>obtain⟨x,e1,e2⟩:=map_eq_some_iff.mp (show (t8 [] d e).map _=some b from q);show (t8 h v w).map _=_;rw[Dd a c e1];exact congrArg some e2
 | lt =>obtain⟨i,j,rfl,rfl⟩:=j3 (.inl rfl) q;have:=a.int;subst this;have:=c.int;subst this;exact q
 | le =>obtain⟨i,j,rfl,rfl⟩:=j3 (.inr (.inl rfl)) q;have:=a.int;subst this;have:=c.int;subst this;exact q
 | gt =>obtain⟨i,j,rfl,rfl⟩:=j3 (.inr (.inr (.inl rfl))) q;have:=a.int;subst this;have:=c.int;subst this;exact q
 | ge =>obtain⟨i,j,rfl,rfl⟩:=j3 (.inr (.inr (.inr rfl))) q;have:=a.int;subst this;have:=c.int;subst this;exact q
theorem ur{b:Bool}(a:DB A h d v)(q:dj [] d=some b):dj h v=some b:=by
 cases d with
 | rl ds =>
  obtain⟨vs,q1,q2⟩:=a.lst;have l:=q2.length;have e:(!ds.isEmpty) = !vs.isEmpty:=by cases ds<;>cases vs<;>simp_all
  simp only[dj] at q;rw[e] at q;cases v<;>simp only[aC] at q1<;>first|(cases q1;done)|skip
  ·cases q1;exact q
  ·split at q1<;>cases q1;rename_i g;simp only[dj,g];exact q
 | tup ds =>
  obtain⟨vs,rfl,q2⟩:=a.tup;have l:=q2.length;have e:(!ds.isEmpty) = !vs.isEmpty:=by cases ds<;>cases vs<;>simp_all
  simp only[dj] at q |-;rw[<-e];exact q
 | dc ks ds =>obtain⟨i,kvs,rfl,g,hk,_⟩:=a.dc;subst hk;simp only[dj,g] at q |-;rw[<-q];cases kvs<;>rfl
 | ob c xs ds=>cases q
 | ref i =>
  rcases a with a|⟨_,_,e1⟩
  ·rw[Dn] at a;exact a.elim
  ·exact False.elim e1
 | non =>
  rcases a with a|⟨_,_,e1⟩
  ·rw[Dn] at a;subst a;exact q
  ·exact False.elim e1
 | bl b=>have:=a.bl;subst this;exact q
 | int b=>have:=a.int;subst this;exact q
 | str b=>have:=a.str;subst this;exact q
theorem Ll{n:Nat}(a:DB A h d v)(q:lU [] d=some n):lU h v=some n:=by
 cases d with
 | rl ds =>
  obtain⟨vs,q1,q2⟩:=a.lst;have l:=q2.length;simp only[lU] at q;rw[l] at q;cases v<;>simp only[aC] at q1<;>first|(cases q1;done)|skip
  ·cases q1;exact q
  ·split at q1<;>cases q1;rename_i g;simp only[lU,g];exact q
 | tup ds =>obtain⟨vs,rfl,q2⟩:=a.tup;simp only[lU] at q |-;rw[<-q2.length];exact q
 | dc ks ds =>obtain⟨i,kvs,rfl,g,hk,_⟩:=a.dc;subst hk;simp only[lU,g] at q |-;rw[<-q];simp
 | str b=>have:=a.str;subst this;exact q
 | _=>simp[lU] at q
theorem OE{t:String}(a:DB A h d v)(q:vG [] d=some t):vG h v=some t:=by
 cases d with
 | rl ds =>
  obtain⟨vs,q1,q2⟩:=a.lst;cases v<;>simp only[aC] at q1<;>first|(cases q1;done)|skip
  ·exact q
  ·split at q1<;>cases q1;rename_i g;simp only[vG,g];exact q
 | tup ds=>obtain⟨vs,rfl,q2⟩:=a.tup;exact q
 | dc ks ds =>obtain⟨i,kvs,rfl,g,hk,_⟩:=a.dc;simp only[vG,g] at q |-;exact q
 | ob c xs ds=>cases q
 | ref i =>
  rcases a with a|⟨_,_,e1⟩
  ·rw[Dn] at a;exact a.elim
  ·exact False.elim e1
 | non =>
  rcases a with a|⟨_,_,e1⟩
  ·rw[Dn] at a;subst a;exact q
  ·exact False.elim e1
 | bl b=>have:=a.bl;subst this;exact q
 | int b=>have:=a.int;subst this;exact q
 | str b=>have:=a.str;subst this;exact q
theorem oV:∀{kvs:List (Key×Val)} {ks:List Key} {ds:List Val} {z:Val},kvs.map (·.1)=ks->ao A h ds (kvs.map (·.2))->bW (ks.zip ds) k=some z->∃v,bW kvs k=some v/\Dn A h z v
 | [],ks,ds,z,hk,q,e=>by subst hk;simp[bW] at e
 | (k',v')::kvs,ks,ds,z,hk,q,e=>by
  subst hk;have l:=q.length;cases ds with
  | nil=>simp at l
  | cons d ds =>
   simp only[map_cons] at q;rw[ao] at q;obtain⟨v,r,e1,q1,q2⟩:=q;cases e1
   by_cases hkk:k'=k
   ·subst hkk;simp[bW] at e |-;subst e;exact q1
   ·have e':bW ((kvs.map (·.1)).zip ds) k=some z:=by simpa [bW,hkk] using e
    obtain⟨w,a1,a2⟩:=oV rfl q2 e';exact⟨w,by simpa [bW,hkk] using a1,a2⟩
theorem DB.l0{j:Nat}(c:DB A h (.ref j) v):False:=by
 rcases c with c|⟨_,_,e1⟩
 ·rw[Dn] at c;exact c
 ·exact e1
theorem zB:∀{kvs:List (Key×Val)} {ds:List Val},ao A h ds (kvs.map (·.2))->bW ((kvs.map (·.1)).zip ds) k=none->bW kvs k=none
 | [],ds,q,e=>rfl
 | (k',v')::kvs,ds,q,e=>by
  cases ds with
  | nil=>rw[ao] at q;cases q
  | cons d ds =>
   rw[map_cons,ao] at q;obtain⟨v,r,eq,q1,q2⟩:=q;cases eq;unfold bW at e |-;rw[map_cons,zip_cons_cons,find?_cons] at e;rw[find?_cons]
   by_cases hk:k'=k
   ·simp[hk] at e
   ·simp only[hk,decide_false] at e |-;exact zB q2 e
theorem yq(a:Dn A h d v)(e:keyOf d=some kk):keyOf v=some kk:=by
 cases d<;>first|(cases e;done)|skip
 ·rw[Dn] at a;subst a;exact e
 ·rw[Dn] at a;subst a;exact e
theorem Lm(a:DB A h o v)(e:yg [] o k=some r):∃r',yg h v k=some r'/\∀z z',Dn A h z z'->Dn A h (r.getD z) (r'.getD z'):=by
 cases o<;>first|(cases e;done)|(exact(DB.l0 a).elim)|skip
 rename_i ks ds;obtain⟨i,kvs,rfl,g,hk,q⟩:=a.dc;cases e;have eg:yg h (.ref i) k=some (bW kvs k):=by show (match h[i]? with|some (.dct kvs)=>some (bW kvs k)|_=>none)=_;rw[g]
 refine⟨_,eg,λz z' hz=>?_⟩;cases ev:bW (ks.zip ds) k with
 | none =>subst hk;rw[zB q ev];exact hz
 | some d =>obtain⟨u,e1,e2⟩:=oV hk q ev;rw[e1];exact e2
theorem qm(a:DB A h o v)(e:lT [] o=some ks):lT h v=some ks:=by
 cases o<;>first|(cases e;done)|(exact(DB.l0 a).elim)|skip
 obtain⟨i,kvs,rfl,g,hk,q⟩:=a.dc;cases e;show (match h[i]? with|some (.dct kvs)=>some (kvs.map (λkv:Key×Val=>kv.1))|_=>none)=_;rw[g];exact congrArg some hk
theorem mh:∀ks:List Key,bJ (ks.map AM)=true
 | []=>rfl
 | .inl _::ks=>by rw[map_cons,bJ,mh ks];rfl
 | .inr _::ks=>by rw[map_cons,bJ,mh ks];rfl
theorem GK{u:Unit}(a:DB A h o v)(e:Cw [] o=some u):Cw h v=some u:=by
 cases o<;>first|(cases e;done)|(exact(DB.l0 a).elim)|skip
 obtain⟨i,kvs,rfl,g,hk,q⟩:=a.dc;show (match h[i]? with|some (.dct _)=>some ()|_=>none)=_;rw[g]
theorem Lo(a:DB A h d v)(c:Dn A h e w)(q:nh [] d e=some z):∃u,nh h v w=some u/\Dn A h z u:=by
 cases e with
 | int i =>
  rw[Dn] at c;subst c;cases d with
  | str x =>
   have:=a.str;subst this;refine⟨z,q,?_⟩;change (if x.length<=sizeLine then (jV x.cps.toList i).map (λc=>Val.str ⟨#[c]⟩) else none)=some z at q;split at q
   ·obtain⟨c,_,rfl⟩:=map_eq_some_iff.mp q;rw[Dn]
   ·cases q
  | tup ds =>obtain⟨vs,rfl,q2⟩:=a.tup;exact q2.jV q
  | rl ds =>
   obtain⟨vs,q1,q2⟩:=a.lst;obtain⟨u,q3,q4⟩:=q2.jV q;refine⟨u,?_,q4⟩;cases v<;>simp only[aC] at q1<;>first|(cases q1;done)|skip
   ·cases q1;exact q3
   ·split at q1<;>cases q1;rename_i g;unfold nh;simp only[aC,g,bind_some];exact q3
  | dc ks ds =>obtain⟨i',kvs,rfl,g,hk,q2⟩:=a.dc;obtain⟨u,q3,q4⟩:=oV hk q2 q;refine⟨u,?_,q4⟩;show (match h[i']? with|some (.dct kvs)=>bW kvs (.inl i)|_=>(aC h (.ref i')).bind λxs=>jV xs i)=_;rw[g];exact q3
  | ref j=>exact(DB.l0 a).elim
  | _=>cases q
 | str x =>
  rw[Dn] at c;subst c;cases d with
  | dc ks ds =>obtain⟨i',kvs,rfl,g,hk,q2⟩:=a.dc;obtain⟨u,q3,q4⟩:=oV hk q2 q;refine⟨u,?_,q4⟩;show (match h[i']? with|some (.dct kvs)=>bW kvs (.inr x)|_=>none)=_;rw[g];exact q3
  | ref j=>exact(DB.l0 a).elim
  | _=>cases q
 | _=>cases d<;>first|(cases q;done)|exact(DB.l0 a).elim
theorem uu:∀{fs:List (Str×Val)} {ds:List Val},ao A h ds (fs.map (·.2))->(((fs.map (·.1)).zip ds).lookup x=none->fs.lookup x=none)/\∀z,((fs.map (·.1)).zip ds).lookup x=some z->∃u,fs.lookup x=some u/\Dn A h z u
 | [],ds,q=>⟨λ_=>rfl,λz e=>by simp at e⟩
 | (k,v)::fs,ds,q=>by
  cases ds with
  | nil=>rw[ao] at q;cases q
  | cons d ds =>
   rw[map_cons,ao] at q;obtain⟨w,r,eq,q1,q2⟩:=q;cases eq;rw[map_cons,zip_cons_cons,lookup_cons,lookup_cons];cases hb:x==k with
   | true=>exact⟨λz=>(by cases z),λz e=>(by cases e;exact⟨v,rfl,q1⟩)⟩
   | false=>exact uu q2
theorem DB.ob{c:Nat}(e:DB A h (.ob c xs ds) v):∃i fs,v=.ref i/\h[i]?=some (.ins c fs)/\fs.map (·.1)=xs/\ao A h ds (fs.map (·.2)):=by
 rcases e with e|⟨_,_,e1⟩
 ·rw[Dn] at e;obtain⟨i,fs,rfl,_,g,k,q⟩:=e;exact⟨i,fs,rfl,g,k,q⟩
 ·exact False.elim e1
theorem Lp{n:Nat}(a:DB A h o v)(e:iC n [] o x=some z):∃u,iC n h v x=some u/\Dn A h z u:=by
 cases o<;>first|(cases e;done)|(exact(DB.l0 a).elim)|skip
 obtain⟨i,fs,rfl,g,hk,q⟩:=a.ob;subst hk;unfold iC at e;dsimp only at e;split at e
 ·rename_i hc;obtain⟨u,e1,e2⟩:=(uu q).2 z e;refine⟨u,?_,e2⟩;unfold iC;dsimp only;rw[g];dsimp only;rw[if_pos hc];exact e1
 ·cases e
theorem Lq{j:Nat}(a:DB A h o v)(e:kQ [] o m js=some j):kQ h v m js=some j:=by
 cases o<;>first|(cases e;done)|(exact(DB.l0 a).elim)|skip
 obtain⟨i,fs,rfl,g,hk,q⟩:=a.ob;subst hk;unfold kQ at e;dsimp only at e;split at e
 ·rename_i hc;have e1:=(uu q).1 (by simpa using hc);unfold kQ;dsimp only;rw[g];dsimp only;rw[if_pos (by rw[e1];rfl)];exact e
 ·cases e
theorem Lr{b:Bool}(a:DB A h o v)(e:AN [] o bs=some b):AN h v bs=some b:=by
 cases o<;>first|(cases e;done)|(exact(DB.l0 a).elim)|skip
 obtain⟨i,fs,rfl,g,hk,q⟩:=a.ob;unfold AN;dsimp only;rw[g];exact e
end
end Hv
end
section
namespace Hv
open PySem L2
noncomputable def Up(A:AP)(h:Hs):Prop:=∀k,h.length<=k->A (some k)
noncomputable def Rel(A:AP)(h:Hs){α β:Type}(R:α -> Hs -> β -> Prop)(o:Out β):Pr α -> Prop
 | .ok a=>∃b h',o=.ok b h'/\h<+:h'/\R a h' b
 | .exc c es=>∃ws h',o=.exc c ws h'/\h<+:h'/\ao A h' es ws
 | .no=>True
noncomputable def RV(A:AP)(h:Hs):FV->Hs->Val->Prop:=λx h' v=>Dn A h' x.2 v/\(x.1=true->Dn (Fr h.length) h' x.2 v)
noncomputable def YL(A:AP)(h:Hs):Bool×List Val->Hs->List Val->Prop:=λx h' v=>ao A h' x.2 v/\(x.1=true->ao (Fr h.length) h' x.2 v)
noncomputable def SK(A:AP):FV->Hs->Val->Prop:=λx h' v=>DB A h' x.2 v
noncomputable def GL(A:AP)(h:Hs):List Val->List Val->Prop
 | [],vs=>vs=[]
 | d::ds,vs=>∃v r,vs=v::r/\DB A h d v/\GL A h ds r
noncomputable def ER(A:AP)(aa:aV)(env:Env)(h:Hs):Prop:=∀(i:Nat) (f:Mk) (d:Val),aa[i]?=some (some (f,d)) ->
 if sO f=false then ∃a,env[i]?=some (some (.ref a))/\OD A h d a else ∃v,env[i]?=some (some v)/\Dn A h d v
section
variable {A:AP} {h h1:Hs} {α β γ δ:Type}
theorem Up.ext(u:Up A h)(p:h<+:h1):Up A h1:=λk hk=>u k (le_trans p.length_le hk)
theorem ER.ext(e:ER A aa env h)(p:h<+:h1):ER A aa env h1:=λi f d q=>by
 have:=e i f d q;revert this;generalize sO f=t;intro this;cases t with
 | false =>rw[if_pos rfl] at this |-;obtain⟨a,k2,k3⟩:=this;exact⟨a,k2,k3.ext p⟩
 | true =>rw[if_neg (by decide)] at this |-;obtain⟨v,k1,k2⟩:=this;exact⟨v,k1,k2.ext p⟩
theorem ah(r:Rel A h R (m h) p)(k:∀a h1 b,h<+:h1->R a h1 b->Rel A h1 R' (f b h1) (F a)):Rel A h R' (bnd m f h) (pb p F):=by
 unfold bnd;cases p with
 | ok a =>
  obtain⟨b,h1,e,q,r⟩:=r;rw[e];show Rel A h R' (f b h1) (F a);have:=k a h1 b q r;cases e2:F a with
  | ok c=>rw[e2] at this;obtain⟨d,h2,e3,q2,r2⟩:=this;exact⟨d,h2,e3,q.trans q2,r2⟩
  | exc c es=>rw[e2] at this;obtain⟨d,h2,e3,q2,r2⟩:=this;exact⟨d,h2,e3,q.trans q2,r2⟩
  | no=>trivial
 | exc c es =>obtain⟨ws,h1,e,q,r⟩:=r;rw[e];exact⟨ws,h1,rfl,q,r⟩
 | no=>trivial
theorem aB(r:R a h b):Rel A h R (ret b h) (.ok a):=⟨b,h,rfl,prefix_refl _,r⟩
theorem bf(r:∀a,o=some a->∃b,o'=some b/\R a h b):Rel A h R (bh o' h) (pl o):=by
 cases o with
 | none=>trivial
 | some a=>obtain⟨b,rfl,q⟩:=r a rfl;exact⟨b,h,rfl,prefix_refl _,q⟩
theorem bN(r:∀a,o=some a->∃b,f h=some b/\R a h b):Rel A h R (ask f h) (pl o):=bf r
theorem bP{c c':Bool}(e:c=true->c'=true)(r:c=true->Rel A h R (m h) p):Rel A h R (aE c' m h) (pg c p):=by
 unfold aE pg;cases c with
 | true=>rw[if_pos (e rfl),if_pos rfl];exact r rfl
 | false=>rw[if_neg Bool.false_ne_true];trivial
theorem v7(r:Rel A h R o p)(k:∀a h' b,h<+:h'->R a h' b->R' a h' b):Rel A h R' o p:=by
 cases p with
 | ok a=>obtain⟨b,h',e,q,r⟩:=r;exact⟨b,h',e,q,k a h' b q r⟩
 | exc c es=>exact r
 | no=>trivial
theorem dw(o:Ob):h<+:h++[o]:=prefix_append _ _
theorem iX(o:Ob):(h++[o])[h.length]?=some o:=by simp
theorem eY{f:Bool}{h0:Hs}(u:Up A h)(p:h0<+:h)(q:ao A h xs vs)(g:f=true->ao (Fr h0.length) h xs vs):Rel A h (RV A h0) (new (.lst vs) h) (.ok (f,.rl xs)):=by
 refine⟨_,_,rfl,dw _,?_,λhf=>?_⟩
 ·show Dn A _ (.rl xs) _;rw[Dn];exact .inr ⟨_,vs,rfl,u _ (le_refl _),iX _,q.ext (dw _)⟩
 ·show Dn _ _ (.rl xs) _;rw[Dn];exact .inr ⟨_,vs,rfl,p.length_le,iX _,(g hf).ext (dw _)⟩
theorem lC{h0:Hs}(q:Dn A h d v):RV A h0 (jv d,d) h v:=⟨q,λhi=>(iH d v hi).mpr ((iH d v hi).mp q)⟩
theorem gb(q:ao A h ds vs)(hi:bJ ds=true):ao A' h' ds vs:=(aP ds vs hi).mpr ((aP ds vs hi).mp q)
theorem iI{i:Int}{h0:Hs}{f:Bool}:RV A h0 (f,.int i) h (.int i):=⟨by rw[Dn],λ_=>by rw[Dn]⟩
theorem nW{i:Bool}{h0:Hs}{f:Bool}:RV A h0 (f,.bl i) h (.bl i):=⟨by rw[Dn],λ_=>by rw[Dn]⟩
theorem Lu{h0:Hs}{f:Bool}:RV A h0 (f,.str i) h (.str i):=⟨by rw[Dn],λ_=>by rw[Dn]⟩
theorem RV.br{h0:Hs}(r:RV A h0 x h v):SK A x h v:=.inl r.1
theorem GN(ho:o≠.add)(v w:Val):(∃i j,v=.int i/\w=.int j)\/j6 o v w=.no:=by
 cases v with
 | int i =>
  cases w with
  | int j=>exact .inl ⟨i,j,rfl,rfl⟩
  | _=>right;cases o<;>first|rfl|exact absurd rfl ho
 | _=>right;cases o<;>first|rfl|exact absurd rfl ho
theorem zC{h0:Hs}(u:Up A h)(p:h0<+:h)(a:DB A h d v)(c:DB A h e w):Rel A h (RV A h0) (Ii o v w h) (j6 o d e):=by
 have ii:o≠.add->(∃i j,d=.int i/\e=.int j)\/j6 o d e=.no:=λho=>GN ho d e;cases o with
 | add =>
  cases d<;>cases e<;>first|trivial|skip
  ·have:=a.int;subst this;have:=c.int;subst this;exact aB iI
  ·have:=a.str;subst this;have:=c.str;subst this;exact bP (λz=>z) λ_=>aB Lu
  ·rename_i xs ys
   obtain⟨vs,rfl,q1⟩:=a.tup;obtain⟨ws,rfl,q2⟩:=c.tup;have l1:=q1.length;have l2:=q2.length;refine bP (λz=>?_) λ_=>aB ⟨?_,λhi=>?_⟩
   ·rw[l1,l2] at z
    have:xs.isEmpty=vs.isEmpty:=by cases xs<;>cases vs<;>simp_all
    rw[<-this];exact z
   ·show Dn A h (.tup _) _;rw[Dn];exact⟨_,rfl,q1.append q2⟩
   ·show Dn _ h (.tup _) _;rw[Dn];exact⟨_,rfl,gb (q1.append q2) hi⟩
  ·rename_i xs ys
   obtain⟨vs,e1,q1⟩:=a.lst;obtain⟨ws,e2,q2⟩:=c.lst;have eb:Ii .add v w=bnd (ask λh=>aC h v) λa=>bnd (ask λh=>aC h w) λb=>aE (decide (a.length+b.length<=sizeLine)) (new (.lst (a++b))):=by
    cases v<;>simp only[aC] at e1<;>first|(cases e1;done)|skip
    all_goals cases w<;>simp only[aC] at e2<;>first|(cases e2;done)|rfl
   have ev:Ii .add v w h=aE (decide (vs.length+ws.length<=sizeLine)) (new (.lst (vs++ws))) h:=by rw[eb];unfold bnd ask bh;dsimp only;rw[e1];dsimp only;rw[e2]
   rw[ev];refine bP (λz=>?_) λ_=>eY u p (q1.append q2) λhi=>gb (q1.append q2) hi;rw[<-q1.length,<-q2.length];exact z
 | _ =>
  rcases ii (by intro z;cases z) with ⟨i,j,rfl,rfl⟩|z
  case inr=>rw[z];trivial
  have:=a.int;subst this;have:=c.int;subst this
  first
   | exact aB iI
   | exact bP (λz=>z) λ_=>aB iI
theorem GO{lo hi:Option Int}{h0:Hs}(u:Up A h)(p:h0<+:h)(a:DB A h d v):Rel A h (RV A h0) (rH v lo hi h) (Bf d lo hi):=by
 cases d with
 | tup ds =>
  obtain⟨vs,rfl,q⟩:=a.tup;have l:=q.length;simp only[Bf,rH];refine bP (λz=>?_) λ_=>aB ⟨?_,λhi=>?_⟩
  ·rw[l] at z;exact z
  ·show Dn A h (.tup _) _;rw[Dn];exact⟨_,rfl,q.cut lo hi⟩
  ·show Dn _ h (.tup _) _;rw[Dn];exact⟨_,rfl,gb (q.cut _ _) hi⟩
 | rl ds =>
  obtain⟨vs,e1,q⟩:=a.lst;have ev:rH v lo hi h=new (.lst (dm vs lo hi)) h:=by
   have:rH v lo hi=bnd (ask λh=>aC h v) λxs=>new (.lst (dm xs lo hi)):=by cases v<;>simp only[aC] at e1<;>first|(cases e1;done)|rfl
   rw[this];unfold bnd ask bh;dsimp only;rw[e1]
  rw[ev];exact eY u p (q.cut lo hi) λhh=>gb (q.cut lo hi) hh
 | _=>trivial
theorem GL.one(e:GL A h [d] vs):∃v,vs=[v]/\DB A h d v:=by
 obtain⟨v,r,rfl,a,b⟩:=e;cases (show r=[] from b);exact⟨v,rfl,a⟩
theorem GP{ns:List Int}(q:ao A h ds vs)(e:aT ds=some ns):vs=ds:=by
 have:bJ ds=true:=by
  clear q
  induction ds generalizing ns with
  | nil=>rfl
  | cons d ds ih =>
   simp only[aT,cg] at e;obtain⟨i,e1,e⟩:=bind_eq_some_iff.mp e;obtain⟨is,e2,e⟩:=bind_eq_some_iff.mp e;cases d<;>first|(cases e1;done)|skip
   rw[bJ,jv,Bool.true_and];exact ih e2
 exact(aP ds vs this).mp q
theorem Df(q:ao A h ds vs)(e:fH ds=some ns):vs=ds:=by
 have:bJ ds=true:=by
  clear q
  induction ds generalizing ns with
  | nil=>rfl
  | cons d ds ih =>
   simp only[fH,cg] at e;obtain⟨i,e1,e⟩:=bind_eq_some_iff.mp e;obtain⟨is,e2,e⟩:=bind_eq_some_iff.mp e;cases d<;>first|(cases e1;done)|skip
   rw[bJ,jv,Bool.true_and];exact ih e2
 exact(aP ds vs this).mp q
theorem qo:∀{ds:List Val} {ns:List Int},aT ds=some ns->bJ ds=true
 | [],_,_=>rfl
 | d::ds,ns,e=>by
  simp only[aT,cg] at e;obtain⟨i,e1,e⟩:=bind_eq_some_iff.mp e;obtain⟨is,e2,e⟩:=bind_eq_some_iff.mp e;cases d<;>first|(cases e1;done)|skip
  rw[bJ,jv,Bool.true_and];exact qo (show aT ds=some is from e2)
theorem v8:∀{ds:List Val} {ns:List (List Int)},kX ds=some ns->bJ ds=true
 | [],_,_=>rfl
 | d::ds,ns,e=>by
  simp only[kX,cg] at e;obtain⟨i,e1,e⟩:=bind_eq_some_iff.mp e;obtain⟨is,e2,e⟩:=bind_eq_some_iff.mp e;cases d<;>first|(cases e1;done)|skip
  rename_i vs;dsimp only at e1;split at e1
  ·cases e1
  ·rw[bJ,jv,qo e1,Bool.true_and];exact v8 (show kX ds=some is from e2)
theorem aY:∀ns:List Int,bJ (ns.map .int)=true
 | []=>rfl
 | n::ns=>by rw[map_cons,bJ,jv,Bool.true_and];exact aY ns
theorem mj:∀oR:List (List Int),bJ (oR.map lR)=true
 | []=>rfl
 | n::ns=>by rw[map_cons,bJ,lR,jv,aY,Bool.true_and];exact mj ns
theorem sP(e:fD xs=some ys):bJ xs=true/\bJ ys=true:=by
 unfold fD at e;split at e
 ·cases e2:aT xs with
  | some ns=>rw[e2] at e;cases e;exact⟨qo e2,aY _⟩
  | none =>rw[e2] at e;obtain⟨oR,e3,e4⟩:=bind_eq_some_iff.mp e;cases e4;exact⟨v8 e3,mj _⟩
 ·cases e
theorem GQ{h0:Hs}(u:Up A h)(p:h0<+:h)(a:GL A h ds vs):Rel A h (RV A h0) (blt b vs h) (gp b ds):=by
 have mm:∀(f:List Int->Option Val) (d:Val),(∀ns m,f ns=some m->∃i,m=.int i)->∀v,DB A h d v->Rel A h (RV A h0) (bnd (ask λh=>dg h v) (λxs=>bh ((aT xs).bind f)) h) (pb (pl (dg [] d)) λxs=>pb (pl ((aT xs).bind f)) λm=>.ok (true,m)):=by
  intro f d hf v hv;refine ah (R:=λxs h' ws=>ao A h' xs ws) (bN λxs e=>hv.seq e) λxs h1 ws q1 q=>?_;have:bh ((aT ws).bind f) h1=bnd (bh ((aT ws).bind f)) (λm=>ret m) h1:=by unfold bnd bh;cases (aT ws).bind f<;>rfl
  rw[this];refine ah (R:=λm _ m'=>m'=m/\∃i,m=.int i) (bf λm e=>?_) λm h2 m' _ hm=>?_
  ·obtain⟨ns,e1,e2⟩:=bind_eq_some_iff.mp e;rw[GP q e1];exact⟨m,e,rfl,hf ns m e2⟩
  ·obtain⟨rfl,i,rfl⟩:=hm;exact aB iI
 have hmin:∀ns m,t6 ns=some m->∃i,m=Val.int i:=λns m e=>by cases ns<;>simp[t6] at e;exact⟨_,e.symm⟩
 have SM:∀ns m,t7 ns=some m->∃i,m=Val.int i:=λns m e=>by cases ns<;>simp[t7] at e;exact⟨_,e.symm⟩
 match ds,a with
 | [],a=>cases b<;>trivial
 | [d],a =>
  obtain⟨v,rfl,hv⟩:=a.one;cases b with
  | len =>exact ah (R:=λn _ m=>m=n) (bN λn e=>⟨n,Ll hv e,rfl⟩) λn h1 m _ e=>by subst e;exact aB iI
  | min =>
   have e1:gp .min [d]=pb (pl (dg [] d)) λxs=>pb (pl ((aT xs).bind t6)) λm=>.ok (true,m):=by cases d<;>rfl
   have e2:blt .min [v]=bnd (ask λh=>dg h v) λxs=>bh ((aT xs).bind t6):=by cases v<;>rfl
   rw[e1,e2];exact mm t6 d hmin v hv
  | max =>
   have e1:gp .max [d]=pb (pl (dg [] d)) λxs=>pb (pl ((aT xs).bind t7)) λm=>.ok (true,m):=by cases d<;>rfl
   have e2:blt .max [v]=bnd (ask λh=>dg h v) λxs=>bh ((aT xs).bind t7):=by cases v<;>rfl
   rw[e1,e2];exact mm t7 d SM v hv
  | sorted =>
   cases d<;>first|trivial|skip
   rename_i xs;obtain⟨ws,e1,q⟩:=hv.lst;have ev:bnd (ask λh=>aC h v) (λxs=>bnd (bh (fD xs)) λys=>new (.lst ys)) h=bnd (bh (fD ws)) (λys=>new (.lst ys)) h:=by unfold bnd ask bh;dsimp only;rw[e1]
   show Rel A h (RV A h0) (bnd (ask λh=>aC h v) (λxs=>bnd (bh (fD xs)) λys=>new (.lst ys)) h) _;rw[ev];refine ah (R:=λys _ zs=>zs=ys/\bJ ys=true) (bf λys e=>?_) λys h1 zs q1 hz=>?_
   ·obtain⟨i1,i2⟩:=sP e;rw[(aP xs ws i1).mp q];exact⟨ys,e,rfl,i2⟩
   ·obtain⟨rfl,hi⟩:=hz;exact eY (u.ext q1) (p.trans q1) ((aP _ _ hi).mpr rfl) λ_=>(aP _ _ hi).mpr rfl
  | list =>refine ah (R:=λxs h' ws=>ao A h' xs ws) (bN λxs e=>hv.seq e) λxs h1 ws q1 q=>?_;exact eY (u.ext q1) (p.trans q1) q λhi=>gb q hi
  | tuple=>trivial
  | str=>trivial
  | int =>
   cases d<;>first|trivial|skip
   ·have:=hv.bl;subst this;exact aB iI
   ·have:=hv.int;subst this;exact aB iI
  | all =>
   cases d<;>first|trivial|skip
   rename_i xs;obtain⟨ws,e1,q⟩:=hv.lst;have ev:bnd (ask λh=>aC h v) (λxs=>bnd (bh (fH xs)) λbs=>ret (Val.bl (bs.all id))) h=bnd (bh (fH ws)) (λbs=>ret (Val.bl (bs.all id))) h:=by unfold bnd ask bh;dsimp only;rw[e1]
   show Rel A h (RV A h0) (bnd (ask λh=>aC h v) (λxs=>bnd (bh (fH xs)) λbs=>ret (Val.bl (bs.all id))) h) _;rw[ev];exact ah (R:=λys _ zs=>zs=ys) (bf λys e=>⟨ys,by rw[Df q e];exact e,rfl⟩) λys h1 zs q1 hz=>by subst hz;exact aB nW
  | any=>trivial
  | isin T =>refine ah (R:=λn _ m=>m=n) (bN λn e=>⟨n,OE hv e,rfl⟩) λn h1 m _ e=>?_;subst e;exact ah (R:=λn _ m=>m=n) (bf λn e=>⟨n,e,rfl⟩) λn h1 m _ e=>by subst e;exact aB nW
 | [d,e],a =>
  obtain⟨v,r,rfl,hv,hr⟩:=a;obtain⟨w,rfl,hw⟩:=GL.one hr;cases b<;>first|trivial|(cases d<;>trivial)|skip
  ·cases d<;>cases e<;>first|trivial|skip
   have:=hv.int;subst this;have:=hw.int;subst this;exact aB iI
  ·cases d<;>cases e<;>first|trivial|skip
   have:=hv.int;subst this;have:=hw.int;subst this;exact aB iI
 | x::y::z::t,a=>cases b<;>first|trivial|(cases x<;>trivial)|(cases x<;>cases y<;>trivial)
end
end Hv
end
section
namespace Hv
open PySem L2
noncomputable def Imp(φ:List Val->M Val)(ψ:List Val->Pr FV):Prop:=∀(A:AP) (h:Hs) (ds vs:List Val),Up A h->ao A h ds vs->Rel A h (RV A h) (φ vs h) (ψ ds)
section
variable {Φ:Nat->List Val->M Val} {Ψ:Nat->List Val->Pr FV} {A:AP} {h h1:Hs}
theorem eZ{x y:Bool}(f:(x&&y)=true):x=true/\y=true:=Bool.and_eq_true_iff.mp f
theorem qq{x y z:Bool}(f:(x&&y&&z)=true):(x=true/\y=true)/\z=true:=⟨eZ (eZ f).1,(eZ f).2⟩
noncomputable def bQ(Φ:Nat->List Val->M Val)(Ψ:Nat->List Val->Pr FV)(ir:IE):Prop:=∀(aa:aV) (env:Env) (A:AP) (h:Hs),Up A h->ER A aa env h->Rel A h (RV A h) (aH Φ ir env h) (aZ Ψ ir aa)
noncomputable def kT(Φ:Nat->List Val->M Val)(Ψ:Nat->List Val->Pr FV)(eG:nU):Prop:=(∀(aa:aV) (env:Env) (A:AP) (h:Hs),Up A h->ER A aa env h->Rel A h (YL A h) (aW Φ eG env h) (uo Ψ eG aa)) /\
 ∀(aa:aV) (env:Env) (A:AP) (h:Hs),Up A h->ER A aa env h->Rel A h (λds h' vs=>GL A h' ds vs) (aW Φ eG env h) (iG Ψ eG aa)
theorem RV.up{h0 h':Hs}(p:h0<+:h)(r:RV A h x h' v):RV A h0 x h' v:=⟨r.1,λf=>(r.2 f).f9 (Fr.le p.length_le)⟩
theorem Dg{h0:Hs}(p:h0<+:h)(r:Rel A h (RV A h) o x):Rel A h (RV A h0) o x:=v7 r λ_ _ _ _ q=>q.up p
theorem OF{i:Nat}(e:ER A aa env h):Rel A h (SK A) (aH Φ (.var i) env h) (pl (gz aa (.var i))):=by
 rw[aH];refine bf λx hx=>?_;simp only[gz] at hx;split at hx
 ·rename_i f d hd
  cases hx;have:=e i f d hd;revert this;generalize sO f=t;intro this;cases t with
  | false =>rw[if_pos rfl] at this;obtain⟨a,k2,k3⟩:=this;exact⟨.ref a,by rw[k2],.inr ⟨a,rfl,k3⟩⟩
  | true =>rw[if_neg (by decide)] at this;obtain⟨v,k1,k2⟩:=this;exact⟨v,by rw[k1],.inl k2⟩
 ·cases hx
theorem jR(o:bQ Φ Ψ ir)(u:Up A h)(e:ER A aa env h):Rel A h (SK A) (aH Φ ir env h) (if isVar ir=true then pl (gz aa ir) else aZ Ψ ir aa):=by
 by_cases hv:isVar ir=true
 ·rw[if_pos hv];cases ir<;>first|(cases hv;done)|exact OF e
 ·rw[if_neg hv];exact v7 (o aa env A h u e) λ_ _ _ _ q=>q.br
theorem GR{α β:Type}{R:α -> Hs -> β -> Prop}{c:Bool}{o:Out β}{p:Pr α}(r:c=true->Rel A h R o p):Rel A h R o (pg c p):=by
 unfold pg;cases c with
 | true=>rw[if_pos rfl];exact r rfl
 | false=>rw[if_neg Bool.false_ne_true];trivial
theorem v_var{i:Nat}:bQ Φ Ψ (.var i):=λaa env A h u e=>by
 rw[aH,aZ];cases hv:aa[i]? with
 | none=>trivial
 | some o =>
  cases o with
  | none=>trivial
  | some fd =>
   obtain⟨f,d⟩:=fd;refine GR λhf=>?_
   ·have:=e i f d hv;rw[if_neg (by simp[hf])] at this;obtain⟨v,k1,k2⟩:=this;rw[k1];exact⟨v,h,rfl,prefix_refl _,lC k2⟩
theorem zE{α:Type}{f:Hs->Option α}:ask f h=bnd (ask f) (λz=>ret z) h:=by unfold bnd ask bh;cases f h<;>rfl
theorem zF(f:jv d=true):Dn A h d d:=(iH d d f).mpr rfl
theorem OG(f:jv d=true):bQ Φ Ψ (.cst d):=λaa env A h u e=>by rw[aH,aZ];exact aB (lC (zF f))
theorem OH(f:jv d=true):bQ Φ Ψ (.con x d):=λaa env A h u e=>by rw[aH,aZ];exact aB (lC (zF f))
theorem SN:bQ Φ Ψ .no:=λaa env A h u e=>by rw[aZ];trivial
theorem OI(ha:bQ Φ Ψ a)(hb:bQ Φ Ψ b):bQ Φ Ψ (.bin o a b):=λaa env A h u e=>by
 rw[aH,aZ];exact ah (jR ha u e) λx h1 v p1 q1=>ah (jR hb (u.ext p1) (e.ext p1)) λy h2 w p2 q2=>zC ((u.ext p1).ext p2) (p1.trans p2) (DB.ext p2 q1) q2
theorem OJ(ha:bQ Φ Ψ a):bQ Φ Ψ (.neg a):=λaa env A h u e=>by
 rw[aH,aZ];refine ah (ha aa env A h u e) λx h1 v p1 q1=>?_;obtain⟨f,d⟩:=x;have q:=q1.1;cases d<;>dsimp only<;>first|trivial|skip
 dsimp only at q;rw[Dn] at q;subst q;exact aB iI
theorem OL(ha:bQ Φ Ψ a)(hb:bQ Φ Ψ b):bQ Φ Ψ (.cmp o a b):=λaa env A h u e=>by
 rw[aH,aZ];exact ah (jR ha u e) λx h1 v p1 q1=>ah (jR hb (u.ext p1) (e.ext p1)) λy h2 w p2 q2 =>
  ah (R:=λt _ t'=>t'=t) (bN λt et=>⟨t,Lk (DB.ext p2 q1) q2 et,rfl⟩) λt h3 t' p3 et=>by subst et;exact aB nW
theorem OM(ha:bQ Φ Ψ a)(hb:bQ Φ Ψ b)(hc:bQ Φ Ψ c):bQ Φ Ψ (.chn o o' a b c):=λaa env A h u e=>by rw[aZ];trivial
theorem j7(q:Dn A h d v):Rel A h (λt _ t'=>t'=t) (pY v h) (ql d):=by
 cases d<;>first|trivial|skip
 rw[Dn] at q;subst q;exact aB rfl
theorem v_and(ha:bQ Φ Ψ a)(hb:bQ Φ Ψ b):bQ Φ Ψ (.and a b):=λaa env A h u e=>by
 rw[aH,aZ];refine ah (ha aa env A h u e) λx h1 v p1 q1=>ah (j7 q1.1) λt h2 t' p2 et=>?_;subst et;cases t' with
 | true =>rw[if_pos rfl,if_pos rfl];exact ah (hb aa env A h2 ((u.ext p1).ext p2) ((e.ext p1).ext p2)) λy h3 w p3 q3=>ah (j7 q3.1) λt h2 t' p2 et=>by subst et;exact aB nW
 | false =>rw[if_neg Bool.false_ne_true,if_neg Bool.false_ne_true];exact aB nW
theorem v_or(ha:bQ Φ Ψ a)(hb:bQ Φ Ψ b):bQ Φ Ψ (.or a b):=λaa env A h u e=>by
 rw[aH,aZ];refine ah (ha aa env A h u e) λx h1 v p1 q1=>ah (j7 q1.1) λt h2 t' p2 et=>?_;subst et;cases t' with
 | false =>rw[if_neg Bool.false_ne_true,if_neg Bool.false_ne_true];exact ah (hb aa env A h2 ((u.ext p1).ext p2) ((e.ext p1).ext p2)) λy h3 w p3 q3=>ah (j7 q3.1) λt h2 t' p2 et=>by subst et;exact aB nW
 | true =>rw[if_pos rfl,if_pos rfl];exact aB nW
theorem v_not(ha:bQ Φ Ψ a):bQ Φ Ψ (.not a):=λaa env A h u e=>by
 rw[aH,aZ];exact ah (ha aa env A h u e) λx h1 v p1 q1=>ah (j7 q1.1) λt h2 t' p2 et=>by subst et;exact aB nW
theorem v_ite(hc:bQ Φ Ψ c)(ha:bQ Φ Ψ a)(hb:bQ Φ Ψ b):bQ Φ Ψ (.ite c a b):=λaa env A h u e=>by rw[aZ];trivial
theorem Iz:kT Φ Ψ .nil:=⟨λaa env A h u e=>by rw[aW,uo];exact aB ⟨ao.nil,λ_=>ao.nil⟩,λaa env A h u e=>by rw[aW,iG];exact aB rfl⟩
theorem Dh(he:bQ Φ Ψ e)(hs:kT Φ Ψ es):kT Φ Ψ (.cons e es):=by
 refine⟨λaa env A h u er=>?_,λaa env A h u er=>?_⟩
 ·rw[aW,uo]
  refine ah (he aa env A h u er) λx h1 v p1 q1=>ah (hs.1 aa env A h1 (u.ext p1) (er.ext p1)) λy h2 vs p2 q2=>?_;refine aB ⟨ao.cons (q1.1.ext p2) q2.1,λhf=>?_⟩;have hf':x.1=true/\y.1=true:=by simpa using hf
  exact ao.cons ((q1.2 hf'.1).ext p2) ((q2.2 hf'.2).f9 (Fr.le p1.length_le))
 ·rw[aW,iG];refine ah (jR he u er) λx h1 v p1 q1=>ah (hs.2 aa env A h1 (u.ext p1) (er.ext p1)) λy h2 vs p2 q2=>?_;exact aB ⟨v,vs,rfl,DB.ext p2 q1,q2⟩
theorem ON(hs:kT Φ Ψ es):bQ Φ Ψ (.tup es):=λaa env A h u e=>by
 rw[aH,aZ];refine ah (hs.1 aa env A h u e) λx h1 vs p1 q1=>bP (λz=>by rw[<-q1.1.length];exact z) λ_=>aB ⟨?_,λhf=>?_⟩
 ·show Dn A h1 (.tup _) _;rw[Dn];exact⟨vs,rfl,q1.1⟩
 ·show Dn _ h1 (.tup _) _;rw[Dn];exact⟨vs,rfl,q1.2 hf⟩
theorem Lv:bQ Φ Ψ .dct0:=λaa env A h u e=>by
 rw[aH,aZ];refine⟨_,_,rfl,dw _,?_,λhf=>?_⟩
 ·show Dn A _ (.dc [] []) _;rw[Dn];exact⟨_,[],rfl,u _ (le_refl _),iX _,rfl,ao.nil⟩
 ·show Dn _ _ (.dc [] []) _;rw[Dn];exact⟨_,[],rfl,le_refl _,iX _,rfl,ao.nil⟩
theorem Lw(hk:bQ Φ Ψ k)(hv:bQ Φ Ψ v):bQ Φ Ψ (.dct1 k v):=λaa env A h u e=>by
 rw[aH,aZ];refine ah (hk aa env A h u e) λx h1 w p1 q1=>ah (R:=λkk _ kk'=>kk'=kk) (bf λkk ek=>⟨kk,yq q1.1 ek,rfl⟩) λkk h2 kk' p2 hkk=>?_;subst hkk;refine ah (hv aa env A h2 ((u.ext p1).ext p2) ((e.ext p1).ext p2)) λy h3 z p3 q3=>?_;have p:=(p1.trans p2).trans p3;refine⟨_,_,rfl,dw _,?_,λhf=>?_⟩
 ·show Dn A _ (.dc [kk'] [y.2]) _;rw[Dn];exact⟨_,[(kk',z)],rfl,u _ p.length_le,iX _,rfl,ao.cons (q3.1.ext (dw _)) ao.nil⟩
 ·show Dn _ _ (.dc [kk'] [y.2]) _;rw[Dn];exact⟨_,[(kk',z)],rfl,p.length_le,iX _,rfl,ao.cons (((q3.2 hf).f9 (Fr.le (p1.trans p2).length_le)).ext (dw _)) ao.nil⟩
theorem Lx(hd:bQ Φ Ψ d)(hk:bQ Φ Ψ k)(hx:bQ Φ Ψ x):bQ Φ Ψ (.dget d k x):=λaa env A h u e=>by
 rw[aH,aZ];refine ah (jR hd u e) λo h1 v p1 q1=>ah (R:=λ_ _ _=>True) (bN λt et=>⟨t,GK q1 et,trivial⟩) λ_ h2 _ p2 _=>?_;refine ah (hk aa env A h2 ((u.ext p1).ext p2) ((e.ext p1).ext p2)) λi h3 w p3 q3=>ah (R:=λkk _ kk'=>kk'=kk) (bf λkk ek=>⟨kk,yq q3.1 ek,rfl⟩) λkk h4 kk' p4 hkk=>?_;subst hkk;have WH:=((p1.trans p2).trans p3).trans p4;refine ah (hx aa env A h4 (u.ext WH) (e.ext WH)) λz h5 z' p5 q5=>?_;refine ah (R:=λr h' r'=>∀a b,Dn A h5 a b->Dn A h' (r.getD a) (r'.getD b)) (bN λr er=>?_) λr h6 r' p6 hr=>aB (lC (hr _ _ q5.1));obtain⟨r',e1,e2⟩:=Lm (DB.ext ((p2.trans p3).trans (p4.trans p5)) q1) er;exact⟨r',e1,e2⟩
theorem GS(hd:bQ Φ Ψ d):bQ Φ Ψ (.lkeys d):=λaa env A h u e=>by
 rw[aH,aZ];refine ah (jR hd u e) λo h1 v p1 q1=>ah (R:=λks _ ks'=>ks'=ks) (bN λks ek=>⟨ks,qm q1 ek,rfl⟩) λks h2 ks' p2 hk=>?_;subst hk;exact eY ((u.ext p1).ext p2) (p1.trans p2) ((aP _ _ (mh ks')).mpr rfl) λ_=>(aP _ _ (mh ks')).mpr rfl
theorem GU(hd:bQ Φ Ψ d):bQ Φ Ψ (.skeys d):=λaa env A h u e=>by
 rw[aH,aZ];refine ah (jR hd u e) λo h1 v p1 q1=>ah (R:=λns _ ns'=>ns'=ns) (bN λns en=>⟨ns,?_,rfl⟩) λns h2 ns' p2 hk=>?_
 ·unfold jY at en |-;obtain⟨ks,e1,e2⟩:=bind_eq_some_iff.mp en;rw[qm q1 e1];exact e2
 ·subst hk;exact eY ((u.ext p1).ext p2) (p1.trans p2) ((aP _ _ (aY ns')).mpr rfl) λ_=>(aP _ _ (aY ns')).mpr rfl
theorem mq:∀{xs:List Val} {ns:List Int},aT xs=some ns->xs=ns.map .int
 | [],ns,e=>by cases e;rfl
 | x::xs,ns,e=>by
  unfold aT at e;rw[cg] at e;obtain⟨i,e1,e⟩:=bind_eq_some_iff.mp e;obtain⟨r,e2,e⟩:=bind_eq_some_iff.mp e;cases e;cases x<;>simp at e1;subst e1;rw[mq e2];rfl
theorem Ly{p q:Nat}(hd:bQ Φ Ψ d)(hw:bQ Φ Ψ w):bQ Φ Ψ (.dflt N' js p q d w):=λaa env A h u e=>by
 rw[aH,aZ];refine ah (jR hd u e) λo h1 v p1 q1=>ah (R:=λks _ ks'=>ks'=ks) (bN λks ek=>⟨ks,qm q1 ek,rfl⟩) λks h2 ks' p2 hk=>?_;subst hk;refine ah (jR hw ((u.ext p1).ext p2) ((e.ext p1).ext p2)) λx h3 z p3 q3=>ah (R:=λns _ ns'=>ns'=ns) (bN λns en=>⟨ns,?_,rfl⟩) λns h4 ns' p4 hk=>?_
 ·unfold pX at en |-
  obtain⟨ks1,e1,WI⟩:=bind_eq_some_iff.mp en;obtain⟨xs,e2,WJ⟩:=bind_eq_some_iff.mp WI;obtain⟨ms,e3,YM⟩:=bind_eq_some_iff.mp WJ;clear en WI WJ;obtain⟨f,d⟩:=x;cases d<;>first|(cases e2;done)|skip
  cases e2;obtain⟨vs,e4,e5⟩:=DB.lst q3;rw[mq e3] at e5;rw[e1,e4,(aP _ _ (aY ms)).mp e5,<-mq e3];show ((aT _).bind _)=_;rw[e3];exact YM
 ·subst hk;exact eY ((((u.ext p1).ext p2).ext p3).ext p4) (((p1.trans p2).trans p3).trans p4) ((aP _ _ (aY ns')).mpr rfl) λ_=>(aP _ _ (aY ns')).mpr rfl
theorem OO(ha:bQ Φ Ψ a):bQ Φ Ψ (.isc a x bs):=λaa env A h u e=>by
 rw[aH,aZ];refine ah (jR ha u e) λo h1 v p1 q1=>ah (R:=λb _ b'=>b'=b) (bN λb eb=>⟨b,Lr q1 eb,rfl⟩) λb h2 b' p2 hb=>?_;subst hb;exact aB (lC (d:=.bl b') (by rw[Dn]))
theorem Lz(ha:bQ Φ Ψ a):bQ Φ Ψ (.sset a):=λaa env A h u e=>by
 rw[aH,aZ];refine ah (jR ha u e) λx h1 v p1 q1=>?_;obtain⟨f,d⟩:=x;cases d<;>first|trivial|skip
 rename_i xs;obtain⟨vs,e1,e2⟩:=DB.lst q1;have ea:∀(F:List Val->M Val),bnd (ask λh=>aC h v) F h1=F vs h1:=λF=>by unfold bnd ask bh;dsimp only;rw[e1]
 rw[ea];show Rel A h1 _ _ (pb (pl (aT xs)) _);refine ah (R:=λns h' ns'=>ns'=ns) (bf λns en=>⟨ns,?_,rfl⟩) λns h2 ns' p2 en=>?_
 ·have ei:=mq en;subst ei;rw[(aP _ _ (aY ns)).mp e2];exact en
 ·subst en;refine bP (λz=>z) λ_=>?_;have hi:∀ms:List Int,ao A h2 (ms.map Val.int) (ms.map Val.int):=λms=>(aP _ _ (aY ms)).mpr rfl;exact eY ((u.ext p1).ext p2) (p1.trans p2) (hi _) λ_=>(aP _ _ (aY _)).mpr rfl
theorem OP(hs:kT Φ Ψ es):bQ Φ Ψ (.lst es):=λaa env A h u e=>by
 rw[aH,aZ];exact ah (hs.1 aa env A h u e) λx h1 vs p1 q1=>bP (λz=>by rw[<-q1.1.length];exact z) λ_=>eY (u.ext p1) p1 q1.1 q1.2
theorem OQ(ha:bQ Φ Ψ a)(hb:bQ Φ Ψ b):bQ Φ Ψ (.idx a b):=λaa env A h u e=>by
 rw[aH,aZ];refine ah (jR ha u e) λx h1 v p1 q1=>ah (hb aa env A h1 (u.ext p1) (e.ext p1)) λy h2 w p2 q2=>?_;rw[zE];exact ah (R:=λz h' z'=>Dn A h' z z') (bN λz ez=>Lo (DB.ext p2 q1) q2.1 ez) λz h3 z' p3 q3=>aB (lC q3)
theorem j8(o:bQ Φ Ψ ir)(u:Up A h)(e:ER A aa env h) :
  Rel A h (λ(t:Option Int) _ t'=>t'=t) ((if cP ir=true then ret none else bnd (aH Φ ir env) λv=>bnd (bh (ic v)) λi=>ret (some i)) h) (if cP ir=true then .ok none else pb (aZ Ψ ir aa) λv=>pb (pl (ic v.2)) λi=>.ok (some i)):=by
 by_cases hn:cP ir=true
 ·rw[if_pos hn,if_pos hn];exact aB rfl
 ·rw[if_neg hn,if_neg hn]
  refine ah (o aa env A h u e) λx h1 v p1 q1=>ah (R:=λt _ t'=>t'=t) (bf λi ei=>?_) λt h2 t' p2 et=>by subst et;exact aB rfl
  obtain⟨f,d⟩:=x;have q:=q1.1;cases d<;>first|(cases ei;done)|skip
  dsimp only at q;rw[Dn] at q;subst q;exact⟨i,ei,rfl⟩
theorem OS(ha:bQ Φ Ψ a)(hl:bQ Φ Ψ lo)(hh:bQ Φ Ψ hi):bQ Φ Ψ (.slc a lo hi):=λaa env A h u e=>by
 rw[aH,aZ];refine ah (jR ha u e) λx h1 v p1 q1=>ah (j8 hl (u.ext p1) (e.ext p1)) λl h2 l' p2 el=>ah (j8 hh ((u.ext p1).ext p2) ((e.ext p1).ext p2)) λr h3 r' p3 er=>?_;subst el;subst er;exact GO (((u.ext p1).ext p2).ext p3) ((p1.trans p2).trans p3) (DB.ext (p2.trans p3) q1)
theorem OT(ha:bQ Φ Ψ a)(hs:bQ Φ Ψ sx):bQ Φ Ψ (.rev a sx):=λaa env A h u e=>by
 rw[aH,aZ];refine ah (jR ha u e) λx h1 v p1 q1=>ah (j8 hs (u.ext p1) (e.ext p1)) λl h2 l' p2 el=>?_;subst el;refine bP (λz=>z) λ_=>?_;obtain⟨f,d⟩:=x;cases d with
 | rl ds =>
  obtain⟨vs,e1,q⟩:=DB.lst (DB.ext p2 q1);have ev:bnd (ask λh=>aC h v) (λxs=>new (.lst xs.reverse)) h2=new (.lst vs.reverse) h2:=by unfold bnd ask bh;dsimp only;rw[e1]
  rw[ev];exact eY ((u.ext p1).ext p2) (p1.trans p2) (ao.rev q) λhh=>gb (ao.rev q) hh
 | _=>trivial
theorem LA{j:Nat}(hΦ:∀j,Imp (Φ j) (Ψ j))(hs:kT Φ Ψ es):bQ Φ Ψ (.call j es):=λaa env A h u e=>by
 rw[aH,aZ];exact ah (hs.1 aa env A h u e) λx h1 vs p1 q1=>Dg p1 (hΦ j A h1 x.2 vs (u.ext p1) q1.1)
theorem OU{n:Nat}(ha:bQ Φ Ψ a):bQ Φ Ψ (.fld n a x):=λaa env A h u e=>by
 rw[aH,aZ];refine ah (jR ha u e) λo h1 v p1 q1=>?_;rw[zE];exact ah (R:=λz h' z'=>Dn A h' z z') (bN λz ez=>Lp q1 ez) λz h3 z' p3 q3=>aB (lC q3)
theorem OV(hΦ:∀j,Imp (Φ j) (Ψ j))(ha:bQ Φ Ψ a)(hs:kT Φ Ψ es):bQ Φ Ψ (.mth a m js es):=λaa env A h u e=>by
 rw[aH,aZ];refine ah (ha aa env A h u e) λo h1 v p1 q1=>ah (R:=λj _ j'=>j'=j) (bN λj ej=>⟨j,Lq (.inl q1.1) ej,rfl⟩) λj h2 j' p2 hj=>?_;subst hj;exact ah (hs.1 aa env A h2 ((u.ext p1).ext p2) ((e.ext p1).ext p2)) λx h3 vs p3 q3=>Dg ((p1.trans p2).trans p3) (hΦ j' A h3 (o.2::x.2) (v::vs) (((u.ext p1).ext p2).ext p3) (ao.cons (q1.1.ext (p2.trans p3)) q3.1))
theorem OW(hs:kT Φ Ψ es):bQ Φ Ψ (.blt b es):=λaa env A h u e=>by
 rw[aH,aZ];exact ah (hs.2 aa env A h u e) λx h1 vs p1 q1=>GQ (u.ext p1) p1 q1
theorem OX(ha:bQ Φ Ψ a)(hs:kT Φ Ψ es):bQ Φ Ψ (.met m a es):=λaa env A h u e=>by
 cases m with
 | join=>rw[aZ];trivial
 | append=>rw[aZ]<;>first|trivial|(intro z;cases z)
 | extend=>rw[aZ]<;>first|trivial|(intro z;cases z)
noncomputable def SrcR(A:AP)(h:Hs)(xs:List Val)(src:Src):Prop:=∃ws,ao A h xs ws/\∀h',h<+:h'->src.items h'=some ws
theorem iY{lo:Int}{n:Nat}:ao A h (cy lo n) (cy lo n):=by
 unfold cy;generalize List.range n=l
 induction l with
 | nil=>exact ao.nil
 | cons a l ih=>exact ao.cons (by rw[Dn]) ih
theorem gc:∀{xs ws:List Val} (i:Nat),ao A h xs ws->ao A h (cN i xs) (cN i ws)
 | [],ws,i,q=>by rw[ao] at q;subst q;exact ao.nil
 | x::xs,ws,i,q=>by
  rw[ao] at q;obtain⟨w,r,rfl,a,b⟩:=q;exact ao.cons (by rw[Dn];exact⟨_,rfl,ao.cons (by rw[Dn]) (ao.cons a ao.nil)⟩) (gc (i+1) b)
theorem zG{ds vs:List Val}(a:DB A h (.rl ds) v):∃ws,ao A h ds ws/\((v=.rl ws)\/∃i,v=.ref i/\∀h',h<+:h'->aC h' (.ref i)=some ws):=by
 rcases a with a|⟨i,rfl,vs,g,q⟩
 ·rw[Dn] at a
  rcases a with ⟨vs,rfl,_,q⟩|⟨i,vs,rfl,_,g,q⟩
  ·exact⟨vs,q,.inl rfl⟩
  ·exact⟨vs,q,.inr ⟨i,rfl,λh' p=>by simp[aC,bU p g]⟩⟩
 ·exact⟨vs,q,.inr ⟨i,rfl,λh' p=>by simp[aC,bU p g]⟩⟩
theorem zH(a:GL A h ds vs):Rel A h (λxs h' src=>SrcR A h' xs src) (bh (srcOf k vs) h) (pl (CW k ds)):=by
 refine bf λxs e=>?_;cases k with
 | seq =>
  match ds,e with
  | [.tup es],e =>cases e;obtain⟨v,rfl,hv⟩:=a.one;obtain⟨ws,rfl,q⟩:=hv.tup;exact⟨.fix ws,rfl,ws,q,λ_ _=>rfl⟩
  | [.rl es],e =>
   cases e;obtain⟨v,rfl,hv⟩:=a.one;obtain⟨ws,q,rfl|⟨i,rfl,g⟩⟩:=zG (vs:=[]) hv
   ·exact⟨.fix ws,rfl,ws,q,λ_ _=>rfl⟩
   ·exact⟨.live i,rfl,ws,q,λh' p=>g h' p⟩
 | range =>
  match ds,e with
  | [.int n],e =>
   obtain⟨v,rfl,hv⟩:=a.one;have:=hv.int;subst this;change (if inR n=true then some (cy 0 n.toNat) else none)=some _ at e;split at e
   ·rename_i hn;cases e;exact⟨.fix _,if_pos hn,_,iY,λ_ _=>rfl⟩
   ·cases e
  | [.int n,.int m],e =>
   obtain⟨v,r,rfl,hv,hr⟩:=a;obtain⟨w,rfl,hw⟩:=GL.one hr;have:=hv.int;subst this;have:=hw.int;subst this;change (if (inR n&&inR m)=true then some (cy n (m-n).toNat) else none)=some _ at e;split at e
   ·rename_i hn;cases e;exact⟨.fix _,if_pos hn,_,iY,λ_ _=>rfl⟩
   ·cases e
 | enum =>
  match ds,e with
  | [.rl es],e =>
   cases e;obtain⟨v,rfl,hv⟩:=a.one;obtain⟨ws,q,rfl|⟨i,rfl,g⟩⟩:=zG (vs:=[]) hv
   ·exact⟨.fix _,rfl,_,gc 0 q,λ_ _=>rfl⟩
   ·exact⟨.enum i,rfl,_,gc 0 q,λh' p=>by simp[Src.items,g h' p]⟩
 | zip=>cases e
theorem zJ:∀{is:List Nat} {ds vs:List Val} {aa ay:aV} {env:Env},bH is ds aa=some ay->ao A h ds vs->ER A aa env h->(∀i∈is,i<aa.length->i<env.length)->∃env',bindAll is vs env=some env'/\ER A ay env' h
 | [],[],vs,aa,ay,env,e,q,er,_=>by
  rw[ao] at q;subst q;simp only[bH] at e;cases e;exact⟨env,rfl,er⟩
 | i::is,d::ds,vs,aa,ay,env,e,q,er,hl=>by
  rw[ao] at q;obtain⟨v,r,rfl,q1,q2⟩:=q;simp only[bH] at e;have YN:ER A (aa.set i (some (.sh,d))) (env.set i (some v)) h:=λj f d' hj=>by
   by_cases hij:i=j
   ·subst hij
    have hi:i<aa.length:=by have:=(List.getElem?_eq_some_iff.mp hj).1;simpa using this
    rw[getElem?_set_self hi] at hj;cases hj;rw[if_neg (by decide)];exact⟨v,by rw[getElem?_set_self (hl i mem_cons_self hi)],q1⟩
   ·rw[getElem?_set_ne hij] at hj;rw[getElem?_set_ne hij];exact er j f d' hj
  simp only[bindAll];exact zJ e q2 YN λj hj hl'=>by simpa using hl j (mem_cons_of_mem _ hj) (by simpa using hl')
 | [],_::_,_,_,_,_,e,_,_,_=>by simp[bH] at e
 | _::_,[],_,_,_,_,e,_,_,_=>by simp[bH] at e
theorem v9(e:cO p d aa=some ay)(q:Dn A h d v)(er:ER A aa env h)(hl:aa.length<=env.length):∃env',fW p v env=some env'/\ER A ay env' h:=by
 cases p with
 | one i =>
  simp only[cO] at e;cases e;refine⟨_,rfl,λj f d' hj=>?_⟩
  by_cases hij:i=j
  ·subst hij
   have hi:i<aa.length:=by have:=(List.getElem?_eq_some_iff.mp hj).1;simpa using this
   rw[getElem?_set_self hi] at hj;cases hj;rw[if_neg (by decide)];exact⟨v,by rw[getElem?_set_self (by omega)],q⟩
  ·rw[getElem?_set_ne hij] at hj;rw[getElem?_set_ne hij];exact er j f d' hj
 | tup is =>
  cases d<;>simp only[cO] at e<;>first|(cases e;done)|skip
  rw[Dn] at q;obtain⟨vs,rfl,q⟩:=q;exact zJ e q er λi _ hi=>by omega
theorem zK(e:ER A aa env h):ER A (jJ js aa) (jZ js env) h:=λi f d q=>by
 unfold jJ at q;rw[getElem?_map] at q;cases hj:js[i]? with
 | none=>rw[hj] at q;cases q
 | some o =>
  rw[hj] at q;simp only[map_some] at q;cases o with
  | none=>cases q
  | some j =>
   dsimp only at q;cases ej:aa[j]? with
   | none=>rw[ej] at q;cases q
   | some w =>
    cases w with
    | none=>rw[ej] at q;cases q
    | some fd =>
     rw[ej] at q;cases q;have:=e j f d ej;revert this;generalize sO f=t;intro this;cases t with
     | false =>rw[if_pos rfl] at this |-;obtain⟨a,k2,k3⟩:=this;refine⟨a,?_,k3⟩;unfold jZ;rw[getElem?_map,hj];simp only[map_some];rw[k2]
     | true =>rw[if_neg (by decide)] at this |-;obtain⟨v,k1,k2⟩:=this;refine⟨v,?_,k2⟩;unfold jZ;rw[getElem?_map,hj];simp only[map_some];rw[k1]
theorem qt :
  ∀(xs:List Val) (vs:List Val) (i:Nat) (acc:List Val) (h:Hs),hb<+:h->Up A h->(∀h',h<+:h'->src.items h'=some ws)->ws.drop i=vs->ao A h xs vs ->
   (∀x v h',h<+:h'->Dn A h' x v->Rel A h' (λo h'' o'=>match o,o' with|some e,some e'=>RV A hb e h'' e'|none,none=>True|_,_=>False) (f v h') (g x)) ->
   Rel A h (λp h' ys=>∃zs,ys=acc++zs/\ao A h' p.2 zs/\(p.1=true->ao (Fr hb.length) h' p.2 zs)) (fX src f vs.length i acc h) (jK g xs)
 | [],vs,i,acc,h,WK,u,hi,hd,q,hf=>by
  rw[ao] at q;subst q;have hl:ws.length<=i:=List.drop_eq_nil_iff.mp hd;have ev:fX src f ([]:List Val).length i acc h=.ok acc h:=by show fX src f 0 i acc h=_;simp only[fX];unfold bnd ask bh aE;dsimp only;rw[hi h (prefix_refl _)];dsimp only;rw[if_pos (decide_eq_true hl)];rfl
  rw[ev,jK];exact⟨acc,h,rfl,prefix_refl _,[],by simp,ao.nil,λ_=>ao.nil⟩
 | x::xs,vs,i,acc,h,WK,u,hi,hd,q,hf=>by
  rw[ao] at q;obtain⟨v,r,rfl,q1,q2⟩:=q;have hv:ws[i]?=some v:=by have:=congrArg (λl=>l[0]?) hd;simpa using this
  have hr:ws.drop (i+1)=r:=by
   have:ws.drop (i+1)=(ws.drop i).drop 1:=by rw[drop_drop]
   rw[this,hd];rfl
  have ev:fX src f (v::r).length i acc h=bnd (f v) (λo=>fX src f r.length (i+1) (match o with|some e=>acc++[e]|none=>acc)) h:=by show fX src f (r.length+1) i acc h=_;simp only[fX];unfold bnd ask bh;dsimp only;rw[hi h (prefix_refl _)];dsimp only;rw[hv];try rfl
  rw[ev,jK];refine ah (hf x v h (prefix_refl _) q1) λo h1 o' p1 ho=>?_;have ih:=λacc'=>qt xs r (i+1) acc' h1 (WK.trans p1) (u.ext p1) (λh' p=>hi h' (p1.trans p)) hr (q2.ext p1) λx v h' p=>hf x v h' (p1.trans p);cases o' with
  | some e' =>
   cases o with
   | none=>exact ho.elim
   | some e =>
    have ih:=ih (acc++[e']);cases e2:jK g xs with
    | ok p =>
     rw[e2] at ih;obtain⟨ys,h2,e3,p2,zs,rfl,z1,z2⟩:=ih;refine⟨_,h2,e3,p2,e'::zs,by simp,ao.cons (ho.1.ext p2) z1,λhp=>?_⟩;have WL:e.1=true/\p.1=true:=by simpa using hp
     exact ao.cons ((ho.2 WL.1).ext p2) (z2 WL.2)
    | exc c es=>rw[e2] at ih;exact ih
    | no=>trivial
  | none =>
   cases o with
   | some e'=>exact ho.elim
   | none =>
    have ih:=ih acc;cases e2:jK g xs with
    | ok p =>rw[e2] at ih;obtain⟨ys,h2,e3,p2,zs,rfl,z1,z2⟩:=ih;exact⟨_,h2,e3,p2,zs,rfl,z1,z2⟩
    | exc c es=>rw[e2] at ih;exact ih
    | no=>trivial
theorem LB(hs:kT Φ Ψ it)(hc:bQ Φ Ψ c)(he:bQ Φ Ψ elt):bQ Φ Ψ (.comp N js pat k it c elt):=λaa env A h u e=>by
 rw[aH,aZ];refine ah (hs.2 aa env A h u e) λds h1 vs p1 q1=>ah (zH q1) λxs h2 src p2 q2=>?_;obtain⟨ws,q3,q4⟩:=q2;have l:=q3.length;have ev:∀(F:List Val->M Val),bnd (ask λh=>src.items h) F h2=F ws h2:=λF=>by unfold bnd ask bh;dsimp only;rw[q4 h2 (prefix_refl _)]
 rw[ev];refine bP (λz=>by rw[<-l];exact z) λ_=>?_;have u2:=(u.ext p1).ext p2;have e2:=(e.ext p1).ext p2;refine ah (qt (hb:=h) xs ws 0 [] h2 (p1.trans p2) u2 q4 rfl q3 λx v h' p' qx=>?_) λp h3 ys p3 hp=>?_
 ·refine ah (R:=λay _ env'=>∃_:ER A ay env' h',True) (bf λay ev'=>?_) λay h4 env' p4 he'=>?_
  ·obtain⟨env',a1,a2⟩:=v9 ev' qx (zK (e2.ext p')) (by simp[jJ,jZ]);exact⟨env',a1,a2,trivial⟩
  ·obtain⟨er,_⟩:=he'
   have er:=er.ext p4;have u4:=(u2.ext p').ext p4;have Oo:Rel A h4 (λt _ t'=>t'=t) ((if cP c=true then ret true else bnd (aH Φ c env') λv=>ask λh=>dj h v) h4) (if cP c=true then .ok true else pb (aZ Ψ c ay) λv=>pl (dj [] v.2)):=by
    by_cases hn:cP c=true
    ·rw[if_pos hn,if_pos hn];exact aB rfl
    ·rw[if_neg hn,if_neg hn];exact ah (hc ay env' A h4 u4 er) λy h5 w p5 q5=>bN λt et=>⟨t,ur q5.br et,rfl⟩
   refine ah Oo λt h5 t' p5 et=>?_;subst et;cases t' with
   | true =>rw[if_pos rfl,if_pos rfl];exact ah (he ay env' A h5 (u4.ext p5) (er.ext p5)) λy h6 w p6 q6=>aB (q6.up ((p1.trans p2).trans (p'.trans (p4.trans p5))))
   | false =>rw[if_neg Bool.false_ne_true,if_neg Bool.false_ne_true];exact aB trivial
 ·obtain⟨zs,rfl,z1,z2⟩:=hp;exact eY (u2.ext p3) ((p1.trans p2).trans p3) z1 z2
mutual
noncomputable def dN:IE->Bool
 | .cst d=>jv d
 | .con _ d=>jv d
 | .bin _ a b=>dN a&&dN b
 | .neg a=>dN a
 | .cmp _ a b=>dN a&&dN b
 | .chn _ _ a b c=>dN a&&dN b&&dN c
 | .and a b=>dN a&&dN b
 | .or a b=>dN a&&dN b
 | .not a=>dN a
 | .ite a b c=>dN a&&dN b&&dN c
 | .tup es=>mw es
 | .lst es=>mw es
 | .idx a b=>dN a&&dN b
 | .slc a b c=>dN a&&dN b&&dN c
 | .call _ es=>mw es
 | .blt _ es=>mw es
 | .met _ a es=>dN a&&mw es
 | .comp _ _ _ _ es a b=>mw es&&dN a&&dN b
 | .var _=>true
 | .no=>true
 | .dct0=>true
 | .sset a=>dN a
 | .dget a b c=>dN a&&dN b&&dN c
 | .dct1 a b=>dN a&&dN b
 | .lkeys a=>dN a
 | .sdef ..=>false
 | .svals _=>false
 | .skeys a=>dN a
 | .fld _ a _=>dN a
 | .mth a _ _ es=>dN a&&mw es
 | .rev a b=>dN a&&dN b
 | .dflt _ _ _ _ a b=>dN a&&dN b
 | .isc a _ _=>dN a
noncomputable def mw:nU->Bool
 | .nil=>true
 | .cons e es=>dN e&&mw es
end
theorem v_all(hΦ:∀j,Imp (Φ j) (Ψ j)):(∀ir,dN ir=true->bQ Φ Ψ ir)/\∀eG,mw eG=true->kT Φ Ψ eG:=by
 have one:∀ir,dN ir=true->bQ Φ Ψ ir:=by
  intro ir;refine IE.rec (motive_1:=λir=>dN ir=true->bQ Φ Ψ ir) (motive_2:=λeG=>mw eG=true->kT Φ Ψ eG) ?_ ?_ ?_ ?_ ?_ ?_ ?_ ?_ ?_ ?_ ?_ ?_ ?_ ?_ ?_ ?_ ?_ ?_ ?_ ?_ ?_ ?_ ?_ ?_ ?_ ?_ ?_ ?_ ?_ ?_ ?_ ?_ ?_ ?_ ?_ ir
  ·exact λ_ _=>v_var
  ·exact λ_ f=>OG f
  ·exact λ_ _ f=>OH f
  ·exact λ_=>SN
  ·intro _ _ _ a b f;have f:=eZ f;exact OI (a f.1) (b f.2)
  ·intro _ a f;exact OJ (a f)
  ·intro _ _ _ a b f;have f:=eZ f;exact OL (a f.1) (b f.2)
  ·intro _ _ _ _ _ a b c f;have f:=qq f;exact OM (a f.1.1) (b f.1.2) (c f.2)
  ·intro _ _ a b f;have f:=eZ f;exact v_and (a f.1) (b f.2)
  ·intro _ _ a b f;have f:=eZ f;exact v_or (a f.1) (b f.2)
  ·intro _ a f;exact v_not (a f)
  ·intro _ _ _ a b c f;have f:=qq f;exact v_ite (a f.1.1) (b f.1.2) (c f.2)
  ·intro _ a f;exact ON (a f)
  ·intro _ a f;exact OP (a f)
  ·intro _ _ a b f;have f:=eZ f;exact OQ (a f.1) (b f.2)
  ·intro _ _ _ a b c f;have f:=qq f;exact OS (a f.1.1) (b f.1.2) (c f.2)
  ·intro _ _ a f;exact LA hΦ (a f)
  ·intro _ _ a f;exact OW (a f)
  ·intro _ _ _ a b f;have f:=eZ f;exact OX (a f.1) (b f.2)
  ·intro _ _ _ _ _ _ _ a b c f;have f:=qq f;exact LB (a f.1.1) (b f.1.2) (c f.2)
  ·exact λ_=>Lv
  ·intro _ a f;exact Lz (a f)
  ·intro _ _ _ a b c f;have f:=qq f;exact Lx (a f.1.1) (b f.1.2) (c f.2)
  ·intro _ _ a b f;have f:=eZ f;exact Lw (a f.1) (b f.2)
  ·intro _ a f;exact GS (a f)
  ·intro _ _ _ _ _ _ f;exact nomatch (show false=true from f)
  ·intro _ _ f;exact nomatch (show false=true from f)
  ·intro _ a f;exact GU (a f)
  ·intro _ _ _ a f;exact OU (a f)
  ·intro _ _ _ _ a b f;have f:=eZ f;exact OV hΦ (a f.1) (b f.2)
  ·intro _ _ a b f;have f:=eZ f;exact OT (a f.1) (b f.2)
  ·intro _ _ _ _ _ _ a b f;have f:=eZ f;exact Ly (a f.1) (b f.2)
  ·intro _ _ _ a f;exact OO (a f)
  ·exact λ_=>Iz
  ·intro _ _ a b f;have f:=eZ f;exact Dh (a f.1) (b f.2)
 refine⟨one,λeG=>?_⟩
 induction eG using nU.rec (motive_1:=λ_=>True) with
 | nil=>exact λ_=>Iz
 | cons e es _ ih=>exact λf=>by have f:=eZ f;exact Dh (one e f.1) (ih f.2)
 | _=>trivial
end
end Hv
end
section
namespace Hv
open PySem L2
section
variable {A A':AP} {h h':Hs}
mutual
theorem Dn.move(hn:A none->A' none)(hh:∀(i:Nat) (o:Ob),A (some i)->h[i]?=some o->A' (some i)/\h'[i]?=some o):∀(d v:Val),Dn A h d v->Dn A' h' d v
 | .non,v,e=>by rw[Dn] at e |-;exact e
 | .bl _,v,e=>by rw[Dn] at e |-;exact e
 | .int _,v,e=>by rw[Dn] at e |-;exact e
 | .str _,v,e=>by rw[Dn] at e |-;exact e
 | .tup ds,v,e=>by
  rw[Dn] at e |-;obtain⟨vs,rfl,q⟩:=e;exact⟨vs,rfl,ao.move hn hh ds vs q⟩
 | .rl ds,v,e=>by
  rw[Dn] at e |-
  rcases e with ⟨vs,rfl,n,q⟩|⟨i,vs,rfl,a,g,q⟩
  ·exact .inl ⟨vs,rfl,hn n,ao.move hn hh ds vs q⟩
  ·exact .inr ⟨i,vs,rfl,(hh i _ a g).1,(hh i _ a g).2,ao.move hn hh ds vs q⟩
 | .dc ks ds,v,e=>by
  rw[Dn] at e |-;obtain⟨i,kvs,rfl,a,g,k,q⟩:=e;exact⟨i,kvs,rfl,(hh i _ a g).1,(hh i _ a g).2,k,ao.move hn hh ds _ q⟩
 | .ob c xs ds,v,e=>by
  rw[Dn] at e |-;obtain⟨i,kvs,rfl,a,g,k,q⟩:=e;exact⟨i,kvs,rfl,(hh i _ a g).1,(hh i _ a g).2,k,ao.move hn hh ds _ q⟩
 | .ref _,v,e=>by rw[Dn] at e;exact e.elim
theorem ao.move(hn:A none->A' none)(hh:∀(i:Nat) (o:Ob),A (some i)->h[i]?=some o->A' (some i)/\h'[i]?=some o):∀(ds vs:List Val),ao A h ds vs->ao A' h' ds vs
 | [],vs,e=>by rw[ao] at e |-;exact e
 | d::ds,vs,e=>by
  rw[ao] at e |-;obtain⟨v,r,rfl,q1,q2⟩:=e;exact⟨v,r,rfl,Dn.move hn hh d v q1,ao.move hn hh ds r q2⟩
end
end
noncomputable def Al(A0:AP)(O:Nat->Option Nat):AP:=λo=>A0 o/\∀i,o.isSome=true->O i≠o
structure SR (A0:AP) (h0:Hs) (aa:aV) (env:Env) (h:Hs) (O:Nat->Option Nat):Prop where
 len:aa.length=env.length
 sh:∀(i:Nat) (m:Mk) (d:Val),aa[i]?=some (some (m,d))->sO m=true->∃v,env[i]?=some (some v)/\Dn (Al A0 O) h d v/\(MV m=true->Dn (Al (Fr h0.length) O) h d v)
 ow:∀(i:Nat) (d:Val),aa[i]?=some (some (.ow,d))->∃a,env[i]?=some (some (.ref a))/\O i=some a/\OD (Al A0 O) h d a
 own:∀i a,O i=some a->h0.length<=a/\a<h.length/\∃d,aa[i]?=some (some (.ow,d))
 inj:∀i j a,O i=some a->O j=some a->i=j
 pre:h0<+:h
 up:Up A0 h0
structure Fm (m:List Nat) (aa:aV) (env:Env) (h:Hs) (O:Nat->Option Nat) (ay:aV) (env':Env) (h':Hs) (O':Nat->Option Nat):Prop where
 le:h.length<=h'.length
 keep:∀k,k<h.length->(∀i,O i≠some k)->h'[k]?=h[k]?/\∀i,O' i≠some k
 stay:∀i,i∉m->O' i=O i/\ay[i]?=aa[i]?/\env'[i]?=env[i]?/\∀a,O i=some a->h'[a]?=h[a]?
noncomputable def RF(A0:AP)(h0:Hs)(m:List Nat)(aa:aV)(env:Env)(h:Hs)(O:Nat->Option Nat):yo->Hs->Fl->Prop
 | .nx ay,h',.nx env'=>∃O',SR A0 h0 ay env' h' O'/\Fm m aa env h O ay env' h' O'
 | .bk ay,h',.bk env'=>∃O',SR A0 h0 ay env' h' O'/\Fm m aa env h O ay env' h' O'
 | .ct ay,h',.ct env'=>∃O',SR A0 h0 ay env' h' O'/\Fm m aa env h O ay env' h' O'
 | .rt p,h',.rt v=>Dn A0 h' p.2 v/\(p.1=true->Dn (Fr h0.length) h' p.2 v)/\h0<+:h'
 | _,_,_=>False
noncomputable def iJ(A0:AP)(h0:Hs){α β:Type}(R:α -> Hs -> β -> Prop)(o:Out β):Pr α -> Prop
 | .ok f=>∃g h',o=.ok g h'/\R f h' g
 | .exc c es=>∃ws h',o=.exc c ws h'/\h0<+:h'/\ao A0 h' es ws
 | .no=>True
section
variable {A0:AP} {h0:Hs} {aa:aV} {env:Env} {h h1:Hs} {O:Nat->Option Nat} {m:List Nat}
theorem SR.er(s:SR A0 h0 aa env h O):ER (Al A0 O) aa env h:=λi f d e=>by
 cases f with
 | ow =>rw[if_pos (show sO .ow=false by decide)];obtain⟨a,k2,_,k3⟩:=s.ow i d e;exact⟨a,k2,k3⟩
 | sh=>rw[if_neg (by decide)];obtain⟨v,k1,k2,_⟩:=s.sh i _ d e rfl;exact⟨v,k1,k2⟩
 | nw=>rw[if_neg (by decide)];obtain⟨v,k1,k2,_⟩:=s.sh i _ d e rfl;exact⟨v,k1,k2⟩
theorem SR.yr(s:SR A0 h0 aa env h O):Up (Al A0 O) h:=λk hk=>⟨s.up k (le_trans s.pre.length_le hk),λi _ e=>by have:=(s.own i k e).2.1;omega⟩
theorem SR.ext(s:SR A0 h0 aa env h O)(p:h<+:h1):SR A0 h0 aa env h1 O where
 len:=s.len
 sh i m d e hm:=by obtain⟨v,k1,k2,k3⟩:=s.sh i m d e hm;exact⟨v,k1,k2.ext p,λz=>(k3 z).ext p⟩
 ow i d e:=by obtain⟨a,k2,k3,k4⟩:=s.ow i d e;exact⟨a,k2,k3,k4.ext p⟩
 own i a e:=by obtain⟨k1,k2,k3⟩:=s.own i a e;exact⟨k1,lt_of_lt_of_le k2 p.length_le,k3⟩
 inj:=s.inj
 pre:=s.pre.trans p
 up:=s.up
theorem gf(p:h<+:h1){k:Nat}(hk:k<h.length):h1[k]?=h[k]?:=by
 obtain⟨t,rfl⟩:=p;rw[getElem?_append_left hk]
theorem Fm.refl(s:SR A0 h0 aa env h O)(p:h<+:h1):Fm m aa env h O aa env h1 O where
 le:=p.length_le
 keep k hk n:=⟨gf p hk,n⟩
 stay i _:=⟨rfl,rfl,rfl,λa e=>gf p (s.own i a e).2.1⟩
theorem Fm.trans{mz iZ:aV}{gB iF:Env}{h2:Hs}{O1 O2:Nat->Option Nat}(a:Fm m aa env h O mz gB h1 O1)(b:Fm m mz gB h1 O1 iZ iF h2 O2):Fm m aa env h O iZ iF h2 O2 where
 le:=le_trans a.le b.le
 keep k hk n:=by obtain⟨a1,a2⟩:=a.keep k hk n;obtain⟨b1,b2⟩:=b.keep k (lt_of_lt_of_le hk a.le) a2;exact⟨b1.trans a1,b2⟩
 stay i hi:=by obtain⟨a1,a2,a3,a4⟩:=a.stay i hi;obtain⟨b1,b2,b3,b4⟩:=b.stay i hi;exact⟨b1.trans a1,b2.trans a2,b3.trans a3,λc e=>(b4 c (a1.trans e)).trans (a4 c e)⟩
theorem Fm.f9{m':List Nat}(hm:∀i∈m,i∈m')(a:Fm m aa env h O ay env' h1 O'):Fm m' aa env h O ay env' h1 O':=⟨a.le,a.keep,λi hi=>a.stay i λz=>hi (hm i z)⟩
theorem RF.pre(s:SR A0 h0 aa env h O)(p:h<+:h1)(r:RF A0 h0 m aa env h1 O f h' g):RF A0 h0 m aa env h O f h' g:=by
 cases f<;>cases g<;>first|exact r.elim|exact r|(obtain⟨O',a,b⟩:=r;exact⟨O',a,(Fm.refl s p).trans b⟩)
theorem RF.f9{m':List Nat}(hm:∀i∈m,i∈m')(r:RF A0 h0 m aa env h O f h' g):RF A0 h0 m' aa env h O f h' g:=by
 cases f<;>cases g<;>first|exact r.elim|exact r|(obtain⟨O',a,b⟩:=r;exact⟨O',a,b.f9 hm⟩)
theorem RF.seq{mz:aV}{gB:Env}{O1:Nat->Option Nat}(a:Fm m aa env h O mz gB h1 O1)(r:RF A0 h0 m mz gB h1 O1 f h' g):RF A0 h0 m aa env h O f h' g:=by
 cases f<;>cases g<;>first|exact r.elim|exact r|(obtain⟨O',b,c⟩:=r;exact⟨O',b,a.trans c⟩)
theorem bg{α β γ δ:Type}{R:α -> Hs -> β -> Prop}{R':γ -> Hs -> δ -> Prop}{mm:M β}{f:β -> M δ}{p:Pr α}{F:α -> Pr γ}(s:SR A0 h0 aa env h O)(r:Rel (Al A0 O) h R (mm h) p)(k:∀a h1 b,h<+:h1->R a h1 b->iJ A0 h0 R' (f b h1) (F a)):iJ A0 h0 R' (bnd mm f h) (pb p F):=by
 unfold bnd;cases p with
 | ok a=>obtain⟨b,h1,e,q,r⟩:=r;rw[e];exact k a h1 b q r
 | exc c es=>obtain⟨ws,h1,e,q,r⟩:=r;rw[e];exact⟨ws,h1,rfl,s.pre.trans q,r.f9 λ_ z=>z.1⟩
 | no=>trivial
theorem bz{α β:Type}{R:α -> Hs -> β -> Prop}{a:α}{b:β}(r:R a h b):iJ A0 h0 R (ret b h) (.ok a):=⟨b,h,rfl,r⟩
theorem ja{α β:Type}{R R':α -> Hs -> β -> Prop}{o:Out β}{p:Pr α}(r:iJ A0 h0 R o p)(k:∀a h' b,R a h' b->R' a h' b):iJ A0 h0 R' o p:=by
 cases p with
 | ok a=>obtain⟨b,h',e,r⟩:=r;exact⟨b,h',e,k a h' b r⟩
 | exc c es=>exact r
 | no=>trivial
theorem qu{α β γ δ:Type}{R:α -> Hs -> β -> Prop}{R':γ -> Hs -> δ -> Prop}{mm:M β}{f:β -> M δ}{p:Pr α}{F:α -> Pr γ}(r:iJ A0 h0 R (mm h) p)(k:∀a h1 b,R a h1 b->iJ A0 h0 R' (f b h1) (F a)):iJ A0 h0 R' (bnd mm f h) (pb p F):=by
 unfold bnd;cases p with
 | ok a=>obtain⟨b,h1,e,r⟩:=r;rw[e];exact k a h1 b r
 | exc c es=>obtain⟨ws,h1,e,q,r⟩:=r;rw[e];exact⟨ws,h1,rfl,q,r⟩
 | no=>trivial
theorem jw{α β:Type}{R:α -> Hs -> β -> Prop}{c:Bool}{o:Out β}{p:Pr α}(r:c=true->iJ A0 h0 R o p):iJ A0 h0 R o (pg c p):=by
 unfold pg;cases c with
 | true=>rw[if_pos rfl];exact r rfl
 | false=>rw[if_neg Bool.false_ne_true];trivial
noncomputable def gr(O:Nat->Option Nat)(i:Nat):Nat->Option Nat:=λj=>if j=i then none else O j
theorem oW:Al A0 O none->Al A0 O none:=id
theorem j9:Al A0 O none->Al A0 O' none:=λh=>⟨h.1,λ_ z=>by cases z⟩
theorem jx{i:Nat}:∀k,Al A0 O k->Al A0 (gr O i) k:=λk ⟨a,b⟩=>⟨a,λj z=>by unfold gr;split;(cases k<;>simp_all);exact b j z⟩
theorem SR.setM(s:SR A0 h0 aa env h O){i:Nat}{mk:Mk}{d v:Val}(YO:sO mk=true)(q:Dn (Al A0 O) h d v)(qn:MV mk=true->Dn (Al (Fr h0.length) O) h d v):SR A0 h0 (aa.set i (some (mk,d))) (env.set i (some v)) h (gr O i)/\Fm [i] aa env h O (aa.set i (some (mk,d))) (env.set i (some v)) h (gr O i):=by
 refine⟨⟨by simp[s.len],λj m' d' e hm'=>?_,λj d' e=>?_,λj a e=>?_,λj l a e1 e2=>?_,s.pre,s.up⟩,le_refl _,λk hk n=>⟨rfl,λj=>?_⟩,λj hj=>?_⟩
 ·by_cases hij:i=j
  ·subst hij
   have hi:i<aa.length:=by have:=(List.getElem?_eq_some_iff.mp e).1;simpa using this
   rw[getElem?_set_self hi] at e;cases e;exact⟨v,by rw[getElem?_set_self (by rw[<-s.len];exact hi)],q.f9 jx,λz=>(qn z).f9 jx⟩
  ·rw[getElem?_set_ne hij] at e;rw[getElem?_set_ne hij];obtain⟨w,k1,k2,k3⟩:=s.sh j m' d' e hm';exact⟨w,k1,k2.f9 jx,λz=>(k3 z).f9 jx⟩
 ·by_cases hij:i=j
  ·subst hij
   have hi:i<aa.length:=by have:=(List.getElem?_eq_some_iff.mp e).1;simpa using this
   rw[getElem?_set_self hi] at e;cases e;cases YO
  ·rw[getElem?_set_ne hij] at e;rw[getElem?_set_ne hij];obtain⟨a,k2,k3,k4⟩:=s.ow j d' e;exact⟨a,k2,by unfold gr;rw[if_neg (λz=>hij z.symm)];exact k3,k4.mono (λ_ g=>g) λ_ _ z=>z.f9 jx⟩
 ·unfold gr at e
  split at e
  ·cases e
  ·rename_i hj;obtain⟨k1,k2,d',k3⟩:=s.own j a e;exact⟨k1,k2,d',by rw[getElem?_set_ne (λz=>hj z.symm)];exact k3⟩
 ·unfold gr at e1 e2
  split at e1
  ·cases e1
  ·split at e2
   ·cases e2
   ·exact s.inj j l a e1 e2
 ·unfold gr;split;simp;exact n j
 ·have hj':j≠i:=by simpa using hj
  exact⟨by unfold gr;rw[if_neg hj'],getElem?_set_ne (λz=>hj' z.symm),getElem?_set_ne (λz=>hj' z.symm),λ_ _=>rfl⟩
theorem SR.set(s:SR A0 h0 aa env h O){i:Nat}(q:Dn (Al A0 O) h d v):SR A0 h0 (aa.set i (some (.sh,d))) (env.set i (some v)) h (gr O i)/\Fm [i] aa env h O (aa.set i (some (.sh,d))) (env.set i (some v)) h (gr O i):=s.setM rfl q λz=>nomatch z
theorem SR.binds:∀{is:List Nat} {ds vs:List Val} {aa:aV} {env:Env} {O:Nat->Option Nat} {ay:aV},SR A0 h0 aa env h O->bH is ds aa=some ay->ao (Al A0 O) h ds vs ->
  ∃env' O',bindAll is vs env=some env'/\SR A0 h0 ay env' h O'/\Fm is aa env h O ay env' h O'
 | [],[],vs,aa,env,O,ay,s,e,q=>by
  rw[ao] at q;subst q;simp only[bH] at e;cases e;exact⟨env,O,rfl,s,Fm.refl s (prefix_refl _)⟩
 | i::is,d::ds,vs,aa,env,O,ay,s,e,q=>by
  rw[ao] at q;obtain⟨v,r,rfl,q1,q2⟩:=q;simp only[bH] at e;obtain⟨s1,f1⟩:=s.set (i:=i) q1;obtain⟨env',O',b1,b2,b3⟩:=SR.binds s1 e (q2.f9 jx);refine⟨env',O',by simp only[bindAll];exact b1,b2,(f1.f9 λj hj=>?_).trans (b3.f9 λj hj=>mem_cons_of_mem _ hj)⟩;rw[mem_singleton.mp hj];exact mem_cons_self
 | [],_::_,_,_,_,_,_,_,e,_=>by simp[bH] at e
 | _::_,[],_,_,_,_,_,_,e,_=>by simp[bH] at e
theorem SR.bind(s:SR A0 h0 aa env h O)(e:cO p d aa=some ay)(q:Dn (Al A0 O) h d v):∃env' O',fW p v env=some env'/\SR A0 h0 ay env' h O'/\Fm (stored p) aa env h O ay env' h O':=by
 cases p with
 | one i =>simp only[cO] at e;cases e;obtain⟨s1,f1⟩:=s.set (i:=i) q;exact⟨_,_,rfl,s1,f1⟩
 | tup is =>
  cases d<;>simp only[cO] at e<;>first|(cases e;done)|skip
  rw[Dn] at q;obtain⟨vs,rfl,q⟩:=q;exact s.binds e q
theorem GV{a:Nat}(p:h0<+:h)(ha:h0.length<=a):h0<+:h.set a o:=by
 obtain⟨t,rfl⟩:=p;rw[List.set_append_right _ _ ha];exact prefix_append _ _
theorem SR.put(s:SR A0 h0 aa env h O){i a:Nat}{d d1:Val}(e:aa[i]?=some (some (.ow,d)))(ha:O i=some a)(q:OB (Al A0 O) h d1 ob) :
  SR A0 h0 (aa.set i (some (.ow,d1))) env (h.set a ob) O/\Fm [i] aa env h O (aa.set i (some (.ow,d1))) env (h.set a ob) O:=by
 obtain⟨o1,o2,_⟩:=s.own i a ha;have hi:i<aa.length:=(List.getElem?_eq_some_iff.mp e).1;have mv:∀{A0:AP} (k:Nat) (o:Ob),Al A0 O k->h[k]?=some o->Al A0 O k/\(h.set a ob)[k]?=some o:=λk o hk g=>⟨hk,by rw[getElem?_set_ne λz=>hk.2 i rfl (by rw[<-z];exact ha)];exact g⟩;obtain⟨a0,e2,e3,_⟩:=s.ow i d e;refine⟨⟨by simp[s.len],λj m' d' ej hm'=>?_,λj d' ej=>?_,λj b ej=>?_,s.inj,GV s.pre o1,s.up⟩,by simp,λk hk n=>⟨?_,n⟩,λj hj=>?_⟩
 ·by_cases hij:i=j
  ·subst hij;rw[getElem?_set_self hi] at ej;cases ej;cases hm'
  ·rw[getElem?_set_ne hij] at ej;obtain⟨w,k1,k2,k3⟩:=s.sh j m' d' ej hm';exact⟨w,k1,Dn.move oW mv _ _ k2,λz=>Dn.move oW mv _ _ (k3 z)⟩
 ·by_cases hij:i=j
  ·subst hij;rw[getElem?_set_self hi] at ej;cases ej;rw[ha] at e3;cases e3;exact⟨a,e2,ha,q.od (by rw[getElem?_set_self o2]) λ_ _ z=>ao.move oW mv _ _ z⟩
  ·rw[getElem?_set_ne hij] at ej;obtain⟨a1,k2,k3,k4⟩:=s.ow j d' ej;have:a≠a1:=λz=>hij (s.inj i j a ha (by rw[z];exact k3));exact⟨a1,k2,k3,k4.mono (λ_ g=>by rw[getElem?_set_ne this];exact g) λ_ _ z=>ao.move oW mv _ _ z⟩
 ·obtain⟨k1,k2,d',k3⟩:=s.own j b ej
  refine⟨k1,by simp[k2],?_⟩
  by_cases hij:i=j
  ·subst hij;exact⟨_,by rw[getElem?_set_self hi]⟩
  ·exact⟨d',by rw[getElem?_set_ne hij];exact k3⟩
 ·rw[getElem?_set_ne λz=>n i (by rw[<-z];exact ha)]
 ·have hj':j≠i:=by simpa using hj
  exact⟨rfl,getElem?_set_ne (λz=>hj' z.symm),rfl,λb eb=>by rw[getElem?_set_ne λz=>hj' (s.inj j i b eb (by rw[<-z];exact ha))]⟩
noncomputable def rK(O:Nat->Option Nat)(i a:Nat):Nat->Option Nat:=λj=>if j=i then some a else O j
theorem SR.fresh(s:SR A0 h0 aa env h O){i:Nat}{d1:Val}{h2:Hs}(p:h<+:h2)(q:OB (Al A0 O) h2 d1 ob) :
  SR A0 h0 (aa.set i (some (.ow,d1))) (env.set i (some (.ref h2.length))) (h2++[ob]) (if i<aa.length then rK O i h2.length else gr O i) /\
   Fm [i] aa env h O (aa.set i (some (.ow,d1))) (env.set i (some (.ref h2.length))) (h2++[ob]) (if i<aa.length then rK O i h2.length else gr O i):=by
 have pp:h<+:h2++[ob]:=p.trans (prefix_append _ _);have s2:=s.ext p;have mv:∀{A0:AP} (j:Nat),∀(k:Nat) (o:Ob),Al A0 O k->h2[k]?=some o->Al A0 (if i<aa.length then rK O i h2.length else gr O i) k/\(h2++[ob])[k]?=some o:=λ{A0} j k o hk g=>by
  have hlt:k<h2.length:=(List.getElem?_eq_some_iff.mp g).1;refine⟨?_,by rw[getElem?_append_left hlt];exact g⟩
  split
  ·refine⟨hk.1,λl _=>?_⟩
   unfold rK
   split
   ·intro z;cases z;omega
   ·exact hk.2 l rfl
  ·exact jx k hk
 by_cases hi:i<aa.length
 ·rw[if_pos hi] at mv |-
  refine⟨⟨by simp[s.len],λj m' d' ej hm'=>?_,λj d' ej=>?_,λj b ej=>?_,λj l b e1 e2=>?_,s.pre.trans pp,s.up⟩,pp.length_le,λk hk n=>⟨gf pp hk,λl=>?_⟩,λj hj=>?_⟩
  ·by_cases hij:i=j
   ·subst hij;rw[getElem?_set_self hi] at ej;cases ej;cases hm'
   ·rw[getElem?_set_ne hij] at ej;rw[getElem?_set_ne hij];obtain⟨w,k1,k2,k3⟩:=s2.sh j m' d' ej hm';exact⟨w,k1,Dn.move j9 (mv 0) _ _ k2,λz=>Dn.move j9 (mv 0) _ _ (k3 z)⟩
  ·by_cases hij:i=j
   ·subst hij;rw[getElem?_set_self hi] at ej;cases ej;exact⟨h2.length,by rw[getElem?_set_self (by rw[<-s.len];exact hi)],by unfold rK;rw[if_pos rfl],q.od (by simp) λ_ _ z=>ao.move j9 (mv 0) _ _ z⟩
   ·rw[getElem?_set_ne hij] at ej;rw[getElem?_set_ne hij];obtain⟨a1,k2,k3,k4⟩:=s2.ow j d' ej;have hlt:a1<h2.length:=k4.lt;exact⟨a1,k2,by unfold rK;rw[if_neg λz=>hij z.symm];exact k3,k4.mono (λ_ g=>by rw[getElem?_append_left hlt];exact g) λ_ _ z=>ao.move j9 (mv 0) _ _ z⟩
  ·unfold rK at ej
   split at ej
   ·rename_i hj;cases ej;subst hj;exact⟨le_trans s.pre.length_le p.length_le,by simp,_,by rw[getElem?_set_self hi]⟩
   ·rename_i hj;obtain⟨k1,k2,d',k3⟩:=s2.own j b ej;exact⟨k1,by simp;omega,d',by rw[getElem?_set_ne λz=>hj z.symm];exact k3⟩
  ·unfold rK at e1 e2
   split at e1
   ·rename_i h1;cases e1
    split at e2
    ·rename_i h3;rw[h1,h3]
    ·have:=(s2.own l _ e2).2.1;omega
   ·split at e2
    ·cases e2;have:=(s2.own j _ e1).2.1;omega
    ·exact s.inj j l b e1 e2
  ·unfold rK;split
   ·intro z;cases z;have:=p.length_le;omega
   ·exact n l
  ·have hj':j≠i:=by simpa using hj
   exact⟨by unfold rK;rw[if_neg hj'],getElem?_set_ne (λz=>hj' z.symm),getElem?_set_ne (λz=>hj' z.symm),λb eb=>gf pp (s.own j b eb).2.1⟩
 ·rw[if_neg hi] at mv |-
  have e1:aa.set i (some (.ow,d1))=aa:=List.set_eq_of_length_le (by omega);have e2:env.set i (some (.ref h2.length))=env:=List.set_eq_of_length_le (by rw[<-s.len];omega);have e3:gr O i=O:=by
   funext j;unfold gr;split
   ·rename_i hj;subst hj
    cases e:O j with
    | none=>rfl
    | some a=>obtain⟨_,_,d,k⟩:=s.own j a e;exact absurd (List.getElem?_eq_some_iff.mp k).1 hi
   ·rfl
  rw[e1,e2,e3];exact⟨s.ext pp,Fm.refl s pp⟩
end
end Hv
end
section
namespace Hv
open PySem L2
section
variable {Φ:Nat->List Val->M Val} {Ψ:Nat->List Val->Pr FV} {A:AP} {h h1:Hs}
noncomputable def isRef:Val->Bool
 | .rl _=>true
 | .dc _ _=>true
 | _=>false
noncomputable def RN(A:AP)(h:Hs):FV->Hs->Val->Prop:=λx h' v=>isRef x.2=true->∃h2 o,h'=h2++[o]/\v=.ref h2.length/\h<+:h2/\OB A h2 x.2 o
noncomputable def ID(Φ:Nat->List Val->M Val)(Ψ:Nat->List Val->Pr FV)(ir:IE):Prop:=∀(aa:aV) (env:Env) (A:AP) (h:Hs),Up A h->ER A aa env h->Rel A h (RN A h) (aH Φ ir env h) (aZ Ψ ir aa)
theorem kc{f:Bool}{h0:Hs}(p:h0<+:h)(q:ao A h xs vs):Rel A h (RN A h0) (new (.lst vs) h) (.ok (f,.rl xs)) :=
 ⟨_,_,rfl,dw _,λ_=>⟨h,.lst vs,rfl,rfl,p,vs,rfl,q⟩⟩
theorem LC:ID Φ Ψ .dct0:=λaa env A h u e=>by
 rw[aH,aZ];exact⟨_,_,rfl,dw _,λ_=>⟨h,.dct [],rfl,rfl,prefix_refl _,[],rfl,rfl,ao.nil⟩⟩
theorem LD(hk:bQ Φ Ψ k)(hv:bQ Φ Ψ v):ID Φ Ψ (.dct1 k v):=λaa env A h u e=>by
 rw[aH,aZ];refine ah (hk aa env A h u e) λx h1 w p1 q1=>ah (R:=λkk _ kk'=>kk'=kk) (bf λkk ek=>⟨kk,yq q1.1 ek,rfl⟩) λkk h2 kk' p2 hkk=>?_;subst hkk;refine ah (hv aa env A h2 ((u.ext p1).ext p2) ((e.ext p1).ext p2)) λy h3 z p3 q3=>?_;exact⟨_,_,rfl,dw _,λ_=>⟨h3,.dct [(kk',z)],rfl,rfl,(p1.trans p2).trans p3,[(kk',z)],rfl,rfl,ao.cons q3.1 ao.nil⟩⟩
theorem OY(hs:kT Φ Ψ es):ID Φ Ψ (.lst es):=λaa env A h u e=>by
 rw[aH,aZ];exact ah (hs.1 aa env A h u e) λx h1 vs p1 q1=>bP (λz=>by rw[<-q1.1.length];exact z) λ_=>kc p1 q1.1
theorem OZ(ha:bQ Φ Ψ a)(hl:bQ Φ Ψ lo)(hh:bQ Φ Ψ hi):ID Φ Ψ (.slc a lo hi):=λaa env A h u e=>by
 rw[aH,aZ];refine ah (jR ha u e) λx h1 v p1 q1=>ah (j8 hl (u.ext p1) (e.ext p1)) λl h2 l' p2 el=>ah (j8 hh ((u.ext p1).ext p2) ((e.ext p1).ext p2)) λr h3 r' p3 er=>?_;subst el;subst er;have q1:=DB.ext (p2.trans p3) q1;obtain⟨f,d⟩:=x;cases d with
 | tup ds =>obtain⟨vs,rfl,q⟩:=DB.tup q1;have l:=q.length;simp only[Bf,rH];exact bP (λz=>by rw[l] at z;exact z) λ_=>aB λe=>by cases e
 | rl ds =>
  obtain⟨vs,e1,q⟩:=DB.lst q1;have ev:rH v l' r' h3=new (.lst (dm vs l' r')) h3:=by
   have:rH v l' r'=bnd (ask λh=>aC h v) λxs=>new (.lst (dm xs l' r')):=by cases v<;>simp only[aC] at e1<;>first|(cases e1;done)|rfl
   rw[this];unfold bnd ask bh;dsimp only;rw[e1]
  rw[ev];exact kc ((p1.trans p2).trans p3) (q.cut l' r')
 | _=>trivial
theorem LF(hs:kT Φ Ψ es):ID Φ Ψ (.blt .list es):=λaa env A h u e=>by
 rw[aH,aZ];refine ah (hs.2 aa env A h u e) λds h1 vs p1 q1=>?_
 match ds,q1 with
 | [],q1=>trivial
 | [d],q1 =>obtain⟨v,rfl,hv⟩:=q1.one;exact ah (R:=λxs h' ws=>ao A h' xs ws) (bN λxs e=>hv.seq e) λxs h2 ws p2 q=>kc (p1.trans p2) q
 | _::_::_,_=>trivial
theorem Di(hs:kT Φ Ψ es):ID Φ Ψ (.blt .sorted es):=λaa env A h u e=>by
 rw[aH,aZ];refine ah (hs.2 aa env A h u e) λds h1 vs p1 q1=>?_
 match ds,q1 with
 | [],q1=>trivial
 | [d],q1 =>
  obtain⟨v,rfl,hv⟩:=q1.one;cases d<;>first|trivial|skip
  rename_i xs;obtain⟨ws,e1,q⟩:=hv.lst;have ev:bnd (ask λh=>aC h v) (λxs=>bnd (bh (fD xs)) λys=>new (.lst ys)) h1=bnd (bh (fD ws)) (λys=>new (.lst ys)) h1:=by unfold bnd ask bh;dsimp only;rw[e1]
  show Rel A h1 (RN A h) (bnd (ask λh=>aC h v) (λxs=>bnd (bh (fD xs)) λys=>new (.lst ys)) h1) _;rw[ev];refine ah (R:=λys _ zs=>zs=ys/\bJ ys=true) (bf λys e=>?_) λys h2 zs p2 hz=>?_
  ·obtain⟨i1,i2⟩:=sP e;rw[(aP xs ws i1).mp q];exact⟨ys,e,rfl,i2⟩
  ·obtain⟨rfl,hi⟩:=hz;exact kc (p1.trans p2) ((aP _ _ hi).mpr rfl)
 | x::_::_,_=>cases x<;>trivial
theorem LG(hs:kT Φ Ψ it)(hc:bQ Φ Ψ c)(he:bQ Φ Ψ elt):ID Φ Ψ (.comp N js pat k it c elt):=λaa env A h u e=>by
 rw[aH,aZ];refine ah (hs.2 aa env A h u e) λds h1 vs p1 q1=>ah (zH q1) λxs h2 src p2 q2=>?_;obtain⟨ws,q3,q4⟩:=q2;have l:=q3.length;have ev:∀(F:List Val->M Val),bnd (ask λh=>src.items h) F h2=F ws h2:=λF=>by unfold bnd ask bh;dsimp only;rw[q4 h2 (prefix_refl _)]
 rw[ev];refine bP (λz=>by rw[<-l];exact z) λ_=>?_;have u2:=(u.ext p1).ext p2;have e2:=(e.ext p1).ext p2;refine ah (qt (hb:=h) xs ws 0 [] h2 (p1.trans p2) u2 q4 rfl q3 λx v h' p' qx=>?_) λp h3 ys p3 hp=>?_
 ·refine ah (R:=λay _ env'=>∃_:ER A ay env' h',True) (bf λay ev'=>?_) λay h4 env' p4 he'=>?_
  ·obtain⟨env',a1,a2⟩:=v9 ev' qx (zK (e2.ext p')) (by simp[jJ,jZ]);exact⟨env',a1,a2,trivial⟩
  ·obtain⟨er,_⟩:=he'
   have er:=er.ext p4;have u4:=(u2.ext p').ext p4;have Oo:Rel A h4 (λt _ t'=>t'=t) ((if cP c=true then ret true else bnd (aH Φ c env') λv=>ask λh=>dj h v) h4) (if cP c=true then .ok true else pb (aZ Ψ c ay) λv=>pl (dj [] v.2)):=by
    by_cases hn:cP c=true
    ·rw[if_pos hn,if_pos hn];exact aB rfl
    ·rw[if_neg hn,if_neg hn];exact ah (hc ay env' A h4 u4 er) λy h5 w p5 q5=>bN λt et=>⟨t,ur q5.br et,rfl⟩
   refine ah Oo λt h5 t' p5 et=>?_;subst et;cases t' with
   | true =>rw[if_pos rfl,if_pos rfl];exact ah (he ay env' A h5 (u4.ext p5) (er.ext p5)) λy h6 w p6 q6=>aB (q6.up ((p1.trans p2).trans (p'.trans (p4.trans p5))))
   | false =>rw[if_neg Bool.false_ne_true,if_neg Bool.false_ne_true];exact aB trivial
 ·obtain⟨zs,rfl,z1,z2⟩:=hp;exact kc ((p1.trans p2).trans p3) z1
theorem O0(hΦ:∀j,Imp (Φ j) (Ψ j))(hf:SJ e=true)(ho:dN e=true):ID Φ Ψ e:=by
 have V:=v_all hΦ;cases e<;>first|(cases hf;done)|skip
 ·exact OY (V.2 _ ho)
 ·have ho:=qq ho;exact OZ (V.1 _ ho.1.1) (V.1 _ ho.1.2) (V.1 _ ho.2)
 ·rename_i b es
  change mw _=true at ho;cases b<;>first|(cases hf;done)|skip
  ·exact Di (V.2 _ ho)
  ·exact LF (V.2 _ ho)
 ·have ho:=qq ho;exact LG (V.2 _ ho.1.1) (V.1 _ ho.1.2) (V.1 _ ho.2)
 ·exact LC
 ·have ho:=eZ ho;exact LD (V.1 _ ho.1) (V.1 _ ho.2)
mutual
noncomputable def SO:IS->Bool
 | .expr e=>dN e
 | .asg _ e=>dN e
 | .aug _ _ e=>dN e
 | .eB o i v=>dN o&&dN i&&dN v
 | .iff c a b=>dN c&&qv a&&qv b
 | .for _ _ it b=>mw it&&qv b
 | .whl _ c b=>dN c&&qv b
 | .ret e=>dN e
 | _=>true
noncomputable def qv:eW->Bool
 | .nil=>true
 | .cons s r=>SO s&&qv r
end
noncomputable def mS(s:IS):List Nat:=rJ s++nD s
noncomputable def GW(s:eW):List Nat:=iW s++kY s
variable {ms:List Nat}
noncomputable def zL(Φ:Nat->List Val->M Val)(Ψ:Nat->List Val->Pr FV)(ms:List Nat)(s:IS):Prop:=∀(A0:AP) (h0:Hs) (aa:aV) (env:Env) (h:Hs) (O:Nat->Option Nat),SR A0 h0 aa env h O->iJ A0 h0 (RF A0 h0 (mS s) aa env h O) (eX Φ s env h) (cZ Ψ ms s aa)
noncomputable def uv(Φ:Nat->List Val->M Val)(Ψ:Nat->List Val->Pr FV)(ms:List Nat)(s:eW):Prop:=∀(A0:AP) (h0:Hs) (aa:aV) (env:Env) (h:Hs) (O:Nat->Option Nat),SR A0 h0 aa env h O->iJ A0 h0 (RF A0 h0 (GW s) aa env h O) (dP Φ s env h) (kZ Ψ ms s aa)
theorem Dj(he:bQ Φ Ψ e)(hx:∀aa,cZ Ψ ms (.expr e) aa=pb (aZ Ψ e aa) λ_=>.ok (.nx aa)):zL Φ Ψ ms (.expr e):=λA0 h0 aa env h O s=>by
 rw[eX,hx];exact bg s (he aa env _ h s.yr s.er) λx h1 v p1 q1=>bz ⟨O,s.ext p1,Fm.refl s p1⟩
theorem aN{α β γ:Type}(m:M α)(f:α -> M β)(g:β -> M γ):bnd (bnd m f) g=bnd m λx=>bnd (f x) g:=by
 funext h;show (match (match m h with|.ok a h'=>f a h'|.exc c vs h'=>.exc c vs h'|.no=>.no) with|.ok a h'=>g a h'|.exc c vs h'=>.exc c vs h'|.no=>.no)=(match m h with|.ok a h'=>bnd (f a) g h'|.exc c vs h'=>.exc c vs h'|.no=>.no);cases m h<;>rfl
theorem aq{α β:Type}{m:M α}{f:α -> M β}{a:α}{h h1:Hs}(e:m h=.ok a h1):bnd m f h=f a h1:=by unfold bnd;rw[e]
theorem bR{i:Nat}(e:env[i]?=some (some v)):aH Φ (.var i) env h=.ok v h:=by rw[aH,e];rfl
theorem Bg{i:Nat}(ha:bQ Φ Ψ a):zL Φ Ψ ms (.expr (.met .append (.var i) (.cons a .nil))):=λA0 h0 aa env h O s=>by
 rw[eX,cZ];try dsimp only
 split
 ·rename_i ds hv
  obtain⟨b,e2,e3,vs,e4,e5⟩:=s.ow i _ hv;have ev:bnd (aH Φ (.met .append (.var i) (.cons a .nil)) env) (λ_=>ret (Fl.nx env)) h=bnd (aH Φ a env) (λv=>bnd (met .append (.ref b) [v]) λ_=>ret (Fl.nx env)) h:=by
   rw[aH,aN,aq (bR e2)];rw[aN,aq (a:=()) (h1:=h) (by unfold ask bh;simp[recv,e4])];rw[aN,aW,aN]
   congr 1
  rw[ev];refine bg s (ha aa env _ h s.yr s.er) λx h1 v p1 q1=>jw λhg=>?_;have s1:=s.ext p1;obtain⟨s2,f2⟩:=s1.put (d1:=.rl (ds++[x.2])) (ob:=.lst (vs++[v])) hv e3 ⟨_,rfl,(e5.ext p1).append (ao.cons q1.1 ao.nil)⟩;have l:=e5.length;refine⟨.nx env,h1.set b (.lst (vs++[v])),?_,O,s2,(Fm.refl s p1).trans (f2.f9 λj hj=>?_)⟩
  ·have g:=bU p1 e4;unfold met bnd ask bh aE put ret;dsimp only;rw[g];dsimp only;rw[if_pos (by rw[<-l];exact hg)]
  ·rw[mem_singleton.mp hj];exact mem_append_left _ mem_cons_self
 ·trivial
theorem Bh{i:Nat}(ha:bQ Φ Ψ a):zL Φ Ψ ms (.expr (.met .extend (.var i) (.cons a .nil))):=λA0 h0 aa env h O s=>by
 rw[eX,cZ];try dsimp only
 split
 ·rename_i ds hv
  obtain⟨b,e2,e3,vs,e4,e5⟩:=s.ow i _ hv;have ev:bnd (aH Φ (.met .extend (.var i) (.cons a .nil)) env) (λ_=>ret (Fl.nx env)) h=bnd (aH Φ a env) (λv=>bnd (met .extend (.ref b) [v]) λ_=>ret (Fl.nx env)) h:=by
   rw[aH,aN,aq (bR e2)];rw[aN,aq (a:=()) (h1:=h) (by unfold ask bh;simp[recv,e4])];rw[aN,aW,aN]
   congr 1
  rw[ev];refine bg s (ha aa env _ h s.yr s.er) λx h1 v p1 q1=>?_;obtain⟨f,d⟩:=x;cases d<;>first|trivial|skip
  rename_i ts;have q:=q1.1;dsimp only at q;rw[Dn] at q;obtain⟨ws,rfl,q⟩:=q;refine jw λhg=>?_;have s1:=s.ext p1;obtain⟨s2,f2⟩:=s1.put (d1:=.rl (ds++ts)) (ob:=.lst (vs++ws)) hv e3 ⟨_,rfl,(e5.ext p1).append q⟩;have l:=e5.length;have l2:=q.length;refine⟨.nx env,h1.set b (.lst (vs++ws)),?_,O,s2,(Fm.refl s p1).trans (f2.f9 λj hj=>?_)⟩
  ·have g:=bU p1 e4;unfold met bnd ask bh aE put ret vF;dsimp only;rw[g];dsimp only;rw[if_pos (by rw[<-l,<-l2];exact hg)]
  ·rw[mem_singleton.mp hj];exact mem_append_left _ mem_cons_self
 ·trivial
theorem GX(hΦ:∀j,Imp (Φ j) (Ψ j))(ho:dN e=true):zL Φ Ψ ms (.expr e):=by
 have V:=v_all hΦ;have gen:(∀aa,cZ Ψ ms (.expr e) aa=pb (aZ Ψ e aa) λ_=>.ok (.nx aa))->zL Φ Ψ ms (.expr e):=λhx=>Dj (V.1 e ho) hx;cases e with
 | met m a es =>
  cases m with
  | join=>exact gen λaa=>by rw[cZ]<;>(intros;simp_all)
  | append =>
   cases a with
   | var i =>
    cases es with
    | nil=>exact gen λaa=>by rw[cZ]<;>(intros;simp_all)
    | cons x r =>
     cases r with
     | nil=>exact Bg (V.1 x (eZ (eZ ho).2).1)
     | cons _ _=>exact gen λaa=>by rw[cZ]<;>(intros;simp_all)
   | _=>exact gen λaa=>by rw[cZ]<;>(intros;simp_all)
  | extend =>
   cases a with
   | var i =>
    cases es with
    | nil=>exact gen λaa=>by rw[cZ]<;>(intros;simp_all)
    | cons x r =>
     cases r with
     | nil=>exact Bh (V.1 x (eZ (eZ ho).2).1)
     | cons _ _=>exact gen λaa=>by rw[cZ]<;>(intros;simp_all)
   | _=>exact gen λaa=>by rw[cZ]<;>(intros;simp_all)
 | _=>exact gen λaa=>by rw[cZ]<;>(intros;simp_all)
end
end Hv
end
section
namespace Hv
open PySem L2
section
variable {Φ:Nat->List Val->M Val} {Ψ:Nat->List Val->Pr FV} {ms:List Nat}
theorem Bj{i:Nat}{l:List Nat}(h:i∈l):∀j∈[i],j∈l:=λj hj=>by rw[mem_singleton.mp hj];exact h
theorem LH(hΦ:∀j,Imp (Φ j) (Ψ j))(ho:dN e=true):zL Φ Ψ ms (.asg p e):=λA0 h0 aa env h O s=>by
 have V:=(v_all hΦ).1 e ho;cases p with
 | one i =>
  rw[eX,cZ];try dsimp only
  split
  ·refine jw λhf=>?_
   refine bg s (O0 hΦ hf ho aa env _ h s.yr s.er) λx h1 v p1 q1=>?_;obtain⟨f,d⟩:=x;cases d<;>first|trivial|skip
   ·obtain⟨h2,vs,rfl,rfl,p2,q2⟩:=q1 rfl;obtain⟨s2,f2⟩:=s.fresh (i:=i) p2 q2;exact⟨_,_,rfl,_,s2,f2.f9 (Bj (by simp[mS,nD,stored]))⟩
   ·obtain⟨h2,vs,rfl,rfl,p2,q2⟩:=q1 rfl;obtain⟨s2,f2⟩:=s.fresh (i:=i) p2 q2;exact⟨_,_,rfl,_,s2,f2.f9 (Bj (by simp[mS,nD,stored]))⟩
  ·refine bg s (V aa env _ h s.yr s.er) λx h1 v p1 q1=>?_
   have hnw:MV (lZ x.1 x.2)=true->Dn (Al (Fr h0.length) O) h1 x.2 v:=λz=>by
    have hx:x.1=true:=by
     unfold lZ at z;split at z
     ·rename_i hh;simp only[and_eq_true] at hh;exact hh.1
     ·cases z
    refine(q1.2 hx).f9 λo ho=>?_;cases o with
    | none=>exact ho.elim
    | some k=>exact⟨le_trans s.pre.length_le ho,λj _ e=>by have:=(s.own j k e).2.1;have ho':h.length<=k:=ho;omega⟩
   have hrd:sO (lZ x.1 x.2)=true:=by unfold lZ;split<;>rfl
   obtain⟨s2,f2⟩:=(s.ext p1).setM (i:=i) hrd q1.1 hnw;exact⟨_,_,rfl,_,s2,(Fm.refl s p1).trans (f2.f9 (Bj (by simp[mS,nD,stored])))⟩
 | tup is =>
  rw[eX,cZ];try dsimp only
  refine jw λhf=>bg s (V aa env _ h s.yr s.er) λx h1 v p1 q1=>?_;have s1:=s.ext p1;refine bg s1 (R:=λay h' env'=>∃O',SR A0 h0 ay env' h' O'/\Fm (stored (.tup is)) aa env h1 O ay env' h' O') (bf λay ev=>?_) λay h2 env' p2 hh=>?_
  ·obtain⟨env',O',b1,b2,b3⟩:=s1.bind ev q1.1;exact⟨env',b1,O',b2,b3⟩
  ·obtain⟨O',b2,b3⟩:=hh;exact bz ⟨O',b2,(Fm.refl s p1).trans (b3.f9 λj hj=>by simp only[mS,nD];exact mem_append_right _ hj)⟩
theorem LI{i:Nat}(hΦ:∀j,Imp (Φ j) (Ψ j))(ho:dN e=true):zL Φ Ψ ms (.aug i o e):=λA0 h0 aa env h O s=>by
 have V:=(v_all hΦ).1 e ho;rw[eX,cZ];refine jw λhf=>bg s (R:=λx _ y=>y=x) (bf λx hx=>?_) λx h1 y p1 YQ=>?_
 ·split at hx<;>cases hx
  rename_i f hv;have:=s.er i f _ hv;revert this;generalize sO f=t;intro this;cases t with
  | false=>rw[if_pos rfl] at this;obtain⟨_,_,k⟩:=this;exact False.elim k
  | true =>rw[if_neg (by decide)] at this;obtain⟨v,k1,k2⟩:=this;rw[Dn] at k2;subst k2;exact⟨x,by rw[k1],rfl⟩
 ·subst YQ
  have s1:=s.ext p1;refine bg s1 (V aa env _ h1 s1.yr s1.er) λz h2 v p2 q2=>?_;have s2:=s1.ext p2;refine bg s2 (R:=λx _ y=>y=x) (bf λn en=>?_) λn h3 n' p3 YR=>?_
  ·obtain⟨f,d⟩:=z
   have q:=q2.1;cases d<;>first|(cases en;done)|skip
   dsimp only at q;rw[Dn] at q;subst q;exact⟨n,en,rfl⟩
  ·subst YR;have s3:=s2.ext p3;refine bg s3 (zC (h0:=h3) s3.yr (prefix_refl _) (.inl (by rw[Dn])) (.inl (by rw[Dn]))) λw h4 w' p4 q4=>?_;obtain⟨s5,f5⟩:=(s3.ext p4).set (i:=i) q4.1;exact bz ⟨_,s5,(Fm.refl s (((p1.trans p2).trans p3).trans p4)).trans (f5.f9 (Bj (by simp[mS,nD])))⟩
theorem zM(k:Key)(l:List (Key×Val)):(l.any λkv=>decide (kv.1=k))=((l.map (·.1)).any λx=>decide (x=k)):=by
 rw[any_map];rfl
theorem zN(e:Dn A h d v):∀{kvs:List (Key×Val)} {ds:List Val},ao A h ds (kvs.map (·.2)) ->
  ao A h ((((kvs.map (·.1)).zip ds).map λkv=>if kv.1=k then (kv.1,d) else kv).map (·.2)) ((kvs.map λkv=>if kv.1=k then (kv.1,v) else kv).map (·.2))
 | [],ds,q=>by simp only[map_nil,List.zip_nil_left];exact ao.nil
 | (k',v')::kvs,ds,q=>by
  have l:=q.length;cases ds with
  | nil=>simp at l
  | cons d' ds =>
   simp only[map_cons] at q;rw[ao] at q;obtain⟨v1,r,e1,q1,q2⟩:=q;cases e1;simp only[map_cons,zip_cons_cons];refine ao.cons ?_ (zN e q2)
   by_cases hk:k'=k
   ·rw[if_pos hk,if_pos hk];exact e
   ·rw[if_neg hk,if_neg hk];exact q1
theorem nX(k:Key)(d:Val)(l:List (Key×Val)):(l.map λkv=>if kv.1=k then (kv.1,d) else kv).map (·.1)=l.map (·.1):=by
 rw[map_map];refine map_congr_left λx _=>?_;show (if x.1=k then (x.1,d) else x).1=x.1
 split<;>rfl
theorem GY(hk:kvs.map (·.1)=ks)(q:ao A h ds (kvs.map (·.2)))(e:Dn A h d v) :
  (gG kvs k v).map (·.1)=(gG (ks.zip ds) k d).map (·.1)/\ao A h ((gG (ks.zip ds) k d).map (·.2)) ((gG kvs k v).map (·.2)):=by
 subst hk;have l:=q.length;rw[length_map] at l;have z1:((kvs.map (·.1)).zip ds).map (·.1)=kvs.map (·.1):=List.map_fst_zip (by rw[length_map];omega);have z2:((kvs.map (·.1)).zip ds).map (·.2)=ds:=List.map_snd_zip (by rw[length_map];omega);unfold gG;rw[zM,zM,z1]
 split
 ·rw[nX,nX,z1];exact⟨rfl,zN e q⟩
 ·rw[map_append,map_append,map_append,map_append,z1,z2];exact⟨rfl,q.append (ao.cons e ao.nil)⟩
theorem GZ(hΦ:∀j,Imp (Φ j) (Ψ j))(ho:dN o=true)(hi:dN i=true)(hv:dN v=true):zL Φ Ψ ms (.eB o i v):=λA0 h0 aa env h O s=>by
 have V:=(v_all hΦ).1;cases o with
 | var j =>
  rw[eX,cZ];refine bg s (V v hv aa env _ h s.yr s.er) λx h1 w p1 q1=>?_;have s1:=s.ext p1
  split
  ·rename_i ds hj
   obtain⟨b,e2,e3,vs,e4,e5⟩:=s1.ow j _ hj;rw[aq (bR e2)];refine bg s1 (V i hi aa env _ h1 s1.yr s1.er) λz h2 u p2 q2=>?_;have s2:=s1.ext p2;obtain⟨f,d⟩:=z;have q:=q2.1;cases d<;>first|trivial|skip
   dsimp only at q;rw[Dn] at q;subst q;rename_i kk;have g:=bU p2 e4;have l:=e5.length;show iJ A0 h0 _ _ (pb (pl (Ao ds.length kk)) _);cases hn:Ao ds.length kk with
   | none=>trivial
   | some n =>obtain⟨s3,f3⟩:=s2.put (d1:=.rl (ds.set n x.2)) (ob:=.lst (vs.set n w)) hj e3 ⟨_,rfl,(e5.ext p2).set n (q1.1.ext p2)⟩;refine⟨.nx env,h2.set b (.lst (vs.set n w)),?_,O,s3,(Fm.refl s (p1.trans p2)).trans (f3.f9 (Bj (by simp[mS,rJ])))⟩;rw[l] at hn;simp only[sH];unfold bnd ask bh put ret;dsimp only;rw[g];dsimp only;rw[hn]
  ·rename_i ks ds hj
   obtain⟨b,e2,e3,kvs,e4,ek,e5⟩:=s1.ow j _ hj;rw[aq (bR e2)];refine bg s1 (V i hi aa env _ h1 s1.yr s1.er) λz h2 u p2 q2=>?_;have s2:=s1.ext p2;obtain⟨f,d⟩:=z;have q:=q2.1;dsimp only at q;show iJ A0 h0 _ _ (pb (pl (keyOf d)) _);cases hk:keyOf d with
   | none=>trivial
   | some kk =>
    have hu:keyOf u=some kk:=by
     cases d<;>simp only[keyOf] at hk<;>first|(cases hk;done)|skip
     all_goals (rw[Dn] at q;subst q;exact hk)
    show iJ A0 h0 _ _ (pg _ _);refine jw λhl=>?_;have g:=bU p2 e4;obtain⟨k1,k2⟩:=GY (k:=kk) ek (e5.ext p2) (q1.1.ext p2);obtain⟨s3,f3⟩:=s2.put (d1:=putD ks ds kk x.2) (ob:=.dct (gG kvs kk w)) hj e3 ⟨_,rfl,k1,k2⟩;refine⟨.nx env,h2.set b (.dct (gG kvs kk w)),?_,O,s3,(Fm.refl s (p1.trans p2)).trans (f3.f9 (Bj (by simp[mS,rJ])))⟩;have hl':decide (kvs.length<sizeLine)=true:=by rw[<-ek,length_map] at hl;exact hl
    simp only[sH];unfold bnd ask bh put ret aE;dsimp only;rw[g];dsimp only;rw[hu];dsimp only;rw[if_pos hl']
  ·trivial
 | _=>rw[cZ]<;>first|trivial|(intros;simp_all)
theorem LJ(hΦ:∀j,Imp (Φ j) (Ψ j))(hc:dN c=true)(ha:uv Φ Ψ ms a)(hb:uv Φ Ψ ms b):zL Φ Ψ ms (.iff c a b):=λA0 h0 aa env h O s=>by
 have V:=(v_all hΦ).1 c hc;rw[eX,cZ];refine bg s (jR V s.yr s.er) λx h1 v p1 q1=>?_;have s1:=s.ext p1;refine bg s1 (R:=λt _ t'=>t'=t) (bN λt et=>⟨t,ur q1 et,rfl⟩) λt h2 t' p2 et=>?_;subst et;have s2:=s1.ext p2;cases t' with
 | true =>
  rw[if_pos rfl,if_pos rfl];refine ja (ha A0 h0 aa env h2 O s2) λf h' g r=>(r.pre s (p1.trans p2)).f9 λi hi=>?_;simp only[GW,mS,rJ,nD,mem_append] at hi |-
  rcases hi with z|z
  ·exact .inl (.inl z)
  ·exact .inr (.inl z)
 | false =>
  rw[if_neg Bool.false_ne_true,if_neg Bool.false_ne_true];refine ja (hb A0 h0 aa env h2 O s2) λf h' g r=>(r.pre s (p1.trans p2)).f9 λi hi=>?_;simp only[GW,mS,rJ,nD,mem_append] at hi |-
  rcases hi with z|z
  ·exact .inl (.inr z)
  ·exact .inr (.inr z)
noncomputable def yt(h:Hs)(O:Nat->Option Nat)(m:List Nat)(src:Src)(ws:List Val):Prop :=
 ∀h':Hs,(∀k,k<h.length->(∀i,O i≠some k)->h'[k]?=h[k]?)->(∀i,i∉m->∀a,O i=some a->h'[a]?=h[a]?)->src.items h'=some ws
theorem cF{i:Nat}(e:h[i]?=some (.lst ws)):(Src.live i).items h=some ws:=by simp[Src.items,aC,e]
theorem fK{i:Nat}(e:h[i]?=some (.lst ws)):(Src.enum i).items h=some (cN 0 ws):=by simp[Src.items,aC,e]
theorem wc{A0:AP}{h0:Hs}{m:List Nat}(hb:∀aa env h O x v,SR A0 h0 aa env h O->Dn (Al A0 O) h x v->iJ A0 h0 (RF A0 h0 m aa env h O) (body v env h) (bodyV x aa))
  {mz:aV} {gB:Env} {h1:Hs} {O1:Nat->Option Nat} (st:yt h1 O1 m src ws) :
  ∀(xs vs:List Val) (i:Nat) (aa:aV) (env:Env) (h:Hs) (O:Nat->Option Nat),SR A0 h0 aa env h O->Fm m mz gB h1 O1 aa env h O->ws.drop i=vs->ao (Al A0 O) h xs vs ->
   iJ A0 h0 (RF A0 h0 m mz gB h1 O1) (forM src body vs.length i env h) (jQ bodyV xs aa)
 | [],vs,i,aa,env,h,O,s,f,hd,q=>by
  rw[ao] at q;subst q;have hl:ws.length<=i:=List.drop_eq_nil_iff.mp hd;have hi:=st h (λk hk n=>(f.keep k hk n).1) (λj hj a e=>(f.stay j hj).2.2.2 a e);rw[jQ];refine⟨.nx env,h,?_,O,s,f⟩;show forM src body 0 i env h=_;simp only[forM];unfold bnd ask bh aE;dsimp only;rw[hi];dsimp only;rw[if_pos (decide_eq_true hl)];rfl
 | x::xs,vs,i,aa,env,h,O,s,f,hd,q=>by
  rw[ao] at q;obtain⟨v,r,rfl,q1,q2⟩:=q;have hv:ws[i]?=some v:=by have:=congrArg (λl=>l[0]?) hd;simpa using this
  have hr:ws.drop (i+1)=r:=by
   have:ws.drop (i+1)=(ws.drop i).drop 1:=by rw[drop_drop]
   rw[this,hd];rfl
  have hi:=st h (λk hk n=>(f.keep k hk n).1) (λj hj a e=>(f.stay j hj).2.2.2 a e);have ev:forM src body (v::r).length i env h=bnd (body v env) (λf=>match f with
   | .nx env'=>forM src body r.length (i+1) env'
   | .ct env'=>forM src body r.length (i+1) env'
   | .bk env'=>ret (.nx env')
   | .rt v=>ret (.rt v)) h:=by
   show forM src body (r.length+1) i env h=_;simp only[forM];unfold bnd ask bh;dsimp only;rw[hi];dsimp only;rw[hv];try rfl
  rw[ev,jQ];refine qu (hb aa env h O x v s q1) λfl h2 gl hr2=>?_;have go:∀ay env' O',SR A0 h0 ay env' h2 O'->Fm m aa env h O ay env' h2 O'->iJ A0 h0 (RF A0 h0 m mz gB h1 O1) (forM src body r.length (i+1) env' h2) (jQ bodyV xs ay):=λay env' O' s' f'=>by
   refine wc hb st xs r (i+1) ay env' h2 O' s' (f.trans f') hr (ao.move j9 (λk o hk g=>?_) _ _ q2);have hlt:k<h.length:=(List.getElem?_eq_some_iff.mp g).1;obtain⟨a1,a2⟩:=f'.keep k hlt λi=>hk.2 i rfl;exact⟨⟨hk.1,λi _=>a2 i⟩,a1.trans g⟩
  cases fl<;>cases gl<;>first|exact hr2.elim|skip
  ·obtain⟨O',s',f'⟩:=hr2;exact go _ _ O' s' f'
  ·exact bz hr2
  ·obtain⟨O',s',f'⟩:=hr2;exact bz ⟨O',s',f.trans f'⟩
  ·obtain⟨O',s',f'⟩:=hr2;exact go _ _ O' s' f'
theorem Dk{A0:AP}{m:List Nat}(q:Dn (Al A0 O) h d v)(e:gI k [d]=some xs):∃src ws,srcOf k [v]=some src/\ao (Al A0 O) h xs ws/\src.items h=some ws/\yt h O m src ws:=by
 have lst:∀es,d=.rl es->(∃ws,v=.rl ws/\ao (Al A0 O) h es ws)\/∃a ws,v=.ref a/\h[a]?=some (.lst ws)/\ao (Al A0 O) h es ws/\∀h':Hs,(∀k,k<h.length->(∀i,O i≠some k)->h'[k]?=h[k]?)->h'[a]?=some (Ob.lst ws):=by
  rintro es rfl;rw[Dn] at q
  rcases q with ⟨ws,rfl,_,q⟩|⟨a,ws,rfl,al,g,q⟩
  ·exact .inl ⟨ws,rfl,q⟩
  ·exact .inr ⟨a,ws,rfl,g,q,λh' hk=>(hk a (List.getElem?_eq_some_iff.mp g).1 λi=>al.2 i rfl).trans g⟩
 cases k with
 | seq =>
  cases d<;>first|(cases e;done)|skip
  ·cases e;rw[Dn] at q;obtain⟨ws,rfl,q⟩:=q;exact⟨.fix ws,ws,rfl,q,rfl,λ_ _ _=>rfl⟩
  ·cases e
   rcases lst _ rfl with ⟨ws,rfl,q'⟩|⟨a,ws,rfl,g,q',st⟩
   ·exact⟨.fix ws,ws,rfl,q',rfl,λ_ _ _=>rfl⟩
   ·exact⟨.live a,ws,rfl,q',cF g,λh' hk _=>cF (st h' hk)⟩
 | range =>
  cases d<;>first|(cases e;done)|skip
  rw[Dn] at q;subst q;rename_i n;change (if inR n=true then some (cy 0 n.toNat) else none)=some _ at e;split at e
  ·rename_i hn;cases e;exact⟨.fix _,_,if_pos hn,iY,rfl,λ_ _ _=>rfl⟩
  ·cases e
 | enum =>
  cases d<;>first|(cases e;done)|skip
  cases e
  rcases lst _ rfl with ⟨ws,rfl,q'⟩|⟨a,ws,rfl,g,q',st⟩
  ·exact⟨.fix _,_,rfl,gc 0 q',rfl,λ_ _ _=>rfl⟩
  ·exact⟨.enum a,_,rfl,gc 0 q',fK g,λh' hk _=>fK (st h' hk)⟩
 | zip=>cases e
theorem Dl{α β γ δ:Type}{R:α -> Hs -> β -> Prop}{R':γ -> Hs -> δ -> Prop}{m:M β}{f:β -> M δ}{p:Pr α}{F:α -> Pr γ}(r:Rel A h R (m h) p)(k:∀a h1 b,p=.ok a->h<+:h1->R a h1 b->Rel A h1 R' (f b h1) (F a)):Rel A h R' (bnd m f h) (pb p F):=by
 unfold bnd;cases p with
 | ok a =>
  obtain⟨b,h1,e,q,r⟩:=r;rw[e];show Rel A h R' (f b h1) (F a);have:=k a h1 b rfl q r;cases e2:F a with
  | ok c=>rw[e2] at this;obtain⟨d,h2,e3,q2,r2⟩:=this;exact⟨d,h2,e3,q.trans q2,r2⟩
  | exc c es=>rw[e2] at this;obtain⟨d,h2,e3,q2,r2⟩:=this;exact⟨d,h2,e3,q.trans q2,r2⟩
  | no=>trivial
 | exc c es =>obtain⟨ws,h1,e,q,r⟩:=r;rw[e];exact⟨ws,h1,rfl,q,r⟩
 | no=>trivial
theorem Dm{e e2:IE}(h:iG Ψ (.cons e (.cons e2 r)) aa=.ok ds):2<=ds.length:=by
 rw[iG,iG] at h;cases h1:(if isVar e=true then pl (gz aa e) else aZ Ψ e aa) with
 | ok a =>
  rw[h1] at h;cases h2:(if isVar e2=true then pl (gz aa e2) else aZ Ψ e2 aa) with
  | ok b =>
   rw[h2] at h;cases h3:iG Ψ r aa with
   | ok c=>rw[h3] at h;cases h;simp
   | exc _ _=>rw[h3] at h;cases h
   | no=>rw[h3] at h;cases h
  | exc _ _=>rw[h2] at h;cases h
  | no=>rw[h2] at h;cases h
 | exc _ _=>rw[h1] at h;cases h
 | no=>rw[h1] at h;cases h
theorem Dp{d1 d2:Val}(ex:gI k [d1,d2]=some xs):k=.range/\∃n m,d1=.int n/\d2=.int m/\(inR n&&inR m)=true/\xs=cy n (m-n).toNat:=by
 cases k with
 | seq=>cases d1<;>cases ex
 | enum=>cases d1<;>cases ex
 | zip=>cases ex
 | range =>
  cases d1<;>first|(cases ex;done)|skip
  cases d2<;>first|(cases ex;done)|skip
  rename_i n m;change (if (inR n&&inR m)=true then some (cy n (m-n).toNat) else none)=some xs at ex
  by_cases hn:(inR n&&inR m)=true
  ·rw[if_pos hn] at ex;cases ex;exact⟨rfl,n,m,rfl,rfl,hn,rfl⟩
  ·rw[if_neg hn] at ex;cases ex
theorem yu{d1 d2 d3:Val}:gI k (d1::d2::d3::r)=none:=by
 cases k with
 | seq=>cases d1<;>rfl
 | enum=>cases d1<;>rfl
 | zip=>rfl
 | range=>cases d1<;>first|rfl|(cases d2<;>rfl)
theorem Hf{A0:AP}{h0:Hs}{m:List Nat}(hΦ:∀j,Imp (Φ j) (Ψ j))(hi:mw it=true)(s:SR A0 h0 aa env h O)(hm:∀i,it=.cons (.var i) .nil->i∉m) :
  Rel (Al A0 O) h (λxs h' src=>∃ws,ao (Al A0 O) h' xs ws/\src.items h'=some ws/\yt h' O m src ws) (bnd (aW Φ it env) (λits=>bh (srcOf k its)) h) (pb (iG Ψ it aa) λits=>pl (gI k its)):=by
 have V:=v_all hΦ;cases it with
 | nil=>rw[iG];cases k<;>trivial
 | cons e es =>
  cases es with
  | nil =>
   replace hi:=eZ hi
   by_cases hv:isVar e=true
   ·cases e<;>first|(cases hv;done)|skip
    rename_i i;rw[iG,iG,if_pos hv];simp only[gz];cases hx:aa[i]? with
    | none=>trivial
    | some o =>
     cases o with
     | none=>trivial
     | some fd =>
      obtain⟨f,d⟩:=fd;show Rel _ _ _ _ (pl (gI k [d]));cases hf:sO f with
      | false =>
       have hf:f=.ow:=by cases f<;>first|rfl|cases hf
       subst hf;obtain⟨a,e2,e3,e4⟩:=s.ow i d hx;have ev:bnd (aW Φ (.cons (.var i) .nil) env) (λits=>bh (srcOf k its)) h=bh (srcOf k [.ref a]) h:=by rw[aW,aW,aN,aq (bR e2)];rfl
       rw[ev];refine bf λxs ex=>?_;have hd:∃ds,d=.rl ds:=by cases d<;>first|exact⟨_,rfl⟩|exact False.elim e4|(cases k<;>cases ex)
       obtain⟨ds,rfl⟩:=hd;obtain⟨vs,e4,e5⟩:=e4;have st:∀h':Hs,(∀i,i∉m->∀a,O i=some a->h'[a]?=h[a]?)->h'[a]?=some (Ob.lst vs):=λh' hs=>(hs i (hm i rfl) a e3).trans e4;cases k with
       | seq=>cases ex;exact⟨.live a,rfl,vs,e5,cF e4,λh' _ hs=>cF (st h' hs)⟩
       | range=>cases ex
       | enum=>cases ex;exact⟨.enum a,rfl,_,gc 0 e5,fK e4,λh' _ hs=>fK (st h' hs)⟩
       | zip=>cases ex
      | true =>
       obtain⟨v,e1,e2,_⟩:=s.sh i f d hx hf;have ev:bnd (aW Φ (.cons (.var i) .nil) env) (λits=>bh (srcOf k its)) h=bh (srcOf k [v]) h:=by rw[aW,aW,aN,aq (bR e1)];rfl
       rw[ev];refine bf λxs ex=>?_;obtain⟨src,ws,a1,a2,a3,a4⟩:=Dk (m:=m) e2 ex;exact⟨src,a1,ws,a2,a3,a4⟩
   ·rw[iG,iG,if_neg hv]
    have ev:bnd (aW Φ (.cons e .nil) env) (λits=>bh (srcOf k its)) h=bnd (aH Φ e env) (λv=>bh (srcOf k [v])) h:=by rw[aW,aW,aN];rfl
    rw[ev];have ep:(pb (pb (aZ Ψ e aa) λd=>pb (Pr.ok ([]:List Val)) λp=>Pr.ok (d.2::p)) λits=>pl (gI k its))=pb (aZ Ψ e aa) λd=>pl (gI k [d.2]):=by cases aZ Ψ e aa<;>rfl
    rw[ep];refine ah (V.1 e hi.1 aa env _ h s.yr s.er) λx h1 v p1 q1=>bf λxs ex=>?_;obtain⟨src,ws,a1,a2,a3,a4⟩:=Dk (m:=m) q1.1 ex;exact⟨src,a1,ws,a2,a3,a4⟩
  | cons e2 r =>
   have V2:=V.2 _ hi;refine Dl (V2.2 aa env _ h s.yr s.er) λds h1 vs eb p1 q1=>bf λxs ex=>?_;have hl:2<=ds.length:=Dm eb
   match ds,q1 with
   | [],q1=>cases k<;>cases ex
   | [d],q1=>simp at hl
   | [d1,d2],q1 =>obtain⟨v,rr,rfl,hv,hr⟩:=q1;obtain⟨w,rfl,hw⟩:=GL.one hr;obtain⟨rfl,n,m',rfl,rfl,hn,rfl⟩:=Dp ex;have:=hv.int;subst this;have:=hw.int;subst this;exact⟨.fix _,if_pos hn,_,iY,rfl,λ_ _ _=>rfl⟩
   | d1::d2::d3::dr,q1=>rw[yu] at ex;cases ex
theorem LK(hΦ:∀j,Imp (Φ j) (Ψ j))(hi:mw it=true)(hb:uv Φ Ψ ms body):zL Φ Ψ ms (.for p k it body):=λA0 h0 aa env h O s=>by
 rw[eX,cZ];refine jw λhg=>?_;rw[and_eq_true] at hg;have hm:∀i,it=.cons (.var i) .nil->i∉mS (.for p k it body):=by
  rintro i rfl z;simp only[CY,and_eq_true,not_eq_true',List.contains_eq_mem,decide_eq_false_iff_not] at hg;simp only[mS,rJ,nD,mem_append] at z
  rcases z with z|z|z
  ·exact hg.1.1.1 z
  ·exact hg.1.2 z
  ·exact hg.1.1.2 z
 have ev:∀(F:Src->M Fl),bnd (aW Φ it env) (λits=>bnd (bh (srcOf k its)) F) h=bnd (bnd (aW Φ it env) λits=>bh (srcOf k its)) F h:=λF=>by rw[aN]
 have ep:∀(F:List Val->Pr yo),pb (iG Ψ it aa) (λits=>pb (pl (gI k its)) F)=pb (pb (iG Ψ it aa) λits=>pl (gI k its)) F:=λF=>by cases iG Ψ it aa<;>rfl
 rw[ev,ep];refine bg s (Hf (m:=mS (.for p k it body)) hΦ hi s hm) λxs h1 src p1 hx=>?_;obtain⟨ws,q1,q2,st⟩:=hx;have s1:=s.ext p1;have l:=q1.length;have SQ:∀(F:List Val->M Fl),bnd (ask λh=>src.items h) F h1=F ws h1:=λF=>by unfold bnd ask bh;dsimp only;rw[q2]
 rw[SQ];refine ja (wc (m:=mS (.for p k it body)) (λay env' h' O' x v s' qx=>?_) st xs ws 0 aa env h1 O s1 (Fm.refl s1 (prefix_refl _)) rfl q1) λf h' g r=>r.pre s p1;refine bg s' (R:=λiZ h2 iF=>∃O2,SR A0 h0 iZ iF h2 O2/\Fm (stored p) ay env' h' O' iZ iF h2 O2) (bf λiZ e2=>?_) λiZ h2 iF p2 hh=>?_
 ·obtain⟨iF,O2,b1,b2,b3⟩:=s'.bind e2 qx;exact⟨iF,b1,O2,b2,b3⟩
 ·obtain⟨O2,b2,b3⟩:=hh
  refine ja (hb A0 h0 iZ iF h2 O2 b2) λf h'' g r=>RF.seq (b3.f9 λi hi=>?_) (r.f9 λi hi=>?_)
  ·simp only[mS,rJ,nD,mem_append];exact .inr (.inl hi)
  ·simp only[GW,mS,rJ,nD,mem_append] at hi |-
   rcases hi with z|z
   ·exact .inl z
   ·exact .inr (.inr z)
theorem LL{n:Nat}(hΦ:∀j,Imp (Φ j) (Ψ j))(hc:dN c=true)(hb:uv Φ Ψ ms body):zL Φ Ψ ms (.whl n c body):=λA0 h0 aa env h O s=>by rw[cZ];trivial
theorem IF:sO (WE m)=true:=by cases m<;>rfl
theorem SR.fr{A0:AP}{h0:Hs}(s:SR A0 h0 aa env h O):ER A0 (iR aa) env h:=λi f d e=>by
 unfold iR at e;rw[getElem?_map] at e;cases hx:aa[i]? with
 | none=>rw[hx] at e;cases e
 | some o =>
  rw[hx] at e;cases o with
  | none=>cases e
  | some fd =>
   obtain⟨m,d'⟩:=fd;cases e;rw[if_neg (by rw[IF];decide)];cases hm:sO m with
   | false =>
    have hm:m=.ow:=by cases m<;>first|rfl|cases hm
    subst hm;obtain⟨a,e2,e3,e4⟩:=s.ow i d hx;exact⟨_,e2,(e4.mono (A':=A0) (λ_ g=>g) λ_ _ z=>z.f9 λ_ y=>y.1).dn (s.up a (s.own i a e3).1)⟩
   | true =>obtain⟨v,e1,e2,_⟩:=s.sh i m d hx hm;exact⟨v,e1,e2.f9 λ_ z=>z.1⟩
theorem sQ{A0:AP}{h0:Hs}{α β γ δ:Type}{R:α -> Hs -> β -> Prop}{R':γ -> Hs -> δ -> Prop}{mm:M β}{f:β -> M δ}{p:Pr α}{F:α -> Pr γ}(s:SR A0 h0 aa env h O)(r:Rel A0 h R (mm h) p)(k:∀a h1 b,h<+:h1->R a h1 b->iJ A0 h0 R' (f b h1) (F a)):iJ A0 h0 R' (bnd mm f h) (pb p F):=by
 unfold bnd;cases p with
 | ok a=>obtain⟨b,h1,e,q,r⟩:=r;rw[e];exact k a h1 b q r
 | exc c es=>obtain⟨ws,h1,e,q,r⟩:=r;rw[e];exact⟨ws,h1,rfl,s.pre.trans q,r⟩
 | no=>trivial
theorem LM(hΦ:∀j,Imp (Φ j) (Ψ j))(ho:dN e=true):zL Φ Ψ ms (.ret e):=λA0 h0 aa env h O s=>by
 have V:=(v_all hΦ).1 e ho;have gen:QY Ψ e aa=aZ Ψ e aa->iJ A0 h0 (RF A0 h0 (mS (.ret e)) aa env h O) (eX Φ (.ret e) env h) (cZ Ψ ms (.ret e) aa):=λhe=>by
  rw[eX,cZ,he];exact bg s (V aa env _ h s.yr s.er) λx h1 v p1 q1=>bz ⟨q1.1.f9 λ_ z=>z.1,λf=>(q1.2 f).f9 (Fr.le s.pre.length_le),s.pre.trans p1⟩
 cases e with
 | var i =>
  rw[eX,cZ];simp only[QY];cases hx:aa[i]? with
  | none=>trivial
  | some o =>
   cases o with
   | none=>trivial
   | some fd =>
    obtain⟨f,d⟩:=fd;cases hf:sO f with
    | false =>
     have hf:f=.ow:=by cases f<;>first|rfl|cases hf
     subst hf;obtain⟨a,e2,e3,e4⟩:=s.ow i d hx;rw[aq (bR e2)];have ha:=s.own i a e3;cases d<;>first|exact False.elim e4|skip
     ·refine⟨_,h,rfl,?_,λhi=>?_,s.pre⟩
      ·exact(e4.mono (A':=A0) (λ_ g=>g) λ_ _ z=>z.f9 λ_ y=>y.1).dn (s.up a ha.1)
      ·obtain⟨vs,e4,e5⟩:=e4;show Dn _ h (.rl _) (.ref a);rw[Dn];exact .inr ⟨a,vs,rfl,ha.1,e4,gb e5 hi⟩
     ·refine⟨_,h,rfl,?_,λhi=>?_,s.pre⟩
      ·exact(e4.mono (A':=A0) (λ_ g=>g) λ_ _ z=>z.f9 λ_ y=>y.1).dn (s.up a ha.1)
      ·obtain⟨kvs,e4,ek,e5⟩:=e4;show Dn _ h (.dc _ _) (.ref a);rw[Dn];exact⟨a,kvs,rfl,ha.1,e4,ek,gb e5 hi⟩
    | true =>
     obtain⟨v,e1,e2,e3⟩:=s.sh i f d hx hf;rw[aq (bR e1)];dsimp only;rw[if_pos hf];refine⟨_,h,rfl,e2.f9 λ_ z=>z.1,λhi=>?_,s.pre⟩
     rcases(or_eq_true _ _).mp hi with hi|hi
     ·exact(iH d v hi).mpr ((iH d v hi).mp e2)
     ·exact(e3 hi).f9 λ_ z=>z.1
 | call j es =>rw[eX,cZ];exact sQ s (V (iR aa) env A0 h (s.up.ext s.pre) s.fr) λx h1 v p1 q1=>bz ⟨q1.1,λf=>(q1.2 f).f9 (Fr.le s.pre.length_le),s.pre.trans p1⟩
 | tup es =>rw[eX,cZ];exact sQ s (V (iR aa) env A0 h (s.up.ext s.pre) s.fr) λx h1 v p1 q1=>bz ⟨q1.1,λf=>(q1.2 f).f9 (Fr.le s.pre.length_le),s.pre.trans p1⟩
 | _=>exact gen rfl
theorem LN:uv Φ Ψ ms .nil:=λA0 h0 aa env h O s=>by rw[dP,kZ];exact bz ⟨O,s,Fm.refl s (prefix_refl _)⟩
theorem Hg(ha:zL Φ Ψ ms a)(hr:uv Φ Ψ ms r):uv Φ Ψ ms (.cons a r):=λA0 h0 aa env h O s=>by
 rw[dP,kZ];have w1:∀i∈mS a,i∈GW (.cons a r):=λi hi=>by
  simp only[mS,GW,iW,kY,mem_append] at hi |-
  rcases hi with z|z
  ·exact .inl (.inl z)
  ·exact .inr (.inl z)
 have w2:∀i∈GW r,i∈GW (.cons a r):=λi hi=>by
  simp only[GW,iW,kY,mem_append] at hi |-
  rcases hi with z|z
  ·exact .inl (.inr z)
  ·exact .inr (.inr z)
 refine qu (ha A0 h0 aa env h O s) λf h1 g rr=>?_;have rr:=rr.f9 w1;cases f<;>cases g<;>first|exact rr.elim|skip
 ·obtain⟨O',s',f'⟩:=rr;exact ja (hr A0 h0 _ _ h1 O' s') λf h' g r'=>RF.seq f' (r'.f9 w2)
 ·exact bz rr
 ·exact bz rr
 ·exact bz rr
theorem O3(hΦ:∀j,Imp (Φ j) (Ψ j)):∀ss,qv ss=true->uv Φ Ψ ms ss:=by
 intro ss;refine eW.rec (motive_1:=λs=>SO s=true->zL Φ Ψ ms s) (motive_2:=λss=>qv ss=true->uv Φ Ψ ms ss) ?_ ?_ ?_ ?_ ?_ ?_ ?_ ?_ ?_ ?_ ?_ ?_ ?_ ?_ ?_ ?_ ss
 ·exact λe f=>GX hΦ f
 ·exact λp e f=>LH hΦ f
 ·exact λi o e f=>LI hΦ f
 ·intro o i v f;have f:=qq f;exact GZ hΦ f.1.1 f.1.2 f.2
 ·intro c a b ia ib f;have f:=qq f;exact LJ hΦ f.1.1 (ia f.1.2) (ib f.2)
 ·intro p k it b ib f;have f:=eZ f;exact LK hΦ f.1 (ib f.2)
 ·intro n c b ib f;have f:=eZ f;exact LL hΦ f.1 (ib f.2)
 ·exact λe f=>LM hΦ f
 ·exact λ_ A0 h0 aa env h O s=>by rw[eX,cZ];exact bz ⟨by rw[Dn],λ_=>by rw[Dn],s.pre⟩
 ·exact λ_ A0 h0 aa env h O s=>by rw[eX,cZ];exact bz ⟨O,s,Fm.refl s (prefix_refl _)⟩
 ·exact λ_ A0 h0 aa env h O s=>by rw[eX,cZ];exact bz ⟨O,s,Fm.refl s (prefix_refl _)⟩
 ·exact λ_ A0 h0 aa env h O s=>by rw[eX,cZ];exact bz ⟨O,s,Fm.refl s (prefix_refl _)⟩
 ·exact λ_ A0 h0 aa env h O s=>by rw[cZ];trivial
 ·exact λ_ _ _ _ _ A0 h0 aa env h O s=>by rw[cZ];trivial
 ·exact λ_=>LN
 ·intro a r ia ir f;have f:=eZ f;exact Hg (ia f.1) (ir f.2)
theorem O4{n:Nat}(u:Up A h)(q:ao A h ds vs):SR A h (ds.map (λd=>some (.sh,d))++replicate (n-ds.length) none) (vs.map some++replicate (n-vs.length) none) h (λ_=>none):=by
 have l:=q.length;have al:∀k,A k->Al A (λ_=>none) k:=λk hk=>⟨hk,λi z e=>by subst e;cases z⟩;have get:∀(i:Nat) (f:Mk) (d:Val),(ds.map (λd=>some (.sh,d))++replicate (n-ds.length) none:aV)[i]?=some (some (f,d))->f=.sh/\ds[i]?=some d:=λi f d e=>by
  by_cases hi:i<ds.length
  ·rw[getElem?_append_left (by simpa using hi),getElem?_map] at e
   cases ei:ds[i]? with
   | none=>rw[ei] at e;cases e
   | some d'=>rw[ei] at e;cases e;exact⟨rfl,rfl⟩
  ·rw[getElem?_append_right (by simp;omega)] at e;have:=mem_of_getElem? e;rw[mem_replicate] at this;exact absurd this.2 (by simp)
 refine⟨by simp[l],λi m d e hm=>?_,λi d e=>?_,(λi a e=>nomatch e),(λi j a e=>nomatch e),prefix_refl _,u⟩
 ·obtain⟨hm',e⟩:=get i m d e;obtain⟨v,k1,k2⟩:=q.get e;have hi:i<vs.length:=(List.getElem?_eq_some_iff.mp k1).1;exact⟨v,by rw[getElem?_append_left (by simpa using hi),getElem?_map,k1];rfl,k2.f9 al,λz=>by subst hm';cases z⟩
 ·obtain⟨z,_⟩:=get i .ow d e;cases z
theorem cj{n:Nat}(hΦ:∀j,Imp (Φ j) (Ψ j))(ho:qv body=true):Imp (gU Φ n body) (gA Ψ n body):=λA h ds vs u q=>by
 have l:=q.length;have s:=O4 (n:=n) u q;unfold gU gA;have r:=qu (R':=λx h' v=>h<+:h'/\RV A h x h' v) (O3 (ms:=iW body) hΦ body ho A h _ _ h _ s) (f:=λf=>match f with
  | .nx _=>ret .non
  | .rt v=>ret v
  | _=>bh none) (F:=λf=>match f with
  | .nx _=>.ok (true,.non)
  | .rt p=>.ok p
  | _=>.no) λf h1 g rr=>by
   cases f<;>cases g<;>first|exact rr.elim|skip
   ·obtain⟨O',s',_⟩:=rr;exact bz ⟨s'.pre,by show Dn _ _ Val.non _;rw[Dn],λ_=>by show Dn _ _ Val.non _;rw[Dn]⟩
   ·exact bz ⟨rr.2.2,rr.1,rr.2.1⟩
   ·trivial
   ·trivial
 revert r;generalize (pb (kZ Ψ (iW body) body (ds.map (λd=>some (.sh,d))++replicate (n-ds.length) none)) _)=p;intro r;cases p with
 | ok x=>obtain⟨v,h',e,a,b⟩:=r;exact⟨v,h',e,a,b⟩
 | exc c es=>exact r
 | no=>trivial
end
end Hv
end
section
namespace Hv
open PySem L2
noncomputable abbrev bw:=List Val->Pr FV
noncomputable def ak(gs:List bw)(j:Nat):bw:=match gs[j]? with
 | some g=>g
 | none=>λ_=>.no
noncomputable def eE(fs:List Row)(gs:List bw):Prop:=fs.length=gs.length/\∀(j:Nat) (r:Row) (g:bw),fs[j]?=some r->gs[j]?=some g->Imp r.2.2 g
theorem Dq:eE [] []:=⟨rfl,λj r g e=>by simp at e⟩
theorem aD(a:eE fs gs)(j:Nat):Imp (look fs j) (ak gs j):=by
 unfold look ak;cases e:fs[j]? with
 | none =>
  have:gs[j]?=none:=by have:=List.getElem?_eq_none_iff.mp e;exact List.getElem?_eq_none_iff.mpr (by rw[<-a.1];exact this)
  rw[this];exact λ_ _ _ _ _ _=>trivial
 | some r =>
  cases e2:gs[j]? with
  | none=>exact λ_ _ _ _ _ _=>trivial
  | some g=>exact a.2 j r g e e2
theorem aG{k:Nat}(a:eE fs gs)(i:Imp f g):eE (fs++[(x,k,f)]) (gs++[g]):=by
 refine⟨by simp[a.1],λj r g' e1 e2=>?_⟩
 by_cases hj:j<fs.length
 ·rw[getElem?_append_left hj] at e1;rw[getElem?_append_left (by rw[<-a.1];exact hj)] at e2;exact a.2 j r g' e1 e2
 ·rw[getElem?_append_right (by omega)] at e1
  rw[getElem?_append_right (by rw[<-a.1];omega)] at e2;have hj0:j-fs.length=0:=by have:=(List.getElem?_eq_some_iff.mp e1).1;simp at this;omega
  rw[<-a.1] at e2;rw[hj0] at e1 e2;simp at e1 e2;subst e1;subst e2;exact i
end Hv
end
section
namespace Hv
open PySem L2
section
variable {α β γ:Type}
theorem fc(a:α)(f:α -> Pr β):pb (.ok a) f=f a:=rfl
theorem LO(c:Prop)[Decidable c](m n:Pr α)(f:α -> Pr β):pb (if c then m else n) f=if c then pb m f else pb n f:=by split<;>rfl
theorem mC(m:Pr α)(f:α -> Pr β)(g:β -> Pr γ):pb (pb m f) g=pb m λx=>pb (f x) g:=by cases m<;>rfl
theorem jy(a:α):pl (some a)=.ok a:=rfl
theorem Hh(m:Pr α):pg true m=m:=rfl
theorem LP(c:Prop)[Decidable c](m:Pr α):pg (decide c) m=if c then m else .no:=by unfold pg;simp
theorem uw{c:Bool}(h:c=true)(m:Pr α):pg c m=m:=by rw[h];rfl
end
theorem IG{f:Bool}:sO (lZ f d)=true:=by unfold lZ;split<;>rfl
theorem O5:sO .sh=true:=rfl
theorem O6:sO .nw=true:=rfl
theorem O7:sO .ow=false:=rfl
theorem O8:MV .sh=false:=rfl
theorem O9:MV .nw=true:=rfl
theorem LQ{f:Bool}{i:Int}:lZ f (.int i)=.sh:=by cases f<;>rfl
theorem Pa{f:Bool}{i:Bool}:lZ f (.bl i)=.sh:=by cases f<;>rfl
theorem LR{f:Bool}:lZ f (.str i)=.sh:=by cases f<;>rfl
theorem LS{f:Bool}:lZ f .non=.sh:=by cases f<;>rfl
theorem SS:lZ false d=.sh:=rfl
theorem Pb:lZ true (.rl ds)=.nw:=rfl
theorem Pc:lZ true (.dc ks ds)=.nw:=rfl
section
variable {a b:Int} {x y:Str} {t:Bool} {vs ws:List Val} {v:Val}
theorem Pd:j6 .add (.int a) (.int b)=.ok (true,.int (a+b)):=rfl
theorem Pe:j6 .sub (.int a) (.int b)=.ok (true,.int (a-b)):=rfl
theorem II(h:jX a b=true):j6 .mul (.int a) (.int b)=.ok (true,.int (a*b)):=by simp only[j6];exact uw h _
theorem iK(h:iU b=true):j6 .fdiv (.int a) (.int b)=.ok (true,.int (a/b)):=by simp only[j6];exact uw h _
theorem jb(h:decide (0<b)=true):j6 .mod (.int a) (.int b)=.ok (true,.int (a%b)):=by simp only[j6];exact uw h _
theorem IJ(h:decide (0<=b/\b<=1000000/\a.natAbs<2 ^ 64)=true):j6 .pow (.int a) (.int b)=.ok (true,.int (a ^ b.toNat)):=by simp only[j6];exact uw h _
theorem SV:cop [] .lt (.int a) (.int b)=some (decide (a<b)):=rfl
theorem SW:cop [] .le (.int a) (.int b)=some (decide (a<=b)):=rfl
theorem SX:cop [] .gt (.int a) (.int b)=some (decide (b<a)):=rfl
theorem SY:cop [] .ge (.int a) (.int b)=some (decide (b<=a)):=rfl
theorem S0:cop [] .eq (.int a) (.int b)=some (decide (a=b)):=by
 show some (a==b)=_
 congr 1
theorem S4:cop [] .ne (.int a) (.int b)=some (!decide (a=b)):=by
 show some (!(a==b))=_
 congr 1
theorem Pf:cop [] .isn v .non=some (pV v):=by cases v<;>rfl
theorem Pg:cop [] .ntn v .non=some (!pV v):=by cases v<;>rfl
theorem IK:dj [] (.bl t)=some t:=rfl
theorem Ph:dj [] (.int a)=some (a != 0):=rfl
theorem Pj:dj [] (.rl vs)=some (!vs.isEmpty):=rfl
theorem Pk:dj [] (.tup vs)=some (!vs.isEmpty):=rfl
theorem Pn:gp .len [.rl vs]=.ok (true,.int vs.length):=rfl
theorem Po:gp .len [.tup vs]=.ok (true,.int vs.length):=rfl
theorem Pp:gp .min [.int a,.int b]=.ok (true,.int (if b<a then b else a)):=rfl
theorem Pq:gp .max [.int a,.int b]=.ok (true,.int (if b>a then b else a)):=rfl
theorem LU:gp .min [.tup [.int a,.int b]]=.ok (true,.int (min a b)):=rfl
theorem LV:gp .max [.tup [.int a,.int b]]=.ok (true,.int (max a b)):=rfl
theorem LW:gp .list [.rl vs]=.ok (bJ vs,.rl vs):=rfl
theorem LX:gp .list [.tup vs]=.ok (bJ vs,.rl vs):=rfl
theorem Pu:gp .int [.bl t]=.ok (true,.int (if t=true then 1 else 0)):=rfl
theorem qw(h:jV vs a=some v):nh [] (.rl vs) (.int a)=some v:=h
theorem mD(h:jV vs a=some v):nh [] (.tup vs) (.int a)=some v:=h
end
theorem Dr:jV (v::vs) (0:Int)=some v:=by
 have:=oQ (xs:=v::vs) (j:=0) (v:=v) rfl;exact this
theorem Bk:jV (u::v::vs) (1:Int)=some v:=by
 have:=oQ (xs:=u::v::vs) (j:=1) (v:=v) rfl;exact this
theorem nE{T:String}{t:String}(h1:vG [] v=some t)(h2:vH T t=some true):gp (.isin T) [v]=.ok (true,.bl true):=by
 show pb (pl (vG [] v)) _=_;rw[h1,jy,fc,h2];rfl
theorem yv{T:String}{t:String}(h1:vG [] v=some t)(h2:vH T t=some false):gp (.isin T) [v]=.ok (true,.bl false):=by
 show pb (pl (vG [] v)) _=_;rw[h1,jy,fc,h2];rfl
theorem ne_self(h:toD 16 [] d=some p)(hp:p.canLay0=true):cop [] .ne d d=some false:=by
 simp only[cop,BA,h,bind_some];rw[SeqAt.eqv_refl p hp];rfl
end Hv
end
section
namespace Hv
open PySem L2
theorem gg:gI .seq [.rl vs]=some vs:=rfl
theorem LY:CW .seq ds=gI .seq ds:=rfl
theorem LZ:CW .range ds=gI .range ds:=rfl
theorem Ma:CW .enum ds=gI .enum ds:=rfl
theorem Pw:gI .enum [.rl vs]=some (cN 0 vs):=rfl
theorem IL{lo hi:Option Int}:Bf (.rl vs) lo hi=.ok (bJ (dm vs lo hi),.rl (dm vs lo hi)):=rfl
theorem bM{i:Nat}:cO (.one i) d env=some (env.set i (some (.sh,d))):=rfl
theorem Mb{i j:Nat}:cO (.tup [i,j]) (.tup [d,e]) env=some ((env.set i (some (.sh,d))).set j (some (.sh,e))):=rfl
theorem we{α β:Type}(f:α -> β)(ds:List α)(lo hi:Option Int):dm (ds.map f) lo hi=(dm ds lo hi).map f:=by
 unfold dm;simp only[length_map,List.map_take,List.map_drop]
theorem Ds{α:Type}(ds:List α)(lo hi:Option Int):(dm ds lo hi).length<=ds.length:=by
 unfold dm;simp only[length_take,length_drop];omega
theorem kN:∀(i:Nat) (ds:List Val),(cN i ds).length=ds.length
 | _,[]=>rfl
 | i,d::r=>by rw[cN,length_cons,kN (i+1) r,length_cons]
theorem kg{α β γ:Type}{f:β -> Option γ}{g:α -> β}{k:α -> γ}:∀(xs:List α),(∀x∈xs,f (g x)=some (k x))->cg f (xs.map g)=some (xs.map k)
 | [],_=>rfl
 | x::r,h=>by
  rw[map_cons,cg,h x mem_cons_self,kg r λy hy=>h y (mem_cons_of_mem _ hy)];rfl
theorem ints_map(xs:List Int):aT (xs.map .int)=some xs:=by
 have:=kg (f:=λv=>match v with|.int i=>some i|_=>none) (g:=Val.int) (k:=id) xs λ_ _=>rfl;rw[map_id] at this;exact this
theorem yw(oR:List (List Int))(h:∀k∈oR,k≠[])(hl:oR.length<64):fD (oR.map lR)=some ((lQ oR).map lR):=by
 unfold fD;rw[if_pos (by rw[length_map];exact hl)];cases oR with
 | nil=>rfl
 | cons k r =>
  have e:aT (List.map lR (k::r))=none:=by unfold aT ;rw[map_cons,cg];rfl
  rw[e];have e2:kX (List.map lR (k::r))=some (k::r):=by
   have:=kg (f:=λv=>match v with|.tup vs=>if vs.isEmpty then none else aT vs|_=>none) (g:=lR) (k:=id) (k::r) λx hx=>by
    have hx:=h x hx;show (if (x.map Val.int).isEmpty=true then none else aT (x.map .int))=some x;rw[if_neg (by simpa using hx),ints_map]
   rw[map_id] at this;exact this
  show (kX (List.map lR (k::r))).bind _=_;rw[e2];rfl
theorem yx{α:Type}(xs:List α):fH (xs.map λ_=>Val.bl true)=some (xs.map λ_=>true):=kg (g:=λ_=>Val.bl true) (k:=λ_=>true) xs λ_ _=>rfl
theorem all_true{α:Type}(xs:List α):gp .all [.rl (xs.map λ_=>Val.bl true)]=.ok (true,.bl true):=by
 show pb (pl (fH _)) _=_;rw[yx,jy,fc]
 congr 3
 simp
theorem Dt{α:Type}{n:Nat}(f:α -> Val)(g:α -> PyData)(xs:List α)(e:∀x∈xs,toD n h (f x)=some (g x)):toD (n+1) h (.rl (xs.map f))=some (.list (xs.map g)):=by
 show (cg (toD n h) _).bind _=_;rw[kg xs e];rfl
theorem qy{α:Type}(g:α -> PyData):∀(xs:List α),(∀x∈xs,(g x).canLay0=true)->PyData.canLayAll0 (xs.map g)=true
 | [],_=>by simp[PyData.canLayAll0]
 | x::r,h=>by
  rw[map_cons,PyData.canLayAll0,h x mem_cons_self,qy g r λy hy=>h y (mem_cons_of_mem _ hy)];rfl
end Hv
end
section
namespace Hv
open PySem L2
theorem sS{α:Type}(enc:α -> Val)(Q:List α -> aV->Prop):∀(us done:List α) (env:aV),Q done env->(∀(pre:List α) (u:α) (post:List α) (env:aV),done++us=pre++u::post->Q pre env->∃env',body (enc u) env=.ok (.nx env')/\Q (pre++[u]) env')->∃env',jQ body (us.map enc) env=.ok (.nx env')/\Q (done++us) env'
 | [],done,env,q,_=>⟨env,rfl,by rw[append_nil];exact q⟩
 | x::xs,done,env,q,h=>by
  obtain⟨env',e,q'⟩:=h done x xs env rfl q;have eq:done++x::xs=done++[x]++xs:=by simp
  obtain⟨iF,e2,q2⟩:=sS enc Q xs (done++[x]) env' q' (by rw[<-eq];exact h);refine⟨iF,?_,by rw[eq];exact q2⟩;rw[map_cons,jQ,e,fc];exact e2
theorem bV{α:Type}(enc:α -> Val){us:List α}{oz:aV}{β:Type}{k:yo->Pr β}(G:Pr β -> Prop)(Q:List α -> aV->Prop)(h0:Q [] oz)
  (step:∀(pre:List α) (u:α) (post:List α) (env:aV),us=pre++u::post->Q pre env->∃env',body (enc u) env=.ok (.nx env')/\Q (pre++[u]) env')
  (post:∀env',Q us env'->G (k (.nx env'))):G (pb (jQ body (us.map enc) oz) k):=by
 obtain⟨env',e,q⟩:=sS enc Q us [] oz h0 (λpre x post env ep q=>step pre x post env ep q);rw[e,fc];exact post env' q
theorem fL:∀{l m:List Int},l.Nodup->(∀x∈l,x∈m)->l.length<=m.length
 | [],_,_,_=>zero_le _
 | x::r,m,h,hs=>by
  rw[nodup_cons] at h;have hx:x∈m:=hs x mem_cons_self;have:=fL (m:=m.erase x) h.2 λy hy=>(List.mem_erase_of_ne (λe:y=x=>h.1 (e▸hy))).mpr (hs y (mem_cons_of_mem _ hy));rw[List.length_erase_of_mem hx] at this;have:=List.length_pos_of_mem hx;rw[length_cons];omega
noncomputable abbrev k7(xs:List Int)(g:Int->Val):Val:=.dc (xs.map Sum.inl) (xs.map g)
noncomputable def nF(g:Int->Val)(x:Int)(v:Val):Int->Val:=λy=>if y=x then v else g y
theorem ux(xs:List Int)(g:Int->Val):(xs.map (Sum.inl:Int->Key)).zip (xs.map g)=xs.map λx=>((Sum.inl x:Key),g x):=by
 induction xs with
 | nil=>rfl
 | cons x r ih=>simp only[map_cons,zip_cons_cons,ih]
theorem nG{xs:List Int}{x:Int}(h:x∈xs):nh [] (k7 xs g) (.int x)=some (g x):=by
 show bW _ _=_;rw[ux];unfold bW
 induction xs with
 | nil=>simp at h
 | cons y r ih =>
  rw[map_cons,find?_cons]
  by_cases e:y=x
  ·subst e;simp
  ·have:((Sum.inl y:Key)=Sum.inl x)=False:=by simp[e]
   simp only[this,decide_false];exact ih (by rcases mem_cons.mp h with h|h;exact absurd h.symm e;exact h)
theorem yy(xs:List Int)(g:Int->Val)(x:Int):((xs.map λx=>((Sum.inl x:Key),g x)).any λkv=>decide (kv.1=Sum.inl x))=decide (x∈xs):=by
 induction xs with
 | nil=>rfl
 | cons y r ih =>
  rw[map_cons,any_cons,ih]
  by_cases e:y=x
  ·subst e;simp
  ·have e':¬ x=y:=λh=>e h.symm;simp[e,e']
theorem uy{xs:List Int}{x:Int}(h:x∈xs):putD (xs.map Sum.inl) (xs.map g) (.inl x) v=k7 xs (nF g x v):=by
 unfold putD gG;rw[ux,yy,if_pos (by simpa using h)];unfold k7;rw[map_map,map_map]
 congr 1
 ·refine map_congr_left λy _=>?_
  show ((if (Sum.inl y:Key)=Sum.inl x then ((Sum.inl y:Key),v) else (Sum.inl y,g y)).1)=_
  split<;>rfl
 ·rw[map_map,map_map]
  refine map_congr_left λy _=>?_;show ((if (Sum.inl y:Key)=Sum.inl x then ((Sum.inl y:Key),v) else (Sum.inl y,g y)).2)=_;unfold nF
  by_cases e:y=x
  ·rw[if_pos (by rw[e]),if_pos e]
  ·rw[if_neg (by simpa using e),if_neg e]
theorem uz{xs:List Int}{x:Int}(h:x∉xs):putD (xs.map Sum.inl) (xs.map g) (.inl x) v=k7 (xs++[x]) (nF g x v):=by
 unfold putD gG;rw[ux,yy,if_neg (by simpa using h)];unfold k7;simp only[map_append,map_map,map_cons,map_nil]
 congr 1
 congr 1
 ·refine map_congr_left λy hy=>?_;show g y=nF g x v y;unfold nF;rw[if_neg (λe:y=x=>h (e▸hy))]
 ·simp[nF]
theorem cL{xs:List Int}(h:∀x∈xs,g x=g' x):k7 xs g=k7 xs g':=by
 unfold k7;rw[map_congr_left h]
theorem qz{x:Int}:keyOf (.int x)=some (.inl x):=rfl
theorem Hi(a b:Int):PyData.eqv (.int a) (.int b)=decide (a=b):=by
 show (a==b)=_
 by_cases h:a=b<;>simp[h]
theorem wg{xs:List Int}{x:Int}:cop [] .vD (.int x) (.rl (xs.map .int))=some (decide (x∈xs)):=by
 show (toD 16 [] (.rl (xs.map .int))).bind _=_;rw[Dt Val.int PyData.int xs λ_ _=>rfl];show some ((xs.map PyData.int).any λy=>PyData.eqv y (.int x))=_
 congr 1
 induction xs with
 | nil=>rfl
 | cons y r ih =>
  rw[map_cons,any_cons,ih,Hi]
  by_cases e:y=x
  ·subst e;simp
  ·have e':¬ x=y:=λh=>e h.symm;simp[e,e']
theorem Mc{xs:List Int}{x:Int}:cop [] .nin (.int x) (.rl (xs.map .int))=some (!decide (x∈xs)):=by
 show (cop [] .vD (.int x) (.rl (xs.map .int))).map _=_;rw[wg];rfl
theorem S5{a b:Bool}:cop [] .ne (.bl a) (.bl b)=some (a != b):=by cases a<;>cases b<;>rfl
theorem qA(x:Int):∀(ns ks:List Int),x∈dZ ks ns↔x∈ks\/x∈ns
 | [],ks=>by simp[dZ]
 | k::r,ks=>by
  rw[dZ,qA x r,eV]
  split
  ·rename_i h
   constructor
   ·rintro(h'|h')
    ·exact .inl h'
    ·exact .inr (mem_cons_of_mem _ h')
   ·rintro(h'|h')
    ·exact .inl h'
    ·rcases mem_cons.mp h' with h'|h'
     ·exact .inl (h'▸h)
     ·exact .inr h'
  ·simp[or_assoc]
theorem fM:∀(ns ks:List Int),ks.Nodup->(dZ ks ns).Nodup
 | [],ks,h=>h
 | k::r,ks,h=>by
  rw[dZ];refine fM r _ ?_;rw[eV]
  split
  ·exact h
  ·rename_i hk;rw[nodup_append];exact⟨h,by simp,λa ha b hb=>by simp at hb;subst hb;exact λe=>hk (e▸ha)⟩
noncomputable def eB(ns:List Int):List Int:=PySem.W.sortI (dZ [] ns)
theorem Du(x:Int)(ns:List Int):x∈eB ns↔x∈ns:=by
 unfold eB;rw[(sortI_perm _).mem_iff,qA];simp
theorem jz(ns:List Int):(eB ns).Nodup:=by
 unfold eB;rw[(sortI_perm _).nodup_iff];exact fM ns [] nodup_nil
inductive Way (es:List (Int×Int)):Int->Int->Prop
 | refl (a:Int):Way es a a
 | fwd {a b c:Int}:Way es a b->(b,c)∈es->Way es a c
 | bwd {a b c:Int}:Way es a b->(c,b)∈es->Way es a c
theorem Way.trans{a b c:Int}(h:Way es a b)(k:Way es b c):Way es a c:=by
 induction k with
 | refl=>exact h
 | fwd _ m ih=>exact .fwd ih m
 | bwd _ m ih=>exact .bwd ih m
theorem Way.symm{a b:Int}(h:Way es a b):Way es b a:=by
 induction h with
 | refl=>exact .refl _
 | fwd _ m ih=>exact(Way.bwd (.refl _) m).trans ih
 | bwd _ m ih=>exact(Way.fwd (.refl _) m).trans ih
theorem Way.mono(hs:∀e∈es,e∈fs){a b:Int}(h:Way es a b):Way fs a b:=by
 induction h with
 | refl=>exact .refl _
 | fwd _ m ih=>exact .fwd ih (hs _ m)
 | bwd _ m ih=>exact .bwd ih (hs _ m)
theorem Way.const{α:Type}(f:Int -> α)(hf:∀e∈es,f e.1=f e.2){a b:Int}(h:Way es a b):f a=f b:=by
 induction h with
 | refl=>rfl
 | fwd _ m ih=>exact ih.trans (hf _ m)
 | bwd _ m ih=>exact ih.trans (hf _ m).symm
structure kh (ps:List Int) (es:List (Int×Int)) (f:Int->Int):Prop where
 vD:∀x∈ps,f x∈ps
 way:∀x∈ps,Way es x (f x)
 same:∀e∈es,f e.1=f e.2
theorem kh.iff{ps:List Int}(h:kh ps es f){x y:Int}(hx:x∈ps)(hy:y∈ps):f x=f y↔Way es x y:=by
 constructor
 ·intro e;have:=(h.way y hy).symm;rw[<-e] at this;exact(h.way x hx).trans this
 ·exact λw=>w.const f h.same
theorem kh.start(ps:List Int):kh ps [] id:=⟨λx h=>h,λx _=>.refl x,λe h=>by simp at h⟩
theorem kh.step{ps:List Int}(h:kh ps es f){a b:Int}(ha:a∈ps)(hb:b∈ps)(kept gone:Int)(hk:(kept=f a/\gone=f b)\/(kept=f b/\gone=f a)):kh ps (es++[(a,b)]) (λx=>if f x=gone then kept else f x):=by
 have up:∀{x y},Way es x y->Way (es++[(a,b)]) x y:=λw=>w.mono λe he=>mem_append_left _ he;have ab:Way (es++[(a,b)]) a b:=.fwd (.refl _) (by simp);refine⟨λx hx=>?_,λx hx=>?_,λe he=>?_⟩
 ·split
  ·rcases hk with ⟨k,_⟩|⟨k,_⟩<;>rw[k]<;>exact h.vD _ (by assumption)
  ·exact h.vD x hx
 ·split
  ·rename_i e
   have w1:=up (h.way x hx);rw[e] at w1;refine w1.trans ?_
   rcases hk with ⟨k,g⟩|⟨k,g⟩
   ·rw[k,g];exact((up (h.way b hb)).symm.trans ab.symm).trans (up (h.way a ha))
   ·rw[k,g];exact((up (h.way a ha)).symm.trans ab).trans (up (h.way b hb))
  ·exact up (h.way x hx)
 ·rcases mem_append.mp he with he|he
  ·rw[h.same e he]
  ·rw[mem_singleton] at he
   subst he
   rcases hk with ⟨k,g⟩|⟨k,g⟩
   ·rw[k,g];rw[if_pos (rfl:f b=f b)];split<;>rfl
   ·rw[k,g];rw[if_pos (rfl:f a=f a)];split<;>rfl
end Hv
end
section
namespace Hv
open PySem L2
noncomputable abbrev T3:=Int×Int×Int
noncomputable def l3(t:T3):List Int:=[t.1,t.2.1,t.2.2]
noncomputable def eF(t:T3):Val:=.tup [.int t.1,.int t.2.1,.int t.2.2]
noncomputable def qB(x:T3):List T3->List T3
 | []=>[x]
 | y::r=>if HT.lexLt (l3 y) (l3 x)=true then y::qB x r else x::y::r
noncomputable def jL:List T3->List T3
 | []=>[]
 | x::r=>qB x (jL r)
theorem wj(x:T3):∀l:List T3,tZ (l3 x) (l.map l3)=(qB x l).map l3
 | []=>rfl
 | y::r=>by
  rw[map_cons,tZ,qB]
  split
  ·rw[map_cons,wj x r]
  ·rfl
theorem sU:∀l:List T3,lQ (l.map l3)=(jL l).map l3
 | []=>rfl
 | x::r=>by rw[map_cons,lQ,sU r,wj];rfl
theorem nH(x:T3):∀l:List T3,(qB x l).Perm (x::l)
 | []=>.refl _
 | y::r=>by
  rw[qB]
  split
  ·exact((nH x r).cons y).trans (List.Perm.swap ..)
  ·exact .refl _
theorem fN:∀l:List T3,(jL l).Perm l
 | []=>.refl _
 | x::r=>(nH x _).trans ((fN r).cons x)
theorem Hj(ts:List T3)(hl:ts.length<64):fD (ts.map eF)=some ((jL ts).map eF):=by
 have e:∀us:List T3,us.map eF=(us.map l3).map lR:=λus=>by rw[map_map];rfl
 rw[e,yw _ (λk hk=>by obtain⟨t,_,rfl⟩:=mem_map.mp hk;simp[l3]) (by rw[length_map];exact hl),sU,e]
theorem wm(hl:ts.length<64):gp .sorted [.rl (ts.map eF)]=.ok (true,.rl ((jL ts).map eF)):=by
 show pb (pl (fD _)) _=_;rw[Hj ts hl];rfl
noncomputable def Dv(ts:List T3):Prop:=ts.Pairwise λa b=>a.1<b.1
theorem zO(x:T3):∀l:List T3,Dv l->(∀y∈l,y.1≠x.1)->Dv (qB x l)
 | [],_,_=>by simp[qB,Dv]
 | y::r,h,hn=>by
  unfold Dv at *;rw[pairwise_cons] at h;have ny:y.1≠x.1:=hn y mem_cons_self;rw[qB];have lx:HT.lexLt (l3 y) (l3 x)=decide (y.1<x.1):=by show HT.lexLt (y.1::_) (x.1::_)=_;rw[HT.fF,if_neg ny]
  rw[lx]
  by_cases c:y.1<x.1
  ·rw[if_pos (by simpa using c),pairwise_cons]
   refine⟨λz hz=>?_,zO x r h.2 λz hz=>hn z (mem_cons_of_mem _ hz)⟩
   rcases mem_cons.mp ((nH x r).mem_iff.mp hz) with hz|hz
   ·rw[hz];exact c
   ·exact h.1 z hz
  ·rw[if_neg (by simpa using c),pairwise_cons,pairwise_cons]
   refine⟨λz hz=>?_,h⟩;have:x.1<y.1:=by omega
   rcases mem_cons.mp hz with hz|hz
   ·rw[hz];exact this
   ·have:=h.1 z hz;omega
theorem wo:∀l:List T3,(l.map (·.1)).Nodup->Dv (jL l)
 | [],_=>.nil
 | x::r,h=>by
  rw[map_cons,nodup_cons] at h;refine zO x _ (wo r h.2) λy hy e=>h.1 ?_;rw[(fN r).mem_iff] at hy;exact mem_map.mpr ⟨y,hy,e⟩
noncomputable def turnT(t:T3):T3:=(t.1,if t.2.2<t.2.1 then t.2.2 else t.2.1,if t.2.2>t.2.1 then t.2.2 else t.2.1)
noncomputable def ff(p q:Int)(ts:List T3):Val:=.tup [.tup [.int p,.int q],.rl (ts.map eF)]
theorem Hl{i j k:Nat}:cO (.tup [i,j,k]) (eF t) env=some (((env.set i (some (.sh,.int t.1))).set j (some (.sh,.int t.2.1))).set k (some (.sh,.int t.2.2))):=rfl
theorem Bm{α:Type}(ds:List α)(lo:Int)(n:Nat)(h:0<=lo):(dm ds (some lo) (some (lo+n))).length<=n:=by
 unfold dm HT.eN;dsimp only;rw[if_neg (by omega),if_neg (by omega)];simp only[length_take,length_drop];omega
theorem Mf:Bf (eF t) (some 1) none=.ok (true,.tup [.int t.2.1,.int t.2.2]):=rfl
theorem qC{α:Type}(enc:α -> Val)(g:α -> FV):∀(us:List α),(∀u∈us,f (enc u)=.ok (some (g u)))->jK f (us.map enc)=.ok (us.all λu=>(g u).1,us.map λu=>(g u).2)
 | [],_=>rfl
 | x::xs,h=>by
  rw[map_cons,jK,h x mem_cons_self,fc,qC enc g xs λy hy=>h y (mem_cons_of_mem _ hy),fc];rfl
theorem jA{α:Type}(enc dec:α -> Val)(us:List α)(h:∀u∈us,f (enc u)=.ok (some (true,dec u))):jK f (us.map enc)=.ok (true,us.map dec):=by
 rw[qC enc (λu=>(true,dec u)) us h];simp
theorem jB{α:Type}(enc dec:α -> Val)(t:α -> Bool):∀(us:List α),(∀u∈us,f (enc u)=.ok (if t u=true then some (true,dec u) else none))->jK f (us.map enc)=.ok (true,(us.filter t).map dec)
 | [],_=>rfl
 | x::xs,h=>by
  rw[map_cons,jK,h x mem_cons_self,fc,jB enc dec t xs λy hy=>h y (mem_cons_of_mem _ hy),fc]
  by_cases hx:t x=true
  ·rw[if_pos hx,List.filter_cons_of_pos hx];rfl
  ·rw[if_neg hx,List.filter_cons_of_neg hx]
theorem Ho:∀m,m<67->∀d,d<67->0<m->0<d->(m*d)%67≠0:=by decide +kernel
theorem Hq{m c i j:Int}(hm:0<m/\m<67)(hi:0<=i/\i<67)(hj:0<=j/\j<67)(e:(m*i+c)%67=(m*j+c)%67):i=j:=by
 have key:∀i j:Int,0<=i->j<67->i<j->(m*i+c)%67=(m*j+c)%67->False:=by
  intro i j h0 h1 hlt e;obtain⟨a,ha⟩:=Int.eq_ofNat_of_zero_le (show 0<=m by omega);obtain⟨d,hd⟩:=Int.eq_ofNat_of_zero_le (show 0<=j-i by omega);have p:=Ho a (by omega) d (by omega) (by omega) (by omega);have:m*j=m*i+m*(j-i):=by rw[Int.mul_sub];omega
  rw[this] at e;have e2:(m*(j-i))%67=0:=by omega
  rw[ha,hd] at e2;apply p;have:((a*d:Nat):Int)%67=0:=by rw[Int.natCast_mul];exact e2
  omega
 rcases Int.lt_trichotomy i j with h|h|h
 ·exact(key i j hi.1 hj.2 h e).elim
 ·exact h
 ·exact(key j i hj.1 hi.2 h e.symm).elim
theorem qD{α:Type}{f:Hs->Option α}{a:α}(e:f h=some a):ask f h=.ok a h:=by show (match f h with|some a=>Out.ok a h|none=>Out.no)=_;rw[e]
theorem jC{α β:Type}{f:Hs->Option α}{g:α -> M β}{a:α}(e:f h=some a):bnd (ask f) g h=g a h:=aq (qD e)
theorem oX{α β:Type}{o:Option α}{g:α -> M β}{a:α}(e:o=some a):bnd (bh o) g h=g a h:=aq (by unfold bh;rw[e])
end Hv
end
section
namespace Hv
open PySem L2
noncomputable def EI:Val->Option (Int×Int×Int)
 | .tup [.int a,.int b,.int c]=>some (a,b,c)
 | _=>none
noncomputable def jc(kvs:List (Key×Val))(t:Int×Int×Int):List (Key×Val):=gG kvs (.inl t.1) (.tup [.int t.2.1,.int t.2.2])
noncomputable def bS(p q:Int)(ts:List (Int×Int×Int)):List (Key×Val):=ts.foldl jc [(.inl (-1),.tup [.int p,.int q])]
noncomputable def ki(Ψ:Nat->List Val->Pr FV)(c jo jp:Nat)(ds:List Val):Pr FV:=match ds with
 | [net]=>(match Ψ jo [net] with
  | .ok (true,.tup [.tup [.int p,.int q],.rl ts])=>pb (pl (cg EI ts)) λes=>pg (decide (es.length<1000)) (match Ψ jp [.tup [.tup [.int p,.int q],.rl ts]] with
   | .ok (true,y)=>.ok (true,.ob c ["net","places","ends"] [.tup [.tup [.int p,.int q],.rl ts],y,.dc ((bS p q es).map (·.1)) ((bS p q es).map (·.2))])
   | _=>.no)
  | _=>.no)
 | _=>.no
noncomputable abbrev qE(n jo jp:Nat):eW:=.cons (.setF n (.var 0) "net" (.call jo (.cons (.var 1) .nil))) (.cons (.setF n (.var 0) "places" (.call jp (.cons (.fld n (.var 0) "net") .nil))) (.cons (.setF n (.var 0) "ends" (.dct1 (.con "THOUGHT" (.int (-1))) (.idx (.fld n (.var 0) "net") (.cst (.int 0)))))
 (.cons (.for (.tup [2,3,4]) .seq (.cons (.idx (.fld n (.var 0) "net") (.cst (.int 1))) .nil) (.cons (.eB (.fld n (.var 0) "ends") (.var 2) (.tup (.cons (.var 3) (.cons (.var 4) .nil)))) .nil)) .nil)))
noncomputable def zP(t:Int×Int×Int):Val:=.tup [.int t.1,.int t.2.1,.int t.2.2]
theorem Hr(e:EI v=some t):v=zP t:=by
 unfold EI at e;split at e
 ·cases e;rfl
 ·cases e
theorem wu:∀{vs:List Val} {ts:List (Int×Int×Int)},cg EI vs=some ts->vs=ts.map zP
 | [],ts,e=>by cases e;rfl
 | v::vs,ts,e=>by
  rw[cg] at e;obtain⟨t,e1,e⟩:=bind_eq_some_iff.mp e;obtain⟨r,e2,e⟩:=bind_eq_some_iff.mp e;cases e;rw[Hr e1,wu e2];rfl
theorem uA:∀ts:List (Int×Int×Int),bJ (ts.map zP)=true
 | []=>rfl
 | t::r=>by rw[map_cons,bJ,uA r];rfl
theorem Dw(kvs:List (Key×Val))(k:Key)(v:Val):(gG kvs k v).length<=kvs.length+1:=by
 unfold gG
 split
 ·rw[length_map];omega
 ·rw[length_append];simp
theorem Dy(hv:jv v=true)(kvs:List (Key×Val))(h:∀kv∈kvs,jv kv.2=true):∀kv∈gG kvs k v,jv kv.2=true:=by
 unfold gG;intro kv hk;split at hk
 ·obtain⟨z,hz,rfl⟩:=mem_map.mp hk
  split
  ·exact hv
  ·exact h z hz
 ·rcases mem_append.mp hk with hk|hk
  ·exact h kv hk
  ·rw[mem_singleton.mp hk];exact hv
theorem wz:∀(ts:List (Int×Int×Int)) (kvs:List (Key×Val)),(∀kv∈kvs,jv kv.2=true)->∀kv∈ts.foldl jc kvs,jv kv.2=true
 | [],kvs,h=>h
 | t::r,kvs,h=>wz r _ (Dy rfl kvs h)
theorem wB:∀{vs:List Val},(∀v∈vs,jv v=true)->bJ vs=true
 | [],_=>rfl
 | v::vs,h=>by rw[bJ,h v mem_cons_self,wB λw hw=>h w (mem_cons_of_mem _ hw)];rfl
section
variable {Φ:Nat->List Val->M Val} {Ψ:Nat->List Val->Pr FV}
theorem sV{n c D L E:Nat}{ts:List (Int×Int×Int)}{fs:List (Str×Val)}(hc:c<n)(hf:fs.lookup ("ends":Str)=some (Val.ref E))(Mg:ts.length<1000)(WM:D≠E)(S6:L≠E) :
  ∀(m j:Nat) (kvs:List (Key×Val)) (env:Env) (h h':Hs),m+j=ts.length->kvs.length<=j+1->env[0]?=some (some (.ref D))->4<env.length->h[D]?=some (.ins c fs)->h[L]?=some (.lst (ts.map zP))->h'.length=h.length->(∀k,k≠E->h'[k]?=h[k]?)->h'[E]?=some (.dct kvs) ->
  ∃env' h2,forM (.live L) (λx env=>bnd (bh (fW (.tup [2,3,4]) x env)) λenv'=>dP Φ (.cons (.eB (.fld n (.var 0) "ends") (.var 2) (.tup (.cons (.var 3) (.cons (.var 4) .nil)))) .nil) env') m j env h'=.ok (.nx env') h2 /\
   h2.length=h.length/\(∀k,k≠E->h2[k]?=h[k]?)/\h2[E]?=some (.dct ((ts.drop j).foldl jc kvs))
 | 0,j,kvs,env,h,h',hm,hk,he,hl,hD,hL,h1,h2,h3=>by
  refine⟨env,h',?_,h1,h2,?_⟩
  ·rw[forM,jC (a:=ts.map zP) (cF (by rw[h2 L S6];exact hL))];unfold aE;rw[if_pos (decide_eq_true (by rw[length_map];omega))];rfl
  ·rw[List.drop_of_length_le (by omega)];exact h3
 | m+1,j,kvs,env,h,h',hm,hk,he,hl,hD,hL,h1,h2,h3=>by
  have hj:j<ts.length:=by omega
  have hE:E<h'.length:=(List.getElem?_eq_some_iff.mp h3).1
  let gB:Env:=((env.set 2 (some (.int ts[j].1))).set 3 (some (.int ts[j].2.1))).set 4 (some (.int ts[j].2.2))
  have b1:fW (.tup [2,3,4]) (zP ts[j]) env=some gB:=rfl;have g0:gB[0]?=some (some (.ref D)):=by show (((env.set 2 _).set 3 _).set 4 _)[0]?=_;rw[getElem?_set_ne (by omega),getElem?_set_ne (by omega),getElem?_set_ne (by omega)];exact he
  have g2:gB[2]?=some (some (.int ts[j].1)):=by show (((env.set 2 _).set 3 _).set 4 _)[2]?=_;rw[getElem?_set_ne (by omega),getElem?_set_ne (by omega),getElem?_set_self (by omega)]
  have g3:gB[3]?=some (some (.int ts[j].2.1)):=by show (((env.set 2 _).set 3 _).set 4 _)[3]?=_;rw[getElem?_set_ne (by omega),getElem?_set_self (by rw[length_set];omega)]
  have g4:gB[4]?=some (some (.int ts[j].2.2)):=by show (((env.set 2 _).set 3 _).set 4 _)[4]?=_;rw[getElem?_set_self (by rw[length_set,length_set];omega)]
  have YS:aH Φ (.fld n (.var 0) "ends") gB h'=.ok (.ref E) h':=by rw[aH,aq (bR g0)];refine qD (f:=λh=>iC n h (.ref D) "ends") ?_;unfold iC;dsimp only;rw[h2 D WM,hD];dsimp only;rw[if_pos hc];exact hf
  have YT:aH Φ (.tup (.cons (.var 3) (.cons (.var 4) .nil))) gB h'=.ok (.tup [.int ts[j].2.1,.int ts[j].2.2]) h':=by
   rw[aH,aq (a:=[.int ts[j].2.1,.int ts[j].2.2]) (h1:=h')]
   ·unfold aE;rw[if_pos (decide_eq_true (show ([Val.int ts[j].2.1,Val.int ts[j].2.2]:List Val).length<=sizeLine from(by decide:2<=sizeLine)))];rfl
   ·rw[aW,aq (bR g3),aW];rw[show bnd (bnd (aH Φ (.var 4) gB) λd=>bnd (aW Φ .nil gB) λds=>ret (d::ds)) (λds=>ret (Val.int ts[j].2.1::ds)) h'=_ from aq (a:=[.int ts[j].2.2]) (h1:=h') (by rw[aq (bR g4),aW];rfl)];rfl
  have st:dP Φ (.cons (.eB (.fld n (.var 0) "ends") (.var 2) (.tup (.cons (.var 3) (.cons (.var 4) .nil)))) .nil) gB h'=.ok (.nx gB) (h'.set E (.dct (jc kvs ts[j]))):=by
   rw[dP,aq (a:=Fl.nx gB) (h1:=h'.set E (.dct (jc kvs ts[j])))]
   ·dsimp only;rw[dP];rfl
   ·rw[eX,aq YT,aq YS,aq (bR g2)]
    rw[aq (a:=()) (h1:=h'.set E (.dct (jc kvs ts[j])))]
    ·rfl
    ·unfold sH;dsimp only;rw[jC (f:=λh=>h[E]?) h3];dsimp only;rw[oX (o:=keyOf (.int ts[j].1)) (a:=.inl ts[j].1) rfl];unfold aE;rw[if_pos (decide_eq_true (by unfold sizeLine;omega))];rfl
  have hlen:(jc kvs ts[j]).length<=j+1+1:=le_trans (Dw _ _ _) (by omega);obtain⟨iF,h4,r1,r2,r3,r4⟩:=sV hc hf Mg WM S6 m (j+1) (jc kvs ts[j]) gB h (h'.set E (.dct (jc kvs ts[j]))) (by omega) hlen g0 (by show 4<(((env.set 2 _).set 3 _).set 4 _).length;simp;omega) hD hL (by simp[h1])
   (λk hk=>by rw[getElem?_set_ne λz=>hk z.symm];exact h2 k hk) (getElem?_set_self hE)
  refine⟨iF,h4,?_,r2,r3,?_⟩
  ·rw[forM,jC (a:=ts.map zP) (cF (by rw[h2 L S6];exact hL))]
   rw[show (ts.map zP)[j]?=some (zP ts[j]) by rw[getElem?_map,List.getElem?_eq_getElem hj];rfl];dsimp only;rw[aq (a:=Fl.nx gB) (h1:=h'.set E (.dct (jc kvs ts[j])))]
   ·exact r1
   ·rw[oX b1];exact st
  ·rw[List.drop_eq_getElem_cons hj,List.foldl_cons];exact r4
theorem oY{n c i:Nat}(hc:c<n)(g:h[i]?=some (.ins c fs))(hl:fs.length<1000):bnd (zd n (.ref i) x v) (λ_=>ret (Fl.nx env)) h=.ok (.nx env) (h.set i (.ins c (pZ x v fs))):=by
 unfold zd;dsimp only;rw[aN,jC (a:=(c,fs)) (by rw[g];dsimp only;rw[if_pos hc])];dsimp only;unfold bnd aE;rw[if_pos (decide_eq_true hl)];rfl
theorem wC{n c jo jp:Nat}(hc:c<n)(hΦ:∀j,Imp (Φ j) (Ψ j)){p q':Int}(u:Up A h)(qn:Dn A h net v)(e1:Ψ jo [net]=.ok (true,.tup [.tup [.int p,.int q'],.rl ts]))(e2:cg EI ts=some es)(hz:es.length<1000)
  (e3:Ψ jp [.tup [.tup [.int p,.int q'],.rl ts]]=.ok (true,y)):∃(h8:Hs) (V1 v2 vE:Val),gU Φ 5 (qE n jo jp) [.ref h.length,v] (h++[Ob.ins c []])=.ok .non h8/\h<+:h8/\h8[h.length]?=some (.ins c [("net",V1),("places",v2),("ends",vE)]) /\
   ∀B:AP,(∀k,h.length+1<=k->B (some k))->ao B h8 [.tup [.tup [.int p,.int q'],.rl ts],y,.dc ((bS p q' es).map (·.1)) ((bS p q' es).map (·.2))] [V1,v2,vE]:=by
 have et:=wu e2;have WN:h<+:h++[Ob.ins c []]:=prefix_append _ _;have u1:=u.ext WN;have R1:=hΦ jo A (h++[Ob.ins c []]) [net] [v] u1 (ao.cons (qn.ext WN) ao.nil);rw[e1] at R1;obtain⟨v1,h2,f1,S7,_,dF⟩:=R1;have dA:=dF rfl;clear dF;have K5:h2[h.length]?=some (.ins c []):=bU S7 (by simp);have l2:h.length+1<=h2.length:=by have:=S7.length_le;simpa using this
 rw[Dn] at dA;obtain⟨ws,rfl,dB⟩:=dA;rw[ao] at dB;obtain⟨w0,r0,rfl,d0,d1⟩:=dB;obtain⟨w1,rfl,d5⟩:=ao.one d1;clear d1;have YU:w0=.tup [.int p,.int q']:=(iH _ _ (show jv (.tup [.int p,.int q'])=true from rfl)).mp d0;subst YU;rw[Dn] at d5
 rcases d5 with ⟨_,_,z,_⟩|⟨L,ws,rfl,aL,gL,d6⟩
 ·exact False.elim z
 rw[et] at d6;have YV:ws=es.map zP:=(aP _ _ (uA es)).mp d6;subst YV;have hL:(h++[Ob.ins c []]).length<=L:=aL;have hL':h.length+1<=L:=by simpa using hL
 have lL:L<h2.length:=(List.getElem?_eq_some_iff.mp gL).1
 let V1:Val:=.tup [.tup [.int p,.int q'],.ref L]
 let h3:Hs:=h2.set h.length (.ins c [("net",V1)])
 have MU:h3[h.length]?=some (.ins c [("net",V1)]):=getElem?_set_self (by omega);have WO:h3[L]?=some (.lst (es.map zP)):=by show (h2.set _ _)[L]?=_;rw[getElem?_set_ne (by omega)];exact gL
 have l3:h3.length=h2.length:=length_set;have WQ:Dn (Fr (h.length+1)) h3 (.tup [.tup [.int p,.int q'],.rl ts]) V1:=by rw[Dn];refine⟨_,rfl,ao.cons ((iH _ _ (show jv (.tup [.int p,.int q'])=true from rfl)).mpr rfl) (ao.cons ?_ ao.nil)⟩;rw[Dn];exact .inr ⟨L,_,rfl,hL',WO,by rw[et];exact(aP _ _ (uA es)).mpr rfl⟩
 have R2:=hΦ jp (Fr (h.length+1)) h3 [.tup [.tup [.int p,.int q'],.rl ts]] [V1] (λk hk=>by show h.length+1<=k;omega) (ao.cons WQ ao.nil);rw[e3] at R2;obtain⟨v2,h4,f2,Px,_,dG⟩:=R2;have d2:=dG rfl;clear dG;have Oh:h4[h.length]?=some (.ins c [("net",V1)]):=bU Px MU;have l4:h3.length<=h4.length:=Px.length_le
 let h5:Hs:=h4.set h.length (.ins c [("net",V1),("places",v2)])
 have WR:h5[h.length]?=some (.ins c [("net",V1),("places",v2)]):=getElem?_set_self (by omega);have l5:h5.length=h4.length:=length_set
 let h6:Hs:=h5++[Ob.dct [(.inl (-1),.tup [.int p,.int q'])]]
 have YW:h6[h.length]?=some (.ins c [("net",V1),("places",v2)]):=bU (prefix_append _ _) WR;have l6:h6.length=h5.length+1:=by show (h5++[_]).length=_;simp
 let FS:List (Str×Val):=[("net",V1),("places",v2),("ends",.ref h5.length)]
 let h7:Hs:=h6.set h.length (.ins c FS)
 have S8:h7[h.length]?=some (.ins c FS):=getElem?_set_self (by omega);have l7:h7.length=h6.length:=length_set;have YX:h7[h5.length]?=some (.dct [(.inl (-1),.tup [.int p,.int q'])]):=by show (h6.set _ _)[h5.length]?=_;rw[getElem?_set_ne (by omega)];show (h5++[_])[h5.length]?=_;simp
 have hk7:∀k,k≠h.length->k<h4.length->h7[k]?=h4[k]?:=λk n1 n2=>by
  show (h6.set _ _)[k]?=_;rw[getElem?_set_ne λz=>n1 z.symm];show (h5++[_])[k]?=_;rw[getElem?_append_left (by omega)];show (h4.set _ _)[k]?=_;rw[getElem?_set_ne λz=>n1 z.symm]
 have YY:h4[L]?=some (.lst (es.map zP)):=bU Px WO;have WS:h7[L]?=some (.lst (es.map zP)):=by rw[hk7 L (by omega) (by omega)];exact YY
 let env:Env:=[some (.ref h.length),some v,none,none,none]
 have k1:("ends":Str) ≠ "net":=by decide
 obtain⟨env',h8,lp,l8,k8,d8⟩:=sV (Φ:=Φ) (fs:=FS) (ts:=es) hc (by rfl) hz (by omega) (by omega) es.length 0 [(.inl (-1),.tup [.int p,.int q'])] env h7 h7 (by omega) (by simp) rfl (by decide:4<5) S8 WS rfl (λ_ _=>rfl) YX;have fldN:∀(g:Hs) (fs:List (Str×Val)),g[h.length]?=some (.ins c (("net",V1)::fs))->aH Φ (.fld n (.var 0) "net") env g=.ok V1 g:=λg fs hg=>by
  rw[aH,aq (bR rfl)];refine qD (f:=λh'=>iC n h' (.ref h.length) "net") ?_;unfold iC;dsimp only;rw[hg];dsimp only;rw[if_pos hc];rfl
 have s1:eX Φ (.setF n (.var 0) "net" (.call jo (.cons (.var 1) .nil))) env (h++[Ob.ins c []])=.ok (.nx env) h3:=by
  have e:aH Φ (.call jo (.cons (.var 1) .nil)) env (h++[Ob.ins c []])=.ok V1 h2:=by
   rw[aH,aq (a:=[v]) (h1:=h++[Ob.ins c []])]
   ·exact f1
   ·rw[aW,aq (bR rfl),aW];rfl
  rw[eX,aq e,aq (bR rfl)];exact oY hc K5 (by decide)
 have s2:eX Φ (.setF n (.var 0) "places" (.call jp (.cons (.fld n (.var 0) "net") .nil))) env h3=.ok (.nx env) h5:=by
  have e:aH Φ (.call jp (.cons (.fld n (.var 0) "net") .nil)) env h3=.ok v2 h4:=by
   rw[aH,aq (a:=[V1]) (h1:=h3)]
   ·exact f2
   ·rw[aW,aq (fldN h3 [] MU),aW];rfl
  rw[eX,aq e,aq (bR rfl)];exact oY hc Oh (by decide:1<1000)
 have s3:eX Φ (.setF n (.var 0) "ends" (.dct1 (.con "THOUGHT" (.int (-1))) (.idx (.fld n (.var 0) "net") (.cst (.int 0))))) env h5=.ok (.nx env) h7:=by
  have e0:aH Φ (.idx (.fld n (.var 0) "net") (.cst (.int 0))) env h5=.ok (.tup [.int p,.int q']) h5:=by rw[aH,aq (fldN h5 _ WR),aq (a:=.int 0) (h1:=h5) (by rw[aH];rfl)];rfl
  have e:aH Φ (.dct1 (.con "THOUGHT" (.int (-1))) (.idx (.fld n (.var 0) "net") (.cst (.int 0)))) env h5=.ok (.ref h5.length) h6:=by rw[aH,aq (a:=.int (-1)) (h1:=h5) (by rw[aH];rfl),oX (o:=keyOf (.int (-1))) (a:=.inl (-1)) rfl,aq e0];rfl
  rw[eX,aq e,aq (bR rfl)];exact oY hc YW (by decide:2<1000)
 have s4:eX Φ (.for (.tup [2,3,4]) .seq (.cons (.idx (.fld n (.var 0) "net") (.cst (.int 1))) .nil) (.cons (.eB (.fld n (.var 0) "ends") (.var 2) (.tup (.cons (.var 3) (.cons (.var 4) .nil)))) .nil)) env h7=.ok (.nx env') h8:=by
  have e0:aH Φ (.idx (.fld n (.var 0) "net") (.cst (.int 1))) env h7=.ok (.ref L) h7:=by rw[aH,aq (fldN h7 _ S8),aq (a:=.int 1) (h1:=h7) (by rw[aH];rfl)];rfl
  rw[eX,aq (a:=[.ref L]) (h1:=h7)]
  ·rw[oX (o:=srcOf .seq [.ref L]) (a:=.live L) rfl,jC (a:=es.map zP) (cF WS),length_map];exact lp
  ·rw[aW,aq e0,aW];rfl
 have run:gU Φ 5 (qE n jo jp) [.ref h.length,v] (h++[Ob.ins c []])=.ok .non h8:=by
  unfold gU;rw[aq (a:=Fl.nx env') (h1:=h8)]
  ·rfl
  ·show dP Φ (qE n jo jp) env _=_;rw[dP,aq s1];dsimp only;rw[dP,aq s2];dsimp only;rw[dP,aq s3];dsimp only;rw[dP,aq s4];dsimp only;rw[dP];rfl
 have S9:∀k,k≠h.length->k<h4.length->h8[k]?=h4[k]?:=λk n1 n2=>(k8 k (by omega)).trans (hk7 k n1 n2);have hpre:h<+:h8:=by
  refine List.prefix_iff_getElem?.mpr λi hi=>?_;have YZ:i<h4.length:=by omega
  rw[S9 i (by omega) YZ];have:(h2.set h.length (.ins c [("net",V1)]))[i]?=h2[i]?:=getElem?_set_ne (by omega);have Y0:h4[i]?=h3[i]?:=gf Px (by omega);rw[Y0,this,gf S7 (by simp;omega),getElem?_append_left hi,List.getElem?_eq_getElem hi]
 refine⟨h8,V1,v2,.ref h5.length,run,hpre,by rw[k8 _ (by omega)];exact S8,λB hB=>ao.cons ?_ (ao.cons ?_ (ao.cons ?_ ao.nil))⟩
 ·refine Dn.mono (A:=Fr (h.length+1)) (h:=h3) (λo z=>?_) (λk o a g=>?_) _ _ WQ
  ·cases o with
   | none=>exact False.elim z
   | some k=>exact hB k z
  ·have a:h.length+1<=k:=a;have:=(List.getElem?_eq_some_iff.mp g).1;rw[S9 k (by omega) (by omega)];exact bU Px g
 ·refine Dn.mono (A:=Fr h3.length) (h:=h4) (λo z=>?_) (λk o a g=>?_) _ _ d2
  ·cases o with
   | none=>exact False.elim z
   | some k=>exact hB k (by have:h3.length<=k:=z;omega)
  ·have a:h3.length<=k:=a;have:=(List.getElem?_eq_some_iff.mp g).1;rw[S9 k (by omega) (by omega)];exact g
 ·rw[Dn]
  refine⟨h5.length,bS p q' es,rfl,hB _ (by omega),?_,rfl,?_⟩
  ·rw[List.drop_zero] at d8;exact d8
  ·refine(aP _ _ (wB λw hw=>?_)).mpr rfl;obtain⟨kv,hkv,rfl⟩:=mem_map.mp hw;exact wz es _ (λkv hk=>by rw[mem_singleton.mp hk];rfl) kv hkv
theorem wD{n c jo jp:Nat}(hc:c<n)(hΦ:∀j,Imp (Φ j) (Ψ j)):Imp (Cy c (gU Φ 5 (qE n jo jp))) (ki Ψ c jo jp):=λA h ds vs u q=>by
 unfold ki
 split
 ·rename_i net
  obtain⟨v,rfl,qn⟩:=ao.one q
  split
  ·rename_i p q' ts e1
   cases e2:cg EI ts with
   | none=>trivial
   | some es =>
    show Rel A h (RV A h) _ (pg (decide (es.length<1000)) _)
    by_cases hz:es.length<1000
    ·unfold pg
     rw[if_pos (decide_eq_true hz)]
     split
     ·rename_i y e3
      obtain⟨h8,V1,v2,vE,r1,p8,g8,d8⟩:=wC (Ψ:=Ψ) hc hΦ u qn e1 e2 hz e3;have run:Cy c (gU Φ 5 (qE n jo jp)) [v] h=.ok (.ref h.length) h8:=by show bnd (gU Φ 5 (qE n jo jp) [.ref h.length,v]) _ (h++[Ob.ins c []])=_;rw[aq r1];rfl
      have dn:∀B:AP,(∀k,h.length<=k->B (some k))->Dn B h8 (.ob c ["net","places","ends"] [.tup [.tup [.int p,.int q'],.rl ts],y,.dc ((bS p q' es).map (·.1)) ((bS p q' es).map (·.2))]) (.ref h.length):=λB hB=>by
       rw[Dn];exact⟨h.length,_,rfl,hB _ (le_refl _),g8,rfl,d8 B λk hk=>hB k (by omega)⟩
      exact⟨_,h8,run,p8,dn A λk hk=>u k hk,λ_=>dn _ λk hk=>hk⟩
     ·trivial
    ·unfold pg;rw[if_neg (by simpa using hz)];trivial
  ·trivial
 ·trivial
noncomputable def sW(Ψ' Ψ:Nat->List Val->Pr FV)(c jo jp jt jr:Nat)(ds:List Val):Pr FV:=match ki Ψ' c jo jp ds with
 | .ok (_,.ob c' ns vs)=>(match Ψ jt [.ob c' ns vs] with
  | .ok (_,t)=>(match Ψ jr [.ob c' ns vs,t] with
   | .ok (_,.int m)=>.ok (true,.ob c' (ns++[("whole":Str)]) (vs++[.int m]))
   | _=>.no)
  | _=>.no)
 | _=>.no
noncomputable abbrev zQ(n ji:Nat)(jst jsr:List (Nat×Nat)):eW:=.cons (.expr (.call ji (.cons (.var 0) (.cons (.var 1) .nil)))) (.cons (.setF n (.var 0) "whole" (.mth (.var 0) "tree_rank" jsr (.cons (.mth (.var 0) "ties" jst .nil) .nil))) .nil)
theorem Dz{c jo jp:Nat}(e:ki Ψ c jo jp ds=.ok fw):∃net p q ts es y,ds=[net] /\ Ψ jo [net]=.ok (true,.tup [.tup [.int p,.int q],.rl ts])/\cg EI ts=some es/\es.length<1000 /\ Ψ jp [.tup [.tup [.int p,.int q],.rl ts]]=.ok (true,y) /\
  fw=(true,.ob c ["net","places","ends"] [.tup [.tup [.int p,.int q],.rl ts],y,.dc ((bS p q es).map (·.1)) ((bS p q es).map (·.2))]):=by
 unfold ki at e;split at e
 ·rename_i net
  split at e
  ·rename_i p q ts e1
   cases e2:cg EI ts with
   | none=>rw[e2] at e;cases e
   | some es =>
    rw[e2] at e;change pg (decide (es.length<1000)) _=_ at e;unfold pg at e
    by_cases hz:es.length<1000
    ·rw[if_pos (decide_eq_true hz)] at e
     split at e
     ·rename_i y e3;cases e;exact⟨net,p,q,ts,es,y,rfl,e1,e2,hz,e3,rfl⟩
     ·cases e
    ·rw[if_neg (by simpa using hz)] at e;cases e
  ·cases e
 ·cases e
theorem DA{c c' jo jp jt jr:Nat}{f f1 f2:Bool}{m:Int}(e0:ki Ψ' c jo jp ds=.ok (f,.ob c' ns vs))(e1:Ψ jt [.ob c' ns vs]=.ok (f1,t))(e2:Ψ jr [.ob c' ns vs,t]=.ok (f2,.int m)):sW Ψ' Ψ c jo jp jt jr ds=.ok (true,.ob c' (ns++[("whole":Str)]) (vs++[.int m])):=by
 unfold sW;rw[e0];dsimp only;rw[e1];dsimp only;rw[e2]
theorem DC:Imp φ (λ_=>.no):=λ_ _ _ _ _ _=>trivial
theorem DE{n c ji jo jp jt jr:Nat}(hc:c<n)(Y3:∀j,Imp (Φ' j) (Ψ' j))(hΦ:∀j,Imp (Φ j) (Ψ j))(hji:Φ ji=gU Φ' 5 (qE n jo jp))(ht:jst.lookup c=some jt)(hr:jsr.lookup c=some jr) :
  Imp (Cy c (gU Φ 2 (zQ n ji jst jsr))) (sW Ψ' Ψ c jo jp jt jr):=λA h ds vs u q=>by
 unfold sW;cases e0:ki Ψ' c jo jp ds with
 | no=>trivial
 | exc _ _=>trivial
 | ok fw =>
  obtain⟨net,p,q',ts,es,y,rfl,e1,e2,hz,e3,rfl⟩:=Dz e0;dsimp only;obtain⟨v,rfl,qn⟩:=ao.one q;obtain⟨h8,V1,v2,vE,r1,p8,g8,d8⟩:=wC (Φ:=Φ') (Ψ:=Ψ') hc Y3 u qn e1 e2 hz e3;have l8:=p8.length_le;have b8:h.length<h8.length:=(List.getElem?_eq_some_iff.mp g8).1;have dO:∀h',h8<+:h'->Dn (Fr h.length) h' (.ob c ["net","places","ends"] [.tup [.tup [.int p,.int q'],.rl ts],y,.dc ((bS p q' es).map (·.1)) ((bS p q' es).map (·.2))]) (.ref h.length):=λh' p'=>by
   rw[Dn];exact⟨h.length,_,rfl,le_refl _,bU p' g8,rfl,ao.mono (λ_ a=>a) (λ_ _ _ g=>bU p' g) _ _ (d8 (Fr h.length) λk hk=>show h.length<=k by omega)⟩
  have R1:=hΦ jt (Fr h.length) h8 _ _ (λk hk=>show h.length<=k by omega) (ao.cons (dO h8 (prefix_refl _)) ao.nil);generalize hob:Val.ob c ["net","places","ends"] [.tup [.tup [.int p,.int q'],.rl ts],y,.dc ((bS p q' es).map (·.1)) ((bS p q' es).map (·.2))]=ob at R1 dO;cases e4:Ψ jt [ob] with
  | no=>trivial
  | exc _ _=>trivial
  | ok ft =>
   obtain⟨f1,t⟩:=ft;dsimp only;rw[e4] at R1;obtain⟨vt,h9,x1,p9,d9,_⟩:=R1;have l9:=p9.length_le;have R2:=hΦ jr (Fr h.length) h9 _ _ (λk hk=>show h.length<=k by omega) (ao.cons (dO h9 p9) (ao.cons d9 ao.nil));cases e5:Ψ jr [ob,t] with
   | no=>trivial
   | exc _ _=>trivial
   | ok fm =>
    obtain⟨f2,m⟩:=fm;rw[e5] at R2;obtain⟨vm,K7,x2,QZ,EJ,dz⟩:=R2;clear dz;cases m<;>first|trivial|skip
    rename_i m;have EJ:Dn (Fr h.length) K7 (.int m) vm:=EJ;rw[Dn] at EJ;subst EJ;subst hob;dsimp only;have Y4:=bU (p9.trans QZ) g8;have g9:=bU p9 g8;have l10:=QZ.length_le
    let h11:Hs:=K7.set h.length (.ins c [("net",V1),("places",v2),("ends",vE),("whole",.int m)])
    let env:Env:=[some (.ref h.length),some v]
    have mt:∀(g:Hs) (x:Str) (js:List (Nat×Nat)) (jj:Nat),g[h.length]?=some (.ins c [("net",V1),("places",v2),("ends",vE)])->("net":Str)≠x->("places":Str)≠x->("ends":Str)≠x->js.lookup c=some jj->kQ g (.ref h.length) x js=some jj:=λg x js jj hg n1 n2 n3 hj=>by
     unfold kQ;dsimp only;rw[hg];dsimp only;rw[if_pos]
     ·exact hj
     ·rw[lookup_cons,lookup_cons,lookup_cons,List.lookup_nil];rw[beq_eq_false_iff_ne.mpr n1.symm,beq_eq_false_iff_ne.mpr n2.symm,beq_eq_false_iff_ne.mpr n3.symm];rfl
    have s1:eX Φ (.expr (.call ji (.cons (.var 0) (.cons (.var 1) .nil)))) env (h++[Ob.ins c []])=.ok (.nx env) h8:=by
     rw[eX,aq (a:=.non) (h1:=h8)]
     ·rfl
     ·rw[aH,aq (a:=[.ref h.length,v]) (h1:=h++[Ob.ins c []])]
      ·rw[hji];exact r1
      ·rw[aW,aq (bR rfl),aW];rw[show bnd (bnd (aH Φ (.var 1) env) λd=>bnd (aW Φ .nil env) λds=>ret (d::ds)) (λds=>ret (Val.ref h.length::ds)) (h++[Ob.ins c []])=_ from aq (a:=[v]) (h1:=h++[Ob.ins c []]) (by rw[aq (bR rfl),aW];rfl)];rfl
    have eT:aH Φ (.mth (.var 0) "ties" jst .nil) env h8=.ok vt h9:=by rw[aH,aq (bR rfl),jC (a:=jt) (mt h8 _ _ _ g8 (by decide) (by decide) (by decide) ht),aW];exact x1
    have s2:eX Φ (.setF n (.var 0) "whole" (.mth (.var 0) "tree_rank" jsr (.cons (.mth (.var 0) "ties" jst .nil) .nil))) env h8=.ok (.nx env) h11:=by
     have e:aH Φ (.mth (.var 0) "tree_rank" jsr (.cons (.mth (.var 0) "ties" jst .nil) .nil)) env h8=.ok (.int m) K7:=by
      rw[aH,aq (bR rfl),jC (a:=jr) (mt h8 _ _ _ g8 (by decide) (by decide) (by decide) hr),aW];rw[aq (a:=[vt]) (h1:=h9)]
      ·exact x2
      ·rw[aq eT,aW];rfl
     rw[eX,aq e,aq (bR rfl)];exact oY hc Y4 (by decide:3<1000)
    have run:Cy c (gU Φ 2 (zQ n ji jst jsr)) [v] h=.ok (.ref h.length) h11:=by
     show bnd (gU Φ 2 (zQ n ji jst jsr) [.ref h.length,v]) _ (h++[Ob.ins c []])=_;rw[aq (a:=.non) (h1:=h11)]
     ·rfl
     ·unfold gU
      rw[aq (a:=Fl.nx env) (h1:=h11)]
      ·rfl
      ·show dP Φ (zQ n ji jst jsr) env _=_;rw[dP,aq s1];dsimp only;rw[dP,aq s2];dsimp only;rw[dP];rfl
    have hpre:h<+:h11:=by refine List.prefix_iff_getElem?.mpr λi hi=>?_;show (K7.set _ _)[i]?=_;rw[getElem?_set_ne (by omega)];exact List.prefix_iff_getElem?.mp ((p8.trans p9).trans QZ) i hi
    have Y5:h11[h.length]?=some (.ins c [("net",V1),("places",v2),("ends",vE),("whole",.int m)]):=getElem?_set_self (by omega);have dn:∀B:AP,(∀k,h.length<=k->B (some k))->Dn B h11 (.ob c ((["net","places","ends"]:List Str)++[("whole":Str)]) ([.tup [.tup [.int p,.int q'],.rl ts],y,.dc ((bS p q' es).map (·.1)) ((bS p q' es).map (·.2))]++[.int m])) (.ref h.length):=λB hB=>by
     rw[Dn];refine⟨h.length,_,rfl,hB _ (le_refl _),Y5,rfl,?_⟩;have dd:=ao.mono (A':=B) (h':=h11) (λo z=>?_) (λk o a g=>?_) _ _ (d8 (Fr (h.length+1)) λk hk=>hk)
     ·exact ao.app dd (ao.cons ((iH _ _ rfl).mpr rfl) ao.nil)
     ·cases o with
      | none=>exact False.elim z
      | some k=>exact hB k (by have:h.length+1<=k:=z;omega)
     ·have a:h.length+1<=k:=a;show (K7.set _ _)[k]?=_;rw[getElem?_set_ne (by omega)];exact bU (p9.trans QZ) g
    exact⟨_,h11,run,hpre,dn A λk hk=>u k hk,λ_=>dn _ λk hk=>hk⟩
end
end Hv
end
section
namespace Hv
open PySem L2
noncomputable def cnt(φ:Int->Int)(ps:List Int):Nat:=(dZ [] (ps.map φ)).length
theorem fT{ps:List Int}{v:Int}:v∈dZ [] (ps.map φ)↔∃x∈ps,φ x=v:=by
 rw[qA];simp
theorem DF{ps:List Int}(h:∀x∈ps,∀y∈ps,g x=g y->f x=f y):cnt f ps<=cnt g ps:=by
 classical
 let r:Int->Int:=λv=>if hv:∃x∈ps,f x=v then g (Classical.choose hv) else 0
 have hr:∀v∈dZ [] (ps.map f),∃x∈ps,f x=v/\r v=g x:=λv hv=>by
  have e:=fT.mp hv;refine⟨Classical.choose e,(choose_spec e).1,(choose_spec e).2,?_⟩;show (if hv:∃x∈ps,f x=v then g (Classical.choose hv) else 0)=_;rw[dif_pos e]
 have nd:((dZ [] (ps.map f)).map r).Nodup:=by
  have n0:=fM (ps.map f) [] nodup_nil;revert hr n0;generalize dZ [] (ps.map f)=l;intro hr n0
  induction l with
  | nil=>exact nodup_nil
  | cons v l ih =>rw[nodup_cons] at n0;rw[map_cons,nodup_cons];refine⟨λhm=>?_,ih (λw hw=>hr w (mem_cons_of_mem _ hw)) n0.2⟩;obtain⟨w,hw,e⟩:=mem_map.mp hm;obtain⟨x,hx,e1,e2⟩:=hr v (mem_cons_self ..);obtain⟨y,hy,e3,e4⟩:=hr w (mem_cons_of_mem _ hw);have:f x=f y:=h x hx y hy (by rw[<-e2,<-e4,e]);exact n0.1 (by rw[<-e1,this,e3];exact hw)
 have:=fL nd (m:=dZ [] (ps.map g)) λz hz=>by
  obtain⟨v,hv,rfl⟩:=mem_map.mp hz;obtain⟨x,hx,_,e2⟩:=hr v hv;rw[e2];exact fT.mpr ⟨x,hx,rfl⟩
 rw[length_map] at this;exact this
theorem Mh{ps:List Int}(h:∀x∈ps,∀y∈ps,f x=f y↔g x=g y):cnt f ps=cnt g ps :=
 Nat.le_antisymm (DF λx hx y hy=>(h x hx y hy).mpr) (DF λx hx y hy=>(h x hx y hy).mp)
theorem cnt_join{ps:List Int}{a b:Int}(ha:a∈ps)(hb:b∈ps)(ne:ψ a ≠ ψ b):cnt (λx=>if ψ x = ψ b then ψ a else ψ x) ps+1=cnt ψ ps:=by
 have m1:ψ b∈dZ [] (ps.map ψ):=fT.mpr ⟨b,hb,rfl⟩;have n1:=fM (ps.map ψ) [] nodup_nil;have n2:=fM (ps.map λx=>if ψ x = ψ b then ψ a else ψ x) [] nodup_nil;have Y6:=fL n2 (m:=(dZ [] (ps.map ψ)).erase (ψ b)) λv hv=>by
  obtain⟨x,hx,e⟩:=fT.mp hv;rw[List.Nodup.mem_erase_iff n1]
  by_cases c:ψ x = ψ b
  ·rw[if_pos c] at e;subst e;exact⟨ne,fT.mpr ⟨a,ha,rfl⟩⟩
  ·rw[if_neg c] at e;subst e;exact⟨c,fT.mpr ⟨x,hx,rfl⟩⟩
 have Y7:=fL (n1.erase (ψ b)) (m:=dZ [] (ps.map λx=>if ψ x = ψ b then ψ a else ψ x)) λv hv=>by
  rw[List.Nodup.mem_erase_iff n1] at hv;obtain⟨x,hx,e⟩:=fT.mp hv.2;subst e;exact fT.mpr ⟨x,hx,by rw[if_neg hv.1]⟩
 rw[List.length_erase_of_mem m1] at Y6 Y7;have:=List.length_pos_of_mem m1;unfold cnt;omega
end Hv
end
section
namespace Hv
open PySem L2
theorem kh.fix{ps:List Int}(h:kh ps es φ){x:Int}(hx:x∈ps):φ (φ x) = φ x:=((h.way x hx).const φ h.same).symm
noncomputable def rk(φ:Int->Int)(ps:List Int):Nat:=(ps.filter λx=>!decide (φ x=x)).length
theorem zR(t:Int->Bool):∀ps:List Int,(ps.filter t).length+(ps.filter λx=>!t x).length=ps.length
 | []=>rfl
 | x::r=>by
  have ih:=zR t r;cases h:t x with
  | true=>rw[List.filter_cons_of_pos h,List.filter_cons_of_neg (by simp[h]),length_cons,length_cons];omega
  | false=>rw[List.filter_cons_of_neg (by simp[h]),List.filter_cons_of_pos (by simp[h]),length_cons,length_cons];omega
theorem qF{ps:List Int}(h:kh ps es φ)(hn:ps.Nodup):rk φ ps+cnt φ ps=ps.length:=by
 have e:cnt φ ps=(ps.filter λx=>decide (φ x=x)).length:=by
  unfold cnt;refine Nat.le_antisymm (fL (fM _ [] nodup_nil) λv hv=>?_) (fL (hn.filter _) λv hv=>?_)
  ·obtain⟨x,hx,rfl⟩:=fT.mp hv;exact mem_filter.mpr ⟨h.vD x hx,decide_eq_true (h.fix hx)⟩
  ·obtain⟨a,b⟩:=mem_filter.mp hv;exact fT.mpr ⟨v,a,of_decide_eq_true b⟩
 rw[e];have:=zR (λx=>decide (φ x=x)) ps;unfold rk;omega
theorem Mi{ps:List Int}(hn:ps.Nodup):cnt id ps=ps.length:=by
 have h:=qF (kh.start ps) hn;have:rk id ps=0:=by unfold rk;rw[List.filter_eq_nil_iff.mpr λx _=>by simp];rfl
 omega
theorem IM{ps:List Int}{n:Nat}(h1:kh ps es φ)(h2:kh ps es ψ)(hn:ps.Nodup)(e:n+cnt ψ ps=ps.length):n=rk φ ps:=by
 have c:cnt φ ps=cnt ψ ps:=Mh λx hx y hy=>by rw[h1.iff hx hy,h2.iff hx hy]
 have:=qF h1 hn;omega
theorem kh.sX{ps:List Int}(h:kh ps es f){a b:Int}(ha:a∈ps)(hb:b∈ps)(e:f a=f b):kh ps (es++[(a,b)]) f:=by
 have:=h.step ha hb (f a) (f b) (.inl ⟨rfl,rfl⟩);have ef:(λx=>if f x=f b then f a else f x)=f:=funext λx=>by
  split
  ·rename_i c;rw[c,e]
  ·rfl
 rwa [ef] at this
theorem Mj{xs:List Int}{x:Int}:yg [] (k7 xs g) (.inl x)=some (if x∈xs then some (g x) else none):=by
 unfold yg k7;dsimp only;rw[ux]
 congr 1
 unfold bW
 induction xs with
 | nil=>simp
 | cons y r ih =>
  rw[map_cons,find?_cons]
  by_cases e:y=x
  ·subst e;simp
  ·have:((Sum.inl y:Key)=Sum.inl x)=False:=by simp[e]
   have e':¬ x=y:=λh=>e h.symm;simp only[this,decide_false];rw[ih];simp[e']
theorem zS{ks:List Int}{ψ:Int->Int}{a:Int}:putD (ks.map Sum.inl) (ks.map λx=>Val.int (ψ x)) (.inl a) (.int (ψ a))=k7 (eV ks a) λx=>.int (ψ x):=by
 have eu:∀y,nF (λx=>Val.int (ψ x)) a (.int (ψ a)) y=.int (ψ y):=λy=>by
  unfold nF
  split
  ·rename_i e;rw[e]
  ·rfl
 unfold eV
 by_cases h:a∈ks
 ·rw[uy h,if_pos h];exact cL λy _=>eu y
 ·rw[uz h,if_neg h];exact cL λy _=>eu y
theorem jd{ks:List Int}{a x:Int}:x∈eV ks a↔x∈ks\/x=a:=by
 unfold eV
 split
 ·rename_i h;exact⟨.inl,λk=>k.elim id λe=>e▸h⟩
 ·simp
theorem zT{ks:List Int}{a:Int}(h:ks.Nodup):(eV ks a).Nodup:=by
 unfold eV
 split
 ·exact h
 ·rename_i n;rw[nodup_append];exact⟨h,by simp,λx hx y hy e=>n (by rw[mem_singleton] at hy;rw[<-hy,<-e];exact hx)⟩
theorem kj(ks:List Int)(a:Int):(eV ks a).length<=ks.length+1:=by
 unfold eV
 split
 ·omega
 ·simp
theorem qG:∀ks:List Int,pW (ks.map Sum.inl)=some ks
 | []=>rfl
 | x::r=>by
  have ih:=qG r;unfold pW at ih |-;rw[map_cons,cg,ih];rfl
theorem wF{ks:List Int}(h:ks.length<64):jY [] (k7 ks g)=some (PySem.W.sortI ks):=by
 unfold jY;show (pW (ks.map Sum.inl)).bind _=_;rw[qG];show (if ks.length<64 then some (PySem.W.sortI ks) else none)=_;rw[if_pos h]
structure Bo (ps ks:List Int) (es:List (Int×Int)) (ψ:Int->Int) (n:Nat):Prop where
 Ht:kh ps es ψ
 nd:ks.Nodup
 off:∀x,x∉ks -> ψ x=x
 vD:∀x∈ks,ψ x∈ks
 num:n+cnt ψ ps=ps.length
 len:ks.length<=2*es.length
theorem Bo.start{ps:List Int}(hn:ps.Nodup):Bo ps [] [] id 0:=⟨kh.start ps,nodup_nil,λ_ _=>rfl,λx h=>by simp at h,by rw[Mi hn];omega,le_refl _⟩
theorem Bo.stay{ps ks:List Int}{n:Nat}(m:Bo ps ks es ψ n){a b:Int}(ha:a∈ps)(hb:b∈ps)(e:ψ a = ψ b):Bo ps ks (es++[(a,b)]) ψ n :=
 ⟨m.Ht.sX ha hb e,m.nd,m.off,m.vD,m.num,by have:=m.len;simp;omega⟩
theorem Bo.join{ps ks:List Int}{n:Nat}(m:Bo ps ks es ψ n){a b:Int}(ha:a∈ps)(hb:b∈ps)(ne:ψ a ≠ ψ b):Bo ps (eV (eV ks a) b) (es++[(a,b)]) (λx=>if ψ x = ψ b then ψ a else ψ x) (n+1):=by
 have key:∀x,x∈ks\/x=a\/x=b -> ψ x∈eV (eV ks a) b:=λx hx=>by
  rw[jd,jd]
  by_cases h:x∈ks
  ·exact .inl (.inl (m.vD x h))
  ·rw[m.off x h]
   rcases hx with hx|hx|hx
   ·exact absurd hx h
   ·exact .inl (.inr hx)
   ·exact .inr hx
 refine⟨m.Ht.step ha hb (ψ a) (ψ b) (.inl ⟨rfl,rfl⟩),zT (zT m.nd),λx hx=>?_,λx hx=>?_,?_,?_⟩
 ·have hx':x∉ks:=λh=>hx (jd.mpr (.inl (jd.mpr (.inl h))));rw[m.off x hx'];rw[if_neg];intro e;exact hx (by rw[e];exact key b (.inr (.inr rfl)))
 ·split
  ·exact key a (.inr (.inl rfl))
  ·refine key x ?_
   rcases jd.mp hx with h|h
   ·rcases jd.mp h with h|h
    ·exact .inl h
    ·exact .inr (.inl h)
   ·exact .inr (.inr h)
 ·have:=cnt_join ha hb ne;have:=m.num;omega
 ·have h1:=kj (eV ks a) b;have h2:=kj ks a;have:=m.len;simp;omega
end Hv
end
section
namespace Hv
open PySem L2
noncomputable def MW(ps:List Int)(es:List (Int×Int)):Prop:=∀e∈es,e.1∈ps/\e.2∈ps
theorem DG{ps:List Int}:∀(es pre:List (Int×Int)) (φ:Int->Int),kh ps pre φ -> MW ps es->∃ψ,kh ps (pre++es) ψ
 | [],pre,φ,h,_=>⟨φ,by rw[append_nil];exact h⟩
 | e::r,pre,φ,h,hi=>by
  obtain⟨h1,h2⟩:=hi e mem_cons_self;have st:=h.step h1 h2 (φ e.1) (φ e.2) (.inl ⟨rfl,rfl⟩);obtain⟨ψ,k⟩:=DG r (pre++[(e.1,e.2)]) _ st λx hx=>hi x (mem_cons_of_mem _ hx);exact⟨ψ,by rw[List.append_assoc] at k;exact k⟩
theorem DH{ps:List Int}(hi:MW ps es):∃ψ,kh ps es ψ:=by
 obtain⟨ψ,h⟩:=DG es [] id (kh.start ps) hi;exact⟨ψ,h⟩
theorem kh.Ml{ps:List Int}(h:kh ps es φ)(hm:∀e,e∈es↔e∈es'):kh ps es' φ :=
 ⟨h.vD,λx hx=>(h.way x hx).mono λe he=>(hm e).mp he,λe he=>h.same e ((hm e).mpr he)⟩
open Classical in
noncomputable def tr(ps:List Int)(es:List (Int×Int)):Nat:=if h:∃φ,kh ps es φ then rk (Classical.choose h) ps else 0
theorem nY{ps:List Int}(h:kh ps es φ)(hn:ps.Nodup):tr ps es=rk φ ps:=by
 unfold tr;have h':∃φ,kh ps es φ:=⟨φ,h⟩;rw[dif_pos h'];have h2:=choose_spec h';exact IM h h2 hn (qF h2 hn)
theorem Mm{ps:List Int}{n:Nat}(h:kh ps es ψ)(hn:ps.Nodup)(e:n+cnt ψ ps=ps.length):n=tr ps es:=by
 rw[nY h hn];exact IM h h hn e
theorem DI{ps:List Int}(hn:ps.Nodup)(hi:MW ps es)(hm:∀e,e∈es↔e∈es'):tr ps es=tr ps es':=by
 obtain⟨φ,h⟩:=DH hi;rw[nY h hn,nY (h.Ml hm) hn]
open Classical in
theorem Hu{ps:List Int}{a b:Int}(hn:ps.Nodup)(hi:MW ps es)(ha:a∈ps)(hb:b∈ps)(hm:∀e,e∈es'↔e∈es\/e=(a,b)):tr ps es'=tr ps es+if Way es a b then 0 else 1:=by
 obtain⟨φ,h⟩:=DH hi;have hi':MW ps (es++[(a,b)]):=λe he=>by
  rcases mem_append.mp he with he|he
  ·exact hi e he
  ·rw[mem_singleton.mp he];exact⟨ha,hb⟩
 rw[<-DI (es:=es++[(a,b)]) hn hi' (λe=>by rw[hm e];simp)]
 by_cases c:φ a = φ b
 ·rw[if_pos ((h.iff ha hb).mp c),nY (h.sX ha hb c) hn,nY h hn,Nat.add_zero]
 ·rw[if_neg (λw=>c ((h.iff ha hb).mpr w))];have st:=h.step ha hb (φ a) (φ b) (.inl ⟨rfl,rfl⟩);have e1:=qF st hn;have e2:=qF h hn;have e3:=cnt_join ha hb c;rw[nY st hn,nY h hn];omega
end Hv
end
section
namespace Hv
open PySem L2
noncomputable def bx(aa:aV):aV:=aa.map λo=>match o with
 | some (.nw,_)=>none
 | some (_,d)=>some (.sh,d)
 | none=>none
noncomputable def dD(aa:aV):aV:=aa.map λo=>match o with
 | some (.sh,d)=>some (.sh,d)
 | _=>none
noncomputable def IP(Ψ:Nat->List Val->Pr FV)(e:IE)(env:aV):Pr FV:=match aZ Ψ e (dD env) with
 | .ok x=>.ok x
 | _=>pb (aZ Ψ e (bx env)) λx=>pg x.1 (.ok x)
noncomputable def wG(_:IE)(_:yf)(_:Ik)(_:eW):Option (Nat×Nat):=none
noncomputable def Py:List Val->Option (List (List Int)):=cg λv=>match v with
 | .rl es=>aT es
 | _=>none
noncomputable def Tc(env:aV)(iq:Nat×Nat):Pr yo:=match env[iq.1]? with
 | some (some (.ow,.rl ds))=>pb (pl (Py ds)) λls=>pg ((ls.all λl=>decide (l.length+ls.length<sizeLine))&&decide (iq.2<env.length)) (.ok (.nx ((env.set iq.1 none).set iq.2 none)))
 | _=>.no
mutual
noncomputable def bI(Ψ:Nat->List Val->Pr FV)(sp:List Nat):IS->aV->Pr yo
 | .expr e,env=>match e with
  | .met .append (.var i) (.cons a .nil)=>match env[i]? with
   | some (some (.ow,.rl ds))=>pb (aZ Ψ a (bx env)) λx=>pg (decide (ds.length<sizeLine)) (.ok (.nx (env.set i (if bJ (ds++[x.2])=true then some (.ow,.rl (ds++[x.2])) else none))))
   | _=>.no
  | _=>.no
 | .asg p e,env=>match p with
  | .one i=>if sp.contains i=true then pb (aZ Ψ e (bx env)) λx=>pg x.1 (.ok (.nx (env.set i (some (.ow,x.2)))))
    else pb (IP Ψ e env) λx=>.ok (.nx (env.set i (some (.sh,x.2))))
  | .tup is=>pb (IP Ψ e env) λx=>pb (pl (cO (.tup is) x.2 env)) λenv'=>.ok (.nx env')
 | .eB _ _ _,_=>.no
 | .iff c a b,env=>pb (aZ Ψ c (bx env)) λx=>pb (pl (dj [] x.2)) λt=>if t=true then bT Ψ sp a env else bT Ψ sp b env
 | .for p k it body,env=>match it with
  | .cons e .nil=>match wG e p k body with
   | some iq=>Tc env iq
   | none=>pb (IP Ψ e env) λx=>pb (pl (gI k [x.2])) λxs=>jQ (λx env=>pb (pl (cO p x env)) λenv'=>bT Ψ sp body env') xs env
  | _=>.no
 | .ret e,env=>pb (aZ Ψ e (bx env)) λp=>.ok (.rt p)
 | .brk,env=>.ok (.bk env)
 | .cnt,env=>.ok (.ct env)
 | .pass,env=>.ok (.nx env)
 | _,_=>.no
noncomputable def bT(Ψ:Nat->List Val->Pr FV)(sp:List Nat):eW->aV->Pr yo
 | .nil,env=>.ok (.nx env)
 | .cons s r,env=>pb (bI Ψ sp s env) λf=>match f with
  | .nx env'=>bT Ψ sp r env'
  | f=>.ok f
end
mutual
noncomputable def Td:IS->List Nat
 | .expr (.met .append (.var i) _)=>[i]
 | .expr (.met .append (.idx (.var i) _) _)=>[i]
 | .eB (.idx (.var i) _) _ _=>[i]
 | .iff _ a b=>ko a++ko b
 | .for p k it b=>match it with
  | .cons e .nil=>match wG e p k b with
   | some iq=>[iq.1]
   | none=>ko b
  | _=>ko b
 | _=>[]
noncomputable def ko:eW->List Nat
 | .nil=>[]
 | .cons s r=>Td s++ko r
end
noncomputable def Mn(Ψ:Nat->List Val->Pr FV)(n:Nat)(body:eW)(ds:List Val):Pr FV :=
 pb (bT Ψ (ko body) body (ds.map (λd=>some (.sh,d))++replicate (n-ds.length) none)) λf=>match f with
  | .nx _=>.ok (true,.non)
  | .rt p=>.ok p
  | _=>.no
noncomputable abbrev UR:=Nat->Nat->Prop
noncomputable def AU(U:UR):AP:=λo=>match o with
 | none=>True
 | some k=>∀i,¬ U i k
noncomputable def RU(U:UR)(i:Nat):AP:=λo=>match o with
 | none=>False
 | some k=>U i k
structure SL (aa:aV) (env:Env) (h:Hs) (U:UR):Prop where
 len:aa.length=env.length
 sh:∀(i:Nat) (d:Val),aa[i]?=some (some (.sh,d))->∃v,env[i]?=some (some v)/\Dn (AU U) h d v
 un:∀(i:Nat) (d:Val),aa[i]?=some (some (.ow,d))->∃v,env[i]?=some (some v)/\Dn (RU U i) h d v
 ub:∀i k,U i k->k<h.length
 IQ:∀i j k,U i k->U j k->i=j
structure KU (h:Hs) (U:UR) (h':Hs) (U':UR):Prop where
 le:h.length<=h'.length
 keep:∀k,k<h.length->(∀i,¬ U i k)->h'[k]?=h[k]?/\∀i,¬ U' i k
noncomputable def MX(U:UR)(i:Nat):UR:=λj k=>j≠i/\U j k
noncomputable def DJ(U:UR)(i n m:Nat):UR:=λj k=>if j=i then n<=k/\k<m else U j k
noncomputable def jD{α β:Type}(R:α -> Hs -> β -> Prop)(o:Out β):Pr α -> Prop
 | .ok a=>∃b h',o=.ok b h'/\R a h' b
 | _=>True
noncomputable def RL(h:Hs)(U:UR):yo->Hs->Fl->Prop
 | .nx ay,h',.nx env'=>∃U',SL ay env' h' U'/\KU h U h' U'
 | .bk ay,h',.bk env'=>∃U',SL ay env' h' U'/\KU h U h' U'
 | .ct ay,h',.ct env'=>∃U',SL ay env' h' U'/\KU h U h' U'
 | .rt p,h',.rt v=>Dn (λ_=>True) h' p.2 v
 | _,_,_=>False
section
variable {α β γ δ:Type} {h h1 h2:Hs} {U U1 U2:UR} {aa:aV} {env:Env}
theorem cA(r:jD R (m h) p)(k:∀a h1 b,R a h1 b->jD R' (f b h1) (F a)):jD R' (bnd m f h) (pb p F):=by
 unfold bnd;cases p with
 | ok a=>obtain⟨b,h1,e,q⟩:=r;rw[e];exact k a h1 b q
 | exc c es=>trivial
 | no=>trivial
theorem Hw(r:Rel A h R o p):jD (λa h' b=>h<+:h'/\R a h' b) o p:=by
 cases p with
 | ok a=>exact r
 | exc c es=>trivial
 | no=>trivial
theorem cT(r:R a h b):jD R (ret b h) (.ok a):=⟨b,h,rfl,r⟩
theorem mE(r:∀a,o=some a->∃b,o'=some b/\R a h b):jD R (bh o' h) (pl o):=by
 cases o with
 | none=>trivial
 | some a=>obtain⟨b,rfl,q⟩:=r a rfl;exact⟨b,h,rfl,q⟩
theorem uB{c:Bool}(r:c=true->jD R o p):jD R o (pg c p):=by
 unfold pg;cases c with
 | true=>rw[if_pos rfl];exact r rfl
 | false=>rw[if_neg Bool.false_ne_true];trivial
theorem je(r:jD R o p)(k:∀a h' b,R a h' b->R' a h' b):jD R' o p:=by
 cases p with
 | ok a=>obtain⟨b,h',e,r⟩:=r;exact⟨b,h',e,k a h' b r⟩
 | exc c es=>trivial
 | no=>trivial
theorem KU.refl(s:SL aa env h U)(p:h<+:h1):KU h U h1 U:=⟨p.length_le,λk hk n=>⟨gf p hk,n⟩⟩
theorem KU.trans(a:KU h U h1 U1)(b:KU h1 U1 h2 U2):KU h U h2 U2 where
 le:=le_trans a.le b.le
 keep k hk n:=by obtain⟨a1,a2⟩:=a.keep k hk n;obtain⟨b1,b2⟩:=b.keep k (lt_of_lt_of_le hk a.le) a2;exact⟨b1.trans a1,b2⟩
theorem RL.seq(a:KU h U h1 U1)(r:RL h1 U1 f h' g):RL h U f h' g:=by
 cases f<;>cases g<;>first|exact r.elim|exact r|(obtain⟨O',b,c⟩:=r;exact⟨O',b,a.trans c⟩)
theorem SL.ext(s:SL aa env h U)(p:h<+:h1):SL aa env h1 U where
 len:=s.len
 sh i d e:=by obtain⟨v,k1,k2⟩:=s.sh i d e;exact⟨v,k1,k2.ext p⟩
 un i d e:=by obtain⟨v,k1,k2⟩:=s.un i d e;exact⟨v,k1,k2.ext p⟩
 ub i k e:=lt_of_lt_of_le (s.ub i k e) p.length_le
 IQ:=s.IQ
theorem SL.flat(s:SL aa env h U):ER (λ_=>True) (bx aa) env h:=λi f d q=>by
 unfold bx at q;rw[getElem?_map] at q;cases e:aa[i]? with
 | none=>rw[e] at q;cases q
 | some o =>
  rw[e] at q;cases o with
  | none=>cases q
  | some fd =>
   obtain⟨g,d'⟩:=fd;cases g with
   | nw=>cases q
   | ow=>cases q;rw[if_neg (by decide)];obtain⟨v,k1,k2⟩:=s.un i _ e;exact⟨v,k1,k2.f9 λ_ _=>trivial⟩
   | sh=>cases q;rw[if_neg (by decide)];obtain⟨v,k1,k2⟩:=s.sh i _ e;exact⟨v,k1,k2.f9 λ_ _=>trivial⟩
theorem SL.hide(s:SL aa env h U):ER (AU U) (dD aa) env h:=λi f d q=>by
 unfold dD at q;rw[getElem?_map] at q;cases e:aa[i]? with
 | none=>rw[e] at q;cases q
 | some o =>
  rw[e] at q;cases o with
  | none=>cases q
  | some fd =>
   obtain⟨g,d'⟩:=fd;cases g with
   | ow=>cases q
   | nw=>cases q
   | sh =>cases q;rw[if_neg (by decide)];exact s.sh i _ e
theorem SL.up(s:SL aa env h U):Up (AU U) h:=λk hk i z=>by have:=s.ub i k z;omega
theorem uC{i:Nat}:∀o,AU U o->AU (MX U i) o
 | none,_=>trivial
 | some k,n=>λj z=>n j z.2
theorem DK{i j:Nat}(hj:j≠i):∀o,RU U j o->RU (MX U i) j o
 | none,e=>e
 | some k,e=>⟨hj,e⟩
theorem SL.set(s:SL aa env h U){i:Nat}(q:Dn (AU U) h d v):SL (aa.set i (some (.sh,d))) (env.set i (some v)) h (MX U i)/\KU h U h (MX U i):=by
 refine⟨⟨by simp[s.len],λj d' e=>?_,λj d' e=>?_,λj k e=>s.ub j k e.2,λj l k e1 e2=>s.IQ j l k e1.2 e2.2⟩,le_refl _,λk hk n=>⟨rfl,λj z=>n j z.2⟩⟩
 ·by_cases hij:i=j
  ·subst hij
   have hi:i<aa.length:=by have:=(List.getElem?_eq_some_iff.mp e).1;simpa using this
   rw[getElem?_set_self hi] at e;cases e;exact⟨v,by rw[getElem?_set_self (by rw[<-s.len];exact hi)],q.f9 uC⟩
  ·rw[getElem?_set_ne hij] at e;rw[getElem?_set_ne hij];obtain⟨w,k1,k2⟩:=s.sh j d' e;exact⟨w,k1,k2.f9 uC⟩
 ·by_cases hij:i=j
  ·subst hij
   have hi:i<aa.length:=by have:=(List.getElem?_eq_some_iff.mp e).1;simpa using this
   rw[getElem?_set_self hi] at e;cases e
  ·rw[getElem?_set_ne hij] at e;rw[getElem?_set_ne hij];obtain⟨w,k1,k2⟩:=s.un j d' e;exact⟨w,k1,k2.f9 (DK λz=>hij z.symm)⟩
theorem SL.Te(s:SL aa env h U)(p:h<+:h1){i:Nat}(q:Dn (Fr h.length) h1 d v):SL (aa.set i (some (.ow,d))) (env.set i (some v)) h1 (DJ U i h.length h1.length)/\KU h U h1 (DJ U i h.length h1.length):=by
 have no:∀k j,k<h.length->¬ U j k->¬ DJ U i h.length h1.length j k:=λk j hk n z=>by
  unfold DJ at z;split at z
  ·omega
  ·exact n z
 have Y8:∀(k:Nat) (o:Ob),AU U (some k)->h[k]?=some o->AU (DJ U i h.length h1.length) (some k)/\h1[k]?=some o:=λk o a g=>⟨λj=>no k j (List.getElem?_eq_some_iff.mp g).1 (a j),bU p g⟩;refine⟨⟨by simp[s.len],λj d' e=>?_,λj d' e=>?_,λj k e=>?_,λj l k e1 e2=>?_⟩,p.length_le,λk hk n=>⟨gf p hk,λj=>no k j hk (n j)⟩⟩
 ·by_cases hij:i=j
  ·subst hij
   have hi:i<aa.length:=by have:=(List.getElem?_eq_some_iff.mp e).1;simpa using this
   rw[getElem?_set_self hi] at e;cases e
  ·rw[getElem?_set_ne hij] at e;rw[getElem?_set_ne hij];obtain⟨w,k1,k2⟩:=s.sh j d' e;exact⟨w,k1,Dn.move (λ_=>trivial) Y8 _ _ k2⟩
 ·by_cases hij:i=j
  ·subst hij
   have hi:i<aa.length:=by have:=(List.getElem?_eq_some_iff.mp e).1;simpa using this
   rw[getElem?_set_self hi] at e;cases e;refine⟨v,by rw[getElem?_set_self (by rw[<-s.len];exact hi)],Dn.move (A:=Fr h.length) (λz=>False.elim z) (λk o a g=>⟨?_,g⟩) _ _ q⟩;show DJ U i h.length h1.length i k;unfold DJ;rw[if_pos rfl];exact⟨a,(List.getElem?_eq_some_iff.mp g).1⟩
  ·rw[getElem?_set_ne hij] at e;rw[getElem?_set_ne hij];obtain⟨w,k1,k2⟩:=s.un j d' e;refine⟨w,k1,Dn.move (A:=RU U j) (λz=>False.elim z) (λk o a g=>⟨?_,bU p g⟩) _ _ k2⟩;show DJ U i h.length h1.length j k;unfold DJ;rw[if_neg λz=>hij z.symm];exact a
 ·unfold DJ at e
  split at e
  ·exact e.2
  ·exact lt_of_lt_of_le (s.ub j k e) p.length_le
 ·unfold DJ at e1 e2
  split at e1<;>split at e2
  ·rename_i a b;rw[a,b]
  ·have:=s.ub l k e2;omega
  ·have:=s.ub j k e1;omega
  ·exact s.IQ j l k e1 e2
theorem SL.binds:∀{is:List Nat} {ds vs:List Val} {aa:aV} {env:Env} {U:UR} {ay:aV},SL aa env h U->bH is ds aa=some ay->ao (AU U) h ds vs ->
  ∃env' U',bindAll is vs env=some env'/\SL ay env' h U'/\KU h U h U'
 | [],[],vs,aa,env,U,ay,s,e,q=>by
  rw[ao] at q;subst q;simp only[bH] at e;cases e;exact⟨env,U,rfl,s,KU.refl s (prefix_refl _)⟩
 | i::is,d::ds,vs,aa,env,U,ay,s,e,q=>by
  rw[ao] at q;obtain⟨v,r,rfl,q1,q2⟩:=q;simp only[bH] at e;obtain⟨s1,f1⟩:=s.set (i:=i) q1;obtain⟨env',U',b1,b2,b3⟩:=SL.binds s1 e (q2.f9 uC);exact⟨env',U',by simp only[bindAll];exact b1,b2,f1.trans b3⟩
 | [],_::_,_,_,_,_,_,_,e,_=>by simp[bH] at e
 | _::_,[],_,_,_,_,_,_,e,_=>by simp[bH] at e
theorem SL.bind(s:SL aa env h U)(e:cO p d aa=some ay)(q:Dn (AU U) h d v):∃env' U',fW p v env=some env'/\SL ay env' h U'/\KU h U h U':=by
 cases p with
 | one i =>simp only[cO] at e;cases e;obtain⟨s1,f1⟩:=s.set (i:=i) q;exact⟨_,_,rfl,s1,f1⟩
 | tup is =>
  cases d<;>simp only[cO] at e<;>first|(cases e;done)|skip
  rw[Dn] at q;obtain⟨vs,rfl,q⟩:=q;exact s.binds e q
theorem SL.Pz(s:SL aa env h U){i b:Nat}(hb:U i b):SL (aa.set i none) env (h.set b o) (MX U i)/\KU h U (h.set b o) (MX U i):=by
 refine⟨⟨by simp[s.len],λj d' e=>?_,λj d' e=>?_,λj k e=>by rw[length_set];exact s.ub j k e.2,λj l k e1 e2=>s.IQ j l k e1.2 e2.2⟩,by simp,λk hk n=>⟨?_,λj z=>n j z.2⟩⟩
 ·by_cases hij:i=j
  ·subst hij
   have hi:i<aa.length:=by have:=(List.getElem?_eq_some_iff.mp e).1;simpa using this
   rw[getElem?_set_self hi] at e;cases e
  ·rw[getElem?_set_ne hij] at e;obtain⟨w,k1,k2⟩:=s.sh j d' e;refine⟨w,k1,Dn.move (λ_=>trivial) (λk o' a g=>⟨uC _ a,?_⟩) _ _ k2⟩;rw[getElem?_set_ne λz=>a i (by rw[<-z];exact hb)];exact g
 ·by_cases hij:i=j
  ·subst hij
   have hi:i<aa.length:=by have:=(List.getElem?_eq_some_iff.mp e).1;simpa using this
   rw[getElem?_set_self hi] at e;cases e
  ·rw[getElem?_set_ne hij] at e;obtain⟨w,k1,k2⟩:=s.un j d' e;refine⟨w,k1,Dn.move (A:=RU U j) (λz=>False.elim z) (λk o' a g=>⟨DK (λz=>hij z.symm) (some k) a,?_⟩) _ _ k2⟩;rw[getElem?_set_ne λz=>hij (s.IQ i j k (by rw[<-z];exact hb) a)];exact g
 ·rw[getElem?_set_ne λz=>n i (by rw[<-z];exact hb)]
theorem SL.regrow(s:SL aa env h U){i b:Nat}(e:aa[i]?=some (some (.ow,d)))(ee:env[i]?=some (some w))(hb:U i b)(nw:Dn (RU U i) (h.set b o) dn w) :
  SL (aa.set i (some (.ow,dn))) env (h.set b o) U/\KU h U (h.set b o) U:=by
 have hlt:i<aa.length:=(List.getElem?_eq_some_iff.mp e).1;refine⟨⟨by simp[s.len],λj d' ej=>?_,λj d' ej=>?_,λj k ek=>by rw[length_set];exact s.ub j k ek,s.IQ⟩,by simp,λk hk n=>⟨?_,n⟩⟩
 ·by_cases hij:i=j
  ·subst hij;rw[getElem?_set_self hlt] at ej;cases ej
  ·rw[getElem?_set_ne hij] at ej;obtain⟨w,k1,k2⟩:=s.sh j d' ej;refine⟨w,k1,Dn.move (λ_=>trivial) (λk o' a g=>⟨a,?_⟩) _ _ k2⟩;rw[getElem?_set_ne λz=>a i (by rw[<-z];exact hb)];exact g
 ·by_cases hij:i=j
  ·subst hij;rw[getElem?_set_self hlt] at ej;cases ej;exact⟨w,ee,nw⟩
  ·rw[getElem?_set_ne hij] at ej;obtain⟨w,k1,k2⟩:=s.un j d' ej;refine⟨w,k1,Dn.move (A:=RU U j) (λz=>False.elim z) (λk o' a g=>⟨a,?_⟩) _ _ k2⟩;rw[getElem?_set_ne λz=>hij (s.IQ i j k (by rw[<-z];exact hb) a)];exact g
 ·rw[getElem?_set_ne λz=>n i (by rw[<-z];exact hb)]
theorem SL.grow(s:SL aa env h U){i b:Nat}(e:aa[i]?=some (some (.ow,d)))(ee:env[i]?=some (some (.ref b)))(hb:U i b)(hi:bJ ds=true)(hv:vs=ds) :
  SL (aa.set i (some (.ow,.rl ds))) env (h.set b (.lst vs)) U/\KU h U (h.set b (.lst vs)) U :=
 s.regrow e ee hb (by rw[Dn];exact .inr ⟨b,vs,rfl,hb,by rw[getElem?_set_self (s.ub i b hb)],(aP _ _ hi).mpr hv⟩)
end
end Hv
end
section
namespace Hv
open PySem L2
section
variable {Φ:Nat->List Val->M Val} {Ψ:Nat->List Val->Pr FV} {sp:List Nat} {aa:aV} {env:Env} {h:Hs} {U:UR}
theorem uD(V:bQ Φ Ψ e)(s:SL aa env h U):jD (λx h' v=>h<+:h'/\Dn (AU U) h' x.2 v) (aH Φ e env h) (IP Ψ e aa):=by
 have r1:=V (dD aa) env (AU U) h s.up s.hide;have r2:=V (bx aa) env (λ_=>True) h (λ_ _=>trivial) s.flat
 have go:jD (λx h' v=>h<+:h'/\Dn (AU U) h' x.2 v) (aH Φ e env h) (pb (aZ Ψ e (bx aa)) λx=>pg x.1 (.ok x)):=by
  cases e2:aZ Ψ e (bx aa) with
  | ok x =>
   rw[e2] at r2;obtain⟨v,h',ev,p,q⟩:=r2;show jD _ _ (pg x.1 (.ok x));refine uB λhx=>⟨v,h',ev,p,(q.2 hx).f9 λo z=>?_⟩;cases o with
   | none=>exact False.elim z
   | some k=>exact s.up k z
  | exc c es=>trivial
  | no=>trivial
 unfold IP;cases e1:aZ Ψ e (dD aa) with
 | ok x =>rw[e1] at r1;obtain⟨v,h',ev,p,q⟩:=r1;exact⟨v,h',ev,p,q.1⟩
 | exc c es=>exact go
 | no=>exact go
theorem mF(V:bQ Φ Ψ e)(s:SL aa env h U):jD (λx h' v=>h<+:h'/\RV (λ_=>True) h x h' v) (aH Φ e env h) (aZ Ψ e (bx aa)):=Hw (V (bx aa) env (λ_=>True) h (λ_ _=>trivial) s.flat)
noncomputable def EK(Φ:Nat->List Val->M Val)(Ψ:Nat->List Val->Pr FV)(sp:List Nat)(s:IS):Prop:=∀(aa:aV) (env:Env) (h:Hs) (U:UR),SL aa env h U->jD (RL h U) (eX Φ s env h) (bI Ψ sp s aa)
noncomputable def wH(Φ:Nat->List Val->M Val)(Ψ:Nat->List Val->Pr FV)(sp:List Nat)(s:eW):Prop:=∀(aa:aV) (env:Env) (h:Hs) (U:UR),SL aa env h U->jD (RL h U) (dP Φ s env h) (bT Ψ sp s aa)
theorem Hx{b:Nat}{h1:Hs}(g:h1[b]?=some (.lst vs))(hl:decide (vs.length<sizeLine)=true):bnd (met .append (.ref b) [v]) (λ_=>ret (Fl.nx env)) h1=.ok (.nx env) (h1.set b (.lst (vs++[v]))):=by
 simp only[met];unfold bnd ask bh aE put ret;dsimp only;rw[g];dsimp only;rw[if_pos hl]
theorem DL{i:Nat}(ha:bQ Φ Ψ a):EK Φ Ψ sp (.expr (.met .append (.var i) (.cons a .nil))):=λaa env h U s=>by
 rw[eX,bI];try dsimp only
 split
 ·rename_i ds hv
  obtain⟨w,e2,q⟩:=s.un i _ hv;rw[Dn] at q
  rcases q with ⟨_,_,n,_⟩|⟨b,vs,rfl,hb,e4,e5⟩
  ·exact False.elim n
  have ev:bnd (aH Φ (.met .append (.var i) (.cons a .nil)) env) (λ_=>ret (Fl.nx env)) h=bnd (aH Φ a env) (λv=>bnd (met .append (.ref b) [v]) λ_=>ret (Fl.nx env)) h:=by
   rw[aH,aN,aq (bR e2)];rw[aN,aq (a:=()) (h1:=h) (by unfold ask bh;simp[recv,e4])];rw[aN,aW,aN]
   congr 1
  rw[ev];refine cA (mF ha s) λx h1 v ⟨p1,q1⟩=>uB λhg=>?_;have s1:=s.ext p1;have l:=e5.length;have run:=Hx (env:=env) (v:=v) (bU p1 e4) (by rw[<-l];exact hg)
  by_cases hi:bJ (ds++[x.2])=true
  ·rw[if_pos hi];have eq:vs++[v]=ds++[x.2]:=(aP (A:=λ_=>True) (h:=h1) _ _ hi).mp (((e5.f9 λ_ _=>trivial).ext p1).append (ao.cons q1.1 ao.nil));obtain⟨s2,f2⟩:=s1.grow hv e2 hb hi eq;exact⟨_,_,run,U,s2,(KU.refl s p1).trans f2⟩
  ·rw[if_neg hi];obtain⟨s2,f2⟩:=s1.Pz (o:=.lst (vs++[v])) hb;exact⟨_,_,run,_,s2,(KU.refl s p1).trans f2⟩
 ·trivial
theorem PB(V:bQ Φ Ψ e):EK Φ Ψ sp (.asg p e):=λaa env h U s=>by
 cases p with
 | one i =>
  rw[eX,bI];try dsimp only
  split
  ·refine cA (mF V s) λx h1 v ⟨p1,q1⟩=>uB λhx=>?_;obtain⟨s2,f2⟩:=s.Te p1 (i:=i) (q1.2 hx);exact⟨_,_,rfl,_,s2,f2⟩
  ·refine cA (uD V s) λx h1 v aF=>?_;obtain⟨p1,q1⟩:=aF;obtain⟨s2,f2⟩:=(s.ext p1).set (i:=i) q1;exact⟨_,_,rfl,_,s2,(KU.refl s p1).trans f2⟩
 | tup is =>
  rw[eX,bI];try dsimp only
  refine cA (uD V s) λx h1 v aF=>?_;obtain⟨p1,q1⟩:=aF;have s1:=s.ext p1;refine cA (R:=λay h' env'=>∃U',SL ay env' h' U'/\KU h1 U h' U') (mE λay ev=>?_) λay h2 env' hh=>?_
  ·obtain⟨env',U',b1,b2,b3⟩:=s1.bind ev q1;exact⟨env',b1,U',b2,b3⟩
  ·obtain⟨U',b2,b3⟩:=hh;exact cT ⟨U',b2,(KU.refl s p1).trans b3⟩
theorem PC(V:bQ Φ Ψ c)(ha:wH Φ Ψ sp a)(hb:wH Φ Ψ sp b):EK Φ Ψ sp (.iff c a b):=λaa env h U s=>by
 rw[eX,bI];refine cA (mF V s) λx h1 v aF=>?_;obtain⟨p1,q1⟩:=aF;refine cA (R:=λt h' t'=>h'=h1/\t'=t) (mE λt ht=>⟨t,ur (.inl q1.1) ht,rfl,rfl⟩) λt h2 t' aF=>?_;obtain⟨e1,e2⟩:=aF;subst e1;subst e2;have s1:=s.ext p1;cases t' with
 | true=>rw[if_pos rfl,if_pos rfl];exact je (ha aa env _ U s1) λf h' g r=>r.seq (KU.refl s p1)
 | false=>rw[if_neg Bool.false_ne_true,if_neg Bool.false_ne_true];exact je (hb aa env _ U s1) λf h' g r=>r.seq (KU.refl s p1)
theorem PD(V:bQ Φ Ψ e):EK Φ Ψ sp (.ret e):=λaa env h U s=>by
 rw[eX,bI];exact cA (mF V s) λx h1 v ⟨p1,q1⟩=>cT q1.1
noncomputable def Tf(h:Hs)(U:UR)(src:Src)(ws:List Val):Prop:=∀h':Hs,(∀k,k<h.length->(∀i,¬ U i k)->h'[k]?=h[k]?)->src.items h'=some ws
theorem PF(q:Dn (AU U) h d v)(e:gI k [d]=some xs):∃src ws,srcOf k [v]=some src/\ao (AU U) h xs ws/\src.items h=some ws/\Tf h U src ws:=by
 have lst:∀es,d=.rl es->(∃ws,v=.rl ws/\ao (AU U) h es ws)\/∃a ws,v=.ref a/\h[a]?=some (.lst ws)/\ao (AU U) h es ws/\∀h':Hs,(∀k,k<h.length->(∀i,¬ U i k)->h'[k]?=h[k]?)->h'[a]?=some (Ob.lst ws):=by
  rintro es rfl;rw[Dn] at q
  rcases q with ⟨ws,rfl,_,q⟩|⟨a,ws,rfl,al,g,q⟩
  ·exact .inl ⟨ws,rfl,q⟩
  ·exact .inr ⟨a,ws,rfl,g,q,λh' hk=>(hk a (List.getElem?_eq_some_iff.mp g).1 al).trans g⟩
 cases k with
 | seq =>
  cases d<;>simp only[gI] at e<;>first|(cases e;done)|skip
  ·cases e;rw[Dn] at q;obtain⟨ws,rfl,q⟩:=q;exact⟨.fix ws,ws,rfl,q,rfl,λ_ _=>rfl⟩
  ·cases e
   rcases lst _ rfl with ⟨ws,rfl,q'⟩|⟨a,ws,rfl,g,q',st⟩
   ·exact⟨.fix ws,ws,rfl,q',rfl,λ_ _=>rfl⟩
   ·exact⟨.live a,ws,rfl,q',cF g,λh' hk=>cF (st h' hk)⟩
 | range =>
  cases d<;>simp only[gI] at e<;>first|(cases e;done)|skip
  rw[Dn] at q;subst q;split at e
  ·rename_i hn;cases e;exact⟨.fix _,_,by simp only[srcOf];rw[if_pos hn],iY,rfl,λ_ _=>rfl⟩
  ·cases e
 | enum =>
  cases d<;>simp only[gI] at e<;>first|(cases e;done)|skip
  cases e
  rcases lst _ rfl with ⟨ws,rfl,q'⟩|⟨a,ws,rfl,g,q',st⟩
  ·exact⟨.fix _,_,rfl,gc 0 q',rfl,λ_ _=>rfl⟩
  ·exact⟨.enum a,_,rfl,gc 0 q',fK g,λh' hk=>fK (st h' hk)⟩
 | zip=>cases e
theorem wI(hb:∀aa env h U x v,SL aa env h U->Dn (AU U) h x v->jD (RL h U) (body v env h) (bodyV x aa))
  {h1:Hs} {U1:UR} (st:Tf h1 U1 src ws) :
  ∀(xs vs:List Val) (i:Nat) (aa:aV) (env:Env) (h:Hs) (U:UR),SL aa env h U->KU h1 U1 h U->ws.drop i=vs->ao (AU U) h xs vs ->
   jD (RL h1 U1) (forM src body vs.length i env h) (jQ bodyV xs aa)
 | [],vs,i,aa,env,h,U,s,f,hd,q=>by
  rw[ao] at q;subst q;have hl:ws.length<=i:=List.drop_eq_nil_iff.mp hd;have hi:=st h (λk hk n=>(f.keep k hk n).1);rw[jQ];refine⟨.nx env,h,?_,U,s,f⟩;show forM src body 0 i env h=_;simp only[forM];unfold bnd ask bh aE;dsimp only;rw[hi];dsimp only;rw[if_pos (decide_eq_true hl)];try rfl
 | x::xs,vs,i,aa,env,h,U,s,f,hd,q=>by
  rw[ao] at q;obtain⟨v,r,rfl,q1,q2⟩:=q;have hv:ws[i]?=some v:=by have:=congrArg (λl=>l[0]?) hd;simpa using this
  have hr:ws.drop (i+1)=r:=by
   have:ws.drop (i+1)=(ws.drop i).drop 1:=by rw[drop_drop]
   rw[this,hd];rfl
  have hi:=st h (λk hk n=>(f.keep k hk n).1);have ev:forM src body (v::r).length i env h=bnd (body v env) (λf=>match f with
   | .nx env'=>forM src body r.length (i+1) env'
   | .ct env'=>forM src body r.length (i+1) env'
   | .bk env'=>ret (.nx env')
   | .rt v=>ret (.rt v)) h:=by
   show forM src body (r.length+1) i env h=_;simp only[forM];unfold bnd ask bh;dsimp only;rw[hi];dsimp only;rw[hv];try rfl
  rw[ev,jQ];refine cA (hb aa env h U x v s q1) λfl h2 gl hr2=>?_;have go:∀ay env' U',SL ay env' h2 U'->KU h U h2 U'->jD (RL h1 U1) (forM src body r.length (i+1) env' h2) (jQ bodyV xs ay):=λay env' U' s' f'=>by
   refine wI hb st xs r (i+1) ay env' h2 U' s' (f.trans f') hr (ao.move (A:=AU U) (λ_=>trivial) (λk o hk g=>?_) _ _ q2);have hlt:k<h.length:=(List.getElem?_eq_some_iff.mp g).1;obtain⟨a1,a2⟩:=f'.keep k hlt hk;exact⟨a2,a1.trans g⟩
  cases fl<;>cases gl<;>first|exact hr2.elim|skip
  ·obtain⟨U',s',f'⟩:=hr2;exact go _ _ U' s' f'
  ·exact cT hr2
  ·obtain⟨U',s',f'⟩:=hr2;exact cT ⟨U',s',f.trans f'⟩
  ·obtain⟨U',s',f'⟩:=hr2;exact go _ _ U' s' f'
theorem PJ(V:bQ Φ Ψ e)(hb:wH Φ Ψ sp body):EK Φ Ψ sp (.for p k (.cons e .nil) body):=λaa env h U s=>by
 rw[bI];try dsimp only
 have hsp:wG e p k body=none:=rfl;rw[hsp];dsimp only;rw[eX];have ev:∀(F:List Val->M Fl),bnd (aW Φ (.cons e .nil) env) F h=bnd (aH Φ e env) (λv=>F [v]) h:=λF=>by
  rw[aW,aW,aN];rfl
 rw[ev];refine cA (uD V s) λx h1 v aF=>?_;obtain⟨p1,q1⟩:=aF;have s1:=s.ext p1;refine cA (R:=λxs h' src=>h'=h1/\∃ws,ao (AU U) h1 xs ws/\src.items h1=some ws/\Tf h1 U src ws) (mE λxs ex=>?_) λxs h2 src ⟨e2,ws,q2,q3,st⟩=>?_
 ·obtain⟨src,ws,a1,a2,a3,a4⟩:=PF q1 ex;exact⟨src,a1,rfl,ws,a2,a3,a4⟩
 ·subst e2
  have SQ:∀(F:List Val->M Fl),bnd (ask λh=>src.items h) F h2=F ws h2:=λF=>by unfold bnd ask bh;dsimp only;rw[q3]
  rw[SQ];refine je (wI (λay env' h' U' x v s' qx=>?_) st xs ws 0 aa env h2 U s1 (KU.refl s1 (prefix_refl _)) rfl q2) λf h' g r=>r.seq (KU.refl s p1);refine cA (R:=λiZ h2 iF=>∃U2,SL iZ iF h2 U2/\KU h' U' h2 U2) (mE λiZ e2=>?_) λiZ h2 iF hh=>?_
  ·obtain⟨iF,U2,b1,b2,b3⟩:=s'.bind e2 qx;exact⟨iF,b1,U2,b2,b3⟩
  ·obtain⟨U2,b2,b3⟩:=hh;exact je (hb iZ iF h2 U2 b2) λf h'' g r=>r.seq b3
theorem PK:wH Φ Ψ sp .nil:=λaa env h U s=>by rw[dP,bT];exact cT ⟨U,s,KU.refl s (prefix_refl _)⟩
theorem Mp(ha:EK Φ Ψ sp a)(hr:wH Φ Ψ sp r):wH Φ Ψ sp (.cons a r):=λaa env h U s=>by
 rw[dP,bT];refine cA (ha aa env h U s) λf h1 g q=>?_;cases f<;>cases g<;>first|exact q.elim|skip
 ·obtain⟨U1,s1,f1⟩:=q;exact je (hr _ _ h1 U1 s1) λf h' g r=>r.seq f1
 ·exact cT q
 ·exact cT q
 ·exact cT q
theorem nI(e:∀aa,bI Ψ sp s aa=.no):EK Φ Ψ sp s:=λaa env h U _=>by rw[e];trivial
theorem Mq(V:∀e,dN e=true->bQ Φ Ψ e)(ho:dN e=true):EK Φ Ψ sp (.expr e):=by
 cases e with
 | met m a es =>
  cases m with
  | append =>
   cases a with
   | var i =>
    cases es with
    | nil=>exact nI λaa=>by rw[bI]<;>(intros;simp_all)
    | cons x r =>
     cases r with
     | nil=>exact DL (V x (eZ (eZ ho).2).1)
     | cons _ _=>exact nI λaa=>by rw[bI]<;>(intros;simp_all)
   | _=>exact nI λaa=>by rw[bI]<;>(intros;simp_all)
  | _=>exact nI λaa=>by rw[bI]<;>(intros;simp_all)
 | _=>exact nI λaa=>by rw[bI]<;>(intros;simp_all)
theorem PM(hi:bQ Φ Ψ i)(hv:bQ Φ Ψ v):EK Φ Ψ sp (.eB o i v):=nI λaa=>by rw[bI]
theorem PN(hΦ:∀j,Imp (Φ j) (Ψ j)):∀ss,qv ss=true->wH Φ Ψ sp ss:=by
 have V:=(v_all hΦ).1;intro ss;refine eW.rec (motive_1:=λs=>SO s=true->EK Φ Ψ sp s) (motive_2:=λss=>qv ss=true->wH Φ Ψ sp ss) ?_ ?_ ?_ ?_ ?_ ?_ ?_ ?_ ?_ ?_ ?_ ?_ ?_ ?_ ?_ ?_ ss
 ·intro e f;exact Mq V f
 ·intro p e f;exact PB (V e f)
 ·intro i o e f;exact nI λaa=>by rw[bI]<;>(intros;simp_all)
 ·intro o i v f;have f:=qq f;exact PM (V i f.1.2) (V v f.2)
 ·intro c a b ha hb f;have f:=qq f;exact PC (V c f.1.1) (ha f.1.2) (hb f.2)
 ·intro p k it b hb f
  have f:=eZ f;cases it with
  | nil=>exact nI λaa=>by rw[bI.eq_def]<;>rfl
  | cons e es =>
   cases es with
   | nil=>exact PJ (V e (eZ f.1).1) (hb f.2)
   | cons _ _=>exact nI λaa=>by rw[bI]<;>(intros;simp_all)
 ·intro n c b _ f;exact nI λaa=>by rw[bI]<;>(intros;simp_all)
 ·intro e f;exact PD (V e f)
 ·intro _;exact nI λaa=>by rw[bI]<;>(intros;simp_all)
 ·intro _ aa env h U s;rw[eX,bI];exact cT ⟨U,s,KU.refl s (prefix_refl _)⟩
 ·intro _ aa env h U s;rw[eX,bI];exact cT ⟨U,s,KU.refl s (prefix_refl _)⟩
 ·intro _ aa env h U s;rw[eX,bI];exact cT ⟨U,s,KU.refl s (prefix_refl _)⟩
 ·intro _;exact nI λaa=>by rw[bI]<;>(intros;simp_all)
 ·intro _ _ _ _ _;exact nI λaa=>by rw[bI]<;>(intros;simp_all)
 ·intro _;exact PK
 ·intro a r ha hr f;have f:=eZ f;exact Mp (ha f.1) (hr f.2)
theorem Bp{n:Nat}(hΦ:∀j,Imp (Φ j) (Ψ j))(ho:qv body=true){ns:List Int}{f:Bool}(e:Mn Ψ n body [.rl (ns.map .int)]=.ok (f,.bl true)):∃h',gU Φ n body [.rl (ns.map .int)] []=.ok (.bl true) h':=by
 have s:SL ([(Val.rl (ns.map .int))].map (λd=>some (.sh,d))++replicate (n-1) none) ([(Val.rl (ns.map .int))].map some++replicate (n-1) none) [] (λ_ _=>False):=by
  have rep:∀(i:Nat) (x:Option (Mk×Val)),(replicate (n-1) (none:Option (Mk×Val)))[i]?=some x->x=none:=λi x e=>(mem_replicate.mp (mem_of_getElem? e)).2;refine⟨by simp,λi d q=>?_,λi d q=>?_,λ_ _ z=>z.elim,λ_ _ _ z=>z.elim⟩
  ·cases i with
   | zero =>simp only[map_cons,map_nil,cons_append,nil_append,List.getElem?_cons_zero] at q |-;cases q;refine⟨_,rfl,?_⟩;rw[Dn];exact .inl ⟨_,rfl,trivial,(aP _ _ (aY ns)).mpr rfl⟩
   | succ i =>simp only[map_cons,map_nil,cons_append,nil_append,getElem?_cons_succ] at q;have:=rep _ _ q;cases this
  ·cases i with
   | zero=>simp only[map_cons,map_nil,cons_append,nil_append,List.getElem?_cons_zero] at q;cases q
   | succ i =>simp only[map_cons,map_nil,cons_append,nil_append,getElem?_cons_succ] at q;have:=rep _ _ q;cases this
 have r:=PN (sp:=ko body) hΦ body ho _ _ [] _ s;unfold Mn at e;show ∃h',bnd (dP Φ body ([(Val.rl (ns.map .int))].map some++replicate (n-1) none)) _ []=_;change pb (bT Ψ (ko body) body ([(Val.rl (ns.map .int))].map (λd=>some (.sh,d))++replicate (n-1) none)) _=_ at e;cases e1:bT Ψ (ko body) body ([(Val.rl (ns.map .int))].map (λd=>some (.sh,d))++replicate (n-1) none) with
 | ok fl =>
  rw[e1] at e r;obtain⟨g,h',eg,q⟩:=r;unfold bnd;rw[eg];cases fl with
  | rt p =>
   cases g<;>first|exact q.elim|skip
   change Pr.ok p=_ at e;cases e;have q:Dn (λ_=>True) h' (.bl true) _:=q;rw[Dn] at q;subst q;exact⟨h',rfl⟩
  | nx _=>cases e
  | bk _=>cases e
  | ct _=>cases e
 | exc c es=>rw[e1] at e;cases e
 | no=>rw[e1] at e;cases e
end
end Hv
end
section
namespace K24
open PySem L2 Hv
noncomputable def top(i:Nat):Stmt:=PySem.Challenge.pw_linkorcut_k24_free_and_reached.main.body.getD i (.Pass ⟨0,0,0,0⟩)
noncomputable def cons:List (Str×Val):=[("THOUGHT",(.int (-1)))]
noncomputable def tb:Tb:=⟨3,["net","places","ends","whole"],[(0,"tree_rank",11),(1,"tree_rank",11),(2,"tree_rank",11),(0,"ties",13),(1,"ties",13),(2,"ties",13),(0,"rank",19),(1,"rank",20),(2,"rank",21),(0,"free",22),(1,"free",22),(2,"free",22),(0,"reach",23),(1,"reach",23),(2,"reach",23)],[("Rule","__init__",9)],[("Rule",[true,true,true])]⟩
noncomputable def bA(i:Nat):Stmt:=match top 9 with|.ClassDef (body:=b) ..=>b.getD i (.Pass ⟨0,0,0,0⟩)|_=>.Pass ⟨0,0,0,0⟩
noncomputable def qH(i:Nat):Stmt:=match top 10 with|.ClassDef (body:=b) ..=>b.getD i (.Pass ⟨0,0,0,0⟩)|_=>.Pass ⟨0,0,0,0⟩
noncomputable def ie(i:Nat):Stmt:=match top 11 with|.ClassDef (body:=b) ..=>b.getD i (.Pass ⟨0,0,0,0⟩)|_=>.Pass ⟨0,0,0,0⟩
noncomputable def jf:eW:=(.cons (.iff (.cmp .lt (.var 1) (.blt .len (.cons (.var 0) .nil))) (.cons (.ret (.idx (.var 0) (.var 1))) .nil) .nil) (.cons (.ret (.cst (.int 0))) .nil))
noncomputable def gh:eW:=(.cons (.asg (.one 3) (.cst (.int 1))) (.cons (.asg (.one 4) (.cst (.int 0))) (.cons (.iff (.cmp .gt (.bin .mod (.var 0) (.cst (.int 3))) (.cst (.int 0))) (.cons (.asg (.one 3) (.bin .add (.cst (.int 1)) (.bin .mod (.bin .fdiv (.var 0) (.cst (.int 3))) (.bin .pow (.cst (.int 10)) (.cst (.int 56)))))) (.cons (.asg (.one 4) (.bin .mod (.bin .fdiv (.var 1) (.cst (.int 66))) (.bin .pow (.cst (.int 10)) (.cst (.int 58))))) .nil)) .nil) (.cons (.ret (.bin .add (.bin .mul (.var 3) (.bin .mod (.bin .add (.bin .mul (.bin .add (.cst (.int 1)) (.bin .mod (.var 1) (.cst (.int 66)))) (.var 2)) (.var 0)) (.cst (.int 67)))) (.var 4))) .nil))))
noncomputable def kq:eW:=(.cons (.asg (.one 2) (.call 0 (.cons (.var 0) (.cons (.cst (.int 0)) .nil)))) (.cons (.asg (.one 3) (.call 0 (.cons (.var 0) (.cons (.cst (.int 1)) .nil)))) (.cons (.asg (.one 4) (.call 0 (.cons (.var 0) (.cons (.cst (.int 2)) .nil)))) (.cons (.asg (.one 5) (.bin .add (.cst (.int 2)) (.bin .mod (.var 4) (.cst (.int 7))))) (.cons (.asg (.one 6) (.comp ["_law_k","_law_two","_law_one"] [none,some 3,some 2] (.one 0) .range (.cons (.var 5) .nil) .no (.call 1 (.cons (.var 1) (.cons (.var 2) (.cons (.var 0) .nil)))))) (.cons (.asg (.one 7) (.lst .nil)) (.cons (.for (.tup [8,9]) .enum (.cons (.var 1) .nil) (.cons (.asg (.one 10) (.idx (.var 6) (.bin .mod (.var 9) (.var 5)))) (.cons (.asg (.one 11) (.idx (.var 6) (.bin .mod (.bin .fdiv (.var 9) (.var 5)) (.var 5)))) (.cons (.expr (.met .append (.var 7) (.cons (.tup (.cons (.call 1 (.cons (.var 2) (.cons (.var 3) (.cons (.var 8) .nil)))) (.cons (.blt .min (.cons (.var 10) (.cons (.var 11) .nil))) (.cons (.blt .max (.cons (.var 10) (.cons (.var 11) .nil))) .nil)))) .nil))) .nil)))) (.cons (.asg (.one 12) (.blt .sorted (.cons (.lst (.cons (.idx (.var 6) (.cst (.int 0))) (.cons (.idx (.var 6) (.bin .sub (.cst (.int 1)) (.blt .int (.cons (.cmp .eq (.bin .mod (.bin .fdiv (.var 4) (.cst (.int 7))) (.cst (.int 8))) (.cst (.int 3))) .nil)))) .nil))) .nil))) (.cons (.ret (.tup (.cons (.tup (.cons (.idx (.var 12) (.cst (.int 0))) (.cons (.idx (.var 12) (.cst (.int 1))) .nil))) (.cons (.blt .sorted (.cons (.var 7) .nil)) .nil)))) .nil)))))))))
noncomputable def jg:eW:=(.cons (.asg (.one 1) (.dct1 (.neg (.cst (.int 1))) (.idx (.var 0) (.cst (.int 0))))) (.cons (.for (.tup [2,3,4]) .seq (.cons (.idx (.var 0) (.cst (.int 1))) .nil) (.cons (.eB (.var 1) (.var 2) (.tup (.cons (.var 3) (.cons (.var 4) .nil)))) .nil)) (.cons (.ret (.var 1)) .nil)))
noncomputable def cI:eW:=(.cons (.asg (.one 2) (.lst .nil)) (.cons (.for (.tup [3,4,5]) .seq (.cons (.var 1) .nil) (.cons (.expr (.met .append (.var 2) (.cons (.tup (.cons (.var 3) (.cons (.blt .min (.cons (.var 4) (.cons (.var 5) .nil))) (.cons (.blt .max (.cons (.var 4) (.cons (.var 5) .nil))) .nil)))) .nil))) .nil)) (.cons (.ret (.tup (.cons (.tup (.cons (.blt .min (.cons (.idx (.var 0) (.cst (.int 0))) (.cons (.idx (.var 0) (.cst (.int 1))) .nil))) (.cons (.blt .max (.cons (.idx (.var 0) (.cst (.int 0))) (.cons (.idx (.var 0) (.cst (.int 1))) .nil))) .nil))) (.cons (.blt .sorted (.cons (.var 2) .nil)) .nil)))) .nil)))
noncomputable def gJ:eW:=(.cons (.ret (.call 4 (.cons (.idx (.var 0) (.cst (.int 0))) (.cons (.idx (.var 0) (.cst (.int 1))) .nil)))) .nil)
noncomputable def fh:eW:=(.cons (.asg (.one 1) (.blt .list (.cons (.idx (.var 0) (.cst (.int 0))) .nil))) (.cons (.for (.one 2) .seq (.cons (.idx (.var 0) (.cst (.int 1))) .nil) (.cons (.expr (.met .extend (.var 1) (.cons (.slc (.var 2) (.cst (.int 1)) .no) .nil))) .nil)) (.cons (.ret (.sset (.var 1))) .nil)))
noncomputable def uE:eW:=(.cons (.setF 3 (.var 0) "net" (.call 5 (.cons (.var 1) .nil))) (.cons (.setF 3 (.var 0) "places" (.call 6 (.cons (.fld 3 (.var 0) "net") .nil))) (.cons (.setF 3 (.var 0) "ends" (.dct1 (.con "THOUGHT" (.int (-1))) (.idx (.fld 3 (.var 0) "net") (.cst (.int 0))))) (.cons (.for (.tup [2,3,4]) .seq (.cons (.idx (.fld 3 (.var 0) "net") (.cst (.int 1))) .nil) (.cons (.eB (.fld 3 (.var 0) "ends") (.var 2) (.tup (.cons (.var 3) (.cons (.var 4) .nil)))) .nil)) .nil))))
noncomputable def lD:eW:=(.cons (.setF 3 (.var 0) "net" (.call 5 (.cons (.var 1) .nil))) (.cons (.setF 3 (.var 0) "places" (.call 6 (.cons (.fld 3 (.var 0) "net") .nil))) (.cons (.setF 3 (.var 0) "ends" (.dct1 (.con "THOUGHT" (.int (-1))) (.idx (.fld 3 (.var 0) "net") (.cst (.int 0))))) (.cons (.for (.tup [2,3,4]) .seq (.cons (.idx (.fld 3 (.var 0) "net") (.cst (.int 1))) .nil) (.cons (.eB (.fld 3 (.var 0) "ends") (.var 2) (.tup (.cons (.var 3) (.cons (.var 4) .nil)))) .nil)) .nil))))
noncomputable def fO:eW:=(.cons (.setF 3 (.var 0) "net" (.call 5 (.cons (.var 1) .nil))) (.cons (.setF 3 (.var 0) "places" (.call 6 (.cons (.fld 3 (.var 0) "net") .nil))) (.cons (.setF 3 (.var 0) "ends" (.dct1 (.con "THOUGHT" (.int (-1))) (.idx (.fld 3 (.var 0) "net") (.cst (.int 0))))) (.cons (.for (.tup [2,3,4]) .seq (.cons (.idx (.fld 3 (.var 0) "net") (.cst (.int 1))) .nil) (.cons (.eB (.fld 3 (.var 0) "ends") (.var 2) (.tup (.cons (.var 3) (.cons (.var 4) .nil)))) .nil)) .nil))))
noncomputable def fj:eW:=(.cons (.asg (.one 2) .dct0) (.cons (.for (.one 3) .seq (.cons (.var 0) .nil) (.cons (.eB (.var 2) (.var 3) (.var 3)) .nil)) (.cons (.for (.tup [4,5]) .seq (.cons (.var 1) .nil) (.cons (.asg (.one 6) (.blt .min (.cons (.idx (.var 2) (.var 4)) (.cons (.idx (.var 2) (.var 5)) .nil)))) (.cons (.asg (.one 7) (.blt .max (.cons (.idx (.var 2) (.var 4)) (.cons (.idx (.var 2) (.var 5)) .nil)))) (.cons (.for (.one 3) .seq (.cons (.var 0) .nil) (.cons (.iff (.cmp .eq (.idx (.var 2) (.var 3)) (.var 7)) (.cons (.eB (.var 2) (.var 3) (.var 6)) .nil) .nil) .nil)) .nil)))) (.cons (.ret (.var 2)) .nil))))
noncomputable def bY:eW:=(.cons (.asg (.one 2) (.call 10 (.cons (.fld 3 (.var 0) "places") (.cons (.comp ["tie","self"] [none,some 0] (.one 0) .seq (.cons (.var 1) .nil) .no (.idx (.fld 3 (.var 1) "ends") (.var 0))) .nil)))) (.cons (.ret (.blt .len (.cons (.comp ["place","firsts"] [none,some 2] (.one 0) .seq (.cons (.fld 3 (.var 0) "places") .nil) (.cmp .ne (.idx (.var 1) (.var 0)) (.var 0)) (.var 0)) .nil))) .nil))
noncomputable def gi:eW:=(.cons (.ret (.comp ["tie"] [none] (.one 0) .seq (.cons (.idx (.var 0) (.cst (.int 1))) .nil) .no (.idx (.var 0) (.cst (.int 0))))) .nil)
noncomputable def fk:eW:=(.cons (.ret (.bin .add (.lst (.cons (.con "THOUGHT" (.int (-1))) .nil)) (.call 12 (.cons (.fld 3 (.var 0) "net") .nil)))) .nil)
noncomputable def nJ:eW:=(.cons (.expr (.call 9 (.cons (.var 0) (.cons (.var 1) .nil)))) (.cons (.setF 3 (.var 0) "whole" (.mth (.var 0) "tree_rank" [(0,11),(1,11),(2,11)] (.cons (.mth (.var 0) "ties" [(0,13),(1,13),(2,13)] .nil) .nil))) .nil))
noncomputable def fP:eW:=(.cons (.iff (.cmp .eq (.var 0) (.cst (.int 1))) (.cons (.ret (.call 8 (.cons (.var 1) .nil))) .nil) .nil) (.cons (.iff (.cmp .eq (.var 0) (.cst (.int 2))) (.cons (.ret (.call 14 (.cons (.var 1) .nil))) .nil) .nil) (.cons (.ret (.call 7 (.cons (.var 1) .nil))) .nil)))
noncomputable def kr:eW:=(.cons (.asg (.one 2) (.lst .nil)) (.cons (.for (.one 3) .seq (.cons (.var 0) .nil) (.cons (.iff (.cmp .eq (.bin .mod (.var 1) (.cst (.int 2))) (.cst (.int 1))) (.cons (.expr (.met .append (.var 2) (.cons (.var 3) .nil))) .nil) .nil) (.cons (.asg (.one 1) (.bin .fdiv (.var 1) (.cst (.int 2)))) .nil))) (.cons (.ret (.var 2)) .nil)))
noncomputable def gj:eW:=(.cons (.asg (.one 2) .dct0) (.cons (.asg (.one 3) (.cst (.int 0))) (.cons (.for (.one 4) .seq (.cons (.var 1) .nil) (.cons (.asg (.one 5) (.dget (.var 2) (.idx (.idx (.var 0) (.var 4)) (.cst (.int 0))) (.idx (.idx (.var 0) (.var 4)) (.cst (.int 0))))) (.cons (.asg (.one 6) (.dget (.var 2) (.idx (.idx (.var 0) (.var 4)) (.cst (.int 1))) (.idx (.idx (.var 0) (.var 4)) (.cst (.int 1))))) (.cons (.iff (.cmp .ne (.var 5) (.var 6)) (.cons (.aug 3 .add (.cst (.int 1))) (.cons (.eB (.var 2) (.idx (.idx (.var 0) (.var 4)) (.cst (.int 0))) (.var 5)) (.cons (.eB (.var 2) (.idx (.idx (.var 0) (.var 4)) (.cst (.int 1))) (.var 6)) (.cons (.for (.one 7) .seq (.cons (.lkeys (.var 2)) .nil) (.cons (.iff (.cmp .eq (.idx (.var 2) (.var 7)) (.var 6)) (.cons (.eB (.var 2) (.var 7) (.var 5)) .nil) .nil) .nil)) .nil)))) .nil) .nil)))) (.cons (.ret (.var 3)) .nil))))
noncomputable def fQ:eW:=(.cons (.iff (.cmp .eq (.var 0) (.cst (.int 0))) (.cons (.ret (.blt .len (.cons (.var 2) .nil))) .nil) .nil) (.cons (.iff (.cmp .eq (.var 0) (.cst (.int 1))) (.cons (.ret (.call 17 (.cons (.var 1) (.cons (.var 2) .nil)))) .nil) .nil) (.cons (.asg (.one 3) (.dflt ["_law_name","_law_row_here"] [none,some 2] 0 1 (.var 1) (.var 2))) (.cons (.ret (.bin .add (.bin .sub (.blt .len (.cons (.var 2) .nil)) (.call 17 (.cons (.var 1) (.cons (.lkeys (.var 1)) .nil)))) (.call 17 (.cons (.var 1) (.cons (.var 3) .nil))))) .nil))))
noncomputable def fq:eW:=(.cons (.ret (.blt .len (.cons (.var 1) .nil))) .nil)
noncomputable def cJ:eW:=(.cons (.ret (.mth (.var 0) "tree_rank" [(0,11),(1,11),(2,11)] (.cons (.var 1) .nil))) .nil)
noncomputable def cU:eW:=(.cons (.asg (.one 2) (.comp ["tie","row"] [none,some 1] (.one 0) .seq (.cons (.mth (.var 0) "ties" [(0,13),(1,13),(2,13)] .nil) .nil) (.cmp .nin (.var 0) (.var 1)) (.var 0))) (.cons (.ret (.bin .add (.bin .sub (.blt .len (.cons (.var 1) .nil)) (.fld 3 (.var 0) "whole")) (.mth (.var 0) "tree_rank" [(0,11),(1,11),(2,11)] (.cons (.var 2) .nil)))) .nil))
noncomputable def fu:eW:=(.cons (.ret (.cmp .eq (.mth (.var 0) "rank" [(0,19),(1,20),(2,21)] (.cons (.var 1) .nil)) (.blt .len (.cons (.var 1) .nil)))) .nil)
noncomputable def dH:eW:=(.cons (.asg (.one 2) (.mth (.var 0) "rank" [(0,19),(1,20),(2,21)] (.cons (.var 1) .nil))) (.cons (.ret (.comp ["tie","row","rank","self"] [none,some 1,some 2,some 0] (.one 0) .seq (.cons (.mth (.var 0) "ties" [(0,13),(1,13),(2,13)] .nil) .nil) (.or (.cmp .vD (.var 0) (.var 1)) (.cmp .le (.mth (.var 3) "rank" [(0,19),(1,20),(2,21)] (.cons (.bin .add (.var 1) (.lst (.cons (.var 0) .nil))) .nil)) (.var 2))) (.var 0))) .nil))
noncomputable def dJ:eW:=(.cons (.iff (.or (.not (.blt (.isin "list") (.cons (.var 0) .nil))) (.cmp .ne (.var 0) (.blt .sorted (.cons (.var 0) .nil)))) (.cons (.ret (.cst (.bl false))) .nil) .nil) (.cons (.ret (.blt .all (.cons (.comp ["_law_one"] [none] (.one 0) .seq (.cons (.var 0) .nil) .no (.and (.blt (.isin "int") (.cons (.var 0) .nil)) (.not (.blt (.isin "bool") (.cons (.var 0) .nil))))) .nil))) .nil))
noncomputable def ku:eW:=(.cons (.asg (.one 1) (.bin .fdiv (.call 0 (.cons (.var 0) (.cons (.cst (.int 2)) .nil))) (.cst (.int 56)))) (.cons (.asg (.one 2) (.call 2 (.cons (.var 0) (.cons (.slc (.var 0) (.cst (.int 3)) (.bin .add (.cst (.int 3)) (.bin .mod (.var 1) (.cst (.int 15))))) .nil)))) (.cons (.asg (.one 3) (.call 3 (.cons (.var 2) .nil))) (.cons (.asg (.one 4) (.bin .mod (.bin .fdiv (.var 1) (.cst (.int 15))) (.cst (.int 3)))) (.cons (.asg (.one 5) (.call 15 (.cons (.var 4) (.cons (.var 2) .nil)))) (.cons (.iff (.not (.isc (.var 5) "Rule" [true,true,true])) (.cons (.ret (.cst (.bl false))) .nil) .nil) (.cons (.for (.one 6) .seq (.cons (.bin .add (.lst (.cons (.cst (.int 0)) .nil)) (.slc (.var 0) (.cst (.int 17)) (.cst (.int 33)))) .nil) (.cons (.asg (.one 7) (.call 16 (.cons (.skeys (.var 3)) (.cons (.bin .fdiv (.var 6) (.cst (.int 2))) .nil)))) (.cons (.iff (.cmp .eq (.bin .mod (.var 6) (.cst (.int 2))) (.cst (.int 1))) (.cons (.asg (.one 7) (.rev (.var 7) (.neg (.cst (.int 1))))) .nil) .nil) (.cons (.asg (.one 8) (.blt .list (.cons (.var 7) .nil))) (.cons (.asg (.one 9) (.call 18 (.cons (.var 4) (.cons (.var 3) (.cons (.var 7) .nil))))) (.cons (.asg (.one 10) (.mth (.var 5) "free" [(0,22),(1,22),(2,22)] (.cons (.var 8) .nil))) (.cons (.iff (.or (.not (.blt (.isin "bool") (.cons (.var 10) .nil))) (.cmp .ne (.var 10) (.cmp .eq (.var 9) (.blt .len (.cons (.var 7) .nil))))) (.cons (.ret (.cst (.bl false))) .nil) .nil) (.cons (.asg (.one 11) (.lst .nil)) (.cons (.for (.one 12) .seq (.cons (.skeys (.var 3)) .nil) (.cons (.iff (.or (.cmp .vD (.var 12) (.var 7)) (.cmp .eq (.call 18 (.cons (.var 4) (.cons (.var 3) (.cons (.bin .add (.var 7) (.lst (.cons (.var 12) .nil))) .nil)))) (.var 9))) (.cons (.expr (.met .append (.var 11) (.cons (.var 12) .nil))) .nil) .nil) .nil)) (.cons (.asg (.one 13) (.mth (.var 5) "reach" [(0,23),(1,23),(2,23)] (.cons (.var 8) .nil))) (.cons (.iff (.or (.not (.call 24 (.cons (.var 13) .nil))) (.or (.cmp .ne (.var 13) (.var 11)) (.cmp .ne (.var 8) (.var 7)))) (.cons (.ret (.cst (.bl false))) .nil) .nil) (.cons (.expr (.met .append (.var 13) (.cons (.cst (.int 0)) .nil))) (.cons (.iff (.cmp .ne (.mth (.var 5) "reach" [(0,23),(1,23),(2,23)] (.cons (.var 8) .nil)) (.var 11)) (.cons (.ret (.cst (.bl false))) .nil) .nil) .nil))))))))))))) (.cons (.ret (.cst (.bl true))) .nil))))))))
noncomputable def PR:List Row:=[]
noncomputable def wJ:List Val->M Val:=gU (look PR) 2 jf
noncomputable def PU:List Row:=PR++[(("_law_cell":Str),2,wJ)]
noncomputable def qI:List Val->M Val:=gU (look PU) 5 gh
noncomputable def PV:List Row:=PU++[(("_law_number":Str),3,qI)]
noncomputable def zU:List Val->M Val:=gU (look PV) 13 kq
noncomputable def PX:List Row:=PV++[(("_law_net":Str),2,zU)]
noncomputable def wK:List Val->M Val:=gU (look PX) 5 jg
noncomputable def PY:List Row:=PX++[(("_law_ends":Str),1,wK)]
noncomputable def kB:List Val->M Val:=gU (look PY) 6 cI
noncomputable def PZ:List Row:=PY++[(("put_in_order":Str),2,kB)]
noncomputable def sY:List Val->M Val:=gU (look PZ) 1 gJ
noncomputable def P0:List Row:=PZ++[(("own_net":Str),1,sY)]
noncomputable def nZ:List Val->M Val:=gU (look P0) 3 fh
noncomputable def P1:List Row:=P0++[(("places_of":Str),1,nZ)]
noncomputable def DM:List Val->M Val:=Cy 0 (gU (look P1) 5 uE)
noncomputable def P4:List Row:=P1++[(("Rule":Str),1,DM)]
noncomputable def sZ:List Val->M Val:=Cy 1 (gU (look P4) 5 lD)
noncomputable def P5:List Row:=P4++[(("ByTrees":Str),1,sZ)]
noncomputable def jM:List Val->M Val:=gU (look P5) 5 fO
noncomputable def DN:List Row:=P5++[(("Rule.__init__":Str),1002,jM)]
noncomputable def n5:List Val->M Val:=gU (look DN) 8 fj
noncomputable def DO:List Row:=DN++[(("firsts_by":Str),2,n5)]
noncomputable def jh:List Val->M Val:=gU (look DO) 3 bY
noncomputable def DP:List Row:=DO++[(("Rule.tree_rank":Str),1002,jh)]
noncomputable def qJ:List Val->M Val:=gU (look DP) 1 gi
noncomputable def DQ:List Row:=DP++[(("names_of":Str),1,qJ)]
noncomputable def n6:List Val->M Val:=gU (look DQ) 1 fk
noncomputable def DR:List Row:=DQ++[(("Rule.ties":Str),1001,n6)]
noncomputable def wL:List Val->M Val:=Cy 2 (gU (look DR) 2 nJ)
noncomputable def DS:List Row:=DR++[(("ByRest":Str),1,wL)]
noncomputable def wM:List Val->M Val:=gU (look DS) 2 fP
noncomputable def DT:List Row:=DS++[(("_law_rule":Str),2,wM)]
noncomputable def zV:List Val->M Val:=gU (look DT) 4 kr
noncomputable def DU:List Row:=DT++[(("_law_row":Str),2,zV)]
noncomputable def qK:List Val->M Val:=gU (look DU) 8 gj
noncomputable def DV:List Row:=DU++[(("_law_joined":Str),2,qK)]
noncomputable def wN:List Val->M Val:=gU (look DV) 4 fQ
noncomputable def DW:List Row:=DV++[(("_law_rank":Str),3,wN)]
noncomputable def n8:List Val->M Val:=gU (look DW) 2 fq
noncomputable def DX:List Row:=DW++[(("Rule.rank":Str),1002,n8)]
noncomputable def kC:List Val->M Val:=gU (look DX) 2 cJ
noncomputable def DY:List Row:=DX++[(("ByTrees.rank":Str),1002,kC)]
noncomputable def k9:List Val->M Val:=gU (look DY) 3 cU
noncomputable def DZ:List Row:=DY++[(("ByRest.rank":Str),1002,k9)]
noncomputable def n9:List Val->M Val:=gU (look DZ) 2 fu
noncomputable def D3:List Row:=DZ++[(("Rule.free":Str),1002,n9)]
noncomputable def mG:List Val->M Val:=gU (look D3) 3 dH
noncomputable def D4:List Row:=D3++[(("Rule.reach":Str),1002,mG)]
noncomputable def mH:List Val->M Val:=gU (look D4) 1 dJ
noncomputable def D5:List Row:=D4++[(("_law_told_row":Str),1,mH)]
noncomputable def zW:List Val->M Val:=gU (look D5) 14 ku
noncomputable def Y9:List Row:=D5++[(("law":Str),1,zW)]
noncomputable def Tg:List bw:=[]
noncomputable def dM:bw:=gA (ak Tg) 2 jf
noncomputable def Th:List bw:=Tg++[dM]
noncomputable def gK:bw:=gA (ak Th) 5 gh
noncomputable def P6:List bw:=Th++[gK]
noncomputable def mJ:bw:=gA (ak P6) 13 kq
noncomputable def Ti:List bw:=P6++[mJ]
noncomputable def kD:bw:=gA (ak Ti) 5 jg
noncomputable def Tj:List bw:=Ti++[kD]
noncomputable def cV:bw:=gA (ak Tj) 6 cI
noncomputable def Ra:List bw:=Tj++[cV]
noncomputable def cM:bw:=gA (ak Ra) 1 gJ
noncomputable def Tn:List bw:=Ra++[cM]
noncomputable def bZ:bw:=gA (ak Tn) 3 fh
noncomputable def P7:List bw:=Tn++[bZ]
noncomputable def uF:bw:=ki (ak P7) 0 5 6
noncomputable def P8:List bw:=P7++[uF]
noncomputable def kO:bw:=ki (ak P8) 1 5 6
noncomputable def P9:List bw:=P8++[kO]
noncomputable def gq:bw:=λ_=>.no
noncomputable def Mr:List bw:=P9++[gq]
noncomputable def dU:bw:=gA (ak Mr) 8 fj
noncomputable def Hy:List bw:=Mr++[dU]
noncomputable def aR:bw:=gA (ak Hy) 3 bY
noncomputable def Ms:List bw:=Hy++[aR]
noncomputable def gM:bw:=gA (ak Ms) 1 gi
noncomputable def Hz:List bw:=Ms++[gM]
noncomputable def cE:bw:=gA (ak Hz) 1 fk
noncomputable def Bq:List bw:=Hz++[cE]
noncomputable def mK:bw:=sW (ak P9) (ak Bq) 2 5 6 13 11
noncomputable def Br:List bw:=Bq++[mK]
noncomputable def gO:bw:=gA (ak Br) 2 fP
noncomputable def Mt:List bw:=Br++[gO]
noncomputable def mL:bw:=gA (ak Mt) 4 kr
noncomputable def Mv:List bw:=Mt++[mL]
noncomputable def fR:bw:=gA (ak Mv) 8 gj
noncomputable def HD:List bw:=Mv++[fR]
noncomputable def gP:bw:=gA (ak HD) 4 fQ
noncomputable def Mw:List bw:=HD++[gP]
noncomputable def dW:bw:=gA (ak Mw) 2 fq
noncomputable def HE:List bw:=Mw++[dW]
noncomputable def cB:bw:=gA (ak HE) 2 cJ
noncomputable def D6:List bw:=HE++[cB]
noncomputable def ck:bw:=gA (ak D6) 3 cU
noncomputable def yz:List bw:=D6++[ck]
noncomputable def gk:bw:=gA (ak yz) 2 fu
noncomputable def uG:List bw:=yz++[gk]
noncomputable def fz:bw:=gA (ak uG) 3 dH
noncomputable def Mx:List bw:=uG++[fz]
noncomputable def fB:bw:=gA (ak Mx) 1 dJ
noncomputable def cG:List bw:=Mx++[fB]
noncomputable def D7:bw:=Mn (ak cG) 14 ku
noncomputable def Za:List bw:=cG++[D7]
theorem oH:ak P6 0=dM:=rfl
theorem ig:ak P6 1=gK:=rfl
theorem jk:ak Ra 4=cV:=rfl
theorem oJ:ak P7 5=cM:=rfl
theorem mO:ak P7 6=bZ:=rfl
theorem lE:ak P8 5=cM:=rfl
theorem kE:ak P8 6=bZ:=rfl
theorem iL:ak P9 5=cM:=rfl
theorem gQ:ak P9 6=bZ:=rfl
theorem gC:ak Hy 10=dU:=rfl
theorem jS:ak Hz 12=gM:=rfl
theorem tu:ak Bq 9=gq:=rfl
theorem iM:ak Bq 11=aR:=rfl
theorem kU:ak Bq 13=cE:=rfl
theorem qL:ak Br 7=uF:=rfl
theorem mP:ak Br 8=kO:=rfl
theorem nK:ak Br 14=mK:=rfl
theorem gR:ak HD 17=fR:=rfl
theorem fS:ak HE 11=aR:=rfl
theorem gm:ak D6 11=aR:=rfl
theorem iN:ak D6 13=cE:=rfl
theorem jE:ak yz 19=dW:=rfl
theorem gW:ak yz 20=cB:=rfl
theorem iO:ak yz 21=ck:=rfl
theorem jl:ak uG 13=cE:=rfl
theorem dX:ak uG 19=dW:=rfl
theorem cW:ak uG 20=cB:=rfl
theorem dh:ak uG 21=ck:=rfl
theorem rL:ak cG 0=dM:=rfl
theorem uH:ak cG 2=mJ:=rfl
theorem rM:ak cG 3=kD:=rfl
theorem rN:ak cG 15=gO:=rfl
theorem uI:ak cG 16=mL:=rfl
theorem iP:ak cG 18=gP:=rfl
theorem nL:ak cG 22=gk:=rfl
theorem iu:ak cG 23=fz:=rfl
theorem mQ:ak cG 24=fB:=rfl
theorem i0:eE PR Tg:=Dq
theorem D8:Imp wJ dM:=cj (aD i0) (by decide +kernel)
theorem i1:eE PU Th:=aG i0 D8
theorem yC:Imp qI gK:=cj (aD i1) (by decide +kernel)
theorem i2:eE PV P6:=aG i1 yC
theorem HF:Imp zU mJ:=cj (aD i2) (by decide +kernel)
theorem i3:eE PX Ti:=aG i2 HF
theorem D9:Imp wK kD:=cj (aD i3) (by decide +kernel)
theorem i4:eE PY Tj:=aG i3 D9
theorem qM:Imp kB cV:=cj (aD i4) (by decide +kernel)
theorem i5:eE PZ Ra:=aG i4 qM
theorem Bs:Imp sY cM:=cj (aD i5) (by decide +kernel)
theorem i6:eE P0 Tn:=aG i5 Bs
theorem wO:Imp nZ bZ:=cj (aD i6) (by decide +kernel)
theorem i7:eE P1 P7:=aG i6 wO
theorem My:Imp DM uF:=wD (n:=3) (by decide) (aD i7)
theorem i8:eE P4 P8:=aG i7 My
theorem Bt:Imp sZ kO:=wD (n:=3) (by decide) (aD i8)
theorem i9:eE P5 P9:=aG i8 Bt
theorem oK:Imp jM gq:=DC
theorem WU:eE DN Mr:=aG i9 oK
theorem wQ:Imp n5 dU:=cj (aD WU) (by decide +kernel)
theorem WW:eE DO Hy:=aG WU wQ
theorem nM:Imp jh aR:=cj (aD WW) (by decide +kernel)
theorem i12:eE DP Ms:=aG WW nM
theorem yD:Imp qJ gM:=cj (aD i12) (by decide +kernel)
theorem WX:eE DQ Hz:=aG i12 yD
theorem wR:Imp n6 cE:=cj (aD WX) (by decide +kernel)
theorem WY:eE DR Bq:=aG WX wR
theorem Ea:Imp wL mK:=DE (n:=3) (ji:=9) (by decide) (aD i9) (aD WY) rfl rfl rfl
theorem WZ:eE DS Br:=aG WY Ea
theorem Eb:Imp wM gO:=cj (aD WZ) (by decide +kernel)
theorem W0:eE DT Mt:=aG WZ Eb
theorem HG:Imp zV mL:=cj (aD W0) (by decide +kernel)
theorem W2:eE DU Mv:=aG W0 HG
theorem yE:Imp qK fR:=cj (aD W2) (by decide +kernel)
theorem W3:eE DV HD:=aG W2 yE
theorem Ec:Imp wN gP:=cj (aD W3) (by decide +kernel)
theorem W4:eE DW Mw:=aG W3 Ec
theorem wU:Imp n8 dW:=cj (aD W4) (by decide +kernel)
theorem W5:eE DX HE:=aG W4 wU
theorem qN:Imp kC cB:=cj (aD W5) (by decide +kernel)
theorem W6:eE DY D6:=aG W5 qN
theorem rO:Imp k9 ck:=cj (aD W6) (by decide +kernel)
theorem W7:eE DZ yz:=aG W6 rO
theorem wV:Imp n9 gk:=cj (aD W7) (by decide +kernel)
theorem W8:eE D3 uG:=aG W7 wV
theorem uJ:Imp mG fz:=cj (aD W8) (by decide +kernel)
theorem W9:eE D4 Mx:=aG W8 uJ
theorem uK:Imp mH fB:=cj (aD W9) (by decide +kernel)
theorem Zb:eE D5 cG:=aG W9 uK
theorem HH{ns:List Int}{f:Bool}(e:D7 [.rl (ns.map .int)]=.ok (f,.bl true)):∃h',zW [.rl (ns.map .int)] []=.ok (.bl true) h':=Bp (aD Zb) (by decide +kernel) e
theorem c0:aU ["_law_script","_law_k"] ["_law_script","_law_k"] (af (top 13))=true:=by decide +kernel
theorem d0:bq ⟨["_law_script","_law_k"],af (top 13),PR.map (λr=>(r.1,r.2.1)),cons,tb⟩ jf (aj (top 13))=true:=by decide +kernel
theorem c1:aU ["_law_one","_law_two","_law_k","_law_step","_law_shift"] ["_law_one","_law_two","_law_k"] (af (top 14))=true:=by decide +kernel
theorem d1:bq ⟨["_law_one","_law_two","_law_k","_law_step","_law_shift"],af (top 14),PU.map (λr=>(r.1,r.2.1)),cons,tb⟩ gh (aj (top 14))=true:=by decide +kernel
theorem c2:aU ["_law_script","_law_cells","_law_one","_law_two","_law_pick","_law_many","_law_places","_law_ties","_law_k","_law_cell_here","_law_here","_law_there","_law_poles"] ["_law_script","_law_cells"] (af (top 15))=true:=by decide +kernel
theorem d2:bq ⟨["_law_script","_law_cells","_law_one","_law_two","_law_pick","_law_many","_law_places","_law_ties","_law_k","_law_cell_here","_law_here","_law_there","_law_poles"],af (top 15),PV.map (λr=>(r.1,r.2.1)),cons,tb⟩ kq (aj (top 15))=true:=by decide +kernel
theorem c3:aU ["_law_net_here","_law_ends_here","_law_name","_law_one","_law_other"] ["_law_net_here"] (af (top 16))=true:=by decide +kernel
theorem d3:bq ⟨["_law_net_here","_law_ends_here","_law_name","_law_one","_law_other"],af (top 16),PX.map (λr=>(r.1,r.2.1)),cons,tb⟩ jg (aj (top 16))=true:=by decide +kernel
theorem c4:aU ["poles","ties","named","name","one","other"] ["poles","ties"] (af (top 1))=true:=by decide +kernel
theorem d4:bq ⟨["poles","ties","named","name","one","other"],af (top 1),PY.map (λr=>(r.1,r.2.1)),cons,tb⟩ cI (aj (top 1))=true:=by decide +kernel
theorem c5:aU ["net"] ["net"] (af (top 2))=true:=by decide +kernel
theorem d5:bq ⟨["net"],af (top 2),PZ.map (λr=>(r.1,r.2.1)),cons,tb⟩ gJ (aj (top 2))=true:=by decide +kernel
theorem c6:aU ["net","places","tie"] ["net"] (af (top 3))=true:=by decide +kernel
theorem d6:bq ⟨["net","places","tie"],af (top 3),P0.map (λr=>(r.1,r.2.1)),cons,tb⟩ fh (aj (top 3))=true:=by decide +kernel
theorem c7:aU ["self","net","name","one","other"] ["self","net"] (af (bA 0))=true:=by decide +kernel
theorem d7:bq ⟨["self","net","name","one","other"],af (bA 0),P1.map (λr=>(r.1,r.2.1)),cons,tb⟩ uE (aj (bA 0))=true:=by decide +kernel
theorem c8:aU ["self","net","name","one","other"] ["self","net"] (af (bA 0))=true:=by decide +kernel
theorem d8:bq ⟨["self","net","name","one","other"],af (bA 0),P4.map (λr=>(r.1,r.2.1)),cons,tb⟩ lD (aj (bA 0))=true:=by decide +kernel
theorem c9:aU ["self","net","name","one","other"] ["self","net"] (af (bA 0))=true:=by decide +kernel
theorem d9:bq ⟨["self","net","name","one","other"],af (bA 0),P5.map (λr=>(r.1,r.2.1)),cons,tb⟩ fO (aj (bA 0))=true:=by decide +kernel
theorem oh:aU ["places","pairs","firsts","place","one","other","kept","gone"] ["places","pairs"] (af (top 6))=true:=by decide +kernel
theorem EJ:bq ⟨["places","pairs","firsts","place","one","other","kept","gone"],af (top 6),DN.map (λr=>(r.1,r.2.1)),cons,tb⟩ fj (aj (top 6))=true:=by decide +kernel
theorem lH:aU ["self","row","firsts"] ["self","row"] (af (bA 7))=true:=by decide +kernel
theorem Qa:bq ⟨["self","row","firsts"],af (bA 7),DO.map (λr=>(r.1,r.2.1)),cons,tb⟩ bY (aj (bA 7))=true:=by decide +kernel
theorem c12:aU ["net"] ["net"] (af (top 4))=true:=by decide +kernel
theorem yF:bq ⟨["net"],af (top 4),DP.map (λr=>(r.1,r.2.1)),cons,tb⟩ gi (aj (top 4))=true:=by decide +kernel
theorem iQ:aU ["self"] ["self"] (af (bA 3))=true:=by decide +kernel
theorem Qc:bq ⟨["self"],af (bA 3),DQ.map (λr=>(r.1,r.2.1)),cons,tb⟩ fk (aj (bA 3))=true:=by decide +kernel
theorem Zc:aU ["self","net"] ["self","net"] (af (ie 0))=true:=by decide +kernel
theorem Zd:bq ⟨["self","net"],af (ie 0),DR.map (λr=>(r.1,r.2.1)),cons,tb⟩ nJ (aj (ie 0))=true:=by decide +kernel
theorem Ze:aU ["_law_kind","_law_net_here"] ["_law_kind","_law_net_here"] (af (top 19))=true:=by decide +kernel
theorem Zf:bq ⟨["_law_kind","_law_net_here"],af (top 19),DS.map (λr=>(r.1,r.2.1)),cons,tb⟩ fP (aj (top 19))=true:=by decide +kernel
theorem Zg:aU ["_law_names","_law_cell_here","_law_row_here","_law_name"] ["_law_names","_law_cell_here"] (af (top 20))=true:=by decide +kernel
theorem Zh:bq ⟨["_law_names","_law_cell_here","_law_row_here","_law_name"],af (top 20),DT.map (λr=>(r.1,r.2.1)),cons,tb⟩ kr (aj (top 20))=true:=by decide +kernel
theorem Zi:aU ["_law_ends_here","_law_row_here","_law_part","_law_many","_law_name","_law_one","_law_other","_law_place"] ["_law_ends_here","_law_row_here"] (af (top 17))=true:=by decide +kernel
theorem Zj:bq ⟨["_law_ends_here","_law_row_here","_law_part","_law_many","_law_name","_law_one","_law_other","_law_place"],af (top 17),DU.map (λr=>(r.1,r.2.1)),cons,tb⟩ gj (aj (top 17))=true:=by decide +kernel
theorem Zk:aU ["_law_kind","_law_ends_here","_law_row_here","_law_rest"] ["_law_kind","_law_ends_here","_law_row_here"] (af (top 18))=true:=by decide +kernel
theorem Zl:bq ⟨["_law_kind","_law_ends_here","_law_row_here","_law_rest"],af (top 18),DV.map (λr=>(r.1,r.2.1)),cons,tb⟩ fQ (aj (top 18))=true:=by decide +kernel
theorem Zm:aU ["self","row"] ["self","row"] (af (bA 4))=true:=by decide +kernel
theorem Zn:bq ⟨["self","row"],af (bA 4),DW.map (λr=>(r.1,r.2.1)),cons,tb⟩ fq (aj (bA 4))=true:=by decide +kernel
theorem Zo:aU ["self","row"] ["self","row"] (af (qH 1))=true:=by decide +kernel
theorem Zp:bq ⟨["self","row"],af (qH 1),DX.map (λr=>(r.1,r.2.1)),cons,tb⟩ cJ (aj (qH 1))=true:=by decide +kernel
theorem Zq:aU ["self","row","rest"] ["self","row"] (af (ie 2))=true:=by decide +kernel
theorem Zr:bq ⟨["self","row","rest"],af (ie 2),DY.map (λr=>(r.1,r.2.1)),cons,tb⟩ cU (aj (ie 2))=true:=by decide +kernel
theorem Zs:aU ["self","row"] ["self","row"] (af (bA 5))=true:=by decide +kernel
theorem Zt:bq ⟨["self","row"],af (bA 5),DZ.map (λr=>(r.1,r.2.1)),cons,tb⟩ fu (aj (bA 5))=true:=by decide +kernel
theorem Zu:aU ["self","row","rank"] ["self","row"] (af (bA 6))=true:=by decide +kernel
theorem Zv:bq ⟨["self","row","rank"],af (bA 6),D3.map (λr=>(r.1,r.2.1)),cons,tb⟩ dH (aj (bA 6))=true:=by decide +kernel
theorem Zw:aU ["_law_found"] ["_law_found"] (af (top 21))=true:=by decide +kernel
theorem Zx:bq ⟨["_law_found"],af (top 21),D4.map (λr=>(r.1,r.2.1)),cons,tb⟩ dJ (aj (top 21))=true:=by decide +kernel
theorem Zy:aU ["_law_script","_law_size","_law_net_here","_law_ends_here","_law_kind","_law_rule_here","_law_cell_here","_law_picked","_law_handed","_law_many","_law_told","_law_due","_law_name","_law_found"] ["_law_script"] (af (top 22))=true:=by decide +kernel
theorem Zz:bq ⟨["_law_script","_law_size","_law_net_here","_law_ends_here","_law_kind","_law_rule_here","_law_cell_here","_law_picked","_law_handed","_law_many","_law_told","_law_due","_law_name","_law_found"],af (top 22),D5.map (λr=>(r.1,r.2.1)),cons,tb⟩ ku (aj (top 22))=true:=by decide +kernel
section
variable {P:Program} {w:World} {K:PySem.W.Frag} {mg:Str->Option Value} {base:Heap}
theorem all_mk{l:PySem.W.OpenLaw}{h:Heap}{fa:Addr}(X:K.In h)(G:h.Ns mainGlobals mg)(N8:mg "law" = some (.ref fa))(hφ:∀ns:List Int,ns.length<=63->∃h',zW [.rl (ns.map .int)] []=.ok (.bl true) h'){D0:Addr}{D1:Addr}{D2:Addr}{E0:Addr}{ZA ZC ZD ZE Xa ZF:Value}{ZG ZH:Option Addr}{ZI:Array (Option Value)}{a0:Addr}{ZJ ZK ZL ZM Xb ZN:Value}{ZO ZP:Option Addr}{ZQ:Array (Option Value)}{a1:Addr}{ZR ZS ZT ZU Xc ZV:Value}{ZW K6:Option Addr}{sl2:Array (Option Value)}{a2:Addr}{ZX ZY ZZ pm3 Xd ct3:Value}{od3 an3:Option Addr}{sl3:Array (Option Value)}{a3:Addr}{oc4 kV4 dc4 pm4 Xe ct4:Value}{od4 an4:Option Addr}{sl4:Array (Option Value)}{a4:Addr}{oc5 kV5 dc5 pm5 Xf ct5:Value}{od5 an5:Option Addr}{sl5:Array (Option Value)}{a5:Addr}{oc6 kV6 dc6 pm6 Xg ct6:Value}{od6 an6:Option Addr}{sl6:Array (Option Value)}{a6:Addr}{oc7 kV7 dc7 pm7 Xh ct7:Value}{od7 an7:Option Addr}{sl7:Array (Option Value)}{a7:Addr}{oc8 kV8 dc8 pm8 Xi ct8:Value}{od8 an8:Option Addr}{sl8:Array (Option Value)}{a8:Addr}{oc9 kV9 dc9 pm9 Xj ct9:Value}{od9 an9:Option Addr}{sl9:Array (Option Value)}{a9:Addr}{To Tp Tq Tr Qd Tt:Value}{Tu Tv:Option Addr}{Tw:Array (Option Value)}{Rb:Addr}{Tz TF TH TJ Qe TL:Value}{TM TQ:Option Addr}{TR:Array (Option Value)}{IT:Addr}{TU TV TX TY Qf TZ:Value}{T4 T5:Option Addr}{T6:Array (Option Value)}{Rc:Addr}{T7 T8 T9 Ua Qg Ub:Value}{Uc Ud:Option Addr}{Ue:Array (Option Value)}{IU:Addr}{Ug Uh Ui Uj Qh Uk:Value}{Ul Um:Option Addr}{Uo:Array (Option Value)}{Qi:Addr}{Uq Ur Us Ut Qj Uu:Value}{Uv Uw:Option Addr}{Ux:Array (Option Value)}{Rf:Addr}{Uy Uz UA UB Qk UC:Value}{UD UE:Option Addr}{UG:Array (Option Value)}{Rg:Addr}{UH UI UJ UK Ql UL:Value}{UM UN:Option Addr}{UO:Array (Option Value)}{Rh:Addr}{UP UQ US UT Qm UU:Value}{UW UX:Option Addr}{UY:Array (Option Value)}{Ri:Addr}{UZ U0 U3 U4 Qn U5:Value}{U6 U7:Option Addr}{U8:Array (Option Value)}{MY:Addr}{U9 Va Vb Vc Qo Vd:Value}{Ve Vf:Option Addr}{Vg:Array (Option Value)}{MZ:Addr}{Vh Vi Vj Vk Qp Vl:Value}{Vm Vn:Option Addr}{Vo:Array (Option Value)}{M0:Addr}{Vp Vq Vr Vs Qq Vt:Value}{Vu Vv:Option Addr}{Vw:Array (Option Value)}{IV:Addr}{Vx Vy Vz VA Qs VB:Value}{VC VD:Option Addr}{VE:Array (Option Value)}{IW:Addr}{VF VG VH VI Qt VJ:Value}{VL VM:Option Addr}{VN:Array (Option Value)}{Rj:Addr}{VO Qu Qv Qw Mz Qx:Value}{VP Qy:Option Addr}{VQ:Array (Option Value)}{VS:Addr}{tk0:Tok}
  (DA0:PySem.W.nsIn K mainGlobals "Rule" = some (some (.ref D0))) (DG0:plainGet K D0 Str.empty=true) (DH0:hasDictIn K D0=true) (DO0:plainOver K D0=true) (DS0:findIn K (.ref D0) "__setattr__" = some (some (.builtin "object.__setattr__"))) (DM0:makesIn K D0=true) (DK0:keepIn K (.ref D0)=true)
  (DN0_0:findIn K (.ref D0) "net" = some none)
  (DN0_1:findIn K (.ref D0) "places" = some none)
  (DN0_2:findIn K (.ref D0) "ends" = some none)
  (DN0_3:findIn K (.ref D0) "whole" = some none)
  (DA1:PySem.W.nsIn K mainGlobals "ByTrees" = some (some (.ref D1))) (DG1:plainGet K D1 Str.empty=true) (DH1:hasDictIn K D1=true) (DO1:plainOver K D1=true) (DS1:findIn K (.ref D1) "__setattr__" = some (some (.builtin "object.__setattr__"))) (DM1:makesIn K D1=true) (DK1:keepIn K (.ref D1)=true)
  (DN1_0:findIn K (.ref D1) "net" = some none)
  (DN1_1:findIn K (.ref D1) "places" = some none)
  (DN1_2:findIn K (.ref D1) "ends" = some none)
  (DN1_3:findIn K (.ref D1) "whole" = some none)
  (DA2:PySem.W.nsIn K mainGlobals "ByRest" = some (some (.ref D2))) (DG2:plainGet K D2 Str.empty=true) (DH2:hasDictIn K D2=true) (DO2:plainOver K D2=true) (DS2:findIn K (.ref D2) "__setattr__" = some (some (.builtin "object.__setattr__"))) (DM2:makesIn K D2=true) (DK2:keepIn K (.ref D2)=true)
  (DN2_0:findIn K (.ref D2) "net" = some none)
  (DN2_1:findIn K (.ref D2) "places" = some none)
  (DN2_2:findIn K (.ref D2) "ends" = some none)
  (DN2_3:findIn K (.ref D2) "whole" = some none)
  (EA0:PySem.W.nsIn K mainGlobals "Rule" = some (some (.ref E0)))
  (EG0:specialIn K (.ref E0) "__getattribute__" = some (some (.builtin "type.__getattribute__"))) (ER0:readsIn K E0 (.type "type")=true)
  (EK0_0:kitOne K (.ref D0) (.ref E0)=some true)
  (EK0_1:kitOne K (.ref D1) (.ref E0)=some true)
  (EK0_2:kitOne K (.ref D2) (.ref E0)=some true)
  (TN:specialIn K (.builtin "object.__class__") "__get__" = some (some (.builtin "getset_descriptor.__get__"))) (TT:takesIn K (.builtin "object.__class__")=some true)
  (TA0:findIn K (.ref D0) "__class__" = some (some (.builtin "object.__class__"))) (TM0:PySem.W.mroIn K D0 (.type "object")=some true)
  (TA1:findIn K (.ref D1) "__class__" = some (some (.builtin "object.__class__"))) (TM1:PySem.W.mroIn K D1 (.type "object")=some true)
  (TA2:findIn K (.ref D2) "__class__" = some (some (.builtin "object.__class__"))) (TM2:PySem.W.mroIn K D2 (.type "object")=some true)
  (A0:PySem.W.nsIn K mainGlobals "_law_cell" = some (some (.ref a0)))
  (L0:K.lookup a0=some ⟨ZA,ZG,.func (PySem.W.fnOf "_law_cell" "_law_cell" (aK (top 13)) (aj (top 13)) (af (top 13)) .none ZC ZD ZE ZH Xa ZF),ZI⟩) (C0:codeIn K Xa "_law_cell" = true) (Q0:keepIn K (.ref a0)=true)
  (A1:PySem.W.nsIn K mainGlobals "_law_number" = some (some (.ref a1)))
  (L1:K.lookup a1=some ⟨ZJ,ZO,.func (PySem.W.fnOf "_law_number" "_law_number" (aK (top 14)) (aj (top 14)) (af (top 14)) .none ZK ZL ZM ZP Xb ZN),ZQ⟩) (C1:codeIn K Xb "_law_number" = true) (Q1:keepIn K (.ref a1)=true)
  (A2:PySem.W.nsIn K mainGlobals "_law_net" = some (some (.ref a2)))
  (L2:K.lookup a2=some ⟨ZR,ZW,.func (PySem.W.fnOf "_law_net" "_law_net" (aK (top 15)) (aj (top 15)) (af (top 15)) .none ZS ZT ZU K6 Xc ZV),sl2⟩) (C2:codeIn K Xc "_law_net" = true) (Q2:keepIn K (.ref a2)=true)
  (A3:PySem.W.nsIn K mainGlobals "_law_ends" = some (some (.ref a3)))
  (L3:K.lookup a3=some ⟨ZX,od3,.func (PySem.W.fnOf "_law_ends" "_law_ends" (aK (top 16)) (aj (top 16)) (af (top 16)) .none ZY ZZ pm3 an3 Xd ct3),sl3⟩) (C3:codeIn K Xd "_law_ends" = true) (Q3:keepIn K (.ref a3)=true)
  (A4:PySem.W.nsIn K mainGlobals "put_in_order" = some (some (.ref a4)))
  (L4:K.lookup a4=some ⟨oc4,od4,.func (PySem.W.fnOf "put_in_order" "put_in_order" (aK (top 1)) (aj (top 1)) (af (top 1)) .none kV4 dc4 pm4 an4 Xe ct4),sl4⟩) (C4:codeIn K Xe "put_in_order" = true) (Q4:keepIn K (.ref a4)=true)
  (A5:PySem.W.nsIn K mainGlobals "own_net" = some (some (.ref a5)))
  (L5:K.lookup a5=some ⟨oc5,od5,.func (PySem.W.fnOf "own_net" "own_net" (aK (top 2)) (aj (top 2)) (af (top 2)) .none kV5 dc5 pm5 an5 Xf ct5),sl5⟩) (C5:codeIn K Xf "own_net" = true) (Q5:keepIn K (.ref a5)=true)
  (A6:PySem.W.nsIn K mainGlobals "places_of" = some (some (.ref a6)))
  (L6:K.lookup a6=some ⟨oc6,od6,.func (PySem.W.fnOf "places_of" "places_of" (aK (top 3)) (aj (top 3)) (af (top 3)) .none kV6 dc6 pm6 an6 Xg ct6),sl6⟩) (C6:codeIn K Xg "places_of" = true) (Q6:keepIn K (.ref a6)=true)
  (A7:findIn K (.ref D0) "__init__" = some (some (.ref a7))) (I7:PySem.W.isFn K (.ref a7)=true)
  (L7:K.lookup a7=some ⟨oc7,od7,.func (PySem.W.fnOf "__init__" "Rule.__init__" (aK (bA 0)) (aj (bA 0)) (af (bA 0)) .none kV7 dc7 pm7 an7 Xh ct7),sl7⟩) (C7:codeIn K Xh "Rule.__init__" = true) (Q7:keepIn K (.ref a7)=true)
  (A8:findIn K (.ref D1) "__init__" = some (some (.ref a8))) (I8:PySem.W.isFn K (.ref a8)=true)
  (L8:K.lookup a8=some ⟨oc8,od8,.func (PySem.W.fnOf "__init__" "Rule.__init__" (aK (bA 0)) (aj (bA 0)) (af (bA 0)) .none kV8 dc8 pm8 an8 Xi ct8),sl8⟩) (C8:codeIn K Xi "Rule.__init__" = true) (Q8:keepIn K (.ref a8)=true)
  (EF0_9:findCls K (.ref E0) (.type "type") "__init__" = some (.val (.ref a9)))
  (I9:PySem.W.isFn K (.ref a9)=true)
  (L9:K.lookup a9=some ⟨oc9,od9,.func (PySem.W.fnOf "__init__" "Rule.__init__" (aK (bA 0)) (aj (bA 0)) (af (bA 0)) .none kV9 dc9 pm9 an9 Xj ct9),sl9⟩) (C9:codeIn K Xj "Rule.__init__" = true) (Q9:keepIn K (.ref a9)=true)
  (A10:PySem.W.nsIn K mainGlobals "firsts_by" = some (some (.ref Rb)))
  (L10:K.lookup Rb=some ⟨To,Tu,.func (PySem.W.fnOf "firsts_by" "firsts_by" (aK (top 6)) (aj (top 6)) (af (top 6)) .none Tp Tq Tr Tv Qd Tt),Tw⟩) (C10:codeIn K Qd "firsts_by" = true) (Q10:keepIn K (.ref Rb)=true)
  (M0_11:findIn K (.ref D0) "tree_rank" = some (some (.ref IT)))
  (M1_11:findIn K (.ref D1) "tree_rank" = some (some (.ref IT)))
  (M2_11:findIn K (.ref D2) "tree_rank" = some (some (.ref IT)))
  (I11:PySem.W.isFn K (.ref IT)=true)
  (L11:K.lookup IT=some ⟨Tz,TM,.func (PySem.W.fnOf "tree_rank" "Rule.tree_rank" (aK (bA 7)) (aj (bA 7)) (af (bA 7)) .none TF TH TJ TQ Qe TL),TR⟩) (C11:codeIn K Qe "Rule.tree_rank" = true) (Q11:keepIn K (.ref IT)=true)
  (A12:PySem.W.nsIn K mainGlobals "names_of" = some (some (.ref Rc)))
  (L12:K.lookup Rc=some ⟨TU,T4,.func (PySem.W.fnOf "names_of" "names_of" (aK (top 4)) (aj (top 4)) (af (top 4)) .none TV TX TY T5 Qf TZ),T6⟩) (C12:codeIn K Qf "names_of" = true) (Q12:keepIn K (.ref Rc)=true)
  (M0_13:findIn K (.ref D0) "ties" = some (some (.ref IU)))
  (M1_13:findIn K (.ref D1) "ties" = some (some (.ref IU)))
  (M2_13:findIn K (.ref D2) "ties" = some (some (.ref IU)))
  (I13:PySem.W.isFn K (.ref IU)=true)
  (L13:K.lookup IU=some ⟨T7,Uc,.func (PySem.W.fnOf "ties" "Rule.ties" (aK (bA 3)) (aj (bA 3)) (af (bA 3)) .none T8 T9 Ua Ud Qg Ub),Ue⟩) (C13:codeIn K Qg "Rule.ties" = true) (Q13:keepIn K (.ref IU)=true)
  (A14:findIn K (.ref D2) "__init__" = some (some (.ref Qi))) (I14:PySem.W.isFn K (.ref Qi)=true)
  (L14:K.lookup Qi=some ⟨Ug,Ul,.func (PySem.W.fnOf "__init__" "ByRest.__init__" (aK (ie 0)) (aj (ie 0)) (af (ie 0)) .none Uh Ui Uj Um Qh Uk),Uo⟩) (C14:codeIn K Qh "ByRest.__init__" = true) (Q14:keepIn K (.ref Qi)=true)
  (A15:PySem.W.nsIn K mainGlobals "_law_rule" = some (some (.ref Rf)))
  (L15:K.lookup Rf=some ⟨Uq,Uv,.func (PySem.W.fnOf "_law_rule" "_law_rule" (aK (top 19)) (aj (top 19)) (af (top 19)) .none Ur Us Ut Uw Qj Uu),Ux⟩) (C15:codeIn K Qj "_law_rule" = true) (Q15:keepIn K (.ref Rf)=true)
  (A16:PySem.W.nsIn K mainGlobals "_law_row" = some (some (.ref Rg)))
  (L16:K.lookup Rg=some ⟨Uy,UD,.func (PySem.W.fnOf "_law_row" "_law_row" (aK (top 20)) (aj (top 20)) (af (top 20)) .none Uz UA UB UE Qk UC),UG⟩) (C16:codeIn K Qk "_law_row" = true) (Q16:keepIn K (.ref Rg)=true)
  (A17:PySem.W.nsIn K mainGlobals "_law_joined" = some (some (.ref Rh)))
  (L17:K.lookup Rh=some ⟨UH,UM,.func (PySem.W.fnOf "_law_joined" "_law_joined" (aK (top 17)) (aj (top 17)) (af (top 17)) .none UI UJ UK UN Ql UL),UO⟩) (C17:codeIn K Ql "_law_joined" = true) (Q17:keepIn K (.ref Rh)=true)
  (A18:PySem.W.nsIn K mainGlobals "_law_rank" = some (some (.ref Ri)))
  (L18:K.lookup Ri=some ⟨UP,UW,.func (PySem.W.fnOf "_law_rank" "_law_rank" (aK (top 18)) (aj (top 18)) (af (top 18)) .none UQ US UT UX Qm UU),UY⟩) (C18:codeIn K Qm "_law_rank" = true) (Q18:keepIn K (.ref Ri)=true)
  (M0_19:findIn K (.ref D0) "rank" = some (some (.ref MY)))
  (I19:PySem.W.isFn K (.ref MY)=true)
  (L19:K.lookup MY=some ⟨UZ,U6,.func (PySem.W.fnOf "rank" "Rule.rank" (aK (bA 4)) (aj (bA 4)) (af (bA 4)) .none U0 U3 U4 U7 Qn U5),U8⟩) (C19:codeIn K Qn "Rule.rank" = true) (Q19:keepIn K (.ref MY)=true)
  (M1_20:findIn K (.ref D1) "rank" = some (some (.ref MZ)))
  (I20:PySem.W.isFn K (.ref MZ)=true)
  (L20:K.lookup MZ=some ⟨U9,Ve,.func (PySem.W.fnOf "rank" "ByTrees.rank" (aK (qH 1)) (aj (qH 1)) (af (qH 1)) .none Va Vb Vc Vf Qo Vd),Vg⟩) (C20:codeIn K Qo "ByTrees.rank" = true) (Q20:keepIn K (.ref MZ)=true)
  (M2_21:findIn K (.ref D2) "rank" = some (some (.ref M0)))
  (I21:PySem.W.isFn K (.ref M0)=true)
  (L21:K.lookup M0=some ⟨Vh,Vm,.func (PySem.W.fnOf "rank" "ByRest.rank" (aK (ie 2)) (aj (ie 2)) (af (ie 2)) .none Vi Vj Vk Vn Qp Vl),Vo⟩) (C21:codeIn K Qp "ByRest.rank" = true) (Q21:keepIn K (.ref M0)=true)
  (M0_22:findIn K (.ref D0) "free" = some (some (.ref IV)))
  (M1_22:findIn K (.ref D1) "free" = some (some (.ref IV)))
  (M2_22:findIn K (.ref D2) "free" = some (some (.ref IV)))
  (I22:PySem.W.isFn K (.ref IV)=true)
  (L22:K.lookup IV=some ⟨Vp,Vu,.func (PySem.W.fnOf "free" "Rule.free" (aK (bA 5)) (aj (bA 5)) (af (bA 5)) .none Vq Vr Vs Vv Qq Vt),Vw⟩) (C22:codeIn K Qq "Rule.free" = true) (Q22:keepIn K (.ref IV)=true)
  (M0_23:findIn K (.ref D0) "reach" = some (some (.ref IW)))
  (M1_23:findIn K (.ref D1) "reach" = some (some (.ref IW)))
  (M2_23:findIn K (.ref D2) "reach" = some (some (.ref IW)))
  (I23:PySem.W.isFn K (.ref IW)=true)
  (L23:K.lookup IW=some ⟨Vx,VC,.func (PySem.W.fnOf "reach" "Rule.reach" (aK (bA 6)) (aj (bA 6)) (af (bA 6)) .none Vy Vz VA VD Qs VB),VE⟩) (C23:codeIn K Qs "Rule.reach" = true) (Q23:keepIn K (.ref IW)=true)
  (A24:PySem.W.nsIn K mainGlobals "_law_told_row" = some (some (.ref Rj)))
  (L24:K.lookup Rj=some ⟨VF,VL,.func (PySem.W.fnOf "_law_told_row" "_law_told_row" (aK (top 21)) (aj (top 21)) (af (top 21)) .none VG VH VI VM Qt VJ),VN⟩) (C24:codeIn K Qt "_law_told_row" = true) (Q24:keepIn K (.ref Rj)=true)
  (A25:PySem.W.nsIn K mainGlobals "law" = some (some (.ref VS)))
  (L25:K.lookup VS=some ⟨VO,VP,.func (PySem.W.fnOf "law" "law" (aK (top 22)) (aj (top 22)) (af (top 22)) .none Qu Qv Qw Qy Mz Qx),VQ⟩) (C25:codeIn K Mz "law" = true) (Q25:keepIn K (.ref VS)=true)
  (Z0:PySem.W.nsIn K mainGlobals "len" = some none)
  (Z1:PySem.W.nsIn K mainGlobals "min" = some none)
  (Z2:PySem.W.nsIn K mainGlobals "max" = some none)
  (Z3:PySem.W.nsIn K mainGlobals "sorted" = some none)
  (Z4:PySem.W.nsIn K mainGlobals "list" = some none)
  (Z5:PySem.W.nsIn K mainGlobals "tuple" = some none)
  (Z6:PySem.W.nsIn K mainGlobals "str" = some none)
  (Z7:PySem.W.nsIn K mainGlobals "all" = some none)
  (Z8:PySem.W.nsIn K mainGlobals "any" = some none)
  (Z9:PySem.W.nsIn K mainGlobals "isinstance" = some none)
  (Z10:PySem.W.nsIn K mainGlobals "range" = some none)
  (Z11:PySem.W.nsIn K mainGlobals "enumerate" = some none)
  (Z12:PySem.W.nsIn K mainGlobals "int" = some none)
  (Z13:PySem.W.nsIn K mainGlobals "bool" = some none)
  (Z14:PySem.W.nsIn K mainGlobals "dict" = some none)
  (Z15:PySem.W.nsIn K mainGlobals "set" = some none)
  (Z16:PySem.W.nsIn K mainGlobals "zip" = some none)
  (V0:PySem.W.nsIn K mainGlobals "THOUGHT" = some (some (.int (-1) tk0))) :
  ∃fd:FuncData,(∀(s:Shared) (v:Value),BindsTo s fd ⟨[v],[]⟩ [("_law_script",v)])/\∀base:Heap,K.In base->base.Ns mainGlobals mg->fE l.prog w K mg base xr 52 fa fd ["_law_script"] (QX K):=by
 have e:=N8.symm.trans (mg_of X G A25);cases e;obtain⟨cl,hcl⟩:∃cl:Nat->Addr,cl=λn=>if n=0 then D0 else if n=1 then D1 else if n=2 then D2 else if n=1009 then a9 else if n=1011 then IT else if n=1013 then IU else if n=1019 then MY else if n=1020 then MZ else if n=1021 then M0 else if n=1022 then IV else if n=1023 then IW else 0:=⟨_,rfl⟩
 have T:Base K cl mg cons tb:=by
  subst hcl;refine⟨λx hx=>?_,λp hp=>?_,λc hc=>?_,λp hp=>?_,λp hp=>?_,λp hp=>?_⟩
  ·simp only[fY,mem_cons,not_mem_nil,or_false] at hx
   rcases hx with rfl|rfl|rfl|rfl|rfl|rfl|rfl|rfl|rfl|rfl|rfl|rfl|rfl|rfl|rfl|rfl|rfl
   ·exact mg_none_of X G Z0
   ·exact mg_none_of X G Z1
   ·exact mg_none_of X G Z2
   ·exact mg_none_of X G Z3
   ·exact mg_none_of X G Z4
   ·exact mg_none_of X G Z5
   ·exact mg_none_of X G Z6
   ·exact mg_none_of X G Z7
   ·exact mg_none_of X G Z8
   ·exact mg_none_of X G Z9
   ·exact mg_none_of X G Z10
   ·exact mg_none_of X G Z11
   ·exact mg_none_of X G Z12
   ·exact mg_none_of X G Z13
   ·exact mg_none_of X G Z14
   ·exact mg_none_of X G Z15
   ·exact mg_none_of X G Z16
  ·simp only[cons,mem_cons,not_mem_nil,or_false] at hp
   rcases hp with rfl
   ·exact⟨.int (-1),_,mg_of X G V0,⟨_,rfl⟩,λ_ _ _=>VR.int⟩
  ·have hc:c<3:=hc
   match c,hc with
   | 0,_ =>
    refine⟨⟨DG0,DH0,DO0,DS0⟩,λx hx=>?_⟩;simp only[tb,mem_cons,not_mem_nil,or_false] at hx
    rcases hx with rfl|rfl|rfl|rfl
    ·exact DN0_0
    ·exact DN0_1
    ·exact DN0_2
    ·exact DN0_3
   | 1,_ =>
    refine⟨⟨DG1,DH1,DO1,DS1⟩,λx hx=>?_⟩;simp only[tb,mem_cons,not_mem_nil,or_false] at hx
    rcases hx with rfl|rfl|rfl|rfl
    ·exact DN1_0
    ·exact DN1_1
    ·exact DN1_2
    ·exact DN1_3
   | 2,_ =>
    refine⟨⟨DG2,DH2,DO2,DS2⟩,λx hx=>?_⟩;simp only[tb,mem_cons,not_mem_nil,or_false] at hx
    rcases hx with rfl|rfl|rfl|rfl
    ·exact DN2_0
    ·exact DN2_1
    ·exact DN2_2
    ·exact DN2_3
  ·simp only[tb,mem_cons,not_mem_nil,or_false] at hp
   rcases hp with rfl|rfl|rfl|rfl|rfl|rfl|rfl|rfl|rfl|rfl|rfl|rfl|rfl|rfl|rfl
   ·exact⟨M0_11,I11,Q11⟩
   ·exact⟨M1_11,I11,Q11⟩
   ·exact⟨M2_11,I11,Q11⟩
   ·exact⟨M0_13,I13,Q13⟩
   ·exact⟨M1_13,I13,Q13⟩
   ·exact⟨M2_13,I13,Q13⟩
   ·exact⟨M0_19,I19,Q19⟩
   ·exact⟨M1_20,I20,Q20⟩
   ·exact⟨M2_21,I21,Q21⟩
   ·exact⟨M0_22,I22,Q22⟩
   ·exact⟨M1_22,I22,Q22⟩
   ·exact⟨M2_22,I22,Q22⟩
   ·exact⟨M0_23,I23,Q23⟩
   ·exact⟨M1_23,I23,Q23⟩
   ·exact⟨M2_23,I23,Q23⟩
  ·simp only[tb,mem_cons,not_mem_nil,or_false] at hp
   rcases hp with rfl
   ·exact⟨E0,mg_of X G EA0,⟨EG0,ER0,EF0_9,Q9⟩⟩
  ·simp only[tb,mem_cons,not_mem_nil,or_false] at hp
   rcases hp with rfl
   ·refine⟨E0,mg_of X G EA0,λc b hb=>?_⟩
    match c,hb with
    | 0,hb=>cases hb;exact⟨⟨TA0,TN,TT,TM0⟩,EK0_0⟩
    | 1,hb=>cases hb;exact⟨⟨TA1,TN,TT,TM1⟩,EK0_1⟩
    | 2,hb=>cases hb;exact⟨⟨TA2,TN,TT,TM2⟩,EK0_2⟩
    | n+3,hb=>simp at hb
 have F0:=bG (st:=(top 13)) L0 C0 Q0;have b0:=F0.binds (ps:=["_law_script","_law_k"]) λ_ _ _ _ _ _ us hl=>by obtain⟨_,_,rfl⟩:=f7 hl;exact rfl
 have F1:=bG (st:=(top 14)) L1 C1 Q1;have b1:=F1.binds (ps:=["_law_one","_law_two","_law_k"]) λ_ _ _ _ _ _ us hl=>by obtain⟨_,_,_,rfl⟩:=Iv hl;exact rfl
 have F2:=bG (st:=(top 15)) L2 C2 Q2;have b2:=F2.binds (ps:=["_law_script","_law_cells"]) λ_ _ _ _ _ _ us hl=>by obtain⟨_,_,rfl⟩:=f7 hl;exact rfl
 have F3:=bG (st:=(top 16)) L3 C3 Q3;have b3:=F3.binds (ps:=["_law_net_here"]) λ_ _ _ _ _ _ us hl=>by obtain⟨_,rfl⟩:=sN hl;exact rfl
 have F4:=bG (st:=(top 1)) L4 C4 Q4;have b4:=F4.binds (ps:=["poles","ties"]) λ_ _ _ _ _ _ us hl=>by obtain⟨_,_,rfl⟩:=f7 hl;exact rfl
 have F5:=bG (st:=(top 2)) L5 C5 Q5;have b5:=F5.binds (ps:=["net"]) λ_ _ _ _ _ _ us hl=>by obtain⟨_,rfl⟩:=sN hl;exact rfl
 have F6:=bG (st:=(top 3)) L6 C6 Q6;have b6:=F6.binds (ps:=["net"]) λ_ _ _ _ _ _ us hl=>by obtain⟨_,rfl⟩:=sN hl;exact rfl
 have F7:=bG (st:=(bA 0)) L7 C7 Q7;have b7:=F7.binds (ps:=["self","net"]) λ_ _ _ _ _ _ us hl=>by obtain⟨_,_,rfl⟩:=f7 hl;exact rfl
 have F8:=bG (st:=(bA 0)) L8 C8 Q8;have b8:=F8.binds (ps:=["self","net"]) λ_ _ _ _ _ _ us hl=>by obtain⟨_,_,rfl⟩:=f7 hl;exact rfl
 have F9:=bG (st:=(bA 0)) L9 C9 Q9;have b9:=F9.binds (ps:=["self","net"]) λ_ _ _ _ _ _ us hl=>by obtain⟨_,_,rfl⟩:=f7 hl;exact rfl
 have Xk:=bG (st:=(top 6)) L10 C10 Q10;have b10:=Xk.binds (ps:=["places","pairs"]) λ_ _ _ _ _ _ us hl=>by obtain⟨_,_,rfl⟩:=f7 hl;exact rfl
 have Xl:=bG (st:=(bA 7)) L11 C11 Q11;have b11:=Xl.binds (ps:=["self","row"]) λ_ _ _ _ _ _ us hl=>by obtain⟨_,_,rfl⟩:=f7 hl;exact rfl
 have Xm:=bG (st:=(top 4)) L12 C12 Q12;have b12:=Xm.binds (ps:=["net"]) λ_ _ _ _ _ _ us hl=>by obtain⟨_,rfl⟩:=sN hl;exact rfl
 have Xn:=bG (st:=(bA 3)) L13 C13 Q13;have b13:=Xn.binds (ps:=["self"]) λ_ _ _ _ _ _ us hl=>by obtain⟨_,rfl⟩:=sN hl;exact rfl
 have Xo:=bG (st:=(ie 0)) L14 C14 Q14;have b14:=Xo.binds (ps:=["self","net"]) λ_ _ _ _ _ _ us hl=>by obtain⟨_,_,rfl⟩:=f7 hl;exact rfl
 have Xp:=bG (st:=(top 19)) L15 C15 Q15;have b15:=Xp.binds (ps:=["_law_kind","_law_net_here"]) λ_ _ _ _ _ _ us hl=>by obtain⟨_,_,rfl⟩:=f7 hl;exact rfl
 have Xq:=bG (st:=(top 20)) L16 C16 Q16;have b16:=Xq.binds (ps:=["_law_names","_law_cell_here"]) λ_ _ _ _ _ _ us hl=>by obtain⟨_,_,rfl⟩:=f7 hl;exact rfl
 have Xr:=bG (st:=(top 17)) L17 C17 Q17;have b17:=Xr.binds (ps:=["_law_ends_here","_law_row_here"]) λ_ _ _ _ _ _ us hl=>by obtain⟨_,_,rfl⟩:=f7 hl;exact rfl
 have Xs:=bG (st:=(top 18)) L18 C18 Q18;have b18:=Xs.binds (ps:=["_law_kind","_law_ends_here","_law_row_here"]) λ_ _ _ _ _ _ us hl=>by obtain⟨_,_,_,rfl⟩:=Iv hl;exact rfl
 have Xu:=bG (st:=(bA 4)) L19 C19 Q19;have b19:=Xu.binds (ps:=["self","row"]) λ_ _ _ _ _ _ us hl=>by obtain⟨_,_,rfl⟩:=f7 hl;exact rfl
 have Xv:=bG (st:=(qH 1)) L20 C20 Q20;have b20:=Xv.binds (ps:=["self","row"]) λ_ _ _ _ _ _ us hl=>by obtain⟨_,_,rfl⟩:=f7 hl;exact rfl
 have Xw:=bG (st:=(ie 2)) L21 C21 Q21;have b21:=Xw.binds (ps:=["self","row"]) λ_ _ _ _ _ _ us hl=>by obtain⟨_,_,rfl⟩:=f7 hl;exact rfl
 have Xx:=bG (st:=(bA 5)) L22 C22 Q22;have b22:=Xx.binds (ps:=["self","row"]) λ_ _ _ _ _ _ us hl=>by obtain⟨_,_,rfl⟩:=f7 hl;exact rfl
 have Xy:=bG (st:=(bA 6)) L23 C23 Q23;have b23:=Xy.binds (ps:=["self","row"]) λ_ _ _ _ _ _ us hl=>by obtain⟨_,_,rfl⟩:=f7 hl;exact rfl
 have Xz:=bG (st:=(top 21)) L24 C24 Q24;have b24:=Xz.binds (ps:=["_law_found"]) λ_ _ _ _ _ _ us hl=>by obtain⟨_,rfl⟩:=sN hl;exact rfl
 have F25:=bG (st:=(top 22)) L25 C25 Q25;refine⟨PySem.W.fnOf "law" "law" (aK (top 22)) (aj (top 22)) (af (top 22)) .none Qu Qv Qw Qy Mz Qx,λs v=>.of_eq rfl,λbase _ _=>?_⟩;have G0:cQ l.prog w ⟨K,cl⟩ mg base 0 PR:=all_nil;have G1:cQ l.prog w ⟨K,cl⟩ mg base 2 PU:=bX (x:="_law_cell") (N:=["_law_script","_law_k"]) (ps:=["_law_script","_law_k"]) (body:=jf) (f:=a0) T G0 F0 (mg_of X G A0) b0 (by decide) c0 d0;have G2:cQ l.prog w ⟨K,cl⟩ mg base 4 PV:=bX (x:="_law_number") (N:=["_law_one","_law_two","_law_k","_law_step","_law_shift"]) (ps:=["_law_one","_law_two","_law_k"]) (body:=gh) (f:=a1) T G1 F1 (mg_of X G A1) b1 (by decide) c1 d1;have G3:cQ l.prog w ⟨K,cl⟩ mg base 6 PX:=bX (x:="_law_net") (N:=["_law_script","_law_cells","_law_one","_law_two","_law_pick","_law_many","_law_places","_law_ties","_law_k","_law_cell_here","_law_here","_law_there","_law_poles"]) (ps:=["_law_script","_law_cells"]) (body:=kq) (f:=a2) T G2 F2 (mg_of X G A2) b2 (by decide) c2 d2;have G4:cQ l.prog w ⟨K,cl⟩ mg base 8 PY:=bX (x:="_law_ends") (N:=["_law_net_here","_law_ends_here","_law_name","_law_one","_law_other"]) (ps:=["_law_net_here"]) (body:=jg) (f:=a3) T G3 F3 (mg_of X G A3) b3 (by decide) c3 d3;have G5:cQ l.prog w ⟨K,cl⟩ mg base 10 PZ:=bX (x:="put_in_order") (N:=["poles","ties","named","name","one","other"]) (ps:=["poles","ties"]) (body:=cI) (f:=a4) T G4 F4 (mg_of X G A4) b4 (by decide) c4 d4;have G6:cQ l.prog w ⟨K,cl⟩ mg base 12 P0:=bX (x:="own_net") (N:=["net"]) (ps:=["net"]) (body:=gJ) (f:=a5) T G5 F5 (mg_of X G A5) b5 (by decide) c5 d5;have G7:cQ l.prog w ⟨K,cl⟩ mg base 14 P1:=bX (x:="places_of") (N:=["net","places","tie"]) (ps:=["net"]) (body:=fh) (f:=a6) T G6 F6 (mg_of X G A6) b6 (by decide) c6 d6;have G8:cQ l.prog w ⟨K,cl⟩ mg base 16 P4:=all_class (x:="Rule") (N:=["self","net","name","one","other"]) (ps:=["self","net"]) (body:=uE) (n:=1) (f:=a7) (c:=0) T G7 F7 (by rw[hcl];exact mg_of X G DA0) (by rw[hcl];exact⟨DM0,A7,I7,DK0⟩) b7 rfl (by decide) c7 d7;have G9:cQ l.prog w ⟨K,cl⟩ mg base 18 P5:=all_class (x:="ByTrees") (N:=["self","net","name","one","other"]) (ps:=["self","net"]) (body:=lD) (n:=1) (f:=a8) (c:=1) T G8 F8 (by rw[hcl];exact mg_of X G DA1) (by rw[hcl];exact⟨DM1,A8,I8,DK1⟩) b8 rfl (by decide) c8 d8;have G10:cQ l.prog w ⟨K,cl⟩ mg base 20 DN:=f6 (y:="Rule.__init__") (N:=["self","net","name","one","other"]) (ps:=["self","net"]) (body:=fO) (f:=a9) T G9 F9 (by rw[hcl];rfl) b9 c9 d9;have G11:cQ l.prog w ⟨K,cl⟩ mg base 22 DO:=bX (x:="firsts_by") (N:=["places","pairs","firsts","place","one","other","kept","gone"]) (ps:=["places","pairs"]) (body:=fj) (f:=Rb) T G10 Xk (mg_of X G A10) b10 (by decide) oh EJ;have G12:cQ l.prog w ⟨K,cl⟩ mg base 24 DP:=f6 (y:="Rule.tree_rank") (N:=["self","row","firsts"]) (ps:=["self","row"]) (body:=bY) (f:=IT) T G11 Xl (by rw[hcl];rfl) b11 lH Qa;have G13:cQ l.prog w ⟨K,cl⟩ mg base 26 DQ:=bX (x:="names_of") (N:=["net"]) (ps:=["net"]) (body:=gi) (f:=Rc) T G12 Xm (mg_of X G A12) b12 (by decide) c12 yF;have G14:cQ l.prog w ⟨K,cl⟩ mg base 28 DR:=f6 (y:="Rule.ties") (N:=["self"]) (ps:=["self"]) (body:=fk) (f:=IU) T G13 Xn (by rw[hcl];rfl) b13 iQ Qc;have G15:cQ l.prog w ⟨K,cl⟩ mg base 30 DS:=all_class (x:="ByRest") (N:=["self","net"]) (ps:=["self","net"]) (body:=nJ) (n:=1) (f:=Qi) (c:=2) T G14 Xo (by rw[hcl];exact mg_of X G DA2) (by rw[hcl];exact⟨DM2,A14,I14,DK2⟩) b14 rfl (by decide) Zc Zd;have G16:cQ l.prog w ⟨K,cl⟩ mg base 32 DT:=bX (x:="_law_rule") (N:=["_law_kind","_law_net_here"]) (ps:=["_law_kind","_law_net_here"]) (body:=fP) (f:=Rf) T G15 Xp (mg_of X G A15) b15 (by decide) Ze Zf;have G17:cQ l.prog w ⟨K,cl⟩ mg base 34 DU:=bX (x:="_law_row") (N:=["_law_names","_law_cell_here","_law_row_here","_law_name"]) (ps:=["_law_names","_law_cell_here"]) (body:=kr) (f:=Rg) T G16 Xq (mg_of X G A16) b16 (by decide) Zg Zh;have G18:cQ l.prog w ⟨K,cl⟩ mg base 36 DV:=bX (x:="_law_joined") (N:=["_law_ends_here","_law_row_here","_law_part","_law_many","_law_name","_law_one","_law_other","_law_place"]) (ps:=["_law_ends_here","_law_row_here"]) (body:=gj) (f:=Rh) T G17 Xr (mg_of X G A17) b17 (by decide) Zi Zj;have G19:cQ l.prog w ⟨K,cl⟩ mg base 38 DW:=bX (x:="_law_rank") (N:=["_law_kind","_law_ends_here","_law_row_here","_law_rest"]) (ps:=["_law_kind","_law_ends_here","_law_row_here"]) (body:=fQ) (f:=Ri) T G18 Xs (mg_of X G A18) b18 (by decide) Zk Zl;have G20:cQ l.prog w ⟨K,cl⟩ mg base 40 DX:=f6 (y:="Rule.rank") (N:=["self","row"]) (ps:=["self","row"]) (body:=fq) (f:=MY) T G19 Xu (by rw[hcl];rfl) b19 Zm Zn;have G21:cQ l.prog w ⟨K,cl⟩ mg base 42 DY:=f6 (y:="ByTrees.rank") (N:=["self","row"]) (ps:=["self","row"]) (body:=cJ) (f:=MZ) T G20 Xv (by rw[hcl];rfl) b20 Zo Zp;have G22:cQ l.prog w ⟨K,cl⟩ mg base 44 DZ:=f6 (y:="ByRest.rank") (N:=["self","row","rest"]) (ps:=["self","row"]) (body:=cU) (f:=M0) T G21 Xw (by rw[hcl];rfl) b21 Zq Zr;have G23:cQ l.prog w ⟨K,cl⟩ mg base 46 D3:=f6 (y:="Rule.free") (N:=["self","row"]) (ps:=["self","row"]) (body:=fu) (f:=IV) T G22 Xx (by rw[hcl];rfl) b22 Zs Zt;have G24:cQ l.prog w ⟨K,cl⟩ mg base 48 D4:=f6 (y:="Rule.reach") (N:=["self","row","rank"]) (ps:=["self","row"]) (body:=dH) (f:=IW) T G23 Xy (by rw[hcl];rfl) b23 Zu Zv;have G25:cQ l.prog w ⟨K,cl⟩ mg base 50 D5:=bX (x:="_law_told_row") (N:=["_law_found"]) (ps:=["_law_found"]) (body:=dJ) (f:=Rj) T G24 Xz (mg_of X G A24) b24 (by decide) Zw Zx;exact(zy T G25 F25 Zy Zz).imp (Lj hφ)
end
end K24
end
section
open PySem L2 Hv
set_option hygiene false
local macro_rules | `(tactic| simp only[EV,$ls,*] $[$l:location]?)=>`(tactic| simp only[gA,LY,LZ,Ma,IG,O5,O6,O7,O8,O9,LQ,Pa,LR,LS,SS,Pb,Pc,kZ,cZ,WD,aZ,uo,iG,QY,iR,WG,IF,fc,LO,jy,Hh,LP,isVar,gz,List.getElem?_cons_zero,getElem?_cons_succ,set_cons_zero,set_cons_succ,map_cons,map_nil,length_cons,length_nil,cons_append,nil_append,List.replicate_succ,List.replicate_zero,Nat.reduceSub,Nat.reduceAdd,Nat.reduceLeDiff,Pd,Pe,SV,SW,SX,SY,S0,S4,Pf,Pg,IK,Ph,Pj,Pk,Pn,Po,Pp,Pq,LU,LV,LW,LX,Pu,jv,bJ,ql,SJ,cP,ic,Hv.stored,List.contains_nil,List.contains_cons,List.elem_nil,List.elem_cons,Nat.reduceBEq,Nat.reduceEqDiff,BEq.rfl,all_cons,List.all_nil,beq_self_eq_true,CY,iW,rJ,kY,nD,↓reduceIte,Bool.and_true,Bool.true_and,Bool.false_and,Bool.and_false,Bool.or_false,Bool.false_or,Bool.or_true,Bool.true_or,Bool.or_self,zero_le,Bool.not_true,Bool.not_false,false_eq_true,decide_eq_true_eq,not_eq_true',decide_eq_false_iff_not,append_nil,nil_append,reduceCtorEq,$ls,*] $[$l:location]?)
section
open PySem L2 Hv
namespace K24
noncomputable def cellAt(ns:List Int)(k:Nat):Int:=ns.getD k 0
theorem oZ(ns:List Int)(k:Nat):dM [.rl (ns.map .int),.int k]=.ok (true,.int (cellAt ns k)):=by
 unfold dM jf
 by_cases h:k<ns.length
 ·have e:jV (List.map Val.int ns) (k:Int)=some (.int (ns[k])):=oQ (by simp[h])
  have h':(k:Int)<ns.length:=by omega
  simp only[EV,qw e,length_map,h',cellAt,List.getD,List.getElem?_eq_getElem h,Option.getD_some]
 ·have h':¬ (k:Int)<ns.length:=by omega
  have e:ns[k]?=none:=by simp;omega
  simp only[EV,length_map,h',cellAt,List.getD,e,getD_none]
noncomputable def gS(one two k:Int):Int:=(if 0<one%3 then 1+one/3%10 ^ 56 else 1)*(((1+two%66)*k+one)%67)+(if 0<one%3 then two/66%10 ^ 58 else 0)
theorem Bu(a b:Int)(h:0<=b/\b<67):jX a b=true:=by
 unfold jX;simp only[or_eq_true,and_eq_true,decide_eq_true_eq];right;omega
theorem yG(a b:Int)(h:0<=a/\a<67):jX a b=true:=by
 unfold jX;simp only[or_eq_true,and_eq_true,decide_eq_true_eq];left;omega
theorem zX(one two k:Int):gK [.int one,.int two,.int k]=.ok (true,.int (gS one two k)):=by
 unfold gK gh gS;have m1:jX (1+two%66) k=true:=yG _ _ (by omega);have m2:∀x,jX x (((1+two%66)*k+one)%67)=true:=λx=>Bu _ _ (by omega);simp only[EV,jb (show decide ((0:Int)<3)=true by decide),jb (show decide ((0:Int)<66)=true by decide),jb (show decide ((0:Int)<67)=true by decide),iK (show iU 3=true by decide),iK (show iU 66=true by decide),IJ (show decide ((0:Int)<=56/\(56:Int)<=1000000/\(10:Int).natAbs<2 ^ 64)=true by decide),IJ (show decide ((0:Int)<=58/\(58:Int)<=1000000/\(10:Int).natAbs<2 ^ 64)=true by decide),II m1,II (m2 _),jb (show decide ((0:Int)<10 ^ (56:Int).toNat)=true by decide),jb (show decide ((0:Int)<10 ^ (58:Int).toNat)=true by decide)]
 repeat' split
 all_goals first|rfl|contradiction
theorem HJ(one two k:Int):0<=gS one two k:=by
 unfold gS;generalize ((1+two%66)*k+one)=z;have hs:∃st:Int,(if 0<one%3 then 1+one/3%10 ^ 56 else 1)=st/\1<=st:=by refine⟨_,rfl,?_⟩;split<;>omega
 have hf:∃sh:Int,(if 0<one%3 then two/66%10 ^ 58 else 0)=sh/\0<=sh:=by refine⟨_,rfl,?_⟩;split<;>omega
 obtain⟨st,e1,a1⟩:=hs;obtain⟨sh,e2,b1⟩:=hf;rw[e1,e2];have p1:0<=st*(z%67):=Int.mul_nonneg (by omega) (by omega);omega
theorem Ed(one two i j:Int)(hi:0<=i/\i<67)(hj:0<=j/\j<67)(e:gS one two i=gS one two j):i=j:=by
 unfold gS at e;have hs:∃st:Int,(if 0<one%3 then 1+one/3%10 ^ 56 else 1)=st/\1<=st:=by refine⟨_,rfl,?_⟩;split<;>omega
 obtain⟨st,e1,a1⟩:=hs;rw[e1] at e;have e2:st*(((1+two%66)*i+one)%67)=st*(((1+two%66)*j+one)%67):=by omega
 have e3:=Int.eq_of_mul_eq_mul_left (by omega:st≠0) e2;exact Hq (by omega) hi hj e3
theorem Qz{n:Int}(h:inR n=true):gI .range [.int n]=some ((List.range n.toNat).map λ(i:Nat)=>Val.int (0+(i:Int))):=by
 show (if inR n=true then some (cy 0 n.toNat) else none)=_;rw[if_pos h];rfl
structure bB (p q:Int) (ts:List T3):Prop where
 ord:p<=q
 len:ts.length<=14
 up:Dv ts
 ends:∀t∈ts,t.2.1<=t.2.2
 names:∀t∈ts,0<=t.1
theorem qO:∀(i:Nat) (ms:List Int) (pre post:List Val) (x:Val),cN i (ms.map .int)=pre++x::post->∃c:Int,x=.tup [.int ((i+pre.length:Nat):Int),.int c]
 | _,[],pre,post,x,h=>by simp[cN] at h
 | i,d::r,[],post,x,h=>by
  rw[map_cons,cN,nil_append] at h;injection h with h _
  exact⟨d,by rw[<-h];rfl⟩
 | i,d::r,y::pre,post,x,h=>by
  rw[map_cons,cN,cons_append] at h;injection h with _ h
  obtain⟨c,e⟩:=qO (i+1) r pre post x h;exact⟨c,by rw[e,length_cons];congr 4;omega⟩
structure yH (one two:Int) (ts:List T3):Prop where
 name:∀i (h:i<ts.length),(ts[i]).1=gS one two i
 ends:∀t∈ts,t.2.1<=t.2.2
theorem yH.nodup{one two:Int}(h:yH one two ts)(hl:ts.length<=14):(ts.map (·.1)).Nodup:=by
 unfold List.Nodup;rw[List.pairwise_iff_getElem];intro i j hi hj hij;rw[length_map] at hi hj;rw[getElem_map,getElem_map,h.name i hi,h.name j hj];intro e;have:=Ed one two i j (by omega) (by omega) e;omega
theorem QA(a b:Int):∃x y,PySem.W.sortI [a,b]=[x,y]/\x<=y:=by
 have hl:(PySem.W.sortI [a,b]).length=2:=(sortI_perm _).length_eq;have hs:=PySem.W.sortI_rises [a,b]
 match h:PySem.W.sortI [a,b],hl,hs with
 | [x,y],_,hs=>exact⟨x,y,rfl,by simpa using hs⟩
theorem wW(h:fD xs=some ys):gp .sorted [.rl xs]=.ok (true,.rl ys):=by
 show (pb (pl (fD xs)) (λys:List Val=>Pr.ok ((true,Val.rl ys):FV)):Pr FV)=_;rw[h];rfl
theorem MA(ns ms:List Int)(hm:ms.length<=14):∃p q ts,mJ [.rl (ns.map .int),.rl (ms.map .int)]=.ok (true,ff p q ts)/\bB p q ts/\ts.length=ms.length:=by
 have c0:dM [.rl (ns.map .int),.int 0]=.ok (true,.int (cellAt ns 0)):=oZ ns 0;have c1:dM [.rl (ns.map .int),.int 1]=.ok (true,.int (cellAt ns 1)):=oZ ns 1;have c2:dM [.rl (ns.map .int),.int 2]=.ok (true,.int (cellAt ns 2)):=oZ ns 2;unfold mJ kq;generalize cellAt ns 0=one at *;generalize cellAt ns 1=two at *;generalize cellAt ns 2=pick at *;have XA:2<=2+pick%7/\2+pick%7<=8:=by omega
 simp only[EV,oH,c0,c1,c2,jb (show decide ((0:Int)<7)=true by decide)];generalize XC:2+pick%7=many at *;have hR:inR many=true:=by unfold inR;simp only[and_eq_true,decide_eq_true_eq];omega
 have hc:many.toNat<=100000:=by omega
 simp only[EV,Qz hR,jJ,length_map,length_range,hc];rw[jA (λi:Nat=>Val.int (0+(i:Int))) (λi:Nat=>.int (gS two one (0+(i:Int)))) (List.range many.toNat) (λi hi=>by
  simp only[EV,bM,ig,zX])]
 have hpl:∀i:Int,0<=i->i<many->jV ((List.range many.toNat).map λi:Nat=>Val.int (gS two one (0+(i:Int)))) i=some (.int (gS two one i)):=λi h0 h1=>by
  obtain⟨k,rfl⟩:=Int.eq_ofNat_of_zero_le h0;refine oQ ?_;rw[getElem?_map,List.getElem?_range (by omega)];simp
 generalize ePl:((List.range many.toNat).map λi:Nat=>Val.int (gS two one (0+(i:Int))))=Pl at *;simp only[EV,Pw]
 repeat rw[mC]
 have hx:cN 0 (ms.map Val.int)=(cN 0 (ms.map Val.int)).map id:=(map_id _).symm;rw[hx];have hmp:decide (0<many)=true:=by rw[decide_eq_true_eq];omega
 have hdv:iU many=true:=by unfold iU;rw[decide_eq_true_eq];omega
 have z3:3<=sizeLine:=by decide
 have z2:2<=sizeLine:=by decide
 refine bV id (λr:Pr FV=>∃p q ts,r=.ok (true,ff p q ts)/\bB p q ts/\ts.length=ms.length)
  (λdone env=>∃(ts:List T3) (m6:Mk) (a b c d:Option (Mk×Val)),env=[some (.sh,.rl (ns.map .int)),some (.sh,.rl (ms.map .int)),some (.sh,.int one),some (.sh,.int two),some (.sh,.int pick),some (.sh,.int many),some (m6,.rl Pl),some (.ow,.rl (ts.map eF)),a,b,c,d,none]/\sO m6=true/\ts.length=done.length/\yH one two ts)
  ⟨[],_,none,none,none,none,rfl,by first|rfl|exact IG,rfl,⟨λi h=>by simp at h,λ_ h=>by simp at h⟩⟩ ?_ ?_
 ·rintro pre x post env hx ⟨ts,m6,a,b,c,d,rfl,h6,hl,ok⟩
  have aaa:pre.length<14:=by have:=congrArg length hx;rw[kN,length_map,length_append,length_cons] at this;omega
  obtain⟨cell,rfl⟩:=qO _ _ _ _ _ hx;rw[Nat.zero_add];have i1:=hpl (cell%many) (Int.emod_nonneg _ (by omega)) (Int.emod_lt_of_pos _ (by omega));have i2:=hpl (cell/many%many) (Int.emod_nonneg _ (by omega)) (Int.emod_lt_of_pos _ (by omega));generalize gS two one (cell%many)=n1 at *;generalize gS two one (cell/many%many)=n2 at *;have e3:=zX one two (pre.length:Int);have z:ts.length<sizeLine:=by rw[hl];unfold sizeLine;omega
  have tt:Val.tup [.int (gS one two (pre.length:Int)),.int (if n2<n1 then n2 else n1),.int (if n2>n1 then n2 else n1)]=eF (turnT (gS one two (pre.length:Int),n1,n2)):=rfl;refine⟨_,?_,ts++[turnT (gS one two (pre.length:Int),n1,n2)],m6,some (.sh,.int pre.length),some (.sh,.int cell),some (.sh,.int n1),some (.sh,.int n2),rfl,h6,by simp[hl],⟨λi hi=>?_,λt ht=>?_⟩⟩
  ·simp only[EV,id,Mb,h6,jb hmp,iK hdv,qw i1,qw i2,ig,e3,z3,tt,length_map,z,map_append]
  ·rw[List.getElem_append]
   split
   ·exact ok.name i (by assumption)
   ·simp only[length_append,length_cons,length_nil] at hi
    have:i=pre.length:=by omega
    subst this;simp[hl,turnT]
  ·rcases mem_append.mp ht with ht|ht
   ·exact ok.ends t ht
   ·rw[mem_singleton] at ht;subst ht;unfold turnT;dsimp only;split<;>split<;>omega
 ·rintro env ⟨ts,m6,a,b,c,d,rfl,h6,hl,ok⟩
  have QB:ts.length<=14:=by rw[hl,kN,length_map];exact hm
  have j0:=hpl 0 (by omega) (by omega);have j1:jV Pl (1-(if pick/7%8=3 then 1 else 0))=some (.int (gS two one (1-(if pick/7%8=3 then 1 else 0)))):=hpl _ (by split<;>omega) (by split<;>omega);obtain⟨x,y,es,hxy⟩:=QA (gS two one 0) (gS two one (1-(if pick/7%8=3 then 1 else 0)));generalize gS two one (1-(if pick/7%8=3 then 1 else 0))=n1 at *;have esV:gp .sorted [.rl [.int (gS two one 0),.int n1]]=.ok (true,.rl [.int x,.int y]):=by refine wW ?_;show (if 2<64 then some ((PySem.W.sortI [gS two one 0,n1]).map Val.int) else none)=_;rw[if_pos (by decide),es];rfl
  have eI:∀b:Bool,gp .int [.bl b]=.ok (true,.int (if b=true then 1 else 0)):=λ_=>rfl;have dI:(if decide (pick/7%8=3)=true then (1:Int) else 0)=if pick/7%8=3 then 1 else 0:=by
   by_cases c:pick/7%8=3<;>simp[c]
  refine⟨x,y,jL ts,?_,⟨hxy,?_,?_,?_,?_⟩,?_⟩
  ·simp only[EV,h6,qw j0,iK (show iU 7=true by decide),jb (show decide ((0:Int)<8)=true by decide),eI,dI,qw j1,z2,esV,qw Dr,qw Bk,wm (show ts.length<64 by omega)];rfl
  ·rw[(fN ts).length_eq];exact QB
  ·exact wo ts (ok.nodup QB)
  ·exact λt ht=>ok.ends t ((fN ts).mem_iff.mp ht)
  ·intro t ht;obtain⟨i,hi,rfl⟩:=getElem_of_mem ((fN ts).mem_iff.mp ht);rw[ok.name i hi];exact HJ _ _ _
  ·rw[(fN ts).length_eq,hl,kN,length_map]
end K24
end
section
open PySem L2 Hv
namespace K24
noncomputable def XD(t:T3):Int×Int:=(t.2.1,t.2.2)
noncomputable def jN(p q:Int)(ts:List T3):List Int:=p::q::ts.flatMap λt=>[t.2.1,t.2.2]
noncomputable def oj(p q:Int)(ts:List T3):List Int:=eB (jN p q ts)
theorem nN(p q:Int)(ts:List T3):(jN p q ts).length=2+2*ts.length:=by
 unfold jN
 induction ts with
 | nil=>rfl
 | cons t r ih=>simp only[List.flatMap_cons,length_cons,length_append,length_nil] at *;omega
theorem wX:∀(ns ks:List Int),(dZ ks ns).length<=ks.length+ns.length
 | [],ks=>le_refl _
 | k::r,ks=>by
  rw[dZ,length_cons];have:=wX r (eV ks k);have:=pR ks k;omega
theorem HK{p q:Int}(h:ts.length<=14):(oj p q ts).length<64:=by
 unfold oj eB;rw[(sortI_perm _).length_eq];have:=wX (jN p q ts) [];rw[nN] at this;simp only[length_nil] at this;omega
theorem o4{p q x:Int}:x∈oj p q ts↔x=p\/x=q\/∃t∈ts,x=t.2.1\/x=t.2.2:=by
 unfold oj;rw[Du];unfold jN;simp only[mem_cons,List.mem_flatMap,not_mem_nil,or_false]
theorem places_eq{p q:Int}(h:ts.length<=14):bZ [ff p q ts]=.ok (true,.rl ((oj p q ts).map .int)):=by
 unfold bZ fh ff;simp only[EV,mD Dr,mD Bk,gg];rw[mC];refine bV eF (λr:Pr FV=>r=.ok (true,.rl ((oj p q ts).map .int)))
  (λdone env=>∃a,env=[some (.sh,ff p q ts),some (.ow,.rl ((jN p q done).map .int)),a])
  ⟨none,rfl⟩ ?_ ?_
 ·rintro pre t post env hx ⟨a,rfl⟩
  refine⟨[some (.sh,ff p q ts),some (.ow,.rl ((jN p q (pre++[t])).map .int)),some (.sh,eF t)],?_,_,rfl⟩;have hpl:pre.length<14:=by have:=congrArg length hx;rw[length_append,length_cons] at this;omega
  have z:((jN p q pre).map Val.int).length+2<=sizeLine:=by rw[length_map,nN];unfold sizeLine;omega
  have ea:(jN p q (pre++[t])).map Val.int=(jN p q pre).map Val.int++[.int t.2.1,.int t.2.2]:=by unfold jN;simp
  simp only[EV,bM,Mf,z,ea]
 ·rintro env ⟨a,rfl⟩
  have hl:(jN p q ts).length<64:=by rw[nN];omega
  simp only[EV,ints_map,hl];rfl
end K24
end
section
open PySem L2 Hv
namespace K24
noncomputable def lg(e:Int×Int):Val:=.tup [.int e.1,.int e.2]
theorem HL{i j:Nat}:cO (.tup [i,j]) (lg e) env=some ((env.set i (some (.sh,.int e.1))).set j (some (.sh,.int e.2))):=rfl
theorem Bv(ps:List Int)(hn:ps.Nodup)(hl:ps.length<64)(es:List (Int×Int))(he:∀e∈es,e.1∈ps/\e.2∈ps):∃f φ,dU [.rl (ps.map .int),.rl (es.map lg)]=.ok (f,k7 ps λx=>.int (φ x))/\kh ps es φ:=by
 unfold dU fj;simp only[EV,gg];rw[mC];have hz:∀pre:List Int,pre.length<=ps.length->(pre.map (Sum.inl:Int->Key)).length<sizeLine:=λpre h=>by rw[length_map];unfold sizeLine;omega
 refine bV Val.int (λr:Pr FV=>∃f φ,r=.ok (f,k7 ps λx=>.int (φ x))/\kh ps es φ)
  (λdone env=>∃a,env=[some (.sh,.rl (ps.map .int)),some (.sh,.rl (es.map lg)),some (.ow,k7 done λx=>.int x),a,none,none,none,none])
  ⟨none,rfl⟩ ?_ ?_
 ·rintro pre x post env hx ⟨a,rfl⟩
  have VT:x∉pre:=by rw[hx,nodup_append] at hn;exact λh=>hn.2.2 x h x (by simp) rfl
  refine⟨[some (.sh,.rl (ps.map .int)),some (.sh,.rl (es.map lg)),some (.ow,k7 (pre++[x]) λx=>.int x),some (.sh,.int x),none,none,none,none],?_,_,rfl⟩;simp only[EV,bM,qz,hz pre (by rw[hx];simp),uz VT];rw[cL (g':=λx=>Val.int x)];intro y _;unfold nF
  split
  ·rename_i e;rw[e]
  ·rfl
 ·rintro env ⟨a,rfl⟩
  simp only[EV,gg];rw[mC];refine bV lg (λr:Pr FV=>∃f φ,r=.ok (f,k7 ps λx=>.int (φ x))/\kh ps es φ)
   (λdone env=>∃(φ:Int->Int) (a b c d e:Option (Mk×Val)),env=[some (.sh,.rl (ps.map .int)),some (.sh,.rl (es.map lg)),some (.ow,k7 ps λx=>.int (φ x)),a,b,c,d,e]/\kh ps done φ)
   ⟨id,_,_,_,_,_,rfl,kh.start ps⟩ ?_ ?_
  ·rintro pre e post env hx ⟨φ,a,b,c,d,f,rfl,Ht⟩
   obtain⟨h1,h2⟩:=he e (by rw[hx];simp);simp only[EV,HL,nG h1,nG h2,gg];have hk:∃kept gone:Int,(if φ e.2 < φ e.1 then φ e.2 else φ e.1)=kept/\(if φ e.2 > φ e.1 then φ e.2 else φ e.1)=gone/\((kept = φ e.1/\gone = φ e.2)\/(kept = φ e.2/\gone = φ e.1)):=by
    refine⟨_,_,rfl,rfl,?_⟩
    split<;>split<;>omega
   obtain⟨kept,gone,ek,eg,hk⟩:=hk;rw[ek,eg];refine bV Val.int (λr:Pr yo=>∃env',r=.ok (.nx env')/\∃(φ:Int->Int) (a b c d f:Option (Mk×Val)),env'=[some (.sh,.rl (ps.map .int)),some (.sh,.rl (es.map lg)),some (.ow,k7 ps λx=>.int (φ x)),a,b,c,d,f]/\kh ps (pre++[e]) φ)
    (λdone env=>∃a,env=[some (.sh,.rl (ps.map .int)),some (.sh,.rl (es.map lg)),some (.ow,k7 ps λx=>.int (if x∈done /\ φ x=gone then kept else φ x)),a,some (.sh,.int e.1),some (.sh,.int e.2),some (.sh,.int kept),some (.sh,.int gone)])
    ⟨a,by simp⟩ ?_ ?_
   ·rintro done x post env hy ⟨a,rfl⟩
    have VT:x∉done:=by rw[hy,nodup_append] at hn;exact λh=>hn.2.2 x h x (by simp) rfl
    have hxs:x∈ps:=by rw[hy];simp
    refine⟨_,?_,some (.sh,.int x),rfl⟩;simp only[EV,bM,nG hxs,qz,hz ps (le_refl _),uy hxs,VT,false_and,if_false]
    by_cases hg:φ x=gone
    ·simp only[hg,↓reduceIte]
     rw[cL];intro y _;unfold nF
     by_cases e:y=x
     ·subst e;simp[hg]
     ·simp[e]
    ·simp only[hg,↓reduceIte]
     rw[cL];intro y _
     by_cases e:y=x
     ·subst e;simp[hg]
     ·simp[e]
   ·rintro env ⟨a,rfl⟩;refine⟨_,rfl,(λx=>if φ x=gone then kept else φ x),a,some (.sh,.int e.1),some (.sh,.int e.2),some (.sh,.int kept),some (.sh,.int gone),?_,Ht.step h1 h2 kept gone hk⟩;rw[cL];intro y hy;simp[hy]
  ·rintro env ⟨φ,a,b,c,d,e,rfl,Ht⟩;simp only[EV,fc];exact⟨_,φ,rfl,Ht⟩
end K24
end
section
open PySem L2 Hv
namespace K24
theorem order_eq{p q:Int}{us:List T3}(hl:us.length<=16):cV [.tup [.int p,.int q],.rl (us.map eF)]=.ok (true,ff (if q<p then q else p) (if q>p then q else p) (jL (us.map turnT))):=by
 unfold cV cI;have z0:0<=sizeLine:=by decide
 have z2:2<=sizeLine:=by decide
 have z3:3<=sizeLine:=by decide
 simp only[EV,gg];rw[mC];refine bV eF (λr:Pr FV=>r=.ok (true,ff (if q<p then q else p) (if q>p then q else p) (jL (us.map turnT))))
  (λdone env=>∃a b c,env=[some (.sh,.tup [.int p,.int q]),some (.sh,.rl (us.map eF)),some (.ow,.rl ((done.map turnT).map eF)),a,b,c])
  ⟨none,none,none,rfl⟩ ?_ ?_
 ·rintro pre t post env hx ⟨a,b,c,rfl⟩
  have hpl:pre.length<16:=by have:=congrArg length hx;rw[length_append,length_cons] at this;omega
  have z:((pre.map turnT).map eF).length<sizeLine:=by rw[length_map,length_map];unfold sizeLine;omega
  refine⟨[some (.sh,.tup [.int p,.int q]),some (.sh,.rl (us.map eF)),some (.ow,.rl (((pre++[t]).map turnT).map eF)),some (.sh,.int t.1),some (.sh,.int t.2.1),some (.sh,.int t.2.2)],?_,_,_,_,rfl⟩;have ea:((pre++[t]).map turnT).map eF=(pre.map turnT).map eF++[eF (turnT t)]:=by simp
  simp only[EV,Hl,z3,z,ea];rfl
 ·rintro env ⟨a,b,c,rfl⟩;simp only[EV,mD Dr,mD Bk,z2,wm (show (us.map turnT).length<64 by rw[length_map];omega)];rfl
theorem Bw{p q:Int}(hl:us.length<=16):cM [ff p q us]=.ok (true,ff (if q<p then q else p) (if q>p then q else p) (jL (us.map turnT))):=by
 have e:=order_eq (p:=p) (q:=q) hl;unfold cM gJ;unfold ff at e |-;simp only[EV,jk,mD Dr,mD Bk,e]
end K24
end
section
open PySem L2 Hv
namespace K24
noncomputable def nameV(t:T3):Val:=.int t.1
theorem HM(h:t.2.1<=t.2.2):turnT t=t:=by
 obtain⟨a,b,c⟩:=t;unfold turnT;dsimp only at h |-;rw[Prod.mk.injEq,Prod.mk.injEq];refine⟨rfl,?_,?_⟩<;>split<;>omega
theorem HN:∀{l:List T3},(∀y∈l,x.1<y.1)->qB x l=x::l
 | [],_=>rfl
 | y::r,h=>by
  rw[qB];have lx:HT.lexLt (l3 y) (l3 x)=decide (y.1<x.1):=by show HT.lexLt (y.1::_) (x.1::_)=_;have:=h y mem_cons_self;rw[HT.fF,if_neg (by omega)]
  have:=h y mem_cons_self;rw[lx,if_neg (by simp;omega)]
theorem wY:∀{l:List T3},Dv l->jL l=l
 | [],_=>rfl
 | x::r,h=>by
  unfold Dv at h;rw[pairwise_cons] at h;rw[jL,wY h.2,HN h.1]
theorem MB{p q:Int}(ok:bB p q ts):cM [ff p q ts]=.ok (true,ff p q ts):=by
 have e:=Bw (p:=p) (q:=q) (us:=ts) (le_trans ok.len (by decide));have em:ts.map turnT=ts:=by rw[map_congr_left λt ht=>HM (ok.ends t ht)];exact map_id _
 have ep:(if q<p then q else p)=p:=by have:=ok.ord;split<;>omega
 have eq:(if q>p then q else p)=q:=by have:=ok.ord;split<;>omega
 rw[em,wY ok.up,ep,eq] at e;exact e
theorem Ef:∀ts:List T3,cg EI (ts.map eF)=some ts
 | []=>rfl
 | t::r=>by rw[map_cons,cg,show EI (eF t)=some t from rfl,bind_some,Ef r];rfl
noncomputable def kF(c:Nat)(p q:Int)(ts:List T3):Val:=.ob c ["net","places","ends"] [ff p q ts,.rl ((oj p q ts).map .int),.dc ((bS p q ts).map (·.1)) ((bS p q ts).map (·.2))]
noncomputable def iw(c:Nat)(p q:Int)(ts:List T3)(w:Int):Val:=.ob c ["net","places","ends","whole"] [ff p q ts,.rl ((oj p q ts).map .int),.dc ((bS p q ts).map (·.1)) ((bS p q ts).map (·.2)),.int w]
theorem qP{c jo jp:Nat}{p q:Int}(h1:Ψ jo=cM)(h2:Ψ jp=bZ)(ok:bB p q ts):ki Ψ c jo jp [ff p q ts]=.ok (true,kF c p q ts):=by
 have e1:=MB ok;have e2:=places_eq (p:=p) (q:=q) ok.len;unfold ki;dsimp only;rw[h1,e1];unfold ff at e2 |-;dsimp only;rw[Ef,jy,fc,h2];unfold pg;rw[if_pos (decide_eq_true (by have:=ok.len;omega)),e2];rfl
noncomputable def nms(ts:List T3):List Int:=-1::ts.map (·.1)
theorem qQ(h:a.length+b.length<=sizeLine):j6 .add (.rl a) (.rl b)=.ok (bJ (a++b),.rl (a++b)):=by
 show pg _ _=_;unfold pg;rw[if_pos (decide_eq_true h)]
theorem Eg{c:Nat}{p q:Int}{ts:List T3}{m:Str}{js:List (Nat×Nat)}{j:Nat}(hj:js.lookup c=some j)(h:m ≠ "net" /\ m ≠ "places" /\ m ≠ "ends" /\ m ≠ "whole"):kQ [] (kF c p q ts) m js=some j:=by
 unfold kF kQ;dsimp only;have e:∀vs:List Val,vs.length=3->((["net","places","ends"]:List Str).zip vs).lookup m=none:=λvs hv=>by
  match vs,hv with
  | [a,b,c],_ =>rw[zip_cons_cons,lookup_cons,beq_false_of_ne h.1,zip_cons_cons,lookup_cons,beq_false_of_ne h.2.1,zip_cons_cons,lookup_cons,beq_false_of_ne h.2.2.1];rfl
 rw[e _ rfl];exact hj
theorem qR{c:Nat}{p q w:Int}{ts:List T3}{m:Str}{js:List (Nat×Nat)}{j:Nat}(hj:js.lookup c=some j)(h:m ≠ "net" /\ m ≠ "places" /\ m ≠ "ends" /\ m ≠ "whole"):kQ [] (iw c p q ts w) m js=some j:=by
 unfold iw kQ;dsimp only;have e:∀vs:List Val,vs.length=4->((["net","places","ends","whole"]:List Str).zip vs).lookup m=none:=λvs hv=>by
  match vs,hv with
  | [a,b,c,d],_ =>rw[zip_cons_cons,lookup_cons,beq_false_of_ne h.1,zip_cons_cons,lookup_cons,beq_false_of_ne h.2.1,zip_cons_cons,lookup_cons,beq_false_of_ne h.2.2.1,zip_cons_cons,lookup_cons,beq_false_of_ne h.2.2.2];rfl
 rw[e _ rfl];exact hj
theorem Bx{c:Nat}(hc:c<3){p q w:Int}:iC 3 [] (iw c p q ts w) "whole" = some (.int w):=by
 unfold iw iC;dsimp only;rw[if_pos hc];rfl
theorem gT(l:List Int):bJ (l.map Val.int)=true:=aY l
theorem wZ{p q:Int}(ok:bB p q ts):PySem.W.sortI (nms ts)=nms ts:=by
 refine(eq_sortI (List.Perm.refl _) ?_).symm;unfold nms;rw[pairwise_cons];refine⟨λx hx=>?_,?_⟩
 ·obtain⟨t,ht,rfl⟩:=mem_map.mp hx;have:=ok.names t ht;omega
 ·rw[pairwise_map];have:=ok.up;unfold Dv at this;exact this.imp λh=>by omega
theorem tw{p q:Int}(ok:bB p q ts):(nms ts).Nodup:=by
 unfold nms;rw[nodup_cons];refine⟨λh=>?_,?_⟩
 ·obtain⟨t,ht,e⟩:=mem_map.mp h;have:=ok.names t ht;omega
 ·have:=ok.up;unfold Dv at this;rw[List.Nodup,pairwise_map];exact this.imp λh=>by omega
theorem tyi(t:Int):gp (.isin "int") [.int t]=.ok (true,.bl true):=nE (t:="int") rfl (by decide)
theorem VU(t:Int):gp (.isin "bool") [.int t]=.ok (true,.bl false):=yv (t:="int") rfl (by decide)
theorem uL(l:List Int):cop [] .ne (.rl (l.map .int)) (.rl (l.map .int))=some false:=by
 refine ne_self (Dt Val.int PyData.int l λ_ _=>rfl) ?_;rw[PyData.canLay0];exact qy _ _ λt _=>by rw[PyData.canLay0]
noncomputable def qS:List Int->Int->List Int
 | [],_=>[]
 | x::r,c=>if c%2=1 then x::qS r (c/2) else qS r (c/2)
theorem qT:∀(ns:List Int) (c:Int),(qS ns c).Sublist ns
 | [],_=>.slnil
 | x::r,c=>by
  rw[qS]
  split
  ·exact(qT r _).cons_cons x
  ·exact(qT r _).cons x
theorem MC(ns:List Int)(c:Int)(h:ns.length<64):mL [.rl (ns.map .int),.int c]=.ok (true,.rl ((qS ns c).map .int)):=by
 unfold mL kr;simp only[EV,gg,show 0<=sizeLine by decide]
 repeat rw[mC]
 refine bV Val.int (λr:Pr FV=>r=.ok (true,.rl ((qS ns c).map .int)))
  (λdone env=>∃(l:List Int) (c':Int) (a:Option (Mk×Val)),env=[some (.sh,.rl (ns.map .int)),some (.sh,.int c'),some (.ow,.rl (l.map .int)),a]/\qS ns c=l++qS (ns.drop done.length) c'/\l.length<=done.length)
  ⟨[],c,none,rfl,rfl,le_refl _⟩ ?_ ?_
 ·rintro pre x post env hx ⟨l,c',a,rfl,hl,hle⟩
  have hd:ns.drop pre.length=x::post:=by rw[hx];simp
  have hd2:ns.drop (pre++[x]).length=post:=by rw[hx];simp
  have hpl:pre.length<64:=by have:=congrArg length hx;rw[length_append,length_cons] at this;omega
  have z:(l.map Val.int).length<sizeLine:=by rw[length_map];unfold sizeLine;omega
  rw[hd,qS] at hl;simp only[EV,bM,jb (show decide ((0:Int)<2)=true by decide),iK (show iU 2=true by decide)]
  by_cases e:c'%2=1
  ·rw[if_pos e] at hl;refine⟨_,?_,l++[x],c'/2,some (.sh,.int x),rfl,by rw[hd2,hl];simp,by simp;omega⟩;simp only[EV,e,decide_true,z,map_append,iK (show iU 2=true by decide)]
  ·rw[if_neg e] at hl;refine⟨_,?_,l,c'/2,some (.sh,.int x),rfl,by rw[hd2,hl],by simp;omega⟩;simp only[EV,e,decide_false,iK (show iU 2=true by decide)]
 ·rintro env ⟨l,c',a,rfl,hl,hle⟩;rw[List.drop_length,qS,append_nil] at hl;simp only[EV,hl,gT]
noncomputable def bK(p q:Int)(ts:List T3)(x:Int):Int×Int:=match ts.find? (λt=>decide (t.1=x)) with
 | some t=>(t.2.1,t.2.2)
 | none=>(p,q)
theorem Eh:∀{ts:List T3},(ts.map (·.1)).Nodup->t∈ts->ts.find? (λu=>decide (u.1=t.1))=some t
 | u::r,hn,ht=>by
  rw[map_cons,nodup_cons] at hn;rw[find?_cons]
  by_cases e:u.1=t.1
  ·rw[decide_eq_true e]
   rcases mem_cons.mp ht with rfl|ht
   ·rfl
   ·exact absurd (e▸mem_map_of_mem (f:=(·.1)) ht) hn.1
  ·rw[decide_eq_false e]
   rcases mem_cons.mp ht with rfl|ht
   ·exact absurd rfl e
   ·exact Eh hn.2 ht
theorem qU{p q:Int}(ok:bB p q ts):(ts.map (·.1)).Nodup:=(nodup_cons.mp (tw ok)).2
theorem yI{p q:Int}(ok:bB p q ts)(ht:t∈ts):bK p q ts t.1=(t.2.1,t.2.2):=by
 unfold bK;rw[Eh (qU ok) ht]
theorem yJ{p q:Int}(ok:bB p q ts):bK p q ts (-1)=(p,q):=by
 unfold bK;rw[List.find?_eq_none.mpr λt ht=>by have:=ok.names t ht;simp;omega]
theorem o5{p q:Int}(ok:bB p q ts){x:Int}(hx:x∈nms ts):(bK p q ts x).1∈oj p q ts/\(bK p q ts x).2∈oj p q ts:=by
 unfold nms at hx
 rcases mem_cons.mp hx with rfl|hx
 ·rw[yJ ok];exact⟨o4.mpr (.inl rfl),o4.mpr (.inr (.inl rfl))⟩
 ·obtain⟨t,ht,rfl⟩:=mem_map.mp hx;rw[yI ok ht];exact⟨o4.mpr (.inr (.inr ⟨t,ht,.inl rfl⟩)),o4.mpr (.inr (.inr ⟨t,ht,.inr rfl⟩))⟩
theorem zY(g:Int->Val):∀(us:List T3) (ks:List Int),(∀u∈us,u.1∉ks)->(us.map (·.1)).Nodup->(∀u∈us,g u.1=.tup [.int u.2.1,.int u.2.2]) ->
  us.foldl jc (ks.map λx=>((Sum.inl x:Key),g x))=(ks++us.map (·.1)).map λx=>((Sum.inl x:Key),g x)
 | [],ks,_,_,_=>by simp
 | u::r,ks,h1,h2,h3=>by
  rw[map_cons,nodup_cons] at h2;have e:jc (ks.map λx=>((Sum.inl x:Key),g x)) u=(ks++[u.1]).map λx=>((Sum.inl x:Key),g x):=by unfold jc gG;rw[yy,if_neg (by simpa using h1 u mem_cons_self),map_append,map_cons,map_nil,h3 u mem_cons_self]
  rw[List.foldl_cons,e,zY g r (ks++[u.1]) (λv hv z=>?_) h2.2 λv hv=>h3 v (mem_cons_of_mem _ hv)]
  ·simp
  ·rcases mem_append.mp z with z|z
   ·exact h1 v (mem_cons_of_mem _ hv) z
   ·rw[mem_singleton] at z;exact h2.1 (z▸mem_map_of_mem (f:=(·.1)) hv)
noncomputable def jF(p q:Int)(ts:List T3)(x:Int):Val:=lg (bK p q ts x)
noncomputable def jG(p q:Int)(ts:List T3):Val:=k7 (nms ts) (jF p q ts)
theorem zZ{p q:Int}(ok:bB p q ts):Val.dc ((bS p q ts).map (·.1)) ((bS p q ts).map (·.2))=jG p q ts:=by
 have e:bS p q ts=(nms ts).map λx=>((Sum.inl x:Key),jF p q ts x):=by
  have h:=zY (jF p q ts) ts [-1] (λu hu z=>by
   rw[mem_singleton] at z;have:=ok.names u hu;omega) (qU ok) λu hu=>by unfold jF;rw[yI ok hu];rfl
  unfold bS nms;rw[map_cons,map_nil] at h;have e1:jF p q ts (-1)=.tup [.int p,.int q]:=by unfold jF;rw[yJ ok];rfl
  rw[e1] at h;exact h
 rw[e,map_map,map_map];rfl
structure Ei (o:Val) (p q:Int) (ts:List T3):Prop where
 net:iC 3 [] o "net" = some (ff p q ts)
 places:iC 3 [] o "places" = some (.rl ((oj p q ts).map .int))
 ends:iC 3 [] o "ends" = some (jG p q ts)
theorem uM{c:Nat}(hc:c<3){p q:Int}(ok:bB p q ts):Ei (kF c p q ts) p q ts:=by
 refine⟨?_,?_,?_⟩
 ·unfold kF iC;dsimp only;rw[if_pos hc];rfl
 ·unfold kF iC;dsimp only;rw[if_pos hc];rfl
 ·rw[<-zZ ok];unfold kF iC;dsimp only;rw[if_pos hc];rfl
theorem uN{c:Nat}(hc:c<3){p q w:Int}(ok:bB p q ts):Ei (iw c p q ts w) p q ts:=by
 refine⟨?_,?_,?_⟩
 ·unfold iw iC;dsimp only;rw[if_pos hc];rfl
 ·unfold iw iC;dsimp only;rw[if_pos hc];rfl
 ·rw[<-zZ ok];unfold iw iC;dsimp only;rw[if_pos hc];rfl
theorem Ej{p q:Int}(h:ts.length<=14):gM [ff p q ts]=.ok (true,.rl (ts.map nameV)):=by
 unfold gM gi ff;have hc:ts.length<=100000:=by omega
 simp only[EV,mD Bk,gg,jJ,length_map,hc];rw[jA eF nameV ts (λt ht=>by
  have i0:nh [] (eF t) (.int 0)=some (.int t.1):=rfl;simp only[EV,bM,i0,nameV])]
 simp only[EV,fc]
theorem uO{p q:Int}(ro:Ei o p q ts)(h:ts.length<=14):cE [o]=.ok (true,.rl ((nms ts).map .int)):=by
 have e1:=Ej (p:=p) (q:=q) h;unfold cE fk;have z1:1<=sizeLine:=by decide
 have z:([.int (-1)]:List Val).length+(ts.map nameV).length<=sizeLine:=by rw[length_map];simp;unfold sizeLine;omega
 simp only[EV,ro.net,jS,e1,z1,qQ z];have em:[Val.int (-1)]++ts.map nameV=(nms ts).map .int:=by unfold nms;rw[map_cons,map_map];rfl
 have en:bJ (ts.map nameV)=true:=by rw[show ts.map nameV=(ts.map (·.1)).map Val.int by rw[map_map];rfl];exact gT _
 rw[show Val.int (-1)::ts.map nameV=(nms ts).map .int from em,en]
theorem QC(e:Int×Int):jv (lg e)=true:=rfl
theorem qV(p q:Int)(ts:List T3)(x:Int):jv (jF p q ts x)=true:=rfl
theorem Ek{p q:Int}{x:Int}:nh [] (jF p q ts x) (.int 0)=some (.int (bK p q ts x).1):=rfl
theorem El{p q:Int}{x:Int}:nh [] (jF p q ts x) (.int 1)=some (.int (bK p q ts x).2):=rfl
theorem uP{p q:Int}{x:Int}(h:x∈nms ts):nh [] (jG p q ts) (.int x)=some (jF p q ts x):=nG h
theorem Em(p q:Int)(ts:List T3):∀l:List Int,bJ (l.map (jF p q ts))=true
 | []=>rfl
 | x::r=>by rw[map_cons,bJ,Em p q ts r];rfl
theorem fU{p q:Int}(ok:bB p q ts):(nms ts).length<=15:=by
 have:=ok.len;unfold nms;simp;omega
noncomputable def rj(p q:Int)(ts:List T3)(P:List Int):Nat:=tr (oj p q ts) (P.map (bK p q ts))
theorem MD{p q:Int}(ok:bB p q ts){P:List Int}(hP:∀x∈P,x∈nms ts):MW (oj p q ts) (P.map (bK p q ts)):=λe he=>by
 obtain⟨x,hx,rfl⟩:=mem_map.mp he;exact o5 ok (hP x hx)
theorem qW{p q:Int}(ok:bB p q ts)(ro:Ei o p q ts){P:List Int}(hP:∀x∈P,x∈nms ts)(hl:P.length<=15):aR [o,.rl (P.map .int)]=.ok (true,.int (rj p q ts P)):=by
 have hpl:=HK (p:=p) (q:=q) ok.len;have Rk:(oj p q ts).Nodup:=jz _;obtain⟨f,φ,ef,Ht⟩:=Bv (oj p q ts) Rk hpl (P.map (bK p q ts)) (λe he=>by
  obtain⟨x,hx,rfl⟩:=mem_map.mp he;exact o5 ok (hP x hx))
 have et:rj p q ts P=rk φ (oj p q ts):=nY Ht Rk;rw[et];rw[map_map] at ef;unfold aR bY;have hc:P.length<=100000:=by omega
 have hc2:(oj p q ts).length<=100000:=by omega
 simp only[EV,ro.places,ro.ends,gg,jJ,length_map,hc];rw[jA Val.int (jF p q ts) P (λx hx=>by
  simp only[EV,bM,ro.ends,uP (hP x hx),qV])]
 have ef':dU [.rl ((oj p q ts).map .int),.rl (P.map (jF p q ts))]=.ok (f,k7 (oj p q ts) λx=>.int (φ x)):=ef;simp only[EV,gC,ef',ro.places,gg,jJ,length_map,hc2];rw[jB Val.int Val.int (λx=>!decide (φ x=x)) (oj p q ts) (λx hx=>by
  have hi:=nG (g:=λx=>Val.int (φ x)) hx;simp only[EV,bM,hi]
  by_cases c:φ x=x
  ·simp[c]
  ·simp[c])]
 simp only[EV,length_map];rfl
theorem HP:∀us:List T3,bJ (us.map eF)=true
 | []=>rfl
 | u::r=>by rw[map_cons,bJ,HP r];rfl
theorem En{c jo jp jt jr:Nat}(hc:c<3){p q:Int}(h1:Ψ' jo=cM)(h2:Ψ' jp=bZ)(h3:Ψ jt=cE)(h4:Ψ jr=aR)(ok:bB p q ts) :
  sW Ψ' Ψ c jo jp jt jr [ff p q ts]=.ok (true,iw c p q ts (rj p q ts (nms ts))):=by
 have e3:=uO (uM hc ok) ok.len;have e1:=qW ok (uM hc ok) (P:=nms ts) (λ_ h=>h) (fU ok);rw[<-h3] at e3;rw[<-h4] at e1;exact DA (qP h1 h2 ok) e3 e1
noncomputable def others(ts:List T3)(P:List Int):List Int:=(nms ts).filter λx=>!decide (x∈P)
theorem yK{P:List Int}:∀x∈others ts P,x∈nms ts:=λx hx=>(mem_filter.mp hx).1
theorem z4{p q:Int}(ok:bB p q ts){P:List Int}:(others ts P).length<=15:=le_trans (length_filter_le _ _) (fU ok)
theorem Eo{c:Nat}(hc:c<3)(jt:([(0,13),(1,13),(2,13)]:List (Nat×Nat)).lookup c=some 13)(jr:([(0,11),(1,11),(2,11)]:List (Nat×Nat)).lookup c=some 11){p q w:Int}(ok:bB p q ts){P:List Int}:ck [iw c p q ts w,.rl (P.map .int)]=.ok (true,.int ((P.length:Int)-w+rj p q ts (others ts P))):=by
 have e1:=qW ok (uN (w:=w) hc ok) (P:=others ts P) yK (z4 ok);have e3:=uO (uN (w:=w) hc ok) ok.len;have hl:(nms ts).length<=100000:=by have:=fU ok;omega
 have m1:=qR (p:=p) (q:=q) (w:=w) (ts:=ts) (m:="ties") jt (by decide);have m2:=qR (p:=p) (q:=q) (w:=w) (ts:=ts) (m:="tree_rank") jr (by decide);unfold ck cU;simp only[EV,m1,iN,e3,gg,jJ,length_map,hl];rw[jB Val.int Val.int (λx=>!decide (x∈P)) (nms ts) (λx hx=>by
  simp only[EV,bM,Mc]
  by_cases c:x∈P
  ·simp[c]
  ·simp[c])]
 have Wh:aR [iw c p q ts w,.rl (((nms ts).filter λx=>!decide (x∈P)).map .int)]=.ok (true,.int (rj p q ts (others ts P))):=e1;simp only[EV,m2,gm,Wh,Bx hc,length_map]
theorem tB:∀ks:List Int,aT (ks.map Val.int)=some ks
 | []=>rfl
 | k::r=>by
  have:=tB r;unfold aT at this |-;rw[map_cons,cg,this];rfl
theorem HQ{ks ms:List Int}(h:ks.length<=100000):pX [] (ks.map Sum.inl) (.rl (ms.map .int))=some (ks.filter λx=>!decide (x∈ms)):=by
 unfold pX;rw[qG,bind_some,show aC [] (.rl (ms.map .int))=some (ms.map .int) from rfl,bind_some,tB,bind_some,if_pos h]
 congr 1
 refine List.filter_congr λx _=>?_
 congr 1
 rw[Bool.eq_iff_iff,List.any_eq_true,decide_eq_true_eq];constructor
 ·rintro⟨m,hm,e⟩;rw[<-eq_of_beq e];exact hm
 ·exact λhm=>⟨x,hm,beq_self_eq_true _⟩
end K24
end
section
open PySem L2 Hv
namespace K24
theorem xg{p q:Int}(ok:bB p q ts):kD [ff p q ts]=.ok (true,jG p q ts):=by
 have hl:=ok.len;unfold kD jg ff;have em:jF p q ts (-1)=.tup [.int p,.int q]:=by unfold jF;rw[yJ ok];rfl
 simp only[EV,mD Dr,mD Bk,qz,gg,show (-(1:Int)) = -1 from rfl]
 repeat rw[mC]
 refine bV eF (λr:Pr FV=>r=.ok (true,jG p q ts))
  (λdone env=>∃a b c,env=[some (.sh,.tup [.tup [.int p,.int q],.rl (ts.map eF)]),some (.ow,k7 (nms done) (jF p q ts)),a,b,c])
  ⟨none,none,none,by unfold nms k7;rw[map_nil,map_cons,map_cons,em];rfl⟩ ?_ ?_
 ·rintro pre t post env hx ⟨a,b,c,rfl⟩
  have hp:pre.length<=14:=by have:=congrArg length hx;rw[length_append,length_cons] at this;omega
  have hnew:t.1∉nms pre:=λz=>by
   unfold nms at z;have hn:=qU ok;rw[hx,map_append,map_cons,nodup_append] at hn
   rcases mem_cons.mp z with z|z
   ·have:=ok.names t (by rw[hx];simp);omega
   ·exact hn.2.2 t.1 z t.1 mem_cons_self rfl
  have zz:((nms pre).map (Sum.inl:Int->Key)).length<sizeLine:=by rw[length_map];unfold nms;simp;unfold sizeLine;omega
  have z2:2<=sizeLine:=by decide
  have bt:∀env:aV,cO (.tup [2,3,4]) (eF t) env=some (((env.set 2 (some (.sh,.int t.1))).set 3 (some (.sh,.int t.2.1))).set 4 (some (.sh,.int t.2.2))):=λ_=>rfl;refine⟨_,?_,some (.sh,.int t.1),some (.sh,.int t.2.1),some (.sh,.int t.2.2),rfl⟩;simp only[EV,bt,qz,zz,z2,uz hnew];have eD:k7 (nms pre++[t.1]) (nF (jF p q ts) t.1 (.tup [.int t.2.1,.int t.2.2]))=k7 (nms (pre++[t])) (jF p q ts):=by
   rw[show nms (pre++[t])=nms pre++[t.1] by unfold nms;simp];refine cL λy hy=>?_;unfold nF
   split
   ·rename_i e;rw[e];unfold jF;rw[yI ok (by rw[hx];simp)];rfl
   ·rfl
  rw[eD]
 ·rintro env ⟨a,b,c,rfl⟩;simp only[EV,Em];rfl
theorem By{p q:Int}(ok:bB p q ts){P:List Int}(hP:∀x∈P,x∈nms ts)(hl:P.length<=15):∃(n:Nat) (ψ:Int->Int) (ks:List Int),fR [jG p q ts,.rl (P.map .int)]=.ok (true,.int n)/\Bo (oj p q ts) ks (P.map (bK p q ts)) ψ n:=by
 have Rk:(oj p q ts).Nodup:=jz _;unfold fR gj;simp only[EV,gg]
 repeat rw[mC]
 refine bV Val.int (λr:Pr FV=>∃(n:Nat) (ψ:Int->Int) (ks:List Int),r=.ok (true,.int n)/\Bo (oj p q ts) ks (P.map (bK p q ts)) ψ n)
  (λdone env=>∃(n:Nat) (ψ:Int->Int) (ks:List Int) (a b c d:Option (Mk×Val)),env=[some (.sh,jG p q ts),some (.sh,.rl (P.map .int)),some (.ow,k7 ks λx=>.int (ψ x)),some (.sh,.int n),a,b,c,d]/\Bo (oj p q ts) ks (done.map (bK p q ts)) ψ n)
  ⟨0,id,[],none,none,none,none,rfl,Bo.start Rk⟩ ?_ ?_
 ·rintro pre x post env hx ⟨n,ψ,ks,a,b,c,d,rfl,m⟩
  have hxm:x∈P:=by rw[hx];simp
  have hxn:=hP x hxm;obtain⟨h1,h2⟩:=o5 ok hxn;have hpre:pre.length<=14:=by have:=congrArg length hx;rw[length_append,length_cons] at this;omega
  have hks:ks.length<=28:=by have:=m.len;rw[length_map] at this;omega
  have gd:∀y:Int,((if y∈ks then some (Val.int (ψ y)) else none).getD (.int y))=.int (ψ y):=λy=>by
   by_cases h:y∈ks
   ·rw[if_pos h];rfl
   ·rw[if_neg h,m.off y h];rfl
  have isd:Cw [] (k7 ks λx=>Val.int (ψ x))=some ():=rfl;simp only[EV,bM,uP hxn,Ek,El,qV,isd,qz,Mj,gd];have est:(pre++[x]).map (bK p q ts)=pre.map (bK p q ts)++[((bK p q ts x).1,(bK p q ts x).2)]:=by rw[map_append];rfl
  rw[est]
  by_cases c:ψ (bK p q ts x).1 = ψ (bK p q ts x).2
  ·refine⟨[some (.sh,jG p q ts),some (.sh,.rl (P.map .int)),some (.ow,k7 ks λx=>.int (ψ x)),some (.sh,.int n),some (.sh,.int x),some (.sh,.int (ψ (bK p q ts x).1)),some (.sh,.int (ψ (bK p q ts x).2)),d],?_,n,ψ,ks,_,_,_,_,rfl,m.stay h1 h2 c⟩;simp only[EV,c,not_true,decide_false]
  ·have m2:=m.join h1 h2 c
   generalize QD:eV (eV ks (bK p q ts x).1) (bK p q ts x).2=ks' at m2;have zz:∀l:List Int,l.length<=40->(l.map (Sum.inl:Int->Key)).length<sizeLine:=λl h=>by rw[length_map];unfold sizeLine;omega
   have l1:(eV ks (bK p q ts x).1).length<=40:=by have:=kj ks (bK p q ts x).1;omega
   have l2:ks'.length<=40:=by have:=kj (eV ks (bK p q ts x).1) (bK p q ts x).2;rw[QD] at this;have:=kj ks (bK p q ts x).1;omega
   have pt1:=zS (ks:=ks) (ψ:=ψ) (a:=(bK p q ts x).1);have XE:=zS (ks:=eV ks (bK p q ts x).1) (ψ:=ψ) (a:=(bK p q ts x).2);rw[QD] at XE;have ky:lT [] (k7 ks' λx=>Val.int (ψ x))=some (ks'.map Sum.inl):=rfl;have kv:(ks'.map (Sum.inl:Int->Key)).map AM=ks'.map Val.int:=by rw[map_map];rfl
   simp only[EV,c,not_false_iff,decide_true,uP hxn,Ek,El,qV,qz,zz ks (by omega),zz _ l1,pt1,XE,ky,kv,gg]
   repeat rw[mC]
   refine bV Val.int (λr:Pr yo=>∃env',r=.ok (.nx env')/\∃(n:Nat) (ψ:Int->Int) (ks:List Int) (a b c d:Option (Mk×Val)),env'=[some (.sh,jG p q ts),some (.sh,.rl (P.map .int)),some (.ow,k7 ks λx=>.int (ψ x)),some (.sh,.int n),a,b,c,d]/\Bo (oj p q ts) ks (pre.map (bK p q ts)++[((bK p q ts x).1,(bK p q ts x).2)]) ψ n)
    (λdone env=>∃a,env=[some (.sh,jG p q ts),some (.sh,.rl (P.map .int)),some (.ow,k7 ks' λy=>.int (if y∈done /\ ψ y = ψ (bK p q ts x).2 then ψ (bK p q ts x).1 else ψ y)),some (.sh,.int ((n:Int)+1)),some (.sh,.int x),some (.sh,.int (ψ (bK p q ts x).1)),some (.sh,.int (ψ (bK p q ts x).2)),a])
    ?_ ?_ ?_
   ·exact⟨d,by simp⟩
   ·rintro done y post env hy ⟨a,rfl⟩
    have hn:=m2.nd;have hyp:y∉done:=by rw[hy,nodup_append] at hn;exact λh=>hn.2.2 y h y (by simp) rfl
    have hys:y∈ks':=by rw[hy];simp
    refine⟨_,?_,some (.sh,.int y),rfl⟩;simp only[EV,bM,nG hys,qz,zz ks' l2,uy hys,hyp,false_and,if_false]
    by_cases hg:ψ y = ψ (bK p q ts x).2
    ·simp only[hg,↓reduceIte]
     rw[cL];intro z _;unfold nF
     by_cases e:z=y
     ·subst e;simp[hg]
     ·simp[e]
    ·simp only[hg,↓reduceIte]
     rw[cL];intro z _
     by_cases e:z=y
     ·subst e;simp[hg]
     ·simp[e]
   ·rintro env ⟨a,rfl⟩
    refine⟨_,rfl,n+1,(λy=>if ψ y = ψ (bK p q ts x).2 then ψ (bK p q ts x).1 else ψ y),ks',some (.sh,.int x),some (.sh,.int (ψ (bK p q ts x).1)),some (.sh,.int (ψ (bK p q ts x).2)),a,?_,m2⟩;rw[cL (g':=λy=>.int (if ψ y = ψ (bK p q ts x).2 then ψ (bK p q ts x).1 else ψ y))]
    ·rfl
    ·intro z hz;simp[hz]
 ·rintro env ⟨n,ψ,ks,a,b,c,d,rfl,m⟩;simp only[EV,fc];exact⟨n,ψ,ks,rfl,m⟩
theorem qX{p q:Int}(ok:bB p q ts){P:List Int}(hP:∀x∈P,x∈nms ts)(hl:P.length<=15):fR [jG p q ts,.rl (P.map .int)]=.ok (true,.int (rj p q ts P)):=by
 obtain⟨n,ψ,ks,e,m⟩:=By ok hP hl;rw[e,Mm m.Ht (jz _) m.num];rfl
end K24
end
section
open PySem L2 Hv
namespace K24
noncomputable abbrev NF(m:Str):Prop:=m ≠ "net" /\ m ≠ "places" /\ m ≠ "ends" /\ m ≠ "whole"
noncomputable def lF(κ:Nat)(p q:Int)(ts:List T3):Val:=if κ = 2 then iw 2 p q ts (rj p q ts (nms ts)) else kF κ p q ts
theorem Ep{κ:Nat}{p q:Int}{ts:List T3}{m:Str}{js:List (Nat×Nat)}{j:Nat}(hj:js.lookup κ = some j)(h:NF m):kQ [] (lF κ p q ts) m js=some j:=by
 unfold lF
 split
 ·rename_i e;subst e;exact qR hj h
 ·exact Eg hj h
theorem Er{κ:Nat}(hk:κ < 3){p q:Int}(ok:bB p q ts):Ei (lF κ p q ts) p q ts:=by
 unfold lF
 split
 ·exact uN (by decide) ok
 ·exact uM hk ok
theorem HS{κ:Nat}(hk:κ < 3){p q:Int}:AN [] (lF κ p q ts) [true,true,true]=some true:=by
 unfold lF iw kF
 match κ,hk with
 | 0,_=>rfl
 | 1,_=>rfl
 | 2,_=>rfl
noncomputable def lG(κ:Nat)(p q:Int)(ts:List T3)(P:List Int):Int:=if κ = 0 then (P.length:Int) else if κ = 1 then (rj p q ts P:Int) else (P.length:Int)-rj p q ts (nms ts)+rj p q ts (others ts P)
theorem sub_len{p q:Int}(ok:bB p q ts){P:List Int}(hn:P.Nodup)(hP:∀x∈P,x∈nms ts):P.length<=15:=le_trans (fL hn hP) (fU ok)
theorem yL{Ψ:Nat->List Val->Pr FV}(h0:Ψ 19=dW)(h1:Ψ 20=cB)(h2:Ψ 21=ck){κ:Nat}(hk:κ < 3){p q:Int}{ts:List T3}(ok:bB p q ts){P:List Int}(hP:∀x∈P,x∈nms ts)(hl:P.length<=15):Ψ (19 + κ) [lF κ p q ts,.rl (P.map .int)]=.ok (true,.int (lG κ p q ts P)):=by
 match κ,hk with
 | 0,_ =>rw[h0];unfold dW fq;simp only[EV,length_map];rfl
 | 1,_ =>rw[h1];have e:=qW (o:=lF 1 p q ts) ok (Er (by decide) ok) hP hl;have m:=Ep (κ:=1) (p:=p) (q:=q) (ts:=ts) (m:="tree_rank") (js:=[(0,11),(1,11),(2,11)]) (j:=11) rfl (by decide);unfold cB cJ;simp only[EV,m,fS,e];rfl
 | 2,_ =>rw[h2];exact Eo (c:=2) (by decide) rfl rfl ok
theorem VW{κ:Nat}(hk:κ < 3){p q:Int}{ts:List T3}:kQ [] (lF κ p q ts) "rank" [(0,19),(1,20),(2,21)]=some (19 + κ):=by
 refine Ep ?_ (by decide)
 match κ,hk with
 | 0,_=>rfl
 | 1,_=>rfl
 | 2,_=>rfl
theorem m3{κ:Nat}(hk:κ < 3){p q:Int}{ts:List T3}{m:Str}{j:Nat}(h:NF m):kQ [] (lF κ p q ts) m [(0,j),(1,j),(2,j)]=some j:=by
 refine Ep ?_ h
 match κ,hk with
 | 0,_=>rfl
 | 1,_=>rfl
 | 2,_=>rfl
theorem free_eq{κ:Nat}(hk:κ < 3){p q:Int}(ok:bB p q ts){P:List Int}(hP:∀x∈P,x∈nms ts)(hl:P.length<=15):gk [lF κ p q ts,.rl (P.map .int)]=.ok (true,.bl (decide (lG κ p q ts P=(P.length:Int)))):=by
 have e:=yL (Ψ:=ak yz) jE gW iO hk ok hP hl;unfold gk fu;simp only[EV,VW hk,e,length_map]
theorem Es{p q:Int}{P Q:List Int}{x:Int}(h:∀y,y∈Q↔y∈P\/y=x):∀e,e∈Q.map (bK p q ts)↔e∈P.map (bK p q ts)\/e=((bK p q ts x).1,(bK p q ts x).2):=λe=>by
 constructor
 ·intro he
  obtain⟨y,hy,rfl⟩:=mem_map.mp he
  rcases(h y).mp hy with hy|rfl
  ·exact .inl (mem_map_of_mem hy)
  ·exact .inr rfl
 ·rintro(he|rfl)
  ·obtain⟨y,hy,rfl⟩:=mem_map.mp he;exact mem_map_of_mem ((h y).mpr (.inl hy))
  ·exact mem_map_of_mem (f:=bK p q ts) ((h x).mpr (.inr rfl))
theorem xh{p q:Int}(ok:bB p q ts){P Q:List Int}{x:Int}(hP:∀y∈P,y∈nms ts)(hx:x∈nms ts)(h:∀y,y∈Q↔y∈P\/y=x):rj p q ts P<=rj p q ts Q/\rj p q ts Q<=rj p q ts P+1:=by
 obtain⟨h1,h2⟩:=o5 ok hx;have e:=Hu (ps:=oj p q ts) (jz _) (MD ok hP) h1 h2 (Es (p:=p) (q:=q) (ts:=ts) h);unfold rj;rw[e]
 split<;>omega
theorem HU{κ:Nat}{p q:Int}(ok:bB p q ts){P:List Int}{x:Int}(hP:∀y∈P,y∈nms ts)(hx:x∈nms ts)(hn:x∉P):lG κ p q ts P<=lG κ p q ts (P++[x]):=by
 unfold lG
 split
 ·rw[length_append];simp;omega
 ·split
  ·have:=(xh ok (Q:=P++[x]) hP hx λy=>by simp).1;omega
  ·have:=(xh ok (P:=others ts (P++[x])) (Q:=others ts P) (x:=x) yK hx λy=>by
    unfold others;rw[mem_filter,mem_filter];constructor
    ·rintro⟨h1,h2⟩
     by_cases c:y=x
     ·exact .inr c
     ·refine .inl ⟨h1,?_⟩;simp at h2 |-;exact⟨h2,c⟩
    ·rintro(⟨h1,h2⟩|rfl)
     ·refine⟨h1,?_⟩;simp at h2 |-;exact h2.1
     ·exact⟨hx,by simpa using hn⟩).2
   rw[length_append];simp only[length_cons,length_nil];omega
noncomputable def mR(κ:Nat)(p q:Int)(ts:List T3)(P:List Int):List Int:=(nms ts).filter λx=>decide (x∈P)||decide (lG κ p q ts (P++[x])=lG κ p q ts P)
theorem uQ{P:List Int}{x:Int}(hP:∀y∈P,y∈nms ts)(hx:x∈nms ts):∀y∈P++[x],y∈nms ts:=λy hy=>by
 rcases mem_append.mp hy with h|h
 ·exact hP y h
 ·rw[mem_singleton.mp h];exact hx
theorem Et{P:List Int}{x:Int}(hn:P.Nodup)(hx:x∉P):(P++[x]).Nodup:=by
 rw[nodup_append];exact⟨hn,by simp,λa ha b hb e=>hx (by rw[mem_singleton] at hb;rw[<-hb,<-e];exact ha)⟩
theorem Eu{κ:Nat}(hk:κ < 3){p q:Int}(ok:bB p q ts){P:List Int}(hn:P.Nodup)(hP:∀x∈P,x∈nms ts):fz [lF κ p q ts,.rl (P.map .int)]=.ok (true,.rl ((mR κ p q ts P).map .int)):=by
 have hl:=sub_len ok hn hP;have e:=yL (Ψ:=ak uG) dX cW dh hk ok hP hl;have e1:=uO (Er hk ok) ok.len;have hc:(nms ts).length<=100000:=by have:=fU ok;omega
 have mt:=m3 hk (p:=p) (q:=q) (ts:=ts) (m:="ties") (j:=13) (by decide);unfold fz dH;simp only[EV,VW hk,e,mt,jl,e1,gg,jJ,length_map,hc];rw[jB Val.int Val.int (λx=>decide (x∈P)||decide (lG κ p q ts (P++[x])=lG κ p q ts P)) (nms ts) (λx hx=>by
  have z1:1<=sizeLine:=by decide
  have z:(P.map Val.int).length+([.int x]:List Val).length<=sizeLine:=by rw[length_map];simp;unfold sizeLine;omega
  have em:P.map Val.int++[.int x]=(P++[x]).map .int:=by rw[map_append];rfl
  simp only[EV,bM,wg]
  by_cases c:x∈P
  ·simp[c]
  ·have e2:=yL (Ψ:=ak uG) dX cW dh hk ok (P:=P++[x]) (uQ hP hx) (sub_len ok (Et hn c) (uQ hP hx))
   simp only[EV,c,decide_false,z1,qQ z,em,VW hk,e2];have hm:=HU (κ:=κ) ok hP hx c
   by_cases d:lG κ p q ts (P++[x])=lG κ p q ts P
   ·simp[d]
   ·have:¬ lG κ p q ts (P++[x])<=lG κ p q ts P:=by omega
    simp[d,this])]
 simp only[EV,fc];rfl
theorem Ew{κ:Nat}(hk:κ < 3){p q:Int}(ok:bB p q ts):gO [.int (κ:Int),ff p q ts]=.ok (true,lF κ p q ts):=by
 have r0:uF [ff p q ts]=.ok (true,kF 0 p q ts):=qP oJ mO ok;have r1:kO [ff p q ts]=.ok (true,kF 1 p q ts):=qP lE kE ok;have r2:mK [ff p q ts]=.ok (true,iw 2 p q ts (rj p q ts (nms ts))):=En (by decide) iL gQ kU iM ok
 match κ,hk with
 | 0,_ =>have d1:decide (((0:Nat):Int)=1)=false:=rfl;have d2:decide (((0:Nat):Int)=2)=false:=rfl;unfold gO fP;simp only[EV,d1,d2,qL,r0];rfl
 | 1,_ =>have d1:decide (((1:Nat):Int)=1)=true:=rfl;unfold gO fP;simp only[EV,d1,mP,r1];rfl
 | 2,_ =>have d1:decide (((2:Nat):Int)=1)=false:=rfl;have d2:decide (((2:Nat):Int)=2)=true:=rfl;unfold gO fP;simp only[EV,d1,d2,nK,r2];rfl
theorem xj{κ:Nat}(hk:κ < 3){p q:Int}(ok:bB p q ts){P:List Int}(hP:∀x∈P,x∈nms ts)(hl:P.length<=15):gP [.int (κ:Int),jG p q ts,.rl (P.map .int)]=.ok (true,.int (lG κ p q ts P)):=by
 match κ,hk with
 | 0,_ =>have d1:decide (((0:Nat):Int)=0)=true:=rfl;unfold gP fQ;simp only[EV,d1,length_map];rfl
 | 1,_ =>have d1:decide (((1:Nat):Int)=0)=false:=rfl;have d2:decide (((1:Nat):Int)=1)=true:=rfl;have e:=qX ok hP hl;unfold gP fQ;simp only[EV,d1,d2,gR,e];rfl
 | 2,_ =>
  have d1:decide (((2:Nat):Int)=0)=false:=rfl;have d2:decide (((2:Nat):Int)=1)=false:=rfl;have ew:=qX ok (P:=nms ts) (λ_ h=>h) (fU ok);have e2:=qX ok (P:=others ts P) yK (z4 ok);have ky:lT [] (jG p q ts)=some ((nms ts).map Sum.inl):=rfl;have kv:((nms ts).map (Sum.inl:Int->Key)).map AM=(nms ts).map Val.int:=by rw[map_map];rfl
  have df:pX [] ((nms ts).map Sum.inl) (.rl (P.map .int))=some (others ts P):=HQ (by have:=fU ok;omega);unfold gP fQ;simp only[EV,d1,d2,ky,kv,df,gR,ew,e2,length_map];rfl
theorem tyl(l:List Val):gp (.isin "list") [.rl l]=.ok (true,.bl true):=nE (t:="list") rfl (by decide)
theorem tyb(b:Bool):gp (.isin "bool") [.bl b]=.ok (true,.bl true):=nE (t:="bool") rfl (by decide)
theorem sorted_ints{l:List Int}(h:l.length<64):gp .sorted [.rl (l.map .int)]=.ok (true,.rl ((PySem.W.sortI l).map .int)):=by
 refine wW ?_;unfold fD;rw[if_pos (by rw[length_map];exact h),ints_map]
theorem xm{l:List Int}(h:l.length<64)(hs:PySem.W.sortI l=l):fB [.rl (l.map .int)]=.ok (true,.bl true):=by
 unfold fB dJ;have hc:l.length<=100000:=by omega
 simp only[EV,tyl,sorted_ints h,hs,uL,gg,jJ,length_map,hc];rw[jA Val.int (λ_=>.bl true) l (λt ht=>by
  simp only[EV,bM,tyi,VU])]
 simp only[EV,all_true]
theorem Ex{κ:Nat}{p q:Int}(ok:bB p q ts){P:List Int}:PySem.W.sortI (mR κ p q ts P)=mR κ p q ts P:=by
 refine(eq_sortI (List.Perm.refl _) ?_).symm;have h:(nms ts).Pairwise (· <= ·):=by
  unfold nms;rw[pairwise_cons];refine⟨λx hx=>?_,?_⟩
  ·obtain⟨t,ht,rfl⟩:=mem_map.mp hx;have:=ok.names t ht;omega
  ·rw[pairwise_map];have:=ok.up;unfold Dv at this;exact this.imp λh=>by omega
 exact h.sublist List.filter_sublist
theorem z5{κ:Nat}{p q:Int}(ok:bB p q ts){P:List Int}:(mR κ p q ts P).length<=15:=le_trans (length_filter_le _ _) (fU ok)
theorem bF{sp:List Nat}(h:bI Ψ sp st env=.ok (.nx env')):bT Ψ sp (.cons st r) env=bT Ψ sp r env':=by
 rw[bT,h];rfl
theorem Ey{sp:List Nat}{i:Nat}(hi:sp.contains i=true)(h:aZ Ψ e (bx env)=.ok (true,v)):bI Ψ sp (.asg (.one i) e) env=.ok (.nx (env.set i (some (.ow,v)))):=by
 rw[bI]
 try dsimp only
 rw[if_pos hi,h];rfl
theorem jH{sp:List Nat}{i:Nat}{f:Bool}(hi:sp.contains i=false)(h:aZ Ψ e (dD env)=.ok (f,v)):bI Ψ sp (.asg (.one i) e) env=.ok (.nx (env.set i (some (.sh,v)))):=by
 rw[bI]
 try dsimp only
 unfold IP;rw[if_neg (by rw[hi];exact Bool.false_ne_true),h];rfl
theorem xq{sp:List Nat}{f:Bool}(h:aZ Ψ c (bx env)=.ok (f,.bl false)):bI Ψ sp (.iff c a .nil) env=.ok (.nx env):=by
 rw[bI,h,fc];show pb (pl (dj [] (.bl false))) _=_;rw[IK,jy,fc,if_neg Bool.false_ne_true,bT]
theorem Ez{sp:List Nat}{f:Bool}(hs:wG e p k body=none)(he:aZ Ψ e (dD env)=.ok (f,v))(hx:gI k [v]=some xs):bI Ψ sp (.for p k (.cons e .nil) body) env=jQ (λx env=>pb (pl (cO p x env)) λenv'=>bT Ψ sp body env') xs env:=by
 rw[bI]
 try dsimp only
 rw[hs]
 try dsimp only
 unfold IP;rw[he,fc,hx,jy,fc]
theorem HV:wG (.bin o a b) p k body=none:=by
 first
  | (unfold wG
     split
     ·exact absurd ‹IE.bin o a b=IE.var _› (by intro z;cases z)
     ·rfl)
  | exact Eq.trans rfl rfl
theorem ME:wG (.skeys d) p k body=none:=by
 first
  | (unfold wG
     split
     ·exact absurd ‹IE.skeys d=IE.var _› (by intro z;cases z)
     ·rfl)
  | exact Eq.trans rfl rfl
noncomputable abbrev Sl:=Option (Mk×Val)
noncomputable def EN(ns:List Int)(sz:Int)(κ:Nat)(p q:Int)(ts:List T3)(r:List Sl):aV:=some (.sh,.rl (ns.map .int))::some (.sh,.int sz)::some (.sh,ff p q ts)::some (.sh,jG p q ts)::some (.sh,.int (κ:Int))::some (.sh,lF κ p q ts)::r
noncomputable def s1:IS:=.asg (.one 7) (.call 16 (.cons (.skeys (.var 3)) (.cons (.bin .fdiv (.var 6) (.cst (.int 2))) .nil)))
noncomputable def s2:IS:=.iff (.cmp .eq (.bin .mod (.var 6) (.cst (.int 2))) (.cst (.int 1))) (.cons (.asg (.one 7) (.rev (.var 7) (.neg (.cst (.int 1))))) .nil) .nil
noncomputable def s3:IS:=.asg (.one 8) (.blt .list (.cons (.var 7) .nil))
noncomputable def s4:IS:=.asg (.one 9) (.call 18 (.cons (.var 4) (.cons (.var 3) (.cons (.var 7) .nil))))
noncomputable def s5:IS:=.asg (.one 10) (.mth (.var 5) "free" [(0,22),(1,22),(2,22)] (.cons (.var 8) .nil))
noncomputable def s6:IS:=.iff (.or (.not (.blt (.isin "bool") (.cons (.var 10) .nil))) (.cmp .ne (.var 10) (.cmp .eq (.var 9) (.blt .len (.cons (.var 7) .nil))))) (.cons (.ret (.cst (.bl false))) .nil) .nil
noncomputable def s7:IS:=.asg (.one 11) (.lst .nil)
noncomputable def b8:eW:=.cons (.iff (.or (.cmp .vD (.var 12) (.var 7)) (.cmp .eq (.call 18 (.cons (.var 4) (.cons (.var 3) (.cons (.bin .add (.var 7) (.lst (.cons (.var 12) .nil))) .nil)))) (.var 9))) (.cons (.expr (.met .append (.var 11) (.cons (.var 12) .nil))) .nil) .nil) .nil
noncomputable def s8:IS:=.for (.one 12) .seq (.cons (.skeys (.var 3)) .nil) b8
noncomputable def s9:IS:=.asg (.one 13) (.mth (.var 5) "reach" [(0,23),(1,23),(2,23)] (.cons (.var 8) .nil))
noncomputable def VX:IS:=.iff (.or (.not (.call 24 (.cons (.var 13) .nil))) (.or (.cmp .ne (.var 13) (.var 11)) (.cmp .ne (.var 8) (.var 7)))) (.cons (.ret (.cst (.bl false))) .nil) .nil
noncomputable def VY:IS:=.expr (.met .append (.var 13) (.cons (.cst (.int 0)) .nil))
noncomputable def s12:IS:=.iff (.cmp .ne (.mth (.var 5) "reach" [(0,23),(1,23),(2,23)] (.cons (.var 8) .nil)) (.var 11)) (.cons (.ret (.cst (.bl false))) .nil) .nil
noncomputable def om:eW:=.cons s1 (.cons s2 (.cons s3 (.cons s4 (.cons s5 (.cons s6 (.cons s7 (.cons s8 (.cons s9 (.cons VX (.cons VY (.cons s12 .nil)))))))))))
noncomputable def tD:IE:=(.bin .add (.lst (.cons (.cst (.int 0)) .nil)) (.slc (.var 0) (.cst (.int 17)) (.cst (.int 33))))
noncomputable def XF:IE:=.bin .fdiv (.call 0 (.cons (.var 0) (.cons (.cst (.int 2)) .nil))) (.cst (.int 56))
noncomputable def QE:IE:=.call 2 (.cons (.var 0) (.cons (.slc (.var 0) (.cst (.int 3)) (.bin .add (.cst (.int 3)) (.bin .mod (.var 1) (.cst (.int 15))))) .nil))
noncomputable def IX:IE:=.call 3 (.cons (.var 2) .nil)
noncomputable def IY:IE:=.bin .mod (.bin .fdiv (.var 1) (.cst (.int 15))) (.cst (.int 3))
noncomputable def IZ:IE:=.call 15 (.cons (.var 4) (.cons (.var 2) .nil))
noncomputable def QF:IE:=.not (.isc (.var 5) "Rule" [true,true,true])
theorem MF:ku=.cons (.asg (.one 1) XF) (.cons (.asg (.one 2) QE) (.cons (.asg (.one 3) IX) (.cons (.asg (.one 4) IY) (.cons (.asg (.one 5) IZ) (.cons (.iff QF (.cons (.ret (.cst (.bl false))) .nil) .nil) (.cons (.for (.one 6) .seq (.cons tD .nil) om) (.cons (.ret (.cst (.bl true))) .nil))))))):=rfl
section
variable {ns:List Int} {sz:Int} {κ:Nat} {p q:Int} {ts:List T3}
theorem MG(hk:κ < 3)(ok:bB p q ts){x:Int}{c7 c8 c9 oh lH c12 iQ:Sl}:∃P:List Int,(P.Nodup/\∀y∈P,y∈nms ts)/\∀r,bT (ak cG) [11,13] (.cons s1 (.cons s2 r)) (EN ns sz κ p q ts [some (.sh,.int x),c7,c8,c9,oh,lH,c12,iQ]) =
  bT (ak cG) [11,13] r (EN ns sz κ p q ts [some (.sh,.int x),some (.sh,.rl (P.map .int)),c8,c9,oh,lH,c12,iQ]):=by
 have hN:(nms ts).length<64:=by have:=fU ok;omega
 have sk:jY [] (jG p q ts)=some (nms ts):=by unfold jG;rw[wF hN,wZ ok]
 have XG:=MC (nms ts) (x/2) hN;have hsub:=qT (nms ts) (x/2);generalize qS (nms ts) (x/2)=l at XG hsub;have hl:l.Nodup:=hsub.nodup (tw ok);have e1:bI (ak cG) [11,13] s1 (EN ns sz κ p q ts [some (.sh,.int x),c7,c8,c9,oh,lH,c12,iQ])=.ok (.nx (EN ns sz κ p q ts [some (.sh,.int x),some (.sh,.rl (l.map .int)),c8,c9,oh,lH,c12,iQ])):=by
  unfold s1;rw[jH (f:=true) (v:=.rl (l.map .int)) rfl]
  ·rfl
  ·unfold EN;simp only[EV,Hv.dD,sk,iK (show iU 2=true by decide),uI,XG]
 by_cases hodd:x%2=1
 ·refine⟨l.reverse,⟨(List.reverse_perm l).nodup_iff.mpr hl,λy hy=>hsub.subset (List.mem_reverse.mp hy)⟩,λr=>?_⟩
  have er:(l.map Val.int).reverse=l.reverse.map Val.int:=List.map_reverse.symm;have e2:bI (ak cG) [11,13] s2 (EN ns sz κ p q ts [some (.sh,.int x),some (.sh,.rl (l.map .int)),c8,c9,oh,lH,c12,iQ])=.ok (.nx (EN ns sz κ p q ts [some (.sh,.int x),some (.sh,.rl (l.reverse.map .int)),c8,c9,oh,lH,c12,iQ])):=by unfold s2 EN;simp only[EV,bT,bI,IP,Hv.dD,Hv.bx,jb (show decide ((0:Int)<2)=true by decide),hodd,decide_true,er,gT]
  rw[bF e1,bF e2]
 ·refine⟨l,⟨hl,λy hy=>hsub.subset hy⟩,λr=>?_⟩
  have e2:bI (ak cG) [11,13] s2 (EN ns sz κ p q ts [some (.sh,.int x),some (.sh,.rl (l.map .int)),c8,c9,oh,lH,c12,iQ])=.ok (.nx (EN ns sz κ p q ts [some (.sh,.int x),some (.sh,.rl (l.map .int)),c8,c9,oh,lH,c12,iQ])):=by unfold s2 EN;refine xq (f:=true) ?_;simp only[EV,Hv.bx,jb (show decide ((0:Int)<2)=true by decide),hodd,decide_false]
  rw[bF e1,bF e2]
theorem QG(hk:κ < 3)(ok:bB p q ts){x:Int}{P:List Int}(hn:P.Nodup)(hP:∀y∈P,y∈nms ts){b:Bool}{c12 iQ:Sl}:∃EA,bI (ak cG) [11,13] s8 (EN ns sz κ p q ts [some (.sh,.int x),some (.sh,.rl (P.map .int)),some (.sh,.rl (P.map .int)),some (.sh,.int (lG κ p q ts P)),some (.sh,.bl b),some (.ow,.rl []),c12,iQ]) =
  .ok (.nx (EN ns sz κ p q ts [some (.sh,.int x),some (.sh,.rl (P.map .int)),some (.sh,.rl (P.map .int)),some (.sh,.int (lG κ p q ts P)),some (.sh,.bl b),some (.ow,.rl ((mR κ p q ts P).map .int)),EA,iQ])):=by
 have hN:(nms ts).length<64:=by have:=fU ok;omega
 have sk:jY [] (jG p q ts)=some (nms ts):=by unfold jG;rw[wF hN,wZ ok]
 have hl:=sub_len ok hn hP;have he:aZ (ak cG) (.skeys (.var 3)) (dD (EN ns sz κ p q ts [some (.sh,.int x),some (.sh,.rl (P.map .int)),some (.sh,.rl (P.map .int)),some (.sh,.int (lG κ p q ts P)),some (.sh,.bl b),some (.ow,.rl []),c12,iQ]))=.ok (true,.rl ((nms ts).map .int)):=by unfold EN;simp only[EV,Hv.dD,sk]
 unfold s8;rw[Ez ME he gg]
 let F:Int->Bool:=λx=>decide (x∈P)||decide (lG κ p q ts (P++[x])=lG κ p q ts P)
 have key:=bV (us:=nms ts) (k:=λf=>Pr.ok f) (body:=λx env=>pb (pl (cO (.one 12) x env)) λenv'=>bT (ak cG) [11,13] b8 env') Val.int
  (λr:Pr yo=>∃EA,r=.ok (.nx (EN ns sz κ p q ts [some (.sh,.int x),some (.sh,.rl (P.map .int)),some (.sh,.rl (P.map .int)),some (.sh,.int (lG κ p q ts P)),some (.sh,.bl b),some (.ow,.rl ((mR κ p q ts P).map .int)),EA,iQ])))
  (oz:=EN ns sz κ p q ts [some (.sh,.int x),some (.sh,.rl (P.map .int)),some (.sh,.rl (P.map .int)),some (.sh,.int (lG κ p q ts P)),some (.sh,.bl b),some (.ow,.rl []),c12,iQ])
  (λdone env=>∃EA,env=EN ns sz κ p q ts [some (.sh,.int x),some (.sh,.rl (P.map .int)),some (.sh,.rl (P.map .int)),some (.sh,.int (lG κ p q ts P)),some (.sh,.bl b),some (.ow,.rl ((done.filter F).map .int)),EA,iQ])
  ⟨c12,rfl⟩ (by
   rintro pre y post env hx ⟨c,rfl⟩;have hy:y∈nms ts:=by rw[hx];simp
   have hpl:(pre.filter F).length<64:=by have:=length_filter_le F pre;have:=congrArg length hx;rw[length_append,length_cons] at this;omega
   have zz:((pre.filter F).map Val.int).length<sizeLine:=by rw[length_map];unfold sizeLine;omega
   have z1:1<=sizeLine:=by decide
   have z:(P.map Val.int).length+([.int y]:List Val).length<=sizeLine:=by rw[length_map];simp;unfold sizeLine;omega
   have em:P.map Val.int++[.int y]=(P++[y]).map .int:=by rw[map_append];rfl
   have Rm:(pre.filter F).map Val.int++[.int y]=(pre.filter F++[y]).map .int:=by rw[map_append];rfl
   refine⟨EN ns sz κ p q ts [some (.sh,.int x),some (.sh,.rl (P.map .int)),some (.sh,.rl (P.map .int)),some (.sh,.int (lG κ p q ts P)),some (.sh,.bl b),some (.ow,.rl (((pre++[y]).filter F).map .int)),some (.sh,.int y),iQ],?_,some (.sh,.int y),rfl⟩;rw[List.filter_append];unfold b8 EN
   by_cases c1:y∈P
   ·have hF:F y=true:=by show (decide (y∈P)||_)=true;simp[c1]
    rw[show [y].filter F=[y] by simp[hF]];simp only[EV,bT,bI,Hv.bx,bM,wg,c1,decide_true,zz,Rm,gT]
   ·have e2:=xj hk ok (P:=P++[y]) (uQ hP hy) (sub_len ok (Et hn c1) (uQ hP hy))
    by_cases c2:lG κ p q ts (P++[y])=lG κ p q ts P
    ·have hF:F y=true:=by show (_||decide (lG κ p q ts (P++[y])=lG κ p q ts P))=true;simp[c2]
     rw[show [y].filter F=[y] by simp[hF]];simp only[EV,bT,bI,Hv.bx,bM,wg,c1,decide_false,z1,qQ z,em,iP,e2,c2,decide_true,zz,Rm,gT]
    ·have hF:F y=false:=by show (decide (y∈P)||decide (lG κ p q ts (P++[y])=lG κ p q ts P))=false;simp[c1,c2]
     rw[show [y].filter F=[] by simp[hF],append_nil];simp only[EV,bT,bI,Hv.bx,bM,wg,c1,decide_false,z1,qQ z,em,iP,e2,c2]) (by
   rintro env ⟨c,rfl⟩;exact⟨c,rfl⟩)
 cases e:jQ (λx env=>pb (pl (cO (.one 12) x env)) λenv'=>bT (ak cG) [11,13] b8 env') ((nms ts).map Val.int) (EN ns sz κ p q ts [some (.sh,.int x),some (.sh,.rl (P.map .int)),some (.sh,.rl (P.map .int)),some (.sh,.int (lG κ p q ts P)),some (.sh,.bl b),some (.ow,.rl []),c12,iQ]) with
 | ok f=>rw[e] at key;exact key
 | exc _ _=>rw[e] at key;exact key
 | no=>rw[e] at key;exact key
theorem HW(hk:κ < 3)(ok:bB p q ts){x:Int}{c7 c8 c9 oh lH c12 iQ:Sl}:∃d7 d8 d9 EJ Qa yF Qc,bT (ak cG) [11,13] om (EN ns sz κ p q ts [some (.sh,.int x),c7,c8,c9,oh,lH,c12,iQ])=.ok (.nx (EN ns sz κ p q ts [some (.sh,.int x),d7,d8,d9,EJ,Qa,yF,Qc])):=by
 obtain⟨P,⟨hn,hP⟩,e12⟩:=MG (ns:=ns) (sz:=sz) hk ok (x:=x) (c7:=c7) (c8:=c8) (c9:=c9) (oh:=oh) (lH:=lH) (c12:=c12) (iQ:=iQ);have hl:=sub_len ok hn hP
 let R:=lG κ p q ts P
 have e3:bI (ak cG) [11,13] s3 (EN ns sz κ p q ts [some (.sh,.int x),some (.sh,.rl (P.map .int)),c8,c9,oh,lH,c12,iQ])=.ok (.nx (EN ns sz κ p q ts [some (.sh,.int x),some (.sh,.rl (P.map .int)),some (.sh,.rl (P.map .int)),c9,oh,lH,c12,iQ])):=by
  unfold s3;rw[jH (f:=true) (v:=.rl (P.map .int)) rfl]
  ·rfl
  ·unfold EN;simp only[EV,Hv.dD,gT]
 have lr:=xj hk ok hP hl;have e4:bI (ak cG) [11,13] s4 (EN ns sz κ p q ts [some (.sh,.int x),some (.sh,.rl (P.map .int)),some (.sh,.rl (P.map .int)),c9,oh,lH,c12,iQ])=.ok (.nx (EN ns sz κ p q ts [some (.sh,.int x),some (.sh,.rl (P.map .int)),some (.sh,.rl (P.map .int)),some (.sh,.int R),oh,lH,c12,iQ])):=by
  unfold s4;rw[jH (f:=true) (v:=.int R) rfl]
  ·rfl
  ·unfold EN;simp only[EV,Hv.dD,iP,lr];rfl
 have fr:=free_eq hk ok hP hl;have mf:=m3 hk (p:=p) (q:=q) (ts:=ts) (m:="free") (j:=22) (by decide);have e5:bI (ak cG) [11,13] s5 (EN ns sz κ p q ts [some (.sh,.int x),some (.sh,.rl (P.map .int)),some (.sh,.rl (P.map .int)),some (.sh,.int R),oh,lH,c12,iQ])=.ok (.nx (EN ns sz κ p q ts [some (.sh,.int x),some (.sh,.rl (P.map .int)),some (.sh,.rl (P.map .int)),some (.sh,.int R),some (.sh,.bl (decide (R=(P.length:Int)))),lH,c12,iQ])):=by
  unfold s5;rw[jH (f:=true) (v:=.bl (decide (R=(P.length:Int)))) rfl]
  ·rfl
  ·unfold EN;simp only[EV,Hv.dD,mf,nL,fr];rfl
 have e6:bI (ak cG) [11,13] s6 (EN ns sz κ p q ts [some (.sh,.int x),some (.sh,.rl (P.map .int)),some (.sh,.rl (P.map .int)),some (.sh,.int R),some (.sh,.bl (decide (R=(P.length:Int)))),lH,c12,iQ])=.ok (.nx (EN ns sz κ p q ts [some (.sh,.int x),some (.sh,.rl (P.map .int)),some (.sh,.rl (P.map .int)),some (.sh,.int R),some (.sh,.bl (decide (R=(P.length:Int)))),lH,c12,iQ])):=by unfold s6;refine xq (f:=true) ?_;unfold EN;simp only[EV,Hv.bx,tyb,S5,bne_self_eq_false,length_map]
 have e7:bI (ak cG) [11,13] s7 (EN ns sz κ p q ts [some (.sh,.int x),some (.sh,.rl (P.map .int)),some (.sh,.rl (P.map .int)),some (.sh,.int R),some (.sh,.bl (decide (R=(P.length:Int)))),lH,c12,iQ])=.ok (.nx (EN ns sz κ p q ts [some (.sh,.int x),some (.sh,.rl (P.map .int)),some (.sh,.rl (P.map .int)),some (.sh,.int R),some (.sh,.bl (decide (R=(P.length:Int)))),some (.ow,.rl []),c12,iQ])):=by
  unfold s7;rw[Ey (v:=.rl []) rfl]
  ·rfl
  ·unfold EN;simp only[EV,Hv.bx,show 0<=sizeLine by decide]
 obtain⟨yF,e8⟩:=QG (ns:=ns) (sz:=sz) hk ok hn hP (x:=x) (b:=decide (R=(P.length:Int))) (c12:=c12) (iQ:=iQ);have rc:=Eu hk ok hn hP;have mr:=m3 hk (p:=p) (q:=q) (ts:=ts) (m:="reach") (j:=23) (by decide);have e9:bI (ak cG) [11,13] s9 (EN ns sz κ p q ts [some (.sh,.int x),some (.sh,.rl (P.map .int)),some (.sh,.rl (P.map .int)),some (.sh,.int R),some (.sh,.bl (decide (R=(P.length:Int)))),some (.ow,.rl ((mR κ p q ts P).map .int)),yF,iQ])=.ok (.nx (EN ns sz κ p q ts [some (.sh,.int x),some (.sh,.rl (P.map .int)),some (.sh,.rl (P.map .int)),some (.sh,.int R),some (.sh,.bl (decide (R=(P.length:Int)))),some (.ow,.rl ((mR κ p q ts P).map .int)),yF,some (.ow,.rl ((mR κ p q ts P).map .int))])):=by
  unfold s9;rw[Ey (v:=.rl ((mR κ p q ts P).map .int)) rfl]
  ·rfl
  ·unfold EN;simp only[EV,Hv.bx,mr,iu,rc]
 have tr:=xm (l:=mR κ p q ts P) (by have:=z5 (κ:=κ) ok (P:=P);omega) (Ex ok);have e10:bI (ak cG) [11,13] VX (EN ns sz κ p q ts [some (.sh,.int x),some (.sh,.rl (P.map .int)),some (.sh,.rl (P.map .int)),some (.sh,.int R),some (.sh,.bl (decide (R=(P.length:Int)))),some (.ow,.rl ((mR κ p q ts P).map .int)),yF,some (.ow,.rl ((mR κ p q ts P).map .int))])=.ok (.nx (EN ns sz κ p q ts [some (.sh,.int x),some (.sh,.rl (P.map .int)),some (.sh,.rl (P.map .int)),some (.sh,.int R),some (.sh,.bl (decide (R=(P.length:Int)))),some (.ow,.rl ((mR κ p q ts P).map .int)),yF,some (.ow,.rl ((mR κ p q ts P).map .int))])):=by unfold VX;refine xq (f:=true) ?_;unfold EN;simp only[EV,Hv.bx,mQ,tr,uL]
 have e11:bI (ak cG) [11,13] VY (EN ns sz κ p q ts [some (.sh,.int x),some (.sh,.rl (P.map .int)),some (.sh,.rl (P.map .int)),some (.sh,.int R),some (.sh,.bl (decide (R=(P.length:Int)))),some (.ow,.rl ((mR κ p q ts P).map .int)),yF,some (.ow,.rl ((mR κ p q ts P).map .int))])=.ok (.nx (EN ns sz κ p q ts [some (.sh,.int x),some (.sh,.rl (P.map .int)),some (.sh,.rl (P.map .int)),some (.sh,.int R),some (.sh,.bl (decide (R=(P.length:Int)))),some (.ow,.rl ((mR κ p q ts P).map .int)),yF,some (.ow,.rl ((mR κ p q ts P++[0]).map .int))])):=by
  have zz:((mR κ p q ts P).map Val.int).length<sizeLine:=by rw[length_map];have:=z5 (κ:=κ) ok (P:=P);unfold sizeLine;omega
  have Rm:(mR κ p q ts P).map Val.int++[.int 0]=(mR κ p q ts P++[0]).map .int:=by rw[map_append];rfl
  unfold VY EN;simp only[EV,bI,Hv.bx,zz,Rm,gT]
 have VZ:bI (ak cG) [11,13] s12 (EN ns sz κ p q ts [some (.sh,.int x),some (.sh,.rl (P.map .int)),some (.sh,.rl (P.map .int)),some (.sh,.int R),some (.sh,.bl (decide (R=(P.length:Int)))),some (.ow,.rl ((mR κ p q ts P).map .int)),yF,some (.ow,.rl ((mR κ p q ts P++[0]).map .int))])=.ok (.nx (EN ns sz κ p q ts [some (.sh,.int x),some (.sh,.rl (P.map .int)),some (.sh,.rl (P.map .int)),some (.sh,.int R),some (.sh,.bl (decide (R=(P.length:Int)))),some (.ow,.rl ((mR κ p q ts P).map .int)),yF,some (.ow,.rl ((mR κ p q ts P++[0]).map .int))])):=by unfold s12;refine xq (f:=true) ?_;unfold EN;simp only[EV,Hv.bx,mr,iu,rc,uL]
 have fin:bT (ak cG) [11,13] om (EN ns sz κ p q ts [some (.sh,.int x),c7,c8,c9,oh,lH,c12,iQ])=.ok (.nx (EN ns sz κ p q ts [some (.sh,.int x),some (.sh,.rl (P.map .int)),some (.sh,.rl (P.map .int)),some (.sh,.int R),some (.sh,.bl (decide (R=(P.length:Int)))),some (.ow,.rl ((mR κ p q ts P).map .int)),yF,some (.ow,.rl ((mR κ p q ts P++[0]).map .int))])):=by unfold om;rw[e12,bF e3,bF e4,bF e5,bF e6,bF e7,bF e8,bF e9,bF e10,bF e11,bF VZ,bT]
 exact⟨_,_,_,_,_,_,_,fin⟩
theorem HX(hns:ns.length<=63)(hk:κ < 3)(ok:bB p q ts):∃r:List Sl,bI (ak cG) [11,13] (.for (.one 6) .seq (.cons tD .nil) om) (EN ns sz κ p q ts [none,none,none,none,none,none,none,none])=.ok (.nx (EN ns sz κ p q ts r)):=by
 have z1:1<=sizeLine:=by decide
 have aab:(dm ns (some 17) (some 33)).length<=63:=by have:=Ds ns (some 17) (some 33);omega
 have QH:j6 .add (.rl [.int 0]) (.rl ((dm ns (some 17) (some 33)).map .int))=.ok (bJ ((0::dm ns (some 17) (some 33)).map .int),.rl ((0::dm ns (some 17) (some 33)).map .int)):=by rw[qQ (by rw[length_map];simp;unfold sizeLine;omega)];rfl
 generalize (0::dm ns (some 17) (some 33))=Ls at QH;have he:aZ (ak cG) tD (dD (EN ns sz κ p q ts [none,none,none,none,none,none,none,none]))=.ok (bJ (Ls.map .int),.rl (Ls.map .int)):=by unfold tD EN;simp only[EV,Hv.dD,z1,IL,we,QH]
 rw[Ez (e:=tD) HV he gg];have key:=bV (us:=Ls) (k:=λf=>Pr.ok f) (body:=λx env=>pb (pl (cO (.one 6) x env)) λenv'=>bT (ak cG) [11,13] om env') Val.int
  (λr:Pr yo=>∃s:List Sl,r=.ok (.nx (EN ns sz κ p q ts s)))
  (oz:=EN ns sz κ p q ts [none,none,none,none,none,none,none,none])
  (λdone env=>∃c6 c7 c8 c9 oh lH c12 iQ,env=EN ns sz κ p q ts [c6,c7,c8,c9,oh,lH,c12,iQ])
  ⟨none,none,none,none,none,none,none,none,rfl⟩ (by
   rintro pre x post env hx ⟨c6,c7,c8,c9,oh,lH,c12,iQ,rfl⟩;obtain⟨d7,d8,d9,EJ,Qa,yF,Qc,h⟩:=HW (ns:=ns) (sz:=sz) hk ok (x:=x) (c7:=c7) (c8:=c8) (c9:=c9) (oh:=oh) (lH:=lH) (c12:=c12) (iQ:=iQ);exact⟨_,h,_,d7,d8,d9,EJ,Qa,yF,Qc,rfl⟩) (by
   rintro env ⟨c6,c7,c8,c9,oh,lH,c12,iQ,rfl⟩;exact⟨_,rfl⟩)
 cases e:jQ (λx env=>pb (pl (cO (.one 6) x env)) λenv'=>bT (ak cG) [11,13] om env') (Ls.map Val.int) (EN ns sz κ p q ts [none,none,none,none,none,none,none,none]) with
 | ok f=>rw[e] at key;exact key
 | exc _ _=>rw[e] at key;exact key
 | no=>rw[e] at key;exact key
end
theorem MH(ns:List Int)(hn:ns.length<=63):∃f,D7 [.rl (ns.map .int)]=.ok (f,.bl true):=by
 have c2:dM [.rl (ns.map .int),.int 2]=.ok (true,.int (cellAt ns 2)):=oZ ns 2;generalize hsz:cellAt ns 2/56=sz at *;have hcl:(dm ns (some 3) (some (3+sz%15))).length<=14:=by obtain⟨k,hk⟩:=Int.eq_ofNat_of_zero_le (show 0<=sz%15 by omega);have h:=Bm ns 3 k (by omega);rw[<-hk] at h;omega
 obtain⟨p,q,ts,en,ok,_⟩:=MA ns (dm ns (some 3) (some (3+sz%15))) hcl;obtain⟨κ,hκ⟩:=Int.eq_ofNat_of_zero_le (show 0<=sz/15%3 by omega);have hk:κ < 3:=by omega
 have er:=Ew hk ok;have ee:=xg ok;obtain⟨r,e1⟩:=HX (sz:=sz) hn hk ok;have fin:bT (ak cG) [11,13] ku [some (.sh,.rl (ns.map .int)),none,none,none,none,none,none,none,none,none,none,none,none,none]=.ok (.rt (true,.bl true)):=by
  rw[MF];rw[bF (jH (i:=1) (f:=true) (v:=.int sz) rfl (by unfold XF;simp only[EV,Hv.dD,rL,c2,iK (show iU 56=true by decide),hsz]))];simp only[set_cons_succ,set_cons_zero];rw[bF (jH (i:=2) (f:=true) (v:=ff p q ts) rfl (by unfold QE;simp only[EV,Hv.dD,jb (show decide ((0:Int)<15)=true by decide),IL,we,uH,en]))];simp only[set_cons_succ,set_cons_zero];rw[bF (jH (i:=3) (f:=true) (v:=jG p q ts) rfl (by unfold IX;simp only[EV,Hv.dD,rM,ee]))];simp only[set_cons_succ,set_cons_zero];rw[bF (jH (i:=4) (f:=true) (v:=.int (κ:Int)) rfl (by unfold IY;simp only[EV,Hv.dD,iK (show iU 15=true by decide),jb (show decide ((0:Int)<3)=true by decide),hκ]))];simp only[set_cons_succ,set_cons_zero];rw[bF (jH (i:=5) (f:=true) (v:=lF κ p q ts) rfl (by unfold IZ;simp only[EV,Hv.dD,rN,er]))];simp only[set_cons_succ,set_cons_zero];rw[bF (xq (f:=true) (by unfold QF;simp only[EV,Hv.bx,HS hk]))];have e2:bT (ak cG) [11,13] (.cons (.for (.one 6) .seq (.cons tD .nil) om) (.cons (.ret (.cst (.bl true))) .nil)) (EN ns sz κ p q ts [none,none,none,none,none,none,none,none])=.ok (.rt (true,.bl true)):=by rw[bF e1];rfl
  exact e2
 refine⟨true,?_⟩;show pb (bT (ak cG) (ko ku) ku [some (.sh,.rl (ns.map .int)),none,none,none,none,none,none,none,none,none,none,none,none,none]) _=_;rw[show ko ku=[11,13] from rfl,fin];rfl
theorem true(ns:List Int)(hn:ns.length<=63):∃h',zW [.rl (ns.map .int)] []=.ok (.bl true) h':=by
 obtain⟨f,e⟩:=MH ns hn;exact HH e
end K24
end
end
section
namespace PySem.W.Fast
theorem tw12904326937386188794:True:=trivial
theorem tw18000246971677630001:True:=trivial
theorem tw2130195689779789066:True:=trivial
theorem tw15600722326254245747:True:=trivial
theorem tw3418800101287173755:True:=trivial
theorem tw6603048514064390425:True:=trivial
theorem tw7769152030821795751:True:=trivial
theorem tw9429378161215700804:True:=trivial
theorem tw4122546932726951457:True:=trivial
theorem tw11696839387953966102:True:=trivial
theorem tw17940398137434435300:True:=trivial
theorem tw2437293540149208553:True:=trivial
theorem tw3025583774155606817:True:=trivial
theorem tw18007342729358143232:True:=trivial
theorem tw17863888493347786572:True:=trivial
theorem tw16589201654297276741:True:=trivial
theorem tw9417236171074592007:True:=trivial
theorem tw4478124302632494317:True:=trivial
theorem tw1298979202039197117:True:=trivial
theorem tw8156835488623041630:True:=trivial
theorem tw4761641879012283950:True:=trivial
theorem tw17546203823211504014:True:=trivial
theorem tw10726676019885991107:True:=trivial
theorem tw2743058225136639609:True:=trivial
theorem tw5215329332235454827:True:=trivial
theorem tw1335164901885954865:True:=trivial
theorem tw11961658322475198831:True:=trivial
theorem tw1107337655822817804:True:=trivial
theorem tw7193829064689295543:True:=trivial
theorem tw12958660289329292313:True:=trivial
theorem tw9694407579273503143:True:=trivial
theorem tw5368952934076091448:True:=trivial
theorem tw8626638081073867606:True:=trivial
theorem tw12677861756164154577:True:=trivial
theorem tw16290461987113160349:True:=trivial
theorem tw9629274048550677900:True:=trivial
theorem tw3673964997325118865:True:=trivial
theorem tw10781371049107985057:True:=trivial
theorem tw5277969697887181577:True:=trivial
theorem tw7657324050338867557:True:=trivial
theorem tw6057551469833694134:True:=trivial
theorem tw5499484745801346897:True:=trivial
theorem tw11499556818289122715:True:=trivial
theorem tw8356542107272815839:True:=trivial
theorem tw1252673558746895461:True:=trivial
theorem tw12205936991569283377:True:=trivial
theorem tw5901065875777011028:True:=trivial
theorem tw3529743888134261312:True:=trivial
theorem tw4059268231810452479:True:=trivial
theorem tw17248440706414903606:True:=trivial
theorem tw11798097518290186979:True:=trivial
theorem tw16440335705843837625:True:=trivial
theorem tw14443088594657636087:True:=trivial
theorem tw18379628262204800148:True:=trivial
theorem tw11267347023765647732:True:=trivial
theorem tw2178644835688053601:True:=trivial
theorem tw18015379513995636395:True:=trivial
theorem tw1293395032828143787:True:=trivial
theorem tw12484435832327696807:True:=trivial
theorem tw2633348352966138606:True:=trivial
theorem tw881749364045116678:True:=trivial
theorem tw17886637782178822427:True:=trivial
theorem tw3881048356589459580:True:=trivial
theorem tw8024929326333634179:True:=trivial
theorem tw6929488901438348755:True:=trivial
theorem tw16334829422009996880:True:=trivial
theorem tw16913910892115658749:True:=trivial
theorem tw16904923412735358089:True:=trivial
theorem tw9549954255852191656:True:=trivial
theorem tw13451815727940350521:True:=trivial
theorem tw2571908860317157338:True:=trivial
theorem tw13947104797880144593:True:=trivial
theorem tw16705958697012161113:True:=trivial
theorem tw8185842672185481020:True:=trivial
theorem tw7369802010509510444:True:=trivial
theorem tw10647926994653877930:True:=trivial
theorem tw8096936353196773178:True:=trivial
theorem tw10041978255122365901:True:=trivial
theorem tw5715435036931183394:True:=trivial
end PySem.W.Fast
open PySem PySem.W PyProof.Rows
set_option maxRecDepth 100000 in
set_option maxHeartbeats 0 in
theorem PySem.Challenge.cw_linkorcut_k24_free_and_reached_holds : PySem.Challenge.rw_linkorcut_k24_free_and_reached.Holds := by
 w_on;o_law;k_head;(case hw=>w_witness2)
 k_fill
 refine Hv.walk (l:=PySem.Challenge.rw_linkorcut_k24_free_and_reached) (k:=52) (x:="_law_script") rfl rfl ⟨rfl,by decide,by decide⟩ (λw h Y=>PySem.W.kIn_of Y) ?F
 case F =>
  intro w mg fa h KX G hmg;refine' K24.all_mk KX G hmg K24.true ?DA0 ?DG0 ?DH0 ?DO0 ?DS0 ?DM0 ?DK0 ?DN0_0 ?DN0_1 ?DN0_2 ?DN0_3 ?DA1 ?DG1 ?DH1 ?DO1 ?DS1 ?DM1 ?DK1 ?DN1_0 ?DN1_1 ?DN1_2 ?DN1_3 ?DA2 ?DG2 ?DH2 ?DO2 ?DS2 ?DM2 ?DK2 ?DN2_0 ?DN2_1 ?DN2_2 ?DN2_3 ?EA0 ?EG0 ?ER0 ?EK0_0 ?EK0_1 ?EK0_2 ?TN ?TT ?TA0 ?TM0 ?TA1 ?TM1 ?TA2 ?TM2 ?A0 ?L0 ?C0 ?Q0 ?A1 ?L1 ?C1 ?Q1 ?A2 ?L2 ?C2 ?Q2 ?A3 ?L3 ?C3 ?Q3 ?A4 ?L4 ?C4 ?Q4 ?A5 ?L5 ?C5 ?Q5 ?A6 ?L6 ?C6 ?Q6 ?A7 ?I7 ?L7 ?C7 ?Q7 ?A8 ?I8 ?L8 ?C8 ?Q8 ?EF0_9 ?I9 ?L9 ?C9 ?Q9 ?A10 ?L10 ?C10 ?Q10 ?M0_11 ?M1_11 ?M2_11 ?I11 ?L11 ?C11 ?Q11 ?A12 ?L12 ?C12 ?Q12 ?M0_13 ?M1_13 ?M2_13 ?I13 ?L13 ?C13 ?Q13 ?A14 ?I14 ?L14 ?C14 ?Q14 ?A15 ?L15 ?C15 ?Q15 ?A16 ?L16 ?C16 ?Q16 ?A17 ?L17 ?C17 ?Q17 ?A18 ?L18 ?C18 ?Q18 ?M0_19 ?I19 ?L19 ?C19 ?Q19 ?M1_20 ?I20 ?L20 ?C20 ?Q20 ?M2_21 ?I21 ?L21 ?C21 ?Q21 ?M0_22 ?M1_22 ?M2_22 ?I22 ?L22 ?C22 ?Q22 ?M0_23 ?M1_23 ?M2_23 ?I23 ?L23 ?C23 ?Q23 ?A24 ?L24 ?C24 ?Q24 ?A25 ?L25 ?C25 ?Q25 ?Z0 ?Z1 ?Z2 ?Z3 ?Z4 ?Z5 ?Z6 ?Z7 ?Z8 ?Z9 ?Z10 ?Z11 ?Z12 ?Z13 ?Z14 ?Z15 ?Z16 ?V0
  (case DA0=>k_is)
  (case DG0=>k_is)
  (case DH0=>k_is)
  (case DO0=>k_is)
  (case DS0=>k_is)
  (case DM0=>k_is)
  (case DK0=>k_is)
  (case DN0_0=>k_is)
  (case DN0_1=>k_is)
  (case DN0_2=>k_is)
  (case DN0_3=>k_is)
  (case DA1=>k_is)
  (case DG1=>k_is)
  (case DH1=>k_is)
  (case DO1=>k_is)
  (case DS1=>k_is)
  (case DM1=>k_is)
  (case DK1=>k_is)
  (case DN1_0=>k_is)
  (case DN1_1=>k_is)
  (case DN1_2=>k_is)
  (case DN1_3=>k_is)
  (case DA2=>k_is)
  (case DG2=>k_is)
  (case DH2=>k_is)
  (case DO2=>k_is)
  (case DS2=>k_is)
  (case DM2=>k_is)
  (case DK2=>k_is)
  (case DN2_0=>k_is)
  (case DN2_1=>k_is)
  (case DN2_2=>k_is)
  (case DN2_3=>k_is)
  (case EA0=>k_is)
  (case EG0=>k_is)
  (case ER0=>k_is)
  (case EK0_0=>kit_is)
  (case EK0_1=>kit_is)
  (case EK0_2=>kit_is)
  (case TN=>k_is)
  (case TT=>k_is)
  (case TA0=>k_is)
  (case TM0=>k_is)
  (case TA1=>k_is)
  (case TM1=>k_is)
  (case TA2=>k_is)
  (case TM2=>k_is)
  (case A0=>k_is)
  (case L0=>k_is)
  (case C0=>k_is)
  (case Q0=>k_is)
  (case A1=>k_is)
  (case L1=>k_is)
  (case C1=>k_is)
  (case Q1=>k_is)
  (case A2=>k_is)
  (case L2=>k_is)
  (case C2=>k_is)
  (case Q2=>k_is)
  (case A3=>k_is)
  (case L3=>k_is)
  (case C3=>k_is)
  (case Q3=>k_is)
  (case A4=>k_is)
  (case L4=>k_is)
  (case C4=>k_is)
  (case Q4=>k_is)
  (case A5=>k_is)
  (case L5=>k_is)
  (case C5=>k_is)
  (case Q5=>k_is)
  (case A6=>k_is)
  (case L6=>k_is)
  (case C6=>k_is)
  (case Q6=>k_is)
  (case A7=>k_is)
  (case I7=>k_is)
  (case L7=>k_is)
  (case C7=>k_is)
  (case Q7=>k_is)
  (case A8=>k_is)
  (case I8=>k_is)
  (case L8=>k_is)
  (case C8=>k_is)
  (case Q8=>k_is)
  (case EF0_9=>k_is)
  (case I9=>k_is)
  (case L9=>k_is)
  (case C9=>k_is)
  (case Q9=>k_is)
  (case A10=>k_is)
  (case L10=>k_is)
  (case C10=>k_is)
  (case Q10=>k_is)
  (case M0_11=>k_is)
  (case M1_11=>k_is)
  (case M2_11=>k_is)
  (case I11=>k_is)
  (case L11=>k_is)
  (case C11=>k_is)
  (case Q11=>k_is)
  (case A12=>k_is)
  (case L12=>k_is)
  (case C12=>k_is)
  (case Q12=>k_is)
  (case M0_13=>k_is)
  (case M1_13=>k_is)
  (case M2_13=>k_is)
  (case I13=>k_is)
  (case L13=>k_is)
  (case C13=>k_is)
  (case Q13=>k_is)
  (case A14=>k_is)
  (case I14=>k_is)
  (case L14=>k_is)
  (case C14=>k_is)
  (case Q14=>k_is)
  (case A15=>k_is)
  (case L15=>k_is)
  (case C15=>k_is)
  (case Q15=>k_is)
  (case A16=>k_is)
  (case L16=>k_is)
  (case C16=>k_is)
  (case Q16=>k_is)
  (case A17=>k_is)
  (case L17=>k_is)
  (case C17=>k_is)
  (case Q17=>k_is)
  (case A18=>k_is)
  (case L18=>k_is)
  (case C18=>k_is)
  (case Q18=>k_is)
  (case M0_19=>k_is)
  (case I19=>k_is)
  (case L19=>k_is)
  (case C19=>k_is)
  (case Q19=>k_is)
  (case M1_20=>k_is)
  (case I20=>k_is)
  (case L20=>k_is)
  (case C20=>k_is)
  (case Q20=>k_is)
  (case M2_21=>k_is)
  (case I21=>k_is)
  (case L21=>k_is)
  (case C21=>k_is)
  (case Q21=>k_is)
  (case M0_22=>k_is)
  (case M1_22=>k_is)
  (case M2_22=>k_is)
  (case I22=>k_is)
  (case L22=>k_is)
  (case C22=>k_is)
  (case Q22=>k_is)
  (case M0_23=>k_is)
  (case M1_23=>k_is)
  (case M2_23=>k_is)
  (case I23=>k_is)
  (case L23=>k_is)
  (case C23=>k_is)
  (case Q23=>k_is)
  (case A24=>k_is)
  (case L24=>k_is)
  (case C24=>k_is)
  (case Q24=>k_is)
  (case A25=>k_is)
  (case L25=>k_is)
  (case C25=>k_is)
  (case Q25=>k_is)
  (case Z0=>k_is)
  (case Z1=>k_is)
  (case Z2=>k_is)
  (case Z3=>k_is)
  (case Z4=>k_is)
  (case Z5=>k_is)
  (case Z6=>k_is)
  (case Z7=>k_is)
  (case Z8=>k_is)
  (case Z9=>k_is)
  (case Z10=>k_is)
  (case Z11=>k_is)
  (case Z12=>k_is)
  (case Z13=>k_is)
  (case Z14=>k_is)
  (case Z15=>k_is)
  (case Z16=>k_is)
  (case V0=>k_is)
#print axioms PySem.Challenge.cw_linkorcut_k24_free_and_reached_holds
end
