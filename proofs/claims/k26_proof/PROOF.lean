import PyProof.Rows.All
import Wide.All
import OpenK.AllK
import Wide.FinOn
import Lean
import PyProof.EqAt
import PyProof.EqKinds
import PyProof.TupleCall
import KE.KDictList
import KE.KDictLaws
import KE.KDictSum
import KE.KRevSl
import PyProof.DictWalks
import PySem.Challenge.RW_linkorcut_k26_whole_trees_and_rest
set_option Elab.async false
set_option linter.all false
set_option maxRecDepth 100000
set_option maxHeartbeats 4000000
set_option genSizeOf false
set_option backward.eqns.nonrecursive false
set_option backward.eqns.deepRecursiveSplit false
set_option bootstrap.genMatcherCode false
open Array(getElem?_toList length_toList toList)
open Bool(and_eq_true false_eq_true not_eq_true' or_eq_true)
open Classical(byContradiction choose_spec)
open PySem.Heap(get?_push_of_some get?_push_size get?_update_other get?_update_self lt_size size_push)
open Int(emod_lt_of_pos emod_nonneg eq_ofNat_of_zero_le not_lt)
open List(all_cons all_eq_true any_cons any_map append_nil cons_append contains_iff_mem drop_drop elem_nil ext_getElem filter_congr find?_cons getElem?_append_left getElem?_append_right getElem?_cons_succ getElem?_cons_zero getElem?_map getElem?_set_ne getElem?_set_self getElem_map getElem_of_mem length length_append length_cons length_drop length_map length_nil length_range length_set length_take lookup_cons map_append map_congr_left map_cons map_id map_map map_nil mem_append mem_append_left mem_append_right mem_cons mem_cons_of_mem mem_cons_self mem_filter mem_map mem_map_of_mem mem_of_getElem? mem_replicate mem_singleton nil_append nodup_append nodup_cons nodup_nil not_mem_nil of_mem_zip pairwise_cons pairwise_iff_getElem pairwise_map prefix_append prefix_refl range' replicate reverse_cons set_cons_succ set_cons_zero size_toArray toArray zip_cons_cons)
open Nat(le_succ le_trans lt_irrefl lt_of_lt_of_le lt_succ_of_lt lt_succ_self lt_trans mod_lt ne_of_lt zero_le)
open Option(bind_eq_some_iff bind_some getD_none isSome_map map_eq_some_iff map_some)
open PySem.W(callWith_K callWith_K0 cellsFrom_some codeIn emptyDict eq_sortI findCls findIn handedIn hasDictIn instObj kat_lt keepIn kia_one kitOne kitx_bool kitx_dict kitx_int kitx_list kitx_none kitx_str kitx_tuple lookIn makesIn methodObj mg_none_of mg_of plainGet plainGet_of plainOver readsIn sortI_perm specialIn takerIn takesIn typeIn)
section
namespace L2
open PySem PySem.Spec PyProof.Rows
noncomputable abbrev Key:=Sum Int Str
noncomputable def oX:Key->Value->Bool
 | .inl k,v=>Value.isInt k v
 | .inr x,v=>Value.isStrOf x v
noncomputable def QM(w:World):Key->Int
 | .inl k=>hashInt k
 | .inr x=>hashStr w x
theorem bI:∀{k:Key} {v:Value},oX k v=true->(∃i t,k=Sum.inl i/\v=Value.int i t)\/(∃x t,k=Sum.inr x/\v=Value.str x t)
 | .inl i,v,h=>by
  obtain⟨t,e⟩:=Value.isInt_shape (k:=i) (v:=v) h;exact .inl ⟨i,t,rfl,e⟩
 | .inr x,v,h=>by
  obtain⟨t,e⟩:=Value.isStrOf_shape (x:=x) (v:=v) h;exact .inr ⟨x,t,rfl,e⟩
theorem zL(i:Int)(t:Tok):oX (.inl i) (.int i t)=true:=by simp[oX,Value.isInt]
theorem zM(x:Str)(t:Tok):oX (.inr x) (.str x t)=true:=by simp[oX,Value.isStrOf]
theorem IU(a b:Int):decide ((Sum.inl a:Key)=Sum.inl b)=(a==b):=by
 by_cases e:a=b
 ·subst e;simp
 ·have h:¬ (Sum.inl a:Key)=Sum.inl b:=λq=>e (Sum.inl.inj q);rw[decide_eq_false h];exact(beq_eq_false_iff_ne.mpr e).symm
theorem IV(a b:Str):decide ((Sum.inr a:Key)=Sum.inr b)=decide (a=b):=by
 by_cases e:a=b
 ·subst e;simp
 ·have h:¬ (Sum.inr a:Key)=Sum.inr b:=λq=>e (Sum.inr.inj q);rw[decide_eq_false h,decide_eq_false e]
theorem IW(a:Int)(b:Str):decide ((Sum.inl a:Key)=Sum.inr b)=false:=decide_eq_false (λq=>nomatch q)
theorem IX(a:Str)(b:Int):decide ((Sum.inr a:Key)=Sum.inl b)=false:=decide_eq_false (λq=>nomatch q)
noncomputable def aY(prog:Program)(w:World):PySem.KeyKind prog w Key where
 is:=oX
 hash:=QM w
 inj:=λv a b ha hb=>by
  rcases bI ha with ⟨i,t,rfl,rfl⟩|⟨x,t,rfl,rfl⟩
  ·rcases bI hb with ⟨j,u,rfl,e⟩|⟨y,u,rfl,e⟩
   ·injection e with e1 _;rw[e1]
   ·exact nomatch e
  ·rcases bI hb with ⟨j,u,rfl,e⟩|⟨y,u,rfl,e⟩
   ·exact nomatch e
   ·injection e with e1 _;rw[e1]
 byValue:=λk v h=>by
  rcases bI h with ⟨i,t,rfl,rfl⟩|⟨x,t,rfl,rfl⟩<;>rfl
 pyHash:=λhv h=>by
  rcases bI hv with ⟨i,t,rfl,rfl⟩|⟨x,t,rfl,rfl⟩
  ·exact wpAny_pyHash_int h
  ·exact wpAny_pyHash_str h
 eqBool:=λhu hv h=>by
  rcases bI hu with ⟨i,t,rfl,rfl⟩|⟨x,t,rfl,rfl⟩
  ·rcases bI hv with ⟨j,u,rfl,rfl⟩|⟨y,u,rfl,rfl⟩
   ·rw[IU] at h;exact wpAny_eqBool_int h
   ·rw[IW] at h;exact SeqAt.EqAt.int_str i t y u _ _ _ _ h
  ·rcases bI hv with ⟨j,u,rfl,rfl⟩|⟨y,u,rfl,rfl⟩
   ·rw[IX] at h;exact SeqAt.EqAt.str_int x t j u _ _ _ _ h
   ·rw[IV] at h;exact wpAny_eqBool_str h
 «strs»:=λk x t v h=>by
  rcases bI h with ⟨i,u,rfl,e⟩|⟨y,u,rfl,e⟩
  ·exact nomatch e
  ·injection e with e1 _
   subst e1;cases v<;>rfl
theorem wL(prog:Program)(w:World)(k:Key)(v:Value):(aY prog w).is k v=oX k v:=rfl
theorem ux(prog:Program)(w:World)(i:Int)(t:Tok):(aY prog w).is (.inl i) (.int i t)=true:=zL i t
theorem uy(prog:Program)(w:World)(x:Str)(t:Tok):(aY prog w).is (.inr x) (.str x t)=true:=zM x t
end L2
namespace L2
open PySem PySem.Spec PyProof.Rows
inductive V where
 | non|bl (b:Bool)|int (i:Int)|str (x:Str)|byt (b:Array UInt8)|flt (b:UInt64)|ref (a:Addr)|ty (n:String)
 deriving DecidableEq
noncomputable def RelV:V->Value->Prop
 | .non,u=>u=Value.none
 | .bl b,u=>u=Value.bool b
 | .int i,u=>∃t,u=Value.int i t
 | .str x,u=>∃t,u=Value.str x t
 | .byt b,u=>∃t,u=Value.bytes b t
 | .flt b,u=>∃t,u=Value.float b t
 | .ref a,u=>u=Value.ref a
 | .ty n,u=>u=Value.type n
noncomputable abbrev Vals:List V->List Value->Prop:=Paired RelV
theorem Vals.length(r:Vals xs us):xs.length=us.length:=Paired.length r
theorem Vals.get:∀{xs:List V} {us:List Value} {i:Nat} {x:V},Vals xs us->xs[i]?=some x->∃u,us[i]?=some u/\RelV x u
 | _,_,_,_,.nil,e=>by simp at e
 | _,_,0,_,.cons r _,e=>by simp at e;subst e;exact⟨_,rfl,r⟩
 | _,_,i+1,x,.cons _ t,e=>by
  obtain⟨u,h1,h2⟩:=Vals.get (i:=i) (x:=x) t (by simpa using e);exact⟨u,by simpa using h1,h2⟩
theorem Vals.set(r:RelV x u):∀{xs:List V} {us:List Value} (i:Nat),Vals xs us->Vals (xs.set i x) (us.set i u)
 | _,_,_,.nil=>.nil
 | _,_,0,.cons _ t=>.cons r t
 | _,_,i+1,.cons q t=>.cons q (Vals.set r i t)
theorem Vals.append:∀{xs ys:List V} {us ws:List Value},Vals xs us->Vals ys ws->Vals (xs++ys) (us++ws)
 | _,_,_,_,.nil,s=>s
 | _,_,_,_,.cons r t,s=>.cons r (Vals.append t s)
theorem Vals.take:∀{xs:List V} {us:List Value} (n:Nat),Vals xs us->Vals (xs.take n) (us.take n)
 | _,_,0,_=>.nil
 | _,_,_+1,.nil=>.nil
 | _,_,n+1,.cons r t=>.cons r (Vals.take n t)
theorem Vals.drop:∀{xs:List V} {us:List Value} (n:Nat),Vals xs us->Vals (xs.drop n) (us.drop n)
 | _,_,0,r=>r
 | _,_,_+1,.nil=>.nil
 | _,_,n+1,.cons _ t=>Vals.drop n t
noncomputable def jM:Option V->Option Value->Prop
 | some v,some u=>RelV v u
 | none,none=>True
 | _,_=>False
noncomputable def KV{κ:Type}:List (κ × V)->List (κ × Value)->Prop:=Paired λ(p:κ × V) (q:κ × Value)=>p.1=q.1/\RelV p.2 q.2
noncomputable def kV:Key->V
 | .inl i=>.int i
 | .inr x=>.str x
inductive HO where
  | lst (xs:List V)
  | tup (xs:List V)
  | dK (kvs:List (Key×V))|dT (kvs:List (List Key×V))
  | set (S:Int->Bool) (n:Nat)
  | ins (C dx:Addr) (fs:List (Str×V))
  | own (x:Addr)
  | xd (fs:List (Str×V))
  | met (f x:Addr)
  | rng (lo hi:Int)
  | oE (o:Obj) (u:HO)
  | tbl (ps:Array Value)
  | ext (φ:Heap->Prop)
noncomputable abbrev Hp:=Addr->Option HO
noncomputable def upd(H:Hp)(a:Addr)(o:HO):Hp:=λb=>if b=a then some o else H b
theorem aV:upd H a o a=some o:=by unfold upd;rw[if_pos rfl]
theorem aA(h:b≠a):upd H a o b=H b:=by unfold upd;rw[if_neg h]
theorem MS{H:Hp}{a b:Addr}{o u:HO}(h:H a=some o)(h':H b=some u)(d:o≠u):a≠b:=by
 intro e;subst e;rw[h] at h';exact d (Option.some.inj h')
theorem aG{H:Hp}{a b:Addr}{o:HO}(h:H a=some o)(h':H b=none):a≠b:=by
 intro e;subst e;rw[h] at h';cases h'
section
variable (P:Program) (w:World)
noncomputable def bE(H:Hp)(h:Heap)(a:Addr):HO->Prop
 | .lst xs=>xs.length<=sizeLine/\∃(its:List Value) (n:Nat),Vals xs its/\h.get? a=some { cls:=.type "list",data:=.seq its.toArray n }
 | .tup xs=>xs.length<=sizeLine/\∃its:List Value,Vals xs its/\IsTup h a its.toArray
 | .dK kvs=>kvs.length<=sizeLine/\(a==sysModules)=false/\∃vs,KV kvs vs/\h.DictOf (aY P w) a vs
 | .dT kvs=>kvs.length<=sizeLine/\(a==sysModules)=false/\∃xs:List (List Key×Addr×Value),
   Paired (λ(p:List Key×V) (q:List Key×Addr×Value)=>p.1=q.1/\H q.2.1=some (.tup (p.1.map kV))/\RelV p.2 q.2.2) kvs xs /\
   ∃o es ep,h.get? a=some o/\o.ExactDict/\o.data=.dict es ep/\es.toList=xs.map (entryOfKey (tupleKind (aY P w)))/\(xs.map (·.1)).Nodup
 | .set S n=>h.SetOf (intKind P w) a S n
 | .ins C dx fs=>H dx=some (.own a)/\fs.length<=1000/\dx≠a/\h.get? a=some (instObj C dx) /\
   ∃mA,h.Ns1 dx mA/\(∀f,jM (fs.lookup f) (mA f))/\PySem.Within mA (fs.map (·.1))
 | .own _=>∃o,h.get? a=some o
 | .xd fs=>∃mA,h.Ns1 a mA/\∀f,jM (fs.lookup f) (mA f)
 | .rng lo hi=>∃t u v,h.get? a=some { cls:=.type "range",data:=.fields #[.int lo t,.int hi u,.int 1 v] }
 | .oE o u=>h.get? a=some o/\bE H h a u
 | .tbl ps=>h.get? a=some { cls:=.none,data:=.fields ps }
 | .met f x=>h.get? a=some (methodObj (.ref f) (.ref x))
 | .ext φ=>φ h/\(∃o,h.get? a=some o)/\∀h1 h2:Heap,φ h1->(∀o,h1.get? a=some o->h2.get? a=some o) -> φ h2
noncomputable def lu(H:Hp)(h:Heap):Prop:=∀a o,H a=some o->bE P w H h a o
end
section
variable {P:Program} {w:World} {H H':Hp} {h h':Heap} {a:Addr} {o:HO}
theorem bE.lt(x:bE P w H h a o):a<h.objs.size:=by
 cases o with
 | lst xs=>obtain⟨_,_,_,_,e⟩:=x;exact lt_size e
 | tup xs=>obtain⟨_,_,_,p⟩:=x;exact p.lt
 | dK kvs=>obtain⟨_,_,_,_,o,_,_,e,_⟩:=x;exact lt_size e
 | dT kvs=>obtain⟨_,_,_,_,o,_,_,e,_⟩:=x;exact lt_size e
 | set S n=>obtain⟨o,_,_,_,e,_⟩:=x;exact lt_size e
 | ins C dx fs=>obtain⟨_,_,_,e,_⟩:=x;exact lt_size e
 | own y=>obtain⟨_,e⟩:=x;exact lt_size e
 | xd fs=>obtain⟨_,⟨_,_,_,e,_⟩,_⟩:=x;exact lt_size e
 | rng lo hi=>obtain⟨_,_,_,e⟩:=x;exact lt_size e
 | oE ob u=>obtain⟨e,_⟩:=x;exact lt_size e
 | tbl ps=>exact lt_size (show h.get? a=some _ from x)
 | met f y=>exact lt_size (show h.get? a=some _ from x)
 | ext φ=>obtain⟨_,⟨_,e⟩,_⟩:=x;exact lt_size e
theorem Paired.IY{α β:Type}{F G:α -> β -> Prop}:∀{l₁:List α} {l₂:List β},Paired F l₁ l₂->(∀a b,F a b->G a b)->Paired G l₁ l₂
 | _,_,.nil,_=>.nil
 | _,_,.cons r t,f=>.cons (f _ _ r) (Paired.IY t f)
theorem bE.stay(x:bE P w H h a o)(k:∀b u,(b=a\/H b=some (.own a))->h.get? b=some u->h'.get? b=some u)
  (ho:∀b,H b=some (.own a)->H' b=some (.own a)) (ht:∀b xs,H b=some (.tup xs)->H' b=some (.tup xs)):bE P w H' h' a o:=by
 induction o with
 | lst xs=>obtain⟨z,its,n,r,e⟩:=x;exact⟨z,its,n,r,k _ _ (.inl rfl) e⟩
 | tup xs=>obtain⟨z,its,r,ob,e,c⟩:=x;exact⟨z,its,r,ob,k _ _ (.inl rfl) e,c⟩
 | dK kvs=>obtain⟨z,y,vs,r,ob,es,ep,e,c⟩:=x;exact⟨z,y,vs,r,ob,es,ep,k _ _ (.inl rfl) e,c⟩
 | dT kvs =>obtain⟨z,y,xs,r,ob,es,ep,e,c⟩:=x;exact⟨z,y,xs,Paired.IY r λp q z=>⟨z.1,ht _ _ z.2.1,z.2.2⟩,ob,es,ep,k _ _ (.inl rfl) e,c⟩
 | set S n=>obtain⟨ob,es,ep,t,e,c⟩:=x;exact⟨ob,es,ep,t,k _ _ (.inl rfl) e,c⟩
 | ins C dx fs =>obtain⟨d,z,ne,e,mA,⟨od,es,ep,e2,c⟩,r⟩:=x;exact⟨ho _ d,z,ne,k _ _ (.inl rfl) e,mA,⟨od,es,ep,k _ _ (.inr d) e2,c⟩,r⟩
 | own y=>obtain⟨ob,e⟩:=x;exact⟨ob,k _ _ (.inl rfl) e⟩
 | xd fs=>obtain⟨mA,⟨od,es,ep,e,c⟩,r⟩:=x;exact⟨mA,⟨od,es,ep,k _ _ (.inl rfl) e,c⟩,r⟩
 | rng lo hi=>obtain⟨t,u,v,e⟩:=x;exact⟨t,u,v,k _ _ (.inl rfl) e⟩
 | oE ob u ih=>obtain⟨e,q⟩:=x;exact⟨k _ _ (.inl rfl) e,ih q⟩
 | tbl ps =>have e:h.get? a=some { cls:=.none,data:=.fields ps }:=x;show h'.get? a=some { cls:=.none,data:=.fields ps };exact k a _ (.inl rfl) e
 | met f y =>have e:h.get? a=some (methodObj (.ref f) (.ref y)):=x;show h'.get? a=some (methodObj (.ref f) (.ref y));exact k a _ (.inl rfl) e
 | ext φ=>obtain⟨p,⟨o,e⟩,st⟩:=x;exact⟨st _ _ p λo q=>k _ _ (.inl rfl) q,⟨o,k _ _ (.inl rfl) e⟩,st⟩
theorem lu.lt(x:lu P w H h)(e:H a=some o):a<h.objs.size:=(x a o e).lt
theorem lu.fresh(x:lu P w H h)(e:h.objs.size<=a):H a=none:=by
 cases q:H a with
 | none=>rfl
 | some u=>exact absurd (lt_of_lt_of_le (x.lt q) e) (lt_irrefl _)
theorem lu.kept(x:lu P w H h)(k:∀b u,h.get? b=some u->h'.get? b=some u):lu P w H h':=λa o e =>
 (x a o e).stay (λb u _ q=>k b u q) (λ_ q=>q) λ_ _ q=>q
theorem lu.laid(x:lu P w H h)(k:∀b u,h.get? b=some u->h'.get? b=some u)(hp:h.objs.size<=a)(new:bE P w (upd H a o) h' a o):lu P w (upd H a o) h':=λb u e=>by
 have hn:=x.fresh hp
 by_cases hb:b=a
 ·subst hb;rw[aV] at e;cases e;exact new
 ·rw[aA hb] at e;exact(x b u e).stay (λc v _ q=>k c v q) (λc q=>by rw[aA (aG q hn)];exact q) λc xs q=>by rw[aA (aG q hn)];exact q
end
noncomputable def Rd(H:Hp)(a:Addr)(u:HO):Prop:=H a=some u\/∃o,H a=some (.oE o u)
theorem Rd.ok(r:Rd H a u)(x:lu P w H h):bE P w H h a u:=by
 rcases r with r|⟨o,r⟩
 ·exact x a u r
 ·obtain⟨_,q⟩:=x a _ r;exact q
noncomputable def MT:Option HO->Prop
 | some (.lst _)=>True
 | some (.dK _)=>True
 | some (.dT _)=>True
 | some (.set _ _)=>True
 | some (.ins _ _ _)=>True
 | some (.ext _)=>True
 | _=>False
section
variable {P:Program} {w:World} {H:Hp} {h h':Heap} {x e:Addr} {o':HO}
theorem lu.write(ok:lu P w H h)(mu:MT (H x))(he:e=x\/H e=some (.own x))(k:∀b u,b≠e->h.get? b=some u->h'.get? b=some u)(MD:∃u,h'.get? e=some u)
  (new:bE P w (upd H x o') h' x o'):lu P w (upd H x o') h':=λb u q=>by
 have nown:∀c y,H c=some (.own y)->c≠x:=λc y r z=>by subst z;rw[r] at mu;exact mu
 have ntup:∀c xs,H c=some (.tup xs)->c≠x:=λc xs r z=>by subst z;rw[r] at mu;exact mu
 by_cases hb:b=x
 ·subst hb;rw[aV] at q;cases q;exact new
 ·rw[aA hb] at q
  by_cases IZ:b=e
  ·have q':H b=some (.own x):=by
    rcases he with z|z
    ·exact absurd (IZ.trans z) hb
    ·rw[IZ];exact z
   rw[q] at q';cases q';obtain⟨v,hv⟩:=MD;exact⟨v,by rw[IZ];exact hv⟩
  ·refine(ok b u q).stay (λc v hc r=>k c v ?_ r) (λc r=>by rw[aA (nown c b r)];exact r) λc xs r=>by rw[aA (ntup c xs r)];exact r
   rcases hc with rfl|hc
   ·exact IZ
   ·rintro rfl
    rcases he with z|z
    ·exact nown c b hc z
    ·rw[hc] at z;cases z;exact hb rfl
end
structure Un (fs ex:List Addr) (H H':Hp) (h h':Heap):Prop where
 keep:∀b o,h.get? b=some o->H b=none->b∉fs->b∉ex->h'.get? b=some o
 slot:∀b o,h.get? b=some o->H b=none->b∈fs->b∉ex->∃sl,h'.get? b=some { o with slots:=sl }
 free:∀b o,h.get? b=some o->H b=none->b∉ex->H' b=none
 there:∀b o,h.get? b=some o->b∉ex->∃o',h'.get? b=some o'
 tups:∀b xs,H b=some (.tup xs)->H' b=some (.tup xs)
 frzs:∀b o u,H b=some (.oE o u)->H' b=some (.oE o u)
 sP:∀b ps,H b=some (.tbl ps)->∃more,H' b=some (.tbl (ps++more))
section
variable {fs fs' ex ex':List Addr} {H H1 H2:Hp} {h h1 h2 h':Heap} {a x e:Addr} {o:HO}
theorem Un.any(u:Un fs ex H H1 h h1)(q:h.get? b=some ob)(n:H b=none)(hx:b∉ex):∃sl,h1.get? b=some { ob with slots:=sl }:=by
 by_cases hb:b∈fs
 ·exact u.slot b ob q n hb hx
 ·exact⟨ob.slots,u.keep b ob q n hb hx⟩
theorem Un.kept(k:∀b u,h.get? b=some u->h'.get? b=some u):Un fs ex H H h h' :=
 ⟨λb ob q _ _ _=>k b ob q,λb ob q _ _ _=>⟨ob.slots,k b ob q⟩,λ_ _ _ n _=>n,λb ob q _=>⟨ob,k b ob q⟩,λ_ _ q=>q,λ_ _ _ q=>q,λ_ ps q=>⟨#[],by rw[q];simp⟩⟩
theorem Un.refl:Un fs ex H H h h:=Un.kept λ_ _ q=>q
theorem Un.laid(k:∀b u,h.get? b=some u->h'.get? b=some u)(hp:h.objs.size<=a)(hn:H a=none):Un fs ex H (upd H a o) h h' where
 keep:=λb u q _ _ _=>k b u q
 slot:=λb u q _ _ _=>⟨u.slots,k b u q⟩
 free:=λb u q n _=>by rw[aA (ne_of_lt (lt_of_lt_of_le (lt_size q) hp))];exact n
 there:=λb u q _=>⟨u,k b u q⟩
 tups:=λb xs q=>by rw[aA (aG q hn)];exact q
 frzs:=λb u xs q=>by rw[aA (aG q hn)];exact q
 sP:=λb ps q=>⟨#[],by rw[aA (aG q hn),q];simp⟩
theorem Un.write(mu:MT (H x))(he:e=x\/H e=some (.own x))(k:∀b u,b≠e->h.get? b=some u->h'.get? b=some u)(MD:∃u,h'.get? e=some u):Un fs ex H (upd H x o) h h':=by
 have hx:∀b,H b=none->b≠x:=λb n z=>by subst z;rw[n] at mu;exact mu
 have hb:∀b,H b=none->b≠e:=λb n z=>by
  subst z
  rcases he with r|r
  ·exact hx b n r
  ·rw[n] at r;cases r
 have hm:∀b u,H b=some u->¬ MT (some u)->b≠x:=λb u q nm z=>by subst z;rw[q] at mu;exact nm mu
 refine⟨λb u q n _ _=>k b u (hb b n) q,λb u q n _ _=>⟨u.slots,k b u (hb b n) q⟩,λb u q n _=>by rw[aA (hx b n)];exact n,λb u q _=>?_,
  λb xs q=>by rw[aA (hm b _ q λz=>z)];exact q,λb u xs q=>by rw[aA (hm b _ q λz=>z)];exact q,λb ps q=>⟨#[],by rw[aA (hm b _ q λz=>z),q];simp⟩⟩
 by_cases IZ:b=e
 ·subst IZ;exact MD
 ·exact⟨u,k b u IZ q⟩
end
noncomputable def cU(h:Heap)(H:Hp):List Addr:=(List.range h.objs.size).filter λa=>(H a).isSome
noncomputable def sQ(h:Heap)(H:Hp):Heap:=PySem.W.hideAll h (cU h H)
theorem zN(h:Heap)(H:Hp):(sQ h H).objs.size=h.objs.size:=PySem.W.hideAll_size _ _
theorem Bh(e:h.get? b=some o)(n:H b=none):(sQ h H).get? b=some o :=
 PySem.W.hideAll_get _ e λhm=>by
  have q:(H b).isSome=true:=(mem_filter.mp hm).2;rw[n] at q;simp at q
theorem Eu(e:(sQ h H).get? b=some o):h.get? b=some o/\H b=none:=by
 have e':h.get? b=some o:=PySem.W.of_hideAll (cU h H) e;refine⟨e',?_⟩;cases q:H b with
 | none=>rfl
 | some x =>have hm:b∈cU h H:=mem_filter.mpr ⟨List.mem_range.mpr (lt_size e'),by simp[q]⟩;have z:(sQ h H).get? b=none:=PySem.W.hideAll_none (cU h H) hm;rw[z] at e;cases e
noncomputable def Ew(g h:Heap)(L:Addr):List (Addr×Obj):=(List.range h.objs.size).filterMap λa=>if a=L\/(g.get? a).isSome=true then none else (h.get? a).map λo=>(a,o)
noncomputable def rest(g h:Heap)(L d:Addr):List (Addr×Obj):=(Ew g h L).filter λp=>decide (p.1≠d)
end L2
namespace L2
open PySem PySem.Spec PyProof.Rows
structure Mod (K:PySem.W.Frag) (mg:Str->Option Value) (base:Heap):Prop where
 ME:K.In base
 glob:base.Ns mainGlobals mg
 blt:∃mb,base.Ns builtinsNs mb/\∀x:Str,x ≠ "__name__" -> mb x=bootBuiltins x
 nolimit:base.NoLimit
structure Cx where
 prog:Program
 w:World
 K:PySem.W.Frag
 mg:Str->Option Value
 base:Heap
 A:Around
 N:List Str
 s₀:Shared
 H₀:Hp
 env:Env
 outer:List Env
 stack:List Env
 ex:List Addr
 fn:Str->Bool
 calm:Bool
 pn:List (Addr×Obj)
 xe:Value->Shared->Prop
noncomputable def frs(l:List Env):List Addr:=l.filterMap (·.frame)
noncomputable abbrev Cx.fs(X:Cx):List Addr:=frs X.outer
noncomputable def MU(sc:Scope)(x:Str):Prop:=sc.names.lookup x=some .local\/sc.names.lookup x=some .cell\/sc.names.lookup x=some .free
noncomputable def Loc(sc:Scope)(x:Str):Prop:=sc.names.lookup x=some .local\/sc.names.lookup x=some .cell
noncomputable def Look(env:Env)(h:Heap)(m:Str->Option Value)(x:Str)(u:Value):Prop :=
 (env.kindOf x=some .local/\m x=some u)\/((env.kindOf x=some .cell\/env.kindOf x=some .free)/\∃c,env.cells.lookup x=some c/\h.IsCell c (some u))
structure Cx.Ok (X:Cx):Prop where
 mod:Mod X.K X.mg X.base
 kind:X.env.scope.kind=.function
 glob:X.env.globals=mainGlobals
 blt:X.env.builtins=builtinsNs
 above:X.s₀.heap.objs.size<=X.env.locals
 inj:∀x y c,X.env.cells.lookup x=some c->X.env.cells.lookup y=some c->x=y
 has:∀x,(X.env.kindOf x=some .cell\/X.env.kindOf x=some .free)->∃c,X.env.cells.lookup x=some c
 MV:∀x c,X.fn x=true->X.env.cells.lookup x=some c->X.s₀.heap.objs.size<=c
 hd:X.calm=true->X.A.handled=none
 frames:X.A.frames=some X.stack
 stk:X.stack=X.outer\/(X.stack=X.env::X.outer/\X.env.frame=some X.env.locals)
 QN:∀b∈X.ex,b≠X.env.locals/\∀x c,X.env.cells.lookup x=some c->c≠b
 bs:∀b o,X.base.get? b=some o->X.s₀.heap.get? b=some o/\X.H₀ b=none
 HJ:X.base.objs.size<=X.s₀.heap.objs.size
 ly:∀b o,X.base.get? b=some o->b∉X.ex
 Bj:∀b∈X.ex,b∉X.fs
 oj:X.s₀.heap.FunFrames X.base X.outer
 I0:∀b∈X.fs,X.H₀ b=none
structure Inv (X:Cx) (pins:List (Addr×Obj)) (σ:List (Option V)) (H:Hp) (s:Shared):Prop where
 ok:X.Ok
 os:s.os=X.s₀.os
 bare:AllBare s.gens
 base:Un X.fs X.ex X.H₀ H X.s₀.heap s.heap
 loc:∃m,s.heap.Ns X.env.locals m/\∀(i:Nat) (x:Str) (v:V),X.N[i]?=some x -> σ[i]?=some (some v)->MU X.env.scope x->∃u,RelV v u/\Look X.env s.heap m x u
 cell:∀x c,X.env.cells.lookup x=some c->∃v,s.heap.IsCell c v
 free:H X.env.locals=none
 jD:∀x c,X.env.cells.lookup x=some c->H c=none
 pin:∀p∈X.pn++pins,s.heap.get? p.1=some p.2/\H p.1=none/\p.1≠X.env.locals/\p.1∉X.fs/\∀v,p.2.data≠.cell v
 hok:lu X.prog X.w H s.heap
 len:σ.length=X.N.length
section
variable {X:Cx} {pins:List (Addr×Obj)} {σ:List (Option V)} {H H':Hp} {s:Shared} {h':Heap}
theorem Cx.Ok.QO(ok:X.Ok)(e:X.base.get? b=some o):b∉X.fs:=λhb=>by
 have:=(ok.oj.mem hb).1;rw[e] at this;cases this
theorem Inv.bs(I:Inv X pins σ H s):∀b o,X.base.get? b=some o->s.heap.get? b=some o/\H b=none:=λb o e =>
 ⟨I.base.keep b o (I.ok.bs b o e).1 (I.ok.bs b o e).2 (I.ok.QO e) (I.ok.ly b o e),I.base.free b o (I.ok.bs b o e).1 (I.ok.bs b o e).2 (I.ok.ly b o e)⟩
theorem Inv.bk(I:Inv X pins σ H s):∀b o,X.base.get? b=some o->s.heap.get? b=some o:=λb o e=>(I.bs b o e).1
theorem Inv.mod(I:Inv X pins σ H s):Mod X.K X.mg X.base:=I.ok.mod
theorem Inv.jE(I:Inv X pins σ H s):X.K.In s.heap:=I.ok.mod.ME.keeps I.bk
theorem Inv.lt(I:Inv X pins σ H s):X.env.locals<s.heap.objs.size:=let ⟨_,hn,_⟩:=I.loc;hn.lt
theorem Inv.sz(I:Inv X pins σ H s):X.s₀.heap.objs.size<=s.heap.objs.size:=le_trans I.ok.above (Nat.le_of_lt I.lt)
theorem Inv.QS(I:Inv X pins σ H s)(h:s.heap.objs.size<=a):a∉X.fs:=λhb=>by
 obtain⟨_,o,ho,_⟩:=I.ok.oj.mem hb;exact absurd (lt_of_lt_of_le (lt_size ho) (le_trans I.sz h)) (lt_irrefl _)
theorem Inv.cne(I:Inv X pins σ H s):∀x c,X.env.cells.lookup x=some c->c≠X.env.locals:=λx c e z=>by
 obtain⟨v,o,ho,hd⟩:=I.cell x c e;obtain⟨m,⟨o',es,ep,ho',hd',_⟩,_⟩:=I.loc;rw[z,ho'] at ho;cases ho;rw[hd'] at hd;cases hd
theorem Inv.oj(I:Inv X pins σ H s):s.heap.FunFrames X.base X.outer:=by
 have all:∀(l:List Env),(∀b∈frs l,b∈X.fs)->X.s₀.heap.FunFrames X.base l->s.heap.FunFrames X.base l:=by
  intro l
  induction l with
  | nil=>intro _ _;trivial
  | cons env r ih =>intro hs hl;obtain⟨hk,⟨L,o,hf,hn,ho,hd⟩,hr⟩:=hl;have hL:L∈X.fs:=hs L (by unfold frs;rw[List.filterMap_cons,hf];exact mem_cons_self);obtain⟨sl,e⟩:=I.base.slot L o ho (I.ok.I0 L hL) hL λz=>I.ok.Bj L z hL;exact⟨hk,⟨L,_,hf,hn,e,hd⟩,ih (λb hb=>hs b (by unfold frs;rw[List.filterMap_cons,hf];exact mem_cons_of_mem _ hb)) hr⟩
 exact all X.outer (λ_ hb=>hb) I.ok.oj
theorem Inv.stack(I:Inv X pins σ H s):s.heap.FunFrames X.base X.stack:=by
 rcases I.ok.stk with e|⟨e,hf⟩
 ·rw[e];exact I.oj
 ·rw[e];obtain⟨m,hn,_⟩:=I.loc;refine .cons (by rw[I.ok.kind];decide) hf hn ?_ I.oj;exact Heap.get?_none_of_le (le_trans I.ok.HJ I.ok.above)
theorem Inv.wM(I:Inv X pins σ H s):∀b∈frs X.stack,b∈X.env.locals::X.fs:=λb hb=>by
 rcases I.ok.stk with e|⟨e,hf⟩
 ·rw[e] at hb;exact mem_cons_of_mem _ hb
 ·rw[e] at hb;unfold frs at hb;rw[List.filterMap_cons,hf] at hb;exact hb
theorem Inv.ym(I:Inv X pins σ H s):∀b∈frs X.stack,H b=none:=λb hb=>by
 rcases mem_cons.mp (I.wM b hb) with e|hb
 ·rw[e];exact I.free
 ·obtain⟨_,o,ho,_⟩:=I.ok.oj.mem hb;exact I.base.free b o ho (I.ok.I0 b hb) λz=>I.ok.Bj b z hb
theorem Inv.step{g':Array GenState}{t':Nat}{d':Drawn}{ch:List Addr}(I:Inv X pins σ H s)
  (hch:∀b∈ch,(b∈X.ex\/X.s₀.heap.objs.size<=b)/\b≠X.env.locals/\(∀x c,X.env.cells.lookup x=some c->c≠b)/\∀p∈X.pn++pins,p.1≠b)
  (keep:∀b o,b≠X.env.locals->b∉X.fs->b∉ch->s.heap.get? b=some o->H b=none->h'.get? b=some o)
  (slot:∀b o,b≠X.env.locals->b∈X.fs->b∉ch->s.heap.get? b=some o->H b=none->∃sl,h'.get? b=some { o with slots:=sl }) (free:∀b o,b∉ch->s.heap.get? b=some o->H b=none->H' b=none)
  (there:∀b o,b∉ch->s.heap.get? b=some o->∃o',h'.get? b=some o')
  (tups:∀b xs,H b=some (.tup xs)->H' b=some (.tup xs)) (frzs:∀b o u,H b=some (.oE o u)->H' b=some (.oE o u)) (sP:∀b ps,H b=some (.tbl ps)->∃more,H' b=some (.tbl (ps++more)))
  (ns:∀m,s.heap.Ns X.env.locals m->h'.Ns X.env.locals m) (hok:lu X.prog X.w H' h') (hg:AllBare g') :
  Inv X pins σ H' { s with heap:=h',gens:=g',drawn:=d',toks:=t' }:=by
 have neL:∀b o,X.s₀.heap.get? b=some o->b≠X.env.locals:=λb o e=>ne_of_lt (lt_of_lt_of_le (lt_size e) I.ok.above);have neC:∀b o,X.s₀.heap.get? b=some o->b∉X.ex->b∉ch:=λb o e hx hb=>by
  rcases(hch b hb).1 with z|z
  ·exact hx z
  ·exact absurd (lt_of_lt_of_le (lt_size e) z) (lt_irrefl _)
 have cellK:∀x c,X.env.cells.lookup x=some c->∀v,s.heap.IsCell c v->h'.IsCell c v:=λx c e v ⟨o,ho,hd⟩=>by
  have MW:c∉ch:=λz=>(hch c z).2.2.1 x c e rfl
  by_cases hc:c∈X.fs
  ·obtain⟨sl,q⟩:=slot c o (I.cne x c e) hc MW ho (I.jD x c e);exact⟨_,q,hd⟩
  ·exact⟨o,keep c o (I.cne x c e) hc MW ho (I.jD x c e),hd⟩
 refine⟨I.ok,I.os,hg,⟨λb o e n hb hx=>?_,λb o e n hb hx=>?_,λb o e n hx=>?_,λb o e hx=>?_,λb xs e=>tups b xs (I.base.tups b xs e),λb o xs e=>frzs b o xs (I.base.frzs b o xs e),λb ps e=>?_⟩,?_,λx c e=>?_,?_,λx c e=>?_,λp hp=>?_,hok,I.len⟩
 ·exact keep b o (neL b o e) hb (neC b o e hx) (I.base.keep b o e n hb hx) (I.base.free b o e n hx)
 ·obtain⟨sl,e1⟩:=I.base.slot b o e n hb hx;obtain⟨WH,e2⟩:=slot b _ (neL b o e) hb (neC b o e hx) e1 (I.base.free b o e n hx);exact⟨WH,e2⟩
 ·obtain⟨o',e1⟩:=I.base.there b o e hx;exact free b o' (neC b o e hx) e1 (I.base.free b o e n hx)
 ·obtain⟨o',e1⟩:=I.base.there b o e hx;exact there b o' (neC b o e hx) e1
 ·obtain⟨m1,e1⟩:=I.base.sP b ps e;obtain⟨m2,e2⟩:=sP b _ e1;exact⟨m1++m2,by rw[e2,Array.append_assoc]⟩
 ·obtain⟨m,hn,hl⟩:=I.loc
  refine⟨m,ns m hn,λi x v e1 e2 e3=>?_⟩;obtain⟨u,r,l⟩:=hl i x v e1 e2 e3;refine⟨u,r,?_⟩
  rcases l with l|⟨k,c,e,z⟩
  ·exact .inl l
  ·exact .inr ⟨k,c,e,cellK x c e _ z⟩
 ·obtain⟨v,z⟩:=I.cell x c e;exact⟨v,cellK x c e v z⟩
 ·obtain⟨m,⟨o,_,_,ho,_⟩,_⟩:=I.loc;exact free _ o (λz=>(hch _ z).2.1 rfl) ho I.free
 ·obtain⟨v,o,ho,hd⟩:=I.cell x c e;exact free c o (λz=>(hch c z).2.2.1 x c e rfl) ho (I.jD x c e)
 ·obtain⟨e,n,ne,nf,d⟩:=I.pin p hp;have MW:p.1∉ch:=λz=>(hch p.1 z).2.2.2 p hp rfl;exact⟨keep p.1 p.2 ne nf MW e n,free p.1 p.2 MW e n,ne,nf,d⟩
theorem Inv.un{t':Nat}(I:Inv X pins σ H s)(u:Un X.fs [] H H' s.heap h')(hok:lu X.prog X.w H' h'):Inv X pins σ H' { s with heap:=h',toks:=t' }:=by
 obtain⟨m,⟨o,es,ep,ho,r⟩,_⟩:=id I.loc;obtain⟨sl,hL⟩:=u.any ho I.free (by simp);exact I.step (g':=s.gens) (d':=s.drawn) (ch:=[]) (λ_ z=>nomatch z) (λb o _ hb _ e n=>u.keep b o e n hb (by simp)) (λb o _ hb _ e n=>u.slot b o e n hb (by simp)) (λb o _ e n=>u.free b o e n (by simp)) (λb o _ e=>u.there b o e (by simp)) u.tups u.frzs u.sP (λm' hm=>by
  obtain⟨o',es',QT,ho',r'⟩:=hm;rw[ho] at ho';cases ho';exact⟨_,es',QT,hL,r'⟩) hok I.bare
theorem Inv.call{t':Nat}(I:Inv X pins σ H s)(u:Un (frs X.stack) ch H H' s.heap h')(hok:lu X.prog X.w H' h')(hg:AllBare g')
  (hch:∀b∈ch,(b∈X.ex\/X.s₀.heap.objs.size<=b)/\b≠X.env.locals/\(∀x c,X.env.cells.lookup x=some c->c≠b)/\∀p∈X.pn++pins,p.1≠b) :
  Inv X pins σ H' { s with heap:=h',gens:=g',drawn:=d',toks:=t' }:=by
 obtain⟨m,⟨o,es,ep,ho,r⟩,_⟩:=id I.loc;obtain⟨sl,hL⟩:=u.any ho I.free λz=>(hch _ z).2.1 rfl;exact I.step (ch:=ch) hch (λb o hL hb hc e n=>u.keep b o e n (λz=>(mem_cons.mp (I.wM b z)).elim hL hb) hc) (λb o _ _ hc e n=>u.any e n hc) (λb o hc e n=>u.free b o e n hc) (λb o hc e=>u.there b o e hc) u.tups u.frzs u.sP (λm' hm=>by
  obtain⟨o',es',QT,ho',r'⟩:=hm;rw[ho] at ho';cases ho';exact⟨_,es',QT,hL,r'⟩) hok hg
theorem Inv.turned{t':Nat}(I:Inv X pins σ H s)(k:∀b o,b≠it->s.heap.get? b=some o->h'.get? b=some o)(hn:H it=none)(hL:it≠X.env.locals)
  (h1:it∈X.ex\/X.s₀.heap.objs.size<=it) (h2:∀x c,X.env.cells.lookup x=some c->c≠it) (h3:∀p∈X.pn++pins,p.1≠it):Inv X pins σ H { s with heap:=h',toks:=t' }:=by
 have MX:∀b u,H b=some u->b≠it:=λb u e z=>by rw[z,hn] at e;cases e
 refine I.step (g':=s.gens) (d':=s.drawn) (ch:=[it]) (λb hb=>?_) (λb o _ _ hc e _=>k b o (λz=>hc (by simp[z])) e) (λb o _ _ hc e _=>⟨o.slots,k b o (λz=>hc (by simp[z])) e⟩) (λ_ _ _ _ n=>n)
  (λb o hc e=>⟨o,k b o (λz=>hc (by simp[z])) e⟩) (λ_ _ e=>e) (λ_ _ _ e=>e) (λb ps e=>⟨#[],by rw[e];simp⟩) (λm hm=>?_) (λb u e=>?_) I.bare
 ·have e:b=it:=by simpa using hb
  subst e;exact⟨h1,hL,h2,h3⟩
 ·obtain⟨o,es,ep,ho,r⟩:=hm;exact⟨o,es,ep,k _ o (Ne.symm hL) ho,r⟩
 ·refine(I.hok b u e).stay (λc v hc q=>k c v ?_ q) (λ_ q=>q) λ_ _ q=>q
  rcases hc with z|z
  ·rw[z];exact MX b u e
  ·exact MX c _ z
theorem Inv.tok(I:Inv X pins σ H s)(t:Nat):Inv X pins σ H { s with toks:=t }:=I.un (h':=s.heap) (t':=t) Un.refl I.hok
theorem Inv.kept{t':Nat}(I:Inv X pins σ H s)(k:∀b u,s.heap.get? b=some u->h'.get? b=some u):Inv X pins σ H { s with heap:=h',toks:=t' }:=I.un (Un.kept k) (I.hok.kept k)
theorem Inv.laid{t':Nat}(I:Inv X pins σ H s)(k:∀b u,s.heap.get? b=some u->h'.get? b=some u)(hp:s.heap.objs.size<=a)(new:bE X.prog X.w (upd H a o) h' a o) :
  Inv X pins σ (upd H a o) { s with heap:=h',toks:=t' }:=I.un (Un.laid k hp (I.hok.fresh hp)) (I.hok.laid k hp new)
theorem Inv.write{t':Nat}(I:Inv X pins σ H s)(mu:MT (H x))(he:e=x\/H e=some (.own x))(k:∀b u,b≠e->s.heap.get? b=some u->h'.get? b=some u)(MD:∃u,h'.get? e=some u)
  (new:bE X.prog X.w (upd H x o) h' x o):Inv X pins σ (upd H x o) { s with heap:=h',toks:=t' }:=I.un (Un.write mu he k MD) (I.hok.write mu he k MD new)
theorem Inv.yo(I:Inv X pins σ H s)(h:∀p∈MY,s.heap.get? p.1=some p.2/\H p.1=none/\p.1≠X.env.locals/\p.1∉X.fs/\∀v,p.2.data≠.cell v):Inv X MY σ H s :=
 ⟨I.ok,I.os,I.bare,I.base,I.loc,I.cell,I.free,I.jD,λp hp=>(mem_append.mp hp).elim (λz=>I.pin p (mem_append_left _ z)) (h p),I.hok,I.len⟩
theorem uz{N:List Str}(hN:N.Nodup){i j:Nat}{x:Str}(a:N[i]?=some x)(b:N[j]?=some x):i=j:=by
 obtain⟨h1,e1⟩:=List.getElem?_eq_some_iff.mp a;obtain⟨h2,e2⟩:=List.getElem?_eq_some_iff.mp b;exact(List.getElem_inj hN).mp (e1.trans e2.symm)
theorem rD{i:Nat}(I:Inv X pins σ H s)(hN:X.N.Nodup)(hi:X.N[i]?=some x)(hx:Loc X.env.scope x)(r:RelV v u)
  (h:∀s',Inv X pins (σ.set i (some v)) H s'->(∃a,Heap.SameBut a s.heap s'.heap/\(a=X.env.locals\/X.env.cells.lookup x=some a))->Q () s') (hf:X.fn x=true\/X.env.scope.names.lookup x=some .local:=by first|exact .inl rfl|exact .inr rfl|assumption):wpAny M A (storeName X.env x u) Q E s:=by
 obtain⟨m,hn,hl⟩:=id I.loc;have hcls:(X.env.scope.kind==.class||(X.env.scope.kind==.module&&X.env.locals != X.env.globals))=false:=by rw[I.ok.kind];rfl
 have Vc:i < σ.length:=by rw[I.len];exact(List.getElem?_eq_some_iff.mp hi).1
 have cne:=I.cne;have tracked:∀{a:Addr} {h':Heap},(∃o,s.heap.get? a=some o/\H a=none)->Heap.SameBut a s.heap h'->lu X.prog X.w H h':=λ{a h'} ha hs b ob e=>by
  obtain⟨_,_,hfree⟩:=ha;refine(I.hok b ob e).stay (λc w' hc q=>(hs.2 c ?_).trans q) (λ_ q=>q) λ_ _ q=>q;rintro rfl
  rcases hc with rfl|hc
  ·rw[hfree] at e;cases e
  ·rw[hfree] at hc;cases hc
 rcases hx with hk|hk
 ·refine wpAny_storeName_local hk hn (λh' hn' hs=>?_) hcls
  obtain⟨oL,_,_,WI,_⟩:=id hn;refine h _ ⟨I.ok,I.os,I.bare,⟨λb o e n hb hx=>?_,λb o e n hb hx=>?_,I.base.free,λb o e hx=>?_,I.base.tups,I.base.frzs,I.base.sP⟩,⟨_,hn',λj y v' e1 e2 e3=>?_⟩,λy c e=>?_,I.free,I.jD,λp hp=>?_,tracked ⟨oL,WI,I.free⟩ hs,by simpa using I.len⟩ ⟨_,hs,.inl rfl⟩
  ·exact(hs.2 b (ne_of_lt (lt_of_lt_of_le (lt_size e) I.ok.above))).trans (I.base.keep b o e n hb hx)
  ·obtain⟨sl,e1⟩:=I.base.slot b o e n hb hx;exact⟨sl,(hs.2 b (ne_of_lt (lt_of_lt_of_le (lt_size e) I.ok.above))).trans e1⟩
  ·obtain⟨o',e1⟩:=I.base.there b o e hx;exact⟨o',(hs.2 b (ne_of_lt (lt_of_lt_of_le (lt_size e) I.ok.above))).trans e1⟩
  ·by_cases hj:j=i
   ·subst hj;rw[hi] at e1;cases e1;rw[getElem?_set_self Vc] at e2;cases e2;exact⟨u,r,.inl ⟨hk,by simp⟩⟩
   ·rw[getElem?_set_ne (Ne.symm hj)] at e2
    obtain⟨u',r',q⟩:=hl j y v' e1 e2 e3;refine⟨u',r',?_⟩
    rcases q with ⟨k,e⟩|⟨k,c,e,z⟩
    ·refine .inl ⟨k,?_⟩;have:y≠x:=λe=>hj (uz hN e1 (e▸hi));simp[this,e]
    ·exact .inr ⟨k,c,e,z.sameBut hs (cne y c e)⟩
  ·obtain⟨w',z⟩:=I.cell y c e;exact⟨w',z.sameBut hs (cne y c e)⟩
  ·obtain⟨e,n,ne,nf,d⟩:=I.pin p hp;exact⟨(hs.2 p.1 ne).trans e,n,ne,nf,d⟩
 ·have hfn:X.fn x=true:=by
   rcases hf with z|z
   ·exact z
   ·rw[z] at hk;cases hk
  obtain⟨c,hc⟩:=I.ok.has x (.inl hk);obtain⟨w',z⟩:=I.cell x c hc;refine wpAny_storeName_cell I.ok.kind hk hc z (λh' hc' hs=>?_);obtain⟨oc,hoc,Bk⟩:=id z;refine h { s with heap:=h' } ⟨I.ok,I.os,I.bare,⟨λb o e n hb hx=>?_,λb o e n hb hx=>?_,I.base.free,λb o e hx=>?_,I.base.tups,I.base.frzs,I.base.sP⟩,⟨m,hn.sameBut hs (Ne.symm (cne x c hc)),λj y v' e1 e2 e3=>?_⟩,λy c' e=>?_,I.free,I.jD,λp hp=>?_,tracked ⟨oc,hoc,I.jD x c hc⟩ hs,by simpa using I.len⟩ ⟨c,hs,.inr hc⟩
  ·exact(hs.2 b (ne_of_lt (lt_of_lt_of_le (lt_size e) (I.ok.MV x c hfn hc)))).trans (I.base.keep b o e n hb hx)
  ·obtain⟨sl,e1⟩:=I.base.slot b o e n hb hx;exact⟨sl,(hs.2 b (ne_of_lt (lt_of_lt_of_le (lt_size e) (I.ok.MV x c hfn hc)))).trans e1⟩
  ·obtain⟨o',e1⟩:=I.base.there b o e hx;exact⟨o',(hs.2 b (ne_of_lt (lt_of_lt_of_le (lt_size e) (I.ok.MV x c hfn hc)))).trans e1⟩
  ·by_cases hj:j=i
   ·subst hj;rw[hi] at e1;cases e1;rw[getElem?_set_self Vc] at e2;cases e2;exact⟨u,r,.inr ⟨.inl hk,c,hc,hc'⟩⟩
   ·rw[getElem?_set_ne (Ne.symm hj)] at e2
    obtain⟨u',r',q⟩:=hl j y v' e1 e2 e3;refine⟨u',r',?_⟩
    rcases q with q|⟨k,c',e,z'⟩
    ·exact .inl q
    ·refine .inr ⟨k,c',e,z'.sameBut hs ?_⟩;rintro rfl;exact hj (uz hN e1 (I.ok.inj _ _ _ e hc▸hi))
  ·by_cases hcc:c'=c
   ·subst hcc;exact⟨_,hc'⟩
   ·obtain⟨w2,z2⟩:=I.cell y c' e;exact⟨w2,z2.sameBut hs hcc⟩
  ·obtain⟨e,n,ne,nf,d⟩:=I.pin p hp;refine⟨(hs.2 p.1 ?_).trans e,n,ne,nf,d⟩;intro q;rw[q,hoc] at e;have q':oc=p.2:=Option.some.inj e;exact d w' (by rw[<-q'];exact Bk)
theorem oY{i:Nat}(I:Inv X pins σ H s)(hN:X.N.Nodup)(hi:X.N[i]?=some x)(hx:Loc X.env.scope x)(r:RelV v u)
  (h:∀s',Inv X pins (σ.set i (some v)) H s'->Q () s') (hf:X.fn x=true\/X.env.scope.names.lookup x=some .local:=by first|exact .inl rfl|exact .inr rfl|assumption):wpAny M A (storeName X.env x u) Q E s :=
 rD I hN hi hx r (λs' I' _=>h s' I') hf
theorem Inv.MZ(I:Inv X pins σ H s)(ho:s'.os=s.os)(u:Un (frs X.stack) ch H H' s.heap s'.heap)(hok:lu X.prog X.w H' s'.heap)(hg:AllBare s'.gens)
  (hch:∀b∈ch,(b∈X.ex\/X.s₀.heap.objs.size<=b)/\b≠X.env.locals/\(∀x c,X.env.cells.lookup x=some c->c≠b)/\∀p∈X.pn++pins,p.1≠b):Inv X pins σ H' s':=by
 obtain⟨h',g',d',t',o'⟩:=s';have e:o'=s.os:=ho;subst e;exact I.call (g':=g') (t':=t') (d':=d') u hok hg hch
end
noncomputable abbrev XK:=Value->Option Addr->Hp->Prop
noncomputable abbrev St:=List (Option V)
noncomputable abbrev VK:=V->Hp->Prop
noncomputable abbrev TE:=St->Hp->VK->Prop
noncomputable abbrev TT:=St->Hp->(Bool->Hp->Prop)->Prop
noncomputable abbrev TA:=St->Hp->(List V->Hp->Prop)->Prop
structure Ends where
 nx:St->Hp->Prop
 rt:VK
 bk:St->Hp->Prop:=λ_ _=>False
 ct:St->Hp->Prop:=λ_ _=>False
noncomputable abbrev TS:=Ends->St->Hp->Prop
noncomputable def EP(X:Cx)(pins:List (Addr×Obj))(σ:St)(Q:VK)(u:Value)(s':Shared):Prop:=∃v H',Inv X pins σ H' s'/\RelV v u/\Q v H'
noncomputable def TP(X:Cx)(pins:List (Addr×Obj))(σ:St)(Q:Bool->Hp->Prop)(b:Bool)(s':Shared):Prop:=∃H',Inv X pins σ H' s'/\Q b H'
noncomputable def AP(X:Cx)(pins:List (Addr×Obj))(σ:St)(Q:List V->Hp->Prop)(us:List Value)(s':Shared):Prop:=∃vs H',Inv X pins σ H' s'/\Vals vs us/\Q vs H'
noncomputable def SP(X:Cx)(pins:List (Addr×Obj))(D:Ends)(f:Flow)(s':Shared):Prop :=
 match f with
 | .next=>∃σ' H',Inv X pins σ' H' s'/\D.nx σ' H'
 | .brk=>∃σ' H',Inv X pins σ' H' s'/\D.bk σ' H'
 | .cont=>∃σ' H',Inv X pins σ' H' s'/\D.ct σ' H'
 | .ret u=>∃v σ' H',Inv X pins σ' H' s'/\RelV v u/\D.rt v H'
noncomputable def PE(X:Cx)(e:Expr)(t:TE):Prop :=
 ∀(pins:List (Addr×Obj)) (s:Shared) (σ:St) (H:Hp) (Q:VK),Inv X pins σ H s->t σ H Q->wpAny (model X.prog X.w) X.A (eval e X.env) (EP X pins σ Q) X.xe s
noncomputable def PT(X:Cx)(e:Expr)(t:TT):Prop :=
 ∀(pins:List (Addr×Obj)) (s:Shared) (σ:St) (H:Hp) (Q:Bool->Hp->Prop),Inv X pins σ H s->t σ H Q->wpAny (model X.prog X.w) X.A (isTrue e X.env (eval e X.env)) (TP X pins σ Q) X.xe s
noncomputable def PW(X:Cx)(e:Expr)(t:TT):Prop :=
 ∀(whole:Sem Value) (pins:List (Addr×Obj)) (s:Shared) (σ:St) (H:Hp) (Q:Bool->Hp->Prop),Inv X pins σ H s->t σ H Q->wpAny (model X.prog X.w) X.A (isTrue e X.env whole) (TP X pins σ Q) X.xe s
theorem PW.pt(h:PW X e t):PT X e t:=h _
noncomputable def PA(X:Cx)(es:List Expr)(t:TA):Prop :=
 ∀(pos:Pos) (pins:List (Addr×Obj)) (s:Shared) (σ:St) (H:Hp) (Q:List V->Hp->Prop),Inv X pins σ H s->t σ H Q->wpAny (model X.prog X.w) X.A (spliced (backTo pos (starEach es X.env))) (AP X pins σ Q) X.xe s
noncomputable def PS(X:Cx)(st:Stmt)(t:TS):Prop :=
 ∀(pins:List (Addr×Obj)) (s:Shared) (σ:St) (H:Hp) (D:Ends),Inv X pins σ H s->t D σ H->wpAny (model X.prog X.w) X.A (exec st X.env) (SP X pins D) X.xe s
noncomputable def wN(X:Cx)(st:List Stmt)(t:TS):Prop :=
 ∀(pins:List (Addr×Obj)) (s:Shared) (σ:St) (H:Hp) (D:Ends),Inv X pins σ H s->t D σ H->wpAny (model X.prog X.w) X.A (execs st X.env) (SP X pins D) X.xe s
theorem cG{α:Type}{t:Sem α}{Q Q':α -> Shared->Prop}(h:wpAny M A t Q E s)(hQ:∀a s,Q a s->Q' a s):wpAny M A t Q' E s:=wpAny_mono h hQ λ_ _ x=>x
end L2
namespace L2
open PySem PySem.Spec PyProof.Rows
section
variable {X:Cx}
theorem bin{a b:Expr}{ta tb:TE}(ha:PE X a ta)(hb:PE X b tb){pins:List (Addr×Obj)}{s:Shared}{σ:St}{H:Hp}{R:V->V->Hp->Prop}(I:Inv X pins σ H s)(h:ta σ H λx H1=>tb σ H1 λy H2=>R x y H2)
  {α:Type} {Q:α -> Shared->Prop} {f:Value->Value->Sem α}
  (hf:∀v u s2 x y H2,Inv X pins σ H2 s2->RelV x v->RelV y u->R x y H2->wpAny (model X.prog X.w) X.A (f v u) Q X.xe s2) :
  wpAny (model X.prog X.w) X.A (eval a X.env) (λv s₁=>wpAny (model X.prog X.w) X.A (eval b X.env) (λu s₂=>wpAny (model X.prog X.w) X.A (f v u) Q X.xe s₂) X.xe s₁) X.xe s:=by
 refine cG (ha pins s σ H _ I h) λv s1 aE=>?_;obtain⟨x,H1,I1,r1,q1⟩:=aE;refine cG (hb pins s1 σ H1 _ I1 q1) λu s2 aE=>?_;obtain⟨y,H2,I2,r2,q2⟩:=aE;exact hf v u s2 x y H2 I2 r1 r2 q2
noncomputable def QU(i:Nat):TE:=λσ H Q=>∃v,σ[i]?=some (some v)/\Q v H
noncomputable def tC(v:V):TE:=λ_ H Q=>Q v H
theorem Ja{i:Nat}(hN:X.N[i]?=some x)(hv:MU X.env.scope x)(hd:(x==("__debug__":Str))=false:=by decide)(hcd:(x==("__classdict__":Str))=false:=by decide):PE X (.Name x pos) (QU i):=by
 intro pins s σ H Q I h;obtain⟨v,e,h⟩:=h;obtain⟨m,hn,hl⟩:=I.loc;obtain⟨u,r,l⟩:=hl i x v hN e hv;have fin:EP X pins σ Q u s:=⟨v,H,I,r,h⟩
 rcases l with ⟨hk,hm⟩|⟨hk,c,hc,hcell⟩
 ·exact wpAny_Name (wpAny_loadName_local I.ok.kind hk hn hm fin) hd
 ·rcases hk with hk|hk
  ·exact wpAny_Name (wpAny_loadName_cell I.ok.kind hk hc hcell fin) hd
  ·exact wpAny_Name (wpAny_loadName_free I.ok.kind hk hc hcell fin hcd) hd
theorem Jb{i j pos}:PE X (.Constant (.int i) j pos) (tC (.int i)):=λ_ _ _ H _ I h=>wpAny_Constant_int ⟨.int i,H,I.tok _,⟨_,rfl⟩,h⟩
theorem M0{b j pos}:PE X (.Constant (.bool b) j pos) (tC (.bl b)):=λ_ _ _ H _ I h=>Constant_bool ⟨.bl b,H,I,rfl,h⟩
theorem Jc{j pos}:PE X (.Constant .none j pos) (tC .non):=λ_ _ _ H _ I h=>Constant_none ⟨.non,H,I,rfl,h⟩
theorem Jd{x j pos}:PE X (.Constant (.str x) j pos) (tC (.str x)):=λ_ _ _ H _ I h=>Calls.Constant_str ⟨.str x,H,I.tok _,⟨_,rfl⟩,h⟩
noncomputable def Gl(X:Cx)(x:Str):Prop:=X.env.kindOf x=some .globalImplicit
theorem kC(I:Inv X pins σ H s)(hg:Gl X x)(hm:X.mg x=some u)(h:Q u s)
  (hd:(x==("__debug__":Str))=false:=by decide):wpAny (model X.prog X.w) X.A (eval (.Name x pos) X.env) Q E s :=
 Calls.Name_function_global I.ok.kind hg (Calls.loadGlobal_global (by rw[I.ok.glob];exact I.mod.glob.keeps I.bk) hm h) hd
theorem iB(I:Inv X pins σ H s)(hg:Gl X x)(hm:X.mg x=none)(hv:bootBuiltins x=some u)(h:Q u s)
  (hn:x ≠ "__name__":=by decide) (hd:(x==("__debug__":Str))=false:=by decide):wpAny (model X.prog X.w) X.A (eval (.Name x pos) X.env) Q E s:=by
 obtain⟨mb,h1,h2⟩:=I.mod.blt;exact Calls.Name_function_global I.ok.kind hg (Calls.loadGlobal_builtin (by rw[I.ok.glob];exact I.mod.glob.keeps I.bk) hm (by rw[I.ok.blt];exact h1.keeps I.bk) ((h2 x hn).trans hv) h) hd
theorem yq(hg:Gl X x)(hm:X.mg x=some u)(r:RelV v u)(hd:(x==("__debug__":Str))=false:=by decide):PE X (.Name x pos) (tC v) :=
 λ_ _ _ H _ I h=>kC I hg hm ⟨v,H,I,r,h⟩ hd
theorem Ex(hg:Gl X x)(hm:X.mg x=none)(hv:bootBuiltins x=some u)(r:RelV v u)(hn:x ≠ "__name__":=by decide)(hd:(x==("__debug__":Str))=false:=by decide):PE X (.Name x pos) (tC v) :=
 λ_ _ _ H _ I h=>iB I hg hm hv ⟨v,H,I,r,h⟩ hn hd
variable {a b:Expr} {ta tb:TE} {pos:Pos}
variable {tA Ql:TT} {rest:List Expr}
noncomputable def QV(t u:TT):TT:=λσ H Q=>t σ H λc H1=>if c=true then u σ H1 Q else Q false H1
noncomputable def WJ(t u:TT):TT:=λσ H Q=>t σ H λc H1=>if c=true then Q true H1 else u σ H1 Q
noncomputable def QW(t:TT):TT:=λσ H Q=>t σ H λc H1=>Q (!c) H1
theorem Ey(ha:PT X a tA):PW X (.BoolOp .And [a] pos) tA:=by
 intro wh pins s σ H Q I h;refine isTrue_and (cG (ha pins s σ H Q I h) λc s1 e=>?_);cases c with
 | true=>exact isTrue_and_nil e
 | false=>exact e
theorem Je(ha:PT X a tA):PW X (.BoolOp .Or [a] pos) tA:=by
 intro wh pins s σ H Q I h;refine isTrue_or (cG (ha pins s σ H Q I h) λc s1 e=>?_);cases c with
 | false=>exact isTrue_or_nil e
 | true=>exact e
theorem Jf(ha:PT X a tA)(hb:PW X (.BoolOp .And (b::rest) pos) Ql):PW X (.BoolOp .And (a::b::rest) pos) (QV tA Ql):=by
 intro wh pins s σ H Q I h;refine isTrue_and (cG (ha pins s σ H _ I h) λc s1 aE=>?_);obtain⟨H1,I1,q1⟩:=aE;cases c with
 | true=>exact hb wh pins s1 σ H1 Q I1 q1
 | false=>exact⟨H1,I1,q1⟩
theorem M1(ha:PT X a tA)(hb:PW X (.BoolOp .Or (b::rest) pos) Ql):PW X (.BoolOp .Or (a::b::rest) pos) (WJ tA Ql):=by
 intro wh pins s σ H Q I h;refine isTrue_or (cG (ha pins s σ H _ I h) λc s1 aE=>?_);obtain⟨H1,I1,q1⟩:=aE;cases c with
 | true=>exact⟨H1,I1,q1⟩
 | false=>exact hb wh pins s1 σ H1 Q I1 q1
theorem Jg(ha:PT X a tA):PT X (.UnaryOp .Not a pos) (QW tA):=by
 intro pins s σ H Q I h;exact isTrue_not (ha pins s σ H (λc H1=>Q (!c) H1) I h)
noncomputable def M3(ta tb:TE):TE:=λσ H Q=>ta σ H λx H1=>∃c,x=.bl c/\if c=true then tb σ H1 Q else Q (.bl false) H1
noncomputable def QX(ta tb:TE):TE:=λσ H Q=>ta σ H λx H1=>∃c,x=.bl c/\if c=true then Q (.bl true) H1 else tb σ H1 Q
noncomputable def M4(ta:TE):TE:=λσ H Q=>ta σ H λx H1=>∃c,x=.bl c/\Q (.bl (!c)) H1
theorem Bm{op}(h:PE X a t):PE X (.BoolOp op [a] pos) t:=λpins s σ H Q I hw=>BoolOp_one (h pins s σ H Q I hw)
theorem Jh(ha:PE X a ta)(hb:PE X (.BoolOp .And (b::rest) pos) tb):PE X (.BoolOp .And (a::b::rest) pos) (M3 ta tb):=by
 intro pins s σ H Q I h;refine BoolOp_and (cG (ha pins s σ H _ I h) λv s1 aE=>?_);obtain⟨x,H1,I1,r1,q1⟩:=aE;obtain⟨c,rfl,q1⟩:=q1;cases r1;refine wpAny_truthy_bool ?_;cases c with
 | true=>exact hb pins s1 σ H1 Q I1 q1
 | false=>exact⟨.bl false,H1,I1,rfl,q1⟩
theorem M5(ha:PE X a ta)(hb:PE X (.BoolOp .Or (b::rest) pos) tb):PE X (.BoolOp .Or (a::b::rest) pos) (QX ta tb):=by
 intro pins s σ H Q I h;refine BoolOp_or (cG (ha pins s σ H _ I h) λv s1 aE=>?_);obtain⟨x,H1,I1,r1,q1⟩:=aE;obtain⟨c,rfl,q1⟩:=q1;cases r1;refine wpAny_truthy_bool ?_;cases c with
 | false=>exact hb pins s1 σ H1 Q I1 q1
 | true=>exact⟨.bl true,H1,I1,rfl,q1⟩
theorem Ji(ha:PE X a ta):PE X (.UnaryOp .Not a pos) (M4 ta):=by
 intro pins s σ H Q I h;refine UnaryOp_ (cG (ha pins s σ H _ I h) λv s1 aE=>?_);obtain⟨x,H1,I1,r1,q1⟩:=aE;obtain⟨c,rfl,q1⟩:=q1;cases r1;exact not_of (wpAny_truthy_bool ⟨.bl (!c),H1,I1,rfl,q1⟩)
end
end L2
namespace L2
open PySem PySem.Spec PyProof.Rows
noncomputable def iu(K:PySem.W.Frag)(H:Hp)(a:Addr)(xs:List V):Prop :=
 Rd H a (.lst xs) \/
  ∃(o:Obj) (its:Array Value) (n:Nat),K.lookup a=some o/\o.cls=.type "list" /\ o.dict=none/\o.data=.seq its n/\its.size<=sizeLine/\Vals xs its.toList
noncomputable def jF(K:PySem.W.Frag)(H:Hp)(a:Addr)(xs:List V):Prop :=
 Rd H a (.tup xs) \/
  ∃(o:Obj) (its:Array Value) (n:Nat),K.lookup a=some o/\o.cls=.type "tuple" /\ o.data=.seq its n/\its.size<=sizeLine/\Vals xs its.toList
noncomputable def QY:Value->Option V
 | .none=>some .non
 | .bool b=>some (.bl b)
 | .int i _=>some (.int i)
 | .str x _=>some (.str x)
 | .bytes b _=>some (.byt b)
 | .float b _=>some (.flt b)
 | .ref a=>some (.ref a)
 | .type n=>some (.ty n)
 | _=>none
theorem RelV.abs(r:RelV x u):QY u=some x:=by
 cases x with
 | non=>cases r;rfl
 | bl _=>cases r;rfl
 | int _=>obtain⟨t,rfl⟩:=r;rfl
 | str _=>obtain⟨t,rfl⟩:=r;rfl
 | byt _=>obtain⟨t,rfl⟩:=r;rfl
 | flt _=>obtain⟨t,rfl⟩:=r;rfl
 | ref _=>cases r;rfl
 | ty _=>cases r;rfl
theorem RelV.inj(r:RelV x u)(q:RelV y u):x=y:=Option.some.inj (r.abs.symm.trans q.abs)
theorem Vals.inj:∀{xs ys:List V} {us:List Value},Vals xs us->Vals ys us->xs=ys
 | _,_,_,.nil,.nil=>rfl
 | _,_,_,.cons r t,.cons r' t'=>by rw[r.inj r',Vals.inj t t']
section
variable {X:Cx} {pins:List (Addr×Obj)} {σ:St} {H:Hp} {s:Shared} {a:Addr} {xs ys:List V}
theorem jF.of{K:PySem.W.Frag}(h:H a=some (.tup xs)):jF K H a xs:=.inl (.inl h)
theorem Inv.list(I:Inv X pins σ H s)(h:iu X.K H a xs):∃its:List Value,Vals xs its/\PlainL s.heap a its.toArray/\xs.length<=sizeLine:=by
 rcases h with h|⟨o,its,n,hk,hc,hd,hs,hz,r⟩
 ·obtain⟨z,its,n,r,e⟩:=h.ok I.hok;exact⟨its,r,⟨_,n,e,rfl,rfl,rfl⟩,z⟩
 ·refine⟨its.toList,r,⟨o,n,I.jE a o hk,hc,hd,by simpa using hs⟩,?_⟩;have e:=r.length;simp only[length_toList] at e;omega
theorem Inv.tuple(I:Inv X pins σ H s)(h:jF X.K H a xs):∃its:List Value,Vals xs its/\IsTup s.heap a its.toArray/\xs.length<=sizeLine:=by
 rcases h with h|⟨o,its,n,hk,hc,hs,hz,r⟩
 ·obtain⟨z,its,r,p⟩:=h.ok I.hok;exact⟨its,r,p,z⟩
 ·refine⟨its.toList,r,⟨o,I.jE a o hk,hc,n,by simpa using hs⟩,?_⟩;have e:=r.length;simp only[length_toList] at e;omega
theorem Inv.uA(I:Inv X pins σ H s)(h:iu X.K H a xs)(h':iu X.K H a ys):xs=ys:=by
 obtain⟨its,r,⟨o,n,e,_,_,d⟩,_⟩:=I.list h;obtain⟨its',r',⟨o',n',e',_,_,d'⟩,_⟩:=I.list h';rw[e] at e';cases e';rw[d] at d';injection d' with d1 _
 have:its=its':=by simpa using congrArg toList d1
 subst this;exact r.inj r'
theorem Inv.zO(I:Inv X pins σ H s)(h:jF X.K H a xs)(h':jF X.K H a ys):xs=ys:=by
 obtain⟨its,r,⟨o,e,_,n,d⟩,_⟩:=I.tuple h;obtain⟨its',r',⟨o',e',_,n',d'⟩,_⟩:=I.tuple h';rw[e] at e';cases e';rw[d] at d';injection d' with d1 _
 have:its=its':=by simpa using congrArg toList d1
 subst this;exact r.inj r'
end
noncomputable abbrev Cx.qP(X:Cx)(E:Value->Shared->Prop):Cx:={ X with xe:=E }
noncomputable abbrev Cx.M6(X:Cx):Cx:=X.qP λ_ _=>False
theorem Cx.Ok.qP{X:Cx}(ok:X.Ok)(E:Value->Shared->Prop):(X.qP E).Ok :=
 ⟨ok.mod,ok.kind,ok.glob,ok.blt,ok.above,ok.inj,ok.has,ok.MV,ok.hd,ok.frames,ok.stk,ok.QN,ok.bs,ok.HJ,ok.ly,ok.Bj,ok.oj,ok.I0⟩
theorem Cx.Ok.jS{X:Cx}{E:Value->Shared->Prop}(ok:(X.qP E).Ok):X.Ok :=
 ⟨ok.mod,ok.kind,ok.glob,ok.blt,ok.above,ok.inj,ok.has,ok.MV,ok.hd,ok.frames,ok.stk,ok.QN,ok.bs,ok.HJ,ok.ly,ok.Bj,ok.oj,ok.I0⟩
section
variable {X:Cx} {pins:List (Addr×Obj)} {σ:St} {H:Hp} {s:Shared} {E:Value->Shared->Prop}
theorem Inv.qP(I:Inv X pins σ H s)(E:Value->Shared->Prop):Inv (X.qP E) pins σ H s:=⟨I.ok.qP E,I.os,I.bare,I.base,I.loc,I.cell,I.free,I.jD,I.pin,I.hok,I.len⟩
theorem Inv.jS(I:Inv (X.qP E) pins σ H s):Inv X pins σ H s:=⟨I.ok.jS,I.os,I.bare,I.base,I.loc,I.cell,I.free,I.jD,I.pin,I.hok,I.len⟩
theorem SP.jS(h:SP (X.qP E) pins D f s'):SP X pins D f s':=by
 cases f with
 | next=>obtain⟨σ',H',I,q⟩:=h;exact⟨σ',H',I.jS,q⟩
 | brk=>obtain⟨σ',H',I,q⟩:=h;exact⟨σ',H',I.jS,q⟩
 | cont=>obtain⟨σ',H',I,q⟩:=h;exact⟨σ',H',I.jS,q⟩
 | ret u=>obtain⟨v,σ',H',I,r,q⟩:=h;exact⟨v,σ',H',I.jS,r,q⟩
theorem wN.M6{st:List Stmt}{t:TS}(h:wN X.M6 st t):wN X st t:=λpins s σ H D I hw =>
 wpAny_mono (h pins s σ H D (I.qP _) hw) (λ_ _ q=>q.jS) λ_ _ z=>False.elim z
end
section
variable {X:Cx} {st:Stmt} {rest:List Stmt} {t u:TS} {e:Expr} {te:TE} {pos:Pos}
noncomputable def Bo:TS:=λD σ H=>D.nx σ H
noncomputable def QZ(t u:TS):TS:=λD σ H=>t { D with nx:=u D } σ H
theorem Ez:wN X [] Bo:=λ_ _ σ H _ I h=>wpAny_execs_nil ⟨σ,H,I,h⟩
theorem Bp(h1:PS X st t)(h2:wN X rest u):wN X (st::rest) (QZ t u):=by
 intro pins s σ H D I h;refine wpAny_execs_cons (cG (h1 pins s σ H { D with nx:=u D } I h) λf s1 q=>?_);cases f with
 | next =>obtain⟨σ',H',I',q⟩:=q;exact h2 pins s1 σ' H' D I' q
 | ret v=>exact q
 | brk=>exact q
 | cont=>exact q
noncomputable def Jj:TS:=λD σ H=>D.bk σ H
noncomputable def M7:TS:=λD σ H=>D.ct σ H
theorem EA:PS X (.Pass pos) Bo:=λ_ _ σ H _ I h=>wpAny_Pass ⟨σ,H,I,h⟩
theorem Bq:PS X (.Break pos) Jj:=λ_ _ σ H _ I h=>wpAny_Break ⟨σ,H,I,h⟩
theorem uB:PS X (.Continue pos) M7:=λ_ _ σ H _ I h=>wpAny_Continue ⟨σ,H,I,h⟩
theorem Inv.quiet(I:Inv X pins σ H s):interactive X.env=false:=by simp[interactive,I.ok.kind]
theorem Jk{x j pos pos'}:PS X (.Expr (.Constant (.str x) j pos) pos') Bo:=λ_ s σ H _ I h=>wpAny_Expr (Calls.Constant_str (show SP X _ _ .next { s with toks:=s.toks+1 } from⟨σ,H,I.tok _,h⟩)) I.quiet
noncomputable def M8(te:TE):TS:=λD σ H=>te σ H λ_ H1=>D.nx σ H1
theorem EB(he:PE X e te)(hs:swapsWith e none pos.line X.env=pure false:=by rfl):PS X (.Expr e pos) (M8 te):=by
 intro pins s σ H D I h;exact wpAny_Expr_any (cG (he pins s σ H _ I h) λv s1 ⟨x,H1,I1,r1,q1⟩=>⟨σ,H1,I1,q1⟩) I.quiet hs
noncomputable def Ra(te:TE):TS:=λD σ H=>te σ H D.rt
theorem Jl(he:PE X e te):PS X (.Return (some e) pos) (Ra te):=by
 intro pins s σ H D I h;exact wpAny_Return_some (cG (he pins s σ H _ I h) λv s1 ⟨x,H1,I1,r1,q1⟩=>⟨x,σ,H1,I1,r1,q1⟩)
noncomputable def M9:TS:=λD _ H=>D.rt .non H
theorem EC:PS X (.Return none pos) M9:=λ_ _ σ H _ I h=>wpAny_Return_none ⟨.non,σ,H,I,rfl,h⟩
noncomputable def Rb(c:TT)(t u:TS):TS:=λD σ H=>c σ H λb H1=>if b=true then t D σ H1 else u D σ H1
theorem Na(hc:PT X c tc)(ha:wN X a t)(hb:wN X b u):PS X (.If c a b pos) (Rb tc t u):=by
 intro pins s σ H D I h;refine wpAny_If (cG (hc pins s σ H _ I h) λd s1 aE=>?_);obtain⟨H1,I1,q1⟩:=aE;cases d with
 | true=>exact ha pins s1 σ H1 D I1 q1
 | false=>exact hb pins s1 σ H1 D I1 q1
noncomputable def Jm:TS:=λ_ _ _=>False
theorem oZ:PS X st Jm:=λ_ _ _ _ _ _ h=>h.elim
end
noncomputable abbrev TG:=V->St->Hp->(St->Hp->Prop)->Prop
noncomputable abbrev MF:=List V->St->Hp->(St->Hp->Prop)->Prop
noncomputable def PG(X:Cx)(target:Expr)(t:TG):Prop :=
 ∀(pins:List (Addr×Obj)) (s:Shared) (σ:St) (H:Hp) (v:V) (u:Value) (Q:St->Hp->Prop),Inv X pins σ H s->RelV v u->t v σ H Q ->
  wpAny (model X.prog X.w) X.A (assign target X.env u) (λ_ s'=>∃σ' H',Inv X pins σ' H' s'/\Q σ' H') X.xe s
noncomputable def MG(X:Cx)(ts:List Expr)(t:MF):Prop :=
 ∀(pins:List (Addr×Obj)) (s:Shared) (σ:St) (H:Hp) (vs:List V) (us:List Value) (Q:St->Hp->Prop),Inv X pins σ H s->Vals vs us->t vs σ H Q ->
  wpAny (model X.prog X.w) X.A (assignInOrder ((assignEach ts X.env).map (·.2)) us) (λ_ s'=>∃σ' H',Inv X pins σ' H' s'/\Q σ' H') X.xe s
noncomputable abbrev Jo:=V->V->V->Hp->(Hp->Prop)->Prop
noncomputable def Jp(X:Cx)(t:Jo):Prop :=
 ∀(pins:List (Addr×Obj)) (s:Shared) (σ:St) (H:Hp) (o i v:V) (ov iv u:Value) (Q:Hp->Prop),Inv X pins σ H s->RelV o ov->RelV i iv->RelV v u->t o i v H Q ->
  wpAny (model X.prog X.w) X.A (setItem ov iv u) (λ_ s'=>∃H',Inv X pins σ H' s'/\Q H') X.xe s
noncomputable abbrev Vd:=V->V->Hp->VK->Prop
noncomputable def WK(X:Cx)(op:Operator)(t:Vd):Prop :=
 ∀(pins:List (Addr×Obj)) (s:Shared) (σ:St) (H:Hp) (x y:V) (v u:Value) (Q:VK),Inv X pins σ H s->RelV x v->RelV y u->t x y H Q ->
  wpAny (model X.prog X.w) X.A (inplaceOp op v u) (EP X pins σ Q) X.xe s
section
variable {X:Cx} {pos:Pos}
noncomputable def rE(i:Nat):TG:=λv σ H Q=>Q (σ.set i (some v)) H
theorem oF{i:Nat}(hN:X.N.Nodup)(hi:X.N[i]?=some x)(hx:Loc X.env.scope x)(hf:X.fn x=true\/X.env.scope.names.lookup x=some .local:=by first|exact .inl rfl|exact .inr rfl|assumption):PG X (.Name x pos) (rE i):=by
 intro pins s σ H v u Q I r h;exact wpAny_assign_Name (oY I hN hi hx r (λs' I'=>⟨_,H,I',h⟩) hf)
noncomputable def Nb:MF:=λvs σ H Q=>vs=[]/\Q σ H
noncomputable def HK(t:TG)(u:MF):MF:=λvs σ H Q=>∃v r,vs=v::r/\t v σ H λσ' H'=>u r σ' H' Q
theorem yr:MG X [] Nb:=by
 intro pins s σ H vs us Q I r h;obtain⟨e,h⟩:=h;subst e;cases r;exact assignInOrder_nil ⟨σ,H,I,h⟩
theorem uC(h1:PG X e t)(h2:MG X es u)
  (hs:(assignEach (e::es) X.env).map (·.2)=assign e X.env::(assignEach es X.env).map (·.2):=by rfl):MG X (e::es) (HK t u):=by
 intro pins s σ H vs us Q I r h;obtain⟨v,vr,e1,h⟩:=h;subst e1;cases r with
 | cons r rr =>rw[hs];refine assignInOrder_cons (cG (h1 pins s σ H _ _ _ I r h) λ_ s1 aE=>?_);obtain⟨σ1,H1,I1,q1⟩:=aE;exact h2 pins s1 σ1 H1 _ _ Q I1 rr q1
noncomputable def Nc(K:PySem.W.Frag)(n:Nat)(t:MF):TG:=λv σ H Q=>∃a xs,v=.ref a/\jF K H a xs/\xs.length=n/\t xs σ H Q
theorem Br{k:Nat}{n:Nat}(hc:X.calm=true)(h:MG X es t)
  (hn:(assignEach es X.env).length=n:=by rfl) (hst:(assignEach es X.env).findIdx? (·.1)=none:=by rfl):PG X (.Tuple es k pos) (Nc X.K n t):=by
 intro pins s σ H v u Q I r hw;obtain⟨a,xs,e1,hq,hl,hw⟩:=hw;subst e1;cases r;obtain⟨its,rv,ht,hz⟩:=I.tuple hq;refine assign_Tuple_tuple (I.ok.hd hc) ht (by simp[hn,<-hl,rv.length]) hst λh' hx=>?_;have I1:Inv X pins σ H { s with heap:=h' }:=I.kept (t':=s.toks) λb o e=>hx b o (ne_of_lt (lt_size e)) e;exact h pins _ σ H xs _ Q I1 (by simpa using rv) hw
noncomputable def Nd(to ti:TE)(t:Jo):TG:=λv σ H Q=>to σ H λo H1=>ti σ H1 λi H2=>t o i v H2 λH3=>Q σ H3
theorem Jq(ho:PE X o to)(hi:PE X i ti)(hs:Jp X t)
  (ha:∀v,assign (.Subscript o i pos) X.env v=(do
   let ov <-holding [v] (eval o X.env)
   let iv <-holding [v,ov] (eval i X.env)
   standAt pos
   holding [v,ov,iv] (setItem ov iv v)
   release [v,ov,iv] []):=by intro _;rfl):PG X (.Subscript o i pos) (Nd to ti t):=by
 intro pins s σ H v u Q I r h;rw[ha];refine wpAny_bind (wpAny_holding (cG (ho pins s σ H _ I h) λov s1 aE=>?_));obtain⟨x,H1,I1,r1,q1⟩:=aE;refine wpAny_bind (wpAny_holding (cG (hi pins s1 σ H1 _ I1 q1) λiv s2 aE=>?_));obtain⟨y,H2,I2,r2,q2⟩:=aE;refine wpAny_bind (wpAny_standAt (wpAny_bind (wpAny_holding (cG (hs pins s2 σ H2 x y v ov iv u _ I2 r1 r2 r q2) λ_ s3 aE=>?_))));obtain⟨H3,I3,q3⟩:=aE;exact wpAny_release ⟨σ,H3,I3,q3⟩
noncomputable def ED(te:TE)(g:TG):TS:=λD σ H=>te σ H λx H1=>g x σ H1 D.nx
theorem Bs(he:PE X e te)(hg:PG X tg g)(hs:swapsWithSole [tg] e pos.line X.env=pure false:=by rfl)(hw:swappedStores [tg] e X.env=pure none:=by rfl)
  (h1:(assignEach [tg] X.env).map (·.2)=[assign tg X.env]:=by rfl):PS X (.Assign [tg] e pos) (ED te g):=by
 intro pins s σ H D I h;refine wpAny_Assign_stores (cG (he pins s σ H _ I h) λv s1 ⟨x,H1,I1,r1,q1⟩=>?_) hs hw;rw[h1];exact cG (hg pins s1 σ H1 x v _ I1 r1 q1) λ_ s2 q=>q
theorem Bt{i:Nat}(hN:X.N.Nodup)(hi:X.N[i]?=some x)(hx:Loc X.env.scope x)(he:PE X e te)(hs:swapsWith e (some (.Name x pos')) pos.line X.env=pure false:=by rfl)(hf:X.fn x=true\/X.env.scope.names.lookup x=some .local:=by first|exact .inl rfl|exact .inr rfl|assumption) :
  PS X (.Assign [.Name x pos'] e pos) (ED te (rE i)):=by
 intro pins s σ H D I h;refine wpAny_Assign_Name (cG (he pins s σ H _ I h) λv s1 ⟨y,H1,I1,r1,q1⟩=>?_) hs;exact oY I1 hN hi hx r1 (λs2 I2=>⟨_,H1,I2,q1⟩) hf
noncomputable def Rc(i:Nat)(te:TE)(ti:Vd):TS:=λD σ H=>∃x,σ[i]?=some (some x)/\te σ H λy H1=>ti x y H1 λz H2=>D.nx (σ.set i (some z)) H2
theorem Jr{i:Nat}(hN:X.N.Nodup)(hi:X.N[i]?=some x)(hx:Loc X.env.scope x)(he:PE X e te)(ho:WK X op ti)(hf:X.fn x=true\/X.env.scope.names.lookup x=some .local:=by first|exact .inl rfl|exact .inr rfl|assumption) :
  PS X (.AugAssign (.Name x pos') op e pos) (Rc i te ti):=by
 intro pins s σ H D I h;obtain⟨v,e1,h⟩:=h;obtain⟨m,hn,hl⟩:=I.loc;have vis:MU X.env.scope x:=by rcases hx with k|k;exact .inl k;exact .inr (.inl k)
 obtain⟨u,r,l⟩:=hl i x v hi e1 vis;refine wpAny_AugAssign_Name ?_;have go:wpAny (model X.prog X.w) X.A (eval e X.env) (λw s₂=>wpAny (model X.prog X.w) X.A (inplaceOp op u w) (λr s₃=>wpAny (model X.prog X.w) X.A (storeName X.env x r) (λ_=>SP X pins D .next) X.xe s₃) X.xe s₂) X.xe s:=by refine cG (he pins s σ H _ I h) λw s1 aE=>?_;obtain⟨y,H1,I1,r1,q1⟩:=aE;refine cG (ho pins s1 σ H1 v y u w _ I1 r r1 q1) λz s2 aE=>?_;obtain⟨zv,H2,I2,r2,q2⟩:=aE;exact oY I2 hN hi hx r2 (λs3 I3=>⟨_,H2,I3,q2⟩) hf
 rcases l with ⟨hk,hm⟩|⟨hk,c,hc,hcell⟩
 ·exact wpAny_loadName_local I.ok.kind hk hn hm go
 ·rcases hk with hk|hk
  ·exact wpAny_loadName_cell I.ok.kind hk hc hcell go
  ·rcases hx with k|k
   ·have:X.env.scope.names.lookup x=some .free:=hk;rw[k] at this;cases this
   ·have:X.env.scope.names.lookup x=some .free:=hk;rw[k] at this;cases this
end
section
variable {X:Cx} {pos:Pos}
end
structure It where
 go:Nat->Hp->Prop
 wO:Nat->Hp->V->Hp->Prop
 stop:Nat->Hp->Prop
noncomputable def om(X:Cx)(pins:List (Addr×Obj))(H:Hp)(b:Addr):Prop :=
 H b=none/\b≠X.env.locals/\b∉X.fs/\(b∈X.ex\/X.s₀.heap.objs.size<=b)/\(∀x c,X.env.cells.lookup x=some c->c≠b)/\∀p∈X.pn++pins,p.1≠b
theorem Inv.EE(I:Inv X pins σ H s)(hb:s.heap.objs.size<=b)(hn:H' b=none):om X pins H' b:=by
 refine⟨hn,Nat.ne_of_gt (lt_of_lt_of_le I.lt hb),I.QS hb,.inr (le_trans I.sz hb),λx c e z=>?_,λp hp z=>?_⟩
 ·obtain⟨v,q⟩:=I.cell x c e;exact absurd (lt_of_lt_of_le q.lt (by rw[z];exact hb)) (lt_irrefl _)
 ·exact absurd (lt_of_lt_of_le (lt_size (I.pin p hp).1) (by rw[z];exact hb)) (lt_irrefl _)
structure Turn (P:Program) (w:World) (K:PySem.W.Frag) (tg:Expr) (J:It) (fp:List Addr) (it:Addr) (tn:Nat->Heap->Prop):Prop where
 mem:it∈fp
 obj:∀i h,tn i h->∀b∈fp,∃o,h.get? b=some o/\∀v,o.data≠.cell v
 keep:∀i h h',tn i h->(∀b∈fp,∀o,h.get? b=some o->h'.get? b=some o)->tn i h'
 item:∀(X:Cx),X.prog=P->X.w=w->X.K=K->X.calm=true->∀(i:Nat) (pins:List (Addr×Obj)) (s:Shared) (σ:St) (H:Hp) (E:Value->Shared->Prop),Inv X pins σ H s->(∀b∈fp,om X pins H b)->tn i s.heap->J.go i H ->
  wpAny (model P w) X.A (pyNext (.ref it)) (λr s1=>∃u,r=some u /\
   wpAny (model P w) X.A (letOwnedTupleGo tg (.ref it) u) (λ_ s2=>∃x H',Inv X pins σ H' s2/\RelV x u/\J.wO i H x H'/\tn (i+1) s2.heap/\∀b∈fp,H' b=none) E s1) E s
 done:∀(X:Cx),X.prog=P->X.w=w->X.K=K->X.calm=true->∀(i:Nat) (pins:List (Addr×Obj)) (s:Shared) (σ:St) (H:Hp) (E:Value->Shared->Prop),Inv X pins σ H s->(∀b∈fp,om X pins H b)->tn i s.heap->J.stop i H ->
  wpAny (model P w) X.A (pyNext (.ref it)) (λr s1=>r=none/\Inv X pins σ H s1) E s
 self:∀(A:Around) (i:Nat) (s:Shared) (Q:Value->Shared->Prop) (E:Value->Shared->Prop),tn i s.heap->Q (.ref it) s->wpAny (model P w) A (pyIter (.ref it)) Q E s
noncomputable abbrev TI:=St->Hp->(It->Hp->Prop)->Prop
noncomputable def Ve(X:Cx)(pins:List (Addr×Obj))(σ:St)(tg:Expr)(R:It->Hp->Prop)(itv:Value)(s2:Shared):Prop :=
 ∃(it:Addr) (fp:List Addr) (tn:Nat->Heap->Prop) (J:It) (H':Hp),itv=.ref it/\Inv X pins σ H' s2/\Turn X.prog X.w X.K tg J fp it tn/\tn 0 s2.heap/\(∀b∈fp,om X pins H' b)/\R J H'
noncomputable def PI(X:Cx)(tg iter:Expr)(wi:TI):Prop :=
 ∀(pins:List (Addr×Obj)) (s:Shared) (σ:St) (H:Hp) (R:It->Hp->Prop),Inv X pins σ H s->wi σ H R ->
  wpAny (model X.prog X.w) X.A (eval iter X.env) (λv s1=>wpAny (model X.prog X.w) X.A (pyIter v) (Ve X pins σ tg R) X.xe s1) X.xe s
theorem Bu{n:String}(ho:s.heap.get? it=some o)(hc:o.cls=.type n)(hd:o.data=.fields vs)
  (hn:["enumerate","zip","dict_itemiterator","dict_reverseitemiterator","odict_iterator","itertools.zip_longest","itertools.pairwise"].contains n=false) (hQ:Q () s):wpAny M A (letOwnedTupleGo tg (.ref it) u) Q E s:=by
 unfold letOwnedTupleGo;cases tg<;>first
  | exact wpAny_pure hQ
  | (cases u<;>first
    | exact wpAny_pure hQ
    | (refine wpAny_bind (wpAny_load ho ?_)
       rw[hc,hd];show wpAny M A (if (["enumerate","zip","dict_itemiterator","dict_reverseitemiterator","odict_iterator","itertools.zip_longest","itertools.pairwise"].contains n&&vs[0]?==some (rawInt _))=true then _ else _) Q E s;rw[if_neg (by intro h;rw[hn,Bool.false_and] at h;cases h)];exact wpAny_pure hQ))
noncomputable def Qm(K:PySem.W.Frag)(a:Addr):It :=
 ⟨λi H=>∃xs x,iu K H a xs/\xs[i]?=some x,λi H x H'=>H'=H/\∀xs,iu K H a xs->xs[i]?=some x,λi H=>∃xs,iu K H a xs/\xs.length<=i⟩
noncomputable def Rf(K:PySem.W.Frag)(a:Addr):It :=
 ⟨λi H=>∃xs x,jF K H a xs/\xs[i]?=some x,λi H x H'=>H'=H/\∀xs,jF K H a xs->xs[i]?=some x,λi H=>∃xs,jF K H a xs/\xs.length<=i⟩
noncomputable def Nf(lo:Int)(n:Nat):It:=⟨λi _=>i<n,λi H x H'=>H'=H/\x=.int (lo+i),λi _=>n<=i⟩
theorem zP{P:Program}{w:World}{K:PySem.W.Frag}{tg:Expr}(a it:Addr):Turn P w K tg (Qm K a) [it] it (λi h=>h.IsListIter it a i) where
 mem:=by simp
 obj:=λi h st b hb=>by
  have e:b=it:=by simpa using hb
  subst e;obtain⟨o,e,c,d⟩:=st;exact⟨o,e,λv z=>by rw[d] at z;cases z⟩
 keep:=λi h h' st k=>st.at λo e=>k it (by simp) o e
 item:=by intro X hP hw hK hc i pins s σ H E I hf st hg;subst hP hw hK;obtain⟨xs,x,hq,hx⟩:=hg;obtain⟨its,rv,p,hz⟩:=I.list hq;obtain⟨u,hu,ru⟩:=rv.get hx;obtain⟨f0,f1,f2,f3,f4,f5⟩:=hf it (by simp);refine wpAny_pyNext_list_item st p.isList (x:=u) (by simpa using hu) λh' st' sb=>?_;have I1:Inv X pins σ H { s with heap:=h' }:=I.turned (t':=s.toks) (λb o hb e=>(sb.2 b hb).trans e) f0 f1 f3 f4 f5;obtain⟨o,e,c,d⟩:=id st';exact⟨u,rfl,Bu (s:={ s with heap:=h' }) e c d (by decide) ⟨x,H,I1,ru,⟨rfl,λys hy=>by rw[I.uA hy hq];exact hx⟩,st',λb hb=>(hf b hb).1⟩⟩
 done:=by intro X hP hw hK hc i pins s σ H E I hf st hg;subst hP hw hK;obtain⟨xs,hq,hx⟩:=hg;obtain⟨its,rv,p,hz⟩:=I.list hq;obtain⟨f0,f1,f2,f3,f4,f5⟩:=hf it (by simp);have hl:=rv.length;exact wpAny_pyNext_list_end (I.ok.hd hc) st p.isList (by simp;omega) λh' eb=>⟨rfl,I.turned (t':=s.toks) (λb o hb e=>eb b o hb e) f0 f1 f3 f4 f5⟩
 self:=λ_ _ _ _ _ st h=>wpAny_pyIter_listiter st h
theorem wQ{P:Program}{w:World}{K:PySem.W.Frag}{tg:Expr}(a it:Addr):Turn P w K tg (Rf K a) [it] it (λi h=>h.IsTupleIter it a i) where
 mem:=by simp
 obj:=λi h st b hb=>by
  have e:b=it:=by simpa using hb
  subst e;obtain⟨o,e,c,d⟩:=st;exact⟨o,e,λv z=>by rw[d] at z;cases z⟩
 keep:=λi h h' st k=>st.at λo e=>k it (by simp) o e
 item:=by intro X hP hw hK hc i pins s σ H E I hf st hg;subst hP hw hK;obtain⟨xs,x,hq,hx⟩:=hg;obtain⟨its,rv,p,hz⟩:=I.tuple hq;obtain⟨u,hu,ru⟩:=rv.get hx;obtain⟨f0,f1,f2,f3,f4,f5⟩:=hf it (by simp);refine wpAny_pyNext_tuple_item st (show s.heap.IsTuple a its.toArray from p) (x:=u) (by simpa using hu) λh' st' sb=>?_;have I1:Inv X pins σ H { s with heap:=h' }:=I.turned (t':=s.toks) (λb o hb e=>(sb.2 b hb).trans e) f0 f1 f3 f4 f5;obtain⟨o,e,c,d⟩:=id st';exact⟨u,rfl,Bu (s:={ s with heap:=h' }) e c d (by decide) ⟨x,H,I1,ru,⟨rfl,λys hy=>by rw[I.zO hy hq];exact hx⟩,st',λb hb=>(hf b hb).1⟩⟩
 done:=by intro X hP hw hK hc i pins s σ H E I hf st hg;subst hP hw hK;obtain⟨xs,hq,hx⟩:=hg;obtain⟨its,rv,p,hz⟩:=I.tuple hq;obtain⟨f0,f1,f2,f3,f4,f5⟩:=hf it (by simp);have hl:=rv.length;exact wpAny_pyNext_tuple_end (I.ok.hd hc) st (show s.heap.IsTuple a its.toArray from p) (by simp;omega) λh' eb=>⟨rfl,I.turned (t':=s.toks) (λb o hb e=>eb b o hb e) f0 f1 f3 f4 f5⟩
 self:=λ_ _ _ _ _ st h=>wpAny_pyIter_tupleiter st h
theorem wR{P:Program}{w:World}{K:PySem.W.Frag}{tg:Expr}(it:Addr)(lo:Int)(n:Nat):Turn P w K tg (Nf lo n) [it] it (λi h=>IsRangeIter h it (lo+(i:Nat)*1) ((n:Int)-(i:Nat)) 1) where
 mem:=by simp
 obj:=λi h st b hb=>by
  have e:b=it:=by simpa using hb
  subst e;exact⟨_,st,λv z=>by
   have z':Data.fields _=Data.cell v:=z;cases z'⟩
 keep:=λi h h' st k=>k it (by simp) _ st
 item:=by intro X hP hw hK hc i pins s σ H E I hf st hg;subst hP hw hK;obtain⟨f0,f1,f2,f3,f4,f5⟩:=hf it (by simp);have W:=Walks.range (prog:=X.prog) (w:=X.w) (I.ok.hd hc) it lo 1 n;refine W.item i s _ _ hg st λv h' tk hv st' kk=>?_;obtain⟨t,rfl⟩:=hv;have I1:Inv X pins σ H { s with heap:=h',toks:=tk }:=I.turned (λb o hb e=>kk b o (by simpa using hb) e) f0 f1 f3 f4 f5;refine⟨_,rfl,Bu (s:={ s with heap:=h',toks:=tk }) (n:="range_iterator") st' rfl rfl (by decide) ⟨.int (lo+i),H,I1,⟨t,?_⟩,⟨rfl,rfl⟩,st',λb hb=>(hf b hb).1⟩⟩;rw[Int.mul_one]
 done:=by intro X hP hw hK hc i pins s σ H E I hf st hg;subst hP hw hK;obtain⟨f0,f1,f2,f3,f4,f5⟩:=hf it (by simp);exact wpAny_pyNext_range_end (I.ok.hd hc) st (by have:n<=i:=hg;omega) λh' eb=>⟨rfl,I.turned (t':=s.toks) (λb o hb e=>eb b o hb e) f0 f1 f3 f4 f5⟩
 self:=λ_ _ _ _ _ st h=>wpAny_pyIter_rangeiter st h
end L2
namespace L2
open PySem PySem.Spec PyProof.Rows
section
variable {X:Cx} {tg:Expr}
noncomputable def Ng(K:PySem.W.Frag)(tl:TE):TI:=λσ H R=>tl σ H λx H1=>∃a,x=.ref a/\(∃xs,iu K H1 a xs)/\R (Qm K a) H1
noncomputable def Rg(K:PySem.W.Frag)(tl:TE):TI:=λσ H R=>tl σ H λx H1=>∃a,x=.ref a/\(∃xs,jF K H1 a xs)/\R (Rf K a) H1
theorem EF(hl:PE X l tl):PI X tg l (Ng X.K tl):=by
 intro pins s σ H R I h;refine cG (hl pins s σ H _ I h) λv s1 aE=>?_;obtain⟨x,H1,I1,r1,q1⟩:=aE;obtain⟨a,e,⟨xs,hq⟩,q⟩:=q1;subst e;cases r1;obtain⟨its,rv,p,hz⟩:=I1.list hq;refine wpAny_pyIter_list p.isList ?_;refine⟨s1.heap.objs.size,[s1.heap.objs.size],_,_,H1,rfl,I1.kept (t':=s1.toks) λb o e=>get?_push_of_some _ e,zP a _,⟨_,get?_push_size _ rfl,rfl,rfl⟩,λb hb=>?_,q⟩;have e:b=s1.heap.objs.size:=by simpa using hb
 subst e;exact I1.EE (Nat.le_refl _) (I1.hok.fresh (Nat.le_refl _))
theorem Js(hl:PE X l tl):PI X tg l (Rg X.K tl):=by
 intro pins s σ H R I h;refine cG (hl pins s σ H _ I h) λv s1 aE=>?_;obtain⟨x,H1,I1,r1,q1⟩:=aE;obtain⟨a,e,⟨xs,hq⟩,q⟩:=q1;subst e;cases r1;obtain⟨its,rv,p,hz⟩:=I1.tuple hq;refine wpAny_pyIter_tuple (show s1.heap.IsTuple a its.toArray from p) ?_;refine⟨s1.heap.objs.size,[s1.heap.objs.size],_,_,H1,rfl,I1.kept (t':=s1.toks) λb o e=>get?_push_of_some _ e,wQ a _,⟨_,get?_push_size _ rfl,rfl,rfl⟩,λb hb=>?_,q⟩;have e:b=s1.heap.objs.size:=by simpa using hb
 subst e;exact I1.EE (Nat.le_refl _) (I1.hok.fresh (Nat.le_refl _))
theorem uD{lo hi:Int}{tk:Nat}(I:Inv X pins σ H s)(h1:-(2 ^ 62)<=lo)(h2:lo<2 ^ 62)(h3:-(2 ^ 62)<=hi)(h4:hi<2 ^ 62)
  (q:R (Nf lo (hi-lo).toNat) H):wpAny (model X.prog X.w) X.A (pyIter (.ref s.heap.objs.size)) (Ve X pins σ tg R) E { s with heap:=s.heap.push { cls:=.type "range",data:=.fields #[.int lo t,.int hi u,.int 1 v] },toks:=tk }:=by
 refine wpAny_pyIter_range (IsRange.new ..) (small_one h1 h2 h3 h4) ?_;have I1:Inv X pins σ H { s with heap:=s.heap.push { cls:=.type "range",data:=.fields #[.int lo t,.int hi u,.int 1 v] },toks:=tk }:=I.kept λb o e=>get?_push_of_some _ e;refine⟨(s.heap.push { cls:=.type "range",data:=.fields #[.int lo t,.int hi u,.int 1 v] }).objs.size,[(s.heap.push { cls:=.type "range",data:=.fields #[.int lo t,.int hi u,.int 1 v] }).objs.size],_,_,H,rfl,
  I1.kept (t':=tk) λb o e=>get?_push_of_some _ e,wR _ lo (hi-lo).toNat,?_,λb hb=>?_,q⟩
 ·have e1:lo+((0:Nat):Int)*1=lo:=by simp
  have e2:(((hi-lo).toNat:Nat):Int)-((0:Nat):Int)=Builtin.Range.rangeSize lo hi 1:=by rw[rangeSize_one];split<;>omega
  show IsRangeIter _ _ (lo+((0:Nat):Int)*1) ((((hi-lo).toNat:Nat):Int)-((0:Nat):Int)) 1;rw[e1,e2];exact get?_push_size _ rfl
 ·have e:b=(s.heap.push { cls:=.type "range",data:=.fields #[.int lo t,.int hi u,.int 1 v] }).objs.size:=by simpa using hb
  subst e;exact I1.EE (Nat.le_refl _) (I1.hok.fresh (Nat.le_refl _))
noncomputable def Nh(ta:TA):TI:=λσ H R=>ta σ H λvs H1=>∃j:Int,vs=[.int j] /\ -(2 ^ 62)<=j/\j<2 ^ 62/\R (Nf 0 j.toNat) H1
noncomputable def Ni(ta:TA):TI:=λσ H R=>ta σ H λvs H1=>∃i j:Int,vs=[.int i,.int j]/\(-(2 ^ 62)<=i/\i<2 ^ 62 /\ -(2 ^ 62)<=j/\j<2 ^ 62)/\R (Nf i (j-i).toNat) H1
theorem zQ(hg:Gl X "range")(hm:X.mg "range" = none)(ha:PA X [a] ta)(hs:starEach [a] X.env=[(false,eval a X.env)]:=by rfl):PI X tg (.Call (.Name "range" p) [a] [] pos) (Nh ta):=by
 intro pins s σ H R I h;refine Call_ (iB I hg hm boot_range (PyProof.Rows.callWith_type1 (cG (ha pos pins s σ H _ I h) λus s1 aE=>?_) hs rfl));obtain⟨vs,H1,I1,r1,q1⟩:=aE;obtain⟨j,e,q1,q2,q⟩:=q1;subst e;cases r1 with
 | cons r rr =>cases rr;obtain⟨t,rfl⟩:=r;exact call_range_1 (uD I1 (by omega) (by omega) q1 q2 (by simpa using q))
theorem zR(hg:Gl X "range")(hm:X.mg "range" = none)(ha:PA X [a,b] ta)(hs:starEach [a,b] X.env=[(false,eval a X.env),(false,eval b X.env)]:=by rfl)(hs2:starEach [b] X.env=[(false,eval b X.env)]:=by rfl) :
  PI X tg (.Call (.Name "range" p) [a,b] [] pos) (Ni ta):=by
 intro pins s σ H R I h;refine Call_ (iB I hg hm boot_range (PyProof.Rows.callWith_type1 (cG (ha pos pins s σ H _ I h) λus s1 ⟨vs,H1,I1,r1,q1⟩=>?_) (by rw[hs,hs2]) (by rw[hs2];rfl)));obtain⟨i,j,e,⟨q1,q2,q3,q4⟩,q⟩:=q1;subst e;cases r1 with
 | cons r rr =>
  cases rr with
  | cons r' rr =>cases rr;obtain⟨t,rfl⟩:=r;obtain⟨t',rfl⟩:=r';exact call_range_2 (uD I1 q1 q2 q3 q4 q)
noncomputable def Rh(wi:TI)(g:TG)(tb:TS):TS:=λD σ H=>wi σ H λJ H1=>∃W:Nat->Nat->St->Hp->Prop,(∃m,W 0 m σ H1)/\∀i m σ H,W i m σ H ->
 (J.stop i H/\D.nx σ H)\/(J.go i H/\∃N:St->Hp->Prop,(∀σ' H',N σ' H'->∃m',m'<m/\W (i+1) m' σ' H')/\∀x H',J.wO i H x H'->g x σ H' λσ2 H2=>tb { D with nx:=N,ct:=N,bk:=D.nx } σ2 H2)
noncomputable def o4(fp:List Addr)(h:Heap):List (Addr×Obj):=fp.filterMap λb=>(h.get? b).map λo=>(b,o)
theorem jm(hb:b∈fp)(e:h.get? b=some o):(b,o)∈o4 fp h:=List.mem_filterMap.mpr ⟨b,hb,by rw[e];rfl⟩
theorem zS(hp:p∈o4 fp h):p.1∈fp/\h.get? p.1=some p.2:=by
 obtain⟨b,hb,e⟩:=List.mem_filterMap.mp hp;cases q:h.get? b with
 | none=>rw[q] at e;cases e
 | some o =>rw[q] at e;have e':(b,o)=p:=Option.some.inj e;subst e';exact⟨hb,q⟩
theorem Inv.pinned(I:Inv X pins σ H s)(hf:∀b∈fp,om X pins H b)(ho:∀b∈fp,∃o,s.heap.get? b=some o/\∀v,o.data≠.cell v):Inv X (pins++o4 fp s.heap) σ H s :=
 I.yo λp hp=>(mem_append.mp hp).elim (λz=>I.pin p (mem_append_right _ z)) λz=>by
  obtain⟨hb,e⟩:=zS z;obtain⟨f0,f1,f2,_⟩:=hf p.1 hb;obtain⟨o,e',d⟩:=ho p.1 hb;rw[e] at e';cases e';exact⟨e,f0,f1,f2,d⟩
theorem Inv.lJ(I:Inv X (pins++pl) σ H s):Inv X pins σ H s:=I.yo λp hp=>I.pin p (mem_append_right _ (mem_append_left _ hp))
theorem Jt(hp:PassesOwn (model X.prog X.w) X.A X.env X.xe)(hc:X.calm=true)(hi:PI X tg iter wi)(hg:PG X tg g)(hb:wN X body tb)
  (hs:∀x,foldedSetIterable iter X.env x=pure x:=by intro _;rfl):PS X (.For tg iter body [] pos) (Rh wi g tb):=by
 intro pins s σ H D I h;refine wpAny_For (cG (hi pins s σ H _ I h) λv s1 h1=>cG h1 λitv s2 h2=>?_) hs;obtain⟨it,fp,tn,J,H2,e,I2,T,st2,f2,W,⟨m0,w0⟩,turn⟩:=h2;subst e;have stat:∀{H':Hp},(∀b∈fp,H' b=none)->∀b∈fp,om X pins H' b:=λhn b hb=>⟨hn b hb,(f2 b hb).2⟩;refine codeAny_forLoop_any (λn s'=>∃i σ' H',Inv X pins σ' H' s'/\tn i s'.heap/\(∀b∈fp,H' b=none)/\W i n σ' H') ?_ m0 ⟨0,σ,H2,I2,st2,λb hb=>(f2 b hb).1,w0⟩;rintro n s3 ⟨i,σ3,H3,I3,st3,Vf,w3⟩
 rcases turn i n σ3 H3 w3 with ⟨stop,qn⟩|⟨go,N,hN,step⟩
 ·refine wpAny_passesOwn hp (cG (T.done X rfl rfl rfl hc i pins s3 σ3 H3 X.xe I3 (stat Vf) st3 stop) λr s4 aE=>?_);obtain⟨hr,I4⟩:=aE;subst hr;exact wpAny_execs_nil ⟨σ3,H3,I4,qn⟩
 ·refine wpAny_passesOwn hp (cG (T.item X rfl rfl rfl hc i pins s3 σ3 H3 X.xe I3 (stat Vf) st3 go) λr s4 aE=>?_)
  obtain⟨u,hr,h4⟩:=aE;subst hr;refine wpAny_passesOwn hp (cG h4 λ_ s5 aE=>?_);obtain⟨x,H5,I5,r5,y5,Ek,Qn⟩:=aE;have WL:=I5.pinned (stat Qn) (T.obj _ _ Ek);refine wpAny_passesOwn hp (cG (hg _ s5 σ3 H5 x u _ WL r5 (step x H5 y5)) λ_ s6 aE=>?_);obtain⟨σ6,H6,I6,q6⟩:=aE;refine wpAny_passesOwn hp (cG (hb _ s6 σ6 H6 _ I6 q6) λf s7 q7=>?_);have again:∀{σ7:St} {H7:Hp},Inv X (pins++o4 fp s5.heap) σ7 H7 s7->N σ7 H7->∃m,m<n/\∃i σ' H',Inv X pins σ' H' s7/\tn i s7.heap/\(∀b∈fp,H' b=none)/\W i m σ' H':=λ{σ7 H7} I7 n7=>by
   obtain⟨m',hm,w7⟩:=hN σ7 H7 n7;refine⟨m',hm,i+1,σ7,H7,I7.lJ,T.keep _ _ _ Ek λb hb o e=>(I7.pin (b,o) (mem_append_right _ (mem_append_right _ (jm hb e)))).1,λb hb=>?_,w7⟩;obtain⟨o,e,d⟩:=T.obj _ _ Ek b hb;exact(I7.pin (b,o) (mem_append_right _ (mem_append_right _ (jm hb e)))).2.1
  cases f with
  | next=>obtain⟨σ7,H7,I7,n7⟩:=q7;exact again I7 n7
  | cont=>obtain⟨σ7,H7,I7,n7⟩:=q7;exact again I7 n7
  | brk=>obtain⟨σ7,H7,I7,q7⟩:=q7;exact⟨σ7,H7,I7.lJ,q7⟩
  | ret v=>obtain⟨x7,σ7,H7,I7,r7,q7⟩:=q7;exact⟨x7,σ7,H7,I7.lJ,r7,q7⟩
end
end L2
namespace L2
open PySem PySem.Spec PyProof.Rows
noncomputable abbrev R2:=V->V->Hp->VK->Prop
noncomputable def jP(X:Cx)(f:Value->Value->Sem Value)(r:R2):Prop :=
 ∀(pins:List (Addr×Obj)) (s:Shared) (σ:St) (H:Hp) (x y:V) (v u:Value) (Q:VK),Inv X pins σ H s->RelV x v->RelV y u->r x y H Q ->
  wpAny (model X.prog X.w) X.A (f v u) (EP X pins σ Q) X.xe s
noncomputable def Qo(X:Cx)(f:Value->Sem Value)(r:V->Hp->VK->Prop):Prop :=
 ∀(pins:List (Addr×Obj)) (s:Shared) (σ:St) (H:Hp) (x:V) (v:Value) (Q:VK),Inv X pins σ H s->RelV x v->r x H Q ->
  wpAny (model X.prog X.w) X.A (f v) (EP X pins σ Q) X.xe s
noncomputable def cS(X:Cx)(f:Value)(r:List V->Hp->VK->Prop):Prop :=
 ∀(pins:List (Addr×Obj)) (s:Shared) (σ:St) (H:Hp) (xs:List V) (us:List Value) (Q:VK),Inv X pins σ H s->Vals xs us->r xs H Q ->
  wpAny (model X.prog X.w) X.A (call f us) (EP X pins σ Q) X.xe s
noncomputable def Ri(X:Cx)(r:V->Hp->(Bool->Hp->Prop)->Prop):Prop :=
 ∀(pins:List (Addr×Obj)) (s:Shared) (σ:St) (H:Hp) (x:V) (v:Value) (Q:Bool->Hp->Prop),Inv X pins σ H s->RelV x v->r x H Q ->
  wpAny (model X.prog X.w) X.A (truthy v) (TP X pins σ Q) X.xe s
noncomputable def Qp(r:R2)(ta tb:TE):TE:=λσ H Q=>ta σ H λx H1=>tb σ H1 λy H2=>r x y H2 Q
noncomputable def WM(r:V->Hp->VK->Prop)(ta:TE):TE:=λσ H Q=>ta σ H λx H1=>r x H1 Q
noncomputable def rI(C:Int->Int->Prop)(g:Int->Int->V):R2:=λx y H Q=>∃i j,x=.int i/\y=.int j/\C i j/\Q (g i j) H
noncomputable def El(g:Int->Int->V):R2:=λx y H Q=>∃i j,x=.int i/\y=.int j/\Q (g i j) H
noncomputable def rU(g:Int->V):V->Hp->VK->Prop:=λx H Q=>∃i,x=.int i/\Q (g i) H
section
variable {X:Cx} {a b c:Expr} {ta tb tc:TE} {pos:Pos}
theorem Ju(ha:PE X a ta)(hb:PE X b tb){pins:List (Addr×Obj)}{s:Shared}{σ:St}{H:Hp}{R:V->V->Hp->Prop}(I:Inv X pins σ H s)
  (h:ta σ H λx H1=>tb σ H1 λy H2=>R x y H2) {Q:Value->Shared->Prop} {f:Value->Value->Sem Value}
  (hf:∀v u s2 x y H2,Inv X pins σ H2 s2->RelV x v->RelV y u->R x y H2->wpAny (model X.prog X.w) X.A (f v u) Q X.xe s2) :
  wpAny (model X.prog X.w) X.A (eval a X.env) (λv s₁=>wpAny (model X.prog X.w) X.A (eval b X.env) (λu s₂=>wpAny (model X.prog X.w) X.A (f v u) Q X.xe s₂) X.xe s₁) X.xe s:=by
 refine cG (ha pins s σ H _ I h) λv s1 aE=>?_;obtain⟨x,H1,I1,r1,q1⟩:=aE;refine cG (hb pins s1 σ H1 _ I1 q1) λu s2 aE=>?_;obtain⟨y,H2,I2,r2,q2⟩:=aE;exact hf v u s2 x y H2 I2 r1 r2 q2
theorem Nj(ho:jP X (binaryOp op) r)(ha:PE X a ta)(hb:PE X b tb):PE X (.BinOp a op b pos) (Qp r ta tb):=by
 intro pins s σ H Q I h;exact wpAny_BinOp (Ju ha hb I h λv u s2 x y H2 I2 rx ry q=>ho pins s2 σ H2 x y v u Q I2 rx ry q)
theorem Nk(ho:Qo X (unaryOp op) r)(ha:PE X a ta):PE X (.UnaryOp op a pos) (WM r ta):=by
 intro pins s σ H Q I h;exact UnaryOp_ (cG (ha pins s σ H _ I h) λv s1 ⟨x,H1,I1,r1,q1⟩=>ho pins s1 σ H1 x v Q I1 r1 q1)
theorem Jv{f:Value->Value->Sem Value}{C:Int->Int->Prop}{g:Int->Int->Int}
  (rule:∀(i j:Int) (t u:Tok) (s:Shared) (Q:Value->Shared->Prop) (E:Value->Shared->Prop),C i j->Q (.int (g i j) s.toks) { s with toks:=s.toks+1 }->wpAny (model X.prog X.w) X.A (f (.int i t) (.int j u)) Q E s) :
  jP X f (rI C λi j=>.int (g i j)):=by
 intro pins s σ H x y v u Q I rx ry h;obtain⟨i,j,rfl,rfl,hc,q⟩:=h;obtain⟨t,rfl⟩:=rx;obtain⟨t',rfl⟩:=ry;exact rule i j t t' s _ _ hc ⟨.int (g i j),H,I.tok _,⟨_,rfl⟩,q⟩
theorem EG{f:Value->Value->Sem Value}{g:Int->Int->Int}
  (rule:∀(i j:Int) (t u:Tok) (s:Shared) (Q:Value->Shared->Prop) (E:Value->Shared->Prop),Q (.int (g i j) s.toks) { s with toks:=s.toks+1 }->wpAny (model X.prog X.w) X.A (f (.int i t) (.int j u)) Q E s) :
  jP X f (El λi j=>.int (g i j)):=by
 intro pins s σ H x y v u Q I rx ry h;obtain⟨i,j,rfl,rfl,q⟩:=h;obtain⟨t,rfl⟩:=rx;obtain⟨t',rfl⟩:=ry;exact rule i j t t' s _ _ ⟨.int (g i j),H,I.tok _,⟨_,rfl⟩,q⟩
theorem EH{f:Value->Value->Sem Value}{g:Int->Int->Bool}
  (rule:∀(i j:Int) (t u:Tok) (s:Shared) (Q:Value->Shared->Prop) (E:Value->Shared->Prop),Q (.bool (g i j)) s->wpAny (model X.prog X.w) X.A (f (.int i t) (.int j u)) Q E s) :
  jP X f (El λi j=>.bl (g i j)):=by
 intro pins s σ H x y v u Q I rx ry h;obtain⟨i,j,rfl,rfl,q⟩:=h;obtain⟨t,rfl⟩:=rx;obtain⟨t',rfl⟩:=ry;exact rule i j t t' s _ _ ⟨.bl (g i j),H,I,rfl,q⟩
noncomputable def Rj(i j:Int):Prop:=0<=j/\j<=1000000/\i.natAbs<2 ^ 64
noncomputable def EI(i j:Int):Prop:=(-(2 ^ 64)<i/\i<2 ^ 64)\/(-(2 ^ 64)<j/\j<2 ^ 64)
theorem EI.ok{i j:Int}(h:EI i j):IntMulOk i j:=by
 rcases h with ⟨h1,h2⟩|⟨h1,h2⟩
 ·exact .of_left (intBits_le_64 h1 h2)
 ·exact .of_right (intBits_le_64 h1 h2)
theorem Jw:jP X (binaryOp .Add) (El λi j=>.int (i+j)):=EG λ_ _ _ _ _ _ _ q=>add_int q
theorem Jx:jP X (binaryOp .Sub) (El λi j=>.int (i-j)):=EG λ_ _ _ _ _ _ _ q=>sub_int q
theorem Jy:jP X (binaryOp .Mult) (rI EI λi j=>.int (i*j)):=Jv λ_ _ _ _ _ _ _ hc q=>mul_int q hc.ok
theorem Jz:jP X (binaryOp .Mod) (rI (λ_ j=>0<j) λi j=>.int (i%j)):=Jv λi j _ _ _ _ _ hc q=>by
 have h1:(0:Int)<j:=hc;exact mod_int' (by omega) (by rw[Int.fmod_eq_emod_of_nonneg i (by omega)];exact q)
theorem JA:jP X (binaryOp .Pow) (rI Rj λi j=>.int (i ^ j.toNat)):=Jv λ_ _ _ _ _ _ _ hc q=>pow_int_small hc.1 hc.2.1 hc.2.2 q
theorem EJ:jP X (inplaceOp .Add) (El λi j=>.int (i+j)):=EG λ_ _ _ _ _ _ _ q=>iadd_int q
theorem EK:jP X (inplaceOp .Sub) (El λi j=>.int (i-j)):=EG λ_ _ _ _ _ _ _ q=>isub_int q
theorem EL:jP X (inplaceOp .Mult) (rI EI λi j=>.int (i*j)):=Jv λ_ _ _ _ _ _ _ hc q=>imul_int q hc.ok
theorem EM:jP X (inplaceOp .Mod) (rI (λ_ j=>0<j) λi j=>.int (i%j)):=Jv λi j _ _ _ _ _ hc q=>by
 have h1:(0:Int)<j:=hc;exact imod_int (by omega) (by rw[Int.fmod_eq_emod_of_nonneg i (by omega)];exact q)
theorem WN{f:Value->Sem Value}{g:Int->Int}
  (rule:∀(i:Int) (t:Tok) (s:Shared) (Q:Value->Shared->Prop) (E:Value->Shared->Prop),Q (.int (g i) s.toks) { s with toks:=s.toks+1 }->wpAny (model X.prog X.w) X.A (f (.int i t)) Q E s) :
  Qo X f (rU λi=>.int (g i)):=by
 intro pins s σ H x v Q I rx h;obtain⟨i,rfl,q⟩:=h;obtain⟨t,rfl⟩:=rx;exact rule i t s _ _ ⟨.int (g i),H,I.tok _,⟨_,rfl⟩,q⟩
theorem Bv:Qo X (unaryOp .USub) (rU λi=>.int (-i)):=WN λ_ _ _ _ _ q=>neg_int q
end
section
variable {X:Cx} {a b c:Expr} {ta tb tc:TE} {pos:Pos}
theorem mR{k k':Bool}(I:Inv X pins σ H s)(q:Q (.bl k) H)(e:k=k'):EP X pins σ Q (.bool k') s:=by
 subst e;exact⟨.bl k,H,I,rfl,q⟩
theorem Nl:jP X (compareOp .Lt) (El λi j=>.bl (decide (i<j))):=EH λ_ _ _ _ _ _ _ q=>lt_int q
theorem Nm:jP X (compareOp .LtE) (El λi j=>.bl (decide (i<=j))):=EH λ_ _ _ _ _ _ _ q=>le_int q
theorem Nn:jP X (compareOp .Gt) (El λi j=>.bl (decide (j<i))):=EH λ_ _ _ _ _ _ _ q=>gt_int q
theorem Np:jP X (compareOp .GtE) (El λi j=>.bl (decide (j<=i))):=EH λ_ _ _ _ _ _ _ q=>ge_int q
theorem zT:jP X (compareOp .In) (λx y H Q=>∃i j,x=.str i/\y=.str j/\Q (.bl (!(Builtin.Str.occurrences j i 0 j.length 1).isEmpty)) H):=by
 intro pins s σ H x y v u Q I rx ry h;obtain⟨i,j,rfl,rfl,q⟩:=h;obtain⟨t,rfl⟩:=rx;obtain⟨t',rfl⟩:=ry;exact in_str (mR I q rfl)
theorem JB:jP X (compareOp .Is) (λx y H Q=>y=.non/\Q (.bl (decide (x=.non))) H):=by
 intro pins s σ H x y v u Q I rx ry h;obtain⟨rfl,q⟩:=h;cases ry;refine is_none_gen (mR I q ?_);cases x<;>first
  | (cases rx;rfl)
  | (obtain⟨t,rfl⟩:=rx;rfl)
theorem EO:jP X (compareOp .IsNot) (λx y H Q=>y=.non/\Q (.bl (!decide (x=.non))) H):=by
 intro pins s σ H x y v u Q I rx ry h;obtain⟨rfl,q⟩:=h;cases ry;refine isnot_none_gen (mR I q ?_);cases x<;>first
  | (cases rx;rfl)
  | (obtain⟨t,rfl⟩:=rx;rfl)
theorem sS:jP X (compareOp .NotIn) (λx y H Q=>∃i j,x=.str i/\y=.str j/\Q (.bl (!(!(Builtin.Str.occurrences j i 0 j.length 1).isEmpty))) H):=by
 intro pins s σ H x y v u Q I rx ry h;obtain⟨i,j,rfl,rfl,q⟩:=h;obtain⟨t,rfl⟩:=rx;obtain⟨t',rfl⟩:=ry;exact notIn_str (mR I q rfl)
theorem Rk(b:Expr)(h:op≠.In:=by decide)(h2:op≠.NotIn:=by decide):behindInMarks op b=false:=by
 have e1:(op==CmpOp.In)=false:=by cases op<;>first|rfl|exact absurd rfl h
 have e2:(op==CmpOp.NotIn)=false:=by cases op<;>first|rfl|exact absurd rfl h2
 cases b<;>simp[behindInMarks,e1,e2]
theorem ES(ho:jP X (compareOp op) r)(ha:PE X a ta)(hb:PE X b tb)(hm:behindInMarks op b=false):PE X (.Compare a [op] [b] pos) (Qp r ta tb):=by
 intro pins s σ H Q I h;exact wpAny_Compare1 (Ju ha hb I h λv u s2 x y H2 I2 rx ry q=>ho pins s2 σ H2 x y v u Q I2 rx ry q) hm
noncomputable def Nq(t:TE):TT:=λσ H Q=>t σ H λx H'=>∃k,x=.bl k/\Q k H'
theorem ET(ho:jP X (compareOp op) r)(ha:PE X a ta)(hb:PE X b tb)(hm:behindInMarks op b=false):PT X (.Compare a [op] [b] pos) (Nq (Qp r ta tb)):=by
 intro pins s σ H Q I h;refine wpAny_isTrue_Compare1 (cG (ha pins s σ H _ I h) λv s1 ⟨x,H1,I1,r1,q1⟩=>cG (hb pins s1 σ H1 _ I1 q1) λu s2 ⟨y,H2,I2,r2,q2⟩ =>
  cG (ho pins s2 σ H2 x y v u _ I2 r1 r2 q2) λc s3 ⟨z,H3,I3,r3,k,e,q3⟩=>?_) hm
 subst e;cases r3;exact wpAny_truthy_bool ⟨H3,I3,q3⟩
noncomputable def JC(K:PySem.W.Frag)(x:V)(H:Hp)(k:Bool):Prop :=
 match x with
 | .non=>k=false
 | .bl b=>k=b
 | .int i=>k=(i != 0)
 | .str y=>y.length<=sizeLine/\k=((y.length:Int) != 0)
 | .byt y=>y.size<=sizeLine/\k=((y.size:Int) != 0)
 | .ref p=>(∃xs,iu K H p xs/\k = !xs.isEmpty)\/(∃xs,jF K H p xs/\k = !xs.isEmpty)\/∃kvs,H p=some (.dK kvs)/\k = !kvs.isEmpty
 | _=>False
theorem wU{κ:Type}{kvs:List (κ × V)}{vs:List (κ × Value)}(r:KV kvs vs):(!vs.isEmpty) = !kvs.isEmpty:=by
 cases r<;>rfl
theorem o5(r:Vals xs its):(!its.toArray.isEmpty) = !xs.isEmpty:=by
 cases r<;>simp
theorem mT:(sizeLine:Nat)<2 ^ 63:=by rw[sizeLine_eq];decide
theorem JD:Ri X (λx H Q=>∃k,JC X.K x H k/\Q k H):=by
 intro pins s σ H x v Q I rx h;obtain⟨k,e,q⟩:=h;have hl:=mT;have hs:sizeLine=16777216:=sizeLine_eq;cases x with
 | non =>cases rx;have e':k=false:=e;subst e';exact truthy_none ⟨H,I,q⟩
 | bl b =>cases rx;have e':k=b:=e;subst e';exact wpAny_truthy_bool ⟨H,I,q⟩
 | int i =>obtain⟨t,rfl⟩:=rx;have e':k=(i != 0):=e;subst e';exact PySem.P.truthy_int ⟨H,I,q⟩
 | str y =>obtain⟨t,rfl⟩:=rx;obtain⟨hy,e'⟩:y.length<=sizeLine/\k=((y.length:Int) != 0):=e;subst e';exact PySem.P.truthy_str (by omega) ⟨H,I.tok _,q⟩
 | byt y =>obtain⟨t,rfl⟩:=rx;obtain⟨hy,e'⟩:y.size<=sizeLine/\k=((y.size:Int) != 0):=e;subst e';exact PySem.W.truthy_bytes (by omega) ⟨H,I.tok _,q⟩
 | ref p =>
  cases rx;have e':(∃xs,iu X.K H p xs/\k = !xs.isEmpty)\/(∃xs,jF X.K H p xs/\k = !xs.isEmpty)\/∃kvs,H p=some (.dK kvs)/\k = !kvs.isEmpty:=e
  rcases e' with ⟨xs,hx,e'⟩|⟨xs,hx,e'⟩|⟨kvs,hx,e'⟩
  ·subst e';obtain⟨its,r,pl,hz⟩:=I.list hx;have hlen:=r.length;exact wpAny_truthy_list pl.isList (by simp only[size_toArray];omega) ⟨H,I.tok _,by rw[o5 r];exact q⟩
  ·subst e';obtain⟨its,r,pl,hz⟩:=I.tuple hx;have hlen:=r.length;exact truthy_tuple pl (by simp only[size_toArray];omega) ⟨H,I.tok _,by rw[o5 r];exact q⟩
  ·subst e';obtain⟨hz,hS,vs,r,m⟩:kvs.length<=sizeLine/\(p==sysModules)=false/\∃vs,KV kvs vs/\s.heap.DictOf (aY X.prog X.w) p vs:=I.hok p _ hx;have hlen:kvs.length=vs.length:=Paired.length r;exact wpAny_truthy_dict hS m (by omega) ⟨H,I.tok _,by rw[wU r];exact q⟩
 | _=>exact(show False from e).elim
theorem Bw(ha:PE X a ta)(he:∀whole,isTrue a X.env whole=(do let v <-whole;standAt a.pos;holding [v] (truthy v))) :
  PT X a (λσ H Q=>ta σ H λx H'=>∃k,JC X.K x H' k/\Q k H'):=by
 intro pins s σ H Q I h;exact isTrue_plain (cG (ha pins s σ H _ I h) λv s1 ⟨x,H1,I1,r1,q1⟩=>JD pins s1 σ H1 x v Q I1 r1 q1) (he _)
theorem wV:jP X (binaryOp .Add) (λx y H Q=>∃i j,x=.str i/\y=.str j/\i.length+j.length<=sizeLine/\Q (.str (i++j)) H):=by
 intro pins s σ H x y v u Q I rx ry h;obtain⟨i,j,rfl,rfl,hz,q⟩:=h;obtain⟨t,rfl⟩:=rx;obtain⟨t',rfl⟩:=ry;exact add_str (λt' tk=>⟨.str (i++j),H,I.tok _,⟨_,rfl⟩,q⟩) hz
theorem vals1(r:Vals [x] us):∃u,us=[u]/\RelV x u:=by
 cases r with
 | cons r1 r2=>cases r2;exact⟨_,rfl,r1⟩
theorem vals2(r:Vals [x,y] us):∃u w',us=[u,w']/\RelV x u/\RelV y w':=by
 cases r with
 | cons r1 r2 =>
  cases r2 with
  | cons r3 r4=>cases r4;exact⟨_,_,rfl,r1,r3⟩
theorem zU(hc:X.calm=true):cS X (.builtin "max") (λxs H Q=>∃i j,xs=[.int i,.int j]/\Q (.int (if j>i then j else i)) H):=by
 intro pins s σ H xs us Q I r h;obtain⟨i,j,rfl,q⟩:=h;obtain⟨u,w',rfl,⟨t,rfl⟩,⟨t',rfl⟩⟩:=vals2 r;refine max_two_ints (I.ok.hd hc) λh' tk k=>⟨_,H,I.kept k,?_,q⟩
 by_cases hj:j>i
 ·rw[if_pos hj,if_pos hj];exact⟨_,rfl⟩
 ·rw[if_neg hj,if_neg hj];exact⟨_,rfl⟩
theorem zV(hc:X.calm=true):cS X (.builtin "min") (λxs H Q=>∃i j,xs=[.int i,.int j]/\Q (.int (if j<i then j else i)) H):=by
 intro pins s σ H xs us Q I r h;obtain⟨i,j,rfl,q⟩:=h;obtain⟨u,w',rfl,⟨t,rfl⟩,⟨t',rfl⟩⟩:=vals2 r;refine min_two_ints (I.ok.hd hc) λh' tk k=>⟨_,H,I.kept k,?_,q⟩
 by_cases hj:j<i
 ·rw[if_pos hj,if_pos hj];exact⟨_,rfl⟩
 ·rw[if_neg hj,if_neg hj];exact⟨_,rfl⟩
theorem rF:cS X (.type "int") (λxs H Q=>(∃i,xs=[.int i]/\Q (.int i) H)\/∃k,xs=[.bl k]/\Q (.int (if k then 1 else 0)) H):=by
 intro pins s σ H xs us Q I r h
 rcases h with ⟨i,rfl,q⟩|⟨k,rfl,q⟩
 ·obtain⟨u,rfl,t,rfl⟩:=vals1 r;exact call_int_int ⟨.int i,H,I,⟨_,rfl⟩,q⟩
 ·obtain⟨u,rfl,r1⟩:=vals1 r;cases r1;exact call_int_bool ⟨.int (if k then 1 else 0),H,I.tok _,⟨_,rfl⟩,q⟩
noncomputable def Rm(K:PySem.W.Frag)(x:V)(H:Hp)(n:Nat):Prop :=
 match x with
 | .str y=>y.length<=sizeLine/\n=y.length
 | .byt y=>y.size<=sizeLine/\n=y.size
 | .ref p=>(∃xs,iu K H p xs/\n=xs.length)\/∃xs,jF K H p xs/\n=xs.length
 | _=>False
theorem lK:cS X (.builtin "len") (λxs H Q=>∃x n,xs=[x]/\Rm X.K x H n/\Q (.int n) H):=by
 intro pins s σ H xs us Q I r h;obtain⟨x,n,rfl,e,q⟩:=h;obtain⟨u,rfl,rx⟩:=vals1 r;have hl:=mT;have hs:sizeLine=16777216:=sizeLine_eq;cases x with
 | str y =>obtain⟨t,rfl⟩:=rx;obtain⟨hy,e'⟩:y.length<=sizeLine/\n=y.length:=e;subst e';exact len_str (by omega) ⟨.int _,H,I.tok _,⟨_,rfl⟩,q⟩
 | byt y =>obtain⟨t,rfl⟩:=rx;obtain⟨hy,e'⟩:y.size<=sizeLine/\n=y.size:=e;subst e';exact PySem.W.len_bytes (by omega) ⟨.int _,H,I.tok _,⟨_,rfl⟩,q⟩
 | ref p =>
  cases rx;have e':(∃xs,iu X.K H p xs/\n=xs.length)\/∃xs,jF X.K H p xs/\n=xs.length:=e
  rcases e' with ⟨xs,hx,e'⟩|⟨xs,hx,e'⟩
  ·subst e';obtain⟨its,r',pl,hz⟩:=I.list hx;have hlen:=r'.length;exact Calls.call_len_list pl.isList (by simp only[size_toArray];omega) ⟨.int xs.length,H,I.tok _,⟨_,by simp only[size_toArray];rw[hlen]⟩,q⟩
  ·subst e';obtain⟨its,r',pl,hz⟩:=I.tuple hx;have hlen:=r'.length;exact len_tuple pl (by simp only[size_toArray];omega) ⟨.int xs.length,H,I.tok _,⟨_,by simp only[size_toArray];rw[hlen]⟩,q⟩
 | _=>exact(show False from e).elim
end
end L2
namespace L2
open PySem PySem.Spec PyProof.Rows
structure wW (h:Heap) (x dx C:Addr) (mA:Str->Option Value):Prop where
 obj:h.get? x=some (instObj C dx)
 ns:h.Ns1 dx mA
 ne:dx≠x
theorem zW{h:Heap}{dx:Addr}{mA:Str->Option Value}(n:h.Ns1 dx mA):∃od,h.get? dx=some od/\∀name,lookIn name od=some (mA name):=by
 obtain⟨o,es,ep,ho,hd,hk,_,hm⟩:=n;refine⟨o,ho,λname=>?_⟩;have e:=hm name;unfold nsFind findBy at e;rw[<-Array.find?_toList] at e;unfold lookIn;rw[hd];dsimp only
 split
 ·rename_i y q;rw[q] at e;exact congrArg some e
 ·rename_i q
  rw[q] at e;have a:es.toList.any (·.refKey)=false:=by rw[List.any_eq_false];intro y hy;obtain⟨z,t,hkey⟩:=hk y (Array.mem_toList_iff.mp hy);simp[DictEntry.refKey,hkey]
  have a':¬ es.toList.any (·.refKey)=true:=by rw[a];exact Bool.false_ne_true
  rw[if_neg a'];exact congrArg some e
theorem wW.look(I:wW h x dx C mA):∃od,PySem.W.InstAt h x (instObj C dx) C (some od)/\∀name,lookIn name od=some (mA name) :=
 let ⟨od,ho,hl⟩:=zW I.ns
 ⟨od,⟨I.obj,rfl,rfl,ho⟩,hl⟩
section
variable {prog:Program} {w:World} {A:Around} {E:Value->Shared->Prop} {s:Shared} {K:PySem.W.Frag} {x dx C f:Addr} {mA:Str->Option Value} {name:Str} {v:Value}
theorem get_map{expr:Bool}(X:K.In s.heap)(I:wW s.heap x dx C mA)(hg:plainGet K C name=true)(hh:hasDictIn K C=true)
  (ha:findIn K (.ref C) name=some none) (hv:mA name=some v) (hv':handedIn v=true) (h:Q v { s with toks:=s.toks+1 }) :
  wpAny (model prog w) A (getAttr (.ref x) name expr) Q E s:=by
 obtain⟨od,J,hl⟩:=I.look;exact PySem.W.get_value X J (plainGet_of hg).1 (PySem.W.findObj_own hh ha rfl (by rw[hl,hv])) hv' h
theorem Bx(X:K.In s.heap)(I:wW s.heap x dx C mA)(hg:plainGet K C name=true)
  (hf:findIn K (.ref C) name=some (some (.ref f))) (ht:PySem.W.isFn K (.ref f)=true) (hv:mA name=none) (h:Q (.ref f,[.ref x]) s) :
  wpAny (model prog w) A (getMethod (.ref x) name pl) Q E s:=by
 obtain⟨od,J,hl⟩:=I.look;exact PySem.W.method_fn X J (plainGet_of hg).1 (plainGet_of hg).2 hf (beq_iff_eq.mp ht) (by show (lookIn name od).map (·.isSome)=some false;rw[hl,hv];rfl) h
theorem EU(X:K.In s.heap)(I:wW s.heap x dx C mA)
  (hs:findIn K (.ref C) "__setattr__" = some (some (.builtin "object.__setattr__"))) (hp:plainOver K C=true) (ht:takerIn K C name=some none) (hh:hasDictIn K C=true)
  (hw:PySem.Within mA ns) (hsz:ns.length<=sizeLine)
  (h:∀h',wW h' x dx C (λy=>if y=name then some v else mA y)->Heap.SameBut dx s.heap h'->Q () { s with heap:=h',toks:=s.toks+2 }) :
  wpAny (model prog w) A (setAttr (.ref x) name v) Q E s:=by
 obtain⟨od,J,hl⟩:=I.look;refine PySem.W.set_plain X J hs (PySem.W.osa_open (s:={ s with toks:=s.toks+1 }) (r:=none) X J hp ht λb=>?_);obtain⟨cd,hc,hd'⟩:=PySem.W.any_some hh;have hx:s.heap.get? x=some ⟨.ref C,some dx,.plain,#[]⟩:=I.obj;refine wpAny_bind (wpAny_pure (wpAny_bind (wpAny_bind (wpAny_loadPart hx (wpAny_bind (PySem.W.Looks.here (s:={ s with toks:=s.toks+1 }) (PySem.W.looks_clsIn X hc) ?_))))));rw[hd'];refine wpAny_pure (a:=some dx) (wpAny_bind (wpAny_pure (wpAny_bind ?_)));refine wpAny_nsSet1 (s:={ s with toks:=s.toks+1 }) I.ns λh' hn2 hs2=>?_;obtain⟨oD,esD,epD,WO,WQ,WR⟩:=hn2.count (PySem.Within.cons name v hw);refine wpAny_bind (wpAny_lookBehind WO (by rw[WQ];exact pastItsLine_dict (le_trans WR (by rw[length_cons];omega))) ?_);exact wpAny_pure (h _ ⟨(hs2.2 _ (Ne.symm I.ne)).trans I.obj,hn2,I.ne⟩ hs2)
theorem By(X:K.In s.heap)(hm:makesIn K C=true)
  (hi:findIn K (.ref C) "__init__" = some (some (.ref f))) (hf:typeIn K (.ref f)=some (.type "function"))
  (h:codeAny (model prog w) (A.under (.builtin "type.__call__" ⟨.ref C::vs,kw⟩)) (.call (.ref f) ⟨.ref (s.heap.objs.size+1)::vs,kw⟩) (PySem.W.InitBack (s.heap.objs.size+1) R)
   { s with heap:=(s.heap.push emptyDict).push (instObj C s.heap.objs.size) }) :
  codeAny (model prog w) A (.call (.ref C) ⟨vs,kw⟩) R s:=by
 obtain⟨hh,g,d,t,os⟩:=s;exact PySem.W.make_core (PySem.W.makes_of X hm) (PySem.W.looks_findIn X hi) (λself=>PySem.W.bind_fn X self hf) (.inl rfl) h
end
noncomputable def jn(f:Str)(v:V):List (Str×V)->List (Str×V)
 | []=>[(f,v)]
 | (g,x)::r=>if g=f then (g,v)::r else (g,x)::jn f v r
theorem nQ(f g:Str)(v:V):∀fs:List (Str×V),(jn f v fs).lookup g=if g=f then some v else fs.lookup g
 | []=>by
  show List.lookup g [(f,v)]=_
  by_cases h:g=f
  ·have hb:(g==f)=true:=beq_iff_eq.mpr h;simp only[List.lookup,hb,if_pos h]
  ·have hb:(g==f)=false:=beq_eq_false_iff_ne.mpr h;simp only[List.lookup,hb,if_neg h]
 | (k,x)::r=>by
  have ih:=nQ f g v r;rw[show jn f v ((k,x)::r)=(if k=f then (k,v)::r else (k,x)::jn f v r) from rfl]
  by_cases hk:k=f
  ·rw[if_pos hk]
   by_cases h:g=k
   ·have hb:(g==k)=true:=beq_iff_eq.mpr h;simp only[List.lookup,hb,if_pos (h.trans hk)]
   ·have hb:(g==k)=false:=beq_eq_false_iff_ne.mpr h;simp only[List.lookup,hb,if_neg (λe:g=f=>h (e.trans hk.symm))]
  ·rw[if_neg hk]
   by_cases h:g=k
   ·have hb:(g==k)=true:=beq_iff_eq.mpr h;simp only[List.lookup,hb,if_neg (λe:g=f=>hk (h.symm.trans e))]
   ·have hb:(g==k)=false:=beq_eq_false_iff_ne.mpr h;simp only[List.lookup,hb];exact ih
theorem mU(f:Str)(v:V):∀fs:List (Str×V),f∈(jn f v fs).map (·.1)/\∀g,g∈fs.map (·.1)->g∈(jn f v fs).map (·.1)
 | []=>⟨by simp[jn],λg h=>by simp at h⟩
 | (k,x)::r=>by
  obtain⟨i1,i2⟩:=mU f v r;rw[show jn f v ((k,x)::r)=(if k=f then (k,v)::r else (k,x)::jn f v r) from rfl]
  by_cases hk:k=f
  ·rw[if_pos hk];subst hk;exact⟨by simp,λg h=>by simpa using h⟩
  ·rw[if_neg hk]
   refine⟨?_,λg h=>?_⟩
   ·rw[map_cons];exact mem_cons_of_mem _ i1
   ·rw[map_cons] at h |-
    rcases mem_cons.mp h with e|e
    ·exact mem_cons.mpr (.inl e)
    ·exact mem_cons_of_mem _ (i2 g e)
theorem nR(f:Str)(v:V):∀fs:List (Str×V),(jn f v fs).length<=fs.length+1
 | []=>by simp[jn]
 | (k,x)::r=>by
  have ih:=nR f v r;rw[show jn f v ((k,x)::r)=(if k=f then (k,v)::r else (k,x)::jn f v r) from rfl]
  by_cases hk:k=f
  ·rw[if_pos hk,length_cons,length_cons];omega
  ·rw[if_neg hk,length_cons,length_cons];omega
theorem jM.some_of(r:jM (some v) o):∃u,o=some u/\RelV v u:=by
 cases o with
 | none=>exact(show False from r).elim
 | some u=>exact⟨u,rfl,r⟩
theorem jM.none_of(r:jM none o):o=none:=by
 cases o with
 | none=>rfl
 | some u=>exact(show False from r).elim
theorem zX(r:RelV v u):handedIn u=true:=by
 cases v with
 | non=>cases (show u=Value.none from r);rfl
 | bl b=>cases (show u=Value.bool b from r);rfl
 | int i=>obtain⟨t,e⟩:=(show ∃t,u=Value.int i t from r);cases e;rfl
 | str x=>obtain⟨t,e⟩:=(show ∃t,u=Value.str x t from r);cases e;rfl
 | byt b=>obtain⟨t,e⟩:=(show ∃t,u=Value.bytes b t from r);cases e;rfl
 | flt b=>obtain⟨t,e⟩:=(show ∃t,u=Value.float b t from r);cases e;rfl
 | ref a=>cases (show u=Value.ref a from r);rfl
 | ty n=>cases (show u=Value.type n from r);rfl
section
variable {P:Program} {w:World} {H H':Hp} {h h':Heap} {a C dx:Addr} {fs fs':List (Str×V)}
theorem oG(hok:lu P w H h)(e:H a=some (.ins C dx fs)):∃mA,wW h a dx C mA/\(∀f,jM (fs.lookup f) (mA f))/\PySem.Within mA (fs.map (·.1))/\fs.length<=1000/\H dx=some (.own a):=by
 obtain⟨d,z,ne,ob,mA,n,r,q⟩:=(show bE P w H h a (.ins C dx fs) from hok a _ e);exact⟨mA,⟨ob,n,ne⟩,r,q,z,d⟩
end
structure zY (K:PySem.W.Frag) (C:Addr):Prop where
 pg:plainGet K C Str.empty=true
 hd:hasDictIn K C=true
 po:plainOver K C=true
 sa:findIn K (.ref C) "__setattr__" = some (some (.builtin "object.__setattr__"))
theorem zY.get{K:PySem.W.Frag}{C:Addr}(c:zY K C)(f:Str):plainGet K C f=true:=c.pg
noncomputable def jT(K:PySem.W.Frag)(C:Addr)(f:Str):Prop:=findIn K (.ref C) f=some none
theorem jT.Nr{K:PySem.W.Frag}{C:Addr}{f:Str}(n:jT K C f):takerIn K C f=some none:=by
 unfold takerIn;rw[show findIn K (.ref C) f=some none from n];rfl
structure Meth (K:PySem.W.Frag) (C:Addr) (m:Str) (f:Addr):Prop where
 at_:findIn K (.ref C) m=some (some (.ref f))
 fn:PySem.W.isFn K (.ref f)=true
 kp:keepIn K (.ref f)=true
section
variable {X:Cx} {pins:List (Addr×Obj)} {σ:St} {H:Hp} {s:Shared} {a C dx:Addr} {fs:List (Str×V)} {f:Str} {v:V} {A:Around} {E:Value->Shared->Prop}
theorem wX{b:Bool}(I:Inv X pins σ H s)(e:H a=some (.ins C dx fs))(c:zY X.K C)(n:jT X.K C f)(l:fs.lookup f=some v)
  (h:∀u s',Inv X pins σ H s'->RelV v u->Q u s'):wpAny (model X.prog X.w) A (getAttr (.ref a) f b) Q E s:=by
 obtain⟨mA,O,r,_,_,_⟩:=oG I.hok e;obtain⟨u,hu,ru⟩:=jM.some_of (v:=v) (o:=mA f) (by rw[<-l];exact r f);exact get_map I.jE O (c.get f) c.hd n hu (zX ru) (h u _ (I.tok _) ru)
theorem o6(I:Inv X pins σ H s)(e:H a=some (.ins C dx fs))(c:zY X.K C)(k:Meth X.K C m g)(l:fs.lookup m=none)
  (h:Q (.ref g,[.ref a]) s):wpAny (model X.prog X.w) A (getMethod (.ref a) m pl) Q E s:=by
 obtain⟨mA,O,r,_,_,_⟩:=oG I.hok e;have hn:mA m=none:=jM.none_of (by rw[<-l];exact r m);exact Bx I.jE O (c.get m) k.at_ k.fn hn h
theorem wY(I:Inv X pins σ H s)(e:H a=some (.ins C dx fs))(c:zY X.K C)(n:jT X.K C f)(hl:fs.length<1000)(ry:RelV y u)
  (h:∀s',Inv X pins σ (upd H a (.ins C dx (jn f y fs))) s'->Q () s'):wpAny (model X.prog X.w) A (setAttr (.ref a) f u) Q E s:=by
 obtain⟨mA,O,r,wi,_,ho⟩:=oG I.hok e;have hz:(fs.map (·.1)).length<=sizeLine:=by rw[length_map,sizeLine_eq];omega
 refine EU I.jE O c.sa c.po n.Nr c.hd wi hz λh' O' sb=>h _ ?_;have hd:∃o,h'.get? dx=some o:=let ⟨o,_,_,e',_⟩:=O'.ns;⟨o,e'⟩
 refine I.write (x:=a) (e:=dx) (by rw[e];exact True.intro) (.inr ho) (λb q hb z=>(sb.2 b hb).trans z) hd ?_;refine⟨by rw[aA O.ne];exact ho,?_,O.ne,O'.obj,_,O'.ns,λg=>?_,λg hg=>?_⟩
 ·have:=nR f y fs;omega
 ·show jM ((jn f y fs).lookup g) (if g=f then some u else mA g)
  rw[nQ]
  by_cases q:g=f
  ·rw[if_pos q,if_pos q];exact ry
  ·rw[if_neg q,if_neg q];exact r g
 ·by_cases q:g=f
  ·rw[q];exact(mU f y fs).1
  ·refine(mU f y fs).2 g (wi g λz=>hg ?_);show (if g=f then some u else mA g)=none;rw[if_neg q];exact z
theorem Inv.made(I:Inv X pins σ H s):Inv X pins σ (upd (upd H s.heap.objs.size (.own (s.heap.objs.size+1))) (s.heap.objs.size+1) (.ins C s.heap.objs.size []))
  { s with heap:=(s.heap.push emptyDict).push (instObj C s.heap.objs.size) }:=by
 have e1:(s.heap.push emptyDict).get? s.heap.objs.size=some emptyDict:=get?_push_size s.heap rfl;have e2:((s.heap.push emptyDict).push (instObj C s.heap.objs.size)).get? (s.heap.objs.size+1)=some (instObj C s.heap.objs.size):=by have:=get?_push_size (s.heap.push emptyDict) (o:=instObj C s.heap.objs.size) rfl;rwa [size_push] at this
 have e3:(s.heap.push emptyDict).Ns s.heap.objs.size (λ_=>none):=⟨emptyDict,#[],_,e1,rfl,(λe he=>absurd he (by simp)),λ_=>rfl⟩;have I1:=I.laid (a:=s.heap.objs.size) (o:=.own (s.heap.objs.size+1)) (h':=s.heap.push emptyDict) (t':=s.toks) (λb u q=>get?_push_of_some _ q) (Nat.le_refl _) ⟨_,e1⟩;refine I1.laid (a:=s.heap.objs.size+1) (o:=.ins C s.heap.objs.size []) (t':=s.toks) (λb u q=>get?_push_of_some _ q) (Nat.le_of_eq (size_push _ _)) ?_;have ne:s.heap.objs.size≠s.heap.objs.size+1:=ne_of_lt (lt_succ_self _);refine⟨by rw[aA ne,aV],zero_le _,ne,e2,λ_=>none,(Heap.Ns1.of_empty e3).at λo q=>get?_push_of_some _ q,λ_=>True.intro,λy hy=>absurd rfl hy⟩
theorem attr_of(hb:attributeBase e f env (eval e env)=eval e env)
  (h:wpAny (model prog w) A (eval e env) (λo s₁=>wpAny (model prog w) A (getAttr o f true) Q E s₁) E s):wpAny (model prog w) A (eval (.Attribute e f pos) env) Q E s :=
 Attribute_any_ h (by rw[arm_eval_Attribute,hb])
end
noncomputable def tFld(K:PySem.W.Frag)(ta:TE)(f:Str):TE:=λσ H Q=>ta σ H λx H1=>∃a C dx fs v,x=.ref a/\H1 a=some (.ins C dx fs)/\zY K C/\jT K C f/\fs.lookup f=some v/\Q v H1
noncomputable def Rn(K:PySem.W.Frag)(ta tv:TE)(f:Str):TS:=λD σ H=>tv σ H λy H1=>ta σ H1 λx H2=>∃a C dx fs,x=.ref a/\H2 a=some (.ins C dx fs)/\zY K C/\jT K C f/\fs.length<1000 /\
 D.nx σ (upd H2 a (.ins C dx (jn f y fs)))
section
variable {X:Cx} {o e value:Expr} {f:Str} {pos pos' tpos:Pos} {ta tv:TE}
theorem pe_fld(he:PE X e ta)(hb:attributeBase e f X.env (eval e X.env)=eval e X.env):PE X (.Attribute e f pos) (tFld X.K ta f):=by
 intro pins s σ H Q I h;refine attr_of hb (cG (he pins s σ H _ I h) λu s1 aE=>?_);obtain⟨x,H1,I1,rx,a,C,dx,fs,v,ex,ea,c,n,l,q⟩:=aE;subst ex;obtain rfl:u=Value.ref a:=rx;exact wX I1 ea c n l λu' s2 I2 ru=>⟨v,H1,I2,ru,q⟩
theorem JE(ha:PE X o ta)(hv:PE X value tv)(hs:swapsWith value (some (.Attribute o f pos')) pos.line X.env=pure false):PS X (.Assign [.Attribute o f pos'] value pos) (Rn X.K ta tv f):=by
 intro pins s σ H D I h;refine plainObj_wpAny_Assign_Attribute (cG (hv pins s σ H _ I h) λu s1 ⟨y,H1,I1,ry,q⟩=>cG (ha pins s1 σ H1 _ I1 q) λov s2 ⟨x,H2,I2,rx,a,C,dx,fs,ex,ea,c,n,l,q2⟩=>?_) hs;subst ex;obtain rfl:ov=Value.ref a:=rx;exact wY I2 ea c n l ry λs3 I3=>⟨σ,_,I3,q2⟩
end
section
variable {X:Cx} {pins:List (Addr×Obj)} {σ:St} {H:Hp} {s:Shared} {A:Around} {E:Value->Shared->Prop} {Q:Value->Shared->Prop} {c:Value} {b:Bool}
inductive mV (K:PySem.W.Frag) (H:Hp):V->Value->Prop where
 | non:mV K H .non (.type "NoneType")
 | bl (x:Bool):mV K H (.bl x) (.type "bool")
 | int (i:Int):mV K H (.int i) (.type "int")
 | str (x:Str):mV K H (.str x) (.type "str")
 | flt (x:UInt64):mV K H (.flt x) (.type "float")
 | lst {a:Addr} {xs:List V} (e:H a=some (.lst xs)):mV K H (.ref a) (.type "list")
 | oE {a:Addr} {o:Obj} {xs:List V} (e:H a=some (.oE o (.lst xs))):mV K H (.ref a) (.type "list")
 | tup {a:Addr} {xs:List V} (e:H a=some (.tup xs)):mV K H (.ref a) (.type "tuple")
 | dK {a:Addr} {kvs:List (Key×V)} (e:H a=some (.dK kvs)):mV K H (.ref a) (.type "dict")
 | dT {a:Addr} {kvs:List (List Key×V)} (e:H a=some (.dT kvs)):mV K H (.ref a) (.type "dict")
 | ins {a C dx:Addr} {fs:List (Str×V)} (e:H a=some (.ins C dx fs)) (cl:zY K C) (ha:findIn K (.ref C) "__class__" = some (some (.builtin "object.__class__")))
   (hn:specialIn K (.builtin "object.__class__") "__get__" = some (some (.builtin "getset_descriptor.__get__"))) (htk:takesIn K (.builtin "object.__class__")=some true)
   (hm:PySem.W.mroIn K C (.type "object")=some true):mV K H (.ref a) (.ref C)
theorem zZ(I:Inv X pins σ H s)(rx:RelV x u)(ty:mV X.K H x t)(e:kitOne X.K t c=some b)(h:∀tk,Q (.bool b) { s with toks:=tk }) :
  wpAny (model X.prog X.w) A (call (.builtin "isinstance") [u,c]) Q E s:=by
 cases ty with
 | non=>cases (show u=Value.none from rx);exact kia_one kitx_none I.jE True.intro e (λz=>nomatch z) h
 | bl y=>cases (show u=Value.bool y from rx);exact kia_one kitx_bool I.jE True.intro e (λz=>nomatch z) h
 | int i=>obtain⟨t,q⟩:=(show ∃t,u=Value.int i t from rx);cases q;exact kia_one kitx_int I.jE True.intro e (λz=>nomatch z) h
 | str y=>obtain⟨t,q⟩:=(show ∃t,u=Value.str y t from rx);cases q;exact kia_one kitx_str I.jE True.intro e (λz=>nomatch z) h
 | flt y=>obtain⟨t,q⟩:=(show ∃t,u=Value.float y t from rx);cases q;exact kia_one PySem.W.kitx_float I.jE True.intro e (λz=>nomatch z) h
 | @lst a xs ea =>cases (show u=Value.ref a from rx);obtain⟨_,_,n,_,h1⟩:=(show bE X.prog X.w H s.heap a (.lst xs) from I.hok a _ ea);exact kia_one kitx_list I.jE ⟨_,h1,rfl⟩ e (λz=>nomatch z) h
 | @oE a ob xs ea =>cases (show u=Value.ref a from rx);obtain⟨_,_,_,n,_,h1⟩:=(show bE X.prog X.w H s.heap a (.oE ob (.lst xs)) from I.hok a _ ea);exact kia_one kitx_list I.jE ⟨_,h1,rfl⟩ e (λz=>nomatch z) h
 | @tup a xs ea =>cases (show u=Value.ref a from rx);obtain⟨_,_,_,p⟩:=(show bE X.prog X.w H s.heap a (.tup xs) from I.hok a _ ea);obtain⟨o,h1,h2,_⟩:=p;exact kia_one kitx_tuple I.jE ⟨o,h1,h2⟩ e (λz=>nomatch z) h
 | @dK a kvs ea =>cases (show u=Value.ref a from rx);obtain⟨_,_,vs,_,p⟩:=(show bE X.prog X.w H s.heap a (.dK kvs) from I.hok a _ ea);obtain⟨o,es,ep,h1,h2,_⟩:=p;exact kia_one kitx_dict I.jE ⟨o,h1,h2.1⟩ e (λz=>nomatch z) h
 | @dT a kvs ea =>cases (show u=Value.ref a from rx);obtain⟨_,_,xs,_,o,es,ep,h1,h2,_⟩:=(show bE X.prog X.w H s.heap a (.dT kvs) from I.hok a _ ea);exact kia_one kitx_dict I.jE ⟨o,h1,h2.1⟩ e (λz=>nomatch z) h
 | @ins a C dx fs ea cl ha hn htk hm =>cases (show u=Value.ref a from rx);obtain⟨mA,O,_⟩:=oG I.hok ea;obtain⟨od,J,_⟩:=O.look;exact kia_one (PySem.W.kitx_own (cl.get _) cl.hd ha hn htk hm) I.jE J e (λz=>nomatch z) h
end
end L2
namespace L2
open PySem PySem.Spec PyProof.Rows
structure dQ (k:Nat) (A:Around):Prop where
 hd:A.handled=none
 dp:A.depth+3*k+5<recursionLimit
 un:A.units+16*k+200<cLine
theorem dQ.mono{j k:Nat}(r:dQ k A)(h:j<=k):dQ j A:=⟨r.hd,by have:=r.dp;omega,by have:=r.un;omega⟩
theorem dQ.deeper{k:Nat}(r:dQ (k+1) A)(env:Env):dQ k (A.deeper env) :=
 ⟨r.hd,by have:=r.dp;show A.depth+1+3*k+5<_;omega,by have:=r.un;show A.units+3+16*k+200<_;omega⟩
theorem wZ{A:Around}{C:Addr}{us:List Value}{kw:List (Str×Value)}:(A.under (.builtin "type.__call__" ⟨.ref C::us,kw⟩)).depth=A.depth+1:=by
 first|rfl|simp[Around.under,Code.weight,Code.isCreation,Code.isGuard,Code.isCaller,Code.frames,Code.isFrame,guardIds]
theorem xg{A:Around}{C:Addr}{us:List Value}{kw:List (Str×Value)}:(A.under (.builtin "type.__call__" ⟨.ref C::us,kw⟩)).units=A.units+1:=by
 first|rfl|simp[Around.under,Code.cUnits,Code.frames,Code.isFrame]
theorem dQ.make{k:Nat}(r:dQ (k+1) A)(C:Addr)(us:List Value)(kw:List (Str×Value)):dQ k (A.under (.builtin "type.__call__" ⟨.ref C::us,kw⟩)) :=
 ⟨r.hd,by have:=r.dp;rw[wZ];omega,by have:=r.un;rw[xg];omega⟩
theorem dQ.depth{k:Nat}(r:dQ k A):A.depth<recursionLimit:=by have:=r.dp;omega
theorem dQ.units{k:Nat}(r:dQ k A):A.units+64<cLine:=by have:=r.un;omega
noncomputable def JF:TA:=λ_ H Q=>Q [] H
noncomputable def Nt(ta:TE)(tr:TA):TA:=λσ H Q=>ta σ H λx H1=>tr σ H1 λxs H2=>Q (x::xs) H2
section
variable {X:Cx} {e:Expr} {es:List Expr} {te:TE} {t:TA} {pos:Pos}
theorem xh:PA X [] JF:=λ_ _ _ _ H Q I h=>Calls.spliced_nil ⟨[],H,I,.nil,h⟩
theorem lM(ha:PE X e te)(hr:PA X es t)(hs:starEach (e::es) X.env=(false,eval e X.env)::starEach es X.env:=by rfl):PA X (e::es) (Nt te t):=by
 intro pos pins s σ H Q I h;rw[hs];show wpAny _ _ (spliced ((false,eval e X.env)::backTo pos (starEach es X.env))) _ _ s;refine Calls.spliced_cons (cG (ha pins s σ H _ I h) λu s1 aE=>?_);obtain⟨x,H1,I1,r1,q1⟩:=aE;exact cG (hr pos pins s1 σ H1 _ I1 q1) λus s2 ⟨xs,H2,I2,r2,q2⟩=>⟨x::xs,H2,I2,.cons r1 r2,q2⟩
noncomputable def Ro(t:TA):TE:=λσ H Q=>t σ H λxs H1=>xs.length<=sizeLine/\∀p,H1 p=none->Q (.ref p) (upd H1 p (.tup xs))
noncomputable def Rp(t:TA):TE:=λσ H Q=>t σ H λxs H1=>xs.length<=sizeLine/\∀p,H1 p=none->Q (.ref p) (upd H1 p (.lst xs))
theorem JG{x1}(h:PA X es t):PE X (.Tuple es x1 pos) (Ro t):=by
 intro pins s σ H Q I hq;refine wpAny_Tuple_spliced (cG (h pos pins s σ H _ I hq) λus s1 ⟨xs,H1,I1,r,z,q⟩=>⟨by rw[<-r.length];exact z,?_⟩);have hf:H1 s1.heap.objs.size=none:=I1.hok.fresh (Nat.le_refl _);refine⟨.ref s1.heap.objs.size,upd H1 s1.heap.objs.size (.tup xs),I1.laid (t':=s1.toks) (λb u e=>get?_push_of_some _ e) (Nat.le_refl _) ?_,rfl,q _ hf⟩;exact⟨z,us,r,⟨_,get?_push_size _ rfl,rfl,_,rfl⟩⟩
theorem JH(h:PA X es t):PE X (.List es pos) (Rp t):=by
 intro pins s σ H Q I hq;refine wpAny_List_spliced (cG (h pos pins s σ H _ I hq) λus s1 ⟨xs,H1,I1,r,z,q⟩=>⟨by rw[<-r.length];exact z,?_⟩);have hf:H1 s1.heap.objs.size=none:=I1.hok.fresh (Nat.le_refl _);refine⟨.ref s1.heap.objs.size,upd H1 s1.heap.objs.size (.lst xs),I1.laid (t':=s1.toks) (λb u e=>get?_push_of_some _ e) (Nat.le_refl _) ?_,rfl,q _ hf⟩;exact⟨z,us,0,r,get?_push_size _ rfl⟩
end
noncomputable abbrev Sp:=List V->Hp->VK->XK->Prop
noncomputable abbrev z4:=List Env->Hp->Shared->XK->Value->Shared->Prop
structure xj (P:Program) (w:World) (K:PySem.W.Frag) (mg:Str->Option Value) (base:Heap) (A:Around) (outer:List Env) (s:Shared) (H:Hp):Prop where
 frames:A.frames=some outer
 mod:Mod K mg base
 bs:∀b o,base.get? b=some o->s.heap.get? b=some o/\H b=none
 HJ:base.objs.size<=s.heap.objs.size
 oj:s.heap.FunFrames base outer
 I0:∀b∈frs outer,H b=none
 hok:lu P w H s.heap
 bare:AllBare s.gens
noncomputable def CE(outer:List Env)(P:Program)(w:World)(H:Hp)(s:Shared)(Q:VK)(u:Value)(s':Shared):Prop :=
 ∃v H',s'.os=s.os/\AllBare s'.gens/\Un (frs outer) [] H H' s.heap s'.heap/\lu P w H' s'.heap/\RelV v u/\Q v H'
noncomputable def CR(CX:z4)(outer:List Env)(P:Program)(w:World)(H:Hp)(s:Shared)(Q:VK)(E:XK)(r:Result)(s':Shared):Prop :=
 match r with
 | .ok (.ret u)=>CE outer P w H s Q u s'
 | .ok _=>False
 | .error e=>CX outer H s E e s'
structure fz (P:Program) (w:World) (K:PySem.W.Frag) (mg:Str->Option Value) (base:Heap) (CX:z4) (k:Nat) (f:Addr) (fd:FuncData) (ps:List Str) (sp:Sp):Prop where
 len:∀vs H Q E,sp vs H Q E->vs.length=ps.length
 run:∀(A:Around) (outer:List Env) (s:Shared) (H:Hp) (args:Args) (us:List Value) (vs:List V) (Q:VK) (E:XK),dQ k A->xj P w K mg base A outer s H->BindsTo s fd args (ps.zip us)->Vals vs us->sp vs H Q E ->
  codeAny (model P w) A (.call (.ref f) args) (CR CX outer P w H s Q E) s
theorem fz.mono{P:Program}{w:World}{K:PySem.W.Frag}{mg:Str->Option Value}{base:Heap}{CX:z4}{j k:Nat}{f:Addr}{fd:FuncData}{ps:List Str}{sp:Sp}(F:fz P w K mg base CX j f fd ps sp)(h:j<=k) :
  fz P w K mg base CX k f fd ps sp:=⟨F.len,λA outer s H args us vs Q E hr=>F.run A outer s H args us vs Q E (hr.mono h)⟩
theorem fz.imp{P:Program}{w:World}{K:PySem.W.Frag}{mg:Str->Option Value}{base:Heap}{CX:z4}{k:Nat}{f:Addr}{fd:FuncData}{ps:List Str}{sp Vg:Sp}(F:fz P w K mg base CX k f fd ps sp)
  (h:∀vs H Q E,Vg vs H Q E->sp vs H Q E):fz P w K mg base CX k f fd ps Vg :=
 ⟨λvs H Q E q=>F.len vs H Q E (h _ _ _ _ q),λA outer s H args us vs Q E hr he hb hv hs=>F.run A outer s H args us vs Q E hr he hb hv (h _ _ _ _ hs)⟩
theorem xj.make{P:Program}{w:World}{K:PySem.W.Frag}{mg:Str->Option Value}{base:Heap}{A:Around}{outer:List Env}{s:Shared}{H:Hp}(e:xj P w K mg base A outer s H)(C:Addr)(us:List Value)(kw:List (Str×Value)) :
  xj P w K mg base (A.under (.builtin "type.__call__" ⟨.ref C::us,kw⟩)) outer s H:=⟨by first|exact e.frames|(simpa [Around.under,Code.envs,Code.isFrame,pushEnvs] using e.frames),e.mod,e.bs,e.HJ,e.oj,e.I0,e.hok,e.bare⟩
section
variable {X:Cx} {pins:List (Addr×Obj)} {σ:St} {H:Hp} {s s':Shared}
theorem Inv.mW(I:Inv X pins σ H s):xj X.prog X.w X.K X.mg X.base X.A X.stack s H :=
 ⟨I.ok.frames,I.ok.mod,I.bs,le_trans I.ok.HJ I.sz,I.stack,I.ym,I.hok,I.bare⟩
theorem Inv.after(I:Inv X pins σ H s)(h:CE X.stack X.prog X.w H s Q u s'):EP X pins σ Q u s':=by
 obtain⟨v,H',os,bare,un,hok,r,q⟩:=h;obtain⟨hh,g,d,t,os'⟩:=s';obtain rfl:os'=s.os:=os;exact⟨v,H',I.call (h':=hh) (g':=g) (d':=d) (t':=t) (ch:=[]) un hok bare (λb z=>absurd z (by simp)),r,q⟩
end
noncomputable def HL(sp:Sp)(qO:List V)(E:XK)(t:TA):TE:=λσ H Q=>t σ H λvs H1=>sp (vs++qO) H1 Q E
noncomputable def HM(C:Addr)(sp:Sp)(qO:List V)(E:XK)(t:TA):TE:=λσ H Q=>t σ H λvs H1=>∀x dx,H1 x=none->H1 dx=none->dx≠x ->
 sp (.ref x::(vs++qO)) (upd (upd H1 dx (.own x)) x (.ins C dx [])) (λv H2=>v=.non/\Q (.ref x) H2) E
noncomputable def Binds(K:PySem.W.Frag)(fd:FuncData)(ps:List Str)(ds:List Value):Prop :=
 ∀(s:Shared) (us:List Value),K.In s.heap->(us++ds).length=ps.length->BindsTo s fd ⟨us,[]⟩ (ps.zip (us++ds))
theorem Binds.all{K:PySem.W.Frag}{fd:FuncData}{ps:List Str}(h:∀us:List Value,us.length=ps.length->bindArgs fd ⟨us,[]⟩=pure (ps.zip us)):Binds K fd ps []:=λs us _ hl=>by
 rw[append_nil] at hl |-;exact .of_eq (h us hl)
noncomputable def Passes(CX:z4)(X:Cx)(E:XK):Prop:=∀(pins:List (Addr×Obj)) (σ:St) (H:Hp) (s:Shared) (e:Value) (s':Shared),Inv X pins σ H s->CX X.stack H s E e s'->X.xe e s'
section
variable {X:Cx} {CX:z4} {k:Nat} {f C:Addr} {fd:FuncData} {ps:List Str} {sp:Sp} {qO:List V} {ds:List Value} {E:XK} {x m:Str} {p pos apos:Pos} {e o:Expr} {es:List Expr} {ta:TE} {t:TA}
theorem o7(F:fz X.prog X.w X.K X.mg X.base CX k f fd ps sp)(hr:dQ k X.A)(hb:Binds X.K fd ps ds)(hd:Vals qO ds)(hx:Passes CX X E)
  (I:Inv X pins σ H s) (r:Vals vs us) (h:sp (vs++qO) H Q E):wpAny (model X.prog X.w) X.A (call (.ref f) us) (EP X pins σ Q) X.xe s:=by
 have r2:Vals (vs++qO) (us++ds):=r.append hd;have hl:(us++ds).length=ps.length:=by rw[<-r2.length];exact F.len _ _ _ _ h
 refine wpAny_call (codeAny_mono (F.run X.A X.stack s H ⟨us,[]⟩ (us++ds) (vs++qO) Q E hr I.mW (hb s us I.jE hl) r2 h) λr s' hq=>?_);cases r with
 | error e=>exact hx pins σ H s e s' I hq
 | ok fl =>
  cases fl with
  | ret u=>exact I.after hq
  | next=>exact False.elim hq
  | brk=>exact False.elim hq
  | cont=>exact False.elim hq
theorem EW(F:fz X.prog X.w X.K X.mg X.base CX k f fd ps sp)(hr:dQ k X.A)(hg:Gl X x)(hm:X.mg x=some (.ref f))(hk:keepIn X.K (.ref f)=true)(hb:Binds X.K fd ps ds)(hd:Vals qO ds)(hx:Passes CX X E)
  (ha:PA X (e::es) t) (hdb:(x==("__debug__":Str))=false:=by decide) (he:starEach (e::es) X.env=(false,eval e X.env)::starEach es X.env:=by rfl) (hpl:(backTo pos (starEach es X.env)).any (·.1)=false:=by rfl) :
  PE X (.Call (.Name x p) (e::es) [] pos) (HL sp qO E t):=by
 intro pins s σ H Q I h;refine wpAny_Call_Name_kw (kC I hg hm ?_ hdb);refine callWith_K (h₀:=X.base) I.ok.mod.ME hk (cG (ha pos pins s σ H _ I h) λus s1 ⟨vs,H1,I1,r,q⟩=>⟨I1.jE,?_⟩) he hpl;exact o7 F hr hb hd hx I1 r q
theorem BA(F:fz X.prog X.w X.K X.mg X.base CX k f fd ps sp)(hr:dQ k X.A)(hg:Gl X x)(hm:X.mg x=some (.ref f))(hk:keepIn X.K (.ref f)=true)(hb:Binds X.K fd ps ds)(hd:Vals qO ds)(hx:Passes CX X E)
  (hdb:(x==("__debug__":Str))=false:=by decide):PE X (.Call (.Name x p) [] [] pos) (HL sp qO E JF):=by
 intro pins s σ H Q I h;refine wpAny_Call_Name_kw (kC I hg hm ?_ hdb);exact callWith_K0 I.jE hk (o7 (us:=[]) F hr hb hd hx I .nil h)
structure Mk (K:PySem.W.Frag) (C f:Addr):Prop where
 makes:makesIn K C=true
 init:findIn K (.ref C) "__init__" = some (some (.ref f))
 fn:PySem.W.isFn K (.ref f)=true
 kp:keepIn K (.ref C)=true
theorem uE(M:Mk X.K C f)(F:fz X.prog X.w X.K X.mg X.base CX k f fd ps sp)(hr:dQ (k+1) X.A)(hb:Binds X.K fd ps ds)(hd:Vals qO ds)
  (hx:Passes CX X E) (I:Inv X pins σ H s) (r:Vals vs us)
  (h:∀x dx,H x=none->H dx=none->dx≠x->sp (.ref x::(vs++qO)) (upd (upd H dx (.own x)) x (.ins C dx [])) (λv H2=>v=.non/\Q (.ref x) H2) E) :
  wpAny (model X.prog X.w) X.A (call (.ref C) us) (EP X pins σ Q) X.xe s:=by
 have hq:=h (s.heap.objs.size+1) s.heap.objs.size (I.hok.fresh (le_succ _)) (I.hok.fresh (Nat.le_refl _)) (ne_of_lt (lt_succ_self _));have I2:=Inv.made (C:=C) I;have r2:Vals (V.ref (s.heap.objs.size+1)::(vs++qO)) (Value.ref (s.heap.objs.size+1)::(us++ds)):=.cons rfl (r.append hd);have hl:(Value.ref (s.heap.objs.size+1)::us++ds).length=ps.length:=by have e:=r2.length;rw[F.len _ _ _ _ hq] at e;exact e.symm
 refine wpAny_call (By (f:=f) I.jE M.makes M.init (beq_iff_eq.mp M.fn) (codeAny_mono (F.run _ X.stack _ _ ⟨Value.ref (s.heap.objs.size+1)::us,[]⟩ (Value.ref (s.heap.objs.size+1)::(us++ds)) _ _ E (hr.make C us [])
  (I2.mW.make C us []) (hb _ (Value.ref (s.heap.objs.size+1)::us) I2.jE hl) r2 hq) λr s' hq'=>?_))
 cases r with
 | error e=>exact hx pins σ _ _ e s' I2 hq'
 | ok fl =>
  cases fl with
  | ret u =>obtain⟨v,H',I3,rv,ev,q3⟩:=I2.after hq';subst ev;exact⟨rv,⟨V.ref (s.heap.objs.size+1),H',I3,rfl,q3⟩⟩
  | next=>exact False.elim hq'
  | brk=>exact False.elim hq'
  | cont=>exact False.elim hq'
theorem EY(M:Mk X.K C f)(F:fz X.prog X.w X.K X.mg X.base CX k f fd ps sp)(hr:dQ (k+1) X.A)(hg:Gl X x)(hm:X.mg x=some (.ref C))(hb:Binds X.K fd ps ds)(hd:Vals qO ds)(hx:Passes CX X E)
  (ha:PA X (e::es) t) (hdb:(x==("__debug__":Str))=false:=by decide) (he:starEach (e::es) X.env=(false,eval e X.env)::starEach es X.env:=by rfl) (hpl:(backTo pos (starEach es X.env)).any (·.1)=false:=by rfl) :
  PE X (.Call (.Name x p) (e::es) [] pos) (HM C sp qO E t):=by
 intro pins s σ H Q I h;refine wpAny_Call_Name_kw (kC I hg hm ?_ hdb);refine callWith_K (h₀:=X.base) I.ok.mod.ME M.kp (cG (ha pos pins s σ H _ I h) λus s1 ⟨vs,H1,I1,r,q⟩=>⟨I1.jE,?_⟩) he hpl;exact uE M F hr hb hd hx I1 r q
theorem BB(M:Mk X.K C f)(F:fz X.prog X.w X.K X.mg X.base CX k f fd ps sp)(hr:dQ (k+1) X.A)(hg:Gl X x)(hm:X.mg x=some (.ref C))(hb:Binds X.K fd ps ds)(hd:Vals qO ds)(hx:Passes CX X E)
  (hdb:(x==("__debug__":Str))=false:=by decide):PE X (.Call (.Name x p) [] [] pos) (HM C sp qO E JF):=by
 intro pins s σ H Q I h;refine wpAny_Call_Name_kw (kC I hg hm ?_ hdb);exact callWith_K0 I.jE M.kp (uE (us:=[]) M F hr hb hd hx I .nil h)
end
section
variable {X:Cx} {CX:z4} {k:Nat} {f C:Addr} {fd:FuncData} {ps ks:List Str} {sp:Sp} {E:XK} {x m:Str} {p pos apos kpos:Pos} {e o:Expr} {es:List Expr} {kws:List Keyword} {te ta:TE} {t tk:TA} {nm:Option Str}
variable {g:List Value->List Value->List Value} {gV:List V->List V->List V}
end
structure oH (N P:List Str) (sc:Scope):Prop where
 kind:sc.kind=.function
 co:sc.isCoroutine=false
 gen:sc.isGenerator=false
 nd:N.Nodup
 pre:N.take P.length=P
 par:∀x∈P,sc.names.lookup x=some .local\/sc.names.lookup x=some .cell
 JI:∀y∈sc.names,y.2≠.free
theorem rG{kindOf:Str->Option NameKind}{x:Str}:∀{binds:List (Str×Value)} {m:Str->Option Value},(∀v,(x,v)∉binds)->bindL kindOf binds m x=m x
 | [],_,_=>rfl
 | (n,v)::r,m,h=>by
  unfold bindL;rw[rG λw hw=>h w (mem_cons_of_mem _ hw)]
  split
  ·have:x≠n:=by rintro rfl;exact h v mem_cons_self
   simp[this]
  ·rfl
theorem rH{kindOf:Str->Option NameKind}{x:Str}:∀{binds:List (Str×Value)} {m:Str->Option Value},(∀v,(x,v)∉binds)->bindC kindOf binds m x=m x
 | [],_,_=>rfl
 | (n,v)::r,m,h=>by
  unfold bindC;rw[rH λw hw=>h w (mem_cons_of_mem _ hw)]
  split
  ·rfl
  ·have:x≠n:=by rintro rfl;exact h v mem_cons_self
   simp[this]
theorem rJ{kindOf:Str->Option NameKind}{x:Str}{v:Value}:∀{P:List Str} {vs:List Value} {i:Nat} {m:Str->Option Value},P.Nodup->P[i]?=some x->vs[i]?=some v->kindOf x=some .local ->
  bindL kindOf (P.zip vs) m x=some v
 | [],_,_,_,_,h,_,_=>by simp at h
 | _::_,[],_,_,_,_,h,_=>by simp at h
 | p::P,w::vs,0,m,nd,h1,h2,hk=>by
  simp at h1 h2;subst h1;subst h2;show bindL kindOf ((p,w)::P.zip vs) m p=_;unfold bindL;rw[rG λv hv=>(nodup_cons.mp nd).1 (of_mem_zip hv).1,if_pos hk];simp
 | p::P,w::vs,i+1,m,nd,h1,h2,hk=>by
  show bindL kindOf ((p,w)::P.zip vs) m x=_;unfold bindL;exact rJ (i:=i) (nodup_cons.mp nd).2 (by simpa using h1) (by simpa using h2) hk
theorem rK{kindOf:Str->Option NameKind}{x:Str}{v:Value}:∀{P:List Str} {vs:List Value} {i:Nat} {m:Str->Option Value},P.Nodup->P[i]?=some x->vs[i]?=some v->kindOf x≠some .local ->
  bindC kindOf (P.zip vs) m x=some v
 | [],_,_,_,_,h,_,_=>by simp at h
 | _::_,[],_,_,_,_,h,_=>by simp at h
 | p::P,w::vs,0,m,nd,h1,h2,hk=>by
  simp at h1 h2;subst h1;subst h2;show bindC kindOf ((p,w)::P.zip vs) m p=_;unfold bindC;rw[rH λv hv=>(nodup_cons.mp nd).1 (of_mem_zip hv).1,if_neg hk];simp
 | p::P,w::vs,i+1,m,nd,h1,h2,hk=>by
  show bindC kindOf ((p,w)::P.zip vs) m x=_;unfold bindC;exact rK (i:=i) (nodup_cons.mp nd).2 (by simpa using h1) (by simpa using h2) hk
noncomputable def start(N:List Str)(vs:List V):St:=vs.map some++replicate (N.length-vs.length) none
noncomputable def xm(CX:z4)(P:Program)(w:World)(K:PySem.W.Frag)(mg:Str->Option Value)(base:Heap)(N:List Str)(qual:Str)(scope:Scope)(f:Addr)(cd:Value)(A:Around)(outer:List Env)(s:Shared)(H:Hp)(E:XK):Cx where
 prog:=P
 w:=w
 K:=K
 mg:=mg
 base:=base
 A:=A.deeper (envOfC qual scope s.heap.objs.size f cd)
 N:=N
 s₀:=s
 H₀:=H
 env:=envOfC qual scope s.heap.objs.size f cd
 outer:=outer
 stack:=envOfC qual scope s.heap.objs.size f cd::outer
 ex:=[]
 calm:=true
 fn:=λ_=>true
 pn:=[]
 xe:=λe s'=>wpAny (model P w) (A.deeper (envOfC qual scope s.heap.objs.size f cd)) (leaving (envOfC qual scope s.heap.objs.size f cd) e) (λ_ s''=>CX outer H s E e s'') (λe' s''=>CX outer H s E e' s'') s'
theorem uF{sc:Scope}{n:Nat}{x:Str}(h:sc.names.lookup x=some .cell):∃c,(cellsFrom n sc.names []).lookup x=some c:=by
 have q:=cellsFrom_some sc.names n [] (.inl h);exact Option.isSome_iff_exists.mp q
theorem z5{CX:z4}{P:Program}{w:World}{K:PySem.W.Frag}{mg:Str->Option Value}{base:Heap}{N ps:List Str}{qual:Str}{scope:Scope}{f:Addr}{cd:Value}{A:Around}{outer:List Env}{s s1:Shared}{H:Hp}{E:XK}{us:List Value}{vs:List V}
  (S:oH N ps scope) (hd:A.handled=none) (e0:xj P w K mg base A outer s H) (hl:vs.length=ps.length) (r:Vals vs us)
  (x:InCallC s s.heap.objs.size (bindL (envOfC qual scope s.heap.objs.size f cd).kindOf (ps.zip us) λ_=>none) (cellsFrom (s.heap.objs.size+1) scope.names []) (bindC (envOfC qual scope s.heap.objs.size f cd).kindOf (ps.zip us) λ_=>none) s1) :
  Inv (xm CX P w K mg base N qual scope f cd A outer s H E) [] (start N vs) H s1:=by
 have hpl:ps.length<=N.length:=by have:=congrArg length S.pre;rw[length_take] at this;omega
 obtain⟨h1,tk,rfl,hk⟩:=x.done;have noA:∀b:Addr,b∉(xm CX P w K mg base N qual scope f cd A outer s H E).ex:=λb z=>absurd (show b∈([]:List Addr) from z) (by simp);refine⟨⟨e0.mod,S.kind,rfl,rfl,Nat.le_refl _,λy z c h1 h2=>?_,λy hy=>?_,λy c _ h=>?_,λ_=>hd,Around.frames_deeper e0.frames,.inr ⟨rfl,rfl⟩,λb z=>absurd z (noA b),e0.bs,e0.HJ,λb _ _=>noA b,λb z=>absurd z (noA b),e0.oj,e0.I0⟩,
  rfl,e0.bare,Un.kept hk,⟨_,x.toInCall.ns,λi y v h1 h2 h3=>?_⟩,λy c h=>⟨_,x.cell y c h⟩,e0.hok.fresh (Nat.le_refl _),λy c h=>?_,λp hp=>absurd (show p∈([]:List (Addr×Obj)) from hp) (by simp),e0.hok.kept hk,?_⟩
 ·exact name_of_addr x.apart (PySem.mem_of_lookup h1) (PySem.mem_of_lookup h2)
 ·have hy:scope.names.lookup y=some .cell\/scope.names.lookup y=some .free:=hy
  rcases hy with hy|hy
  ·exact uF hy
  ·exact absurd rfl (S.JI _ (PySem.mem_of_lookup hy))
 ·exact Nat.le_of_lt (x.above y c (PySem.mem_of_lookup h))
 ·have hi:i<vs.length:=by
   unfold start at h2
   by_cases hi:i<vs.length
   ·exact hi
   ·rw[getElem?_append_right (by simpa using hi)] at h2;rw[List.getElem?_replicate] at h2;split at h2<;>cases h2
  have ha:vs[i]?=some v:=by
   unfold start at h2;rw[getElem?_append_left (by simpa using hi),getElem?_map] at h2;cases e:vs[i]? with
   | none=>rw[e] at h2;cases h2
   | some a=>rw[e] at h2;cases h2;rfl
  obtain⟨u,hu,rv⟩:=r.get ha;have hp:ps[i]?=some y:=by rw[<-S.pre,List.getElem?_take_of_lt (by omega)];exact h1
  have Vh:ps.Nodup:=by rw[<-S.pre];exact S.nd.sublist (List.take_sublist _ _)
  refine⟨u,rv,?_⟩
  rcases S.par y (mem_of_getElem? hp) with k|k
  ·exact .inl ⟨k,rJ Vh hp hu k⟩
  ·obtain⟨c,e⟩:=uF (n:=s.heap.objs.size+1) k;refine .inr ⟨.inl k,c,e,?_⟩;have q:=x.cell y c e;rw[rK Vh hp hu (by show scope.names.lookup y≠_;rw[k];decide)] at q;exact q
 ·exact e0.hok.fresh (Nat.le_of_lt (x.above y c (PySem.mem_of_lookup h)))
 ·unfold start;show _=N.length;rw[length_append,length_map,List.length_replicate];omega
theorem Nu{CX:z4}{P:Program}{w:World}{K:PySem.W.Frag}{mg:Str->Option Value}{base:Heap}{k:Nat}{f:Addr}{name qual:Str}{params:Arguments}{body:List Stmt}{scope:Scope}{dV kV doc pm cdv ct oc:Value}{an od:Option Addr}
  {osl:Array (Option Value)} {N ps:List Str} {sp:Sp} (lk:K.lookup f=some ⟨oc,od,.func (PySem.W.fnOf name qual params body scope dV kV doc pm an cdv ct),osl⟩) (hcd:codeIn K cdv qual=true) (S:oH N ps scope)
  (len:∀vs H Q E,sp vs H Q E->vs.length=ps.length)
  (hbody:∀(A:Around) (outer:List Env) (s:Shared) (H:Hp) (vs:List V) (Q:VK) (E:XK),dQ k (A.deeper (envOfC qual scope s.heap.objs.size f cdv))->sp vs H Q E ->
   ∃t,wN (xm CX P w K mg base N qual scope f cdv A outer s H E) body t/\t { nx:=λ_ H'=>Q .non H',rt:=Q } (start N vs) H) :
  fz P w K mg base CX (k+1) f (PySem.W.fnOf name qual params body scope dV kV doc pm an cdv ct) ps sp:=by
 refine⟨len,λA outer s H args us vs Q E hr e0 hb r hsp=>?_⟩;have hl:=len _ _ _ _ hsp;have KX:K.In s.heap:=e0.mod.ME.keeps λb o e=>(e0.bs b o e).1;have lim:s.heap.NoLimit:=e0.mod.nolimit.keeps λb o e=>(e0.bs b o e).1;have hkind:∀y∈ps.zip us,scope.names.lookup y.1=some .local\/(scope.names.lookup y.1=some .cell/\((cellsFrom (s.heap.objs.size+1) scope.names []).lookup y.1).isSome=true):=λ⟨n,v⟩ hy=>by
  rcases S.par n (of_mem_zip hy).1 with q|q
  ·exact .inl q
  ·exact .inr ⟨q,cellsFrom_some _ _ _ (.inl q)⟩
 refine codeAny_call_function hr.depth (KX _ _ lk) rfl S.co S.gen rfl (PySem.W.codeRec_of KX hcd) (hb _ _ _ _ ?_);refine wpAny_newFunctionEnv_cells S.kind hkind λenv he s1 x=>?_;subst he;refine⟨lim.keeps x.toInCall.keep,codeAny_func ?_⟩;obtain⟨t,ht,hq⟩:=hbody A outer s H vs Q E (hr.deeper _) hsp;have I:Inv (xm CX P w K mg base N qual scope f cdv A outer s H E) [] (start N vs) H s1:=z5 S hr.hd e0 hl r x;refine wpAny_mono (ht [] s1 (start N vs) H _ I hq) (λfl s' hs=>?_) λe s' hs=>hs;have fin:∀{σ':St} {H':Hp} {v:V} {u:Value},Inv (xm CX P w K mg base N qual scope f cdv A outer s H E) [] σ' H' s'->RelV v u->Q v H'->CE outer P w H s Q u s' :=
  λ{σ' H' v u} J rv q=>⟨v,H',J.os,J.bare,J.base,J.hok,rv,q⟩
 cases fl with
 | ret u =>obtain⟨v,σ',H',J,rv,q⟩:=hs;exact fin J rv q
 | next =>obtain⟨σ',H',J,q⟩:=hs;exact fin (v:=V.non) (u:=Value.none) J rfl q
 | brk =>obtain⟨_,_,_,q⟩:=hs;exact False.elim q
 | cont =>obtain⟨_,_,_,q⟩:=hs;exact False.elim q
end L2
namespace L2
open PySem PySem.Spec PyProof.Rows
section
variable {X:Cx} {x:Str} {p pos:Pos} {e:Expr} {es:List Expr} {t:TA} {id T:String} {r:List V->Hp->VK->Prop}
noncomputable def Vi(r:List V->Hp->VK->Prop)(t:TA):TE:=λσ H Q=>t σ H λvs H1=>r vs H1 Q
theorem fT(hc:cS X (.builtin id) r)(hg:Gl X x)(hm:X.mg x=none)(hv:bootBuiltins x=some (.builtin id))(ha:PA X (e::es) t)(hn:x ≠ "__name__":=by decide)(hdb:(x==("__debug__":Str))=false:=by decide)
  (he:starEach (e::es) X.env=(false,eval e X.env)::starEach es X.env:=by rfl) (hpl:(backTo pos (starEach es X.env)).any (·.1)=false:=by rfl):PE X (.Call (.Name x p) (e::es) [] pos) (Vi r t):=by
 intro pins s σ H Q I h;refine wpAny_Call_Name_kw (iB I hg hm hv ?_ hn hdb);exact PyProof.Rows.callWith_builtin1 (cG (ha pos pins s σ H _ I h) λus s1 ⟨vs,H1,I1,r1,q1⟩=>hc pins s1 σ H1 vs us Q I1 r1 q1) he hpl
theorem kD(hc:cS X (.type T) r)(hg:Gl X x)(hm:X.mg x=none)(hv:bootBuiltins x=some (.type T))(ha:PA X (e::es) t)(hn:x ≠ "__name__":=by decide)(hdb:(x==("__debug__":Str))=false:=by decide)
  (he:starEach (e::es) X.env=(false,eval e X.env)::starEach es X.env:=by rfl) (hpl:(backTo pos (starEach es X.env)).any (·.1)=false:=by rfl):PE X (.Call (.Name x p) (e::es) [] pos) (Vi r t):=by
 intro pins s σ H Q I h;refine wpAny_Call_Name_kw (iB I hg hm hv ?_ hn hdb);exact PyProof.Rows.callWith_type1 (cG (ha pos pins s σ H _ I h) λus s1 ⟨vs,H1,I1,r1,q1⟩=>hc pins s1 σ H1 vs us Q I1 r1 q1) he hpl
end
end L2
namespace HT
open PySem PyProof.Rows
noncomputable def lexLt:List Int->List Int->Bool
 | [],[]=>false
 | [],_::_=>true
 | _::_,[]=>false
 | x::xs,y::ys=>if x=y then lexLt xs ys else decide (x<y)
theorem fB(x y:Int)(xs ys:List Int):lexLt (x::xs) (y::ys)=if x=y then lexLt xs ys else decide (x<y):=rfl
theorem qQ:lexLt [] []=false:=rfl
theorem gG(y:Int)(ys:List Int):lexLt [] (y::ys)=true:=rfl
theorem eW(x:Int)(xs:List Int):lexLt (x::xs) []=false:=rfl
section
open PySem.SeqAt
open PySem.AutoSeq1 (wpAny_loadPart')
open PySem.MeetsSeq PySem.MeetsSeq2 PySem.MeetsSeq3
end
section
variable {prog:Program} {w:World} {A:Around} {E:Value->Shared->Prop} {s:Shared}
theorem EZ(ht:IsTup s.heap t vs.toArray)(hb:IsTup s.heap b ws.toArray)(hv:vs≠[])
  (h1:ws=[]->Q (.ref t) s) (h2:ws≠[]->Q (.ref s.heap.objs.size) { s with heap:=s.heap.push { cls:=.type "tuple",data:=.seq (vs++ws).toArray } })
  (hsz:vs.length+ws.length<=sizeLine):wpAny (model prog w) A (binaryOp .Add (.ref t) (.ref b)) Q E s:=by
 obtain⟨⟨cls,dd,data,sl⟩,ho,hc,n,hd⟩:=id ht;obtain⟨⟨WS,dd2,data2,sl2⟩,ho2,hc2,n2,hd2⟩:=id hb;simp only at hc hd hc2 hd2;subst hc hd hc2 hd2;have e:vs.toArray++ws.toArray=(vs++ws).toArray:=by simp
 by_cases hw:ws=[]
 ·exact concat_meets ⟨_,ho,rfl⟩ ⟨_,ho2,rfl⟩ noFill_tuple_add seq_tuple_add PySem.F.slot_tuple_add PySem.F.entry_tuple_add (PySem.F.args_tuple_add_2 _ _)
   (tuple_addW1 t b vs.toArray ws.toArray n n2 dd dd2 sl sl2 (by simpa using hv) (by simp[hw])) ⟨ho,ho2,h1 hw⟩
 ·refine concat_meets ⟨_,ho,rfl⟩ ⟨_,ho2,rfl⟩ noFill_tuple_add seq_tuple_add PySem.F.slot_tuple_add PySem.F.entry_tuple_add (PySem.F.args_tuple_add_2 _ _)
   (tuple_addW2 t b vs.toArray ws.toArray n n2 dd dd2 sl sl2 (by simpa using hv) (by simpa using hw) (by rw[size_toArray,size_toArray];exact hsz)) ⟨ho,ho2,?_⟩
  rw[e];exact h2 hw
noncomputable def eX(n d:Nat):Option Int->Nat
 | none=>d
 | some v=>if v<0 then (v+(n:Int)).toNat else min v.toNat n
theorem JJ(n d:Nat)(hd:d<=n)(o:Option Int):eX n d o<=n:=by
 cases o with
 | none=>exact hd
 | some v =>
  show (if v<0 then (v+(n:Int)).toNat else min v.toNat n)<=n
  by_cases hv:v<0
  ·rw[if_pos hv];omega
  ·rw[if_neg hv];exact Nat.min_le_right _ _
theorem yt(v:Int)(n d:Nat):(if v<0 then max (v+(n:Int)) 0 else min v (n:Int))=((eX n d (some v):Nat):Int):=by
 show (if v<0 then max (v+(n:Int)) 0 else min v (n:Int))=(((if v<0 then (v+(n:Int)).toNat else min v.toNat n):Nat):Int)
 by_cases hv:v<0
 ·simp only[if_pos hv];omega
 ·simp only[if_neg hv];omega
theorem xq(lo hi:Option Int)(n:Nat):Builtin.Slice.sliceAdjust lo hi 1 (n:Int)=(((eX n 0 lo:Nat):Int),((eX n n hi:Nat):Int)):=by
 have h1:¬ ((1:Int)<0):=by omega
 unfold Builtin.Slice.sliceAdjust;simp only[h1,if_false];refine Prod.ext ?_ ?_
 ·cases lo with
  | none=>rfl
  | some v=>exact yt v n 0
 ·cases hi with
  | none=>rfl
  | some v=>exact yt v n n
theorem xr(i j:Nat):Builtin.Slice.slicePlaces (i:Int) (j:Int) 1=j-i:=by
 unfold Builtin.Slice.slicePlaces;have h1:(1:Int)>0:=by omega
 simp only[h1,if_true,Int.ediv_one]
 split<;>omega
theorem o8{o:Option Int}(p:IsPart v o)(h:Q o s):wpAny (model prog w) A (Builtin.Slice.slicePartIndex v) Q E s:=by
 cases p with
 | none=>exact slicePart_none h
 | int i t=>exact slicePart_int h
theorem mX{lo hi:Option Int}{n:Nat}(hs:s.heap.IsSliceOf sl vl vu .none)(pl:IsPart vl lo)(pu:IsPart vu hi)
  (h:Q (((eX n 0 lo:Nat):Int),1,eX n n hi-eX n 0 lo) s):wpAny (model prog w) A (Builtin.Slice.sliceApplied (.ref sl) (pure (n:Int))) Q E s:=by
 obtain⟨os,hos,hcs,hds⟩:=id hs;unfold Builtin.Slice.sliceApplied Builtin.Slice.sliceFields;refine wpAny_bind (wpAny_bind (wpAny_field hos hds (x:=vl) rfl (wpAny_bind (wpAny_field hos hds (x:=vu) rfl (wpAny_bind (wpAny_field hos hds (x:=.none) rfl (wpAny_pure ?_)))))));refine wpAny_bind (slicePart_none ?_);show wpAny _ _ (if ((1:Int)==0)=true then _ else _) _ _ s;rw[if_neg (by decide)];refine wpAny_bind (o8 pl (wpAny_bind (o8 pu (wpAny_bind (wpAny_pure ?_)))));show wpAny _ _ (match Builtin.Slice.sliceAdjust lo hi 1 (n:Int) with|(lo,hi)=>pure (lo,(1:Int),Builtin.Slice.slicePlaces lo hi 1)) _ _ s;rw[xq lo hi n];show wpAny _ _ (pure (((eX n 0 lo:Nat):Int),(1:Int),Builtin.Slice.slicePlaces ((eX n 0 lo:Nat):Int) ((eX n n hi:Nat):Int) 1)) _ _ s;rw[xr];exact wpAny_pure h
theorem BC(xs:Array Value)(i k:Nat):((List.range k).filterMap λ(m:Nat)=>xs[((i:Int)+(m:Int)*1).toNat]?).toArray=((xs.toList.drop i).take k).toArray:=by
 have e:(λ(m:Nat)=>xs[((i:Int)+(m:Int)*1).toNat]?)=λm=>xs[i+m]?:=by
  funext m;have:((i:Int)+(m:Int)*1).toNat=i+m:=by omega
  rw[this]
 rw[e];have:=pick_run xs i k;rw[List.filterMap_map] at this;have e2:((λx=>xs[x]?)∘λx=>i+x)=λm=>xs[i+m]?:=rfl;rw[e2] at this;rw[this]
theorem lO{lo hi:Option Int}(ht:IsTup s.heap t items)(hs:s.heap.IsSliceOf sl vl vu .none)(pl:IsPart vl lo)(pu:IsPart vu hi)
  (hw:¬ (eX items.size 0 lo=0/\eX items.size items.size hi=items.size))
  (h:Q (.ref s.heap.objs.size) { s with heap:=s.heap.push { cls:=.type "tuple",data:=.seq ((items.toList.drop (eX items.size 0 lo)).take (eX items.size items.size hi-eX items.size 0 lo)).toArray } })
  (hsz:items.size<=sizeLine):wpAny (model prog w) A (getItem (.ref t) (.ref sl)) Q E s:=by
 have yu:sizeOk (.seq ((items.toList.drop (eX items.size 0 lo)).take (eX items.size items.size hi-eX items.size 0 lo)).toArray):=by show ((items.toList.drop (eX items.size 0 lo)).take (eX items.size items.size hi-eX items.size 0 lo)).toArray.size<=sizeLine;rw[size_toArray,length_take,length_drop,length_toList];omega
 have hj:eX items.size items.size hi<=items.size:=JJ _ _ (Nat.le_refl _) hi;obtain⟨os,hos,hcs,hds⟩:=id hs;have Rq:s.TypeIs (.ref sl) "slice":=⟨os,hos,hcs⟩;unfold getItem
 try with_reducible refine wpAny_holding ?_
 first|refine wpAny_bind (wpAny_pure ?_)|skip
 refine wpAny_bind (wpAny_sequenceKey ht.typeIs (by decide) ?_);refine wpAny_bind (wpAny_callSpecial?_slot (name:=Str.ofString "__getitem__") ht.typeIs PyProof.Rows.slot_tuple_getitem
  (wpAny_call_entry PyProof.Rows.slot_tuple_getitem ht.typeIs entry_tuple_getitem ?_ (args_tuple_getitem _ _)))
 show wpAny _ _ (Builtin.Tuple.tupleItemsOf (.ref t) >>= _) _ _ s;refine wpAny_bind (tupleItemsOf_ ht ?_);refine wpAny_bind (wpAny_typeOf Rq ?_);rw[if_pos (by decide)];refine wpAny_bind (mX hs pl pu ?_);have hno:¬ ((((eX items.size 0 lo:Nat):Int)==0&&(1:Int)==1&&(eX items.size items.size hi-eX items.size 0 lo)==items.size)=true):=by intro q;rw[and_eq_true,and_eq_true] at q;have q1:((eX items.size 0 lo:Nat):Int)=0:=eq_of_beq q.1.1;have q2:eX items.size items.size hi-eX items.size 0 lo=items.size:=eq_of_beq q.2;exact hw ⟨by omega,by omega⟩
 show wpAny _ _ (if (((eX items.size 0 lo:Nat):Int)==0&&(1:Int)==1&&(eX items.size items.size hi-eX items.size 0 lo)==items.size)=true then _ else _) _ _ s;rw[if_neg hno,BC]
 first
  | exact wpAny_bind (m:=Builtin.Tuple.tupleExact _) (wpAny_newObj_type (wpAny_pure ⟨_,rfl,wpAny_pure h⟩) yu)
  | exact wpAny_bind (m:=Builtin.Tuple.tupleExact _) (wpAny_newObj_type (wpAny_bind (wpAny_pure (wpAny_pure ⟨_,rfl,wpAny_pure h⟩))) yu)
  | exact wpAny_bind (wpAny_bind (m:=Builtin.Tuple.tupleExact _) (wpAny_newObj_type (wpAny_pure (wpAny_pure ⟨_,rfl,wpAny_pure h⟩)) yu))
  | exact wpAny_bind (wpAny_bind (m:=Builtin.Tuple.tupleExact _) (wpAny_newObj_type (wpAny_pure ⟨_,rfl,wpAny_pure h⟩) yu))
end
end HT
namespace L2
open PySem PySem.Spec PyProof.Rows
noncomputable abbrev TO:=St->Hp->(Option Int->Hp->Prop)->Prop
noncomputable def PO(X:Cx)(e:Option Expr)(t:TO):Prop :=
 ∀(pins:List (Addr×Obj)) (s:Shared) (σ:St) (H:Hp) (Q:Option Int->Hp->Prop),Inv X pins σ H s->t σ H Q ->
  wpAny (model X.prog X.w) X.A (evalPart e X.env) (λu s'=>∃o H',Inv X pins σ H' s'/\IsPart u o/\Q o H') X.xe s
noncomputable def E1:TO:=λ_ H Q=>Q none H
noncomputable def Nv(t:TE):TO:=λσ H Q=>t σ H λx H1=>∃i,x=.int i/\Q (some i) H1
theorem intsAre_of{ns:List Int}:∀{us:List Value},Vals (ns.map V.int) us->IntsAre us ns:=by
 induction ns with
 | nil=>intro us r;rw[map_nil] at r;cases r;exact .nil
 | cons n ns ih =>
  intro us r;rw[map_cons] at r;cases r with
  | cons r1 r2 =>obtain⟨t,e⟩:=r1;subst e;exact .cons n t (ih r2)
section
variable {X:Cx} {e:Expr} {te:TE} {lo hi:Option Expr} {tl th:TO} {pos p2:Pos}
theorem E2:PO X none E1:=by
 intro pins s σ H Q I h;rw[evalPart_none];exact wpAny_pure ⟨none,H,I,.none,h⟩
theorem E4(h:PE X e te):PO X (some e) (Nv te):=by
 intro pins s σ H Q I hw;rw[evalPart_some];refine cG (h pins s σ H _ I hw) λu s1 aE=>?_;obtain⟨x,H1,I1,r1,q1⟩:=aE;obtain⟨i,rfl,q⟩:=q1;obtain⟨t,rfl⟩:=r1;exact⟨some i,H1,I1,.int i t,q⟩
noncomputable def Qq(X:Cx)(r:V->Option Int->Option Int->Hp->VK->Prop):Prop :=
 ∀(pins:List (Addr×Obj)) (s:Shared) (σ:St) (H:Hp) (x:V) (v vl vu:Value) (lo hi:Option Int) (sl:Addr) (Q:VK),Inv X pins σ H s->RelV x v->s.heap.IsSliceOf sl vl vu .none->IsPart vl lo->IsPart vu hi->r x lo hi H Q ->
  ∃T id,typeLookup (.type T) "__getitem__" = pure (some (.builtin id))/\s.TypeIs v T/\wpAny (model X.prog X.w) X.A (getItem v (.ref sl)) (EP X pins σ Q) X.xe s
noncomputable def WU(r:V->Option Int->Option Int->Hp->VK->Prop)(te:TE)(tl th:TO):TE:=λσ H Q=>te σ H λx H1=>tl σ H1 λl H2=>th σ H2 λu H3=>r x l u H3 Q
theorem BD(hr:Qq X r)(he:PE X e te)(hl:PO X lo tl)(hu:PO X hi th):PE X (.Subscript e (.Slice lo hi none p2) pos) (WU r te tl th):=by
 intro pins s σ H Q I h;refine Subscript_ (cG (he pins s σ H _ I h) λv s1 aE=>?_);obtain⟨x,H1,I1,r1,q1⟩:=aE;refine wpAny_Slice (cG (hl pins s1 σ H1 _ I1 q1) λvl s2 ⟨l,H2,I2,pl,q2⟩=>cG (hu pins s2 σ H2 _ I2 q2) λvu s3 aE=>?_);obtain⟨u,H3,I3,pu,q3⟩:=aE;rw[evalPart_none];refine wpAny_pure ?_;have I4:Inv X pins σ H3 { s3 with heap:=s3.heap.push { cls:=.type "slice",data:=.fields #[vl,vu,.none] } }:=I3.kept (t':=s3.toks) λb ob q=>get?_push_of_some _ q;obtain⟨T,id,hT,ht,hg⟩:=hr pins { s3 with heap:=s3.heap.push { cls:=.type "slice",data:=.fields #[vl,vu,.none] } } σ H3 x v vl vu l u s3.heap.objs.size Q I4 r1 (Heap.IsSliceOf.new ..) pl pu q3;show wpAny (model X.prog X.w) X.A (subscriptTail e (.Slice lo hi none p2) v (.ref s3.heap.objs.size)) (EP X pins σ Q) X.xe { s3 with heap:=s3.heap.push { cls:=.type "slice",data:=.fields #[vl,vu,.none] } };exact tail_any (ops:=[.ref s3.heap.objs.size,v]) ht hT hg (by with_unfolding_all rfl)
noncomputable def uG(xs:List V)(lo hi:Option Int):List V:=(xs.drop (HT.eX xs.length 0 lo)).take (HT.eX xs.length xs.length hi-HT.eX xs.length 0 lo)
theorem nS(xs:List V)(lo hi:Option Int):(uG xs lo hi).length<=xs.length:=by
 unfold uG;rw[length_take,length_drop];omega
noncomputable def Rt(K:PySem.W.Frag):V->Option Int->Option Int->Hp->VK->Prop:=λx lo hi H Q=>∃a xs,x=.ref a/\jF K H a xs /\
 ¬ (HT.eX xs.length 0 lo=0/\HT.eX xs.length xs.length hi=xs.length)/\∀p,H p=none->Q (.ref p) (upd H p (.tup (uG xs lo hi)))
theorem JK:Qq X (Rt X.K):=by
 intro pins s σ H x v vl vu lo hi sl Q I rx hs pl pu h;obtain⟨a,xs,rfl,hx,hw,q⟩:=h;cases rx;obtain⟨its,r,ht,hz⟩:=I.tuple hx;have hlen:its.toArray.size=xs.length:=by rw[size_toArray];exact r.length.symm
 refine⟨"tuple",_,PyProof.Rows.slot_tuple_getitem.lookup,ht.typeIs,?_⟩;refine HT.lO ht hs pl pu (by rw[hlen];exact hw) ?_ (by rw[hlen];exact hz);rw[hlen];refine⟨.ref s.heap.objs.size,_,I.laid (t':=s.toks) (o:=.tup (uG xs lo hi)) (λb ob q=>get?_push_of_some _ q) (Nat.le_refl _) ?_,rfl,q _ (I.hok.fresh (Nat.le_refl _))⟩;exact⟨le_trans (nS xs lo hi) hz,_,(r.drop (HT.eX xs.length 0 lo)).take (HT.eX xs.length xs.length hi-HT.eX xs.length 0 lo),IsTup.new _ _⟩
noncomputable def Nx(K:PySem.W.Frag):R2:=λx y H Q=>∃a b xs ys,x=.ref a/\y=.ref b/\jF K H a xs/\jF K H b ys/\xs≠[]/\xs.length+ys.length<=sizeLine /\
 (ys=[]->Q (.ref a) H)/\(ys≠[]->∀p,H p=none->Q (.ref p) (upd H p (.tup (xs++ys))))
theorem Vals.sU(r:Vals xs us):us=[]↔xs=[]:=by
 cases r with
 | nil=>simp
 | cons _ _=>simp
theorem E5:jP X (binaryOp .Add) (Nx X.K):=by
 intro pins s σ H x y v u Q I rx ry h;obtain⟨a,b,xs,ys,rfl,rfl,ha,hb,hx,hz,q1,q2⟩:=h;cases rx;cases ry;obtain⟨its,r1,p1,_⟩:=I.tuple ha;obtain⟨its2,r2,p2,_⟩:=I.tuple hb;refine HT.EZ p1 p2 (λz=>hx (r1.sU.mp z)) (λz=>⟨.ref a,H,I,rfl,q1 (r2.sU.mp z)⟩) (λz=>?_) (by rw[<-r1.length,<-r2.length];exact hz);refine⟨.ref s.heap.objs.size,_,I.laid (t':=s.toks) (o:=.tup (xs++ys)) (λb ob q=>get?_push_of_some _ q) (Nat.le_refl _) ?_,rfl,q2 (λw=>z (r2.sU.mpr w)) _ (I.hok.fresh (Nat.le_refl _))⟩;exact⟨by rw[length_append];exact hz,_,r1.append r2,IsTup.new _ _⟩
end
end L2
namespace L2
open PySem PySem.Spec PyProof.Rows
noncomputable def z6(n:Nat)(i:Int):Option Nat:=if 0<=i then (if i<n then some i.toNat else none) else if -(n:Int)<=i then some (i+n).toNat else none
noncomputable def jQ{α:Type}(xs:List α)(i:Int):Option α:=(z6 xs.length i).bind λj=>xs[j]?
theorem yv{n:Nat}{i:Int}{j:Nat}(h:z6 n i=some j):seqIndex? i n=some j/\j<n /\ -(n:Int)<=i/\i<n:=by
 unfold z6 at h
 by_cases h0:0<=i
 ·rw[if_pos h0] at h
  by_cases h1:i<n
  ·rw[if_pos h1] at h;have e:i.toNat=j:=Option.some.inj h;exact⟨by rw[seqIndex_of h0 h1,e],by omega,by omega,h1⟩
  ·rw[if_neg h1] at h;cases h
 ·rw[if_neg h0] at h
  by_cases h1:-(n:Int)<=i
  ·rw[if_pos h1] at h;have e:(i+n).toNat=j:=Option.some.inj h;exact⟨by rw[seqIndex_neg (by omega) h1,e],by omega,h1,by omega⟩
  ·rw[if_neg h1] at h;cases h
theorem sV{α:Type}{xs:List α}{i:Int}{v:α}(h:jQ xs i=some v):∃j,seqIndex? i xs.length=some j/\xs[j]?=some v/\j<xs.length /\ -(xs.length:Int)<=i/\i<xs.length:=by
 unfold jQ at h;cases e:z6 xs.length i with
 | none=>rw[e] at h;cases h
 | some j =>rw[e] at h;obtain⟨h1,h2,h3,h4⟩:=yv e;exact⟨j,h1,h,h2,h3,h4⟩
theorem lQ{α:Type}{xs:List α}{j:Nat}{v:α}(h:xs[j]?=some v):jQ xs (j:Int)=some v:=by
 have hj:j<xs.length:=(List.getElem?_eq_some_iff.mp h).1;have e:z6 xs.length (j:Int)=some j:=by unfold z6;rw[if_pos (by omega),if_pos (by omega)];simp
 unfold jQ;rw[e];exact h
noncomputable def yw(b:Expr):Prop:=∀o i,subscripted b false o i=operate [o,i] (getItem o i)
noncomputable def MH(X:Cx)(r:R2):Prop :=
 ∀(value slice:Expr) (pins:List (Addr×Obj)) (s:Shared) (σ:St) (H:Hp) (x y:V) (v u:Value) (Q:VK),Inv X pins σ H s->RelV x v->RelV y u->r x y H Q ->
  subscripted slice false v u=operate [v,u] (getItem v u)->wpAny (model X.prog X.w) X.A (subscriptTail value slice v u) (EP X pins σ Q) X.xe s
noncomputable def Ny(X:Cx)(id:String)(r:V->List V->Hp->VK->Prop):Prop :=
 ∀(pins:List (Addr×Obj)) (s:Shared) (σ:St) (H:Hp) (x:V) (xs:List V) (v:Value) (us:List Value) (Q:VK),Inv X pins σ H s->RelV x v->Vals xs us->r x xs H Q ->
  wpAny (model X.prog X.w) X.A (call (.builtin id) (v::us)) (EP X pins σ Q) X.xe s
section
variable {X:Cx} {a b:Expr} {ta tb:TE} {pos:Pos}
theorem Nz(hr:MH X r)(ha:PE X a ta)(hb:PE X b tb)(hs:yw b):PE X (.Subscript a b pos) (Qp r ta tb):=by
 intro pins s σ H Q I h;exact Subscript_ (Ju ha hb I h λv u s2 x y H2 I2 rx ry q=>hr a b pins s2 σ H2 x y v u Q I2 rx ry q (hs _ _))
noncomputable def Ru(K:PySem.W.Frag):R2:=λx y H Q=>∃p xs i v,x=.ref p/\y=.int i/\iu K H p xs/\jQ xs i=some v/\Q v H
noncomputable def Rv(K:PySem.W.Frag):R2:=λx y H Q=>∃p xs i v,x=.ref p/\y=.int i/\jF K H p xs/\jQ xs i=some v/\Q v H
noncomputable def Rw:R2:=λx y H Q=>∃z i c,x=.str z/\y=.int i/\z.length<=sizeLine/\jQ z.cps.toList i=some c/\Q (.str ⟨#[c]⟩) H
theorem yx:MH X (Ru X.K):=by
 intro value slice pins s σ H x y v u Q I rx ry h hs;obtain⟨p,xs,i,z,rfl,rfl,hq,he,q⟩:=h;cases rx;obtain⟨t,rfl⟩:=ry;obtain⟨its,r,pl,hz⟩:=I.list hq;obtain⟨j,h1,h2,h3,h4,h5⟩:=sV he;obtain⟨w,ew,rw'⟩:=r.get h2;have hl:=r.length;have hn:=mT;have fin:EP X pins σ Q w s:=⟨z,H,I,rw',q⟩
 by_cases h0:0<=i
 ·have hj:i.toNat=j:=by
   rw[seqIndex_of h0 h5] at h1;exact Option.some.inj h1
  exact item_listR pl.isList h0 (by omega) (by rw[hj];simpa using ew) fin hs
 ·have hj:(i+(its.toArray.size:Int)).toNat=j:=by
   rw[seqIndex_neg (by omega) h4] at h1;rw[size_toArray,<-hl];exact Option.some.inj h1
  exact subscriptTail_builtinR (x:=w) pl.isList.typeIs slot_list_getitem.lookup
   (wpAny_getItem_list_neg (Q:=λr s'=>r=w/\EP X pins σ Q r s') pl.isList (by omega) (by rw[size_toArray]<;>omega) (by omega) (by rw[hj];simpa using ew) ⟨rfl,fin⟩) hs
theorem JL:MH X (Rv X.K):=by
 intro value slice pins s σ H x y v u Q I rx ry h hs;obtain⟨p,xs,i,z,rfl,rfl,hq,he,q⟩:=h;cases rx;obtain⟨t,rfl⟩:=ry;obtain⟨its,r,pl,hz⟩:=I.tuple hq;obtain⟨j,h1,h2,h3,h4,h5⟩:=sV he;obtain⟨w,ew,rw'⟩:=r.get h2;have hl:=r.length;have hn:=mT;have fin:EP X pins σ Q w s:=⟨z,H,I,rw',q⟩;exact subscriptTail_builtinR (x:=w) pl.typeIs slot_tuple_getitem.lookup
  (getItem_tuple (j:=j) (Q:=λr s'=>r=w/\EP X pins σ Q r s') pl (by omega) (by omega) (by rw[size_toArray,<-hl];exact h1) (by simpa using ew) ⟨rfl,fin⟩) hs
theorem JM:MH X Rw:=by
 intro value slice pins s σ H x y v u Q I rx ry h hs;obtain⟨z,i,c,rfl,rfl,hz,he,q⟩:=h;obtain⟨t,rfl⟩:=rx;obtain⟨t',rfl⟩:=ry;obtain⟨j,h1,h2,h3,h4,h5⟩:=sV he;have hl:z.cps.toList.length=z.length:=by simp[Str.length]
 rw[hl] at h1 h4 h5;have hn:=mT;exact tail_any (typeIs_str s z t) slot_str_getitem.lookup (getItem_str (c:=c) (by
  have e1:decide (i < -(2 ^ 63:Int))=false:=decide_eq_false (by omega);have e2:decide (i≥2 ^ 63)=false:=decide_eq_false (by omega);rw[e1,e2,Bool.or_false]) (by rw[h1];simpa using h2) ⟨.str ⟨#[c]⟩,H,I.tok _,⟨_,rfl⟩,q⟩) hs
theorem xu(its:List Value)(n j:Nat)(u:Value):Obj.mapSeq (·.setIfInBounds j u) { cls:=.type "list",data:=.seq its.toArray n }={ cls:=.type "list",data:=.seq (its.set j u).toArray n }:=by
 simp[Obj.mapSeq]
theorem Inv.lst{pins:List (Addr×Obj)}{σ:St}{H:Hp}{s:Shared}{p:Addr}{xs:List V}(I:Inv X pins σ H s)(h:H p=some (.lst xs)) :
  ∃(its:List Value) (n:Nat),Vals xs its/\s.heap.get? p=some { cls:=.type "list",data:=.seq its.toArray n }/\xs.length<=sizeLine:=by
 obtain⟨z,its,n,r,e⟩:=I.hok p _ h;exact⟨its,n,r,e,z⟩
theorem Inv.JN{pins:List (Addr×Obj)}{σ:St}{H:Hp}{s:Shared}{p:Addr}{xs ys:List V}{its its':List Value}{n n':Nat}{f:Obj->Obj}(I:Inv X pins σ H s)(h:H p=some (.lst xs))
  (ho:s.heap.get? p=some { cls:=.type "list",data:=.seq its.toArray n }) (hf:f { cls:=.type "list",data:=.seq its.toArray n }={ cls:=.type "list",data:=.seq its'.toArray n' }) (r:Vals ys its') (hz:ys.length<=sizeLine) (t:Nat) :
  Inv X pins σ (upd H p (.lst ys)) { s with heap:=s.heap.update p f,toks:=t }:=by
 have e:(s.heap.update p f).get? p=some { cls:=.type "list",data:=.seq its'.toArray n' }:=by rw[get?_update_self f ho (by rw[hf]<;>rfl),hf]
 refine I.write (x:=p) (e:=p) (by rw[h];trivial) (.inl rfl) (λb u hb q=>(get?_update_other _ _ (Ne.symm hb)).trans q) ⟨_,e⟩ ?_;exact⟨hz,its',n',r,e⟩
noncomputable def NB:V->V->V->Hp->(Hp->Prop)->Prop:=λo i v H Q=>∃p xs k j,o=.ref p/\i=.int k/\H p=some (.lst xs)/\z6 xs.length k=some j/\Q (upd H p (.lst (xs.set j v)))
theorem set_list:Jp X NB:=by
 intro pins s σ H o i v ov iv u Q I ro ri rv h;obtain⟨p,xs,k,j,rfl,rfl,hp,hj,q⟩:=h;cases ro;obtain⟨t,rfl⟩:=ri;obtain⟨its,n,r,ho,hz⟩:=I.lst hp;obtain⟨h1,h2,h3,h4⟩:=yv hj;have hl:=r.length;have hn:=mT;have I':Inv X pins σ (upd H p (.lst (xs.set j v))) { s with heap:=s.heap.update p (Obj.mapSeq (·.setIfInBounds j u)) } :=
  I.JN hp ho (xu its n j u) (r.set rv j) (by rw[length_set];exact hz) s.toks
 by_cases h0:0<=k
 ·have hk:k.toNat=j:=by
   rw[seqIndex_of h0 h4] at h1;exact Option.some.inj h1
  exact PySem.W.ki_setAt ho h0 (by omega) (by rw[size_toArray,<-hl];exact h4) (by rw[hk];exact⟨_,I',q⟩)
 ·have hk:(k+(its.toArray.size:Int)).toNat=j:=by
   rw[seqIndex_neg (by omega) h3] at h1;rw[size_toArray,<-hl];exact Option.some.inj h1
  exact PySem.W.ki_setBack ho (by omega) (by rw[size_toArray,<-hl];exact h3) (by omega) (by rw[hk];exact⟨_,I',q⟩)
theorem sW(lo hi:Option Int)(n:Nat):(sliceBounds lo hi none n).1=((HT.eX n 0 lo:Nat):Int)/\(sliceBounds lo hi none n).2.1=((HT.eX n n hi:Nat):Int)/\(sliceBounds lo hi none n).2.2=1:=by
 refine⟨?_,?_,rfl⟩
 ·cases lo with
  | none=>simp[sliceBounds,HT.eX]
  | some i =>
   simp only[sliceBounds,HT.eX,getD_none,show (1:Int)>0 by decide,if_true]
   by_cases h:i<0
   ·simp only[h,if_true]<;>omega
   ·simp only[h,if_false]<;>omega
 ·cases hi with
  | none=>simp[sliceBounds,HT.eX]
  | some i =>
   simp only[sliceBounds,HT.eX,getD_none,show (1:Int)>0 by decide,if_true]
   by_cases h:i<0
   ·simp only[h,if_true]<;>omega
   ·simp only[h,if_false]<;>omega
theorem qR(its:List Value)(lo hi:Option Int):slicePick its.toArray lo hi none=((its.drop (HT.eX its.length 0 lo)).take (HT.eX its.length its.length hi-HT.eX its.length 0 lo)).toArray:=by
 obtain⟨h1,h2,h3⟩:=sW lo hi its.toArray.size;unfold slicePick;rw[h1,h2,h3];simp only[sliceRange_one,pick_run,size_toArray]<;>rfl
noncomputable def Rx(K:PySem.W.Frag):V->Option Int->Option Int->Hp->VK->Prop:=λx lo hi H Q=>∃a xs,x=.ref a/\iu K H a xs/\∀p,H p=none->Q (.ref p) (upd H p (.lst (uG xs lo hi)))
theorem E6:Qq X (Rx X.K):=by
 intro pins s σ H x v vl vu lo hi sl Q I rx hs pl pu h;obtain⟨a,xs,rfl,hx,q⟩:=h;cases rx;obtain⟨its,r,ht,hz⟩:=I.list hx;have hlen:=r.length;refine⟨"list",_,slot_list_getitem.lookup,ht.isList.typeIs,?_⟩;refine wpAny_getItem_list_slice ht.isList hs pl pu .none (by simp) ?_ (by rw[size_toArray]<;>omega);rw[qR,<-hlen];refine⟨.ref s.heap.objs.size,_,I.laid (t':=s.toks) (o:=.lst (uG xs lo hi)) (λb ob q=>get?_push_of_some _ q) (Nat.le_refl _) ?_,rfl,q _ (I.hok.fresh (Nat.le_refl _))⟩;exact⟨le_trans (nS xs lo hi) hz,_,0,(r.drop (HT.eX xs.length 0 lo)).take (HT.eX xs.length xs.length hi-HT.eX xs.length 0 lo),get?_push_size _ rfl⟩
noncomputable def ck:V->Bool
 | .non=>true
 | .bl _=>true
 | .int _=>true
 | .str _=>true
 | _=>false
theorem sX:cS X (.type "list") (λxs H Q=>∃p ys,xs=[.ref p]/\(iu X.K H p ys\/jF X.K H p ys)/\∀l,H l=none->Q (.ref l) (upd H l (.lst ys))):=by
 intro pins s σ H xs us Q I r h;obtain⟨p,ys,rfl,hq,q⟩:=h;obtain⟨u,rfl,rx⟩:=vals1 r;cases rx;have fin:∀(its:List Value),Vals ys its->ys.length<=sizeLine->∀(h':Heap) (c':Nat),(∀b o',s.heap.get? b=some o'->h'.get? b=some o') ->
   h'.get? s.heap.objs.size=some { cls:=.type "list",dict:=none,data:=.seq its.toArray c',slots:=#[] }->EP X pins σ Q (.ref s.heap.objs.size) { s with heap:=h' }:=λits r' hz h' c' kp e =>
  ⟨.ref s.heap.objs.size,_,I.laid (t':=s.toks) kp (Nat.le_refl _) (show bE X.prog X.w _ h' _ (.lst ys) from⟨hz,its,c',r',e⟩),rfl,q _ (I.hok.fresh (Nat.le_refl _))⟩
 rcases hq with hq|hq
 ·obtain⟨its,r',pl,hz⟩:=I.list hq;have hlen:=r'.length;obtain⟨o,ho,hc,n,hd⟩:=pl.isList;exact call_list_seq p (.inl rfl) ho hc hd (λh' c' kp e=>fin its r' hz h' c' kp e) (by simp only[size_toArray]<;>omega)
 ·obtain⟨its,r',pl,hz⟩:=I.tuple hq;have hlen:=r'.length;obtain⟨o,ho,hc,n,hd⟩:=pl;exact call_list_seq p (.inr rfl) ho hc hd (λh' c' kp e=>fin its r' hz h' c' kp e) (by simp only[size_toArray]<;>omega)
noncomputable def Ry(K:PySem.W.Frag)(T:String)(x:V)(H:Hp):Prop:=match x with
 | .str _=>T = "str"
 | .int _=>T = "int"
 | .ref p=>(T = "list" /\ ∃xs,iu K H p xs)\/(T = "tuple" /\ ∃o,K.lookup p=some o/\o.cls=.type "tuple" /\ o.dict=none) \/
   (T = "dict" /\ ((∃kvs,H p=some (.dK kvs))\/∃kvs,H p=some (.dT kvs)))\/(T = "set" /\ ∃S n,H p=some (.set S n))
 | _=>False
theorem JO{T:String}(I:Inv X pins σ H s)(r:RelV x v)(ty:Ry X.K T x H) :
  s.TypeIs v T/\∀a,v=.ref a->∃ob,s.heap.get? a=some ob/\ob.dict=none:=by
 cases x with
 | str z =>obtain⟨t,rfl⟩:=r;cases (show T = "str" from ty);exact⟨typeIs_str s z t,λ_ e=>nomatch e⟩
 | int i =>obtain⟨t,rfl⟩:=r;cases (show T = "int" from ty);exact⟨typeIs_int s i t,λ_ e=>nomatch e⟩
 | ref p =>
  cases r
  rcases ty with ⟨rfl,xs,hq⟩|⟨rfl,o,hk,hc,hd⟩|⟨rfl,hk⟩|⟨rfl,S,n,hk⟩
  ·obtain⟨its,_,pl,_⟩:=I.list hq;refine⟨pl.isList.typeIs,λa e=>?_⟩;cases e;obtain⟨o,n,e,c,hd,_⟩:=pl;exact⟨o,e,hd⟩
  ·refine⟨⟨o,I.jE p o hk,hc⟩,λa e=>?_⟩;cases e;exact⟨o,I.jE _ o hk,hd⟩
  ·have z:∃o,s.heap.get? p=some o/\o.ExactDict:=by
    rcases hk with ⟨kvs,hk⟩|⟨kvs,hk⟩
    ·obtain⟨_,_,_,_,o,_,_,e,ex,_⟩:=I.hok p _ hk;exact⟨o,e,ex⟩
    ·obtain⟨_,_,_,_,o,_,_,e,ex,_⟩:=I.hok p _ hk;exact⟨o,e,ex⟩
   obtain⟨o,e,ex⟩:=z;refine⟨⟨o,e,ex.1⟩,λa e2=>?_⟩;cases e2;exact⟨o,e,ex.2.1⟩
  ·obtain⟨o,_,_,_,e,ex,_⟩:=I.hok p _ hk;refine⟨⟨o,e,ex.1⟩,λa e2=>?_⟩;cases e2;exact⟨o,e,ex.2.1⟩
 | _=>exact False.elim ty
noncomputable def Vj(K:PySem.W.Frag)(T:String)(r:V->List V->Hp->VK->Prop)(to:TE)(t:TA):TE:=λσ H Q=>to σ H λx H1=>Ry K T x H1/\t σ H1 λxs H2=>r x xs H2 Q
variable {o e:Expr} {es:List Expr} {to:TE} {t:TA} {name:Str} {apos cpos:Pos} {T id:String} {r:V->List V->Hp->VK->Prop}
theorem BE(pa:PlainAttrs T)(slot:Slot T name id)(hty:typeOf (.builtin id)=pure (.type "method_descriptor"))(hm:Ny X id r)(ho:PE X o to)(ha:PA X (e::es) t)
  (hbase:attributeBase o name X.env (eval o X.env)=eval o X.env:=by rfl)
  (hfew:((backTo cpos (starEach (e::es) X.env)).all (λx=>!x.1)&&(backToKw cpos (keywordEach [] X.env)).all (λx=>x.1.isSome)
   && decide ((e::es).length+([]:List Keyword).length+(if ([]:List Keyword).isEmpty then 0 else 1)<30))=true:=by rfl)
  (hline:(apos.endLine==cpos.line)=true:=by rfl) (hs:starEach (e::es) X.env=(false,eval e X.env)::starEach es X.env:=by rfl) (hplain:(backTo cpos (starEach es X.env)).any (·.1)=false:=by rfl) :
  PE X (.Call (.Attribute o name apos) (e::es) [] cpos) (Vj X.K T r to t):=by
 intro pins s σ H Q I h;refine wpAny_Call_method_late hbase hfew hline rfl (cG (ho pins s σ H _ I h) λv s1 aE=>?_);obtain⟨x,H1,I1,r1,ty,q1⟩:=aE;obtain⟨h1,h2⟩:=JO I1 r1 ty;refine⟨T,id,pa,slot,hty,h1,h2,?_⟩;have hA:=ha cpos pins s1 σ H1 _ I1 q1;rw[hs] at hA |-;refine Calls.callWith_builtin (by show (false||(backTo cpos (starEach es X.env)).any (·.1))=false;rw[hplain]<;>rfl) (Calls.evalArgs_plain ?_);exact cG hA λus s2 ⟨vs,H2,I2,r2,q2⟩=>hm pins s2 σ H2 x vs v us Q I2 r1 r2 q2
/- xs.append(e),list.index on a NC tuple .. are Ny facts of 06m -/
end
end L2
namespace L2
open PySem PySem.Spec PyProof.Rows
noncomputable def Rz(X:Cx)(id:String)(r:V->List V->Hp->VK->Prop):Prop :=
 ∀(pins:List (Addr×Obj)) (s:Shared) (σ:St) (H:Hp) (x:V) (xs:List V) (v:Value) (us:List Value) (Q:VK),Inv X pins σ H s->RelV x v->Vals xs us->r x xs H Q ->
  wpAny (model X.prog X.w) X.A (call (.builtin id) (v::us)) (EP X pins σ Q) X.xe s
theorem Vals.one:∀{x:V} {us:List Value},Vals [x] us->∃u,us=[u]/\RelV x u
 | _,_,.cons r .nil=>⟨_,rfl,r⟩
section
variable {X:Cx} {pins:List (Addr×Obj)} {σ:St} {H:Hp} {s:Shared} {l b:Addr} {xs ys zs:List V}
theorem Inv.JP{its its':List Value}{n:Nat}{f:Array Value->Array Value}{t':Nat}(I:Inv X pins σ H s)(hH:H l=some (.lst xs))
  (e:s.heap.get? l=some { cls:=.type "list",data:=.seq its.toArray n }) (hf:f its.toArray=its'.toArray) (hv:Vals ys its') (hz:ys.length<=sizeLine) :
  Inv X pins σ (upd H l (.lst ys)) { s with heap:=s.heap.update l (Obj.mapSeq f),toks:=t' }:=by
 have q:=PySem.IsL.update e f;rw[hf] at q;refine I.write (x:=l) (e:=l) (by rw[hH];exact trivial) (.inl rfl) (λb' u hb hu=>(get?_update_other s.heap (Obj.mapSeq f) (Ne.symm hb)).trans hu) ⟨_,q⟩ ?_;exact⟨hz,its',_,hv,q⟩
theorem Inv.RA{t':Nat}(I:Inv X pins σ H s)(hv:Vals ys its)(hz:ys.length<=sizeLine) :
  Inv X pins σ (upd H s.heap.objs.size (.lst ys)) { s with heap:=s.heap.push { cls:=.type "list",data:=.seq its.toArray },toks:=t' } :=
 I.laid (λ_ _ q=>get?_push_of_some _ q) (Nat.le_refl _) ⟨hz,its,0,hv,get?_push_size _ rfl⟩
theorem Inv.E7(I:Inv X pins σ H s)(hH:H l=some (.lst xs)):xs.length<=sizeLine/\∃(its:List Value) (n:Nat),Vals xs its/\xs.length=its.length/\s.heap.get? l=some { cls:=.type "list",data:=.seq its.toArray n }:=by
 obtain⟨z,its,n,r,e⟩:=I.hok l _ hH;exact⟨z,its,n,r,r.length,e⟩
theorem uH{n:Nat}(h:n<=sizeLine):Builtin.List.listTooLong n=false:=by
 unfold Builtin.List.listTooLong;exact decide_eq_false (by omega)
end
section
variable {X:Cx}
noncomputable def E8:V->List V->Hp->VK->Prop:=λx vs H Q=>∃l xs y,x=.ref l/\vs=[y]/\H l=some (.lst xs)/\xs.length<sizeLine/\Q .non (upd H l (.lst (xs++[y])))
theorem rL:Rz X "list.append" E8:=by
 intro pins s σ H x vs v us Q I rx rv h;obtain⟨l,xs,y,rfl,rfl,hH,hz,q⟩:=h;cases rx;obtain⟨u,rfl,ru⟩:=rv.one;obtain⟨z,its,n,r,hl,e⟩:=I.E7 hH;refine call_meets F.slot_list_append ⟨_,e,rfl⟩ F.entry_list_append (F.args_list_append_2 _ _) (PySem.list_append l its.toArray n u (by rw[size_toArray];omega)) ⟨e,?_⟩;refine⟨.non,_,I.JP (its':=its++[u]) hH e (by simp) (r.append (.cons ru .nil)) ?_,rfl,q⟩;rw[length_append,List.length_singleton];omega
noncomputable def E9:V->List V->Hp->VK->Prop:=λx vs H Q=>∃l b xs zs,x=.ref l/\vs=[.ref b]/\H l=some (.lst xs)/\H b=some (.lst zs)/\xs.length+zs.length<=sizeLine/\Q .non (upd H l (.lst (xs++zs)))
theorem z7:Rz X "list.extend" E9:=by
 intro pins s σ H x vs v us Q I rx rv h;obtain⟨l,b,xs,zs,rfl,rfl,hH,hB,hz,q⟩:=h;cases rx;obtain⟨u,rfl,ru⟩:=rv.one;cases ru;obtain⟨z,its,n,r,hl,e⟩:=I.E7 hH;obtain⟨z2,its2,n2,r2,hl2,e2⟩:=I.E7 hB;have hsz:its.toArray.size+its2.toArray.size<=sizeLine:=by rw[size_toArray,size_toArray];omega
 have BF:¬ (!its.toArray.isEmpty&&Builtin.List.listTooLong (its.toArray.size+its2.toArray.size))=true:=by rw[uH hsz,Bool.and_false];exact Bool.false_ne_true
 refine call_meets F.slot_list_extend ⟨_,e,rfl⟩ F.entry_list_extend (F.args_list_extend_2 _ _)
  (AutoSeq1.list_extend_list_list_0 l its.toArray n b its2.toArray n2 BF (by rw[size_toArray];omega) (by omega)) ⟨e,e2,?_⟩
 refine⟨.non,_,I.JP (its':=its++its2) hH e (by simp) (r.append r2) ?_,rfl,q⟩;rw[length_append];omega
end
section
variable {prog:Program} {w:World} {A:Around} {E:Value->Shared->Prop} {s:Shared}
end
section
variable {X:Cx}
end
end L2
namespace L2
open PySem PySem.Spec PyProof.Rows
section
variable {κ:Type} [DecidableEq κ]
noncomputable def iC(kvs:List (κ × V))(k:κ):Option V:=(kvs.find? λkv=>decide (kv.1=k)).map (·.2)
noncomputable def putK(kvs:List (κ × V))(k:κ)(v:V):List (κ × V) :=
 if (kvs.any λkv=>decide (kv.1=k))=true then kvs.map (λkv=>if kv.1=k then (kv.1,v) else kv) else kvs++[(k,v)]
theorem o9{p:κ × V}{r:List (κ × V)}{k:κ}(e:p.1=k):iC (p::r) k=some p.2:=by simp[iC,find?_cons,e]
theorem pe{p:κ × V}{r:List (κ × V)}{k:κ}(e:¬ p.1=k):iC (p::r) k=iC r k:=by simp[iC,find?_cons,e]
theorem uI(k:κ):∀kvs:List (κ × V),(kvs.any λkv=>decide (kv.1=k))=(iC kvs k).isSome
 | []=>rfl
 | p::r=>by
  rw[any_cons]
  by_cases e:p.1=k
  ·simp only[o9 e,decide_eq_true e,Bool.true_or,Option.isSome_some]
  ·rw[pe e,decide_eq_false e,Bool.false_or];exact uI k r
theorem jU(kvs:List (κ × V))(k:κ)(v:V):(putK kvs k v).length<=kvs.length+1:=by
 unfold putK
 split
 ·rw[length_map];omega
 ·rw[length_append,length_cons,length_nil];omega
theorem jM.iR(r:jM o u):o.isSome=u.isSome:=by
 cases o with
 | none=>cases u with
  | none=>rfl
  | some _=>exact(show False from r).elim
 | some _=>cases u with
  | none=>exact(show False from r).elim
  | some _=>rfl
theorem jM.getD(r:jM o u)(rd:RelV d d'):RelV (o.getD d) (u.getD d'):=by
 cases o with
 | none=>cases u with
  | none=>exact rd
  | some _=>exact(show False from r).elim
 | some _=>cases u with
  | none=>exact(show False from r).elim
  | some _=>exact r
theorem KV.val(r:KV kvs vs)(k:κ):jM (iC kvs k) (valueAt vs k):=by
 unfold KV at r
 induction r with
 | nil=>exact True.intro
 | @cons p q ps qs h t ih =>
  obtain⟨h1,h2⟩:=h
  by_cases e:p.1=k
  ·have e':q.1=k:=h1.symm.trans e
   have b:valueAt (q::qs) k=some q.2:=by simp[valueAt,find?_cons,e']
   rw[o9 e,b];exact h2
  ·have e':¬ q.1=k:=λz=>e (h1.trans z)
   have b:valueAt (q::qs) k=valueAt qs k:=by simp[valueAt,find?_cons,e']
   rw[pe e,b];exact ih
theorem KV.any(r:KV kvs vs)(k:κ):(kvs.any λkv=>decide (kv.1=k))=vs.any λkv=>decide (kv.1=k):=by
 unfold KV at r
 induction r with
 | nil=>rfl
 | cons h t ih=>rw[any_cons,any_cons,ih,h.1]
theorem KV.repl(r:KV kvs vs)(k:κ)(ry:RelV y u) :
  KV (kvs.map λkv=>if kv.1=k then (kv.1,y) else kv) (vs.map λkv=>if kv.1=k then (kv.1,u) else kv):=by
 unfold KV at r |-
 induction r with
 | nil=>exact .nil
 | @cons p q ps qs h t ih =>
  rw[map_cons,map_cons];refine .cons ?_ ih;obtain⟨h1,h2⟩:=h
  by_cases e:p.1=k
  ·rw[if_pos e,if_pos (h1.symm.trans e)];exact⟨h1,ry⟩
  ·rw[if_neg e,if_neg (λz=>e (h1.trans z))];exact⟨h1,h2⟩
theorem KV.put(r:KV kvs vs)(k:κ)(ry:RelV y u):KV (putK kvs k y) (stored vs k u):=by
 unfold putK stored;rw[r.any k]
 by_cases e:(vs.any λkv=>decide (kv.1=k))=true
 ·rw[if_pos e,if_pos e];exact r.repl k ry
 ·rw[if_neg e,if_neg e];exact Paired.snoc r ⟨rfl,ry⟩
theorem KV.length(r:KV kvs vs):kvs.length=vs.length:=Paired.length r
end
theorem pq(r:RelV (kV k) u):(aY P w).is k u=true:=by
 cases k with
 | inl i=>obtain⟨t,e⟩:=(show ∃t,u=Value.int i t from r);subst e;exact ux P w i t
 | inr x=>obtain⟨t,e⟩:=(show ∃t,u=Value.str x t from r);subst e;exact uy P w x t
theorem rM:∀{ks:List Key} {us:List Value},Vals (ks.map kV) us->ItemsAre (aY P w) ks us
 | [],_,r=>by rw[map_nil] at r;cases r;exact .nil
 | k::ks,_,r=>by
  rw[map_cons] at r;cases r with
  | cons h t=>exact .cons (pq h) (rM t)
noncomputable abbrev KT(H:Hp):List (List Key×V)->List (List Key×Addr×Value)->Prop:=Paired λp q=>p.1=q.1/\H q.2.1=some (.tup (p.1.map kV))/\RelV p.2 q.2.2
theorem KT.val(r:KT H kvs xs)(k:List Key):jM (iC kvs k) ((atKey xs k).map (·.2)):=by
 induction r with
 | nil=>exact True.intro
 | @cons p q ps qs h t ih =>
  obtain⟨h1,_,h2⟩:=h
  by_cases e:p.1=k
  ·have e':q.1=k:=h1.symm.trans e
   have b:atKey (q::qs) k=some q.2:=by simp[atKey,find?_cons,e']
   rw[o9 e,b];exact h2
  ·have e':¬ q.1=k:=λz=>e (h1.trans z)
   have b:atKey (q::qs) k=atKey qs k:=by simp[atKey,find?_cons,e']
   rw[pe e,b];exact ih
theorem KT.repl(r:KT H kvs xs)(k:List Key)(ry:RelV y u) :
  KT H (kvs.map λkv=>if kv.1=k then (kv.1,y) else kv) (xs.map (putAt k u)):=by
 induction r with
 | nil=>exact .nil
 | @cons p q ps qs h t ih =>
  rw[map_cons,map_cons];refine .cons ?_ ih;obtain⟨h1,h2,h3⟩:=h;unfold putAt
  by_cases e:p.1=k
  ·rw[if_pos e,if_pos (h1.symm.trans e)];exact⟨h1,h2,ry⟩
  ·rw[if_neg e,if_neg (λz=>e (h1.trans z))];exact⟨h1,h2,h3⟩
theorem KT.put(r:KT H kvs xs)(k:List Key)(hb:H b=some (.tup (k.map kV)))(ry:RelV y u) :
  KT H (putK kvs k y) (storedH xs k b u):=by
 have e:(kvs.any λkv=>decide (kv.1=k))=(atKey xs k).isSome:=by rw[uI,(r.val k).iR,isSome_map]
 unfold putK storedH;rw[e]
 by_cases q:(atKey xs k).isSome=true
 ·rw[if_pos q,if_pos q];exact r.repl k ry
 ·rw[if_neg q,if_neg q];exact Paired.snoc r ⟨rfl,hb,ry⟩
theorem KT.keeps(r:KT H kvs xs)(ht:∀b ys,H b=some (.tup ys)->H' b=some (.tup ys)):KT H' kvs xs :=
 Paired.IY r λ_ _ z=>⟨z.1,ht _ _ z.2.1,z.2.2⟩
section
variable {P:Program} {w:World} {H:Hp} {h:Heap} {a:Addr}
theorem HN(ok:lu P w H h)(e:Rd H a u):bE P w H h a u:=e.ok ok
theorem nT(ok:lu P w H h)(e:Rd H a (.dK kvs)):kvs.length<=sizeLine/\(a==sysModules)=false/\∃vs,KV kvs vs/\h.DictOf (aY P w) a vs :=
 show bE P w H h a (.dK kvs) from HN ok e
theorem yy(ok:lu P w H h)(e:H a=some (.dK kvs)):kvs.length<=sizeLine/\(a==sysModules)=false/\∃vs,KV kvs vs/\h.DictOf (aY P w) a vs:=nT ok (.inl e)
theorem mY(ok:lu P w H h)(e:H a=some (.tup (ks.map kV))):(tupleKind (aY P w)).is h ks a:=by
 obtain⟨_,its,r,o,h1,h2,n,h3⟩:=(show bE P w H h a (.tup (ks.map kV)) from ok a _ e);exact⟨o,its.toArray,n,h1,h2,h3,by simpa using rM r⟩
theorem pB(ok:lu P w H h)(e:Rd H a (.dT kvs)):kvs.length<=sizeLine/\(a==sysModules)=false /\
  ∃xs,KT H kvs xs/\h.DictOfH (tupleKind (aY P w)) a xs:=by
 obtain⟨z,y,xs,r,o,es,ep,h1,h2,h3,h4,h5⟩:=(show bE P w H h a (.dT kvs) from HN ok e);refine⟨z,y,xs,r,o,es,ep,h1,h2,h3,h4,λx hx=>?_,h5⟩;have all:∀{l:List (List Key×V)} {m:List (List Key×Addr×Value)},KT H l m->∀x∈m,(tupleKind (aY P w)).is h x.1 x.2.1:=by
  intro l m q
  induction q with
  | nil=>intro x hx;exact nomatch hx
  | @cons p q ps qs hq t ih =>
   intro x hx
   rcases mem_cons.mp hx with e|hx
   ·subst e;exact mY ok (by rw[<-hq.1];exact hq.2.1)
   ·exact ih x hx
 exact all r x hx
theorem ND(ok:lu P w H h)(e:H a=some (.dT kvs)):kvs.length<=sizeLine/\(a==sysModules)=false /\
  ∃xs,KT H kvs xs/\h.DictOfH (tupleKind (aY P w)) a xs:=pB ok (.inl e)
end
noncomputable def kN(H:Hp)(a:Addr)(y:V)(r:Option V):Prop :=
 (∃kvs k,Rd H a (.dK kvs)/\y=kV k/\r=iC kvs k)\/∃kvs k b,Rd H a (.dT kvs)/\y=.ref b/\H b=some (.tup (k.map kV))/\r=iC kvs k
noncomputable def Fb(H:Hp)(a:Addr)(y v:V)(H':Hp):Prop :=
 (∃kvs k,H a=some (.dK kvs)/\y=kV k/\kvs.length<sizeLine/\H'=upd H a (.dK (putK kvs k v))) \/
 ∃kvs k b,H a=some (.dT kvs)/\y=.ref b/\H b=some (.tup (k.map kV))/\kvs.length<sizeLine/\H'=upd H a (.dT (putK kvs k v))
theorem kN.k{H:Hp}{a:Addr}{kvs:List (Key×V)}{k:Key}(e:H a=some (.dK kvs)):kN H a (kV k) (iC kvs k):=.inl ⟨kvs,k,.inl e,rfl,rfl⟩
theorem Fb.k{H:Hp}{a:Addr}{kvs:List (Key×V)}{k:Key}{v:V}(e:H a=some (.dK kvs))(hl:kvs.length<sizeLine):Fb H a (kV k) v (upd H a (.dK (putK kvs k v))):=.inl ⟨kvs,k,e,rfl,hl,rfl⟩
section
variable {X:Cx} {pins:List (Addr×Obj)} {σ:St} {H:Hp} {s:Shared} {a:Addr} {y v:V} {u r:Value} {o:Option V} {A:Around} {E:Value->Shared->Prop}
theorem Inv.big(I:Inv X pins σ H s):sysModules<s.heap.objs.size:=by
 have h:mainGlobals<s.heap.objs.size:=(I.mod.glob.keeps I.bk).lt;exact lt_trans (by decide) h
theorem z8(hu:A.units+1<cLine)(I:Inv X pins σ H s)(g:kN H a y (some v))(ry:RelV y u)(h:∀w' s',Inv X pins σ H s'->RelV v w'->Q w' s') :
  wpAny (model X.prog X.w) A (getItem (.ref a) u) Q E s:=by
 rcases g with ⟨kvs,k,e,ey,l⟩|⟨kvs,k,b,e,ey,eb,l⟩
 ·subst ey;obtain⟨z,hd,vs,rel,dd⟩:=nT I.hok e;obtain⟨w',hw,rw'⟩:=jM.some_of (v:=v) (o:=valueAt vs k) (by rw[l];exact rel.val k);exact wpAny_getItem_of (pq ry) dd.mapOf hw (h w' _ (I.tok _) rw')
 ·subst ey;cases (show u=Value.ref b from ry);obtain⟨z,hd,xs,rel,dd⟩:=pB I.hok e;obtain⟨w',hw,rw'⟩:=jM.some_of (v:=v) (o:=(atKey xs k).map (·.2)) (by rw[l];exact rel.val k);obtain⟨p,hp,hp2⟩:=map_eq_some_iff.mp hw;refine wpAny_getItem_heap (tupleKind_room_in1 hu) (mY I.hok eb) dd hp ?_;rw[hp2];exact h w' _ (I.tok _) rw'
theorem RB(hu:A.units+1<cLine)(I:Inv X pins σ H s)(g:kN H a y o)(ry:RelV y u)(h:∀s',Inv X pins σ H s'->Q (.bool o.isSome) s') :
  wpAny (model X.prog X.w) A (compareOp .In u (.ref a)) Q E s:=by
 rcases g with ⟨kvs,k,e,ey,l⟩|⟨kvs,k,b,e,ey,eb,l⟩
 ·subst ey;obtain⟨z,hd,vs,rel,dd⟩:=nT I.hok e;refine wpAny_in_of (pq ry) hd dd.mapOf ?_;rw[<-(rel.val k).iR,<-l];exact h _ (I.tok _)
 ·subst ey;cases (show u=Value.ref b from ry);obtain⟨z,hd,xs,rel,dd⟩:=pB I.hok e;refine wpAny_in_heap (tupleKind_room_in1 hu) (mY I.hok eb) hd dd ?_;have q:=(rel.val k).iR;rw[isSome_map] at q;rw[<-q,<-l];exact h _ (I.tok _)
theorem Fc(hu:A.units+1<cLine)(I:Inv X pins σ H s)(g:kN H a y o)(ry:RelV y u)(h:∀s',Inv X pins σ H s'->Q (.bool (!o.isSome)) s') :
  wpAny (model X.prog X.w) A (compareOp .NotIn u (.ref a)) Q E s:=by
 rcases g with ⟨kvs,k,e,ey,l⟩|⟨kvs,k,b,e,ey,eb,l⟩
 ·subst ey;obtain⟨z,hd,vs,rel,dd⟩:=nT I.hok e;refine wpAny_notIn_of (pq ry) hd dd.mapOf ?_;rw[<-(rel.val k).iR,<-l];exact h _ (I.tok _)
 ·subst ey;cases (show u=Value.ref b from ry);obtain⟨z,hd,xs,rel,dd⟩:=pB I.hok e;refine wpAny_notIn_heap (tupleKind_room_in1 hu) (mY I.hok eb) hd dd ?_;have q:=(rel.val k).iR;rw[isSome_map] at q;rw[<-q,<-l];exact h _ (I.tok _)
theorem sY{t':Nat}(I:Inv X pins σ H s)(mu:MT (H a))(hs:Heap.SameBut a s.heap h')(he:∃q,h'.get? a=some q)(new:bE X.prog X.w (upd H a ob) h' a ob) :
  Inv X pins σ (upd H a ob) { s with heap:=h',toks:=t' } :=
 I.write (x:=a) (e:=a) mu (.inl rfl) (λb q hb z=>(hs.2 b hb).trans z) he new
theorem BG(z:kvs.length<=sizeLine)(hd:(a==sysModules)=false)(rel:KV kvs vs)(dd:h'.DictOf (aY P w) a vs) :
  bE P w H' h' a (.dK kvs):=⟨z,hd,vs,rel,dd⟩
theorem z9(hu:A.units+1<cLine)(I:Inv X pins σ H s)(g:Fb H a y v H')(ry:RelV y u)(rv:RelV v r)(h:∀s',Inv X pins σ H' s'->Q () s') :
  wpAny (model X.prog X.w) A (setItem (.ref a) u r) Q E s:=by
 rcases g with ⟨kvs,k,e,ey,l,eH⟩|⟨kvs,k,b,e,ey,eb,l,eH⟩
 ·subst ey eH
  obtain⟨z,hd,vs,rel,dd⟩:=yy I.hok e;have hz:vs.length<=sizeLine:=by rw[<-rel.length];exact z
  have hl:(putK kvs k v).length<=sizeLine:=by have:=jU kvs k v;omega
  refine wpAny_setItem_pairs (hsz:=hz) (pq ry) dd λh' JQ hs=>h _ ?_;have he:∃q,h'.get? a=some q:=let ⟨q,_,_,hq,_⟩:=JQ;⟨q,hq⟩
  exact sY I (by rw[e];exact True.intro) hs he (BG hl hd (rel.put k rv) JQ)
 ·subst ey eH
  cases (show u=Value.ref b from ry);obtain⟨z,hd,xs,rel,dd⟩:=ND I.hok e;have hz:xs.length<=sizeLine:=by rw[<-Paired.length rel];exact z
  have hl:(putK kvs k v).length<=sizeLine:=by have:=jU kvs k v;omega
  refine wpAny_setItem_heap (hsz:=hz) (tupleKind_room_in1 hu) (mY I.hok eb) dd λh' JQ hs=>h _ ?_;obtain⟨q,es,ep,hq,h2,h3,h4,_,h5⟩:=JQ;refine sY I (by rw[e];exact True.intro) hs ⟨q,hq⟩ ⟨hl,hd,_,(rel.put k eb rv).keeps λc ys ec=>?_,q,es,ep,hq,h2,h3,h4,h5⟩;rw[aA (MS ec e (λz=>nomatch z))];exact ec
end
section
variable {X:Cx} {pins:List (Addr×Obj)} {σ:St} {H:Hp} {s:Shared} {a:Addr} {kvs:List (Key×V)} {k:Key} {u:Value} {A:Around} {E:Value->Shared->Prop}
theorem NG(I:Inv X pins σ H s)(e:Rd H a (.dK kvs))(h:∀t s',Inv X pins σ H s'->Q (.int kvs.length t) s'):wpAny (model X.prog X.w) A (call (.builtin "len") [.ref a]) Q E s:=by
 obtain⟨z,hd,vs,rel,dd⟩:=nT I.hok e;refine call_len_dict hd dd (by rw[<-rel.length];rw[sizeLine_eq] at z;omega) ?_;rw[<-rel.length];exact h _ _ (I.tok _)
end
theorem uJ(I:Inv X pins σ H s)(g:kN H a y o):s.TypeIs (.ref a) "dict":=by
 rcases g with ⟨kvs,k,e,_,_⟩|⟨kvs,k,b,e,_,_,_⟩
 ·obtain⟨_,_,vs,_,dd⟩:=nT I.hok e;exact dd.typeIs
 ·obtain⟨_,_,xs,_,dd⟩:=pB I.hok e;exact dd.typeIs
section
variable {X:Cx} {o i e value:Expr} {pos pos' tpos:Pos} {td ty tv:TE}
end
theorem uK(h:Heap)(hb:sysModules<h.objs.size):bE P w H (h.push { cls:=.type "dict",data:=.dict #[] }) h.objs.size (.dK []) :=
 ⟨zero_le _,beq_eq_false_iff_ne.mpr (Ne.symm (ne_of_lt hb)),[],.nil,Heap.DictOf.new h⟩
noncomputable def JR:TE:=λ_ H Q=>∀p,H p=none->Q (.ref p) (upd H p (.dK []))
section
variable {X:Cx} {pos:Pos}
theorem BH:PE X (.Dict [] [] pos) JR:=λpins s σ H Q I h =>
 wpAny_Dict_empty ⟨.ref s.heap.objs.size,_,I.laid (a:=s.heap.objs.size) (o:=.dK []) (t':=s.toks) (λ_ _ q=>get?_push_of_some _ q) (Nat.le_refl _) (uK s.heap I.big),rfl,h _ (I.hok.fresh (Nat.le_refl _))⟩
end
noncomputable def xw:List (TE×TE)->St->Hp->(List (V×V)->Hp->Prop)->Prop
 | [],_,H,Q=>Q [] H
 | (tk,tv)::r,σ,H,Q=>tk σ H λx H1=>tv σ H1 λy H2=>xw r σ H2 λps H3=>Q ((x,y)::ps) H3
noncomputable abbrev VV:List (V×V)->List (Value×Value)->Prop:=Paired λp q=>RelV p.1 q.1/\RelV p.2 q.2
noncomputable def Qs(X:Cx)(pos:Pos)(keys:List (Option Expr))(values:List Expr)(JS:List (TE×TE)):Prop :=
 ∀(pins:List (Addr×Obj)) (s:Shared) (σ:St) (H:Hp) (Q:List (V×V)->Hp->Prop),Inv X pins σ H s->xw JS σ H Q ->
  wpAny (model X.prog X.w) X.A (evalPairs (pairTrees keys values X.env pos)) (λvs s'=>∃ps H',Inv X pins σ H' s'/\VV ps vs/\Q ps H') X.xe s
theorem Fd:Qs X pos [] [] []:=λpins s σ H Q I h=>pairTrees_nil_walk ⟨[],H,I,.nil,h⟩
theorem BI(hk:PE X k tk)(hv:PE X v tv)(hr:Qs X pos ks vs JS) :
  Qs X pos (some k::ks) (v::vs) ((tk,tv)::JS):=λpins s σ H Q I h =>
 pairTrees_cons_walk (cG (hk pins s σ H _ I h) λu s1 ⟨x,H1,I1,rx,q1⟩=>cG (hv pins s1 σ H1 _ I1 q1) λw2 s2 ⟨y,H2,I2,ry,q2⟩ =>
  cG (hr pins s2 σ H2 _ I2 q2) λws s3 ⟨ps,H3,I3,rel,q3⟩=>⟨(x,y)::ps,H3,I3,.cons ⟨rx,ry⟩ rel,q3⟩)
noncomputable def mZ(kvs more:List (Key×V)):List (Key×V):=more.foldl (λacc kv=>putK acc kv.1 kv.2) kvs
theorem KV.merge:∀{more:List (Key×V)} {rs:List (Key×Value)} {kvs:List (Key×V)} {vs:List (Key×Value)},KV more rs->KV kvs vs->KV (mZ kvs more) (merged vs rs):=by
 intro more rs kvs vs r;unfold KV at r
 induction r generalizing kvs vs with
 | nil=>intro q;exact q
 | @cons p q ps qs h t ih =>
  intro r0;have e:KV (putK kvs p.1 p.2) (stored vs q.1 q.2):=by have:=r0.put p.1 h.2;rw[<-h.1];exact this
  exact ih e
theorem kU:∀(more kvs:List (Key×V)),(mZ kvs more).length<=kvs.length+more.length
 | [],kvs=>by show kvs.length<=kvs.length+0;omega
 | p::r,kvs=>by
  have h1:=kU r (putK kvs p.1 p.2);have h2:=jU kvs p.1 p.2;show (mZ (putK kvs p.1 p.2) r).length<=_;rw[length_cons];omega
theorem pC:∀{kvs:List (Key×V)} {ws:List (Value×Value)},VV (kvs.map λkv=>(kV kv.1,kv.2)) ws->∃rs,Carries (aY P w) ws rs/\KV kvs rs
 | [],_,r=>by rw[map_nil] at r;cases r;exact⟨[],True.intro,.nil⟩
 | p::kvs,_,r=>by
  rw[map_cons] at r;cases r with
  | @cons a b as bs h t =>obtain⟨rs,c,q⟩:=pC (P:=P) (w:=w) t;obtain⟨b1,b2⟩:=b;exact⟨(p.1,b2)::rs,⟨pq h.1,rfl,c⟩,.cons ⟨rfl,h.2⟩ q⟩
noncomputable def NH(JS:List (TE×TE)):TE:=λσ H Q=>∀p,H p=none->xw JS σ (upd H p (.dK [])) λps H2=>H2 p=some (.dK [])/\∃kvs:List (Key×V),ps=kvs.map (λkv=>(kV kv.1,kv.2))/\kvs.length<=15/\Q (.ref p) (upd H2 p (.dK (mZ [] kvs)))
theorem Fe(h:Qs X pos keys values JS)(hall:keys.all (·.isSome)=true)(hl:keys.length=values.length)(h0:keys≠[])
  (WW:keys.length<=15):PE X (.Dict keys values pos) (NH JS):=by
 intro pins s σ H Q I q;have hn:=I.hok.fresh (Nat.le_refl s.heap.objs.size);have I1:=I.laid (a:=s.heap.objs.size) (o:=.dK []) (h':=s.heap.push { cls:=.type "dict",data:=.dict #[] }) (t':=s.toks) (λ_ _ q=>get?_push_of_some _ q) (Nat.le_refl _) (uK s.heap I.big);refine wpAny_Dict_walk (knd:=aY X.prog X.w) hall hl h0 WW (cG (h pins _ σ _ _ I1 (q _ hn)) λws s2 aE=>?_);obtain⟨ps,H2,I2,rel,e,kvs,ep,lk,q2⟩:=aE;subst ep;obtain⟨rs,c,rk⟩:=pC (P:=X.prog) (w:=X.w) rel;obtain⟨z,hd,vs0,r0,dd⟩:=yy I2.hok e;cases r0;refine⟨rs,c,dd,λh' JQ hs=>⟨.ref s.heap.objs.size,_,?_,rfl,q2⟩⟩;have hz:(mZ [] kvs).length<=sizeLine:=by have h1:=kU kvs [];rw[length_nil] at h1;rw[sizeLine_eq];omega
 have he:∃q,h'.get? s.heap.objs.size=some q:=let ⟨q,_,_,hq,_⟩:=JQ;⟨q,hq⟩
 exact sY I2 (by rw[e];exact True.intro) hs he (BG hz hd (rk.merge .nil) JQ)
structure M2 (X:Cx) (o:Expr) (m:Str) (apos:Pos) (e f:Expr) (cpos:Pos):Prop where
 base:attributeBase o m X.env (eval o X.env)=eval o X.env
 few:((backTo cpos (starEach [e,f] X.env)).all (λx=>!x.1)&&(backToKw cpos (keywordEach [] X.env)).all (λx=>x.1.isSome)
  && decide (([e,f]:List Expr).length+([]:List Keyword).length+(if ([]:List Keyword).isEmpty then 0 else 1)<30))=true
 line:(apos.endLine==cpos.line)=true
 trees:backTo cpos (starEach [e,f] X.env)=[(false,eval e X.env),(false,eval f X.env)]
noncomputable def Vk(H:Hp)(a:Addr):Prop:=(∃kvs,Rd H a (.dK kvs))\/∃kvs,Rd H a (.dT kvs)
theorem xy(I:Inv X pins σ H s)(d:Vk H a) :
  s.TypeIs (.ref a) "dict" /\ (∀b,Value.ref a=.ref b->∃ob,s.heap.get? b=some ob/\ob.dict=none)/\(a==sysModules)=false:=by
 rcases d with ⟨kvs,e⟩|⟨kvs,e⟩
 ·obtain⟨_,hd,vs,_,dd⟩:=nT I.hok e;refine⟨dd.typeIs,λb q=>?_,hd⟩;cases q;obtain⟨ob,_,_,h1,h2,_⟩:=dd;exact⟨ob,h1,h2.2.1⟩
 ·obtain⟨_,hd,xs,_,dd⟩:=pB I.hok e;refine⟨dd.typeIs,λb q=>?_,hd⟩;cases q;obtain⟨ob,_,_,h1,h2,_⟩:=dd;exact⟨ob,h1,h2.2.1⟩
section
variable {X:Cx} {pins:List (Addr×Obj)} {σ:St} {H:Hp} {s:Shared} {a:Addr} {y d:V} {u r:Value} {o:Option V} {A:Around} {E:Value->Shared->Prop}
theorem JT(hu:A.units+1<cLine)(I:Inv X pins σ H s)(g:kN H a y o)(ry:RelV y u)(rd:RelV d r)(h:∀w' s',Inv X pins σ H s'->RelV (o.getD d) w'->Q w' s') :
  wpAny (model X.prog X.w) A (call (.builtin "dict.get") [.ref a,u,r]) Q E s:=by
 rcases g with ⟨kvs,k,e,ey,l⟩|⟨kvs,k,b,e,ey,eb,l⟩
 ·subst ey;obtain⟨z,hd,vs,rel,dd⟩:=nT I.hok e;refine call_meetsIn PySem.F.slot_dict_get dd.typeIs PySem.F.entry_dict_get (PySem.F.args_dict_get_3 _ _ _) (meets_dict_get_default (aY X.prog X.w) a (pq ry) hd r) ⟨_,dd.mapOf,h _ _ (I.tok _) ?_⟩;rw[l];exact(rel.val k).getD rd
 ·subst ey;cases (show u=Value.ref b from ry);obtain⟨z,hd,xs,rel,dd⟩:=pB I.hok e;refine call_meetsIn PySem.F.slot_dict_get dd.typeIs PySem.F.entry_dict_get (PySem.F.args_dict_get_3 _ _ _) (meetsH_dict_get_default (tupleKind (aY X.prog X.w)) a b hd r) ⟨tupleKind_room_in1 hu,k,xs,mY I.hok eb,dd,h _ _ (I.tok _) ?_⟩;rw[l];exact(rel.val k).getD rd
end
noncomputable def JU(td ty tx:TE):TE:=λσ H Q=>td σ H λx H1=>∃a,x=.ref a/\Vk H1 a/\ty σ H1 λy H2=>tx σ H2 λz H3=>∃o,kN H3 a y o/\Q (o.getD z) H3
section
variable {X:Cx} {o e f:Expr} {apos cpos:Pos} {td ty tx:TE}
theorem BJ(hu:X.A.units+1<cLine)(ho:PE X o td)(he:PE X e ty)(hf:PE X f tx)(m:M2 X o "get" apos e f cpos):PE X (.Call (.Attribute o "get" apos) [e,f] [] cpos) (JU td ty tx):=by
 intro pins s σ H Q I h;refine wpAny_Call_method m.base m.few m.line PySem.F.plainAttrs_dict PySem.F.slot_dict_get PySem.F.type_dict_get (cG (ho pins s σ H _ I h) λu s1 aE=>?_);obtain⟨x,H1,I1,rx,a,ex,d,q1⟩:=aE;subst ex;obtain rfl:u=Value.ref a:=rx;obtain⟨t1,t2,_⟩:=xy I1 d;refine⟨t1,t2,?_⟩;rw[m.trees];refine Calls.callWith_builtin rfl (Calls.evalArgs_plain (Calls.spliced_cons (cG (he pins s1 σ H1 _ I1 q1) λiv s2 ⟨y,H2,I2,ry,q2⟩ =>
  Calls.spliced_cons (cG (hf pins s2 σ H2 _ I2 q2) λfv s3 ⟨z,H3,I3,rz,ov,g,q3⟩=>Calls.spliced_nil ?_))))
 exact JT hu I3 g ry rz λw' s4 I4 rw'=>⟨_,H3,I4,rw',q3⟩
end
section
variable {X:Cx} {pins:List (Addr×Obj)} {σ:St} {H:Hp} {s:Shared} {a:Addr} {kvs:List (Key×V)} {A:Around} {E:Value->Shared->Prop}
end
section
variable {X:Cx} {pins:List (Addr×Obj)} {σ:St} {H:Hp} {s:Shared} {a:Addr} {y:V} {u:Value} {A:Around} {E:Value->Shared->Prop}
end
end L2
namespace Vl
open PySem PySem.W PySem.Calls PyProof.Rows
theorem oq:∀(ns:List Int) (vs:List Value),WellAll P h vs (ns.map WData.int)->IntsAre vs ns:=by
 intro ns
 induction ns with
 | nil =>intro vs w;rw[map_nil] at w;cases w;exact .nil
 | cons n ns ih =>
  intro vs w;rw[map_cons] at w;cases w with
  | cons a b =>cases a;exact .cons _ _ (ih _ b)
theorem Aa{l:OpenLaw}{n:Nat}(hn:l.most=some n){P:Params}{h:Heap}{args:List WData}{vals:List Value}
  (hpre:l.row.toRowW.claim.pre args=true) (hwl:WellAll P h vals args) :
  ∃a vs ns,vals=[Value.ref a]/\args=[WData.list (ns.map WData.int)]/\h.get? a=some { cls:=.type "list",data:=.seq vs.toArray }/\IntsAre vs ns/\ns.length<=n:=by
 have hsh:WShape.hasAll [] args [.list .int]=true:=(pre_splitW hpre).1;have hc:l.pre.holds [] { args:=args }=true:=(pre_splitW hpre).2;obtain⟨d,r,rfl,h1,h2⟩:=hasAllW_cons hsh;obtain rfl:=hasAllW_nil h2;obtain⟨xs,rfl,h3⟩:=hasW_list h1;obtain⟨ns,rfl⟩:=items_int h3;have hlen:ns.length<=n:=by
  unfold OpenLaw.pre at hc;have h4:(WTm.not (.lt (.lit (.int (n:Int))) (.len (.arg 0)))).holds [] { args:=[.list (ns.map .int)] }=true:=by have h4:=(holds_andW hc).1;rw[hn] at h4;exact h4
  have h5:=condW_of h4 (w_not (w_lt w_lit (w_len_list (w_arg rfl))));rw[length_map] at h5;refine Nat.le_of_not_lt λq=>?_;have q':(n:Int)<((ns.length:Nat):Int):=by omega
  first
   | (rw[decide_eq_true q'] at h5;exact absurd h5 (by decide))
   | (simp at h5;omega)
 cases hwl with
 | cons w1 w2 =>
  cases w2;cases w1 with
  | list ho hall=>exact⟨_,_,ns,rfl,rfl,ho,oq ns _ hall,hlen⟩
theorem Ab(l:OpenLaw)(args:List WData):l.row.toRowW.claim.post args (.bool true) args=true :=
 postW_of (r:=l.row.toRowW) (X:=(true==true))
  (show WShape.has [] (.bool true) .bool=true by first|rfl|decide|simp[WShape.has,WShape.arms,WShape.armsAll])
  (show (WTm.eq .res (.lit (.bool true))).value [] { args:=args,res:=some (.bool true),after:=args }=some (.bool (true==true)) from w_eq_bool (w_res rfl) w_lit) rfl
theorem uL{l:OpenLaw}{n:Nat}{q:Program}{loose:List Str}{XP:(Str->Option Value)->Heap->Prop}{YP:World->Heap->Prop}{d:DefRec}
  (hn:l.most=some n) (hdf:d.params.defaults=[])
  (call:∀(w:World) (s₀ s₁:Shared) (mg mb:Str->Option Value) (fa:Addr) (o:Obj) (pm cd doc:Value) (a:Addr) (vs:List Value) (ns:List Int),
   Ground q loose [] XP w s₀ mg mb s₁.heap->YP w s₁.heap ->
   s₁.heap.get? fa=some o->o.data=.func (docDef d.name d.params d.body d.scope pm cd doc)->s₁.heap.CodeRec cd d.name->mg d.name=some (.ref fa) ->
   s₁.heap.get? a=some { cls:=.type "list",data:=.seq vs.toArray }->IntsAre vs ns->ns.length<=n->s₁.gens = #[] ->
   codeAny (model l.prog w) callerA (.call (.ref fa) ⟨[.ref a],[]⟩) (λr s'=>r=.ok (.ret (.bool true))/\OldK s₁.heap s'.heap/\s'.os=s₁.os/\AllBare s'.gens) s₁) :
  WalkO q loose XP YP l.row.toRowW d [] (λf vs=>PySem.call f vs):=by
 intro w s₀ s₁ mg mb G Y fa o pm cd doc dV kV ho hd hcd hD hmg hg args vals as hpre hlay hrd hwl hlo;obtain rfl:dV=.none:=Dflts.none hD hdf;obtain rfl:kV=.none:=Dflts.noKw hD;obtain⟨a,vs,ns,rfl,rfl,hobj,hints,hlen⟩:=Aa hn hpre hwl;refine enter_call (codeAny_mono (call w s₀ s₁ mg mb fa o pm cd doc a vs ns G Y ho (fd_plain hd) hcd hmg hobj hints hlen hg) λr s' hq=>?_);obtain⟨rfl,h2,h3,h4⟩:=hq;exact⟨.inl ⟨.bool true,.bool true,[],rfl,λ_=>rfl,.bool true,Ab l _,λ_=>⟨List.Pairwise.nil,λ_ hm=>(nomatch hm)⟩⟩,h2,h3,h4⟩
section
variable {prog:Program} {w:World} {A:Around} {E:Value->Shared->Prop} {s:Shared} {K:Frag}
noncomputable def ledger(h:Heap)(L d:Addr):List (Addr×Obj):=(List.range h.objs.size).filterMap λa=>if a=L\/a=d then none else (h.get? a).map λo=>(a,o)
end
end Vl
namespace L2
open PySem PySem.Spec PyProof.Rows
theorem iS:∀{vs:List Value} {ns:List Int},IntsAre vs ns->Vals (ns.map V.int) vs
 | _,_,.nil=>.nil
 | _,_,.cons n t h=>.cons ⟨t,rfl⟩ (iS h)
noncomputable def BK(H:Hp):Prop:=∀b,H b=none\/∃o xs,H b=some (.oE o (.lst xs))
theorem BL{P:Program}{w:World}{K:PySem.W.Frag}{mg mb:Str->Option Value}{CX:z4}{k:Nat}{fa a:Addr}{fd:FuncData}{x:Str}{sp:Sp}{s₁:Shared}{vs:List Value}{ns:List Int}
  (KX:K.In s₁.heap) (hns:s₁.heap.Ns mainGlobals mg) (hb:s₁.heap.Ns builtinsNs mb) (WX:∀x:Str,x ≠ "__name__" -> mb x=bootBuiltins x) (hlim:s₁.heap.NoLimit) (hg:s₁.gens = #[])
  (ha:s₁.heap.get? a=some { cls:=.type "list",data:=.seq vs.toArray }) (hi:IntsAre vs ns) (hl:ns.length<=sizeLine) (hr:dQ k callerA)
  (F:∀base:Heap,K.In base->base.Ns mainGlobals mg->fz P w K mg base CX k fa fd [x] sp) (hbind:∀(s:Shared) (u:Value),BindsTo s fd ⟨[u],[]⟩ [(x,u)])
  (hsp:∀H:Hp,BK H->iu K H a (ns.map V.int)->sp [.ref a] H (λv _=>v=.bl true) λ_ _ _=>False)
  (hCX:∀H e s',CX [] H s₁ (λ_ _ _=>False) e s'->False) :
  codeAny (model P w) callerA (.call (.ref fa) ⟨[.ref a],[]⟩) (λr s'=>r=.ok (.ret (.bool true))/\OldK s₁.heap s'.heap/\s'.os=s₁.os/\AllBare s'.gens) s₁:=by
 have rv:=iS hi;have RC:=hi.length;have core:∀H:Hp,BK H->iu K H a (ns.map V.int)->lu P w H s₁.heap->(∀b,H b≠none->b=a)->(H a≠none->K.lookup a=none) ->
   codeAny (model P w) callerA (.call (.ref fa) ⟨[.ref a],[]⟩) (λr s'=>r=.ok (.ret (.bool true))/\OldK s₁.heap s'.heap/\s'.os=s₁.os/\AllBare s'.gens) s₁:=by
  intro H hO hS hok hA hK;have base_of:∀{b:Addr} {o:Obj},s₁.heap.get? b=some o->H b=none->(sQ s₁.heap H).get? b=some o:=λe n=>Bh e n;have noA:∀{b:Addr} {o:Obj} {es:Array DictEntry} {ep:Nat},s₁.heap.get? b=some o->o.data=.dict es ep->H b=none:=λ{b o es ep} e d=>by
   cases q:H b with
   | none=>rfl
   | some u =>have e':b=a:=hA b (by rw[q];simp);subst e';rw[ha] at e;cases e;have d':Data.seq vs.toArray _=Data.dict es ep:=d;cases d'
  have nsK:∀{b:Addr} {m:Str->Option Value},s₁.heap.Ns b m->(sQ s₁.heap H).Ns b m:=λ{b m} ⟨o,es,ep,e,d,r⟩=>⟨o,es,ep,base_of e (noA e d),d,r⟩;have Vm:K.In (sQ s₁.heap H):=λb o e=>base_of (KX b o e) (by
   cases q:H b with
   | none=>rfl
   | some u =>have e':b=a:=hA b (by rw[q];simp);subst e';rw[hK (by rw[q];simp)] at e;cases e)
  have hM:Mod K mg (sQ s₁.heap H):=⟨Vm,nsK hns,⟨mb,nsK hb,WX⟩,let ⟨mc,h1,h2⟩:=hlim;⟨mc,nsK h1,h2⟩⟩;have e0:xj P w K mg (sQ s₁.heap H) callerA [] s₁ H:=⟨rfl,hM,λb o e=>Eu e,Nat.le_of_eq (zN _ _),trivial,λb hb=>absurd (show b∈([]:List Addr) from hb) (by simp),hok,.of_eq hg⟩;refine codeAny_mono ((F _ Vm (nsK hns)).run callerA [] s₁ H ⟨[.ref a],[]⟩ [.ref a] [.ref a] _ _ hr e0 (hbind s₁ (.ref a)) (.cons rfl .nil) (hsp H hO hS)) λr s' h=>?_;cases r with
  | error e=>exact(hCX H e s' h).elim
  | ok fl =>
   cases fl with
   | next=>exact False.elim h
   | brk=>exact False.elim h
   | cont=>exact False.elim h
   | ret u =>
    obtain⟨v,H',os,bare,un,RD,r',q⟩:=h;have q':v=.bl true:=q;subst q';obtain rfl:u=Value.bool true:=r';refine⟨rfl,OldK.of_keep λb o e=>?_,os,bare⟩;cases q:H b with
    | none=>exact un.keep b o e q (by intro z;exact absurd (show b∈([]:List Addr) from z) (by simp)) (by simp)
    | some u =>
     rcases hO b with z|⟨ob,xs,z⟩
     ·rw[q] at z;cases z
     ·have z2:=un.frzs b ob _ z;obtain⟨e1,_⟩:=hok b _ z;obtain⟨e2,_⟩:=RD b _ z2;rw[e] at e1;cases e1;exact e2
 cases hk:K.lookup a with
 | some o =>have e:=KX a o hk;rw[ha] at e;cases e;refine core (λ_=>none) (λ_=>.inl rfl) (.inr ⟨_,vs.toArray,_,hk,rfl,rfl,rfl,by rw[size_toArray,RC];exact hl,by simpa using rv⟩) (λb u z=>by have z':(none:Option HO)=some u:=z;cases z') (λb z=>absurd rfl z) λz=>absurd rfl z
 | none =>
  refine core (λb=>if b=a then some (.oE { cls:=.type "list",data:=.seq vs.toArray } (.lst (ns.map V.int))) else none) (λb=>?_) (.inl (.inr ⟨{ cls:=.type "list",data:=.seq vs.toArray },if_pos rfl⟩)) (λb u z=>?_) (λb z=>?_) λ_=>hk
  ·by_cases hb:b=a
   ·exact .inr ⟨_,_,if_pos hb⟩
   ·exact .inl (if_neg hb)
  ·by_cases hb:b=a
   ·have z':=(if_pos hb).symm.trans z;cases z';subst hb;exact⟨ha,by rw[length_map];exact hl,vs,_,rv,ha⟩
   ·have z':=(if_neg hb).symm.trans z;cases z'
  ·by_cases hb:b=a
   ·exact hb
   ·exact absurd (if_neg hb) z
end L2
namespace L2
open PySem PySem.Spec PyProof.Rows
theorem Ff{l:PySem.W.OpenLaw}{n k:Nat}{q:Program}{loose:List Str}{XP:(Str->Option Value)->Heap->Prop}{YP:World->Heap->Prop}{d:DefRec}{K:Params->PySem.W.Frag}{CX:World->z4}{sp:World->Sp}{x:Str}
  (hn:l.most=some n) (hn2:n<=sizeLine) (hdf:d.params.defaults=[]) (hr:dQ k callerA)
  (hY:∀(w:World) (h:Heap),YP w h->(K w.params).In h)
  (F:∀(w:World) (mg:Str->Option Value) (fa:Addr) (h:Heap),(K w.params).In h->h.Ns mainGlobals mg->mg d.name=some (.ref fa) ->
   ∃fd:FuncData,(∀(s:Shared) (u:Value),BindsTo s fd ⟨[u],[]⟩ [(x,u)]) /\
    ∀base:Heap,(K w.params).In base->base.Ns mainGlobals mg->fz l.prog w (K w.params) mg base (CX w) k fa fd [x] (sp w))
  (hsp:∀(w:World) (H:Hp) (a:Addr) (ns:List Int),ns.length<=n->BK H->iu (K w.params) H a (ns.map V.int)->sp w [.ref a] H (λv _=>v=.bl true) λ_ _ _=>False)
  (hCX:∀(w:World) (H:Hp) (s:Shared) (e:Value) (s':Shared),CX w [] H s (λ_ _ _=>False) e s'->False) :
  PySem.W.WalkO q loose XP YP l.row.toRowW d [] (λf vs=>PySem.call f vs):=by
 refine Vl.uL hn hdf λw s₀ s₁ mg mb fa o pm cd doc a vs ns G Y ho hd hcd hmg hobj hints hlen hg=>?_;have KX:=hY w _ Y;obtain⟨fd,hb,hF⟩:=F w mg fa _ KX G.T.g hmg;exact BL KX G.T.g G.T.b G.T.builtins G.T.nolimit hg hobj hints (le_trans hlen hn2) hr hF hb (λH hO hS=>hsp w H a ns hlen hO hS) λH e s'=>hCX w H s₁ e s'
end L2
namespace L2
open PySem PySem.Spec PyProof.Rows
noncomputable def aO(s:Stmt):Arguments:=match s with
 | .FunctionDef _ a _ _ _ _ _ _ _ _=>a
 | _=>{ posonlyargs:=[],args:=[],vararg:=none,kwonlyargs:=[],kw_defaults:=[],kwarg:=none,defaults:=[] }
noncomputable def aj(s:Stmt):List Stmt:=match s with
 | .FunctionDef _ _ b _ _ _ _ _ _ _=>b
 | _=>[]
noncomputable def af(s:Stmt):Scope:=match s with
 | .FunctionDef _ _ _ _ _ _ sc _ _ _=>sc
 | _=>{ kind:=.function,names:=[],isGenerator:=false,isCoroutine:=false }
noncomputable abbrev wI:z4:=λ_ _ _ _ _ _=>False
noncomputable abbrev E0:XK:=λ_ _ _=>False
theorem pD:Passes wI X E0:=λ_ _ _ _ _ _ _ h=>h.elim
structure Fg (K:PySem.W.Frag) (x qual:Str) (st:Stmt) (f:Addr) (fd:FuncData):Prop where
 ex:∃(oc:Value) (od:Option Addr) (kV doc pm:Value) (an:Option Addr) (cdv ct:Value) (osl:Array (Option Value)),
  fd=PySem.W.fnOf x qual (aO st) (aj st) (af st) .none kV doc pm an cdv ct/\K.lookup f=some ⟨oc,od,.func fd,osl⟩/\codeIn K cdv qual=true
 kp:keepIn K (.ref f)=true
section
variable {P:Program} {w:World} {K:PySem.W.Frag} {mg:Str->Option Value} {base:Heap}
theorem Fg.ok{x qual:Str}{st:Stmt}{f:Addr}{fd:FuncData}{N ps:List Str}{k:Nat}{sp:Sp}(F:Fg K x qual st f fd)(S:oH N ps (af st))(len:∀vs H Q E,sp vs H Q E->vs.length=ps.length)
  (hbody:∀(cdv:Value) (A:Around) (outer:List Env) (s:Shared) (H:Hp) (vs:List V) (Q:VK) (E:XK),dQ k (A.deeper (envOfC qual (af st) s.heap.objs.size f cdv))->sp vs H Q E ->
   ∃t,wN (xm wI P w K mg base N qual (af st) f cdv A outer s H E).M6 (aj st) t/\t { nx:=λ_ H'=>Q .non H',rt:=Q } (start N vs) H):fz P w K mg base wI (k+1) f fd ps sp:=by
 obtain⟨oc,od,kV,doc,pm,an,cdv,ct,osl,rfl,lk,hcd⟩:=F.ex;refine Nu lk hcd S len λA outer s H vs Q E hr hsp=>?_;obtain⟨t,h,q⟩:=hbody cdv A outer s H vs Q E hr hsp;exact⟨t,h.M6,q⟩
theorem Fg.binds{x qual:Str}{st:Stmt}{f:Addr}{fd:FuncData}{ps:List Str}(F:Fg K x qual st f fd)
  (h:∀(kV doc pm:Value) (an:Option Addr) (cdv ct:Value) (us:List Value),us.length=ps.length->bindArgs (PySem.W.fnOf x qual (aO st) (aj st) (af st) .none kV doc pm an cdv ct) ⟨us,[]⟩=pure (ps.zip us)):Binds K fd ps []:=by
 obtain⟨oc,od,kV,doc,pm,an,cdv,ct,osl,rfl,lk,hcd⟩:=F.ex;exact .all (h kV doc pm an cdv ct)
theorem bO{x qual:Str}{st:Stmt}{f:Addr}{oc:Value}{od an:Option Addr}{osl:Array (Option Value)}{kV doc pm cdv ct:Value}(l:K.lookup f=some ⟨oc,od,.func (PySem.W.fnOf x qual (aO st) (aj st) (af st) .none kV doc pm an cdv ct),osl⟩)
  (c:codeIn K cdv qual=true) (k:keepIn K (.ref f)=true):Fg K x qual st f (PySem.W.fnOf x qual (aO st) (aj st) (af st) .none kV doc pm an cdv ct):=⟨⟨oc,od,kV,doc,pm,an,cdv,ct,osl,rfl,l,c⟩,k⟩
end
section
variable {X:Cx}
theorem Ac:cS X (.builtin "len") (λxs H Q=>∃a kvs,xs=[V.ref a]/\H a=some (.dK kvs)/\Q (.int kvs.length) H):=by
 intro pins s σ H xs us Q I r h;obtain⟨a,kvs,rfl,ha,q⟩:=h;obtain⟨u,rfl,ru⟩:=vals1 r;cases ru;exact NG I (.inl ha) λt s' I'=>⟨.int kvs.length,H,I',⟨t,rfl⟩,q⟩
end
noncomputable def xA(H H':Hp):Prop:=∀b o,H b=some o->H' b=some o
theorem xA.seq{K:PySem.W.Frag}{H H':Hp}{a:Addr}{xs:List V}(e:xA H H')(h:iu K H a xs):iu K H' a xs:=by
 rcases h with (h|⟨o,h⟩)|h
 ·exact .inl (.inl (e _ _ h))
 ·exact .inl (.inr ⟨o,e _ _ h⟩)
 ·exact .inr h
section
variable {κ:Type} [DecidableEq κ]
end
end L2
end
section
namespace L2
open PySem PySem.Spec PyProof.Rows
theorem lz(env:Env):∀(names:List (Str×NameKind)) (acc:List (Str×Addr)),(∀y∈names,y.2=.free->∃c,env.cells.lookup y.1=some c) ->
  (∀x c,acc.lookup x=some c->env.cells.lookup x=some c) ->
  ∃cl,(forIn names acc λx r=>if (x.snd==NameKind.free)=true then do let c <-cellOf env x.fst;pure (ForInStep.yield ((x.fst,c)::r)) else pure (ForInStep.yield r))=(pure cl:Sem (List (Str×Addr))) /\
   (∀x c,cl.lookup x=some c->env.cells.lookup x=some c)/\∀x,((x,NameKind.free)∈names\/∃c,acc.lookup x=some c)->∃c,cl.lookup x=some c
 | [],acc,_,ha=>⟨acc,rfl,ha,λx h=>h.elim (λz=>nomatch z) λz=>z⟩
 | (n,k)::r,acc,hn,ha=>by
  have hr:∀y∈r,y.2=NameKind.free->∃c,env.cells.lookup y.1=some c:=λy hy=>hn y (mem_cons_of_mem _ hy)
  by_cases hk:k=.free
  ·subst hk
   obtain⟨c,hc⟩:=hn (n,.free) mem_cons_self rfl;have ha':∀x d,((n,c)::acc).lookup x=some d->env.cells.lookup x=some d:=λx d h=>by
    rw[lookup_cons] at h;cases e:x==n with
    | true =>rw[e] at h;have e':x=n:=eq_of_beq e;cases h;rw[e'];exact hc
    | false=>rw[e] at h;exact ha x d h
   obtain⟨cl,e1,e2,e3⟩:=lz env r ((n,c)::acc) hr ha';refine⟨cl,?_,e2,λx h=>?_⟩
   ·rw[List.forIn_cons]
    have hco:cellOf env n=pure c:=by unfold cellOf;rw[hc]
    simp only[beq_self_eq_true,if_true,hco];exact e1
   ·by_cases hx:x=n
    ·subst hx;exact e3 x (.inr ⟨c,by simp[lookup_cons]⟩)
    ·rcases h with h|⟨d,h⟩
     ·rcases mem_cons.mp h with z|z
      ·exact absurd (congrArg Prod.fst z) hx
      ·exact e3 x (.inl z)
     ·refine e3 x (.inr ⟨d,?_⟩);rw[lookup_cons];have:(x==n)=false:=beq_eq_false_iff_ne.mpr hx;rw[this];exact h
  ·have hb:(k==NameKind.free)=false:=beq_eq_false_iff_ne.mpr hk
   obtain⟨cl,e1,e2,e3⟩:=lz env r acc hr ha;refine⟨cl,?_,e2,λx h=>e3 x ?_⟩
   ·rw[List.forIn_cons];simp only[hb,false_eq_true,if_false];exact e1
   ·rcases h with h|h
    ·rcases mem_cons.mp h with z|z
     ·cases z;exact absurd rfl hk
     ·exact .inl z
    ·exact .inr h
theorem pF(h:∀y∈scope.names,y.2=.free->∃c,env.cells.lookup y.1=some c) :
  ∃cl,closureFor scope env=pure cl/\(∀x c,cl.lookup x=some c->env.cells.lookup x=some c)/\∀x,(x,NameKind.free)∈scope.names->∃c,cl.lookup x=some c:=by
 obtain⟨cl,e1,e2,e3⟩:=lz env scope.names [] h (λx c z=>by simp at z);refine⟨cl,?_,e2,λx hx=>e3 x (.inl hx)⟩;unfold closureFor;simp only[bind_pure];exact e1
noncomputable def bP(X:Cx)(scope:Scope)(N':List Str)(cl:List (Str×Addr))(C:Addr)(s:Shared)(H:Hp)(fp:List Addr):Cx :=
 { prog:=X.prog,w:=X.w,K:=X.K,mg:=X.mg,base:=X.base,A:=X.A,N:=N',s₀:=s,H₀:=H,env:=compEnvC scope cl C X.env,outer:=X.stack,stack:=X.stack,ex:=fp,fn:=λ_=>false,calm:=X.calm,pn:=[],xe:=λ_ _=>False }
noncomputable def jq(js:List (Option Nat))(σ:St):St:=js.map λo=>match o with
 | none=>none
 | some j=>match σ[j]? with
  | some (some v)=>some v
  | _=>none
noncomputable def sZ(sc:Scope)(x:Str):Bool:=sc.names.lookup x==some .cell||sc.names.lookup x==some .free
noncomputable def ju(XN:List Str)(xsc scope:Scope)(N':List Str)(js:List (Option Nat)):Bool :=
 scope.kind==.function&&(scope.names.all λy=>y.2 != .local||scope.names.lookup y.1==some .local)&&(scope.names.all λy=>y.2 != .cell) &&
 (scope.names.all λy=>y.2 != .free||(sZ xsc y.1&&scope.names.lookup y.1==some .free))&&js.length==N'.length &&
 ((N'.zip js).all λp=>match p.2 with|none=>true|some j=>XN[j]?==some p.1&&scope.names.lookup p.1==some .free)
structure tu (X:Cx) (scope:Scope) (N':List Str) (js:List (Option Nat)):Prop where
 kind:scope.kind=.function
 names:∀y∈scope.names,y.2=.local->scope.names.lookup y.1=some .local
 BN:∀y∈scope.names,y.2≠.cell
 free:∀y∈scope.names,y.2=.free->sZ X.env.scope y.1=true/\scope.names.lookup y.1=some .free
 len:js.length=N'.length
 src:∀(i:Nat) (x:Str) (j:Nat),N'[i]?=some x->js[i]?=some (some j)->X.N[j]?=some x/\scope.names.lookup x=some .free
theorem rN(h:ju X.N X.env.scope scope N' js=true):tu X scope N' js:=by
 unfold ju at h;simp only[and_eq_true,all_eq_true] at h;obtain⟨⟨⟨⟨⟨h1,h2⟩,h3⟩,h4⟩,h5⟩,h6⟩:=h;refine⟨eq_of_beq h1,λy hy e=>?_,λy hy e=>?_,λy hy e=>?_,eq_of_beq h5,λi x j e1 e2=>?_⟩
 ·have:=h2 y hy;rw[e] at this;simpa using this
 ·have:=h3 y hy;rw[e] at this;simp at this
 ·have:=h4 y hy;rw[e] at this;simpa using this
 ·have hm:(x,some j)∈N'.zip js:=by
   refine List.mem_iff_getElem?.mpr ⟨i,?_⟩;rw[List.getElem?_zip_eq_some];exact⟨e1,e2⟩
  have:=h6 _ hm;simpa using this
theorem kW(js:List (Option Nat))(σ:St):(jq js σ).length=js.length:=by unfold jq;rw[length_map]
noncomputable def Fi(X:Cx)(ifs:List Expr)(t:TT):Prop :=
 ∀(pins:List (Addr×Obj)) (s:Shared) (σ:St) (H:Hp) (Q:Bool->Hp->Prop),Inv X pins σ H s->t σ H Q ->
  wpAny (model X.prog X.w) X.A (forIn ifs true λc r=>if r=true then do let ok <-isTrue c X.env (eval c X.env);pure (ForInStep.yield ok) else pure (ForInStep.yield r)) (TP X pins σ Q) X.xe s
noncomputable def uM:TT:=λ_ H Q=>Q true H
theorem Fj:Fi X [] uM:=λ_ _ _ H _ I h=>wpAny_tests_nil ⟨H,I,h⟩
theorem Fo(h:PT X c t):Fi X [c] t:=λpins s σ H Q I hw=>wpAny_tests_one (h pins s σ H Q I hw)
noncomputable def BO(wi:TI)(js:List (Option Nat))(g:TG)(tt:TT)(te:TE):TE:=λσ H Q=>wi σ H λJ H1=>∀D,H1 D=none->∃W:Nat->Nat->St->Hp->Prop,(∃m,W 0 m (jq js σ) (upd H1 D (.lst []))) /\
 ∀i m σ' H,W i m σ' H->(J.stop i H/\Q (.ref D) H)\/(J.go i H/\∃N:St->Hp->Prop,(∀Bc H',N Bc H'->∃m',m'<m/\W (i+1) m' Bc H') /\
  ∀x H',J.wO i H x H'->g x σ' H' λσ2 H2=>tt σ2 H2 λb H3=>if b=true then te σ2 H3 λy H4=>∃ys,H4 D=some (.lst ys)/\ys.length<sizeLine/\N σ2 (upd H4 D (.lst (ys++[y]))) else N σ2 H3)
theorem qS(hc:∀y∈scope.names,y.2≠.cell)
  (h:(relabel scope env).names.lookup x=some .cell\/(relabel scope env).names.lookup x=some .free):(x,NameKind.free)∈scope.names:=by
 unfold relabel at h;simp only at h;generalize scope.names=ns at hc h
 induction ns with
 | nil=>simp at h
 | cons p r ih =>
  obtain⟨n,k⟩:=p;have hc':∀y∈r,y.2≠.cell:=λy hy=>hc y (mem_cons_of_mem _ hy);simp only[map_cons] at h;cases hx:x==n with
  | true =>
   have e':x=n:=eq_of_beq hx;subst e'
   by_cases hk:k=.free
   ·subst hk;exact mem_cons_self
   ·have hk2:=hc (x,k) mem_cons_self
    have hb:(k==NameKind.free)=false:=beq_eq_false_iff_ne.mpr hk;rw[hb] at h;simp only[Bool.false_and,false_eq_true,if_false,lookup_cons,beq_self_eq_true] at h
    rcases h with h|h
    ·exact absurd (Option.some.inj h) hk2
    ·exact absurd (Option.some.inj h) hk
  | false =>
   refine mem_cons_of_mem _ (ih hc' ?_)
   by_cases hk:(k==NameKind.free&&env.scope.kind==.function&&env.kindOf n==some .cell)=true
   ·rw[if_pos hk] at h;simp only[lookup_cons,hx] at h;exact h
   ·rw[if_neg hk] at h;simp only[lookup_cons,hx] at h;exact h
theorem tw(h:scope.names.lookup x=some .free) :
  (relabel scope env).names.lookup x=some .cell\/(relabel scope env).names.lookup x=some .free:=by
 unfold relabel;simp only;generalize scope.names=ns at h
 induction ns with
 | nil=>simp at h
 | cons p r ih =>
  obtain⟨n,k⟩:=p;simp only[map_cons];cases hx:x==n with
  | true =>
   simp only[lookup_cons,hx] at h;have hk:=Option.some.inj h;subst hk
   by_cases hk:(NameKind.free==NameKind.free&&env.scope.kind==.function&&env.kindOf n==some .cell)=true
   ·rw[if_pos hk];simp[lookup_cons,hx]
   ·rw[if_neg hk];simp[lookup_cons,hx]
  | false =>
   simp only[lookup_cons,hx] at h
   by_cases hk:(k==NameKind.free&&env.scope.kind==.function&&env.kindOf n==some .cell)=true
   ·rw[if_pos hk];simp only[lookup_cons,hx];exact ih h
   ·rw[if_neg hk];simp only[lookup_cons,hx];exact ih h
section
variable {X:Cx} {pins:List (Addr×Obj)} {σ:St} {scope:Scope} {N':List Str} {js:List (Option Nat)}
theorem pG(ok:tu X scope N' js)(xo:X.Ok):∀y∈scope.names,y.2=.free->∃c,X.env.cells.lookup y.1=some c:=λy hy e=>by
 have:=(ok.free y hy e).1;unfold sZ at this;rw[or_eq_true] at this;refine xo.has y.1 ?_
 rcases this with z|z
 ·exact .inl (eq_of_beq z)
 ·exact .inr (eq_of_beq z)
theorem xB{tk:Nat}(ok:tu X scope N' js)(I:Inv X pins σ H s)
  (hcl1:∀x c,cl.lookup x=some c->X.env.cells.lookup x=some c) (hcl2:∀x,(x,NameKind.free)∈scope.names->∃c,cl.lookup x=some c)
  (hfp:∀b∈fp,om X pins H b) (hlt:∀b∈fp,b<s.heap.objs.size)
  (hns:h'.Ns s.heap.objs.size (λ_=>none)) (hk:∀b o,s.heap.get? b=some o->h'.get? b=some o) :
  Inv (bP X scope N' cl s.heap.objs.size s H fp) [] (jq js σ) H { s with heap:=h',toks:=tk }:=by
 have cellK:∀x c,cl.lookup x=some c->∃v,s.heap.IsCell c v:=λx c e=>I.cell x c (hcl1 x c e);have hCf:H s.heap.objs.size=none:=I.hok.fresh (Nat.le_refl _);refine⟨⟨I.ok.mod,ok.kind,I.ok.glob,I.ok.blt,Nat.le_refl _,λx y c e1 e2=>I.ok.inj x y c (hcl1 x c e1) (hcl1 y c e2),λx hx=>hcl2 x (qS ok.BN hx),λx c hf _=>absurd hf (by intro z;cases z),I.ok.hd,I.ok.frames,.inl rfl,
   λb hb=>⟨ne_of_lt (hlt b hb),λx c e z=>?_⟩,I.bs,le_trans I.ok.HJ I.sz,λb o e hb=>?_,λb hb hs=>?_,I.stack,I.ym⟩,rfl,I.bare,Un.kept hk,⟨_,hns,λi x v e1 e2 e3=>?_⟩,λx c e=>?_,hCf,λx c e=>I.jD x c (hcl1 x c e),
   λp hp=>absurd (show p∈([]:List (Addr×Obj)) from hp) (by simp),I.hok.kept hk,?_⟩
 ·exact(hfp b hb).2.2.2.2.1 x c (hcl1 x c e) z
 ·rcases(hfp b hb).2.2.2.1 with z|z
  ·exact I.ok.ly b o e z
  ·exact absurd (lt_of_lt_of_le (lt_size (I.ok.bs b o e).1) z) (lt_irrefl _)
 ·rcases mem_cons.mp (I.wM b hs) with z|z
  ·exact(hfp b hb).2.1 z
  ·exact(hfp b hb).2.2.1 z
 ·-- a name WY has a value: one of the def around
  have Em:(jq js σ)[i]?=some (some v):=e2;unfold jq at Em;rw[getElem?_map] at Em;cases hj:js[i]? with
  | none=>rw[hj] at Em;cases Em
  | some o =>
   rw[hj] at Em;cases o with
   | none=>simp at Em
   | some j =>
    obtain⟨hN,hf⟩:=ok.src i x j e1 hj;cases hs:σ[j]? with
    | none=>simp[hs] at Em
    | some ov =>
     cases ov with
     | none=>simp[hs] at Em
     | some v' =>
      simp[hs] at Em;subst Em;have hfr:=(ok.free (x,.free) (PySem.mem_of_lookup hf) rfl).1;unfold sZ at hfr;rw[or_eq_true] at hfr;have NI:X.env.scope.names.lookup x=some .cell\/X.env.scope.names.lookup x=some .free:=hfr.imp eq_of_beq eq_of_beq;obtain⟨m,_,hl⟩:=I.loc;obtain⟨u,r,l⟩:=hl j x v' hN hs (.inr NI);refine⟨u,r,.inr ⟨tw hf,?_⟩⟩
      rcases l with ⟨k,_⟩|⟨_,c,e,z⟩
      ·have k':X.env.scope.names.lookup x=some .local:=k
       rcases NI with q|q<;>(rw[q] at k';cases k')
      ·obtain⟨d,hd⟩:=hcl2 x (PySem.mem_of_lookup hf);have e':=hcl1 x d hd;rw[e] at e';cases e';obtain⟨oc,hoc,Bk⟩:=z;exact⟨c,hd,oc,hk _ _ hoc,Bk⟩
 ·obtain⟨v,oc,hoc,Bk⟩:=cellK x c e;exact⟨v,oc,hk _ _ hoc,Bk⟩
 ·rw[kW];exact ok.len
theorem Ad(I:Inv X pins σ H s)(hfp:∀b∈fp,om X pins H b)
  (J:Inv (bP X scope N' cl C s H fp) [] σ' H' s'):Inv X pins σ H' s' :=
 I.MZ (ch:=fp) J.os J.base J.hok J.bare λb hb=>⟨(hfp b hb).2.2.2.1,(hfp b hb).2.1,(hfp b hb).2.2.2.2.1,(hfp b hb).2.2.2.2.2⟩
end
section
variable {X:Cx} {scope:Scope} {N':List Str} {js:List (Option Nat)} {tg elt iter:Expr} {ifs:List Expr} {pos:Pos} {wi:TI} {g:TG} {tt:TT} {te:TE}
theorem uO{pins:List (Addr×Obj)}{σ:St}{H2:Hp}{s2:Shared}{it:Addr}{fp:List Addr}{tn:Nat->Heap->Prop}{J:It}{cl:List (Str×Addr)}{E:Value->Shared->Prop}{RR:Value->Addr->Result->Shared->Prop}{Q:VK}
  (ok:tu X scope N' js) (hc:X.calm=true) (I2:Inv X pins σ H2 s2) (T:Turn X.prog X.w X.K tg J fp it tn) (st2:tn 0 s2.heap) (f2:∀b∈fp,om X pins H2 b)
  (hcl1:∀x c,cl.lookup x=some c->X.env.cells.lookup x=some c) (hcl2:∀x,(x,NameKind.free)∈scope.names->∃c,cl.lookup x=some c)
  (hg:∀cl C s H fp,PG (bP X scope N' cl C s H fp) tg g) (ht:∀cl C s H fp,Fi (bP X scope N' cl C s H fp) ifs tt) (he:∀cl C s H fp,PE (bP X scope N' cl C s H fp) elt te)
  (rd:∀D,H2 D=none->∃W:Nat->Nat->St->Hp->Prop,(∃m,W 0 m (jq js σ) (upd H2 D (.lst []))) /\
   ∀i m σ' H,W i m σ' H->(J.stop i H/\Q (.ref D) H)\/(J.go i H/\∃N:St->Hp->Prop,(∀Bc H',N Bc H'->∃m',m'<m/\W (i+1) m' Bc H') /\
    ∀x H',J.wO i H x H'->g x σ' H' λσ2 H2=>tt σ2 H2 λb H3=>if b=true then te σ2 H3 λy H4=>∃ys,H4 D=some (.lst ys)/\ys.length<sizeLine/\N σ2 (upd H4 D (.lst (ys++[y]))) else N σ2 H3))
  (hRR:∀(D C:Addr) (s':Shared) (H':Hp) (m:Str->Option Value),s2.heap.objs.size<=C->Inv X pins σ H' s'->H' C=none->s'.heap.Ns C m->Q (.ref D) H'->RR (.ref D) C (.ok .next) s') :
  wpAny (model X.prog X.w) X.A (newList []) (λacc s₃=>wpAny (model X.prog X.w) X.A (newFunctionEnv scope X.env.globals cl [] X.env.qual none .none (some X.env)) (λcenv s₄ =>
   codeAny (model X.prog X.w) X.A (.compStart (.ListComp elt [⟨tg,iter,ifs,0⟩] scope pos) 0 (.ref it) acc { cenv with scope:=relabel scope X.env }) (RR acc cenv.locals) s₄) E s₃) E s2:=by
 have hD:H2 s2.heap.objs.size=none:=I2.hok.fresh (Nat.le_refl _);refine wpAny_newObj_type (wpAny_newFunctionEnv ok.BN (by intro y hy;simp at hy) (λh₁ NJ NK=>?_) ok.kind);dsimp only at NJ NK |-;have I3:Inv X pins σ (upd H2 s2.heap.objs.size (.lst [])) { s2 with heap:=s2.heap.push { cls:=.type "list",dict:=none,data:=.seq ([]:List Value).toArray },toks:=s2.toks } :=
  I2.laid (t':=s2.toks) (λb u e=>get?_push_of_some _ e) (Nat.le_refl _) ⟨by simp,[],0,.nil,get?_push_size _ rfl⟩
 generalize NL:({ s2 with heap:=s2.heap.push { cls:=.type "list",dict:=none,data:=.seq ([]:List Value).toArray },toks:=s2.toks }:Shared)=s3 at I3;have hsz:s3.heap.objs.size=s2.heap.objs.size+1:=by rw[<-NL];exact size_push ..
 have eC:(s2.heap.push { cls:=.type "list",dict:=none,data:=.seq ([]:List Value).toArray }).objs.size=s3.heap.objs.size:=by rw[<-NL]
 have f3:∀b∈fp,om X pins (upd H2 s2.heap.objs.size (.lst [])) b:=λb hb=>by
  obtain⟨o,e,_⟩:=T.obj _ _ st2 b hb;refine⟨?_,(f2 b hb).2⟩;rw[aA (ne_of_lt (lt_size e))];exact(f2 b hb).1
 have hlt:∀b∈fp,b<s3.heap.objs.size:=λb hb=>by
  obtain⟨o,e,_⟩:=T.obj _ _ st2 b hb;have hb2:b<s2.heap.objs.size:=lt_size e;rw[hsz];exact lt_succ_of_lt hb2
 have keep:∀b o,s3.heap.get? b=some o->h₁.get? b=some o:=λb o e=>by
  have e':(s2.heap.push { cls:=.type "list",dict:=none,data:=.seq ([]:List Value).toArray }).get? b=some o:=by rw[<-NL] at e;exact e
  exact NK.extBut b o (ne_of_lt (lt_size e')) (get?_push_of_some _ e')
 have I4:=xB (tk:=s2.toks+([]:List (Str×Value)).length) ok I3 hcl1 hcl2 f3 hlt (h':=h₁) (by rw[<-eC];simpa using NJ) keep;have Vn:tn 0 h₁:=T.keep _ _ _ st2 λb hb o e=>keep b o (by rw[<-NL];exact get?_push_of_some _ e);obtain⟨W,⟨m0,w0⟩,turn⟩:=rd _ hD;have stat:∀{H':Hp},(∀b∈fp,H' b=none)->∀b∈fp,om (bP X scope N' cl s3.heap.objs.size s3 (upd H2 s2.heap.objs.size (.lst [])) fp) [] H' b:=λ{H'} hn b hb =>
  ⟨hn b hb,ne_of_lt (hlt b hb),I4.ok.Bj b hb,.inl hb,(I4.ok.QN b hb).2,λp hp=>absurd (show p∈([]:List (Addr×Obj)) from hp) (by simp)⟩
 have WZ:∀tk,({ s2 with heap:=h₁,toks:=tk }:Shared)={ s3 with heap:=h₁,toks:=tk }:=λtk=>by rw[<-NL]
 have loop:codeAny (model X.prog X.w) X.A (.compLoop (.ListComp elt [⟨tg,iter,ifs,0⟩] scope pos) 0 (.ref it) (.ref s2.heap.objs.size) (compEnvC scope cl s3.heap.objs.size X.env)) (RR (.ref s2.heap.objs.size) s3.heap.objs.size)
   { s3 with heap:=h₁,toks:=s2.toks+([]:List (Str×Value)).length }:=by
  refine codeAny_loop rfl (λn s'=>∃i σ' H',Inv (bP X scope N' cl s3.heap.objs.size s3 (upd H2 s2.heap.objs.size (.lst [])) fp) [] σ' H' s'/\tn i s'.heap/\(∀b∈fp,H' b=none)/\W i n σ' H') ?_ m0 ⟨0,_,_,I4,Vn,λb hb=>(f3 b hb).1,w0⟩;rintro n s5 ⟨i,σ5,H5,I5,Ek,Qn,w5⟩;show wpAny _ X.A ((compTurn (.ListComp elt [⟨tg,iter,ifs,0⟩] scope pos) 0 (.ref it) (.ref s2.heap.objs.size) (compEnvC scope cl s3.heap.objs.size X.env)).onRaise (λx=>do noteFrame x (compEnvC scope cl s3.heap.objs.size X.env);theTreesLotGoes x)) _ _ s5;refine wpAny_noted ?_;rw[compTurn_list];refine wpAny_bind (wpAny_standAt (wpAny_bind ?_))
  rcases turn i n σ5 H5 w5 with ⟨stop,qn⟩|⟨go,N,hN,step⟩
  ·refine wpAny_mono (T.done (bP X scope N' cl s3.heap.objs.size s3 (upd H2 s2.heap.objs.size (.lst [])) fp) rfl rfl rfl hc i [] s5 σ5 H5 (λ_ _=>False) I5 (stat Qn) Ek stop) (λr s6 ⟨hr,I6⟩=>?_) λ_ _ z=>z.elim;subst hr;refine wpAny_pure ?_;obtain⟨m,hm,_⟩:=id I6.loc;exact hRR _ _ s6 H5 m (by rw[hsz];exact le_succ _) (Ad I3 f3 I6) I6.free hm qn
  ·refine wpAny_mono (T.item (bP X scope N' cl s3.heap.objs.size s3 (upd H2 s2.heap.objs.size (.lst [])) fp) rfl rfl rfl hc i [] s5 σ5 H5 (λ_ _=>False) I5 (stat Qn) Ek go) (λr s6 ⟨u,hr,h6⟩=>?_) λ_ _ z=>z.elim
   subst hr;refine wpAny_bind (wpAny_mono h6 (λ_ s7 ⟨x,H7,I7,r7,y7,JV,W0⟩=>?_) λ_ _ z=>z.elim);have W2:=I7.pinned (stat W0) (T.obj _ _ JV);refine wpAny_bind (wpAny_mono (hg _ _ _ _ _ _ s7 σ5 H7 x u _ W2 r7 (step x H7 y7)) (λ_ s8 ⟨σ8,H8,I8,q8⟩=>?_) λ_ _ z=>z.elim);refine wpAny_bind (wpAny_mono (ht _ _ _ _ _ _ s8 σ8 H8 _ I8 q8) (λb s9 ⟨H9,I9,q9⟩=>?_) λ_ _ z=>z.elim);have BP:∀{sA:Shared} {σA:St} {HA:Hp},Inv (bP X scope N' cl s3.heap.objs.size s3 (upd H2 s2.heap.objs.size (.lst [])) fp) ([]++o4 fp s7.heap) σA HA sA->N σA HA ->
     ∃m,m<n/\∃i σ' H',Inv (bP X scope N' cl s3.heap.objs.size s3 (upd H2 s2.heap.objs.size (.lst [])) fp) [] σ' H' sA/\tn i sA.heap/\(∀b∈fp,H' b=none)/\W i m σ' H':=λ{sA σA HA} IA nA=>by
    obtain⟨m',hm,wA⟩:=hN σA HA nA;refine⟨m',hm,i+1,σA,HA,IA.lJ,T.keep _ _ _ JV λb hb o e=>(IA.pin (b,o) (mem_append_right _ (mem_append_right _ (jm hb e)))).1,λb hb=>?_,wA⟩;obtain⟨o,e,d⟩:=T.obj _ _ JV b hb;exact(IA.pin (b,o) (mem_append_right _ (mem_append_right _ (jm hb e)))).2.1
   cases b with
   | false=>exact wpAny_pure ⟨rfl,BP I9 (by simpa using q9)⟩
   | true =>rw[if_pos rfl] at q9;refine wpAny_bind (wpAny_bind (wpAny_mono (he _ _ _ _ _ _ s9 σ8 H9 _ I9 q9) (λv sB ⟨y,HB,IB,rB,ys,hys,hlen,nB⟩=>?_) λ_ _ z=>z.elim));refine wpAny_bind (wpAny_mono (rL (X:=bP X scope N' cl s3.heap.objs.size s3 (upd H2 s2.heap.objs.size (.lst [])) fp) _ sB σ8 HB (.ref s2.heap.objs.size) [y] _ [v] (λ_ HC=>HC=upd HB s2.heap.objs.size (.lst (ys++[y]))) IB rfl (.cons rB .nil) ⟨_,ys,y,rfl,rfl,hys,hlen,rfl⟩) (λv' sC ⟨_,HC,IC,_,W3⟩=>?_) λ_ _ z=>z.elim);subst W3;exact wpAny_pure (wpAny_pure ⟨rfl,BP IC nB⟩)
 rw[WZ];have RE:({ newEnv scope (s2.heap.push { cls:=.type "list",dict:=none,data:=.seq ([]:List Value).toArray }).objs.size X.env.globals cl X.env.qual none Value.none (some X.env) builtinsNs with scope:=relabel scope X.env }:Env)=compEnvC scope cl s3.heap.objs.size X.env:=by rw[eC];rfl
 have RG:(newEnv scope (s2.heap.push { cls:=.type "list",dict:=none,data:=.seq ([]:List Value).toArray }).objs.size X.env.globals cl X.env.qual none Value.none (some X.env) builtinsNs).locals=s3.heap.objs.size:=by rw[eC];rfl
 rw[RE,RG];exact codeAny_compStart_list loop (T.self _ _ _ _ _ Vn loop)
theorem Fp(hok:ju X.N X.env.scope scope N' js=true)(hc:X.calm=true)(hi:PI X tg iter wi)(hg:∀cl C s H fp,PG (bP X scope N' cl C s H fp) tg g)
  (ht:∀cl C s H fp,Fi (bP X scope N' cl C s H fp) ifs tt) (he:∀cl C s H fp,PE (bP X scope N' cl C s H fp) elt te)
  (hs:∀x,foldedSetIterable iter X.env x=pure x:=by intro _;rfl):PE X (.ListComp elt [⟨tg,iter,ifs,0⟩] scope pos) (BO wi js g tt te):=by
 intro pins s σ H Q I h;have ok:=rN hok;obtain⟨cl,RH,hcl1,hcl2⟩:=pF (pG ok I.ok);rw[eval_ListComp];refine wpAny_comprehension_free (use:=none) rfl hs RH ok.kind ok.names (cG (hi pins s σ H _ I h) λxv s1 h1=>cG h1 λitv s2 h2=>?_);obtain⟨it,fp,tn,J,H2,rfl,I2,T,st2,f2,rd⟩:=h2;refine uO (RR:=λacc C=>compPost (model X.prog X.w) X.A X.xe none (EP X pins σ Q) acc C) ok hc I2 T st2 f2 hcl1 hcl2 hg ht he rd ?_;intro D C s' H' m hC J' fC hm q;refine⟨m,hm,λh' hs'=>⟨.ref D,H',?_,rfl,q⟩⟩;refine J'.turned (t':=s'.toks) (λb o hb e=>hs'.extBut b o hb e) fC (Nat.ne_of_gt (lt_of_lt_of_le I2.lt hC)) (.inr (le_trans I2.sz hC)) (λx c e z=>?_) λp hp z=>?_
 ·obtain⟨v,q'⟩:=I2.cell x c e;exact absurd (lt_of_lt_of_le q'.lt (by rw[z];exact hC)) (lt_irrefl _)
 ·exact absurd (lt_of_lt_of_le (lt_size (I2.pin p hp).1) (by rw[z];exact hC)) (lt_irrefl _)
theorem Fq{i:Nat}(hN:X.N.Nodup)(hx:X.N[i]?=some x)(hl:Loc X.env.scope x)(hok:ju X.N X.env.scope scope N' js=true)(hc:X.calm=true)(hi:PI X tg iter wi)(hg:∀cl C s H fp,PG (bP X scope N' cl C s H fp) tg g)
  (ht:∀cl C s H fp,Fi (bP X scope N' cl C s H fp) ifs tt) (he:∀cl C s H fp,PE (bP X scope N' cl C s H fp) elt te)
  (hsw:swapsWith (.ListComp elt [⟨tg,iter,ifs,0⟩] scope pos) (some (.Name x pos')) spos.line X.env=pure true:=by rfl)
  (hf:X.fn x=true\/X.env.scope.names.lookup x=some .local:=by first|exact .inl rfl|exact .inr rfl|assumption)
  (hs:∀x,foldedSetIterable iter X.env x=pure x:=by intro _;rfl):PS X (.Assign [.Name x pos'] (.ListComp elt [⟨tg,iter,ifs,0⟩] scope pos) spos) (ED (BO wi js g tt te) (rE i)):=by
 intro pins s σ H D I h;have ok:=rN hok;obtain⟨cl,RH,hcl1,hcl2⟩:=pF (pG ok I.ok);rw[exec_Assign_Name_used _ _ _ _ hsw];refine wpAny_bind (wpAny_standAt (wpAny_bind ?_));show wpAny _ X.A (do let _ <-comprehension (.ListComp elt [⟨tg,iter,ifs,0⟩] scope pos) scope X.env _ (newList []) false (eval iter X.env) (some (assign (.Name x pos') X.env))) _ _ s;refine wpAny_bind (wpAny_mono (wpAny_comprehension_free (use:=some (assign (.Name x pos') X.env)) (Q:=λ_ s'=>SP X pins D .next s') rfl hs RH ok.kind ok.names
  (cG (hi pins s σ H _ I h) λxv s1 h1=>cG h1 λitv s2 h2=>?_)) (λ_ s' hq=>wpAny_pure (wpAny_pure hq)) λ_ _ e=>e)
 obtain⟨it,fp,tn,J,H2,rfl,I2,T,st2,f2,rd⟩:=h2;refine uO (RR:=λacc C=>compPost (model X.prog X.w) X.A X.xe (some (assign (.Name x pos') X.env)) (λ_ s'=>SP X pins D .next s') acc C) (Q:=λx H1=>rE i x σ H1 D.nx) ok hc I2 T st2 f2 hcl1 hcl2 hg ht he rd ?_;intro E C s' H' m hC J' fC hm q;have Vo:C≠X.env.locals:=Nat.ne_of_gt (lt_of_lt_of_le I2.lt hC);have hCc:∀x c,X.env.cells.lookup x=some c->c≠C:=λx c e z=>by
  obtain⟨v,q'⟩:=I2.cell x c e;exact absurd (lt_of_lt_of_le q'.lt (by rw[z];exact hC)) (lt_irrefl _)
 refine cG (show wpAny _ X.A (assign (.Name x pos') X.env (.ref E)) (λ_ s''=>(∃Bc JW,Inv X pins Bc JW s''/\D.nx Bc JW/\JW C=none)/\∃m,s''.heap.Ns C m) X.xe s' from ?_) λ_ s'' ⟨⟨Bc,JW,RI,W4,RJ⟩,W5,JX⟩=>?_
 ·refine wpAny_assign_Name (rD J' hN hx hl (show RelV (.ref E) (.ref E) from rfl) (λs'' RI ⟨a,W6,ha⟩=>⟨⟨_,H',RI,q,fC⟩,m,?_⟩) hf)
  refine hm.sameBut W6 ?_
  rcases ha with z|z
  ·rw[z];exact Vo
  ·exact λw=>hCc _ _ z w.symm
 ·refine⟨W5,JX,λh' hs'=>⟨Bc,JW,?_,W4⟩⟩;refine RI.turned (t':=s''.toks) (λb o hb e=>hs'.extBut b o hb e) RJ Vo (.inr (le_trans I2.sz hC)) hCc λp hp z=>?_;exact absurd (lt_of_lt_of_le (lt_size (I2.pin p hp).1) (by rw[z];exact hC)) (lt_irrefl _)
end
end L2
end
section
namespace L2
open PySem PySem.Spec PyProof.Rows
theorem Inv.yz{X:Cx}{pins:List (Addr×Obj)}{σ:St}{H:Hp}{s:Shared}{h':Heap}{t':Nat}{ch:List Addr}(I:Inv X pins σ H s)(hf:∀b∈ch,om X pins H b)
  (k:∀b o,b∉ch->s.heap.get? b=some o->h'.get? b=some o):Inv X pins σ H { s with heap:=h',toks:=t' }:=by
 have MX:∀b u,H b=some u->b∉ch:=λb u e z=>by rw[(hf b z).1] at e;cases e
 refine I.step (g':=s.gens) (d':=s.drawn) (ch:=ch) (λb hb=>?_) (λb o _ _ hc e _=>k b o hc e) (λb o _ _ hc e _=>⟨o.slots,k b o hc e⟩) (λ_ _ _ _ n=>n)
  (λb o hc e=>⟨o,k b o hc e⟩) (λ_ _ e=>e) (λ_ _ _ e=>e) (λb ps e=>⟨#[],by rw[e];simp⟩) (λm hm=>?_) (λb u e=>?_) I.bare
 ·exact⟨(hf b hb).2.2.2.1,(hf b hb).2.1,(hf b hb).2.2.2.2.1,(hf b hb).2.2.2.2.2⟩
 ·obtain⟨o,es,ep,ho,r⟩:=hm;exact⟨o,es,ep,k _ o (λz=>(hf _ z).2.1 rfl) ho,r⟩
 ·refine(I.hok b u e).stay (λc v hc q=>k c v ?_ q) (λ_ q=>q) λ_ _ q=>q
  rcases hc with z|z
  ·rw[z];exact MX b u e
  ·exact MX c _ z
noncomputable def NN(K:PySem.W.Frag)(a:Addr):It :=
 ⟨λi H=>∃xs x,iu K H a xs/\xs[i]?=some x,λi H x H'=>∃p v,H p=none/\x=.ref p/\H'=upd H p (.tup [.int i,v])/\∀xs,iu K H a xs->xs[i]?=some v,λi H=>∃xs,iu K H a xs/\xs.length<=i⟩
theorem Ae{P:Program}{w:World}{K:PySem.W.Frag}{es:List Expr}{k:Nat}{pos:Pos}(a e it:Addr)(hne:e≠it) :
  Turn P w K (.Tuple es k pos) (NN K a) [e,it] e (λi h=>(∃old,IsEnum h e it i old)/\h.IsListIter it a i) where
 mem:=by simp
 obj:=λi h st b hb=>by
  obtain⟨⟨old,he⟩,⟨o,e2,c,d⟩⟩:=st
  rcases mem_cons.mp hb with z|z
  ·subst z;exact⟨_,he,λv z=>nomatch z⟩
  ·rw[mem_singleton.mp z];exact⟨o,e2,λv z=>by rw[d] at z;cases z⟩
 keep:=λi h h' st k=>⟨let ⟨old,he⟩:=st.1;⟨old,k e (by simp) _ he⟩,st.2.at λo e=>k it (by simp) o e⟩
 item:=by
  intro X hP hw hK hc i pins s σ H E I hf st hg;subst hP hw hK;obtain⟨xs,x,hq,hx⟩:=hg;obtain⟨its,rv,p,hz⟩:=I.list hq;obtain⟨u,hu,ru⟩:=rv.get hx;obtain⟨⟨old,he⟩,hit⟩:=st;have hei:e<s.heap.objs.size:=lt_size he;have W7:it<s.heap.objs.size:=by obtain⟨_,y,_⟩:=hit;exact lt_size y
  refine wpAny_pyNext_enum_item he hit p.isList (x:=u) (by simpa using hu) hne λh' ho RK hT hsz hk=>?_;refine⟨_,rfl,?_⟩;refine wpAny_letOwnedTupleGo_enum ho λh2 W8 hs2=>?_;have hT2:h2.get? s.heap.objs.size=some { cls:=.type "tuple",data:=.seq #[.int i s.toks,u] }:=hs2.extBut _ _ (Nat.ne_of_gt hei) hT;have I1:Inv X pins σ H { s with heap:=h2,toks:=s.toks+1 }:=I.yz (ch:=[e,it]) hf λb o hb q=>by
   have h1:b≠e:=λz=>hb (by simp[z]);have h2:b≠it:=λz=>hb (by simp[z]);exact hs2.extBut b o h1 (hk b o h1 h2 q)
  have hn:H s.heap.objs.size=none:=I.hok.fresh (Nat.le_refl _);have I2:Inv X pins σ (upd H s.heap.objs.size (.tup [.int i,x])) { s with heap:=h2,toks:=s.toks+1 }:=by
   have un:Un X.fs [] H (upd H s.heap.objs.size (.tup [.int i,x])) s.heap s.heap:=Un.laid (λb u q=>q) (Nat.le_refl _) hn;refine⟨I1.ok,I1.os,I1.bare,?_,I1.loc,I1.cell,?_,λy c q=>?_,λp hp=>?_,λb o q=>?_,I1.len⟩
   ·refine⟨I1.base.keep,I1.base.slot,λb o q n hx=>?_,I1.base.there,λb ys q=>?_,λb o ys q=>?_,λb ps q=>?_⟩
    ·have hlt:b<s.heap.objs.size:=lt_of_lt_of_le (lt_size q) I.sz;rw[aA (ne_of_lt hlt)];exact I1.base.free b o q n hx
    ·rw[aA (aG (I1.base.tups b ys q) hn)];exact I1.base.tups b ys q
    ·rw[aA (aG (I1.base.frzs b o ys q) hn)];exact I1.base.frzs b o ys q
    ·obtain⟨more,z⟩:=I1.base.sP b ps q;exact⟨more,by rw[aA (aG z hn)];exact z⟩
   ·rw[aA (ne_of_lt I.lt)];exact I1.free
   ·obtain⟨v,z⟩:=I.cell y c q;rw[aA (ne_of_lt z.lt)];exact I1.jD y c q
   ·obtain⟨q1,q2,q3⟩:=I1.pin p hp;refine⟨q1,?_,q3⟩;rw[aA (ne_of_lt (lt_size (I.pin p hp).1))];exact q2
   ·by_cases hb:b=s.heap.objs.size
    ·subst hb;rw[aV] at q;cases q;exact⟨by show 2<=sizeLine;decide,[.int i s.toks,u],.cons ⟨_,rfl⟩ (.cons ru .nil),_,hT2,rfl,_,rfl⟩
    ·rw[aA hb] at q;exact(I1.hok b o q).stay (λc v _ z=>z) (λc z=>by rw[aA (aG z hn)];exact z) λc ys z=>by rw[aA (aG z hn)];exact z
  refine⟨.ref s.heap.objs.size,_,I2,rfl,⟨s.heap.objs.size,x,hn,rfl,rfl,λys hy=>by rw[I.uA hy hq];exact hx⟩,⟨⟨_,by simpa using W8⟩,?_⟩,λb hb=>?_⟩
  ·exact RK.at λo y=>(hs2.2 it hne.symm).trans y
  ·have hlt:b<s.heap.objs.size:=by
    rcases mem_cons.mp hb with z|z
    ·rw[z];exact hei
    ·rw[mem_singleton.mp z];exact W7
   rw[aA (ne_of_lt hlt)];exact(hf b hb).1
 done:=by intro X hP hw hK hc i pins s σ H E I hf st hg;subst hP hw hK;obtain⟨xs,hq,hx⟩:=hg;obtain⟨its,rv,p,hz⟩:=I.list hq;obtain⟨⟨old,he⟩,hit⟩:=st;have hl:=rv.length;exact wpAny_pyNext_enum_end (I.ok.hd hc) he hit p.isList (by simp;omega) λh' eb=>⟨rfl,I.yz (t':=s.toks) (ch:=[e,it]) hf λb o hb q=>eb b o (λz=>hb (by simp[z])) q⟩
 self:=λ_ _ _ _ _ st h=>let ⟨_,he⟩:=st.1;wpAny_pyIter_enum he h
noncomputable def NO(K:PySem.W.Frag)(ta:TA):TI:=λσ H R=>ta σ H λvs H1=>∃a,vs=[.ref a]/\(∃xs,iu K H1 a xs)/\R (NN K a) H1
theorem Ft{k:Nat}(hg:Gl X "enumerate")(hm:X.mg "enumerate" = none)(ha:PA X [a] ta)(hs:starEach [a] X.env=[(false,eval a X.env)]:=by rfl) :
  PI X (.Tuple es k tpos) (.Call (.Name "enumerate" p) [a] [] pos) (NO X.K ta):=by
 intro pins s σ H R I h;refine Call_ (iB I hg hm boot_enumerate (PyProof.Rows.callWith_type1 (cG (ha pos pins s σ H _ I h) λus s1 aE=>?_) hs rfl));obtain⟨vs,H1,I1,r1,q1⟩:=aE;obtain⟨l,e,⟨xs,hq⟩,q⟩:=q1;subst e;cases r1 with
 | cons r rr =>
  cases rr;cases r;obtain⟨its,rv,pl,hz⟩:=I1.list hq;refine call_enumerate_list pl.isList λh' he hit hsz hk=>?_;have I2:Inv X pins σ H1 { s1 with heap:=h' }:=I1.kept (t':=s1.toks) hk;refine wpAny_pyIter_enum (s:={ s1 with heap:=h' }) he ?_;refine⟨_,[s1.heap.objs.size+1,s1.heap.objs.size],_,_,H1,rfl,I2,Ae l _ _ (Nat.ne_of_gt (lt_succ_self _)),⟨⟨_,by simpa using he⟩,hit⟩,λb hb=>?_,q⟩;have hb':s1.heap.objs.size<=b:=by
   rcases mem_cons.mp hb with z|z
   ·rw[z];exact le_succ _
   ·rw[mem_singleton.mp z];exact Nat.le_refl _
  exact I1.EE hb' (I1.hok.fresh hb')
end L2
end
section
namespace L2
open PySem PySem.W PyProof.Rows
namespace oJ
section
variable {O:KeyOrd} {key:Nat->O.α} {N:Nat} {cmp:Nat->Nat->(Bool->Shared->Prop)->Shared->Prop} {s:Shared}
noncomputable def K(O:KeyOrd)(key:Nat->O.α)(p:Array Nat)(i:Nat):O.α:=key (p.getD i 0)
noncomputable def Up(O:KeyOrd)(key:Nat->O.α)(p:Array Nat)(k:Nat):Prop:=∀i j,i<=j->j<k->O.kle (K O key p i) (K O key p j)
noncomputable def Down(O:KeyOrd)(key:Nat->O.α)(p:Array Nat)(k:Nat):Prop:=∀i j,i<=j->j<k->O.kle (K O key p j) (K O key p i)
noncomputable def Fv(O:KeyOrd)(key:Nat->O.α)(N:Nat)(cmp:Nat->Nat->(Bool->Shared->Prop)->Shared->Prop)(s:Shared):Prop :=
 ∀i j (C:Bool->Shared->Prop),i<N->j<N->C (O.blt (key i) (key j)) s->cmp i j C s
noncomputable def Ent(N:Nat)(p:Array Nat):Prop:=p.size=N/\0<N/\∀x∈p.toList,x<N
theorem Ent.at{p:Array Nat}(h:Ent N p)(i:Nat):p.getD i 0<N:=by
 by_cases hi:i<p.size
 ·have e:p.getD i 0=p[i]:=by simp[Array.getD,hi]
  rw[e];exact h.2.2 _ (by simp)
 ·have e:p.getD i 0=0:=by simp[Array.getD,hi]
  rw[e];exact h.2.1
theorem Ent.perm{p q:Array Nat}(h:Ent N p)(e:q.Perm p):Ent N q :=
 ⟨e.size_eq.trans h.1,h.2.1,λx hx=>h.2.2 x ((Array.perm_iff_toList_perm.mp e).mem_iff.mp hx)⟩
theorem K_congr{p q:Array Nat}{i j:Nat}(h:p[i]?=q[j]?):K O key p i=K O key q j:=by
 unfold K;rw[Array.getD_eq_getD_getElem?,Array.getD_eq_getD_getElem?,h]
theorem K_bubble{p:Array Nat}{src d:Nat}(hs:src<p.size)(hd:d<=src)(k:Nat) :
  K O key (bubble p src d) k=if k=src-d then K O key p src else if src-d<k/\k<=src then K O key p (k-1) else K O key p k:=by
 have e:=getElem?_bubble hs d hd k
 by_cases h1:k=src-d
 ·rw[if_pos h1] at e |-;exact K_congr e
 ·rw[if_neg h1] at e |-
  by_cases h2:src-d<k/\k<=src
  ·rw[if_pos h2] at e |-;exact K_congr e
  ·rw[if_neg h2] at e |-;exact K_congr e
theorem BQ{p:Array Nat}{i j:Nat}(hj:j<=p.size)(k:Nat):K O key (kas_rev p i j) k=if i<=k/\k<j then K O key p (i+j-1-k) else K O key p k:=by
 have e:=getElem?_mirror_all (i:=i) hj k
 by_cases h1:i<=k/\k<j
 ·rw[if_pos h1] at e |-;exact K_congr e
 ·rw[if_neg h1] at e |-;exact K_congr e
theorem pH{p:Array Nat}{i j:Nat}(hj:j<=p.size)(h:∀k,i<=k->k<j->K O key p k=K O key p (j-1))(k:Nat):K O key (kas_rev p i j) k=K O key p k:=by
 rw[BQ hj]
 split
 ·rw[h _ (by omega) (by omega),h k (by omega) (by omega)]
 ·rfl
theorem uQ{p:Array Nat}{m:Nat}(h:∀t,1<=t->t<m->O.kle (K O key p (t-1)) (K O key p t)):Up O key p m:=by
 intro i j hij hj
 induction j with
 | zero =>
  have:i=0:=by omega
  subst this;exact KeyOrd.kle_refl _
 | succ j ih =>
  by_cases e:i=j+1
  ·subst e;exact KeyOrd.kle_refl _
  ·exact KeyOrd.kle_trans (ih (by omega) (by omega)) (h (j+1) (by omega) hj)
theorem JY(hA:Fv O key N cmp s){p:Array Nat}(he:Ent N p):∀(f n:Nat) {Q:Nat->Shared->Prop},1<=n ->
  (∀m,n<=m->m<=n+f->(∀t,n<=t->t<m->O.kle (K O key p (t-1)) (K O key p t))->(m<n+f->O.klt (K O key p m) (K O key p (m-1)))->Q m s)->(kas_asc p f n).kasWp cmp Q s
 | 0,n,Q,hn,h=>h n (Nat.le_refl _) (Nat.le_refl _) (λt h1 h2=>by omega) λq=>by omega
 | f+1,n,Q,hn,h=>by
  show cmp _ _ _ s;refine hA _ _ _ (he.at _) (he.at _) ?_;cases hb:O.blt (key (p.getD n 0)) (key (p.getD (n-1) 0)) with
  | true=>exact h n (Nat.le_refl _) (by omega) (λt h1 h2=>by omega) λ_=>hb
  | false =>
   show (kas_asc p f (n+1)).kasWp cmp Q s;refine JY hA he f (n+1) (by omega) λm h1 h2 h3 h4=>h m (by omega) (by omega) (λt t1 t2=>?_) λq=>h4 (by omega)
   by_cases e:t=n
   ·subst e;exact hb
   ·exact h3 t (by omega) t2
theorem yC(hA:Fv O key N cmp s):∀(f:Nat) (p:Array Nat) (n q:Nat) {Q:Array Nat×Nat×Nat->Shared->Prop},Ent N p->1<=n->n+f<=N->q+1<=n->Down O key p n->(∀i,n-(q+1)<=i->i<n->K O key p i=K O key p (n-1)) ->
  (∀p' n' q',p'.Perm p->Ent N p'->1<=n'->n<=n'->n'<=n+f->q'+1<=n'->Down O key p' n'->(∀i,n'-(q'+1)<=i->i<n'->K O key p' i=K O key p' (n'-1))->Q (p',n',q') s)->(kas_desc f p n q).kasWp cmp Q s
 | 0,p,n,q,Q,he,hn,hN,hq,hd,hl,h=>h p n q (Array.Perm.refl _) he hn (Nat.le_refl _) (Nat.le_refl _) hq hd hl
 | f+1,p,n,q,Q,he,hn,hN,hq,hd,hl,h=>by
  show cmp _ _ _ s;refine hA _ _ _ (he.at _) (he.at _) ?_;cases hb:O.blt (key (p.getD n 0)) (key (p.getD (n-1) 0)) with
  | true =>
   have hlt:O.klt (K O key p n) (K O key p (n-1)):=hb;have hd1:Down O key p (n+1):=λi j hij hj=>by
    by_cases e:j=n
    ·subst e
     by_cases e2:i=j
     ·subst e2;exact KeyOrd.kle_refl _
     ·exact KeyOrd.kle_trans (KeyOrd.kle_of_klt hlt) (hd i (j-1) (by omega) (by omega))
    ·exact hd i j hij (by omega)
   show (if q>0 then kas_desc f (kas_rev p (n-(q+1)) n) (n+1) 0 else kas_desc f p (n+1) 0).kasWp cmp Q s
   by_cases Vp:q>0
   ·rw[if_pos Vp]
    have ep:(kas_rev p (n-(q+1)) n).Perm p:=mirror_perm _ _ _ _;have eK:∀k,K O key (kas_rev p (n-(q+1)) n) k=K O key p k:=λk=>pH (by rw[he.1];omega) hl k;refine yC hA f _ (n+1) 0 (he.perm ep) (by omega) (by omega) (by omega) (λi j hij hj=>by rw[eK,eK];exact hd1 i j hij hj) (λi h1 h2=>?_) λp' n' q' g1 g2 g3 g4 g5 g6 g7 g8=>h p' n' q' (g1.trans ep) g2 g3 (by omega) (by omega) g6 g7 g8;have:i=n:=by omega
    subst this;rfl
   ·rw[if_neg Vp]
    refine yC hA f p (n+1) 0 he (by omega) (by omega) (by omega) hd1 (λi h1 h2=>?_) λp' n' q' g1 g2 g3 g4 g5 g6 g7 g8=>h p' n' q' g1 g2 g3 (by omega) (by omega) g6 g7 g8;have:i=n:=by omega
    subst this;rfl
  | false =>
   show cmp _ _ _ s;refine hA _ _ _ (he.at _) (he.at _) ?_;cases hc:O.blt (key (p.getD (n-1) 0)) (key (p.getD n 0)) with
   | true=>exact h p n q (Array.Perm.refl _) he hn (Nat.le_refl _) (by omega) hq hd hl
   | false =>
    have heq:K O key p n=K O key p (n-1):=O.total _ _ hb hc;show (kas_desc f p (n+1) (q+1)).kasWp cmp Q s;refine yC hA f p (n+1) (q+1) he (by omega) (by omega) (by omega) (λi j hij hj=>?_) (λi h1 h2=>?_) λp' n' q' g1 g2 g3 g4 g5 g6 g7 g8=>h p' n' q' g1 g2 g3 (by omega) (by omega) g6 g7 g8
    ·by_cases e:j=n
     ·subst e
      by_cases e2:i=j
      ·subst e2;exact KeyOrd.kle_refl _
      ·rw[heq];exact hd i (j-1) (by omega) (by omega)
     ·exact hd i j hij (by omega)
    ·show K O key p i=K O key p (n+1-1)
     rw[Nat.add_sub_cancel]
     by_cases e:i=n
     ·subst e;rfl
     ·rw[heq];exact hl i (by omega) (by omega)
theorem BR(hA:Fv O key N cmp s){p:Array Nat}{n nrem:Nat}(he:Ent N p)(h1:1<=n)(hn:n<=nrem)(hr:nrem<=N)(hd:Down O key p n)
  (h:∀m p',p'.Perm p->Ent N p'->1<=m->m<=nrem->Up O key p' m->Q (m,p') s):(kas_tail3 n nrem p).kasWp cmp Q s:=by
 unfold kas_tail3;rw[KasT.kasWp_bind];have ep:(kas_rev p 0 n).Perm p:=mirror_perm _ _ _ _;have hz:n<=p.size:=by rw[he.1];omega
 refine JY hA (he.perm ep) _ _ h1 λm a1 a2 a3 _=>h m _ ep (he.perm ep) (by omega) (by omega) (uQ λt t1 t2=>?_)
 by_cases e:t<n
 ·rw[BQ hz,BQ hz,if_pos (by omega),if_pos (by omega)];exact hd _ _ (by omega) (by omega)
 ·exact a3 t (by omega) t2
theorem rO(hA:Fv O key N cmp s){p:Array Nat}{n nrem:Nat}(he:Ent N p)(hn:n+1<=nrem)(hr:nrem<=N)(hd:Down O key p (n+1))
  (h:∀m p',p'.Perm p->Ent N p'->1<=m->m<=nrem->Up O key p' m->Q (m,p') s):(kas_descPart n nrem p).kasWp cmp Q s:=by
 unfold kas_descPart;rw[KasT.kasWp_bind];have NP:∀i,n+1-(0+1)<=i->i<n+1->K O key p i=K O key p (n+1-1):=λi h1 h2=>by
  have e:i=n:=by omega
  subst e;rfl
 refine yC hA (nrem-(n+1)) p (n+1) 0 he (by omega) (by omega) (by omega) hd NP λp' n' q' g1 g2 g3 g4 g5 g6 g7 g8=>?_;show (if q'>0 then kas_tail3 n' nrem (kas_rev p' (n'-(q'+1)) n') else kas_tail3 n' nrem p').kasWp cmp Q s
 by_cases hq:q'>0
 ·rw[if_pos hq];have ep:(kas_rev p' (n'-(q'+1)) n').Perm p':=mirror_perm _ _ _ _;have eK:∀k,K O key (kas_rev p' (n'-(q'+1)) n') k=K O key p' k:=λk=>pH (by rw[g2.1];omega) g8 k;exact BR hA (g2.perm ep) g3 (by omega) hr (λi j hij hj=>by rw[eK,eK];exact g7 i j hij hj) λm p'' a1 a2 a3 a4 a5=>h m p'' ((a1.trans ep).trans g1) a2 a3 a4 a5
 ·rw[if_neg hq];exact BR hA g2 g3 (by omega) hr g7 λm p'' a1 a2 a3 a4 a5=>h m p'' (a1.trans g1) a2 a3 a4 a5
theorem JZ(hA:Fv O key N cmp s){p:Array Nat}{nrem:Nat}(he:Ent N p)(h1:1<=nrem)(hr:nrem<=N)
  (h:∀m p',p'.Perm p->Ent N p'->1<=m->m<=nrem->Up O key p' m->Q (m,p') s):(kas_count nrem p).kasWp cmp Q s:=by
 unfold kas_count;rw[KasT.kasWp_bind];refine JY hA he _ _ (Nat.le_refl _) λn a1 a2 a3 a4=>?_;have hup:Up O key p n:=uQ λt t1 t2=>a3 t t1 t2
 by_cases e1:(n==nrem)=true
 ·rw[if_pos e1];exact h n p (Array.Perm.refl _) he a1 (by omega) hup
 ·rw[if_neg e1]
  have Vq:n≠nrem:=λz=>e1 (by simp[z]);have hlt:O.klt (K O key p n) (K O key p (n-1)):=a4 (by omega)
  by_cases e2:n>1
  ·rw[if_pos e2]
   show cmp _ _ _ s;refine hA _ _ _ (he.at _) (he.at _) ?_;cases hc:O.blt (key (p.getD 0 0)) (key (p.getD (n-1) 0)) with
   | true=>exact h n p (Array.Perm.refl _) he a1 (by omega) hup
   | false =>
    have hle:O.kle (K O key p (n-1)) (K O key p 0):=hc;have ep:(kas_rev p 0 n).Perm p:=mirror_perm _ _ _ _;have hall:∀k,0<=k->k<n->K O key p k=K O key p (n-1):=λk _ hk =>
     KeyOrd.kle_antisymm (hup k (n-1) (by omega) (by omega)) (KeyOrd.kle_trans hle (hup 0 k (by omega) hk))
    have eK:∀k,K O key (kas_rev p 0 n) k=K O key p k:=λk=>pH (by rw[he.1];omega) hall k;show (kas_descPart n nrem (kas_rev p 0 n)).kasWp cmp Q s;refine rO hA (he.perm ep) (by omega) hr (λi j hij hj=>?_) λm p' b1 b2 b3 b4 b5=>h m p' (b1.trans ep) b2 b3 b4 b5;rw[eK,eK]
    by_cases ej:j=n
    ·subst ej
     by_cases ei:i=j
     ·subst ei;exact KeyOrd.kle_refl _
     ·rw[hall i (by omega) (by omega)];exact KeyOrd.kle_of_klt hlt
    ·rw[hall i (by omega) (by omega),hall j (by omega) (by omega)];exact KeyOrd.kle_refl _
  ·rw[if_neg e2]
   have en:n=1:=by omega
   subst en;refine rO hA he (by omega) hr (λi j hij hj=>?_) λm p' b1 b2 b3 b4 b5=>h m p' b1 b2 b3 b4 b5
   by_cases ei:i=j
   ·subst ei;exact KeyOrd.kle_refl _
   ·have:i=0/\j=1:=by omega
    obtain⟨rfl,rfl⟩:=this;exact KeyOrd.kle_of_klt hlt
theorem xC(hA:Fv O key N cmp s){p:Array Nat}{k:Nat}(he:Ent N p)(hs:Up O key p k):∀(f l r:Nat) {Q:Nat->Shared->Prop},l<=r->r<=k->r-l<=f ->
  (∀i,i<l->O.kle (K O key p i) (K O key p k))->(∀i,r<=i->i<k->O.klt (K O key p k) (K O key p i)) ->
  (∀l',l'<=k->(∀i,i<l'->O.kle (K O key p i) (K O key p k))->(∀i,l'<=i->i<k->O.klt (K O key p k) (K O key p i))->Q l' s)->(kas_place p k f l r).kasWp cmp Q s
 | 0,l,r,Q,hlr,hrk,hf,hlo,hhi,h=>by
  have:l=r:=by omega
  subst this;exact h l hrk hlo hhi
 | f+1,l,r,Q,hlr,hrk,hf,hlo,hhi,h=>by
  show (if l≥r then KasT.ret l else _).kasWp cmp Q s
  by_cases hge:l≥r
  ·rw[if_pos hge]
   have:l=r:=by omega
   subst this;exact h l hrk hlo hhi
  ·rw[if_neg hge]
   show cmp _ _ _ s;refine hA _ _ _ (he.at _) (he.at _) ?_;cases hb:O.blt (key (p.getD k 0)) (key (p.getD ((l+r)/2) 0)) with
   | true =>show (kas_place p k f l ((l+r)/2)).kasWp cmp Q s;exact xC hA he hs f l ((l+r)/2) (by omega) (by omega) (by omega) hlo (λi h1 h2=>KeyOrd.klt_of_klt_of_kle hb (hs _ _ h1 h2)) h
   | false =>show (kas_place p k f ((l+r)/2+1) r).kasWp cmp Q s;exact xC hA he hs f ((l+r)/2+1) r (by omega) (by omega) (by omega) (λi h1=>KeyOrd.kle_trans (hs i ((l+r)/2) (by omega) (by omega)) hb) hhi h
theorem NQ(hA:Fv O key N cmp s):∀(f:Nat) (p:Array Nat) (k:Nat) {Q:Array Nat->Shared->Prop},Ent N p->k+f<=N->Up O key p k->(∀p',p'.Perm p->Up O key p' (k+f)->Q p' s)->(kas_bin f p k).kasWp cmp Q s
 | 0,p,k,Q,he,hk,hs,h=>h p (Array.Perm.refl _) hs
 | f+1,p,k,Q,he,hk,hs,h=>by
  show ((kas_place p k k 0 k).bind λl=>kas_bin f (bubble p k (k-l)) (k+1)).kasWp cmp Q s;rw[KasT.kasWp_bind];refine xC hA he hs k 0 k (by omega) (by omega) (by omega) (λi hi=>by omega) (λi h1 h2=>by omega) λl hl hlo hhi=>?_;have ep:(bubble p k (k-l)).Perm p:=bubble_perm _ _ _;have hks:k<p.size:=by rw[he.1];omega
  refine NQ hA f _ (k+1) (he.perm ep) (by omega) (λi j hij hj=>?_) λp' a1 a2=>h p' (a1.trans ep) (by rwa [show k+(f+1)=k+1+f by omega]);rw[K_bubble hks (by omega),K_bubble hks (by omega),show k-(k-l)=l by omega]
  repeat' split
  all_goals first
   | (exfalso;omega)
   | exact KeyOrd.kle_refl _
   | exact hlo _ (by omega)
   | exact KeyOrd.kle_of_klt (hhi _ (by omega) (by omega))
   | exact hs _ _ (by omega) (by omega)
theorem NR(hA:Fv O key N cmp s)(h1:1<=N)(h:∀p,p.Perm (toArray (List.range N))->Up O key p N->Q p s):(kas_sort N).kasWp cmp Q s:=by
 unfold kas_sort;rw[KasT.kasWp_bind];have he:Ent N (toArray (List.range N)):=⟨by simp,h1,λx hx=>by simpa using hx⟩;refine JZ hA he h1 (Nat.le_refl _) λm p a1 a2 a3 a4 a5=>?_;show (if m<N then kas_bin (N-max m 1) p (max m 1) else KasT.ret p).kasWp cmp Q s;have em:max m 1=m:=by omega
 by_cases hlt:m<N
 ·rw[if_pos hlt,em];exact NQ hA _ p m a2 (by omega) a5 λp' b1 b2=>h p' (b1.trans a1) (by rwa [show m+(N-m)=N by omega] at b2)
 ·rw[if_neg hlt]
  have:m=N:=by omega
  subst this;exact h p a1 a5
end
end oJ
end L2
end
section
namespace L2
open PySem PySem.W PyProof.Rows
namespace oJ
theorem eY{α:Type}(l:List α)(d:α):(List.range l.length).map (λi=>l.getD i d)=l:=by
 refine ext_getElem (by simp) λi h1 h2=>?_;simp[h2]
section
variable {prog:Program} {w:World} {A:Around} {E:Value->Shared->Prop} {s:Shared}
noncomputable def rP(prog:Program)(w:World)(A:Around)(O:KeyOrd)(key:Nat->O.α)(vs:List Value)(s6:Shared):Prop :=
 wpAny (model prog w) A (keyKind' vs.toArray) (λκ s'=>s'=s6/\Fv O key vs.length (kas_ask prog w A κ vs) s6) (λ_ _=>False) s6
structure BS (O:KeyOrd) (key:Nat->O.α) (n:Nat) (p:List Nat):Prop where
 perm:p.Perm (List.range n)
 up:(p.map key).Pairwise O.kle
theorem Fw{n:Nat}{p:Array Nat}(h1:p.Perm (toArray (List.range n)))(h2:Up O key p n):BS O key n p.toList:=by
 have hp:p.toList.Perm (List.range n):=by simpa using Array.perm_iff_toList_perm.mp h1
 refine⟨hp,pairwise_iff_getElem.mpr λi j hi hj hij=>?_⟩;have hz:p.toList.length=n:=by rw[hp.length_eq,length_range]
 rw[length_map] at hi hj;have q:=h2 i j (Nat.le_of_lt hij) (by omega);have ei:p.getD i 0=p.toList[i]:=by simp at hi;simp[Array.getD,hi]
 have ej:p.getD j 0=p.toList[j]:=by simp at hj;simp[Array.getD,hj]
 unfold K at q;rw[ei,ej] at q;rw[getElem_map,getElem_map];exact q
theorem BU{n:Nat}(ho:s.heap.get? a=some (seqObj "list" vs.toArray n))(h64:vs.length<64)
  (hk:2<=vs.length->∀h6:Heap,(∀b o,b≠a->s.heap.get? b=some o->h6.get? b=some o)->rP prog w A O key vs { s with heap:=h6 })
  (h:∀p,BS O key vs.length p->P (.done (.ret .none)) { s with heap:=sortedHeap s.heap a vs (p.map λi=>vs.getD i Value.none).toArray }) :
  wpAny (model prog w) A (Builtin.«list.sort» ⟨[.ref a],[]⟩) P E s:=by
 have alt:a<s.heap.objs.size:=lt_size ho;have big:vs.length<=sizeLine:=by rw[sizeLine_eq];omega
 rw[list_sort_plain];apply wpAny_bind;apply listItems_at ho rfl;apply wpAny_bind;refine listUpdate_at ho rfl ?_ (by rw[size_toArray];exact big) (zero_le _);have q1:=get?_update_seq ho (λ_=>(#[]:Array Value));apply wpAny_bind;apply seqEpoch_at q1 rfl;apply wpAny_bind;refine wpAny_newTuple ?_ (by show vs.length<=sizeLine;exact big);apply wpAny_bind;refine wpAny_newList ?_ (zero_le _);apply wpAny_holding;generalize hN:((s.heap.update a (Obj.mapSeq λ_=>(#[]:Array Value))).push (seqObj "tuple" vs.toArray 0)).push (seqObj "list" #[] 0)=h6;have NS:∀b o,b≠a->s.heap.get? b=some o->h6.get? b=some o:=λb o hb e=>by
  rw[<-hN];refine get?_push_of_some _ (get?_push_of_some _ ?_);rw[Heap.get?_update_ne _ _ _ _ hb];exact e
 have q6:h6.get? a=some (seqObj "list" #[] (if (#[]:Array Value).size==vs.toArray.size then n else n+1)):=by rw[<-hN];exact get?_push_of_some _ (get?_push_of_some _ q1)
 have eS:∀out,h6.update a (Obj.mapSeq λ_=>out)=sortedHeap s.heap a vs out:=λout=>by rw[<-hN];rfl
 show wpAny (model prog w) A _ P E { s with heap:=h6 };dsimp only
 by_cases h2:vs.toArray.size<2
 ·rw[if_pos h2,if_pos h2]
  apply wpAny_bind;apply wpAny_pure;rw[StateT.run_pure];apply wpAny_bind;apply wpAny_pure;dsimp only;have eo:(arrOf (SortSt.mk' general' (vs.toArray.zip vs.toArray) #[] 7 none)).map (·.2)=vs.toArray:=by show (vs.toArray.zip vs.toArray).map (·.2)=vs.toArray;apply Array.toList_inj.mp;simp[List.map_snd_zip]
  rw[eo];apply wpAny_bind;apply seqEpoch_at q6 rfl;apply wpAny_bind;refine listUpdate_at q6 rfl ?_ (zero_le _) (by show vs.toArray.size<=_;rw[size_toArray];omega);have hb:((if (#[]:Array Value).size==vs.toArray.size then n else n+1) != (if (#[]:Array Value).size==vs.toArray.size then n else n+1))=false:=by simp
  rw[eS];simp only[hb,false_eq_true,if_false];apply wpAny_pure;have g:=h (List.range vs.length) ⟨List.Perm.refl _,?_⟩
  ·rw[eY] at g;exact g
  ·rw[size_toArray] at h2;refine pairwise_iff_getElem.mpr λi j hi hj hij=>?_;simp at hi hj;omega
 ·rw[if_neg h2,if_neg h2]
  rw[size_toArray] at h2;have ask:=hk (by omega) h6 NS;apply wpAny_bind;refine wpAny_mono ask (λκ s0 hκ=>?_) λ_ _ x=>x.elim;obtain⟨rfl,W9⟩:=hκ;apply wpAny_bind;refine wpAny_mono (kat_run (Q:=λst' s'=>s'={ s with heap:=h6 }/\∃p:Array Nat,BS O key vs.length p.toList/\p.size=vs.length/\(arrOf st').map (·.2)=(p.toList.map λi=>vs.getD i Value.none).toArray/\failedOf st'=none)
   (G:=λp s'=>s'={ s with heap:=h6 }/\BS O key vs.length p.toList) rfl (by omega) h64 (λp st' s' a1 a2 a3 a4=>⟨a4.1,p,a4.2,a1,kat_snds rfl a2,a3⟩)
   (NR W9 (by omega) λp b1 b2=>⟨rfl,Fw b1 b2⟩)) ?_ λ_ _ x=>x
  rintro⟨⟨⟩,st'⟩ s' ⟨rfl,p,op,pz,er,ef⟩;dsimp only;rw[er];apply wpAny_bind;apply seqEpoch_at q6 rfl;apply wpAny_bind;refine listUpdate_at q6 rfl ?_ (zero_le _) (by show (toArray _).size<=_;rw[size_toArray,length_map,length_toList,pz];omega);have hb:((if (#[]:Array Value).size==vs.toArray.size then n else n+1) != (if (#[]:Array Value).size==vs.toArray.size then n else n+1))=false:=by simp
  rw[eS,ef];simp only[hb,false_eq_true,if_false];exact wpAny_pure (h p.toList op)
theorem gH
  (h:wpAny (model prog w) A.in1 (collect x) (λvs s1=>vs.length<64/\∃key:Nat->O.α,(2<=vs.length->∀h6:Heap,(∀b o,s1.heap.get? b=some o->h6.get? b=some o)->rP prog w A.in1.in1 O key vs { s1 with heap:=h6 }) /\
   ∀p h',BS O key vs.length p->(∀b o,s1.heap.get? b=some o->h'.get? b=some o)->(∃e,h'.get? s1.heap.objs.size=some (seqObj "list" (p.map λi=>vs.getD i Value.none).toArray e))->Q (.ref s1.heap.objs.size) { s1 with heap:=h' }) E s) :
  wpAny (model prog w) A (call (.builtin "sorted") [x]) Q E s:=by
 refine Calls.call_function_entry kind_sorted plain_sorted entry_sorted (args_sorted1 _) ?_;unfold Builtin.«sorted»;refine wpAny_bind (m:=checkCount "sorted" 1 1 _) (wpAny_pure ?_);apply wpAny_bind;refine wpAny_mono h (λvs s1 ⟨h64,key,hk,hq⟩=>?_) λ_ _ z=>z;have big:vs.length<=sizeLine:=by rw[sizeLine_eq];omega
 apply wpAny_bind;refine wpAny_newList ?_ big;have q:(s1.heap.push (seqObj "list" vs.toArray 0)).get? s1.heap.objs.size=some (seqObj "list" vs.toArray 0):=get?_push_size _ rfl;apply wpAny_bind;apply wpAny_holding;refine wpAny_call_entry (s:={ s1 with heap:=s1.heap.push (seqObj "list" vs.toArray 0) }) slot_list_sort ⟨_,q,rfl⟩ entry_list_sort ?_ (args_list_sort _);refine BU (key:=key) (s:={ s1 with heap:=s1.heap.push (seqObj "list" vs.toArray 0) }) q h64 (λh2 h6 k6=>?_) λp op=>⟨_,rfl,wpAny_pure ⟨_,rfl,?_⟩⟩
 ·exact hk h2 h6 λb o e=>k6 b o (ne_of_lt (lt_size e)) (get?_push_of_some _ e)
 ·refine hq p _ op (λb o e=>?_) (sortedHeap_at q);rw[sortedHeap_old (ne_of_lt (lt_size e)) (by rw[size_push'];exact lt_succ_of_lt (lt_size e))];exact get?_push_of_some _ e
end
noncomputable def pI:KeyOrd where
 α:=Int
 blt:=λa b=>decide (a<b)
 irrefl:=λa=>by simp
 trans:=λa b c h1 h2=>by simp at *;omega
 negTrans:=λa b c h=>by simp at *;omega
 total:=λa b h1 h2=>by simp at *;omega
theorem pJ{s6:Shared}{ns:List Int}(hI:IntsAre vs ns)(h2:2<=vs.length):rP prog w A pI (λi=>ns.getD i 0) vs s6:=by
 have at_:∀i,i<vs.length->∃t,vs.getD i Value.none=.int (ns.getD i 0) t:=by
  intro i hi
  induction hI generalizing i with
  | nil=>simp at hi
  | cons z t r ih =>
   cases i with
   | zero=>exact⟨t,by simp⟩
   | succ i =>
    by_cases hr:2<=1
    ·omega
    ·simp only[length_cons] at hi
     have aux:∀{vs:List Value} {ns:List Int},IntsAre vs ns->∀i,i<vs.length->∃t,vs.getD i Value.none=.int (ns.getD i 0) t:=by
      intro vs ns q
      induction q with
      | nil=>intro i hi;simp at hi
      | cons z t r ih =>
       intro i hi;cases i with
       | zero=>exact⟨t,by simp⟩
       | succ i=>simp only[length_cons] at hi;obtain⟨u,e⟩:=ih i (by omega);exact⟨u,by simpa using e⟩
     obtain⟨u,e⟩:=aux r i (by omega);exact⟨u,by simpa using e⟩
 obtain⟨v₁,v₂,rest,rfl⟩:∃v₁ v₂ rest,vs=v₁::v₂::rest:=by
  match vs,h2 with
  | v₁::v₂::rest,_=>exact⟨v₁,v₂,rest,rfl⟩
 unfold rP;rw[keyKind_ints hI];refine wpAny_pure ⟨rfl,λi j C hi hj hc=>?_⟩;obtain⟨t,e1⟩:=at_ i hi;obtain⟨u,e2⟩:=at_ j hj;unfold kas_ask;rw[e1,e2,keyLt'_oneType];exact oneLt_int hc
theorem jv:∀a,HT.lexLt a a=false
 | []=>rfl
 | x::xs=>by rw[HT.fB,if_pos rfl];exact jv xs
theorem iw:∀a b,HT.lexLt a b=false->HT.lexLt b a=false->a=b
 | [],[],_,_=>rfl
 | [],_::_,h,_=>by rw[HT.gG] at h;cases h
 | _::_,[],_,h=>by rw[HT.gG] at h;cases h
 | x::xs,y::ys,h1,h2=>by
  rw[HT.fB] at h1 h2
  by_cases e:x=y
  ·subst e;rw[if_pos rfl] at h1 h2;rw[iw xs ys h1 h2]
  ·rw[if_neg e] at h1;rw[if_neg (λz=>e z.symm)] at h2;simp at h1 h2;omega
theorem iy:∀a b c,HT.lexLt a b=true->HT.lexLt b c=true->HT.lexLt a c=true
 | [],[],c,h,_=>by rw[HT.qQ] at h;cases h
 | [],_::_,[],_,h=>by rw[HT.eW] at h;cases h
 | [],_::_,_::_,_,_=>rfl
 | _::_,[],_,h,_=>by rw[HT.eW] at h;cases h
 | _::_,_::_,[],_,h=>by rw[HT.eW] at h;cases h
 | x::xs,y::ys,z::zs,h1,h2=>by
  rw[HT.fB] at h1 h2 |-
  by_cases e1:x=y
  ·subst e1
   rw[if_pos rfl] at h1
   by_cases e2:x=z
   ·subst e2;rw[if_pos rfl] at h2 |-;exact iy xs ys zs h1 h2
   ·rw[if_neg e2] at h2 |-;exact h2
  ·rw[if_neg e1] at h1
   by_cases e2:y=z
   ·subst e2;rw[if_neg e1];exact h1
   ·rw[if_neg e2] at h2;simp at h1 h2;rw[if_neg (by omega)];simp;omega
theorem rQ(a b c:List Int)(h:HT.lexLt a c=true):HT.lexLt a b=true\/HT.lexLt b c=true:=by
 cases h1:HT.lexLt a b with
 | true=>exact .inl rfl
 | false =>
  cases h2:HT.lexLt b c with
  | true=>exact .inr rfl
  | false =>
   cases h3:HT.lexLt b a with
   | true=>have:=iy _ _ _ h3 h;rw[h2] at this;cases this
   | false=>rw[iw _ _ h1 h3] at h;rw[h2] at h;cases h
noncomputable def lexOrd:KeyOrd where
 α:=List Int
 blt:=HT.lexLt
 irrefl:=jv
 trans:=iy
 negTrans:=rQ
 total:=iw
section
variable {prog:Program} {w:World} {A:Around} {s:Shared}
theorem nU{b fin:Bool}:∀{us vs:List Value} {ns ms:List Int} (i:Nat),IntsAre us ns->IntsAre vs ms->(ns.length<ms.length↔fin=true)->us.length=ns.length ->
  Q (HT.lexLt ns ms) s->(ns.length=ms.length\/i=i)->(∀k,k<ns.length->k<ms.length->True)->(ns.length≠ms.length->True)->(fin=decide (ns.length<ms.length))->KatLex prog w A b fin Q (us.zip vs) i s
 | _,_,_,_,i,.nil,.nil,_,_,hq,_,_,_,hf=>by
  refine kat_nil ?_;rw[hf];exact hq
 | _,_,_,_,i,.nil,.cons _ _ _,_,_,hq,_,_,_,hf=>by
  refine kat_nil ?_;rw[hf];simpa [HT.gG] using hq
 | _,_,_,_,i,.cons _ _ _,.nil,_,_,hq,_,_,_,hf=>by
  refine kat_nil ?_;rw[hf];simpa [HT.eW] using hq
 | _,_,_,_,i,.cons x t r,.cons y u r',h1,h2,hq,_,_,_,hf=>by
  refine kat_cons (wpAny_eqBool_int ?_);rw[HT.fB] at hq
  by_cases e:x=y
  ·subst e
   rw[if_pos rfl] at hq;rw[beq_self_eq_true];refine kat_yes (nU (i+1) r r' ?_ ?_ hq (.inr rfl) (λ_ _ _=>trivial) (λ_=>trivial) ?_)
   ·simpa using h1
   ·simpa using h2
   ·rw[hf];simp
  ·rw[if_neg e] at hq
   rw[show (x==y)=false from beq_eq_false_iff_ne.mpr e];refine kat_no ?_;cases hb:(b&&i==0) with
   | true=>exact oneLt_int hq
   | false=>exact kat_one _ _ (PyProof.Rows.lt_int hq)
end
end oJ
end L2
end
section
namespace L2
open PySem PySem.Spec PyProof.Rows
noncomputable def RM:Key->PyData
 | .inl i=>.int i
 | .inr x=>.str x
mutual
noncomputable def Den(K:PySem.W.Frag)(H:Hp):PyData->V->Prop
 | .none,v=>v=.non
 | .bool b,v=>v=.bl b
 | .int i,v=>v=.int i
 | .str x,v=>v=.str x
 | .list ds,v=>∃a xs,v=.ref a/\iu K H a xs/\eG K H ds xs
 | .tuple ds,v=>∃a xs,v=.ref a/\jF K H a xs/\eG K H ds xs
 | .dict kvs,v=>∃a ks,v=.ref a/\H a=some (.dK ks)/\lR K H kvs ks
noncomputable def eG(K:PySem.W.Frag)(H:Hp):List PyData->List V->Prop
 | [],xs=>xs=[]
 | d::ds,xs=>∃x r,xs=x::r/\Den K H d x/\eG K H ds r
noncomputable def lR(K:PySem.W.Frag)(H:Hp):List (PyData×PyData)->List (Key×V)->Prop
 | [],ks=>ks=[]
 | (k,d)::r,ks=>∃key x rest,ks=(key,x)::rest/\k=RM key/\Den K H d x/\lR K H r rest
end
theorem xA.tup{K:PySem.W.Frag}{H H':Hp}{a:Addr}{xs:List V}(e:xA H H')(h:jF K H a xs):jF K H' a xs:=by
 rcases h with (h|⟨o,h⟩)|h
 ·exact .inl (.inl (e _ _ h))
 ·exact .inl (.inr ⟨o,e _ _ h⟩)
 ·exact .inr h
section
variable {K:PySem.W.Frag} {H H':Hp}
mutual
theorem Den.same(e:xA H H'):∀(d:PyData) (v:V),Den K H d v->Den K H' d v
 | .none,_,h=>by rw[Den] at h |-;exact h
 | .bool _,_,h=>by rw[Den] at h |-;exact h
 | .int _,_,h=>by rw[Den] at h |-;exact h
 | .str _,_,h=>by rw[Den] at h |-;exact h
 | .list ds,v,h=>by
  rw[Den] at h |-;obtain⟨a,xs,q1,q2,q3⟩:=h;exact⟨a,xs,q1,e.seq q2,eG.same e ds xs q3⟩
 | .tuple ds,v,h=>by
  rw[Den] at h |-;obtain⟨a,xs,q1,q2,q3⟩:=h;exact⟨a,xs,q1,e.tup q2,eG.same e ds xs q3⟩
 | .dict kvs,v,h=>by
  rw[Den] at h |-;obtain⟨a,ks,q1,q2,q3⟩:=h;exact⟨a,ks,q1,e _ _ q2,lR.same e kvs ks q3⟩
theorem eG.same(e:xA H H'):∀(ds:List PyData) (xs:List V),eG K H ds xs->eG K H' ds xs
 | [],_,h=>by rw[eG] at h |-;exact h
 | d::ds,xs,h=>by
  rw[eG] at h |-;obtain⟨x,r,q1,q2,q3⟩:=h;exact⟨x,r,q1,Den.same e d x q2,eG.same e ds r q3⟩
theorem lR.same(e:xA H H'):∀(kvs:List (PyData×PyData)) (ks:List (Key×V)),lR K H kvs ks->lR K H' kvs ks
 | [],_,h=>by rw[lR] at h |-;exact h
 | (k,d)::r,ks,h=>by
  rw[lR] at h |-;obtain⟨key,x,rest,q1,q2,q3,q4⟩:=h;exact⟨key,x,rest,q1,q2,Den.same e d x q3,lR.same e r rest q4⟩
end
theorem eG.nil:eG K H [] []:=by rw[eG]
theorem eG.cons{d:PyData}{ds:List PyData}{x:V}{r:List V}(h1:Den K H d x)(h2:eG K H ds r):eG K H (d::ds) (x::r):=by rw[eG];exact⟨x,r,rfl,h1,h2⟩
theorem Den.int{i:Int}:Den K H (.int i) (.int i):=by rw[Den]
theorem Den.str:Den K H (.str x) (.str x):=by rw[Den]
theorem Den.bool{b:Bool}:Den K H (.bool b) (.bl b):=by rw[Den]
theorem Den.none:Den K H .none .non:=by rw[Den]
theorem Den.list(h:iu K H a xs)(q:eG K H ds xs):Den K H (.list ds) (.ref a):=by rw[Den];exact⟨a,xs,rfl,h,q⟩
theorem Den.tuple(h:jF K H a xs)(q:eG K H ds xs):Den K H (.tuple ds) (.ref a):=by rw[Den];exact⟨a,xs,rfl,h,q⟩
end
section
variable {X:Cx} {pins:List (Addr×Obj)} {σ:St} {H:Hp} {s:Shared}
mutual
theorem Den.reads(I:Inv X pins σ H s):∀(d:PyData) (v:V) (u:Value),d.canLay0=true->Den X.K H d v->RelV v u->∃as,Reads s.heap u d as
 | .none,v,u,_,h,r=>by rw[Den] at h;subst h;cases r;exact⟨_,.none⟩
 | .bool b,v,u,_,h,r=>by rw[Den] at h;subst h;cases r;exact⟨_,.bool b⟩
 | .int i,v,u,_,h,r=>by rw[Den] at h;subst h;obtain⟨t,rfl⟩:=r;exact⟨_,.int i t⟩
 | .str x,v,u,_,h,r=>by rw[Den] at h;subst h;obtain⟨t,rfl⟩:=r;exact⟨_,.str x t⟩
 | .list ds,v,u,c,h,r=>by
  rw[Den] at h;obtain⟨a,xs,rfl,q1,q2⟩:=h;cases r;obtain⟨its,rv,⟨o,n,e1,e2,_,e3⟩,_⟩:=I.list q1;obtain⟨as,ra⟩:=eG.reads I ds xs its (by simpa [PyData.canLay0] using c) q2 rv;exact⟨_,.list e1 e2 e3 (by simpa using ra)⟩
 | .tuple ds,v,u,c,h,r=>by
  rw[Den] at h;obtain⟨a,xs,rfl,q1,q2⟩:=h;cases r;obtain⟨its,rv,⟨o,e1,e2,n,e3⟩,_⟩:=I.tuple q1;obtain⟨as,ra⟩:=eG.reads I ds xs its (by simpa [PyData.canLay0] using c) q2 rv;exact⟨_,.tuple e1 e2 e3 (by simpa using ra)⟩
 | .dict _,_,_,c,_,_=>by simp[PyData.canLay0] at c
theorem eG.reads(I:Inv X pins σ H s):∀(ds:List PyData) (xs:List V) (us:List Value),PyData.canLayAll0 ds=true->eG X.K H ds xs->Vals xs us->∃as,ReadsAll s.heap us ds as
 | [],xs,us,_,h,r=>by rw[eG] at h;subst h;cases r;exact⟨_,.nil⟩
 | d::ds,xs,us,c,h,r=>by
  have c':d.canLay0=true/\PyData.canLayAll0 ds=true:=by simpa [PyData.canLayAll0] using c
  rw[eG] at h;obtain⟨x,rest,rfl,q1,q2⟩:=h;cases r with
  | cons r1 r2 =>obtain⟨as,ra⟩:=Den.reads I d x _ c'.1 q1 r1;obtain⟨bs,rb⟩:=eG.reads I ds rest _ c'.2 q2 r2;exact⟨_,.cons ra rb⟩
end
end
section
variable {X:Cx}
noncomputable def RO(K:PySem.W.Frag):R2:=λx y H Q=>∃d e,Den K H d x/\Den K H e y/\d.canLay0=true/\e.canLay0=true/\d.depth<=60/\Q (.bl (PyData.eqv d e)) H
noncomputable def RP(K:PySem.W.Frag):R2:=λx y H Q=>∃d e,Den K H d x/\Den K H e y/\d.canLay0=true/\e.canLay0=true/\d.depth<=60/\Q (.bl (!PyData.eqv d e)) H
theorem J0(hu:X.A.units+64<cLine):jP X (compareOp .Eq) (RO X.K):=by
 intro pins s σ H x y v u Q I rx ry h;obtain⟨d,e,hd,he,c1,c2,hz,q⟩:=h;obtain⟨as,ra⟩:=Den.reads I d x v c1 hd rx;obtain⟨bs,rb⟩:=Den.reads I e y u c2 he ry;exact SeqAt.compareEq_reads ra rb c1 c2 (by have:=Nat.min_le_left d.depth e.depth;omega) ⟨.bl _,H,I,rfl,q⟩
theorem J1(hu:X.A.units+64<cLine):jP X (compareOp .NotEq) (RP X.K):=by
 intro pins s σ H x y v u Q I rx ry h;obtain⟨d,e,hd,he,c1,c2,hz,q⟩:=h;obtain⟨as,ra⟩:=Den.reads I d x v c1 hd rx;obtain⟨bs,rb⟩:=Den.reads I e y u c2 he ry;exact SeqAt.compareNe_reads ra rb c1 c2 (by have:=Nat.min_le_left d.depth e.depth;omega) ⟨.bl _,H,I,rfl,q⟩
theorem pK{ns:List Int}(I:Inv X pins σ H s)(hq:iu X.K H p (ns.map V.int))(h64:ns.length<64)
  (q:∀l,H l=none->Q (.ref l) (upd H l (.lst ((PySem.W.sortI ns).map V.int)))):wpAny (model X.prog X.w) X.A (call (.builtin "sorted") [.ref p]) (EP X pins σ Q) X.xe s:=by
 obtain⟨its,rv,pl,hz⟩:=I.list hq;have hi:=intsAre_of rv;have hl:=hi.length;refine sorted_ints pl.isList hi (by omega) λout ns' a1 a2 a3=>?_;obtain⟨e,he⟩:=sortedAll_at s.heap its out;have es:ns'=PySem.W.sortI ns:=eq_sortI a2 a3;subst es;have hn:H (s.heap.objs.size+1)=none:=I.hok.fresh (le_succ _);refine⟨.ref (s.heap.objs.size+1),_,I.laid (t':=s.toks) (λb o z=>sortedAll_old z) (le_succ _) (show bE X.prog X.w _ _ _ (.lst ((PySem.W.sortI ns).map V.int)) from⟨?_,out.toList,e,iS a1,by simpa using he⟩),rfl,q _ hn⟩;rw[length_map,(sortI_perm ns).length_eq,sizeLine_eq];omega
theorem m5:cS X (.builtin "sorted") (λxs H Q=>∃p ns,xs=[.ref p]/\iu X.K H p (ns.map V.int)/\ns.length<64/\∀l,H l=none->Q (.ref l) (upd H l (.lst ((PySem.W.sortI ns).map V.int)))):=by
 intro pins s σ H xs us Q I r h;obtain⟨p,ns,rfl,hq,h64,q⟩:=h;obtain⟨u,rfl,ru⟩:=vals1 r;cases ru;exact pK I hq h64 q
noncomputable def NT(K:PySem.W.Frag)(H:Hp)(r:Addr×List Int):Prop:=jF K H r.1 (r.2.map V.int)/\r.2≠[]
theorem xD{pins:List (Addr×Obj)}{σ:St}{H:Hp}{s:Shared}{A:Around}{rs:List (Addr×List Int)}{h6:Heap}{s6:Shared}(I:Inv X pins σ H s)(ht:∀r∈rs,NT X.K H r)(h2:2<=rs.length)(k:∀b o,s.heap.get? b=some o->s6.heap.get? b=some o) :
  oJ.rP X.prog X.w A oJ.lexOrd (λi=>(rs.getD i (0,[])).2) (rs.map λr=>Value.ref r.1) s6:=by
 have tup:∀r∈rs,∃its o n,s6.heap.get? r.1=some o/\o.cls=.type "tuple" /\ o.data=.seq (toArray its) n/\IntsAre its r.2:=λr hr=>by
  obtain⟨its,rv,⟨o,e1,e2,n,e3⟩,_⟩:=I.tuple (ht r hr).1;exact⟨its,o,n,k _ _ e1,e2,e3,intsAre_of rv⟩
 have kt:∀rs:List (Addr×List Int),(∀r∈rs,∃its o n,s6.heap.get? r.1=some o/\o.cls=.type "tuple" /\ o.data=.seq (toArray its) n/\IntsAre its r.2)->(∀r∈rs,r.2≠[]) ->
   ∃fs,PySem.W.KatTups s6.heap (rs.map λr=>Value.ref r.1) fs/\fs.length=rs.length/\∀v∈fs,∃i t,v=Value.int i t:=by
  intro rs
  induction rs with
  | nil=>intro _ _;exact⟨[],PySem.W.KatTups.nil,rfl,λv hv=>nomatch hv⟩
  | cons r rs ih =>
   intro g1 g2;obtain⟨fs,q1,q2,q3⟩:=ih (λr' hr'=>g1 r' (mem_cons_of_mem _ hr')) λr' hr'=>g2 r' (mem_cons_of_mem _ hr');obtain⟨its,o,n,e1,e2,e3,hi⟩:=g1 r mem_cons_self;have hne:=g2 r mem_cons_self;cases hr:r.2 with
   | nil=>exact absurd hr hne
   | cons i is =>
    rw[hr] at hi;cases hi with
    | cons _ t hi' =>
     refine⟨.int i t::fs,PySem.W.KatTups.cons e1 e2 e3 (by simp) q1,by simp[q2],λv hv=>?_⟩
     rcases mem_cons.mp hv with z|z
     ·exact⟨i,t,z⟩
     ·exact q3 v z
 obtain⟨fs,q1,q2,q3⟩:=kt rs tup λr hr=>(ht r hr).2;unfold oJ.rP;refine PySem.W.kat_kind q1 (by omega) (T:=Value.type "int") (λv hv=>?_) rfl ⟨rfl,λi j C hi hj hc=>?_⟩
 ·obtain⟨i,t,rfl⟩:=q3 v hv;exact PySem.W.Looks.of_pure rfl
 ·rw[length_map] at hi hj
  unfold PySem.W.kas_ask;have e1:(rs.map λr=>Value.ref r.1).getD i Value.none=Value.ref rs[i].1:=by simp[hi]
  have e2:(rs.map λr=>Value.ref r.1).getD j Value.none=Value.ref rs[j].1:=by simp[hj]
  have e3:rs.getD i (0,[])=rs[i]:=by simp[hi]
  have e4:rs.getD j (0,[])=rs[j]:=by simp[hj]
  rw[e1,e2];simp only[e3,e4] at hc;obtain⟨its,o,n,a1,a2,a3,a4⟩:=tup rs[i] (List.getElem_mem hi);obtain⟨its',o',n',b1,b2,b3,b4⟩:=tup rs[j] (List.getElem_mem hj);have l1:=a4.length;have l2:=b4.length;refine kat_lt a1 a3 b1 b3 (oJ.nU 0 a4 b4 ?_ l1 hc (.inr rfl) (λ_ _ _=>trivial) (λ_=>trivial) ?_)
  ·rw[size_toArray,size_toArray,l1,l2];simp
  ·rw[size_toArray,size_toArray,l1,l2]
theorem Af{rs:List (Addr×List Int)}:∀{us:List Value},Vals (rs.map λr=>V.ref r.1) us->us=rs.map λr=>Value.ref r.1:=by
 induction rs with
 | nil=>intro us r;cases r;rfl
 | cons a rs ih =>
  intro us r;cases r with
  | cons r1 r2=>cases r1;rw[ih r2];rfl
theorem m8:cS X (.builtin "sorted") (λxs H Q=>∃(p:Addr) (rs:List (Addr×List Int)),xs=[.ref p]/\iu X.K H p (rs.map λr=>V.ref r.1)/\rs.length<64/\(∀r∈rs,NT X.K H r) /\
  ∀(l:Addr) (qs:List (Addr×List Int)),H l=none->qs.Perm rs->qs.Pairwise (λa b=>HT.lexLt b.2 a.2=false)->Q (.ref l) (upd H l (.lst (qs.map λr=>V.ref r.1)))):=by
 intro pins s σ H xs us Q I r h;obtain⟨p,rs,rfl,hq,h64,ht,q⟩:=h;obtain⟨u,rfl,ru⟩:=vals1 r;cases ru;obtain⟨its,rv,pl,hz⟩:=I.list hq;have ev:=Af rv;subst ev;refine oJ.gH (O:=oJ.lexOrd) (collect_list pl.isList ?_ (by rw[length_map,sizeLine_eq];omega));have k1:∀b o,s.heap.get? b=some o->((s.heap.push (seqObj "list" #[] 0)).update s.heap.objs.size (Obj.mapSeq (· ++ (rs.map λr=>Value.ref r.1).toArray))).get? b=some o:=λb o e=>by
  rw[Heap.get?_update_ne _ _ _ _ (ne_of_lt (lt_size e))];exact get?_push_of_some _ e
 have Xa:((s.heap.push (seqObj "list" #[] 0)).update s.heap.objs.size (Obj.mapSeq (· ++ (rs.map λr=>Value.ref r.1).toArray))).objs.size=s.heap.objs.size+1:=by rw[Heap.size_update,size_push']
 refine⟨by rw[length_map];exact h64,λi=>(rs.getD i (0,[])).2,λh2 h6 k6=>?_,λpp h' op k' he=>?_⟩
 ·rw[length_map] at h2;exact xD (h6:=h6) I ht h2 λb o e=>k6 b o (k1 b o e)
 ·rw[length_map] at op
  dsimp only at k' he |-;rw[Xa] at he |-;obtain⟨e,he⟩:=he;have hn:H (s.heap.objs.size+1)=none:=I.hok.fresh (le_succ _);have lp:pp.length=rs.length:=by rw[op.perm.length_eq,length_range]
  have mem:∀i∈pp,i<rs.length:=λi hi=>by simpa using op.perm.mem_iff.mp hi
  have RQ:(pp.map λi=>(rs.map λr=>Value.ref r.1).getD i Value.none)=(pp.map λi=>rs.getD i (0,[])).map λr=>Value.ref r.1:=by rw[map_map];refine map_congr_left λi hi=>?_;simp[mem i hi]
  have qp:(pp.map λi=>rs.getD i (0,[])).Perm rs:=by have:=op.perm.map λi=>rs.getD i (0,[]);rwa [oJ.eY] at this
  have qs:(pp.map λi=>rs.getD i (0,[])).Pairwise (λa b=>HT.lexLt b.2 a.2=false):=by have up1:=pairwise_map.mp op.up;exact pairwise_map.mpr up1
  refine⟨.ref (s.heap.objs.size+1),_,I.laid (t':=s.toks) (λb o z=>k' b o (k1 b o z)) (le_succ _) (show bE X.prog X.w _ _ _ (.lst ((pp.map λi=>rs.getD i (0,[])).map λr=>V.ref r.1)) from⟨?_,_,e,?_,he⟩),rfl,q _ _ hn qp qs⟩
  ·rw[length_map,length_map,lp,sizeLine_eq];omega
  ·rw[RQ]
   generalize (pp.map λi=>rs.getD i (0,[]))=zs
   induction zs with
   | nil=>exact .nil
   | cons z zs ih=>exact .cons rfl ih
theorem yD{ns:List Int}(h:IntsAre us ns):∀(i:Nat) (v:Value),us[i]?=some v->∃t,v=.int (ns.getD i 0) t:=by
 induction h with
 | nil=>intro i v e;simp at e
 | cons z t r ih =>
  intro i v e;cases i with
  | zero=>simp at e;exact⟨t,by simp[<-e]⟩
  | succ i=>obtain⟨u,q⟩:=ih i v (by simpa using e);exact⟨u,by simpa using q⟩
theorem rR{pins:List (Addr×Obj)}{σ:St}{H:Hp}{s:Shared}{p:Addr}{ns:List Int}(I:Inv X pins σ H s)(hc:X.calm=true)(hq:iu X.K H p (ns.map V.int)\/jF X.K H p (ns.map V.int))(hne:0<ns.length){Q:Value->Shared->Prop}{f:String}{bt:Int->Int->Bool}{op:CmpOp}
  (hf:∀{Q:Value->Shared->Prop},wpAny (model X.prog X.w) X.A.in1 (pyIter (.ref p)) (λit s₂=>∃I fp wr n P St bt,it=.ref I/\Walks X.prog X.w X.A.in1 I fp wr n P St/\St 0 s₂.heap/\(∀b∈fp,b<s₂.heap.objs.size)/\0<n/\CmpOf X.prog X.w X.A.in1 op P bt /\
   ∀v h' tk,P (argBest bt (n-1)) v->(∀b o,b∉wr->s₂.heap.get? b=some o->h'.get? b=some o)->Q v { s₂ with heap:=h',toks:=tk }) X.xe s->wpAny (model X.prog X.w) X.A (call (.builtin f) [.ref p]) Q X.xe s)
  (hcmp:∀(P:Nat->Value->Prop),(∀i v,P i v->∃t,v=.int (ns.getD i 0) t)->CmpOf X.prog X.w X.A.in1 op P λi j=>bt (ns.getD i 0) (ns.getD j 0))
  (h:∀t h' tk,(∀b o,s.heap.get? b=some o->h'.get? b=some o)->argBest (λi j=>bt (ns.getD i 0) (ns.getD j 0)) (ns.length-1)<ns.length->Q (.int (ns.getD (argBest (λi j=>bt (ns.getD i 0) (ns.getD j 0)) (ns.length-1)) 0) t) { s with heap:=h',toks:=tk }) :
  wpAny (model X.prog X.w) X.A (call (.builtin f) [.ref p]) Q X.xe s:=by
 have hh:X.A.in1.handled=none:=I.ok.hd hc;have up:∀{us:List Value} (P:Nat->Value->Prop) (hi:IntsAre us ns),(∀i v,P i v->us.toArray[i]?=some v)->∀i v,P i v->∃t,v=.int (ns.getD i 0) t:=λP hi hP i v q=>yD hi i v (by simpa using hP i v q);have best:∀{us:List Value} (hi:IntsAre us ns) (v:Value) (h':Heap) (tk:Nat),us.toArray[argBest (λi j=>bt (ns.getD i 0) (ns.getD j 0)) (us.toArray.size-1)]?=some v->(∀b o,s.heap.get? b=some o->h'.get? b=some o)->Q v { s with heap:=h',toks:=tk }:=λ{us} hi v h' tk e k=>by
  have hl:=hi.length;rw[size_toArray,hl] at e;have e':us[argBest (λi j=>bt (ns.getD i 0) (ns.getD j 0)) (ns.length-1)]?=some v:=by simpa using e
  obtain⟨t,rfl⟩:=yD hi _ v e';exact h t h' tk k (by have:=(List.getElem?_eq_some_iff.mp e').1;omega)
 rcases hq with hq|hq
 ·obtain⟨its,rv,pl,hz⟩:=I.list hq
  have hi:=intsAre_of rv;have hl:=hi.length;have hpl:=pl.isList;have hlt:p<s.heap.objs.size:=by obtain⟨_,e,_⟩:=hpl;exact lt_size e
  refine hf (wpAny_pyIter_list hpl ⟨s.heap.objs.size,[s.heap.objs.size,p],[s.heap.objs.size],its.toArray.size,_,_,λi j=>bt (ns.getD i 0) (ns.getD j 0),rfl,Walks.list hh _ p (ne_of_lt hlt) its.toArray,⟨⟨_,get?_push_size _ rfl,rfl,rfl⟩,hpl.push _⟩,λb hb=>?_,by rw[size_toArray];omega,
   hcmp _ (up _ hi λi v q=>q),λv h' tk e k=>?_⟩)
  ·simp only[size_push']
   rcases mem_cons.mp hb with z|z
   ·rw[z];exact lt_succ_self _
   ·rw[mem_singleton.mp z];exact lt_succ_of_lt hlt
  ·exact best hi v h' tk e λb o z=>k b o (by simp;exact ne_of_lt (lt_size z)) (get?_push_of_some _ z)
 ·obtain⟨its,rv,pl,hz⟩:=I.tuple hq
  have hi:=intsAre_of rv;have hl:=hi.length;have hpl:s.heap.IsTuple p its.toArray:=pl;have hlt:p<s.heap.objs.size:=by obtain⟨_,e,_⟩:=hpl;exact lt_size e
  refine hf (wpAny_pyIter_tuple hpl ⟨s.heap.objs.size,[s.heap.objs.size,p],[s.heap.objs.size],its.toArray.size,_,_,λi j=>bt (ns.getD i 0) (ns.getD j 0),rfl,Walks.tuple hh _ p (ne_of_lt hlt) its.toArray,⟨⟨_,get?_push_size _ rfl,rfl,rfl⟩,?_⟩,λb hb=>?_,by rw[size_toArray];omega,
   hcmp _ (up _ hi λi v q=>q),λv h' tk e k=>?_⟩)
  ·obtain⟨o,e,c⟩:=hpl;exact⟨o,get?_push_of_some _ e,c⟩
  ·simp only[size_push']
   rcases mem_cons.mp hb with z|z
   ·rw[z];exact lt_succ_self _
   ·rw[mem_singleton.mp z];exact lt_succ_of_lt hlt
  ·exact best hi v h' tk e λb o z=>k b o (by simp;exact ne_of_lt (lt_size z)) (get?_push_of_some _ z)
theorem tB(hc:X.calm=true):cS X (.builtin "min") (λxs H Q=>∃(p:Addr) (ns:List Int),xs=[.ref p]/\(iu X.K H p (ns.map V.int)\/jF X.K H p (ns.map V.int))/\0<ns.length/\∀m,m∈ns->(∀a∈ns,m<=a)->Q (.int m) H):=by
 intro pins s σ H xs us Q I r h;obtain⟨p,ns,rfl,hq,hne,q⟩:=h;obtain⟨u,rfl,ru⟩:=vals1 r;cases ru;refine rR (bt:=λa b=>decide (a<b)) (op:=.Lt) I hc hq hne (λ{Q} h=>call_min_walk h) (λP hP=>?_) λt h' tk k hb=>⟨.int _,H,I.kept k,⟨t,rfl⟩,q _ ?_ λa ha=>?_⟩
 ·intro i j x y s' Q' E' hx hy hQ;obtain⟨t,rfl⟩:=hP i x hx;obtain⟨t',rfl⟩:=hP j y hy;exact lt_int (by simpa using hQ)
 ·exact getD_mem hb
 ·obtain⟨j,hj,rfl⟩:=mem_getD ha;exact(argBest_lt (λi=>ns.getD i 0) (ns.length-1)).2 j (by omega)
theorem tD(hc:X.calm=true):cS X (.builtin "max") (λxs H Q=>∃(p:Addr) (ns:List Int),xs=[.ref p]/\(iu X.K H p (ns.map V.int)\/jF X.K H p (ns.map V.int))/\0<ns.length/\∀m,m∈ns->(∀a∈ns,a<=m)->Q (.int m) H):=by
 intro pins s σ H xs us Q I r h;obtain⟨p,ns,rfl,hq,hne,q⟩:=h;obtain⟨u,rfl,ru⟩:=vals1 r;cases ru;refine rR (bt:=λa b=>decide (a>b)) (op:=.Gt) I hc hq hne (λ{Q} h=>call_max_walk h) (λP hP=>?_) λt h' tk k hb=>⟨.int _,H,I.kept k,⟨t,rfl⟩,q _ ?_ λa ha=>?_⟩
 ·intro i j x y s' Q' E' hx hy hQ;obtain⟨t,rfl⟩:=hP i x hx;obtain⟨t',rfl⟩:=hP j y hy;exact gt_int (by simpa using hQ)
 ·exact getD_mem hb
 ·obtain⟨j,hj,rfl⟩:=mem_getD ha;exact(argBest_gt (λi=>ns.getD i 0) (ns.length-1)).2 j (by omega)
end
end L2
end
section
namespace L2
open PySem PySem.Spec PyProof.Rows
section
variable {X:Cx}
section
open PySem.AutoSeq1 (wpAny_loadPart')
theorem tE(l b:Addr)(items items2:Array Value)(n n2:Nat)(dd2:Option Addr)(sl2:Array (Option Value))(hs0:¬(!items.isEmpty&&Builtin.List.listTooLong (items.size+items2.size))=true)(hs1:items.size<=sizeLine)(hs2:items.size+items2.size<=sizeLine+1) :
  Meets (Builtin.«list.extend» ⟨[.ref l,.ref b],[]⟩) (λ_ R s=>s.heap.get? l=some { cls:=.type "list",data:=.seq items n }/\s.heap.get? b=some { cls:=.type "tuple",dict:=dd2,data:=.seq items2 n2,slots:=sl2 } /\
   R (.ok (.ret Value.none)) { s with heap:=s.heap.update l (Obj.mapSeq λx=>x++items2) }) :=
 .of_wp λprog w A R s h=>by
  obtain⟨hp,g,d,tk,os⟩:=s;obtain⟨hl,hb,h⟩:=h;have f2:=AutoSeq1.sub_tuple_tuple;have f3:=AutoSeq1.sub_list_list;have f4:=AutoSeq1.sub_tuple_list;have f5:=AutoSeq1.sub_list_tuple;have hz':(items++items2).size<=sizeLine+1:=by rw[Array.size_append];exact hs2
  wp_walk using (wpAny_updateSeq hl rfl (hz:=hs1) (_hz':=hz')),wpAny_loadPart' hl,wpAny_loadPart' hb
  exact⟨_,rfl,h⟩
end
noncomputable def BV(K:PySem.W.Frag):V->List V->Hp->VK->Prop:=λx vs H Q=>∃l b xs zs,x=.ref l/\vs=[.ref b]/\H l=some (.lst xs)/\jF K H b zs/\xs.length+zs.length<=sizeLine/\Q .non (upd H l (.lst (xs++zs)))
theorem xE:Rz X "list.extend" (BV X.K):=by
 intro pins s σ H x vs v us Q I rx rv h;obtain⟨l,b,xs,zs,rfl,rfl,hH,hB,hz,q⟩:=h;cases rx;obtain⟨u,rfl,ru⟩:=rv.one;cases ru;obtain⟨z,its,n,r,hl,e⟩:=I.E7 hH;obtain⟨its2,r2,⟨⟨oc,od,Xb,osl⟩,e2,ec,n2,ed⟩,z2⟩:=I.tuple hB;cases ec;cases ed;have l2:=r2.length;have hsz:its.toArray.size+its2.toArray.size<=sizeLine:=by rw[size_toArray,size_toArray];omega
 have BF:¬ (!its.toArray.isEmpty&&Builtin.List.listTooLong (its.toArray.size+its2.toArray.size))=true:=by rw[uH hsz,Bool.and_false];exact Bool.false_ne_true
 refine call_meets F.slot_list_extend ⟨_,e,rfl⟩ F.entry_list_extend (F.args_list_extend_2 _ _)
  (tE l b its.toArray its2.toArray n n2 od osl BF (by rw[size_toArray];omega) (by omega)) ⟨e,e2,?_⟩
 refine⟨.non,_,I.JP (its':=its++its2) hH e (by simp) (r.append r2) ?_,rfl,q⟩;rw[length_append];omega
end
end L2
end
section
namespace L2
open PySem
noncomputable def rS(xs:Array Nat):Prop:=xs.toList.Pairwise (· < ·)
structure Cut (xs:Array Nat) (j p:Nat):Prop where
 le:p<=xs.size
 lo:∀(i:Nat) (hi:i<xs.size),i<p->xs[i]<j
 hi:∀(i:Nat) (hi:i<xs.size),p<=i->j<=xs[i]
theorem Cut.one{xs:Array Nat}{j p q:Nat}(a:Cut xs j p)(b:Cut xs j q):p=q:=by
 rcases Nat.lt_trichotomy p q with h|h|h
 ·have hp:p<xs.size:=lt_of_lt_of_le h b.le;have:=a.hi p hp (Nat.le_refl _);have:=b.lo p hp h;omega
 ·exact h
 ·have hq:q<xs.size:=lt_of_lt_of_le h a.le;have:=b.hi q hq (Nat.le_refl _);have:=a.lo q hq h;omega
theorem rS.get{xs:Array Nat}(r:rS xs){a b:Nat}(ha:a<xs.size)(hb:b<xs.size)(h:a<b):xs[a]<xs[b]:=by
 have:=pairwise_iff_getElem.mp r a b (by simpa using ha) (by simpa using hb) h;simpa using this
theorem xF{xs:Array Nat}(r:rS xs)(j:Nat):∀(fuel lo hi:Nat),lo<=hi->hi<=xs.size->hi-lo<=fuel->(∀(i:Nat) (hi:i<xs.size),i<lo->xs[i]<j)->(∀(i:Nat) (h:i<xs.size),hi<=i->j<=xs[i])->Cut xs j (SetTable.below.go xs j fuel lo hi)
 | 0,lo,hi,h1,h2,h3,a,b=>by
  have:lo=hi:=by omega
  subst this;exact⟨h2,a,b⟩
 | fuel+1,lo,hi,h1,h2,h3,a,b=>by
  unfold SetTable.below.go
  by_cases hlt:lo<hi
  ·rw[if_pos hlt]
   dsimp only;have hm:(lo+hi)/2<xs.size:=by omega
   have eg:xs.getD ((lo+hi)/2) j=xs[(lo+hi)/2]:=by simp[Array.getD,hm]
   rw[eg]
   by_cases hc:xs[(lo+hi)/2]<j
   ·rw[if_pos hc]
    refine xF r j fuel _ hi (by omega) h2 (by omega) (λi hi' hl=>?_) b
    by_cases e:i=(lo+hi)/2
    ·subst e;exact hc
    ·exact lt_trans (r.get hi' hm (by omega)) hc
   ·rw[if_neg hc]
    refine xF r j fuel lo _ (by omega) (by omega) (by omega) a (λi hi' hl=>?_)
    by_cases e:i=(lo+hi)/2
    ·subst e;omega
    ·have:=r.get hm hi' (by omega);omega
  ·rw[if_neg hlt]
   have:lo=hi:=by omega
   subst this;exact⟨h2,a,b⟩
theorem kE{xs:Array Nat}(r:rS xs)(j:Nat):Cut xs j (SetTable.below xs j) :=
 xF r j xs.size 0 xs.size (zero_le _) (Nat.le_refl _) (by omega) (λi _ h=>by omega) (λi h hl=>by omega)
theorem xG{xs:Array Nat}(r:rS xs):SetTable.below xs 0=0:=(kE r 0).one ⟨zero_le _,λi _ h=>by omega,λi _ _=>zero_le _⟩
theorem xH{xs:Array Nat}(r:rS xs){i:Nat}(hi:i<xs.size):SetTable.below xs (xs[i]+1)=i+1:=by
 refine(kE r _).one ⟨hi,λk hk h=>?_,λk hk h=>?_⟩
 ·by_cases e:k=i
  ·subst e;omega
  ·have:=r.get hk hi (by omega);omega
 ·have:=r.get hi hk (by omega);omega
theorem Ag{xs:Array Nat}(r:rS xs){j:Nat}(h:j∈xs):xs[SetTable.below xs j]?=some j:=by
 obtain⟨k,hk,e⟩:=Array.mem_iff_getElem.mp h;have:SetTable.below xs j=k:=by
  refine(kE r j).one ⟨Nat.le_of_lt hk,λi hi h=>?_,λi hi h=>?_⟩
  ·have:=r.get hi hk h;omega
  ·by_cases e':i=k
   ·subst e';omega
   ·have:=r.get hk hi (by omega);omega
 rw[this,Array.getElem?_eq_getElem hk,e]
theorem Ah{xs:Array Nat}(r:rS xs){j:Nat}(h:j∉xs):rS (SetTable.insertAt xs (SetTable.below xs j) j):=by
 have c:=kE r j;unfold rS;rw[SetTable.toList_insertAt];have rl:xs.toList.Pairwise (· < ·):=r;have lo:∀a∈xs.toList.take (SetTable.below xs j),a<j:=λa ha=>by
  obtain⟨i,hi,e⟩:=List.mem_iff_getElem.mp ha;rw[length_take,length_toList] at hi;rw[List.getElem_take] at e;have:=c.lo i (by omega) (by omega);rw[<-e];simpa using this
 have up:∀a∈xs.toList.drop (SetTable.below xs j),j<a:=λa ha=>by
  obtain⟨i,hi,e⟩:=List.mem_iff_getElem.mp ha;rw[length_drop,length_toList] at hi;rw[List.getElem_drop] at e;have h1:=c.hi (SetTable.below xs j+i) (by omega) (by omega);have e':xs[SetTable.below xs j+i]'(by omega)=a:=by rw[<-e];simp
  rw[e'] at h1;have:a≠j:=λz=>h (by rw[<-z,<-e'];exact Array.getElem_mem _);omega
 rw[List.pairwise_append];refine⟨rl.sublist (List.take_sublist _ _),pairwise_cons.mpr ⟨up,rl.sublist (List.drop_sublist _ _)⟩,λa ha b hb=>?_⟩
 rcases mem_cons.mp hb with e|hb
 ·rw[e];exact lo a ha
 ·exact lt_trans (lo a ha) (up b hb)
theorem lT(n:Nat):rS (Array.range n):=by
 unfold rS;rw[Array.toList_range];exact List.pairwise_lt_range
theorem rT{t:SetTable}(r:rS t.place){j:Nat}(h:t.slot j=.empty\/t.slot j=.dummy):j∉t.place:=λhm=>by
 have e:=Ag r hm;unfold SetTable.slot at h;dsimp only at h;rw[e] at h;simp at h
theorem lA{h:Int}:∀(fuel:Nat) (p:SetTable.Probe) (j:Nat) (d:Option Nat),(∀k,p.dummy=some k->t.slot k=.dummy)->SetTable.probe.go t f h fuel p=some (.empty j d)->t.slot j=.empty/\∀k,d=some k->t.slot k=.dummy
 | 0,p,j,d,hd,e=>by simp[SetTable.probe.go] at e
 | fuel+1,p,j,d,hd,e=>by
  have ad:∀q:SetTable.Probe,(t.advance q).dummy=q.dummy:=λq=>by unfold SetTable.advance;split<;>rfl
  unfold SetTable.probe.go at e;split at e
  ·rename_i hs;cases e;exact⟨hs,hd⟩
  ·rename_i hs;refine lA fuel _ j d (λk hk=>?_) e;rw[ad] at hk;cases hk;exact hs
  ·split at e
   ·cases e
   ·exact lA fuel _ j d (λk hk=>hd k (by rw[<-ad];exact hk)) e
theorem BW{t:SetTable}(r:rS t.place){h:Int}{s:Nat}{b:Bool}(e:t.freeSlot h=some (s,b)):s∉t.place:=by
 unfold SetTable.freeSlot at e;split at e
 ·rename_i j d hp
  cases e;obtain⟨h1,h2⟩:=lA _ _ _ _ (λk hk=>by simp[SetTable.probeStart] at hk) hp;cases d with
  | none=>exact rT r (.inl h1)
  | some k=>exact rT r (.inr (h2 k rfl))
 ·cases e
theorem Ai(r:rS t.place)(es:Array (Int×Value))(h:Int)(x:Value):rS (layNew t es h x).2.1.place/\(layNew t es h x).2.1.led=t.led:=by
 unfold layNew
 split
 ·rename_i s b e
  have fr:=BW r e;dsimp only;unfold SetTable.orStandIn
  split
  ·exact⟨Ah r fr,rfl⟩
  ·exact⟨lT _,rfl⟩
 ·exact⟨lT _,rfl⟩
theorem BX(r:rS t.place)(es:Array (Int×Value))(n:Nat):rS (relayAll t es n).2.1.place/\(relayAll t es n).2.1.led=t.led:=by
 unfold relayAll
 split
 ·rename_i t' order e
  dsimp only
  split
  ·unfold SetTable.relaid SetTable.laid at e;obtain⟨ow,e1,e⟩:=bind_eq_some_iff.mp e;cases e;refine⟨?_,rfl⟩;show List.Pairwise _ (List.map _ _).toArray.toList;rw[List.toList_toArray,pairwise_map];refine List.Pairwise.filterMap _ (R:=(· < ·)) (λa a' hl b hb b' hb'=>?_) List.pairwise_lt_range;obtain⟨x,_,rfl⟩:=map_eq_some_iff.mp hb;obtain⟨y,_,rfl⟩:=map_eq_some_iff.mp hb';exact hl
  ·exact⟨lT _,rfl⟩
 ·exact⟨lT _,rfl⟩
end L2
end
section
namespace L2
open PySem PyProof.Rows
noncomputable def qT(w:World):Bool:=w.params.followText "set-order"
structure HP (w:World) (es:Array (Int×Value)) (t:SetTable):Prop where
 few:es.size<scanBound
 fit:t.fits es.size=true
 rs:rS t.place
 led:t.led = !qT w
structure eZ (prog:Program) (w:World) (h:Heap) (a:Addr) (o:Obj) (es:Array (Int×Value)) (ep:Nat) (t:SetTable) (ks:List Int):Prop where
 at_:h.get? a=some o
 ex:o.ExactSet
 dat:o.data=.set es ep t
 el:ElemsOf (intKind prog w) es.toList
 tab:HP w es t
 Vr:ks.Nodup
 mem:∀k,k∈ks↔∃e∈es.toList,(intKind prog w).is k e.2=true
 num:es.size=ks.length
noncomputable def ou(prog:Program)(w:World)(h:Heap)(a:Addr)(ks:List Int):Prop:=∃o es ep t,eZ prog w h a o es ep t ks
noncomputable def e7(ks:List Int)(k:Int):List Int:=if k∈ks then ks else ks++[k]
section
variable {prog:Program} {w:World} {A:Around} {E:Value->Shared->Prop} {s:Shared}
theorem BY{h:Heap}{a:Addr}{o:Obj}{es es':Array (Int×Value)}{ep:Nat}{t t':SetTable}(ho:h.get? a=some o)(hd:o.data=.set es ep t):(h.update a (Obj.putSet es' t')).get? a=some { o with data:=.set es' (ep+1) t' }:=by
 have q:=get?_update_self (Obj.putSet es' t') ho (by rw[putSet_of es' t' hd];rfl);rw[putSet_of es' t' hd] at q;exact q
theorem ou.frame{ks:List Int}(S:ou prog w h a ks)(k:∀o,h.get? a=some o->h'.get? a=some o):ou prog w h' a ks:=by
 obtain⟨o,es,ep,t,i⟩:=S;exact⟨o,es,ep,t,{ i with at_:=k o i.at_ }⟩
theorem mem_push{es es1:List (Int×Value)}{ks:List Int}{k:Int}(hx:(intKind prog w).is k x=true)(hm:∀j,j∈ks↔∃e∈es,(intKind prog w).is j e.2=true)(p:es1.Perm (es++[((intKind prog w).hash k,x)]))(j:Int) :
  j∈ks++[k]↔∃e∈es1,(intKind prog w).is j e.2=true:=by
 rw[mem_append,mem_singleton,hm];constructor
 ·rintro(⟨e,he,q⟩|rfl)
  ·exact⟨e,p.mem_iff.mpr (mem_append_left _ he),q⟩
  ·exact⟨_,p.mem_iff.mpr (mem_append_right _ mem_cons_self),hx⟩
 ·rintro⟨e,he,q⟩
  rcases mem_append.mp (p.mem_iff.mp he) with z|z
  ·exact .inl ⟨e,z,q⟩
  ·rw[mem_singleton] at z;subst z;exact .inr ((intKind prog w).inj x j k q hx)
theorem uR{g:Bool->Sem Unit}(hg:∀(b:Bool) (s₁:Shared) (Q':Unit->Shared->Prop),Q' () s₁->wpAny (model prog w) A (g b) Q' E s₁)
  {a:Addr} {o:Obj} {es es1:Array (Int×Value)} {ep:Nat} {t t2:SetTable} {ks:List Int} (ho:s.heap.get? a=some o) (hex:o.ExactSet) (hd:o.data=.set es ep t)
  (hel:ElemsOf (intKind prog w) es1.toList) (hm:∀k,k∈ks↔∃e∈es1.toList,(intKind prog w).is k e.2=true) (hnd:ks.Nodup) (hn:es1.size=ks.length) (ht:HP w es1 t2) {b:Bool} {R:Option Bool->Shared->Prop}
  (h:∀h',Heap.SameBut a s.heap h'->ou prog w h' a ks->R (some true) { s with heap:=h' }) :
  wpAny (model prog w) A (do
    storeSet a es1 t2
    if (!b&&t2.tooFull)=true then do
      g (relayAll t2 es1 (SetTable.grown es1.size)).2.2
      storeSet a (relayAll t2 es1 (SetTable.grown es1.size)).1 (relayAll t2 es1 (SetTable.grown es1.size)).2.1
      pure (some true)
     else pure (some true)) R E s:=by
 refine wpAny_bind (wpAny_storeSet_of ho hd ?_ (fits_of_scanBound ht.few));have h1:=BY (es':=es1) (t':=t2) ho hd;have b1:=Heap.SameBut.update s.heap a (Obj.putSet es1 t2)
 split
 ·have p:=relayAll_perm t2 es1 (SetTable.grown es1.size)
  have f:=relayAll_fits t2 es1 (SetTable.grown es1.size);have rr:=BX ht.rs es1 (SetTable.grown es1.size);generalize relayAll t2 es1 (SetTable.grown es1.size)=Rl at p f rr |-;obtain⟨RS,t3,gv⟩:=Rl;dsimp only at p f rr |-;have z:RS.size=es1.size:=by rw[<-length_toList,p.length_eq,length_toList]
  have few:RS.size<scanBound:=by rw[z];exact ht.few
  refine wpAny_bind (hg _ _ _ ?_);refine wpAny_bind (wpAny_storeSet_of h1 rfl ?_ (fits_of_scanBound few));refine wpAny_pure (h _ (b1.trans (Heap.SameBut.update _ a _)) ⟨_,RS,_,t3,BY h1 rfl,hex,rfl,hel.perm p,⟨few,f,rr.1,rr.2.trans ht.led⟩,hnd,λk=>(hm k).trans ⟨λ⟨e,he,q⟩=>⟨e,p.mem_iff.mpr he,q⟩,λ⟨e,he,q⟩=>⟨e,p.mem_iff.mp he,q⟩⟩,z.trans hn⟩)
 ·exact wpAny_pure (h _ b1 ⟨_,es1,_,t2,h1,hex,rfl,hel,ht,hnd,hm,hn⟩)
theorem add_int{ks:List Int}{k:Int}(S:ou prog w s.heap a ks)(room:ks.length+1<scanBound)
  (h:∀h' b,Heap.SameBut a s.heap h'->ou prog w h' a (e7 ks k)->Q b { s with heap:=h' }) :
  wpAny (model prog w) A (setAddHashed a (.int k tk) ((intKind prog w).hash k)) Q E s:=by
 obtain⟨o,es,ep,t,I⟩:=S;have hx:(intKind prog w).is k (.int k tk)=true:=intKind_is _ _ _ _;have sc:(Value.int k tk).scannable=true:=rfl;unfold setAddHashed setAddHashedIn;refine wpAny_holding (wpAny_bind (wpAny_setState_of I.at_ I.dat I.tab.fit ?_));dsimp only;rw[byScan_of sc I.tab.few I.el];simp only[↓reduceIte];unfold setAddByScan;refine wpAny_bind (wpAny_bind (wpAny_rule (wpAny_bind (wpAny_setScan_of hx I.at_ I.dat I.tab.fit I.el ?_))));cases hr:List.findIdx? (λe=>(intKind prog w).is k e.2) es.toList with
 | some j =>
  dsimp only;obtain⟨hj,pj,_⟩:=List.findIdx?_eq_some_iff_getElem.mp hr;have hk:k∈ks:=(I.mem k).mpr ⟨es.toList[j],List.getElem_mem hj,pj⟩;refine wpAny_pure (wpAny_pure ?_);have e:s={ s with heap:=s.heap }:=by cases s;rfl
  rw[e];exact h s.heap _ (Heap.SameBut.refl a s.heap) (by unfold e7;rw[if_pos hk];exact⟨o,es,ep,t,I⟩)
 | none =>
  dsimp only;have hk:k∉ks:=λz=>by
   obtain⟨e,he,p⟩:=(I.mem k).mp z;have:=List.findIdx?_eq_none_iff.mp hr e he;rw[p] at this;cases this
  have gw:∀(b:Bool) (s₁:Shared) (Q':Unit->Shared->Prop),Q' () s₁->wpAny (model prog w) A (match b with|true=>rule "set.scan.the-table-gave-way" | false=>pure ()) Q' E s₁:=λb s₁ Q' q=>by
   cases b
   ·exact wpAny_pure q
   ·exact wpAny_rule q
  have p:=layNew_perm t es ((intKind prog w).hash k) (.int k tk);have f:=layNew_fits t es ((intKind prog w).hash k) (.int k tk);have rr:=Ai I.tab.rs es ((intKind prog w).hash k) (.int k tk);generalize layNew t es ((intKind prog w).hash k) (.int k tk)=Ln at p f rr |-;obtain⟨es1,t1,wd,gv⟩:=Ln;dsimp only at p f rr |-;rw[Array.toList_push] at p;have z:es1.size=(ks++[k]).length:=by rw[<-length_toList,p.length_eq,length_append,length_append,length_toList,I.num];rfl
  have few:es1.size<scanBound:=by rw[z,length_append];simpa using room
  have nd:(ks++[k]).Nodup:=by rw[nodup_append];exact⟨I.Vr,by simp,λx hx' y hy e=>hk (by rw[mem_singleton] at hy;rw[<-hy,<-e];exact hx')⟩
  have Vs:ElemsOf (intKind prog w) es1.toList:=(I.el.push hx sc).perm p;have m1:=mem_push hx I.mem p;have fin:∀h',Heap.SameBut a s.heap h'->ou prog w h' a (ks++[k])->Q true { s with heap:=h' }:=λh' sb S'=>h h' true sb (by unfold e7;rw[if_neg hk];exact S');refine wpAny_bind (gw _ _ _ ?_)
  split
  ·refine wpAny_bind ?_
   rw[hashByValue_scannable 8 sc];refine wpAny_pure ?_;refine uR gw I.at_ I.ex I.dat Vs m1 nd z ⟨few,?_,?_,?_⟩ λh' sb S'=>wpAny_pure (fin h' sb S')
   ·split
    ·exact f
    ·exact SetTable.fits_plain_off f
   ·split
    ·exact rr.1
    ·exact rr.1
   ·split
    ·exact rr.2.trans I.tab.led
    ·exact rr.2.trans I.tab.led
  ·refine wpAny_bind (wpAny_pure ?_);simp only[↓reduceIte];exact uR gw I.at_ I.ex I.dat Vs m1 nd z ⟨few,f,rr.1,rr.2.trans I.tab.led⟩ λh' sb S'=>wpAny_pure (fin h' sb S')
end
end L2
end
section
namespace L2
open PySem PyProof.Rows
noncomputable def eL:List Int->List Int->List Int
 | ks,[]=>ks
 | ks,k::r=>eL (e7 ks k) r
theorem pL(ks:List Int)(k:Int):(e7 ks k).length<=ks.length+1:=by unfold e7;split<;>simp
section
variable {prog:Program} {w:World} {A:Around} {E:Value->Shared->Prop} {s:Shared}
theorem BZ{R:Result->Shared->Prop}{I:Addr}{fp wr:List Addr}{G:Array GenState->Array GenState->Prop}{n:Nat}{P:Nat->Value->Prop}{St:Nat->Shared->Prop}(W:WalksS prog w A.in1 I fp wr G n P St)(S:Addr)(hSf:S∉fp)(val:Nat->Int)(hval:∀i v,P i v->∃t,v=.int (val i) t) :
  ∀(k i:Nat) (s:Shared) (ks:List Int),n-i=k->i<=n->ks.length+k+1<scanBound->St i s->ou prog w s.heap S ks ->
   (∀s',Moved (S::wr) G s s'->ou prog w s'.heap S (eL ks ((range' i k).map val))->R (.ok (.ret .none)) s') ->
   codeAny (model prog w) A (.builtin "set.update.loop" ⟨[.ref S,.ref I],[]⟩) R s:=by
 have Vt:S∉wr:=λh=>hSf (W.sub _ h);have sub:∀b∈wr,b∈S::wr:=λb hb=>mem_cons_of_mem _ hb;intro k
 induction k with
 | zero =>
  intro i s ks hk hi _ hst hS hR;have:i=n:=by omega
  subst this;refine codeAny_builtin PyProof.Rows.F.entry_set_update_loop ?_;rw[Around.under_plainId PyProof.Rows.F.plain_set_update_loop _];show wpAny _ A.in1 (pyNext (.ref I) >>= _) _ _ s;refine wpAny_bind (W.done s _ _ hst λs' hm=>?_);show wpAny _ A.in1 (ret Value.none) _ _ s';exact wpAny_pure (hR s' (hm.mono sub) (hS.frame λo e=>hm.heap S _ Vt e))
 | succ k ih =>
  intro i s ks hk hi hl hst hS hR;have hlt:i<n:=by omega
  refine codeAny_builtin PyProof.Rows.F.entry_set_update_loop ?_;rw[Around.under_plainId PyProof.Rows.F.plain_set_update_loop _];show wpAny _ A.in1 (pyNext (.ref I) >>= _) _ _ s;refine wpAny_bind (W.item i s _ _ hlt hst λv s' hP RT hm=>?_);obtain⟨t,rfl⟩:=hval i v hP;have hS':=hS.frame (h':=s'.heap) λo e=>hm.heap S _ Vt e;show wpAny _ A.in1 (holding [Value.int (val i) t] (setAdd S (.int (val i) t)) >>= _) _ _ s';refine wpAny_bind (wpAny_holding ?_);unfold setAdd;refine wpAny_holding (wpAny_bind ((intKind prog w).pyHash (k:=val i) (intKind_is _ _ _ _) ?_));refine add_int (s:={ s' with toks:=s'.toks+1 }) hS' (by omega) λh' b sb S2=>?_;have hl2:=pL ks (val i);refine wpAny_pure ⟨plainId_quiet PyProof.Rows.F.plain_set_update_loop _,ih (i+1) _ (e7 ks (val i)) (by omega) hlt (by omega) (W.frame _ s' _ _ RT (le_succ _) λb hb o e=>?_) S2 λs'' JX S3=>?_⟩
  ·rw[sb.2 b λz=>hSf (by rw[<-z];exact hb)];exact e
  ·refine hR s'' (Moved.trans W.gtrans ((hm.mono sub).then_heap (le_succ _) λb o hb e=>?_) JX) ?_
   ·rw[sb.2 b λz=>hb (by rw[z];exact mem_cons_self)];exact e
   ·rw[List.range'_succ,map_cons,eL];exact S3
noncomputable abbrev pM(w:World):Obj:={ cls:=.type "set",dict:=none,data:=.set #[] 0 (.fresh 0 0 (!qT w)) }
theorem Fx(e:h.get? a=some (pM w)):ou prog w h a [] :=
 ⟨_,#[],0,_,e,⟨rfl,rfl,rfl⟩,rfl,λx hx=>by simp at hx,⟨by show 0<4096;decide,rfl,List.Pairwise.nil,rfl⟩,nodup_nil,λk=>by simp,rfl⟩
theorem B0(a:Value)(h:Q₁ (.ref s.heap.objs.size) { s with heap:=s.heap.push (pM w) }) :
  codeAny (model prog w) A (.call (.builtin "set.__new__") ⟨[.type "set",a],[]⟩) (wants Q₁ E) s:=by
 refine codeAny_of_tree ?_;show wpAny _ A.in1 (do checkBuiltinCall "set.__new__" ⟨[.type "set",a],[]⟩;again (.builtin "set.__new__" ⟨[.type "set",a],[]⟩)) _ _ s;refine wpAny_bind (wpAny_of_eq (PySem.F.newCall_set_1 a) (wpAny_pure ⟨plainId_quiet PySem.F.plain_set_new _,codeAny_builtin PySem.F.entry_set_new ?_⟩));rw[Around.under_plainId PySem.F.plain_set_new _];unfold Builtin.«set.__new__» Builtin.Frozenset.newClass;have hsub:=sub_set_self;obtain⟨hp,g,d,tk,os⟩:=s;dsimp only
 wp_walk
 refine wpAny_askSetting (wpAny_pure ?_);dsimp only;simp only[newObj];refine wpAny_bind (wpAny_alloc (wpAny_pure ?_));exact wpAny_pure h
end
end L2
end
section
namespace L2
open PySem PyProof.Rows
section
variable {prog:Program} {w:World} {A:Around} {E:Value->Shared->Prop} {s:Shared}
theorem xJ{ns:List Int}(hi:IntsAre vs ns):(range' 0 vs.length).map (λi=>ns.getD i 0)=ns:=by
 have hl:=IntsAre.length hi;apply ext_getElem
 ·rw[length_map,List.length_range',hl]
 ·intro i h1 h2;simp[List.getD,h2]
theorem uS{ns:List Int}(hh:A.handled=none)(hl:s.heap.IsList l items)(hi:IntsAre items.toList ns)(hb:items.size+1<scanBound)
  (h:∀(h':Heap) (tk:Nat),ou prog w h' s.heap.objs.size (eL [] ns)->(∀b o,b<s.heap.objs.size->s.heap.get? b=some o->h'.get? b=some o)->Q (.ref s.heap.objs.size) { s with heap:=h',toks:=tk }) :
  wpAny (model prog w) A (call (.type "set") [.ref l]) Q E s:=by
 obtain⟨c,tl,mro⟩:=PySem.F.called_set.mro;have made:=PySem.F.called_set.made;have sub:=PySem.F.called_set.sub;refine wpAny_call (codeAny_of_tree ?_);show wpAny _ _ (callAny (.type "set") _) _ _ _;refine wpAny_pure ⟨Code.quiet_builtin _ (by decide +kernel),codeAny_builtin PySem.F.entry_type_call ?_⟩;rw[Around.under_plain (weight_type_call_type "set" [.ref l] []) rfl];have n1:=PySem.F.called_set.notType;have n2:=PySem.F.called_set.canCreate;have n3:=PySem.F.typeCall_set_1 (.ref l)
 repeat (any_goals (first|assumption|wp_step))
 refine codeAny_mono (B0 (.ref l) (E:=E) (Q₁:=λobj s₁=>obj=.ref s.heap.objs.size/\s₁={ s with heap:=s.heap.push (pM w) }) ⟨rfl,rfl⟩) λr s₁ hr=>?_;cases r with
 | error e=>exact hr
 | ok fl =>
  cases fl with
  | ret obj =>
   obtain⟨rfl,rfl⟩:=hr;have Vu:(s.heap.push (pM w)).get? s.heap.objs.size=some (pM w):=get?_push_size _ rfl;have hT:Shared.TypeIs { s with heap:=s.heap.push (pM w) } (.ref s.heap.objs.size) "set":=⟨_,Vu,rfl⟩;have look:=PySem.F.called_set.init.lookup;have bind:=PySem.F.called_set.init.bind (.ref s.heap.objs.size)
   repeat (any_goals (first|assumption|wp_step))
   refine codeAny_mono (codeAny_call_builtin (R:=wants (λr s₂=>r=.none/\∃h' tk,s₂={ s with heap:=h',toks:=tk }/\ou prog w h' s.heap.objs.size (eL [] ns) /\
     (∀b o,b<s.heap.objs.size->s.heap.get? b=some o->h'.get? b=some o)) E) PySem.F.called_set.init.plain PySem.F.entry_set_init (check_set_init_1 hT ?_)) λr₂ s₂ RW=>?_
   ·obtain⟨ol,Vv,cl,nl,dl⟩:=hl
    obtain⟨oc,od,oda,os⟩:=ol;simp only at cl dl;subst cl;subst dl;have RX:(s.heap.push (pM w)).get? l=some { cls:=.type "list",dict:=od,data:=.seq items nl,slots:=os }:=get?_push_of_some _ Vv;have q1:=PySem.F.sub_list_set;have q2:=PySem.F.sub_list_frozenset;have q3:(Value.type "list" == Value.type "dict")=false:=by decide
    have hl1:(s.heap.push (pM w)).IsList l items:=⟨_,RX,rfl,nl,rfl⟩;unfold Builtin.«set.__init__» noKeywords Builtin.Frozenset.updateFrom;generalize Xc:pyIter=PI
    wp_walk
    subst Xc;refine wpAny_pyIter_list hl1 (wpAny_bind (wpAny_runValue ?_));have lS:l<s.heap.objs.size:=lt_size Vv;have h3:A.in1.in1.in1.handled=none:=by simp[hh]
    have Xd:l≠(s.heap.push (pM w)).objs.size:=by rw[size_push];exact ne_of_lt (lt_succ_of_lt lS)
    have sF:s.heap.objs.size∉[(s.heap.push (pM w)).objs.size,l]:=by rw[size_push];simp only[mem_cons,not_mem_nil,or_false,not_or];exact⟨ne_of_lt (lt_succ_self _),Nat.ne_of_gt lS⟩
    have val:∀(i:Nat) (v:Value),items[i]?=some v->∃t,v=.int ((λi=>ns.getD i 0) i) t:=λi v hv=>IntsAre.int_at hi i v (by rw[getElem?_toList];exact hv);refine BZ ((Walks.list h3 _ l Xd items).toS) s.heap.objs.size sF (λi=>ns.getD i 0) val (items.size-0) 0 _ [] (by omega) (zero_le _) (by simpa using hb) ⟨⟨_,get?_push_size _ rfl,rfl,rfl⟩,hl1.push _⟩ ?s0 ?sR
    case s0=>exact Fx (get?_push_of_some _ Vu)
    case sR =>
     intro s' hm S';obtain⟨h',g',d',tk',os'⟩:=s';have eg:g'=s.gens:=hm.gens;have ed:d'=s.drawn:=hm.drawn;have eo:os'=s.os:=hm.os;subst eg;subst ed;subst eo;refine wpAny_pure ?_;show wpAny _ _ (ret Value.none) _ _ _;have e0:(range' 0 (items.size-0)).map (λi=>ns.getD i 0)=ns:=by have:=xJ hi;rw[length_toList] at this;exact this
     rw[e0] at S';refine wpAny_pure ⟨rfl,h',tk',rfl,S',λb o hb e=>?_⟩;have b1:b≠s.heap.objs.size:=ne_of_lt hb;have b2:b≠(s.heap.push (pM w)).objs.size:=by rw[size_push];exact ne_of_lt (lt_succ_of_lt hb)
     exact hm.heap b o (by simp only[mem_cons,not_mem_nil,or_false,not_or];exact⟨b1,b2⟩) (get?_push_of_some _ (get?_push_of_some _ e))
   ·cases r₂ with
    | error e=>exact RW
    | ok Xe =>
     cases Xe with
     | ret r =>
      obtain⟨rfl,h',tk,rfl,S',hk⟩:=RW
      repeat (any_goals (first|assumption|wp_step))
      exact h _ _ S' hk
     | _=>exact RW.elim
  | _=>exact hr.elim
end
end L2
end
section
namespace L2
open PySem PyProof.Rows
namespace SI
theorem xK:entryFor table "set.__iter__" = some Builtin.«frozenset.__iter__» :=
 entryFor_alias (id':="frozenset.__iter__") (by kernel_rfl) rfl (by decide +kernel) (by kernel_rfl)
theorem owner:Manifest.owners.lookup (String.ofList ['r','o','t','a','r','e','t','i','_','t','e','s'].reverse)=some Manifest.sig_set_iterator:=by kernel_rfl
theorem slot_next:Slot "set_iterator" "__next__" "set_iterator.__next__" :=
 .of (owner:="set_iterator") (n:="__next__") (by rw[typeLookup_type,builtinLookup_eq_fast];kernel_rfl) (by decide +kernel) (by decide +kernel) (by decide +kernel) (by first|exact .inl (by decide +kernel)|exact .inr (by decide +kernel)) (by rw[isSubtype_type];kernel_rfl)
theorem entry_next:entryFor table "set_iterator.__next__" = some Builtin.«set_iterator.__next__»:=entryFor_of_tree (by kernel_rfl)
theorem args_next(a:Value):argsOk "set_iterator.__next__" ⟨[a],[]⟩:=by
 unfold argsOk;rw[signature?_of (id:="set_iterator.__next__") (n:=['_','_','t','x','e','n','_','_']) (o:=['r','o','t','a','r','e','t','i','_','t','e','s']) (by kernel_rfl) owner];kernel_rfl
theorem rV:Slot "set_iterator" "__iter__" "set_iterator.__iter__" :=
 .of (owner:="set_iterator") (n:="__iter__") (by rw[typeLookup_type,builtinLookup_eq_fast];kernel_rfl) (by decide +kernel) (by decide +kernel) (by decide +kernel) (by first|exact .inl (by decide +kernel)|exact .inr (by decide +kernel)) (by rw[isSubtype_type];kernel_rfl)
theorem entry_self:entryFor table "set_iterator.__iter__" = some Builtin.«dict_keyiterator.__iter__» :=
 entryFor_alias (id':="dict_keyiterator.__iter__") (by kernel_rfl) rfl (by decide +kernel) (by kernel_rfl)
theorem Aj(a:Value):argsOk "set_iterator.__iter__" ⟨[a],[]⟩:=by
 unfold argsOk;rw[signature?_of (id:="set_iterator.__iter__") (n:=['_','_','r','e','t','i','_','_']) (o:=['r','o','t','a','r','e','t','i','_','t','e','s']) (by kernel_rfl) owner];kernel_rfl
end SI
section
variable {prog:Program} {w:World} {A:Around} {E:Value->Shared->Prop} {s:Shared}
noncomputable def fD(h:Heap)(it:Addr)(f:Value)(i:Nat)(a:Addr)(n ep:Nat):Prop:=∃o,h.get? it=some o/\o.cls=.type "set_iterator" /\ o.data=.fields #[f,.int i 0,.ref a,.int n 0,.int ep 0]
theorem fD.typeIs{i:Nat}{n ep:Nat}(x:fD s.heap it f i a n ep):s.TypeIs (.ref it) "set_iterator":=let ⟨o,ho,hc,_⟩:=x;⟨o,ho,hc⟩
theorem m9{i:Nat}{n ep:Nat}(x:fD s.heap it f i a n ep)(h:Q (.ref it) s):wpAny (model prog w) A (pyIter (.ref it)) Q E s:=by
 refine wpAny_pyIter_slot x.typeIs SI.rV (wpAny_call_entry SI.rV x.typeIs SI.entry_self ?_ (SI.Aj _));exact wpAny_pure ⟨_,rfl,"set_iterator",_,x.typeIs,SI.slot_next.lookup,h⟩
end
end L2
end
section
namespace L2
open PySem PyProof.Rows
section
variable {prog:Program} {w:World} {A:Around} {E:Value->Shared->Prop} {s:Shared}
theorem iD{ep:Nat}(ho:s.heap.get? a=some o)(hd:o.data=.set es ep t)(hf:t.fits es.size=true)(h:Q es s):wpAny (model prog w) A (setEntries a) Q E s:=by
 unfold setEntries;exact wpAny_bind (wpAny_setState_of ho hd hf (wpAny_pure h))
theorem kF(h:Q (qT w) s):wpAny (model prog w) A setsByText Q E s:=by
 unfold setsByText;exact wpAny_bind (wpAny_askSetting (wpAny_pure h))
theorem rW{ep sl g:Nat}{ks:List Int}(S:eZ prog w s.heap a o es ep t ks)(hb:qT w=false)(hp:(!t.plain&&decide (es.size>1))=false)
  (hQ:Q (match es[SetTable.below t.place sl]?,t.place[SetTable.below t.place sl]? with|some (_,x),some j=>some (x,j+1)|_,_=>none) s):wpAny (model prog w) A (setNext a sl g ep) Q E s:=by
 have led:t.led=true:=by rw[S.tab.led,hb];rfl
 unfold setNext;refine wpAny_bind (wpAny_setState_of S.at_ S.dat S.tab.fit ?_);dsimp only;refine wpAny_bind (kF ?_);rw[hb];simp only[false_eq_true,↓reduceIte];rw[if_neg (λz=>by
  have z':(!t.plain&&decide (es.size>1))=true:=z;rw[hp] at z';cases z')]
 refine wpAny_bind ?_;show wpAny _ _ (if (!t.led && !es.isEmpty)=true then Sem.unsupported "set:maker-not-led" else pure ()) _ _ _;rw[if_neg (by rw[led];simp)];exact wpAny_pure (wpAny_pure hQ)
theorem rX{ep sl g:Nat}{ks:List Int}(S:eZ prog w s.heap a o es ep t ks)(hb:qT w=true)
  (hQ:Q (((pickOrder (w.params.setOrder a ep) es)[g]?).map λe=>(e.2,sl)) s):wpAny (model prog w) A (setNext a sl g ep) Q E s:=by
 unfold setNext;refine wpAny_bind (wpAny_setState_of S.at_ S.dat S.tab.fit ?_);dsimp only;refine wpAny_bind (kF ?_);rw[hb];simp only[bne_self_eq_false,false_eq_true,↓reduceIte];unfold setWalk;refine wpAny_bind (wpAny_bind (wpAny_setState_of S.at_ S.dat S.tab.fit ?_));dsimp only;refine wpAny_bind (kF ?_);rw[hb];simp only[↓reduceIte];exact wpAny_bind (wpAny_askSetting (wpAny_pure (wpAny_pure hQ)))
theorem lU{ep:Nat}{ks:List Int}{i sl:Nat}(hh:A.handled=none)(x:fD s.heap it (.int sl 0) i a es.size ep)(S:eZ prog w s.heap a o es ep t ks)
  (hn:∀(A:Around) (E:Value->Shared->Prop) (Q:Option (Value×Nat)->Shared->Prop),Q r s->wpAny (model prog w) A (setNext a sl i ep) Q E s)
  (hQ:∀v nx,r=some (v,nx)->∀h',fD h' it (.int (nx:Nat) 0) (i+1) a es.size ep->Heap.SameBut it s.heap h'->Q (some v) { s with heap:=h' })
  (hE:r=none->∀h',Heap.ExtBut it s.heap h'->Q none { s with heap:=h' }):wpAny (model prog w) A (pyNext (.ref it)) Q E s:=by
 obtain⟨oi,En,RY,hdi⟩:=id x;unfold pyNext;refine wpAny_bind (wpAny_attempt (wpAny_callSpecial?_slot (name:=Str.ofString "__next__") x.typeIs SI.slot_next (wpAny_call_entry SI.slot_next x.typeIs SI.entry_next ?_ (SI.args_next _))));unfold Builtin.«set_iterator.__next__»;refine wpAny_bind (wpAny_pure ?_);refine wpAny_bind (wpAny_fieldsOf En hdi ?_);dsimp only;refine wpAny_bind (iD S.at_ S.dat S.tab.fit ?_);rw[if_neg (by simp)];refine wpAny_bind (hn _ _ _ ?_);cases r with
 | some p =>
  obtain⟨v,nx⟩:=p;dsimp only;refine wpAny_bind (wpAny_setField En hdi (by simp) ?_);have h1:=get?_update_self (Obj.mapFields (·.setIfInBounds 0 (rawInt nx))) En (Obj.isFreed_of_fields (Obj.data_mapFields hdi _));have d1:=Obj.data_mapFields hdi (·.setIfInBounds 0 (rawInt nx));refine wpAny_bind (wpAny_setField h1 d1 (by simp) ?_);have h2:=get?_update_self (Obj.mapFields (·.setIfInBounds 1 (rawInt ((i:Int)+1)))) h1 (Obj.isFreed_of_fields (Obj.data_mapFields d1 _));refine wpAny_pure ⟨_,rfl,wpAny_pure (hQ v nx rfl _ ⟨_,h2,?_,?_⟩ ((Heap.SameBut.update ..).trans (Heap.SameBut.update ..)))⟩
  ·rw[Obj.cls_mapFields,Obj.cls_mapFields];exact RY
  ·rw[Obj.data_mapFields d1];simp[rawInt]
 | none =>dsimp only;refine wpAny_bind (wpAny_setField En hdi (by simp) ?_);refine wpAny_bind ?_;simp only[newExc,newTuple];refine wpAny_bind (wpAny_newObj_type ?_ (by size_fits));refine wpAny_bind (m:=firstArgMember _ _) (wpAny_of_eq (a:=Value.none) (by first|rfl|(simp only[firstArgMember];rfl)) ?_);refine wpAny_newObj_type ?_ (by size_fits);simp only[raiseNew];refine wpAny_bind (wpAny_handled ?_);rw[show A.in1.handled=none from hh];refine wpAny_bind (wpAny_pure (wpAny_throw ?_));refine wpAny_bind (wpAny_isInstance (T:="StopIteration") (b:=true) ⟨_,get?_push_size _ rfl,rfl⟩ isSubtype_stop ?_);exact wpAny_pure (hE rfl _ (((Heap.SameBut.update ..).extBut.push _).push _))
end
end L2
end
section
namespace L2
open PySem PyProof.Rows
theorem lB{α:Type}:∀(l:List α) (i:Nat) (h:i<l.length),(l[i]::l.eraseIdx i).Perm l
 | x::l,0,_=>List.Perm.refl _
 | x::l,i+1,h=>by
  simp only[List.getElem_cons_succ,List.eraseIdx_cons_succ];exact(List.Perm.swap _ _ _).trans (List.Perm.cons x (lB l i (by simpa using h)))
section
variable {prog:Program} {w:World} {A:Around} {E:Value->Shared->Prop} {s:Shared}
theorem Ak{n:Nat}(hn:n≠0)(h:∀i d,i<n->Q i { s with drawn:=d }):wpAny (model prog w) A (choose src n) Q E s:=fun Γ p hΓ=>by
 show Sem.wp _ _ (Sem.choose src n Sem.pure) _ _ _ _;rw[Sem.wp];exact⟨hn,h _ _ (mod_lt _ (Nat.pos_of_ne_zero hn))⟩
theorem yE{α:Type}:∀(n:Nat) (xs:List α) (s:Shared) (Q:List α -> Shared->Prop),xs.length=n->(∀ys d,ys.Perm xs->Q ys { s with drawn:=d })->wpAny (model prog w) A (drawOrder n xs) Q E s
 | 0,xs,s,Q,hl,h=>by
  have:xs=[]:=List.eq_nil_of_length_eq_zero hl;subst this;unfold drawOrder;exact wpAny_pure (h [] s.drawn (List.Perm.refl _))
 | n+1,[],s,Q,hl,h=>by simp at hl
 | n+1,x::xs,s,Q,hl,h=>by
  unfold drawOrder;refine wpAny_bind (Ak (by simp) λi d hi=>?_);have hx:(x::xs)[i]?=some ((x::xs)[i]):=List.getElem?_eq_getElem hi;rw[hx];dsimp only;refine wpAny_bind (yE n ((x::xs).eraseIdx i) _ _ (by rw[List.length_eraseIdx,if_pos hi];simp at hl |-;omega) λys d' p=>wpAny_pure ?_);exact h _ d' (((List.Perm.cons _ p).trans (lB _ i hi)))
theorem pN{ep c:Nat}{ks:List Int}{i:Nat}{ps:List Nat}(hh:A.handled=none)(x:fD s.heap it (.ref td) i a es.size ep)(S:eZ prog w s.heap a o es ep t ks)
  (hT:s.heap.get? td=some oT) (Qt:oT.data=.seq (ps.map λ(j:Nat)=>rawInt j).toArray c) (hlt:∀j∈ps,j<es.size)
  (hQ:∀j e,ps[i]?=some j->es[j]?=some e->∀h',fD h' it (.ref td) (i+1) a es.size ep->Heap.SameBut it s.heap h'->Q (some e.2) { s with heap:=h' })
  (hE:ps[i]?=none->∀h',Heap.ExtBut it s.heap h'->Q none { s with heap:=h' }):wpAny (model prog w) A (pyNext (.ref it)) Q E s:=by
 obtain⟨oi,En,RY,hdi⟩:=id x;unfold pyNext;refine wpAny_bind (wpAny_attempt (wpAny_callSpecial?_slot (name:=Str.ofString "__next__") x.typeIs SI.slot_next (wpAny_call_entry SI.slot_next x.typeIs SI.entry_next ?_ (SI.args_next _))));unfold Builtin.«set_iterator.__next__»;refine wpAny_bind (wpAny_pure ?_);refine wpAny_bind (wpAny_fieldsOf En hdi ?_);dsimp only;refine wpAny_bind (iD S.at_ S.dat S.tab.fit ?_);rw[if_neg (by simp)];refine wpAny_bind (wpAny_seqItems hT Qt ?_);dsimp only;have hg:((ps.map λ(j:Nat)=>rawInt j).toArray)[((i:Nat):Int).toNat]?=(ps[i]?).map λ(j:Nat)=>rawInt j:=by simp
 rw[hg];cases hp:ps[i]? with
 | some j =>
  have hj:j<es.size:=hlt j (mem_of_getElem? hp);simp only[map_some,rawInt];refine wpAny_bind ?_;unfold setNextDrawn;refine wpAny_bind (wpAny_setState_of S.at_ S.dat S.tab.fit ?_);dsimp only;rw[if_neg (by simp)];have Xf:es[((j:Nat):Int).toNat]?=some es[j]:=by simp[hj]
  rw[Xf];refine wpAny_pure ?_;refine wpAny_bind (wpAny_setField En hdi (by simp) ?_);have h2:=get?_update_self (Obj.mapFields (·.setIfInBounds 1 (.int ((i:Int)+1) 0))) En (Obj.isFreed_of_fields (Obj.data_mapFields hdi _));refine wpAny_pure ⟨_,rfl,wpAny_pure (hQ j _ hp (Array.getElem?_eq_getElem hj) _ ⟨_,h2,?_,?_⟩ (Heap.SameBut.update ..))⟩
  ·rw[Obj.cls_mapFields];exact RY
  ·rw[Obj.data_mapFields hdi];simp
 | none =>simp only[Option.map_none];refine wpAny_bind (wpAny_setField En hdi (by simp) ?_);have h1:=get?_update_self (Obj.mapFields (·.setIfInBounds 0 (rawInt 0))) En (Obj.isFreed_of_fields (Obj.data_mapFields hdi _));have d1:=Obj.data_mapFields hdi (·.setIfInBounds 0 (rawInt 0));refine wpAny_bind (wpAny_setField h1 d1 (by simp) ?_);refine wpAny_bind ?_;simp only[newExc,newTuple];refine wpAny_bind (wpAny_newObj_type ?_ (by size_fits));refine wpAny_bind (m:=firstArgMember _ _) (wpAny_of_eq (a:=Value.none) (by first|rfl|(simp only[firstArgMember];rfl)) ?_);refine wpAny_newObj_type ?_ (by size_fits);simp only[raiseNew];refine wpAny_bind (wpAny_handled ?_);rw[show A.in1.handled=none from hh];refine wpAny_bind (wpAny_pure (wpAny_throw ?_));refine wpAny_bind (wpAny_isInstance (T:="StopIteration") (b:=true) ⟨_,get?_push_size _ rfl,rfl⟩ isSubtype_stop ?_);exact wpAny_pure (hE hp _ ((((Heap.SameBut.update ..).trans (Heap.SameBut.update ..)).extBut.push _).push _))
end
end L2
end
section
namespace L2
open PySem PyProof.Rows
theorem rY{α:Type}(f:Nat->Nat):∀(n k:Nat) (l:List α) (out:Array α),l.length=n->(pickOrder.go f n k l out).toList.Perm (out.toList++l)
 | 0,k,l,out,h=>by
  have:l=[]:=List.eq_nil_of_length_eq_zero h;subst this;unfold pickOrder.go;simp
 | n+1,k,l,out,h=>by
  unfold pickOrder.go;have hl:0<l.length:=by omega
  have hi:f k%l.length<l.length:=mod_lt _ hl;rw[List.getElem?_eq_getElem hi];dsimp only;refine(rY f n (k+1) _ _ (by rw[List.length_eraseIdx,if_pos hi];omega)).trans ?_;rw[Array.toList_push,List.append_assoc];exact List.Perm.append_left _ (lB l _ hi)
theorem rZ{t:SetTable}{n:Nat}(h:t.fits n=true):t.place.size=n:=by
 simp only[SetTable.fits,and_eq_true,beq_iff_eq] at h;exact h.1
noncomputable def Qu(t:SetTable):Nat->Nat
 | 0=>0
 | i+1=>t.place.getD i 0+1
theorem r6(r:rS t.place):∀i,i<=t.place.size->SetTable.below t.place (Qu t i)=i
 | 0,_=>xG r
 | i+1,h=>by
  have hi:i<t.place.size:=h;have e:Qu t (i+1)=t.place[i]+1:=by simp[Qu,Array.getD,hi]
  rw[e];exact xH r hi
section
variable {prog:Program} {w:World} {A:Around} {E:Value->Shared->Prop} {s:Shared}
theorem eZ.keep{ep:Nat}{ks:List Int}(S:eZ prog w h a o es ep t ks)(k:∀o,h.get? a=some o->h'.get? a=some o):eZ prog w h' a o es ep t ks:={ S with at_:=k o S.at_ }
theorem fD.keep{i:Nat}{n ep:Nat}(x:fD h it f i a n ep)(k:∀o,h.get? it=some o->h'.get? it=some o):fD h' it f i a n ep:=by
 obtain⟨o,ho,r⟩:=x;exact⟨o,k o ho,r⟩
noncomputable def PL(L:List (Int×Value))(i:Nat)(v:Value):Prop:=∃e,L[i]?=some e/\v=e.2
theorem Am(hh:A.handled=none){ep:Nat}{ks:List Int}(hne:a≠I)(hb:qT w=false)(hp:(!t.plain&&decide (es.size>1))=false) :
  Walks prog w A I [I,a] [I] es.toList.length (PL es.toList) (λi h=>eZ prog w h a o es ep t ks/\fD h I (.int (Qu t i) 0) i a es.size ep) where
 sub:=λb hb=>by simp at hb;simp[hb]
 frame:=λ_ _ _ st hk=>⟨st.1.keep λo e=>hk a (by simp) o e,st.2.keep λo e=>hk I (by simp) o e⟩
 item:=λi s Q E hi st hQ=>by
  have hi:i<es.size:=by simpa using hi
  have hz:=rZ st.1.tab.fit;have hb':=r6 st.1.tab.rs i (by rw[hz];exact Nat.le_of_lt hi);refine lU (r:=some (es[i].2,t.place.getD i 0+1)) hh st.2 st.1 (λA E Q q=>rW st.1 hb hp ?_) (λv nx e h' x' sb=>?_) (λe=>nomatch e)
  ·rw[hb',Array.getElem?_eq_getElem hi,Array.getElem?_eq_getElem (by rw[hz];exact hi)]
   have e1:t.place[i]'(by rw[hz];exact hi)=t.place.getD i 0:=by simp[Array.getD,hz,hi]
   dsimp only;rw[e1];exact q
  ·cases e;exact hQ _ h' s.toks ⟨es[i],by simp[hi],rfl⟩ ⟨st.1.keep λo e=>sb.extBut a o hne e,x'⟩ λb o hb e=>sb.extBut b o (λz=>hb (by simp[z])) e
 done:=λs Q E st hQ=>by
  have hz:=rZ st.1.tab.fit;have hb':=r6 st.1.tab.rs es.toList.length (by rw[hz];simp);refine lU (r:=none) hh st.2 st.1 (λA E Q q=>rW st.1 hb hp ?_) (λv nx e=>nomatch e) (λ_ h' sb=>hQ h' s.toks λb o hb e=>sb b o (λz=>hb (by simp[z])) e);rw[hb',Array.getElem?_eq_none (by simp)];exact q
 self:=λ_ _ _ _ st hQ=>m9 st.2 hQ
theorem An(hh:A.handled=none){ep:Nat}{ks:List Int}(hne:a≠I)(hb:qT w=true) :
  Walks prog w A I [I,a] [I] (pickOrder (w.params.setOrder a ep) es).toList.length (PL (pickOrder (w.params.setOrder a ep) es).toList) (λi h=>eZ prog w h a o es ep t ks/\fD h I (.int (0:Nat) 0) i a es.size ep) where
 sub:=λb hb=>by simp at hb;simp[hb]
 frame:=λ_ _ _ st hk=>⟨st.1.keep λo e=>hk a (by simp) o e,st.2.keep λo e=>hk I (by simp) o e⟩
 item:=λi s Q E hi st hQ=>by
  have hi:i<(pickOrder (w.params.setOrder a ep) es).size:=by simpa using hi
  refine lU (r:=some ((pickOrder (w.params.setOrder a ep) es)[i].2,0)) hh st.2 st.1 (λA E Q q=>rX st.1 hb ?_) (λv nx e h' x' sb=>?_) (λe=>nomatch e)
  ·rw[Array.getElem?_eq_getElem hi];exact q
  ·cases e;exact hQ _ h' s.toks ⟨(pickOrder (w.params.setOrder a ep) es)[i],by simp[hi],rfl⟩ ⟨st.1.keep λo e=>sb.extBut a o hne e,x'⟩ λb o hb e=>sb.extBut b o (λz=>hb (by simp[z])) e
 done:=λs Q E st hQ=>by
  refine lU (r:=none) hh st.2 st.1 (λA E Q q=>rX st.1 hb ?_) (λv nx e=>nomatch e) (λ_ h' sb=>hQ h' s.toks λb o hb e=>sb b o (λz=>hb (by simp[z])) e);rw[Array.getElem?_eq_none (by simp)];exact q
 self:=λ_ _ _ _ st hQ=>m9 st.2 hQ
theorem xM(hh:A.handled=none){ep c:Nat}{ks:List Int}{ps:List Nat}(hne:a≠I)(hnt:td≠I)(hlt:∀j∈ps,j<es.size)(Qt:oT.data=.seq (ps.map λ(j:Nat)=>rawInt j).toArray c) :
  Walks prog w A I [I,a,td] [I] ps.length (PL (ps.map λj=>es.getD j (0,.none))) (λi h=>eZ prog w h a o es ep t ks/\fD h I (.ref td) i a es.size ep/\h.get? td=some oT) where
 sub:=λb hb=>by simp at hb;simp[hb]
 frame:=λ_ _ _ st hk=>⟨st.1.keep λo e=>hk a (by simp) o e,st.2.1.keep λo e=>hk I (by simp) o e,hk td (by simp) _ st.2.2⟩
 item:=λi s Q E hi st hQ=>by
  refine pN hh st.2.1 st.1 st.2.2 Qt hlt (λj e hj he h' x' sb=>?_) (λhn=>absurd hn (by rw[List.getElem?_eq_getElem hi];simp));refine hQ _ h' s.toks ⟨e,?_,rfl⟩ ⟨st.1.keep λo e=>sb.extBut a o hne e,x',sb.extBut td _ hnt st.2.2⟩ λb o hb e=>sb.extBut b o (λz=>hb (by simp[z])) e;rw[getElem?_map,hj];have hjl:j<es.size:=(Array.getElem?_eq_some_iff.mp he).1;have:=(Array.getElem?_eq_some_iff.mp he).2;simp[Array.getD,hjl,this]
 done:=λs Q E st hQ=>pN hh st.2.1 st.1 st.2.2 Qt hlt (λj e hj=>absurd hj (by simp)) (λ_ h' sb=>hQ h' s.toks λb o hb e=>sb b o (λz=>hb (by simp[z])) e)
 self:=λ_ _ _ _ st hQ=>m9 st.2.1 hQ
end
end L2
end
section
namespace L2
open PySem PyProof.Rows
section
variable {prog:Program} {w:World} {A:Around} {E:Value->Shared->Prop} {s:Shared}
theorem B3{ep:Nat}{ks:List Int}(S:eZ prog w s.heap a o es ep t ks)(h:Q (!qT w&&(!t.plain&&decide (es.size>1))) s):wpAny (model prog w) A (setDrawn a) Q E s:=by
 unfold setDrawn;refine wpAny_bind (wpAny_setState_of S.at_ S.dat S.tab.fit ?_);dsimp only;exact wpAny_bind (kF (wpAny_pure h))
theorem uT{ep:Nat}{ks:List Int}(S:eZ prog w s.heap a o es ep t ks)(h:Q ep s):wpAny (model prog w) A (setEpoch a) Q E s:=wpAny_setEpoch_of S.at_ S.dat S.tab.fit h
theorem B4(hh:A.handled=none){ep:Nat}{ks:List Int}(S:eZ prog w s.heap a o es ep t ks)
  (hQ:∀(h':Heap) d (I:Addr) (fp:List Addr) (L:List (Int×Value)) (St:Nat->Heap->Prop),L.Perm es.toList->Walks prog w A I fp [I] L.length (PL L) St->St 0 h'->s.heap.objs.size<=I->I<h'.objs.size->(∀b∈fp,b=a\/s.heap.objs.size<=b)->(∀b o,s.heap.get? b=some o->h'.get? b=some o)->Q (.ref I) { s with heap:=h',drawn:=d }) :
  wpAny (model prog w) A (pyIter (.ref a)) Q E s:=by
 have hT:s.TypeIs (.ref a) "set":=⟨o,S.at_,S.ex.1⟩;have hlt:a<s.heap.objs.size:=lt_size S.at_;refine wpAny_pyIter_slot hT PySem.F.slot_set_iter (wpAny_call_entry PySem.F.slot_set_iter hT SI.xK ?_ (PySem.F.args_set_iter_1 _));unfold Builtin.«frozenset.__iter__» Builtin.Frozenset.slot0 Builtin.Frozenset.sizeOf;refine wpAny_bind (wpAny_bind (wpAny_pure (wpAny_pure ?_)));refine wpAny_bind (wpAny_bind (iD S.at_ S.dat S.tab.fit (wpAny_pure ?_)));refine wpAny_bind (B3 S ?_);cases hd:(!qT w&&(!t.plain&&decide (es.size>1))) with
 | false =>
  simp only[false_eq_true,↓reduceIte];refine wpAny_bind (wpAny_pure ?_);refine wpAny_bind (uT S ?_);refine wpAny_bind (wpAny_newObj_type (wpAny_pure ⟨_,rfl,"set_iterator",_,⟨_,get?_push_size _ rfl,rfl⟩,SI.slot_next.lookup,?_⟩));have e:s={ s with drawn:=s.drawn }:=by cases s;rfl
  have Vw:∀b∈[s.heap.objs.size,a],b=a\/s.heap.objs.size<=b:=λb hb=>by
   simp only[mem_cons,not_mem_nil,or_false] at hb
   rcases hb with rfl|rfl
   ·exact .inr (Nat.le_refl _)
   ·exact .inl rfl
  have sz:s.heap.objs.size<(s.heap.push { cls:=.type "set_iterator",data:=.fields ([rawInt 0,rawInt 0,.ref a,rawInt es.size,rawInt ep]:List Value).toArray }).objs.size:=by rw[size_push];exact lt_succ_self _
  cases hb:qT w with
  | true =>exact hQ _ s.drawn _ _ _ _ (rY _ _ 0 es.toList #[] (by simp)) (An hh (ne_of_lt hlt) hb) ⟨S.keep λo e=>get?_push_of_some _ e,⟨_,get?_push_size _ rfl,rfl,rfl⟩⟩ (Nat.le_refl _) sz Vw λb o e=>get?_push_of_some _ e
  | false =>rw[hb] at hd;exact hQ _ s.drawn _ _ _ _ (List.Perm.refl _) (Am hh (ne_of_lt hlt) hb (by simpa using hd)) ⟨S.keep λo e=>get?_push_of_some _ e,⟨_,get?_push_size _ rfl,rfl,rfl⟩⟩ (Nat.le_refl _) sz Vw λb o e=>get?_push_of_some _ e
 | true =>
  simp only[↓reduceIte];refine wpAny_bind (yE es.size (List.range es.size) s _ (by simp) λps d pp=>?_);refine wpAny_bind ?_;simp only[newTuple];refine wpAny_newObj_type ?_ (by show (toArray _).size<=sizeLine;rw[size_toArray,length_map,pp.length_eq,length_range];exact fits_of_scanBound S.tab.few);have S1:eZ prog w (s.heap.push { cls:=.type "tuple",data:=.seq (ps.map λ(i:Nat)=>rawInt i).toArray }) a o es ep t ks:=S.keep λo e=>get?_push_of_some _ e;refine wpAny_bind (uT S1 ?_);refine wpAny_bind (wpAny_newObj_type (wpAny_pure ⟨_,rfl,"set_iterator",_,⟨_,get?_push_size _ rfl,rfl⟩,SI.slot_next.lookup,?_⟩));have hpl:∀j∈ps,j<es.size:=λj hj=>by simpa using pp.mem_iff.mp hj
  have perm:(ps.map λj=>es.getD j (0,Value.none)).Perm es.toList:=by
   have e2:(List.range es.size).map (λj=>es.getD j (0,Value.none))=es.toList:=by
    apply ext_getElem
    ·simp
    ·intro i h1 h2
     have hi:i<es.size:=by simpa using h2
     simp[Array.getD,hi]
   rw[<-e2];exact pp.map _
  have z1:(s.heap.push { cls:=.type "tuple",data:=.seq (ps.map λ(i:Nat)=>rawInt i).toArray }).objs.size=s.heap.objs.size+1:=size_push _ _;have W:=xM (prog:=prog) (w:=w) (A:=A) (o:=o) (ep:=ep) (t:=t) (ks:=ks) hh (I:=s.heap.objs.size+1) (a:=a) (td:=s.heap.objs.size) (oT:={ cls:=.type "tuple",data:=.seq (ps.map λ(i:Nat)=>rawInt i).toArray }) (es:=es) (c:=0) (ps:=ps) (ne_of_lt (lt_succ_of_lt hlt)) (ne_of_lt (lt_succ_self _)) hpl rfl;rw[show ps.length=(ps.map λj=>es.getD j (0,Value.none)).length by simp] at W;rw[z1];refine hQ _ d _ _ _ _ perm W ⟨S1.keep λo e=>get?_push_of_some _ e,⟨{ cls:=.type "set_iterator",data:=.fields ([.ref s.heap.objs.size,rawInt 0,.ref a,rawInt es.size,rawInt ep]:List Value).toArray },?_,rfl,rfl⟩,get?_push_of_some _ (get?_push_size _ rfl)⟩ (le_succ _) ?_ ?_ λb o e=>get?_push_of_some _ (get?_push_of_some _ e)
  ·rw[<-z1];exact get?_push_size _ rfl
  ·rw[size_push,z1];exact lt_succ_self _
  ·intro b hb
   simp only[mem_cons,not_mem_nil,or_false] at hb
   rcases hb with rfl|rfl|rfl
   ·exact .inr (le_succ _)
   ·exact .inl rfl
   ·exact .inr (Nat.le_refl _)
end
end L2
end
section
namespace L2
open PySem PyProof.Rows
section
variable {prog:Program} {w:World} {A:Around} {E:Value->Shared->Prop} {s:Shared}
theorem B5(hT:s.TypeIs (.ref r) "set")(h:Q false s):wpAny (model prog w) A (Builtin.List.listLengthHint (.ref r)) Q E s:=by
 unfold Builtin.List.listLengthHint;refine wpAny_bind (wpAny_specialOf hT PySem.F.slot_set_len.lookup ?_);generalize hid:("set.__len__":String)=Xg
 wp_delta
 rw[show splitId Xg=some ("set","__len__") from by subst hid;decide +kernel];subst hid;refine wpAny_bind (wpAny_isInstance (T:="set") (b:=true) hT sub_set_self ?_);refine wpAny_ite_split (λz=>absurd z (by decide)) (λ_=>?_);refine wpAny_ite_split (λ_=>?_) (λz=>absurd (by decide +kernel) z);exact wpAny_bind (wpAny_typeOf hT (wpAny_pure h))
theorem uU(hh:A.handled=none){ep:Nat}{ks:List Int}(S:eZ prog w s.heap a o es ep t ks)
  (h:∀(h':Heap) (tk:Nat) d (L:List (Int×Value)),(∀b o,s.heap.get? b=some o->h'.get? b=some o)->s.heap.objs.size<h'.objs.size->L.Perm es.toList->R (L.map (·.2)) { s with heap:=h',toks:=tk,drawn:=d }) :
  wpAny (model prog w) A (collect (.ref a)) R E s:=by
 have hlt:a<s.heap.objs.size:=lt_size S.at_;unfold collect;refine wpAny_bind (wpAny_runValue (codeAny_builtin entry_proto_collect' ?_));rw[Around.under_plainId PySem.F.plain_proto_collect _];show wpAny _ A.in1 (newList [] >>= λl=>again (.builtin "list.__iadd__" ⟨[l,.ref a],[]⟩)) _ _ s;refine wpAny_bind (wpAny_newObj_type ?_);refine wpAny_pure ⟨plainId_quiet PySem.F.plain_list_iadd _,codeAny_builtin entry_list_iadd' ?_⟩;rw[Around.under_plainId PySem.F.plain_list_iadd _]
 let s1:Shared:={ s with heap:=s.heap.push { cls:=.type "list",data:=.seq ([]:List Value).toArray } }
 have l1:s1.heap.get? s.heap.objs.size=some { cls:=.type "list",data:=.seq #[] }:=get?_push_size _ rfl;have S1:eZ prog w s1.heap a o es ep t ks:=S.keep λo e=>get?_push_of_some _ e;have z1:s1.heap.objs.size=s.heap.objs.size+1:=size_push _ _;have hT:s1.TypeIs (.ref a) "set":=⟨o,S1.at_,S1.ex.1⟩;show wpAny _ A.in1 (Builtin.List.listExtendWith (.ref s.heap.objs.size) (.ref a) (.ref s.heap.objs.size)) _ _ s1;unfold Builtin.List.listExtendWith;refine wpAny_bind (wpAny_typeOf hT ?_);have n1:Builtin.List.listSameRef (.ref s.heap.objs.size) (.ref a)=false:=by simp[Builtin.List.listSameRef,Nat.ne_of_gt hlt]
 simp only[n1,show (Value.type "set" == Value.type "list")=false by decide,show (Value.type "set" == Value.type "tuple")=false by decide,Bool.or_false,false_eq_true,if_false];refine wpAny_bind (B4 (A:=A.in1) (by simp[hh]) S1 λh2 d I fp L St perm W st zI zI2 hfp k2=>?_);have l2:h2.get? s.heap.objs.size=some { cls:=.type "list",data:=.seq #[] }:=k2 _ _ l1;have nfp:s.heap.objs.size∉fp:=λz=>by
  rcases hfp _ z with e|e
  ·exact absurd e (Nat.ne_of_gt hlt)
  ·rw[z1] at e;exact absurd e (Nat.not_succ_le_self _)
 have hl:L.length<=sizeLine:=by rw[perm.length_eq,length_toList];exact fits_of_scanBound S.tab.few
 have key:∀(hp:Heap) (c₁:Nat) (Rr:Result->Shared->Prop),St 0 hp->(∀b o,b≠s.heap.objs.size->h2.get? b=some o->hp.get? b=some o)->hp.get? s.heap.objs.size=some { cls:=.type "list",data:=.seq #[] c₁ } ->
   (∀(s':Shared) (acc:Array Value) (c:Nat),s'.heap.get? s.heap.objs.size=some { cls:=.type "list",dict:=none,data:=.seq acc c,slots:=#[] }->R acc.toList s'->Rr (.ok (.ret (.ref s.heap.objs.size))) s') ->
   codeAny (model prog w) A (.builtin "list.extend.loop" ⟨[.ref s.heap.objs.size,.ref I,.ref s.heap.objs.size],[]⟩) Rr { s1 with heap:=hp,drawn:=d }:=by
  intro hp c₁ Rr hst hk hS hR;refine codeAny_extend_loopS W.toS hl s.heap.objs.size nfp (.ref s.heap.objs.size) L.length 0 _ #[] c₁ rfl (zero_le _) hst hS (ItemsOf.nil _) λs' acc c hm hS' hacc=>?_;refine hR s' acc c hS' ?_;have ea:acc.toList=L.map (·.2):=by
   apply ext_getElem
   ·rw[length_toList,hacc.1,length_map]
   ·intro j h1 h2
    have hj:j<acc.size:=by simpa using h1
    obtain⟨e,he,hv⟩:=hacc.2 j acc[j] (Array.getElem?_eq_getElem hj);rw[Array.getElem_toList,hv,getElem_map];obtain⟨hj2,e2⟩:=List.getElem?_eq_some_iff.mp he;rw[e2]
  rw[ea,Moved.eq_with hm];refine h s'.heap s'.toks d L (λb o e=>?_) (lt_size hS') perm;have hb:b<s.heap.objs.size:=lt_size e;refine hm.heap b o (λz=>?_) (hk b o (ne_of_lt hb) (k2 b o (get?_push_of_some _ e)))
  rcases mem_cons.mp z with z|z
  ·exact absurd z (ne_of_lt hb)
  ·rw[mem_singleton] at z;rw[z] at hb;rw[z1] at zI;exact absurd (lt_of_lt_of_le hb (Nat.le_of_succ_le zI)) (lt_irrefl _)
 have fin:∀(s':Shared) (acc:Array Value) (c:Nat),s'.heap.get? s.heap.objs.size=some { cls:=.type "list",dict:=none,data:=.seq acc c,slots:=#[] }->R acc.toList s'->wpAny (model prog w) A (load s.heap.objs.size >>= λob=>(match ob.data with|.seq xs _=>pure xs.toList|_=>unsupported "internal:collect")) R E s':=λs' acc c e q=>wpAny_bind (wpAny_load e (wpAny_pure q));refine wpAny_bind (wpAny_holding (B5 ⟨o,k2 _ _ S1.at_,S1.ex.1⟩ ?_));refine wpAny_ite_split (λ_=>?_) (λ_=>wpAny_pure ⟨plainId_quiet PySem.F.plain_extend_loop _,key _ 0 _ st (λb o _ e=>e) l2 fin⟩);refine wpAny_bind (wpAny_rule ?_);refine wpAny_bind ?_;show wpAny _ _ (updateSeq s.heap.objs.size (·.push .none) >>= λ_=>updateSeq s.heap.objs.size (·.pop)) _ _ _;refine wpAny_bind (wpAny_updateSeq l2 rfl ?_);have l3:=get?_update_self (Obj.mapSeq (·.push Value.none)) l2 rfl;refine wpAny_updateSeq (hz:=by seq_fits) l3 rfl ?_;have l4:=get?_update_self (Obj.mapSeq (·.pop)) l3 rfl;have oth:∀b o,b≠s.heap.objs.size->h2.get? b=some o->((h2.update s.heap.objs.size (Obj.mapSeq (·.push Value.none))).update s.heap.objs.size (Obj.mapSeq (·.pop))).get? b=some o:=λb o hb e=>(get?_update_other _ _ (Ne.symm hb)).trans ((get?_update_other _ _ (Ne.symm hb)).trans e);exact wpAny_pure ⟨plainId_quiet PySem.F.plain_extend_loop _,key _ _ _ (W.frame 0 _ _ st λb hb o e=>oth b o (λz=>nfp (z▸hb)) e) oth l4 fin⟩
end
end L2
end
section
namespace L2
open PySem PyProof.Rows
theorem uV:∀(ks ns:List Int),ks.Nodup->(∀k∈ks,k∈ns)->ks.length=ns.length->ks.Perm ns
 | [],ns,_,_,h=>by
  have:ns=[]:=List.eq_nil_of_length_eq_zero h.symm;subst this;exact List.Perm.refl _
 | k::ks,ns,nd,hs,hl=>by
  have hk:=hs k mem_cons_self;have Vx:=nodup_cons.mp nd;have p:=List.perm_cons_erase hk;refine(List.Perm.cons k (uV ks (ns.erase k) Vx.2 (λx hx=>?_) ?_)).trans p.symm
  ·exact(List.mem_erase_of_ne λz=>Vx.1 (by rw[<-z];exact hx)).mpr (hs x (mem_cons_of_mem _ hx))
  ·rw[List.length_erase_of_mem hk];simp only[length_cons] at hl;omega
noncomputable def uW:Value->Int
 | .int i _=>i
 | _=>0
section
variable {prog:Program} {w:World} {A:Around} {E:Value->Shared->Prop} {s:Shared}
theorem pO:∀{L:List (Int×Value)},ElemsOf (intKind prog w) L->IntsAre (L.map (·.2)) (L.map λe=>uW e.2)
 | [],_=>.nil
 | (h,v)::L,el=>by
  obtain⟨⟨k,hk,_⟩,_⟩:=el _ mem_cons_self;obtain⟨t,e⟩:=Value.isInt_shape (k:=k) (v:=v) hk;subst e;exact .cons k t (pO λx hx=>el x (mem_cons_of_mem _ hx))
theorem B6{h:Heap}{a:Addr}{o:Obj}{es:Array (Int×Value)}{ep:Nat}{t:SetTable}{ks:List Int}(S:eZ prog w h a o es ep t ks){L:List (Int×Value)}(p:L.Perm es.toList):(L.map λe=>uW e.2).Perm ks:=by
 refine(uV ks _ S.Vr (λk hk=>?_) ?_).symm
 ·obtain⟨e,he,q⟩:=(S.mem k).mp hk;obtain⟨t',ev⟩:=Value.isInt_shape (k:=k) (v:=e.2) q;exact mem_map.mpr ⟨e,p.mem_iff.mpr he,by rw[ev];rfl⟩
 ·have:=S.num;rw[length_map,p.length_eq,length_toList];exact this.symm
theorem xN(hh:A.handled=none){ep:Nat}{ks:List Int}(S:eZ prog w s.heap a o es ep t ks)(h64:ks.length<64)
  (hQ:∀(h':Heap) (tk:Nat) d (D:Addr) (out:List Value) (e:Nat),(∀b o,s.heap.get? b=some o->h'.get? b=some o)->s.heap.objs.size<=D->h'.get? D=some (seqObj "list" out.toArray e)->IntsAre out (PySem.W.sortI ks)->Q (.ref D) { s with heap:=h',toks:=tk,drawn:=d }) :
  wpAny (model prog w) A (call (.builtin "sorted") [.ref a]) Q E s:=by
 refine oJ.gH (O:=oJ.pI) (uU (A:=A.in1) (by simp[hh]) S λh' tk d L hk hz perm=>?_);have el:ElemsOf (intKind prog w) L:=S.el.perm perm;have hI:=pO el;have pk:=B6 S perm;have hl:(L.map (·.2)).length<64:=by rw[length_map];have:=pk.length_eq;rw[length_map] at this;omega
 refine⟨hl,λi=>(L.map λe=>uW e.2).getD i 0,λh2 h6 _=>oJ.pJ hI h2,λp h'' outs k2 he=>?_⟩;obtain⟨e,he⟩:=he;have lv:(L.map (·.2)).length=(L.map λe=>uW e.2).length:=by rw[length_map,length_map]
 have mem:∀i∈p,i<L.length:=λi hi=>by have:=outs.perm.mem_iff.mp hi;simpa using this
 have pn:(p.map λi=>(L.map λe=>uW e.2).getD i 0).Perm ks:=by have:=outs.perm.map λi=>(L.map λe=>uW e.2).getD i 0;rw[lv,oJ.eY] at this;exact this.trans pk
 have up:(p.map λi=>(L.map λe=>uW e.2).getD i 0).Pairwise (· <= ·):=by refine List.Pairwise.imp (R:=oJ.pI.kle) (λ{x y:Int} hxy=>?_) outs.up;have hxy:(decide (y<x):Bool)=false:=hxy;exact not_lt.mp (of_decide_eq_false hxy)
 have es:=eq_sortI pn up;refine hQ h'' tk d h'.objs.size _ e (λb o z=>k2 b o (hk b o z)) (Nat.le_of_lt hz) he ?_;rw[<-es];clear he es up pn outs
 induction p with
 | nil=>exact .nil
 | cons i r ih =>
  have hi:=mem i mem_cons_self;have hi2:i<(L.map (·.2)).length:=by simpa using hi
  obtain⟨t',ev⟩:=IntsAre.int_at hI i _ (List.getElem?_eq_getElem hi2);rw[map_cons,map_cons];have e1:(L.map (·.2)).getD i Value.none=.int ((L.map λe=>uW e.2).getD i 0) t':=by rw[<-ev];simp[List.getD,List.getElem?_eq_getElem hi]
  rw[e1];exact .cons _ t' (ih λj hj=>mem j (mem_cons_of_mem _ hj))
end
end L2
end
section
namespace L2
open PySem PySem.Spec PyProof.Rows
section
variable {X:Cx}
theorem Inv.draws(I:Inv X pins σ H s)(d:Drawn):Inv X pins σ H { s with drawn:=d }:=⟨I.ok,I.os,I.bare,I.base,I.loc,I.cell,I.free,I.jD,I.pin,I.hok,I.len⟩
noncomputable def Xh(K:PySem.W.Frag)(te:TE):TE:=λσ H Q=>te σ H λx H1=>∃p ns,x=.ref p/\iu K H1 p (ns.map V.int)/\ns.length<64/\∀l,H1 l=none->Q (.ref l) (upd H1 l (.lst ((PySem.W.sortI (eL [] ns)).map V.int)))
theorem uX:∀(ns ks:List Int),(eL ks ns).length<=ks.length+ns.length
 | [],ks=>by simp[eL]
 | n::ns,ks=>by
  rw[eL,length_cons];have:=uX ns (e7 ks n);have:=pL ks n;omega
theorem Fy{p1 p2 pos1 pos2:Pos}(hh:X.A.handled=none)(hg:Gl X "sorted")(hm:X.mg "sorted" = none)(Xi:Gl X "set")(hm2:X.mg "set" = none)(hv:bootBuiltins "sorted" = some (.builtin "sorted"))(hv2:bootBuiltins "set" = some (.type "set"))(he:PE X e te)
  (hs:starEach [e] X.env=[(false,eval e X.env)]):PE X (.Call (.Name "sorted" p1) [.Call (.Name "set" p2) [e] [] pos2] [] pos1) (Xh X.K te):=by
 intro pins s σ H Q I h;refine wpAny_Call_Name_kw (iB I hg hm hv ?_ (by decide) (by decide));refine PyProof.Rows.callWith_builtin1 ?_ rfl rfl;show wpAny _ _ (spliced [(false,eval (.Call (.Name "set" p2) [e] [] pos2) X.env)]) _ _ s;refine Calls.spliced_cons ?_;refine wpAny_Call_Name_kw (iB I Xi hm2 hv2 ?_ (by decide) (by decide));refine PyProof.Rows.callWith_type1 ?_ hs rfl;show wpAny _ _ (spliced (backTo pos2 (starEach [e] X.env))) _ _ s;rw[hs];show wpAny _ _ (spliced [(false,eval e X.env)]) _ _ s;refine Calls.spliced_cons (cG (he pins s σ H _ I h) λu s1 ⟨x,H1,I1,r1,p,ns,ex,hq,h64,q⟩=>Calls.spliced_nil ?_);subst ex;cases r1;obtain⟨its,rv,pl,hz⟩:=I1.list hq;have hi:=intsAre_of rv;have hl:=hi.length;refine uS hh pl.isList (by simpa using hi) (by show its.toArray.size+1<4096;rw[size_toArray,hl];omega) λh2 tk S k2=>?_;obtain⟨o,es,ep,t,S⟩:=S;refine Calls.spliced_nil ?_;have hk:=uX ns [];have RZ:(eL [] ns).length<64:=by simp at hk;omega
 refine xN (s:={ s1 with heap:=h2,toks:=tk }) hh S RZ λh3 Xj d D out e k3 zD eD hout=>?_;have hD:s1.heap.objs.size<=D:=le_trans (Nat.le_of_lt (lt_size S.at_)) zD;have hn:H1 D=none:=I1.hok.fresh hD;refine⟨.ref D,_,(I1.draws d).laid (t':=Xj) (λb o z=>k3 b o (k2 b o (lt_size z) z)) hD (show bE X.prog X.w _ _ _ (.lst ((PySem.W.sortI (eL [] ns)).map V.int)) from⟨?_,out,e,iS hout,eD⟩),rfl,q _ hn⟩;rw[length_map,(sortI_perm _).length_eq,sizeLine_eq];omega
end
end L2
end
section
namespace L2
open PySem PySem.Spec PyProof.Rows PySem.W
section
variable {X:Cx}
noncomputable def Vy(to:TE):TE:=λσ H Q=>to σ H λx H1=>∃a kvs,x=.ref a/\H1 a=some (.dK kvs)/\∀l,H1 l=none->Q (.ref l) (upd H1 l (.lst (kvs.map λkv=>kV kv.1)))
theorem J2(e:(aY P w).is k u=true):RelV (kV k) u:=by
 rw[wL] at e
 rcases bI e with ⟨i,t,rfl,rfl⟩|⟨x,t,rfl,rfl⟩
 ·exact⟨t,rfl⟩
 ·exact⟨t,rfl⟩
theorem ng:∀{kvs:List (Key×V)} {vs:List (Key×Value)} {out:List Value},KV kvs vs->out.length=vs.length->(∀(j:Nat) (v:Value),out[j]?=some v->∃(k:Key) (x:Value),vs[j]?=some (k,x)/\(aY P w).is k v=true)->Vals (kvs.map λkv=>kV kv.1) out
 | [],vs,out,r,hl,h=>by
  cases r;cases out with
  | nil=>exact .nil
  | cons _ _=>simp at hl
 | p::kvs,vs,out,r,hl,h=>by
  cases r with
  | @cons _ q _ qs hq t =>
   cases out with
   | nil=>simp at hl
   | cons v out =>
    obtain⟨k,x,e1,e2⟩:=h 0 v rfl;simp at e1;refine .cons ?_ (ng t (by simpa using hl) λj u hu=>h (j+1) u hu);have:p.1=k:=by rw[hq.1,e1]
    show RelV (kV p.1) v;rw[this];exact J2 e2
end
end L2
end
section
namespace L2
open PySem PySem.Spec PyProof.Rows PySem.W
section
variable {X:Cx} {pins:List (Addr×Obj)} {σ:St} {H:Hp} {s:Shared} {a:Addr} {kvs:List (Key×V)} {k:Key} {u r:Value} {z:V} {A:Around} {E:Value->Shared->Prop}
end
end L2
end
section
namespace L2
open PySem PySem.Spec PyProof.Rows
section
open PySem.AutoSeq1 (wpAny_loadPart')
open PySem.MeetsSeq PySem.MeetsSeq3
end
end L2
end
section
namespace L2
open PySem PySem.Spec PyProof.Rows PySem.W
section
variable {X:Cx}
end
end L2
end
section
namespace L2
open PySem PySem.Spec PyProof.Rows PySem.W
section
variable {X:Cx}
end
end L2
end
section
namespace L2
open PySem PySem.Spec PyProof.Rows PySem.W
section
variable {X:Cx}
noncomputable def Vz(to:TE):TE:=λσ H Q=>to σ H λx H1=>∃(a:Addr) (kvs:List (Key×V)) (ns:List Int),x=.ref a/\H1 a=some (.dK kvs)/\kvs.map (·.1)=ns.map Sum.inl/\ns.length<64/\∀l,H1 l=none->Q (.ref l) (upd H1 l (.lst ((PySem.W.sortI ns).map V.int)))
theorem r8{ns:List Int}(hI:IntsAre vs ns):∀(p:List Nat),(∀i∈p,i<ns.length)->IntsAre (p.map λi=>vs.getD i Value.none) (p.map λi=>ns.getD i 0)
 | [],_=>.nil
 | i::r,mem=>by
  have hi:=mem i mem_cons_self;have hi2:i<vs.length:=by rw[hI.length];exact hi
  obtain⟨t',ev⟩:=IntsAre.int_at hI i _ (List.getElem?_eq_getElem hi2);rw[map_cons,map_cons];have e1:vs.getD i Value.none=.int (ns.getD i 0) t':=by rw[<-ev];simp[List.getD,List.getElem?_eq_getElem hi2]
  rw[e1];exact .cons _ t' (r8 hI r λj hj=>mem j (mem_cons_of_mem _ hj))
end
end L2
end
section
namespace L2
open PySem PySem.Spec PyProof.Rows
end L2
end
section
namespace L2
open PySem PySem.Spec PyProof.Rows
section
variable {X:Cx}
theorem nh
  (hbase:attributeBase o m env (eval o env)=eval o env)
  (hfew:((backTo cp (starEach args env)).all (λx=>!x.1)&&(backToKw cp (keywordEach [] env)).all (λx=>x.1.isSome)
   && decide (args.length+([]:List Keyword).length+(if ([]:List Keyword).isEmpty then 0 else 1)<30))=true) (hline:(ap.endLine==cp.line)=true)
  (h:wpAny M A (eval o env) (λov s₁=>∀pl,wpAny M A (getMethod ov m pl) (λfx s₂=>wpAny M A (callWith cp fx.1 fx.2 (backTo cp (starEach args env)) (backToKw cp (keywordEach [] env))) Q E s₂) E s₁) E s) :
  wpAny M A (eval (.Call (.Attribute o m ap) args [] cp) env) Q E s:=by
 rw[arm_eval_Call,hbase];refine wpAny_bind (wpAny_mono h (λov s₁ h₁=>?_) λ_ _ e=>e);refine wpAny_bind (wpAny_standAt ?_);have NU:methodCallForm (args.length+([]:List Keyword).length) (backTo cp (starEach args env)) (backToKw cp (keywordEach [] env))=true:=hfew;have hpos:methodCallPos true o env ap cp=pure cp:=by unfold methodCallPos;simp[hline]
 unfold methodCall;rw[NU];refine wpAny_bind (wpAny_holding (wpAny_mono (h₁ _) (λfx s₂ h₂=>?_) λ_ _ e=>e));exact wpAny_bind (wpAny_of_eq hpos h₂)
theorem pe_mthD{k:Nat}(he:PE X o ta)(ha:PA X (l::ls) t)(hbase:attributeBase o m X.env (eval o X.env)=eval o X.env)
  (hfew:((backTo cp (starEach (l::ls) X.env)).all (λx=>!x.1)&&(backToKw cp (keywordEach [] X.env)).all (λx=>x.1.isSome)
   && decide ((l::ls).length+([]:List Keyword).length+(if ([]:List Keyword).isEmpty then 0 else 1)<30))=true) (hline:(ap.endLine==cp.line)=true) (hr:dQ k X.A)
  (st:starEach (l::ls) X.env=(false,eval l X.env)::starEach ls X.env) (an:(backTo cp (starEach ls X.env)).any (·.1)=false) :
  PE X (.Call (.Attribute o m ap) (l::ls) [] cp) (λσ H Q=>ta σ H λx H1=>∃a C dx fs f fd ps sp,x=.ref a/\H1 a=some (.ins C dx fs)/\zY X.K C/\Meth X.K C m f/\fs.lookup m=none/\Binds X.K fd ps [] /\
   fz X.prog X.w X.K X.mg X.base wI k f fd ps sp/\t σ H1 λvs H2=>sp (x::vs) H2 Q E0):=by
 intro pins s σ H Q I h;refine nh hbase hfew hline (cG (he pins s σ H _ I h) λu s1 aE pl=>?_);obtain⟨x,H1,I1,rx,a,C,dx,fs,f,fd,ps,sp,ex,ea,c,hm,ln,hb,F,q⟩:=aE;subst ex;obtain rfl:u=Value.ref a:=rx;refine o6 I1 ea c hm ln ?_;refine callWith_K (first:=[.ref a]) (h₀:=X.base) I.ok.mod.ME hm.kp (cG (ha cp pins s1 σ H1 _ I1 q) λus s2 ⟨vs,H2,I2,r,q2⟩=>⟨I2.jE,?_⟩) st an;exact o7 (us:=.ref a::us) (vs:=.ref a::vs) (qO:=[]) (ds:=[]) F hr hb .nil pD I2 (.cons rfl r) (by rw[append_nil];exact q2)
theorem pe_mth0{k:Nat}(he:PE X o ta)(hbase:attributeBase o m X.env (eval o X.env)=eval o X.env)
  (hline:(ap.endLine==cp.line)=true) (hr:dQ k X.A) :
  PE X (.Call (.Attribute o m ap) [] [] cp) (λσ H Q=>ta σ H λx H1=>∃a C dx fs f fd ps sp,x=.ref a/\H1 a=some (.ins C dx fs)/\zY X.K C/\Meth X.K C m f/\fs.lookup m=none/\Binds X.K fd ps [] /\
   fz X.prog X.w X.K X.mg X.base wI k f fd ps sp/\sp [x] H1 Q E0):=by
 intro pins s σ H Q I h;refine nh hbase rfl hline (cG (he pins s σ H _ I h) λu s1 aE pl=>?_);obtain⟨x,H1,I1,rx,a,C,dx,fs,f,fd,ps,sp,ex,ea,c,hm,ln,hb,F,q⟩:=aE;subst ex;obtain rfl:u=Value.ref a:=rx;refine o6 I1 ea c hm ln ?_;exact callWith_K0 (first:=[.ref a]) I1.jE hm.kp (o7 (us:=[.ref a]) (vs:=[.ref a]) (qO:=[]) (ds:=[]) F hr hb .nil pD I1 (.cons rfl .nil) q)
theorem J3:jP X (compareOp .Is) (λx y H Q=>∃b c,x=.bl b/\y=.bl c/\Q (.bl (b==c)) H):=by
 intro pins s σ H x y v u Q I rx ry h;obtain⟨b,c,rfl,rfl,q⟩:=h;cases rx;cases ry;refine wpAny_is_plain rfl (mR I q ?_);cases b<;>cases c<;>rfl
theorem Fz:jP X (compareOp .IsNot) (λx y H Q=>∃b c,x=.bl b/\y=.bl c/\Q (.bl (!(b==c))) H):=by
 intro pins s σ H x y v u Q I rx ry h;obtain⟨b,c,rfl,rfl,q⟩:=h;cases rx;cases ry;refine wpAny_isNot_plain rfl (mR I q ?_);cases b<;>cases c<;>rfl
end
end L2
end
section
namespace L2
open PySem PySem.Spec PyProof.Rows PySem.W
section
variable {X:Cx}
theorem NV{t':Nat}(I:Inv X pins σ H s)(k:∀b u,s.heap.get? b=some u->h'.get? b=some u)(hp:s.heap.get? a=none)(hn:H a=none)(new:bE X.prog X.w (upd H a o) h' a o) :
  Inv X pins σ (upd H a o) { s with heap:=h',toks:=t' }:=by
 refine I.un ⟨λb u q _ _ _=>k b u q,λb u q _ _ _=>⟨u.slots,k b u q⟩,λb u q n _=>?_,λb u q _=>⟨u,k b u q⟩,λb xs q=>by rw[aA (aG q hn)];exact q,λb u xs q=>by rw[aA (aG q hn)];exact q,λb ps q=>⟨#[],by rw[aA (aG q hn),q];simp⟩⟩ λb u e=>?_
 ·rw[aA λz=>by rw[z,hp] at q;cases q];exact n
 ·by_cases hb:b=a
  ·subst hb;rw[aV] at e;cases e;exact new
  ·rw[aA hb] at e;exact(I.hok b u e).stay (λc v _ q=>k c v q) (λc q=>by rw[aA (aG q hn)];exact q) λc xs q=>by rw[aA (aG q hn)];exact q
noncomputable def Xk(K:PySem.W.Frag)(te:TE)(ts:TO):TE:=λσ H Q=>te σ H λx H1=>ts σ H1 λi H2=>i=some (-1)/\∃a xs,x=.ref a/\iu K H2 a xs/\∀p,H2 p=none->Q (.ref p) (upd H2 p (.lst xs.reverse))
theorem uY:∀{xs:List V} {its:List Value},Vals xs its->Vals xs.reverse its.reverse
 | [],_,h=>by cases h;exact .nil
 | x::r,_,h=>by
  cases h with
  | cons a t =>rw[reverse_cons,reverse_cons];exact Vals.append (uY t) (.cons a .nil)
theorem J4{e st:Expr}{te:TE}{ts:TO}{p2 pos:Pos}(he:PE X e te)(hs:PO X (some st) ts):PE X (.Subscript e (.Slice none none (some st) p2) pos) (Xk X.K te ts):=by
 intro pins s σ H Q I h;refine Subscript_ (cG (he pins s σ H _ I h) λv s1 aE=>?_);obtain⟨x,H1,I1,r1,q1⟩:=aE;refine wpAny_Slice ?_;rw[evalPart_none];refine wpAny_pure ?_;refine wpAny_pure ?_;refine cG (hs pins s1 σ H1 _ I1 q1) λvk s3 aE=>?_;obtain⟨k,H3,I3,pk,q3⟩:=aE;obtain⟨rfl,a,xs,rfl,hx,q⟩:=q3;cases r1;have I4:Inv X pins σ H3 { s3 with heap:=s3.heap.push { cls:=.type "slice",data:=.fields #[.none,.none,vk] } }:=I3.kept (t':=s3.toks) λb ob q=>get?_push_of_some _ q;obtain⟨its,r,ht,hz⟩:=I4.list hx;have hlen:=r.length;show wpAny (model X.prog X.w) X.A (subscriptTail e (.Slice none none (some st) p2) (.ref a) (.ref s3.heap.objs.size)) (EP X pins σ Q) X.xe { s3 with heap:=s3.heap.push { cls:=.type "slice",data:=.fields #[.none,.none,vk] } };refine tail_any (ops:=[.ref a,.ref s3.heap.objs.size]) ht.isList.typeIs slot_list_getitem.lookup ?_ (by with_unfolding_all rfl);refine wpAny_getItem_list_slice ht.isList (Heap.IsSliceOf.new ..) .none .none pk (by decide) ?_ (by rw[size_toArray]<;>omega);rw[PySem.W.krv_pick];refine⟨.ref _,_,I4.laid (t':=s3.toks) (o:=.lst xs.reverse) (λb ob q=>get?_push_of_some _ q) (Nat.le_refl _) ?_,rfl,q _ (I4.hok.fresh (Nat.le_refl _))⟩;exact⟨by rw[List.length_reverse];exact hz,_,0,uY r,get?_push_size _ rfl⟩
theorem Ao(hh:X.A.handled=none)(hst:starEach [o] X.env=[(false,eval o X.env)])(hg:Gl X "list")(hm:X.mg "list" = none)(hv:bootBuiltins "list" = some (.type "list"))(ho:PE X o to):PE X (.Call (.Name "list" p) [o] [] pos) (Vy to):=by
 intro pins s σ H Q I h;refine wpAny_Call_Name_kw (iB I hg hm hv ?_ (by decide) (by decide));refine PyProof.Rows.callWith_type1 ?_ hst rfl;rw[hst];show wpAny _ _ (spliced [(false,eval o X.env)]) _ _ s;refine Calls.spliced_cons ?_;refine cG (ho pins s σ H _ I h) λu s1 aE=>?_;obtain⟨x,H1,I1,r1,a,kvs,ex,ea,q⟩:=aE;subst ex;cases r1;obtain⟨t1,t2,hd⟩:=xy I1 (.inl ⟨kvs,.inl ea⟩);obtain⟨hz,_,vs,rel,dd⟩:=yy I1.hok ea;refine Calls.spliced_nil ?_;obtain⟨ep,da⟩:=dd.dictAt;have hlen:=rel.length;refine kdl_call (kdl_dict (knd:=aY X.prog X.w) (kvs:=vs) (ep:=ep) (d:=a) hd) hh da (by rw[<-hlen];exact hz) λh' tk acc c k2 eD hacc=>?_;have hn:H1 s1.heap.objs.size=none:=I1.hok.fresh (Nat.le_refl _);refine⟨.ref _,_,I1.laid (t':=tk) (λb o z=>k2 b o z) (Nat.le_refl _) (show bE X.prog X.w _ _ _ (.lst (kvs.map λkv=>kV kv.1)) from⟨?_,acc.toList,c,?_,?_⟩),rfl,q _ hn⟩
 ·rw[length_map];exact hz
 ·exact ng (P:=X.prog) (w:=X.w) rel (by rw[length_toList];exact hacc.1) λj v e=>hacc.2 j v (by rw[<-getElem?_toList];exact e)
 ·first|(rw[Array.toArray_toList];exact eD)|simpa using eD
theorem Aq(hh:X.A.handled=none)(hst:starEach [o] X.env=[(false,eval o X.env)])(hg:Gl X "sorted")(hm:X.mg "sorted" = none)(hv:bootBuiltins "sorted" = some (.builtin "sorted"))(ho:PE X o to):PE X (.Call (.Name "sorted" p) [o] [] pos) (Vz to):=by
 intro pins s σ H Q I h;refine wpAny_Call_Name_kw (iB I hg hm hv ?_ (by decide) (by decide));refine PyProof.Rows.callWith_builtin1 ?_ hst rfl;rw[hst];show wpAny _ _ (spliced [(false,eval o X.env)]) _ _ s;refine Calls.spliced_cons ?_;refine cG (ho pins s σ H _ I h) λu s1 aE=>?_;obtain⟨x,H1,I1,r1,a,kvs,ns,ex,ea,ens,h64,q⟩:=aE;subst ex;cases r1;obtain⟨t1,t2,hd⟩:=xy I1 (.inl ⟨kvs,.inl ea⟩);obtain⟨hz,_,vs,rel,dd⟩:=yy I1.hok ea;refine Calls.spliced_nil ?_;obtain⟨ep,da⟩:=dd.dictAt;have hlen:=rel.length;refine oJ.gH (O:=oJ.pI) (kdu_collect (A:=X.A.in1) (kdl_dict (knd:=aY X.prog X.w) (kvs:=vs) (ep:=ep) (d:=a) hd) (by simp[hh]) da (by rw[<-hlen];exact hz) λh' tk acc k1 hacc=>?_);have hV:Vals (kvs.map λkv=>kV kv.1) acc.toList:=ng (P:=X.prog) (w:=X.w) rel (by rw[length_toList];exact hacc.1) λj v e=>hacc.2 j v (by rw[<-getElem?_toList];exact e);have hk:(kvs.map λkv=>kV kv.1)=ns.map V.int:=by have:=congrArg (List.map kV) ens;rw[map_map,map_map] at this;exact this
 rw[hk] at hV;have hI:=intsAre_of hV;have lv:=hI.length;have hN:∀b o,s1.heap.get? b=some o->b≠h'.objs.size:=λb o e z=>by
  have q:=lt_size (k1 b o e);rw[z] at q;exact lt_irrefl _ q
 refine⟨by rw[lv];exact h64,λi=>ns.getD i 0,λh2 h6 _=>oJ.pJ hI h2,λpp h'' outs k' he=>?_⟩;obtain⟨e,he⟩:=he;have mem:∀i∈pp,i<ns.length:=λi hi=>by have:=outs.perm.mem_iff.mp hi;rw[lv] at this;simpa using this
 have pn:(pp.map λi=>ns.getD i 0).Perm ns:=by have:=outs.perm.map λi=>ns.getD i 0;rw[lv,oJ.eY] at this;exact this
 have up:(pp.map λi=>ns.getD i 0).Pairwise (· <= ·):=by refine List.Pairwise.imp (R:=oJ.pI.kle) (λ{x y:Int} hxy=>?_) outs.up;have hxy:(decide (y<x):Bool)=false:=hxy;exact not_lt.mp (of_decide_eq_false hxy)
 have es:=eq_sortI pn up;have hout:=r8 hI pp mem;rw[es] at hout;dsimp only at k' he |-;have hl:s1.heap.get? h'.objs.size=none:=by
  cases e:s1.heap.get? h'.objs.size with
  | none=>rfl
  | some o=>exact absurd rfl (hN _ o e)
 have hn:H1 h'.objs.size=none:=(lu.kept I1.hok k1).fresh (Nat.le_refl _);refine⟨.ref h'.objs.size,_,NV I1 (t':=tk) (λb o z=>k' b o (k1 b o z)) hl hn (show bE X.prog X.w _ _ _ (.lst ((PySem.W.sortI ns).map V.int)) from⟨?_,_,e,iS hout,he⟩),rfl,q _ hn⟩;rw[length_map,(sortI_perm _).length_eq,sizeLine_eq];omega
end
end L2
end
section
namespace L2
open PySem PySem.Spec PyProof.Rows PySem.W
section
variable {X:Cx}
structure J5 (K:PySem.W.Frag) (C:Addr) (m:Str) (f:Addr):Prop where
 ga:specialIn K (.ref C) "__getattribute__" = some (some (.builtin "type.__getattribute__"))
 rd:readsIn K C (.type "type")=true
 at_:findCls K (.ref C) (.type "type") m=some (.val (.ref f))
 kp:keepIn K (.ref f)=true
theorem J6{k:Nat}(F:fz X.prog X.w X.K X.mg X.base wI k f fd ps sp)(hr:dQ k X.A)(hg:Gl X x)(hm:X.mg x=some (.ref C))(c:J5 X.K C m f)(hb:Binds X.K fd ps [])
  (ha:PA X (l::ls) t) (hd:(x==("__debug__":Str))=false)
  (hfew:((backTo cp (starEach (l::ls) X.env)).all (λx=>!x.1)&&(backToKw cp (keywordEach [] X.env)).all (λx=>x.1.isSome)
   && decide ((l::ls).length+([]:List Keyword).length+(if ([]:List Keyword).isEmpty then 0 else 1)<30))=true) (hline:(ap.endLine==cp.line)=true)
  (st:starEach (l::ls) X.env=(false,eval l X.env)::starEach ls X.env) (an:(backTo cp (starEach ls X.env)).any (·.1)=false) :
  PE X (.Call (.Attribute (.Name x np) m ap) (l::ls) [] cp) (λσ H Q=>t σ H λvs H1=>sp vs H1 Q E0):=by
 intro pins s σ H Q I h;refine nh rfl hfew hline (kC I hg hm (λpl=>?_) hd);refine PySem.W.method_cls I.jE c.ga (PySem.W.cls_value I.jE c.rd c.at_ rfl ?_);refine callWith_K (first:=[]) (h₀:=X.base) I.ok.mod.ME c.kp (cG (ha cp pins _ σ H _ (I.tok _) h) λus s2 ⟨vs,H2,I2,r,q2⟩=>⟨I2.jE,?_⟩) st an;exact o7 (us:=us) (vs:=vs) (qO:=[]) (ds:=[]) F hr hb .nil pD I2 r (by rw[append_nil];exact q2)
structure VA (K:PySem.W.Frag) (C:Addr):Prop where
 ha:findIn K (.ref C) "__class__" = some (some (.builtin "object.__class__"))
 hn:specialIn K (.builtin "object.__class__") "__get__" = some (some (.builtin "getset_descriptor.__get__"))
 htk:takesIn K (.builtin "object.__class__")=some true
 hm:PySem.W.mroIn K C (.type "object")=some true
theorem B7:cS X (.builtin "isinstance") (λxs H Q=>∃(x:V) (t:Value) (b:Bool),xs=[x,.ref C]/\mV X.K H x t/\kitOne X.K t (.ref C)=some b/\Q (.bl b) H):=by
 intro pins s σ H xs us Q I r h;obtain⟨x,t,b,rfl,ty,e,q⟩:=h;obtain⟨u,w',rfl,r1,r2⟩:=vals2 r;cases r2;exact zZ I r1 ty e λtk=>⟨.bl b,H,I.tok _,rfl,q⟩
end
end L2
end
section
namespace Hv
open PySem L2 PyProof.Rows
inductive Val
 | non|bl (b:Bool)|int (i:Int)|str (x:Str)|tup (vs:List Val)|rl (vs:List Val)|dc (ks:List Key) (vs:List Val)|ob (c:Nat) (xs:List Str) (vs:List Val)|ref (i:Nat)
inductive Ob
 | lst (xs:List Val)|dct (kvs:List (Key×Val))|ins (c:Nat) (fs:List (Str×Val))
noncomputable abbrev Hs:=List Ob
inductive Out (α:Type)
 | ok (a:α) (h:Hs)|exc (c:Nat) (vs:List Val) (h:Hs)|no
noncomputable abbrev M(α:Type):=Hs->Out α
noncomputable def ret{α:Type}(a:α):M α:=λh=>.ok a h
noncomputable def bnd{α β:Type}(m:M α)(f:α -> M β):M β:=λh=>match m h with
 | .ok a h'=>f a h'
 | .exc c vs h'=>.exc c vs h'
 | .no=>.no
noncomputable def bh{α:Type}(o:Option α):M α:=λh=>match o with
 | some a=>.ok a h
 | none=>.no
noncomputable def ask{α:Type}(f:Hs->Option α):M α:=λh=>bh (f h) h
noncomputable def new(o:Ob):M Val:=λh=>.ok (.ref h.length) (h++[o])
noncomputable def put(i:Nat)(o:Ob):M Unit:=λh=>.ok () (h.set i o)
noncomputable def cD{α β:Type}(f:α -> Option β):List α -> Option (List β)
 | []=>some []
 | a::r=>(f a).bind λb=>(cD f r).bind λbs=>some (b::bs)
inductive FA|add|sub|mul|fdiv|mod|pow
 deriving DecidableEq
inductive J7|eq|ne|lt|le|gt|ge|isn|ntn|uZ|nin
 deriving DecidableEq
inductive Bl|len|min|max|sorted|list|tuple|str|int|all|any|isin (T:String)
 deriving DecidableEq
inductive Me|join|append|extend
 deriving DecidableEq
inductive xO|one (i:Nat)|tup (is:List Nat)
 deriving DecidableEq
inductive Ik|seq|range|enum|zip
 deriving DecidableEq
mutual
inductive IE
 | var (i:Nat)|cst (d:Val)|con (x:Str) (d:Val)|no
 | bin (o:FA) (a b:IE)|neg (a:IE)|cmp (o:J7) (a b:IE)|chn (o p:J7) (a b c:IE)
 | and (a b:IE)|or (a b:IE)|not (a:IE)|ite (c a b:IE)
 | tup (es:nV)|lst (es:nV)|idx (a b:IE)|slc (a lo hi:IE)
 | call (j:Nat) (es:nV)|blt (b:Bl) (es:nV)|met (m:Me) (a:IE) (es:nV)
 | comp (N:List Str) (js:List (Option Nat)) (pat:xO) (k:Ik) (it:nV) (c elt:IE)
 | dct0
 | sset (a:IE)
 | dget (d k x:IE)
 | dct1 (k v:IE)
 | lkeys (d:IE)
 | sdef (d k x:IE)
 | svals (d:IE)
 | skeys (d:IE)
 | fld (n:Nat) (a:IE) (x:Str)
 | mth (a:IE) (m:Str) (js:List (Nat×Nat)) (es:nV)
 | rev (a s:IE)
 | dflt (N:List Str) (js:List (Option Nat)) (p q:Nat) (d w:IE)
 | isc (a:IE) (x:Str) (bs:List Bool)
inductive nV|nil|cons (e:IE) (es:nV)
end
noncomputable abbrev Env:=List (Option Val)
mutual
inductive IS
 | expr (e:IE)|asg (p:xO) (e:IE)|aug (i:Nat) (o:FA) (e:IE)|e8 (o i v:IE)
 | iff (c:IE) (a b:fy)|for (p:xO) (k:Ik) (it:nV) (body:fy)|whl (n:Nat) (c:IE) (body:fy)
 | ret (e:IE)|FD|brk|cnt|pass|never|setF (n:Nat) (a:IE) (x:Str) (v:IE)
inductive fy|nil|cons (s:IS) (r:fy)
end
noncomputable def aD(h:Hs):Val->Option (List Val)
 | .rl vs=>some vs
 | .ref i=>match h[i]? with
  | some (.lst xs)=>some xs
  | _=>none
 | _=>none
noncomputable def dD(h:Hs):Val->Option (List Val)
 | .tup vs=>some vs
 | v=>aD h v
noncomputable def u5(h:Hs):Val->Option (List Val)
 | .tup vs=>some vs
 | .ref i=>aD h (.ref i)
 | _=>none
noncomputable def aT:List Val->Option (List Int):=cD λv=>match v with
 | .int i=>some i
 | _=>none
noncomputable def strs?:List Val->Option (List Str):=cD λv=>match v with
 | .str i=>some i
 | _=>none
noncomputable def R0:List Val->Option (List Bool):=cD λv=>match v with
 | .bl i=>some i
 | _=>none
noncomputable def kX:List Val->Option (List (List Int)):=cD λv=>match v with
 | .tup vs=>if vs.isEmpty then none else aT vs
 | _=>none
noncomputable def toD:Nat->Hs->Val->Option PyData
 | 0,_,_=>none
 | _+1,_,.non=>some .none
 | _+1,_,.bl b=>some (.bool b)
 | _+1,_,.int i=>some (.int i)
 | _+1,_,.str x=>if PyData.strOk x=true then some (.str x) else none
 | n+1,h,.tup vs=>(cD (toD n h) vs).bind λds=>some (.tuple ds)
 | n+1,h,.rl vs=>(cD (toD n h) vs).bind λds=>some (.list ds)
 | _+1,_,.dc _ _=>none
 | _+1,_,.ob _ _ _=>none
 | n+1,h,.ref i=>(aD h (.ref i)).bind λxs=>(cD (toD n h) xs).bind λds=>some (.list ds)
noncomputable def Be(h:Hs)(v w:Val):Option Bool:=(toD 16 h v).bind λd=>(toD 16 h w).bind λe=>some (PyData.eqv d e)
noncomputable def tF(x:List Int):List (List Int)->List (List Int)
 | []=>[x]
 | y::r=>if HT.lexLt y x=true then y::tF x r else x::y::r
noncomputable def lV:List (List Int)->List (List Int)
 | []=>[]
 | x::r=>tF x (lV r)
noncomputable def lW(ks:List Int):Val:=.tup (ks.map .int)
noncomputable def fU(xs:List Val):Option (List Val) :=
 if xs.length<64 then
  match aT xs with
  | some ns=>some ((PySem.W.sortI ns).map .int)
  | none=>(kX xs).bind λoK=>some ((lV oK).map lW)
 else none
noncomputable def tG:List Int->Option Val
 | []=>none
 | a::r=>some (.int (r.foldl min a))
noncomputable def tH:List Int->Option Val
 | []=>none
 | a::r=>some (.int (r.foldl max a))
noncomputable def jV(i j:Int):Bool:=(decide (-(2 ^ 64)<i)&&decide (i<2 ^ 64))||(decide (-(2 ^ 64)<j)&&decide (j<2 ^ 64))
noncomputable def aC{α:Type}(c:Bool)(m:M α):M α:=λh=>if c=true then m h else .no
noncomputable def ic(b:Int):Bool:=decide (0<b/\b<1606938044258990275541962092341162602522202993782792835301376)
noncomputable def HQ:FA->Val->Val->M Val
 | .add,.int a,.int b=>ret (.int (a+b))
 | .add,.str a,.str b=>aC (decide (a.length+b.length<=sizeLine)) (ret (.str (a++b)))
 | .add,.tup a,.tup b=>aC (!a.isEmpty&&decide (a.length+b.length<=sizeLine)) (ret (.tup (a++b)))
 | .add,v,w=>bnd (ask λh=>aD h v) λa=>bnd (ask λh=>aD h w) λb=>aC (decide (a.length+b.length<=sizeLine)) (new (.lst (a++b)))
 | .sub,.int a,.int b=>ret (.int (a-b))
 | .mul,.int a,.int b=>aC (jV a b) (ret (.int (a*b)))
 | .fdiv,.int a,.int b=>aC (ic b) (ret (.int (a/b)))
 | .mod,.int a,.int b=>aC (decide (0<b)) (ret (.int (a%b)))
 | .pow,.int a,.int b=>aC (decide (0<=b/\b<=1000000/\a.natAbs<2 ^ 64)) (ret (.int (a ^ b.toNat)))
 | _,_,_=>bh none
noncomputable def pP:Val->Bool
 | .non=>true
 | _=>false
noncomputable def bV(kvs:List (Key×Val))(k:Key):Option Val:=(kvs.find? λkv=>decide (kv.1=k)).map (·.2)
noncomputable def gI(kvs:List (Key×Val))(k:Key)(v:Val):List (Key×Val) :=
 if (kvs.any λkv=>decide (kv.1=k))=true then kvs.map (λkv=>if kv.1=k then (kv.1,v) else kv) else kvs++[(k,v)]
noncomputable def keyOf:Val->Option Key
 | .int i=>some (.inl i)
 | .str x=>some (.inr x)
 | _=>none
noncomputable def J8(f d:PyData):Option Bool:=match f with
 | .list ds=>some (ds.any λy=>PyData.eqv y d)
 | .tuple ds=>some (ds.any λy=>PyData.eqv y d)
 | _=>none
noncomputable def memD(h:Hs)(v w:Val):Option Bool:=(toD 16 h w).bind λf=>(toD 16 h v).bind λd=>J8 f d
noncomputable def FE(h:Hs)(v:Val)(i:Nat):Ob->Option Bool
 | .dct kvs=>(keyOf v).bind λk=>some (bV kvs k).isSome
 | _=>memD h v (.ref i)
noncomputable def tK(h:Hs):Val->Val->Option Bool
 | .str a,.str b=>some (!(Builtin.Str.occurrences b a 0 b.length 1).isEmpty)
 | v,.ref i=>(h[i]?).bind (FE h v i)
 | v,.dc ks _=>(keyOf v).bind λk=>some (ks.any λj=>decide (j=k))
 | v,w=>memD h v w
noncomputable def HS(v w:Val):Option Bool:=match w with
 | .non=>some (pP v)
 | .bl b=>(match v with
  | .bl a=>some (a==b)
  | _=>none)
 | _=>none
noncomputable def cop(h:Hs):J7->Val->Val->Option Bool
 | .eq,v,w=>Be h v w
 | .ne,v,w=>(Be h v w).map (!·)
 | .lt,.int a,.int b=>some (decide (a<b))
 | .le,.int a,.int b=>some (decide (a<=b))
 | .gt,.int a,.int b=>some (decide (b<a))
 | .ge,.int a,.int b=>some (decide (b<=a))
 | .isn,v,w=>HS v w
 | .ntn,v,w=>(HS v w).map (!·)
 | .uZ,v,w=>tK h v w
 | .nin,v,w=>(tK h v w).map (!·)
 | _,_,_=>none
noncomputable def dJ(h:Hs):Val->Option Bool
 | .non=>some false
 | .bl b=>some b
 | .int i=>some (i != 0)
 | .str x=>if x.length<=sizeLine then some ((x.length:Int) != 0) else none
 | .tup vs=>some (!vs.isEmpty)
 | .rl vs=>some (!vs.isEmpty)
 | .dc ks _=>some (!ks.isEmpty)
 | .ob _ _ _=>none
 | .ref i=>match h[i]? with
  | some (.lst xs)=>some (!xs.isEmpty)
  | some (.dct xs)=>some (!xs.isEmpty)
  | _=>none
noncomputable def ni(h:Hs):Val->Val->Option Val
 | .str x,.int i=>if x.length<=sizeLine then (jQ x.cps.toList i).map λc=>.str ⟨#[c]⟩ else none
 | .tup vs,.int i=>jQ vs i
 | .rl vs,.int i=>jQ vs i
 | .ref j,.int i=>match h[j]? with
  | some (.dct kvs)=>bV kvs (.inl i)
  | _=>(aD h (.ref j)).bind λxs=>jQ xs i
 | .ref j,.str x=>match h[j]? with
  | some (.dct kvs)=>bV kvs (.inr x)
  | _=>none
 | .dc ks vs,.int i=>bV (ks.zip vs) (.inl i)
 | .dc ks vs,.str x=>bV (ks.zip vs) (.inr x)
 | _,_=>none
noncomputable def B8(h:Hs)(o:Val):Option Unit:=match o with
 | .ref i=>(match h[i]? with
  | some (.dct _)=>some ()
  | _=>none)
 | .dc _ _=>some ()
 | _=>none
noncomputable def xP(h:Hs)(o:Val)(k:Key):Option (Option Val):=match o with
 | .ref i=>(match h[i]? with
  | some (.dct kvs)=>some (bV kvs k)
  | _=>none)
 | .dc ks vs=>some (bV (ks.zip vs) k)
 | _=>none
noncomputable def r9(h:Hs)(o:Val):Option (List Key):=match o with
 | .ref i=>(match h[i]? with
  | some (.dct kvs)=>some (kvs.map (·.1))
  | _=>none)
 | .dc ks _=>some ks
 | _=>none
noncomputable def B9:Key->Val
 | .inl i=>.int i
 | .inr x=>.str x
noncomputable def VB(o:Val)(k:Key)(z:Val):M Val:=match o with
 | .ref j=>bnd (ask λh=>match h[j]? with|some (.dct kvs)=>some kvs|_=>none) λkvs=>aC (decide (kvs.length<sizeLine)) (match bV kvs k with
  | some v=>ret v
  | none=>bnd (put j (.dct (gI kvs k z))) λ_=>ret z)
 | _=>bh none
noncomputable def pQ:List Key->Option (List Int):=cD λk=>match k with
 | .inl i=>some i
 | .inr _=>none
noncomputable def lC(h:Hs)(o:Val):Option (List Int):=(r9 h o).bind λks=>(pQ ks).bind λns=>if ns.length<64 then some (PySem.W.sortI ns) else none
noncomputable def HU(h:Hs)(ks:List Key)(w:Val):Option (List Int):=(pQ ks).bind λns=>(aD h w).bind λxs=>(aT xs).bind λms=>if ns.length<=100000 then some (ns.filter λn=>!(ms.any λm=>m==n)) else none
noncomputable def dR{α:Type}(ds:List α)(lo hi:Option Int):List α:=(ds.drop (HT.eX ds.length 0 lo)).take (HT.eX ds.length ds.length hi-HT.eX ds.length 0 lo)
noncomputable def qU(v:Val)(lo hi:Option Int):M Val:=match v with
 | .tup vs=>aC (!(decide (HT.eX vs.length 0 lo=0)&&decide (HT.eX vs.length vs.length hi=vs.length))) (ret (.tup (dR vs lo hi)))
 | v=>bnd (ask λh=>aD h v) λxs=>new (.lst (dR xs lo hi))
noncomputable def u6(h:Hs):Val->Option String
 | .non=>some "NoneType" | .bl _=>some "bool" | .int _=>some "int" | .str _=>some "str" | .tup _=>some "tuple" | .rl _=>some "list" | .dc _ _=>some "dict" | .ob _ _ _=>none
 | .ref i=>match h[i]? with
  | some (.lst _)=>some "list"
  | some (.dct _)=>some "dict"
  | _=>none
noncomputable def u7(T:String)(t:String):Option Bool :=
 if ["list","tuple","str","bool","int","dict"].contains T=true then some (decide (T=t\/(T = "int" /\ t = "bool"))) else none
noncomputable def lX(h:Hs):Val->Option Nat
 | .str x=>if x.length<=sizeLine then some x.length else none
 | .tup vs=>some vs.length
 | .rl vs=>some vs.length
 | .dc ks _=>some ks.length
 | .ref i=>match h[i]? with
  | some (.lst xs)=>some xs.length
  | some (.dct xs)=>some xs.length
  | _=>none
 | _=>none
noncomputable def blt:Bl->List Val->M Val
 | .len,[v]=>bnd (ask λh=>lX h v) λn=>ret (.int n)
 | .min,[.int a,.int b]=>ret (.int (if b<a then b else a))
 | .max,[.int a,.int b]=>ret (.int (if b>a then b else a))
 | .min,[v]=>bnd (ask λh=>dD h v) λxs=>bh ((aT xs).bind tG)
 | .max,[v]=>bnd (ask λh=>dD h v) λxs=>bh ((aT xs).bind tH)
 | .sorted,[v]=>bnd (ask λh=>aD h v) λxs=>bnd (bh (fU xs)) λys=>new (.lst ys)
 | .list,[v]=>bnd (ask λh=>dD h v) λxs=>new (.lst xs)
 | .int,[.bl b]=>ret (.int (if b=true then 1 else 0))
 | .int,[.int i]=>ret (.int i)
 | .isin T,[v]=>bnd (ask λh=>u6 h v) λt=>bnd (bh (u7 T t)) λb=>ret (.bl b)
 | _,_=>bh none
noncomputable def met:Me->Val->List Val->M Val
 | .append,.ref i,[v]=>bnd (ask λh=>match h[i]? with|some (.lst xs)=>some xs|_=>none) λxs=>aC (decide (xs.length<sizeLine)) (bnd (put i (.lst (xs++[v]))) λ_=>ret .non)
 | .extend,.ref i,[v]=>bnd (ask λh=>match h[i]? with|some (.lst xs)=>some xs|_=>none) λxs=>bnd (ask λh=>u5 h v) λys=>aC (decide (xs.length+ys.length<=sizeLine)) (bnd (put i (.lst (xs++ys))) λ_=>ret .non)
 | _,_,_=>bh none
noncomputable def recv(h:Hs):Me->Val->Option Unit
 | .join,.str _=>some ()
 | .append,.ref i=>match h[i]? with|some (.lst _)=>some ()|_=>none
 | .extend,.ref i=>match h[i]? with|some (.lst _)=>some ()|_=>none
 | _,_=>none
inductive Src
 | fix (xs:List Val)|live (i:Nat)|enum (i:Nat)|zip (v w:Val)
noncomputable def cT:Nat->List Val->List Val
 | _,[]=>[]
 | i,d::r=>.tup [.int i,d]::cT (i+1) r
noncomputable def NW:List Val->List Val->List Val
 | a::r,b::t=>.tup [a,b]::NW r t
 | _,_=>[]
noncomputable def cu(lo:Int)(n:Nat):List Val:=(List.range n).map λ(i:Nat)=>Val.int (lo+(i:Int))
noncomputable def inR(i:Int):Bool:=decide (-(2 ^ 62)<=i)&&decide (i<2 ^ 62)
noncomputable def srcOf:Ik->List Val->Option Src
 | .seq,[.tup vs]=>some (.fix vs)
 | .seq,[.rl vs]=>some (.fix vs)
 | .seq,[.ref i]=>some (.live i)
 | .range,[.int n]=>if inR n then some (.fix (cu 0 n.toNat)) else none
 | .range,[.int a,.int b]=>if inR a&&inR b then some (.fix (cu a (b-a).toNat)) else none
 | .enum,[.rl vs]=>some (.fix (cT 0 vs))
 | .enum,[.ref i]=>some (.enum i)
 | .zip,[v,w]=>some (.zip v w)
 | _,_=>none
noncomputable def Src.items(h:Hs):Src->Option (List Val)
 | .fix xs=>some xs
 | .live i=>aD h (.ref i)
 | .enum i=>(aD h (.ref i)).map (cT 0)
 | .zip v w=>(aD h v).bind λxs=>(aD h w).map λys=>NW xs ys
noncomputable def bindAll:List Nat->List Val->Env->Option Env
 | [],[],env=>some env
 | i::is,d::ds,env=>bindAll is ds (env.set i (some d))
 | _,_,_=>none
noncomputable def fV:xO->Val->Env->Option Env
 | .one i,d,env=>some (env.set i (some d))
 | .tup is,.tup ds,env=>bindAll is ds env
 | _,_,_=>none
noncomputable def jW(js:List (Option Nat))(env:Env):Env:=js.map λo=>match o with
 | none=>none
 | some j=>match env[j]? with
  | some (some d)=>some d
  | _=>none
noncomputable def fW(src:Src)(f:Val->M (Option Val)):Nat->Nat->List Val->M (List Val)
 | 0,i,acc=>bnd (ask λh=>src.items h) λxs=>aC (decide (xs.length<=i)) (ret acc)
 | n+1,i,acc=>bnd (ask λh=>src.items h) λxs=>match xs[i]? with
  | none=>ret acc
  | some x=>bnd (f x) λo=>fW src f n (i+1) (match o with|some e=>acc++[e]|none=>acc)
noncomputable def cQ:IE->Bool
 | .no=>true
 | _=>false
noncomputable def gJ:Val->Option Int
 | .int i=>some i
 | _=>none
noncomputable def pR:Val->M Bool
 | .bl b=>ret b
 | _=>bh none
noncomputable def iE(n:Nat)(h:Hs)(o:Val)(x:Str):Option Val:=match o with
 | .ref i=>(match h[i]? with
  | some (.ins c fs)=>if c<n then fs.lookup x else none
  | _=>none)
 | .ob c xs vs=>if c<n then (xs.zip vs).lookup x else none
 | _=>none
noncomputable def Ar(h:Hs)(o:Val)(bs:List Bool):Option Bool:=match o with
 | .ref i=>(match h[i]? with
  | some (.ins c _)=>bs[c]?
  | _=>none)
 | .ob c _ _=>bs[c]?
 | _=>none
noncomputable def kO(h:Hs)(o:Val)(m:Str)(js:List (Nat×Nat)):Option Nat:=match o with
 | .ref i=>(match h[i]? with
  | some (.ins c fs)=>if (fs.lookup m).isNone=true then js.lookup c else none
  | _=>none)
 | .ob c xs vs=>if ((xs.zip vs).lookup m).isNone=true then js.lookup c else none
 | _=>none
noncomputable def pS(f:Str)(v:Val):List (Str×Val)->List (Str×Val)
 | []=>[(f,v)]
 | (g,x)::r=>if g=f then (g,v)::r else (g,x)::pS f v r
noncomputable def yF(n:Nat)(o:Val)(x:Str)(v:Val):M Unit:=match o with
 | .ref i=>bnd (ask λh=>match h[i]? with|some (.ins c fs)=>if c<n then some (c,fs) else none|_=>none) λp=>aC (decide (p.2.length<1000)) (put i (.ins p.1 (pS x v p.2)))
 | _=>bh none
noncomputable def Eo(c:Nat)(φ:List Val->M Val)(vs:List Val):M Val:=bnd (new (.ins c [])) λo=>bnd (φ (o::vs)) λr=>match r with
 | .non=>ret o
 | _=>bh none
mutual
noncomputable def aF(Φ:Nat->List Val->M Val):IE->Env->M Val
 | .var i,env=>bh (match env[i]? with
  | some (some d)=>some d
  | _=>none)
 | .cst d,_=>ret d
 | .con _ d,_=>ret d
 | .no,_=>bh none
 | .bin o a b,env=>bnd (aF Φ a env) λx=>bnd (aF Φ b env) λy=>HQ o x y
 | .neg a,env=>bnd (aF Φ a env) λx=>match x with
  | .int i=>ret (.int (-i))
  | _=>bh none
 | .cmp o a b,env=>bnd (aF Φ a env) λx=>bnd (aF Φ b env) λy=>bnd (ask λh=>cop h o x y) λt=>ret (.bl t)
 | .chn _ _ _ _ _,_=>bh none
 | .and a b,env=>bnd (aF Φ a env) λx=>bnd (pR x) λt=>if t=true then bnd (aF Φ b env) λy=>bnd (pR y) λu=>ret (.bl u) else ret (.bl false)
 | .or a b,env=>bnd (aF Φ a env) λx=>bnd (pR x) λt=>if t=true then ret (.bl true) else bnd (aF Φ b env) λy=>bnd (pR y) λu=>ret (.bl u)
 | .not a,env=>bnd (aF Φ a env) λx=>bnd (pR x) λt=>ret (.bl (!t))
 | .ite _ _ _,_=>bh none
 | .tup es,env=>bnd (aU Φ es env) λds=>aC (decide (ds.length<=sizeLine)) (ret (.tup ds))
 | .lst es,env=>bnd (aU Φ es env) λds=>aC (decide (ds.length<=sizeLine)) (new (.lst ds))
 | .idx a b,env=>bnd (aF Φ a env) λx=>bnd (aF Φ b env) λy=>ask λh=>ni h x y
 | .slc a lo hi,env=>bnd (aF Φ a env) λx=>bnd (if cQ lo=true then ret none else bnd (aF Φ lo env) λv=>bnd (bh (gJ v)) λi=>ret (some i)) λl =>
   bnd (if cQ hi=true then ret none else bnd (aF Φ hi env) λv=>bnd (bh (gJ v)) λi=>ret (some i)) λu=>qU x l u
 | .call j es,env=>bnd (aU Φ es env) λds=>Φ j ds
 | .blt b es,env=>bnd (aU Φ es env) λds=>blt b ds
 | .met m a es,env=>bnd (aF Φ a env) λx=>bnd (ask λh=>recv h m x) λ_=>bnd (aU Φ es env) λds=>met m x ds
 | .comp _ js pat k it c elt,env=>bnd (aU Φ it env) λits=>bnd (bh (srcOf k its)) λsrc=>bnd (ask λh=>src.items h) λxs=>aC (decide (xs.length<=100000))
   (bnd (fW src (λd=>bnd (bh (fV pat d (jW js env))) λenv'=>bnd (if cQ c=true then ret true else bnd (aF Φ c env') λv=>ask λh=>dJ h v) λt =>
    if t=true then bnd (aF Φ elt env') λe=>ret (some e) else ret none) xs.length 0 []) λys=>new (.lst ys))
 | .dct0,_=>new (.dct [])
 | .sset a,env=>bnd (aF Φ a env) λv=>bnd (ask λh=>aD h v) λxs=>bnd (bh (aT xs)) λns=>aC (decide (ns.length<64)) (new (.lst ((PySem.W.sortI (L2.eL [] ns)).map .int)))
 | .dget d k x,env=>bnd (aF Φ d env) λo=>bnd (ask λh=>B8 h o) λ_=>bnd (aF Φ k env) λi=>bnd (bh (keyOf i)) λkk=>bnd (aF Φ x env) λz=>bnd (ask λh=>xP h o kk) λr=>ret (r.getD z)
 | .dct1 k v,env=>bnd (aF Φ k env) λx=>bnd (bh (keyOf x)) λkk=>bnd (aF Φ v env) λy=>new (.dct [(kk,y)])
 | .lkeys d,env=>bnd (aF Φ d env) λo=>bnd (ask λh=>r9 h o) λks=>new (.lst (ks.map B9))
 | .sdef _ _ _,_=>bh none
 | .svals _,_=>bh none
 | .skeys d,env=>bnd (aF Φ d env) λo=>bnd (ask λh=>lC h o) λns=>new (.lst (ns.map .int))
 | .fld n a x,env=>bnd (aF Φ a env) λo=>ask λh=>iE n h o x
 | .mth a m js es,env=>bnd (aF Φ a env) λo=>bnd (ask λh=>kO h o m js) λj=>bnd (aU Φ es env) λds=>Φ j (o::ds)
 | .rev a s,env=>bnd (aF Φ a env) λx=>bnd (if cQ s=true then ret none else bnd (aF Φ s env) λv=>bnd (bh (gJ v)) λi=>ret (some i)) λk =>
   aC (decide (k=some (-1))) (bnd (ask λh=>aD h x) λxs=>new (.lst xs.reverse))
 | .dflt _ _ _ _ _ _,_=>bh none
 | .isc a _ bs,env=>bnd (aF Φ a env) λo=>bnd (ask λh=>Ar h o bs) λb=>ret (.bl b)
noncomputable def aU(Φ:Nat->List Val->M Val):nV->Env->M (List Val)
 | .nil,_=>ret []
 | .cons e es,env=>bnd (aF Φ e env) λd=>bnd (aU Φ es env) λds=>ret (d::ds)
end
inductive Fl
 | nx (env:Env)|rt (v:Val)|bk (env:Env)|ct (env:Env)
noncomputable def forM(src:Src)(body:Val->Env->M Fl):Nat->Nat->Env->M Fl
 | 0,i,env=>bnd (ask λh=>src.items h) λxs=>aC (decide (xs.length<=i)) (ret (.nx env))
 | n+1,i,env=>bnd (ask λh=>src.items h) λxs=>match xs[i]? with
  | none=>ret (.nx env)
  | some x=>bnd (body x env) λf=>match f with
   | .nx env'=>forM src body n (i+1) env'
   | .ct env'=>forM src body n (i+1) env'
   | .bk env'=>ret (.nx env')
   | .rt v=>ret (.rt v)
noncomputable def sd(o i v:Val):M Unit:=match o with
 | .ref j=>bnd (ask λh=>h[j]?) λob=>match ob,i with
  | .lst xs,.int k=>bnd (bh (z6 xs.length k)) λn=>put j (.lst (xs.set n v))
  | .dct kvs,i=>bnd (bh (keyOf i)) λk=>aC (decide (kvs.length<sizeLine)) (put j (.dct (gI kvs k v)))
  | _,_=>bh none
 | _=>bh none
mutual
noncomputable def eO(Φ:Nat->List Val->M Val):IS->Env->M Fl
 | .expr e,env=>bnd (aF Φ e env) λ_=>ret (.nx env)
 | .asg p e,env=>bnd (aF Φ e env) λv=>bnd (bh (fV p v env)) λenv'=>ret (.nx env')
 | .aug i o e,env=>bnd (bh (match env[i]? with|some (some (.int x))=>some x|_=>none)) λx=>bnd (aF Φ e env) λv=>bnd (bh (gJ v)) λy=>bnd (HQ o (.int x) (.int y)) λz=>ret (.nx (env.set i (some z)))
 | .e8 o i v,env=>bnd (aF Φ v env) λx=>bnd (aF Φ o env) λy=>bnd (aF Φ i env) λz=>bnd (sd y z x) λ_=>ret (.nx env)
 | .iff c a b,env=>bnd (aF Φ c env) λx=>bnd (ask λh=>dJ h x) λt=>if t=true then dX Φ a env else dX Φ b env
 | .for p k it body,env=>bnd (aU Φ it env) λits=>bnd (bh (srcOf k its)) λsrc=>bnd (ask λh=>src.items h) λxs =>
   forM src (λx env=>bnd (bh (fV p x env)) λenv'=>dX Φ body env') xs.length 0 env
 | .whl _ _ _,_=>bh none
 | .ret e,env=>bnd (aF Φ e env) λv=>ret (.rt v)
 | .FD,_=>ret (.rt .non)
 | .brk,env=>ret (.bk env)
 | .cnt,env=>ret (.ct env)
 | .pass,env=>ret (.nx env)
 | .never,_=>bh none
 | .setF n a x v,env=>bnd (aF Φ v env) λy=>bnd (aF Φ a env) λo=>bnd (yF n o x y) λ_=>ret (.nx env)
noncomputable def dX(Φ:Nat->List Val->M Val):fy->Env->M Fl
 | .nil,env=>ret (.nx env)
 | .cons s r,env=>bnd (eO Φ s env) λf=>match f with
  | .nx env'=>dX Φ r env'
  | f=>ret f
end
noncomputable def iF(Φ:Nat->List Val->M Val)(n:Nat)(body:fy)(vs:List Val):M Val :=
 bnd (dX Φ body (vs.map some++replicate (n-vs.length) none)) λf=>match f with
  | .nx _=>ret .non
  | .rt v=>ret v
  | _=>bh none
theorem jX{b:Bool}(ho:o=.lt\/o=.le\/o=.gt\/o=.ge)(e:cop h o v w=some b):∃i j,v=.int i/\w=.int j:=by
 cases v with
 | int i =>
  cases w with
  | int j=>exact⟨i,j,rfl,rfl⟩
  | _=>rcases ho with rfl|rfl|rfl|rfl<;>cases e
 | _=>rcases ho with rfl|rfl|rfl|rfl<;>cases e
end Hv
end
section
namespace Hv
open PySem L2 PyProof.Rows
structure Bd where
 K:PySem.W.Frag
 cl:Nat->Addr
noncomputable def HV(K:PySem.W.Frag)(H:Hp)(a:Addr)(xs:List V):Prop :=
 (∃o,H a=some (.oE o (.lst xs)))\/iu K (λ_=>none) a xs
theorem HV.sq{K:PySem.W.Frag}{H:Hp}{a:Addr}{xs:List V}(h:HV K H a xs):iu K H a xs:=by
 rcases h with ⟨o,h⟩|(h|⟨o,h⟩)|h
 ·exact .inl (.inr ⟨o,h⟩)
 ·cases h
 ·cases h
 ·exact .inr h
mutual
noncomputable def VR(K:PySem.W.Frag)(ρ:List Addr)(H:Hp):Val->V->Prop
 | .non,x=>x=.non
 | .bl b,x=>x=.bl b
 | .int i,x=>x=.int i
 | .str s,x=>x=.str s
 | .tup vs,x=>∃a xs,x=.ref a/\jF K H a xs/\ay K ρ H vs xs
 | .rl vs,x=>∃a xs,x=.ref a/\HV K H a xs/\ay K ρ H vs xs
 | .dc _ _,_=>False
 | .ob _ _ _,_=>False
 | .ref i,x=>∃a,x=.ref a /\ ρ[i]?=some a
noncomputable def ay(K:PySem.W.Frag)(ρ:List Addr)(H:Hp):List Val->List V->Prop
 | [],xs=>xs=[]
 | v::vs,xs=>∃x r,xs=x::r/\VR K ρ H v x/\ay K ρ H vs r
end
noncomputable def gx(K:PySem.W.Frag)(ρ:List Addr)(H:Hp):List (Key×Val)->List (Key×V)->Prop
 | [],xs=>xs=[]
 | (k,v)::vs,xs=>∃x r,xs=(k,x)::r/\VR K ρ H v x/\gx K ρ H vs r
noncomputable def lY(K:PySem.W.Frag)(ρ:List Addr)(H:Hp):List (Str×Val)->List (Str×V)->Prop
 | [],xs=>xs=[]
 | (k,v)::vs,xs=>∃x r,xs=(k,x)::r/\VR K ρ H v x/\lY K ρ H vs r
noncomputable def OR(B:Bd)(ρ:List Addr)(H:Hp)(a:Addr):Ob->Prop
 | .lst xs=>∃ys,H a=some (.lst ys)/\ay B.K ρ H xs ys
 | .dct kvs=>∃ks,H a=some (.dK ks)/\gx B.K ρ H kvs ks
 | .ins c fs=>∃dx gs,H a=some (.ins (B.cl c) dx gs)/\lY B.K ρ H fs gs
structure HR (B:Bd) (ρ:List Addr) (h:Hs) (H:Hp):Prop where
 len:ρ.length=h.length
 nd:ρ.Nodup
 ob:∀(i:Nat) (o:Ob) (a:Addr),h[i]?=some o -> ρ[i]?=some a->OR B ρ H a o
noncomputable def Mu:HO->Bool
 | .lst _=>true|.dK _=>true|.ins ..=>true
 | _=>false
structure Gw (ρ:List Addr) (H:Hp) (ρ':List Addr) (H':Hp):Prop where
 pre:ρ <+: ρ'
 firm:∀a o,H a=some o->Mu o=false->H' a=some o
structure Gr (ρ:List Addr) (H:Hp) (ρ':List Addr) (H':Hp):Prop where
 pre:ρ <+: ρ'
 keep:∀a o,H a=some o->a ∉ ρ -> H' a=some o
 firm:∀a o,H a=some o->Mu o=false->H' a=some o
 fresh:∀a,a ∈ ρ'->a ∉ ρ -> H a=none
section
variable {K:PySem.W.Frag} {B:Bd} {ρ ρ' ρ1 ρ2:List Addr} {H H' H1 H2:Hp} {h h':Hs}
theorem Gr.w(g:Gr ρ H ρ' H'):Gw ρ H ρ' H':=⟨g.pre,g.firm⟩
theorem Gr.refl:Gr ρ H ρ H:=⟨prefix_refl _,λ_ _ e _=>e,λ_ _ e _=>e,λ_ e n=>absurd e n⟩
theorem Gr.trans(g:Gr ρ H ρ1 H1)(k:Gr ρ1 H1 ρ2 H2):Gr ρ H ρ2 H2 where
 pre:=g.pre.trans k.pre
 keep a o e n:=k.keep a o (g.keep a o e n) λz=>by rw[g.fresh a z n] at e;cases e
 firm a o e n:=k.firm a o (g.firm a o e n) n
 fresh a z n:=by
  by_cases hb:a ∈ ρ1
  ·exact g.fresh a hb n
  ·cases e:H a with
   | none=>rfl
   | some o =>have e1:=g.keep a o e n;rw[k.fresh a z hb] at e1;cases e1
theorem oM{i:Nat}(p:ρ <+: ρ')(e:ρ[i]?=some a):ρ'[i]?=some a:=by
 obtain⟨t,rfl⟩:=p;have hi:i < ρ.length:=(List.getElem?_eq_some_iff.mp e).1;rw[getElem?_append_left hi];exact e
theorem Gw.Qv(g:Gw ρ H ρ' H')(e:jF K H a xs):jF K H' a xs:=by
 rcases e with (e|⟨o,e⟩)|e
 ·exact .inl (.inl (g.firm _ _ e rfl))
 ·exact .inl (.inr ⟨o,g.firm _ _ e rfl⟩)
 ·exact .inr e
theorem Gw.J9(g:Gw ρ H ρ' H')(e:HV K H a xs):HV K H' a xs:=by
 rcases e with ⟨o,e⟩|e
 ·exact .inl ⟨o,g.firm _ _ e rfl⟩
 ·exact .inr e
mutual
theorem VR.kP(g:Gw ρ H ρ' H'):∀(v:Val) (x:V),VR K ρ H v x->VR K ρ' H' v x
 | .non,x,e=>by rw[VR] at e |-;exact e
 | .bl b,x,e=>by rw[VR] at e |-;exact e
 | .int b,x,e=>by rw[VR] at e |-;exact e
 | .str b,x,e=>by rw[VR] at e |-;exact e
 | .tup vs,x,e=>by
  rw[VR] at e |-;obtain⟨a,xs,rfl,q1,q2⟩:=e;exact⟨a,xs,rfl,g.Qv q1,ay.kP g vs xs q2⟩
 | .rl vs,x,e=>by
  rw[VR] at e |-;obtain⟨a,xs,rfl,q1,q2⟩:=e;exact⟨a,xs,rfl,g.J9 q1,ay.kP g vs xs q2⟩
 | .dc _ _,x,e=>by rw[VR] at e;exact e.elim
 | .ob _ _ _,x,e=>by rw[VR] at e;exact e.elim
 | .ref i,x,e=>by
  rw[VR] at e |-;obtain⟨a,rfl,q⟩:=e;exact⟨a,rfl,oM g.pre q⟩
theorem ay.kP(g:Gw ρ H ρ' H'):∀(vs:List Val) (xs:List V),ay K ρ H vs xs->ay K ρ' H' vs xs
 | [],xs,e=>by rw[ay] at e |-;exact e
 | v::vs,xs,e=>by
  rw[ay] at e |-;obtain⟨x,r,rfl,q1,q2⟩:=e;exact⟨x,r,rfl,VR.kP g v x q1,ay.kP g vs r q2⟩
end
theorem gx.kP(g:Gw ρ H ρ' H'):∀(vs:List (Key×Val)) (xs:List (Key×V)),gx K ρ H vs xs->gx K ρ' H' vs xs
 | [],xs,e=>e
 | (k,v)::vs,xs,⟨x,r,e,q1,q2⟩=>⟨x,r,e,VR.kP g v x q1,gx.kP g vs r q2⟩
theorem lY.kP(g:Gw ρ H ρ' H'):∀(vs:List (Str×Val)) (xs:List (Str×V)),lY K ρ H vs xs->lY K ρ' H' vs xs
 | [],xs,e=>e
 | (k,v)::vs,xs,⟨x,r,e,q1,q2⟩=>⟨x,r,e,VR.kP g v x q1,lY.kP g vs r q2⟩
theorem lY.look:∀{vs:List (Str×Val)} {xs:List (Str×V)},lY K ρ H vs xs->(vs.lookup x=none->xs.lookup x=none)/\∀v,vs.lookup x=some v->∃y,xs.lookup x=some y/\VR K ρ H v y
 | [],xs,e=>by rw[lY] at e;subst e;exact⟨λ_=>rfl,λv z=>by cases z⟩
 | (k,v)::vs,xs,e=>by
  rw[lY] at e;obtain⟨y,r,rfl,q1,q2⟩:=e;rw[lookup_cons,lookup_cons];cases hb:x==k with
  | true=>exact⟨λz=>(by cases z),λw z=>by cases z;exact⟨y,rfl,q1⟩⟩
  | false=>exact lY.look q2
theorem lY.length:∀{vs:List (Str×Val)} {xs:List (Str×V)},lY K ρ H vs xs->vs.length=xs.length
 | [],xs,e=>by rw[lY] at e;subst e;rfl
 | (k,v)::vs,xs,e=>by rw[lY] at e;obtain⟨y,r,rfl,_,q⟩:=e;simp[lY.length q]
theorem lY.put(hw:VR K ρ H w y):∀{vs:List (Str×Val)} {xs:List (Str×V)},lY K ρ H vs xs->lY K ρ H (pS x w vs) (jn x y xs)
 | [],xs,e=>by rw[lY] at e;subst e;exact⟨y,[],rfl,hw,rfl⟩
 | (k,v)::vs,xs,e=>by
  rw[lY] at e;obtain⟨z,r,rfl,q1,q2⟩:=e;rw[pS,jn]
  by_cases hk:k=x
  ·rw[if_pos hk,if_pos hk];exact⟨y,r,rfl,hw,q2⟩
  ·rw[if_neg hk,if_neg hk];exact⟨z,_,rfl,q1,lY.put hw q2⟩
theorem VR.up(g:Gr ρ H ρ' H')(v:Val)(x:V)(e:VR K ρ H v x):VR K ρ' H' v x:=VR.kP g.w v x e
theorem ay.up(g:Gr ρ H ρ' H')(v:List Val)(x:List V)(e:ay K ρ H v x):ay K ρ' H' v x:=ay.kP g.w v x e
theorem gx.up(g:Gr ρ H ρ' H')(v:List (Key×Val))(x:List (Key×V))(e:gx K ρ H v x):gx K ρ' H' v x:=gx.kP g.w v x e
theorem lY.up(g:Gr ρ H ρ' H')(v:List (Str×Val))(x:List (Str×V))(e:lY K ρ H v x):lY K ρ' H' v x:=lY.kP g.w v x e
theorem ay.nil:ay K ρ H [] []:=by rw[ay]
theorem ay.cons{v:Val}{vs:List Val}{x:V}{xs:List V}(a:VR K ρ H v x)(b:ay K ρ H vs xs):ay K ρ H (v::vs) (x::xs):=by rw[ay];exact⟨x,xs,rfl,a,b⟩
theorem ay.length:∀{vs:List Val} {xs:List V},ay K ρ H vs xs->vs.length=xs.length
 | [],xs,e=>by rw[ay] at e;subst e;rfl
 | v::vs,xs,e=>by rw[ay] at e;obtain⟨x,r,rfl,_,q⟩:=e;simp[ay.length q]
theorem ay.get:∀{vs:List Val} {xs:List V} {i:Nat} {v:Val},ay K ρ H vs xs->vs[i]?=some v->∃x,xs[i]?=some x/\VR K ρ H v x
 | [],xs,i,v,e,q=>by simp at q
 | w::vs,xs,0,v,e,q=>by
  rw[ay] at e;obtain⟨x,r,rfl,a,_⟩:=e;simp at q;subst q;exact⟨x,rfl,a⟩
 | w::vs,xs,i+1,v,e,q=>by
  rw[ay] at e;obtain⟨x,r,rfl,_,b⟩:=e;simp at q;obtain⟨y,q1,q2⟩:=ay.get b q;exact⟨y,by simpa using q1,q2⟩
theorem ay.append:∀{vs ws:List Val} {xs ys:List V},ay K ρ H vs xs->ay K ρ H ws ys->ay K ρ H (vs++ws) (xs++ys)
 | [],ws,xs,ys,e,q=>by rw[ay] at e;subst e;exact q
 | w::vs,ws,xs,ys,e,q=>by
  rw[ay] at e;obtain⟨x,r,rfl,a,b⟩:=e;exact ay.cons a (ay.append b q)
theorem ay.take:∀{vs:List Val} {xs:List V} (n:Nat),ay K ρ H vs xs->ay K ρ H (vs.take n) (xs.take n)
 | _,_,0,_=>by simp;exact ay.nil
 | [],xs,n+1,e=>by rw[ay] at e;subst e;simp;exact ay.nil
 | w::vs,xs,n+1,e=>by
  rw[ay] at e;obtain⟨x,r,rfl,a,b⟩:=e;exact ay.cons a (ay.take n b)
theorem ay.drop:∀{vs:List Val} {xs:List V} (n:Nat),ay K ρ H vs xs->ay K ρ H (vs.drop n) (xs.drop n)
 | _,_,0,e=>by simpa using e
 | [],xs,n+1,e=>by rw[ay] at e;subst e;simp;exact ay.nil
 | w::vs,xs,n+1,e=>by
  rw[ay] at e;obtain⟨x,r,rfl,a,b⟩:=e;exact ay.drop n b
theorem ay.cut(lo hi:Option Int)(e:ay K ρ H vs xs):ay K ρ H (dR vs lo hi) (uG xs lo hi):=by
 unfold dR uG;rw[e.length];exact ay.take _ (ay.drop _ e)
theorem ay.app:∀{vs ws:List Val} {xs ys:List V},ay K ρ H vs xs->ay K ρ H ws ys->ay K ρ H (vs++ws) (xs++ys)
 | [],_,xs,_,e,q=>by rw[ay] at e;subst e;exact q
 | v::vs,_,xs,_,e,q=>by
  rw[ay] at e;obtain⟨x,r,rfl,a,b⟩:=e;rw[cons_append,cons_append,ay];exact⟨x,_,rfl,a,ay.app b q⟩
theorem ay.rev:∀{vs:List Val} {xs:List V},ay K ρ H vs xs->ay K ρ H vs.reverse xs.reverse
 | [],xs,e=>by rw[ay] at e;subst e;rw[List.reverse_nil,List.reverse_nil,ay]
 | v::vs,xs,e=>by
  rw[ay] at e;obtain⟨x,r,rfl,a,b⟩:=e;rw[reverse_cons,reverse_cons];refine ay.app (ay.rev b) ?_;rw[ay];exact⟨x,[],rfl,a,by rw[ay]⟩
theorem ay.jQ{i:Int}(e:ay K ρ H vs xs)(q:L2.jQ vs i=some v):∃x,L2.jQ xs i=some x/\VR K ρ H v x:=by
 unfold L2.jQ at q |-;rw[e.length] at q;cases hi:L2.z6 xs.length i with
 | none=>rw[hi] at q;cases q
 | some n=>rw[hi] at q;exact ay.get e q
theorem ay.set:∀{vs:List Val} {xs:List V} (n:Nat) {v:Val} {x:V},ay K ρ H vs xs->VR K ρ H v x->ay K ρ H (vs.set n v) (xs.set n x)
 | [],xs,n,v,x,e,q=>by rw[ay] at e;subst e;simp;exact ay.nil
 | w::vs,xs,0,v,x,e,q=>by
  rw[ay] at e;obtain⟨y,r,rfl,a,b⟩:=e;exact ay.cons q b
 | w::vs,xs,n+1,v,x,e,q=>by
  rw[ay] at e;obtain⟨y,r,rfl,a,b⟩:=e;exact ay.cons a (ay.set n b q)
theorem ay.one(e:ay K ρ H [v] xs):∃x,xs=[x]/\VR K ρ H v x:=by
 rw[ay] at e;obtain⟨x,r,rfl,a,b⟩:=e;rw[ay] at b;subst b;exact⟨x,rfl,a⟩
theorem ay.two(e:ay K ρ H [v,w] xs):∃x y,xs=[x,y]/\VR K ρ H v x/\VR K ρ H w y:=by
 rw[ay] at e;obtain⟨x,r,rfl,a,b⟩:=e;obtain⟨y,rfl,c⟩:=ay.one b;exact⟨x,y,rfl,a,c⟩
theorem VR.int{i:Int}:VR K ρ H (.int i) (.int i):=by rw[VR]
theorem VR.str:VR K ρ H (.str i) (.str i):=by rw[VR]
theorem VR.bl{i:Bool}:VR K ρ H (.bl i) (.bl i):=by rw[VR]
theorem VR.non:VR K ρ H .non .non:=by rw[VR]
theorem VR.tup{a:Addr}{vs:List Val}{xs:List V}(q:jF K H a xs)(e:ay K ρ H vs xs):VR K ρ H (.tup vs) (.ref a):=by rw[VR];exact⟨a,xs,rfl,q,e⟩
theorem VR.ref{i:Nat}(q:ρ[i]?=some a):VR K ρ H (.ref i) (.ref a):=by rw[VR];exact⟨a,rfl,q⟩
theorem ay.ints:∀{ns:List Int} {xs:List V},ay K ρ H (ns.map Val.int) xs↔xs=ns.map V.int
 | [],xs=>by simp[ay]
 | n::ns,xs=>by
  simp only[map_cons];rw[ay];constructor
  ·rintro⟨x,r,rfl,a,b⟩;rw[VR] at a;subst a;rw[(ay.ints (ns:=ns)).mp b]
  ·rintro rfl;exact⟨_,_,rfl,VR.int,(ay.ints (ns:=ns)).mpr rfl⟩
theorem ay.tups:∀{oK:List (List Int)} {xs:List V},ay K ρ H (oK.map lW) xs->∃rs:List (Addr×List Int),xs=rs.map (λr=>V.ref r.1)/\oK=rs.map (·.2)/\∀r∈rs,jF K H r.1 (r.2.map V.int)
 | [],xs,e=>by simp only[map_nil] at e;rw[ay] at e;exact⟨[],e,rfl,λ_ z=>nomatch z⟩
 | ks::oK,xs,e=>by
  simp only[map_cons] at e;rw[ay] at e;obtain⟨x,r,rfl,a,b⟩:=e;obtain⟨rs,e1,e2,e3⟩:=ay.tups b;unfold lW at a;rw[VR] at a;obtain⟨p,ys,rfl,g1,g2⟩:=a;rw[ay.ints.mp g2] at g1;refine⟨(p,ks)::rs,by rw[e1];rfl,by rw[e2];rfl,λr hr=>?_⟩
  rcases mem_cons.mp hr with z|z
  ·rw[z];exact g1
  ·exact e3 r z
theorem ay.yG:∀{rs:List (Addr×List Int)},(∀r∈rs,jF K H r.1 (r.2.map V.int))->ay K ρ H ((rs.map (·.2)).map lW) (rs.map λr=>V.ref r.1)
 | [],_=>ay.nil
 | r::rs,e=>ay.cons (VR.tup (e r mem_cons_self) (ay.ints.mpr rfl)) (ay.yG λq hq=>e q (mem_cons_of_mem _ hq))
theorem OR.mu(q:OR B ρ H a o):∃u,H a=some u/\Mu u=true:=by
 cases o with
 | lst xs=>obtain⟨ys,e,_⟩:=q;exact⟨_,e,rfl⟩
 | dct xs=>obtain⟨ys,e,_⟩:=q;exact⟨_,e,rfl⟩
 | ins c fs=>obtain⟨dx,ys,e,_⟩:=q;exact⟨_,e,rfl⟩
theorem HR.mu(r:HR B ρ h H)(e:a ∈ ρ):∃u,H a=some u/\Mu u=true:=by
 obtain⟨i,hi,rfl⟩:=getElem_of_mem e;have hi':i<h.length:=by rw[<-r.len];exact hi
 exact(r.ob i _ _ (List.getElem?_eq_getElem hi') (List.getElem?_eq_getElem hi)).mu
theorem HR.out(r:HR B ρ h H)(e:H p=none):p ∉ ρ:=λz=>by
 obtain⟨u,q,_⟩:=r.mu z;rw[e] at q;cases q
theorem OR.kP(g:Gw ρ H ρ' H')(e:H' a=H a)(q:OR B ρ H a o):OR B ρ' H' a o:=by
 cases o with
 | lst xs=>obtain⟨ys,e1,e2⟩:=q;exact⟨ys,e.trans e1,ay.kP g _ _ e2⟩
 | dct xs=>obtain⟨ys,e1,e2⟩:=q;exact⟨ys,e.trans e1,gx.kP g _ _ e2⟩
 | ins c fs=>obtain⟨dx,ys,e1,e2⟩:=q;exact⟨dx,ys,e.trans e1,lY.kP g _ _ e2⟩
theorem OR.up(g:Gr ρ H ρ' H')(e:H' a=H a)(q:OR B ρ H a o):OR B ρ' H' a o:=OR.kP g.w e q
theorem Gr.side(e:H p=none):Gr ρ H ρ (upd H p o) where
 pre:=prefix_refl _
 keep a u q _:=by rw[aA (aG q e)];exact q
 firm a u q _:=by rw[aA (aG q e)];exact q
 fresh a z n:=absurd z n
theorem HR.side(r:HR B ρ h H)(e:H p=none):HR B ρ h (upd H p o) where
 len:=r.len
 nd:=r.nd
 ob i u a q1 q2:=by refine OR.up (Gr.side e) ?_ (r.ob i u a q1 q2);refine aA λz=>?_;subst z;exact r.out e (mem_of_getElem? q2)
theorem Gw.other(e:H p=some u)(hm:Mu u=true):Gw ρ H ρ (upd H p o) where
 pre:=prefix_refl _
 firm a w q n:=by
  have:a≠p:=λz=>by subst z;rw[e] at q;cases q;rw[hm] at n;cases n
  rw[aA this];exact q
theorem HR.other(r:HR B ρ h H)(hp:p ∉ ρ)(e:H p=some u)(hm:Mu u=true):HR B ρ h (upd H p o) where
 len:=r.len
 nd:=r.nd
 ob i w a q1 q2:=OR.kP (Gw.other e hm) (aA λz=>by subst z;exact hp (mem_of_getElem? q2)) (r.ob i w a q1 q2)
theorem Gr.new(e:H p=none):Gr ρ H (ρ ++ [p]) (upd H p o) where
 pre:=prefix_append _ _
 keep a u q _:=by rw[aA (aG q e)];exact q
 firm a u q _:=by rw[aA (aG q e)];exact q
 fresh a z n:=by
  rcases mem_append.mp z with z|z
  ·exact absurd z n
  ·rw[mem_singleton.mp z];exact e
theorem HR.new(r:HR B ρ h H)(e:H p=none)(q:OR B (ρ ++ [p]) (upd H p o) p u):HR B (ρ ++ [p]) (h++[u]) (upd H p o) where
 len:=by simp[r.len]
 nd:=by rw[nodup_append];refine⟨r.nd,by simp,λa ha b hb=>?_⟩;rw[mem_singleton.mp hb];rintro rfl;exact r.out e ha
 ob i v a q1 q2:=by
  by_cases hi:i<h.length
  ·rw[getElem?_append_left hi] at q1;rw[getElem?_append_left (by rw[r.len];exact hi)] at q2;refine OR.up (Gr.new e) (aA λz=>?_) (r.ob i v a q1 q2);subst z;exact r.out e (mem_of_getElem? q2)
  ·rw[getElem?_append_right (by omega)] at q1
   rw[getElem?_append_right (by rw[r.len];omega)] at q2;have hi0:i-h.length=0:=by have:=(List.getElem?_eq_some_iff.mp q1).1;simp at this;omega
   rw[hi0] at q1;rw[r.len,hi0] at q2;simp at q1 q2;subst q1;subst q2;exact q
theorem yH(r:HR B ρ h H):VR K (ρ ++ [p]) H' (.ref h.length) (.ref p):=VR.ref (by rw[<-r.len];simp)
theorem HW{α:Type}:∀{l:List α} {i j:Nat} {a:α},l.Nodup->l[i]?=some a->l[j]?=some a->i=j
 | [],i,j,a,_,e,_=>by simp at e
 | b::l,0,0,a,_,_,_=>rfl
 | b::l,0,j+1,a,n,e,f=>by
  simp at e f;subst e;exact absurd (mem_of_getElem? f) (nodup_cons.mp n).1
 | b::l,i+1,0,a,n,e,f=>by
  simp at e f;subst f;exact absurd (mem_of_getElem? e) (nodup_cons.mp n).1
 | b::l,i+1,j+1,a,n,e,f=>by
  simp at e f;rw[HW (nodup_cons.mp n).2 e f]
theorem Gr.put(hp:p ∈ ρ)(e:H p=some u)(hm:Mu u=true):Gr ρ H ρ (upd H p o) where
 pre:=prefix_refl _
 keep a w q n:=by rw[aA λz=>n (by rw[z];exact hp)];exact q
 firm a w q n:=by
  have:a≠p:=λz=>by subst z;rw[e] at q;cases q;rw[hm] at n;cases n
  rw[aA this];exact q
 fresh a z n:=absurd z n
theorem HR.put{i:Nat}(r:HR B ρ h H)(hi:ρ[i]?=some p)(e:h[i]?=some w)(q:OR B ρ (upd H p o) p u):HR B ρ (h.set i u) (upd H p o) where
 len:=by simp[r.len]
 nd:=r.nd
 ob j v a q1 q2:=by
  obtain⟨z,k1,k2⟩:=(r.ob i w p e hi).mu
  by_cases hj:j=i
  ·subst hj;rw[hi] at q2;cases q2;have hlt:j<h.length:=(List.getElem?_eq_some_iff.mp e).1;rw[getElem?_set_self hlt] at q1;cases q1;exact q
  ·rw[getElem?_set_ne (λz=>hj z.symm)] at q1;refine OR.up (Gr.put (mem_of_getElem? hi) k1 k2) (aA λz=>?_) (r.ob j v a q1 q2);subst z;exact hj (HW r.nd q2 hi)
theorem fE(r:HR B ρ h H)(q:VR B.K ρ H v x)(e:aD h v=some xs):∃a ys,x=.ref a/\iu B.K H a ys/\ay B.K ρ H xs ys:=by
 cases v with
 | rl vs =>simp only[aD] at e;cases e;rw[VR] at q;obtain⟨a,ys,rfl,k1,k2⟩:=q;exact⟨a,ys,rfl,k1.sq,k2⟩
 | ref i =>
  simp only[aD] at e;split at e
  ·rename_i zs e1;cases e;rw[VR] at q;obtain⟨a,rfl,k1⟩:=q;obtain⟨ys,k2,k3⟩:=r.ob i _ a e1 k1;exact⟨a,ys,rfl,.inl (.inl k2),k3⟩
  ·cases e
 | _=>cases e
theorem kG{i:Nat}(r:HR B ρ h H)(q:VR B.K ρ H (.ref i) x)(e:h[i]?=some (.lst xs)):∃a ys,x=.ref a /\ ρ[i]?=some a/\H a=some (.lst ys)/\ay B.K ρ H xs ys:=by
 rw[VR] at q;obtain⟨a,rfl,k1⟩:=q;obtain⟨ys,k2,k3⟩:=r.ob i _ a e k1;exact⟨a,ys,rfl,k1,k2,k3⟩
theorem xQ(r:HR B ρ h H)(q:VR B.K ρ H v x)(e:dD h v=some xs):∃a ys,x=.ref a/\(iu B.K H a ys\/jF B.K H a ys)/\ay B.K ρ H xs ys:=by
 cases v with
 | tup vs =>simp only[dD] at e;cases e;rw[VR] at q;obtain⟨a,ys,rfl,k1,k2⟩:=q;exact⟨a,ys,rfl,.inr k1,k2⟩
 | rl vs=>obtain⟨a,ys,e1,k1,k2⟩:=fE r q (show aD h (.rl vs)=some xs from e);exact⟨a,ys,e1,.inl k1,k2⟩
 | ref vs=>obtain⟨a,ys,e1,k1,k2⟩:=fE r q (show aD h (.ref vs)=some xs from e);exact⟨a,ys,e1,.inl k1,k2⟩
 | _=>cases e
theorem nj(r:HR B ρ h H):∀(n:Nat) (v:Val) (x:V) (d:PyData),VR B.K ρ H v x->toD n h v=some d->Den B.K H d x/\d.canLay0=true/\d.depth<=n:=by
 intro n
 induction n with
 | zero=>intro v x d _ e;simp only[toD] at e;cases e
 | succ n ih =>
  have all:∀(vs:List Val) (xs:List V) (ds:List PyData),ay B.K ρ H vs xs->cD (toD n h) vs=some ds->eG B.K H ds xs/\PyData.canLayAll0 ds=true/\PyData.depthAll ds<=n:=by
   intro vs
   induction vs with
   | nil=>intro xs ds q e;simp only[cD] at e;cases e;rw[ay] at q;subst q;exact⟨eG.nil,rfl,by simp[PyData.depthAll]⟩
   | cons v vs Xl =>intro xs ds q e;simp only[cD] at e;obtain⟨d,e1,e⟩:=bind_eq_some_iff.mp e;obtain⟨ds',e2,e⟩:=bind_eq_some_iff.mp e;cases e;rw[ay] at q;obtain⟨x,r,rfl,q1,q2⟩:=q;obtain⟨a1,a2,a3⟩:=ih v x d q1 e1;obtain⟨b1,b2,b3⟩:=Xl r ds' q2 e2;refine⟨eG.cons a1 b1,by simp[PyData.canLayAll0,a2,b2],?_⟩;simp only[PyData.depthAll];omega
  intro v x d q e;cases v with
  | non=>simp only[toD] at e;cases e;rw[VR] at q;subst q;exact⟨Den.none,rfl,by simp[PyData.depth]⟩
  | bl b=>simp only[toD] at e;cases e;rw[VR] at q;subst q;exact⟨Den.bool,rfl,by simp[PyData.depth]⟩
  | int b=>simp only[toD] at e;cases e;rw[VR] at q;subst q;exact⟨Den.int,rfl,by simp[PyData.depth]⟩
  | str b =>
   simp only[toD] at e;split at e
   ·rename_i hs;cases e;rw[VR] at q;subst q;exact⟨Den.str,by simp[PyData.canLay0,hs],by simp[PyData.depth]⟩
   ·cases e
  | tup vs =>simp only[toD] at e;obtain⟨ds,e1,e⟩:=bind_eq_some_iff.mp e;cases e;rw[VR] at q;obtain⟨a,xs,rfl,q1,q2⟩:=q;obtain⟨b1,b2,b3⟩:=all vs xs ds q2 e1;exact⟨Den.tuple q1 b1,by simp[PyData.canLay0,b2],by simp only[PyData.depth];omega⟩
  | rl vs =>simp only[toD] at e;obtain⟨ds,e1,e⟩:=bind_eq_some_iff.mp e;cases e;rw[VR] at q;obtain⟨a,xs,rfl,q1,q2⟩:=q;obtain⟨b1,b2,b3⟩:=all vs xs ds q2 e1;exact⟨Den.list q1.sq b1,by simp[PyData.canLay0,b2],by simp only[PyData.depth];omega⟩
  | dc _ _=>rw[VR] at q;exact q.elim
  | ob _ _ _=>rw[VR] at q;exact q.elim
  | ref i =>simp only[toD] at e;obtain⟨vs,e0,e⟩:=bind_eq_some_iff.mp e;obtain⟨ds,e1,e⟩:=bind_eq_some_iff.mp e;cases e;obtain⟨a,xs,rfl,q1,q2⟩:=fE r q e0;obtain⟨b1,b2,b3⟩:=all vs xs ds q2 e1;exact⟨Den.list q1 b1,by simp[PyData.canLay0,b2],by simp only[PyData.depth];omega⟩
end
end Hv
end
section
namespace Hv
open PySem L2 PyProof.Rows
theorem nk(x:List Int):∀l,(tF x l).Perm (x::l)
 | []=>.refl _
 | y::r=>by
  unfold tF;split
  ·exact((nk x r).cons y).trans (.swap _ _ _)
  ·exact .refl _
theorem pT:∀l,(lV l).Perm l
 | []=>.refl _
 | x::r=>(nk x _).trans ((pT r).cons x)
theorem u9{a b c:List Int}(h1:HT.lexLt b a=false)(h2:HT.lexLt c b=false):HT.lexLt c a=false:=by
 cases e:HT.lexLt c a with
 | false=>rfl
 | true =>
  rcases oJ.rQ c b a e with z|z
  ·rw[h2] at z;cases z
  ·rw[h1] at z;cases z
theorem vc{a b:List Int}(h:HT.lexLt a b=true):HT.lexLt b a=false:=by
 cases e:HT.lexLt b a with
 | false=>rfl
 | true=>have:=oJ.iy _ _ _ h e;rw[oJ.jv] at this;cases this
theorem yI(x:List Int):∀l:List (List Int),l.Pairwise (λa b=>HT.lexLt b a=false)->(tF x l).Pairwise (λa b=>HT.lexLt b a=false)
 | [],_=>by simp[tF]
 | y::r,h=>by
  obtain⟨h1,h2⟩:=pairwise_cons.mp h;unfold tF
  split
  ·rename_i hlt
   refine pairwise_cons.mpr ⟨λz hz=>?_,yI x r h2⟩
   rcases mem_cons.mp ((nk x r).mem_iff.mp hz) with rfl|hz
   ·exact vc hlt
   ·exact h1 z hz
  ·rename_i hlt
   refine pairwise_cons.mpr ⟨λz hz=>?_,h⟩;have hxy:HT.lexLt y x=false:=by simpa using hlt
   rcases mem_cons.mp hz with rfl|hz
   ·exact hxy
   ·exact u9 hxy (h1 z hz)
theorem vd:∀l,(lV l).Pairwise (λa b=>HT.lexLt b a=false)
 | []=>.nil
 | x::r=>yI x _ (vd r)
theorem Ca(hp:l.Perm oK)(hs:l.Pairwise (λa b=>HT.lexLt b a=false)):l=lV oK :=
 List.Perm.eq_of_pairwise (λa b _ _ h1 h2=>oJ.iw a b h2 h1) hs (vd oK) (hp.trans (pT oK).symm)
theorem As{ns:List Int}{m:Int}(h:m∈ns)(h2:∀a∈ns,m<=a):tG ns=some (.int m):=by
 cases ns with
 | nil=>cases h
 | cons a r =>
  have key:∀(r:List Int) (a:Int),(r.foldl min a)∈a::r/\∀b∈a::r,r.foldl min a<=b:=by
   intro r
   induction r with
   | nil=>intro a;simp
   | cons c r ih =>
    intro a;obtain⟨q1,q2⟩:=ih (min a c);refine⟨?_,λb hb=>?_⟩
    ·show List.foldl min (min a c) r∈_
     rcases mem_cons.mp q1 with z|z
     ·rw[z]
      rcases Int.le_total a c with hc|hc
      ·rw[Int.min_eq_left hc];exact mem_cons_self
      ·rw[Int.min_eq_right hc];exact mem_cons_of_mem _ mem_cons_self
     ·exact mem_cons_of_mem _ (mem_cons_of_mem _ z)
    ·show List.foldl min (min a c) r<=b
     have q3:=q2 (min a c) mem_cons_self
     rcases mem_cons.mp hb with z|z
     ·subst z;omega
     ·rcases mem_cons.mp z with z|z
      ·subst z;omega
      ·exact q2 b (mem_cons_of_mem _ z)
  obtain⟨q1,q2⟩:=key r a;show some (Val.int (r.foldl min a))=_;rw[Int.le_antisymm (q2 m h) (h2 _ q1)]
theorem Au{ns:List Int}{m:Int}(h:m∈ns)(h2:∀a∈ns,a<=m):tH ns=some (.int m):=by
 cases ns with
 | nil=>cases h
 | cons a r =>
  have key:∀(r:List Int) (a:Int),(r.foldl max a)∈a::r/\∀b∈a::r,b<=r.foldl max a:=by
   intro r
   induction r with
   | nil=>intro a;simp
   | cons c r ih =>
    intro a;obtain⟨q1,q2⟩:=ih (max a c);refine⟨?_,λb hb=>?_⟩
    ·show List.foldl max (max a c) r∈_
     rcases mem_cons.mp q1 with z|z
     ·rw[z]
      rcases Int.le_total a c with hc|hc
      ·rw[Int.max_eq_right hc];exact mem_cons_of_mem _ mem_cons_self
      ·rw[Int.max_eq_left hc];exact mem_cons_self
     ·exact mem_cons_of_mem _ (mem_cons_of_mem _ z)
    ·show b<=List.foldl max (max a c) r
     have q3:=q2 (max a c) mem_cons_self
     rcases mem_cons.mp hb with z|z
     ·subst z;omega
     ·rcases mem_cons.mp z with z|z
      ·subst z;omega
      ·exact q2 b (mem_cons_of_mem _ z)
  obtain⟨q1,q2⟩:=key r a;show some (Val.int (r.foldl max a))=_;rw[Int.le_antisymm (h2 _ q1) (q2 m h)]
noncomputable def Post(B:Bd)(EX:Nat->List V->Hp->Prop)(ρ:List Addr)(H:Hp){α:Type}(W:α -> Hs->List Addr->Hp->Prop):Out α -> Prop
 | .ok a h'=>∀ρ' H',Gr ρ H ρ' H'->HR B ρ' h' H'->W a h' ρ' H'
 | .exc c vs h'=>∀ρ' H' xs,Gr ρ H ρ' H'->HR B ρ' h' H'->ay B.K ρ' H' vs xs->EX c xs H'
 | .no=>False
noncomputable def WV(K:PySem.W.Frag)(Q:VK):Val->Hs->List Addr->Hp->Prop:=λv _ ρ' H'=>∀x,VR K ρ' H' v x->Q x H'
section
variable {B:Bd} {EX:Nat->List V->Hp->Prop} {ρ ρ':List Addr} {H H':Hp} {α β:Type} {W:β -> Hs->List Addr->Hp->Prop} {h h':Hs} {Q:VK}
theorem Post.up(g:Gr ρ H ρ' H')(p:Post B EX ρ H W o):Post B EX ρ' H' W o:=by
 cases o with
 | ok a h'=>exact λρ2 H2 g2 r=>p ρ2 H2 (g.trans g2) r
 | exc c vs h'=>exact λρ2 H2 xs g2 r=>p ρ2 H2 xs (g.trans g2) r
 | no=>exact p
theorem aH{c:Bool}(p:Post B EX ρ H W (aC c m h)):c=true/\Post B EX ρ H W (m h):=by
 unfold aC at p;split at p
 ·rename_i e;exact⟨e,p⟩
 ·exact p.elim
theorem aB(p:Post B EX ρ H W (bnd (ask f) g h)):∃a,f h=some a/\Post B EX ρ H W (g a h):=by
 unfold bnd ask bh at p;cases e:f h with
 | none=>rw[e] at p;exact p.elim
 | some a=>rw[e] at p;exact⟨a,rfl,p⟩
theorem dj(r:HR B ρ h H)(p:Post B EX ρ H W (ask f h)):∃a,f h=some a/\W a h ρ H:=by
 unfold ask bh at p;cases e:f h with
 | none=>rw[e] at p;exact p.elim
 | some a=>rw[e] at p;exact⟨a,rfl,p ρ H Gr.refl r⟩
theorem cy(p:Post B EX ρ H W (bnd (bh o) g h)):∃a,o=some a/\Post B EX ρ H W (g a h):=by
 unfold bnd bh at p;cases e:o with
 | none=>rw[e] at p;exact p.elim
 | some a=>rw[e] at p;exact⟨a,rfl,p⟩
theorem cN(r:HR B ρ h H)(p:Post B EX ρ H W (bh o h)):∃a,o=some a/\W a h ρ H:=by
 unfold bh at p;cases e:o with
 | none=>rw[e] at p;exact p.elim
 | some a=>rw[e] at p;exact⟨a,rfl,p ρ H Gr.refl r⟩
theorem ai(r:HR B ρ h H)(p:Post B EX ρ H W (ret a h)):W a h ρ H:=p ρ H Gr.refl r
theorem ve(r:HR B ρ h H)(hp:H p=none)(q:OR B (ρ ++ [p]) (upd H p O) p o)(w:Post B EX ρ H (WV B.K Q) (new o h)):Q (.ref p) (upd H p O) :=
 w (ρ ++ [p]) (upd H p O) (Gr.new hp) (r.new hp q) _ (yH r)
theorem cO(r:HR B ρ h H)(hp:H p=none)(q:ay B.K ρ H xs ys)(w:Post B EX ρ H (WV B.K Q) (new (.lst xs) h)):Q (.ref p) (upd H p (.lst ys)) :=
 ve (o:=.lst xs) (O:=.lst ys) r hp ⟨ys,aV,ay.up (Gr.new hp) _ _ q⟩ w
theorem pU(r:HR B ρ h H)(hp:H p=none)(q:ay B.K ρ H xs ys)(w:Post B EX ρ H (WV B.K Q) (ret (Val.tup xs) h)):Q (.ref p) (upd H p (.tup ys)) :=
 w ρ (upd H p (.tup ys)) (Gr.side hp) (r.side hp) _ (VR.tup (jF.of aV) (ay.up (Gr.side hp) _ _ q))
theorem au(p:Post B EX ρ H W (bnd m f h))(k:∀v h1 ρ1 x H1,Gr ρ H ρ1 H1->HR B ρ1 h1 H1->VR B.K ρ1 H1 v x->Post B EX ρ1 H1 W (f v h1)->Q x H1):Post B EX ρ H (WV B.K Q) (m h):=by
 unfold bnd at p;cases e:m h with
 | ok v h1=>rw[e] at p;exact λρ1 H1 g r x q=>k v h1 ρ1 x H1 g r q (Post.up g p)
 | exc c vs h1=>rw[e] at p;exact p
 | no=>rw[e] at p;exact p
theorem bu(p:Post B EX ρ H W (bnd m f h))(k:∀v h1 ρ1 H1,Gr ρ H ρ1 H1->HR B ρ1 h1 H1->Post B EX ρ1 H1 W (f v h1)->W' v h1 ρ1 H1):Post B EX ρ H W' (m h):=by
 unfold bnd at p;cases e:m h with
 | ok v h1=>rw[e] at p;exact λρ1 H1 g r=>k v h1 ρ1 H1 g r (Post.up g p)
 | exc c vs h1=>rw[e] at p;exact p
 | no=>rw[e] at p;exact p
end
theorem gF:∀{ds:List Val} {ns:List Int},aT ds=some ns->ds=ns.map .int
 | [],ns,e=>by simp only[aT,cD] at e;cases e;rfl
 | v::r,ns,e=>by
  simp only[aT,cD] at e;obtain⟨i,e1,e⟩:=bind_eq_some_iff.mp e;obtain⟨is,e2,e⟩:=bind_eq_some_iff.mp e;cases e;cases v<;>first|cases e1|skip
  rw[gF (show aT r=some is from e2)];rfl
theorem se:∀{ds:List Val} {oK:List (List Int)},kX ds=some oK->ds=oK.map lW/\∀ks∈oK,ks≠[]
 | [],ns,e=>by simp only[kX,cD] at e;cases e;exact⟨rfl,λ_ z=>nomatch z⟩
 | v::r,ns,e=>by
  simp only[kX,cD] at e;obtain⟨i,e1,e⟩:=bind_eq_some_iff.mp e;obtain⟨is,e2,e⟩:=bind_eq_some_iff.mp e;cases e;cases v<;>first|cases e1|skip
  rename_i vs;dsimp only at e1;split at e1
  ·cases e1
  ·rename_i hne
   obtain⟨q1,q2⟩:=se (show kX r=some is from e2);have e3:=gF e1;subst e3;refine⟨by rw[q1];rfl,λks hk=>?_⟩
   rcases mem_cons.mp hk with z|z
   ·subst z;intro z;subst z;exact hne rfl
   ·exact q2 ks z
section
variable {X:Cx} {cl:Nat->Addr} {EX:Nat->List V->Hp->Prop}
noncomputable abbrev bd(X:Cx)(cl:Nat->Addr):Bd:=⟨X.K,cl⟩
theorem FF:jP X (binaryOp .Add) (λx y H Q=>∃a b xs ys,x=.ref a/\y=.ref b/\iu X.K H a xs/\iu X.K H b ys/\xs.length+ys.length<=sizeLine/\∀p,H p=none->Q (.ref p) (upd H p (.lst (xs++ys)))):=by
 intro pins s σ H x y v u Q I rx ry h;obtain⟨l,l',xs,ys,rfl,rfl,q1,q3,hl,q⟩:=h;cases rx;cases ry;obtain⟨its,r1,Xm,z1⟩:=I.list q1;obtain⟨its',r2,Xn,z2⟩:=I.list q3;have l1:=r1.length;have l2:=r2.length;obtain⟨⟨oc,od,Xb,osl⟩,n1,e1,e2,_,e4⟩:=Xm;obtain⟨⟨oc',od',Xo,R3⟩,n2,f1,f2,_,f4⟩:=Xn;cases e2;cases e4;cases f2;cases f4;refine concat_meets ⟨_,e1,rfl⟩ ⟨_,f1,rfl⟩ noFill_list_add seq_list_add PySem.F.slot_list_add PySem.F.entry_list_add (PySem.F.args_list_add_2 _ _) (list_addW l l' its.toArray its'.toArray n1 n2 od od' osl R3 (by simp only[size_toArray];omega)) ⟨e1,f1,?_⟩;have ea:its.toArray++its'.toArray=(its++its').toArray:=by simp
 rw[ea];have hn:H s.heap.objs.size=none:=I.hok.fresh (Nat.le_refl _);exact⟨.ref s.heap.objs.size,_,I.RA (t':=s.toks) (its:=its++its') (r1.append r2) (by rw[length_append];omega),rfl,q _ hn⟩
noncomputable def xR:FA->Operator
 | .add=>.Add|.sub=>.Sub|.mul=>.Mult|.fdiv=>.FloorDiv|.mod=>.Mod|.pow=>.Pow
noncomputable def yJ:J7->CmpOp
 | .eq=>.Eq|.ne=>.NotEq|.lt=>.Lt|.le=>.LtE|.gt=>.Gt|.ge=>.GtE|.isn=>.Is|.ntn=>.IsNot|.uZ=>.In|.nin=>.NotIn
noncomputable def rB(B:Bd)(EX:Nat->List V->Hp->Prop)(o:FA):R2:=λx y H Q=>∃ρ h v w,HR B ρ h H/\VR B.K ρ H v x/\VR B.K ρ H w y/\Post B EX ρ H (WV B.K Q) (HQ o v w h)
theorem ic.log{j:Int}(h:ic j=true):0<j/\j.natAbs.log2<9000:=by
 have h:=of_decide_eq_true h;refine⟨h.1,(Nat.log2_lt (by omega)).mpr ?_⟩;have e:j.natAbs<2 ^ 200:=by
  have:(2:Nat) ^ 200=1606938044258990275541962092341162602522202993782792835301376:=by decide
  omega
 exact lt_of_lt_of_le e (Nat.pow_le_pow_right (by decide) (by decide))
theorem Cb:jP X (binaryOp .FloorDiv) (rI (λ_ j=>ic j=true) λi j=>.int (i/j)):=Jv λi j _ _ _ _ _ hc q=>by
 obtain⟨h1,h2⟩:=ic.log hc;exact PyProof.Rows.floordiv_int (by omega) (by rw[Int.fdiv_eq_ediv_of_nonneg i (by omega)];exact q) (.inl (PyProof.noPylong_of_log2 h2))
theorem Av:jP X (inplaceOp .FloorDiv) (rI (λ_ j=>ic j=true) λi j=>.int (i/j)):=Jv λi j _ _ _ _ _ hc q=>by
 obtain⟨h1,h2⟩:=ic.log hc;exact PyProof.Rows.ifloordiv_int (by omega) (by rw[Int.fdiv_eq_ediv_of_nonneg i (by omega)];exact q) (.inl (PyProof.noPylong_of_log2 h2))
theorem pV(ho:o≠.add)(v w:Val)(h:Hs):(∃i j,v=.int i/\w=.int j)\/HQ o v w h=.no:=by
 cases v with
 | int i =>
  cases w with
  | int j=>exact .inl ⟨i,j,rfl,rfl⟩
  | _=>right;cases o<;>first|rfl|exact absurd rfl ho
 | _=>right;cases o<;>first|rfl|exact absurd rfl ho
theorem Ka(o:FA):jP X (binaryOp (xR o)) (rB (bd X cl) EX o):=by
 intro pins s σ H x y v' u' Q I rx ry hh;obtain⟨ρ,h,v,w,r,hv,hw,p⟩:=hh;have lists:Post (bd X cl) EX ρ H (WV X.K Q) (bnd (ask λh=>aD h v) (λa=>bnd (ask λh=>aD h w) λb=>aC (decide (a.length+b.length<=sizeLine)) (new (.lst (a++b)))) h)->wpAny (model X.prog X.w) X.A (binaryOp .Add v' u') (EP X pins σ Q) X.xe s:=by intro p;obtain⟨a,e1,p⟩:=aB p;obtain⟨b,e2,p⟩:=aB p;obtain⟨e3,p⟩:=aH p;have e3:=of_decide_eq_true e3;obtain⟨a1,NX,rfl,k1,k2⟩:=fE r hv e1;obtain⟨a2,R4,rfl,k3,k4⟩:=fE r hw e2;exact FF pins s σ H _ _ v' u' Q I rx ry ⟨a1,a2,NX,R4,rfl,rfl,k1,k3,by rw[<-k2.length,<-k4.length];exact e3,λq hq=>cO r hq (ay.append k2 k4) p⟩
 cases o with
 | add =>
  cases v<;>cases w<;>first
   | exact lists p
   | skip
  ·rename_i a b;rw[VR] at hv hw;subst hv;subst hw;exact Jw pins s σ H _ _ _ _ Q I rx ry ⟨a,b,rfl,rfl,ai r p _ VR.int⟩
  ·rename_i a b;rw[VR] at hv hw;subst hv;subst hw;obtain⟨e,p⟩:=aH p;exact wV pins s σ H _ _ _ _ Q I rx ry ⟨a,b,rfl,rfl,of_decide_eq_true e,ai r p _ VR.str⟩
  ·rename_i a b
   rw[VR] at hv hw;obtain⟨a1,NX,rfl,k1,k2⟩:=hv;obtain⟨a2,R4,rfl,k3,k4⟩:=hw;obtain⟨e,p⟩:=aH p;simp only[and_eq_true,not_eq_true',decide_eq_true_eq] at e;refine E5 pins s σ H _ _ _ _ Q I rx ry ⟨a1,a2,NX,R4,rfl,rfl,k1,k3,?_,by rw[<-k2.length,<-k4.length];exact e.2,λz=>?_,λ_ q hq=>pU r hq (ay.append k2 k4) p⟩
   ·intro z;subst z
    have:=k2.length;cases a with
    | nil=>simp at e
    | cons _ _=>simp at this
   ·subst z
    have hb:b=[]:=by cases b with|nil=>rfl|cons _ _=>have:=k4.length;simp at this
    subst hb;rw[append_nil] at p;exact ai r p _ (VR.tup k1 k2)
 | sub =>
  rcases pV (o:=.sub) (by intro z;cases z) v w h with ⟨i,j,rfl,rfl⟩|z
  case inr=>rw[z] at p;exact p.elim
  rw[VR] at hv hw;subst hv;subst hw;exact Jx pins s σ H _ _ _ _ Q I rx ry ⟨_,_,rfl,rfl,ai r p _ VR.int⟩
 | mul =>
  rcases pV (o:=.mul) (by intro z;cases z) v w h with ⟨i,j,rfl,rfl⟩|z
  case inr=>rw[z] at p;exact p.elim
  rw[VR] at hv hw;subst hv;subst hw;obtain⟨hm,p⟩:=aH p;refine Jy pins s σ H _ _ _ _ Q I rx ry ⟨_,_,rfl,rfl,?_,ai r p _ VR.int⟩;unfold jV at hm;simp only[or_eq_true,and_eq_true,decide_eq_true_eq] at hm;exact hm
 | fdiv =>
  rcases pV (o:=.fdiv) (by intro z;cases z) v w h with ⟨i,j,rfl,rfl⟩|z
  case inr=>rw[z] at p;exact p.elim
  rw[VR] at hv hw;subst hv;subst hw;obtain⟨hm,p⟩:=aH p;exact Cb pins s σ H _ _ _ _ Q I rx ry ⟨_,_,rfl,rfl,hm,ai r p _ VR.int⟩
 | mod =>
  rcases pV (o:=.mod) (by intro z;cases z) v w h with ⟨i,j,rfl,rfl⟩|z
  case inr=>rw[z] at p;exact p.elim
  rw[VR] at hv hw;subst hv;subst hw;obtain⟨hm,p⟩:=aH p;exact Jz pins s σ H _ _ _ _ Q I rx ry ⟨_,_,rfl,rfl,of_decide_eq_true hm,ai r p _ VR.int⟩
 | pow =>
  rcases pV (o:=.pow) (by intro z;cases z) v w h with ⟨i,j,rfl,rfl⟩|z
  case inr=>rw[z] at p;exact p.elim
  rw[VR] at hv hw;subst hv;subst hw;obtain⟨hm,p⟩:=aH p;have hm:=of_decide_eq_true hm;exact JA pins s σ H _ _ _ _ Q I rx ry ⟨_,_,rfl,rfl,hm,ai r p _ VR.int⟩
end
end Hv
end
section
namespace Hv
open PySem L2 PyProof.Rows
section
variable {X:Cx} {cl:Nat->Addr} {EX:Nat->List V->Hp->Prop}
theorem vf{b:Bool}(e:Be h v w=some b):∃d f,toD 16 h v=some d/\toD 16 h w=some f/\b=PyData.eqv d f:=by
 unfold Be at e;obtain⟨d,e1,e⟩:=bind_eq_some_iff.mp e;obtain⟨f,e2,e⟩:=bind_eq_some_iff.mp e;exact⟨d,f,e1,e2,(Option.some.inj e).symm⟩
theorem yK{K:PySem.W.Frag}{ρ:List Addr}{H:Hp}{v:Val}{x:V}(q:VR K ρ H v x):decide (x=.non)=pP v:=by
 cases v<;>rw[VR] at q
 ·subst q;rfl
 ·subst q;rfl
 ·subst q;rfl
 ·subst q;rfl
 ·obtain⟨a,xs,rfl,_⟩:=q;rfl
 ·obtain⟨a,xs,rfl,_⟩:=q;rfl
 ·exact q.elim
 ·exact q.elim
 ·obtain⟨a,rfl,_⟩:=q;rfl
theorem Kc(hu:X.A.units+64<cLine)(neg:Bool):jP X (compareOp (if neg=true then .NotIn else .In)) (λx y H Q=>∃d f ds,Den X.K H d x/\Den X.K H f y/\d.canLay0=true/\f.canLay0=true/\d.depth<=16/\(f=.list ds\/f=.tuple ds)/\Q (.bl (if neg=true then !(ds.any λy=>PyData.eqv y d) else ds.any λy=>PyData.eqv y d)) H):=by
 intro pins s σ H x y v u Q I rx ry hh;obtain⟨d,f,ds,hd,hf,c1,c2,hz,e,q⟩:=hh;obtain⟨as,ra⟩:=Den.reads I d x v c1 hd rx;obtain⟨bs,rb⟩:=Den.reads I f y u c2 hf ry;have Qw:X.A.units+1+min (PyData.depthAll ds) d.depth<cLine:=by have:=Nat.min_le_right (PyData.depthAll ds) d.depth;omega
 rcases e with rfl|rfl
 ·have c3:PyData.canLayAll0 ds=true:=by simpa [PyData.canLay0] using c2
  cases neg with
  | true=>exact SeqAt.notIn_list_reads rb ra c3 c1 Qw ⟨.bl _,H,I,rfl,q⟩
  | false=>exact SeqAt.in_list_reads rb ra c3 c1 Qw ⟨.bl _,H,I,rfl,q⟩
 ·have c3:PyData.canLayAll0 ds=true:=by simpa [PyData.canLay0] using c2
  cases neg with
  | true=>exact SeqAt.notIn_tuple_reads rb ra c3 c1 Qw ⟨.bl _,H,I,rfl,q⟩
  | false=>exact SeqAt.in_tuple_reads rb ra c3 c1 Qw ⟨.bl _,H,I,rfl,q⟩
theorem gx.val{K:PySem.W.Frag}{ρ:List Addr}{H:Hp}(k:Key):∀{kvs:List (Key×Val)} {ks:List (Key×V)},gx K ρ H kvs ks->(bV kvs k=none->iC ks k=none)/\∀v,bV kvs k=some v->∃x,iC ks k=some x/\VR K ρ H v x
 | [],ks,e=>by
  have:ks=[]:=e;subst this;exact⟨λ_=>rfl,λv z=>by simp[bV] at z⟩
 | (k',v')::kvs,ks,⟨x,r,e,q1,q2⟩=>by
  subst e;obtain⟨a,b⟩:=gx.val k q2
  by_cases hk:k'=k
  ·subst hk;refine⟨λz=>by simp[bV] at z,λv z=>⟨x,by simp[iC],?_⟩⟩;simp[bV] at z;subst z;exact q1
  ·have e1:bV ((k',v')::kvs) k=bV kvs k:=by simp[bV,hk]
   have e2:iC ((k',x)::r) k=iC r k:=by simp[iC,hk]
   rw[e1,e2];exact⟨a,b⟩
theorem gx.length{K:PySem.W.Frag}{ρ:List Addr}{H:Hp}:∀{kvs:List (Key×Val)} {ks:List (Key×V)},gx K ρ H kvs ks->kvs.length=ks.length
 | [],ks,e=>by have:ks=[]:=e;subst this;rfl
 | (k',v')::kvs,ks,⟨x,r,e,q1,q2⟩=>by subst e;simp[gx.length q2]
theorem gx.any{K:PySem.W.Frag}{ρ:List Addr}{H:Hp}(k:Key):∀{kvs:List (Key×Val)} {ks:List (Key×V)},gx K ρ H kvs ks->(kvs.any λkv=>decide (kv.1=k))=(ks.any λkv=>decide (kv.1=k))
 | [],ks,e=>by have:ks=[]:=e;subst this;rfl
 | (k',v')::kvs,ks,⟨x,r,e,q1,q2⟩=>by subst e;simp only[any_cons];rw[gx.any k q2]
theorem gx.repl{K:PySem.W.Frag}{ρ:List Addr}{H:Hp}(k:Key){v:Val}{y:V}(q:VR K ρ H v y):∀{kvs:List (Key×Val)} {ks:List (Key×V)},gx K ρ H kvs ks->gx K ρ H (kvs.map λkv=>if kv.1=k then (kv.1,v) else kv) (ks.map λkv=>if kv.1=k then (kv.1,y) else kv)
 | [],ks,e=>by have:ks=[]:=e;subst this;rfl
 | (k',v')::kvs,ks,⟨x,r,e,q1,q2⟩=>by
  subst e;simp only[map_cons]
  by_cases hk:k'=k
  ·rw[if_pos hk,if_pos hk];exact⟨y,_,rfl,q,gx.repl k q q2⟩
  ·rw[if_neg hk,if_neg hk];exact⟨x,_,rfl,q1,gx.repl k q q2⟩
theorem gx.snoc{K:PySem.W.Frag}{ρ:List Addr}{H:Hp}(k:Key){v:Val}{y:V}(q:VR K ρ H v y):∀{kvs:List (Key×Val)} {ks:List (Key×V)},gx K ρ H kvs ks->gx K ρ H (kvs++[(k,v)]) (ks++[(k,y)])
 | [],ks,e=>by have:ks=[]:=e;subst this;exact⟨y,[],rfl,q,rfl⟩
 | (k',v')::kvs,ks,⟨x,r,e,q1,q2⟩=>by subst e;exact⟨x,_,rfl,q1,gx.snoc k q q2⟩
theorem gx.put{K:PySem.W.Frag}{ρ:List Addr}{H:Hp}(k:Key){v:Val}{y:V}(q:VR K ρ H v y){kvs:List (Key×Val)}{ks:List (Key×V)}(e:gx K ρ H kvs ks):gx K ρ H (gI kvs k v) (putK ks k y):=by
 unfold gI putK;rw[gx.any k e]
 split
 ·exact gx.repl k q e
 ·exact gx.snoc k q e
theorem Cc{K:PySem.W.Frag}{ρ:List Addr}{H:Hp}{v:Val}{x:V}{k:Key}(q:VR K ρ H v x)(e:keyOf v=some k):x=kV k:=by
 cases v<;>simp only[keyOf] at e<;>first|cases e|skip
 ·rw[VR] at q;exact q
 ·rw[VR] at q;exact q
theorem yL(hu:X.A.units+64<cLine):MH X (λx y H Q=>∃a v,x=.ref a/\kN H a y (some v)/\Q v H):=by
 intro value slice pins s σ H x y v u Q I rx ry h hs;obtain⟨a,z,rfl,g,q⟩:=h;cases rx;have hT:=uJ I g;unfold subscriptTail;refine wpAny_bind ?_;rw[getitemInPython_of_ne hT.not_modules];refine wpAny_bind (wpAny_specialOf hT PySem.F.slot_dict_getitem.lookup ?_);have fin:wpAny (model X.prog X.w) X.A (subscripted slice false (.ref a) u) (λr s₃=>wpAny (model X.prog X.w) X.A (letTemporaryGo value (.ref a) r >>= λ_=>pure r) (EP X pins σ Q) X.xe s₃) X.xe s:=by rw[hs];exact wpAny_operating (z8 (by omega) I g ry λw' s' I' r'=>wpAny_bind (wpAny_letTemporaryGo (wpAny_pure ⟨z,H,I',r',q⟩)))
 first
  | exact wpAny_pure (wpAny_bind fin)
  | exact wpAny_bind (wpAny_pure (wpAny_bind fin))
  | exact wpAny_bind fin
noncomputable def rC(B:Bd)(o:J7):R2:=λx y H Q=>∃ρ h v w b,HR B ρ h H/\VR B.K ρ H v x/\VR B.K ρ H w y/\cop h o v w=some b/\Q (.bl b) H
theorem lZ{b:Bool}(e:memD h v w=some b):∃d f ds,toD 16 h v=some d/\toD 16 h w=some f/\(f=.list ds\/f=.tuple ds)/\b=ds.any λy=>PyData.eqv y d:=by
 unfold memD at e;obtain⟨f,e1,e⟩:=bind_eq_some_iff.mp e;obtain⟨d,e2,e⟩:=bind_eq_some_iff.mp e;cases f<;>simp only[J8] at e<;>first|cases e|skip
 ·exact⟨d,_,_,e2,e1,.inl rfl,rfl⟩
 ·exact⟨d,_,_,e2,e1,.inr rfl,rfl⟩
theorem Aw{b:Bool}(hw:∀ks vs,w≠.dc ks vs)(e:tK h v w=some b):(∃x y,v=.str x/\w=.str y/\b = !(Builtin.Str.occurrences y x 0 y.length 1).isEmpty)\/(∃i kvs k,w=.ref i/\h[i]?=some (.dct kvs)/\keyOf v=some k/\b=(bV kvs k).isSome) \/
  ∃d f ds,toD 16 h v=some d/\toD 16 h w=some f/\(f=.list ds\/f=.tuple ds)/\b=ds.any λy=>PyData.eqv y d:=by
 cases w with
 | ref i =>
  have e':(h[i]?).bind (FE h v i)=some b:=by cases v<;>exact e
  obtain⟨ob,e1,e2⟩:=bind_eq_some_iff.mp e';cases ob with
  | dct kvs =>obtain⟨k,e3,e4⟩:=bind_eq_some_iff.mp (show (keyOf v).bind _=some b from e2);exact .inr (.inl ⟨i,kvs,k,rfl,e1,e3,(Option.some.inj e4).symm⟩)
  | lst xs=>exact .inr (.inr (lZ e2))
  | ins c fs=>exact .inr (.inr (lZ e2))
 | dc ks vs=>exact absurd rfl (hw ks vs)
 | str y =>
  cases v with
  | str x=>exact .inl ⟨x,y,rfl,rfl,(Option.some.inj e).symm⟩
  | _=>exact .inr (.inr (lZ e))
 | _=>exact .inr (.inr (lZ (by cases v<;>exact e)))
theorem Cd(hu:X.A.units+64<cLine)(o:J7):jP X (compareOp (yJ o)) (rC (bd X cl) o):=by
 intro pins s σ H x y v' u' Q I rx ry hh;obtain⟨ρ,h,v,w,b,r,hv,hw,e,q⟩:=hh;have mem:∀(neg:Bool),tK h v w=some (if neg=true then !b else b)->wpAny (model X.prog X.w) X.A (compareOp (if neg=true then .NotIn else .In) v' u') (EP X pins σ Q) X.xe s:=by
  intro neg e;have nd:∀ks vs,w≠.dc ks vs:=λks vs z=>by subst z;rw[VR] at hw;exact hw.elim
  rcases Aw nd e with ⟨a,c,rfl,rfl,eb⟩|⟨i,kvs,k,rfl,e1,e2,eb⟩|⟨d,f,ds,e1,e2,e3,eb⟩
  ·rw[VR] at hv;rw[VR] at hw;subst hv;subst hw
   cases neg with
   | true =>refine sS pins s σ H _ _ v' u' Q I rx ry ⟨a,c,rfl,rfl,?_⟩;rw[if_pos rfl] at eb;rw[<-eb,Bool.not_not];exact q
   | false =>refine zT pins s σ H _ _ v' u' Q I rx ry ⟨a,c,rfl,rfl,?_⟩;rw[if_neg Bool.false_ne_true] at eb;rw[<-eb];exact q
  ·rw[VR] at hw
   obtain⟨a,rfl,k1⟩:=hw;obtain⟨ks,k2,k3⟩:=r.ob i _ a e1 k1;have ex:=Cc hv e2;subst ex;have es:(iC ks k).isSome=(bV kvs k).isSome:=by
    obtain⟨z1,z2⟩:=gx.val k k3;cases e4:bV kvs k with
    | none=>rw[z1 e4];rfl
    | some z=>obtain⟨x,z3,_⟩:=z2 z e4;rw[z3];rfl
   cases ry;cases neg with
   | true =>refine Fc (by omega) I (kN.k (k:=k) k2) rx λs' I'=>⟨.bl _,H,I',rfl,?_⟩;rw[if_pos rfl] at eb;rw[es,<-eb,Bool.not_not];exact q
   | false =>refine RB (by omega) I (kN.k (k:=k) k2) rx λs' I'=>⟨.bl _,H,I',rfl,?_⟩;rw[if_neg Bool.false_ne_true] at eb;rw[es,<-eb];exact q
  ·obtain⟨a1,a2,a3⟩:=nj r 16 v x d hv e1
   obtain⟨b1,b2,b3⟩:=nj r 16 w y f hw e2;refine Kc hu neg pins s σ H x y v' u' Q I rx ry ⟨d,f,ds,a1,b1,a2,b2,a3,e3,?_⟩;cases neg with
   | true=>rw[if_pos rfl] at eb |-;rw[<-eb,Bool.not_not];exact q
   | false=>rw[if_neg Bool.false_ne_true] at eb |-;rw[<-eb];exact q
 cases o with
 | eq =>obtain⟨d,f,e1,e2,rfl⟩:=vf (show Be h v w=some b by exact e);obtain⟨a1,a2,a3⟩:=nj r 16 v x d hv e1;obtain⟨b1,b2,b3⟩:=nj r 16 w y f hw e2;exact J0 hu pins s σ H x y v' u' Q I rx ry ⟨d,f,a1,b1,a2,b2,by omega,q⟩
 | ne =>have e':(Be h v w).map (!·)=some b:=e;obtain⟨c,e3,rfl⟩:=map_eq_some_iff.mp e';obtain⟨d,f,e1,e2,rfl⟩:=vf e3;obtain⟨a1,a2,a3⟩:=nj r 16 v x d hv e1;obtain⟨b1,b2,b3⟩:=nj r 16 w y f hw e2;exact J1 hu pins s σ H x y v' u' Q I rx ry ⟨d,f,a1,b1,a2,b2,by omega,q⟩
 | lt =>obtain⟨i,j,rfl,rfl⟩:=jX (.inl rfl) e;cases e;rw[VR] at hv;rw[VR] at hw;subst hv;subst hw;exact Nl pins s σ H _ _ v' u' Q I rx ry ⟨_,_,rfl,rfl,q⟩
 | le =>obtain⟨i,j,rfl,rfl⟩:=jX (.inr (.inl rfl)) e;cases e;rw[VR] at hv;rw[VR] at hw;subst hv;subst hw;exact Nm pins s σ H _ _ v' u' Q I rx ry ⟨_,_,rfl,rfl,q⟩
 | gt =>obtain⟨i,j,rfl,rfl⟩:=jX (.inr (.inr (.inl rfl))) e;cases e;rw[VR] at hv;rw[VR] at hw;subst hv;subst hw;exact Nn pins s σ H _ _ v' u' Q I rx ry ⟨_,_,rfl,rfl,q⟩
 | ge =>obtain⟨i,j,rfl,rfl⟩:=jX (.inr (.inr (.inr rfl))) e;cases e;rw[VR] at hv;rw[VR] at hw;subst hv;subst hw;exact Np pins s σ H _ _ v' u' Q I rx ry ⟨_,_,rfl,rfl,q⟩
 | isn =>
  have e:HS v w=some b:=e;cases w<;>first|(cases e;done)|skip
  ·cases e;rw[VR] at hw;subst hw;refine JB pins s σ H x _ v' u' Q I rx ry ⟨rfl,?_⟩;rw[yK hv];exact q
  ·cases v<;>first|(cases e;done)|skip
   cases e;rw[VR] at hv;rw[VR] at hw;subst hv;subst hw;exact J3 pins s σ H _ _ v' u' Q I rx ry ⟨_,_,rfl,rfl,q⟩
 | ntn =>
  have e:(HS v w).map (!·)=some b:=e;cases w<;>first|(cases e;done)|skip
  ·cases e;rw[VR] at hw;subst hw;refine EO pins s σ H x _ v' u' Q I rx ry ⟨rfl,?_⟩;rw[yK hv];exact q
  ·cases v<;>first|(cases e;done)|skip
   cases e;rw[VR] at hv;rw[VR] at hw;subst hv;subst hw;exact Fz pins s σ H _ _ v' u' Q I rx ry ⟨_,_,rfl,rfl,q⟩
 | uZ=>exact mem false (by rw[if_neg Bool.false_ne_true];exact e)
 | nin =>have e':(tK h v w).map (!·)=some b:=e;obtain⟨c,e3,rfl⟩:=map_eq_some_iff.mp e';exact mem true (by rw[e3];simp)
theorem Kd{b:Bool}(r:HR B ρ h H)(q:VR B.K ρ H v x)(e:dJ h v=some b):JC B.K x H b:=by
 cases v with
 | non=>rw[VR] at q;subst q;exact(Option.some.inj e).symm
 | bl c=>rw[VR] at q;subst q;exact(Option.some.inj e).symm
 | int i=>rw[VR] at q;subst q;exact(Option.some.inj e).symm
 | str z =>
  rw[VR] at q;subst q;simp only[dJ] at e;split at e
  ·rename_i hl;exact⟨hl,(Option.some.inj e).symm⟩
  ·cases e
 | tup vs =>rw[VR] at q;obtain⟨a,xs,rfl,q1,q2⟩:=q;refine .inr (.inl ⟨xs,q1,?_⟩);rw[<-Option.some.inj e];have:=q2.length;cases vs<;>cases xs<;>simp_all
 | rl vs =>rw[VR] at q;obtain⟨a,xs,rfl,q1,q2⟩:=q;refine .inl ⟨xs,q1.sq,?_⟩;rw[<-Option.some.inj e];have:=q2.length;cases vs<;>cases xs<;>simp_all
 | dc _ _=>rw[VR] at q;exact q.elim
 | ob _ _ _=>rw[VR] at q;exact q.elim
 | ref i =>
  rw[VR] at q;obtain⟨a,rfl,q1⟩:=q;simp only[dJ] at e;split at e
  ·rename_i vs e1;obtain⟨xs,k1,k2⟩:=r.ob i _ a e1 q1;refine .inl ⟨xs,.inl (.inl k1),?_⟩;rw[<-Option.some.inj e];have:=k2.length;cases vs<;>cases xs<;>simp_all
  ·rename_i vs e1;obtain⟨xs,k1,k2⟩:=r.ob i _ a e1 q1;refine .inr (.inr ⟨xs,k1,?_⟩);rw[<-Option.some.inj e];have:=k2.length;cases vs<;>cases xs<;>simp_all
  ·cases e
noncomputable def R5(B:Bd):R2:=λx y H Q=>∃ρ h v w z,HR B ρ h H/\VR B.K ρ H v x/\VR B.K ρ H w y/\ni h v w=some z/\∀u,VR B.K ρ H z u->Q u H
theorem Ke(hu:X.A.units+64<cLine):MH X (R5 (bd X cl)):=by
 intro value slice pins s σ H x y v' u' Q I rx ry hh hs;obtain⟨ρ,h,v,w,z,r,hv,hw,e,q⟩:=hh;cases v with
 | str t =>
  cases w<;>first|cases e|skip
  rename_i i;change (if t.length<=sizeLine then (jQ t.cps.toList i).map (λc=>Val.str ⟨#[c]⟩) else none)=some z at e;split at e
  ·rename_i hl;obtain⟨c,e1,rfl⟩:=map_eq_some_iff.mp e;rw[VR] at hv;rw[VR] at hw;subst hv;subst hw;exact JM value slice pins s σ H _ _ v' u' Q I rx ry ⟨t,i,c,rfl,rfl,hl,e1,q _ VR.str⟩ hs
  ·cases e
 | tup vs =>
  cases w<;>first|cases e|skip
  rename_i i;rw[VR] at hv;rw[VR] at hw;subst hw;obtain⟨a,xs,rfl,q1,q2⟩:=hv;obtain⟨t,e2,q3⟩:=ay.jQ q2 e;exact JL value slice pins s σ H _ _ v' u' Q I rx ry ⟨a,xs,i,t,rfl,rfl,q1,e2,q _ q3⟩ hs
 | rl vs =>
  cases w<;>first|cases e|skip
  rename_i i;rw[VR] at hv;rw[VR] at hw;subst hw;obtain⟨a,xs,rfl,q1,q2⟩:=hv;obtain⟨t,e2,q3⟩:=ay.jQ q2 e;exact yx value slice pins s σ H _ _ v' u' Q I rx ry ⟨a,xs,i,t,rfl,rfl,q1.sq,e2,q _ q3⟩ hs
 | ref j =>
  cases w with
  | int i =>
   change (match h[j]? with|some (.dct kvs)=>bV kvs (.inl i)|_=>(aD h (.ref j)).bind λxs=>jQ xs i)=some z at e;split at e
   ·rename_i kvs e1;rw[VR] at hv;obtain⟨a,rfl,q1⟩:=hv;obtain⟨ks,k1,k2⟩:=r.ob j _ a e1 q1;obtain⟨t,e2,q3⟩:=(gx.val (.inl i) k2).2 z e;have g:kN H a (kV (.inl i)) (iC ks (.inl i)):=kN.k k1;rw[e2] at g;rw[VR] at hw;subst hw;exact yL hu value slice pins s σ H _ _ v' u' Q I rx ry ⟨a,t,rfl,g,q _ q3⟩ hs
   ·obtain⟨vs,e1,e⟩:=bind_eq_some_iff.mp e;obtain⟨a,xs,rfl,q1,q2⟩:=fE r hv e1;rw[VR] at hw;subst hw;obtain⟨t,e2,q3⟩:=ay.jQ q2 e;exact yx value slice pins s σ H _ _ v' u' Q I rx ry ⟨a,xs,i,t,rfl,rfl,q1,e2,q _ q3⟩ hs
  | str y =>
   change (match h[j]? with|some (.dct kvs)=>bV kvs (.inr y)|_=>none)=some z at e;split at e
   ·rename_i kvs e1;rw[VR] at hv;obtain⟨a,rfl,q1⟩:=hv;obtain⟨ks,k1,k2⟩:=r.ob j _ a e1 q1;obtain⟨t,e2,q3⟩:=(gx.val (.inr y) k2).2 z e;have g:kN H a (kV (.inr y)) (iC ks (.inr y)):=kN.k k1;rw[e2] at g;rw[VR] at hw;subst hw;exact yL hu value slice pins s σ H _ _ v' u' Q I rx ry ⟨a,t,rfl,g,q _ q3⟩ hs
   ·cases e
  | _=>cases e
 | dc _ _=>rw[VR] at hv;exact hv.elim
 | _=>cases w<;>cases e
noncomputable def Xp(B:Bd)(EX:Nat->List V->Hp->Prop):V->Option Int->Option Int->Hp->VK->Prop:=λx lo hi H Q=>∃ρ h v,HR B ρ h H/\VR B.K ρ H v x/\Post B EX ρ H (WV B.K Q) (qU v lo hi h)
theorem Kf:Qq X (Xp (bd X cl) EX):=by
 intro pins s σ H x v' vl vu lo hi sl Q I rx hs pl pu hh;obtain⟨ρ,h,v,r,hv,p⟩:=hh;have lists:Post (bd X cl) EX ρ H (WV X.K Q) (bnd (ask λh=>aD h v) (λxs=>new (.lst (dR xs lo hi))) h)->∃T id,typeLookup (.type T) "__getitem__" = pure (some (.builtin id))/\s.TypeIs v' T/\wpAny (model X.prog X.w) X.A (getItem v' (.ref sl)) (EP X pins σ Q) X.xe s:=by intro p;obtain⟨a,e1,p⟩:=aB p;obtain⟨a1,NX,rfl,k1,k2⟩:=fE r hv e1;exact E6 pins s σ H _ v' vl vu lo hi sl Q I rx hs pl pu ⟨a1,NX,rfl,k1,λq hq=>cO r hq (ay.cut lo hi k2) p⟩
 cases v with
 | tup vs =>simp only[qU] at p;rw[VR] at hv;obtain⟨a,xs,rfl,q1,q2⟩:=hv;obtain⟨e,p⟩:=aH p;refine JK pins s σ H _ v' vl vu lo hi sl Q I rx hs pl pu ⟨a,xs,rfl,q1,?_,λq hq=>pU r hq (ay.cut lo hi q2) p⟩;rw[<-q2.length];simp only[not_eq_true',Bool.and_eq_false_iff,decide_eq_false_iff_not] at e;rintro⟨z1,z2⟩;exact e.elim (λk=>k z1) λk=>k z2
 | _=>exact lists p
end
end Hv
end
section
set_option backward.match.sparseCases false
namespace Hv
open PySem L2 PyProof.Rows
section
variable {X:Cx} {cl:Nat->Addr} {EX:Nat->List V->Hp->Prop}
noncomputable def Ep(B:Bd)(EX:Nat->List V->Hp->Prop)(b:Bl):List V->Hp->VK->Prop:=λxs H Q=>∃ρ h vs,HR B ρ h H/\ay B.K ρ H vs xs/\Post B EX ρ H (WV B.K Q) (blt b vs h)
theorem Kg:cS X (.builtin "len") (Ep (bd X cl) EX .len):=by
 intro pins s σ H xs us Q I rr hh;obtain⟨ρ,h,vs,r,hv,p⟩:=hh
 match vs,p with
 | [v],p =>
  obtain⟨n,e,p⟩:=aB p;obtain⟨x,rfl,hx⟩:=ay.one hv;have fin:=ai r p _ VR.int;cases v with
  | str z =>
   simp only[lX] at e;split at e
   ·rename_i hl;cases e;rw[VR] at hx;subst hx;exact L2.lK pins s σ H _ us Q I rr ⟨_,z.length,rfl,⟨hl,rfl⟩,fin⟩
   ·cases e
  | tup vs =>simp only[lX] at e;cases e;rw[VR] at hx;obtain⟨a,ys,rfl,q1,q2⟩:=hx;refine L2.lK pins s σ H _ us Q I rr ⟨_,ys.length,rfl,.inr ⟨ys,q1,rfl⟩,?_⟩;rw[<-q2.length];exact fin
  | rl vs =>simp only[lX] at e;cases e;rw[VR] at hx;obtain⟨a,ys,rfl,q1,q2⟩:=hx;refine L2.lK pins s σ H _ us Q I rr ⟨_,ys.length,rfl,.inl ⟨ys,q1.sq,rfl⟩,?_⟩;rw[<-q2.length];exact fin
  | dc _ _=>rw[VR] at hx;exact hx.elim
  | ob _ _ _=>rw[VR] at hx;exact hx.elim
  | ref i =>
   rw[VR] at hx;obtain⟨a,rfl,q1⟩:=hx;simp only[lX] at e;split at e
   ·rename_i vs e1;cases e;obtain⟨ys,k1,k2⟩:=r.ob i _ a e1 q1;refine L2.lK pins s σ H _ us Q I rr ⟨_,ys.length,rfl,.inl ⟨ys,.inl (.inl k1),rfl⟩,?_⟩;rw[<-k2.length];exact fin
   ·rename_i vs e1;cases e;obtain⟨ks,k1,k2⟩:=r.ob i _ a e1 q1;refine Ac pins s σ H _ us Q I rr ⟨a,ks,rfl,k1,?_⟩;rw[<-k2.length];exact fin
   ·cases e
  | _=>simp only[lX] at e;cases e
theorem Kh(hc:X.calm=true):cS X (.builtin "min") (Ep (bd X cl) EX .min):=by
 intro pins s σ H xs us Q I rr hh;obtain⟨ρ,h,vs,r,hv,p⟩:=hh;have seq:∀v,vs=[v]->Post (bd X cl) EX ρ H (WV X.K Q) (bnd (ask λh=>dD h v) (λxs=>bh ((aT xs).bind tG)) h)->wpAny (model X.prog X.w) X.A (call (.builtin "min") us) (EP X pins σ Q) X.xe s:=by
  rintro v rfl p;obtain⟨zs,e,p⟩:=aB p;obtain⟨x,rfl,hx⟩:=ay.one hv;obtain⟨a,ys,rfl,q1,q2⟩:=xQ r hx e;obtain⟨m,e1,p⟩:=cN r p;obtain⟨ns,e2,e3⟩:=bind_eq_some_iff.mp e1;rw[gF e2] at q2;rw[ay.ints.mp q2] at q1;have hne:0<ns.length:=by cases ns with|nil=>cases e3|cons _ _=>simp
  refine tB hc pins s σ H _ us Q I rr ⟨a,ns,rfl,q1,hne,λm hm hmin=>?_⟩;rw[As hm hmin] at e3;cases e3;exact p _ VR.int
 match vs,p with
 | [.int a,.int b],p =>obtain⟨x,y,rfl,hx,hy⟩:=ay.two hv;rw[VR] at hx;rw[VR] at hy;subst hx;subst hy;exact zV hc pins s σ H _ us Q I rr ⟨a,b,rfl,ai r p _ VR.int⟩
 | [v],p=>exact seq v rfl (by cases v<;>exact p)
theorem Kl(hc:X.calm=true):cS X (.builtin "max") (Ep (bd X cl) EX .max):=by
 intro pins s σ H xs us Q I rr hh;obtain⟨ρ,h,vs,r,hv,p⟩:=hh;have seq:∀v,vs=[v]->Post (bd X cl) EX ρ H (WV X.K Q) (bnd (ask λh=>dD h v) (λxs=>bh ((aT xs).bind tH)) h)->wpAny (model X.prog X.w) X.A (call (.builtin "max") us) (EP X pins σ Q) X.xe s:=by
  rintro v rfl p;obtain⟨zs,e,p⟩:=aB p;obtain⟨x,rfl,hx⟩:=ay.one hv;obtain⟨a,ys,rfl,q1,q2⟩:=xQ r hx e;obtain⟨m,e1,p⟩:=cN r p;obtain⟨ns,e2,e3⟩:=bind_eq_some_iff.mp e1;rw[gF e2] at q2;rw[ay.ints.mp q2] at q1;have hne:0<ns.length:=by cases ns with|nil=>cases e3|cons _ _=>simp
  refine tD hc pins s σ H _ us Q I rr ⟨a,ns,rfl,q1,hne,λm hm hmin=>?_⟩;rw[Au hm hmin] at e3;cases e3;exact p _ VR.int
 match vs,p with
 | [.int a,.int b],p =>obtain⟨x,y,rfl,hx,hy⟩:=ay.two hv;rw[VR] at hx;rw[VR] at hy;subst hx;subst hy;exact zU hc pins s σ H _ us Q I rr ⟨a,b,rfl,ai r p _ VR.int⟩
 | [v],p=>exact seq v rfl (by cases v<;>exact p)
theorem Ax:cS X (.builtin "sorted") (Ep (bd X cl) EX .sorted):=by
 intro pins s σ H xs us Q I rr hh;obtain⟨ρ,h,vs,r,hv,p⟩:=hh
 match vs,p with
 | [v],p =>
  obtain⟨zs,e,p⟩:=aB p;obtain⟨out,e1,p⟩:=cy p;obtain⟨x,rfl,hx⟩:=ay.one hv;obtain⟨a,ys,rfl,q1,q2⟩:=fE r hx e;unfold fU at e1;split at e1
  ·rename_i h64
   cases e2:aT zs with
   | some ns =>rw[e2] at e1;cases e1;rw[gF e2] at q2 h64;rw[ay.ints.mp q2] at q1;rw[length_map] at h64;exact m5 pins s σ H _ us Q I rr ⟨a,ns,rfl,q1,h64,λl hl=>cO r hl (ay.ints.mpr rfl) p⟩
   | none =>rw[e2] at e1;obtain⟨oK,e3,e4⟩:=bind_eq_some_iff.mp e1;cases e4;obtain⟨g1,g2⟩:=se e3;rw[g1] at q2 h64;obtain⟨rs,r1,r2,r3⟩:=ay.tups q2;rw[r1] at q1;rw[length_map,r2,length_map] at h64;refine m8 pins s σ H _ us Q I rr ⟨a,rs,rfl,q1,h64,λp hp=>⟨r3 p hp,g2 _ (by rw[r2];exact mem_map_of_mem hp)⟩,λl qs hl hp hs=>?_⟩;have e4:qs.map (·.2)=lV oK:=Ca (by rw[r2];exact hp.map _) (pairwise_map.mpr hs);rw[<-e4] at p;exact cO r hl (ay.yG λz hz=>r3 z (hp.mem_iff.mp hz)) p
  ·cases e1
theorem FG:cS X (.type "list") (Ep (bd X cl) EX .list):=by
 intro pins s σ H xs us Q I rr hh;obtain⟨ρ,h,vs,r,hv,p⟩:=hh
 match vs,p with
 | [v],p =>obtain⟨zs,e,p⟩:=aB p;obtain⟨x,rfl,hx⟩:=ay.one hv;obtain⟨a,ys,rfl,q1,q2⟩:=xQ r hx e;exact sX pins s σ H _ us Q I rr ⟨a,ys,rfl,q1,λl hl=>cO r hl q2 p⟩
theorem Ce:cS X (.type "tuple") (Ep (bd X cl) EX .tuple):=by
 intro pins s σ H xs us Q I rr hh;obtain⟨ρ,h,vs,r,hv,p⟩:=hh;exact(show False from p).elim
theorem Km:cS X (.type "str") (Ep (bd X cl) EX .str):=by
 intro pins s σ H xs us Q I rr hh;obtain⟨ρ,h,vs,r,hv,p⟩:=hh;exact(show False from p).elim
theorem Kn:cS X (.type "int") (Ep (bd X cl) EX .int):=by
 intro pins s σ H xs us Q I rr hh;obtain⟨ρ,h,vs,r,hv,p⟩:=hh
 match vs,p with
 | [.int i],p =>obtain⟨x,rfl,hx⟩:=ay.one hv;rw[VR] at hx;subst hx;exact rF pins s σ H _ us Q I rr (.inl ⟨i,rfl,ai r p _ VR.int⟩)
 | [.bl i],p =>obtain⟨x,rfl,hx⟩:=ay.one hv;rw[VR] at hx;subst hx;exact rF pins s σ H _ us Q I rr (.inr ⟨i,rfl,ai r p _ VR.int⟩)
theorem Ko(hc:X.calm=true):cS X (.builtin "all") (Ep (bd X cl) EX .all):=by
 intro pins s σ H xs us Q I rr hh;obtain⟨ρ,h,vs,r,hv,p⟩:=hh;exact(show False from p).elim
theorem Kp(hc:X.calm=true):cS X (.builtin "any") (Ep (bd X cl) EX .any):=by
 intro pins s σ H xs us Q I rr hh;obtain⟨ρ,h,vs,r,hv,p⟩:=hh;exact(show False from p).elim
noncomputable def Xq(B:Bd)(EX:Nat->List V->Hp->Prop)(T:String):List V->Hp->VK->Prop:=λxs H Q=>∃ρ h v x,xs=[x,.ty T]/\HR B ρ h H/\VR B.K ρ H v x/\Post B EX ρ H (WV B.K Q) (blt (.isin T) [v] h)
theorem FH(K:PySem.W.Frag)(t T:String)(ht:t∈["NoneType","bool","int","str","list","tuple","dict"])(hT:T∈["list","tuple","str","bool","int","dict"]) :
  kitOne K (.type t) (.type T)=some (decide (T=t\/(T = "int" /\ t = "bool"))):=by
 simp only[mem_cons,not_mem_nil,or_false] at ht hT
 rcases ht with rfl|rfl|rfl|rfl|rfl|rfl|rfl<;>rcases hT with rfl|rfl|rfl|rfl|rfl|rfl<;>rfl
theorem FI{T:String}:cS X (.builtin "isinstance") (Xq (bd X cl) EX T):=by
 intro pins s σ H xs us Q I rr hh;obtain⟨ρ,h,v,x,rfl,r,hx,p⟩:=hh;obtain⟨u,w',rfl,r1,r2⟩:=vals2 rr;cases r2;obtain⟨t,e,p⟩:=aB p;obtain⟨b,e1,p⟩:=cy p;have q:=ai r p _ VR.bl;unfold u7 at e1;split at e1
 ·rename_i Xr
  have hT:T∈["list","tuple","str","bool","int","dict"]:=by simpa using Xr
  cases e1;have fin:∀tk,EP X pins σ Q (.bool (decide (T=t\/(T = "int" /\ t = "bool")))) { s with toks:=tk }:=λtk=>⟨.bl _,H,I.tok _,rfl,q⟩;have tab:=λht=>FH X.K t T ht hT;cases v with
  | non=>rw[VR] at hx;subst hx;cases r1;simp only[u6] at e;cases e;exact kia_one kitx_none I.jE True.intro (tab (by simp)) (λz=>nomatch z) fin
  | bl c=>rw[VR] at hx;subst hx;cases r1;simp only[u6] at e;cases e;exact kia_one kitx_bool I.jE True.intro (tab (by simp)) (λz=>nomatch z) fin
  | int i=>rw[VR] at hx;subst hx;obtain⟨t',rfl⟩:=r1;simp only[u6] at e;cases e;exact kia_one kitx_int I.jE True.intro (tab (by simp)) (λz=>nomatch z) fin
  | str i=>rw[VR] at hx;subst hx;obtain⟨t',rfl⟩:=r1;simp only[u6] at e;cases e;exact kia_one kitx_str I.jE True.intro (tab (by simp)) (λz=>nomatch z) fin
  | tup vs =>rw[VR] at hx;obtain⟨a,ys,rfl,q1,_⟩:=hx;cases r1;simp only[u6] at e;cases e;obtain⟨_,_,⟨o,e1,e2,_⟩,_⟩:=I.tuple q1;exact kia_one kitx_tuple I.jE ⟨o,e1,e2⟩ (tab (by simp)) (λz=>nomatch z) fin
  | rl vs =>rw[VR] at hx;obtain⟨a,ys,rfl,q1,_⟩:=hx;cases r1;simp only[u6] at e;cases e;obtain⟨_,_,⟨o,n,e1,e2,_⟩,_⟩:=I.list q1.sq;exact kia_one kitx_list I.jE ⟨o,e1,e2⟩ (tab (by simp)) (λz=>nomatch z) fin
  | dc _ _=>rw[VR] at hx;exact hx.elim
  | ob _ _ _=>rw[VR] at hx;exact hx.elim
  | ref i =>
   rw[VR] at hx;obtain⟨a,rfl,q1⟩:=hx;cases r1;simp only[u6] at e;split at e
   ·rename_i vs e1;cases e;obtain⟨ys,k1,k2⟩:=r.ob i _ a e1 q1;obtain⟨_,_,⟨o,n,e1,e2,_⟩,_⟩:=I.list (xs:=ys) (.inl (.inl k1));exact kia_one kitx_list I.jE ⟨o,e1,e2⟩ (tab (by simp)) (λz=>nomatch z) fin
   ·rename_i vs e1;cases e;obtain⟨ks,k1,k2⟩:=r.ob i _ a e1 q1;obtain⟨_,_,vs,_,p⟩:=(show bE X.prog X.w H s.heap a (.dK ks) from I.hok a _ k1);obtain⟨o,es,ep,h1,h2,_⟩:=p;exact kia_one kitx_dict I.jE ⟨o,h1,h2.1⟩ (tab (by simp)) (λz=>nomatch z) fin
   ·cases e
 ·cases e1
noncomputable def Qx(B:Bd)(EX:Nat->List V->Hp->Prop)(m:Me):V->List V->Hp->VK->Prop:=λx xs H Q=>∃ρ h v vs,HR B ρ h H/\VR B.K ρ H v x/\ay B.K ρ H vs xs/\Post B EX ρ H (WV B.K Q) (met m v vs h)
theorem FJ:Ny X "str.join" (Qx (bd X cl) EX .join):=by
 intro pins s σ H x xs u us Q I ru rr hh;obtain⟨ρ,h,v,vs,r,hv,hvs,p⟩:=hh;exact(show False from p).elim
theorem vg{i:Nat}(r:HR B ρ h H)(hi:ρ[i]?=some a)(e:h[i]?=some u)(eU:H a=some U)(hm:Mu U=true)(q:OR B ρ (upd H a O) a o)
  (p:Post B EX ρ H (WV B.K Q) (bnd (put i o) (λ_=>ret Val.non) h)):Q .non (upd H a O) :=
 p ρ (upd H a O) (Gr.put (mem_of_getElem? hi) eU hm) (r.put hi e q) _ VR.non
theorem Ay:Ny X "list.append" (Qx (bd X cl) EX .append):=by
 intro pins s σ H x xs v' us Q I rx rv hh;obtain⟨ρ,h,v,vs,r,hv,hvs,p⟩:=hh
 match v,vs,p with
 | .ref i,[w],p =>
  obtain⟨zs,e,p⟩:=aB p;split at e
  ·rename_i zs' e1;cases e;obtain⟨e2,p⟩:=aH p;obtain⟨a,ys,rfl,q0,q1,q2⟩:=kG r hv e1;obtain⟨y,rfl,hy⟩:=ay.one hvs;refine rL pins s σ H _ _ v' us Q I rx rv ⟨a,ys,y,rfl,rfl,q1,by rw[<-q2.length];exact of_decide_eq_true e2,?_⟩;have g:Gr ρ H ρ (upd H a (.lst (ys++[y]))):=Gr.put (mem_of_getElem? q0) q1 rfl;exact vg (o:=.lst (zs++[w])) r q0 e1 q1 rfl ⟨_,aV,ay.append (ay.up g _ _ q2) (ay.up g _ _ (ay.cons hy ay.nil))⟩ p
  ·cases e
theorem Az:Ny X "list.extend" (Qx (bd X cl) EX .extend):=by
 intro pins s σ H x xs v' us Q I rx rv hh;obtain⟨ρ,h,v,vs,r,hv,hvs,p⟩:=hh
 match v,vs,p with
 | .ref i,[w],p =>
  obtain⟨zs,e,p⟩:=aB p;split at e
  ·rename_i zs' e1;cases e
   obtain⟨ws,e3,p⟩:=aB p;obtain⟨e2,p⟩:=aH p;have e2:=of_decide_eq_true e2;obtain⟨a,ys,rfl,q0,q1,q2⟩:=kG r hv e1;obtain⟨y,rfl,hy⟩:=ay.one hvs;have fin:∀(bs:List V),ay X.K ρ H ws bs->Q .non (upd H a (.lst (ys++bs))):=λbs hb=>by
    have g:Gr ρ H ρ (upd H a (.lst (ys++bs))):=Gr.put (mem_of_getElem? q0) q1 rfl;exact vg (o:=.lst (zs++ws)) r q0 e1 q1 rfl ⟨_,aV,ay.append (ay.up g _ _ q2) (ay.up g _ _ hb)⟩ p
   cases w with
   | tup ts =>simp only[u5] at e3;cases e3;rw[VR] at hy;obtain⟨b,bs,rfl,k1,k2⟩:=hy;exact xE pins s σ H _ _ v' us Q I rx rv ⟨a,b,ys,bs,rfl,rfl,q1,k1,by rw[<-q2.length,<-k2.length];exact e2,fin bs k2⟩
   | ref j =>
    simp only[u5,aD] at e3;split at e3
    ·rename_i ts e4;cases e3;obtain⟨b,bs,rfl,k0,k1,k2⟩:=kG r hy e4;exact z7 pins s σ H _ _ v' us Q I rx rv ⟨a,b,ys,bs,rfl,rfl,q1,k1,by rw[<-q2.length,<-k2.length];exact e2,fin bs k2⟩
    ·cases e3
   | _=>simp only[u5] at e3;cases e3
  ·cases e
end
end Hv
end
section
namespace Hv
open PySem L2 PyProof.Rows
structure Tb where
 nc:Nat
 FL:List Str
 FN:List (Nat×Str×Nat)
 Er:List (Str×Str×Nat)
 isc:List (Str×List Bool)
structure pW where
 N:List Str
 sc:Scope
 fns:List (Str×Nat)
 cons:List (Str×Val)
 tb:Tb
noncomputable def xS(sc:Scope)(x:Str):Bool:=(sc.names.lookup x==some .local||sc.names.lookup x==some .cell||sc.names.lookup x==some .free) && !(x==("__debug__":Str)) && !(x==("__classdict__":Str))
noncomputable def vh(sc:Scope)(x:Str):Bool:=sc.names.lookup x==some .globalImplicit && !(x==("__debug__":Str)) && !(x==("__name__":Str))
noncomputable def Cf:Const->Val->Bool
 | .none,.non=>true
 | .bool a,.bl b=>a==b
 | .int a,.int b=>a==b
 | .str a,.str b=>a==b
 | _,_=>false
noncomputable def Kq(o:FA)(op:Operator):Bool:=decide (op=xR o)
noncomputable def NY(o:J7)(op:CmpOp):Bool:=decide (op=yJ o)
noncomputable def NZ:Bl->Str
 | .len=>"len" | .min=>"min" | .max=>"max" | .sorted=>"sorted" | .list=>"list" | .tuple=>"tuple" | .str=>"str" | .int=>"int" | .all=>"all" | .any=>"any" | .isin _=>"isinstance"
noncomputable def noStar:Expr->Bool
 | .Starred ..=>false
 | _=>true
noncomputable def oN:Expr->Bool
 | .Slice ..=>false
 | _=>true
noncomputable def FO:Expr->Bool
 | .Name ..=>true|.Call ..=>true|.Subscript ..=>true|.List ..=>true|.Tuple ..=>true|.ListComp ..=>true|.Attribute ..=>true|.BinOp ..=>true
 | _=>false
noncomputable def superB:Expr->Bool
 | .Call (.Name _ _) [] [] _=>false
 | _=>true
noncomputable def HX(scope xsc:Scope):Scope :=
 { scope with names:=scope.names.map λ(n,k)=>if (k==.free&&xsc.kind==.function&&xsc.names.lookup n==some .cell) then (n,.cell) else (n,k) }
noncomputable def pW.Bf(Γ:pW)(scope:Scope)(N':List Str):pW:={ Γ with N:=N',sc:=HX scope Γ.sc }
noncomputable def xT(Γ:pW):xO->Expr->Bool
 | .one i,.Name x _=>Γ.N[i]?==some x && Γ.sc.names.lookup x==some .local
 | .tup is,.Tuple es _ _=>es.length==is.length&&(is.zip es).all λp=>match p.2 with
  | .Name x _=>Γ.N[p.1]?==some x && Γ.sc.names.lookup x==some .local
  | _=>false
 | _,_=>false
noncomputable def vj:xO->List Nat
 | .one i=>[i]
 | .tup is=>is
noncomputable def Xs:Me->Str
 | .join=>"join" | .append=>"append" | .extend=>"extend"
noncomputable def xU:Val->Val->Bool
 | .non,.non=>true
 | .bl a,.bl b=>a==b
 | .int a,.int b=>a==b
 | .str a,.str b=>a==b
 | _,_=>false
noncomputable def VC(Γ:pW)(N':List Str)(js:List (Option Nat))(p q i j:Nat):Expr->Bool
 | .ListComp (.Name y1 _) [⟨.Name y2 yp,.Name dn _,[.Compare (.Name y3 _) [.NotIn] [.Name en ep] _],ia⟩] scope _=>ia==0&&ju Γ.N Γ.sc scope N' js&&decide (N'.Nodup)&&xT (Γ.Bf scope N') (.one p) (.Name y2 yp)&&js[p]?==some none&&js[q]?==some (some j)&&p != q && !behindInMarks .NotIn (.Name en ep) &&
   (N'[p]?==some y1&&xS (Γ.Bf scope N').sc y1)&&(N'[p]?==some y3&&xS (Γ.Bf scope N').sc y3)&&(N'[q]?==some en&&xS (Γ.Bf scope N').sc en)&&(Γ.N[i]?==some dn&&xS Γ.sc dn)
 | _=>false
mutual
noncomputable def bz(Γ:pW):IE->Expr->Bool
 | .var i,e=>match e with
  | .Name x _=>Γ.N[i]?==some x&&xS Γ.sc x
  | _=>false
 | .cst d,e=>match e with
  | .Constant c _ _=>Cf c d
  | _=>false
 | .con x d,e=>match e with
  | .Name y _=>x==y&&vh Γ.sc x && Γ.cons.any λp=>p.1==x&&xU p.2 d
  | _=>false
 | .no,_=>false
 | .bin o a b,e=>match e with
  | .BinOp l op r _=>Kq o op&&bz Γ a l&&bz Γ b r
  | _=>false
 | .neg a,e=>match e with
  | .UnaryOp .USub l _=>bz Γ a l
  | _=>false
 | .cmp o a b,e=>match e with
  | .Compare l [op] [r] _=>NY o op && !behindInMarks op r&&bz Γ a l&&bz Γ b r
  | _=>false
 | .chn _ _ _ _ _,_=>false
 | .and a b,e=>match e with
  | .BoolOp .And (l::m::r) pos=>bz Γ a l&&(match r with|[]=>bz Γ b m|n::r'=>bz Γ b (.BoolOp .And (m::n::r') pos))
  | _=>false
 | .or a b,e=>match e with
  | .BoolOp .Or (l::m::r) pos=>bz Γ a l&&(match r with|[]=>bz Γ b m|n::r'=>bz Γ b (.BoolOp .Or (m::n::r') pos))
  | _=>false
 | .not a,e=>match e with
  | .UnaryOp .Not l _=>bz Γ a l
  | _=>false
 | .ite _ _ _,_=>false
 | .tup es,e=>match e with
  | .Tuple ls _ _=>aM Γ es ls
  | _=>false
 | .lst es,e=>match e with
  | .List ls _=>aM Γ es ls
  | _=>false
 | .idx a b,e=>match e with
  | .Subscript l r _=>oN r&&bz Γ a l&&bz Γ b r
  | _=>false
 | .slc a lo hi,e=>match e with
  | .Subscript l (.Slice l' h' none _) _=>bz Γ a l&&(match l' with|none=>cQ lo|some e=>!cQ lo&&bz Γ lo e)&&(match h' with|none=>cQ hi|some e=>!cQ hi&&bz Γ hi e)
  | _=>false
 | .call j es,e=>match e with
  | .Call (.Name x _) args [] _=>vh Γ.sc x && Γ.fns[j]?==some (x,args.length)&&decide (args.length<1000)&&aM Γ es args
  | .Call (.Attribute (.Name x _) m ap) args [] cp=>vh Γ.sc x && Γ.tb.Er.contains (x,m,j)&&(match Γ.fns[j]? with|some (_,n)=>n==1000+args.length|none=>false)&&decide (args.length<29)&&ap.endLine==cp.line&&aM Γ es args && !args.isEmpty
  | _=>false
 | .blt b es,e=>match e with
  | .Call (.Name x _) args [] _=>vh Γ.sc x&&x==NZ b&&(match b with
   | .isin T=>(match args with|[a,.Name y _]=>vh Γ.sc y&&y==(T:Str)&&["list","tuple","str","bool","int","dict"].contains T&&aM Γ es [a]|_=>false)
   | _=>!args.isEmpty&&aM Γ es args)
  | _=>false
 | .met m a es,e=>match e with
  | .Call (.Attribute o x ap) args [] cp=>x==Xs m&&superB o && !args.isEmpty&&decide (args.length<29)&&ap.endLine==cp.line&&bz Γ a o&&aM Γ es args
  | _=>false
 | .comp N' js pat k it c elt,e=>match e with
  | .ListComp e [⟨tg,iter,ifs,0⟩] scope _=>ju Γ.N Γ.sc scope N' js&&yM Γ k it iter&&decide (N'.Nodup)&&xT (Γ.Bf scope N') pat tg&&((vj pat).all λi=>js[i]?==some none)&&(match k,pat with|.enum,.one _=>false|.zip,.one _=>false|_,_=>true) &&
   (match ifs with|[]=>cQ c|[t]=>!cQ c&&bz (Γ.Bf scope N') c t|_=>false)&&bz (Γ.Bf scope N') elt e
  | _=>false
 | .dct0,e=>match e with
  | .Dict [] [] _=>true
  | _=>false
 | .sset a,e=>match e with
  | .Call (.Name x _) [.Call (.Name y _) [l] [] _] [] _=>x==("sorted":Str)&&y==("set":Str)&&vh Γ.sc x&&vh Γ.sc y&&noStar l&&bz Γ a l
  | _=>false
 | .dget d k x,e=>match e with
  | .Call (.Attribute o m ap) [a,b] [] cp=>m==("get":Str)&&superB o&&noStar a&&noStar b&&ap.endLine==cp.line&&bz Γ d o&&bz Γ k a&&bz Γ x b
  | _=>false
 | .dct1 k v,e=>match e with
  | .Dict [some a] [b] _=>bz Γ k a&&bz Γ v b
  | _=>false
 | .lkeys d,e=>match e with
  | .Call (.Name x _) [.Name y q] [] _=>x==("list":Str)&&vh Γ.sc x&&bz Γ d (.Name y q)
  | _=>false
 | .sdef _ _ _,_=>false
 | .svals _,_=>false
 | .skeys d,e=>match e with
  | .Call (.Name x _) [.Name y q] [] _=>x==("sorted":Str)&&vh Γ.sc x&&bz Γ d (.Name y q)
  | _=>false
 | .fld n a x,e=>match e with
  | .Attribute o y _=>x==y&&superB o&&n == Γ.tb.nc && Γ.tb.FL.contains x&&bz Γ a o
  | _=>false
 | .rev a s,e=>match e with
  | .Subscript l (.Slice none none st _) _=>bz Γ a l&&st.isSome&&(match st with|none=>cQ s|some e=>!cQ s&&bz Γ s e)
  | _=>false
 | .dflt _ _ _ _ _ _,_=>false
 | .isc a x bs,e=>match e with
  | .Call (.Name f _) [l,.Name y _] [] _=>f==("isinstance":Str)&&vh Γ.sc f&&y==x&&vh Γ.sc y&&noStar l && Γ.tb.isc.contains (x,bs)&&decide (bs.length <= Γ.tb.nc)&&bz Γ a l
  | _=>false
 | .mth a m js es,e=>match e with
  | .Call (.Attribute o x ap) args [] cp=>x==m&&superB o&&decide (args.length<29)&&ap.endLine==cp.line&&(js.all λp=>decide (p.1 < Γ.tb.nc) && Γ.tb.FN.contains (p.1,m,p.2)&&(match Γ.fns[p.2]? with|some (_,n)=>n==1001+args.length|none=>false))&&bz Γ a o&&aM Γ es args
  | _=>false
noncomputable def aM(Γ:pW):nV->List Expr->Bool
 | .nil,ls=>ls.isEmpty
 | .cons e es,ls=>match ls with
  | l::ls=>noStar l&&bz Γ e l&&aM Γ es ls
  | []=>false
noncomputable def yM(Γ:pW)(k:Ik):nV->Expr->Bool
 | .nil,_=>false
 | .cons e es,l=>match k with
  | .seq=>(match es with|.nil=>FO l&&bz Γ e l|_=>false)
  | .range=>(match l with|.Call (.Name x _) (a::args) [] _=>x==("range":Str)&&vh Γ.sc x&&noStar a&&bz Γ e a&&aM Γ es args&&decide (args.length<2)|_=>false)
  | .enum=>(match es,l with|.nil,.Call (.Name x _) [a] [] _=>x==("enumerate":Str)&&vh Γ.sc x&&noStar a&&bz Γ e a|_,_=>false)
  | .zip=>false
end
noncomputable abbrev Fn:=Nat->List Val->M Val
noncomputable def dm(K:PySem.W.Frag)(ρ:List Addr)(env:Env)(σ:L2.St)(H:Hp):Prop:=∀(i:Nat) (v:Val),env[i]?=some (some v)->∃x,σ[i]?=some (some x)/\VR K ρ H v x
theorem dm.kP{K:PySem.W.Frag}{ρ ρ':List Addr}{env:Env}{σ:L2.St}{H H':Hp}(e:dm K ρ env σ H)(g:Gw ρ H ρ' H'):dm K ρ' env σ H':=λi v q=>by
 obtain⟨x,q1,q2⟩:=e i v q;exact⟨x,q1,VR.kP g v x q2⟩
theorem dm.up{K:PySem.W.Frag}{ρ ρ':List Addr}{env:Env}{σ:L2.St}{H H':Hp}(e:dm K ρ env σ H)(g:Gr ρ H ρ' H'):dm K ρ' env σ H':=e.kP g.w
noncomputable def Xu(K:PySem.W.Frag)(Q:List V->Hp->Prop):List Val->Hs->List Addr->Hp->Prop:=λvs _ ρ' H'=>∀xs,ay K ρ' H' vs xs->Q xs H'
noncomputable def WT(Q:Bool->Hp->Prop):Bool->Hs->List Addr->Hp->Prop:=λb _ _ H'=>Q b H'
noncomputable def MI(Φ:Fn)(ir:IE)(env:Env):M Bool:=bnd (aF Φ ir env) λx=>ask λh=>dJ h x
noncomputable def tV(Φ:Fn)(B:Bd)(EX:Nat->List V->Hp->Prop)(ir:IE):TE:=λσ H Q=>∃ρ env h,dm B.K ρ env σ H/\HR B ρ h H/\Post B EX ρ H (WV B.K Q) (aF Φ ir env h)
noncomputable def VD(Φ:Fn)(B:Bd)(EX:Nat->List V->Hp->Prop)(eV:nV):TA:=λσ H Q=>∃ρ env h,dm B.K ρ env σ H/\HR B ρ h H/\Post B EX ρ H (Xu B.K Q) (aU Φ eV env h)
noncomputable def tT(Φ:Fn)(B:Bd)(EX:Nat->List V->Hp->Prop)(ir:IE):TT:=λσ H Q=>∃ρ env h,dm B.K ρ env σ H/\HR B ρ h H/\Post B EX ρ H (WT Q) (MI Φ ir env h)
theorem _root_.L2.PE.imp(h:PE X e t)(i:∀σ H Q,t' σ H Q->t σ H Q):PE X e t':=λpins s σ H Q I hw=>h pins s σ H Q I (i σ H Q hw)
theorem _root_.L2.PT.imp(h:PT X e t)(i:∀σ H Q,t' σ H Q->t σ H Q):PT X e t':=λpins s σ H Q I hw=>h pins s σ H Q I (i σ H Q hw)
theorem _root_.L2.PA.imp(h:PA X es t)(i:∀σ H Q,t' σ H Q->t σ H Q):PA X es t':=λpos pins s σ H Q I hw=>h pos pins s σ H Q I (i σ H Q hw)
theorem _root_.L2.PO.imp(h:PO X e t)(i:∀σ H Q,t' σ H Q->t σ H Q):PO X e t':=λpins s σ H Q I hw=>h pins s σ H Q I (i σ H Q hw)
theorem _root_.L2.PI.imp(h:PI X tg iter t)(i:∀σ H R,t' σ H R->t σ H R):PI X tg iter t':=λpins s σ H R I hw=>h pins s σ H R I (i σ H R hw)
theorem aW{α β γ:Type}(m:M α)(f:α -> M β)(g:β -> M γ):bnd (bnd m f) g=bnd m λx=>bnd (f x) g:=by
 funext h;show (match (match m h with|.ok a h'=>f a h'|.exc c vs h'=>.exc c vs h'|.no=>.no) with|.ok a h'=>g a h'|.exc c vs h'=>.exc c vs h'|.no=>.no)=(match m h with|.ok a h'=>bnd (f a) g h'|.exc c vs h'=>.exc c vs h'|.no=>.no);cases m h<;>rfl
theorem cW{α β:Type}(a:α)(f:α -> M β):bnd (ret a) f=f a:=rfl
noncomputable def tL(B:Bd)(n:Nat)(φ:List Val->M Val):Sp:=λxs H Q _=>∃ρ h vs,vs.length=n/\HR B ρ h H/\ay B.K ρ H vs xs/\Post B (λ_ _ _=>False) ρ H (WV B.K Q) (φ vs h)
noncomputable def MJ(P:Program)(w:World)(B:Bd)(mg:Str->Option Value)(base:Heap)(k:Nat)(j:Nat)(x:Str)(n:Nat)(φ:List Val->M Val):Prop :=
 (n<1000/\((∃(f:Addr) (fd:FuncData) (ps:List Str),ps.length=n/\mg x=some (.ref f)/\keepIn B.K (.ref f)=true/\Binds B.K fd ps []/\fz P w B.K mg base wI k f fd ps (tL B n φ)) \/
  ∃(c:Nat) (f:Addr) (fd:FuncData) (ps:List Str) (φ0:List Val->M Val),φ = Eo c φ0/\ps.length=n+1/\mg x=some (.ref (B.cl c))/\Mk B.K (B.cl c) f/\Binds B.K fd ps []/\fz P w B.K mg base wI k f fd ps (tL B (n+1) φ0))) \/
 (1000<=n/\∃(fd:FuncData) (ps:List Str),ps.length=n-1000/\Binds B.K fd ps []/\fz P w B.K mg base wI k (B.cl (1000+j)) fd ps (tL B (n-1000) φ))
noncomputable def fX:List Str:=["len","min","max","sorted","list","tuple","str","all","any","isinstance","range","enumerate","int","bool","dict","set","zip"]
structure Ctx (Φ:Fn) (Γ:pW) (k:Nat) (X:Cx) (cl:Nat->Addr) (EX:Nat->List V->Hp->Prop):Prop where
 N:X.N = Γ.N
 sc:X.env.scope = Γ.sc
 calm:X.calm=true
 room:dQ (k+1) X.A
 ly:∀c xs H,¬ EX c xs H
 fns:∀j x n,Γ.fns[j]?=some (x,n)->MJ X.prog X.w (bd X cl) X.mg X.base k j x n (Φ j)
 cls:∀c,c < Γ.tb.nc->zY X.K (cl c)/\∀x ∈ Γ.tb.FL,jT X.K (cl c) x
 FN:∀p ∈ Γ.tb.FN,Meth X.K (cl p.1) p.2.1 (cl (1000+p.2.2))
 Er:∀p ∈ Γ.tb.Er,∃C,X.mg p.1=some (.ref C)/\J5 X.K C p.2.1 (cl (1000+p.2.2))
 isc:∀p ∈ Γ.tb.isc,∃C,X.mg p.1=some (.ref C)/\∀c b,p.2[c]?=some b->VA X.K (cl c)/\kitOne X.K (.ref (cl c)) (.ref C)=some b
 cons:∀p ∈ Γ.cons,∃v u,X.mg p.1=some u/\RelV v u/\∀K ρ H,VR K ρ H p.2 v
 blt:∀x∈fX,X.mg x=none
section
variable {Φ:Fn} {Γ:pW} {k:Nat} {X:Cx} {cl:Nat->Addr} {EX:Nat->List V->Hp->Prop}
theorem Ctx.units(c:Ctx Φ Γ k X cl EX):X.A.units+64<cLine:=c.room.units
theorem Ctx.vis(c:Ctx Φ Γ k X cl EX)(h:xS Γ.sc x=true):MU X.env.scope x/\(x==("__debug__":Str))=false/\(x==("__classdict__":Str))=false:=by
 unfold xS at h;simp only[and_eq_true,or_eq_true,beq_iff_eq,not_eq_true'] at h;obtain⟨⟨h1,h2⟩,h3⟩:=h;refine⟨?_,h2,h3⟩;unfold MU;rw[c.sc]
 rcases h1 with (z|z)|z
 ·exact .inl z
 ·exact .inr (.inl z)
 ·exact .inr (.inr z)
theorem Ctx.gl(c:Ctx Φ Γ k X cl EX)(h:vh Γ.sc x=true):Gl X x/\(x==("__debug__":Str))=false/\x ≠ "__name__":=by
 unfold vh at h;simp only[and_eq_true,beq_iff_eq,not_eq_true'] at h;obtain⟨⟨h1,h2⟩,h3⟩:=h;refine⟨?_,h2,λz=>by rw[z] at h3;simp at h3⟩;show X.env.scope.names.lookup x=_;rw[c.sc];exact h1
theorem Ctx.Bf(c:Ctx Φ Γ k X cl EX)(scope:Scope)(N':List Str)(cls:List (Str×Addr))(C:Addr)(s:Shared)(H:Hp)(fp:List Addr):Ctx Φ (Γ.Bf scope N') k (bP X scope N' cls C s H fp) cl EX:=by
 refine⟨rfl,?_,c.calm,c.room,c.ly,c.fns,c.cls,c.FN,c.Er,c.isc,c.cons,c.blt⟩;show relabel scope X.env=HX scope Γ.sc;rw[<-c.sc];rfl
theorem aQ(h:noStar e=true):starEach (e::es) env=(false,eval e env)::starEach es env:=by
 cases e<;>first|rfl|(simp[noStar] at h)
theorem fY:∀{es:List Expr} {eV:nV},aM Γ eV es=true->(backTo pos (starEach es env)).any (·.1)=false
 | [],_,_=>rfl
 | e::es,.nil,h=>by simp[aM] at h
 | e::es,.cons i eV,h=>by
  simp only[aM,and_eq_true] at h;rw[aQ h.1.1];show (false||(backTo pos (starEach es env)).any (·.1))=false;rw[fY (eV:=eV) h.2];rfl
theorem pX(h:aM Γ eV es=true):(backTo pos (starEach es env)).all (λx=>!x.1)=true:=by
 have q:=fY (pos:=pos) (env:=env) h;rw[all_eq_true];intro x hx;have:=List.any_eq_false.mp q x hx;simpa using this
theorem xV(h:oN e=true):yw e:=by
 intro o i;cases e<;>first|rfl|(simp[oN] at h)
theorem super_ok(h:superB e=true):attributeBase e x env whole=whole:=by
 cases e<;>first
  | rfl
  | skip
 rename_i f args kws pos;cases f<;>first
  | rfl
  | skip
 cases args with
 | cons a r=>rfl
 | nil =>
  cases kws with
  | cons a r=>rfl
  | nil=>simp[superB] at h
theorem cJ(q:PE X e (tV Φ (bd X cl) EX ir))(he:∀whole,isTrue e X.env whole=(do let v <-whole;standAt e.pos;holding [v] (truthy v))):PT X e (tT Φ (bd X cl) EX ir) :=
 (Bw q he).imp λσ H Q ⟨ρ,env,h,hE,r,p⟩=>⟨ρ,env,h,hE,r,au p λv h1 ρ1 x H1 g1 r1 q1 p1=>by
  obtain⟨b,e,w⟩:=dj r1 p1;exact⟨b,Kd r1 q1 e,w⟩⟩
theorem Bv:Qo X (unaryOp .USub) (λx H Q=>∃i,x=.int i/\Q (.int (-i)) H):=by
 intro pins s σ H x v Q I rx h;obtain⟨i,rfl,q⟩:=h;obtain⟨t,rfl⟩:=rx;exact neg_int ⟨.int (-i),H,I.tok _,⟨_,rfl⟩,q⟩
theorem HY(h:PT X (.BoolOp op vs pos) t):PW X (.BoolOp op vs pos) t:=λwhole pins s σ H Q I hw=>h pins s σ H Q I hw
noncomputable def cg(Φ:Fn)(ir:IE):Prop:=∀(Γ:pW) (k:Nat) (X:Cx) (cl:Nat->Addr) (EX:Nat->List V->Hp->Prop) (e:Expr),Ctx Φ Γ k X cl EX->bz Γ ir e=true->PE X e (tV Φ (bd X cl) EX ir)/\PT X e (tT Φ (bd X cl) EX ir)
noncomputable def jY(Φ:Fn)(eV:nV):Prop:=(∀(Γ:pW) (k:Nat) (X:Cx) (cl:Nat->Addr) (EX:Nat->List V->Hp->Prop) (es:List Expr),Ctx Φ Γ k X cl EX->aM Γ eV es=true->PA X es (VD Φ (bd X cl) EX eV))/\match eV with
 | .nil=>True
 | .cons e r=>cg Φ e/\match r with
  | .nil=>True
  | .cons e' _=>cg Φ e'
theorem yN(h:Kq o op=true):op=xR o:=of_decide_eq_true h
theorem FP(h:NY o op=true):op=yJ o:=of_decide_eq_true h
theorem pY(hs:∀env h,aF Φ ir env h=.no):cg Φ ir:=by
 intro Γ k X cl EX e c h;exact⟨λpins s σ H Q I ⟨ρ,env,h,hE,r,p⟩=>by rw[hs] at p;exact p.elim,λpins s σ H Q I ⟨ρ,env,h,hE,r,p⟩=>by unfold MI bnd at p;rw[hs] at p;exact p.elim⟩
theorem Kr{i:Nat}:cg Φ (.var i):=by
 intro Γ k X cl EX e c h
 (conv at h=>lhs;whnf);split at h<;>first|cases h|skip
 rename_i x pos;simp only[and_eq_true,beq_iff_eq] at h;obtain⟨v1,v2,v3⟩:=c.vis h.2;have q:PE X (.Name x pos) (tV Φ (bd X cl) EX (.var i)):=by refine(Ja (by rw[c.N];exact h.1) v1 v2 v3).imp λσ H Q aE=>?_;obtain⟨ρ,env,h,hE,r,p⟩:=aE;rw[aF.eq_def] at p;dsimp only at p;obtain⟨d,e1,w⟩:=cN r p;split at e1<;>cases e1;rename_i e1;obtain⟨x,e2,e3⟩:=hE i d e1;exact⟨x,e2,w x e3⟩
 exact⟨q,cJ q λ_=>rfl⟩
theorem Ks:cg Φ (.cst d):=by
 intro Γ k X cl EX e c h
 (conv at h=>lhs;whnf);split at h<;>first|cases h|skip
 rename_i cc j pos;have q:PE X (.Constant cc j pos) (tV Φ (bd X cl) EX (.cst d)):=by
  unfold Cf at h;split at h<;>first|cases h|skip
  ·refine Jc.imp λσ H Q aE=>?_;obtain⟨ρ,env,h,hE,r,p⟩:=aE;simp only[aF] at p;exact ai r p _ VR.non
  ·cases eq_of_beq h;refine M0.imp λσ H Q aE=>?_;obtain⟨ρ,env,h,hE,r,p⟩:=aE;simp only[aF] at p;exact ai r p _ VR.bl
  ·cases eq_of_beq h;refine Jb.imp λσ H Q aE=>?_;obtain⟨ρ,env,h,hE,r,p⟩:=aE;simp only[aF] at p;exact ai r p _ VR.int
  ·cases eq_of_beq h;refine Jd.imp λσ H Q aE=>?_;obtain⟨ρ,env,h,hE,r,p⟩:=aE;simp only[aF] at p;exact ai r p _ VR.str
 exact⟨q,cJ q λ_=>rfl⟩
theorem AA(h:xU a b=true):a=b:=by
 unfold xU at h;split at h<;>first|rfl|(cases eq_of_beq h;rfl)|cases h
theorem Ku:cg Φ (.con x d):=by
 intro Γ k X cl EX e c h
 (conv at h=>lhs;whnf);split at h<;>first|cases h|skip
 rename_i y pos;simp only[and_eq_true,beq_iff_eq] at h;obtain⟨⟨h1,h2⟩,h3⟩:=h;subst h1;obtain⟨g1,g2,g3⟩:=c.gl h2;obtain⟨p,hp,h4⟩:=List.any_eq_true.mp h3;simp only[and_eq_true,beq_iff_eq] at h4;obtain⟨v,u,m1,m2,m3⟩:=c.cons p hp;rw[h4.1] at m1;have q:PE X (.Name x pos) (tV Φ (bd X cl) EX (.con x d)):=by refine(yq g1 m1 m2 g2).imp λσ H Q aE=>?_;obtain⟨ρ,env,h,hE,r,p⟩:=aE;simp only[aF] at p;exact ai r p _ (by rw[<-AA h4.2];exact m3 _ _ _)
 exact⟨q,cJ q λ_=>rfl⟩
theorem N1:cg Φ .no:=by
 intro Γ k X cl EX e c h
 (conv at h=>lhs;whnf);cases h
theorem Cg:jY Φ .nil:=by
 refine⟨fun Γ k X cl EX es c h=>?_,trivial⟩;rw[aM] at h;cases es with
 | cons a r=>cases h
 | nil =>refine xh.imp λσ H Q aE=>?_;obtain⟨ρ,env,h,hE,r,p⟩:=aE;simp only[aU] at p;exact ai r p _ ay.nil
theorem yO(h1:cg Φ e)(h2:jY Φ es):jY Φ (.cons e es):=by
 refine⟨fun Γ k X cl EX ls c h=>?_,h1,?_⟩
 ·rw[aM.eq_def] at h;dsimp only at h
  cases ls with
  | nil=>cases h
  | cons l ls =>simp only[and_eq_true] at h;refine(lM (h1 Γ k X cl EX l c h.1.2).1 (h2.1 Γ k X cl EX ls c h.2) (aQ h.1.1)).imp λσ H Q aE=>?_;obtain⟨ρ,env,h,hE,r,p⟩:=aE;simp only[aU] at p;refine⟨ρ,env,h,hE,r,au p λv h1 ρ1 x H1 g1 r1 q1 p1=>⟨ρ1,env,h1,hE.up g1,r1,bu p1 λvs h2 ρ2 H2 g2 r2 p2 xs q2=>?_⟩⟩;exact ai r2 p2 _ (ay.cons (VR.up g2 _ _ q1) q2)
 ·cases es with
  | nil=>trivial
  | cons e' r=>exact h2.2.1
theorem Kv(ha:cg Φ a)(hb:cg Φ b):cg Φ (.bin o a b):=by
 intro Γ k X cl EX e c h
 (conv at h=>lhs;whnf);split at h<;>first|cases h|skip
 rename_i l op r pos;simp only[and_eq_true] at h;obtain⟨⟨h1,h2⟩,h3⟩:=h;have eo:op=xR o:=yN h1;subst eo;have q:PE X (.BinOp l (xR o) r pos) (tV Φ (bd X cl) EX (.bin o a b)):=by refine(Nj (Ka (cl:=cl) (EX:=EX) o) (ha Γ k X cl EX l c h2).1 (hb Γ k X cl EX r c h3).1).imp λσ H Q aE=>?_;obtain⟨ρ,env,h,hE,r,p⟩:=aE;simp only[aF] at p;exact⟨ρ,env,h,hE,r,au p λv h1 ρ1 x H1 g1 r1 q1 p1=>⟨ρ1,env,h1,hE.up g1,r1,au p1 λw h2 ρ2 y H2 g2 r2 q2 p2=>⟨ρ2,h2,v,w,r2,VR.up g2 _ _ q1,q2,p2⟩⟩⟩
 exact⟨q,cJ q λ_=>rfl⟩
theorem Kw(ha:cg Φ a):cg Φ (.neg a):=by
 intro Γ k X cl EX e c h
 (conv at h=>lhs;whnf);split at h<;>first|cases h|skip
 rename_i l pos;have q:PE X (.UnaryOp .USub l pos) (tV Φ (bd X cl) EX (.neg a)):=by
  refine(Nk Bv (ha Γ k X cl EX l c h).1).imp λσ H Q aE=>?_;obtain⟨ρ,env,h,hE,r,p⟩:=aE;simp only[aF] at p;refine⟨ρ,env,h,hE,r,au p λv h1 ρ1 x H1 g1 r1 q1 p1=>?_⟩;cases v<;>first|exact p1.elim|skip
  rw[VR] at q1;exact⟨_,q1,ai r1 p1 _ VR.int⟩
 exact⟨q,cJ q λ_=>rfl⟩
theorem Ky(ha:cg Φ a)(hb:cg Φ b):cg Φ (.cmp o a b):=by
 intro Γ k X cl EX e c h
 (conv at h=>lhs;whnf);split at h<;>first|cases h|skip
 rename_i l op r pos;simp only[and_eq_true,not_eq_true'] at h;obtain⟨⟨⟨h1,h4⟩,h2⟩,h3⟩:=h;have eo:op=yJ o:=FP h1;subst eo;refine⟨(ES (Cd (cl:=cl) c.units o) (ha Γ k X cl EX l c h2).1 (hb Γ k X cl EX r c h3).1 h4).imp λσ H Q ⟨ρ,env,h,hE,r,p⟩=>?_,(ET (Cd (cl:=cl) c.units o) (ha Γ k X cl EX l c h2).1 (hb Γ k X cl EX r c h3).1 h4).imp λσ H Q ⟨ρ,env,h,hE,r,p⟩=>?_⟩
 ·simp only[aF] at p;refine⟨ρ,env,h,hE,r,au p λv h1 ρ1 x H1 g1 r1 q1 p1=>⟨ρ1,env,h1,hE.up g1,r1,au p1 λw h2 ρ2 y H2 g2 r2 q2 p2=>?_⟩⟩;obtain⟨t,e,p3⟩:=aB p2;exact⟨ρ2,h2,v,w,t,r2,VR.up g2 _ _ q1,q2,e,ai r2 p3 _ VR.bl⟩
 ·simp only[MI,aF,aW,cW] at p;refine⟨ρ,env,h,hE,r,au p λv h1 ρ1 x H1 g1 r1 q1 p1=>⟨ρ1,env,h1,hE.up g1,r1,au p1 λw h2 ρ2 y H2 g2 r2 q2 p2=>?_⟩⟩;obtain⟨t,e,p3⟩:=aB p2;obtain⟨t',e',w'⟩:=dj r2 p3;cases (show some t=some t' from e');exact⟨ρ2,h2,v,w,t,r2,VR.up g2 _ _ q1,q2,e,t,rfl,w'⟩
theorem Kz(ha:cg Φ a)(hb:cg Φ b)(hd:cg Φ d):cg Φ (.chn o o' a b d):=pY λ_ _=>rfl
end
end Hv
end
section
namespace Hv
open PySem L2 PyProof.Rows
section
variable {B:Bd} {EX:Nat->List V->Hp->Prop} {ρ:List Addr} {H:Hp} {β:Type} {W:β -> Hs->List Addr->Hp->Prop} {h:Hs}
theorem post_bool(p:Post B EX ρ H W (bnd (pR v) f h)):∃t,v=.bl t/\Post B EX ρ H W (f t h):=by
 cases v with
 | bl t=>exact⟨t,rfl,p⟩
 | _=>exact p.elim
theorem nq(p:Post B EX ρ H W (bnd m F h))(k:∀v h1,Post B EX ρ H W (F v h1)->∃t,dJ h1 v=some t/\∀ρ1 H1,Gr ρ H ρ1 H1->HR B ρ1 h1 H1->Q t H1) :
  Post B EX ρ H (WT Q) (bnd m (λx=>ask λh=>dJ h x) h):=by
 unfold bnd at p |-;cases e:m h with
 | ok v h1 =>
  rw[e] at p;obtain⟨t,e1,q⟩:=k v h1 p;show Post B EX ρ H (WT Q) (ask (λh=>dJ h v) h1);have e2:ask (λh=>dJ h v) h1=.ok t h1:=by unfold ask bh;dsimp only;rw[e1]
  rw[e2];exact λρ1 H1 g r=>q ρ1 H1 g r
 | exc c vs h1=>rw[e] at p;exact p
 | no=>rw[e] at p;exact p
end
section
variable {Φ:Fn} {Γ:pW} {k:Nat} {X:Cx} {cl:Nat->Addr} {EX:Nat->List V->Hp->Prop}
theorem KA(ha:cg Φ a)(hb:cg Φ b):cg Φ (.and a b):=by
 intro Γ k X cl EX e c h
 (conv at h=>lhs;whnf);split at h<;>first|cases h|skip
 rename_i l m r pos;simp only[and_eq_true] at h;obtain⟨h1,h2⟩:=h;have hB:PE X (.BoolOp .And (m::r) pos) (tV Φ (bd X cl) EX b)/\PW X (.BoolOp .And (m::r) pos) (tT Φ (bd X cl) EX b):=by
  cases r with
  | nil=>exact⟨Bm (hb Γ k X cl EX m c h2).1,Ey (hb Γ k X cl EX m c h2).2⟩
  | cons n r'=>exact⟨(hb Γ k X cl EX _ c h2).1,HY (hb Γ k X cl EX _ c h2).2⟩
 refine⟨(Jh (ha Γ k X cl EX l c h1).1 hB.1).imp λσ H Q ⟨ρ,env,h,hE,r,p⟩=>?_,(Jf (ha Γ k X cl EX l c h1).2 hB.2).pt.imp λσ H Q ⟨ρ,env,h,hE,r,p⟩=>?_⟩
 ·simp only[aF] at p
  refine⟨ρ,env,h,hE,r,au p λv h1 ρ1 x H1 g1 r1 q1 p1=>?_⟩;obtain⟨t,rfl,p2⟩:=post_bool p1;rw[VR] at q1;refine⟨t,q1,?_⟩;cases t with
  | true =>rw[if_pos rfl] at p2 |-;refine⟨ρ1,env,h1,hE.up g1,r1,au p2 λw h2 ρ2 y H2 g2 r2 q2 p3=>?_⟩;obtain⟨u,rfl,p4⟩:=post_bool p3;exact ai r2 p4 _ q2
  | false =>rw[if_neg Bool.false_ne_true] at p2 |-;exact ai r1 p2 _ VR.bl
 ·simp only[MI,aF,aW] at p
  refine⟨ρ,env,h,hE,r,nq p λv h1 p1=>?_⟩;obtain⟨t,rfl,p2⟩:=post_bool p1;refine⟨t,rfl,λρ1 H1 g1 r1=>?_⟩;have p2:=Post.up g1 p2;cases t with
  | true =>rw[if_pos rfl] at p2 |-;simp only[aW,cW] at p2;refine⟨ρ1,env,h1,hE.up g1,r1,nq p2 λw h2 p3=>?_⟩;obtain⟨u,rfl,p4⟩:=post_bool p3;exact⟨u,rfl,λρ2 H2 g2 r2=>by obtain⟨t',e',w'⟩:=dj r2 (Post.up g2 p4);cases (show some u=some t' from e');exact w'⟩
  | false =>rw[if_neg Bool.false_ne_true] at p2 |-;obtain⟨t',e',w'⟩:=dj r1 (show Post _ _ ρ1 H1 _ (ask (λh=>dJ h (.bl false)) h1) from p2);cases (show some false=some t' from e');exact w'
theorem N2(ha:cg Φ a)(hb:cg Φ b):cg Φ (.or a b):=by
 intro Γ k X cl EX e c h
 (conv at h=>lhs;whnf);split at h<;>first|cases h|skip
 rename_i l m r pos;simp only[and_eq_true] at h;obtain⟨h1,h2⟩:=h;have hB:PE X (.BoolOp .Or (m::r) pos) (tV Φ (bd X cl) EX b)/\PW X (.BoolOp .Or (m::r) pos) (tT Φ (bd X cl) EX b):=by
  cases r with
  | nil=>exact⟨Bm (hb Γ k X cl EX m c h2).1,Je (hb Γ k X cl EX m c h2).2⟩
  | cons n r'=>exact⟨(hb Γ k X cl EX _ c h2).1,HY (hb Γ k X cl EX _ c h2).2⟩
 refine⟨(M5 (ha Γ k X cl EX l c h1).1 hB.1).imp λσ H Q ⟨ρ,env,h,hE,r,p⟩=>?_,(M1 (ha Γ k X cl EX l c h1).2 hB.2).pt.imp λσ H Q ⟨ρ,env,h,hE,r,p⟩=>?_⟩
 ·simp only[aF] at p
  refine⟨ρ,env,h,hE,r,au p λv h1 ρ1 x H1 g1 r1 q1 p1=>?_⟩;obtain⟨t,rfl,p2⟩:=post_bool p1;rw[VR] at q1;refine⟨t,q1,?_⟩;cases t with
  | false =>rw[if_neg Bool.false_ne_true] at p2 |-;refine⟨ρ1,env,h1,hE.up g1,r1,au p2 λw h2 ρ2 y H2 g2 r2 q2 p3=>?_⟩;obtain⟨u,rfl,p4⟩:=post_bool p3;exact ai r2 p4 _ q2
  | true =>rw[if_pos rfl] at p2 |-;exact ai r1 p2 _ VR.bl
 ·simp only[MI,aF,aW] at p
  refine⟨ρ,env,h,hE,r,nq p λv h1 p1=>?_⟩;obtain⟨t,rfl,p2⟩:=post_bool p1;refine⟨t,rfl,λρ1 H1 g1 r1=>?_⟩;have p2:=Post.up g1 p2;cases t with
  | false =>rw[if_neg Bool.false_ne_true] at p2 |-;simp only[aW,cW] at p2;refine⟨ρ1,env,h1,hE.up g1,r1,nq p2 λw h2 p3=>?_⟩;obtain⟨u,rfl,p4⟩:=post_bool p3;exact⟨u,rfl,λρ2 H2 g2 r2=>by obtain⟨t',e',w'⟩:=dj r2 (Post.up g2 p4);cases (show some u=some t' from e');exact w'⟩
  | true =>rw[if_pos rfl] at p2 |-;obtain⟨t',e',w'⟩:=dj r1 (show Post _ _ ρ1 H1 _ (ask (λh=>dJ h (.bl true)) h1) from p2);cases (show some true=some t' from e');exact w'
theorem KC(ha:cg Φ a):cg Φ (.not a):=by
 intro Γ k X cl EX e c h
 (conv at h=>lhs;whnf);split at h<;>first|cases h|skip
 rename_i l pos;refine⟨(Ji (ha Γ k X cl EX l c h).1).imp λσ H Q ⟨ρ,env,h,hE,r,p⟩=>?_,(Jg (ha Γ k X cl EX l c h).2).imp λσ H Q ⟨ρ,env,h,hE,r,p⟩=>?_⟩
 ·simp only[aF] at p;refine⟨ρ,env,h,hE,r,au p λv h1 ρ1 x H1 g1 r1 q1 p1=>?_⟩;obtain⟨t,rfl,p2⟩:=post_bool p1;rw[VR] at q1;exact⟨t,q1,ai r1 p2 _ VR.bl⟩
 ·simp only[MI,aF,aW] at p;refine⟨ρ,env,h,hE,r,nq p λv h1 p1=>?_⟩;obtain⟨t,rfl,p2⟩:=post_bool p1;refine⟨t,rfl,λρ1 H1 g1 r1=>?_⟩;obtain⟨t',e',w'⟩:=dj r1 (show Post _ _ ρ1 H1 _ (ask (λh=>dJ h (.bl (!t))) h1) from Post.up g1 p2);cases (show some (!t)=some t' from e');exact w'
theorem KD(ht:cg Φ t)(ha:cg Φ a)(hb:cg Φ b):cg Φ (.ite t a b):=pY λ_ _=>rfl
theorem KG(hs:jY Φ es):cg Φ (.tup es):=by
 intro Γ k X cl EX e c h
 (conv at h=>lhs;whnf);split at h<;>first|cases h|skip
 rename_i ls x1 pos;have q:PE X (.Tuple ls x1 pos) (tV Φ (bd X cl) EX (.tup es)):=by refine(JG (hs.1 Γ k X cl EX ls c h)).imp λσ H Q aE=>?_;obtain⟨ρ,env,h,hE,r,p⟩:=aE;simp only[aF] at p;refine⟨ρ,env,h,hE,r,bu p λvs h1 ρ1 H1 g1 r1 p1 xs q1=>?_⟩;obtain⟨e1,p2⟩:=aH p1;exact⟨by rw[<-q1.length];exact of_decide_eq_true e1,λq hq=>pU r1 hq q1 p2⟩
 exact⟨q,cJ q λ_=>rfl⟩
theorem KH(hs:jY Φ es):cg Φ (.lst es):=by
 intro Γ k X cl EX e c h
 (conv at h=>lhs;whnf);split at h<;>first|cases h|skip
 rename_i ls pos;have q:PE X (.List ls pos) (tV Φ (bd X cl) EX (.lst es)):=by refine(JH (hs.1 Γ k X cl EX ls c h)).imp λσ H Q aE=>?_;obtain⟨ρ,env,h,hE,r,p⟩:=aE;simp only[aF] at p;refine⟨ρ,env,h,hE,r,bu p λvs h1 ρ1 H1 g1 r1 p1 xs q1=>?_⟩;obtain⟨e1,p2⟩:=aH p1;exact⟨by rw[<-q1.length];exact of_decide_eq_true e1,λq hq=>cO r1 hq q1 p2⟩
 exact⟨q,cJ q λ_=>rfl⟩
theorem FQ:cg Φ .dct0:=by
 intro Γ k X cl EX e c h
 (conv at h=>lhs;whnf);split at h<;>first|cases h|skip
 rename_i pos;have q:PE X (.Dict [] [] pos) (tV Φ (bd X cl) EX .dct0):=by refine(BH (X:=X) (pos:=pos)).imp λσ H Q aE=>?_;obtain⟨ρ,env,h,hE,r,p⟩:=aE;simp only[aF] at p;exact λa ha=>ve (o:=.dct []) (O:=.dK []) r ha ⟨[],aV,(by rw[gx])⟩ p
 exact⟨q,cJ q λ_=>rfl⟩
theorem KI(ha:cg Φ a)(hb:cg Φ b):cg Φ (.idx a b):=by
 intro Γ k X cl EX e c h
 (conv at h=>lhs;whnf);split at h<;>first|cases h|skip
 rename_i l r pos;simp only[and_eq_true] at h;have q:PE X (.Subscript l r pos) (tV Φ (bd X cl) EX (.idx a b)):=by refine(Nz (Ke (cl:=cl) c.units) (ha Γ k X cl EX l c h.1.2).1 (hb Γ k X cl EX r c h.2).1 (xV h.1.1)).imp λσ H Q aE=>?_;obtain⟨ρ,env,h,hE,r,p⟩:=aE;simp only[aF] at p;refine⟨ρ,env,h,hE,r,au p λv h1 ρ1 x H1 g1 r1 q1 p1=>⟨ρ1,env,h1,hE.up g1,r1,au p1 λw h2 ρ2 y H2 g2 r2 q2 p2=>?_⟩⟩;obtain⟨z,e,w'⟩:=dj r2 p2;exact⟨ρ2,h2,v,w,z,r2,VR.up g2 _ _ q1,q2,e,w'⟩
 exact⟨q,cJ q λ_=>rfl⟩
noncomputable def MK(Φ:Fn)(ir:IE)(env:Env):M (Option Int):=if cQ ir=true then ret none else bnd (aF Φ ir env) λv=>bnd (bh (gJ v)) λi=>ret (some i)
noncomputable def tP(Φ:Fn)(B:Bd)(EX:Nat->List V->Hp->Prop)(ir:IE):TO:=λσ H Q=>∃ρ env h,dm B.K ρ env σ H/\HR B ρ h H/\Post B EX ρ H (λo _ _ H'=>Q o H') (MK Φ ir env h)
theorem sf{i:Int}(h:gJ d=some i):d=.int i:=by cases d<;>cases h;rfl
theorem tM(hi:cg Φ ir)(c:Ctx Φ Γ k X cl EX)(h:(match o with|none=>cQ ir|some e=>!cQ ir&&bz Γ ir e)=true):PO X o (tP Φ (bd X cl) EX ir):=by
 cases o with
 | none =>refine E2.imp λσ H Q aE=>?_;obtain⟨ρ,env,h',hE,r,p⟩:=aE;unfold MK at p;rw[if_pos h] at p;exact ai r p
 | some e =>simp only[and_eq_true,not_eq_true'] at h;refine(E4 (hi Γ k X cl EX e c h.2).1).imp λσ H Q aE=>?_;obtain⟨ρ,env,h',hE,r,p⟩:=aE;unfold MK at p;rw[if_neg (by rw[h.1];exact Bool.false_ne_true)] at p;refine⟨ρ,env,h',hE,r,au p λv h1 ρ1 x H1 g1 r1 q1 p1=>?_⟩;obtain⟨i,e1,p2⟩:=cy p1;cases sf e1;rw[VR] at q1;exact⟨i,q1,ai r1 p2⟩
theorem KJ{a lo hi:IE}(ha:cg Φ a)(hl:cg Φ lo)(hh:cg Φ hi):cg Φ (.slc a lo hi):=by
 intro Γ k X cl EX e c h
 (conv at h=>lhs;whnf);split at h<;>first|cases h|skip
 rename_i l l' h' p2 pos;simp only[and_eq_true] at h;have q:PE X (.Subscript l (.Slice l' h' none p2) pos) (tV Φ (bd X cl) EX (.slc a lo hi)):=by refine(BD (Kf (cl:=cl) (EX:=EX)) (ha Γ k X cl EX l c h.1.1).1 (tM hl c h.1.2) (tM hh c h.2)).imp λσ H Q aE=>?_;obtain⟨ρ,env,h,hE,r,p⟩:=aE;simp only[aF] at p;refine⟨ρ,env,h,hE,r,au p λv h1 ρ1 x H1 g1 r1 q1 p1=>⟨ρ1,env,h1,hE.up g1,r1,bu (m:=MK Φ lo env) p1 λlo' h2 ρ2 H2 g2 r2 p3=>⟨ρ2,env,h2,(hE.up g1).up g2,r2,bu (m:=MK Φ hi env) p3 λhi' h3 ρ3 H3 g3 r3 p4=>?_⟩⟩⟩;exact⟨ρ3,h3,v,r3,VR.up (g2.trans g3) _ _ q1,p4⟩
 exact⟨q,cJ q λ_=>rfl⟩
theorem KL(ha:cg Φ a)(hs:cg Φ sx):cg Φ (.rev a sx):=by
 intro Γ k X cl EX e c h
 (conv at h=>lhs;whnf);split at h<;>first|cases h|skip
 rename_i l st p2 pos;simp only[and_eq_true] at h;obtain⟨⟨h1,h2⟩,h3⟩:=h;obtain⟨st,rfl⟩:=Option.isSome_iff_exists.mp h2;have q:PE X (.Subscript l (.Slice none none (some st) p2) pos) (tV Φ (bd X cl) EX (.rev a sx)):=by refine(J4 (ha Γ k X cl EX l c h1).1 (tM hs c h3)).imp λσ H Q aE=>?_;obtain⟨ρ,env,h,hE,r,p⟩:=aE;simp only[aF] at p;refine⟨ρ,env,h,hE,r,au p λv h1 ρ1 x H1 g1 r1 q1 p1=>⟨ρ1,env,h1,hE.up g1,r1,bu (m:=MK Φ sx env) p1 λlo' h2 ρ2 H2 g2 r2 p3=>?_⟩⟩;obtain⟨e1,p4⟩:=aH p3;obtain⟨xs,e2,p5⟩:=aB p4;obtain⟨ad,ys,rfl,k1,k2⟩:=fE r2 (VR.up g2 _ _ q1) e2;exact⟨of_decide_eq_true e1,ad,ys,rfl,k1,λq hq=>cO r2 hq (ay.rev k2) p5⟩
 exact⟨q,cJ q λ_=>rfl⟩
theorem iT:∀{eV:nV} {ls:List Expr} {vs:List Val} {h h':Hs},aM Γ eV ls=true->aU Φ eV env h=.ok vs h'->vs.length=ls.length:=by
 intro eV
 induction eV using nV.rec (motive_1:=λ_=>True) with
 | nil =>
  intro ls ds h h' a b;rw[aM] at a;simp only[aU,ret] at b;cases b;cases ls with
  | nil=>rfl
  | cons _ _=>cases a
 | cons e es _ ih =>
  intro ls ds h h' a b;rw[aM.eq_def] at a;dsimp only at a;cases ls with
  | nil=>cases a
  | cons l ls =>
   simp only[and_eq_true] at a;simp only[aU,bnd] at b;cases e1:aF Φ e env h with
   | ok v h1 =>
    rw[e1] at b;dsimp only at b;cases e2:aU Φ es env h1 with
    | ok vs h2 =>rw[e2] at b;cases b;simp[ih a.2 e2]
    | exc _ _ _=>rw[e2] at b;cases b
    | no=>rw[e2] at b;cases b
   | exc _ _ _=>rw[e1] at b;cases b
   | no=>rw[e1] at b;cases b
 | _=>trivial
theorem dZ{α β:Type}{W:β -> Hs->List Addr->Hp->Prop}{W':α -> Hs->List Addr->Hp->Prop}{m:M α}{f:α -> M β}(p:Post B EX ρ H W (bnd m f h))(k:∀v h1 ρ1 H1,m h=.ok v h1->Gr ρ H ρ1 H1->HR B ρ1 h1 H1->Post B EX ρ1 H1 W (f v h1)->W' v h1 ρ1 H1):Post B EX ρ H W' (m h):=by
 unfold bnd at p;cases e:m h with
 | ok v h1=>rw[e] at p;exact λρ1 H1 g r=>k v h1 ρ1 H1 e g r (Post.up g p)
 | exc c vs h1=>rw[e] at p;exact p
 | no=>rw[e] at p;exact p
theorem dY{α:Type}{h:Hs}{W:α -> Hs->List Addr->Hp->Prop}{o:Out α}(n:∀c xs H,¬ EX c xs H)(p:Post B EX ρ H W o):Post B (λ_ _ _=>False) ρ H W o:=by
 cases o with
 | ok a h'=>exact p
 | exc c vs h'=>exact λρ' H' xs g r q=>n _ _ _ (p ρ' H' xs g r q)
 | no=>exact p
theorem yP{n c:Nat}{φ0:List Val->M Val}(r:HR B ρ h H)(hv:ay B.K ρ H vs xs)(hl:vs.length=n)(p:Post B (λ_ _ _=>False) ρ H (WV B.K Q) (Eo c φ0 vs h))
  (nx:H x=none) (nd:H dx=none) (ne:dx≠x):tL B (n+1) φ0 (.ref x::xs) (upd (upd H dx (.own x)) x (.ins (B.cl c) dx [])) (λv H2=>v=.non/\Q (.ref x) H2) E:=by
 have r1:HR B ρ h (upd H dx (.own x)):=r.side nd;have VE:(upd H dx (.own x)) x=none:=by rw[aA λz=>ne z.symm];exact nx
 have g:Gr ρ H (ρ ++ [x]) (upd (upd H dx (.own x)) x (.ins (B.cl c) dx [])):=(Gr.side nd).trans (Gr.new VE);have r2:HR B (ρ ++ [x]) (h++[.ins c []]) (upd (upd H dx (.own x)) x (.ins (B.cl c) dx [])):=r1.new VE ⟨dx,[],aV,rfl⟩;have hx:(ρ ++ [x])[h.length]?=some x:=by rw[<-r.len];simp
 refine⟨ρ ++ [x],h++[.ins c []],.ref h.length::vs,by simp[hl],r2,ay.cons (VR.ref hx) (ay.up g _ _ hv),?_⟩;have p2:Post B (λ_ _ _=>False) (ρ ++ [x]) (upd (upd H dx (.own x)) x (.ins (B.cl c) dx [])) (WV B.K Q) (bnd (φ0 (.ref h.length::vs)) (λr=>match r with|.non=>ret (.ref h.length)|_=>bh none) (h++[.ins c []])):=Post.up g p;refine bu p2 λv h1 ρ1 H1 g1 r3 p3 y hy=>?_;cases v<;>first|exact p3.elim|skip
 rw[VR] at hy;exact⟨hy,ai r3 p3 _ (VR.ref (oM g1.pre hx))⟩
theorem FT{j:Nat}{k:Nat}(hs:jY Φ es)(c:Ctx Φ Γ k X cl EX)
  (h:(vh Γ.sc x && Γ.fns[j]?==some (x,args.length)&&decide (args.length<1000)&&aM Γ es args)=true):PE X (.Call (.Name x p) args [] pos) (tV Φ (bd X cl) EX (.call j es))/\PT X (.Call (.Name x p) args [] pos) (tT Φ (bd X cl) EX (.call j es)):=by
 simp only[and_eq_true,beq_iff_eq,decide_eq_true_eq] at h;obtain⟨⟨⟨h1,h2⟩,h3⟩,h4⟩:=h;obtain⟨g1,g2,g3⟩:=c.gl h1;have room:dQ k X.A:=c.room.mono (le_succ k);have q:PE X (.Call (.Name x p) args [] pos) (tV Φ (bd X cl) EX (.call j es)):=by
  rcases c.fns j x _ h2 with ⟨_,⟨f,fd,ps,f1,f2,f3,f4,f5⟩|⟨cc,f,fd,ps,φ0,f0,f1,f2,f3,f4,f5⟩⟩|⟨z,_⟩
  ·cases args with
   | nil =>
    cases es with
    | cons i eV=>rw[aM.eq_def] at h4;cases h4
    | nil =>refine(BA f5 room g1 f2 f3 f4 .nil pD g2).imp λσ H Q aE=>?_;obtain⟨ρ,env,h,hE,r,p⟩:=aE;simp only[aF,aU,cW] at p;exact⟨ρ,h,[],rfl,r,ay.nil,dY (h:=h) c.ly p⟩
   | cons l ls =>
    cases es with
    | nil=>rw[aM] at h4;cases h4
    | cons i eV =>have h5:=h4;rw[aM.eq_def] at h5;dsimp only at h5;simp only[and_eq_true] at h5;refine(EW f5 room g1 f2 f3 f4 .nil pD (hs.1 Γ k X cl EX _ c h4) g2 (aQ h5.1.1) (fY h5.2)).imp λσ H Q aE=>?_;obtain⟨ρ,env,h,hE,r,p⟩:=aE;simp only[aF] at p;refine⟨ρ,env,h,hE,r,dZ p λvs h1 ρ1 H1 e1 g1 r1 p1 xs q1=>⟨ρ1,h1,vs,iT h4 e1,r1,by rw[append_nil];exact q1,dY (h:=h1) c.ly p1⟩⟩
  ·cases args with
   | nil =>
    cases es with
    | cons i eV=>rw[aM.eq_def] at h4;cases h4
    | nil =>refine(BB f3 f5 c.room g1 f2 f4 .nil pD g2).imp λσ H Q aE=>?_;obtain⟨ρ,env,h,hE,r,p⟩:=aE;simp only[aF,aU,cW] at p;intro y dy ny R6 R7;rw[f0] at p;exact yP (B:=bd X cl) r ay.nil rfl (dY (h:=h) c.ly p) ny R6 R7
   | cons l ls =>
    cases es with
    | nil=>rw[aM] at h4;cases h4
    | cons i eV =>have h5:=h4;rw[aM.eq_def] at h5;dsimp only at h5;simp only[and_eq_true] at h5;refine(EY f3 f5 c.room g1 f2 f4 .nil pD (hs.1 Γ k X cl EX _ c h4) g2 (aQ h5.1.1) (fY h5.2)).imp λσ H Q aE=>?_;obtain⟨ρ,env,h,hE,r,p⟩:=aE;simp only[aF] at p;refine⟨ρ,env,h,hE,r,dZ p λvs h1 ρ1 H1 e1 g1 r1 p1 xs q1 y dy ny R6 R7=>?_⟩;rw[f0] at p1;rw[append_nil];exact yP (B:=bd X cl) r1 q1 (iT h4 e1) (dY (h:=h1) c.ly p1) ny R6 R7
  ·omega
 exact⟨q,cJ q λ_=>rfl⟩
theorem FU{j:Nat}{k:Nat}(hs:jY Φ es)(c:Ctx Φ Γ k X cl EX)
  (h:(vh Γ.sc x && Γ.tb.Er.contains (x,m,j)&&(match Γ.fns[j]? with|some (_,n)=>n==1000+args.length|none=>false)&&decide (args.length<29)&&ap.endLine==cp.line&&aM Γ es args && !args.isEmpty)=true) :
  PE X (.Call (.Attribute (.Name x p) m ap) args [] cp) (tV Φ (bd X cl) EX (.call j es))/\PT X (.Call (.Attribute (.Name x p) m ap) args [] cp) (tT Φ (bd X cl) EX (.call j es)):=by
 simp only[and_eq_true,beq_iff_eq,decide_eq_true_eq,contains_iff_mem] at h;obtain⟨⟨⟨⟨⟨⟨h1,h2⟩,h3⟩,h4⟩,h5⟩,h6⟩,h7⟩:=h;obtain⟨g1,g2,g3⟩:=c.gl h1;obtain⟨C,hm,cm⟩:=c.Er _ h2;have hf:∃xx,Γ.fns[j]?=some (xx,1000+args.length):=by
  cases ef:Γ.fns[j]? with
  | none=>rw[ef] at h3;cases h3
  | some q=>rw[ef] at h3;obtain⟨q1,q2⟩:=q;exact⟨q1,by rw[show q2=_ from eq_of_beq h3]⟩
 obtain⟨xx,hf⟩:=hf;have room:dQ k X.A:=c.room.mono (le_succ k)
 rcases c.fns j xx _ hf with ⟨z,_⟩|⟨_,fd,ps,f1,f4,f5⟩
 ·omega
 rw[show 1000+args.length-1000=args.length by omega] at f5;have few:((backTo cp (starEach args X.env)).all (λx=>!x.1)&&(backToKw cp (keywordEach [] X.env)).all (λx=>x.1.isSome)
   && decide (args.length+([]:List Keyword).length+(if ([]:List Keyword).isEmpty then 0 else 1)<30))=true:=by
  rw[pX h6];simp only[Bool.true_and,and_eq_true];exact⟨rfl,decide_eq_true (by simp;omega)⟩
 have hl:(ap.endLine==cp.line)=true:=by rw[h5];exact beq_self_eq_true _
 have q:PE X (.Call (.Attribute (.Name x p) m ap) args [] cp) (tV Φ (bd X cl) EX (.call j es)):=by
  cases args with
  | nil=>exact absurd h7 (by simp)
  | cons l ls =>
   cases es with
   | nil=>rw[aM] at h6;cases h6
   | cons i eV =>have h8:=h6;rw[aM.eq_def] at h8;dsimp only at h8;simp only[and_eq_true] at h8;refine(J6 (k:=k) f5 room g1 hm cm f4 (hs.1 Γ k X cl EX _ c h6) g2 few hl (aQ h8.1.1) (fY h8.2)).imp λσ H Q aE=>?_;obtain⟨ρ,env,h,hE,r,p⟩:=aE;simp only[aF] at p;refine⟨ρ,env,h,hE,r,dZ p λvs h1 ρ1 H1 e1 g1 r1 p1 xs q1=>⟨ρ1,h1,vs,iT h6 e1,r1,q1,dY (h:=h1) c.ly p1⟩⟩
 exact⟨q,cJ q λ_=>rfl⟩
theorem FW{j:Nat}(hs:jY Φ es):cg Φ (.call j es):=by
 intro Γ k X cl EX e c h
 (conv at h=>lhs;whnf);split at h<;>first|cases h|skip
 ·exact FT hs c h
 ·exact FU hs c h
theorem KN{n:Nat}(ha:cg Φ a):cg Φ (.fld n a x):=by
 intro Γ k X cl EX e c h
 (conv at h=>lhs;whnf);split at h<;>first|cases h|skip
 rename_i o y pos;simp only[and_eq_true,beq_iff_eq,contains_iff_mem] at h;obtain⟨⟨⟨⟨h1,h2⟩,h3⟩,h4⟩,h5⟩:=h;subst h1;have q:PE X (.Attribute o x pos) (tV Φ (bd X cl) EX (.fld n a x)):=by
  refine(pe_fld (ha Γ k X cl EX o c h5).1 (super_ok h2)).imp λσ H Q aE=>?_;obtain⟨ρ,env,h,hE,r,p⟩:=aE;simp only[aF] at p;refine⟨ρ,env,h,hE,r,au p λv h1 ρ1 y H1 g1 r1 q1 p1=>?_⟩;obtain⟨z,e1,w⟩:=dj r1 p1;cases v<;>first|(cases e1;done)|(rw[VR] at q1;exact q1.elim)|skip
  rename_i i;rw[VR] at q1;obtain⟨ad,rfl,q1⟩:=q1;have hx:∃c0 fs,h1[i]?=some (.ins c0 fs)/\c0<n/\fs.lookup x=some z:=by
   change (match h1[i]? with|some (.ins c fs)=>if c<n then fs.lookup x else none|_=>none)=some z at e1;split at e1
   ·rename_i c0 fs e2
    split at e1
    ·rename_i hc;exact⟨c0,fs,e2,hc,e1⟩
    ·cases e1
   ·cases e1
  obtain⟨c0,fs,e2,hc,e3⟩:=hx;obtain⟨dx,gs,k1,k2⟩:=r1.ob i _ ad e2 q1;obtain⟨y,l1,l2⟩:=k2.look.2 z e3;obtain⟨cc,nn⟩:=c.cls c0 (by omega);exact⟨ad,cl c0,dx,gs,y,rfl,k1,cc,nn x h4,l1,w y l2⟩
 exact⟨q,cJ q λ_=>rfl⟩
theorem vn:∀{js:List (Nat×Nat)} {c j:Nat},js.lookup c=some j->(c,j)∈js
 | (a,b)::r,c,j,e=>by
  rw[lookup_cons] at e;cases hb:c==a with
  | true=>rw[hb] at e;cases e;rw[eq_of_beq hb];exact mem_cons_self
  | false=>rw[hb] at e;exact mem_cons_of_mem _ (vn e)
theorem KO(ha:cg Φ a)(hs:jY Φ es):cg Φ (.mth a m js es):=by
 intro Γ k X cl EX e c h
 (conv at h=>lhs;whnf);split at h<;>first|cases h|skip
 rename_i o x ap args cp;simp only[and_eq_true,beq_iff_eq,all_eq_true,decide_eq_true_eq,contains_iff_mem] at h;obtain⟨⟨⟨⟨⟨⟨h1,h2⟩,h3⟩,h4⟩,h5⟩,h6⟩,h7⟩:=h;subst h1;have few:((backTo cp (starEach args X.env)).all (λx=>!x.1)&&(backToKw cp (keywordEach [] X.env)).all (λx=>x.1.isSome)
   && decide (args.length+([]:List Keyword).length+(if ([]:List Keyword).isEmpty then 0 else 1)<30))=true:=by
  rw[pX h7];simp only[Bool.true_and,and_eq_true];exact⟨rfl,decide_eq_true (by simp;omega)⟩
 have hl:(ap.endLine==cp.line)=true:=by rw[h4];exact beq_self_eq_true _
 have room:dQ k X.A:=c.room.mono (le_succ k);have main:∀(σ:L2.St) (H:Hp) (Q:VK) (v:Val) (h1:Hs) (ρ1:List Addr) (y:V) (H1:Hp) (F:Nat->M Val),HR (bd X cl) ρ1 h1 H1->VR X.K ρ1 H1 v y->Post (bd X cl) EX ρ1 H1 (WV X.K Q) (bnd (ask λh=>kO h v x js) F h1) ->
   ∃j i ad c0 dx gs fd ps,v=.ref i/\y=.ref ad/\H1 ad=some (.ins (cl c0) dx gs)/\zY X.K (cl c0)/\Meth X.K (cl c0) x (cl (1000+j))/\gs.lookup x=none/\Binds X.K fd ps [] /\
    fz X.prog X.w X.K X.mg X.base wI k (cl (1000+j)) fd ps (tL (bd X cl) (1+args.length) (Φ j))/\Post (bd X cl) EX ρ1 H1 (WV X.K Q) (F j h1):=by
  intro σ H Q v h1 ρ1 y H1 F r1 q1 p1;obtain⟨j,e1,p2⟩:=aB p1;cases v<;>first|(cases e1;done)|(rw[VR] at q1;exact q1.elim)|skip
  rename_i i;rw[VR] at q1;obtain⟨ad,rfl,q1⟩:=q1;have hx:∃c0 fs,h1[i]?=some (.ins c0 fs)/\fs.lookup x=none/\js.lookup c0=some j:=by
   change (match h1[i]? with|some (.ins c fs)=>if (fs.lookup x).isNone=true then js.lookup c else none|_=>none)=some j at e1;split at e1
   ·rename_i c0 fs e2
    split at e1
    ·rename_i hc;exact⟨c0,fs,e2,by simpa using hc,e1⟩
    ·cases e1
   ·cases e1
  obtain⟨c0,fs,e2,hn,e3⟩:=hx;obtain⟨dx,gs,k1,k2⟩:=r1.ob i _ ad e2 q1;obtain⟨⟨m1,m2⟩,m3⟩:=h5 _ (vn e3);dsimp only at m1 m2 m3;have cc:=(c.cls c0 m1).1;have mm:=c.FN _ m2;dsimp only at mm;have hf:∃xx,Γ.fns[j]?=some (xx,1001+args.length):=by
   cases ef:Γ.fns[j]? with
   | none=>rw[ef] at m3;cases m3
   | some q=>rw[ef] at m3;obtain⟨q1,q2⟩:=q;exact⟨q1,by rw[show q2=_ from eq_of_beq m3]⟩
  obtain⟨xx,hf⟩:=hf
  rcases c.fns j xx _ hf with ⟨z,_⟩|⟨_,fd,ps,f1,f4,f5⟩
  ·omega
  ·rw[show 1001+args.length-1000=1+args.length by omega] at f5;exact⟨j,i,ad,c0,dx,gs,fd,ps,rfl,rfl,k1,cc,mm,k2.look.1 hn,f4,f5,p2⟩
 have q:PE X (.Call (.Attribute o x ap) args [] cp) (tV Φ (bd X cl) EX (.mth a x js es)):=by
  cases args with
  | nil =>
   cases es with
   | cons i eV=>rw[aM.eq_def] at h7;cases h7
   | nil =>refine(pe_mth0 (k:=k) (ha Γ k X cl EX o c h6).1 (super_ok h2) hl room).imp λσ H Q aE=>?_;obtain⟨ρ,env,h,hE,r,p⟩:=aE;simp only[aF,aU,cW] at p;refine⟨ρ,env,h,hE,r,au p λv h1 ρ1 y H1 g1 r1 q1 p1=>?_⟩;obtain⟨j,i,ad,c0,dx,gs,fd,ps,rfl,rfl,k1,cc,mm,k2,f4,f5,p2⟩:=main σ H Q v h1 ρ1 y H1 _ r1 q1 p1;exact⟨ad,cl c0,dx,gs,cl (1000+j),fd,ps,_,rfl,k1,cc,mm,k2,f4,f5,ρ1,h1,[.ref i],rfl,r1,ay.cons q1 ay.nil,dY (h:=h1) c.ly p2⟩
  | cons l ls =>
   cases es with
   | nil=>rw[aM] at h7;cases h7
   | cons i eV =>have h8:=h7;rw[aM.eq_def] at h8;dsimp only at h8;simp only[and_eq_true] at h8;refine(pe_mthD (k:=k) (ha Γ k X cl EX o c h6).1 (hs.1 Γ k X cl EX _ c h7) (super_ok h2) few hl room (aQ h8.1.1) (fY h8.2)).imp λσ H Q aE=>?_;obtain⟨ρ,env,h,hE,r,p⟩:=aE;simp only[aF] at p;refine⟨ρ,env,h,hE,r,au p λv h1 ρ1 y H1 g1 r1 q1 p1=>?_⟩;obtain⟨j,i,ad,c0,dx,gs,fd,ps,rfl,rfl,k1,cc,mm,k2,f4,f5,p2⟩:=main σ H Q v h1 ρ1 y H1 _ r1 q1 p1;refine⟨ad,cl c0,dx,gs,cl (1000+j),fd,ps,_,rfl,k1,cc,mm,k2,f4,f5,ρ1,env,h1,hE.up g1,r1,dZ p2 λvs h2 ρ2 H2 e4 g2 r2 p3 xs q2=>?_⟩;refine⟨ρ2,h2,.ref i::vs,?_,r2,ay.cons (VR.up g2 _ _ q1) q2,dY (h:=h2) c.ly p3⟩;rw[length_cons,iT h7 e4];omega
 exact⟨q,cJ q λ_=>rfl⟩
end
end Hv
end
section
namespace Hv
open PySem L2 PyProof.Rows
section
variable {Φ:Fn} {Γ:pW} {k:Nat} {X:Cx} {cl:Nat->Addr} {EX:Nat->List V->Hp->Prop}
theorem KP:bootBuiltins "all" = some (.builtin "all"):=by decide +kernel
theorem KQ:bootBuiltins "any" = some (.builtin "any"):=by decide +kernel
theorem nt:bootBuiltins "sorted" = some (.builtin "sorted"):=by decide +kernel
theorem KR:bootBuiltins "min" = some (.builtin "min"):=by decide +kernel
theorem KS:bootBuiltins "max" = some (.builtin "max"):=by decide +kernel
theorem tN:bootBuiltins "list" = some (.type "list"):=by decide +kernel
theorem vo:bootBuiltins "tuple" = some (.type "tuple"):=by decide +kernel
theorem Ci:bootBuiltins "str" = some (.type "str"):=by decide +kernel
theorem Cj:bootBuiltins "int" = some (.type "int"):=by decide +kernel
theorem FY:bootBuiltins "bool" = some (.type "bool"):=by decide +kernel
theorem FZ:bootBuiltins "dict" = some (.type "dict"):=by decide +kernel
theorem yQ:bootBuiltins "isinstance" = some (.builtin "isinstance"):=by decide +kernel
theorem vp:aU Φ (.cons e .nil) env=bnd (aF Φ e env) λd=>ret [d]:=by
 simp only[aU,cW]
theorem six{T:String}(h:["list","tuple","str","bool","int","dict"].contains T=true):T = "list" \/ T = "tuple" \/ T = "str" \/ T = "bool" \/ T = "int" \/ T = "dict":=by simpa using h
theorem Ga{T:String}(h:["list","tuple","str","bool","int","dict"].contains T=true):(T:Str)∈fX/\bootBuiltins (T:Str)=some (.type T)/\(T:Str) ≠ "__name__" /\ ((T:Str)==("__debug__":Str))=false:=by
 rcases six h with rfl|rfl|rfl|rfl|rfl|rfl
 ·exact⟨by decide,tN,by decide,by decide⟩
 ·exact⟨by decide,vo,by decide,by decide⟩
 ·exact⟨by decide,Ci,by decide,by decide⟩
 ·exact⟨by decide,FY,by decide,by decide⟩
 ·exact⟨by decide,Cj,by decide,by decide⟩
 ·exact⟨by decide,FZ,by decide,by decide⟩
theorem Gb{T:String}(hs:jY Φ es):cg Φ (.blt (.isin T) es):=by
 intro Γ k X cl EX e c h
 (conv at h=>lhs;whnf);split at h<;>first|cases h|skip
 rename_i x p args pos;simp only[and_eq_true,beq_iff_eq] at h;obtain⟨⟨h1,h2⟩,h3⟩:=h;subst h2;obtain⟨g1,g2,g3⟩:=c.gl h1;split at h3<;>first|cases h3|skip
 rename_i a y yp;simp only[and_eq_true,beq_iff_eq] at h3;obtain⟨⟨⟨k1,k2⟩,k3⟩,k4⟩:=h3;obtain⟨b1,b2,b3,b4⟩:=Ga k3;obtain⟨y1,y2,y3⟩:=c.gl k1;subst k2;cases es with
 | nil=>rw[aM] at k4;cases k4
 | cons i eV =>
  rw[aM.eq_def] at k4;dsimp only at k4;simp only[and_eq_true] at k4;cases eV with
  | cons j eV=>have:=k4.2;rw[aM.eq_def] at this;cases this
  | nil =>
   have q:PE X (.Call (.Name (NZ (.isin T)) p) [a,.Name (T:Str) yp] [] pos) (tV Φ (bd X cl) EX (.blt (.isin T) (.cons i .nil))):=by refine(fT (FI (cl:=cl) (EX:=EX) (T:=T)) g1 (c.blt _ (show ("isinstance":Str)∈fX by decide)) yQ (lM (hs.2.1 Γ k X cl EX a c k4.1.2).1 (lM (Ex (v:=.ty T) y1 (c.blt _ b1) b2 rfl b3 b4) xh) (aQ k4.1.1)) g3 g2 (aQ k4.1.1)).imp λσ H Q aE=>?_;obtain⟨ρ,env,h,hE,r,p⟩:=aE;simp only[aF,vp,aW,cW] at p;exact⟨ρ,env,h,hE,r,au p λv h1 ρ1 x H1 g1 r1 q1 p1=>⟨ρ1,h1,v,x,rfl,r1,q1,p1⟩⟩
   exact⟨q,cJ q λ_=>rfl⟩
theorem KW:bootBuiltins "set" = some (.type "set"):=by decide +kernel
theorem Gd(ha:cg Φ a):cg Φ (.sset a):=by
 intro Γ k X cl EX e c h
 (conv at h=>lhs;whnf);split at h<;>first|cases h|skip
 rename_i x p1 y p2 l pos2 pos1;simp only[and_eq_true,beq_iff_eq] at h;obtain⟨⟨⟨⟨⟨h1,h2⟩,h3⟩,h4⟩,h5⟩,h6⟩:=h;subst h1;subst h2;have q:PE X (.Call (.Name "sorted" p1) [.Call (.Name "set" p2) [l] [] pos2] [] pos1) (tV Φ (bd X cl) EX (.sset a)):=by have qe:=(ha Γ k X cl EX l c h6).1;intro pins s σ H Q I hh;have hd:X.A.handled=none:=I.ok.hd c.calm;refine((Fy hd (c.gl h3).1 (c.blt _ (by decide)) (c.gl h4).1 (c.blt _ (by decide)) nt KW qe (aQ (env:=X.env) (es:=[]) h5)).imp λσ H Q ⟨ρ,env,h,hE,r,p⟩=>?_) pins s σ H Q I hh;simp only[aF] at p;refine⟨ρ,env,h,hE,r,au p λv h1 ρ1 x H1 g1 r1 q1 p1=>?_⟩;obtain⟨zs,e,p1⟩:=aB p1;obtain⟨ns,e1,p1⟩:=cy p1;obtain⟨e2,p1⟩:=aH p1;obtain⟨b,ys,rfl,q2,q3⟩:=fE r1 q1 e;rw[gF e1] at q3;rw[ay.ints.mp q3] at q2;exact⟨b,ns,rfl,q2,of_decide_eq_true e2,λl hl=>cO r1 hl (ay.ints.mpr rfl) p1⟩
 exact⟨q,cJ q λ_=>rfl⟩
theorem Ge{d k x:IE}(hd:cg Φ d)(hk:cg Φ k)(hx:cg Φ x):cg Φ (.dget d k x):=by
 intro Γ n X cl EX e c h
 (conv at h=>lhs;whnf);split at h<;>first|cases h|skip
 rename_i o m ap a b cp;simp only[and_eq_true,beq_iff_eq] at h;obtain⟨⟨⟨⟨⟨⟨⟨h1,h2⟩,h3⟩,h4⟩,h5⟩,h6⟩,h7⟩,h8⟩:=h;subst h1;have st:starEach [a,b] X.env=[(false,eval a X.env),(false,eval b X.env)]:=by rw[aQ h3,aQ h4];rfl
 have m2:M2 X o "get" ap a b cp:=⟨super_ok h2,by rw[st];rfl,by rw[h5];exact beq_self_eq_true _,by rw[st];rfl⟩;have q:PE X (.Call (.Attribute o "get" ap) [a,b] [] cp) (tV Φ (bd X cl) EX (.dget d k x)):=by
  refine(BJ (by have:=c.units;omega) (hd Γ n X cl EX o c h6).1 (hk Γ n X cl EX a c h7).1 (hx Γ n X cl EX b c h8).1 m2).imp λσ H Q aE=>?_;obtain⟨ρ,env,h,hE,r,p⟩:=aE;simp only[aF] at p;refine⟨ρ,env,h,hE,r,au p λv h1 ρ1 y H1 g1 r1 q1 p1=>?_⟩;obtain⟨u0,e1,pA⟩:=aB p1;clear p1;cases v<;>first|(cases e1;done)|(rw[VR] at q1;exact q1.elim)|skip
  rename_i i;rw[VR] at q1;obtain⟨ad,rfl,q1⟩:=q1;have hdc:∃kvs,h1[i]?=some (.dct kvs):=by
   change (match h1[i]? with|some (.dct _)=>some ()|_=>none)=some _ at e1;split at e1
   ·rename_i kvs e2;exact⟨kvs,e2⟩
   ·cases e1
  obtain⟨kvs,e2⟩:=hdc;obtain⟨ks,k1,k2⟩:=r1.ob i _ ad e2 q1;refine⟨ad,rfl,.inl ⟨ks,.inl k1⟩,ρ1,env,h1,hE.up g1,r1,au pA λw h2 ρ2 y2 H2 g2 r2 q2 p2=>?_⟩;obtain⟨kk,e3,p2⟩:=cy p2;refine⟨ρ2,env,h2,(hE.up g1).up g2,r2,au p2 λz h3 ρ3 y3 H3 g3 r3 q3 p3=>?_⟩;obtain⟨rr,e4,p3⟩:=aB p3;have q4:ρ3[i]?=some ad:=oM (g2.trans g3).pre q1;have Xv:∃kvs,h3[i]?=some (.dct kvs)/\rr=bV kvs kk:=by
   change (match h3[i]? with|some (.dct kvs)=>some (bV kvs kk)|_=>none)=some rr at e4;split at e4
   ·rename_i kvs e2;cases e4;exact⟨kvs,e2,rfl⟩
   ·cases e4
  obtain⟨R8,e5,rfl⟩:=Xv;obtain⟨Xw,k3,k4⟩:=r3.ob i _ ad e5 q4;have ek:y2=kV kk:=by
   cases w<;>first|(cases e3;done)|skip
   ·cases e3;rw[VR] at q2;exact q2
   ·cases e3;rw[VR] at q2;exact q2
  refine⟨iC Xw kk,by rw[ek];exact kN.k k3,?_⟩;cases ev:bV R8 kk with
  | none =>rw[ev] at p3;rw[(gx.val kk k4).1 ev];exact ai r3 p3 _ q3
  | some z' =>obtain⟨t,e6,q6⟩:=(gx.val kk k4).2 z' ev;rw[ev] at p3;rw[e6];exact ai r3 p3 _ q6
 exact⟨q,cJ q λ_=>rfl⟩
theorem yR{K:PySem.W.Frag}{ρ:List Addr}{H:Hp}:∀{kvs:List (Key×Val)} {ks:List (Key×V)},gx K ρ H kvs ks->ay K ρ H ((kvs.map (·.1)).map B9) (ks.map λkv=>kV kv.1)
 | [],ks,q=>by rw[gx] at q;subst q;exact rfl
 | (k,v)::kvs,ks,q=>by
  rw[gx] at q;obtain⟨x,r,rfl,_,q⟩:=q;refine⟨kV k,_,rfl,?_,yR q⟩;cases k with
  | inl i=>exact VR.int
  | inr s=>exact VR.str
theorem AB{mW:Unit}:∀(σ:L2.St) (H:Hp) (Q:VK),tV Φ (bd X cl) EX (.lkeys d) σ H Q->Vy (tV Φ (bd X cl) EX d) σ H Q:=λσ H Q ⟨ρ,env,h,hE,r,p⟩=>by
 simp only[aF] at p;refine⟨ρ,env,h,hE,r,au p λv h1 ρ1 y H1 g1 r1 q1 p1=>?_⟩;obtain⟨R9,e1,pA⟩:=aB p1;clear p1;cases v<;>first|(cases e1;done)|(rw[VR] at q1;exact q1.elim)|skip
 rename_i i;rw[VR] at q1;obtain⟨ad,rfl,q1⟩:=q1;have hdc:∃kvs,h1[i]?=some (.dct kvs)/\R9=kvs.map (·.1):=by
  change (match h1[i]? with|some (.dct kvs)=>some (kvs.map (·.1))|_=>none)=some _ at e1;split at e1
  ·rename_i kvs e2;cases e1;exact⟨kvs,e2,rfl⟩
  ·cases e1
 obtain⟨kvs,e2,rfl⟩:=hdc;obtain⟨ks,k1,k2⟩:=r1.ob i _ ad e2 q1;exact⟨ad,ks,rfl,k1,λl hl=>cO r1 hl (yR k2) pA⟩
theorem Ck(hd:cg Φ d):cg Φ (.lkeys d):=by
 intro Γ n X cl EX e c h
 (conv at h=>lhs;whnf);split at h<;>first|cases h|skip
 ·rename_i x p y qp pos
  simp only[and_eq_true,beq_iff_eq] at h;obtain⟨⟨h1,h3⟩,h6⟩:=h;subst h1;have q:PE X (.Call (.Name "list" p) [.Name y qp] [] pos) (tV Φ (bd X cl) EX (.lkeys d)):=by have qe:=(hd Γ n X cl EX _ c h6).1;intro pins s σ H Q I hh;have hdl:X.A.handled=none:=I.ok.hd c.calm;exact((Ao hdl (aQ rfl) (c.gl h3).1 (c.blt _ (by decide)) tN qe).imp (AB (mW:=()))) pins s σ H Q I hh
  exact⟨q,cJ q λ_=>rfl⟩
theorem Gf{d k x:IE}(hd:cg Φ d)(hk:cg Φ k)(hx:cg Φ x):cg Φ (.sdef d k x):=pY λ_ _=>rfl
theorem yS{K:PySem.W.Frag}{ρ:List Addr}{H:Hp}:∀{kvs:List (Key×Val)} {ks:List (Key×V)},gx K ρ H kvs ks->ks.map (·.1)=kvs.map (·.1)
 | [],ks,q=>by rw[gx] at q;subst q;rfl
 | (k,v)::kvs,ks,q=>by
  rw[gx] at q;obtain⟨x,r,rfl,_,q⟩:=q;rw[map_cons,map_cons,yS q]
theorem yT:∀{ks:List Key} {ns:List Int},pQ ks=some ns->ks=ns.map Sum.inl
 | [],ns,e=>by cases e;rfl
 | k::ks,ns,e=>by
  unfold pQ at e;rw[cD] at e;obtain⟨i,e1,e⟩:=bind_eq_some_iff.mp e;obtain⟨r,e2,e⟩:=bind_eq_some_iff.mp e;cases e;cases k with
  | inl j=>cases e1;rw[yT e2];rfl
  | inr _=>cases e1
theorem AD{mW:Unit}:∀(σ:L2.St) (H:Hp) (Q:VK),tV Φ (bd X cl) EX (.skeys d) σ H Q->Vz (tV Φ (bd X cl) EX d) σ H Q:=λσ H Q ⟨ρ,env,h,hE,r,p⟩=>by
 simp only[aF] at p;refine⟨ρ,env,h,hE,r,au p λv h1 ρ1 y H1 g1 r1 q1 p1=>?_⟩;obtain⟨ns0,e1,pA⟩:=aB p1;clear p1;unfold lC at e1;obtain⟨R9,e5,e6⟩:=bind_eq_some_iff.mp e1;clear e1;obtain⟨ns,e3,e4⟩:=bind_eq_some_iff.mp e6;clear e6;have e1:=e5;clear e5;cases v<;>first|(cases e1;done)|(rw[VR] at q1;exact q1.elim)|skip
 rename_i i;rw[VR] at q1;obtain⟨ad,rfl,q1⟩:=q1;have hdc:∃kvs,h1[i]?=some (.dct kvs)/\R9=kvs.map (·.1):=by
  change (match h1[i]? with|some (.dct kvs)=>some (kvs.map (·.1))|_=>none)=some _ at e1;split at e1
  ·rename_i kvs e2;cases e1;exact⟨kvs,e2,rfl⟩
  ·cases e1
 obtain⟨kvs,e2,rfl⟩:=hdc;obtain⟨ks,k1,k2⟩:=r1.ob i _ ad e2 q1
 by_cases hl:ns.length<64
 ·rw[if_pos hl] at e4;cases e4;exact⟨ad,ks,ns,rfl,k1,(yS k2).trans (yT e3),hl,λl hl=>cO r1 hl (ay.ints.mpr rfl) pA⟩
 ·rw[if_neg hl] at e4;cases e4
theorem Cm(hd:cg Φ d):cg Φ (.skeys d):=by
 intro Γ n X cl EX e c h
 (conv at h=>lhs;whnf);split at h<;>first|cases h|skip
 ·rename_i x p y qp pos
  simp only[and_eq_true,beq_iff_eq] at h;obtain⟨⟨h1,h3⟩,h6⟩:=h;subst h1;have q:PE X (.Call (.Name "sorted" p) [.Name y qp] [] pos) (tV Φ (bd X cl) EX (.skeys d)):=by have qe:=(hd Γ n X cl EX _ c h6).1;intro pins s σ H Q I hh;have hdl:X.A.handled=none:=I.ok.hd c.calm;exact((Aq hdl (aQ rfl) (c.gl h3).1 (c.blt _ (by decide)) nt qe).imp (AD (mW:=()))) pins s σ H Q I hh
  exact⟨q,cJ q λ_=>rfl⟩
theorem Cn(hd:cg Φ d):cg Φ (.svals d):=pY λ_ _=>rfl
theorem KY(hs:jY Φ es):cg Φ (.blt b es):=by
 cases b with
 | isin T=>exact Gb hs
 | _ =>
  intro Γ k X cl EX e c h
  (conv at h=>lhs;whnf);split at h<;>first|cases h|skip
  rename_i x p args pos;simp only[and_eq_true,beq_iff_eq] at h;obtain⟨⟨h1,h2⟩,h3⟩:=h;subst h2;obtain⟨g1,g2,g3⟩:=c.gl h1;cases args with
  | nil=>cases h3.1
  | cons l ls =>
   cases es with
   | nil=>have:=h3.2;rw[aM] at this;cases this
   | cons i eV =>
    have h5:=h3.2;rw[aM.eq_def] at h5;dsimp only at h5;simp only[and_eq_true] at h5;have hA:=hs.1 Γ k X cl EX _ c h3.2;have st:=aQ (env:=X.env) (es:=ls) h5.1.1;have an:=fY (pos:=pos) (env:=X.env) h5.2;refine(λq=>⟨q,cJ q λ_=>rfl⟩) ?_
    first
     | refine(fT (Kg (cl:=cl) (EX:=EX)) g1 (c.blt _ (by decide)) PySem.boot_len hA g3 g2 st an).imp λσ H Q ⟨ρ,env,h,hE,r,p⟩=>?_
     | refine(fT (Kh (cl:=cl) (EX:=EX) c.calm) g1 (c.blt _ (by decide)) KR hA g3 g2 st an).imp λσ H Q ⟨ρ,env,h,hE,r,p⟩=>?_
     | refine(fT (Kl (cl:=cl) (EX:=EX) c.calm) g1 (c.blt _ (by decide)) KS hA g3 g2 st an).imp λσ H Q ⟨ρ,env,h,hE,r,p⟩=>?_
     | refine(fT (Ax (cl:=cl) (EX:=EX)) g1 (c.blt _ (by decide)) nt hA g3 g2 st an).imp λσ H Q ⟨ρ,env,h,hE,r,p⟩=>?_
     | refine(fT (Ko (cl:=cl) (EX:=EX) c.calm) g1 (c.blt _ (by decide)) KP hA g3 g2 st an).imp λσ H Q ⟨ρ,env,h,hE,r,p⟩=>?_
     | refine(fT (Kp (cl:=cl) (EX:=EX) c.calm) g1 (c.blt _ (by decide)) KQ hA g3 g2 st an).imp λσ H Q ⟨ρ,env,h,hE,r,p⟩=>?_
     | refine(kD (FG (cl:=cl) (EX:=EX)) g1 (c.blt _ (by decide)) tN hA g3 g2 st an).imp λσ H Q ⟨ρ,env,h,hE,r,p⟩=>?_
     | refine(kD (Ce (cl:=cl) (EX:=EX)) g1 (c.blt _ (by decide)) vo hA g3 g2 st an).imp λσ H Q ⟨ρ,env,h,hE,r,p⟩=>?_
     | refine(kD (Km (cl:=cl) (EX:=EX)) g1 (c.blt _ (by decide)) Ci hA g3 g2 st an).imp λσ H Q ⟨ρ,env,h,hE,r,p⟩=>?_
     | refine(kD (Kn (cl:=cl) (EX:=EX)) g1 (c.blt _ (by decide)) Cj hA g3 g2 st an).imp λσ H Q ⟨ρ,env,h,hE,r,p⟩=>?_
    simp only[aF] at p;exact⟨ρ,env,h,hE,r,bu p λvs h1 ρ1 H1 g1 r1 p1 xs q1=>⟨ρ1,h1,vs,r1,q1,p1⟩⟩
noncomputable def VF:Me->String
 | .join=>"str" | .append=>"list" | .extend=>"list"
theorem Gg(r:HR B ρ h H)(q:VR B.K ρ H v x)(e:recv h m v=some ()):Ry B.K (VF m) x H:=by
 cases m<;>cases v<;>simp only[recv] at e<;>first|cases e|skip
 ·rw[VR] at q;subst q;rfl
 ·split at e
  ·rename_i xs e1;obtain⟨a,ys,rfl,q0,q1,q2⟩:=kG r q e1;exact .inl ⟨rfl,ys,.inl (.inl q1)⟩
  ·cases e
 ·split at e
  ·rename_i xs e1;obtain⟨a,ys,rfl,q0,q1,q2⟩:=kG r q e1;exact .inl ⟨rfl,ys,.inl (.inl q1)⟩
  ·cases e
theorem KZ(ha:cg Φ a)(hs:jY Φ es):cg Φ (.met m a es):=by
 intro Γ k X cl EX e c h
 (conv at h=>lhs;whnf);split at h<;>first|cases h|skip
 rename_i o x ap args cp;simp only[and_eq_true,beq_iff_eq] at h;obtain⟨⟨⟨⟨⟨⟨h1,h2⟩,h3⟩,h4⟩,h5⟩,h6⟩,h7⟩:=h;subst h1;cases args with
 | nil=>cases h3
 | cons l ls =>
  have hA:=hs.1 Γ k X cl EX _ c h7;have h8:noStar l=true/\∃eV,aM Γ eV ls=true:=by
   cases es with
   | nil=>rw[aM] at h7;cases h7
   | cons i eV=>rw[aM.eq_def] at h7;dsimp only at h7;simp only[and_eq_true] at h7;exact⟨h7.1.1,eV,h7.2⟩
  obtain⟨n1,eV,n2⟩:=h8;have st:=aQ (env:=X.env) (es:=ls) n1;have an:=fY (pos:=cp) (env:=X.env) n2;have few:((backTo cp (starEach (l::ls) X.env)).all (λx=>!x.1)&&(backToKw cp (keywordEach [] X.env)).all (λx=>x.1.isSome)
   && decide ((l::ls).length+([]:List Keyword).length+(if ([]:List Keyword).isEmpty then 0 else 1)<30))=true:=by
   rw[pX h7];have:(l::ls).length<29:=of_decide_eq_true h4;simp only[Bool.true_and,and_eq_true];exact⟨rfl,decide_eq_true (by simp at this |-;omega)⟩
  have hl:(ap.endLine==cp.line)=true:=by rw[h5];exact beq_self_eq_true _
  refine(λq=>⟨q,cJ q λ_=>rfl⟩) ?_;have fin:∀(T:String) (r:V->List V->Hp->VK->Prop),(∀x xs H Q,Qx (bd X cl) EX m x xs H Q->r x xs H Q)->T=VF m->∀σ H Q,tV Φ (bd X cl) EX (.met m a es) σ H Q->Vj X.K T r (tV Φ (bd X cl) EX a) (VD Φ (bd X cl) EX es) σ H Q:=by rintro T rr hr rfl σ H Q ⟨ρ,env,h,hE,r,p⟩;simp only[aF] at p;refine⟨ρ,env,h,hE,r,au p λv h1 ρ1 x H1 g1 r1 q1 p1=>?_⟩;obtain⟨_,e1,p2⟩:=aB p1;refine⟨Gg r1 q1 e1,ρ1,env,h1,hE.up g1,r1,bu p2 λvs h2 ρ2 H2 g2 r2 p3 xs q2=>hr _ _ _ _ ⟨ρ2,h2,v,vs,r2,VR.up g2 _ _ q1,q2,p3⟩⟩
  cases m with
  | join=>exact(BE PySem.F.plainAttrs_str PySem.F.slot_str_join PySem.F.type_str_join (FJ (cl:=cl) (EX:=EX)) (ha Γ k X cl EX o c h6).1 hA (super_ok h2) few hl st an).imp (fin _ _ (λ_ _ _ _ z=>z) rfl)
  | append=>exact(BE PySem.F.plainAttrs_list PySem.F.slot_list_append PySem.F.type_list_append (Ay (cl:=cl) (EX:=EX)) (ha Γ k X cl EX o c h6).1 hA (super_ok h2) few hl st an).imp (fin _ _ (λ_ _ _ _ z=>z) rfl)
  | extend=>exact(BE PySem.F.plainAttrs_list PySem.F.slot_list_extend PySem.F.type_list_extend (Az (cl:=cl) (EX:=EX)) (ha Γ k X cl EX o c h6).1 hA (super_ok h2) few hl st an).imp (fin _ _ (λ_ _ _ _ z=>z) rfl)
end
end Hv
end
section
namespace Hv
open PySem L2 PyProof.Rows
theorem _root_.L2.PI.or(h:PI X tg iter t)(h':PI X tg iter t'):PI X tg iter (λσ H R=>t σ H R\/t' σ H R):=λpins s σ H R I hw=>hw.elim (h pins s σ H R I) (h' pins s σ H R I)
structure Walks (B:Bd) (src:Src) (J:It) (ρ1:List Addr) (H1:Hp):Prop where
 stop:∀{ρ h H i xs},Gw ρ1 H1 ρ H->HR B ρ h H->src.items h=some xs->xs.length<=i->J.stop i H
 go:∀{ρ h H i xs v},Gw ρ1 H1 ρ H->HR B ρ h H->src.items h=some xs->xs[i]?=some v->J.go i H
 wO:∀{ρ h H i xs v y H'},Gw ρ1 H1 ρ H->HR B ρ h H->src.items h=some xs->xs[i]?=some v->J.wO i H y H'->Gr ρ H ρ H'/\HR B ρ h H'/\VR B.K ρ H' v y
section
variable {B:Bd} {ρ1:List Addr} {H1:Hp} {a:Addr}
theorem AE(q:jF B.K H1 a xs)(e:ay B.K ρ1 H1 vs xs):Walks B (.fix vs) (Rf B.K a) ρ1 H1 where
 stop:=λg r hi hl=>by
  cases hi;exact⟨xs,g.Qv q,by rw[<-e.length];exact hl⟩
 go:=λg r hi hv=>by
  cases hi;obtain⟨x,k1,_⟩:=e.get hv;exact⟨xs,x,g.Qv q,k1⟩
 wO:=λg r hi hv y=>by
  cases hi;obtain⟨rfl,y⟩:=y;obtain⟨x,k1,k2⟩:=e.get hv;have:=y xs (g.Qv q);rw[k1] at this;cases this;exact⟨Gr.refl,r,VR.kP g _ _ k2⟩
theorem Co(q:HV B.K H1 a xs)(e:ay B.K ρ1 H1 vs xs):Walks B (.fix vs) (Qm B.K a) ρ1 H1 where
 stop:=λg r hi hl=>by
  cases hi;exact⟨xs,(g.J9 q).sq,by rw[<-e.length];exact hl⟩
 go:=λg r hi hv=>by
  cases hi;obtain⟨x,k1,_⟩:=e.get hv;exact⟨xs,x,(g.J9 q).sq,k1⟩
 wO:=λg r hi hv y=>by
  cases hi;obtain⟨rfl,y⟩:=y;obtain⟨x,k1,k2⟩:=e.get hv;have:=y xs (g.J9 q).sq;rw[k1] at this;cases this;exact⟨Gr.refl,r,VR.kP g _ _ k2⟩
theorem kH{i:Nat}(q:ρ1[i]?=some a)(g:Gw ρ1 H1 ρ H)(r:HR B ρ h H)(hi:(Src.live i).items h=some xs):∃ys,iu B.K H a ys/\ay B.K ρ H xs ys:=by
 obtain⟨b,ys,e,k1,k2⟩:=fE r (VR.ref (oM g.pre q)) (show aD h (.ref i)=some xs from hi);cases e;exact⟨ys,k1,k2⟩
theorem xW{i:Nat}(q:ρ1[i]?=some a):Walks B (.live i) (Qm B.K a) ρ1 H1 where
 stop:=λg r hi hl=>by
  obtain⟨ys,k1,k2⟩:=kH q g r hi;exact⟨ys,k1,by rw[<-k2.length];exact hl⟩
 go:=λg r hi hv=>by
  obtain⟨ys,k1,k2⟩:=kH q g r hi;obtain⟨x,k3,_⟩:=k2.get hv;exact⟨ys,x,k1,k3⟩
 wO:=λg r hi hv y=>by
  obtain⟨ys,k1,k2⟩:=kH q g r hi;obtain⟨rfl,y⟩:=y;obtain⟨x,k3,k4⟩:=k2.get hv;have:=y ys k1;rw[k3] at this;cases this;exact⟨Gr.refl,r,k4⟩
theorem iG(lo:Int)(n:Nat):(cu lo n).length=n:=by unfold cu;simp
theorem nW{lo:Int}{n:Nat}:Walks B (.fix (cu lo n)) (Nf lo n) ρ1 H1 where
 stop:=λg r hi hl=>by
  cases hi;rw[iG] at hl;exact hl
 go:=λg r hi hv=>by
  cases hi;have:=(List.getElem?_eq_some_iff.mp hv).1;rw[iG] at this;exact this
 wO:=λ{ρ h H i xs v y H'} g r hi hv y'=>by
  cases hi;obtain⟨rfl,rfl⟩:=y';have hl:=(List.getElem?_eq_some_iff.mp hv).1;rw[iG] at hl;have e:(cu lo n)[i]?=some (.int (lo+i)):=by unfold cu;simp[hl]
  rw[e] at hv;cases hv;exact⟨Gr.refl,r,VR.int⟩
theorem gy:∀(i:Nat) (ds:List Val),(cT i ds).length=ds.length
 | _,[]=>rfl
 | i,d::r=>by simp[cT,gy (i+1) r]
theorem sj:∀(k:Nat) (ds:List Val) (i:Nat) (d:Val),ds[i]?=some d->(cT k ds)[i]?=some (.tup [.int ((k+i:Nat):Int),d])
 | _,[],_,_,h=>by simp at h
 | k,e::r,0,d,h=>by simp at h;subst h;simp[cT]
 | k,e::r,i+1,d,h=>by
  have:=sj (k+1) r i d (by simpa using h);simp only[cT,getElem?_cons_succ];rw[this];have e1:k+1+i=k+(i+1):=by omega
  rw[e1]
theorem nu{i:Nat}(e:(cT 0 ds)[i]?=some v):∃d,ds[i]?=some d/\v=.tup [.int (i:Int),d]:=by
 have hl:=(List.getElem?_eq_some_iff.mp e).1;rw[gy] at hl;have e1:=sj 0 ds i ds[i] (List.getElem?_eq_getElem hl);rw[e] at e1;cases e1;exact⟨ds[i],List.getElem?_eq_getElem hl,by rw[Nat.zero_add]⟩
theorem vq{i:Nat}(r:HR B ρ h H)(k1:iu B.K H a ys)(k2:ay B.K ρ H xs ys)(hv:(cT 0 xs)[i]?=some v)(hy:(NN B.K a).wO i H y H'):Gr ρ H ρ H'/\HR B ρ h H'/\VR B.K ρ H' v y:=by
 obtain⟨p,w,hn,rfl,rfl,hy⟩:=hy;obtain⟨d,e1,rfl⟩:=nu hv;obtain⟨x,k3,k4⟩:=k2.get e1;have:=hy ys k1;rw[k3] at this;cases this;exact⟨Gr.side hn,r.side hn,VR.tup (jF.of aV) (ay.cons VR.int (ay.cons (VR.up (Gr.side hn) _ _ k4) ay.nil))⟩
theorem vv(q:HV B.K H1 a xs)(e:ay B.K ρ1 H1 vs xs):Walks B (.fix (cT 0 vs)) (NN B.K a) ρ1 H1 where
 stop:=λg r hi hl=>by
  cases hi;rw[gy] at hl;exact⟨xs,(g.J9 q).sq,by rw[<-e.length];exact hl⟩
 go:=λg r hi hv=>by
  cases hi;obtain⟨d,e1,_⟩:=nu hv;obtain⟨x,k1,_⟩:=e.get e1;exact⟨xs,x,(g.J9 q).sq,k1⟩
 wO:=λg r hi hv y=>by
  cases hi;exact vq r (g.J9 q).sq (ay.kP g _ _ e) hv y
theorem vz{i:Nat}(q:ρ1[i]?=some a):Walks B (.enum i) (NN B.K a) ρ1 H1 where
 stop:=λg r hi hl=>by
  obtain⟨zs,e1,rfl⟩:=map_eq_some_iff.mp hi;obtain⟨ys,k1,k2⟩:=kH q g r e1;rw[gy] at hl;exact⟨ys,k1,by rw[<-k2.length];exact hl⟩
 go:=λg r hi hv=>by
  obtain⟨zs,e1,rfl⟩:=map_eq_some_iff.mp hi;obtain⟨ys,k1,k2⟩:=kH q g r e1;obtain⟨d,e2,_⟩:=nu hv;obtain⟨x,k3,_⟩:=k2.get e2;exact⟨ys,x,k1,k3⟩
 wO:=λg r hi hv y=>by
  obtain⟨zs,e1,rfl⟩:=map_eq_some_iff.mp hi;obtain⟨ys,k1,k2⟩:=kH q g r e1;exact vq r k1 k2 hv y
end
section
variable {Φ:Fn} {Γ:pW} {k:Nat} {X:Cx} {cl:Nat->Addr} {EX:Nat->List V->Hp->Prop}
noncomputable def ML(Φ:Fn)(ik:Ik)(it:nV)(env:Env):M Src:=bnd (aU Φ it env) λits=>bh (srcOf ik its)
noncomputable def tI(Φ:Fn)(B:Bd)(EX:Nat->List V->Hp->Prop)(ik:Ik)(it:nV):TI:=λσ H R=>∃ρ env h,dm B.K ρ env σ H/\HR B ρ h H /\
 Post B EX ρ H (λsrc h' ρ' H'=>(∃xs,src.items h'=some xs)/\∀J,Walks B src J ρ' H'->R J H') (ML Φ ik it env h)
theorem HZ(hs:jY Φ it)(c:Ctx Φ Γ k X cl EX)(h:yM Γ ik it iter=true)(ht:ik=.enum\/ik=.zip->∃es kk pos,tg=.Tuple es kk pos):PI X tg iter (tI Φ (bd X cl) EX ik it)/\∀x,foldedSetIterable iter X.env x=pure x:=by
 cases it with
 | nil=>rw[yM] at h;cases h
 | cons e es =>
  (conv at h=>lhs;whnf)
  cases ik with
  | seq =>
   dsimp only at h;split at h<;>first|cases h|skip
   rename_i hs';simp only[and_eq_true] at h;have q:=(hs.2.1 Γ k X cl EX iter c h.2).1;refine⟨((EF q).or (Js q)).imp λσ H R ⟨ρ,env,h,hE,r,p⟩=>?_,λx=>?_⟩
   ·simp only[ML,vp,aW,cW] at p
    have key:∀(Q:VK),(∀v h1 ρ1 x H1,aF Φ e env h=.ok v h1->Gr ρ H ρ1 H1->HR (bd X cl) ρ1 h1 H1->VR X.K ρ1 H1 v x->Post (bd X cl) EX ρ1 H1 (λsrc h' ρ' H'=>(∃xs,src.items h'=some xs)/\∀J,Walks (bd X cl) src J ρ' H'->R J H') (bh (srcOf .seq [v]) h1)->Q x H1)->tV Φ (bd X cl) EX e σ H Q:=λQ kk =>
     ⟨ρ,env,h,hE,r,dZ p λv h1 ρ1 H1 e1 g1 r1 p1 x q1=>kk v h1 ρ1 x H1 e1 g1 r1 q1 p1⟩
    cases ev:aF Φ e env h with
    | ok v h1 =>
     cases v with
     | tup vs =>refine .inr (key _ λv h1 ρ1 x H1 e1 g1 r1 q1 p1=>?_);rw[ev] at e1;cases e1;obtain⟨src,e2,w1,w2⟩:=cN r1 p1;cases e2;rw[VR] at q1;obtain⟨a,xs,rfl,k1,k2⟩:=q1;exact⟨a,rfl,⟨xs,k1⟩,w2 _ (AE k1 k2)⟩
     | rl vs =>refine .inl (key _ λv h1 ρ1 x H1 e1 g1 r1 q1 p1=>?_);rw[ev] at e1;cases e1;obtain⟨src,e2,w1,w2⟩:=cN r1 p1;cases e2;rw[VR] at q1;obtain⟨a,xs,rfl,k1,k2⟩:=q1;exact⟨a,rfl,⟨xs,k1.sq⟩,w2 _ (Co k1 k2)⟩
     | ref i =>refine .inl (key _ λv h1 ρ1 x H1 e1 g1 r1 q1 p1=>?_);rw[ev] at e1;cases e1;obtain⟨src,e2,⟨zs,w1⟩,w2⟩:=cN r1 p1;cases e2;have q0:=q1;rw[VR] at q1;obtain⟨a,rfl,k1⟩:=q1;obtain⟨b,ys,e3,k2,k3⟩:=fE r1 q0 (show aD h1 (.ref i)=some zs from w1);cases e3;exact⟨a,rfl,⟨ys,k2⟩,w2 _ (xW k1)⟩
     | _ =>refine .inl (key _ λv h1 ρ1 x H1 e1 g1 r1 q1 p1=>?_);rw[ev] at e1;cases e1;obtain⟨src,e2,_⟩:=cN r1 p1;cases e2
    | exc _ _ _=>exact .inl (key _ λv h1 ρ1 x H1 e1=>by rw[ev] at e1;cases e1)
    | no=>exact .inl (key _ λv h1 ρ1 x H1 e1=>by rw[ev] at e1;cases e1)
   ·cases iter<;>first|rfl|(exact absurd h.1 Bool.false_ne_true)
  | range =>
   dsimp only at h;split at h<;>first|cases h|skip
   rename_i x xp a args pos;simp only[and_eq_true,beq_iff_eq] at h;obtain⟨⟨⟨⟨⟨h1,h2⟩,h3⟩,h4⟩,h5⟩,h6⟩:=h;subst h1;obtain⟨g1,g2,g3⟩:=c.gl h2;have hm:=c.blt _ (show ("range":Str)∈fX by decide);refine⟨?_,λx=>rfl⟩;have hA:=hs.1 Γ k X cl EX (a::args) c (by rw[aM.eq_def];simp[h3,h4,h5]);cases args with
   | nil =>
    cases es with
    | cons i eV=>rw[aM.eq_def] at h5;cases h5
    | nil =>
     refine(zQ g1 hm hA (aQ h3)).imp λσ H R aE=>?_;obtain⟨ρ,env,h,hE,r,p⟩:=aE;refine⟨ρ,env,h,hE,r,dZ p λvs h1 ρ1 H1 e1 VG r1 p1 xs q1=>?_⟩;obtain⟨src,e2,w1,w2⟩:=cN r1 p1
     match vs,e2 with
     | [.int n],e2 =>
      change (if inR n=true then some (Src.fix (cu 0 n.toNat)) else none)=some src at e2;split at e2
      ·rename_i hn;cases e2;simp only[inR,and_eq_true,decide_eq_true_eq] at hn;obtain⟨x,rfl,hx⟩:=ay.one q1;rw[VR] at hx;subst hx;exact⟨n,rfl,hn.1,hn.2,w2 _ nW⟩
      ·cases e2
     | [.int _,.int _],e2=>have:=iT (Γ:=Γ) (ls:=[a]) (by rw[aM.eq_def];simp[h3,h4,aM]) e1;simp at this
   | cons b args =>
    cases args with
    | cons _ _=>have:=of_decide_eq_true h6;simp only[length_cons] at this;omega
    | nil =>
     have hb:noStar b=true:=by
      cases es with
      | nil=>rw[aM] at h5;cases h5
      | cons i eV=>rw[aM.eq_def] at h5;dsimp only at h5;simp only[and_eq_true] at h5;exact h5.1.1
     refine(zR g1 hm hA (by rw[aQ h3,aQ hb];rfl) (by rw[aQ hb];rfl)).imp λσ H R aE=>?_;obtain⟨ρ,env,h,hE,r,p⟩:=aE;refine⟨ρ,env,h,hE,r,dZ p λvs h1 ρ1 H1 e1 VG r1 p1 xs q1=>?_⟩;obtain⟨src,e2,w1,w2⟩:=cN r1 p1
     match vs,e2 with
     | [.int _],e2=>have:=iT (Γ:=Γ) (ls:=[a,b]) (by rw[aM.eq_def];simp[h3,h4,h5]) e1;simp at this
     | [.int lo,.int hi],e2 =>
      change (if (inR lo&&inR hi)=true then some (Src.fix (cu lo (hi-lo).toNat)) else none)=some src at e2;split at e2
      ·rename_i hn;cases e2;simp only[inR,and_eq_true,decide_eq_true_eq] at hn;obtain⟨x,y,rfl,hx,hy⟩:=ay.two q1;rw[VR] at hx;rw[VR] at hy;subst hx;subst hy;exact⟨lo,hi,rfl,⟨hn.1.1,hn.1.2,hn.2.1,hn.2.2⟩,w2 _ nW⟩
      ·cases e2
  | enum =>
   dsimp only at h;split at h<;>first|cases h|skip
   rename_i x xp a pos;simp only[and_eq_true,beq_iff_eq] at h;obtain⟨⟨⟨h1,h2⟩,h3⟩,h4⟩:=h;subst h1;obtain⟨g1,g2,g3⟩:=c.gl h2;have hm:=c.blt _ (show ("enumerate":Str)∈fX by decide);obtain⟨tes,tk,tp,rfl⟩:=ht (.inl rfl);refine⟨?_,λx=>rfl⟩;have hA:=hs.1 Γ k X cl EX [a] c (by rw[aM.eq_def];simp[h3,h4,aM]);refine(Ft g1 hm hA (aQ h3)).imp λσ H R aE=>?_;obtain⟨ρ,env,h,hE,r,p⟩:=aE;refine⟨ρ,env,h,hE,r,dZ p λvs h1 ρ1 H1 e1 VG r1 p1 xs q1=>?_⟩;obtain⟨src,e2,⟨zs,w1⟩,w2⟩:=cN r1 p1
   match vs,e2 with
   | [.rl ws],e2 =>cases e2;obtain⟨x,rfl,hx⟩:=ay.one q1;rw[VR] at hx;obtain⟨b,ys,rfl,k1,k2⟩:=hx;exact⟨b,rfl,⟨ys,k1.sq⟩,w2 _ (vv k1 k2)⟩
   | [.ref i],e2 =>cases e2;obtain⟨x,rfl,hx⟩:=ay.one q1;obtain⟨us,w3,_⟩:=map_eq_some_iff.mp w1;obtain⟨b,ys,rfl,k2,k3⟩:=fE r1 hx w3;rw[VR] at hx;obtain⟨b',e3,k1⟩:=hx;cases e3;exact⟨b,rfl,⟨ys,k2⟩,w2 _ (vz k1)⟩
  | zip=>cases h
end
end Hv
end
section
namespace Hv
open PySem L2 PyProof.Rows
section
variable {Φ:Fn} {Γ:pW} {k:Nat} {X:Cx} {cl:Nat->Addr} {EX:Nat->List V->Hp->Prop}
noncomputable def pZ:List Nat->MF
 | []=>Nb
 | i::is=>HK (rE i) (pZ is)
noncomputable def AF(K:PySem.W.Frag):xO->TG
 | .one i=>rE i
 | .tup is=>Nc K is.length (pZ is)
noncomputable def iH:List Nat->List V->L2.St->L2.St
 | i::is,v::vs,σ=>iH is vs (σ.set i (some v))
 | _,_,σ=>σ
theorem nv:∀{is:List Nat} {vs:List V} {σ:L2.St} {H:Hp} {Q:L2.St->Hp->Prop},vs.length=is.length->Q (iH is vs σ) H->pZ is vs σ H Q
 | [],[],_,_,_,_,h=>⟨rfl,h⟩
 | i::is,v::vs,σ,H,Q,hl,h=>⟨v,vs,rfl,nv (by simpa using hl) h⟩
theorem su(hnd:X.N.Nodup):∀{is:List Nat} {es:List Expr},es.length=is.length->(∀p∈is.zip es,∃x pos,p.2=.Name x pos/\X.N[p.1]?=some x/\X.env.scope.names.lookup x=some .local)->MG X es (pZ is)
 | [],[],_,_=>yr
 | i::is,e::es,hl,h=>by
  obtain⟨x,pos,rfl,h1,h2⟩:=h (i,e) (by simp);exact uC (oF hnd h1 (.inl h2) (.inr h2)) (su hnd (by simpa using hl) λp hp=>h p (by simp[hp]))
theorem gK:∀{es:List Expr},(∀e∈es,∃x pos,e=.Name x pos)->(assignEach es env).length=es.length/\(assignEach es env).findIdx? (·.1)=none
 | [],_=>⟨rfl,rfl⟩
 | e::es,h=>by
  obtain⟨x,pos,rfl⟩:=h e mem_cons_self;obtain⟨h1,h2⟩:=gK (env:=env) (es:=es) λe he=>h e (mem_cons_of_mem _ he);have e1:assignEach (Expr.Name x pos::es) env=(false,assign (Expr.Name x pos) env)::assignEach es env:=rfl;rw[e1];refine⟨by simp[h1],?_⟩;rw[List.findIdx?_cons,h2];rfl
theorem Cp{i:Nat}(h:xT Γ (.one i) tg=true):∃x p,tg=.Name x p:=by
 cases tg<;>first|exact⟨_,_,rfl⟩|exact absurd h Bool.false_ne_true
theorem vA{is:List Nat}(h:xT Γ (.tup is) tg=true):∃es k p,tg=.Tuple es k p:=by
 cases tg<;>first|exact⟨_,_,_,rfl⟩|exact absurd h Bool.false_ne_true
theorem K0(c:Ctx Φ Γ k X cl EX)(hnd:X.N.Nodup)(h:xT Γ pat tg=true):PG X tg (AF X.K pat):=by
 cases pat with
 | one i =>obtain⟨x,xp,rfl⟩:=Cp h;simp only[xT,and_eq_true,beq_iff_eq] at h;obtain⟨h1,h2⟩:=h;exact oF hnd (by rw[c.N];exact h1) (.inl (by rw[c.sc];exact h2)) (.inr (by rw[c.sc];exact h2))
 | tup is =>
  obtain⟨es,kk,pos,rfl⟩:=vA h
  ·
   simp only[xT,and_eq_true,beq_iff_eq,all_eq_true] at h;obtain⟨h1,h2⟩:=h;have names:∀p∈is.zip es,∃x pos,p.2=.Name x pos/\X.N[p.1]?=some x/\X.env.scope.names.lookup x=some .local:=λp hp=>by
    have q:=h2 p hp;cases ep:p.2<;>rw[ep] at q<;>simp at q;rename_i x pos';exact⟨x,pos',rfl,by rw[c.N];exact q.1,by rw[c.sc];exact q.2⟩
   have all:∀e∈es,∃x pos,e=.Name x pos:=λe he=>by
    obtain⟨n,hn,rfl⟩:=getElem_of_mem he;have hm:(is[n]'(by omega),es[n])∈is.zip es:=List.mem_iff_getElem?.mpr ⟨n,by rw[List.getElem?_zip_eq_some];simp[hn]⟩;obtain⟨x,pos,q,_⟩:=names _ hm;exact⟨x,pos,q⟩
   obtain⟨l1,l2⟩:=gK (env:=X.env) all;exact Br c.calm (su hnd h1 names) (by rw[l1,h1]) l2
noncomputable def vB(Γ:pW):xO->Expr->Bool
 | .one i,.Name x _=>Γ.N[i]?==some x&&(Γ.sc.names.lookup x==some .local || Γ.sc.names.lookup x==some .cell)
 | .tup is,.Tuple es _ _=>es.length==is.length&&(is.zip es).all λp=>match p.2 with
  | .Name x _=>Γ.N[p.1]?==some x&&(Γ.sc.names.lookup x==some .local || Γ.sc.names.lookup x==some .cell)
  | _=>false
 | _,_=>false
theorem p7(hfn:∀x,X.fn x=true)(hnd:X.N.Nodup):∀{is:List Nat} {es:List Expr},es.length=is.length->(∀p∈is.zip es,∃x pos,p.2=.Name x pos/\X.N[p.1]?=some x/\Loc X.env.scope x)->MG X es (pZ is)
 | [],[],_,_=>yr
 | i::is,e::es,hl,h=>by
  obtain⟨x,pos,rfl,h1,h2⟩:=h (i,e) (by simp);exact uC (oF hnd h1 h2 (.inl (hfn x))) (p7 hfn hnd (by simpa using hl) λp hp=>h p (by simp[hp]))
theorem qa{i:Nat}(h:vB Γ (.one i) tg=true):∃x p,tg=.Name x p:=by
 cases tg<;>first|exact⟨_,_,rfl⟩|exact absurd h Bool.false_ne_true
theorem l0{is:List Nat}(h:vB Γ (.tup is) tg=true):∃es k p,tg=.Tuple es k p:=by
 cases tg<;>first|exact⟨_,_,_,rfl⟩|exact absurd h Bool.false_ne_true
theorem yU(c:Ctx Φ Γ k X cl EX)(hfn:∀x,X.fn x=true)(hnd:X.N.Nodup)(h:vB Γ pat tg=true):PG X tg (AF X.K pat):=by
 have loc:∀x,(Γ.sc.names.lookup x==some .local || Γ.sc.names.lookup x==some .cell)=true->Loc X.env.scope x:=λx e=>by
  unfold L2.Loc;rw[c.sc];simpa using e
 cases pat with
 | one i =>obtain⟨x,pos,rfl⟩:=qa h;simp only[vB,and_eq_true,beq_iff_eq] at h;obtain⟨h1,h2⟩:=h;exact oF hnd (by rw[c.N];exact h1) (loc _ h2) (.inl (hfn _))
 | tup is =>
  obtain⟨es,kk,pos,rfl⟩:=l0 h
  ·
   simp only[vB,and_eq_true,beq_iff_eq,all_eq_true] at h;obtain⟨h1,h2⟩:=h;have names:∀p∈is.zip es,∃x pos,p.2=.Name x pos/\X.N[p.1]?=some x/\Loc X.env.scope x:=λp hp=>by
    have q:=h2 p hp;cases ep:p.2<;>rw[ep] at q<;>first|cases q|skip
    rename_i x pos';simp only[and_eq_true,beq_iff_eq] at q;exact⟨x,pos',rfl,by rw[c.N];exact q.1,loc _ q.2⟩
   have all:∀e∈es,∃x pos,e=.Name x pos:=λe he=>by
    obtain⟨n,hn,rfl⟩:=getElem_of_mem he;have hm:(is[n]'(by omega),es[n])∈is.zip es:=List.mem_iff_getElem?.mpr ⟨n,by rw[List.getElem?_zip_eq_some];simp[hn]⟩;obtain⟨x,pos,q,_⟩:=names _ hm;exact⟨x,pos,q⟩
   obtain⟨l1,l2⟩:=gK (env:=X.env) all;exact Br c.calm (p7 hfn hnd h1 names) (by rw[l1,h1]) l2
theorem dm.set{K:PySem.W.Frag}{ρ:List Addr}{env:Env}{σ:L2.St}{H:Hp}{i:Nat}{v:Val}{x:V}(e:dm K ρ env σ H)(hl:env.length = σ.length)(q:VR K ρ H v x):dm K ρ (env.set i (some v)) (σ.set i (some x)) H:=λj w hj=>by
 by_cases hij:i=j
 ·subst hij
  have hi:i<env.length:=by have:=(List.getElem?_eq_some_iff.mp hj).1;simpa using this
  rw[getElem?_set_self hi] at hj;cases hj;exact⟨x,by rw[getElem?_set_self (by rw[<-hl];exact hi)],q⟩
 ·rw[getElem?_set_ne hij] at hj;rw[getElem?_set_ne hij];exact e j w hj
theorem lD{K:PySem.W.Frag}{ρ:List Addr}{H:Hp}:∀{is:List Nat} {ds:List Val} {xs:List V} {env env':Env} {σ:L2.St},bindAll is ds env=some env'->ay K ρ H ds xs->dm K ρ env σ H->env.length = σ.length->dm K ρ env' (iH is xs σ) H/\env'.length=(iH is xs σ).length/\(iH is xs σ).length = σ.length/\xs.length=is.length
 | [],[],xs,env,env',σ,e,q,hE,hl=>by
  rw[ay] at q;subst q;simp only[bindAll] at e;cases e;exact⟨hE,hl,rfl,rfl⟩
 | i::is,d::ds,xs,env,env',σ,e,q,hE,hl=>by
  rw[ay] at q;obtain⟨x,r,rfl,q1,q2⟩:=q;simp only[bindAll] at e;obtain⟨a1,a2,a3,a4⟩:=lD e q2 (hE.set hl q1) (by simp[hl]);exact⟨a1,a2,by rw[show iH (i::is) (x::r) σ = iH is r (σ.set i (some x)) from rfl,a3];simp,by simp[a4]⟩
 | [],_::_,_,_,_,_,e,_,_,_=>by simp[bindAll] at e
 | _::_,[],_,_,_,_,e,_,_,_=>by simp[bindAll] at e
theorem yV{K:PySem.W.Frag}{ρ:List Addr}{H:Hp}{pat:xO}{v:Val}{x:V}{env env':Env}{σ:L2.St}{Q:L2.St->Hp->Prop}(e:fV pat v env=some env')(q:VR K ρ H v x)(hE:dm K ρ env σ H)(hl:env.length = σ.length)
  (kk:∀σ',dm K ρ env' σ' H->env'.length = σ'.length -> σ'.length = σ.length->Q σ' H):AF K pat x σ H Q:=by
 cases pat with
 | one i =>simp only[fV] at e;cases e;exact kk _ (hE.set hl q) (by simp[hl]) (by simp)
 | tup is =>
  cases v<;>simp only[fV] at e<;>first|cases e|skip
  rw[VR] at q;obtain⟨a,xs,rfl,q1,q2⟩:=q;obtain⟨a1,a2,a3,a4⟩:=lD e q2 hE hl;exact⟨a,xs,rfl,q1,a4,nv a4 (kk _ a1 a2 a3)⟩
theorem kI{α β:Type}{W:β -> Hs->List Addr->Hp->Prop}{W':α -> Hs->List Addr->Hp->Prop}{m:M α}{f:α -> M β}(g:Gr ρ H ρ' H')(p:Post B EX ρ H W (bnd m f h))
  (kk:∀v h1 ρ2 H2,m h=.ok v h1->Post B EX ρ H W (f v h1)->Gr ρ' H' ρ2 H2->HR B ρ2 h1 H2->W' v h1 ρ2 H2):Post B EX ρ' H' W' (m h):=by
 unfold bnd at p;cases e:m h with
 | ok v h1=>rw[e] at p;exact λρ2 H2 g2 r2=>kk v h1 ρ2 H2 e p g2 r2
 | exc c vs h1=>rw[e] at p;exact λρ2 H2 xs g2 r2 q=>p ρ2 H2 xs (g.trans g2) r2 q
 | no=>rw[e] at p;exact p
theorem HR.adopt(r:HR B ρ h H)(hD:D ∉ ρ)(q:OR B (ρ ++ [D]) H D u):HR B (ρ ++ [D]) (h++[u]) H where
 len:=by simp[r.len]
 nd:=by rw[nodup_append];refine⟨r.nd,by simp,λa ha b hb=>?_⟩;rw[mem_singleton.mp hb];rintro rfl;exact hD ha
 ob i v a q1 q2:=by
  by_cases hi:i<h.length
  ·rw[getElem?_append_left hi] at q1;rw[getElem?_append_left (by rw[r.len];exact hi)] at q2;exact OR.kP ⟨prefix_append _ _,λ_ _ e _=>e⟩ rfl (r.ob i v a q1 q2)
  ·rw[getElem?_append_right (by omega)] at q1
   rw[getElem?_append_right (by rw[r.len];omega)] at q2;have hi0:i-h.length=0:=by have:=(List.getElem?_eq_some_iff.mp q1).1;simp at this;omega
   rw[hi0] at q1;rw[r.len,hi0] at q2;simp at q1 q2;subst q1;subst q2;exact q
theorem Gr.over(g:Gr ρ H ρ' H')(hD:H D=none):Gr ρ H ρ' (upd H' D o) where
 pre:=g.pre
 keep a u e n:=by rw[aA (aG e hD)];exact g.keep a u e n
 firm a u e n:=by rw[aA (aG e hD)];exact g.firm a u e n
 fresh:=g.fresh
theorem Gr.adopt(g:Gr ρ H ρ' H')(hD:H D=none):Gr ρ H (ρ'++[D]) H' where
 pre:=g.pre.trans (prefix_append _ _)
 keep:=g.keep
 firm:=g.firm
 fresh a z n:=by
  rcases mem_append.mp z with z|z
  ·exact g.fresh a z n
  ·rw[mem_singleton.mp z];exact hD
theorem Gh{K:PySem.W.Frag}{ρ:List Addr}{env:Env}{σ:L2.St}{H:Hp}{js:List (Option Nat)}(e:dm K ρ env σ H):dm K ρ (jW js env) (jq js σ) H:=λi v q=>by
 unfold jW at q;rw[getElem?_map] at q;cases hj:js[i]? with
 | none=>rw[hj] at q;cases q
 | some o =>
  rw[hj] at q;simp only[map_some] at q;cases o with
  | none=>cases q
  | some j =>
   dsimp only at q;cases ej:env[j]? with
   | none=>rw[ej] at q;cases q
   | some w =>
    cases w with
    | none=>rw[ej] at q;cases q
    | some d =>rw[ej] at q;cases q;obtain⟨x,q1,q2⟩:=e j _ ej;refine⟨x,?_,q2⟩;unfold jq;rw[getElem?_map,hj];simp only[map_some];rw[q1]
theorem Cq{K:PySem.W.Frag}{ρ:List Addr}{env:Env}{σ σ':L2.St}{H:Hp}{js:List (Option Nat)}{pat:xO}(hp:(vj pat).all (λi=>js[i]?==some none)=true)(e:dm K ρ (jW js env) σ H)(hs:∀i,i∉vj pat -> σ'[i]? = σ[i]?):dm K ρ (jW js env) σ' H:=λi v q=>by
 have hi:i∉vj pat:=λz=>by
  have h1:=all_eq_true.mp hp i z;have h2:js[i]?=some none:=eq_of_beq h1;unfold jW at q;rw[getElem?_map,h2] at q;cases q
 obtain⟨x,q1,q2⟩:=e i v q;exact⟨x,(hs i hi).trans q1,q2⟩
theorem qb:∀{is:List Nat} {xs:List V} {σ:L2.St} {i:Nat},i∉is->(iH is xs σ)[i]? = σ[i]?
 | [],xs,σ,i,_=>by cases xs<;>rfl
 | j::is,[],σ,i,_=>rfl
 | j::is,x::xs,σ,i,h=>by
  rw[show iH (j::is) (x::xs) σ = iH is xs (σ.set j (some x)) from rfl,qb λz=>h (mem_cons_of_mem _ z),getElem?_set_ne λz=>h (by rw[z];exact mem_cons_self)]
theorem Cr{K:PySem.W.Frag}{ρ:List Addr}{H:Hp}{pat:xO}{v:Val}{x:V}{env env':Env}{σ:L2.St}{Q:L2.St->Hp->Prop}(e:fV pat v env=some env')(q:VR K ρ H v x)(hE:dm K ρ env σ H)(hl:env.length = σ.length)
  (kk:∀σ',dm K ρ env' σ' H -> σ'.length = σ.length->(∀i,i∉vj pat -> σ'[i]? = σ[i]?)->Q σ' H):AF K pat x σ H Q:=by
 cases pat with
 | one i =>simp only[fV] at e;cases e;exact kk _ (hE.set hl q) (by simp) λj hj=>getElem?_set_ne λz=>hj (by rw[z];exact mem_singleton.mpr rfl)
 | tup is =>
  cases v<;>simp only[fV] at e<;>first|cases e|skip
  rw[VR] at q;obtain⟨a,xs,rfl,q1,q2⟩:=q;obtain⟨a1,a2,a3,a4⟩:=lD e q2 hE hl;exact⟨a,xs,rfl,q1,a4,nv a4 (kk _ a1 a3 λj hj=>qb hj)⟩
theorem qc(hs:jY Φ it)(hc:cg Φ t)(he:cg Φ elt)(c:Ctx Φ Γ k X cl EX)(h:bz Γ (.comp N' js pat ik it t elt) e=true) :
  ∃e' tg iter ifs scope pos wi g tt te,e=.ListComp e' [⟨tg,iter,ifs,0⟩] scope pos/\ju X.N X.env.scope scope N' js=true/\PI X tg iter wi/\(∀cls C s H fp,PG (bP X scope N' cls C s H fp) tg g)/\(∀cls C s H fp,Fi (bP X scope N' cls C s H fp) ifs tt) /\
   (∀cls C s H fp,PE (bP X scope N' cls C s H fp) e' te)/\(∀x,foldedSetIterable iter X.env x=pure x)/\∀σ H Q,tV Φ (bd X cl) EX (.comp N' js pat ik it t elt) σ H Q->BO wi js g tt te σ H Q:=by
 (conv at h=>lhs;whnf);split at h<;>first|cases h|skip
 rename_i e' tg iter ifs scope pos;simp only[and_eq_true] at h;obtain⟨⟨⟨⟨⟨⟨⟨h1,h2⟩,h3⟩,h4⟩,h5⟩,h6⟩,h7⟩,h8⟩:=h;have hnd:N'.Nodup:=of_decide_eq_true h3;have hen:ik=.enum\/ik=.zip->∃es kk pos,tg=.Tuple es kk pos:=by
  intro hz;cases pat with
  | one i=>rcases hz with rfl|rfl<;>cases h6
  | tup is=>exact vA h4
 obtain⟨hi,hf⟩:=HZ hs c h2 hen
 let tt:TT:=if cQ t=true then uM else tT Φ (bd X cl) EX t
 have Rq:∀cls C s H fp,Fi (bP X scope N' cls C s H fp) ifs tt:=λcls C s H fp=>by
  have c':=c.Bf scope N' cls C s H fp;cases ifs with
  | nil =>have:cQ t=true:=h7;show Fi _ [] (if cQ t=true then uM else tT Φ (bd X cl) EX t);rw[if_pos this];exact Fj
  | cons a r =>
   cases r with
   | cons _ _=>cases h7
   | nil =>simp only[and_eq_true,not_eq_true'] at h7;show Fi _ [a] (if cQ t=true then uM else tT Φ (bd X cl) EX t);rw[if_neg (by rw[h7.1];exact Bool.false_ne_true)];exact Fo (hc _ _ _ _ _ _ c' h7.2).2
 refine⟨e',tg,iter,ifs,scope,pos,_,AF X.K pat,tt,tV Φ (bd X cl) EX elt,rfl,by rw[c.N,c.sc];exact h1,hi,λcls C s H fp=>K0 (c.Bf scope N' cls C s H fp) hnd h4,Rq,λcls C s H fp=>(he _ _ _ _ _ _ (c.Bf scope N' cls C s H fp) h8).1,hf,λσ H Q ⟨ρ,env,h,hE,r,p⟩=>?_⟩
 ·skip
  simp only[aF] at p
  let f:Val->M (Option Val):=λd=>bnd (bh (fV pat d (jW js env))) λenv'=>bnd (if cQ t=true then ret true else bnd (aF Φ t env') λv=>ask λh=>dJ h v) λt =>
    if t=true then bnd (aF Φ elt env') λe=>ret (some e) else ret none
  have p':Post (bd X cl) EX ρ H (WV X.K Q) (bnd (ML Φ ik it env) (λsrc=>bnd (ask λh=>src.items h) λxs=>aC (decide (xs.length<=100000)) (bnd (fW src f xs.length 0 []) λys=>new (.lst ys))) h):=by unfold ML;rw[aW];exact p
  refine⟨ρ,env,h,hE,r,bu p' λsrc h1 ρ1 H1 g1 r1 p1=>?_⟩;obtain⟨xs,e1,p2⟩:=aB p1;obtain⟨e2,p3⟩:=aH p2;have e2:=of_decide_eq_true e2;refine⟨⟨xs,e1⟩,λJ wk D hD=>?_⟩;have hDl:(100000:Nat)<sizeLine:=by rw[sizeLine_eq];decide
  refine⟨λi m σ' H'=>∃ρ' h' acc ys,Gr ρ1 H1 ρ' H'/\HR (bd X cl) ρ' h' H'/\D ∉ ρ'/\H' D=some (.lst ys)/\ay X.K ρ' H' acc ys/\dm X.K ρ' (jW js env) σ' H' /\ σ'.length=js.length/\acc.length<=i/\i+m=xs.length /\
   Post (bd X cl) EX ρ1 H1 (WV X.K Q) (bnd (fW src f m i acc) (λys=>new (.lst ys)) h'),⟨xs.length,ρ1,h1,[],[],Gr.side hD,r1.side hD,r1.out hD,aV,ay.nil,(Gh (hE.up g1)).up (Gr.side hD),kW js σ,Nat.le_refl _,by omega,p3⟩,?_⟩
  rintro i m σ' H' ⟨ρ',h',acc,ys,w1,w2,w3,w4,w5,w6,w7,w8,w9,tO⟩;have fin:∀p:Post (bd X cl) EX ρ1 H1 (WV X.K Q) (new (.lst acc) h'),Q (.ref D) H':=λp=>by
   refine p (ρ'++[D]) H' (w1.adopt hD) (w2.adopt w3 ⟨ys,w4,ay.kP ⟨prefix_append _ _,λ_ _ e _=>e⟩ _ _ w5⟩) _ (VR.ref (by rw[<-w2.len];simp))
  cases m with
  | zero =>
   simp only[fW,aW] at tO;obtain⟨xs',k1,tO⟩:=aB tO;have N3:Post (bd X cl) EX ρ1 H1 (WV X.K Q) (bnd (aC (decide (xs'.length<=i)) (ret acc)) (λys=>new (.lst ys)) h'):=tO;unfold aC at N3
   by_cases hl:xs'.length<=i
   ·have:bnd (λh=>if decide (xs'.length<=i)=true then ret acc h else Out.no) (λys=>new (.lst ys)) h'=new (.lst acc) h':=by
     unfold bnd;dsimp only;rw[if_pos (decide_eq_true hl)];rfl
    rw[this] at N3;exact .inl ⟨wk.stop w1.w w2 k1 hl,fin N3⟩
   ·have:bnd (λh=>if decide (xs'.length<=i)=true then ret acc h else Out.no) (λys=>new (.lst ys)) h'=Out.no:=by
     unfold bnd;dsimp only;rw[if_neg (by rw[decide_eq_false hl];exact Bool.false_ne_true)]
    rw[this] at N3;exact N3.elim
  | succ m =>
   simp only[fW,aW] at tO;obtain⟨xs',k1,tO⟩:=aB tO;cases hx:xs'[i]? with
   | none =>rw[hx] at tO;exact .inl ⟨wk.stop w1.w w2 k1 (List.getElem?_eq_none_iff.mp hx),fin tO⟩
   | some v =>
    rw[hx] at tO;dsimp only at tO;refine .inr ⟨wk.go w1.w w2 k1 hx,_,λBc JW w=>⟨m,lt_succ_self _,w⟩,λy H2 hy=>?_⟩;obtain⟨z1,z2,z3⟩:=wk.wO w1.w w2 k1 hx hy;simp only[aW] at tO;simp only[f,aW] at tO;obtain⟨env',k2,tO⟩:=cy tO;refine Cr k2 z3 (w6.up z1) (by rw[w7];simp[jW]) λσ2 Qy hl2 hout=>?_;have K1:H2 D=some (.lst ys):=z1.keep _ _ w4 w3;have G2:Gr ρ1 H1 ρ' H2:=w1.trans z1;have body:∀(b:Bool) (h3:Hs) (ρ3:List Addr) (H3:Hp),Gr ρ' H2 ρ3 H3->HR (bd X cl) ρ3 h3 H3->Post (bd X cl) EX ρ1 H1 (WV X.K Q) (bnd (if b=true then bnd (aF Φ elt env') λe=>ret (some e) else ret none) (λo=>bnd (fW src f m (i+1) (match o with|some e=>acc++[e]|none=>acc)) λys=>new (.lst ys)) h3) ->
      (if b=true then tV Φ (bd X cl) EX elt σ2 H3 (λy H4=>∃ys,H4 D=some (.lst ys)/\ys.length<sizeLine/\(λσ' H'=>∃ρ' h' acc ys,Gr ρ1 H1 ρ' H'/\HR (bd X cl) ρ' h' H'/\D ∉ ρ'/\H' D=some (.lst ys)/\ay X.K ρ' H' acc ys/\dm X.K ρ' (jW js env) σ' H' /\ σ'.length=js.length/\acc.length<=i+1/\i+1+m=xs.length /\
       Post (bd X cl) EX ρ1 H1 (WV X.K Q) (bnd (fW src f m (i+1) acc) (λys=>new (.lst ys)) h')) σ2 (upd H4 D (.lst (ys++[y]))))
      else (λσ' H'=>∃ρ' h' acc ys,Gr ρ1 H1 ρ' H'/\HR (bd X cl) ρ' h' H'/\D ∉ ρ'/\H' D=some (.lst ys)/\ay X.K ρ' H' acc ys/\dm X.K ρ' (jW js env) σ' H' /\ σ'.length=js.length/\acc.length<=i+1/\i+1+m=xs.length /\
       Post (bd X cl) EX ρ1 H1 (WV X.K Q) (bnd (fW src f m (i+1) acc) (λys=>new (.lst ys)) h')) σ2 H3):=by
     intro b h3 ρ3 H3 g3 r3 p5;have Sa:D ∉ ρ3:=λz=>by have:=g3.fresh D z w3;rw[K1] at this;cases this
     have MM:H3 D=some (.lst ys):=g3.keep _ _ K1 w3;have E3:dm X.K ρ3 (jW js env) σ2 H3:=(Cq h5 (w6.up z1) hout).up g3;cases b with
     | true =>
      rw[if_pos rfl] at p5 |-;simp only[aW,cW] at p5;refine⟨ρ3,env',h3,Qy.up g3,r3,kI (G2.trans g3) p5 λv4 h4 ρ4 H4 _ p6 g4 r4 y4 q4=>?_⟩;have VH:D ∉ ρ4:=λz=>by have:=g4.fresh D z Sa;rw[MM] at this;cases this
      have N4:H4 D=some (.lst ys):=g4.keep _ _ MM Sa;have gw:Gw ρ4 H4 ρ4 (upd H4 D (.lst (ys++[y4]))):=Gw.other N4 rfl;have la:=w5.length;refine⟨ys,N4,by omega,ρ4,h4,acc++[v4],ys++[y4],((G2.trans g3).trans g4).over hD,r4.other VH N4 rfl,VH,aV,ay.append (ay.kP gw _ _ (ay.up ((z1.trans g3).trans g4) _ _ w5)) (ay.kP gw _ _ (ay.cons q4 ay.nil)),(E3.up g4).kP gw,by rw[hl2,w7],by simp;omega,by omega,p6⟩
     | false =>rw[if_neg Bool.false_ne_true] at p5 |-;exact⟨ρ3,h3,acc,ys,G2.trans g3,r3,Sa,MM,ay.up (z1.trans g3) _ _ w5,E3,by rw[hl2,w7],by omega,by omega,p5⟩
    show (if cQ t=true then uM else tT Φ (bd X cl) EX t) σ2 H2 _
    by_cases hn:cQ t=true
    ·rw[if_pos hn];rw[if_pos hn,cW] at tO;exact body true h' ρ' H2 Gr.refl z2 tO
    ·rw[if_neg hn];rw[if_neg hn] at tO;exact⟨ρ',env',h',Qy,z2,kI G2 tO λb h3 ρ3 H3 _ p5 g3 r3=>body b h3 ρ3 H3 g3 r3 p5⟩
theorem Gi(hs:jY Φ it)(hc:cg Φ t)(he:cg Φ elt):cg Φ (.comp N' js pat ik it t elt):=by
 intro Γ k X cl EX e c h;obtain⟨e',tg,iter,ifs,scope,pos,wi,g,tt,te,rfl,h1,h2,h3,h4,h5,h6,h7⟩:=qc hs hc he c h;have q:=(Fp (pos:=pos) h1 c.calm h2 h3 h4 h5 h6).imp h7;exact⟨q,cJ q λ_=>rfl⟩
theorem Gj{k v:IE}(hk:cg Φ k)(hv:cg Φ v):cg Φ (.dct1 k v):=by
 intro Γ n X cl EX e c h
 (conv at h=>lhs;whnf);split at h<;>first|cases h|skip
 rename_i a b pos;simp only[and_eq_true] at h;have q:PE X (.Dict [some a] [b] pos) (tV Φ (bd X cl) EX (.dct1 k v)):=by
  refine(Fe (BI (hk Γ n X cl EX a c h.1).1 (hv Γ n X cl EX b c h.2).1 Fd) rfl rfl (by simp) (by simp)).imp λσ H Q aE=>?_;obtain⟨ρ,env,h,hE,r,p⟩:=aE;intro D hD;have g0:Gr ρ H ρ (upd H D (.dK [])):=Gr.side hD;simp only[aF] at p;refine⟨ρ,env,h,hE.up g0,r.side hD,kI g0 p λx h1 ρ1 H1 _ p1 g1 r1 y1 q1=>?_⟩;obtain⟨kk,e1,p1⟩:=cy p1;refine⟨ρ1,env,h1,(hE.up g0).up g1,r1,kI (g0.trans g1) p1 λy h2 ρ2 H2 _ p2 g2 r2 y2 q2=>?_⟩;have VI:D ∉ ρ:=r.out hD;have K1:D ∉ ρ2:=λz=>by have:=(g1.trans g2).fresh D z VI;rw[aV] at this;cases this
  have e2:H2 D=some (.dK []):=(g1.trans g2).keep D _ aV VI;have ek:y1=kV kk:=by
   cases x<;>first|(cases e1;done)|skip
   ·cases e1;rw[VR] at q1;exact q1
   ·cases e1;rw[VR] at q1;exact q1
  refine⟨e2,[(kk,y2)],by rw[ek];rfl,by simp,?_⟩;have gw:Gw ρ2 H2 (ρ2++[D]) (upd H2 D (.dK (mZ [] [(kk,y2)]))):=⟨prefix_append _ _,(Gw.other (ρ:=ρ2) e2 rfl).firm⟩;exact p2 (ρ2++[D]) _ ((((g0.trans g1).trans g2).over hD).adopt hD) ((r2.other K1 e2 rfl).adopt K1 ⟨[(kk,y2)],aV,y2,[],rfl,VR.kP gw _ _ q2,rfl⟩) _ (yH r2)
 exact⟨q,cJ q λ_=>rfl⟩
theorem Gk{p q:Nat}:cg Φ (.dflt N' js p q d w):=pY λ_ _=>rfl
theorem K2(ha:cg Φ a):cg Φ (.isc a x bs):=by
 intro Γ k X cl EX e c h
 (conv at h=>lhs;whnf);split at h<;>first|cases h|skip
 rename_i f fp l y yp pos;simp only[and_eq_true,beq_iff_eq,contains_iff_mem,decide_eq_true_eq] at h;obtain⟨⟨⟨⟨⟨⟨⟨h1,h2⟩,h3⟩,h4⟩,h5⟩,h6⟩,h7⟩,h8⟩:=h;subst h1;subst h3;obtain⟨g1,g2,g3⟩:=c.gl h2;obtain⟨y1,y2,y3⟩:=c.gl h4;obtain⟨C,hm,hC⟩:=c.isc _ h6;have q:PE X (.Call (.Name "isinstance" fp) [l,.Name y yp] [] pos) (tV Φ (bd X cl) EX (.isc a y bs)):=by
  refine(fT (B7 (C:=C)) g1 (c.blt _ (show ("isinstance":Str)∈fX by decide)) yQ (lM (ha Γ k X cl EX l c h8).1 (lM (yq (v:=.ref C) y1 hm rfl y2) xh) (aQ h5)) g3 g2 (aQ h5)).imp λσ H Q aE=>?_;obtain⟨ρ,env,h,hE,r,p⟩:=aE;simp only[aF] at p;refine⟨ρ,env,h,hE,r,au p λv h1 ρ1 z H1 g1 r1 q1 p1=>?_⟩;obtain⟨b,e1,p2⟩:=aB p1;cases v<;>first|(cases e1;done)|(rw[VR] at q1;exact q1.elim)|skip
  rename_i i;rw[VR] at q1;obtain⟨ad,rfl,q1⟩:=q1;have hx:∃c0 fs,h1[i]?=some (.ins c0 fs)/\bs[c0]?=some b:=by
   change (match h1[i]? with|some (.ins c _)=>bs[c]?|_=>none)=some b at e1;split at e1
   ·rename_i c0 fs e2;exact⟨c0,fs,e2,e1⟩
   ·cases e1
  obtain⟨c0,fs,e2,e3⟩:=hx;obtain⟨dx,gs,k1,k2⟩:=r1.ob i _ ad e2 q1;obtain⟨ti,kk⟩:=hC c0 b e3;have hl:c0<bs.length:=(List.getElem?_eq_some_iff.mp e3).1;exact⟨.ref ad,.ref (cl c0),b,rfl,.ins k1 (c.cls c0 (by omega)).1 ti.ha ti.hn ti.htk ti.hm,kk,ai r1 p2 _ VR.bl⟩
 exact⟨q,cJ q λ_=>rfl⟩
theorem nC:(∀ir,cg Φ ir)/\∀eV,jY Φ eV:=by
 have one:∀ir,cg Φ ir:=by
  intro ir;exact IE.rec (motive_1:=λir=>cg Φ ir) (motive_2:=λeV=>jY Φ eV) (λ_=>Kr) (λ_=>Ks) (λ_ _=>Ku) N1 (λ_ _ _ a b=>Kv a b) (λ_ a=>Kw a) (λ_ _ _ a b=>Ky a b) (λ_ _ _ _ _ a b c=>Kz a b c)
   (λ_ _ a b=>KA a b) (λ_ _ a b=>N2 a b) (λ_ a=>KC a) (λ_ _ _ a b c=>KD a b c) (λ_ a=>KG a) (λ_ a=>KH a) (λ_ _ a b=>KI a b) (λ_ _ _ a b c=>KJ a b c) (λ_ _ a=>FW a) (λ_ _ a=>KY a)
   (λ_ _ _ a b=>KZ a b) (λ_ _ _ _ _ _ _ a b c=>Gi a b c) FQ (λ_ a=>Gd a) (λ_ _ _ a b c=>Ge a b c) (λ_ _ a b=>Gj a b) (λ_ a=>Ck a) (λ_ _ _ a b c=>Gf a b c) (λ_ a=>Cn a) (λ_ a=>Cm a) (λ_ _ _ a=>KN a) (λ_ _ _ _ a b=>KO a b) (λ_ _ a b=>KL a b) (λ_ _ _ _ _ _ _ _=>Gk) (λ_ _ _ a=>K2 a) Cg (λ_ _ a b=>yO a b) ir
 refine⟨one,λeV=>?_⟩
 induction eV using nV.rec (motive_1:=λ_=>True) with
 | nil=>exact Cg
 | cons e es _ ih=>exact yO (one e) ih
 | _=>trivial
end
end Hv
end
section
namespace Hv
open PySem L2 PyProof.Rows
noncomputable def nD:Expr->Bool
 | .ListComp ..=>false|.SetComp ..=>false|.DictComp ..=>false
 | _=>true
noncomputable def N5:Expr->Bool
 | .Tuple ..=>false
 | _=>true
noncomputable def Sb:Expr->Bool
 | .SetComp ..=>false|.DictComp ..=>false
 | _=>true
mutual
noncomputable def N6(Γ:pW):IS->Stmt->Bool
 | .expr e,s=>match s with
  | .Expr x _=>nD x&&bz Γ e x
  | _=>false
 | .asg p e,s=>match s with
  | .Assign [tg] x _=>vB Γ p tg&&bz Γ e x&&(match p with|.one _=>Sb x|.tup _=>nD x&&N5 x)
  | _=>false
 | .aug i o e,s=>match s with
  | .AugAssign (.Name x _) op v _=>Γ.N[i]?==some x&&(Γ.sc.names.lookup x==some .local || Γ.sc.names.lookup x==some .cell)&&Kq o op&&(match o with|.pow=>false|_=>true)&&bz Γ e v
  | _=>false
 | .e8 o i v,s=>match s with
  | .Assign [.Subscript a b _] x _=>oN b&&nD x&&bz Γ o a&&bz Γ i b&&bz Γ v x
  | _=>false
 | .iff c a b,s=>match s with
  | .If t x y _=>bz Γ c t&&bA Γ a x&&bA Γ b y
  | _=>false
 | .for p k it body,s=>match s with
  | .For tg iter x [] _=>vB Γ p tg&&yM Γ k it iter&&(match k,p with|.enum,.one _=>false|.zip,.one _=>false|_,_=>true)&&bA Γ body x
  | _=>false
 | .whl _ c body,s=>match s with
  | .While t x [] _=>bz Γ c t&&bA Γ body x
  | _=>false
 | .ret e,s=>match s with
  | .Return (some x) _=>bz Γ e x
  | _=>false
 | .FD,s=>match s with
  | .Return none _=>true
  | _=>false
 | .brk,s=>match s with
  | .Break _=>true
  | _=>false
 | .cnt,s=>match s with
  | .Continue _=>true
  | _=>false
 | .pass,s=>match s with
  | .Pass _=>true
  | .Expr (.Constant (.str _) _ _) _=>true
  | _=>false
 | .never,_=>true
 | .setF n a x v,s=>match s with
  | .Assign [.Attribute o y _] e _=>x==y&&nD e&&n == Γ.tb.nc && Γ.tb.FL.contains x&&bz Γ a o&&bz Γ v e
  | _=>false
noncomputable def bA(Γ:pW):fy->List Stmt->Bool
 | .nil,ls=>ls.isEmpty
 | .cons s r,ls=>match ls with
  | l::ls=>N6 Γ s l&&bA Γ r ls
  | []=>false
end
structure K3 (Φ:Fn) (Γ:pW) (k:Nat) (X:Cx) (cl:Nat->Addr) (EX:Nat->List V->Hp->Prop):Prop extends Ctx Φ Γ k X cl EX where
 fn:∀x,X.fn x=true
 nd:X.N.Nodup
 kind:X.env.scope.kind=.function
 xe:PassesOwn (model X.prog X.w) X.A X.env X.xe
noncomputable def WF(K:PySem.W.Frag)(D:Ends):Fl->Hs->List Addr->Hp->Prop
 | .nx env',_,ρ',H'=>∀σ',dm K ρ' env' σ' H'->env'.length = σ'.length->D.nx σ' H'
 | .rt v,_,ρ',H'=>∀x,VR K ρ' H' v x->D.rt x H'
 | .bk env',_,ρ',H'=>∀σ',dm K ρ' env' σ' H'->env'.length = σ'.length->D.bk σ' H'
 | .ct env',_,ρ',H'=>∀σ',dm K ρ' env' σ' H'->env'.length = σ'.length->D.ct σ' H'
noncomputable def tS(Φ:Fn)(B:Bd)(EX:Nat->List V->Hp->Prop)(ir:IS):TS:=λD σ H=>∃ρ env h,dm B.K ρ env σ H/\env.length = σ.length/\HR B ρ h H/\Post B EX ρ H (WF B.K D) (eO Φ ir env h)
noncomputable def Xx(Φ:Fn)(B:Bd)(EX:Nat->List V->Hp->Prop)(ir:fy):TS:=λD σ H=>∃ρ env h,dm B.K ρ env σ H/\env.length = σ.length/\HR B ρ h H/\Post B EX ρ H (WF B.K D) (dX Φ ir env h)
theorem _root_.L2.PS.imp(h:PS X e t)(i:∀D σ H,t' D σ H->t D σ H):PS X e t':=λpins s σ H D I hw=>h pins s σ H D I (i D σ H hw)
theorem _root_.L2.wN.imp(h:wN X e t)(i:∀D σ H,t' D σ H->t D σ H):wN X e t':=λpins s σ H D I hw=>h pins s σ H D I (i D σ H hw)
section
variable {Φ:Fn} {Γ:pW} {k:Nat} {X:Cx} {cl:Nat->Addr} {EX:Nat->List V->Hp->Prop}
noncomputable def vC(Φ:Fn)(ir:IS):Prop:=∀(Γ:pW) (k:Nat) (X:Cx) (cl:Nat->Addr) (EX:Nat->List V->Hp->Prop) (st:Stmt),K3 Φ Γ k X cl EX->N6 Γ ir st=true->PS X st (tS Φ (bd X cl) EX ir)
noncomputable def tQ(Φ:Fn)(eV:fy):Prop:=∀(Γ:pW) (k:Nat) (X:Cx) (cl:Nat->Addr) (EX:Nat->List V->Hp->Prop) (st:List Stmt),K3 Φ Γ k X cl EX->bA Γ eV st=true->wN X st (Xx Φ (bd X cl) EX eV)
theorem jZ{n:Nat}(h:nD e=true):swapsWith e t n env=pure false:=by
 cases e<;>first|rfl|(exact absurd h Bool.false_ne_true)
theorem Gm(ir:IE)(c:Ctx Φ Γ k X cl EX)(h:bz Γ ir e=true):PE X e (tV Φ (bd X cl) EX ir):=(nC.1 ir Γ k X cl EX e c h).1
theorem Xy(ir:IE)(c:Ctx Φ Γ k X cl EX)(h:bz Γ ir e=true):PT X e (tT Φ (bd X cl) EX ir):=(nC.1 ir Γ k X cl EX e c h).2
theorem N7(hs:∀env h,eO Φ ir env h=.no):vC Φ ir:=by
 intro Γ k X cl EX st c h;refine oZ.imp λD σ H ⟨ρ,env,h,hE,hl,r,p⟩=>?_;rw[hs] at p;exact p.elim
theorem K4:vC Φ (.expr e):=by
 intro Γ k X cl EX st c h
 (conv at h=>lhs;whnf);split at h<;>first|cases h|skip
 simp only[and_eq_true] at h;refine(EB (Gm e c.toCtx h.2) (jZ h.1)).imp λD σ H aE=>?_;obtain⟨ρ,env,h,hE,hl,r,p⟩:=aE;simp only[eO] at p;exact⟨ρ,env,h,hE,r,au p λv h1 ρ1 x H1 g1 r1 q1 p1=>ai r1 p1 σ (hE.up g1) hl⟩
theorem N8:vC Φ (.asg p e):=by
 intro Γ k X cl EX st c h
 (conv at h=>lhs;whnf);split at h<;>first|cases h|skip
 rename_i tg x pos;simp only[and_eq_true] at h;obtain⟨⟨h1,h2⟩,h3⟩:=h;have hg:=yU c.toCtx c.fn c.nd h1;have he:=Gm e c.toCtx h2;have fin:∀D σ H,tS Φ (bd X cl) EX (.asg p e) D σ H->ED (tV Φ (bd X cl) EX e) (AF X.K p) D σ H:=λD σ H ⟨ρ,env,h,hE,hl,r,pp⟩=>by
  simp only[eO] at pp;refine⟨ρ,env,h,hE,r,au pp λv h1 ρ1 x H1 g1 r1 q1 p1=>?_⟩;obtain⟨env',e1,p2⟩:=cy p1;exact yV e1 q1 (hE.up g1) hl λσ' Sd hl' _=>ai r1 p2 σ' Sd hl'
 have Xz:(assignEach [tg] X.env).map (·.2)=[assign tg X.env]:=by
  cases p with
  | one i=>obtain⟨t,tp,rfl⟩:=qa h1;rfl
  | tup is=>obtain⟨es,kk,tp,rfl⟩:=l0 h1;rfl
 cases p with
 | tup is =>
  simp only[and_eq_true] at h3;refine(Bs he hg ?_ ?_ Xz).imp fin
  ·show swapsWith x (some tg) _ _=_;exact jZ h3.1
  ·obtain⟨es,kk,tp,rfl⟩:=l0 h1;cases x<;>first|rfl|(exact absurd h3.2 Bool.false_ne_true)
 | one i =>
  obtain⟨t,tp,rfl⟩:=qa h1
  ·
   simp only[vB,and_eq_true,beq_iff_eq] at h1;have loc:L2.Loc X.env.scope t:=by unfold L2.Loc;rw[c.sc];simpa using h1.2
   have pl:nD x=true->PS X (.Assign [.Name t tp] x pos) (tS Φ (bd X cl) EX (.asg (.one i) e)):=λhx=>(Bt c.nd (by rw[c.N];exact h1.1) loc he (jZ hx) (.inl (c.fn t))).imp fin;cases x with
   | ListComp e' gens scope p2 =>
    cases hb:(X.env.kindOf t==some .local&&tp.line==p2.line && !(scope.names.any λ(n,k)=>n==t&&(k==.local||k==.cell))) with
    | false =>
     refine(Bt c.nd (by rw[c.N];exact h1.1) loc he ?_ (.inl (c.fn t))).imp fin;have bk:(X.env.blockKind==.function)=true:=by unfold Env.blockKind;rw[c.kind];rfl
     show (pure (X.env.blockKind==.function&&X.env.kindOf t==some .local&&tp.line==p2.line && !(scope.names.any λ(n,k)=>n==t&&(k==.local||k==.cell))):Sem Bool)=pure false;rw[bk,Bool.true_and,hb]
    | true =>
     have bk:(X.env.blockKind==.function)=true:=by unfold Env.blockKind;rw[c.kind];rfl
     have hsw:swapsWith (.ListComp e' gens scope p2) (some (.Name t tp)) pos.line X.env=pure true:=by show (pure (X.env.blockKind==.function&&X.env.kindOf t==some .local&&tp.line==p2.line && !(scope.names.any λ(n,k)=>n==t&&(k==.local||k==.cell))):Sem Bool)=pure true;rw[bk,Bool.true_and,hb]
     cases e with
     | comp N' js pat ik it N9 elt =>obtain⟨e2,tg2,iter,ifs,Se,pos2,wi,g,tt,te,q0,q1,q2,q3,q4,q5,q6,q7⟩:=qc (nC.2 it) (nC.1 N9) (nC.1 elt) c.toCtx h2;cases q0;refine(Fq c.nd (by rw[c.N];exact h1.1) loc q1 c.calm q2 q3 q4 q5 hsw (.inl (c.fn t)) q6).imp λD σ H hh=>?_;exact q7 σ H _ (fin D σ H hh)
     | dflt N' js p q d w =>refine oZ.imp λD σ H hh=>?_;obtain⟨ρ,env,h,hE,hl,r,pp⟩:=hh;simp only[eO,aF] at pp;exact pp.elim
     | _=>first|exact absurd h2 Bool.false_ne_true|(rw[bz.eq_def] at h2;cases h2)
   | SetComp _ _ _ _=>exact absurd h3 Bool.false_ne_true
   | DictComp _ _ _ _ _=>exact absurd h3 Bool.false_ne_true
   | _=>exact pl rfl
noncomputable def VJ(B:Bd)(EX:Nat->List V->Hp->Prop)(o:FA):R2:=λx y H Q=>∃ρ h i j,HR B ρ h H/\x=.int i/\y=.int j/\Post B EX ρ H (WV B.K Q) (HQ o (.int i) (.int j) h)
theorem K5(ho:(match o with|.pow=>false|_=>true)=true):jP X (inplaceOp (xR o)) (VJ (bd X cl) EX o):=by
 intro pins s σ H x y v' u' Q I rx ry hh;obtain⟨ρ,h,i,j,r,rfl,rfl,p⟩:=hh;cases o with
 | add=>exact EJ pins s σ H _ _ _ _ Q I rx ry ⟨_,_,rfl,rfl,ai r p _ VR.int⟩
 | sub=>exact EK pins s σ H _ _ _ _ Q I rx ry ⟨_,_,rfl,rfl,ai r p _ VR.int⟩
 | mul =>obtain⟨hm,p⟩:=aH p;refine EL pins s σ H _ _ _ _ Q I rx ry ⟨_,_,rfl,rfl,?_,ai r p _ VR.int⟩;unfold jV at hm;simp only[or_eq_true,and_eq_true,decide_eq_true_eq] at hm;exact hm
 | fdiv =>obtain⟨hm,p⟩:=aH p;exact Av pins s σ H _ _ _ _ Q I rx ry ⟨_,_,rfl,rfl,hm,ai r p _ VR.int⟩
 | mod =>obtain⟨hm,p⟩:=aH p;have hm:=of_decide_eq_true hm;exact EM pins s σ H _ _ _ _ Q I rx ry ⟨_,_,rfl,rfl,hm,ai r p _ VR.int⟩
 | pow=>cases ho
theorem Oa{i:Nat}:vC Φ (.aug i o e):=by
 intro Γ k X cl EX st c h
 (conv at h=>lhs;whnf);split at h<;>first|cases h|skip
 rename_i x xp op v pos;simp only[and_eq_true,beq_iff_eq] at h;obtain⟨⟨⟨⟨h1,h2⟩,h3⟩,h4⟩,h5⟩:=h;have eo:op=xR o:=yN h3;subst eo;have loc:L2.Loc X.env.scope x:=by unfold L2.Loc;rw[c.sc];simpa using h2
 refine(Jr (ti:=VJ (bd X cl) EX o) c.nd (by rw[c.N];exact h1) loc (Gm e c.toCtx h5) (K5 h4) (.inl (c.fn x))).imp λD σ H aE=>?_;obtain⟨ρ,env,h,hE,hl,r,p⟩:=aE;simp only[eO] at p;obtain⟨n,e1,p⟩:=cy p;split at e1<;>cases e1;rename_i e1;obtain⟨y,k1,k2⟩:=hE i _ e1;rw[VR] at k2;subst k2;refine⟨_,k1,ρ,env,h,hE,r,au p λv h1 ρ1 z H1 g1 r1 q1 p1=>?_⟩;obtain⟨m,e2,p2⟩:=cy p1;cases sf e2;rw[VR] at q1;subst q1;refine⟨ρ1,h1,n,m,r1,rfl,rfl,au p2 λw h2 ρ2 u H2 g2 r2 q2 p3=>?_⟩;exact ai r2 p3 _ (((hE.up g1).up g2).set hl q2) (by simp[hl])
noncomputable def Oc(B:Bd)(EX:Nat->List V->Hp->Prop):Jo:=λo i v H Q=>∃ρ h a b w,HR B ρ h H/\VR B.K ρ H a o/\VR B.K ρ H b i/\VR B.K ρ H w v/\Post B EX ρ H (λ_ _ _ H'=>Q H') (sd a b w h)
theorem K6(hu:X.A.units+64<cLine):Jp X (Oc (bd X cl) EX):=by
 intro pins s σ H o i v ov iv u Q I ro ri rv hh;obtain⟨ρ,h,a,b,w,r,ha,hb,hw,p⟩:=hh;cases a with
 | ref j =>
  simp only[sd] at p;obtain⟨ob,e1,p⟩:=aB p;have dict:∀kvs,ob=.dct kvs->Post (bd X cl) EX ρ H (λ_ _ _ H'=>Q H') (bnd (bh (keyOf b)) (λk=>aC (decide (kvs.length<sizeLine)) (put j (.dct (gI kvs k w)))) h)->wpAny (model X.prog X.w) X.A (setItem ov iv u) (λ_ s'=>∃H',L2.Inv X pins σ H' s'/\Q H') X.xe s:=by rintro kvs rfl p;obtain⟨kk,e2,p⟩:=cy p;obtain⟨e3,p⟩:=aH p;have e3:=of_decide_eq_true e3;rw[VR] at ha;obtain⟨A,rfl,k1⟩:=ha;obtain⟨ks,k2,k3⟩:=r.ob j _ A e1 k1;cases ro;have ek:=Cc hb e2;subst ek;refine z9 (by omega) I (Fb.k (v:=v) k2 (by rw[<-k3.length];exact e3)) ri rv λs' I'=>⟨_,I',?_⟩;have g:Gr ρ H ρ (upd H A (.dK (putK ks kk v))):=Gr.put (mem_of_getElem? k1) k2 rfl;exact p ρ _ g (r.put k1 e1 (u:=.dct (gI kvs kk w)) ⟨_,aV,gx.put kk (VR.up g _ _ hw) (gx.up g _ _ k3)⟩)
  cases ob with
  | lst xs =>
   cases b<;>first|(exact p.elim)|skip
   rename_i n _;obtain⟨jj,e2,p⟩:=cy p;obtain⟨A,ys,rfl,k1,k2,k3⟩:=kG r ha e1;rw[VR] at hb;subst hb;refine set_list pins s σ H _ _ v ov iv u Q I ro ri rv ⟨A,ys,n,jj,rfl,rfl,k2,by rw[<-k3.length];exact e2,?_⟩;have g:Gr ρ H ρ (upd H A (.lst (ys.set jj v))):=Gr.put (mem_of_getElem? k1) k2 rfl;exact p ρ _ g (r.put k1 e1 (u:=.lst (xs.set jj w)) ⟨_,aV,ay.set jj (ay.up g _ _ k3) (VR.up g _ _ hw)⟩)
  | dct kvs=>exact dict kvs rfl (by cases b<;>exact p)
  | ins c fs=>cases b<;>exact p.elim
 | _=>exact p.elim
theorem K7:vC Φ (.e8 o i v):=by
 intro Γ k X cl EX st c h
 (conv at h=>lhs;whnf);split at h<;>first|cases h|skip
 rename_i a b sp x pos;simp only[and_eq_true] at h;obtain⟨⟨⟨⟨h1,h2⟩,h3⟩,h4⟩,h5⟩:=h;have XA:PG X (.Subscript a b sp) (Nd (tV Φ (bd X cl) EX o) (tV Φ (bd X cl) EX i) (Oc (bd X cl) EX)):=Jq (Gm o c.toCtx h3) (Gm i c.toCtx h4) (K6 c.units) (by
  intro v;cases b<;>first|rfl|(exact absurd h1 Bool.false_ne_true))
 refine(Bs (Gm v c.toCtx h5) XA (jZ (t:=some (.Subscript a b sp)) (n:=pos.line) (env:=X.env) h2) (by cases x<;>rfl) rfl).imp λD σ H aE=>?_;obtain⟨ρ,env,h,hE,hl,r,p⟩:=aE;simp only[eO] at p;refine⟨ρ,env,h,hE,r,au p λw h1 ρ1 x1 H1 g1 r1 q1 p1=>⟨ρ1,env,h1,hE.up g1,r1,au p1 λw2 h2 ρ2 x2 H2 g2 r2 q2 p2=>⟨ρ2,env,h2,(hE.up g1).up g2,r2,au p2 λw3 h3 ρ3 x3 H3 g3 r3 q3 p3=>?_⟩⟩⟩;refine⟨ρ3,h3,w2,w3,w,r3,VR.up g3 _ _ q2,q3,VR.up (g2.trans g3) _ _ q1,bu p3 λ_ h4 ρ4 H4 g4 r4 p4=>?_⟩;exact ai r4 p4 σ (((hE.up g1).up g2).up g3 |>.up g4) hl
theorem Od(ha:tQ Φ a)(hb:tQ Φ b):vC Φ (.iff t a b):=by
 intro Γ k X cl EX st c h
 (conv at h=>lhs;whnf);split at h<;>first|cases h|skip
 rename_i tt x y pos;simp only[and_eq_true] at h;refine(Na (Xy t c.toCtx h.1.1) (ha Γ k X cl EX x c h.1.2) (hb Γ k X cl EX y c h.2)).imp λD σ H aE=>?_;obtain⟨ρ,env,h,hE,hl,r,p⟩:=aE;simp only[eO] at p;refine⟨ρ,env,h,hE,r,nq p λv h1 p1=>?_⟩;obtain⟨s,e1,p2⟩:=aB p1;refine⟨s,e1,λρ1 H1 g1 r1=>?_⟩;have p2:=Post.up g1 p2;cases s with
 | true=>rw[if_pos rfl] at p2 |-;exact⟨ρ1,env,h1,hE.up g1,hl,r1,p2⟩
 | false=>rw[if_neg Bool.false_ne_true] at p2 |-;exact⟨ρ1,env,h1,hE.up g1,hl,r1,p2⟩
theorem Oe(hb:tQ Φ body):vC Φ (.for p ik it body):=by
 intro Γ k X cl EX st c h
 (conv at h=>lhs;whnf);split at h<;>first|cases h|skip
 rename_i tg iter x pos;simp only[and_eq_true] at h;obtain⟨⟨⟨h1,h2⟩,h3⟩,h4⟩:=h;have hen:ik=.enum\/ik=.zip->∃es kk pos,tg=.Tuple es kk pos:=by
  intro hz;cases p with
  | one i=>rcases hz with rfl|rfl<;>cases h3
  | tup is=>exact l0 h1
 obtain⟨hi,hf⟩:=HZ (nC.2 it) c.toCtx h2 hen;refine(Jt c.xe c.calm hi (yU c.toCtx c.fn c.nd h1) (hb Γ k X cl EX x c h4) hf).imp λD σ H aE=>?_;obtain⟨ρ,env,h,hE,hl,r,pp⟩:=aE;simp only[eO] at pp;have p':Post (bd X cl) EX ρ H (WF X.K D) (bnd (ML Φ ik it env) (λsrc=>bnd (ask λh=>src.items h) λxs=>forM src (λx env=>bnd (bh (fV p x env)) λenv'=>dX Φ body env') xs.length 0 env) h):=by unfold ML;rw[aW];exact pp
 refine⟨ρ,env,h,hE,r,bu p' λsrc h1 ρ1 H1 g1 r1 p1=>?_⟩;obtain⟨xs,e1,p2⟩:=aB p1;refine⟨⟨xs,e1⟩,λJ wk=>?_⟩;refine⟨λi m σ' H'=>∃ρ' env' h',Gr ρ1 H1 ρ' H'/\dm X.K ρ' env' σ' H'/\env'.length = σ'.length/\HR (bd X cl) ρ' h' H'/\Post (bd X cl) EX ρ' H' (WF X.K D) (forM src (λx env=>bnd (bh (fV p x env)) λenv'=>dX Φ body env') m i env' h'),
  ⟨xs.length,ρ1,env,h1,Gr.refl,hE.up g1,hl,r1,p2⟩,?_⟩
 rintro i m σ' H' ⟨ρ',env',h',w1,w2,w3,w4,w5⟩;cases m with
 | zero =>simp only[forM] at w5;obtain⟨xs',k1,w5⟩:=aB w5;obtain⟨k2,w5⟩:=aH w5;exact .inl ⟨wk.stop w1.w w4 k1 (of_decide_eq_true k2),ai w4 w5 σ' w2 w3⟩
 | succ m =>
  simp only[forM] at w5;obtain⟨xs',k1,w5⟩:=aB w5;cases hx:xs'[i]? with
  | none =>rw[hx] at w5;exact .inl ⟨wk.stop w1.w w4 k1 (List.getElem?_eq_none_iff.mp hx),ai w4 w5 σ' w2 w3⟩
  | some v =>
   rw[hx] at w5;dsimp only at w5;refine .inr ⟨wk.go w1.w w4 k1 hx,_,λBc JW w=>⟨m,lt_succ_self _,w⟩,λy H2 hy=>?_⟩;obtain⟨z1,z2,z3⟩:=wk.wO w1.w w4 k1 hx hy;rw[aW] at w5;obtain⟨iI,k2,w5⟩:=cy w5;refine yV k2 z3 (w2.up z1) w3 λσ2 Qy hl2 _=>⟨ρ',iI,h',Qy,hl2,z2,bu (Post.up z1 w5) λf h3 ρ3 H3 g3 r3 p3=>?_⟩;cases f with
   | nx Gn=>exact λσ3 Of hl3=>⟨ρ3,Gn,h3,(w1.trans z1).trans g3,Of,hl3,r3,p3⟩
   | ct Gn=>exact λσ3 Of hl3=>⟨ρ3,Gn,h3,(w1.trans z1).trans g3,Of,hl3,r3,p3⟩
   | bk Gn=>exact λσ3 Of hl3=>ai r3 p3 σ3 Of hl3
   | rt v=>exact(ai r3 p3:WF X.K D (.rt v) h3 ρ3 H3)
theorem Og{n:Nat}(hb:tQ Φ body):vC Φ (.whl n t body):=N7 λ_ _=>rfl
theorem Oh:vC Φ (.ret e):=by
 intro Γ k X cl EX st c h
 (conv at h=>lhs;whnf);split at h<;>first|cases h|skip
 refine(Jl (Gm e c.toCtx h)).imp λD σ H aE=>?_;obtain⟨ρ,env,h,hE,hl,r,p⟩:=aE;simp only[eO] at p;exact⟨ρ,env,h,hE,r,au p λv h1 ρ1 x H1 g1 r1 q1 p1=>ai r1 p1 x q1⟩
theorem K8:vC Φ .FD:=by
 intro Γ k X cl EX st c h
 (conv at h=>lhs;whnf);split at h<;>first|cases h|skip
 refine EC.imp λD σ H aE=>?_;obtain⟨ρ,env,h,hE,hl,r,p⟩:=aE;simp only[eO] at p;exact ai r p _ VR.non
theorem Oi:vC Φ .brk:=by
 intro Γ k X cl EX st c h
 (conv at h=>lhs;whnf);split at h<;>first|cases h|skip
 refine Bq.imp λD σ H aE=>?_;obtain⟨ρ,env,h,hE,hl,r,p⟩:=aE;simp only[eO] at p;exact ai r p σ hE hl
theorem Oj:vC Φ .cnt:=by
 intro Γ k X cl EX st c h
 (conv at h=>lhs;whnf);split at h<;>first|cases h|skip
 refine uB.imp λD σ H aE=>?_;obtain⟨ρ,env,h,hE,hl,r,p⟩:=aE;simp only[eO] at p;exact ai r p σ hE hl
theorem K9:vC Φ .pass:=by
 intro Γ k X cl EX st c h
 (conv at h=>lhs;whnf);split at h<;>first|cases h|skip
 ·refine EA.imp λD σ H aE=>?_;obtain⟨ρ,env,h,hE,hl,r,p⟩:=aE;simp only[eO] at p;exact ai r p σ hE hl
 ·refine Jk.imp λD σ H aE=>?_;obtain⟨ρ,env,h,hE,hl,r,p⟩:=aE;simp only[eO] at p;exact ai r p σ hE hl
theorem Gp:vC Φ .never:=by
 intro Γ k X cl EX st c h;refine oZ.imp λD σ H aE=>?_;obtain⟨ρ,env,h,hE,hl,r,p⟩:=aE;simp only[eO] at p;exact p.elim
theorem AG{α β:Type}(c:Bool)(m:M α)(f:α -> M β):bnd (aC c m) f=aC c (bnd m f):=by
 funext h;unfold bnd aC;cases c<;>rfl
theorem La{n:Nat}:vC Φ (.setF n a x v):=by
 intro Γ k X cl EX st c h
 (conv at h=>lhs;whnf);split at h<;>first|cases h|skip
 rename_i o y ap e pos;simp only[and_eq_true,beq_iff_eq,contains_iff_mem] at h;obtain⟨⟨⟨⟨⟨h1,h2⟩,h3⟩,h4⟩,h5⟩,h6⟩:=h;subst h1;refine(JE (Gm a c.toCtx h5) (Gm v c.toCtx h6) (jZ (t:=some (.Attribute o x ap)) (n:=pos.line) (env:=X.env) h2)).imp λD σ H aE=>?_;obtain⟨ρ,env,h,hE,hl,r,p⟩:=aE;simp only[eO] at p;refine⟨ρ,env,h,hE,r,au p λw h1 ρ1 x1 H1 g1 r1 q1 p1=>⟨ρ1,env,h1,hE.up g1,r1,au p1 λw2 h2 ρ2 x2 H2 g2 r2 q2 p2=>?_⟩⟩;cases w2<;>first|exact p2.elim|skip
 rename_i i;rw[VR] at q2;obtain⟨ad,rfl,q2⟩:=q2;unfold yF at p2;dsimp only at p2;rw[aW] at p2;obtain⟨pr,e1,p3⟩:=aB p2;have hx:h2[i]?=some (.ins pr.1 pr.2)/\pr.1<n:=by
  split at e1
  ·rename_i c0 fs e2
   split at e1
   ·rename_i hc;cases e1;exact⟨e2,hc⟩
   ·cases e1
  ·cases e1
 obtain⟨dx,gs,k1,k2⟩:=r2.ob i _ ad hx.1 q2;obtain⟨cc,nn⟩:=c.cls pr.1 (by omega);have p4:Post (bd X cl) EX ρ2 H2 (WF X.K D) (aC (decide (pr.2.length<1000)) (bnd (put i (.ins pr.1 (pS x w pr.2))) λ_=>ret (.nx env)) h2):=by rw[<-AG];exact p3
 obtain⟨el,p5⟩:=aH p4;refine⟨ad,cl pr.1,dx,gs,rfl,k1,cc,nn x h4,by rw[<-k2.length];exact of_decide_eq_true el,?_⟩;have g:Gr ρ2 H2 ρ2 (upd H2 ad (.ins (cl pr.1) dx (jn x x1 gs))):=Gr.put (mem_of_getElem? q2) k1 rfl;exact p5 ρ2 _ g (r2.put q2 hx.1 (u:=.ins pr.1 (pS x w pr.2)) ⟨dx,_,aV,lY.put (VR.up (g2.trans g) _ _ q1) (lY.up g _ _ k2)⟩) σ (((hE.up g1).up g2).up g) hl
theorem Lb:tQ Φ .nil:=by
 intro Γ k X cl EX st c h;rw[bA] at h;cases st with
 | cons _ _=>cases h
 | nil =>refine Ez.imp λD σ H aE=>?_;obtain⟨ρ,env,h,hE,hl,r,p⟩:=aE;simp only[dX] at p;exact ai r p σ hE hl
theorem Gq(h1:vC Φ s)(h2:tQ Φ ss):tQ Φ (.cons s ss):=by
 intro Γ k X cl EX st c h;rw[bA.eq_def] at h;dsimp only at h;cases st with
 | nil=>cases h
 | cons l ls =>
  simp only[and_eq_true] at h;refine(Bp (h1 Γ k X cl EX l c h.1) (h2 Γ k X cl EX ls c h.2)).imp λD σ H aE=>?_;obtain⟨ρ,env,h,hE,hl,r,p⟩:=aE;simp only[dX] at p;refine⟨ρ,env,h,hE,hl,r,bu p λf h1 ρ1 H1 g1 r1 p1=>?_⟩;cases f with
  | nx env'=>exact λσ' Sd hl'=>⟨ρ1,env',h1,Sd,hl',r1,p1⟩
  | rt v=>exact(ai r1 p1:WF X.K D (.rt v) h1 ρ1 H1)
  | bk env'=>exact(ai r1 p1:WF X.K D (.bk env') h1 ρ1 H1)
  | ct env'=>exact(ai r1 p1:WF X.K D (.ct env') h1 ρ1 H1)
theorem Cs:∀eV,tQ Φ eV:=by
 intro eV;exact fy.rec (motive_1:=λs=>vC Φ s) (motive_2:=λss=>tQ Φ ss) (λ_=>K4) (λ_ _=>N8) (λ_ _ _=>Oa) (λ_ _ _=>K7) (λ_ _ _ a b=>Od a b) (λ_ _ _ _ a=>Oe a) (λ_ _ _ a=>Og a) (λ_=>Oh) K8 Oi Oj K9 Gp (λ_ _ _ _=>La)
  Lb (λ_ _ a b=>Gq a b) eV
end
end Hv
end
section
namespace Hv
open PySem L2 PyProof.Rows
noncomputable abbrev Row:=Str×Nat×(List Val->M Val)
noncomputable def look(fs:List Row)(j:Nat):List Val->M Val:=match fs[j]? with
 | some r=>r.2.2
 | none=>λ_=>bh none
noncomputable def dM(P:Program)(w:World)(B:Bd)(mg:Str->Option Value)(base:Heap)(k:Nat)(fs:List Row):Prop:=∀(j:Nat) (r:Row),fs[j]?=some r->MJ P w B mg base k j r.1 r.2.1 r.2.2
noncomputable def aZ(N P:List Str)(sc:Scope):Bool :=
 sc.kind==.function && !sc.isCoroutine && !sc.isGenerator&&decide N.Nodup&&N.take P.length==P&&(P.all λx=>sc.names.lookup x==some .local||sc.names.lookup x==some .cell)&&(sc.names.all λy=>y.2 != .free)
theorem Ct(h:aZ N P sc=true):oH N P sc:=by
 unfold aZ at h;simp only[and_eq_true,beq_iff_eq,not_eq_true',decide_eq_true_eq,all_eq_true,or_eq_true,bne_iff_ne] at h;obtain⟨⟨⟨⟨⟨⟨h1,h2⟩,h3⟩,h4⟩,h5⟩,h6⟩,h7⟩:=h;exact⟨h1,h2,h3,h4,h5,h6,h7⟩
structure Base (K:PySem.W.Frag) (cl:Nat->Addr) (mg:Str->Option Value) (cons:List (Str×Val)) (tb:Tb):Prop where
 blt:∀x∈fX,mg x=none
 cons:∀p∈cons,∃v u,mg p.1=some u/\RelV v u/\∀K ρ H,VR K ρ H p.2 v
 cls:∀c,c<tb.nc->zY K (cl c)/\∀x∈tb.FL,jT K (cl c) x
 FN:∀p∈tb.FN,Meth K (cl p.1) p.2.1 (cl (1000+p.2.2))
 Er:∀p∈tb.Er,∃C,mg p.1=some (.ref C)/\J5 K C p.2.1 (cl (1000+p.2.2))
 isc:∀p∈tb.isc,∃C,mg p.1=some (.ref C)/\∀c b,p.2[c]?=some b->VA K (cl c)/\kitOne K (.ref (cl c)) (.ref C)=some b
section
variable {P:Program} {w:World} {K:PySem.W.Frag} {cl:Nat->Addr} {mg:Str->Option Value} {base:Heap} {k:Nat} {fs:List Row} {cons:List (Str×Val)} {tb:Tb}
theorem yW{x qual:Str}{st:Stmt}{f:Addr}{fd:FuncData}{N ps:List Str}{body:fy}(T:Base K cl mg cons tb)(A:dM P w ⟨K,cl⟩ mg base k fs)(F:Fg K x qual st f fd)(hS:aZ N ps (af st)=true)
  (hc:bA ⟨N,af st,fs.map (λr=>(r.1,r.2.1)),cons,tb⟩ body (aj st)=true):fz P w K mg base wI (k+2) f fd ps (tL ⟨K,cl⟩ ps.length (iF (look fs) N.length body)):=by
 have S:=Ct hS;refine F.ok S (λvs H Q E h=>?_) (λcdv A' outer s H vs Q E hr h=>?_)
 ·obtain⟨ρ,h,ws,h1,_,h2,_⟩:=h;rw[<-h2.length,h1]
 ·obtain⟨ρ,h,ws,hl,r,hv,p⟩:=h
  have lv:=hv.length
  let X:Cx:=(xm wI P w K mg base N qual (af st) f cdv A' outer s H E).M6
  have c:K3 (look fs) ⟨N,af st,fs.map (λr=>(r.1,r.2.1)),cons,tb⟩ k X cl (λ_ _ _=>False):=by
   refine { N:=rfl,sc:=rfl,calm:=rfl,room:=hr,ly:=λ_ _ _ z=>z,fns:=λj x n e=>?_,cls:=T.cls,FN:=T.FN,Er:=T.Er,isc:=T.isc,cons:=T.cons,blt:=T.blt,fn:=λ_=>rfl,nd:=S.nd,kind:=S.kind,xe:=PassesOwn.never };have e':(fs.map (λr=>(r.1,r.2.1)))[j]?=some (x,n):=e;rw[getElem?_map] at e';cases er:fs[j]? with
   | none=>rw[er] at e';cases e'
   | some r =>rw[er] at e';cases e';have:=A j r er;unfold look;rw[er];exact this
  refine⟨_,Cs body _ k X cl _ (aj st) c hc,ρ,ws.map some++replicate (N.length-ws.length) none,h,λi v e=>?_,?_,r,bu p λfl h1 ρ1 H1 g1 r1 p1=>?_⟩
  ·by_cases hi:i<ws.length
   ·rw[getElem?_append_left (by simpa using hi)] at e
    rw[getElem?_map] at e;cases ei:ws[i]? with
    | none=>rw[ei] at e;cases e
    | some w' =>rw[ei] at e;cases e;obtain⟨y,q1,q2⟩:=hv.get ei;refine⟨y,?_,q2⟩;show (vs.map some++_)[i]?=_;rw[getElem?_append_left (by rw[length_map,<-lv];exact hi),getElem?_map,q1];rfl
   ·rw[getElem?_append_right (by simp;omega)] at e;have:=mem_of_getElem? e;rw[mem_replicate] at this;exact absurd this.2 (by simp)
  ·show _=(vs.map some++_).length;simp[lv]
  ·cases fl with
   | nx env'=>exact λσ' _ _=>ai r1 p1 _ VR.non
   | rt v=>exact(ai r1 p1:WV K Q v h1 ρ1 H1)
   | bk env'=>exact p1.elim
   | ct env'=>exact p1.elim
theorem _root_.Hv.MJ.mono{j:Nat}{n:Nat}(g:MJ P w B mg base k j x n φ):MJ P w B mg base (k+2) j x n φ:=by
 have le:k<=k+2:=Nat.le_add_right _ _
 rcases g with ⟨h,⟨f,fd,ps,q1,q2,q3,q4,q5⟩|⟨c,f,fd,ps,φ0,q0,q1,q2,q3,q4,q5⟩⟩|⟨h,fd,ps,q1,q4,q5⟩
 ·exact .inl ⟨h,.inl ⟨f,fd,ps,q1,q2,q3,q4,q5.mono le⟩⟩
 ·exact .inl ⟨h,.inr ⟨c,f,fd,ps,φ0,q0,q1,q2,q3,q4,q5.mono le⟩⟩
 ·exact .inr ⟨h,fd,ps,q1,q4,q5.mono le⟩
theorem all_nil:dM P w ⟨K,cl⟩ mg base k []:=λj r e=>by simp at e
theorem cz{x qual:Str}{st:Stmt}{f:Addr}{fd:FuncData}{N ps:List Str}{body:fy}(T:Base K cl mg cons tb)(A:dM P w ⟨K,cl⟩ mg base k fs)(F:Fg K x qual st f fd)(hm:mg x=some (.ref f))(hb:Binds K fd ps [])(Cu:ps.length<1000)(hS:aZ N ps (af st)=true)
  (hc:bA ⟨N,af st,fs.map (λr=>(r.1,r.2.1)),cons,tb⟩ body (aj st)=true):dM P w ⟨K,cl⟩ mg base (k+2) (fs++[(x,ps.length,iF (look fs) N.length body)]):=λj r e=>by
 by_cases hj:j<fs.length
 ·rw[getElem?_append_left hj] at e;exact(A j r e).mono
 ·rw[getElem?_append_right (by omega)] at e
  have hj0:j-fs.length=0:=by have:=(List.getElem?_eq_some_iff.mp e).1;simp at this;omega
  rw[hj0] at e;simp at e;subst e;exact .inl ⟨Cu,.inl ⟨f,fd,ps,rfl,hm,F.kp,hb,yW T A F hS hc⟩⟩
theorem yX{r0:Row}(A:dM P w ⟨K,cl⟩ mg base k fs)(g:MJ P w ⟨K,cl⟩ mg base (k+2) fs.length r0.1 r0.2.1 r0.2.2):dM P w ⟨K,cl⟩ mg base (k+2) (fs++[r0]):=λj r e=>by
 by_cases hj:j<fs.length
 ·rw[getElem?_append_left hj] at e;exact(A j r e).mono
 ·rw[getElem?_append_right (by omega)] at e
  have hj0:j-fs.length=0:=by have:=(List.getElem?_eq_some_iff.mp e).1;simp at this;omega
  rw[hj0] at e;simp at e;subst e;rw[show j=fs.length by omega];exact g
theorem gM{x qual y:Str}{st:Stmt}{f:Addr}{fd:FuncData}{N ps:List Str}{body:fy}(T:Base K cl mg cons tb)(A:dM P w ⟨K,cl⟩ mg base k fs)(F:Fg K x qual st f fd)(hf:cl (1000+fs.length)=f)(hb:Binds K fd ps [])(hS:aZ N ps (af st)=true)
  (hc:bA ⟨N,af st,fs.map (λr=>(r.1,r.2.1)),cons,tb⟩ body (aj st)=true):dM P w ⟨K,cl⟩ mg base (k+2) (fs++[(y,1000+ps.length,iF (look fs) N.length body)]):=by
 refine yX (r0:=(y,1000+ps.length,iF (look fs) N.length body)) A (.inr ⟨Nat.le_add_right _ _,fd,ps,?_,hb,?_⟩)
 ·show ps.length=1000+ps.length-1000;omega
 ·show fz P w K mg base wI (k+2) (cl (1000+fs.length)) fd ps (tL ⟨K,cl⟩ (1000+ps.length-1000) _);rw[hf,show 1000+ps.length-1000=ps.length by omega];exact yW T A F hS hc
theorem all_class{x i qual:Str}{st:Stmt}{f:Addr}{fd:FuncData}{N ps:List Str}{n c:Nat}{body:fy}(T:Base K cl mg cons tb)(A:dM P w ⟨K,cl⟩ mg base k fs)(F:Fg K i qual st f fd)(hm:mg x=some (.ref (cl c)))(M:Mk K (cl c) f)(hb:Binds K fd ps [])(hn:ps.length=n+1)(Cu:n<1000)(hS:aZ N ps (af st)=true)
  (hc:bA ⟨N,af st,fs.map (λr=>(r.1,r.2.1)),cons,tb⟩ body (aj st)=true):dM P w ⟨K,cl⟩ mg base (k+2) (fs++[(x,n,Eo c (iF (look fs) N.length body))]):=by
 refine yX (r0:=(x,n,Eo c (iF (look fs) N.length body))) A (.inl ⟨Cu,.inr ⟨c,f,fd,ps,_,rfl,hn,hm,M,hb,?_⟩⟩);rw[<-hn];exact yW T A F hS hc
end
theorem vD{α:Type}:∀{us:List α},us.length=1->∃a,us=[a]
 | [a],_=>⟨a,rfl⟩
theorem gr{α:Type}:∀{us:List α},us.length=2->∃a b,us=[a,b]
 | [a,b],_=>⟨a,b,rfl⟩
theorem Ol{α:Type}:∀{us:List α},us.length=3->∃a b c,us=[a,b,c]
 | [a,b,c],_=>⟨a,b,c,rfl⟩
theorem Lc{K:PySem.W.Frag}{cl:Nat->Addr}{φ:List Val->M Val}{H:Hp}{a:Addr}{ns:List Int}(hO:BK H)(hS:iu K H a (ns.map V.int))(h:∃h',φ [.rl (ns.map .int)] []=.ok (.bl true) h') :
  tL ⟨K,cl⟩ 1 φ [.ref a] H (λv _=>v=.bl true) λ_ _ _=>False:=by
 obtain⟨h',e⟩:=h;have sr:HV K H a (ns.map V.int):=by
  rcases hS with (z|z)|z
  ·rcases hO a with y|⟨o,xs,y⟩
   ·rw[y] at z;cases z
   ·rw[y] at z;cases z
  ·exact .inl z
  ·exact .inr (.inr z)
 refine⟨[],[],[.rl (ns.map .int)],rfl,⟨rfl,nodup_nil,λi o a e=>by simp at e⟩,ay.cons (by rw[VR];exact⟨a,_,rfl,sr,ay.ints.mpr rfl⟩) ay.nil,?_⟩;rw[e];intro ρ' H' g r x q;rw[VR] at q;exact q
noncomputable def Qz(K:PySem.W.Frag):Sp:=λvs H Q _=>∃(a:Addr) (ns:List Int),vs=[.ref a]/\BK H/\iu K H a (ns.map V.int)/\ns.length<=63/\∀H',Q (.bl true) H'
theorem Ld{K:PySem.W.Frag}{cl:Nat->Addr}{φ:List Val->M Val}(hφ:∀ns:List Int,ns.length<=63->∃h',φ [.rl (ns.map .int)] []=.ok (.bl true) h')(vs:List V)(H:Hp)(Q:VK)(E:XK)(h:Qz K vs H Q E):tL ⟨K,cl⟩ 1 φ vs H Q E:=by
 obtain⟨a,ns,rfl,hO,hS,hl,hq⟩:=h;obtain⟨ρ,h,vs,q1,q2,q3,q4⟩:=Lc (cl:=cl) hO hS (hφ ns hl);refine⟨ρ,h,vs,q1,q2,q3,?_⟩;revert q4;cases φ vs h with
 | ok v h'=>exact λq4 ρ' H' g r x hx=>by rw[show x=_ from q4 ρ' H' g r x hx];exact hq H'
 | exc c ws h'=>exact λq4=>q4
 | no=>exact λq4=>q4
theorem walk{l:PySem.W.OpenLaw}{q:Program}{loose:List Str}{XP:(Str->Option Value)->Heap->Prop}{YP:World->Heap->Prop}{d:DefRec}{K:Params->PySem.W.Frag}{k:Nat}{x:Str}(hn:l.most=some 63)(hdf:d.params.defaults=[])(hr:dQ k callerA)
  (hY:∀(w:World) (h:Heap),YP w h->(K w.params).In h)
  (F:∀(w:World) (mg:Str->Option Value) (fa:Addr) (h:Heap),(K w.params).In h->h.Ns mainGlobals mg->mg d.name=some (.ref fa) ->
   ∃fd:FuncData,(∀(s:Shared) (u:Value),BindsTo s fd ⟨[u],[]⟩ [(x,u)])/\∀base:Heap,(K w.params).In base->base.Ns mainGlobals mg->fz l.prog w (K w.params) mg base wI k fa fd [x] (Qz (K w.params))) :
  PySem.W.WalkO q loose XP YP l.row.toRowW d [] (λf vs=>PySem.call f vs) :=
 L2.Ff (n:=63) (k:=k) (x:=x) (CX:=λ_=>wI) (sp:=λw=>Qz (K w.params)) hn (by decide) hdf hr hY F (λ_ _ a ns hl hO hS=>⟨a,ns,rfl,hO,hS,hl,λ_=>rfl⟩) λ_ _ _ _ _ z=>z
end Hv
end
section
namespace Hv
open PySem L2
inductive Pr (α:Type)
 | ok (a:α)|exc (c:Nat) (ds:List Val)|no
noncomputable def pb{α β:Type}(m:Pr α)(f:α -> Pr β):Pr β:=match m with
 | .ok a=>f a
 | .exc c ds=>.exc c ds
 | .no=>.no
noncomputable def pl{α:Type}(o:Option α):Pr α:=match o with
 | some a=>.ok a
 | none=>.no
noncomputable def pg{α:Type}(c:Bool)(m:Pr α):Pr α:=if c=true then m else .no
inductive Mk
 | sh|nw|ow
noncomputable def qV:Mk->Bool
 | .ow=>false
 | _=>true
noncomputable def MN:Mk->Bool
 | .nw=>true
 | _=>false
noncomputable abbrev aR:=List (Option (Mk×Val))
noncomputable abbrev FV:=Bool×Val
mutual
noncomputable def jw:Val->Bool
 | .rl _=>false
 | .dc _ _=>false
 | .ob _ _ _=>false
 | .ref _=>false
 | .tup vs=>bw vs
 | .non=>true
 | .bl _=>true
 | .int _=>true
 | .str _=>true
noncomputable def bw:List Val->Bool
 | []=>true
 | v::vs=>jw v&&bw vs
end
noncomputable def mh(f:Bool)(d:Val):Mk:=if (f && !jw d)=true then .nw else .sh
noncomputable def putD(ks:List Key)(ds:List Val)(k:Key)(d:Val):Val:=.dc ((gI (ks.zip ds) k d).map (·.1)) ((gI (ks.zip ds) k d).map (·.2))
noncomputable def j3:FA->Val->Val->Pr FV
 | .add,.int a,.int b=>.ok (true,.int (a+b))
 | .add,.str a,.str b=>pg (decide (a.length+b.length<=sizeLine)) (.ok (true,.str (a++b)))
 | .add,.tup a,.tup b=>pg (!a.isEmpty&&decide (a.length+b.length<=sizeLine)) (.ok (bw (a++b),.tup (a++b)))
 | .add,.rl a,.rl b=>pg (decide (a.length+b.length<=sizeLine)) (.ok (bw (a++b),.rl (a++b)))
 | .sub,.int a,.int b=>.ok (true,.int (a-b))
 | .mul,.int a,.int b=>pg (jV a b) (.ok (true,.int (a*b)))
 | .fdiv,.int a,.int b=>pg (ic b) (.ok (true,.int (a/b)))
 | .mod,.int a,.int b=>pg (decide (0<b)) (.ok (true,.int (a%b)))
 | .pow,.int a,.int b=>pg (decide (0<=b/\b<=1000000/\a.natAbs<2 ^ 64)) (.ok (true,.int (a ^ b.toNat)))
 | _,_,_=>.no
noncomputable def AH(v:Val)(lo hi:Option Int):Pr FV:=match v with
 | .tup vs=>pg (!(decide (HT.eX vs.length 0 lo=0)&&decide (HT.eX vs.length vs.length hi=vs.length))) (.ok (bw (dR vs lo hi),.tup (dR vs lo hi)))
 | .rl vs=>.ok (bw (dR vs lo hi),.rl (dR vs lo hi))
 | _=>.no
noncomputable def iJ:Bl->List Val->Pr FV
 | .len,[v]=>pb (pl (lX [] v)) λn=>.ok (true,.int n)
 | .min,[.int a,.int b]=>.ok (true,.int (if b<a then b else a))
 | .max,[.int a,.int b]=>.ok (true,.int (if b>a then b else a))
 | .min,[v]=>pb (pl (dD [] v)) λxs=>pb (pl ((aT xs).bind tG)) λm=>.ok (true,m)
 | .max,[v]=>pb (pl (dD [] v)) λxs=>pb (pl ((aT xs).bind tH)) λm=>.ok (true,m)
 | .sorted,[.rl xs]=>pb (pl (fU xs)) λys=>.ok (true,.rl ys)
 | .list,[v]=>pb (pl (dD [] v)) λxs=>.ok (bw xs,.rl xs)
 | .int,[.bl b]=>.ok (true,.int (if b=true then 1 else 0))
 | .int,[.int i]=>.ok (true,.int i)
 | .isin T,[v]=>pb (pl (u6 [] v)) λt=>pb (pl (u7 T t)) λb=>.ok (true,.bl b)
 | _,_=>.no
noncomputable def gO:Ik->List Val->Option (List Val)
 | .seq,[.tup vs]=>some vs
 | .seq,[.rl vs]=>some vs
 | .range,[.int n]=>if inR n then some (cu 0 n.toNat) else none
 | .range,[.int a,.int b]=>if inR a&&inR b then some (cu a (b-a).toNat) else none
 | .enum,[.rl vs]=>some (cT 0 vs)
 | _,_=>none
noncomputable def Cv(k:Ik)(ds:List Val):Option (List Val):=match k with
 | .zip=>none
 | k=>gO k ds
noncomputable def bB:List Nat->List Val->aR->Option aR
 | [],[],env=>some env
 | i::is,d::ds,env=>bB is ds (env.set i (some (.sh,d)))
 | _,_,_=>none
noncomputable def cA:xO->Val->aR->Option aR
 | .one i,d,env=>some (env.set i (some (.sh,d)))
 | .tup is,.tup ds,env=>bB is ds env
 | _,_,_=>none
noncomputable def iU(js:List (Option Nat))(env:aR):aR:=js.map λo=>match o with
 | none=>none
 | some j=>match env[j]? with
  | some (some d)=>some d
  | _=>none
noncomputable def jG(f:Val->Pr (Option FV)):List Val->Pr (Bool×List Val)
 | []=>.ok (true,[])
 | x::r=>pb (f x) λo=>pb (jG f r) λp=>.ok (match o with|some e=>(e.1&&p.1,e.2::p.2)|none=>p)
noncomputable def nX:Val->Pr Bool
 | .bl b=>.ok b
 | _=>.no
noncomputable def gP(env:aR):IE->Option FV
 | .var i=>match env[i]? with
  | some (some (_,d))=>some (jw d,d)
  | _=>none
 | _=>none
noncomputable def isVar:IE->Bool
 | .var _=>true
 | _=>false
mutual
noncomputable def aX(Ψ:Nat->List Val->Pr FV):IE->aR->Pr FV
 | .var i,env=>match env[i]? with
  | some (some (m,d))=>pg (qV m) (.ok (jw d,d))
  | _=>.no
 | .cst d,_=>.ok (jw d,d)
 | .con _ d,_=>.ok (jw d,d)
 | .no,_=>.no
 | .bin o a b,env=>pb (if isVar a=true then pl (gP env a) else aX Ψ a env) λx=>pb (if isVar b=true then pl (gP env b) else aX Ψ b env) λy=>j3 o x.2 y.2
 | .neg a,env=>pb (aX Ψ a env) λx=>match x.2 with
  | .int i=>.ok (true,.int (-i))
  | _=>.no
 | .cmp o a b,env=>pb (if isVar a=true then pl (gP env a) else aX Ψ a env) λx=>pb (if isVar b=true then pl (gP env b) else aX Ψ b env) λy=>pb (pl (cop [] o x.2 y.2)) λt=>.ok (true,.bl t)
 | .chn _ _ _ _ _,_=>.no
 | .and a b,env=>pb (aX Ψ a env) λx=>pb (nX x.2) λt=>if t=true then pb (aX Ψ b env) λy=>pb (nX y.2) λu=>.ok (true,.bl u) else .ok (true,.bl false)
 | .or a b,env=>pb (aX Ψ a env) λx=>pb (nX x.2) λt=>if t=true then .ok (true,.bl true) else pb (aX Ψ b env) λy=>pb (nX y.2) λu=>.ok (true,.bl u)
 | .not a,env=>pb (aX Ψ a env) λx=>pb (nX x.2) λt=>.ok (true,.bl (!t))
 | .ite _ _ _,_=>.no
 | .tup es,env=>pb (qW Ψ es env) λp=>pg (decide (p.2.length<=sizeLine)) (.ok (p.1,.tup p.2))
 | .lst es,env=>pb (qW Ψ es env) λp=>pg (decide (p.2.length<=sizeLine)) (.ok (p.1,.rl p.2))
 | .idx a b,env=>pb (if isVar a=true then pl (gP env a) else aX Ψ a env) λx=>pb (aX Ψ b env) λy=>pb (pl (ni [] x.2 y.2)) λz=>.ok (jw z,z)
 | .slc a lo hi,env=>pb (if isVar a=true then pl (gP env a) else aX Ψ a env) λx=>pb (if cQ lo=true then .ok none else pb (aX Ψ lo env) λv=>pb (pl (gJ v.2)) λi=>.ok (some i)) λl =>
   pb (if cQ hi=true then .ok none else pb (aX Ψ hi env) λv=>pb (pl (gJ v.2)) λi=>.ok (some i)) λu=>AH x.2 l u
 | .call j es,env=>pb (qW Ψ es env) λp=>Ψ j p.2
 | .blt b es,env=>pb (gQ Ψ es env) λds=>iJ b ds
 | .met m a es,env=>match m with
  | .join=>.no
  | _=>.no
 | .comp _ js pat k it c elt,env=>pb (gQ Ψ it env) λits=>pb (pl (Cv k its)) λxs=>pg (decide (xs.length<=100000))
   (pb (jG (λd=>pb (pl (cA pat d (iU js env))) λenv'=>pb (if cQ c=true then .ok true else pb (aX Ψ c env') λv=>pl (dJ [] v.2)) λt =>
    if t=true then pb (aX Ψ elt env') λe=>.ok (some e) else .ok none) xs) λp=>.ok (p.1,.rl p.2))
 | .dct0,_=>.ok (true,.dc [] [])
 | .sset a,env=>pb (if isVar a=true then pl (gP env a) else aX Ψ a env) λx=>match x.2 with
  | .rl xs=>pb (pl (aT xs)) λns=>pg (decide (ns.length<64)) (.ok (true,.rl ((PySem.W.sortI (L2.eL [] ns)).map .int)))
  | _=>.no
 | .dget d k x,env=>pb (if isVar d=true then pl (gP env d) else aX Ψ d env) λo=>pb (pl (B8 [] o.2)) λ_=>pb (aX Ψ k env) λi=>pb (pl (keyOf i.2)) λkk=>pb (aX Ψ x env) λz=>pb (pl (xP [] o.2 kk)) λr=>.ok (jw (r.getD z.2),r.getD z.2)
 | .dct1 k v,env=>pb (aX Ψ k env) λx=>pb (pl (keyOf x.2)) λkk=>pb (aX Ψ v env) λy=>.ok (y.1,.dc [kk] [y.2])
 | .lkeys d,env=>pb (if isVar d=true then pl (gP env d) else aX Ψ d env) λo=>pb (pl (r9 [] o.2)) λks=>.ok (true,.rl (ks.map B9))
 | .sdef ..,_=>.no
 | .svals _,_=>.no
 | .skeys d,env=>pb (if isVar d=true then pl (gP env d) else aX Ψ d env) λo=>pb (pl (lC [] o.2)) λns=>.ok (true,.rl (ns.map .int))
 | .fld n a x,env=>pb (if isVar a=true then pl (gP env a) else aX Ψ a env) λo=>pb (pl (iE n [] o.2 x)) λz=>.ok (jw z,z)
 | .mth a m js es,env=>pb (aX Ψ a env) λo=>pb (pl (kO [] o.2 m js)) λj=>pb (qW Ψ es env) λp=>Ψ j (o.2::p.2)
 | .rev a s,env=>pb (if isVar a=true then pl (gP env a) else aX Ψ a env) λx=>pb (if cQ s=true then .ok none else pb (aX Ψ s env) λv=>pb (pl (gJ v.2)) λi=>.ok (some i)) λk =>
   pg (decide (k=some (-1))) (match x.2 with
    | .rl vs=>.ok (bw vs.reverse,.rl vs.reverse)
    | _=>.no)
 | .dflt _ _ _ _ _ _,_=>.no
 | .isc a _ bs,env=>pb (if isVar a=true then pl (gP env a) else aX Ψ a env) λo=>pb (pl (Ar [] o.2 bs)) λb=>.ok (true,.bl b)
noncomputable def qW(Ψ:Nat->List Val->Pr FV):nV->aR->Pr (Bool×List Val)
 | .nil,_=>.ok (true,[])
 | .cons e es,env=>pb (aX Ψ e env) λd=>pb (qW Ψ es env) λp=>.ok (d.1&&p.1,d.2::p.2)
noncomputable def gQ(Ψ:Nat->List Val->Pr FV):nV->aR->Pr (List Val)
 | .nil,_=>.ok []
 | .cons e es,env=>pb (if isVar e=true then pl (gP env e) else aX Ψ e env) λd=>pb (gQ Ψ es env) λp=>.ok (d.2::p)
end
noncomputable def Sf(Ψ:Nat->List Val->Pr FV)(e:IE)(env:aR):Pr FV:=if isVar e=true then pl (gP env e) else aX Ψ e env
inductive wJ
 | nx (env:aR)|rt (p:FV)|bk (env:aR)|ct (env:aR)
mutual
noncomputable def qd:IS->List Nat
 | .expr (.met .append (.var i) _)=>[i]
 | .expr (.met .extend (.var i) _)=>[i]
 | .e8 (.var i) _ _=>[i]
 | .iff _ a b=>gR a++gR b
 | .for _ _ _ b=>gR b
 | .whl _ _ b=>gR b
 | _=>[]
noncomputable def gR:fy->List Nat
 | .nil=>[]
 | .cons s r=>qd s++gR r
end
noncomputable def stored:xO->List Nat
 | .one i=>[i]
 | .tup is=>is
mutual
noncomputable def mj:IS->List Nat
 | .asg p _=>stored p
 | .aug i _ _=>[i]
 | .iff _ a b=>j4 a++j4 b
 | .for p _ _ b=>stored p++j4 b
 | .whl _ _ b=>j4 b
 | _=>[]
noncomputable def j4:fy->List Nat
 | .nil=>[]
 | .cons s r=>mj s++j4 r
end
noncomputable def QA:IE->Bool
 | .lst _=>true
 | .comp ..=>true
 | .slc ..=>true
 | .blt .list _=>true
 | .blt .sorted _=>true
 | .dct0=>true
 | .dct1 ..=>true
 | _=>false
noncomputable def iV(body:Val->aR->Pr wJ):List Val->aR->Pr wJ
 | [],env=>.ok (.nx env)
 | x::r,env=>pb (body x env) λf=>match f with
  | .nx env'=>iV body r env'
  | .ct env'=>iV body r env'
  | .bk env'=>.ok (.nx env')
  | .rt p=>.ok (.rt p)
noncomputable def VL:Mk->Mk
 | .ow=>.sh
 | m=>m
noncomputable def Sg:Option (Mk×Val)->Option (Mk×Val)
 | none=>none
 | some (m,d)=>some (VL m,d)
noncomputable def oE(env:aR):aR:=env.map Sg
noncomputable def Om(Ψ:Nat->List Val->Pr FV)(e:IE)(env:aR):Pr FV:=match e with
 | .var i=>match env[i]? with
  | some (some (m,d))=>if qV m=true then .ok (jw d||MN m,d) else match d with
   | .rl ds=>.ok (bw ds,.rl ds)
   | .dc ks ds=>.ok (bw ds,.dc ks ds)
   | _=>.no
  | _=>.no
 | .call j es=>aX Ψ (.call j es) (oE env)
 | .tup es=>aX Ψ (.tup es) (oE env)
 | e=>aX Ψ e env
noncomputable def vF(p:xO)(it:nV)(body:fy):Bool:=match it with
 | .cons (.var i) .nil=>!(gR body).contains i && !(j4 body).contains i && !(stored p).contains i
 | _=>true
mutual
noncomputable def bY(Ψ:Nat->List Val->Pr FV)(ms:List Nat):IS->aR->Pr wJ
 | .expr e,env=>match e with
  | .met .append (.var i) (.cons a .nil)=>match env[i]? with
   | some (some (.ow,.rl ds))=>pb (aX Ψ a env) λx=>pg (decide (ds.length<sizeLine)) (.ok (.nx (env.set i (some (.ow,.rl (ds++[x.2]))))))
   | _=>.no
  | .met .extend (.var i) (.cons a .nil)=>match env[i]? with
   | some (some (.ow,.rl ds))=>pb (aX Ψ a env) λx=>match x.2 with
    | .tup vs=>pg (decide (ds.length+vs.length<=sizeLine)) (.ok (.nx (env.set i (some (.ow,.rl (ds++vs))))))
    | _=>.no
   | _=>.no
  | e=>pb (aX Ψ e env) λ_=>.ok (.nx env)
 | .asg p e,env=>match p with
  | .one i=>if ms.contains i=true then pg (QA e) (pb (aX Ψ e env) λx=>match x.2 with
    | .rl ds=>.ok (.nx (env.set i (some (.ow,.rl ds))))
    | .dc ks ds=>.ok (.nx (env.set i (some (.ow,.dc ks ds))))
    | _=>.no) else pb (aX Ψ e env) λx=>.ok (.nx (env.set i (some (mh x.1 x.2,x.2))))
  | .tup is=>pg (is.all λi=>!ms.contains i) (pb (aX Ψ e env) λx=>pb (pl (cA (.tup is) x.2 env)) λenv'=>.ok (.nx env'))
 | .aug i o e,env=>pg (!ms.contains i) (pb (pl (match env[i]? with|some (some (_,.int x))=>some x|_=>none)) λx=>pb (aX Ψ e env) λv=>pb (pl (gJ v.2)) λy=>pb (j3 o (.int x) (.int y)) λz=>.ok (.nx (env.set i (some (.sh,z.2)))))
 | .e8 o i v,env=>match o with
  | .var j=>pb (aX Ψ v env) λx=>match env[j]? with
   | some (some (.ow,.rl ds))=>pb (aX Ψ i env) λz=>pb (pl (gJ z.2)) λk=>pb (pl (z6 ds.length k)) λn=>.ok (.nx (env.set j (some (.ow,.rl (ds.set n x.2)))))
   | some (some (.ow,.dc ks ds))=>pb (aX Ψ i env) λz=>pb (pl (keyOf z.2)) λk=>pg (decide (ks.length<sizeLine)) (.ok (.nx (env.set j (some (.ow,putD ks ds k x.2)))))
   | _=>.no
  | _=>.no
 | .iff c a b,env=>pb (Sf Ψ c env) λx=>pb (pl (dJ [] x.2)) λt=>if t=true then eB Ψ ms a env else eB Ψ ms b env
 | .for p k it body,env=>pg (vF p it body&&(stored p).all λi=>!ms.contains i) (pb (gQ Ψ it env) λits=>pb (pl (gO k its)) λxs =>
   iV (λx env=>pb (pl (cA p x env)) λenv'=>eB Ψ ms body env') xs env)
 | .whl _ _ _,_=>.no
 | .ret e,env=>pb (Om Ψ e env) λp=>.ok (.rt p)
 | .FD,_=>.ok (.rt (true,.non))
 | .brk,env=>.ok (.bk env)
 | .cnt,env=>.ok (.ct env)
 | .pass,env=>.ok (.nx env)
 | .never,_=>.no
 | .setF _ _ _ _,_=>.no
noncomputable def eB(Ψ:Nat->List Val->Pr FV)(ms:List Nat):fy->aR->Pr wJ
 | .nil,env=>.ok (.nx env)
 | .cons s r,env=>pb (bY Ψ ms s env) λf=>match f with
  | .nx env'=>eB Ψ ms r env'
  | f=>.ok f
end
noncomputable def gz(Ψ:Nat->List Val->Pr FV)(n:Nat)(body:fy)(ds:List Val):Pr FV :=
 pb (eB Ψ (gR body) body (ds.map (λd=>some (.sh,d))++replicate (n-ds.length) none)) λf=>match f with
  | .nx _=>.ok (true,.non)
  | .rt p=>.ok p
  | _=>.no
end Hv
end
section
namespace Hv
open PySem L2
noncomputable abbrev AP:=Option Nat->Prop
noncomputable def Fr(n:Nat):AP:=λo=>match o with
 | none=>False
 | some k=>n<=k
theorem Fr.le{n m:Nat}(h:n<=m):∀o,Fr m o->Fr n o
 | none,e=>e
 | some k,e=>le_trans h e
mutual
noncomputable def Dn(A:AP)(h:Hs):Val->Val->Prop
 | .non,v=>v=.non
 | .bl b,v=>v=.bl b
 | .int i,v=>v=.int i
 | .str x,v=>v=.str x
 | .tup ds,v=>∃vs,v=.tup vs/\ao A h ds vs
 | .rl ds,v=>(∃vs,v=.rl vs/\A none/\ao A h ds vs)\/∃i vs,v=.ref i/\A (some i)/\h[i]?=some (.lst vs)/\ao A h ds vs
 | .dc ks ds,v=>∃i kvs,v=.ref i/\A (some i)/\h[i]?=some (.dct kvs)/\kvs.map (·.1)=ks/\ao A h ds (kvs.map (·.2))
 | .ob c xs ds,v=>∃i fs,v=.ref i/\A (some i)/\h[i]?=some (.ins c fs)/\fs.map (·.1)=xs/\ao A h ds (fs.map (·.2))
 | .ref _,_=>False
noncomputable def ao(A:AP)(h:Hs):List Val->List Val->Prop
 | [],vs=>vs=[]
 | d::ds,vs=>∃v r,vs=v::r/\Dn A h d v/\ao A h ds r
end
section
variable {A A':AP} {h h' h1:Hs}
mutual
theorem Dn.mono(hA:∀i,A i->A' i)(hh:∀(i:Nat) (o:Ob),A (some i)->h[i]?=some o->h'[i]?=some o):∀(d v:Val),Dn A h d v->Dn A' h' d v
 | .non,v,e=>by rw[Dn] at e |-;exact e
 | .bl _,v,e=>by rw[Dn] at e |-;exact e
 | .int _,v,e=>by rw[Dn] at e |-;exact e
 | .str _,v,e=>by rw[Dn] at e |-;exact e
 | .tup ds,v,e=>by
  rw[Dn] at e |-;obtain⟨vs,rfl,q⟩:=e;exact⟨vs,rfl,ao.mono hA hh ds vs q⟩
 | .rl ds,v,e=>by
  rw[Dn] at e |-
  rcases e with ⟨vs,rfl,n,q⟩|⟨i,vs,rfl,a,g,q⟩
  ·exact .inl ⟨vs,rfl,hA _ n,ao.mono hA hh ds vs q⟩
  ·exact .inr ⟨i,vs,rfl,hA _ a,hh i _ a g,ao.mono hA hh ds vs q⟩
 | .dc ks ds,v,e=>by
  rw[Dn] at e |-;obtain⟨i,kvs,rfl,a,g,k,q⟩:=e;exact⟨i,kvs,rfl,hA _ a,hh i _ a g,k,ao.mono hA hh ds _ q⟩
 | .ob c xs ds,v,e=>by
  rw[Dn] at e |-;obtain⟨i,kvs,rfl,a,g,k,q⟩:=e;exact⟨i,kvs,rfl,hA _ a,hh i _ a g,k,ao.mono hA hh ds _ q⟩
 | .ref _,v,e=>by rw[Dn] at e;exact e.elim
theorem ao.mono(hA:∀i,A i->A' i)(hh:∀(i:Nat) (o:Ob),A (some i)->h[i]?=some o->h'[i]?=some o):∀(ds vs:List Val),ao A h ds vs->ao A' h' ds vs
 | [],vs,e=>by rw[ao] at e |-;exact e
 | d::ds,vs,e=>by
  rw[ao] at e |-;obtain⟨v,r,rfl,q1,q2⟩:=e;exact⟨v,r,rfl,Dn.mono hA hh d v q1,ao.mono hA hh ds r q2⟩
end
theorem bU{i:Nat}(p:h<+:h')(e:h[i]?=some o):h'[i]?=some o:=by
 obtain⟨t,rfl⟩:=p;have hi:i<h.length:=(List.getElem?_eq_some_iff.mp e).1;rw[getElem?_append_left hi];exact e
theorem Dn.ext(p:h<+:h')(e:Dn A h d v):Dn A h' d v:=Dn.mono (λ_ a=>a) (λ_ _ _ q=>bU p q) d v e
theorem ao.ext(p:h<+:h')(e:ao A h d v):ao A h' d v:=ao.mono (λ_ a=>a) (λ_ _ _ q=>bU p q) d v e
theorem Dn.fZ(hA:∀i,A i->A' i)(e:Dn A h d v):Dn A' h d v:=Dn.mono hA (λ_ _ _ q=>q) d v e
theorem ao.fZ(hA:∀i,A i->A' i)(e:ao A h d v):ao A' h d v:=ao.mono hA (λ_ _ _ q=>q) d v e
mutual
theorem iK:∀(d v:Val),jw d=true->(Dn A h d v↔v=d)
 | .non,v,_=>by rw[Dn]
 | .bl _,v,_=>by rw[Dn]
 | .int _,v,_=>by rw[Dn]
 | .str _,v,_=>by rw[Dn]
 | .tup ds,v,e=>by
  rw[jw] at e;rw[Dn];constructor
  ·rintro⟨vs,rfl,q⟩;rw[(aS ds vs e).mp q]
  ·rintro rfl;exact⟨ds,rfl,(aS ds ds e).mpr rfl⟩
 | .rl _,v,e=>by rw[jw] at e;cases e
 | .dc _ _,v,e=>by rw[jw] at e;cases e
 | .ob _ _ _,v,e=>by rw[jw] at e;cases e
 | .ref _,v,e=>by rw[jw] at e;cases e
theorem aS:∀(ds vs:List Val),bw ds=true->(ao A h ds vs↔vs=ds)
 | [],vs,_=>by rw[ao]
 | d::ds,vs,e=>by
  rw[bw,and_eq_true] at e;rw[ao];constructor
  ·rintro⟨v,r,rfl,q1,q2⟩;rw[(iK d v e.1).mp q1,(aS ds r e.2).mp q2]
  ·rintro rfl;exact⟨d,ds,rfl,(iK d d e.1).mpr rfl,(aS ds ds e.2).mpr rfl⟩
end
theorem ao.nil:ao A h [] []:=by rw[ao]
theorem ao.cons{d v:Val}{ds vs:List Val}(a:Dn A h d v)(b:ao A h ds vs):ao A h (d::ds) (v::vs):=by rw[ao];exact⟨v,vs,rfl,a,b⟩
theorem ao.length:∀{ds vs:List Val},ao A h ds vs->ds.length=vs.length
 | [],vs,e=>by rw[ao] at e;subst e;rfl
 | d::ds,vs,e=>by rw[ao] at e;obtain⟨v,r,rfl,_,q⟩:=e;simp[ao.length q]
theorem ao.get:∀{ds vs:List Val} {i:Nat} {d:Val},ao A h ds vs->ds[i]?=some d->∃v,vs[i]?=some v/\Dn A h d v
 | [],vs,i,d,e,q=>by simp at q
 | c::ds,vs,0,d,e,q=>by
  rw[ao] at e;obtain⟨v,r,rfl,a,_⟩:=e;simp at q;subst q;exact⟨v,rfl,a⟩
 | c::ds,vs,i+1,d,e,q=>by
  rw[ao] at e;obtain⟨v,r,rfl,_,b⟩:=e;simp at q;obtain⟨w,q1,q2⟩:=ao.get b q;exact⟨w,by simpa using q1,q2⟩
theorem ao.append:∀{ds es vs ws:List Val},ao A h ds vs->ao A h es ws->ao A h (ds++es) (vs++ws)
 | [],es,vs,ws,e,q=>by rw[ao] at e;subst e;exact q
 | d::ds,es,vs,ws,e,q=>by
  rw[ao] at e;obtain⟨v,r,rfl,a,b⟩:=e;exact ao.cons a (ao.append b q)
theorem ao.take:∀{ds vs:List Val} (n:Nat),ao A h ds vs->ao A h (ds.take n) (vs.take n)
 | _,_,0,_=>by simp;exact ao.nil
 | [],vs,n+1,e=>by rw[ao] at e;subst e;simp;exact ao.nil
 | d::ds,vs,n+1,e=>by
  rw[ao] at e;obtain⟨v,r,rfl,a,b⟩:=e;exact ao.cons a (ao.take n b)
theorem ao.drop:∀{ds vs:List Val} (n:Nat),ao A h ds vs->ao A h (ds.drop n) (vs.drop n)
 | _,_,0,e=>by simpa using e
 | [],vs,n+1,e=>by rw[ao] at e;subst e;simp;exact ao.nil
 | d::ds,vs,n+1,e=>by
  rw[ao] at e;obtain⟨v,r,rfl,a,b⟩:=e;exact ao.drop n b
theorem ao.cut(lo hi:Option Int)(e:ao A h ds vs):ao A h (dR ds lo hi) (dR vs lo hi):=by
 unfold dR;rw[e.length];exact ao.take _ (ao.drop _ e)
theorem ao.app:∀{ds es vs ws:List Val},ao A h ds vs->ao A h es ws->ao A h (ds++es) (vs++ws)
 | [],_,vs,_,e,q=>by rw[ao] at e;subst e;exact q
 | d::ds,_,vs,_,e,q=>by
  rw[ao] at e;obtain⟨v,r,rfl,a,b⟩:=e;rw[cons_append,cons_append,ao];exact⟨v,_,rfl,a,ao.app b q⟩
theorem ao.rev:∀{ds vs:List Val},ao A h ds vs->ao A h ds.reverse vs.reverse
 | [],vs,e=>by rw[ao] at e;subst e;exact ao.nil
 | d::ds,vs,e=>by
  rw[ao] at e;obtain⟨v,r,rfl,a,b⟩:=e;rw[reverse_cons,reverse_cons];refine ao.app (ao.rev b) ?_;rw[ao];exact⟨v,[],rfl,a,by rw[ao]⟩
theorem ao.set:∀{ds vs:List Val} (n:Nat) {d v:Val},ao A h ds vs->Dn A h d v->ao A h (ds.set n d) (vs.set n v)
 | [],vs,n,d,v,e,q=>by rw[ao] at e;subst e;simp;exact ao.nil
 | c::ds,vs,0,d,v,e,q=>by
  rw[ao] at e;obtain⟨w,r,rfl,a,b⟩:=e;exact ao.cons q b
 | c::ds,vs,n+1,d,v,e,q=>by
  rw[ao] at e;obtain⟨w,r,rfl,a,b⟩:=e;exact ao.cons a (ao.set n b q)
theorem ao.jQ{i:Int}(e:ao A h ds vs)(q:L2.jQ ds i=some d):∃v,L2.jQ vs i=some v/\Dn A h d v:=by
 unfold L2.jQ at q |-;rw[e.length] at q;cases hi:L2.z6 vs.length i with
 | none=>rw[hi] at q;cases q
 | some n=>rw[hi] at q;exact ao.get e q
theorem ao.one(e:ao A h [d] vs):∃v,vs=[v]/\Dn A h d v:=by
 rw[ao] at e;obtain⟨v,r,rfl,a,b⟩:=e;rw[ao] at b;subst b;exact⟨v,rfl,a⟩
noncomputable def OD(A:AP)(h:Hs)(d:Val)(a:Nat):Prop:=match d with
 | .rl ds=>∃vs,h[a]?=some (.lst vs)/\ao A h ds vs
 | .dc ks ds=>∃kvs,h[a]?=some (.dct kvs)/\kvs.map (·.1)=ks/\ao A h ds (kvs.map (·.2))
 | _=>False
theorem OD.mono{a:Nat}(e:OD A h d a)(ho:∀o,h[a]?=some o->h'[a]?=some o)(hq:∀ds vs,ao A h ds vs->ao A' h' ds vs):OD A' h' d a:=by
 cases d with
 | rl ds=>obtain⟨vs,g,q⟩:=e;exact⟨vs,ho _ g,hq _ _ q⟩
 | dc ks ds=>obtain⟨kvs,g,k,q⟩:=e;exact⟨kvs,ho _ g,k,hq _ _ q⟩
 | _=>exact False.elim e
theorem OD.ext{a:Nat}(p:h<+:h')(e:OD A h d a):OD A h' d a:=e.mono (λ_ g=>bU p g) λ_ _ q=>q.ext p
theorem OD.lt{a:Nat}(e:OD A h d a):a<h.length:=by
 cases d with
 | rl ds=>obtain⟨vs,g,q⟩:=e;exact(List.getElem?_eq_some_iff.mp g).1
 | dc ks ds=>obtain⟨kvs,g,k,q⟩:=e;exact(List.getElem?_eq_some_iff.mp g).1
 | _=>exact False.elim e
theorem OD.dn{a:Nat}(e:OD A h d a)(ha:A (.some a)):Dn A h d (.ref a):=by
 cases d with
 | rl ds=>obtain⟨vs,g,q⟩:=e;rw[Dn];exact .inr ⟨a,vs,rfl,ha,g,q⟩
 | dc ks ds=>obtain⟨kvs,g,k,q⟩:=e;rw[Dn];exact⟨a,kvs,rfl,ha,g,k,q⟩
 | _=>exact False.elim e
noncomputable def OB(A:AP)(h:Hs)(d:Val)(o:Ob):Prop:=match d with
 | .rl ds=>∃vs,o=.lst vs/\ao A h ds vs
 | .dc ks ds=>∃kvs,o=.dct kvs/\kvs.map (·.1)=ks/\ao A h ds (kvs.map (·.2))
 | _=>False
theorem OB.od{a:Nat}(e:OB A h d o)(g:h'[a]?=.some o)(hq:∀ds vs,ao A h ds vs->ao A' h' ds vs):OD A' h' d a:=by
 cases d with
 | rl ds=>obtain⟨vs,rfl,q⟩:=e;exact⟨vs,g,hq _ _ q⟩
 | dc ks ds=>obtain⟨kvs,rfl,k,q⟩:=e;exact⟨kvs,g,k,hq _ _ q⟩
 | _=>exact False.elim e
noncomputable def DB(A:AP)(h:Hs)(d v:Val):Prop:=Dn A h d v\/∃i,v=.ref i/\OD A h d i
theorem DB.all(e:DB A h d v):Dn (λ_=>True) h d v:=by
 rcases e with e|⟨i,rfl,q⟩
 ·exact e.fZ λ_ _=>trivial
 ·exact(q.mono (A':=λ_=>True) (λ_ g=>g) λ_ _ z=>z.fZ λ_ _=>trivial).dn trivial
theorem DB.ext(p:h<+:h')(e:DB A h d v):DB A h' d v:=by
 rcases e with e|⟨i,rfl,q⟩
 ·exact .inl (e.ext p)
 ·exact .inr ⟨i,rfl,q.ext p⟩
theorem DB.dc(e:DB A h (.dc ks ds) v):∃i kvs,v=.ref i/\h[i]?=some (.dct kvs)/\kvs.map (·.1)=ks/\ao A h ds (kvs.map (·.2)):=by
 rcases e with e|⟨i,rfl,kvs,g,k,q⟩
 ·rw[Dn] at e;obtain⟨i,kvs,rfl,_,g,k,q⟩:=e;exact⟨i,kvs,rfl,g,k,q⟩
 ·exact⟨i,kvs,rfl,g,k,q⟩
theorem DB.lst{ds:List Val}{v:Val}(e:DB A h (.rl ds) v):∃vs,aD h v=some vs/\ao A h ds vs:=by
 rcases e with e|⟨i,rfl,vs,g,q⟩
 ·rw[Dn] at e
  rcases e with ⟨vs,rfl,_,q⟩|⟨i,vs,rfl,_,g,q⟩
  ·exact⟨vs,rfl,q⟩
  ·exact⟨vs,by simp[aD,g],q⟩
 ·exact⟨vs,by simp[aD,g],q⟩
theorem DB.seq(e:DB A h d v)(q:dD [] d=some ds):∃vs,dD h v=some vs/\ao A h ds vs:=by
 cases d with
 | tup es =>
  simp only[dD] at q;cases q
  rcases e with e|⟨_,_,e1⟩
  ·rw[Dn] at e;obtain⟨vs,rfl,q⟩:=e;exact⟨vs,rfl,q⟩
  ·exact False.elim e1
 | rl es =>simp only[dD,aD] at q;cases q;obtain⟨vs,q1,q2⟩:=e.lst;refine⟨vs,?_,q2⟩;cases v<;>first|(simp[aD] at q1;done)|exact q1
 | ref i=>simp[dD,aD] at q
 | _=>simp[dD,aD] at q
theorem DB.int{i:Int}(e:DB A h (.int i) v):v=.int i:=by
 rcases e with e|⟨_,_,e1⟩
 ·rw[Dn] at e;exact e
 ·exact False.elim e1
theorem DB.str(e:DB A h (.str i) v):v=.str i:=by
 rcases e with e|⟨_,_,e1⟩
 ·rw[Dn] at e;exact e
 ·exact False.elim e1
theorem DB.bl{i:Bool}(e:DB A h (.bl i) v):v=.bl i:=by
 rcases e with e|⟨_,_,e1⟩
 ·rw[Dn] at e;exact e
 ·exact False.elim e1
theorem DB.tup{v:Val}{ds:List Val}(e:DB A h (.tup ds) v):∃vs,v=.tup vs/\ao A h ds vs:=by
 rcases e with e|⟨_,_,e1⟩
 ·rw[Dn] at e;exact e
 ·exact False.elim e1
theorem tR:∀(n:Nat) (d v:Val) (p:PyData),Dn (λ_=>True) h d v->toD n [] d=some p->toD n h v=some p:=by
 intro n
 induction n with
 | zero=>intro d v p _ e;simp[toD] at e
 | succ n ih =>
  have all:∀(ds vs:List Val) (ps:List PyData),ao (λ_=>True) h ds vs->cD (toD n []) ds=some ps->cD (toD n h) vs=some ps:=by
   intro ds
   induction ds with
   | nil=>intro vs ps q e;rw[ao] at q;subst q;exact e
   | cons d ds XC =>intro vs ps q e;rw[ao] at q;obtain⟨v,r,rfl,q1,q2⟩:=q;simp only[cD] at e |-;obtain⟨x,e1,e⟩:=bind_eq_some_iff.mp e;obtain⟨xs,e2,e⟩:=bind_eq_some_iff.mp e;rw[ih d v x q1 e1,XC r xs q2 e2];exact e
  intro d v p q e;cases d with
  | non=>rw[Dn] at q;subst q;exact e
  | bl b=>rw[Dn] at q;subst q;exact e
  | int b=>rw[Dn] at q;subst q;exact e
  | str b=>rw[Dn] at q;subst q;exact e
  | tup ds =>rw[Dn] at q;obtain⟨vs,rfl,q⟩:=q;simp only[toD] at e |-;obtain⟨ps,e1,e⟩:=bind_eq_some_iff.mp e;rw[all ds vs ps q e1];exact e
  | rl ds =>
   rw[Dn] at q;simp only[toD] at e;obtain⟨ps,e1,e⟩:=bind_eq_some_iff.mp e
   rcases q with ⟨vs,rfl,_,q⟩|⟨i,vs,rfl,_,g,q⟩
   ·simp only[toD];rw[all ds vs ps q e1];exact e
   ·simp only[toD,aD,g,bind_some];rw[all ds vs ps q e1];exact e
  | dc ks ds=>simp[toD] at e
  | ob c xs ds=>simp[toD] at e
  | ref i=>rw[Dn] at q;exact q.elim
theorem Ia{b:Bool}(a:DB A h d v)(c:DB A h e w)(q:Be [] d e=some b):Be h v w=some b:=by
 unfold Be at q |-;obtain⟨x,e1,q⟩:=bind_eq_some_iff.mp q;obtain⟨y,e2,q⟩:=bind_eq_some_iff.mp q;rw[tR 16 d v x a.all e1,tR 16 e w y c.all e2];exact q
theorem Cw(a:DB A h d v):pP v=pP d:=by
 rcases a with a|⟨i,rfl,q⟩
 ·cases d<;>rw[Dn] at a
  ·subst a;rfl
  ·subst a;rfl
  ·subst a;rfl
  ·subst a;rfl
  ·obtain⟨vs,rfl,_⟩:=a;rfl
  ·rcases a with ⟨vs,rfl,_⟩|⟨i,vs,rfl,_⟩<;>rfl
  ·obtain⟨i,kvs,rfl,_⟩:=a;rfl
  ·obtain⟨i,kvs,rfl,_⟩:=a;rfl
  ·exact a.elim
 ·cases d<;>first|exact False.elim q|rfl
theorem Cy{b:Bool}(q:memD h v (.str y)=some b):False:=by
 unfold memD at q;obtain⟨x,e1,q⟩:=bind_eq_some_iff.mp q;obtain⟨z,e2,q⟩:=bind_eq_some_iff.mp q;simp only[toD] at e1;split at e1<;>cases e1;simp[J8] at q
theorem Cz{b:Bool}(a:DB A h d v)(c:DB A h e w)(q:tK [] d e=some b):tK h v w=some b:=by
 have data:memD [] d e=some b->memD h v w=some b:=λq=>by
  unfold memD at q |-;obtain⟨x,e1,q⟩:=bind_eq_some_iff.mp q;obtain⟨y,e2,q⟩:=bind_eq_some_iff.mp q;rw[tR 16 e w x c.all e1,tR 16 d v y a.all e2];exact q
 cases e with
 | str y =>
  have:=c.str;subst this;cases d with
  | str x=>have:=a.str;subst this;exact q
  | _=>exact(Cy (data q)).elim
 | tup es =>obtain⟨ws,rfl,_⟩:=c.tup;have q':=data (by cases d<;>exact q);cases v<;>exact q'
 | rl es =>
  have q':=data (by cases d<;>exact q)
  rcases c with c|⟨i,rfl,vs,g,q2⟩
  ·rw[Dn] at c
   rcases c with ⟨ws,rfl,_⟩|⟨i,ws,rfl,_,g,_⟩
   ·cases v<;>exact q'
   ·cases v<;>(show (h[i]?).bind _=_;rw[g];exact q')
  ·cases v<;>(show (h[i]?).bind _=_;rw[g];exact q')
 | dc ks es =>
  obtain⟨i,kvs,rfl,g,hk,_⟩:=c.dc
  ·skip
   have q':(keyOf d).bind (λk=>some (ks.any λj=>decide (j=k)))=some b:=by cases d<;>exact q
   obtain⟨kk,e1,q'⟩:=bind_eq_some_iff.mp q';have ev:keyOf v=some kk:=by
    cases d<;>simp only[keyOf] at e1<;>first|(cases e1;done)|skip
    ·have:=a.int;subst this;exact e1
    ·have:=a.str;subst this;exact e1
   have:(bV kvs kk).isSome=(ks.any λj=>decide (j=kk)):=by
    subst hk;unfold bV;rw[isSome_map,any_map];have key:∀l:List (Key×Val),(List.find? (λkv=>decide (kv.fst=kk)) l).isSome=l.any ((λj=>decide (j=kk))∘λx=>x.fst):=by
     intro l
     induction l with
     | nil=>rfl
     | cons x l ih =>
      rw[find?_cons,any_cons]
      by_cases hx:x.1=kk
      ·simp[hx]
      ·simp[hx];simpa using ih
    exact key kvs
   have fin:FE h v i (.dct kvs)=some b:=by simp only[FE,ev,bind_some,this];exact q'
   cases v<;>(show (h[i]?).bind _=_;rw[g];exact fin)
 | ref i =>
  rcases c with c|⟨_,_,e1⟩
  ·rw[Dn] at c;exact c.elim
  ·exact False.elim e1
 | ob cc xs es =>
  have q':memD [] d (.ob cc xs es)=some b:=by cases d<;>exact q
  unfold memD at q';obtain⟨x,e1,q'⟩:=bind_eq_some_iff.mp q';simp[toD] at e1
 | non =>
  have q':=data (by cases d<;>exact q);have:w=.non:=by
   rcases c with c|⟨_,_,e1⟩
   ·rw[Dn] at c;exact c
   ·exact False.elim e1
  subst this;cases v<;>exact q'
 | bl x =>
  have q':=data (by cases d<;>exact q);have:w=.bl x:=by
   rcases c with c|⟨_,_,e1⟩
   ·rw[Dn] at c;exact c
   ·exact False.elim e1
  subst this;cases v<;>exact q'
 | int x =>
  have q':=data (by cases d<;>exact q);have:w=.int x:=by
   rcases c with c|⟨_,_,e1⟩
   ·rw[Dn] at c;exact c
   ·exact False.elim e1
  subst this;cases v<;>exact q'
theorem CA{b:Bool}(a:DB A h d v)(c:DB A h e w)(q:HS d e=some b):HS v w=some b:=by
 cases e<;>first|(cases q;done)|skip
 ·have:w=.non:=by
   rcases c with c|⟨_,_,e1⟩
   ·rw[Dn] at c;exact c
   ·exact False.elim e1
  subst this;show some (pP v)=_;rw[Cw a];exact q
 ·have:=c.bl;subst this
  cases d<;>first|(cases q;done)|skip
  have:=a.bl;subst this;exact q
theorem Le{b:Bool}(a:DB A h d v)(c:DB A h e w)(q:cop [] o d e=some b):cop h o v w=some b:=by
 cases o with
 | eq=>exact Ia a c q
 | ne =>obtain⟨x,e1,e2⟩:=map_eq_some_iff.mp (show (Be [] d e).map _=some b from q);show (Be h v w).map _=_;rw[Ia a c e1];exact congrArg some e2
 | isn=>exact CA a c q
 | ntn =>obtain⟨x,e1,e2⟩:=map_eq_some_iff.mp (show (HS d e).map _=some b from q);show (HS v w).map _=_;rw[CA a c e1];exact congrArg some e2
 | uZ=>exact Cz a c q
 | nin =>obtain⟨x,e1,e2⟩:=map_eq_some_iff.mp (show (tK [] d e).map _=some b from q);show (tK h v w).map _=_;rw[Cz a c e1];exact congrArg some e2
 | lt =>obtain⟨i,j,rfl,rfl⟩:=jX (.inl rfl) q;have:=a.int;subst this;have:=c.int;subst this;exact q
 | le =>obtain⟨i,j,rfl,rfl⟩:=jX (.inr (.inl rfl)) q;have:=a.int;subst this;have:=c.int;subst this;exact q
 | gt =>obtain⟨i,j,rfl,rfl⟩:=jX (.inr (.inr (.inl rfl))) q;have:=a.int;subst this;have:=c.int;subst this;exact q
 | ge =>obtain⟨i,j,rfl,rfl⟩:=jX (.inr (.inr (.inr rfl))) q;have:=a.int;subst this;have:=c.int;subst this;exact q
theorem tU{b:Bool}(a:DB A h d v)(q:dJ [] d=some b):dJ h v=some b:=by
 cases d with
 | rl ds =>
  obtain⟨vs,q1,q2⟩:=a.lst;have l:=q2.length;have e:(!ds.isEmpty) = !vs.isEmpty:=by cases ds<;>cases vs<;>simp_all
  simp only[dJ] at q;rw[e] at q;cases v<;>simp only[aD] at q1<;>first|(cases q1;done)|skip
  ·cases q1;exact q
  ·split at q1<;>cases q1;rename_i g;simp only[dJ,g];exact q
 | tup ds =>
  obtain⟨vs,rfl,q2⟩:=a.tup;have l:=q2.length;have e:(!ds.isEmpty) = !vs.isEmpty:=by cases ds<;>cases vs<;>simp_all
  simp only[dJ] at q |-;rw[<-e];exact q
 | dc ks ds =>obtain⟨i,kvs,rfl,g,hk,_⟩:=a.dc;subst hk;simp only[dJ,g] at q |-;rw[<-q];cases kvs<;>rfl
 | ob c xs ds=>cases q
 | ref i =>
  rcases a with a|⟨_,_,e1⟩
  ·rw[Dn] at a;exact a.elim
  ·exact False.elim e1
 | non =>
  rcases a with a|⟨_,_,e1⟩
  ·rw[Dn] at a;subst a;exact q
  ·exact False.elim e1
 | bl b=>have:=a.bl;subst this;exact q
 | int b=>have:=a.int;subst this;exact q
 | str b=>have:=a.str;subst this;exact q
theorem Lf{n:Nat}(a:DB A h d v)(q:lX [] d=some n):lX h v=some n:=by
 cases d with
 | rl ds =>
  obtain⟨vs,q1,q2⟩:=a.lst;have l:=q2.length;simp only[lX] at q;rw[l] at q;cases v<;>simp only[aD] at q1<;>first|(cases q1;done)|skip
  ·cases q1;exact q
  ·split at q1<;>cases q1;rename_i g;simp only[lX,g];exact q
 | tup ds =>obtain⟨vs,rfl,q2⟩:=a.tup;simp only[lX] at q |-;rw[<-q2.length];exact q
 | dc ks ds =>obtain⟨i,kvs,rfl,g,hk,_⟩:=a.dc;subst hk;simp only[lX,g] at q |-;rw[<-q];simp
 | str b=>have:=a.str;subst this;exact q
 | _=>simp[lX] at q
theorem Oo{t:String}(a:DB A h d v)(q:u6 [] d=some t):u6 h v=some t:=by
 cases d with
 | rl ds =>
  obtain⟨vs,q1,q2⟩:=a.lst;cases v<;>simp only[aD] at q1<;>first|(cases q1;done)|skip
  ·exact q
  ·split at q1<;>cases q1;rename_i g;simp only[u6,g];exact q
 | tup ds=>obtain⟨vs,rfl,q2⟩:=a.tup;exact q
 | dc ks ds =>obtain⟨i,kvs,rfl,g,hk,_⟩:=a.dc;simp only[u6,g] at q |-;exact q
 | ob c xs ds=>cases q
 | ref i =>
  rcases a with a|⟨_,_,e1⟩
  ·rw[Dn] at a;exact a.elim
  ·exact False.elim e1
 | non =>
  rcases a with a|⟨_,_,e1⟩
  ·rw[Dn] at a;subst a;exact q
  ·exact False.elim e1
 | bl b=>have:=a.bl;subst this;exact q
 | int b=>have:=a.int;subst this;exact q
 | str b=>have:=a.str;subst this;exact q
theorem oO:∀{kvs:List (Key×Val)} {ks:List Key} {ds:List Val} {z:Val},kvs.map (·.1)=ks->ao A h ds (kvs.map (·.2))->bV (ks.zip ds) k=some z->∃v,bV kvs k=some v/\Dn A h z v
 | [],ks,ds,z,hk,q,e=>by subst hk;simp[bV] at e
 | (k',v')::kvs,ks,ds,z,hk,q,e=>by
  subst hk;have l:=q.length;cases ds with
  | nil=>simp at l
  | cons d ds =>
   simp only[map_cons] at q;rw[ao] at q;obtain⟨v,r,e1,q1,q2⟩:=q;cases e1
   by_cases hkk:k'=k
   ·subst hkk;simp[bV] at e |-;subst e;exact q1
   ·have e':bV ((kvs.map (·.1)).zip ds) k=some z:=by simpa [bV,hkk] using e
    obtain⟨w,a1,a2⟩:=oO rfl q2 e';exact⟨w,by simpa [bV,hkk] using a1,a2⟩
theorem DB.mq{j:Nat}(c:DB A h (.ref j) v):False:=by
 rcases c with c|⟨_,_,e1⟩
 ·rw[Dn] at c;exact c
 ·exact e1
theorem yY:∀{kvs:List (Key×Val)} {ds:List Val},ao A h ds (kvs.map (·.2))->bV ((kvs.map (·.1)).zip ds) k=none->bV kvs k=none
 | [],ds,q,e=>rfl
 | (k',v')::kvs,ds,q,e=>by
  cases ds with
  | nil=>rw[ao] at q;cases q
  | cons d ds =>
   rw[map_cons,ao] at q;obtain⟨v,r,eq,q1,q2⟩:=q;cases eq;unfold bV at e |-;rw[map_cons,zip_cons_cons,find?_cons] at e;rw[find?_cons]
   by_cases hk:k'=k
   ·simp[hk] at e
   ·simp only[hk,decide_false] at e |-;exact yY q2 e
theorem xX(a:Dn A h d v)(e:keyOf d=some kk):keyOf v=some kk:=by
 cases d<;>first|(cases e;done)|skip
 ·rw[Dn] at a;subst a;exact e
 ·rw[Dn] at a;subst a;exact e
theorem Lg(a:DB A h o v)(e:xP [] o k=some r):∃r',xP h v k=some r'/\∀z z',Dn A h z z'->Dn A h (r.getD z) (r'.getD z'):=by
 cases o<;>first|(cases e;done)|(exact(DB.mq a).elim)|skip
 rename_i ks ds;obtain⟨i,kvs,rfl,g,hk,q⟩:=a.dc;cases e;have eg:xP h (.ref i) k=some (bV kvs k):=by show (match h[i]? with|some (.dct kvs)=>some (bV kvs k)|_=>none)=_;rw[g]
 refine⟨_,eg,λz z' hz=>?_⟩;cases ev:bV (ks.zip ds) k with
 | none =>subst hk;rw[yY q ev];exact hz
 | some d =>obtain⟨u,e1,e2⟩:=oO hk q ev;rw[e1];exact e2
theorem vG(a:DB A h o v)(e:r9 [] o=some ks):r9 h v=some ks:=by
 cases o<;>first|(cases e;done)|(exact(DB.mq a).elim)|skip
 obtain⟨i,kvs,rfl,g,hk,q⟩:=a.dc;cases e;show (match h[i]? with|some (.dct kvs)=>some (kvs.map (λkv:Key×Val=>kv.1))|_=>none)=_;rw[g];exact congrArg some hk
theorem mw:∀ks:List Key,bw (ks.map B9)=true
 | []=>rfl
 | .inl _::ks=>by rw[map_cons,bw,mw ks];rfl
 | .inr _::ks=>by rw[map_cons,bw,mw ks];rfl
theorem Gs{u:Unit}(a:DB A h o v)(e:B8 [] o=some u):B8 h v=some u:=by
 cases o<;>first|(cases e;done)|(exact(DB.mq a).elim)|skip
 obtain⟨i,kvs,rfl,g,hk,q⟩:=a.dc;show (match h[i]? with|some (.dct _)=>some ()|_=>none)=_;rw[g]
theorem Lh(a:DB A h d v)(c:Dn A h e w)(q:ni [] d e=some z):∃u,ni h v w=some u/\Dn A h z u:=by
 cases e with
 | int i =>
  rw[Dn] at c;subst c;cases d with
  | str x =>
   have:=a.str;subst this;refine⟨z,q,?_⟩;change (if x.length<=sizeLine then (jQ x.cps.toList i).map (λc=>Val.str ⟨#[c]⟩) else none)=some z at q;split at q
   ·obtain⟨c,_,rfl⟩:=map_eq_some_iff.mp q;rw[Dn]
   ·cases q
  | tup ds =>obtain⟨vs,rfl,q2⟩:=a.tup;exact q2.jQ q
  | rl ds =>
   obtain⟨vs,q1,q2⟩:=a.lst;obtain⟨u,q3,q4⟩:=q2.jQ q;refine⟨u,?_,q4⟩;cases v<;>simp only[aD] at q1<;>first|(cases q1;done)|skip
   ·cases q1;exact q3
   ·split at q1<;>cases q1;rename_i g;unfold ni;simp only[aD,g,bind_some];exact q3
  | dc ks ds =>obtain⟨i',kvs,rfl,g,hk,q2⟩:=a.dc;obtain⟨u,q3,q4⟩:=oO hk q2 q;refine⟨u,?_,q4⟩;show (match h[i']? with|some (.dct kvs)=>bV kvs (.inl i)|_=>(aD h (.ref i')).bind λxs=>jQ xs i)=_;rw[g];exact q3
  | ref j=>exact(DB.mq a).elim
  | _=>cases q
 | str x =>
  rw[Dn] at c;subst c;cases d with
  | dc ks ds =>obtain⟨i',kvs,rfl,g,hk,q2⟩:=a.dc;obtain⟨u,q3,q4⟩:=oO hk q2 q;refine⟨u,?_,q4⟩;show (match h[i']? with|some (.dct kvs)=>bV kvs (.inr x)|_=>none)=_;rw[g];exact q3
  | ref j=>exact(DB.mq a).elim
  | _=>cases q
 | _=>cases d<;>first|(cases q;done)|exact(DB.mq a).elim
theorem tW:∀{fs:List (Str×Val)} {ds:List Val},ao A h ds (fs.map (·.2))->(((fs.map (·.1)).zip ds).lookup x=none->fs.lookup x=none)/\∀z,((fs.map (·.1)).zip ds).lookup x=some z->∃u,fs.lookup x=some u/\Dn A h z u
 | [],ds,q=>⟨λ_=>rfl,λz e=>by simp at e⟩
 | (k,v)::fs,ds,q=>by
  cases ds with
  | nil=>rw[ao] at q;cases q
  | cons d ds =>
   rw[map_cons,ao] at q;obtain⟨w,r,eq,q1,q2⟩:=q;cases eq;rw[map_cons,zip_cons_cons,lookup_cons,lookup_cons];cases hb:x==k with
   | true=>exact⟨λz=>(by cases z),λz e=>(by cases e;exact⟨v,rfl,q1⟩)⟩
   | false=>exact tW q2
theorem DB.ob{c:Nat}(e:DB A h (.ob c xs ds) v):∃i fs,v=.ref i/\h[i]?=some (.ins c fs)/\fs.map (·.1)=xs/\ao A h ds (fs.map (·.2)):=by
 rcases e with e|⟨_,_,e1⟩
 ·rw[Dn] at e;obtain⟨i,fs,rfl,_,g,k,q⟩:=e;exact⟨i,fs,rfl,g,k,q⟩
 ·exact False.elim e1
theorem Li{n:Nat}(a:DB A h o v)(e:iE n [] o x=some z):∃u,iE n h v x=some u/\Dn A h z u:=by
 cases o<;>first|(cases e;done)|(exact(DB.mq a).elim)|skip
 obtain⟨i,fs,rfl,g,hk,q⟩:=a.ob;subst hk;unfold iE at e;dsimp only at e;split at e
 ·rename_i hc;obtain⟨u,e1,e2⟩:=(tW q).2 z e;refine⟨u,?_,e2⟩;unfold iE;dsimp only;rw[g];dsimp only;rw[if_pos hc];exact e1
 ·cases e
theorem Lj{j:Nat}(a:DB A h o v)(e:kO [] o m js=some j):kO h v m js=some j:=by
 cases o<;>first|(cases e;done)|(exact(DB.mq a).elim)|skip
 obtain⟨i,fs,rfl,g,hk,q⟩:=a.ob;subst hk;unfold kO at e;dsimp only at e;split at e
 ·rename_i hc;have e1:=(tW q).1 (by simpa using hc);unfold kO;dsimp only;rw[g];dsimp only;rw[if_pos (by rw[e1];rfl)];exact e
 ·cases e
theorem Lk{b:Bool}(a:DB A h o v)(e:Ar [] o bs=some b):Ar h v bs=some b:=by
 cases o<;>first|(cases e;done)|(exact(DB.mq a).elim)|skip
 obtain⟨i,fs,rfl,g,hk,q⟩:=a.ob;unfold Ar;dsimp only;rw[g];exact e
end
end Hv
end
section
namespace Hv
open PySem L2
noncomputable def Up(A:AP)(h:Hs):Prop:=∀k,h.length<=k->A (some k)
noncomputable def Rel(A:AP)(h:Hs){α β:Type}(R:α -> Hs -> β -> Prop)(o:Out β):Pr α -> Prop
 | .ok a=>∃b h',o=.ok b h'/\h<+:h'/\R a h' b
 | .exc c es=>∃ws h',o=.exc c ws h'/\h<+:h'/\ao A h' es ws
 | .no=>True
noncomputable def RV(A:AP)(h:Hs):FV->Hs->Val->Prop:=λx h' v=>Dn A h' x.2 v/\(x.1=true->Dn (Fr h.length) h' x.2 v)
noncomputable def XD(A:AP)(h:Hs):Bool×List Val->Hs->List Val->Prop:=λx h' v=>ao A h' x.2 v/\(x.1=true->ao (Fr h.length) h' x.2 v)
noncomputable def Sh(A:AP):FV->Hs->Val->Prop:=λx h' v=>DB A h' x.2 v
noncomputable def Gu(A:AP)(h:Hs):List Val->List Val->Prop
 | [],vs=>vs=[]
 | d::ds,vs=>∃v r,vs=v::r/\DB A h d v/\Gu A h ds r
noncomputable def ER(A:AP)(aa:aR)(env:Env)(h:Hs):Prop:=∀(i:Nat) (f:Mk) (d:Val),aa[i]?=some (some (f,d)) ->
 if qV f=false then ∃a,env[i]?=some (some (.ref a))/\OD A h d a else ∃v,env[i]?=some (some v)/\Dn A h d v
section
variable {A:AP} {h h1:Hs} {α β γ δ:Type}
theorem Up.ext(u:Up A h)(p:h<+:h1):Up A h1:=λk hk=>u k (le_trans p.length_le hk)
theorem ER.ext(e:ER A aa env h)(p:h<+:h1):ER A aa env h1:=λi f d q=>by
 have:=e i f d q;revert this;generalize qV f=t;intro this;cases t with
 | false =>rw[if_pos rfl] at this |-;obtain⟨a,k2,k3⟩:=this;exact⟨a,k2,k3.ext p⟩
 | true =>rw[if_neg (by decide)] at this |-;obtain⟨v,k1,k2⟩:=this;exact⟨v,k1,k2.ext p⟩
theorem ah(r:Rel A h R (m h) p)(k:∀a h1 b,h<+:h1->R a h1 b->Rel A h1 R' (f b h1) (F a)):Rel A h R' (bnd m f h) (pb p F):=by
 unfold bnd;cases p with
 | ok a =>
  obtain⟨b,h1,e,q,r⟩:=r;rw[e];show Rel A h R' (f b h1) (F a);have:=k a h1 b q r;cases e2:F a with
  | ok c=>rw[e2] at this;obtain⟨d,h2,e3,q2,r2⟩:=this;exact⟨d,h2,e3,q.trans q2,r2⟩
  | exc c es=>rw[e2] at this;obtain⟨d,h2,e3,q2,r2⟩:=this;exact⟨d,h2,e3,q.trans q2,r2⟩
  | no=>trivial
 | exc c es =>obtain⟨ws,h1,e,q,r⟩:=r;rw[e];exact⟨ws,h1,rfl,q,r⟩
 | no=>trivial
theorem az(r:R a h b):Rel A h R (ret b h) (.ok a):=⟨b,h,rfl,prefix_refl _,r⟩
theorem bg(r:∀a,o=some a->∃b,o'=some b/\R a h b):Rel A h R (bh o' h) (pl o):=by
 cases o with
 | none=>trivial
 | some a=>obtain⟨b,rfl,q⟩:=r a rfl;exact⟨b,h,rfl,prefix_refl _,q⟩
theorem bW(r:∀a,o=some a->∃b,f h=some b/\R a h b):Rel A h R (ask f h) (pl o):=bg r
theorem bL{c c':Bool}(e:c=true->c'=true)(r:c=true->Rel A h R (m h) p):Rel A h R (aC c' m h) (pg c p):=by
 unfold aC pg;cases c with
 | true=>rw[if_pos (e rfl),if_pos rfl];exact r rfl
 | false=>rw[if_neg Bool.false_ne_true];trivial
theorem vH(r:Rel A h R o p)(k:∀a h' b,h<+:h'->R a h' b->R' a h' b):Rel A h R' o p:=by
 cases p with
 | ok a=>obtain⟨b,h',e,q,r⟩:=r;exact⟨b,h',e,q,k a h' b q r⟩
 | exc c es=>exact r
 | no=>trivial
theorem dS(o:Ob):h<+:h++[o]:=prefix_append _ _
theorem iW(o:Ob):(h++[o])[h.length]?=some o:=by simp
theorem fQ{f:Bool}{h0:Hs}(u:Up A h)(p:h0<+:h)(q:ao A h xs vs)(g:f=true->ao (Fr h0.length) h xs vs):Rel A h (RV A h0) (new (.lst vs) h) (.ok (f,.rl xs)):=by
 refine⟨_,_,rfl,dS _,?_,λhf=>?_⟩
 ·show Dn A _ (.rl xs) _;rw[Dn];exact .inr ⟨_,vs,rfl,u _ (Nat.le_refl _),iW _,q.ext (dS _)⟩
 ·show Dn _ _ (.rl xs) _;rw[Dn];exact .inr ⟨_,vs,rfl,p.length_le,iW _,(g hf).ext (dS _)⟩
theorem lE{h0:Hs}(q:Dn A h d v):RV A h0 (jw d,d) h v:=⟨q,λhi=>(iK d v hi).mpr ((iK d v hi).mp q)⟩
theorem f6(q:ao A h ds vs)(hi:bw ds=true):ao A' h' ds vs:=(aS ds vs hi).mpr ((aS ds vs hi).mp q)
theorem iL{i:Int}{h0:Hs}{f:Bool}:RV A h0 (f,.int i) h (.int i):=⟨by rw[Dn],λ_=>by rw[Dn]⟩
theorem qf{i:Bool}{h0:Hs}{f:Bool}:RV A h0 (f,.bl i) h (.bl i):=⟨by rw[Dn],λ_=>by rw[Dn]⟩
theorem Ll{h0:Hs}{f:Bool}:RV A h0 (f,.str i) h (.str i):=⟨by rw[Dn],λ_=>by rw[Dn]⟩
theorem RV.br{h0:Hs}(r:RV A h0 x h v):Sh A x h v:=.inl r.1
theorem Gv(ho:o≠.add)(v w:Val):(∃i j,v=.int i/\w=.int j)\/j3 o v w=.no:=by
 cases v with
 | int i =>
  cases w with
  | int j=>exact .inl ⟨i,j,rfl,rfl⟩
  | _=>right;cases o<;>first|rfl|exact absurd rfl ho
 | _=>right;cases o<;>first|rfl|exact absurd rfl ho
theorem yZ{h0:Hs}(u:Up A h)(p:h0<+:h)(a:DB A h d v)(c:DB A h e w):Rel A h (RV A h0) (HQ o v w h) (j3 o d e):=by
 have ii:o≠.add->(∃i j,d=.int i/\e=.int j)\/j3 o d e=.no:=λho=>Gv ho d e;cases o with
 | add =>
  cases d<;>cases e<;>first|trivial|skip
  ·have:=a.int;subst this;have:=c.int;subst this;exact az iL
  ·have:=a.str;subst this;have:=c.str;subst this;exact bL (λz=>z) λ_=>az Ll
  ·rename_i xs ys
   obtain⟨vs,rfl,q1⟩:=a.tup;obtain⟨ws,rfl,q2⟩:=c.tup;have l1:=q1.length;have l2:=q2.length;refine bL (λz=>?_) λ_=>az ⟨?_,λhi=>?_⟩
   ·rw[l1,l2] at z
    have:xs.isEmpty=vs.isEmpty:=by cases xs<;>cases vs<;>simp_all
    rw[<-this];exact z
   ·show Dn A h (.tup _) _;rw[Dn];exact⟨_,rfl,q1.append q2⟩
   ·show Dn _ h (.tup _) _;rw[Dn];exact⟨_,rfl,f6 (q1.append q2) hi⟩
  ·rename_i xs ys
   obtain⟨vs,e1,q1⟩:=a.lst;obtain⟨ws,e2,q2⟩:=c.lst;have eb:HQ .add v w=bnd (ask λh=>aD h v) λa=>bnd (ask λh=>aD h w) λb=>aC (decide (a.length+b.length<=sizeLine)) (new (.lst (a++b))):=by
    cases v<;>simp only[aD] at e1<;>first|(cases e1;done)|skip
    all_goals cases w<;>simp only[aD] at e2<;>first|(cases e2;done)|rfl
   have ev:HQ .add v w h=aC (decide (vs.length+ws.length<=sizeLine)) (new (.lst (vs++ws))) h:=by rw[eb];unfold bnd ask bh;dsimp only;rw[e1];dsimp only;rw[e2]
   rw[ev];refine bL (λz=>?_) λ_=>fQ u p (q1.append q2) λhi=>f6 (q1.append q2) hi;rw[<-q1.length,<-q2.length];exact z
 | _ =>
  rcases ii (by intro z;cases z) with ⟨i,j,rfl,rfl⟩|z
  case inr=>rw[z];trivial
  have:=a.int;subst this;have:=c.int;subst this
  first
   | exact az iL
   | exact bL (λz=>z) λ_=>az iL
theorem Gx{lo hi:Option Int}{h0:Hs}(u:Up A h)(p:h0<+:h)(a:DB A h d v):Rel A h (RV A h0) (qU v lo hi h) (AH d lo hi):=by
 cases d with
 | tup ds =>
  obtain⟨vs,rfl,q⟩:=a.tup;have l:=q.length;simp only[AH,qU];refine bL (λz=>?_) λ_=>az ⟨?_,λhi=>?_⟩
  ·rw[l] at z;exact z
  ·show Dn A h (.tup _) _;rw[Dn];exact⟨_,rfl,q.cut lo hi⟩
  ·show Dn _ h (.tup _) _;rw[Dn];exact⟨_,rfl,f6 (q.cut _ _) hi⟩
 | rl ds =>
  obtain⟨vs,e1,q⟩:=a.lst;have ev:qU v lo hi h=new (.lst (dR vs lo hi)) h:=by
   have:qU v lo hi=bnd (ask λh=>aD h v) λxs=>new (.lst (dR xs lo hi)):=by cases v<;>simp only[aD] at e1<;>first|(cases e1;done)|rfl
   rw[this];unfold bnd ask bh;dsimp only;rw[e1]
  rw[ev];exact fQ u p (q.cut lo hi) λhh=>f6 (q.cut lo hi) hh
 | _=>trivial
theorem Gu.one(e:Gu A h [d] vs):∃v,vs=[v]/\DB A h d v:=by
 obtain⟨v,r,rfl,a,b⟩:=e;cases (show r=[] from b);exact⟨v,rfl,a⟩
theorem Gy{ns:List Int}(q:ao A h ds vs)(e:aT ds=some ns):vs=ds:=by
 have:bw ds=true:=by
  clear q
  induction ds generalizing ns with
  | nil=>rfl
  | cons d ds ih =>
   simp only[aT,cD] at e;obtain⟨i,e1,e⟩:=bind_eq_some_iff.mp e;obtain⟨is,e2,e⟩:=bind_eq_some_iff.mp e;cases d<;>first|(cases e1;done)|skip
   rw[bw,jw,Bool.true_and];exact ih e2
 exact(aS ds vs this).mp q
theorem qg:∀{ds:List Val} {ns:List Int},aT ds=some ns->bw ds=true
 | [],_,_=>rfl
 | d::ds,ns,e=>by
  simp only[aT,cD] at e;obtain⟨i,e1,e⟩:=bind_eq_some_iff.mp e;obtain⟨is,e2,e⟩:=bind_eq_some_iff.mp e;cases d<;>first|(cases e1;done)|skip
  rw[bw,jw,Bool.true_and];exact qg (show aT ds=some is from e2)
theorem vI:∀{ds:List Val} {ns:List (List Int)},kX ds=some ns->bw ds=true
 | [],_,_=>rfl
 | d::ds,ns,e=>by
  simp only[kX,cD] at e;obtain⟨i,e1,e⟩:=bind_eq_some_iff.mp e;obtain⟨is,e2,e⟩:=bind_eq_some_iff.mp e;cases d<;>first|(cases e1;done)|skip
  rename_i vs;dsimp only at e1;split at e1
  ·cases e1
  ·rw[bw,jw,qg e1,Bool.true_and];exact vI (show kX ds=some is from e2)
theorem bJ:∀ns:List Int,bw (ns.map .int)=true
 | []=>rfl
 | n::ns=>by rw[map_cons,bw,jw,Bool.true_and];exact bJ ns
theorem mz:∀oK:List (List Int),bw (oK.map lW)=true
 | []=>rfl
 | n::ns=>by rw[map_cons,bw,lW,jw,bJ,Bool.true_and];exact mz ns
theorem sy(e:fU xs=some ys):bw xs=true/\bw ys=true:=by
 unfold fU at e;split at e
 ·cases e2:aT xs with
  | some ns=>rw[e2] at e;cases e;exact⟨qg e2,bJ _⟩
  | none =>rw[e2] at e;obtain⟨oK,e3,e4⟩:=bind_eq_some_iff.mp e;cases e4;exact⟨vI e3,mz _⟩
 ·cases e
theorem Gz{h0:Hs}(u:Up A h)(p:h0<+:h)(a:Gu A h ds vs):Rel A h (RV A h0) (blt b vs h) (iJ b ds):=by
 have mm:∀(f:List Int->Option Val) (d:Val),(∀ns m,f ns=some m->∃i,m=.int i)->∀v,DB A h d v->Rel A h (RV A h0) (bnd (ask λh=>dD h v) (λxs=>bh ((aT xs).bind f)) h) (pb (pl (dD [] d)) λxs=>pb (pl ((aT xs).bind f)) λm=>.ok (true,m)):=by
  intro f d hf v hv;refine ah (R:=λxs h' ws=>ao A h' xs ws) (bW λxs e=>hv.seq e) λxs h1 ws q1 q=>?_;have:bh ((aT ws).bind f) h1=bnd (bh ((aT ws).bind f)) (λm=>ret m) h1:=by unfold bnd bh;cases (aT ws).bind f<;>rfl
  rw[this];refine ah (R:=λm _ m'=>m'=m/\∃i,m=.int i) (bg λm e=>?_) λm h2 m' _ hm=>?_
  ·obtain⟨ns,e1,e2⟩:=bind_eq_some_iff.mp e;rw[Gy q e1];exact⟨m,e,rfl,hf ns m e2⟩
  ·obtain⟨rfl,i,rfl⟩:=hm;exact az iL
 have hmin:∀ns m,tG ns=some m->∃i,m=Val.int i:=λns m e=>by cases ns<;>simp[tG] at e;exact⟨_,e.symm⟩
 have Si:∀ns m,tH ns=some m->∃i,m=Val.int i:=λns m e=>by cases ns<;>simp[tH] at e;exact⟨_,e.symm⟩
 match ds,a with
 | [],a=>cases b<;>trivial
 | [d],a =>
  obtain⟨v,rfl,hv⟩:=a.one;cases b with
  | len =>exact ah (R:=λn _ m=>m=n) (bW λn e=>⟨n,Lf hv e,rfl⟩) λn h1 m _ e=>by subst e;exact az iL
  | min =>
   have e1:iJ .min [d]=pb (pl (dD [] d)) λxs=>pb (pl ((aT xs).bind tG)) λm=>.ok (true,m):=by cases d<;>rfl
   have e2:blt .min [v]=bnd (ask λh=>dD h v) λxs=>bh ((aT xs).bind tG):=by cases v<;>rfl
   rw[e1,e2];exact mm tG d hmin v hv
  | max =>
   have e1:iJ .max [d]=pb (pl (dD [] d)) λxs=>pb (pl ((aT xs).bind tH)) λm=>.ok (true,m):=by cases d<;>rfl
   have e2:blt .max [v]=bnd (ask λh=>dD h v) λxs=>bh ((aT xs).bind tH):=by cases v<;>rfl
   rw[e1,e2];exact mm tH d Si v hv
  | sorted =>
   cases d<;>first|trivial|skip
   rename_i xs;obtain⟨ws,e1,q⟩:=hv.lst;have ev:bnd (ask λh=>aD h v) (λxs=>bnd (bh (fU xs)) λys=>new (.lst ys)) h=bnd (bh (fU ws)) (λys=>new (.lst ys)) h:=by unfold bnd ask bh;dsimp only;rw[e1]
   show Rel A h (RV A h0) (bnd (ask λh=>aD h v) (λxs=>bnd (bh (fU xs)) λys=>new (.lst ys)) h) _;rw[ev];refine ah (R:=λys _ zs=>zs=ys/\bw ys=true) (bg λys e=>?_) λys h1 zs q1 hz=>?_
   ·obtain⟨i1,i2⟩:=sy e;rw[(aS xs ws i1).mp q];exact⟨ys,e,rfl,i2⟩
   ·obtain⟨rfl,hi⟩:=hz;exact fQ (u.ext q1) (p.trans q1) ((aS _ _ hi).mpr rfl) λ_=>(aS _ _ hi).mpr rfl
  | list =>refine ah (R:=λxs h' ws=>ao A h' xs ws) (bW λxs e=>hv.seq e) λxs h1 ws q1 q=>?_;exact fQ (u.ext q1) (p.trans q1) q λhi=>f6 q hi
  | tuple=>trivial
  | str=>trivial
  | int =>
   cases d<;>first|trivial|skip
   ·have:=hv.bl;subst this;exact az iL
   ·have:=hv.int;subst this;exact az iL
  | all=>trivial
  | any=>trivial
  | isin T =>refine ah (R:=λn _ m=>m=n) (bW λn e=>⟨n,Oo hv e,rfl⟩) λn h1 m _ e=>?_;subst e;exact ah (R:=λn _ m=>m=n) (bg λn e=>⟨n,e,rfl⟩) λn h1 m _ e=>by subst e;exact az qf
 | [d,e],a =>
  obtain⟨v,r,rfl,hv,hr⟩:=a;obtain⟨w,rfl,hw⟩:=Gu.one hr;cases b<;>first|trivial|(cases d<;>trivial)|skip
  ·cases d<;>cases e<;>first|trivial|skip
   have:=hv.int;subst this;have:=hw.int;subst this;exact az iL
  ·cases d<;>cases e<;>first|trivial|skip
   have:=hv.int;subst this;have:=hw.int;subst this;exact az iL
 | x::y::z::t,a=>cases b<;>first|trivial|(cases x<;>trivial)|(cases x<;>cases y<;>trivial)
end
end Hv
end
section
namespace Hv
open PySem L2
noncomputable def Imp(φ:List Val->M Val)(ψ:List Val->Pr FV):Prop:=∀(A:AP) (h:Hs) (ds vs:List Val),Up A h->ao A h ds vs->Rel A h (RV A h) (φ vs h) (ψ ds)
section
variable {Φ:Nat->List Val->M Val} {Ψ:Nat->List Val->Pr FV} {A:AP} {h h1:Hs}
theorem iX{x y:Bool}(f:(x&&y)=true):x=true/\y=true:=Bool.and_eq_true_iff.mp f
theorem tX{x y z:Bool}(f:(x&&y&&z)=true):(x=true/\y=true)/\z=true:=⟨iX (iX f).1,(iX f).2⟩
noncomputable def bN(Φ:Nat->List Val->M Val)(Ψ:Nat->List Val->Pr FV)(ir:IE):Prop:=∀(aa:aR) (env:Env) (A:AP) (h:Hs),Up A h->ER A aa env h->Rel A h (RV A h) (aF Φ ir env h) (aX Ψ ir aa)
noncomputable def kQ(Φ:Nat->List Val->M Val)(Ψ:Nat->List Val->Pr FV)(eV:nV):Prop:=(∀(aa:aR) (env:Env) (A:AP) (h:Hs),Up A h->ER A aa env h->Rel A h (XD A h) (aU Φ eV env h) (qW Ψ eV aa)) /\
 ∀(aa:aR) (env:Env) (A:AP) (h:Hs),Up A h->ER A aa env h->Rel A h (λds h' vs=>Gu A h' ds vs) (aU Φ eV env h) (gQ Ψ eV aa)
theorem RV.up{h0 h':Hs}(p:h0<+:h)(r:RV A h x h' v):RV A h0 x h' v:=⟨r.1,λf=>(r.2 f).fZ (Fr.le p.length_le)⟩
theorem CB{h0:Hs}(p:h0<+:h)(r:Rel A h (RV A h) o x):Rel A h (RV A h0) o x:=vH r λ_ _ _ _ q=>q.up p
theorem Oq{i:Nat}(e:ER A aa env h):Rel A h (Sh A) (aF Φ (.var i) env h) (pl (gP aa (.var i))):=by
 rw[aF];refine bg λx hx=>?_;simp only[gP] at hx;split at hx
 ·rename_i f d hd
  cases hx;have:=e i f d hd;revert this;generalize qV f=t;intro this;cases t with
  | false =>rw[if_pos rfl] at this;obtain⟨a,k2,k3⟩:=this;exact⟨.ref a,by rw[k2],.inr ⟨a,rfl,k3⟩⟩
  | true =>rw[if_neg (by decide)] at this;obtain⟨v,k1,k2⟩:=this;exact⟨v,by rw[k1],.inl k2⟩
 ·cases hx
theorem kR(o:bN Φ Ψ ir)(u:Up A h)(e:ER A aa env h):Rel A h (Sh A) (aF Φ ir env h) (if isVar ir=true then pl (gP aa ir) else aX Ψ ir aa):=by
 by_cases hv:isVar ir=true
 ·rw[if_pos hv];cases ir<;>first|(cases hv;done)|exact Oq e
 ·rw[if_neg hv];exact vH (o aa env A h u e) λ_ _ _ _ q=>q.br
theorem GA{α β:Type}{R:α -> Hs -> β -> Prop}{c:Bool}{o:Out β}{p:Pr α}(r:c=true->Rel A h R o p):Rel A h R o (pg c p):=by
 unfold pg;cases c with
 | true=>rw[if_pos rfl];exact r rfl
 | false=>rw[if_neg Bool.false_ne_true];trivial
theorem v_var{i:Nat}:bN Φ Ψ (.var i):=λaa env A h u e=>by
 rw[aF,aX];cases hv:aa[i]? with
 | none=>trivial
 | some o =>
  cases o with
  | none=>trivial
  | some fd =>
   obtain⟨f,d⟩:=fd;refine GA λhf=>?_
   ·have:=e i f d hv;rw[if_neg (by simp[hf])] at this;obtain⟨v,k1,k2⟩:=this;rw[k1];exact⟨v,h,rfl,prefix_refl _,lE k2⟩
theorem y9{α:Type}{f:Hs->Option α}:ask f h=bnd (ask f) (λz=>ret z) h:=by unfold bnd ask bh;cases f h<;>rfl
theorem za(f:jw d=true):Dn A h d d:=(iK d d f).mpr rfl
theorem Ot(f:jw d=true):bN Φ Ψ (.cst d):=λaa env A h u e=>by rw[aF,aX];exact az (lE (za f))
theorem Ou(f:jw d=true):bN Φ Ψ (.con x d):=λaa env A h u e=>by rw[aF,aX];exact az (lE (za f))
theorem Sj:bN Φ Ψ .no:=λaa env A h u e=>by rw[aX];trivial
theorem Ov(ha:bN Φ Ψ a)(hb:bN Φ Ψ b):bN Φ Ψ (.bin o a b):=λaa env A h u e=>by
 rw[aF,aX];exact ah (kR ha u e) λx h1 v p1 q1=>ah (kR hb (u.ext p1) (e.ext p1)) λy h2 w p2 q2=>yZ ((u.ext p1).ext p2) (p1.trans p2) (DB.ext p2 q1) q2
theorem Ow(ha:bN Φ Ψ a):bN Φ Ψ (.neg a):=λaa env A h u e=>by
 rw[aF,aX];refine ah (ha aa env A h u e) λx h1 v p1 q1=>?_;obtain⟨f,d⟩:=x;have q:=q1.1;cases d<;>dsimp only<;>first|trivial|skip
 dsimp only at q;rw[Dn] at q;subst q;exact az iL
theorem Ox(ha:bN Φ Ψ a)(hb:bN Φ Ψ b):bN Φ Ψ (.cmp o a b):=λaa env A h u e=>by
 rw[aF,aX];exact ah (kR ha u e) λx h1 v p1 q1=>ah (kR hb (u.ext p1) (e.ext p1)) λy h2 w p2 q2 =>
  ah (R:=λt _ t'=>t'=t) (bW λt et=>⟨t,Le (DB.ext p2 q1) q2 et,rfl⟩) λt h3 t' p3 et=>by subst et;exact az qf
theorem Oz(ha:bN Φ Ψ a)(hb:bN Φ Ψ b)(hc:bN Φ Ψ c):bN Φ Ψ (.chn o o' a b c):=λaa env A h u e=>by rw[aX];trivial
theorem j5(q:Dn A h d v):Rel A h (λt _ t'=>t'=t) (pR v h) (nX d):=by
 cases d<;>first|trivial|skip
 rw[Dn] at q;subst q;exact az rfl
theorem v_and(ha:bN Φ Ψ a)(hb:bN Φ Ψ b):bN Φ Ψ (.and a b):=λaa env A h u e=>by
 rw[aF,aX];refine ah (ha aa env A h u e) λx h1 v p1 q1=>ah (j5 q1.1) λt h2 t' p2 et=>?_;subst et;cases t' with
 | true =>rw[if_pos rfl,if_pos rfl];exact ah (hb aa env A h2 ((u.ext p1).ext p2) ((e.ext p1).ext p2)) λy h3 w p3 q3=>ah (j5 q3.1) λt h2 t' p2 et=>by subst et;exact az qf
 | false =>rw[if_neg Bool.false_ne_true,if_neg Bool.false_ne_true];exact az qf
theorem v_or(ha:bN Φ Ψ a)(hb:bN Φ Ψ b):bN Φ Ψ (.or a b):=λaa env A h u e=>by
 rw[aF,aX];refine ah (ha aa env A h u e) λx h1 v p1 q1=>ah (j5 q1.1) λt h2 t' p2 et=>?_;subst et;cases t' with
 | false =>rw[if_neg Bool.false_ne_true,if_neg Bool.false_ne_true];exact ah (hb aa env A h2 ((u.ext p1).ext p2) ((e.ext p1).ext p2)) λy h3 w p3 q3=>ah (j5 q3.1) λt h2 t' p2 et=>by subst et;exact az qf
 | true =>rw[if_pos rfl,if_pos rfl];exact az qf
theorem v_not(ha:bN Φ Ψ a):bN Φ Ψ (.not a):=λaa env A h u e=>by
 rw[aF,aX];exact ah (ha aa env A h u e) λx h1 v p1 q1=>ah (j5 q1.1) λt h2 t' p2 et=>by subst et;exact az qf
theorem v_ite(hc:bN Φ Ψ c)(ha:bN Φ Ψ a)(hb:bN Φ Ψ b):bN Φ Ψ (.ite c a b):=λaa env A h u e=>by rw[aX];trivial
theorem Ib:kQ Φ Ψ .nil:=⟨λaa env A h u e=>by rw[aU,qW];exact az ⟨ao.nil,λ_=>ao.nil⟩,λaa env A h u e=>by rw[aU,gQ];exact az rfl⟩
theorem CC(he:bN Φ Ψ e)(hs:kQ Φ Ψ es):kQ Φ Ψ (.cons e es):=by
 refine⟨λaa env A h u er=>?_,λaa env A h u er=>?_⟩
 ·rw[aU,qW]
  refine ah (he aa env A h u er) λx h1 v p1 q1=>ah (hs.1 aa env A h1 (u.ext p1) (er.ext p1)) λy h2 vs p2 q2=>?_;refine az ⟨ao.cons (q1.1.ext p2) q2.1,λhf=>?_⟩;have hf':x.1=true/\y.1=true:=by simpa using hf
  exact ao.cons ((q1.2 hf'.1).ext p2) ((q2.2 hf'.2).fZ (Fr.le p1.length_le))
 ·rw[aU,gQ];refine ah (kR he u er) λx h1 v p1 q1=>ah (hs.2 aa env A h1 (u.ext p1) (er.ext p1)) λy h2 vs p2 q2=>?_;exact az ⟨v,vs,rfl,DB.ext p2 q1,q2⟩
theorem OA(hs:kQ Φ Ψ es):bN Φ Ψ (.tup es):=λaa env A h u e=>by
 rw[aF,aX];refine ah (hs.1 aa env A h u e) λx h1 vs p1 q1=>bL (λz=>by rw[<-q1.1.length];exact z) λ_=>az ⟨?_,λhf=>?_⟩
 ·show Dn A h1 (.tup _) _;rw[Dn];exact⟨vs,rfl,q1.1⟩
 ·show Dn _ h1 (.tup _) _;rw[Dn];exact⟨vs,rfl,q1.2 hf⟩
theorem Lm:bN Φ Ψ .dct0:=λaa env A h u e=>by
 rw[aF,aX];refine⟨_,_,rfl,dS _,?_,λhf=>?_⟩
 ·show Dn A _ (.dc [] []) _;rw[Dn];exact⟨_,[],rfl,u _ (Nat.le_refl _),iW _,rfl,ao.nil⟩
 ·show Dn _ _ (.dc [] []) _;rw[Dn];exact⟨_,[],rfl,Nat.le_refl _,iW _,rfl,ao.nil⟩
theorem Lo(hk:bN Φ Ψ k)(hv:bN Φ Ψ v):bN Φ Ψ (.dct1 k v):=λaa env A h u e=>by
 rw[aF,aX];refine ah (hk aa env A h u e) λx h1 w p1 q1=>ah (R:=λkk _ kk'=>kk'=kk) (bg λkk ek=>⟨kk,xX q1.1 ek,rfl⟩) λkk h2 kk' p2 hkk=>?_;subst hkk;refine ah (hv aa env A h2 ((u.ext p1).ext p2) ((e.ext p1).ext p2)) λy h3 z p3 q3=>?_;have p:=(p1.trans p2).trans p3;refine⟨_,_,rfl,dS _,?_,λhf=>?_⟩
 ·show Dn A _ (.dc [kk'] [y.2]) _;rw[Dn];exact⟨_,[(kk',z)],rfl,u _ p.length_le,iW _,rfl,ao.cons (q3.1.ext (dS _)) ao.nil⟩
 ·show Dn _ _ (.dc [kk'] [y.2]) _;rw[Dn];exact⟨_,[(kk',z)],rfl,p.length_le,iW _,rfl,ao.cons (((q3.2 hf).fZ (Fr.le (p1.trans p2).length_le)).ext (dS _)) ao.nil⟩
theorem Lp(hd:bN Φ Ψ d)(hk:bN Φ Ψ k)(hx:bN Φ Ψ x):bN Φ Ψ (.dget d k x):=λaa env A h u e=>by
 rw[aF,aX];refine ah (kR hd u e) λo h1 v p1 q1=>ah (R:=λ_ _ _=>True) (bW λt et=>⟨t,Gs q1 et,trivial⟩) λ_ h2 _ p2 _=>?_;refine ah (hk aa env A h2 ((u.ext p1).ext p2) ((e.ext p1).ext p2)) λi h3 w p3 q3=>ah (R:=λkk _ kk'=>kk'=kk) (bg λkk ek=>⟨kk,xX q3.1 ek,rfl⟩) λkk h4 kk' p4 hkk=>?_;subst hkk;have VM:=((p1.trans p2).trans p3).trans p4;refine ah (hx aa env A h4 (u.ext VM) (e.ext VM)) λz h5 z' p5 q5=>?_;refine ah (R:=λr h' r'=>∀a b,Dn A h5 a b->Dn A h' (r.getD a) (r'.getD b)) (bW λr er=>?_) λr h6 r' p6 hr=>az (lE (hr _ _ q5.1));obtain⟨r',e1,e2⟩:=Lg (DB.ext ((p2.trans p3).trans (p4.trans p5)) q1) er;exact⟨r',e1,e2⟩
theorem GB(hd:bN Φ Ψ d):bN Φ Ψ (.lkeys d):=λaa env A h u e=>by
 rw[aF,aX];refine ah (kR hd u e) λo h1 v p1 q1=>ah (R:=λks _ ks'=>ks'=ks) (bW λks ek=>⟨ks,vG q1 ek,rfl⟩) λks h2 ks' p2 hk=>?_;subst hk;exact fQ ((u.ext p1).ext p2) (p1.trans p2) ((aS _ _ (mw ks')).mpr rfl) λ_=>(aS _ _ (mw ks')).mpr rfl
theorem GC(hd:bN Φ Ψ d):bN Φ Ψ (.skeys d):=λaa env A h u e=>by
 rw[aF,aX];refine ah (kR hd u e) λo h1 v p1 q1=>ah (R:=λns _ ns'=>ns'=ns) (bW λns en=>⟨ns,?_,rfl⟩) λns h2 ns' p2 hk=>?_
 ·unfold lC at en |-;obtain⟨ks,e1,e2⟩:=bind_eq_some_iff.mp en;rw[vG q1 e1];exact e2
 ·subst hk;exact fQ ((u.ext p1).ext p2) (p1.trans p2) ((aS _ _ (bJ ns')).mpr rfl) λ_=>(aS _ _ (bJ ns')).mpr rfl
theorem vJ:∀{xs:List Val} {ns:List Int},aT xs=some ns->xs=ns.map .int
 | [],ns,e=>by cases e;rfl
 | x::xs,ns,e=>by
  unfold aT at e;rw[cD] at e;obtain⟨i,e1,e⟩:=bind_eq_some_iff.mp e;obtain⟨r,e2,e⟩:=bind_eq_some_iff.mp e;cases e;cases x<;>simp at e1;subst e1;rw[vJ e2];rfl
theorem Lq{p q:Nat}(hd:bN Φ Ψ d)(hw:bN Φ Ψ w):bN Φ Ψ (.dflt N' js p q d w):=λaa env A h u e=>by rw[aX];trivial
theorem OC(ha:bN Φ Ψ a):bN Φ Ψ (.isc a x bs):=λaa env A h u e=>by
 rw[aF,aX];refine ah (kR ha u e) λo h1 v p1 q1=>ah (R:=λb _ b'=>b'=b) (bW λb eb=>⟨b,Lk q1 eb,rfl⟩) λb h2 b' p2 hb=>?_;subst hb;exact az (lE (d:=.bl b') (by rw[Dn]))
theorem Lr(ha:bN Φ Ψ a):bN Φ Ψ (.sset a):=λaa env A h u e=>by
 rw[aF,aX];refine ah (kR ha u e) λx h1 v p1 q1=>?_;obtain⟨f,d⟩:=x;cases d<;>first|trivial|skip
 rename_i xs;obtain⟨vs,e1,e2⟩:=DB.lst q1;have ea:∀(F:List Val->M Val),bnd (ask λh=>aD h v) F h1=F vs h1:=λF=>by unfold bnd ask bh;dsimp only;rw[e1]
 rw[ea];show Rel A h1 _ _ (pb (pl (aT xs)) _);refine ah (R:=λns h' ns'=>ns'=ns) (bg λns en=>⟨ns,?_,rfl⟩) λns h2 ns' p2 en=>?_
 ·have ei:=vJ en;subst ei;rw[(aS _ _ (bJ ns)).mp e2];exact en
 ·subst en;refine bL (λz=>z) λ_=>?_;have hi:∀ms:List Int,ao A h2 (ms.map Val.int) (ms.map Val.int):=λms=>(aS _ _ (bJ ms)).mpr rfl;exact fQ ((u.ext p1).ext p2) (p1.trans p2) (hi _) λ_=>(aS _ _ (bJ _)).mpr rfl
theorem OE(hs:kQ Φ Ψ es):bN Φ Ψ (.lst es):=λaa env A h u e=>by
 rw[aF,aX];exact ah (hs.1 aa env A h u e) λx h1 vs p1 q1=>bL (λz=>by rw[<-q1.1.length];exact z) λ_=>fQ (u.ext p1) p1 q1.1 q1.2
theorem OF(ha:bN Φ Ψ a)(hb:bN Φ Ψ b):bN Φ Ψ (.idx a b):=λaa env A h u e=>by
 rw[aF,aX];refine ah (kR ha u e) λx h1 v p1 q1=>ah (hb aa env A h1 (u.ext p1) (e.ext p1)) λy h2 w p2 q2=>?_;rw[y9];exact ah (R:=λz h' z'=>Dn A h' z z') (bW λz ez=>Lh (DB.ext p2 q1) q2.1 ez) λz h3 z' p3 q3=>az (lE q3)
theorem j6(o:bN Φ Ψ ir)(u:Up A h)(e:ER A aa env h) :
  Rel A h (λ(t:Option Int) _ t'=>t'=t) ((if cQ ir=true then ret none else bnd (aF Φ ir env) λv=>bnd (bh (gJ v)) λi=>ret (some i)) h) (if cQ ir=true then .ok none else pb (aX Ψ ir aa) λv=>pb (pl (gJ v.2)) λi=>.ok (some i)):=by
 by_cases hn:cQ ir=true
 ·rw[if_pos hn,if_pos hn];exact az rfl
 ·rw[if_neg hn,if_neg hn]
  refine ah (o aa env A h u e) λx h1 v p1 q1=>ah (R:=λt _ t'=>t'=t) (bg λi ei=>?_) λt h2 t' p2 et=>by subst et;exact az rfl
  obtain⟨f,d⟩:=x;have q:=q1.1;cases d<;>first|(cases ei;done)|skip
  dsimp only at q;rw[Dn] at q;subst q;exact⟨i,ei,rfl⟩
theorem OG(ha:bN Φ Ψ a)(hl:bN Φ Ψ lo)(hh:bN Φ Ψ hi):bN Φ Ψ (.slc a lo hi):=λaa env A h u e=>by
 rw[aF,aX];refine ah (kR ha u e) λx h1 v p1 q1=>ah (j6 hl (u.ext p1) (e.ext p1)) λl h2 l' p2 el=>ah (j6 hh ((u.ext p1).ext p2) ((e.ext p1).ext p2)) λr h3 r' p3 er=>?_;subst el;subst er;exact Gx (((u.ext p1).ext p2).ext p3) ((p1.trans p2).trans p3) (DB.ext (p2.trans p3) q1)
theorem OH(ha:bN Φ Ψ a)(hs:bN Φ Ψ sx):bN Φ Ψ (.rev a sx):=λaa env A h u e=>by
 rw[aF,aX];refine ah (kR ha u e) λx h1 v p1 q1=>ah (j6 hs (u.ext p1) (e.ext p1)) λl h2 l' p2 el=>?_;subst el;refine bL (λz=>z) λ_=>?_;obtain⟨f,d⟩:=x;cases d with
 | rl ds =>
  obtain⟨vs,e1,q⟩:=DB.lst (DB.ext p2 q1);have ev:bnd (ask λh=>aD h v) (λxs=>new (.lst xs.reverse)) h2=new (.lst vs.reverse) h2:=by unfold bnd ask bh;dsimp only;rw[e1]
  rw[ev];exact fQ ((u.ext p1).ext p2) (p1.trans p2) (ao.rev q) λhh=>f6 (ao.rev q) hh
 | _=>trivial
theorem Lu{j:Nat}(hΦ:∀j,Imp (Φ j) (Ψ j))(hs:kQ Φ Ψ es):bN Φ Ψ (.call j es):=λaa env A h u e=>by
 rw[aF,aX];exact ah (hs.1 aa env A h u e) λx h1 vs p1 q1=>CB p1 (hΦ j A h1 x.2 vs (u.ext p1) q1.1)
theorem OI{n:Nat}(ha:bN Φ Ψ a):bN Φ Ψ (.fld n a x):=λaa env A h u e=>by
 rw[aF,aX];refine ah (kR ha u e) λo h1 v p1 q1=>?_;rw[y9];exact ah (R:=λz h' z'=>Dn A h' z z') (bW λz ez=>Li q1 ez) λz h3 z' p3 q3=>az (lE q3)
theorem OJ(hΦ:∀j,Imp (Φ j) (Ψ j))(ha:bN Φ Ψ a)(hs:kQ Φ Ψ es):bN Φ Ψ (.mth a m js es):=λaa env A h u e=>by
 rw[aF,aX];refine ah (ha aa env A h u e) λo h1 v p1 q1=>ah (R:=λj _ j'=>j'=j) (bW λj ej=>⟨j,Lj (.inl q1.1) ej,rfl⟩) λj h2 j' p2 hj=>?_;subst hj;exact ah (hs.1 aa env A h2 ((u.ext p1).ext p2) ((e.ext p1).ext p2)) λx h3 vs p3 q3=>CB ((p1.trans p2).trans p3) (hΦ j' A h3 (o.2::x.2) (v::vs) (((u.ext p1).ext p2).ext p3) (ao.cons (q1.1.ext (p2.trans p3)) q3.1))
theorem OL(hs:kQ Φ Ψ es):bN Φ Ψ (.blt b es):=λaa env A h u e=>by
 rw[aF,aX];exact ah (hs.2 aa env A h u e) λx h1 vs p1 q1=>Gz (u.ext p1) p1 q1
theorem OM(ha:bN Φ Ψ a)(hs:kQ Φ Ψ es):bN Φ Ψ (.met m a es):=λaa env A h u e=>by
 cases m with
 | join=>rw[aX];trivial
 | append=>rw[aX]<;>first|trivial|(intro z;cases z)
 | extend=>rw[aX]<;>first|trivial|(intro z;cases z)
noncomputable def SrcR(A:AP)(h:Hs)(xs:List Val)(src:Src):Prop:=∃ws,ao A h xs ws/\∀h',h<+:h'->src.items h'=some ws
theorem iY{lo:Int}{n:Nat}:ao A h (cu lo n) (cu lo n):=by
 unfold cu;generalize List.range n=l
 induction l with
 | nil=>exact ao.nil
 | cons a l ih=>exact ao.cons (by rw[Dn]) ih
theorem f7:∀{xs ws:List Val} (i:Nat),ao A h xs ws->ao A h (cT i xs) (cT i ws)
 | [],ws,i,q=>by rw[ao] at q;subst q;exact ao.nil
 | x::xs,ws,i,q=>by
  rw[ao] at q;obtain⟨w,r,rfl,a,b⟩:=q;exact ao.cons (by rw[Dn];exact⟨_,rfl,ao.cons (by rw[Dn]) (ao.cons a ao.nil)⟩) (f7 (i+1) b)
theorem zb{ds vs:List Val}(a:DB A h (.rl ds) v):∃ws,ao A h ds ws/\((v=.rl ws)\/∃i,v=.ref i/\∀h',h<+:h'->aD h' (.ref i)=some ws):=by
 rcases a with a|⟨i,rfl,vs,g,q⟩
 ·rw[Dn] at a
  rcases a with ⟨vs,rfl,_,q⟩|⟨i,vs,rfl,_,g,q⟩
  ·exact⟨vs,q,.inl rfl⟩
  ·exact⟨vs,q,.inr ⟨i,rfl,λh' p=>by simp[aD,bU p g]⟩⟩
 ·exact⟨vs,q,.inr ⟨i,rfl,λh' p=>by simp[aD,bU p g]⟩⟩
theorem zc(a:Gu A h ds vs):Rel A h (λxs h' src=>SrcR A h' xs src) (bh (srcOf k vs) h) (pl (Cv k ds)):=by
 refine bg λxs e=>?_;cases k with
 | seq =>
  match ds,e with
  | [.tup es],e =>cases e;obtain⟨v,rfl,hv⟩:=a.one;obtain⟨ws,rfl,q⟩:=hv.tup;exact⟨.fix ws,rfl,ws,q,λ_ _=>rfl⟩
  | [.rl es],e =>
   cases e;obtain⟨v,rfl,hv⟩:=a.one;obtain⟨ws,q,rfl|⟨i,rfl,g⟩⟩:=zb (vs:=[]) hv
   ·exact⟨.fix ws,rfl,ws,q,λ_ _=>rfl⟩
   ·exact⟨.live i,rfl,ws,q,λh' p=>g h' p⟩
 | range =>
  match ds,e with
  | [.int n],e =>
   obtain⟨v,rfl,hv⟩:=a.one;have:=hv.int;subst this;change (if inR n=true then some (cu 0 n.toNat) else none)=some _ at e;split at e
   ·rename_i hn;cases e;exact⟨.fix _,if_pos hn,_,iY,λ_ _=>rfl⟩
   ·cases e
  | [.int n,.int m],e =>
   obtain⟨v,r,rfl,hv,hr⟩:=a;obtain⟨w,rfl,hw⟩:=Gu.one hr;have:=hv.int;subst this;have:=hw.int;subst this;change (if (inR n&&inR m)=true then some (cu n (m-n).toNat) else none)=some _ at e;split at e
   ·rename_i hn;cases e;exact⟨.fix _,if_pos hn,_,iY,λ_ _=>rfl⟩
   ·cases e
 | enum =>
  match ds,e with
  | [.rl es],e =>
   cases e;obtain⟨v,rfl,hv⟩:=a.one;obtain⟨ws,q,rfl|⟨i,rfl,g⟩⟩:=zb (vs:=[]) hv
   ·exact⟨.fix _,rfl,_,f7 0 q,λ_ _=>rfl⟩
   ·exact⟨.enum i,rfl,_,f7 0 q,λh' p=>by simp[Src.items,g h' p]⟩
 | zip=>cases e
theorem zd:∀{is:List Nat} {ds vs:List Val} {aa av:aR} {env:Env},bB is ds aa=some av->ao A h ds vs->ER A aa env h->(∀i∈is,i<aa.length->i<env.length)->∃env',bindAll is vs env=some env'/\ER A av env' h
 | [],[],vs,aa,av,env,e,q,er,_=>by
  rw[ao] at q;subst q;simp only[bB] at e;cases e;exact⟨env,rfl,er⟩
 | i::is,d::ds,vs,aa,av,env,e,q,er,hl=>by
  rw[ao] at q;obtain⟨v,r,rfl,q1,q2⟩:=q;simp only[bB] at e;have Sk:ER A (aa.set i (some (.sh,d))) (env.set i (some v)) h:=λj f d' hj=>by
   by_cases hij:i=j
   ·subst hij
    have hi:i<aa.length:=by have:=(List.getElem?_eq_some_iff.mp hj).1;simpa using this
    rw[getElem?_set_self hi] at hj;cases hj;rw[if_neg (by decide)];exact⟨v,by rw[getElem?_set_self (hl i mem_cons_self hi)],q1⟩
   ·rw[getElem?_set_ne hij] at hj;rw[getElem?_set_ne hij];exact er j f d' hj
  simp only[bindAll];exact zd e q2 Sk λj hj hl'=>by simpa using hl j (mem_cons_of_mem _ hj) (by simpa using hl')
 | [],_::_,_,_,_,_,e,_,_,_=>by simp[bB] at e
 | _::_,[],_,_,_,_,e,_,_,_=>by simp[bB] at e
theorem vK(e:cA p d aa=some av)(q:Dn A h d v)(er:ER A aa env h)(hl:aa.length<=env.length):∃env',fV p v env=some env'/\ER A av env' h:=by
 cases p with
 | one i =>
  simp only[cA] at e;cases e;refine⟨_,rfl,λj f d' hj=>?_⟩
  by_cases hij:i=j
  ·subst hij
   have hi:i<aa.length:=by have:=(List.getElem?_eq_some_iff.mp hj).1;simpa using this
   rw[getElem?_set_self hi] at hj;cases hj;rw[if_neg (by decide)];exact⟨v,by rw[getElem?_set_self (by omega)],q⟩
  ·rw[getElem?_set_ne hij] at hj;rw[getElem?_set_ne hij];exact er j f d' hj
 | tup is =>
  cases d<;>simp only[cA] at e<;>first|(cases e;done)|skip
  rw[Dn] at q;obtain⟨vs,rfl,q⟩:=q;exact zd e q er λi _ hi=>by omega
theorem ze(e:ER A aa env h):ER A (iU js aa) (jW js env) h:=λi f d q=>by
 unfold iU at q;rw[getElem?_map] at q;cases hj:js[i]? with
 | none=>rw[hj] at q;cases q
 | some o =>
  rw[hj] at q;simp only[map_some] at q;cases o with
  | none=>cases q
  | some j =>
   dsimp only at q;cases ej:aa[j]? with
   | none=>rw[ej] at q;cases q
   | some w =>
    cases w with
    | none=>rw[ej] at q;cases q
    | some fd =>
     rw[ej] at q;cases q;have:=e j f d ej;revert this;generalize qV f=t;intro this;cases t with
     | false =>rw[if_pos rfl] at this |-;obtain⟨a,k2,k3⟩:=this;refine⟨a,?_,k3⟩;unfold jW;rw[getElem?_map,hj];simp only[map_some];rw[k2]
     | true =>rw[if_neg (by decide)] at this |-;obtain⟨v,k1,k2⟩:=this;refine⟨v,?_,k2⟩;unfold jW;rw[getElem?_map,hj];simp only[map_some];rw[k1]
theorem qh :
  ∀(xs:List Val) (vs:List Val) (i:Nat) (acc:List Val) (h:Hs),hb<+:h->Up A h->(∀h',h<+:h'->src.items h'=some ws)->ws.drop i=vs->ao A h xs vs ->
   (∀x v h',h<+:h'->Dn A h' x v->Rel A h' (λo h'' o'=>match o,o' with|some e,some e'=>RV A hb e h'' e'|none,none=>True|_,_=>False) (f v h') (g x)) ->
   Rel A h (λp h' ys=>∃zs,ys=acc++zs/\ao A h' p.2 zs/\(p.1=true->ao (Fr hb.length) h' p.2 zs)) (fW src f vs.length i acc h) (jG g xs)
 | [],vs,i,acc,h,VN,u,hi,hd,q,hf=>by
  rw[ao] at q;subst q;have hl:ws.length<=i:=List.drop_eq_nil_iff.mp hd;have ev:fW src f ([]:List Val).length i acc h=.ok acc h:=by show fW src f 0 i acc h=_;simp only[fW];unfold bnd ask bh aC;dsimp only;rw[hi h (prefix_refl _)];dsimp only;rw[if_pos (decide_eq_true hl)];rfl
  rw[ev,jG];exact⟨acc,h,rfl,prefix_refl _,[],by simp,ao.nil,λ_=>ao.nil⟩
 | x::xs,vs,i,acc,h,VN,u,hi,hd,q,hf=>by
  rw[ao] at q;obtain⟨v,r,rfl,q1,q2⟩:=q;have hv:ws[i]?=some v:=by have:=congrArg (λl=>l[0]?) hd;simpa using this
  have hr:ws.drop (i+1)=r:=by
   have:ws.drop (i+1)=(ws.drop i).drop 1:=by rw[drop_drop]
   rw[this,hd];rfl
  have ev:fW src f (v::r).length i acc h=bnd (f v) (λo=>fW src f r.length (i+1) (match o with|some e=>acc++[e]|none=>acc)) h:=by show fW src f (r.length+1) i acc h=_;simp only[fW];unfold bnd ask bh;dsimp only;rw[hi h (prefix_refl _)];dsimp only;rw[hv];try rfl
  rw[ev,jG];refine ah (hf x v h (prefix_refl _) q1) λo h1 o' p1 ho=>?_;have ih:=λacc'=>qh xs r (i+1) acc' h1 (VN.trans p1) (u.ext p1) (λh' p=>hi h' (p1.trans p)) hr (q2.ext p1) λx v h' p=>hf x v h' (p1.trans p);cases o' with
  | some e' =>
   cases o with
   | none=>exact ho.elim
   | some e =>
    have ih:=ih (acc++[e']);cases e2:jG g xs with
    | ok p =>
     rw[e2] at ih;obtain⟨ys,h2,e3,p2,zs,rfl,z1,z2⟩:=ih;refine⟨_,h2,e3,p2,e'::zs,by simp,ao.cons (ho.1.ext p2) z1,λhp=>?_⟩;have VO:e.1=true/\p.1=true:=by simpa using hp
     exact ao.cons ((ho.2 VO.1).ext p2) (z2 VO.2)
    | exc c es=>rw[e2] at ih;exact ih
    | no=>trivial
  | none =>
   cases o with
   | some e'=>exact ho.elim
   | none =>
    have ih:=ih acc;cases e2:jG g xs with
    | ok p =>rw[e2] at ih;obtain⟨ys,h2,e3,p2,zs,rfl,z1,z2⟩:=ih;exact⟨_,h2,e3,p2,zs,rfl,z1,z2⟩
    | exc c es=>rw[e2] at ih;exact ih
    | no=>trivial
theorem Lv(hs:kQ Φ Ψ it)(hc:bN Φ Ψ c)(he:bN Φ Ψ elt):bN Φ Ψ (.comp N js pat k it c elt):=λaa env A h u e=>by
 rw[aF,aX];refine ah (hs.2 aa env A h u e) λds h1 vs p1 q1=>ah (zc q1) λxs h2 src p2 q2=>?_;obtain⟨ws,q3,q4⟩:=q2;have l:=q3.length;have ev:∀(F:List Val->M Val),bnd (ask λh=>src.items h) F h2=F ws h2:=λF=>by unfold bnd ask bh;dsimp only;rw[q4 h2 (prefix_refl _)]
 rw[ev];refine bL (λz=>by rw[<-l];exact z) λ_=>?_;have u2:=(u.ext p1).ext p2;have e2:=(e.ext p1).ext p2;refine ah (qh (hb:=h) xs ws 0 [] h2 (p1.trans p2) u2 q4 rfl q3 λx v h' p' qx=>?_) λp h3 ys p3 hp=>?_
 ·refine ah (R:=λav _ env'=>∃_:ER A av env' h',True) (bg λav ev'=>?_) λav h4 env' p4 he'=>?_
  ·obtain⟨env',a1,a2⟩:=vK ev' qx (ze (e2.ext p')) (by simp[iU,jW]);exact⟨env',a1,a2,trivial⟩
  ·obtain⟨er,_⟩:=he'
   have er:=er.ext p4;have u4:=(u2.ext p').ext p4;have N9:Rel A h4 (λt _ t'=>t'=t) ((if cQ c=true then ret true else bnd (aF Φ c env') λv=>ask λh=>dJ h v) h4) (if cQ c=true then .ok true else pb (aX Ψ c av) λv=>pl (dJ [] v.2)):=by
    by_cases hn:cQ c=true
    ·rw[if_pos hn,if_pos hn];exact az rfl
    ·rw[if_neg hn,if_neg hn];exact ah (hc av env' A h4 u4 er) λy h5 w p5 q5=>bW λt et=>⟨t,tU q5.br et,rfl⟩
   refine ah N9 λt h5 t' p5 et=>?_;subst et;cases t' with
   | true =>rw[if_pos rfl,if_pos rfl];exact ah (he av env' A h5 (u4.ext p5) (er.ext p5)) λy h6 w p6 q6=>az (q6.up ((p1.trans p2).trans (p'.trans (p4.trans p5))))
   | false =>rw[if_neg Bool.false_ne_true,if_neg Bool.false_ne_true];exact az trivial
 ·obtain⟨zs,rfl,z1,z2⟩:=hp;exact fQ (u2.ext p3) ((p1.trans p2).trans p3) z1 z2
mutual
noncomputable def cV:IE->Bool
 | .cst d=>jw d
 | .con _ d=>jw d
 | .bin _ a b=>cV a&&cV b
 | .neg a=>cV a
 | .cmp _ a b=>cV a&&cV b
 | .chn _ _ a b c=>cV a&&cV b&&cV c
 | .and a b=>cV a&&cV b
 | .or a b=>cV a&&cV b
 | .not a=>cV a
 | .ite a b c=>cV a&&cV b&&cV c
 | .tup es=>ie es
 | .lst es=>ie es
 | .idx a b=>cV a&&cV b
 | .slc a b c=>cV a&&cV b&&cV c
 | .call _ es=>ie es
 | .blt _ es=>ie es
 | .met _ a es=>cV a&&ie es
 | .comp _ _ _ _ es a b=>ie es&&cV a&&cV b
 | .var _=>true
 | .no=>true
 | .dct0=>true
 | .sset a=>cV a
 | .dget a b c=>cV a&&cV b&&cV c
 | .dct1 a b=>cV a&&cV b
 | .lkeys a=>cV a
 | .sdef ..=>false
 | .svals _=>false
 | .skeys a=>cV a
 | .fld _ a _=>cV a
 | .mth a _ _ es=>cV a&&ie es
 | .rev a b=>cV a&&cV b
 | .dflt _ _ _ _ a b=>cV a&&cV b
 | .isc a _ _=>cV a
noncomputable def ie:nV->Bool
 | .nil=>true
 | .cons e es=>cV e&&ie es
end
theorem v_all(hΦ:∀j,Imp (Φ j) (Ψ j)):(∀ir,cV ir=true->bN Φ Ψ ir)/\∀eV,ie eV=true->kQ Φ Ψ eV:=by
 have one:∀ir,cV ir=true->bN Φ Ψ ir:=by
  intro ir;refine IE.rec (motive_1:=λir=>cV ir=true->bN Φ Ψ ir) (motive_2:=λeV=>ie eV=true->kQ Φ Ψ eV) ?_ ?_ ?_ ?_ ?_ ?_ ?_ ?_ ?_ ?_ ?_ ?_ ?_ ?_ ?_ ?_ ?_ ?_ ?_ ?_ ?_ ?_ ?_ ?_ ?_ ?_ ?_ ?_ ?_ ?_ ?_ ?_ ?_ ?_ ?_ ir
  ·exact λ_ _=>v_var
  ·exact λ_ f=>Ot f
  ·exact λ_ _ f=>Ou f
  ·exact λ_=>Sj
  ·intro _ _ _ a b f;have f:=iX f;exact Ov (a f.1) (b f.2)
  ·intro _ a f;exact Ow (a f)
  ·intro _ _ _ a b f;have f:=iX f;exact Ox (a f.1) (b f.2)
  ·intro _ _ _ _ _ a b c f;have f:=tX f;exact Oz (a f.1.1) (b f.1.2) (c f.2)
  ·intro _ _ a b f;have f:=iX f;exact v_and (a f.1) (b f.2)
  ·intro _ _ a b f;have f:=iX f;exact v_or (a f.1) (b f.2)
  ·intro _ a f;exact v_not (a f)
  ·intro _ _ _ a b c f;have f:=tX f;exact v_ite (a f.1.1) (b f.1.2) (c f.2)
  ·intro _ a f;exact OA (a f)
  ·intro _ a f;exact OE (a f)
  ·intro _ _ a b f;have f:=iX f;exact OF (a f.1) (b f.2)
  ·intro _ _ _ a b c f;have f:=tX f;exact OG (a f.1.1) (b f.1.2) (c f.2)
  ·intro _ _ a f;exact Lu hΦ (a f)
  ·intro _ _ a f;exact OL (a f)
  ·intro _ _ _ a b f;have f:=iX f;exact OM (a f.1) (b f.2)
  ·intro _ _ _ _ _ _ _ a b c f;have f:=tX f;exact Lv (a f.1.1) (b f.1.2) (c f.2)
  ·exact λ_=>Lm
  ·intro _ a f;exact Lr (a f)
  ·intro _ _ _ a b c f;have f:=tX f;exact Lp (a f.1.1) (b f.1.2) (c f.2)
  ·intro _ _ a b f;have f:=iX f;exact Lo (a f.1) (b f.2)
  ·intro _ a f;exact GB (a f)
  ·intro _ _ _ _ _ _ f;exact nomatch (show false=true from f)
  ·intro _ _ f;exact nomatch (show false=true from f)
  ·intro _ a f;exact GC (a f)
  ·intro _ _ _ a f;exact OI (a f)
  ·intro _ _ _ _ a b f;have f:=iX f;exact OJ hΦ (a f.1) (b f.2)
  ·intro _ _ a b f;have f:=iX f;exact OH (a f.1) (b f.2)
  ·intro _ _ _ _ _ _ a b f;have f:=iX f;exact Lq (a f.1) (b f.2)
  ·intro _ _ _ a f;exact OC (a f)
  ·exact λ_=>Ib
  ·intro _ _ a b f;have f:=iX f;exact CC (a f.1) (b f.2)
 refine⟨one,λeV=>?_⟩
 induction eV using nV.rec (motive_1:=λ_=>True) with
 | nil=>exact λ_=>Ib
 | cons e es _ ih=>exact λf=>by have f:=iX f;exact CC (one e f.1) (ih f.2)
 | _=>trivial
end
end Hv
end
section
namespace Hv
open PySem L2
section
variable {A A':AP} {h h':Hs}
mutual
theorem Dn.move(hn:A none->A' none)(hh:∀(i:Nat) (o:Ob),A (some i)->h[i]?=some o->A' (some i)/\h'[i]?=some o):∀(d v:Val),Dn A h d v->Dn A' h' d v
 | .non,v,e=>by rw[Dn] at e |-;exact e
 | .bl _,v,e=>by rw[Dn] at e |-;exact e
 | .int _,v,e=>by rw[Dn] at e |-;exact e
 | .str _,v,e=>by rw[Dn] at e |-;exact e
 | .tup ds,v,e=>by
  rw[Dn] at e |-;obtain⟨vs,rfl,q⟩:=e;exact⟨vs,rfl,ao.move hn hh ds vs q⟩
 | .rl ds,v,e=>by
  rw[Dn] at e |-
  rcases e with ⟨vs,rfl,n,q⟩|⟨i,vs,rfl,a,g,q⟩
  ·exact .inl ⟨vs,rfl,hn n,ao.move hn hh ds vs q⟩
  ·exact .inr ⟨i,vs,rfl,(hh i _ a g).1,(hh i _ a g).2,ao.move hn hh ds vs q⟩
 | .dc ks ds,v,e=>by
  rw[Dn] at e |-;obtain⟨i,kvs,rfl,a,g,k,q⟩:=e;exact⟨i,kvs,rfl,(hh i _ a g).1,(hh i _ a g).2,k,ao.move hn hh ds _ q⟩
 | .ob c xs ds,v,e=>by
  rw[Dn] at e |-;obtain⟨i,kvs,rfl,a,g,k,q⟩:=e;exact⟨i,kvs,rfl,(hh i _ a g).1,(hh i _ a g).2,k,ao.move hn hh ds _ q⟩
 | .ref _,v,e=>by rw[Dn] at e;exact e.elim
theorem ao.move(hn:A none->A' none)(hh:∀(i:Nat) (o:Ob),A (some i)->h[i]?=some o->A' (some i)/\h'[i]?=some o):∀(ds vs:List Val),ao A h ds vs->ao A' h' ds vs
 | [],vs,e=>by rw[ao] at e |-;exact e
 | d::ds,vs,e=>by
  rw[ao] at e |-;obtain⟨v,r,rfl,q1,q2⟩:=e;exact⟨v,r,rfl,Dn.move hn hh d v q1,ao.move hn hh ds r q2⟩
end
end
noncomputable def Al(A0:AP)(O:Nat->Option Nat):AP:=λo=>A0 o/\∀i,o.isSome=true->O i≠o
structure SR (A0:AP) (h0:Hs) (aa:aR) (env:Env) (h:Hs) (O:Nat->Option Nat):Prop where
 len:aa.length=env.length
 sh:∀(i:Nat) (m:Mk) (d:Val),aa[i]?=some (some (m,d))->qV m=true->∃v,env[i]?=some (some v)/\Dn (Al A0 O) h d v/\(MN m=true->Dn (Al (Fr h0.length) O) h d v)
 ow:∀(i:Nat) (d:Val),aa[i]?=some (some (.ow,d))->∃a,env[i]?=some (some (.ref a))/\O i=some a/\OD (Al A0 O) h d a
 own:∀i a,O i=some a->h0.length<=a/\a<h.length/\∃d,aa[i]?=some (some (.ow,d))
 inj:∀i j a,O i=some a->O j=some a->i=j
 pre:h0<+:h
 up:Up A0 h0
structure Fm (m:List Nat) (aa:aR) (env:Env) (h:Hs) (O:Nat->Option Nat) (av:aR) (env':Env) (h':Hs) (O':Nat->Option Nat):Prop where
 le:h.length<=h'.length
 keep:∀k,k<h.length->(∀i,O i≠some k)->h'[k]?=h[k]?/\∀i,O' i≠some k
 stay:∀i,i∉m->O' i=O i/\av[i]?=aa[i]?/\env'[i]?=env[i]?/\∀a,O i=some a->h'[a]?=h[a]?
noncomputable def RF(A0:AP)(h0:Hs)(m:List Nat)(aa:aR)(env:Env)(h:Hs)(O:Nat->Option Nat):wJ->Hs->Fl->Prop
 | .nx av,h',.nx env'=>∃O',SR A0 h0 av env' h' O'/\Fm m aa env h O av env' h' O'
 | .bk av,h',.bk env'=>∃O',SR A0 h0 av env' h' O'/\Fm m aa env h O av env' h' O'
 | .ct av,h',.ct env'=>∃O',SR A0 h0 av env' h' O'/\Fm m aa env h O av env' h' O'
 | .rt p,h',.rt v=>Dn A0 h' p.2 v/\(p.1=true->Dn (Fr h0.length) h' p.2 v)/\h0<+:h'
 | _,_,_=>False
noncomputable def iM(A0:AP)(h0:Hs){α β:Type}(R:α -> Hs -> β -> Prop)(o:Out β):Pr α -> Prop
 | .ok f=>∃g h',o=.ok g h'/\R f h' g
 | .exc c es=>∃ws h',o=.exc c ws h'/\h0<+:h'/\ao A0 h' es ws
 | .no=>True
section
variable {A0:AP} {h0:Hs} {aa:aR} {env:Env} {h h1:Hs} {O:Nat->Option Nat} {m:List Nat}
theorem SR.er(s:SR A0 h0 aa env h O):ER (Al A0 O) aa env h:=λi f d e=>by
 cases f with
 | ow =>rw[if_pos (show qV .ow=false by decide)];obtain⟨a,k2,_,k3⟩:=s.ow i d e;exact⟨a,k2,k3⟩
 | sh=>rw[if_neg (by decide)];obtain⟨v,k1,k2,_⟩:=s.sh i _ d e rfl;exact⟨v,k1,k2⟩
 | nw=>rw[if_neg (by decide)];obtain⟨v,k1,k2,_⟩:=s.sh i _ d e rfl;exact⟨v,k1,k2⟩
theorem SR.xY(s:SR A0 h0 aa env h O):Up (Al A0 O) h:=λk hk=>⟨s.up k (le_trans s.pre.length_le hk),λi _ e=>by have:=(s.own i k e).2.1;omega⟩
theorem SR.ext(s:SR A0 h0 aa env h O)(p:h<+:h1):SR A0 h0 aa env h1 O where
 len:=s.len
 sh i m d e hm:=by obtain⟨v,k1,k2,k3⟩:=s.sh i m d e hm;exact⟨v,k1,k2.ext p,λz=>(k3 z).ext p⟩
 ow i d e:=by obtain⟨a,k2,k3,k4⟩:=s.ow i d e;exact⟨a,k2,k3,k4.ext p⟩
 own i a e:=by obtain⟨k1,k2,k3⟩:=s.own i a e;exact⟨k1,lt_of_lt_of_le k2 p.length_le,k3⟩
 inj:=s.inj
 pre:=s.pre.trans p
 up:=s.up
theorem f9(p:h<+:h1){k:Nat}(hk:k<h.length):h1[k]?=h[k]?:=by
 obtain⟨t,rfl⟩:=p;rw[getElem?_append_left hk]
theorem Fm.refl(s:SR A0 h0 aa env h O)(p:h<+:h1):Fm m aa env h O aa env h1 O where
 le:=p.length_le
 keep k hk n:=⟨f9 p hk,n⟩
 stay i _:=⟨rfl,rfl,rfl,λa e=>f9 p (s.own i a e).2.1⟩
theorem Fm.trans{mC iZ:aR}{gA iI:Env}{h2:Hs}{O1 O2:Nat->Option Nat}(a:Fm m aa env h O mC gA h1 O1)(b:Fm m mC gA h1 O1 iZ iI h2 O2):Fm m aa env h O iZ iI h2 O2 where
 le:=le_trans a.le b.le
 keep k hk n:=by obtain⟨a1,a2⟩:=a.keep k hk n;obtain⟨b1,b2⟩:=b.keep k (lt_of_lt_of_le hk a.le) a2;exact⟨b1.trans a1,b2⟩
 stay i hi:=by obtain⟨a1,a2,a3,a4⟩:=a.stay i hi;obtain⟨b1,b2,b3,b4⟩:=b.stay i hi;exact⟨b1.trans a1,b2.trans a2,b3.trans a3,λc e=>(b4 c (a1.trans e)).trans (a4 c e)⟩
theorem Fm.fZ{m':List Nat}(hm:∀i∈m,i∈m')(a:Fm m aa env h O av env' h1 O'):Fm m' aa env h O av env' h1 O':=⟨a.le,a.keep,λi hi=>a.stay i λz=>hi (hm i z)⟩
theorem RF.pre(s:SR A0 h0 aa env h O)(p:h<+:h1)(r:RF A0 h0 m aa env h1 O f h' g):RF A0 h0 m aa env h O f h' g:=by
 cases f<;>cases g<;>first|exact r.elim|exact r|(obtain⟨O',a,b⟩:=r;exact⟨O',a,(Fm.refl s p).trans b⟩)
theorem RF.fZ{m':List Nat}(hm:∀i∈m,i∈m')(r:RF A0 h0 m aa env h O f h' g):RF A0 h0 m' aa env h O f h' g:=by
 cases f<;>cases g<;>first|exact r.elim|exact r|(obtain⟨O',a,b⟩:=r;exact⟨O',a,b.fZ hm⟩)
theorem RF.seq{mC:aR}{gA:Env}{O1:Nat->Option Nat}(a:Fm m aa env h O mC gA h1 O1)(r:RF A0 h0 m mC gA h1 O1 f h' g):RF A0 h0 m aa env h O f h' g:=by
 cases f<;>cases g<;>first|exact r.elim|exact r|(obtain⟨O',b,c⟩:=r;exact⟨O',b,a.trans c⟩)
theorem bf{α β γ δ:Type}{R:α -> Hs -> β -> Prop}{R':γ -> Hs -> δ -> Prop}{mm:M β}{f:β -> M δ}{p:Pr α}{F:α -> Pr γ}(s:SR A0 h0 aa env h O)(r:Rel (Al A0 O) h R (mm h) p)(k:∀a h1 b,h<+:h1->R a h1 b->iM A0 h0 R' (f b h1) (F a)):iM A0 h0 R' (bnd mm f h) (pb p F):=by
 unfold bnd;cases p with
 | ok a=>obtain⟨b,h1,e,q,r⟩:=r;rw[e];exact k a h1 b q r
 | exc c es=>obtain⟨ws,h1,e,q,r⟩:=r;rw[e];exact⟨ws,h1,rfl,s.pre.trans q,r.fZ λ_ z=>z.1⟩
 | no=>trivial
theorem bq{α β:Type}{R:α -> Hs -> β -> Prop}{a:α}{b:β}(r:R a h b):iM A0 h0 R (ret b h) (.ok a):=⟨b,h,rfl,r⟩
theorem ja{α β:Type}{R R':α -> Hs -> β -> Prop}{o:Out β}{p:Pr α}(r:iM A0 h0 R o p)(k:∀a h' b,R a h' b->R' a h' b):iM A0 h0 R' o p:=by
 cases p with
 | ok a=>obtain⟨b,h',e,r⟩:=r;exact⟨b,h',e,k a h' b r⟩
 | exc c es=>exact r
 | no=>trivial
theorem qi{α β γ δ:Type}{R:α -> Hs -> β -> Prop}{R':γ -> Hs -> δ -> Prop}{mm:M β}{f:β -> M δ}{p:Pr α}{F:α -> Pr γ}(r:iM A0 h0 R (mm h) p)(k:∀a h1 b,R a h1 b->iM A0 h0 R' (f b h1) (F a)):iM A0 h0 R' (bnd mm f h) (pb p F):=by
 unfold bnd;cases p with
 | ok a=>obtain⟨b,h1,e,r⟩:=r;rw[e];exact k a h1 b r
 | exc c es=>obtain⟨ws,h1,e,q,r⟩:=r;rw[e];exact⟨ws,h1,rfl,q,r⟩
 | no=>trivial
theorem jx{α β:Type}{R:α -> Hs -> β -> Prop}{c:Bool}{o:Out β}{p:Pr α}(r:c=true->iM A0 h0 R o p):iM A0 h0 R o (pg c p):=by
 unfold pg;cases c with
 | true=>rw[if_pos rfl];exact r rfl
 | false=>rw[if_neg Bool.false_ne_true];trivial
noncomputable def gu(O:Nat->Option Nat)(i:Nat):Nat->Option Nat:=λj=>if j=i then none else O j
theorem oQ:Al A0 O none->Al A0 O none:=id
theorem j7:Al A0 O none->Al A0 O' none:=λh=>⟨h.1,λ_ z=>by cases z⟩
theorem jy{i:Nat}:∀k,Al A0 O k->Al A0 (gu O i) k:=λk ⟨a,b⟩=>⟨a,λj z=>by unfold gu;split;(cases k<;>simp_all);exact b j z⟩
theorem SR.setM(s:SR A0 h0 aa env h O){i:Nat}{mk:Mk}{d v:Val}(XE:qV mk=true)(q:Dn (Al A0 O) h d v)(qn:MN mk=true->Dn (Al (Fr h0.length) O) h d v):SR A0 h0 (aa.set i (some (mk,d))) (env.set i (some v)) h (gu O i)/\Fm [i] aa env h O (aa.set i (some (mk,d))) (env.set i (some v)) h (gu O i):=by
 refine⟨⟨by simp[s.len],λj m' d' e hm'=>?_,λj d' e=>?_,λj a e=>?_,λj l a e1 e2=>?_,s.pre,s.up⟩,Nat.le_refl _,λk hk n=>⟨rfl,λj=>?_⟩,λj hj=>?_⟩
 ·by_cases hij:i=j
  ·subst hij
   have hi:i<aa.length:=by have:=(List.getElem?_eq_some_iff.mp e).1;simpa using this
   rw[getElem?_set_self hi] at e;cases e;exact⟨v,by rw[getElem?_set_self (by rw[<-s.len];exact hi)],q.fZ jy,λz=>(qn z).fZ jy⟩
  ·rw[getElem?_set_ne hij] at e;rw[getElem?_set_ne hij];obtain⟨w,k1,k2,k3⟩:=s.sh j m' d' e hm';exact⟨w,k1,k2.fZ jy,λz=>(k3 z).fZ jy⟩
 ·by_cases hij:i=j
  ·subst hij
   have hi:i<aa.length:=by have:=(List.getElem?_eq_some_iff.mp e).1;simpa using this
   rw[getElem?_set_self hi] at e;cases e;cases XE
  ·rw[getElem?_set_ne hij] at e;rw[getElem?_set_ne hij];obtain⟨a,k2,k3,k4⟩:=s.ow j d' e;exact⟨a,k2,by unfold gu;rw[if_neg (λz=>hij z.symm)];exact k3,k4.mono (λ_ g=>g) λ_ _ z=>z.fZ jy⟩
 ·unfold gu at e
  split at e
  ·cases e
  ·rename_i hj;obtain⟨k1,k2,d',k3⟩:=s.own j a e;exact⟨k1,k2,d',by rw[getElem?_set_ne (λz=>hj z.symm)];exact k3⟩
 ·unfold gu at e1 e2
  split at e1
  ·cases e1
  ·split at e2
   ·cases e2
   ·exact s.inj j l a e1 e2
 ·unfold gu;split;simp;exact n j
 ·have hj':j≠i:=by simpa using hj
  exact⟨by unfold gu;rw[if_neg hj'],getElem?_set_ne (λz=>hj' z.symm),getElem?_set_ne (λz=>hj' z.symm),λ_ _=>rfl⟩
theorem SR.set(s:SR A0 h0 aa env h O){i:Nat}(q:Dn (Al A0 O) h d v):SR A0 h0 (aa.set i (some (.sh,d))) (env.set i (some v)) h (gu O i)/\Fm [i] aa env h O (aa.set i (some (.sh,d))) (env.set i (some v)) h (gu O i):=s.setM rfl q λz=>nomatch z
theorem SR.binds:∀{is:List Nat} {ds vs:List Val} {aa:aR} {env:Env} {O:Nat->Option Nat} {av:aR},SR A0 h0 aa env h O->bB is ds aa=some av->ao (Al A0 O) h ds vs ->
  ∃env' O',bindAll is vs env=some env'/\SR A0 h0 av env' h O'/\Fm is aa env h O av env' h O'
 | [],[],vs,aa,env,O,av,s,e,q=>by
  rw[ao] at q;subst q;simp only[bB] at e;cases e;exact⟨env,O,rfl,s,Fm.refl s (prefix_refl _)⟩
 | i::is,d::ds,vs,aa,env,O,av,s,e,q=>by
  rw[ao] at q;obtain⟨v,r,rfl,q1,q2⟩:=q;simp only[bB] at e;obtain⟨s1,f1⟩:=s.set (i:=i) q1;obtain⟨env',O',b1,b2,b3⟩:=SR.binds s1 e (q2.fZ jy);refine⟨env',O',by simp only[bindAll];exact b1,b2,(f1.fZ λj hj=>?_).trans (b3.fZ λj hj=>mem_cons_of_mem _ hj)⟩;rw[mem_singleton.mp hj];exact mem_cons_self
 | [],_::_,_,_,_,_,_,_,e,_=>by simp[bB] at e
 | _::_,[],_,_,_,_,_,_,e,_=>by simp[bB] at e
theorem SR.bind(s:SR A0 h0 aa env h O)(e:cA p d aa=some av)(q:Dn (Al A0 O) h d v):∃env' O',fV p v env=some env'/\SR A0 h0 av env' h O'/\Fm (stored p) aa env h O av env' h O':=by
 cases p with
 | one i =>simp only[cA] at e;cases e;obtain⟨s1,f1⟩:=s.set (i:=i) q;exact⟨_,_,rfl,s1,f1⟩
 | tup is =>
  cases d<;>simp only[cA] at e<;>first|(cases e;done)|skip
  rw[Dn] at q;obtain⟨vs,rfl,q⟩:=q;exact s.binds e q
theorem GD{a:Nat}(p:h0<+:h)(ha:h0.length<=a):h0<+:h.set a o:=by
 obtain⟨t,rfl⟩:=p;rw[List.set_append_right _ _ ha];exact prefix_append _ _
theorem SR.put(s:SR A0 h0 aa env h O){i a:Nat}{d d1:Val}(e:aa[i]?=some (some (.ow,d)))(ha:O i=some a)(q:OB (Al A0 O) h d1 ob) :
  SR A0 h0 (aa.set i (some (.ow,d1))) env (h.set a ob) O/\Fm [i] aa env h O (aa.set i (some (.ow,d1))) env (h.set a ob) O:=by
 obtain⟨o1,o2,_⟩:=s.own i a ha;have hi:i<aa.length:=(List.getElem?_eq_some_iff.mp e).1;have mv:∀{A0:AP} (k:Nat) (o:Ob),Al A0 O k->h[k]?=some o->Al A0 O k/\(h.set a ob)[k]?=some o:=λk o hk g=>⟨hk,by rw[getElem?_set_ne λz=>hk.2 i rfl (by rw[<-z];exact ha)];exact g⟩;obtain⟨a0,e2,e3,_⟩:=s.ow i d e;refine⟨⟨by simp[s.len],λj m' d' ej hm'=>?_,λj d' ej=>?_,λj b ej=>?_,s.inj,GD s.pre o1,s.up⟩,by simp,λk hk n=>⟨?_,n⟩,λj hj=>?_⟩
 ·by_cases hij:i=j
  ·subst hij;rw[getElem?_set_self hi] at ej;cases ej;cases hm'
  ·rw[getElem?_set_ne hij] at ej;obtain⟨w,k1,k2,k3⟩:=s.sh j m' d' ej hm';exact⟨w,k1,Dn.move oQ mv _ _ k2,λz=>Dn.move oQ mv _ _ (k3 z)⟩
 ·by_cases hij:i=j
  ·subst hij;rw[getElem?_set_self hi] at ej;cases ej;rw[ha] at e3;cases e3;exact⟨a,e2,ha,q.od (by rw[getElem?_set_self o2]) λ_ _ z=>ao.move oQ mv _ _ z⟩
  ·rw[getElem?_set_ne hij] at ej;obtain⟨a1,k2,k3,k4⟩:=s.ow j d' ej;have:a≠a1:=λz=>hij (s.inj i j a ha (by rw[z];exact k3));exact⟨a1,k2,k3,k4.mono (λ_ g=>by rw[getElem?_set_ne this];exact g) λ_ _ z=>ao.move oQ mv _ _ z⟩
 ·obtain⟨k1,k2,d',k3⟩:=s.own j b ej
  refine⟨k1,by simp[k2],?_⟩
  by_cases hij:i=j
  ·subst hij;exact⟨_,by rw[getElem?_set_self hi]⟩
  ·exact⟨d',by rw[getElem?_set_ne hij];exact k3⟩
 ·rw[getElem?_set_ne λz=>n i (by rw[<-z];exact ha)]
 ·have hj':j≠i:=by simpa using hj
  exact⟨rfl,getElem?_set_ne (λz=>hj' z.symm),rfl,λb eb=>by rw[getElem?_set_ne λz=>hj' (s.inj j i b eb (by rw[<-z];exact ha))]⟩
noncomputable def qX(O:Nat->Option Nat)(i a:Nat):Nat->Option Nat:=λj=>if j=i then some a else O j
theorem SR.fresh(s:SR A0 h0 aa env h O){i:Nat}{d1:Val}{h2:Hs}(p:h<+:h2)(q:OB (Al A0 O) h2 d1 ob) :
  SR A0 h0 (aa.set i (some (.ow,d1))) (env.set i (some (.ref h2.length))) (h2++[ob]) (if i<aa.length then qX O i h2.length else gu O i) /\
   Fm [i] aa env h O (aa.set i (some (.ow,d1))) (env.set i (some (.ref h2.length))) (h2++[ob]) (if i<aa.length then qX O i h2.length else gu O i):=by
 have pp:h<+:h2++[ob]:=p.trans (prefix_append _ _);have s2:=s.ext p;have mv:∀{A0:AP} (j:Nat),∀(k:Nat) (o:Ob),Al A0 O k->h2[k]?=some o->Al A0 (if i<aa.length then qX O i h2.length else gu O i) k/\(h2++[ob])[k]?=some o:=λ{A0} j k o hk g=>by
  have hlt:k<h2.length:=(List.getElem?_eq_some_iff.mp g).1;refine⟨?_,by rw[getElem?_append_left hlt];exact g⟩
  split
  ·refine⟨hk.1,λl _=>?_⟩
   unfold qX
   split
   ·intro z;cases z;omega
   ·exact hk.2 l rfl
  ·exact jy k hk
 by_cases hi:i<aa.length
 ·rw[if_pos hi] at mv |-
  refine⟨⟨by simp[s.len],λj m' d' ej hm'=>?_,λj d' ej=>?_,λj b ej=>?_,λj l b e1 e2=>?_,s.pre.trans pp,s.up⟩,pp.length_le,λk hk n=>⟨f9 pp hk,λl=>?_⟩,λj hj=>?_⟩
  ·by_cases hij:i=j
   ·subst hij;rw[getElem?_set_self hi] at ej;cases ej;cases hm'
   ·rw[getElem?_set_ne hij] at ej;rw[getElem?_set_ne hij];obtain⟨w,k1,k2,k3⟩:=s2.sh j m' d' ej hm';exact⟨w,k1,Dn.move j7 (mv 0) _ _ k2,λz=>Dn.move j7 (mv 0) _ _ (k3 z)⟩
  ·by_cases hij:i=j
   ·subst hij;rw[getElem?_set_self hi] at ej;cases ej;exact⟨h2.length,by rw[getElem?_set_self (by rw[<-s.len];exact hi)],by unfold qX;rw[if_pos rfl],q.od (by simp) λ_ _ z=>ao.move j7 (mv 0) _ _ z⟩
   ·rw[getElem?_set_ne hij] at ej;rw[getElem?_set_ne hij];obtain⟨a1,k2,k3,k4⟩:=s2.ow j d' ej;have hlt:a1<h2.length:=k4.lt;exact⟨a1,k2,by unfold qX;rw[if_neg λz=>hij z.symm];exact k3,k4.mono (λ_ g=>by rw[getElem?_append_left hlt];exact g) λ_ _ z=>ao.move j7 (mv 0) _ _ z⟩
  ·unfold qX at ej
   split at ej
   ·rename_i hj;cases ej;subst hj;exact⟨le_trans s.pre.length_le p.length_le,by simp,_,by rw[getElem?_set_self hi]⟩
   ·rename_i hj;obtain⟨k1,k2,d',k3⟩:=s2.own j b ej;exact⟨k1,by simp;omega,d',by rw[getElem?_set_ne λz=>hj z.symm];exact k3⟩
  ·unfold qX at e1 e2
   split at e1
   ·rename_i h1;cases e1
    split at e2
    ·rename_i h3;rw[h1,h3]
    ·have:=(s2.own l _ e2).2.1;omega
   ·split at e2
    ·cases e2;have:=(s2.own j _ e1).2.1;omega
    ·exact s.inj j l b e1 e2
  ·unfold qX;split
   ·intro z;cases z;have:=p.length_le;omega
   ·exact n l
  ·have hj':j≠i:=by simpa using hj
   exact⟨by unfold qX;rw[if_neg hj'],getElem?_set_ne (λz=>hj' z.symm),getElem?_set_ne (λz=>hj' z.symm),λb eb=>f9 pp (s.own j b eb).2.1⟩
 ·rw[if_neg hi] at mv |-
  have e1:aa.set i (some (.ow,d1))=aa:=List.set_eq_of_length_le (by omega);have e2:env.set i (some (.ref h2.length))=env:=List.set_eq_of_length_le (by rw[<-s.len];omega);have e3:gu O i=O:=by
   funext j;unfold gu;split
   ·rename_i hj;subst hj
    cases e:O j with
    | none=>rfl
    | some a=>obtain⟨_,_,d,k⟩:=s.own j a e;exact absurd (List.getElem?_eq_some_iff.mp k).1 hi
   ·rfl
  rw[e1,e2,e3];exact⟨s.ext pp,Fm.refl s pp⟩
end
end Hv
end
section
namespace Hv
open PySem L2
section
variable {Φ:Nat->List Val->M Val} {Ψ:Nat->List Val->Pr FV} {A:AP} {h h1:Hs}
noncomputable def isRef:Val->Bool
 | .rl _=>true
 | .dc _ _=>true
 | _=>false
noncomputable def RN(A:AP)(h:Hs):FV->Hs->Val->Prop:=λx h' v=>isRef x.2=true->∃h2 o,h'=h2++[o]/\v=.ref h2.length/\h<+:h2/\OB A h2 x.2 o
noncomputable def Ic(Φ:Nat->List Val->M Val)(Ψ:Nat->List Val->Pr FV)(ir:IE):Prop:=∀(aa:aR) (env:Env) (A:AP) (h:Hs),Up A h->ER A aa env h->Rel A h (RN A h) (aF Φ ir env h) (aX Ψ ir aa)
theorem j8{f:Bool}{h0:Hs}(p:h0<+:h)(q:ao A h xs vs):Rel A h (RN A h0) (new (.lst vs) h) (.ok (f,.rl xs)) :=
 ⟨_,_,rfl,dS _,λ_=>⟨h,.lst vs,rfl,rfl,p,vs,rfl,q⟩⟩
theorem Lw:Ic Φ Ψ .dct0:=λaa env A h u e=>by
 rw[aF,aX];exact⟨_,_,rfl,dS _,λ_=>⟨h,.dct [],rfl,rfl,prefix_refl _,[],rfl,rfl,ao.nil⟩⟩
theorem Lx(hk:bN Φ Ψ k)(hv:bN Φ Ψ v):Ic Φ Ψ (.dct1 k v):=λaa env A h u e=>by
 rw[aF,aX];refine ah (hk aa env A h u e) λx h1 w p1 q1=>ah (R:=λkk _ kk'=>kk'=kk) (bg λkk ek=>⟨kk,xX q1.1 ek,rfl⟩) λkk h2 kk' p2 hkk=>?_;subst hkk;refine ah (hv aa env A h2 ((u.ext p1).ext p2) ((e.ext p1).ext p2)) λy h3 z p3 q3=>?_;exact⟨_,_,rfl,dS _,λ_=>⟨h3,.dct [(kk',z)],rfl,rfl,(p1.trans p2).trans p3,[(kk',z)],rfl,rfl,ao.cons q3.1 ao.nil⟩⟩
theorem ON(hs:kQ Φ Ψ es):Ic Φ Ψ (.lst es):=λaa env A h u e=>by
 rw[aF,aX];exact ah (hs.1 aa env A h u e) λx h1 vs p1 q1=>bL (λz=>by rw[<-q1.1.length];exact z) λ_=>j8 p1 q1.1
theorem OO(ha:bN Φ Ψ a)(hl:bN Φ Ψ lo)(hh:bN Φ Ψ hi):Ic Φ Ψ (.slc a lo hi):=λaa env A h u e=>by
 rw[aF,aX];refine ah (kR ha u e) λx h1 v p1 q1=>ah (j6 hl (u.ext p1) (e.ext p1)) λl h2 l' p2 el=>ah (j6 hh ((u.ext p1).ext p2) ((e.ext p1).ext p2)) λr h3 r' p3 er=>?_;subst el;subst er;have q1:=DB.ext (p2.trans p3) q1;obtain⟨f,d⟩:=x;cases d with
 | tup ds =>obtain⟨vs,rfl,q⟩:=DB.tup q1;have l:=q.length;simp only[AH,qU];exact bL (λz=>by rw[l] at z;exact z) λ_=>az λe=>by cases e
 | rl ds =>
  obtain⟨vs,e1,q⟩:=DB.lst q1;have ev:qU v l' r' h3=new (.lst (dR vs l' r')) h3:=by
   have:qU v l' r'=bnd (ask λh=>aD h v) λxs=>new (.lst (dR xs l' r')):=by cases v<;>simp only[aD] at e1<;>first|(cases e1;done)|rfl
   rw[this];unfold bnd ask bh;dsimp only;rw[e1]
  rw[ev];exact j8 ((p1.trans p2).trans p3) (q.cut l' r')
 | _=>trivial
theorem Ly(hs:kQ Φ Ψ es):Ic Φ Ψ (.blt .list es):=λaa env A h u e=>by
 rw[aF,aX];refine ah (hs.2 aa env A h u e) λds h1 vs p1 q1=>?_
 match ds,q1 with
 | [],q1=>trivial
 | [d],q1 =>obtain⟨v,rfl,hv⟩:=q1.one;exact ah (R:=λxs h' ws=>ao A h' xs ws) (bW λxs e=>hv.seq e) λxs h2 ws p2 q=>j8 (p1.trans p2) q
 | _::_::_,_=>trivial
theorem CD(hs:kQ Φ Ψ es):Ic Φ Ψ (.blt .sorted es):=λaa env A h u e=>by
 rw[aF,aX];refine ah (hs.2 aa env A h u e) λds h1 vs p1 q1=>?_
 match ds,q1 with
 | [],q1=>trivial
 | [d],q1 =>
  obtain⟨v,rfl,hv⟩:=q1.one;cases d<;>first|trivial|skip
  rename_i xs;obtain⟨ws,e1,q⟩:=hv.lst;have ev:bnd (ask λh=>aD h v) (λxs=>bnd (bh (fU xs)) λys=>new (.lst ys)) h1=bnd (bh (fU ws)) (λys=>new (.lst ys)) h1:=by unfold bnd ask bh;dsimp only;rw[e1]
  show Rel A h1 (RN A h) (bnd (ask λh=>aD h v) (λxs=>bnd (bh (fU xs)) λys=>new (.lst ys)) h1) _;rw[ev];refine ah (R:=λys _ zs=>zs=ys/\bw ys=true) (bg λys e=>?_) λys h2 zs p2 hz=>?_
  ·obtain⟨i1,i2⟩:=sy e;rw[(aS xs ws i1).mp q];exact⟨ys,e,rfl,i2⟩
  ·obtain⟨rfl,hi⟩:=hz;exact j8 (p1.trans p2) ((aS _ _ hi).mpr rfl)
 | x::_::_,_=>cases x<;>trivial
theorem Lz(hs:kQ Φ Ψ it)(hc:bN Φ Ψ c)(he:bN Φ Ψ elt):Ic Φ Ψ (.comp N js pat k it c elt):=λaa env A h u e=>by
 rw[aF,aX];refine ah (hs.2 aa env A h u e) λds h1 vs p1 q1=>ah (zc q1) λxs h2 src p2 q2=>?_;obtain⟨ws,q3,q4⟩:=q2;have l:=q3.length;have ev:∀(F:List Val->M Val),bnd (ask λh=>src.items h) F h2=F ws h2:=λF=>by unfold bnd ask bh;dsimp only;rw[q4 h2 (prefix_refl _)]
 rw[ev];refine bL (λz=>by rw[<-l];exact z) λ_=>?_;have u2:=(u.ext p1).ext p2;have e2:=(e.ext p1).ext p2;refine ah (qh (hb:=h) xs ws 0 [] h2 (p1.trans p2) u2 q4 rfl q3 λx v h' p' qx=>?_) λp h3 ys p3 hp=>?_
 ·refine ah (R:=λav _ env'=>∃_:ER A av env' h',True) (bg λav ev'=>?_) λav h4 env' p4 he'=>?_
  ·obtain⟨env',a1,a2⟩:=vK ev' qx (ze (e2.ext p')) (by simp[iU,jW]);exact⟨env',a1,a2,trivial⟩
  ·obtain⟨er,_⟩:=he'
   have er:=er.ext p4;have u4:=(u2.ext p').ext p4;have N9:Rel A h4 (λt _ t'=>t'=t) ((if cQ c=true then ret true else bnd (aF Φ c env') λv=>ask λh=>dJ h v) h4) (if cQ c=true then .ok true else pb (aX Ψ c av) λv=>pl (dJ [] v.2)):=by
    by_cases hn:cQ c=true
    ·rw[if_pos hn,if_pos hn];exact az rfl
    ·rw[if_neg hn,if_neg hn];exact ah (hc av env' A h4 u4 er) λy h5 w p5 q5=>bW λt et=>⟨t,tU q5.br et,rfl⟩
   refine ah N9 λt h5 t' p5 et=>?_;subst et;cases t' with
   | true =>rw[if_pos rfl,if_pos rfl];exact ah (he av env' A h5 (u4.ext p5) (er.ext p5)) λy h6 w p6 q6=>az (q6.up ((p1.trans p2).trans (p'.trans (p4.trans p5))))
   | false =>rw[if_neg Bool.false_ne_true,if_neg Bool.false_ne_true];exact az trivial
 ·obtain⟨zs,rfl,z1,z2⟩:=hp;exact j8 ((p1.trans p2).trans p3) z1
theorem OP(hΦ:∀j,Imp (Φ j) (Ψ j))(hf:QA e=true)(ho:cV e=true):Ic Φ Ψ e:=by
 have V:=v_all hΦ;cases e<;>first|(cases hf;done)|skip
 ·rw[cV] at ho;exact ON (V.2 _ ho)
 ·rw[cV,and_eq_true,and_eq_true] at ho;exact OO (V.1 _ ho.1.1) (V.1 _ ho.1.2) (V.1 _ ho.2)
 ·rename_i b es
  rw[cV] at ho;cases b<;>first|(cases hf;done)|skip
  ·exact CD (V.2 _ ho)
  ·exact Ly (V.2 _ ho)
 ·rw[cV,and_eq_true,and_eq_true] at ho;exact Lz (V.2 _ ho.1.1) (V.1 _ ho.1.2) (V.1 _ ho.2)
 ·exact Lw
 ·rw[cV,and_eq_true] at ho;exact Lx (V.1 _ ho.1) (V.1 _ ho.2)
mutual
noncomputable def Sm:IS->Bool
 | .expr e=>cV e
 | .asg _ e=>cV e
 | .aug _ _ e=>cV e
 | .e8 o i v=>cV o&&cV i&&cV v
 | .iff c a b=>cV c&&qj a&&qj b
 | .for _ _ it b=>ie it&&qj b
 | .whl _ c b=>cV c&&qj b
 | .ret e=>cV e
 | _=>true
noncomputable def qj:fy->Bool
 | .nil=>true
 | .cons s r=>Sm s&&qj r
end
noncomputable def mS(s:IS):List Nat:=qd s++mj s
noncomputable def GF(s:fy):List Nat:=gR s++j4 s
variable {ms:List Nat}
noncomputable def zf(Φ:Nat->List Val->M Val)(Ψ:Nat->List Val->Pr FV)(ms:List Nat)(s:IS):Prop:=∀(A0:AP) (h0:Hs) (aa:aR) (env:Env) (h:Hs) (O:Nat->Option Nat),SR A0 h0 aa env h O->iM A0 h0 (RF A0 h0 (mS s) aa env h O) (eO Φ s env h) (bY Ψ ms s aa)
noncomputable def tY(Φ:Nat->List Val->M Val)(Ψ:Nat->List Val->Pr FV)(ms:List Nat)(s:fy):Prop:=∀(A0:AP) (h0:Hs) (aa:aR) (env:Env) (h:Hs) (O:Nat->Option Nat),SR A0 h0 aa env h O->iM A0 h0 (RF A0 h0 (GF s) aa env h O) (dX Φ s env h) (eB Ψ ms s aa)
theorem CF(he:bN Φ Ψ e)(hx:∀aa,bY Ψ ms (.expr e) aa=pb (aX Ψ e aa) λ_=>.ok (.nx aa)):zf Φ Ψ ms (.expr e):=λA0 h0 aa env h O s=>by
 rw[eO,hx];exact bf s (he aa env _ h s.xY s.er) λx h1 v p1 q1=>bq ⟨O,s.ext p1,Fm.refl s p1⟩
theorem aN{α β γ:Type}(m:M α)(f:α -> M β)(g:β -> M γ):bnd (bnd m f) g=bnd m λx=>bnd (f x) g:=by
 funext h;show (match (match m h with|.ok a h'=>f a h'|.exc c vs h'=>.exc c vs h'|.no=>.no) with|.ok a h'=>g a h'|.exc c vs h'=>.exc c vs h'|.no=>.no)=(match m h with|.ok a h'=>bnd (f a) g h'|.exc c vs h'=>.exc c vs h'|.no=>.no);cases m h<;>rfl
theorem aq{α β:Type}{m:M α}{f:α -> M β}{a:α}{h h1:Hs}(e:m h=.ok a h1):bnd m f h=f a h1:=by unfold bnd;rw[e]
theorem bQ{i:Nat}(e:env[i]?=some (some v)):aF Φ (.var i) env h=.ok v h:=by rw[aF,e];rfl
theorem AI{i:Nat}(ha:bN Φ Ψ a):zf Φ Ψ ms (.expr (.met .append (.var i) (.cons a .nil))):=λA0 h0 aa env h O s=>by
 rw[eO,bY];try dsimp only
 split
 ·rename_i ds hv
  obtain⟨b,e2,e3,vs,e4,e5⟩:=s.ow i _ hv;have ev:bnd (aF Φ (.met .append (.var i) (.cons a .nil)) env) (λ_=>ret (Fl.nx env)) h=bnd (aF Φ a env) (λv=>bnd (met .append (.ref b) [v]) λ_=>ret (Fl.nx env)) h:=by
   rw[aF,aN,aq (bQ e2)];rw[aN,aq (a:=()) (h1:=h) (by unfold ask bh;simp[recv,e4])];rw[aN,aU,aN]
   congr 1
  rw[ev];refine bf s (ha aa env _ h s.xY s.er) λx h1 v p1 q1=>jx λhg=>?_;have s1:=s.ext p1;obtain⟨s2,f2⟩:=s1.put (d1:=.rl (ds++[x.2])) (ob:=.lst (vs++[v])) hv e3 ⟨_,rfl,(e5.ext p1).append (ao.cons q1.1 ao.nil)⟩;have l:=e5.length;refine⟨.nx env,h1.set b (.lst (vs++[v])),?_,O,s2,(Fm.refl s p1).trans (f2.fZ λj hj=>?_)⟩
  ·have g:=bU p1 e4;unfold met bnd ask bh aC put ret;dsimp only;rw[g];dsimp only;rw[if_pos (by rw[<-l];exact hg)]
  ·rw[mem_singleton.mp hj];exact mem_append_left _ mem_cons_self
 ·trivial
theorem AJ{i:Nat}(ha:bN Φ Ψ a):zf Φ Ψ ms (.expr (.met .extend (.var i) (.cons a .nil))):=λA0 h0 aa env h O s=>by
 rw[eO,bY];try dsimp only
 split
 ·rename_i ds hv
  obtain⟨b,e2,e3,vs,e4,e5⟩:=s.ow i _ hv;have ev:bnd (aF Φ (.met .extend (.var i) (.cons a .nil)) env) (λ_=>ret (Fl.nx env)) h=bnd (aF Φ a env) (λv=>bnd (met .extend (.ref b) [v]) λ_=>ret (Fl.nx env)) h:=by
   rw[aF,aN,aq (bQ e2)];rw[aN,aq (a:=()) (h1:=h) (by unfold ask bh;simp[recv,e4])];rw[aN,aU,aN]
   congr 1
  rw[ev];refine bf s (ha aa env _ h s.xY s.er) λx h1 v p1 q1=>?_;obtain⟨f,d⟩:=x;cases d<;>first|trivial|skip
  rename_i ts;have q:=q1.1;dsimp only at q;rw[Dn] at q;obtain⟨ws,rfl,q⟩:=q;refine jx λhg=>?_;have s1:=s.ext p1;obtain⟨s2,f2⟩:=s1.put (d1:=.rl (ds++ts)) (ob:=.lst (vs++ws)) hv e3 ⟨_,rfl,(e5.ext p1).append q⟩;have l:=e5.length;have l2:=q.length;refine⟨.nx env,h1.set b (.lst (vs++ws)),?_,O,s2,(Fm.refl s p1).trans (f2.fZ λj hj=>?_)⟩
  ·have g:=bU p1 e4;unfold met bnd ask bh aC put ret u5;dsimp only;rw[g];dsimp only;rw[if_pos (by rw[<-l,<-l2];exact hg)]
  ·rw[mem_singleton.mp hj];exact mem_append_left _ mem_cons_self
 ·trivial
theorem GG(hΦ:∀j,Imp (Φ j) (Ψ j))(ho:cV e=true):zf Φ Ψ ms (.expr e):=by
 have V:=v_all hΦ;have gen:(∀aa,bY Ψ ms (.expr e) aa=pb (aX Ψ e aa) λ_=>.ok (.nx aa))->zf Φ Ψ ms (.expr e):=λhx=>CF (V.1 e ho) hx;cases e with
 | met m a es =>
  cases m with
  | join=>exact gen λaa=>by rw[bY]<;>(intros;simp_all)
  | append =>
   cases a with
   | var i =>
    cases es with
    | nil=>exact gen λaa=>by rw[bY]<;>(intros;simp_all)
    | cons x r =>
     cases r with
     | nil=>rw[cV,ie,ie,and_eq_true,and_eq_true] at ho;exact AI (V.1 x ho.2.1)
     | cons _ _=>exact gen λaa=>by rw[bY]<;>(intros;simp_all)
   | _=>exact gen λaa=>by rw[bY]<;>(intros;simp_all)
  | extend =>
   cases a with
   | var i =>
    cases es with
    | nil=>exact gen λaa=>by rw[bY]<;>(intros;simp_all)
    | cons x r =>
     cases r with
     | nil=>rw[cV,ie,ie,and_eq_true,and_eq_true] at ho;exact AJ (V.1 x ho.2.1)
     | cons _ _=>exact gen λaa=>by rw[bY]<;>(intros;simp_all)
   | _=>exact gen λaa=>by rw[bY]<;>(intros;simp_all)
 | _=>exact gen λaa=>by rw[bY]<;>(intros;simp_all)
end
end Hv
end
section
namespace Hv
open PySem L2
section
variable {Φ:Nat->List Val->M Val} {Ψ:Nat->List Val->Pr FV} {ms:List Nat}
theorem AK{i:Nat}{l:List Nat}(h:i∈l):∀j∈[i],j∈l:=λj hj=>by rw[mem_singleton.mp hj];exact h
theorem LA(hΦ:∀j,Imp (Φ j) (Ψ j))(ho:cV e=true):zf Φ Ψ ms (.asg p e):=λA0 h0 aa env h O s=>by
 have V:=(v_all hΦ).1 e ho;cases p with
 | one i =>
  rw[eO,bY];try dsimp only
  split
  ·refine jx λhf=>?_
   refine bf s (OP hΦ hf ho aa env _ h s.xY s.er) λx h1 v p1 q1=>?_;obtain⟨f,d⟩:=x;cases d<;>first|trivial|skip
   ·obtain⟨h2,vs,rfl,rfl,p2,q2⟩:=q1 rfl;obtain⟨s2,f2⟩:=s.fresh (i:=i) p2 q2;exact⟨_,_,rfl,_,s2,f2.fZ (AK (by simp[mS,mj,stored]))⟩
   ·obtain⟨h2,vs,rfl,rfl,p2,q2⟩:=q1 rfl;obtain⟨s2,f2⟩:=s.fresh (i:=i) p2 q2;exact⟨_,_,rfl,_,s2,f2.fZ (AK (by simp[mS,mj,stored]))⟩
  ·refine bf s (V aa env _ h s.xY s.er) λx h1 v p1 q1=>?_
   have hnw:MN (mh x.1 x.2)=true->Dn (Al (Fr h0.length) O) h1 x.2 v:=λz=>by
    have hx:x.1=true:=by
     unfold mh at z;split at z
     ·rename_i hh;simp only[and_eq_true] at hh;exact hh.1
     ·cases z
    refine(q1.2 hx).fZ λo ho=>?_;cases o with
    | none=>exact ho.elim
    | some k=>exact⟨le_trans s.pre.length_le ho,λj _ e=>by have:=(s.own j k e).2.1;have ho':h.length<=k:=ho;omega⟩
   have hrd:qV (mh x.1 x.2)=true:=by unfold mh;split<;>rfl
   obtain⟨s2,f2⟩:=(s.ext p1).setM (i:=i) hrd q1.1 hnw;exact⟨_,_,rfl,_,s2,(Fm.refl s p1).trans (f2.fZ (AK (by simp[mS,mj,stored])))⟩
 | tup is =>
  rw[eO,bY];try dsimp only
  refine jx λhf=>bf s (V aa env _ h s.xY s.er) λx h1 v p1 q1=>?_;have s1:=s.ext p1;refine bf s1 (R:=λav h' env'=>∃O',SR A0 h0 av env' h' O'/\Fm (stored (.tup is)) aa env h1 O av env' h' O') (bg λav ev=>?_) λav h2 env' p2 hh=>?_
  ·obtain⟨env',O',b1,b2,b3⟩:=s1.bind ev q1.1;exact⟨env',b1,O',b2,b3⟩
  ·obtain⟨O',b2,b3⟩:=hh;exact bq ⟨O',b2,(Fm.refl s p1).trans (b3.fZ λj hj=>by simp only[mS,mj];exact mem_append_right _ hj)⟩
theorem LB{i:Nat}(hΦ:∀j,Imp (Φ j) (Ψ j))(ho:cV e=true):zf Φ Ψ ms (.aug i o e):=λA0 h0 aa env h O s=>by
 have V:=(v_all hΦ).1 e ho;rw[eO,bY];refine jx λhf=>bf s (R:=λx _ y=>y=x) (bg λx hx=>?_) λx h1 y p1 XF=>?_
 ·split at hx<;>cases hx
  rename_i f hv;have:=s.er i f _ hv;revert this;generalize qV f=t;intro this;cases t with
  | false=>rw[if_pos rfl] at this;obtain⟨_,_,k⟩:=this;exact False.elim k
  | true =>rw[if_neg (by decide)] at this;obtain⟨v,k1,k2⟩:=this;rw[Dn] at k2;subst k2;exact⟨x,by rw[k1],rfl⟩
 ·subst XF
  have s1:=s.ext p1;refine bf s1 (V aa env _ h1 s1.xY s1.er) λz h2 v p2 q2=>?_;have s2:=s1.ext p2;refine bf s2 (R:=λx _ y=>y=x) (bg λn en=>?_) λn h3 n' p3 XG=>?_
  ·obtain⟨f,d⟩:=z
   have q:=q2.1;cases d<;>first|(cases en;done)|skip
   dsimp only at q;rw[Dn] at q;subst q;exact⟨n,en,rfl⟩
  ·subst XG;have s3:=s2.ext p3;refine bf s3 (yZ (h0:=h3) s3.xY (prefix_refl _) (.inl (by rw[Dn])) (.inl (by rw[Dn]))) λw h4 w' p4 q4=>?_;obtain⟨s5,f5⟩:=(s3.ext p4).set (i:=i) q4.1;exact bq ⟨_,s5,(Fm.refl s (((p1.trans p2).trans p3).trans p4)).trans (f5.fZ (AK (by simp[mS,mj])))⟩
theorem zg(k:Key)(l:List (Key×Val)):(l.any λkv=>decide (kv.1=k))=((l.map (·.1)).any λx=>decide (x=k)):=by
 rw[any_map];rfl
theorem zh(e:Dn A h d v):∀{kvs:List (Key×Val)} {ds:List Val},ao A h ds (kvs.map (·.2)) ->
  ao A h ((((kvs.map (·.1)).zip ds).map λkv=>if kv.1=k then (kv.1,d) else kv).map (·.2)) ((kvs.map λkv=>if kv.1=k then (kv.1,v) else kv).map (·.2))
 | [],ds,q=>by simp only[map_nil,List.zip_nil_left];exact ao.nil
 | (k',v')::kvs,ds,q=>by
  have l:=q.length;cases ds with
  | nil=>simp at l
  | cons d' ds =>
   simp only[map_cons] at q;rw[ao] at q;obtain⟨v1,r,e1,q1,q2⟩:=q;cases e1;simp only[map_cons,zip_cons_cons];refine ao.cons ?_ (zh e q2)
   by_cases hk:k'=k
   ·rw[if_pos hk,if_pos hk];exact e
   ·rw[if_neg hk,if_neg hk];exact q1
theorem nY(k:Key)(d:Val)(l:List (Key×Val)):(l.map λkv=>if kv.1=k then (kv.1,d) else kv).map (·.1)=l.map (·.1):=by
 rw[map_map];refine map_congr_left λx _=>?_;show (if x.1=k then (x.1,d) else x).1=x.1
 split<;>rfl
theorem GH(hk:kvs.map (·.1)=ks)(q:ao A h ds (kvs.map (·.2)))(e:Dn A h d v) :
  (gI kvs k v).map (·.1)=(gI (ks.zip ds) k d).map (·.1)/\ao A h ((gI (ks.zip ds) k d).map (·.2)) ((gI kvs k v).map (·.2)):=by
 subst hk;have l:=q.length;rw[length_map] at l;have z1:((kvs.map (·.1)).zip ds).map (·.1)=kvs.map (·.1):=List.map_fst_zip (by rw[length_map];omega);have z2:((kvs.map (·.1)).zip ds).map (·.2)=ds:=List.map_snd_zip (by rw[length_map];omega);unfold gI;rw[zg,zg,z1]
 split
 ·rw[nY,nY,z1];exact⟨rfl,zh e q⟩
 ·rw[map_append,map_append,map_append,map_append,z1,z2];exact⟨rfl,q.append (ao.cons e ao.nil)⟩
theorem GI(hΦ:∀j,Imp (Φ j) (Ψ j))(ho:cV o=true)(hi:cV i=true)(hv:cV v=true):zf Φ Ψ ms (.e8 o i v):=λA0 h0 aa env h O s=>by
 have V:=(v_all hΦ).1;cases o with
 | var j =>
  rw[eO,bY];refine bf s (V v hv aa env _ h s.xY s.er) λx h1 w p1 q1=>?_;have s1:=s.ext p1
  split
  ·rename_i ds hj
   obtain⟨b,e2,e3,vs,e4,e5⟩:=s1.ow j _ hj;rw[aq (bQ e2)];refine bf s1 (V i hi aa env _ h1 s1.xY s1.er) λz h2 u p2 q2=>?_;have s2:=s1.ext p2;obtain⟨f,d⟩:=z;have q:=q2.1;cases d<;>first|trivial|skip
   dsimp only at q;rw[Dn] at q;subst q;rename_i kk;have g:=bU p2 e4;have l:=e5.length;show iM A0 h0 _ _ (pb (pl (z6 ds.length kk)) _);cases hn:z6 ds.length kk with
   | none=>trivial
   | some n =>obtain⟨s3,f3⟩:=s2.put (d1:=.rl (ds.set n x.2)) (ob:=.lst (vs.set n w)) hj e3 ⟨_,rfl,(e5.ext p2).set n (q1.1.ext p2)⟩;refine⟨.nx env,h2.set b (.lst (vs.set n w)),?_,O,s3,(Fm.refl s (p1.trans p2)).trans (f3.fZ (AK (by simp[mS,qd])))⟩;rw[l] at hn;simp only[sd];unfold bnd ask bh put ret;dsimp only;rw[g];dsimp only;rw[hn]
  ·rename_i ks ds hj
   obtain⟨b,e2,e3,kvs,e4,ek,e5⟩:=s1.ow j _ hj;rw[aq (bQ e2)];refine bf s1 (V i hi aa env _ h1 s1.xY s1.er) λz h2 u p2 q2=>?_;have s2:=s1.ext p2;obtain⟨f,d⟩:=z;have q:=q2.1;dsimp only at q;show iM A0 h0 _ _ (pb (pl (keyOf d)) _);cases hk:keyOf d with
   | none=>trivial
   | some kk =>
    have hu:keyOf u=some kk:=by
     cases d<;>simp only[keyOf] at hk<;>first|(cases hk;done)|skip
     all_goals (rw[Dn] at q;subst q;exact hk)
    show iM A0 h0 _ _ (pg _ _);refine jx λhl=>?_;have g:=bU p2 e4;obtain⟨k1,k2⟩:=GH (k:=kk) ek (e5.ext p2) (q1.1.ext p2);obtain⟨s3,f3⟩:=s2.put (d1:=putD ks ds kk x.2) (ob:=.dct (gI kvs kk w)) hj e3 ⟨_,rfl,k1,k2⟩;refine⟨.nx env,h2.set b (.dct (gI kvs kk w)),?_,O,s3,(Fm.refl s (p1.trans p2)).trans (f3.fZ (AK (by simp[mS,qd])))⟩;have hl':decide (kvs.length<sizeLine)=true:=by rw[<-ek,length_map] at hl;exact hl
    simp only[sd];unfold bnd ask bh put ret aC;dsimp only;rw[g];dsimp only;rw[hu];dsimp only;rw[if_pos hl']
  ·trivial
 | _=>rw[bY]<;>first|trivial|(intros;simp_all)
theorem LC(hΦ:∀j,Imp (Φ j) (Ψ j))(hc:cV c=true)(ha:tY Φ Ψ ms a)(hb:tY Φ Ψ ms b):zf Φ Ψ ms (.iff c a b):=λA0 h0 aa env h O s=>by
 have V:=(v_all hΦ).1 c hc;rw[eO,bY];refine bf s (kR V s.xY s.er) λx h1 v p1 q1=>?_;have s1:=s.ext p1;refine bf s1 (R:=λt _ t'=>t'=t) (bW λt et=>⟨t,tU q1 et,rfl⟩) λt h2 t' p2 et=>?_;subst et;have s2:=s1.ext p2;cases t' with
 | true =>
  rw[if_pos rfl,if_pos rfl];refine ja (ha A0 h0 aa env h2 O s2) λf h' g r=>(r.pre s (p1.trans p2)).fZ λi hi=>?_;simp only[GF,mS,qd,mj,mem_append] at hi |-
  rcases hi with z|z
  ·exact .inl (.inl z)
  ·exact .inr (.inl z)
 | false =>
  rw[if_neg Bool.false_ne_true,if_neg Bool.false_ne_true];refine ja (hb A0 h0 aa env h2 O s2) λf h' g r=>(r.pre s (p1.trans p2)).fZ λi hi=>?_;simp only[GF,mS,qd,mj,mem_append] at hi |-
  rcases hi with z|z
  ·exact .inl (.inr z)
  ·exact .inr (.inr z)
noncomputable def xZ(h:Hs)(O:Nat->Option Nat)(m:List Nat)(src:Src)(ws:List Val):Prop :=
 ∀h':Hs,(∀k,k<h.length->(∀i,O i≠some k)->h'[k]?=h[k]?)->(∀i,i∉m->∀a,O i=some a->h'[a]?=h[a]?)->src.items h'=some ws
theorem cH{i:Nat}(e:h[i]?=some (.lst ws)):(Src.live i).items h=some ws:=by simp[Src.items,aD,e]
theorem fF{i:Nat}(e:h[i]?=some (.lst ws)):(Src.enum i).items h=some (cT 0 ws):=by simp[Src.items,aD,e]
theorem vL{A0:AP}{h0:Hs}{m:List Nat}(hb:∀aa env h O x v,SR A0 h0 aa env h O->Dn (Al A0 O) h x v->iM A0 h0 (RF A0 h0 m aa env h O) (body v env h) (bodyV x aa))
  {mC:aR} {gA:Env} {h1:Hs} {O1:Nat->Option Nat} (st:xZ h1 O1 m src ws) :
  ∀(xs vs:List Val) (i:Nat) (aa:aR) (env:Env) (h:Hs) (O:Nat->Option Nat),SR A0 h0 aa env h O->Fm m mC gA h1 O1 aa env h O->ws.drop i=vs->ao (Al A0 O) h xs vs ->
   iM A0 h0 (RF A0 h0 m mC gA h1 O1) (forM src body vs.length i env h) (iV bodyV xs aa)
 | [],vs,i,aa,env,h,O,s,f,hd,q=>by
  rw[ao] at q;subst q;have hl:ws.length<=i:=List.drop_eq_nil_iff.mp hd;have hi:=st h (λk hk n=>(f.keep k hk n).1) (λj hj a e=>(f.stay j hj).2.2.2 a e);rw[iV];refine⟨.nx env,h,?_,O,s,f⟩;show forM src body 0 i env h=_;simp only[forM];unfold bnd ask bh aC;dsimp only;rw[hi];dsimp only;rw[if_pos (decide_eq_true hl)];rfl
 | x::xs,vs,i,aa,env,h,O,s,f,hd,q=>by
  rw[ao] at q;obtain⟨v,r,rfl,q1,q2⟩:=q;have hv:ws[i]?=some v:=by have:=congrArg (λl=>l[0]?) hd;simpa using this
  have hr:ws.drop (i+1)=r:=by
   have:ws.drop (i+1)=(ws.drop i).drop 1:=by rw[drop_drop]
   rw[this,hd];rfl
  have hi:=st h (λk hk n=>(f.keep k hk n).1) (λj hj a e=>(f.stay j hj).2.2.2 a e);have ev:forM src body (v::r).length i env h=bnd (body v env) (λf=>match f with
   | .nx env'=>forM src body r.length (i+1) env'
   | .ct env'=>forM src body r.length (i+1) env'
   | .bk env'=>ret (.nx env')
   | .rt v=>ret (.rt v)) h:=by
   show forM src body (r.length+1) i env h=_;simp only[forM];unfold bnd ask bh;dsimp only;rw[hi];dsimp only;rw[hv];try rfl
  rw[ev,iV];refine qi (hb aa env h O x v s q1) λfl h2 gl hr2=>?_;have go:∀av env' O',SR A0 h0 av env' h2 O'->Fm m aa env h O av env' h2 O'->iM A0 h0 (RF A0 h0 m mC gA h1 O1) (forM src body r.length (i+1) env' h2) (iV bodyV xs av):=λav env' O' s' f'=>by
   refine vL hb st xs r (i+1) av env' h2 O' s' (f.trans f') hr (ao.move j7 (λk o hk g=>?_) _ _ q2);have hlt:k<h.length:=(List.getElem?_eq_some_iff.mp g).1;obtain⟨a1,a2⟩:=f'.keep k hlt λi=>hk.2 i rfl;exact⟨⟨hk.1,λi _=>a2 i⟩,a1.trans g⟩
  cases fl<;>cases gl<;>first|exact hr2.elim|skip
  ·obtain⟨O',s',f'⟩:=hr2;exact go _ _ O' s' f'
  ·exact bq hr2
  ·obtain⟨O',s',f'⟩:=hr2;exact bq ⟨O',s',f.trans f'⟩
  ·obtain⟨O',s',f'⟩:=hr2;exact go _ _ O' s' f'
theorem CG{A0:AP}{m:List Nat}(q:Dn (Al A0 O) h d v)(e:gO k [d]=some xs):∃src ws,srcOf k [v]=some src/\ao (Al A0 O) h xs ws/\src.items h=some ws/\xZ h O m src ws:=by
 have lst:∀es,d=.rl es->(∃ws,v=.rl ws/\ao (Al A0 O) h es ws)\/∃a ws,v=.ref a/\h[a]?=some (.lst ws)/\ao (Al A0 O) h es ws/\∀h':Hs,(∀k,k<h.length->(∀i,O i≠some k)->h'[k]?=h[k]?)->h'[a]?=some (Ob.lst ws):=by
  rintro es rfl;rw[Dn] at q
  rcases q with ⟨ws,rfl,_,q⟩|⟨a,ws,rfl,al,g,q⟩
  ·exact .inl ⟨ws,rfl,q⟩
  ·exact .inr ⟨a,ws,rfl,g,q,λh' hk=>(hk a (List.getElem?_eq_some_iff.mp g).1 λi=>al.2 i rfl).trans g⟩
 cases k with
 | seq =>
  cases d<;>first|(cases e;done)|skip
  ·cases e;rw[Dn] at q;obtain⟨ws,rfl,q⟩:=q;exact⟨.fix ws,ws,rfl,q,rfl,λ_ _ _=>rfl⟩
  ·cases e
   rcases lst _ rfl with ⟨ws,rfl,q'⟩|⟨a,ws,rfl,g,q',st⟩
   ·exact⟨.fix ws,ws,rfl,q',rfl,λ_ _ _=>rfl⟩
   ·exact⟨.live a,ws,rfl,q',cH g,λh' hk _=>cH (st h' hk)⟩
 | range =>
  cases d<;>first|(cases e;done)|skip
  rw[Dn] at q;subst q;rename_i n;change (if inR n=true then some (cu 0 n.toNat) else none)=some _ at e;split at e
  ·rename_i hn;cases e;exact⟨.fix _,_,if_pos hn,iY,rfl,λ_ _ _=>rfl⟩
  ·cases e
 | enum =>
  cases d<;>first|(cases e;done)|skip
  cases e
  rcases lst _ rfl with ⟨ws,rfl,q'⟩|⟨a,ws,rfl,g,q',st⟩
  ·exact⟨.fix _,_,rfl,f7 0 q',rfl,λ_ _ _=>rfl⟩
  ·exact⟨.enum a,_,rfl,f7 0 q',fF g,λh' hk _=>fF (st h' hk)⟩
 | zip=>cases e
theorem CH{α β γ δ:Type}{R:α -> Hs -> β -> Prop}{R':γ -> Hs -> δ -> Prop}{m:M β}{f:β -> M δ}{p:Pr α}{F:α -> Pr γ}(r:Rel A h R (m h) p)(k:∀a h1 b,p=.ok a->h<+:h1->R a h1 b->Rel A h1 R' (f b h1) (F a)):Rel A h R' (bnd m f h) (pb p F):=by
 unfold bnd;cases p with
 | ok a =>
  obtain⟨b,h1,e,q,r⟩:=r;rw[e];show Rel A h R' (f b h1) (F a);have:=k a h1 b rfl q r;cases e2:F a with
  | ok c=>rw[e2] at this;obtain⟨d,h2,e3,q2,r2⟩:=this;exact⟨d,h2,e3,q.trans q2,r2⟩
  | exc c es=>rw[e2] at this;obtain⟨d,h2,e3,q2,r2⟩:=this;exact⟨d,h2,e3,q.trans q2,r2⟩
  | no=>trivial
 | exc c es =>obtain⟨ws,h1,e,q,r⟩:=r;rw[e];exact⟨ws,h1,rfl,q,r⟩
 | no=>trivial
theorem CI{e e2:IE}(h:gQ Ψ (.cons e (.cons e2 r)) aa=.ok ds):2<=ds.length:=by
 rw[gQ,gQ] at h;cases h1:(if isVar e=true then pl (gP aa e) else aX Ψ e aa) with
 | ok a =>
  rw[h1] at h;cases h2:(if isVar e2=true then pl (gP aa e2) else aX Ψ e2 aa) with
  | ok b =>
   rw[h2] at h;cases h3:gQ Ψ r aa with
   | ok c=>rw[h3] at h;cases h;simp
   | exc _ _=>rw[h3] at h;cases h
   | no=>rw[h3] at h;cases h
  | exc _ _=>rw[h2] at h;cases h
  | no=>rw[h2] at h;cases h
 | exc _ _=>rw[h1] at h;cases h
 | no=>rw[h1] at h;cases h
theorem CJ{d1 d2:Val}(ex:gO k [d1,d2]=some xs):k=.range/\∃n m,d1=.int n/\d2=.int m/\(inR n&&inR m)=true/\xs=cu n (m-n).toNat:=by
 cases k with
 | seq=>cases d1<;>cases ex
 | enum=>cases d1<;>cases ex
 | zip=>cases ex
 | range =>
  cases d1<;>first|(cases ex;done)|skip
  cases d2<;>first|(cases ex;done)|skip
  rename_i n m;change (if (inR n&&inR m)=true then some (cu n (m-n).toNat) else none)=some xs at ex
  by_cases hn:(inR n&&inR m)=true
  ·rw[if_pos hn] at ex;cases ex;exact⟨rfl,n,m,rfl,rfl,hn,rfl⟩
  ·rw[if_neg hn] at ex;cases ex
theorem x6{d1 d2 d3:Val}:gO k (d1::d2::d3::r)=none:=by
 cases k with
 | seq=>cases d1<;>rfl
 | enum=>cases d1<;>rfl
 | zip=>rfl
 | range=>cases d1<;>first|rfl|(cases d2<;>rfl)
theorem GJ{A0:AP}{h0:Hs}{m:List Nat}(hΦ:∀j,Imp (Φ j) (Ψ j))(hi:ie it=true)(s:SR A0 h0 aa env h O)(hm:∀i,it=.cons (.var i) .nil->i∉m) :
  Rel (Al A0 O) h (λxs h' src=>∃ws,ao (Al A0 O) h' xs ws/\src.items h'=some ws/\xZ h' O m src ws) (bnd (aU Φ it env) (λits=>bh (srcOf k its)) h) (pb (gQ Ψ it aa) λits=>pl (gO k its)):=by
 have V:=v_all hΦ;cases it with
 | nil=>rw[gQ];cases k<;>trivial
 | cons e es =>
  cases es with
  | nil =>
   rw[ie,and_eq_true] at hi
   by_cases hv:isVar e=true
   ·cases e<;>first|(cases hv;done)|skip
    rename_i i;rw[gQ,gQ,if_pos hv];simp only[gP];cases hx:aa[i]? with
    | none=>trivial
    | some o =>
     cases o with
     | none=>trivial
     | some fd =>
      obtain⟨f,d⟩:=fd;show Rel _ _ _ _ (pl (gO k [d]));cases hf:qV f with
      | false =>
       have hf:f=.ow:=by cases f<;>first|rfl|cases hf
       subst hf;obtain⟨a,e2,e3,e4⟩:=s.ow i d hx;have ev:bnd (aU Φ (.cons (.var i) .nil) env) (λits=>bh (srcOf k its)) h=bh (srcOf k [.ref a]) h:=by rw[aU,aU,aN,aq (bQ e2)];rfl
       rw[ev];refine bg λxs ex=>?_;have hd:∃ds,d=.rl ds:=by cases d<;>first|exact⟨_,rfl⟩|exact False.elim e4|(cases k<;>cases ex)
       obtain⟨ds,rfl⟩:=hd;obtain⟨vs,e4,e5⟩:=e4;have st:∀h':Hs,(∀i,i∉m->∀a,O i=some a->h'[a]?=h[a]?)->h'[a]?=some (Ob.lst vs):=λh' hs=>(hs i (hm i rfl) a e3).trans e4;cases k with
       | seq=>cases ex;exact⟨.live a,rfl,vs,e5,cH e4,λh' _ hs=>cH (st h' hs)⟩
       | range=>cases ex
       | enum=>cases ex;exact⟨.enum a,rfl,_,f7 0 e5,fF e4,λh' _ hs=>fF (st h' hs)⟩
       | zip=>cases ex
      | true =>
       obtain⟨v,e1,e2,_⟩:=s.sh i f d hx hf;have ev:bnd (aU Φ (.cons (.var i) .nil) env) (λits=>bh (srcOf k its)) h=bh (srcOf k [v]) h:=by rw[aU,aU,aN,aq (bQ e1)];rfl
       rw[ev];refine bg λxs ex=>?_;obtain⟨src,ws,a1,a2,a3,a4⟩:=CG (m:=m) e2 ex;exact⟨src,a1,ws,a2,a3,a4⟩
   ·rw[gQ,gQ,if_neg hv]
    have ev:bnd (aU Φ (.cons e .nil) env) (λits=>bh (srcOf k its)) h=bnd (aF Φ e env) (λv=>bh (srcOf k [v])) h:=by rw[aU,aU,aN];rfl
    rw[ev];have ep:(pb (pb (aX Ψ e aa) λd=>pb (Pr.ok ([]:List Val)) λp=>Pr.ok (d.2::p)) λits=>pl (gO k its))=pb (aX Ψ e aa) λd=>pl (gO k [d.2]):=by cases aX Ψ e aa<;>rfl
    rw[ep];refine ah (V.1 e hi.1 aa env _ h s.xY s.er) λx h1 v p1 q1=>bg λxs ex=>?_;obtain⟨src,ws,a1,a2,a3,a4⟩:=CG (m:=m) q1.1 ex;exact⟨src,a1,ws,a2,a3,a4⟩
  | cons e2 r =>
   have V2:=V.2 _ hi;refine CH (V2.2 aa env _ h s.xY s.er) λds h1 vs eb p1 q1=>bg λxs ex=>?_;have hl:2<=ds.length:=CI eb
   match ds,q1 with
   | [],q1=>cases k<;>cases ex
   | [d],q1=>simp at hl
   | [d1,d2],q1 =>obtain⟨v,rr,rfl,hv,hr⟩:=q1;obtain⟨w,rfl,hw⟩:=Gu.one hr;obtain⟨rfl,n,m',rfl,rfl,hn,rfl⟩:=CJ ex;have:=hv.int;subst this;have:=hw.int;subst this;exact⟨.fix _,if_pos hn,_,iY,rfl,λ_ _ _=>rfl⟩
   | d1::d2::d3::dr,q1=>rw[x6] at ex;cases ex
theorem LD(hΦ:∀j,Imp (Φ j) (Ψ j))(hi:ie it=true)(hb:tY Φ Ψ ms body):zf Φ Ψ ms (.for p k it body):=λA0 h0 aa env h O s=>by
 rw[eO,bY];refine jx λhg=>?_;rw[and_eq_true] at hg;have hm:∀i,it=.cons (.var i) .nil->i∉mS (.for p k it body):=by
  rintro i rfl z;simp only[vF,and_eq_true,not_eq_true',List.contains_eq_mem,decide_eq_false_iff_not] at hg;simp only[mS,qd,mj,mem_append] at z
  rcases z with z|z|z
  ·exact hg.1.1.1 z
  ·exact hg.1.2 z
  ·exact hg.1.1.2 z
 have ev:∀(F:Src->M Fl),bnd (aU Φ it env) (λits=>bnd (bh (srcOf k its)) F) h=bnd (bnd (aU Φ it env) λits=>bh (srcOf k its)) F h:=λF=>by rw[aN]
 have ep:∀(F:List Val->Pr wJ),pb (gQ Ψ it aa) (λits=>pb (pl (gO k its)) F)=pb (pb (gQ Ψ it aa) λits=>pl (gO k its)) F:=λF=>by cases gQ Ψ it aa<;>rfl
 rw[ev,ep];refine bf s (GJ (m:=mS (.for p k it body)) hΦ hi s hm) λxs h1 src p1 hx=>?_;obtain⟨ws,q1,q2,st⟩:=hx;have s1:=s.ext p1;have l:=q1.length;have Sn:∀(F:List Val->M Fl),bnd (ask λh=>src.items h) F h1=F ws h1:=λF=>by unfold bnd ask bh;dsimp only;rw[q2]
 rw[Sn];refine ja (vL (m:=mS (.for p k it body)) (λav env' h' O' x v s' qx=>?_) st xs ws 0 aa env h1 O s1 (Fm.refl s1 (prefix_refl _)) rfl q1) λf h' g r=>r.pre s p1;refine bf s' (R:=λiZ h2 iI=>∃O2,SR A0 h0 iZ iI h2 O2/\Fm (stored p) av env' h' O' iZ iI h2 O2) (bg λiZ e2=>?_) λiZ h2 iI p2 hh=>?_
 ·obtain⟨iI,O2,b1,b2,b3⟩:=s'.bind e2 qx;exact⟨iI,b1,O2,b2,b3⟩
 ·obtain⟨O2,b2,b3⟩:=hh
  refine ja (hb A0 h0 iZ iI h2 O2 b2) λf h'' g r=>RF.seq (b3.fZ λi hi=>?_) (r.fZ λi hi=>?_)
  ·simp only[mS,qd,mj,mem_append];exact .inr (.inl hi)
  ·simp only[GF,mS,qd,mj,mem_append] at hi |-
   rcases hi with z|z
   ·exact .inl z
   ·exact .inr (.inr z)
theorem LF{n:Nat}(hΦ:∀j,Imp (Φ j) (Ψ j))(hc:cV c=true)(hb:tY Φ Ψ ms body):zf Φ Ψ ms (.whl n c body):=λA0 h0 aa env h O s=>by rw[bY];trivial
theorem CK:qV (VL m)=true:=by cases m<;>rfl
theorem SR.fr{A0:AP}{h0:Hs}(s:SR A0 h0 aa env h O):ER A0 (oE aa) env h:=λi f d e=>by
 unfold oE at e;rw[getElem?_map] at e;cases hx:aa[i]? with
 | none=>rw[hx] at e;cases e
 | some o =>
  rw[hx] at e;cases o with
  | none=>cases e
  | some fd =>
   obtain⟨m,d'⟩:=fd;cases e;rw[if_neg (by rw[CK];decide)];cases hm:qV m with
   | false =>
    have hm:m=.ow:=by cases m<;>first|rfl|cases hm
    subst hm;obtain⟨a,e2,e3,e4⟩:=s.ow i d hx;exact⟨_,e2,(e4.mono (A':=A0) (λ_ g=>g) λ_ _ z=>z.fZ λ_ y=>y.1).dn (s.up a (s.own i a e3).1)⟩
   | true =>obtain⟨v,e1,e2,_⟩:=s.sh i m d hx hm;exact⟨v,e1,e2.fZ λ_ z=>z.1⟩
theorem sD{A0:AP}{h0:Hs}{α β γ δ:Type}{R:α -> Hs -> β -> Prop}{R':γ -> Hs -> δ -> Prop}{mm:M β}{f:β -> M δ}{p:Pr α}{F:α -> Pr γ}(s:SR A0 h0 aa env h O)(r:Rel A0 h R (mm h) p)(k:∀a h1 b,h<+:h1->R a h1 b->iM A0 h0 R' (f b h1) (F a)):iM A0 h0 R' (bnd mm f h) (pb p F):=by
 unfold bnd;cases p with
 | ok a=>obtain⟨b,h1,e,q,r⟩:=r;rw[e];exact k a h1 b q r
 | exc c es=>obtain⟨ws,h1,e,q,r⟩:=r;rw[e];exact⟨ws,h1,rfl,s.pre.trans q,r⟩
 | no=>trivial
theorem LG(hΦ:∀j,Imp (Φ j) (Ψ j))(ho:cV e=true):zf Φ Ψ ms (.ret e):=λA0 h0 aa env h O s=>by
 have V:=(v_all hΦ).1 e ho;have gen:Om Ψ e aa=aX Ψ e aa->iM A0 h0 (RF A0 h0 (mS (.ret e)) aa env h O) (eO Φ (.ret e) env h) (bY Ψ ms (.ret e) aa):=λhe=>by
  rw[eO,bY,he];exact bf s (V aa env _ h s.xY s.er) λx h1 v p1 q1=>bq ⟨q1.1.fZ λ_ z=>z.1,λf=>(q1.2 f).fZ (Fr.le s.pre.length_le),s.pre.trans p1⟩
 cases e with
 | var i =>
  rw[eO,bY];simp only[Om];cases hx:aa[i]? with
  | none=>trivial
  | some o =>
   cases o with
   | none=>trivial
   | some fd =>
    obtain⟨f,d⟩:=fd;cases hf:qV f with
    | false =>
     have hf:f=.ow:=by cases f<;>first|rfl|cases hf
     subst hf;obtain⟨a,e2,e3,e4⟩:=s.ow i d hx;rw[aq (bQ e2)];have ha:=s.own i a e3;cases d<;>first|exact False.elim e4|skip
     ·refine⟨_,h,rfl,?_,λhi=>?_,s.pre⟩
      ·exact(e4.mono (A':=A0) (λ_ g=>g) λ_ _ z=>z.fZ λ_ y=>y.1).dn (s.up a ha.1)
      ·obtain⟨vs,e4,e5⟩:=e4;show Dn _ h (.rl _) (.ref a);rw[Dn];exact .inr ⟨a,vs,rfl,ha.1,e4,f6 e5 hi⟩
     ·refine⟨_,h,rfl,?_,λhi=>?_,s.pre⟩
      ·exact(e4.mono (A':=A0) (λ_ g=>g) λ_ _ z=>z.fZ λ_ y=>y.1).dn (s.up a ha.1)
      ·obtain⟨kvs,e4,ek,e5⟩:=e4;show Dn _ h (.dc _ _) (.ref a);rw[Dn];exact⟨a,kvs,rfl,ha.1,e4,ek,f6 e5 hi⟩
    | true =>
     obtain⟨v,e1,e2,e3⟩:=s.sh i f d hx hf;rw[aq (bQ e1)];dsimp only;rw[if_pos hf];refine⟨_,h,rfl,e2.fZ λ_ z=>z.1,λhi=>?_,s.pre⟩
     rcases(or_eq_true _ _).mp hi with hi|hi
     ·exact(iK d v hi).mpr ((iK d v hi).mp e2)
     ·exact(e3 hi).fZ λ_ z=>z.1
 | call j es =>rw[eO,bY];exact sD s (V (oE aa) env A0 h (s.up.ext s.pre) s.fr) λx h1 v p1 q1=>bq ⟨q1.1,λf=>(q1.2 f).fZ (Fr.le s.pre.length_le),s.pre.trans p1⟩
 | tup es =>rw[eO,bY];exact sD s (V (oE aa) env A0 h (s.up.ext s.pre) s.fr) λx h1 v p1 q1=>bq ⟨q1.1,λf=>(q1.2 f).fZ (Fr.le s.pre.length_le),s.pre.trans p1⟩
 | _=>exact gen rfl
theorem LH:tY Φ Ψ ms .nil:=λA0 h0 aa env h O s=>by rw[dX,eB];exact bq ⟨O,s,Fm.refl s (prefix_refl _)⟩
theorem GK(ha:zf Φ Ψ ms a)(hr:tY Φ Ψ ms r):tY Φ Ψ ms (.cons a r):=λA0 h0 aa env h O s=>by
 rw[dX,eB];have w1:∀i∈mS a,i∈GF (.cons a r):=λi hi=>by
  simp only[mS,GF,gR,j4,mem_append] at hi |-
  rcases hi with z|z
  ·exact .inl (.inl z)
  ·exact .inr (.inl z)
 have w2:∀i∈GF r,i∈GF (.cons a r):=λi hi=>by
  simp only[GF,gR,j4,mem_append] at hi |-
  rcases hi with z|z
  ·exact .inl (.inr z)
  ·exact .inr (.inr z)
 refine qi (ha A0 h0 aa env h O s) λf h1 g rr=>?_;have rr:=rr.fZ w1;cases f<;>cases g<;>first|exact rr.elim|skip
 ·obtain⟨O',s',f'⟩:=rr;exact ja (hr A0 h0 _ _ h1 O' s') λf h' g r'=>RF.seq f' (r'.fZ w2)
 ·exact bq rr
 ·exact bq rr
 ·exact bq rr
theorem OQ(hΦ:∀j,Imp (Φ j) (Ψ j)):∀ss,qj ss=true->tY Φ Ψ ms ss:=by
 intro ss;refine fy.rec (motive_1:=λs=>Sm s=true->zf Φ Ψ ms s) (motive_2:=λss=>qj ss=true->tY Φ Ψ ms ss) ?_ ?_ ?_ ?_ ?_ ?_ ?_ ?_ ?_ ?_ ?_ ?_ ?_ ?_ ?_ ?_ ss
 ·exact λe f=>GG hΦ f
 ·exact λp e f=>LA hΦ f
 ·exact λi o e f=>LB hΦ f
 ·intro o i v f;have f:=tX f;exact GI hΦ f.1.1 f.1.2 f.2
 ·intro c a b ia ib f;have f:=tX f;exact LC hΦ f.1.1 (ia f.1.2) (ib f.2)
 ·intro p k it b ib f;have f:=iX f;exact LD hΦ f.1 (ib f.2)
 ·intro n c b ib f;have f:=iX f;exact LF hΦ f.1 (ib f.2)
 ·exact λe f=>LG hΦ f
 ·exact λ_ A0 h0 aa env h O s=>by rw[eO,bY];exact bq ⟨by rw[Dn],λ_=>by rw[Dn],s.pre⟩
 ·exact λ_ A0 h0 aa env h O s=>by rw[eO,bY];exact bq ⟨O,s,Fm.refl s (prefix_refl _)⟩
 ·exact λ_ A0 h0 aa env h O s=>by rw[eO,bY];exact bq ⟨O,s,Fm.refl s (prefix_refl _)⟩
 ·exact λ_ A0 h0 aa env h O s=>by rw[eO,bY];exact bq ⟨O,s,Fm.refl s (prefix_refl _)⟩
 ·exact λ_ A0 h0 aa env h O s=>by rw[bY];trivial
 ·exact λ_ _ _ _ _ A0 h0 aa env h O s=>by rw[bY];trivial
 ·exact λ_=>LH
 ·intro a r ia ir f;have f:=iX f;exact GK (ia f.1) (ir f.2)
theorem OS{n:Nat}(u:Up A h)(q:ao A h ds vs):SR A h (ds.map (λd=>some (.sh,d))++replicate (n-ds.length) none) (vs.map some++replicate (n-vs.length) none) h (λ_=>none):=by
 have l:=q.length;have al:∀k,A k->Al A (λ_=>none) k:=λk hk=>⟨hk,λi z e=>by subst e;cases z⟩;have get:∀(i:Nat) (f:Mk) (d:Val),(ds.map (λd=>some (.sh,d))++replicate (n-ds.length) none:aR)[i]?=some (some (f,d))->f=.sh/\ds[i]?=some d:=λi f d e=>by
  by_cases hi:i<ds.length
  ·rw[getElem?_append_left (by simpa using hi),getElem?_map] at e
   cases ei:ds[i]? with
   | none=>rw[ei] at e;cases e
   | some d'=>rw[ei] at e;cases e;exact⟨rfl,rfl⟩
  ·rw[getElem?_append_right (by simp;omega)] at e;have:=mem_of_getElem? e;rw[mem_replicate] at this;exact absurd this.2 (by simp)
 refine⟨by simp[l],λi m d e hm=>?_,λi d e=>?_,(λi a e=>nomatch e),(λi j a e=>nomatch e),prefix_refl _,u⟩
 ·obtain⟨hm',e⟩:=get i m d e;obtain⟨v,k1,k2⟩:=q.get e;have hi:i<vs.length:=(List.getElem?_eq_some_iff.mp k1).1;exact⟨v,by rw[getElem?_append_left (by simpa using hi),getElem?_map,k1];rfl,k2.fZ al,λz=>by subst hm';cases z⟩
 ·obtain⟨z,_⟩:=get i .ow d e;cases z
theorem cI{n:Nat}(hΦ:∀j,Imp (Φ j) (Ψ j))(ho:qj body=true):Imp (iF Φ n body) (gz Ψ n body):=λA h ds vs u q=>by
 have l:=q.length;have s:=OS (n:=n) u q;unfold iF gz;have r:=qi (R':=λx h' v=>h<+:h'/\RV A h x h' v) (OQ (ms:=gR body) hΦ body ho A h _ _ h _ s) (f:=λf=>match f with
  | .nx _=>ret .non
  | .rt v=>ret v
  | _=>bh none) (F:=λf=>match f with
  | .nx _=>.ok (true,.non)
  | .rt p=>.ok p
  | _=>.no) λf h1 g rr=>by
   cases f<;>cases g<;>first|exact rr.elim|skip
   ·obtain⟨O',s',_⟩:=rr;exact bq ⟨s'.pre,by show Dn _ _ Val.non _;rw[Dn],λ_=>by show Dn _ _ Val.non _;rw[Dn]⟩
   ·exact bq ⟨rr.2.2,rr.1,rr.2.1⟩
   ·trivial
   ·trivial
 revert r;generalize (pb (eB Ψ (gR body) body (ds.map (λd=>some (.sh,d))++replicate (n-ds.length) none)) _)=p;intro r;cases p with
 | ok x=>obtain⟨v,h',e,a,b⟩:=r;exact⟨v,h',e,a,b⟩
 | exc c es=>exact r
 | no=>trivial
end
end Hv
end
section
namespace Hv
open PySem L2
noncomputable abbrev bD:=List Val->Pr FV
noncomputable def ak(gs:List bD)(j:Nat):bD:=match gs[j]? with
 | some g=>g
 | none=>λ_=>.no
noncomputable def fG(fs:List Row)(gs:List bD):Prop:=fs.length=gs.length/\∀(j:Nat) (r:Row) (g:bD),fs[j]?=some r->gs[j]?=some g->Imp r.2.2 g
theorem CL:fG [] []:=⟨rfl,λj r g e=>by simp at e⟩
theorem aI(a:fG fs gs)(j:Nat):Imp (look fs j) (ak gs j):=by
 unfold look ak;cases e:fs[j]? with
 | none =>
  have:gs[j]?=none:=by have:=List.getElem?_eq_none_iff.mp e;exact List.getElem?_eq_none_iff.mpr (by rw[<-a.1];exact this)
  rw[this];exact λ_ _ _ _ _ _=>trivial
 | some r =>
  cases e2:gs[j]? with
  | none=>exact λ_ _ _ _ _ _=>trivial
  | some g=>exact a.2 j r g e e2
theorem aK{k:Nat}(a:fG fs gs)(i:Imp f g):fG (fs++[(x,k,f)]) (gs++[g]):=by
 refine⟨by simp[a.1],λj r g' e1 e2=>?_⟩
 by_cases hj:j<fs.length
 ·rw[getElem?_append_left hj] at e1;rw[getElem?_append_left (by rw[<-a.1];exact hj)] at e2;exact a.2 j r g' e1 e2
 ·rw[getElem?_append_right (by omega)] at e1
  rw[getElem?_append_right (by rw[<-a.1];omega)] at e2;have hj0:j-fs.length=0:=by have:=(List.getElem?_eq_some_iff.mp e1).1;simp at this;omega
  rw[<-a.1] at e2;rw[hj0] at e1 e2;simp at e1 e2;subst e1;subst e2;exact i
end Hv
end
section
namespace Hv
open PySem L2
section
variable {α β γ:Type}
theorem bT(a:α)(f:α -> Pr β):pb (.ok a) f=f a:=rfl
theorem CM(c:Prop)[Decidable c](m n:Pr α)(f:α -> Pr β):pb (if c then m else n) f=if c then pb m f else pb n f:=by split<;>rfl
theorem kY(m:Pr α)(f:α -> Pr β)(g:β -> Pr γ):pb (pb m f) g=pb m λx=>pb (f x) g:=by cases m<;>rfl
theorem gB(a:α):pl (some a)=.ok a:=rfl
theorem tZ(m:Pr α):pg true m=m:=rfl
theorem CN(c:Prop)[Decidable c](m:Pr α):pg (decide c) m=if c then m else .no:=by unfold pg;simp
theorem t6{c:Bool}(h:c=true)(m:Pr α):pg c m=m:=by rw[h];rfl
end
theorem zj{f:Bool}:qV (mh f d)=true:=by unfold mh;split<;>rfl
theorem Ie:qV .sh=true:=rfl
theorem Ig:qV .nw=true:=rfl
theorem Ih:qV .ow=false:=rfl
theorem Ii:MN .sh=false:=rfl
theorem Ij:MN .nw=true:=rfl
theorem CO{f:Bool}{i:Int}:mh f (.int i)=.sh:=by cases f<;>rfl
theorem Il{f:Bool}{i:Bool}:mh f (.bl i)=.sh:=by cases f<;>rfl
theorem CP{f:Bool}:mh f (.str i)=.sh:=by cases f<;>rfl
theorem CQ{f:Bool}:mh f .non=.sh:=by cases f<;>rfl
theorem OT:mh false d=.sh:=rfl
theorem Im:mh true (.rl ds)=.nw:=rfl
theorem Io:mh true (.dc ks ds)=.nw:=rfl
section
variable {a b:Int} {x y:Str} {t:Bool} {vs ws:List Val} {v:Val}
theorem Ip:j3 .add (.int a) (.int b)=.ok (true,.int (a+b)):=rfl
theorem Iq:j3 .sub (.int a) (.int b)=.ok (true,.int (a-b)):=rfl
theorem Ir(h:jV a b=true):j3 .mul (.int a) (.int b)=.ok (true,.int (a*b)):=by simp only[j3];exact t6 h _
theorem gn(h:ic b=true):j3 .fdiv (.int a) (.int b)=.ok (true,.int (a/b)):=by simp only[j3];exact t6 h _
theorem gb(h:decide (0<b)=true):j3 .mod (.int a) (.int b)=.ok (true,.int (a%b)):=by simp only[j3];exact t6 h _
theorem zk(h:decide (0<=b/\b<=1000000/\a.natAbs<2 ^ 64)=true):j3 .pow (.int a) (.int b)=.ok (true,.int (a ^ b.toNat)):=by simp only[j3];exact t6 h _
theorem OU:cop [] .lt (.int a) (.int b)=some (decide (a<b)):=rfl
theorem OV:cop [] .le (.int a) (.int b)=some (decide (a<=b)):=rfl
theorem OW:cop [] .gt (.int a) (.int b)=some (decide (b<a)):=rfl
theorem OX:cop [] .ge (.int a) (.int b)=some (decide (b<=a)):=rfl
theorem OY:cop [] .eq (.int a) (.int b)=some (decide (a=b)):=by
 show some (a==b)=_
 congr 1
theorem OZ:cop [] .ne (.int a) (.int b)=some (!decide (a=b)):=by
 show some (!(a==b))=_
 congr 1
theorem Iu:cop [] .isn v .non=some (pP v):=by cases v<;>rfl
theorem Iv:cop [] .ntn v .non=some (!pP v):=by cases v<;>rfl
theorem zl:dJ [] (.bl t)=some t:=rfl
theorem Iw:dJ [] (.int a)=some (a != 0):=rfl
theorem Iz:dJ [] (.rl vs)=some (!vs.isEmpty):=rfl
theorem ID:dJ [] (.tup vs)=some (!vs.isEmpty):=rfl
theorem IF:iJ .len [.rl vs]=.ok (true,.int vs.length):=rfl
theorem IG:iJ .len [.tup vs]=.ok (true,.int vs.length):=rfl
theorem II:iJ .min [.int a,.int b]=.ok (true,.int (if b<a then b else a)):=rfl
theorem IJ:iJ .max [.int a,.int b]=.ok (true,.int (if b>a then b else a)):=rfl
theorem CS:iJ .min [.tup [.int a,.int b]]=.ok (true,.int (min a b)):=rfl
theorem CT:iJ .max [.tup [.int a,.int b]]=.ok (true,.int (max a b)):=rfl
theorem CU:iJ .list [.rl vs]=.ok (bw vs,.rl vs):=rfl
theorem CV:iJ .list [.tup vs]=.ok (bw vs,.rl vs):=rfl
theorem IK:iJ .int [.bl t]=.ok (true,.int (if t=true then 1 else 0)):=rfl
theorem j9(h:jQ vs a=some v):ni [] (.rl vs) (.int a)=some v:=h
theorem mD(h:jQ vs a=some v):ni [] (.tup vs) (.int a)=some v:=h
end
theorem CW:jQ (v::vs) (0:Int)=some v:=by
 have:=lQ (xs:=v::vs) (j:=0) (v:=v) rfl;exact this
theorem AL:jQ (u::v::vs) (1:Int)=some v:=by
 have:=lQ (xs:=u::v::vs) (j:=1) (v:=v) rfl;exact this
theorem AM{T:String}{t:String}(h1:u6 [] v=some t)(h2:u7 T t=some true):iJ (.isin T) [v]=.ok (true,.bl true):=by
 show pb (pl (u6 [] v)) _=_;rw[h1,gB,bT,h2];rfl
theorem x8{T:String}{t:String}(h1:u6 [] v=some t)(h2:u7 T t=some false):iJ (.isin T) [v]=.ok (true,.bl false):=by
 show pb (pl (u6 [] v)) _=_;rw[h1,gB,bT,h2];rfl
theorem ne_self(h:toD 16 [] d=some p)(hp:p.canLay0=true):cop [] .ne d d=some false:=by
 simp only[cop,Be,h,bind_some];rw[SeqAt.eqv_refl p hp];rfl
end Hv
end
section
namespace Hv
open PySem L2
theorem e9:gO .seq [.rl vs]=some vs:=rfl
theorem CY:Cv .seq ds=gO .seq ds:=rfl
theorem CZ:Cv .range ds=gO .range ds:=rfl
theorem Dc:Cv .enum ds=gO .enum ds:=rfl
theorem O0:gO .enum [.rl vs]=some (cT 0 vs):=rfl
theorem IL{lo hi:Option Int}:AH (.rl vs) lo hi=.ok (bw (dR vs lo hi),.rl (dR vs lo hi)):=rfl
theorem bR{i:Nat}:cA (.one i) d env=some (env.set i (some (.sh,d))):=rfl
theorem LI{i j:Nat}:cA (.tup [i,j]) (.tup [d,e]) env=some ((env.set i (some (.sh,d))).set j (some (.sh,e))):=rfl
theorem vM{α β:Type}(f:α -> β)(ds:List α)(lo hi:Option Int):dR (ds.map f) lo hi=(dR ds lo hi).map f:=by
 unfold dR;simp only[length_map,List.map_take,List.map_drop]
theorem Dd{α:Type}(ds:List α)(lo hi:Option Int):(dR ds lo hi).length<=ds.length:=by
 unfold dR;simp only[length_take,length_drop];omega
theorem kJ:∀(i:Nat) (ds:List Val),(cT i ds).length=ds.length
 | _,[]=>rfl
 | i,d::r=>by rw[cT,length_cons,kJ (i+1) r,length_cons]
theorem mE{α β γ:Type}{f:β -> Option γ}{g:α -> β}{k:α -> γ}:∀(xs:List α),(∀x∈xs,f (g x)=some (k x))->cD f (xs.map g)=some (xs.map k)
 | [],_=>rfl
 | x::r,h=>by
  rw[map_cons,cD,h x mem_cons_self,mE r λy hy=>h y (mem_cons_of_mem _ hy)];rfl
theorem ints_map(xs:List Int):aT (xs.map .int)=some xs:=by
 have:=mE (f:=λv=>match v with|.int i=>some i|_=>none) (g:=Val.int) (k:=id) xs λ_ _=>rfl;rw[map_id] at this;exact this
theorem x9(oK:List (List Int))(h:∀k∈oK,k≠[])(hl:oK.length<64):fU (oK.map lW)=some ((lV oK).map lW):=by
 unfold fU;rw[if_pos (by rw[length_map];exact hl)];cases oK with
 | nil=>rfl
 | cons k r =>
  have e:aT (List.map lW (k::r))=none:=by unfold aT ;rw[map_cons,cD];rfl
  rw[e];have e2:kX (List.map lW (k::r))=some (k::r):=by
   have:=mE (f:=λv=>match v with|.tup vs=>if vs.isEmpty then none else aT vs|_=>none) (g:=lW) (k:=id) (k::r) λx hx=>by
    have hx:=h x hx;show (if (x.map Val.int).isEmpty=true then none else aT (x.map .int))=some x;rw[if_neg (by simpa using hx),ints_map]
   rw[map_id] at this;exact this
  show (kX (List.map lW (k::r))).bind _=_;rw[e2];rfl
theorem t7{α:Type}{n:Nat}(f:α -> Val)(g:α -> PyData)(xs:List α)(e:∀x∈xs,toD n h (f x)=some (g x)):toD (n+1) h (.rl (xs.map f))=some (.list (xs.map g)):=by
 show (cD (toD n h) _).bind _=_;rw[mE xs e];rfl
theorem qk{α:Type}(g:α -> PyData):∀(xs:List α),(∀x∈xs,(g x).canLay0=true)->PyData.canLayAll0 (xs.map g)=true
 | [],_=>by simp[PyData.canLayAll0]
 | x::r,h=>by
  rw[map_cons,PyData.canLayAll0,h x mem_cons_self,qk g r λy hy=>h y (mem_cons_of_mem _ hy)];rfl
end Hv
end
section
namespace Hv
open PySem L2
theorem sE{α:Type}(enc:α -> Val)(Q:List α -> aR->Prop):∀(us done:List α) (env:aR),Q done env->(∀(pre:List α) (u:α) (post:List α) (env:aR),done++us=pre++u::post->Q pre env->∃env',body (enc u) env=.ok (.nx env')/\Q (pre++[u]) env')->∃env',iV body (us.map enc) env=.ok (.nx env')/\Q (done++us) env'
 | [],done,env,q,_=>⟨env,rfl,by rw[append_nil];exact q⟩
 | x::xs,done,env,q,h=>by
  obtain⟨env',e,q'⟩:=h done x xs env rfl q;have eq:done++x::xs=done++[x]++xs:=by simp
  obtain⟨iI,e2,q2⟩:=sE enc Q xs (done++[x]) env' q' (by rw[<-eq];exact h);refine⟨iI,?_,by rw[eq];exact q2⟩;rw[map_cons,iV,e,bT];exact e2
theorem bC{α:Type}(enc:α -> Val){us:List α}{mW:aR}{β:Type}{k:wJ->Pr β}(G:Pr β -> Prop)(Q:List α -> aR->Prop)(h0:Q [] mW)
  (step:∀(pre:List α) (u:α) (post:List α) (env:aR),us=pre++u::post->Q pre env->∃env',body (enc u) env=.ok (.nx env')/\Q (pre++[u]) env')
  (post:∀env',Q us env'->G (k (.nx env'))):G (pb (iV body (us.map enc) mW) k):=by
 obtain⟨env',e,q⟩:=sE enc Q us [] mW h0 (λpre x post env ep q=>step pre x post env ep q);rw[e,bT];exact post env' q
theorem fH:∀{l m:List Int},l.Nodup->(∀x∈l,x∈m)->l.length<=m.length
 | [],_,_,_=>zero_le _
 | x::r,m,h,hs=>by
  rw[nodup_cons] at h;have hx:x∈m:=hs x mem_cons_self;have:=fH (m:=m.erase x) h.2 λy hy=>(List.mem_erase_of_ne (λe:y=x=>h.1 (e▸hy))).mpr (hs y (mem_cons_of_mem _ hy));rw[List.length_erase_of_mem hx] at this;have:=List.length_pos_of_mem hx;rw[length_cons];omega
noncomputable abbrev kZ(xs:List Int)(g:Int->Val):Val:=.dc (xs.map Sum.inl) (xs.map g)
noncomputable def nE(g:Int->Val)(x:Int)(v:Val):Int->Val:=λy=>if y=x then v else g y
theorem t8(xs:List Int)(g:Int->Val):(xs.map (Sum.inl:Int->Key)).zip (xs.map g)=xs.map λx=>((Sum.inl x:Key),g x):=by
 induction xs with
 | nil=>rfl
 | cons x r ih=>simp only[map_cons,zip_cons_cons,ih]
theorem nF{xs:List Int}{x:Int}(h:x∈xs):ni [] (kZ xs g) (.int x)=some (g x):=by
 show bV _ _=_;rw[t8];unfold bV
 induction xs with
 | nil=>simp at h
 | cons y r ih =>
  rw[map_cons,find?_cons]
  by_cases e:y=x
  ·subst e;simp
  ·have:((Sum.inl y:Key)=Sum.inl x)=False:=by simp[e]
   simp only[this,decide_false];exact ih (by rcases mem_cons.mp h with h|h;exact absurd h.symm e;exact h)
theorem ya(xs:List Int)(g:Int->Val)(x:Int):((xs.map λx=>((Sum.inl x:Key),g x)).any λkv=>decide (kv.1=Sum.inl x))=decide (x∈xs):=by
 induction xs with
 | nil=>rfl
 | cons y r ih =>
  rw[map_cons,any_cons,ih]
  by_cases e:y=x
  ·subst e;simp
  ·have e':¬ x=y:=λh=>e h.symm;simp[e,e']
theorem t9{xs:List Int}{x:Int}(h:x∈xs):putD (xs.map Sum.inl) (xs.map g) (.inl x) v=kZ xs (nE g x v):=by
 unfold putD gI;rw[t8,ya,if_pos (by simpa using h)];unfold kZ;rw[map_map,map_map]
 congr 1
 ·refine map_congr_left λy _=>?_
  show ((if (Sum.inl y:Key)=Sum.inl x then ((Sum.inl y:Key),v) else (Sum.inl y,g y)).1)=_
  split<;>rfl
 ·rw[map_map,map_map]
  refine map_congr_left λy _=>?_;show ((if (Sum.inl y:Key)=Sum.inl x then ((Sum.inl y:Key),v) else (Sum.inl y,g y)).2)=_;unfold nE
  by_cases e:y=x
  ·rw[if_pos (by rw[e]),if_pos e]
  ·rw[if_neg (by simpa using e),if_neg e]
theorem ua{xs:List Int}{x:Int}(h:x∉xs):putD (xs.map Sum.inl) (xs.map g) (.inl x) v=kZ (xs++[x]) (nE g x v):=by
 unfold putD gI;rw[t8,ya,if_neg (by simpa using h)];unfold kZ;simp only[map_append,map_map,map_cons,map_nil]
 congr 1
 congr 1
 ·refine map_congr_left λy hy=>?_;show g y=nE g x v y;unfold nE;rw[if_neg (λe:y=x=>h (e▸hy))]
 ·simp[nE]
theorem cP{xs:List Int}(h:∀x∈xs,g x=g' x):kZ xs g=kZ xs g':=by
 unfold kZ;rw[map_congr_left h]
theorem ql{x:Int}:keyOf (.int x)=some (.inl x):=rfl
theorem GL(a b:Int):PyData.eqv (.int a) (.int b)=decide (a=b):=by
 show (a==b)=_
 by_cases h:a=b<;>simp[h]
theorem vN{xs:List Int}{x:Int}:cop [] .uZ (.int x) (.rl (xs.map .int))=some (decide (x∈xs)):=by
 show (toD 16 [] (.rl (xs.map .int))).bind _=_;rw[t7 Val.int PyData.int xs λ_ _=>rfl];show some ((xs.map PyData.int).any λy=>PyData.eqv y (.int x))=_
 congr 1
 induction xs with
 | nil=>rfl
 | cons y r ih =>
  rw[map_cons,any_cons,ih,GL]
  by_cases e:y=x
  ·subst e;simp
  ·have e':¬ x=y:=λh=>e h.symm;simp[e,e']
theorem De{xs:List Int}{x:Int}:cop [] .nin (.int x) (.rl (xs.map .int))=some (!decide (x∈xs)):=by
 show (cop [] .uZ (.int x) (.rl (xs.map .int))).map _=_;rw[vN];rfl
theorem O3{a b:Bool}:cop [] .ne (.bl a) (.bl b)=some (a != b):=by cases a<;>cases b<;>rfl
theorem qm(x:Int):∀(ns ks:List Int),x∈eL ks ns↔x∈ks\/x∈ns
 | [],ks=>by simp[eL]
 | k::r,ks=>by
  rw[eL,qm x r,e7]
  split
  ·rename_i h
   constructor
   ·rintro(h'|h')
    ·exact .inl h'
    ·exact .inr (mem_cons_of_mem _ h')
   ·rintro(h'|h')
    ·exact .inl h'
    ·rcases mem_cons.mp h' with h'|h'
     ·exact .inl (h'▸h)
     ·exact .inr h'
  ·simp[or_assoc]
theorem fJ:∀(ns ks:List Int),ks.Nodup->(eL ks ns).Nodup
 | [],ks,h=>h
 | k::r,ks,h=>by
  rw[eL];refine fJ r _ ?_;rw[e7]
  split
  ·exact h
  ·rename_i hk;rw[nodup_append];exact⟨h,by simp,λa ha b hb=>by simp at hb;subst hb;exact λe=>hk (e▸ha)⟩
noncomputable def e8(ns:List Int):List Int:=PySem.W.sortI (eL [] ns)
theorem Df(x:Int)(ns:List Int):x∈e8 ns↔x∈ns:=by
 unfold e8;rw[(sortI_perm _).mem_iff,qm];simp
theorem fK(ns:List Int):(e8 ns).Nodup:=by
 unfold e8;rw[(sortI_perm _).nodup_iff];exact fJ ns [] nodup_nil
inductive Way (es:List (Int×Int)):Int->Int->Prop
 | refl (a:Int):Way es a a
 | fwd {a b c:Int}:Way es a b->(b,c)∈es->Way es a c
 | bwd {a b c:Int}:Way es a b->(c,b)∈es->Way es a c
theorem Way.trans{a b c:Int}(h:Way es a b)(k:Way es b c):Way es a c:=by
 induction k with
 | refl=>exact h
 | fwd _ m ih=>exact .fwd ih m
 | bwd _ m ih=>exact .bwd ih m
theorem Way.symm{a b:Int}(h:Way es a b):Way es b a:=by
 induction h with
 | refl=>exact .refl _
 | fwd _ m ih=>exact(Way.bwd (.refl _) m).trans ih
 | bwd _ m ih=>exact(Way.fwd (.refl _) m).trans ih
theorem Way.mono(hs:∀e∈es,e∈fs){a b:Int}(h:Way es a b):Way fs a b:=by
 induction h with
 | refl=>exact .refl _
 | fwd _ m ih=>exact .fwd ih (hs _ m)
 | bwd _ m ih=>exact .bwd ih (hs _ m)
theorem Way.const{α:Type}(f:Int -> α)(hf:∀e∈es,f e.1=f e.2){a b:Int}(h:Way es a b):f a=f b:=by
 induction h with
 | refl=>rfl
 | fwd _ m ih=>exact ih.trans (hf _ m)
 | bwd _ m ih=>exact ih.trans (hf _ m).symm
structure jR (ps:List Int) (es:List (Int×Int)) (f:Int->Int):Prop where
 uZ:∀x∈ps,f x∈ps
 way:∀x∈ps,Way es x (f x)
 same:∀e∈es,f e.1=f e.2
theorem jR.iff{ps:List Int}(h:jR ps es f){x y:Int}(hx:x∈ps)(hy:y∈ps):f x=f y↔Way es x y:=by
 constructor
 ·intro e;have:=(h.way y hy).symm;rw[<-e] at this;exact(h.way x hx).trans this
 ·exact λw=>w.const f h.same
theorem jR.start(ps:List Int):jR ps [] id:=⟨λx h=>h,λx _=>.refl x,λe h=>by simp at h⟩
theorem jR.step{ps:List Int}(h:jR ps es f){a b:Int}(ha:a∈ps)(hb:b∈ps)(kept gone:Int)(hk:(kept=f a/\gone=f b)\/(kept=f b/\gone=f a)):jR ps (es++[(a,b)]) (λx=>if f x=gone then kept else f x):=by
 have up:∀{x y},Way es x y->Way (es++[(a,b)]) x y:=λw=>w.mono λe he=>mem_append_left _ he;have ab:Way (es++[(a,b)]) a b:=.fwd (.refl _) (by simp);refine⟨λx hx=>?_,λx hx=>?_,λe he=>?_⟩
 ·split
  ·rcases hk with ⟨k,_⟩|⟨k,_⟩<;>rw[k]<;>exact h.uZ _ (by assumption)
  ·exact h.uZ x hx
 ·split
  ·rename_i e
   have w1:=up (h.way x hx);rw[e] at w1;refine w1.trans ?_
   rcases hk with ⟨k,g⟩|⟨k,g⟩
   ·rw[k,g];exact((up (h.way b hb)).symm.trans ab.symm).trans (up (h.way a ha))
   ·rw[k,g];exact((up (h.way a ha)).symm.trans ab).trans (up (h.way b hb))
  ·exact up (h.way x hx)
 ·rcases mem_append.mp he with he|he
  ·rw[h.same e he]
  ·rw[mem_singleton] at he
   subst he
   rcases hk with ⟨k,g⟩|⟨k,g⟩
   ·rw[k,g];rw[if_pos (rfl:f b=f b)];split<;>rfl
   ·rw[k,g];rw[if_pos (rfl:f a=f a)];split<;>rfl
end Hv
end
section
namespace Hv
open PySem L2
noncomputable abbrev T3:=Int×Int×Int
noncomputable def l3(t:T3):List Int:=[t.1,t.2.1,t.2.2]
noncomputable def dN(t:T3):Val:=.tup [.int t.1,.int t.2.1,.int t.2.2]
noncomputable def qo(x:T3):List T3->List T3
 | []=>[x]
 | y::r=>if HT.lexLt (l3 y) (l3 x)=true then y::qo x r else x::y::r
noncomputable def jH:List T3->List T3
 | []=>[]
 | x::r=>qo x (jH r)
theorem vO(x:T3):∀l:List T3,tF (l3 x) (l.map l3)=(qo x l).map l3
 | []=>rfl
 | y::r=>by
  rw[map_cons,tF,qo]
  split
  ·rw[map_cons,vO x r]
  ·rfl
theorem sG:∀l:List T3,lV (l.map l3)=(jH l).map l3
 | []=>rfl
 | x::r=>by rw[map_cons,lV,sG r,vO];rfl
theorem nG(x:T3):∀l:List T3,(qo x l).Perm (x::l)
 | []=>.refl _
 | y::r=>by
  rw[qo]
  split
  ·exact((nG x r).cons y).trans (List.Perm.swap ..)
  ·exact .refl _
theorem fL:∀l:List T3,(jH l).Perm l
 | []=>.refl _
 | x::r=>(nG x _).trans ((fL r).cons x)
theorem GN(ts:List T3)(hl:ts.length<64):fU (ts.map dN)=some ((jH ts).map dN):=by
 have e:∀us:List T3,us.map dN=(us.map l3).map lW:=λus=>by rw[map_map];rfl
 rw[e,x9 _ (λk hk=>by obtain⟨t,_,rfl⟩:=mem_map.mp hk;simp[l3]) (by rw[length_map];exact hl),sG,e]
theorem vP(hl:ts.length<64):iJ .sorted [.rl (ts.map dN)]=.ok (true,.rl ((jH ts).map dN)):=by
 show pb (pl (fU _)) _=_;rw[GN ts hl];rfl
noncomputable def Dg(ts:List T3):Prop:=ts.Pairwise λa b=>a.1<b.1
theorem zm(x:T3):∀l:List T3,Dg l->(∀y∈l,y.1≠x.1)->Dg (qo x l)
 | [],_,_=>by simp[qo,Dg]
 | y::r,h,hn=>by
  unfold Dg at *;rw[pairwise_cons] at h;have ny:y.1≠x.1:=hn y mem_cons_self;rw[qo];have lx:HT.lexLt (l3 y) (l3 x)=decide (y.1<x.1):=by show HT.lexLt (y.1::_) (x.1::_)=_;rw[HT.fB,if_neg ny]
  rw[lx]
  by_cases c:y.1<x.1
  ·rw[if_pos (by simpa using c),pairwise_cons]
   refine⟨λz hz=>?_,zm x r h.2 λz hz=>hn z (mem_cons_of_mem _ hz)⟩
   rcases mem_cons.mp ((nG x r).mem_iff.mp hz) with hz|hz
   ·rw[hz];exact c
   ·exact h.1 z hz
  ·rw[if_neg (by simpa using c),pairwise_cons,pairwise_cons]
   refine⟨λz hz=>?_,h⟩;have:x.1<y.1:=by omega
   rcases mem_cons.mp hz with hz|hz
   ·rw[hz];exact this
   ·have:=h.1 z hz;omega
theorem vQ:∀l:List T3,(l.map (·.1)).Nodup->Dg (jH l)
 | [],_=>.nil
 | x::r,h=>by
  rw[map_cons,nodup_cons] at h;refine zm x _ (vQ r h.2) λy hy e=>h.1 ?_;rw[(fL r).mem_iff] at hy;exact mem_map.mpr ⟨y,hy,e⟩
noncomputable def turnT(t:T3):T3:=(t.1,if t.2.2<t.2.1 then t.2.2 else t.2.1,if t.2.2>t.2.1 then t.2.2 else t.2.1)
noncomputable def cX(p q:Int)(ts:List T3):Val:=.tup [.tup [.int p,.int q],.rl (ts.map dN)]
theorem GO{i j k:Nat}:cA (.tup [i,j,k]) (dN t) env=some (((env.set i (some (.sh,.int t.1))).set j (some (.sh,.int t.2.1))).set k (some (.sh,.int t.2.2))):=rfl
theorem AN{α:Type}(ds:List α)(lo:Int)(n:Nat)(h:0<=lo):(dR ds (some lo) (some (lo+n))).length<=n:=by
 unfold dR HT.eX;dsimp only;rw[if_neg (by omega),if_neg (by omega)];simp only[length_take,length_drop];omega
theorem LJ:AH (dN t) (some 1) none=.ok (true,.tup [.int t.2.1,.int t.2.2]):=rfl
theorem qq{α:Type}(enc:α -> Val)(g:α -> FV):∀(us:List α),(∀u∈us,f (enc u)=.ok (some (g u)))->jG f (us.map enc)=.ok (us.all λu=>(g u).1,us.map λu=>(g u).2)
 | [],_=>rfl
 | x::xs,h=>by
  rw[map_cons,jG,h x mem_cons_self,bT,qq enc g xs λy hy=>h y (mem_cons_of_mem _ hy),bT];rfl
theorem lF{α:Type}(enc dec:α -> Val)(us:List α)(h:∀u∈us,f (enc u)=.ok (some (true,dec u))):jG f (us.map enc)=.ok (true,us.map dec):=by
 rw[qq enc (λu=>(true,dec u)) us h];simp
theorem fM{α:Type}(enc dec:α -> Val)(t:α -> Bool):∀(us:List α),(∀u∈us,f (enc u)=.ok (if t u=true then some (true,dec u) else none))->jG f (us.map enc)=.ok (true,(us.filter t).map dec)
 | [],_=>rfl
 | x::xs,h=>by
  rw[map_cons,jG,h x mem_cons_self,bT,fM enc dec t xs λy hy=>h y (mem_cons_of_mem _ hy),bT]
  by_cases hx:t x=true
  ·rw[if_pos hx,List.filter_cons_of_pos hx];rfl
  ·rw[if_neg hx,List.filter_cons_of_neg hx]
theorem GP:∀m,m<67->∀d,d<67->0<m->0<d->(m*d)%67≠0:=by decide +kernel
theorem GQ{m c i j:Int}(hm:0<m/\m<67)(hi:0<=i/\i<67)(hj:0<=j/\j<67)(e:(m*i+c)%67=(m*j+c)%67):i=j:=by
 have key:∀i j:Int,0<=i->j<67->i<j->(m*i+c)%67=(m*j+c)%67->False:=by
  intro i j h0 h1 hlt e;obtain⟨a,ha⟩:=eq_ofNat_of_zero_le (show 0<=m by omega);obtain⟨d,hd⟩:=eq_ofNat_of_zero_le (show 0<=j-i by omega);have p:=GP a (by omega) d (by omega) (by omega) (by omega);have:m*j=m*i+m*(j-i):=by rw[Int.mul_sub];omega
  rw[this] at e;have e2:(m*(j-i))%67=0:=by omega
  rw[ha,hd] at e2;apply p;have:((a*d:Nat):Int)%67=0:=by rw[Int.natCast_mul];exact e2
  omega
 rcases Int.lt_trichotomy i j with h|h|h
 ·exact(key i j hi.1 hj.2 h e).elim
 ·exact h
 ·exact(key j i hj.1 hi.2 h e.symm).elim
theorem qt{α:Type}{f:Hs->Option α}{a:α}(e:f h=some a):ask f h=.ok a h:=by show (match f h with|some a=>Out.ok a h|none=>Out.no)=_;rw[e]
theorem jz{α β:Type}{f:Hs->Option α}{g:α -> M β}{a:α}(e:f h=some a):bnd (ask f) g h=g a h:=aq (qt e)
theorem oR{α β:Type}{o:Option α}{g:α -> M β}{a:α}(e:o=some a):bnd (bh o) g h=g a h:=aq (by unfold bh;rw[e])
end Hv
end
section
namespace Hv
open PySem L2
noncomputable def Es:Val->Option (Int×Int×Int)
 | .tup [.int a,.int b,.int c]=>some (a,b,c)
 | _=>none
noncomputable def jb(kvs:List (Key×Val))(t:Int×Int×Int):List (Key×Val):=gI kvs (.inl t.1) (.tup [.int t.2.1,.int t.2.2])
noncomputable def bS(p q:Int)(ts:List (Int×Int×Int)):List (Key×Val):=ts.foldl jb [(.inl (-1),.tup [.int p,.int q])]
noncomputable def k7(Ψ:Nat->List Val->Pr FV)(c jo jp:Nat)(ds:List Val):Pr FV:=match ds with
 | [net]=>(match Ψ jo [net] with
  | .ok (true,.tup [.tup [.int p,.int q],.rl ts])=>pb (pl (cD Es ts)) λes=>pg (decide (es.length<1000)) (match Ψ jp [.tup [.tup [.int p,.int q],.rl ts]] with
   | .ok (true,y)=>.ok (true,.ob c ["net","places","ends"] [.tup [.tup [.int p,.int q],.rl ts],y,.dc ((bS p q es).map (·.1)) ((bS p q es).map (·.2))])
   | _=>.no)
  | _=>.no)
 | _=>.no
noncomputable abbrev qu(n jo jp:Nat):fy:=.cons (.setF n (.var 0) "net" (.call jo (.cons (.var 1) .nil))) (.cons (.setF n (.var 0) "places" (.call jp (.cons (.fld n (.var 0) "net") .nil))) (.cons (.setF n (.var 0) "ends" (.dct1 (.con "THOUGHT" (.int (-1))) (.idx (.fld n (.var 0) "net") (.cst (.int 0)))))
 (.cons (.for (.tup [2,3,4]) .seq (.cons (.idx (.fld n (.var 0) "net") (.cst (.int 1))) .nil) (.cons (.e8 (.fld n (.var 0) "ends") (.var 2) (.tup (.cons (.var 3) (.cons (.var 4) .nil)))) .nil)) .nil)))
noncomputable def zo(t:Int×Int×Int):Val:=.tup [.int t.1,.int t.2.1,.int t.2.2]
theorem GR(e:Es v=some t):v=zo t:=by
 unfold Es at e;split at e
 ·cases e;rfl
 ·cases e
theorem vR:∀{vs:List Val} {ts:List (Int×Int×Int)},cD Es vs=some ts->vs=ts.map zo
 | [],ts,e=>by cases e;rfl
 | v::vs,ts,e=>by
  rw[cD] at e;obtain⟨t,e1,e⟩:=bind_eq_some_iff.mp e;obtain⟨r,e2,e⟩:=bind_eq_some_iff.mp e;cases e;rw[GR e1,vR e2];rfl
theorem uc:∀ts:List (Int×Int×Int),bw (ts.map zo)=true
 | []=>rfl
 | t::r=>by rw[map_cons,bw,uc r];rfl
theorem Dh(kvs:List (Key×Val))(k:Key)(v:Val):(gI kvs k v).length<=kvs.length+1:=by
 unfold gI
 split
 ·rw[length_map];omega
 ·rw[length_append];simp
theorem Di(hv:jw v=true)(kvs:List (Key×Val))(h:∀kv∈kvs,jw kv.2=true):∀kv∈gI kvs k v,jw kv.2=true:=by
 unfold gI;intro kv hk;split at hk
 ·obtain⟨z,hz,rfl⟩:=mem_map.mp hk
  split
  ·exact hv
  ·exact h z hz
 ·rcases mem_append.mp hk with hk|hk
  ·exact h kv hk
  ·rw[mem_singleton.mp hk];exact hv
theorem vS:∀(ts:List (Int×Int×Int)) (kvs:List (Key×Val)),(∀kv∈kvs,jw kv.2=true)->∀kv∈ts.foldl jb kvs,jw kv.2=true
 | [],kvs,h=>h
 | t::r,kvs,h=>vS r _ (Di rfl kvs h)
theorem vU:∀{vs:List Val},(∀v∈vs,jw v=true)->bw vs=true
 | [],_=>rfl
 | v::vs,h=>by rw[bw,h v mem_cons_self,vU λw hw=>h w (mem_cons_of_mem _ hw)];rfl
section
variable {Φ:Nat->List Val->M Val} {Ψ:Nat->List Val->Pr FV}
theorem sH{n c D L E:Nat}{ts:List (Int×Int×Int)}{fs:List (Str×Val)}(hc:c<n)(hf:fs.lookup ("ends":Str)=some (Val.ref E))(LK:ts.length<1000)(VP:D≠E)(So:L≠E) :
  ∀(m j:Nat) (kvs:List (Key×Val)) (env:Env) (h h':Hs),m+j=ts.length->kvs.length<=j+1->env[0]?=some (some (.ref D))->4<env.length->h[D]?=some (.ins c fs)->h[L]?=some (.lst (ts.map zo))->h'.length=h.length->(∀k,k≠E->h'[k]?=h[k]?)->h'[E]?=some (.dct kvs) ->
  ∃env' h2,forM (.live L) (λx env=>bnd (bh (fV (.tup [2,3,4]) x env)) λenv'=>dX Φ (.cons (.e8 (.fld n (.var 0) "ends") (.var 2) (.tup (.cons (.var 3) (.cons (.var 4) .nil)))) .nil) env') m j env h'=.ok (.nx env') h2 /\
   h2.length=h.length/\(∀k,k≠E->h2[k]?=h[k]?)/\h2[E]?=some (.dct ((ts.drop j).foldl jb kvs))
 | 0,j,kvs,env,h,h',hm,hk,he,hl,hD,hL,h1,h2,h3=>by
  refine⟨env,h',?_,h1,h2,?_⟩
  ·rw[forM,jz (a:=ts.map zo) (cH (by rw[h2 L So];exact hL))];unfold aC;rw[if_pos (decide_eq_true (by rw[length_map];omega))];rfl
  ·rw[List.drop_of_length_le (by omega)];exact h3
 | m+1,j,kvs,env,h,h',hm,hk,he,hl,hD,hL,h1,h2,h3=>by
  have hj:j<ts.length:=by omega
  have hE:E<h'.length:=(List.getElem?_eq_some_iff.mp h3).1
  let gA:Env:=((env.set 2 (some (.int ts[j].1))).set 3 (some (.int ts[j].2.1))).set 4 (some (.int ts[j].2.2))
  have b1:fV (.tup [2,3,4]) (zo ts[j]) env=some gA:=rfl;have g0:gA[0]?=some (some (.ref D)):=by show (((env.set 2 _).set 3 _).set 4 _)[0]?=_;rw[getElem?_set_ne (by omega),getElem?_set_ne (by omega),getElem?_set_ne (by omega)];exact he
  have g2:gA[2]?=some (some (.int ts[j].1)):=by show (((env.set 2 _).set 3 _).set 4 _)[2]?=_;rw[getElem?_set_ne (by omega),getElem?_set_ne (by omega),getElem?_set_self (by omega)]
  have g3:gA[3]?=some (some (.int ts[j].2.1)):=by show (((env.set 2 _).set 3 _).set 4 _)[3]?=_;rw[getElem?_set_ne (by omega),getElem?_set_self (by rw[length_set];omega)]
  have g4:gA[4]?=some (some (.int ts[j].2.2)):=by show (((env.set 2 _).set 3 _).set 4 _)[4]?=_;rw[getElem?_set_self (by rw[length_set,length_set];omega)]
  have XH:aF Φ (.fld n (.var 0) "ends") gA h'=.ok (.ref E) h':=by rw[aF,aq (bQ g0)];refine qt (f:=λh=>iE n h (.ref D) "ends") ?_;unfold iE;dsimp only;rw[h2 D VP,hD];dsimp only;rw[if_pos hc];exact hf
  have XI:aF Φ (.tup (.cons (.var 3) (.cons (.var 4) .nil))) gA h'=.ok (.tup [.int ts[j].2.1,.int ts[j].2.2]) h':=by
   rw[aF,aq (a:=[.int ts[j].2.1,.int ts[j].2.2]) (h1:=h')]
   ·unfold aC;rw[if_pos (decide_eq_true (show ([Val.int ts[j].2.1,Val.int ts[j].2.2]:List Val).length<=sizeLine from(by decide:2<=sizeLine)))];rfl
   ·rw[aU,aq (bQ g3),aU];rw[show bnd (bnd (aF Φ (.var 4) gA) λd=>bnd (aU Φ .nil gA) λds=>ret (d::ds)) (λds=>ret (Val.int ts[j].2.1::ds)) h'=_ from aq (a:=[.int ts[j].2.2]) (h1:=h') (by rw[aq (bQ g4),aU];rfl)];rfl
  have st:dX Φ (.cons (.e8 (.fld n (.var 0) "ends") (.var 2) (.tup (.cons (.var 3) (.cons (.var 4) .nil)))) .nil) gA h'=.ok (.nx gA) (h'.set E (.dct (jb kvs ts[j]))):=by
   rw[dX,aq (a:=Fl.nx gA) (h1:=h'.set E (.dct (jb kvs ts[j])))]
   ·dsimp only;rw[dX];rfl
   ·rw[eO,aq XI,aq XH,aq (bQ g2)]
    rw[aq (a:=()) (h1:=h'.set E (.dct (jb kvs ts[j])))]
    ·rfl
    ·unfold sd;dsimp only;rw[jz (f:=λh=>h[E]?) h3];dsimp only;rw[oR (o:=keyOf (.int ts[j].1)) (a:=.inl ts[j].1) rfl];unfold aC;rw[if_pos (decide_eq_true (by unfold sizeLine;omega))];rfl
  have hlen:(jb kvs ts[j]).length<=j+1+1:=le_trans (Dh _ _ _) (by omega);obtain⟨iI,h4,r1,r2,r3,r4⟩:=sH hc hf LK VP So m (j+1) (jb kvs ts[j]) gA h (h'.set E (.dct (jb kvs ts[j]))) (by omega) hlen g0 (by show 4<(((env.set 2 _).set 3 _).set 4 _).length;simp;omega) hD hL (by simp[h1])
   (λk hk=>by rw[getElem?_set_ne λz=>hk z.symm];exact h2 k hk) (getElem?_set_self hE)
  refine⟨iI,h4,?_,r2,r3,?_⟩
  ·rw[forM,jz (a:=ts.map zo) (cH (by rw[h2 L So];exact hL))]
   rw[show (ts.map zo)[j]?=some (zo ts[j]) by rw[getElem?_map,List.getElem?_eq_getElem hj];rfl];dsimp only;rw[aq (a:=Fl.nx gA) (h1:=h'.set E (.dct (jb kvs ts[j])))]
   ·exact r1
   ·rw[oR b1];exact st
  ·rw[List.drop_eq_getElem_cons hj,List.foldl_cons];exact r4
theorem oS{n c i:Nat}(hc:c<n)(g:h[i]?=some (.ins c fs))(hl:fs.length<1000):bnd (yF n (.ref i) x v) (λ_=>ret (Fl.nx env)) h=.ok (.nx env) (h.set i (.ins c (pS x v fs))):=by
 unfold yF;dsimp only;rw[aN,jz (a:=(c,fs)) (by rw[g];dsimp only;rw[if_pos hc])];dsimp only;unfold bnd aC;rw[if_pos (decide_eq_true hl)];rfl
theorem vV{n c jo jp:Nat}(hc:c<n)(hΦ:∀j,Imp (Φ j) (Ψ j)){p q':Int}(u:Up A h)(qn:Dn A h net v)(e1:Ψ jo [net]=.ok (true,.tup [.tup [.int p,.int q'],.rl ts]))(e2:cD Es ts=some es)(hz:es.length<1000)
  (e3:Ψ jp [.tup [.tup [.int p,.int q'],.rl ts]]=.ok (true,y)):∃(h8:Hs) (V1 v2 vE:Val),iF Φ 5 (qu n jo jp) [.ref h.length,v] (h++[Ob.ins c []])=.ok .non h8/\h<+:h8/\h8[h.length]?=some (.ins c [("net",V1),("places",v2),("ends",vE)]) /\
   ∀B:AP,(∀k,h.length+1<=k->B (some k))->ao B h8 [.tup [.tup [.int p,.int q'],.rl ts],y,.dc ((bS p q' es).map (·.1)) ((bS p q' es).map (·.2))] [V1,v2,vE]:=by
 have et:=vR e2;have VQ:h<+:h++[Ob.ins c []]:=prefix_append _ _;have u1:=u.ext VQ;have R1:=hΦ jo A (h++[Ob.ins c []]) [net] [v] u1 (ao.cons (qn.ext VQ) ao.nil);rw[e1] at R1;obtain⟨v1,h2,f1,Sq,_,dF⟩:=R1;have dA:=dF rfl;clear dF;have K1:h2[h.length]?=some (.ins c []):=bU Sq (by simp);have l2:h.length+1<=h2.length:=by have:=Sq.length_le;simpa using this
 rw[Dn] at dA;obtain⟨ws,rfl,dB⟩:=dA;rw[ao] at dB;obtain⟨w0,r0,rfl,d0,d1⟩:=dB;obtain⟨w1,rfl,d5⟩:=ao.one d1;clear d1;have XJ:w0=.tup [.int p,.int q']:=(iK _ _ (show jw (.tup [.int p,.int q'])=true from rfl)).mp d0;subst XJ;rw[Dn] at d5
 rcases d5 with ⟨_,_,z,_⟩|⟨L,ws,rfl,aL,gL,d6⟩
 ·exact False.elim z
 rw[et] at d6;have XM:ws=es.map zo:=(aS _ _ (uc es)).mp d6;subst XM;have hL:(h++[Ob.ins c []]).length<=L:=aL;have hL':h.length+1<=L:=by simpa using hL
 have lL:L<h2.length:=(List.getElem?_eq_some_iff.mp gL).1
 let V1:Val:=.tup [.tup [.int p,.int q'],.ref L]
 let h3:Hs:=h2.set h.length (.ins c [("net",V1)])
 have MM:h3[h.length]?=some (.ins c [("net",V1)]):=getElem?_set_self (by omega);have VS:h3[L]?=some (.lst (es.map zo)):=by show (h2.set _ _)[L]?=_;rw[getElem?_set_ne (by omega)];exact gL
 have l3:h3.length=h2.length:=length_set;have VT:Dn (Fr (h.length+1)) h3 (.tup [.tup [.int p,.int q'],.rl ts]) V1:=by rw[Dn];refine⟨_,rfl,ao.cons ((iK _ _ (show jw (.tup [.int p,.int q'])=true from rfl)).mpr rfl) (ao.cons ?_ ao.nil)⟩;rw[Dn];exact .inr ⟨L,_,rfl,hL',VS,by rw[et];exact(aS _ _ (uc es)).mpr rfl⟩
 have R2:=hΦ jp (Fr (h.length+1)) h3 [.tup [.tup [.int p,.int q'],.rl ts]] [V1] (λk hk=>by show h.length+1<=k;omega) (ao.cons VT ao.nil);rw[e3] at R2;obtain⟨v2,h4,f2,O4,_,dG⟩:=R2;have d2:=dG rfl;clear dG;have N4:h4[h.length]?=some (.ins c [("net",V1)]):=bU O4 MM;have l4:h3.length<=h4.length:=O4.length_le
 let h5:Hs:=h4.set h.length (.ins c [("net",V1),("places",v2)])
 have VU:h5[h.length]?=some (.ins c [("net",V1),("places",v2)]):=getElem?_set_self (by omega);have l5:h5.length=h4.length:=length_set
 let h6:Hs:=h5++[Ob.dct [(.inl (-1),.tup [.int p,.int q'])]]
 have XO:h6[h.length]?=some (.ins c [("net",V1),("places",v2)]):=bU (prefix_append _ _) VU;have l6:h6.length=h5.length+1:=by show (h5++[_]).length=_;simp
 let FS:List (Str×Val):=[("net",V1),("places",v2),("ends",.ref h5.length)]
 let h7:Hs:=h6.set h.length (.ins c FS)
 have Ss:h7[h.length]?=some (.ins c FS):=getElem?_set_self (by omega);have l7:h7.length=h6.length:=length_set;have XQ:h7[h5.length]?=some (.dct [(.inl (-1),.tup [.int p,.int q'])]):=by show (h6.set _ _)[h5.length]?=_;rw[getElem?_set_ne (by omega)];show (h5++[_])[h5.length]?=_;simp
 have hk7:∀k,k≠h.length->k<h4.length->h7[k]?=h4[k]?:=λk n1 n2=>by
  show (h6.set _ _)[k]?=_;rw[getElem?_set_ne λz=>n1 z.symm];show (h5++[_])[k]?=_;rw[getElem?_append_left (by omega)];show (h4.set _ _)[k]?=_;rw[getElem?_set_ne λz=>n1 z.symm]
 have XR:h4[L]?=some (.lst (es.map zo)):=bU O4 VS;have VW:h7[L]?=some (.lst (es.map zo)):=by rw[hk7 L (by omega) (by omega)];exact XR
 let env:Env:=[some (.ref h.length),some v,none,none,none]
 have k1:("ends":Str) ≠ "net":=by decide
 obtain⟨env',h8,lp,l8,k8,d8⟩:=sH (Φ:=Φ) (fs:=FS) (ts:=es) hc (by rfl) hz (by omega) (by omega) es.length 0 [(.inl (-1),.tup [.int p,.int q'])] env h7 h7 (by omega) (by simp) rfl (by decide:4<5) Ss VW rfl (λ_ _=>rfl) XQ;have fldN:∀(g:Hs) (fs:List (Str×Val)),g[h.length]?=some (.ins c (("net",V1)::fs))->aF Φ (.fld n (.var 0) "net") env g=.ok V1 g:=λg fs hg=>by
  rw[aF,aq (bQ rfl)];refine qt (f:=λh'=>iE n h' (.ref h.length) "net") ?_;unfold iE;dsimp only;rw[hg];dsimp only;rw[if_pos hc];rfl
 have s1:eO Φ (.setF n (.var 0) "net" (.call jo (.cons (.var 1) .nil))) env (h++[Ob.ins c []])=.ok (.nx env) h3:=by
  have e:aF Φ (.call jo (.cons (.var 1) .nil)) env (h++[Ob.ins c []])=.ok V1 h2:=by
   rw[aF,aq (a:=[v]) (h1:=h++[Ob.ins c []])]
   ·exact f1
   ·rw[aU,aq (bQ rfl),aU];rfl
  rw[eO,aq e,aq (bQ rfl)];exact oS hc K1 (by decide)
 have s2:eO Φ (.setF n (.var 0) "places" (.call jp (.cons (.fld n (.var 0) "net") .nil))) env h3=.ok (.nx env) h5:=by
  have e:aF Φ (.call jp (.cons (.fld n (.var 0) "net") .nil)) env h3=.ok v2 h4:=by
   rw[aF,aq (a:=[V1]) (h1:=h3)]
   ·exact f2
   ·rw[aU,aq (fldN h3 [] MM),aU];rfl
  rw[eO,aq e,aq (bQ rfl)];exact oS hc N4 (by decide:1<1000)
 have s3:eO Φ (.setF n (.var 0) "ends" (.dct1 (.con "THOUGHT" (.int (-1))) (.idx (.fld n (.var 0) "net") (.cst (.int 0))))) env h5=.ok (.nx env) h7:=by
  have e0:aF Φ (.idx (.fld n (.var 0) "net") (.cst (.int 0))) env h5=.ok (.tup [.int p,.int q']) h5:=by rw[aF,aq (fldN h5 _ VU),aq (a:=.int 0) (h1:=h5) (by rw[aF];rfl)];rfl
  have e:aF Φ (.dct1 (.con "THOUGHT" (.int (-1))) (.idx (.fld n (.var 0) "net") (.cst (.int 0)))) env h5=.ok (.ref h5.length) h6:=by rw[aF,aq (a:=.int (-1)) (h1:=h5) (by rw[aF];rfl),oR (o:=keyOf (.int (-1))) (a:=.inl (-1)) rfl,aq e0];rfl
  rw[eO,aq e,aq (bQ rfl)];exact oS hc XO (by decide:2<1000)
 have s4:eO Φ (.for (.tup [2,3,4]) .seq (.cons (.idx (.fld n (.var 0) "net") (.cst (.int 1))) .nil) (.cons (.e8 (.fld n (.var 0) "ends") (.var 2) (.tup (.cons (.var 3) (.cons (.var 4) .nil)))) .nil)) env h7=.ok (.nx env') h8:=by
  have e0:aF Φ (.idx (.fld n (.var 0) "net") (.cst (.int 1))) env h7=.ok (.ref L) h7:=by rw[aF,aq (fldN h7 _ Ss),aq (a:=.int 1) (h1:=h7) (by rw[aF];rfl)];rfl
  rw[eO,aq (a:=[.ref L]) (h1:=h7)]
  ·rw[oR (o:=srcOf .seq [.ref L]) (a:=.live L) rfl,jz (a:=es.map zo) (cH VW),length_map];exact lp
  ·rw[aU,aq e0,aU];rfl
 have run:iF Φ 5 (qu n jo jp) [.ref h.length,v] (h++[Ob.ins c []])=.ok .non h8:=by
  unfold iF;rw[aq (a:=Fl.nx env') (h1:=h8)]
  ·rfl
  ·show dX Φ (qu n jo jp) env _=_;rw[dX,aq s1];dsimp only;rw[dX,aq s2];dsimp only;rw[dX,aq s3];dsimp only;rw[dX,aq s4];dsimp only;rw[dX];rfl
 have Su:∀k,k≠h.length->k<h4.length->h8[k]?=h4[k]?:=λk n1 n2=>(k8 k (by omega)).trans (hk7 k n1 n2);have hpre:h<+:h8:=by
  refine List.prefix_iff_getElem?.mpr λi hi=>?_;have XS:i<h4.length:=by omega
  rw[Su i (by omega) XS];have:(h2.set h.length (.ins c [("net",V1)]))[i]?=h2[i]?:=getElem?_set_ne (by omega);have XT:h4[i]?=h3[i]?:=f9 O4 (by omega);rw[XT,this,f9 Sq (by simp;omega),getElem?_append_left hi,List.getElem?_eq_getElem hi]
 refine⟨h8,V1,v2,.ref h5.length,run,hpre,by rw[k8 _ (by omega)];exact Ss,λB hB=>ao.cons ?_ (ao.cons ?_ (ao.cons ?_ ao.nil))⟩
 ·refine Dn.mono (A:=Fr (h.length+1)) (h:=h3) (λo z=>?_) (λk o a g=>?_) _ _ VT
  ·cases o with
   | none=>exact False.elim z
   | some k=>exact hB k z
  ·have a:h.length+1<=k:=a;have:=(List.getElem?_eq_some_iff.mp g).1;rw[Su k (by omega) (by omega)];exact bU O4 g
 ·refine Dn.mono (A:=Fr h3.length) (h:=h4) (λo z=>?_) (λk o a g=>?_) _ _ d2
  ·cases o with
   | none=>exact False.elim z
   | some k=>exact hB k (by have:h3.length<=k:=z;omega)
  ·have a:h3.length<=k:=a;have:=(List.getElem?_eq_some_iff.mp g).1;rw[Su k (by omega) (by omega)];exact g
 ·rw[Dn]
  refine⟨h5.length,bS p q' es,rfl,hB _ (by omega),?_,rfl,?_⟩
  ·rw[List.drop_zero] at d8;exact d8
  ·refine(aS _ _ (vU λw hw=>?_)).mpr rfl;obtain⟨kv,hkv,rfl⟩:=mem_map.mp hw;exact vS es _ (λkv hk=>by rw[mem_singleton.mp hk];rfl) kv hkv
theorem Dj{n c jo jp:Nat}(hc:c<n)(hΦ:∀j,Imp (Φ j) (Ψ j)):Imp (Eo c (iF Φ 5 (qu n jo jp))) (k7 Ψ c jo jp):=λA h ds vs u q=>by
 unfold k7
 split
 ·rename_i net
  obtain⟨v,rfl,qn⟩:=ao.one q
  split
  ·rename_i p q' ts e1
   cases e2:cD Es ts with
   | none=>trivial
   | some es =>
    show Rel A h (RV A h) _ (pg (decide (es.length<1000)) _)
    by_cases hz:es.length<1000
    ·unfold pg
     rw[if_pos (decide_eq_true hz)]
     split
     ·rename_i y e3
      obtain⟨h8,V1,v2,vE,r1,p8,g8,d8⟩:=vV (Ψ:=Ψ) hc hΦ u qn e1 e2 hz e3;have run:Eo c (iF Φ 5 (qu n jo jp)) [v] h=.ok (.ref h.length) h8:=by show bnd (iF Φ 5 (qu n jo jp) [.ref h.length,v]) _ (h++[Ob.ins c []])=_;rw[aq r1];rfl
      have dn:∀B:AP,(∀k,h.length<=k->B (some k))->Dn B h8 (.ob c ["net","places","ends"] [.tup [.tup [.int p,.int q'],.rl ts],y,.dc ((bS p q' es).map (·.1)) ((bS p q' es).map (·.2))]) (.ref h.length):=λB hB=>by
       rw[Dn];exact⟨h.length,_,rfl,hB _ (Nat.le_refl _),g8,rfl,d8 B λk hk=>hB k (by omega)⟩
      exact⟨_,h8,run,p8,dn A λk hk=>u k hk,λ_=>dn _ λk hk=>hk⟩
     ·trivial
    ·unfold pg;rw[if_neg (by simpa using hz)];trivial
  ·trivial
 ·trivial
noncomputable def sI(Ψ' Ψ:Nat->List Val->Pr FV)(c jo jp jt jr:Nat)(ds:List Val):Pr FV:=match k7 Ψ' c jo jp ds with
 | .ok (_,.ob c' ns vs)=>(match Ψ jt [.ob c' ns vs] with
  | .ok (_,t)=>(match Ψ jr [.ob c' ns vs,t] with
   | .ok (_,.int m)=>.ok (true,.ob c' (ns++[("whole":Str)]) (vs++[.int m]))
   | _=>.no)
  | _=>.no)
 | _=>.no
noncomputable abbrev zp(n ji:Nat)(jst jsr:List (Nat×Nat)):fy:=.cons (.expr (.call ji (.cons (.var 0) (.cons (.var 1) .nil)))) (.cons (.setF n (.var 0) "whole" (.mth (.var 0) "tree_rank" jsr (.cons (.mth (.var 0) "ties" jst .nil) .nil))) .nil)
theorem Dk{c jo jp:Nat}(e:k7 Ψ c jo jp ds=.ok fw):∃net p q ts es y,ds=[net] /\ Ψ jo [net]=.ok (true,.tup [.tup [.int p,.int q],.rl ts])/\cD Es ts=some es/\es.length<1000 /\ Ψ jp [.tup [.tup [.int p,.int q],.rl ts]]=.ok (true,y) /\
  fw=(true,.ob c ["net","places","ends"] [.tup [.tup [.int p,.int q],.rl ts],y,.dc ((bS p q es).map (·.1)) ((bS p q es).map (·.2))]):=by
 unfold k7 at e;split at e
 ·rename_i net
  split at e
  ·rename_i p q ts e1
   cases e2:cD Es ts with
   | none=>rw[e2] at e;cases e
   | some es =>
    rw[e2] at e;change pg (decide (es.length<1000)) _=_ at e;unfold pg at e
    by_cases hz:es.length<1000
    ·rw[if_pos (decide_eq_true hz)] at e
     split at e
     ·rename_i y e3;cases e;exact⟨net,p,q,ts,es,y,rfl,e1,e2,hz,e3,rfl⟩
     ·cases e
    ·rw[if_neg (by simpa using hz)] at e;cases e
  ·cases e
 ·cases e
theorem Dl{c c' jo jp jt jr:Nat}{f f1 f2:Bool}{m:Int}(e0:k7 Ψ' c jo jp ds=.ok (f,.ob c' ns vs))(e1:Ψ jt [.ob c' ns vs]=.ok (f1,t))(e2:Ψ jr [.ob c' ns vs,t]=.ok (f2,.int m)):sI Ψ' Ψ c jo jp jt jr ds=.ok (true,.ob c' (ns++[("whole":Str)]) (vs++[.int m])):=by
 unfold sI;rw[e0];dsimp only;rw[e1];dsimp only;rw[e2]
theorem Dm:Imp φ (λ_=>.no):=λ_ _ _ _ _ _=>trivial
theorem Dp{n c ji jo jp jt jr:Nat}(hc:c<n)(XU:∀j,Imp (Φ' j) (Ψ' j))(hΦ:∀j,Imp (Φ j) (Ψ j))(hji:Φ ji=iF Φ' 5 (qu n jo jp))(ht:jst.lookup c=some jt)(hr:jsr.lookup c=some jr) :
  Imp (Eo c (iF Φ 2 (zp n ji jst jsr))) (sI Ψ' Ψ c jo jp jt jr):=λA h ds vs u q=>by
 unfold sI;cases e0:k7 Ψ' c jo jp ds with
 | no=>trivial
 | exc _ _=>trivial
 | ok fw =>
  obtain⟨net,p,q',ts,es,y,rfl,e1,e2,hz,e3,rfl⟩:=Dk e0;dsimp only;obtain⟨v,rfl,qn⟩:=ao.one q;obtain⟨h8,V1,v2,vE,r1,p8,g8,d8⟩:=vV (Φ:=Φ') (Ψ:=Ψ') hc XU u qn e1 e2 hz e3;have l8:=p8.length_le;have b8:h.length<h8.length:=(List.getElem?_eq_some_iff.mp g8).1;have dO:∀h',h8<+:h'->Dn (Fr h.length) h' (.ob c ["net","places","ends"] [.tup [.tup [.int p,.int q'],.rl ts],y,.dc ((bS p q' es).map (·.1)) ((bS p q' es).map (·.2))]) (.ref h.length):=λh' p'=>by
   rw[Dn];exact⟨h.length,_,rfl,Nat.le_refl _,bU p' g8,rfl,ao.mono (λ_ a=>a) (λ_ _ _ g=>bU p' g) _ _ (d8 (Fr h.length) λk hk=>show h.length<=k by omega)⟩
  have R1:=hΦ jt (Fr h.length) h8 _ _ (λk hk=>show h.length<=k by omega) (ao.cons (dO h8 (prefix_refl _)) ao.nil);generalize hob:Val.ob c ["net","places","ends"] [.tup [.tup [.int p,.int q'],.rl ts],y,.dc ((bS p q' es).map (·.1)) ((bS p q' es).map (·.2))]=ob at R1 dO;cases e4:Ψ jt [ob] with
  | no=>trivial
  | exc _ _=>trivial
  | ok ft =>
   obtain⟨f1,t⟩:=ft;dsimp only;rw[e4] at R1;obtain⟨vt,h9,x1,p9,d9,_⟩:=R1;have l9:=p9.length_le;have R2:=hΦ jr (Fr h.length) h9 _ _ (λk hk=>show h.length<=k by omega) (ao.cons (dO h9 p9) (ao.cons d9 ao.nil));cases e5:Ψ jr [ob,t] with
   | no=>trivial
   | exc _ _=>trivial
   | ok fm =>
    obtain⟨f2,m⟩:=fm;rw[e5] at R2;obtain⟨vm,O5,x2,QB,qY,dz⟩:=R2;clear dz;cases m<;>first|trivial|skip
    rename_i m;have qY:Dn (Fr h.length) O5 (.int m) vm:=qY;rw[Dn] at qY;subst qY;subst hob;dsimp only;have XW:=bU (p9.trans QB) g8;have g9:=bU p9 g8;have l10:=QB.length_le
    let h11:Hs:=O5.set h.length (.ins c [("net",V1),("places",v2),("ends",vE),("whole",.int m)])
    let env:Env:=[some (.ref h.length),some v]
    have mt:∀(g:Hs) (x:Str) (js:List (Nat×Nat)) (jj:Nat),g[h.length]?=some (.ins c [("net",V1),("places",v2),("ends",vE)])->("net":Str)≠x->("places":Str)≠x->("ends":Str)≠x->js.lookup c=some jj->kO g (.ref h.length) x js=some jj:=λg x js jj hg n1 n2 n3 hj=>by
     unfold kO;dsimp only;rw[hg];dsimp only;rw[if_pos]
     ·exact hj
     ·rw[lookup_cons,lookup_cons,lookup_cons,List.lookup_nil];rw[beq_eq_false_iff_ne.mpr n1.symm,beq_eq_false_iff_ne.mpr n2.symm,beq_eq_false_iff_ne.mpr n3.symm];rfl
    have s1:eO Φ (.expr (.call ji (.cons (.var 0) (.cons (.var 1) .nil)))) env (h++[Ob.ins c []])=.ok (.nx env) h8:=by
     rw[eO,aq (a:=.non) (h1:=h8)]
     ·rfl
     ·rw[aF,aq (a:=[.ref h.length,v]) (h1:=h++[Ob.ins c []])]
      ·rw[hji];exact r1
      ·rw[aU,aq (bQ rfl),aU];rw[show bnd (bnd (aF Φ (.var 1) env) λd=>bnd (aU Φ .nil env) λds=>ret (d::ds)) (λds=>ret (Val.ref h.length::ds)) (h++[Ob.ins c []])=_ from aq (a:=[v]) (h1:=h++[Ob.ins c []]) (by rw[aq (bQ rfl),aU];rfl)];rfl
    have eT:aF Φ (.mth (.var 0) "ties" jst .nil) env h8=.ok vt h9:=by rw[aF,aq (bQ rfl),jz (a:=jt) (mt h8 _ _ _ g8 (by decide) (by decide) (by decide) ht),aU];exact x1
    have s2:eO Φ (.setF n (.var 0) "whole" (.mth (.var 0) "tree_rank" jsr (.cons (.mth (.var 0) "ties" jst .nil) .nil))) env h8=.ok (.nx env) h11:=by
     have e:aF Φ (.mth (.var 0) "tree_rank" jsr (.cons (.mth (.var 0) "ties" jst .nil) .nil)) env h8=.ok (.int m) O5:=by
      rw[aF,aq (bQ rfl),jz (a:=jr) (mt h8 _ _ _ g8 (by decide) (by decide) (by decide) hr),aU];rw[aq (a:=[vt]) (h1:=h9)]
      ·exact x2
      ·rw[aq eT,aU];rfl
     rw[eO,aq e,aq (bQ rfl)];exact oS hc XW (by decide:3<1000)
    have run:Eo c (iF Φ 2 (zp n ji jst jsr)) [v] h=.ok (.ref h.length) h11:=by
     show bnd (iF Φ 2 (zp n ji jst jsr) [.ref h.length,v]) _ (h++[Ob.ins c []])=_;rw[aq (a:=.non) (h1:=h11)]
     ·rfl
     ·unfold iF
      rw[aq (a:=Fl.nx env) (h1:=h11)]
      ·rfl
      ·show dX Φ (zp n ji jst jsr) env _=_;rw[dX,aq s1];dsimp only;rw[dX,aq s2];dsimp only;rw[dX];rfl
    have hpre:h<+:h11:=by refine List.prefix_iff_getElem?.mpr λi hi=>?_;show (O5.set _ _)[i]?=_;rw[getElem?_set_ne (by omega)];exact List.prefix_iff_getElem?.mp ((p8.trans p9).trans QB) i hi
    have XX:h11[h.length]?=some (.ins c [("net",V1),("places",v2),("ends",vE),("whole",.int m)]):=getElem?_set_self (by omega);have dn:∀B:AP,(∀k,h.length<=k->B (some k))->Dn B h11 (.ob c ((["net","places","ends"]:List Str)++[("whole":Str)]) ([.tup [.tup [.int p,.int q'],.rl ts],y,.dc ((bS p q' es).map (·.1)) ((bS p q' es).map (·.2))]++[.int m])) (.ref h.length):=λB hB=>by
     rw[Dn];refine⟨h.length,_,rfl,hB _ (Nat.le_refl _),XX,rfl,?_⟩;have dd:=ao.mono (A':=B) (h':=h11) (λo z=>?_) (λk o a g=>?_) _ _ (d8 (Fr (h.length+1)) λk hk=>hk)
     ·exact ao.app dd (ao.cons ((iK _ _ rfl).mpr rfl) ao.nil)
     ·cases o with
      | none=>exact False.elim z
      | some k=>exact hB k (by have:h.length+1<=k:=z;omega)
     ·have a:h.length+1<=k:=a;show (O5.set _ _)[k]?=_;rw[getElem?_set_ne (by omega)];exact bU (p9.trans QB) g
    exact⟨_,h11,run,hpre,dn A λk hk=>u k hk,λ_=>dn _ λk hk=>hk⟩
end
end Hv
end
section
namespace Hv
open PySem L2
noncomputable def cnt(φ:Int->Int)(ps:List Int):Nat:=(eL [] (ps.map φ)).length
theorem fR{ps:List Int}{v:Int}:v∈eL [] (ps.map φ)↔∃x∈ps,φ x=v:=by
 rw[qm];simp
theorem Dq{ps:List Int}(h:∀x∈ps,∀y∈ps,g x=g y->f x=f y):cnt f ps<=cnt g ps:=by
 classical
 let r:Int->Int:=λv=>if hv:∃x∈ps,f x=v then g (Classical.choose hv) else 0
 have hr:∀v∈eL [] (ps.map f),∃x∈ps,f x=v/\r v=g x:=λv hv=>by
  have e:=fR.mp hv;refine⟨Classical.choose e,(choose_spec e).1,(choose_spec e).2,?_⟩;show (if hv:∃x∈ps,f x=v then g (Classical.choose hv) else 0)=_;rw[dif_pos e]
 have nd:((eL [] (ps.map f)).map r).Nodup:=by
  have n0:=fJ (ps.map f) [] nodup_nil;revert hr n0;generalize eL [] (ps.map f)=l;intro hr n0
  induction l with
  | nil=>exact nodup_nil
  | cons v l ih =>rw[nodup_cons] at n0;rw[map_cons,nodup_cons];refine⟨λhm=>?_,ih (λw hw=>hr w (mem_cons_of_mem _ hw)) n0.2⟩;obtain⟨w,hw,e⟩:=mem_map.mp hm;obtain⟨x,hx,e1,e2⟩:=hr v (mem_cons_self ..);obtain⟨y,hy,e3,e4⟩:=hr w (mem_cons_of_mem _ hw);have:f x=f y:=h x hx y hy (by rw[<-e2,<-e4,e]);exact n0.1 (by rw[<-e1,this,e3];exact hw)
 have:=fH nd (m:=eL [] (ps.map g)) λz hz=>by
  obtain⟨v,hv,rfl⟩:=mem_map.mp hz;obtain⟨x,hx,_,e2⟩:=hr v hv;rw[e2];exact fR.mpr ⟨x,hx,rfl⟩
 rw[length_map] at this;exact this
theorem LL{ps:List Int}(h:∀x∈ps,∀y∈ps,f x=f y↔g x=g y):cnt f ps=cnt g ps :=
 Nat.le_antisymm (Dq λx hx y hy=>(h x hx y hy).mpr) (Dq λx hx y hy=>(h x hx y hy).mp)
theorem cnt_join{ps:List Int}{a b:Int}(ha:a∈ps)(hb:b∈ps)(ne:ψ a ≠ ψ b):cnt (λx=>if ψ x = ψ b then ψ a else ψ x) ps+1=cnt ψ ps:=by
 have m1:ψ b∈eL [] (ps.map ψ):=fR.mpr ⟨b,hb,rfl⟩;have n1:=fJ (ps.map ψ) [] nodup_nil;have n2:=fJ (ps.map λx=>if ψ x = ψ b then ψ a else ψ x) [] nodup_nil;have XY:=fH n2 (m:=(eL [] (ps.map ψ)).erase (ψ b)) λv hv=>by
  obtain⟨x,hx,e⟩:=fR.mp hv;rw[List.Nodup.mem_erase_iff n1]
  by_cases c:ψ x = ψ b
  ·rw[if_pos c] at e;subst e;exact⟨ne,fR.mpr ⟨a,ha,rfl⟩⟩
  ·rw[if_neg c] at e;subst e;exact⟨c,fR.mpr ⟨x,hx,rfl⟩⟩
 have XZ:=fH (n1.erase (ψ b)) (m:=eL [] (ps.map λx=>if ψ x = ψ b then ψ a else ψ x)) λv hv=>by
  rw[List.Nodup.mem_erase_iff n1] at hv;obtain⟨x,hx,e⟩:=fR.mp hv.2;subst e;exact fR.mpr ⟨x,hx,by rw[if_neg hv.1]⟩
 rw[List.length_erase_of_mem m1] at XY XZ;have:=List.length_pos_of_mem m1;unfold cnt;omega
end Hv
end
section
namespace Hv
open PySem L2
theorem jR.fix{ps:List Int}(h:jR ps es φ){x:Int}(hx:x∈ps):φ (φ x) = φ x:=((h.way x hx).const φ h.same).symm
noncomputable def rk(φ:Int->Int)(ps:List Int):Nat:=(ps.filter λx=>!decide (φ x=x)).length
theorem zq(t:Int->Bool):∀ps:List Int,(ps.filter t).length+(ps.filter λx=>!t x).length=ps.length
 | []=>rfl
 | x::r=>by
  have ih:=zq t r;cases h:t x with
  | true=>rw[List.filter_cons_of_pos h,List.filter_cons_of_neg (by simp[h]),length_cons,length_cons];omega
  | false=>rw[List.filter_cons_of_neg (by simp[h]),List.filter_cons_of_pos (by simp[h]),length_cons,length_cons];omega
theorem qv{ps:List Int}(h:jR ps es φ)(hn:ps.Nodup):rk φ ps+cnt φ ps=ps.length:=by
 have e:cnt φ ps=(ps.filter λx=>decide (φ x=x)).length:=by
  unfold cnt;refine Nat.le_antisymm (fH (fJ _ [] nodup_nil) λv hv=>?_) (fH (hn.filter _) λv hv=>?_)
  ·obtain⟨x,hx,rfl⟩:=fR.mp hv;exact mem_filter.mpr ⟨h.uZ x hx,decide_eq_true (h.fix hx)⟩
  ·obtain⟨a,b⟩:=mem_filter.mp hv;exact fR.mpr ⟨v,a,of_decide_eq_true b⟩
 rw[e];have:=zq (λx=>decide (φ x=x)) ps;unfold rk;omega
theorem LM{ps:List Int}(hn:ps.Nodup):cnt id ps=ps.length:=by
 have h:=qv (jR.start ps) hn;have:rk id ps=0:=by unfold rk;rw[List.filter_eq_nil_iff.mpr λx _=>by simp];rfl
 omega
theorem IM{ps:List Int}{n:Nat}(h1:jR ps es φ)(h2:jR ps es ψ)(hn:ps.Nodup)(e:n+cnt ψ ps=ps.length):n=rk φ ps:=by
 have c:cnt φ ps=cnt ψ ps:=LL λx hx y hy=>by rw[h1.iff hx hy,h2.iff hx hy]
 have:=qv h1 hn;omega
theorem jR.sJ{ps:List Int}(h:jR ps es f){a b:Int}(ha:a∈ps)(hb:b∈ps)(e:f a=f b):jR ps (es++[(a,b)]) f:=by
 have:=h.step ha hb (f a) (f b) (.inl ⟨rfl,rfl⟩);have ef:(λx=>if f x=f b then f a else f x)=f:=funext λx=>by
  split
  ·rename_i c;rw[c,e]
  ·rfl
 rwa [ef] at this
theorem LN{xs:List Int}{x:Int}:xP [] (kZ xs g) (.inl x)=some (if x∈xs then some (g x) else none):=by
 unfold xP kZ;dsimp only;rw[t8]
 congr 1
 unfold bV
 induction xs with
 | nil=>simp
 | cons y r ih =>
  rw[map_cons,find?_cons]
  by_cases e:y=x
  ·subst e;simp
  ·have:((Sum.inl y:Key)=Sum.inl x)=False:=by simp[e]
   have e':¬ x=y:=λh=>e h.symm;simp only[this,decide_false];rw[ih];simp[e']
theorem zu{ks:List Int}{ψ:Int->Int}{a:Int}:putD (ks.map Sum.inl) (ks.map λx=>Val.int (ψ x)) (.inl a) (.int (ψ a))=kZ (e7 ks a) λx=>.int (ψ x):=by
 have eu:∀y,nE (λx=>Val.int (ψ x)) a (.int (ψ a)) y=.int (ψ y):=λy=>by
  unfold nE
  split
  ·rename_i e;rw[e]
  ·rfl
 unfold e7
 by_cases h:a∈ks
 ·rw[t9 h,if_pos h];exact cP λy _=>eu y
 ·rw[ua h,if_neg h];exact cP λy _=>eu y
theorem jc{ks:List Int}{a x:Int}:x∈e7 ks a↔x∈ks\/x=a:=by
 unfold e7
 split
 ·rename_i h;exact⟨.inl,λk=>k.elim id λe=>e▸h⟩
 ·simp
theorem zw{ks:List Int}{a:Int}(h:ks.Nodup):(e7 ks a).Nodup:=by
 unfold e7
 split
 ·exact h
 ·rename_i n;rw[nodup_append];exact⟨h,by simp,λx hx y hy e=>n (by rw[mem_singleton] at hy;rw[<-hy,<-e];exact hx)⟩
theorem kc(ks:List Int)(a:Int):(e7 ks a).length<=ks.length+1:=by
 unfold e7
 split
 ·omega
 ·simp
theorem qw:∀ks:List Int,pQ (ks.map Sum.inl)=some ks
 | []=>rfl
 | x::r=>by
  have ih:=qw r;unfold pQ at ih |-;rw[map_cons,cD,ih];rfl
theorem Dr{ks:List Int}(h:ks.length<64):lC [] (kZ ks g)=some (PySem.W.sortI ks):=by
 unfold lC;show (pQ (ks.map Sum.inl)).bind _=_;rw[qw];show (if ks.length<64 then some (PySem.W.sortI ks) else none)=_;rw[if_pos h]
structure AO (ps ks:List Int) (es:List (Int×Int)) (ψ:Int->Int) (n:Nat):Prop where
 GS:jR ps es ψ
 nd:ks.Nodup
 off:∀x,x∉ks -> ψ x=x
 uZ:∀x∈ks,ψ x∈ks
 num:n+cnt ψ ps=ps.length
 len:ks.length<=2*es.length
theorem AO.start{ps:List Int}(hn:ps.Nodup):AO ps [] [] id 0:=⟨jR.start ps,nodup_nil,λ_ _=>rfl,λx h=>by simp at h,by rw[LM hn];omega,Nat.le_refl _⟩
theorem AO.stay{ps ks:List Int}{n:Nat}(m:AO ps ks es ψ n){a b:Int}(ha:a∈ps)(hb:b∈ps)(e:ψ a = ψ b):AO ps ks (es++[(a,b)]) ψ n :=
 ⟨m.GS.sJ ha hb e,m.nd,m.off,m.uZ,m.num,by have:=m.len;simp;omega⟩
theorem AO.join{ps ks:List Int}{n:Nat}(m:AO ps ks es ψ n){a b:Int}(ha:a∈ps)(hb:b∈ps)(ne:ψ a ≠ ψ b):AO ps (e7 (e7 ks a) b) (es++[(a,b)]) (λx=>if ψ x = ψ b then ψ a else ψ x) (n+1):=by
 have key:∀x,x∈ks\/x=a\/x=b -> ψ x∈e7 (e7 ks a) b:=λx hx=>by
  rw[jc,jc]
  by_cases h:x∈ks
  ·exact .inl (.inl (m.uZ x h))
  ·rw[m.off x h]
   rcases hx with hx|hx|hx
   ·exact absurd hx h
   ·exact .inl (.inr hx)
   ·exact .inr hx
 refine⟨m.GS.step ha hb (ψ a) (ψ b) (.inl ⟨rfl,rfl⟩),zw (zw m.nd),λx hx=>?_,λx hx=>?_,?_,?_⟩
 ·have hx':x∉ks:=λh=>hx (jc.mpr (.inl (jc.mpr (.inl h))));rw[m.off x hx'];rw[if_neg];intro e;exact hx (by rw[e];exact key b (.inr (.inr rfl)))
 ·split
  ·exact key a (.inr (.inl rfl))
  ·refine key x ?_
   rcases jc.mp hx with h|h
   ·rcases jc.mp h with h|h
    ·exact .inl h
    ·exact .inr (.inl h)
   ·exact .inr (.inr h)
 ·have:=cnt_join ha hb ne;have:=m.num;omega
 ·have h1:=kc (e7 ks a) b;have h2:=kc ks a;have:=m.len;simp;omega
end Hv
end
section
namespace Hv
open PySem L2
noncomputable def MO(ps:List Int)(es:List (Int×Int)):Prop:=∀e∈es,e.1∈ps/\e.2∈ps
theorem Ds{ps:List Int}:∀(es pre:List (Int×Int)) (φ:Int->Int),jR ps pre φ -> MO ps es->∃ψ,jR ps (pre++es) ψ
 | [],pre,φ,h,_=>⟨φ,by rw[append_nil];exact h⟩
 | e::r,pre,φ,h,hi=>by
  obtain⟨h1,h2⟩:=hi e mem_cons_self;have st:=h.step h1 h2 (φ e.1) (φ e.2) (.inl ⟨rfl,rfl⟩);obtain⟨ψ,k⟩:=Ds r (pre++[(e.1,e.2)]) _ st λx hx=>hi x (mem_cons_of_mem _ hx);exact⟨ψ,by rw[List.append_assoc] at k;exact k⟩
theorem Dt{ps:List Int}(hi:MO ps es):∃ψ,jR ps es ψ:=by
 obtain⟨ψ,h⟩:=Ds es [] id (jR.start ps) hi;exact⟨ψ,h⟩
theorem jR.LO{ps:List Int}(h:jR ps es φ)(hm:∀e,e∈es↔e∈es'):jR ps es' φ :=
 ⟨h.uZ,λx hx=>(h.way x hx).mono λe he=>(hm e).mp he,λe he=>h.same e ((hm e).mpr he)⟩
open Classical in
noncomputable def tr(ps:List Int)(es:List (Int×Int)):Nat:=if h:∃φ,jR ps es φ then rk (Classical.choose h) ps else 0
theorem mF{ps:List Int}(h:jR ps es φ)(hn:ps.Nodup):tr ps es=rk φ ps:=by
 unfold tr;have h':∃φ,jR ps es φ:=⟨φ,h⟩;rw[dif_pos h'];have h2:=choose_spec h';exact IM h h2 hn (qv h2 hn)
theorem LP{ps:List Int}{n:Nat}(h:jR ps es ψ)(hn:ps.Nodup)(e:n+cnt ψ ps=ps.length):n=tr ps es:=by
 rw[mF h hn];exact IM h h hn e
theorem vW{ps:List Int}(hn:ps.Nodup)(hi:MO ps es)(hm:∀e,e∈es↔e∈es'):tr ps es=tr ps es':=by
 obtain⟨φ,h⟩:=Dt hi;rw[mF h hn,mF (h.LO hm) hn]
open Classical in
theorem GU{ps:List Int}{a b:Int}(hn:ps.Nodup)(hi:MO ps es)(ha:a∈ps)(hb:b∈ps)(hm:∀e,e∈es'↔e∈es\/e=(a,b)):tr ps es'=tr ps es+if Way es a b then 0 else 1:=by
 obtain⟨φ,h⟩:=Dt hi;have hi':MO ps (es++[(a,b)]):=λe he=>by
  rcases mem_append.mp he with he|he
  ·exact hi e he
  ·rw[mem_singleton.mp he];exact⟨ha,hb⟩
 rw[<-vW (es:=es++[(a,b)]) hn hi' (λe=>by rw[hm e];simp)]
 by_cases c:φ a = φ b
 ·rw[if_pos ((h.iff ha hb).mp c),mF (h.sJ ha hb c) hn,mF h hn,Nat.add_zero]
 ·rw[if_neg (λw=>c ((h.iff ha hb).mpr w))];have st:=h.step ha hb (φ a) (φ b) (.inl ⟨rfl,rfl⟩);have e1:=qv st hn;have e2:=qv h hn;have e3:=cnt_join ha hb c;rw[mF st hn,mF h hn];omega
end Hv
end
section
namespace Hv
open PySem L2
noncomputable def ck(aa:aR):aR:=aa.map λo=>match o with
 | some (.nw,_)=>none
 | some (_,d)=>some (.sh,d)
 | none=>none
noncomputable def eE(aa:aR):aR:=aa.map λo=>match o with
 | some (.sh,d)=>some (.sh,d)
 | _=>none
noncomputable def LQ(Ψ:Nat->List Val->Pr FV)(e:IE)(env:aR):Pr FV:=match aX Ψ e (eE env) with
 | .ok x=>.ok x
 | _=>pb (aX Ψ e (ck env)) λx=>pg x.1 (.ok x)
noncomputable def yb(_:IE)(_:xO)(_:Ik)(_:fy):Option (Nat×Nat):=none
noncomputable def O6:List Val->Option (List (List Int)):=cD λv=>match v with
 | .rl es=>aT es
 | _=>none
noncomputable def Sv(env:aR)(iq:Nat×Nat):Pr wJ:=match env[iq.1]? with
 | some (some (.ow,.rl ds))=>pb (pl (O6 ds)) λls=>pg ((ls.all λl=>decide (l.length+ls.length<sizeLine))&&decide (iq.2<env.length)) (.ok (.nx ((env.set iq.1 none).set iq.2 none)))
 | _=>.no
mutual
noncomputable def bF(Ψ:Nat->List Val->Pr FV)(sp:List Nat):IS->aR->Pr wJ
 | .expr e,env=>match e with
  | .met .append (.var i) (.cons a .nil)=>match env[i]? with
   | some (some (.ow,.rl ds))=>pb (aX Ψ a (ck env)) λx=>pg (decide (ds.length<sizeLine)) (.ok (.nx (env.set i (if bw (ds++[x.2])=true then some (.ow,.rl (ds++[x.2])) else none))))
   | _=>.no
  | _=>.no
 | .asg p e,env=>match p with
  | .one i=>if sp.contains i=true then pb (aX Ψ e (ck env)) λx=>pg x.1 (.ok (.nx (env.set i (some (.ow,x.2)))))
    else pb (LQ Ψ e env) λx=>.ok (.nx (env.set i (some (.sh,x.2))))
  | .tup is=>pb (LQ Ψ e env) λx=>pb (pl (cA (.tup is) x.2 env)) λenv'=>.ok (.nx env')
 | .e8 _ _ _,_=>.no
 | .iff c a b,env=>pb (aX Ψ c (ck env)) λx=>pb (pl (dJ [] x.2)) λt=>if t=true then bK Ψ sp a env else bK Ψ sp b env
 | .for p k it body,env=>match it with
  | .cons e .nil=>match yb e p k body with
   | some iq=>Sv env iq
   | none=>pb (LQ Ψ e env) λx=>pb (pl (gO k [x.2])) λxs=>iV (λx env=>pb (pl (cA p x env)) λenv'=>bK Ψ sp body env') xs env
  | _=>.no
 | .ret e,env=>pb (aX Ψ e (ck env)) λp=>.ok (.rt p)
 | .brk,env=>.ok (.bk env)
 | .cnt,env=>.ok (.ct env)
 | .pass,env=>.ok (.nx env)
 | _,_=>.no
noncomputable def bK(Ψ:Nat->List Val->Pr FV)(sp:List Nat):fy->aR->Pr wJ
 | .nil,env=>.ok (.nx env)
 | .cons s r,env=>pb (bF Ψ sp s env) λf=>match f with
  | .nx env'=>bK Ψ sp r env'
  | f=>.ok f
end
mutual
noncomputable def Sw:IS->List Nat
 | .expr (.met .append (.var i) _)=>[i]
 | .expr (.met .append (.idx (.var i) _) _)=>[i]
 | .e8 (.idx (.var i) _) _ _=>[i]
 | .iff _ a b=>kg a++kg b
 | .for p k it b=>match it with
  | .cons e .nil=>match yb e p k b with
   | some iq=>[iq.1]
   | none=>kg b
  | _=>kg b
 | _=>[]
noncomputable def kg:fy->List Nat
 | .nil=>[]
 | .cons s r=>Sw s++kg r
end
noncomputable def LR(Ψ:Nat->List Val->Pr FV)(n:Nat)(body:fy)(ds:List Val):Pr FV :=
 pb (bK Ψ (kg body) body (ds.map (λd=>some (.sh,d))++replicate (n-ds.length) none)) λf=>match f with
  | .nx _=>.ok (true,.non)
  | .rt p=>.ok p
  | _=>.no
noncomputable abbrev UR:=Nat->Nat->Prop
noncomputable def AU(U:UR):AP:=λo=>match o with
 | none=>True
 | some k=>∀i,¬ U i k
noncomputable def RU(U:UR)(i:Nat):AP:=λo=>match o with
 | none=>False
 | some k=>U i k
structure SL (aa:aR) (env:Env) (h:Hs) (U:UR):Prop where
 len:aa.length=env.length
 sh:∀(i:Nat) (d:Val),aa[i]?=some (some (.sh,d))->∃v,env[i]?=some (some v)/\Dn (AU U) h d v
 un:∀(i:Nat) (d:Val),aa[i]?=some (some (.ow,d))->∃v,env[i]?=some (some v)/\Dn (RU U i) h d v
 ub:∀i k,U i k->k<h.length
 IP:∀i j k,U i k->U j k->i=j
structure KU (h:Hs) (U:UR) (h':Hs) (U':UR):Prop where
 le:h.length<=h'.length
 keep:∀k,k<h.length->(∀i,¬ U i k)->h'[k]?=h[k]?/\∀i,¬ U' i k
noncomputable def MP(U:UR)(i:Nat):UR:=λj k=>j≠i/\U j k
noncomputable def Du(U:UR)(i n m:Nat):UR:=λj k=>if j=i then n<=k/\k<m else U j k
noncomputable def jA{α β:Type}(R:α -> Hs -> β -> Prop)(o:Out β):Pr α -> Prop
 | .ok a=>∃b h',o=.ok b h'/\R a h' b
 | _=>True
noncomputable def RL(h:Hs)(U:UR):wJ->Hs->Fl->Prop
 | .nx av,h',.nx env'=>∃U',SL av env' h' U'/\KU h U h' U'
 | .bk av,h',.bk env'=>∃U',SL av env' h' U'/\KU h U h' U'
 | .ct av,h',.ct env'=>∃U',SL av env' h' U'/\KU h U h' U'
 | .rt p,h',.rt v=>Dn (λ_=>True) h' p.2 v
 | _,_,_=>False
section
variable {α β γ δ:Type} {h h1 h2:Hs} {U U1 U2:UR} {aa:aR} {env:Env}
theorem cB(r:jA R (m h) p)(k:∀a h1 b,R a h1 b->jA R' (f b h1) (F a)):jA R' (bnd m f h) (pb p F):=by
 unfold bnd;cases p with
 | ok a=>obtain⟨b,h1,e,q⟩:=r;rw[e];exact k a h1 b q
 | exc c es=>trivial
 | no=>trivial
theorem GV(r:Rel A h R o p):jA (λa h' b=>h<+:h'/\R a h' b) o p:=by
 cases p with
 | ok a=>exact r
 | exc c es=>trivial
 | no=>trivial
theorem cY(r:R a h b):jA R (ret b h) (.ok a):=⟨b,h,rfl,r⟩
theorem mG(r:∀a,o=some a->∃b,o'=some b/\R a h b):jA R (bh o' h) (pl o):=by
 cases o with
 | none=>trivial
 | some a=>obtain⟨b,rfl,q⟩:=r a rfl;exact⟨b,h,rfl,q⟩
theorem ud{c:Bool}(r:c=true->jA R o p):jA R o (pg c p):=by
 unfold pg;cases c with
 | true=>rw[if_pos rfl];exact r rfl
 | false=>rw[if_neg Bool.false_ne_true];trivial
theorem jd(r:jA R o p)(k:∀a h' b,R a h' b->R' a h' b):jA R' o p:=by
 cases p with
 | ok a=>obtain⟨b,h',e,r⟩:=r;exact⟨b,h',e,k a h' b r⟩
 | exc c es=>trivial
 | no=>trivial
theorem KU.refl(s:SL aa env h U)(p:h<+:h1):KU h U h1 U:=⟨p.length_le,λk hk n=>⟨f9 p hk,n⟩⟩
theorem KU.trans(a:KU h U h1 U1)(b:KU h1 U1 h2 U2):KU h U h2 U2 where
 le:=le_trans a.le b.le
 keep k hk n:=by obtain⟨a1,a2⟩:=a.keep k hk n;obtain⟨b1,b2⟩:=b.keep k (lt_of_lt_of_le hk a.le) a2;exact⟨b1.trans a1,b2⟩
theorem RL.seq(a:KU h U h1 U1)(r:RL h1 U1 f h' g):RL h U f h' g:=by
 cases f<;>cases g<;>first|exact r.elim|exact r|(obtain⟨O',b,c⟩:=r;exact⟨O',b,a.trans c⟩)
theorem SL.ext(s:SL aa env h U)(p:h<+:h1):SL aa env h1 U where
 len:=s.len
 sh i d e:=by obtain⟨v,k1,k2⟩:=s.sh i d e;exact⟨v,k1,k2.ext p⟩
 un i d e:=by obtain⟨v,k1,k2⟩:=s.un i d e;exact⟨v,k1,k2.ext p⟩
 ub i k e:=lt_of_lt_of_le (s.ub i k e) p.length_le
 IP:=s.IP
theorem SL.flat(s:SL aa env h U):ER (λ_=>True) (ck aa) env h:=λi f d q=>by
 unfold ck at q;rw[getElem?_map] at q;cases e:aa[i]? with
 | none=>rw[e] at q;cases q
 | some o =>
  rw[e] at q;cases o with
  | none=>cases q
  | some fd =>
   obtain⟨g,d'⟩:=fd;cases g with
   | nw=>cases q
   | ow=>cases q;rw[if_neg (by decide)];obtain⟨v,k1,k2⟩:=s.un i _ e;exact⟨v,k1,k2.fZ λ_ _=>trivial⟩
   | sh=>cases q;rw[if_neg (by decide)];obtain⟨v,k1,k2⟩:=s.sh i _ e;exact⟨v,k1,k2.fZ λ_ _=>trivial⟩
theorem SL.hide(s:SL aa env h U):ER (AU U) (eE aa) env h:=λi f d q=>by
 unfold eE at q;rw[getElem?_map] at q;cases e:aa[i]? with
 | none=>rw[e] at q;cases q
 | some o =>
  rw[e] at q;cases o with
  | none=>cases q
  | some fd =>
   obtain⟨g,d'⟩:=fd;cases g with
   | ow=>cases q
   | nw=>cases q
   | sh =>cases q;rw[if_neg (by decide)];exact s.sh i _ e
theorem SL.up(s:SL aa env h U):Up (AU U) h:=λk hk i z=>by have:=s.ub i k z;omega
theorem ue{i:Nat}:∀o,AU U o->AU (MP U i) o
 | none,_=>trivial
 | some k,n=>λj z=>n j z.2
theorem Dv{i j:Nat}(hj:j≠i):∀o,RU U j o->RU (MP U i) j o
 | none,e=>e
 | some k,e=>⟨hj,e⟩
theorem SL.set(s:SL aa env h U){i:Nat}(q:Dn (AU U) h d v):SL (aa.set i (some (.sh,d))) (env.set i (some v)) h (MP U i)/\KU h U h (MP U i):=by
 refine⟨⟨by simp[s.len],λj d' e=>?_,λj d' e=>?_,λj k e=>s.ub j k e.2,λj l k e1 e2=>s.IP j l k e1.2 e2.2⟩,Nat.le_refl _,λk hk n=>⟨rfl,λj z=>n j z.2⟩⟩
 ·by_cases hij:i=j
  ·subst hij
   have hi:i<aa.length:=by have:=(List.getElem?_eq_some_iff.mp e).1;simpa using this
   rw[getElem?_set_self hi] at e;cases e;exact⟨v,by rw[getElem?_set_self (by rw[<-s.len];exact hi)],q.fZ ue⟩
  ·rw[getElem?_set_ne hij] at e;rw[getElem?_set_ne hij];obtain⟨w,k1,k2⟩:=s.sh j d' e;exact⟨w,k1,k2.fZ ue⟩
 ·by_cases hij:i=j
  ·subst hij
   have hi:i<aa.length:=by have:=(List.getElem?_eq_some_iff.mp e).1;simpa using this
   rw[getElem?_set_self hi] at e;cases e
  ·rw[getElem?_set_ne hij] at e;rw[getElem?_set_ne hij];obtain⟨w,k1,k2⟩:=s.un j d' e;exact⟨w,k1,k2.fZ (Dv λz=>hij z.symm)⟩
theorem SL.Sx(s:SL aa env h U)(p:h<+:h1){i:Nat}(q:Dn (Fr h.length) h1 d v):SL (aa.set i (some (.ow,d))) (env.set i (some v)) h1 (Du U i h.length h1.length)/\KU h U h1 (Du U i h.length h1.length):=by
 have no:∀k j,k<h.length->¬ U j k->¬ Du U i h.length h1.length j k:=λk j hk n z=>by
  unfold Du at z;split at z
  ·omega
  ·exact n z
 have X0:∀(k:Nat) (o:Ob),AU U (some k)->h[k]?=some o->AU (Du U i h.length h1.length) (some k)/\h1[k]?=some o:=λk o a g=>⟨λj=>no k j (List.getElem?_eq_some_iff.mp g).1 (a j),bU p g⟩;refine⟨⟨by simp[s.len],λj d' e=>?_,λj d' e=>?_,λj k e=>?_,λj l k e1 e2=>?_⟩,p.length_le,λk hk n=>⟨f9 p hk,λj=>no k j hk (n j)⟩⟩
 ·by_cases hij:i=j
  ·subst hij
   have hi:i<aa.length:=by have:=(List.getElem?_eq_some_iff.mp e).1;simpa using this
   rw[getElem?_set_self hi] at e;cases e
  ·rw[getElem?_set_ne hij] at e;rw[getElem?_set_ne hij];obtain⟨w,k1,k2⟩:=s.sh j d' e;exact⟨w,k1,Dn.move (λ_=>trivial) X0 _ _ k2⟩
 ·by_cases hij:i=j
  ·subst hij
   have hi:i<aa.length:=by have:=(List.getElem?_eq_some_iff.mp e).1;simpa using this
   rw[getElem?_set_self hi] at e;cases e;refine⟨v,by rw[getElem?_set_self (by rw[<-s.len];exact hi)],Dn.move (A:=Fr h.length) (λz=>False.elim z) (λk o a g=>⟨?_,g⟩) _ _ q⟩;show Du U i h.length h1.length i k;unfold Du;rw[if_pos rfl];exact⟨a,(List.getElem?_eq_some_iff.mp g).1⟩
  ·rw[getElem?_set_ne hij] at e;rw[getElem?_set_ne hij];obtain⟨w,k1,k2⟩:=s.un j d' e;refine⟨w,k1,Dn.move (A:=RU U j) (λz=>False.elim z) (λk o a g=>⟨?_,bU p g⟩) _ _ k2⟩;show Du U i h.length h1.length j k;unfold Du;rw[if_neg λz=>hij z.symm];exact a
 ·unfold Du at e
  split at e
  ·exact e.2
  ·exact lt_of_lt_of_le (s.ub j k e) p.length_le
 ·unfold Du at e1 e2
  split at e1<;>split at e2
  ·rename_i a b;rw[a,b]
  ·have:=s.ub l k e2;omega
  ·have:=s.ub j k e1;omega
  ·exact s.IP j l k e1 e2
theorem SL.binds:∀{is:List Nat} {ds vs:List Val} {aa:aR} {env:Env} {U:UR} {av:aR},SL aa env h U->bB is ds aa=some av->ao (AU U) h ds vs ->
  ∃env' U',bindAll is vs env=some env'/\SL av env' h U'/\KU h U h U'
 | [],[],vs,aa,env,U,av,s,e,q=>by
  rw[ao] at q;subst q;simp only[bB] at e;cases e;exact⟨env,U,rfl,s,KU.refl s (prefix_refl _)⟩
 | i::is,d::ds,vs,aa,env,U,av,s,e,q=>by
  rw[ao] at q;obtain⟨v,r,rfl,q1,q2⟩:=q;simp only[bB] at e;obtain⟨s1,f1⟩:=s.set (i:=i) q1;obtain⟨env',U',b1,b2,b3⟩:=SL.binds s1 e (q2.fZ ue);exact⟨env',U',by simp only[bindAll];exact b1,b2,f1.trans b3⟩
 | [],_::_,_,_,_,_,_,_,e,_=>by simp[bB] at e
 | _::_,[],_,_,_,_,_,_,e,_=>by simp[bB] at e
theorem SL.bind(s:SL aa env h U)(e:cA p d aa=some av)(q:Dn (AU U) h d v):∃env' U',fV p v env=some env'/\SL av env' h U'/\KU h U h U':=by
 cases p with
 | one i =>simp only[cA] at e;cases e;obtain⟨s1,f1⟩:=s.set (i:=i) q;exact⟨_,_,rfl,s1,f1⟩
 | tup is =>
  cases d<;>simp only[cA] at e<;>first|(cases e;done)|skip
  rw[Dn] at q;obtain⟨vs,rfl,q⟩:=q;exact s.binds e q
theorem SL.O7(s:SL aa env h U){i b:Nat}(hb:U i b):SL (aa.set i none) env (h.set b o) (MP U i)/\KU h U (h.set b o) (MP U i):=by
 refine⟨⟨by simp[s.len],λj d' e=>?_,λj d' e=>?_,λj k e=>by rw[length_set];exact s.ub j k e.2,λj l k e1 e2=>s.IP j l k e1.2 e2.2⟩,by simp,λk hk n=>⟨?_,λj z=>n j z.2⟩⟩
 ·by_cases hij:i=j
  ·subst hij
   have hi:i<aa.length:=by have:=(List.getElem?_eq_some_iff.mp e).1;simpa using this
   rw[getElem?_set_self hi] at e;cases e
  ·rw[getElem?_set_ne hij] at e;obtain⟨w,k1,k2⟩:=s.sh j d' e;refine⟨w,k1,Dn.move (λ_=>trivial) (λk o' a g=>⟨ue _ a,?_⟩) _ _ k2⟩;rw[getElem?_set_ne λz=>a i (by rw[<-z];exact hb)];exact g
 ·by_cases hij:i=j
  ·subst hij
   have hi:i<aa.length:=by have:=(List.getElem?_eq_some_iff.mp e).1;simpa using this
   rw[getElem?_set_self hi] at e;cases e
  ·rw[getElem?_set_ne hij] at e;obtain⟨w,k1,k2⟩:=s.un j d' e;refine⟨w,k1,Dn.move (A:=RU U j) (λz=>False.elim z) (λk o' a g=>⟨Dv (λz=>hij z.symm) (some k) a,?_⟩) _ _ k2⟩;rw[getElem?_set_ne λz=>hij (s.IP i j k (by rw[<-z];exact hb) a)];exact g
 ·rw[getElem?_set_ne λz=>n i (by rw[<-z];exact hb)]
theorem SL.regrow(s:SL aa env h U){i b:Nat}(e:aa[i]?=some (some (.ow,d)))(ee:env[i]?=some (some w))(hb:U i b)(nw:Dn (RU U i) (h.set b o) dn w) :
  SL (aa.set i (some (.ow,dn))) env (h.set b o) U/\KU h U (h.set b o) U:=by
 have hlt:i<aa.length:=(List.getElem?_eq_some_iff.mp e).1;refine⟨⟨by simp[s.len],λj d' ej=>?_,λj d' ej=>?_,λj k ek=>by rw[length_set];exact s.ub j k ek,s.IP⟩,by simp,λk hk n=>⟨?_,n⟩⟩
 ·by_cases hij:i=j
  ·subst hij;rw[getElem?_set_self hlt] at ej;cases ej
  ·rw[getElem?_set_ne hij] at ej;obtain⟨w,k1,k2⟩:=s.sh j d' ej;refine⟨w,k1,Dn.move (λ_=>trivial) (λk o' a g=>⟨a,?_⟩) _ _ k2⟩;rw[getElem?_set_ne λz=>a i (by rw[<-z];exact hb)];exact g
 ·by_cases hij:i=j
  ·subst hij;rw[getElem?_set_self hlt] at ej;cases ej;exact⟨w,ee,nw⟩
  ·rw[getElem?_set_ne hij] at ej;obtain⟨w,k1,k2⟩:=s.un j d' ej;refine⟨w,k1,Dn.move (A:=RU U j) (λz=>False.elim z) (λk o' a g=>⟨a,?_⟩) _ _ k2⟩;rw[getElem?_set_ne λz=>hij (s.IP i j k (by rw[<-z];exact hb) a)];exact g
 ·rw[getElem?_set_ne λz=>n i (by rw[<-z];exact hb)]
theorem SL.grow(s:SL aa env h U){i b:Nat}(e:aa[i]?=some (some (.ow,d)))(ee:env[i]?=some (some (.ref b)))(hb:U i b)(hi:bw ds=true)(hv:vs=ds) :
  SL (aa.set i (some (.ow,.rl ds))) env (h.set b (.lst vs)) U/\KU h U (h.set b (.lst vs)) U :=
 s.regrow e ee hb (by rw[Dn];exact .inr ⟨b,vs,rfl,hb,by rw[getElem?_set_self (s.ub i b hb)],(aS _ _ hi).mpr hv⟩)
end
end Hv
end
section
namespace Hv
open PySem L2
section
variable {Φ:Nat->List Val->M Val} {Ψ:Nat->List Val->Pr FV} {sp:List Nat} {aa:aR} {env:Env} {h:Hs} {U:UR}
theorem uf(V:bN Φ Ψ e)(s:SL aa env h U):jA (λx h' v=>h<+:h'/\Dn (AU U) h' x.2 v) (aF Φ e env h) (LQ Ψ e aa):=by
 have r1:=V (eE aa) env (AU U) h s.up s.hide;have r2:=V (ck aa) env (λ_=>True) h (λ_ _=>trivial) s.flat
 have go:jA (λx h' v=>h<+:h'/\Dn (AU U) h' x.2 v) (aF Φ e env h) (pb (aX Ψ e (ck aa)) λx=>pg x.1 (.ok x)):=by
  cases e2:aX Ψ e (ck aa) with
  | ok x =>
   rw[e2] at r2;obtain⟨v,h',ev,p,q⟩:=r2;show jA _ _ (pg x.1 (.ok x));refine ud λhx=>⟨v,h',ev,p,(q.2 hx).fZ λo z=>?_⟩;cases o with
   | none=>exact False.elim z
   | some k=>exact s.up k z
  | exc c es=>trivial
  | no=>trivial
 unfold LQ;cases e1:aX Ψ e (eE aa) with
 | ok x =>rw[e1] at r1;obtain⟨v,h',ev,p,q⟩:=r1;exact⟨v,h',ev,p,q.1⟩
 | exc c es=>exact go
 | no=>exact go
theorem mH(V:bN Φ Ψ e)(s:SL aa env h U):jA (λx h' v=>h<+:h'/\RV (λ_=>True) h x h' v) (aF Φ e env h) (aX Ψ e (ck aa)):=GV (V (ck aa) env (λ_=>True) h (λ_ _=>trivial) s.flat)
noncomputable def Et(Φ:Nat->List Val->M Val)(Ψ:Nat->List Val->Pr FV)(sp:List Nat)(s:IS):Prop:=∀(aa:aR) (env:Env) (h:Hs) (U:UR),SL aa env h U->jA (RL h U) (eO Φ s env h) (bF Ψ sp s aa)
noncomputable def vX(Φ:Nat->List Val->M Val)(Ψ:Nat->List Val->Pr FV)(sp:List Nat)(s:fy):Prop:=∀(aa:aR) (env:Env) (h:Hs) (U:UR),SL aa env h U->jA (RL h U) (dX Φ s env h) (bK Ψ sp s aa)
theorem GW{b:Nat}{h1:Hs}(g:h1[b]?=some (.lst vs))(hl:decide (vs.length<sizeLine)=true):bnd (met .append (.ref b) [v]) (λ_=>ret (Fl.nx env)) h1=.ok (.nx env) (h1.set b (.lst (vs++[v]))):=by
 simp only[met];unfold bnd ask bh aC put ret;dsimp only;rw[g];dsimp only;rw[if_pos hl]
theorem Dw{i:Nat}(ha:bN Φ Ψ a):Et Φ Ψ sp (.expr (.met .append (.var i) (.cons a .nil))):=λaa env h U s=>by
 rw[eO,bF];try dsimp only
 split
 ·rename_i ds hv
  obtain⟨w,e2,q⟩:=s.un i _ hv;rw[Dn] at q
  rcases q with ⟨_,_,n,_⟩|⟨b,vs,rfl,hb,e4,e5⟩
  ·exact False.elim n
  have ev:bnd (aF Φ (.met .append (.var i) (.cons a .nil)) env) (λ_=>ret (Fl.nx env)) h=bnd (aF Φ a env) (λv=>bnd (met .append (.ref b) [v]) λ_=>ret (Fl.nx env)) h:=by
   rw[aF,aN,aq (bQ e2)];rw[aN,aq (a:=()) (h1:=h) (by unfold ask bh;simp[recv,e4])];rw[aN,aU,aN]
   congr 1
  rw[ev];refine cB (mH ha s) λx h1 v ⟨p1,q1⟩=>ud λhg=>?_;have s1:=s.ext p1;have l:=e5.length;have run:=GW (env:=env) (v:=v) (bU p1 e4) (by rw[<-l];exact hg)
  by_cases hi:bw (ds++[x.2])=true
  ·rw[if_pos hi];have eq:vs++[v]=ds++[x.2]:=(aS (A:=λ_=>True) (h:=h1) _ _ hi).mp (((e5.fZ λ_ _=>trivial).ext p1).append (ao.cons q1.1 ao.nil));obtain⟨s2,f2⟩:=s1.grow hv e2 hb hi eq;exact⟨_,_,run,U,s2,(KU.refl s p1).trans f2⟩
  ·rw[if_neg hi];obtain⟨s2,f2⟩:=s1.O7 (o:=.lst (vs++[v])) hb;exact⟨_,_,run,_,s2,(KU.refl s p1).trans f2⟩
 ·trivial
theorem O8(V:bN Φ Ψ e):Et Φ Ψ sp (.asg p e):=λaa env h U s=>by
 cases p with
 | one i =>
  rw[eO,bF];try dsimp only
  split
  ·refine cB (mH V s) λx h1 v ⟨p1,q1⟩=>ud λhx=>?_;obtain⟨s2,f2⟩:=s.Sx p1 (i:=i) (q1.2 hx);exact⟨_,_,rfl,_,s2,f2⟩
  ·refine cB (uf V s) λx h1 v aE=>?_;obtain⟨p1,q1⟩:=aE;obtain⟨s2,f2⟩:=(s.ext p1).set (i:=i) q1;exact⟨_,_,rfl,_,s2,(KU.refl s p1).trans f2⟩
 | tup is =>
  rw[eO,bF];try dsimp only
  refine cB (uf V s) λx h1 v aE=>?_;obtain⟨p1,q1⟩:=aE;have s1:=s.ext p1;refine cB (R:=λav h' env'=>∃U',SL av env' h' U'/\KU h1 U h' U') (mG λav ev=>?_) λav h2 env' hh=>?_
  ·obtain⟨env',U',b1,b2,b3⟩:=s1.bind ev q1;exact⟨env',b1,U',b2,b3⟩
  ·obtain⟨U',b2,b3⟩:=hh;exact cY ⟨U',b2,(KU.refl s p1).trans b3⟩
theorem O9(V:bN Φ Ψ c)(ha:vX Φ Ψ sp a)(hb:vX Φ Ψ sp b):Et Φ Ψ sp (.iff c a b):=λaa env h U s=>by
 rw[eO,bF];refine cB (mH V s) λx h1 v aE=>?_;obtain⟨p1,q1⟩:=aE;refine cB (R:=λt h' t'=>h'=h1/\t'=t) (mG λt ht=>⟨t,tU (.inl q1.1) ht,rfl,rfl⟩) λt h2 t' aE=>?_;obtain⟨e1,e2⟩:=aE;subst e1;subst e2;have s1:=s.ext p1;cases t' with
 | true=>rw[if_pos rfl,if_pos rfl];exact jd (ha aa env _ U s1) λf h' g r=>r.seq (KU.refl s p1)
 | false=>rw[if_neg Bool.false_ne_true,if_neg Bool.false_ne_true];exact jd (hb aa env _ U s1) λf h' g r=>r.seq (KU.refl s p1)
theorem Pa(V:bN Φ Ψ e):Et Φ Ψ sp (.ret e):=λaa env h U s=>by
 rw[eO,bF];exact cB (mH V s) λx h1 v ⟨p1,q1⟩=>cY q1.1
noncomputable def Sy(h:Hs)(U:UR)(src:Src)(ws:List Val):Prop:=∀h':Hs,(∀k,k<h.length->(∀i,¬ U i k)->h'[k]?=h[k]?)->src.items h'=some ws
theorem Pb(q:Dn (AU U) h d v)(e:gO k [d]=some xs):∃src ws,srcOf k [v]=some src/\ao (AU U) h xs ws/\src.items h=some ws/\Sy h U src ws:=by
 have lst:∀es,d=.rl es->(∃ws,v=.rl ws/\ao (AU U) h es ws)\/∃a ws,v=.ref a/\h[a]?=some (.lst ws)/\ao (AU U) h es ws/\∀h':Hs,(∀k,k<h.length->(∀i,¬ U i k)->h'[k]?=h[k]?)->h'[a]?=some (Ob.lst ws):=by
  rintro es rfl;rw[Dn] at q
  rcases q with ⟨ws,rfl,_,q⟩|⟨a,ws,rfl,al,g,q⟩
  ·exact .inl ⟨ws,rfl,q⟩
  ·exact .inr ⟨a,ws,rfl,g,q,λh' hk=>(hk a (List.getElem?_eq_some_iff.mp g).1 al).trans g⟩
 cases k with
 | seq =>
  cases d<;>simp only[gO] at e<;>first|(cases e;done)|skip
  ·cases e;rw[Dn] at q;obtain⟨ws,rfl,q⟩:=q;exact⟨.fix ws,ws,rfl,q,rfl,λ_ _=>rfl⟩
  ·cases e
   rcases lst _ rfl with ⟨ws,rfl,q'⟩|⟨a,ws,rfl,g,q',st⟩
   ·exact⟨.fix ws,ws,rfl,q',rfl,λ_ _=>rfl⟩
   ·exact⟨.live a,ws,rfl,q',cH g,λh' hk=>cH (st h' hk)⟩
 | range =>
  cases d<;>simp only[gO] at e<;>first|(cases e;done)|skip
  rw[Dn] at q;subst q;split at e
  ·rename_i hn;cases e;exact⟨.fix _,_,by simp only[srcOf];rw[if_pos hn],iY,rfl,λ_ _=>rfl⟩
  ·cases e
 | enum =>
  cases d<;>simp only[gO] at e<;>first|(cases e;done)|skip
  cases e
  rcases lst _ rfl with ⟨ws,rfl,q'⟩|⟨a,ws,rfl,g,q',st⟩
  ·exact⟨.fix _,_,rfl,f7 0 q',rfl,λ_ _=>rfl⟩
  ·exact⟨.enum a,_,rfl,f7 0 q',fF g,λh' hk=>fF (st h' hk)⟩
 | zip=>cases e
theorem vY(hb:∀aa env h U x v,SL aa env h U->Dn (AU U) h x v->jA (RL h U) (body v env h) (bodyV x aa))
  {h1:Hs} {U1:UR} (st:Sy h1 U1 src ws) :
  ∀(xs vs:List Val) (i:Nat) (aa:aR) (env:Env) (h:Hs) (U:UR),SL aa env h U->KU h1 U1 h U->ws.drop i=vs->ao (AU U) h xs vs ->
   jA (RL h1 U1) (forM src body vs.length i env h) (iV bodyV xs aa)
 | [],vs,i,aa,env,h,U,s,f,hd,q=>by
  rw[ao] at q;subst q;have hl:ws.length<=i:=List.drop_eq_nil_iff.mp hd;have hi:=st h (λk hk n=>(f.keep k hk n).1);rw[iV];refine⟨.nx env,h,?_,U,s,f⟩;show forM src body 0 i env h=_;simp only[forM];unfold bnd ask bh aC;dsimp only;rw[hi];dsimp only;rw[if_pos (decide_eq_true hl)];try rfl
 | x::xs,vs,i,aa,env,h,U,s,f,hd,q=>by
  rw[ao] at q;obtain⟨v,r,rfl,q1,q2⟩:=q;have hv:ws[i]?=some v:=by have:=congrArg (λl=>l[0]?) hd;simpa using this
  have hr:ws.drop (i+1)=r:=by
   have:ws.drop (i+1)=(ws.drop i).drop 1:=by rw[drop_drop]
   rw[this,hd];rfl
  have hi:=st h (λk hk n=>(f.keep k hk n).1);have ev:forM src body (v::r).length i env h=bnd (body v env) (λf=>match f with
   | .nx env'=>forM src body r.length (i+1) env'
   | .ct env'=>forM src body r.length (i+1) env'
   | .bk env'=>ret (.nx env')
   | .rt v=>ret (.rt v)) h:=by
   show forM src body (r.length+1) i env h=_;simp only[forM];unfold bnd ask bh;dsimp only;rw[hi];dsimp only;rw[hv];try rfl
  rw[ev,iV];refine cB (hb aa env h U x v s q1) λfl h2 gl hr2=>?_;have go:∀av env' U',SL av env' h2 U'->KU h U h2 U'->jA (RL h1 U1) (forM src body r.length (i+1) env' h2) (iV bodyV xs av):=λav env' U' s' f'=>by
   refine vY hb st xs r (i+1) av env' h2 U' s' (f.trans f') hr (ao.move (A:=AU U) (λ_=>trivial) (λk o hk g=>?_) _ _ q2);have hlt:k<h.length:=(List.getElem?_eq_some_iff.mp g).1;obtain⟨a1,a2⟩:=f'.keep k hlt hk;exact⟨a2,a1.trans g⟩
  cases fl<;>cases gl<;>first|exact hr2.elim|skip
  ·obtain⟨U',s',f'⟩:=hr2;exact go _ _ U' s' f'
  ·exact cY hr2
  ·obtain⟨U',s',f'⟩:=hr2;exact cY ⟨U',s',f.trans f'⟩
  ·obtain⟨U',s',f'⟩:=hr2;exact go _ _ U' s' f'
theorem Pc(V:bN Φ Ψ e)(hb:vX Φ Ψ sp body):Et Φ Ψ sp (.for p k (.cons e .nil) body):=λaa env h U s=>by
 rw[bF];try dsimp only
 have hsp:yb e p k body=none:=rfl;rw[hsp];dsimp only;rw[eO];have ev:∀(F:List Val->M Fl),bnd (aU Φ (.cons e .nil) env) F h=bnd (aF Φ e env) (λv=>F [v]) h:=λF=>by
  rw[aU,aU,aN];rfl
 rw[ev];refine cB (uf V s) λx h1 v aE=>?_;obtain⟨p1,q1⟩:=aE;have s1:=s.ext p1;refine cB (R:=λxs h' src=>h'=h1/\∃ws,ao (AU U) h1 xs ws/\src.items h1=some ws/\Sy h1 U src ws) (mG λxs ex=>?_) λxs h2 src ⟨e2,ws,q2,q3,st⟩=>?_
 ·obtain⟨src,ws,a1,a2,a3,a4⟩:=Pb q1 ex;exact⟨src,a1,rfl,ws,a2,a3,a4⟩
 ·subst e2
  have Sn:∀(F:List Val->M Fl),bnd (ask λh=>src.items h) F h2=F ws h2:=λF=>by unfold bnd ask bh;dsimp only;rw[q3]
  rw[Sn];refine jd (vY (λav env' h' U' x v s' qx=>?_) st xs ws 0 aa env h2 U s1 (KU.refl s1 (prefix_refl _)) rfl q2) λf h' g r=>r.seq (KU.refl s p1);refine cB (R:=λiZ h2 iI=>∃U2,SL iZ iI h2 U2/\KU h' U' h2 U2) (mG λiZ e2=>?_) λiZ h2 iI hh=>?_
  ·obtain⟨iI,U2,b1,b2,b3⟩:=s'.bind e2 qx;exact⟨iI,b1,U2,b2,b3⟩
  ·obtain⟨U2,b2,b3⟩:=hh;exact jd (hb iZ iI h2 U2 b2) λf h'' g r=>r.seq b3
theorem Pd:vX Φ Ψ sp .nil:=λaa env h U s=>by rw[dX,bK];exact cY ⟨U,s,KU.refl s (prefix_refl _)⟩
theorem LS(ha:Et Φ Ψ sp a)(hr:vX Φ Ψ sp r):vX Φ Ψ sp (.cons a r):=λaa env h U s=>by
 rw[dX,bK];refine cB (ha aa env h U s) λf h1 g q=>?_;cases f<;>cases g<;>first|exact q.elim|skip
 ·obtain⟨U1,s1,f1⟩:=q;exact jd (hr _ _ h1 U1 s1) λf h' g r=>r.seq f1
 ·exact cY q
 ·exact cY q
 ·exact cY q
theorem nH(e:∀aa,bF Ψ sp s aa=.no):Et Φ Ψ sp s:=λaa env h U _=>by rw[e];trivial
theorem LU(V:∀e,cV e=true->bN Φ Ψ e)(ho:cV e=true):Et Φ Ψ sp (.expr e):=by
 cases e with
 | met m a es =>
  cases m with
  | append =>
   cases a with
   | var i =>
    cases es with
    | nil=>exact nH λaa=>by rw[bF]<;>(intros;simp_all)
    | cons x r =>
     cases r with
     | nil=>rw[cV,ie,ie,and_eq_true,and_eq_true] at ho;exact Dw (V x ho.2.1)
     | cons _ _=>exact nH λaa=>by rw[bF]<;>(intros;simp_all)
   | _=>exact nH λaa=>by rw[bF]<;>(intros;simp_all)
  | _=>exact nH λaa=>by rw[bF]<;>(intros;simp_all)
 | _=>exact nH λaa=>by rw[bF]<;>(intros;simp_all)
theorem Pe(hi:bN Φ Ψ i)(hv:bN Φ Ψ v):Et Φ Ψ sp (.e8 o i v):=nH λaa=>by rw[bF]
theorem Pf(hΦ:∀j,Imp (Φ j) (Ψ j)):∀ss,qj ss=true->vX Φ Ψ sp ss:=by
 have V:=(v_all hΦ).1;intro ss;refine fy.rec (motive_1:=λs=>Sm s=true->Et Φ Ψ sp s) (motive_2:=λss=>qj ss=true->vX Φ Ψ sp ss) ?_ ?_ ?_ ?_ ?_ ?_ ?_ ?_ ?_ ?_ ?_ ?_ ?_ ?_ ?_ ?_ ss
 ·intro e f;exact LU V f
 ·intro p e f;exact O8 (V e f)
 ·intro i o e f;exact nH λaa=>by rw[bF]<;>(intros;simp_all)
 ·intro o i v f;have f:=tX f;exact Pe (V i f.1.2) (V v f.2)
 ·intro c a b ha hb f;have f:=tX f;exact O9 (V c f.1.1) (ha f.1.2) (hb f.2)
 ·intro p k it b hb f
  have f:=iX f;cases it with
  | nil=>exact nH λaa=>by rw[bF.eq_def]<;>rfl
  | cons e es =>
   cases es with
   | nil=>rw[ie,ie,and_eq_true] at f;exact Pc (V e f.1.1) (hb f.2)
   | cons _ _=>exact nH λaa=>by rw[bF]<;>(intros;simp_all)
 ·intro n c b _ f;exact nH λaa=>by rw[bF]<;>(intros;simp_all)
 ·intro e f;exact Pa (V e f)
 ·intro _;exact nH λaa=>by rw[bF]<;>(intros;simp_all)
 ·intro _ aa env h U s;rw[eO,bF];exact cY ⟨U,s,KU.refl s (prefix_refl _)⟩
 ·intro _ aa env h U s;rw[eO,bF];exact cY ⟨U,s,KU.refl s (prefix_refl _)⟩
 ·intro _ aa env h U s;rw[eO,bF];exact cY ⟨U,s,KU.refl s (prefix_refl _)⟩
 ·intro _;exact nH λaa=>by rw[bF]<;>(intros;simp_all)
 ·intro _ _ _ _ _;exact nH λaa=>by rw[bF]<;>(intros;simp_all)
 ·intro _;exact Pd
 ·intro a r ha hr f;have f:=iX f;exact LS (ha f.1) (hr f.2)
theorem AQ{n:Nat}(hΦ:∀j,Imp (Φ j) (Ψ j))(ho:qj body=true){ns:List Int}{f:Bool}(e:LR Ψ n body [.rl (ns.map .int)]=.ok (f,.bl true)):∃h',iF Φ n body [.rl (ns.map .int)] []=.ok (.bl true) h':=by
 have s:SL ([(Val.rl (ns.map .int))].map (λd=>some (.sh,d))++replicate (n-1) none) ([(Val.rl (ns.map .int))].map some++replicate (n-1) none) [] (λ_ _=>False):=by
  have rep:∀(i:Nat) (x:Option (Mk×Val)),(replicate (n-1) (none:Option (Mk×Val)))[i]?=some x->x=none:=λi x e=>(mem_replicate.mp (mem_of_getElem? e)).2;refine⟨by simp,λi d q=>?_,λi d q=>?_,λ_ _ z=>z.elim,λ_ _ _ z=>z.elim⟩
  ·cases i with
   | zero =>simp only[map_cons,map_nil,cons_append,nil_append,getElem?_cons_zero] at q |-;cases q;refine⟨_,rfl,?_⟩;rw[Dn];exact .inl ⟨_,rfl,trivial,(aS _ _ (bJ ns)).mpr rfl⟩
   | succ i =>simp only[map_cons,map_nil,cons_append,nil_append,getElem?_cons_succ] at q;have:=rep _ _ q;cases this
  ·cases i with
   | zero=>simp only[map_cons,map_nil,cons_append,nil_append,getElem?_cons_zero] at q;cases q
   | succ i =>simp only[map_cons,map_nil,cons_append,nil_append,getElem?_cons_succ] at q;have:=rep _ _ q;cases this
 have r:=Pf (sp:=kg body) hΦ body ho _ _ [] _ s;unfold LR at e;show ∃h',bnd (dX Φ body ([(Val.rl (ns.map .int))].map some++replicate (n-1) none)) _ []=_;change pb (bK Ψ (kg body) body ([(Val.rl (ns.map .int))].map (λd=>some (.sh,d))++replicate (n-1) none)) _=_ at e;cases e1:bK Ψ (kg body) body ([(Val.rl (ns.map .int))].map (λd=>some (.sh,d))++replicate (n-1) none) with
 | ok fl =>
  rw[e1] at e r;obtain⟨g,h',eg,q⟩:=r;unfold bnd;rw[eg];cases fl with
  | rt p =>
   cases g<;>first|exact q.elim|skip
   change Pr.ok p=_ at e;cases e;have q:Dn (λ_=>True) h' (.bl true) _:=q;rw[Dn] at q;subst q;exact⟨h',rfl⟩
  | nx _=>cases e
  | bk _=>cases e
  | ct _=>cases e
 | exc c es=>rw[e1] at e;cases e
 | no=>rw[e1] at e;cases e
end
end Hv
end
section
namespace K26
open PySem L2 Hv
noncomputable def top(i:Nat):Stmt:=PySem.Challenge.pw_linkorcut_k26_whole_trees_and_rest.main.body.getD i (.Pass ⟨0,0,0,0⟩)
noncomputable def cons:List (Str×Val):=[("THOUGHT",(.int (-1)))]
noncomputable def tb:Tb:=⟨2,["net","places","ends","whole"],[(0,"tree_rank",10),(1,"tree_rank",10),(0,"ties",12),(1,"ties",12),(0,"rank",17),(1,"rank",18),(0,"free",19),(1,"free",19),(0,"reach",20),(1,"reach",20)],[("Rule","__init__",8)],[("Rule",[true,true])]⟩
noncomputable def cj(i:Nat):Stmt:=match top 9 with|.ClassDef (body:=b) ..=>b.getD i (.Pass ⟨0,0,0,0⟩)|_=>.Pass ⟨0,0,0,0⟩
noncomputable def qy(i:Nat):Stmt:=match top 10 with|.ClassDef (body:=b) ..=>b.getD i (.Pass ⟨0,0,0,0⟩)|_=>.Pass ⟨0,0,0,0⟩
noncomputable def iz(i:Nat):Stmt:=match top 11 with|.ClassDef (body:=b) ..=>b.getD i (.Pass ⟨0,0,0,0⟩)|_=>.Pass ⟨0,0,0,0⟩
noncomputable def je:fy:=(.cons (.iff (.cmp .lt (.var 1) (.blt .len (.cons (.var 0) .nil))) (.cons (.ret (.idx (.var 0) (.var 1))) .nil) .nil) (.cons (.ret (.cst (.int 0))) .nil))
noncomputable def gc:fy:=(.cons (.asg (.one 3) (.cst (.int 1))) (.cons (.asg (.one 4) (.cst (.int 0))) (.cons (.iff (.cmp .gt (.bin .mod (.var 0) (.cst (.int 3))) (.cst (.int 0))) (.cons (.asg (.one 3) (.bin .add (.cst (.int 1)) (.bin .mod (.bin .fdiv (.var 0) (.cst (.int 3))) (.bin .pow (.cst (.int 10)) (.cst (.int 56)))))) (.cons (.asg (.one 4) (.bin .mod (.bin .fdiv (.var 1) (.cst (.int 66))) (.bin .pow (.cst (.int 10)) (.cst (.int 58))))) .nil)) .nil) (.cons (.ret (.bin .add (.bin .mul (.var 3) (.bin .mod (.bin .add (.bin .mul (.bin .add (.cst (.int 1)) (.bin .mod (.var 1) (.cst (.int 66)))) (.var 2)) (.var 0)) (.cst (.int 67)))) (.var 4))) .nil))))
noncomputable def kh:fy:=(.cons (.asg (.one 2) (.call 0 (.cons (.var 0) (.cons (.cst (.int 0)) .nil)))) (.cons (.asg (.one 3) (.call 0 (.cons (.var 0) (.cons (.cst (.int 1)) .nil)))) (.cons (.asg (.one 4) (.call 0 (.cons (.var 0) (.cons (.cst (.int 2)) .nil)))) (.cons (.asg (.one 5) (.bin .add (.cst (.int 2)) (.bin .mod (.var 4) (.cst (.int 7))))) (.cons (.asg (.one 6) (.comp ["_law_k","_law_two","_law_one"] [none,some 3,some 2] (.one 0) .range (.cons (.var 5) .nil) .no (.call 1 (.cons (.var 1) (.cons (.var 2) (.cons (.var 0) .nil)))))) (.cons (.asg (.one 7) (.lst .nil)) (.cons (.for (.tup [8,9]) .enum (.cons (.var 1) .nil) (.cons (.asg (.one 10) (.idx (.var 6) (.bin .mod (.var 9) (.var 5)))) (.cons (.asg (.one 11) (.idx (.var 6) (.bin .mod (.bin .fdiv (.var 9) (.var 5)) (.var 5)))) (.cons (.expr (.met .append (.var 7) (.cons (.tup (.cons (.call 1 (.cons (.var 2) (.cons (.var 3) (.cons (.var 8) .nil)))) (.cons (.blt .min (.cons (.var 10) (.cons (.var 11) .nil))) (.cons (.blt .max (.cons (.var 10) (.cons (.var 11) .nil))) .nil)))) .nil))) .nil)))) (.cons (.asg (.one 12) (.blt .sorted (.cons (.lst (.cons (.idx (.var 6) (.cst (.int 0))) (.cons (.idx (.var 6) (.bin .sub (.cst (.int 1)) (.blt .int (.cons (.cmp .eq (.bin .mod (.bin .fdiv (.var 4) (.cst (.int 7))) (.cst (.int 8))) (.cst (.int 3))) .nil)))) .nil))) .nil))) (.cons (.ret (.tup (.cons (.tup (.cons (.idx (.var 12) (.cst (.int 0))) (.cons (.idx (.var 12) (.cst (.int 1))) .nil))) (.cons (.blt .sorted (.cons (.var 7) .nil)) .nil)))) .nil)))))))))
noncomputable def jf:fy:=(.cons (.asg (.one 1) (.dct1 (.neg (.cst (.int 1))) (.idx (.var 0) (.cst (.int 0))))) (.cons (.for (.tup [2,3,4]) .seq (.cons (.idx (.var 0) (.cst (.int 1))) .nil) (.cons (.e8 (.var 1) (.var 2) (.tup (.cons (.var 3) (.cons (.var 4) .nil)))) .nil)) (.cons (.ret (.var 1)) .nil)))
noncomputable def cK:fy:=(.cons (.asg (.one 2) (.lst .nil)) (.cons (.for (.tup [3,4,5]) .seq (.cons (.var 1) .nil) (.cons (.expr (.met .append (.var 2) (.cons (.tup (.cons (.var 3) (.cons (.blt .min (.cons (.var 4) (.cons (.var 5) .nil))) (.cons (.blt .max (.cons (.var 4) (.cons (.var 5) .nil))) .nil)))) .nil))) .nil)) (.cons (.ret (.tup (.cons (.tup (.cons (.blt .min (.cons (.idx (.var 0) (.cst (.int 0))) (.cons (.idx (.var 0) (.cst (.int 1))) .nil))) (.cons (.blt .max (.cons (.idx (.var 0) (.cst (.int 0))) (.cons (.idx (.var 0) (.cst (.int 1))) .nil))) .nil))) (.cons (.blt .sorted (.cons (.var 2) .nil)) .nil)))) .nil)))
noncomputable def gS:fy:=(.cons (.ret (.call 4 (.cons (.idx (.var 0) (.cst (.int 0))) (.cons (.idx (.var 0) (.cst (.int 1))) .nil)))) .nil)
noncomputable def fc:fy:=(.cons (.asg (.one 1) (.blt .list (.cons (.idx (.var 0) (.cst (.int 0))) .nil))) (.cons (.for (.one 2) .seq (.cons (.idx (.var 0) (.cst (.int 1))) .nil) (.cons (.expr (.met .extend (.var 1) (.cons (.slc (.var 2) (.cst (.int 1)) .no) .nil))) .nil)) (.cons (.ret (.sset (.var 1))) .nil)))
noncomputable def lG:fy:=(.cons (.setF 2 (.var 0) "net" (.call 5 (.cons (.var 1) .nil))) (.cons (.setF 2 (.var 0) "places" (.call 6 (.cons (.fld 2 (.var 0) "net") .nil))) (.cons (.setF 2 (.var 0) "ends" (.dct1 (.con "THOUGHT" (.int (-1))) (.idx (.fld 2 (.var 0) "net") (.cst (.int 0))))) (.cons (.for (.tup [2,3,4]) .seq (.cons (.idx (.fld 2 (.var 0) "net") (.cst (.int 1))) .nil) (.cons (.e8 (.fld 2 (.var 0) "ends") (.var 2) (.tup (.cons (.var 3) (.cons (.var 4) .nil)))) .nil)) .nil))))
noncomputable def fN:fy:=(.cons (.setF 2 (.var 0) "net" (.call 5 (.cons (.var 1) .nil))) (.cons (.setF 2 (.var 0) "places" (.call 6 (.cons (.fld 2 (.var 0) "net") .nil))) (.cons (.setF 2 (.var 0) "ends" (.dct1 (.con "THOUGHT" (.int (-1))) (.idx (.fld 2 (.var 0) "net") (.cst (.int 0))))) (.cons (.for (.tup [2,3,4]) .seq (.cons (.idx (.fld 2 (.var 0) "net") (.cst (.int 1))) .nil) (.cons (.e8 (.fld 2 (.var 0) "ends") (.var 2) (.tup (.cons (.var 3) (.cons (.var 4) .nil)))) .nil)) .nil))))
noncomputable def ff:fy:=(.cons (.asg (.one 2) .dct0) (.cons (.for (.one 3) .seq (.cons (.var 0) .nil) (.cons (.e8 (.var 2) (.var 3) (.var 3)) .nil)) (.cons (.for (.tup [4,5]) .seq (.cons (.var 1) .nil) (.cons (.asg (.one 6) (.blt .min (.cons (.idx (.var 2) (.var 4)) (.cons (.idx (.var 2) (.var 5)) .nil)))) (.cons (.asg (.one 7) (.blt .max (.cons (.idx (.var 2) (.var 4)) (.cons (.idx (.var 2) (.var 5)) .nil)))) (.cons (.for (.one 3) .seq (.cons (.var 0) .nil) (.cons (.iff (.cmp .eq (.idx (.var 2) (.var 3)) (.var 7)) (.cons (.e8 (.var 2) (.var 3) (.var 6)) .nil) .nil) .nil)) .nil)))) (.cons (.ret (.var 2)) .nil))))
noncomputable def bX:fy:=(.cons (.asg (.one 2) (.call 9 (.cons (.fld 2 (.var 0) "places") (.cons (.comp ["tie","self"] [none,some 0] (.one 0) .seq (.cons (.var 1) .nil) .no (.idx (.fld 2 (.var 1) "ends") (.var 0))) .nil)))) (.cons (.ret (.blt .len (.cons (.comp ["place","firsts"] [none,some 2] (.one 0) .seq (.cons (.fld 2 (.var 0) "places") .nil) (.cmp .ne (.idx (.var 1) (.var 0)) (.var 0)) (.var 0)) .nil))) .nil))
noncomputable def gf:fy:=(.cons (.ret (.comp ["tie"] [none] (.one 0) .seq (.cons (.idx (.var 0) (.cst (.int 1))) .nil) .no (.idx (.var 0) (.cst (.int 0))))) .nil)
noncomputable def fh:fy:=(.cons (.ret (.bin .add (.lst (.cons (.con "THOUGHT" (.int (-1))) .nil)) (.call 11 (.cons (.fld 2 (.var 0) "net") .nil)))) .nil)
noncomputable def nI:fy:=(.cons (.expr (.call 8 (.cons (.var 0) (.cons (.var 1) .nil)))) (.cons (.setF 2 (.var 0) "whole" (.mth (.var 0) "tree_rank" [(0,10),(1,10)] (.cons (.mth (.var 0) "ties" [(0,12),(1,12)] .nil) .nil))) .nil))
noncomputable def bM:fy:=(.cons (.asg (.one 2) (.neg (.cst (.int 1)))) (.cons (.asg (.one 3) (.lst .nil)) (.cons (.for (.one 4) .range (.cons (.var 1) .nil) (.cons (.asg (.one 2) (.bin .add (.bin .add (.var 2) (.cst (.int 1))) (.bin .mod (.var 0) (.bin .pow (.cst (.int 10)) (.cst (.int 57)))))) (.cons (.asg (.one 0) (.bin .fdiv (.var 0) (.bin .pow (.cst (.int 10)) (.cst (.int 57))))) (.cons (.expr (.met .append (.var 3) (.cons (.var 2) .nil))) .nil)))) (.cons (.ret (.var 3)) .nil))))
noncomputable def fj:fy:=(.cons (.asg (.one 2) (.call 0 (.cons (.var 0) (.cons (.cst (.int 2)) .nil)))) (.cons (.asg (.one 3) (.bin .add (.cst (.int 2)) (.bin .mod (.var 2) (.cst (.int 7))))) (.cons (.asg (.one 4) (.call 14 (.cons (.call 0 (.cons (.var 0) (.cons (.cst (.int 1)) .nil))) (.cons (.var 3) .nil)))) (.cons (.asg (.one 5) (.bin .mod (.bin .fdiv (.var 2) (.cst (.int 7))) (.var 3))) (.cons (.asg (.one 6) (.bin .mod (.bin .fdiv (.bin .fdiv (.var 2) (.cst (.int 7))) (.var 3)) (.var 3))) (.cons (.asg (.one 7) (.call 14 (.cons (.call 0 (.cons (.var 0) (.cons (.cst (.int 0)) .nil))) (.cons (.bin .mod (.bin .fdiv (.bin .fdiv (.bin .fdiv (.var 2) (.cst (.int 7))) (.var 3)) (.var 3)) (.bin .add (.var 1) (.cst (.int 1)))) .nil)))) (.cons (.asg (.one 8) (.call 0 (.cons (.var 0) (.cons (.cst (.int 3)) .nil)))) (.cons (.asg (.one 9) (.lst .nil)) (.cons (.for (.one 10) .seq (.cons (.var 7) .nil) (.cons (.asg (.one 11) (.idx (.var 4) (.bin .mod (.var 8) (.var 3)))) (.cons (.asg (.one 12) (.idx (.var 4) (.bin .mod (.bin .fdiv (.var 8) (.var 3)) (.var 3)))) (.cons (.expr (.met .append (.var 9) (.cons (.tup (.cons (.var 10) (.cons (.blt .min (.cons (.var 11) (.cons (.var 12) .nil))) (.cons (.blt .max (.cons (.var 11) (.cons (.var 12) .nil))) .nil)))) .nil))) (.cons (.asg (.one 8) (.bin .fdiv (.bin .fdiv (.var 8) (.var 3)) (.var 3))) .nil))))) (.cons (.ret (.tup (.cons (.tup (.cons (.idx (.var 4) (.blt .min (.cons (.var 5) (.cons (.var 6) .nil)))) (.cons (.idx (.var 4) (.blt .max (.cons (.var 5) (.cons (.var 6) .nil)))) .nil))) (.cons (.var 9) .nil)))) .nil))))))))))
noncomputable def ki:fy:=(.cons (.asg (.one 2) (.lst .nil)) (.cons (.for (.one 3) .seq (.cons (.var 0) .nil) (.cons (.iff (.cmp .eq (.bin .mod (.var 1) (.cst (.int 2))) (.cst (.int 1))) (.cons (.expr (.met .append (.var 2) (.cons (.var 3) .nil))) .nil) .nil) (.cons (.asg (.one 1) (.bin .fdiv (.var 1) (.cst (.int 2)))) .nil))) (.cons (.ret (.var 2)) .nil)))
noncomputable def cL:fy:=(.cons (.ret (.mth (.var 0) "tree_rank" [(0,10),(1,10)] (.cons (.var 1) .nil))) .nil)
noncomputable def cZ:fy:=(.cons (.asg (.one 2) (.comp ["tie","row"] [none,some 1] (.one 0) .seq (.cons (.mth (.var 0) "ties" [(0,12),(1,12)] .nil) .nil) (.cmp .nin (.var 0) (.var 1)) (.var 0))) (.cons (.ret (.bin .add (.bin .sub (.blt .len (.cons (.var 1) .nil)) (.fld 2 (.var 0) "whole")) (.mth (.var 0) "tree_rank" [(0,10),(1,10)] (.cons (.var 2) .nil)))) .nil))
noncomputable def fk:fy:=(.cons (.ret (.cmp .eq (.mth (.var 0) "rank" [(0,17),(1,18)] (.cons (.var 1) .nil)) (.blt .len (.cons (.var 1) .nil)))) .nil)
noncomputable def dU:fy:=(.cons (.asg (.one 2) (.mth (.var 0) "rank" [(0,17),(1,18)] (.cons (.var 1) .nil))) (.cons (.ret (.comp ["tie","row","rank","self"] [none,some 1,some 2,some 0] (.one 0) .seq (.cons (.mth (.var 0) "ties" [(0,12),(1,12)] .nil) .nil) (.or (.cmp .uZ (.var 0) (.var 1)) (.cmp .le (.mth (.var 3) "rank" [(0,17),(1,18)] (.cons (.bin .add (.var 1) (.lst (.cons (.var 0) .nil))) .nil)) (.var 2))) (.var 0))) .nil))
noncomputable def gg:fy:=(.cons (.asg (.one 2) .dct0) (.cons (.asg (.one 3) (.cst (.int 0))) (.cons (.for (.one 4) .seq (.cons (.var 1) .nil) (.cons (.asg (.one 5) (.dget (.var 2) (.idx (.idx (.var 0) (.var 4)) (.cst (.int 0))) (.idx (.idx (.var 0) (.var 4)) (.cst (.int 0))))) (.cons (.asg (.one 6) (.dget (.var 2) (.idx (.idx (.var 0) (.var 4)) (.cst (.int 1))) (.idx (.idx (.var 0) (.var 4)) (.cst (.int 1))))) (.cons (.iff (.cmp .ne (.var 5) (.var 6)) (.cons (.aug 3 .add (.cst (.int 1))) (.cons (.e8 (.var 2) (.idx (.idx (.var 0) (.var 4)) (.cst (.int 0))) (.var 5)) (.cons (.e8 (.var 2) (.idx (.idx (.var 0) (.var 4)) (.cst (.int 1))) (.var 6)) (.cons (.for (.one 7) .seq (.cons (.lkeys (.var 2)) .nil) (.cons (.iff (.cmp .eq (.idx (.var 2) (.var 7)) (.var 6)) (.cons (.e8 (.var 2) (.var 7) (.var 5)) .nil) .nil) .nil)) .nil)))) .nil) .nil)))) (.cons (.ret (.var 3)) .nil))))
noncomputable def kj:fy:=(.cons (.asg (.one 1) (.call 2 (.cons (.var 0) (.cons (.slc (.var 0) (.cst (.int 3)) (.bin .add (.cst (.int 3)) (.bin .mod (.bin .fdiv (.call 0 (.cons (.var 0) (.cons (.cst (.int 2)) .nil))) (.cst (.int 56))) (.cst (.int 9))))) .nil)))) (.cons (.iff (.and (.cmp .eq (.bin .mod (.blt .len (.cons (.var 0) .nil)) (.cst (.int 2))) (.cst (.int 0))) (.cmp .ge (.call 0 (.cons (.var 0) (.cons (.cst (.int 3)) .nil))) (.bin .pow (.cst (.int 10)) (.cst (.int 18))))) (.cons (.asg (.one 1) (.call 15 (.cons (.var 0) (.cons (.cst (.int 12)) .nil)))) .nil) .nil) (.cons (.asg (.one 2) (.call 3 (.cons (.var 1) .nil))) (.cons (.asg (.one 3) (.skeys (.var 2))) (.cons (.asg (.one 4) (.call 7 (.cons (.var 1) .nil))) (.cons (.asg (.one 5) (.call 13 (.cons (.var 1) .nil))) (.cons (.iff (.or (.not (.isc (.var 4) "Rule" [true,true])) (.not (.isc (.var 5) "Rule" [true,true]))) (.cons (.ret (.cst (.bl false))) .nil) .nil) (.cons (.for (.one 6) .seq (.cons (.bin .add (.lst (.cons (.cst (.int 0)) .nil)) (.slc (.var 0) (.cst (.int 11)) (.cst (.int 37)))) .nil) (.cons (.asg (.one 7) (.call 16 (.cons (.var 3) (.cons (.var 6) .nil)))) (.cons (.asg (.one 8) (.comp ["_law_name","_law_picked"] [none,some 7] (.one 0) .seq (.cons (.var 3) .nil) (.cmp .nin (.var 0) (.var 1)) (.var 0))) (.cons (.iff (.cmp .ne (.mth (.var 5) "free" [(0,19),(1,19)] (.cons (.blt .list (.cons (.var 7) .nil)) .nil)) (.cmp .eq (.mth (.var 4) "reach" [(0,20),(1,20)] (.cons (.blt .list (.cons (.var 8) .nil)) .nil)) (.var 3))) (.cons (.ret (.cst (.bl false))) .nil) .nil) (.cons (.iff (.cmp .ne (.mth (.var 4) "free" [(0,19),(1,19)] (.cons (.blt .list (.cons (.var 7) .nil)) .nil)) (.cmp .eq (.mth (.var 5) "reach" [(0,20),(1,20)] (.cons (.blt .list (.cons (.var 8) .nil)) .nil)) (.var 3))) (.cons (.ret (.cst (.bl false))) .nil) .nil) (.cons (.asg (.one 9) (.lst .nil)) (.cons (.for (.one 10) .seq (.cons (.var 3) .nil) (.cons (.asg (.one 11) (.comp ["_law_each","_law_name"] [none,some 10] (.one 0) .seq (.cons (.var 8) .nil) (.cmp .ne (.var 0) (.var 1)) (.var 0))) (.cons (.iff (.or (.cmp .uZ (.var 10) (.var 7)) (.cmp .lt (.call 21 (.cons (.var 2) (.cons (.var 11) .nil))) (.call 21 (.cons (.var 2) (.cons (.var 8) .nil))))) (.cons (.expr (.met .append (.var 9) (.cons (.var 10) .nil))) .nil) .nil) .nil))) (.cons (.iff (.cmp .ne (.mth (.var 5) "reach" [(0,20),(1,20)] (.cons (.blt .list (.cons (.var 7) .nil)) .nil)) (.var 9)) (.cons (.ret (.cst (.bl false))) .nil) .nil) .nil)))))))) (.cons (.ret (.cst (.bl true))) .nil)))))))))
noncomputable def Pg:List Row:=[]
noncomputable def vZ:List Val->M Val:=iF (look Pg) 2 je
noncomputable def Ph:List Row:=Pg++[(("_law_cell":Str),2,vZ)]
noncomputable def qz:List Val->M Val:=iF (look Ph) 5 gc
noncomputable def Pj:List Row:=Ph++[(("_law_number":Str),3,qz)]
noncomputable def zx:List Val->M Val:=iF (look Pj) 13 kh
noncomputable def Pk:List Row:=Pj++[(("_law_net":Str),2,zx)]
noncomputable def v5:List Val->M Val:=iF (look Pk) 5 jf
noncomputable def Pn:List Row:=Pk++[(("_law_ends":Str),1,v5)]
noncomputable def ko:List Val->M Val:=iF (look Pn) 6 cK
noncomputable def Po:List Row:=Pn++[(("put_in_order":Str),2,ko)]
noncomputable def sL:List Val->M Val:=iF (look Po) 1 gS
noncomputable def Pp:List Row:=Po++[(("own_net":Str),1,sL)]
noncomputable def nZ:List Val->M Val:=iF (look Pp) 3 fc
noncomputable def Pq:List Row:=Pp++[(("places_of":Str),1,nZ)]
noncomputable def sM:List Val->M Val:=Eo 0 (iF (look Pq) 5 lG)
noncomputable def Pu:List Row:=Pq++[(("ByTrees":Str),1,sM)]
noncomputable def jI:List Val->M Val:=iF (look Pu) 5 fN
noncomputable def Pw:List Row:=Pu++[(("Rule.__init__":Str),1002,jI)]
noncomputable def n5:List Val->M Val:=iF (look Pw) 8 ff
noncomputable def Dy:List Row:=Pw++[(("firsts_by":Str),2,n5)]
noncomputable def jg:List Val->M Val:=iF (look Dy) 3 bX
noncomputable def Dz:List Row:=Dy++[(("Rule.tree_rank":Str),1002,jg)]
noncomputable def qA:List Val->M Val:=iF (look Dz) 1 gf
noncomputable def DA:List Row:=Dz++[(("names_of":Str),1,qA)]
noncomputable def n6:List Val->M Val:=iF (look DA) 1 fh
noncomputable def DC:List Row:=DA++[(("Rule.ties":Str),1001,n6)]
noncomputable def v7:List Val->M Val:=Eo 1 (iF (look DC) 2 nI)
noncomputable def DE:List Row:=DC++[(("ByRest":Str),1,v7)]
noncomputable def jJ:List Val->M Val:=iF (look DE) 5 bM
noncomputable def DF:List Row:=DE++[(("_law_gap_numbers":Str),2,jJ)]
noncomputable def n8:List Val->M Val:=iF (look DF) 13 fj
noncomputable def DG:List Row:=DF++[(("_law_any_net":Str),2,n8)]
noncomputable def zy:List Val->M Val:=iF (look DG) 4 ki
noncomputable def DH:List Row:=DG++[(("_law_row":Str),2,zy)]
noncomputable def kq:List Val->M Val:=iF (look DH) 2 cL
noncomputable def DI:List Row:=DH++[(("ByTrees.rank":Str),1002,kq)]
noncomputable def k9:List Val->M Val:=iF (look DI) 3 cZ
noncomputable def DJ:List Row:=DI++[(("ByRest.rank":Str),1002,k9)]
noncomputable def n9:List Val->M Val:=iF (look DJ) 2 fk
noncomputable def DK:List Row:=DJ++[(("Rule.free":Str),1002,n9)]
noncomputable def mJ:List Val->M Val:=iF (look DK) 3 dU
noncomputable def DL:List Row:=DK++[(("Rule.reach":Str),1002,mJ)]
noncomputable def qB:List Val->M Val:=iF (look DL) 8 gg
noncomputable def DM:List Row:=DL++[(("_law_joined":Str),2,qB)]
noncomputable def zA:List Val->M Val:=iF (look DM) 12 kj
noncomputable def X3:List Row:=DM++[(("law":Str),1,zA)]
noncomputable def Sz:List bD:=[]
noncomputable def bG:bD:=gz (ak Sz) 2 je
noncomputable def SA:List bD:=Sz++[bG]
noncomputable def gT:bD:=gz (ak SA) 5 gc
noncomputable def Px:List bD:=SA++[gT]
noncomputable def mK:bD:=gz (ak Px) 13 kh
noncomputable def SD:List bD:=Px++[mK]
noncomputable def kr:bD:=gz (ak SD) 5 jf
noncomputable def SE:List bD:=SD++[kr]
noncomputable def dg:bD:=gz (ak SE) 6 cK
noncomputable def QC:List bD:=SE++[dg]
noncomputable def dw:bD:=gz (ak QC) 1 gS
noncomputable def SG:List bD:=QC++[dw]
noncomputable def cE:bD:=gz (ak SG) 3 fc
noncomputable def Py:List bD:=SG++[cE]
noncomputable def kK:bD:=k7 (ak Py) 0 5 6
noncomputable def Pz:List bD:=Py++[kK]
noncomputable def gp:bD:=λ_=>.no
noncomputable def SH:List bD:=Pz++[gp]
noncomputable def eF:bD:=gz (ak SH) 8 ff
noncomputable def GX:List bD:=SH++[eF]
noncomputable def aP:bD:=gz (ak GX) 3 bX
noncomputable def LV:List bD:=GX++[aP]
noncomputable def gU:bD:=gz (ak LV) 1 gf
noncomputable def GY:List bD:=LV++[gU]
noncomputable def cF:bD:=gz (ak GY) 1 fh
noncomputable def AR:List bD:=GY++[cF]
noncomputable def mL:bD:=sI (ak Pz) (ak AR) 1 5 6 12 10
noncomputable def qZ:List bD:=AR++[mL]
noncomputable def cM:bD:=gz (ak qZ) 5 bM
noncomputable def DN:List bD:=qZ++[cM]
noncomputable def gh:bD:=gz (ak DN) 13 fj
noncomputable def LW:List bD:=DN++[gh]
noncomputable def mO:bD:=gz (ak LW) 4 ki
noncomputable def GZ:List bD:=LW++[mO]
noncomputable def cC:bD:=gz (ak GZ) 2 cL
noncomputable def DO:List bD:=GZ++[cC]
noncomputable def bZ:bD:=gz (ak DO) 3 cZ
noncomputable def AS:List bD:=DO++[bZ]
noncomputable def gi:bD:=gz (ak AS) 2 fk
noncomputable def v8:List bD:=AS++[gi]
noncomputable def fq:bD:=gz (ak v8) 3 dU
noncomputable def LX:List bD:=v8++[fq]
noncomputable def fO:bD:=gz (ak LX) 8 gg
noncomputable def cR:List bD:=LX++[fO]
noncomputable def DP:bD:=LR (ak cR) 12 kj
noncomputable def X4:List bD:=cR++[DP]
theorem oz:ak Px 0=bG:=rfl
theorem iA:ak Px 1=gT:=rfl
theorem jh:ak QC 4=dg:=rfl
theorem lH:ak Py 5=dw:=rfl
theorem ku:ak Py 6=cE:=rfl
theorem iN:ak Pz 5=dw:=rfl
theorem gW:ak Pz 6=cE:=rfl
theorem gC:ak GX 9=eF:=rfl
theorem jN:ak GY 11=gU:=rfl
theorem sN:ak AR 8=gp:=rfl
theorem iO:ak AR 10=aP:=rfl
theorem kT:ak AR 12=cF:=rfl
theorem dP:ak DN 0=bG:=rfl
theorem dh:ak DN 14=cM:=rfl
theorem fP:ak GZ 10=aP:=rfl
theorem gj:ak DO 10=aP:=rfl
theorem iP:ak DO 12=cF:=rfl
theorem ig:ak AS 17=cC:=rfl
theorem iQ:ak AS 18=bZ:=rfl
theorem jk:ak v8 12=cF:=rfl
theorem di:ak v8 17=cC:=rfl
theorem dH:ak v8 18=bZ:=rfl
theorem lg:ak cR 0=bG:=rfl
theorem ug:ak cR 2=mK:=rfl
theorem rj:ak cR 3=kr:=rfl
theorem qC:ak cR 7=kK:=rfl
theorem rm:ak cR 13=mL:=rfl
theorem nJ:ak cR 15=gh:=rfl
theorem uh:ak cR 16=mO:=rfl
theorem jl:ak cR 19=gi:=rfl
theorem fu:ak cR 20=fq:=rfl
theorem jK:ak cR 21=fO:=rfl
theorem i0:fG Pg Sz:=CL
theorem DQ:Imp vZ bG:=cI (aI i0) (by decide +kernel)
theorem i1:fG Ph SA:=aK i0 DQ
theorem yc:Imp qz gT:=cI (aI i1) (by decide +kernel)
theorem i2:fG Pj Px:=aK i1 yc
theorem Hf:Imp zx mK:=cI (aI i2) (by decide +kernel)
theorem i3:fG Pk SD:=aK i2 Hf
theorem DR:Imp v5 kr:=cI (aI i3) (by decide +kernel)
theorem i4:fG Pn SE:=aK i3 DR
theorem qD:Imp ko dg:=cI (aI i4) (by decide +kernel)
theorem i5:fG Po QC:=aK i4 qD
theorem AV:Imp sL dw:=cI (aI i5) (by decide +kernel)
theorem i6:fG Pp SG:=aK i5 AV
theorem v9:Imp nZ cE:=cI (aI i6) (by decide +kernel)
theorem i7:fG Pq Py:=aK i6 v9
theorem AW:Imp sM kK:=Dj (n:=2) (by decide) (aI i7)
theorem i8:fG Pu Pz:=aK i7 AW
theorem oA:Imp jI gp:=Dm
theorem i9:fG Pw SH:=aK i8 oA
theorem wc:Imp n5 eF:=cI (aI i9) (by decide +kernel)
theorem VX:fG Dy GX:=aK i9 wc
theorem nK:Imp jg aP:=cI (aI VX) (by decide +kernel)
theorem VY:fG Dz LV:=aK VX nK
theorem yd:Imp qA gU:=cI (aI VY) (by decide +kernel)
theorem i12:fG DA GY:=aK VY yd
theorem we:Imp n6 cF:=cI (aI i12) (by decide +kernel)
theorem VZ:fG DC AR:=aK i12 we
theorem DS:Imp v7 mL:=Dp (n:=2) (ji:=8) (by decide) (aI i8) (aI VZ) rfl rfl rfl
theorem V3:fG DE qZ:=aK VZ DS
theorem oB:Imp jJ cM:=cI (aI V3) (by decide +kernel)
theorem V4:fG DF DN:=aK V3 oB
theorem wg:Imp n8 gh:=cI (aI V4) (by decide +kernel)
theorem V5:fG DG LW:=aK V4 wg
theorem Hg:Imp zy mO:=cI (aI V5) (by decide +kernel)
theorem V6:fG DH GZ:=aK V5 Hg
theorem qE:Imp kq cC:=cI (aI V6) (by decide +kernel)
theorem V7:fG DI DO:=aK V6 qE
theorem rq:Imp k9 bZ:=cI (aI V7) (by decide +kernel)
theorem V8:fG DJ AS:=aK V7 rq
theorem wj:Imp n9 gi:=cI (aI V8) (by decide +kernel)
theorem V9:fG DK v8:=aK V8 wj
theorem um:Imp mJ fq:=cI (aI V9) (by decide +kernel)
theorem Wa:fG DL LX:=aK V9 um
theorem ye:Imp qB fO:=cI (aI Wa) (by decide +kernel)
theorem X5:fG DM cR:=aK Wa ye
theorem Hh{ns:List Int}{f:Bool}(e:DP [.rl (ns.map .int)]=.ok (f,.bl true)):∃h',zA [.rl (ns.map .int)] []=.ok (.bl true) h':=AQ (aI X5) (by decide +kernel) e
theorem c0:aZ ["_law_script","_law_k"] ["_law_script","_law_k"] (af (top 13))=true:=by decide +kernel
theorem d0:bA ⟨["_law_script","_law_k"],af (top 13),Pg.map (λr=>(r.1,r.2.1)),cons,tb⟩ je (aj (top 13))=true:=by decide +kernel
theorem c1:aZ ["_law_one","_law_two","_law_k","_law_step","_law_shift"] ["_law_one","_law_two","_law_k"] (af (top 14))=true:=by decide +kernel
theorem d1:bA ⟨["_law_one","_law_two","_law_k","_law_step","_law_shift"],af (top 14),Ph.map (λr=>(r.1,r.2.1)),cons,tb⟩ gc (aj (top 14))=true:=by decide +kernel
theorem c2:aZ ["_law_script","_law_cells","_law_one","_law_two","_law_pick","_law_many","_law_places","_law_ties","_law_k","_law_cell_here","_law_here","_law_there","_law_poles"] ["_law_script","_law_cells"] (af (top 15))=true:=by decide +kernel
theorem d2:bA ⟨["_law_script","_law_cells","_law_one","_law_two","_law_pick","_law_many","_law_places","_law_ties","_law_k","_law_cell_here","_law_here","_law_there","_law_poles"],af (top 15),Pj.map (λr=>(r.1,r.2.1)),cons,tb⟩ kh (aj (top 15))=true:=by decide +kernel
theorem c3:aZ ["_law_net_here","_law_ends_here","_law_name","_law_one","_law_other"] ["_law_net_here"] (af (top 16))=true:=by decide +kernel
theorem d3:bA ⟨["_law_net_here","_law_ends_here","_law_name","_law_one","_law_other"],af (top 16),Pk.map (λr=>(r.1,r.2.1)),cons,tb⟩ jf (aj (top 16))=true:=by decide +kernel
theorem c4:aZ ["poles","ties","named","name","one","other"] ["poles","ties"] (af (top 1))=true:=by decide +kernel
theorem d4:bA ⟨["poles","ties","named","name","one","other"],af (top 1),Pn.map (λr=>(r.1,r.2.1)),cons,tb⟩ cK (aj (top 1))=true:=by decide +kernel
theorem c5:aZ ["net"] ["net"] (af (top 2))=true:=by decide +kernel
theorem d5:bA ⟨["net"],af (top 2),Po.map (λr=>(r.1,r.2.1)),cons,tb⟩ gS (aj (top 2))=true:=by decide +kernel
theorem c6:aZ ["net","places","tie"] ["net"] (af (top 3))=true:=by decide +kernel
theorem d6:bA ⟨["net","places","tie"],af (top 3),Pp.map (λr=>(r.1,r.2.1)),cons,tb⟩ fc (aj (top 3))=true:=by decide +kernel
theorem c7:aZ ["self","net","name","one","other"] ["self","net"] (af (cj 0))=true:=by decide +kernel
theorem d7:bA ⟨["self","net","name","one","other"],af (cj 0),Pq.map (λr=>(r.1,r.2.1)),cons,tb⟩ lG (aj (cj 0))=true:=by decide +kernel
theorem c8:aZ ["self","net","name","one","other"] ["self","net"] (af (cj 0))=true:=by decide +kernel
theorem d8:bA ⟨["self","net","name","one","other"],af (cj 0),Pu.map (λr=>(r.1,r.2.1)),cons,tb⟩ fN (aj (cj 0))=true:=by decide +kernel
theorem c9:aZ ["places","pairs","firsts","place","one","other","kept","gone"] ["places","pairs"] (af (top 6))=true:=by decide +kernel
theorem d9:bA ⟨["places","pairs","firsts","place","one","other","kept","gone"],af (top 6),Pw.map (λr=>(r.1,r.2.1)),cons,tb⟩ ff (aj (top 6))=true:=by decide +kernel
theorem uw:aZ ["self","row","firsts"] ["self","row"] (af (cj 7))=true:=by decide +kernel
theorem qY:bA ⟨["self","row","firsts"],af (cj 7),Dy.map (λr=>(r.1,r.2.1)),cons,tb⟩ bX (aj (cj 7))=true:=by decide +kernel
theorem rA:aZ ["net"] ["net"] (af (top 4))=true:=by decide +kernel
theorem wK:bA ⟨["net"],af (top 4),Dz.map (λr=>(r.1,r.2.1)),cons,tb⟩ gf (aj (top 4))=true:=by decide +kernel
theorem c12:aZ ["self"] ["self"] (af (cj 3))=true:=by decide +kernel
theorem X6:bA ⟨["self"],af (cj 3),DA.map (λr=>(r.1,r.2.1)),cons,tb⟩ fh (aj (cj 3))=true:=by decide +kernel
theorem X7:aZ ["self","net"] ["self","net"] (af (iz 0))=true:=by decide +kernel
theorem X8:bA ⟨["self","net"],af (iz 0),DC.map (λr=>(r.1,r.2.1)),cons,tb⟩ nI (aj (iz 0))=true:=by decide +kernel
theorem Yb:aZ ["_law_cell_here","_law_many","_law_number_here","_law_found","_law_k"] ["_law_cell_here","_law_many"] (af (top 19))=true:=by decide +kernel
theorem Yc:bA ⟨["_law_cell_here","_law_many","_law_number_here","_law_found","_law_k"],af (top 19),DE.map (λr=>(r.1,r.2.1)),cons,tb⟩ bM (aj (top 19))=true:=by decide +kernel
theorem Yd:aZ ["_law_script","_law_most","_law_rest","_law_many","_law_places","_law_one","_law_other","_law_names","_law_cell_here","_law_ties","_law_name","_law_here","_law_there"] ["_law_script","_law_most"] (af (top 20))=true:=by decide +kernel
theorem Ye:bA ⟨["_law_script","_law_most","_law_rest","_law_many","_law_places","_law_one","_law_other","_law_names","_law_cell_here","_law_ties","_law_name","_law_here","_law_there"],af (top 20),DF.map (λr=>(r.1,r.2.1)),cons,tb⟩ fj (aj (top 20))=true:=by decide +kernel
theorem Yg:aZ ["_law_names","_law_cell_here","_law_row_here","_law_name"] ["_law_names","_law_cell_here"] (af (top 18))=true:=by decide +kernel
theorem Yh:bA ⟨["_law_names","_law_cell_here","_law_row_here","_law_name"],af (top 18),DG.map (λr=>(r.1,r.2.1)),cons,tb⟩ ki (aj (top 18))=true:=by decide +kernel
theorem Yi:aZ ["self","row"] ["self","row"] (af (qy 1))=true:=by decide +kernel
theorem Yj:bA ⟨["self","row"],af (qy 1),DH.map (λr=>(r.1,r.2.1)),cons,tb⟩ cL (aj (qy 1))=true:=by decide +kernel
theorem Yk:aZ ["self","row","rest"] ["self","row"] (af (iz 2))=true:=by decide +kernel
theorem Yl:bA ⟨["self","row","rest"],af (iz 2),DI.map (λr=>(r.1,r.2.1)),cons,tb⟩ cZ (aj (iz 2))=true:=by decide +kernel
theorem Ym:aZ ["self","row"] ["self","row"] (af (cj 5))=true:=by decide +kernel
theorem Yn:bA ⟨["self","row"],af (cj 5),DJ.map (λr=>(r.1,r.2.1)),cons,tb⟩ fk (aj (cj 5))=true:=by decide +kernel
theorem Yo:aZ ["self","row","rank"] ["self","row"] (af (cj 6))=true:=by decide +kernel
theorem Yp:bA ⟨["self","row","rank"],af (cj 6),DK.map (λr=>(r.1,r.2.1)),cons,tb⟩ dU (aj (cj 6))=true:=by decide +kernel
theorem Yq:aZ ["_law_ends_here","_law_row_here","_law_part","_law_many","_law_name","_law_one","_law_other","_law_place"] ["_law_ends_here","_law_row_here"] (af (top 17))=true:=by decide +kernel
theorem Yr:bA ⟨["_law_ends_here","_law_row_here","_law_part","_law_many","_law_name","_law_one","_law_other","_law_place"],af (top 17),DL.map (λr=>(r.1,r.2.1)),cons,tb⟩ gg (aj (top 17))=true:=by decide +kernel
theorem Ys:aZ ["_law_script","_law_net_here","_law_ends_here","_law_names","_law_trees","_law_leaves","_law_cell_here","_law_picked","_law_rest","_law_due","_law_name","_law_fewer"] ["_law_script"] (af (top 21))=true:=by decide +kernel
theorem Yt:bA ⟨["_law_script","_law_net_here","_law_ends_here","_law_names","_law_trees","_law_leaves","_law_cell_here","_law_picked","_law_rest","_law_due","_law_name","_law_fewer"],af (top 21),DM.map (λr=>(r.1,r.2.1)),cons,tb⟩ kj (aj (top 21))=true:=by decide +kernel
section
variable {P:Program} {w:World} {K:PySem.W.Frag} {mg:Str->Option Value} {base:Heap}
theorem all_mk{l:PySem.W.OpenLaw}{h:Heap}{fa:Addr}(X:K.In h)(G:h.Ns mainGlobals mg)(Yu:mg "law" = some (.ref fa))(hφ:∀ns:List Int,ns.length<=63->∃h',zA [.rl (ns.map .int)] []=.ok (.bl true) h'){D0:Addr}{D1:Addr}{E0:Addr}{Yv Yw Yx Yy Wb Yz:Value}{YA YB:Option Addr}{YC:Array (Option Value)}{a0:Addr}{YD YE YF YG Wc YH:Value}{YI YJ:Option Addr}{YK:Array (Option Value)}{a1:Addr}{YL YM YN YO Wd YQ:Value}{YR YS:Option Addr}{sl2:Array (Option Value)}{a2:Addr}{YT YU YV YW We YX:Value}{YY YZ:Option Addr}{Y0:Array (Option Value)}{a3:Addr}{Y3 Y4 Y5 Y6 Wf Y7:Value}{Y8 Y9:Option Addr}{Za:Array (Option Value)}{a4:Addr}{Zb Zc Zd Ze Wg Zf:Value}{Zg Zh:Option Addr}{Zi:Array (Option Value)}{a5:Addr}{Zj Zk Zl Zm Wh Zn:Value}{Zo Zp:Option Addr}{Zq:Array (Option Value)}{a6:Addr}{Zr Zs Zt Zu Wi Zv:Value}{Zw Zx:Option Addr}{Zy:Array (Option Value)}{a7:Addr}{Zz ZA ZC ZD Wj ZE:Value}{ZF ZG:Option Addr}{ZH:Array (Option Value)}{a8:Addr}{ZI ZJ ZK ZL Wk ZM:Value}{ZN ZO:Option Addr}{ZP:Array (Option Value)}{a9:Addr}{SJ SK SM SN PB SO:Value}{SQ SS:Option Addr}{SV:Array (Option Value)}{LY:Addr}{SW SX SY S0 PC S4:Value}{S5 S6:Option Addr}{S7:Array (Option Value)}{QD:Addr}{S8 S9 Tc Td PD Te:Value}{Tf Tg:Option Addr}{Th:Array (Option Value)}{LZ:Addr}{Ti Tj Tn To PF Tp:Value}{Tq Tr:Option Addr}{Tt:Array (Option Value)}{PJ:Addr}{Tu Tv Tw Tz PK TF:Value}{TH TJ:Option Addr}{TL:Array (Option Value)}{QE:Addr}{TM TQ TR TU PM TV:Value}{TX TY:Option Addr}{TZ:Array (Option Value)}{QF:Addr}{T4 T5 T6 T7 PN T8:Value}{T9 Ua:Option Addr}{Ub:Array (Option Value)}{QG:Addr}{Uc Ud Ue Ug PR Uh:Value}{Ui Uj:Option Addr}{Uk:Array (Option Value)}{MQ:Addr}{Ul Um Uo Uq PU Ur:Value}{Us Ut:Option Addr}{Uu:Array (Option Value)}{MR:Addr}{Uv Uw Ux Uy PX Uz:Value}{UA UB:Option Addr}{UC:Array (Option Value)}{Ma:Addr}{UD UE UG UH PY UI:Value}{UJ UK:Option Addr}{UL:Array (Option Value)}{Mb:Addr}{UM UN UO UP PZ UQ:Value}{US UT:Option Addr}{UU:Array (Option Value)}{QH:Addr}{UW P0 P1 P4 Mc P5:Value}{UX P6:Option Addr}{UY:Array (Option Value)}{UZ:Addr}{tk0:Tok}
  (DA0:PySem.W.nsIn K mainGlobals "ByTrees" = some (some (.ref D0))) (DG0:plainGet K D0 Str.empty=true) (DH0:hasDictIn K D0=true) (DO0:plainOver K D0=true) (DS0:findIn K (.ref D0) "__setattr__" = some (some (.builtin "object.__setattr__"))) (DM0:makesIn K D0=true) (DK0:keepIn K (.ref D0)=true)
  (DN0_0:findIn K (.ref D0) "net" = some none)
  (DN0_1:findIn K (.ref D0) "places" = some none)
  (DN0_2:findIn K (.ref D0) "ends" = some none)
  (DN0_3:findIn K (.ref D0) "whole" = some none)
  (DA1:PySem.W.nsIn K mainGlobals "ByRest" = some (some (.ref D1))) (DG1:plainGet K D1 Str.empty=true) (DH1:hasDictIn K D1=true) (DO1:plainOver K D1=true) (DS1:findIn K (.ref D1) "__setattr__" = some (some (.builtin "object.__setattr__"))) (DM1:makesIn K D1=true) (DK1:keepIn K (.ref D1)=true)
  (DN1_0:findIn K (.ref D1) "net" = some none)
  (DN1_1:findIn K (.ref D1) "places" = some none)
  (DN1_2:findIn K (.ref D1) "ends" = some none)
  (DN1_3:findIn K (.ref D1) "whole" = some none)
  (EA0:PySem.W.nsIn K mainGlobals "Rule" = some (some (.ref E0)))
  (EG0:specialIn K (.ref E0) "__getattribute__" = some (some (.builtin "type.__getattribute__"))) (ER0:readsIn K E0 (.type "type")=true)
  (EK0_0:kitOne K (.ref D0) (.ref E0)=some true)
  (EK0_1:kitOne K (.ref D1) (.ref E0)=some true)
  (TN:specialIn K (.builtin "object.__class__") "__get__" = some (some (.builtin "getset_descriptor.__get__"))) (TT:takesIn K (.builtin "object.__class__")=some true)
  (TA0:findIn K (.ref D0) "__class__" = some (some (.builtin "object.__class__"))) (TM0:PySem.W.mroIn K D0 (.type "object")=some true)
  (TA1:findIn K (.ref D1) "__class__" = some (some (.builtin "object.__class__"))) (TM1:PySem.W.mroIn K D1 (.type "object")=some true)
  (A0:PySem.W.nsIn K mainGlobals "_law_cell" = some (some (.ref a0)))
  (L0:K.lookup a0=some ⟨Yv,YA,.func (PySem.W.fnOf "_law_cell" "_law_cell" (aO (top 13)) (aj (top 13)) (af (top 13)) .none Yw Yx Yy YB Wb Yz),YC⟩) (C0:codeIn K Wb "_law_cell" = true) (Q0:keepIn K (.ref a0)=true)
  (A1:PySem.W.nsIn K mainGlobals "_law_number" = some (some (.ref a1)))
  (L1:K.lookup a1=some ⟨YD,YI,.func (PySem.W.fnOf "_law_number" "_law_number" (aO (top 14)) (aj (top 14)) (af (top 14)) .none YE YF YG YJ Wc YH),YK⟩) (C1:codeIn K Wc "_law_number" = true) (Q1:keepIn K (.ref a1)=true)
  (A2:PySem.W.nsIn K mainGlobals "_law_net" = some (some (.ref a2)))
  (L2:K.lookup a2=some ⟨YL,YR,.func (PySem.W.fnOf "_law_net" "_law_net" (aO (top 15)) (aj (top 15)) (af (top 15)) .none YM YN YO YS Wd YQ),sl2⟩) (C2:codeIn K Wd "_law_net" = true) (Q2:keepIn K (.ref a2)=true)
  (A3:PySem.W.nsIn K mainGlobals "_law_ends" = some (some (.ref a3)))
  (L3:K.lookup a3=some ⟨YT,YY,.func (PySem.W.fnOf "_law_ends" "_law_ends" (aO (top 16)) (aj (top 16)) (af (top 16)) .none YU YV YW YZ We YX),Y0⟩) (C3:codeIn K We "_law_ends" = true) (Q3:keepIn K (.ref a3)=true)
  (A4:PySem.W.nsIn K mainGlobals "put_in_order" = some (some (.ref a4)))
  (L4:K.lookup a4=some ⟨Y3,Y8,.func (PySem.W.fnOf "put_in_order" "put_in_order" (aO (top 1)) (aj (top 1)) (af (top 1)) .none Y4 Y5 Y6 Y9 Wf Y7),Za⟩) (C4:codeIn K Wf "put_in_order" = true) (Q4:keepIn K (.ref a4)=true)
  (A5:PySem.W.nsIn K mainGlobals "own_net" = some (some (.ref a5)))
  (L5:K.lookup a5=some ⟨Zb,Zg,.func (PySem.W.fnOf "own_net" "own_net" (aO (top 2)) (aj (top 2)) (af (top 2)) .none Zc Zd Ze Zh Wg Zf),Zi⟩) (C5:codeIn K Wg "own_net" = true) (Q5:keepIn K (.ref a5)=true)
  (A6:PySem.W.nsIn K mainGlobals "places_of" = some (some (.ref a6)))
  (L6:K.lookup a6=some ⟨Zj,Zo,.func (PySem.W.fnOf "places_of" "places_of" (aO (top 3)) (aj (top 3)) (af (top 3)) .none Zk Zl Zm Zp Wh Zn),Zq⟩) (C6:codeIn K Wh "places_of" = true) (Q6:keepIn K (.ref a6)=true)
  (A7:findIn K (.ref D0) "__init__" = some (some (.ref a7))) (I7:PySem.W.isFn K (.ref a7)=true)
  (L7:K.lookup a7=some ⟨Zr,Zw,.func (PySem.W.fnOf "__init__" "Rule.__init__" (aO (cj 0)) (aj (cj 0)) (af (cj 0)) .none Zs Zt Zu Zx Wi Zv),Zy⟩) (C7:codeIn K Wi "Rule.__init__" = true) (Q7:keepIn K (.ref a7)=true)
  (EF0_8:findCls K (.ref E0) (.type "type") "__init__" = some (.val (.ref a8)))
  (I8:PySem.W.isFn K (.ref a8)=true)
  (L8:K.lookup a8=some ⟨Zz,ZF,.func (PySem.W.fnOf "__init__" "Rule.__init__" (aO (cj 0)) (aj (cj 0)) (af (cj 0)) .none ZA ZC ZD ZG Wj ZE),ZH⟩) (C8:codeIn K Wj "Rule.__init__" = true) (Q8:keepIn K (.ref a8)=true)
  (A9:PySem.W.nsIn K mainGlobals "firsts_by" = some (some (.ref a9)))
  (L9:K.lookup a9=some ⟨ZI,ZN,.func (PySem.W.fnOf "firsts_by" "firsts_by" (aO (top 6)) (aj (top 6)) (af (top 6)) .none ZJ ZK ZL ZO Wk ZM),ZP⟩) (C9:codeIn K Wk "firsts_by" = true) (Q9:keepIn K (.ref a9)=true)
  (M0_10:findIn K (.ref D0) "tree_rank" = some (some (.ref LY)))
  (M1_10:findIn K (.ref D1) "tree_rank" = some (some (.ref LY)))
  (I10:PySem.W.isFn K (.ref LY)=true)
  (L10:K.lookup LY=some ⟨SJ,SQ,.func (PySem.W.fnOf "tree_rank" "Rule.tree_rank" (aO (cj 7)) (aj (cj 7)) (af (cj 7)) .none SK SM SN SS PB SO),SV⟩) (C10:codeIn K PB "Rule.tree_rank" = true) (Q10:keepIn K (.ref LY)=true)
  (A11:PySem.W.nsIn K mainGlobals "names_of" = some (some (.ref QD)))
  (L11:K.lookup QD=some ⟨SW,S5,.func (PySem.W.fnOf "names_of" "names_of" (aO (top 4)) (aj (top 4)) (af (top 4)) .none SX SY S0 S6 PC S4),S7⟩) (C11:codeIn K PC "names_of" = true) (Q11:keepIn K (.ref QD)=true)
  (M0_12:findIn K (.ref D0) "ties" = some (some (.ref LZ)))
  (M1_12:findIn K (.ref D1) "ties" = some (some (.ref LZ)))
  (I12:PySem.W.isFn K (.ref LZ)=true)
  (L12:K.lookup LZ=some ⟨S8,Tf,.func (PySem.W.fnOf "ties" "Rule.ties" (aO (cj 3)) (aj (cj 3)) (af (cj 3)) .none S9 Tc Td Tg PD Te),Th⟩) (C12:codeIn K PD "Rule.ties" = true) (Q12:keepIn K (.ref LZ)=true)
  (A13:findIn K (.ref D1) "__init__" = some (some (.ref PJ))) (I13:PySem.W.isFn K (.ref PJ)=true)
  (L13:K.lookup PJ=some ⟨Ti,Tq,.func (PySem.W.fnOf "__init__" "ByRest.__init__" (aO (iz 0)) (aj (iz 0)) (af (iz 0)) .none Tj Tn To Tr PF Tp),Tt⟩) (C13:codeIn K PF "ByRest.__init__" = true) (Q13:keepIn K (.ref PJ)=true)
  (A14:PySem.W.nsIn K mainGlobals "_law_gap_numbers" = some (some (.ref QE)))
  (L14:K.lookup QE=some ⟨Tu,TH,.func (PySem.W.fnOf "_law_gap_numbers" "_law_gap_numbers" (aO (top 19)) (aj (top 19)) (af (top 19)) .none Tv Tw Tz TJ PK TF),TL⟩) (C14:codeIn K PK "_law_gap_numbers" = true) (Q14:keepIn K (.ref QE)=true)
  (A15:PySem.W.nsIn K mainGlobals "_law_any_net" = some (some (.ref QF)))
  (L15:K.lookup QF=some ⟨TM,TX,.func (PySem.W.fnOf "_law_any_net" "_law_any_net" (aO (top 20)) (aj (top 20)) (af (top 20)) .none TQ TR TU TY PM TV),TZ⟩) (C15:codeIn K PM "_law_any_net" = true) (Q15:keepIn K (.ref QF)=true)
  (A16:PySem.W.nsIn K mainGlobals "_law_row" = some (some (.ref QG)))
  (L16:K.lookup QG=some ⟨T4,T9,.func (PySem.W.fnOf "_law_row" "_law_row" (aO (top 18)) (aj (top 18)) (af (top 18)) .none T5 T6 T7 Ua PN T8),Ub⟩) (C16:codeIn K PN "_law_row" = true) (Q16:keepIn K (.ref QG)=true)
  (M0_17:findIn K (.ref D0) "rank" = some (some (.ref MQ)))
  (I17:PySem.W.isFn K (.ref MQ)=true)
  (L17:K.lookup MQ=some ⟨Uc,Ui,.func (PySem.W.fnOf "rank" "ByTrees.rank" (aO (qy 1)) (aj (qy 1)) (af (qy 1)) .none Ud Ue Ug Uj PR Uh),Uk⟩) (C17:codeIn K PR "ByTrees.rank" = true) (Q17:keepIn K (.ref MQ)=true)
  (M1_18:findIn K (.ref D1) "rank" = some (some (.ref MR)))
  (I18:PySem.W.isFn K (.ref MR)=true)
  (L18:K.lookup MR=some ⟨Ul,Us,.func (PySem.W.fnOf "rank" "ByRest.rank" (aO (iz 2)) (aj (iz 2)) (af (iz 2)) .none Um Uo Uq Ut PU Ur),Uu⟩) (C18:codeIn K PU "ByRest.rank" = true) (Q18:keepIn K (.ref MR)=true)
  (M0_19:findIn K (.ref D0) "free" = some (some (.ref Ma)))
  (M1_19:findIn K (.ref D1) "free" = some (some (.ref Ma)))
  (I19:PySem.W.isFn K (.ref Ma)=true)
  (L19:K.lookup Ma=some ⟨Uv,UA,.func (PySem.W.fnOf "free" "Rule.free" (aO (cj 5)) (aj (cj 5)) (af (cj 5)) .none Uw Ux Uy UB PX Uz),UC⟩) (C19:codeIn K PX "Rule.free" = true) (Q19:keepIn K (.ref Ma)=true)
  (M0_20:findIn K (.ref D0) "reach" = some (some (.ref Mb)))
  (M1_20:findIn K (.ref D1) "reach" = some (some (.ref Mb)))
  (I20:PySem.W.isFn K (.ref Mb)=true)
  (L20:K.lookup Mb=some ⟨UD,UJ,.func (PySem.W.fnOf "reach" "Rule.reach" (aO (cj 6)) (aj (cj 6)) (af (cj 6)) .none UE UG UH UK PY UI),UL⟩) (C20:codeIn K PY "Rule.reach" = true) (Q20:keepIn K (.ref Mb)=true)
  (A21:PySem.W.nsIn K mainGlobals "_law_joined" = some (some (.ref QH)))
  (L21:K.lookup QH=some ⟨UM,US,.func (PySem.W.fnOf "_law_joined" "_law_joined" (aO (top 17)) (aj (top 17)) (af (top 17)) .none UN UO UP UT PZ UQ),UU⟩) (C21:codeIn K PZ "_law_joined" = true) (Q21:keepIn K (.ref QH)=true)
  (A22:PySem.W.nsIn K mainGlobals "law" = some (some (.ref UZ)))
  (L22:K.lookup UZ=some ⟨UW,UX,.func (PySem.W.fnOf "law" "law" (aO (top 21)) (aj (top 21)) (af (top 21)) .none P0 P1 P4 P6 Mc P5),UY⟩) (C22:codeIn K Mc "law" = true) (Q22:keepIn K (.ref UZ)=true)
  (Z0:PySem.W.nsIn K mainGlobals "len" = some none)
  (Z1:PySem.W.nsIn K mainGlobals "min" = some none)
  (Z2:PySem.W.nsIn K mainGlobals "max" = some none)
  (Z3:PySem.W.nsIn K mainGlobals "sorted" = some none)
  (Z4:PySem.W.nsIn K mainGlobals "list" = some none)
  (Z5:PySem.W.nsIn K mainGlobals "tuple" = some none)
  (Z6:PySem.W.nsIn K mainGlobals "str" = some none)
  (Z7:PySem.W.nsIn K mainGlobals "all" = some none)
  (Z8:PySem.W.nsIn K mainGlobals "any" = some none)
  (Z9:PySem.W.nsIn K mainGlobals "isinstance" = some none)
  (Z10:PySem.W.nsIn K mainGlobals "range" = some none)
  (Z11:PySem.W.nsIn K mainGlobals "enumerate" = some none)
  (Z12:PySem.W.nsIn K mainGlobals "int" = some none)
  (Z13:PySem.W.nsIn K mainGlobals "bool" = some none)
  (Z14:PySem.W.nsIn K mainGlobals "dict" = some none)
  (Z15:PySem.W.nsIn K mainGlobals "set" = some none)
  (Z16:PySem.W.nsIn K mainGlobals "zip" = some none)
  (V0:PySem.W.nsIn K mainGlobals "THOUGHT" = some (some (.int (-1) tk0))) :
  ∃fd:FuncData,(∀(s:Shared) (v:Value),BindsTo s fd ⟨[v],[]⟩ [("_law_script",v)])/\∀base:Heap,K.In base->base.Ns mainGlobals mg->fz l.prog w K mg base wI 46 fa fd ["_law_script"] (Qz K):=by
 have e:=Yu.symm.trans (mg_of X G A22);cases e;obtain⟨cl,hcl⟩:∃cl:Nat->Addr,cl=λn=>if n=0 then D0 else if n=1 then D1 else if n=1008 then a8 else if n=1010 then LY else if n=1012 then LZ else if n=1017 then MQ else if n=1018 then MR else if n=1019 then Ma else if n=1020 then Mb else 0:=⟨_,rfl⟩
 have T:Base K cl mg cons tb:=by
  subst hcl;refine⟨λx hx=>?_,λp hp=>?_,λc hc=>?_,λp hp=>?_,λp hp=>?_,λp hp=>?_⟩
  ·simp only[fX,mem_cons,not_mem_nil,or_false] at hx
   rcases hx with rfl|rfl|rfl|rfl|rfl|rfl|rfl|rfl|rfl|rfl|rfl|rfl|rfl|rfl|rfl|rfl|rfl
   ·exact mg_none_of X G Z0
   ·exact mg_none_of X G Z1
   ·exact mg_none_of X G Z2
   ·exact mg_none_of X G Z3
   ·exact mg_none_of X G Z4
   ·exact mg_none_of X G Z5
   ·exact mg_none_of X G Z6
   ·exact mg_none_of X G Z7
   ·exact mg_none_of X G Z8
   ·exact mg_none_of X G Z9
   ·exact mg_none_of X G Z10
   ·exact mg_none_of X G Z11
   ·exact mg_none_of X G Z12
   ·exact mg_none_of X G Z13
   ·exact mg_none_of X G Z14
   ·exact mg_none_of X G Z15
   ·exact mg_none_of X G Z16
  ·simp only[cons,mem_cons,not_mem_nil,or_false] at hp
   rcases hp with rfl
   ·exact⟨.int (-1),_,mg_of X G V0,⟨_,rfl⟩,λ_ _ _=>VR.int⟩
  ·have hc:c<2:=hc
   match c,hc with
   | 0,_ =>
    refine⟨⟨DG0,DH0,DO0,DS0⟩,λx hx=>?_⟩;simp only[tb,mem_cons,not_mem_nil,or_false] at hx
    rcases hx with rfl|rfl|rfl|rfl
    ·exact DN0_0
    ·exact DN0_1
    ·exact DN0_2
    ·exact DN0_3
   | 1,_ =>
    refine⟨⟨DG1,DH1,DO1,DS1⟩,λx hx=>?_⟩;simp only[tb,mem_cons,not_mem_nil,or_false] at hx
    rcases hx with rfl|rfl|rfl|rfl
    ·exact DN1_0
    ·exact DN1_1
    ·exact DN1_2
    ·exact DN1_3
  ·simp only[tb,mem_cons,not_mem_nil,or_false] at hp
   rcases hp with rfl|rfl|rfl|rfl|rfl|rfl|rfl|rfl|rfl|rfl
   ·exact⟨M0_10,I10,Q10⟩
   ·exact⟨M1_10,I10,Q10⟩
   ·exact⟨M0_12,I12,Q12⟩
   ·exact⟨M1_12,I12,Q12⟩
   ·exact⟨M0_17,I17,Q17⟩
   ·exact⟨M1_18,I18,Q18⟩
   ·exact⟨M0_19,I19,Q19⟩
   ·exact⟨M1_19,I19,Q19⟩
   ·exact⟨M0_20,I20,Q20⟩
   ·exact⟨M1_20,I20,Q20⟩
  ·simp only[tb,mem_cons,not_mem_nil,or_false] at hp
   rcases hp with rfl
   ·exact⟨E0,mg_of X G EA0,⟨EG0,ER0,EF0_8,Q8⟩⟩
  ·simp only[tb,mem_cons,not_mem_nil,or_false] at hp
   rcases hp with rfl
   ·refine⟨E0,mg_of X G EA0,λc b hb=>?_⟩
    match c,hb with
    | 0,hb=>cases hb;exact⟨⟨TA0,TN,TT,TM0⟩,EK0_0⟩
    | 1,hb=>cases hb;exact⟨⟨TA1,TN,TT,TM1⟩,EK0_1⟩
    | n+2,hb=>simp at hb
 have F0:=bO (st:=(top 13)) L0 C0 Q0;have b0:=F0.binds (ps:=["_law_script","_law_k"]) λ_ _ _ _ _ _ us hl=>by obtain⟨_,_,rfl⟩:=gr hl;exact rfl
 have F1:=bO (st:=(top 14)) L1 C1 Q1;have b1:=F1.binds (ps:=["_law_one","_law_two","_law_k"]) λ_ _ _ _ _ _ us hl=>by obtain⟨_,_,_,rfl⟩:=Ol hl;exact rfl
 have F2:=bO (st:=(top 15)) L2 C2 Q2;have b2:=F2.binds (ps:=["_law_script","_law_cells"]) λ_ _ _ _ _ _ us hl=>by obtain⟨_,_,rfl⟩:=gr hl;exact rfl
 have F3:=bO (st:=(top 16)) L3 C3 Q3;have b3:=F3.binds (ps:=["_law_net_here"]) λ_ _ _ _ _ _ us hl=>by obtain⟨_,rfl⟩:=vD hl;exact rfl
 have F4:=bO (st:=(top 1)) L4 C4 Q4;have b4:=F4.binds (ps:=["poles","ties"]) λ_ _ _ _ _ _ us hl=>by obtain⟨_,_,rfl⟩:=gr hl;exact rfl
 have F5:=bO (st:=(top 2)) L5 C5 Q5;have b5:=F5.binds (ps:=["net"]) λ_ _ _ _ _ _ us hl=>by obtain⟨_,rfl⟩:=vD hl;exact rfl
 have F6:=bO (st:=(top 3)) L6 C6 Q6;have b6:=F6.binds (ps:=["net"]) λ_ _ _ _ _ _ us hl=>by obtain⟨_,rfl⟩:=vD hl;exact rfl
 have F7:=bO (st:=(cj 0)) L7 C7 Q7;have b7:=F7.binds (ps:=["self","net"]) λ_ _ _ _ _ _ us hl=>by obtain⟨_,_,rfl⟩:=gr hl;exact rfl
 have F8:=bO (st:=(cj 0)) L8 C8 Q8;have b8:=F8.binds (ps:=["self","net"]) λ_ _ _ _ _ _ us hl=>by obtain⟨_,_,rfl⟩:=gr hl;exact rfl
 have F9:=bO (st:=(top 6)) L9 C9 Q9;have b9:=F9.binds (ps:=["places","pairs"]) λ_ _ _ _ _ _ us hl=>by obtain⟨_,_,rfl⟩:=gr hl;exact rfl
 have Wl:=bO (st:=(cj 7)) L10 C10 Q10;have ZQ:=Wl.binds (ps:=["self","row"]) λ_ _ _ _ _ _ us hl=>by obtain⟨_,_,rfl⟩:=gr hl;exact rfl
 have Wm:=bO (st:=(top 4)) L11 C11 Q11;have ZR:=Wm.binds (ps:=["net"]) λ_ _ _ _ _ _ us hl=>by obtain⟨_,rfl⟩:=vD hl;exact rfl
 have Wn:=bO (st:=(cj 3)) L12 C12 Q12;have ZS:=Wn.binds (ps:=["self"]) λ_ _ _ _ _ _ us hl=>by obtain⟨_,rfl⟩:=vD hl;exact rfl
 have Wo:=bO (st:=(iz 0)) L13 C13 Q13;have ZT:=Wo.binds (ps:=["self","net"]) λ_ _ _ _ _ _ us hl=>by obtain⟨_,_,rfl⟩:=gr hl;exact rfl
 have Wq:=bO (st:=(top 19)) L14 C14 Q14;have ZU:=Wq.binds (ps:=["_law_cell_here","_law_many"]) λ_ _ _ _ _ _ us hl=>by obtain⟨_,_,rfl⟩:=gr hl;exact rfl
 have Wr:=bO (st:=(top 20)) L15 C15 Q15;have ZV:=Wr.binds (ps:=["_law_script","_law_most"]) λ_ _ _ _ _ _ us hl=>by obtain⟨_,_,rfl⟩:=gr hl;exact rfl
 have Ws:=bO (st:=(top 18)) L16 C16 Q16;have ZW:=Ws.binds (ps:=["_law_names","_law_cell_here"]) λ_ _ _ _ _ _ us hl=>by obtain⟨_,_,rfl⟩:=gr hl;exact rfl
 have Wt:=bO (st:=(qy 1)) L17 C17 Q17;have ZX:=Wt.binds (ps:=["self","row"]) λ_ _ _ _ _ _ us hl=>by obtain⟨_,_,rfl⟩:=gr hl;exact rfl
 have Wu:=bO (st:=(iz 2)) L18 C18 Q18;have ZY:=Wu.binds (ps:=["self","row"]) λ_ _ _ _ _ _ us hl=>by obtain⟨_,_,rfl⟩:=gr hl;exact rfl
 have Wv:=bO (st:=(cj 5)) L19 C19 Q19;have ZZ:=Wv.binds (ps:=["self","row"]) λ_ _ _ _ _ _ us hl=>by obtain⟨_,_,rfl⟩:=gr hl;exact rfl
 have Ww:=bO (st:=(cj 6)) L20 C20 Q20;have b20:=Ww.binds (ps:=["self","row"]) λ_ _ _ _ _ _ us hl=>by obtain⟨_,_,rfl⟩:=gr hl;exact rfl
 have Wx:=bO (st:=(top 17)) L21 C21 Q21;have b21:=Wx.binds (ps:=["_law_ends_here","_law_row_here"]) λ_ _ _ _ _ _ us hl=>by obtain⟨_,_,rfl⟩:=gr hl;exact rfl
 have F22:=bO (st:=(top 21)) L22 C22 Q22;refine⟨PySem.W.fnOf "law" "law" (aO (top 21)) (aj (top 21)) (af (top 21)) .none P0 P1 P4 P6 Mc P5,λs v=>.of_eq rfl,λbase _ _=>?_⟩;have G0:dM l.prog w ⟨K,cl⟩ mg base 0 Pg:=all_nil;have G1:dM l.prog w ⟨K,cl⟩ mg base 2 Ph:=cz (x:="_law_cell") (N:=["_law_script","_law_k"]) (ps:=["_law_script","_law_k"]) (body:=je) (f:=a0) T G0 F0 (mg_of X G A0) b0 (by decide) c0 d0;have G2:dM l.prog w ⟨K,cl⟩ mg base 4 Pj:=cz (x:="_law_number") (N:=["_law_one","_law_two","_law_k","_law_step","_law_shift"]) (ps:=["_law_one","_law_two","_law_k"]) (body:=gc) (f:=a1) T G1 F1 (mg_of X G A1) b1 (by decide) c1 d1;have G3:dM l.prog w ⟨K,cl⟩ mg base 6 Pk:=cz (x:="_law_net") (N:=["_law_script","_law_cells","_law_one","_law_two","_law_pick","_law_many","_law_places","_law_ties","_law_k","_law_cell_here","_law_here","_law_there","_law_poles"]) (ps:=["_law_script","_law_cells"]) (body:=kh) (f:=a2) T G2 F2 (mg_of X G A2) b2 (by decide) c2 d2;have G4:dM l.prog w ⟨K,cl⟩ mg base 8 Pn:=cz (x:="_law_ends") (N:=["_law_net_here","_law_ends_here","_law_name","_law_one","_law_other"]) (ps:=["_law_net_here"]) (body:=jf) (f:=a3) T G3 F3 (mg_of X G A3) b3 (by decide) c3 d3;have G5:dM l.prog w ⟨K,cl⟩ mg base 10 Po:=cz (x:="put_in_order") (N:=["poles","ties","named","name","one","other"]) (ps:=["poles","ties"]) (body:=cK) (f:=a4) T G4 F4 (mg_of X G A4) b4 (by decide) c4 d4;have G6:dM l.prog w ⟨K,cl⟩ mg base 12 Pp:=cz (x:="own_net") (N:=["net"]) (ps:=["net"]) (body:=gS) (f:=a5) T G5 F5 (mg_of X G A5) b5 (by decide) c5 d5;have G7:dM l.prog w ⟨K,cl⟩ mg base 14 Pq:=cz (x:="places_of") (N:=["net","places","tie"]) (ps:=["net"]) (body:=fc) (f:=a6) T G6 F6 (mg_of X G A6) b6 (by decide) c6 d6;have G8:dM l.prog w ⟨K,cl⟩ mg base 16 Pu:=all_class (x:="ByTrees") (N:=["self","net","name","one","other"]) (ps:=["self","net"]) (body:=lG) (n:=1) (f:=a7) (c:=0) T G7 F7 (by rw[hcl];exact mg_of X G DA0) (by rw[hcl];exact⟨DM0,A7,I7,DK0⟩) b7 rfl (by decide) c7 d7;have G9:dM l.prog w ⟨K,cl⟩ mg base 18 Pw:=gM (y:="Rule.__init__") (N:=["self","net","name","one","other"]) (ps:=["self","net"]) (body:=fN) (f:=a8) T G8 F8 (by rw[hcl];rfl) b8 c8 d8;have G10:dM l.prog w ⟨K,cl⟩ mg base 20 Dy:=cz (x:="firsts_by") (N:=["places","pairs","firsts","place","one","other","kept","gone"]) (ps:=["places","pairs"]) (body:=ff) (f:=a9) T G9 F9 (mg_of X G A9) b9 (by decide) c9 d9;have G11:dM l.prog w ⟨K,cl⟩ mg base 22 Dz:=gM (y:="Rule.tree_rank") (N:=["self","row","firsts"]) (ps:=["self","row"]) (body:=bX) (f:=LY) T G10 Wl (by rw[hcl];rfl) ZQ uw qY;have G12:dM l.prog w ⟨K,cl⟩ mg base 24 DA:=cz (x:="names_of") (N:=["net"]) (ps:=["net"]) (body:=gf) (f:=QD) T G11 Wm (mg_of X G A11) ZR (by decide) rA wK;have G13:dM l.prog w ⟨K,cl⟩ mg base 26 DC:=gM (y:="Rule.ties") (N:=["self"]) (ps:=["self"]) (body:=fh) (f:=LZ) T G12 Wn (by rw[hcl];rfl) ZS c12 X6;have G14:dM l.prog w ⟨K,cl⟩ mg base 28 DE:=all_class (x:="ByRest") (N:=["self","net"]) (ps:=["self","net"]) (body:=nI) (n:=1) (f:=PJ) (c:=1) T G13 Wo (by rw[hcl];exact mg_of X G DA1) (by rw[hcl];exact⟨DM1,A13,I13,DK1⟩) ZT rfl (by decide) X7 X8;have G15:dM l.prog w ⟨K,cl⟩ mg base 30 DF:=cz (x:="_law_gap_numbers") (N:=["_law_cell_here","_law_many","_law_number_here","_law_found","_law_k"]) (ps:=["_law_cell_here","_law_many"]) (body:=bM) (f:=QE) T G14 Wq (mg_of X G A14) ZU (by decide) Yb Yc;have G16:dM l.prog w ⟨K,cl⟩ mg base 32 DG:=cz (x:="_law_any_net") (N:=["_law_script","_law_most","_law_rest","_law_many","_law_places","_law_one","_law_other","_law_names","_law_cell_here","_law_ties","_law_name","_law_here","_law_there"]) (ps:=["_law_script","_law_most"]) (body:=fj) (f:=QF) T G15 Wr (mg_of X G A15) ZV (by decide) Yd Ye;have G17:dM l.prog w ⟨K,cl⟩ mg base 34 DH:=cz (x:="_law_row") (N:=["_law_names","_law_cell_here","_law_row_here","_law_name"]) (ps:=["_law_names","_law_cell_here"]) (body:=ki) (f:=QG) T G16 Ws (mg_of X G A16) ZW (by decide) Yg Yh;have G18:dM l.prog w ⟨K,cl⟩ mg base 36 DI:=gM (y:="ByTrees.rank") (N:=["self","row"]) (ps:=["self","row"]) (body:=cL) (f:=MQ) T G17 Wt (by rw[hcl];rfl) ZX Yi Yj;have G19:dM l.prog w ⟨K,cl⟩ mg base 38 DJ:=gM (y:="ByRest.rank") (N:=["self","row","rest"]) (ps:=["self","row"]) (body:=cZ) (f:=MR) T G18 Wu (by rw[hcl];rfl) ZY Yk Yl;have G20:dM l.prog w ⟨K,cl⟩ mg base 40 DK:=gM (y:="Rule.free") (N:=["self","row"]) (ps:=["self","row"]) (body:=fk) (f:=Ma) T G19 Wv (by rw[hcl];rfl) ZZ Ym Yn;have G21:dM l.prog w ⟨K,cl⟩ mg base 42 DL:=gM (y:="Rule.reach") (N:=["self","row","rank"]) (ps:=["self","row"]) (body:=dU) (f:=Mb) T G20 Ww (by rw[hcl];rfl) b20 Yo Yp;have G22:dM l.prog w ⟨K,cl⟩ mg base 44 DM:=cz (x:="_law_joined") (N:=["_law_ends_here","_law_row_here","_law_part","_law_many","_law_name","_law_one","_law_other","_law_place"]) (ps:=["_law_ends_here","_law_row_here"]) (body:=gg) (f:=QH) T G21 Wx (mg_of X G A21) b21 (by decide) Yq Yr;exact(yW T G22 F22 Ys Yt).imp (Ld hφ)
end
end K26
end
section
open PySem L2 Hv
local macro_rules | `(tactic| simp only[EV,$ls,*] $[$l:location]?)=>`(tactic| simp only[gz,CY,CZ,Dc,zj,Ie,Ig,Ih,Ii,Ij,CO,Il,CP,CQ,OT,Im,Io,eB,bY,Sf,aX,qW,gQ,Om,oE,Sg,CK,bT,CM,gB,tZ,CN,isVar,gP,getElem?_cons_zero,getElem?_cons_succ,set_cons_zero,set_cons_succ,map_cons,map_nil,length_cons,length_nil,cons_append,nil_append,List.replicate_succ,List.replicate_zero,Nat.reduceSub,Nat.reduceAdd,Nat.reduceLeDiff,Ip,Iq,OU,OV,OW,OX,OY,OZ,Iu,Iv,zl,Iw,Iz,ID,IF,IG,II,IJ,CS,CT,CU,CV,IK,jw,bw,nX,QA,cQ,gJ,Hv.stored,List.contains_nil,List.contains_cons,elem_nil,List.elem_cons,Nat.reduceBEq,Nat.reduceEqDiff,BEq.rfl,all_cons,List.all_nil,beq_self_eq_true,vF,gR,qd,j4,mj,↓reduceIte,Bool.and_true,Bool.true_and,Bool.false_and,Bool.and_false,Bool.or_false,Bool.false_or,Bool.or_true,Bool.true_or,Bool.or_self,zero_le,Bool.not_true,Bool.not_false,false_eq_true,decide_eq_true_eq,not_eq_true',decide_eq_false_iff_not,append_nil,nil_append,reduceCtorEq,$ls,*] $[$l:location]?)
section
open PySem L2 Hv
namespace K26
noncomputable def cellAt(ns:List Int)(k:Nat):Int:=ns.getD k 0
theorem gD(ns:List Int)(k:Nat):bG [.rl (ns.map .int),.int k]=.ok (true,.int (cellAt ns k)):=by
 unfold bG je
 by_cases h:k<ns.length
 ·have e:jQ (List.map Val.int ns) (k:Int)=some (.int (ns[k])):=lQ (by simp[h])
  have h':(k:Int)<ns.length:=by omega
  simp only[EV,j9 e,length_map,h',cellAt,List.getD,List.getElem?_eq_getElem h,Option.getD_some]
 ·have h':¬ (k:Int)<ns.length:=by omega
  have e:ns[k]?=none:=by simp;omega
  simp only[EV,length_map,h',cellAt,List.getD,e,getD_none]
noncomputable def gX(one two k:Int):Int:=(if 0<one%3 then 1+one/3%10 ^ 56 else 1)*(((1+two%66)*k+one)%67)+(if 0<one%3 then two/66%10 ^ 58 else 0)
theorem AX(a b:Int)(h:0<=b/\b<67):jV a b=true:=by
 unfold jV;simp only[or_eq_true,and_eq_true,decide_eq_true_eq];right;omega
theorem yf(a b:Int)(h:0<=a/\a<67):jV a b=true:=by
 unfold jV;simp only[or_eq_true,and_eq_true,decide_eq_true_eq];left;omega
theorem zB(one two k:Int):gT [.int one,.int two,.int k]=.ok (true,.int (gX one two k)):=by
 unfold gT gc gX;have m1:jV (1+two%66) k=true:=yf _ _ (by omega);have m2:∀x,jV x (((1+two%66)*k+one)%67)=true:=λx=>AX _ _ (by omega);simp only[EV,gb (show decide ((0:Int)<3)=true by decide),gb (show decide ((0:Int)<66)=true by decide),gb (show decide ((0:Int)<67)=true by decide),gn (show ic 3=true by decide),gn (show ic 66=true by decide),zk (show decide ((0:Int)<=56/\(56:Int)<=1000000/\(10:Int).natAbs<2 ^ 64)=true by decide),zk (show decide ((0:Int)<=58/\(58:Int)<=1000000/\(10:Int).natAbs<2 ^ 64)=true by decide),Ir m1,Ir (m2 _),gb (show decide ((0:Int)<10 ^ (56:Int).toNat)=true by decide),gb (show decide ((0:Int)<10 ^ (58:Int).toNat)=true by decide)]
 repeat' split
 all_goals first|rfl|contradiction
theorem Hi(one two k:Int):0<=gX one two k:=by
 unfold gX;generalize ((1+two%66)*k+one)=z;have hs:∃st:Int,(if 0<one%3 then 1+one/3%10 ^ 56 else 1)=st/\1<=st:=by refine⟨_,rfl,?_⟩;split<;>omega
 have hf:∃sh:Int,(if 0<one%3 then two/66%10 ^ 58 else 0)=sh/\0<=sh:=by refine⟨_,rfl,?_⟩;split<;>omega
 obtain⟨st,e1,a1⟩:=hs;obtain⟨sh,e2,b1⟩:=hf;rw[e1,e2];have p1:0<=st*(z%67):=Int.mul_nonneg (by omega) (by omega);omega
theorem DT(one two i j:Int)(hi:0<=i/\i<67)(hj:0<=j/\j<67)(e:gX one two i=gX one two j):i=j:=by
 unfold gX at e;have hs:∃st:Int,(if 0<one%3 then 1+one/3%10 ^ 56 else 1)=st/\1<=st:=by refine⟨_,rfl,?_⟩;split<;>omega
 obtain⟨st,e1,a1⟩:=hs;rw[e1] at e;have e2:st*(((1+two%66)*i+one)%67)=st*(((1+two%66)*j+one)%67):=by omega
 have e3:=Int.eq_of_mul_eq_mul_left (by omega:st≠0) e2;exact GQ (by omega) hi hj e3
theorem IQ{n:Int}(h:inR n=true):gO .range [.int n]=some ((List.range n.toNat).map λ(i:Nat)=>Val.int (0+(i:Int))):=by
 show (if inR n=true then some (cu 0 n.toNat) else none)=_;rw[if_pos h];rfl
structure aJ (p q:Int) (ts:List T3):Prop where
 ord:p<=q
 len:ts.length<=14
 up:Dg ts
 ends:∀t∈ts,t.2.1<=t.2.2
 names:∀t∈ts,0<=t.1
theorem qF:∀(i:Nat) (ms:List Int) (pre post:List Val) (x:Val),cT i (ms.map .int)=pre++x::post->∃c:Int,x=.tup [.int ((i+pre.length:Nat):Int),.int c]
 | _,[],pre,post,x,h=>by simp[cT] at h
 | i,d::r,[],post,x,h=>by
  rw[map_cons,cT,nil_append] at h;injection h with h _
  exact⟨d,by rw[<-h];rfl⟩
 | i,d::r,y::pre,post,x,h=>by
  rw[map_cons,cT,cons_append] at h;injection h with _ h
  obtain⟨c,e⟩:=qF (i+1) r pre post x h;exact⟨c,by rw[e,length_cons];congr 4;omega⟩
structure yg (one two:Int) (ts:List T3):Prop where
 name:∀i (h:i<ts.length),(ts[i]).1=gX one two i
 ends:∀t∈ts,t.2.1<=t.2.2
theorem yg.nodup{one two:Int}(h:yg one two ts)(hl:ts.length<=14):(ts.map (·.1)).Nodup:=by
 unfold List.Nodup;rw[pairwise_iff_getElem];intro i j hi hj hij;rw[length_map] at hi hj;rw[getElem_map,getElem_map,h.name i hi,h.name j hj];intro e;have:=DT one two i j (by omega) (by omega) e;omega
theorem P7(a b:Int):∃x y,PySem.W.sortI [a,b]=[x,y]/\x<=y:=by
 have hl:(PySem.W.sortI [a,b]).length=2:=(sortI_perm _).length_eq;have hs:=PySem.W.sortI_rises [a,b]
 match h:PySem.W.sortI [a,b],hl,hs with
 | [x,y],_,hs=>exact⟨x,y,rfl,by simpa using hs⟩
theorem DU(h:fU xs=some ys):iJ .sorted [.rl xs]=.ok (true,.rl ys):=by
 show (pb (pl (fU xs)) (λys:List Val=>Pr.ok ((true,Val.rl ys):FV)):Pr FV)=_;rw[h];rfl
theorem Mf(ns ms:List Int)(hm:ms.length<=14):∃p q ts,mK [.rl (ns.map .int),.rl (ms.map .int)]=.ok (true,cX p q ts)/\aJ p q ts/\ts.length=ms.length:=by
 have c0:bG [.rl (ns.map .int),.int 0]=.ok (true,.int (cellAt ns 0)):=gD ns 0;have c1:bG [.rl (ns.map .int),.int 1]=.ok (true,.int (cellAt ns 1)):=gD ns 1;have c2:bG [.rl (ns.map .int),.int 2]=.ok (true,.int (cellAt ns 2)):=gD ns 2;unfold mK kh;generalize cellAt ns 0=one at *;generalize cellAt ns 1=two at *;generalize cellAt ns 2=pick at *;have P8:2<=2+pick%7/\2+pick%7<=8:=by omega
 simp only[EV,oz,c0,c1,c2,gb (show decide ((0:Int)<7)=true by decide)];generalize Wz:2+pick%7=many at *;have hR:inR many=true:=by unfold inR;simp only[and_eq_true,decide_eq_true_eq];omega
 have hc:many.toNat<=100000:=by omega
 simp only[EV,IQ hR,iU,length_map,length_range,hc];rw[lF (λi:Nat=>Val.int (0+(i:Int))) (λi:Nat=>.int (gX two one (0+(i:Int)))) (List.range many.toNat) (λi hi=>by
  simp only[EV,bR,iA,zB])]
 have hpl:∀i:Int,0<=i->i<many->jQ ((List.range many.toNat).map λi:Nat=>Val.int (gX two one (0+(i:Int)))) i=some (.int (gX two one i)):=λi h0 h1=>by
  obtain⟨k,rfl⟩:=eq_ofNat_of_zero_le h0;refine lQ ?_;rw[getElem?_map,List.getElem?_range (by omega)];simp
 generalize ePl:((List.range many.toNat).map λi:Nat=>Val.int (gX two one (0+(i:Int))))=Pl at *;simp only[EV,O0]
 repeat rw[kY]
 have hx:cT 0 (ms.map Val.int)=(cT 0 (ms.map Val.int)).map id:=(map_id _).symm;rw[hx];have hmp:decide (0<many)=true:=by rw[decide_eq_true_eq];omega
 have QI:ic many=true:=by unfold ic;rw[decide_eq_true_eq];omega
 have z3:3<=sizeLine:=by decide
 have z2:2<=sizeLine:=by decide
 refine bC id (λr:Pr FV=>∃p q ts,r=.ok (true,cX p q ts)/\aJ p q ts/\ts.length=ms.length)
  (λdone env=>∃(ts:List T3) (m6:Mk) (a b c d:Option (Mk×Val)),env=[some (.sh,.rl (ns.map .int)),some (.sh,.rl (ms.map .int)),some (.sh,.int one),some (.sh,.int two),some (.sh,.int pick),some (.sh,.int many),some (m6,.rl Pl),some (.ow,.rl (ts.map dN)),a,b,c,d,none]/\qV m6=true/\ts.length=done.length/\yg one two ts)
  ⟨[],_,none,none,none,none,rfl,by first|rfl|exact zj,rfl,⟨λi h=>by simp at h,λ_ h=>by simp at h⟩⟩ ?_ ?_
 ·rintro pre x post env hx ⟨ts,m6,a,b,c,d,rfl,h6,hl,ok⟩
  have aaa:pre.length<14:=by have:=congrArg length hx;rw[kJ,length_map,length_append,length_cons] at this;omega
  obtain⟨cell,rfl⟩:=qF _ _ _ _ _ hx;rw[Nat.zero_add];have i1:=hpl (cell%many) (emod_nonneg _ (by omega)) (emod_lt_of_pos _ (by omega));have i2:=hpl (cell/many%many) (emod_nonneg _ (by omega)) (emod_lt_of_pos _ (by omega));generalize gX two one (cell%many)=n1 at *;generalize gX two one (cell/many%many)=n2 at *;have e3:=zB one two (pre.length:Int);have z:ts.length<sizeLine:=by rw[hl];unfold sizeLine;omega
  have tt:Val.tup [.int (gX one two (pre.length:Int)),.int (if n2<n1 then n2 else n1),.int (if n2>n1 then n2 else n1)]=dN (turnT (gX one two (pre.length:Int),n1,n2)):=rfl;refine⟨_,?_,ts++[turnT (gX one two (pre.length:Int),n1,n2)],m6,some (.sh,.int pre.length),some (.sh,.int cell),some (.sh,.int n1),some (.sh,.int n2),rfl,h6,by simp[hl],⟨λi hi=>?_,λt ht=>?_⟩⟩
  ·simp only[EV,id,LI,h6,gb hmp,gn QI,j9 i1,j9 i2,iA,e3,z3,tt,length_map,z,map_append]
  ·rw[List.getElem_append]
   split
   ·exact ok.name i (by assumption)
   ·simp only[length_append,length_cons,length_nil] at hi
    have:i=pre.length:=by omega
    subst this;simp[hl,turnT]
  ·rcases mem_append.mp ht with ht|ht
   ·exact ok.ends t ht
   ·rw[mem_singleton] at ht;subst ht;unfold turnT;dsimp only;split<;>split<;>omega
 ·rintro env ⟨ts,m6,a,b,c,d,rfl,h6,hl,ok⟩
  have P9:ts.length<=14:=by rw[hl,kJ,length_map];exact hm
  have j0:=hpl 0 (by omega) (by omega);have j1:jQ Pl (1-(if pick/7%8=3 then 1 else 0))=some (.int (gX two one (1-(if pick/7%8=3 then 1 else 0)))):=hpl _ (by split<;>omega) (by split<;>omega);obtain⟨x,y,es,hxy⟩:=P7 (gX two one 0) (gX two one (1-(if pick/7%8=3 then 1 else 0)));generalize gX two one (1-(if pick/7%8=3 then 1 else 0))=n1 at *;have esV:iJ .sorted [.rl [.int (gX two one 0),.int n1]]=.ok (true,.rl [.int x,.int y]):=by refine DU ?_;show (if 2<64 then some ((PySem.W.sortI [gX two one 0,n1]).map Val.int) else none)=_;rw[if_pos (by decide),es];rfl
  have eI:∀b:Bool,iJ .int [.bl b]=.ok (true,.int (if b=true then 1 else 0)):=λ_=>rfl;have dI:(if decide (pick/7%8=3)=true then (1:Int) else 0)=if pick/7%8=3 then 1 else 0:=by
   by_cases c:pick/7%8=3<;>simp[c]
  refine⟨x,y,jH ts,?_,⟨hxy,?_,?_,?_,?_⟩,?_⟩
  ·simp only[EV,h6,j9 j0,gn (show ic 7=true by decide),gb (show decide ((0:Int)<8)=true by decide),eI,dI,j9 j1,z2,esV,j9 CW,j9 AL,vP (show ts.length<64 by omega)];rfl
  ·rw[(fL ts).length_eq];exact P9
  ·exact vQ ts (ok.nodup P9)
  ·exact λt ht=>ok.ends t ((fL ts).mem_iff.mp ht)
  ·intro t ht;obtain⟨i,hi,rfl⟩:=getElem_of_mem ((fL ts).mem_iff.mp ht);rw[ok.name i hi];exact Hi _ _ _
  ·rw[(fL ts).length_eq,hl,kJ,length_map]
end K26
end
section
open PySem L2 Hv
namespace K26
noncomputable def WA(t:T3):Int×Int:=(t.2.1,t.2.2)
noncomputable def jL(p q:Int)(ts:List T3):List Int:=p::q::ts.flatMap λt=>[t.2.1,t.2.2]
noncomputable def nL(p q:Int)(ts:List T3):List Int:=e8 (jL p q ts)
theorem nM(p q:Int)(ts:List T3):(jL p q ts).length=2+2*ts.length:=by
 unfold jL
 induction ts with
 | nil=>rfl
 | cons t r ih=>simp only[List.flatMap_cons,length_cons,length_append,length_nil] at *;omega
theorem wm:∀(ns ks:List Int),(eL ks ns).length<=ks.length+ns.length
 | [],ks=>Nat.le_refl _
 | k::r,ks=>by
  rw[eL,length_cons];have:=wm r (e7 ks k);have:=pL ks k;omega
theorem Hj{p q:Int}(h:ts.length<=14):(nL p q ts).length<64:=by
 unfold nL e8;rw[(sortI_perm _).length_eq];have:=wm (jL p q ts) [];rw[nM] at this;simp only[length_nil] at this;omega
theorem oU{p q x:Int}:x∈nL p q ts↔x=p\/x=q\/∃t∈ts,x=t.2.1\/x=t.2.2:=by
 unfold nL;rw[Df];unfold jL;simp only[mem_cons,List.mem_flatMap,not_mem_nil,or_false]
theorem places_eq{p q:Int}(h:ts.length<=14):cE [cX p q ts]=.ok (true,.rl ((nL p q ts).map .int)):=by
 unfold cE fc cX;simp only[EV,mD CW,mD AL,e9];rw[kY];refine bC dN (λr:Pr FV=>r=.ok (true,.rl ((nL p q ts).map .int)))
  (λdone env=>∃a,env=[some (.sh,cX p q ts),some (.ow,.rl ((jL p q done).map .int)),a])
  ⟨none,rfl⟩ ?_ ?_
 ·rintro pre t post env hx ⟨a,rfl⟩
  refine⟨[some (.sh,cX p q ts),some (.ow,.rl ((jL p q (pre++[t])).map .int)),some (.sh,dN t)],?_,_,rfl⟩;have hpl:pre.length<14:=by have:=congrArg length hx;rw[length_append,length_cons] at this;omega
  have z:((jL p q pre).map Val.int).length+2<=sizeLine:=by rw[length_map,nM];unfold sizeLine;omega
  have ea:(jL p q (pre++[t])).map Val.int=(jL p q pre).map Val.int++[.int t.2.1,.int t.2.2]:=by unfold jL;simp
  simp only[EV,bR,LJ,z,ea]
 ·rintro env ⟨a,rfl⟩
  have hl:(jL p q ts).length<64:=by rw[nM];omega
  simp only[EV,ints_map,hl];rfl
end K26
end
section
open PySem L2 Hv
namespace K26
noncomputable def lq(e:Int×Int):Val:=.tup [.int e.1,.int e.2]
theorem Hl{i j:Nat}:cA (.tup [i,j]) (lq e) env=some ((env.set i (some (.sh,.int e.1))).set j (some (.sh,.int e.2))):=rfl
theorem AY(ps:List Int)(hn:ps.Nodup)(hl:ps.length<64)(es:List (Int×Int))(he:∀e∈es,e.1∈ps/\e.2∈ps):∃f φ,eF [.rl (ps.map .int),.rl (es.map lq)]=.ok (f,kZ ps λx=>.int (φ x))/\jR ps es φ:=by
 unfold eF ff;simp only[EV,e9];rw[kY];have hz:∀pre:List Int,pre.length<=ps.length->(pre.map (Sum.inl:Int->Key)).length<sizeLine:=λpre h=>by rw[length_map];unfold sizeLine;omega
 refine bC Val.int (λr:Pr FV=>∃f φ,r=.ok (f,kZ ps λx=>.int (φ x))/\jR ps es φ)
  (λdone env=>∃a,env=[some (.sh,.rl (ps.map .int)),some (.sh,.rl (es.map lq)),some (.ow,kZ done λx=>.int x),a,none,none,none,none])
  ⟨none,rfl⟩ ?_ ?_
 ·rintro pre x post env hx ⟨a,rfl⟩
  have U0:x∉pre:=by rw[hx,nodup_append] at hn;exact λh=>hn.2.2 x h x (by simp) rfl
  refine⟨[some (.sh,.rl (ps.map .int)),some (.sh,.rl (es.map lq)),some (.ow,kZ (pre++[x]) λx=>.int x),some (.sh,.int x),none,none,none,none],?_,_,rfl⟩;simp only[EV,bR,ql,hz pre (by rw[hx];simp),ua U0];rw[cP (g':=λx=>Val.int x)];intro y _;unfold nE
  split
  ·rename_i e;rw[e]
  ·rfl
 ·rintro env ⟨a,rfl⟩
  simp only[EV,e9];rw[kY];refine bC lq (λr:Pr FV=>∃f φ,r=.ok (f,kZ ps λx=>.int (φ x))/\jR ps es φ)
   (λdone env=>∃(φ:Int->Int) (a b c d e:Option (Mk×Val)),env=[some (.sh,.rl (ps.map .int)),some (.sh,.rl (es.map lq)),some (.ow,kZ ps λx=>.int (φ x)),a,b,c,d,e]/\jR ps done φ)
   ⟨id,_,_,_,_,_,rfl,jR.start ps⟩ ?_ ?_
  ·rintro pre e post env hx ⟨φ,a,b,c,d,f,rfl,GS⟩
   obtain⟨h1,h2⟩:=he e (by rw[hx];simp);simp only[EV,Hl,nF h1,nF h2,e9];have hk:∃kept gone:Int,(if φ e.2 < φ e.1 then φ e.2 else φ e.1)=kept/\(if φ e.2 > φ e.1 then φ e.2 else φ e.1)=gone/\((kept = φ e.1/\gone = φ e.2)\/(kept = φ e.2/\gone = φ e.1)):=by
    refine⟨_,_,rfl,rfl,?_⟩
    split<;>split<;>omega
   obtain⟨kept,gone,ek,eg,hk⟩:=hk;rw[ek,eg];refine bC Val.int (λr:Pr wJ=>∃env',r=.ok (.nx env')/\∃(φ:Int->Int) (a b c d f:Option (Mk×Val)),env'=[some (.sh,.rl (ps.map .int)),some (.sh,.rl (es.map lq)),some (.ow,kZ ps λx=>.int (φ x)),a,b,c,d,f]/\jR ps (pre++[e]) φ)
    (λdone env=>∃a,env=[some (.sh,.rl (ps.map .int)),some (.sh,.rl (es.map lq)),some (.ow,kZ ps λx=>.int (if x∈done /\ φ x=gone then kept else φ x)),a,some (.sh,.int e.1),some (.sh,.int e.2),some (.sh,.int kept),some (.sh,.int gone)])
    ⟨a,by simp⟩ ?_ ?_
   ·rintro done x post env hy ⟨a,rfl⟩
    have U0:x∉done:=by rw[hy,nodup_append] at hn;exact λh=>hn.2.2 x h x (by simp) rfl
    have hxs:x∈ps:=by rw[hy];simp
    refine⟨_,?_,some (.sh,.int x),rfl⟩;simp only[EV,bR,nF hxs,ql,hz ps (Nat.le_refl _),t9 hxs,U0,false_and,if_false]
    by_cases hg:φ x=gone
    ·simp only[hg,↓reduceIte]
     rw[cP];intro y _;unfold nE
     by_cases e:y=x
     ·subst e;simp[hg]
     ·simp[e]
    ·simp only[hg,↓reduceIte]
     rw[cP];intro y _
     by_cases e:y=x
     ·subst e;simp[hg]
     ·simp[e]
   ·rintro env ⟨a,rfl⟩;refine⟨_,rfl,(λx=>if φ x=gone then kept else φ x),a,some (.sh,.int e.1),some (.sh,.int e.2),some (.sh,.int kept),some (.sh,.int gone),?_,GS.step h1 h2 kept gone hk⟩;rw[cP];intro y hy;simp[hy]
  ·rintro env ⟨φ,a,b,c,d,e,rfl,GS⟩;simp only[EV,bT];exact⟨_,φ,rfl,GS⟩
end K26
end
section
open PySem L2 Hv
namespace K26
theorem order_eq{p q:Int}{us:List T3}(hl:us.length<=16):dg [.tup [.int p,.int q],.rl (us.map dN)]=.ok (true,cX (if q<p then q else p) (if q>p then q else p) (jH (us.map turnT))):=by
 unfold dg cK;have z0:0<=sizeLine:=by decide
 have z2:2<=sizeLine:=by decide
 have z3:3<=sizeLine:=by decide
 simp only[EV,e9];rw[kY];refine bC dN (λr:Pr FV=>r=.ok (true,cX (if q<p then q else p) (if q>p then q else p) (jH (us.map turnT))))
  (λdone env=>∃a b c,env=[some (.sh,.tup [.int p,.int q]),some (.sh,.rl (us.map dN)),some (.ow,.rl ((done.map turnT).map dN)),a,b,c])
  ⟨none,none,none,rfl⟩ ?_ ?_
 ·rintro pre t post env hx ⟨a,b,c,rfl⟩
  have hpl:pre.length<16:=by have:=congrArg length hx;rw[length_append,length_cons] at this;omega
  have z:((pre.map turnT).map dN).length<sizeLine:=by rw[length_map,length_map];unfold sizeLine;omega
  refine⟨[some (.sh,.tup [.int p,.int q]),some (.sh,.rl (us.map dN)),some (.ow,.rl (((pre++[t]).map turnT).map dN)),some (.sh,.int t.1),some (.sh,.int t.2.1),some (.sh,.int t.2.2)],?_,_,_,_,rfl⟩;have ea:((pre++[t]).map turnT).map dN=(pre.map turnT).map dN++[dN (turnT t)]:=by simp
  simp only[EV,GO,z3,z,ea];rfl
 ·rintro env ⟨a,b,c,rfl⟩;simp only[EV,mD CW,mD AL,z2,vP (show (us.map turnT).length<64 by rw[length_map];omega)];rfl
theorem AZ{p q:Int}(hl:us.length<=16):dw [cX p q us]=.ok (true,cX (if q<p then q else p) (if q>p then q else p) (jH (us.map turnT))):=by
 have e:=order_eq (p:=p) (q:=q) hl;unfold dw gS;unfold cX at e |-;simp only[EV,jh,mD CW,mD AL,e]
end K26
end
section
open PySem L2 Hv
namespace K26
noncomputable def nameV(t:T3):Val:=.int t.1
theorem Ho(h:t.2.1<=t.2.2):turnT t=t:=by
 obtain⟨a,b,c⟩:=t;unfold turnT;dsimp only at h |-;rw[Prod.mk.injEq,Prod.mk.injEq];refine⟨rfl,?_,?_⟩<;>split<;>omega
theorem Hq:∀{l:List T3},(∀y∈l,x.1<y.1)->qo x l=x::l
 | [],_=>rfl
 | y::r,h=>by
  rw[qo];have lx:HT.lexLt (l3 y) (l3 x)=decide (y.1<x.1):=by show HT.lexLt (y.1::_) (x.1::_)=_;have:=h y mem_cons_self;rw[HT.fB,if_neg (by omega)]
  have:=h y mem_cons_self;rw[lx,if_neg (by simp;omega)]
theorem wo:∀{l:List T3},Dg l->jH l=l
 | [],_=>rfl
 | x::r,h=>by
  unfold Dg at h;rw[pairwise_cons] at h;rw[jH,wo h.2,Hq h.1]
theorem Mg{p q:Int}(ok:aJ p q ts):dw [cX p q ts]=.ok (true,cX p q ts):=by
 have e:=AZ (p:=p) (q:=q) (us:=ts) (le_trans ok.len (by decide));have em:ts.map turnT=ts:=by rw[map_congr_left λt ht=>Ho (ok.ends t ht)];exact map_id _
 have ep:(if q<p then q else p)=p:=by have:=ok.ord;split<;>omega
 have eq:(if q>p then q else p)=q:=by have:=ok.ord;split<;>omega
 rw[em,wo ok.up,ep,eq] at e;exact e
theorem DV:∀ts:List T3,cD Es (ts.map dN)=some ts
 | []=>rfl
 | t::r=>by rw[map_cons,cD,show Es (dN t)=some t from rfl,bind_some,DV r];rfl
noncomputable def kB(c:Nat)(p q:Int)(ts:List T3):Val:=.ob c ["net","places","ends"] [cX p q ts,.rl ((nL p q ts).map .int),.dc ((bS p q ts).map (·.1)) ((bS p q ts).map (·.2))]
noncomputable def gY(c:Nat)(p q:Int)(ts:List T3)(w:Int):Val:=.ob c ["net","places","ends","whole"] [cX p q ts,.rl ((nL p q ts).map .int),.dc ((bS p q ts).map (·.1)) ((bS p q ts).map (·.2)),.int w]
theorem wu{c jo jp:Nat}{p q:Int}(h1:Ψ jo=dw)(h2:Ψ jp=cE)(ok:aJ p q ts):k7 Ψ c jo jp [cX p q ts]=.ok (true,kB c p q ts):=by
 have e1:=Mg ok;have e2:=places_eq (p:=p) (q:=q) ok.len;unfold k7;dsimp only;rw[h1,e1];unfold cX at e2 |-;dsimp only;rw[DV,gB,bT,h2];unfold pg;rw[if_pos (decide_eq_true (by have:=ok.len;omega)),e2];rfl
noncomputable def nms(ts:List T3):List Int:=-1::ts.map (·.1)
theorem yh(h:a.length+b.length<=sizeLine):j3 .add (.rl a) (.rl b)=.ok (bw (a++b),.rl (a++b)):=by
 show pg _ _=_;unfold pg;rw[if_pos (decide_eq_true h)]
theorem DW{c:Nat}{p q:Int}{ts:List T3}{m:Str}{js:List (Nat×Nat)}{j:Nat}(hj:js.lookup c=some j)(h:m ≠ "net" /\ m ≠ "places" /\ m ≠ "ends" /\ m ≠ "whole"):kO [] (kB c p q ts) m js=some j:=by
 unfold kB kO;dsimp only;have e:∀vs:List Val,vs.length=3->((["net","places","ends"]:List Str).zip vs).lookup m=none:=λvs hv=>by
  match vs,hv with
  | [a,b,c],_ =>rw[zip_cons_cons,lookup_cons,beq_false_of_ne h.1,zip_cons_cons,lookup_cons,beq_false_of_ne h.2.1,zip_cons_cons,lookup_cons,beq_false_of_ne h.2.2.1];rfl
 rw[e _ rfl];exact hj
theorem qG{c:Nat}{p q w:Int}{ts:List T3}{m:Str}{js:List (Nat×Nat)}{j:Nat}(hj:js.lookup c=some j)(h:m ≠ "net" /\ m ≠ "places" /\ m ≠ "ends" /\ m ≠ "whole"):kO [] (gY c p q ts w) m js=some j:=by
 unfold gY kO;dsimp only;have e:∀vs:List Val,vs.length=4->((["net","places","ends","whole"]:List Str).zip vs).lookup m=none:=λvs hv=>by
  match vs,hv with
  | [a,b,c,d],_ =>rw[zip_cons_cons,lookup_cons,beq_false_of_ne h.1,zip_cons_cons,lookup_cons,beq_false_of_ne h.2.1,zip_cons_cons,lookup_cons,beq_false_of_ne h.2.2.1,zip_cons_cons,lookup_cons,beq_false_of_ne h.2.2.2];rfl
 rw[e _ rfl];exact hj
theorem A8{c:Nat}(hc:c<2){p q w:Int}:iE 2 [] (gY c p q ts w) "whole" = some (.int w):=by
 unfold gY iE;dsimp only;rw[if_pos hc];rfl
theorem gk(l:List Int):bw (l.map Val.int)=true:=bJ l
theorem DX{p q:Int}(ok:aJ p q ts):PySem.W.sortI (nms ts)=nms ts:=by
 refine(eq_sortI (List.Perm.refl _) ?_).symm;unfold nms;rw[pairwise_cons];refine⟨λx hx=>?_,?_⟩
 ·obtain⟨t,ht,rfl⟩:=mem_map.mp hx;have:=ok.names t ht;omega
 ·rw[pairwise_map];have:=ok.up;unfold Dg at this;exact this.imp λh=>by omega
theorem nO{p q:Int}(ok:aJ p q ts):(nms ts).Nodup:=by
 unfold nms;rw[nodup_cons];refine⟨λh=>?_,?_⟩
 ·obtain⟨t,ht,e⟩:=mem_map.mp h;have:=ok.names t ht;omega
 ·have:=ok.up;unfold Dg at this;rw[List.Nodup,pairwise_map];exact this.imp λh=>by omega
theorem tyi(t:Int):iJ (.isin "int") [.int t]=.ok (true,.bl true):=AM (t:="int") rfl (by decide)
theorem aab(t:Int):iJ (.isin "bool") [.int t]=.ok (true,.bl false):=x8 (t:="int") rfl (by decide)
theorem Hr(l:List Int):cop [] .ne (.rl (l.map .int)) (.rl (l.map .int))=some false:=by
 refine ne_self (t7 Val.int PyData.int l λ_ _=>rfl) ?_;rw[PyData.canLay0];exact qk _ _ λt _=>by rw[PyData.canLay0]
noncomputable def qH:List Int->Int->List Int
 | [],_=>[]
 | x::r,c=>if c%2=1 then x::qH r (c/2) else qH r (c/2)
theorem qI:∀(ns:List Int) (c:Int),(qH ns c).Sublist ns
 | [],_=>.slnil
 | x::r,c=>by
  rw[qH]
  split
  ·exact(qI r _).cons_cons x
  ·exact(qI r _).cons x
theorem Mh(ns:List Int)(c:Int)(h:ns.length<64):mO [.rl (ns.map .int),.int c]=.ok (true,.rl ((qH ns c).map .int)):=by
 unfold mO ki;simp only[EV,e9,show 0<=sizeLine by decide]
 repeat rw[kY]
 refine bC Val.int (λr:Pr FV=>r=.ok (true,.rl ((qH ns c).map .int)))
  (λdone env=>∃(l:List Int) (c':Int) (a:Option (Mk×Val)),env=[some (.sh,.rl (ns.map .int)),some (.sh,.int c'),some (.ow,.rl (l.map .int)),a]/\qH ns c=l++qH (ns.drop done.length) c'/\l.length<=done.length)
  ⟨[],c,none,rfl,rfl,Nat.le_refl _⟩ ?_ ?_
 ·rintro pre x post env hx ⟨l,c',a,rfl,hl,hle⟩
  have hd:ns.drop pre.length=x::post:=by rw[hx];simp
  have hd2:ns.drop (pre++[x]).length=post:=by rw[hx];simp
  have hpl:pre.length<64:=by have:=congrArg length hx;rw[length_append,length_cons] at this;omega
  have z:(l.map Val.int).length<sizeLine:=by rw[length_map];unfold sizeLine;omega
  rw[hd,qH] at hl;simp only[EV,bR,gb (show decide ((0:Int)<2)=true by decide),gn (show ic 2=true by decide)]
  by_cases e:c'%2=1
  ·rw[if_pos e] at hl;refine⟨_,?_,l++[x],c'/2,some (.sh,.int x),rfl,by rw[hd2,hl];simp,by simp;omega⟩;simp only[EV,e,decide_true,z,map_append,gn (show ic 2=true by decide)]
  ·rw[if_neg e] at hl;refine⟨_,?_,l,c'/2,some (.sh,.int x),rfl,by rw[hd2,hl],by simp;omega⟩;simp only[EV,e,decide_false,gn (show ic 2=true by decide)]
 ·rintro env ⟨l,c',a,rfl,hl,hle⟩;rw[List.drop_length,qH,append_nil] at hl;simp only[EV,hl,gk]
noncomputable def bx(p q:Int)(ts:List T3)(x:Int):Int×Int:=match ts.find? (λt=>decide (t.1=x)) with
 | some t=>(t.2.1,t.2.2)
 | none=>(p,q)
theorem DY:∀{ts:List T3},(ts.map (·.1)).Nodup->t∈ts->ts.find? (λu=>decide (u.1=t.1))=some t
 | u::r,hn,ht=>by
  rw[map_cons,nodup_cons] at hn;rw[find?_cons]
  by_cases e:u.1=t.1
  ·rw[decide_eq_true e]
   rcases mem_cons.mp ht with rfl|ht
   ·rfl
   ·exact absurd (e▸mem_map_of_mem (f:=(·.1)) ht) hn.1
  ·rw[decide_eq_false e]
   rcases mem_cons.mp ht with rfl|ht
   ·exact absurd rfl e
   ·exact DY hn.2 ht
theorem qJ{p q:Int}(ok:aJ p q ts):(ts.map (·.1)).Nodup:=(nodup_cons.mp (nO ok)).2
theorem yi{p q:Int}(ok:aJ p q ts)(ht:t∈ts):bx p q ts t.1=(t.2.1,t.2.2):=by
 unfold bx;rw[DY (qJ ok) ht]
theorem yj{p q:Int}(ok:aJ p q ts):bx p q ts (-1)=(p,q):=by
 unfold bx;rw[List.find?_eq_none.mpr λt ht=>by have:=ok.names t ht;simp;omega]
theorem oV{p q:Int}(ok:aJ p q ts){x:Int}(hx:x∈nms ts):(bx p q ts x).1∈nL p q ts/\(bx p q ts x).2∈nL p q ts:=by
 unfold nms at hx
 rcases mem_cons.mp hx with rfl|hx
 ·rw[yj ok];exact⟨oU.mpr (.inl rfl),oU.mpr (.inr (.inl rfl))⟩
 ·obtain⟨t,ht,rfl⟩:=mem_map.mp hx;rw[yi ok ht];exact⟨oU.mpr (.inr (.inr ⟨t,ht,.inl rfl⟩)),oU.mpr (.inr (.inr ⟨t,ht,.inr rfl⟩))⟩
theorem zC(g:Int->Val):∀(us:List T3) (ks:List Int),(∀u∈us,u.1∉ks)->(us.map (·.1)).Nodup->(∀u∈us,g u.1=.tup [.int u.2.1,.int u.2.2]) ->
  us.foldl jb (ks.map λx=>((Sum.inl x:Key),g x))=(ks++us.map (·.1)).map λx=>((Sum.inl x:Key),g x)
 | [],ks,_,_,_=>by simp
 | u::r,ks,h1,h2,h3=>by
  rw[map_cons,nodup_cons] at h2;have e:jb (ks.map λx=>((Sum.inl x:Key),g x)) u=(ks++[u.1]).map λx=>((Sum.inl x:Key),g x):=by unfold jb gI;rw[ya,if_neg (by simpa using h1 u mem_cons_self),map_append,map_cons,map_nil,h3 u mem_cons_self]
  rw[List.foldl_cons,e,zC g r (ks++[u.1]) (λv hv z=>?_) h2.2 λv hv=>h3 v (mem_cons_of_mem _ hv)]
  ·simp
  ·rcases mem_append.mp z with z|z
   ·exact h1 v (mem_cons_of_mem _ hv) z
   ·rw[mem_singleton] at z;exact h2.1 (z▸mem_map_of_mem (f:=(·.1)) hv)
noncomputable def jB(p q:Int)(ts:List T3)(x:Int):Val:=lq (bx p q ts x)
noncomputable def lI(p q:Int)(ts:List T3):Val:=kZ (nms ts) (jB p q ts)
theorem zE{p q:Int}(ok:aJ p q ts):Val.dc ((bS p q ts).map (·.1)) ((bS p q ts).map (·.2))=lI p q ts:=by
 have e:bS p q ts=(nms ts).map λx=>((Sum.inl x:Key),jB p q ts x):=by
  have h:=zC (jB p q ts) ts [-1] (λu hu z=>by
   rw[mem_singleton] at z;have:=ok.names u hu;omega) (qJ ok) λu hu=>by unfold jB;rw[yi ok hu];rfl
  unfold bS nms;rw[map_cons,map_nil] at h;have e1:jB p q ts (-1)=.tup [.int p,.int q]:=by unfold jB;rw[yj ok];rfl
  rw[e1] at h;exact h
 rw[e,map_map,map_map];rfl
structure DZ (o:Val) (p q:Int) (ts:List T3):Prop where
 net:iE 2 [] o "net" = some (cX p q ts)
 places:iE 2 [] o "places" = some (.rl ((nL p q ts).map .int))
 ends:iE 2 [] o "ends" = some (lI p q ts)
theorem uo{c:Nat}(hc:c<2){p q:Int}(ok:aJ p q ts):DZ (kB c p q ts) p q ts:=by
 refine⟨?_,?_,?_⟩
 ·unfold kB iE;dsimp only;rw[if_pos hc];rfl
 ·unfold kB iE;dsimp only;rw[if_pos hc];rfl
 ·rw[<-zE ok];unfold kB iE;dsimp only;rw[if_pos hc];rfl
theorem uq{c:Nat}(hc:c<2){p q w:Int}(ok:aJ p q ts):DZ (gY c p q ts w) p q ts:=by
 refine⟨?_,?_,?_⟩
 ·unfold gY iE;dsimp only;rw[if_pos hc];rfl
 ·unfold gY iE;dsimp only;rw[if_pos hc];rfl
 ·rw[<-zE ok];unfold gY iE;dsimp only;rw[if_pos hc];rfl
theorem D3{p q:Int}(h:ts.length<=14):gU [cX p q ts]=.ok (true,.rl (ts.map nameV)):=by
 unfold gU gf cX;have hc:ts.length<=100000:=by omega
 simp only[EV,mD AL,e9,iU,length_map,hc];rw[lF dN nameV ts (λt ht=>by
  have i0:ni [] (dN t) (.int 0)=some (.int t.1):=rfl;simp only[EV,bR,i0,nameV])]
 simp only[EV,bT]
theorem ur{p q:Int}(ro:DZ o p q ts)(h:ts.length<=14):cF [o]=.ok (true,.rl ((nms ts).map .int)):=by
 have e1:=D3 (p:=p) (q:=q) h;unfold cF fh;have z1:1<=sizeLine:=by decide
 have z:([.int (-1)]:List Val).length+(ts.map nameV).length<=sizeLine:=by rw[length_map];simp;unfold sizeLine;omega
 simp only[EV,ro.net,jN,e1,z1,yh z];have em:[Val.int (-1)]++ts.map nameV=(nms ts).map .int:=by unfold nms;rw[map_cons,map_map];rfl
 have en:bw (ts.map nameV)=true:=by rw[show ts.map nameV=(ts.map (·.1)).map Val.int by rw[map_map];rfl];exact gk _
 rw[show Val.int (-1)::ts.map nameV=(nms ts).map .int from em,en]
theorem Qa(e:Int×Int):jw (lq e)=true:=rfl
theorem qK(p q:Int)(ts:List T3)(x:Int):jw (jB p q ts x)=true:=rfl
theorem D4{p q:Int}{x:Int}:ni [] (jB p q ts x) (.int 0)=some (.int (bx p q ts x).1):=rfl
theorem D5{p q:Int}{x:Int}:ni [] (jB p q ts x) (.int 1)=some (.int (bx p q ts x).2):=rfl
theorem uu{p q:Int}{x:Int}(h:x∈nms ts):ni [] (lI p q ts) (.int x)=some (jB p q ts x):=nF h
theorem D6(p q:Int)(ts:List T3):∀l:List Int,bw (l.map (jB p q ts))=true
 | []=>rfl
 | x::r=>by rw[map_cons,bw,D6 p q ts r];rfl
theorem gE{p q:Int}(ok:aJ p q ts):(nms ts).length<=15:=by
 have:=ok.len;unfold nms;simp;omega
noncomputable def cU(p q:Int)(ts:List T3)(P:List Int):Nat:=tr (nL p q ts) (P.map (bx p q ts))
theorem D7{p q:Int}(ok:aJ p q ts){P:List Int}(hP:∀x∈P,x∈nms ts):MO (nL p q ts) (P.map (bx p q ts)):=λe he=>by
 obtain⟨x,hx,rfl⟩:=mem_map.mp he;exact oV ok (hP x hx)
theorem qL{p q:Int}(ok:aJ p q ts)(ro:DZ o p q ts){P:List Int}(hP:∀x∈P,x∈nms ts)(hl:P.length<=15):aP [o,.rl (P.map .int)]=.ok (true,.int (cU p q ts P)):=by
 have hpl:=Hj (p:=p) (q:=q) ok.len;have Qc:(nL p q ts).Nodup:=fK _;obtain⟨f,φ,ef,GS⟩:=AY (nL p q ts) Qc hpl (P.map (bx p q ts)) (λe he=>by
  obtain⟨x,hx,rfl⟩:=mem_map.mp he;exact oV ok (hP x hx))
 have et:cU p q ts P=rk φ (nL p q ts):=mF GS Qc;rw[et];rw[map_map] at ef;unfold aP bX;have hc:P.length<=100000:=by omega
 have hc2:(nL p q ts).length<=100000:=by omega
 simp only[EV,ro.places,ro.ends,e9,iU,length_map,hc];rw[lF Val.int (jB p q ts) P (λx hx=>by
  simp only[EV,bR,ro.ends,uu (hP x hx),qK])]
 have ef':eF [.rl ((nL p q ts).map .int),.rl (P.map (jB p q ts))]=.ok (f,kZ (nL p q ts) λx=>.int (φ x)):=ef;simp only[EV,gC,ef',ro.places,e9,iU,length_map,hc2];rw[fM Val.int Val.int (λx=>!decide (φ x=x)) (nL p q ts) (λx hx=>by
  have hi:=nF (g:=λx=>Val.int (φ x)) hx;simp only[EV,bR,hi]
  by_cases c:φ x=x
  ·simp[c]
  ·simp[c])]
 simp only[EV,length_map];rfl
theorem Ht:∀us:List T3,bw (us.map dN)=true
 | []=>rfl
 | u::r=>by rw[map_cons,bw,Ht r];rfl
theorem D8{c jo jp jt jr:Nat}(hc:c<2){p q:Int}(h1:Ψ' jo=dw)(h2:Ψ' jp=cE)(h3:Ψ jt=cF)(h4:Ψ jr=aP)(ok:aJ p q ts) :
  sI Ψ' Ψ c jo jp jt jr [cX p q ts]=.ok (true,gY c p q ts (cU p q ts (nms ts))):=by
 have e3:=ur (uo hc ok) ok.len;have e1:=qL ok (uo hc ok) (P:=nms ts) (λ_ h=>h) (gE ok);rw[<-h3] at e3;rw[<-h4] at e1;exact Dl (wu h1 h2 ok) e3 e1
noncomputable def others(ts:List T3)(P:List Int):List Int:=(nms ts).filter λx=>!decide (x∈P)
theorem gq{P:List Int}:∀x∈others ts P,x∈nms ts:=λx hx=>(mem_filter.mp hx).1
theorem oW{p q:Int}(ok:aJ p q ts){P:List Int}:(others ts P).length<=15:=le_trans (List.length_filter_le _ _) (gE ok)
theorem D9{c:Nat}(hc:c<2)(jt:([(0,12),(1,12)]:List (Nat×Nat)).lookup c=some 12)(jr:([(0,10),(1,10)]:List (Nat×Nat)).lookup c=some 10){p q w:Int}(ok:aJ p q ts){P:List Int}:bZ [gY c p q ts w,.rl (P.map .int)]=.ok (true,.int ((P.length:Int)-w+cU p q ts (others ts P))):=by
 have e1:=qL ok (uq (w:=w) hc ok) (P:=others ts P) gq (oW ok);have e3:=ur (uq (w:=w) hc ok) ok.len;have hl:(nms ts).length<=100000:=by have:=gE ok;omega
 have m1:=qG (p:=p) (q:=q) (w:=w) (ts:=ts) (m:="ties") jt (by decide);have m2:=qG (p:=p) (q:=q) (w:=w) (ts:=ts) (m:="tree_rank") jr (by decide);unfold bZ cZ;simp only[EV,m1,iP,e3,e9,iU,length_map,hl];rw[fM Val.int Val.int (λx=>!decide (x∈P)) (nms ts) (λx hx=>by
  simp only[EV,bR,De]
  by_cases c:x∈P
  ·simp[c]
  ·simp[c])]
 have Vq:aP [gY c p q ts w,.rl (((nms ts).filter λx=>!decide (x∈P)).map .int)]=.ok (true,.int (cU p q ts (others ts P))):=e1;simp only[EV,m2,gj,Vq,A8 hc,length_map]
theorem sO:∀ks:List Int,aT (ks.map Val.int)=some ks
 | []=>rfl
 | k::r=>by
  have:=sO r;unfold aT at this |-;rw[map_cons,cD,this];rfl
theorem QJ{ks ms:List Int}(h:ks.length<=100000):HU [] (ks.map Sum.inl) (.rl (ms.map .int))=some (ks.filter λx=>!decide (x∈ms)):=by
 unfold HU;rw[qw,bind_some,show aD [] (.rl (ms.map .int))=some (ms.map .int) from rfl,bind_some,sO,bind_some,if_pos h]
 congr 1
 refine filter_congr λx _=>?_
 congr 1
 rw[Bool.eq_iff_iff,List.any_eq_true,decide_eq_true_eq];constructor
 ·rintro⟨m,hm,e⟩;rw[<-eq_of_beq e];exact hm
 ·exact λhm=>⟨x,hm,beq_self_eq_true _⟩
end K26
end
section
open PySem L2 Hv
namespace K26
theorem wz{p q:Int}(ok:aJ p q ts):kr [cX p q ts]=.ok (true,lI p q ts):=by
 have hl:=ok.len;unfold kr jf cX;have em:jB p q ts (-1)=.tup [.int p,.int q]:=by unfold jB;rw[yj ok];rfl
 simp only[EV,mD CW,mD AL,ql,e9,show (-(1:Int)) = -1 from rfl]
 repeat rw[kY]
 refine bC dN (λr:Pr FV=>r=.ok (true,lI p q ts))
  (λdone env=>∃a b c,env=[some (.sh,.tup [.tup [.int p,.int q],.rl (ts.map dN)]),some (.ow,kZ (nms done) (jB p q ts)),a,b,c])
  ⟨none,none,none,by unfold nms kZ;rw[map_nil,map_cons,map_cons,em];rfl⟩ ?_ ?_
 ·rintro pre t post env hx ⟨a,b,c,rfl⟩
  have hp:pre.length<=14:=by have:=congrArg length hx;rw[length_append,length_cons] at this;omega
  have hnew:t.1∉nms pre:=λz=>by
   unfold nms at z;have hn:=qJ ok;rw[hx,map_append,map_cons,nodup_append] at hn
   rcases mem_cons.mp z with z|z
   ·have:=ok.names t (by rw[hx];simp);omega
   ·exact hn.2.2 t.1 z t.1 mem_cons_self rfl
  have zz:((nms pre).map (Sum.inl:Int->Key)).length<sizeLine:=by rw[length_map];unfold nms;simp;unfold sizeLine;omega
  have z2:2<=sizeLine:=by decide
  have bt:∀env:aR,cA (.tup [2,3,4]) (dN t) env=some (((env.set 2 (some (.sh,.int t.1))).set 3 (some (.sh,.int t.2.1))).set 4 (some (.sh,.int t.2.2))):=λ_=>rfl;refine⟨_,?_,some (.sh,.int t.1),some (.sh,.int t.2.1),some (.sh,.int t.2.2),rfl⟩;simp only[EV,bt,ql,zz,z2,ua hnew];have eD:kZ (nms pre++[t.1]) (nE (jB p q ts) t.1 (.tup [.int t.2.1,.int t.2.2]))=kZ (nms (pre++[t])) (jB p q ts):=by
   rw[show nms (pre++[t])=nms pre++[t.1] by unfold nms;simp];refine cP λy hy=>?_;unfold nE
   split
   ·rename_i e;rw[e];unfold jB;rw[yi ok (by rw[hx];simp)];rfl
   ·rfl
  rw[eD]
 ·rintro env ⟨a,b,c,rfl⟩;simp only[EV,D6];rfl
theorem Ba{p q:Int}(ok:aJ p q ts){P:List Int}(hP:∀x∈P,x∈nms ts)(hl:P.length<=15):∃(n:Nat) (ψ:Int->Int) (ks:List Int),fO [lI p q ts,.rl (P.map .int)]=.ok (true,.int n)/\AO (nL p q ts) ks (P.map (bx p q ts)) ψ n:=by
 have Qc:(nL p q ts).Nodup:=fK _;unfold fO gg;simp only[EV,e9]
 repeat rw[kY]
 refine bC Val.int (λr:Pr FV=>∃(n:Nat) (ψ:Int->Int) (ks:List Int),r=.ok (true,.int n)/\AO (nL p q ts) ks (P.map (bx p q ts)) ψ n)
  (λdone env=>∃(n:Nat) (ψ:Int->Int) (ks:List Int) (a b c d:Option (Mk×Val)),env=[some (.sh,lI p q ts),some (.sh,.rl (P.map .int)),some (.ow,kZ ks λx=>.int (ψ x)),some (.sh,.int n),a,b,c,d]/\AO (nL p q ts) ks (done.map (bx p q ts)) ψ n)
  ⟨0,id,[],none,none,none,none,rfl,AO.start Qc⟩ ?_ ?_
 ·rintro pre x post env hx ⟨n,ψ,ks,a,b,c,d,rfl,m⟩
  have hxm:x∈P:=by rw[hx];simp
  have hxn:=hP x hxm;obtain⟨h1,h2⟩:=oV ok hxn;have hpre:pre.length<=14:=by have:=congrArg length hx;rw[length_append,length_cons] at this;omega
  have hks:ks.length<=28:=by have:=m.len;rw[length_map] at this;omega
  have gd:∀y:Int,((if y∈ks then some (Val.int (ψ y)) else none).getD (.int y))=.int (ψ y):=λy=>by
   by_cases h:y∈ks
   ·rw[if_pos h];rfl
   ·rw[if_neg h,m.off y h];rfl
  have isd:B8 [] (kZ ks λx=>Val.int (ψ x))=some ():=rfl;simp only[EV,bR,uu hxn,D4,D5,qK,isd,ql,LN,gd];have est:(pre++[x]).map (bx p q ts)=pre.map (bx p q ts)++[((bx p q ts x).1,(bx p q ts x).2)]:=by rw[map_append];rfl
  rw[est]
  by_cases c:ψ (bx p q ts x).1 = ψ (bx p q ts x).2
  ·refine⟨[some (.sh,lI p q ts),some (.sh,.rl (P.map .int)),some (.ow,kZ ks λx=>.int (ψ x)),some (.sh,.int n),some (.sh,.int x),some (.sh,.int (ψ (bx p q ts x).1)),some (.sh,.int (ψ (bx p q ts x).2)),d],?_,n,ψ,ks,_,_,_,_,rfl,m.stay h1 h2 c⟩;simp only[EV,c,not_true,decide_false]
  ·have m2:=m.join h1 h2 c
   generalize Qd:e7 (e7 ks (bx p q ts x).1) (bx p q ts x).2=ks' at m2;have zz:∀l:List Int,l.length<=40->(l.map (Sum.inl:Int->Key)).length<sizeLine:=λl h=>by rw[length_map];unfold sizeLine;omega
   have l1:(e7 ks (bx p q ts x).1).length<=40:=by have:=kc ks (bx p q ts x).1;omega
   have l2:ks'.length<=40:=by have:=kc (e7 ks (bx p q ts x).1) (bx p q ts x).2;rw[Qd] at this;have:=kc ks (bx p q ts x).1;omega
   have pt1:=zu (ks:=ks) (ψ:=ψ) (a:=(bx p q ts x).1);have WB:=zu (ks:=e7 ks (bx p q ts x).1) (ψ:=ψ) (a:=(bx p q ts x).2);rw[Qd] at WB;have ky:r9 [] (kZ ks' λx=>Val.int (ψ x))=some (ks'.map Sum.inl):=rfl;have kv:(ks'.map (Sum.inl:Int->Key)).map B9=ks'.map Val.int:=by rw[map_map];rfl
   simp only[EV,c,not_false_iff,decide_true,uu hxn,D4,D5,qK,ql,zz ks (by omega),zz _ l1,pt1,WB,ky,kv,e9]
   repeat rw[kY]
   refine bC Val.int (λr:Pr wJ=>∃env',r=.ok (.nx env')/\∃(n:Nat) (ψ:Int->Int) (ks:List Int) (a b c d:Option (Mk×Val)),env'=[some (.sh,lI p q ts),some (.sh,.rl (P.map .int)),some (.ow,kZ ks λx=>.int (ψ x)),some (.sh,.int n),a,b,c,d]/\AO (nL p q ts) ks (pre.map (bx p q ts)++[((bx p q ts x).1,(bx p q ts x).2)]) ψ n)
    (λdone env=>∃a,env=[some (.sh,lI p q ts),some (.sh,.rl (P.map .int)),some (.ow,kZ ks' λy=>.int (if y∈done /\ ψ y = ψ (bx p q ts x).2 then ψ (bx p q ts x).1 else ψ y)),some (.sh,.int ((n:Int)+1)),some (.sh,.int x),some (.sh,.int (ψ (bx p q ts x).1)),some (.sh,.int (ψ (bx p q ts x).2)),a])
    ?_ ?_ ?_
   ·exact⟨d,by simp⟩
   ·rintro done y post env hy ⟨a,rfl⟩
    have hn:=m2.nd;have hyp:y∉done:=by rw[hy,nodup_append] at hn;exact λh=>hn.2.2 y h y (by simp) rfl
    have hys:y∈ks':=by rw[hy];simp
    refine⟨_,?_,some (.sh,.int y),rfl⟩;simp only[EV,bR,nF hys,ql,zz ks' l2,t9 hys,hyp,false_and,if_false]
    by_cases hg:ψ y = ψ (bx p q ts x).2
    ·simp only[hg,↓reduceIte]
     rw[cP];intro z _;unfold nE
     by_cases e:z=y
     ·subst e;simp[hg]
     ·simp[e]
    ·simp only[hg,↓reduceIte]
     rw[cP];intro z _
     by_cases e:z=y
     ·subst e;simp[hg]
     ·simp[e]
   ·rintro env ⟨a,rfl⟩
    refine⟨_,rfl,n+1,(λy=>if ψ y = ψ (bx p q ts x).2 then ψ (bx p q ts x).1 else ψ y),ks',some (.sh,.int x),some (.sh,.int (ψ (bx p q ts x).1)),some (.sh,.int (ψ (bx p q ts x).2)),a,?_,m2⟩;rw[cP (g':=λy=>.int (if ψ y = ψ (bx p q ts x).2 then ψ (bx p q ts x).1 else ψ y))]
    ·rfl
    ·intro z hz;simp[hz]
 ·rintro env ⟨n,ψ,ks,a,b,c,d,rfl,m⟩;simp only[EV,bT];exact⟨n,ψ,ks,rfl,m⟩
theorem wB{p q:Int}(ok:aJ p q ts){P:List Int}(hP:∀x∈P,x∈nms ts)(hl:P.length<=15):fO [lI p q ts,.rl (P.map .int)]=.ok (true,.int (cU p q ts P)):=by
 obtain⟨n,ψ,ks,e,m⟩:=Ba ok hP hl;rw[e,LP m.GS (fK _) m.num];rfl
end K26
end
end
section
open PySem L2 Hv
namespace K26
theorem Ea{p q:Int}{P Q:List Int}{x:Int}(h:∀y,y∈Q↔y∈P\/y=x):∀e,e∈Q.map (bx p q ts)↔e∈P.map (bx p q ts)\/e=((bx p q ts x).1,(bx p q ts x).2):=λe=>by
 constructor
 ·intro he
  obtain⟨y,hy,rfl⟩:=mem_map.mp he
  rcases(h y).mp hy with hy|rfl
  ·exact .inl (mem_map_of_mem hy)
  ·exact .inr rfl
 ·rintro(he|rfl)
  ·obtain⟨y,hy,rfl⟩:=mem_map.mp he;exact mem_map_of_mem ((h y).mpr (.inl hy))
  ·exact mem_map_of_mem (f:=bx p q ts) ((h x).mpr (.inr rfl))
section
variable {p q:Int} {ts:List T3}
noncomputable def Wy(p q:Int)(ts:List T3)(P:List Int)(x:Int):Prop:=Way (P.map (bx p q ts)) (bx p q ts x).1 (bx p q ts x).2
theorem Wy.mono{P Q:List Int}(h:∀y∈P,y∈Q){x:Int}(w:Wy p q ts P x):Wy p q ts Q x:=by
 unfold Wy at w |-;refine Way.mono (λe he=>?_) w;obtain⟨y,hy,rfl⟩:=mem_map.mp he;exact mem_map_of_mem (h y hy)
open Classical in
theorem IT(ok:aJ p q ts){P Q:List Int}{x:Int}(hP:∀y∈P,y∈nms ts)(hx:x∈nms ts)(h:∀y,y∈Q↔y∈P\/y=x):cU p q ts Q=cU p q ts P+if Wy p q ts P x then 0 else 1:=by
 obtain⟨h1,h2⟩:=oV ok hx;exact GU (ps:=nL p q ts) (fK _) (D7 ok hP) h1 h2 (Ea (p:=p) (q:=q) (ts:=ts) h)
theorem gZ(ok:aJ p q ts){P Q:List Int}{x:Int}(hP:∀y∈P,y∈nms ts)(hx:x∈nms ts)(h:∀y,y∈Q↔y∈P\/y=x):cU p q ts P<=cU p q ts Q/\cU p q ts Q<=cU p q ts P+1:=by
 rw[IT ok hP hx h]
 split<;>omega
theorem wC(ok:aJ p q ts){P Q:List Int}{x:Int}(hP:∀y∈P,y∈nms ts)(hx:x∈nms ts)(h:∀y,y∈Q↔y∈P\/y=x):Wy p q ts P x↔cU p q ts Q=cU p q ts P:=by
 rw[IT ok hP hx h]
 split
 ·exact⟨λ_=>rfl,λ_=>‹_›⟩
 ·exact⟨λw=>absurd w ‹_›,λe=>by omega⟩
theorem mP(ok:aJ p q ts){P Q:List Int}(hP:∀y∈P,y∈nms ts)(h:∀y,y∈P↔y∈Q):cU p q ts P=cU p q ts Q:=by
 refine vW (fK _) (D7 ok hP) λe=>⟨λhe=>?_,λhe=>?_⟩
 ·obtain⟨y,hy,rfl⟩:=mem_map.mp he;exact mem_map_of_mem ((h y).mp hy)
 ·obtain⟨y,hy,rfl⟩:=mem_map.mp he;exact mem_map_of_mem ((h y).mpr hy)
theorem dW{R:List Int}{x:Int}(y:Int):y∈R++[x]↔y∈R\/y=x:=by simp
theorem kL{R:List Int}{x:Int}(hR:∀y∈R,y∈nms ts)(hx:x∈nms ts):∀y∈R++[x],y∈nms ts:=λy hy=>by
 rcases(dW y).mp hy with h|rfl
 ·exact hR y h
 ·exact hx
theorem uv(ok:aJ p q ts):∀(xs R:List Int),(∀y∈R,y∈nms ts)->(∀y∈xs,y∈nms ts)->cU p q ts R<=cU p q ts (R++xs)/\cU p q ts (R++xs)<=cU p q ts R+xs.length
 | [],R,_,_=>by rw[append_nil];exact⟨Nat.le_refl _,Nat.le_refl _⟩
 | x::xs,R,hR,hx=>by
  have h1:=gZ ok (Q:=R++[x]) hR (hx x mem_cons_self) dW;have h2:=uv ok xs (R++[x]) (kL hR (hx x mem_cons_self)) λy hy=>hx y (mem_cons_of_mem _ hy);rw[List.append_assoc] at h2;rw[length_cons];exact⟨le_trans h1.1 h2.1,by have:=h2.2;have:=h1.2;show cU p q ts (R++([x]++xs))<=_;omega⟩
theorem zF(ok:aJ p q ts):∀(xs R:List Int),(∀y∈R,y∈nms ts)->(∀y∈xs,y∈nms ts)->(∀y∈xs,Wy p q ts R y)->cU p q ts (R++xs)=cU p q ts R
 | [],R,_,_,_=>by rw[append_nil]
 | x::xs,R,hR,hx,hw=>by
  have h1:=(wC ok (Q:=R++[x]) hR (hx x mem_cons_self) dW).mp (hw x mem_cons_self);have h2:=zF ok xs (R++[x]) (kL hR (hx x mem_cons_self)) (λy hy=>hx y (mem_cons_of_mem _ hy)) λy hy=>(hw y (mem_cons_of_mem _ hy)).mono λz hz=>mem_append_left _ hz;rw[List.append_assoc,h1] at h2;exact h2
theorem wD(ok:aJ p q ts):∀(xs R:List Int),(∀y∈R,y∈nms ts)->(∀y∈xs,y∈nms ts)->(∀pre x post,xs=pre++x::post->¬ Wy p q ts (R++pre) x)->cU p q ts (R++xs)=cU p q ts R+xs.length
 | [],R,_,_,_=>by rw[append_nil];rfl
 | x::xs,R,hR,hx,hw=>by
  have n1:¬ Wy p q ts R x:=by have:=hw [] x xs rfl;rwa [append_nil] at this
  have s1:=gZ ok (Q:=R++[x]) hR (hx x mem_cons_self) dW;have h1:¬ cU p q ts (R++[x])=cU p q ts R:=λe=>n1 ((wC ok (Q:=R++[x]) hR (hx x mem_cons_self) dW).mpr e);have h2:=wD ok xs (R++[x]) (kL hR (hx x mem_cons_self)) (λy hy=>hx y (mem_cons_of_mem _ hy)) λpre y post e=>by
   have:=hw (x::pre) y post (by rw[e];rfl);rw[List.append_assoc];exact this
  rw[List.append_assoc] at h2;rw[length_cons];show cU p q ts (R++([x]++xs))=_;omega
theorem zG:cU p q ts []=0:=by
 unfold cU;rw[map_nil,mF (ps:=nL p q ts) (jR.start _) (fK _)];unfold rk;simp
theorem Hu(ok:aJ p q ts){P Q:List Int}(h:∀y∈P,y∈Q)(hQ:∀y∈Q,y∈nms ts):cU p q ts P<=cU p q ts Q:=by
 have hP:∀y∈P,y∈nms ts:=λy hy=>hQ y (h y hy);have h1:=(uv ok Q P hP hQ).1;rwa [mP ok (P:=P++Q) (Q:=Q) (λy hy=>by rcases mem_append.mp hy with h|h;exact hP y h;exact hQ y h) λy=>⟨λhy=>by rcases mem_append.mp hy with z|z;exact h y z;exact z,λhy=>mem_append_right _ hy⟩] at h1
theorem Mi(ok:aJ p q ts){P:List Int}(hP:∀y∈P,y∈nms ts):cU p q ts P<=P.length:=by
 have:=(uv ok P [] (λ_ h=>by simp at h) hP).2;rw[zG,nil_append] at this;omega
theorem Bb(ok:aJ p q ts){R:List Int}(hR:∀y∈R,y∈nms ts):cU p q ts R=cU p q ts (nms ts)↔∀x∈nms ts,x∈R\/cU p q ts (R++[x])=cU p q ts R:=by
 constructor
 ·intro e x hx;refine .inr ?_;have h1:=(gZ ok (Q:=R++[x]) hR hx dW).1;have h2:=Hu ok (P:=R++[x]) (Q:=nms ts) (kL hR hx) λ_ h=>h;omega
 ·intro h
  have e:=zF ok (nms ts) R hR (λ_ h=>h) λx hx=>by
   rcases h x hx with hr|e
   ·exact(wC ok (Q:=R) hR hx λy=>⟨λh=>.inl h,λh=>h.elim id λe=>e▸hr⟩).mpr rfl
   ·exact(wC ok (Q:=R++[x]) hR hx dW).mpr e
  rw[<-e];exact mP ok (λy hy=>by rcases mem_append.mp hy with h|h;exact hR y h;exact h) λy=>⟨λhy=>by rcases mem_append.mp hy with z|z;exact hR y z;exact z,λhy=>mem_append_right _ hy⟩
theorem fS{P:List Int}{y:Int}:y∈others ts P↔y∈nms ts/\y∉P:=by
 unfold others;rw[mem_filter];simp
theorem Hw{P:List Int}(hP:∀y∈P,y∈nms ts){y:Int}:y∈others ts (others ts P)↔y∈P:=by
 rw[fS,fS];constructor
 ·rintro⟨h1,h2⟩;exact byContradiction λn=>h2 ⟨h1,n⟩
 ·exact λh=>⟨hP y h,λz=>z.2 h⟩
theorem Eb(ok:aJ p q ts){P:List Int}(hn:P.Nodup)(hP:∀y∈P,y∈nms ts):cU p q ts P=P.length↔∀x∈nms ts,x∈others ts P\/cU p q ts (others ts (others ts P++[x]))+1=cU p q ts (others ts (others ts P)):=by
 have hOO:cU p q ts (others ts (others ts P))=cU p q ts P:=mP ok gq λy=>Hw hP;have hm:∀x y,y∈others ts (others ts P++[x])↔y∈P/\y≠x:=λx y=>by
  rw[fS,dW,fS];constructor
  ·rintro⟨h1,h2⟩;exact⟨byContradiction λn=>h2 (.inl ⟨h1,n⟩),λe=>h2 (.inr e)⟩
  ·rintro⟨h1,h2⟩;exact⟨hP y h1,λz=>z.elim (λz=>z.2 h1) h2⟩
 have hq:∀x∈P,∀y,y∈P↔y∈others ts (others ts P++[x])\/y=x:=λx hx y=>by
  rw[hm];constructor
  ·intro h
   by_cases e:y=x
   ·exact .inr e
   ·exact .inl ⟨h,e⟩
  ·rintro(h|rfl)
   ·exact h.1
   ·exact hx
 rw[hOO];constructor
 ·intro e x hx
  by_cases Hx:x∈P
  ·refine .inr ?_
   have h1:=(gZ ok (P:=others ts (others ts P++[x])) (Q:=P) gq hx (hq x Hx)).2;have h2:cU p q ts (others ts (others ts P++[x]))=cU p q ts (P.erase x):=mP ok gq λy=>by
    rw[hm,hn.mem_erase_iff];exact⟨λh=>⟨h.2,h.1⟩,λh=>⟨h.2,h.1⟩⟩
   have h3:=Mi ok (P:=P.erase x) λy hy=>hP y (List.mem_of_mem_erase hy);rw[List.length_erase_of_mem Hx] at h3;have:=List.length_pos_of_mem Hx;omega
  ·exact .inl (fS.mpr ⟨hx,Hx⟩)
 ·intro h
  have e:=wD ok P [] (λ_ h=>by simp at h) hP λpre x post e w=>by
   have Hx:x∈P:=by rw[e];simp
   have hpre:∀y∈pre,y∈P/\y≠x:=λy hy=>by
    refine⟨by rw[e];exact mem_append_left _ hy,λz=>?_⟩;subst z;rw[e,nodup_append] at hn;exact hn.2.2 y hy y mem_cons_self rfl
   have w2:Wy p q ts (others ts (others ts P++[x])) x:=w.mono λy hy=>(hm x y).mpr (hpre y (by simpa using hy));have e2:=(wC ok (P:=others ts (others ts P++[x])) (Q:=P) gq (hP x Hx) (hq x Hx)).mp w2
   rcases h x (hP x Hx) with z|z
   ·exact(fS.mp z).2 Hx
   ·omega
  rw[zG,nil_append] at e;omega
theorem missed(ok:aJ p q ts){P:List Int}{x:Int}(hx:x∈nms ts)(hn:x∉P):others ts (P++[x])=(others ts P).filter (λy=>!decide (y=x))/\(cU p q ts (others ts (P++[x]))+1=cU p q ts (others ts P)↔cU p q ts (others ts (P++[x]))<cU p q ts (others ts P)):=by
 constructor
 ·unfold others
  rw[List.filter_filter];refine filter_congr λy _=>?_
  by_cases a:y∈P<;>by_cases b:y=x<;>simp[a,b]
 ·have h1:=(gZ ok (P:=others ts (P++[x])) (Q:=others ts P) (x:=x) gq hx λy=>by
   rw[fS,fS,dW];constructor
   ·rintro⟨h1,h2⟩
    by_cases c:y=x
    ·exact .inr c
    ·exact .inl ⟨h1,λz=>z.elim h2 c⟩
   ·rintro(⟨h1,h2⟩|rfl)
    ·exact⟨h1,λz=>h2 (.inl z)⟩
    ·exact⟨hx,hn⟩).2
  omega
end
end K26
end
section
open PySem L2 Hv
local macro_rules | `(tactic| simp only[EV,$ls,*] $[$l:location]?)=>`(tactic| simp only[gz,CY,CZ,Dc,zj,Ie,Ig,Ih,Ii,Ij,CO,Il,CP,CQ,OT,Im,Io,eB,bY,Sf,aX,qW,gQ,Om,oE,Sg,CK,bT,CM,gB,tZ,CN,isVar,gP,getElem?_cons_zero,getElem?_cons_succ,set_cons_zero,set_cons_succ,map_cons,map_nil,length_cons,length_nil,cons_append,nil_append,List.replicate_succ,List.replicate_zero,Nat.reduceSub,Nat.reduceAdd,Nat.reduceLeDiff,Ip,Iq,OU,OV,OW,OX,OY,OZ,Iu,Iv,zl,Iw,Iz,ID,IF,IG,II,IJ,CS,CT,CU,CV,IK,jw,bw,nX,QA,cQ,gJ,Hv.stored,List.contains_nil,List.contains_cons,elem_nil,List.elem_cons,Nat.reduceBEq,Nat.reduceEqDiff,BEq.rfl,all_cons,List.all_nil,beq_self_eq_true,vF,gR,qd,j4,mj,↓reduceIte,Bool.and_true,Bool.true_and,Bool.false_and,Bool.and_false,Bool.or_false,Bool.false_or,Bool.or_true,Bool.true_or,Bool.or_self,zero_le,Bool.not_true,Bool.not_false,false_eq_true,decide_eq_true_eq,not_eq_true',decide_eq_false_iff_not,append_nil,nil_append,reduceCtorEq,$ls,*] $[$l:location]?)
section
open PySem L2 Hv
namespace K26
noncomputable def QK:IE:=.bin .pow (.cst (.int 10)) (.cst (.int 57))
noncomputable def Bg:Int:=10 ^ (57:Int).toNat
theorem zH:0<Bg:=by decide
theorem Mj:ic Bg=true:=by decide
noncomputable def s1:IS:=.asg (.one 2) (.bin .add (.bin .add (.var 2) (.cst (.int 1))) (.bin .mod (.var 0) QK))
noncomputable def s2:IS:=.asg (.one 0) (.bin .fdiv (.var 0) QK)
noncomputable def s3:IS:=.expr (.met .append (.var 3) (.cons (.var 2) .nil))
noncomputable def wF:fy:=.cons s1 (.cons s2 (.cons s3 .nil))
theorem kM{ms:List Nat}(h:bY Ψ ms st env=.ok (.nx env')):eB Ψ ms (.cons st r) env=eB Ψ ms r env':=by
 rw[eB,h];rfl
theorem Ec:aX Ψ QK env=.ok (true,.int Bg):=by
 unfold QK;simp only[aX,bT,zk (show decide ((0:Int)<=57/\(57:Int)<=1000000/\(10:Int).natAbs<2 ^ 64)=true by decide)];rfl
theorem Qe{c n y:Int}:bY Ψ [3] s1 [some (.sh,.int c),some (.sh,.int n),some (.sh,.int y),some (.ow,v),d]=.ok (.nx [some (.sh,.int c),some (.sh,.int n),some (.sh,.int (y+1+c%Bg)),some (.ow,v),d]):=by
 unfold s1;simp only[EV,Ec,gb (show decide (0<Bg)=true by rw[decide_eq_true_eq];exact zH)];exact if_neg (by decide)
theorem Qf{c n y:Int}:bY Ψ [3] s2 [some (.sh,.int c),some (.sh,.int n),some (.sh,.int y),some (.ow,v),d]=.ok (.nx [some (.sh,.int (c/Bg)),some (.sh,.int n),some (.sh,.int y),some (.ow,v),d]):=by
 unfold s2;simp only[EV,Ec,gn Mj];exact if_neg (by decide)
theorem Qg{c n y:Int}{xs:List Int}(h:xs.length<64):bY Ψ [3] s3 [some (.sh,.int c),some (.sh,.int n),some (.sh,.int y),some (.ow,.rl (xs.map .int)),d]=.ok (.nx [some (.sh,.int c),some (.sh,.int n),some (.sh,.int y),some (.ow,.rl ((xs++[y]).map .int)),d]):=by
 unfold s3;have z:xs.length<sizeLine:=by unfold sizeLine;omega
 simp only[EV,length_map,z,map_append]
theorem Hy{c n y:Int}{xs:List Int}(h:xs.length<64):eB Ψ [3] wF [some (.sh,.int c),some (.sh,.int n),some (.sh,.int y),some (.ow,.rl (xs.map .int)),d]=.ok (.nx [some (.sh,.int (c/Bg)),some (.sh,.int n),some (.sh,.int (y+1+c%Bg)),some (.ow,.rl ((xs++[y+1+c%Bg]).map .int)),d]):=by
 unfold wF;rw[kM Qe,kM Qf,kM (Qg h)];simp only[eB]
theorem Hz{c n:Int}{y:Int}(h:inR n=true):bY Ψ [3] (.for (.one 4) .range (.cons (.var 1) .nil) wF) [some (.sh,.int c),some (.sh,.int n),some (.sh,.int y),some (.ow,v),d] =
  iV (λx env=>pb (pl (cA (.one 4) x env)) λenv'=>eB Ψ [3] wF env') ((List.range n.toNat).map λ(i:Nat)=>Val.int (0+(i:Int))) [some (.sh,.int c),some (.sh,.int n),some (.sh,.int y),some (.ow,v),d]:=by
 rw[bY,show (vF (.one 4) (.cons (.var 1) .nil) wF&&(Hv.stored (.one 4)).all λi=>!([3]:List Nat).contains i)=true from by decide,tZ];have e:gQ Ψ (.cons (.var 1) .nil) [some (.sh,.int c),some (.sh,.int n),some (.sh,.int y),some (.ow,v),d]=.ok [.int n]:=by simp only[EV,bT]
 rw[e,bT,IQ h,gB,bT]
noncomputable def Qh:Prop:=∀(c:Int) (n:Nat),n<=15->∃xs:List Int,cM [.int c,.int (n:Int)]=.ok (true,.rl (xs.map .int))/\xs.length=n/\xs.Pairwise (· < ·)/\∀x∈xs,0<=x
theorem Ed:Qh:=by
 intro c n hn;have hr:inR (n:Int)=true:=by unfold inR;simp;omega
 unfold cM gz;have e1:bY (ak qZ) [3] (.asg (.one 2) (.neg (.cst (.int 1)))) [some (.sh,.int c),some (.sh,.int n),none,none,none]=.ok (.nx [some (.sh,.int c),some (.sh,.int n),some (.sh,.int (-1)),none,none]):=by
  simp only[EV,bT]
  try rfl
 have e2:bY (ak qZ) [3] (.asg (.one 3) (.lst .nil)) [some (.sh,.int c),some (.sh,.int n),some (.sh,.int (-1)),none,none]=.ok (.nx [some (.sh,.int c),some (.sh,.int n),some (.sh,.int (-1)),some (.ow,.rl []),none]):=by simp only[EV,bT]
 have hm:gR bM=[3]:=by decide
 have hi:bM=(.cons (.asg (.one 2) (.neg (.cst (.int 1)))) (.cons (.asg (.one 3) (.lst .nil)) (.cons (.for (.one 4) .range (.cons (.var 1) .nil) wF) (.cons (.ret (.var 3)) .nil)))):=rfl;rw[hm,hi];show ∃xs:List Int,pb (eB (ak qZ) [3] _ [some (.sh,.int c),some (.sh,.int n),none,none,none]) _=_/\_;rw[kM e1,kM e2];have key:=bC (us:=List.range n) (k:=λf=>Pr.ok f) (body:=λx env=>pb (pl (cA (.one 4) x env)) λenv'=>eB (ak qZ) [3] wF env') (λi:Nat=>Val.int (0+(i:Int)))
  (λr:Pr wJ=>∃(c' y:Int) (xs:List Int) (d:Option (Mk×Val)),r=.ok (.nx [some (.sh,.int c'),some (.sh,.int n),some (.sh,.int y),some (.ow,.rl (xs.map .int)),d])/\xs.length=n/\xs.Pairwise (· < ·)/\∀x∈xs,0<=x)
  (mW:=[some (.sh,.int c),some (.sh,.int n),some (.sh,.int (-1)),some (.ow,.rl []),none])
  (λdone env=>∃(c' y:Int) (xs:List Int) (d:Option (Mk×Val)),env=[some (.sh,.int c'),some (.sh,.int n),some (.sh,.int y),some (.ow,.rl (xs.map .int)),d]/\xs.length=done.length/\xs.Pairwise (· < ·)/\(∀x∈xs,0<=x/\x<=y) /\ -1<=y)
  ⟨c,-1,[],none,rfl,rfl,List.Pairwise.nil,λ_ h=>by simp at h,by omega⟩ (by
   rintro pre k post env hx ⟨c',y,xs,d,rfl,hl,hp,hb,hy⟩;have hlt:xs.length<64:=by have:=congrArg length hx;rw[length_append,length_cons,length_range] at this;omega
   have hmod:=emod_nonneg c' (show Bg≠0 from Int.ne_of_gt zH);have eb:=Hy (Ψ:=ak qZ) (c:=c') (n:=n) (y:=y) (d:=some (.sh,.int (0+(k:Int)))) hlt;generalize c'%Bg=m at *;refine⟨_,eb,c'/Bg,y+1+m,xs++[y+1+m],_,rfl,?_,?_,?_,by omega⟩
   ·rw[length_append,length_append,hl];rfl
   ·rw[List.pairwise_append];refine⟨hp,List.pairwise_singleton _ _,λa ha b hb'=>?_⟩;rw[mem_singleton] at hb';subst hb';have:=(hb a ha).2;omega
   ·intro x hx'
    rcases mem_append.mp hx' with h|h
    ·have:=hb x h;omega
    ·rw[mem_singleton] at h;subst h;omega) (by
   rintro env ⟨c',y,xs,d,rfl,hl,hp,hb,hy⟩;exact⟨c',y,xs,d,rfl,by rw[hl,length_range],hp,λx hx=>(hb x hx).1⟩)
 have hf:=Hz (Ψ:=ak qZ) (c:=c) (n:=n) (y:=-1) (v:=.rl []) (d:=none) hr;rw[Int.toNat_natCast] at hf;cases e:iV (λx env=>pb (pl (cA (.one 4) x env)) λenv'=>eB (ak qZ) [3] wF env') ((List.range n).map λi:Nat=>Val.int (0+(i:Int))) [some (.sh,.int c),some (.sh,.int n),some (.sh,.int (-1)),some (.ow,.rl []),none] with
 | ok f =>
  rw[e] at key hf;obtain⟨c',y,xs,d,er,h1,h2,h3⟩:=key;have Sk:f=.nx [some (.sh,.int c'),some (.sh,.int n),some (.sh,.int y),some (.ow,.rl (xs.map .int)),d]:=by injection er
  subst Sk;have im:bw (xs.map Val.int)=true:=by
   clear er h1 h2 h3 hf e
   induction xs with
   | nil=>rfl
   | cons t r ih=>rw[map_cons,bw,ih];rfl
  refine⟨xs,?_,h1,h2,h3⟩;rw[kM hf];simp only[EV,im]
  try rfl
 | exc _ _=>rw[e] at key;obtain⟨_,_,_,_,er,_⟩:=key;cases er
 | no=>rw[e] at key;obtain⟨_,_,_,_,er,_⟩:=key;cases er
end K26
end
section
open PySem L2 Hv
namespace K26
theorem yk(ns:List Int):∃p q ts,gh [.rl (ns.map .int),.int 12]=.ok (false,cX p q ts)/\aJ p q ts:=by
 have c0:bG [.rl (ns.map .int),.int 0]=.ok (true,.int (cellAt ns 0)):=gD ns 0;have c1:bG [.rl (ns.map .int),.int 1]=.ok (true,.int (cellAt ns 1)):=gD ns 1;have c2:bG [.rl (ns.map .int),.int 2]=.ok (true,.int (cellAt ns 2)):=gD ns 2;have c3:bG [.rl (ns.map .int),.int 3]=.ok (true,.int (cellAt ns 3)):=gD ns 3;unfold gh fj;generalize cellAt ns 0=k0 at *;generalize cellAt ns 1=k1 at *;generalize cellAt ns 2=rest at *;generalize cellAt ns 3=k3 at *;have P8:2<=2+rest%7/\2+rest%7<=8:=by omega
 simp only[EV,dP,c1,c2,gb (show decide ((0:Int)<7)=true by decide)];generalize 2+rest%7=many at *;obtain⟨m,rfl⟩:=eq_ofNat_of_zero_le (show 0<=many by omega);have hm:2<=m/\m<=8:=by omega
 obtain⟨Pl,eP,lP,uP,nP⟩:=Ed k1 m (by omega);have hmp:decide (0<(m:Int))=true:=by rw[decide_eq_true_eq];omega
 have QI:ic (m:Int)=true:=by unfold ic;rw[decide_eq_true_eq];omega
 simp only[EV,dh,eP,gn (show ic 7=true by decide),gn QI,gb hmp,dP,c0,gb (show decide ((0:Int)<12+1)=true by decide)];have hj0:0<=rest/7/(m:Int)/(m:Int)%(12+1)/\rest/7/(m:Int)/(m:Int)%(12+1)<=12:=by omega
 generalize rest/7/(m:Int)/(m:Int)%(12+1)=j at *;obtain⟨n,rfl⟩:=eq_ofNat_of_zero_le hj0.1;obtain⟨N,eN,lN,uN,nN⟩:=Ed k0 n (by omega);have i1:=emod_nonneg (rest/7) (show (m:Int)≠0 by omega);have i2:=emod_lt_of_pos (rest/7) (show 0<(m:Int) by omega);have i3:=emod_nonneg (rest/7/(m:Int)) (show (m:Int)≠0 by omega);have i4:=emod_lt_of_pos (rest/7/(m:Int)) (show 0<(m:Int) by omega);generalize rest/7%(m:Int)=o1 at *;generalize rest/7/(m:Int)%(m:Int)=o2 at *;have hpl:∀i:Int,0<=i->i<m->jQ (Pl.map Val.int) i=some (.int (Pl.getD i.toNat 0)):=λi h0 h1=>by
  obtain⟨k,rfl⟩:=eq_ofNat_of_zero_le h0;refine lQ ?_;rw[getElem?_map,List.getElem?_eq_getElem (by omega)];simp[List.getD,List.getElem?_eq_getElem (show k<Pl.length by omega)]
 have mono:∀i j:Int,0<=i->i<=j->j<m->Pl.getD i.toNat 0<=Pl.getD j.toNat 0:=λi j h0 h1 h2=>by
  obtain⟨a,rfl⟩:=eq_ofNat_of_zero_le h0;obtain⟨b,rfl⟩:=eq_ofNat_of_zero_le (show 0<=j by omega);rw[Int.toNat_natCast,Int.toNat_natCast];have ga:∀k,(h:k<Pl.length)->Pl.getD k 0=Pl[k]:=λk h=>by simp[List.getD,List.getElem?_eq_getElem h]
  rw[ga a (by omega),ga b (by omega)]
  by_cases e:a=b
  ·subst e;exact Int.le_refl _
  ·exact Int.le_of_lt (pairwise_iff_getElem.mp uP a b (by omega) (by omega) (by omega))
 simp only[EV,dh,eN,dP,c3,show 0<=sizeLine by decide,e9]
 repeat rw[kY]
 have z3:3<=sizeLine:=by decide
 have z2:2<=sizeLine:=by decide
 generalize ePl:Pl.map Val.int=PV at *;refine bC Val.int (λr:Pr FV=>∃p q ts,r=.ok (false,cX p q ts)/\aJ p q ts)
  (λdone env=>∃(c':Int) (ts:List T3) (m4 m7:Mk) (a b d:Option (Mk×Val)),env=[some (.sh,.rl (ns.map .int)),some (.sh,.int 12),some (.sh,.int rest),some (.sh,.int (m:Int)),some (m4,.rl PV),some (.sh,.int o1),some (.sh,.int o2),some (m7,.rl (N.map .int)),some (.sh,.int c'),some (.ow,.rl (ts.map dN)),a,b,d]/\qV m4=true/\ts.map (·.1)=done/\∀t∈ts,t.2.1<=t.2.2)
  ⟨k3,[],_,_,none,none,none,rfl,by first|rfl|exact zj,rfl,λ_ h=>by simp at h⟩ ?_ ?_
 ·rintro pre x post env hx ⟨c',ts,m4,m7,a,b,d,rfl,h4,ht,he⟩
  have Qc:pre.length<15:=by have:=congrArg length hx;rw[length_append,length_cons] at this;omega
  have hl:ts.length=pre.length:=by rw[<-ht,length_map]
  have z:ts.length<sizeLine:=by rw[hl];unfold sizeLine;omega
  have q1:=hpl (c'%m) (emod_nonneg _ (by omega)) (emod_lt_of_pos _ (by omega));have q2:=hpl (c'/m%m) (emod_nonneg _ (by omega)) (emod_lt_of_pos _ (by omega));generalize Pl.getD (c'%(m:Int)).toNat 0=n1 at *;generalize Pl.getD (c'/(m:Int)%(m:Int)).toNat 0=n2 at *;have tt:Val.tup [.int x,.int (if n2<n1 then n2 else n1),.int (if n2>n1 then n2 else n1)]=dN (turnT (x,n1,n2)):=rfl;refine⟨_,?_,c'/m/m,ts++[turnT (x,n1,n2)],m4,m7,some (.sh,.int x),some (.sh,.int n1),some (.sh,.int n2),rfl,h4,?_,λt U3=>?_⟩
  ·simp only[EV,bR,h4,gb hmp,gn QI,j9 q1,j9 q2,z3,tt,length_map,z,map_append]
  ·rw[map_append,ht];rfl
  ·rcases mem_append.mp U3 with h|h
   ·exact he t h
   ·rw[mem_singleton] at h;subst h;unfold turnT;dsimp only;split<;>split<;>omega
 ·rintro env ⟨c',ts,m4,m7,a,b,d,rfl,h4,ht,he⟩
  have q1:=hpl (if o2<o1 then o2 else o1) (by split<;>omega) (by split<;>omega);have q2:=hpl (if o2>o1 then o2 else o1) (by split<;>omega) (by split<;>omega);have hle:=mono (if o2<o1 then o2 else o1) (if o2>o1 then o2 else o1) (by split<;>omega) (by split<;>split<;>omega) (by split<;>omega);have im:bw (ts.map dN)=true:=by
   clear ht he
   induction ts with
   | nil=>rfl
   | cons t r ih=>rw[map_cons,bw,ih];rfl
  refine⟨_,_,ts,?_,⟨hle,?_,?_,he,λt U3=>?_⟩⟩
  ·simp only[EV,h4,j9 q1,j9 q2,z2,im];rfl
  ·have:ts.length=N.length:=by rw[<-ht,length_map]
   omega
  ·unfold Dg;have:=uN;rw[<-ht,pairwise_map] at this;exact this
  ·exact nN _ (by rw[<-ht];exact mem_map_of_mem U3)
end K26
end
section
open PySem L2 Hv
namespace K26
noncomputable abbrev NF(m:Str):Prop:=m ≠ "net" /\ m ≠ "places" /\ m ≠ "ends" /\ m ≠ "whole"
noncomputable def jO(κ:Nat)(p q:Int)(ts:List T3):Val:=if κ = 1 then gY 1 p q ts (cU p q ts (nms ts)) else kB κ p q ts
theorem Ef{κ:Nat}{p q:Int}{ts:List T3}{m:Str}{js:List (Nat×Nat)}{j:Nat}(hj:js.lookup κ = some j)(h:NF m):kO [] (jO κ p q ts) m js=some j:=by
 unfold jO
 split
 ·rename_i e;subst e;exact qG hj h
 ·exact DW hj h
theorem Eg{κ:Nat}(hk:κ < 2){p q:Int}(ok:aJ p q ts):DZ (jO κ p q ts) p q ts:=by
 unfold jO
 split
 ·exact uq (by decide) ok
 ·exact uo hk ok
theorem zJ{κ:Nat}(hk:κ < 2){p q:Int}:Ar [] (jO κ p q ts) [true,true]=some true:=by
 unfold jO gY kB
 match κ,hk with
 | 0,_=>rfl
 | 1,_=>rfl
noncomputable def mQ(κ:Nat)(p q:Int)(ts:List T3)(P:List Int):Int:=if κ = 0 then (cU p q ts P:Int) else (P.length:Int)-cU p q ts (nms ts)+cU p q ts (others ts P)
theorem sub_len{p q:Int}(ok:aJ p q ts){P:List Int}(hn:P.Nodup)(hP:∀x∈P,x∈nms ts):P.length<=15:=le_trans (fH hn hP) (gE ok)
theorem yl{Ψ:Nat->List Val->Pr FV}(h1:Ψ 17=cC)(h2:Ψ 18=bZ){κ:Nat}(hk:κ < 2){p q:Int}{ts:List T3}(ok:aJ p q ts){P:List Int}(hP:∀x∈P,x∈nms ts)(hl:P.length<=15):Ψ (17 + κ) [jO κ p q ts,.rl (P.map .int)]=.ok (true,.int (mQ κ p q ts P)):=by
 match κ,hk with
 | 0,_ =>rw[h1];have e:=qL (o:=jO 0 p q ts) ok (Eg (by decide) ok) hP hl;have m:=Ef (κ:=0) (p:=p) (q:=q) (ts:=ts) (m:="tree_rank") (js:=[(0,10),(1,10)]) (j:=10) rfl (by decide);unfold cC cL;simp only[EV,m,fP,e];rfl
 | 1,_ =>rw[h2];exact D9 (c:=1) (by decide) rfl rfl ok
theorem U4{κ:Nat}(hk:κ < 2){p q:Int}{ts:List T3}:kO [] (jO κ p q ts) "rank" [(0,17),(1,18)]=some (17 + κ):=by
 refine Ef ?_ (by decide)
 match κ,hk with
 | 0,_=>rfl
 | 1,_=>rfl
theorem m2{κ:Nat}(hk:κ < 2){p q:Int}{ts:List T3}{m:Str}{j:Nat}(h:NF m):kO [] (jO κ p q ts) m [(0,j),(1,j)]=some j:=by
 refine Ef ?_ h
 match κ,hk with
 | 0,_=>rfl
 | 1,_=>rfl
theorem free_eq{κ:Nat}(hk:κ < 2){p q:Int}(ok:aJ p q ts){P:List Int}(hP:∀x∈P,x∈nms ts)(hl:P.length<=15):gi [jO κ p q ts,.rl (P.map .int)]=.ok (true,.bl (decide (mQ κ p q ts P=(P.length:Int)))):=by
 have e:=yl (Ψ:=ak AS) ig iQ hk ok hP hl;unfold gi fk;simp only[EV,U4 hk,e,length_map]
theorem HD{κ:Nat}{p q:Int}(ok:aJ p q ts){P:List Int}{x:Int}(hP:∀y∈P,y∈nms ts)(hx:x∈nms ts)(hn:x∉P):mQ κ p q ts P<=mQ κ p q ts (P++[x]):=by
 unfold mQ
 split
 ·have:=(gZ ok (Q:=P++[x]) hP hx λy=>by simp).1;omega
 ·have:=(gZ ok (P:=others ts (P++[x])) (Q:=others ts P) (x:=x) gq hx λy=>by
   rw[fS,fS,dW];constructor
   ·rintro⟨h1,h2⟩
    by_cases c:y=x
    ·exact .inr c
    ·exact .inl ⟨h1,λz=>z.elim h2 c⟩
   ·rintro(⟨h1,h2⟩|rfl)
    ·exact⟨h1,λz=>h2 (.inl z)⟩
    ·exact⟨hx,hn⟩).2
  rw[length_append];simp only[length_cons,length_nil];omega
noncomputable def HE(κ:Nat)(p q:Int)(ts:List T3)(P:List Int):List Int:=(nms ts).filter λx=>decide (x∈P)||decide (mQ κ p q ts (P++[x])=mQ κ p q ts P)
theorem Ml{P:List Int}{x:Int}(hn:P.Nodup)(hx:x∉P):(P++[x]).Nodup:=by
 rw[nodup_append];exact⟨hn,by simp,λa ha b hb e=>hx (by rw[mem_singleton] at hb;rw[<-hb,<-e];exact ha)⟩
theorem qM{κ:Nat}(hk:κ < 2){p q:Int}(ok:aJ p q ts){P:List Int}(hn:P.Nodup)(hP:∀x∈P,x∈nms ts):fq [jO κ p q ts,.rl (P.map .int)]=.ok (true,.rl ((HE κ p q ts P).map .int)):=by
 have hl:=sub_len ok hn hP;have e:=yl (Ψ:=ak v8) di dH hk ok hP hl;have e1:=ur (Eg hk ok) ok.len;have hc:(nms ts).length<=100000:=by have:=gE ok;omega
 have mt:=m2 hk (p:=p) (q:=q) (ts:=ts) (m:="ties") (j:=12) (by decide);unfold fq dU;simp only[EV,U4 hk,e,mt,jk,e1,e9,iU,length_map,hc];rw[fM Val.int Val.int (λx=>decide (x∈P)||decide (mQ κ p q ts (P++[x])=mQ κ p q ts P)) (nms ts) (λx hx=>by
  have z1:1<=sizeLine:=by decide
  have z:(P.map Val.int).length+([.int x]:List Val).length<=sizeLine:=by rw[length_map];simp;unfold sizeLine;omega
  have em:P.map Val.int++[.int x]=(P++[x]).map .int:=by rw[map_append];rfl
  simp only[EV,bR,vN]
  by_cases c:x∈P
  ·simp[c]
  ·have e2:=yl (Ψ:=ak v8) di dH hk ok (P:=P++[x]) (kL hP hx) (sub_len ok (Ml hn c) (kL hP hx))
   simp only[EV,c,decide_false,z1,yh z,em,U4 hk,e2];have hm:=HD (κ:=κ) ok hP hx c
   by_cases d:mQ κ p q ts (P++[x])=mQ κ p q ts P
   ·simp[d]
   ·have:¬ mQ κ p q ts (P++[x])<=mQ κ p q ts P:=by omega
    simp[d,this])]
 simp only[EV,bT];rfl
theorem wG{l:List Int}:l.filter F=l↔∀x∈l,F x=true:=List.filter_eq_self
theorem U5{p q:Int}(ok:aJ p q ts){P:List Int}:(mQ 1 p q ts P=(P.length:Int))↔HE 0 p q ts (others ts P)=nms ts:=by
 have h:=Bb ok (R:=others ts P) gq;unfold HE;rw[wG];have e:(mQ 1 p q ts P=(P.length:Int))↔cU p q ts (others ts P)=cU p q ts (nms ts):=by unfold mQ;rw[if_neg (by decide)];omega
 rw[e,h];refine⟨λk x hx=>?_,λk x hx=>?_⟩
 ·rw[or_eq_true,decide_eq_true_eq,decide_eq_true_eq]
  rcases k x hx with z|z
  ·exact .inl z
  ·refine .inr ?_;unfold mQ;rw[if_pos rfl,if_pos rfl,z]
 ·have:=k x hx
  rw[or_eq_true,decide_eq_true_eq,decide_eq_true_eq] at this
  rcases this with z|z
  ·exact .inl z
  ·unfold mQ at z;rw[if_pos rfl,if_pos rfl] at z;exact .inr (by omega)
theorem U6{p q:Int}(ok:aJ p q ts){P:List Int}(hn:P.Nodup)(hP:∀y∈P,y∈nms ts):(mQ 0 p q ts P=(P.length:Int))↔HE 1 p q ts (others ts P)=nms ts:=by
 have h:=Eb ok hn hP;unfold HE;rw[wG];have e:(mQ 0 p q ts P=(P.length:Int))↔cU p q ts P=P.length:=by unfold mQ;rw[if_pos rfl];omega
 have r1:∀x,(mQ 1 p q ts (others ts P++[x])=mQ 1 p q ts (others ts P))↔cU p q ts (others ts (others ts P++[x]))+1=cU p q ts (others ts (others ts P)):=λx=>by
  unfold mQ;rw[if_neg (by decide),if_neg (by decide),length_append];simp only[length_cons,length_nil];omega
 rw[e,h];refine⟨λk x hx=>?_,λk x hx=>?_⟩
 ·rw[or_eq_true,decide_eq_true_eq,decide_eq_true_eq,r1];exact k x hx
 ·have:=k x hx;rw[or_eq_true,decide_eq_true_eq,decide_eq_true_eq,r1] at this;exact this
noncomputable def gm(p q:Int)(ts:List T3)(P:List Int)(x:Int):Bool:=decide (x∈P)||decide ((cU p q ts ((others ts P).filter (λy=>!decide (y=x))):Int)<cU p q ts (others ts P))
theorem U7{p q:Int}(ok:aJ p q ts){P:List Int}:HE 1 p q ts P=(nms ts).filter (gm p q ts P):=by
 unfold HE;refine filter_congr λx hx=>?_;unfold gm
 by_cases c:x∈P
 ·simp[c]
 ·obtain⟨m1,m2⟩:=missed ok hx c
  rw[<-m1];have r1:(mQ 1 p q ts (P++[x])=mQ 1 p q ts P)↔cU p q ts (others ts (P++[x]))+1=cU p q ts (others ts P):=by unfold mQ;rw[if_neg (by decide),if_neg (by decide),length_append];simp only[length_cons,length_nil];omega
  congr 1
  rw[decide_eq_decide,r1,m2];omega
theorem bH{sp:List Nat}(h:bF Ψ sp st env=.ok (.nx env')):bK Ψ sp (.cons st r) env=bK Ψ sp r env':=by
 rw[bK,h];rfl
theorem Mm{sp:List Nat}{i:Nat}(hi:sp.contains i=true)(h:aX Ψ e (ck env)=.ok (true,v)):bF Ψ sp (.asg (.one i) e) env=.ok (.nx (env.set i (some (.ow,v)))):=by
 rw[bF]
 try dsimp only
 rw[if_pos hi,h];rfl
theorem jC{sp:List Nat}{i:Nat}{f:Bool}(hi:sp.contains i=false)(h:aX Ψ e (eE env)=.ok (f,v)):bF Ψ sp (.asg (.one i) e) env=.ok (.nx (env.set i (some (.sh,v)))):=by
 rw[bF]
 try dsimp only
 unfold LQ;rw[if_neg (by rw[hi];exact Bool.false_ne_true),h];rfl
theorem wH{sp:List Nat}{f:Bool}(h:aX Ψ c (ck env)=.ok (f,.bl false)):bF Ψ sp (.iff c a .nil) env=.ok (.nx env):=by
 rw[bF,h,bT];show pb (pl (dJ [] (.bl false))) _=_;rw[zl,gB,bT,if_neg Bool.false_ne_true,bK]
theorem Qi{sp:List Nat}{f:Bool}(h:aX Ψ c (ck env)=.ok (f,.bl true))(ha:bK Ψ sp a env=.ok (.nx env')):bF Ψ sp (.iff c a .nil) env=.ok (.nx env'):=by
 rw[bF,h,bT];show pb (pl (dJ [] (.bl true))) _=_;rw[zl,gB,bT,if_pos rfl,ha]
theorem Eh{sp:List Nat}{f:Bool}(hs:yb e p k body=none)(he:aX Ψ e (eE env)=.ok (f,v))(hx:gO k [v]=some xs):bF Ψ sp (.for p k (.cons e .nil) body) env=iV (λx env=>pb (pl (cA p x env)) λenv'=>bK Ψ sp body env') xs env:=by
 rw[bF]
 try dsimp only
 rw[hs]
 try dsimp only
 unfold LQ;rw[he,bT,hx,gB,bT]
noncomputable abbrev Sl:=Option (Mk×Val)
theorem HF:yb (.bin o a b) p k body=none:=by
 first
  | (unfold yb
     split
     ·exact absurd ‹IE.bin o a b=IE.var _› (by intro z;cases z)
     ·rfl)
  | exact Eq.trans rfl rfl
noncomputable def EN(ns:List Int)(p q:Int)(ts:List T3)(r:List Sl):aR:=some (.sh,.rl (ns.map .int))::some (.sh,cX p q ts)::some (.sh,lI p q ts)::some (.sh,.rl ((nms ts).map .int))::some (.sh,jO 0 p q ts)::some (.sh,jO 1 p q ts)::r
noncomputable def st1:IS:=.asg (.one 7) (.call 16 (.cons (.var 3) (.cons (.var 6) .nil)))
noncomputable def st2:IS:=.asg (.one 8) (.comp ["_law_name","_law_picked"] [none,some 7] (.one 0) .seq (.cons (.var 3) .nil) (.cmp .nin (.var 0) (.var 1)) (.var 0))
noncomputable def Qj(i j:Nat):IS:=.iff (.cmp .ne (.mth (.var i) "free" [(0,19),(1,19)] (.cons (.blt .list (.cons (.var 7) .nil)) .nil)) (.cmp .eq (.mth (.var j) "reach" [(0,20),(1,20)] (.cons (.blt .list (.cons (.var 8) .nil)) .nil)) (.var 3))) (.cons (.ret (.cst (.bl false))) .nil) .nil
noncomputable def Ek:IS:=.asg (.one 9) (.lst .nil)
noncomputable def U8:IS:=.asg (.one 11) (.comp ["_law_each","_law_name"] [none,some 10] (.one 0) .seq (.cons (.var 8) .nil) (.cmp .ne (.var 0) (.var 1)) (.var 0))
noncomputable def U9:IS:=.iff (.or (.cmp .uZ (.var 10) (.var 7)) (.cmp .lt (.call 21 (.cons (.var 2) (.cons (.var 11) .nil))) (.call 21 (.cons (.var 2) (.cons (.var 8) .nil))))) (.cons (.expr (.met .append (.var 9) (.cons (.var 10) .nil))) .nil) .nil
noncomputable def b6:fy:=.cons U8 (.cons U9 .nil)
theorem Mn:yb (.var 3) (.one 10) .seq b6=none:=rfl
noncomputable def Va:IS:=.for (.one 10) .seq (.cons (.var 3) .nil) b6
noncomputable def JV:IS:=.iff (.cmp .ne (.mth (.var 5) "reach" [(0,20),(1,20)] (.cons (.blt .list (.cons (.var 7) .nil)) .nil)) (.var 9)) (.cons (.ret (.cst (.bl false))) .nil) .nil
noncomputable def oh:fy:=.cons st1 (.cons st2 (.cons (Qj 5 4) (.cons (Qj 4 5) (.cons Ek (.cons Va (.cons JV .nil))))))
noncomputable def qN:IE:=(.bin .add (.lst (.cons (.cst (.int 0)) .nil)) (.slc (.var 0) (.cst (.int 11)) (.cst (.int 37))))
noncomputable def Mp:IE:=.call 2 (.cons (.var 0) (.cons (.slc (.var 0) (.cst (.int 3)) (.bin .add (.cst (.int 3)) (.bin .mod (.bin .fdiv (.call 0 (.cons (.var 0) (.cons (.cst (.int 2)) .nil))) (.cst (.int 56))) (.cst (.int 9))))) .nil))
noncomputable def Ei:IE:=.cmp .eq (.bin .mod (.blt .len (.cons (.var 0) .nil)) (.cst (.int 2))) (.cst (.int 0))
noncomputable def Vb:IE:=.bin .pow (.cst (.int 10)) (.cst (.int 18))
noncomputable def Mq:IE:=.cmp .ge (.call 0 (.cons (.var 0) (.cons (.cst (.int 3)) .nil))) Vb
noncomputable def Mr:IE:=.call 15 (.cons (.var 0) (.cons (.cst (.int 12)) .nil))
noncomputable def Ms:IE:=.or (.not (.isc (.var 4) "Rule" [true,true])) (.not (.isc (.var 5) "Rule" [true,true]))
theorem Mt:kj=.cons (.asg (.one 1) Mp) (.cons (.iff (.and Ei Mq) (.cons (.asg (.one 1) Mr) .nil) .nil) (.cons (.asg (.one 2) (.call 3 (.cons (.var 1) .nil))) (.cons (.asg (.one 3) (.skeys (.var 2))) (.cons (.asg (.one 4) (.call 7 (.cons (.var 1) .nil))) (.cons (.asg (.one 5) (.call 13 (.cons (.var 1) .nil))) (.cons (.iff Ms (.cons (.ret (.cst (.bl false))) .nil) .nil) (.cons (.for (.one 6) .seq (.cons qN .nil) oh) (.cons (.ret (.cst (.bl true))) .nil)))))))):=rfl
theorem zK(a b:List Int):cop [] .eq (.rl (a.map .int)) (.rl (b.map .int))=some (decide (a=b)):=by
 show (toD 16 [] (.rl (a.map .int))).bind (λd=>(toD 16 [] (.rl (b.map .int))).bind λe=>some (PyData.eqv d e))=_;rw[t7 Val.int PyData.int a λ_ _=>rfl,t7 Val.int PyData.int b λ_ _=>rfl];show some (PyData.eqv (.list (a.map PyData.int)) (.list (b.map PyData.int)))=_;rw[PyData.eqv,PySem.W.ked_eqvAll]
section
variable {ns:List Int} {p q:Int} {ts:List T3}
theorem Ej(ok:aJ p q ts){x:Int}{P:List Int}(hn:P.Nodup)(hP:∀y∈P,y∈nms ts){i j κ κ':Nat}(h:(i=5/\j=4 /\ κ = 1 /\ κ'=0)\/(i=4/\j=5 /\ κ = 0 /\ κ'=1)):bF (ak cR) [9] (Qj i j) (EN ns p q ts (some (.sh,.int x)::some (.sh,.rl (P.map .int))::some (.sh,.rl ((others ts P).map .int))::r))=.ok (.nx (EN ns p q ts (some (.sh,.int x)::some (.sh,.rl (P.map .int))::some (.sh,.rl ((others ts P).map .int))::r))):=by
 have hl:=sub_len ok hn hP;have WC:(others ts P).Nodup:=by unfold others;exact List.Nodup.sublist List.filter_sublist (nO ok)
 rcases h with ⟨rfl,rfl,rfl,rfl⟩|⟨rfl,rfl,rfl,rfl⟩
 ·have fr:=free_eq (κ:=1) (by decide) ok hP hl
  have rc:=qM (κ:=0) (by decide) ok WC gq;have mf:=m2 (κ:=1) (by decide) (p:=p) (q:=q) (ts:=ts) (m:="free") (j:=19) (by decide);have mr:=m2 (κ:=0) (by decide) (p:=p) (q:=q) (ts:=ts) (m:="reach") (j:=20) (by decide);have hq:decide (mQ 1 p q ts P=(P.length:Int))=decide (HE 0 p q ts (others ts P)=nms ts):=by rw[decide_eq_decide];exact U5 ok
  unfold Qj;refine wH (f:=true) ?_;unfold EN;simp only[EV,Hv.ck,mf,mr,gk,jl,fu,fr,rc,zK,hq,O3,bne_self_eq_false]
 ·have fr:=free_eq (κ:=0) (by decide) ok hP hl
  have rc:=qM (κ:=1) (by decide) ok WC gq;have mf:=m2 (κ:=0) (by decide) (p:=p) (q:=q) (ts:=ts) (m:="free") (j:=19) (by decide);have mr:=m2 (κ:=1) (by decide) (p:=p) (q:=q) (ts:=ts) (m:="reach") (j:=20) (by decide);have hq:decide (mQ 0 p q ts P=(P.length:Int))=decide (HE 1 p q ts (others ts P)=nms ts):=by rw[decide_eq_decide];exact U6 ok hn hP
  unfold Qj;refine wH (f:=true) ?_;unfold EN;simp only[EV,Hv.ck,mf,mr,gk,jl,fu,fr,rc,zK,hq,O3,bne_self_eq_false]
theorem Mv(ok:aJ p q ts){x:Int}{c7:Sl}:∃P:List Int,(P.Nodup/\∀y∈P,y∈nms ts)/\bF (ak cR) [9] st1 (EN ns p q ts (some (.sh,.int x)::c7::r))=.ok (.nx (EN ns p q ts (some (.sh,.int x)::some (.sh,.rl (P.map .int))::r))):=by
 have hN:(nms ts).length<64:=by have:=gE ok;omega
 have WD:=Mh (nms ts) x hN;have hsub:=qI (nms ts) x;generalize qH (nms ts) x=l at WD hsub;refine⟨l,⟨hsub.nodup (nO ok),λy hy=>hsub.subset hy⟩,?_⟩;unfold st1;rw[jC (f:=true) (v:=.rl (l.map .int)) rfl]
 ·rfl
 ·unfold EN;simp only[EV,Hv.eE,uh,WD]
theorem Mw(ok:aJ p q ts){x:Int}{P:List Int}{c8:Sl}:bF (ak cR) [9] st2 (EN ns p q ts (some (.sh,.int x)::some (.sh,.rl (P.map .int))::c8::r))=.ok (.nx (EN ns p q ts (some (.sh,.int x)::some (.sh,.rl (P.map .int))::some (.sh,.rl ((others ts P).map .int))::r))):=by
 have hc:(nms ts).length<=100000:=by have:=gE ok;omega
 unfold st2;rw[jC (f:=true) (v:=.rl ((others ts P).map .int)) rfl]
 ·rfl
 ·unfold EN
  simp only[EV,Hv.eE,e9,iU,length_map,hc];rw[fM Val.int Val.int (λy=>!decide (y∈P)) (nms ts) (λy hy=>by
   simp only[EV,bR,De]
   by_cases c:y∈P<;>simp[c])]
  simp only[EV,bT];rfl
theorem Mx:bF (ak cR) [9] Ek (EN ns p q ts (a::b::c::d::r))=.ok (.nx (EN ns p q ts (a::b::c::some (.ow,.rl [])::r))):=by
 unfold Ek;rw[Mm (v:=.rl []) rfl]
 ·rfl
 ·unfold EN;simp only[EV,Hv.ck,show 0<=sizeLine by decide]
theorem My(ok:aJ p q ts){x y:Int}{P:List Int}{rA:Sl}:bF (ak cR) [9] U8 (EN ns p q ts [some (.sh,.int x),some (.sh,.rl (P.map .int)),some (.sh,.rl ((others ts P).map .int)),some (.ow,.rl d),some (.sh,.int y),rA]) =
  .ok (.nx (EN ns p q ts [some (.sh,.int x),some (.sh,.rl (P.map .int)),some (.sh,.rl ((others ts P).map .int)),some (.ow,.rl d),some (.sh,.int y),some (.sh,.rl (((others ts P).filter (λz=>!decide (z=y))).map .int))])):=by
 have hc:(others ts P).length<=100000:=by have:=oW ok (P:=P);omega
 unfold U8;rw[jC (f:=true) (v:=.rl (((others ts P).filter (λz=>!decide (z=y))).map .int)) rfl]
 ·rfl
 ·unfold EN
  simp only[EV,Hv.eE,e9,iU,length_map,hc];rw[fM Val.int Val.int (λz=>!decide (z=y)) (others ts P) (λz hz=>by
   simp only[EV,bR]
   by_cases c:z=y<;>simp[c])]
  simp only[EV,bT]
theorem Mz(ok:aJ p q ts){x:Int}{P:List Int}(hP:∀y∈P,y∈nms ts){uw rA:Sl}:∃qY wK,bF (ak cR) [9] Va (EN ns p q ts [some (.sh,.int x),some (.sh,.rl (P.map .int)),some (.sh,.rl ((others ts P).map .int)),some (.ow,.rl []),uw,rA]) =
  .ok (.nx (EN ns p q ts [some (.sh,.int x),some (.sh,.rl (P.map .int)),some (.sh,.rl ((others ts P).map .int)),some (.ow,.rl (((nms ts).filter (gm p q ts P)).map .int)),qY,wK])):=by
 have he:aX (ak cR) (.var 3) (eE (EN ns p q ts [some (.sh,.int x),some (.sh,.rl (P.map .int)),some (.sh,.rl ((others ts P).map .int)),some (.ow,.rl []),uw,rA]))=.ok (false,.rl ((nms ts).map .int)):=by unfold EN;simp only[EV,Hv.eE,gk]
 unfold Va;rw[Eh Mn he e9];have lr:=wB ok (P:=others ts P) gq (oW ok);have key:=bC (us:=nms ts) (k:=λf=>Pr.ok f) (body:=λx env=>pb (pl (cA (.one 10) x env)) λenv'=>bK (ak cR) [9] b6 env') Val.int
  (λr:Pr wJ=>∃qY wK,r=.ok (.nx (EN ns p q ts [some (.sh,.int x),some (.sh,.rl (P.map .int)),some (.sh,.rl ((others ts P).map .int)),some (.ow,.rl (((nms ts).filter (gm p q ts P)).map .int)),qY,wK])))
  (mW:=EN ns p q ts [some (.sh,.int x),some (.sh,.rl (P.map .int)),some (.sh,.rl ((others ts P).map .int)),some (.ow,.rl []),uw,rA])
  (λdone env=>∃qY wK,env=EN ns p q ts [some (.sh,.int x),some (.sh,.rl (P.map .int)),some (.sh,.rl ((others ts P).map .int)),some (.ow,.rl ((done.filter (gm p q ts P)).map .int)),qY,wK])
  ⟨uw,rA,rfl⟩ (by
   rintro pre y post env hx ⟨c,c',rfl⟩;have hpl:(pre.filter (gm p q ts P)).length<64:=by have:=List.length_filter_le (gm p q ts P) pre;have:=congrArg length hx;rw[length_append,length_cons] at this;have:=gE ok;omega
   have zz:((pre.filter (gm p q ts P)).map Val.int).length<sizeLine:=by rw[length_map];unfold sizeLine;omega
   have WE:(pre.filter (gm p q ts P)).map Val.int++[.int y]=(pre.filter (gm p q ts P)++[y]).map .int:=by rw[map_append];rfl
   have lf:=wB ok (P:=(others ts P).filter (λz=>!decide (z=y))) (λz hz=>gq z (mem_filter.mp hz).1) (le_trans (List.length_filter_le _ _) (oW ok));refine⟨EN ns p q ts [some (.sh,.int x),some (.sh,.rl (P.map .int)),some (.sh,.rl ((others ts P).map .int)),some (.ow,.rl (((pre++[y]).filter (gm p q ts P)).map .int)),some (.sh,.int y),some (.sh,.rl (((others ts P).filter (λz=>!decide (z=y))).map .int))],?_,_,_,rfl⟩;have e1:=My (ns:=ns) ok (x:=x) (y:=y) (P:=P) (d:=(pre.filter (gm p q ts P)).map .int) (rA:=c');rw[List.filter_append];have hF:gm p q ts P y=(decide (y∈P)||decide ((cU p q ts ((others ts P).filter (λz=>!decide (z=y))):Int)<cU p q ts (others ts P))):=rfl;generalize (others ts P).filter (λz=>!decide (z=y))=fw at e1 lf hF |-;have eb:bF (ak cR) [9] U9 (EN ns p q ts [some (.sh,.int x),some (.sh,.rl (P.map .int)),some (.sh,.rl ((others ts P).map .int)),some (.ow,.rl ((pre.filter (gm p q ts P)).map .int)),some (.sh,.int y),some (.sh,.rl (fw.map .int))])=.ok (.nx (EN ns p q ts [some (.sh,.int x),some (.sh,.rl (P.map .int)),some (.sh,.rl ((others ts P).map .int)),some (.ow,.rl ((pre.filter (gm p q ts P)++[y].filter (gm p q ts P)).map .int)),some (.sh,.int y),some (.sh,.rl (fw.map .int))])):=by
    unfold U9 EN
    by_cases c1:y∈P
    ·have hT:gm p q ts P y=true:=by rw[hF];simp[c1]
     rw[show [y].filter (gm p q ts P)=[y] by simp[hT]];simp only[EV,bK,bF,Hv.ck,vN,c1,decide_true,zz,WE,gk]
    ·by_cases c2:(cU p q ts fw:Int)<cU p q ts (others ts P)
     ·have hT:gm p q ts P y=true:=by rw[hF];simp[c2]
      rw[show [y].filter (gm p q ts P)=[y] by simp[hT]];simp only[EV,bK,bF,Hv.ck,vN,c1,decide_false,jK,lf,lr,c2,decide_true,zz,WE,gk]
     ·have hT:gm p q ts P y=false:=by rw[hF];simp[c1,c2]
      rw[show [y].filter (gm p q ts P)=[] by simp[hT],append_nil];simp only[EV,bK,bF,Hv.ck,vN,c1,decide_false,jK,lf,lr,c2]
   show bK (ak cR) [9] b6 (EN ns p q ts [some (.sh,.int x),some (.sh,.rl (P.map .int)),some (.sh,.rl ((others ts P).map .int)),some (.ow,.rl ((pre.filter (gm p q ts P)).map .int)),some (.sh,.int y),c'])=_;unfold b6;rw[bH e1,bH eb,bK]) (by
   rintro env ⟨c,c',rfl⟩;exact⟨c,c',rfl⟩)
 cases e:iV (λx env=>pb (pl (cA (.one 10) x env)) λenv'=>bK (ak cR) [9] b6 env') ((nms ts).map Val.int) (EN ns p q ts [some (.sh,.int x),some (.sh,.rl (P.map .int)),some (.sh,.rl ((others ts P).map .int)),some (.ow,.rl []),uw,rA]) with
 | ok f=>rw[e] at key;exact key
 | exc _ _=>rw[e] at key;exact key
 | no=>rw[e] at key;exact key
theorem MA(ok:aJ p q ts){x:Int}{P:List Int}(hn:P.Nodup)(hP:∀y∈P,y∈nms ts){c8 qY wK:Sl}:bF (ak cR) [9] JV (EN ns p q ts [some (.sh,.int x),some (.sh,.rl (P.map .int)),c8,some (.ow,.rl (((nms ts).filter (gm p q ts P)).map .int)),qY,wK])=.ok (.nx (EN ns p q ts [some (.sh,.int x),some (.sh,.rl (P.map .int)),c8,some (.ow,.rl (((nms ts).filter (gm p q ts P)).map .int)),qY,wK])):=by
 have rc:=qM (κ:=1) (by decide) ok hn hP;rw[U7 ok] at rc;have mr:=m2 (κ:=1) (by decide) (p:=p) (q:=q) (ts:=ts) (m:="reach") (j:=20) (by decide);unfold JV;refine wH (f:=true) ?_;unfold EN;simp only[EV,Hv.ck,mr,gk,fu,rc,Hr]
theorem HG(ok:aJ p q ts){x:Int}{c7 c8 c9 uw rA:Sl}:∃d7 d8 d9 qY wK,bK (ak cR) [9] oh (EN ns p q ts [some (.sh,.int x),c7,c8,c9,uw,rA])=.ok (.nx (EN ns p q ts [some (.sh,.int x),d7,d8,d9,qY,wK])):=by
 obtain⟨P,⟨hn,hP⟩,e1⟩:=Mv (ns:=ns) ok (x:=x) (c7:=c7) (r:=[c8,c9,uw,rA]);obtain⟨qY,wK,e6⟩:=Mz (ns:=ns) ok (x:=x) hP (uw:=uw) (rA:=rA);refine⟨some (.sh,.rl (P.map .int)),some (.sh,.rl ((others ts P).map .int)),some (.ow,.rl (((nms ts).filter (gm p q ts P)).map .int)),qY,wK,?_⟩;unfold oh;rw[bH e1,bH (Mw ok),bH (Ej ok hn hP (.inl ⟨rfl,rfl,rfl,rfl⟩)),bH (Ej ok hn hP (.inr ⟨rfl,rfl,rfl,rfl⟩)),bH Mx,bH e6,bH (MA ok hn hP),bK]
theorem HH(hns:ns.length<=63)(ok:aJ p q ts):∃r:List Sl,bF (ak cR) [9] (.for (.one 6) .seq (.cons qN .nil) oh) (EN ns p q ts [none,none,none,none,none,none])=.ok (.nx (EN ns p q ts r)):=by
 have z1:1<=sizeLine:=by decide
 have aac:(dR ns (some 11) (some 37)).length<=63:=by have:=Dd ns (some 11) (some 37);omega
 have Qk:j3 .add (.rl [.int 0]) (.rl ((dR ns (some 11) (some 37)).map .int))=.ok (bw ((0::dR ns (some 11) (some 37)).map .int),.rl ((0::dR ns (some 11) (some 37)).map .int)):=by rw[yh (by rw[length_map];simp;unfold sizeLine;omega)];rfl
 generalize (0::dR ns (some 11) (some 37))=Ls at Qk;have he:aX (ak cR) qN (eE (EN ns p q ts [none,none,none,none,none,none]))=.ok (bw (Ls.map .int),.rl (Ls.map .int)):=by unfold qN EN;simp only[EV,Hv.eE,z1,IL,vM,Qk]
 rw[Eh (e:=qN) HF he e9];have key:=bC (us:=Ls) (k:=λf=>Pr.ok f) (body:=λx env=>pb (pl (cA (.one 6) x env)) λenv'=>bK (ak cR) [9] oh env') Val.int
  (λr:Pr wJ=>∃s:List Sl,r=.ok (.nx (EN ns p q ts s)))
  (mW:=EN ns p q ts [none,none,none,none,none,none])
  (λdone env=>∃c6 c7 c8 c9 uw rA,env=EN ns p q ts [c6,c7,c8,c9,uw,rA])
  ⟨none,none,none,none,none,none,rfl⟩ (by
   rintro pre x post env hx ⟨c6,c7,c8,c9,uw,rA,rfl⟩;obtain⟨d7,d8,d9,qY,wK,h⟩:=HG (ns:=ns) ok (x:=x) (c7:=c7) (c8:=c8) (c9:=c9) (uw:=uw) (rA:=rA);exact⟨_,h,_,d7,d8,d9,qY,wK,rfl⟩) (by
   rintro env ⟨c6,c7,c8,c9,uw,rA,rfl⟩;exact⟨_,rfl⟩)
 cases e:iV (λx env=>pb (pl (cA (.one 6) x env)) λenv'=>bK (ak cR) [9] oh env') (Ls.map Val.int) (EN ns p q ts [none,none,none,none,none,none]) with
 | ok f=>rw[e] at key;exact key
 | exc _ _=>rw[e] at key;exact key
 | no=>rw[e] at key;exact key
end
theorem MB:aX Ψ Vb env=.ok (true,.int (10 ^ (18:Int).toNat)):=by
 unfold Vb;simp only[aX,bT,zk (show decide ((0:Int)<=18/\(18:Int)<=1000000/\(10:Int).natAbs<2 ^ 64)=true by decide)];rfl
theorem MC(ns:List Int)(hn:ns.length<=63):∃f,DP [.rl (ns.map .int)]=.ok (f,.bl true):=by
 have c2:bG [.rl (ns.map .int),.int 2]=.ok (true,.int (cellAt ns 2)):=gD ns 2;have c3:bG [.rl (ns.map .int),.int 3]=.ok (true,.int (cellAt ns 3)):=gD ns 3;generalize cellAt ns 2=sz at *;generalize cellAt ns 3=k3 at *;have hcl:(dR ns (some 3) (some (3+sz/56%9))).length<=14:=by obtain⟨k,hk⟩:=eq_ofNat_of_zero_le (show 0<=sz/56%9 by omega);have h:=AN ns 3 k (by omega);rw[<-hk] at h;omega
 obtain⟨p0,q0,QL,en,ok0,_⟩:=Mf ns (dR ns (some 3) (some (3+sz/56%9))) hcl;obtain⟨p1,q1,WG,ea,ok1⟩:=yk ns;have e0:bF (ak cR) [9] (.asg (.one 1) Mp) [some (.sh,.rl (ns.map .int)),none,none,none,none,none,none,none,none,none,none,none]=.ok (.nx [some (.sh,.rl (ns.map .int)),some (.sh,cX p0 q0 QL),none,none,none,none,none,none,none,none,none,none]) :=
  jC (i:=1) (f:=true) (v:=cX p0 q0 QL) rfl (by unfold Mp;simp only[EV,Hv.eE,lg,c2,gn (show ic 56=true by decide),gb (show decide ((0:Int)<9)=true by decide),IL,vM,ug,en])
 have key:∀p q ts,aJ p q ts->bK (ak cR) [9] (.cons (.asg (.one 2) (.call 3 (.cons (.var 1) .nil))) (.cons (.asg (.one 3) (.skeys (.var 2))) (.cons (.asg (.one 4) (.call 7 (.cons (.var 1) .nil))) (.cons (.asg (.one 5) (.call 13 (.cons (.var 1) .nil))) (.cons (.iff Ms (.cons (.ret (.cst (.bl false))) .nil) .nil) (.cons (.for (.one 6) .seq (.cons qN .nil) oh) (.cons (.ret (.cst (.bl true))) .nil))))))) [some (.sh,.rl (ns.map .int)),some (.sh,cX p q ts),none,none,none,none,none,none,none,none,none,none]=.ok (.rt (true,.bl true)):=λp q ts ok=>by
  have ee:=wz ok;have hN:(nms ts).length<64:=by have:=gE ok;omega
  have sk:lC [] (lI p q ts)=some (nms ts):=by unfold lI;rw[Dr hN,DX ok]
  have r1:kK [cX p q ts]=.ok (true,kB 0 p q ts):=wu lH ku ok;have r2:mL [cX p q ts]=.ok (true,gY 1 p q ts (cU p q ts (nms ts))):=D8 (by decide) iN gW kT iO ok;have o0:kB 0 p q ts=jO 0 p q ts:=rfl;have o1:gY 1 p q ts (cU p q ts (nms ts))=jO 1 p q ts:=rfl;rw[o0] at r1;rw[o1] at r2;obtain⟨r,e1⟩:=HH hn ok;rw[bH (jC (i:=2) (f:=true) (v:=lI p q ts) rfl (by simp only[EV,Hv.eE,rj,ee]))];simp only[set_cons_succ,set_cons_zero];rw[bH (jC (i:=3) (f:=true) (v:=.rl ((nms ts).map .int)) rfl (by simp only[EV,Hv.eE,sk]))];simp only[set_cons_succ,set_cons_zero];rw[bH (jC (i:=4) (f:=true) (v:=jO 0 p q ts) rfl (by simp only[EV,Hv.eE,qC,r1]))];simp only[set_cons_succ,set_cons_zero];rw[bH (jC (i:=5) (f:=true) (v:=jO 1 p q ts) rfl (by simp only[EV,Hv.eE,rm,r2]))];simp only[set_cons_succ,set_cons_zero];rw[bH (wH (f:=true) (by unfold Ms;simp only[EV,Hv.ck,zJ (κ:=0) (by decide),zJ (κ:=1) (by decide)]))];have e2:bK (ak cR) [9] (.cons (.for (.one 6) .seq (.cons qN .nil) oh) (.cons (.ret (.cst (.bl true))) .nil)) (EN ns p q ts [none,none,none,none,none,none])=.ok (.rt (true,.bl true)):=by rw[bH e1];rfl
  exact e2
 have ev:∃b,aX (ak cR) (.and Ei Mq) (ck [some (.sh,.rl (ns.map .int)),some (.sh,cX p0 q0 QL),none,none,none,none,none,none,none,none,none,none])=.ok (true,.bl b):=by
  unfold Ei Mq
  by_cases h:(ns.length:Int)%2=0
  ·refine⟨decide ((10 ^ (18:Int).toNat:Int)<=k3),?_⟩;simp only[EV,Hv.ck,length_map,gb (show decide ((0:Int)<2)=true by decide),h,decide_true,lg,c3,MB];exact if_neg (by decide)
  ·refine⟨false,?_⟩;simp only[EV,Hv.ck,length_map,gb (show decide ((0:Int)<2)=true by decide),h,decide_false]
 obtain⟨b,ev⟩:=ev;have fin:bK (ak cR) [9] kj [some (.sh,.rl (ns.map .int)),none,none,none,none,none,none,none,none,none,none,none]=.ok (.rt (true,.bl true)):=by
  rw[Mt,bH e0];cases b with
  | false=>rw[bH (wH ev)];exact key _ _ _ ok0
  | true =>
   have e5:bF (ak cR) [9] (.asg (.one 1) Mr) [some (.sh,.rl (ns.map .int)),some (.sh,cX p0 q0 QL),none,none,none,none,none,none,none,none,none,none]=.ok (.nx [some (.sh,.rl (ns.map .int)),some (.sh,cX p1 q1 WG),none,none,none,none,none,none,none,none,none,none]) :=
    jC (i:=1) (f:=false) (v:=cX p1 q1 WG) rfl (by unfold Mr;simp only[EV,Hv.eE,nJ,ea])
   rw[bH (Qi ev (by rw[bH e5,bK]))];exact key _ _ _ ok1
 refine⟨true,?_⟩;show pb (bK (ak cR) (kg kj) kj [some (.sh,.rl (ns.map .int)),none,none,none,none,none,none,none,none,none,none,none]) _=_;rw[show kg kj=[9] from rfl,fin];rfl
theorem true(ns:List Int)(hn:ns.length<=63):∃h',zA [.rl (ns.map .int)] []=.ok (.bl true) h':=by
 obtain⟨f,e⟩:=MC ns hn;exact Hh e
end K26
end
end
section
namespace PySem.W.Fast
theorem tw16343040820257007721:True:=trivial
theorem tw17077450328884806118:True:=trivial
theorem tw5840460355291381304:True:=trivial
theorem tw15551803444160300365:True:=trivial
theorem tw16945057845058281550:True:=trivial
theorem tw15963078219835663385:True:=trivial
theorem tw11171548848768108577:True:=trivial
theorem tw15077809639101554864:True:=trivial
theorem tw5866622393649313595:True:=trivial
theorem tw6085725481451620996:True:=trivial
theorem tw11760675041703542750:True:=trivial
theorem tw4897749942799806259:True:=trivial
theorem tw10888793715476517072:True:=trivial
theorem tw951329677446577814:True:=trivial
theorem tw8359938995432536798:True:=trivial
theorem tw2824037315345349435:True:=trivial
theorem tw6457900971204428503:True:=trivial
theorem tw8372092030001149836:True:=trivial
theorem tw8754588345738188666:True:=trivial
theorem tw7975176079194444730:True:=trivial
theorem tw1240966574978215633:True:=trivial
theorem tw9771273131530143601:True:=trivial
theorem tw16519590797845113122:True:=trivial
theorem tw17854910423836335516:True:=trivial
theorem tw5331796276054551100:True:=trivial
theorem tw14703485076790783110:True:=trivial
theorem tw1031915153578079636:True:=trivial
theorem tw12306162971695165160:True:=trivial
theorem tw14214359701411128563:True:=trivial
theorem tw13437747793427916006:True:=trivial
theorem tw3861201299061357232:True:=trivial
theorem tw12037999089522863135:True:=trivial
theorem tw11925376395154603945:True:=trivial
theorem tw8343967545760556078:True:=trivial
theorem tw11677883598902152563:True:=trivial
theorem tw11698290780313787630:True:=trivial
theorem tw13302185566840003404:True:=trivial
theorem tw10660929536232338014:True:=trivial
theorem tw1202396549076548210:True:=trivial
theorem tw2027404911607958857:True:=trivial
theorem tw12381069368808905134:True:=trivial
theorem tw14825038996083151204:True:=trivial
theorem tw17090328775156194552:True:=trivial
theorem tw16474266478602800498:True:=trivial
theorem tw5804646542410982155:True:=trivial
theorem tw16059523948002233166:True:=trivial
theorem tw14946438032860221739:True:=trivial
theorem tw14355432375031553559:True:=trivial
theorem tw16123450278382413400:True:=trivial
theorem tw4873974732499570121:True:=trivial
theorem tw482513445588975485:True:=trivial
theorem tw1233233145146385350:True:=trivial
theorem tw8166879334240730464:True:=trivial
theorem tw5273297238696470635:True:=trivial
theorem tw8176166974773244702:True:=trivial
theorem tw12452462521030815700:True:=trivial
theorem tw6306625722521981396:True:=trivial
theorem tw8603996595750856014:True:=trivial
theorem tw12995896434151338897:True:=trivial
theorem tw17172871700361874096:True:=trivial
theorem tw52942307310130691:True:=trivial
theorem tw5922014140651656188:True:=trivial
theorem tw2352630307023846188:True:=trivial
theorem tw11222350065979144071:True:=trivial
theorem tw7555833484407118426:True:=trivial
theorem tw1462762864540880886:True:=trivial
theorem tw8900096962214285871:True:=trivial
theorem tw2528001828896593990:True:=trivial
theorem tw8206427088930037885:True:=trivial
theorem tw17801201851800244782:True:=trivial
theorem tw6304245951804708390:True:=trivial
theorem tw1871708115232592323:True:=trivial
theorem tw14788410237196091859:True:=trivial
theorem tw1662562709321926445:True:=trivial
theorem tw12303237892773891357:True:=trivial
theorem tw9496779171600468618:True:=trivial
theorem tw12356186593810363573:True:=trivial
end PySem.W.Fast
open PySem PySem.W PyProof.Rows
set_option maxRecDepth 100000 in
set_option maxHeartbeats 0 in
theorem PySem.Challenge.cw_linkorcut_k26_whole_trees_and_rest_holds : PySem.Challenge.rw_linkorcut_k26_whole_trees_and_rest.Holds := by
 w_on;o_law;k_head;(case hw=>w_witness2)
 k_fill
 refine Hv.walk (l:=PySem.Challenge.rw_linkorcut_k26_whole_trees_and_rest) (k:=46) (x:="_law_script") rfl rfl ⟨rfl,by decide,by decide⟩ (λw h Y=>PySem.W.kIn_of Y) ?F
 case F =>
  intro w mg fa h KX G hmg;refine' K26.all_mk KX G hmg K26.true ?DA0 ?DG0 ?DH0 ?DO0 ?DS0 ?DM0 ?DK0 ?DN0_0 ?DN0_1 ?DN0_2 ?DN0_3 ?DA1 ?DG1 ?DH1 ?DO1 ?DS1 ?DM1 ?DK1 ?DN1_0 ?DN1_1 ?DN1_2 ?DN1_3 ?EA0 ?EG0 ?ER0 ?EK0_0 ?EK0_1 ?TN ?TT ?TA0 ?TM0 ?TA1 ?TM1 ?A0 ?L0 ?C0 ?Q0 ?A1 ?L1 ?C1 ?Q1 ?A2 ?L2 ?C2 ?Q2 ?A3 ?L3 ?C3 ?Q3 ?A4 ?L4 ?C4 ?Q4 ?A5 ?L5 ?C5 ?Q5 ?A6 ?L6 ?C6 ?Q6 ?A7 ?I7 ?L7 ?C7 ?Q7 ?EF0_8 ?I8 ?L8 ?C8 ?Q8 ?A9 ?L9 ?C9 ?Q9 ?M0_10 ?M1_10 ?I10 ?L10 ?C10 ?Q10 ?A11 ?L11 ?C11 ?Q11 ?M0_12 ?M1_12 ?I12 ?L12 ?C12 ?Q12 ?A13 ?I13 ?L13 ?C13 ?Q13 ?A14 ?L14 ?C14 ?Q14 ?A15 ?L15 ?C15 ?Q15 ?A16 ?L16 ?C16 ?Q16 ?M0_17 ?I17 ?L17 ?C17 ?Q17 ?M1_18 ?I18 ?L18 ?C18 ?Q18 ?M0_19 ?M1_19 ?I19 ?L19 ?C19 ?Q19 ?M0_20 ?M1_20 ?I20 ?L20 ?C20 ?Q20 ?A21 ?L21 ?C21 ?Q21 ?A22 ?L22 ?C22 ?Q22 ?Z0 ?Z1 ?Z2 ?Z3 ?Z4 ?Z5 ?Z6 ?Z7 ?Z8 ?Z9 ?Z10 ?Z11 ?Z12 ?Z13 ?Z14 ?Z15 ?Z16 ?V0
  (case DA0=>k_is)
  (case DG0=>k_is)
  (case DH0=>k_is)
  (case DO0=>k_is)
  (case DS0=>k_is)
  (case DM0=>k_is)
  (case DK0=>k_is)
  (case DN0_0=>k_is)
  (case DN0_1=>k_is)
  (case DN0_2=>k_is)
  (case DN0_3=>k_is)
  (case DA1=>k_is)
  (case DG1=>k_is)
  (case DH1=>k_is)
  (case DO1=>k_is)
  (case DS1=>k_is)
  (case DM1=>k_is)
  (case DK1=>k_is)
  (case DN1_0=>k_is)
  (case DN1_1=>k_is)
  (case DN1_2=>k_is)
  (case DN1_3=>k_is)
  (case EA0=>k_is)
  (case EG0=>k_is)
  (case ER0=>k_is)
  (case EK0_0=>kit_is)
  (case EK0_1=>kit_is)
  (case TN=>k_is)
  (case TT=>k_is)
  (case TA0=>k_is)
  (case TM0=>k_is)
  (case TA1=>k_is)
  (case TM1=>k_is)
  (case A0=>k_is)
  (case L0=>k_is)
  (case C0=>k_is)
  (case Q0=>k_is)
  (case A1=>k_is)
  (case L1=>k_is)
  (case C1=>k_is)
  (case Q1=>k_is)
  (case A2=>k_is)
  (case L2=>k_is)
  (case C2=>k_is)
  (case Q2=>k_is)
  (case A3=>k_is)
  (case L3=>k_is)
  (case C3=>k_is)
  (case Q3=>k_is)
  (case A4=>k_is)
  (case L4=>k_is)
  (case C4=>k_is)
  (case Q4=>k_is)
  (case A5=>k_is)
  (case L5=>k_is)
  (case C5=>k_is)
  (case Q5=>k_is)
  (case A6=>k_is)
  (case L6=>k_is)
  (case C6=>k_is)
  (case Q6=>k_is)
  (case A7=>k_is)
  (case I7=>k_is)
  (case L7=>k_is)
  (case C7=>k_is)
  (case Q7=>k_is)
  (case EF0_8=>k_is)
  (case I8=>k_is)
  (case L8=>k_is)
  (case C8=>k_is)
  (case Q8=>k_is)
  (case A9=>k_is)
  (case L9=>k_is)
  (case C9=>k_is)
  (case Q9=>k_is)
  (case M0_10=>k_is)
  (case M1_10=>k_is)
  (case I10=>k_is)
  (case L10=>k_is)
  (case C10=>k_is)
  (case Q10=>k_is)
  (case A11=>k_is)
  (case L11=>k_is)
  (case C11=>k_is)
  (case Q11=>k_is)
  (case M0_12=>k_is)
  (case M1_12=>k_is)
  (case I12=>k_is)
  (case L12=>k_is)
  (case C12=>k_is)
  (case Q12=>k_is)
  (case A13=>k_is)
  (case I13=>k_is)
  (case L13=>k_is)
  (case C13=>k_is)
  (case Q13=>k_is)
  (case A14=>k_is)
  (case L14=>k_is)
  (case C14=>k_is)
  (case Q14=>k_is)
  (case A15=>k_is)
  (case L15=>k_is)
  (case C15=>k_is)
  (case Q15=>k_is)
  (case A16=>k_is)
  (case L16=>k_is)
  (case C16=>k_is)
  (case Q16=>k_is)
  (case M0_17=>k_is)
  (case I17=>k_is)
  (case L17=>k_is)
  (case C17=>k_is)
  (case Q17=>k_is)
  (case M1_18=>k_is)
  (case I18=>k_is)
  (case L18=>k_is)
  (case C18=>k_is)
  (case Q18=>k_is)
  (case M0_19=>k_is)
  (case M1_19=>k_is)
  (case I19=>k_is)
  (case L19=>k_is)
  (case C19=>k_is)
  (case Q19=>k_is)
  (case M0_20=>k_is)
  (case M1_20=>k_is)
  (case I20=>k_is)
  (case L20=>k_is)
  (case C20=>k_is)
  (case Q20=>k_is)
  (case A21=>k_is)
  (case L21=>k_is)
  (case C21=>k_is)
  (case Q21=>k_is)
  (case A22=>k_is)
  (case L22=>k_is)
  (case C22=>k_is)
  (case Q22=>k_is)
  (case Z0=>k_is)
  (case Z1=>k_is)
  (case Z2=>k_is)
  (case Z3=>k_is)
  (case Z4=>k_is)
  (case Z5=>k_is)
  (case Z6=>k_is)
  (case Z7=>k_is)
  (case Z8=>k_is)
  (case Z9=>k_is)
  (case Z10=>k_is)
  (case Z11=>k_is)
  (case Z12=>k_is)
  (case Z13=>k_is)
  (case Z14=>k_is)
  (case Z15=>k_is)
  (case Z16=>k_is)
  (case V0=>k_is)
#print axioms PySem.Challenge.cw_linkorcut_k26_whole_trees_and_rest_holds
end
