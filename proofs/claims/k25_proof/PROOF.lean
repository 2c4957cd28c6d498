import PyProof.Rows.All
import Wide.All
import OpenK.AllK
import Wide.FinOn
import Lean
import PyProof.EqAt
import PyProof.EqKinds
import PyProof.TupleCall
import KE.KDictList
import KE.KDictLaws
import KE.KDictSum
import KE.KRevSl
import PyProof.DictWalks
import PySem.Challenge.RW_linkorcut_k25_whole_ranks
set_option Elab.async false
set_option compiler.extract_closed false
set_option linter.all false
set_option maxRecDepth 100000
set_option maxHeartbeats 4000000
set_option genSizeOf false
set_option backward.eqns.nonrecursive false
set_option backward.eqns.deepRecursiveSplit false
set_option bootstrap.genMatcherCode false
open Array(getElem?_toList length_toList toList)
open Bool(and_eq_true false_eq_true not_eq_true' or_eq_true)
open Classical(byContradiction choose_spec)
open PySem.Heap(get?_push_of_some get?_push_size get?_update_other get?_update_self lt_size size_push)
open Int(emod_lt_of_pos emod_nonneg eq_ofNat_of_zero_le not_lt)
open List(all_cons all_eq_true any_cons any_eq_true any_map append_nil cons_append contains_iff_mem elem_nil ext_getElem filter_congr filter_sublist find?_cons getElem?_append_left getElem?_append_right getElem?_cons_succ getElem?_map getElem?_set_ne getElem?_set_self getElem_map getElem_of_mem length length_append length_cons length_drop length_map length_nil length_range length_set length_take lookup_cons map_append map_congr_left map_cons map_id map_map map_nil mem_append mem_append_left mem_append_right mem_cons mem_cons_of_mem mem_cons_self mem_filter mem_map mem_map_of_mem mem_of_getElem? mem_singleton nil_append nodup_append nodup_cons nodup_nil not_mem_nil of_mem_zip pairwise_cons pairwise_iff_getElem pairwise_map prefix_append prefix_refl range' replicate reverse_cons set_cons_succ set_cons_zero size_toArray toArray zip_cons_cons)
open Nat(le_succ le_trans lt_irrefl lt_of_lt_of_le lt_succ_of_lt lt_succ_self lt_trans mod_lt ne_of_lt zero_le)
open Option(bind_eq_some_iff bind_some getD_none isSome_map map_eq_some_iff map_some)
open PySem.W(callWith_K callWith_K0 cellsFrom_some codeIn emptyDict eq_sortI findCls findIn handedIn hasDictIn instObj kat_lt keepIn kia_one kitOne kitx_list lookIn makesIn methodObj mg_none_of mg_of plainGet plainGet_of plainOver readsIn sortI_perm specialIn takerIn typeIn)
section
namespace L2
open PySem PySem.Spec PyProof.Rows
noncomputable abbrev Key:=Sum Int Str
noncomputable def pH:Key->Value->Bool
 | .inl k,v=>Value.isInt k v
 | .inr x,v=>Value.isStrOf x v
noncomputable def RC(w:World):Key->Int
 | .inl k=>hashInt k
 | .inr x=>hashStr w x
theorem bN:∀{k:Key} {v:Value},pH k v=true->(∃i t,k=Sum.inl i/\v=Value.int i t)\/(∃x t,k=Sum.inr x/\v=Value.str x t)
 | .inl i,v,h=>by
  obtain⟨t,e⟩:=Value.isInt_shape (k:=i) (v:=v) h;exact .inl ⟨i,t,rfl,e⟩
 | .inr x,v,h=>by
  obtain⟨t,e⟩:=Value.isStrOf_shape (x:=x) (v:=v) h;exact .inr ⟨x,t,rfl,e⟩
theorem Ab(i:Int)(t:Tok):pH (.inl i) (.int i t)=true:=by simp[pH,Value.isInt]
theorem Ac(x:Str)(t:Tok):pH (.inr x) (.str x t)=true:=by simp[pH,Value.isStrOf]
theorem JG(a b:Int):decide ((Sum.inl a:Key)=Sum.inl b)=(a==b):=by
 by_cases e:a=b
 ·subst e;simp
 ·have h:¬ (Sum.inl a:Key)=Sum.inl b:=λq=>e (Sum.inl.inj q);rw[decide_eq_false h];exact(beq_eq_false_iff_ne.mpr e).symm
theorem JH(a b:Str):decide ((Sum.inr a:Key)=Sum.inr b)=decide (a=b):=by
 by_cases e:a=b
 ·subst e;simp
 ·have h:¬ (Sum.inr a:Key)=Sum.inr b:=λq=>e (Sum.inr.inj q);rw[decide_eq_false h,decide_eq_false e]
theorem JI(a:Int)(b:Str):decide ((Sum.inl a:Key)=Sum.inr b)=false:=decide_eq_false (λq=>nomatch q)
theorem JJ(a:Str)(b:Int):decide ((Sum.inr a:Key)=Sum.inl b)=false:=decide_eq_false (λq=>nomatch q)
noncomputable def aY(prog:Program)(w:World):PySem.KeyKind prog w Key where
 is:=pH
 hash:=RC w
 inj:=λv a b ha hb=>by
  rcases bN ha with ⟨i,t,rfl,rfl⟩|⟨x,t,rfl,rfl⟩
  ·rcases bN hb with ⟨j,u,rfl,e⟩|⟨y,u,rfl,e⟩
   ·injection e with e1 _;rw[e1]
   ·exact nomatch e
  ·rcases bN hb with ⟨j,u,rfl,e⟩|⟨y,u,rfl,e⟩
   ·exact nomatch e
   ·injection e with e1 _;rw[e1]
 byValue:=λk v h=>by
  rcases bN h with ⟨i,t,rfl,rfl⟩|⟨x,t,rfl,rfl⟩<;>rfl
 pyHash:=λhv h=>by
  rcases bN hv with ⟨i,t,rfl,rfl⟩|⟨x,t,rfl,rfl⟩
  ·exact wpAny_pyHash_int h
  ·exact wpAny_pyHash_str h
 eqBool:=λhu hv h=>by
  rcases bN hu with ⟨i,t,rfl,rfl⟩|⟨x,t,rfl,rfl⟩
  ·rcases bN hv with ⟨j,u,rfl,rfl⟩|⟨y,u,rfl,rfl⟩
   ·rw[JG] at h;exact wpAny_eqBool_int h
   ·rw[JI] at h;exact SeqAt.EqAt.int_str i t y u _ _ _ _ h
  ·rcases bN hv with ⟨j,u,rfl,rfl⟩|⟨y,u,rfl,rfl⟩
   ·rw[JJ] at h;exact SeqAt.EqAt.str_int x t j u _ _ _ _ h
   ·rw[JH] at h;exact wpAny_eqBool_str h
 «strs»:=λk x t v h=>by
  rcases bN h with ⟨i,u,rfl,e⟩|⟨y,u,rfl,e⟩
  ·exact nomatch e
  ·injection e with e1 _
   subst e1;cases v<;>rfl
theorem xE(prog:Program)(w:World)(k:Key)(v:Value):(aY prog w).is k v=pH k v:=rfl
theorem uU(prog:Program)(w:World)(i:Int)(t:Tok):(aY prog w).is (.inl i) (.int i t)=true:=Ab i t
theorem uV(prog:Program)(w:World)(x:Str)(t:Tok):(aY prog w).is (.inr x) (.str x t)=true:=Ac x t
end L2
namespace L2
open PySem PySem.Spec PyProof.Rows
inductive V where
 | non|bl (b:Bool)|int (i:Int)|str (x:Str)|byt (b:Array UInt8)|flt (b:UInt64)|ref (a:Addr)|ty (n:String)
 deriving DecidableEq
noncomputable def RelV:V->Value->Prop
 | .non,u=>u=Value.none
 | .bl b,u=>u=Value.bool b
 | .int i,u=>∃t,u=Value.int i t
 | .str x,u=>∃t,u=Value.str x t
 | .byt b,u=>∃t,u=Value.bytes b t
 | .flt b,u=>∃t,u=Value.float b t
 | .ref a,u=>u=Value.ref a
 | .ty n,u=>u=Value.type n
noncomputable abbrev Vals:List V->List Value->Prop:=Paired RelV
theorem Vals.length(r:Vals xs us):xs.length=us.length:=Paired.length r
theorem Vals.get:∀{xs:List V} {us:List Value} {i:Nat} {x:V},Vals xs us->xs[i]?=some x->∃u,us[i]?=some u/\RelV x u
 | _,_,_,_,.nil,e=>by simp at e
 | _,_,0,_,.cons r _,e=>by simp at e;subst e;exact⟨_,rfl,r⟩
 | _,_,i+1,x,.cons _ t,e=>by
  obtain⟨u,h1,h2⟩:=Vals.get (i:=i) (x:=x) t (by simpa using e);exact⟨u,by simpa using h1,h2⟩
theorem Vals.set(r:RelV x u):∀{xs:List V} {us:List Value} (i:Nat),Vals xs us->Vals (xs.set i x) (us.set i u)
 | _,_,_,.nil=>.nil
 | _,_,0,.cons _ t=>.cons r t
 | _,_,i+1,.cons q t=>.cons q (Vals.set r i t)
theorem Vals.append:∀{xs ys:List V} {us ws:List Value},Vals xs us->Vals ys ws->Vals (xs++ys) (us++ws)
 | _,_,_,_,.nil,s=>s
 | _,_,_,_,.cons r t,s=>.cons r (Vals.append t s)
theorem Vals.take:∀{xs:List V} {us:List Value} (n:Nat),Vals xs us->Vals (xs.take n) (us.take n)
 | _,_,0,_=>.nil
 | _,_,_+1,.nil=>.nil
 | _,_,n+1,.cons r t=>.cons r (Vals.take n t)
theorem Vals.drop:∀{xs:List V} {us:List Value} (n:Nat),Vals xs us->Vals (xs.drop n) (us.drop n)
 | _,_,0,r=>r
 | _,_,_+1,.nil=>.nil
 | _,_,n+1,.cons _ t=>Vals.drop n t
noncomputable def jO:Option V->Option Value->Prop
 | some v,some u=>RelV v u
 | none,none=>True
 | _,_=>False
noncomputable def KV{κ:Type}:List (κ × V)->List (κ × Value)->Prop:=Paired λ(p:κ × V) (q:κ × Value)=>p.1=q.1/\RelV p.2 q.2
noncomputable def kV:Key->V
 | .inl i=>.int i
 | .inr x=>.str x
inductive HO where
  | lst (xs:List V)
  | tup (xs:List V)
  | dK (kvs:List (Key×V))|dT (kvs:List (List Key×V))
  | set (S:Int->Bool) (n:Nat)
  | ins (C dx:Addr) (fs:List (Str×V))
  | own (x:Addr)
  | xd (fs:List (Str×V))
  | met (f x:Addr)
  | rng (lo hi:Int)
  | rN (o:Obj) (u:HO)
  | tbl (ps:Array Value)
  | ext (φ:Heap->Prop)
noncomputable abbrev Hp:=Addr->Option HO
noncomputable def upd(H:Hp)(a:Addr)(o:HO):Hp:=λb=>if b=a then some o else H b
theorem aU:upd H a o a=some o:=by unfold upd;rw[if_pos rfl]
theorem aA(h:b≠a):upd H a o b=H b:=by unfold upd;rw[if_neg h]
theorem Ni{H:Hp}{a b:Addr}{o u:HO}(h:H a=some o)(h':H b=some u)(d:o≠u):a≠b:=by
 intro e;subst e;rw[h] at h';exact d (Option.some.inj h')
theorem aG{H:Hp}{a b:Addr}{o:HO}(h:H a=some o)(h':H b=none):a≠b:=by
 intro e;subst e;rw[h] at h';cases h'
section
variable (P:Program) (w:World)
noncomputable def bY(H:Hp)(h:Heap)(a:Addr):HO->Prop
 | .lst xs=>xs.length<=sizeLine/\∃(its:List Value) (n:Nat),Vals xs its/\h.get? a=some { cls:=.type "list",data:=.seq its.toArray n }
 | .tup xs=>xs.length<=sizeLine/\∃its:List Value,Vals xs its/\IsTup h a its.toArray
 | .dK kvs=>kvs.length<=sizeLine/\(a==sysModules)=false/\∃vs,KV kvs vs/\h.DictOf (aY P w) a vs
 | .dT kvs=>kvs.length<=sizeLine/\(a==sysModules)=false/\∃xs:List (List Key×Addr×Value),
   Paired (λ(p:List Key×V) (q:List Key×Addr×Value)=>p.1=q.1/\H q.2.1=some (.tup (p.1.map kV))/\RelV p.2 q.2.2) kvs xs /\
   ∃o es ep,h.get? a=some o/\o.ExactDict/\o.data=.dict es ep/\es.toList=xs.map (entryOfKey (tupleKind (aY P w)))/\(xs.map (·.1)).Nodup
 | .set S n=>h.SetOf (intKind P w) a S n
 | .ins C dx fs=>H dx=some (.own a)/\fs.length<=1000/\dx≠a/\h.get? a=some (instObj C dx) /\
   ∃mA,h.Ns1 dx mA/\(∀f,jO (fs.lookup f) (mA f))/\PySem.Within mA (fs.map (·.1))
 | .own _=>∃o,h.get? a=some o
 | .xd fs=>∃mA,h.Ns1 a mA/\∀f,jO (fs.lookup f) (mA f)
 | .rng lo hi=>∃t u v,h.get? a=some { cls:=.type "range",data:=.fields #[.int lo t,.int hi u,.int 1 v] }
 | .rN o u=>h.get? a=some o/\bY H h a u
 | .tbl ps=>h.get? a=some { cls:=.none,data:=.fields ps }
 | .met f x=>h.get? a=some (methodObj (.ref f) (.ref x))
 | .ext φ=>φ h/\(∃o,h.get? a=some o)/\∀h1 h2:Heap,φ h1->(∀o,h1.get? a=some o->h2.get? a=some o) -> φ h2
noncomputable def lC(H:Hp)(h:Heap):Prop:=∀a o,H a=some o->bY P w H h a o
end
section
variable {P:Program} {w:World} {H H':Hp} {h h':Heap} {a:Addr} {o:HO}
theorem bY.lt(x:bY P w H h a o):a<h.objs.size:=by
 cases o with
 | lst xs=>obtain⟨_,_,_,_,e⟩:=x;exact lt_size e
 | tup xs=>obtain⟨_,_,_,p⟩:=x;exact p.lt
 | dK kvs=>obtain⟨_,_,_,_,o,_,_,e,_⟩:=x;exact lt_size e
 | dT kvs=>obtain⟨_,_,_,_,o,_,_,e,_⟩:=x;exact lt_size e
 | set S n=>obtain⟨o,_,_,_,e,_⟩:=x;exact lt_size e
 | ins C dx fs=>obtain⟨_,_,_,e,_⟩:=x;exact lt_size e
 | own y=>obtain⟨_,e⟩:=x;exact lt_size e
 | xd fs=>obtain⟨_,⟨_,_,_,e,_⟩,_⟩:=x;exact lt_size e
 | rng lo hi=>obtain⟨_,_,_,e⟩:=x;exact lt_size e
 | rN ob u=>obtain⟨e,_⟩:=x;exact lt_size e
 | tbl ps=>exact lt_size (show h.get? a=some _ from x)
 | met f y=>exact lt_size (show h.get? a=some _ from x)
 | ext φ=>obtain⟨_,⟨_,e⟩,_⟩:=x;exact lt_size e
theorem Paired.JK{α β:Type}{F G:α -> β -> Prop}:∀{l₁:List α} {l₂:List β},Paired F l₁ l₂->(∀a b,F a b->G a b)->Paired G l₁ l₂
 | _,_,.nil,_=>.nil
 | _,_,.cons r t,f=>.cons (f _ _ r) (Paired.JK t f)
theorem bY.stay(x:bY P w H h a o)(k:∀b u,(b=a\/H b=some (.own a))->h.get? b=some u->h'.get? b=some u)
  (ho:∀b,H b=some (.own a)->H' b=some (.own a)) (ht:∀b xs,H b=some (.tup xs)->H' b=some (.tup xs)):bY P w H' h' a o:=by
 induction o with
 | lst xs=>obtain⟨z,its,n,r,e⟩:=x;exact⟨z,its,n,r,k _ _ (.inl rfl) e⟩
 | tup xs=>obtain⟨z,its,r,ob,e,c⟩:=x;exact⟨z,its,r,ob,k _ _ (.inl rfl) e,c⟩
 | dK kvs=>obtain⟨z,y,vs,r,ob,es,ep,e,c⟩:=x;exact⟨z,y,vs,r,ob,es,ep,k _ _ (.inl rfl) e,c⟩
 | dT kvs =>obtain⟨z,y,xs,r,ob,es,ep,e,c⟩:=x;exact⟨z,y,xs,Paired.JK r λp q z=>⟨z.1,ht _ _ z.2.1,z.2.2⟩,ob,es,ep,k _ _ (.inl rfl) e,c⟩
 | set S n=>obtain⟨ob,es,ep,t,e,c⟩:=x;exact⟨ob,es,ep,t,k _ _ (.inl rfl) e,c⟩
 | ins C dx fs =>obtain⟨d,z,ne,e,mA,⟨od,es,ep,e2,c⟩,r⟩:=x;exact⟨ho _ d,z,ne,k _ _ (.inl rfl) e,mA,⟨od,es,ep,k _ _ (.inr d) e2,c⟩,r⟩
 | own y=>obtain⟨ob,e⟩:=x;exact⟨ob,k _ _ (.inl rfl) e⟩
 | xd fs=>obtain⟨mA,⟨od,es,ep,e,c⟩,r⟩:=x;exact⟨mA,⟨od,es,ep,k _ _ (.inl rfl) e,c⟩,r⟩
 | rng lo hi=>obtain⟨t,u,v,e⟩:=x;exact⟨t,u,v,k _ _ (.inl rfl) e⟩
 | rN ob u ih=>obtain⟨e,q⟩:=x;exact⟨k _ _ (.inl rfl) e,ih q⟩
 | tbl ps =>have e:h.get? a=some { cls:=.none,data:=.fields ps }:=x;show h'.get? a=some { cls:=.none,data:=.fields ps };exact k a _ (.inl rfl) e
 | met f y =>have e:h.get? a=some (methodObj (.ref f) (.ref y)):=x;show h'.get? a=some (methodObj (.ref f) (.ref y));exact k a _ (.inl rfl) e
 | ext φ=>obtain⟨p,⟨o,e⟩,st⟩:=x;exact⟨st _ _ p λo q=>k _ _ (.inl rfl) q,⟨o,k _ _ (.inl rfl) e⟩,st⟩
theorem lC.lt(x:lC P w H h)(e:H a=some o):a<h.objs.size:=(x a o e).lt
theorem lC.fresh(x:lC P w H h)(e:h.objs.size<=a):H a=none:=by
 cases q:H a with
 | none=>rfl
 | some u=>exact absurd (lt_of_lt_of_le (x.lt q) e) (lt_irrefl _)
theorem lC.kept(x:lC P w H h)(k:∀b u,h.get? b=some u->h'.get? b=some u):lC P w H h':=λa o e =>
 (x a o e).stay (λb u _ q=>k b u q) (λ_ q=>q) λ_ _ q=>q
theorem lC.laid(x:lC P w H h)(k:∀b u,h.get? b=some u->h'.get? b=some u)(hp:h.objs.size<=a)(new:bY P w (upd H a o) h' a o):lC P w (upd H a o) h':=λb u e=>by
 have hn:=x.fresh hp
 by_cases hb:b=a
 ·subst hb;rw[aU] at e;cases e;exact new
 ·rw[aA hb] at e;exact(x b u e).stay (λc v _ q=>k c v q) (λc q=>by rw[aA (aG q hn)];exact q) λc xs q=>by rw[aA (aG q hn)];exact q
end
noncomputable def Rd(H:Hp)(a:Addr)(u:HO):Prop:=H a=some u\/∃o,H a=some (.rN o u)
theorem Rd.ok(r:Rd H a u)(x:lC P w H h):bY P w H h a u:=by
 rcases r with r|⟨o,r⟩
 ·exact x a u r
 ·obtain⟨_,q⟩:=x a _ r;exact q
noncomputable def Nj:Option HO->Prop
 | some (.lst _)=>True
 | some (.dK _)=>True
 | some (.dT _)=>True
 | some (.set _ _)=>True
 | some (.ins _ _ _)=>True
 | some (.ext _)=>True
 | _=>False
section
variable {P:Program} {w:World} {H:Hp} {h h':Heap} {x e:Addr} {o':HO}
theorem lC.write(ok:lC P w H h)(mu:Nj (H x))(he:e=x\/H e=some (.own x))(k:∀b u,b≠e->h.get? b=some u->h'.get? b=some u)(MW:∃u,h'.get? e=some u)
  (new:bY P w (upd H x o') h' x o'):lC P w (upd H x o') h':=λb u q=>by
 have nown:∀c y,H c=some (.own y)->c≠x:=λc y r z=>by subst z;rw[r] at mu;exact mu
 have ntup:∀c xs,H c=some (.tup xs)->c≠x:=λc xs r z=>by subst z;rw[r] at mu;exact mu
 by_cases hb:b=x
 ·subst hb;rw[aU] at q;cases q;exact new
 ·rw[aA hb] at q
  by_cases JL:b=e
  ·have q':H b=some (.own x):=by
    rcases he with z|z
    ·exact absurd (JL.trans z) hb
    ·rw[JL];exact z
   rw[q] at q';cases q';obtain⟨v,hv⟩:=MW;exact⟨v,by rw[JL];exact hv⟩
  ·refine(ok b u q).stay (λc v hc r=>k c v ?_ r) (λc r=>by rw[aA (nown c b r)];exact r) λc xs r=>by rw[aA (ntup c xs r)];exact r
   rcases hc with rfl|hc
   ·exact JL
   ·rintro rfl
    rcases he with z|z
    ·exact nown c b hc z
    ·rw[hc] at z;cases z;exact hb rfl
end
structure Un (fs ex:List Addr) (H H':Hp) (h h':Heap):Prop where
 keep:∀b o,h.get? b=some o->H b=none->b∉fs->b∉ex->h'.get? b=some o
 slot:∀b o,h.get? b=some o->H b=none->b∈fs->b∉ex->∃sl,h'.get? b=some { o with slots:=sl }
 free:∀b o,h.get? b=some o->H b=none->b∉ex->H' b=none
 there:∀b o,h.get? b=some o->b∉ex->∃o',h'.get? b=some o'
 tups:∀b xs,H b=some (.tup xs)->H' b=some (.tup xs)
 frzs:∀b o u,H b=some (.rN o u)->H' b=some (.rN o u)
 tF:∀b ps,H b=some (.tbl ps)->∃more,H' b=some (.tbl (ps++more))
section
variable {fs fs' ex ex':List Addr} {H H1 H2:Hp} {h h1 h2 h':Heap} {a x e:Addr} {o:HO}
theorem Un.any(u:Un fs ex H H1 h h1)(q:h.get? b=some ob)(n:H b=none)(hx:b∉ex):∃sl,h1.get? b=some { ob with slots:=sl }:=by
 by_cases hb:b∈fs
 ·exact u.slot b ob q n hb hx
 ·exact⟨ob.slots,u.keep b ob q n hb hx⟩
theorem Un.kept(k:∀b u,h.get? b=some u->h'.get? b=some u):Un fs ex H H h h' :=
 ⟨λb ob q _ _ _=>k b ob q,λb ob q _ _ _=>⟨ob.slots,k b ob q⟩,λ_ _ _ n _=>n,λb ob q _=>⟨ob,k b ob q⟩,λ_ _ q=>q,λ_ _ _ q=>q,λ_ ps q=>⟨#[],by rw[q];simp⟩⟩
theorem Un.refl:Un fs ex H H h h:=Un.kept λ_ _ q=>q
theorem Un.laid(k:∀b u,h.get? b=some u->h'.get? b=some u)(hp:h.objs.size<=a)(hn:H a=none):Un fs ex H (upd H a o) h h' where
 keep:=λb u q _ _ _=>k b u q
 slot:=λb u q _ _ _=>⟨u.slots,k b u q⟩
 free:=λb u q n _=>by rw[aA (ne_of_lt (lt_of_lt_of_le (lt_size q) hp))];exact n
 there:=λb u q _=>⟨u,k b u q⟩
 tups:=λb xs q=>by rw[aA (aG q hn)];exact q
 frzs:=λb u xs q=>by rw[aA (aG q hn)];exact q
 tF:=λb ps q=>⟨#[],by rw[aA (aG q hn),q];simp⟩
theorem Un.write(mu:Nj (H x))(he:e=x\/H e=some (.own x))(k:∀b u,b≠e->h.get? b=some u->h'.get? b=some u)(MW:∃u,h'.get? e=some u):Un fs ex H (upd H x o) h h':=by
 have hx:∀b,H b=none->b≠x:=λb n z=>by subst z;rw[n] at mu;exact mu
 have hb:∀b,H b=none->b≠e:=λb n z=>by
  subst z
  rcases he with r|r
  ·exact hx b n r
  ·rw[n] at r;cases r
 have hm:∀b u,H b=some u->¬ Nj (some u)->b≠x:=λb u q nm z=>by subst z;rw[q] at mu;exact nm mu
 refine⟨λb u q n _ _=>k b u (hb b n) q,λb u q n _ _=>⟨u.slots,k b u (hb b n) q⟩,λb u q n _=>by rw[aA (hx b n)];exact n,λb u q _=>?_,
  λb xs q=>by rw[aA (hm b _ q λz=>z)];exact q,λb u xs q=>by rw[aA (hm b _ q λz=>z)];exact q,λb ps q=>⟨#[],by rw[aA (hm b _ q λz=>z),q];simp⟩⟩
 by_cases JL:b=e
 ·subst JL;exact MW
 ·exact⟨u,k b u JL q⟩
end
noncomputable def eB(h:Heap)(H:Hp):List Addr:=(List.range h.objs.size).filter λa=>(H a).isSome
noncomputable def tG(h:Heap)(H:Hp):Heap:=PySem.W.hideAll h (eB h H)
theorem Ad(h:Heap)(H:Hp):(tG h H).objs.size=h.objs.size:=PySem.W.hideAll_size _ _
theorem BF(e:h.get? b=some o)(n:H b=none):(tG h H).get? b=some o :=
 PySem.W.hideAll_get _ e λhm=>by
  have q:(H b).isSome=true:=(mem_filter.mp hm).2;rw[n] at q;simp at q
theorem EZ(e:(tG h H).get? b=some o):h.get? b=some o/\H b=none:=by
 have e':h.get? b=some o:=PySem.W.of_hideAll (eB h H) e;refine⟨e',?_⟩;cases q:H b with
 | none=>rfl
 | some x =>have hm:b∈eB h H:=mem_filter.mpr ⟨List.mem_range.mpr (lt_size e'),by simp[q]⟩;have z:(tG h H).get? b=none:=PySem.W.hideAll_none (eB h H) hm;rw[z] at e;cases e
noncomputable def E1(g h:Heap)(L:Addr):List (Addr×Obj):=(List.range h.objs.size).filterMap λa=>if a=L\/(g.get? a).isSome=true then none else (h.get? a).map λo=>(a,o)
noncomputable def rest(g h:Heap)(L d:Addr):List (Addr×Obj):=(E1 g h L).filter λp=>decide (p.1≠d)
end L2
namespace L2
open PySem PySem.Spec PyProof.Rows
structure Mod (K:PySem.W.Frag) (mg:Str->Option Value) (base:Heap):Prop where
 MX:K.In base
 glob:base.Ns mainGlobals mg
 blt:∃mb,base.Ns builtinsNs mb/\∀x:Str,x ≠ "__name__" -> mb x=bootBuiltins x
 nolimit:base.NoLimit
structure Cx where
 prog:Program
 w:World
 K:PySem.W.Frag
 mg:Str->Option Value
 base:Heap
 A:Around
 N:List Str
 s₀:Shared
 H₀:Hp
 env:Env
 outer:List Env
 stack:List Env
 ex:List Addr
 fn:Str->Bool
 calm:Bool
 pn:List (Addr×Obj)
 xe:Value->Shared->Prop
noncomputable def frs(l:List Env):List Addr:=l.filterMap (·.frame)
noncomputable abbrev Cx.fs(X:Cx):List Addr:=frs X.outer
noncomputable def QM(sc:Scope)(x:Str):Prop:=sc.names.lookup x=some .local\/sc.names.lookup x=some .cell\/sc.names.lookup x=some .free
noncomputable def Loc(sc:Scope)(x:Str):Prop:=sc.names.lookup x=some .local\/sc.names.lookup x=some .cell
noncomputable def Look(env:Env)(h:Heap)(m:Str->Option Value)(x:Str)(u:Value):Prop :=
 (env.kindOf x=some .local/\m x=some u)\/((env.kindOf x=some .cell\/env.kindOf x=some .free)/\∃c,env.cells.lookup x=some c/\h.IsCell c (some u))
structure Cx.Ok (X:Cx):Prop where
 mod:Mod X.K X.mg X.base
 kind:X.env.scope.kind=.function
 glob:X.env.globals=mainGlobals
 blt:X.env.builtins=builtinsNs
 above:X.s₀.heap.objs.size<=X.env.locals
 inj:∀x y c,X.env.cells.lookup x=some c->X.env.cells.lookup y=some c->x=y
 has:∀x,(X.env.kindOf x=some .cell\/X.env.kindOf x=some .free)->∃c,X.env.cells.lookup x=some c
 Nk:∀x c,X.fn x=true->X.env.cells.lookup x=some c->X.s₀.heap.objs.size<=c
 hd:X.calm=true->X.A.handled=none
 frames:X.A.frames=some X.stack
 stk:X.stack=X.outer\/(X.stack=X.env::X.outer/\X.env.frame=some X.env.locals)
 RD:∀b∈X.ex,b≠X.env.locals/\∀x c,X.env.cells.lookup x=some c->c≠b
 bs:∀b o,X.base.get? b=some o->X.s₀.heap.get? b=some o/\X.H₀ b=none
 Iu:X.base.objs.size<=X.s₀.heap.objs.size
 lD:∀b o,X.base.get? b=some o->b∉X.ex
 BG:∀b∈X.ex,b∉X.fs
 oR:X.s₀.heap.FunFrames X.base X.outer
 JM:∀b∈X.fs,X.H₀ b=none
structure Inv (X:Cx) (pins:List (Addr×Obj)) (σ:List (Option V)) (H:Hp) (s:Shared):Prop where
 ok:X.Ok
 os:s.os=X.s₀.os
 bare:AllBare s.gens
 base:Un X.fs X.ex X.H₀ H X.s₀.heap s.heap
 loc:∃m,s.heap.Ns X.env.locals m/\∀(i:Nat) (x:Str) (v:V),X.N[i]?=some x -> σ[i]?=some (some v)->QM X.env.scope x->∃u,RelV v u/\Look X.env s.heap m x u
 cell:∀x c,X.env.cells.lookup x=some c->∃v,s.heap.IsCell c v
 free:H X.env.locals=none
 jH:∀x c,X.env.cells.lookup x=some c->H c=none
 pin:∀p∈X.pn++pins,s.heap.get? p.1=some p.2/\H p.1=none/\p.1≠X.env.locals/\p.1∉X.fs/\∀v,p.2.data≠.cell v
 hok:lC X.prog X.w H s.heap
 len:σ.length=X.N.length
section
variable {X:Cx} {pins:List (Addr×Obj)} {σ:List (Option V)} {H H':Hp} {s:Shared} {h':Heap}
theorem Cx.Ok.RE(ok:X.Ok)(e:X.base.get? b=some o):b∉X.fs:=λhb=>by
 have:=(ok.oR.mem hb).1;rw[e] at this;cases this
theorem Inv.bs(I:Inv X pins σ H s):∀b o,X.base.get? b=some o->s.heap.get? b=some o/\H b=none:=λb o e =>
 ⟨I.base.keep b o (I.ok.bs b o e).1 (I.ok.bs b o e).2 (I.ok.RE e) (I.ok.lD b o e),I.base.free b o (I.ok.bs b o e).1 (I.ok.bs b o e).2 (I.ok.lD b o e)⟩
theorem Inv.bk(I:Inv X pins σ H s):∀b o,X.base.get? b=some o->s.heap.get? b=some o:=λb o e=>(I.bs b o e).1
theorem Inv.mod(I:Inv X pins σ H s):Mod X.K X.mg X.base:=I.ok.mod
theorem Inv.m8(I:Inv X pins σ H s):X.K.In s.heap:=I.ok.mod.MX.keeps I.bk
theorem Inv.lt(I:Inv X pins σ H s):X.env.locals<s.heap.objs.size:=let ⟨_,hn,_⟩:=I.loc;hn.lt
theorem Inv.sz(I:Inv X pins σ H s):X.s₀.heap.objs.size<=s.heap.objs.size:=le_trans I.ok.above (Nat.le_of_lt I.lt)
theorem Inv.RG(I:Inv X pins σ H s)(h:s.heap.objs.size<=a):a∉X.fs:=λhb=>by
 obtain⟨_,o,ho,_⟩:=I.ok.oR.mem hb;exact absurd (lt_of_lt_of_le (lt_size ho) (le_trans I.sz h)) (lt_irrefl _)
theorem Inv.cne(I:Inv X pins σ H s):∀x c,X.env.cells.lookup x=some c->c≠X.env.locals:=λx c e z=>by
 obtain⟨v,o,ho,hd⟩:=I.cell x c e;obtain⟨m,⟨o',es,ep,ho',hd',_⟩,_⟩:=I.loc;rw[z,ho'] at ho;cases ho;rw[hd'] at hd;cases hd
theorem Inv.oR(I:Inv X pins σ H s):s.heap.FunFrames X.base X.outer:=by
 have all:∀(l:List Env),(∀b∈frs l,b∈X.fs)->X.s₀.heap.FunFrames X.base l->s.heap.FunFrames X.base l:=by
  intro l
  induction l with
  | nil=>intro _ _;trivial
  | cons env r ih =>intro hs hl;obtain⟨hk,⟨L,o,hf,hn,ho,hd⟩,hr⟩:=hl;have hL:L∈X.fs:=hs L (by unfold frs;rw[List.filterMap_cons,hf];exact mem_cons_self);obtain⟨sl,e⟩:=I.base.slot L o ho (I.ok.JM L hL) hL λz=>I.ok.BG L z hL;exact⟨hk,⟨L,_,hf,hn,e,hd⟩,ih (λb hb=>hs b (by unfold frs;rw[List.filterMap_cons,hf];exact mem_cons_of_mem _ hb)) hr⟩
 exact all X.outer (λ_ hb=>hb) I.ok.oR
theorem Inv.stack(I:Inv X pins σ H s):s.heap.FunFrames X.base X.stack:=by
 rcases I.ok.stk with e|⟨e,hf⟩
 ·rw[e];exact I.oR
 ·rw[e];obtain⟨m,hn,_⟩:=I.loc;refine .cons (by rw[I.ok.kind];decide) hf hn ?_ I.oR;exact Heap.get?_none_of_le (le_trans I.ok.Iu I.ok.above)
theorem Inv.xF(I:Inv X pins σ H s):∀b∈frs X.stack,b∈X.env.locals::X.fs:=λb hb=>by
 rcases I.ok.stk with e|⟨e,hf⟩
 ·rw[e] at hb;exact mem_cons_of_mem _ hb
 ·rw[e] at hb;unfold frs at hb;rw[List.filterMap_cons,hf] at hb;exact hb
theorem Inv.yN(I:Inv X pins σ H s):∀b∈frs X.stack,H b=none:=λb hb=>by
 rcases mem_cons.mp (I.xF b hb) with e|hb
 ·rw[e];exact I.free
 ·obtain⟨_,o,ho,_⟩:=I.ok.oR.mem hb;exact I.base.free b o ho (I.ok.JM b hb) λz=>I.ok.BG b z hb
theorem Inv.step{g':Array GenState}{t':Nat}{d':Drawn}{ch:List Addr}(I:Inv X pins σ H s)
  (hch:∀b∈ch,(b∈X.ex\/X.s₀.heap.objs.size<=b)/\b≠X.env.locals/\(∀x c,X.env.cells.lookup x=some c->c≠b)/\∀p∈X.pn++pins,p.1≠b)
  (keep:∀b o,b≠X.env.locals->b∉X.fs->b∉ch->s.heap.get? b=some o->H b=none->h'.get? b=some o)
  (slot:∀b o,b≠X.env.locals->b∈X.fs->b∉ch->s.heap.get? b=some o->H b=none->∃sl,h'.get? b=some { o with slots:=sl }) (free:∀b o,b∉ch->s.heap.get? b=some o->H b=none->H' b=none)
  (there:∀b o,b∉ch->s.heap.get? b=some o->∃o',h'.get? b=some o')
  (tups:∀b xs,H b=some (.tup xs)->H' b=some (.tup xs)) (frzs:∀b o u,H b=some (.rN o u)->H' b=some (.rN o u)) (tF:∀b ps,H b=some (.tbl ps)->∃more,H' b=some (.tbl (ps++more)))
  (ns:∀m,s.heap.Ns X.env.locals m->h'.Ns X.env.locals m) (hok:lC X.prog X.w H' h') (hg:AllBare g') :
  Inv X pins σ H' { s with heap:=h',gens:=g',drawn:=d',toks:=t' }:=by
 have neL:∀b o,X.s₀.heap.get? b=some o->b≠X.env.locals:=λb o e=>ne_of_lt (lt_of_lt_of_le (lt_size e) I.ok.above);have neC:∀b o,X.s₀.heap.get? b=some o->b∉X.ex->b∉ch:=λb o e hx hb=>by
  rcases(hch b hb).1 with z|z
  ·exact hx z
  ·exact absurd (lt_of_lt_of_le (lt_size e) z) (lt_irrefl _)
 have cellK:∀x c,X.env.cells.lookup x=some c->∀v,s.heap.IsCell c v->h'.IsCell c v:=λx c e v ⟨o,ho,hd⟩=>by
  have Nl:c∉ch:=λz=>(hch c z).2.2.1 x c e rfl
  by_cases hc:c∈X.fs
  ·obtain⟨sl,q⟩:=slot c o (I.cne x c e) hc Nl ho (I.jH x c e);exact⟨_,q,hd⟩
  ·exact⟨o,keep c o (I.cne x c e) hc Nl ho (I.jH x c e),hd⟩
 refine⟨I.ok,I.os,hg,⟨λb o e n hb hx=>?_,λb o e n hb hx=>?_,λb o e n hx=>?_,λb o e hx=>?_,λb xs e=>tups b xs (I.base.tups b xs e),λb o xs e=>frzs b o xs (I.base.frzs b o xs e),λb ps e=>?_⟩,?_,λx c e=>?_,?_,λx c e=>?_,λp hp=>?_,hok,I.len⟩
 ·exact keep b o (neL b o e) hb (neC b o e hx) (I.base.keep b o e n hb hx) (I.base.free b o e n hx)
 ·obtain⟨sl,e1⟩:=I.base.slot b o e n hb hx;obtain⟨XM,e2⟩:=slot b _ (neL b o e) hb (neC b o e hx) e1 (I.base.free b o e n hx);exact⟨XM,e2⟩
 ·obtain⟨o',e1⟩:=I.base.there b o e hx;exact free b o' (neC b o e hx) e1 (I.base.free b o e n hx)
 ·obtain⟨o',e1⟩:=I.base.there b o e hx;exact there b o' (neC b o e hx) e1
 ·obtain⟨m1,e1⟩:=I.base.tF b ps e;obtain⟨m2,e2⟩:=tF b _ e1;exact⟨m1++m2,by rw[e2,Array.append_assoc]⟩
 ·obtain⟨m,hn,hl⟩:=I.loc
  refine⟨m,ns m hn,λi x v e1 e2 e3=>?_⟩;obtain⟨u,r,l⟩:=hl i x v e1 e2 e3;refine⟨u,r,?_⟩
  rcases l with l|⟨k,c,e,z⟩
  ·exact .inl l
  ·exact .inr ⟨k,c,e,cellK x c e _ z⟩
 ·obtain⟨v,z⟩:=I.cell x c e;exact⟨v,cellK x c e v z⟩
 ·obtain⟨m,⟨o,_,_,ho,_⟩,_⟩:=I.loc;exact free _ o (λz=>(hch _ z).2.1 rfl) ho I.free
 ·obtain⟨v,o,ho,hd⟩:=I.cell x c e;exact free c o (λz=>(hch c z).2.2.1 x c e rfl) ho (I.jH x c e)
 ·obtain⟨e,n,ne,nf,d⟩:=I.pin p hp;have Nl:p.1∉ch:=λz=>(hch p.1 z).2.2.2 p hp rfl;exact⟨keep p.1 p.2 ne nf Nl e n,free p.1 p.2 Nl e n,ne,nf,d⟩
theorem Inv.un{t':Nat}(I:Inv X pins σ H s)(u:Un X.fs [] H H' s.heap h')(hok:lC X.prog X.w H' h'):Inv X pins σ H' { s with heap:=h',toks:=t' }:=by
 obtain⟨m,⟨o,es,ep,ho,r⟩,_⟩:=id I.loc;obtain⟨sl,hL⟩:=u.any ho I.free (by simp);exact I.step (g':=s.gens) (d':=s.drawn) (ch:=[]) (λ_ z=>nomatch z) (λb o _ hb _ e n=>u.keep b o e n hb (by simp)) (λb o _ hb _ e n=>u.slot b o e n hb (by simp)) (λb o _ e n=>u.free b o e n (by simp)) (λb o _ e=>u.there b o e (by simp)) u.tups u.frzs u.tF (λm' hm=>by
  obtain⟨o',es',RH,ho',r'⟩:=hm;rw[ho] at ho';cases ho';exact⟨_,es',RH,hL,r'⟩) hok I.bare
theorem Inv.call{t':Nat}(I:Inv X pins σ H s)(u:Un (frs X.stack) ch H H' s.heap h')(hok:lC X.prog X.w H' h')(hg:AllBare g')
  (hch:∀b∈ch,(b∈X.ex\/X.s₀.heap.objs.size<=b)/\b≠X.env.locals/\(∀x c,X.env.cells.lookup x=some c->c≠b)/\∀p∈X.pn++pins,p.1≠b) :
  Inv X pins σ H' { s with heap:=h',gens:=g',drawn:=d',toks:=t' }:=by
 obtain⟨m,⟨o,es,ep,ho,r⟩,_⟩:=id I.loc;obtain⟨sl,hL⟩:=u.any ho I.free λz=>(hch _ z).2.1 rfl;exact I.step (ch:=ch) hch (λb o hL hb hc e n=>u.keep b o e n (λz=>(mem_cons.mp (I.xF b z)).elim hL hb) hc) (λb o _ _ hc e n=>u.any e n hc) (λb o hc e n=>u.free b o e n hc) (λb o hc e=>u.there b o e hc) u.tups u.frzs u.tF (λm' hm=>by
  obtain⟨o',es',RH,ho',r'⟩:=hm;rw[ho] at ho';cases ho';exact⟨_,es',RH,hL,r'⟩) hok hg
theorem Inv.turned{t':Nat}(I:Inv X pins σ H s)(k:∀b o,b≠it->s.heap.get? b=some o->h'.get? b=some o)(hn:H it=none)(hL:it≠X.env.locals)
  (h1:it∈X.ex\/X.s₀.heap.objs.size<=it) (h2:∀x c,X.env.cells.lookup x=some c->c≠it) (h3:∀p∈X.pn++pins,p.1≠it):Inv X pins σ H { s with heap:=h',toks:=t' }:=by
 have Nm:∀b u,H b=some u->b≠it:=λb u e z=>by rw[z,hn] at e;cases e
 refine I.step (g':=s.gens) (d':=s.drawn) (ch:=[it]) (λb hb=>?_) (λb o _ _ hc e _=>k b o (λz=>hc (by simp[z])) e) (λb o _ _ hc e _=>⟨o.slots,k b o (λz=>hc (by simp[z])) e⟩) (λ_ _ _ _ n=>n)
  (λb o hc e=>⟨o,k b o (λz=>hc (by simp[z])) e⟩) (λ_ _ e=>e) (λ_ _ _ e=>e) (λb ps e=>⟨#[],by rw[e];simp⟩) (λm hm=>?_) (λb u e=>?_) I.bare
 ·have e:b=it:=by simpa using hb
  subst e;exact⟨h1,hL,h2,h3⟩
 ·obtain⟨o,es,ep,ho,r⟩:=hm;exact⟨o,es,ep,k _ o (Ne.symm hL) ho,r⟩
 ·refine(I.hok b u e).stay (λc v hc q=>k c v ?_ q) (λ_ q=>q) λ_ _ q=>q
  rcases hc with z|z
  ·rw[z];exact Nm b u e
  ·exact Nm c _ z
theorem Inv.tok(I:Inv X pins σ H s)(t:Nat):Inv X pins σ H { s with toks:=t }:=I.un (h':=s.heap) (t':=t) Un.refl I.hok
theorem Inv.kept{t':Nat}(I:Inv X pins σ H s)(k:∀b u,s.heap.get? b=some u->h'.get? b=some u):Inv X pins σ H { s with heap:=h',toks:=t' }:=I.un (Un.kept k) (I.hok.kept k)
theorem Inv.laid{t':Nat}(I:Inv X pins σ H s)(k:∀b u,s.heap.get? b=some u->h'.get? b=some u)(hp:s.heap.objs.size<=a)(new:bY X.prog X.w (upd H a o) h' a o) :
  Inv X pins σ (upd H a o) { s with heap:=h',toks:=t' }:=I.un (Un.laid k hp (I.hok.fresh hp)) (I.hok.laid k hp new)
theorem Inv.write{t':Nat}(I:Inv X pins σ H s)(mu:Nj (H x))(he:e=x\/H e=some (.own x))(k:∀b u,b≠e->s.heap.get? b=some u->h'.get? b=some u)(MW:∃u,h'.get? e=some u)
  (new:bY X.prog X.w (upd H x o) h' x o):Inv X pins σ (upd H x o) { s with heap:=h',toks:=t' }:=I.un (Un.write mu he k MW) (I.hok.write mu he k MW new)
theorem Inv.yO(I:Inv X pins σ H s)(h:∀p∈Nn,s.heap.get? p.1=some p.2/\H p.1=none/\p.1≠X.env.locals/\p.1∉X.fs/\∀v,p.2.data≠.cell v):Inv X Nn σ H s :=
 ⟨I.ok,I.os,I.bare,I.base,I.loc,I.cell,I.free,I.jH,λp hp=>(mem_append.mp hp).elim (λz=>I.pin p (mem_append_left _ z)) (h p),I.hok,I.len⟩
theorem uW{N:List Str}(hN:N.Nodup){i j:Nat}{x:Str}(a:N[i]?=some x)(b:N[j]?=some x):i=j:=by
 obtain⟨h1,e1⟩:=List.getElem?_eq_some_iff.mp a;obtain⟨h2,e2⟩:=List.getElem?_eq_some_iff.mp b;exact(List.getElem_inj hN).mp (e1.trans e2.symm)
theorem rO{i:Nat}(I:Inv X pins σ H s)(hN:X.N.Nodup)(hi:X.N[i]?=some x)(hx:Loc X.env.scope x)(r:RelV v u)
  (h:∀s',Inv X pins (σ.set i (some v)) H s'->(∃a,Heap.SameBut a s.heap s'.heap/\(a=X.env.locals\/X.env.cells.lookup x=some a))->Q () s') (hf:X.fn x=true\/X.env.scope.names.lookup x=some .local:=by first|exact .inl rfl|exact .inr rfl|assumption):wpAny M A (storeName X.env x u) Q E s:=by
 obtain⟨m,hn,hl⟩:=id I.loc;have hcls:(X.env.scope.kind==.class||(X.env.scope.kind==.module&&X.env.locals != X.env.globals))=false:=by rw[I.ok.kind];rfl
 have Wc:i < σ.length:=by rw[I.len];exact(List.getElem?_eq_some_iff.mp hi).1
 have cne:=I.cne;have tracked:∀{a:Addr} {h':Heap},(∃o,s.heap.get? a=some o/\H a=none)->Heap.SameBut a s.heap h'->lC X.prog X.w H h':=λ{a h'} ha hs b ob e=>by
  obtain⟨_,_,hfree⟩:=ha;refine(I.hok b ob e).stay (λc w' hc q=>(hs.2 c ?_).trans q) (λ_ q=>q) λ_ _ q=>q;rintro rfl
  rcases hc with rfl|hc
  ·rw[hfree] at e;cases e
  ·rw[hfree] at hc;cases hc
 rcases hx with hk|hk
 ·refine wpAny_storeName_local hk hn (λh' hn' hs=>?_) hcls
  obtain⟨oL,_,_,XO,_⟩:=id hn;refine h _ ⟨I.ok,I.os,I.bare,⟨λb o e n hb hx=>?_,λb o e n hb hx=>?_,I.base.free,λb o e hx=>?_,I.base.tups,I.base.frzs,I.base.tF⟩,⟨_,hn',λj y v' e1 e2 e3=>?_⟩,λy c e=>?_,I.free,I.jH,λp hp=>?_,tracked ⟨oL,XO,I.free⟩ hs,by simpa using I.len⟩ ⟨_,hs,.inl rfl⟩
  ·exact(hs.2 b (ne_of_lt (lt_of_lt_of_le (lt_size e) I.ok.above))).trans (I.base.keep b o e n hb hx)
  ·obtain⟨sl,e1⟩:=I.base.slot b o e n hb hx;exact⟨sl,(hs.2 b (ne_of_lt (lt_of_lt_of_le (lt_size e) I.ok.above))).trans e1⟩
  ·obtain⟨o',e1⟩:=I.base.there b o e hx;exact⟨o',(hs.2 b (ne_of_lt (lt_of_lt_of_le (lt_size e) I.ok.above))).trans e1⟩
  ·by_cases hj:j=i
   ·subst hj;rw[hi] at e1;cases e1;rw[getElem?_set_self Wc] at e2;cases e2;exact⟨u,r,.inl ⟨hk,by simp⟩⟩
   ·rw[getElem?_set_ne (Ne.symm hj)] at e2
    obtain⟨u',r',q⟩:=hl j y v' e1 e2 e3;refine⟨u',r',?_⟩
    rcases q with ⟨k,e⟩|⟨k,c,e,z⟩
    ·refine .inl ⟨k,?_⟩;have:y≠x:=λe=>hj (uW hN e1 (e▸hi));simp[this,e]
    ·exact .inr ⟨k,c,e,z.sameBut hs (cne y c e)⟩
  ·obtain⟨w',z⟩:=I.cell y c e;exact⟨w',z.sameBut hs (cne y c e)⟩
  ·obtain⟨e,n,ne,nf,d⟩:=I.pin p hp;exact⟨(hs.2 p.1 ne).trans e,n,ne,nf,d⟩
 ·have hfn:X.fn x=true:=by
   rcases hf with z|z
   ·exact z
   ·rw[z] at hk;cases hk
  obtain⟨c,hc⟩:=I.ok.has x (.inl hk);obtain⟨w',z⟩:=I.cell x c hc;refine wpAny_storeName_cell I.ok.kind hk hc z (λh' hc' hs=>?_);obtain⟨oc,hoc,BH⟩:=id z;refine h { s with heap:=h' } ⟨I.ok,I.os,I.bare,⟨λb o e n hb hx=>?_,λb o e n hb hx=>?_,I.base.free,λb o e hx=>?_,I.base.tups,I.base.frzs,I.base.tF⟩,⟨m,hn.sameBut hs (Ne.symm (cne x c hc)),λj y v' e1 e2 e3=>?_⟩,λy c' e=>?_,I.free,I.jH,λp hp=>?_,tracked ⟨oc,hoc,I.jH x c hc⟩ hs,by simpa using I.len⟩ ⟨c,hs,.inr hc⟩
  ·exact(hs.2 b (ne_of_lt (lt_of_lt_of_le (lt_size e) (I.ok.Nk x c hfn hc)))).trans (I.base.keep b o e n hb hx)
  ·obtain⟨sl,e1⟩:=I.base.slot b o e n hb hx;exact⟨sl,(hs.2 b (ne_of_lt (lt_of_lt_of_le (lt_size e) (I.ok.Nk x c hfn hc)))).trans e1⟩
  ·obtain⟨o',e1⟩:=I.base.there b o e hx;exact⟨o',(hs.2 b (ne_of_lt (lt_of_lt_of_le (lt_size e) (I.ok.Nk x c hfn hc)))).trans e1⟩
  ·by_cases hj:j=i
   ·subst hj;rw[hi] at e1;cases e1;rw[getElem?_set_self Wc] at e2;cases e2;exact⟨u,r,.inr ⟨.inl hk,c,hc,hc'⟩⟩
   ·rw[getElem?_set_ne (Ne.symm hj)] at e2
    obtain⟨u',r',q⟩:=hl j y v' e1 e2 e3;refine⟨u',r',?_⟩
    rcases q with q|⟨k,c',e,z'⟩
    ·exact .inl q
    ·refine .inr ⟨k,c',e,z'.sameBut hs ?_⟩;rintro rfl;exact hj (uW hN e1 (I.ok.inj _ _ _ e hc▸hi))
  ·by_cases hcc:c'=c
   ·subst hcc;exact⟨_,hc'⟩
   ·obtain⟨w2,z2⟩:=I.cell y c' e;exact⟨w2,z2.sameBut hs hcc⟩
  ·obtain⟨e,n,ne,nf,d⟩:=I.pin p hp;refine⟨(hs.2 p.1 ?_).trans e,n,ne,nf,d⟩;intro q;rw[q,hoc] at e;have q':oc=p.2:=Option.some.inj e;exact d w' (by rw[<-q'];exact BH)
theorem uX{i:Nat}(I:Inv X pins σ H s)(hN:X.N.Nodup)(hi:X.N[i]?=some x)(hx:Loc X.env.scope x)(r:RelV v u)
  (h:∀s',Inv X pins (σ.set i (some v)) H s'->Q () s') (hf:X.fn x=true\/X.env.scope.names.lookup x=some .local:=by first|exact .inl rfl|exact .inr rfl|assumption):wpAny M A (storeName X.env x u) Q E s :=
 rO I hN hi hx r (λs' I' _=>h s' I') hf
theorem Inv.Np(I:Inv X pins σ H s)(ho:s'.os=s.os)(u:Un (frs X.stack) ch H H' s.heap s'.heap)(hok:lC X.prog X.w H' s'.heap)(hg:AllBare s'.gens)
  (hch:∀b∈ch,(b∈X.ex\/X.s₀.heap.objs.size<=b)/\b≠X.env.locals/\(∀x c,X.env.cells.lookup x=some c->c≠b)/\∀p∈X.pn++pins,p.1≠b):Inv X pins σ H' s':=by
 obtain⟨h',g',d',t',o'⟩:=s';have e:o'=s.os:=ho;subst e;exact I.call (g':=g') (t':=t') (d':=d') u hok hg hch
end
noncomputable abbrev XK:=Value->Option Addr->Hp->Prop
noncomputable abbrev St:=List (Option V)
noncomputable abbrev VK:=V->Hp->Prop
noncomputable abbrev TE:=St->Hp->VK->Prop
noncomputable abbrev TT:=St->Hp->(Bool->Hp->Prop)->Prop
noncomputable abbrev TA:=St->Hp->(List V->Hp->Prop)->Prop
structure Ends where
 nx:St->Hp->Prop
 rt:VK
 bk:St->Hp->Prop:=λ_ _=>False
 ct:St->Hp->Prop:=λ_ _=>False
noncomputable abbrev TS:=Ends->St->Hp->Prop
noncomputable def EP(X:Cx)(pins:List (Addr×Obj))(σ:St)(Q:VK)(u:Value)(s':Shared):Prop:=∃v H',Inv X pins σ H' s'/\RelV v u/\Q v H'
noncomputable def TP(X:Cx)(pins:List (Addr×Obj))(σ:St)(Q:Bool->Hp->Prop)(b:Bool)(s':Shared):Prop:=∃H',Inv X pins σ H' s'/\Q b H'
noncomputable def AP(X:Cx)(pins:List (Addr×Obj))(σ:St)(Q:List V->Hp->Prop)(us:List Value)(s':Shared):Prop:=∃vs H',Inv X pins σ H' s'/\Vals vs us/\Q vs H'
noncomputable def SP(X:Cx)(pins:List (Addr×Obj))(D:Ends)(f:Flow)(s':Shared):Prop :=
 match f with
 | .next=>∃σ' H',Inv X pins σ' H' s'/\D.nx σ' H'
 | .brk=>∃σ' H',Inv X pins σ' H' s'/\D.bk σ' H'
 | .cont=>∃σ' H',Inv X pins σ' H' s'/\D.ct σ' H'
 | .ret u=>∃v σ' H',Inv X pins σ' H' s'/\RelV v u/\D.rt v H'
noncomputable def PE(X:Cx)(e:Expr)(t:TE):Prop :=
 ∀(pins:List (Addr×Obj)) (s:Shared) (σ:St) (H:Hp) (Q:VK),Inv X pins σ H s->t σ H Q->wpAny (model X.prog X.w) X.A (eval e X.env) (EP X pins σ Q) X.xe s
noncomputable def PT(X:Cx)(e:Expr)(t:TT):Prop :=
 ∀(pins:List (Addr×Obj)) (s:Shared) (σ:St) (H:Hp) (Q:Bool->Hp->Prop),Inv X pins σ H s->t σ H Q->wpAny (model X.prog X.w) X.A (isTrue e X.env (eval e X.env)) (TP X pins σ Q) X.xe s
noncomputable def PW(X:Cx)(e:Expr)(t:TT):Prop :=
 ∀(whole:Sem Value) (pins:List (Addr×Obj)) (s:Shared) (σ:St) (H:Hp) (Q:Bool->Hp->Prop),Inv X pins σ H s->t σ H Q->wpAny (model X.prog X.w) X.A (isTrue e X.env whole) (TP X pins σ Q) X.xe s
theorem PW.pt(h:PW X e t):PT X e t:=h _
noncomputable def PA(X:Cx)(es:List Expr)(t:TA):Prop :=
 ∀(pos:Pos) (pins:List (Addr×Obj)) (s:Shared) (σ:St) (H:Hp) (Q:List V->Hp->Prop),Inv X pins σ H s->t σ H Q->wpAny (model X.prog X.w) X.A (spliced (backTo pos (starEach es X.env))) (AP X pins σ Q) X.xe s
noncomputable def PS(X:Cx)(st:Stmt)(t:TS):Prop :=
 ∀(pins:List (Addr×Obj)) (s:Shared) (σ:St) (H:Hp) (D:Ends),Inv X pins σ H s->t D σ H->wpAny (model X.prog X.w) X.A (exec st X.env) (SP X pins D) X.xe s
noncomputable def xG(X:Cx)(st:List Stmt)(t:TS):Prop :=
 ∀(pins:List (Addr×Obj)) (s:Shared) (σ:St) (H:Hp) (D:Ends),Inv X pins σ H s->t D σ H->wpAny (model X.prog X.w) X.A (execs st X.env) (SP X pins D) X.xe s
theorem cz{α:Type}{t:Sem α}{Q Q':α -> Shared->Prop}(h:wpAny M A t Q E s)(hQ:∀a s,Q a s->Q' a s):wpAny M A t Q' E s:=wpAny_mono h hQ λ_ _ x=>x
end L2
namespace L2
open PySem PySem.Spec PyProof.Rows
section
variable {X:Cx}
theorem bin{a b:Expr}{ta tb:TE}(ha:PE X a ta)(hb:PE X b tb){pins:List (Addr×Obj)}{s:Shared}{σ:St}{H:Hp}{R:V->V->Hp->Prop}(I:Inv X pins σ H s)(h:ta σ H λx H1=>tb σ H1 λy H2=>R x y H2)
  {α:Type} {Q:α -> Shared->Prop} {f:Value->Value->Sem α}
  (hf:∀v u s2 x y H2,Inv X pins σ H2 s2->RelV x v->RelV y u->R x y H2->wpAny (model X.prog X.w) X.A (f v u) Q X.xe s2) :
  wpAny (model X.prog X.w) X.A (eval a X.env) (λv s₁=>wpAny (model X.prog X.w) X.A (eval b X.env) (λu s₂=>wpAny (model X.prog X.w) X.A (f v u) Q X.xe s₂) X.xe s₁) X.xe s:=by
 refine cz (ha pins s σ H _ I h) λv s1 aJ=>?_;obtain⟨x,H1,I1,r1,q1⟩:=aJ;refine cz (hb pins s1 σ H1 _ I1 q1) λu s2 aJ=>?_;obtain⟨y,H2,I2,r2,q2⟩:=aJ;exact hf v u s2 x y H2 I2 r1 r2 q2
noncomputable def RI(i:Nat):TE:=λσ H Q=>∃v,σ[i]?=some (some v)/\Q v H
noncomputable def tC(v:V):TE:=λ_ H Q=>Q v H
theorem JN{i:Nat}(hN:X.N[i]?=some x)(hv:QM X.env.scope x)(hd:(x==("__debug__":Str))=false:=by decide)(hcd:(x==("__classdict__":Str))=false:=by decide):PE X (.Name x pos) (RI i):=by
 intro pins s σ H Q I h;obtain⟨v,e,h⟩:=h;obtain⟨m,hn,hl⟩:=I.loc;obtain⟨u,r,l⟩:=hl i x v hN e hv;have fin:EP X pins σ Q u s:=⟨v,H,I,r,h⟩
 rcases l with ⟨hk,hm⟩|⟨hk,c,hc,hcell⟩
 ·exact wpAny_Name (wpAny_loadName_local I.ok.kind hk hn hm fin) hd
 ·rcases hk with hk|hk
  ·exact wpAny_Name (wpAny_loadName_cell I.ok.kind hk hc hcell fin) hd
  ·exact wpAny_Name (wpAny_loadName_free I.ok.kind hk hc hcell fin hcd) hd
theorem JO{i j pos}:PE X (.Constant (.int i) j pos) (tC (.int i)):=λ_ _ _ H _ I h=>wpAny_Constant_int ⟨.int i,H,I.tok _,⟨_,rfl⟩,h⟩
theorem Nq{b j pos}:PE X (.Constant (.bool b) j pos) (tC (.bl b)):=λ_ _ _ H _ I h=>Constant_bool ⟨.bl b,H,I,rfl,h⟩
theorem JP{j pos}:PE X (.Constant .none j pos) (tC .non):=λ_ _ _ H _ I h=>Constant_none ⟨.non,H,I,rfl,h⟩
theorem JQ{x j pos}:PE X (.Constant (.str x) j pos) (tC (.str x)):=λ_ _ _ H _ I h=>Calls.Constant_str ⟨.str x,H,I.tok _,⟨_,rfl⟩,h⟩
noncomputable def Gl(X:Cx)(x:Str):Prop:=X.env.kindOf x=some .globalImplicit
theorem kB(I:Inv X pins σ H s)(hg:Gl X x)(hm:X.mg x=some u)(h:Q u s)
  (hd:(x==("__debug__":Str))=false:=by decide):wpAny (model X.prog X.w) X.A (eval (.Name x pos) X.env) Q E s :=
 Calls.Name_function_global I.ok.kind hg (Calls.loadGlobal_global (by rw[I.ok.glob];exact I.mod.glob.keeps I.bk) hm h) hd
theorem iD(I:Inv X pins σ H s)(hg:Gl X x)(hm:X.mg x=none)(hv:bootBuiltins x=some u)(h:Q u s)
  (hn:x ≠ "__name__":=by decide) (hd:(x==("__debug__":Str))=false:=by decide):wpAny (model X.prog X.w) X.A (eval (.Name x pos) X.env) Q E s:=by
 obtain⟨mb,h1,h2⟩:=I.mod.blt;exact Calls.Name_function_global I.ok.kind hg (Calls.loadGlobal_builtin (by rw[I.ok.glob];exact I.mod.glob.keeps I.bk) hm (by rw[I.ok.blt];exact h1.keeps I.bk) ((h2 x hn).trans hv) h) hd
theorem E2(hg:Gl X x)(hm:X.mg x=some u)(r:RelV v u)(hd:(x==("__debug__":Str))=false:=by decide):PE X (.Name x pos) (tC v) :=
 λ_ _ _ H _ I h=>kB I hg hm ⟨v,H,I,r,h⟩ hd
theorem E4(hg:Gl X x)(hm:X.mg x=none)(hv:bootBuiltins x=some u)(r:RelV v u)(hn:x ≠ "__name__":=by decide)(hd:(x==("__debug__":Str))=false:=by decide):PE X (.Name x pos) (tC v) :=
 λ_ _ _ H _ I h=>iD I hg hm hv ⟨v,H,I,r,h⟩ hn hd
variable {a b:Expr} {ta tb:TE} {pos:Pos}
variable {tA QN:TT} {rest:List Expr}
noncomputable def RJ(t u:TT):TT:=λσ H Q=>t σ H λc H1=>if c=true then u σ H1 Q else Q false H1
noncomputable def XQ(t u:TT):TT:=λσ H Q=>t σ H λc H1=>if c=true then Q true H1 else u σ H1 Q
noncomputable def RK(t:TT):TT:=λσ H Q=>t σ H λc H1=>Q (!c) H1
theorem E5(ha:PT X a tA):PW X (.BoolOp .And [a] pos) tA:=by
 intro wh pins s σ H Q I h;refine isTrue_and (cz (ha pins s σ H Q I h) λc s1 e=>?_);cases c with
 | true=>exact isTrue_and_nil e
 | false=>exact e
theorem JR(ha:PT X a tA):PW X (.BoolOp .Or [a] pos) tA:=by
 intro wh pins s σ H Q I h;refine isTrue_or (cz (ha pins s σ H Q I h) λc s1 e=>?_);cases c with
 | false=>exact isTrue_or_nil e
 | true=>exact e
theorem JS(ha:PT X a tA)(hb:PW X (.BoolOp .And (b::rest) pos) QN):PW X (.BoolOp .And (a::b::rest) pos) (RJ tA QN):=by
 intro wh pins s σ H Q I h;refine isTrue_and (cz (ha pins s σ H _ I h) λc s1 aJ=>?_);obtain⟨H1,I1,q1⟩:=aJ;cases c with
 | true=>exact hb wh pins s1 σ H1 Q I1 q1
 | false=>exact⟨H1,I1,q1⟩
theorem Nr(ha:PT X a tA)(hb:PW X (.BoolOp .Or (b::rest) pos) QN):PW X (.BoolOp .Or (a::b::rest) pos) (XQ tA QN):=by
 intro wh pins s σ H Q I h;refine isTrue_or (cz (ha pins s σ H _ I h) λc s1 aJ=>?_);obtain⟨H1,I1,q1⟩:=aJ;cases c with
 | true=>exact⟨H1,I1,q1⟩
 | false=>exact hb wh pins s1 σ H1 Q I1 q1
theorem JT(ha:PT X a tA):PT X (.UnaryOp .Not a pos) (RK tA):=by
 intro pins s σ H Q I h;exact isTrue_not (ha pins s σ H (λc H1=>Q (!c) H1) I h)
noncomputable def Nt(ta tb:TE):TE:=λσ H Q=>ta σ H λx H1=>∃c,x=.bl c/\if c=true then tb σ H1 Q else Q (.bl false) H1
noncomputable def RL(ta tb:TE):TE:=λσ H Q=>ta σ H λx H1=>∃c,x=.bl c/\if c=true then Q (.bl true) H1 else tb σ H1 Q
noncomputable def Nu(ta:TE):TE:=λσ H Q=>ta σ H λx H1=>∃c,x=.bl c/\Q (.bl (!c)) H1
theorem BI{op}(h:PE X a t):PE X (.BoolOp op [a] pos) t:=λpins s σ H Q I hw=>BoolOp_one (h pins s σ H Q I hw)
theorem JU(ha:PE X a ta)(hb:PE X (.BoolOp .And (b::rest) pos) tb):PE X (.BoolOp .And (a::b::rest) pos) (Nt ta tb):=by
 intro pins s σ H Q I h;refine BoolOp_and (cz (ha pins s σ H _ I h) λv s1 aJ=>?_);obtain⟨x,H1,I1,r1,q1⟩:=aJ;obtain⟨c,rfl,q1⟩:=q1;cases r1;refine wpAny_truthy_bool ?_;cases c with
 | true=>exact hb pins s1 σ H1 Q I1 q1
 | false=>exact⟨.bl false,H1,I1,rfl,q1⟩
theorem Nv(ha:PE X a ta)(hb:PE X (.BoolOp .Or (b::rest) pos) tb):PE X (.BoolOp .Or (a::b::rest) pos) (RL ta tb):=by
 intro pins s σ H Q I h;refine BoolOp_or (cz (ha pins s σ H _ I h) λv s1 aJ=>?_);obtain⟨x,H1,I1,r1,q1⟩:=aJ;obtain⟨c,rfl,q1⟩:=q1;cases r1;refine wpAny_truthy_bool ?_;cases c with
 | false=>exact hb pins s1 σ H1 Q I1 q1
 | true=>exact⟨.bl true,H1,I1,rfl,q1⟩
theorem JV(ha:PE X a ta):PE X (.UnaryOp .Not a pos) (Nu ta):=by
 intro pins s σ H Q I h;refine UnaryOp_ (cz (ha pins s σ H _ I h) λv s1 aJ=>?_);obtain⟨x,H1,I1,r1,q1⟩:=aJ;obtain⟨c,rfl,q1⟩:=q1;cases r1;exact not_of (wpAny_truthy_bool ⟨.bl (!c),H1,I1,rfl,q1⟩)
end
end L2
namespace L2
open PySem PySem.Spec PyProof.Rows
noncomputable def gI(K:PySem.W.Frag)(H:Hp)(a:Addr)(xs:List V):Prop :=
 Rd H a (.lst xs) \/
  ∃(o:Obj) (its:Array Value) (n:Nat),K.lookup a=some o/\o.cls=.type "list" /\ o.dict=none/\o.data=.seq its n/\its.size<=sizeLine/\Vals xs its.toList
noncomputable def jv(K:PySem.W.Frag)(H:Hp)(a:Addr)(xs:List V):Prop :=
 Rd H a (.tup xs) \/
  ∃(o:Obj) (its:Array Value) (n:Nat),K.lookup a=some o/\o.cls=.type "tuple" /\ o.data=.seq its n/\its.size<=sizeLine/\Vals xs its.toList
noncomputable def RM:Value->Option V
 | .none=>some .non
 | .bool b=>some (.bl b)
 | .int i _=>some (.int i)
 | .str x _=>some (.str x)
 | .bytes b _=>some (.byt b)
 | .float b _=>some (.flt b)
 | .ref a=>some (.ref a)
 | .type n=>some (.ty n)
 | _=>none
theorem RelV.abs(r:RelV x u):RM u=some x:=by
 cases x with
 | non=>cases r;rfl
 | bl _=>cases r;rfl
 | int _=>obtain⟨t,rfl⟩:=r;rfl
 | str _=>obtain⟨t,rfl⟩:=r;rfl
 | byt _=>obtain⟨t,rfl⟩:=r;rfl
 | flt _=>obtain⟨t,rfl⟩:=r;rfl
 | ref _=>cases r;rfl
 | ty _=>cases r;rfl
theorem RelV.inj(r:RelV x u)(q:RelV y u):x=y:=Option.some.inj (r.abs.symm.trans q.abs)
theorem Vals.inj:∀{xs ys:List V} {us:List Value},Vals xs us->Vals ys us->xs=ys
 | _,_,_,.nil,.nil=>rfl
 | _,_,_,.cons r t,.cons r' t'=>by rw[r.inj r',Vals.inj t t']
section
variable {X:Cx} {pins:List (Addr×Obj)} {σ:St} {H:Hp} {s:Shared} {a:Addr} {xs ys:List V}
theorem jv.of{K:PySem.W.Frag}(h:H a=some (.tup xs)):jv K H a xs:=.inl (.inl h)
theorem Inv.list(I:Inv X pins σ H s)(h:gI X.K H a xs):∃its:List Value,Vals xs its/\PlainL s.heap a its.toArray/\xs.length<=sizeLine:=by
 rcases h with h|⟨o,its,n,hk,hc,hd,hs,hz,r⟩
 ·obtain⟨z,its,n,r,e⟩:=h.ok I.hok;exact⟨its,r,⟨_,n,e,rfl,rfl,rfl⟩,z⟩
 ·refine⟨its.toList,r,⟨o,n,I.m8 a o hk,hc,hd,by simpa using hs⟩,?_⟩;have e:=r.length;simp only[length_toList] at e;omega
theorem Inv.tuple(I:Inv X pins σ H s)(h:jv X.K H a xs):∃its:List Value,Vals xs its/\IsTup s.heap a its.toArray/\xs.length<=sizeLine:=by
 rcases h with h|⟨o,its,n,hk,hc,hs,hz,r⟩
 ·obtain⟨z,its,r,p⟩:=h.ok I.hok;exact⟨its,r,p,z⟩
 ·refine⟨its.toList,r,⟨o,I.m8 a o hk,hc,n,by simpa using hs⟩,?_⟩;have e:=r.length;simp only[length_toList] at e;omega
theorem Inv.uY(I:Inv X pins σ H s)(h:gI X.K H a xs)(h':gI X.K H a ys):xs=ys:=by
 obtain⟨its,r,⟨o,n,e,_,_,d⟩,_⟩:=I.list h;obtain⟨its',r',⟨o',n',e',_,_,d'⟩,_⟩:=I.list h';rw[e] at e';cases e';rw[d] at d';injection d' with d1 _
 have:its=its':=by simpa using congrArg toList d1
 subst this;exact r.inj r'
theorem Inv.Ae(I:Inv X pins σ H s)(h:jv X.K H a xs)(h':jv X.K H a ys):xs=ys:=by
 obtain⟨its,r,⟨o,e,_,n,d⟩,_⟩:=I.tuple h;obtain⟨its',r',⟨o',e',_,n',d'⟩,_⟩:=I.tuple h';rw[e] at e';cases e';rw[d] at d';injection d' with d1 _
 have:its=its':=by simpa using congrArg toList d1
 subst this;exact r.inj r'
end
noncomputable abbrev Cx.rj(X:Cx)(E:Value->Shared->Prop):Cx:={ X with xe:=E }
noncomputable abbrev Cx.Nx(X:Cx):Cx:=X.rj λ_ _=>False
theorem Cx.Ok.rj{X:Cx}(ok:X.Ok)(E:Value->Shared->Prop):(X.rj E).Ok :=
 ⟨ok.mod,ok.kind,ok.glob,ok.blt,ok.above,ok.inj,ok.has,ok.Nk,ok.hd,ok.frames,ok.stk,ok.RD,ok.bs,ok.Iu,ok.lD,ok.BG,ok.oR,ok.JM⟩
theorem Cx.Ok.jR{X:Cx}{E:Value->Shared->Prop}(ok:(X.rj E).Ok):X.Ok :=
 ⟨ok.mod,ok.kind,ok.glob,ok.blt,ok.above,ok.inj,ok.has,ok.Nk,ok.hd,ok.frames,ok.stk,ok.RD,ok.bs,ok.Iu,ok.lD,ok.BG,ok.oR,ok.JM⟩
section
variable {X:Cx} {pins:List (Addr×Obj)} {σ:St} {H:Hp} {s:Shared} {E:Value->Shared->Prop}
theorem Inv.rj(I:Inv X pins σ H s)(E:Value->Shared->Prop):Inv (X.rj E) pins σ H s:=⟨I.ok.rj E,I.os,I.bare,I.base,I.loc,I.cell,I.free,I.jH,I.pin,I.hok,I.len⟩
theorem Inv.jR(I:Inv (X.rj E) pins σ H s):Inv X pins σ H s:=⟨I.ok.jR,I.os,I.bare,I.base,I.loc,I.cell,I.free,I.jH,I.pin,I.hok,I.len⟩
theorem SP.jR(h:SP (X.rj E) pins D f s'):SP X pins D f s':=by
 cases f with
 | next=>obtain⟨σ',H',I,q⟩:=h;exact⟨σ',H',I.jR,q⟩
 | brk=>obtain⟨σ',H',I,q⟩:=h;exact⟨σ',H',I.jR,q⟩
 | cont=>obtain⟨σ',H',I,q⟩:=h;exact⟨σ',H',I.jR,q⟩
 | ret u=>obtain⟨v,σ',H',I,r,q⟩:=h;exact⟨v,σ',H',I.jR,r,q⟩
theorem xG.Nx{st:List Stmt}{t:TS}(h:xG X.Nx st t):xG X st t:=λpins s σ H D I hw =>
 wpAny_mono (h pins s σ H D (I.rj _) hw) (λ_ _ q=>q.jR) λ_ _ z=>False.elim z
end
section
variable {X:Cx} {st:Stmt} {rest:List Stmt} {t u:TS} {e:Expr} {te:TE} {pos:Pos}
noncomputable def BJ:TS:=λD σ H=>D.nx σ H
noncomputable def RO(t u:TS):TS:=λD σ H=>t { D with nx:=u D } σ H
theorem E6:xG X [] BJ:=λ_ _ σ H _ I h=>wpAny_execs_nil ⟨σ,H,I,h⟩
theorem BK(h1:PS X st t)(h2:xG X rest u):xG X (st::rest) (RO t u):=by
 intro pins s σ H D I h;refine wpAny_execs_cons (cz (h1 pins s σ H { D with nx:=u D } I h) λf s1 q=>?_);cases f with
 | next =>obtain⟨σ',H',I',q⟩:=q;exact h2 pins s1 σ' H' D I' q
 | ret v=>exact q
 | brk=>exact q
 | cont=>exact q
noncomputable def JW:TS:=λD σ H=>D.bk σ H
noncomputable def Ny:TS:=λD σ H=>D.ct σ H
theorem E7:PS X (.Pass pos) BJ:=λ_ _ σ H _ I h=>wpAny_Pass ⟨σ,H,I,h⟩
theorem BL:PS X (.Break pos) JW:=λ_ _ σ H _ I h=>wpAny_Break ⟨σ,H,I,h⟩
theorem uZ:PS X (.Continue pos) Ny:=λ_ _ σ H _ I h=>wpAny_Continue ⟨σ,H,I,h⟩
theorem Inv.quiet(I:Inv X pins σ H s):interactive X.env=false:=by simp[interactive,I.ok.kind]
theorem JX{x j pos pos'}:PS X (.Expr (.Constant (.str x) j pos) pos') BJ:=λ_ s σ H _ I h=>wpAny_Expr (Calls.Constant_str (show SP X _ _ .next { s with toks:=s.toks+1 } from⟨σ,H,I.tok _,h⟩)) I.quiet
noncomputable def Nz(te:TE):TS:=λD σ H=>te σ H λ_ H1=>D.nx σ H1
theorem E8(he:PE X e te)(hs:swapsWith e none pos.line X.env=pure false:=by rfl):PS X (.Expr e pos) (Nz te):=by
 intro pins s σ H D I h;exact wpAny_Expr_any (cz (he pins s σ H _ I h) λv s1 ⟨x,H1,I1,r1,q1⟩=>⟨σ,H1,I1,q1⟩) I.quiet hs
noncomputable def RP(te:TE):TS:=λD σ H=>te σ H D.rt
theorem JY(he:PE X e te):PS X (.Return (some e) pos) (RP te):=by
 intro pins s σ H D I h;exact wpAny_Return_some (cz (he pins s σ H _ I h) λv s1 ⟨x,H1,I1,r1,q1⟩=>⟨x,σ,H1,I1,r1,q1⟩)
noncomputable def NB:TS:=λD _ H=>D.rt .non H
theorem E9:PS X (.Return none pos) NB:=λ_ _ σ H _ I h=>wpAny_Return_none ⟨.non,σ,H,I,rfl,h⟩
noncomputable def RQ(c:TT)(t u:TS):TS:=λD σ H=>c σ H λb H1=>if b=true then t D σ H1 else u D σ H1
theorem NC(hc:PT X c tc)(ha:xG X a t)(hb:xG X b u):PS X (.If c a b pos) (RQ tc t u):=by
 intro pins s σ H D I h;refine wpAny_If (cz (hc pins s σ H _ I h) λd s1 aJ=>?_);obtain⟨H1,I1,q1⟩:=aJ;cases d with
 | true=>exact ha pins s1 σ H1 D I1 q1
 | false=>exact hb pins s1 σ H1 D I1 q1
noncomputable def JZ:TS:=λ_ _ _=>False
theorem pI:PS X st JZ:=λ_ _ _ _ _ _ h=>h.elim
end
noncomputable abbrev TG:=V->St->Hp->(St->Hp->Prop)->Prop
noncomputable abbrev MY:=List V->St->Hp->(St->Hp->Prop)->Prop
noncomputable def PG(X:Cx)(target:Expr)(t:TG):Prop :=
 ∀(pins:List (Addr×Obj)) (s:Shared) (σ:St) (H:Hp) (v:V) (u:Value) (Q:St->Hp->Prop),Inv X pins σ H s->RelV v u->t v σ H Q ->
  wpAny (model X.prog X.w) X.A (assign target X.env u) (λ_ s'=>∃σ' H',Inv X pins σ' H' s'/\Q σ' H') X.xe s
noncomputable def MZ(X:Cx)(ts:List Expr)(t:MY):Prop :=
 ∀(pins:List (Addr×Obj)) (s:Shared) (σ:St) (H:Hp) (vs:List V) (us:List Value) (Q:St->Hp->Prop),Inv X pins σ H s->Vals vs us->t vs σ H Q ->
  wpAny (model X.prog X.w) X.A (assignInOrder ((assignEach ts X.env).map (·.2)) us) (λ_ s'=>∃σ' H',Inv X pins σ' H' s'/\Q σ' H') X.xe s
noncomputable abbrev J0:=V->V->V->Hp->(Hp->Prop)->Prop
noncomputable def J1(X:Cx)(t:J0):Prop :=
 ∀(pins:List (Addr×Obj)) (s:Shared) (σ:St) (H:Hp) (o i v:V) (ov iv u:Value) (Q:Hp->Prop),Inv X pins σ H s->RelV o ov->RelV i iv->RelV v u->t o i v H Q ->
  wpAny (model X.prog X.w) X.A (setItem ov iv u) (λ_ s'=>∃H',Inv X pins σ H' s'/\Q H') X.xe s
section
variable {X:Cx} {pos:Pos}
noncomputable def rP(i:Nat):TG:=λv σ H Q=>Q (σ.set i (some v)) H
theorem o6{i:Nat}(hN:X.N.Nodup)(hi:X.N[i]?=some x)(hx:Loc X.env.scope x)(hf:X.fn x=true\/X.env.scope.names.lookup x=some .local:=by first|exact .inl rfl|exact .inr rfl|assumption):PG X (.Name x pos) (rP i):=by
 intro pins s σ H v u Q I r h;exact wpAny_assign_Name (uX I hN hi hx r (λs' I'=>⟨_,H,I',h⟩) hf)
noncomputable def ND:MY:=λvs σ H Q=>vs=[]/\Q σ H
noncomputable def Iv(t:TG)(u:MY):MY:=λvs σ H Q=>∃v r,vs=v::r/\t v σ H λσ' H'=>u r σ' H' Q
theorem yP:MZ X [] ND:=by
 intro pins s σ H vs us Q I r h;obtain⟨e,h⟩:=h;subst e;cases r;exact assignInOrder_nil ⟨σ,H,I,h⟩
theorem u5(h1:PG X e t)(h2:MZ X es u)
  (hs:(assignEach (e::es) X.env).map (·.2)=assign e X.env::(assignEach es X.env).map (·.2):=by rfl):MZ X (e::es) (Iv t u):=by
 intro pins s σ H vs us Q I r h;obtain⟨v,vr,e1,h⟩:=h;subst e1;cases r with
 | cons r rr =>rw[hs];refine assignInOrder_cons (cz (h1 pins s σ H _ _ _ I r h) λ_ s1 aJ=>?_);obtain⟨σ1,H1,I1,q1⟩:=aJ;exact h2 pins s1 σ1 H1 _ _ Q I1 rr q1
noncomputable def NG(K:PySem.W.Frag)(n:Nat)(t:MY):TG:=λv σ H Q=>∃a xs,v=.ref a/\jv K H a xs/\xs.length=n/\t xs σ H Q
theorem BN{k:Nat}{n:Nat}(hc:X.calm=true)(h:MZ X es t)
  (hn:(assignEach es X.env).length=n:=by rfl) (hst:(assignEach es X.env).findIdx? (·.1)=none:=by rfl):PG X (.Tuple es k pos) (NG X.K n t):=by
 intro pins s σ H v u Q I r hw;obtain⟨a,xs,e1,hq,hl,hw⟩:=hw;subst e1;cases r;obtain⟨its,rv,ht,hz⟩:=I.tuple hq;refine assign_Tuple_tuple (I.ok.hd hc) ht (by simp[hn,<-hl,rv.length]) hst λh' hx=>?_;have I1:Inv X pins σ H { s with heap:=h' }:=I.kept (t':=s.toks) λb o e=>hx b o (ne_of_lt (lt_size e)) e;exact h pins _ σ H xs _ Q I1 (by simpa using rv) hw
noncomputable def NH(to ti:TE)(t:J0):TG:=λv σ H Q=>to σ H λo H1=>ti σ H1 λi H2=>t o i v H2 λH3=>Q σ H3
theorem J2(ho:PE X o to)(hi:PE X i ti)(hs:J1 X t)
  (ha:∀v,assign (.Subscript o i pos) X.env v=(do
   let ov <-holding [v] (eval o X.env)
   let iv <-holding [v,ov] (eval i X.env)
   standAt pos
   holding [v,ov,iv] (setItem ov iv v)
   release [v,ov,iv] []):=by intro _;rfl):PG X (.Subscript o i pos) (NH to ti t):=by
 intro pins s σ H v u Q I r h;rw[ha];refine wpAny_bind (wpAny_holding (cz (ho pins s σ H _ I h) λov s1 aJ=>?_));obtain⟨x,H1,I1,r1,q1⟩:=aJ;refine wpAny_bind (wpAny_holding (cz (hi pins s1 σ H1 _ I1 q1) λiv s2 aJ=>?_));obtain⟨y,H2,I2,r2,q2⟩:=aJ;refine wpAny_bind (wpAny_standAt (wpAny_bind (wpAny_holding (cz (hs pins s2 σ H2 x y v ov iv u _ I2 r1 r2 r q2) λ_ s3 aJ=>?_))));obtain⟨H3,I3,q3⟩:=aJ;exact wpAny_release ⟨σ,H3,I3,q3⟩
noncomputable def Fb(te:TE)(g:TG):TS:=λD σ H=>te σ H λx H1=>g x σ H1 D.nx
theorem BO(he:PE X e te)(hg:PG X tg g)(hs:swapsWithSole [tg] e pos.line X.env=pure false:=by rfl)(hw:swappedStores [tg] e X.env=pure none:=by rfl)
  (h1:(assignEach [tg] X.env).map (·.2)=[assign tg X.env]:=by rfl):PS X (.Assign [tg] e pos) (Fb te g):=by
 intro pins s σ H D I h;refine wpAny_Assign_stores (cz (he pins s σ H _ I h) λv s1 ⟨x,H1,I1,r1,q1⟩=>?_) hs hw;rw[h1];exact cz (hg pins s1 σ H1 x v _ I1 r1 q1) λ_ s2 q=>q
theorem BP{i:Nat}(hN:X.N.Nodup)(hi:X.N[i]?=some x)(hx:Loc X.env.scope x)(he:PE X e te)(hs:swapsWith e (some (.Name x pos')) pos.line X.env=pure false:=by rfl)(hf:X.fn x=true\/X.env.scope.names.lookup x=some .local:=by first|exact .inl rfl|exact .inr rfl|assumption) :
  PS X (.Assign [.Name x pos'] e pos) (Fb te (rP i)):=by
 intro pins s σ H D I h;refine wpAny_Assign_Name (cz (he pins s σ H _ I h) λv s1 ⟨y,H1,I1,r1,q1⟩=>?_) hs;exact uX I1 hN hi hx r1 (λs2 I2=>⟨_,H1,I2,q1⟩) hf
end
section
variable {X:Cx} {pos:Pos}
end
structure It where
 go:Nat->Hp->Prop
 xH:Nat->Hp->V->Hp->Prop
 stop:Nat->Hp->Prop
noncomputable def oS(X:Cx)(pins:List (Addr×Obj))(H:Hp)(b:Addr):Prop :=
 H b=none/\b≠X.env.locals/\b∉X.fs/\(b∈X.ex\/X.s₀.heap.objs.size<=b)/\(∀x c,X.env.cells.lookup x=some c->c≠b)/\∀p∈X.pn++pins,p.1≠b
theorem Inv.Fc(I:Inv X pins σ H s)(hb:s.heap.objs.size<=b)(hn:H' b=none):oS X pins H' b:=by
 refine⟨hn,Nat.ne_of_gt (lt_of_lt_of_le I.lt hb),I.RG hb,.inr (le_trans I.sz hb),λx c e z=>?_,λp hp z=>?_⟩
 ·obtain⟨v,q⟩:=I.cell x c e;exact absurd (lt_of_lt_of_le q.lt (by rw[z];exact hb)) (lt_irrefl _)
 ·exact absurd (lt_of_lt_of_le (lt_size (I.pin p hp).1) (by rw[z];exact hb)) (lt_irrefl _)
structure Turn (P:Program) (w:World) (K:PySem.W.Frag) (tg:Expr) (J:It) (fp:List Addr) (it:Addr) (tn:Nat->Heap->Prop):Prop where
 mem:it∈fp
 obj:∀i h,tn i h->∀b∈fp,∃o,h.get? b=some o/\∀v,o.data≠.cell v
 keep:∀i h h',tn i h->(∀b∈fp,∀o,h.get? b=some o->h'.get? b=some o)->tn i h'
 item:∀(X:Cx),X.prog=P->X.w=w->X.K=K->X.calm=true->∀(i:Nat) (pins:List (Addr×Obj)) (s:Shared) (σ:St) (H:Hp) (E:Value->Shared->Prop),Inv X pins σ H s->(∀b∈fp,oS X pins H b)->tn i s.heap->J.go i H ->
  wpAny (model P w) X.A (pyNext (.ref it)) (λr s1=>∃u,r=some u /\
   wpAny (model P w) X.A (letOwnedTupleGo tg (.ref it) u) (λ_ s2=>∃x H',Inv X pins σ H' s2/\RelV x u/\J.xH i H x H'/\tn (i+1) s2.heap/\∀b∈fp,H' b=none) E s1) E s
 done:∀(X:Cx),X.prog=P->X.w=w->X.K=K->X.calm=true->∀(i:Nat) (pins:List (Addr×Obj)) (s:Shared) (σ:St) (H:Hp) (E:Value->Shared->Prop),Inv X pins σ H s->(∀b∈fp,oS X pins H b)->tn i s.heap->J.stop i H ->
  wpAny (model P w) X.A (pyNext (.ref it)) (λr s1=>r=none/\Inv X pins σ H s1) E s
 self:∀(A:Around) (i:Nat) (s:Shared) (Q:Value->Shared->Prop) (E:Value->Shared->Prop),tn i s.heap->Q (.ref it) s->wpAny (model P w) A (pyIter (.ref it)) Q E s
noncomputable abbrev TI:=St->Hp->(It->Hp->Prop)->Prop
noncomputable def Wd(X:Cx)(pins:List (Addr×Obj))(σ:St)(tg:Expr)(R:It->Hp->Prop)(itv:Value)(s2:Shared):Prop :=
 ∃(it:Addr) (fp:List Addr) (tn:Nat->Heap->Prop) (J:It) (H':Hp),itv=.ref it/\Inv X pins σ H' s2/\Turn X.prog X.w X.K tg J fp it tn/\tn 0 s2.heap/\(∀b∈fp,oS X pins H' b)/\R J H'
noncomputable def PI(X:Cx)(tg iter:Expr)(wi:TI):Prop :=
 ∀(pins:List (Addr×Obj)) (s:Shared) (σ:St) (H:Hp) (R:It->Hp->Prop),Inv X pins σ H s->wi σ H R ->
  wpAny (model X.prog X.w) X.A (eval iter X.env) (λv s1=>wpAny (model X.prog X.w) X.A (pyIter v) (Wd X pins σ tg R) X.xe s1) X.xe s
theorem BQ{n:String}(ho:s.heap.get? it=some o)(hc:o.cls=.type n)(hd:o.data=.fields vs)
  (hn:["enumerate","zip","dict_itemiterator","dict_reverseitemiterator","odict_iterator","itertools.zip_longest","itertools.pairwise"].contains n=false) (hQ:Q () s):wpAny M A (letOwnedTupleGo tg (.ref it) u) Q E s:=by
 unfold letOwnedTupleGo;cases tg<;>first
  | exact wpAny_pure hQ
  | (cases u<;>first
    | exact wpAny_pure hQ
    | (refine wpAny_bind (wpAny_load ho ?_)
       rw[hc,hd];show wpAny M A (if (["enumerate","zip","dict_itemiterator","dict_reverseitemiterator","odict_iterator","itertools.zip_longest","itertools.pairwise"].contains n&&vs[0]?==some (rawInt _))=true then _ else _) Q E s;rw[if_neg (by intro h;rw[hn,Bool.false_and] at h;cases h)];exact wpAny_pure hQ))
noncomputable def QO(K:PySem.W.Frag)(a:Addr):It :=
 ⟨λi H=>∃xs x,gI K H a xs/\xs[i]?=some x,λi H x H'=>H'=H/\∀xs,gI K H a xs->xs[i]?=some x,λi H=>∃xs,gI K H a xs/\xs.length<=i⟩
noncomputable def RS(K:PySem.W.Frag)(a:Addr):It :=
 ⟨λi H=>∃xs x,jv K H a xs/\xs[i]?=some x,λi H x H'=>H'=H/\∀xs,jv K H a xs->xs[i]?=some x,λi H=>∃xs,jv K H a xs/\xs.length<=i⟩
noncomputable def NI(lo:Int)(n:Nat):It:=⟨λi _=>i<n,λi H x H'=>H'=H/\x=.int (lo+i),λi _=>n<=i⟩
theorem Af{P:Program}{w:World}{K:PySem.W.Frag}{tg:Expr}(a it:Addr):Turn P w K tg (QO K a) [it] it (λi h=>h.IsListIter it a i) where
 mem:=by simp
 obj:=λi h st b hb=>by
  have e:b=it:=by simpa using hb
  subst e;obtain⟨o,e,c,d⟩:=st;exact⟨o,e,λv z=>by rw[d] at z;cases z⟩
 keep:=λi h h' st k=>st.at λo e=>k it (by simp) o e
 item:=by intro X hP hw hK hc i pins s σ H E I hf st hg;subst hP hw hK;obtain⟨xs,x,hq,hx⟩:=hg;obtain⟨its,rv,p,hz⟩:=I.list hq;obtain⟨u,hu,ru⟩:=rv.get hx;obtain⟨f0,f1,f2,f3,f4,f5⟩:=hf it (by simp);refine wpAny_pyNext_list_item st p.isList (x:=u) (by simpa using hu) λh' st' sb=>?_;have I1:Inv X pins σ H { s with heap:=h' }:=I.turned (t':=s.toks) (λb o hb e=>(sb.2 b hb).trans e) f0 f1 f3 f4 f5;obtain⟨o,e,c,d⟩:=id st';exact⟨u,rfl,BQ (s:={ s with heap:=h' }) e c d (by decide) ⟨x,H,I1,ru,⟨rfl,λys hy=>by rw[I.uY hy hq];exact hx⟩,st',λb hb=>(hf b hb).1⟩⟩
 done:=by intro X hP hw hK hc i pins s σ H E I hf st hg;subst hP hw hK;obtain⟨xs,hq,hx⟩:=hg;obtain⟨its,rv,p,hz⟩:=I.list hq;obtain⟨f0,f1,f2,f3,f4,f5⟩:=hf it (by simp);have hl:=rv.length;exact wpAny_pyNext_list_end (I.ok.hd hc) st p.isList (by simp;omega) λh' eb=>⟨rfl,I.turned (t':=s.toks) (λb o hb e=>eb b o hb e) f0 f1 f3 f4 f5⟩
 self:=λ_ _ _ _ _ st h=>wpAny_pyIter_listiter st h
theorem xJ{P:Program}{w:World}{K:PySem.W.Frag}{tg:Expr}(a it:Addr):Turn P w K tg (RS K a) [it] it (λi h=>h.IsTupleIter it a i) where
 mem:=by simp
 obj:=λi h st b hb=>by
  have e:b=it:=by simpa using hb
  subst e;obtain⟨o,e,c,d⟩:=st;exact⟨o,e,λv z=>by rw[d] at z;cases z⟩
 keep:=λi h h' st k=>st.at λo e=>k it (by simp) o e
 item:=by intro X hP hw hK hc i pins s σ H E I hf st hg;subst hP hw hK;obtain⟨xs,x,hq,hx⟩:=hg;obtain⟨its,rv,p,hz⟩:=I.tuple hq;obtain⟨u,hu,ru⟩:=rv.get hx;obtain⟨f0,f1,f2,f3,f4,f5⟩:=hf it (by simp);refine wpAny_pyNext_tuple_item st (show s.heap.IsTuple a its.toArray from p) (x:=u) (by simpa using hu) λh' st' sb=>?_;have I1:Inv X pins σ H { s with heap:=h' }:=I.turned (t':=s.toks) (λb o hb e=>(sb.2 b hb).trans e) f0 f1 f3 f4 f5;obtain⟨o,e,c,d⟩:=id st';exact⟨u,rfl,BQ (s:={ s with heap:=h' }) e c d (by decide) ⟨x,H,I1,ru,⟨rfl,λys hy=>by rw[I.Ae hy hq];exact hx⟩,st',λb hb=>(hf b hb).1⟩⟩
 done:=by intro X hP hw hK hc i pins s σ H E I hf st hg;subst hP hw hK;obtain⟨xs,hq,hx⟩:=hg;obtain⟨its,rv,p,hz⟩:=I.tuple hq;obtain⟨f0,f1,f2,f3,f4,f5⟩:=hf it (by simp);have hl:=rv.length;exact wpAny_pyNext_tuple_end (I.ok.hd hc) st (show s.heap.IsTuple a its.toArray from p) (by simp;omega) λh' eb=>⟨rfl,I.turned (t':=s.toks) (λb o hb e=>eb b o hb e) f0 f1 f3 f4 f5⟩
 self:=λ_ _ _ _ _ st h=>wpAny_pyIter_tupleiter st h
theorem xK{P:Program}{w:World}{K:PySem.W.Frag}{tg:Expr}(it:Addr)(lo:Int)(n:Nat):Turn P w K tg (NI lo n) [it] it (λi h=>IsRangeIter h it (lo+(i:Nat)*1) ((n:Int)-(i:Nat)) 1) where
 mem:=by simp
 obj:=λi h st b hb=>by
  have e:b=it:=by simpa using hb
  subst e;exact⟨_,st,λv z=>by
   have z':Data.fields _=Data.cell v:=z;cases z'⟩
 keep:=λi h h' st k=>k it (by simp) _ st
 item:=by intro X hP hw hK hc i pins s σ H E I hf st hg;subst hP hw hK;obtain⟨f0,f1,f2,f3,f4,f5⟩:=hf it (by simp);have W:=Walks.range (prog:=X.prog) (w:=X.w) (I.ok.hd hc) it lo 1 n;refine W.item i s _ _ hg st λv h' tk hv st' kk=>?_;obtain⟨t,rfl⟩:=hv;have I1:Inv X pins σ H { s with heap:=h',toks:=tk }:=I.turned (λb o hb e=>kk b o (by simpa using hb) e) f0 f1 f3 f4 f5;refine⟨_,rfl,BQ (s:={ s with heap:=h',toks:=tk }) (n:="range_iterator") st' rfl rfl (by decide) ⟨.int (lo+i),H,I1,⟨t,?_⟩,⟨rfl,rfl⟩,st',λb hb=>(hf b hb).1⟩⟩;rw[Int.mul_one]
 done:=by intro X hP hw hK hc i pins s σ H E I hf st hg;subst hP hw hK;obtain⟨f0,f1,f2,f3,f4,f5⟩:=hf it (by simp);exact wpAny_pyNext_range_end (I.ok.hd hc) st (by have:n<=i:=hg;omega) λh' eb=>⟨rfl,I.turned (t':=s.toks) (λb o hb e=>eb b o hb e) f0 f1 f3 f4 f5⟩
 self:=λ_ _ _ _ _ st h=>wpAny_pyIter_rangeiter st h
end L2
namespace L2
open PySem PySem.Spec PyProof.Rows
section
variable {X:Cx} {tg:Expr}
noncomputable def NJ(K:PySem.W.Frag)(tl:TE):TI:=λσ H R=>tl σ H λx H1=>∃a,x=.ref a/\(∃xs,gI K H1 a xs)/\R (QO K a) H1
noncomputable def RT(K:PySem.W.Frag)(tl:TE):TI:=λσ H R=>tl σ H λx H1=>∃a,x=.ref a/\(∃xs,jv K H1 a xs)/\R (RS K a) H1
theorem Fd(hl:PE X l tl):PI X tg l (NJ X.K tl):=by
 intro pins s σ H R I h;refine cz (hl pins s σ H _ I h) λv s1 aJ=>?_;obtain⟨x,H1,I1,r1,q1⟩:=aJ;obtain⟨a,e,⟨xs,hq⟩,q⟩:=q1;subst e;cases r1;obtain⟨its,rv,p,hz⟩:=I1.list hq;refine wpAny_pyIter_list p.isList ?_;refine⟨s1.heap.objs.size,[s1.heap.objs.size],_,_,H1,rfl,I1.kept (t':=s1.toks) λb o e=>get?_push_of_some _ e,Af a _,⟨_,get?_push_size _ rfl,rfl,rfl⟩,λb hb=>?_,q⟩;have e:b=s1.heap.objs.size:=by simpa using hb
 subst e;exact I1.Fc (Nat.le_refl _) (I1.hok.fresh (Nat.le_refl _))
theorem J3(hl:PE X l tl):PI X tg l (RT X.K tl):=by
 intro pins s σ H R I h;refine cz (hl pins s σ H _ I h) λv s1 aJ=>?_;obtain⟨x,H1,I1,r1,q1⟩:=aJ;obtain⟨a,e,⟨xs,hq⟩,q⟩:=q1;subst e;cases r1;obtain⟨its,rv,p,hz⟩:=I1.tuple hq;refine wpAny_pyIter_tuple (show s1.heap.IsTuple a its.toArray from p) ?_;refine⟨s1.heap.objs.size,[s1.heap.objs.size],_,_,H1,rfl,I1.kept (t':=s1.toks) λb o e=>get?_push_of_some _ e,xJ a _,⟨_,get?_push_size _ rfl,rfl,rfl⟩,λb hb=>?_,q⟩;have e:b=s1.heap.objs.size:=by simpa using hb
 subst e;exact I1.Fc (Nat.le_refl _) (I1.hok.fresh (Nat.le_refl _))
theorem u6{lo hi:Int}{tk:Nat}(I:Inv X pins σ H s)(h1:-(2 ^ 62)<=lo)(h2:lo<2 ^ 62)(h3:-(2 ^ 62)<=hi)(h4:hi<2 ^ 62)
  (q:R (NI lo (hi-lo).toNat) H):wpAny (model X.prog X.w) X.A (pyIter (.ref s.heap.objs.size)) (Wd X pins σ tg R) E { s with heap:=s.heap.push { cls:=.type "range",data:=.fields #[.int lo t,.int hi u,.int 1 v] },toks:=tk }:=by
 refine wpAny_pyIter_range (IsRange.new ..) (small_one h1 h2 h3 h4) ?_;have I1:Inv X pins σ H { s with heap:=s.heap.push { cls:=.type "range",data:=.fields #[.int lo t,.int hi u,.int 1 v] },toks:=tk }:=I.kept λb o e=>get?_push_of_some _ e;refine⟨(s.heap.push { cls:=.type "range",data:=.fields #[.int lo t,.int hi u,.int 1 v] }).objs.size,[(s.heap.push { cls:=.type "range",data:=.fields #[.int lo t,.int hi u,.int 1 v] }).objs.size],_,_,H,rfl,
  I1.kept (t':=tk) λb o e=>get?_push_of_some _ e,xK _ lo (hi-lo).toNat,?_,λb hb=>?_,q⟩
 ·have e1:lo+((0:Nat):Int)*1=lo:=by simp
  have e2:(((hi-lo).toNat:Nat):Int)-((0:Nat):Int)=Builtin.Range.rangeSize lo hi 1:=by rw[rangeSize_one];split<;>omega
  show IsRangeIter _ _ (lo+((0:Nat):Int)*1) ((((hi-lo).toNat:Nat):Int)-((0:Nat):Int)) 1;rw[e1,e2];exact get?_push_size _ rfl
 ·have e:b=(s.heap.push { cls:=.type "range",data:=.fields #[.int lo t,.int hi u,.int 1 v] }).objs.size:=by simpa using hb
  subst e;exact I1.Fc (Nat.le_refl _) (I1.hok.fresh (Nat.le_refl _))
noncomputable def NK(ta:TA):TI:=λσ H R=>ta σ H λvs H1=>∃j:Int,vs=[.int j] /\ -(2 ^ 62)<=j/\j<2 ^ 62/\R (NI 0 j.toNat) H1
noncomputable def NL(ta:TA):TI:=λσ H R=>ta σ H λvs H1=>∃i j:Int,vs=[.int i,.int j]/\(-(2 ^ 62)<=i/\i<2 ^ 62 /\ -(2 ^ 62)<=j/\j<2 ^ 62)/\R (NI i (j-i).toNat) H1
theorem Ag(hg:Gl X "range")(hm:X.mg "range" = none)(ha:PA X [a] ta)(hs:starEach [a] X.env=[(false,eval a X.env)]:=by rfl):PI X tg (.Call (.Name "range" p) [a] [] pos) (NK ta):=by
 intro pins s σ H R I h;refine Call_ (iD I hg hm boot_range (PyProof.Rows.callWith_type1 (cz (ha pos pins s σ H _ I h) λus s1 aJ=>?_) hs rfl));obtain⟨vs,H1,I1,r1,q1⟩:=aJ;obtain⟨j,e,q1,q2,q⟩:=q1;subst e;cases r1 with
 | cons r rr =>cases rr;obtain⟨t,rfl⟩:=r;exact call_range_1 (u6 I1 (by omega) (by omega) q1 q2 (by simpa using q))
theorem Ah(hg:Gl X "range")(hm:X.mg "range" = none)(ha:PA X [a,b] ta)(hs:starEach [a,b] X.env=[(false,eval a X.env),(false,eval b X.env)]:=by rfl)(hs2:starEach [b] X.env=[(false,eval b X.env)]:=by rfl) :
  PI X tg (.Call (.Name "range" p) [a,b] [] pos) (NL ta):=by
 intro pins s σ H R I h;refine Call_ (iD I hg hm boot_range (PyProof.Rows.callWith_type1 (cz (ha pos pins s σ H _ I h) λus s1 ⟨vs,H1,I1,r1,q1⟩=>?_) (by rw[hs,hs2]) (by rw[hs2];rfl)));obtain⟨i,j,e,⟨q1,q2,q3,q4⟩,q⟩:=q1;subst e;cases r1 with
 | cons r rr =>
  cases rr with
  | cons r' rr =>cases rr;obtain⟨t,rfl⟩:=r;obtain⟨t',rfl⟩:=r';exact call_range_2 (u6 I1 q1 q2 q3 q4 q)
noncomputable def RU(wi:TI)(g:TG)(tb:TS):TS:=λD σ H=>wi σ H λJ H1=>∃W:Nat->Nat->St->Hp->Prop,(∃m,W 0 m σ H1)/\∀i m σ H,W i m σ H ->
 (J.stop i H/\D.nx σ H)\/(J.go i H/\∃N:St->Hp->Prop,(∀σ' H',N σ' H'->∃m',m'<m/\W (i+1) m' σ' H')/\∀x H',J.xH i H x H'->g x σ H' λσ2 H2=>tb { D with nx:=N,ct:=N,bk:=D.nx } σ2 H2)
noncomputable def pJ(fp:List Addr)(h:Heap):List (Addr×Obj):=fp.filterMap λb=>(h.get? b).map λo=>(b,o)
theorem jw(hb:b∈fp)(e:h.get? b=some o):(b,o)∈pJ fp h:=List.mem_filterMap.mpr ⟨b,hb,by rw[e];rfl⟩
theorem Ai(hp:p∈pJ fp h):p.1∈fp/\h.get? p.1=some p.2:=by
 obtain⟨b,hb,e⟩:=List.mem_filterMap.mp hp;cases q:h.get? b with
 | none=>rw[q] at e;cases e
 | some o =>rw[q] at e;have e':(b,o)=p:=Option.some.inj e;subst e';exact⟨hb,q⟩
theorem Inv.pinned(I:Inv X pins σ H s)(hf:∀b∈fp,oS X pins H b)(ho:∀b∈fp,∃o,s.heap.get? b=some o/\∀v,o.data≠.cell v):Inv X (pins++pJ fp s.heap) σ H s :=
 I.yO λp hp=>(mem_append.mp hp).elim (λz=>I.pin p (mem_append_right _ z)) λz=>by
  obtain⟨hb,e⟩:=Ai z;obtain⟨f0,f1,f2,_⟩:=hf p.1 hb;obtain⟨o,e',d⟩:=ho p.1 hb;rw[e] at e';cases e';exact⟨e,f0,f1,f2,d⟩
theorem Inv.lT(I:Inv X (pins++pl) σ H s):Inv X pins σ H s:=I.yO λp hp=>I.pin p (mem_append_right _ (mem_append_left _ hp))
theorem J4(hp:PassesOwn (model X.prog X.w) X.A X.env X.xe)(hc:X.calm=true)(hi:PI X tg iter wi)(hg:PG X tg g)(hb:xG X body tb)
  (hs:∀x,foldedSetIterable iter X.env x=pure x:=by intro _;rfl):PS X (.For tg iter body [] pos) (RU wi g tb):=by
 intro pins s σ H D I h;refine wpAny_For (cz (hi pins s σ H _ I h) λv s1 h1=>cz h1 λitv s2 h2=>?_) hs;obtain⟨it,fp,tn,J,H2,e,I2,T,st2,f2,W,⟨m0,w0⟩,turn⟩:=h2;subst e;have stat:∀{H':Hp},(∀b∈fp,H' b=none)->∀b∈fp,oS X pins H' b:=λhn b hb=>⟨hn b hb,(f2 b hb).2⟩;refine codeAny_forLoop_any (λn s'=>∃i σ' H',Inv X pins σ' H' s'/\tn i s'.heap/\(∀b∈fp,H' b=none)/\W i n σ' H') ?_ m0 ⟨0,σ,H2,I2,st2,λb hb=>(f2 b hb).1,w0⟩;rintro n s3 ⟨i,σ3,H3,I3,st3,We,w3⟩
 rcases turn i n σ3 H3 w3 with ⟨stop,qn⟩|⟨go,N,hN,step⟩
 ·refine wpAny_passesOwn hp (cz (T.done X rfl rfl rfl hc i pins s3 σ3 H3 X.xe I3 (stat We) st3 stop) λr s4 aJ=>?_);obtain⟨hr,I4⟩:=aJ;subst hr;exact wpAny_execs_nil ⟨σ3,H3,I4,qn⟩
 ·refine wpAny_passesOwn hp (cz (T.item X rfl rfl rfl hc i pins s3 σ3 H3 X.xe I3 (stat We) st3 go) λr s4 aJ=>?_)
  obtain⟨u,hr,h4⟩:=aJ;subst hr;refine wpAny_passesOwn hp (cz h4 λ_ s5 aJ=>?_);obtain⟨x,H5,I5,r5,y5,M0,QS⟩:=aJ;have XR:=I5.pinned (stat QS) (T.obj _ _ M0);refine wpAny_passesOwn hp (cz (hg _ s5 σ3 H5 x u _ XR r5 (step x H5 y5)) λ_ s6 aJ=>?_);obtain⟨σ6,H6,I6,q6⟩:=aJ;refine wpAny_passesOwn hp (cz (hb _ s6 σ6 H6 _ I6 q6) λf s7 q7=>?_);have again:∀{σ7:St} {H7:Hp},Inv X (pins++pJ fp s5.heap) σ7 H7 s7->N σ7 H7->∃m,m<n/\∃i σ' H',Inv X pins σ' H' s7/\tn i s7.heap/\(∀b∈fp,H' b=none)/\W i m σ' H':=λ{σ7 H7} I7 n7=>by
   obtain⟨m',hm,w7⟩:=hN σ7 H7 n7;refine⟨m',hm,i+1,σ7,H7,I7.lT,T.keep _ _ _ M0 λb hb o e=>(I7.pin (b,o) (mem_append_right _ (mem_append_right _ (jw hb e)))).1,λb hb=>?_,w7⟩;obtain⟨o,e,d⟩:=T.obj _ _ M0 b hb;exact(I7.pin (b,o) (mem_append_right _ (mem_append_right _ (jw hb e)))).2.1
  cases f with
  | next=>obtain⟨σ7,H7,I7,n7⟩:=q7;exact again I7 n7
  | cont=>obtain⟨σ7,H7,I7,n7⟩:=q7;exact again I7 n7
  | brk=>obtain⟨σ7,H7,I7,q7⟩:=q7;exact⟨σ7,H7,I7.lT,q7⟩
  | ret v=>obtain⟨x7,σ7,H7,I7,r7,q7⟩:=q7;exact⟨x7,σ7,H7,I7.lT,r7,q7⟩
end
end L2
namespace L2
open PySem PySem.Spec PyProof.Rows
noncomputable abbrev R2:=V->V->Hp->VK->Prop
noncomputable def kC(X:Cx)(f:Value->Value->Sem Value)(r:R2):Prop :=
 ∀(pins:List (Addr×Obj)) (s:Shared) (σ:St) (H:Hp) (x y:V) (v u:Value) (Q:VK),Inv X pins σ H s->RelV x v->RelV y u->r x y H Q ->
  wpAny (model X.prog X.w) X.A (f v u) (EP X pins σ Q) X.xe s
noncomputable def QT(X:Cx)(f:Value->Sem Value)(r:V->Hp->VK->Prop):Prop :=
 ∀(pins:List (Addr×Obj)) (s:Shared) (σ:St) (H:Hp) (x:V) (v:Value) (Q:VK),Inv X pins σ H s->RelV x v->r x H Q ->
  wpAny (model X.prog X.w) X.A (f v) (EP X pins σ Q) X.xe s
noncomputable def cC(X:Cx)(f:Value)(r:List V->Hp->VK->Prop):Prop :=
 ∀(pins:List (Addr×Obj)) (s:Shared) (σ:St) (H:Hp) (xs:List V) (us:List Value) (Q:VK),Inv X pins σ H s->Vals xs us->r xs H Q ->
  wpAny (model X.prog X.w) X.A (call f us) (EP X pins σ Q) X.xe s
noncomputable def RW(X:Cx)(r:V->Hp->(Bool->Hp->Prop)->Prop):Prop :=
 ∀(pins:List (Addr×Obj)) (s:Shared) (σ:St) (H:Hp) (x:V) (v:Value) (Q:Bool->Hp->Prop),Inv X pins σ H s->RelV x v->r x H Q ->
  wpAny (model X.prog X.w) X.A (truthy v) (TP X pins σ Q) X.xe s
noncomputable def QU(r:R2)(ta tb:TE):TE:=λσ H Q=>ta σ H λx H1=>tb σ H1 λy H2=>r x y H2 Q
noncomputable def XS(r:V->Hp->VK->Prop)(ta:TE):TE:=λσ H Q=>ta σ H λx H1=>r x H1 Q
noncomputable def rI(C:Int->Int->Prop)(g:Int->Int->V):R2:=λx y H Q=>∃i j,x=.int i/\y=.int j/\C i j/\Q (g i j) H
noncomputable def Iw(g:Int->Int->V):R2:=λx y H Q=>∃i j,x=.int i/\y=.int j/\Q (g i j) H
noncomputable def rU(g:Int->V):V->Hp->VK->Prop:=λx H Q=>∃i,x=.int i/\Q (g i) H
section
variable {X:Cx} {a b c:Expr} {ta tb tc:TE} {pos:Pos}
theorem J5(ha:PE X a ta)(hb:PE X b tb){pins:List (Addr×Obj)}{s:Shared}{σ:St}{H:Hp}{R:V->V->Hp->Prop}(I:Inv X pins σ H s)
  (h:ta σ H λx H1=>tb σ H1 λy H2=>R x y H2) {Q:Value->Shared->Prop} {f:Value->Value->Sem Value}
  (hf:∀v u s2 x y H2,Inv X pins σ H2 s2->RelV x v->RelV y u->R x y H2->wpAny (model X.prog X.w) X.A (f v u) Q X.xe s2) :
  wpAny (model X.prog X.w) X.A (eval a X.env) (λv s₁=>wpAny (model X.prog X.w) X.A (eval b X.env) (λu s₂=>wpAny (model X.prog X.w) X.A (f v u) Q X.xe s₂) X.xe s₁) X.xe s:=by
 refine cz (ha pins s σ H _ I h) λv s1 aJ=>?_;obtain⟨x,H1,I1,r1,q1⟩:=aJ;refine cz (hb pins s1 σ H1 _ I1 q1) λu s2 aJ=>?_;obtain⟨y,H2,I2,r2,q2⟩:=aJ;exact hf v u s2 x y H2 I2 r1 r2 q2
theorem NN(ho:kC X (binaryOp op) r)(ha:PE X a ta)(hb:PE X b tb):PE X (.BinOp a op b pos) (QU r ta tb):=by
 intro pins s σ H Q I h;exact wpAny_BinOp (J5 ha hb I h λv u s2 x y H2 I2 rx ry q=>ho pins s2 σ H2 x y v u Q I2 rx ry q)
theorem NO(ho:QT X (unaryOp op) r)(ha:PE X a ta):PE X (.UnaryOp op a pos) (XS r ta):=by
 intro pins s σ H Q I h;exact UnaryOp_ (cz (ha pins s σ H _ I h) λv s1 ⟨x,H1,I1,r1,q1⟩=>ho pins s1 σ H1 x v Q I1 r1 q1)
theorem QV{f:Value->Value->Sem Value}{C:Int->Int->Prop}{g:Int->Int->Int}
  (rule:∀(i j:Int) (t u:Tok) (s:Shared) (Q:Value->Shared->Prop) (E:Value->Shared->Prop),C i j->Q (.int (g i j) s.toks) { s with toks:=s.toks+1 }->wpAny (model X.prog X.w) X.A (f (.int i t) (.int j u)) Q E s) :
  kC X f (rI C λi j=>.int (g i j)):=by
 intro pins s σ H x y v u Q I rx ry h;obtain⟨i,j,rfl,rfl,hc,q⟩:=h;obtain⟨t,rfl⟩:=rx;obtain⟨t',rfl⟩:=ry;exact rule i j t t' s _ _ hc ⟨.int (g i j),H,I.tok _,⟨_,rfl⟩,q⟩
theorem NP{f:Value->Value->Sem Value}{g:Int->Int->Int}
  (rule:∀(i j:Int) (t u:Tok) (s:Shared) (Q:Value->Shared->Prop) (E:Value->Shared->Prop),Q (.int (g i j) s.toks) { s with toks:=s.toks+1 }->wpAny (model X.prog X.w) X.A (f (.int i t) (.int j u)) Q E s) :
  kC X f (Iw λi j=>.int (g i j)):=by
 intro pins s σ H x y v u Q I rx ry h;obtain⟨i,j,rfl,rfl,q⟩:=h;obtain⟨t,rfl⟩:=rx;obtain⟨t',rfl⟩:=ry;exact rule i j t t' s _ _ ⟨.int (g i j),H,I.tok _,⟨_,rfl⟩,q⟩
theorem Fe{f:Value->Value->Sem Value}{g:Int->Int->Bool}
  (rule:∀(i j:Int) (t u:Tok) (s:Shared) (Q:Value->Shared->Prop) (E:Value->Shared->Prop),Q (.bool (g i j)) s->wpAny (model X.prog X.w) X.A (f (.int i t) (.int j u)) Q E s) :
  kC X f (Iw λi j=>.bl (g i j)):=by
 intro pins s σ H x y v u Q I rx ry h;obtain⟨i,j,rfl,rfl,q⟩:=h;obtain⟨t,rfl⟩:=rx;obtain⟨t',rfl⟩:=ry;exact rule i j t t' s _ _ ⟨.bl (g i j),H,I,rfl,q⟩
noncomputable def RX(i j:Int):Prop:=0<=j/\j<=1000000/\i.natAbs<2 ^ 64
noncomputable def J6(i j:Int):Prop:=(-(2 ^ 64)<i/\i<2 ^ 64)\/(-(2 ^ 64)<j/\j<2 ^ 64)
theorem J6.ok{i j:Int}(h:J6 i j):IntMulOk i j:=by
 rcases h with ⟨h1,h2⟩|⟨h1,h2⟩
 ·exact .of_left (intBits_le_64 h1 h2)
 ·exact .of_right (intBits_le_64 h1 h2)
theorem J7:kC X (binaryOp .Add) (Iw λi j=>.int (i+j)):=NP λ_ _ _ _ _ _ _ q=>add_int q
theorem J8:kC X (binaryOp .Sub) (Iw λi j=>.int (i-j)):=NP λ_ _ _ _ _ _ _ q=>sub_int q
theorem J9:kC X (binaryOp .Mult) (rI J6 λi j=>.int (i*j)):=QV λ_ _ _ _ _ _ _ hc q=>mul_int q hc.ok
theorem Ka:kC X (binaryOp .Mod) (rI (λ_ j=>0<j) λi j=>.int (i%j)):=QV λi j _ _ _ _ _ hc q=>by
 have h1:(0:Int)<j:=hc;exact mod_int' (by omega) (by rw[Int.fmod_eq_emod_of_nonneg i (by omega)];exact q)
theorem Kc:kC X (binaryOp .Pow) (rI RX λi j=>.int (i ^ j.toNat)):=QV λ_ _ _ _ _ _ _ hc q=>pow_int_small hc.1 hc.2.1 hc.2.2 q
theorem XT{f:Value->Sem Value}{g:Int->Int}
  (rule:∀(i:Int) (t:Tok) (s:Shared) (Q:Value->Shared->Prop) (E:Value->Shared->Prop),Q (.int (g i) s.toks) { s with toks:=s.toks+1 }->wpAny (model X.prog X.w) X.A (f (.int i t)) Q E s) :
  QT X f (rU λi=>.int (g i)):=by
 intro pins s σ H x v Q I rx h;obtain⟨i,rfl,q⟩:=h;obtain⟨t,rfl⟩:=rx;exact rule i t s _ _ ⟨.int (g i),H,I.tok _,⟨_,rfl⟩,q⟩
theorem BR:QT X (unaryOp .USub) (rU λi=>.int (-i)):=XT λ_ _ _ _ _ q=>neg_int q
end
section
variable {X:Cx} {a b c:Expr} {ta tb tc:TE} {pos:Pos}
theorem m9{k k':Bool}(I:Inv X pins σ H s)(q:Q (.bl k) H)(e:k=k'):EP X pins σ Q (.bool k') s:=by
 subst e;exact⟨.bl k,H,I,rfl,q⟩
theorem NQ:kC X (compareOp .Lt) (Iw λi j=>.bl (decide (i<j))):=Fe λ_ _ _ _ _ _ _ q=>lt_int q
theorem NR:kC X (compareOp .LtE) (Iw λi j=>.bl (decide (i<=j))):=Fe λ_ _ _ _ _ _ _ q=>le_int q
theorem NS:kC X (compareOp .Gt) (Iw λi j=>.bl (decide (j<i))):=Fe λ_ _ _ _ _ _ _ q=>gt_int q
theorem NT:kC X (compareOp .GtE) (Iw λi j=>.bl (decide (j<=i))):=Fe λ_ _ _ _ _ _ _ q=>ge_int q
theorem Aj:kC X (compareOp .In) (λx y H Q=>∃i j,x=.str i/\y=.str j/\Q (.bl (!(Builtin.Str.occurrences j i 0 j.length 1).isEmpty)) H):=by
 intro pins s σ H x y v u Q I rx ry h;obtain⟨i,j,rfl,rfl,q⟩:=h;obtain⟨t,rfl⟩:=rx;obtain⟨t',rfl⟩:=ry;exact in_str (m9 I q rfl)
theorem Kd:kC X (compareOp .Is) (λx y H Q=>y=.non/\Q (.bl (decide (x=.non))) H):=by
 intro pins s σ H x y v u Q I rx ry h;obtain⟨rfl,q⟩:=h;cases ry;refine is_none_gen (m9 I q ?_);cases x<;>first
  | (cases rx;rfl)
  | (obtain⟨t,rfl⟩:=rx;rfl)
theorem Ff:kC X (compareOp .IsNot) (λx y H Q=>y=.non/\Q (.bl (!decide (x=.non))) H):=by
 intro pins s σ H x y v u Q I rx ry h;obtain⟨rfl,q⟩:=h;cases ry;refine isnot_none_gen (m9 I q ?_);cases x<;>first
  | (cases rx;rfl)
  | (obtain⟨t,rfl⟩:=rx;rfl)
theorem tH:kC X (compareOp .NotIn) (λx y H Q=>∃i j,x=.str i/\y=.str j/\Q (.bl (!(!(Builtin.Str.occurrences j i 0 j.length 1).isEmpty))) H):=by
 intro pins s σ H x y v u Q I rx ry h;obtain⟨i,j,rfl,rfl,q⟩:=h;obtain⟨t,rfl⟩:=rx;obtain⟨t',rfl⟩:=ry;exact notIn_str (m9 I q rfl)
theorem RY(b:Expr)(h:op≠.In:=by decide)(h2:op≠.NotIn:=by decide):behindInMarks op b=false:=by
 have e1:(op==CmpOp.In)=false:=by cases op<;>first|rfl|exact absurd rfl h
 have e2:(op==CmpOp.NotIn)=false:=by cases op<;>first|rfl|exact absurd rfl h2
 cases b<;>simp[behindInMarks,e1,e2]
theorem Fg(ho:kC X (compareOp op) r)(ha:PE X a ta)(hb:PE X b tb)(hm:behindInMarks op b=false):PE X (.Compare a [op] [b] pos) (QU r ta tb):=by
 intro pins s σ H Q I h;exact wpAny_Compare1 (J5 ha hb I h λv u s2 x y H2 I2 rx ry q=>ho pins s2 σ H2 x y v u Q I2 rx ry q) hm
noncomputable def Iz(t:TE):TT:=λσ H Q=>t σ H λx H'=>∃k,x=.bl k/\Q k H'
theorem Fi(ho:kC X (compareOp op) r)(ha:PE X a ta)(hb:PE X b tb)(hm:behindInMarks op b=false):PT X (.Compare a [op] [b] pos) (Iz (QU r ta tb)):=by
 intro pins s σ H Q I h;refine wpAny_isTrue_Compare1 (cz (ha pins s σ H _ I h) λv s1 ⟨x,H1,I1,r1,q1⟩=>cz (hb pins s1 σ H1 _ I1 q1) λu s2 ⟨y,H2,I2,r2,q2⟩ =>
  cz (ho pins s2 σ H2 x y v u _ I2 r1 r2 q2) λc s3 ⟨z,H3,I3,r3,k,e,q3⟩=>?_) hm
 subst e;cases r3;exact wpAny_truthy_bool ⟨H3,I3,q3⟩
noncomputable def BS(r r':R2)(ta tb tc:TE):TE:=λσ H Q=>ta σ H λx H1=>tb σ H1 λy H2=>r x y H2 λz H3=>∃k,z=.bl k /\
 (if k=true then tc σ H3 λw' H4=>r' y w' H4 Q else Q (.bl false) H3)
theorem BU(ho:kC X (compareOp op) r)(ho':kC X (compareOp op') r')(ha:PE X a ta)(hb:PE X b tb)(hc:PE X c tc)
  (hm:lastMarks [op,op'] [b,c]=false:=by with_unfolding_all rfl):PE X (.Compare a [op,op'] [b,c] pos) (BS r r' ta tb tc):=by
 intro pins s σ H Q I h;refine Compare_chain (cz (ha pins s σ H _ I h) λv s1 ⟨x,H1,I1,r1,q1⟩=>chain_link (cz (hb pins s1 σ H1 _ I1 q1) λu s2 ⟨y,H2,I2,r2,q2⟩ =>
  cz (ho pins s2 σ H2 x y v u _ I2 r1 r2 q2) λd s3 ⟨z,H3,I3,r3,k,e,q3⟩=>?_)) hm
 subst e;cases r3;refine wpAny_truthy_bool ?_;cases k with
 | false=>exact ite_ff ⟨.bl false,H3,I3,rfl,q3⟩
 | true=>exact ite_tt (chain_last (cz (hc pins s3 σ H3 _ I3 q3) λw' s4 ⟨z',H4,I4,r4,q4⟩=>ho' pins s4 σ H4 y z' u w' Q I4 r2 r4 q4))
theorem BV(ho:kC X (compareOp op) r)(ho':kC X (compareOp op') r')(ha:PE X a ta)(hb:PE X b tb)(hc:PE X c tc)
  (hm:lastMarks [op,op'] [b,c]=false:=by with_unfolding_all rfl):PT X (.Compare a [op,op'] [b,c] pos) (Iz (BS r r' ta tb tc)):=by
 intro pins s σ H Q I h;refine isTrue_chain (cz (ha pins s σ H _ I h) λv s1 ⟨x,H1,I1,r1,q1⟩=>test_link (cz (hb pins s1 σ H1 _ I1 q1) λu s2 ⟨y,H2,I2,r2,q2⟩ =>
  cz (ho pins s2 σ H2 x y v u _ I2 r1 r2 q2) λd s3 ⟨z,H3,I3,r3,k,e,q3⟩=>?_)) hm
 subst e;cases r3;refine wpAny_truthy_bool ?_;cases k with
 | false =>obtain⟨k',e',q'⟩:=q3;cases e';exact ite_ff ⟨H3,I3,q'⟩
 | true =>refine ite_tt (test_last (cz (hc pins s3 σ H3 _ I3 q3) λw' s4 ⟨z',H4,I4,r4,q4⟩=>cz (ho' pins s4 σ H4 y z' u w' _ I4 r2 r4 q4) λd' s5 aJ=>?_));obtain⟨z2,H5,I5,r5,k2,e2,q5⟩:=aJ;subst e2;cases r5;exact wpAny_truthy_bool ⟨H5,I5,q5⟩
noncomputable def Ke(K:PySem.W.Frag)(x:V)(H:Hp)(k:Bool):Prop :=
 match x with
 | .non=>k=false
 | .bl b=>k=b
 | .int i=>k=(i != 0)
 | .str y=>y.length<=sizeLine/\k=((y.length:Int) != 0)
 | .byt y=>y.size<=sizeLine/\k=((y.size:Int) != 0)
 | .ref p=>(∃xs,gI K H p xs/\k = !xs.isEmpty)\/(∃xs,jv K H p xs/\k = !xs.isEmpty)\/∃kvs,H p=some (.dK kvs)/\k = !kvs.isEmpty
 | _=>False
theorem xM{κ:Type}{kvs:List (κ × V)}{vs:List (κ × Value)}(r:KV kvs vs):(!vs.isEmpty) = !kvs.isEmpty:=by
 cases r<;>rfl
theorem pK(r:Vals xs its):(!its.toArray.isEmpty) = !xs.isEmpty:=by
 cases r<;>simp
theorem nh:(sizeLine:Nat)<2 ^ 63:=by rw[sizeLine_eq];decide
theorem Kf:RW X (λx H Q=>∃k,Ke X.K x H k/\Q k H):=by
 intro pins s σ H x v Q I rx h;obtain⟨k,e,q⟩:=h;have hl:=nh;have hs:sizeLine=16777216:=sizeLine_eq;cases x with
 | non =>cases rx;have e':k=false:=e;subst e';exact truthy_none ⟨H,I,q⟩
 | bl b =>cases rx;have e':k=b:=e;subst e';exact wpAny_truthy_bool ⟨H,I,q⟩
 | int i =>obtain⟨t,rfl⟩:=rx;have e':k=(i != 0):=e;subst e';exact PySem.P.truthy_int ⟨H,I,q⟩
 | str y =>obtain⟨t,rfl⟩:=rx;obtain⟨hy,e'⟩:y.length<=sizeLine/\k=((y.length:Int) != 0):=e;subst e';exact PySem.P.truthy_str (by omega) ⟨H,I.tok _,q⟩
 | byt y =>obtain⟨t,rfl⟩:=rx;obtain⟨hy,e'⟩:y.size<=sizeLine/\k=((y.size:Int) != 0):=e;subst e';exact PySem.W.truthy_bytes (by omega) ⟨H,I.tok _,q⟩
 | ref p =>
  cases rx;have e':(∃xs,gI X.K H p xs/\k = !xs.isEmpty)\/(∃xs,jv X.K H p xs/\k = !xs.isEmpty)\/∃kvs,H p=some (.dK kvs)/\k = !kvs.isEmpty:=e
  rcases e' with ⟨xs,hx,e'⟩|⟨xs,hx,e'⟩|⟨kvs,hx,e'⟩
  ·subst e';obtain⟨its,r,pl,hz⟩:=I.list hx;have hlen:=r.length;exact wpAny_truthy_list pl.isList (by simp only[size_toArray];omega) ⟨H,I.tok _,by rw[pK r];exact q⟩
  ·subst e';obtain⟨its,r,pl,hz⟩:=I.tuple hx;have hlen:=r.length;exact truthy_tuple pl (by simp only[size_toArray];omega) ⟨H,I.tok _,by rw[pK r];exact q⟩
  ·subst e';obtain⟨hz,hS,vs,r,m⟩:kvs.length<=sizeLine/\(p==sysModules)=false/\∃vs,KV kvs vs/\s.heap.DictOf (aY X.prog X.w) p vs:=I.hok p _ hx;have hlen:kvs.length=vs.length:=Paired.length r;exact wpAny_truthy_dict hS m (by omega) ⟨H,I.tok _,by rw[xM r];exact q⟩
 | _=>exact(show False from e).elim
theorem BW(ha:PE X a ta)(he:∀whole,isTrue a X.env whole=(do let v <-whole;standAt a.pos;holding [v] (truthy v))) :
  PT X a (λσ H Q=>ta σ H λx H'=>∃k,Ke X.K x H' k/\Q k H'):=by
 intro pins s σ H Q I h;exact isTrue_plain (cz (ha pins s σ H _ I h) λv s1 ⟨x,H1,I1,r1,q1⟩=>Kf pins s1 σ H1 x v Q I1 r1 q1) (he _)
theorem xN:kC X (binaryOp .Add) (λx y H Q=>∃i j,x=.str i/\y=.str j/\i.length+j.length<=sizeLine/\Q (.str (i++j)) H):=by
 intro pins s σ H x y v u Q I rx ry h;obtain⟨i,j,rfl,rfl,hz,q⟩:=h;obtain⟨t,rfl⟩:=rx;obtain⟨t',rfl⟩:=ry;exact add_str (λt' tk=>⟨.str (i++j),H,I.tok _,⟨_,rfl⟩,q⟩) hz
theorem vals1(r:Vals [x] us):∃u,us=[u]/\RelV x u:=by
 cases r with
 | cons r1 r2=>cases r2;exact⟨_,rfl,r1⟩
theorem vals2(r:Vals [x,y] us):∃u w',us=[u,w']/\RelV x u/\RelV y w':=by
 cases r with
 | cons r1 r2 =>
  cases r2 with
  | cons r3 r4=>cases r4;exact⟨_,_,rfl,r1,r3⟩
theorem Ak(hc:X.calm=true):cC X (.builtin "max") (λxs H Q=>∃i j,xs=[.int i,.int j]/\Q (.int (if j>i then j else i)) H):=by
 intro pins s σ H xs us Q I r h;obtain⟨i,j,rfl,q⟩:=h;obtain⟨u,w',rfl,⟨t,rfl⟩,⟨t',rfl⟩⟩:=vals2 r;refine max_two_ints (I.ok.hd hc) λh' tk k=>⟨_,H,I.kept k,?_,q⟩
 by_cases hj:j>i
 ·rw[if_pos hj,if_pos hj];exact⟨_,rfl⟩
 ·rw[if_neg hj,if_neg hj];exact⟨_,rfl⟩
theorem Am(hc:X.calm=true):cC X (.builtin "min") (λxs H Q=>∃i j,xs=[.int i,.int j]/\Q (.int (if j<i then j else i)) H):=by
 intro pins s σ H xs us Q I r h;obtain⟨i,j,rfl,q⟩:=h;obtain⟨u,w',rfl,⟨t,rfl⟩,⟨t',rfl⟩⟩:=vals2 r;refine min_two_ints (I.ok.hd hc) λh' tk k=>⟨_,H,I.kept k,?_,q⟩
 by_cases hj:j<i
 ·rw[if_pos hj,if_pos hj];exact⟨_,rfl⟩
 ·rw[if_neg hj,if_neg hj];exact⟨_,rfl⟩
theorem rQ:cC X (.type "int") (λxs H Q=>(∃i,xs=[.int i]/\Q (.int i) H)\/∃k,xs=[.bl k]/\Q (.int (if k then 1 else 0)) H):=by
 intro pins s σ H xs us Q I r h
 rcases h with ⟨i,rfl,q⟩|⟨k,rfl,q⟩
 ·obtain⟨u,rfl,t,rfl⟩:=vals1 r;exact call_int_int ⟨.int i,H,I,⟨_,rfl⟩,q⟩
 ·obtain⟨u,rfl,r1⟩:=vals1 r;cases r1;exact call_int_bool ⟨.int (if k then 1 else 0),H,I.tok _,⟨_,rfl⟩,q⟩
theorem tK:cC X (.type "str") (λxs H Q=>∃i,xs=[.int i]/\i.natAbs.log2<1920/\Q (.str (toString i)) H):=by
 intro pins s σ H xs us Q I r h;obtain⟨i,rfl,hz,q⟩:=h;obtain⟨u,rfl,t,rfl⟩:=vals1 r;exact PySem.P.str_of_int hz ⟨.str _,H,I.tok _,⟨_,rfl⟩,q⟩
noncomputable def RZ(K:PySem.W.Frag)(x:V)(H:Hp)(n:Nat):Prop :=
 match x with
 | .str y=>y.length<=sizeLine/\n=y.length
 | .byt y=>y.size<=sizeLine/\n=y.size
 | .ref p=>(∃xs,gI K H p xs/\n=xs.length)\/∃xs,jv K H p xs/\n=xs.length
 | _=>False
theorem lU:cC X (.builtin "len") (λxs H Q=>∃x n,xs=[x]/\RZ X.K x H n/\Q (.int n) H):=by
 intro pins s σ H xs us Q I r h;obtain⟨x,n,rfl,e,q⟩:=h;obtain⟨u,rfl,rx⟩:=vals1 r;have hl:=nh;have hs:sizeLine=16777216:=sizeLine_eq;cases x with
 | str y =>obtain⟨t,rfl⟩:=rx;obtain⟨hy,e'⟩:y.length<=sizeLine/\n=y.length:=e;subst e';exact len_str (by omega) ⟨.int _,H,I.tok _,⟨_,rfl⟩,q⟩
 | byt y =>obtain⟨t,rfl⟩:=rx;obtain⟨hy,e'⟩:y.size<=sizeLine/\n=y.size:=e;subst e';exact PySem.W.len_bytes (by omega) ⟨.int _,H,I.tok _,⟨_,rfl⟩,q⟩
 | ref p =>
  cases rx;have e':(∃xs,gI X.K H p xs/\n=xs.length)\/∃xs,jv X.K H p xs/\n=xs.length:=e
  rcases e' with ⟨xs,hx,e'⟩|⟨xs,hx,e'⟩
  ·subst e';obtain⟨its,r',pl,hz⟩:=I.list hx;have hlen:=r'.length;exact Calls.call_len_list pl.isList (by simp only[size_toArray];omega) ⟨.int xs.length,H,I.tok _,⟨_,by simp only[size_toArray];rw[hlen]⟩,q⟩
  ·subst e';obtain⟨its,r',pl,hz⟩:=I.tuple hx;have hlen:=r'.length;exact len_tuple pl (by simp only[size_toArray];omega) ⟨.int xs.length,H,I.tok _,⟨_,by simp only[size_toArray];rw[hlen]⟩,q⟩
 | _=>exact(show False from e).elim
end
end L2
namespace L2
open PySem PySem.Spec PyProof.Rows
structure xO (h:Heap) (x dx C:Addr) (mA:Str->Option Value):Prop where
 obj:h.get? x=some (instObj C dx)
 ns:h.Ns1 dx mA
 ne:dx≠x
theorem An{h:Heap}{dx:Addr}{mA:Str->Option Value}(n:h.Ns1 dx mA):∃od,h.get? dx=some od/\∀name,lookIn name od=some (mA name):=by
 obtain⟨o,es,ep,ho,hd,hk,_,hm⟩:=n;refine⟨o,ho,λname=>?_⟩;have e:=hm name;unfold nsFind findBy at e;rw[<-Array.find?_toList] at e;unfold lookIn;rw[hd];dsimp only
 split
 ·rename_i y q;rw[q] at e;exact congrArg some e
 ·rename_i q
  rw[q] at e;have a:es.toList.any (·.refKey)=false:=by rw[List.any_eq_false];intro y hy;obtain⟨z,t,hkey⟩:=hk y (Array.mem_toList_iff.mp hy);simp[DictEntry.refKey,hkey]
  have a':¬ es.toList.any (·.refKey)=true:=by rw[a];exact Bool.false_ne_true
  rw[if_neg a'];exact congrArg some e
theorem xO.look(I:xO h x dx C mA):∃od,PySem.W.InstAt h x (instObj C dx) C (some od)/\∀name,lookIn name od=some (mA name) :=
 let ⟨od,ho,hl⟩:=An I.ns
 ⟨od,⟨I.obj,rfl,rfl,ho⟩,hl⟩
section
variable {prog:Program} {w:World} {A:Around} {E:Value->Shared->Prop} {s:Shared} {K:PySem.W.Frag} {x dx C f:Addr} {mA:Str->Option Value} {name:Str} {v:Value}
theorem get_map{expr:Bool}(X:K.In s.heap)(I:xO s.heap x dx C mA)(hg:plainGet K C name=true)(hh:hasDictIn K C=true)
  (ha:findIn K (.ref C) name=some none) (hv:mA name=some v) (hv':handedIn v=true) (h:Q v { s with toks:=s.toks+1 }) :
  wpAny (model prog w) A (getAttr (.ref x) name expr) Q E s:=by
 obtain⟨od,J,hl⟩:=I.look;exact PySem.W.get_value X J (plainGet_of hg).1 (PySem.W.findObj_own hh ha rfl (by rw[hl,hv])) hv' h
theorem BX(X:K.In s.heap)(I:xO s.heap x dx C mA)(hg:plainGet K C name=true)
  (hf:findIn K (.ref C) name=some (some (.ref f))) (ht:PySem.W.isFn K (.ref f)=true) (hv:mA name=none) (h:Q (.ref f,[.ref x]) s) :
  wpAny (model prog w) A (getMethod (.ref x) name pl) Q E s:=by
 obtain⟨od,J,hl⟩:=I.look;exact PySem.W.method_fn X J (plainGet_of hg).1 (plainGet_of hg).2 hf (beq_iff_eq.mp ht) (by show (lookIn name od).map (·.isSome)=some false;rw[hl,hv];rfl) h
theorem Fj(X:K.In s.heap)(I:xO s.heap x dx C mA)
  (hs:findIn K (.ref C) "__setattr__" = some (some (.builtin "object.__setattr__"))) (hp:plainOver K C=true) (ht:takerIn K C name=some none) (hh:hasDictIn K C=true)
  (hw:PySem.Within mA ns) (hsz:ns.length<=sizeLine)
  (h:∀h',xO h' x dx C (λy=>if y=name then some v else mA y)->Heap.SameBut dx s.heap h'->Q () { s with heap:=h',toks:=s.toks+2 }) :
  wpAny (model prog w) A (setAttr (.ref x) name v) Q E s:=by
 obtain⟨od,J,hl⟩:=I.look;refine PySem.W.set_plain X J hs (PySem.W.osa_open (s:={ s with toks:=s.toks+1 }) (r:=none) X J hp ht λb=>?_);obtain⟨cd,hc,hd'⟩:=PySem.W.any_some hh;have hx:s.heap.get? x=some ⟨.ref C,some dx,.plain,#[]⟩:=I.obj;refine wpAny_bind (wpAny_pure (wpAny_bind (wpAny_bind (wpAny_loadPart hx (wpAny_bind (PySem.W.Looks.here (s:={ s with toks:=s.toks+1 }) (PySem.W.looks_clsIn X hc) ?_))))));rw[hd'];refine wpAny_pure (a:=some dx) (wpAny_bind (wpAny_pure (wpAny_bind ?_)));refine wpAny_nsSet1 (s:={ s with toks:=s.toks+1 }) I.ns λh' hn2 hs2=>?_;obtain⟨oD,esD,epD,XU,XW,XX⟩:=hn2.count (PySem.Within.cons name v hw);refine wpAny_bind (wpAny_lookBehind XU (by rw[XW];exact pastItsLine_dict (le_trans XX (by rw[length_cons];omega))) ?_);exact wpAny_pure (h _ ⟨(hs2.2 _ (Ne.symm I.ne)).trans I.obj,hn2,I.ne⟩ hs2)
theorem BY(X:K.In s.heap)(hm:makesIn K C=true)
  (hi:findIn K (.ref C) "__init__" = some (some (.ref f))) (hf:typeIn K (.ref f)=some (.type "function"))
  (h:codeAny (model prog w) (A.under (.builtin "type.__call__" ⟨.ref C::vs,kw⟩)) (.call (.ref f) ⟨.ref (s.heap.objs.size+1)::vs,kw⟩) (PySem.W.InitBack (s.heap.objs.size+1) R)
   { s with heap:=(s.heap.push emptyDict).push (instObj C s.heap.objs.size) }) :
  codeAny (model prog w) A (.call (.ref C) ⟨vs,kw⟩) R s:=by
 obtain⟨hh,g,d,t,os⟩:=s;exact PySem.W.make_core (PySem.W.makes_of X hm) (PySem.W.looks_findIn X hi) (λself=>PySem.W.bind_fn X self hf) (.inl rfl) h
end
noncomputable def jx(f:Str)(v:V):List (Str×V)->List (Str×V)
 | []=>[(f,v)]
 | (g,x)::r=>if g=f then (g,v)::r else (g,x)::jx f v r
theorem n6(f g:Str)(v:V):∀fs:List (Str×V),(jx f v fs).lookup g=if g=f then some v else fs.lookup g
 | []=>by
  show List.lookup g [(f,v)]=_
  by_cases h:g=f
  ·have hb:(g==f)=true:=beq_iff_eq.mpr h;simp only[List.lookup,hb,if_pos h]
  ·have hb:(g==f)=false:=beq_eq_false_iff_ne.mpr h;simp only[List.lookup,hb,if_neg h]
 | (k,x)::r=>by
  have ih:=n6 f g v r;rw[show jx f v ((k,x)::r)=(if k=f then (k,v)::r else (k,x)::jx f v r) from rfl]
  by_cases hk:k=f
  ·rw[if_pos hk]
   by_cases h:g=k
   ·have hb:(g==k)=true:=beq_iff_eq.mpr h;simp only[List.lookup,hb,if_pos (h.trans hk)]
   ·have hb:(g==k)=false:=beq_eq_false_iff_ne.mpr h;simp only[List.lookup,hb,if_neg (λe:g=f=>h (e.trans hk.symm))]
  ·rw[if_neg hk]
   by_cases h:g=k
   ·have hb:(g==k)=true:=beq_iff_eq.mpr h;simp only[List.lookup,hb,if_neg (λe:g=f=>hk (h.symm.trans e))]
   ·have hb:(g==k)=false:=beq_eq_false_iff_ne.mpr h;simp only[List.lookup,hb];exact ih
theorem ni(f:Str)(v:V):∀fs:List (Str×V),f∈(jx f v fs).map (·.1)/\∀g,g∈fs.map (·.1)->g∈(jx f v fs).map (·.1)
 | []=>⟨by simp[jx],λg h=>by simp at h⟩
 | (k,x)::r=>by
  obtain⟨i1,i2⟩:=ni f v r;rw[show jx f v ((k,x)::r)=(if k=f then (k,v)::r else (k,x)::jx f v r) from rfl]
  by_cases hk:k=f
  ·rw[if_pos hk];subst hk;exact⟨by simp,λg h=>by simpa using h⟩
  ·rw[if_neg hk]
   refine⟨?_,λg h=>?_⟩
   ·rw[map_cons];exact mem_cons_of_mem _ i1
   ·rw[map_cons] at h |-
    rcases mem_cons.mp h with e|e
    ·exact mem_cons.mpr (.inl e)
    ·exact mem_cons_of_mem _ (i2 g e)
theorem n8(f:Str)(v:V):∀fs:List (Str×V),(jx f v fs).length<=fs.length+1
 | []=>by simp[jx]
 | (k,x)::r=>by
  have ih:=n8 f v r;rw[show jx f v ((k,x)::r)=(if k=f then (k,v)::r else (k,x)::jx f v r) from rfl]
  by_cases hk:k=f
  ·rw[if_pos hk,length_cons,length_cons];omega
  ·rw[if_neg hk,length_cons,length_cons];omega
theorem jO.some_of(r:jO (some v) o):∃u,o=some u/\RelV v u:=by
 cases o with
 | none=>exact(show False from r).elim
 | some u=>exact⟨u,rfl,r⟩
theorem jO.none_of(r:jO none o):o=none:=by
 cases o with
 | none=>rfl
 | some u=>exact(show False from r).elim
theorem Ao(r:RelV v u):handedIn u=true:=by
 cases v with
 | non=>cases (show u=Value.none from r);rfl
 | bl b=>cases (show u=Value.bool b from r);rfl
 | int i=>obtain⟨t,e⟩:=(show ∃t,u=Value.int i t from r);cases e;rfl
 | str x=>obtain⟨t,e⟩:=(show ∃t,u=Value.str x t from r);cases e;rfl
 | byt b=>obtain⟨t,e⟩:=(show ∃t,u=Value.bytes b t from r);cases e;rfl
 | flt b=>obtain⟨t,e⟩:=(show ∃t,u=Value.float b t from r);cases e;rfl
 | ref a=>cases (show u=Value.ref a from r);rfl
 | ty n=>cases (show u=Value.type n from r);rfl
section
variable {P:Program} {w:World} {H H':Hp} {h h':Heap} {a C dx:Addr} {fs fs':List (Str×V)}
theorem tL(hok:lC P w H h)(e:H a=some (.ins C dx fs)):∃mA,xO h a dx C mA/\(∀f,jO (fs.lookup f) (mA f))/\PySem.Within mA (fs.map (·.1))/\fs.length<=1000/\H dx=some (.own a):=by
 obtain⟨d,z,ne,ob,mA,n,r,q⟩:=(show bY P w H h a (.ins C dx fs) from hok a _ e);exact⟨mA,⟨ob,n,ne⟩,r,q,z,d⟩
end
structure BA (K:PySem.W.Frag) (C:Addr):Prop where
 pg:plainGet K C Str.empty=true
 hd:hasDictIn K C=true
 po:plainOver K C=true
 sa:findIn K (.ref C) "__setattr__" = some (some (.builtin "object.__setattr__"))
theorem BA.get{K:PySem.W.Frag}{C:Addr}(c:BA K C)(f:Str):plainGet K C f=true:=c.pg
noncomputable def jS(K:PySem.W.Frag)(C:Addr)(f:Str):Prop:=findIn K (.ref C) f=some none
theorem jS.NU{K:PySem.W.Frag}{C:Addr}{f:Str}(n:jS K C f):takerIn K C f=some none:=by
 unfold takerIn;rw[show findIn K (.ref C) f=some none from n];rfl
structure Meth (K:PySem.W.Frag) (C:Addr) (m:Str) (f:Addr):Prop where
 at_:findIn K (.ref C) m=some (some (.ref f))
 fn:PySem.W.isFn K (.ref f)=true
 kp:keepIn K (.ref f)=true
section
variable {X:Cx} {pins:List (Addr×Obj)} {σ:St} {H:Hp} {s:Shared} {a C dx:Addr} {fs:List (Str×V)} {f:Str} {v:V} {A:Around} {E:Value->Shared->Prop}
theorem xP{b:Bool}(I:Inv X pins σ H s)(e:H a=some (.ins C dx fs))(c:BA X.K C)(n:jS X.K C f)(l:fs.lookup f=some v)
  (h:∀u s',Inv X pins σ H s'->RelV v u->Q u s'):wpAny (model X.prog X.w) A (getAttr (.ref a) f b) Q E s:=by
 obtain⟨mA,O,r,_,_,_⟩:=tL I.hok e;obtain⟨u,hu,ru⟩:=jO.some_of (v:=v) (o:=mA f) (by rw[<-l];exact r f);exact get_map I.m8 O (c.get f) c.hd n hu (Ao ru) (h u _ (I.tok _) ru)
theorem pL(I:Inv X pins σ H s)(e:H a=some (.ins C dx fs))(c:BA X.K C)(k:Meth X.K C m g)(l:fs.lookup m=none)
  (h:Q (.ref g,[.ref a]) s):wpAny (model X.prog X.w) A (getMethod (.ref a) m pl) Q E s:=by
 obtain⟨mA,O,r,_,_,_⟩:=tL I.hok e;have hn:mA m=none:=jO.none_of (by rw[<-l];exact r m);exact BX I.m8 O (c.get m) k.at_ k.fn hn h
theorem xQ(I:Inv X pins σ H s)(e:H a=some (.ins C dx fs))(c:BA X.K C)(n:jS X.K C f)(hl:fs.length<1000)(ry:RelV y u)
  (h:∀s',Inv X pins σ (upd H a (.ins C dx (jx f y fs))) s'->Q () s'):wpAny (model X.prog X.w) A (setAttr (.ref a) f u) Q E s:=by
 obtain⟨mA,O,r,wi,_,ho⟩:=tL I.hok e;have hz:(fs.map (·.1)).length<=sizeLine:=by rw[length_map,sizeLine_eq];omega
 refine Fj I.m8 O c.sa c.po n.NU c.hd wi hz λh' O' sb=>h _ ?_;have hd:∃o,h'.get? dx=some o:=let ⟨o,_,_,e',_⟩:=O'.ns;⟨o,e'⟩
 refine I.write (x:=a) (e:=dx) (by rw[e];exact True.intro) (.inr ho) (λb q hb z=>(sb.2 b hb).trans z) hd ?_;refine⟨by rw[aA O.ne];exact ho,?_,O.ne,O'.obj,_,O'.ns,λg=>?_,λg hg=>?_⟩
 ·have:=n8 f y fs;omega
 ·show jO ((jx f y fs).lookup g) (if g=f then some u else mA g)
  rw[n6]
  by_cases q:g=f
  ·rw[if_pos q,if_pos q];exact ry
  ·rw[if_neg q,if_neg q];exact r g
 ·by_cases q:g=f
  ·rw[q];exact(ni f y fs).1
  ·refine(ni f y fs).2 g (wi g λz=>hg ?_);show (if g=f then some u else mA g)=none;rw[if_neg q];exact z
theorem Inv.made(I:Inv X pins σ H s):Inv X pins σ (upd (upd H s.heap.objs.size (.own (s.heap.objs.size+1))) (s.heap.objs.size+1) (.ins C s.heap.objs.size []))
  { s with heap:=(s.heap.push emptyDict).push (instObj C s.heap.objs.size) }:=by
 have e1:(s.heap.push emptyDict).get? s.heap.objs.size=some emptyDict:=get?_push_size s.heap rfl;have e2:((s.heap.push emptyDict).push (instObj C s.heap.objs.size)).get? (s.heap.objs.size+1)=some (instObj C s.heap.objs.size):=by have:=get?_push_size (s.heap.push emptyDict) (o:=instObj C s.heap.objs.size) rfl;rwa [size_push] at this
 have e3:(s.heap.push emptyDict).Ns s.heap.objs.size (λ_=>none):=⟨emptyDict,#[],_,e1,rfl,(λe he=>absurd he (by simp)),λ_=>rfl⟩;have I1:=I.laid (a:=s.heap.objs.size) (o:=.own (s.heap.objs.size+1)) (h':=s.heap.push emptyDict) (t':=s.toks) (λb u q=>get?_push_of_some _ q) (Nat.le_refl _) ⟨_,e1⟩;refine I1.laid (a:=s.heap.objs.size+1) (o:=.ins C s.heap.objs.size []) (t':=s.toks) (λb u q=>get?_push_of_some _ q) (Nat.le_of_eq (size_push _ _)) ?_;have ne:s.heap.objs.size≠s.heap.objs.size+1:=ne_of_lt (lt_succ_self _);refine⟨by rw[aA ne,aU],zero_le _,ne,e2,λ_=>none,(Heap.Ns1.of_empty e3).at λo q=>get?_push_of_some _ q,λ_=>True.intro,λy hy=>absurd rfl hy⟩
theorem attr_of(hb:attributeBase e f env (eval e env)=eval e env)
  (h:wpAny (model prog w) A (eval e env) (λo s₁=>wpAny (model prog w) A (getAttr o f true) Q E s₁) E s):wpAny (model prog w) A (eval (.Attribute e f pos) env) Q E s :=
 Attribute_any_ h (by rw[arm_eval_Attribute,hb])
end
noncomputable def tFld(K:PySem.W.Frag)(ta:TE)(f:Str):TE:=λσ H Q=>ta σ H λx H1=>∃a C dx fs v,x=.ref a/\H1 a=some (.ins C dx fs)/\BA K C/\jS K C f/\fs.lookup f=some v/\Q v H1
noncomputable def R0(K:PySem.W.Frag)(ta tv:TE)(f:Str):TS:=λD σ H=>tv σ H λy H1=>ta σ H1 λx H2=>∃a C dx fs,x=.ref a/\H2 a=some (.ins C dx fs)/\BA K C/\jS K C f/\fs.length<1000 /\
 D.nx σ (upd H2 a (.ins C dx (jx f y fs)))
section
variable {X:Cx} {o e value:Expr} {f:Str} {pos pos' tpos:Pos} {ta tv:TE}
theorem pe_fld(he:PE X e ta)(hb:attributeBase e f X.env (eval e X.env)=eval e X.env):PE X (.Attribute e f pos) (tFld X.K ta f):=by
 intro pins s σ H Q I h;refine attr_of hb (cz (he pins s σ H _ I h) λu s1 aJ=>?_);obtain⟨x,H1,I1,rx,a,C,dx,fs,v,ex,ea,c,n,l,q⟩:=aJ;subst ex;obtain rfl:u=Value.ref a:=rx;exact xP I1 ea c n l λu' s2 I2 ru=>⟨v,H1,I2,ru,q⟩
theorem Kg(ha:PE X o ta)(hv:PE X value tv)(hs:swapsWith value (some (.Attribute o f pos')) pos.line X.env=pure false):PS X (.Assign [.Attribute o f pos'] value pos) (R0 X.K ta tv f):=by
 intro pins s σ H D I h;refine plainObj_wpAny_Assign_Attribute (cz (hv pins s σ H _ I h) λu s1 ⟨y,H1,I1,ry,q⟩=>cz (ha pins s1 σ H1 _ I1 q) λov s2 ⟨x,H2,I2,rx,a,C,dx,fs,ex,ea,c,n,l,q2⟩=>?_) hs;subst ex;obtain rfl:ov=Value.ref a:=rx;exact xQ I2 ea c n l ry λs3 I3=>⟨σ,_,I3,q2⟩
end
section
variable {X:Cx} {pins:List (Addr×Obj)} {σ:St} {H:Hp} {s:Shared} {A:Around} {E:Value->Shared->Prop} {Q:Value->Shared->Prop} {c:Value} {b:Bool}
end
end L2
namespace L2
open PySem PySem.Spec PyProof.Rows
structure dP (k:Nat) (A:Around):Prop where
 hd:A.handled=none
 dp:A.depth+3*k+5<recursionLimit
 un:A.units+16*k+200<cLine
theorem dP.mono{j k:Nat}(r:dP k A)(h:j<=k):dP j A:=⟨r.hd,by have:=r.dp;omega,by have:=r.un;omega⟩
theorem dP.deeper{k:Nat}(r:dP (k+1) A)(env:Env):dP k (A.deeper env) :=
 ⟨r.hd,by have:=r.dp;show A.depth+1+3*k+5<_;omega,by have:=r.un;show A.units+3+16*k+200<_;omega⟩
theorem xR{A:Around}{C:Addr}{us:List Value}{kw:List (Str×Value)}:(A.under (.builtin "type.__call__" ⟨.ref C::us,kw⟩)).depth=A.depth+1:=by
 first|rfl|simp[Around.under,Code.weight,Code.isCreation,Code.isGuard,Code.isCaller,Code.frames,Code.isFrame,guardIds]
theorem xS{A:Around}{C:Addr}{us:List Value}{kw:List (Str×Value)}:(A.under (.builtin "type.__call__" ⟨.ref C::us,kw⟩)).units=A.units+1:=by
 first|rfl|simp[Around.under,Code.cUnits,Code.frames,Code.isFrame]
theorem dP.make{k:Nat}(r:dP (k+1) A)(C:Addr)(us:List Value)(kw:List (Str×Value)):dP k (A.under (.builtin "type.__call__" ⟨.ref C::us,kw⟩)) :=
 ⟨r.hd,by have:=r.dp;rw[xR];omega,by have:=r.un;rw[xS];omega⟩
theorem dP.depth{k:Nat}(r:dP k A):A.depth<recursionLimit:=by have:=r.dp;omega
theorem dP.units{k:Nat}(r:dP k A):A.units+64<cLine:=by have:=r.un;omega
noncomputable def Kh:TA:=λ_ H Q=>Q [] H
noncomputable def NV(ta:TE)(tr:TA):TA:=λσ H Q=>ta σ H λx H1=>tr σ H1 λxs H2=>Q (x::xs) H2
section
variable {X:Cx} {e:Expr} {es:List Expr} {te:TE} {t:TA} {pos:Pos}
theorem BZ:PA X [] Kh:=λ_ _ _ _ H Q I h=>Calls.spliced_nil ⟨[],H,I,.nil,h⟩
theorem tM(ha:PE X e te)(hr:PA X es t)(hs:starEach (e::es) X.env=(false,eval e X.env)::starEach es X.env:=by rfl):PA X (e::es) (NV te t):=by
 intro pos pins s σ H Q I h;rw[hs];show wpAny _ _ (spliced ((false,eval e X.env)::backTo pos (starEach es X.env))) _ _ s;refine Calls.spliced_cons (cz (ha pins s σ H _ I h) λu s1 aJ=>?_);obtain⟨x,H1,I1,r1,q1⟩:=aJ;exact cz (hr pos pins s1 σ H1 _ I1 q1) λus s2 ⟨xs,H2,I2,r2,q2⟩=>⟨x::xs,H2,I2,.cons r1 r2,q2⟩
noncomputable def R3(t:TA):TE:=λσ H Q=>t σ H λxs H1=>xs.length<=sizeLine/\∀p,H1 p=none->Q (.ref p) (upd H1 p (.tup xs))
noncomputable def R4(t:TA):TE:=λσ H Q=>t σ H λxs H1=>xs.length<=sizeLine/\∀p,H1 p=none->Q (.ref p) (upd H1 p (.lst xs))
theorem Kl{x1}(h:PA X es t):PE X (.Tuple es x1 pos) (R3 t):=by
 intro pins s σ H Q I hq;refine wpAny_Tuple_spliced (cz (h pos pins s σ H _ I hq) λus s1 ⟨xs,H1,I1,r,z,q⟩=>⟨by rw[<-r.length];exact z,?_⟩);have hf:H1 s1.heap.objs.size=none:=I1.hok.fresh (Nat.le_refl _);refine⟨.ref s1.heap.objs.size,upd H1 s1.heap.objs.size (.tup xs),I1.laid (t':=s1.toks) (λb u e=>get?_push_of_some _ e) (Nat.le_refl _) ?_,rfl,q _ hf⟩;exact⟨z,us,r,⟨_,get?_push_size _ rfl,rfl,_,rfl⟩⟩
theorem Km(h:PA X es t):PE X (.List es pos) (R4 t):=by
 intro pins s σ H Q I hq;refine wpAny_List_spliced (cz (h pos pins s σ H _ I hq) λus s1 ⟨xs,H1,I1,r,z,q⟩=>⟨by rw[<-r.length];exact z,?_⟩);have hf:H1 s1.heap.objs.size=none:=I1.hok.fresh (Nat.le_refl _);refine⟨.ref s1.heap.objs.size,upd H1 s1.heap.objs.size (.lst xs),I1.laid (t':=s1.toks) (λb u e=>get?_push_of_some _ e) (Nat.le_refl _) ?_,rfl,q _ hf⟩;exact⟨z,us,0,r,get?_push_size _ rfl⟩
end
noncomputable abbrev Sp:=List V->Hp->VK->XK->Prop
noncomputable abbrev Aq:=List Env->Hp->Shared->XK->Value->Shared->Prop
structure xT (P:Program) (w:World) (K:PySem.W.Frag) (mg:Str->Option Value) (base:Heap) (A:Around) (outer:List Env) (s:Shared) (H:Hp):Prop where
 frames:A.frames=some outer
 mod:Mod K mg base
 bs:∀b o,base.get? b=some o->s.heap.get? b=some o/\H b=none
 Iu:base.objs.size<=s.heap.objs.size
 oR:s.heap.FunFrames base outer
 JM:∀b∈frs outer,H b=none
 hok:lC P w H s.heap
 bare:AllBare s.gens
noncomputable def CE(outer:List Env)(P:Program)(w:World)(H:Hp)(s:Shared)(Q:VK)(u:Value)(s':Shared):Prop :=
 ∃v H',s'.os=s.os/\AllBare s'.gens/\Un (frs outer) [] H H' s.heap s'.heap/\lC P w H' s'.heap/\RelV v u/\Q v H'
noncomputable def CR(CX:Aq)(outer:List Env)(P:Program)(w:World)(H:Hp)(s:Shared)(Q:VK)(E:XK)(r:Result)(s':Shared):Prop :=
 match r with
 | .ok (.ret u)=>CE outer P w H s Q u s'
 | .ok _=>False
 | .error e=>CX outer H s E e s'
structure fJ (P:Program) (w:World) (K:PySem.W.Frag) (mg:Str->Option Value) (base:Heap) (CX:Aq) (k:Nat) (f:Addr) (fd:FuncData) (ps:List Str) (sp:Sp):Prop where
 len:∀vs H Q E,sp vs H Q E->vs.length=ps.length
 run:∀(A:Around) (outer:List Env) (s:Shared) (H:Hp) (args:Args) (us:List Value) (vs:List V) (Q:VK) (E:XK),dP k A->xT P w K mg base A outer s H->BindsTo s fd args (ps.zip us)->Vals vs us->sp vs H Q E ->
  codeAny (model P w) A (.call (.ref f) args) (CR CX outer P w H s Q E) s
theorem fJ.mono{P:Program}{w:World}{K:PySem.W.Frag}{mg:Str->Option Value}{base:Heap}{CX:Aq}{j k:Nat}{f:Addr}{fd:FuncData}{ps:List Str}{sp:Sp}(F:fJ P w K mg base CX j f fd ps sp)(h:j<=k) :
  fJ P w K mg base CX k f fd ps sp:=⟨F.len,λA outer s H args us vs Q E hr=>F.run A outer s H args us vs Q E (hr.mono h)⟩
theorem fJ.imp{P:Program}{w:World}{K:PySem.W.Frag}{mg:Str->Option Value}{base:Heap}{CX:Aq}{k:Nat}{f:Addr}{fd:FuncData}{ps:List Str}{sp Wf:Sp}(F:fJ P w K mg base CX k f fd ps sp)
  (h:∀vs H Q E,Wf vs H Q E->sp vs H Q E):fJ P w K mg base CX k f fd ps Wf :=
 ⟨λvs H Q E q=>F.len vs H Q E (h _ _ _ _ q),λA outer s H args us vs Q E hr he hb hv hs=>F.run A outer s H args us vs Q E hr he hb hv (h _ _ _ _ hs)⟩
theorem xT.make{P:Program}{w:World}{K:PySem.W.Frag}{mg:Str->Option Value}{base:Heap}{A:Around}{outer:List Env}{s:Shared}{H:Hp}(e:xT P w K mg base A outer s H)(C:Addr)(us:List Value)(kw:List (Str×Value)) :
  xT P w K mg base (A.under (.builtin "type.__call__" ⟨.ref C::us,kw⟩)) outer s H:=⟨by first|exact e.frames|(simpa [Around.under,Code.envs,Code.isFrame,pushEnvs] using e.frames),e.mod,e.bs,e.Iu,e.oR,e.JM,e.hok,e.bare⟩
section
variable {X:Cx} {pins:List (Addr×Obj)} {σ:St} {H:Hp} {s s':Shared}
theorem Inv.oU(I:Inv X pins σ H s):xT X.prog X.w X.K X.mg X.base X.A X.stack s H :=
 ⟨I.ok.frames,I.ok.mod,I.bs,le_trans I.ok.Iu I.sz,I.stack,I.yN,I.hok,I.bare⟩
theorem Inv.after(I:Inv X pins σ H s)(h:CE X.stack X.prog X.w H s Q u s'):EP X pins σ Q u s':=by
 obtain⟨v,H',os,bare,un,hok,r,q⟩:=h;obtain⟨hh,g,d,t,os'⟩:=s';obtain rfl:os'=s.os:=os;exact⟨v,H',I.call (h':=hh) (g':=g) (d':=d) (t':=t) (ch:=[]) un hok bare (λb z=>absurd z (by simp)),r,q⟩
end
noncomputable def ID(sp:Sp)(qY:List V)(E:XK)(t:TA):TE:=λσ H Q=>t σ H λvs H1=>sp (vs++qY) H1 Q E
noncomputable def IF(C:Addr)(sp:Sp)(qY:List V)(E:XK)(t:TA):TE:=λσ H Q=>t σ H λvs H1=>∀x dx,H1 x=none->H1 dx=none->dx≠x ->
 sp (.ref x::(vs++qY)) (upd (upd H1 dx (.own x)) x (.ins C dx [])) (λv H2=>v=.non/\Q (.ref x) H2) E
noncomputable def Binds(K:PySem.W.Frag)(fd:FuncData)(ps:List Str)(ds:List Value):Prop :=
 ∀(s:Shared) (us:List Value),K.In s.heap->(us++ds).length=ps.length->BindsTo s fd ⟨us,[]⟩ (ps.zip (us++ds))
theorem Binds.all{K:PySem.W.Frag}{fd:FuncData}{ps:List Str}(h:∀us:List Value,us.length=ps.length->bindArgs fd ⟨us,[]⟩=pure (ps.zip us)):Binds K fd ps []:=λs us _ hl=>by
 rw[append_nil] at hl |-;exact .of_eq (h us hl)
noncomputable def Passes(CX:Aq)(X:Cx)(E:XK):Prop:=∀(pins:List (Addr×Obj)) (σ:St) (H:Hp) (s:Shared) (e:Value) (s':Shared),Inv X pins σ H s->CX X.stack H s E e s'->X.xe e s'
section
variable {X:Cx} {CX:Aq} {k:Nat} {f C:Addr} {fd:FuncData} {ps:List Str} {sp:Sp} {qY:List V} {ds:List Value} {E:XK} {x m:Str} {p pos apos:Pos} {e o:Expr} {es:List Expr} {ta:TE} {t:TA}
theorem pM(F:fJ X.prog X.w X.K X.mg X.base CX k f fd ps sp)(hr:dP k X.A)(hb:Binds X.K fd ps ds)(hd:Vals qY ds)(hx:Passes CX X E)
  (I:Inv X pins σ H s) (r:Vals vs us) (h:sp (vs++qY) H Q E):wpAny (model X.prog X.w) X.A (call (.ref f) us) (EP X pins σ Q) X.xe s:=by
 have r2:Vals (vs++qY) (us++ds):=r.append hd;have hl:(us++ds).length=ps.length:=by rw[<-r2.length];exact F.len _ _ _ _ h
 refine wpAny_call (codeAny_mono (F.run X.A X.stack s H ⟨us,[]⟩ (us++ds) (vs++qY) Q E hr I.oU (hb s us I.m8 hl) r2 h) λr s' hq=>?_);cases r with
 | error e=>exact hx pins σ H s e s' I hq
 | ok fl =>
  cases fl with
  | ret u=>exact I.after hq
  | next=>exact False.elim hq
  | brk=>exact False.elim hq
  | cont=>exact False.elim hq
theorem Fo(F:fJ X.prog X.w X.K X.mg X.base CX k f fd ps sp)(hr:dP k X.A)(hg:Gl X x)(hm:X.mg x=some (.ref f))(hk:keepIn X.K (.ref f)=true)(hb:Binds X.K fd ps ds)(hd:Vals qY ds)(hx:Passes CX X E)
  (ha:PA X (e::es) t) (hdb:(x==("__debug__":Str))=false:=by decide) (he:starEach (e::es) X.env=(false,eval e X.env)::starEach es X.env:=by rfl) (hpl:(backTo pos (starEach es X.env)).any (·.1)=false:=by rfl) :
  PE X (.Call (.Name x p) (e::es) [] pos) (ID sp qY E t):=by
 intro pins s σ H Q I h;refine wpAny_Call_Name_kw (kB I hg hm ?_ hdb);refine callWith_K (h₀:=X.base) I.ok.mod.MX hk (cz (ha pos pins s σ H _ I h) λus s1 ⟨vs,H1,I1,r,q⟩=>⟨I1.m8,?_⟩) he hpl;exact pM F hr hb hd hx I1 r q
theorem B0(F:fJ X.prog X.w X.K X.mg X.base CX k f fd ps sp)(hr:dP k X.A)(hg:Gl X x)(hm:X.mg x=some (.ref f))(hk:keepIn X.K (.ref f)=true)(hb:Binds X.K fd ps ds)(hd:Vals qY ds)(hx:Passes CX X E)
  (hdb:(x==("__debug__":Str))=false:=by decide):PE X (.Call (.Name x p) [] [] pos) (ID sp qY E Kh):=by
 intro pins s σ H Q I h;refine wpAny_Call_Name_kw (kB I hg hm ?_ hdb);exact callWith_K0 I.m8 hk (pM (us:=[]) F hr hb hd hx I .nil h)
structure Mk (K:PySem.W.Frag) (C f:Addr):Prop where
 makes:makesIn K C=true
 init:findIn K (.ref C) "__init__" = some (some (.ref f))
 fn:PySem.W.isFn K (.ref f)=true
 kp:keepIn K (.ref C)=true
theorem u7(M:Mk X.K C f)(F:fJ X.prog X.w X.K X.mg X.base CX k f fd ps sp)(hr:dP (k+1) X.A)(hb:Binds X.K fd ps ds)(hd:Vals qY ds)
  (hx:Passes CX X E) (I:Inv X pins σ H s) (r:Vals vs us)
  (h:∀x dx,H x=none->H dx=none->dx≠x->sp (.ref x::(vs++qY)) (upd (upd H dx (.own x)) x (.ins C dx [])) (λv H2=>v=.non/\Q (.ref x) H2) E) :
  wpAny (model X.prog X.w) X.A (call (.ref C) us) (EP X pins σ Q) X.xe s:=by
 have hq:=h (s.heap.objs.size+1) s.heap.objs.size (I.hok.fresh (le_succ _)) (I.hok.fresh (Nat.le_refl _)) (ne_of_lt (lt_succ_self _));have I2:=Inv.made (C:=C) I;have r2:Vals (V.ref (s.heap.objs.size+1)::(vs++qY)) (Value.ref (s.heap.objs.size+1)::(us++ds)):=.cons rfl (r.append hd);have hl:(Value.ref (s.heap.objs.size+1)::us++ds).length=ps.length:=by have e:=r2.length;rw[F.len _ _ _ _ hq] at e;exact e.symm
 refine wpAny_call (BY (f:=f) I.m8 M.makes M.init (beq_iff_eq.mp M.fn) (codeAny_mono (F.run _ X.stack _ _ ⟨Value.ref (s.heap.objs.size+1)::us,[]⟩ (Value.ref (s.heap.objs.size+1)::(us++ds)) _ _ E (hr.make C us [])
  (I2.oU.make C us []) (hb _ (Value.ref (s.heap.objs.size+1)::us) I2.m8 hl) r2 hq) λr s' hq'=>?_))
 cases r with
 | error e=>exact hx pins σ _ _ e s' I2 hq'
 | ok fl =>
  cases fl with
  | ret u =>obtain⟨v,H',I3,rv,ev,q3⟩:=I2.after hq';subst ev;exact⟨rv,⟨V.ref (s.heap.objs.size+1),H',I3,rfl,q3⟩⟩
  | next=>exact False.elim hq'
  | brk=>exact False.elim hq'
  | cont=>exact False.elim hq'
theorem Fp(M:Mk X.K C f)(F:fJ X.prog X.w X.K X.mg X.base CX k f fd ps sp)(hr:dP (k+1) X.A)(hg:Gl X x)(hm:X.mg x=some (.ref C))(hb:Binds X.K fd ps ds)(hd:Vals qY ds)(hx:Passes CX X E)
  (ha:PA X (e::es) t) (hdb:(x==("__debug__":Str))=false:=by decide) (he:starEach (e::es) X.env=(false,eval e X.env)::starEach es X.env:=by rfl) (hpl:(backTo pos (starEach es X.env)).any (·.1)=false:=by rfl) :
  PE X (.Call (.Name x p) (e::es) [] pos) (IF C sp qY E t):=by
 intro pins s σ H Q I h;refine wpAny_Call_Name_kw (kB I hg hm ?_ hdb);refine callWith_K (h₀:=X.base) I.ok.mod.MX M.kp (cz (ha pos pins s σ H _ I h) λus s1 ⟨vs,H1,I1,r,q⟩=>⟨I1.m8,?_⟩) he hpl;exact u7 M F hr hb hd hx I1 r q
theorem B3(M:Mk X.K C f)(F:fJ X.prog X.w X.K X.mg X.base CX k f fd ps sp)(hr:dP (k+1) X.A)(hg:Gl X x)(hm:X.mg x=some (.ref C))(hb:Binds X.K fd ps ds)(hd:Vals qY ds)(hx:Passes CX X E)
  (hdb:(x==("__debug__":Str))=false:=by decide):PE X (.Call (.Name x p) [] [] pos) (IF C sp qY E Kh):=by
 intro pins s σ H Q I h;refine wpAny_Call_Name_kw (kB I hg hm ?_ hdb);exact callWith_K0 I.m8 M.kp (u7 (us:=[]) M F hr hb hd hx I .nil h)
end
section
variable {X:Cx} {CX:Aq} {k:Nat} {f C:Addr} {fd:FuncData} {ps ks:List Str} {sp:Sp} {E:XK} {x m:Str} {p pos apos kpos:Pos} {e o:Expr} {es:List Expr} {kws:List Keyword} {te ta:TE} {t tk:TA} {nm:Option Str}
variable {g:List Value->List Value->List Value} {gV:List V->List V->List V}
end
structure o7 (N P:List Str) (sc:Scope):Prop where
 kind:sc.kind=.function
 co:sc.isCoroutine=false
 gen:sc.isGenerator=false
 nd:N.Nodup
 pre:N.take P.length=P
 par:∀x∈P,sc.names.lookup x=some .local\/sc.names.lookup x=some .cell
 Kn:∀y∈sc.names,y.2≠.free
theorem rR{kindOf:Str->Option NameKind}{x:Str}:∀{binds:List (Str×Value)} {m:Str->Option Value},(∀v,(x,v)∉binds)->bindL kindOf binds m x=m x
 | [],_,_=>rfl
 | (n,v)::r,m,h=>by
  unfold bindL;rw[rR λw hw=>h w (mem_cons_of_mem _ hw)]
  split
  ·have:x≠n:=by rintro rfl;exact h v mem_cons_self
   simp[this]
  ·rfl
theorem rS{kindOf:Str->Option NameKind}{x:Str}:∀{binds:List (Str×Value)} {m:Str->Option Value},(∀v,(x,v)∉binds)->bindC kindOf binds m x=m x
 | [],_,_=>rfl
 | (n,v)::r,m,h=>by
  unfold bindC;rw[rS λw hw=>h w (mem_cons_of_mem _ hw)]
  split
  ·rfl
  ·have:x≠n:=by rintro rfl;exact h v mem_cons_self
   simp[this]
theorem rT{kindOf:Str->Option NameKind}{x:Str}{v:Value}:∀{P:List Str} {vs:List Value} {i:Nat} {m:Str->Option Value},P.Nodup->P[i]?=some x->vs[i]?=some v->kindOf x=some .local ->
  bindL kindOf (P.zip vs) m x=some v
 | [],_,_,_,_,h,_,_=>by simp at h
 | _::_,[],_,_,_,_,h,_=>by simp at h
 | p::P,w::vs,0,m,nd,h1,h2,hk=>by
  simp at h1 h2;subst h1;subst h2;show bindL kindOf ((p,w)::P.zip vs) m p=_;unfold bindL;rw[rR λv hv=>(nodup_cons.mp nd).1 (of_mem_zip hv).1,if_pos hk];simp
 | p::P,w::vs,i+1,m,nd,h1,h2,hk=>by
  show bindL kindOf ((p,w)::P.zip vs) m x=_;unfold bindL;exact rT (i:=i) (nodup_cons.mp nd).2 (by simpa using h1) (by simpa using h2) hk
theorem rV{kindOf:Str->Option NameKind}{x:Str}{v:Value}:∀{P:List Str} {vs:List Value} {i:Nat} {m:Str->Option Value},P.Nodup->P[i]?=some x->vs[i]?=some v->kindOf x≠some .local ->
  bindC kindOf (P.zip vs) m x=some v
 | [],_,_,_,_,h,_,_=>by simp at h
 | _::_,[],_,_,_,_,h,_=>by simp at h
 | p::P,w::vs,0,m,nd,h1,h2,hk=>by
  simp at h1 h2;subst h1;subst h2;show bindC kindOf ((p,w)::P.zip vs) m p=_;unfold bindC;rw[rS λv hv=>(nodup_cons.mp nd).1 (of_mem_zip hv).1,if_neg hk];simp
 | p::P,w::vs,i+1,m,nd,h1,h2,hk=>by
  show bindC kindOf ((p,w)::P.zip vs) m x=_;unfold bindC;exact rV (i:=i) (nodup_cons.mp nd).2 (by simpa using h1) (by simpa using h2) hk
noncomputable def start(N:List Str)(vs:List V):St:=vs.map some++replicate (N.length-vs.length) none
noncomputable def xU(CX:Aq)(P:Program)(w:World)(K:PySem.W.Frag)(mg:Str->Option Value)(base:Heap)(N:List Str)(qual:Str)(scope:Scope)(f:Addr)(cd:Value)(A:Around)(outer:List Env)(s:Shared)(H:Hp)(E:XK):Cx where
 prog:=P
 w:=w
 K:=K
 mg:=mg
 base:=base
 A:=A.deeper (envOfC qual scope s.heap.objs.size f cd)
 N:=N
 s₀:=s
 H₀:=H
 env:=envOfC qual scope s.heap.objs.size f cd
 outer:=outer
 stack:=envOfC qual scope s.heap.objs.size f cd::outer
 ex:=[]
 calm:=true
 fn:=λ_=>true
 pn:=[]
 xe:=λe s'=>wpAny (model P w) (A.deeper (envOfC qual scope s.heap.objs.size f cd)) (leaving (envOfC qual scope s.heap.objs.size f cd) e) (λ_ s''=>CX outer H s E e s'') (λe' s''=>CX outer H s E e' s'') s'
theorem u9{sc:Scope}{n:Nat}{x:Str}(h:sc.names.lookup x=some .cell):∃c,(cellsFrom n sc.names []).lookup x=some c:=by
 have q:=cellsFrom_some sc.names n [] (.inl h);exact Option.isSome_iff_exists.mp q
theorem Ar{CX:Aq}{P:Program}{w:World}{K:PySem.W.Frag}{mg:Str->Option Value}{base:Heap}{N ps:List Str}{qual:Str}{scope:Scope}{f:Addr}{cd:Value}{A:Around}{outer:List Env}{s s1:Shared}{H:Hp}{E:XK}{us:List Value}{vs:List V}
  (S:o7 N ps scope) (hd:A.handled=none) (e0:xT P w K mg base A outer s H) (hl:vs.length=ps.length) (r:Vals vs us)
  (x:InCallC s s.heap.objs.size (bindL (envOfC qual scope s.heap.objs.size f cd).kindOf (ps.zip us) λ_=>none) (cellsFrom (s.heap.objs.size+1) scope.names []) (bindC (envOfC qual scope s.heap.objs.size f cd).kindOf (ps.zip us) λ_=>none) s1) :
  Inv (xU CX P w K mg base N qual scope f cd A outer s H E) [] (start N vs) H s1:=by
 have hpl:ps.length<=N.length:=by have:=congrArg length S.pre;rw[length_take] at this;omega
 obtain⟨h1,tk,rfl,hk⟩:=x.done;have noA:∀b:Addr,b∉(xU CX P w K mg base N qual scope f cd A outer s H E).ex:=λb z=>absurd (show b∈([]:List Addr) from z) (by simp);refine⟨⟨e0.mod,S.kind,rfl,rfl,Nat.le_refl _,λy z c h1 h2=>?_,λy hy=>?_,λy c _ h=>?_,λ_=>hd,Around.frames_deeper e0.frames,.inr ⟨rfl,rfl⟩,λb z=>absurd z (noA b),e0.bs,e0.Iu,λb _ _=>noA b,λb z=>absurd z (noA b),e0.oR,e0.JM⟩,
  rfl,e0.bare,Un.kept hk,⟨_,x.toInCall.ns,λi y v h1 h2 h3=>?_⟩,λy c h=>⟨_,x.cell y c h⟩,e0.hok.fresh (Nat.le_refl _),λy c h=>?_,λp hp=>absurd (show p∈([]:List (Addr×Obj)) from hp) (by simp),e0.hok.kept hk,?_⟩
 ·exact name_of_addr x.apart (PySem.mem_of_lookup h1) (PySem.mem_of_lookup h2)
 ·have hy:scope.names.lookup y=some .cell\/scope.names.lookup y=some .free:=hy
  rcases hy with hy|hy
  ·exact u9 hy
  ·exact absurd rfl (S.Kn _ (PySem.mem_of_lookup hy))
 ·exact Nat.le_of_lt (x.above y c (PySem.mem_of_lookup h))
 ·have hi:i<vs.length:=by
   unfold start at h2
   by_cases hi:i<vs.length
   ·exact hi
   ·rw[getElem?_append_right (by simpa using hi)] at h2;rw[List.getElem?_replicate] at h2;split at h2<;>cases h2
  have ha:vs[i]?=some v:=by
   unfold start at h2;rw[getElem?_append_left (by simpa using hi),getElem?_map] at h2;cases e:vs[i]? with
   | none=>rw[e] at h2;cases h2
   | some a=>rw[e] at h2;cases h2;rfl
  obtain⟨u,hu,rv⟩:=r.get ha;have hp:ps[i]?=some y:=by rw[<-S.pre,List.getElem?_take_of_lt (by omega)];exact h1
  have Wg:ps.Nodup:=by rw[<-S.pre];exact S.nd.sublist (List.take_sublist _ _)
  refine⟨u,rv,?_⟩
  rcases S.par y (mem_of_getElem? hp) with k|k
  ·exact .inl ⟨k,rT Wg hp hu k⟩
  ·obtain⟨c,e⟩:=u9 (n:=s.heap.objs.size+1) k;refine .inr ⟨.inl k,c,e,?_⟩;have q:=x.cell y c e;rw[rV Wg hp hu (by show scope.names.lookup y≠_;rw[k];decide)] at q;exact q
 ·exact e0.hok.fresh (Nat.le_of_lt (x.above y c (PySem.mem_of_lookup h)))
 ·unfold start;show _=N.length;rw[length_append,length_map,List.length_replicate];omega
theorem NW{CX:Aq}{P:Program}{w:World}{K:PySem.W.Frag}{mg:Str->Option Value}{base:Heap}{k:Nat}{f:Addr}{name qual:Str}{params:Arguments}{body:List Stmt}{scope:Scope}{dV kV doc pm cdv ct oc:Value}{an od:Option Addr}
  {osl:Array (Option Value)} {N ps:List Str} {sp:Sp} (lk:K.lookup f=some ⟨oc,od,.func (PySem.W.fnOf name qual params body scope dV kV doc pm an cdv ct),osl⟩) (hcd:codeIn K cdv qual=true) (S:o7 N ps scope)
  (len:∀vs H Q E,sp vs H Q E->vs.length=ps.length)
  (hbody:∀(A:Around) (outer:List Env) (s:Shared) (H:Hp) (vs:List V) (Q:VK) (E:XK),dP k (A.deeper (envOfC qual scope s.heap.objs.size f cdv))->sp vs H Q E ->
   ∃t,xG (xU CX P w K mg base N qual scope f cdv A outer s H E) body t/\t { nx:=λ_ H'=>Q .non H',rt:=Q } (start N vs) H) :
  fJ P w K mg base CX (k+1) f (PySem.W.fnOf name qual params body scope dV kV doc pm an cdv ct) ps sp:=by
 refine⟨len,λA outer s H args us vs Q E hr e0 hb r hsp=>?_⟩;have hl:=len _ _ _ _ hsp;have KX:K.In s.heap:=e0.mod.MX.keeps λb o e=>(e0.bs b o e).1;have lim:s.heap.NoLimit:=e0.mod.nolimit.keeps λb o e=>(e0.bs b o e).1;have hkind:∀y∈ps.zip us,scope.names.lookup y.1=some .local\/(scope.names.lookup y.1=some .cell/\((cellsFrom (s.heap.objs.size+1) scope.names []).lookup y.1).isSome=true):=λ⟨n,v⟩ hy=>by
  rcases S.par n (of_mem_zip hy).1 with q|q
  ·exact .inl q
  ·exact .inr ⟨q,cellsFrom_some _ _ _ (.inl q)⟩
 refine codeAny_call_function hr.depth (KX _ _ lk) rfl S.co S.gen rfl (PySem.W.codeRec_of KX hcd) (hb _ _ _ _ ?_);refine wpAny_newFunctionEnv_cells S.kind hkind λenv he s1 x=>?_;subst he;refine⟨lim.keeps x.toInCall.keep,codeAny_func ?_⟩;obtain⟨t,ht,hq⟩:=hbody A outer s H vs Q E (hr.deeper _) hsp;have I:Inv (xU CX P w K mg base N qual scope f cdv A outer s H E) [] (start N vs) H s1:=Ar S hr.hd e0 hl r x;refine wpAny_mono (ht [] s1 (start N vs) H _ I hq) (λfl s' hs=>?_) λe s' hs=>hs;have fin:∀{σ':St} {H':Hp} {v:V} {u:Value},Inv (xU CX P w K mg base N qual scope f cdv A outer s H E) [] σ' H' s'->RelV v u->Q v H'->CE outer P w H s Q u s' :=
  λ{σ' H' v u} J rv q=>⟨v,H',J.os,J.bare,J.base,J.hok,rv,q⟩
 cases fl with
 | ret u =>obtain⟨v,σ',H',J,rv,q⟩:=hs;exact fin J rv q
 | next =>obtain⟨σ',H',J,q⟩:=hs;exact fin (v:=V.non) (u:=Value.none) J rfl q
 | brk =>obtain⟨_,_,_,q⟩:=hs;exact False.elim q
 | cont =>obtain⟨_,_,_,q⟩:=hs;exact False.elim q
end L2
namespace L2
open PySem PySem.Spec PyProof.Rows
section
variable {X:Cx} {x:Str} {p pos:Pos} {e:Expr} {es:List Expr} {t:TA} {id T:String} {r:List V->Hp->VK->Prop}
noncomputable def Wh(r:List V->Hp->VK->Prop)(t:TA):TE:=λσ H Q=>t σ H λvs H1=>r vs H1 Q
theorem gJ(hc:cC X (.builtin id) r)(hg:Gl X x)(hm:X.mg x=none)(hv:bootBuiltins x=some (.builtin id))(ha:PA X (e::es) t)(hn:x ≠ "__name__":=by decide)(hdb:(x==("__debug__":Str))=false:=by decide)
  (he:starEach (e::es) X.env=(false,eval e X.env)::starEach es X.env:=by rfl) (hpl:(backTo pos (starEach es X.env)).any (·.1)=false:=by rfl):PE X (.Call (.Name x p) (e::es) [] pos) (Wh r t):=by
 intro pins s σ H Q I h;refine wpAny_Call_Name_kw (iD I hg hm hv ?_ hn hdb);exact PyProof.Rows.callWith_builtin1 (cz (ha pos pins s σ H _ I h) λus s1 ⟨vs,H1,I1,r1,q1⟩=>hc pins s1 σ H1 vs us Q I1 r1 q1) he hpl
theorem kD(hc:cC X (.type T) r)(hg:Gl X x)(hm:X.mg x=none)(hv:bootBuiltins x=some (.type T))(ha:PA X (e::es) t)(hn:x ≠ "__name__":=by decide)(hdb:(x==("__debug__":Str))=false:=by decide)
  (he:starEach (e::es) X.env=(false,eval e X.env)::starEach es X.env:=by rfl) (hpl:(backTo pos (starEach es X.env)).any (·.1)=false:=by rfl):PE X (.Call (.Name x p) (e::es) [] pos) (Wh r t):=by
 intro pins s σ H Q I h;refine wpAny_Call_Name_kw (iD I hg hm hv ?_ hn hdb);exact PyProof.Rows.callWith_type1 (cz (ha pos pins s σ H _ I h) λus s1 ⟨vs,H1,I1,r1,q1⟩=>hc pins s1 σ H1 vs us Q I1 r1 q1) he hpl
end
end L2
namespace HT
open PySem PyProof.Rows
noncomputable def lexLt:List Int->List Int->Bool
 | [],[]=>false
 | [],_::_=>true
 | _::_,[]=>false
 | x::xs,y::ys=>if x=y then lexLt xs ys else decide (x<y)
theorem fK(x y:Int)(xs ys:List Int):lexLt (x::xs) (y::ys)=if x=y then lexLt xs ys else decide (x<y):=rfl
theorem rm:lexLt [] []=false:=rfl
theorem gK(y:Int)(ys:List Int):lexLt [] (y::ys)=true:=rfl
theorem eY(x:Int)(xs:List Int):lexLt (x::xs) []=false:=rfl
section
open PySem.SeqAt
open PySem.AutoSeq1 (wpAny_loadPart')
open PySem.MeetsSeq PySem.MeetsSeq2 PySem.MeetsSeq3
end
section
variable {prog:Program} {w:World} {A:Around} {E:Value->Shared->Prop} {s:Shared}
theorem Fq(ht:IsTup s.heap t vs.toArray)(hb:IsTup s.heap b ws.toArray)(hv:vs≠[])
  (h1:ws=[]->Q (.ref t) s) (h2:ws≠[]->Q (.ref s.heap.objs.size) { s with heap:=s.heap.push { cls:=.type "tuple",data:=.seq (vs++ws).toArray } })
  (hsz:vs.length+ws.length<=sizeLine):wpAny (model prog w) A (binaryOp .Add (.ref t) (.ref b)) Q E s:=by
 obtain⟨⟨cls,dd,data,sl⟩,ho,hc,n,hd⟩:=id ht;obtain⟨⟨XY,dd2,data2,sl2⟩,ho2,hc2,n2,hd2⟩:=id hb;simp only at hc hd hc2 hd2;subst hc hd hc2 hd2;have e:vs.toArray++ws.toArray=(vs++ws).toArray:=by simp
 by_cases hw:ws=[]
 ·exact concat_meets ⟨_,ho,rfl⟩ ⟨_,ho2,rfl⟩ noFill_tuple_add seq_tuple_add PySem.F.slot_tuple_add PySem.F.entry_tuple_add (PySem.F.args_tuple_add_2 _ _)
   (tuple_addW1 t b vs.toArray ws.toArray n n2 dd dd2 sl sl2 (by simpa using hv) (by simp[hw])) ⟨ho,ho2,h1 hw⟩
 ·refine concat_meets ⟨_,ho,rfl⟩ ⟨_,ho2,rfl⟩ noFill_tuple_add seq_tuple_add PySem.F.slot_tuple_add PySem.F.entry_tuple_add (PySem.F.args_tuple_add_2 _ _)
   (tuple_addW2 t b vs.toArray ws.toArray n n2 dd dd2 sl sl2 (by simpa using hv) (by simpa using hw) (by rw[size_toArray,size_toArray];exact hsz)) ⟨ho,ho2,?_⟩
  rw[e];exact h2 hw
noncomputable def eZ(n d:Nat):Option Int->Nat
 | none=>d
 | some v=>if v<0 then (v+(n:Int)).toNat else min v.toNat n
theorem Ko(n d:Nat)(hd:d<=n)(o:Option Int):eZ n d o<=n:=by
 cases o with
 | none=>exact hd
 | some v =>
  show (if v<0 then (v+(n:Int)).toNat else min v.toNat n)<=n
  by_cases hv:v<0
  ·rw[if_pos hv];omega
  ·rw[if_neg hv];exact Nat.min_le_right _ _
theorem yQ(v:Int)(n d:Nat):(if v<0 then max (v+(n:Int)) 0 else min v (n:Int))=((eZ n d (some v):Nat):Int):=by
 show (if v<0 then max (v+(n:Int)) 0 else min v (n:Int))=(((if v<0 then (v+(n:Int)).toNat else min v.toNat n):Nat):Int)
 by_cases hv:v<0
 ·simp only[if_pos hv];omega
 ·simp only[if_neg hv];omega
theorem xV(lo hi:Option Int)(n:Nat):Builtin.Slice.sliceAdjust lo hi 1 (n:Int)=(((eZ n 0 lo:Nat):Int),((eZ n n hi:Nat):Int)):=by
 have h1:¬ ((1:Int)<0):=by omega
 unfold Builtin.Slice.sliceAdjust;simp only[h1,if_false];refine Prod.ext ?_ ?_
 ·cases lo with
  | none=>rfl
  | some v=>exact yQ v n 0
 ·cases hi with
  | none=>rfl
  | some v=>exact yQ v n n
theorem xW(i j:Nat):Builtin.Slice.slicePlaces (i:Int) (j:Int) 1=j-i:=by
 unfold Builtin.Slice.slicePlaces;have h1:(1:Int)>0:=by omega
 simp only[h1,if_true,Int.ediv_one]
 split<;>omega
theorem pN{o:Option Int}(p:IsPart v o)(h:Q o s):wpAny (model prog w) A (Builtin.Slice.slicePartIndex v) Q E s:=by
 cases p with
 | none=>exact slicePart_none h
 | int i t=>exact slicePart_int h
theorem nj{lo hi:Option Int}{n:Nat}(hs:s.heap.IsSliceOf sl vl vu .none)(pl:IsPart vl lo)(pu:IsPart vu hi)
  (h:Q (((eZ n 0 lo:Nat):Int),1,eZ n n hi-eZ n 0 lo) s):wpAny (model prog w) A (Builtin.Slice.sliceApplied (.ref sl) (pure (n:Int))) Q E s:=by
 obtain⟨os,hos,hcs,hds⟩:=id hs;unfold Builtin.Slice.sliceApplied Builtin.Slice.sliceFields;refine wpAny_bind (wpAny_bind (wpAny_field hos hds (x:=vl) rfl (wpAny_bind (wpAny_field hos hds (x:=vu) rfl (wpAny_bind (wpAny_field hos hds (x:=.none) rfl (wpAny_pure ?_)))))));refine wpAny_bind (slicePart_none ?_);show wpAny _ _ (if ((1:Int)==0)=true then _ else _) _ _ s;rw[if_neg (by decide)];refine wpAny_bind (pN pl (wpAny_bind (pN pu (wpAny_bind (wpAny_pure ?_)))));show wpAny _ _ (match Builtin.Slice.sliceAdjust lo hi 1 (n:Int) with|(lo,hi)=>pure (lo,(1:Int),Builtin.Slice.slicePlaces lo hi 1)) _ _ s;rw[xV lo hi n];show wpAny _ _ (pure (((eZ n 0 lo:Nat):Int),(1:Int),Builtin.Slice.slicePlaces ((eZ n 0 lo:Nat):Int) ((eZ n n hi:Nat):Int) 1)) _ _ s;rw[xW];exact wpAny_pure h
theorem B4(xs:Array Value)(i k:Nat):((List.range k).filterMap λ(m:Nat)=>xs[((i:Int)+(m:Int)*1).toNat]?).toArray=((xs.toList.drop i).take k).toArray:=by
 have e:(λ(m:Nat)=>xs[((i:Int)+(m:Int)*1).toNat]?)=λm=>xs[i+m]?:=by
  funext m;have:((i:Int)+(m:Int)*1).toNat=i+m:=by omega
  rw[this]
 rw[e];have:=pick_run xs i k;rw[List.filterMap_map] at this;have e2:((λx=>xs[x]?)∘λx=>i+x)=λm=>xs[i+m]?:=rfl;rw[e2] at this;rw[this]
theorem lV{lo hi:Option Int}(ht:IsTup s.heap t items)(hs:s.heap.IsSliceOf sl vl vu .none)(pl:IsPart vl lo)(pu:IsPart vu hi)
  (hw:¬ (eZ items.size 0 lo=0/\eZ items.size items.size hi=items.size))
  (h:Q (.ref s.heap.objs.size) { s with heap:=s.heap.push { cls:=.type "tuple",data:=.seq ((items.toList.drop (eZ items.size 0 lo)).take (eZ items.size items.size hi-eZ items.size 0 lo)).toArray } })
  (hsz:items.size<=sizeLine):wpAny (model prog w) A (getItem (.ref t) (.ref sl)) Q E s:=by
 have yR:sizeOk (.seq ((items.toList.drop (eZ items.size 0 lo)).take (eZ items.size items.size hi-eZ items.size 0 lo)).toArray):=by show ((items.toList.drop (eZ items.size 0 lo)).take (eZ items.size items.size hi-eZ items.size 0 lo)).toArray.size<=sizeLine;rw[size_toArray,length_take,length_drop,length_toList];omega
 have hj:eZ items.size items.size hi<=items.size:=Ko _ _ (Nat.le_refl _) hi;obtain⟨os,hos,hcs,hds⟩:=id hs;have R5:s.TypeIs (.ref sl) "slice":=⟨os,hos,hcs⟩;unfold getItem
 try with_reducible refine wpAny_holding ?_
 first|refine wpAny_bind (wpAny_pure ?_)|skip
 refine wpAny_bind (wpAny_sequenceKey ht.typeIs (by decide) ?_);refine wpAny_bind (wpAny_callSpecial?_slot (name:=Str.ofString "__getitem__") ht.typeIs PyProof.Rows.slot_tuple_getitem
  (wpAny_call_entry PyProof.Rows.slot_tuple_getitem ht.typeIs entry_tuple_getitem ?_ (args_tuple_getitem _ _)))
 show wpAny _ _ (Builtin.Tuple.tupleItemsOf (.ref t) >>= _) _ _ s;refine wpAny_bind (tupleItemsOf_ ht ?_);refine wpAny_bind (wpAny_typeOf R5 ?_);rw[if_pos (by decide)];refine wpAny_bind (nj hs pl pu ?_);have hno:¬ ((((eZ items.size 0 lo:Nat):Int)==0&&(1:Int)==1&&(eZ items.size items.size hi-eZ items.size 0 lo)==items.size)=true):=by intro q;rw[and_eq_true,and_eq_true] at q;have q1:((eZ items.size 0 lo:Nat):Int)=0:=eq_of_beq q.1.1;have q2:eZ items.size items.size hi-eZ items.size 0 lo=items.size:=eq_of_beq q.2;exact hw ⟨by omega,by omega⟩
 show wpAny _ _ (if (((eZ items.size 0 lo:Nat):Int)==0&&(1:Int)==1&&(eZ items.size items.size hi-eZ items.size 0 lo)==items.size)=true then _ else _) _ _ s;rw[if_neg hno,B4]
 first
  | exact wpAny_bind (m:=Builtin.Tuple.tupleExact _) (wpAny_newObj_type (wpAny_pure ⟨_,rfl,wpAny_pure h⟩) yR)
  | exact wpAny_bind (m:=Builtin.Tuple.tupleExact _) (wpAny_newObj_type (wpAny_bind (wpAny_pure (wpAny_pure ⟨_,rfl,wpAny_pure h⟩))) yR)
  | exact wpAny_bind (wpAny_bind (m:=Builtin.Tuple.tupleExact _) (wpAny_newObj_type (wpAny_pure (wpAny_pure ⟨_,rfl,wpAny_pure h⟩)) yR))
  | exact wpAny_bind (wpAny_bind (m:=Builtin.Tuple.tupleExact _) (wpAny_newObj_type (wpAny_pure ⟨_,rfl,wpAny_pure h⟩) yR))
end
end HT
namespace L2
open PySem PySem.Spec PyProof.Rows
noncomputable abbrev TO:=St->Hp->(Option Int->Hp->Prop)->Prop
noncomputable def PO(X:Cx)(e:Option Expr)(t:TO):Prop :=
 ∀(pins:List (Addr×Obj)) (s:Shared) (σ:St) (H:Hp) (Q:Option Int->Hp->Prop),Inv X pins σ H s->t σ H Q ->
  wpAny (model X.prog X.w) X.A (evalPart e X.env) (λu s'=>∃o H',Inv X pins σ H' s'/\IsPart u o/\Q o H') X.xe s
noncomputable def Ft:TO:=λ_ H Q=>Q none H
noncomputable def NX(t:TE):TO:=λσ H Q=>t σ H λx H1=>∃i,x=.int i/\Q (some i) H1
theorem intsAre_of{ns:List Int}:∀{us:List Value},Vals (ns.map V.int) us->IntsAre us ns:=by
 induction ns with
 | nil=>intro us r;rw[map_nil] at r;cases r;exact .nil
 | cons n ns ih =>
  intro us r;rw[map_cons] at r;cases r with
  | cons r1 r2 =>obtain⟨t,e⟩:=r1;subst e;exact .cons n t (ih r2)
section
variable {X:Cx} {e:Expr} {te:TE} {lo hi:Option Expr} {tl th:TO} {pos p2:Pos}
theorem Fv:PO X none Ft:=by
 intro pins s σ H Q I h;rw[evalPart_none];exact wpAny_pure ⟨none,H,I,.none,h⟩
theorem Fw(h:PE X e te):PO X (some e) (NX te):=by
 intro pins s σ H Q I hw;rw[evalPart_some];refine cz (h pins s σ H _ I hw) λu s1 aJ=>?_;obtain⟨x,H1,I1,r1,q1⟩:=aJ;obtain⟨i,rfl,q⟩:=q1;obtain⟨t,rfl⟩:=r1;exact⟨some i,H1,I1,.int i t,q⟩
noncomputable def QW(X:Cx)(r:V->Option Int->Option Int->Hp->VK->Prop):Prop :=
 ∀(pins:List (Addr×Obj)) (s:Shared) (σ:St) (H:Hp) (x:V) (v vl vu:Value) (lo hi:Option Int) (sl:Addr) (Q:VK),Inv X pins σ H s->RelV x v->s.heap.IsSliceOf sl vl vu .none->IsPart vl lo->IsPart vu hi->r x lo hi H Q ->
  ∃T id,typeLookup (.type T) "__getitem__" = pure (some (.builtin id))/\s.TypeIs v T/\wpAny (model X.prog X.w) X.A (getItem v (.ref sl)) (EP X pins σ Q) X.xe s
noncomputable def XZ(r:V->Option Int->Option Int->Hp->VK->Prop)(te:TE)(tl th:TO):TE:=λσ H Q=>te σ H λx H1=>tl σ H1 λl H2=>th σ H2 λu H3=>r x l u H3 Q
theorem B5(hr:QW X r)(he:PE X e te)(hl:PO X lo tl)(hu:PO X hi th):PE X (.Subscript e (.Slice lo hi none p2) pos) (XZ r te tl th):=by
 intro pins s σ H Q I h;refine Subscript_ (cz (he pins s σ H _ I h) λv s1 aJ=>?_);obtain⟨x,H1,I1,r1,q1⟩:=aJ;refine wpAny_Slice (cz (hl pins s1 σ H1 _ I1 q1) λvl s2 ⟨l,H2,I2,pl,q2⟩=>cz (hu pins s2 σ H2 _ I2 q2) λvu s3 aJ=>?_);obtain⟨u,H3,I3,pu,q3⟩:=aJ;rw[evalPart_none];refine wpAny_pure ?_;have I4:Inv X pins σ H3 { s3 with heap:=s3.heap.push { cls:=.type "slice",data:=.fields #[vl,vu,.none] } }:=I3.kept (t':=s3.toks) λb ob q=>get?_push_of_some _ q;obtain⟨T,id,hT,ht,hg⟩:=hr pins { s3 with heap:=s3.heap.push { cls:=.type "slice",data:=.fields #[vl,vu,.none] } } σ H3 x v vl vu l u s3.heap.objs.size Q I4 r1 (Heap.IsSliceOf.new ..) pl pu q3;show wpAny (model X.prog X.w) X.A (subscriptTail e (.Slice lo hi none p2) v (.ref s3.heap.objs.size)) (EP X pins σ Q) X.xe { s3 with heap:=s3.heap.push { cls:=.type "slice",data:=.fields #[vl,vu,.none] } };exact tail_any (ops:=[.ref s3.heap.objs.size,v]) ht hT hg (by with_unfolding_all rfl)
noncomputable def vc(xs:List V)(lo hi:Option Int):List V:=(xs.drop (HT.eZ xs.length 0 lo)).take (HT.eZ xs.length xs.length hi-HT.eZ xs.length 0 lo)
theorem n9(xs:List V)(lo hi:Option Int):(vc xs lo hi).length<=xs.length:=by
 unfold vc;rw[length_take,length_drop];omega
noncomputable def R6(K:PySem.W.Frag):V->Option Int->Option Int->Hp->VK->Prop:=λx lo hi H Q=>∃a xs,x=.ref a/\jv K H a xs /\
 ¬ (HT.eZ xs.length 0 lo=0/\HT.eZ xs.length xs.length hi=xs.length)/\∀p,H p=none->Q (.ref p) (upd H p (.tup (vc xs lo hi)))
theorem Kp:QW X (R6 X.K):=by
 intro pins s σ H x v vl vu lo hi sl Q I rx hs pl pu h;obtain⟨a,xs,rfl,hx,hw,q⟩:=h;cases rx;obtain⟨its,r,ht,hz⟩:=I.tuple hx;have hlen:its.toArray.size=xs.length:=by rw[size_toArray];exact r.length.symm
 refine⟨"tuple",_,PyProof.Rows.slot_tuple_getitem.lookup,ht.typeIs,?_⟩;refine HT.lV ht hs pl pu (by rw[hlen];exact hw) ?_ (by rw[hlen];exact hz);rw[hlen];refine⟨.ref s.heap.objs.size,_,I.laid (t':=s.toks) (o:=.tup (vc xs lo hi)) (λb ob q=>get?_push_of_some _ q) (Nat.le_refl _) ?_,rfl,q _ (I.hok.fresh (Nat.le_refl _))⟩;exact⟨le_trans (n9 xs lo hi) hz,_,(r.drop (HT.eZ xs.length 0 lo)).take (HT.eZ xs.length xs.length hi-HT.eZ xs.length 0 lo),IsTup.new _ _⟩
noncomputable def NY(K:PySem.W.Frag):R2:=λx y H Q=>∃a b xs ys,x=.ref a/\y=.ref b/\jv K H a xs/\jv K H b ys/\xs≠[]/\xs.length+ys.length<=sizeLine /\
 (ys=[]->Q (.ref a) H)/\(ys≠[]->∀p,H p=none->Q (.ref p) (upd H p (.tup (xs++ys))))
theorem Vals.tN(r:Vals xs us):us=[]↔xs=[]:=by
 cases r with
 | nil=>simp
 | cons _ _=>simp
theorem Fx:kC X (binaryOp .Add) (NY X.K):=by
 intro pins s σ H x y v u Q I rx ry h;obtain⟨a,b,xs,ys,rfl,rfl,ha,hb,hx,hz,q1,q2⟩:=h;cases rx;cases ry;obtain⟨its,r1,p1,_⟩:=I.tuple ha;obtain⟨its2,r2,p2,_⟩:=I.tuple hb;refine HT.Fq p1 p2 (λz=>hx (r1.tN.mp z)) (λz=>⟨.ref a,H,I,rfl,q1 (r2.tN.mp z)⟩) (λz=>?_) (by rw[<-r1.length,<-r2.length];exact hz);refine⟨.ref s.heap.objs.size,_,I.laid (t':=s.toks) (o:=.tup (xs++ys)) (λb ob q=>get?_push_of_some _ q) (Nat.le_refl _) ?_,rfl,q2 (λw=>z (r2.tN.mpr w)) _ (I.hok.fresh (Nat.le_refl _))⟩;exact⟨by rw[length_append];exact hz,_,r1.append r2,IsTup.new _ _⟩
end
end L2
namespace L2
open PySem PySem.Spec PyProof.Rows
noncomputable def As(n:Nat)(i:Int):Option Nat:=if 0<=i then (if i<n then some i.toNat else none) else if -(n:Int)<=i then some (i+n).toNat else none
noncomputable def iR{α:Type}(xs:List α)(i:Int):Option α:=(As xs.length i).bind λj=>xs[j]?
theorem yS{n:Nat}{i:Int}{j:Nat}(h:As n i=some j):seqIndex? i n=some j/\j<n /\ -(n:Int)<=i/\i<n:=by
 unfold As at h
 by_cases h0:0<=i
 ·rw[if_pos h0] at h
  by_cases h1:i<n
  ·rw[if_pos h1] at h;have e:i.toNat=j:=Option.some.inj h;exact⟨by rw[seqIndex_of h0 h1,e],by omega,by omega,h1⟩
  ·rw[if_neg h1] at h;cases h
 ·rw[if_neg h0] at h
  by_cases h1:-(n:Int)<=i
  ·rw[if_pos h1] at h;have e:(i+n).toNat=j:=Option.some.inj h;exact⟨by rw[seqIndex_neg (by omega) h1,e],by omega,h1,by omega⟩
  ·rw[if_neg h1] at h;cases h
theorem tO{α:Type}{xs:List α}{i:Int}{v:α}(h:iR xs i=some v):∃j,seqIndex? i xs.length=some j/\xs[j]?=some v/\j<xs.length /\ -(xs.length:Int)<=i/\i<xs.length:=by
 unfold iR at h;cases e:As xs.length i with
 | none=>rw[e] at h;cases h
 | some j =>rw[e] at h;obtain⟨h1,h2,h3,h4⟩:=yS e;exact⟨j,h1,h,h2,h3,h4⟩
theorem kE{α:Type}{xs:List α}{j:Nat}{v:α}(h:xs[j]?=some v):iR xs (j:Int)=some v:=by
 have hj:j<xs.length:=(List.getElem?_eq_some_iff.mp h).1;have e:As xs.length (j:Int)=some j:=by unfold As;rw[if_pos (by omega),if_pos (by omega)];simp
 unfold iR;rw[e];exact h
noncomputable def yT(b:Expr):Prop:=∀o i,subscripted b false o i=operate [o,i] (getItem o i)
noncomputable def M1(X:Cx)(r:R2):Prop :=
 ∀(value slice:Expr) (pins:List (Addr×Obj)) (s:Shared) (σ:St) (H:Hp) (x y:V) (v u:Value) (Q:VK),Inv X pins σ H s->RelV x v->RelV y u->r x y H Q ->
  subscripted slice false v u=operate [v,u] (getItem v u)->wpAny (model X.prog X.w) X.A (subscriptTail value slice v u) (EP X pins σ Q) X.xe s
noncomputable def NZ(X:Cx)(id:String)(r:V->List V->Hp->VK->Prop):Prop :=
 ∀(pins:List (Addr×Obj)) (s:Shared) (σ:St) (H:Hp) (x:V) (xs:List V) (v:Value) (us:List Value) (Q:VK),Inv X pins σ H s->RelV x v->Vals xs us->r x xs H Q ->
  wpAny (model X.prog X.w) X.A (call (.builtin id) (v::us)) (EP X pins σ Q) X.xe s
section
variable {X:Cx} {a b:Expr} {ta tb:TE} {pos:Pos}
theorem N1(hr:M1 X r)(ha:PE X a ta)(hb:PE X b tb)(hs:yT b):PE X (.Subscript a b pos) (QU r ta tb):=by
 intro pins s σ H Q I h;exact Subscript_ (J5 ha hb I h λv u s2 x y H2 I2 rx ry q=>hr a b pins s2 σ H2 x y v u Q I2 rx ry q (hs _ _))
noncomputable def R7(K:PySem.W.Frag):R2:=λx y H Q=>∃p xs i v,x=.ref p/\y=.int i/\gI K H p xs/\iR xs i=some v/\Q v H
noncomputable def R8(K:PySem.W.Frag):R2:=λx y H Q=>∃p xs i v,x=.ref p/\y=.int i/\jv K H p xs/\iR xs i=some v/\Q v H
noncomputable def R9:R2:=λx y H Q=>∃z i c,x=.str z/\y=.int i/\z.length<=sizeLine/\iR z.cps.toList i=some c/\Q (.str ⟨#[c]⟩) H
theorem yU:M1 X (R7 X.K):=by
 intro value slice pins s σ H x y v u Q I rx ry h hs;obtain⟨p,xs,i,z,rfl,rfl,hq,he,q⟩:=h;cases rx;obtain⟨t,rfl⟩:=ry;obtain⟨its,r,pl,hz⟩:=I.list hq;obtain⟨j,h1,h2,h3,h4,h5⟩:=tO he;obtain⟨w,ew,rw'⟩:=r.get h2;have hl:=r.length;have hn:=nh;have fin:EP X pins σ Q w s:=⟨z,H,I,rw',q⟩
 by_cases h0:0<=i
 ·have hj:i.toNat=j:=by
   rw[seqIndex_of h0 h5] at h1;exact Option.some.inj h1
  exact item_listR pl.isList h0 (by omega) (by rw[hj];simpa using ew) fin hs
 ·have hj:(i+(its.toArray.size:Int)).toNat=j:=by
   rw[seqIndex_neg (by omega) h4] at h1;rw[size_toArray,<-hl];exact Option.some.inj h1
  exact subscriptTail_builtinR (x:=w) pl.isList.typeIs slot_list_getitem.lookup
   (wpAny_getItem_list_neg (Q:=λr s'=>r=w/\EP X pins σ Q r s') pl.isList (by omega) (by rw[size_toArray]<;>omega) (by omega) (by rw[hj];simpa using ew) ⟨rfl,fin⟩) hs
theorem Kq:M1 X (R8 X.K):=by
 intro value slice pins s σ H x y v u Q I rx ry h hs;obtain⟨p,xs,i,z,rfl,rfl,hq,he,q⟩:=h;cases rx;obtain⟨t,rfl⟩:=ry;obtain⟨its,r,pl,hz⟩:=I.tuple hq;obtain⟨j,h1,h2,h3,h4,h5⟩:=tO he;obtain⟨w,ew,rw'⟩:=r.get h2;have hl:=r.length;have hn:=nh;have fin:EP X pins σ Q w s:=⟨z,H,I,rw',q⟩;exact subscriptTail_builtinR (x:=w) pl.typeIs slot_tuple_getitem.lookup
  (getItem_tuple (j:=j) (Q:=λr s'=>r=w/\EP X pins σ Q r s') pl (by omega) (by omega) (by rw[size_toArray,<-hl];exact h1) (by simpa using ew) ⟨rfl,fin⟩) hs
theorem Kr:M1 X R9:=by
 intro value slice pins s σ H x y v u Q I rx ry h hs;obtain⟨z,i,c,rfl,rfl,hz,he,q⟩:=h;obtain⟨t,rfl⟩:=rx;obtain⟨t',rfl⟩:=ry;obtain⟨j,h1,h2,h3,h4,h5⟩:=tO he;have hl:z.cps.toList.length=z.length:=by simp[Str.length]
 rw[hl] at h1 h4 h5;have hn:=nh;exact tail_any (typeIs_str s z t) slot_str_getitem.lookup (getItem_str (c:=c) (by
  have e1:decide (i < -(2 ^ 63:Int))=false:=decide_eq_false (by omega);have e2:decide (i≥2 ^ 63)=false:=decide_eq_false (by omega);rw[e1,e2,Bool.or_false]) (by rw[h1];simpa using h2) ⟨.str ⟨#[c]⟩,H,I.tok _,⟨_,rfl⟩,q⟩) hs
theorem xX(its:List Value)(n j:Nat)(u:Value):Obj.mapSeq (·.setIfInBounds j u) { cls:=.type "list",data:=.seq its.toArray n }={ cls:=.type "list",data:=.seq (its.set j u).toArray n }:=by
 simp[Obj.mapSeq]
theorem Inv.lst(I:Inv X pins σ H s)(h:H p=some (.lst xs)) :
  ∃(its:List Value) (n:Nat),Vals xs its/\s.heap.get? p=some { cls:=.type "list",data:=.seq its.toArray n }/\xs.length<=sizeLine:=by
 obtain⟨z,its,n,r,e⟩:=I.hok p _ h;exact⟨its,n,r,e,z⟩
theorem Inv.Ks{pins:List (Addr×Obj)}{σ:St}{H:Hp}{s:Shared}{p:Addr}{xs ys:List V}{its its':List Value}{n n':Nat}{f:Obj->Obj}(I:Inv X pins σ H s)(h:H p=some (.lst xs))
  (ho:s.heap.get? p=some { cls:=.type "list",data:=.seq its.toArray n }) (hf:f { cls:=.type "list",data:=.seq its.toArray n }={ cls:=.type "list",data:=.seq its'.toArray n' }) (r:Vals ys its') (hz:ys.length<=sizeLine) (t:Nat) :
  Inv X pins σ (upd H p (.lst ys)) { s with heap:=s.heap.update p f,toks:=t }:=by
 have e:(s.heap.update p f).get? p=some { cls:=.type "list",data:=.seq its'.toArray n' }:=by rw[get?_update_self f ho (by rw[hf]<;>rfl),hf]
 refine I.write (x:=p) (e:=p) (by rw[h];trivial) (.inl rfl) (λb u hb q=>(get?_update_other _ _ (Ne.symm hb)).trans q) ⟨_,e⟩ ?_;exact⟨hz,its',n',r,e⟩
noncomputable def N2:V->V->V->Hp->(Hp->Prop)->Prop:=λo i v H Q=>∃p xs k j,o=.ref p/\i=.int k/\H p=some (.lst xs)/\As xs.length k=some j/\Q (upd H p (.lst (xs.set j v)))
theorem set_list:J1 X N2:=by
 intro pins s σ H o i v ov iv u Q I ro ri rv h;obtain⟨p,xs,k,j,rfl,rfl,hp,hj,q⟩:=h;cases ro;obtain⟨t,rfl⟩:=ri;obtain⟨its,n,r,ho,hz⟩:=I.lst hp;obtain⟨h1,h2,h3,h4⟩:=yS hj;have hl:=r.length;have hn:=nh;have I':Inv X pins σ (upd H p (.lst (xs.set j v))) { s with heap:=s.heap.update p (Obj.mapSeq (·.setIfInBounds j u)) } :=
  I.Ks hp ho (xX its n j u) (r.set rv j) (by rw[length_set];exact hz) s.toks
 by_cases h0:0<=k
 ·have hk:k.toNat=j:=by
   rw[seqIndex_of h0 h4] at h1;exact Option.some.inj h1
  exact PySem.W.ki_setAt ho h0 (by omega) (by rw[size_toArray,<-hl];exact h4) (by rw[hk];exact⟨_,I',q⟩)
 ·have hk:(k+(its.toArray.size:Int)).toNat=j:=by
   rw[seqIndex_neg (by omega) h3] at h1;rw[size_toArray,<-hl];exact Option.some.inj h1
  exact PySem.W.ki_setBack ho (by omega) (by rw[size_toArray,<-hl];exact h3) (by omega) (by rw[hk];exact⟨_,I',q⟩)
theorem tQ(lo hi:Option Int)(n:Nat):(sliceBounds lo hi none n).1=((HT.eZ n 0 lo:Nat):Int)/\(sliceBounds lo hi none n).2.1=((HT.eZ n n hi:Nat):Int)/\(sliceBounds lo hi none n).2.2=1:=by
 refine⟨?_,?_,rfl⟩
 ·cases lo with
  | none=>simp[sliceBounds,HT.eZ]
  | some i =>
   simp only[sliceBounds,HT.eZ,getD_none,show (1:Int)>0 by decide,if_true]
   by_cases h:i<0
   ·simp only[h,if_true]<;>omega
   ·simp only[h,if_false]<;>omega
 ·cases hi with
  | none=>simp[sliceBounds,HT.eZ]
  | some i =>
   simp only[sliceBounds,HT.eZ,getD_none,show (1:Int)>0 by decide,if_true]
   by_cases h:i<0
   ·simp only[h,if_true]<;>omega
   ·simp only[h,if_false]<;>omega
theorem rq(its:List Value)(lo hi:Option Int):slicePick its.toArray lo hi none=((its.drop (HT.eZ its.length 0 lo)).take (HT.eZ its.length its.length hi-HT.eZ its.length 0 lo)).toArray:=by
 obtain⟨h1,h2,h3⟩:=tQ lo hi its.toArray.size;unfold slicePick;rw[h1,h2,h3];simp only[sliceRange_one,pick_run,size_toArray]<;>rfl
noncomputable def Sa(K:PySem.W.Frag):V->Option Int->Option Int->Hp->VK->Prop:=λx lo hi H Q=>∃a xs,x=.ref a/\gI K H a xs/\∀p,H p=none->Q (.ref p) (upd H p (.lst (vc xs lo hi)))
theorem Fy:QW X (Sa X.K):=by
 intro pins s σ H x v vl vu lo hi sl Q I rx hs pl pu h;obtain⟨a,xs,rfl,hx,q⟩:=h;cases rx;obtain⟨its,r,ht,hz⟩:=I.list hx;have hlen:=r.length;refine⟨"list",_,slot_list_getitem.lookup,ht.isList.typeIs,?_⟩;refine wpAny_getItem_list_slice ht.isList hs pl pu .none (by simp) ?_ (by rw[size_toArray]<;>omega);rw[rq,<-hlen];refine⟨.ref s.heap.objs.size,_,I.laid (t':=s.toks) (o:=.lst (vc xs lo hi)) (λb ob q=>get?_push_of_some _ q) (Nat.le_refl _) ?_,rfl,q _ (I.hok.fresh (Nat.le_refl _))⟩;exact⟨le_trans (n9 xs lo hi) hz,_,0,(r.drop (HT.eZ xs.length 0 lo)).take (HT.eZ xs.length xs.length hi-HT.eZ xs.length 0 lo),get?_push_size _ rfl⟩
theorem tR:cC X (.type "list") (λxs H Q=>∃p ys,xs=[.ref p]/\(gI X.K H p ys\/jv X.K H p ys)/\∀l,H l=none->Q (.ref l) (upd H l (.lst ys))):=by
 intro pins s σ H xs us Q I r h;obtain⟨p,ys,rfl,hq,q⟩:=h;obtain⟨u,rfl,rx⟩:=vals1 r;cases rx;have fin:∀(its:List Value),Vals ys its->ys.length<=sizeLine->∀(h':Heap) (c':Nat),(∀b o',s.heap.get? b=some o'->h'.get? b=some o') ->
   h'.get? s.heap.objs.size=some { cls:=.type "list",dict:=none,data:=.seq its.toArray c',slots:=#[] }->EP X pins σ Q (.ref s.heap.objs.size) { s with heap:=h' }:=λits r' hz h' c' kp e =>
  ⟨.ref s.heap.objs.size,_,I.laid (t':=s.toks) kp (Nat.le_refl _) (show bY X.prog X.w _ h' _ (.lst ys) from⟨hz,its,c',r',e⟩),rfl,q _ (I.hok.fresh (Nat.le_refl _))⟩
 rcases hq with hq|hq
 ·obtain⟨its,r',pl,hz⟩:=I.list hq;have hlen:=r'.length;obtain⟨o,ho,hc,n,hd⟩:=pl.isList;exact call_list_seq p (.inl rfl) ho hc hd (λh' c' kp e=>fin its r' hz h' c' kp e) (by simp only[size_toArray]<;>omega)
 ·obtain⟨its,r',pl,hz⟩:=I.tuple hq;have hlen:=r'.length;obtain⟨o,ho,hc,n,hd⟩:=pl;exact call_list_seq p (.inr rfl) ho hc hd (λh' c' kp e=>fin its r' hz h' c' kp e) (by simp only[size_toArray]<;>omega)
theorem kY:cC X (.type "tuple") (λxs H Q=>∃p ys,xs=[.ref p]/\((gI X.K H p ys/\∀l,H l=none->Q (.ref l) (upd H l (.tup ys)))\/(jv X.K H p ys/\Q (.ref p) H))):=by
 intro pins s σ H xs us Q I r h;obtain⟨p,ys,rfl,h⟩:=h;obtain⟨u,rfl,rx⟩:=vals1 r;cases rx
 rcases h with ⟨hq,q⟩|⟨hq,q⟩
 ·obtain⟨its,r',pl,hz⟩:=I.list hq
  have hlen:=r'.length;refine call_tuple_list pl.isList (λh' kp=>?_) (by simp only[size_toArray]<;>omega);have I1:Inv X pins σ H { s with heap:=h' }:=I.kept (t':=s.toks) kp;have I2:Inv X pins σ (upd H h'.objs.size (.tup ys)) { s with heap:=h'.push { cls:=.type "tuple",data:=.seq its.toArray } } :=
   I1.laid (t':=s.toks) (λb o e=>get?_push_of_some _ e) (Nat.le_refl _) (show bY X.prog X.w _ _ _ (.tup ys) from⟨hz,its,r',IsTup.new _ _⟩)
  exact⟨.ref h'.objs.size,_,I2,rfl,q _ (I1.hok.fresh (Nat.le_refl _))⟩
 ·obtain⟨its,r',pl,hz⟩:=I.tuple hq;exact call_tuple_same pl ⟨.ref p,H,I,rfl,q⟩
noncomputable def Sb(K:PySem.W.Frag)(T:String)(x:V)(H:Hp):Prop:=match x with
 | .str _=>T = "str"
 | .int _=>T = "int"
 | .ref p=>(T = "list" /\ ∃xs,gI K H p xs)\/(T = "tuple" /\ ∃o,K.lookup p=some o/\o.cls=.type "tuple" /\ o.dict=none) \/
   (T = "dict" /\ ((∃kvs,H p=some (.dK kvs))\/∃kvs,H p=some (.dT kvs)))\/(T = "set" /\ ∃S n,H p=some (.set S n))
 | _=>False
theorem Ku{T:String}(I:Inv X pins σ H s)(r:RelV x v)(ty:Sb X.K T x H) :
  s.TypeIs v T/\∀a,v=.ref a->∃ob,s.heap.get? a=some ob/\ob.dict=none:=by
 cases x with
 | str z =>obtain⟨t,rfl⟩:=r;cases (show T = "str" from ty);exact⟨typeIs_str s z t,λ_ e=>nomatch e⟩
 | int i =>obtain⟨t,rfl⟩:=r;cases (show T = "int" from ty);exact⟨typeIs_int s i t,λ_ e=>nomatch e⟩
 | ref p =>
  cases r
  rcases ty with ⟨rfl,xs,hq⟩|⟨rfl,o,hk,hc,hd⟩|⟨rfl,hk⟩|⟨rfl,S,n,hk⟩
  ·obtain⟨its,_,pl,_⟩:=I.list hq;refine⟨pl.isList.typeIs,λa e=>?_⟩;cases e;obtain⟨o,n,e,c,hd,_⟩:=pl;exact⟨o,e,hd⟩
  ·refine⟨⟨o,I.m8 p o hk,hc⟩,λa e=>?_⟩;cases e;exact⟨o,I.m8 _ o hk,hd⟩
  ·have z:∃o,s.heap.get? p=some o/\o.ExactDict:=by
    rcases hk with ⟨kvs,hk⟩|⟨kvs,hk⟩
    ·obtain⟨_,_,_,_,o,_,_,e,ex,_⟩:=I.hok p _ hk;exact⟨o,e,ex⟩
    ·obtain⟨_,_,_,_,o,_,_,e,ex,_⟩:=I.hok p _ hk;exact⟨o,e,ex⟩
   obtain⟨o,e,ex⟩:=z;refine⟨⟨o,e,ex.1⟩,λa e2=>?_⟩;cases e2;exact⟨o,e,ex.2.1⟩
  ·obtain⟨o,_,_,_,e,ex,_⟩:=I.hok p _ hk;refine⟨⟨o,e,ex.1⟩,λa e2=>?_⟩;cases e2;exact⟨o,e,ex.2.1⟩
 | _=>exact False.elim ty
noncomputable def Wi(K:PySem.W.Frag)(T:String)(r:V->List V->Hp->VK->Prop)(to:TE)(t:TA):TE:=λσ H Q=>to σ H λx H1=>Sb K T x H1/\t σ H1 λxs H2=>r x xs H2 Q
variable {o e:Expr} {es:List Expr} {to:TE} {t:TA} {name:Str} {apos cpos:Pos} {T id:String} {r:V->List V->Hp->VK->Prop}
theorem B6(pa:PlainAttrs T)(slot:Slot T name id)(hty:typeOf (.builtin id)=pure (.type "method_descriptor"))(hm:NZ X id r)(ho:PE X o to)(ha:PA X (e::es) t)
  (hbase:attributeBase o name X.env (eval o X.env)=eval o X.env:=by rfl)
  (hfew:((backTo cpos (starEach (e::es) X.env)).all (λx=>!x.1)&&(backToKw cpos (keywordEach [] X.env)).all (λx=>x.1.isSome)
   && decide ((e::es).length+([]:List Keyword).length+(if ([]:List Keyword).isEmpty then 0 else 1)<30))=true:=by rfl)
  (hline:(apos.endLine==cpos.line)=true:=by rfl) (hs:starEach (e::es) X.env=(false,eval e X.env)::starEach es X.env:=by rfl) (hplain:(backTo cpos (starEach es X.env)).any (·.1)=false:=by rfl) :
  PE X (.Call (.Attribute o name apos) (e::es) [] cpos) (Wi X.K T r to t):=by
 intro pins s σ H Q I h;refine wpAny_Call_method_late hbase hfew hline rfl (cz (ho pins s σ H _ I h) λv s1 aJ=>?_);obtain⟨x,H1,I1,r1,ty,q1⟩:=aJ;obtain⟨h1,h2⟩:=Ku I1 r1 ty;refine⟨T,id,pa,slot,hty,h1,h2,?_⟩;have hA:=ha cpos pins s1 σ H1 _ I1 q1;rw[hs] at hA |-;refine Calls.callWith_builtin (by show (false||(backTo cpos (starEach es X.env)).any (·.1))=false;rw[hplain]<;>rfl) (Calls.evalArgs_plain ?_);exact cz hA λus s2 ⟨vs,H2,I2,r2,q2⟩=>hm pins s2 σ H2 x vs v us Q I2 r1 r2 q2
/- xs.append(e),list.index on a N3 tuple .. are NZ facts of 06m -/
end
end L2
namespace L2
open PySem PySem.Spec PyProof.Rows
noncomputable def Sd(X:Cx)(id:String)(r:V->List V->Hp->VK->Prop):Prop :=
 ∀(pins:List (Addr×Obj)) (s:Shared) (σ:St) (H:Hp) (x:V) (xs:List V) (v:Value) (us:List Value) (Q:VK),Inv X pins σ H s->RelV x v->Vals xs us->r x xs H Q ->
  wpAny (model X.prog X.w) X.A (call (.builtin id) (v::us)) (EP X pins σ Q) X.xe s
theorem Vals.one:∀{x:V} {us:List Value},Vals [x] us->∃u,us=[u]/\RelV x u
 | _,_,.cons r .nil=>⟨_,rfl,r⟩
section
variable {X:Cx} {pins:List (Addr×Obj)} {σ:St} {H:Hp} {s:Shared} {l b:Addr} {xs ys zs:List V}
theorem Inv.Kv{its its':List Value}{n:Nat}{f:Array Value->Array Value}{t':Nat}(I:Inv X pins σ H s)(hH:H l=some (.lst xs))
  (e:s.heap.get? l=some { cls:=.type "list",data:=.seq its.toArray n }) (hf:f its.toArray=its'.toArray) (hv:Vals ys its') (hz:ys.length<=sizeLine) :
  Inv X pins σ (upd H l (.lst ys)) { s with heap:=s.heap.update l (Obj.mapSeq f),toks:=t' }:=by
 have q:=PySem.IsL.update e f;rw[hf] at q;refine I.write (x:=l) (e:=l) (by rw[hH];exact trivial) (.inl rfl) (λb' u hb hu=>(get?_update_other s.heap (Obj.mapSeq f) (Ne.symm hb)).trans hu) ⟨_,q⟩ ?_;exact⟨hz,its',_,hv,q⟩
theorem Inv.Se{t':Nat}(I:Inv X pins σ H s)(hv:Vals ys its)(hz:ys.length<=sizeLine) :
  Inv X pins σ (upd H s.heap.objs.size (.lst ys)) { s with heap:=s.heap.push { cls:=.type "list",data:=.seq its.toArray },toks:=t' } :=
 I.laid (λ_ _ q=>get?_push_of_some _ q) (Nat.le_refl _) ⟨hz,its,0,hv,get?_push_size _ rfl⟩
theorem Inv.Fz(I:Inv X pins σ H s)(hH:H l=some (.lst xs)):xs.length<=sizeLine/\∃(its:List Value) (n:Nat),Vals xs its/\xs.length=its.length/\s.heap.get? l=some { cls:=.type "list",data:=.seq its.toArray n }:=by
 obtain⟨z,its,n,r,e⟩:=I.hok l _ hH;exact⟨z,its,n,r,r.length,e⟩
theorem vd{n:Nat}(h:n<=sizeLine):Builtin.List.listTooLong n=false:=by
 unfold Builtin.List.listTooLong;exact decide_eq_false (by omega)
end
section
variable {X:Cx}
noncomputable def FA:V->List V->Hp->VK->Prop:=λx vs H Q=>∃l xs y,x=.ref l/\vs=[y]/\H l=some (.lst xs)/\xs.length<sizeLine/\Q .non (upd H l (.lst (xs++[y])))
theorem rW:Sd X "list.append" FA:=by
 intro pins s σ H x vs v us Q I rx rv h;obtain⟨l,xs,y,rfl,rfl,hH,hz,q⟩:=h;cases rx;obtain⟨u,rfl,ru⟩:=rv.one;obtain⟨z,its,n,r,hl,e⟩:=I.Fz hH;refine call_meets F.slot_list_append ⟨_,e,rfl⟩ F.entry_list_append (F.args_list_append_2 _ _) (PySem.list_append l its.toArray n u (by rw[size_toArray];omega)) ⟨e,?_⟩;refine⟨.non,_,I.Kv (its':=its++[u]) hH e (by simp) (r.append (.cons ru .nil)) ?_,rfl,q⟩;rw[length_append,List.length_singleton];omega
noncomputable def FD:V->List V->Hp->VK->Prop:=λx vs H Q=>∃l b xs zs,x=.ref l/\vs=[.ref b]/\H l=some (.lst xs)/\H b=some (.lst zs)/\xs.length+zs.length<=sizeLine/\Q .non (upd H l (.lst (xs++zs)))
theorem Au:Sd X "list.extend" FD:=by
 intro pins s σ H x vs v us Q I rx rv h;obtain⟨l,b,xs,zs,rfl,rfl,hH,hB,hz,q⟩:=h;cases rx;obtain⟨u,rfl,ru⟩:=rv.one;cases ru;obtain⟨z,its,n,r,hl,e⟩:=I.Fz hH;obtain⟨z2,its2,n2,r2,hl2,e2⟩:=I.Fz hB;have hsz:its.toArray.size+its2.toArray.size<=sizeLine:=by rw[size_toArray,size_toArray];omega
 have B7:¬ (!its.toArray.isEmpty&&Builtin.List.listTooLong (its.toArray.size+its2.toArray.size))=true:=by rw[vd hsz,Bool.and_false];exact Bool.false_ne_true
 refine call_meets F.slot_list_extend ⟨_,e,rfl⟩ F.entry_list_extend (F.args_list_extend_2 _ _)
  (AutoSeq1.list_extend_list_list_0 l its.toArray n b its2.toArray n2 B7 (by rw[size_toArray];omega) (by omega)) ⟨e,e2,?_⟩
 refine⟨.non,_,I.Kv (its':=its++its2) hH e (by simp) (r.append r2) ?_,rfl,q⟩;rw[length_append];omega
end
section
variable {prog:Program} {w:World} {A:Around} {E:Value->Shared->Prop} {s:Shared}
end
section
variable {X:Cx}
end
end L2
namespace L2
open PySem PySem.Spec PyProof.Rows
section
variable {κ:Type} [DecidableEq κ]
noncomputable def iE(kvs:List (κ × V))(k:κ):Option V:=(kvs.find? λkv=>decide (kv.1=k)).map (·.2)
noncomputable def putK(kvs:List (κ × V))(k:κ)(v:V):List (κ × V) :=
 if (kvs.any λkv=>decide (kv.1=k))=true then kvs.map (λkv=>if kv.1=k then (kv.1,v) else kv) else kvs++[(k,v)]
theorem pO{p:κ × V}{r:List (κ × V)}{k:κ}(e:p.1=k):iE (p::r) k=some p.2:=by simp[iE,find?_cons,e]
theorem pP{p:κ × V}{r:List (κ × V)}{k:κ}(e:¬ p.1=k):iE (p::r) k=iE r k:=by simp[iE,find?_cons,e]
theorem ve(k:κ):∀kvs:List (κ × V),(kvs.any λkv=>decide (kv.1=k))=(iE kvs k).isSome
 | []=>rfl
 | p::r=>by
  rw[any_cons]
  by_cases e:p.1=k
  ·simp only[pO e,decide_eq_true e,Bool.true_or,Option.isSome_some]
  ·rw[pP e,decide_eq_false e,Bool.false_or];exact ve k r
theorem jT(kvs:List (κ × V))(k:κ)(v:V):(putK kvs k v).length<=kvs.length+1:=by
 unfold putK
 split
 ·rw[length_map];omega
 ·rw[length_append,length_cons,length_nil];omega
theorem jO.iS(r:jO o u):o.isSome=u.isSome:=by
 cases o with
 | none=>cases u with
  | none=>rfl
  | some _=>exact(show False from r).elim
 | some _=>cases u with
  | none=>exact(show False from r).elim
  | some _=>rfl
theorem jO.getD(r:jO o u)(rd:RelV d d'):RelV (o.getD d) (u.getD d'):=by
 cases o with
 | none=>cases u with
  | none=>exact rd
  | some _=>exact(show False from r).elim
 | some _=>cases u with
  | none=>exact(show False from r).elim
  | some _=>exact r
theorem KV.val(r:KV kvs vs)(k:κ):jO (iE kvs k) (valueAt vs k):=by
 unfold KV at r
 induction r with
 | nil=>exact True.intro
 | @cons p q ps qs h t ih =>
  obtain⟨h1,h2⟩:=h
  by_cases e:p.1=k
  ·have e':q.1=k:=h1.symm.trans e
   have b:valueAt (q::qs) k=some q.2:=by simp[valueAt,find?_cons,e']
   rw[pO e,b];exact h2
  ·have e':¬ q.1=k:=λz=>e (h1.trans z)
   have b:valueAt (q::qs) k=valueAt qs k:=by simp[valueAt,find?_cons,e']
   rw[pP e,b];exact ih
theorem KV.any(r:KV kvs vs)(k:κ):(kvs.any λkv=>decide (kv.1=k))=vs.any λkv=>decide (kv.1=k):=by
 unfold KV at r
 induction r with
 | nil=>rfl
 | cons h t ih=>rw[any_cons,any_cons,ih,h.1]
theorem KV.repl(r:KV kvs vs)(k:κ)(ry:RelV y u) :
  KV (kvs.map λkv=>if kv.1=k then (kv.1,y) else kv) (vs.map λkv=>if kv.1=k then (kv.1,u) else kv):=by
 unfold KV at r |-
 induction r with
 | nil=>exact .nil
 | @cons p q ps qs h t ih =>
  rw[map_cons,map_cons];refine .cons ?_ ih;obtain⟨h1,h2⟩:=h
  by_cases e:p.1=k
  ·rw[if_pos e,if_pos (h1.symm.trans e)];exact⟨h1,ry⟩
  ·rw[if_neg e,if_neg (λz=>e (h1.trans z))];exact⟨h1,h2⟩
theorem KV.put(r:KV kvs vs)(k:κ)(ry:RelV y u):KV (putK kvs k y) (stored vs k u):=by
 unfold putK stored;rw[r.any k]
 by_cases e:(vs.any λkv=>decide (kv.1=k))=true
 ·rw[if_pos e,if_pos e];exact r.repl k ry
 ·rw[if_neg e,if_neg e];exact Paired.snoc r ⟨rfl,ry⟩
theorem KV.length(r:KV kvs vs):kvs.length=vs.length:=Paired.length r
end
theorem pQ(r:RelV (kV k) u):(aY P w).is k u=true:=by
 cases k with
 | inl i=>obtain⟨t,e⟩:=(show ∃t,u=Value.int i t from r);subst e;exact uU P w i t
 | inr x=>obtain⟨t,e⟩:=(show ∃t,u=Value.str x t from r);subst e;exact uV P w x t
theorem rX:∀{ks:List Key} {us:List Value},Vals (ks.map kV) us->ItemsAre (aY P w) ks us
 | [],_,r=>by rw[map_nil] at r;cases r;exact .nil
 | k::ks,_,r=>by
  rw[map_cons] at r;cases r with
  | cons h t=>exact .cons (pQ h) (rX t)
noncomputable abbrev KT(H:Hp):List (List Key×V)->List (List Key×Addr×Value)->Prop:=Paired λp q=>p.1=q.1/\H q.2.1=some (.tup (p.1.map kV))/\RelV p.2 q.2.2
theorem KT.val(r:KT H kvs xs)(k:List Key):jO (iE kvs k) ((atKey xs k).map (·.2)):=by
 induction r with
 | nil=>exact True.intro
 | @cons p q ps qs h t ih =>
  obtain⟨h1,_,h2⟩:=h
  by_cases e:p.1=k
  ·have e':q.1=k:=h1.symm.trans e
   have b:atKey (q::qs) k=some q.2:=by simp[atKey,find?_cons,e']
   rw[pO e,b];exact h2
  ·have e':¬ q.1=k:=λz=>e (h1.trans z)
   have b:atKey (q::qs) k=atKey qs k:=by simp[atKey,find?_cons,e']
   rw[pP e,b];exact ih
theorem KT.repl(r:KT H kvs xs)(k:List Key)(ry:RelV y u) :
  KT H (kvs.map λkv=>if kv.1=k then (kv.1,y) else kv) (xs.map (putAt k u)):=by
 induction r with
 | nil=>exact .nil
 | @cons p q ps qs h t ih =>
  rw[map_cons,map_cons];refine .cons ?_ ih;obtain⟨h1,h2,h3⟩:=h;unfold putAt
  by_cases e:p.1=k
  ·rw[if_pos e,if_pos (h1.symm.trans e)];exact⟨h1,h2,ry⟩
  ·rw[if_neg e,if_neg (λz=>e (h1.trans z))];exact⟨h1,h2,h3⟩
theorem KT.put(r:KT H kvs xs)(k:List Key)(hb:H b=some (.tup (k.map kV)))(ry:RelV y u) :
  KT H (putK kvs k y) (storedH xs k b u):=by
 have e:(kvs.any λkv=>decide (kv.1=k))=(atKey xs k).isSome:=by rw[ve,(r.val k).iS,isSome_map]
 unfold putK storedH;rw[e]
 by_cases q:(atKey xs k).isSome=true
 ·rw[if_pos q,if_pos q];exact r.repl k ry
 ·rw[if_neg q,if_neg q];exact Paired.snoc r ⟨rfl,hb,ry⟩
theorem KT.keeps(r:KT H kvs xs)(ht:∀b ys,H b=some (.tup ys)->H' b=some (.tup ys)):KT H' kvs xs :=
 Paired.JK r λ_ _ z=>⟨z.1,ht _ _ z.2.1,z.2.2⟩
section
variable {P:Program} {w:World} {H:Hp} {h:Heap} {a:Addr}
theorem IG(ok:lC P w H h)(e:Rd H a u):bY P w H h a u:=e.ok ok
theorem oh(ok:lC P w H h)(e:Rd H a (.dK kvs)):kvs.length<=sizeLine/\(a==sysModules)=false/\∃vs,KV kvs vs/\h.DictOf (aY P w) a vs :=
 show bY P w H h a (.dK kvs) from IG ok e
theorem yV(ok:lC P w H h)(e:H a=some (.dK kvs)):kvs.length<=sizeLine/\(a==sysModules)=false/\∃vs,KV kvs vs/\h.DictOf (aY P w) a vs:=oh ok (.inl e)
theorem nk(ok:lC P w H h)(e:H a=some (.tup (ks.map kV))):(tupleKind (aY P w)).is h ks a:=by
 obtain⟨_,its,r,o,h1,h2,n,h3⟩:=(show bY P w H h a (.tup (ks.map kV)) from ok a _ e);exact⟨o,its.toArray,n,h1,h2,h3,by simpa using rX r⟩
theorem pR(ok:lC P w H h)(e:Rd H a (.dT kvs)):kvs.length<=sizeLine/\(a==sysModules)=false /\
  ∃xs,KT H kvs xs/\h.DictOfH (tupleKind (aY P w)) a xs:=by
 obtain⟨z,y,xs,r,o,es,ep,h1,h2,h3,h4,h5⟩:=(show bY P w H h a (.dT kvs) from IG ok e);refine⟨z,y,xs,r,o,es,ep,h1,h2,h3,h4,λx hx=>?_,h5⟩;have all:∀{l:List (List Key×V)} {m:List (List Key×Addr×Value)},KT H l m->∀x∈m,(tupleKind (aY P w)).is h x.1 x.2.1:=by
  intro l m q
  induction q with
  | nil=>intro x hx;exact nomatch hx
  | @cons p q ps qs hq t ih =>
   intro x hx
   rcases mem_cons.mp hx with e|hx
   ·subst e;exact nk ok (by rw[<-hq.1];exact hq.2.1)
   ·exact ih x hx
 exact all r x hx
theorem N4(ok:lC P w H h)(e:H a=some (.dT kvs)):kvs.length<=sizeLine/\(a==sysModules)=false /\
  ∃xs,KT H kvs xs/\h.DictOfH (tupleKind (aY P w)) a xs:=pR ok (.inl e)
end
noncomputable def kQ(H:Hp)(a:Addr)(y:V)(r:Option V):Prop :=
 (∃kvs k,Rd H a (.dK kvs)/\y=kV k/\r=iE kvs k)\/∃kvs k b,Rd H a (.dT kvs)/\y=.ref b/\H b=some (.tup (k.map kV))/\r=iE kvs k
noncomputable def FE(H:Hp)(a:Addr)(y v:V)(H':Hp):Prop :=
 (∃kvs k,H a=some (.dK kvs)/\y=kV k/\kvs.length<sizeLine/\H'=upd H a (.dK (putK kvs k v))) \/
 ∃kvs k b,H a=some (.dT kvs)/\y=.ref b/\H b=some (.tup (k.map kV))/\kvs.length<sizeLine/\H'=upd H a (.dT (putK kvs k v))
theorem kQ.k{H:Hp}{a:Addr}{kvs:List (Key×V)}{k:Key}(e:H a=some (.dK kvs)):kQ H a (kV k) (iE kvs k):=.inl ⟨kvs,k,.inl e,rfl,rfl⟩
theorem FE.k{H:Hp}{a:Addr}{kvs:List (Key×V)}{k:Key}{v:V}(e:H a=some (.dK kvs))(hl:kvs.length<sizeLine):FE H a (kV k) v (upd H a (.dK (putK kvs k v))):=.inl ⟨kvs,k,e,rfl,hl,rfl⟩
section
variable {X:Cx} {pins:List (Addr×Obj)} {σ:St} {H:Hp} {s:Shared} {a:Addr} {y v:V} {u r:Value} {o:Option V} {A:Around} {E:Value->Shared->Prop}
theorem Inv.big(I:Inv X pins σ H s):sysModules<s.heap.objs.size:=by
 have h:mainGlobals<s.heap.objs.size:=(I.mod.glob.keeps I.bk).lt;exact lt_trans (by decide) h
theorem Av(hu:A.units+1<cLine)(I:Inv X pins σ H s)(g:kQ H a y (some v))(ry:RelV y u)(h:∀w' s',Inv X pins σ H s'->RelV v w'->Q w' s') :
  wpAny (model X.prog X.w) A (getItem (.ref a) u) Q E s:=by
 rcases g with ⟨kvs,k,e,ey,l⟩|⟨kvs,k,b,e,ey,eb,l⟩
 ·subst ey;obtain⟨z,hd,vs,rel,dd⟩:=oh I.hok e;obtain⟨w',hw,rw'⟩:=jO.some_of (v:=v) (o:=valueAt vs k) (by rw[l];exact rel.val k);exact wpAny_getItem_of (pQ ry) dd.mapOf hw (h w' _ (I.tok _) rw')
 ·subst ey;cases (show u=Value.ref b from ry);obtain⟨z,hd,xs,rel,dd⟩:=pR I.hok e;obtain⟨w',hw,rw'⟩:=jO.some_of (v:=v) (o:=(atKey xs k).map (·.2)) (by rw[l];exact rel.val k);obtain⟨p,hp,hp2⟩:=map_eq_some_iff.mp hw;refine wpAny_getItem_heap (tupleKind_room_in1 hu) (nk I.hok eb) dd hp ?_;rw[hp2];exact h w' _ (I.tok _) rw'
theorem Sf(hu:A.units+1<cLine)(I:Inv X pins σ H s)(g:kQ H a y o)(ry:RelV y u)(h:∀s',Inv X pins σ H s'->Q (.bool o.isSome) s') :
  wpAny (model X.prog X.w) A (compareOp .In u (.ref a)) Q E s:=by
 rcases g with ⟨kvs,k,e,ey,l⟩|⟨kvs,k,b,e,ey,eb,l⟩
 ·subst ey;obtain⟨z,hd,vs,rel,dd⟩:=oh I.hok e;refine wpAny_in_of (pQ ry) hd dd.mapOf ?_;rw[<-(rel.val k).iS,<-l];exact h _ (I.tok _)
 ·subst ey;cases (show u=Value.ref b from ry);obtain⟨z,hd,xs,rel,dd⟩:=pR I.hok e;refine wpAny_in_heap (tupleKind_room_in1 hu) (nk I.hok eb) hd dd ?_;have q:=(rel.val k).iS;rw[isSome_map] at q;rw[<-q,<-l];exact h _ (I.tok _)
theorem FF(hu:A.units+1<cLine)(I:Inv X pins σ H s)(g:kQ H a y o)(ry:RelV y u)(h:∀s',Inv X pins σ H s'->Q (.bool (!o.isSome)) s') :
  wpAny (model X.prog X.w) A (compareOp .NotIn u (.ref a)) Q E s:=by
 rcases g with ⟨kvs,k,e,ey,l⟩|⟨kvs,k,b,e,ey,eb,l⟩
 ·subst ey;obtain⟨z,hd,vs,rel,dd⟩:=oh I.hok e;refine wpAny_notIn_of (pQ ry) hd dd.mapOf ?_;rw[<-(rel.val k).iS,<-l];exact h _ (I.tok _)
 ·subst ey;cases (show u=Value.ref b from ry);obtain⟨z,hd,xs,rel,dd⟩:=pR I.hok e;refine wpAny_notIn_heap (tupleKind_room_in1 hu) (nk I.hok eb) hd dd ?_;have q:=(rel.val k).iS;rw[isSome_map] at q;rw[<-q,<-l];exact h _ (I.tok _)
theorem tU{t':Nat}(I:Inv X pins σ H s)(mu:Nj (H a))(hs:Heap.SameBut a s.heap h')(he:∃q,h'.get? a=some q)(new:bY X.prog X.w (upd H a ob) h' a ob) :
  Inv X pins σ (upd H a ob) { s with heap:=h',toks:=t' } :=
 I.write (x:=a) (e:=a) mu (.inl rfl) (λb q hb z=>(hs.2 b hb).trans z) he new
theorem B8(z:kvs.length<=sizeLine)(hd:(a==sysModules)=false)(rel:KV kvs vs)(dd:h'.DictOf (aY P w) a vs) :
  bY P w H' h' a (.dK kvs):=⟨z,hd,vs,rel,dd⟩
theorem Aw(hu:A.units+1<cLine)(I:Inv X pins σ H s)(g:FE H a y v H')(ry:RelV y u)(rv:RelV v r)(h:∀s',Inv X pins σ H' s'->Q () s') :
  wpAny (model X.prog X.w) A (setItem (.ref a) u r) Q E s:=by
 rcases g with ⟨kvs,k,e,ey,l,eH⟩|⟨kvs,k,b,e,ey,eb,l,eH⟩
 ·subst ey eH
  obtain⟨z,hd,vs,rel,dd⟩:=yV I.hok e;have hz:vs.length<=sizeLine:=by rw[<-rel.length];exact z
  have hl:(putK kvs k v).length<=sizeLine:=by have:=jT kvs k v;omega
  refine wpAny_setItem_pairs (hsz:=hz) (pQ ry) dd λh' Kw hs=>h _ ?_;have he:∃q,h'.get? a=some q:=let ⟨q,_,_,hq,_⟩:=Kw;⟨q,hq⟩
  exact tU I (by rw[e];exact True.intro) hs he (B8 hl hd (rel.put k rv) Kw)
 ·subst ey eH
  cases (show u=Value.ref b from ry);obtain⟨z,hd,xs,rel,dd⟩:=N4 I.hok e;have hz:xs.length<=sizeLine:=by rw[<-Paired.length rel];exact z
  have hl:(putK kvs k v).length<=sizeLine:=by have:=jT kvs k v;omega
  refine wpAny_setItem_heap (hsz:=hz) (tupleKind_room_in1 hu) (nk I.hok eb) dd λh' Kw hs=>h _ ?_;obtain⟨q,es,ep,hq,h2,h3,h4,_,h5⟩:=Kw;refine tU I (by rw[e];exact True.intro) hs ⟨q,hq⟩ ⟨hl,hd,_,(rel.put k eb rv).keeps λc ys ec=>?_,q,es,ep,hq,h2,h3,h4,h5⟩;rw[aA (Ni ec e (λz=>nomatch z))];exact ec
end
section
variable {X:Cx} {pins:List (Addr×Obj)} {σ:St} {H:Hp} {s:Shared} {a:Addr} {kvs:List (Key×V)} {k:Key} {u:Value} {A:Around} {E:Value->Shared->Prop}
theorem N5(I:Inv X pins σ H s)(e:Rd H a (.dK kvs))(h:∀t s',Inv X pins σ H s'->Q (.int kvs.length t) s'):wpAny (model X.prog X.w) A (call (.builtin "len") [.ref a]) Q E s:=by
 obtain⟨z,hd,vs,rel,dd⟩:=oh I.hok e;refine call_len_dict hd dd (by rw[<-rel.length];rw[sizeLine_eq] at z;omega) ?_;rw[<-rel.length];exact h _ _ (I.tok _)
end
theorem vf(I:Inv X pins σ H s)(g:kQ H a y o):s.TypeIs (.ref a) "dict":=by
 rcases g with ⟨kvs,k,e,_,_⟩|⟨kvs,k,b,e,_,_,_⟩
 ·obtain⟨_,_,vs,_,dd⟩:=oh I.hok e;exact dd.typeIs
 ·obtain⟨_,_,xs,_,dd⟩:=pR I.hok e;exact dd.typeIs
section
variable {X:Cx} {o i e value:Expr} {pos pos' tpos:Pos} {td ty tv:TE}
end
theorem vg(h:Heap)(hb:sysModules<h.objs.size):bY P w H (h.push { cls:=.type "dict",data:=.dict #[] }) h.objs.size (.dK []) :=
 ⟨zero_le _,beq_eq_false_iff_ne.mpr (Ne.symm (ne_of_lt hb)),[],.nil,Heap.DictOf.new h⟩
noncomputable def Ky:TE:=λ_ H Q=>∀p,H p=none->Q (.ref p) (upd H p (.dK []))
section
variable {X:Cx} {pos:Pos}
theorem B9:PE X (.Dict [] [] pos) Ky:=λpins s σ H Q I h =>
 wpAny_Dict_empty ⟨.ref s.heap.objs.size,_,I.laid (a:=s.heap.objs.size) (o:=.dK []) (t':=s.toks) (λ_ _ q=>get?_push_of_some _ q) (Nat.le_refl _) (vg s.heap I.big),rfl,h _ (I.hok.fresh (Nat.le_refl _))⟩
end
noncomputable def xY:List (TE×TE)->St->Hp->(List (V×V)->Hp->Prop)->Prop
 | [],_,H,Q=>Q [] H
 | (tk,tv)::r,σ,H,Q=>tk σ H λx H1=>tv σ H1 λy H2=>xY r σ H2 λps H3=>Q ((x,y)::ps) H3
noncomputable abbrev VV:List (V×V)->List (Value×Value)->Prop:=Paired λp q=>RelV p.1 q.1/\RelV p.2 q.2
noncomputable def QX(X:Cx)(pos:Pos)(keys:List (Option Expr))(values:List Expr)(Kz:List (TE×TE)):Prop :=
 ∀(pins:List (Addr×Obj)) (s:Shared) (σ:St) (H:Hp) (Q:List (V×V)->Hp->Prop),Inv X pins σ H s->xY Kz σ H Q ->
  wpAny (model X.prog X.w) X.A (evalPairs (pairTrees keys values X.env pos)) (λvs s'=>∃ps H',Inv X pins σ H' s'/\VV ps vs/\Q ps H') X.xe s
theorem FG:QX X pos [] [] []:=λpins s σ H Q I h=>pairTrees_nil_walk ⟨[],H,I,.nil,h⟩
theorem Ca(hk:PE X k tk)(hv:PE X v tv)(hr:QX X pos ks vs Kz) :
  QX X pos (some k::ks) (v::vs) ((tk,tv)::Kz):=λpins s σ H Q I h =>
 pairTrees_cons_walk (cz (hk pins s σ H _ I h) λu s1 ⟨x,H1,I1,rx,q1⟩=>cz (hv pins s1 σ H1 _ I1 q1) λw2 s2 ⟨y,H2,I2,ry,q2⟩ =>
  cz (hr pins s2 σ H2 _ I2 q2) λws s3 ⟨ps,H3,I3,rel,q3⟩=>⟨(x,y)::ps,H3,I3,.cons ⟨rx,ry⟩ rel,q3⟩)
noncomputable def nq(kvs more:List (Key×V)):List (Key×V):=more.foldl (λacc kv=>putK acc kv.1 kv.2) kvs
theorem KV.merge:∀{more:List (Key×V)} {rs:List (Key×Value)} {kvs:List (Key×V)} {vs:List (Key×Value)},KV more rs->KV kvs vs->KV (nq kvs more) (merged vs rs):=by
 intro more rs kvs vs r;unfold KV at r
 induction r generalizing kvs vs with
 | nil=>intro q;exact q
 | @cons p q ps qs h t ih =>
  intro r0;have e:KV (putK kvs p.1 p.2) (stored vs q.1 q.2):=by have:=r0.put p.1 h.2;rw[<-h.1];exact this
  exact ih e
theorem kZ:∀(more kvs:List (Key×V)),(nq kvs more).length<=kvs.length+more.length
 | [],kvs=>by show kvs.length<=kvs.length+0;omega
 | p::r,kvs=>by
  have h1:=kZ r (putK kvs p.1 p.2);have h2:=jT kvs p.1 p.2;show (nq (putK kvs p.1 p.2) r).length<=_;rw[length_cons];omega
theorem pS:∀{kvs:List (Key×V)} {ws:List (Value×Value)},VV (kvs.map λkv=>(kV kv.1,kv.2)) ws->∃rs,Carries (aY P w) ws rs/\KV kvs rs
 | [],_,r=>by rw[map_nil] at r;cases r;exact⟨[],True.intro,.nil⟩
 | p::kvs,_,r=>by
  rw[map_cons] at r;cases r with
  | @cons a b as bs h t =>obtain⟨rs,c,q⟩:=pS (P:=P) (w:=w) t;obtain⟨b1,b2⟩:=b;exact⟨(p.1,b2)::rs,⟨pQ h.1,rfl,c⟩,.cons ⟨rfl,h.2⟩ q⟩
noncomputable def N6(Kz:List (TE×TE)):TE:=λσ H Q=>∀p,H p=none->xY Kz σ (upd H p (.dK [])) λps H2=>H2 p=some (.dK [])/\∃kvs:List (Key×V),ps=kvs.map (λkv=>(kV kv.1,kv.2))/\kvs.length<=15/\Q (.ref p) (upd H2 p (.dK (nq [] kvs)))
theorem FH(h:QX X pos keys values Kz)(hall:keys.all (·.isSome)=true)(hl:keys.length=values.length)(h0:keys≠[])
  (X0:keys.length<=15):PE X (.Dict keys values pos) (N6 Kz):=by
 intro pins s σ H Q I q;have hn:=I.hok.fresh (Nat.le_refl s.heap.objs.size);have I1:=I.laid (a:=s.heap.objs.size) (o:=.dK []) (h':=s.heap.push { cls:=.type "dict",data:=.dict #[] }) (t':=s.toks) (λ_ _ q=>get?_push_of_some _ q) (Nat.le_refl _) (vg s.heap I.big);refine wpAny_Dict_walk (knd:=aY X.prog X.w) hall hl h0 X0 (cz (h pins _ σ _ _ I1 (q _ hn)) λws s2 aJ=>?_);obtain⟨ps,H2,I2,rel,e,kvs,ep,lk,q2⟩:=aJ;subst ep;obtain⟨rs,c,rk⟩:=pS (P:=X.prog) (w:=X.w) rel;obtain⟨z,hd,vs0,r0,dd⟩:=yV I2.hok e;cases r0;refine⟨rs,c,dd,λh' Kw hs=>⟨.ref s.heap.objs.size,_,?_,rfl,q2⟩⟩;have hz:(nq [] kvs).length<=sizeLine:=by have h1:=kZ kvs [];rw[length_nil] at h1;rw[sizeLine_eq];omega
 have he:∃q,h'.get? s.heap.objs.size=some q:=let ⟨q,_,_,hq,_⟩:=Kw;⟨q,hq⟩
 exact tU I2 (by rw[e];exact True.intro) hs he (B8 hz hd (rk.merge .nil) Kw)
structure M2 (X:Cx) (o:Expr) (m:Str) (apos:Pos) (e f:Expr) (cpos:Pos):Prop where
 base:attributeBase o m X.env (eval o X.env)=eval o X.env
 few:((backTo cpos (starEach [e,f] X.env)).all (λx=>!x.1)&&(backToKw cpos (keywordEach [] X.env)).all (λx=>x.1.isSome)
  && decide (([e,f]:List Expr).length+([]:List Keyword).length+(if ([]:List Keyword).isEmpty then 0 else 1)<30))=true
 line:(apos.endLine==cpos.line)=true
 trees:backTo cpos (starEach [e,f] X.env)=[(false,eval e X.env),(false,eval f X.env)]
noncomputable def Wj(H:Hp)(a:Addr):Prop:=(∃kvs,Rd H a (.dK kvs))\/∃kvs,Rd H a (.dT kvs)
theorem xZ(I:Inv X pins σ H s)(d:Wj H a) :
  s.TypeIs (.ref a) "dict" /\ (∀b,Value.ref a=.ref b->∃ob,s.heap.get? b=some ob/\ob.dict=none)/\(a==sysModules)=false:=by
 rcases d with ⟨kvs,e⟩|⟨kvs,e⟩
 ·obtain⟨_,hd,vs,_,dd⟩:=oh I.hok e;refine⟨dd.typeIs,λb q=>?_,hd⟩;cases q;obtain⟨ob,_,_,h1,h2,_⟩:=dd;exact⟨ob,h1,h2.2.1⟩
 ·obtain⟨_,hd,xs,_,dd⟩:=pR I.hok e;refine⟨dd.typeIs,λb q=>?_,hd⟩;cases q;obtain⟨ob,_,_,h1,h2,_⟩:=dd;exact⟨ob,h1,h2.2.1⟩
section
variable {X:Cx} {pins:List (Addr×Obj)} {σ:St} {H:Hp} {s:Shared} {a:Addr} {y d:V} {u r:Value} {o:Option V} {A:Around} {E:Value->Shared->Prop}
theorem KA(hu:A.units+1<cLine)(I:Inv X pins σ H s)(g:kQ H a y o)(ry:RelV y u)(rd:RelV d r)(h:∀w' s',Inv X pins σ H s'->RelV (o.getD d) w'->Q w' s') :
  wpAny (model X.prog X.w) A (call (.builtin "dict.get") [.ref a,u,r]) Q E s:=by
 rcases g with ⟨kvs,k,e,ey,l⟩|⟨kvs,k,b,e,ey,eb,l⟩
 ·subst ey;obtain⟨z,hd,vs,rel,dd⟩:=oh I.hok e;refine call_meetsIn PySem.F.slot_dict_get dd.typeIs PySem.F.entry_dict_get (PySem.F.args_dict_get_3 _ _ _) (meets_dict_get_default (aY X.prog X.w) a (pQ ry) hd r) ⟨_,dd.mapOf,h _ _ (I.tok _) ?_⟩;rw[l];exact(rel.val k).getD rd
 ·subst ey;cases (show u=Value.ref b from ry);obtain⟨z,hd,xs,rel,dd⟩:=pR I.hok e;refine call_meetsIn PySem.F.slot_dict_get dd.typeIs PySem.F.entry_dict_get (PySem.F.args_dict_get_3 _ _ _) (meetsH_dict_get_default (tupleKind (aY X.prog X.w)) a b hd r) ⟨tupleKind_room_in1 hu,k,xs,nk I.hok eb,dd,h _ _ (I.tok _) ?_⟩;rw[l];exact(rel.val k).getD rd
end
noncomputable def KC(td ty tx:TE):TE:=λσ H Q=>td σ H λx H1=>∃a,x=.ref a/\Wj H1 a/\ty σ H1 λy H2=>tx σ H2 λz H3=>∃o,kQ H3 a y o/\Q (o.getD z) H3
section
variable {X:Cx} {o e f:Expr} {apos cpos:Pos} {td ty tx:TE}
theorem Cb(hu:X.A.units+1<cLine)(ho:PE X o td)(he:PE X e ty)(hf:PE X f tx)(m:M2 X o "get" apos e f cpos):PE X (.Call (.Attribute o "get" apos) [e,f] [] cpos) (KC td ty tx):=by
 intro pins s σ H Q I h;refine wpAny_Call_method m.base m.few m.line PySem.F.plainAttrs_dict PySem.F.slot_dict_get PySem.F.type_dict_get (cz (ho pins s σ H _ I h) λu s1 aJ=>?_);obtain⟨x,H1,I1,rx,a,ex,d,q1⟩:=aJ;subst ex;obtain rfl:u=Value.ref a:=rx;obtain⟨t1,t2,_⟩:=xZ I1 d;refine⟨t1,t2,?_⟩;rw[m.trees];refine Calls.callWith_builtin rfl (Calls.evalArgs_plain (Calls.spliced_cons (cz (he pins s1 σ H1 _ I1 q1) λiv s2 ⟨y,H2,I2,ry,q2⟩ =>
  Calls.spliced_cons (cz (hf pins s2 σ H2 _ I2 q2) λfv s3 ⟨z,H3,I3,rz,ov,g,q3⟩=>Calls.spliced_nil ?_))))
 exact KA hu I3 g ry rz λw' s4 I4 rw'=>⟨_,H3,I4,rw',q3⟩
end
section
variable {X:Cx} {pins:List (Addr×Obj)} {σ:St} {H:Hp} {s:Shared} {a:Addr} {kvs:List (Key×V)} {A:Around} {E:Value->Shared->Prop}
end
section
variable {X:Cx} {pins:List (Addr×Obj)} {σ:St} {H:Hp} {s:Shared} {a:Addr} {y:V} {u:Value} {A:Around} {E:Value->Shared->Prop}
end
end L2
namespace Wk
open PySem PySem.W PySem.Calls PyProof.Rows
theorem oV:∀(ns:List Int) (vs:List Value),WellAll P h vs (ns.map WData.int)->IntsAre vs ns:=by
 intro ns
 induction ns with
 | nil =>intro vs w;rw[map_nil] at w;cases w;exact .nil
 | cons n ns ih =>
  intro vs w;rw[map_cons] at w;cases w with
  | cons a b =>cases a;exact .cons _ _ (ih _ b)
theorem Ax{l:OpenLaw}{n:Nat}(hn:l.most=some n){P:Params}{h:Heap}{args:List WData}{vals:List Value}
  (hpre:l.row.toRowW.claim.pre args=true) (hwl:WellAll P h vals args) :
  ∃a vs ns,vals=[Value.ref a]/\args=[WData.list (ns.map WData.int)]/\h.get? a=some { cls:=.type "list",data:=.seq vs.toArray }/\IntsAre vs ns/\ns.length<=n:=by
 have hsh:WShape.hasAll [] args [.list .int]=true:=(pre_splitW hpre).1;have hc:l.pre.holds [] { args:=args }=true:=(pre_splitW hpre).2;obtain⟨d,r,rfl,h1,h2⟩:=hasAllW_cons hsh;obtain rfl:=hasAllW_nil h2;obtain⟨xs,rfl,h3⟩:=hasW_list h1;obtain⟨ns,rfl⟩:=items_int h3;have hlen:ns.length<=n:=by
  unfold OpenLaw.pre at hc;have h4:(WTm.not (.lt (.lit (.int (n:Int))) (.len (.arg 0)))).holds [] { args:=[.list (ns.map .int)] }=true:=by have h4:=(holds_andW hc).1;rw[hn] at h4;exact h4
  have h5:=condW_of h4 (w_not (w_lt w_lit (w_len_list (w_arg rfl))));rw[length_map] at h5;refine Nat.le_of_not_lt λq=>?_;have q':(n:Int)<((ns.length:Nat):Int):=by omega
  first
   | (rw[decide_eq_true q'] at h5;exact absurd h5 (by decide))
   | (simp at h5;omega)
 cases hwl with
 | cons w1 w2 =>
  cases w2;cases w1 with
  | list ho hall=>exact⟨_,_,ns,rfl,rfl,ho,oV ns _ hall,hlen⟩
theorem Ay(l:OpenLaw)(args:List WData):l.row.toRowW.claim.post args (.bool true) args=true :=
 postW_of (r:=l.row.toRowW) (X:=(true==true))
  (show WShape.has [] (.bool true) .bool=true by first|rfl|decide|simp[WShape.has,WShape.arms,WShape.armsAll])
  (show (WTm.eq .res (.lit (.bool true))).value [] { args:=args,res:=some (.bool true),after:=args }=some (.bool (true==true)) from w_eq_bool (w_res rfl) w_lit) rfl
theorem vh{l:OpenLaw}{n:Nat}{q:Program}{loose:List Str}{XP:(Str->Option Value)->Heap->Prop}{YP:World->Heap->Prop}{d:DefRec}
  (hn:l.most=some n) (hdf:d.params.defaults=[])
  (call:∀(w:World) (s₀ s₁:Shared) (mg mb:Str->Option Value) (fa:Addr) (o:Obj) (pm cd doc:Value) (a:Addr) (vs:List Value) (ns:List Int),
   Ground q loose [] XP w s₀ mg mb s₁.heap->YP w s₁.heap ->
   s₁.heap.get? fa=some o->o.data=.func (docDef d.name d.params d.body d.scope pm cd doc)->s₁.heap.CodeRec cd d.name->mg d.name=some (.ref fa) ->
   s₁.heap.get? a=some { cls:=.type "list",data:=.seq vs.toArray }->IntsAre vs ns->ns.length<=n->s₁.gens = #[] ->
   codeAny (model l.prog w) callerA (.call (.ref fa) ⟨[.ref a],[]⟩) (λr s'=>r=.ok (.ret (.bool true))/\OldK s₁.heap s'.heap/\s'.os=s₁.os/\AllBare s'.gens) s₁) :
  WalkO q loose XP YP l.row.toRowW d [] (λf vs=>PySem.call f vs):=by
 intro w s₀ s₁ mg mb G Y fa o pm cd doc dV kV ho hd hcd hD hmg hg args vals as hpre hlay hrd hwl hlo;obtain rfl:dV=.none:=Dflts.none hD hdf;obtain rfl:kV=.none:=Dflts.noKw hD;obtain⟨a,vs,ns,rfl,rfl,hobj,hints,hlen⟩:=Ax hn hpre hwl;refine enter_call (codeAny_mono (call w s₀ s₁ mg mb fa o pm cd doc a vs ns G Y ho (fd_plain hd) hcd hmg hobj hints hlen hg) λr s' hq=>?_);obtain⟨rfl,h2,h3,h4⟩:=hq;exact⟨.inl ⟨.bool true,.bool true,[],rfl,λ_=>rfl,.bool true,Ay l _,λ_=>⟨List.Pairwise.nil,λ_ hm=>(nomatch hm)⟩⟩,h2,h3,h4⟩
section
variable {prog:Program} {w:World} {A:Around} {E:Value->Shared->Prop} {s:Shared} {K:Frag}
noncomputable def ledger(h:Heap)(L d:Addr):List (Addr×Obj):=(List.range h.objs.size).filterMap λa=>if a=L\/a=d then none else (h.get? a).map λo=>(a,o)
end
end Wk
namespace L2
open PySem PySem.Spec PyProof.Rows
theorem iT:∀{vs:List Value} {ns:List Int},IntsAre vs ns->Vals (ns.map V.int) vs
 | _,_,.nil=>.nil
 | _,_,.cons n t h=>.cons ⟨t,rfl⟩ (iT h)
noncomputable def Cc(H:Hp):Prop:=∀b,H b=none\/∃o xs,H b=some (.rN o (.lst xs))
theorem Cd{P:Program}{w:World}{K:PySem.W.Frag}{mg mb:Str->Option Value}{CX:Aq}{k:Nat}{fa a:Addr}{fd:FuncData}{x:Str}{sp:Sp}{s₁:Shared}{vs:List Value}{ns:List Int}
  (KX:K.In s₁.heap) (hns:s₁.heap.Ns mainGlobals mg) (hb:s₁.heap.Ns builtinsNs mb) (X3:∀x:Str,x ≠ "__name__" -> mb x=bootBuiltins x) (hlim:s₁.heap.NoLimit) (hg:s₁.gens = #[])
  (ha:s₁.heap.get? a=some { cls:=.type "list",data:=.seq vs.toArray }) (hi:IntsAre vs ns) (hl:ns.length<=sizeLine) (hr:dP k callerA)
  (F:∀base:Heap,K.In base->base.Ns mainGlobals mg->fJ P w K mg base CX k fa fd [x] sp) (hbind:∀(s:Shared) (u:Value),BindsTo s fd ⟨[u],[]⟩ [(x,u)])
  (hsp:∀H:Hp,Cc H->gI K H a (ns.map V.int)->sp [.ref a] H (λv _=>v=.bl true) λ_ _ _=>False)
  (hCX:∀H e s',CX [] H s₁ (λ_ _ _=>False) e s'->False) :
  codeAny (model P w) callerA (.call (.ref fa) ⟨[.ref a],[]⟩) (λr s'=>r=.ok (.ret (.bool true))/\OldK s₁.heap s'.heap/\s'.os=s₁.os/\AllBare s'.gens) s₁:=by
 have rv:=iT hi;have Sg:=hi.length;have core:∀H:Hp,Cc H->gI K H a (ns.map V.int)->lC P w H s₁.heap->(∀b,H b≠none->b=a)->(H a≠none->K.lookup a=none) ->
   codeAny (model P w) callerA (.call (.ref fa) ⟨[.ref a],[]⟩) (λr s'=>r=.ok (.ret (.bool true))/\OldK s₁.heap s'.heap/\s'.os=s₁.os/\AllBare s'.gens) s₁:=by
  intro H hO hS hok hA hK;have base_of:∀{b:Addr} {o:Obj},s₁.heap.get? b=some o->H b=none->(tG s₁.heap H).get? b=some o:=λe n=>BF e n;have noA:∀{b:Addr} {o:Obj} {es:Array DictEntry} {ep:Nat},s₁.heap.get? b=some o->o.data=.dict es ep->H b=none:=λ{b o es ep} e d=>by
   cases q:H b with
   | none=>rfl
   | some u =>have e':b=a:=hA b (by rw[q];simp);subst e';rw[ha] at e;cases e;have d':Data.seq vs.toArray _=Data.dict es ep:=d;cases d'
  have nsK:∀{b:Addr} {m:Str->Option Value},s₁.heap.Ns b m->(tG s₁.heap H).Ns b m:=λ{b m} ⟨o,es,ep,e,d,r⟩=>⟨o,es,ep,base_of e (noA e d),d,r⟩;have Wl:K.In (tG s₁.heap H):=λb o e=>base_of (KX b o e) (by
   cases q:H b with
   | none=>rfl
   | some u =>have e':b=a:=hA b (by rw[q];simp);subst e';rw[hK (by rw[q];simp)] at e;cases e)
  have hM:Mod K mg (tG s₁.heap H):=⟨Wl,nsK hns,⟨mb,nsK hb,X3⟩,let ⟨mc,h1,h2⟩:=hlim;⟨mc,nsK h1,h2⟩⟩;have e0:xT P w K mg (tG s₁.heap H) callerA [] s₁ H:=⟨rfl,hM,λb o e=>EZ e,Nat.le_of_eq (Ad _ _),trivial,λb hb=>absurd (show b∈([]:List Addr) from hb) (by simp),hok,.of_eq hg⟩;refine codeAny_mono ((F _ Wl (nsK hns)).run callerA [] s₁ H ⟨[.ref a],[]⟩ [.ref a] [.ref a] _ _ hr e0 (hbind s₁ (.ref a)) (.cons rfl .nil) (hsp H hO hS)) λr s' h=>?_;cases r with
  | error e=>exact(hCX H e s' h).elim
  | ok fl =>
   cases fl with
   | next=>exact False.elim h
   | brk=>exact False.elim h
   | cont=>exact False.elim h
   | ret u =>
    obtain⟨v,H',os,bare,un,Sh,r',q⟩:=h;have q':v=.bl true:=q;subst q';obtain rfl:u=Value.bool true:=r';refine⟨rfl,OldK.of_keep λb o e=>?_,os,bare⟩;cases q:H b with
    | none=>exact un.keep b o e q (by intro z;exact absurd (show b∈([]:List Addr) from z) (by simp)) (by simp)
    | some u =>
     rcases hO b with z|⟨ob,xs,z⟩
     ·rw[q] at z;cases z
     ·have z2:=un.frzs b ob _ z;obtain⟨e1,_⟩:=hok b _ z;obtain⟨e2,_⟩:=Sh b _ z2;rw[e] at e1;cases e1;exact e2
 cases hk:K.lookup a with
 | some o =>have e:=KX a o hk;rw[ha] at e;cases e;refine core (λ_=>none) (λ_=>.inl rfl) (.inr ⟨_,vs.toArray,_,hk,rfl,rfl,rfl,by rw[size_toArray,Sg];exact hl,by simpa using rv⟩) (λb u z=>by have z':(none:Option HO)=some u:=z;cases z') (λb z=>absurd rfl z) λz=>absurd rfl z
 | none =>
  refine core (λb=>if b=a then some (.rN { cls:=.type "list",data:=.seq vs.toArray } (.lst (ns.map V.int))) else none) (λb=>?_) (.inl (.inr ⟨{ cls:=.type "list",data:=.seq vs.toArray },if_pos rfl⟩)) (λb u z=>?_) (λb z=>?_) λ_=>hk
  ·by_cases hb:b=a
   ·exact .inr ⟨_,_,if_pos hb⟩
   ·exact .inl (if_neg hb)
  ·by_cases hb:b=a
   ·have z':=(if_pos hb).symm.trans z;cases z';subst hb;exact⟨ha,by rw[length_map];exact hl,vs,_,rv,ha⟩
   ·have z':=(if_neg hb).symm.trans z;cases z'
  ·by_cases hb:b=a
   ·exact hb
   ·exact absurd (if_neg hb) z
end L2
namespace L2
open PySem PySem.Spec PyProof.Rows
theorem FI{l:PySem.W.OpenLaw}{n k:Nat}{q:Program}{loose:List Str}{XP:(Str->Option Value)->Heap->Prop}{YP:World->Heap->Prop}{d:DefRec}{K:Params->PySem.W.Frag}{CX:World->Aq}{sp:World->Sp}{x:Str}
  (hn:l.most=some n) (hn2:n<=sizeLine) (hdf:d.params.defaults=[]) (hr:dP k callerA)
  (hY:∀(w:World) (h:Heap),YP w h->(K w.params).In h)
  (F:∀(w:World) (mg:Str->Option Value) (fa:Addr) (h:Heap),(K w.params).In h->h.Ns mainGlobals mg->mg d.name=some (.ref fa) ->
   ∃fd:FuncData,(∀(s:Shared) (u:Value),BindsTo s fd ⟨[u],[]⟩ [(x,u)]) /\
    ∀base:Heap,(K w.params).In base->base.Ns mainGlobals mg->fJ l.prog w (K w.params) mg base (CX w) k fa fd [x] (sp w))
  (hsp:∀(w:World) (H:Hp) (a:Addr) (ns:List Int),ns.length<=n->Cc H->gI (K w.params) H a (ns.map V.int)->sp w [.ref a] H (λv _=>v=.bl true) λ_ _ _=>False)
  (hCX:∀(w:World) (H:Hp) (s:Shared) (e:Value) (s':Shared),CX w [] H s (λ_ _ _=>False) e s'->False) :
  PySem.W.WalkO q loose XP YP l.row.toRowW d [] (λf vs=>PySem.call f vs):=by
 refine Wk.vh hn hdf λw s₀ s₁ mg mb fa o pm cd doc a vs ns G Y ho hd hcd hmg hobj hints hlen hg=>?_;have KX:=hY w _ Y;obtain⟨fd,hb,hF⟩:=F w mg fa _ KX G.T.g hmg;exact Cd KX G.T.g G.T.b G.T.builtins G.T.nolimit hg hobj hints (le_trans hlen hn2) hr hF hb (λH hO hS=>hsp w H a ns hlen hO hS) λH e s'=>hCX w H s₁ e s'
end L2
namespace L2
open PySem PySem.Spec PyProof.Rows
noncomputable def aK(s:Stmt):Arguments:=match s with
 | .FunctionDef _ a _ _ _ _ _ _ _ _=>a
 | _=>{ posonlyargs:=[],args:=[],vararg:=none,kwonlyargs:=[],kw_defaults:=[],kwarg:=none,defaults:=[] }
noncomputable def ak(s:Stmt):List Stmt:=match s with
 | .FunctionDef _ _ b _ _ _ _ _ _ _=>b
 | _=>[]
noncomputable def aa(s:Stmt):Scope:=match s with
 | .FunctionDef _ _ _ _ _ _ sc _ _ _=>sc
 | _=>{ kind:=.function,names:=[],isGenerator:=false,isCoroutine:=false }
noncomputable abbrev xA:Aq:=λ_ _ _ _ _ _=>False
noncomputable abbrev E0:XK:=λ_ _ _=>False
theorem pT:Passes xA X E0:=λ_ _ _ _ _ _ _ h=>h.elim
structure FJ (K:PySem.W.Frag) (x qual:Str) (st:Stmt) (f:Addr) (fd:FuncData):Prop where
 ex:∃(oc:Value) (od:Option Addr) (kV doc pm:Value) (an:Option Addr) (cdv ct:Value) (osl:Array (Option Value)),
  fd=PySem.W.fnOf x qual (aK st) (ak st) (aa st) .none kV doc pm an cdv ct/\K.lookup f=some ⟨oc,od,.func fd,osl⟩/\codeIn K cdv qual=true
 kp:keepIn K (.ref f)=true
section
variable {P:Program} {w:World} {K:PySem.W.Frag} {mg:Str->Option Value} {base:Heap}
theorem FJ.ok{x qual:Str}{st:Stmt}{f:Addr}{fd:FuncData}{N ps:List Str}{k:Nat}{sp:Sp}(F:FJ K x qual st f fd)(S:o7 N ps (aa st))(len:∀vs H Q E,sp vs H Q E->vs.length=ps.length)
  (hbody:∀(cdv:Value) (A:Around) (outer:List Env) (s:Shared) (H:Hp) (vs:List V) (Q:VK) (E:XK),dP k (A.deeper (envOfC qual (aa st) s.heap.objs.size f cdv))->sp vs H Q E ->
   ∃t,xG (xU xA P w K mg base N qual (aa st) f cdv A outer s H E).Nx (ak st) t/\t { nx:=λ_ H'=>Q .non H',rt:=Q } (start N vs) H):fJ P w K mg base xA (k+1) f fd ps sp:=by
 obtain⟨oc,od,kV,doc,pm,an,cdv,ct,osl,rfl,lk,hcd⟩:=F.ex;refine NW lk hcd S len λA outer s H vs Q E hr hsp=>?_;obtain⟨t,h,q⟩:=hbody cdv A outer s H vs Q E hr hsp;exact⟨t,h.Nx,q⟩
theorem FJ.binds{x qual:Str}{st:Stmt}{f:Addr}{fd:FuncData}{ps:List Str}(F:FJ K x qual st f fd)
  (h:∀(kV doc pm:Value) (an:Option Addr) (cdv ct:Value) (us:List Value),us.length=ps.length->bindArgs (PySem.W.fnOf x qual (aK st) (ak st) (aa st) .none kV doc pm an cdv ct) ⟨us,[]⟩=pure (ps.zip us)):Binds K fd ps []:=by
 obtain⟨oc,od,kV,doc,pm,an,cdv,ct,osl,rfl,lk,hcd⟩:=F.ex;exact .all (h kV doc pm an cdv ct)
theorem bA{x qual:Str}{st:Stmt}{f:Addr}{oc:Value}{od an:Option Addr}{osl:Array (Option Value)}{kV doc pm cdv ct:Value}(l:K.lookup f=some ⟨oc,od,.func (PySem.W.fnOf x qual (aK st) (ak st) (aa st) .none kV doc pm an cdv ct),osl⟩)
  (c:codeIn K cdv qual=true) (k:keepIn K (.ref f)=true):FJ K x qual st f (PySem.W.fnOf x qual (aK st) (ak st) (aa st) .none kV doc pm an cdv ct):=⟨⟨oc,od,kV,doc,pm,an,cdv,ct,osl,rfl,l,c⟩,k⟩
end
section
variable {X:Cx}
theorem Az:cC X (.builtin "len") (λxs H Q=>∃a kvs,xs=[V.ref a]/\H a=some (.dK kvs)/\Q (.int kvs.length) H):=by
 intro pins s σ H xs us Q I r h;obtain⟨a,kvs,rfl,ha,q⟩:=h;obtain⟨u,rfl,ru⟩:=vals1 r;cases ru;exact N5 I (.inl ha) λt s' I'=>⟨.int kvs.length,H,I',⟨t,rfl⟩,q⟩
end
noncomputable def x6(H H':Hp):Prop:=∀b o,H b=some o->H' b=some o
theorem x6.seq{K:PySem.W.Frag}{H H':Hp}{a:Addr}{xs:List V}(e:x6 H H')(h:gI K H a xs):gI K H' a xs:=by
 rcases h with (h|⟨o,h⟩)|h
 ·exact .inl (.inl (e _ _ h))
 ·exact .inl (.inr ⟨o,e _ _ h⟩)
 ·exact .inr h
section
variable {κ:Type} [DecidableEq κ]
theorem gx:∀{l:List κ} {k:κ},l.Nodup->¬ k∈l->(l++[k]).Nodup
 | [],k,_,_=>by simp
 | a::r,k,h,hk=>by
  obtain⟨h1,h2⟩:=nodup_cons.mp h;show (a::(r++[k])).Nodup;refine nodup_cons.mpr ⟨λm=>?_,gx h2 λm=>hk (mem_cons.mpr (Or.inr m))⟩
  rcases mem_append.mp m with q|q
  ·exact h1 q
  ·exact hk (mem_cons.mpr (Or.inl (mem_singleton.mp q).symm))
end
end L2
end
section
namespace L2
open PySem PySem.Spec PyProof.Rows
theorem lE(env:Env):∀(names:List (Str×NameKind)) (acc:List (Str×Addr)),(∀y∈names,y.2=.free->∃c,env.cells.lookup y.1=some c) ->
  (∀x c,acc.lookup x=some c->env.cells.lookup x=some c) ->
  ∃cl,(forIn names acc λx r=>if (x.snd==NameKind.free)=true then do let c <-cellOf env x.fst;pure (ForInStep.yield ((x.fst,c)::r)) else pure (ForInStep.yield r))=(pure cl:Sem (List (Str×Addr))) /\
   (∀x c,cl.lookup x=some c->env.cells.lookup x=some c)/\∀x,((x,NameKind.free)∈names\/∃c,acc.lookup x=some c)->∃c,cl.lookup x=some c
 | [],acc,_,ha=>⟨acc,rfl,ha,λx h=>h.elim (λz=>nomatch z) λz=>z⟩
 | (n,k)::r,acc,hn,ha=>by
  have hr:∀y∈r,y.2=NameKind.free->∃c,env.cells.lookup y.1=some c:=λy hy=>hn y (mem_cons_of_mem _ hy)
  by_cases hk:k=.free
  ·subst hk
   obtain⟨c,hc⟩:=hn (n,.free) mem_cons_self rfl;have ha':∀x d,((n,c)::acc).lookup x=some d->env.cells.lookup x=some d:=λx d h=>by
    rw[lookup_cons] at h;cases e:x==n with
    | true =>rw[e] at h;have e':x=n:=eq_of_beq e;cases h;rw[e'];exact hc
    | false=>rw[e] at h;exact ha x d h
   obtain⟨cl,e1,e2,e3⟩:=lE env r ((n,c)::acc) hr ha';refine⟨cl,?_,e2,λx h=>?_⟩
   ·rw[List.forIn_cons]
    have hco:cellOf env n=pure c:=by unfold cellOf;rw[hc]
    simp only[beq_self_eq_true,if_true,hco];exact e1
   ·by_cases hx:x=n
    ·subst hx;exact e3 x (.inr ⟨c,by simp[lookup_cons]⟩)
    ·rcases h with h|⟨d,h⟩
     ·rcases mem_cons.mp h with z|z
      ·exact absurd (congrArg Prod.fst z) hx
      ·exact e3 x (.inl z)
     ·refine e3 x (.inr ⟨d,?_⟩);rw[lookup_cons];have:(x==n)=false:=beq_eq_false_iff_ne.mpr hx;rw[this];exact h
  ·have hb:(k==NameKind.free)=false:=beq_eq_false_iff_ne.mpr hk
   obtain⟨cl,e1,e2,e3⟩:=lE env r acc hr ha;refine⟨cl,?_,e2,λx h=>e3 x ?_⟩
   ·rw[List.forIn_cons];simp only[hb,false_eq_true,if_false];exact e1
   ·rcases h with h|h
    ·rcases mem_cons.mp h with z|z
     ·cases z;exact absurd rfl hk
     ·exact .inl z
    ·exact .inr h
theorem pU(h:∀y∈scope.names,y.2=.free->∃c,env.cells.lookup y.1=some c) :
  ∃cl,closureFor scope env=pure cl/\(∀x c,cl.lookup x=some c->env.cells.lookup x=some c)/\∀x,(x,NameKind.free)∈scope.names->∃c,cl.lookup x=some c:=by
 obtain⟨cl,e1,e2,e3⟩:=lE env scope.names [] h (λx c z=>by simp at z);refine⟨cl,?_,e2,λx hx=>e3 x (.inl hx)⟩;unfold closureFor;simp only[bind_pure];exact e1
noncomputable def bR(X:Cx)(scope:Scope)(N':List Str)(cl:List (Str×Addr))(C:Addr)(s:Shared)(H:Hp)(fp:List Addr):Cx :=
 { prog:=X.prog,w:=X.w,K:=X.K,mg:=X.mg,base:=X.base,A:=X.A,N:=N',s₀:=s,H₀:=H,env:=compEnvC scope cl C X.env,outer:=X.stack,stack:=X.stack,ex:=fp,fn:=λ_=>false,calm:=X.calm,pn:=[],xe:=λ_ _=>False }
noncomputable def jy(js:List (Option Nat))(σ:St):St:=js.map λo=>match o with
 | none=>none
 | some j=>match σ[j]? with
  | some (some v)=>some v
  | _=>none
noncomputable def tW(sc:Scope)(x:Str):Bool:=sc.names.lookup x==some .cell||sc.names.lookup x==some .free
noncomputable def jz(XN:List Str)(xsc scope:Scope)(N':List Str)(js:List (Option Nat)):Bool :=
 scope.kind==.function&&(scope.names.all λy=>y.2 != .local||scope.names.lookup y.1==some .local)&&(scope.names.all λy=>y.2 != .cell) &&
 (scope.names.all λy=>y.2 != .free||(tW xsc y.1&&scope.names.lookup y.1==some .free))&&js.length==N'.length &&
 ((N'.zip js).all λp=>match p.2 with|none=>true|some j=>XN[j]?==some p.1&&scope.names.lookup p.1==some .free)
structure tX (X:Cx) (scope:Scope) (N':List Str) (js:List (Option Nat)):Prop where
 kind:scope.kind=.function
 names:∀y∈scope.names,y.2=.local->scope.names.lookup y.1=some .local
 Ce:∀y∈scope.names,y.2≠.cell
 free:∀y∈scope.names,y.2=.free->tW X.env.scope y.1=true/\scope.names.lookup y.1=some .free
 len:js.length=N'.length
 src:∀(i:Nat) (x:Str) (j:Nat),N'[i]?=some x->js[i]?=some (some j)->X.N[j]?=some x/\scope.names.lookup x=some .free
theorem rY(h:jz X.N X.env.scope scope N' js=true):tX X scope N' js:=by
 unfold jz at h;simp only[and_eq_true,all_eq_true] at h;obtain⟨⟨⟨⟨⟨h1,h2⟩,h3⟩,h4⟩,h5⟩,h6⟩:=h;refine⟨eq_of_beq h1,λy hy e=>?_,λy hy e=>?_,λy hy e=>?_,eq_of_beq h5,λi x j e1 e2=>?_⟩
 ·have:=h2 y hy;rw[e] at this;simpa using this
 ·have:=h3 y hy;rw[e] at this;simp at this
 ·have:=h4 y hy;rw[e] at this;simpa using this
 ·have hm:(x,some j)∈N'.zip js:=by
   refine List.mem_iff_getElem?.mpr ⟨i,?_⟩;rw[List.getElem?_zip_eq_some];exact⟨e1,e2⟩
  have:=h6 _ hm;simpa using this
theorem k7(js:List (Option Nat))(σ:St):(jy js σ).length=js.length:=by unfold jy;rw[length_map]
noncomputable def FL(X:Cx)(ifs:List Expr)(t:TT):Prop :=
 ∀(pins:List (Addr×Obj)) (s:Shared) (σ:St) (H:Hp) (Q:Bool->Hp->Prop),Inv X pins σ H s->t σ H Q ->
  wpAny (model X.prog X.w) X.A (forIn ifs true λc r=>if r=true then do let ok <-isTrue c X.env (eval c X.env);pure (ForInStep.yield ok) else pure (ForInStep.yield r)) (TP X pins σ Q) X.xe s
noncomputable def vj:TT:=λ_ H Q=>Q true H
theorem FN:FL X [] vj:=λ_ _ _ H _ I h=>wpAny_tests_nil ⟨H,I,h⟩
theorem FO(h:PT X c t):FL X [c] t:=λpins s σ H Q I hw=>wpAny_tests_one (h pins s σ H Q I hw)
noncomputable def Cf(wi:TI)(js:List (Option Nat))(g:TG)(tt:TT)(te:TE):TE:=λσ H Q=>wi σ H λJ H1=>∀D,H1 D=none->∃W:Nat->Nat->St->Hp->Prop,(∃m,W 0 m (jy js σ) (upd H1 D (.lst []))) /\
 ∀i m σ' H,W i m σ' H->(J.stop i H/\Q (.ref D) H)\/(J.go i H/\∃N:St->Hp->Prop,(∀BB H',N BB H'->∃m',m'<m/\W (i+1) m' BB H') /\
  ∀x H',J.xH i H x H'->g x σ' H' λσ2 H2=>tt σ2 H2 λb H3=>if b=true then te σ2 H3 λy H4=>∃ys,H4 D=some (.lst ys)/\ys.length<sizeLine/\N σ2 (upd H4 D (.lst (ys++[y]))) else N σ2 H3)
theorem rA(hc:∀y∈scope.names,y.2≠.cell)
  (h:(relabel scope env).names.lookup x=some .cell\/(relabel scope env).names.lookup x=some .free):(x,NameKind.free)∈scope.names:=by
 unfold relabel at h;simp only at h;generalize scope.names=ns at hc h
 induction ns with
 | nil=>simp at h
 | cons p r ih =>
  obtain⟨n,k⟩:=p;have hc':∀y∈r,y.2≠.cell:=λy hy=>hc y (mem_cons_of_mem _ hy);simp only[map_cons] at h;cases hx:x==n with
  | true =>
   have e':x=n:=eq_of_beq hx;subst e'
   by_cases hk:k=.free
   ·subst hk;exact mem_cons_self
   ·have hk2:=hc (x,k) mem_cons_self
    have hb:(k==NameKind.free)=false:=beq_eq_false_iff_ne.mpr hk;rw[hb] at h;simp only[Bool.false_and,false_eq_true,if_false,lookup_cons,beq_self_eq_true] at h
    rcases h with h|h
    ·exact absurd (Option.some.inj h) hk2
    ·exact absurd (Option.some.inj h) hk
  | false =>
   refine mem_cons_of_mem _ (ih hc' ?_)
   by_cases hk:(k==NameKind.free&&env.scope.kind==.function&&env.kindOf n==some .cell)=true
   ·rw[if_pos hk] at h;simp only[lookup_cons,hx] at h;exact h
   ·rw[if_neg hk] at h;simp only[lookup_cons,hx] at h;exact h
theorem tY(h:scope.names.lookup x=some .free) :
  (relabel scope env).names.lookup x=some .cell\/(relabel scope env).names.lookup x=some .free:=by
 unfold relabel;simp only;generalize scope.names=ns at h
 induction ns with
 | nil=>simp at h
 | cons p r ih =>
  obtain⟨n,k⟩:=p;simp only[map_cons];cases hx:x==n with
  | true =>
   simp only[lookup_cons,hx] at h;have hk:=Option.some.inj h;subst hk
   by_cases hk:(NameKind.free==NameKind.free&&env.scope.kind==.function&&env.kindOf n==some .cell)=true
   ·rw[if_pos hk];simp[lookup_cons,hx]
   ·rw[if_neg hk];simp[lookup_cons,hx]
  | false =>
   simp only[lookup_cons,hx] at h
   by_cases hk:(k==NameKind.free&&env.scope.kind==.function&&env.kindOf n==some .cell)=true
   ·rw[if_pos hk];simp only[lookup_cons,hx];exact ih h
   ·rw[if_neg hk];simp only[lookup_cons,hx];exact ih h
section
variable {X:Cx} {pins:List (Addr×Obj)} {σ:St} {scope:Scope} {N':List Str} {js:List (Option Nat)}
theorem pV(ok:tX X scope N' js)(xo:X.Ok):∀y∈scope.names,y.2=.free->∃c,X.env.cells.lookup y.1=some c:=λy hy e=>by
 have:=(ok.free y hy e).1;unfold tW at this;rw[or_eq_true] at this;refine xo.has y.1 ?_
 rcases this with z|z
 ·exact .inl (eq_of_beq z)
 ·exact .inr (eq_of_beq z)
theorem x8{tk:Nat}(ok:tX X scope N' js)(I:Inv X pins σ H s)
  (hcl1:∀x c,cl.lookup x=some c->X.env.cells.lookup x=some c) (hcl2:∀x,(x,NameKind.free)∈scope.names->∃c,cl.lookup x=some c)
  (hfp:∀b∈fp,oS X pins H b) (hlt:∀b∈fp,b<s.heap.objs.size)
  (hns:h'.Ns s.heap.objs.size (λ_=>none)) (hk:∀b o,s.heap.get? b=some o->h'.get? b=some o) :
  Inv (bR X scope N' cl s.heap.objs.size s H fp) [] (jy js σ) H { s with heap:=h',toks:=tk }:=by
 have cellK:∀x c,cl.lookup x=some c->∃v,s.heap.IsCell c v:=λx c e=>I.cell x c (hcl1 x c e);have hCf:H s.heap.objs.size=none:=I.hok.fresh (Nat.le_refl _);refine⟨⟨I.ok.mod,ok.kind,I.ok.glob,I.ok.blt,Nat.le_refl _,λx y c e1 e2=>I.ok.inj x y c (hcl1 x c e1) (hcl1 y c e2),λx hx=>hcl2 x (rA ok.Ce hx),λx c hf _=>absurd hf (by intro z;cases z),I.ok.hd,I.ok.frames,.inl rfl,
   λb hb=>⟨ne_of_lt (hlt b hb),λx c e z=>?_⟩,I.bs,le_trans I.ok.Iu I.sz,λb o e hb=>?_,λb hb hs=>?_,I.stack,I.yN⟩,rfl,I.bare,Un.kept hk,⟨_,hns,λi x v e1 e2 e3=>?_⟩,λx c e=>?_,hCf,λx c e=>I.jH x c (hcl1 x c e),
   λp hp=>absurd (show p∈([]:List (Addr×Obj)) from hp) (by simp),I.hok.kept hk,?_⟩
 ·exact(hfp b hb).2.2.2.2.1 x c (hcl1 x c e) z
 ·rcases(hfp b hb).2.2.2.1 with z|z
  ·exact I.ok.lD b o e z
  ·exact absurd (lt_of_lt_of_le (lt_size (I.ok.bs b o e).1) z) (lt_irrefl _)
 ·rcases mem_cons.mp (I.xF b hs) with z|z
  ·exact(hfp b hb).2.1 z
  ·exact(hfp b hb).2.2.1 z
 ·-- a name X4 has a value: one of the def around
  have EO:(jy js σ)[i]?=some (some v):=e2;unfold jy at EO;rw[getElem?_map] at EO;cases hj:js[i]? with
  | none=>rw[hj] at EO;cases EO
  | some o =>
   rw[hj] at EO;cases o with
   | none=>simp at EO
   | some j =>
    obtain⟨hN,hf⟩:=ok.src i x j e1 hj;cases hs:σ[j]? with
    | none=>simp[hs] at EO
    | some ov =>
     cases ov with
     | none=>simp[hs] at EO
     | some v' =>
      simp[hs] at EO;subst EO;have hfr:=(ok.free (x,.free) (PySem.mem_of_lookup hf) rfl).1;unfold tW at hfr;rw[or_eq_true] at hfr;have N7:X.env.scope.names.lookup x=some .cell\/X.env.scope.names.lookup x=some .free:=hfr.imp eq_of_beq eq_of_beq;obtain⟨m,_,hl⟩:=I.loc;obtain⟨u,r,l⟩:=hl j x v' hN hs (.inr N7);refine⟨u,r,.inr ⟨tY hf,?_⟩⟩
      rcases l with ⟨k,_⟩|⟨_,c,e,z⟩
      ·have k':X.env.scope.names.lookup x=some .local:=k
       rcases N7 with q|q<;>(rw[q] at k';cases k')
      ·obtain⟨d,hd⟩:=hcl2 x (PySem.mem_of_lookup hf);have e':=hcl1 x d hd;rw[e] at e';cases e';obtain⟨oc,hoc,BH⟩:=z;exact⟨c,hd,oc,hk _ _ hoc,BH⟩
 ·obtain⟨v,oc,hoc,BH⟩:=cellK x c e;exact⟨v,oc,hk _ _ hoc,BH⟩
 ·rw[k7];exact ok.len
theorem AA(I:Inv X pins σ H s)(hfp:∀b∈fp,oS X pins H b)
  (J:Inv (bR X scope N' cl C s H fp) [] σ' H' s'):Inv X pins σ H' s' :=
 I.Np (ch:=fp) J.os J.base J.hok J.bare λb hb=>⟨(hfp b hb).2.2.2.1,(hfp b hb).2.1,(hfp b hb).2.2.2.2.1,(hfp b hb).2.2.2.2.2⟩
end
section
variable {X:Cx} {scope:Scope} {N':List Str} {js:List (Option Nat)} {tg elt iter:Expr} {ifs:List Expr} {pos:Pos} {wi:TI} {g:TG} {tt:TT} {te:TE}
theorem vn{pins:List (Addr×Obj)}{σ:St}{H2:Hp}{s2:Shared}{it:Addr}{fp:List Addr}{tn:Nat->Heap->Prop}{J:It}{cl:List (Str×Addr)}{E:Value->Shared->Prop}{RR:Value->Addr->Result->Shared->Prop}{Q:VK}
  (ok:tX X scope N' js) (hc:X.calm=true) (I2:Inv X pins σ H2 s2) (T:Turn X.prog X.w X.K tg J fp it tn) (st2:tn 0 s2.heap) (f2:∀b∈fp,oS X pins H2 b)
  (hcl1:∀x c,cl.lookup x=some c->X.env.cells.lookup x=some c) (hcl2:∀x,(x,NameKind.free)∈scope.names->∃c,cl.lookup x=some c)
  (hg:∀cl C s H fp,PG (bR X scope N' cl C s H fp) tg g) (ht:∀cl C s H fp,FL (bR X scope N' cl C s H fp) ifs tt) (he:∀cl C s H fp,PE (bR X scope N' cl C s H fp) elt te)
  (rd:∀D,H2 D=none->∃W:Nat->Nat->St->Hp->Prop,(∃m,W 0 m (jy js σ) (upd H2 D (.lst []))) /\
   ∀i m σ' H,W i m σ' H->(J.stop i H/\Q (.ref D) H)\/(J.go i H/\∃N:St->Hp->Prop,(∀BB H',N BB H'->∃m',m'<m/\W (i+1) m' BB H') /\
    ∀x H',J.xH i H x H'->g x σ' H' λσ2 H2=>tt σ2 H2 λb H3=>if b=true then te σ2 H3 λy H4=>∃ys,H4 D=some (.lst ys)/\ys.length<sizeLine/\N σ2 (upd H4 D (.lst (ys++[y]))) else N σ2 H3))
  (hRR:∀(D C:Addr) (s':Shared) (H':Hp) (m:Str->Option Value),s2.heap.objs.size<=C->Inv X pins σ H' s'->H' C=none->s'.heap.Ns C m->Q (.ref D) H'->RR (.ref D) C (.ok .next) s') :
  wpAny (model X.prog X.w) X.A (newList []) (λacc s₃=>wpAny (model X.prog X.w) X.A (newFunctionEnv scope X.env.globals cl [] X.env.qual none .none (some X.env)) (λcenv s₄ =>
   codeAny (model X.prog X.w) X.A (.compStart (.ListComp elt [⟨tg,iter,ifs,0⟩] scope pos) 0 (.ref it) acc { cenv with scope:=relabel scope X.env }) (RR acc cenv.locals) s₄) E s₃) E s2:=by
 have hD:H2 s2.heap.objs.size=none:=I2.hok.fresh (Nat.le_refl _);refine wpAny_newObj_type (wpAny_newFunctionEnv ok.Ce (by intro y hy;simp at hy) (λh₁ N8 N9=>?_) ok.kind);dsimp only at N8 N9 |-;have I3:Inv X pins σ (upd H2 s2.heap.objs.size (.lst [])) { s2 with heap:=s2.heap.push { cls:=.type "list",dict:=none,data:=.seq ([]:List Value).toArray },toks:=s2.toks } :=
  I2.laid (t':=s2.toks) (λb u e=>get?_push_of_some _ e) (Nat.le_refl _) ⟨by simp,[],0,.nil,get?_push_size _ rfl⟩
 generalize Oa:({ s2 with heap:=s2.heap.push { cls:=.type "list",dict:=none,data:=.seq ([]:List Value).toArray },toks:=s2.toks }:Shared)=s3 at I3;have hsz:s3.heap.objs.size=s2.heap.objs.size+1:=by rw[<-Oa];exact size_push ..
 have eC:(s2.heap.push { cls:=.type "list",dict:=none,data:=.seq ([]:List Value).toArray }).objs.size=s3.heap.objs.size:=by rw[<-Oa]
 have f3:∀b∈fp,oS X pins (upd H2 s2.heap.objs.size (.lst [])) b:=λb hb=>by
  obtain⟨o,e,_⟩:=T.obj _ _ st2 b hb;refine⟨?_,(f2 b hb).2⟩;rw[aA (ne_of_lt (lt_size e))];exact(f2 b hb).1
 have hlt:∀b∈fp,b<s3.heap.objs.size:=λb hb=>by
  obtain⟨o,e,_⟩:=T.obj _ _ st2 b hb;have hb2:b<s2.heap.objs.size:=lt_size e;rw[hsz];exact lt_succ_of_lt hb2
 have keep:∀b o,s3.heap.get? b=some o->h₁.get? b=some o:=λb o e=>by
  have e':(s2.heap.push { cls:=.type "list",dict:=none,data:=.seq ([]:List Value).toArray }).get? b=some o:=by rw[<-Oa] at e;exact e
  exact N9.extBut b o (ne_of_lt (lt_size e')) (get?_push_of_some _ e')
 have I4:=x8 (tk:=s2.toks+([]:List (Str×Value)).length) ok I3 hcl1 hcl2 f3 hlt (h':=h₁) (by rw[<-eC];simpa using N8) keep;have Wm:tn 0 h₁:=T.keep _ _ _ st2 λb hb o e=>keep b o (by rw[<-Oa];exact get?_push_of_some _ e);obtain⟨W,⟨m0,w0⟩,turn⟩:=rd _ hD;have stat:∀{H':Hp},(∀b∈fp,H' b=none)->∀b∈fp,oS (bR X scope N' cl s3.heap.objs.size s3 (upd H2 s2.heap.objs.size (.lst [])) fp) [] H' b:=λ{H'} hn b hb =>
  ⟨hn b hb,ne_of_lt (hlt b hb),I4.ok.BG b hb,.inl hb,(I4.ok.RD b hb).2,λp hp=>absurd (show p∈([]:List (Addr×Obj)) from hp) (by simp)⟩
 have X5:∀tk,({ s2 with heap:=h₁,toks:=tk }:Shared)={ s3 with heap:=h₁,toks:=tk }:=λtk=>by rw[<-Oa]
 have loop:codeAny (model X.prog X.w) X.A (.compLoop (.ListComp elt [⟨tg,iter,ifs,0⟩] scope pos) 0 (.ref it) (.ref s2.heap.objs.size) (compEnvC scope cl s3.heap.objs.size X.env)) (RR (.ref s2.heap.objs.size) s3.heap.objs.size)
   { s3 with heap:=h₁,toks:=s2.toks+([]:List (Str×Value)).length }:=by
  refine codeAny_loop rfl (λn s'=>∃i σ' H',Inv (bR X scope N' cl s3.heap.objs.size s3 (upd H2 s2.heap.objs.size (.lst [])) fp) [] σ' H' s'/\tn i s'.heap/\(∀b∈fp,H' b=none)/\W i n σ' H') ?_ m0 ⟨0,_,_,I4,Wm,λb hb=>(f3 b hb).1,w0⟩;rintro n s5 ⟨i,σ5,H5,I5,M0,QS,w5⟩;show wpAny _ X.A ((compTurn (.ListComp elt [⟨tg,iter,ifs,0⟩] scope pos) 0 (.ref it) (.ref s2.heap.objs.size) (compEnvC scope cl s3.heap.objs.size X.env)).onRaise (λx=>do noteFrame x (compEnvC scope cl s3.heap.objs.size X.env);theTreesLotGoes x)) _ _ s5;refine wpAny_noted ?_;rw[compTurn_list];refine wpAny_bind (wpAny_standAt (wpAny_bind ?_))
  rcases turn i n σ5 H5 w5 with ⟨stop,qn⟩|⟨go,N,hN,step⟩
  ·refine wpAny_mono (T.done (bR X scope N' cl s3.heap.objs.size s3 (upd H2 s2.heap.objs.size (.lst [])) fp) rfl rfl rfl hc i [] s5 σ5 H5 (λ_ _=>False) I5 (stat QS) M0 stop) (λr s6 ⟨hr,I6⟩=>?_) λ_ _ z=>z.elim;subst hr;refine wpAny_pure ?_;obtain⟨m,hm,_⟩:=id I6.loc;exact hRR _ _ s6 H5 m (by rw[hsz];exact le_succ _) (AA I3 f3 I6) I6.free hm qn
  ·refine wpAny_mono (T.item (bR X scope N' cl s3.heap.objs.size s3 (upd H2 s2.heap.objs.size (.lst [])) fp) rfl rfl rfl hc i [] s5 σ5 H5 (λ_ _=>False) I5 (stat QS) M0 go) (λr s6 ⟨u,hr,h6⟩=>?_) λ_ _ z=>z.elim
   subst hr;refine wpAny_bind (wpAny_mono h6 (λ_ s7 ⟨x,H7,I7,r7,y7,Si,X6⟩=>?_) λ_ _ z=>z.elim);have X7:=I7.pinned (stat X6) (T.obj _ _ Si);refine wpAny_bind (wpAny_mono (hg _ _ _ _ _ _ s7 σ5 H7 x u _ X7 r7 (step x H7 y7)) (λ_ s8 ⟨σ8,H8,I8,q8⟩=>?_) λ_ _ z=>z.elim);refine wpAny_bind (wpAny_mono (ht _ _ _ _ _ _ s8 σ8 H8 _ I8 q8) (λb s9 ⟨H9,I9,q9⟩=>?_) λ_ _ z=>z.elim);have Cg:∀{sA:Shared} {σA:St} {HA:Hp},Inv (bR X scope N' cl s3.heap.objs.size s3 (upd H2 s2.heap.objs.size (.lst [])) fp) ([]++pJ fp s7.heap) σA HA sA->N σA HA ->
     ∃m,m<n/\∃i σ' H',Inv (bR X scope N' cl s3.heap.objs.size s3 (upd H2 s2.heap.objs.size (.lst [])) fp) [] σ' H' sA/\tn i sA.heap/\(∀b∈fp,H' b=none)/\W i m σ' H':=λ{sA σA HA} IA nA=>by
    obtain⟨m',hm,wA⟩:=hN σA HA nA;refine⟨m',hm,i+1,σA,HA,IA.lT,T.keep _ _ _ Si λb hb o e=>(IA.pin (b,o) (mem_append_right _ (mem_append_right _ (jw hb e)))).1,λb hb=>?_,wA⟩;obtain⟨o,e,d⟩:=T.obj _ _ Si b hb;exact(IA.pin (b,o) (mem_append_right _ (mem_append_right _ (jw hb e)))).2.1
   cases b with
   | false=>exact wpAny_pure ⟨rfl,Cg I9 (by simpa using q9)⟩
   | true =>rw[if_pos rfl] at q9;refine wpAny_bind (wpAny_bind (wpAny_mono (he _ _ _ _ _ _ s9 σ8 H9 _ I9 q9) (λv sB ⟨y,HB,IB,rB,ys,hys,hlen,nB⟩=>?_) λ_ _ z=>z.elim));refine wpAny_bind (wpAny_mono (rW (X:=bR X scope N' cl s3.heap.objs.size s3 (upd H2 s2.heap.objs.size (.lst [])) fp) _ sB σ8 HB (.ref s2.heap.objs.size) [y] _ [v] (λ_ HC=>HC=upd HB s2.heap.objs.size (.lst (ys++[y]))) IB rfl (.cons rB .nil) ⟨_,ys,y,rfl,rfl,hys,hlen,rfl⟩) (λv' sC ⟨_,HC,IC,_,X8⟩=>?_) λ_ _ z=>z.elim);subst X8;exact wpAny_pure (wpAny_pure ⟨rfl,Cg IC nB⟩)
 rw[X5];have Sj:({ newEnv scope (s2.heap.push { cls:=.type "list",dict:=none,data:=.seq ([]:List Value).toArray }).objs.size X.env.globals cl X.env.qual none Value.none (some X.env) builtinsNs with scope:=relabel scope X.env }:Env)=compEnvC scope cl s3.heap.objs.size X.env:=by rw[eC];rfl
 have Sk:(newEnv scope (s2.heap.push { cls:=.type "list",dict:=none,data:=.seq ([]:List Value).toArray }).objs.size X.env.globals cl X.env.qual none Value.none (some X.env) builtinsNs).locals=s3.heap.objs.size:=by rw[eC];rfl
 rw[Sj,Sk];exact codeAny_compStart_list loop (T.self _ _ _ _ _ Wm loop)
theorem FP(hok:jz X.N X.env.scope scope N' js=true)(hc:X.calm=true)(hi:PI X tg iter wi)(hg:∀cl C s H fp,PG (bR X scope N' cl C s H fp) tg g)
  (ht:∀cl C s H fp,FL (bR X scope N' cl C s H fp) ifs tt) (he:∀cl C s H fp,PE (bR X scope N' cl C s H fp) elt te)
  (hs:∀x,foldedSetIterable iter X.env x=pure x:=by intro _;rfl):PE X (.ListComp elt [⟨tg,iter,ifs,0⟩] scope pos) (Cf wi js g tt te):=by
 intro pins s σ H Q I h;have ok:=rY hok;obtain⟨cl,Sm,hcl1,hcl2⟩:=pU (pV ok I.ok);rw[eval_ListComp];refine wpAny_comprehension_free (use:=none) rfl hs Sm ok.kind ok.names (cz (hi pins s σ H _ I h) λxv s1 h1=>cz h1 λitv s2 h2=>?_);obtain⟨it,fp,tn,J,H2,rfl,I2,T,st2,f2,rd⟩:=h2;refine vn (RR:=λacc C=>compPost (model X.prog X.w) X.A X.xe none (EP X pins σ Q) acc C) ok hc I2 T st2 f2 hcl1 hcl2 hg ht he rd ?_;intro D C s' H' m hC J' fC hm q;refine⟨m,hm,λh' hs'=>⟨.ref D,H',?_,rfl,q⟩⟩;refine J'.turned (t':=s'.toks) (λb o hb e=>hs'.extBut b o hb e) fC (Nat.ne_of_gt (lt_of_lt_of_le I2.lt hC)) (.inr (le_trans I2.sz hC)) (λx c e z=>?_) λp hp z=>?_
 ·obtain⟨v,q'⟩:=I2.cell x c e;exact absurd (lt_of_lt_of_le q'.lt (by rw[z];exact hC)) (lt_irrefl _)
 ·exact absurd (lt_of_lt_of_le (lt_size (I2.pin p hp).1) (by rw[z];exact hC)) (lt_irrefl _)
theorem FQ{i:Nat}(hN:X.N.Nodup)(hx:X.N[i]?=some x)(hl:Loc X.env.scope x)(hok:jz X.N X.env.scope scope N' js=true)(hc:X.calm=true)(hi:PI X tg iter wi)(hg:∀cl C s H fp,PG (bR X scope N' cl C s H fp) tg g)
  (ht:∀cl C s H fp,FL (bR X scope N' cl C s H fp) ifs tt) (he:∀cl C s H fp,PE (bR X scope N' cl C s H fp) elt te)
  (hsw:swapsWith (.ListComp elt [⟨tg,iter,ifs,0⟩] scope pos) (some (.Name x pos')) spos.line X.env=pure true:=by rfl)
  (hf:X.fn x=true\/X.env.scope.names.lookup x=some .local:=by first|exact .inl rfl|exact .inr rfl|assumption)
  (hs:∀x,foldedSetIterable iter X.env x=pure x:=by intro _;rfl):PS X (.Assign [.Name x pos'] (.ListComp elt [⟨tg,iter,ifs,0⟩] scope pos) spos) (Fb (Cf wi js g tt te) (rP i)):=by
 intro pins s σ H D I h;have ok:=rY hok;obtain⟨cl,Sm,hcl1,hcl2⟩:=pU (pV ok I.ok);rw[exec_Assign_Name_used _ _ _ _ hsw];refine wpAny_bind (wpAny_standAt (wpAny_bind ?_));show wpAny _ X.A (do let _ <-comprehension (.ListComp elt [⟨tg,iter,ifs,0⟩] scope pos) scope X.env _ (newList []) false (eval iter X.env) (some (assign (.Name x pos') X.env))) _ _ s;refine wpAny_bind (wpAny_mono (wpAny_comprehension_free (use:=some (assign (.Name x pos') X.env)) (Q:=λ_ s'=>SP X pins D .next s') rfl hs Sm ok.kind ok.names
  (cz (hi pins s σ H _ I h) λxv s1 h1=>cz h1 λitv s2 h2=>?_)) (λ_ s' hq=>wpAny_pure (wpAny_pure hq)) λ_ _ e=>e)
 obtain⟨it,fp,tn,J,H2,rfl,I2,T,st2,f2,rd⟩:=h2;refine vn (RR:=λacc C=>compPost (model X.prog X.w) X.A X.xe (some (assign (.Name x pos') X.env)) (λ_ s'=>SP X pins D .next s') acc C) (Q:=λx H1=>rP i x σ H1 D.nx) ok hc I2 T st2 f2 hcl1 hcl2 hg ht he rd ?_;intro E C s' H' m hC J' fC hm q;have Wn:C≠X.env.locals:=Nat.ne_of_gt (lt_of_lt_of_le I2.lt hC);have hCc:∀x c,X.env.cells.lookup x=some c->c≠C:=λx c e z=>by
  obtain⟨v,q'⟩:=I2.cell x c e;exact absurd (lt_of_lt_of_le q'.lt (by rw[z];exact hC)) (lt_irrefl _)
 refine cz (show wpAny _ X.A (assign (.Name x pos') X.env (.ref E)) (λ_ s''=>(∃BB KD,Inv X pins BB KD s''/\D.nx BB KD/\KD C=none)/\∃m,s''.heap.Ns C m) X.xe s' from ?_) λ_ s'' ⟨⟨BB,KD,Sn,Yb,So⟩,Yc,KG⟩=>?_
 ·refine wpAny_assign_Name (rO J' hN hx hl (show RelV (.ref E) (.ref E) from rfl) (λs'' Sn ⟨a,Yd,ha⟩=>⟨⟨_,H',Sn,q,fC⟩,m,?_⟩) hf)
  refine hm.sameBut Yd ?_
  rcases ha with z|z
  ·rw[z];exact Wn
  ·exact λw=>hCc _ _ z w.symm
 ·refine⟨Yc,KG,λh' hs'=>⟨BB,KD,?_,Yb⟩⟩;refine Sn.turned (t':=s''.toks) (λb o hb e=>hs'.extBut b o hb e) So Wn (.inr (le_trans I2.sz hC)) hCc λp hp z=>?_;exact absurd (lt_of_lt_of_le (lt_size (I2.pin p hp).1) (by rw[z];exact hC)) (lt_irrefl _)
end
end L2
end
section
namespace L2
open PySem PySem.Spec PyProof.Rows
theorem Inv.yW{X:Cx}{pins:List (Addr×Obj)}{σ:St}{H:Hp}{s:Shared}{h':Heap}{t':Nat}{ch:List Addr}(I:Inv X pins σ H s)(hf:∀b∈ch,oS X pins H b)
  (k:∀b o,b∉ch->s.heap.get? b=some o->h'.get? b=some o):Inv X pins σ H { s with heap:=h',toks:=t' }:=by
 have Nm:∀b u,H b=some u->b∉ch:=λb u e z=>by rw[(hf b z).1] at e;cases e
 refine I.step (g':=s.gens) (d':=s.drawn) (ch:=ch) (λb hb=>?_) (λb o _ _ hc e _=>k b o hc e) (λb o _ _ hc e _=>⟨o.slots,k b o hc e⟩) (λ_ _ _ _ n=>n)
  (λb o hc e=>⟨o,k b o hc e⟩) (λ_ _ e=>e) (λ_ _ _ e=>e) (λb ps e=>⟨#[],by rw[e];simp⟩) (λm hm=>?_) (λb u e=>?_) I.bare
 ·exact⟨(hf b hb).2.2.2.1,(hf b hb).2.1,(hf b hb).2.2.2.2.1,(hf b hb).2.2.2.2.2⟩
 ·obtain⟨o,es,ep,ho,r⟩:=hm;exact⟨o,es,ep,k _ o (λz=>(hf _ z).2.1 rfl) ho,r⟩
 ·refine(I.hok b u e).stay (λc v hc q=>k c v ?_ q) (λ_ q=>q) λ_ _ q=>q
  rcases hc with z|z
  ·rw[z];exact Nm b u e
  ·exact Nm c _ z
noncomputable def Oc(K:PySem.W.Frag)(a:Addr):It :=
 ⟨λi H=>∃xs x,gI K H a xs/\xs[i]?=some x,λi H x H'=>∃p v,H p=none/\x=.ref p/\H'=upd H p (.tup [.int i,v])/\∀xs,gI K H a xs->xs[i]?=some v,λi H=>∃xs,gI K H a xs/\xs.length<=i⟩
theorem AB{P:Program}{w:World}{K:PySem.W.Frag}{es:List Expr}{k:Nat}{pos:Pos}(a e it:Addr)(hne:e≠it) :
  Turn P w K (.Tuple es k pos) (Oc K a) [e,it] e (λi h=>(∃old,IsEnum h e it i old)/\h.IsListIter it a i) where
 mem:=by simp
 obj:=λi h st b hb=>by
  obtain⟨⟨old,he⟩,⟨o,e2,c,d⟩⟩:=st
  rcases mem_cons.mp hb with z|z
  ·subst z;exact⟨_,he,λv z=>nomatch z⟩
  ·rw[mem_singleton.mp z];exact⟨o,e2,λv z=>by rw[d] at z;cases z⟩
 keep:=λi h h' st k=>⟨let ⟨old,he⟩:=st.1;⟨old,k e (by simp) _ he⟩,st.2.at λo e=>k it (by simp) o e⟩
 item:=by
  intro X hP hw hK hc i pins s σ H E I hf st hg;subst hP hw hK;obtain⟨xs,x,hq,hx⟩:=hg;obtain⟨its,rv,p,hz⟩:=I.list hq;obtain⟨u,hu,ru⟩:=rv.get hx;obtain⟨⟨old,he⟩,hit⟩:=st;have hei:e<s.heap.objs.size:=lt_size he;have Ye:it<s.heap.objs.size:=by obtain⟨_,y,_⟩:=hit;exact lt_size y
  refine wpAny_pyNext_enum_item he hit p.isList (x:=u) (by simpa using hu) hne λh' ho Sq hT hsz hk=>?_;refine⟨_,rfl,?_⟩;refine wpAny_letOwnedTupleGo_enum ho λh2 Yg hs2=>?_;have hT2:h2.get? s.heap.objs.size=some { cls:=.type "tuple",data:=.seq #[.int i s.toks,u] }:=hs2.extBut _ _ (Nat.ne_of_gt hei) hT;have I1:Inv X pins σ H { s with heap:=h2,toks:=s.toks+1 }:=I.yW (ch:=[e,it]) hf λb o hb q=>by
   have h1:b≠e:=λz=>hb (by simp[z]);have h2:b≠it:=λz=>hb (by simp[z]);exact hs2.extBut b o h1 (hk b o h1 h2 q)
  have hn:H s.heap.objs.size=none:=I.hok.fresh (Nat.le_refl _);have I2:Inv X pins σ (upd H s.heap.objs.size (.tup [.int i,x])) { s with heap:=h2,toks:=s.toks+1 }:=by
   have un:Un X.fs [] H (upd H s.heap.objs.size (.tup [.int i,x])) s.heap s.heap:=Un.laid (λb u q=>q) (Nat.le_refl _) hn;refine⟨I1.ok,I1.os,I1.bare,?_,I1.loc,I1.cell,?_,λy c q=>?_,λp hp=>?_,λb o q=>?_,I1.len⟩
   ·refine⟨I1.base.keep,I1.base.slot,λb o q n hx=>?_,I1.base.there,λb ys q=>?_,λb o ys q=>?_,λb ps q=>?_⟩
    ·have hlt:b<s.heap.objs.size:=lt_of_lt_of_le (lt_size q) I.sz;rw[aA (ne_of_lt hlt)];exact I1.base.free b o q n hx
    ·rw[aA (aG (I1.base.tups b ys q) hn)];exact I1.base.tups b ys q
    ·rw[aA (aG (I1.base.frzs b o ys q) hn)];exact I1.base.frzs b o ys q
    ·obtain⟨more,z⟩:=I1.base.tF b ps q;exact⟨more,by rw[aA (aG z hn)];exact z⟩
   ·rw[aA (ne_of_lt I.lt)];exact I1.free
   ·obtain⟨v,z⟩:=I.cell y c q;rw[aA (ne_of_lt z.lt)];exact I1.jH y c q
   ·obtain⟨q1,q2,q3⟩:=I1.pin p hp;refine⟨q1,?_,q3⟩;rw[aA (ne_of_lt (lt_size (I.pin p hp).1))];exact q2
   ·by_cases hb:b=s.heap.objs.size
    ·subst hb;rw[aU] at q;cases q;exact⟨by show 2<=sizeLine;decide,[.int i s.toks,u],.cons ⟨_,rfl⟩ (.cons ru .nil),_,hT2,rfl,_,rfl⟩
    ·rw[aA hb] at q;exact(I1.hok b o q).stay (λc v _ z=>z) (λc z=>by rw[aA (aG z hn)];exact z) λc ys z=>by rw[aA (aG z hn)];exact z
  refine⟨.ref s.heap.objs.size,_,I2,rfl,⟨s.heap.objs.size,x,hn,rfl,rfl,λys hy=>by rw[I.uY hy hq];exact hx⟩,⟨⟨_,by simpa using Yg⟩,?_⟩,λb hb=>?_⟩
  ·exact Sq.at λo y=>(hs2.2 it hne.symm).trans y
  ·have hlt:b<s.heap.objs.size:=by
    rcases mem_cons.mp hb with z|z
    ·rw[z];exact hei
    ·rw[mem_singleton.mp z];exact Ye
   rw[aA (ne_of_lt hlt)];exact(hf b hb).1
 done:=by intro X hP hw hK hc i pins s σ H E I hf st hg;subst hP hw hK;obtain⟨xs,hq,hx⟩:=hg;obtain⟨its,rv,p,hz⟩:=I.list hq;obtain⟨⟨old,he⟩,hit⟩:=st;have hl:=rv.length;exact wpAny_pyNext_enum_end (I.ok.hd hc) he hit p.isList (by simp;omega) λh' eb=>⟨rfl,I.yW (t':=s.toks) (ch:=[e,it]) hf λb o hb q=>eb b o (λz=>hb (by simp[z])) q⟩
 self:=λ_ _ _ _ _ st h=>let ⟨_,he⟩:=st.1;wpAny_pyIter_enum he h
noncomputable def Od(K:PySem.W.Frag)(ta:TA):TI:=λσ H R=>ta σ H λvs H1=>∃a,vs=[.ref a]/\(∃xs,gI K H1 a xs)/\R (Oc K a) H1
theorem FT{k:Nat}(hg:Gl X "enumerate")(hm:X.mg "enumerate" = none)(ha:PA X [a] ta)(hs:starEach [a] X.env=[(false,eval a X.env)]:=by rfl) :
  PI X (.Tuple es k tpos) (.Call (.Name "enumerate" p) [a] [] pos) (Od X.K ta):=by
 intro pins s σ H R I h;refine Call_ (iD I hg hm boot_enumerate (PyProof.Rows.callWith_type1 (cz (ha pos pins s σ H _ I h) λus s1 aJ=>?_) hs rfl));obtain⟨vs,H1,I1,r1,q1⟩:=aJ;obtain⟨l,e,⟨xs,hq⟩,q⟩:=q1;subst e;cases r1 with
 | cons r rr =>
  cases rr;cases r;obtain⟨its,rv,pl,hz⟩:=I1.list hq;refine call_enumerate_list pl.isList λh' he hit hsz hk=>?_;have I2:Inv X pins σ H1 { s1 with heap:=h' }:=I1.kept (t':=s1.toks) hk;refine wpAny_pyIter_enum (s:={ s1 with heap:=h' }) he ?_;refine⟨_,[s1.heap.objs.size+1,s1.heap.objs.size],_,_,H1,rfl,I2,AB l _ _ (Nat.ne_of_gt (lt_succ_self _)),⟨⟨_,by simpa using he⟩,hit⟩,λb hb=>?_,q⟩;have hb':s1.heap.objs.size<=b:=by
   rcases mem_cons.mp hb with z|z
   ·rw[z];exact le_succ _
   ·rw[mem_singleton.mp z];exact Nat.le_refl _
  exact I1.Fc hb' (I1.hok.fresh hb')
end L2
end
section
namespace L2
open PySem PySem.W PyProof.Rows
namespace oj
section
variable {O:KeyOrd} {key:Nat->O.α} {N:Nat} {cmp:Nat->Nat->(Bool->Shared->Prop)->Shared->Prop} {s:Shared}
noncomputable def K(O:KeyOrd)(key:Nat->O.α)(p:Array Nat)(i:Nat):O.α:=key (p.getD i 0)
noncomputable def Up(O:KeyOrd)(key:Nat->O.α)(p:Array Nat)(k:Nat):Prop:=∀i j,i<=j->j<k->O.kle (K O key p i) (K O key p j)
noncomputable def Down(O:KeyOrd)(key:Nat->O.α)(p:Array Nat)(k:Nat):Prop:=∀i j,i<=j->j<k->O.kle (K O key p j) (K O key p i)
noncomputable def FU(O:KeyOrd)(key:Nat->O.α)(N:Nat)(cmp:Nat->Nat->(Bool->Shared->Prop)->Shared->Prop)(s:Shared):Prop :=
 ∀i j (C:Bool->Shared->Prop),i<N->j<N->C (O.blt (key i) (key j)) s->cmp i j C s
noncomputable def Ent(N:Nat)(p:Array Nat):Prop:=p.size=N/\0<N/\∀x∈p.toList,x<N
theorem Ent.at{p:Array Nat}(h:Ent N p)(i:Nat):p.getD i 0<N:=by
 by_cases hi:i<p.size
 ·have e:p.getD i 0=p[i]:=by simp[Array.getD,hi]
  rw[e];exact h.2.2 _ (by simp)
 ·have e:p.getD i 0=0:=by simp[Array.getD,hi]
  rw[e];exact h.2.1
theorem Ent.perm{p q:Array Nat}(h:Ent N p)(e:q.Perm p):Ent N q :=
 ⟨e.size_eq.trans h.1,h.2.1,λx hx=>h.2.2 x ((Array.perm_iff_toList_perm.mp e).mem_iff.mp hx)⟩
theorem K_congr{p q:Array Nat}{i j:Nat}(h:p[i]?=q[j]?):K O key p i=K O key q j:=by
 unfold K;rw[Array.getD_eq_getD_getElem?,Array.getD_eq_getD_getElem?,h]
theorem K_bubble{p:Array Nat}{src d:Nat}(hs:src<p.size)(hd:d<=src)(k:Nat) :
  K O key (bubble p src d) k=if k=src-d then K O key p src else if src-d<k/\k<=src then K O key p (k-1) else K O key p k:=by
 have e:=getElem?_bubble hs d hd k
 by_cases h1:k=src-d
 ·rw[if_pos h1] at e |-;exact K_congr e
 ·rw[if_neg h1] at e |-
  by_cases h2:src-d<k/\k<=src
  ·rw[if_pos h2] at e |-;exact K_congr e
  ·rw[if_neg h2] at e |-;exact K_congr e
theorem Ci{p:Array Nat}{i j:Nat}(hj:j<=p.size)(k:Nat):K O key (kas_rev p i j) k=if i<=k/\k<j then K O key p (i+j-1-k) else K O key p k:=by
 have e:=getElem?_mirror_all (i:=i) hj k
 by_cases h1:i<=k/\k<j
 ·rw[if_pos h1] at e |-;exact K_congr e
 ·rw[if_neg h1] at e |-;exact K_congr e
theorem pW{p:Array Nat}{i j:Nat}(hj:j<=p.size)(h:∀k,i<=k->k<j->K O key p k=K O key p (j-1))(k:Nat):K O key (kas_rev p i j) k=K O key p k:=by
 rw[Ci hj]
 split
 ·rw[h _ (by omega) (by omega),h k (by omega) (by omega)]
 ·rfl
theorem vo{p:Array Nat}{m:Nat}(h:∀t,1<=t->t<m->O.kle (K O key p (t-1)) (K O key p t)):Up O key p m:=by
 intro i j hij hj
 induction j with
 | zero =>
  have:i=0:=by omega
  subst this;exact KeyOrd.kle_refl _
 | succ j ih =>
  by_cases e:i=j+1
  ·subst e;exact KeyOrd.kle_refl _
  ·exact KeyOrd.kle_trans (ih (by omega) (by omega)) (h (j+1) (by omega) hj)
theorem KH(hA:FU O key N cmp s){p:Array Nat}(he:Ent N p):∀(f n:Nat) {Q:Nat->Shared->Prop},1<=n ->
  (∀m,n<=m->m<=n+f->(∀t,n<=t->t<m->O.kle (K O key p (t-1)) (K O key p t))->(m<n+f->O.klt (K O key p m) (K O key p (m-1)))->Q m s)->(kas_asc p f n).kasWp cmp Q s
 | 0,n,Q,hn,h=>h n (Nat.le_refl _) (Nat.le_refl _) (λt h1 h2=>by omega) λq=>by omega
 | f+1,n,Q,hn,h=>by
  show cmp _ _ _ s;refine hA _ _ _ (he.at _) (he.at _) ?_;cases hb:O.blt (key (p.getD n 0)) (key (p.getD (n-1) 0)) with
  | true=>exact h n (Nat.le_refl _) (by omega) (λt h1 h2=>by omega) λ_=>hb
  | false =>
   show (kas_asc p f (n+1)).kasWp cmp Q s;refine KH hA he f (n+1) (by omega) λm h1 h2 h3 h4=>h m (by omega) (by omega) (λt t1 t2=>?_) λq=>h4 (by omega)
   by_cases e:t=n
   ·subst e;exact hb
   ·exact h3 t (by omega) t2
theorem yX(hA:FU O key N cmp s):∀(f:Nat) (p:Array Nat) (n q:Nat) {Q:Array Nat×Nat×Nat->Shared->Prop},Ent N p->1<=n->n+f<=N->q+1<=n->Down O key p n->(∀i,n-(q+1)<=i->i<n->K O key p i=K O key p (n-1)) ->
  (∀p' n' q',p'.Perm p->Ent N p'->1<=n'->n<=n'->n'<=n+f->q'+1<=n'->Down O key p' n'->(∀i,n'-(q'+1)<=i->i<n'->K O key p' i=K O key p' (n'-1))->Q (p',n',q') s)->(kas_desc f p n q).kasWp cmp Q s
 | 0,p,n,q,Q,he,hn,hN,hq,hd,hl,h=>h p n q (Array.Perm.refl _) he hn (Nat.le_refl _) (Nat.le_refl _) hq hd hl
 | f+1,p,n,q,Q,he,hn,hN,hq,hd,hl,h=>by
  show cmp _ _ _ s;refine hA _ _ _ (he.at _) (he.at _) ?_;cases hb:O.blt (key (p.getD n 0)) (key (p.getD (n-1) 0)) with
  | true =>
   have hlt:O.klt (K O key p n) (K O key p (n-1)):=hb;have hd1:Down O key p (n+1):=λi j hij hj=>by
    by_cases e:j=n
    ·subst e
     by_cases e2:i=j
     ·subst e2;exact KeyOrd.kle_refl _
     ·exact KeyOrd.kle_trans (KeyOrd.kle_of_klt hlt) (hd i (j-1) (by omega) (by omega))
    ·exact hd i j hij (by omega)
   show (if q>0 then kas_desc f (kas_rev p (n-(q+1)) n) (n+1) 0 else kas_desc f p (n+1) 0).kasWp cmp Q s
   by_cases Wo:q>0
   ·rw[if_pos Wo]
    have ep:(kas_rev p (n-(q+1)) n).Perm p:=mirror_perm _ _ _ _;have eK:∀k,K O key (kas_rev p (n-(q+1)) n) k=K O key p k:=λk=>pW (by rw[he.1];omega) hl k;refine yX hA f _ (n+1) 0 (he.perm ep) (by omega) (by omega) (by omega) (λi j hij hj=>by rw[eK,eK];exact hd1 i j hij hj) (λi h1 h2=>?_) λp' n' q' g1 g2 g3 g4 g5 g6 g7 g8=>h p' n' q' (g1.trans ep) g2 g3 (by omega) (by omega) g6 g7 g8;have:i=n:=by omega
    subst this;rfl
   ·rw[if_neg Wo]
    refine yX hA f p (n+1) 0 he (by omega) (by omega) (by omega) hd1 (λi h1 h2=>?_) λp' n' q' g1 g2 g3 g4 g5 g6 g7 g8=>h p' n' q' g1 g2 g3 (by omega) (by omega) g6 g7 g8;have:i=n:=by omega
    subst this;rfl
  | false =>
   show cmp _ _ _ s;refine hA _ _ _ (he.at _) (he.at _) ?_;cases hc:O.blt (key (p.getD (n-1) 0)) (key (p.getD n 0)) with
   | true=>exact h p n q (Array.Perm.refl _) he hn (Nat.le_refl _) (by omega) hq hd hl
   | false =>
    have heq:K O key p n=K O key p (n-1):=O.total _ _ hb hc;show (kas_desc f p (n+1) (q+1)).kasWp cmp Q s;refine yX hA f p (n+1) (q+1) he (by omega) (by omega) (by omega) (λi j hij hj=>?_) (λi h1 h2=>?_) λp' n' q' g1 g2 g3 g4 g5 g6 g7 g8=>h p' n' q' g1 g2 g3 (by omega) (by omega) g6 g7 g8
    ·by_cases e:j=n
     ·subst e
      by_cases e2:i=j
      ·subst e2;exact KeyOrd.kle_refl _
      ·rw[heq];exact hd i (j-1) (by omega) (by omega)
     ·exact hd i j hij (by omega)
    ·show K O key p i=K O key p (n+1-1)
     rw[Nat.add_sub_cancel]
     by_cases e:i=n
     ·subst e;rfl
     ·rw[heq];exact hl i (by omega) (by omega)
theorem Cj(hA:FU O key N cmp s){p:Array Nat}{n nrem:Nat}(he:Ent N p)(h1:1<=n)(hn:n<=nrem)(hr:nrem<=N)(hd:Down O key p n)
  (h:∀m p',p'.Perm p->Ent N p'->1<=m->m<=nrem->Up O key p' m->Q (m,p') s):(kas_tail3 n nrem p).kasWp cmp Q s:=by
 unfold kas_tail3;rw[KasT.kasWp_bind];have ep:(kas_rev p 0 n).Perm p:=mirror_perm _ _ _ _;have hz:n<=p.size:=by rw[he.1];omega
 refine KH hA (he.perm ep) _ _ h1 λm a1 a2 a3 _=>h m _ ep (he.perm ep) (by omega) (by omega) (vo λt t1 t2=>?_)
 by_cases e:t<n
 ·rw[Ci hz,Ci hz,if_pos (by omega),if_pos (by omega)];exact hd _ _ (by omega) (by omega)
 ·exact a3 t (by omega) t2
theorem rZ(hA:FU O key N cmp s){p:Array Nat}{n nrem:Nat}(he:Ent N p)(hn:n+1<=nrem)(hr:nrem<=N)(hd:Down O key p (n+1))
  (h:∀m p',p'.Perm p->Ent N p'->1<=m->m<=nrem->Up O key p' m->Q (m,p') s):(kas_descPart n nrem p).kasWp cmp Q s:=by
 unfold kas_descPart;rw[KasT.kasWp_bind];have Oe:∀i,n+1-(0+1)<=i->i<n+1->K O key p i=K O key p (n+1-1):=λi h1 h2=>by
  have e:i=n:=by omega
  subst e;rfl
 refine yX hA (nrem-(n+1)) p (n+1) 0 he (by omega) (by omega) (by omega) hd Oe λp' n' q' g1 g2 g3 g4 g5 g6 g7 g8=>?_;show (if q'>0 then kas_tail3 n' nrem (kas_rev p' (n'-(q'+1)) n') else kas_tail3 n' nrem p').kasWp cmp Q s
 by_cases hq:q'>0
 ·rw[if_pos hq];have ep:(kas_rev p' (n'-(q'+1)) n').Perm p':=mirror_perm _ _ _ _;have eK:∀k,K O key (kas_rev p' (n'-(q'+1)) n') k=K O key p' k:=λk=>pW (by rw[g2.1];omega) g8 k;exact Cj hA (g2.perm ep) g3 (by omega) hr (λi j hij hj=>by rw[eK,eK];exact g7 i j hij hj) λm p'' a1 a2 a3 a4 a5=>h m p'' ((a1.trans ep).trans g1) a2 a3 a4 a5
 ·rw[if_neg hq];exact Cj hA g2 g3 (by omega) hr g7 λm p'' a1 a2 a3 a4 a5=>h m p'' (a1.trans g1) a2 a3 a4 a5
theorem KI(hA:FU O key N cmp s){p:Array Nat}{nrem:Nat}(he:Ent N p)(h1:1<=nrem)(hr:nrem<=N)
  (h:∀m p',p'.Perm p->Ent N p'->1<=m->m<=nrem->Up O key p' m->Q (m,p') s):(kas_count nrem p).kasWp cmp Q s:=by
 unfold kas_count;rw[KasT.kasWp_bind];refine KH hA he _ _ (Nat.le_refl _) λn a1 a2 a3 a4=>?_;have hup:Up O key p n:=vo λt t1 t2=>a3 t t1 t2
 by_cases e1:(n==nrem)=true
 ·rw[if_pos e1];exact h n p (Array.Perm.refl _) he a1 (by omega) hup
 ·rw[if_neg e1]
  have Wq:n≠nrem:=λz=>e1 (by simp[z]);have hlt:O.klt (K O key p n) (K O key p (n-1)):=a4 (by omega)
  by_cases e2:n>1
  ·rw[if_pos e2]
   show cmp _ _ _ s;refine hA _ _ _ (he.at _) (he.at _) ?_;cases hc:O.blt (key (p.getD 0 0)) (key (p.getD (n-1) 0)) with
   | true=>exact h n p (Array.Perm.refl _) he a1 (by omega) hup
   | false =>
    have hle:O.kle (K O key p (n-1)) (K O key p 0):=hc;have ep:(kas_rev p 0 n).Perm p:=mirror_perm _ _ _ _;have hall:∀k,0<=k->k<n->K O key p k=K O key p (n-1):=λk _ hk =>
     KeyOrd.kle_antisymm (hup k (n-1) (by omega) (by omega)) (KeyOrd.kle_trans hle (hup 0 k (by omega) hk))
    have eK:∀k,K O key (kas_rev p 0 n) k=K O key p k:=λk=>pW (by rw[he.1];omega) hall k;show (kas_descPart n nrem (kas_rev p 0 n)).kasWp cmp Q s;refine rZ hA (he.perm ep) (by omega) hr (λi j hij hj=>?_) λm p' b1 b2 b3 b4 b5=>h m p' (b1.trans ep) b2 b3 b4 b5;rw[eK,eK]
    by_cases ej:j=n
    ·subst ej
     by_cases ei:i=j
     ·subst ei;exact KeyOrd.kle_refl _
     ·rw[hall i (by omega) (by omega)];exact KeyOrd.kle_of_klt hlt
    ·rw[hall i (by omega) (by omega),hall j (by omega) (by omega)];exact KeyOrd.kle_refl _
  ·rw[if_neg e2]
   have en:n=1:=by omega
   subst en;refine rZ hA he (by omega) hr (λi j hij hj=>?_) λm p' b1 b2 b3 b4 b5=>h m p' b1 b2 b3 b4 b5
   by_cases ei:i=j
   ·subst ei;exact KeyOrd.kle_refl _
   ·have:i=0/\j=1:=by omega
    obtain⟨rfl,rfl⟩:=this;exact KeyOrd.kle_of_klt hlt
theorem x9(hA:FU O key N cmp s){p:Array Nat}{k:Nat}(he:Ent N p)(hs:Up O key p k):∀(f l r:Nat) {Q:Nat->Shared->Prop},l<=r->r<=k->r-l<=f ->
  (∀i,i<l->O.kle (K O key p i) (K O key p k))->(∀i,r<=i->i<k->O.klt (K O key p k) (K O key p i)) ->
  (∀l',l'<=k->(∀i,i<l'->O.kle (K O key p i) (K O key p k))->(∀i,l'<=i->i<k->O.klt (K O key p k) (K O key p i))->Q l' s)->(kas_place p k f l r).kasWp cmp Q s
 | 0,l,r,Q,hlr,hrk,hf,hlo,hhi,h=>by
  have:l=r:=by omega
  subst this;exact h l hrk hlo hhi
 | f+1,l,r,Q,hlr,hrk,hf,hlo,hhi,h=>by
  show (if l≥r then KasT.ret l else _).kasWp cmp Q s
  by_cases hge:l≥r
  ·rw[if_pos hge]
   have:l=r:=by omega
   subst this;exact h l hrk hlo hhi
  ·rw[if_neg hge]
   show cmp _ _ _ s;refine hA _ _ _ (he.at _) (he.at _) ?_;cases hb:O.blt (key (p.getD k 0)) (key (p.getD ((l+r)/2) 0)) with
   | true =>show (kas_place p k f l ((l+r)/2)).kasWp cmp Q s;exact x9 hA he hs f l ((l+r)/2) (by omega) (by omega) (by omega) hlo (λi h1 h2=>KeyOrd.klt_of_klt_of_kle hb (hs _ _ h1 h2)) h
   | false =>show (kas_place p k f ((l+r)/2+1) r).kasWp cmp Q s;exact x9 hA he hs f ((l+r)/2+1) r (by omega) (by omega) (by omega) (λi h1=>KeyOrd.kle_trans (hs i ((l+r)/2) (by omega) (by omega)) hb) hhi h
theorem Of(hA:FU O key N cmp s):∀(f:Nat) (p:Array Nat) (k:Nat) {Q:Array Nat->Shared->Prop},Ent N p->k+f<=N->Up O key p k->(∀p',p'.Perm p->Up O key p' (k+f)->Q p' s)->(kas_bin f p k).kasWp cmp Q s
 | 0,p,k,Q,he,hk,hs,h=>h p (Array.Perm.refl _) hs
 | f+1,p,k,Q,he,hk,hs,h=>by
  show ((kas_place p k k 0 k).bind λl=>kas_bin f (bubble p k (k-l)) (k+1)).kasWp cmp Q s;rw[KasT.kasWp_bind];refine x9 hA he hs k 0 k (by omega) (by omega) (by omega) (λi hi=>by omega) (λi h1 h2=>by omega) λl hl hlo hhi=>?_;have ep:(bubble p k (k-l)).Perm p:=bubble_perm _ _ _;have hks:k<p.size:=by rw[he.1];omega
  refine Of hA f _ (k+1) (he.perm ep) (by omega) (λi j hij hj=>?_) λp' a1 a2=>h p' (a1.trans ep) (by rwa [show k+(f+1)=k+1+f by omega]);rw[K_bubble hks (by omega),K_bubble hks (by omega),show k-(k-l)=l by omega]
  repeat' split
  all_goals first
   | (exfalso;omega)
   | exact KeyOrd.kle_refl _
   | exact hlo _ (by omega)
   | exact KeyOrd.kle_of_klt (hhi _ (by omega) (by omega))
   | exact hs _ _ (by omega) (by omega)
theorem Og(hA:FU O key N cmp s)(h1:1<=N)(h:∀p,p.Perm (toArray (List.range N))->Up O key p N->Q p s):(kas_sort N).kasWp cmp Q s:=by
 unfold kas_sort;rw[KasT.kasWp_bind];have he:Ent N (toArray (List.range N)):=⟨by simp,h1,λx hx=>by simpa using hx⟩;refine KI hA he h1 (Nat.le_refl _) λm p a1 a2 a3 a4 a5=>?_;show (if m<N then kas_bin (N-max m 1) p (max m 1) else KasT.ret p).kasWp cmp Q s;have em:max m 1=m:=by omega
 by_cases hlt:m<N
 ·rw[if_pos hlt,em];exact Of hA _ p m a2 (by omega) a5 λp' b1 b2=>h p' (b1.trans a1) (by rwa [show m+(N-m)=N by omega] at b2)
 ·rw[if_neg hlt]
  have:m=N:=by omega
  subst this;exact h p a1 a5
end
end oj
end L2
end
section
namespace L2
open PySem PySem.W PyProof.Rows
namespace oj
theorem cD{α:Type}(l:List α)(d:α):(List.range l.length).map (λi=>l.getD i d)=l:=by
 refine ext_getElem (by simp) λi h1 h2=>?_;simp[h2]
section
variable {prog:Program} {w:World} {A:Around} {E:Value->Shared->Prop} {s:Shared}
noncomputable def r6(prog:Program)(w:World)(A:Around)(O:KeyOrd)(key:Nat->O.α)(vs:List Value)(s6:Shared):Prop :=
 wpAny (model prog w) A (keyKind' vs.toArray) (λκ s'=>s'=s6/\FU O key vs.length (kas_ask prog w A κ vs) s6) (λ_ _=>False) s6
structure Ck (O:KeyOrd) (key:Nat->O.α) (n:Nat) (p:List Nat):Prop where
 perm:p.Perm (List.range n)
 up:(p.map key).Pairwise O.kle
theorem FW{n:Nat}{p:Array Nat}(h1:p.Perm (toArray (List.range n)))(h2:Up O key p n):Ck O key n p.toList:=by
 have hp:p.toList.Perm (List.range n):=by simpa using Array.perm_iff_toList_perm.mp h1
 refine⟨hp,pairwise_iff_getElem.mpr λi j hi hj hij=>?_⟩;have hz:p.toList.length=n:=by rw[hp.length_eq,length_range]
 rw[length_map] at hi hj;have q:=h2 i j (Nat.le_of_lt hij) (by omega);have ei:p.getD i 0=p.toList[i]:=by simp at hi;simp[Array.getD,hi]
 have ej:p.getD j 0=p.toList[j]:=by simp at hj;simp[Array.getD,hj]
 unfold K at q;rw[ei,ej] at q;rw[getElem_map,getElem_map];exact q
theorem Cm{n:Nat}(ho:s.heap.get? a=some (seqObj "list" vs.toArray n))(h64:vs.length<64)
  (hk:2<=vs.length->∀h6:Heap,(∀b o,b≠a->s.heap.get? b=some o->h6.get? b=some o)->r6 prog w A O key vs { s with heap:=h6 })
  (h:∀p,Ck O key vs.length p->P (.done (.ret .none)) { s with heap:=sortedHeap s.heap a vs (p.map λi=>vs.getD i Value.none).toArray }) :
  wpAny (model prog w) A (Builtin.«list.sort» ⟨[.ref a],[]⟩) P E s:=by
 have alt:a<s.heap.objs.size:=lt_size ho;have big:vs.length<=sizeLine:=by rw[sizeLine_eq];omega
 rw[list_sort_plain];apply wpAny_bind;apply listItems_at ho rfl;apply wpAny_bind;refine listUpdate_at ho rfl ?_ (by rw[size_toArray];exact big) (zero_le _);have q1:=get?_update_seq ho (λ_=>(#[]:Array Value));apply wpAny_bind;apply seqEpoch_at q1 rfl;apply wpAny_bind;refine wpAny_newTuple ?_ (by show vs.length<=sizeLine;exact big);apply wpAny_bind;refine wpAny_newList ?_ (zero_le _);apply wpAny_holding;generalize hN:((s.heap.update a (Obj.mapSeq λ_=>(#[]:Array Value))).push (seqObj "tuple" vs.toArray 0)).push (seqObj "list" #[] 0)=h6;have Oh:∀b o,b≠a->s.heap.get? b=some o->h6.get? b=some o:=λb o hb e=>by
  rw[<-hN];refine get?_push_of_some _ (get?_push_of_some _ ?_);rw[Heap.get?_update_ne _ _ _ _ hb];exact e
 have q6:h6.get? a=some (seqObj "list" #[] (if (#[]:Array Value).size==vs.toArray.size then n else n+1)):=by rw[<-hN];exact get?_push_of_some _ (get?_push_of_some _ q1)
 have eS:∀out,h6.update a (Obj.mapSeq λ_=>out)=sortedHeap s.heap a vs out:=λout=>by rw[<-hN];rfl
 show wpAny (model prog w) A _ P E { s with heap:=h6 };dsimp only
 by_cases h2:vs.toArray.size<2
 ·rw[if_pos h2,if_pos h2]
  apply wpAny_bind;apply wpAny_pure;rw[StateT.run_pure];apply wpAny_bind;apply wpAny_pure;dsimp only;have eo:(arrOf (SortSt.mk' general' (vs.toArray.zip vs.toArray) #[] 7 none)).map (·.2)=vs.toArray:=by show (vs.toArray.zip vs.toArray).map (·.2)=vs.toArray;apply Array.toList_inj.mp;simp[List.map_snd_zip]
  rw[eo];apply wpAny_bind;apply seqEpoch_at q6 rfl;apply wpAny_bind;refine listUpdate_at q6 rfl ?_ (zero_le _) (by show vs.toArray.size<=_;rw[size_toArray];omega);have hb:((if (#[]:Array Value).size==vs.toArray.size then n else n+1) != (if (#[]:Array Value).size==vs.toArray.size then n else n+1))=false:=by simp
  rw[eS];simp only[hb,false_eq_true,if_false];apply wpAny_pure;have g:=h (List.range vs.length) ⟨List.Perm.refl _,?_⟩
  ·rw[cD] at g;exact g
  ·rw[size_toArray] at h2;refine pairwise_iff_getElem.mpr λi j hi hj hij=>?_;simp at hi hj;omega
 ·rw[if_neg h2,if_neg h2]
  rw[size_toArray] at h2;have ask:=hk (by omega) h6 Oh;apply wpAny_bind;refine wpAny_mono ask (λκ s0 hκ=>?_) λ_ _ x=>x.elim;obtain⟨rfl,Yh⟩:=hκ;apply wpAny_bind;refine wpAny_mono (kat_run (Q:=λst' s'=>s'={ s with heap:=h6 }/\∃p:Array Nat,Ck O key vs.length p.toList/\p.size=vs.length/\(arrOf st').map (·.2)=(p.toList.map λi=>vs.getD i Value.none).toArray/\failedOf st'=none)
   (G:=λp s'=>s'={ s with heap:=h6 }/\Ck O key vs.length p.toList) rfl (by omega) h64 (λp st' s' a1 a2 a3 a4=>⟨a4.1,p,a4.2,a1,kat_snds rfl a2,a3⟩)
   (Og Yh (by omega) λp b1 b2=>⟨rfl,FW b1 b2⟩)) ?_ λ_ _ x=>x
  rintro⟨⟨⟩,st'⟩ s' ⟨rfl,p,op,pz,er,ef⟩;dsimp only;rw[er];apply wpAny_bind;apply seqEpoch_at q6 rfl;apply wpAny_bind;refine listUpdate_at q6 rfl ?_ (zero_le _) (by show (toArray _).size<=_;rw[size_toArray,length_map,length_toList,pz];omega);have hb:((if (#[]:Array Value).size==vs.toArray.size then n else n+1) != (if (#[]:Array Value).size==vs.toArray.size then n else n+1))=false:=by simp
  rw[eS,ef];simp only[hb,false_eq_true,if_false];exact wpAny_pure (h p.toList op)
theorem gM
  (h:wpAny (model prog w) A.in1 (collect x) (λvs s1=>vs.length<64/\∃key:Nat->O.α,(2<=vs.length->∀h6:Heap,(∀b o,s1.heap.get? b=some o->h6.get? b=some o)->r6 prog w A.in1.in1 O key vs { s1 with heap:=h6 }) /\
   ∀p h',Ck O key vs.length p->(∀b o,s1.heap.get? b=some o->h'.get? b=some o)->(∃e,h'.get? s1.heap.objs.size=some (seqObj "list" (p.map λi=>vs.getD i Value.none).toArray e))->Q (.ref s1.heap.objs.size) { s1 with heap:=h' }) E s) :
  wpAny (model prog w) A (call (.builtin "sorted") [x]) Q E s:=by
 refine Calls.call_function_entry kind_sorted plain_sorted entry_sorted (args_sorted1 _) ?_;unfold Builtin.«sorted»;refine wpAny_bind (m:=checkCount "sorted" 1 1 _) (wpAny_pure ?_);apply wpAny_bind;refine wpAny_mono h (λvs s1 ⟨h64,key,hk,hq⟩=>?_) λ_ _ z=>z;have big:vs.length<=sizeLine:=by rw[sizeLine_eq];omega
 apply wpAny_bind;refine wpAny_newList ?_ big;have q:(s1.heap.push (seqObj "list" vs.toArray 0)).get? s1.heap.objs.size=some (seqObj "list" vs.toArray 0):=get?_push_size _ rfl;apply wpAny_bind;apply wpAny_holding;refine wpAny_call_entry (s:={ s1 with heap:=s1.heap.push (seqObj "list" vs.toArray 0) }) slot_list_sort ⟨_,q,rfl⟩ entry_list_sort ?_ (args_list_sort _);refine Cm (key:=key) (s:={ s1 with heap:=s1.heap.push (seqObj "list" vs.toArray 0) }) q h64 (λh2 h6 k6=>?_) λp op=>⟨_,rfl,wpAny_pure ⟨_,rfl,?_⟩⟩
 ·exact hk h2 h6 λb o e=>k6 b o (ne_of_lt (lt_size e)) (get?_push_of_some _ e)
 ·refine hq p _ op (λb o e=>?_) (sortedHeap_at q);rw[sortedHeap_old (ne_of_lt (lt_size e)) (by rw[size_push'];exact lt_succ_of_lt (lt_size e))];exact get?_push_of_some _ e
end
noncomputable def pX:KeyOrd where
 α:=Int
 blt:=λa b=>decide (a<b)
 irrefl:=λa=>by simp
 trans:=λa b c h1 h2=>by simp at *;omega
 negTrans:=λa b c h=>by simp at *;omega
 total:=λa b h1 h2=>by simp at *;omega
theorem pY{s6:Shared}{ns:List Int}(hI:IntsAre vs ns)(h2:2<=vs.length):r6 prog w A pX (λi=>ns.getD i 0) vs s6:=by
 have at_:∀i,i<vs.length->∃t,vs.getD i Value.none=.int (ns.getD i 0) t:=by
  intro i hi
  induction hI generalizing i with
  | nil=>simp at hi
  | cons z t r ih =>
   cases i with
   | zero=>exact⟨t,by simp⟩
   | succ i =>
    by_cases hr:2<=1
    ·omega
    ·simp only[length_cons] at hi
     have aux:∀{vs:List Value} {ns:List Int},IntsAre vs ns->∀i,i<vs.length->∃t,vs.getD i Value.none=.int (ns.getD i 0) t:=by
      intro vs ns q
      induction q with
      | nil=>intro i hi;simp at hi
      | cons z t r ih =>
       intro i hi;cases i with
       | zero=>exact⟨t,by simp⟩
       | succ i=>simp only[length_cons] at hi;obtain⟨u,e⟩:=ih i (by omega);exact⟨u,by simpa using e⟩
     obtain⟨u,e⟩:=aux r i (by omega);exact⟨u,by simpa using e⟩
 obtain⟨v₁,v₂,rest,rfl⟩:∃v₁ v₂ rest,vs=v₁::v₂::rest:=by
  match vs,h2 with
  | v₁::v₂::rest,_=>exact⟨v₁,v₂,rest,rfl⟩
 unfold r6;rw[keyKind_ints hI];refine wpAny_pure ⟨rfl,λi j C hi hj hc=>?_⟩;obtain⟨t,e1⟩:=at_ i hi;obtain⟨u,e2⟩:=at_ j hj;unfold kas_ask;rw[e1,e2,keyLt'_oneType];exact oneLt_int hc
theorem jA:∀a,HT.lexLt a a=false
 | []=>rfl
 | x::xs=>by rw[HT.fK,if_pos rfl];exact jA xs
theorem iw:∀a b,HT.lexLt a b=false->HT.lexLt b a=false->a=b
 | [],[],_,_=>rfl
 | [],_::_,h,_=>by rw[HT.gK] at h;cases h
 | _::_,[],_,h=>by rw[HT.gK] at h;cases h
 | x::xs,y::ys,h1,h2=>by
  rw[HT.fK] at h1 h2
  by_cases e:x=y
  ·subst e;rw[if_pos rfl] at h1 h2;rw[iw xs ys h1 h2]
  ·rw[if_neg e] at h1;rw[if_neg (λz=>e z.symm)] at h2;simp at h1 h2;omega
theorem iy:∀a b c,HT.lexLt a b=true->HT.lexLt b c=true->HT.lexLt a c=true
 | [],[],c,h,_=>by rw[HT.rm] at h;cases h
 | [],_::_,[],_,h=>by rw[HT.eY] at h;cases h
 | [],_::_,_::_,_,_=>rfl
 | _::_,[],_,h,_=>by rw[HT.eY] at h;cases h
 | _::_,_::_,[],_,h=>by rw[HT.eY] at h;cases h
 | x::xs,y::ys,z::zs,h1,h2=>by
  rw[HT.fK] at h1 h2 |-
  by_cases e1:x=y
  ·subst e1
   rw[if_pos rfl] at h1
   by_cases e2:x=z
   ·subst e2;rw[if_pos rfl] at h2 |-;exact iy xs ys zs h1 h2
   ·rw[if_neg e2] at h2 |-;exact h2
  ·rw[if_neg e1] at h1
   by_cases e2:y=z
   ·subst e2;rw[if_neg e1];exact h1
   ·rw[if_neg e2] at h2;simp at h1 h2;rw[if_neg (by omega)];simp;omega
theorem r8(a b c:List Int)(h:HT.lexLt a c=true):HT.lexLt a b=true\/HT.lexLt b c=true:=by
 cases h1:HT.lexLt a b with
 | true=>exact .inl rfl
 | false =>
  cases h2:HT.lexLt b c with
  | true=>exact .inr rfl
  | false =>
   cases h3:HT.lexLt b a with
   | true=>have:=iy _ _ _ h3 h;rw[h2] at this;cases this
   | false=>rw[iw _ _ h1 h3] at h;rw[h2] at h;cases h
noncomputable def lexOrd:KeyOrd where
 α:=List Int
 blt:=HT.lexLt
 irrefl:=jA
 trans:=iy
 negTrans:=r8
 total:=iw
section
variable {prog:Program} {w:World} {A:Around} {s:Shared}
theorem om{b fin:Bool}:∀{us vs:List Value} {ns ms:List Int} (i:Nat),IntsAre us ns->IntsAre vs ms->(ns.length<ms.length↔fin=true)->us.length=ns.length ->
  Q (HT.lexLt ns ms) s->(ns.length=ms.length\/i=i)->(∀k,k<ns.length->k<ms.length->True)->(ns.length≠ms.length->True)->(fin=decide (ns.length<ms.length))->KatLex prog w A b fin Q (us.zip vs) i s
 | _,_,_,_,i,.nil,.nil,_,_,hq,_,_,_,hf=>by
  refine kat_nil ?_;rw[hf];exact hq
 | _,_,_,_,i,.nil,.cons _ _ _,_,_,hq,_,_,_,hf=>by
  refine kat_nil ?_;rw[hf];simpa [HT.gK] using hq
 | _,_,_,_,i,.cons _ _ _,.nil,_,_,hq,_,_,_,hf=>by
  refine kat_nil ?_;rw[hf];simpa [HT.eY] using hq
 | _,_,_,_,i,.cons x t r,.cons y u r',h1,h2,hq,_,_,_,hf=>by
  refine kat_cons (wpAny_eqBool_int ?_);rw[HT.fK] at hq
  by_cases e:x=y
  ·subst e
   rw[if_pos rfl] at hq;rw[beq_self_eq_true];refine kat_yes (om (i+1) r r' ?_ ?_ hq (.inr rfl) (λ_ _ _=>trivial) (λ_=>trivial) ?_)
   ·simpa using h1
   ·simpa using h2
   ·rw[hf];simp
  ·rw[if_neg e] at hq
   rw[show (x==y)=false from beq_eq_false_iff_ne.mpr e];refine kat_no ?_;cases hb:(b&&i==0) with
   | true=>exact oneLt_int hq
   | false=>exact kat_one _ _ (PyProof.Rows.lt_int hq)
end
end oj
end L2
end
section
namespace L2
open PySem PySem.Spec PyProof.Rows
noncomputable def Ss:Key->PyData
 | .inl i=>.int i
 | .inr x=>.str x
mutual
noncomputable def Den(K:PySem.W.Frag)(H:Hp):PyData->V->Prop
 | .none,v=>v=.non
 | .bool b,v=>v=.bl b
 | .int i,v=>v=.int i
 | .str x,v=>v=.str x
 | .list ds,v=>∃a xs,v=.ref a/\gI K H a xs/\eV K H ds xs
 | .tuple ds,v=>∃a xs,v=.ref a/\jv K H a xs/\eV K H ds xs
 | .dict kvs,v=>∃a ks,v=.ref a/\H a=some (.dK ks)/\lW K H kvs ks
noncomputable def eV(K:PySem.W.Frag)(H:Hp):List PyData->List V->Prop
 | [],xs=>xs=[]
 | d::ds,xs=>∃x r,xs=x::r/\Den K H d x/\eV K H ds r
noncomputable def lW(K:PySem.W.Frag)(H:Hp):List (PyData×PyData)->List (Key×V)->Prop
 | [],ks=>ks=[]
 | (k,d)::r,ks=>∃key x rest,ks=(key,x)::rest/\k=Ss key/\Den K H d x/\lW K H r rest
end
theorem x6.tup{K:PySem.W.Frag}{H H':Hp}{a:Addr}{xs:List V}(e:x6 H H')(h:jv K H a xs):jv K H' a xs:=by
 rcases h with (h|⟨o,h⟩)|h
 ·exact .inl (.inl (e _ _ h))
 ·exact .inl (.inr ⟨o,e _ _ h⟩)
 ·exact .inr h
section
variable {K:PySem.W.Frag} {H H':Hp}
mutual
theorem Den.same(e:x6 H H'):∀(d:PyData) (v:V),Den K H d v->Den K H' d v
 | .none,_,h=>by rw[Den] at h |-;exact h
 | .bool _,_,h=>by rw[Den] at h |-;exact h
 | .int _,_,h=>by rw[Den] at h |-;exact h
 | .str _,_,h=>by rw[Den] at h |-;exact h
 | .list ds,v,h=>by
  rw[Den] at h |-;obtain⟨a,xs,q1,q2,q3⟩:=h;exact⟨a,xs,q1,e.seq q2,eV.same e ds xs q3⟩
 | .tuple ds,v,h=>by
  rw[Den] at h |-;obtain⟨a,xs,q1,q2,q3⟩:=h;exact⟨a,xs,q1,e.tup q2,eV.same e ds xs q3⟩
 | .dict kvs,v,h=>by
  rw[Den] at h |-;obtain⟨a,ks,q1,q2,q3⟩:=h;exact⟨a,ks,q1,e _ _ q2,lW.same e kvs ks q3⟩
theorem eV.same(e:x6 H H'):∀(ds:List PyData) (xs:List V),eV K H ds xs->eV K H' ds xs
 | [],_,h=>by rw[eV] at h |-;exact h
 | d::ds,xs,h=>by
  rw[eV] at h |-;obtain⟨x,r,q1,q2,q3⟩:=h;exact⟨x,r,q1,Den.same e d x q2,eV.same e ds r q3⟩
theorem lW.same(e:x6 H H'):∀(kvs:List (PyData×PyData)) (ks:List (Key×V)),lW K H kvs ks->lW K H' kvs ks
 | [],_,h=>by rw[lW] at h |-;exact h
 | (k,d)::r,ks,h=>by
  rw[lW] at h |-;obtain⟨key,x,rest,q1,q2,q3,q4⟩:=h;exact⟨key,x,rest,q1,q2,Den.same e d x q3,lW.same e r rest q4⟩
end
theorem eV.nil:eV K H [] []:=by rw[eV]
theorem eV.cons{d:PyData}{ds:List PyData}{x:V}{r:List V}(h1:Den K H d x)(h2:eV K H ds r):eV K H (d::ds) (x::r):=by rw[eV];exact⟨x,r,rfl,h1,h2⟩
theorem Den.int{i:Int}:Den K H (.int i) (.int i):=by rw[Den]
theorem Den.str:Den K H (.str x) (.str x):=by rw[Den]
theorem Den.bool{b:Bool}:Den K H (.bool b) (.bl b):=by rw[Den]
theorem Den.none:Den K H .none .non:=by rw[Den]
theorem Den.list(h:gI K H a xs)(q:eV K H ds xs):Den K H (.list ds) (.ref a):=by rw[Den];exact⟨a,xs,rfl,h,q⟩
theorem Den.tuple(h:jv K H a xs)(q:eV K H ds xs):Den K H (.tuple ds) (.ref a):=by rw[Den];exact⟨a,xs,rfl,h,q⟩
end
section
variable {X:Cx} {pins:List (Addr×Obj)} {σ:St} {H:Hp} {s:Shared}
mutual
theorem Den.reads(I:Inv X pins σ H s):∀(d:PyData) (v:V) (u:Value),d.canLay0=true->Den X.K H d v->RelV v u->∃as,Reads s.heap u d as
 | .none,v,u,_,h,r=>by rw[Den] at h;subst h;cases r;exact⟨_,.none⟩
 | .bool b,v,u,_,h,r=>by rw[Den] at h;subst h;cases r;exact⟨_,.bool b⟩
 | .int i,v,u,_,h,r=>by rw[Den] at h;subst h;obtain⟨t,rfl⟩:=r;exact⟨_,.int i t⟩
 | .str x,v,u,_,h,r=>by rw[Den] at h;subst h;obtain⟨t,rfl⟩:=r;exact⟨_,.str x t⟩
 | .list ds,v,u,c,h,r=>by
  rw[Den] at h;obtain⟨a,xs,rfl,q1,q2⟩:=h;cases r;obtain⟨its,rv,⟨o,n,e1,e2,_,e3⟩,_⟩:=I.list q1;obtain⟨as,ra⟩:=eV.reads I ds xs its (by simpa [PyData.canLay0] using c) q2 rv;exact⟨_,.list e1 e2 e3 (by simpa using ra)⟩
 | .tuple ds,v,u,c,h,r=>by
  rw[Den] at h;obtain⟨a,xs,rfl,q1,q2⟩:=h;cases r;obtain⟨its,rv,⟨o,e1,e2,n,e3⟩,_⟩:=I.tuple q1;obtain⟨as,ra⟩:=eV.reads I ds xs its (by simpa [PyData.canLay0] using c) q2 rv;exact⟨_,.tuple e1 e2 e3 (by simpa using ra)⟩
 | .dict _,_,_,c,_,_=>by simp[PyData.canLay0] at c
theorem eV.reads(I:Inv X pins σ H s):∀(ds:List PyData) (xs:List V) (us:List Value),PyData.canLayAll0 ds=true->eV X.K H ds xs->Vals xs us->∃as,ReadsAll s.heap us ds as
 | [],xs,us,_,h,r=>by rw[eV] at h;subst h;cases r;exact⟨_,.nil⟩
 | d::ds,xs,us,c,h,r=>by
  have c':d.canLay0=true/\PyData.canLayAll0 ds=true:=by simpa [PyData.canLayAll0] using c
  rw[eV] at h;obtain⟨x,rest,rfl,q1,q2⟩:=h;cases r with
  | cons r1 r2 =>obtain⟨as,ra⟩:=Den.reads I d x _ c'.1 q1 r1;obtain⟨bs,rb⟩:=eV.reads I ds rest _ c'.2 q2 r2;exact⟨_,.cons ra rb⟩
end
end
section
variable {X:Cx}
noncomputable def Su(K:PySem.W.Frag):R2:=λx y H Q=>∃d e,Den K H d x/\Den K H e y/\d.canLay0=true/\e.canLay0=true/\d.depth<=60/\Q (.bl (PyData.eqv d e)) H
noncomputable def Sv(K:PySem.W.Frag):R2:=λx y H Q=>∃d e,Den K H d x/\Den K H e y/\d.canLay0=true/\e.canLay0=true/\d.depth<=60/\Q (.bl (!PyData.eqv d e)) H
theorem KJ(hu:X.A.units+64<cLine):kC X (compareOp .Eq) (Su X.K):=by
 intro pins s σ H x y v u Q I rx ry h;obtain⟨d,e,hd,he,c1,c2,hz,q⟩:=h;obtain⟨as,ra⟩:=Den.reads I d x v c1 hd rx;obtain⟨bs,rb⟩:=Den.reads I e y u c2 he ry;exact SeqAt.compareEq_reads ra rb c1 c2 (by have:=Nat.min_le_left d.depth e.depth;omega) ⟨.bl _,H,I,rfl,q⟩
theorem KL(hu:X.A.units+64<cLine):kC X (compareOp .NotEq) (Sv X.K):=by
 intro pins s σ H x y v u Q I rx ry h;obtain⟨d,e,hd,he,c1,c2,hz,q⟩:=h;obtain⟨as,ra⟩:=Den.reads I d x v c1 hd rx;obtain⟨bs,rb⟩:=Den.reads I e y u c2 he ry;exact SeqAt.compareNe_reads ra rb c1 c2 (by have:=Nat.min_le_left d.depth e.depth;omega) ⟨.bl _,H,I,rfl,q⟩
theorem pZ{ns:List Int}(I:Inv X pins σ H s)(hq:gI X.K H p (ns.map V.int))(h64:ns.length<64)
  (q:∀l,H l=none->Q (.ref l) (upd H l (.lst ((PySem.W.sortI ns).map V.int)))):wpAny (model X.prog X.w) X.A (call (.builtin "sorted") [.ref p]) (EP X pins σ Q) X.xe s:=by
 obtain⟨its,rv,pl,hz⟩:=I.list hq;have hi:=intsAre_of rv;have hl:=hi.length;refine sorted_ints pl.isList hi (by omega) λout ns' a1 a2 a3=>?_;obtain⟨e,he⟩:=sortedAll_at s.heap its out;have es:ns'=PySem.W.sortI ns:=eq_sortI a2 a3;subst es;have hn:H (s.heap.objs.size+1)=none:=I.hok.fresh (le_succ _);refine⟨.ref (s.heap.objs.size+1),_,I.laid (t':=s.toks) (λb o z=>sortedAll_old z) (le_succ _) (show bY X.prog X.w _ _ _ (.lst ((PySem.W.sortI ns).map V.int)) from⟨?_,out.toList,e,iT a1,by simpa using he⟩),rfl,q _ hn⟩;rw[length_map,(sortI_perm ns).length_eq,sizeLine_eq];omega
theorem nt:cC X (.builtin "sorted") (λxs H Q=>∃p ns,xs=[.ref p]/\gI X.K H p (ns.map V.int)/\ns.length<64/\∀l,H l=none->Q (.ref l) (upd H l (.lst ((PySem.W.sortI ns).map V.int)))):=by
 intro pins s σ H xs us Q I r h;obtain⟨p,ns,rfl,hq,h64,q⟩:=h;obtain⟨u,rfl,ru⟩:=vals1 r;cases ru;exact pZ I hq h64 q
noncomputable def Oi(K:PySem.W.Frag)(H:Hp)(r:Addr×List Int):Prop:=jv K H r.1 (r.2.map V.int)/\r.2≠[]
theorem ya{pins:List (Addr×Obj)}{σ:St}{H:Hp}{s:Shared}{A:Around}{rs:List (Addr×List Int)}{h6:Heap}{s6:Shared}(I:Inv X pins σ H s)(ht:∀r∈rs,Oi X.K H r)(h2:2<=rs.length)(k:∀b o,s.heap.get? b=some o->s6.heap.get? b=some o) :
  oj.r6 X.prog X.w A oj.lexOrd (λi=>(rs.getD i (0,[])).2) (rs.map λr=>Value.ref r.1) s6:=by
 have tup:∀r∈rs,∃its o n,s6.heap.get? r.1=some o/\o.cls=.type "tuple" /\ o.data=.seq (toArray its) n/\IntsAre its r.2:=λr hr=>by
  obtain⟨its,rv,⟨o,e1,e2,n,e3⟩,_⟩:=I.tuple (ht r hr).1;exact⟨its,o,n,k _ _ e1,e2,e3,intsAre_of rv⟩
 have kt:∀rs:List (Addr×List Int),(∀r∈rs,∃its o n,s6.heap.get? r.1=some o/\o.cls=.type "tuple" /\ o.data=.seq (toArray its) n/\IntsAre its r.2)->(∀r∈rs,r.2≠[]) ->
   ∃fs,PySem.W.KatTups s6.heap (rs.map λr=>Value.ref r.1) fs/\fs.length=rs.length/\∀v∈fs,∃i t,v=Value.int i t:=by
  intro rs
  induction rs with
  | nil=>intro _ _;exact⟨[],PySem.W.KatTups.nil,rfl,λv hv=>nomatch hv⟩
  | cons r rs ih =>
   intro g1 g2;obtain⟨fs,q1,q2,q3⟩:=ih (λr' hr'=>g1 r' (mem_cons_of_mem _ hr')) λr' hr'=>g2 r' (mem_cons_of_mem _ hr');obtain⟨its,o,n,e1,e2,e3,hi⟩:=g1 r mem_cons_self;have hne:=g2 r mem_cons_self;cases hr:r.2 with
   | nil=>exact absurd hr hne
   | cons i is =>
    rw[hr] at hi;cases hi with
    | cons _ t hi' =>
     refine⟨.int i t::fs,PySem.W.KatTups.cons e1 e2 e3 (by simp) q1,by simp[q2],λv hv=>?_⟩
     rcases mem_cons.mp hv with z|z
     ·exact⟨i,t,z⟩
     ·exact q3 v z
 obtain⟨fs,q1,q2,q3⟩:=kt rs tup λr hr=>(ht r hr).2;unfold oj.r6;refine PySem.W.kat_kind q1 (by omega) (T:=Value.type "int") (λv hv=>?_) rfl ⟨rfl,λi j C hi hj hc=>?_⟩
 ·obtain⟨i,t,rfl⟩:=q3 v hv;exact PySem.W.Looks.of_pure rfl
 ·rw[length_map] at hi hj
  unfold PySem.W.kas_ask;have e1:(rs.map λr=>Value.ref r.1).getD i Value.none=Value.ref rs[i].1:=by simp[hi]
  have e2:(rs.map λr=>Value.ref r.1).getD j Value.none=Value.ref rs[j].1:=by simp[hj]
  have e3:rs.getD i (0,[])=rs[i]:=by simp[hi]
  have e4:rs.getD j (0,[])=rs[j]:=by simp[hj]
  rw[e1,e2];simp only[e3,e4] at hc;obtain⟨its,o,n,a1,a2,a3,a4⟩:=tup rs[i] (List.getElem_mem hi);obtain⟨its',o',n',b1,b2,b3,b4⟩:=tup rs[j] (List.getElem_mem hj);have l1:=a4.length;have l2:=b4.length;refine kat_lt a1 a3 b1 b3 (oj.om 0 a4 b4 ?_ l1 hc (.inr rfl) (λ_ _ _=>trivial) (λ_=>trivial) ?_)
  ·rw[size_toArray,size_toArray,l1,l2];simp
  ·rw[size_toArray,size_toArray,l1,l2]
theorem AD{rs:List (Addr×List Int)}:∀{us:List Value},Vals (rs.map λr=>V.ref r.1) us->us=rs.map λr=>Value.ref r.1:=by
 induction rs with
 | nil=>intro us r;cases r;rfl
 | cons a rs ih =>
  intro us r;cases r with
  | cons r1 r2=>cases r1;rw[ih r2];rfl
theorem nu:cC X (.builtin "sorted") (λxs H Q=>∃(p:Addr) (rs:List (Addr×List Int)),xs=[.ref p]/\gI X.K H p (rs.map λr=>V.ref r.1)/\rs.length<64/\(∀r∈rs,Oi X.K H r) /\
  ∀(l:Addr) (qs:List (Addr×List Int)),H l=none->qs.Perm rs->qs.Pairwise (λa b=>HT.lexLt b.2 a.2=false)->Q (.ref l) (upd H l (.lst (qs.map λr=>V.ref r.1)))):=by
 intro pins s σ H xs us Q I r h;obtain⟨p,rs,rfl,hq,h64,ht,q⟩:=h;obtain⟨u,rfl,ru⟩:=vals1 r;cases ru;obtain⟨its,rv,pl,hz⟩:=I.list hq;have ev:=AD rv;subst ev;refine oj.gM (O:=oj.lexOrd) (collect_list pl.isList ?_ (by rw[length_map,sizeLine_eq];omega));have k1:∀b o,s.heap.get? b=some o->((s.heap.push (seqObj "list" #[] 0)).update s.heap.objs.size (Obj.mapSeq (· ++ (rs.map λr=>Value.ref r.1).toArray))).get? b=some o:=λb o e=>by
  rw[Heap.get?_update_ne _ _ _ _ (ne_of_lt (lt_size e))];exact get?_push_of_some _ e
 have Yi:((s.heap.push (seqObj "list" #[] 0)).update s.heap.objs.size (Obj.mapSeq (· ++ (rs.map λr=>Value.ref r.1).toArray))).objs.size=s.heap.objs.size+1:=by rw[Heap.size_update,size_push']
 refine⟨by rw[length_map];exact h64,λi=>(rs.getD i (0,[])).2,λh2 h6 k6=>?_,λpp h' op k' he=>?_⟩
 ·rw[length_map] at h2;exact ya (h6:=h6) I ht h2 λb o e=>k6 b o (k1 b o e)
 ·rw[length_map] at op
  dsimp only at k' he |-;rw[Yi] at he |-;obtain⟨e,he⟩:=he;have hn:H (s.heap.objs.size+1)=none:=I.hok.fresh (le_succ _);have lp:pp.length=rs.length:=by rw[op.perm.length_eq,length_range]
  have mem:∀i∈pp,i<rs.length:=λi hi=>by simpa using op.perm.mem_iff.mp hi
  have Sw:(pp.map λi=>(rs.map λr=>Value.ref r.1).getD i Value.none)=(pp.map λi=>rs.getD i (0,[])).map λr=>Value.ref r.1:=by rw[map_map];refine map_congr_left λi hi=>?_;simp[mem i hi]
  have qp:(pp.map λi=>rs.getD i (0,[])).Perm rs:=by have:=op.perm.map λi=>rs.getD i (0,[]);rwa [oj.cD] at this
  have qs:(pp.map λi=>rs.getD i (0,[])).Pairwise (λa b=>HT.lexLt b.2 a.2=false):=by have up1:=pairwise_map.mp op.up;exact pairwise_map.mpr up1
  refine⟨.ref (s.heap.objs.size+1),_,I.laid (t':=s.toks) (λb o z=>k' b o (k1 b o z)) (le_succ _) (show bY X.prog X.w _ _ _ (.lst ((pp.map λi=>rs.getD i (0,[])).map λr=>V.ref r.1)) from⟨?_,_,e,?_,he⟩),rfl,q _ _ hn qp qs⟩
  ·rw[length_map,length_map,lp,sizeLine_eq];omega
  ·rw[Sw]
   generalize (pp.map λi=>rs.getD i (0,[]))=zs
   induction zs with
   | nil=>exact .nil
   | cons z zs ih=>exact .cons rfl ih
theorem yY{ns:List Int}(h:IntsAre us ns):∀(i:Nat) (v:Value),us[i]?=some v->∃t,v=.int (ns.getD i 0) t:=by
 induction h with
 | nil=>intro i v e;simp at e
 | cons z t r ih =>
  intro i v e;cases i with
  | zero=>simp at e;exact⟨t,by simp[<-e]⟩
  | succ i=>obtain⟨u,q⟩:=ih i v (by simpa using e);exact⟨u,by simpa using q⟩
theorem r9{pins:List (Addr×Obj)}{σ:St}{H:Hp}{s:Shared}{p:Addr}{ns:List Int}(I:Inv X pins σ H s)(hc:X.calm=true)(hq:gI X.K H p (ns.map V.int)\/jv X.K H p (ns.map V.int))(hne:0<ns.length){Q:Value->Shared->Prop}{f:String}{bt:Int->Int->Bool}{op:CmpOp}
  (hf:∀{Q:Value->Shared->Prop},wpAny (model X.prog X.w) X.A.in1 (pyIter (.ref p)) (λit s₂=>∃I fp wr n P St bt,it=.ref I/\Walks X.prog X.w X.A.in1 I fp wr n P St/\St 0 s₂.heap/\(∀b∈fp,b<s₂.heap.objs.size)/\0<n/\CmpOf X.prog X.w X.A.in1 op P bt /\
   ∀v h' tk,P (argBest bt (n-1)) v->(∀b o,b∉wr->s₂.heap.get? b=some o->h'.get? b=some o)->Q v { s₂ with heap:=h',toks:=tk }) X.xe s->wpAny (model X.prog X.w) X.A (call (.builtin f) [.ref p]) Q X.xe s)
  (hcmp:∀(P:Nat->Value->Prop),(∀i v,P i v->∃t,v=.int (ns.getD i 0) t)->CmpOf X.prog X.w X.A.in1 op P λi j=>bt (ns.getD i 0) (ns.getD j 0))
  (h:∀t h' tk,(∀b o,s.heap.get? b=some o->h'.get? b=some o)->argBest (λi j=>bt (ns.getD i 0) (ns.getD j 0)) (ns.length-1)<ns.length->Q (.int (ns.getD (argBest (λi j=>bt (ns.getD i 0) (ns.getD j 0)) (ns.length-1)) 0) t) { s with heap:=h',toks:=tk }) :
  wpAny (model X.prog X.w) X.A (call (.builtin f) [.ref p]) Q X.xe s:=by
 have hh:X.A.in1.handled=none:=I.ok.hd hc;have up:∀{us:List Value} (P:Nat->Value->Prop) (hi:IntsAre us ns),(∀i v,P i v->us.toArray[i]?=some v)->∀i v,P i v->∃t,v=.int (ns.getD i 0) t:=λP hi hP i v q=>yY hi i v (by simpa using hP i v q);have best:∀{us:List Value} (hi:IntsAre us ns) (v:Value) (h':Heap) (tk:Nat),us.toArray[argBest (λi j=>bt (ns.getD i 0) (ns.getD j 0)) (us.toArray.size-1)]?=some v->(∀b o,s.heap.get? b=some o->h'.get? b=some o)->Q v { s with heap:=h',toks:=tk }:=λ{us} hi v h' tk e k=>by
  have hl:=hi.length;rw[size_toArray,hl] at e;have e':us[argBest (λi j=>bt (ns.getD i 0) (ns.getD j 0)) (ns.length-1)]?=some v:=by simpa using e
  obtain⟨t,rfl⟩:=yY hi _ v e';exact h t h' tk k (by have:=(List.getElem?_eq_some_iff.mp e').1;omega)
 rcases hq with hq|hq
 ·obtain⟨its,rv,pl,hz⟩:=I.list hq
  have hi:=intsAre_of rv;have hl:=hi.length;have hpl:=pl.isList;have hlt:p<s.heap.objs.size:=by obtain⟨_,e,_⟩:=hpl;exact lt_size e
  refine hf (wpAny_pyIter_list hpl ⟨s.heap.objs.size,[s.heap.objs.size,p],[s.heap.objs.size],its.toArray.size,_,_,λi j=>bt (ns.getD i 0) (ns.getD j 0),rfl,Walks.list hh _ p (ne_of_lt hlt) its.toArray,⟨⟨_,get?_push_size _ rfl,rfl,rfl⟩,hpl.push _⟩,λb hb=>?_,by rw[size_toArray];omega,
   hcmp _ (up _ hi λi v q=>q),λv h' tk e k=>?_⟩)
  ·simp only[size_push']
   rcases mem_cons.mp hb with z|z
   ·rw[z];exact lt_succ_self _
   ·rw[mem_singleton.mp z];exact lt_succ_of_lt hlt
  ·exact best hi v h' tk e λb o z=>k b o (by simp;exact ne_of_lt (lt_size z)) (get?_push_of_some _ z)
 ·obtain⟨its,rv,pl,hz⟩:=I.tuple hq
  have hi:=intsAre_of rv;have hl:=hi.length;have hpl:s.heap.IsTuple p its.toArray:=pl;have hlt:p<s.heap.objs.size:=by obtain⟨_,e,_⟩:=hpl;exact lt_size e
  refine hf (wpAny_pyIter_tuple hpl ⟨s.heap.objs.size,[s.heap.objs.size,p],[s.heap.objs.size],its.toArray.size,_,_,λi j=>bt (ns.getD i 0) (ns.getD j 0),rfl,Walks.tuple hh _ p (ne_of_lt hlt) its.toArray,⟨⟨_,get?_push_size _ rfl,rfl,rfl⟩,?_⟩,λb hb=>?_,by rw[size_toArray];omega,
   hcmp _ (up _ hi λi v q=>q),λv h' tk e k=>?_⟩)
  ·obtain⟨o,e,c⟩:=hpl;exact⟨o,get?_push_of_some _ e,c⟩
  ·simp only[size_push']
   rcases mem_cons.mp hb with z|z
   ·rw[z];exact lt_succ_self _
   ·rw[mem_singleton.mp z];exact lt_succ_of_lt hlt
  ·exact best hi v h' tk e λb o z=>k b o (by simp;exact ne_of_lt (lt_size z)) (get?_push_of_some _ z)
theorem tZ(hc:X.calm=true):cC X (.builtin "min") (λxs H Q=>∃(p:Addr) (ns:List Int),xs=[.ref p]/\(gI X.K H p (ns.map V.int)\/jv X.K H p (ns.map V.int))/\0<ns.length/\∀m,m∈ns->(∀a∈ns,m<=a)->Q (.int m) H):=by
 intro pins s σ H xs us Q I r h;obtain⟨p,ns,rfl,hq,hne,q⟩:=h;obtain⟨u,rfl,ru⟩:=vals1 r;cases ru;refine r9 (bt:=λa b=>decide (a<b)) (op:=.Lt) I hc hq hne (λ{Q} h=>call_min_walk h) (λP hP=>?_) λt h' tk k hb=>⟨.int _,H,I.kept k,⟨t,rfl⟩,q _ ?_ λa ha=>?_⟩
 ·intro i j x y s' Q' E' hx hy hQ;obtain⟨t,rfl⟩:=hP i x hx;obtain⟨t',rfl⟩:=hP j y hy;exact lt_int (by simpa using hQ)
 ·exact getD_mem hb
 ·obtain⟨j,hj,rfl⟩:=mem_getD ha;exact(argBest_lt (λi=>ns.getD i 0) (ns.length-1)).2 j (by omega)
theorem ua(hc:X.calm=true):cC X (.builtin "max") (λxs H Q=>∃(p:Addr) (ns:List Int),xs=[.ref p]/\(gI X.K H p (ns.map V.int)\/jv X.K H p (ns.map V.int))/\0<ns.length/\∀m,m∈ns->(∀a∈ns,a<=m)->Q (.int m) H):=by
 intro pins s σ H xs us Q I r h;obtain⟨p,ns,rfl,hq,hne,q⟩:=h;obtain⟨u,rfl,ru⟩:=vals1 r;cases ru;refine r9 (bt:=λa b=>decide (a>b)) (op:=.Gt) I hc hq hne (λ{Q} h=>call_max_walk h) (λP hP=>?_) λt h' tk k hb=>⟨.int _,H,I.kept k,⟨t,rfl⟩,q _ ?_ λa ha=>?_⟩
 ·intro i j x y s' Q' E' hx hy hQ;obtain⟨t,rfl⟩:=hP i x hx;obtain⟨t',rfl⟩:=hP j y hy;exact gt_int (by simpa using hQ)
 ·exact getD_mem hb
 ·obtain⟨j,hj,rfl⟩:=mem_getD ha;exact(argBest_gt (λi=>ns.getD i 0) (ns.length-1)).2 j (by omega)
end
end L2
end
section
namespace L2
open PySem PySem.Spec PyProof.Rows
section
variable {X:Cx}
theorem p7{bs:List Bool}:∀{us:List Value},Vals (bs.map V.bl) us->us=bs.map Value.bool:=by
 induction bs with
 | nil=>intro us r;cases r;rfl
 | cons a bs ih =>
  intro us r;cases r with
  | cons r1 r2=>cases r1;rw[ih r2];rfl
theorem qa(bs:List Bool):((List.range bs.length).all λi=>bs.getD i true)=bs.all id:=by
 conv=>rhs;rw[<-oj.cD bs true]
 rw[List.all_map];rfl
theorem qb(bs:List Bool):((List.range bs.length).any λi=>bs.getD i false)=bs.any id:=by
 conv=>rhs;rw[<-oj.cD bs false]
 rw[any_map];rfl
theorem rD(hc:X.calm=true):cC X (.builtin "all") (λxs H Q=>∃(p:Addr) (bs:List Bool),xs=[.ref p]/\gI X.K H p (bs.map V.bl)/\Q (.bl (bs.all id)) H):=by
 intro pins s σ H xs us Q I r h;obtain⟨p,bs,rfl,hq,q⟩:=h;obtain⟨u,rfl,ru⟩:=vals1 r;cases ru;obtain⟨its,rv,pl,hz⟩:=I.list hq;have ev:=p7 rv;subst ev;have hpl:=pl.isList;have hlt:p<s.heap.objs.size:=by obtain⟨_,e,_⟩:=hpl;exact lt_size e
 refine call_all_walk (wpAny_pyIter_list hpl ⟨s.heap.objs.size,[s.heap.objs.size,p],[s.heap.objs.size],_,_,_,λi=>bs.getD i true,rfl,Walks.list (A:=X.A.in1) (I.ok.hd hc) _ p (ne_of_lt hlt) (bs.map Value.bool).toArray,
  ⟨⟨_,get?_push_size _ rfl,rfl,rfl⟩,hpl.push _⟩,λi v s' Q' E' hP hQ=>?_,λh' tk hk=>?_⟩)
 ·have hi:i<bs.length:=by simpa using (Array.getElem?_eq_some_iff.mp hP).1
  have e:v=Value.bool (bs.getD i true):=by
   have:(bs.map Value.bool)[i]?=some v:=by simpa using hP
   simp[hi] at this;simp[hi,this]
  subst e;exact wpAny_truthy_bool hQ
 ·have e:((List.range (bs.map Value.bool).toArray.size).all λi=>bs.getD i true)=bs.all id:=by rw[size_toArray,length_map];exact qa bs
  rw[e];exact⟨.bl _,H,I.kept λb o z=>hk b o (by simp;exact ne_of_lt (lt_size z)) (get?_push_of_some _ z),rfl,q⟩
theorem rE(hc:X.calm=true):cC X (.builtin "any") (λxs H Q=>∃(p:Addr) (bs:List Bool),xs=[.ref p]/\gI X.K H p (bs.map V.bl)/\Q (.bl (bs.any id)) H):=by
 intro pins s σ H xs us Q I r h;obtain⟨p,bs,rfl,hq,q⟩:=h;obtain⟨u,rfl,ru⟩:=vals1 r;cases ru;obtain⟨its,rv,pl,hz⟩:=I.list hq;have ev:=p7 rv;subst ev;have hpl:=pl.isList;have hlt:p<s.heap.objs.size:=by obtain⟨_,e,_⟩:=hpl;exact lt_size e
 refine call_any_walk (wpAny_pyIter_list hpl ⟨s.heap.objs.size,[s.heap.objs.size,p],[s.heap.objs.size],_,_,_,λi=>bs.getD i false,rfl,Walks.list (A:=X.A.in1) (I.ok.hd hc) _ p (ne_of_lt hlt) (bs.map Value.bool).toArray,
  ⟨⟨_,get?_push_size _ rfl,rfl,rfl⟩,hpl.push _⟩,λi v s' Q' E' hP hQ=>?_,λh' tk hk=>?_⟩)
 ·have hi:i<bs.length:=by simpa using (Array.getElem?_eq_some_iff.mp hP).1
  have e:v=Value.bool (bs.getD i false):=by
   have:(bs.map Value.bool)[i]?=some v:=by simpa using hP
   simp[hi] at this;simp[hi,this]
  subst e;exact wpAny_truthy_bool hQ
 ·have e:((List.range (bs.map Value.bool).toArray.size).any λi=>bs.getD i false)=bs.any id:=by rw[size_toArray,length_map];exact qb bs
  rw[e];exact⟨.bl _,H,I.kept λb o z=>hk b o (by simp;exact ne_of_lt (lt_size z)) (get?_push_of_some _ z),rfl,q⟩
section
open PySem.AutoSeq1 (wpAny_loadPart')
theorem uc(l b:Addr)(items items2:Array Value)(n n2:Nat)(dd2:Option Addr)(sl2:Array (Option Value))(hs0:¬(!items.isEmpty&&Builtin.List.listTooLong (items.size+items2.size))=true)(hs1:items.size<=sizeLine)(hs2:items.size+items2.size<=sizeLine+1) :
  Meets (Builtin.«list.extend» ⟨[.ref l,.ref b],[]⟩) (λ_ R s=>s.heap.get? l=some { cls:=.type "list",data:=.seq items n }/\s.heap.get? b=some { cls:=.type "tuple",dict:=dd2,data:=.seq items2 n2,slots:=sl2 } /\
   R (.ok (.ret Value.none)) { s with heap:=s.heap.update l (Obj.mapSeq λx=>x++items2) }) :=
 .of_wp λprog w A R s h=>by
  obtain⟨hp,g,d,tk,os⟩:=s;obtain⟨hl,hb,h⟩:=h;have f2:=AutoSeq1.sub_tuple_tuple;have f3:=AutoSeq1.sub_list_list;have f4:=AutoSeq1.sub_tuple_list;have f5:=AutoSeq1.sub_list_tuple;have hz':(items++items2).size<=sizeLine+1:=by rw[Array.size_append];exact hs2
  wp_walk using (wpAny_updateSeq hl rfl (hz:=hs1) (_hz':=hz')),wpAny_loadPart' hl,wpAny_loadPart' hb
  exact⟨_,rfl,h⟩
end
noncomputable def Cn(K:PySem.W.Frag):V->List V->Hp->VK->Prop:=λx vs H Q=>∃l b xs zs,x=.ref l/\vs=[.ref b]/\H l=some (.lst xs)/\jv K H b zs/\xs.length+zs.length<=sizeLine/\Q .non (upd H l (.lst (xs++zs)))
theorem yb:Sd X "list.extend" (Cn X.K):=by
 intro pins s σ H x vs v us Q I rx rv h;obtain⟨l,b,xs,zs,rfl,rfl,hH,hB,hz,q⟩:=h;cases rx;obtain⟨u,rfl,ru⟩:=rv.one;cases ru;obtain⟨z,its,n,r,hl,e⟩:=I.Fz hH;obtain⟨its2,r2,⟨⟨oc,od,Yj,osl⟩,e2,ec,n2,ed⟩,z2⟩:=I.tuple hB;cases ec;cases ed;have l2:=r2.length;have hsz:its.toArray.size+its2.toArray.size<=sizeLine:=by rw[size_toArray,size_toArray];omega
 have B7:¬ (!its.toArray.isEmpty&&Builtin.List.listTooLong (its.toArray.size+its2.toArray.size))=true:=by rw[vd hsz,Bool.and_false];exact Bool.false_ne_true
 refine call_meets F.slot_list_extend ⟨_,e,rfl⟩ F.entry_list_extend (F.args_list_extend_2 _ _)
  (uc l b its.toArray its2.toArray n n2 od osl B7 (by rw[size_toArray];omega) (by omega)) ⟨e,e2,?_⟩
 refine⟨.non,_,I.Kv (its':=its++its2) hH e (by simp) (r.append r2) ?_,rfl,q⟩;rw[length_append];omega
end
end L2
end
section
namespace L2
open PySem
noncomputable def sd(xs:Array Nat):Prop:=xs.toList.Pairwise (· < ·)
structure Cut (xs:Array Nat) (j p:Nat):Prop where
 le:p<=xs.size
 lo:∀(i:Nat) (hi:i<xs.size),i<p->xs[i]<j
 hi:∀(i:Nat) (hi:i<xs.size),p<=i->j<=xs[i]
theorem Cut.one{xs:Array Nat}{j p q:Nat}(a:Cut xs j p)(b:Cut xs j q):p=q:=by
 rcases Nat.lt_trichotomy p q with h|h|h
 ·have hp:p<xs.size:=lt_of_lt_of_le h b.le;have:=a.hi p hp (Nat.le_refl _);have:=b.lo p hp h;omega
 ·exact h
 ·have hq:q<xs.size:=lt_of_lt_of_le h a.le;have:=b.hi q hq (Nat.le_refl _);have:=a.lo q hq h;omega
theorem sd.get{xs:Array Nat}(r:sd xs){a b:Nat}(ha:a<xs.size)(hb:b<xs.size)(h:a<b):xs[a]<xs[b]:=by
 have:=pairwise_iff_getElem.mp r a b (by simpa using ha) (by simpa using hb) h;simpa using this
theorem yc{xs:Array Nat}(r:sd xs)(j:Nat):∀(fuel lo hi:Nat),lo<=hi->hi<=xs.size->hi-lo<=fuel->(∀(i:Nat) (hi:i<xs.size),i<lo->xs[i]<j)->(∀(i:Nat) (h:i<xs.size),hi<=i->j<=xs[i])->Cut xs j (SetTable.below.go xs j fuel lo hi)
 | 0,lo,hi,h1,h2,h3,a,b=>by
  have:lo=hi:=by omega
  subst this;exact⟨h2,a,b⟩
 | fuel+1,lo,hi,h1,h2,h3,a,b=>by
  unfold SetTable.below.go
  by_cases hlt:lo<hi
  ·rw[if_pos hlt]
   dsimp only;have hm:(lo+hi)/2<xs.size:=by omega
   have eg:xs.getD ((lo+hi)/2) j=xs[(lo+hi)/2]:=by simp[Array.getD,hm]
   rw[eg]
   by_cases hc:xs[(lo+hi)/2]<j
   ·rw[if_pos hc]
    refine yc r j fuel _ hi (by omega) h2 (by omega) (λi hi' hl=>?_) b
    by_cases e:i=(lo+hi)/2
    ·subst e;exact hc
    ·exact lt_trans (r.get hi' hm (by omega)) hc
   ·rw[if_neg hc]
    refine yc r j fuel lo _ (by omega) (by omega) (by omega) a (λi hi' hl=>?_)
    by_cases e:i=(lo+hi)/2
    ·subst e;omega
    ·have:=r.get hm hi' (by omega);omega
  ·rw[if_neg hlt]
   have:lo=hi:=by omega
   subst this;exact⟨h2,a,b⟩
theorem kF{xs:Array Nat}(r:sd xs)(j:Nat):Cut xs j (SetTable.below xs j) :=
 yc r j xs.size 0 xs.size (zero_le _) (Nat.le_refl _) (by omega) (λi _ h=>by omega) (λi h hl=>by omega)
theorem yd{xs:Array Nat}(r:sd xs):SetTable.below xs 0=0:=(kF r 0).one ⟨zero_le _,λi _ h=>by omega,λi _ _=>zero_le _⟩
theorem ye{xs:Array Nat}(r:sd xs){i:Nat}(hi:i<xs.size):SetTable.below xs (xs[i]+1)=i+1:=by
 refine(kF r _).one ⟨hi,λk hk h=>?_,λk hk h=>?_⟩
 ·by_cases e:k=i
  ·subst e;omega
  ·have:=r.get hk hi (by omega);omega
 ·have:=r.get hi hk (by omega);omega
theorem AE{xs:Array Nat}(r:sd xs){j:Nat}(h:j∈xs):xs[SetTable.below xs j]?=some j:=by
 obtain⟨k,hk,e⟩:=Array.mem_iff_getElem.mp h;have:SetTable.below xs j=k:=by
  refine(kF r j).one ⟨Nat.le_of_lt hk,λi hi h=>?_,λi hi h=>?_⟩
  ·have:=r.get hi hk h;omega
  ·by_cases e':i=k
   ·subst e';omega
   ·have:=r.get hk hi (by omega);omega
 rw[this,Array.getElem?_eq_getElem hk,e]
theorem AF{xs:Array Nat}(r:sd xs){j:Nat}(h:j∉xs):sd (SetTable.insertAt xs (SetTable.below xs j) j):=by
 have c:=kF r j;unfold sd;rw[SetTable.toList_insertAt];have rl:xs.toList.Pairwise (· < ·):=r;have lo:∀a∈xs.toList.take (SetTable.below xs j),a<j:=λa ha=>by
  obtain⟨i,hi,e⟩:=List.mem_iff_getElem.mp ha;rw[length_take,length_toList] at hi;rw[List.getElem_take] at e;have:=c.lo i (by omega) (by omega);rw[<-e];simpa using this
 have up:∀a∈xs.toList.drop (SetTable.below xs j),j<a:=λa ha=>by
  obtain⟨i,hi,e⟩:=List.mem_iff_getElem.mp ha;rw[length_drop,length_toList] at hi;rw[List.getElem_drop] at e;have h1:=c.hi (SetTable.below xs j+i) (by omega) (by omega);have e':xs[SetTable.below xs j+i]'(by omega)=a:=by rw[<-e];simp
  rw[e'] at h1;have:a≠j:=λz=>h (by rw[<-z,<-e'];exact Array.getElem_mem _);omega
 rw[List.pairwise_append];refine⟨rl.sublist (List.take_sublist _ _),pairwise_cons.mpr ⟨up,rl.sublist (List.drop_sublist _ _)⟩,λa ha b hb=>?_⟩
 rcases mem_cons.mp hb with e|hb
 ·rw[e];exact lo a ha
 ·exact lt_trans (lo a ha) (up b hb)
theorem lX(n:Nat):sd (Array.range n):=by
 unfold sd;rw[Array.toList_range];exact List.pairwise_lt_range
theorem se{t:SetTable}(r:sd t.place){j:Nat}(h:t.slot j=.empty\/t.slot j=.dummy):j∉t.place:=λhm=>by
 have e:=AE r hm;unfold SetTable.slot at h;dsimp only at h;rw[e] at h;simp at h
theorem lF{h:Int}:∀(fuel:Nat) (p:SetTable.Probe) (j:Nat) (d:Option Nat),(∀k,p.dummy=some k->t.slot k=.dummy)->SetTable.probe.go t f h fuel p=some (.empty j d)->t.slot j=.empty/\∀k,d=some k->t.slot k=.dummy
 | 0,p,j,d,hd,e=>by simp[SetTable.probe.go] at e
 | fuel+1,p,j,d,hd,e=>by
  have ad:∀q:SetTable.Probe,(t.advance q).dummy=q.dummy:=λq=>by unfold SetTable.advance;split<;>rfl
  unfold SetTable.probe.go at e;split at e
  ·rename_i hs;cases e;exact⟨hs,hd⟩
  ·rename_i hs;refine lF fuel _ j d (λk hk=>?_) e;rw[ad] at hk;cases hk;exact hs
  ·split at e
   ·cases e
   ·exact lF fuel _ j d (λk hk=>hd k (by rw[<-ad];exact hk)) e
theorem Co{t:SetTable}(r:sd t.place){h:Int}{s:Nat}{b:Bool}(e:t.freeSlot h=some (s,b)):s∉t.place:=by
 unfold SetTable.freeSlot at e;split at e
 ·rename_i j d hp
  cases e;obtain⟨h1,h2⟩:=lF _ _ _ _ (λk hk=>by simp[SetTable.probeStart] at hk) hp;cases d with
  | none=>exact se r (.inl h1)
  | some k=>exact se r (.inr (h2 k rfl))
 ·cases e
theorem AG(r:sd t.place)(es:Array (Int×Value))(h:Int)(x:Value):sd (layNew t es h x).2.1.place/\(layNew t es h x).2.1.led=t.led:=by
 unfold layNew
 split
 ·rename_i s b e
  have fr:=Co r e;dsimp only;unfold SetTable.orStandIn
  split
  ·exact⟨AF r fr,rfl⟩
  ·exact⟨lX _,rfl⟩
 ·exact⟨lX _,rfl⟩
theorem Cp(r:sd t.place)(es:Array (Int×Value))(n:Nat):sd (relayAll t es n).2.1.place/\(relayAll t es n).2.1.led=t.led:=by
 unfold relayAll
 split
 ·rename_i t' order e
  dsimp only
  split
  ·unfold SetTable.relaid SetTable.laid at e;obtain⟨ow,e1,e⟩:=bind_eq_some_iff.mp e;cases e;refine⟨?_,rfl⟩;show List.Pairwise _ (List.map _ _).toArray.toList;rw[List.toList_toArray,pairwise_map];refine List.Pairwise.filterMap _ (R:=(· < ·)) (λa a' hl b hb b' hb'=>?_) List.pairwise_lt_range;obtain⟨x,_,rfl⟩:=map_eq_some_iff.mp hb;obtain⟨y,_,rfl⟩:=map_eq_some_iff.mp hb';exact hl
  ·exact⟨lX _,rfl⟩
 ·exact⟨lX _,rfl⟩
end L2
end
section
namespace L2
open PySem PyProof.Rows
noncomputable def rF(w:World):Bool:=w.params.followText "set-order"
structure II (w:World) (es:Array (Int×Value)) (t:SetTable):Prop where
 few:es.size<scanBound
 fit:t.fits es.size=true
 rs:sd t.place
 led:t.led = !rF w
structure e8 (prog:Program) (w:World) (h:Heap) (a:Addr) (o:Obj) (es:Array (Int×Value)) (ep:Nat) (t:SetTable) (ks:List Int):Prop where
 at_:h.get? a=some o
 ex:o.ExactSet
 dat:o.data=.set es ep t
 el:ElemsOf (intKind prog w) es.toList
 tab:II w es t
 Wr:ks.Nodup
 mem:∀k,k∈ks↔∃e∈es.toList,(intKind prog w).is k e.2=true
 num:es.size=ks.length
noncomputable def oW(prog:Program)(w:World)(h:Heap)(a:Addr)(ks:List Int):Prop:=∃o es ep t,e8 prog w h a o es ep t ks
noncomputable def qc(ks:List Int)(k:Int):List Int:=if k∈ks then ks else ks++[k]
section
variable {prog:Program} {w:World} {A:Around} {E:Value->Shared->Prop} {s:Shared}
theorem Cq{h:Heap}{a:Addr}{o:Obj}{es es':Array (Int×Value)}{ep:Nat}{t t':SetTable}(ho:h.get? a=some o)(hd:o.data=.set es ep t):(h.update a (Obj.putSet es' t')).get? a=some { o with data:=.set es' (ep+1) t' }:=by
 have q:=get?_update_self (Obj.putSet es' t') ho (by rw[putSet_of es' t' hd];rfl);rw[putSet_of es' t' hd] at q;exact q
theorem oW.frame{ks:List Int}(S:oW prog w h a ks)(k:∀o,h.get? a=some o->h'.get? a=some o):oW prog w h' a ks:=by
 obtain⟨o,es,ep,t,i⟩:=S;exact⟨o,es,ep,t,{ i with at_:=k o i.at_ }⟩
theorem mem_push{es es1:List (Int×Value)}{ks:List Int}{k:Int}(hx:(intKind prog w).is k x=true)(hm:∀j,j∈ks↔∃e∈es,(intKind prog w).is j e.2=true)(p:es1.Perm (es++[((intKind prog w).hash k,x)]))(j:Int) :
  j∈ks++[k]↔∃e∈es1,(intKind prog w).is j e.2=true:=by
 rw[mem_append,mem_singleton,hm];constructor
 ·rintro(⟨e,he,q⟩|rfl)
  ·exact⟨e,p.mem_iff.mpr (mem_append_left _ he),q⟩
  ·exact⟨_,p.mem_iff.mpr (mem_append_right _ mem_cons_self),hx⟩
 ·rintro⟨e,he,q⟩
  rcases mem_append.mp (p.mem_iff.mp he) with z|z
  ·exact .inl ⟨e,z,q⟩
  ·rw[mem_singleton] at z;subst z;exact .inr ((intKind prog w).inj x j k q hx)
theorem vp{g:Bool->Sem Unit}(hg:∀(b:Bool) (s₁:Shared) (Q':Unit->Shared->Prop),Q' () s₁->wpAny (model prog w) A (g b) Q' E s₁)
  {a:Addr} {o:Obj} {es es1:Array (Int×Value)} {ep:Nat} {t t2:SetTable} {ks:List Int} (ho:s.heap.get? a=some o) (hex:o.ExactSet) (hd:o.data=.set es ep t)
  (hel:ElemsOf (intKind prog w) es1.toList) (hm:∀k,k∈ks↔∃e∈es1.toList,(intKind prog w).is k e.2=true) (hnd:ks.Nodup) (hn:es1.size=ks.length) (ht:II w es1 t2) {b:Bool} {R:Option Bool->Shared->Prop}
  (h:∀h',Heap.SameBut a s.heap h'->oW prog w h' a ks->R (some true) { s with heap:=h' }) :
  wpAny (model prog w) A (do
    storeSet a es1 t2
    if (!b&&t2.tooFull)=true then do
      g (relayAll t2 es1 (SetTable.grown es1.size)).2.2
      storeSet a (relayAll t2 es1 (SetTable.grown es1.size)).1 (relayAll t2 es1 (SetTable.grown es1.size)).2.1
      pure (some true)
     else pure (some true)) R E s:=by
 refine wpAny_bind (wpAny_storeSet_of ho hd ?_ (fits_of_scanBound ht.few));have h1:=Cq (es':=es1) (t':=t2) ho hd;have b1:=Heap.SameBut.update s.heap a (Obj.putSet es1 t2)
 split
 ·have p:=relayAll_perm t2 es1 (SetTable.grown es1.size)
  have f:=relayAll_fits t2 es1 (SetTable.grown es1.size);have rr:=Cp ht.rs es1 (SetTable.grown es1.size);generalize relayAll t2 es1 (SetTable.grown es1.size)=Rl at p f rr |-;obtain⟨Sx,t3,gv⟩:=Rl;dsimp only at p f rr |-;have z:Sx.size=es1.size:=by rw[<-length_toList,p.length_eq,length_toList]
  have few:Sx.size<scanBound:=by rw[z];exact ht.few
  refine wpAny_bind (hg _ _ _ ?_);refine wpAny_bind (wpAny_storeSet_of h1 rfl ?_ (fits_of_scanBound few));refine wpAny_pure (h _ (b1.trans (Heap.SameBut.update _ a _)) ⟨_,Sx,_,t3,Cq h1 rfl,hex,rfl,hel.perm p,⟨few,f,rr.1,rr.2.trans ht.led⟩,hnd,λk=>(hm k).trans ⟨λ⟨e,he,q⟩=>⟨e,p.mem_iff.mpr he,q⟩,λ⟨e,he,q⟩=>⟨e,p.mem_iff.mp he,q⟩⟩,z.trans hn⟩)
 ·exact wpAny_pure (h _ b1 ⟨_,es1,_,t2,h1,hex,rfl,hel,ht,hnd,hm,hn⟩)
theorem add_int{ks:List Int}{k:Int}(S:oW prog w s.heap a ks)(room:ks.length+1<scanBound)
  (h:∀h' b,Heap.SameBut a s.heap h'->oW prog w h' a (qc ks k)->Q b { s with heap:=h' }) :
  wpAny (model prog w) A (setAddHashed a (.int k tk) ((intKind prog w).hash k)) Q E s:=by
 obtain⟨o,es,ep,t,I⟩:=S;have hx:(intKind prog w).is k (.int k tk)=true:=intKind_is _ _ _ _;have sc:(Value.int k tk).scannable=true:=rfl;unfold setAddHashed setAddHashedIn;refine wpAny_holding (wpAny_bind (wpAny_setState_of I.at_ I.dat I.tab.fit ?_));dsimp only;rw[byScan_of sc I.tab.few I.el];simp only[↓reduceIte];unfold setAddByScan;refine wpAny_bind (wpAny_bind (wpAny_rule (wpAny_bind (wpAny_setScan_of hx I.at_ I.dat I.tab.fit I.el ?_))));cases hr:List.findIdx? (λe=>(intKind prog w).is k e.2) es.toList with
 | some j =>
  dsimp only;obtain⟨hj,pj,_⟩:=List.findIdx?_eq_some_iff_getElem.mp hr;have hk:k∈ks:=(I.mem k).mpr ⟨es.toList[j],List.getElem_mem hj,pj⟩;refine wpAny_pure (wpAny_pure ?_);have e:s={ s with heap:=s.heap }:=by cases s;rfl
  rw[e];exact h s.heap _ (Heap.SameBut.refl a s.heap) (by unfold qc;rw[if_pos hk];exact⟨o,es,ep,t,I⟩)
 | none =>
  dsimp only;have hk:k∉ks:=λz=>by
   obtain⟨e,he,p⟩:=(I.mem k).mp z;have:=List.findIdx?_eq_none_iff.mp hr e he;rw[p] at this;cases this
  have gw:∀(b:Bool) (s₁:Shared) (Q':Unit->Shared->Prop),Q' () s₁->wpAny (model prog w) A (match b with|true=>rule "set.scan.the-table-gave-way" | false=>pure ()) Q' E s₁:=λb s₁ Q' q=>by
   cases b
   ·exact wpAny_pure q
   ·exact wpAny_rule q
  have p:=layNew_perm t es ((intKind prog w).hash k) (.int k tk);have f:=layNew_fits t es ((intKind prog w).hash k) (.int k tk);have rr:=AG I.tab.rs es ((intKind prog w).hash k) (.int k tk);generalize layNew t es ((intKind prog w).hash k) (.int k tk)=Ln at p f rr |-;obtain⟨es1,t1,wd,gv⟩:=Ln;dsimp only at p f rr |-;rw[Array.toList_push] at p;have z:es1.size=(ks++[k]).length:=by rw[<-length_toList,p.length_eq,length_append,length_append,length_toList,I.num];rfl
  have few:es1.size<scanBound:=by rw[z,length_append];simpa using room
  have nd:(ks++[k]).Nodup:=by rw[nodup_append];exact⟨I.Wr,by simp,λx hx' y hy e=>hk (by rw[mem_singleton] at hy;rw[<-hy,<-e];exact hx')⟩
  have Ws:ElemsOf (intKind prog w) es1.toList:=(I.el.push hx sc).perm p;have m1:=mem_push hx I.mem p;have fin:∀h',Heap.SameBut a s.heap h'->oW prog w h' a (ks++[k])->Q true { s with heap:=h' }:=λh' sb S'=>h h' true sb (by unfold qc;rw[if_neg hk];exact S');refine wpAny_bind (gw _ _ _ ?_)
  split
  ·refine wpAny_bind ?_
   rw[hashByValue_scannable 8 sc];refine wpAny_pure ?_;refine vp gw I.at_ I.ex I.dat Ws m1 nd z ⟨few,?_,?_,?_⟩ λh' sb S'=>wpAny_pure (fin h' sb S')
   ·split
    ·exact f
    ·exact SetTable.fits_plain_off f
   ·split
    ·exact rr.1
    ·exact rr.1
   ·split
    ·exact rr.2.trans I.tab.led
    ·exact rr.2.trans I.tab.led
  ·refine wpAny_bind (wpAny_pure ?_);simp only[↓reduceIte];exact vp gw I.at_ I.ex I.dat Ws m1 nd z ⟨few,f,rr.1,rr.2.trans I.tab.led⟩ λh' sb S'=>wpAny_pure (fin h' sb S')
end
end L2
end
section
namespace L2
open PySem PyProof.Rows
noncomputable def eW:List Int->List Int->List Int
 | ks,[]=>ks
 | ks,k::r=>eW (qc ks k) r
theorem qd(ks:List Int)(k:Int):(qc ks k).length<=ks.length+1:=by unfold qc;split<;>simp
section
variable {prog:Program} {w:World} {A:Around} {E:Value->Shared->Prop} {s:Shared}
theorem Cr{R:Result->Shared->Prop}{I:Addr}{fp wr:List Addr}{G:Array GenState->Array GenState->Prop}{n:Nat}{P:Nat->Value->Prop}{St:Nat->Shared->Prop}(W:WalksS prog w A.in1 I fp wr G n P St)(S:Addr)(hSf:S∉fp)(val:Nat->Int)(hval:∀i v,P i v->∃t,v=.int (val i) t) :
  ∀(k i:Nat) (s:Shared) (ks:List Int),n-i=k->i<=n->ks.length+k+1<scanBound->St i s->oW prog w s.heap S ks ->
   (∀s',Moved (S::wr) G s s'->oW prog w s'.heap S (eW ks ((range' i k).map val))->R (.ok (.ret .none)) s') ->
   codeAny (model prog w) A (.builtin "set.update.loop" ⟨[.ref S,.ref I],[]⟩) R s:=by
 have Wt:S∉wr:=λh=>hSf (W.sub _ h);have sub:∀b∈wr,b∈S::wr:=λb hb=>mem_cons_of_mem _ hb;intro k
 induction k with
 | zero =>
  intro i s ks hk hi _ hst hS hR;have:i=n:=by omega
  subst this;refine codeAny_builtin PyProof.Rows.F.entry_set_update_loop ?_;rw[Around.under_plainId PyProof.Rows.F.plain_set_update_loop _];show wpAny _ A.in1 (pyNext (.ref I) >>= _) _ _ s;refine wpAny_bind (W.done s _ _ hst λs' hm=>?_);show wpAny _ A.in1 (ret Value.none) _ _ s';exact wpAny_pure (hR s' (hm.mono sub) (hS.frame λo e=>hm.heap S _ Wt e))
 | succ k ih =>
  intro i s ks hk hi hl hst hS hR;have hlt:i<n:=by omega
  refine codeAny_builtin PyProof.Rows.F.entry_set_update_loop ?_;rw[Around.under_plainId PyProof.Rows.F.plain_set_update_loop _];show wpAny _ A.in1 (pyNext (.ref I) >>= _) _ _ s;refine wpAny_bind (W.item i s _ _ hlt hst λv s' hP Sy hm=>?_);obtain⟨t,rfl⟩:=hval i v hP;have hS':=hS.frame (h':=s'.heap) λo e=>hm.heap S _ Wt e;show wpAny _ A.in1 (holding [Value.int (val i) t] (setAdd S (.int (val i) t)) >>= _) _ _ s';refine wpAny_bind (wpAny_holding ?_);unfold setAdd;refine wpAny_holding (wpAny_bind ((intKind prog w).pyHash (k:=val i) (intKind_is _ _ _ _) ?_));refine add_int (s:={ s' with toks:=s'.toks+1 }) hS' (by omega) λh' b sb S2=>?_;have hl2:=qd ks (val i);refine wpAny_pure ⟨plainId_quiet PyProof.Rows.F.plain_set_update_loop _,ih (i+1) _ (qc ks (val i)) (by omega) hlt (by omega) (W.frame _ s' _ _ Sy (le_succ _) λb hb o e=>?_) S2 λs'' KG S3=>?_⟩
  ·rw[sb.2 b λz=>hSf (by rw[<-z];exact hb)];exact e
  ·refine hR s'' (Moved.trans W.gtrans ((hm.mono sub).then_heap (le_succ _) λb o hb e=>?_) KG) ?_
   ·rw[sb.2 b λz=>hb (by rw[z];exact mem_cons_self)];exact e
   ·rw[List.range'_succ,map_cons,eW];exact S3
noncomputable abbrev qf(w:World):Obj:={ cls:=.type "set",dict:=none,data:=.set #[] 0 (.fresh 0 0 (!rF w)) }
theorem FY(e:h.get? a=some (qf w)):oW prog w h a [] :=
 ⟨_,#[],0,_,e,⟨rfl,rfl,rfl⟩,rfl,λx hx=>by simp at hx,⟨by show 0<4096;decide,rfl,List.Pairwise.nil,rfl⟩,nodup_nil,λk=>by simp,rfl⟩
theorem Cs(a:Value)(h:Q₁ (.ref s.heap.objs.size) { s with heap:=s.heap.push (qf w) }) :
  codeAny (model prog w) A (.call (.builtin "set.__new__") ⟨[.type "set",a],[]⟩) (wants Q₁ E) s:=by
 refine codeAny_of_tree ?_;show wpAny _ A.in1 (do checkBuiltinCall "set.__new__" ⟨[.type "set",a],[]⟩;again (.builtin "set.__new__" ⟨[.type "set",a],[]⟩)) _ _ s;refine wpAny_bind (wpAny_of_eq (PySem.F.newCall_set_1 a) (wpAny_pure ⟨plainId_quiet PySem.F.plain_set_new _,codeAny_builtin PySem.F.entry_set_new ?_⟩));rw[Around.under_plainId PySem.F.plain_set_new _];unfold Builtin.«set.__new__» Builtin.Frozenset.newClass;have hsub:=sub_set_self;obtain⟨hp,g,d,tk,os⟩:=s;dsimp only
 wp_walk
 refine wpAny_askSetting (wpAny_pure ?_);dsimp only;simp only[newObj];refine wpAny_bind (wpAny_alloc (wpAny_pure ?_));exact wpAny_pure h
end
end L2
end
section
namespace L2
open PySem PyProof.Rows
section
variable {prog:Program} {w:World} {A:Around} {E:Value->Shared->Prop} {s:Shared}
theorem yf{ns:List Int}(hi:IntsAre vs ns):(range' 0 vs.length).map (λi=>ns.getD i 0)=ns:=by
 have hl:=IntsAre.length hi;apply ext_getElem
 ·rw[length_map,List.length_range',hl]
 ·intro i h1 h2;simp[List.getD,h2]
theorem vq{ns:List Int}(hh:A.handled=none)(hl:s.heap.IsList l items)(hi:IntsAre items.toList ns)(hb:items.size+1<scanBound)
  (h:∀(h':Heap) (tk:Nat),oW prog w h' s.heap.objs.size (eW [] ns)->(∀b o,b<s.heap.objs.size->s.heap.get? b=some o->h'.get? b=some o)->Q (.ref s.heap.objs.size) { s with heap:=h',toks:=tk }) :
  wpAny (model prog w) A (call (.type "set") [.ref l]) Q E s:=by
 obtain⟨c,tl,mro⟩:=PySem.F.called_set.mro;have made:=PySem.F.called_set.made;have sub:=PySem.F.called_set.sub;refine wpAny_call (codeAny_of_tree ?_);show wpAny _ _ (callAny (.type "set") _) _ _ _;refine wpAny_pure ⟨Code.quiet_builtin _ (by decide +kernel),codeAny_builtin PySem.F.entry_type_call ?_⟩;rw[Around.under_plain (weight_type_call_type "set" [.ref l] []) rfl];have n1:=PySem.F.called_set.notType;have n2:=PySem.F.called_set.canCreate;have n3:=PySem.F.typeCall_set_1 (.ref l)
 repeat (any_goals (first|assumption|wp_step))
 refine codeAny_mono (Cs (.ref l) (E:=E) (Q₁:=λobj s₁=>obj=.ref s.heap.objs.size/\s₁={ s with heap:=s.heap.push (qf w) }) ⟨rfl,rfl⟩) λr s₁ hr=>?_;cases r with
 | error e=>exact hr
 | ok fl =>
  cases fl with
  | ret obj =>
   obtain⟨rfl,rfl⟩:=hr;have IJ:(s.heap.push (qf w)).get? s.heap.objs.size=some (qf w):=get?_push_size _ rfl;have hT:Shared.TypeIs { s with heap:=s.heap.push (qf w) } (.ref s.heap.objs.size) "set":=⟨_,IJ,rfl⟩;have look:=PySem.F.called_set.init.lookup;have bind:=PySem.F.called_set.init.bind (.ref s.heap.objs.size)
   repeat (any_goals (first|assumption|wp_step))
   refine codeAny_mono (codeAny_call_builtin (R:=wants (λr s₂=>r=.none/\∃h' tk,s₂={ s with heap:=h',toks:=tk }/\oW prog w h' s.heap.objs.size (eW [] ns) /\
     (∀b o,b<s.heap.objs.size->s.heap.get? b=some o->h'.get? b=some o)) E) PySem.F.called_set.init.plain PySem.F.entry_set_init (check_set_init_1 hT ?_)) λr₂ s₂ Sz=>?_
   ·obtain⟨ol,Wu,cl,nl,dl⟩:=hl
    obtain⟨oc,od,oda,os⟩:=ol;simp only at cl dl;subst cl;subst dl;have SA:(s.heap.push (qf w)).get? l=some { cls:=.type "list",dict:=od,data:=.seq items nl,slots:=os }:=get?_push_of_some _ Wu;have q1:=PySem.F.sub_list_set;have q2:=PySem.F.sub_list_frozenset;have q3:(Value.type "list" == Value.type "dict")=false:=by decide
    have hl1:(s.heap.push (qf w)).IsList l items:=⟨_,SA,rfl,nl,rfl⟩;unfold Builtin.«set.__init__» noKeywords Builtin.Frozenset.updateFrom;generalize Yk:pyIter=PI
    wp_walk
    subst Yk;refine wpAny_pyIter_list hl1 (wpAny_bind (wpAny_runValue ?_));have lS:l<s.heap.objs.size:=lt_size Wu;have h3:A.in1.in1.in1.handled=none:=by simp[hh]
    have Yl:l≠(s.heap.push (qf w)).objs.size:=by rw[size_push];exact ne_of_lt (lt_succ_of_lt lS)
    have sF:s.heap.objs.size∉[(s.heap.push (qf w)).objs.size,l]:=by rw[size_push];simp only[mem_cons,not_mem_nil,or_false,not_or];exact⟨ne_of_lt (lt_succ_self _),Nat.ne_of_gt lS⟩
    have val:∀(i:Nat) (v:Value),items[i]?=some v->∃t,v=.int ((λi=>ns.getD i 0) i) t:=λi v hv=>IntsAre.int_at hi i v (by rw[getElem?_toList];exact hv);refine Cr ((Walks.list h3 _ l Yl items).toS) s.heap.objs.size sF (λi=>ns.getD i 0) val (items.size-0) 0 _ [] (by omega) (zero_le _) (by simpa using hb) ⟨⟨_,get?_push_size _ rfl,rfl,rfl⟩,hl1.push _⟩ ?s0 ?sR
    case s0=>exact FY (get?_push_of_some _ IJ)
    case sR =>
     intro s' hm S';obtain⟨h',g',d',tk',os'⟩:=s';have eg:g'=s.gens:=hm.gens;have ed:d'=s.drawn:=hm.drawn;have eo:os'=s.os:=hm.os;subst eg;subst ed;subst eo;refine wpAny_pure ?_;show wpAny _ _ (ret Value.none) _ _ _;have e0:(range' 0 (items.size-0)).map (λi=>ns.getD i 0)=ns:=by have:=yf hi;rw[length_toList] at this;exact this
     rw[e0] at S';refine wpAny_pure ⟨rfl,h',tk',rfl,S',λb o hb e=>?_⟩;have b1:b≠s.heap.objs.size:=ne_of_lt hb;have b2:b≠(s.heap.push (qf w)).objs.size:=by rw[size_push];exact ne_of_lt (lt_succ_of_lt hb)
     exact hm.heap b o (by simp only[mem_cons,not_mem_nil,or_false,not_or];exact⟨b1,b2⟩) (get?_push_of_some _ (get?_push_of_some _ e))
   ·cases r₂ with
    | error e=>exact Sz
    | ok Ym =>
     cases Ym with
     | ret r =>
      obtain⟨rfl,h',tk,rfl,S',hk⟩:=Sz
      repeat (any_goals (first|assumption|wp_step))
      exact h _ _ S' hk
     | _=>exact Sz.elim
  | _=>exact hr.elim
end
end L2
end
section
namespace L2
open PySem PyProof.Rows
namespace SI
theorem yg:entryFor table "set.__iter__" = some Builtin.«frozenset.__iter__» :=
 entryFor_alias (id':="frozenset.__iter__") (by kernel_rfl) rfl (by decide +kernel) (by kernel_rfl)
theorem owner:Manifest.owners.lookup (String.ofList ['r','o','t','a','r','e','t','i','_','t','e','s'].reverse)=some Manifest.sig_set_iterator:=by kernel_rfl
theorem slot_next:Slot "set_iterator" "__next__" "set_iterator.__next__" :=
 .of (owner:="set_iterator") (n:="__next__") (by rw[typeLookup_type,builtinLookup_eq_fast];kernel_rfl) (by decide +kernel) (by decide +kernel) (by decide +kernel) (by first|exact .inl (by decide +kernel)|exact .inr (by decide +kernel)) (by rw[isSubtype_type];kernel_rfl)
theorem entry_next:entryFor table "set_iterator.__next__" = some Builtin.«set_iterator.__next__»:=entryFor_of_tree (by kernel_rfl)
theorem args_next(a:Value):argsOk "set_iterator.__next__" ⟨[a],[]⟩:=by
 unfold argsOk;rw[signature?_of (id:="set_iterator.__next__") (n:=['_','_','t','x','e','n','_','_']) (o:=['r','o','t','a','r','e','t','i','_','t','e','s']) (by kernel_rfl) owner];kernel_rfl
theorem sf:Slot "set_iterator" "__iter__" "set_iterator.__iter__" :=
 .of (owner:="set_iterator") (n:="__iter__") (by rw[typeLookup_type,builtinLookup_eq_fast];kernel_rfl) (by decide +kernel) (by decide +kernel) (by decide +kernel) (by first|exact .inl (by decide +kernel)|exact .inr (by decide +kernel)) (by rw[isSubtype_type];kernel_rfl)
theorem entry_self:entryFor table "set_iterator.__iter__" = some Builtin.«dict_keyiterator.__iter__» :=
 entryFor_alias (id':="dict_keyiterator.__iter__") (by kernel_rfl) rfl (by decide +kernel) (by kernel_rfl)
theorem AH(a:Value):argsOk "set_iterator.__iter__" ⟨[a],[]⟩:=by
 unfold argsOk;rw[signature?_of (id:="set_iterator.__iter__") (n:=['_','_','r','e','t','i','_','_']) (o:=['r','o','t','a','r','e','t','i','_','t','e','s']) (by kernel_rfl) owner];kernel_rfl
end SI
section
variable {prog:Program} {w:World} {A:Around} {E:Value->Shared->Prop} {s:Shared}
noncomputable def fL(h:Heap)(it:Addr)(f:Value)(i:Nat)(a:Addr)(n ep:Nat):Prop:=∃o,h.get? it=some o/\o.cls=.type "set_iterator" /\ o.data=.fields #[f,.int i 0,.ref a,.int n 0,.int ep 0]
theorem fL.typeIs{i:Nat}{n ep:Nat}(x:fL s.heap it f i a n ep):s.TypeIs (.ref it) "set_iterator":=let ⟨o,ho,hc,_⟩:=x;⟨o,ho,hc⟩
theorem nv{i:Nat}{n ep:Nat}(x:fL s.heap it f i a n ep)(h:Q (.ref it) s):wpAny (model prog w) A (pyIter (.ref it)) Q E s:=by
 refine wpAny_pyIter_slot x.typeIs SI.sf (wpAny_call_entry SI.sf x.typeIs SI.entry_self ?_ (SI.AH _));exact wpAny_pure ⟨_,rfl,"set_iterator",_,x.typeIs,SI.slot_next.lookup,h⟩
end
end L2
end
section
namespace L2
open PySem PyProof.Rows
section
variable {prog:Program} {w:World} {A:Around} {E:Value->Shared->Prop} {s:Shared}
theorem iF{ep:Nat}(ho:s.heap.get? a=some o)(hd:o.data=.set es ep t)(hf:t.fits es.size=true)(h:Q es s):wpAny (model prog w) A (setEntries a) Q E s:=by
 unfold setEntries;exact wpAny_bind (wpAny_setState_of ho hd hf (wpAny_pure h))
theorem kG(h:Q (rF w) s):wpAny (model prog w) A setsByText Q E s:=by
 unfold setsByText;exact wpAny_bind (wpAny_askSetting (wpAny_pure h))
theorem sj{ep sl g:Nat}{ks:List Int}(S:e8 prog w s.heap a o es ep t ks)(hb:rF w=false)(hp:(!t.plain&&decide (es.size>1))=false)
  (hQ:Q (match es[SetTable.below t.place sl]?,t.place[SetTable.below t.place sl]? with|some (_,x),some j=>some (x,j+1)|_,_=>none) s):wpAny (model prog w) A (setNext a sl g ep) Q E s:=by
 have led:t.led=true:=by rw[S.tab.led,hb];rfl
 unfold setNext;refine wpAny_bind (wpAny_setState_of S.at_ S.dat S.tab.fit ?_);dsimp only;refine wpAny_bind (kG ?_);rw[hb];simp only[false_eq_true,↓reduceIte];rw[if_neg (λz=>by
  have z':(!t.plain&&decide (es.size>1))=true:=z;rw[hp] at z';cases z')]
 refine wpAny_bind ?_;show wpAny _ _ (if (!t.led && !es.isEmpty)=true then Sem.unsupported "set:maker-not-led" else pure ()) _ _ _;rw[if_neg (by rw[led];simp)];exact wpAny_pure (wpAny_pure hQ)
theorem su{ep sl g:Nat}{ks:List Int}(S:e8 prog w s.heap a o es ep t ks)(hb:rF w=true)
  (hQ:Q (((pickOrder (w.params.setOrder a ep) es)[g]?).map λe=>(e.2,sl)) s):wpAny (model prog w) A (setNext a sl g ep) Q E s:=by
 unfold setNext;refine wpAny_bind (wpAny_setState_of S.at_ S.dat S.tab.fit ?_);dsimp only;refine wpAny_bind (kG ?_);rw[hb];simp only[bne_self_eq_false,false_eq_true,↓reduceIte];unfold setWalk;refine wpAny_bind (wpAny_bind (wpAny_setState_of S.at_ S.dat S.tab.fit ?_));dsimp only;refine wpAny_bind (kG ?_);rw[hb];simp only[↓reduceIte];exact wpAny_bind (wpAny_askSetting (wpAny_pure (wpAny_pure hQ)))
theorem lY{ep:Nat}{ks:List Int}{i sl:Nat}(hh:A.handled=none)(x:fL s.heap it (.int sl 0) i a es.size ep)(S:e8 prog w s.heap a o es ep t ks)
  (hn:∀(A:Around) (E:Value->Shared->Prop) (Q:Option (Value×Nat)->Shared->Prop),Q r s->wpAny (model prog w) A (setNext a sl i ep) Q E s)
  (hQ:∀v nx,r=some (v,nx)->∀h',fL h' it (.int (nx:Nat) 0) (i+1) a es.size ep->Heap.SameBut it s.heap h'->Q (some v) { s with heap:=h' })
  (hE:r=none->∀h',Heap.ExtBut it s.heap h'->Q none { s with heap:=h' }):wpAny (model prog w) A (pyNext (.ref it)) Q E s:=by
 obtain⟨oi,ES,SD,hdi⟩:=id x;unfold pyNext;refine wpAny_bind (wpAny_attempt (wpAny_callSpecial?_slot (name:=Str.ofString "__next__") x.typeIs SI.slot_next (wpAny_call_entry SI.slot_next x.typeIs SI.entry_next ?_ (SI.args_next _))));unfold Builtin.«set_iterator.__next__»;refine wpAny_bind (wpAny_pure ?_);refine wpAny_bind (wpAny_fieldsOf ES hdi ?_);dsimp only;refine wpAny_bind (iF S.at_ S.dat S.tab.fit ?_);rw[if_neg (by simp)];refine wpAny_bind (hn _ _ _ ?_);cases r with
 | some p =>
  obtain⟨v,nx⟩:=p;dsimp only;refine wpAny_bind (wpAny_setField ES hdi (by simp) ?_);have h1:=get?_update_self (Obj.mapFields (·.setIfInBounds 0 (rawInt nx))) ES (Obj.isFreed_of_fields (Obj.data_mapFields hdi _));have d1:=Obj.data_mapFields hdi (·.setIfInBounds 0 (rawInt nx));refine wpAny_bind (wpAny_setField h1 d1 (by simp) ?_);have h2:=get?_update_self (Obj.mapFields (·.setIfInBounds 1 (rawInt ((i:Int)+1)))) h1 (Obj.isFreed_of_fields (Obj.data_mapFields d1 _));refine wpAny_pure ⟨_,rfl,wpAny_pure (hQ v nx rfl _ ⟨_,h2,?_,?_⟩ ((Heap.SameBut.update ..).trans (Heap.SameBut.update ..)))⟩
  ·rw[Obj.cls_mapFields,Obj.cls_mapFields];exact SD
  ·rw[Obj.data_mapFields d1];simp[rawInt]
 | none =>dsimp only;refine wpAny_bind (wpAny_setField ES hdi (by simp) ?_);refine wpAny_bind ?_;simp only[newExc,newTuple];refine wpAny_bind (wpAny_newObj_type ?_ (by size_fits));refine wpAny_bind (m:=firstArgMember _ _) (wpAny_of_eq (a:=Value.none) (by first|rfl|(simp only[firstArgMember];rfl)) ?_);refine wpAny_newObj_type ?_ (by size_fits);simp only[raiseNew];refine wpAny_bind (wpAny_handled ?_);rw[show A.in1.handled=none from hh];refine wpAny_bind (wpAny_pure (wpAny_throw ?_));refine wpAny_bind (wpAny_isInstance (T:="StopIteration") (b:=true) ⟨_,get?_push_size _ rfl,rfl⟩ isSubtype_stop ?_);exact wpAny_pure (hE rfl _ (((Heap.SameBut.update ..).extBut.push _).push _))
end
end L2
end
section
namespace L2
open PySem PyProof.Rows
theorem lG{α:Type}:∀(l:List α) (i:Nat) (h:i<l.length),(l[i]::l.eraseIdx i).Perm l
 | x::l,0,_=>List.Perm.refl _
 | x::l,i+1,h=>by
  simp only[List.getElem_cons_succ,List.eraseIdx_cons_succ];exact(List.Perm.swap _ _ _).trans (List.Perm.cons x (lG l i (by simpa using h)))
section
variable {prog:Program} {w:World} {A:Around} {E:Value->Shared->Prop} {s:Shared}
theorem AI{n:Nat}(hn:n≠0)(h:∀i d,i<n->Q i { s with drawn:=d }):wpAny (model prog w) A (choose src n) Q E s:=fun Γ p hΓ=>by
 show Sem.wp _ _ (Sem.choose src n Sem.pure) _ _ _ _;rw[Sem.wp];exact⟨hn,h _ _ (mod_lt _ (Nat.pos_of_ne_zero hn))⟩
theorem yZ{α:Type}:∀(n:Nat) (xs:List α) (s:Shared) (Q:List α -> Shared->Prop),xs.length=n->(∀ys d,ys.Perm xs->Q ys { s with drawn:=d })->wpAny (model prog w) A (drawOrder n xs) Q E s
 | 0,xs,s,Q,hl,h=>by
  have:xs=[]:=List.eq_nil_of_length_eq_zero hl;subst this;unfold drawOrder;exact wpAny_pure (h [] s.drawn (List.Perm.refl _))
 | n+1,[],s,Q,hl,h=>by simp at hl
 | n+1,x::xs,s,Q,hl,h=>by
  unfold drawOrder;refine wpAny_bind (AI (by simp) λi d hi=>?_);have hx:(x::xs)[i]?=some ((x::xs)[i]):=List.getElem?_eq_getElem hi;rw[hx];dsimp only;refine wpAny_bind (yZ n ((x::xs).eraseIdx i) _ _ (by rw[List.length_eraseIdx,if_pos hi];simp at hl |-;omega) λys d' p=>wpAny_pure ?_);exact h _ d' (((List.Perm.cons _ p).trans (lG _ i hi)))
theorem qg{ep c:Nat}{ks:List Int}{i:Nat}{ps:List Nat}(hh:A.handled=none)(x:fL s.heap it (.ref td) i a es.size ep)(S:e8 prog w s.heap a o es ep t ks)
  (hT:s.heap.get? td=some oT) (QY:oT.data=.seq (ps.map λ(j:Nat)=>rawInt j).toArray c) (hlt:∀j∈ps,j<es.size)
  (hQ:∀j e,ps[i]?=some j->es[j]?=some e->∀h',fL h' it (.ref td) (i+1) a es.size ep->Heap.SameBut it s.heap h'->Q (some e.2) { s with heap:=h' })
  (hE:ps[i]?=none->∀h',Heap.ExtBut it s.heap h'->Q none { s with heap:=h' }):wpAny (model prog w) A (pyNext (.ref it)) Q E s:=by
 obtain⟨oi,ES,SD,hdi⟩:=id x;unfold pyNext;refine wpAny_bind (wpAny_attempt (wpAny_callSpecial?_slot (name:=Str.ofString "__next__") x.typeIs SI.slot_next (wpAny_call_entry SI.slot_next x.typeIs SI.entry_next ?_ (SI.args_next _))));unfold Builtin.«set_iterator.__next__»;refine wpAny_bind (wpAny_pure ?_);refine wpAny_bind (wpAny_fieldsOf ES hdi ?_);dsimp only;refine wpAny_bind (iF S.at_ S.dat S.tab.fit ?_);rw[if_neg (by simp)];refine wpAny_bind (wpAny_seqItems hT QY ?_);dsimp only;have hg:((ps.map λ(j:Nat)=>rawInt j).toArray)[((i:Nat):Int).toNat]?=(ps[i]?).map λ(j:Nat)=>rawInt j:=by simp
 rw[hg];cases hp:ps[i]? with
 | some j =>
  have hj:j<es.size:=hlt j (mem_of_getElem? hp);simp only[map_some,rawInt];refine wpAny_bind ?_;unfold setNextDrawn;refine wpAny_bind (wpAny_setState_of S.at_ S.dat S.tab.fit ?_);dsimp only;rw[if_neg (by simp)];have Yn:es[((j:Nat):Int).toNat]?=some es[j]:=by simp[hj]
  rw[Yn];refine wpAny_pure ?_;refine wpAny_bind (wpAny_setField ES hdi (by simp) ?_);have h2:=get?_update_self (Obj.mapFields (·.setIfInBounds 1 (.int ((i:Int)+1) 0))) ES (Obj.isFreed_of_fields (Obj.data_mapFields hdi _));refine wpAny_pure ⟨_,rfl,wpAny_pure (hQ j _ hp (Array.getElem?_eq_getElem hj) _ ⟨_,h2,?_,?_⟩ (Heap.SameBut.update ..))⟩
  ·rw[Obj.cls_mapFields];exact SD
  ·rw[Obj.data_mapFields hdi];simp
 | none =>simp only[Option.map_none];refine wpAny_bind (wpAny_setField ES hdi (by simp) ?_);have h1:=get?_update_self (Obj.mapFields (·.setIfInBounds 0 (rawInt 0))) ES (Obj.isFreed_of_fields (Obj.data_mapFields hdi _));have d1:=Obj.data_mapFields hdi (·.setIfInBounds 0 (rawInt 0));refine wpAny_bind (wpAny_setField h1 d1 (by simp) ?_);refine wpAny_bind ?_;simp only[newExc,newTuple];refine wpAny_bind (wpAny_newObj_type ?_ (by size_fits));refine wpAny_bind (m:=firstArgMember _ _) (wpAny_of_eq (a:=Value.none) (by first|rfl|(simp only[firstArgMember];rfl)) ?_);refine wpAny_newObj_type ?_ (by size_fits);simp only[raiseNew];refine wpAny_bind (wpAny_handled ?_);rw[show A.in1.handled=none from hh];refine wpAny_bind (wpAny_pure (wpAny_throw ?_));refine wpAny_bind (wpAny_isInstance (T:="StopIteration") (b:=true) ⟨_,get?_push_size _ rfl,rfl⟩ isSubtype_stop ?_);exact wpAny_pure (hE hp _ ((((Heap.SameBut.update ..).trans (Heap.SameBut.update ..)).extBut.push _).push _))
end
end L2
end
section
namespace L2
open PySem PyProof.Rows
theorem sy{α:Type}(f:Nat->Nat):∀(n k:Nat) (l:List α) (out:Array α),l.length=n->(pickOrder.go f n k l out).toList.Perm (out.toList++l)
 | 0,k,l,out,h=>by
  have:l=[]:=List.eq_nil_of_length_eq_zero h;subst this;unfold pickOrder.go;simp
 | n+1,k,l,out,h=>by
  unfold pickOrder.go;have hl:0<l.length:=by omega
  have hi:f k%l.length<l.length:=mod_lt _ hl;rw[List.getElem?_eq_getElem hi];dsimp only;refine(sy f n (k+1) _ _ (by rw[List.length_eraseIdx,if_pos hi];omega)).trans ?_;rw[Array.toList_push,List.append_assoc];exact List.Perm.append_left _ (lG l _ hi)
theorem sD{t:SetTable}{n:Nat}(h:t.fits n=true):t.place.size=n:=by
 simp only[SetTable.fits,and_eq_true,beq_iff_eq] at h;exact h.1
noncomputable def QZ(t:SetTable):Nat->Nat
 | 0=>0
 | i+1=>t.place.getD i 0+1
theorem sE(r:sd t.place):∀i,i<=t.place.size->SetTable.below t.place (QZ t i)=i
 | 0,_=>yd r
 | i+1,h=>by
  have hi:i<t.place.size:=h;have e:QZ t (i+1)=t.place[i]+1:=by simp[QZ,Array.getD,hi]
  rw[e];exact ye r hi
section
variable {prog:Program} {w:World} {A:Around} {E:Value->Shared->Prop} {s:Shared}
theorem e8.keep{ep:Nat}{ks:List Int}(S:e8 prog w h a o es ep t ks)(k:∀o,h.get? a=some o->h'.get? a=some o):e8 prog w h' a o es ep t ks:={ S with at_:=k o S.at_ }
theorem fL.keep{i:Nat}{n ep:Nat}(x:fL h it f i a n ep)(k:∀o,h.get? it=some o->h'.get? it=some o):fL h' it f i a n ep:=by
 obtain⟨o,ho,r⟩:=x;exact⟨o,k o ho,r⟩
noncomputable def PL(L:List (Int×Value))(i:Nat)(v:Value):Prop:=∃e,L[i]?=some e/\v=e.2
theorem AJ(hh:A.handled=none){ep:Nat}{ks:List Int}(hne:a≠I)(hb:rF w=false)(hp:(!t.plain&&decide (es.size>1))=false) :
  Walks prog w A I [I,a] [I] es.toList.length (PL es.toList) (λi h=>e8 prog w h a o es ep t ks/\fL h I (.int (QZ t i) 0) i a es.size ep) where
 sub:=λb hb=>by simp at hb;simp[hb]
 frame:=λ_ _ _ st hk=>⟨st.1.keep λo e=>hk a (by simp) o e,st.2.keep λo e=>hk I (by simp) o e⟩
 item:=λi s Q E hi st hQ=>by
  have hi:i<es.size:=by simpa using hi
  have hz:=sD st.1.tab.fit;have hb':=sE st.1.tab.rs i (by rw[hz];exact Nat.le_of_lt hi);refine lY (r:=some (es[i].2,t.place.getD i 0+1)) hh st.2 st.1 (λA E Q q=>sj st.1 hb hp ?_) (λv nx e h' x' sb=>?_) (λe=>nomatch e)
  ·rw[hb',Array.getElem?_eq_getElem hi,Array.getElem?_eq_getElem (by rw[hz];exact hi)]
   have e1:t.place[i]'(by rw[hz];exact hi)=t.place.getD i 0:=by simp[Array.getD,hz,hi]
   dsimp only;rw[e1];exact q
  ·cases e;exact hQ _ h' s.toks ⟨es[i],by simp[hi],rfl⟩ ⟨st.1.keep λo e=>sb.extBut a o hne e,x'⟩ λb o hb e=>sb.extBut b o (λz=>hb (by simp[z])) e
 done:=λs Q E st hQ=>by
  have hz:=sD st.1.tab.fit;have hb':=sE st.1.tab.rs es.toList.length (by rw[hz];simp);refine lY (r:=none) hh st.2 st.1 (λA E Q q=>sj st.1 hb hp ?_) (λv nx e=>nomatch e) (λ_ h' sb=>hQ h' s.toks λb o hb e=>sb b o (λz=>hb (by simp[z])) e);rw[hb',Array.getElem?_eq_none (by simp)];exact q
 self:=λ_ _ _ _ st hQ=>nv st.2 hQ
theorem AK(hh:A.handled=none){ep:Nat}{ks:List Int}(hne:a≠I)(hb:rF w=true) :
  Walks prog w A I [I,a] [I] (pickOrder (w.params.setOrder a ep) es).toList.length (PL (pickOrder (w.params.setOrder a ep) es).toList) (λi h=>e8 prog w h a o es ep t ks/\fL h I (.int (0:Nat) 0) i a es.size ep) where
 sub:=λb hb=>by simp at hb;simp[hb]
 frame:=λ_ _ _ st hk=>⟨st.1.keep λo e=>hk a (by simp) o e,st.2.keep λo e=>hk I (by simp) o e⟩
 item:=λi s Q E hi st hQ=>by
  have hi:i<(pickOrder (w.params.setOrder a ep) es).size:=by simpa using hi
  refine lY (r:=some ((pickOrder (w.params.setOrder a ep) es)[i].2,0)) hh st.2 st.1 (λA E Q q=>su st.1 hb ?_) (λv nx e h' x' sb=>?_) (λe=>nomatch e)
  ·rw[Array.getElem?_eq_getElem hi];exact q
  ·cases e;exact hQ _ h' s.toks ⟨(pickOrder (w.params.setOrder a ep) es)[i],by simp[hi],rfl⟩ ⟨st.1.keep λo e=>sb.extBut a o hne e,x'⟩ λb o hb e=>sb.extBut b o (λz=>hb (by simp[z])) e
 done:=λs Q E st hQ=>by
  refine lY (r:=none) hh st.2 st.1 (λA E Q q=>su st.1 hb ?_) (λv nx e=>nomatch e) (λ_ h' sb=>hQ h' s.toks λb o hb e=>sb b o (λz=>hb (by simp[z])) e);rw[Array.getElem?_eq_none (by simp)];exact q
 self:=λ_ _ _ _ st hQ=>nv st.2 hQ
theorem yh(hh:A.handled=none){ep c:Nat}{ks:List Int}{ps:List Nat}(hne:a≠I)(hnt:td≠I)(hlt:∀j∈ps,j<es.size)(QY:oT.data=.seq (ps.map λ(j:Nat)=>rawInt j).toArray c) :
  Walks prog w A I [I,a,td] [I] ps.length (PL (ps.map λj=>es.getD j (0,.none))) (λi h=>e8 prog w h a o es ep t ks/\fL h I (.ref td) i a es.size ep/\h.get? td=some oT) where
 sub:=λb hb=>by simp at hb;simp[hb]
 frame:=λ_ _ _ st hk=>⟨st.1.keep λo e=>hk a (by simp) o e,st.2.1.keep λo e=>hk I (by simp) o e,hk td (by simp) _ st.2.2⟩
 item:=λi s Q E hi st hQ=>by
  refine qg hh st.2.1 st.1 st.2.2 QY hlt (λj e hj he h' x' sb=>?_) (λhn=>absurd hn (by rw[List.getElem?_eq_getElem hi];simp));refine hQ _ h' s.toks ⟨e,?_,rfl⟩ ⟨st.1.keep λo e=>sb.extBut a o hne e,x',sb.extBut td _ hnt st.2.2⟩ λb o hb e=>sb.extBut b o (λz=>hb (by simp[z])) e;rw[getElem?_map,hj];have hjl:j<es.size:=(Array.getElem?_eq_some_iff.mp he).1;have:=(Array.getElem?_eq_some_iff.mp he).2;simp[Array.getD,hjl,this]
 done:=λs Q E st hQ=>qg hh st.2.1 st.1 st.2.2 QY hlt (λj e hj=>absurd hj (by simp)) (λ_ h' sb=>hQ h' s.toks λb o hb e=>sb b o (λz=>hb (by simp[z])) e)
 self:=λ_ _ _ _ st hQ=>nv st.2.1 hQ
end
end L2
end
section
namespace L2
open PySem PyProof.Rows
section
variable {prog:Program} {w:World} {A:Around} {E:Value->Shared->Prop} {s:Shared}
theorem Ct{ep:Nat}{ks:List Int}(S:e8 prog w s.heap a o es ep t ks)(h:Q (!rF w&&(!t.plain&&decide (es.size>1))) s):wpAny (model prog w) A (setDrawn a) Q E s:=by
 unfold setDrawn;refine wpAny_bind (wpAny_setState_of S.at_ S.dat S.tab.fit ?_);dsimp only;exact wpAny_bind (kG (wpAny_pure h))
theorem vv{ep:Nat}{ks:List Int}(S:e8 prog w s.heap a o es ep t ks)(h:Q ep s):wpAny (model prog w) A (setEpoch a) Q E s:=wpAny_setEpoch_of S.at_ S.dat S.tab.fit h
theorem Cu(hh:A.handled=none){ep:Nat}{ks:List Int}(S:e8 prog w s.heap a o es ep t ks)
  (hQ:∀(h':Heap) d (I:Addr) (fp:List Addr) (L:List (Int×Value)) (St:Nat->Heap->Prop),L.Perm es.toList->Walks prog w A I fp [I] L.length (PL L) St->St 0 h'->s.heap.objs.size<=I->I<h'.objs.size->(∀b∈fp,b=a\/s.heap.objs.size<=b)->(∀b o,s.heap.get? b=some o->h'.get? b=some o)->Q (.ref I) { s with heap:=h',drawn:=d }) :
  wpAny (model prog w) A (pyIter (.ref a)) Q E s:=by
 have hT:s.TypeIs (.ref a) "set":=⟨o,S.at_,S.ex.1⟩;have hlt:a<s.heap.objs.size:=lt_size S.at_;refine wpAny_pyIter_slot hT PySem.F.slot_set_iter (wpAny_call_entry PySem.F.slot_set_iter hT SI.yg ?_ (PySem.F.args_set_iter_1 _));unfold Builtin.«frozenset.__iter__» Builtin.Frozenset.slot0 Builtin.Frozenset.sizeOf;refine wpAny_bind (wpAny_bind (wpAny_pure (wpAny_pure ?_)));refine wpAny_bind (wpAny_bind (iF S.at_ S.dat S.tab.fit (wpAny_pure ?_)));refine wpAny_bind (Ct S ?_);cases hd:(!rF w&&(!t.plain&&decide (es.size>1))) with
 | false =>
  simp only[false_eq_true,↓reduceIte];refine wpAny_bind (wpAny_pure ?_);refine wpAny_bind (vv S ?_);refine wpAny_bind (wpAny_newObj_type (wpAny_pure ⟨_,rfl,"set_iterator",_,⟨_,get?_push_size _ rfl,rfl⟩,SI.slot_next.lookup,?_⟩));have e:s={ s with drawn:=s.drawn }:=by cases s;rfl
  have Wv:∀b∈[s.heap.objs.size,a],b=a\/s.heap.objs.size<=b:=λb hb=>by
   simp only[mem_cons,not_mem_nil,or_false] at hb
   rcases hb with rfl|rfl
   ·exact .inr (Nat.le_refl _)
   ·exact .inl rfl
  have sz:s.heap.objs.size<(s.heap.push { cls:=.type "set_iterator",data:=.fields ([rawInt 0,rawInt 0,.ref a,rawInt es.size,rawInt ep]:List Value).toArray }).objs.size:=by rw[size_push];exact lt_succ_self _
  cases hb:rF w with
  | true =>exact hQ _ s.drawn _ _ _ _ (sy _ _ 0 es.toList #[] (by simp)) (AK hh (ne_of_lt hlt) hb) ⟨S.keep λo e=>get?_push_of_some _ e,⟨_,get?_push_size _ rfl,rfl,rfl⟩⟩ (Nat.le_refl _) sz Wv λb o e=>get?_push_of_some _ e
  | false =>rw[hb] at hd;exact hQ _ s.drawn _ _ _ _ (List.Perm.refl _) (AJ hh (ne_of_lt hlt) hb (by simpa using hd)) ⟨S.keep λo e=>get?_push_of_some _ e,⟨_,get?_push_size _ rfl,rfl,rfl⟩⟩ (Nat.le_refl _) sz Wv λb o e=>get?_push_of_some _ e
 | true =>
  simp only[↓reduceIte];refine wpAny_bind (yZ es.size (List.range es.size) s _ (by simp) λps d pp=>?_);refine wpAny_bind ?_;simp only[newTuple];refine wpAny_newObj_type ?_ (by show (toArray _).size<=sizeLine;rw[size_toArray,length_map,pp.length_eq,length_range];exact fits_of_scanBound S.tab.few);have S1:e8 prog w (s.heap.push { cls:=.type "tuple",data:=.seq (ps.map λ(i:Nat)=>rawInt i).toArray }) a o es ep t ks:=S.keep λo e=>get?_push_of_some _ e;refine wpAny_bind (vv S1 ?_);refine wpAny_bind (wpAny_newObj_type (wpAny_pure ⟨_,rfl,"set_iterator",_,⟨_,get?_push_size _ rfl,rfl⟩,SI.slot_next.lookup,?_⟩));have hpl:∀j∈ps,j<es.size:=λj hj=>by simpa using pp.mem_iff.mp hj
  have perm:(ps.map λj=>es.getD j (0,Value.none)).Perm es.toList:=by
   have e2:(List.range es.size).map (λj=>es.getD j (0,Value.none))=es.toList:=by
    apply ext_getElem
    ·simp
    ·intro i h1 h2
     have hi:i<es.size:=by simpa using h2
     simp[Array.getD,hi]
   rw[<-e2];exact pp.map _
  have z1:(s.heap.push { cls:=.type "tuple",data:=.seq (ps.map λ(i:Nat)=>rawInt i).toArray }).objs.size=s.heap.objs.size+1:=size_push _ _;have W:=yh (prog:=prog) (w:=w) (A:=A) (o:=o) (ep:=ep) (t:=t) (ks:=ks) hh (I:=s.heap.objs.size+1) (a:=a) (td:=s.heap.objs.size) (oT:={ cls:=.type "tuple",data:=.seq (ps.map λ(i:Nat)=>rawInt i).toArray }) (es:=es) (c:=0) (ps:=ps) (ne_of_lt (lt_succ_of_lt hlt)) (ne_of_lt (lt_succ_self _)) hpl rfl;rw[show ps.length=(ps.map λj=>es.getD j (0,Value.none)).length by simp] at W;rw[z1];refine hQ _ d _ _ _ _ perm W ⟨S1.keep λo e=>get?_push_of_some _ e,⟨{ cls:=.type "set_iterator",data:=.fields ([.ref s.heap.objs.size,rawInt 0,.ref a,rawInt es.size,rawInt ep]:List Value).toArray },?_,rfl,rfl⟩,get?_push_of_some _ (get?_push_size _ rfl)⟩ (le_succ _) ?_ ?_ λb o e=>get?_push_of_some _ (get?_push_of_some _ e)
  ·rw[<-z1];exact get?_push_size _ rfl
  ·rw[size_push,z1];exact lt_succ_self _
  ·intro b hb
   simp only[mem_cons,not_mem_nil,or_false] at hb
   rcases hb with rfl|rfl|rfl
   ·exact .inr (le_succ _)
   ·exact .inl rfl
   ·exact .inr (Nat.le_refl _)
end
end L2
end
section
namespace L2
open PySem PyProof.Rows
section
variable {prog:Program} {w:World} {A:Around} {E:Value->Shared->Prop} {s:Shared}
theorem Cv(hT:s.TypeIs (.ref r) "set")(h:Q false s):wpAny (model prog w) A (Builtin.List.listLengthHint (.ref r)) Q E s:=by
 unfold Builtin.List.listLengthHint;refine wpAny_bind (wpAny_specialOf hT PySem.F.slot_set_len.lookup ?_);generalize hid:("set.__len__":String)=Yo
 wp_delta
 rw[show splitId Yo=some ("set","__len__") from by subst hid;decide +kernel];subst hid;refine wpAny_bind (wpAny_isInstance (T:="set") (b:=true) hT sub_set_self ?_);refine wpAny_ite_split (λz=>absurd z (by decide)) (λ_=>?_);refine wpAny_ite_split (λ_=>?_) (λz=>absurd (by decide +kernel) z);exact wpAny_bind (wpAny_typeOf hT (wpAny_pure h))
theorem vz(hh:A.handled=none){ep:Nat}{ks:List Int}(S:e8 prog w s.heap a o es ep t ks)
  (h:∀(h':Heap) (tk:Nat) d (L:List (Int×Value)),(∀b o,s.heap.get? b=some o->h'.get? b=some o)->s.heap.objs.size<h'.objs.size->L.Perm es.toList->R (L.map (·.2)) { s with heap:=h',toks:=tk,drawn:=d }) :
  wpAny (model prog w) A (collect (.ref a)) R E s:=by
 have hlt:a<s.heap.objs.size:=lt_size S.at_;unfold collect;refine wpAny_bind (wpAny_runValue (codeAny_builtin entry_proto_collect' ?_));rw[Around.under_plainId PySem.F.plain_proto_collect _];show wpAny _ A.in1 (newList [] >>= λl=>again (.builtin "list.__iadd__" ⟨[l,.ref a],[]⟩)) _ _ s;refine wpAny_bind (wpAny_newObj_type ?_);refine wpAny_pure ⟨plainId_quiet PySem.F.plain_list_iadd _,codeAny_builtin entry_list_iadd' ?_⟩;rw[Around.under_plainId PySem.F.plain_list_iadd _]
 let s1:Shared:={ s with heap:=s.heap.push { cls:=.type "list",data:=.seq ([]:List Value).toArray } }
 have l1:s1.heap.get? s.heap.objs.size=some { cls:=.type "list",data:=.seq #[] }:=get?_push_size _ rfl;have S1:e8 prog w s1.heap a o es ep t ks:=S.keep λo e=>get?_push_of_some _ e;have z1:s1.heap.objs.size=s.heap.objs.size+1:=size_push _ _;have hT:s1.TypeIs (.ref a) "set":=⟨o,S1.at_,S1.ex.1⟩;show wpAny _ A.in1 (Builtin.List.listExtendWith (.ref s.heap.objs.size) (.ref a) (.ref s.heap.objs.size)) _ _ s1;unfold Builtin.List.listExtendWith;refine wpAny_bind (wpAny_typeOf hT ?_);have n1:Builtin.List.listSameRef (.ref s.heap.objs.size) (.ref a)=false:=by simp[Builtin.List.listSameRef,Nat.ne_of_gt hlt]
 simp only[n1,show (Value.type "set" == Value.type "list")=false by decide,show (Value.type "set" == Value.type "tuple")=false by decide,Bool.or_false,false_eq_true,if_false];refine wpAny_bind (Cu (A:=A.in1) (by simp[hh]) S1 λh2 d I fp L St perm W st zI zI2 hfp k2=>?_);have l2:h2.get? s.heap.objs.size=some { cls:=.type "list",data:=.seq #[] }:=k2 _ _ l1;have nfp:s.heap.objs.size∉fp:=λz=>by
  rcases hfp _ z with e|e
  ·exact absurd e (Nat.ne_of_gt hlt)
  ·rw[z1] at e;exact absurd e (Nat.not_succ_le_self _)
 have hl:L.length<=sizeLine:=by rw[perm.length_eq,length_toList];exact fits_of_scanBound S.tab.few
 have key:∀(hp:Heap) (c₁:Nat) (Rr:Result->Shared->Prop),St 0 hp->(∀b o,b≠s.heap.objs.size->h2.get? b=some o->hp.get? b=some o)->hp.get? s.heap.objs.size=some { cls:=.type "list",data:=.seq #[] c₁ } ->
   (∀(s':Shared) (acc:Array Value) (c:Nat),s'.heap.get? s.heap.objs.size=some { cls:=.type "list",dict:=none,data:=.seq acc c,slots:=#[] }->R acc.toList s'->Rr (.ok (.ret (.ref s.heap.objs.size))) s') ->
   codeAny (model prog w) A (.builtin "list.extend.loop" ⟨[.ref s.heap.objs.size,.ref I,.ref s.heap.objs.size],[]⟩) Rr { s1 with heap:=hp,drawn:=d }:=by
  intro hp c₁ Rr hst hk hS hR;refine codeAny_extend_loopS W.toS hl s.heap.objs.size nfp (.ref s.heap.objs.size) L.length 0 _ #[] c₁ rfl (zero_le _) hst hS (ItemsOf.nil _) λs' acc c hm hS' hacc=>?_;refine hR s' acc c hS' ?_;have ea:acc.toList=L.map (·.2):=by
   apply ext_getElem
   ·rw[length_toList,hacc.1,length_map]
   ·intro j h1 h2
    have hj:j<acc.size:=by simpa using h1
    obtain⟨e,he,hv⟩:=hacc.2 j acc[j] (Array.getElem?_eq_getElem hj);rw[Array.getElem_toList,hv,getElem_map];obtain⟨hj2,e2⟩:=List.getElem?_eq_some_iff.mp he;rw[e2]
  rw[ea,Moved.eq_with hm];refine h s'.heap s'.toks d L (λb o e=>?_) (lt_size hS') perm;have hb:b<s.heap.objs.size:=lt_size e;refine hm.heap b o (λz=>?_) (hk b o (ne_of_lt hb) (k2 b o (get?_push_of_some _ e)))
  rcases mem_cons.mp z with z|z
  ·exact absurd z (ne_of_lt hb)
  ·rw[mem_singleton] at z;rw[z] at hb;rw[z1] at zI;exact absurd (lt_of_lt_of_le hb (Nat.le_of_succ_le zI)) (lt_irrefl _)
 have fin:∀(s':Shared) (acc:Array Value) (c:Nat),s'.heap.get? s.heap.objs.size=some { cls:=.type "list",dict:=none,data:=.seq acc c,slots:=#[] }->R acc.toList s'->wpAny (model prog w) A (load s.heap.objs.size >>= λob=>(match ob.data with|.seq xs _=>pure xs.toList|_=>unsupported "internal:collect")) R E s':=λs' acc c e q=>wpAny_bind (wpAny_load e (wpAny_pure q));refine wpAny_bind (wpAny_holding (Cv ⟨o,k2 _ _ S1.at_,S1.ex.1⟩ ?_));refine wpAny_ite_split (λ_=>?_) (λ_=>wpAny_pure ⟨plainId_quiet PySem.F.plain_extend_loop _,key _ 0 _ st (λb o _ e=>e) l2 fin⟩);refine wpAny_bind (wpAny_rule ?_);refine wpAny_bind ?_;show wpAny _ _ (updateSeq s.heap.objs.size (·.push .none) >>= λ_=>updateSeq s.heap.objs.size (·.pop)) _ _ _;refine wpAny_bind (wpAny_updateSeq l2 rfl ?_);have l3:=get?_update_self (Obj.mapSeq (·.push Value.none)) l2 rfl;refine wpAny_updateSeq (hz:=by seq_fits) l3 rfl ?_;have l4:=get?_update_self (Obj.mapSeq (·.pop)) l3 rfl;have oth:∀b o,b≠s.heap.objs.size->h2.get? b=some o->((h2.update s.heap.objs.size (Obj.mapSeq (·.push Value.none))).update s.heap.objs.size (Obj.mapSeq (·.pop))).get? b=some o:=λb o hb e=>(get?_update_other _ _ (Ne.symm hb)).trans ((get?_update_other _ _ (Ne.symm hb)).trans e);exact wpAny_pure ⟨plainId_quiet PySem.F.plain_extend_loop _,key _ _ _ (W.frame 0 _ _ st λb hb o e=>oth b o (λz=>nfp (z▸hb)) e) oth l4 fin⟩
end
end L2
end
section
namespace L2
open PySem PyProof.Rows
theorem vA:∀(ks ns:List Int),ks.Nodup->(∀k∈ks,k∈ns)->ks.length=ns.length->ks.Perm ns
 | [],ns,_,_,h=>by
  have:ns=[]:=List.eq_nil_of_length_eq_zero h.symm;subst this;exact List.Perm.refl _
 | k::ks,ns,nd,hs,hl=>by
  have hk:=hs k mem_cons_self;have Ww:=nodup_cons.mp nd;have p:=List.perm_cons_erase hk;refine(List.Perm.cons k (vA ks (ns.erase k) Ww.2 (λx hx=>?_) ?_)).trans p.symm
  ·exact(List.mem_erase_of_ne λz=>Ww.1 (by rw[<-z];exact hx)).mpr (hs x (mem_cons_of_mem _ hx))
  ·rw[List.length_erase_of_mem hk];simp only[length_cons] at hl;omega
noncomputable def vB:Value->Int
 | .int i _=>i
 | _=>0
section
variable {prog:Program} {w:World} {A:Around} {E:Value->Shared->Prop} {s:Shared}
theorem qh:∀{L:List (Int×Value)},ElemsOf (intKind prog w) L->IntsAre (L.map (·.2)) (L.map λe=>vB e.2)
 | [],_=>.nil
 | (h,v)::L,el=>by
  obtain⟨⟨k,hk,_⟩,_⟩:=el _ mem_cons_self;obtain⟨t,e⟩:=Value.isInt_shape (k:=k) (v:=v) hk;subst e;exact .cons k t (qh λx hx=>el x (mem_cons_of_mem _ hx))
theorem Cw{h:Heap}{a:Addr}{o:Obj}{es:Array (Int×Value)}{ep:Nat}{t:SetTable}{ks:List Int}(S:e8 prog w h a o es ep t ks){L:List (Int×Value)}(p:L.Perm es.toList):(L.map λe=>vB e.2).Perm ks:=by
 refine(vA ks _ S.Wr (λk hk=>?_) ?_).symm
 ·obtain⟨e,he,q⟩:=(S.mem k).mp hk;obtain⟨t',ev⟩:=Value.isInt_shape (k:=k) (v:=e.2) q;exact mem_map.mpr ⟨e,p.mem_iff.mpr he,by rw[ev];rfl⟩
 ·have:=S.num;rw[length_map,p.length_eq,length_toList];exact this.symm
theorem yi(hh:A.handled=none){ep:Nat}{ks:List Int}(S:e8 prog w s.heap a o es ep t ks)(h64:ks.length<64)
  (hQ:∀(h':Heap) (tk:Nat) d (D:Addr) (out:List Value) (e:Nat),(∀b o,s.heap.get? b=some o->h'.get? b=some o)->s.heap.objs.size<=D->h'.get? D=some (seqObj "list" out.toArray e)->IntsAre out (PySem.W.sortI ks)->Q (.ref D) { s with heap:=h',toks:=tk,drawn:=d }) :
  wpAny (model prog w) A (call (.builtin "sorted") [.ref a]) Q E s:=by
 refine oj.gM (O:=oj.pX) (vz (A:=A.in1) (by simp[hh]) S λh' tk d L hk hz perm=>?_);have el:ElemsOf (intKind prog w) L:=S.el.perm perm;have hI:=qh el;have pk:=Cw S perm;have hl:(L.map (·.2)).length<64:=by rw[length_map];have:=pk.length_eq;rw[length_map] at this;omega
 refine⟨hl,λi=>(L.map λe=>vB e.2).getD i 0,λh2 h6 _=>oj.pY hI h2,λp h'' outs k2 he=>?_⟩;obtain⟨e,he⟩:=he;have lv:(L.map (·.2)).length=(L.map λe=>vB e.2).length:=by rw[length_map,length_map]
 have mem:∀i∈p,i<L.length:=λi hi=>by have:=outs.perm.mem_iff.mp hi;simpa using this
 have pn:(p.map λi=>(L.map λe=>vB e.2).getD i 0).Perm ks:=by have:=outs.perm.map λi=>(L.map λe=>vB e.2).getD i 0;rw[lv,oj.cD] at this;exact this.trans pk
 have up:(p.map λi=>(L.map λe=>vB e.2).getD i 0).Pairwise (· <= ·):=by refine List.Pairwise.imp (R:=oj.pX.kle) (λ{x y:Int} hxy=>?_) outs.up;have hxy:(decide (y<x):Bool)=false:=hxy;exact not_lt.mp (of_decide_eq_false hxy)
 have es:=eq_sortI pn up;refine hQ h'' tk d h'.objs.size _ e (λb o z=>k2 b o (hk b o z)) (Nat.le_of_lt hz) he ?_;rw[<-es];clear he es up pn outs
 induction p with
 | nil=>exact .nil
 | cons i r ih =>
  have hi:=mem i mem_cons_self;have hi2:i<(L.map (·.2)).length:=by simpa using hi
  obtain⟨t',ev⟩:=IntsAre.int_at hI i _ (List.getElem?_eq_getElem hi2);rw[map_cons,map_cons];have e1:(L.map (·.2)).getD i Value.none=.int ((L.map λe=>vB e.2).getD i 0) t':=by rw[<-ev];simp[List.getD,List.getElem?_eq_getElem hi]
  rw[e1];exact .cons _ t' (ih λj hj=>mem j (mem_cons_of_mem _ hj))
end
end L2
end
section
namespace L2
open PySem PySem.Spec PyProof.Rows
section
variable {X:Cx}
theorem Inv.draws(I:Inv X pins σ H s)(d:Drawn):Inv X pins σ H { s with drawn:=d }:=⟨I.ok,I.os,I.bare,I.base,I.loc,I.cell,I.free,I.jH,I.pin,I.hok,I.len⟩
noncomputable def Yp(K:PySem.W.Frag)(te:TE):TE:=λσ H Q=>te σ H λx H1=>∃p ns,x=.ref p/\gI K H1 p (ns.map V.int)/\ns.length<64/\∀l,H1 l=none->Q (.ref l) (upd H1 l (.lst ((PySem.W.sortI (eW [] ns)).map V.int)))
theorem vC:∀(ns ks:List Int),(eW ks ns).length<=ks.length+ns.length
 | [],ks=>by simp[eW]
 | n::ns,ks=>by
  rw[eW,length_cons];have:=vC ns (qc ks n);have:=qd ks n;omega
theorem FZ{p1 p2 pos1 pos2:Pos}(hh:X.A.handled=none)(hg:Gl X "sorted")(hm:X.mg "sorted" = none)(Yq:Gl X "set")(hm2:X.mg "set" = none)(hv:bootBuiltins "sorted" = some (.builtin "sorted"))(hv2:bootBuiltins "set" = some (.type "set"))(he:PE X e te)
  (hs:starEach [e] X.env=[(false,eval e X.env)]):PE X (.Call (.Name "sorted" p1) [.Call (.Name "set" p2) [e] [] pos2] [] pos1) (Yp X.K te):=by
 intro pins s σ H Q I h;refine wpAny_Call_Name_kw (iD I hg hm hv ?_ (by decide) (by decide));refine PyProof.Rows.callWith_builtin1 ?_ rfl rfl;show wpAny _ _ (spliced [(false,eval (.Call (.Name "set" p2) [e] [] pos2) X.env)]) _ _ s;refine Calls.spliced_cons ?_;refine wpAny_Call_Name_kw (iD I Yq hm2 hv2 ?_ (by decide) (by decide));refine PyProof.Rows.callWith_type1 ?_ hs rfl;show wpAny _ _ (spliced (backTo pos2 (starEach [e] X.env))) _ _ s;rw[hs];show wpAny _ _ (spliced [(false,eval e X.env)]) _ _ s;refine Calls.spliced_cons (cz (he pins s σ H _ I h) λu s1 ⟨x,H1,I1,r1,p,ns,ex,hq,h64,q⟩=>Calls.spliced_nil ?_);subst ex;cases r1;obtain⟨its,rv,pl,hz⟩:=I1.list hq;have hi:=intsAre_of rv;have hl:=hi.length;refine vq hh pl.isList (by simpa using hi) (by show its.toArray.size+1<4096;rw[size_toArray,hl];omega) λh2 tk S k2=>?_;obtain⟨o,es,ep,t,S⟩:=S;refine Calls.spliced_nil ?_;have hk:=vC ns [];have SE:(eW [] ns).length<64:=by simp at hk;omega
 refine yi (s:={ s1 with heap:=h2,toks:=tk }) hh S SE λh3 Yr d D out e k3 zD eD hout=>?_;have hD:s1.heap.objs.size<=D:=le_trans (Nat.le_of_lt (lt_size S.at_)) zD;have hn:H1 D=none:=I1.hok.fresh hD;refine⟨.ref D,_,(I1.draws d).laid (t':=Yr) (λb o z=>k3 b o (k2 b o (lt_size z) z)) hD (show bY X.prog X.w _ _ _ (.lst ((PySem.W.sortI (eW [] ns)).map V.int)) from⟨?_,out,e,iT hout,eD⟩),rfl,q _ hn⟩;rw[length_map,(sortI_perm _).length_eq,sizeLine_eq];omega
end
end L2
end
section
namespace L2
open PySem PySem.Spec PyProof.Rows PySem.W
section
variable {X:Cx}
noncomputable def Wx(to:TE):TE:=λσ H Q=>to σ H λx H1=>∃a kvs,x=.ref a/\H1 a=some (.dK kvs)/\∀l,H1 l=none->Q (.ref l) (upd H1 l (.lst (kvs.map λkv=>kV kv.1)))
theorem KN(e:(aY P w).is k u=true):RelV (kV k) u:=by
 rw[xE] at e
 rcases bN e with ⟨i,t,rfl,rfl⟩|⟨x,t,rfl,rfl⟩
 ·exact⟨t,rfl⟩
 ·exact⟨t,rfl⟩
theorem nC:∀{kvs:List (Key×V)} {vs:List (Key×Value)} {out:List Value},KV kvs vs->out.length=vs.length->(∀(j:Nat) (v:Value),out[j]?=some v->∃(k:Key) (x:Value),vs[j]?=some (k,x)/\(aY P w).is k v=true)->Vals (kvs.map λkv=>kV kv.1) out
 | [],vs,out,r,hl,h=>by
  cases r;cases out with
  | nil=>exact .nil
  | cons _ _=>simp at hl
 | p::kvs,vs,out,r,hl,h=>by
  cases r with
  | @cons _ q _ qs hq t =>
   cases out with
   | nil=>simp at hl
   | cons v out =>
    obtain⟨k,x,e1,e2⟩:=h 0 v rfl;simp at e1;refine .cons ?_ (nC t (by simpa using hl) λj u hu=>h (j+1) u hu);have:p.1=k:=by rw[hq.1,e1]
    show RelV (kV p.1) v;rw[this];exact KN e2
end
end L2
end
section
namespace L2
open PySem PySem.Spec PyProof.Rows PySem.W
section
variable {X:Cx} {pins:List (Addr×Obj)} {σ:St} {H:Hp} {s:Shared} {a:Addr} {kvs:List (Key×V)} {k:Key} {u r:Value} {z:V} {A:Around} {E:Value->Shared->Prop}
end
end L2
end
section
namespace L2
open PySem PySem.Spec PyProof.Rows
section
open PySem.AutoSeq1 (wpAny_loadPart')
open PySem.MeetsSeq PySem.MeetsSeq3
end
end L2
end
section
namespace L2
open PySem PySem.Spec PyProof.Rows PySem.W
section
variable {X:Cx}
end
end L2
end
section
namespace L2
open PySem PySem.Spec PyProof.Rows PySem.W
section
variable {X:Cx}
end
end L2
end
section
namespace L2
open PySem PySem.Spec PyProof.Rows PySem.W
section
variable {X:Cx}
noncomputable def Wz(to:TE):TE:=λσ H Q=>to σ H λx H1=>∃(a:Addr) (kvs:List (Key×V)) (ns:List Int),x=.ref a/\H1 a=some (.dK kvs)/\kvs.map (·.1)=ns.map Sum.inl/\ns.length<64/\∀l,H1 l=none->Q (.ref l) (upd H1 l (.lst ((PySem.W.sortI ns).map V.int)))
theorem sG{ns:List Int}(hI:IntsAre vs ns):∀(p:List Nat),(∀i∈p,i<ns.length)->IntsAre (p.map λi=>vs.getD i Value.none) (p.map λi=>ns.getD i 0)
 | [],_=>.nil
 | i::r,mem=>by
  have hi:=mem i mem_cons_self;have hi2:i<vs.length:=by rw[hI.length];exact hi
  obtain⟨t',ev⟩:=IntsAre.int_at hI i _ (List.getElem?_eq_getElem hi2);rw[map_cons,map_cons];have e1:vs.getD i Value.none=.int (ns.getD i 0) t':=by rw[<-ev];simp[List.getD,List.getElem?_eq_getElem hi2]
  rw[e1];exact .cons _ t' (sG hI r λj hj=>mem j (mem_cons_of_mem _ hj))
end
end L2
end
section
namespace L2
open PySem PySem.Spec PyProof.Rows
end L2
end
section
namespace L2
open PySem PySem.Spec PyProof.Rows
section
variable {X:Cx}
theorem nD
  (hbase:attributeBase o m env (eval o env)=eval o env)
  (hfew:((backTo cp (starEach args env)).all (λx=>!x.1)&&(backToKw cp (keywordEach [] env)).all (λx=>x.1.isSome)
   && decide (args.length+([]:List Keyword).length+(if ([]:List Keyword).isEmpty then 0 else 1)<30))=true) (hline:(ap.endLine==cp.line)=true)
  (h:wpAny M A (eval o env) (λov s₁=>∀pl,wpAny M A (getMethod ov m pl) (λfx s₂=>wpAny M A (callWith cp fx.1 fx.2 (backTo cp (starEach args env)) (backToKw cp (keywordEach [] env))) Q E s₂) E s₁) E s) :
  wpAny M A (eval (.Call (.Attribute o m ap) args [] cp) env) Q E s:=by
 rw[arm_eval_Call,hbase];refine wpAny_bind (wpAny_mono h (λov s₁ h₁=>?_) λ_ _ e=>e);refine wpAny_bind (wpAny_standAt ?_);have Oj:methodCallForm (args.length+([]:List Keyword).length) (backTo cp (starEach args env)) (backToKw cp (keywordEach [] env))=true:=hfew;have hpos:methodCallPos true o env ap cp=pure cp:=by unfold methodCallPos;simp[hline]
 unfold methodCall;rw[Oj];refine wpAny_bind (wpAny_holding (wpAny_mono (h₁ _) (λfx s₂ h₂=>?_) λ_ _ e=>e));exact wpAny_bind (wpAny_of_eq hpos h₂)
theorem pe_mthD{k:Nat}(he:PE X o ta)(ha:PA X (l::ls) t)(hbase:attributeBase o m X.env (eval o X.env)=eval o X.env)
  (hfew:((backTo cp (starEach (l::ls) X.env)).all (λx=>!x.1)&&(backToKw cp (keywordEach [] X.env)).all (λx=>x.1.isSome)
   && decide ((l::ls).length+([]:List Keyword).length+(if ([]:List Keyword).isEmpty then 0 else 1)<30))=true) (hline:(ap.endLine==cp.line)=true) (hr:dP k X.A)
  (st:starEach (l::ls) X.env=(false,eval l X.env)::starEach ls X.env) (an:(backTo cp (starEach ls X.env)).any (·.1)=false) :
  PE X (.Call (.Attribute o m ap) (l::ls) [] cp) (λσ H Q=>ta σ H λx H1=>∃a C dx fs f fd ps sp,x=.ref a/\H1 a=some (.ins C dx fs)/\BA X.K C/\Meth X.K C m f/\fs.lookup m=none/\Binds X.K fd ps [] /\
   fJ X.prog X.w X.K X.mg X.base xA k f fd ps sp/\t σ H1 λvs H2=>sp (x::vs) H2 Q E0):=by
 intro pins s σ H Q I h;refine nD hbase hfew hline (cz (he pins s σ H _ I h) λu s1 aJ pl=>?_);obtain⟨x,H1,I1,rx,a,C,dx,fs,f,fd,ps,sp,ex,ea,c,hm,ln,hb,F,q⟩:=aJ;subst ex;obtain rfl:u=Value.ref a:=rx;refine pL I1 ea c hm ln ?_;refine callWith_K (first:=[.ref a]) (h₀:=X.base) I.ok.mod.MX hm.kp (cz (ha cp pins s1 σ H1 _ I1 q) λus s2 ⟨vs,H2,I2,r,q2⟩=>⟨I2.m8,?_⟩) st an;exact pM (us:=.ref a::us) (vs:=.ref a::vs) (qY:=[]) (ds:=[]) F hr hb .nil pT I2 (.cons rfl r) (by rw[append_nil];exact q2)
theorem pe_mth0{k:Nat}(he:PE X o ta)(hbase:attributeBase o m X.env (eval o X.env)=eval o X.env)
  (hline:(ap.endLine==cp.line)=true) (hr:dP k X.A) :
  PE X (.Call (.Attribute o m ap) [] [] cp) (λσ H Q=>ta σ H λx H1=>∃a C dx fs f fd ps sp,x=.ref a/\H1 a=some (.ins C dx fs)/\BA X.K C/\Meth X.K C m f/\fs.lookup m=none/\Binds X.K fd ps [] /\
   fJ X.prog X.w X.K X.mg X.base xA k f fd ps sp/\sp [x] H1 Q E0):=by
 intro pins s σ H Q I h;refine nD hbase rfl hline (cz (he pins s σ H _ I h) λu s1 aJ pl=>?_);obtain⟨x,H1,I1,rx,a,C,dx,fs,f,fd,ps,sp,ex,ea,c,hm,ln,hb,F,q⟩:=aJ;subst ex;obtain rfl:u=Value.ref a:=rx;refine pL I1 ea c hm ln ?_;exact callWith_K0 (first:=[.ref a]) I1.m8 hm.kp (pM (us:=[.ref a]) (vs:=[.ref a]) (qY:=[]) (ds:=[]) F hr hb .nil pT I1 (.cons rfl .nil) q)
theorem KO:kC X (compareOp .Is) (λx y H Q=>∃b c,x=.bl b/\y=.bl c/\Q (.bl (b==c)) H):=by
 intro pins s σ H x y v u Q I rx ry h;obtain⟨b,c,rfl,rfl,q⟩:=h;cases rx;cases ry;refine wpAny_is_plain rfl (m9 I q ?_);cases b<;>cases c<;>rfl
theorem Ga:kC X (compareOp .IsNot) (λx y H Q=>∃b c,x=.bl b/\y=.bl c/\Q (.bl (!(b==c))) H):=by
 intro pins s σ H x y v u Q I rx ry h;obtain⟨b,c,rfl,rfl,q⟩:=h;cases rx;cases ry;refine wpAny_isNot_plain rfl (m9 I q ?_);cases b<;>cases c<;>rfl
end
end L2
end
section
namespace L2
open PySem PySem.Spec PyProof.Rows PySem.W
section
variable {X:Cx}
theorem Ol{t':Nat}(I:Inv X pins σ H s)(k:∀b u,s.heap.get? b=some u->h'.get? b=some u)(hp:s.heap.get? a=none)(hn:H a=none)(new:bY X.prog X.w (upd H a o) h' a o) :
  Inv X pins σ (upd H a o) { s with heap:=h',toks:=t' }:=by
 refine I.un ⟨λb u q _ _ _=>k b u q,λb u q _ _ _=>⟨u.slots,k b u q⟩,λb u q n _=>?_,λb u q _=>⟨u,k b u q⟩,λb xs q=>by rw[aA (aG q hn)];exact q,λb u xs q=>by rw[aA (aG q hn)];exact q,λb ps q=>⟨#[],by rw[aA (aG q hn),q];simp⟩⟩ λb u e=>?_
 ·rw[aA λz=>by rw[z,hp] at q;cases q];exact n
 ·by_cases hb:b=a
  ·subst hb;rw[aU] at e;cases e;exact new
  ·rw[aA hb] at e;exact(I.hok b u e).stay (λc v _ q=>k c v q) (λc q=>by rw[aA (aG q hn)];exact q) λc xs q=>by rw[aA (aG q hn)];exact q
noncomputable def Ys(K:PySem.W.Frag)(te:TE)(ts:TO):TE:=λσ H Q=>te σ H λx H1=>ts σ H1 λi H2=>i=some (-1)/\∃a xs,x=.ref a/\gI K H2 a xs/\∀p,H2 p=none->Q (.ref p) (upd H2 p (.lst xs.reverse))
theorem vD:∀{xs:List V} {its:List Value},Vals xs its->Vals xs.reverse its.reverse
 | [],_,h=>by cases h;exact .nil
 | x::r,_,h=>by
  cases h with
  | cons a t =>rw[reverse_cons,reverse_cons];exact Vals.append (vD t) (.cons a .nil)
theorem KP{e st:Expr}{te:TE}{ts:TO}{p2 pos:Pos}(he:PE X e te)(hs:PO X (some st) ts):PE X (.Subscript e (.Slice none none (some st) p2) pos) (Ys X.K te ts):=by
 intro pins s σ H Q I h;refine Subscript_ (cz (he pins s σ H _ I h) λv s1 aJ=>?_);obtain⟨x,H1,I1,r1,q1⟩:=aJ;refine wpAny_Slice ?_;rw[evalPart_none];refine wpAny_pure ?_;refine wpAny_pure ?_;refine cz (hs pins s1 σ H1 _ I1 q1) λvk s3 aJ=>?_;obtain⟨k,H3,I3,pk,q3⟩:=aJ;obtain⟨rfl,a,xs,rfl,hx,q⟩:=q3;cases r1;have I4:Inv X pins σ H3 { s3 with heap:=s3.heap.push { cls:=.type "slice",data:=.fields #[.none,.none,vk] } }:=I3.kept (t':=s3.toks) λb ob q=>get?_push_of_some _ q;obtain⟨its,r,ht,hz⟩:=I4.list hx;have hlen:=r.length;show wpAny (model X.prog X.w) X.A (subscriptTail e (.Slice none none (some st) p2) (.ref a) (.ref s3.heap.objs.size)) (EP X pins σ Q) X.xe { s3 with heap:=s3.heap.push { cls:=.type "slice",data:=.fields #[.none,.none,vk] } };refine tail_any (ops:=[.ref a,.ref s3.heap.objs.size]) ht.isList.typeIs slot_list_getitem.lookup ?_ (by with_unfolding_all rfl);refine wpAny_getItem_list_slice ht.isList (Heap.IsSliceOf.new ..) .none .none pk (by decide) ?_ (by rw[size_toArray]<;>omega);rw[PySem.W.krv_pick];refine⟨.ref _,_,I4.laid (t':=s3.toks) (o:=.lst xs.reverse) (λb ob q=>get?_push_of_some _ q) (Nat.le_refl _) ?_,rfl,q _ (I4.hok.fresh (Nat.le_refl _))⟩;exact⟨by rw[List.length_reverse];exact hz,_,0,vD r,get?_push_size _ rfl⟩
theorem AL(hh:X.A.handled=none)(hst:starEach [o] X.env=[(false,eval o X.env)])(hg:Gl X "list")(hm:X.mg "list" = none)(hv:bootBuiltins "list" = some (.type "list"))(ho:PE X o to):PE X (.Call (.Name "list" p) [o] [] pos) (Wx to):=by
 intro pins s σ H Q I h;refine wpAny_Call_Name_kw (iD I hg hm hv ?_ (by decide) (by decide));refine PyProof.Rows.callWith_type1 ?_ hst rfl;rw[hst];show wpAny _ _ (spliced [(false,eval o X.env)]) _ _ s;refine Calls.spliced_cons ?_;refine cz (ho pins s σ H _ I h) λu s1 aJ=>?_;obtain⟨x,H1,I1,r1,a,kvs,ex,ea,q⟩:=aJ;subst ex;cases r1;obtain⟨t1,t2,hd⟩:=xZ I1 (.inl ⟨kvs,.inl ea⟩);obtain⟨hz,_,vs,rel,dd⟩:=yV I1.hok ea;refine Calls.spliced_nil ?_;obtain⟨ep,da⟩:=dd.dictAt;have hlen:=rel.length;refine kdl_call (kdl_dict (knd:=aY X.prog X.w) (kvs:=vs) (ep:=ep) (d:=a) hd) hh da (by rw[<-hlen];exact hz) λh' tk acc c k2 eD hacc=>?_;have hn:H1 s1.heap.objs.size=none:=I1.hok.fresh (Nat.le_refl _);refine⟨.ref _,_,I1.laid (t':=tk) (λb o z=>k2 b o z) (Nat.le_refl _) (show bY X.prog X.w _ _ _ (.lst (kvs.map λkv=>kV kv.1)) from⟨?_,acc.toList,c,?_,?_⟩),rfl,q _ hn⟩
 ·rw[length_map];exact hz
 ·exact nC (P:=X.prog) (w:=X.w) rel (by rw[length_toList];exact hacc.1) λj v e=>hacc.2 j v (by rw[<-getElem?_toList];exact e)
 ·first|(rw[Array.toArray_toList];exact eD)|simpa using eD
theorem AM(hh:X.A.handled=none)(hst:starEach [o] X.env=[(false,eval o X.env)])(hg:Gl X "sorted")(hm:X.mg "sorted" = none)(hv:bootBuiltins "sorted" = some (.builtin "sorted"))(ho:PE X o to):PE X (.Call (.Name "sorted" p) [o] [] pos) (Wz to):=by
 intro pins s σ H Q I h;refine wpAny_Call_Name_kw (iD I hg hm hv ?_ (by decide) (by decide));refine PyProof.Rows.callWith_builtin1 ?_ hst rfl;rw[hst];show wpAny _ _ (spliced [(false,eval o X.env)]) _ _ s;refine Calls.spliced_cons ?_;refine cz (ho pins s σ H _ I h) λu s1 aJ=>?_;obtain⟨x,H1,I1,r1,a,kvs,ns,ex,ea,ens,h64,q⟩:=aJ;subst ex;cases r1;obtain⟨t1,t2,hd⟩:=xZ I1 (.inl ⟨kvs,.inl ea⟩);obtain⟨hz,_,vs,rel,dd⟩:=yV I1.hok ea;refine Calls.spliced_nil ?_;obtain⟨ep,da⟩:=dd.dictAt;have hlen:=rel.length;refine oj.gM (O:=oj.pX) (kdu_collect (A:=X.A.in1) (kdl_dict (knd:=aY X.prog X.w) (kvs:=vs) (ep:=ep) (d:=a) hd) (by simp[hh]) da (by rw[<-hlen];exact hz) λh' tk acc k1 hacc=>?_);have hV:Vals (kvs.map λkv=>kV kv.1) acc.toList:=nC (P:=X.prog) (w:=X.w) rel (by rw[length_toList];exact hacc.1) λj v e=>hacc.2 j v (by rw[<-getElem?_toList];exact e);have hk:(kvs.map λkv=>kV kv.1)=ns.map V.int:=by have:=congrArg (List.map kV) ens;rw[map_map,map_map] at this;exact this
 rw[hk] at hV;have hI:=intsAre_of hV;have lv:=hI.length;have hN:∀b o,s1.heap.get? b=some o->b≠h'.objs.size:=λb o e z=>by
  have q:=lt_size (k1 b o e);rw[z] at q;exact lt_irrefl _ q
 refine⟨by rw[lv];exact h64,λi=>ns.getD i 0,λh2 h6 _=>oj.pY hI h2,λpp h'' outs k' he=>?_⟩;obtain⟨e,he⟩:=he;have mem:∀i∈pp,i<ns.length:=λi hi=>by have:=outs.perm.mem_iff.mp hi;rw[lv] at this;simpa using this
 have pn:(pp.map λi=>ns.getD i 0).Perm ns:=by have:=outs.perm.map λi=>ns.getD i 0;rw[lv,oj.cD] at this;exact this
 have up:(pp.map λi=>ns.getD i 0).Pairwise (· <= ·):=by refine List.Pairwise.imp (R:=oj.pX.kle) (λ{x y:Int} hxy=>?_) outs.up;have hxy:(decide (y<x):Bool)=false:=hxy;exact not_lt.mp (of_decide_eq_false hxy)
 have es:=eq_sortI pn up;have hout:=sG hI pp mem;rw[es] at hout;dsimp only at k' he |-;have hl:s1.heap.get? h'.objs.size=none:=by
  cases e:s1.heap.get? h'.objs.size with
  | none=>rfl
  | some o=>exact absurd rfl (hN _ o e)
 have hn:H1 h'.objs.size=none:=(lC.kept I1.hok k1).fresh (Nat.le_refl _);refine⟨.ref h'.objs.size,_,Ol I1 (t':=tk) (λb o z=>k' b o (k1 b o z)) hl hn (show bY X.prog X.w _ _ _ (.lst ((PySem.W.sortI ns).map V.int)) from⟨?_,_,e,iT hout,he⟩),rfl,q _ hn⟩;rw[length_map,(sortI_perm _).length_eq,sizeLine_eq];omega
end
end L2
end
section
namespace L2
open PySem PySem.Spec PyProof.Rows PySem.W
section
variable {X:Cx}
structure KQ (K:PySem.W.Frag) (C:Addr) (m:Str) (f:Addr):Prop where
 ga:specialIn K (.ref C) "__getattribute__" = some (some (.builtin "type.__getattribute__"))
 rd:readsIn K C (.type "type")=true
 at_:findCls K (.ref C) (.type "type") m=some (.val (.ref f))
 kp:keepIn K (.ref f)=true
theorem KR{k:Nat}(F:fJ X.prog X.w X.K X.mg X.base xA k f fd ps sp)(hr:dP k X.A)(hg:Gl X x)(hm:X.mg x=some (.ref C))(c:KQ X.K C m f)(hb:Binds X.K fd ps [])
  (ha:PA X (l::ls) t) (hd:(x==("__debug__":Str))=false)
  (hfew:((backTo cp (starEach (l::ls) X.env)).all (λx=>!x.1)&&(backToKw cp (keywordEach [] X.env)).all (λx=>x.1.isSome)
   && decide ((l::ls).length+([]:List Keyword).length+(if ([]:List Keyword).isEmpty then 0 else 1)<30))=true) (hline:(ap.endLine==cp.line)=true)
  (st:starEach (l::ls) X.env=(false,eval l X.env)::starEach ls X.env) (an:(backTo cp (starEach ls X.env)).any (·.1)=false) :
  PE X (.Call (.Attribute (.Name x np) m ap) (l::ls) [] cp) (λσ H Q=>t σ H λvs H1=>sp vs H1 Q E0):=by
 intro pins s σ H Q I h;refine nD rfl hfew hline (kB I hg hm (λpl=>?_) hd);refine PySem.W.method_cls I.m8 c.ga (PySem.W.cls_value I.m8 c.rd c.at_ rfl ?_);refine callWith_K (first:=[]) (h₀:=X.base) I.ok.mod.MX c.kp (cz (ha cp pins _ σ H _ (I.tok _) h) λus s2 ⟨vs,H2,I2,r,q2⟩=>⟨I2.m8,?_⟩) st an;exact pM (us:=us) (vs:=vs) (qY:=[]) (ds:=[]) F hr hb .nil pT I2 r (by rw[append_nil];exact q2)
structure WA (K:PySem.W.Frag) (C:Addr):Prop where
 ha:findIn K (.ref C) "__class__" = some (some (.builtin "object.__class__"))
 hn:specialIn K (.builtin "object.__class__") "__get__" = some (some (.builtin "getset_descriptor.__get__"))
 htk:PySem.W.takesIn K (.builtin "object.__class__")=some true
 hm:PySem.W.mroIn K C (.type "object")=some true
end
end L2
end
section
namespace Hv
open PySem L2 PyProof.Rows
inductive Val
 | non|bl (b:Bool)|int (i:Int)|str (x:Str)|tup (vs:List Val)|rl (vs:List Val)|dc (ks:List Key) (vs:List Val)|ob (c:Nat) (xs:List Str) (vs:List Val)|ref (i:Nat)
inductive Ob
 | lst (xs:List Val)|dct (kvs:List (Key×Val))|ins (c:Nat) (fs:List (Str×Val))
noncomputable abbrev Hs:=List Ob
inductive Out (α:Type)
 | ok (a:α) (h:Hs)|exc (c:Nat) (vs:List Val) (h:Hs)|no
noncomputable abbrev M(α:Type):=Hs->Out α
noncomputable def ret{α:Type}(a:α):M α:=λh=>.ok a h
noncomputable def bnd{α β:Type}(m:M α)(f:α -> M β):M β:=λh=>match m h with
 | .ok a h'=>f a h'
 | .exc c vs h'=>.exc c vs h'
 | .no=>.no
noncomputable def bh{α:Type}(o:Option α):M α:=λh=>match o with
 | some a=>.ok a h
 | none=>.no
noncomputable def ask{α:Type}(f:Hs->Option α):M α:=λh=>bh (f h) h
noncomputable def new(o:Ob):M Val:=λh=>.ok (.ref h.length) (h++[o])
noncomputable def put(i:Nat)(o:Ob):M Unit:=λh=>.ok () (h.set i o)
noncomputable def ck{α β:Type}(f:α -> Option β):List α -> Option (List β)
 | []=>some []
 | a::r=>(f a).bind λb=>(ck f r).bind λbs=>some (b::bs)
inductive IK|add|sub|mul|fdiv|mod|pow
 deriving DecidableEq
inductive KS|eq|ne|lt|le|gt|ge|isn|ntn|y9|nin
 deriving DecidableEq
inductive Bl|len|min|max|sorted|list|tuple|str|int|all|any|isin (T:String)
 deriving DecidableEq
inductive Me|join|append|extend
 deriving DecidableEq
inductive za|one (i:Nat)|tup (is:List Nat)
 deriving DecidableEq
inductive Ik|seq|range|enum|zip
 deriving DecidableEq
mutual
inductive IE
 | var (i:Nat)|cst (d:Val)|con (x:Str) (d:Val)|no
 | bin (o:IK) (a b:IE)|neg (a:IE)|cmp (o:KS) (a b:IE)|chn (o p:KS) (a b c:IE)
 | and (a b:IE)|or (a b:IE)|not (a:IE)|ite (c a b:IE)
 | tup (es:oq)|lst (es:oq)|idx (a b:IE)|slc (a lo hi:IE)
 | call (j:Nat) (es:oq)|blt (b:Bl) (es:oq)|met (m:Me) (a:IE) (es:oq)
 | comp (N:List Str) (js:List (Option Nat)) (pat:za) (k:Ik) (it:oq) (c elt:IE)
 | dct0
 | sset (a:IE)
 | dget (d k x:IE)
 | dct1 (k v:IE)
 | lkeys (d:IE)
 | sdef (d k x:IE)
 | svals (d:IE)
 | skeys (d:IE)
 | fld (n:Nat) (a:IE) (x:Str)
 | mth (a:IE) (m:Str) (js:List (Nat×Nat)) (es:oq)
 | rev (a s:IE)
 | dflt (N:List Str) (js:List (Option Nat)) (p q:Nat) (d w:IE)
 | isc (a:IE) (x:Str) (bs:List Bool)
inductive oq|nil|cons (e:IE) (es:oq)
end
noncomputable abbrev Env:=List (Option Val)
mutual
inductive IS
 | expr (e:IE)|asg (p:za) (e:IE)|aug (i:Nat) (o:IK) (e:IE)|gO (o i v:IE)
 | iff (c:IE) (a b:fM)|for (p:za) (k:Ik) (it:oq) (body:fM)|whl (n:Nat) (c:IE) (body:fM)
 | ret (e:IE)|Gb|brk|cnt|pass|never|setF (n:Nat) (a:IE) (x:Str) (v:IE)
inductive fM|nil|cons (s:IS) (r:fM)
end
noncomputable def aB(h:Hs):Val->Option (List Val)
 | .rl vs=>some vs
 | .ref i=>match h[i]? with
  | some (.lst xs)=>some xs
  | _=>none
 | _=>none
noncomputable def cU(h:Hs):Val->Option (List Val)
 | .tup vs=>some vs
 | v=>aB h v
noncomputable def vF(h:Hs):Val->Option (List Val)
 | .tup vs=>some vs
 | .ref i=>aB h (.ref i)
 | _=>none
noncomputable def aV:List Val->Option (List Int):=ck λv=>match v with
 | .int i=>some i
 | _=>none
noncomputable def strs?:List Val->Option (List Str):=ck λv=>match v with
 | .str i=>some i
 | _=>none
noncomputable def cu:List Val->Option (List Bool):=ck λv=>match v with
 | .bl i=>some i
 | _=>none
noncomputable def k9:List Val->Option (List (List Int)):=ck λv=>match v with
 | .tup vs=>if vs.isEmpty then none else aV vs
 | _=>none
noncomputable def toD:Nat->Hs->Val->Option PyData
 | 0,_,_=>none
 | _+1,_,.non=>some .none
 | _+1,_,.bl b=>some (.bool b)
 | _+1,_,.int i=>some (.int i)
 | _+1,_,.str x=>if PyData.strOk x=true then some (.str x) else none
 | n+1,h,.tup vs=>(ck (toD n h) vs).bind λds=>some (.tuple ds)
 | n+1,h,.rl vs=>(ck (toD n h) vs).bind λds=>some (.list ds)
 | _+1,_,.dc _ _=>none
 | _+1,_,.ob _ _ _=>none
 | n+1,h,.ref i=>(aB h (.ref i)).bind λxs=>(ck (toD n h) xs).bind λds=>some (.list ds)
noncomputable def BC(h:Hs)(v w:Val):Option Bool:=(toD 16 h v).bind λd=>(toD 16 h w).bind λe=>some (PyData.eqv d e)
noncomputable def ud(x:List Int):List (List Int)->List (List Int)
 | []=>[x]
 | y::r=>if HT.lexLt y x=true then y::ud x r else x::y::r
noncomputable def lZ:List (List Int)->List (List Int)
 | []=>[]
 | x::r=>ud x (lZ r)
noncomputable def l0(ks:List Int):Val:=.tup (ks.map .int)
noncomputable def fE(xs:List Val):Option (List Val) :=
 if xs.length<64 then
  match aV xs with
  | some ns=>some ((PySem.W.sortI ns).map .int)
  | none=>(k9 xs).bind λo8=>some ((lZ o8).map l0)
 else none
noncomputable def ue:List Int->Option Val
 | []=>none
 | a::r=>some (.int (r.foldl min a))
noncomputable def uf:List Int->Option Val
 | []=>none
 | a::r=>some (.int (r.foldl max a))
noncomputable def lg(i j:Int):Bool:=(decide (-(2 ^ 64)<i)&&decide (i<2 ^ 64))||(decide (-(2 ^ 64)<j)&&decide (j<2 ^ 64))
noncomputable def aF{α:Type}(c:Bool)(m:M α):M α:=λh=>if c=true then m h else .no
noncomputable def gy(b:Int):Bool:=decide (0<b/\b<1606938044258990275541962092341162602522202993782792835301376)
noncomputable def M3:IK->Val->Val->M Val
 | .add,.int a,.int b=>ret (.int (a+b))
 | .add,.str a,.str b=>aF (decide (a.length+b.length<=sizeLine)) (ret (.str (a++b)))
 | .add,.tup a,.tup b=>aF (!a.isEmpty&&decide (a.length+b.length<=sizeLine)) (ret (.tup (a++b)))
 | .add,v,w=>bnd (ask λh=>aB h v) λa=>bnd (ask λh=>aB h w) λb=>aF (decide (a.length+b.length<=sizeLine)) (new (.lst (a++b)))
 | .sub,.int a,.int b=>ret (.int (a-b))
 | .mul,.int a,.int b=>aF (lg a b) (ret (.int (a*b)))
 | .fdiv,.int a,.int b=>aF (gy b) (ret (.int (a/b)))
 | .mod,.int a,.int b=>aF (decide (0<b)) (ret (.int (a%b)))
 | .pow,.int a,.int b=>aF (decide (0<=b/\b<=1000000/\a.natAbs<2 ^ 64)) (ret (.int (a ^ b.toNat)))
 | _,_,_=>bh none
noncomputable def qi:Val->Bool
 | .non=>true
 | _=>false
noncomputable def cy(kvs:List (Key×Val))(k:Key):Option Val:=(kvs.find? λkv=>decide (kv.1=k)).map (·.2)
noncomputable def gP(kvs:List (Key×Val))(k:Key)(v:Val):List (Key×Val) :=
 if (kvs.any λkv=>decide (kv.1=k))=true then kvs.map (λkv=>if kv.1=k then (kv.1,v) else kv) else kvs++[(k,v)]
noncomputable def keyOf:Val->Option Key
 | .int i=>some (.inl i)
 | .str x=>some (.inr x)
 | _=>none
noncomputable def KU(f d:PyData):Option Bool:=match f with
 | .list ds=>some (ds.any λy=>PyData.eqv y d)
 | .tuple ds=>some (ds.any λy=>PyData.eqv y d)
 | _=>none
noncomputable def memD(h:Hs)(v w:Val):Option Bool:=(toD 16 h w).bind λf=>(toD 16 h v).bind λd=>KU f d
noncomputable def Gd(h:Hs)(v:Val)(i:Nat):Ob->Option Bool
 | .dct kvs=>(keyOf v).bind λk=>some (cy kvs k).isSome
 | _=>memD h v (.ref i)
noncomputable def ug(h:Hs):Val->Val->Option Bool
 | .str a,.str b=>some (!(Builtin.Str.occurrences b a 0 b.length 1).isEmpty)
 | v,.ref i=>(h[i]?).bind (Gd h v i)
 | v,.dc ks _=>(keyOf v).bind λk=>some (ks.any λj=>decide (j=k))
 | v,w=>memD h v w
noncomputable def IL(v w:Val):Option Bool:=match w with
 | .non=>some (qi v)
 | .bl b=>(match v with
  | .bl a=>some (a==b)
  | _=>none)
 | _=>none
noncomputable def cop(h:Hs):KS->Val->Val->Option Bool
 | .eq,v,w=>BC h v w
 | .ne,v,w=>(BC h v w).map (!·)
 | .lt,.int a,.int b=>some (decide (a<b))
 | .le,.int a,.int b=>some (decide (a<=b))
 | .gt,.int a,.int b=>some (decide (b<a))
 | .ge,.int a,.int b=>some (decide (b<=a))
 | .isn,v,w=>IL v w
 | .ntn,v,w=>(IL v w).map (!·)
 | .y9,v,w=>ug h v w
 | .nin,v,w=>(ug h v w).map (!·)
 | _,_,_=>none
noncomputable def dQ(h:Hs):Val->Option Bool
 | .non=>some false
 | .bl b=>some b
 | .int i=>some (i != 0)
 | .str x=>if x.length<=sizeLine then some ((x.length:Int) != 0) else none
 | .tup vs=>some (!vs.isEmpty)
 | .rl vs=>some (!vs.isEmpty)
 | .dc ks _=>some (!ks.isEmpty)
 | .ob _ _ _=>none
 | .ref i=>match h[i]? with
  | some (.lst xs)=>some (!xs.isEmpty)
  | some (.dct xs)=>some (!xs.isEmpty)
  | _=>none
noncomputable def mh(h:Hs):Val->Val->Option Val
 | .str x,.int i=>if x.length<=sizeLine then (iR x.cps.toList i).map λc=>.str ⟨#[c]⟩ else none
 | .tup vs,.int i=>iR vs i
 | .rl vs,.int i=>iR vs i
 | .ref j,.int i=>match h[j]? with
  | some (.dct kvs)=>cy kvs (.inl i)
  | _=>(aB h (.ref j)).bind λxs=>iR xs i
 | .ref j,.str x=>match h[j]? with
  | some (.dct kvs)=>cy kvs (.inr x)
  | _=>none
 | .dc ks vs,.int i=>cy (ks.zip vs) (.inl i)
 | .dc ks vs,.str x=>cy (ks.zip vs) (.inr x)
 | _,_=>none
noncomputable def Ge(h:Hs)(o:Val):Option Unit:=match o with
 | .ref i=>(match h[i]? with
  | some (.dct _)=>some ()
  | _=>none)
 | .dc _ _=>some ()
 | _=>none
noncomputable def Cy(h:Hs)(o:Val)(k:Key):Option (Option Val):=match o with
 | .ref i=>(match h[i]? with
  | some (.dct kvs)=>some (cy kvs k)
  | _=>none)
 | .dc ks vs=>some (cy (ks.zip vs) k)
 | _=>none
noncomputable def vG(h:Hs)(o:Val):Option (List Key):=match o with
 | .ref i=>(match h[i]? with
  | some (.dct kvs)=>some (kvs.map (·.1))
  | _=>none)
 | .dc ks _=>some ks
 | _=>none
noncomputable def Gf:Key->Val
 | .inl i=>.int i
 | .inr x=>.str x
noncomputable def WB(o:Val)(k:Key)(z:Val):M Val:=match o with
 | .ref j=>bnd (ask λh=>match h[j]? with|some (.dct kvs)=>some kvs|_=>none) λkvs=>aF (decide (kvs.length<sizeLine)) (match cy kvs k with
  | some v=>ret v
  | none=>bnd (put j (.dct (gP kvs k z))) λ_=>ret z)
 | _=>bh none
noncomputable def sH:List Key->Option (List Int):=ck λk=>match k with
 | .inl i=>some i
 | .inr _=>none
noncomputable def uh(h:Hs)(o:Val):Option (List Int):=(vG h o).bind λks=>(sH ks).bind λns=>if ns.length<64 then some (PySem.W.sortI ns) else none
noncomputable def IM(h:Hs)(ks:List Key)(w:Val):Option (List Int):=(sH ks).bind λns=>(aB h w).bind λxs=>(aV xs).bind λms=>if ns.length<=100000 then some (ns.filter λn=>!(ms.any λm=>m==n)) else none
noncomputable def fZ{α:Type}(ds:List α)(lo hi:Option Int):List α:=(ds.drop (HT.eZ ds.length 0 lo)).take (HT.eZ ds.length ds.length hi-HT.eZ ds.length 0 lo)
noncomputable def rG(v:Val)(lo hi:Option Int):M Val:=match v with
 | .tup vs=>aF (!(decide (HT.eZ vs.length 0 lo=0)&&decide (HT.eZ vs.length vs.length hi=vs.length))) (ret (.tup (fZ vs lo hi)))
 | v=>bnd (ask λh=>aB h v) λxs=>new (.lst (fZ xs lo hi))
noncomputable def vH(h:Hs):Val->Option String
 | .non=>some "NoneType" | .bl _=>some "bool" | .int _=>some "int" | .str _=>some "str" | .tup _=>some "tuple" | .rl _=>some "list" | .dc _ _=>some "dict" | .ob _ _ _=>none
 | .ref i=>match h[i]? with
  | some (.lst _)=>some "list"
  | some (.dct _)=>some "dict"
  | _=>none
noncomputable def vI(T:String)(t:String):Option Bool :=
 if ["list","tuple","str","bool","int","dict"].contains T=true then some (decide (T=t\/(T = "int" /\ t = "bool"))) else none
noncomputable def mj(h:Hs):Val->Option Nat
 | .str x=>if x.length<=sizeLine then some x.length else none
 | .tup vs=>some vs.length
 | .rl vs=>some vs.length
 | .dc ks _=>some ks.length
 | .ref i=>match h[i]? with
  | some (.lst xs)=>some xs.length
  | some (.dct xs)=>some xs.length
  | _=>none
 | _=>none
noncomputable def blt:Bl->List Val->M Val
 | .len,[v]=>bnd (ask λh=>mj h v) λn=>ret (.int n)
 | .min,[.int a,.int b]=>ret (.int (if b<a then b else a))
 | .max,[.int a,.int b]=>ret (.int (if b>a then b else a))
 | .min,[v]=>bnd (ask λh=>cU h v) λxs=>bh ((aV xs).bind ue)
 | .max,[v]=>bnd (ask λh=>cU h v) λxs=>bh ((aV xs).bind uf)
 | .sorted,[v]=>bnd (ask λh=>aB h v) λxs=>bnd (bh (fE xs)) λys=>new (.lst ys)
 | .list,[v]=>bnd (ask λh=>cU h v) λxs=>new (.lst xs)
 | .tuple,[v]=>bnd (ask λh=>cU h v) λxs=>ret (.tup xs)
 | .str,[.int i]=>aF (decide (i.natAbs.log2<1920)) (ret (.str (toString i)))
 | .int,[.bl b]=>ret (.int (if b=true then 1 else 0))
 | .int,[.int i]=>ret (.int i)
 | .all,[v]=>bnd (ask λh=>aB h v) λxs=>bnd (bh (cu xs)) λbs=>ret (.bl (bs.all id))
 | .any,[v]=>bnd (ask λh=>aB h v) λxs=>bnd (bh (cu xs)) λbs=>ret (.bl (bs.any id))
 | .isin T,[v]=>bnd (ask λh=>vH h v) λt=>bnd (bh (vI T t)) λb=>ret (.bl b)
 | _,_=>bh none
noncomputable def met:Me->Val->List Val->M Val
 | .append,.ref i,[v]=>bnd (ask λh=>match h[i]? with|some (.lst xs)=>some xs|_=>none) λxs=>aF (decide (xs.length<sizeLine)) (bnd (put i (.lst (xs++[v]))) λ_=>ret .non)
 | .extend,.ref i,[v]=>bnd (ask λh=>match h[i]? with|some (.lst xs)=>some xs|_=>none) λxs=>bnd (ask λh=>vF h v) λys=>aF (decide (xs.length+ys.length<=sizeLine)) (bnd (put i (.lst (xs++ys))) λ_=>ret .non)
 | _,_,_=>bh none
noncomputable def recv(h:Hs):Me->Val->Option Unit
 | .join,.str _=>some ()
 | .append,.ref i=>match h[i]? with|some (.lst _)=>some ()|_=>none
 | .extend,.ref i=>match h[i]? with|some (.lst _)=>some ()|_=>none
 | _,_=>none
inductive Src
 | fix (xs:List Val)|live (i:Nat)|enum (i:Nat)|zip (v w:Val)
noncomputable def cV:Nat->List Val->List Val
 | _,[]=>[]
 | i,d::r=>.tup [.int i,d]::cV (i+1) r
noncomputable def Om:List Val->List Val->List Val
 | a::r,b::t=>.tup [a,b]::Om r t
 | _,_=>[]
noncomputable def cE(lo:Int)(n:Nat):List Val:=(List.range n).map λ(i:Nat)=>Val.int (lo+(i:Int))
noncomputable def inR(i:Int):Bool:=decide (-(2 ^ 62)<=i)&&decide (i<2 ^ 62)
noncomputable def srcOf:Ik->List Val->Option Src
 | .seq,[.tup vs]=>some (.fix vs)
 | .seq,[.rl vs]=>some (.fix vs)
 | .seq,[.ref i]=>some (.live i)
 | .range,[.int n]=>if inR n then some (.fix (cE 0 n.toNat)) else none
 | .range,[.int a,.int b]=>if inR a&&inR b then some (.fix (cE a (b-a).toNat)) else none
 | .enum,[.rl vs]=>some (.fix (cV 0 vs))
 | .enum,[.ref i]=>some (.enum i)
 | .zip,[v,w]=>some (.zip v w)
 | _,_=>none
noncomputable def Src.items(h:Hs):Src->Option (List Val)
 | .fix xs=>some xs
 | .live i=>aB h (.ref i)
 | .enum i=>(aB h (.ref i)).map (cV 0)
 | .zip v w=>(aB h v).bind λxs=>(aB h w).map λys=>Om xs ys
noncomputable def bindAll:List Nat->List Val->Env->Option Env
 | [],[],env=>some env
 | i::is,d::ds,env=>bindAll is ds (env.set i (some d))
 | _,_,_=>none
noncomputable def gq:za->Val->Env->Option Env
 | .one i,d,env=>some (env.set i (some d))
 | .tup is,.tup ds,env=>bindAll is ds env
 | _,_,_=>none
noncomputable def jU(js:List (Option Nat))(env:Env):Env:=js.map λo=>match o with
 | none=>none
 | some j=>match env[j]? with
  | some (some d)=>some d
  | _=>none
noncomputable def f6(src:Src)(f:Val->M (Option Val)):Nat->Nat->List Val->M (List Val)
 | 0,i,acc=>bnd (ask λh=>src.items h) λxs=>aF (decide (xs.length<=i)) (ret acc)
 | n+1,i,acc=>bnd (ask λh=>src.items h) λxs=>match xs[i]? with
  | none=>ret acc
  | some x=>bnd (f x) λo=>f6 src f n (i+1) (match o with|some e=>acc++[e]|none=>acc)
noncomputable def cS:IE->Bool
 | .no=>true
 | _=>false
noncomputable def iU:Val->Option Int
 | .int i=>some i
 | _=>none
noncomputable def qj:Val->M Bool
 | .bl b=>ret b
 | _=>bh none
noncomputable def iG(n:Nat)(h:Hs)(o:Val)(x:Str):Option Val:=match o with
 | .ref i=>(match h[i]? with
  | some (.ins c fs)=>if c<n then fs.lookup x else none
  | _=>none)
 | .ob c xs vs=>if c<n then (xs.zip vs).lookup x else none
 | _=>none
noncomputable def kR(h:Hs)(o:Val)(m:Str)(js:List (Nat×Nat)):Option Nat:=match o with
 | .ref i=>(match h[i]? with
  | some (.ins c fs)=>if (fs.lookup m).isNone=true then js.lookup c else none
  | _=>none)
 | .ob c xs vs=>if ((xs.zip vs).lookup m).isNone=true then js.lookup c else none
 | _=>none
noncomputable def qk(f:Str)(v:Val):List (Str×Val)->List (Str×Val)
 | []=>[(f,v)]
 | (g,x)::r=>if g=f then (g,v)::r else (g,x)::qk f v r
noncomputable def zb(n:Nat)(o:Val)(x:Str)(v:Val):M Unit:=match o with
 | .ref i=>bnd (ask λh=>match h[i]? with|some (.ins c fs)=>if c<n then some (c,fs) else none|_=>none) λp=>aF (decide (p.2.length<1000)) (put i (.ins p.1 (qk x v p.2)))
 | _=>bh none
noncomputable def Cz(c:Nat)(φ:List Val->M Val)(vs:List Val):M Val:=bnd (new (.ins c [])) λo=>bnd (φ (o::vs)) λr=>match r with
 | .non=>ret o
 | _=>bh none
mutual
noncomputable def aH(Φ:Nat->List Val->M Val):IE->Env->M Val
 | .var i,env=>bh (match env[i]? with
  | some (some d)=>some d
  | _=>none)
 | .cst d,_=>ret d
 | .con _ d,_=>ret d
 | .no,_=>bh none
 | .bin o a b,env=>bnd (aH Φ a env) λx=>bnd (aH Φ b env) λy=>M3 o x y
 | .neg a,env=>bnd (aH Φ a env) λx=>match x with
  | .int i=>ret (.int (-i))
  | _=>bh none
 | .cmp o a b,env=>bnd (aH Φ a env) λx=>bnd (aH Φ b env) λy=>bnd (ask λh=>cop h o x y) λt=>ret (.bl t)
 | .chn o p a b c,env=>bnd (aH Φ a env) λx=>bnd (aH Φ b env) λy=>bnd (ask λh=>cop h o x y) λt =>
  if t=true then bnd (aH Φ c env) λz=>bnd (ask λh=>cop h p y z) λt=>ret (.bl t) else ret (.bl false)
 | .and a b,env=>bnd (aH Φ a env) λx=>bnd (qj x) λt=>if t=true then bnd (aH Φ b env) λy=>bnd (qj y) λu=>ret (.bl u) else ret (.bl false)
 | .or a b,env=>bnd (aH Φ a env) λx=>bnd (qj x) λt=>if t=true then ret (.bl true) else bnd (aH Φ b env) λy=>bnd (qj y) λu=>ret (.bl u)
 | .not a,env=>bnd (aH Φ a env) λx=>bnd (qj x) λt=>ret (.bl (!t))
 | .ite _ _ _,_=>bh none
 | .tup es,env=>bnd (aZ Φ es env) λds=>aF (decide (ds.length<=sizeLine)) (ret (.tup ds))
 | .lst es,env=>bnd (aZ Φ es env) λds=>aF (decide (ds.length<=sizeLine)) (new (.lst ds))
 | .idx a b,env=>bnd (aH Φ a env) λx=>bnd (aH Φ b env) λy=>ask λh=>mh h x y
 | .slc a lo hi,env=>bnd (aH Φ a env) λx=>bnd (if cS lo=true then ret none else bnd (aH Φ lo env) λv=>bnd (bh (iU v)) λi=>ret (some i)) λl =>
   bnd (if cS hi=true then ret none else bnd (aH Φ hi env) λv=>bnd (bh (iU v)) λi=>ret (some i)) λu=>rG x l u
 | .call j es,env=>bnd (aZ Φ es env) λds=>Φ j ds
 | .blt b es,env=>bnd (aZ Φ es env) λds=>blt b ds
 | .met m a es,env=>bnd (aH Φ a env) λx=>bnd (ask λh=>recv h m x) λ_=>bnd (aZ Φ es env) λds=>met m x ds
 | .comp _ js pat k it c elt,env=>bnd (aZ Φ it env) λits=>bnd (bh (srcOf k its)) λsrc=>bnd (ask λh=>src.items h) λxs=>aF (decide (xs.length<=100000))
   (bnd (f6 src (λd=>bnd (bh (gq pat d (jU js env))) λenv'=>bnd (if cS c=true then ret true else bnd (aH Φ c env') λv=>ask λh=>dQ h v) λt =>
    if t=true then bnd (aH Φ elt env') λe=>ret (some e) else ret none) xs.length 0 []) λys=>new (.lst ys))
 | .dct0,_=>new (.dct [])
 | .sset a,env=>bnd (aH Φ a env) λv=>bnd (ask λh=>aB h v) λxs=>bnd (bh (aV xs)) λns=>aF (decide (ns.length<64)) (new (.lst ((PySem.W.sortI (L2.eW [] ns)).map .int)))
 | .dget d k x,env=>bnd (aH Φ d env) λo=>bnd (ask λh=>Ge h o) λ_=>bnd (aH Φ k env) λi=>bnd (bh (keyOf i)) λkk=>bnd (aH Φ x env) λz=>bnd (ask λh=>Cy h o kk) λr=>ret (r.getD z)
 | .dct1 k v,env=>bnd (aH Φ k env) λx=>bnd (bh (keyOf x)) λkk=>bnd (aH Φ v env) λy=>new (.dct [(kk,y)])
 | .lkeys d,env=>bnd (aH Φ d env) λo=>bnd (ask λh=>vG h o) λks=>new (.lst (ks.map Gf))
 | .sdef _ _ _,_=>bh none
 | .svals _,_=>bh none
 | .skeys d,env=>bnd (aH Φ d env) λo=>bnd (ask λh=>uh h o) λns=>new (.lst (ns.map .int))
 | .fld n a x,env=>bnd (aH Φ a env) λo=>ask λh=>iG n h o x
 | .mth a m js es,env=>bnd (aH Φ a env) λo=>bnd (ask λh=>kR h o m js) λj=>bnd (aZ Φ es env) λds=>Φ j (o::ds)
 | .rev a s,env=>bnd (aH Φ a env) λx=>bnd (if cS s=true then ret none else bnd (aH Φ s env) λv=>bnd (bh (iU v)) λi=>ret (some i)) λk =>
   aF (decide (k=some (-1))) (bnd (ask λh=>aB h x) λxs=>new (.lst xs.reverse))
 | .dflt _ _ _ _ _ _,_=>bh none
 | .isc _ _ _,_=>bh none
noncomputable def aZ(Φ:Nat->List Val->M Val):oq->Env->M (List Val)
 | .nil,_=>ret []
 | .cons e es,env=>bnd (aH Φ e env) λd=>bnd (aZ Φ es env) λds=>ret (d::ds)
end
inductive Fl
 | nx (env:Env)|rt (v:Val)|bk (env:Env)|ct (env:Env)
noncomputable def forM(src:Src)(body:Val->Env->M Fl):Nat->Nat->Env->M Fl
 | 0,i,env=>bnd (ask λh=>src.items h) λxs=>aF (decide (xs.length<=i)) (ret (.nx env))
 | n+1,i,env=>bnd (ask λh=>src.items h) λxs=>match xs[i]? with
  | none=>ret (.nx env)
  | some x=>bnd (body x env) λf=>match f with
   | .nx env'=>forM src body n (i+1) env'
   | .ct env'=>forM src body n (i+1) env'
   | .bk env'=>ret (.nx env')
   | .rt v=>ret (.rt v)
noncomputable def sI(o i v:Val):M Unit:=match o with
 | .ref j=>bnd (ask λh=>h[j]?) λob=>match ob,i with
  | .lst xs,.int k=>bnd (bh (As xs.length k)) λn=>put j (.lst (xs.set n v))
  | .dct kvs,i=>bnd (bh (keyOf i)) λk=>aF (decide (kvs.length<sizeLine)) (put j (.dct (gP kvs k v)))
  | _,_=>bh none
 | _=>bh none
mutual
noncomputable def gG(Φ:Nat->List Val->M Val):IS->Env->M Fl
 | .expr e,env=>bnd (aH Φ e env) λ_=>ret (.nx env)
 | .asg p e,env=>bnd (aH Φ e env) λv=>bnd (bh (gq p v env)) λenv'=>ret (.nx env')
 | .aug _ _ _,_=>bh none
 | .gO o i v,env=>bnd (aH Φ v env) λx=>bnd (aH Φ o env) λy=>bnd (aH Φ i env) λz=>bnd (sI y z x) λ_=>ret (.nx env)
 | .iff c a b,env=>bnd (aH Φ c env) λx=>bnd (ask λh=>dQ h x) λt=>if t=true then fN Φ a env else fN Φ b env
 | .for p k it body,env=>bnd (aZ Φ it env) λits=>bnd (bh (srcOf k its)) λsrc=>bnd (ask λh=>src.items h) λxs =>
   forM src (λx env=>bnd (bh (gq p x env)) λenv'=>fN Φ body env') xs.length 0 env
 | .whl _ _ _,_=>bh none
 | .ret e,env=>bnd (aH Φ e env) λv=>ret (.rt v)
 | .Gb,_=>ret (.rt .non)
 | .brk,env=>ret (.bk env)
 | .cnt,env=>ret (.ct env)
 | .pass,env=>ret (.nx env)
 | .never,_=>bh none
 | .setF n a x v,env=>bnd (aH Φ v env) λy=>bnd (aH Φ a env) λo=>bnd (zb n o x y) λ_=>ret (.nx env)
noncomputable def fN(Φ:Nat->List Val->M Val):fM->Env->M Fl
 | .nil,env=>ret (.nx env)
 | .cons s r,env=>bnd (gG Φ s env) λf=>match f with
  | .nx env'=>fN Φ r env'
  | f=>ret f
end
noncomputable def ie(Φ:Nat->List Val->M Val)(n:Nat)(body:fM)(vs:List Val):M Val :=
 bnd (fN Φ body (vs.map some++replicate (n-vs.length) none)) λf=>match f with
  | .nx _=>ret .non
  | .rt v=>ret v
  | _=>bh none
theorem jV{b:Bool}(ho:o=.lt\/o=.le\/o=.gt\/o=.ge)(e:cop h o v w=some b):∃i j,v=.int i/\w=.int j:=by
 cases v with
 | int i =>
  cases w with
  | int j=>exact⟨i,j,rfl,rfl⟩
  | _=>rcases ho with rfl|rfl|rfl|rfl<;>cases e
 | _=>rcases ho with rfl|rfl|rfl|rfl<;>cases e
end Hv
end
section
namespace Hv
open PySem L2 PyProof.Rows
structure Bd where
 K:PySem.W.Frag
 cl:Nat->Addr
noncomputable def IP(K:PySem.W.Frag)(H:Hp)(a:Addr)(xs:List V):Prop :=
 (∃o,H a=some (.rN o (.lst xs)))\/gI K (λ_=>none) a xs
theorem IP.sq{K:PySem.W.Frag}{H:Hp}{a:Addr}{xs:List V}(h:IP K H a xs):gI K H a xs:=by
 rcases h with ⟨o,h⟩|(h|⟨o,h⟩)|h
 ·exact .inl (.inr ⟨o,h⟩)
 ·cases h
 ·cases h
 ·exact .inr h
mutual
noncomputable def VR(K:PySem.W.Frag)(ρ:List Addr)(H:Hp):Val->V->Prop
 | .non,x=>x=.non
 | .bl b,x=>x=.bl b
 | .int i,x=>x=.int i
 | .str s,x=>x=.str s
 | .tup vs,x=>∃a xs,x=.ref a/\jv K H a xs/\az K ρ H vs xs
 | .rl vs,x=>∃a xs,x=.ref a/\IP K H a xs/\az K ρ H vs xs
 | .dc _ _,_=>False
 | .ob _ _ _,_=>False
 | .ref i,x=>∃a,x=.ref a /\ ρ[i]?=some a
noncomputable def az(K:PySem.W.Frag)(ρ:List Addr)(H:Hp):List Val->List V->Prop
 | [],xs=>xs=[]
 | v::vs,xs=>∃x r,xs=x::r/\VR K ρ H v x/\az K ρ H vs r
end
noncomputable def gz(K:PySem.W.Frag)(ρ:List Addr)(H:Hp):List (Key×Val)->List (Key×V)->Prop
 | [],xs=>xs=[]
 | (k,v)::vs,xs=>∃x r,xs=(k,x)::r/\VR K ρ H v x/\gz K ρ H vs r
noncomputable def mq(K:PySem.W.Frag)(ρ:List Addr)(H:Hp):List (Str×Val)->List (Str×V)->Prop
 | [],xs=>xs=[]
 | (k,v)::vs,xs=>∃x r,xs=(k,x)::r/\VR K ρ H v x/\mq K ρ H vs r
noncomputable def OR(B:Bd)(ρ:List Addr)(H:Hp)(a:Addr):Ob->Prop
 | .lst xs=>∃ys,H a=some (.lst ys)/\az B.K ρ H xs ys
 | .dct kvs=>∃ks,H a=some (.dK ks)/\gz B.K ρ H kvs ks
 | .ins c fs=>∃dx gs,H a=some (.ins (B.cl c) dx gs)/\mq B.K ρ H fs gs
structure HR (B:Bd) (ρ:List Addr) (h:Hs) (H:Hp):Prop where
 len:ρ.length=h.length
 nd:ρ.Nodup
 ob:∀(i:Nat) (o:Ob) (a:Addr),h[i]?=some o -> ρ[i]?=some a->OR B ρ H a o
noncomputable def Mu:HO->Bool
 | .lst _=>true|.dK _=>true|.ins ..=>true
 | _=>false
structure Gw (ρ:List Addr) (H:Hp) (ρ':List Addr) (H':Hp):Prop where
 pre:ρ <+: ρ'
 firm:∀a o,H a=some o->Mu o=false->H' a=some o
structure Gr (ρ:List Addr) (H:Hp) (ρ':List Addr) (H':Hp):Prop where
 pre:ρ <+: ρ'
 keep:∀a o,H a=some o->a ∉ ρ -> H' a=some o
 firm:∀a o,H a=some o->Mu o=false->H' a=some o
 fresh:∀a,a ∈ ρ'->a ∉ ρ -> H a=none
section
variable {K:PySem.W.Frag} {B:Bd} {ρ ρ' ρ1 ρ2:List Addr} {H H' H1 H2:Hp} {h h':Hs}
theorem Gr.w(g:Gr ρ H ρ' H'):Gw ρ H ρ' H':=⟨g.pre,g.firm⟩
theorem Gr.refl:Gr ρ H ρ H:=⟨prefix_refl _,λ_ _ e _=>e,λ_ _ e _=>e,λ_ e n=>absurd e n⟩
theorem Gr.trans(g:Gr ρ H ρ1 H1)(k:Gr ρ1 H1 ρ2 H2):Gr ρ H ρ2 H2 where
 pre:=g.pre.trans k.pre
 keep a o e n:=k.keep a o (g.keep a o e n) λz=>by rw[g.fresh a z n] at e;cases e
 firm a o e n:=k.firm a o (g.firm a o e n) n
 fresh a z n:=by
  by_cases hb:a ∈ ρ1
  ·exact g.fresh a hb n
  ·cases e:H a with
   | none=>rfl
   | some o =>have e1:=g.keep a o e n;rw[k.fresh a z hb] at e1;cases e1
theorem o9{i:Nat}(p:ρ <+: ρ')(e:ρ[i]?=some a):ρ'[i]?=some a:=by
 obtain⟨t,rfl⟩:=p;have hi:i < ρ.length:=(List.getElem?_eq_some_iff.mp e).1;rw[getElem?_append_left hi];exact e
theorem Gw.Ra(g:Gw ρ H ρ' H')(e:jv K H a xs):jv K H' a xs:=by
 rcases e with (e|⟨o,e⟩)|e
 ·exact .inl (.inl (g.firm _ _ e rfl))
 ·exact .inl (.inr ⟨o,g.firm _ _ e rfl⟩)
 ·exact .inr e
theorem Gw.KW(g:Gw ρ H ρ' H')(e:IP K H a xs):IP K H' a xs:=by
 rcases e with ⟨o,e⟩|e
 ·exact .inl ⟨o,g.firm _ _ e rfl⟩
 ·exact .inr e
mutual
theorem VR.kT(g:Gw ρ H ρ' H'):∀(v:Val) (x:V),VR K ρ H v x->VR K ρ' H' v x
 | .non,x,e=>by rw[VR] at e |-;exact e
 | .bl b,x,e=>by rw[VR] at e |-;exact e
 | .int b,x,e=>by rw[VR] at e |-;exact e
 | .str b,x,e=>by rw[VR] at e |-;exact e
 | .tup vs,x,e=>by
  rw[VR] at e |-;obtain⟨a,xs,rfl,q1,q2⟩:=e;exact⟨a,xs,rfl,g.Ra q1,az.kT g vs xs q2⟩
 | .rl vs,x,e=>by
  rw[VR] at e |-;obtain⟨a,xs,rfl,q1,q2⟩:=e;exact⟨a,xs,rfl,g.KW q1,az.kT g vs xs q2⟩
 | .dc _ _,x,e=>by rw[VR] at e;exact e.elim
 | .ob _ _ _,x,e=>by rw[VR] at e;exact e.elim
 | .ref i,x,e=>by
  rw[VR] at e |-;obtain⟨a,rfl,q⟩:=e;exact⟨a,rfl,o9 g.pre q⟩
theorem az.kT(g:Gw ρ H ρ' H'):∀(vs:List Val) (xs:List V),az K ρ H vs xs->az K ρ' H' vs xs
 | [],xs,e=>by rw[az] at e |-;exact e
 | v::vs,xs,e=>by
  rw[az] at e |-;obtain⟨x,r,rfl,q1,q2⟩:=e;exact⟨x,r,rfl,VR.kT g v x q1,az.kT g vs r q2⟩
end
theorem gz.kT(g:Gw ρ H ρ' H'):∀(vs:List (Key×Val)) (xs:List (Key×V)),gz K ρ H vs xs->gz K ρ' H' vs xs
 | [],xs,e=>e
 | (k,v)::vs,xs,⟨x,r,e,q1,q2⟩=>⟨x,r,e,VR.kT g v x q1,gz.kT g vs r q2⟩
theorem mq.kT(g:Gw ρ H ρ' H'):∀(vs:List (Str×Val)) (xs:List (Str×V)),mq K ρ H vs xs->mq K ρ' H' vs xs
 | [],xs,e=>e
 | (k,v)::vs,xs,⟨x,r,e,q1,q2⟩=>⟨x,r,e,VR.kT g v x q1,mq.kT g vs r q2⟩
theorem mq.look:∀{vs:List (Str×Val)} {xs:List (Str×V)},mq K ρ H vs xs->(vs.lookup x=none->xs.lookup x=none)/\∀v,vs.lookup x=some v->∃y,xs.lookup x=some y/\VR K ρ H v y
 | [],xs,e=>by rw[mq] at e;subst e;exact⟨λ_=>rfl,λv z=>by cases z⟩
 | (k,v)::vs,xs,e=>by
  rw[mq] at e;obtain⟨y,r,rfl,q1,q2⟩:=e;rw[lookup_cons,lookup_cons];cases hb:x==k with
  | true=>exact⟨λz=>(by cases z),λw z=>by cases z;exact⟨y,rfl,q1⟩⟩
  | false=>exact mq.look q2
theorem mq.length:∀{vs:List (Str×Val)} {xs:List (Str×V)},mq K ρ H vs xs->vs.length=xs.length
 | [],xs,e=>by rw[mq] at e;subst e;rfl
 | (k,v)::vs,xs,e=>by rw[mq] at e;obtain⟨y,r,rfl,_,q⟩:=e;simp[mq.length q]
theorem mq.put(hw:VR K ρ H w y):∀{vs:List (Str×Val)} {xs:List (Str×V)},mq K ρ H vs xs->mq K ρ H (qk x w vs) (jx x y xs)
 | [],xs,e=>by rw[mq] at e;subst e;exact⟨y,[],rfl,hw,rfl⟩
 | (k,v)::vs,xs,e=>by
  rw[mq] at e;obtain⟨z,r,rfl,q1,q2⟩:=e;rw[qk,jx]
  by_cases hk:k=x
  ·rw[if_pos hk,if_pos hk];exact⟨y,r,rfl,hw,q2⟩
  ·rw[if_neg hk,if_neg hk];exact⟨z,_,rfl,q1,mq.put hw q2⟩
theorem VR.up(g:Gr ρ H ρ' H')(v:Val)(x:V)(e:VR K ρ H v x):VR K ρ' H' v x:=VR.kT g.w v x e
theorem az.up(g:Gr ρ H ρ' H')(v:List Val)(x:List V)(e:az K ρ H v x):az K ρ' H' v x:=az.kT g.w v x e
theorem gz.up(g:Gr ρ H ρ' H')(v:List (Key×Val))(x:List (Key×V))(e:gz K ρ H v x):gz K ρ' H' v x:=gz.kT g.w v x e
theorem mq.up(g:Gr ρ H ρ' H')(v:List (Str×Val))(x:List (Str×V))(e:mq K ρ H v x):mq K ρ' H' v x:=mq.kT g.w v x e
theorem az.nil:az K ρ H [] []:=by rw[az]
theorem az.cons{v:Val}{vs:List Val}{x:V}{xs:List V}(a:VR K ρ H v x)(b:az K ρ H vs xs):az K ρ H (v::vs) (x::xs):=by rw[az];exact⟨x,xs,rfl,a,b⟩
theorem az.length:∀{vs:List Val} {xs:List V},az K ρ H vs xs->vs.length=xs.length
 | [],xs,e=>by rw[az] at e;subst e;rfl
 | v::vs,xs,e=>by rw[az] at e;obtain⟨x,r,rfl,_,q⟩:=e;simp[az.length q]
theorem az.get:∀{vs:List Val} {xs:List V} {i:Nat} {v:Val},az K ρ H vs xs->vs[i]?=some v->∃x,xs[i]?=some x/\VR K ρ H v x
 | [],xs,i,v,e,q=>by simp at q
 | w::vs,xs,0,v,e,q=>by
  rw[az] at e;obtain⟨x,r,rfl,a,_⟩:=e;simp at q;subst q;exact⟨x,rfl,a⟩
 | w::vs,xs,i+1,v,e,q=>by
  rw[az] at e;obtain⟨x,r,rfl,_,b⟩:=e;simp at q;obtain⟨y,q1,q2⟩:=az.get b q;exact⟨y,by simpa using q1,q2⟩
theorem az.append:∀{vs ws:List Val} {xs ys:List V},az K ρ H vs xs->az K ρ H ws ys->az K ρ H (vs++ws) (xs++ys)
 | [],ws,xs,ys,e,q=>by rw[az] at e;subst e;exact q
 | w::vs,ws,xs,ys,e,q=>by
  rw[az] at e;obtain⟨x,r,rfl,a,b⟩:=e;exact az.cons a (az.append b q)
theorem az.take:∀{vs:List Val} {xs:List V} (n:Nat),az K ρ H vs xs->az K ρ H (vs.take n) (xs.take n)
 | _,_,0,_=>by simp;exact az.nil
 | [],xs,n+1,e=>by rw[az] at e;subst e;simp;exact az.nil
 | w::vs,xs,n+1,e=>by
  rw[az] at e;obtain⟨x,r,rfl,a,b⟩:=e;exact az.cons a (az.take n b)
theorem az.drop:∀{vs:List Val} {xs:List V} (n:Nat),az K ρ H vs xs->az K ρ H (vs.drop n) (xs.drop n)
 | _,_,0,e=>by simpa using e
 | [],xs,n+1,e=>by rw[az] at e;subst e;simp;exact az.nil
 | w::vs,xs,n+1,e=>by
  rw[az] at e;obtain⟨x,r,rfl,a,b⟩:=e;exact az.drop n b
theorem az.cut(lo hi:Option Int)(e:az K ρ H vs xs):az K ρ H (fZ vs lo hi) (vc xs lo hi):=by
 unfold fZ vc;rw[e.length];exact az.take _ (az.drop _ e)
theorem az.app:∀{vs ws:List Val} {xs ys:List V},az K ρ H vs xs->az K ρ H ws ys->az K ρ H (vs++ws) (xs++ys)
 | [],_,xs,_,e,q=>by rw[az] at e;subst e;exact q
 | v::vs,_,xs,_,e,q=>by
  rw[az] at e;obtain⟨x,r,rfl,a,b⟩:=e;rw[cons_append,cons_append,az];exact⟨x,_,rfl,a,az.app b q⟩
theorem az.rev:∀{vs:List Val} {xs:List V},az K ρ H vs xs->az K ρ H vs.reverse xs.reverse
 | [],xs,e=>by rw[az] at e;subst e;rw[List.reverse_nil,List.reverse_nil,az]
 | v::vs,xs,e=>by
  rw[az] at e;obtain⟨x,r,rfl,a,b⟩:=e;rw[reverse_cons,reverse_cons];refine az.app (az.rev b) ?_;rw[az];exact⟨x,[],rfl,a,by rw[az]⟩
theorem az.iR{i:Int}(e:az K ρ H vs xs)(q:L2.iR vs i=some v):∃x,L2.iR xs i=some x/\VR K ρ H v x:=by
 unfold L2.iR at q |-;rw[e.length] at q;cases hi:L2.As xs.length i with
 | none=>rw[hi] at q;cases q
 | some n=>rw[hi] at q;exact az.get e q
theorem az.set:∀{vs:List Val} {xs:List V} (n:Nat) {v:Val} {x:V},az K ρ H vs xs->VR K ρ H v x->az K ρ H (vs.set n v) (xs.set n x)
 | [],xs,n,v,x,e,q=>by rw[az] at e;subst e;simp;exact az.nil
 | w::vs,xs,0,v,x,e,q=>by
  rw[az] at e;obtain⟨y,r,rfl,a,b⟩:=e;exact az.cons q b
 | w::vs,xs,n+1,v,x,e,q=>by
  rw[az] at e;obtain⟨y,r,rfl,a,b⟩:=e;exact az.cons a (az.set n b q)
theorem az.one(e:az K ρ H [v] xs):∃x,xs=[x]/\VR K ρ H v x:=by
 rw[az] at e;obtain⟨x,r,rfl,a,b⟩:=e;rw[az] at b;subst b;exact⟨x,rfl,a⟩
theorem az.two(e:az K ρ H [v,w] xs):∃x y,xs=[x,y]/\VR K ρ H v x/\VR K ρ H w y:=by
 rw[az] at e;obtain⟨x,r,rfl,a,b⟩:=e;obtain⟨y,rfl,c⟩:=az.one b;exact⟨x,y,rfl,a,c⟩
theorem VR.int{i:Int}:VR K ρ H (.int i) (.int i):=by rw[VR]
theorem VR.str:VR K ρ H (.str i) (.str i):=by rw[VR]
theorem VR.bl{i:Bool}:VR K ρ H (.bl i) (.bl i):=by rw[VR]
theorem VR.non:VR K ρ H .non .non:=by rw[VR]
theorem VR.tup(q:jv K H a xs)(e:az K ρ H vs xs):VR K ρ H (.tup vs) (.ref a):=by rw[VR];exact⟨a,xs,rfl,q,e⟩
theorem VR.ref{i:Nat}(q:ρ[i]?=some a):VR K ρ H (.ref i) (.ref a):=by rw[VR];exact⟨a,rfl,q⟩
theorem az.ints:∀{ns:List Int} {xs:List V},az K ρ H (ns.map Val.int) xs↔xs=ns.map V.int
 | [],xs=>by simp[az]
 | n::ns,xs=>by
  simp only[map_cons];rw[az];constructor
  ·rintro⟨x,r,rfl,a,b⟩;rw[VR] at a;subst a;rw[(az.ints (ns:=ns)).mp b]
  ·rintro rfl;exact⟨_,_,rfl,VR.int,(az.ints (ns:=ns)).mpr rfl⟩
theorem az.bools:∀{ns:List Bool} {xs:List V},az K ρ H (ns.map Val.bl) xs↔xs=ns.map V.bl
 | [],xs=>by simp[az]
 | n::ns,xs=>by
  simp only[map_cons];rw[az];constructor
  ·rintro⟨x,r,rfl,a,b⟩;rw[VR] at a;subst a;rw[(az.bools (ns:=ns)).mp b]
  ·rintro rfl;exact⟨_,_,rfl,VR.bl,(az.bools (ns:=ns)).mpr rfl⟩
theorem az.tups:∀{o8:List (List Int)} {xs:List V},az K ρ H (o8.map l0) xs->∃rs:List (Addr×List Int),xs=rs.map (λr=>V.ref r.1)/\o8=rs.map (·.2)/\∀r∈rs,jv K H r.1 (r.2.map V.int)
 | [],xs,e=>by simp only[map_nil] at e;rw[az] at e;exact⟨[],e,rfl,λ_ z=>nomatch z⟩
 | ks::o8,xs,e=>by
  simp only[map_cons] at e;rw[az] at e;obtain⟨x,r,rfl,a,b⟩:=e;obtain⟨rs,e1,e2,e3⟩:=az.tups b;unfold l0 at a;rw[VR] at a;obtain⟨p,ys,rfl,g1,g2⟩:=a;rw[az.ints.mp g2] at g1;refine⟨(p,ks)::rs,by rw[e1];rfl,by rw[e2];rfl,λr hr=>?_⟩
  rcases mem_cons.mp hr with z|z
  ·rw[z];exact g1
  ·exact e3 r z
theorem az.zc:∀{rs:List (Addr×List Int)},(∀r∈rs,jv K H r.1 (r.2.map V.int))->az K ρ H ((rs.map (·.2)).map l0) (rs.map λr=>V.ref r.1)
 | [],_=>az.nil
 | r::rs,e=>az.cons (VR.tup (e r mem_cons_self) (az.ints.mpr rfl)) (az.zc λq hq=>e q (mem_cons_of_mem _ hq))
theorem OR.mu(q:OR B ρ H a o):∃u,H a=some u/\Mu u=true:=by
 cases o with
 | lst xs=>obtain⟨ys,e,_⟩:=q;exact⟨_,e,rfl⟩
 | dct xs=>obtain⟨ys,e,_⟩:=q;exact⟨_,e,rfl⟩
 | ins c fs=>obtain⟨dx,ys,e,_⟩:=q;exact⟨_,e,rfl⟩
theorem HR.mu(r:HR B ρ h H)(e:a ∈ ρ):∃u,H a=some u/\Mu u=true:=by
 obtain⟨i,hi,rfl⟩:=getElem_of_mem e;have hi':i<h.length:=by rw[<-r.len];exact hi
 exact(r.ob i _ _ (List.getElem?_eq_getElem hi') (List.getElem?_eq_getElem hi)).mu
theorem HR.out(r:HR B ρ h H)(e:H p=none):p ∉ ρ:=λz=>by
 obtain⟨u,q,_⟩:=r.mu z;rw[e] at q;cases q
theorem OR.kT(g:Gw ρ H ρ' H')(e:H' a=H a)(q:OR B ρ H a o):OR B ρ' H' a o:=by
 cases o with
 | lst xs=>obtain⟨ys,e1,e2⟩:=q;exact⟨ys,e.trans e1,az.kT g _ _ e2⟩
 | dct xs=>obtain⟨ys,e1,e2⟩:=q;exact⟨ys,e.trans e1,gz.kT g _ _ e2⟩
 | ins c fs=>obtain⟨dx,ys,e1,e2⟩:=q;exact⟨dx,ys,e.trans e1,mq.kT g _ _ e2⟩
theorem OR.up(g:Gr ρ H ρ' H')(e:H' a=H a)(q:OR B ρ H a o):OR B ρ' H' a o:=OR.kT g.w e q
theorem Gr.side(e:H p=none):Gr ρ H ρ (upd H p o) where
 pre:=prefix_refl _
 keep a u q _:=by rw[aA (aG q e)];exact q
 firm a u q _:=by rw[aA (aG q e)];exact q
 fresh a z n:=absurd z n
theorem HR.side(r:HR B ρ h H)(e:H p=none):HR B ρ h (upd H p o) where
 len:=r.len
 nd:=r.nd
 ob i u a q1 q2:=by refine OR.up (Gr.side e) ?_ (r.ob i u a q1 q2);refine aA λz=>?_;subst z;exact r.out e (mem_of_getElem? q2)
theorem Gw.other(e:H p=some u)(hm:Mu u=true):Gw ρ H ρ (upd H p o) where
 pre:=prefix_refl _
 firm a w q n:=by
  have:a≠p:=λz=>by subst z;rw[e] at q;cases q;rw[hm] at n;cases n
  rw[aA this];exact q
theorem HR.other(r:HR B ρ h H)(hp:p ∉ ρ)(e:H p=some u)(hm:Mu u=true):HR B ρ h (upd H p o) where
 len:=r.len
 nd:=r.nd
 ob i w a q1 q2:=OR.kT (Gw.other e hm) (aA λz=>by subst z;exact hp (mem_of_getElem? q2)) (r.ob i w a q1 q2)
theorem Gr.new(e:H p=none):Gr ρ H (ρ ++ [p]) (upd H p o) where
 pre:=prefix_append _ _
 keep a u q _:=by rw[aA (aG q e)];exact q
 firm a u q _:=by rw[aA (aG q e)];exact q
 fresh a z n:=by
  rcases mem_append.mp z with z|z
  ·exact absurd z n
  ·rw[mem_singleton.mp z];exact e
theorem HR.new(r:HR B ρ h H)(e:H p=none)(q:OR B (ρ ++ [p]) (upd H p o) p u):HR B (ρ ++ [p]) (h++[u]) (upd H p o) where
 len:=by simp[r.len]
 nd:=by rw[nodup_append];refine⟨r.nd,by simp,λa ha b hb=>?_⟩;rw[mem_singleton.mp hb];rintro rfl;exact r.out e ha
 ob i v a q1 q2:=by
  by_cases hi:i<h.length
  ·rw[getElem?_append_left hi] at q1;rw[getElem?_append_left (by rw[r.len];exact hi)] at q2;refine OR.up (Gr.new e) (aA λz=>?_) (r.ob i v a q1 q2);subst z;exact r.out e (mem_of_getElem? q2)
  ·rw[getElem?_append_right (by omega)] at q1
   rw[getElem?_append_right (by rw[r.len];omega)] at q2;have hi0:i-h.length=0:=by have:=(List.getElem?_eq_some_iff.mp q1).1;simp at this;omega
   rw[hi0] at q1;rw[r.len,hi0] at q2;simp at q1 q2;subst q1;subst q2;exact q
theorem zd(r:HR B ρ h H):VR K (ρ ++ [p]) H' (.ref h.length) (.ref p):=VR.ref (by rw[<-r.len];simp)
theorem IQ{α:Type}:∀{l:List α} {i j:Nat} {a:α},l.Nodup->l[i]?=some a->l[j]?=some a->i=j
 | [],i,j,a,_,e,_=>by simp at e
 | b::l,0,0,a,_,_,_=>rfl
 | b::l,0,j+1,a,n,e,f=>by
  simp at e f;subst e;exact absurd (mem_of_getElem? f) (nodup_cons.mp n).1
 | b::l,i+1,0,a,n,e,f=>by
  simp at e f;subst f;exact absurd (mem_of_getElem? e) (nodup_cons.mp n).1
 | b::l,i+1,j+1,a,n,e,f=>by
  simp at e f;rw[IQ (nodup_cons.mp n).2 e f]
theorem Gr.put(hp:p ∈ ρ)(e:H p=some u)(hm:Mu u=true):Gr ρ H ρ (upd H p o) where
 pre:=prefix_refl _
 keep a w q n:=by rw[aA λz=>n (by rw[z];exact hp)];exact q
 firm a w q n:=by
  have:a≠p:=λz=>by subst z;rw[e] at q;cases q;rw[hm] at n;cases n
  rw[aA this];exact q
 fresh a z n:=absurd z n
theorem HR.put{i:Nat}(r:HR B ρ h H)(hi:ρ[i]?=some p)(e:h[i]?=some w)(q:OR B ρ (upd H p o) p u):HR B ρ (h.set i u) (upd H p o) where
 len:=by simp[r.len]
 nd:=r.nd
 ob j v a q1 q2:=by
  obtain⟨z,k1,k2⟩:=(r.ob i w p e hi).mu
  by_cases hj:j=i
  ·subst hj;rw[hi] at q2;cases q2;have hlt:j<h.length:=(List.getElem?_eq_some_iff.mp e).1;rw[getElem?_set_self hlt] at q1;cases q1;exact q
  ·rw[getElem?_set_ne (λz=>hj z.symm)] at q1;refine OR.up (Gr.put (mem_of_getElem? hi) k1 k2) (aA λz=>?_) (r.ob j v a q1 q2);subst z;exact hj (IQ r.nd q2 hi)
theorem dY(r:HR B ρ h H)(q:VR B.K ρ H v x)(e:aB h v=some xs):∃a ys,x=.ref a/\gI B.K H a ys/\az B.K ρ H xs ys:=by
 cases v with
 | rl vs =>simp only[aB] at e;cases e;rw[VR] at q;obtain⟨a,ys,rfl,k1,k2⟩:=q;exact⟨a,ys,rfl,k1.sq,k2⟩
 | ref i =>
  simp only[aB] at e;split at e
  ·rename_i zs e1;cases e;rw[VR] at q;obtain⟨a,rfl,k1⟩:=q;obtain⟨ys,k2,k3⟩:=r.ob i _ a e1 k1;exact⟨a,ys,rfl,.inl (.inl k2),k3⟩
  ·cases e
 | _=>cases e
theorem kH{i:Nat}(r:HR B ρ h H)(q:VR B.K ρ H (.ref i) x)(e:h[i]?=some (.lst xs)):∃a ys,x=.ref a /\ ρ[i]?=some a/\H a=some (.lst ys)/\az B.K ρ H xs ys:=by
 rw[VR] at q;obtain⟨a,rfl,k1⟩:=q;obtain⟨ys,k2,k3⟩:=r.ob i _ a e k1;exact⟨a,ys,rfl,k1,k2,k3⟩
theorem um(r:HR B ρ h H)(q:VR B.K ρ H v x)(e:cU h v=some xs):∃a ys,x=.ref a/\(gI B.K H a ys\/jv B.K H a ys)/\az B.K ρ H xs ys:=by
 cases v with
 | tup vs =>simp only[cU] at e;cases e;rw[VR] at q;obtain⟨a,ys,rfl,k1,k2⟩:=q;exact⟨a,ys,rfl,.inr k1,k2⟩
 | rl vs=>obtain⟨a,ys,e1,k1,k2⟩:=dY r q (show aB h (.rl vs)=some xs from e);exact⟨a,ys,e1,.inl k1,k2⟩
 | ref vs=>obtain⟨a,ys,e1,k1,k2⟩:=dY r q (show aB h (.ref vs)=some xs from e);exact⟨a,ys,e1,.inl k1,k2⟩
 | _=>cases e
theorem nE(r:HR B ρ h H):∀(n:Nat) (v:Val) (x:V) (d:PyData),VR B.K ρ H v x->toD n h v=some d->Den B.K H d x/\d.canLay0=true/\d.depth<=n:=by
 intro n
 induction n with
 | zero=>intro v x d _ e;simp only[toD] at e;cases e
 | succ n ih =>
  have all:∀(vs:List Val) (xs:List V) (ds:List PyData),az B.K ρ H vs xs->ck (toD n h) vs=some ds->eV B.K H ds xs/\PyData.canLayAll0 ds=true/\PyData.depthAll ds<=n:=by
   intro vs
   induction vs with
   | nil=>intro xs ds q e;simp only[ck] at e;cases e;rw[az] at q;subst q;exact⟨eV.nil,rfl,by simp[PyData.depthAll]⟩
   | cons v vs Yt =>intro xs ds q e;simp only[ck] at e;obtain⟨d,e1,e⟩:=bind_eq_some_iff.mp e;obtain⟨ds',e2,e⟩:=bind_eq_some_iff.mp e;cases e;rw[az] at q;obtain⟨x,r,rfl,q1,q2⟩:=q;obtain⟨a1,a2,a3⟩:=ih v x d q1 e1;obtain⟨b1,b2,b3⟩:=Yt r ds' q2 e2;refine⟨eV.cons a1 b1,by simp[PyData.canLayAll0,a2,b2],?_⟩;simp only[PyData.depthAll];omega
  intro v x d q e;cases v with
  | non=>simp only[toD] at e;cases e;rw[VR] at q;subst q;exact⟨Den.none,rfl,by simp[PyData.depth]⟩
  | bl b=>simp only[toD] at e;cases e;rw[VR] at q;subst q;exact⟨Den.bool,rfl,by simp[PyData.depth]⟩
  | int b=>simp only[toD] at e;cases e;rw[VR] at q;subst q;exact⟨Den.int,rfl,by simp[PyData.depth]⟩
  | str b =>
   simp only[toD] at e;split at e
   ·rename_i hs;cases e;rw[VR] at q;subst q;exact⟨Den.str,by simp[PyData.canLay0,hs],by simp[PyData.depth]⟩
   ·cases e
  | tup vs =>simp only[toD] at e;obtain⟨ds,e1,e⟩:=bind_eq_some_iff.mp e;cases e;rw[VR] at q;obtain⟨a,xs,rfl,q1,q2⟩:=q;obtain⟨b1,b2,b3⟩:=all vs xs ds q2 e1;exact⟨Den.tuple q1 b1,by simp[PyData.canLay0,b2],by simp only[PyData.depth];omega⟩
  | rl vs =>simp only[toD] at e;obtain⟨ds,e1,e⟩:=bind_eq_some_iff.mp e;cases e;rw[VR] at q;obtain⟨a,xs,rfl,q1,q2⟩:=q;obtain⟨b1,b2,b3⟩:=all vs xs ds q2 e1;exact⟨Den.list q1.sq b1,by simp[PyData.canLay0,b2],by simp only[PyData.depth];omega⟩
  | dc _ _=>rw[VR] at q;exact q.elim
  | ob _ _ _=>rw[VR] at q;exact q.elim
  | ref i =>simp only[toD] at e;obtain⟨vs,e0,e⟩:=bind_eq_some_iff.mp e;obtain⟨ds,e1,e⟩:=bind_eq_some_iff.mp e;cases e;obtain⟨a,xs,rfl,q1,q2⟩:=dY r q e0;obtain⟨b1,b2,b3⟩:=all vs xs ds q2 e1;exact⟨Den.list q1 b1,by simp[PyData.canLay0,b2],by simp only[PyData.depth];omega⟩
end
end Hv
end
section
namespace Hv
open PySem L2 PyProof.Rows
theorem nF(x:List Int):∀l,(ud x l).Perm (x::l)
 | []=>.refl _
 | y::r=>by
  unfold ud;split
  ·exact((nF x r).cons y).trans (.swap _ _ _)
  ·exact .refl _
theorem ql:∀l,(lZ l).Perm l
 | []=>.refl _
 | x::r=>(nF x _).trans ((ql r).cons x)
theorem vJ{a b c:List Int}(h1:HT.lexLt b a=false)(h2:HT.lexLt c b=false):HT.lexLt c a=false:=by
 cases e:HT.lexLt c a with
 | false=>rfl
 | true =>
  rcases oj.r8 c b a e with z|z
  ·rw[h2] at z;cases z
  ·rw[h1] at z;cases z
theorem vK{a b:List Int}(h:HT.lexLt a b=true):HT.lexLt b a=false:=by
 cases e:HT.lexLt b a with
 | false=>rfl
 | true=>have:=oj.iy _ _ _ h e;rw[oj.jA] at this;cases this
theorem ze(x:List Int):∀l:List (List Int),l.Pairwise (λa b=>HT.lexLt b a=false)->(ud x l).Pairwise (λa b=>HT.lexLt b a=false)
 | [],_=>by simp[ud]
 | y::r,h=>by
  obtain⟨h1,h2⟩:=pairwise_cons.mp h;unfold ud
  split
  ·rename_i hlt
   refine pairwise_cons.mpr ⟨λz hz=>?_,ze x r h2⟩
   rcases mem_cons.mp ((nF x r).mem_iff.mp hz) with rfl|hz
   ·exact vK hlt
   ·exact h1 z hz
  ·rename_i hlt
   refine pairwise_cons.mpr ⟨λz hz=>?_,h⟩;have hxy:HT.lexLt y x=false:=by simpa using hlt
   rcases mem_cons.mp hz with rfl|hz
   ·exact hxy
   ·exact vJ hxy (h1 z hz)
theorem vL:∀l,(lZ l).Pairwise (λa b=>HT.lexLt b a=false)
 | []=>.nil
 | x::r=>ze x _ (vL r)
theorem CA(hp:l.Perm o8)(hs:l.Pairwise (λa b=>HT.lexLt b a=false)):l=lZ o8 :=
 List.Perm.eq_of_pairwise (λa b _ _ h1 h2=>oj.iw a b h2 h1) hs (vL o8) (hp.trans (ql o8).symm)
theorem AN{ns:List Int}{m:Int}(h:m∈ns)(h2:∀a∈ns,m<=a):ue ns=some (.int m):=by
 cases ns with
 | nil=>cases h
 | cons a r =>
  have key:∀(r:List Int) (a:Int),(r.foldl min a)∈a::r/\∀b∈a::r,r.foldl min a<=b:=by
   intro r
   induction r with
   | nil=>intro a;simp
   | cons c r ih =>
    intro a;obtain⟨q1,q2⟩:=ih (min a c);refine⟨?_,λb hb=>?_⟩
    ·show List.foldl min (min a c) r∈_
     rcases mem_cons.mp q1 with z|z
     ·rw[z]
      rcases Int.le_total a c with hc|hc
      ·rw[Int.min_eq_left hc];exact mem_cons_self
      ·rw[Int.min_eq_right hc];exact mem_cons_of_mem _ mem_cons_self
     ·exact mem_cons_of_mem _ (mem_cons_of_mem _ z)
    ·show List.foldl min (min a c) r<=b
     have q3:=q2 (min a c) mem_cons_self
     rcases mem_cons.mp hb with z|z
     ·subst z;omega
     ·rcases mem_cons.mp z with z|z
      ·subst z;omega
      ·exact q2 b (mem_cons_of_mem _ z)
  obtain⟨q1,q2⟩:=key r a;show some (Val.int (r.foldl min a))=_;rw[Int.le_antisymm (q2 m h) (h2 _ q1)]
theorem AO{ns:List Int}{m:Int}(h:m∈ns)(h2:∀a∈ns,a<=m):uf ns=some (.int m):=by
 cases ns with
 | nil=>cases h
 | cons a r =>
  have key:∀(r:List Int) (a:Int),(r.foldl max a)∈a::r/\∀b∈a::r,b<=r.foldl max a:=by
   intro r
   induction r with
   | nil=>intro a;simp
   | cons c r ih =>
    intro a;obtain⟨q1,q2⟩:=ih (max a c);refine⟨?_,λb hb=>?_⟩
    ·show List.foldl max (max a c) r∈_
     rcases mem_cons.mp q1 with z|z
     ·rw[z]
      rcases Int.le_total a c with hc|hc
      ·rw[Int.max_eq_right hc];exact mem_cons_of_mem _ mem_cons_self
      ·rw[Int.max_eq_left hc];exact mem_cons_self
     ·exact mem_cons_of_mem _ (mem_cons_of_mem _ z)
    ·show b<=List.foldl max (max a c) r
     have q3:=q2 (max a c) mem_cons_self
     rcases mem_cons.mp hb with z|z
     ·subst z;omega
     ·rcases mem_cons.mp z with z|z
      ·subst z;omega
      ·exact q2 b (mem_cons_of_mem _ z)
  obtain⟨q1,q2⟩:=key r a;show some (Val.int (r.foldl max a))=_;rw[Int.le_antisymm (h2 _ q1) (q2 m h)]
noncomputable def Post(B:Bd)(EX:Nat->List V->Hp->Prop)(ρ:List Addr)(H:Hp){α:Type}(W:α -> Hs->List Addr->Hp->Prop):Out α -> Prop
 | .ok a h'=>∀ρ' H',Gr ρ H ρ' H'->HR B ρ' h' H'->W a h' ρ' H'
 | .exc c vs h'=>∀ρ' H' xs,Gr ρ H ρ' H'->HR B ρ' h' H'->az B.K ρ' H' vs xs->EX c xs H'
 | .no=>False
noncomputable def WV(K:PySem.W.Frag)(Q:VK):Val->Hs->List Addr->Hp->Prop:=λv _ ρ' H'=>∀x,VR K ρ' H' v x->Q x H'
section
variable {B:Bd} {EX:Nat->List V->Hp->Prop} {ρ ρ':List Addr} {H H':Hp} {α β:Type} {W:β -> Hs->List Addr->Hp->Prop} {h h':Hs} {Q:VK}
theorem Post.up(g:Gr ρ H ρ' H')(p:Post B EX ρ H W o):Post B EX ρ' H' W o:=by
 cases o with
 | ok a h'=>exact λρ2 H2 g2 r=>p ρ2 H2 (g.trans g2) r
 | exc c vs h'=>exact λρ2 H2 xs g2 r=>p ρ2 H2 xs (g.trans g2) r
 | no=>exact p
theorem aM{c:Bool}(p:Post B EX ρ H W (aF c m h)):c=true/\Post B EX ρ H W (m h):=by
 unfold aF at p;split at p
 ·rename_i e;exact⟨e,p⟩
 ·exact p.elim
theorem ay(p:Post B EX ρ H W (bnd (ask f) g h)):∃a,f h=some a/\Post B EX ρ H W (g a h):=by
 unfold bnd ask bh at p;cases e:f h with
 | none=>rw[e] at p;exact p.elim
 | some a=>rw[e] at p;exact⟨a,rfl,p⟩
theorem cF(r:HR B ρ h H)(p:Post B EX ρ H W (ask f h)):∃a,f h=some a/\W a h ρ H:=by
 unfold ask bh at p;cases e:f h with
 | none=>rw[e] at p;exact p.elim
 | some a=>rw[e] at p;exact⟨a,rfl,p ρ H Gr.refl r⟩
theorem cG(p:Post B EX ρ H W (bnd (bh o) g h)):∃a,o=some a/\Post B EX ρ H W (g a h):=by
 unfold bnd bh at p;cases e:o with
 | none=>rw[e] at p;exact p.elim
 | some a=>rw[e] at p;exact⟨a,rfl,p⟩
theorem cO(r:HR B ρ h H)(p:Post B EX ρ H W (bh o h)):∃a,o=some a/\W a h ρ H:=by
 unfold bh at p;cases e:o with
 | none=>rw[e] at p;exact p.elim
 | some a=>rw[e] at p;exact⟨a,rfl,p ρ H Gr.refl r⟩
theorem aj(r:HR B ρ h H)(p:Post B EX ρ H W (ret a h)):W a h ρ H:=p ρ H Gr.refl r
theorem vM(r:HR B ρ h H)(hp:H p=none)(q:OR B (ρ ++ [p]) (upd H p O) p o)(w:Post B EX ρ H (WV B.K Q) (new o h)):Q (.ref p) (upd H p O) :=
 w (ρ ++ [p]) (upd H p O) (Gr.new hp) (r.new hp q) _ (zd r)
theorem cP(r:HR B ρ h H)(hp:H p=none)(q:az B.K ρ H xs ys)(w:Post B EX ρ H (WV B.K Q) (new (.lst xs) h)):Q (.ref p) (upd H p (.lst ys)) :=
 vM (o:=.lst xs) (O:=.lst ys) r hp ⟨ys,aU,az.up (Gr.new hp) _ _ q⟩ w
theorem mw(r:HR B ρ h H)(hp:H p=none)(q:az B.K ρ H xs ys)(w:Post B EX ρ H (WV B.K Q) (ret (Val.tup xs) h)):Q (.ref p) (upd H p (.tup ys)) :=
 w ρ (upd H p (.tup ys)) (Gr.side hp) (r.side hp) _ (VR.tup (jv.of aU) (az.up (Gr.side hp) _ _ q))
theorem ao(p:Post B EX ρ H W (bnd m f h))(k:∀v h1 ρ1 x H1,Gr ρ H ρ1 H1->HR B ρ1 h1 H1->VR B.K ρ1 H1 v x->Post B EX ρ1 H1 W (f v h1)->Q x H1):Post B EX ρ H (WV B.K Q) (m h):=by
 unfold bnd at p;cases e:m h with
 | ok v h1=>rw[e] at p;exact λρ1 H1 g r x q=>k v h1 ρ1 x H1 g r q (Post.up g p)
 | exc c vs h1=>rw[e] at p;exact p
 | no=>rw[e] at p;exact p
theorem bB(p:Post B EX ρ H W (bnd m f h))(k:∀v h1 ρ1 H1,Gr ρ H ρ1 H1->HR B ρ1 h1 H1->Post B EX ρ1 H1 W (f v h1)->W' v h1 ρ1 H1):Post B EX ρ H W' (m h):=by
 unfold bnd at p;cases e:m h with
 | ok v h1=>rw[e] at p;exact λρ1 H1 g r=>k v h1 ρ1 H1 g r (Post.up g p)
 | exc c vs h1=>rw[e] at p;exact p
 | no=>rw[e] at p;exact p
end
theorem gH:∀{ds:List Val} {ns:List Int},aV ds=some ns->ds=ns.map .int
 | [],ns,e=>by simp only[aV,ck] at e;cases e;rfl
 | v::r,ns,e=>by
  simp only[aV,ck] at e;obtain⟨i,e1,e⟩:=bind_eq_some_iff.mp e;obtain⟨is,e2,e⟩:=bind_eq_some_iff.mp e;cases e;cases v<;>first|cases e1|skip
  rw[gH (show aV r=some is from e2)];rfl
theorem lH:∀{ds:List Val} {ns:List Bool},cu ds=some ns->ds=ns.map .bl
 | [],ns,e=>by simp only[cu,ck] at e;cases e;rfl
 | v::r,ns,e=>by
  simp only[cu,ck] at e;obtain⟨i,e1,e⟩:=bind_eq_some_iff.mp e;obtain⟨is,e2,e⟩:=bind_eq_some_iff.mp e;cases e;cases v<;>first|cases e1|skip
  rw[lH (show cu r=some is from e2)];rfl
theorem sJ:∀{ds:List Val} {o8:List (List Int)},k9 ds=some o8->ds=o8.map l0/\∀ks∈o8,ks≠[]
 | [],ns,e=>by simp only[k9,ck] at e;cases e;exact⟨rfl,λ_ z=>nomatch z⟩
 | v::r,ns,e=>by
  simp only[k9,ck] at e;obtain⟨i,e1,e⟩:=bind_eq_some_iff.mp e;obtain⟨is,e2,e⟩:=bind_eq_some_iff.mp e;cases e;cases v<;>first|cases e1|skip
  rename_i vs;dsimp only at e1;split at e1
  ·cases e1
  ·rename_i hne
   obtain⟨q1,q2⟩:=sJ (show k9 r=some is from e2);have e3:=gH e1;subst e3;refine⟨by rw[q1];rfl,λks hk=>?_⟩
   rcases mem_cons.mp hk with z|z
   ·subst z;intro z;subst z;exact hne rfl
   ·exact q2 ks z
section
variable {X:Cx} {cl:Nat->Addr} {EX:Nat->List V->Hp->Prop}
noncomputable abbrev bd(X:Cx)(cl:Nat->Addr):Bd:=⟨X.K,cl⟩
theorem Gg:kC X (binaryOp .Add) (λx y H Q=>∃a b xs ys,x=.ref a/\y=.ref b/\gI X.K H a xs/\gI X.K H b ys/\xs.length+ys.length<=sizeLine/\∀p,H p=none->Q (.ref p) (upd H p (.lst (xs++ys)))):=by
 intro pins s σ H x y v u Q I rx ry h;obtain⟨l,l',xs,ys,rfl,rfl,q1,q3,hl,q⟩:=h;cases rx;cases ry;obtain⟨its,r1,Yu,z1⟩:=I.list q1;obtain⟨its',r2,Yv,z2⟩:=I.list q3;have l1:=r1.length;have l2:=r2.length;obtain⟨⟨oc,od,Yj,osl⟩,n1,e1,e2,_,e4⟩:=Yu;obtain⟨⟨oc',od',Yw,SG⟩,n2,f1,f2,_,f4⟩:=Yv;cases e2;cases e4;cases f2;cases f4;refine concat_meets ⟨_,e1,rfl⟩ ⟨_,f1,rfl⟩ noFill_list_add seq_list_add PySem.F.slot_list_add PySem.F.entry_list_add (PySem.F.args_list_add_2 _ _) (list_addW l l' its.toArray its'.toArray n1 n2 od od' osl SG (by simp only[size_toArray];omega)) ⟨e1,f1,?_⟩;have ea:its.toArray++its'.toArray=(its++its').toArray:=by simp
 rw[ea];have hn:H s.heap.objs.size=none:=I.hok.fresh (Nat.le_refl _);exact⟨.ref s.heap.objs.size,_,I.Se (t':=s.toks) (its:=its++its') (r1.append r2) (by rw[length_append];omega),rfl,q _ hn⟩
noncomputable def CB:IK->Operator
 | .add=>.Add|.sub=>.Sub|.mul=>.Mult|.fdiv=>.FloorDiv|.mod=>.Mod|.pow=>.Pow
noncomputable def ou:KS->CmpOp
 | .eq=>.Eq|.ne=>.NotEq|.lt=>.Lt|.le=>.LtE|.gt=>.Gt|.ge=>.GtE|.isn=>.Is|.ntn=>.IsNot|.y9=>.In|.nin=>.NotIn
noncomputable def rB(B:Bd)(EX:Nat->List V->Hp->Prop)(o:IK):R2:=λx y H Q=>∃ρ h v w,HR B ρ h H/\VR B.K ρ H v x/\VR B.K ρ H w y/\Post B EX ρ H (WV B.K Q) (M3 o v w h)
theorem gy.log{j:Int}(h:gy j=true):0<j/\j.natAbs.log2<9000:=by
 have h:=of_decide_eq_true h;refine⟨h.1,(Nat.log2_lt (by omega)).mpr ?_⟩;have e:j.natAbs<2 ^ 200:=by
  have:(2:Nat) ^ 200=1606938044258990275541962092341162602522202993782792835301376:=by decide
  omega
 exact lt_of_lt_of_le e (Nat.pow_le_pow_right (by decide) (by decide))
theorem CC:kC X (binaryOp .FloorDiv) (rI (λ_ j=>gy j=true) λi j=>.int (i/j)):=QV λi j _ _ _ _ _ hc q=>by
 obtain⟨h1,h2⟩:=gy.log hc;exact PyProof.Rows.floordiv_int (by omega) (by rw[Int.fdiv_eq_ediv_of_nonneg i (by omega)];exact q) (.inl (PyProof.noPylong_of_log2 h2))
theorem qm(ho:o≠.add)(v w:Val)(h:Hs):(∃i j,v=.int i/\w=.int j)\/M3 o v w h=.no:=by
 cases v with
 | int i =>
  cases w with
  | int j=>exact .inl ⟨i,j,rfl,rfl⟩
  | _=>right;cases o<;>first|rfl|exact absurd rfl ho
 | _=>right;cases o<;>first|rfl|exact absurd rfl ho
theorem KY(o:IK):kC X (binaryOp (CB o)) (rB (bd X cl) EX o):=by
 intro pins s σ H x y v' u' Q I rx ry hh;obtain⟨ρ,h,v,w,r,hv,hw,p⟩:=hh;have lists:Post (bd X cl) EX ρ H (WV X.K Q) (bnd (ask λh=>aB h v) (λa=>bnd (ask λh=>aB h w) λb=>aF (decide (a.length+b.length<=sizeLine)) (new (.lst (a++b)))) h)->wpAny (model X.prog X.w) X.A (binaryOp .Add v' u') (EP X pins σ Q) X.xe s:=by intro p;obtain⟨a,e1,p⟩:=ay p;obtain⟨b,e2,p⟩:=ay p;obtain⟨e3,p⟩:=aM p;have e3:=of_decide_eq_true e3;obtain⟨a1,Oo,rfl,k1,k2⟩:=dY r hv e1;obtain⟨a2,SH,rfl,k3,k4⟩:=dY r hw e2;exact Gg pins s σ H _ _ v' u' Q I rx ry ⟨a1,a2,Oo,SH,rfl,rfl,k1,k3,by rw[<-k2.length,<-k4.length];exact e3,λq hq=>cP r hq (az.append k2 k4) p⟩
 cases o with
 | add =>
  cases v<;>cases w<;>first
   | exact lists p
   | skip
  ·rename_i a b;rw[VR] at hv hw;subst hv;subst hw;exact J7 pins s σ H _ _ _ _ Q I rx ry ⟨a,b,rfl,rfl,aj r p _ VR.int⟩
  ·rename_i a b;rw[VR] at hv hw;subst hv;subst hw;obtain⟨e,p⟩:=aM p;exact xN pins s σ H _ _ _ _ Q I rx ry ⟨a,b,rfl,rfl,of_decide_eq_true e,aj r p _ VR.str⟩
  ·rename_i a b
   rw[VR] at hv hw;obtain⟨a1,Oo,rfl,k1,k2⟩:=hv;obtain⟨a2,SH,rfl,k3,k4⟩:=hw;obtain⟨e,p⟩:=aM p;simp only[and_eq_true,not_eq_true',decide_eq_true_eq] at e;refine Fx pins s σ H _ _ _ _ Q I rx ry ⟨a1,a2,Oo,SH,rfl,rfl,k1,k3,?_,by rw[<-k2.length,<-k4.length];exact e.2,λz=>?_,λ_ q hq=>mw r hq (az.append k2 k4) p⟩
   ·intro z;subst z
    have:=k2.length;cases a with
    | nil=>simp at e
    | cons _ _=>simp at this
   ·subst z
    have hb:b=[]:=by cases b with|nil=>rfl|cons _ _=>have:=k4.length;simp at this
    subst hb;rw[append_nil] at p;exact aj r p _ (VR.tup k1 k2)
 | sub =>
  rcases qm (o:=.sub) (by intro z;cases z) v w h with ⟨i,j,rfl,rfl⟩|z
  case inr=>rw[z] at p;exact p.elim
  rw[VR] at hv hw;subst hv;subst hw;exact J8 pins s σ H _ _ _ _ Q I rx ry ⟨_,_,rfl,rfl,aj r p _ VR.int⟩
 | mul =>
  rcases qm (o:=.mul) (by intro z;cases z) v w h with ⟨i,j,rfl,rfl⟩|z
  case inr=>rw[z] at p;exact p.elim
  rw[VR] at hv hw;subst hv;subst hw;obtain⟨hm,p⟩:=aM p;refine J9 pins s σ H _ _ _ _ Q I rx ry ⟨_,_,rfl,rfl,?_,aj r p _ VR.int⟩;unfold lg at hm;simp only[or_eq_true,and_eq_true,decide_eq_true_eq] at hm;exact hm
 | fdiv =>
  rcases qm (o:=.fdiv) (by intro z;cases z) v w h with ⟨i,j,rfl,rfl⟩|z
  case inr=>rw[z] at p;exact p.elim
  rw[VR] at hv hw;subst hv;subst hw;obtain⟨hm,p⟩:=aM p;exact CC pins s σ H _ _ _ _ Q I rx ry ⟨_,_,rfl,rfl,hm,aj r p _ VR.int⟩
 | mod =>
  rcases qm (o:=.mod) (by intro z;cases z) v w h with ⟨i,j,rfl,rfl⟩|z
  case inr=>rw[z] at p;exact p.elim
  rw[VR] at hv hw;subst hv;subst hw;obtain⟨hm,p⟩:=aM p;exact Ka pins s σ H _ _ _ _ Q I rx ry ⟨_,_,rfl,rfl,of_decide_eq_true hm,aj r p _ VR.int⟩
 | pow =>
  rcases qm (o:=.pow) (by intro z;cases z) v w h with ⟨i,j,rfl,rfl⟩|z
  case inr=>rw[z] at p;exact p.elim
  rw[VR] at hv hw;subst hv;subst hw;obtain⟨hm,p⟩:=aM p;have hm:=of_decide_eq_true hm;exact Kc pins s σ H _ _ _ _ Q I rx ry ⟨_,_,rfl,rfl,hm,aj r p _ VR.int⟩
end
end Hv
end
section
namespace Hv
open PySem L2 PyProof.Rows
section
variable {X:Cx} {cl:Nat->Addr} {EX:Nat->List V->Hp->Prop}
theorem vN{b:Bool}(e:BC h v w=some b):∃d f,toD 16 h v=some d/\toD 16 h w=some f/\b=PyData.eqv d f:=by
 unfold BC at e;obtain⟨d,e1,e⟩:=bind_eq_some_iff.mp e;obtain⟨f,e2,e⟩:=bind_eq_some_iff.mp e;exact⟨d,f,e1,e2,(Option.some.inj e).symm⟩
theorem zf{K:PySem.W.Frag}{ρ:List Addr}{H:Hp}{v:Val}{x:V}(q:VR K ρ H v x):decide (x=.non)=qi v:=by
 cases v<;>rw[VR] at q
 ·subst q;rfl
 ·subst q;rfl
 ·subst q;rfl
 ·subst q;rfl
 ·obtain⟨a,xs,rfl,_⟩:=q;rfl
 ·obtain⟨a,xs,rfl,_⟩:=q;rfl
 ·exact q.elim
 ·exact q.elim
 ·obtain⟨a,rfl,_⟩:=q;rfl
theorem KZ(hu:X.A.units+64<cLine)(neg:Bool):kC X (compareOp (if neg=true then .NotIn else .In)) (λx y H Q=>∃d f ds,Den X.K H d x/\Den X.K H f y/\d.canLay0=true/\f.canLay0=true/\d.depth<=16/\(f=.list ds\/f=.tuple ds)/\Q (.bl (if neg=true then !(ds.any λy=>PyData.eqv y d) else ds.any λy=>PyData.eqv y d)) H):=by
 intro pins s σ H x y v u Q I rx ry hh;obtain⟨d,f,ds,hd,hf,c1,c2,hz,e,q⟩:=hh;obtain⟨as,ra⟩:=Den.reads I d x v c1 hd rx;obtain⟨bs,rb⟩:=Den.reads I f y u c2 hf ry;have Rb:X.A.units+1+min (PyData.depthAll ds) d.depth<cLine:=by have:=Nat.min_le_right (PyData.depthAll ds) d.depth;omega
 rcases e with rfl|rfl
 ·have c3:PyData.canLayAll0 ds=true:=by simpa [PyData.canLay0] using c2
  cases neg with
  | true=>exact SeqAt.notIn_list_reads rb ra c3 c1 Rb ⟨.bl _,H,I,rfl,q⟩
  | false=>exact SeqAt.in_list_reads rb ra c3 c1 Rb ⟨.bl _,H,I,rfl,q⟩
 ·have c3:PyData.canLayAll0 ds=true:=by simpa [PyData.canLay0] using c2
  cases neg with
  | true=>exact SeqAt.notIn_tuple_reads rb ra c3 c1 Rb ⟨.bl _,H,I,rfl,q⟩
  | false=>exact SeqAt.in_tuple_reads rb ra c3 c1 Rb ⟨.bl _,H,I,rfl,q⟩
theorem gz.val{K:PySem.W.Frag}{ρ:List Addr}{H:Hp}(k:Key):∀{kvs:List (Key×Val)} {ks:List (Key×V)},gz K ρ H kvs ks->(cy kvs k=none->iE ks k=none)/\∀v,cy kvs k=some v->∃x,iE ks k=some x/\VR K ρ H v x
 | [],ks,e=>by
  have:ks=[]:=e;subst this;exact⟨λ_=>rfl,λv z=>by simp[cy] at z⟩
 | (k',v')::kvs,ks,⟨x,r,e,q1,q2⟩=>by
  subst e;obtain⟨a,b⟩:=gz.val k q2
  by_cases hk:k'=k
  ·subst hk;refine⟨λz=>by simp[cy] at z,λv z=>⟨x,by simp[iE],?_⟩⟩;simp[cy] at z;subst z;exact q1
  ·have e1:cy ((k',v')::kvs) k=cy kvs k:=by simp[cy,hk]
   have e2:iE ((k',x)::r) k=iE r k:=by simp[iE,hk]
   rw[e1,e2];exact⟨a,b⟩
theorem gz.length{K:PySem.W.Frag}{ρ:List Addr}{H:Hp}:∀{kvs:List (Key×Val)} {ks:List (Key×V)},gz K ρ H kvs ks->kvs.length=ks.length
 | [],ks,e=>by have:ks=[]:=e;subst this;rfl
 | (k',v')::kvs,ks,⟨x,r,e,q1,q2⟩=>by subst e;simp[gz.length q2]
theorem gz.any{K:PySem.W.Frag}{ρ:List Addr}{H:Hp}(k:Key):∀{kvs:List (Key×Val)} {ks:List (Key×V)},gz K ρ H kvs ks->(kvs.any λkv=>decide (kv.1=k))=(ks.any λkv=>decide (kv.1=k))
 | [],ks,e=>by have:ks=[]:=e;subst this;rfl
 | (k',v')::kvs,ks,⟨x,r,e,q1,q2⟩=>by subst e;simp only[any_cons];rw[gz.any k q2]
theorem gz.repl{K:PySem.W.Frag}{ρ:List Addr}{H:Hp}(k:Key){v:Val}{y:V}(q:VR K ρ H v y):∀{kvs:List (Key×Val)} {ks:List (Key×V)},gz K ρ H kvs ks->gz K ρ H (kvs.map λkv=>if kv.1=k then (kv.1,v) else kv) (ks.map λkv=>if kv.1=k then (kv.1,y) else kv)
 | [],ks,e=>by have:ks=[]:=e;subst this;rfl
 | (k',v')::kvs,ks,⟨x,r,e,q1,q2⟩=>by
  subst e;simp only[map_cons]
  by_cases hk:k'=k
  ·rw[if_pos hk,if_pos hk];exact⟨y,_,rfl,q,gz.repl k q q2⟩
  ·rw[if_neg hk,if_neg hk];exact⟨x,_,rfl,q1,gz.repl k q q2⟩
theorem gz.snoc{K:PySem.W.Frag}{ρ:List Addr}{H:Hp}(k:Key){v:Val}{y:V}(q:VR K ρ H v y):∀{kvs:List (Key×Val)} {ks:List (Key×V)},gz K ρ H kvs ks->gz K ρ H (kvs++[(k,v)]) (ks++[(k,y)])
 | [],ks,e=>by have:ks=[]:=e;subst this;exact⟨y,[],rfl,q,rfl⟩
 | (k',v')::kvs,ks,⟨x,r,e,q1,q2⟩=>by subst e;exact⟨x,_,rfl,q1,gz.snoc k q q2⟩
theorem gz.put{K:PySem.W.Frag}{ρ:List Addr}{H:Hp}(k:Key){v:Val}{y:V}(q:VR K ρ H v y){kvs:List (Key×Val)}{ks:List (Key×V)}(e:gz K ρ H kvs ks):gz K ρ H (gP kvs k v) (putK ks k y):=by
 unfold gP putK;rw[gz.any k e]
 split
 ·exact gz.repl k q e
 ·exact gz.snoc k q e
theorem CD{K:PySem.W.Frag}{ρ:List Addr}{H:Hp}{v:Val}{x:V}{k:Key}(q:VR K ρ H v x)(e:keyOf v=some k):x=kV k:=by
 cases v<;>simp only[keyOf] at e<;>first|cases e|skip
 ·rw[VR] at q;exact q
 ·rw[VR] at q;exact q
theorem zg(hu:X.A.units+64<cLine):M1 X (λx y H Q=>∃a v,x=.ref a/\kQ H a y (some v)/\Q v H):=by
 intro value slice pins s σ H x y v u Q I rx ry h hs;obtain⟨a,z,rfl,g,q⟩:=h;cases rx;have hT:=vf I g;unfold subscriptTail;refine wpAny_bind ?_;rw[getitemInPython_of_ne hT.not_modules];refine wpAny_bind (wpAny_specialOf hT PySem.F.slot_dict_getitem.lookup ?_);have fin:wpAny (model X.prog X.w) X.A (subscripted slice false (.ref a) u) (λr s₃=>wpAny (model X.prog X.w) X.A (letTemporaryGo value (.ref a) r >>= λ_=>pure r) (EP X pins σ Q) X.xe s₃) X.xe s:=by rw[hs];exact wpAny_operating (Av (by omega) I g ry λw' s' I' r'=>wpAny_bind (wpAny_letTemporaryGo (wpAny_pure ⟨z,H,I',r',q⟩)))
 first
  | exact wpAny_pure (wpAny_bind fin)
  | exact wpAny_bind (wpAny_pure (wpAny_bind fin))
  | exact wpAny_bind fin
noncomputable def rC(B:Bd)(o:KS):R2:=λx y H Q=>∃ρ h v w b,HR B ρ h H/\VR B.K ρ H v x/\VR B.K ρ H w y/\cop h o v w=some b/\Q (.bl b) H
theorem mz{b:Bool}(e:memD h v w=some b):∃d f ds,toD 16 h v=some d/\toD 16 h w=some f/\(f=.list ds\/f=.tuple ds)/\b=ds.any λy=>PyData.eqv y d:=by
 unfold memD at e;obtain⟨f,e1,e⟩:=bind_eq_some_iff.mp e;obtain⟨d,e2,e⟩:=bind_eq_some_iff.mp e;cases f<;>simp only[KU] at e<;>first|cases e|skip
 ·exact⟨d,_,_,e2,e1,.inl rfl,rfl⟩
 ·exact⟨d,_,_,e2,e1,.inr rfl,rfl⟩
theorem AQ{b:Bool}(hw:∀ks vs,w≠.dc ks vs)(e:ug h v w=some b):(∃x y,v=.str x/\w=.str y/\b = !(Builtin.Str.occurrences y x 0 y.length 1).isEmpty)\/(∃i kvs k,w=.ref i/\h[i]?=some (.dct kvs)/\keyOf v=some k/\b=(cy kvs k).isSome) \/
  ∃d f ds,toD 16 h v=some d/\toD 16 h w=some f/\(f=.list ds\/f=.tuple ds)/\b=ds.any λy=>PyData.eqv y d:=by
 cases w with
 | ref i =>
  have e':(h[i]?).bind (Gd h v i)=some b:=by cases v<;>exact e
  obtain⟨ob,e1,e2⟩:=bind_eq_some_iff.mp e';cases ob with
  | dct kvs =>obtain⟨k,e3,e4⟩:=bind_eq_some_iff.mp (show (keyOf v).bind _=some b from e2);exact .inr (.inl ⟨i,kvs,k,rfl,e1,e3,(Option.some.inj e4).symm⟩)
  | lst xs=>exact .inr (.inr (mz e2))
  | ins c fs=>exact .inr (.inr (mz e2))
 | dc ks vs=>exact absurd rfl (hw ks vs)
 | str y =>
  cases v with
  | str x=>exact .inl ⟨x,y,rfl,rfl,(Option.some.inj e).symm⟩
  | _=>exact .inr (.inr (mz e))
 | _=>exact .inr (.inr (mz (by cases v<;>exact e)))
theorem nG(hu:X.A.units+64<cLine)(o:KS):kC X (compareOp (ou o)) (rC (bd X cl) o):=by
 intro pins s σ H x y v' u' Q I rx ry hh;obtain⟨ρ,h,v,w,b,r,hv,hw,e,q⟩:=hh;have mem:∀(neg:Bool),ug h v w=some (if neg=true then !b else b)->wpAny (model X.prog X.w) X.A (compareOp (if neg=true then .NotIn else .In) v' u') (EP X pins σ Q) X.xe s:=by
  intro neg e;have nd:∀ks vs,w≠.dc ks vs:=λks vs z=>by subst z;rw[VR] at hw;exact hw.elim
  rcases AQ nd e with ⟨a,c,rfl,rfl,eb⟩|⟨i,kvs,k,rfl,e1,e2,eb⟩|⟨d,f,ds,e1,e2,e3,eb⟩
  ·rw[VR] at hv;rw[VR] at hw;subst hv;subst hw
   cases neg with
   | true =>refine tH pins s σ H _ _ v' u' Q I rx ry ⟨a,c,rfl,rfl,?_⟩;rw[if_pos rfl] at eb;rw[<-eb,Bool.not_not];exact q
   | false =>refine Aj pins s σ H _ _ v' u' Q I rx ry ⟨a,c,rfl,rfl,?_⟩;rw[if_neg Bool.false_ne_true] at eb;rw[<-eb];exact q
  ·rw[VR] at hw
   obtain⟨a,rfl,k1⟩:=hw;obtain⟨ks,k2,k3⟩:=r.ob i _ a e1 k1;have ex:=CD hv e2;subst ex;have es:(iE ks k).isSome=(cy kvs k).isSome:=by
    obtain⟨z1,z2⟩:=gz.val k k3;cases e4:cy kvs k with
    | none=>rw[z1 e4];rfl
    | some z=>obtain⟨x,z3,_⟩:=z2 z e4;rw[z3];rfl
   cases ry;cases neg with
   | true =>refine FF (by omega) I (kQ.k (k:=k) k2) rx λs' I'=>⟨.bl _,H,I',rfl,?_⟩;rw[if_pos rfl] at eb;rw[es,<-eb,Bool.not_not];exact q
   | false =>refine Sf (by omega) I (kQ.k (k:=k) k2) rx λs' I'=>⟨.bl _,H,I',rfl,?_⟩;rw[if_neg Bool.false_ne_true] at eb;rw[es,<-eb];exact q
  ·obtain⟨a1,a2,a3⟩:=nE r 16 v x d hv e1
   obtain⟨b1,b2,b3⟩:=nE r 16 w y f hw e2;refine KZ hu neg pins s σ H x y v' u' Q I rx ry ⟨d,f,ds,a1,b1,a2,b2,a3,e3,?_⟩;cases neg with
   | true=>rw[if_pos rfl] at eb |-;rw[<-eb,Bool.not_not];exact q
   | false=>rw[if_neg Bool.false_ne_true] at eb |-;rw[<-eb];exact q
 cases o with
 | eq =>obtain⟨d,f,e1,e2,rfl⟩:=vN (show BC h v w=some b by exact e);obtain⟨a1,a2,a3⟩:=nE r 16 v x d hv e1;obtain⟨b1,b2,b3⟩:=nE r 16 w y f hw e2;exact KJ hu pins s σ H x y v' u' Q I rx ry ⟨d,f,a1,b1,a2,b2,by omega,q⟩
 | ne =>have e':(BC h v w).map (!·)=some b:=e;obtain⟨c,e3,rfl⟩:=map_eq_some_iff.mp e';obtain⟨d,f,e1,e2,rfl⟩:=vN e3;obtain⟨a1,a2,a3⟩:=nE r 16 v x d hv e1;obtain⟨b1,b2,b3⟩:=nE r 16 w y f hw e2;exact KL hu pins s σ H x y v' u' Q I rx ry ⟨d,f,a1,b1,a2,b2,by omega,q⟩
 | lt =>obtain⟨i,j,rfl,rfl⟩:=jV (.inl rfl) e;cases e;rw[VR] at hv;rw[VR] at hw;subst hv;subst hw;exact NQ pins s σ H _ _ v' u' Q I rx ry ⟨_,_,rfl,rfl,q⟩
 | le =>obtain⟨i,j,rfl,rfl⟩:=jV (.inr (.inl rfl)) e;cases e;rw[VR] at hv;rw[VR] at hw;subst hv;subst hw;exact NR pins s σ H _ _ v' u' Q I rx ry ⟨_,_,rfl,rfl,q⟩
 | gt =>obtain⟨i,j,rfl,rfl⟩:=jV (.inr (.inr (.inl rfl))) e;cases e;rw[VR] at hv;rw[VR] at hw;subst hv;subst hw;exact NS pins s σ H _ _ v' u' Q I rx ry ⟨_,_,rfl,rfl,q⟩
 | ge =>obtain⟨i,j,rfl,rfl⟩:=jV (.inr (.inr (.inr rfl))) e;cases e;rw[VR] at hv;rw[VR] at hw;subst hv;subst hw;exact NT pins s σ H _ _ v' u' Q I rx ry ⟨_,_,rfl,rfl,q⟩
 | isn =>
  have e:IL v w=some b:=e;cases w<;>first|(cases e;done)|skip
  ·cases e;rw[VR] at hw;subst hw;refine Kd pins s σ H x _ v' u' Q I rx ry ⟨rfl,?_⟩;rw[zf hv];exact q
  ·cases v<;>first|(cases e;done)|skip
   cases e;rw[VR] at hv;rw[VR] at hw;subst hv;subst hw;exact KO pins s σ H _ _ v' u' Q I rx ry ⟨_,_,rfl,rfl,q⟩
 | ntn =>
  have e:(IL v w).map (!·)=some b:=e;cases w<;>first|(cases e;done)|skip
  ·cases e;rw[VR] at hw;subst hw;refine Ff pins s σ H x _ v' u' Q I rx ry ⟨rfl,?_⟩;rw[zf hv];exact q
  ·cases v<;>first|(cases e;done)|skip
   cases e;rw[VR] at hv;rw[VR] at hw;subst hv;subst hw;exact Ga pins s σ H _ _ v' u' Q I rx ry ⟨_,_,rfl,rfl,q⟩
 | y9=>exact mem false (by rw[if_neg Bool.false_ne_true];exact e)
 | nin =>have e':(ug h v w).map (!·)=some b:=e;obtain⟨c,e3,rfl⟩:=map_eq_some_iff.mp e';exact mem true (by rw[e3];simp)
theorem K0{b:Bool}(r:HR B ρ h H)(q:VR B.K ρ H v x)(e:dQ h v=some b):Ke B.K x H b:=by
 cases v with
 | non=>rw[VR] at q;subst q;exact(Option.some.inj e).symm
 | bl c=>rw[VR] at q;subst q;exact(Option.some.inj e).symm
 | int i=>rw[VR] at q;subst q;exact(Option.some.inj e).symm
 | str z =>
  rw[VR] at q;subst q;simp only[dQ] at e;split at e
  ·rename_i hl;exact⟨hl,(Option.some.inj e).symm⟩
  ·cases e
 | tup vs =>rw[VR] at q;obtain⟨a,xs,rfl,q1,q2⟩:=q;refine .inr (.inl ⟨xs,q1,?_⟩);rw[<-Option.some.inj e];have:=q2.length;cases vs<;>cases xs<;>simp_all
 | rl vs =>rw[VR] at q;obtain⟨a,xs,rfl,q1,q2⟩:=q;refine .inl ⟨xs,q1.sq,?_⟩;rw[<-Option.some.inj e];have:=q2.length;cases vs<;>cases xs<;>simp_all
 | dc _ _=>rw[VR] at q;exact q.elim
 | ob _ _ _=>rw[VR] at q;exact q.elim
 | ref i =>
  rw[VR] at q;obtain⟨a,rfl,q1⟩:=q;simp only[dQ] at e;split at e
  ·rename_i vs e1;obtain⟨xs,k1,k2⟩:=r.ob i _ a e1 q1;refine .inl ⟨xs,.inl (.inl k1),?_⟩;rw[<-Option.some.inj e];have:=k2.length;cases vs<;>cases xs<;>simp_all
  ·rename_i vs e1;obtain⟨xs,k1,k2⟩:=r.ob i _ a e1 q1;refine .inr (.inr ⟨xs,k1,?_⟩);rw[<-Option.some.inj e];have:=k2.length;cases vs<;>cases xs<;>simp_all
  ·cases e
noncomputable def SJ(B:Bd):R2:=λx y H Q=>∃ρ h v w z,HR B ρ h H/\VR B.K ρ H v x/\VR B.K ρ H w y/\mh h v w=some z/\∀u,VR B.K ρ H z u->Q u H
theorem K1(hu:X.A.units+64<cLine):M1 X (SJ (bd X cl)):=by
 intro value slice pins s σ H x y v' u' Q I rx ry hh hs;obtain⟨ρ,h,v,w,z,r,hv,hw,e,q⟩:=hh;cases v with
 | str t =>
  cases w<;>first|cases e|skip
  rename_i i;change (if t.length<=sizeLine then (iR t.cps.toList i).map (λc=>Val.str ⟨#[c]⟩) else none)=some z at e;split at e
  ·rename_i hl;obtain⟨c,e1,rfl⟩:=map_eq_some_iff.mp e;rw[VR] at hv;rw[VR] at hw;subst hv;subst hw;exact Kr value slice pins s σ H _ _ v' u' Q I rx ry ⟨t,i,c,rfl,rfl,hl,e1,q _ VR.str⟩ hs
  ·cases e
 | tup vs =>
  cases w<;>first|cases e|skip
  rename_i i;rw[VR] at hv;rw[VR] at hw;subst hw;obtain⟨a,xs,rfl,q1,q2⟩:=hv;obtain⟨t,e2,q3⟩:=az.iR q2 e;exact Kq value slice pins s σ H _ _ v' u' Q I rx ry ⟨a,xs,i,t,rfl,rfl,q1,e2,q _ q3⟩ hs
 | rl vs =>
  cases w<;>first|cases e|skip
  rename_i i;rw[VR] at hv;rw[VR] at hw;subst hw;obtain⟨a,xs,rfl,q1,q2⟩:=hv;obtain⟨t,e2,q3⟩:=az.iR q2 e;exact yU value slice pins s σ H _ _ v' u' Q I rx ry ⟨a,xs,i,t,rfl,rfl,q1.sq,e2,q _ q3⟩ hs
 | ref j =>
  cases w with
  | int i =>
   change (match h[j]? with|some (.dct kvs)=>cy kvs (.inl i)|_=>(aB h (.ref j)).bind λxs=>iR xs i)=some z at e;split at e
   ·rename_i kvs e1;rw[VR] at hv;obtain⟨a,rfl,q1⟩:=hv;obtain⟨ks,k1,k2⟩:=r.ob j _ a e1 q1;obtain⟨t,e2,q3⟩:=(gz.val (.inl i) k2).2 z e;have g:kQ H a (kV (.inl i)) (iE ks (.inl i)):=kQ.k k1;rw[e2] at g;rw[VR] at hw;subst hw;exact zg hu value slice pins s σ H _ _ v' u' Q I rx ry ⟨a,t,rfl,g,q _ q3⟩ hs
   ·obtain⟨vs,e1,e⟩:=bind_eq_some_iff.mp e;obtain⟨a,xs,rfl,q1,q2⟩:=dY r hv e1;rw[VR] at hw;subst hw;obtain⟨t,e2,q3⟩:=az.iR q2 e;exact yU value slice pins s σ H _ _ v' u' Q I rx ry ⟨a,xs,i,t,rfl,rfl,q1,e2,q _ q3⟩ hs
  | str y =>
   change (match h[j]? with|some (.dct kvs)=>cy kvs (.inr y)|_=>none)=some z at e;split at e
   ·rename_i kvs e1;rw[VR] at hv;obtain⟨a,rfl,q1⟩:=hv;obtain⟨ks,k1,k2⟩:=r.ob j _ a e1 q1;obtain⟨t,e2,q3⟩:=(gz.val (.inr y) k2).2 z e;have g:kQ H a (kV (.inr y)) (iE ks (.inr y)):=kQ.k k1;rw[e2] at g;rw[VR] at hw;subst hw;exact zg hu value slice pins s σ H _ _ v' u' Q I rx ry ⟨a,t,rfl,g,q _ q3⟩ hs
   ·cases e
  | _=>cases e
 | dc _ _=>rw[VR] at hv;exact hv.elim
 | _=>cases w<;>cases e
noncomputable def Yx(B:Bd)(EX:Nat->List V->Hp->Prop):V->Option Int->Option Int->Hp->VK->Prop:=λx lo hi H Q=>∃ρ h v,HR B ρ h H/\VR B.K ρ H v x/\Post B EX ρ H (WV B.K Q) (rG v lo hi h)
theorem K2:QW X (Yx (bd X cl) EX):=by
 intro pins s σ H x v' vl vu lo hi sl Q I rx hs pl pu hh;obtain⟨ρ,h,v,r,hv,p⟩:=hh;have lists:Post (bd X cl) EX ρ H (WV X.K Q) (bnd (ask λh=>aB h v) (λxs=>new (.lst (fZ xs lo hi))) h)->∃T id,typeLookup (.type T) "__getitem__" = pure (some (.builtin id))/\s.TypeIs v' T/\wpAny (model X.prog X.w) X.A (getItem v' (.ref sl)) (EP X pins σ Q) X.xe s:=by intro p;obtain⟨a,e1,p⟩:=ay p;obtain⟨a1,Oo,rfl,k1,k2⟩:=dY r hv e1;exact Fy pins s σ H _ v' vl vu lo hi sl Q I rx hs pl pu ⟨a1,Oo,rfl,k1,λq hq=>cP r hq (az.cut lo hi k2) p⟩
 cases v with
 | tup vs =>simp only[rG] at p;rw[VR] at hv;obtain⟨a,xs,rfl,q1,q2⟩:=hv;obtain⟨e,p⟩:=aM p;refine Kp pins s σ H _ v' vl vu lo hi sl Q I rx hs pl pu ⟨a,xs,rfl,q1,?_,λq hq=>mw r hq (az.cut lo hi q2) p⟩;rw[<-q2.length];simp only[not_eq_true',Bool.and_eq_false_iff,decide_eq_false_iff_not] at e;rintro⟨z1,z2⟩;exact e.elim (λk=>k z1) λk=>k z2
 | _=>exact lists p
end
end Hv
end
section
set_option backward.match.sparseCases false
namespace Hv
open PySem L2 PyProof.Rows
section
variable {X:Cx} {cl:Nat->Addr} {EX:Nat->List V->Hp->Prop}
noncomputable def ET(B:Bd)(EX:Nat->List V->Hp->Prop)(b:Bl):List V->Hp->VK->Prop:=λxs H Q=>∃ρ h vs,HR B ρ h H/\az B.K ρ H vs xs/\Post B EX ρ H (WV B.K Q) (blt b vs h)
theorem K3:cC X (.builtin "len") (ET (bd X cl) EX .len):=by
 intro pins s σ H xs us Q I rr hh;obtain⟨ρ,h,vs,r,hv,p⟩:=hh
 match vs,p with
 | [v],p =>
  obtain⟨n,e,p⟩:=ay p;obtain⟨x,rfl,hx⟩:=az.one hv;have fin:=aj r p _ VR.int;cases v with
  | str z =>
   simp only[mj] at e;split at e
   ·rename_i hl;cases e;rw[VR] at hx;subst hx;exact L2.lU pins s σ H _ us Q I rr ⟨_,z.length,rfl,⟨hl,rfl⟩,fin⟩
   ·cases e
  | tup vs =>simp only[mj] at e;cases e;rw[VR] at hx;obtain⟨a,ys,rfl,q1,q2⟩:=hx;refine L2.lU pins s σ H _ us Q I rr ⟨_,ys.length,rfl,.inr ⟨ys,q1,rfl⟩,?_⟩;rw[<-q2.length];exact fin
  | rl vs =>simp only[mj] at e;cases e;rw[VR] at hx;obtain⟨a,ys,rfl,q1,q2⟩:=hx;refine L2.lU pins s σ H _ us Q I rr ⟨_,ys.length,rfl,.inl ⟨ys,q1.sq,rfl⟩,?_⟩;rw[<-q2.length];exact fin
  | dc _ _=>rw[VR] at hx;exact hx.elim
  | ob _ _ _=>rw[VR] at hx;exact hx.elim
  | ref i =>
   rw[VR] at hx;obtain⟨a,rfl,q1⟩:=hx;simp only[mj] at e;split at e
   ·rename_i vs e1;cases e;obtain⟨ys,k1,k2⟩:=r.ob i _ a e1 q1;refine L2.lU pins s σ H _ us Q I rr ⟨_,ys.length,rfl,.inl ⟨ys,.inl (.inl k1),rfl⟩,?_⟩;rw[<-k2.length];exact fin
   ·rename_i vs e1;cases e;obtain⟨ks,k1,k2⟩:=r.ob i _ a e1 q1;refine Az pins s σ H _ us Q I rr ⟨a,ks,rfl,k1,?_⟩;rw[<-k2.length];exact fin
   ·cases e
  | _=>simp only[mj] at e;cases e
theorem K4(hc:X.calm=true):cC X (.builtin "min") (ET (bd X cl) EX .min):=by
 intro pins s σ H xs us Q I rr hh;obtain⟨ρ,h,vs,r,hv,p⟩:=hh;have seq:∀v,vs=[v]->Post (bd X cl) EX ρ H (WV X.K Q) (bnd (ask λh=>cU h v) (λxs=>bh ((aV xs).bind ue)) h)->wpAny (model X.prog X.w) X.A (call (.builtin "min") us) (EP X pins σ Q) X.xe s:=by
  rintro v rfl p;obtain⟨zs,e,p⟩:=ay p;obtain⟨x,rfl,hx⟩:=az.one hv;obtain⟨a,ys,rfl,q1,q2⟩:=um r hx e;obtain⟨m,e1,p⟩:=cO r p;obtain⟨ns,e2,e3⟩:=bind_eq_some_iff.mp e1;rw[gH e2] at q2;rw[az.ints.mp q2] at q1;have hne:0<ns.length:=by cases ns with|nil=>cases e3|cons _ _=>simp
  refine tZ hc pins s σ H _ us Q I rr ⟨a,ns,rfl,q1,hne,λm hm hmin=>?_⟩;rw[AN hm hmin] at e3;cases e3;exact p _ VR.int
 match vs,p with
 | [.int a,.int b],p =>obtain⟨x,y,rfl,hx,hy⟩:=az.two hv;rw[VR] at hx;rw[VR] at hy;subst hx;subst hy;exact Am hc pins s σ H _ us Q I rr ⟨a,b,rfl,aj r p _ VR.int⟩
 | [v],p=>exact seq v rfl (by cases v<;>exact p)
theorem K5(hc:X.calm=true):cC X (.builtin "max") (ET (bd X cl) EX .max):=by
 intro pins s σ H xs us Q I rr hh;obtain⟨ρ,h,vs,r,hv,p⟩:=hh;have seq:∀v,vs=[v]->Post (bd X cl) EX ρ H (WV X.K Q) (bnd (ask λh=>cU h v) (λxs=>bh ((aV xs).bind uf)) h)->wpAny (model X.prog X.w) X.A (call (.builtin "max") us) (EP X pins σ Q) X.xe s:=by
  rintro v rfl p;obtain⟨zs,e,p⟩:=ay p;obtain⟨x,rfl,hx⟩:=az.one hv;obtain⟨a,ys,rfl,q1,q2⟩:=um r hx e;obtain⟨m,e1,p⟩:=cO r p;obtain⟨ns,e2,e3⟩:=bind_eq_some_iff.mp e1;rw[gH e2] at q2;rw[az.ints.mp q2] at q1;have hne:0<ns.length:=by cases ns with|nil=>cases e3|cons _ _=>simp
  refine ua hc pins s σ H _ us Q I rr ⟨a,ns,rfl,q1,hne,λm hm hmin=>?_⟩;rw[AO hm hmin] at e3;cases e3;exact p _ VR.int
 match vs,p with
 | [.int a,.int b],p =>obtain⟨x,y,rfl,hx,hy⟩:=az.two hv;rw[VR] at hx;rw[VR] at hy;subst hx;subst hy;exact Ak hc pins s σ H _ us Q I rr ⟨a,b,rfl,aj r p _ VR.int⟩
 | [v],p=>exact seq v rfl (by cases v<;>exact p)
theorem AR:cC X (.builtin "sorted") (ET (bd X cl) EX .sorted):=by
 intro pins s σ H xs us Q I rr hh;obtain⟨ρ,h,vs,r,hv,p⟩:=hh
 match vs,p with
 | [v],p =>
  obtain⟨zs,e,p⟩:=ay p;obtain⟨out,e1,p⟩:=cG p;obtain⟨x,rfl,hx⟩:=az.one hv;obtain⟨a,ys,rfl,q1,q2⟩:=dY r hx e;unfold fE at e1;split at e1
  ·rename_i h64
   cases e2:aV zs with
   | some ns =>rw[e2] at e1;cases e1;rw[gH e2] at q2 h64;rw[az.ints.mp q2] at q1;rw[length_map] at h64;exact nt pins s σ H _ us Q I rr ⟨a,ns,rfl,q1,h64,λl hl=>cP r hl (az.ints.mpr rfl) p⟩
   | none =>rw[e2] at e1;obtain⟨o8,e3,e4⟩:=bind_eq_some_iff.mp e1;cases e4;obtain⟨g1,g2⟩:=sJ e3;rw[g1] at q2 h64;obtain⟨rs,r1,r2,r3⟩:=az.tups q2;rw[r1] at q1;rw[length_map,r2,length_map] at h64;refine nu pins s σ H _ us Q I rr ⟨a,rs,rfl,q1,h64,λp hp=>⟨r3 p hp,g2 _ (by rw[r2];exact mem_map_of_mem hp)⟩,λl qs hl hp hs=>?_⟩;have e4:qs.map (·.2)=lZ o8:=CA (by rw[r2];exact hp.map _) (pairwise_map.mpr hs);rw[<-e4] at p;exact cP r hl (az.zc λz hz=>r3 z (hp.mem_iff.mp hz)) p
  ·cases e1
theorem Gh:cC X (.type "list") (ET (bd X cl) EX .list):=by
 intro pins s σ H xs us Q I rr hh;obtain⟨ρ,h,vs,r,hv,p⟩:=hh
 match vs,p with
 | [v],p =>obtain⟨zs,e,p⟩:=ay p;obtain⟨x,rfl,hx⟩:=az.one hv;obtain⟨a,ys,rfl,q1,q2⟩:=um r hx e;exact tR pins s σ H _ us Q I rr ⟨a,ys,rfl,q1,λl hl=>cP r hl q2 p⟩
theorem CF:cC X (.type "tuple") (ET (bd X cl) EX .tuple):=by
 intro pins s σ H xs us Q I rr hh;obtain⟨ρ,h,vs,r,hv,p⟩:=hh
 match vs,p with
 | [v],p =>
  obtain⟨zs,e,p⟩:=ay p;obtain⟨x,rfl,hx⟩:=az.one hv;obtain⟨a,ys,rfl,q1,q2⟩:=um r hx e
  rcases q1 with q1|q1
  ·exact kY pins s σ H _ us Q I rr ⟨a,ys,rfl,.inl ⟨q1,λl hl=>mw r hl q2 p⟩⟩
  ·exact kY pins s σ H _ us Q I rr ⟨a,ys,rfl,.inr ⟨q1,aj r p _ (VR.tup q1 q2)⟩⟩
theorem K6:cC X (.type "str") (ET (bd X cl) EX .str):=by
 intro pins s σ H xs us Q I rr hh;obtain⟨ρ,h,vs,r,hv,p⟩:=hh
 match vs,p with
 | [.int i],p =>obtain⟨e,p⟩:=aM p;obtain⟨x,rfl,hx⟩:=az.one hv;rw[VR] at hx;subst hx;exact tK pins s σ H _ us Q I rr ⟨i,rfl,of_decide_eq_true e,aj r p _ VR.str⟩
theorem K7:cC X (.type "int") (ET (bd X cl) EX .int):=by
 intro pins s σ H xs us Q I rr hh;obtain⟨ρ,h,vs,r,hv,p⟩:=hh
 match vs,p with
 | [.int i],p =>obtain⟨x,rfl,hx⟩:=az.one hv;rw[VR] at hx;subst hx;exact rQ pins s σ H _ us Q I rr (.inl ⟨i,rfl,aj r p _ VR.int⟩)
 | [.bl i],p =>obtain⟨x,rfl,hx⟩:=az.one hv;rw[VR] at hx;subst hx;exact rQ pins s σ H _ us Q I rr (.inr ⟨i,rfl,aj r p _ VR.int⟩)
theorem K8(hc:X.calm=true):cC X (.builtin "all") (ET (bd X cl) EX .all):=by
 intro pins s σ H xs us Q I rr hh;obtain⟨ρ,h,vs,r,hv,p⟩:=hh
 match vs,p with
 | [v],p =>obtain⟨zs,e,p⟩:=ay p;obtain⟨bs,e1,p⟩:=cG p;obtain⟨x,rfl,hx⟩:=az.one hv;obtain⟨a,ys,rfl,q1,q2⟩:=dY r hx e;rw[lH e1] at q2;rw[az.bools.mp q2] at q1;exact rD hc pins s σ H _ us Q I rr ⟨a,bs,rfl,q1,aj r p _ VR.bl⟩
theorem K9(hc:X.calm=true):cC X (.builtin "any") (ET (bd X cl) EX .any):=by
 intro pins s σ H xs us Q I rr hh;obtain⟨ρ,h,vs,r,hv,p⟩:=hh
 match vs,p with
 | [v],p =>obtain⟨zs,e,p⟩:=ay p;obtain⟨bs,e1,p⟩:=cG p;obtain⟨x,rfl,hx⟩:=az.one hv;obtain⟨a,ys,rfl,q1,q2⟩:=dY r hx e;rw[lH e1] at q2;rw[az.bools.mp q2] at q1;exact rE hc pins s σ H _ us Q I rr ⟨a,bs,rfl,q1,aj r p _ VR.bl⟩
noncomputable def Yy(B:Bd)(EX:Nat->List V->Hp->Prop)(T:String):List V->Hp->VK->Prop:=λxs H Q=>∃ρ h v x,xs=[x,.ty T]/\HR B ρ h H/\VR B.K ρ H v x/\Post B EX ρ H (WV B.K Q) (blt (.isin T) [v] h)
theorem Gi(K:PySem.W.Frag)(t T:String)(ht:t∈["NoneType","bool","int","str","list","tuple","dict"])(hT:T∈["list","tuple","str","bool","int","dict"]) :
  kitOne K (.type t) (.type T)=some (decide (T=t\/(T = "int" /\ t = "bool"))):=by
 simp only[mem_cons,not_mem_nil,or_false] at ht hT
 rcases ht with rfl|rfl|rfl|rfl|rfl|rfl|rfl<;>rcases hT with rfl|rfl|rfl|rfl|rfl|rfl<;>rfl
theorem Gj{T:String}:cC X (.builtin "isinstance") (Yy (bd X cl) EX T):=by
 intro pins s σ H xs us Q I rr hh;obtain⟨ρ,h,v,x,rfl,r,hx,p⟩:=hh;obtain⟨u,w',rfl,r1,r2⟩:=vals2 rr;cases r2;obtain⟨t,e,p⟩:=ay p;obtain⟨b,e1,p⟩:=cG p;have q:=aj r p _ VR.bl;unfold vI at e1;split at e1
 ·rename_i Yz
  have hT:T∈["list","tuple","str","bool","int","dict"]:=by simpa using Yz
  cases e1;have fin:∀tk,EP X pins σ Q (.bool (decide (T=t\/(T = "int" /\ t = "bool")))) { s with toks:=tk }:=λtk=>⟨.bl _,H,I.tok _,rfl,q⟩;have tab:=λht=>Gi X.K t T ht hT;cases v with
  | non=>rw[VR] at hx;subst hx;cases r1;simp only[vH] at e;cases e;exact kia_one PySem.W.kitx_none I.m8 True.intro (tab (by simp)) (λz=>nomatch z) fin
  | bl c=>rw[VR] at hx;subst hx;cases r1;simp only[vH] at e;cases e;exact kia_one PySem.W.kitx_bool I.m8 True.intro (tab (by simp)) (λz=>nomatch z) fin
  | int i=>rw[VR] at hx;subst hx;obtain⟨t',rfl⟩:=r1;simp only[vH] at e;cases e;exact kia_one PySem.W.kitx_int I.m8 True.intro (tab (by simp)) (λz=>nomatch z) fin
  | str i=>rw[VR] at hx;subst hx;obtain⟨t',rfl⟩:=r1;simp only[vH] at e;cases e;exact kia_one PySem.W.kitx_str I.m8 True.intro (tab (by simp)) (λz=>nomatch z) fin
  | tup vs =>rw[VR] at hx;obtain⟨a,ys,rfl,q1,_⟩:=hx;cases r1;simp only[vH] at e;cases e;obtain⟨_,_,⟨o,e1,e2,_⟩,_⟩:=I.tuple q1;exact kia_one PySem.W.kitx_tuple I.m8 ⟨o,e1,e2⟩ (tab (by simp)) (λz=>nomatch z) fin
  | rl vs =>rw[VR] at hx;obtain⟨a,ys,rfl,q1,_⟩:=hx;cases r1;simp only[vH] at e;cases e;obtain⟨_,_,⟨o,n,e1,e2,_⟩,_⟩:=I.list q1.sq;exact kia_one kitx_list I.m8 ⟨o,e1,e2⟩ (tab (by simp)) (λz=>nomatch z) fin
  | dc _ _=>rw[VR] at hx;exact hx.elim
  | ob _ _ _=>rw[VR] at hx;exact hx.elim
  | ref i =>
   rw[VR] at hx;obtain⟨a,rfl,q1⟩:=hx;cases r1;simp only[vH] at e;split at e
   ·rename_i vs e1;cases e;obtain⟨ys,k1,k2⟩:=r.ob i _ a e1 q1;obtain⟨_,_,⟨o,n,e1,e2,_⟩,_⟩:=I.list (xs:=ys) (.inl (.inl k1));exact kia_one kitx_list I.m8 ⟨o,e1,e2⟩ (tab (by simp)) (λz=>nomatch z) fin
   ·rename_i vs e1;cases e;obtain⟨ks,k1,k2⟩:=r.ob i _ a e1 q1;obtain⟨_,_,vs,_,p⟩:=(show bY X.prog X.w H s.heap a (.dK ks) from I.hok a _ k1);obtain⟨o,es,ep,h1,h2,_⟩:=p;exact kia_one PySem.W.kitx_dict I.m8 ⟨o,h1,h2.1⟩ (tab (by simp)) (λz=>nomatch z) fin
   ·cases e
 ·cases e1
noncomputable def Rc(B:Bd)(EX:Nat->List V->Hp->Prop)(m:Me):V->List V->Hp->VK->Prop:=λx xs H Q=>∃ρ h v vs,HR B ρ h H/\VR B.K ρ H v x/\az B.K ρ H vs xs/\Post B EX ρ H (WV B.K Q) (met m v vs h)
theorem Gk:NZ X "str.join" (Rc (bd X cl) EX .join):=by
 intro pins s σ H x xs u us Q I ru rr hh;obtain⟨ρ,h,v,vs,r,hv,hvs,p⟩:=hh;exact(show False from p).elim
theorem vO{i:Nat}(r:HR B ρ h H)(hi:ρ[i]?=some a)(e:h[i]?=some u)(eU:H a=some U)(hm:Mu U=true)(q:OR B ρ (upd H a O) a o)
  (p:Post B EX ρ H (WV B.K Q) (bnd (put i o) (λ_=>ret Val.non) h)):Q .non (upd H a O) :=
 p ρ (upd H a O) (Gr.put (mem_of_getElem? hi) eU hm) (r.put hi e q) _ VR.non
theorem AS:NZ X "list.append" (Rc (bd X cl) EX .append):=by
 intro pins s σ H x xs v' us Q I rx rv hh;obtain⟨ρ,h,v,vs,r,hv,hvs,p⟩:=hh
 match v,vs,p with
 | .ref i,[w],p =>
  obtain⟨zs,e,p⟩:=ay p;split at e
  ·rename_i zs' e1;cases e;obtain⟨e2,p⟩:=aM p;obtain⟨a,ys,rfl,q0,q1,q2⟩:=kH r hv e1;obtain⟨y,rfl,hy⟩:=az.one hvs;refine rW pins s σ H _ _ v' us Q I rx rv ⟨a,ys,y,rfl,rfl,q1,by rw[<-q2.length];exact of_decide_eq_true e2,?_⟩;have g:Gr ρ H ρ (upd H a (.lst (ys++[y]))):=Gr.put (mem_of_getElem? q0) q1 rfl;exact vO (o:=.lst (zs++[w])) r q0 e1 q1 rfl ⟨_,aU,az.append (az.up g _ _ q2) (az.up g _ _ (az.cons hy az.nil))⟩ p
  ·cases e
theorem AU:NZ X "list.extend" (Rc (bd X cl) EX .extend):=by
 intro pins s σ H x xs v' us Q I rx rv hh;obtain⟨ρ,h,v,vs,r,hv,hvs,p⟩:=hh
 match v,vs,p with
 | .ref i,[w],p =>
  obtain⟨zs,e,p⟩:=ay p;split at e
  ·rename_i zs' e1;cases e
   obtain⟨ws,e3,p⟩:=ay p;obtain⟨e2,p⟩:=aM p;have e2:=of_decide_eq_true e2;obtain⟨a,ys,rfl,q0,q1,q2⟩:=kH r hv e1;obtain⟨y,rfl,hy⟩:=az.one hvs;have fin:∀(bs:List V),az X.K ρ H ws bs->Q .non (upd H a (.lst (ys++bs))):=λbs hb=>by
    have g:Gr ρ H ρ (upd H a (.lst (ys++bs))):=Gr.put (mem_of_getElem? q0) q1 rfl;exact vO (o:=.lst (zs++ws)) r q0 e1 q1 rfl ⟨_,aU,az.append (az.up g _ _ q2) (az.up g _ _ hb)⟩ p
   cases w with
   | tup ts =>simp only[vF] at e3;cases e3;rw[VR] at hy;obtain⟨b,bs,rfl,k1,k2⟩:=hy;exact yb pins s σ H _ _ v' us Q I rx rv ⟨a,b,ys,bs,rfl,rfl,q1,k1,by rw[<-q2.length,<-k2.length];exact e2,fin bs k2⟩
   | ref j =>
    simp only[vF,aB] at e3;split at e3
    ·rename_i ts e4;cases e3;obtain⟨b,bs,rfl,k0,k1,k2⟩:=kH r hy e4;exact Au pins s σ H _ _ v' us Q I rx rv ⟨a,b,ys,bs,rfl,rfl,q1,k1,by rw[<-q2.length,<-k2.length];exact e2,fin bs k2⟩
    ·cases e3
   | _=>simp only[vF] at e3;cases e3
  ·cases e
end
end Hv
end
section
namespace Hv
open PySem L2 PyProof.Rows
structure Tb where
 nc:Nat
 Gm:List Str
 Gn:List (Nat×Str×Nat)
 EU:List (Str×Str×Nat)
 isc:List (Str×List Bool)
structure pe where
 N:List Str
 sc:Scope
 fns:List (Str×Nat)
 cons:List (Str×Val)
 tb:Tb
noncomputable def yj(sc:Scope)(x:Str):Bool:=(sc.names.lookup x==some .local||sc.names.lookup x==some .cell||sc.names.lookup x==some .free) && !(x==("__debug__":Str)) && !(x==("__classdict__":Str))
noncomputable def yk(sc:Scope)(x:Str):Bool:=sc.names.lookup x==some .globalImplicit && !(x==("__debug__":Str)) && !(x==("__name__":Str))
noncomputable def CG:Const->Val->Bool
 | .none,.non=>true
 | .bool a,.bl b=>a==b
 | .int a,.int b=>a==b
 | .str a,.str b=>a==b
 | _,_=>false
noncomputable def La(o:IK)(op:Operator):Bool:=decide (op=CB o)
noncomputable def Gp(o:KS)(op:CmpOp):Bool:=decide (op=ou o)
noncomputable def Oq:Bl->Str
 | .len=>"len" | .min=>"min" | .max=>"max" | .sorted=>"sorted" | .list=>"list" | .tuple=>"tuple" | .str=>"str" | .int=>"int" | .all=>"all" | .any=>"any" | .isin _=>"isinstance"
noncomputable def noStar:Expr->Bool
 | .Starred ..=>false
 | _=>true
noncomputable def pq:Expr->Bool
 | .Slice ..=>false
 | _=>true
noncomputable def Gq:Expr->Bool
 | .Name ..=>true|.Call ..=>true|.Subscript ..=>true|.List ..=>true|.Tuple ..=>true|.ListComp ..=>true|.Attribute ..=>true|.BinOp ..=>true
 | _=>false
noncomputable def superB:Expr->Bool
 | .Call (.Name _ _) [] [] _=>false
 | _=>true
noncomputable def IT(scope xsc:Scope):Scope :=
 { scope with names:=scope.names.map λ(n,k)=>if (k==.free&&xsc.kind==.function&&xsc.names.lookup n==some .cell) then (n,.cell) else (n,k) }
noncomputable def pe.BD(Γ:pe)(scope:Scope)(N':List Str):pe:={ Γ with N:=N',sc:=IT scope Γ.sc }
noncomputable def yl(Γ:pe):za->Expr->Bool
 | .one i,.Name x _=>Γ.N[i]?==some x && Γ.sc.names.lookup x==some .local
 | .tup is,.Tuple es _ _=>es.length==is.length&&(is.zip es).all λp=>match p.2 with
  | .Name x _=>Γ.N[p.1]?==some x && Γ.sc.names.lookup x==some .local
  | _=>false
 | _,_=>false
noncomputable def vP:za->List Nat
 | .one i=>[i]
 | .tup is=>is
noncomputable def YA:Me->Str
 | .join=>"join" | .append=>"append" | .extend=>"extend"
noncomputable def ym:Val->Val->Bool
 | .non,.non=>true
 | .bl a,.bl b=>a==b
 | .int a,.int b=>a==b
 | .str a,.str b=>a==b
 | _,_=>false
noncomputable def Ot:Expr->Bool
 | .Name _ _=>true
 | _=>false
noncomputable def IU:Expr->Str
 | .Name x _=>x
 | _=>""
noncomputable def YB(Γ:pe)(N':List Str)(js:List (Option Nat))(p q i j:Nat)(elt tg iter c0:Expr)(ia:Int)(scope:Scope):Bool:=match c0 with
 | .Compare l [.NotIn] [r] _=>Ot l&&Ot r&&(ia==0&&jz Γ.N Γ.sc scope N' js&&decide (N'.Nodup)&&yl (Γ.BD scope N') (.one p) tg&&js[p]?==some none&&js[q]?==some (some j)&&p != q && !behindInMarks .NotIn r &&
   (N'[p]?==some (IU elt)&&yj (Γ.BD scope N').sc (IU elt))&&(N'[p]?==some (IU l)&&yj (Γ.BD scope N').sc (IU l))&&(N'[q]?==some (IU r)&&yj (Γ.BD scope N').sc (IU r))&&(Γ.N[i]?==some (IU iter)&&yj Γ.sc (IU iter)))
 | _=>false
noncomputable def WC(Γ:pe)(N':List Str)(js:List (Option Nat))(p q i j:Nat):Expr->Bool
 | .ListComp elt [⟨tg,iter,[c0],ia⟩] scope _=>Ot elt&&Ot tg&&Ot iter&&YB Γ N' js p q i j elt tg iter c0 ia scope
 | _=>false
mutual
noncomputable def bu(Γ:pe):IE->Expr->Bool
 | .var i,e=>match e with
  | .Name x _=>Γ.N[i]?==some x&&yj Γ.sc x
  | _=>false
 | .cst d,e=>match e with
  | .Constant c _ _=>CG c d
  | _=>false
 | .con x d,e=>match e with
  | .Name y _=>x==y&&yk Γ.sc x && Γ.cons.any λp=>p.1==x&&ym p.2 d
  | _=>false
 | .no,_=>false
 | .bin o a b,e=>match e with
  | .BinOp l op r _=>La o op&&bu Γ a l&&bu Γ b r
  | _=>false
 | .neg a,e=>match e with
  | .UnaryOp .USub l _=>bu Γ a l
  | _=>false
 | .cmp o a b,e=>match e with
  | .Compare l [op] [r] _=>Gp o op && !behindInMarks op r&&bu Γ a l&&bu Γ b r
  | _=>false
 | .chn o p a b c,e=>match e with
  | .Compare l [op,op'] [m,r] _=>Gp o op&&Gp p op' && !behindInMarks op m && !behindInMarks op' r&&bu Γ a l&&bu Γ b m&&bu Γ c r
  | _=>false
 | .and a b,e=>match e with
  | .BoolOp .And (l::m::r) pos=>bu Γ a l&&(match r with|[]=>bu Γ b m|n::r'=>bu Γ b (.BoolOp .And (m::n::r') pos))
  | _=>false
 | .or a b,e=>match e with
  | .BoolOp .Or (l::m::r) pos=>bu Γ a l&&(match r with|[]=>bu Γ b m|n::r'=>bu Γ b (.BoolOp .Or (m::n::r') pos))
  | _=>false
 | .not a,e=>match e with
  | .UnaryOp .Not l _=>bu Γ a l
  | _=>false
 | .ite _ _ _,_=>false
 | .tup es,e=>match e with
  | .Tuple ls _ _=>aO Γ es ls
  | _=>false
 | .lst es,e=>match e with
  | .List ls _=>aO Γ es ls
  | _=>false
 | .idx a b,e=>match e with
  | .Subscript l r _=>pq r&&bu Γ a l&&bu Γ b r
  | _=>false
 | .slc a lo hi,e=>match e with
  | .Subscript l (.Slice l' h' none _) _=>bu Γ a l&&(match l' with|none=>cS lo|some e=>!cS lo&&bu Γ lo e)&&(match h' with|none=>cS hi|some e=>!cS hi&&bu Γ hi e)
  | _=>false
 | .call j es,e=>match e with
  | .Call (.Name x _) args [] _=>yk Γ.sc x && Γ.fns[j]?==some (x,args.length)&&decide (args.length<1000)&&aO Γ es args
  | .Call (.Attribute (.Name x _) m ap) args [] cp=>yk Γ.sc x && Γ.tb.EU.contains (x,m,j)&&(match Γ.fns[j]? with|some (_,n)=>n==1000+args.length|none=>false)&&decide (args.length<29)&&ap.endLine==cp.line&&aO Γ es args && !args.isEmpty
  | _=>false
 | .blt b es,e=>match e with
  | .Call (.Name x _) args [] _=>yk Γ.sc x&&x==Oq b&&(match b with
   | .isin T=>(match args with|[a,.Name y _]=>yk Γ.sc y&&y==(T:Str)&&["list","tuple","str","bool","int","dict"].contains T&&aO Γ es [a]|_=>false)
   | _=>!args.isEmpty&&aO Γ es args)
  | _=>false
 | .met m a es,e=>match e with
  | .Call (.Attribute o x ap) args [] cp=>x==YA m&&superB o && !args.isEmpty&&decide (args.length<29)&&ap.endLine==cp.line&&bu Γ a o&&aO Γ es args
  | _=>false
 | .comp N' js pat k it c elt,e=>match e with
  | .ListComp e [⟨tg,iter,ifs,0⟩] scope _=>jz Γ.N Γ.sc scope N' js&&zh Γ k it iter&&decide (N'.Nodup)&&yl (Γ.BD scope N') pat tg&&((vP pat).all λi=>js[i]?==some none)&&(match k,pat with|.enum,.one _=>false|.zip,.one _=>false|_,_=>true) &&
   (match ifs with|[]=>cS c|[t]=>!cS c&&bu (Γ.BD scope N') c t|_=>false)&&bu (Γ.BD scope N') elt e
  | _=>false
 | .dct0,e=>match e with
  | .Dict [] [] _=>true
  | _=>false
 | .sset a,e=>match e with
  | .Call (.Name x _) [.Call (.Name y _) [l] [] _] [] _=>x==("sorted":Str)&&y==("set":Str)&&yk Γ.sc x&&yk Γ.sc y&&noStar l&&bu Γ a l
  | _=>false
 | .dget d k x,e=>match e with
  | .Call (.Attribute o m ap) [a,b] [] cp=>m==("get":Str)&&superB o&&noStar a&&noStar b&&ap.endLine==cp.line&&bu Γ d o&&bu Γ k a&&bu Γ x b
  | _=>false
 | .dct1 k v,e=>match e with
  | .Dict [some a] [b] _=>bu Γ k a&&bu Γ v b
  | _=>false
 | .lkeys d,e=>match e with
  | .Call (.Name x _) [.Name y q] [] _=>x==("list":Str)&&yk Γ.sc x&&bu Γ d (.Name y q)
  | _=>false
 | .sdef _ _ _,_=>false
 | .svals _,_=>false
 | .skeys d,e=>match e with
  | .Call (.Name x _) [.Name y q] [] _=>x==("sorted":Str)&&yk Γ.sc x&&bu Γ d (.Name y q)
  | _=>false
 | .fld n a x,e=>match e with
  | .Attribute o y _=>x==y&&superB o&&n == Γ.tb.nc && Γ.tb.Gm.contains x&&bu Γ a o
  | _=>false
 | .rev a s,e=>match e with
  | .Subscript l (.Slice none none st _) _=>bu Γ a l&&st.isSome&&(match st with|none=>cS s|some e=>!cS s&&bu Γ s e)
  | _=>false
 | .dflt _ _ _ _ _ _,_=>false
 | .isc _ _ _,_=>false
 | .mth a m js es,e=>match e with
  | .Call (.Attribute o x ap) args [] cp=>x==m&&superB o&&decide (args.length<29)&&ap.endLine==cp.line&&(js.all λp=>decide (p.1 < Γ.tb.nc) && Γ.tb.Gn.contains (p.1,m,p.2)&&(match Γ.fns[p.2]? with|some (_,n)=>n==1001+args.length|none=>false))&&bu Γ a o&&aO Γ es args
  | _=>false
noncomputable def aO(Γ:pe):oq->List Expr->Bool
 | .nil,ls=>ls.isEmpty
 | .cons e es,ls=>match ls with
  | l::ls=>noStar l&&bu Γ e l&&aO Γ es ls
  | []=>false
noncomputable def zh(Γ:pe)(k:Ik):oq->Expr->Bool
 | .nil,_=>false
 | .cons e es,l=>match k with
  | .seq=>(match es with|.nil=>Gq l&&bu Γ e l|_=>false)
  | .range=>(match l with|.Call (.Name x _) (a::args) [] _=>x==("range":Str)&&yk Γ.sc x&&noStar a&&bu Γ e a&&aO Γ es args&&decide (args.length<2)|_=>false)
  | .enum=>(match es,l with|.nil,.Call (.Name x _) [a] [] _=>x==("enumerate":Str)&&yk Γ.sc x&&noStar a&&bu Γ e a|_,_=>false)
  | .zip=>false
end
noncomputable abbrev Fn:=Nat->List Val->M Val
noncomputable def dw(K:PySem.W.Frag)(ρ:List Addr)(env:Env)(σ:L2.St)(H:Hp):Prop:=∀(i:Nat) (v:Val),env[i]?=some (some v)->∃x,σ[i]?=some (some x)/\VR K ρ H v x
theorem dw.kT{K:PySem.W.Frag}{ρ ρ':List Addr}{env:Env}{σ:L2.St}{H H':Hp}(e:dw K ρ env σ H)(g:Gw ρ H ρ' H'):dw K ρ' env σ H':=λi v q=>by
 obtain⟨x,q1,q2⟩:=e i v q;exact⟨x,q1,VR.kT g v x q2⟩
theorem dw.up{K:PySem.W.Frag}{ρ ρ':List Addr}{env:Env}{σ:L2.St}{H H':Hp}(e:dw K ρ env σ H)(g:Gr ρ H ρ' H'):dw K ρ' env σ H':=e.kT g.w
noncomputable def YC(K:PySem.W.Frag)(Q:List V->Hp->Prop):List Val->Hs->List Addr->Hp->Prop:=λvs _ ρ' H'=>∀xs,az K ρ' H' vs xs->Q xs H'
noncomputable def WT(Q:Bool->Hp->Prop):Bool->Hs->List Addr->Hp->Prop:=λb _ _ H'=>Q b H'
noncomputable def Lb(Φ:Fn)(ir:IE)(env:Env):M Bool:=bnd (aH Φ ir env) λx=>ask λh=>dQ h x
noncomputable def tV(Φ:Fn)(B:Bd)(EX:Nat->List V->Hp->Prop)(ir:IE):TE:=λσ H Q=>∃ρ env h,dw B.K ρ env σ H/\HR B ρ h H/\Post B EX ρ H (WV B.K Q) (aH Φ ir env h)
noncomputable def WD(Φ:Fn)(B:Bd)(EX:Nat->List V->Hp->Prop)(eX:oq):TA:=λσ H Q=>∃ρ env h,dw B.K ρ env σ H/\HR B ρ h H/\Post B EX ρ H (YC B.K Q) (aZ Φ eX env h)
noncomputable def tT(Φ:Fn)(B:Bd)(EX:Nat->List V->Hp->Prop)(ir:IE):TT:=λσ H Q=>∃ρ env h,dw B.K ρ env σ H/\HR B ρ h H/\Post B EX ρ H (WT Q) (Lb Φ ir env h)
theorem _root_.L2.PE.imp(h:PE X e t)(i:∀σ H Q,t' σ H Q->t σ H Q):PE X e t':=λpins s σ H Q I hw=>h pins s σ H Q I (i σ H Q hw)
theorem _root_.L2.PT.imp(h:PT X e t)(i:∀σ H Q,t' σ H Q->t σ H Q):PT X e t':=λpins s σ H Q I hw=>h pins s σ H Q I (i σ H Q hw)
theorem _root_.L2.PA.imp(h:PA X es t)(i:∀σ H Q,t' σ H Q->t σ H Q):PA X es t':=λpos pins s σ H Q I hw=>h pos pins s σ H Q I (i σ H Q hw)
theorem _root_.L2.PO.imp(h:PO X e t)(i:∀σ H Q,t' σ H Q->t σ H Q):PO X e t':=λpins s σ H Q I hw=>h pins s σ H Q I (i σ H Q hw)
theorem _root_.L2.PI.imp(h:PI X tg iter t)(i:∀σ H R,t' σ H R->t σ H R):PI X tg iter t':=λpins s σ H R I hw=>h pins s σ H R I (i σ H R hw)
theorem aR{α β γ:Type}(m:M α)(f:α -> M β)(g:β -> M γ):bnd (bnd m f) g=bnd m λx=>bnd (f x) g:=by
 funext h;show (match (match m h with|.ok a h'=>f a h'|.exc c vs h'=>.exc c vs h'|.no=>.no) with|.ok a h'=>g a h'|.exc c vs h'=>.exc c vs h'|.no=>.no)=(match m h with|.ok a h'=>bnd (f a) g h'|.exc c vs h'=>.exc c vs h'|.no=>.no);cases m h<;>rfl
theorem bZ{α β:Type}(a:α)(f:α -> M β):bnd (ret a) f=f a:=rfl
noncomputable def uo(B:Bd)(n:Nat)(φ:List Val->M Val):Sp:=λxs H Q _=>∃ρ h vs,vs.length=n/\HR B ρ h H/\az B.K ρ H vs xs/\Post B (λ_ _ _=>False) ρ H (WV B.K Q) (φ vs h)
noncomputable def M4(P:Program)(w:World)(B:Bd)(mg:Str->Option Value)(base:Heap)(k:Nat)(j:Nat)(x:Str)(n:Nat)(φ:List Val->M Val):Prop :=
 (n<1000/\((∃(f:Addr) (fd:FuncData) (ps:List Str),ps.length=n/\mg x=some (.ref f)/\keepIn B.K (.ref f)=true/\Binds B.K fd ps []/\fJ P w B.K mg base xA k f fd ps (uo B n φ)) \/
  ∃(c:Nat) (f:Addr) (fd:FuncData) (ps:List Str) (φ0:List Val->M Val),φ = Cz c φ0/\ps.length=n+1/\mg x=some (.ref (B.cl c))/\Mk B.K (B.cl c) f/\Binds B.K fd ps []/\fJ P w B.K mg base xA k f fd ps (uo B (n+1) φ0))) \/
 (1000<=n/\∃(fd:FuncData) (ps:List Str),ps.length=n-1000/\Binds B.K fd ps []/\fJ P w B.K mg base xA k (B.cl (1000+j)) fd ps (uo B (n-1000) φ))
noncomputable def gQ:List Str:=["len","min","max","sorted","list","tuple","str","all","any","isinstance","range","enumerate","int","bool","dict","set","zip"]
structure Ctx (Φ:Fn) (Γ:pe) (k:Nat) (X:Cx) (cl:Nat->Addr) (EX:Nat->List V->Hp->Prop):Prop where
 N:X.N = Γ.N
 sc:X.env.scope = Γ.sc
 calm:X.calm=true
 room:dP (k+1) X.A
 lD:∀c xs H,¬ EX c xs H
 fns:∀j x n,Γ.fns[j]?=some (x,n)->M4 X.prog X.w (bd X cl) X.mg X.base k j x n (Φ j)
 cls:∀c,c < Γ.tb.nc->BA X.K (cl c)/\∀x ∈ Γ.tb.Gm,jS X.K (cl c) x
 Gn:∀p ∈ Γ.tb.Gn,Meth X.K (cl p.1) p.2.1 (cl (1000+p.2.2))
 EU:∀p ∈ Γ.tb.EU,∃C,X.mg p.1=some (.ref C)/\KQ X.K C p.2.1 (cl (1000+p.2.2))
 isc:∀p ∈ Γ.tb.isc,∃C,X.mg p.1=some (.ref C)/\∀c b,p.2[c]?=some b->WA X.K (cl c)/\kitOne X.K (.ref (cl c)) (.ref C)=some b
 cons:∀p ∈ Γ.cons,∃v u,X.mg p.1=some u/\RelV v u/\∀K ρ H,VR K ρ H p.2 v
 blt:∀x∈gQ,X.mg x=none
section
variable {Φ:Fn} {Γ:pe} {k:Nat} {X:Cx} {cl:Nat->Addr} {EX:Nat->List V->Hp->Prop}
theorem Ctx.units(c:Ctx Φ Γ k X cl EX):X.A.units+64<cLine:=c.room.units
theorem Ctx.vis(c:Ctx Φ Γ k X cl EX)(h:yj Γ.sc x=true):QM X.env.scope x/\(x==("__debug__":Str))=false/\(x==("__classdict__":Str))=false:=by
 unfold yj at h;simp only[and_eq_true,or_eq_true,beq_iff_eq,not_eq_true'] at h;obtain⟨⟨h1,h2⟩,h3⟩:=h;refine⟨?_,h2,h3⟩;unfold QM;rw[c.sc]
 rcases h1 with (z|z)|z
 ·exact .inl z
 ·exact .inr (.inl z)
 ·exact .inr (.inr z)
theorem Ctx.gl(c:Ctx Φ Γ k X cl EX)(h:yk Γ.sc x=true):Gl X x/\(x==("__debug__":Str))=false/\x ≠ "__name__":=by
 unfold yk at h;simp only[and_eq_true,beq_iff_eq,not_eq_true'] at h;obtain⟨⟨h1,h2⟩,h3⟩:=h;refine⟨?_,h2,λz=>by rw[z] at h3;simp at h3⟩;show X.env.scope.names.lookup x=_;rw[c.sc];exact h1
theorem Ctx.BD(c:Ctx Φ Γ k X cl EX)(scope:Scope)(N':List Str)(cls:List (Str×Addr))(C:Addr)(s:Shared)(H:Hp)(fp:List Addr):Ctx Φ (Γ.BD scope N') k (bR X scope N' cls C s H fp) cl EX:=by
 refine⟨rfl,?_,c.calm,c.room,c.lD,c.fns,c.cls,c.Gn,c.EU,c.isc,c.cons,c.blt⟩;show relabel scope X.env=IT scope Γ.sc;rw[<-c.sc];rfl
theorem aW(h:noStar e=true):starEach (e::es) env=(false,eval e env)::starEach es env:=by
 cases e<;>first|rfl|(simp[noStar] at h)
theorem f7:∀{es:List Expr} {eX:oq},aO Γ eX es=true->(backTo pos (starEach es env)).any (·.1)=false
 | [],_,_=>rfl
 | e::es,.nil,h=>by simp[aO] at h
 | e::es,.cons i eX,h=>by
  simp only[aO,and_eq_true] at h;rw[aW h.1.1];show (false||(backTo pos (starEach es env)).any (·.1))=false;rw[f7 (eX:=eX) h.2];rfl
theorem qo(h:aO Γ eX es=true):(backTo pos (starEach es env)).all (λx=>!x.1)=true:=by
 have q:=f7 (pos:=pos) (env:=env) h;rw[all_eq_true];intro x hx;have:=List.any_eq_false.mp q x hx;simpa using this
theorem yo(h:pq e=true):yT e:=by
 intro o i;cases e<;>first|rfl|(simp[pq] at h)
theorem super_ok(h:superB e=true):attributeBase e x env whole=whole:=by
 cases e<;>first
  | rfl
  | skip
 rename_i f args kws pos;cases f<;>first
  | rfl
  | skip
 cases args with
 | cons a r=>rfl
 | nil =>
  cases kws with
  | cons a r=>rfl
  | nil=>simp[superB] at h
theorem cW(q:PE X e (tV Φ (bd X cl) EX ir))(he:∀whole,isTrue e X.env whole=(do let v <-whole;standAt e.pos;holding [v] (truthy v))):PT X e (tT Φ (bd X cl) EX ir) :=
 (BW q he).imp λσ H Q ⟨ρ,env,h,hE,r,p⟩=>⟨ρ,env,h,hE,r,ao p λv h1 ρ1 x H1 g1 r1 q1 p1=>by
  obtain⟨b,e,w⟩:=cF r1 p1;exact⟨b,K0 r1 q1 e,w⟩⟩
theorem BR:QT X (unaryOp .USub) (λx H Q=>∃i,x=.int i/\Q (.int (-i)) H):=by
 intro pins s σ H x v Q I rx h;obtain⟨i,rfl,q⟩:=h;obtain⟨t,rfl⟩:=rx;exact neg_int ⟨.int (-i),H,I.tok _,⟨_,rfl⟩,q⟩
theorem IV(h:PT X (.BoolOp op vs pos) t):PW X (.BoolOp op vs pos) t:=λwhole pins s σ H Q I hw=>h pins s σ H Q I hw
noncomputable def cB(Φ:Fn)(ir:IE):Prop:=∀(Γ:pe) (k:Nat) (X:Cx) (cl:Nat->Addr) (EX:Nat->List V->Hp->Prop) (e:Expr),Ctx Φ Γ k X cl EX->bu Γ ir e=true->PE X e (tV Φ (bd X cl) EX ir)/\PT X e (tT Φ (bd X cl) EX ir)
noncomputable def jW(Φ:Fn)(eX:oq):Prop:=(∀(Γ:pe) (k:Nat) (X:Cx) (cl:Nat->Addr) (EX:Nat->List V->Hp->Prop) (es:List Expr),Ctx Φ Γ k X cl EX->aO Γ eX es=true->PA X es (WD Φ (bd X cl) EX eX))/\match eX with
 | .nil=>True
 | .cons e r=>cB Φ e/\match r with
  | .nil=>True
  | .cons e' _=>cB Φ e'
theorem Gs(h:La o op=true):op=CB o:=of_decide_eq_true h
theorem uq(h:Gp o op=true):op=ou o:=of_decide_eq_true h
theorem qq(hs:∀env h,aH Φ ir env h=.no):cB Φ ir:=by
 intro Γ k X cl EX e c h;exact⟨λpins s σ H Q I ⟨ρ,env,h,hE,r,p⟩=>by rw[hs] at p;exact p.elim,λpins s σ H Q I ⟨ρ,env,h,hE,r,p⟩=>by unfold Lb bnd at p;rw[hs] at p;exact p.elim⟩
theorem Lc{i:Nat}:cB Φ (.var i):=by
 intro Γ k X cl EX e c h
 (conv at h=>lhs;whnf);split at h<;>first|cases h|skip
 rename_i x pos;simp only[and_eq_true,beq_iff_eq] at h;obtain⟨v1,v2,v3⟩:=c.vis h.2;have q:PE X (.Name x pos) (tV Φ (bd X cl) EX (.var i)):=by refine(JN (by rw[c.N];exact h.1) v1 v2 v3).imp λσ H Q aJ=>?_;obtain⟨ρ,env,h,hE,r,p⟩:=aJ;rw[aH.eq_def] at p;dsimp only at p;obtain⟨d,e1,w⟩:=cO r p;split at e1<;>cases e1;rename_i e1;obtain⟨x,e2,e3⟩:=hE i d e1;exact⟨x,e2,w x e3⟩
 exact⟨q,cW q λ_=>rfl⟩
theorem Ld:cB Φ (.cst d):=by
 intro Γ k X cl EX e c h
 (conv at h=>lhs;whnf);split at h<;>first|cases h|skip
 rename_i cc j pos;have q:PE X (.Constant cc j pos) (tV Φ (bd X cl) EX (.cst d)):=by
  unfold CG at h;split at h<;>first|cases h|skip
  ·refine JP.imp λσ H Q aJ=>?_;obtain⟨ρ,env,h,hE,r,p⟩:=aJ;simp only[aH] at p;exact aj r p _ VR.non
  ·cases eq_of_beq h;refine Nq.imp λσ H Q aJ=>?_;obtain⟨ρ,env,h,hE,r,p⟩:=aJ;simp only[aH] at p;exact aj r p _ VR.bl
  ·cases eq_of_beq h;refine JO.imp λσ H Q aJ=>?_;obtain⟨ρ,env,h,hE,r,p⟩:=aJ;simp only[aH] at p;exact aj r p _ VR.int
  ·cases eq_of_beq h;refine JQ.imp λσ H Q aJ=>?_;obtain⟨ρ,env,h,hE,r,p⟩:=aJ;simp only[aH] at p;exact aj r p _ VR.str
 exact⟨q,cW q λ_=>rfl⟩
theorem AV(h:ym a b=true):a=b:=by
 unfold ym at h;split at h<;>first|rfl|(cases eq_of_beq h;rfl)|cases h
theorem Le:cB Φ (.con x d):=by
 intro Γ k X cl EX e c h
 (conv at h=>lhs;whnf);split at h<;>first|cases h|skip
 rename_i y pos;simp only[and_eq_true,beq_iff_eq] at h;obtain⟨⟨h1,h2⟩,h3⟩:=h;subst h1;obtain⟨g1,g2,g3⟩:=c.gl h2;obtain⟨p,hp,h4⟩:=any_eq_true.mp h3;simp only[and_eq_true,beq_iff_eq] at h4;obtain⟨v,u,m1,m2,m3⟩:=c.cons p hp;rw[h4.1] at m1;have q:PE X (.Name x pos) (tV Φ (bd X cl) EX (.con x d)):=by refine(E2 g1 m1 m2 g2).imp λσ H Q aJ=>?_;obtain⟨ρ,env,h,hE,r,p⟩:=aJ;simp only[aH] at p;exact aj r p _ (by rw[<-AV h4.2];exact m3 _ _ _)
 exact⟨q,cW q λ_=>rfl⟩
theorem Ou:cB Φ .no:=by
 intro Γ k X cl EX e c h
 (conv at h=>lhs;whnf);cases h
theorem CH:jW Φ .nil:=by
 refine⟨fun Γ k X cl EX es c h=>?_,trivial⟩;rw[aO] at h;cases es with
 | cons a r=>cases h
 | nil =>refine BZ.imp λσ H Q aJ=>?_;obtain⟨ρ,env,h,hE,r,p⟩:=aJ;simp only[aZ] at p;exact aj r p _ az.nil
theorem zj(h1:cB Φ e)(h2:jW Φ es):jW Φ (.cons e es):=by
 refine⟨fun Γ k X cl EX ls c h=>?_,h1,?_⟩
 ·rw[aO.eq_def] at h;dsimp only at h
  cases ls with
  | nil=>cases h
  | cons l ls =>simp only[and_eq_true] at h;refine(tM (h1 Γ k X cl EX l c h.1.2).1 (h2.1 Γ k X cl EX ls c h.2) (aW h.1.1)).imp λσ H Q aJ=>?_;obtain⟨ρ,env,h,hE,r,p⟩:=aJ;simp only[aZ] at p;refine⟨ρ,env,h,hE,r,ao p λv h1 ρ1 x H1 g1 r1 q1 p1=>⟨ρ1,env,h1,hE.up g1,r1,bB p1 λvs h2 ρ2 H2 g2 r2 p2 xs q2=>?_⟩⟩;exact aj r2 p2 _ (az.cons (VR.up g2 _ _ q1) q2)
 ·cases es with
  | nil=>trivial
  | cons e' r=>exact h2.2.1
theorem Lf(ha:cB Φ a)(hb:cB Φ b):cB Φ (.bin o a b):=by
 intro Γ k X cl EX e c h
 (conv at h=>lhs;whnf);split at h<;>first|cases h|skip
 rename_i l op r pos;simp only[and_eq_true] at h;obtain⟨⟨h1,h2⟩,h3⟩:=h;have eo:op=CB o:=Gs h1;subst eo;have q:PE X (.BinOp l (CB o) r pos) (tV Φ (bd X cl) EX (.bin o a b)):=by refine(NN (KY (cl:=cl) (EX:=EX) o) (ha Γ k X cl EX l c h2).1 (hb Γ k X cl EX r c h3).1).imp λσ H Q aJ=>?_;obtain⟨ρ,env,h,hE,r,p⟩:=aJ;simp only[aH] at p;exact⟨ρ,env,h,hE,r,ao p λv h1 ρ1 x H1 g1 r1 q1 p1=>⟨ρ1,env,h1,hE.up g1,r1,ao p1 λw h2 ρ2 y H2 g2 r2 q2 p2=>⟨ρ2,h2,v,w,r2,VR.up g2 _ _ q1,q2,p2⟩⟩⟩
 exact⟨q,cW q λ_=>rfl⟩
theorem Lg(ha:cB Φ a):cB Φ (.neg a):=by
 intro Γ k X cl EX e c h
 (conv at h=>lhs;whnf);split at h<;>first|cases h|skip
 rename_i l pos;have q:PE X (.UnaryOp .USub l pos) (tV Φ (bd X cl) EX (.neg a)):=by
  refine(NO BR (ha Γ k X cl EX l c h).1).imp λσ H Q aJ=>?_;obtain⟨ρ,env,h,hE,r,p⟩:=aJ;simp only[aH] at p;refine⟨ρ,env,h,hE,r,ao p λv h1 ρ1 x H1 g1 r1 q1 p1=>?_⟩;cases v<;>first|exact p1.elim|skip
  rw[VR] at q1;exact⟨_,q1,aj r1 p1 _ VR.int⟩
 exact⟨q,cW q λ_=>rfl⟩
theorem Lh(ha:cB Φ a)(hb:cB Φ b):cB Φ (.cmp o a b):=by
 intro Γ k X cl EX e c h
 (conv at h=>lhs;whnf);split at h<;>first|cases h|skip
 rename_i l op r pos;simp only[and_eq_true,not_eq_true'] at h;obtain⟨⟨⟨h1,h4⟩,h2⟩,h3⟩:=h;have eo:op=ou o:=uq h1;subst eo;refine⟨(Fg (nG (cl:=cl) c.units o) (ha Γ k X cl EX l c h2).1 (hb Γ k X cl EX r c h3).1 h4).imp λσ H Q ⟨ρ,env,h,hE,r,p⟩=>?_,(Fi (nG (cl:=cl) c.units o) (ha Γ k X cl EX l c h2).1 (hb Γ k X cl EX r c h3).1 h4).imp λσ H Q ⟨ρ,env,h,hE,r,p⟩=>?_⟩
 ·simp only[aH] at p;refine⟨ρ,env,h,hE,r,ao p λv h1 ρ1 x H1 g1 r1 q1 p1=>⟨ρ1,env,h1,hE.up g1,r1,ao p1 λw h2 ρ2 y H2 g2 r2 q2 p2=>?_⟩⟩;obtain⟨t,e,p3⟩:=ay p2;exact⟨ρ2,h2,v,w,t,r2,VR.up g2 _ _ q1,q2,e,aj r2 p3 _ VR.bl⟩
 ·simp only[Lb,aH,aR,bZ] at p;refine⟨ρ,env,h,hE,r,ao p λv h1 ρ1 x H1 g1 r1 q1 p1=>⟨ρ1,env,h1,hE.up g1,r1,ao p1 λw h2 ρ2 y H2 g2 r2 q2 p2=>?_⟩⟩;obtain⟨t,e,p3⟩:=ay p2;obtain⟨t',e',w'⟩:=cF r2 p3;cases (show some t=some t' from e');exact⟨ρ2,h2,v,w,t,r2,VR.up g2 _ _ q1,q2,e,t,rfl,w'⟩
theorem Li(ha:cB Φ a)(hb:cB Φ b)(hd:cB Φ d):cB Φ (.chn o o' a b d):=by
 intro Γ k X cl EX e c h
 (conv at h=>lhs;whnf);split at h<;>first|cases h|skip
 rename_i l op op' m r pos;simp only[and_eq_true,not_eq_true'] at h;obtain⟨⟨⟨⟨⟨⟨h1,h2⟩,h3⟩,h4⟩,h5⟩,h6⟩,h7⟩:=h;have eo:op=ou o:=uq h1;have ep:op'=ou o':=uq h2;subst eo;subst ep;have hm:lastMarks [ou o,ou o'] [m,r]=false:=h4;refine⟨(BU (nG (cl:=cl) c.units o) (nG (cl:=cl) c.units o') (ha Γ k X cl EX l c h5).1 (hb Γ k X cl EX m c h6).1 (hd Γ k X cl EX r c h7).1 hm).imp λσ H Q ⟨ρ,env,h,hE,r,p⟩=>?_,
  (BV (nG (cl:=cl) c.units o) (nG (cl:=cl) c.units o') (ha Γ k X cl EX l c h5).1 (hb Γ k X cl EX m c h6).1 (hd Γ k X cl EX r c h7).1 hm).imp λσ H Q ⟨ρ,env,h,hE,r,p⟩=>?_⟩
 ·simp only[aH] at p
  refine⟨ρ,env,h,hE,r,ao p λv h1 ρ1 x H1 g1 r1 q1 p1=>⟨ρ1,env,h1,hE.up g1,r1,ao p1 λw h2 ρ2 y H2 g2 r2 q2 p2=>?_⟩⟩;obtain⟨t,e,p3⟩:=ay p2;refine⟨ρ2,h2,v,w,t,r2,VR.up g2 _ _ q1,q2,e,t,rfl,?_⟩;cases t with
  | false =>rw[if_neg Bool.false_ne_true] at p3 |-;exact aj r2 p3 _ VR.bl
  | true =>rw[if_pos rfl] at p3 |-;refine⟨ρ2,env,h2,(hE.up g1).up g2,r2,ao p3 λw' h3 ρ3 z H3 g3 r3 q3 p4=>?_⟩;obtain⟨t',e',p5⟩:=ay p4;exact⟨ρ3,h3,w,w',t',r3,VR.up g3 _ _ q2,q3,e',aj r3 p5 _ VR.bl⟩
 ·simp only[Lb,aH,aR,bZ] at p
  refine⟨ρ,env,h,hE,r,ao p λv h1 ρ1 x H1 g1 r1 q1 p1=>⟨ρ1,env,h1,hE.up g1,r1,ao p1 λw h2 ρ2 y H2 g2 r2 q2 p2=>?_⟩⟩;obtain⟨t,e,p3⟩:=ay p2;refine⟨ρ2,h2,v,w,t,r2,VR.up g2 _ _ q1,q2,e,t,rfl,?_⟩;cases t with
  | false =>rw[if_neg Bool.false_ne_true] at p3 |-;rw[bZ] at p3;obtain⟨t',e',w'⟩:=cF r2 p3;cases (show some false=some t' from e');exact⟨false,rfl,w'⟩
  | true =>rw[if_pos rfl] at p3 |-;simp only[aR,bZ] at p3;refine⟨ρ2,env,h2,(hE.up g1).up g2,r2,ao p3 λw' h3 ρ3 z H3 g3 r3 q3 p4=>?_⟩;obtain⟨t',e',p5⟩:=ay p4;obtain⟨t2,e2,w2⟩:=cF r3 p5;cases (show some t'=some t2 from e2);exact⟨ρ3,h3,w,w',t',r3,VR.up g3 _ _ q2,q3,e',t',rfl,w2⟩
end
end Hv
end
section
namespace Hv
open PySem L2 PyProof.Rows
section
variable {B:Bd} {EX:Nat->List V->Hp->Prop} {ρ:List Addr} {H:Hp} {β:Type} {W:β -> Hs->List Addr->Hp->Prop} {h:Hs}
theorem post_bool(p:Post B EX ρ H W (bnd (qj v) f h)):∃t,v=.bl t/\Post B EX ρ H W (f t h):=by
 cases v with
 | bl t=>exact⟨t,rfl,p⟩
 | _=>exact p.elim
theorem nH(p:Post B EX ρ H W (bnd m F h))(k:∀v h1,Post B EX ρ H W (F v h1)->∃t,dQ h1 v=some t/\∀ρ1 H1,Gr ρ H ρ1 H1->HR B ρ1 h1 H1->Q t H1) :
  Post B EX ρ H (WT Q) (bnd m (λx=>ask λh=>dQ h x) h):=by
 unfold bnd at p |-;cases e:m h with
 | ok v h1 =>
  rw[e] at p;obtain⟨t,e1,q⟩:=k v h1 p;show Post B EX ρ H (WT Q) (ask (λh=>dQ h v) h1);have e2:ask (λh=>dQ h v) h1=.ok t h1:=by unfold ask bh;dsimp only;rw[e1]
  rw[e2];exact λρ1 H1 g r=>q ρ1 H1 g r
 | exc c vs h1=>rw[e] at p;exact p
 | no=>rw[e] at p;exact p
end
section
variable {Φ:Fn} {Γ:pe} {k:Nat} {X:Cx} {cl:Nat->Addr} {EX:Nat->List V->Hp->Prop}
theorem Lj(ha:cB Φ a)(hb:cB Φ b):cB Φ (.and a b):=by
 intro Γ k X cl EX e c h
 (conv at h=>lhs;whnf);split at h<;>first|cases h|skip
 rename_i l m r pos;simp only[and_eq_true] at h;obtain⟨h1,h2⟩:=h;have hB:PE X (.BoolOp .And (m::r) pos) (tV Φ (bd X cl) EX b)/\PW X (.BoolOp .And (m::r) pos) (tT Φ (bd X cl) EX b):=by
  cases r with
  | nil=>exact⟨BI (hb Γ k X cl EX m c h2).1,E5 (hb Γ k X cl EX m c h2).2⟩
  | cons n r'=>exact⟨(hb Γ k X cl EX _ c h2).1,IV (hb Γ k X cl EX _ c h2).2⟩
 refine⟨(JU (ha Γ k X cl EX l c h1).1 hB.1).imp λσ H Q ⟨ρ,env,h,hE,r,p⟩=>?_,(JS (ha Γ k X cl EX l c h1).2 hB.2).pt.imp λσ H Q ⟨ρ,env,h,hE,r,p⟩=>?_⟩
 ·simp only[aH] at p
  refine⟨ρ,env,h,hE,r,ao p λv h1 ρ1 x H1 g1 r1 q1 p1=>?_⟩;obtain⟨t,rfl,p2⟩:=post_bool p1;rw[VR] at q1;refine⟨t,q1,?_⟩;cases t with
  | true =>rw[if_pos rfl] at p2 |-;refine⟨ρ1,env,h1,hE.up g1,r1,ao p2 λw h2 ρ2 y H2 g2 r2 q2 p3=>?_⟩;obtain⟨u,rfl,p4⟩:=post_bool p3;exact aj r2 p4 _ q2
  | false =>rw[if_neg Bool.false_ne_true] at p2 |-;exact aj r1 p2 _ VR.bl
 ·simp only[Lb,aH,aR] at p
  refine⟨ρ,env,h,hE,r,nH p λv h1 p1=>?_⟩;obtain⟨t,rfl,p2⟩:=post_bool p1;refine⟨t,rfl,λρ1 H1 g1 r1=>?_⟩;have p2:=Post.up g1 p2;cases t with
  | true =>rw[if_pos rfl] at p2 |-;simp only[aR,bZ] at p2;refine⟨ρ1,env,h1,hE.up g1,r1,nH p2 λw h2 p3=>?_⟩;obtain⟨u,rfl,p4⟩:=post_bool p3;exact⟨u,rfl,λρ2 H2 g2 r2=>by obtain⟨t',e',w'⟩:=cF r2 (Post.up g2 p4);cases (show some u=some t' from e');exact w'⟩
  | false =>rw[if_neg Bool.false_ne_true] at p2 |-;obtain⟨t',e',w'⟩:=cF r1 (show Post _ _ ρ1 H1 _ (ask (λh=>dQ h (.bl false)) h1) from p2);cases (show some false=some t' from e');exact w'
theorem Ov(ha:cB Φ a)(hb:cB Φ b):cB Φ (.or a b):=by
 intro Γ k X cl EX e c h
 (conv at h=>lhs;whnf);split at h<;>first|cases h|skip
 rename_i l m r pos;simp only[and_eq_true] at h;obtain⟨h1,h2⟩:=h;have hB:PE X (.BoolOp .Or (m::r) pos) (tV Φ (bd X cl) EX b)/\PW X (.BoolOp .Or (m::r) pos) (tT Φ (bd X cl) EX b):=by
  cases r with
  | nil=>exact⟨BI (hb Γ k X cl EX m c h2).1,JR (hb Γ k X cl EX m c h2).2⟩
  | cons n r'=>exact⟨(hb Γ k X cl EX _ c h2).1,IV (hb Γ k X cl EX _ c h2).2⟩
 refine⟨(Nv (ha Γ k X cl EX l c h1).1 hB.1).imp λσ H Q ⟨ρ,env,h,hE,r,p⟩=>?_,(Nr (ha Γ k X cl EX l c h1).2 hB.2).pt.imp λσ H Q ⟨ρ,env,h,hE,r,p⟩=>?_⟩
 ·simp only[aH] at p
  refine⟨ρ,env,h,hE,r,ao p λv h1 ρ1 x H1 g1 r1 q1 p1=>?_⟩;obtain⟨t,rfl,p2⟩:=post_bool p1;rw[VR] at q1;refine⟨t,q1,?_⟩;cases t with
  | false =>rw[if_neg Bool.false_ne_true] at p2 |-;refine⟨ρ1,env,h1,hE.up g1,r1,ao p2 λw h2 ρ2 y H2 g2 r2 q2 p3=>?_⟩;obtain⟨u,rfl,p4⟩:=post_bool p3;exact aj r2 p4 _ q2
  | true =>rw[if_pos rfl] at p2 |-;exact aj r1 p2 _ VR.bl
 ·simp only[Lb,aH,aR] at p
  refine⟨ρ,env,h,hE,r,nH p λv h1 p1=>?_⟩;obtain⟨t,rfl,p2⟩:=post_bool p1;refine⟨t,rfl,λρ1 H1 g1 r1=>?_⟩;have p2:=Post.up g1 p2;cases t with
  | false =>rw[if_neg Bool.false_ne_true] at p2 |-;simp only[aR,bZ] at p2;refine⟨ρ1,env,h1,hE.up g1,r1,nH p2 λw h2 p3=>?_⟩;obtain⟨u,rfl,p4⟩:=post_bool p3;exact⟨u,rfl,λρ2 H2 g2 r2=>by obtain⟨t',e',w'⟩:=cF r2 (Post.up g2 p4);cases (show some u=some t' from e');exact w'⟩
  | true =>rw[if_pos rfl] at p2 |-;obtain⟨t',e',w'⟩:=cF r1 (show Post _ _ ρ1 H1 _ (ask (λh=>dQ h (.bl true)) h1) from p2);cases (show some true=some t' from e');exact w'
theorem Lk(ha:cB Φ a):cB Φ (.not a):=by
 intro Γ k X cl EX e c h
 (conv at h=>lhs;whnf);split at h<;>first|cases h|skip
 rename_i l pos;refine⟨(JV (ha Γ k X cl EX l c h).1).imp λσ H Q ⟨ρ,env,h,hE,r,p⟩=>?_,(JT (ha Γ k X cl EX l c h).2).imp λσ H Q ⟨ρ,env,h,hE,r,p⟩=>?_⟩
 ·simp only[aH] at p;refine⟨ρ,env,h,hE,r,ao p λv h1 ρ1 x H1 g1 r1 q1 p1=>?_⟩;obtain⟨t,rfl,p2⟩:=post_bool p1;rw[VR] at q1;exact⟨t,q1,aj r1 p2 _ VR.bl⟩
 ·simp only[Lb,aH,aR] at p;refine⟨ρ,env,h,hE,r,nH p λv h1 p1=>?_⟩;obtain⟨t,rfl,p2⟩:=post_bool p1;refine⟨t,rfl,λρ1 H1 g1 r1=>?_⟩;obtain⟨t',e',w'⟩:=cF r1 (show Post _ _ ρ1 H1 _ (ask (λh=>dQ h (.bl (!t))) h1) from Post.up g1 p2);cases (show some (!t)=some t' from e');exact w'
theorem Ll(ht:cB Φ t)(ha:cB Φ a)(hb:cB Φ b):cB Φ (.ite t a b):=qq λ_ _=>rfl
theorem Lm(hs:jW Φ es):cB Φ (.tup es):=by
 intro Γ k X cl EX e c h
 (conv at h=>lhs;whnf);split at h<;>first|cases h|skip
 rename_i ls x1 pos;have q:PE X (.Tuple ls x1 pos) (tV Φ (bd X cl) EX (.tup es)):=by refine(Kl (hs.1 Γ k X cl EX ls c h)).imp λσ H Q aJ=>?_;obtain⟨ρ,env,h,hE,r,p⟩:=aJ;simp only[aH] at p;refine⟨ρ,env,h,hE,r,bB p λvs h1 ρ1 H1 g1 r1 p1 xs q1=>?_⟩;obtain⟨e1,p2⟩:=aM p1;exact⟨by rw[<-q1.length];exact of_decide_eq_true e1,λq hq=>mw r1 hq q1 p2⟩
 exact⟨q,cW q λ_=>rfl⟩
theorem Lo(hs:jW Φ es):cB Φ (.lst es):=by
 intro Γ k X cl EX e c h
 (conv at h=>lhs;whnf);split at h<;>first|cases h|skip
 rename_i ls pos;have q:PE X (.List ls pos) (tV Φ (bd X cl) EX (.lst es)):=by refine(Km (hs.1 Γ k X cl EX ls c h)).imp λσ H Q aJ=>?_;obtain⟨ρ,env,h,hE,r,p⟩:=aJ;simp only[aH] at p;refine⟨ρ,env,h,hE,r,bB p λvs h1 ρ1 H1 g1 r1 p1 xs q1=>?_⟩;obtain⟨e1,p2⟩:=aM p1;exact⟨by rw[<-q1.length];exact of_decide_eq_true e1,λq hq=>cP r1 hq q1 p2⟩
 exact⟨q,cW q λ_=>rfl⟩
theorem Gu:cB Φ .dct0:=by
 intro Γ k X cl EX e c h
 (conv at h=>lhs;whnf);split at h<;>first|cases h|skip
 rename_i pos;have q:PE X (.Dict [] [] pos) (tV Φ (bd X cl) EX .dct0):=by refine(B9 (X:=X) (pos:=pos)).imp λσ H Q aJ=>?_;obtain⟨ρ,env,h,hE,r,p⟩:=aJ;simp only[aH] at p;exact λa ha=>vM (o:=.dct []) (O:=.dK []) r ha ⟨[],aU,(by rw[gz])⟩ p
 exact⟨q,cW q λ_=>rfl⟩
theorem Lp(ha:cB Φ a)(hb:cB Φ b):cB Φ (.idx a b):=by
 intro Γ k X cl EX e c h
 (conv at h=>lhs;whnf);split at h<;>first|cases h|skip
 rename_i l r pos;simp only[and_eq_true] at h;have q:PE X (.Subscript l r pos) (tV Φ (bd X cl) EX (.idx a b)):=by refine(N1 (K1 (cl:=cl) c.units) (ha Γ k X cl EX l c h.1.2).1 (hb Γ k X cl EX r c h.2).1 (yo h.1.1)).imp λσ H Q aJ=>?_;obtain⟨ρ,env,h,hE,r,p⟩:=aJ;simp only[aH] at p;refine⟨ρ,env,h,hE,r,ao p λv h1 ρ1 x H1 g1 r1 q1 p1=>⟨ρ1,env,h1,hE.up g1,r1,ao p1 λw h2 ρ2 y H2 g2 r2 q2 p2=>?_⟩⟩;obtain⟨z,e,w'⟩:=cF r2 p2;exact⟨ρ2,h2,v,w,z,r2,VR.up g2 _ _ q1,q2,e,w'⟩
 exact⟨q,cW q λ_=>rfl⟩
noncomputable def M5(Φ:Fn)(ir:IE)(env:Env):M (Option Int):=if cS ir=true then ret none else bnd (aH Φ ir env) λv=>bnd (bh (iU v)) λi=>ret (some i)
noncomputable def tP(Φ:Fn)(B:Bd)(EX:Nat->List V->Hp->Prop)(ir:IE):TO:=λσ H Q=>∃ρ env h,dw B.K ρ env σ H/\HR B ρ h H/\Post B EX ρ H (λo _ _ H'=>Q o H') (M5 Φ ir env h)
theorem AW{i:Int}(h:iU d=some i):d=.int i:=by cases d<;>cases h;rfl
theorem ur(hi:cB Φ ir)(c:Ctx Φ Γ k X cl EX)(h:(match o with|none=>cS ir|some e=>!cS ir&&bu Γ ir e)=true):PO X o (tP Φ (bd X cl) EX ir):=by
 cases o with
 | none =>refine Fv.imp λσ H Q aJ=>?_;obtain⟨ρ,env,h',hE,r,p⟩:=aJ;unfold M5 at p;rw[if_pos h] at p;exact aj r p
 | some e =>simp only[and_eq_true,not_eq_true'] at h;refine(Fw (hi Γ k X cl EX e c h.2).1).imp λσ H Q aJ=>?_;obtain⟨ρ,env,h',hE,r,p⟩:=aJ;unfold M5 at p;rw[if_neg (by rw[h.1];exact Bool.false_ne_true)] at p;refine⟨ρ,env,h',hE,r,ao p λv h1 ρ1 x H1 g1 r1 q1 p1=>?_⟩;obtain⟨i,e1,p2⟩:=cG p1;cases AW e1;rw[VR] at q1;exact⟨i,q1,aj r1 p2⟩
theorem Lq{a lo hi:IE}(ha:cB Φ a)(hl:cB Φ lo)(hh:cB Φ hi):cB Φ (.slc a lo hi):=by
 intro Γ k X cl EX e c h
 (conv at h=>lhs;whnf);split at h<;>first|cases h|skip
 rename_i l l' h' p2 pos;simp only[and_eq_true] at h;have q:PE X (.Subscript l (.Slice l' h' none p2) pos) (tV Φ (bd X cl) EX (.slc a lo hi)):=by refine(B5 (K2 (cl:=cl) (EX:=EX)) (ha Γ k X cl EX l c h.1.1).1 (ur hl c h.1.2) (ur hh c h.2)).imp λσ H Q aJ=>?_;obtain⟨ρ,env,h,hE,r,p⟩:=aJ;simp only[aH] at p;refine⟨ρ,env,h,hE,r,ao p λv h1 ρ1 x H1 g1 r1 q1 p1=>⟨ρ1,env,h1,hE.up g1,r1,bB (m:=M5 Φ lo env) p1 λlo' h2 ρ2 H2 g2 r2 p3=>⟨ρ2,env,h2,(hE.up g1).up g2,r2,bB (m:=M5 Φ hi env) p3 λhi' h3 ρ3 H3 g3 r3 p4=>?_⟩⟩⟩;exact⟨ρ3,h3,v,r3,VR.up (g2.trans g3) _ _ q1,p4⟩
 exact⟨q,cW q λ_=>rfl⟩
theorem Lr(ha:cB Φ a)(hs:cB Φ sx):cB Φ (.rev a sx):=by
 intro Γ k X cl EX e c h
 (conv at h=>lhs;whnf);split at h<;>first|cases h|skip
 rename_i l st p2 pos;simp only[and_eq_true] at h;obtain⟨⟨h1,h2⟩,h3⟩:=h;obtain⟨st,rfl⟩:=Option.isSome_iff_exists.mp h2;have q:PE X (.Subscript l (.Slice none none (some st) p2) pos) (tV Φ (bd X cl) EX (.rev a sx)):=by refine(KP (ha Γ k X cl EX l c h1).1 (ur hs c h3)).imp λσ H Q aJ=>?_;obtain⟨ρ,env,h,hE,r,p⟩:=aJ;simp only[aH] at p;refine⟨ρ,env,h,hE,r,ao p λv h1 ρ1 x H1 g1 r1 q1 p1=>⟨ρ1,env,h1,hE.up g1,r1,bB (m:=M5 Φ sx env) p1 λlo' h2 ρ2 H2 g2 r2 p3=>?_⟩⟩;obtain⟨e1,p4⟩:=aM p3;obtain⟨xs,e2,p5⟩:=ay p4;obtain⟨ad,ys,rfl,k1,k2⟩:=dY r2 (VR.up g2 _ _ q1) e2;exact⟨of_decide_eq_true e1,ad,ys,rfl,k1,λq hq=>cP r2 hq (az.rev k2) p5⟩
 exact⟨q,cW q λ_=>rfl⟩
theorem iV:∀{eX:oq} {ls:List Expr} {vs:List Val} {h h':Hs},aO Γ eX ls=true->aZ Φ eX env h=.ok vs h'->vs.length=ls.length:=by
 intro eX
 induction eX using oq.rec (motive_1:=λ_=>True) with
 | nil =>
  intro ls ds h h' a b;rw[aO] at a;simp only[aZ,ret] at b;cases b;cases ls with
  | nil=>rfl
  | cons _ _=>cases a
 | cons e es _ ih =>
  intro ls ds h h' a b;rw[aO.eq_def] at a;dsimp only at a;cases ls with
  | nil=>cases a
  | cons l ls =>
   simp only[and_eq_true] at a;simp only[aZ,bnd] at b;cases e1:aH Φ e env h with
   | ok v h1 =>
    rw[e1] at b;dsimp only at b;cases e2:aZ Φ es env h1 with
    | ok vs h2 =>rw[e2] at b;cases b;simp[ih a.2 e2]
    | exc _ _ _=>rw[e2] at b;cases b
    | no=>rw[e2] at b;cases b
   | exc _ _ _=>rw[e1] at b;cases b
   | no=>rw[e1] at b;cases b
 | _=>trivial
theorem eE{α β:Type}{W:β -> Hs->List Addr->Hp->Prop}{W':α -> Hs->List Addr->Hp->Prop}{m:M α}{f:α -> M β}(p:Post B EX ρ H W (bnd m f h))(k:∀v h1 ρ1 H1,m h=.ok v h1->Gr ρ H ρ1 H1->HR B ρ1 h1 H1->Post B EX ρ1 H1 W (f v h1)->W' v h1 ρ1 H1):Post B EX ρ H W' (m h):=by
 unfold bnd at p;cases e:m h with
 | ok v h1=>rw[e] at p;exact λρ1 H1 g r=>k v h1 ρ1 H1 e g r (Post.up g p)
 | exc c vs h1=>rw[e] at p;exact p
 | no=>rw[e] at p;exact p
theorem dZ{α:Type}{h:Hs}{W:α -> Hs->List Addr->Hp->Prop}{o:Out α}(n:∀c xs H,¬ EX c xs H)(p:Post B EX ρ H W o):Post B (λ_ _ _=>False) ρ H W o:=by
 cases o with
 | ok a h'=>exact p
 | exc c vs h'=>exact λρ' H' xs g r q=>n _ _ _ (p ρ' H' xs g r q)
 | no=>exact p
theorem zk{n c:Nat}{φ0:List Val->M Val}(r:HR B ρ h H)(hv:az B.K ρ H vs xs)(hl:vs.length=n)(p:Post B (λ_ _ _=>False) ρ H (WV B.K Q) (Cz c φ0 vs h))
  (nx:H x=none) (nd:H dx=none) (ne:dx≠x):uo B (n+1) φ0 (.ref x::xs) (upd (upd H dx (.own x)) x (.ins (B.cl c) dx [])) (λv H2=>v=.non/\Q (.ref x) H2) E:=by
 have r1:HR B ρ h (upd H dx (.own x)):=r.side nd;have WE:(upd H dx (.own x)) x=none:=by rw[aA λz=>ne z.symm];exact nx
 have g:Gr ρ H (ρ ++ [x]) (upd (upd H dx (.own x)) x (.ins (B.cl c) dx [])):=(Gr.side nd).trans (Gr.new WE);have r2:HR B (ρ ++ [x]) (h++[.ins c []]) (upd (upd H dx (.own x)) x (.ins (B.cl c) dx [])):=r1.new WE ⟨dx,[],aU,rfl⟩;have hx:(ρ ++ [x])[h.length]?=some x:=by rw[<-r.len];simp
 refine⟨ρ ++ [x],h++[.ins c []],.ref h.length::vs,by simp[hl],r2,az.cons (VR.ref hx) (az.up g _ _ hv),?_⟩;have p2:Post B (λ_ _ _=>False) (ρ ++ [x]) (upd (upd H dx (.own x)) x (.ins (B.cl c) dx [])) (WV B.K Q) (bnd (φ0 (.ref h.length::vs)) (λr=>match r with|.non=>ret (.ref h.length)|_=>bh none) (h++[.ins c []])):=Post.up g p;refine bB p2 λv h1 ρ1 H1 g1 r3 p3 y hy=>?_;cases v<;>first|exact p3.elim|skip
 rw[VR] at hy;exact⟨hy,aj r3 p3 _ (VR.ref (o9 g1.pre hx))⟩
theorem Gv{j:Nat}{k:Nat}(hs:jW Φ es)(c:Ctx Φ Γ k X cl EX)
  (h:(yk Γ.sc x && Γ.fns[j]?==some (x,args.length)&&decide (args.length<1000)&&aO Γ es args)=true):PE X (.Call (.Name x p) args [] pos) (tV Φ (bd X cl) EX (.call j es))/\PT X (.Call (.Name x p) args [] pos) (tT Φ (bd X cl) EX (.call j es)):=by
 simp only[and_eq_true,beq_iff_eq,decide_eq_true_eq] at h;obtain⟨⟨⟨h1,h2⟩,h3⟩,h4⟩:=h;obtain⟨g1,g2,g3⟩:=c.gl h1;have room:dP k X.A:=c.room.mono (le_succ k);have q:PE X (.Call (.Name x p) args [] pos) (tV Φ (bd X cl) EX (.call j es)):=by
  rcases c.fns j x _ h2 with ⟨_,⟨f,fd,ps,f1,f2,f3,f4,f5⟩|⟨cc,f,fd,ps,φ0,f0,f1,f2,f3,f4,f5⟩⟩|⟨z,_⟩
  ·cases args with
   | nil =>
    cases es with
    | cons i eX=>rw[aO.eq_def] at h4;cases h4
    | nil =>refine(B0 f5 room g1 f2 f3 f4 .nil pT g2).imp λσ H Q aJ=>?_;obtain⟨ρ,env,h,hE,r,p⟩:=aJ;simp only[aH,aZ,bZ] at p;exact⟨ρ,h,[],rfl,r,az.nil,dZ (h:=h) c.lD p⟩
   | cons l ls =>
    cases es with
    | nil=>rw[aO] at h4;cases h4
    | cons i eX =>have h5:=h4;rw[aO.eq_def] at h5;dsimp only at h5;simp only[and_eq_true] at h5;refine(Fo f5 room g1 f2 f3 f4 .nil pT (hs.1 Γ k X cl EX _ c h4) g2 (aW h5.1.1) (f7 h5.2)).imp λσ H Q aJ=>?_;obtain⟨ρ,env,h,hE,r,p⟩:=aJ;simp only[aH] at p;refine⟨ρ,env,h,hE,r,eE p λvs h1 ρ1 H1 e1 g1 r1 p1 xs q1=>⟨ρ1,h1,vs,iV h4 e1,r1,by rw[append_nil];exact q1,dZ (h:=h1) c.lD p1⟩⟩
  ·cases args with
   | nil =>
    cases es with
    | cons i eX=>rw[aO.eq_def] at h4;cases h4
    | nil =>refine(B3 f3 f5 c.room g1 f2 f4 .nil pT g2).imp λσ H Q aJ=>?_;obtain⟨ρ,env,h,hE,r,p⟩:=aJ;simp only[aH,aZ,bZ] at p;intro y dy ny SK SM;rw[f0] at p;exact zk (B:=bd X cl) r az.nil rfl (dZ (h:=h) c.lD p) ny SK SM
   | cons l ls =>
    cases es with
    | nil=>rw[aO] at h4;cases h4
    | cons i eX =>have h5:=h4;rw[aO.eq_def] at h5;dsimp only at h5;simp only[and_eq_true] at h5;refine(Fp f3 f5 c.room g1 f2 f4 .nil pT (hs.1 Γ k X cl EX _ c h4) g2 (aW h5.1.1) (f7 h5.2)).imp λσ H Q aJ=>?_;obtain⟨ρ,env,h,hE,r,p⟩:=aJ;simp only[aH] at p;refine⟨ρ,env,h,hE,r,eE p λvs h1 ρ1 H1 e1 g1 r1 p1 xs q1 y dy ny SK SM=>?_⟩;rw[f0] at p1;rw[append_nil];exact zk (B:=bd X cl) r1 q1 (iV h4 e1) (dZ (h:=h1) c.lD p1) ny SK SM
  ·omega
 exact⟨q,cW q λ_=>rfl⟩
theorem Gx{j:Nat}{k:Nat}(hs:jW Φ es)(c:Ctx Φ Γ k X cl EX)
  (h:(yk Γ.sc x && Γ.tb.EU.contains (x,m,j)&&(match Γ.fns[j]? with|some (_,n)=>n==1000+args.length|none=>false)&&decide (args.length<29)&&ap.endLine==cp.line&&aO Γ es args && !args.isEmpty)=true) :
  PE X (.Call (.Attribute (.Name x p) m ap) args [] cp) (tV Φ (bd X cl) EX (.call j es))/\PT X (.Call (.Attribute (.Name x p) m ap) args [] cp) (tT Φ (bd X cl) EX (.call j es)):=by
 simp only[and_eq_true,beq_iff_eq,decide_eq_true_eq,contains_iff_mem] at h;obtain⟨⟨⟨⟨⟨⟨h1,h2⟩,h3⟩,h4⟩,h5⟩,h6⟩,h7⟩:=h;obtain⟨g1,g2,g3⟩:=c.gl h1;obtain⟨C,hm,cm⟩:=c.EU _ h2;have hf:∃xx,Γ.fns[j]?=some (xx,1000+args.length):=by
  cases ef:Γ.fns[j]? with
  | none=>rw[ef] at h3;cases h3
  | some q=>rw[ef] at h3;obtain⟨q1,q2⟩:=q;exact⟨q1,by rw[show q2=_ from eq_of_beq h3]⟩
 obtain⟨xx,hf⟩:=hf;have room:dP k X.A:=c.room.mono (le_succ k)
 rcases c.fns j xx _ hf with ⟨z,_⟩|⟨_,fd,ps,f1,f4,f5⟩
 ·omega
 rw[show 1000+args.length-1000=args.length by omega] at f5;have few:((backTo cp (starEach args X.env)).all (λx=>!x.1)&&(backToKw cp (keywordEach [] X.env)).all (λx=>x.1.isSome)
   && decide (args.length+([]:List Keyword).length+(if ([]:List Keyword).isEmpty then 0 else 1)<30))=true:=by
  rw[qo h6];simp only[Bool.true_and,and_eq_true];exact⟨rfl,decide_eq_true (by simp;omega)⟩
 have hl:(ap.endLine==cp.line)=true:=by rw[h5];exact beq_self_eq_true _
 have q:PE X (.Call (.Attribute (.Name x p) m ap) args [] cp) (tV Φ (bd X cl) EX (.call j es)):=by
  cases args with
  | nil=>exact absurd h7 (by simp)
  | cons l ls =>
   cases es with
   | nil=>rw[aO] at h6;cases h6
   | cons i eX =>have h8:=h6;rw[aO.eq_def] at h8;dsimp only at h8;simp only[and_eq_true] at h8;refine(KR (k:=k) f5 room g1 hm cm f4 (hs.1 Γ k X cl EX _ c h6) g2 few hl (aW h8.1.1) (f7 h8.2)).imp λσ H Q aJ=>?_;obtain⟨ρ,env,h,hE,r,p⟩:=aJ;simp only[aH] at p;refine⟨ρ,env,h,hE,r,eE p λvs h1 ρ1 H1 e1 g1 r1 p1 xs q1=>⟨ρ1,h1,vs,iV h6 e1,r1,q1,dZ (h:=h1) c.lD p1⟩⟩
 exact⟨q,cW q λ_=>rfl⟩
theorem Gy{j:Nat}(hs:jW Φ es):cB Φ (.call j es):=by
 intro Γ k X cl EX e c h
 (conv at h=>lhs;whnf);split at h<;>first|cases h|skip
 ·exact Gv hs c h
 ·exact Gx hs c h
theorem Lu{n:Nat}(ha:cB Φ a):cB Φ (.fld n a x):=by
 intro Γ k X cl EX e c h
 (conv at h=>lhs;whnf);split at h<;>first|cases h|skip
 rename_i o y pos;simp only[and_eq_true,beq_iff_eq,contains_iff_mem] at h;obtain⟨⟨⟨⟨h1,h2⟩,h3⟩,h4⟩,h5⟩:=h;subst h1;have q:PE X (.Attribute o x pos) (tV Φ (bd X cl) EX (.fld n a x)):=by
  refine(pe_fld (ha Γ k X cl EX o c h5).1 (super_ok h2)).imp λσ H Q aJ=>?_;obtain⟨ρ,env,h,hE,r,p⟩:=aJ;simp only[aH] at p;refine⟨ρ,env,h,hE,r,ao p λv h1 ρ1 y H1 g1 r1 q1 p1=>?_⟩;obtain⟨z,e1,w⟩:=cF r1 p1;cases v<;>first|(cases e1;done)|(rw[VR] at q1;exact q1.elim)|skip
  rename_i i;rw[VR] at q1;obtain⟨ad,rfl,q1⟩:=q1;have hx:∃c0 fs,h1[i]?=some (.ins c0 fs)/\c0<n/\fs.lookup x=some z:=by
   change (match h1[i]? with|some (.ins c fs)=>if c<n then fs.lookup x else none|_=>none)=some z at e1;split at e1
   ·rename_i c0 fs e2
    split at e1
    ·rename_i hc;exact⟨c0,fs,e2,hc,e1⟩
    ·cases e1
   ·cases e1
  obtain⟨c0,fs,e2,hc,e3⟩:=hx;obtain⟨dx,gs,k1,k2⟩:=r1.ob i _ ad e2 q1;obtain⟨y,l1,l2⟩:=k2.look.2 z e3;obtain⟨cc,nn⟩:=c.cls c0 (by omega);exact⟨ad,cl c0,dx,gs,y,rfl,k1,cc,nn x h4,l1,w y l2⟩
 exact⟨q,cW q λ_=>rfl⟩
theorem vQ:∀{js:List (Nat×Nat)} {c j:Nat},js.lookup c=some j->(c,j)∈js
 | (a,b)::r,c,j,e=>by
  rw[lookup_cons] at e;cases hb:c==a with
  | true=>rw[hb] at e;cases e;rw[eq_of_beq hb];exact mem_cons_self
  | false=>rw[hb] at e;exact mem_cons_of_mem _ (vQ e)
theorem Lv(ha:cB Φ a)(hs:jW Φ es):cB Φ (.mth a m js es):=by
 intro Γ k X cl EX e c h
 (conv at h=>lhs;whnf);split at h<;>first|cases h|skip
 rename_i o x ap args cp;simp only[and_eq_true,beq_iff_eq,all_eq_true,decide_eq_true_eq,contains_iff_mem] at h;obtain⟨⟨⟨⟨⟨⟨h1,h2⟩,h3⟩,h4⟩,h5⟩,h6⟩,h7⟩:=h;subst h1;have few:((backTo cp (starEach args X.env)).all (λx=>!x.1)&&(backToKw cp (keywordEach [] X.env)).all (λx=>x.1.isSome)
   && decide (args.length+([]:List Keyword).length+(if ([]:List Keyword).isEmpty then 0 else 1)<30))=true:=by
  rw[qo h7];simp only[Bool.true_and,and_eq_true];exact⟨rfl,decide_eq_true (by simp;omega)⟩
 have hl:(ap.endLine==cp.line)=true:=by rw[h4];exact beq_self_eq_true _
 have room:dP k X.A:=c.room.mono (le_succ k);have main:∀(σ:L2.St) (H:Hp) (Q:VK) (v:Val) (h1:Hs) (ρ1:List Addr) (y:V) (H1:Hp) (F:Nat->M Val),HR (bd X cl) ρ1 h1 H1->VR X.K ρ1 H1 v y->Post (bd X cl) EX ρ1 H1 (WV X.K Q) (bnd (ask λh=>kR h v x js) F h1) ->
   ∃j i ad c0 dx gs fd ps,v=.ref i/\y=.ref ad/\H1 ad=some (.ins (cl c0) dx gs)/\BA X.K (cl c0)/\Meth X.K (cl c0) x (cl (1000+j))/\gs.lookup x=none/\Binds X.K fd ps [] /\
    fJ X.prog X.w X.K X.mg X.base xA k (cl (1000+j)) fd ps (uo (bd X cl) (1+args.length) (Φ j))/\Post (bd X cl) EX ρ1 H1 (WV X.K Q) (F j h1):=by
  intro σ H Q v h1 ρ1 y H1 F r1 q1 p1;obtain⟨j,e1,p2⟩:=ay p1;cases v<;>first|(cases e1;done)|(rw[VR] at q1;exact q1.elim)|skip
  rename_i i;rw[VR] at q1;obtain⟨ad,rfl,q1⟩:=q1;have hx:∃c0 fs,h1[i]?=some (.ins c0 fs)/\fs.lookup x=none/\js.lookup c0=some j:=by
   change (match h1[i]? with|some (.ins c fs)=>if (fs.lookup x).isNone=true then js.lookup c else none|_=>none)=some j at e1;split at e1
   ·rename_i c0 fs e2
    split at e1
    ·rename_i hc;exact⟨c0,fs,e2,by simpa using hc,e1⟩
    ·cases e1
   ·cases e1
  obtain⟨c0,fs,e2,hn,e3⟩:=hx;obtain⟨dx,gs,k1,k2⟩:=r1.ob i _ ad e2 q1;obtain⟨⟨m1,m2⟩,m3⟩:=h5 _ (vQ e3);dsimp only at m1 m2 m3;have cc:=(c.cls c0 m1).1;have mm:=c.Gn _ m2;dsimp only at mm;have hf:∃xx,Γ.fns[j]?=some (xx,1001+args.length):=by
   cases ef:Γ.fns[j]? with
   | none=>rw[ef] at m3;cases m3
   | some q=>rw[ef] at m3;obtain⟨q1,q2⟩:=q;exact⟨q1,by rw[show q2=_ from eq_of_beq m3]⟩
  obtain⟨xx,hf⟩:=hf
  rcases c.fns j xx _ hf with ⟨z,_⟩|⟨_,fd,ps,f1,f4,f5⟩
  ·omega
  ·rw[show 1001+args.length-1000=1+args.length by omega] at f5;exact⟨j,i,ad,c0,dx,gs,fd,ps,rfl,rfl,k1,cc,mm,k2.look.1 hn,f4,f5,p2⟩
 have q:PE X (.Call (.Attribute o x ap) args [] cp) (tV Φ (bd X cl) EX (.mth a x js es)):=by
  cases args with
  | nil =>
   cases es with
   | cons i eX=>rw[aO.eq_def] at h7;cases h7
   | nil =>refine(pe_mth0 (k:=k) (ha Γ k X cl EX o c h6).1 (super_ok h2) hl room).imp λσ H Q aJ=>?_;obtain⟨ρ,env,h,hE,r,p⟩:=aJ;simp only[aH,aZ,bZ] at p;refine⟨ρ,env,h,hE,r,ao p λv h1 ρ1 y H1 g1 r1 q1 p1=>?_⟩;obtain⟨j,i,ad,c0,dx,gs,fd,ps,rfl,rfl,k1,cc,mm,k2,f4,f5,p2⟩:=main σ H Q v h1 ρ1 y H1 _ r1 q1 p1;exact⟨ad,cl c0,dx,gs,cl (1000+j),fd,ps,_,rfl,k1,cc,mm,k2,f4,f5,ρ1,h1,[.ref i],rfl,r1,az.cons q1 az.nil,dZ (h:=h1) c.lD p2⟩
  | cons l ls =>
   cases es with
   | nil=>rw[aO] at h7;cases h7
   | cons i eX =>have h8:=h7;rw[aO.eq_def] at h8;dsimp only at h8;simp only[and_eq_true] at h8;refine(pe_mthD (k:=k) (ha Γ k X cl EX o c h6).1 (hs.1 Γ k X cl EX _ c h7) (super_ok h2) few hl room (aW h8.1.1) (f7 h8.2)).imp λσ H Q aJ=>?_;obtain⟨ρ,env,h,hE,r,p⟩:=aJ;simp only[aH] at p;refine⟨ρ,env,h,hE,r,ao p λv h1 ρ1 y H1 g1 r1 q1 p1=>?_⟩;obtain⟨j,i,ad,c0,dx,gs,fd,ps,rfl,rfl,k1,cc,mm,k2,f4,f5,p2⟩:=main σ H Q v h1 ρ1 y H1 _ r1 q1 p1;refine⟨ad,cl c0,dx,gs,cl (1000+j),fd,ps,_,rfl,k1,cc,mm,k2,f4,f5,ρ1,env,h1,hE.up g1,r1,eE p2 λvs h2 ρ2 H2 e4 g2 r2 p3 xs q2=>?_⟩;refine⟨ρ2,h2,.ref i::vs,?_,r2,az.cons (VR.up g2 _ _ q1) q2,dZ (h:=h2) c.lD p3⟩;rw[length_cons,iV h7 e4];omega
 exact⟨q,cW q λ_=>rfl⟩
end
end Hv
end
section
namespace Hv
open PySem L2 PyProof.Rows
section
variable {Φ:Fn} {Γ:pe} {k:Nat} {X:Cx} {cl:Nat->Addr} {EX:Nat->List V->Hp->Prop}
theorem Lw:bootBuiltins "all" = some (.builtin "all"):=by decide +kernel
theorem Lx:bootBuiltins "any" = some (.builtin "any"):=by decide +kernel
theorem nI:bootBuiltins "sorted" = some (.builtin "sorted"):=by decide +kernel
theorem Ly:bootBuiltins "min" = some (.builtin "min"):=by decide +kernel
theorem Lz:bootBuiltins "max" = some (.builtin "max"):=by decide +kernel
theorem uu:bootBuiltins "list" = some (.type "list"):=by decide +kernel
theorem vR:bootBuiltins "tuple" = some (.type "tuple"):=by decide +kernel
theorem CI:bootBuiltins "str" = some (.type "str"):=by decide +kernel
theorem CJ:bootBuiltins "int" = some (.type "int"):=by decide +kernel
theorem Gz:bootBuiltins "bool" = some (.type "bool"):=by decide +kernel
theorem GA:bootBuiltins "dict" = some (.type "dict"):=by decide +kernel
theorem GB:bootBuiltins "isinstance" = some (.builtin "isinstance"):=by decide +kernel
theorem vS:aZ Φ (.cons e .nil) env=bnd (aH Φ e env) λd=>ret [d]:=by
 simp only[aZ,bZ]
theorem six{T:String}(h:["list","tuple","str","bool","int","dict"].contains T=true):T = "list" \/ T = "tuple" \/ T = "str" \/ T = "bool" \/ T = "int" \/ T = "dict":=by simpa using h
theorem GC{T:String}(h:["list","tuple","str","bool","int","dict"].contains T=true):(T:Str)∈gQ/\bootBuiltins (T:Str)=some (.type T)/\(T:Str) ≠ "__name__" /\ ((T:Str)==("__debug__":Str))=false:=by
 rcases six h with rfl|rfl|rfl|rfl|rfl|rfl
 ·exact⟨by decide,uu,by decide,by decide⟩
 ·exact⟨by decide,vR,by decide,by decide⟩
 ·exact⟨by decide,CI,by decide,by decide⟩
 ·exact⟨by decide,Gz,by decide,by decide⟩
 ·exact⟨by decide,CJ,by decide,by decide⟩
 ·exact⟨by decide,GA,by decide,by decide⟩
theorem GD{T:String}(hs:jW Φ es):cB Φ (.blt (.isin T) es):=by
 intro Γ k X cl EX e c h
 (conv at h=>lhs;whnf);split at h<;>first|cases h|skip
 rename_i x p args pos;simp only[and_eq_true,beq_iff_eq] at h;obtain⟨⟨h1,h2⟩,h3⟩:=h;subst h2;obtain⟨g1,g2,g3⟩:=c.gl h1;split at h3<;>first|cases h3|skip
 rename_i a y yp;simp only[and_eq_true,beq_iff_eq] at h3;obtain⟨⟨⟨k1,k2⟩,k3⟩,k4⟩:=h3;obtain⟨b1,b2,b3,b4⟩:=GC k3;obtain⟨y1,y2,y3⟩:=c.gl k1;subst k2;cases es with
 | nil=>rw[aO] at k4;cases k4
 | cons i eX =>
  rw[aO.eq_def] at k4;dsimp only at k4;simp only[and_eq_true] at k4;cases eX with
  | cons j eX=>have:=k4.2;rw[aO.eq_def] at this;cases this
  | nil =>
   have q:PE X (.Call (.Name (Oq (.isin T)) p) [a,.Name (T:Str) yp] [] pos) (tV Φ (bd X cl) EX (.blt (.isin T) (.cons i .nil))):=by refine(gJ (Gj (cl:=cl) (EX:=EX) (T:=T)) g1 (c.blt _ (show ("isinstance":Str)∈gQ by decide)) GB (tM (hs.2.1 Γ k X cl EX a c k4.1.2).1 (tM (E4 (v:=.ty T) y1 (c.blt _ b1) b2 rfl b3 b4) BZ) (aW k4.1.1)) g3 g2 (aW k4.1.1)).imp λσ H Q aJ=>?_;obtain⟨ρ,env,h,hE,r,p⟩:=aJ;simp only[aH,vS,aR,bZ] at p;exact⟨ρ,env,h,hE,r,ao p λv h1 ρ1 x H1 g1 r1 q1 p1=>⟨ρ1,h1,v,x,rfl,r1,q1,p1⟩⟩
   exact⟨q,cW q λ_=>rfl⟩
theorem LA:bootBuiltins "set" = some (.type "set"):=by decide +kernel
theorem GF(ha:cB Φ a):cB Φ (.sset a):=by
 intro Γ k X cl EX e c h
 (conv at h=>lhs;whnf);split at h<;>first|cases h|skip
 rename_i x p1 y p2 l pos2 pos1;simp only[and_eq_true,beq_iff_eq] at h;obtain⟨⟨⟨⟨⟨h1,h2⟩,h3⟩,h4⟩,h5⟩,h6⟩:=h;subst h1;subst h2;have q:PE X (.Call (.Name "sorted" p1) [.Call (.Name "set" p2) [l] [] pos2] [] pos1) (tV Φ (bd X cl) EX (.sset a)):=by have qe:=(ha Γ k X cl EX l c h6).1;intro pins s σ H Q I hh;have hd:X.A.handled=none:=I.ok.hd c.calm;refine((FZ hd (c.gl h3).1 (c.blt _ (by decide)) (c.gl h4).1 (c.blt _ (by decide)) nI LA qe (aW (env:=X.env) (es:=[]) h5)).imp λσ H Q ⟨ρ,env,h,hE,r,p⟩=>?_) pins s σ H Q I hh;simp only[aH] at p;refine⟨ρ,env,h,hE,r,ao p λv h1 ρ1 x H1 g1 r1 q1 p1=>?_⟩;obtain⟨zs,e,p1⟩:=ay p1;obtain⟨ns,e1,p1⟩:=cG p1;obtain⟨e2,p1⟩:=aM p1;obtain⟨b,ys,rfl,q2,q3⟩:=dY r1 q1 e;rw[gH e1] at q3;rw[az.ints.mp q3] at q2;exact⟨b,ns,rfl,q2,of_decide_eq_true e2,λl hl=>cP r1 hl (az.ints.mpr rfl) p1⟩
 exact⟨q,cW q λ_=>rfl⟩
theorem GG{d k x:IE}(hd:cB Φ d)(hk:cB Φ k)(hx:cB Φ x):cB Φ (.dget d k x):=by
 intro Γ n X cl EX e c h
 (conv at h=>lhs;whnf);split at h<;>first|cases h|skip
 rename_i o m ap a b cp;simp only[and_eq_true,beq_iff_eq] at h;obtain⟨⟨⟨⟨⟨⟨⟨h1,h2⟩,h3⟩,h4⟩,h5⟩,h6⟩,h7⟩,h8⟩:=h;subst h1;have st:starEach [a,b] X.env=[(false,eval a X.env),(false,eval b X.env)]:=by rw[aW h3,aW h4];rfl
 have m2:M2 X o "get" ap a b cp:=⟨super_ok h2,by rw[st];rfl,by rw[h5];exact beq_self_eq_true _,by rw[st];rfl⟩;have q:PE X (.Call (.Attribute o "get" ap) [a,b] [] cp) (tV Φ (bd X cl) EX (.dget d k x)):=by
  refine(Cb (by have:=c.units;omega) (hd Γ n X cl EX o c h6).1 (hk Γ n X cl EX a c h7).1 (hx Γ n X cl EX b c h8).1 m2).imp λσ H Q aJ=>?_;obtain⟨ρ,env,h,hE,r,p⟩:=aJ;simp only[aH] at p;refine⟨ρ,env,h,hE,r,ao p λv h1 ρ1 y H1 g1 r1 q1 p1=>?_⟩;obtain⟨u0,e1,pA⟩:=ay p1;clear p1;cases v<;>first|(cases e1;done)|(rw[VR] at q1;exact q1.elim)|skip
  rename_i i;rw[VR] at q1;obtain⟨ad,rfl,q1⟩:=q1;have hdc:∃kvs,h1[i]?=some (.dct kvs):=by
   change (match h1[i]? with|some (.dct _)=>some ()|_=>none)=some _ at e1;split at e1
   ·rename_i kvs e2;exact⟨kvs,e2⟩
   ·cases e1
  obtain⟨kvs,e2⟩:=hdc;obtain⟨ks,k1,k2⟩:=r1.ob i _ ad e2 q1;refine⟨ad,rfl,.inl ⟨ks,.inl k1⟩,ρ1,env,h1,hE.up g1,r1,ao pA λw h2 ρ2 y2 H2 g2 r2 q2 p2=>?_⟩;obtain⟨kk,e3,p2⟩:=cG p2;refine⟨ρ2,env,h2,(hE.up g1).up g2,r2,ao p2 λz h3 ρ3 y3 H3 g3 r3 q3 p3=>?_⟩;obtain⟨rr,e4,p3⟩:=ay p3;have q4:ρ3[i]?=some ad:=o9 (g2.trans g3).pre q1;have YD:∃kvs,h3[i]?=some (.dct kvs)/\rr=cy kvs kk:=by
   change (match h3[i]? with|some (.dct kvs)=>some (cy kvs kk)|_=>none)=some rr at e4;split at e4
   ·rename_i kvs e2;cases e4;exact⟨kvs,e2,rfl⟩
   ·cases e4
  obtain⟨SN,e5,rfl⟩:=YD;obtain⟨YE,k3,k4⟩:=r3.ob i _ ad e5 q4;have ek:y2=kV kk:=by
   cases w<;>first|(cases e3;done)|skip
   ·cases e3;rw[VR] at q2;exact q2
   ·cases e3;rw[VR] at q2;exact q2
  refine⟨iE YE kk,by rw[ek];exact kQ.k k3,?_⟩;cases ev:cy SN kk with
  | none =>rw[ev] at p3;rw[(gz.val kk k4).1 ev];exact aj r3 p3 _ q3
  | some z' =>obtain⟨t,e6,q6⟩:=(gz.val kk k4).2 z' ev;rw[ev] at p3;rw[e6];exact aj r3 p3 _ q6
 exact⟨q,cW q λ_=>rfl⟩
theorem zl{K:PySem.W.Frag}{ρ:List Addr}{H:Hp}:∀{kvs:List (Key×Val)} {ks:List (Key×V)},gz K ρ H kvs ks->az K ρ H ((kvs.map (·.1)).map Gf) (ks.map λkv=>kV kv.1)
 | [],ks,q=>by rw[gz] at q;subst q;exact rfl
 | (k,v)::kvs,ks,q=>by
  rw[gz] at q;obtain⟨x,r,rfl,_,q⟩:=q;refine⟨kV k,_,rfl,?_,zl q⟩;cases k with
  | inl i=>exact VR.int
  | inr s=>exact VR.str
theorem AX{oU:Unit}:∀(σ:L2.St) (H:Hp) (Q:VK),tV Φ (bd X cl) EX (.lkeys d) σ H Q->Wx (tV Φ (bd X cl) EX d) σ H Q:=λσ H Q ⟨ρ,env,h,hE,r,p⟩=>by
 simp only[aH] at p;refine⟨ρ,env,h,hE,r,ao p λv h1 ρ1 y H1 g1 r1 q1 p1=>?_⟩;obtain⟨SO,e1,pA⟩:=ay p1;clear p1;cases v<;>first|(cases e1;done)|(rw[VR] at q1;exact q1.elim)|skip
 rename_i i;rw[VR] at q1;obtain⟨ad,rfl,q1⟩:=q1;have hdc:∃kvs,h1[i]?=some (.dct kvs)/\SO=kvs.map (·.1):=by
  change (match h1[i]? with|some (.dct kvs)=>some (kvs.map (·.1))|_=>none)=some _ at e1;split at e1
  ·rename_i kvs e2;cases e1;exact⟨kvs,e2,rfl⟩
  ·cases e1
 obtain⟨kvs,e2,rfl⟩:=hdc;obtain⟨ks,k1,k2⟩:=r1.ob i _ ad e2 q1;exact⟨ad,ks,rfl,k1,λl hl=>cP r1 hl (zl k2) pA⟩
theorem CK(hd:cB Φ d):cB Φ (.lkeys d):=by
 intro Γ n X cl EX e c h
 (conv at h=>lhs;whnf);split at h<;>first|cases h|skip
 ·rename_i x p y qp pos
  simp only[and_eq_true,beq_iff_eq] at h;obtain⟨⟨h1,h3⟩,h6⟩:=h;subst h1;have q:PE X (.Call (.Name "list" p) [.Name y qp] [] pos) (tV Φ (bd X cl) EX (.lkeys d)):=by have qe:=(hd Γ n X cl EX _ c h6).1;intro pins s σ H Q I hh;have hdl:X.A.handled=none:=I.ok.hd c.calm;exact((AL hdl (aW rfl) (c.gl h3).1 (c.blt _ (by decide)) uu qe).imp (AX (oU:=()))) pins s σ H Q I hh
  exact⟨q,cW q λ_=>rfl⟩
theorem GH{d k x:IE}(hd:cB Φ d)(hk:cB Φ k)(hx:cB Φ x):cB Φ (.sdef d k x):=qq λ_ _=>rfl
theorem zm{K:PySem.W.Frag}{ρ:List Addr}{H:Hp}:∀{kvs:List (Key×Val)} {ks:List (Key×V)},gz K ρ H kvs ks->ks.map (·.1)=kvs.map (·.1)
 | [],ks,q=>by rw[gz] at q;subst q;rfl
 | (k,v)::kvs,ks,q=>by
  rw[gz] at q;obtain⟨x,r,rfl,_,q⟩:=q;rw[map_cons,map_cons,zm q]
theorem zo:∀{ks:List Key} {ns:List Int},sH ks=some ns->ks=ns.map Sum.inl
 | [],ns,e=>by cases e;rfl
 | k::ks,ns,e=>by
  unfold sH at e;rw[ck] at e;obtain⟨i,e1,e⟩:=bind_eq_some_iff.mp e;obtain⟨r,e2,e⟩:=bind_eq_some_iff.mp e;cases e;cases k with
  | inl j=>cases e1;rw[zo e2];rfl
  | inr _=>cases e1
theorem AY{oU:Unit}:∀(σ:L2.St) (H:Hp) (Q:VK),tV Φ (bd X cl) EX (.skeys d) σ H Q->Wz (tV Φ (bd X cl) EX d) σ H Q:=λσ H Q ⟨ρ,env,h,hE,r,p⟩=>by
 simp only[aH] at p;refine⟨ρ,env,h,hE,r,ao p λv h1 ρ1 y H1 g1 r1 q1 p1=>?_⟩;obtain⟨ns0,e1,pA⟩:=ay p1;clear p1;unfold uh at e1;obtain⟨SO,e5,e6⟩:=bind_eq_some_iff.mp e1;clear e1;obtain⟨ns,e3,e4⟩:=bind_eq_some_iff.mp e6;clear e6;have e1:=e5;clear e5;cases v<;>first|(cases e1;done)|(rw[VR] at q1;exact q1.elim)|skip
 rename_i i;rw[VR] at q1;obtain⟨ad,rfl,q1⟩:=q1;have hdc:∃kvs,h1[i]?=some (.dct kvs)/\SO=kvs.map (·.1):=by
  change (match h1[i]? with|some (.dct kvs)=>some (kvs.map (·.1))|_=>none)=some _ at e1;split at e1
  ·rename_i kvs e2;cases e1;exact⟨kvs,e2,rfl⟩
  ·cases e1
 obtain⟨kvs,e2,rfl⟩:=hdc;obtain⟨ks,k1,k2⟩:=r1.ob i _ ad e2 q1
 by_cases hl:ns.length<64
 ·rw[if_pos hl] at e4;cases e4;exact⟨ad,ks,ns,rfl,k1,(zm k2).trans (zo e3),hl,λl hl=>cP r1 hl (az.ints.mpr rfl) pA⟩
 ·rw[if_neg hl] at e4;cases e4
theorem CL(hd:cB Φ d):cB Φ (.skeys d):=by
 intro Γ n X cl EX e c h
 (conv at h=>lhs;whnf);split at h<;>first|cases h|skip
 ·rename_i x p y qp pos
  simp only[and_eq_true,beq_iff_eq] at h;obtain⟨⟨h1,h3⟩,h6⟩:=h;subst h1;have q:PE X (.Call (.Name "sorted" p) [.Name y qp] [] pos) (tV Φ (bd X cl) EX (.skeys d)):=by have qe:=(hd Γ n X cl EX _ c h6).1;intro pins s σ H Q I hh;have hdl:X.A.handled=none:=I.ok.hd c.calm;exact((AM hdl (aW rfl) (c.gl h3).1 (c.blt _ (by decide)) nI qe).imp (AY (oU:=()))) pins s σ H Q I hh
  exact⟨q,cW q λ_=>rfl⟩
theorem CM(hd:cB Φ d):cB Φ (.svals d):=qq λ_ _=>rfl
theorem LB(hs:jW Φ es):cB Φ (.blt b es):=by
 cases b with
 | isin T=>exact GD hs
 | _ =>
  intro Γ k X cl EX e c h
  (conv at h=>lhs;whnf);split at h<;>first|cases h|skip
  rename_i x p args pos;simp only[and_eq_true,beq_iff_eq] at h;obtain⟨⟨h1,h2⟩,h3⟩:=h;subst h2;obtain⟨g1,g2,g3⟩:=c.gl h1;cases args with
  | nil=>cases h3.1
  | cons l ls =>
   cases es with
   | nil=>have:=h3.2;rw[aO] at this;cases this
   | cons i eX =>
    have h5:=h3.2;rw[aO.eq_def] at h5;dsimp only at h5;simp only[and_eq_true] at h5;have hA:=hs.1 Γ k X cl EX _ c h3.2;have st:=aW (env:=X.env) (es:=ls) h5.1.1;have an:=f7 (pos:=pos) (env:=X.env) h5.2;refine(λq=>⟨q,cW q λ_=>rfl⟩) ?_
    first
     | refine(gJ (K3 (cl:=cl) (EX:=EX)) g1 (c.blt _ (by decide)) PySem.boot_len hA g3 g2 st an).imp λσ H Q ⟨ρ,env,h,hE,r,p⟩=>?_
     | refine(gJ (K4 (cl:=cl) (EX:=EX) c.calm) g1 (c.blt _ (by decide)) Ly hA g3 g2 st an).imp λσ H Q ⟨ρ,env,h,hE,r,p⟩=>?_
     | refine(gJ (K5 (cl:=cl) (EX:=EX) c.calm) g1 (c.blt _ (by decide)) Lz hA g3 g2 st an).imp λσ H Q ⟨ρ,env,h,hE,r,p⟩=>?_
     | refine(gJ (AR (cl:=cl) (EX:=EX)) g1 (c.blt _ (by decide)) nI hA g3 g2 st an).imp λσ H Q ⟨ρ,env,h,hE,r,p⟩=>?_
     | refine(gJ (K8 (cl:=cl) (EX:=EX) c.calm) g1 (c.blt _ (by decide)) Lw hA g3 g2 st an).imp λσ H Q ⟨ρ,env,h,hE,r,p⟩=>?_
     | refine(gJ (K9 (cl:=cl) (EX:=EX) c.calm) g1 (c.blt _ (by decide)) Lx hA g3 g2 st an).imp λσ H Q ⟨ρ,env,h,hE,r,p⟩=>?_
     | refine(kD (Gh (cl:=cl) (EX:=EX)) g1 (c.blt _ (by decide)) uu hA g3 g2 st an).imp λσ H Q ⟨ρ,env,h,hE,r,p⟩=>?_
     | refine(kD (CF (cl:=cl) (EX:=EX)) g1 (c.blt _ (by decide)) vR hA g3 g2 st an).imp λσ H Q ⟨ρ,env,h,hE,r,p⟩=>?_
     | refine(kD (K6 (cl:=cl) (EX:=EX)) g1 (c.blt _ (by decide)) CI hA g3 g2 st an).imp λσ H Q ⟨ρ,env,h,hE,r,p⟩=>?_
     | refine(kD (K7 (cl:=cl) (EX:=EX)) g1 (c.blt _ (by decide)) CJ hA g3 g2 st an).imp λσ H Q ⟨ρ,env,h,hE,r,p⟩=>?_
    simp only[aH] at p;exact⟨ρ,env,h,hE,r,bB p λvs h1 ρ1 H1 g1 r1 p1 xs q1=>⟨ρ1,h1,vs,r1,q1,p1⟩⟩
noncomputable def WG:Me->String
 | .join=>"str" | .append=>"list" | .extend=>"list"
theorem GI(r:HR B ρ h H)(q:VR B.K ρ H v x)(e:recv h m v=some ()):Sb B.K (WG m) x H:=by
 cases m<;>cases v<;>simp only[recv] at e<;>first|cases e|skip
 ·rw[VR] at q;subst q;rfl
 ·split at e
  ·rename_i xs e1;obtain⟨a,ys,rfl,q0,q1,q2⟩:=kH r q e1;exact .inl ⟨rfl,ys,.inl (.inl q1)⟩
  ·cases e
 ·split at e
  ·rename_i xs e1;obtain⟨a,ys,rfl,q0,q1,q2⟩:=kH r q e1;exact .inl ⟨rfl,ys,.inl (.inl q1)⟩
  ·cases e
theorem LC(ha:cB Φ a)(hs:jW Φ es):cB Φ (.met m a es):=by
 intro Γ k X cl EX e c h
 (conv at h=>lhs;whnf);split at h<;>first|cases h|skip
 rename_i o x ap args cp;simp only[and_eq_true,beq_iff_eq] at h;obtain⟨⟨⟨⟨⟨⟨h1,h2⟩,h3⟩,h4⟩,h5⟩,h6⟩,h7⟩:=h;subst h1;cases args with
 | nil=>cases h3
 | cons l ls =>
  have hA:=hs.1 Γ k X cl EX _ c h7;have h8:noStar l=true/\∃eX,aO Γ eX ls=true:=by
   cases es with
   | nil=>rw[aO] at h7;cases h7
   | cons i eX=>rw[aO.eq_def] at h7;dsimp only at h7;simp only[and_eq_true] at h7;exact⟨h7.1.1,eX,h7.2⟩
  obtain⟨n1,eX,n2⟩:=h8;have st:=aW (env:=X.env) (es:=ls) n1;have an:=f7 (pos:=cp) (env:=X.env) n2;have few:((backTo cp (starEach (l::ls) X.env)).all (λx=>!x.1)&&(backToKw cp (keywordEach [] X.env)).all (λx=>x.1.isSome)
   && decide ((l::ls).length+([]:List Keyword).length+(if ([]:List Keyword).isEmpty then 0 else 1)<30))=true:=by
   rw[qo h7];have:(l::ls).length<29:=of_decide_eq_true h4;simp only[Bool.true_and,and_eq_true];exact⟨rfl,decide_eq_true (by simp at this |-;omega)⟩
  have hl:(ap.endLine==cp.line)=true:=by rw[h5];exact beq_self_eq_true _
  refine(λq=>⟨q,cW q λ_=>rfl⟩) ?_;have fin:∀(T:String) (r:V->List V->Hp->VK->Prop),(∀x xs H Q,Rc (bd X cl) EX m x xs H Q->r x xs H Q)->T=WG m->∀σ H Q,tV Φ (bd X cl) EX (.met m a es) σ H Q->Wi X.K T r (tV Φ (bd X cl) EX a) (WD Φ (bd X cl) EX es) σ H Q:=by rintro T rr hr rfl σ H Q ⟨ρ,env,h,hE,r,p⟩;simp only[aH] at p;refine⟨ρ,env,h,hE,r,ao p λv h1 ρ1 x H1 g1 r1 q1 p1=>?_⟩;obtain⟨_,e1,p2⟩:=ay p1;refine⟨GI r1 q1 e1,ρ1,env,h1,hE.up g1,r1,bB p2 λvs h2 ρ2 H2 g2 r2 p3 xs q2=>hr _ _ _ _ ⟨ρ2,h2,v,vs,r2,VR.up g2 _ _ q1,q2,p3⟩⟩
  cases m with
  | join=>exact(B6 PySem.F.plainAttrs_str PySem.F.slot_str_join PySem.F.type_str_join (Gk (cl:=cl) (EX:=EX)) (ha Γ k X cl EX o c h6).1 hA (super_ok h2) few hl st an).imp (fin _ _ (λ_ _ _ _ z=>z) rfl)
  | append=>exact(B6 PySem.F.plainAttrs_list PySem.F.slot_list_append PySem.F.type_list_append (AS (cl:=cl) (EX:=EX)) (ha Γ k X cl EX o c h6).1 hA (super_ok h2) few hl st an).imp (fin _ _ (λ_ _ _ _ z=>z) rfl)
  | extend=>exact(B6 PySem.F.plainAttrs_list PySem.F.slot_list_extend PySem.F.type_list_extend (AU (cl:=cl) (EX:=EX)) (ha Γ k X cl EX o c h6).1 hA (super_ok h2) few hl st an).imp (fin _ _ (λ_ _ _ _ z=>z) rfl)
end
end Hv
end
section
namespace Hv
open PySem L2 PyProof.Rows
theorem _root_.L2.PI.or(h:PI X tg iter t)(h':PI X tg iter t'):PI X tg iter (λσ H R=>t σ H R\/t' σ H R):=λpins s σ H R I hw=>hw.elim (h pins s σ H R I) (h' pins s σ H R I)
structure Walks (B:Bd) (src:Src) (J:It) (ρ1:List Addr) (H1:Hp):Prop where
 stop:∀{ρ h H i xs},Gw ρ1 H1 ρ H->HR B ρ h H->src.items h=some xs->xs.length<=i->J.stop i H
 go:∀{ρ h H i xs v},Gw ρ1 H1 ρ H->HR B ρ h H->src.items h=some xs->xs[i]?=some v->J.go i H
 xH:∀{ρ h H i xs v y H'},Gw ρ1 H1 ρ H->HR B ρ h H->src.items h=some xs->xs[i]?=some v->J.xH i H y H'->Gr ρ H ρ H'/\HR B ρ h H'/\VR B.K ρ H' v y
section
variable {B:Bd} {ρ1:List Addr} {H1:Hp} {a:Addr}
theorem AZ(q:jv B.K H1 a xs)(e:az B.K ρ1 H1 vs xs):Walks B (.fix vs) (RS B.K a) ρ1 H1 where
 stop:=λg r hi hl=>by
  cases hi;exact⟨xs,g.Ra q,by rw[<-e.length];exact hl⟩
 go:=λg r hi hv=>by
  cases hi;obtain⟨x,k1,_⟩:=e.get hv;exact⟨xs,x,g.Ra q,k1⟩
 xH:=λg r hi hv y=>by
  cases hi;obtain⟨rfl,y⟩:=y;obtain⟨x,k1,k2⟩:=e.get hv;have:=y xs (g.Ra q);rw[k1] at this;cases this;exact⟨Gr.refl,r,VR.kT g _ _ k2⟩
theorem CN(q:IP B.K H1 a xs)(e:az B.K ρ1 H1 vs xs):Walks B (.fix vs) (QO B.K a) ρ1 H1 where
 stop:=λg r hi hl=>by
  cases hi;exact⟨xs,(g.KW q).sq,by rw[<-e.length];exact hl⟩
 go:=λg r hi hv=>by
  cases hi;obtain⟨x,k1,_⟩:=e.get hv;exact⟨xs,x,(g.KW q).sq,k1⟩
 xH:=λg r hi hv y=>by
  cases hi;obtain⟨rfl,y⟩:=y;obtain⟨x,k1,k2⟩:=e.get hv;have:=y xs (g.KW q).sq;rw[k1] at this;cases this;exact⟨Gr.refl,r,VR.kT g _ _ k2⟩
theorem kI{i:Nat}(q:ρ1[i]?=some a)(g:Gw ρ1 H1 ρ H)(r:HR B ρ h H)(hi:(Src.live i).items h=some xs):∃ys,gI B.K H a ys/\az B.K ρ H xs ys:=by
 obtain⟨b,ys,e,k1,k2⟩:=dY r (VR.ref (o9 g.pre q)) (show aB h (.ref i)=some xs from hi);cases e;exact⟨ys,k1,k2⟩
theorem yq{i:Nat}(q:ρ1[i]?=some a):Walks B (.live i) (QO B.K a) ρ1 H1 where
 stop:=λg r hi hl=>by
  obtain⟨ys,k1,k2⟩:=kI q g r hi;exact⟨ys,k1,by rw[<-k2.length];exact hl⟩
 go:=λg r hi hv=>by
  obtain⟨ys,k1,k2⟩:=kI q g r hi;obtain⟨x,k3,_⟩:=k2.get hv;exact⟨ys,x,k1,k3⟩
 xH:=λg r hi hv y=>by
  obtain⟨ys,k1,k2⟩:=kI q g r hi;obtain⟨rfl,y⟩:=y;obtain⟨x,k3,k4⟩:=k2.get hv;have:=y ys k1;rw[k3] at this;cases this;exact⟨Gr.refl,r,k4⟩
theorem iH(lo:Int)(n:Nat):(cE lo n).length=n:=by unfold cE;simp
theorem oz{lo:Int}{n:Nat}:Walks B (.fix (cE lo n)) (NI lo n) ρ1 H1 where
 stop:=λg r hi hl=>by
  cases hi;rw[iH] at hl;exact hl
 go:=λg r hi hv=>by
  cases hi;have:=(List.getElem?_eq_some_iff.mp hv).1;rw[iH] at this;exact this
 xH:=λ{ρ h H i xs v y H'} g r hi hv y'=>by
  cases hi;obtain⟨rfl,rfl⟩:=y';have hl:=(List.getElem?_eq_some_iff.mp hv).1;rw[iH] at hl;have e:(cE lo n)[i]?=some (.int (lo+i)):=by unfold cE;simp[hl]
  rw[e] at hv;cases hv;exact⟨Gr.refl,r,VR.int⟩
theorem gA:∀(i:Nat) (ds:List Val),(cV i ds).length=ds.length
 | _,[]=>rfl
 | i,d::r=>by simp[cV,gA (i+1) r]
theorem sL:∀(k:Nat) (ds:List Val) (i:Nat) (d:Val),ds[i]?=some d->(cV k ds)[i]?=some (.tup [.int ((k+i:Nat):Int),d])
 | _,[],_,_,h=>by simp at h
 | k,e::r,0,d,h=>by simp at h;subst h;simp[cV]
 | k,e::r,i+1,d,h=>by
  have:=sL (k+1) r i d (by simpa using h);simp only[cV,getElem?_cons_succ];rw[this];have e1:k+1+i=k+(i+1):=by omega
  rw[e1]
theorem nJ{i:Nat}(e:(cV 0 ds)[i]?=some v):∃d,ds[i]?=some d/\v=.tup [.int (i:Int),d]:=by
 have hl:=(List.getElem?_eq_some_iff.mp e).1;rw[gA] at hl;have e1:=sL 0 ds i ds[i] (List.getElem?_eq_getElem hl);rw[e] at e1;cases e1;exact⟨ds[i],List.getElem?_eq_getElem hl,by rw[Nat.zero_add]⟩
theorem vU{i:Nat}(r:HR B ρ h H)(k1:gI B.K H a ys)(k2:az B.K ρ H xs ys)(hv:(cV 0 xs)[i]?=some v)(hy:(Oc B.K a).xH i H y H'):Gr ρ H ρ H'/\HR B ρ h H'/\VR B.K ρ H' v y:=by
 obtain⟨p,w,hn,rfl,rfl,hy⟩:=hy;obtain⟨d,e1,rfl⟩:=nJ hv;obtain⟨x,k3,k4⟩:=k2.get e1;have:=hy ys k1;rw[k3] at this;cases this;exact⟨Gr.side hn,r.side hn,VR.tup (jv.of aU) (az.cons VR.int (az.cons (VR.up (Gr.side hn) _ _ k4) az.nil))⟩
theorem vV(q:IP B.K H1 a xs)(e:az B.K ρ1 H1 vs xs):Walks B (.fix (cV 0 vs)) (Oc B.K a) ρ1 H1 where
 stop:=λg r hi hl=>by
  cases hi;rw[gA] at hl;exact⟨xs,(g.KW q).sq,by rw[<-e.length];exact hl⟩
 go:=λg r hi hv=>by
  cases hi;obtain⟨d,e1,_⟩:=nJ hv;obtain⟨x,k1,_⟩:=e.get e1;exact⟨xs,x,(g.KW q).sq,k1⟩
 xH:=λg r hi hv y=>by
  cases hi;exact vU r (g.KW q).sq (az.kT g _ _ e) hv y
theorem vW{i:Nat}(q:ρ1[i]?=some a):Walks B (.enum i) (Oc B.K a) ρ1 H1 where
 stop:=λg r hi hl=>by
  obtain⟨zs,e1,rfl⟩:=map_eq_some_iff.mp hi;obtain⟨ys,k1,k2⟩:=kI q g r e1;rw[gA] at hl;exact⟨ys,k1,by rw[<-k2.length];exact hl⟩
 go:=λg r hi hv=>by
  obtain⟨zs,e1,rfl⟩:=map_eq_some_iff.mp hi;obtain⟨ys,k1,k2⟩:=kI q g r e1;obtain⟨d,e2,_⟩:=nJ hv;obtain⟨x,k3,_⟩:=k2.get e2;exact⟨ys,x,k1,k3⟩
 xH:=λg r hi hv y=>by
  obtain⟨zs,e1,rfl⟩:=map_eq_some_iff.mp hi;obtain⟨ys,k1,k2⟩:=kI q g r e1;exact vU r k1 k2 hv y
end
section
variable {Φ:Fn} {Γ:pe} {k:Nat} {X:Cx} {cl:Nat->Addr} {EX:Nat->List V->Hp->Prop}
noncomputable def M6(Φ:Fn)(ik:Ik)(it:oq)(env:Env):M Src:=bnd (aZ Φ it env) λits=>bh (srcOf ik its)
noncomputable def tI(Φ:Fn)(B:Bd)(EX:Nat->List V->Hp->Prop)(ik:Ik)(it:oq):TI:=λσ H R=>∃ρ env h,dw B.K ρ env σ H/\HR B ρ h H /\
 Post B EX ρ H (λsrc h' ρ' H'=>(∃xs,src.items h'=some xs)/\∀J,Walks B src J ρ' H'->R J H') (M6 Φ ik it env h)
theorem IW(hs:jW Φ it)(c:Ctx Φ Γ k X cl EX)(h:zh Γ ik it iter=true)(ht:ik=.enum\/ik=.zip->∃es kk pos,tg=.Tuple es kk pos):PI X tg iter (tI Φ (bd X cl) EX ik it)/\∀x,foldedSetIterable iter X.env x=pure x:=by
 cases it with
 | nil=>rw[zh] at h;cases h
 | cons e es =>
  (conv at h=>lhs;whnf)
  cases ik with
  | seq =>
   dsimp only at h;split at h<;>first|cases h|skip
   rename_i hs';simp only[and_eq_true] at h;have q:=(hs.2.1 Γ k X cl EX iter c h.2).1;refine⟨((Fd q).or (J3 q)).imp λσ H R ⟨ρ,env,h,hE,r,p⟩=>?_,λx=>?_⟩
   ·simp only[M6,vS,aR,bZ] at p
    have key:∀(Q:VK),(∀v h1 ρ1 x H1,aH Φ e env h=.ok v h1->Gr ρ H ρ1 H1->HR (bd X cl) ρ1 h1 H1->VR X.K ρ1 H1 v x->Post (bd X cl) EX ρ1 H1 (λsrc h' ρ' H'=>(∃xs,src.items h'=some xs)/\∀J,Walks (bd X cl) src J ρ' H'->R J H') (bh (srcOf .seq [v]) h1)->Q x H1)->tV Φ (bd X cl) EX e σ H Q:=λQ kk =>
     ⟨ρ,env,h,hE,r,eE p λv h1 ρ1 H1 e1 g1 r1 p1 x q1=>kk v h1 ρ1 x H1 e1 g1 r1 q1 p1⟩
    cases ev:aH Φ e env h with
    | ok v h1 =>
     cases v with
     | tup vs =>refine .inr (key _ λv h1 ρ1 x H1 e1 g1 r1 q1 p1=>?_);rw[ev] at e1;cases e1;obtain⟨src,e2,w1,w2⟩:=cO r1 p1;cases e2;rw[VR] at q1;obtain⟨a,xs,rfl,k1,k2⟩:=q1;exact⟨a,rfl,⟨xs,k1⟩,w2 _ (AZ k1 k2)⟩
     | rl vs =>refine .inl (key _ λv h1 ρ1 x H1 e1 g1 r1 q1 p1=>?_);rw[ev] at e1;cases e1;obtain⟨src,e2,w1,w2⟩:=cO r1 p1;cases e2;rw[VR] at q1;obtain⟨a,xs,rfl,k1,k2⟩:=q1;exact⟨a,rfl,⟨xs,k1.sq⟩,w2 _ (CN k1 k2)⟩
     | ref i =>refine .inl (key _ λv h1 ρ1 x H1 e1 g1 r1 q1 p1=>?_);rw[ev] at e1;cases e1;obtain⟨src,e2,⟨zs,w1⟩,w2⟩:=cO r1 p1;cases e2;have q0:=q1;rw[VR] at q1;obtain⟨a,rfl,k1⟩:=q1;obtain⟨b,ys,e3,k2,k3⟩:=dY r1 q0 (show aB h1 (.ref i)=some zs from w1);cases e3;exact⟨a,rfl,⟨ys,k2⟩,w2 _ (yq k1)⟩
     | _ =>refine .inl (key _ λv h1 ρ1 x H1 e1 g1 r1 q1 p1=>?_);rw[ev] at e1;cases e1;obtain⟨src,e2,_⟩:=cO r1 p1;cases e2
    | exc _ _ _=>exact .inl (key _ λv h1 ρ1 x H1 e1=>by rw[ev] at e1;cases e1)
    | no=>exact .inl (key _ λv h1 ρ1 x H1 e1=>by rw[ev] at e1;cases e1)
   ·cases iter<;>first|rfl|(exact absurd h.1 Bool.false_ne_true)
  | range =>
   dsimp only at h;split at h<;>first|cases h|skip
   rename_i x xp a args pos;simp only[and_eq_true,beq_iff_eq] at h;obtain⟨⟨⟨⟨⟨h1,h2⟩,h3⟩,h4⟩,h5⟩,h6⟩:=h;subst h1;obtain⟨g1,g2,g3⟩:=c.gl h2;have hm:=c.blt _ (show ("range":Str)∈gQ by decide);refine⟨?_,λx=>rfl⟩;have hA:=hs.1 Γ k X cl EX (a::args) c (by rw[aO.eq_def];simp[h3,h4,h5]);cases args with
   | nil =>
    cases es with
    | cons i eX=>rw[aO.eq_def] at h5;cases h5
    | nil =>
     refine(Ag g1 hm hA (aW h3)).imp λσ H R aJ=>?_;obtain⟨ρ,env,h,hE,r,p⟩:=aJ;refine⟨ρ,env,h,hE,r,eE p λvs h1 ρ1 H1 e1 WH r1 p1 xs q1=>?_⟩;obtain⟨src,e2,w1,w2⟩:=cO r1 p1
     match vs,e2 with
     | [.int n],e2 =>
      change (if inR n=true then some (Src.fix (cE 0 n.toNat)) else none)=some src at e2;split at e2
      ·rename_i hn;cases e2;simp only[inR,and_eq_true,decide_eq_true_eq] at hn;obtain⟨x,rfl,hx⟩:=az.one q1;rw[VR] at hx;subst hx;exact⟨n,rfl,hn.1,hn.2,w2 _ oz⟩
      ·cases e2
     | [.int _,.int _],e2=>have:=iV (Γ:=Γ) (ls:=[a]) (by rw[aO.eq_def];simp[h3,h4,aO]) e1;simp at this
   | cons b args =>
    cases args with
    | cons _ _=>have:=of_decide_eq_true h6;simp only[length_cons] at this;omega
    | nil =>
     have hb:noStar b=true:=by
      cases es with
      | nil=>rw[aO] at h5;cases h5
      | cons i eX=>rw[aO.eq_def] at h5;dsimp only at h5;simp only[and_eq_true] at h5;exact h5.1.1
     refine(Ah g1 hm hA (by rw[aW h3,aW hb];rfl) (by rw[aW hb];rfl)).imp λσ H R aJ=>?_;obtain⟨ρ,env,h,hE,r,p⟩:=aJ;refine⟨ρ,env,h,hE,r,eE p λvs h1 ρ1 H1 e1 WH r1 p1 xs q1=>?_⟩;obtain⟨src,e2,w1,w2⟩:=cO r1 p1
     match vs,e2 with
     | [.int _],e2=>have:=iV (Γ:=Γ) (ls:=[a,b]) (by rw[aO.eq_def];simp[h3,h4,h5]) e1;simp at this
     | [.int lo,.int hi],e2 =>
      change (if (inR lo&&inR hi)=true then some (Src.fix (cE lo (hi-lo).toNat)) else none)=some src at e2;split at e2
      ·rename_i hn;cases e2;simp only[inR,and_eq_true,decide_eq_true_eq] at hn;obtain⟨x,y,rfl,hx,hy⟩:=az.two q1;rw[VR] at hx;rw[VR] at hy;subst hx;subst hy;exact⟨lo,hi,rfl,⟨hn.1.1,hn.1.2,hn.2.1,hn.2.2⟩,w2 _ oz⟩
      ·cases e2
  | enum =>
   dsimp only at h;split at h<;>first|cases h|skip
   rename_i x xp a pos;simp only[and_eq_true,beq_iff_eq] at h;obtain⟨⟨⟨h1,h2⟩,h3⟩,h4⟩:=h;subst h1;obtain⟨g1,g2,g3⟩:=c.gl h2;have hm:=c.blt _ (show ("enumerate":Str)∈gQ by decide);obtain⟨tes,tk,tp,rfl⟩:=ht (.inl rfl);refine⟨?_,λx=>rfl⟩;have hA:=hs.1 Γ k X cl EX [a] c (by rw[aO.eq_def];simp[h3,h4,aO]);refine(FT g1 hm hA (aW h3)).imp λσ H R aJ=>?_;obtain⟨ρ,env,h,hE,r,p⟩:=aJ;refine⟨ρ,env,h,hE,r,eE p λvs h1 ρ1 H1 e1 WH r1 p1 xs q1=>?_⟩;obtain⟨src,e2,⟨zs,w1⟩,w2⟩:=cO r1 p1
   match vs,e2 with
   | [.rl ws],e2 =>cases e2;obtain⟨x,rfl,hx⟩:=az.one q1;rw[VR] at hx;obtain⟨b,ys,rfl,k1,k2⟩:=hx;exact⟨b,rfl,⟨ys,k1.sq⟩,w2 _ (vV k1 k2)⟩
   | [.ref i],e2 =>cases e2;obtain⟨x,rfl,hx⟩:=az.one q1;obtain⟨us,w3,_⟩:=map_eq_some_iff.mp w1;obtain⟨b,ys,rfl,k2,k3⟩:=dY r1 hx w3;rw[VR] at hx;obtain⟨b',e3,k1⟩:=hx;cases e3;exact⟨b,rfl,⟨ys,k2⟩,w2 _ (vW k1)⟩
  | zip=>cases h
end
end Hv
end
section
namespace Hv
open PySem L2 PyProof.Rows
section
variable {Φ:Fn} {Γ:pe} {k:Nat} {X:Cx} {cl:Nat->Addr} {EX:Nat->List V->Hp->Prop}
noncomputable def qt:List Nat->MY
 | []=>ND
 | i::is=>Iv (rP i) (qt is)
noncomputable def A8(K:PySem.W.Frag):za->TG
 | .one i=>rP i
 | .tup is=>NG K is.length (qt is)
noncomputable def iI:List Nat->List V->L2.St->L2.St
 | i::is,v::vs,σ=>iI is vs (σ.set i (some v))
 | _,_,σ=>σ
theorem nK:∀{is:List Nat} {vs:List V} {σ:L2.St} {H:Hp} {Q:L2.St->Hp->Prop},vs.length=is.length->Q (iI is vs σ) H->qt is vs σ H Q
 | [],[],_,_,_,_,h=>⟨rfl,h⟩
 | i::is,v::vs,σ,H,Q,hl,h=>⟨v,vs,rfl,nK (by simpa using hl) h⟩
theorem sM(hnd:X.N.Nodup):∀{is:List Nat} {es:List Expr},es.length=is.length->(∀p∈is.zip es,∃x pos,p.2=.Name x pos/\X.N[p.1]?=some x/\X.env.scope.names.lookup x=some .local)->MZ X es (qt is)
 | [],[],_,_=>yP
 | i::is,e::es,hl,h=>by
  obtain⟨x,pos,rfl,h1,h2⟩:=h (i,e) (by simp);exact u5 (o6 hnd h1 (.inl h2) (.inr h2)) (sM hnd (by simpa using hl) λp hp=>h p (by simp[hp]))
theorem gR:∀{es:List Expr},(∀e∈es,∃x pos,e=.Name x pos)->(assignEach es env).length=es.length/\(assignEach es env).findIdx? (·.1)=none
 | [],_=>⟨rfl,rfl⟩
 | e::es,h=>by
  obtain⟨x,pos,rfl⟩:=h e mem_cons_self;obtain⟨h1,h2⟩:=gR (env:=env) (es:=es) λe he=>h e (mem_cons_of_mem _ he);have e1:assignEach (Expr.Name x pos::es) env=(false,assign (Expr.Name x pos) env)::assignEach es env:=rfl;rw[e1];refine⟨by simp[h1],?_⟩;rw[List.findIdx?_cons,h2];rfl
theorem CO{i:Nat}(h:yl Γ (.one i) tg=true):∃x p,tg=.Name x p:=by
 cases tg<;>first|exact⟨_,_,rfl⟩|exact absurd h Bool.false_ne_true
theorem vX{is:List Nat}(h:yl Γ (.tup is) tg=true):∃es k p,tg=.Tuple es k p:=by
 cases tg<;>first|exact⟨_,_,_,rfl⟩|exact absurd h Bool.false_ne_true
theorem LD(c:Ctx Φ Γ k X cl EX)(hnd:X.N.Nodup)(h:yl Γ pat tg=true):PG X tg (A8 X.K pat):=by
 cases pat with
 | one i =>obtain⟨x,xp,rfl⟩:=CO h;simp only[yl,and_eq_true,beq_iff_eq] at h;obtain⟨h1,h2⟩:=h;exact o6 hnd (by rw[c.N];exact h1) (.inl (by rw[c.sc];exact h2)) (.inr (by rw[c.sc];exact h2))
 | tup is =>
  obtain⟨es,kk,pos,rfl⟩:=vX h
  ·
   simp only[yl,and_eq_true,beq_iff_eq,all_eq_true] at h;obtain⟨h1,h2⟩:=h;have names:∀p∈is.zip es,∃x pos,p.2=.Name x pos/\X.N[p.1]?=some x/\X.env.scope.names.lookup x=some .local:=λp hp=>by
    have q:=h2 p hp;cases ep:p.2<;>rw[ep] at q<;>simp at q;rename_i x pos';exact⟨x,pos',rfl,by rw[c.N];exact q.1,by rw[c.sc];exact q.2⟩
   have all:∀e∈es,∃x pos,e=.Name x pos:=λe he=>by
    obtain⟨n,hn,rfl⟩:=getElem_of_mem he;have hm:(is[n]'(by omega),es[n])∈is.zip es:=List.mem_iff_getElem?.mpr ⟨n,by rw[List.getElem?_zip_eq_some];simp[hn]⟩;obtain⟨x,pos,q,_⟩:=names _ hm;exact⟨x,pos,q⟩
   obtain⟨l1,l2⟩:=gR (env:=X.env) all;exact BN c.calm (sM hnd h1 names) (by rw[l1,h1]) l2
noncomputable def vY(Γ:pe):za->Expr->Bool
 | .one i,.Name x _=>Γ.N[i]?==some x&&(Γ.sc.names.lookup x==some .local || Γ.sc.names.lookup x==some .cell)
 | .tup is,.Tuple es _ _=>es.length==is.length&&(is.zip es).all λp=>match p.2 with
  | .Name x _=>Γ.N[p.1]?==some x&&(Γ.sc.names.lookup x==some .local || Γ.sc.names.lookup x==some .cell)
  | _=>false
 | _,_=>false
theorem qu(hfn:∀x,X.fn x=true)(hnd:X.N.Nodup):∀{is:List Nat} {es:List Expr},es.length=is.length->(∀p∈is.zip es,∃x pos,p.2=.Name x pos/\X.N[p.1]?=some x/\Loc X.env.scope x)->MZ X es (qt is)
 | [],[],_,_=>yP
 | i::is,e::es,hl,h=>by
  obtain⟨x,pos,rfl,h1,h2⟩:=h (i,e) (by simp);exact u5 (o6 hnd h1 h2 (.inl (hfn x))) (qu hfn hnd (by simpa using hl) λp hp=>h p (by simp[hp]))
theorem qv{i:Nat}(h:vY Γ (.one i) tg=true):∃x p,tg=.Name x p:=by
 cases tg<;>first|exact⟨_,_,rfl⟩|exact absurd h Bool.false_ne_true
theorem mC{is:List Nat}(h:vY Γ (.tup is) tg=true):∃es k p,tg=.Tuple es k p:=by
 cases tg<;>first|exact⟨_,_,_,rfl⟩|exact absurd h Bool.false_ne_true
theorem zp(c:Ctx Φ Γ k X cl EX)(hfn:∀x,X.fn x=true)(hnd:X.N.Nodup)(h:vY Γ pat tg=true):PG X tg (A8 X.K pat):=by
 have loc:∀x,(Γ.sc.names.lookup x==some .local || Γ.sc.names.lookup x==some .cell)=true->Loc X.env.scope x:=λx e=>by
  unfold L2.Loc;rw[c.sc];simpa using e
 cases pat with
 | one i =>obtain⟨x,pos,rfl⟩:=qv h;simp only[vY,and_eq_true,beq_iff_eq] at h;obtain⟨h1,h2⟩:=h;exact o6 hnd (by rw[c.N];exact h1) (loc _ h2) (.inl (hfn _))
 | tup is =>
  obtain⟨es,kk,pos,rfl⟩:=mC h
  ·
   simp only[vY,and_eq_true,beq_iff_eq,all_eq_true] at h;obtain⟨h1,h2⟩:=h;have names:∀p∈is.zip es,∃x pos,p.2=.Name x pos/\X.N[p.1]?=some x/\Loc X.env.scope x:=λp hp=>by
    have q:=h2 p hp;cases ep:p.2<;>rw[ep] at q<;>first|cases q|skip
    rename_i x pos';simp only[and_eq_true,beq_iff_eq] at q;exact⟨x,pos',rfl,by rw[c.N];exact q.1,loc _ q.2⟩
   have all:∀e∈es,∃x pos,e=.Name x pos:=λe he=>by
    obtain⟨n,hn,rfl⟩:=getElem_of_mem he;have hm:(is[n]'(by omega),es[n])∈is.zip es:=List.mem_iff_getElem?.mpr ⟨n,by rw[List.getElem?_zip_eq_some];simp[hn]⟩;obtain⟨x,pos,q,_⟩:=names _ hm;exact⟨x,pos,q⟩
   obtain⟨l1,l2⟩:=gR (env:=X.env) all;exact BN c.calm (qu hfn hnd h1 names) (by rw[l1,h1]) l2
theorem dw.set{K:PySem.W.Frag}{ρ:List Addr}{env:Env}{σ:L2.St}{H:Hp}{i:Nat}{v:Val}{x:V}(e:dw K ρ env σ H)(hl:env.length = σ.length)(q:VR K ρ H v x):dw K ρ (env.set i (some v)) (σ.set i (some x)) H:=λj w hj=>by
 by_cases hij:i=j
 ·subst hij
  have hi:i<env.length:=by have:=(List.getElem?_eq_some_iff.mp hj).1;simpa using this
  rw[getElem?_set_self hi] at hj;cases hj;exact⟨x,by rw[getElem?_set_self (by rw[<-hl];exact hi)],q⟩
 ·rw[getElem?_set_ne hij] at hj;rw[getElem?_set_ne hij];exact e j w hj
theorem lI{K:PySem.W.Frag}{ρ:List Addr}{H:Hp}:∀{is:List Nat} {ds:List Val} {xs:List V} {env env':Env} {σ:L2.St},bindAll is ds env=some env'->az K ρ H ds xs->dw K ρ env σ H->env.length = σ.length->dw K ρ env' (iI is xs σ) H/\env'.length=(iI is xs σ).length/\(iI is xs σ).length = σ.length/\xs.length=is.length
 | [],[],xs,env,env',σ,e,q,hE,hl=>by
  rw[az] at q;subst q;simp only[bindAll] at e;cases e;exact⟨hE,hl,rfl,rfl⟩
 | i::is,d::ds,xs,env,env',σ,e,q,hE,hl=>by
  rw[az] at q;obtain⟨x,r,rfl,q1,q2⟩:=q;simp only[bindAll] at e;obtain⟨a1,a2,a3,a4⟩:=lI e q2 (hE.set hl q1) (by simp[hl]);exact⟨a1,a2,by rw[show iI (i::is) (x::r) σ = iI is r (σ.set i (some x)) from rfl,a3];simp,by simp[a4]⟩
 | [],_::_,_,_,_,_,e,_,_,_=>by simp[bindAll] at e
 | _::_,[],_,_,_,_,e,_,_,_=>by simp[bindAll] at e
theorem zq{K:PySem.W.Frag}{ρ:List Addr}{H:Hp}{pat:za}{v:Val}{x:V}{env env':Env}{σ:L2.St}{Q:L2.St->Hp->Prop}(e:gq pat v env=some env')(q:VR K ρ H v x)(hE:dw K ρ env σ H)(hl:env.length = σ.length)
  (kk:∀σ',dw K ρ env' σ' H->env'.length = σ'.length -> σ'.length = σ.length->Q σ' H):A8 K pat x σ H Q:=by
 cases pat with
 | one i =>simp only[gq] at e;cases e;exact kk _ (hE.set hl q) (by simp[hl]) (by simp)
 | tup is =>
  cases v<;>simp only[gq] at e<;>first|cases e|skip
  rw[VR] at q;obtain⟨a,xs,rfl,q1,q2⟩:=q;obtain⟨a1,a2,a3,a4⟩:=lI e q2 hE hl;exact⟨a,xs,rfl,q1,a4,nK a4 (kk _ a1 a2 a3)⟩
theorem kJ{α β:Type}{W:β -> Hs->List Addr->Hp->Prop}{W':α -> Hs->List Addr->Hp->Prop}{m:M α}{f:α -> M β}(g:Gr ρ H ρ' H')(p:Post B EX ρ H W (bnd m f h))
  (kk:∀v h1 ρ2 H2,m h=.ok v h1->Post B EX ρ H W (f v h1)->Gr ρ' H' ρ2 H2->HR B ρ2 h1 H2->W' v h1 ρ2 H2):Post B EX ρ' H' W' (m h):=by
 unfold bnd at p;cases e:m h with
 | ok v h1=>rw[e] at p;exact λρ2 H2 g2 r2=>kk v h1 ρ2 H2 e p g2 r2
 | exc c vs h1=>rw[e] at p;exact λρ2 H2 xs g2 r2 q=>p ρ2 H2 xs (g.trans g2) r2 q
 | no=>rw[e] at p;exact p
theorem HR.adopt(r:HR B ρ h H)(hD:D ∉ ρ)(q:OR B (ρ ++ [D]) H D u):HR B (ρ ++ [D]) (h++[u]) H where
 len:=by simp[r.len]
 nd:=by rw[nodup_append];refine⟨r.nd,by simp,λa ha b hb=>?_⟩;rw[mem_singleton.mp hb];rintro rfl;exact hD ha
 ob i v a q1 q2:=by
  by_cases hi:i<h.length
  ·rw[getElem?_append_left hi] at q1;rw[getElem?_append_left (by rw[r.len];exact hi)] at q2;exact OR.kT ⟨prefix_append _ _,λ_ _ e _=>e⟩ rfl (r.ob i v a q1 q2)
  ·rw[getElem?_append_right (by omega)] at q1
   rw[getElem?_append_right (by rw[r.len];omega)] at q2;have hi0:i-h.length=0:=by have:=(List.getElem?_eq_some_iff.mp q1).1;simp at this;omega
   rw[hi0] at q1;rw[r.len,hi0] at q2;simp at q1 q2;subst q1;subst q2;exact q
theorem Gr.over(g:Gr ρ H ρ' H')(hD:H D=none):Gr ρ H ρ' (upd H' D o) where
 pre:=g.pre
 keep a u e n:=by rw[aA (aG e hD)];exact g.keep a u e n
 firm a u e n:=by rw[aA (aG e hD)];exact g.firm a u e n
 fresh:=g.fresh
theorem Gr.adopt(g:Gr ρ H ρ' H')(hD:H D=none):Gr ρ H (ρ'++[D]) H' where
 pre:=g.pre.trans (prefix_append _ _)
 keep:=g.keep
 firm:=g.firm
 fresh a z n:=by
  rcases mem_append.mp z with z|z
  ·exact g.fresh a z n
  ·rw[mem_singleton.mp z];exact hD
theorem GJ{K:PySem.W.Frag}{ρ:List Addr}{env:Env}{σ:L2.St}{H:Hp}{js:List (Option Nat)}(e:dw K ρ env σ H):dw K ρ (jU js env) (jy js σ) H:=λi v q=>by
 unfold jU at q;rw[getElem?_map] at q;cases hj:js[i]? with
 | none=>rw[hj] at q;cases q
 | some o =>
  rw[hj] at q;simp only[map_some] at q;cases o with
  | none=>cases q
  | some j =>
   dsimp only at q;cases ej:env[j]? with
   | none=>rw[ej] at q;cases q
   | some w =>
    cases w with
    | none=>rw[ej] at q;cases q
    | some d =>rw[ej] at q;cases q;obtain⟨x,q1,q2⟩:=e j _ ej;refine⟨x,?_,q2⟩;unfold jy;rw[getElem?_map,hj];simp only[map_some];rw[q1]
theorem CP{K:PySem.W.Frag}{ρ:List Addr}{env:Env}{σ σ':L2.St}{H:Hp}{js:List (Option Nat)}{pat:za}(hp:(vP pat).all (λi=>js[i]?==some none)=true)(e:dw K ρ (jU js env) σ H)(hs:∀i,i∉vP pat -> σ'[i]? = σ[i]?):dw K ρ (jU js env) σ' H:=λi v q=>by
 have hi:i∉vP pat:=λz=>by
  have h1:=all_eq_true.mp hp i z;have h2:js[i]?=some none:=eq_of_beq h1;unfold jU at q;rw[getElem?_map,h2] at q;cases q
 obtain⟨x,q1,q2⟩:=e i v q;exact⟨x,(hs i hi).trans q1,q2⟩
theorem qw:∀{is:List Nat} {xs:List V} {σ:L2.St} {i:Nat},i∉is->(iI is xs σ)[i]? = σ[i]?
 | [],xs,σ,i,_=>by cases xs<;>rfl
 | j::is,[],σ,i,_=>rfl
 | j::is,x::xs,σ,i,h=>by
  rw[show iI (j::is) (x::xs) σ = iI is xs (σ.set j (some x)) from rfl,qw λz=>h (mem_cons_of_mem _ z),getElem?_set_ne λz=>h (by rw[z];exact mem_cons_self)]
theorem CQ{K:PySem.W.Frag}{ρ:List Addr}{H:Hp}{pat:za}{v:Val}{x:V}{env env':Env}{σ:L2.St}{Q:L2.St->Hp->Prop}(e:gq pat v env=some env')(q:VR K ρ H v x)(hE:dw K ρ env σ H)(hl:env.length = σ.length)
  (kk:∀σ',dw K ρ env' σ' H -> σ'.length = σ.length->(∀i,i∉vP pat -> σ'[i]? = σ[i]?)->Q σ' H):A8 K pat x σ H Q:=by
 cases pat with
 | one i =>simp only[gq] at e;cases e;exact kk _ (hE.set hl q) (by simp) λj hj=>getElem?_set_ne λz=>hj (by rw[z];exact mem_singleton.mpr rfl)
 | tup is =>
  cases v<;>simp only[gq] at e<;>first|cases e|skip
  rw[VR] at q;obtain⟨a,xs,rfl,q1,q2⟩:=q;obtain⟨a1,a2,a3,a4⟩:=lI e q2 hE hl;exact⟨a,xs,rfl,q1,a4,nK a4 (kk _ a1 a3 λj hj=>qw hj)⟩
theorem qy(hs:jW Φ it)(hc:cB Φ t)(he:cB Φ elt)(c:Ctx Φ Γ k X cl EX)(h:bu Γ (.comp N' js pat ik it t elt) e=true) :
  ∃e' tg iter ifs scope pos wi g tt te,e=.ListComp e' [⟨tg,iter,ifs,0⟩] scope pos/\jz X.N X.env.scope scope N' js=true/\PI X tg iter wi/\(∀cls C s H fp,PG (bR X scope N' cls C s H fp) tg g)/\(∀cls C s H fp,FL (bR X scope N' cls C s H fp) ifs tt) /\
   (∀cls C s H fp,PE (bR X scope N' cls C s H fp) e' te)/\(∀x,foldedSetIterable iter X.env x=pure x)/\∀σ H Q,tV Φ (bd X cl) EX (.comp N' js pat ik it t elt) σ H Q->Cf wi js g tt te σ H Q:=by
 (conv at h=>lhs;whnf);split at h<;>first|cases h|skip
 rename_i e' tg iter ifs scope pos;simp only[and_eq_true] at h;obtain⟨⟨⟨⟨⟨⟨⟨h1,h2⟩,h3⟩,h4⟩,h5⟩,h6⟩,h7⟩,h8⟩:=h;have hnd:N'.Nodup:=of_decide_eq_true h3;have hen:ik=.enum\/ik=.zip->∃es kk pos,tg=.Tuple es kk pos:=by
  intro hz;cases pat with
  | one i=>rcases hz with rfl|rfl<;>cases h6
  | tup is=>exact vX h4
 obtain⟨hi,hf⟩:=IW hs c h2 hen
 let tt:TT:=if cS t=true then vj else tT Φ (bd X cl) EX t
 have R5:∀cls C s H fp,FL (bR X scope N' cls C s H fp) ifs tt:=λcls C s H fp=>by
  have c':=c.BD scope N' cls C s H fp;cases ifs with
  | nil =>have:cS t=true:=h7;show FL _ [] (if cS t=true then vj else tT Φ (bd X cl) EX t);rw[if_pos this];exact FN
  | cons a r =>
   cases r with
   | cons _ _=>cases h7
   | nil =>simp only[and_eq_true,not_eq_true'] at h7;show FL _ [a] (if cS t=true then vj else tT Φ (bd X cl) EX t);rw[if_neg (by rw[h7.1];exact Bool.false_ne_true)];exact FO (hc _ _ _ _ _ _ c' h7.2).2
 refine⟨e',tg,iter,ifs,scope,pos,_,A8 X.K pat,tt,tV Φ (bd X cl) EX elt,rfl,by rw[c.N,c.sc];exact h1,hi,λcls C s H fp=>LD (c.BD scope N' cls C s H fp) hnd h4,R5,λcls C s H fp=>(he _ _ _ _ _ _ (c.BD scope N' cls C s H fp) h8).1,hf,λσ H Q ⟨ρ,env,h,hE,r,p⟩=>?_⟩
 ·skip
  simp only[aH] at p
  let f:Val->M (Option Val):=λd=>bnd (bh (gq pat d (jU js env))) λenv'=>bnd (if cS t=true then ret true else bnd (aH Φ t env') λv=>ask λh=>dQ h v) λt =>
    if t=true then bnd (aH Φ elt env') λe=>ret (some e) else ret none
  have p':Post (bd X cl) EX ρ H (WV X.K Q) (bnd (M6 Φ ik it env) (λsrc=>bnd (ask λh=>src.items h) λxs=>aF (decide (xs.length<=100000)) (bnd (f6 src f xs.length 0 []) λys=>new (.lst ys))) h):=by unfold M6;rw[aR];exact p
  refine⟨ρ,env,h,hE,r,bB p' λsrc h1 ρ1 H1 g1 r1 p1=>?_⟩;obtain⟨xs,e1,p2⟩:=ay p1;obtain⟨e2,p3⟩:=aM p2;have e2:=of_decide_eq_true e2;refine⟨⟨xs,e1⟩,λJ wk D hD=>?_⟩;have hDl:(100000:Nat)<sizeLine:=by rw[sizeLine_eq];decide
  refine⟨λi m σ' H'=>∃ρ' h' acc ys,Gr ρ1 H1 ρ' H'/\HR (bd X cl) ρ' h' H'/\D ∉ ρ'/\H' D=some (.lst ys)/\az X.K ρ' H' acc ys/\dw X.K ρ' (jU js env) σ' H' /\ σ'.length=js.length/\acc.length<=i/\i+m=xs.length /\
   Post (bd X cl) EX ρ1 H1 (WV X.K Q) (bnd (f6 src f m i acc) (λys=>new (.lst ys)) h'),⟨xs.length,ρ1,h1,[],[],Gr.side hD,r1.side hD,r1.out hD,aU,az.nil,(GJ (hE.up g1)).up (Gr.side hD),k7 js σ,Nat.le_refl _,by omega,p3⟩,?_⟩
  rintro i m σ' H' ⟨ρ',h',acc,ys,w1,w2,w3,w4,w5,w6,w7,w8,w9,uv⟩;have fin:∀p:Post (bd X cl) EX ρ1 H1 (WV X.K Q) (new (.lst acc) h'),Q (.ref D) H':=λp=>by
   refine p (ρ'++[D]) H' (w1.adopt hD) (w2.adopt w3 ⟨ys,w4,az.kT ⟨prefix_append _ _,λ_ _ e _=>e⟩ _ _ w5⟩) _ (VR.ref (by rw[<-w2.len];simp))
  cases m with
  | zero =>
   simp only[f6,aR] at uv;obtain⟨xs',k1,uv⟩:=ay uv;have Ow:Post (bd X cl) EX ρ1 H1 (WV X.K Q) (bnd (aF (decide (xs'.length<=i)) (ret acc)) (λys=>new (.lst ys)) h'):=uv;unfold aF at Ow
   by_cases hl:xs'.length<=i
   ·have:bnd (λh=>if decide (xs'.length<=i)=true then ret acc h else Out.no) (λys=>new (.lst ys)) h'=new (.lst acc) h':=by
     unfold bnd;dsimp only;rw[if_pos (decide_eq_true hl)];rfl
    rw[this] at Ow;exact .inl ⟨wk.stop w1.w w2 k1 hl,fin Ow⟩
   ·have:bnd (λh=>if decide (xs'.length<=i)=true then ret acc h else Out.no) (λys=>new (.lst ys)) h'=Out.no:=by
     unfold bnd;dsimp only;rw[if_neg (by rw[decide_eq_false hl];exact Bool.false_ne_true)]
    rw[this] at Ow;exact Ow.elim
  | succ m =>
   simp only[f6,aR] at uv;obtain⟨xs',k1,uv⟩:=ay uv;cases hx:xs'[i]? with
   | none =>rw[hx] at uv;exact .inl ⟨wk.stop w1.w w2 k1 (List.getElem?_eq_none_iff.mp hx),fin uv⟩
   | some v =>
    rw[hx] at uv;dsimp only at uv;refine .inr ⟨wk.go w1.w w2 k1 hx,_,λBB KD w=>⟨m,lt_succ_self _,w⟩,λy H2 hy=>?_⟩;obtain⟨z1,z2,z3⟩:=wk.xH w1.w w2 k1 hx hy;simp only[aR] at uv;simp only[f,aR] at uv;obtain⟨env',k2,uv⟩:=cG uv;refine CQ k2 z3 (w6.up z1) (by rw[w7];simp[jU]) λσ2 Rf hl2 hout=>?_;have LF:H2 D=some (.lst ys):=z1.keep _ _ w4 w3;have G2:Gr ρ1 H1 ρ' H2:=w1.trans z1;have body:∀(b:Bool) (h3:Hs) (ρ3:List Addr) (H3:Hp),Gr ρ' H2 ρ3 H3->HR (bd X cl) ρ3 h3 H3->Post (bd X cl) EX ρ1 H1 (WV X.K Q) (bnd (if b=true then bnd (aH Φ elt env') λe=>ret (some e) else ret none) (λo=>bnd (f6 src f m (i+1) (match o with|some e=>acc++[e]|none=>acc)) λys=>new (.lst ys)) h3) ->
      (if b=true then tV Φ (bd X cl) EX elt σ2 H3 (λy H4=>∃ys,H4 D=some (.lst ys)/\ys.length<sizeLine/\(λσ' H'=>∃ρ' h' acc ys,Gr ρ1 H1 ρ' H'/\HR (bd X cl) ρ' h' H'/\D ∉ ρ'/\H' D=some (.lst ys)/\az X.K ρ' H' acc ys/\dw X.K ρ' (jU js env) σ' H' /\ σ'.length=js.length/\acc.length<=i+1/\i+1+m=xs.length /\
       Post (bd X cl) EX ρ1 H1 (WV X.K Q) (bnd (f6 src f m (i+1) acc) (λys=>new (.lst ys)) h')) σ2 (upd H4 D (.lst (ys++[y]))))
      else (λσ' H'=>∃ρ' h' acc ys,Gr ρ1 H1 ρ' H'/\HR (bd X cl) ρ' h' H'/\D ∉ ρ'/\H' D=some (.lst ys)/\az X.K ρ' H' acc ys/\dw X.K ρ' (jU js env) σ' H' /\ σ'.length=js.length/\acc.length<=i+1/\i+1+m=xs.length /\
       Post (bd X cl) EX ρ1 H1 (WV X.K Q) (bnd (f6 src f m (i+1) acc) (λys=>new (.lst ys)) h')) σ2 H3):=by
     intro b h3 ρ3 H3 g3 r3 p5;have SQ:D ∉ ρ3:=λz=>by have:=g3.fresh D z w3;rw[LF] at this;cases this
     have M7:H3 D=some (.lst ys):=g3.keep _ _ LF w3;have E3:dw X.K ρ3 (jU js env) σ2 H3:=(CP h5 (w6.up z1) hout).up g3;cases b with
     | true =>
      rw[if_pos rfl] at p5 |-;simp only[aR,bZ] at p5;refine⟨ρ3,env',h3,Rf.up g3,r3,kJ (G2.trans g3) p5 λv4 h4 ρ4 H4 _ p6 g4 r4 y4 q4=>?_⟩;have WI:D ∉ ρ4:=λz=>by have:=g4.fresh D z SQ;rw[M7] at this;cases this
      have Ox:H4 D=some (.lst ys):=g4.keep _ _ M7 SQ;have gw:Gw ρ4 H4 ρ4 (upd H4 D (.lst (ys++[y4]))):=Gw.other Ox rfl;have la:=w5.length;refine⟨ys,Ox,by omega,ρ4,h4,acc++[v4],ys++[y4],((G2.trans g3).trans g4).over hD,r4.other WI Ox rfl,WI,aU,az.append (az.kT gw _ _ (az.up ((z1.trans g3).trans g4) _ _ w5)) (az.kT gw _ _ (az.cons q4 az.nil)),(E3.up g4).kT gw,by rw[hl2,w7],by simp;omega,by omega,p6⟩
     | false =>rw[if_neg Bool.false_ne_true] at p5 |-;exact⟨ρ3,h3,acc,ys,G2.trans g3,r3,SQ,M7,az.up (z1.trans g3) _ _ w5,E3,by rw[hl2,w7],by omega,by omega,p5⟩
    show (if cS t=true then vj else tT Φ (bd X cl) EX t) σ2 H2 _
    by_cases hn:cS t=true
    ·rw[if_pos hn];rw[if_pos hn,bZ] at uv;exact body true h' ρ' H2 Gr.refl z2 uv
    ·rw[if_neg hn];rw[if_neg hn] at uv;exact⟨ρ',env',h',Rf,z2,kJ G2 uv λb h3 ρ3 H3 _ p5 g3 r3=>body b h3 ρ3 H3 g3 r3 p5⟩
theorem GK(hs:jW Φ it)(hc:cB Φ t)(he:cB Φ elt):cB Φ (.comp N' js pat ik it t elt):=by
 intro Γ k X cl EX e c h;obtain⟨e',tg,iter,ifs,scope,pos,wi,g,tt,te,rfl,h1,h2,h3,h4,h5,h6,h7⟩:=qy hs hc he c h;have q:=(FP (pos:=pos) h1 c.calm h2 h3 h4 h5 h6).imp h7;exact⟨q,cW q λ_=>rfl⟩
theorem GL{k v:IE}(hk:cB Φ k)(hv:cB Φ v):cB Φ (.dct1 k v):=by
 intro Γ n X cl EX e c h
 (conv at h=>lhs;whnf);split at h<;>first|cases h|skip
 rename_i a b pos;simp only[and_eq_true] at h;have q:PE X (.Dict [some a] [b] pos) (tV Φ (bd X cl) EX (.dct1 k v)):=by
  refine(FH (Ca (hk Γ n X cl EX a c h.1).1 (hv Γ n X cl EX b c h.2).1 FG) rfl rfl (by simp) (by simp)).imp λσ H Q aJ=>?_;obtain⟨ρ,env,h,hE,r,p⟩:=aJ;intro D hD;have g0:Gr ρ H ρ (upd H D (.dK [])):=Gr.side hD;simp only[aH] at p;refine⟨ρ,env,h,hE.up g0,r.side hD,kJ g0 p λx h1 ρ1 H1 _ p1 g1 r1 y1 q1=>?_⟩;obtain⟨kk,e1,p1⟩:=cG p1;refine⟨ρ1,env,h1,(hE.up g0).up g1,r1,kJ (g0.trans g1) p1 λy h2 ρ2 H2 _ p2 g2 r2 y2 q2=>?_⟩;have WJ:D ∉ ρ:=r.out hD;have LF:D ∉ ρ2:=λz=>by have:=(g1.trans g2).fresh D z WJ;rw[aU] at this;cases this
  have e2:H2 D=some (.dK []):=(g1.trans g2).keep D _ aU WJ;have ek:y1=kV kk:=by
   cases x<;>first|(cases e1;done)|skip
   ·cases e1;rw[VR] at q1;exact q1
   ·cases e1;rw[VR] at q1;exact q1
  refine⟨e2,[(kk,y2)],by rw[ek];rfl,by simp,?_⟩;have gw:Gw ρ2 H2 (ρ2++[D]) (upd H2 D (.dK (nq [] [(kk,y2)]))):=⟨prefix_append _ _,(Gw.other (ρ:=ρ2) e2 rfl).firm⟩;exact p2 (ρ2++[D]) _ ((((g0.trans g1).trans g2).over hD).adopt hD) ((r2.other LF e2 rfl).adopt LF ⟨[(kk,y2)],aU,y2,[],rfl,VR.kT gw _ _ q2,rfl⟩) _ (zd r2)
 exact⟨q,cW q λ_=>rfl⟩
theorem GN{p q:Nat}:cB Φ (.dflt N' js p q d w):=qq λ_ _=>rfl
theorem LG(ha:cB Φ a):cB Φ (.isc a x bs):=qq λ_ _=>rfl
theorem nL:(∀ir,cB Φ ir)/\∀eX,jW Φ eX:=by
 have one:∀ir,cB Φ ir:=by
  intro ir;exact IE.rec (motive_1:=λir=>cB Φ ir) (motive_2:=λeX=>jW Φ eX) (λ_=>Lc) (λ_=>Ld) (λ_ _=>Le) Ou (λ_ _ _ a b=>Lf a b) (λ_ a=>Lg a) (λ_ _ _ a b=>Lh a b) (λ_ _ _ _ _ a b c=>Li a b c)
   (λ_ _ a b=>Lj a b) (λ_ _ a b=>Ov a b) (λ_ a=>Lk a) (λ_ _ _ a b c=>Ll a b c) (λ_ a=>Lm a) (λ_ a=>Lo a) (λ_ _ a b=>Lp a b) (λ_ _ _ a b c=>Lq a b c) (λ_ _ a=>Gy a) (λ_ _ a=>LB a)
   (λ_ _ _ a b=>LC a b) (λ_ _ _ _ _ _ _ a b c=>GK a b c) Gu (λ_ a=>GF a) (λ_ _ _ a b c=>GG a b c) (λ_ _ a b=>GL a b) (λ_ a=>CK a) (λ_ _ _ a b c=>GH a b c) (λ_ a=>CM a) (λ_ a=>CL a) (λ_ _ _ a=>Lu a) (λ_ _ _ _ a b=>Lv a b) (λ_ _ a b=>Lr a b) (λ_ _ _ _ _ _ _ _=>GN) (λ_ _ _ a=>LG a) CH (λ_ _ a b=>zj a b) ir
 refine⟨one,λeX=>?_⟩
 induction eX using oq.rec (motive_1:=λ_=>True) with
 | nil=>exact CH
 | cons e es _ ih=>exact zj (one e) ih
 | _=>trivial
end
end Hv
end
section
namespace Hv
open PySem L2 PyProof.Rows
noncomputable def nM:Expr->Bool
 | .ListComp ..=>false|.SetComp ..=>false|.DictComp ..=>false
 | _=>true
noncomputable def Oz:Expr->Bool
 | .Tuple ..=>false
 | _=>true
noncomputable def SS:Expr->Bool
 | .SetComp ..=>false|.DictComp ..=>false
 | _=>true
mutual
noncomputable def OA(Γ:pe):IS->Stmt->Bool
 | .expr e,s=>match s with
  | .Expr x _=>nM x&&bu Γ e x
  | _=>false
 | .asg p e,s=>match s with
  | .Assign [tg] x _=>vY Γ p tg&&bu Γ e x&&(match p with|.one _=>SS x|.tup _=>nM x&&Oz x)
  | _=>false
 | .aug i o e,s=>match s with
  | .AugAssign (.Name x _) op v _=>Γ.N[i]?==some x&&(Γ.sc.names.lookup x==some .local || Γ.sc.names.lookup x==some .cell)&&La o op&&(match o with|.pow=>false|_=>true)&&bu Γ e v
  | _=>false
 | .gO o i v,s=>match s with
  | .Assign [.Subscript a b _] x _=>pq b&&nM x&&bu Γ o a&&bu Γ i b&&bu Γ v x
  | _=>false
 | .iff c a b,s=>match s with
  | .If t x y _=>bu Γ c t&&bf Γ a x&&bf Γ b y
  | _=>false
 | .for p k it body,s=>match s with
  | .For tg iter x [] _=>vY Γ p tg&&zh Γ k it iter&&(match k,p with|.enum,.one _=>false|.zip,.one _=>false|_,_=>true)&&bf Γ body x
  | _=>false
 | .whl _ c body,s=>match s with
  | .While t x [] _=>bu Γ c t&&bf Γ body x
  | _=>false
 | .ret e,s=>match s with
  | .Return (some x) _=>bu Γ e x
  | _=>false
 | .Gb,s=>match s with
  | .Return none _=>true
  | _=>false
 | .brk,s=>match s with
  | .Break _=>true
  | _=>false
 | .cnt,s=>match s with
  | .Continue _=>true
  | _=>false
 | .pass,s=>match s with
  | .Pass _=>true
  | .Expr (.Constant (.str _) _ _) _=>true
  | _=>false
 | .never,_=>true
 | .setF n a x v,s=>match s with
  | .Assign [.Attribute o y _] e _=>x==y&&nM e&&n == Γ.tb.nc && Γ.tb.Gm.contains x&&bu Γ a o&&bu Γ v e
  | _=>false
noncomputable def bf(Γ:pe):fM->List Stmt->Bool
 | .nil,ls=>ls.isEmpty
 | .cons s r,ls=>match ls with
  | l::ls=>OA Γ s l&&bf Γ r ls
  | []=>false
end
structure LH (Φ:Fn) (Γ:pe) (k:Nat) (X:Cx) (cl:Nat->Addr) (EX:Nat->List V->Hp->Prop):Prop extends Ctx Φ Γ k X cl EX where
 fn:∀x,X.fn x=true
 nd:X.N.Nodup
 kind:X.env.scope.kind=.function
 xe:PassesOwn (model X.prog X.w) X.A X.env X.xe
noncomputable def WF(K:PySem.W.Frag)(D:Ends):Fl->Hs->List Addr->Hp->Prop
 | .nx env',_,ρ',H'=>∀σ',dw K ρ' env' σ' H'->env'.length = σ'.length->D.nx σ' H'
 | .rt v,_,ρ',H'=>∀x,VR K ρ' H' v x->D.rt x H'
 | .bk env',_,ρ',H'=>∀σ',dw K ρ' env' σ' H'->env'.length = σ'.length->D.bk σ' H'
 | .ct env',_,ρ',H'=>∀σ',dw K ρ' env' σ' H'->env'.length = σ'.length->D.ct σ' H'
noncomputable def tS(Φ:Fn)(B:Bd)(EX:Nat->List V->Hp->Prop)(ir:IS):TS:=λD σ H=>∃ρ env h,dw B.K ρ env σ H/\env.length = σ.length/\HR B ρ h H/\Post B EX ρ H (WF B.K D) (gG Φ ir env h)
noncomputable def YF(Φ:Fn)(B:Bd)(EX:Nat->List V->Hp->Prop)(ir:fM):TS:=λD σ H=>∃ρ env h,dw B.K ρ env σ H/\env.length = σ.length/\HR B ρ h H/\Post B EX ρ H (WF B.K D) (fN Φ ir env h)
theorem _root_.L2.PS.imp(h:PS X e t)(i:∀D σ H,t' D σ H->t D σ H):PS X e t':=λpins s σ H D I hw=>h pins s σ H D I (i D σ H hw)
theorem _root_.L2.xG.imp(h:xG X e t)(i:∀D σ H,t' D σ H->t D σ H):xG X e t':=λpins s σ H D I hw=>h pins s σ H D I (i D σ H hw)
section
variable {Φ:Fn} {Γ:pe} {k:Nat} {X:Cx} {cl:Nat->Addr} {EX:Nat->List V->Hp->Prop}
noncomputable def vZ(Φ:Fn)(ir:IS):Prop:=∀(Γ:pe) (k:Nat) (X:Cx) (cl:Nat->Addr) (EX:Nat->List V->Hp->Prop) (st:Stmt),LH Φ Γ k X cl EX->OA Γ ir st=true->PS X st (tS Φ (bd X cl) EX ir)
noncomputable def uw(Φ:Fn)(eX:fM):Prop:=∀(Γ:pe) (k:Nat) (X:Cx) (cl:Nat->Addr) (EX:Nat->List V->Hp->Prop) (st:List Stmt),LH Φ Γ k X cl EX->bf Γ eX st=true->xG X st (YF Φ (bd X cl) EX eX)
theorem jX{n:Nat}(h:nM e=true):swapsWith e t n env=pure false:=by
 cases e<;>first|rfl|(exact absurd h Bool.false_ne_true)
theorem IX(ir:IE)(c:Ctx Φ Γ k X cl EX)(h:bu Γ ir e=true):PE X e (tV Φ (bd X cl) EX ir):=(nL.1 ir Γ k X cl EX e c h).1
theorem YG(ir:IE)(c:Ctx Φ Γ k X cl EX)(h:bu Γ ir e=true):PT X e (tT Φ (bd X cl) EX ir):=(nL.1 ir Γ k X cl EX e c h).2
theorem IY(hs:∀env h,gG Φ ir env h=.no):vZ Φ ir:=by
 intro Γ k X cl EX st c h;refine pI.imp λD σ H ⟨ρ,env,h,hE,hl,r,p⟩=>?_;rw[hs] at p;exact p.elim
theorem LI:vZ Φ (.expr e):=by
 intro Γ k X cl EX st c h
 (conv at h=>lhs;whnf);split at h<;>first|cases h|skip
 simp only[and_eq_true] at h;refine(E8 (IX e c.toCtx h.2) (jX h.1)).imp λD σ H aJ=>?_;obtain⟨ρ,env,h,hE,hl,r,p⟩:=aJ;simp only[gG] at p;exact⟨ρ,env,h,hE,r,ao p λv h1 ρ1 x H1 g1 r1 q1 p1=>aj r1 p1 σ (hE.up g1) hl⟩
theorem OC:vZ Φ (.asg p e):=by
 intro Γ k X cl EX st c h
 (conv at h=>lhs;whnf);split at h<;>first|cases h|skip
 rename_i tg x pos;simp only[and_eq_true] at h;obtain⟨⟨h1,h2⟩,h3⟩:=h;have hg:=zp c.toCtx c.fn c.nd h1;have he:=IX e c.toCtx h2;have fin:∀D σ H,tS Φ (bd X cl) EX (.asg p e) D σ H->Fb (tV Φ (bd X cl) EX e) (A8 X.K p) D σ H:=λD σ H ⟨ρ,env,h,hE,hl,r,pp⟩=>by
  simp only[gG] at pp;refine⟨ρ,env,h,hE,r,ao pp λv h1 ρ1 x H1 g1 r1 q1 p1=>?_⟩;obtain⟨env',e1,p2⟩:=cG p1;exact zq e1 q1 (hE.up g1) hl λσ' SV hl' _=>aj r1 p2 σ' SV hl'
 have YH:(assignEach [tg] X.env).map (·.2)=[assign tg X.env]:=by
  cases p with
  | one i=>obtain⟨t,tp,rfl⟩:=qv h1;rfl
  | tup is=>obtain⟨es,kk,tp,rfl⟩:=mC h1;rfl
 cases p with
 | tup is =>
  simp only[and_eq_true] at h3;refine(BO he hg ?_ ?_ YH).imp fin
  ·show swapsWith x (some tg) _ _=_;exact jX h3.1
  ·obtain⟨es,kk,tp,rfl⟩:=mC h1;cases x<;>first|rfl|(exact absurd h3.2 Bool.false_ne_true)
 | one i =>
  obtain⟨t,tp,rfl⟩:=qv h1
  ·
   simp only[vY,and_eq_true,beq_iff_eq] at h1;have loc:L2.Loc X.env.scope t:=by unfold L2.Loc;rw[c.sc];simpa using h1.2
   have pl:nM x=true->PS X (.Assign [.Name t tp] x pos) (tS Φ (bd X cl) EX (.asg (.one i) e)):=λhx=>(BP c.nd (by rw[c.N];exact h1.1) loc he (jX hx) (.inl (c.fn t))).imp fin;cases x with
   | ListComp e' gens scope p2 =>
    cases hb:(X.env.kindOf t==some .local&&tp.line==p2.line && !(scope.names.any λ(n,k)=>n==t&&(k==.local||k==.cell))) with
    | false =>
     refine(BP c.nd (by rw[c.N];exact h1.1) loc he ?_ (.inl (c.fn t))).imp fin;have bk:(X.env.blockKind==.function)=true:=by unfold Env.blockKind;rw[c.kind];rfl
     show (pure (X.env.blockKind==.function&&X.env.kindOf t==some .local&&tp.line==p2.line && !(scope.names.any λ(n,k)=>n==t&&(k==.local||k==.cell))):Sem Bool)=pure false;rw[bk,Bool.true_and,hb]
    | true =>
     have bk:(X.env.blockKind==.function)=true:=by unfold Env.blockKind;rw[c.kind];rfl
     have hsw:swapsWith (.ListComp e' gens scope p2) (some (.Name t tp)) pos.line X.env=pure true:=by show (pure (X.env.blockKind==.function&&X.env.kindOf t==some .local&&tp.line==p2.line && !(scope.names.any λ(n,k)=>n==t&&(k==.local||k==.cell))):Sem Bool)=pure true;rw[bk,Bool.true_and,hb]
     cases e with
     | comp N' js pat ik it OE elt =>obtain⟨e2,tg2,iter,ifs,SW,pos2,wi,g,tt,te,q0,q1,q2,q3,q4,q5,q6,q7⟩:=qy (nL.2 it) (nL.1 OE) (nL.1 elt) c.toCtx h2;cases q0;refine(FQ c.nd (by rw[c.N];exact h1.1) loc q1 c.calm q2 q3 q4 q5 hsw (.inl (c.fn t)) q6).imp λD σ H hh=>?_;exact q7 σ H _ (fin D σ H hh)
     | dflt N' js p q d w =>refine pI.imp λD σ H hh=>?_;obtain⟨ρ,env,h,hE,hl,r,pp⟩:=hh;simp only[gG,aH] at pp;exact pp.elim
     | _=>first|exact absurd h2 Bool.false_ne_true|(rw[bu.eq_def] at h2;cases h2)
   | SetComp _ _ _ _=>exact absurd h3 Bool.false_ne_true
   | DictComp _ _ _ _ _=>exact absurd h3 Bool.false_ne_true
   | _=>exact pl rfl
theorem OF{i:Nat}:vZ Φ (.aug i o e):=IY λ_ _=>rfl
noncomputable def OG(B:Bd)(EX:Nat->List V->Hp->Prop):J0:=λo i v H Q=>∃ρ h a b w,HR B ρ h H/\VR B.K ρ H a o/\VR B.K ρ H b i/\VR B.K ρ H w v/\Post B EX ρ H (λ_ _ _ H'=>Q H') (sI a b w h)
theorem LJ(hu:X.A.units+64<cLine):J1 X (OG (bd X cl) EX):=by
 intro pins s σ H o i v ov iv u Q I ro ri rv hh;obtain⟨ρ,h,a,b,w,r,ha,hb,hw,p⟩:=hh;cases a with
 | ref j =>
  simp only[sI] at p;obtain⟨ob,e1,p⟩:=ay p;have dict:∀kvs,ob=.dct kvs->Post (bd X cl) EX ρ H (λ_ _ _ H'=>Q H') (bnd (bh (keyOf b)) (λk=>aF (decide (kvs.length<sizeLine)) (put j (.dct (gP kvs k w)))) h)->wpAny (model X.prog X.w) X.A (setItem ov iv u) (λ_ s'=>∃H',L2.Inv X pins σ H' s'/\Q H') X.xe s:=by rintro kvs rfl p;obtain⟨kk,e2,p⟩:=cG p;obtain⟨e3,p⟩:=aM p;have e3:=of_decide_eq_true e3;rw[VR] at ha;obtain⟨A,rfl,k1⟩:=ha;obtain⟨ks,k2,k3⟩:=r.ob j _ A e1 k1;cases ro;have ek:=CD hb e2;subst ek;refine Aw (by omega) I (FE.k (v:=v) k2 (by rw[<-k3.length];exact e3)) ri rv λs' I'=>⟨_,I',?_⟩;have g:Gr ρ H ρ (upd H A (.dK (putK ks kk v))):=Gr.put (mem_of_getElem? k1) k2 rfl;exact p ρ _ g (r.put k1 e1 (u:=.dct (gP kvs kk w)) ⟨_,aU,gz.put kk (VR.up g _ _ hw) (gz.up g _ _ k3)⟩)
  cases ob with
  | lst xs =>
   cases b<;>first|(exact p.elim)|skip
   rename_i n _;obtain⟨jj,e2,p⟩:=cG p;obtain⟨A,ys,rfl,k1,k2,k3⟩:=kH r ha e1;rw[VR] at hb;subst hb;refine set_list pins s σ H _ _ v ov iv u Q I ro ri rv ⟨A,ys,n,jj,rfl,rfl,k2,by rw[<-k3.length];exact e2,?_⟩;have g:Gr ρ H ρ (upd H A (.lst (ys.set jj v))):=Gr.put (mem_of_getElem? k1) k2 rfl;exact p ρ _ g (r.put k1 e1 (u:=.lst (xs.set jj w)) ⟨_,aU,az.set jj (az.up g _ _ k3) (VR.up g _ _ hw)⟩)
  | dct kvs=>exact dict kvs rfl (by cases b<;>exact p)
  | ins c fs=>cases b<;>exact p.elim
 | _=>exact p.elim
theorem LK:vZ Φ (.gO o i v):=by
 intro Γ k X cl EX st c h
 (conv at h=>lhs;whnf);split at h<;>first|cases h|skip
 rename_i a b sp x pos;simp only[and_eq_true] at h;obtain⟨⟨⟨⟨h1,h2⟩,h3⟩,h4⟩,h5⟩:=h;have YI:PG X (.Subscript a b sp) (NH (tV Φ (bd X cl) EX o) (tV Φ (bd X cl) EX i) (OG (bd X cl) EX)):=J2 (IX o c.toCtx h3) (IX i c.toCtx h4) (LJ c.units) (by
  intro v;cases b<;>first|rfl|(exact absurd h1 Bool.false_ne_true))
 refine(BO (IX v c.toCtx h5) YI (jX (t:=some (.Subscript a b sp)) (n:=pos.line) (env:=X.env) h2) (by cases x<;>rfl) rfl).imp λD σ H aJ=>?_;obtain⟨ρ,env,h,hE,hl,r,p⟩:=aJ;simp only[gG] at p;refine⟨ρ,env,h,hE,r,ao p λw h1 ρ1 x1 H1 g1 r1 q1 p1=>⟨ρ1,env,h1,hE.up g1,r1,ao p1 λw2 h2 ρ2 x2 H2 g2 r2 q2 p2=>⟨ρ2,env,h2,(hE.up g1).up g2,r2,ao p2 λw3 h3 ρ3 x3 H3 g3 r3 q3 p3=>?_⟩⟩⟩;refine⟨ρ3,h3,w2,w3,w,r3,VR.up g3 _ _ q2,q3,VR.up (g2.trans g3) _ _ q1,bB p3 λ_ h4 ρ4 H4 g4 r4 p4=>?_⟩;exact aj r4 p4 σ (((hE.up g1).up g2).up g3 |>.up g4) hl
theorem OH(ha:uw Φ a)(hb:uw Φ b):vZ Φ (.iff t a b):=by
 intro Γ k X cl EX st c h
 (conv at h=>lhs;whnf);split at h<;>first|cases h|skip
 rename_i tt x y pos;simp only[and_eq_true] at h;refine(NC (YG t c.toCtx h.1.1) (ha Γ k X cl EX x c h.1.2) (hb Γ k X cl EX y c h.2)).imp λD σ H aJ=>?_;obtain⟨ρ,env,h,hE,hl,r,p⟩:=aJ;simp only[gG] at p;refine⟨ρ,env,h,hE,r,nH p λv h1 p1=>?_⟩;obtain⟨s,e1,p2⟩:=ay p1;refine⟨s,e1,λρ1 H1 g1 r1=>?_⟩;have p2:=Post.up g1 p2;cases s with
 | true=>rw[if_pos rfl] at p2 |-;exact⟨ρ1,env,h1,hE.up g1,hl,r1,p2⟩
 | false=>rw[if_neg Bool.false_ne_true] at p2 |-;exact⟨ρ1,env,h1,hE.up g1,hl,r1,p2⟩
theorem OI(hb:uw Φ body):vZ Φ (.for p ik it body):=by
 intro Γ k X cl EX st c h
 (conv at h=>lhs;whnf);split at h<;>first|cases h|skip
 rename_i tg iter x pos;simp only[and_eq_true] at h;obtain⟨⟨⟨h1,h2⟩,h3⟩,h4⟩:=h;have hen:ik=.enum\/ik=.zip->∃es kk pos,tg=.Tuple es kk pos:=by
  intro hz;cases p with
  | one i=>rcases hz with rfl|rfl<;>cases h3
  | tup is=>exact mC h1
 obtain⟨hi,hf⟩:=IW (nL.2 it) c.toCtx h2 hen;refine(J4 c.xe c.calm hi (zp c.toCtx c.fn c.nd h1) (hb Γ k X cl EX x c h4) hf).imp λD σ H aJ=>?_;obtain⟨ρ,env,h,hE,hl,r,pp⟩:=aJ;simp only[gG] at pp;have p':Post (bd X cl) EX ρ H (WF X.K D) (bnd (M6 Φ ik it env) (λsrc=>bnd (ask λh=>src.items h) λxs=>forM src (λx env=>bnd (bh (gq p x env)) λenv'=>fN Φ body env') xs.length 0 env) h):=by unfold M6;rw[aR];exact pp
 refine⟨ρ,env,h,hE,r,bB p' λsrc h1 ρ1 H1 g1 r1 p1=>?_⟩;obtain⟨xs,e1,p2⟩:=ay p1;refine⟨⟨xs,e1⟩,λJ wk=>?_⟩;refine⟨λi m σ' H'=>∃ρ' env' h',Gr ρ1 H1 ρ' H'/\dw X.K ρ' env' σ' H'/\env'.length = σ'.length/\HR (bd X cl) ρ' h' H'/\Post (bd X cl) EX ρ' H' (WF X.K D) (forM src (λx env=>bnd (bh (gq p x env)) λenv'=>fN Φ body env') m i env' h'),
  ⟨xs.length,ρ1,env,h1,Gr.refl,hE.up g1,hl,r1,p2⟩,?_⟩
 rintro i m σ' H' ⟨ρ',env',h',w1,w2,w3,w4,w5⟩;cases m with
 | zero =>simp only[forM] at w5;obtain⟨xs',k1,w5⟩:=ay w5;obtain⟨k2,w5⟩:=aM w5;exact .inl ⟨wk.stop w1.w w4 k1 (of_decide_eq_true k2),aj w4 w5 σ' w2 w3⟩
 | succ m =>
  simp only[forM] at w5;obtain⟨xs',k1,w5⟩:=ay w5;cases hx:xs'[i]? with
  | none =>rw[hx] at w5;exact .inl ⟨wk.stop w1.w w4 k1 (List.getElem?_eq_none_iff.mp hx),aj w4 w5 σ' w2 w3⟩
  | some v =>
   rw[hx] at w5;dsimp only at w5;refine .inr ⟨wk.go w1.w w4 k1 hx,_,λBB KD w=>⟨m,lt_succ_self _,w⟩,λy H2 hy=>?_⟩;obtain⟨z1,z2,z3⟩:=wk.xH w1.w w4 k1 hx hy;rw[aR] at w5;obtain⟨lJ,k2,w5⟩:=cG w5;refine zq k2 z3 (w2.up z1) w3 λσ2 Rf hl2 _=>⟨ρ',lJ,h',Rf,hl2,z2,bB (Post.up z1 w5) λf h3 ρ3 H3 g3 r3 p3=>?_⟩;cases f with
   | nx GO=>exact λσ3 OJ hl3=>⟨ρ3,GO,h3,(w1.trans z1).trans g3,OJ,hl3,r3,p3⟩
   | ct GO=>exact λσ3 OJ hl3=>⟨ρ3,GO,h3,(w1.trans z1).trans g3,OJ,hl3,r3,p3⟩
   | bk GO=>exact λσ3 OJ hl3=>aj r3 p3 σ3 OJ hl3
   | rt v=>exact(aj r3 p3:WF X.K D (.rt v) h3 ρ3 H3)
theorem OL{n:Nat}(hb:uw Φ body):vZ Φ (.whl n t body):=IY λ_ _=>rfl
theorem OM:vZ Φ (.ret e):=by
 intro Γ k X cl EX st c h
 (conv at h=>lhs;whnf);split at h<;>first|cases h|skip
 refine(JY (IX e c.toCtx h)).imp λD σ H aJ=>?_;obtain⟨ρ,env,h,hE,hl,r,p⟩:=aJ;simp only[gG] at p;exact⟨ρ,env,h,hE,r,ao p λv h1 ρ1 x H1 g1 r1 q1 p1=>aj r1 p1 x q1⟩
theorem LL:vZ Φ .Gb:=by
 intro Γ k X cl EX st c h
 (conv at h=>lhs;whnf);split at h<;>first|cases h|skip
 refine E9.imp λD σ H aJ=>?_;obtain⟨ρ,env,h,hE,hl,r,p⟩:=aJ;simp only[gG] at p;exact aj r p _ VR.non
theorem ON:vZ Φ .brk:=by
 intro Γ k X cl EX st c h
 (conv at h=>lhs;whnf);split at h<;>first|cases h|skip
 refine BL.imp λD σ H aJ=>?_;obtain⟨ρ,env,h,hE,hl,r,p⟩:=aJ;simp only[gG] at p;exact aj r p σ hE hl
theorem OO:vZ Φ .cnt:=by
 intro Γ k X cl EX st c h
 (conv at h=>lhs;whnf);split at h<;>first|cases h|skip
 refine uZ.imp λD σ H aJ=>?_;obtain⟨ρ,env,h,hE,hl,r,p⟩:=aJ;simp only[gG] at p;exact aj r p σ hE hl
theorem LM:vZ Φ .pass:=by
 intro Γ k X cl EX st c h
 (conv at h=>lhs;whnf);split at h<;>first|cases h|skip
 ·refine E7.imp λD σ H aJ=>?_;obtain⟨ρ,env,h,hE,hl,r,p⟩:=aJ;simp only[gG] at p;exact aj r p σ hE hl
 ·refine JX.imp λD σ H aJ=>?_;obtain⟨ρ,env,h,hE,hl,r,p⟩:=aJ;simp only[gG] at p;exact aj r p σ hE hl
theorem GP:vZ Φ .never:=by
 intro Γ k X cl EX st c h;refine pI.imp λD σ H aJ=>?_;obtain⟨ρ,env,h,hE,hl,r,p⟩:=aJ;simp only[gG] at p;exact p.elim
theorem Ba{α β:Type}(c:Bool)(m:M α)(f:α -> M β):bnd (aF c m) f=aF c (bnd m f):=by
 funext h;unfold bnd aF;cases c<;>rfl
theorem LN{n:Nat}:vZ Φ (.setF n a x v):=by
 intro Γ k X cl EX st c h
 (conv at h=>lhs;whnf);split at h<;>first|cases h|skip
 rename_i o y ap e pos;simp only[and_eq_true,beq_iff_eq,contains_iff_mem] at h;obtain⟨⟨⟨⟨⟨h1,h2⟩,h3⟩,h4⟩,h5⟩,h6⟩:=h;subst h1;refine(Kg (IX a c.toCtx h5) (IX v c.toCtx h6) (jX (t:=some (.Attribute o x ap)) (n:=pos.line) (env:=X.env) h2)).imp λD σ H aJ=>?_;obtain⟨ρ,env,h,hE,hl,r,p⟩:=aJ;simp only[gG] at p;refine⟨ρ,env,h,hE,r,ao p λw h1 ρ1 x1 H1 g1 r1 q1 p1=>⟨ρ1,env,h1,hE.up g1,r1,ao p1 λw2 h2 ρ2 x2 H2 g2 r2 q2 p2=>?_⟩⟩;cases w2<;>first|exact p2.elim|skip
 rename_i i;rw[VR] at q2;obtain⟨ad,rfl,q2⟩:=q2;unfold zb at p2;dsimp only at p2;rw[aR] at p2;obtain⟨pr,e1,p3⟩:=ay p2;have hx:h2[i]?=some (.ins pr.1 pr.2)/\pr.1<n:=by
  split at e1
  ·rename_i c0 fs e2
   split at e1
   ·rename_i hc;cases e1;exact⟨e2,hc⟩
   ·cases e1
  ·cases e1
 obtain⟨dx,gs,k1,k2⟩:=r2.ob i _ ad hx.1 q2;obtain⟨cc,nn⟩:=c.cls pr.1 (by omega);have p4:Post (bd X cl) EX ρ2 H2 (WF X.K D) (aF (decide (pr.2.length<1000)) (bnd (put i (.ins pr.1 (qk x w pr.2))) λ_=>ret (.nx env)) h2):=by rw[<-Ba];exact p3
 obtain⟨el,p5⟩:=aM p4;refine⟨ad,cl pr.1,dx,gs,rfl,k1,cc,nn x h4,by rw[<-k2.length];exact of_decide_eq_true el,?_⟩;have g:Gr ρ2 H2 ρ2 (upd H2 ad (.ins (cl pr.1) dx (jx x x1 gs))):=Gr.put (mem_of_getElem? q2) k1 rfl;exact p5 ρ2 _ g (r2.put q2 hx.1 (u:=.ins pr.1 (qk x w pr.2)) ⟨dx,_,aU,mq.put (VR.up (g2.trans g) _ _ q1) (mq.up g _ _ k2)⟩) σ (((hE.up g1).up g2).up g) hl
theorem LO:uw Φ .nil:=by
 intro Γ k X cl EX st c h;rw[bf] at h;cases st with
 | cons _ _=>cases h
 | nil =>refine E6.imp λD σ H aJ=>?_;obtain⟨ρ,env,h,hE,hl,r,p⟩:=aJ;simp only[fN] at p;exact aj r p σ hE hl
theorem GQ(h1:vZ Φ s)(h2:uw Φ ss):uw Φ (.cons s ss):=by
 intro Γ k X cl EX st c h;rw[bf.eq_def] at h;dsimp only at h;cases st with
 | nil=>cases h
 | cons l ls =>
  simp only[and_eq_true] at h;refine(BK (h1 Γ k X cl EX l c h.1) (h2 Γ k X cl EX ls c h.2)).imp λD σ H aJ=>?_;obtain⟨ρ,env,h,hE,hl,r,p⟩:=aJ;simp only[fN] at p;refine⟨ρ,env,h,hE,hl,r,bB p λf h1 ρ1 H1 g1 r1 p1=>?_⟩;cases f with
  | nx env'=>exact λσ' SV hl'=>⟨ρ1,env',h1,SV,hl',r1,p1⟩
  | rt v=>exact(aj r1 p1:WF X.K D (.rt v) h1 ρ1 H1)
  | bk env'=>exact(aj r1 p1:WF X.K D (.bk env') h1 ρ1 H1)
  | ct env'=>exact(aj r1 p1:WF X.K D (.ct env') h1 ρ1 H1)
theorem CS:∀eX,uw Φ eX:=by
 intro eX;exact fM.rec (motive_1:=λs=>vZ Φ s) (motive_2:=λss=>uw Φ ss) (λ_=>LI) (λ_ _=>OC) (λ_ _ _=>OF) (λ_ _ _=>LK) (λ_ _ _ a b=>OH a b) (λ_ _ _ _ a=>OI a) (λ_ _ _ a=>OL a) (λ_=>OM) LL ON OO LM GP (λ_ _ _ _=>LN)
  LO (λ_ _ a b=>GQ a b) eX
end
end Hv
end
section
namespace Hv
open PySem L2 PyProof.Rows
noncomputable abbrev Row:=Str×Nat×(List Val->M Val)
noncomputable def look(fs:List Row)(j:Nat):List Val->M Val:=match fs[j]? with
 | some r=>r.2.2
 | none=>λ_=>bh none
noncomputable def cT(P:Program)(w:World)(B:Bd)(mg:Str->Option Value)(base:Heap)(k:Nat)(fs:List Row):Prop:=∀(j:Nat) (r:Row),fs[j]?=some r->M4 P w B mg base k j r.1 r.2.1 r.2.2
noncomputable def aT(N P:List Str)(sc:Scope):Bool :=
 sc.kind==.function && !sc.isCoroutine && !sc.isGenerator&&decide N.Nodup&&N.take P.length==P&&(P.all λx=>sc.names.lookup x==some .local||sc.names.lookup x==some .cell)&&(sc.names.all λy=>y.2 != .free)
theorem CT(h:aT N P sc=true):o7 N P sc:=by
 unfold aT at h;simp only[and_eq_true,beq_iff_eq,not_eq_true',decide_eq_true_eq,all_eq_true,or_eq_true,bne_iff_ne] at h;obtain⟨⟨⟨⟨⟨⟨h1,h2⟩,h3⟩,h4⟩,h5⟩,h6⟩,h7⟩:=h;exact⟨h1,h2,h3,h4,h5,h6,h7⟩
structure Base (K:PySem.W.Frag) (cl:Nat->Addr) (mg:Str->Option Value) (cons:List (Str×Val)) (tb:Tb):Prop where
 blt:∀x∈gQ,mg x=none
 cons:∀p∈cons,∃v u,mg p.1=some u/\RelV v u/\∀K ρ H,VR K ρ H p.2 v
 cls:∀c,c<tb.nc->BA K (cl c)/\∀x∈tb.Gm,jS K (cl c) x
 Gn:∀p∈tb.Gn,Meth K (cl p.1) p.2.1 (cl (1000+p.2.2))
 EU:∀p∈tb.EU,∃C,mg p.1=some (.ref C)/\KQ K C p.2.1 (cl (1000+p.2.2))
 isc:∀p∈tb.isc,∃C,mg p.1=some (.ref C)/\∀c b,p.2[c]?=some b->WA K (cl c)/\kitOne K (.ref (cl c)) (.ref C)=some b
section
variable {P:Program} {w:World} {K:PySem.W.Frag} {cl:Nat->Addr} {mg:Str->Option Value} {base:Heap} {k:Nat} {fs:List Row} {cons:List (Str×Val)} {tb:Tb}
theorem zu{x qual:Str}{st:Stmt}{f:Addr}{fd:FuncData}{N ps:List Str}{body:fM}(T:Base K cl mg cons tb)(A:cT P w ⟨K,cl⟩ mg base k fs)(F:FJ K x qual st f fd)(hS:aT N ps (aa st)=true)
  (hc:bf ⟨N,aa st,fs.map (λr=>(r.1,r.2.1)),cons,tb⟩ body (ak st)=true):fJ P w K mg base xA (k+2) f fd ps (uo ⟨K,cl⟩ ps.length (ie (look fs) N.length body)):=by
 have S:=CT hS;refine F.ok S (λvs H Q E h=>?_) (λcdv A' outer s H vs Q E hr h=>?_)
 ·obtain⟨ρ,h,ws,h1,_,h2,_⟩:=h;rw[<-h2.length,h1]
 ·obtain⟨ρ,h,ws,hl,r,hv,p⟩:=h
  have lv:=hv.length
  let X:Cx:=(xU xA P w K mg base N qual (aa st) f cdv A' outer s H E).Nx
  have c:LH (look fs) ⟨N,aa st,fs.map (λr=>(r.1,r.2.1)),cons,tb⟩ k X cl (λ_ _ _=>False):=by
   refine { N:=rfl,sc:=rfl,calm:=rfl,room:=hr,lD:=λ_ _ _ z=>z,fns:=λj x n e=>?_,cls:=T.cls,Gn:=T.Gn,EU:=T.EU,isc:=T.isc,cons:=T.cons,blt:=T.blt,fn:=λ_=>rfl,nd:=S.nd,kind:=S.kind,xe:=PassesOwn.never };have e':(fs.map (λr=>(r.1,r.2.1)))[j]?=some (x,n):=e;rw[getElem?_map] at e';cases er:fs[j]? with
   | none=>rw[er] at e';cases e'
   | some r =>rw[er] at e';cases e';have:=A j r er;unfold look;rw[er];exact this
  refine⟨_,CS body _ k X cl _ (ak st) c hc,ρ,ws.map some++replicate (N.length-ws.length) none,h,λi v e=>?_,?_,r,bB p λfl h1 ρ1 H1 g1 r1 p1=>?_⟩
  ·by_cases hi:i<ws.length
   ·rw[getElem?_append_left (by simpa using hi)] at e
    rw[getElem?_map] at e;cases ei:ws[i]? with
    | none=>rw[ei] at e;cases e
    | some w' =>rw[ei] at e;cases e;obtain⟨y,q1,q2⟩:=hv.get ei;refine⟨y,?_,q2⟩;show (vs.map some++_)[i]?=_;rw[getElem?_append_left (by rw[length_map,<-lv];exact hi),getElem?_map,q1];rfl
   ·rw[getElem?_append_right (by simp;omega)] at e;have:=mem_of_getElem? e;rw[List.mem_replicate] at this;exact absurd this.2 (by simp)
  ·show _=(vs.map some++_).length;simp[lv]
  ·cases fl with
   | nx env'=>exact λσ' _ _=>aj r1 p1 _ VR.non
   | rt v=>exact(aj r1 p1:WV K Q v h1 ρ1 H1)
   | bk env'=>exact p1.elim
   | ct env'=>exact p1.elim
theorem _root_.Hv.M4.mono{j:Nat}{n:Nat}(g:M4 P w B mg base k j x n φ):M4 P w B mg base (k+2) j x n φ:=by
 have le:k<=k+2:=Nat.le_add_right _ _
 rcases g with ⟨h,⟨f,fd,ps,q1,q2,q3,q4,q5⟩|⟨c,f,fd,ps,φ0,q0,q1,q2,q3,q4,q5⟩⟩|⟨h,fd,ps,q1,q4,q5⟩
 ·exact .inl ⟨h,.inl ⟨f,fd,ps,q1,q2,q3,q4,q5.mono le⟩⟩
 ·exact .inl ⟨h,.inr ⟨c,f,fd,ps,φ0,q0,q1,q2,q3,q4,q5.mono le⟩⟩
 ·exact .inr ⟨h,fd,ps,q1,q4,q5.mono le⟩
theorem all_nil:cT P w ⟨K,cl⟩ mg base k []:=λj r e=>by simp at e
theorem bS{x qual:Str}{st:Stmt}{f:Addr}{fd:FuncData}{N ps:List Str}{body:fM}(T:Base K cl mg cons tb)(A:cT P w ⟨K,cl⟩ mg base k fs)(F:FJ K x qual st f fd)(hm:mg x=some (.ref f))(hb:Binds K fd ps [])(CU:ps.length<1000)(hS:aT N ps (aa st)=true)
  (hc:bf ⟨N,aa st,fs.map (λr=>(r.1,r.2.1)),cons,tb⟩ body (ak st)=true):cT P w ⟨K,cl⟩ mg base (k+2) (fs++[(x,ps.length,ie (look fs) N.length body)]):=λj r e=>by
 by_cases hj:j<fs.length
 ·rw[getElem?_append_left hj] at e;exact(A j r e).mono
 ·rw[getElem?_append_right (by omega)] at e
  have hj0:j-fs.length=0:=by have:=(List.getElem?_eq_some_iff.mp e).1;simp at this;omega
  rw[hj0] at e;simp at e;subst e;exact .inl ⟨CU,.inl ⟨f,fd,ps,rfl,hm,F.kp,hb,zu T A F hS hc⟩⟩
theorem zv{r0:Row}(A:cT P w ⟨K,cl⟩ mg base k fs)(g:M4 P w ⟨K,cl⟩ mg base (k+2) fs.length r0.1 r0.2.1 r0.2.2):cT P w ⟨K,cl⟩ mg base (k+2) (fs++[r0]):=λj r e=>by
 by_cases hj:j<fs.length
 ·rw[getElem?_append_left hj] at e;exact(A j r e).mono
 ·rw[getElem?_append_right (by omega)] at e
  have hj0:j-fs.length=0:=by have:=(List.getElem?_eq_some_iff.mp e).1;simp at this;omega
  rw[hj0] at e;simp at e;subst e;rw[show j=fs.length by omega];exact g
theorem f9{x qual y:Str}{st:Stmt}{f:Addr}{fd:FuncData}{N ps:List Str}{body:fM}(T:Base K cl mg cons tb)(A:cT P w ⟨K,cl⟩ mg base k fs)(F:FJ K x qual st f fd)(hf:cl (1000+fs.length)=f)(hb:Binds K fd ps [])(hS:aT N ps (aa st)=true)
  (hc:bf ⟨N,aa st,fs.map (λr=>(r.1,r.2.1)),cons,tb⟩ body (ak st)=true):cT P w ⟨K,cl⟩ mg base (k+2) (fs++[(y,1000+ps.length,ie (look fs) N.length body)]):=by
 refine zv (r0:=(y,1000+ps.length,ie (look fs) N.length body)) A (.inr ⟨Nat.le_add_right _ _,fd,ps,?_,hb,?_⟩)
 ·show ps.length=1000+ps.length-1000;omega
 ·show fJ P w K mg base xA (k+2) (cl (1000+fs.length)) fd ps (uo ⟨K,cl⟩ (1000+ps.length-1000) _);rw[hf,show 1000+ps.length-1000=ps.length by omega];exact zu T A F hS hc
theorem all_class{x i qual:Str}{st:Stmt}{f:Addr}{fd:FuncData}{N ps:List Str}{n c:Nat}{body:fM}(T:Base K cl mg cons tb)(A:cT P w ⟨K,cl⟩ mg base k fs)(F:FJ K i qual st f fd)(hm:mg x=some (.ref (cl c)))(M:Mk K (cl c) f)(hb:Binds K fd ps [])(hn:ps.length=n+1)(CU:n<1000)(hS:aT N ps (aa st)=true)
  (hc:bf ⟨N,aa st,fs.map (λr=>(r.1,r.2.1)),cons,tb⟩ body (ak st)=true):cT P w ⟨K,cl⟩ mg base (k+2) (fs++[(x,n,Cz c (ie (look fs) N.length body))]):=by
 refine zv (r0:=(x,n,Cz c (ie (look fs) N.length body))) A (.inl ⟨CU,.inr ⟨c,f,fd,ps,_,rfl,hn,hm,M,hb,?_⟩⟩);rw[<-hn];exact zu T A F hS hc
end
theorem v5{α:Type}:∀{us:List α},us.length=1->∃a,us=[a]
 | [a],_=>⟨a,rfl⟩
theorem fF{α:Type}:∀{us:List α},us.length=2->∃a b,us=[a,b]
 | [a,b],_=>⟨a,b,rfl⟩
theorem IZ{α:Type}:∀{us:List α},us.length=3->∃a b c,us=[a,b,c]
 | [a,b,c],_=>⟨a,b,c,rfl⟩
theorem OP{α:Type}:∀{us:List α},us.length=4->∃a b c d,us=[a,b,c,d]
 | [a,b,c,d],_=>⟨a,b,c,d,rfl⟩
theorem LP{K:PySem.W.Frag}{cl:Nat->Addr}{φ:List Val->M Val}{H:Hp}{a:Addr}{ns:List Int}(hO:Cc H)(hS:gI K H a (ns.map V.int))(h:∃h',φ [.rl (ns.map .int)] []=.ok (.bl true) h') :
  uo ⟨K,cl⟩ 1 φ [.ref a] H (λv _=>v=.bl true) λ_ _ _=>False:=by
 obtain⟨h',e⟩:=h;have sr:IP K H a (ns.map V.int):=by
  rcases hS with (z|z)|z
  ·rcases hO a with y|⟨o,xs,y⟩
   ·rw[y] at z;cases z
   ·rw[y] at z;cases z
  ·exact .inl z
  ·exact .inr (.inr z)
 refine⟨[],[],[.rl (ns.map .int)],rfl,⟨rfl,nodup_nil,λi o a e=>by simp at e⟩,az.cons (by rw[VR];exact⟨a,_,rfl,sr,az.ints.mpr rfl⟩) az.nil,?_⟩;rw[e];intro ρ' H' g r x q;rw[VR] at q;exact q
noncomputable def Rg(K:PySem.W.Frag):Sp:=λvs H Q _=>∃(a:Addr) (ns:List Int),vs=[.ref a]/\Cc H/\gI K H a (ns.map V.int)/\ns.length<=63/\∀H',Q (.bl true) H'
theorem LQ{K:PySem.W.Frag}{cl:Nat->Addr}{φ:List Val->M Val}(hφ:∀ns:List Int,ns.length<=63->∃h',φ [.rl (ns.map .int)] []=.ok (.bl true) h')(vs:List V)(H:Hp)(Q:VK)(E:XK)(h:Rg K vs H Q E):uo ⟨K,cl⟩ 1 φ vs H Q E:=by
 obtain⟨a,ns,rfl,hO,hS,hl,hq⟩:=h;obtain⟨ρ,h,vs,q1,q2,q3,q4⟩:=LP (cl:=cl) hO hS (hφ ns hl);refine⟨ρ,h,vs,q1,q2,q3,?_⟩;revert q4;cases φ vs h with
 | ok v h'=>exact λq4 ρ' H' g r x hx=>by rw[show x=_ from q4 ρ' H' g r x hx];exact hq H'
 | exc c ws h'=>exact λq4=>q4
 | no=>exact λq4=>q4
theorem walk{l:PySem.W.OpenLaw}{q:Program}{loose:List Str}{XP:(Str->Option Value)->Heap->Prop}{YP:World->Heap->Prop}{d:DefRec}{K:Params->PySem.W.Frag}{k:Nat}{x:Str}(hn:l.most=some 63)(hdf:d.params.defaults=[])(hr:dP k callerA)
  (hY:∀(w:World) (h:Heap),YP w h->(K w.params).In h)
  (F:∀(w:World) (mg:Str->Option Value) (fa:Addr) (h:Heap),(K w.params).In h->h.Ns mainGlobals mg->mg d.name=some (.ref fa) ->
   ∃fd:FuncData,(∀(s:Shared) (u:Value),BindsTo s fd ⟨[u],[]⟩ [(x,u)])/\∀base:Heap,(K w.params).In base->base.Ns mainGlobals mg->fJ l.prog w (K w.params) mg base xA k fa fd [x] (Rg (K w.params))) :
  PySem.W.WalkO q loose XP YP l.row.toRowW d [] (λf vs=>PySem.call f vs) :=
 L2.FI (n:=63) (k:=k) (x:=x) (CX:=λ_=>xA) (sp:=λw=>Rg (K w.params)) hn (by decide) hdf hr hY F (λ_ _ a ns hl hO hS=>⟨a,ns,rfl,hO,hS,hl,λ_=>rfl⟩) λ_ _ _ _ _ z=>z
end Hv
end
section
namespace Hv
open PySem L2
inductive Pr (α:Type)
 | ok (a:α)|exc (c:Nat) (ds:List Val)|no
noncomputable def pb{α β:Type}(m:Pr α)(f:α -> Pr β):Pr β:=match m with
 | .ok a=>f a
 | .exc c ds=>.exc c ds
 | .no=>.no
noncomputable def pl{α:Type}(o:Option α):Pr α:=match o with
 | some a=>.ok a
 | none=>.no
noncomputable def pg{α:Type}(c:Bool)(m:Pr α):Pr α:=if c=true then m else .no
inductive Mk
 | sh|nw|ow
noncomputable def lu:Mk->Bool
 | .ow=>false
 | _=>true
noncomputable def M8:Mk->Bool
 | .nw=>true
 | _=>false
noncomputable abbrev bJ:=List (Option (Mk×Val))
noncomputable abbrev FV:=Bool×Val
mutual
noncomputable def ju:Val->Bool
 | .rl _=>false
 | .dc _ _=>false
 | .ob _ _ _=>false
 | .ref _=>false
 | .tup vs=>bD vs
 | .non=>true
 | .bl _=>true
 | .int _=>true
 | .str _=>true
noncomputable def bD:List Val->Bool
 | []=>true
 | v::vs=>ju v&&bD vs
end
noncomputable def fO(f:Bool)(d:Val):Mk:=if (f && !ju d)=true then .nw else .sh
noncomputable def putD(ks:List Key)(ds:List Val)(k:Key)(d:Val):Val:=.dc ((gP (ks.zip ds) k d).map (·.1)) ((gP (ks.zip ds) k d).map (·.2))
noncomputable def lK:IK->Val->Val->Pr FV
 | .add,.int a,.int b=>.ok (true,.int (a+b))
 | .add,.str a,.str b=>pg (decide (a.length+b.length<=sizeLine)) (.ok (true,.str (a++b)))
 | .add,.tup a,.tup b=>pg (!a.isEmpty&&decide (a.length+b.length<=sizeLine)) (.ok (bD (a++b),.tup (a++b)))
 | .add,.rl a,.rl b=>pg (decide (a.length+b.length<=sizeLine)) (.ok (bD (a++b),.rl (a++b)))
 | .sub,.int a,.int b=>.ok (true,.int (a-b))
 | .mul,.int a,.int b=>pg (lg a b) (.ok (true,.int (a*b)))
 | .fdiv,.int a,.int b=>pg (gy b) (.ok (true,.int (a/b)))
 | .mod,.int a,.int b=>pg (decide (0<b)) (.ok (true,.int (a%b)))
 | .pow,.int a,.int b=>pg (decide (0<=b/\b<=1000000/\a.natAbs<2 ^ 64)) (.ok (true,.int (a ^ b.toNat)))
 | _,_,_=>.no
noncomputable def Bb(v:Val)(lo hi:Option Int):Pr FV:=match v with
 | .tup vs=>pg (!(decide (HT.eZ vs.length 0 lo=0)&&decide (HT.eZ vs.length vs.length hi=vs.length))) (.ok (bD (fZ vs lo hi),.tup (fZ vs lo hi)))
 | .rl vs=>.ok (bD (fZ vs lo hi),.rl (fZ vs lo hi))
 | _=>.no
noncomputable def gb:Bl->List Val->Pr FV
 | .len,[v]=>pb (pl (mj [] v)) λn=>.ok (true,.int n)
 | .min,[.int a,.int b]=>.ok (true,.int (if b<a then b else a))
 | .max,[.int a,.int b]=>.ok (true,.int (if b>a then b else a))
 | .min,[v]=>pb (pl (cU [] v)) λxs=>pb (pl ((aV xs).bind ue)) λm=>.ok (true,m)
 | .max,[v]=>pb (pl (cU [] v)) λxs=>pb (pl ((aV xs).bind uf)) λm=>.ok (true,m)
 | .sorted,[.rl xs]=>pb (pl (fE xs)) λys=>.ok (true,.rl ys)
 | .list,[v]=>pb (pl (cU [] v)) λxs=>.ok (bD xs,.rl xs)
 | .tuple,[v]=>pb (pl (cU [] v)) λxs=>.ok (bD xs,.tup xs)
 | .str,[.int i]=>pg (decide (i.natAbs.log2<1920)) (.ok (true,.str (toString i)))
 | .int,[.bl b]=>.ok (true,.int (if b=true then 1 else 0))
 | .int,[.int i]=>.ok (true,.int i)
 | .all,[.rl xs]=>pb (pl (cu xs)) λbs=>.ok (true,.bl (bs.all id))
 | .any,[.rl xs]=>pb (pl (cu xs)) λbs=>.ok (true,.bl (bs.any id))
 | .isin T,[v]=>pb (pl (vH [] v)) λt=>pb (pl (vI T t)) λb=>.ok (true,.bl b)
 | _,_=>.no
noncomputable def jY:Ik->List Val->Option (List Val)
 | .seq,[.tup vs]=>some vs
 | .seq,[.rl vs]=>some vs
 | .range,[.int n]=>if inR n then some (cE 0 n.toNat) else none
 | .range,[.int a,.int b]=>if inR a&&inR b then some (cE a (b-a).toNat) else none
 | .enum,[.rl vs]=>some (cV 0 vs)
 | _,_=>none
noncomputable def CV(k:Ik)(ds:List Val):Option (List Val):=match k with
 | .zip=>none
 | k=>jY k ds
noncomputable def cJ:List Nat->List Val->bJ->Option bJ
 | [],[],env=>some env
 | i::is,d::ds,env=>cJ is ds (env.set i (some (.sh,d)))
 | _,_,_=>none
noncomputable def fG:za->Val->bJ->Option bJ
 | .one i,d,env=>some (env.set i (some (.sh,d)))
 | .tup is,.tup ds,env=>cJ is ds env
 | _,_,_=>none
noncomputable def gc(js:List (Option Nat))(env:bJ):bJ:=js.map λo=>match o with
 | none=>none
 | some j=>match env[j]? with
  | some (some d)=>some d
  | _=>none
noncomputable def jI(f:Val->Pr (Option FV)):List Val->Pr (Bool×List Val)
 | []=>.ok (true,[])
 | x::r=>pb (f x) λo=>pb (jI f r) λp=>.ok (match o with|some e=>(e.1&&p.1,e.2::p.2)|none=>p)
noncomputable def oA:Val->Pr Bool
 | .bl b=>.ok b
 | _=>.no
noncomputable def ig(env:bJ):IE->Option FV
 | .var i=>match env[i]? with
  | some (some (_,d))=>some (ju d,d)
  | _=>none
 | _=>none
noncomputable def isVar:IE->Bool
 | .var _=>true
 | _=>false
mutual
noncomputable def bz(Ψ:Nat->List Val->Pr FV):IE->bJ->Pr FV
 | .var i,env=>match env[i]? with
  | some (some (m,d))=>pg (lu m) (.ok (ju d,d))
  | _=>.no
 | .cst d,_=>.ok (ju d,d)
 | .con _ d,_=>.ok (ju d,d)
 | .no,_=>.no
 | .bin o a b,env=>pb (if isVar a=true then pl (ig env a) else bz Ψ a env) λx=>pb (if isVar b=true then pl (ig env b) else bz Ψ b env) λy=>lK o x.2 y.2
 | .neg a,env=>pb (bz Ψ a env) λx=>match x.2 with
  | .int i=>.ok (true,.int (-i))
  | _=>.no
 | .cmp o a b,env=>pb (if isVar a=true then pl (ig env a) else bz Ψ a env) λx=>pb (if isVar b=true then pl (ig env b) else bz Ψ b env) λy=>pb (pl (cop [] o x.2 y.2)) λt=>.ok (true,.bl t)
 | .chn o p a b c,env=>pb (bz Ψ a env) λx=>pb (bz Ψ b env) λy=>pb (pl (cop [] o x.2 y.2)) λt =>
  if t=true then pb (bz Ψ c env) λz=>pb (pl (cop [] p y.2 z.2)) λt=>.ok (true,.bl t) else .ok (true,.bl false)
 | .and a b,env=>pb (bz Ψ a env) λx=>pb (oA x.2) λt=>if t=true then pb (bz Ψ b env) λy=>pb (oA y.2) λu=>.ok (true,.bl u) else .ok (true,.bl false)
 | .or a b,env=>pb (bz Ψ a env) λx=>pb (oA x.2) λt=>if t=true then .ok (true,.bl true) else pb (bz Ψ b env) λy=>pb (oA y.2) λu=>.ok (true,.bl u)
 | .not a,env=>pb (bz Ψ a env) λx=>pb (oA x.2) λt=>.ok (true,.bl (!t))
 | .ite _ _ _,_=>.no
 | .tup es,env=>pb (qz Ψ es env) λp=>pg (decide (p.2.length<=sizeLine)) (.ok (p.1,.tup p.2))
 | .lst es,env=>pb (qz Ψ es env) λp=>pg (decide (p.2.length<=sizeLine)) (.ok (p.1,.rl p.2))
 | .idx a b,env=>pb (if isVar a=true then pl (ig env a) else bz Ψ a env) λx=>pb (bz Ψ b env) λy=>pb (pl (mh [] x.2 y.2)) λz=>.ok (ju z,z)
 | .slc a lo hi,env=>pb (if isVar a=true then pl (ig env a) else bz Ψ a env) λx=>pb (if cS lo=true then .ok none else pb (bz Ψ lo env) λv=>pb (pl (iU v.2)) λi=>.ok (some i)) λl =>
   pb (if cS hi=true then .ok none else pb (bz Ψ hi env) λv=>pb (pl (iU v.2)) λi=>.ok (some i)) λu=>Bb x.2 l u
 | .call j es,env=>pb (qz Ψ es env) λp=>Ψ j p.2
 | .blt b es,env=>pb (gB Ψ es env) λds=>gb b ds
 | .met m a es,env=>match m with
  | .join=>.no
  | _=>.no
 | .comp _ js pat k it c elt,env=>pb (gB Ψ it env) λits=>pb (pl (CV k its)) λxs=>pg (decide (xs.length<=100000))
   (pb (jI (λd=>pb (pl (fG pat d (gc js env))) λenv'=>pb (if cS c=true then .ok true else pb (bz Ψ c env') λv=>pl (dQ [] v.2)) λt =>
    if t=true then pb (bz Ψ elt env') λe=>.ok (some e) else .ok none) xs) λp=>.ok (p.1,.rl p.2))
 | .dct0,_=>.ok (true,.dc [] [])
 | .sset a,env=>pb (if isVar a=true then pl (ig env a) else bz Ψ a env) λx=>match x.2 with
  | .rl xs=>pb (pl (aV xs)) λns=>pg (decide (ns.length<64)) (.ok (true,.rl ((PySem.W.sortI (L2.eW [] ns)).map .int)))
  | _=>.no
 | .dget d k x,env=>pb (if isVar d=true then pl (ig env d) else bz Ψ d env) λo=>pb (pl (Ge [] o.2)) λ_=>pb (bz Ψ k env) λi=>pb (pl (keyOf i.2)) λkk=>pb (bz Ψ x env) λz=>pb (pl (Cy [] o.2 kk)) λr=>.ok (ju (r.getD z.2),r.getD z.2)
 | .dct1 k v,env=>pb (bz Ψ k env) λx=>pb (pl (keyOf x.2)) λkk=>pb (bz Ψ v env) λy=>.ok (y.1,.dc [kk] [y.2])
 | .lkeys d,env=>pb (if isVar d=true then pl (ig env d) else bz Ψ d env) λo=>pb (pl (vG [] o.2)) λks=>.ok (true,.rl (ks.map Gf))
 | .sdef ..,_=>.no
 | .svals _,_=>.no
 | .skeys d,env=>pb (if isVar d=true then pl (ig env d) else bz Ψ d env) λo=>pb (pl (uh [] o.2)) λns=>.ok (true,.rl (ns.map .int))
 | .fld n a x,env=>pb (if isVar a=true then pl (ig env a) else bz Ψ a env) λo=>pb (pl (iG n [] o.2 x)) λz=>.ok (ju z,z)
 | .mth a m js es,env=>pb (bz Ψ a env) λo=>pb (pl (kR [] o.2 m js)) λj=>pb (qz Ψ es env) λp=>Ψ j (o.2::p.2)
 | .rev a s,env=>pb (if isVar a=true then pl (ig env a) else bz Ψ a env) λx=>pb (if cS s=true then .ok none else pb (bz Ψ s env) λv=>pb (pl (iU v.2)) λi=>.ok (some i)) λk =>
   pg (decide (k=some (-1))) (match x.2 with
    | .rl vs=>.ok (bD vs.reverse,.rl vs.reverse)
    | _=>.no)
 | .dflt _ _ _ _ _ _,_=>.no
 | .isc _ _ _,_=>.no
noncomputable def qz(Ψ:Nat->List Val->Pr FV):oq->bJ->Pr (Bool×List Val)
 | .nil,_=>.ok (true,[])
 | .cons e es,env=>pb (bz Ψ e env) λd=>pb (qz Ψ es env) λp=>.ok (d.1&&p.1,d.2::p.2)
noncomputable def gB(Ψ:Nat->List Val->Pr FV):oq->bJ->Pr (List Val)
 | .nil,_=>.ok []
 | .cons e es,env=>pb (if isVar e=true then pl (ig env e) else bz Ψ e env) λd=>pb (gB Ψ es env) λp=>.ok (d.2::p)
end
noncomputable def CW(Ψ:Nat->List Val->Pr FV)(e:IE)(env:bJ):Pr FV:=if isVar e=true then pl (ig env e) else bz Ψ e env
inductive EW
 | nx (env:bJ)|rt (p:FV)|bk (env:bJ)|ct (env:bJ)
mutual
noncomputable def qA:IS->List Nat
 | .expr (.met .append (.var i) _)=>[i]
 | .expr (.met .extend (.var i) _)=>[i]
 | .gO (.var i) _ _=>[i]
 | .iff _ a b=>fH a++fH b
 | .for _ _ _ b=>fH b
 | .whl _ _ b=>fH b
 | _=>[]
noncomputable def fH:fM->List Nat
 | .nil=>[]
 | .cons s r=>qA s++fH r
end
noncomputable def stored:za->List Nat
 | .one i=>[i]
 | .tup is=>is
mutual
noncomputable def nO:IS->List Nat
 | .asg p _=>stored p
 | .aug i _ _=>[i]
 | .iff _ a b=>jZ a++jZ b
 | .for p _ _ b=>stored p++jZ b
 | .whl _ _ b=>jZ b
 | _=>[]
noncomputable def jZ:fM->List Nat
 | .nil=>[]
 | .cons s r=>nO s++jZ r
end
noncomputable def Rh:IE->Bool
 | .lst _=>true
 | .comp ..=>true
 | .slc ..=>true
 | .blt .list _=>true
 | .blt .sorted _=>true
 | .dct0=>true
 | .dct1 ..=>true
 | _=>false
noncomputable def nQ(body:Val->bJ->Pr EW):List Val->bJ->Pr EW
 | [],env=>.ok (.nx env)
 | x::r,env=>pb (body x env) λf=>match f with
  | .nx env'=>nQ body r env'
  | .ct env'=>nQ body r env'
  | .bk env'=>.ok (.nx env')
  | .rt p=>.ok (.rt p)
noncomputable def xB:Mk->Mk
 | .ow=>.sh
 | m=>m
noncomputable def LR:Option (Mk×Val)->Option (Mk×Val)
 | none=>none
 | some (m,d)=>some (xB m,d)
noncomputable def rN(env:bJ):bJ:=env.map LR
noncomputable def M9(Ψ:Nat->List Val->Pr FV)(e:IE)(env:bJ):Pr FV:=match e with
 | .var i=>match env[i]? with
  | some (some (m,d))=>if lu m=true then .ok (ju d||M8 m,d) else match d with
   | .rl ds=>.ok (bD ds,.rl ds)
   | .dc ks ds=>.ok (bD ds,.dc ks ds)
   | _=>.no
  | _=>.no
 | .call j es=>bz Ψ (.call j es) (rN env)
 | .tup es=>bz Ψ (.tup es) (rN env)
 | e=>bz Ψ e env
noncomputable def sN(p:za)(it:oq)(body:fM):Bool:=match it with
 | .cons (.var i) .nil=>!(fH body).contains i && !(jZ body).contains i && !(stored p).contains i
 | _=>true
mutual
noncomputable def aQ(Ψ:Nat->List Val->Pr FV)(ms:List Nat):IS->bJ->Pr EW
 | .expr e,env=>match e with
  | .met .append (.var i) (.cons a .nil)=>match env[i]? with
   | some (some (.ow,.rl ds))=>pb (bz Ψ a env) λx=>pg (decide (ds.length<sizeLine)) (.ok (.nx (env.set i (some (.ow,.rl (ds++[x.2]))))))
   | _=>.no
  | .met .extend (.var i) (.cons a .nil)=>match env[i]? with
   | some (some (.ow,.rl ds))=>pb (bz Ψ a env) λx=>match x.2 with
    | .tup vs=>pg (decide (ds.length+vs.length<=sizeLine)) (.ok (.nx (env.set i (some (.ow,.rl (ds++vs))))))
    | _=>.no
   | _=>.no
  | e=>pb (bz Ψ e env) λ_=>.ok (.nx env)
 | .asg p e,env=>match p with
  | .one i=>if ms.contains i=true then pg (Rh e) (pb (bz Ψ e env) λx=>match x.2 with
    | .rl ds=>.ok (.nx (env.set i (some (.ow,.rl ds))))
    | .dc ks ds=>.ok (.nx (env.set i (some (.ow,.dc ks ds))))
    | _=>.no) else pb (bz Ψ e env) λx=>.ok (.nx (env.set i (some (fO x.1 x.2,x.2))))
  | .tup is=>pg (is.all λi=>!ms.contains i) (pb (bz Ψ e env) λx=>pb (pl (fG (.tup is) x.2 env)) λenv'=>.ok (.nx env'))
 | .aug _ _ _,_=>.no
 | .gO o i v,env=>match o with
  | .var j=>pb (bz Ψ v env) λx=>match env[j]? with
   | some (some (.ow,.rl ds))=>pb (bz Ψ i env) λz=>pb (pl (iU z.2)) λk=>pb (pl (As ds.length k)) λn=>.ok (.nx (env.set j (some (.ow,.rl (ds.set n x.2)))))
   | some (some (.ow,.dc ks ds))=>pb (bz Ψ i env) λz=>pb (pl (keyOf z.2)) λk=>pg (decide (ks.length<sizeLine)) (.ok (.nx (env.set j (some (.ow,putD ks ds k x.2)))))
   | _=>.no
  | _=>.no
 | .iff c a b,env=>pb (CW Ψ c env) λx=>pb (pl (dQ [] x.2)) λt=>if t=true then aN Ψ ms a env else aN Ψ ms b env
 | .for p k it body,env=>pg (sN p it body&&(stored p).all λi=>!ms.contains i) (pb (gB Ψ it env) λits=>pb (pl (jY k its)) λxs =>
   nQ (λx env=>pb (pl (fG p x env)) λenv'=>aN Ψ ms body env') xs env)
 | .whl _ _ _,_=>.no
 | .ret e,env=>pb (M9 Ψ e env) λp=>.ok (.rt p)
 | .Gb,_=>.ok (.rt (true,.non))
 | .brk,env=>.ok (.bk env)
 | .cnt,env=>.ok (.ct env)
 | .pass,env=>.ok (.nx env)
 | .never,_=>.no
 | .setF _ _ _ _,_=>.no
noncomputable def aN(Ψ:Nat->List Val->Pr FV)(ms:List Nat):fM->bJ->Pr EW
 | .nil,env=>.ok (.nx env)
 | .cons s r,env=>pb (aQ Ψ ms s env) λf=>match f with
  | .nx env'=>aN Ψ ms r env'
  | f=>.ok f
end
noncomputable def e9(Ψ:Nat->List Val->Pr FV)(n:Nat)(body:fM)(ds:List Val):Pr FV :=
 pb (aN Ψ (fH body) body (ds.map (λd=>some (.sh,d))++replicate (n-ds.length) none)) λf=>match f with
  | .nx _=>.ok (true,.non)
  | .rt p=>.ok p
  | _=>.no
end Hv
end
section
namespace Hv
open PySem L2
noncomputable abbrev AP:=Option Nat->Prop
noncomputable def Fr(n:Nat):AP:=λo=>match o with
 | none=>False
 | some k=>n<=k
theorem Fr.le{n m:Nat}(h:n<=m):∀o,Fr m o->Fr n o
 | none,e=>e
 | some k,e=>le_trans h e
mutual
noncomputable def Dn(A:AP)(h:Hs):Val->Val->Prop
 | .non,v=>v=.non
 | .bl b,v=>v=.bl b
 | .int i,v=>v=.int i
 | .str x,v=>v=.str x
 | .tup ds,v=>∃vs,v=.tup vs/\aq A h ds vs
 | .rl ds,v=>(∃vs,v=.rl vs/\A none/\aq A h ds vs)\/∃i vs,v=.ref i/\A (some i)/\h[i]?=some (.lst vs)/\aq A h ds vs
 | .dc ks ds,v=>∃i kvs,v=.ref i/\A (some i)/\h[i]?=some (.dct kvs)/\kvs.map (·.1)=ks/\aq A h ds (kvs.map (·.2))
 | .ob c xs ds,v=>∃i fs,v=.ref i/\A (some i)/\h[i]?=some (.ins c fs)/\fs.map (·.1)=xs/\aq A h ds (fs.map (·.2))
 | .ref _,_=>False
noncomputable def aq(A:AP)(h:Hs):List Val->List Val->Prop
 | [],vs=>vs=[]
 | d::ds,vs=>∃v r,vs=v::r/\Dn A h d v/\aq A h ds r
end
section
variable {A A':AP} {h h' h1:Hs}
mutual
theorem Dn.mono(hA:∀i,A i->A' i)(hh:∀(i:Nat) (o:Ob),A (some i)->h[i]?=some o->h'[i]?=some o):∀(d v:Val),Dn A h d v->Dn A' h' d v
 | .non,v,e=>by rw[Dn] at e |-;exact e
 | .bl _,v,e=>by rw[Dn] at e |-;exact e
 | .int _,v,e=>by rw[Dn] at e |-;exact e
 | .str _,v,e=>by rw[Dn] at e |-;exact e
 | .tup ds,v,e=>by
  rw[Dn] at e |-;obtain⟨vs,rfl,q⟩:=e;exact⟨vs,rfl,aq.mono hA hh ds vs q⟩
 | .rl ds,v,e=>by
  rw[Dn] at e |-
  rcases e with ⟨vs,rfl,n,q⟩|⟨i,vs,rfl,a,g,q⟩
  ·exact .inl ⟨vs,rfl,hA _ n,aq.mono hA hh ds vs q⟩
  ·exact .inr ⟨i,vs,rfl,hA _ a,hh i _ a g,aq.mono hA hh ds vs q⟩
 | .dc ks ds,v,e=>by
  rw[Dn] at e |-;obtain⟨i,kvs,rfl,a,g,k,q⟩:=e;exact⟨i,kvs,rfl,hA _ a,hh i _ a g,k,aq.mono hA hh ds _ q⟩
 | .ob c xs ds,v,e=>by
  rw[Dn] at e |-;obtain⟨i,kvs,rfl,a,g,k,q⟩:=e;exact⟨i,kvs,rfl,hA _ a,hh i _ a g,k,aq.mono hA hh ds _ q⟩
 | .ref _,v,e=>by rw[Dn] at e;exact e.elim
theorem aq.mono(hA:∀i,A i->A' i)(hh:∀(i:Nat) (o:Ob),A (some i)->h[i]?=some o->h'[i]?=some o):∀(ds vs:List Val),aq A h ds vs->aq A' h' ds vs
 | [],vs,e=>by rw[aq] at e |-;exact e
 | d::ds,vs,e=>by
  rw[aq] at e |-;obtain⟨v,r,rfl,q1,q2⟩:=e;exact⟨v,r,rfl,Dn.mono hA hh d v q1,aq.mono hA hh ds r q2⟩
end
theorem cI{i:Nat}(p:h<+:h')(e:h[i]?=some o):h'[i]?=some o:=by
 obtain⟨t,rfl⟩:=p;have hi:i<h.length:=(List.getElem?_eq_some_iff.mp e).1;rw[getElem?_append_left hi];exact e
theorem Dn.ext(p:h<+:h')(e:Dn A h d v):Dn A h' d v:=Dn.mono (λ_ a=>a) (λ_ _ _ q=>cI p q) d v e
theorem aq.ext(p:h<+:h')(e:aq A h d v):aq A h' d v:=aq.mono (λ_ a=>a) (λ_ _ _ q=>cI p q) d v e
theorem Dn.iz(hA:∀i,A i->A' i)(e:Dn A h d v):Dn A' h d v:=Dn.mono hA (λ_ _ _ q=>q) d v e
theorem aq.iz(hA:∀i,A i->A' i)(e:aq A h d v):aq A' h d v:=aq.mono hA (λ_ _ _ q=>q) d v e
mutual
theorem iJ:∀(d v:Val),ju d=true->(Dn A h d v↔v=d)
 | .non,v,_=>by rw[Dn]
 | .bl _,v,_=>by rw[Dn]
 | .int _,v,_=>by rw[Dn]
 | .str _,v,_=>by rw[Dn]
 | .tup ds,v,e=>by
  rw[ju] at e;rw[Dn];constructor
  ·rintro⟨vs,rfl,q⟩;rw[(aX ds vs e).mp q]
  ·rintro rfl;exact⟨ds,rfl,(aX ds ds e).mpr rfl⟩
 | .rl _,v,e=>by rw[ju] at e;cases e
 | .dc _ _,v,e=>by rw[ju] at e;cases e
 | .ob _ _ _,v,e=>by rw[ju] at e;cases e
 | .ref _,v,e=>by rw[ju] at e;cases e
theorem aX:∀(ds vs:List Val),bD ds=true->(aq A h ds vs↔vs=ds)
 | [],vs,_=>by rw[aq]
 | d::ds,vs,e=>by
  rw[bD,and_eq_true] at e;rw[aq];constructor
  ·rintro⟨v,r,rfl,q1,q2⟩;rw[(iJ d v e.1).mp q1,(aX ds r e.2).mp q2]
  ·rintro rfl;exact⟨d,ds,rfl,(iJ d d e.1).mpr rfl,(aX ds ds e.2).mpr rfl⟩
end
theorem aq.nil:aq A h [] []:=by rw[aq]
theorem aq.cons{d v:Val}{ds vs:List Val}(a:Dn A h d v)(b:aq A h ds vs):aq A h (d::ds) (v::vs):=by rw[aq];exact⟨v,vs,rfl,a,b⟩
theorem aq.length:∀{ds vs:List Val},aq A h ds vs->ds.length=vs.length
 | [],vs,e=>by rw[aq] at e;subst e;rfl
 | d::ds,vs,e=>by rw[aq] at e;obtain⟨v,r,rfl,_,q⟩:=e;simp[aq.length q]
theorem aq.get:∀{ds vs:List Val} {i:Nat} {d:Val},aq A h ds vs->ds[i]?=some d->∃v,vs[i]?=some v/\Dn A h d v
 | [],vs,i,d,e,q=>by simp at q
 | c::ds,vs,0,d,e,q=>by
  rw[aq] at e;obtain⟨v,r,rfl,a,_⟩:=e;simp at q;subst q;exact⟨v,rfl,a⟩
 | c::ds,vs,i+1,d,e,q=>by
  rw[aq] at e;obtain⟨v,r,rfl,_,b⟩:=e;simp at q;obtain⟨w,q1,q2⟩:=aq.get b q;exact⟨w,by simpa using q1,q2⟩
theorem aq.append:∀{ds es vs ws:List Val},aq A h ds vs->aq A h es ws->aq A h (ds++es) (vs++ws)
 | [],es,vs,ws,e,q=>by rw[aq] at e;subst e;exact q
 | d::ds,es,vs,ws,e,q=>by
  rw[aq] at e;obtain⟨v,r,rfl,a,b⟩:=e;exact aq.cons a (aq.append b q)
theorem aq.take:∀{ds vs:List Val} (n:Nat),aq A h ds vs->aq A h (ds.take n) (vs.take n)
 | _,_,0,_=>by simp;exact aq.nil
 | [],vs,n+1,e=>by rw[aq] at e;subst e;simp;exact aq.nil
 | d::ds,vs,n+1,e=>by
  rw[aq] at e;obtain⟨v,r,rfl,a,b⟩:=e;exact aq.cons a (aq.take n b)
theorem aq.drop:∀{ds vs:List Val} (n:Nat),aq A h ds vs->aq A h (ds.drop n) (vs.drop n)
 | _,_,0,e=>by simpa using e
 | [],vs,n+1,e=>by rw[aq] at e;subst e;simp;exact aq.nil
 | d::ds,vs,n+1,e=>by
  rw[aq] at e;obtain⟨v,r,rfl,a,b⟩:=e;exact aq.drop n b
theorem aq.cut(lo hi:Option Int)(e:aq A h ds vs):aq A h (fZ ds lo hi) (fZ vs lo hi):=by
 unfold fZ;rw[e.length];exact aq.take _ (aq.drop _ e)
theorem aq.app:∀{ds es vs ws:List Val},aq A h ds vs->aq A h es ws->aq A h (ds++es) (vs++ws)
 | [],_,vs,_,e,q=>by rw[aq] at e;subst e;exact q
 | d::ds,_,vs,_,e,q=>by
  rw[aq] at e;obtain⟨v,r,rfl,a,b⟩:=e;rw[cons_append,cons_append,aq];exact⟨v,_,rfl,a,aq.app b q⟩
theorem aq.rev:∀{ds vs:List Val},aq A h ds vs->aq A h ds.reverse vs.reverse
 | [],vs,e=>by rw[aq] at e;subst e;exact aq.nil
 | d::ds,vs,e=>by
  rw[aq] at e;obtain⟨v,r,rfl,a,b⟩:=e;rw[reverse_cons,reverse_cons];refine aq.app (aq.rev b) ?_;rw[aq];exact⟨v,[],rfl,a,by rw[aq]⟩
theorem aq.set:∀{ds vs:List Val} (n:Nat) {d v:Val},aq A h ds vs->Dn A h d v->aq A h (ds.set n d) (vs.set n v)
 | [],vs,n,d,v,e,q=>by rw[aq] at e;subst e;simp;exact aq.nil
 | c::ds,vs,0,d,v,e,q=>by
  rw[aq] at e;obtain⟨w,r,rfl,a,b⟩:=e;exact aq.cons q b
 | c::ds,vs,n+1,d,v,e,q=>by
  rw[aq] at e;obtain⟨w,r,rfl,a,b⟩:=e;exact aq.cons a (aq.set n b q)
theorem aq.iR{i:Int}(e:aq A h ds vs)(q:L2.iR ds i=some d):∃v,L2.iR vs i=some v/\Dn A h d v:=by
 unfold L2.iR at q |-;rw[e.length] at q;cases hi:L2.As vs.length i with
 | none=>rw[hi] at q;cases q
 | some n=>rw[hi] at q;exact aq.get e q
theorem aq.one(e:aq A h [d] vs):∃v,vs=[v]/\Dn A h d v:=by
 rw[aq] at e;obtain⟨v,r,rfl,a,b⟩:=e;rw[aq] at b;subst b;exact⟨v,rfl,a⟩
noncomputable def OD(A:AP)(h:Hs)(d:Val)(a:Nat):Prop:=match d with
 | .rl ds=>∃vs,h[a]?=some (.lst vs)/\aq A h ds vs
 | .dc ks ds=>∃kvs,h[a]?=some (.dct kvs)/\kvs.map (·.1)=ks/\aq A h ds (kvs.map (·.2))
 | _=>False
theorem OD.mono{a:Nat}(e:OD A h d a)(ho:∀o,h[a]?=some o->h'[a]?=some o)(hq:∀ds vs,aq A h ds vs->aq A' h' ds vs):OD A' h' d a:=by
 cases d with
 | rl ds=>obtain⟨vs,g,q⟩:=e;exact⟨vs,ho _ g,hq _ _ q⟩
 | dc ks ds=>obtain⟨kvs,g,k,q⟩:=e;exact⟨kvs,ho _ g,k,hq _ _ q⟩
 | _=>exact False.elim e
theorem OD.ext{a:Nat}(p:h<+:h')(e:OD A h d a):OD A h' d a:=e.mono (λ_ g=>cI p g) λ_ _ q=>q.ext p
theorem OD.lt{a:Nat}(e:OD A h d a):a<h.length:=by
 cases d with
 | rl ds=>obtain⟨vs,g,q⟩:=e;exact(List.getElem?_eq_some_iff.mp g).1
 | dc ks ds=>obtain⟨kvs,g,k,q⟩:=e;exact(List.getElem?_eq_some_iff.mp g).1
 | _=>exact False.elim e
theorem OD.dn{a:Nat}(e:OD A h d a)(ha:A (.some a)):Dn A h d (.ref a):=by
 cases d with
 | rl ds=>obtain⟨vs,g,q⟩:=e;rw[Dn];exact .inr ⟨a,vs,rfl,ha,g,q⟩
 | dc ks ds=>obtain⟨kvs,g,k,q⟩:=e;rw[Dn];exact⟨a,kvs,rfl,ha,g,k,q⟩
 | _=>exact False.elim e
noncomputable def OB(A:AP)(h:Hs)(d:Val)(o:Ob):Prop:=match d with
 | .rl ds=>∃vs,o=.lst vs/\aq A h ds vs
 | .dc ks ds=>∃kvs,o=.dct kvs/\kvs.map (·.1)=ks/\aq A h ds (kvs.map (·.2))
 | _=>False
theorem OB.od{a:Nat}(e:OB A h d o)(g:h'[a]?=.some o)(hq:∀ds vs,aq A h ds vs->aq A' h' ds vs):OD A' h' d a:=by
 cases d with
 | rl ds=>obtain⟨vs,rfl,q⟩:=e;exact⟨vs,g,hq _ _ q⟩
 | dc ks ds=>obtain⟨kvs,rfl,k,q⟩:=e;exact⟨kvs,g,k,hq _ _ q⟩
 | _=>exact False.elim e
noncomputable def DB(A:AP)(h:Hs)(d v:Val):Prop:=Dn A h d v\/∃i,v=.ref i/\OD A h d i
theorem DB.all(e:DB A h d v):Dn (λ_=>True) h d v:=by
 rcases e with e|⟨i,rfl,q⟩
 ·exact e.iz λ_ _=>trivial
 ·exact(q.mono (A':=λ_=>True) (λ_ g=>g) λ_ _ z=>z.iz λ_ _=>trivial).dn trivial
theorem DB.ext(p:h<+:h')(e:DB A h d v):DB A h' d v:=by
 rcases e with e|⟨i,rfl,q⟩
 ·exact .inl (e.ext p)
 ·exact .inr ⟨i,rfl,q.ext p⟩
theorem DB.dc(e:DB A h (.dc ks ds) v):∃i kvs,v=.ref i/\h[i]?=some (.dct kvs)/\kvs.map (·.1)=ks/\aq A h ds (kvs.map (·.2)):=by
 rcases e with e|⟨i,rfl,kvs,g,k,q⟩
 ·rw[Dn] at e;obtain⟨i,kvs,rfl,_,g,k,q⟩:=e;exact⟨i,kvs,rfl,g,k,q⟩
 ·exact⟨i,kvs,rfl,g,k,q⟩
theorem DB.lst(e:DB A h (.rl ds) v):∃vs,aB h v=some vs/\aq A h ds vs:=by
 rcases e with e|⟨i,rfl,vs,g,q⟩
 ·rw[Dn] at e
  rcases e with ⟨vs,rfl,_,q⟩|⟨i,vs,rfl,_,g,q⟩
  ·exact⟨vs,rfl,q⟩
  ·exact⟨vs,by simp[aB,g],q⟩
 ·exact⟨vs,by simp[aB,g],q⟩
theorem DB.seq(e:DB A h d v)(q:cU [] d=some ds):∃vs,cU h v=some vs/\aq A h ds vs:=by
 cases d with
 | tup es =>
  simp only[cU] at q;cases q
  rcases e with e|⟨_,_,e1⟩
  ·rw[Dn] at e;obtain⟨vs,rfl,q⟩:=e;exact⟨vs,rfl,q⟩
  ·exact False.elim e1
 | rl es =>simp only[cU,aB] at q;cases q;obtain⟨vs,q1,q2⟩:=e.lst;refine⟨vs,?_,q2⟩;cases v<;>first|(simp[aB] at q1;done)|exact q1
 | ref i=>simp[cU,aB] at q
 | _=>simp[cU,aB] at q
theorem DB.int{i:Int}(e:DB A h (.int i) v):v=.int i:=by
 rcases e with e|⟨_,_,e1⟩
 ·rw[Dn] at e;exact e
 ·exact False.elim e1
theorem DB.str(e:DB A h (.str i) v):v=.str i:=by
 rcases e with e|⟨_,_,e1⟩
 ·rw[Dn] at e;exact e
 ·exact False.elim e1
theorem DB.bl{i:Bool}(e:DB A h (.bl i) v):v=.bl i:=by
 rcases e with e|⟨_,_,e1⟩
 ·rw[Dn] at e;exact e
 ·exact False.elim e1
theorem DB.tup(e:DB A h (.tup ds) v):∃vs,v=.tup vs/\aq A h ds vs:=by
 rcases e with e|⟨_,_,e1⟩
 ·rw[Dn] at e;exact e
 ·exact False.elim e1
theorem ux:∀(n:Nat) (d v:Val) (p:PyData),Dn (λ_=>True) h d v->toD n [] d=some p->toD n h v=some p:=by
 intro n
 induction n with
 | zero=>intro d v p _ e;simp[toD] at e
 | succ n ih =>
  have all:∀(ds vs:List Val) (ps:List PyData),aq (λ_=>True) h ds vs->ck (toD n []) ds=some ps->ck (toD n h) vs=some ps:=by
   intro ds
   induction ds with
   | nil=>intro vs ps q e;rw[aq] at q;subst q;exact e
   | cons d ds YJ =>intro vs ps q e;rw[aq] at q;obtain⟨v,r,rfl,q1,q2⟩:=q;simp only[ck] at e |-;obtain⟨x,e1,e⟩:=bind_eq_some_iff.mp e;obtain⟨xs,e2,e⟩:=bind_eq_some_iff.mp e;rw[ih d v x q1 e1,YJ r xs q2 e2];exact e
  intro d v p q e;cases d with
  | non=>rw[Dn] at q;subst q;exact e
  | bl b=>rw[Dn] at q;subst q;exact e
  | int b=>rw[Dn] at q;subst q;exact e
  | str b=>rw[Dn] at q;subst q;exact e
  | tup ds =>rw[Dn] at q;obtain⟨vs,rfl,q⟩:=q;simp only[toD] at e |-;obtain⟨ps,e1,e⟩:=bind_eq_some_iff.mp e;rw[all ds vs ps q e1];exact e
  | rl ds =>
   rw[Dn] at q;simp only[toD] at e;obtain⟨ps,e1,e⟩:=bind_eq_some_iff.mp e
   rcases q with ⟨vs,rfl,_,q⟩|⟨i,vs,rfl,_,g,q⟩
   ·simp only[toD];rw[all ds vs ps q e1];exact e
   ·simp only[toD,aB,g,bind_some];rw[all ds vs ps q e1];exact e
  | dc ks ds=>simp[toD] at e
  | ob c xs ds=>simp[toD] at e
  | ref i=>rw[Dn] at q;exact q.elim
theorem I0{b:Bool}(a:DB A h d v)(c:DB A h e w)(q:BC [] d e=some b):BC h v w=some b:=by
 unfold BC at q |-;obtain⟨x,e1,q⟩:=bind_eq_some_iff.mp q;obtain⟨y,e2,q⟩:=bind_eq_some_iff.mp q;rw[ux 16 d v x a.all e1,ux 16 e w y c.all e2];exact q
theorem CY(a:DB A h d v):qi v=qi d:=by
 rcases a with a|⟨i,rfl,q⟩
 ·cases d<;>rw[Dn] at a
  ·subst a;rfl
  ·subst a;rfl
  ·subst a;rfl
  ·subst a;rfl
  ·obtain⟨vs,rfl,_⟩:=a;rfl
  ·rcases a with ⟨vs,rfl,_⟩|⟨i,vs,rfl,_⟩<;>rfl
  ·obtain⟨i,kvs,rfl,_⟩:=a;rfl
  ·obtain⟨i,kvs,rfl,_⟩:=a;rfl
  ·exact a.elim
 ·cases d<;>first|exact False.elim q|rfl
theorem CZ{b:Bool}(q:memD h v (.str y)=some b):False:=by
 unfold memD at q;obtain⟨x,e1,q⟩:=bind_eq_some_iff.mp q;obtain⟨z,e2,q⟩:=bind_eq_some_iff.mp q;simp only[toD] at e1;split at e1<;>cases e1;simp[KU] at q
theorem Dc{b:Bool}(a:DB A h d v)(c:DB A h e w)(q:ug [] d e=some b):ug h v w=some b:=by
 have data:memD [] d e=some b->memD h v w=some b:=λq=>by
  unfold memD at q |-;obtain⟨x,e1,q⟩:=bind_eq_some_iff.mp q;obtain⟨y,e2,q⟩:=bind_eq_some_iff.mp q;rw[ux 16 e w x c.all e1,ux 16 d v y a.all e2];exact q
 cases e with
 | str y =>
  have:=c.str;subst this;cases d with
  | str x=>have:=a.str;subst this;exact q
  | _=>exact(CZ (data q)).elim
 | tup es =>obtain⟨ws,rfl,_⟩:=c.tup;have q':=data (by cases d<;>exact q);cases v<;>exact q'
 | rl es =>
  have q':=data (by cases d<;>exact q)
  rcases c with c|⟨i,rfl,vs,g,q2⟩
  ·rw[Dn] at c
   rcases c with ⟨ws,rfl,_⟩|⟨i,ws,rfl,_,g,_⟩
   ·cases v<;>exact q'
   ·cases v<;>(show (h[i]?).bind _=_;rw[g];exact q')
  ·cases v<;>(show (h[i]?).bind _=_;rw[g];exact q')
 | dc ks es =>
  obtain⟨i,kvs,rfl,g,hk,_⟩:=c.dc
  ·skip
   have q':(keyOf d).bind (λk=>some (ks.any λj=>decide (j=k)))=some b:=by cases d<;>exact q
   obtain⟨kk,e1,q'⟩:=bind_eq_some_iff.mp q';have ev:keyOf v=some kk:=by
    cases d<;>simp only[keyOf] at e1<;>first|(cases e1;done)|skip
    ·have:=a.int;subst this;exact e1
    ·have:=a.str;subst this;exact e1
   have:(cy kvs kk).isSome=(ks.any λj=>decide (j=kk)):=by
    subst hk;unfold cy;rw[isSome_map,any_map];have key:∀l:List (Key×Val),(List.find? (λkv=>decide (kv.fst=kk)) l).isSome=l.any ((λj=>decide (j=kk))∘λx=>x.fst):=by
     intro l
     induction l with
     | nil=>rfl
     | cons x l ih =>
      rw[find?_cons,any_cons]
      by_cases hx:x.1=kk
      ·simp[hx]
      ·simp[hx];simpa using ih
    exact key kvs
   have fin:Gd h v i (.dct kvs)=some b:=by simp only[Gd,ev,bind_some,this];exact q'
   cases v<;>(show (h[i]?).bind _=_;rw[g];exact fin)
 | ref i =>
  rcases c with c|⟨_,_,e1⟩
  ·rw[Dn] at c;exact c.elim
  ·exact False.elim e1
 | ob cc xs es =>
  have q':memD [] d (.ob cc xs es)=some b:=by cases d<;>exact q
  unfold memD at q';obtain⟨x,e1,q'⟩:=bind_eq_some_iff.mp q';simp[toD] at e1
 | non =>
  have q':=data (by cases d<;>exact q);have:w=.non:=by
   rcases c with c|⟨_,_,e1⟩
   ·rw[Dn] at c;exact c
   ·exact False.elim e1
  subst this;cases v<;>exact q'
 | bl x =>
  have q':=data (by cases d<;>exact q);have:w=.bl x:=by
   rcases c with c|⟨_,_,e1⟩
   ·rw[Dn] at c;exact c
   ·exact False.elim e1
  subst this;cases v<;>exact q'
 | int x =>
  have q':=data (by cases d<;>exact q);have:w=.int x:=by
   rcases c with c|⟨_,_,e1⟩
   ·rw[Dn] at c;exact c
   ·exact False.elim e1
  subst this;cases v<;>exact q'
theorem Dd{b:Bool}(a:DB A h d v)(c:DB A h e w)(q:IL d e=some b):IL v w=some b:=by
 cases e<;>first|(cases q;done)|skip
 ·have:w=.non:=by
   rcases c with c|⟨_,_,e1⟩
   ·rw[Dn] at c;exact c
   ·exact False.elim e1
  subst this;show some (qi v)=_;rw[CY a];exact q
 ·have:=c.bl;subst this
  cases d<;>first|(cases q;done)|skip
  have:=a.bl;subst this;exact q
theorem yr{b:Bool}(a:DB A h d v)(c:DB A h e w)(q:cop [] o d e=some b):cop h o v w=some b:=by
 cases o with
 | eq=>exact I0 a c q
 | ne =>obtain⟨x,e1,e2⟩:=map_eq_some_iff.mp (show (BC [] d e).map _=some b from q);show (BC h v w).map _=_;rw[I0 a c e1];exact congrArg some e2
 | isn=>exact Dd a c q
 | ntn =>obtain⟨x,e1,e2⟩:=map_eq_some_iff.mp (show (IL d e).map _=some b from q);show (IL v w).map _=_;rw[Dd a c e1];exact congrArg some e2
 | y9=>exact Dc a c q
 | nin =>obtain⟨x,e1,e2⟩:=map_eq_some_iff.mp (show (ug [] d e).map _=some b from q);show (ug h v w).map _=_;rw[Dc a c e1];exact congrArg some e2
 | lt =>obtain⟨i,j,rfl,rfl⟩:=jV (.inl rfl) q;have:=a.int;subst this;have:=c.int;subst this;exact q
 | le =>obtain⟨i,j,rfl,rfl⟩:=jV (.inr (.inl rfl)) q;have:=a.int;subst this;have:=c.int;subst this;exact q
 | gt =>obtain⟨i,j,rfl,rfl⟩:=jV (.inr (.inr (.inl rfl))) q;have:=a.int;subst this;have:=c.int;subst this;exact q
 | ge =>obtain⟨i,j,rfl,rfl⟩:=jV (.inr (.inr (.inr rfl))) q;have:=a.int;subst this;have:=c.int;subst this;exact q
theorem yt{b:Bool}(a:DB A h d v)(q:dQ [] d=some b):dQ h v=some b:=by
 cases d with
 | rl ds =>
  obtain⟨vs,q1,q2⟩:=a.lst;have l:=q2.length;have e:(!ds.isEmpty) = !vs.isEmpty:=by cases ds<;>cases vs<;>simp_all
  simp only[dQ] at q;rw[e] at q;cases v<;>simp only[aB] at q1<;>first|(cases q1;done)|skip
  ·cases q1;exact q
  ·split at q1<;>cases q1;rename_i g;simp only[dQ,g];exact q
 | tup ds =>
  obtain⟨vs,rfl,q2⟩:=a.tup;have l:=q2.length;have e:(!ds.isEmpty) = !vs.isEmpty:=by cases ds<;>cases vs<;>simp_all
  simp only[dQ] at q |-;rw[<-e];exact q
 | dc ks ds =>obtain⟨i,kvs,rfl,g,hk,_⟩:=a.dc;subst hk;simp only[dQ,g] at q |-;rw[<-q];cases kvs<;>rfl
 | ob c xs ds=>cases q
 | ref i =>
  rcases a with a|⟨_,_,e1⟩
  ·rw[Dn] at a;exact a.elim
  ·exact False.elim e1
 | non =>
  rcases a with a|⟨_,_,e1⟩
  ·rw[Dn] at a;subst a;exact q
  ·exact False.elim e1
 | bl b=>have:=a.bl;subst this;exact q
 | int b=>have:=a.int;subst this;exact q
 | str b=>have:=a.str;subst this;exact q
theorem LS{n:Nat}(a:DB A h d v)(q:mj [] d=some n):mj h v=some n:=by
 cases d with
 | rl ds =>
  obtain⟨vs,q1,q2⟩:=a.lst;have l:=q2.length;simp only[mj] at q;rw[l] at q;cases v<;>simp only[aB] at q1<;>first|(cases q1;done)|skip
  ·cases q1;exact q
  ·split at q1<;>cases q1;rename_i g;simp only[mj,g];exact q
 | tup ds =>obtain⟨vs,rfl,q2⟩:=a.tup;simp only[mj] at q |-;rw[<-q2.length];exact q
 | dc ks ds =>obtain⟨i,kvs,rfl,g,hk,_⟩:=a.dc;subst hk;simp only[mj,g] at q |-;rw[<-q];simp
 | str b=>have:=a.str;subst this;exact q
 | _=>simp[mj] at q
theorem OQ{t:String}(a:DB A h d v)(q:vH [] d=some t):vH h v=some t:=by
 cases d with
 | rl ds =>
  obtain⟨vs,q1,q2⟩:=a.lst;cases v<;>simp only[aB] at q1<;>first|(cases q1;done)|skip
  ·exact q
  ·split at q1<;>cases q1;rename_i g;simp only[vH,g];exact q
 | tup ds=>obtain⟨vs,rfl,q2⟩:=a.tup;exact q
 | dc ks ds =>obtain⟨i,kvs,rfl,g,hk,_⟩:=a.dc;simp only[vH,g] at q |-;exact q
 | ob c xs ds=>cases q
 | ref i =>
  rcases a with a|⟨_,_,e1⟩
  ·rw[Dn] at a;exact a.elim
  ·exact False.elim e1
 | non =>
  rcases a with a|⟨_,_,e1⟩
  ·rw[Dn] at a;subst a;exact q
  ·exact False.elim e1
 | bl b=>have:=a.bl;subst this;exact q
 | int b=>have:=a.int;subst this;exact q
 | str b=>have:=a.str;subst this;exact q
theorem pB:∀{kvs:List (Key×Val)} {ks:List Key} {ds:List Val} {z:Val},kvs.map (·.1)=ks->aq A h ds (kvs.map (·.2))->cy (ks.zip ds) k=some z->∃v,cy kvs k=some v/\Dn A h z v
 | [],ks,ds,z,hk,q,e=>by subst hk;simp[cy] at e
 | (k',v')::kvs,ks,ds,z,hk,q,e=>by
  subst hk;have l:=q.length;cases ds with
  | nil=>simp at l
  | cons d ds =>
   simp only[map_cons] at q;rw[aq] at q;obtain⟨v,r,e1,q1,q2⟩:=q;cases e1
   by_cases hkk:k'=k
   ·subst hkk;simp[cy] at e |-;subst e;exact q1
   ·have e':cy ((kvs.map (·.1)).zip ds) k=some z:=by simpa [cy,hkk] using e
    obtain⟨w,a1,a2⟩:=pB rfl q2 e';exact⟨w,by simpa [cy,hkk] using a1,a2⟩
theorem DB.oB{j:Nat}(c:DB A h (.ref j) v):False:=by
 rcases c with c|⟨_,_,e1⟩
 ·rw[Dn] at c;exact c
 ·exact e1
theorem zw:∀{kvs:List (Key×Val)} {ds:List Val},aq A h ds (kvs.map (·.2))->cy ((kvs.map (·.1)).zip ds) k=none->cy kvs k=none
 | [],ds,q,e=>rfl
 | (k',v')::kvs,ds,q,e=>by
  cases ds with
  | nil=>rw[aq] at q;cases q
  | cons d ds =>
   rw[map_cons,aq] at q;obtain⟨v,r,eq,q1,q2⟩:=q;cases eq;unfold cy at e |-;rw[map_cons,zip_cons_cons,find?_cons] at e;rw[find?_cons]
   by_cases hk:k'=k
   ·simp[hk] at e
   ·simp only[hk,decide_false] at e |-;exact zw q2 e
theorem yu(a:Dn A h d v)(e:keyOf d=some kk):keyOf v=some kk:=by
 cases d<;>first|(cases e;done)|skip
 ·rw[Dn] at a;subst a;exact e
 ·rw[Dn] at a;subst a;exact e
theorem LU(a:DB A h o v)(e:Cy [] o k=some r):∃r',Cy h v k=some r'/\∀z z',Dn A h z z'->Dn A h (r.getD z) (r'.getD z'):=by
 cases o<;>first|(cases e;done)|(exact(DB.oB a).elim)|skip
 rename_i ks ds;obtain⟨i,kvs,rfl,g,hk,q⟩:=a.dc;cases e;have eg:Cy h (.ref i) k=some (cy kvs k):=by show (match h[i]? with|some (.dct kvs)=>some (cy kvs k)|_=>none)=_;rw[g]
 refine⟨_,eg,λz z' hz=>?_⟩;cases ev:cy (ks.zip ds) k with
 | none =>subst hk;rw[zw q ev];exact hz
 | some d =>obtain⟨u,e1,e2⟩:=pB hk q ev;rw[e1];exact e2
theorem v7(a:DB A h o v)(e:vG [] o=some ks):vG h v=some ks:=by
 cases o<;>first|(cases e;done)|(exact(DB.oB a).elim)|skip
 obtain⟨i,kvs,rfl,g,hk,q⟩:=a.dc;cases e;show (match h[i]? with|some (.dct kvs)=>some (kvs.map (λkv:Key×Val=>kv.1))|_=>none)=_;rw[g];exact congrArg some hk
theorem mD:∀ks:List Key,bD (ks.map Gf)=true
 | []=>rfl
 | .inl _::ks=>by rw[map_cons,bD,mD ks];rfl
 | .inr _::ks=>by rw[map_cons,bD,mD ks];rfl
theorem GR{u:Unit}(a:DB A h o v)(e:Ge [] o=some u):Ge h v=some u:=by
 cases o<;>first|(cases e;done)|(exact(DB.oB a).elim)|skip
 obtain⟨i,kvs,rfl,g,hk,q⟩:=a.dc;show (match h[i]? with|some (.dct _)=>some ()|_=>none)=_;rw[g]
theorem LV(a:DB A h d v)(c:Dn A h e w)(q:mh [] d e=some z):∃u,mh h v w=some u/\Dn A h z u:=by
 cases e with
 | int i =>
  rw[Dn] at c;subst c;cases d with
  | str x =>
   have:=a.str;subst this;refine⟨z,q,?_⟩;change (if x.length<=sizeLine then (iR x.cps.toList i).map (λc=>Val.str ⟨#[c]⟩) else none)=some z at q;split at q
   ·obtain⟨c,_,rfl⟩:=map_eq_some_iff.mp q;rw[Dn]
   ·cases q
  | tup ds =>obtain⟨vs,rfl,q2⟩:=a.tup;exact q2.iR q
  | rl ds =>
   obtain⟨vs,q1,q2⟩:=a.lst;obtain⟨u,q3,q4⟩:=q2.iR q;refine⟨u,?_,q4⟩;cases v<;>simp only[aB] at q1<;>first|(cases q1;done)|skip
   ·cases q1;exact q3
   ·split at q1<;>cases q1;rename_i g;unfold mh;simp only[aB,g,bind_some];exact q3
  | dc ks ds =>obtain⟨i',kvs,rfl,g,hk,q2⟩:=a.dc;obtain⟨u,q3,q4⟩:=pB hk q2 q;refine⟨u,?_,q4⟩;show (match h[i']? with|some (.dct kvs)=>cy kvs (.inl i)|_=>(aB h (.ref i')).bind λxs=>iR xs i)=_;rw[g];exact q3
  | ref j=>exact(DB.oB a).elim
  | _=>cases q
 | str x =>
  rw[Dn] at c;subst c;cases d with
  | dc ks ds =>obtain⟨i',kvs,rfl,g,hk,q2⟩:=a.dc;obtain⟨u,q3,q4⟩:=pB hk q2 q;refine⟨u,?_,q4⟩;show (match h[i']? with|some (.dct kvs)=>cy kvs (.inr x)|_=>none)=_;rw[g];exact q3
  | ref j=>exact(DB.oB a).elim
  | _=>cases q
 | _=>cases d<;>first|(cases q;done)|exact(DB.oB a).elim
theorem uy:∀{fs:List (Str×Val)} {ds:List Val},aq A h ds (fs.map (·.2))->(((fs.map (·.1)).zip ds).lookup x=none->fs.lookup x=none)/\∀z,((fs.map (·.1)).zip ds).lookup x=some z->∃u,fs.lookup x=some u/\Dn A h z u
 | [],ds,q=>⟨λ_=>rfl,λz e=>by simp at e⟩
 | (k,v)::fs,ds,q=>by
  cases ds with
  | nil=>rw[aq] at q;cases q
  | cons d ds =>
   rw[map_cons,aq] at q;obtain⟨w,r,eq,q1,q2⟩:=q;cases eq;rw[map_cons,zip_cons_cons,lookup_cons,lookup_cons];cases hb:x==k with
   | true=>exact⟨λz=>(by cases z),λz e=>(by cases e;exact⟨v,rfl,q1⟩)⟩
   | false=>exact uy q2
theorem DB.ob{c:Nat}(e:DB A h (.ob c xs ds) v):∃i fs,v=.ref i/\h[i]?=some (.ins c fs)/\fs.map (·.1)=xs/\aq A h ds (fs.map (·.2)):=by
 rcases e with e|⟨_,_,e1⟩
 ·rw[Dn] at e;obtain⟨i,fs,rfl,_,g,k,q⟩:=e;exact⟨i,fs,rfl,g,k,q⟩
 ·exact False.elim e1
theorem LW{n:Nat}(a:DB A h o v)(e:iG n [] o x=some z):∃u,iG n h v x=some u/\Dn A h z u:=by
 cases o<;>first|(cases e;done)|(exact(DB.oB a).elim)|skip
 obtain⟨i,fs,rfl,g,hk,q⟩:=a.ob;subst hk;unfold iG at e;dsimp only at e;split at e
 ·rename_i hc;obtain⟨u,e1,e2⟩:=(uy q).2 z e;refine⟨u,?_,e2⟩;unfold iG;dsimp only;rw[g];dsimp only;rw[if_pos hc];exact e1
 ·cases e
theorem LX{j:Nat}(a:DB A h o v)(e:kR [] o m js=some j):kR h v m js=some j:=by
 cases o<;>first|(cases e;done)|(exact(DB.oB a).elim)|skip
 obtain⟨i,fs,rfl,g,hk,q⟩:=a.ob;subst hk;unfold kR at e;dsimp only at e;split at e
 ·rename_i hc;have e1:=(uy q).1 (by simpa using hc);unfold kR;dsimp only;rw[g];dsimp only;rw[if_pos (by rw[e1];rfl)];exact e
 ·cases e
end
end Hv
end
section
namespace Hv
open PySem L2
noncomputable def Up(A:AP)(h:Hs):Prop:=∀k,h.length<=k->A (some k)
noncomputable def Rel(A:AP)(h:Hs){α β:Type}(R:α -> Hs -> β -> Prop)(o:Out β):Pr α -> Prop
 | .ok a=>∃b h',o=.ok b h'/\h<+:h'/\R a h' b
 | .exc c es=>∃ws h',o=.exc c ws h'/\h<+:h'/\aq A h' es ws
 | .no=>True
noncomputable def RV(A:AP)(h:Hs):FV->Hs->Val->Prop:=λx h' v=>Dn A h' x.2 v/\(x.1=true->Dn (Fr h.length) h' x.2 v)
noncomputable def YK(A:AP)(h:Hs):Bool×List Val->Hs->List Val->Prop:=λx h' v=>aq A h' x.2 v/\(x.1=true->aq (Fr h.length) h' x.2 v)
noncomputable def SX(A:AP):FV->Hs->Val->Prop:=λx h' v=>DB A h' x.2 v
noncomputable def GS(A:AP)(h:Hs):List Val->List Val->Prop
 | [],vs=>vs=[]
 | d::ds,vs=>∃v r,vs=v::r/\DB A h d v/\GS A h ds r
noncomputable def ER(A:AP)(af:bJ)(env:Env)(h:Hs):Prop:=∀(i:Nat) (f:Mk) (d:Val),af[i]?=some (some (f,d)) ->
 if lu f=false then ∃a,env[i]?=some (some (.ref a))/\OD A h d a else ∃v,env[i]?=some (some v)/\Dn A h d v
section
variable {A:AP} {h h1:Hs} {α β γ δ:Type}
theorem Up.ext(u:Up A h)(p:h<+:h1):Up A h1:=λk hk=>u k (le_trans p.length_le hk)
theorem ER.ext(e:ER A af env h)(p:h<+:h1):ER A af env h1:=λi f d q=>by
 have:=e i f d q;revert this;generalize lu f=t;intro this;cases t with
 | false =>rw[if_pos rfl] at this |-;obtain⟨a,k2,k3⟩:=this;exact⟨a,k2,k3.ext p⟩
 | true =>rw[if_neg (by decide)] at this |-;obtain⟨v,k1,k2⟩:=this;exact⟨v,k1,k2.ext p⟩
theorem ah(r:Rel A h R (m h) p)(k:∀a h1 b,h<+:h1->R a h1 b->Rel A h1 R' (f b h1) (F a)):Rel A h R' (bnd m f h) (pb p F):=by
 unfold bnd;cases p with
 | ok a =>
  obtain⟨b,h1,e,q,r⟩:=r;rw[e];show Rel A h R' (f b h1) (F a);have:=k a h1 b q r;cases e2:F a with
  | ok c=>rw[e2] at this;obtain⟨d,h2,e3,q2,r2⟩:=this;exact⟨d,h2,e3,q.trans q2,r2⟩
  | exc c es=>rw[e2] at this;obtain⟨d,h2,e3,q2,r2⟩:=this;exact⟨d,h2,e3,q.trans q2,r2⟩
  | no=>trivial
 | exc c es =>obtain⟨ws,h1,e,q,r⟩:=r;rw[e];exact⟨ws,h1,rfl,q,r⟩
 | no=>trivial
theorem av(r:R a h b):Rel A h R (ret b h) (.ok a):=⟨b,h,rfl,prefix_refl _,r⟩
theorem bq(r:∀a,o=some a->∃b,o'=some b/\R a h b):Rel A h R (bh o' h) (pl o):=by
 cases o with
 | none=>trivial
 | some a=>obtain⟨b,rfl,q⟩:=r a rfl;exact⟨b,h,rfl,prefix_refl _,q⟩
theorem bL(r:∀a,o=some a->∃b,f h=some b/\R a h b):Rel A h R (ask f h) (pl o):=bq r
theorem bI{c c':Bool}(e:c=true->c'=true)(r:c=true->Rel A h R (m h) p):Rel A h R (aF c' m h) (pg c p):=by
 unfold aF pg;cases c with
 | true=>rw[if_pos (e rfl),if_pos rfl];exact r rfl
 | false=>rw[if_neg Bool.false_ne_true];trivial
theorem v8(r:Rel A h R o p)(k:∀a h' b,h<+:h'->R a h' b->R' a h' b):Rel A h R' o p:=by
 cases p with
 | ok a=>obtain⟨b,h',e,q,r⟩:=r;exact⟨b,h',e,q,k a h' b q r⟩
 | exc c es=>exact r
 | no=>trivial
theorem dR(o:Ob):h<+:h++[o]:=prefix_append _ _
theorem iW(o:Ob):(h++[o])[h.length]?=some o:=by simp
theorem fV{f:Bool}{h0:Hs}(u:Up A h)(p:h0<+:h)(q:aq A h xs vs)(g:f=true->aq (Fr h0.length) h xs vs):Rel A h (RV A h0) (new (.lst vs) h) (.ok (f,.rl xs)):=by
 refine⟨_,_,rfl,dR _,?_,λhf=>?_⟩
 ·show Dn A _ (.rl xs) _;rw[Dn];exact .inr ⟨_,vs,rfl,u _ (Nat.le_refl _),iW _,q.ext (dR _)⟩
 ·show Dn _ _ (.rl xs) _;rw[Dn];exact .inr ⟨_,vs,rfl,p.length_le,iW _,(g hf).ext (dR _)⟩
theorem nR{h0:Hs}(q:Dn A h d v):RV A h0 (ju d,d) h v:=⟨q,λhi=>(iJ d v hi).mpr ((iJ d v hi).mp q)⟩
theorem fc(q:aq A h ds vs)(hi:bD ds=true):aq A' h' ds vs:=(aX ds vs hi).mpr ((aX ds vs hi).mp q)
theorem iK{i:Int}{h0:Hs}{f:Bool}:RV A h0 (f,.int i) h (.int i):=⟨by rw[Dn],λ_=>by rw[Dn]⟩
theorem j3{i:Bool}{h0:Hs}{f:Bool}:RV A h0 (f,.bl i) h (.bl i):=⟨by rw[Dn],λ_=>by rw[Dn]⟩
theorem De{h0:Hs}{f:Bool}:RV A h0 (f,.str i) h (.str i):=⟨by rw[Dn],λ_=>by rw[Dn]⟩
theorem RV.br{h0:Hs}(r:RV A h0 x h v):SX A x h v:=.inl r.1
theorem GU(ho:o≠.add)(v w:Val):(∃i j,v=.int i/\w=.int j)\/lK o v w=.no:=by
 cases v with
 | int i =>
  cases w with
  | int j=>exact .inl ⟨i,j,rfl,rfl⟩
  | _=>right;cases o<;>first|rfl|exact absurd rfl ho
 | _=>right;cases o<;>first|rfl|exact absurd rfl ho
theorem GV{h0:Hs}(u:Up A h)(p:h0<+:h)(a:DB A h d v)(c:DB A h e w):Rel A h (RV A h0) (M3 o v w h) (lK o d e):=by
 have ii:o≠.add->(∃i j,d=.int i/\e=.int j)\/lK o d e=.no:=λho=>GU ho d e;cases o with
 | add =>
  cases d<;>cases e<;>first|trivial|skip
  ·have:=a.int;subst this;have:=c.int;subst this;exact av iK
  ·have:=a.str;subst this;have:=c.str;subst this;exact bI (λz=>z) λ_=>av De
  ·rename_i xs ys
   obtain⟨vs,rfl,q1⟩:=a.tup;obtain⟨ws,rfl,q2⟩:=c.tup;have l1:=q1.length;have l2:=q2.length;refine bI (λz=>?_) λ_=>av ⟨?_,λhi=>?_⟩
   ·rw[l1,l2] at z
    have:xs.isEmpty=vs.isEmpty:=by cases xs<;>cases vs<;>simp_all
    rw[<-this];exact z
   ·show Dn A h (.tup _) _;rw[Dn];exact⟨_,rfl,q1.append q2⟩
   ·show Dn _ h (.tup _) _;rw[Dn];exact⟨_,rfl,fc (q1.append q2) hi⟩
  ·rename_i xs ys
   obtain⟨vs,e1,q1⟩:=a.lst;obtain⟨ws,e2,q2⟩:=c.lst;have eb:M3 .add v w=bnd (ask λh=>aB h v) λa=>bnd (ask λh=>aB h w) λb=>aF (decide (a.length+b.length<=sizeLine)) (new (.lst (a++b))):=by
    cases v<;>simp only[aB] at e1<;>first|(cases e1;done)|skip
    all_goals cases w<;>simp only[aB] at e2<;>first|(cases e2;done)|rfl
   have ev:M3 .add v w h=aF (decide (vs.length+ws.length<=sizeLine)) (new (.lst (vs++ws))) h:=by rw[eb];unfold bnd ask bh;dsimp only;rw[e1];dsimp only;rw[e2]
   rw[ev];refine bI (λz=>?_) λ_=>fV u p (q1.append q2) λhi=>fc (q1.append q2) hi;rw[<-q1.length,<-q2.length];exact z
 | _ =>
  rcases ii (by intro z;cases z) with ⟨i,j,rfl,rfl⟩|z
  case inr=>rw[z];trivial
  have:=a.int;subst this;have:=c.int;subst this
  first
   | exact av iK
   | exact bI (λz=>z) λ_=>av iK
theorem GW{lo hi:Option Int}{h0:Hs}(u:Up A h)(p:h0<+:h)(a:DB A h d v):Rel A h (RV A h0) (rG v lo hi h) (Bb d lo hi):=by
 cases d with
 | tup ds =>
  obtain⟨vs,rfl,q⟩:=a.tup;have l:=q.length;simp only[Bb,rG];refine bI (λz=>?_) λ_=>av ⟨?_,λhi=>?_⟩
  ·rw[l] at z;exact z
  ·show Dn A h (.tup _) _;rw[Dn];exact⟨_,rfl,q.cut lo hi⟩
  ·show Dn _ h (.tup _) _;rw[Dn];exact⟨_,rfl,fc (q.cut _ _) hi⟩
 | rl ds =>
  obtain⟨vs,e1,q⟩:=a.lst;have ev:rG v lo hi h=new (.lst (fZ vs lo hi)) h:=by
   have:rG v lo hi=bnd (ask λh=>aB h v) λxs=>new (.lst (fZ xs lo hi)):=by cases v<;>simp only[aB] at e1<;>first|(cases e1;done)|rfl
   rw[this];unfold bnd ask bh;dsimp only;rw[e1]
  rw[ev];exact fV u p (q.cut lo hi) λhh=>fc (q.cut lo hi) hh
 | _=>trivial
theorem GS.one(e:GS A h [d] vs):∃v,vs=[v]/\DB A h d v:=by
 obtain⟨v,r,rfl,a,b⟩:=e;cases (show r=[] from b);exact⟨v,rfl,a⟩
theorem GX{ns:List Int}(q:aq A h ds vs)(e:aV ds=some ns):vs=ds:=by
 have:bD ds=true:=by
  clear q
  induction ds generalizing ns with
  | nil=>rfl
  | cons d ds ih =>
   simp only[aV,ck] at e;obtain⟨i,e1,e⟩:=bind_eq_some_iff.mp e;obtain⟨is,e2,e⟩:=bind_eq_some_iff.mp e;cases d<;>first|(cases e1;done)|skip
   rw[bD,ju,Bool.true_and];exact ih e2
 exact(aX ds vs this).mp q
theorem v9(q:aq A h ds vs)(e:cu ds=some ns):vs=ds:=by
 have:bD ds=true:=by
  clear q
  induction ds generalizing ns with
  | nil=>rfl
  | cons d ds ih =>
   simp only[cu,ck] at e;obtain⟨i,e1,e⟩:=bind_eq_some_iff.mp e;obtain⟨is,e2,e⟩:=bind_eq_some_iff.mp e;cases d<;>first|(cases e1;done)|skip
   rw[bD,ju,Bool.true_and];exact ih e2
 exact(aX ds vs this).mp q
theorem qB:∀{ds:List Val} {ns:List Int},aV ds=some ns->bD ds=true
 | [],_,_=>rfl
 | d::ds,ns,e=>by
  simp only[aV,ck] at e;obtain⟨i,e1,e⟩:=bind_eq_some_iff.mp e;obtain⟨is,e2,e⟩:=bind_eq_some_iff.mp e;cases d<;>first|(cases e1;done)|skip
  rw[bD,ju,Bool.true_and];exact qB (show aV ds=some is from e2)
theorem wc:∀{ds:List Val} {ns:List (List Int)},k9 ds=some ns->bD ds=true
 | [],_,_=>rfl
 | d::ds,ns,e=>by
  simp only[k9,ck] at e;obtain⟨i,e1,e⟩:=bind_eq_some_iff.mp e;obtain⟨is,e2,e⟩:=bind_eq_some_iff.mp e;cases d<;>first|(cases e1;done)|skip
  rename_i vs;dsimp only at e1;split at e1
  ·cases e1
  ·rw[bD,ju,qB e1,Bool.true_and];exact wc (show k9 ds=some is from e2)
theorem bO:∀ns:List Int,bD (ns.map .int)=true
 | []=>rfl
 | n::ns=>by rw[map_cons,bD,ju,Bool.true_and];exact bO ns
theorem mE:∀o8:List (List Int),bD (o8.map l0)=true
 | []=>rfl
 | n::ns=>by rw[map_cons,bD,l0,ju,bO,Bool.true_and];exact mE ns
theorem sO(e:fE xs=some ys):bD xs=true/\bD ys=true:=by
 unfold fE at e;split at e
 ·cases e2:aV xs with
  | some ns=>rw[e2] at e;cases e;exact⟨qB e2,bO _⟩
  | none =>rw[e2] at e;obtain⟨o8,e3,e4⟩:=bind_eq_some_iff.mp e;cases e4;exact⟨wc e3,mE _⟩
 ·cases e
theorem GY{h0:Hs}(u:Up A h)(p:h0<+:h)(a:GS A h ds vs):Rel A h (RV A h0) (blt b vs h) (gb b ds):=by
 have mm:∀(f:List Int->Option Val) (d:Val),(∀ns m,f ns=some m->∃i,m=.int i)->∀v,DB A h d v->Rel A h (RV A h0) (bnd (ask λh=>cU h v) (λxs=>bh ((aV xs).bind f)) h) (pb (pl (cU [] d)) λxs=>pb (pl ((aV xs).bind f)) λm=>.ok (true,m)):=by
  intro f d hf v hv;refine ah (R:=λxs h' ws=>aq A h' xs ws) (bL λxs e=>hv.seq e) λxs h1 ws q1 q=>?_;have:bh ((aV ws).bind f) h1=bnd (bh ((aV ws).bind f)) (λm=>ret m) h1:=by unfold bnd bh;cases (aV ws).bind f<;>rfl
  rw[this];refine ah (R:=λm _ m'=>m'=m/\∃i,m=.int i) (bq λm e=>?_) λm h2 m' _ hm=>?_
  ·obtain⟨ns,e1,e2⟩:=bind_eq_some_iff.mp e;rw[GX q e1];exact⟨m,e,rfl,hf ns m e2⟩
  ·obtain⟨rfl,i,rfl⟩:=hm;exact av iK
 have hmin:∀ns m,ue ns=some m->∃i,m=Val.int i:=λns m e=>by cases ns<;>simp[ue] at e;exact⟨_,e.symm⟩
 have SY:∀ns m,uf ns=some m->∃i,m=Val.int i:=λns m e=>by cases ns<;>simp[uf] at e;exact⟨_,e.symm⟩
 match ds,a with
 | [],a=>cases b<;>trivial
 | [d],a =>
  obtain⟨v,rfl,hv⟩:=a.one;cases b with
  | len =>exact ah (R:=λn _ m=>m=n) (bL λn e=>⟨n,LS hv e,rfl⟩) λn h1 m _ e=>by subst e;exact av iK
  | min =>
   have e1:gb .min [d]=pb (pl (cU [] d)) λxs=>pb (pl ((aV xs).bind ue)) λm=>.ok (true,m):=by cases d<;>rfl
   have e2:blt .min [v]=bnd (ask λh=>cU h v) λxs=>bh ((aV xs).bind ue):=by cases v<;>rfl
   rw[e1,e2];exact mm ue d hmin v hv
  | max =>
   have e1:gb .max [d]=pb (pl (cU [] d)) λxs=>pb (pl ((aV xs).bind uf)) λm=>.ok (true,m):=by cases d<;>rfl
   have e2:blt .max [v]=bnd (ask λh=>cU h v) λxs=>bh ((aV xs).bind uf):=by cases v<;>rfl
   rw[e1,e2];exact mm uf d SY v hv
  | sorted =>
   cases d<;>first|trivial|skip
   rename_i xs;obtain⟨ws,e1,q⟩:=hv.lst;have ev:bnd (ask λh=>aB h v) (λxs=>bnd (bh (fE xs)) λys=>new (.lst ys)) h=bnd (bh (fE ws)) (λys=>new (.lst ys)) h:=by unfold bnd ask bh;dsimp only;rw[e1]
   show Rel A h (RV A h0) (bnd (ask λh=>aB h v) (λxs=>bnd (bh (fE xs)) λys=>new (.lst ys)) h) _;rw[ev];refine ah (R:=λys _ zs=>zs=ys/\bD ys=true) (bq λys e=>?_) λys h1 zs q1 hz=>?_
   ·obtain⟨i1,i2⟩:=sO e;rw[(aX xs ws i1).mp q];exact⟨ys,e,rfl,i2⟩
   ·obtain⟨rfl,hi⟩:=hz;exact fV (u.ext q1) (p.trans q1) ((aX _ _ hi).mpr rfl) λ_=>(aX _ _ hi).mpr rfl
  | list =>refine ah (R:=λxs h' ws=>aq A h' xs ws) (bL λxs e=>hv.seq e) λxs h1 ws q1 q=>?_;exact fV (u.ext q1) (p.trans q1) q λhi=>fc q hi
  | tuple =>
   refine ah (R:=λxs h' ws=>aq A h' xs ws) (bL λxs e=>hv.seq e) λxs h1 ws q1 q=>?_;refine av ⟨?_,λhi=>?_⟩
   ·show Dn A h1 (.tup _) _;rw[Dn];exact⟨_,rfl,q⟩
   ·show Dn _ h1 (.tup _) _;rw[Dn];exact⟨_,rfl,fc q hi⟩
  | str =>
   cases d<;>first|trivial|skip
   have:=hv.int;subst this;exact bI (λz=>z) λ_=>av De
  | int =>
   cases d<;>first|trivial|skip
   ·have:=hv.bl;subst this;exact av iK
   ·have:=hv.int;subst this;exact av iK
  | all =>
   cases d<;>first|trivial|skip
   rename_i xs;obtain⟨ws,e1,q⟩:=hv.lst;have ev:bnd (ask λh=>aB h v) (λxs=>bnd (bh (cu xs)) λbs=>ret (Val.bl (bs.all id))) h=bnd (bh (cu ws)) (λbs=>ret (Val.bl (bs.all id))) h:=by unfold bnd ask bh;dsimp only;rw[e1]
   show Rel A h (RV A h0) (bnd (ask λh=>aB h v) (λxs=>bnd (bh (cu xs)) λbs=>ret (Val.bl (bs.all id))) h) _;rw[ev];exact ah (R:=λys _ zs=>zs=ys) (bq λys e=>⟨ys,by rw[v9 q e];exact e,rfl⟩) λys h1 zs q1 hz=>by subst hz;exact av j3
  | any =>
   cases d<;>first|trivial|skip
   rename_i xs;obtain⟨ws,e1,q⟩:=hv.lst;have ev:bnd (ask λh=>aB h v) (λxs=>bnd (bh (cu xs)) λbs=>ret (Val.bl (bs.any id))) h=bnd (bh (cu ws)) (λbs=>ret (Val.bl (bs.any id))) h:=by unfold bnd ask bh;dsimp only;rw[e1]
   show Rel A h (RV A h0) (bnd (ask λh=>aB h v) (λxs=>bnd (bh (cu xs)) λbs=>ret (Val.bl (bs.any id))) h) _;rw[ev];exact ah (R:=λys _ zs=>zs=ys) (bq λys e=>⟨ys,by rw[v9 q e];exact e,rfl⟩) λys h1 zs q1 hz=>by subst hz;exact av j3
  | isin T =>refine ah (R:=λn _ m=>m=n) (bL λn e=>⟨n,OQ hv e,rfl⟩) λn h1 m _ e=>?_;subst e;exact ah (R:=λn _ m=>m=n) (bq λn e=>⟨n,e,rfl⟩) λn h1 m _ e=>by subst e;exact av j3
 | [d,e],a =>
  obtain⟨v,r,rfl,hv,hr⟩:=a;obtain⟨w,rfl,hw⟩:=GS.one hr;cases b<;>first|trivial|(cases d<;>trivial)|skip
  ·cases d<;>cases e<;>first|trivial|skip
   have:=hv.int;subst this;have:=hw.int;subst this;exact av iK
  ·cases d<;>cases e<;>first|trivial|skip
   have:=hv.int;subst this;have:=hw.int;subst this;exact av iK
 | x::y::z::t,a=>cases b<;>first|trivial|(cases x<;>trivial)|(cases x<;>cases y<;>trivial)
end
end Hv
end
section
namespace Hv
open PySem L2
noncomputable def Imp(φ:List Val->M Val)(ψ:List Val->Pr FV):Prop:=∀(A:AP) (h:Hs) (ds vs:List Val),Up A h->aq A h ds vs->Rel A h (RV A h) (φ vs h) (ψ ds)
section
variable {Φ:Nat->List Val->M Val} {Ψ:Nat->List Val->Pr FV} {A:AP} {h h1:Hs}
theorem gC{x y:Bool}(f:(x&&y)=true):x=true/\y=true:=Bool.and_eq_true_iff.mp f
theorem uz{x y z:Bool}(f:(x&&y&&z)=true):(x=true/\y=true)/\z=true:=⟨gC (gC f).1,(gC f).2⟩
noncomputable def cA(Φ:Nat->List Val->M Val)(Ψ:Nat->List Val->Pr FV)(ir:IE):Prop:=∀(af:bJ) (env:Env) (A:AP) (h:Hs),Up A h->ER A af env h->Rel A h (RV A h) (aH Φ ir env h) (bz Ψ ir af)
noncomputable def kU(Φ:Nat->List Val->M Val)(Ψ:Nat->List Val->Pr FV)(eX:oq):Prop:=(∀(af:bJ) (env:Env) (A:AP) (h:Hs),Up A h->ER A af env h->Rel A h (YK A h) (aZ Φ eX env h) (qz Ψ eX af)) /\
 ∀(af:bJ) (env:Env) (A:AP) (h:Hs),Up A h->ER A af env h->Rel A h (λds h' vs=>GS A h' ds vs) (aZ Φ eX env h) (gB Ψ eX af)
theorem RV.up{h0 h':Hs}(p:h0<+:h)(r:RV A h x h' v):RV A h0 x h' v:=⟨r.1,λf=>(r.2 f).iz (Fr.le p.length_le)⟩
theorem Df{h0:Hs}(p:h0<+:h)(r:Rel A h (RV A h) o x):Rel A h (RV A h0) o x:=v8 r λ_ _ _ _ q=>q.up p
theorem OS{i:Nat}(e:ER A af env h):Rel A h (SX A) (aH Φ (.var i) env h) (pl (ig af (.var i))):=by
 rw[aH];refine bq λx hx=>?_;simp only[ig] at hx;split at hx
 ·rename_i f d hd
  cases hx;have:=e i f d hd;revert this;generalize lu f=t;intro this;cases t with
  | false =>rw[if_pos rfl] at this;obtain⟨a,k2,k3⟩:=this;exact⟨.ref a,by rw[k2],.inr ⟨a,rfl,k3⟩⟩
  | true =>rw[if_neg (by decide)] at this;obtain⟨v,k1,k2⟩:=this;exact⟨v,by rw[k1],.inl k2⟩
 ·cases hx
theorem lM(o:cA Φ Ψ ir)(u:Up A h)(e:ER A af env h):Rel A h (SX A) (aH Φ ir env h) (if isVar ir=true then pl (ig af ir) else bz Ψ ir af):=by
 by_cases hv:isVar ir=true
 ·rw[if_pos hv];cases ir<;>first|(cases hv;done)|exact OS e
 ·rw[if_neg hv];exact v8 (o af env A h u e) λ_ _ _ _ q=>q.br
theorem GZ{α β:Type}{R:α -> Hs -> β -> Prop}{c:Bool}{o:Out β}{p:Pr α}(r:c=true->Rel A h R o p):Rel A h R o (pg c p):=by
 unfold pg;cases c with
 | true=>rw[if_pos rfl];exact r rfl
 | false=>rw[if_neg Bool.false_ne_true];trivial
theorem v_var{i:Nat}:cA Φ Ψ (.var i):=λaf env A h u e=>by
 rw[aH,bz];cases hv:af[i]? with
 | none=>trivial
 | some o =>
  cases o with
  | none=>trivial
  | some fd =>
   obtain⟨f,d⟩:=fd;refine GZ λhf=>?_
   ·have:=e i f d hv;rw[if_neg (by simp[hf])] at this;obtain⟨v,k1,k2⟩:=this;rw[k1];exact⟨v,h,rfl,prefix_refl _,nR k2⟩
theorem zx{α:Type}{f:Hs->Option α}:ask f h=bnd (ask f) (λz=>ret z) h:=by unfold bnd ask bh;cases f h<;>rfl
theorem zy(f:ju d=true):Dn A h d d:=(iJ d d f).mpr rfl
theorem OT(f:ju d=true):cA Φ Ψ (.cst d):=λaf env A h u e=>by rw[aH,bz];exact av (nR (zy f))
theorem OU(f:ju d=true):cA Φ Ψ (.con x d):=λaf env A h u e=>by rw[aH,bz];exact av (nR (zy f))
theorem S0:cA Φ Ψ .no:=λaf env A h u e=>by rw[bz];trivial
theorem OV(ha:cA Φ Ψ a)(hb:cA Φ Ψ b):cA Φ Ψ (.bin o a b):=λaf env A h u e=>by
 rw[aH,bz];exact ah (lM ha u e) λx h1 v p1 q1=>ah (lM hb (u.ext p1) (e.ext p1)) λy h2 w p2 q2=>GV ((u.ext p1).ext p2) (p1.trans p2) (DB.ext p2 q1) q2
theorem OW(ha:cA Φ Ψ a):cA Φ Ψ (.neg a):=λaf env A h u e=>by
 rw[aH,bz];refine ah (ha af env A h u e) λx h1 v p1 q1=>?_;obtain⟨f,d⟩:=x;have q:=q1.1;cases d<;>dsimp only<;>first|trivial|skip
 dsimp only at q;rw[Dn] at q;subst q;exact av iK
theorem OX(ha:cA Φ Ψ a)(hb:cA Φ Ψ b):cA Φ Ψ (.cmp o a b):=λaf env A h u e=>by
 rw[aH,bz];exact ah (lM ha u e) λx h1 v p1 q1=>ah (lM hb (u.ext p1) (e.ext p1)) λy h2 w p2 q2 =>
  ah (R:=λt _ t'=>t'=t) (bL λt et=>⟨t,yr (DB.ext p2 q1) q2 et,rfl⟩) λt h3 t' p3 et=>by subst et;exact av j3
theorem OY(ha:cA Φ Ψ a)(hb:cA Φ Ψ b)(hc:cA Φ Ψ c):cA Φ Ψ (.chn o o' a b c):=λaf env A h u e=>by
 rw[aH,bz];refine ah (ha af env A h u e) λx h1 v p1 q1=>ah (hb af env A h1 (u.ext p1) (e.ext p1)) λy h2 w p2 q2 =>
  ah (R:=λt _ t'=>t'=t) (bL λt et=>⟨t,yr (DB.ext p2 q1.br) q2.br et,rfl⟩) λt h3 t' p3 et=>?_
 subst et;cases t' with
 | true =>
  rw[if_pos rfl,if_pos rfl];exact ah (hc af env A h3 (((u.ext p1).ext p2).ext p3) (((e.ext p1).ext p2).ext p3)) λz h4 w' p4 q4 =>
   ah (R:=λt _ t'=>t'=t) (bL λt et=>⟨t,yr (DB.ext (p3.trans p4) q2.br) q4.br et,rfl⟩) λt h3 t' p3 et=>by subst et;exact av j3
 | false =>rw[if_neg Bool.false_ne_true,if_neg Bool.false_ne_true];exact av j3
theorem j4(q:Dn A h d v):Rel A h (λt _ t'=>t'=t) (qj v h) (oA d):=by
 cases d<;>first|trivial|skip
 rw[Dn] at q;subst q;exact av rfl
theorem v_and(ha:cA Φ Ψ a)(hb:cA Φ Ψ b):cA Φ Ψ (.and a b):=λaf env A h u e=>by
 rw[aH,bz];refine ah (ha af env A h u e) λx h1 v p1 q1=>ah (j4 q1.1) λt h2 t' p2 et=>?_;subst et;cases t' with
 | true =>rw[if_pos rfl,if_pos rfl];exact ah (hb af env A h2 ((u.ext p1).ext p2) ((e.ext p1).ext p2)) λy h3 w p3 q3=>ah (j4 q3.1) λt h2 t' p2 et=>by subst et;exact av j3
 | false =>rw[if_neg Bool.false_ne_true,if_neg Bool.false_ne_true];exact av j3
theorem v_or(ha:cA Φ Ψ a)(hb:cA Φ Ψ b):cA Φ Ψ (.or a b):=λaf env A h u e=>by
 rw[aH,bz];refine ah (ha af env A h u e) λx h1 v p1 q1=>ah (j4 q1.1) λt h2 t' p2 et=>?_;subst et;cases t' with
 | false =>rw[if_neg Bool.false_ne_true,if_neg Bool.false_ne_true];exact ah (hb af env A h2 ((u.ext p1).ext p2) ((e.ext p1).ext p2)) λy h3 w p3 q3=>ah (j4 q3.1) λt h2 t' p2 et=>by subst et;exact av j3
 | true =>rw[if_pos rfl,if_pos rfl];exact av j3
theorem v_not(ha:cA Φ Ψ a):cA Φ Ψ (.not a):=λaf env A h u e=>by
 rw[aH,bz];exact ah (ha af env A h u e) λx h1 v p1 q1=>ah (j4 q1.1) λt h2 t' p2 et=>by subst et;exact av j3
theorem v_ite(hc:cA Φ Ψ c)(ha:cA Φ Ψ a)(hb:cA Φ Ψ b):cA Φ Ψ (.ite c a b):=λaf env A h u e=>by rw[bz];trivial
theorem Ja:kU Φ Ψ .nil:=⟨λaf env A h u e=>by rw[aZ,qz];exact av ⟨aq.nil,λ_=>aq.nil⟩,λaf env A h u e=>by rw[aZ,gB];exact av rfl⟩
theorem Dg(he:cA Φ Ψ e)(hs:kU Φ Ψ es):kU Φ Ψ (.cons e es):=by
 refine⟨λaf env A h u er=>?_,λaf env A h u er=>?_⟩
 ·rw[aZ,qz]
  refine ah (he af env A h u er) λx h1 v p1 q1=>ah (hs.1 af env A h1 (u.ext p1) (er.ext p1)) λy h2 vs p2 q2=>?_;refine av ⟨aq.cons (q1.1.ext p2) q2.1,λhf=>?_⟩;have hf':x.1=true/\y.1=true:=by simpa using hf
  exact aq.cons ((q1.2 hf'.1).ext p2) ((q2.2 hf'.2).iz (Fr.le p1.length_le))
 ·rw[aZ,gB];refine ah (lM he u er) λx h1 v p1 q1=>ah (hs.2 af env A h1 (u.ext p1) (er.ext p1)) λy h2 vs p2 q2=>?_;exact av ⟨v,vs,rfl,DB.ext p2 q1,q2⟩
theorem OZ(hs:kU Φ Ψ es):cA Φ Ψ (.tup es):=λaf env A h u e=>by
 rw[aH,bz];refine ah (hs.1 af env A h u e) λx h1 vs p1 q1=>bI (λz=>by rw[<-q1.1.length];exact z) λ_=>av ⟨?_,λhf=>?_⟩
 ·show Dn A h1 (.tup _) _;rw[Dn];exact⟨vs,rfl,q1.1⟩
 ·show Dn _ h1 (.tup _) _;rw[Dn];exact⟨vs,rfl,q1.2 hf⟩
theorem LY:cA Φ Ψ .dct0:=λaf env A h u e=>by
 rw[aH,bz];refine⟨_,_,rfl,dR _,?_,λhf=>?_⟩
 ·show Dn A _ (.dc [] []) _;rw[Dn];exact⟨_,[],rfl,u _ (Nat.le_refl _),iW _,rfl,aq.nil⟩
 ·show Dn _ _ (.dc [] []) _;rw[Dn];exact⟨_,[],rfl,Nat.le_refl _,iW _,rfl,aq.nil⟩
theorem LZ(hk:cA Φ Ψ k)(hv:cA Φ Ψ v):cA Φ Ψ (.dct1 k v):=λaf env A h u e=>by
 rw[aH,bz];refine ah (hk af env A h u e) λx h1 w p1 q1=>ah (R:=λkk _ kk'=>kk'=kk) (bq λkk ek=>⟨kk,yu q1.1 ek,rfl⟩) λkk h2 kk' p2 hkk=>?_;subst hkk;refine ah (hv af env A h2 ((u.ext p1).ext p2) ((e.ext p1).ext p2)) λy h3 z p3 q3=>?_;have p:=(p1.trans p2).trans p3;refine⟨_,_,rfl,dR _,?_,λhf=>?_⟩
 ·show Dn A _ (.dc [kk'] [y.2]) _;rw[Dn];exact⟨_,[(kk',z)],rfl,u _ p.length_le,iW _,rfl,aq.cons (q3.1.ext (dR _)) aq.nil⟩
 ·show Dn _ _ (.dc [kk'] [y.2]) _;rw[Dn];exact⟨_,[(kk',z)],rfl,p.length_le,iW _,rfl,aq.cons (((q3.2 hf).iz (Fr.le (p1.trans p2).length_le)).ext (dR _)) aq.nil⟩
theorem Ma(hd:cA Φ Ψ d)(hk:cA Φ Ψ k)(hx:cA Φ Ψ x):cA Φ Ψ (.dget d k x):=λaf env A h u e=>by
 rw[aH,bz];refine ah (lM hd u e) λo h1 v p1 q1=>ah (R:=λ_ _ _=>True) (bL λt et=>⟨t,GR q1 et,trivial⟩) λ_ h2 _ p2 _=>?_;refine ah (hk af env A h2 ((u.ext p1).ext p2) ((e.ext p1).ext p2)) λi h3 w p3 q3=>ah (R:=λkk _ kk'=>kk'=kk) (bq λkk ek=>⟨kk,yu q3.1 ek,rfl⟩) λkk h4 kk' p4 hkk=>?_;subst hkk;have WK:=((p1.trans p2).trans p3).trans p4;refine ah (hx af env A h4 (u.ext WK) (e.ext WK)) λz h5 z' p5 q5=>?_;refine ah (R:=λr h' r'=>∀a b,Dn A h5 a b->Dn A h' (r.getD a) (r'.getD b)) (bL λr er=>?_) λr h6 r' p6 hr=>av (nR (hr _ _ q5.1));obtain⟨r',e1,e2⟩:=LU (DB.ext ((p2.trans p3).trans (p4.trans p5)) q1) er;exact⟨r',e1,e2⟩
theorem Hf(hd:cA Φ Ψ d):cA Φ Ψ (.lkeys d):=λaf env A h u e=>by
 rw[aH,bz];refine ah (lM hd u e) λo h1 v p1 q1=>ah (R:=λks _ ks'=>ks'=ks) (bL λks ek=>⟨ks,v7 q1 ek,rfl⟩) λks h2 ks' p2 hk=>?_;subst hk;exact fV ((u.ext p1).ext p2) (p1.trans p2) ((aX _ _ (mD ks')).mpr rfl) λ_=>(aX _ _ (mD ks')).mpr rfl
theorem Hg(hd:cA Φ Ψ d):cA Φ Ψ (.skeys d):=λaf env A h u e=>by
 rw[aH,bz];refine ah (lM hd u e) λo h1 v p1 q1=>ah (R:=λns _ ns'=>ns'=ns) (bL λns en=>⟨ns,?_,rfl⟩) λns h2 ns' p2 hk=>?_
 ·unfold uh at en |-;obtain⟨ks,e1,e2⟩:=bind_eq_some_iff.mp en;rw[v7 q1 e1];exact e2
 ·subst hk;exact fV ((u.ext p1).ext p2) (p1.trans p2) ((aX _ _ (bO ns')).mpr rfl) λ_=>(aX _ _ (bO ns')).mpr rfl
theorem we:∀{xs:List Val} {ns:List Int},aV xs=some ns->xs=ns.map .int
 | [],ns,e=>by cases e;rfl
 | x::xs,ns,e=>by
  unfold aV at e;rw[ck] at e;obtain⟨i,e1,e⟩:=bind_eq_some_iff.mp e;obtain⟨r,e2,e⟩:=bind_eq_some_iff.mp e;cases e;cases x<;>simp at e1;subst e1;rw[we e2];rfl
theorem Mb{p q:Nat}(hd:cA Φ Ψ d)(hw:cA Φ Ψ w):cA Φ Ψ (.dflt N' js p q d w):=λaf env A h u e=>by rw[bz];trivial
theorem O0(ha:cA Φ Ψ a):cA Φ Ψ (.isc a x bs):=λaf env A h u e=>by rw[bz];trivial
theorem Mc(ha:cA Φ Ψ a):cA Φ Ψ (.sset a):=λaf env A h u e=>by
 rw[aH,bz];refine ah (lM ha u e) λx h1 v p1 q1=>?_;obtain⟨f,d⟩:=x;cases d<;>first|trivial|skip
 rename_i xs;obtain⟨vs,e1,e2⟩:=DB.lst q1;have ea:∀(F:List Val->M Val),bnd (ask λh=>aB h v) F h1=F vs h1:=λF=>by unfold bnd ask bh;dsimp only;rw[e1]
 rw[ea];show Rel A h1 _ _ (pb (pl (aV xs)) _);refine ah (R:=λns h' ns'=>ns'=ns) (bq λns en=>⟨ns,?_,rfl⟩) λns h2 ns' p2 en=>?_
 ·have ei:=we en;subst ei;rw[(aX _ _ (bO ns)).mp e2];exact en
 ·subst en;refine bI (λz=>z) λ_=>?_;have hi:∀ms:List Int,aq A h2 (ms.map Val.int) (ms.map Val.int):=λms=>(aX _ _ (bO ms)).mpr rfl;exact fV ((u.ext p1).ext p2) (p1.trans p2) (hi _) λ_=>(aX _ _ (bO _)).mpr rfl
theorem O3(hs:kU Φ Ψ es):cA Φ Ψ (.lst es):=λaf env A h u e=>by
 rw[aH,bz];exact ah (hs.1 af env A h u e) λx h1 vs p1 q1=>bI (λz=>by rw[<-q1.1.length];exact z) λ_=>fV (u.ext p1) p1 q1.1 q1.2
theorem O4(ha:cA Φ Ψ a)(hb:cA Φ Ψ b):cA Φ Ψ (.idx a b):=λaf env A h u e=>by
 rw[aH,bz];refine ah (lM ha u e) λx h1 v p1 q1=>ah (hb af env A h1 (u.ext p1) (e.ext p1)) λy h2 w p2 q2=>?_;rw[zx];exact ah (R:=λz h' z'=>Dn A h' z z') (bL λz ez=>LV (DB.ext p2 q1) q2.1 ez) λz h3 z' p3 q3=>av (nR q3)
theorem j5(o:cA Φ Ψ ir)(u:Up A h)(e:ER A af env h) :
  Rel A h (λ(t:Option Int) _ t'=>t'=t) ((if cS ir=true then ret none else bnd (aH Φ ir env) λv=>bnd (bh (iU v)) λi=>ret (some i)) h) (if cS ir=true then .ok none else pb (bz Ψ ir af) λv=>pb (pl (iU v.2)) λi=>.ok (some i)):=by
 by_cases hn:cS ir=true
 ·rw[if_pos hn,if_pos hn];exact av rfl
 ·rw[if_neg hn,if_neg hn]
  refine ah (o af env A h u e) λx h1 v p1 q1=>ah (R:=λt _ t'=>t'=t) (bq λi ei=>?_) λt h2 t' p2 et=>by subst et;exact av rfl
  obtain⟨f,d⟩:=x;have q:=q1.1;cases d<;>first|(cases ei;done)|skip
  dsimp only at q;rw[Dn] at q;subst q;exact⟨i,ei,rfl⟩
theorem O5(ha:cA Φ Ψ a)(hl:cA Φ Ψ lo)(hh:cA Φ Ψ hi):cA Φ Ψ (.slc a lo hi):=λaf env A h u e=>by
 rw[aH,bz];refine ah (lM ha u e) λx h1 v p1 q1=>ah (j5 hl (u.ext p1) (e.ext p1)) λl h2 l' p2 el=>ah (j5 hh ((u.ext p1).ext p2) ((e.ext p1).ext p2)) λr h3 r' p3 er=>?_;subst el;subst er;exact GW (((u.ext p1).ext p2).ext p3) ((p1.trans p2).trans p3) (DB.ext (p2.trans p3) q1)
theorem O6(ha:cA Φ Ψ a)(hs:cA Φ Ψ sx):cA Φ Ψ (.rev a sx):=λaf env A h u e=>by
 rw[aH,bz];refine ah (lM ha u e) λx h1 v p1 q1=>ah (j5 hs (u.ext p1) (e.ext p1)) λl h2 l' p2 el=>?_;subst el;refine bI (λz=>z) λ_=>?_;obtain⟨f,d⟩:=x;cases d with
 | rl ds =>
  obtain⟨vs,e1,q⟩:=DB.lst (DB.ext p2 q1);have ev:bnd (ask λh=>aB h v) (λxs=>new (.lst xs.reverse)) h2=new (.lst vs.reverse) h2:=by unfold bnd ask bh;dsimp only;rw[e1]
  rw[ev];exact fV ((u.ext p1).ext p2) (p1.trans p2) (aq.rev q) λhh=>fc (aq.rev q) hh
 | _=>trivial
theorem Mf{j:Nat}(hΦ:∀j,Imp (Φ j) (Ψ j))(hs:kU Φ Ψ es):cA Φ Ψ (.call j es):=λaf env A h u e=>by
 rw[aH,bz];exact ah (hs.1 af env A h u e) λx h1 vs p1 q1=>Df p1 (hΦ j A h1 x.2 vs (u.ext p1) q1.1)
theorem O7{n:Nat}(ha:cA Φ Ψ a):cA Φ Ψ (.fld n a x):=λaf env A h u e=>by
 rw[aH,bz];refine ah (lM ha u e) λo h1 v p1 q1=>?_;rw[zx];exact ah (R:=λz h' z'=>Dn A h' z z') (bL λz ez=>LW q1 ez) λz h3 z' p3 q3=>av (nR q3)
theorem O8(hΦ:∀j,Imp (Φ j) (Ψ j))(ha:cA Φ Ψ a)(hs:kU Φ Ψ es):cA Φ Ψ (.mth a m js es):=λaf env A h u e=>by
 rw[aH,bz];refine ah (ha af env A h u e) λo h1 v p1 q1=>ah (R:=λj _ j'=>j'=j) (bL λj ej=>⟨j,LX (.inl q1.1) ej,rfl⟩) λj h2 j' p2 hj=>?_;subst hj;exact ah (hs.1 af env A h2 ((u.ext p1).ext p2) ((e.ext p1).ext p2)) λx h3 vs p3 q3=>Df ((p1.trans p2).trans p3) (hΦ j' A h3 (o.2::x.2) (v::vs) (((u.ext p1).ext p2).ext p3) (aq.cons (q1.1.ext (p2.trans p3)) q3.1))
theorem O9(hs:kU Φ Ψ es):cA Φ Ψ (.blt b es):=λaf env A h u e=>by
 rw[aH,bz];exact ah (hs.2 af env A h u e) λx h1 vs p1 q1=>GY (u.ext p1) p1 q1
theorem Pa(ha:cA Φ Ψ a)(hs:kU Φ Ψ es):cA Φ Ψ (.met m a es):=λaf env A h u e=>by
 cases m with
 | join=>rw[bz];trivial
 | append=>rw[bz]<;>first|trivial|(intro z;cases z)
 | extend=>rw[bz]<;>first|trivial|(intro z;cases z)
noncomputable def SrcR(A:AP)(h:Hs)(xs:List Val)(src:Src):Prop:=∃ws,aq A h xs ws/\∀h',h<+:h'->src.items h'=some ws
theorem kK{lo:Int}{n:Nat}:aq A h (cE lo n) (cE lo n):=by
 unfold cE;generalize List.range n=l
 induction l with
 | nil=>exact aq.nil
 | cons a l ih=>exact aq.cons (by rw[Dn]) ih
theorem iX:∀{xs ws:List Val} (i:Nat),aq A h xs ws->aq A h (cV i xs) (cV i ws)
 | [],ws,i,q=>by rw[aq] at q;subst q;exact aq.nil
 | x::xs,ws,i,q=>by
  rw[aq] at q;obtain⟨w,r,rfl,a,b⟩:=q;exact aq.cons (by rw[Dn];exact⟨_,rfl,aq.cons (by rw[Dn]) (aq.cons a aq.nil)⟩) (iX (i+1) b)
theorem zz{ds vs:List Val}(a:DB A h (.rl ds) v):∃ws,aq A h ds ws/\((v=.rl ws)\/∃i,v=.ref i/\∀h',h<+:h'->aB h' (.ref i)=some ws):=by
 rcases a with a|⟨i,rfl,vs,g,q⟩
 ·rw[Dn] at a
  rcases a with ⟨vs,rfl,_,q⟩|⟨i,vs,rfl,_,g,q⟩
  ·exact⟨vs,q,.inl rfl⟩
  ·exact⟨vs,q,.inr ⟨i,rfl,λh' p=>by simp[aB,cI p g]⟩⟩
 ·exact⟨vs,q,.inr ⟨i,rfl,λh' p=>by simp[aB,cI p g]⟩⟩
theorem zA(a:GS A h ds vs):Rel A h (λxs h' src=>SrcR A h' xs src) (bh (srcOf k vs) h) (pl (CV k ds)):=by
 refine bq λxs e=>?_;cases k with
 | seq =>
  match ds,e with
  | [.tup es],e =>cases e;obtain⟨v,rfl,hv⟩:=a.one;obtain⟨ws,rfl,q⟩:=hv.tup;exact⟨.fix ws,rfl,ws,q,λ_ _=>rfl⟩
  | [.rl es],e =>
   cases e;obtain⟨v,rfl,hv⟩:=a.one;obtain⟨ws,q,rfl|⟨i,rfl,g⟩⟩:=zz (vs:=[]) hv
   ·exact⟨.fix ws,rfl,ws,q,λ_ _=>rfl⟩
   ·exact⟨.live i,rfl,ws,q,λh' p=>g h' p⟩
 | range =>
  match ds,e with
  | [.int n],e =>
   obtain⟨v,rfl,hv⟩:=a.one;have:=hv.int;subst this;change (if inR n=true then some (cE 0 n.toNat) else none)=some _ at e;split at e
   ·rename_i hn;cases e;exact⟨.fix _,if_pos hn,_,kK,λ_ _=>rfl⟩
   ·cases e
  | [.int n,.int m],e =>
   obtain⟨v,r,rfl,hv,hr⟩:=a;obtain⟨w,rfl,hw⟩:=GS.one hr;have:=hv.int;subst this;have:=hw.int;subst this;change (if (inR n&&inR m)=true then some (cE n (m-n).toNat) else none)=some _ at e;split at e
   ·rename_i hn;cases e;exact⟨.fix _,if_pos hn,_,kK,λ_ _=>rfl⟩
   ·cases e
 | enum =>
  match ds,e with
  | [.rl es],e =>
   cases e;obtain⟨v,rfl,hv⟩:=a.one;obtain⟨ws,q,rfl|⟨i,rfl,g⟩⟩:=zz (vs:=[]) hv
   ·exact⟨.fix _,rfl,_,iX 0 q,λ_ _=>rfl⟩
   ·exact⟨.enum i,rfl,_,iX 0 q,λh' p=>by simp[Src.items,g h' p]⟩
 | zip=>cases e
theorem zB:∀{is:List Nat} {ds vs:List Val} {af aI:bJ} {env:Env},cJ is ds af=some aI->aq A h ds vs->ER A af env h->(∀i∈is,i<af.length->i<env.length)->∃env',bindAll is vs env=some env'/\ER A aI env' h
 | [],[],vs,af,aI,env,e,q,er,_=>by
  rw[aq] at q;subst q;simp only[cJ] at e;cases e;exact⟨env,rfl,er⟩
 | i::is,d::ds,vs,af,aI,env,e,q,er,hl=>by
  rw[aq] at q;obtain⟨v,r,rfl,q1,q2⟩:=q;simp only[cJ] at e;have S4:ER A (af.set i (some (.sh,d))) (env.set i (some v)) h:=λj f d' hj=>by
   by_cases hij:i=j
   ·subst hij
    have hi:i<af.length:=by have:=(List.getElem?_eq_some_iff.mp hj).1;simpa using this
    rw[getElem?_set_self hi] at hj;cases hj;rw[if_neg (by decide)];exact⟨v,by rw[getElem?_set_self (hl i mem_cons_self hi)],q1⟩
   ·rw[getElem?_set_ne hij] at hj;rw[getElem?_set_ne hij];exact er j f d' hj
  simp only[bindAll];exact zB e q2 S4 λj hj hl'=>by simpa using hl j (mem_cons_of_mem _ hj) (by simpa using hl')
 | [],_::_,_,_,_,_,e,_,_,_=>by simp[cJ] at e
 | _::_,[],_,_,_,_,e,_,_,_=>by simp[cJ] at e
theorem wg(e:fG p d af=some aI)(q:Dn A h d v)(er:ER A af env h)(hl:af.length<=env.length):∃env',gq p v env=some env'/\ER A aI env' h:=by
 cases p with
 | one i =>
  simp only[fG] at e;cases e;refine⟨_,rfl,λj f d' hj=>?_⟩
  by_cases hij:i=j
  ·subst hij
   have hi:i<af.length:=by have:=(List.getElem?_eq_some_iff.mp hj).1;simpa using this
   rw[getElem?_set_self hi] at hj;cases hj;rw[if_neg (by decide)];exact⟨v,by rw[getElem?_set_self (by omega)],q⟩
  ·rw[getElem?_set_ne hij] at hj;rw[getElem?_set_ne hij];exact er j f d' hj
 | tup is =>
  cases d<;>simp only[fG] at e<;>first|(cases e;done)|skip
  rw[Dn] at q;obtain⟨vs,rfl,q⟩:=q;exact zB e q er λi _ hi=>by omega
theorem zC(e:ER A af env h):ER A (gc js af) (jU js env) h:=λi f d q=>by
 unfold gc at q;rw[getElem?_map] at q;cases hj:js[i]? with
 | none=>rw[hj] at q;cases q
 | some o =>
  rw[hj] at q;simp only[map_some] at q;cases o with
  | none=>cases q
  | some j =>
   dsimp only at q;cases ej:af[j]? with
   | none=>rw[ej] at q;cases q
   | some w =>
    cases w with
    | none=>rw[ej] at q;cases q
    | some fd =>
     rw[ej] at q;cases q;have:=e j f d ej;revert this;generalize lu f=t;intro this;cases t with
     | false =>rw[if_pos rfl] at this |-;obtain⟨a,k2,k3⟩:=this;refine⟨a,?_,k3⟩;unfold jU;rw[getElem?_map,hj];simp only[map_some];rw[k2]
     | true =>rw[if_neg (by decide)] at this |-;obtain⟨v,k1,k2⟩:=this;refine⟨v,?_,k2⟩;unfold jU;rw[getElem?_map,hj];simp only[map_some];rw[k1]
theorem qC :
  ∀(xs:List Val) (vs:List Val) (i:Nat) (acc:List Val) (h:Hs),hb<+:h->Up A h->(∀h',h<+:h'->src.items h'=some ws)->ws.drop i=vs->aq A h xs vs ->
   (∀x v h',h<+:h'->Dn A h' x v->Rel A h' (λo h'' o'=>match o,o' with|some e,some e'=>RV A hb e h'' e'|none,none=>True|_,_=>False) (f v h') (g x)) ->
   Rel A h (λp h' ys=>∃zs,ys=acc++zs/\aq A h' p.2 zs/\(p.1=true->aq (Fr hb.length) h' p.2 zs)) (f6 src f vs.length i acc h) (jI g xs)
 | [],vs,i,acc,h,WL,u,hi,hd,q,hf=>by
  rw[aq] at q;subst q;have hl:ws.length<=i:=List.drop_eq_nil_iff.mp hd;have ev:f6 src f ([]:List Val).length i acc h=.ok acc h:=by show f6 src f 0 i acc h=_;simp only[f6];unfold bnd ask bh aF;dsimp only;rw[hi h (prefix_refl _)];dsimp only;rw[if_pos (decide_eq_true hl)];rfl
  rw[ev,jI];exact⟨acc,h,rfl,prefix_refl _,[],by simp,aq.nil,λ_=>aq.nil⟩
 | x::xs,vs,i,acc,h,WL,u,hi,hd,q,hf=>by
  rw[aq] at q;obtain⟨v,r,rfl,q1,q2⟩:=q;have hv:ws[i]?=some v:=by have:=congrArg (λl=>l[0]?) hd;simpa using this
  have hr:ws.drop (i+1)=r:=by
   have:ws.drop (i+1)=(ws.drop i).drop 1:=by rw[List.drop_drop]
   rw[this,hd];rfl
  have ev:f6 src f (v::r).length i acc h=bnd (f v) (λo=>f6 src f r.length (i+1) (match o with|some e=>acc++[e]|none=>acc)) h:=by show f6 src f (r.length+1) i acc h=_;simp only[f6];unfold bnd ask bh;dsimp only;rw[hi h (prefix_refl _)];dsimp only;rw[hv];try rfl
  rw[ev,jI];refine ah (hf x v h (prefix_refl _) q1) λo h1 o' p1 ho=>?_;have ih:=λacc'=>qC xs r (i+1) acc' h1 (WL.trans p1) (u.ext p1) (λh' p=>hi h' (p1.trans p)) hr (q2.ext p1) λx v h' p=>hf x v h' (p1.trans p);cases o' with
  | some e' =>
   cases o with
   | none=>exact ho.elim
   | some e =>
    have ih:=ih (acc++[e']);cases e2:jI g xs with
    | ok p =>
     rw[e2] at ih;obtain⟨ys,h2,e3,p2,zs,rfl,z1,z2⟩:=ih;refine⟨_,h2,e3,p2,e'::zs,by simp,aq.cons (ho.1.ext p2) z1,λhp=>?_⟩;have WM:e.1=true/\p.1=true:=by simpa using hp
     exact aq.cons ((ho.2 WM.1).ext p2) (z2 WM.2)
    | exc c es=>rw[e2] at ih;exact ih
    | no=>trivial
  | none =>
   cases o with
   | some e'=>exact ho.elim
   | none =>
    have ih:=ih acc;cases e2:jI g xs with
    | ok p =>rw[e2] at ih;obtain⟨ys,h2,e3,p2,zs,rfl,z1,z2⟩:=ih;exact⟨_,h2,e3,p2,zs,rfl,z1,z2⟩
    | exc c es=>rw[e2] at ih;exact ih
    | no=>trivial
theorem Mg(hs:kU Φ Ψ it)(hc:cA Φ Ψ c)(he:cA Φ Ψ elt):cA Φ Ψ (.comp N js pat k it c elt):=λaf env A h u e=>by
 rw[aH,bz];refine ah (hs.2 af env A h u e) λds h1 vs p1 q1=>ah (zA q1) λxs h2 src p2 q2=>?_;obtain⟨ws,q3,q4⟩:=q2;have l:=q3.length;have ev:∀(F:List Val->M Val),bnd (ask λh=>src.items h) F h2=F ws h2:=λF=>by unfold bnd ask bh;dsimp only;rw[q4 h2 (prefix_refl _)]
 rw[ev];refine bI (λz=>by rw[<-l];exact z) λ_=>?_;have u2:=(u.ext p1).ext p2;have e2:=(e.ext p1).ext p2;refine ah (qC (hb:=h) xs ws 0 [] h2 (p1.trans p2) u2 q4 rfl q3 λx v h' p' qx=>?_) λp h3 ys p3 hp=>?_
 ·refine ah (R:=λaI _ env'=>∃_:ER A aI env' h',True) (bq λaI ev'=>?_) λaI h4 env' p4 he'=>?_
  ·obtain⟨env',a1,a2⟩:=wg ev' qx (zC (e2.ext p')) (by simp[gc,jU]);exact⟨env',a1,a2,trivial⟩
  ·obtain⟨er,_⟩:=he'
   have er:=er.ext p4;have u4:=(u2.ext p').ext p4;have OE:Rel A h4 (λt _ t'=>t'=t) ((if cS c=true then ret true else bnd (aH Φ c env') λv=>ask λh=>dQ h v) h4) (if cS c=true then .ok true else pb (bz Ψ c aI) λv=>pl (dQ [] v.2)):=by
    by_cases hn:cS c=true
    ·rw[if_pos hn,if_pos hn];exact av rfl
    ·rw[if_neg hn,if_neg hn];exact ah (hc aI env' A h4 u4 er) λy h5 w p5 q5=>bL λt et=>⟨t,yt q5.br et,rfl⟩
   refine ah OE λt h5 t' p5 et=>?_;subst et;cases t' with
   | true =>rw[if_pos rfl,if_pos rfl];exact ah (he aI env' A h5 (u4.ext p5) (er.ext p5)) λy h6 w p6 q6=>av (q6.up ((p1.trans p2).trans (p'.trans (p4.trans p5))))
   | false =>rw[if_neg Bool.false_ne_true,if_neg Bool.false_ne_true];exact av trivial
 ·obtain⟨zs,rfl,z1,z2⟩:=hp;exact fV (u2.ext p3) ((p1.trans p2).trans p3) z1 z2
mutual
noncomputable def eF:IE->Bool
 | .cst d=>ju d
 | .con _ d=>ju d
 | .bin _ a b=>eF a&&eF b
 | .neg a=>eF a
 | .cmp _ a b=>eF a&&eF b
 | .chn _ _ a b c=>eF a&&eF b&&eF c
 | .and a b=>eF a&&eF b
 | .or a b=>eF a&&eF b
 | .not a=>eF a
 | .ite a b c=>eF a&&eF b&&eF c
 | .tup es=>mF es
 | .lst es=>mF es
 | .idx a b=>eF a&&eF b
 | .slc a b c=>eF a&&eF b&&eF c
 | .call _ es=>mF es
 | .blt _ es=>mF es
 | .met _ a es=>eF a&&mF es
 | .comp _ _ _ _ es a b=>mF es&&eF a&&eF b
 | .var _=>true
 | .no=>true
 | .dct0=>true
 | .sset a=>eF a
 | .dget a b c=>eF a&&eF b&&eF c
 | .dct1 a b=>eF a&&eF b
 | .lkeys a=>eF a
 | .sdef ..=>false
 | .svals _=>false
 | .skeys a=>eF a
 | .fld _ a _=>eF a
 | .mth a _ _ es=>eF a&&mF es
 | .rev a b=>eF a&&eF b
 | .dflt _ _ _ _ a b=>eF a&&eF b
 | .isc a _ _=>eF a
noncomputable def mF:oq->Bool
 | .nil=>true
 | .cons e es=>eF e&&mF es
end
theorem v_all(hΦ:∀j,Imp (Φ j) (Ψ j)):(∀ir,eF ir=true->cA Φ Ψ ir)/\∀eX,mF eX=true->kU Φ Ψ eX:=by
 have one:∀ir,eF ir=true->cA Φ Ψ ir:=by
  intro ir;refine IE.rec (motive_1:=λir=>eF ir=true->cA Φ Ψ ir) (motive_2:=λeX=>mF eX=true->kU Φ Ψ eX) ?_ ?_ ?_ ?_ ?_ ?_ ?_ ?_ ?_ ?_ ?_ ?_ ?_ ?_ ?_ ?_ ?_ ?_ ?_ ?_ ?_ ?_ ?_ ?_ ?_ ?_ ?_ ?_ ?_ ?_ ?_ ?_ ?_ ?_ ?_ ir
  ·exact λ_ _=>v_var
  ·exact λ_ f=>OT f
  ·exact λ_ _ f=>OU f
  ·exact λ_=>S0
  ·intro _ _ _ a b f;have f:=gC f;exact OV (a f.1) (b f.2)
  ·intro _ a f;exact OW (a f)
  ·intro _ _ _ a b f;have f:=gC f;exact OX (a f.1) (b f.2)
  ·intro _ _ _ _ _ a b c f;have f:=uz f;exact OY (a f.1.1) (b f.1.2) (c f.2)
  ·intro _ _ a b f;have f:=gC f;exact v_and (a f.1) (b f.2)
  ·intro _ _ a b f;have f:=gC f;exact v_or (a f.1) (b f.2)
  ·intro _ a f;exact v_not (a f)
  ·intro _ _ _ a b c f;have f:=uz f;exact v_ite (a f.1.1) (b f.1.2) (c f.2)
  ·intro _ a f;exact OZ (a f)
  ·intro _ a f;exact O3 (a f)
  ·intro _ _ a b f;have f:=gC f;exact O4 (a f.1) (b f.2)
  ·intro _ _ _ a b c f;have f:=uz f;exact O5 (a f.1.1) (b f.1.2) (c f.2)
  ·intro _ _ a f;exact Mf hΦ (a f)
  ·intro _ _ a f;exact O9 (a f)
  ·intro _ _ _ a b f;have f:=gC f;exact Pa (a f.1) (b f.2)
  ·intro _ _ _ _ _ _ _ a b c f;have f:=uz f;exact Mg (a f.1.1) (b f.1.2) (c f.2)
  ·exact λ_=>LY
  ·intro _ a f;exact Mc (a f)
  ·intro _ _ _ a b c f;have f:=uz f;exact Ma (a f.1.1) (b f.1.2) (c f.2)
  ·intro _ _ a b f;have f:=gC f;exact LZ (a f.1) (b f.2)
  ·intro _ a f;exact Hf (a f)
  ·intro _ _ _ _ _ _ f;exact nomatch (show false=true from f)
  ·intro _ _ f;exact nomatch (show false=true from f)
  ·intro _ a f;exact Hg (a f)
  ·intro _ _ _ a f;exact O7 (a f)
  ·intro _ _ _ _ a b f;have f:=gC f;exact O8 hΦ (a f.1) (b f.2)
  ·intro _ _ a b f;have f:=gC f;exact O6 (a f.1) (b f.2)
  ·intro _ _ _ _ _ _ a b f;have f:=gC f;exact Mb (a f.1) (b f.2)
  ·intro _ _ _ a f;exact O0 (a f)
  ·exact λ_=>Ja
  ·intro _ _ a b f;have f:=gC f;exact Dg (a f.1) (b f.2)
 refine⟨one,λeX=>?_⟩
 induction eX using oq.rec (motive_1:=λ_=>True) with
 | nil=>exact λ_=>Ja
 | cons e es _ ih=>exact λf=>by have f:=gC f;exact Dg (one e f.1) (ih f.2)
 | _=>trivial
end
end Hv
end
section
namespace Hv
open PySem L2
section
variable {A A':AP} {h h':Hs}
mutual
theorem Dn.move(hn:A none->A' none)(hh:∀(i:Nat) (o:Ob),A (some i)->h[i]?=some o->A' (some i)/\h'[i]?=some o):∀(d v:Val),Dn A h d v->Dn A' h' d v
 | .non,v,e=>by rw[Dn] at e |-;exact e
 | .bl _,v,e=>by rw[Dn] at e |-;exact e
 | .int _,v,e=>by rw[Dn] at e |-;exact e
 | .str _,v,e=>by rw[Dn] at e |-;exact e
 | .tup ds,v,e=>by
  rw[Dn] at e |-;obtain⟨vs,rfl,q⟩:=e;exact⟨vs,rfl,aq.move hn hh ds vs q⟩
 | .rl ds,v,e=>by
  rw[Dn] at e |-
  rcases e with ⟨vs,rfl,n,q⟩|⟨i,vs,rfl,a,g,q⟩
  ·exact .inl ⟨vs,rfl,hn n,aq.move hn hh ds vs q⟩
  ·exact .inr ⟨i,vs,rfl,(hh i _ a g).1,(hh i _ a g).2,aq.move hn hh ds vs q⟩
 | .dc ks ds,v,e=>by
  rw[Dn] at e |-;obtain⟨i,kvs,rfl,a,g,k,q⟩:=e;exact⟨i,kvs,rfl,(hh i _ a g).1,(hh i _ a g).2,k,aq.move hn hh ds _ q⟩
 | .ob c xs ds,v,e=>by
  rw[Dn] at e |-;obtain⟨i,kvs,rfl,a,g,k,q⟩:=e;exact⟨i,kvs,rfl,(hh i _ a g).1,(hh i _ a g).2,k,aq.move hn hh ds _ q⟩
 | .ref _,v,e=>by rw[Dn] at e;exact e.elim
theorem aq.move(hn:A none->A' none)(hh:∀(i:Nat) (o:Ob),A (some i)->h[i]?=some o->A' (some i)/\h'[i]?=some o):∀(ds vs:List Val),aq A h ds vs->aq A' h' ds vs
 | [],vs,e=>by rw[aq] at e |-;exact e
 | d::ds,vs,e=>by
  rw[aq] at e |-;obtain⟨v,r,rfl,q1,q2⟩:=e;exact⟨v,r,rfl,Dn.move hn hh d v q1,aq.move hn hh ds r q2⟩
end
end
noncomputable def Al(A0:AP)(O:Nat->Option Nat):AP:=λo=>A0 o/\∀i,o.isSome=true->O i≠o
structure SR (A0:AP) (h0:Hs) (af:bJ) (env:Env) (h:Hs) (O:Nat->Option Nat):Prop where
 len:af.length=env.length
 sh:∀(i:Nat) (m:Mk) (d:Val),af[i]?=some (some (m,d))->lu m=true->∃v,env[i]?=some (some v)/\Dn (Al A0 O) h d v/\(M8 m=true->Dn (Al (Fr h0.length) O) h d v)
 ow:∀(i:Nat) (d:Val),af[i]?=some (some (.ow,d))->∃a,env[i]?=some (some (.ref a))/\O i=some a/\OD (Al A0 O) h d a
 own:∀i a,O i=some a->h0.length<=a/\a<h.length/\∃d,af[i]?=some (some (.ow,d))
 inj:∀i j a,O i=some a->O j=some a->i=j
 pre:h0<+:h
 up:Up A0 h0
structure Fm (m:List Nat) (af:bJ) (env:Env) (h:Hs) (O:Nat->Option Nat) (aI:bJ) (env':Env) (h':Hs) (O':Nat->Option Nat):Prop where
 le:h.length<=h'.length
 keep:∀k,k<h.length->(∀i,O i≠some k)->h'[k]?=h[k]?/\∀i,O' i≠some k
 stay:∀i,i∉m->O' i=O i/\aI[i]?=af[i]?/\env'[i]?=env[i]?/\∀a,O i=some a->h'[a]?=h[a]?
noncomputable def RF(A0:AP)(h0:Hs)(m:List Nat)(af:bJ)(env:Env)(h:Hs)(O:Nat->Option Nat):EW->Hs->Fl->Prop
 | .nx aI,h',.nx env'=>∃O',SR A0 h0 aI env' h' O'/\Fm m af env h O aI env' h' O'
 | .bk aI,h',.bk env'=>∃O',SR A0 h0 aI env' h' O'/\Fm m af env h O aI env' h' O'
 | .ct aI,h',.ct env'=>∃O',SR A0 h0 aI env' h' O'/\Fm m af env h O aI env' h' O'
 | .rt p,h',.rt v=>Dn A0 h' p.2 v/\(p.1=true->Dn (Fr h0.length) h' p.2 v)/\h0<+:h'
 | _,_,_=>False
noncomputable def iL(A0:AP)(h0:Hs){α β:Type}(R:α -> Hs -> β -> Prop)(o:Out β):Pr α -> Prop
 | .ok f=>∃g h',o=.ok g h'/\R f h' g
 | .exc c es=>∃ws h',o=.exc c ws h'/\h0<+:h'/\aq A0 h' es ws
 | .no=>True
section
variable {A0:AP} {h0:Hs} {af:bJ} {env:Env} {h h1:Hs} {O:Nat->Option Nat} {m:List Nat}
theorem SR.er(s:SR A0 h0 af env h O):ER (Al A0 O) af env h:=λi f d e=>by
 cases f with
 | ow =>rw[if_pos (show lu .ow=false by decide)];obtain⟨a,k2,_,k3⟩:=s.ow i d e;exact⟨a,k2,k3⟩
 | sh=>rw[if_neg (by decide)];obtain⟨v,k1,k2,_⟩:=s.sh i _ d e rfl;exact⟨v,k1,k2⟩
 | nw=>rw[if_neg (by decide)];obtain⟨v,k1,k2,_⟩:=s.sh i _ d e rfl;exact⟨v,k1,k2⟩
theorem SR.Bc(s:SR A0 h0 af env h O):Up (Al A0 O) h:=λk hk=>⟨s.up k (le_trans s.pre.length_le hk),λi _ e=>by have:=(s.own i k e).2.1;omega⟩
theorem SR.ext(s:SR A0 h0 af env h O)(p:h<+:h1):SR A0 h0 af env h1 O where
 len:=s.len
 sh i m d e hm:=by obtain⟨v,k1,k2,k3⟩:=s.sh i m d e hm;exact⟨v,k1,k2.ext p,λz=>(k3 z).ext p⟩
 ow i d e:=by obtain⟨a,k2,k3,k4⟩:=s.ow i d e;exact⟨a,k2,k3,k4.ext p⟩
 own i a e:=by obtain⟨k1,k2,k3⟩:=s.own i a e;exact⟨k1,lt_of_lt_of_le k2 p.length_le,k3⟩
 inj:=s.inj
 pre:=s.pre.trans p
 up:=s.up
theorem iY(p:h<+:h1){k:Nat}(hk:k<h.length):h1[k]?=h[k]?:=by
 obtain⟨t,rfl⟩:=p;rw[getElem?_append_left hk]
theorem Fm.refl(s:SR A0 h0 af env h O)(p:h<+:h1):Fm m af env h O af env h1 O where
 le:=p.length_le
 keep k hk n:=⟨iY p hk,n⟩
 stay i _:=⟨rfl,rfl,rfl,λa e=>iY p (s.own i a e).2.1⟩
theorem Fm.trans{mG oE:bJ}{gD lJ:Env}{h2:Hs}{O1 O2:Nat->Option Nat}(a:Fm m af env h O mG gD h1 O1)(b:Fm m mG gD h1 O1 oE lJ h2 O2):Fm m af env h O oE lJ h2 O2 where
 le:=le_trans a.le b.le
 keep k hk n:=by obtain⟨a1,a2⟩:=a.keep k hk n;obtain⟨b1,b2⟩:=b.keep k (lt_of_lt_of_le hk a.le) a2;exact⟨b1.trans a1,b2⟩
 stay i hi:=by obtain⟨a1,a2,a3,a4⟩:=a.stay i hi;obtain⟨b1,b2,b3,b4⟩:=b.stay i hi;exact⟨b1.trans a1,b2.trans a2,b3.trans a3,λc e=>(b4 c (a1.trans e)).trans (a4 c e)⟩
theorem Fm.iz{m':List Nat}(hm:∀i∈m,i∈m')(a:Fm m af env h O aI env' h1 O'):Fm m' af env h O aI env' h1 O':=⟨a.le,a.keep,λi hi=>a.stay i λz=>hi (hm i z)⟩
theorem RF.pre(s:SR A0 h0 af env h O)(p:h<+:h1)(r:RF A0 h0 m af env h1 O f h' g):RF A0 h0 m af env h O f h' g:=by
 cases f<;>cases g<;>first|exact r.elim|exact r|(obtain⟨O',a,b⟩:=r;exact⟨O',a,(Fm.refl s p).trans b⟩)
theorem RF.iz{m':List Nat}(hm:∀i∈m,i∈m')(r:RF A0 h0 m af env h O f h' g):RF A0 h0 m' af env h O f h' g:=by
 cases f<;>cases g<;>first|exact r.elim|exact r|(obtain⟨O',a,b⟩:=r;exact⟨O',a,b.iz hm⟩)
theorem RF.seq{mG:bJ}{gD:Env}{O1:Nat->Option Nat}(a:Fm m af env h O mG gD h1 O1)(r:RF A0 h0 m mG gD h1 O1 f h' g):RF A0 h0 m af env h O f h' g:=by
 cases f<;>cases g<;>first|exact r.elim|exact r|(obtain⟨O',b,c⟩:=r;exact⟨O',b,a.trans c⟩)
theorem bT{α β γ δ:Type}{R:α -> Hs -> β -> Prop}{R':γ -> Hs -> δ -> Prop}{mm:M β}{f:β -> M δ}{p:Pr α}{F:α -> Pr γ}(s:SR A0 h0 af env h O)(r:Rel (Al A0 O) h R (mm h) p)(k:∀a h1 b,h<+:h1->R a h1 b->iL A0 h0 R' (f b h1) (F a)):iL A0 h0 R' (bnd mm f h) (pb p F):=by
 unfold bnd;cases p with
 | ok a=>obtain⟨b,h1,e,q,r⟩:=r;rw[e];exact k a h1 b q r
 | exc c es=>obtain⟨ws,h1,e,q,r⟩:=r;rw[e];exact⟨ws,h1,rfl,s.pre.trans q,r.iz λ_ z=>z.1⟩
 | no=>trivial
theorem bE{α β:Type}{R:α -> Hs -> β -> Prop}{a:α}{b:β}(r:R a h b):iL A0 h0 R (ret b h) (.ok a):=⟨b,h,rfl,r⟩
theorem iZ{α β:Type}{R R':α -> Hs -> β -> Prop}{o:Out β}{p:Pr α}(r:iL A0 h0 R o p)(k:∀a h' b,R a h' b->R' a h' b):iL A0 h0 R' o p:=by
 cases p with
 | ok a=>obtain⟨b,h',e,r⟩:=r;exact⟨b,h',e,k a h' b r⟩
 | exc c es=>exact r
 | no=>trivial
theorem qD{α β γ δ:Type}{R:α -> Hs -> β -> Prop}{R':γ -> Hs -> δ -> Prop}{mm:M β}{f:β -> M δ}{p:Pr α}{F:α -> Pr γ}(r:iL A0 h0 R (mm h) p)(k:∀a h1 b,R a h1 b->iL A0 h0 R' (f b h1) (F a)):iL A0 h0 R' (bnd mm f h) (pb p F):=by
 unfold bnd;cases p with
 | ok a=>obtain⟨b,h1,e,r⟩:=r;rw[e];exact k a h1 b r
 | exc c es=>obtain⟨ws,h1,e,q,r⟩:=r;rw[e];exact⟨ws,h1,rfl,q,r⟩
 | no=>trivial
theorem kL{α β:Type}{R:α -> Hs -> β -> Prop}{c:Bool}{o:Out β}{p:Pr α}(r:c=true->iL A0 h0 R o p):iL A0 h0 R o (pg c p):=by
 unfold pg;cases c with
 | true=>rw[if_pos rfl];exact r rfl
 | false=>rw[if_neg Bool.false_ne_true];trivial
noncomputable def gr(O:Nat->Option Nat)(i:Nat):Nat->Option Nat:=λj=>if j=i then none else O j
theorem pC:Al A0 O none->Al A0 O none:=id
theorem j6:Al A0 O none->Al A0 O' none:=λh=>⟨h.1,λ_ z=>by cases z⟩
theorem jB{i:Nat}:∀k,Al A0 O k->Al A0 (gr O i) k:=λk ⟨a,b⟩=>⟨a,λj z=>by unfold gr;split;(cases k<;>simp_all);exact b j z⟩
theorem SR.setM(s:SR A0 h0 af env h O){i:Nat}{mk:Mk}{d v:Val}(YL:lu mk=true)(q:Dn (Al A0 O) h d v)(qn:M8 mk=true->Dn (Al (Fr h0.length) O) h d v):SR A0 h0 (af.set i (some (mk,d))) (env.set i (some v)) h (gr O i)/\Fm [i] af env h O (af.set i (some (mk,d))) (env.set i (some v)) h (gr O i):=by
 refine⟨⟨by simp[s.len],λj m' d' e hm'=>?_,λj d' e=>?_,λj a e=>?_,λj l a e1 e2=>?_,s.pre,s.up⟩,Nat.le_refl _,λk hk n=>⟨rfl,λj=>?_⟩,λj hj=>?_⟩
 ·by_cases hij:i=j
  ·subst hij
   have hi:i<af.length:=by have:=(List.getElem?_eq_some_iff.mp e).1;simpa using this
   rw[getElem?_set_self hi] at e;cases e;exact⟨v,by rw[getElem?_set_self (by rw[<-s.len];exact hi)],q.iz jB,λz=>(qn z).iz jB⟩
  ·rw[getElem?_set_ne hij] at e;rw[getElem?_set_ne hij];obtain⟨w,k1,k2,k3⟩:=s.sh j m' d' e hm';exact⟨w,k1,k2.iz jB,λz=>(k3 z).iz jB⟩
 ·by_cases hij:i=j
  ·subst hij
   have hi:i<af.length:=by have:=(List.getElem?_eq_some_iff.mp e).1;simpa using this
   rw[getElem?_set_self hi] at e;cases e;cases YL
  ·rw[getElem?_set_ne hij] at e;rw[getElem?_set_ne hij];obtain⟨a,k2,k3,k4⟩:=s.ow j d' e;exact⟨a,k2,by unfold gr;rw[if_neg (λz=>hij z.symm)];exact k3,k4.mono (λ_ g=>g) λ_ _ z=>z.iz jB⟩
 ·unfold gr at e
  split at e
  ·cases e
  ·rename_i hj;obtain⟨k1,k2,d',k3⟩:=s.own j a e;exact⟨k1,k2,d',by rw[getElem?_set_ne (λz=>hj z.symm)];exact k3⟩
 ·unfold gr at e1 e2
  split at e1
  ·cases e1
  ·split at e2
   ·cases e2
   ·exact s.inj j l a e1 e2
 ·unfold gr;split;simp;exact n j
 ·have hj':j≠i:=by simpa using hj
  exact⟨by unfold gr;rw[if_neg hj'],getElem?_set_ne (λz=>hj' z.symm),getElem?_set_ne (λz=>hj' z.symm),λ_ _=>rfl⟩
theorem SR.set(s:SR A0 h0 af env h O){i:Nat}(q:Dn (Al A0 O) h d v):SR A0 h0 (af.set i (some (.sh,d))) (env.set i (some v)) h (gr O i)/\Fm [i] af env h O (af.set i (some (.sh,d))) (env.set i (some v)) h (gr O i):=s.setM rfl q λz=>nomatch z
theorem SR.binds:∀{is:List Nat} {ds vs:List Val} {af:bJ} {env:Env} {O:Nat->Option Nat} {aI:bJ},SR A0 h0 af env h O->cJ is ds af=some aI->aq (Al A0 O) h ds vs ->
  ∃env' O',bindAll is vs env=some env'/\SR A0 h0 aI env' h O'/\Fm is af env h O aI env' h O'
 | [],[],vs,af,env,O,aI,s,e,q=>by
  rw[aq] at q;subst q;simp only[cJ] at e;cases e;exact⟨env,O,rfl,s,Fm.refl s (prefix_refl _)⟩
 | i::is,d::ds,vs,af,env,O,aI,s,e,q=>by
  rw[aq] at q;obtain⟨v,r,rfl,q1,q2⟩:=q;simp only[cJ] at e;obtain⟨s1,f1⟩:=s.set (i:=i) q1;obtain⟨env',O',b1,b2,b3⟩:=SR.binds s1 e (q2.iz jB);refine⟨env',O',by simp only[bindAll];exact b1,b2,(f1.iz λj hj=>?_).trans (b3.iz λj hj=>mem_cons_of_mem _ hj)⟩;rw[mem_singleton.mp hj];exact mem_cons_self
 | [],_::_,_,_,_,_,_,_,e,_=>by simp[cJ] at e
 | _::_,[],_,_,_,_,_,_,e,_=>by simp[cJ] at e
theorem SR.bind(s:SR A0 h0 af env h O)(e:fG p d af=some aI)(q:Dn (Al A0 O) h d v):∃env' O',gq p v env=some env'/\SR A0 h0 aI env' h O'/\Fm (stored p) af env h O aI env' h O':=by
 cases p with
 | one i =>simp only[fG] at e;cases e;obtain⟨s1,f1⟩:=s.set (i:=i) q;exact⟨_,_,rfl,s1,f1⟩
 | tup is =>
  cases d<;>simp only[fG] at e<;>first|(cases e;done)|skip
  rw[Dn] at q;obtain⟨vs,rfl,q⟩:=q;exact s.binds e q
theorem Hh{a:Nat}(p:h0<+:h)(ha:h0.length<=a):h0<+:h.set a o:=by
 obtain⟨t,rfl⟩:=p;rw[List.set_append_right _ _ ha];exact prefix_append _ _
theorem SR.put(s:SR A0 h0 af env h O){i a:Nat}{d d1:Val}(e:af[i]?=some (some (.ow,d)))(ha:O i=some a)(q:OB (Al A0 O) h d1 ob) :
  SR A0 h0 (af.set i (some (.ow,d1))) env (h.set a ob) O/\Fm [i] af env h O (af.set i (some (.ow,d1))) env (h.set a ob) O:=by
 obtain⟨o1,o2,_⟩:=s.own i a ha;have hi:i<af.length:=(List.getElem?_eq_some_iff.mp e).1;have mv:∀{A0:AP} (k:Nat) (o:Ob),Al A0 O k->h[k]?=some o->Al A0 O k/\(h.set a ob)[k]?=some o:=λk o hk g=>⟨hk,by rw[getElem?_set_ne λz=>hk.2 i rfl (by rw[<-z];exact ha)];exact g⟩;obtain⟨a0,e2,e3,_⟩:=s.ow i d e;refine⟨⟨by simp[s.len],λj m' d' ej hm'=>?_,λj d' ej=>?_,λj b ej=>?_,s.inj,Hh s.pre o1,s.up⟩,by simp,λk hk n=>⟨?_,n⟩,λj hj=>?_⟩
 ·by_cases hij:i=j
  ·subst hij;rw[getElem?_set_self hi] at ej;cases ej;cases hm'
  ·rw[getElem?_set_ne hij] at ej;obtain⟨w,k1,k2,k3⟩:=s.sh j m' d' ej hm';exact⟨w,k1,Dn.move pC mv _ _ k2,λz=>Dn.move pC mv _ _ (k3 z)⟩
 ·by_cases hij:i=j
  ·subst hij;rw[getElem?_set_self hi] at ej;cases ej;rw[ha] at e3;cases e3;exact⟨a,e2,ha,q.od (by rw[getElem?_set_self o2]) λ_ _ z=>aq.move pC mv _ _ z⟩
  ·rw[getElem?_set_ne hij] at ej;obtain⟨a1,k2,k3,k4⟩:=s.ow j d' ej;have:a≠a1:=λz=>hij (s.inj i j a ha (by rw[z];exact k3));exact⟨a1,k2,k3,k4.mono (λ_ g=>by rw[getElem?_set_ne this];exact g) λ_ _ z=>aq.move pC mv _ _ z⟩
 ·obtain⟨k1,k2,d',k3⟩:=s.own j b ej
  refine⟨k1,by simp[k2],?_⟩
  by_cases hij:i=j
  ·subst hij;exact⟨_,by rw[getElem?_set_self hi]⟩
  ·exact⟨d',by rw[getElem?_set_ne hij];exact k3⟩
 ·rw[getElem?_set_ne λz=>n i (by rw[<-z];exact ha)]
 ·have hj':j≠i:=by simpa using hj
  exact⟨rfl,getElem?_set_ne (λz=>hj' z.symm),rfl,λb eb=>by rw[getElem?_set_ne λz=>hj' (s.inj j i b eb (by rw[<-z];exact ha))]⟩
noncomputable def rH(O:Nat->Option Nat)(i a:Nat):Nat->Option Nat:=λj=>if j=i then some a else O j
theorem SR.fresh(s:SR A0 h0 af env h O){i:Nat}{d1:Val}{h2:Hs}(p:h<+:h2)(q:OB (Al A0 O) h2 d1 ob) :
  SR A0 h0 (af.set i (some (.ow,d1))) (env.set i (some (.ref h2.length))) (h2++[ob]) (if i<af.length then rH O i h2.length else gr O i) /\
   Fm [i] af env h O (af.set i (some (.ow,d1))) (env.set i (some (.ref h2.length))) (h2++[ob]) (if i<af.length then rH O i h2.length else gr O i):=by
 have pp:h<+:h2++[ob]:=p.trans (prefix_append _ _);have s2:=s.ext p;have mv:∀{A0:AP} (j:Nat),∀(k:Nat) (o:Ob),Al A0 O k->h2[k]?=some o->Al A0 (if i<af.length then rH O i h2.length else gr O i) k/\(h2++[ob])[k]?=some o:=λ{A0} j k o hk g=>by
  have hlt:k<h2.length:=(List.getElem?_eq_some_iff.mp g).1;refine⟨?_,by rw[getElem?_append_left hlt];exact g⟩
  split
  ·refine⟨hk.1,λl _=>?_⟩
   unfold rH
   split
   ·intro z;cases z;omega
   ·exact hk.2 l rfl
  ·exact jB k hk
 by_cases hi:i<af.length
 ·rw[if_pos hi] at mv |-
  refine⟨⟨by simp[s.len],λj m' d' ej hm'=>?_,λj d' ej=>?_,λj b ej=>?_,λj l b e1 e2=>?_,s.pre.trans pp,s.up⟩,pp.length_le,λk hk n=>⟨iY pp hk,λl=>?_⟩,λj hj=>?_⟩
  ·by_cases hij:i=j
   ·subst hij;rw[getElem?_set_self hi] at ej;cases ej;cases hm'
   ·rw[getElem?_set_ne hij] at ej;rw[getElem?_set_ne hij];obtain⟨w,k1,k2,k3⟩:=s2.sh j m' d' ej hm';exact⟨w,k1,Dn.move j6 (mv 0) _ _ k2,λz=>Dn.move j6 (mv 0) _ _ (k3 z)⟩
  ·by_cases hij:i=j
   ·subst hij;rw[getElem?_set_self hi] at ej;cases ej;exact⟨h2.length,by rw[getElem?_set_self (by rw[<-s.len];exact hi)],by unfold rH;rw[if_pos rfl],q.od (by simp) λ_ _ z=>aq.move j6 (mv 0) _ _ z⟩
   ·rw[getElem?_set_ne hij] at ej;rw[getElem?_set_ne hij];obtain⟨a1,k2,k3,k4⟩:=s2.ow j d' ej;have hlt:a1<h2.length:=k4.lt;exact⟨a1,k2,by unfold rH;rw[if_neg λz=>hij z.symm];exact k3,k4.mono (λ_ g=>by rw[getElem?_append_left hlt];exact g) λ_ _ z=>aq.move j6 (mv 0) _ _ z⟩
  ·unfold rH at ej
   split at ej
   ·rename_i hj;cases ej;subst hj;exact⟨le_trans s.pre.length_le p.length_le,by simp,_,by rw[getElem?_set_self hi]⟩
   ·rename_i hj;obtain⟨k1,k2,d',k3⟩:=s2.own j b ej;exact⟨k1,by simp;omega,d',by rw[getElem?_set_ne λz=>hj z.symm];exact k3⟩
  ·unfold rH at e1 e2
   split at e1
   ·rename_i h1;cases e1
    split at e2
    ·rename_i h3;rw[h1,h3]
    ·have:=(s2.own l _ e2).2.1;omega
   ·split at e2
    ·cases e2;have:=(s2.own j _ e1).2.1;omega
    ·exact s.inj j l b e1 e2
  ·unfold rH;split
   ·intro z;cases z;have:=p.length_le;omega
   ·exact n l
  ·have hj':j≠i:=by simpa using hj
   exact⟨by unfold rH;rw[if_neg hj'],getElem?_set_ne (λz=>hj' z.symm),getElem?_set_ne (λz=>hj' z.symm),λb eb=>iY pp (s.own j b eb).2.1⟩
 ·rw[if_neg hi] at mv |-
  have e1:af.set i (some (.ow,d1))=af:=List.set_eq_of_length_le (by omega);have e2:env.set i (some (.ref h2.length))=env:=List.set_eq_of_length_le (by rw[<-s.len];omega);have e3:gr O i=O:=by
   funext j;unfold gr;split
   ·rename_i hj;subst hj
    cases e:O j with
    | none=>rfl
    | some a=>obtain⟨_,_,d,k⟩:=s.own j a e;exact absurd (List.getElem?_eq_some_iff.mp k).1 hi
   ·rfl
  rw[e1,e2,e3];exact⟨s.ext pp,Fm.refl s pp⟩
end
end Hv
end
section
namespace Hv
open PySem L2
section
variable {Φ:Nat->List Val->M Val} {Ψ:Nat->List Val->Pr FV} {A:AP} {h h1:Hs}
noncomputable def isRef:Val->Bool
 | .rl _=>true
 | .dc _ _=>true
 | _=>false
noncomputable def RN(A:AP)(h:Hs):FV->Hs->Val->Prop:=λx h' v=>isRef x.2=true->∃h2 o,h'=h2++[o]/\v=.ref h2.length/\h<+:h2/\OB A h2 x.2 o
noncomputable def Jb(Φ:Nat->List Val->M Val)(Ψ:Nat->List Val->Pr FV)(ir:IE):Prop:=∀(af:bJ) (env:Env) (A:AP) (h:Hs),Up A h->ER A af env h->Rel A h (RN A h) (aH Φ ir env h) (bz Ψ ir af)
theorem j7{f:Bool}{h0:Hs}(p:h0<+:h)(q:aq A h xs vs):Rel A h (RN A h0) (new (.lst vs) h) (.ok (f,.rl xs)) :=
 ⟨_,_,rfl,dR _,λ_=>⟨h,.lst vs,rfl,rfl,p,vs,rfl,q⟩⟩
theorem Mh:Jb Φ Ψ .dct0:=λaf env A h u e=>by
 rw[aH,bz];exact⟨_,_,rfl,dR _,λ_=>⟨h,.dct [],rfl,rfl,prefix_refl _,[],rfl,rfl,aq.nil⟩⟩
theorem Mi(hk:cA Φ Ψ k)(hv:cA Φ Ψ v):Jb Φ Ψ (.dct1 k v):=λaf env A h u e=>by
 rw[aH,bz];refine ah (hk af env A h u e) λx h1 w p1 q1=>ah (R:=λkk _ kk'=>kk'=kk) (bq λkk ek=>⟨kk,yu q1.1 ek,rfl⟩) λkk h2 kk' p2 hkk=>?_;subst hkk;refine ah (hv af env A h2 ((u.ext p1).ext p2) ((e.ext p1).ext p2)) λy h3 z p3 q3=>?_;exact⟨_,_,rfl,dR _,λ_=>⟨h3,.dct [(kk',z)],rfl,rfl,(p1.trans p2).trans p3,[(kk',z)],rfl,rfl,aq.cons q3.1 aq.nil⟩⟩
theorem Pb(hs:kU Φ Ψ es):Jb Φ Ψ (.lst es):=λaf env A h u e=>by
 rw[aH,bz];exact ah (hs.1 af env A h u e) λx h1 vs p1 q1=>bI (λz=>by rw[<-q1.1.length];exact z) λ_=>j7 p1 q1.1
theorem Pc(ha:cA Φ Ψ a)(hl:cA Φ Ψ lo)(hh:cA Φ Ψ hi):Jb Φ Ψ (.slc a lo hi):=λaf env A h u e=>by
 rw[aH,bz];refine ah (lM ha u e) λx h1 v p1 q1=>ah (j5 hl (u.ext p1) (e.ext p1)) λl h2 l' p2 el=>ah (j5 hh ((u.ext p1).ext p2) ((e.ext p1).ext p2)) λr h3 r' p3 er=>?_;subst el;subst er;have q1:=DB.ext (p2.trans p3) q1;obtain⟨f,d⟩:=x;cases d with
 | tup ds =>obtain⟨vs,rfl,q⟩:=DB.tup q1;have l:=q.length;simp only[Bb,rG];exact bI (λz=>by rw[l] at z;exact z) λ_=>av λe=>by cases e
 | rl ds =>
  obtain⟨vs,e1,q⟩:=DB.lst q1;have ev:rG v l' r' h3=new (.lst (fZ vs l' r')) h3:=by
   have:rG v l' r'=bnd (ask λh=>aB h v) λxs=>new (.lst (fZ xs l' r')):=by cases v<;>simp only[aB] at e1<;>first|(cases e1;done)|rfl
   rw[this];unfold bnd ask bh;dsimp only;rw[e1]
  rw[ev];exact j7 ((p1.trans p2).trans p3) (q.cut l' r')
 | _=>trivial
theorem Mj(hs:kU Φ Ψ es):Jb Φ Ψ (.blt .list es):=λaf env A h u e=>by
 rw[aH,bz];refine ah (hs.2 af env A h u e) λds h1 vs p1 q1=>?_
 match ds,q1 with
 | [],q1=>trivial
 | [d],q1 =>obtain⟨v,rfl,hv⟩:=q1.one;exact ah (R:=λxs h' ws=>aq A h' xs ws) (bL λxs e=>hv.seq e) λxs h2 ws p2 q=>j7 (p1.trans p2) q
 | _::_::_,_=>trivial
theorem Dh(hs:kU Φ Ψ es):Jb Φ Ψ (.blt .sorted es):=λaf env A h u e=>by
 rw[aH,bz];refine ah (hs.2 af env A h u e) λds h1 vs p1 q1=>?_
 match ds,q1 with
 | [],q1=>trivial
 | [d],q1 =>
  obtain⟨v,rfl,hv⟩:=q1.one;cases d<;>first|trivial|skip
  rename_i xs;obtain⟨ws,e1,q⟩:=hv.lst;have ev:bnd (ask λh=>aB h v) (λxs=>bnd (bh (fE xs)) λys=>new (.lst ys)) h1=bnd (bh (fE ws)) (λys=>new (.lst ys)) h1:=by unfold bnd ask bh;dsimp only;rw[e1]
  show Rel A h1 (RN A h) (bnd (ask λh=>aB h v) (λxs=>bnd (bh (fE xs)) λys=>new (.lst ys)) h1) _;rw[ev];refine ah (R:=λys _ zs=>zs=ys/\bD ys=true) (bq λys e=>?_) λys h2 zs p2 hz=>?_
  ·obtain⟨i1,i2⟩:=sO e;rw[(aX xs ws i1).mp q];exact⟨ys,e,rfl,i2⟩
  ·obtain⟨rfl,hi⟩:=hz;exact j7 (p1.trans p2) ((aX _ _ hi).mpr rfl)
 | x::_::_,_=>cases x<;>trivial
theorem Ml(hs:kU Φ Ψ it)(hc:cA Φ Ψ c)(he:cA Φ Ψ elt):Jb Φ Ψ (.comp N js pat k it c elt):=λaf env A h u e=>by
 rw[aH,bz];refine ah (hs.2 af env A h u e) λds h1 vs p1 q1=>ah (zA q1) λxs h2 src p2 q2=>?_;obtain⟨ws,q3,q4⟩:=q2;have l:=q3.length;have ev:∀(F:List Val->M Val),bnd (ask λh=>src.items h) F h2=F ws h2:=λF=>by unfold bnd ask bh;dsimp only;rw[q4 h2 (prefix_refl _)]
 rw[ev];refine bI (λz=>by rw[<-l];exact z) λ_=>?_;have u2:=(u.ext p1).ext p2;have e2:=(e.ext p1).ext p2;refine ah (qC (hb:=h) xs ws 0 [] h2 (p1.trans p2) u2 q4 rfl q3 λx v h' p' qx=>?_) λp h3 ys p3 hp=>?_
 ·refine ah (R:=λaI _ env'=>∃_:ER A aI env' h',True) (bq λaI ev'=>?_) λaI h4 env' p4 he'=>?_
  ·obtain⟨env',a1,a2⟩:=wg ev' qx (zC (e2.ext p')) (by simp[gc,jU]);exact⟨env',a1,a2,trivial⟩
  ·obtain⟨er,_⟩:=he'
   have er:=er.ext p4;have u4:=(u2.ext p').ext p4;have OE:Rel A h4 (λt _ t'=>t'=t) ((if cS c=true then ret true else bnd (aH Φ c env') λv=>ask λh=>dQ h v) h4) (if cS c=true then .ok true else pb (bz Ψ c aI) λv=>pl (dQ [] v.2)):=by
    by_cases hn:cS c=true
    ·rw[if_pos hn,if_pos hn];exact av rfl
    ·rw[if_neg hn,if_neg hn];exact ah (hc aI env' A h4 u4 er) λy h5 w p5 q5=>bL λt et=>⟨t,yt q5.br et,rfl⟩
   refine ah OE λt h5 t' p5 et=>?_;subst et;cases t' with
   | true =>rw[if_pos rfl,if_pos rfl];exact ah (he aI env' A h5 (u4.ext p5) (er.ext p5)) λy h6 w p6 q6=>av (q6.up ((p1.trans p2).trans (p'.trans (p4.trans p5))))
   | false =>rw[if_neg Bool.false_ne_true,if_neg Bool.false_ne_true];exact av trivial
 ·obtain⟨zs,rfl,z1,z2⟩:=hp;exact j7 ((p1.trans p2).trans p3) z1
theorem Pd(hΦ:∀j,Imp (Φ j) (Ψ j))(hf:Rh e=true)(ho:eF e=true):Jb Φ Ψ e:=by
 have V:=v_all hΦ;cases e<;>first|(cases hf;done)|skip
 ·exact Pb (V.2 _ ho)
 ·have ho:=uz ho;exact Pc (V.1 _ ho.1.1) (V.1 _ ho.1.2) (V.1 _ ho.2)
 ·rename_i b es
  change mF _=true at ho;cases b<;>first|(cases hf;done)|skip
  ·exact Dh (V.2 _ ho)
  ·exact Mj (V.2 _ ho)
 ·have ho:=uz ho;exact Ml (V.2 _ ho.1.1) (V.1 _ ho.1.2) (V.1 _ ho.2)
 ·exact Mh
 ·have ho:=gC ho;exact Mi (V.1 _ ho.1) (V.1 _ ho.2)
mutual
noncomputable def WN:IS->Bool
 | .expr e=>eF e
 | .asg _ e=>eF e
 | .aug _ _ e=>eF e
 | .gO o i v=>eF o&&eF i&&eF v
 | .iff c a b=>eF c&&wj a&&wj b
 | .for _ _ it b=>mF it&&wj b
 | .whl _ c b=>eF c&&wj b
 | .ret e=>eF e
 | _=>true
noncomputable def wj:fM->Bool
 | .nil=>true
 | .cons s r=>WN s&&wj r
end
noncomputable def mS(s:IS):List Nat:=qA s++nO s
noncomputable def Hi(s:fM):List Nat:=fH s++jZ s
variable {ms:List Nat}
noncomputable def zE(Φ:Nat->List Val->M Val)(Ψ:Nat->List Val->Pr FV)(ms:List Nat)(s:IS):Prop:=∀(A0:AP) (h0:Hs) (af:bJ) (env:Env) (h:Hs) (O:Nat->Option Nat),SR A0 h0 af env h O->iL A0 h0 (RF A0 h0 (mS s) af env h O) (gG Φ s env h) (aQ Ψ ms s af)
noncomputable def uA(Φ:Nat->List Val->M Val)(Ψ:Nat->List Val->Pr FV)(ms:List Nat)(s:fM):Prop:=∀(A0:AP) (h0:Hs) (af:bJ) (env:Env) (h:Hs) (O:Nat->Option Nat),SR A0 h0 af env h O->iL A0 h0 (RF A0 h0 (Hi s) af env h O) (fN Φ s env h) (aN Ψ ms s af)
theorem Di(he:cA Φ Ψ e)(hx:∀af,aQ Ψ ms (.expr e) af=pb (bz Ψ e af) λ_=>.ok (.nx af)):zE Φ Ψ ms (.expr e):=λA0 h0 af env h O s=>by
 rw[gG,hx];exact bT s (he af env _ h s.Bc s.er) λx h1 v p1 q1=>bE ⟨O,s.ext p1,Fm.refl s p1⟩
theorem bC{α β γ:Type}(m:M α)(f:α -> M β)(g:β -> M γ):bnd (bnd m f) g=bnd m λx=>bnd (f x) g:=by
 funext h;show (match (match m h with|.ok a h'=>f a h'|.exc c vs h'=>.exc c vs h'|.no=>.no) with|.ok a h'=>g a h'|.exc c vs h'=>.exc c vs h'|.no=>.no)=(match m h with|.ok a h'=>bnd (f a) g h'|.exc c vs h'=>.exc c vs h'|.no=>.no);cases m h<;>rfl
theorem au{α β:Type}{m:M α}{f:α -> M β}{a:α}{h h1:Hs}(e:m h=.ok a h1):bnd m f h=f a h1:=by unfold bnd;rw[e]
theorem bX{i:Nat}(e:env[i]?=some (some v)):aH Φ (.var i) env h=.ok v h:=by rw[aH,e];rfl
theorem Be{i:Nat}(ha:cA Φ Ψ a):zE Φ Ψ ms (.expr (.met .append (.var i) (.cons a .nil))):=λA0 h0 af env h O s=>by
 rw[gG,aQ];try dsimp only
 split
 ·rename_i ds hv
  obtain⟨b,e2,e3,vs,e4,e5⟩:=s.ow i _ hv;have ev:bnd (aH Φ (.met .append (.var i) (.cons a .nil)) env) (λ_=>ret (Fl.nx env)) h=bnd (aH Φ a env) (λv=>bnd (met .append (.ref b) [v]) λ_=>ret (Fl.nx env)) h:=by
   rw[aH,bC,au (bX e2)];rw[bC,au (a:=()) (h1:=h) (by unfold ask bh;simp[recv,e4])];rw[bC,aZ,bC]
   congr 1
  rw[ev];refine bT s (ha af env _ h s.Bc s.er) λx h1 v p1 q1=>kL λhg=>?_;have s1:=s.ext p1;obtain⟨s2,f2⟩:=s1.put (d1:=.rl (ds++[x.2])) (ob:=.lst (vs++[v])) hv e3 ⟨_,rfl,(e5.ext p1).append (aq.cons q1.1 aq.nil)⟩;have l:=e5.length;refine⟨.nx env,h1.set b (.lst (vs++[v])),?_,O,s2,(Fm.refl s p1).trans (f2.iz λj hj=>?_)⟩
  ·have g:=cI p1 e4;unfold met bnd ask bh aF put ret;dsimp only;rw[g];dsimp only;rw[if_pos (by rw[<-l];exact hg)]
  ·rw[mem_singleton.mp hj];exact mem_append_left _ mem_cons_self
 ·trivial
theorem Bf{i:Nat}(ha:cA Φ Ψ a):zE Φ Ψ ms (.expr (.met .extend (.var i) (.cons a .nil))):=λA0 h0 af env h O s=>by
 rw[gG,aQ];try dsimp only
 split
 ·rename_i ds hv
  obtain⟨b,e2,e3,vs,e4,e5⟩:=s.ow i _ hv;have ev:bnd (aH Φ (.met .extend (.var i) (.cons a .nil)) env) (λ_=>ret (Fl.nx env)) h=bnd (aH Φ a env) (λv=>bnd (met .extend (.ref b) [v]) λ_=>ret (Fl.nx env)) h:=by
   rw[aH,bC,au (bX e2)];rw[bC,au (a:=()) (h1:=h) (by unfold ask bh;simp[recv,e4])];rw[bC,aZ,bC]
   congr 1
  rw[ev];refine bT s (ha af env _ h s.Bc s.er) λx h1 v p1 q1=>?_;obtain⟨f,d⟩:=x;cases d<;>first|trivial|skip
  rename_i ts;have q:=q1.1;dsimp only at q;rw[Dn] at q;obtain⟨ws,rfl,q⟩:=q;refine kL λhg=>?_;have s1:=s.ext p1;obtain⟨s2,f2⟩:=s1.put (d1:=.rl (ds++ts)) (ob:=.lst (vs++ws)) hv e3 ⟨_,rfl,(e5.ext p1).append q⟩;have l:=e5.length;have l2:=q.length;refine⟨.nx env,h1.set b (.lst (vs++ws)),?_,O,s2,(Fm.refl s p1).trans (f2.iz λj hj=>?_)⟩
  ·have g:=cI p1 e4;unfold met bnd ask bh aF put ret vF;dsimp only;rw[g];dsimp only;rw[if_pos (by rw[<-l,<-l2];exact hg)]
  ·rw[mem_singleton.mp hj];exact mem_append_left _ mem_cons_self
 ·trivial
theorem Hj(hΦ:∀j,Imp (Φ j) (Ψ j))(ho:eF e=true):zE Φ Ψ ms (.expr e):=by
 have V:=v_all hΦ;have gen:(∀af,aQ Ψ ms (.expr e) af=pb (bz Ψ e af) λ_=>.ok (.nx af))->zE Φ Ψ ms (.expr e):=λhx=>Di (V.1 e ho) hx;cases e with
 | met m a es =>
  cases m with
  | join=>exact gen λaf=>by rw[aQ]<;>(intros;simp_all)
  | append =>
   cases a with
   | var i =>
    cases es with
    | nil=>exact gen λaf=>by rw[aQ]<;>(intros;simp_all)
    | cons x r =>
     cases r with
     | nil=>exact Be (V.1 x (gC (gC ho).2).1)
     | cons _ _=>exact gen λaf=>by rw[aQ]<;>(intros;simp_all)
   | _=>exact gen λaf=>by rw[aQ]<;>(intros;simp_all)
  | extend =>
   cases a with
   | var i =>
    cases es with
    | nil=>exact gen λaf=>by rw[aQ]<;>(intros;simp_all)
    | cons x r =>
     cases r with
     | nil=>exact Bf (V.1 x (gC (gC ho).2).1)
     | cons _ _=>exact gen λaf=>by rw[aQ]<;>(intros;simp_all)
   | _=>exact gen λaf=>by rw[aQ]<;>(intros;simp_all)
 | _=>exact gen λaf=>by rw[aQ]<;>(intros;simp_all)
end
end Hv
end
section
namespace Hv
open PySem L2
section
variable {Φ:Nat->List Val->M Val} {Ψ:Nat->List Val->Pr FV} {ms:List Nat}
theorem Dj{i:Nat}{l:List Nat}(h:i∈l):∀j∈[i],j∈l:=λj hj=>by rw[mem_singleton.mp hj];exact h
theorem Mm(hΦ:∀j,Imp (Φ j) (Ψ j))(ho:eF e=true):zE Φ Ψ ms (.asg p e):=λA0 h0 af env h O s=>by
 have V:=(v_all hΦ).1 e ho;cases p with
 | one i =>
  rw[gG,aQ];try dsimp only
  split
  ·refine kL λhf=>?_
   refine bT s (Pd hΦ hf ho af env _ h s.Bc s.er) λx h1 v p1 q1=>?_;obtain⟨f,d⟩:=x;cases d<;>first|trivial|skip
   ·obtain⟨h2,vs,rfl,rfl,p2,q2⟩:=q1 rfl;obtain⟨s2,f2⟩:=s.fresh (i:=i) p2 q2;exact⟨_,_,rfl,_,s2,f2.iz (Dj (by simp[mS,nO,stored]))⟩
   ·obtain⟨h2,vs,rfl,rfl,p2,q2⟩:=q1 rfl;obtain⟨s2,f2⟩:=s.fresh (i:=i) p2 q2;exact⟨_,_,rfl,_,s2,f2.iz (Dj (by simp[mS,nO,stored]))⟩
  ·refine bT s (V af env _ h s.Bc s.er) λx h1 v p1 q1=>?_
   have hnw:M8 (fO x.1 x.2)=true->Dn (Al (Fr h0.length) O) h1 x.2 v:=λz=>by
    have hx:x.1=true:=by
     unfold fO at z;split at z
     ·rename_i hh;simp only[and_eq_true] at hh;exact hh.1
     ·cases z
    refine(q1.2 hx).iz λo ho=>?_;cases o with
    | none=>exact ho.elim
    | some k=>exact⟨le_trans s.pre.length_le ho,λj _ e=>by have:=(s.own j k e).2.1;have ho':h.length<=k:=ho;omega⟩
   have hrd:lu (fO x.1 x.2)=true:=by unfold fO;split<;>rfl
   obtain⟨s2,f2⟩:=(s.ext p1).setM (i:=i) hrd q1.1 hnw;exact⟨_,_,rfl,_,s2,(Fm.refl s p1).trans (f2.iz (Dj (by simp[mS,nO,stored])))⟩
 | tup is =>
  rw[gG,aQ];try dsimp only
  refine kL λhf=>bT s (V af env _ h s.Bc s.er) λx h1 v p1 q1=>?_;have s1:=s.ext p1;refine bT s1 (R:=λaI h' env'=>∃O',SR A0 h0 aI env' h' O'/\Fm (stored (.tup is)) af env h1 O aI env' h' O') (bq λaI ev=>?_) λaI h2 env' p2 hh=>?_
  ·obtain⟨env',O',b1,b2,b3⟩:=s1.bind ev q1.1;exact⟨env',b1,O',b2,b3⟩
  ·obtain⟨O',b2,b3⟩:=hh;exact bE ⟨O',b2,(Fm.refl s p1).trans (b3.iz λj hj=>by simp only[mS,nO];exact mem_append_right _ hj)⟩
theorem Mn{i:Nat}(hΦ:∀j,Imp (Φ j) (Ψ j))(ho:eF e=true):zE Φ Ψ ms (.aug i o e):=λA0 h0 af env h O s=>by rw[aQ];trivial
theorem zF(k:Key)(l:List (Key×Val)):(l.any λkv=>decide (kv.1=k))=((l.map (·.1)).any λx=>decide (x=k)):=by
 rw[any_map];rfl
theorem zG(e:Dn A h d v):∀{kvs:List (Key×Val)} {ds:List Val},aq A h ds (kvs.map (·.2)) ->
  aq A h ((((kvs.map (·.1)).zip ds).map λkv=>if kv.1=k then (kv.1,d) else kv).map (·.2)) ((kvs.map λkv=>if kv.1=k then (kv.1,v) else kv).map (·.2))
 | [],ds,q=>by simp only[map_nil,List.zip_nil_left];exact aq.nil
 | (k',v')::kvs,ds,q=>by
  have l:=q.length;cases ds with
  | nil=>simp at l
  | cons d' ds =>
   simp only[map_cons] at q;rw[aq] at q;obtain⟨v1,r,e1,q1,q2⟩:=q;cases e1;simp only[map_cons,zip_cons_cons];refine aq.cons ?_ (zG e q2)
   by_cases hk:k'=k
   ·rw[if_pos hk,if_pos hk];exact e
   ·rw[if_neg hk,if_neg hk];exact q1
theorem oF(k:Key)(d:Val)(l:List (Key×Val)):(l.map λkv=>if kv.1=k then (kv.1,d) else kv).map (·.1)=l.map (·.1):=by
 rw[map_map];refine map_congr_left λx _=>?_;show (if x.1=k then (x.1,d) else x).1=x.1
 split<;>rfl
theorem Hl(hk:kvs.map (·.1)=ks)(q:aq A h ds (kvs.map (·.2)))(e:Dn A h d v) :
  (gP kvs k v).map (·.1)=(gP (ks.zip ds) k d).map (·.1)/\aq A h ((gP (ks.zip ds) k d).map (·.2)) ((gP kvs k v).map (·.2)):=by
 subst hk;have l:=q.length;rw[length_map] at l;have z1:((kvs.map (·.1)).zip ds).map (·.1)=kvs.map (·.1):=List.map_fst_zip (by rw[length_map];omega);have z2:((kvs.map (·.1)).zip ds).map (·.2)=ds:=List.map_snd_zip (by rw[length_map];omega);unfold gP;rw[zF,zF,z1]
 split
 ·rw[oF,oF,z1];exact⟨rfl,zG e q⟩
 ·rw[map_append,map_append,map_append,map_append,z1,z2];exact⟨rfl,q.append (aq.cons e aq.nil)⟩
theorem Ho(hΦ:∀j,Imp (Φ j) (Ψ j))(ho:eF o=true)(hi:eF i=true)(hv:eF v=true):zE Φ Ψ ms (.gO o i v):=λA0 h0 af env h O s=>by
 have V:=(v_all hΦ).1;cases o with
 | var j =>
  rw[gG,aQ];refine bT s (V v hv af env _ h s.Bc s.er) λx h1 w p1 q1=>?_;have s1:=s.ext p1
  split
  ·rename_i ds hj
   obtain⟨b,e2,e3,vs,e4,e5⟩:=s1.ow j _ hj;rw[au (bX e2)];refine bT s1 (V i hi af env _ h1 s1.Bc s1.er) λz h2 u p2 q2=>?_;have s2:=s1.ext p2;obtain⟨f,d⟩:=z;have q:=q2.1;cases d<;>first|trivial|skip
   dsimp only at q;rw[Dn] at q;subst q;rename_i kk;have g:=cI p2 e4;have l:=e5.length;show iL A0 h0 _ _ (pb (pl (As ds.length kk)) _);cases hn:As ds.length kk with
   | none=>trivial
   | some n =>obtain⟨s3,f3⟩:=s2.put (d1:=.rl (ds.set n x.2)) (ob:=.lst (vs.set n w)) hj e3 ⟨_,rfl,(e5.ext p2).set n (q1.1.ext p2)⟩;refine⟨.nx env,h2.set b (.lst (vs.set n w)),?_,O,s3,(Fm.refl s (p1.trans p2)).trans (f3.iz (Dj (by simp[mS,qA])))⟩;rw[l] at hn;simp only[sI];unfold bnd ask bh put ret;dsimp only;rw[g];dsimp only;rw[hn]
  ·rename_i ks ds hj
   obtain⟨b,e2,e3,kvs,e4,ek,e5⟩:=s1.ow j _ hj;rw[au (bX e2)];refine bT s1 (V i hi af env _ h1 s1.Bc s1.er) λz h2 u p2 q2=>?_;have s2:=s1.ext p2;obtain⟨f,d⟩:=z;have q:=q2.1;dsimp only at q;show iL A0 h0 _ _ (pb (pl (keyOf d)) _);cases hk:keyOf d with
   | none=>trivial
   | some kk =>
    have hu:keyOf u=some kk:=by
     cases d<;>simp only[keyOf] at hk<;>first|(cases hk;done)|skip
     all_goals (rw[Dn] at q;subst q;exact hk)
    show iL A0 h0 _ _ (pg _ _);refine kL λhl=>?_;have g:=cI p2 e4;obtain⟨k1,k2⟩:=Hl (k:=kk) ek (e5.ext p2) (q1.1.ext p2);obtain⟨s3,f3⟩:=s2.put (d1:=putD ks ds kk x.2) (ob:=.dct (gP kvs kk w)) hj e3 ⟨_,rfl,k1,k2⟩;refine⟨.nx env,h2.set b (.dct (gP kvs kk w)),?_,O,s3,(Fm.refl s (p1.trans p2)).trans (f3.iz (Dj (by simp[mS,qA])))⟩;have hl':decide (kvs.length<sizeLine)=true:=by rw[<-ek,length_map] at hl;exact hl
    simp only[sI];unfold bnd ask bh put ret aF;dsimp only;rw[g];dsimp only;rw[hu];dsimp only;rw[if_pos hl']
  ·trivial
 | _=>rw[aQ]<;>first|trivial|(intros;simp_all)
theorem Mp(hΦ:∀j,Imp (Φ j) (Ψ j))(hc:eF c=true)(ha:uA Φ Ψ ms a)(hb:uA Φ Ψ ms b):zE Φ Ψ ms (.iff c a b):=λA0 h0 af env h O s=>by
 have V:=(v_all hΦ).1 c hc;rw[gG,aQ];refine bT s (lM V s.Bc s.er) λx h1 v p1 q1=>?_;have s1:=s.ext p1;refine bT s1 (R:=λt _ t'=>t'=t) (bL λt et=>⟨t,yt q1 et,rfl⟩) λt h2 t' p2 et=>?_;subst et;have s2:=s1.ext p2;cases t' with
 | true =>
  rw[if_pos rfl,if_pos rfl];refine iZ (ha A0 h0 af env h2 O s2) λf h' g r=>(r.pre s (p1.trans p2)).iz λi hi=>?_;simp only[Hi,mS,qA,nO,mem_append] at hi |-
  rcases hi with z|z
  ·exact .inl (.inl z)
  ·exact .inr (.inl z)
 | false =>
  rw[if_neg Bool.false_ne_true,if_neg Bool.false_ne_true];refine iZ (hb A0 h0 af env h2 O s2) λf h' g r=>(r.pre s (p1.trans p2)).iz λi hi=>?_;simp only[Hi,mS,qA,nO,mem_append] at hi |-
  rcases hi with z|z
  ·exact .inl (.inr z)
  ·exact .inr (.inr z)
noncomputable def yv(h:Hs)(O:Nat->Option Nat)(m:List Nat)(src:Src)(ws:List Val):Prop :=
 ∀h':Hs,(∀k,k<h.length->(∀i,O i≠some k)->h'[k]?=h[k]?)->(∀i,i∉m->∀a,O i=some a->h'[a]?=h[a]?)->src.items h'=some ws
theorem ee{i:Nat}(e:h[i]?=some (.lst ws)):(Src.live i).items h=some ws:=by simp[Src.items,aB,e]
theorem jC{i:Nat}(e:h[i]?=some (.lst ws)):(Src.enum i).items h=some (cV 0 ws):=by simp[Src.items,aB,e]
theorem wm{A0:AP}{h0:Hs}{m:List Nat}(hb:∀af env h O x v,SR A0 h0 af env h O->Dn (Al A0 O) h x v->iL A0 h0 (RF A0 h0 m af env h O) (body v env h) (bodyV x af))
  {mG:bJ} {gD:Env} {h1:Hs} {O1:Nat->Option Nat} (st:yv h1 O1 m src ws) :
  ∀(xs vs:List Val) (i:Nat) (af:bJ) (env:Env) (h:Hs) (O:Nat->Option Nat),SR A0 h0 af env h O->Fm m mG gD h1 O1 af env h O->ws.drop i=vs->aq (Al A0 O) h xs vs ->
   iL A0 h0 (RF A0 h0 m mG gD h1 O1) (forM src body vs.length i env h) (nQ bodyV xs af)
 | [],vs,i,af,env,h,O,s,f,hd,q=>by
  rw[aq] at q;subst q;have hl:ws.length<=i:=List.drop_eq_nil_iff.mp hd;have hi:=st h (λk hk n=>(f.keep k hk n).1) (λj hj a e=>(f.stay j hj).2.2.2 a e);rw[nQ];refine⟨.nx env,h,?_,O,s,f⟩;show forM src body 0 i env h=_;simp only[forM];unfold bnd ask bh aF;dsimp only;rw[hi];dsimp only;rw[if_pos (decide_eq_true hl)];rfl
 | x::xs,vs,i,af,env,h,O,s,f,hd,q=>by
  rw[aq] at q;obtain⟨v,r,rfl,q1,q2⟩:=q;have hv:ws[i]?=some v:=by have:=congrArg (λl=>l[0]?) hd;simpa using this
  have hr:ws.drop (i+1)=r:=by
   have:ws.drop (i+1)=(ws.drop i).drop 1:=by rw[List.drop_drop]
   rw[this,hd];rfl
  have hi:=st h (λk hk n=>(f.keep k hk n).1) (λj hj a e=>(f.stay j hj).2.2.2 a e);have ev:forM src body (v::r).length i env h=bnd (body v env) (λf=>match f with
   | .nx env'=>forM src body r.length (i+1) env'
   | .ct env'=>forM src body r.length (i+1) env'
   | .bk env'=>ret (.nx env')
   | .rt v=>ret (.rt v)) h:=by
   show forM src body (r.length+1) i env h=_;simp only[forM];unfold bnd ask bh;dsimp only;rw[hi];dsimp only;rw[hv];try rfl
  rw[ev,nQ];refine qD (hb af env h O x v s q1) λfl h2 gl hr2=>?_;have go:∀aI env' O',SR A0 h0 aI env' h2 O'->Fm m af env h O aI env' h2 O'->iL A0 h0 (RF A0 h0 m mG gD h1 O1) (forM src body r.length (i+1) env' h2) (nQ bodyV xs aI):=λaI env' O' s' f'=>by
   refine wm hb st xs r (i+1) aI env' h2 O' s' (f.trans f') hr (aq.move j6 (λk o hk g=>?_) _ _ q2);have hlt:k<h.length:=(List.getElem?_eq_some_iff.mp g).1;obtain⟨a1,a2⟩:=f'.keep k hlt λi=>hk.2 i rfl;exact⟨⟨hk.1,λi _=>a2 i⟩,a1.trans g⟩
  cases fl<;>cases gl<;>first|exact hr2.elim|skip
  ·obtain⟨O',s',f'⟩:=hr2;exact go _ _ O' s' f'
  ·exact bE hr2
  ·obtain⟨O',s',f'⟩:=hr2;exact bE ⟨O',s',f.trans f'⟩
  ·obtain⟨O',s',f'⟩:=hr2;exact go _ _ O' s' f'
theorem Dk{A0:AP}{m:List Nat}(q:Dn (Al A0 O) h d v)(e:jY k [d]=some xs):∃src ws,srcOf k [v]=some src/\aq (Al A0 O) h xs ws/\src.items h=some ws/\yv h O m src ws:=by
 have lst:∀es,d=.rl es->(∃ws,v=.rl ws/\aq (Al A0 O) h es ws)\/∃a ws,v=.ref a/\h[a]?=some (.lst ws)/\aq (Al A0 O) h es ws/\∀h':Hs,(∀k,k<h.length->(∀i,O i≠some k)->h'[k]?=h[k]?)->h'[a]?=some (Ob.lst ws):=by
  rintro es rfl;rw[Dn] at q
  rcases q with ⟨ws,rfl,_,q⟩|⟨a,ws,rfl,al,g,q⟩
  ·exact .inl ⟨ws,rfl,q⟩
  ·exact .inr ⟨a,ws,rfl,g,q,λh' hk=>(hk a (List.getElem?_eq_some_iff.mp g).1 λi=>al.2 i rfl).trans g⟩
 cases k with
 | seq =>
  cases d<;>first|(cases e;done)|skip
  ·cases e;rw[Dn] at q;obtain⟨ws,rfl,q⟩:=q;exact⟨.fix ws,ws,rfl,q,rfl,λ_ _ _=>rfl⟩
  ·cases e
   rcases lst _ rfl with ⟨ws,rfl,q'⟩|⟨a,ws,rfl,g,q',st⟩
   ·exact⟨.fix ws,ws,rfl,q',rfl,λ_ _ _=>rfl⟩
   ·exact⟨.live a,ws,rfl,q',ee g,λh' hk _=>ee (st h' hk)⟩
 | range =>
  cases d<;>first|(cases e;done)|skip
  rw[Dn] at q;subst q;rename_i n;change (if inR n=true then some (cE 0 n.toNat) else none)=some _ at e;split at e
  ·rename_i hn;cases e;exact⟨.fix _,_,if_pos hn,kK,rfl,λ_ _ _=>rfl⟩
  ·cases e
 | enum =>
  cases d<;>first|(cases e;done)|skip
  cases e
  rcases lst _ rfl with ⟨ws,rfl,q'⟩|⟨a,ws,rfl,g,q',st⟩
  ·exact⟨.fix _,_,rfl,iX 0 q',rfl,λ_ _ _=>rfl⟩
  ·exact⟨.enum a,_,rfl,iX 0 q',jC g,λh' hk _=>jC (st h' hk)⟩
 | zip=>cases e
theorem Dl{α β γ δ:Type}{R:α -> Hs -> β -> Prop}{R':γ -> Hs -> δ -> Prop}{m:M β}{f:β -> M δ}{p:Pr α}{F:α -> Pr γ}(r:Rel A h R (m h) p)(k:∀a h1 b,p=.ok a->h<+:h1->R a h1 b->Rel A h1 R' (f b h1) (F a)):Rel A h R' (bnd m f h) (pb p F):=by
 unfold bnd;cases p with
 | ok a =>
  obtain⟨b,h1,e,q,r⟩:=r;rw[e];show Rel A h R' (f b h1) (F a);have:=k a h1 b rfl q r;cases e2:F a with
  | ok c=>rw[e2] at this;obtain⟨d,h2,e3,q2,r2⟩:=this;exact⟨d,h2,e3,q.trans q2,r2⟩
  | exc c es=>rw[e2] at this;obtain⟨d,h2,e3,q2,r2⟩:=this;exact⟨d,h2,e3,q.trans q2,r2⟩
  | no=>trivial
 | exc c es =>obtain⟨ws,h1,e,q,r⟩:=r;rw[e];exact⟨ws,h1,rfl,q,r⟩
 | no=>trivial
theorem Dm{e e2:IE}(h:gB Ψ (.cons e (.cons e2 r)) af=.ok ds):2<=ds.length:=by
 rw[gB,gB] at h;cases h1:(if isVar e=true then pl (ig af e) else bz Ψ e af) with
 | ok a =>
  rw[h1] at h;cases h2:(if isVar e2=true then pl (ig af e2) else bz Ψ e2 af) with
  | ok b =>
   rw[h2] at h;cases h3:gB Ψ r af with
   | ok c=>rw[h3] at h;cases h;simp
   | exc _ _=>rw[h3] at h;cases h
   | no=>rw[h3] at h;cases h
  | exc _ _=>rw[h2] at h;cases h
  | no=>rw[h2] at h;cases h
 | exc _ _=>rw[h1] at h;cases h
 | no=>rw[h1] at h;cases h
theorem Dp{d1 d2:Val}(ex:jY k [d1,d2]=some xs):k=.range/\∃n m,d1=.int n/\d2=.int m/\(inR n&&inR m)=true/\xs=cE n (m-n).toNat:=by
 cases k with
 | seq=>cases d1<;>cases ex
 | enum=>cases d1<;>cases ex
 | zip=>cases ex
 | range =>
  cases d1<;>first|(cases ex;done)|skip
  cases d2<;>first|(cases ex;done)|skip
  rename_i n m;change (if (inR n&&inR m)=true then some (cE n (m-n).toNat) else none)=some xs at ex
  by_cases hn:(inR n&&inR m)=true
  ·rw[if_pos hn] at ex;cases ex;exact⟨rfl,n,m,rfl,rfl,hn,rfl⟩
  ·rw[if_neg hn] at ex;cases ex
theorem yw{d1 d2 d3:Val}:jY k (d1::d2::d3::r)=none:=by
 cases k with
 | seq=>cases d1<;>rfl
 | enum=>cases d1<;>rfl
 | zip=>rfl
 | range=>cases d1<;>first|rfl|(cases d2<;>rfl)
theorem Hq{A0:AP}{h0:Hs}{m:List Nat}(hΦ:∀j,Imp (Φ j) (Ψ j))(hi:mF it=true)(s:SR A0 h0 af env h O)(hm:∀i,it=.cons (.var i) .nil->i∉m) :
  Rel (Al A0 O) h (λxs h' src=>∃ws,aq (Al A0 O) h' xs ws/\src.items h'=some ws/\yv h' O m src ws) (bnd (aZ Φ it env) (λits=>bh (srcOf k its)) h) (pb (gB Ψ it af) λits=>pl (jY k its)):=by
 have V:=v_all hΦ;cases it with
 | nil=>rw[gB];cases k<;>trivial
 | cons e es =>
  cases es with
  | nil =>
   replace hi:=gC hi
   by_cases hv:isVar e=true
   ·cases e<;>first|(cases hv;done)|skip
    rename_i i;rw[gB,gB,if_pos hv];simp only[ig];cases hx:af[i]? with
    | none=>trivial
    | some o =>
     cases o with
     | none=>trivial
     | some fd =>
      obtain⟨f,d⟩:=fd;show Rel _ _ _ _ (pl (jY k [d]));cases hf:lu f with
      | false =>
       have hf:f=.ow:=by cases f<;>first|rfl|cases hf
       subst hf;obtain⟨a,e2,e3,e4⟩:=s.ow i d hx;have ev:bnd (aZ Φ (.cons (.var i) .nil) env) (λits=>bh (srcOf k its)) h=bh (srcOf k [.ref a]) h:=by rw[aZ,aZ,bC,au (bX e2)];rfl
       rw[ev];refine bq λxs ex=>?_;have hd:∃ds,d=.rl ds:=by cases d<;>first|exact⟨_,rfl⟩|exact False.elim e4|(cases k<;>cases ex)
       obtain⟨ds,rfl⟩:=hd;obtain⟨vs,e4,e5⟩:=e4;have st:∀h':Hs,(∀i,i∉m->∀a,O i=some a->h'[a]?=h[a]?)->h'[a]?=some (Ob.lst vs):=λh' hs=>(hs i (hm i rfl) a e3).trans e4;cases k with
       | seq=>cases ex;exact⟨.live a,rfl,vs,e5,ee e4,λh' _ hs=>ee (st h' hs)⟩
       | range=>cases ex
       | enum=>cases ex;exact⟨.enum a,rfl,_,iX 0 e5,jC e4,λh' _ hs=>jC (st h' hs)⟩
       | zip=>cases ex
      | true =>
       obtain⟨v,e1,e2,_⟩:=s.sh i f d hx hf;have ev:bnd (aZ Φ (.cons (.var i) .nil) env) (λits=>bh (srcOf k its)) h=bh (srcOf k [v]) h:=by rw[aZ,aZ,bC,au (bX e1)];rfl
       rw[ev];refine bq λxs ex=>?_;obtain⟨src,ws,a1,a2,a3,a4⟩:=Dk (m:=m) e2 ex;exact⟨src,a1,ws,a2,a3,a4⟩
   ·rw[gB,gB,if_neg hv]
    have ev:bnd (aZ Φ (.cons e .nil) env) (λits=>bh (srcOf k its)) h=bnd (aH Φ e env) (λv=>bh (srcOf k [v])) h:=by rw[aZ,aZ,bC];rfl
    rw[ev];have ep:(pb (pb (bz Ψ e af) λd=>pb (Pr.ok ([]:List Val)) λp=>Pr.ok (d.2::p)) λits=>pl (jY k its))=pb (bz Ψ e af) λd=>pl (jY k [d.2]):=by cases bz Ψ e af<;>rfl
    rw[ep];refine ah (V.1 e hi.1 af env _ h s.Bc s.er) λx h1 v p1 q1=>bq λxs ex=>?_;obtain⟨src,ws,a1,a2,a3,a4⟩:=Dk (m:=m) q1.1 ex;exact⟨src,a1,ws,a2,a3,a4⟩
  | cons e2 r =>
   have V2:=V.2 _ hi;refine Dl (V2.2 af env _ h s.Bc s.er) λds h1 vs eb p1 q1=>bq λxs ex=>?_;have hl:2<=ds.length:=Dm eb
   match ds,q1 with
   | [],q1=>cases k<;>cases ex
   | [d],q1=>simp at hl
   | [d1,d2],q1 =>obtain⟨v,rr,rfl,hv,hr⟩:=q1;obtain⟨w,rfl,hw⟩:=GS.one hr;obtain⟨rfl,n,m',rfl,rfl,hn,rfl⟩:=Dp ex;have:=hv.int;subst this;have:=hw.int;subst this;exact⟨.fix _,if_pos hn,_,kK,rfl,λ_ _ _=>rfl⟩
   | d1::d2::d3::dr,q1=>rw[yw] at ex;cases ex
theorem Mq(hΦ:∀j,Imp (Φ j) (Ψ j))(hi:mF it=true)(hb:uA Φ Ψ ms body):zE Φ Ψ ms (.for p k it body):=λA0 h0 af env h O s=>by
 rw[gG,aQ];refine kL λhg=>?_;rw[and_eq_true] at hg;have hm:∀i,it=.cons (.var i) .nil->i∉mS (.for p k it body):=by
  rintro i rfl z;simp only[sN,and_eq_true,not_eq_true',List.contains_eq_mem,decide_eq_false_iff_not] at hg;simp only[mS,qA,nO,mem_append] at z
  rcases z with z|z|z
  ·exact hg.1.1.1 z
  ·exact hg.1.2 z
  ·exact hg.1.1.2 z
 have ev:∀(F:Src->M Fl),bnd (aZ Φ it env) (λits=>bnd (bh (srcOf k its)) F) h=bnd (bnd (aZ Φ it env) λits=>bh (srcOf k its)) F h:=λF=>by rw[bC]
 have ep:∀(F:List Val->Pr EW),pb (gB Ψ it af) (λits=>pb (pl (jY k its)) F)=pb (pb (gB Ψ it af) λits=>pl (jY k its)) F:=λF=>by cases gB Ψ it af<;>rfl
 rw[ev,ep];refine bT s (Hq (m:=mS (.for p k it body)) hΦ hi s hm) λxs h1 src p1 hx=>?_;obtain⟨ws,q1,q2,st⟩:=hx;have s1:=s.ext p1;have l:=q1.length;have YM:∀(F:List Val->M Fl),bnd (ask λh=>src.items h) F h1=F ws h1:=λF=>by unfold bnd ask bh;dsimp only;rw[q2]
 rw[YM];refine iZ (wm (m:=mS (.for p k it body)) (λaI env' h' O' x v s' qx=>?_) st xs ws 0 af env h1 O s1 (Fm.refl s1 (prefix_refl _)) rfl q1) λf h' g r=>r.pre s p1;refine bT s' (R:=λoE h2 lJ=>∃O2,SR A0 h0 oE lJ h2 O2/\Fm (stored p) aI env' h' O' oE lJ h2 O2) (bq λoE e2=>?_) λoE h2 lJ p2 hh=>?_
 ·obtain⟨lJ,O2,b1,b2,b3⟩:=s'.bind e2 qx;exact⟨lJ,b1,O2,b2,b3⟩
 ·obtain⟨O2,b2,b3⟩:=hh
  refine iZ (hb A0 h0 oE lJ h2 O2 b2) λf h'' g r=>RF.seq (b3.iz λi hi=>?_) (r.iz λi hi=>?_)
  ·simp only[mS,qA,nO,mem_append];exact .inr (.inl hi)
  ·simp only[Hi,mS,qA,nO,mem_append] at hi |-
   rcases hi with z|z
   ·exact .inl z
   ·exact .inr (.inr z)
theorem Mr{n:Nat}(hΦ:∀j,Imp (Φ j) (Ψ j))(hc:eF c=true)(hb:uA Φ Ψ ms body):zE Φ Ψ ms (.whl n c body):=λA0 h0 af env h O s=>by rw[aQ];trivial
theorem Dq:lu (xB m)=true:=by cases m<;>rfl
theorem SR.fr{A0:AP}{h0:Hs}(s:SR A0 h0 af env h O):ER A0 (rN af) env h:=λi f d e=>by
 unfold rN at e;rw[getElem?_map] at e;cases hx:af[i]? with
 | none=>rw[hx] at e;cases e
 | some o =>
  rw[hx] at e;cases o with
  | none=>cases e
  | some fd =>
   obtain⟨m,d'⟩:=fd;cases e;rw[if_neg (by rw[Dq];decide)];cases hm:lu m with
   | false =>
    have hm:m=.ow:=by cases m<;>first|rfl|cases hm
    subst hm;obtain⟨a,e2,e3,e4⟩:=s.ow i d hx;exact⟨_,e2,(e4.mono (A':=A0) (λ_ g=>g) λ_ _ z=>z.iz λ_ y=>y.1).dn (s.up a (s.own i a e3).1)⟩
   | true =>obtain⟨v,e1,e2,_⟩:=s.sh i m d hx hm;exact⟨v,e1,e2.iz λ_ z=>z.1⟩
theorem sP{A0:AP}{h0:Hs}{α β γ δ:Type}{R:α -> Hs -> β -> Prop}{R':γ -> Hs -> δ -> Prop}{mm:M β}{f:β -> M δ}{p:Pr α}{F:α -> Pr γ}(s:SR A0 h0 af env h O)(r:Rel A0 h R (mm h) p)(k:∀a h1 b,h<+:h1->R a h1 b->iL A0 h0 R' (f b h1) (F a)):iL A0 h0 R' (bnd mm f h) (pb p F):=by
 unfold bnd;cases p with
 | ok a=>obtain⟨b,h1,e,q,r⟩:=r;rw[e];exact k a h1 b q r
 | exc c es=>obtain⟨ws,h1,e,q,r⟩:=r;rw[e];exact⟨ws,h1,rfl,s.pre.trans q,r⟩
 | no=>trivial
theorem Ms(hΦ:∀j,Imp (Φ j) (Ψ j))(ho:eF e=true):zE Φ Ψ ms (.ret e):=λA0 h0 af env h O s=>by
 have V:=(v_all hΦ).1 e ho;have gen:M9 Ψ e af=bz Ψ e af->iL A0 h0 (RF A0 h0 (mS (.ret e)) af env h O) (gG Φ (.ret e) env h) (aQ Ψ ms (.ret e) af):=λhe=>by
  rw[gG,aQ,he];exact bT s (V af env _ h s.Bc s.er) λx h1 v p1 q1=>bE ⟨q1.1.iz λ_ z=>z.1,λf=>(q1.2 f).iz (Fr.le s.pre.length_le),s.pre.trans p1⟩
 cases e with
 | var i =>
  rw[gG,aQ];simp only[M9];cases hx:af[i]? with
  | none=>trivial
  | some o =>
   cases o with
   | none=>trivial
   | some fd =>
    obtain⟨f,d⟩:=fd;cases hf:lu f with
    | false =>
     have hf:f=.ow:=by cases f<;>first|rfl|cases hf
     subst hf;obtain⟨a,e2,e3,e4⟩:=s.ow i d hx;rw[au (bX e2)];have ha:=s.own i a e3;cases d<;>first|exact False.elim e4|skip
     ·refine⟨_,h,rfl,?_,λhi=>?_,s.pre⟩
      ·exact(e4.mono (A':=A0) (λ_ g=>g) λ_ _ z=>z.iz λ_ y=>y.1).dn (s.up a ha.1)
      ·obtain⟨vs,e4,e5⟩:=e4;show Dn _ h (.rl _) (.ref a);rw[Dn];exact .inr ⟨a,vs,rfl,ha.1,e4,fc e5 hi⟩
     ·refine⟨_,h,rfl,?_,λhi=>?_,s.pre⟩
      ·exact(e4.mono (A':=A0) (λ_ g=>g) λ_ _ z=>z.iz λ_ y=>y.1).dn (s.up a ha.1)
      ·obtain⟨kvs,e4,ek,e5⟩:=e4;show Dn _ h (.dc _ _) (.ref a);rw[Dn];exact⟨a,kvs,rfl,ha.1,e4,ek,fc e5 hi⟩
    | true =>
     obtain⟨v,e1,e2,e3⟩:=s.sh i f d hx hf;rw[au (bX e1)];dsimp only;rw[if_pos hf];refine⟨_,h,rfl,e2.iz λ_ z=>z.1,λhi=>?_,s.pre⟩
     rcases(or_eq_true _ _).mp hi with hi|hi
     ·exact(iJ d v hi).mpr ((iJ d v hi).mp e2)
     ·exact(e3 hi).iz λ_ z=>z.1
 | call j es =>rw[gG,aQ];exact sP s (V (rN af) env A0 h (s.up.ext s.pre) s.fr) λx h1 v p1 q1=>bE ⟨q1.1,λf=>(q1.2 f).iz (Fr.le s.pre.length_le),s.pre.trans p1⟩
 | tup es =>rw[gG,aQ];exact sP s (V (rN af) env A0 h (s.up.ext s.pre) s.fr) λx h1 v p1 q1=>bE ⟨q1.1,λf=>(q1.2 f).iz (Fr.le s.pre.length_le),s.pre.trans p1⟩
 | _=>exact gen rfl
theorem Mt:uA Φ Ψ ms .nil:=λA0 h0 af env h O s=>by rw[fN,aN];exact bE ⟨O,s,Fm.refl s (prefix_refl _)⟩
theorem Hr(ha:zE Φ Ψ ms a)(hr:uA Φ Ψ ms r):uA Φ Ψ ms (.cons a r):=λA0 h0 af env h O s=>by
 rw[fN,aN];have w1:∀i∈mS a,i∈Hi (.cons a r):=λi hi=>by
  simp only[mS,Hi,fH,jZ,mem_append] at hi |-
  rcases hi with z|z
  ·exact .inl (.inl z)
  ·exact .inr (.inl z)
 have w2:∀i∈Hi r,i∈Hi (.cons a r):=λi hi=>by
  simp only[Hi,fH,jZ,mem_append] at hi |-
  rcases hi with z|z
  ·exact .inl (.inr z)
  ·exact .inr (.inr z)
 refine qD (ha A0 h0 af env h O s) λf h1 g rr=>?_;have rr:=rr.iz w1;cases f<;>cases g<;>first|exact rr.elim|skip
 ·obtain⟨O',s',f'⟩:=rr;exact iZ (hr A0 h0 _ _ h1 O' s') λf h' g r'=>RF.seq f' (r'.iz w2)
 ·exact bE rr
 ·exact bE rr
 ·exact bE rr
theorem Pe(hΦ:∀j,Imp (Φ j) (Ψ j)):∀ss,wj ss=true->uA Φ Ψ ms ss:=by
 intro ss;refine fM.rec (motive_1:=λs=>WN s=true->zE Φ Ψ ms s) (motive_2:=λss=>wj ss=true->uA Φ Ψ ms ss) ?_ ?_ ?_ ?_ ?_ ?_ ?_ ?_ ?_ ?_ ?_ ?_ ?_ ?_ ?_ ?_ ss
 ·exact λe f=>Hj hΦ f
 ·exact λp e f=>Mm hΦ f
 ·exact λi o e f=>Mn hΦ f
 ·intro o i v f;have f:=uz f;exact Ho hΦ f.1.1 f.1.2 f.2
 ·intro c a b ia ib f;have f:=uz f;exact Mp hΦ f.1.1 (ia f.1.2) (ib f.2)
 ·intro p k it b ib f;have f:=gC f;exact Mq hΦ f.1 (ib f.2)
 ·intro n c b ib f;have f:=gC f;exact Mr hΦ f.1 (ib f.2)
 ·exact λe f=>Ms hΦ f
 ·exact λ_ A0 h0 af env h O s=>by rw[gG,aQ];exact bE ⟨by rw[Dn],λ_=>by rw[Dn],s.pre⟩
 ·exact λ_ A0 h0 af env h O s=>by rw[gG,aQ];exact bE ⟨O,s,Fm.refl s (prefix_refl _)⟩
 ·exact λ_ A0 h0 af env h O s=>by rw[gG,aQ];exact bE ⟨O,s,Fm.refl s (prefix_refl _)⟩
 ·exact λ_ A0 h0 af env h O s=>by rw[gG,aQ];exact bE ⟨O,s,Fm.refl s (prefix_refl _)⟩
 ·exact λ_ A0 h0 af env h O s=>by rw[aQ];trivial
 ·exact λ_ _ _ _ _ A0 h0 af env h O s=>by rw[aQ];trivial
 ·exact λ_=>Mt
 ·intro a r ia ir f;have f:=gC f;exact Hr (ia f.1) (ir f.2)
theorem Pf{n:Nat}(u:Up A h)(q:aq A h ds vs):SR A h (ds.map (λd=>some (.sh,d))++replicate (n-ds.length) none) (vs.map some++replicate (n-vs.length) none) h (λ_=>none):=by
 have l:=q.length;have al:∀k,A k->Al A (λ_=>none) k:=λk hk=>⟨hk,λi z e=>by subst e;cases z⟩;have get:∀(i:Nat) (f:Mk) (d:Val),(ds.map (λd=>some (.sh,d))++replicate (n-ds.length) none:bJ)[i]?=some (some (f,d))->f=.sh/\ds[i]?=some d:=λi f d e=>by
  by_cases hi:i<ds.length
  ·rw[getElem?_append_left (by simpa using hi),getElem?_map] at e
   cases ei:ds[i]? with
   | none=>rw[ei] at e;cases e
   | some d'=>rw[ei] at e;cases e;exact⟨rfl,rfl⟩
  ·rw[getElem?_append_right (by simp;omega)] at e;have:=mem_of_getElem? e;rw[List.mem_replicate] at this;exact absurd this.2 (by simp)
 refine⟨by simp[l],λi m d e hm=>?_,λi d e=>?_,(λi a e=>nomatch e),(λi j a e=>nomatch e),prefix_refl _,u⟩
 ·obtain⟨hm',e⟩:=get i m d e;obtain⟨v,k1,k2⟩:=q.get e;have hi:i<vs.length:=(List.getElem?_eq_some_iff.mp k1).1;exact⟨v,by rw[getElem?_append_left (by simpa using hi),getElem?_map,k1];rfl,k2.iz al,λz=>by subst hm';cases z⟩
 ·obtain⟨z,_⟩:=get i .ow d e;cases z
theorem bM{n:Nat}(hΦ:∀j,Imp (Φ j) (Ψ j))(ho:wj body=true):Imp (ie Φ n body) (e9 Ψ n body):=λA h ds vs u q=>by
 have l:=q.length;have s:=Pf (n:=n) u q;unfold ie e9;have r:=qD (R':=λx h' v=>h<+:h'/\RV A h x h' v) (Pe (ms:=fH body) hΦ body ho A h _ _ h _ s) (f:=λf=>match f with
  | .nx _=>ret .non
  | .rt v=>ret v
  | _=>bh none) (F:=λf=>match f with
  | .nx _=>.ok (true,.non)
  | .rt p=>.ok p
  | _=>.no) λf h1 g rr=>by
   cases f<;>cases g<;>first|exact rr.elim|skip
   ·obtain⟨O',s',_⟩:=rr;exact bE ⟨s'.pre,by show Dn _ _ Val.non _;rw[Dn],λ_=>by show Dn _ _ Val.non _;rw[Dn]⟩
   ·exact bE ⟨rr.2.2,rr.1,rr.2.1⟩
   ·trivial
   ·trivial
 revert r;generalize (pb (aN Ψ (fH body) body (ds.map (λd=>some (.sh,d))++replicate (n-ds.length) none)) _)=p;intro r;cases p with
 | ok x=>obtain⟨v,h',e,a,b⟩:=r;exact⟨v,h',e,a,b⟩
 | exc c es=>exact r
 | no=>trivial
end
end Hv
end
section
namespace Hv
open PySem L2
noncomputable abbrev bg:=List Val->Pr FV
noncomputable def ai(gs:List bg)(j:Nat):bg:=match gs[j]? with
 | some g=>g
 | none=>λ_=>.no
noncomputable def dS(fs:List Row)(gs:List bg):Prop:=fs.length=gs.length/\∀(j:Nat) (r:Row) (g:bg),fs[j]?=some r->gs[j]?=some g->Imp r.2.2 g
theorem Dr:dS [] []:=⟨rfl,λj r g e=>by simp at e⟩
theorem aC(a:dS fs gs)(j:Nat):Imp (look fs j) (ai gs j):=by
 unfold look ai;cases e:fs[j]? with
 | none =>
  have:gs[j]?=none:=by have:=List.getElem?_eq_none_iff.mp e;exact List.getElem?_eq_none_iff.mpr (by rw[<-a.1];exact this)
  rw[this];exact λ_ _ _ _ _ _=>trivial
 | some r =>
  cases e2:gs[j]? with
  | none=>exact λ_ _ _ _ _ _=>trivial
  | some g=>exact a.2 j r g e e2
theorem aD{k:Nat}(a:dS fs gs)(i:Imp f g):dS (fs++[(x,k,f)]) (gs++[g]):=by
 refine⟨by simp[a.1],λj r g' e1 e2=>?_⟩
 by_cases hj:j<fs.length
 ·rw[getElem?_append_left hj] at e1;rw[getElem?_append_left (by rw[<-a.1];exact hj)] at e2;exact a.2 j r g' e1 e2
 ·rw[getElem?_append_right (by omega)] at e1
  rw[getElem?_append_right (by rw[<-a.1];omega)] at e2;have hj0:j-fs.length=0:=by have:=(List.getElem?_eq_some_iff.mp e1).1;simp at this;omega
  rw[<-a.1] at e2;rw[hj0] at e1 e2;simp at e1 e2;subst e1;subst e2;exact i
theorem Ds(i:Imp φ ψ){ns:List Int}{f:Bool}(e:ψ [.rl (ns.map .int)]=.ok (f,.bl true)):∃h',φ [.rl (ns.map .int)] []=.ok (.bl true) h':=by
 have r:=i (λ_=>True) [] [.rl (ns.map .int)] [.rl (ns.map .int)] (λ_ _=>trivial) (aq.cons (by rw[Dn];exact .inl ⟨_,rfl,trivial,(aX _ _ (bO ns)).mpr rfl⟩) aq.nil);rw[e] at r;obtain⟨v,h',e1,_,q⟩:=r;have q:=q.1;dsimp only at q;rw[Dn] at q;subst q;exact⟨h',e1⟩
end Hv
end
section
namespace Hv
open PySem L2
section
variable {α β γ:Type}
theorem bF(a:α)(f:α -> Pr β):pb (.ok a) f=f a:=rfl
theorem Dt(c:Prop)[Decidable c](m n:Pr α)(f:α -> Pr β):pb (if c then m else n) f=if c then pb m f else pb n f:=by split<;>rfl
theorem qE(m:Pr α)(f:α -> Pr β)(g:β -> Pr γ):pb (pb m f) g=pb m λx=>pb (f x) g:=by cases m<;>rfl
theorem ff(a:α):pl (some a)=.ok a:=rfl
theorem mH(m:Pr α):pg true m=m:=rfl
theorem Du(c:Prop)[Decidable c](m:Pr α):pg (decide c) m=if c then m else .no:=by unfold pg;simp
theorem uB{c:Bool}(h:c=true)(m:Pr α):pg c m=m:=by rw[h];rfl
end
theorem wo{f:Bool}:lu (fO f d)=true:=by unfold fO;split<;>rfl
theorem Jc:lu .sh=true:=rfl
theorem Jd:lu .nw=true:=rfl
theorem Je:lu .ow=false:=rfl
theorem Jf:M8 .sh=false:=rfl
theorem Jg:M8 .nw=true:=rfl
theorem Dv{f:Bool}{i:Int}:fO f (.int i)=.sh:=by cases f<;>rfl
theorem Jh{f:Bool}{i:Bool}:fO f (.bl i)=.sh:=by cases f<;>rfl
theorem Dw{f:Bool}:fO f (.str i)=.sh:=by cases f<;>rfl
theorem Dy{f:Bool}:fO f .non=.sh:=by cases f<;>rfl
theorem Pg:fO false d=.sh:=rfl
theorem zH:fO true (.rl ds)=.nw:=rfl
theorem Ji:fO true (.dc ks ds)=.nw:=rfl
section
variable {a b:Int} {x y:Str} {t:Bool} {vs ws:List Val} {v:Val}
theorem Jj:lK .add (.int a) (.int b)=.ok (true,.int (a+b)):=rfl
theorem Jk:lK .sub (.int a) (.int b)=.ok (true,.int (a-b)):=rfl
theorem Jl(h:lg a b=true):lK .mul (.int a) (.int b)=.ok (true,.int (a*b)):=by simp only[lK];exact uB h _
theorem cX(h:gy b=true):lK .fdiv (.int a) (.int b)=.ok (true,.int (a/b)):=by simp only[lK];exact uB h _
theorem eG(h:decide (0<b)=true):lK .mod (.int a) (.int b)=.ok (true,.int (a%b)):=by simp only[lK];exact uB h _
theorem zJ(h:decide (0<=b/\b<=1000000/\a.natAbs<2 ^ 64)=true):lK .pow (.int a) (.int b)=.ok (true,.int (a ^ b.toNat)):=by simp only[lK];exact uB h _
theorem Ph:cop [] .lt (.int a) (.int b)=some (decide (a<b)):=rfl
theorem Pj:cop [] .le (.int a) (.int b)=some (decide (a<=b)):=rfl
theorem Pk:cop [] .gt (.int a) (.int b)=some (decide (b<a)):=rfl
theorem Pn:cop [] .ge (.int a) (.int b)=some (decide (b<=a)):=rfl
theorem Po:cop [] .eq (.int a) (.int b)=some (decide (a=b)):=by
 show some (a==b)=_
 congr 1
theorem Pp:cop [] .ne (.int a) (.int b)=some (!decide (a=b)):=by
 show some (!(a==b))=_
 congr 1
theorem Jm:cop [] .isn v .non=some (qi v):=by cases v<;>rfl
theorem Jo:cop [] .ntn v .non=some (!qi v):=by cases v<;>rfl
theorem zK:dQ [] (.bl t)=some t:=rfl
theorem Jp:dQ [] (.int a)=some (a != 0):=rfl
theorem Jq:dQ [] (.rl vs)=some (!vs.isEmpty):=rfl
theorem Jr:dQ [] (.tup vs)=some (!vs.isEmpty):=rfl
theorem Js:gb .len [.rl vs]=.ok (true,.int vs.length):=rfl
theorem Jt:gb .len [.tup vs]=.ok (true,.int vs.length):=rfl
theorem Ju:gb .min [.int a,.int b]=.ok (true,.int (if b<a then b else a)):=rfl
theorem Jv:gb .max [.int a,.int b]=.ok (true,.int (if b>a then b else a)):=rfl
theorem Dz:gb .min [.tup [.int a,.int b]]=.ok (true,.int (min a b)):=rfl
theorem DA:gb .max [.tup [.int a,.int b]]=.ok (true,.int (max a b)):=rfl
theorem DC:gb .list [.rl vs]=.ok (bD vs,.rl vs):=rfl
theorem DE:gb .list [.tup vs]=.ok (bD vs,.rl vs):=rfl
theorem zL:gb .tuple [.rl vs]=.ok (bD vs,.tup vs):=rfl
theorem Jw:gb .int [.bl t]=.ok (true,.int (if t=true then 1 else 0)):=rfl
theorem dU(h:iR vs a=some v):mh [] (.rl vs) (.int a)=some v:=h
theorem oG(h:iR vs a=some v):mh [] (.tup vs) (.int a)=some v:=h
end
theorem Ht:iR (v::vs) (0:Int)=some v:=by
 have:=kE (xs:=v::vs) (j:=0) (v:=v) rfl;exact this
theorem Bg:iR (u::v::vs) (1:Int)=some v:=by
 have:=kE (xs:=u::v::vs) (j:=1) (v:=v) rfl;exact this
theorem Bh{T:String}{t:String}(h1:vH [] v=some t)(h2:vI T t=some true):gb (.isin T) [v]=.ok (true,.bl true):=by
 show pb (pl (vH [] v)) _=_;rw[h1,ff,bF,h2];rfl
theorem yx{T:String}{t:String}(h1:vH [] v=some t)(h2:vI T t=some false):gb (.isin T) [v]=.ok (true,.bl false):=by
 show pb (pl (vH [] v)) _=_;rw[h1,ff,bF,h2];rfl
theorem ne_self(h:toD 16 [] d=some p)(hp:p.canLay0=true):cop [] .ne d d=some false:=by
 simp only[cop,BC,h,bind_some];rw[SeqAt.eqv_refl p hp];rfl
end Hv
end
section
namespace Hv
open PySem L2
theorem fh:jY .seq [.rl vs]=some vs:=rfl
theorem DF:CV .seq ds=jY .seq ds:=rfl
theorem DG:CV .range ds=jY .range ds:=rfl
theorem DH:CV .enum ds=jY .enum ds:=rfl
theorem Pq:jY .enum [.rl vs]=some (cV 0 vs):=rfl
theorem Jx{lo hi:Option Int}:Bb (.rl vs) lo hi=.ok (bD (fZ vs lo hi),.rl (fZ vs lo hi)):=rfl
theorem bG{i:Nat}:fG (.one i) d env=some (env.set i (some (.sh,d))):=rfl
theorem Mv{i j:Nat}:fG (.tup [i,j]) (.tup [d,e]) env=some ((env.set i (some (.sh,d))).set j (some (.sh,e))):=rfl
theorem wu{α β:Type}(f:α -> β)(ds:List α)(lo hi:Option Int):fZ (ds.map f) lo hi=(fZ ds lo hi).map f:=by
 unfold fZ;simp only[length_map,List.map_take,List.map_drop]
theorem kM:∀(i:Nat) (ds:List Val),(cV i ds).length=ds.length
 | _,[]=>rfl
 | i,d::r=>by rw[cV,length_cons,kM (i+1) r,length_cons]
theorem j8{α β γ:Type}{f:β -> Option γ}{g:α -> β}{k:α -> γ}:∀(xs:List α),(∀x∈xs,f (g x)=some (k x))->ck f (xs.map g)=some (xs.map k)
 | [],_=>rfl
 | x::r,h=>by
  rw[map_cons,ck,h x mem_cons_self,j8 r λy hy=>h y (mem_cons_of_mem _ hy)];rfl
theorem ints_map(xs:List Int):aV (xs.map .int)=some xs:=by
 have:=j8 (f:=λv=>match v with|.int i=>some i|_=>none) (g:=Val.int) (k:=id) xs λ_ _=>rfl;rw[map_id] at this;exact this
theorem yy(o8:List (List Int))(h:∀k∈o8,k≠[])(hl:o8.length<64):fE (o8.map l0)=some ((lZ o8).map l0):=by
 unfold fE;rw[if_pos (by rw[length_map];exact hl)];cases o8 with
 | nil=>rfl
 | cons k r =>
  have e:aV (List.map l0 (k::r))=none:=by unfold aV ;rw[map_cons,ck];rfl
  rw[e];have e2:k9 (List.map l0 (k::r))=some (k::r):=by
   have:=j8 (f:=λv=>match v with|.tup vs=>if vs.isEmpty then none else aV vs|_=>none) (g:=l0) (k:=id) (k::r) λx hx=>by
    have hx:=h x hx;show (if (x.map Val.int).isEmpty=true then none else aV (x.map .int))=some x;rw[if_neg (by simpa using hx),ints_map]
   rw[map_id] at this;exact this
  show (k9 (List.map l0 (k::r))).bind _=_;rw[e2];rfl
theorem yz{α:Type}(xs:List α):cu (xs.map λ_=>Val.bl true)=some (xs.map λ_=>true):=j8 (g:=λ_=>Val.bl true) (k:=λ_=>true) xs λ_ _=>rfl
theorem all_true{α:Type}(xs:List α):gb .all [.rl (xs.map λ_=>Val.bl true)]=.ok (true,.bl true):=by
 show pb (pl (cu _)) _=_;rw[yz,ff,bF]
 congr 3
 simp
theorem DI{α:Type}{n:Nat}(f:α -> Val)(g:α -> PyData)(xs:List α)(e:∀x∈xs,toD n h (f x)=some (g x)):toD (n+1) h (.rl (xs.map f))=some (.list (xs.map g)):=by
 show (ck (toD n h) _).bind _=_;rw[j8 xs e];rfl
theorem qF{α:Type}(g:α -> PyData):∀(xs:List α),(∀x∈xs,(g x).canLay0=true)->PyData.canLayAll0 (xs.map g)=true
 | [],_=>by simp[PyData.canLayAll0]
 | x::r,h=>by
  rw[map_cons,PyData.canLayAll0,h x mem_cons_self,qF g r λy hy=>h y (mem_cons_of_mem _ hy)];rfl
end Hv
end
section
namespace Hv
open PySem L2
theorem sS{α:Type}(enc:α -> Val)(Q:List α -> bJ->Prop):∀(us done:List α) (env:bJ),Q done env->(∀(pre:List α) (u:α) (post:List α) (env:bJ),done++us=pre++u::post->Q pre env->∃env',body (enc u) env=.ok (.nx env')/\Q (pre++[u]) env')->∃env',nQ body (us.map enc) env=.ok (.nx env')/\Q (done++us) env'
 | [],done,env,q,_=>⟨env,rfl,by rw[append_nil];exact q⟩
 | x::xs,done,env,q,h=>by
  obtain⟨env',e,q'⟩:=h done x xs env rfl q;have eq:done++x::xs=done++[x]++xs:=by simp
  obtain⟨lJ,e2,q2⟩:=sS enc Q xs (done++[x]) env' q' (by rw[<-eq];exact h);refine⟨lJ,?_,by rw[eq];exact q2⟩;rw[map_cons,nQ,e,bF];exact e2
theorem cQ{α:Type}(enc:α -> Val){us:List α}{oU:bJ}{β:Type}{k:EW->Pr β}(G:Pr β -> Prop)(Q:List α -> bJ->Prop)(h0:Q [] oU)
  (step:∀(pre:List α) (u:α) (post:List α) (env:bJ),us=pre++u::post->Q pre env->∃env',body (enc u) env=.ok (.nx env')/\Q (pre++[u]) env')
  (post:∀env',Q us env'->G (k (.nx env'))):G (pb (nQ body (us.map enc) oU) k):=by
 obtain⟨env',e,q⟩:=sS enc Q us [] oU h0 (λpre x post env ep q=>step pre x post env ep q);rw[e,bF];exact post env' q
theorem dD:∀{l m:List Int},l.Nodup->(∀x∈l,x∈m)->l.length<=m.length
 | [],_,_,_=>zero_le _
 | x::r,m,h,hs=>by
  rw[nodup_cons] at h;have hx:x∈m:=hs x mem_cons_self;have:=dD (m:=m.erase x) h.2 λy hy=>(List.mem_erase_of_ne (λe:y=x=>h.1 (e▸hy))).mpr (hs y (mem_cons_of_mem _ hy));rw[List.length_erase_of_mem hx] at this;have:=List.length_pos_of_mem hx;rw[length_cons];omega
noncomputable abbrev uT(xs:List Int)(g:Int->Val):Val:=.dc (xs.map Sum.inl) (xs.map g)
noncomputable def wz(g:Int->Val)(x:Int)(v:Val):Int->Val:=λy=>if y=x then v else g y
theorem yC(xs:List Int)(g:Int->Val):(xs.map (Sum.inl:Int->Key)).zip (xs.map g)=xs.map λx=>((Sum.inl x:Key),g x):=by
 induction xs with
 | nil=>rfl
 | cons x r ih=>simp only[map_cons,zip_cons_cons,ih]
theorem qG{xs:List Int}{x:Int}(h:x∈xs):mh [] (uT xs g) (.int x)=some (g x):=by
 show cy _ _=_;rw[yC];unfold cy
 induction xs with
 | nil=>simp at h
 | cons y r ih =>
  rw[map_cons,find?_cons]
  by_cases e:y=x
  ·subst e;simp
  ·have:((Sum.inl y:Key)=Sum.inl x)=False:=by simp[e]
   simp only[this,decide_false];exact ih (by rcases mem_cons.mp h with h|h;exact absurd h.symm e;exact h)
theorem yD(xs:List Int)(g:Int->Val)(x:Int):((xs.map λx=>((Sum.inl x:Key),g x)).any λkv=>decide (kv.1=Sum.inl x))=decide (x∈xs):=by
 induction xs with
 | nil=>rfl
 | cons y r ih =>
  rw[map_cons,any_cons,ih]
  by_cases e:y=x
  ·subst e;simp
  ·have e':¬ x=y:=λh=>e h.symm;simp[e,e']
theorem Hu{xs:List Int}{x:Int}(h:x∈xs):putD (xs.map Sum.inl) (xs.map g) (.inl x) v=uT xs (wz g x v):=by
 unfold putD gP;rw[yC,yD,if_pos (by simpa using h)];unfold uT;rw[map_map,map_map]
 congr 1
 ·refine map_congr_left λy _=>?_
  show ((if (Sum.inl y:Key)=Sum.inl x then ((Sum.inl y:Key),v) else (Sum.inl y,g y)).1)=_
  split<;>rfl
 ·rw[map_map,map_map]
  refine map_congr_left λy _=>?_;show ((if (Sum.inl y:Key)=Sum.inl x then ((Sum.inl y:Key),v) else (Sum.inl y,g y)).2)=_;unfold wz
  by_cases e:y=x
  ·rw[if_pos (by rw[e]),if_pos e]
  ·rw[if_neg (by simpa using e),if_neg e]
theorem Hw{xs:List Int}{x:Int}(h:x∉xs):putD (xs.map Sum.inl) (xs.map g) (.inl x) v=uT (xs++[x]) (wz g x v):=by
 unfold putD gP;rw[yC,yD,if_neg (by simpa using h)];unfold uT;simp only[map_append,map_map,map_cons,map_nil]
 congr 1
 congr 1
 ·refine map_congr_left λy hy=>?_;show g y=wz g x v y;unfold wz;rw[if_neg (λe:y=x=>h (e▸hy))]
 ·simp[wz]
theorem kN{xs:List Int}(h:∀x∈xs,g x=g' x):uT xs g=uT xs g':=by
 unfold uT;rw[map_congr_left h]
theorem Jy{x:Int}:keyOf (.int x)=some (.inl x):=rfl
theorem Hx(a b:Int):PyData.eqv (.int a) (.int b)=decide (a=b):=by
 show (a==b)=_
 by_cases h:a=b<;>simp[h]
theorem DJ{xs:List Int}{x:Int}:cop [] .y9 (.int x) (.rl (xs.map .int))=some (decide (x∈xs)):=by
 show (toD 16 [] (.rl (xs.map .int))).bind _=_;rw[DI Val.int PyData.int xs λ_ _=>rfl];show some ((xs.map PyData.int).any λy=>PyData.eqv y (.int x))=_
 congr 1
 induction xs with
 | nil=>rfl
 | cons y r ih =>
  rw[map_cons,any_cons,ih,Hx]
  by_cases e:y=x
  ·subst e;simp
  ·have e':¬ x=y:=λh=>e h.symm;simp[e,e']
theorem qH{xs:List Int}{x:Int}:cop [] .nin (.int x) (.rl (xs.map .int))=some (!decide (x∈xs)):=by
 show (cop [] .y9 (.int x) (.rl (xs.map .int))).map _=_;rw[DJ];rfl
theorem S5{a b:Bool}:cop [] .ne (.bl a) (.bl b)=some (a != b):=by cases a<;>cases b<;>rfl
theorem qI(x:Int):∀(ns ks:List Int),x∈eW ks ns↔x∈ks\/x∈ns
 | [],ks=>by simp[eW]
 | k::r,ks=>by
  rw[eW,qI x r,qc]
  split
  ·rename_i h
   constructor
   ·rintro(h'|h')
    ·exact .inl h'
    ·exact .inr (mem_cons_of_mem _ h')
   ·rintro(h'|h')
    ·exact .inl h'
    ·rcases mem_cons.mp h' with h'|h'
     ·exact .inl (h'▸h)
     ·exact .inr h'
  ·simp[or_assoc]
theorem fP:∀(ns ks:List Int),ks.Nodup->(eW ks ns).Nodup
 | [],ks,h=>h
 | k::r,ks,h=>by
  rw[eW];refine fP r _ ?_;rw[qc]
  split
  ·exact h
  ·rename_i hk;rw[nodup_append];exact⟨h,by simp,λa ha b hb=>by simp at hb;subst hb;exact λe=>hk (e▸ha)⟩
noncomputable def gO(ns:List Int):List Int:=PySem.W.sortI (eW [] ns)
theorem DK(x:Int)(ns:List Int):x∈gO ns↔x∈ns:=by
 unfold gO;rw[(sortI_perm _).mem_iff,qI];simp
theorem jD(ns:List Int):(gO ns).Nodup:=by
 unfold gO;rw[(sortI_perm _).nodup_iff];exact fP ns [] nodup_nil
inductive Way (es:List (Int×Int)):Int->Int->Prop
 | refl (a:Int):Way es a a
 | fwd {a b c:Int}:Way es a b->(b,c)∈es->Way es a c
 | bwd {a b c:Int}:Way es a b->(c,b)∈es->Way es a c
theorem Way.trans{a b c:Int}(h:Way es a b)(k:Way es b c):Way es a c:=by
 induction k with
 | refl=>exact h
 | fwd _ m ih=>exact .fwd ih m
 | bwd _ m ih=>exact .bwd ih m
theorem Way.symm{a b:Int}(h:Way es a b):Way es b a:=by
 induction h with
 | refl=>exact .refl _
 | fwd _ m ih=>exact(Way.bwd (.refl _) m).trans ih
 | bwd _ m ih=>exact(Way.fwd (.refl _) m).trans ih
theorem Way.mono(hs:∀e∈es,e∈fs){a b:Int}(h:Way es a b):Way fs a b:=by
 induction h with
 | refl=>exact .refl _
 | fwd _ m ih=>exact .fwd ih (hs _ m)
 | bwd _ m ih=>exact .bwd ih (hs _ m)
theorem Way.const{α:Type}(f:Int -> α)(hf:∀e∈es,f e.1=f e.2){a b:Int}(h:Way es a b):f a=f b:=by
 induction h with
 | refl=>rfl
 | fwd _ m ih=>exact ih.trans (hf _ m)
 | bwd _ m ih=>exact ih.trans (hf _ m).symm
structure ly (ps:List Int) (es:List (Int×Int)) (f:Int->Int):Prop where
 y9:∀x∈ps,f x∈ps
 way:∀x∈ps,Way es x (f x)
 same:∀e∈es,f e.1=f e.2
theorem ly.iff{ps:List Int}(h:ly ps es f){x y:Int}(hx:x∈ps)(hy:y∈ps):f x=f y↔Way es x y:=by
 constructor
 ·intro e;have:=(h.way y hy).symm;rw[<-e] at this;exact(h.way x hx).trans this
 ·exact λw=>w.const f h.same
theorem ly.start(ps:List Int):ly ps [] id:=⟨λx h=>h,λx _=>.refl x,λe h=>by simp at h⟩
theorem ly.step{ps:List Int}(h:ly ps es f){a b:Int}(ha:a∈ps)(hb:b∈ps)(kept gone:Int)(hk:(kept=f a/\gone=f b)\/(kept=f b/\gone=f a)):ly ps (es++[(a,b)]) (λx=>if f x=gone then kept else f x):=by
 have up:∀{x y},Way es x y->Way (es++[(a,b)]) x y:=λw=>w.mono λe he=>mem_append_left _ he;have ab:Way (es++[(a,b)]) a b:=.fwd (.refl _) (by simp);refine⟨λx hx=>?_,λx hx=>?_,λe he=>?_⟩
 ·split
  ·rcases hk with ⟨k,_⟩|⟨k,_⟩<;>rw[k]<;>exact h.y9 _ (by assumption)
  ·exact h.y9 x hx
 ·split
  ·rename_i e
   have w1:=up (h.way x hx);rw[e] at w1;refine w1.trans ?_
   rcases hk with ⟨k,g⟩|⟨k,g⟩
   ·rw[k,g];exact((up (h.way b hb)).symm.trans ab.symm).trans (up (h.way a ha))
   ·rw[k,g];exact((up (h.way a ha)).symm.trans ab).trans (up (h.way b hb))
  ·exact up (h.way x hx)
 ·rcases mem_append.mp he with he|he
  ·rw[h.same e he]
  ·rw[mem_singleton] at he
   subst he
   rcases hk with ⟨k,g⟩|⟨k,g⟩
   ·rw[k,g];rw[if_pos (rfl:f b=f b)];split<;>rfl
   ·rw[k,g];rw[if_pos (rfl:f a=f a)];split<;>rfl
end Hv
end
section
namespace Hv
open PySem L2
noncomputable abbrev T3:=Int×Int×Int
noncomputable def l3(t:T3):List Int:=[t.1,t.2.1,t.2.2]
noncomputable def dW(t:T3):Val:=.tup [.int t.1,.int t.2.1,.int t.2.2]
noncomputable def qJ(x:T3):List T3->List T3
 | []=>[x]
 | y::r=>if HT.lexLt (l3 y) (l3 x)=true then y::qJ x r else x::y::r
noncomputable def jJ:List T3->List T3
 | []=>[]
 | x::r=>qJ x (jJ r)
theorem wB(x:T3):∀l:List T3,ud (l3 x) (l.map l3)=(qJ x l).map l3
 | []=>rfl
 | y::r=>by
  rw[map_cons,ud,qJ]
  split
  ·rw[map_cons,wB x r]
  ·rfl
theorem sU:∀l:List T3,lZ (l.map l3)=(jJ l).map l3
 | []=>rfl
 | x::r=>by rw[map_cons,lZ,sU r,wB];rfl
theorem nS(x:T3):∀l:List T3,(qJ x l).Perm (x::l)
 | []=>.refl _
 | y::r=>by
  rw[qJ]
  split
  ·exact((nS x r).cons y).trans (List.Perm.swap ..)
  ·exact .refl _
theorem fQ:∀l:List T3,(jJ l).Perm l
 | []=>.refl _
 | x::r=>(nS x _).trans ((fQ r).cons x)
theorem Hy(ts:List T3)(hl:ts.length<64):fE (ts.map dW)=some ((jJ ts).map dW):=by
 have e:∀us:List T3,us.map dW=(us.map l3).map l0:=λus=>by rw[map_map];rfl
 rw[e,yy _ (λk hk=>by obtain⟨t,_,rfl⟩:=mem_map.mp hk;simp[l3]) (by rw[length_map];exact hl),sU,e]
theorem wC(hl:ts.length<64):gb .sorted [.rl (ts.map dW)]=.ok (true,.rl ((jJ ts).map dW)):=by
 show pb (pl (fE _)) _=_;rw[Hy ts hl];rfl
noncomputable def DL(ts:List T3):Prop:=ts.Pairwise λa b=>a.1<b.1
theorem zM(x:T3):∀l:List T3,DL l->(∀y∈l,y.1≠x.1)->DL (qJ x l)
 | [],_,_=>by simp[qJ,DL]
 | y::r,h,hn=>by
  unfold DL at *;rw[pairwise_cons] at h;have ny:y.1≠x.1:=hn y mem_cons_self;rw[qJ];have lx:HT.lexLt (l3 y) (l3 x)=decide (y.1<x.1):=by show HT.lexLt (y.1::_) (x.1::_)=_;rw[HT.fK,if_neg ny]
  rw[lx]
  by_cases c:y.1<x.1
  ·rw[if_pos (by simpa using c),pairwise_cons]
   refine⟨λz hz=>?_,zM x r h.2 λz hz=>hn z (mem_cons_of_mem _ hz)⟩
   rcases mem_cons.mp ((nS x r).mem_iff.mp hz) with hz|hz
   ·rw[hz];exact c
   ·exact h.1 z hz
  ·rw[if_neg (by simpa using c),pairwise_cons,pairwise_cons]
   refine⟨λz hz=>?_,h⟩;have:x.1<y.1:=by omega
   rcases mem_cons.mp hz with hz|hz
   ·rw[hz];exact this
   ·have:=h.1 z hz;omega
theorem wD:∀l:List T3,(l.map (·.1)).Nodup->DL (jJ l)
 | [],_=>.nil
 | x::r,h=>by
  rw[map_cons,nodup_cons] at h;refine zM x _ (wD r h.2) λy hy e=>h.1 ?_;rw[(fQ r).mem_iff] at hy;exact mem_map.mpr ⟨y,hy,e⟩
noncomputable def turnT(t:T3):T3:=(t.1,if t.2.2<t.2.1 then t.2.2 else t.2.1,if t.2.2>t.2.1 then t.2.2 else t.2.1)
noncomputable def bK(p q:Int)(ts:List T3):Val:=.tup [.tup [.int p,.int q],.rl (ts.map dW)]
theorem Hz{i j k:Nat}:fG (.tup [i,j,k]) (dW t) env=some (((env.set i (some (.sh,.int t.1))).set j (some (.sh,.int t.2.1))).set k (some (.sh,.int t.2.2))):=rfl
theorem Bj{α:Type}(ds:List α)(lo:Int)(n:Nat)(h:0<=lo):(fZ ds (some lo) (some (lo+n))).length<=n:=by
 unfold fZ HT.eZ;dsimp only;rw[if_neg (by omega),if_neg (by omega)];simp only[length_take,length_drop];omega
theorem Mw:Bb (dW t) (some 1) none=.ok (true,.tup [.int t.2.1,.int t.2.2]):=rfl
theorem qK{α:Type}(enc:α -> Val)(g:α -> FV):∀(us:List α),(∀u∈us,f (enc u)=.ok (some (g u)))->jI f (us.map enc)=.ok (us.all λu=>(g u).1,us.map λu=>(g u).2)
 | [],_=>rfl
 | x::xs,h=>by
  rw[map_cons,jI,h x mem_cons_self,bF,qK enc g xs λy hy=>h y (mem_cons_of_mem _ hy),bF];rfl
theorem fR{α:Type}(enc dec:α -> Val)(us:List α)(h:∀u∈us,f (enc u)=.ok (some (true,dec u))):jI f (us.map enc)=.ok (true,us.map dec):=by
 rw[qK enc (λu=>(true,dec u)) us h];simp
theorem eu{α:Type}(enc dec:α -> Val)(t:α -> Bool):∀(us:List α),(∀u∈us,f (enc u)=.ok (if t u=true then some (true,dec u) else none))->jI f (us.map enc)=.ok (true,(us.filter t).map dec)
 | [],_=>rfl
 | x::xs,h=>by
  rw[map_cons,jI,h x mem_cons_self,bF,eu enc dec t xs λy hy=>h y (mem_cons_of_mem _ hy),bF]
  by_cases hx:t x=true
  ·rw[if_pos hx,List.filter_cons_of_pos hx];rfl
  ·rw[if_neg hx,List.filter_cons_of_neg hx]
theorem HD:∀m,m<67->∀d,d<67->0<m->0<d->(m*d)%67≠0:=by decide +kernel
theorem HE{m c i j:Int}(hm:0<m/\m<67)(hi:0<=i/\i<67)(hj:0<=j/\j<67)(e:(m*i+c)%67=(m*j+c)%67):i=j:=by
 have key:∀i j:Int,0<=i->j<67->i<j->(m*i+c)%67=(m*j+c)%67->False:=by
  intro i j h0 h1 hlt e;obtain⟨a,ha⟩:=eq_ofNat_of_zero_le (show 0<=m by omega);obtain⟨d,hd⟩:=eq_ofNat_of_zero_le (show 0<=j-i by omega);have p:=HD a (by omega) d (by omega) (by omega) (by omega);have:m*j=m*i+m*(j-i):=by rw[Int.mul_sub];omega
  rw[this] at e;have e2:(m*(j-i))%67=0:=by omega
  rw[ha,hd] at e2;apply p;have:((a*d:Nat):Int)%67=0:=by rw[Int.natCast_mul];exact e2
  omega
 rcases Int.lt_trichotomy i j with h|h|h
 ·exact(key i j hi.1 hj.2 h e).elim
 ·exact h
 ·exact(key j i hj.1 hi.2 h e.symm).elim
theorem qL{α:Type}{f:Hs->Option α}{a:α}(e:f h=some a):ask f h=.ok a h:=by show (match f h with|some a=>Out.ok a h|none=>Out.no)=_;rw[e]
theorem jE{α β:Type}{f:Hs->Option α}{g:α -> M β}{a:α}(e:f h=some a):bnd (ask f) g h=g a h:=au (qL e)
theorem pD{α β:Type}{o:Option α}{g:α -> M β}{a:α}(e:o=some a):bnd (bh o) g h=g a h:=au (by unfold bh;rw[e])
end Hv
end
section
namespace Hv
open PySem L2
noncomputable def EY:Val->Option (Int×Int×Int)
 | .tup [.int a,.int b,.int c]=>some (a,b,c)
 | _=>none
noncomputable def ja(kvs:List (Key×Val))(t:Int×Int×Int):List (Key×Val):=gP kvs (.inl t.1) (.tup [.int t.2.1,.int t.2.2])
noncomputable def bU(p q:Int)(ts:List (Int×Int×Int)):List (Key×Val):=ts.foldl ja [(.inl (-1),.tup [.int p,.int q])]
noncomputable def j9(Ψ:Nat->List Val->Pr FV)(c jo jp:Nat)(ds:List Val):Pr FV:=match ds with
 | [net]=>(match Ψ jo [net] with
  | .ok (true,.tup [.tup [.int p,.int q],.rl ts])=>pb (pl (ck EY ts)) λes=>pg (decide (es.length<1000)) (match Ψ jp [.tup [.tup [.int p,.int q],.rl ts]] with
   | .ok (true,y)=>.ok (true,.ob c ["net","places","ends"] [.tup [.tup [.int p,.int q],.rl ts],y,.dc ((bU p q es).map (·.1)) ((bU p q es).map (·.2))])
   | _=>.no)
  | _=>.no)
 | _=>.no
noncomputable abbrev qM(n jo jp:Nat):fM:=.cons (.setF n (.var 0) "net" (.call jo (.cons (.var 1) .nil))) (.cons (.setF n (.var 0) "places" (.call jp (.cons (.fld n (.var 0) "net") .nil))) (.cons (.setF n (.var 0) "ends" (.dct1 (.con "THOUGHT" (.int (-1))) (.idx (.fld n (.var 0) "net") (.cst (.int 0)))))
 (.cons (.for (.tup [2,3,4]) .seq (.cons (.idx (.fld n (.var 0) "net") (.cst (.int 1))) .nil) (.cons (.gO (.fld n (.var 0) "ends") (.var 2) (.tup (.cons (.var 3) (.cons (.var 4) .nil)))) .nil)) .nil)))
noncomputable def zN(t:Int×Int×Int):Val:=.tup [.int t.1,.int t.2.1,.int t.2.2]
theorem HF(e:EY v=some t):v=zN t:=by
 unfold EY at e;split at e
 ·cases e;rfl
 ·cases e
theorem wF:∀{vs:List Val} {ts:List (Int×Int×Int)},ck EY vs=some ts->vs=ts.map zN
 | [],ts,e=>by cases e;rfl
 | v::vs,ts,e=>by
  rw[ck] at e;obtain⟨t,e1,e⟩:=bind_eq_some_iff.mp e;obtain⟨r,e2,e⟩:=bind_eq_some_iff.mp e;cases e;rw[HF e1,wF e2];rfl
theorem uC:∀ts:List (Int×Int×Int),bD (ts.map zN)=true
 | []=>rfl
 | t::r=>by rw[map_cons,bD,uC r];rfl
theorem DM(kvs:List (Key×Val))(k:Key)(v:Val):(gP kvs k v).length<=kvs.length+1:=by
 unfold gP
 split
 ·rw[length_map];omega
 ·rw[length_append];simp
theorem DN(hv:ju v=true)(kvs:List (Key×Val))(h:∀kv∈kvs,ju kv.2=true):∀kv∈gP kvs k v,ju kv.2=true:=by
 unfold gP;intro kv hk;split at hk
 ·obtain⟨z,hz,rfl⟩:=mem_map.mp hk
  split
  ·exact hv
  ·exact h z hz
 ·rcases mem_append.mp hk with hk|hk
  ·exact h kv hk
  ·rw[mem_singleton.mp hk];exact hv
theorem wG:∀(ts:List (Int×Int×Int)) (kvs:List (Key×Val)),(∀kv∈kvs,ju kv.2=true)->∀kv∈ts.foldl ja kvs,ju kv.2=true
 | [],kvs,h=>h
 | t::r,kvs,h=>wG r _ (DN rfl kvs h)
theorem wH:∀{vs:List Val},(∀v∈vs,ju v=true)->bD vs=true
 | [],_=>rfl
 | v::vs,h=>by rw[bD,h v mem_cons_self,wH λw hw=>h w (mem_cons_of_mem _ hw)];rfl
section
variable {Φ:Nat->List Val->M Val} {Ψ:Nat->List Val->Pr FV}
theorem sV{n c D L E:Nat}{ts:List (Int×Int×Int)}{fs:List (Str×Val)}(hc:c<n)(hf:fs.lookup ("ends":Str)=some (Val.ref E))(Mx:ts.length<1000)(WO:D≠E)(S6:L≠E) :
  ∀(m j:Nat) (kvs:List (Key×Val)) (env:Env) (h h':Hs),m+j=ts.length->kvs.length<=j+1->env[0]?=some (some (.ref D))->4<env.length->h[D]?=some (.ins c fs)->h[L]?=some (.lst (ts.map zN))->h'.length=h.length->(∀k,k≠E->h'[k]?=h[k]?)->h'[E]?=some (.dct kvs) ->
  ∃env' h2,forM (.live L) (λx env=>bnd (bh (gq (.tup [2,3,4]) x env)) λenv'=>fN Φ (.cons (.gO (.fld n (.var 0) "ends") (.var 2) (.tup (.cons (.var 3) (.cons (.var 4) .nil)))) .nil) env') m j env h'=.ok (.nx env') h2 /\
   h2.length=h.length/\(∀k,k≠E->h2[k]?=h[k]?)/\h2[E]?=some (.dct ((ts.drop j).foldl ja kvs))
 | 0,j,kvs,env,h,h',hm,hk,he,hl,hD,hL,h1,h2,h3=>by
  refine⟨env,h',?_,h1,h2,?_⟩
  ·rw[forM,jE (a:=ts.map zN) (ee (by rw[h2 L S6];exact hL))];unfold aF;rw[if_pos (decide_eq_true (by rw[length_map];omega))];rfl
  ·rw[List.drop_of_length_le (by omega)];exact h3
 | m+1,j,kvs,env,h,h',hm,hk,he,hl,hD,hL,h1,h2,h3=>by
  have hj:j<ts.length:=by omega
  have hE:E<h'.length:=(List.getElem?_eq_some_iff.mp h3).1
  let gD:Env:=((env.set 2 (some (.int ts[j].1))).set 3 (some (.int ts[j].2.1))).set 4 (some (.int ts[j].2.2))
  have b1:gq (.tup [2,3,4]) (zN ts[j]) env=some gD:=rfl;have g0:gD[0]?=some (some (.ref D)):=by show (((env.set 2 _).set 3 _).set 4 _)[0]?=_;rw[getElem?_set_ne (by omega),getElem?_set_ne (by omega),getElem?_set_ne (by omega)];exact he
  have g2:gD[2]?=some (some (.int ts[j].1)):=by show (((env.set 2 _).set 3 _).set 4 _)[2]?=_;rw[getElem?_set_ne (by omega),getElem?_set_ne (by omega),getElem?_set_self (by omega)]
  have g3:gD[3]?=some (some (.int ts[j].2.1)):=by show (((env.set 2 _).set 3 _).set 4 _)[3]?=_;rw[getElem?_set_ne (by omega),getElem?_set_self (by rw[length_set];omega)]
  have g4:gD[4]?=some (some (.int ts[j].2.2)):=by show (((env.set 2 _).set 3 _).set 4 _)[4]?=_;rw[getElem?_set_self (by rw[length_set,length_set];omega)]
  have YN:aH Φ (.fld n (.var 0) "ends") gD h'=.ok (.ref E) h':=by rw[aH,au (bX g0)];refine qL (f:=λh=>iG n h (.ref D) "ends") ?_;unfold iG;dsimp only;rw[h2 D WO,hD];dsimp only;rw[if_pos hc];exact hf
  have YO:aH Φ (.tup (.cons (.var 3) (.cons (.var 4) .nil))) gD h'=.ok (.tup [.int ts[j].2.1,.int ts[j].2.2]) h':=by
   rw[aH,au (a:=[.int ts[j].2.1,.int ts[j].2.2]) (h1:=h')]
   ·unfold aF;rw[if_pos (decide_eq_true (show ([Val.int ts[j].2.1,Val.int ts[j].2.2]:List Val).length<=sizeLine from(by decide:2<=sizeLine)))];rfl
   ·rw[aZ,au (bX g3),aZ];rw[show bnd (bnd (aH Φ (.var 4) gD) λd=>bnd (aZ Φ .nil gD) λds=>ret (d::ds)) (λds=>ret (Val.int ts[j].2.1::ds)) h'=_ from au (a:=[.int ts[j].2.2]) (h1:=h') (by rw[au (bX g4),aZ];rfl)];rfl
  have st:fN Φ (.cons (.gO (.fld n (.var 0) "ends") (.var 2) (.tup (.cons (.var 3) (.cons (.var 4) .nil)))) .nil) gD h'=.ok (.nx gD) (h'.set E (.dct (ja kvs ts[j]))):=by
   rw[fN,au (a:=Fl.nx gD) (h1:=h'.set E (.dct (ja kvs ts[j])))]
   ·dsimp only;rw[fN];rfl
   ·rw[gG,au YO,au YN,au (bX g2)]
    rw[au (a:=()) (h1:=h'.set E (.dct (ja kvs ts[j])))]
    ·rfl
    ·unfold sI;dsimp only;rw[jE (f:=λh=>h[E]?) h3];dsimp only;rw[pD (o:=keyOf (.int ts[j].1)) (a:=.inl ts[j].1) rfl];unfold aF;rw[if_pos (decide_eq_true (by unfold sizeLine;omega))];rfl
  have hlen:(ja kvs ts[j]).length<=j+1+1:=le_trans (DM _ _ _) (by omega);obtain⟨lJ,h4,r1,r2,r3,r4⟩:=sV hc hf Mx WO S6 m (j+1) (ja kvs ts[j]) gD h (h'.set E (.dct (ja kvs ts[j]))) (by omega) hlen g0 (by show 4<(((env.set 2 _).set 3 _).set 4 _).length;simp;omega) hD hL (by simp[h1])
   (λk hk=>by rw[getElem?_set_ne λz=>hk z.symm];exact h2 k hk) (getElem?_set_self hE)
  refine⟨lJ,h4,?_,r2,r3,?_⟩
  ·rw[forM,jE (a:=ts.map zN) (ee (by rw[h2 L S6];exact hL))]
   rw[show (ts.map zN)[j]?=some (zN ts[j]) by rw[getElem?_map,List.getElem?_eq_getElem hj];rfl];dsimp only;rw[au (a:=Fl.nx gD) (h1:=h'.set E (.dct (ja kvs ts[j])))]
   ·exact r1
   ·rw[pD b1];exact st
  ·rw[List.drop_eq_getElem_cons hj,List.foldl_cons];exact r4
theorem pF{n c i:Nat}(hc:c<n)(g:h[i]?=some (.ins c fs))(hl:fs.length<1000):bnd (zb n (.ref i) x v) (λ_=>ret (Fl.nx env)) h=.ok (.nx env) (h.set i (.ins c (qk x v fs))):=by
 unfold zb;dsimp only;rw[bC,jE (a:=(c,fs)) (by rw[g];dsimp only;rw[if_pos hc])];dsimp only;unfold bnd aF;rw[if_pos (decide_eq_true hl)];rfl
theorem wI{n c jo jp:Nat}(hc:c<n)(hΦ:∀j,Imp (Φ j) (Ψ j)){p q':Int}(u:Up A h)(qn:Dn A h net v)(e1:Ψ jo [net]=.ok (true,.tup [.tup [.int p,.int q'],.rl ts]))(e2:ck EY ts=some es)(hz:es.length<1000)
  (e3:Ψ jp [.tup [.tup [.int p,.int q'],.rl ts]]=.ok (true,y)):∃(h8:Hs) (V1 v2 vE:Val),ie Φ 5 (qM n jo jp) [.ref h.length,v] (h++[Ob.ins c []])=.ok .non h8/\h<+:h8/\h8[h.length]?=some (.ins c [("net",V1),("places",v2),("ends",vE)]) /\
   ∀B:AP,(∀k,h.length+1<=k->B (some k))->aq B h8 [.tup [.tup [.int p,.int q'],.rl ts],y,.dc ((bU p q' es).map (·.1)) ((bU p q' es).map (·.2))] [V1,v2,vE]:=by
 have et:=wF e2;have WQ:h<+:h++[Ob.ins c []]:=prefix_append _ _;have u1:=u.ext WQ;have R1:=hΦ jo A (h++[Ob.ins c []]) [net] [v] u1 (aq.cons (qn.ext WQ) aq.nil);rw[e1] at R1;obtain⟨v1,h2,f1,S7,_,dF⟩:=R1;have dA:=dF rfl;clear dF;have LF:h2[h.length]?=some (.ins c []):=cI S7 (by simp);have l2:h.length+1<=h2.length:=by have:=S7.length_le;simpa using this
 rw[Dn] at dA;obtain⟨ws,rfl,dB⟩:=dA;rw[aq] at dB;obtain⟨w0,r0,rfl,d0,d1⟩:=dB;obtain⟨w1,rfl,d5⟩:=aq.one d1;clear d1;have YQ:w0=.tup [.int p,.int q']:=(iJ _ _ (show ju (.tup [.int p,.int q'])=true from rfl)).mp d0;subst YQ;rw[Dn] at d5
 rcases d5 with ⟨_,_,z,_⟩|⟨L,ws,rfl,aL,gL,d6⟩
 ·exact False.elim z
 rw[et] at d6;have YR:ws=es.map zN:=(aX _ _ (uC es)).mp d6;subst YR;have hL:(h++[Ob.ins c []]).length<=L:=aL;have hL':h.length+1<=L:=by simpa using hL
 have lL:L<h2.length:=(List.getElem?_eq_some_iff.mp gL).1
 let V1:Val:=.tup [.tup [.int p,.int q'],.ref L]
 let h3:Hs:=h2.set h.length (.ins c [("net",V1)])
 have M7:h3[h.length]?=some (.ins c [("net",V1)]):=getElem?_set_self (by omega);have WR:h3[L]?=some (.lst (es.map zN)):=by show (h2.set _ _)[L]?=_;rw[getElem?_set_ne (by omega)];exact gL
 have l3:h3.length=h2.length:=length_set;have WS:Dn (Fr (h.length+1)) h3 (.tup [.tup [.int p,.int q'],.rl ts]) V1:=by rw[Dn];refine⟨_,rfl,aq.cons ((iJ _ _ (show ju (.tup [.int p,.int q'])=true from rfl)).mpr rfl) (aq.cons ?_ aq.nil)⟩;rw[Dn];exact .inr ⟨L,_,rfl,hL',WR,by rw[et];exact(aX _ _ (uC es)).mpr rfl⟩
 have R2:=hΦ jp (Fr (h.length+1)) h3 [.tup [.tup [.int p,.int q'],.rl ts]] [V1] (λk hk=>by show h.length+1<=k;omega) (aq.cons WS aq.nil);rw[e3] at R2;obtain⟨v2,h4,f2,Pu,_,dG⟩:=R2;have d2:=dG rfl;clear dG;have Ox:h4[h.length]?=some (.ins c [("net",V1)]):=cI Pu M7;have l4:h3.length<=h4.length:=Pu.length_le
 let h5:Hs:=h4.set h.length (.ins c [("net",V1),("places",v2)])
 have WU:h5[h.length]?=some (.ins c [("net",V1),("places",v2)]):=getElem?_set_self (by omega);have l5:h5.length=h4.length:=length_set
 let h6:Hs:=h5++[Ob.dct [(.inl (-1),.tup [.int p,.int q'])]]
 have YS:h6[h.length]?=some (.ins c [("net",V1),("places",v2)]):=cI (prefix_append _ _) WU;have l6:h6.length=h5.length+1:=by show (h5++[_]).length=_;simp
 let FS:List (Str×Val):=[("net",V1),("places",v2),("ends",.ref h5.length)]
 let h7:Hs:=h6.set h.length (.ins c FS)
 have S8:h7[h.length]?=some (.ins c FS):=getElem?_set_self (by omega);have l7:h7.length=h6.length:=length_set;have YT:h7[h5.length]?=some (.dct [(.inl (-1),.tup [.int p,.int q'])]):=by show (h6.set _ _)[h5.length]?=_;rw[getElem?_set_ne (by omega)];show (h5++[_])[h5.length]?=_;simp
 have hk7:∀k,k≠h.length->k<h4.length->h7[k]?=h4[k]?:=λk n1 n2=>by
  show (h6.set _ _)[k]?=_;rw[getElem?_set_ne λz=>n1 z.symm];show (h5++[_])[k]?=_;rw[getElem?_append_left (by omega)];show (h4.set _ _)[k]?=_;rw[getElem?_set_ne λz=>n1 z.symm]
 have YU:h4[L]?=some (.lst (es.map zN)):=cI Pu WR;have WW:h7[L]?=some (.lst (es.map zN)):=by rw[hk7 L (by omega) (by omega)];exact YU
 let env:Env:=[some (.ref h.length),some v,none,none,none]
 have k1:("ends":Str) ≠ "net":=by decide
 obtain⟨env',h8,lp,l8,k8,d8⟩:=sV (Φ:=Φ) (fs:=FS) (ts:=es) hc (by rfl) hz (by omega) (by omega) es.length 0 [(.inl (-1),.tup [.int p,.int q'])] env h7 h7 (by omega) (by simp) rfl (by decide:4<5) S8 WW rfl (λ_ _=>rfl) YT;have fldN:∀(g:Hs) (fs:List (Str×Val)),g[h.length]?=some (.ins c (("net",V1)::fs))->aH Φ (.fld n (.var 0) "net") env g=.ok V1 g:=λg fs hg=>by
  rw[aH,au (bX rfl)];refine qL (f:=λh'=>iG n h' (.ref h.length) "net") ?_;unfold iG;dsimp only;rw[hg];dsimp only;rw[if_pos hc];rfl
 have s1:gG Φ (.setF n (.var 0) "net" (.call jo (.cons (.var 1) .nil))) env (h++[Ob.ins c []])=.ok (.nx env) h3:=by
  have e:aH Φ (.call jo (.cons (.var 1) .nil)) env (h++[Ob.ins c []])=.ok V1 h2:=by
   rw[aH,au (a:=[v]) (h1:=h++[Ob.ins c []])]
   ·exact f1
   ·rw[aZ,au (bX rfl),aZ];rfl
  rw[gG,au e,au (bX rfl)];exact pF hc LF (by decide)
 have s2:gG Φ (.setF n (.var 0) "places" (.call jp (.cons (.fld n (.var 0) "net") .nil))) env h3=.ok (.nx env) h5:=by
  have e:aH Φ (.call jp (.cons (.fld n (.var 0) "net") .nil)) env h3=.ok v2 h4:=by
   rw[aH,au (a:=[V1]) (h1:=h3)]
   ·exact f2
   ·rw[aZ,au (fldN h3 [] M7),aZ];rfl
  rw[gG,au e,au (bX rfl)];exact pF hc Ox (by decide:1<1000)
 have s3:gG Φ (.setF n (.var 0) "ends" (.dct1 (.con "THOUGHT" (.int (-1))) (.idx (.fld n (.var 0) "net") (.cst (.int 0))))) env h5=.ok (.nx env) h7:=by
  have e0:aH Φ (.idx (.fld n (.var 0) "net") (.cst (.int 0))) env h5=.ok (.tup [.int p,.int q']) h5:=by rw[aH,au (fldN h5 _ WU),au (a:=.int 0) (h1:=h5) (by rw[aH];rfl)];rfl
  have e:aH Φ (.dct1 (.con "THOUGHT" (.int (-1))) (.idx (.fld n (.var 0) "net") (.cst (.int 0)))) env h5=.ok (.ref h5.length) h6:=by rw[aH,au (a:=.int (-1)) (h1:=h5) (by rw[aH];rfl),pD (o:=keyOf (.int (-1))) (a:=.inl (-1)) rfl,au e0];rfl
  rw[gG,au e,au (bX rfl)];exact pF hc YS (by decide:2<1000)
 have s4:gG Φ (.for (.tup [2,3,4]) .seq (.cons (.idx (.fld n (.var 0) "net") (.cst (.int 1))) .nil) (.cons (.gO (.fld n (.var 0) "ends") (.var 2) (.tup (.cons (.var 3) (.cons (.var 4) .nil)))) .nil)) env h7=.ok (.nx env') h8:=by
  have e0:aH Φ (.idx (.fld n (.var 0) "net") (.cst (.int 1))) env h7=.ok (.ref L) h7:=by rw[aH,au (fldN h7 _ S8),au (a:=.int 1) (h1:=h7) (by rw[aH];rfl)];rfl
  rw[gG,au (a:=[.ref L]) (h1:=h7)]
  ·rw[pD (o:=srcOf .seq [.ref L]) (a:=.live L) rfl,jE (a:=es.map zN) (ee WW),length_map];exact lp
  ·rw[aZ,au e0,aZ];rfl
 have run:ie Φ 5 (qM n jo jp) [.ref h.length,v] (h++[Ob.ins c []])=.ok .non h8:=by
  unfold ie;rw[au (a:=Fl.nx env') (h1:=h8)]
  ·rfl
  ·show fN Φ (qM n jo jp) env _=_;rw[fN,au s1];dsimp only;rw[fN,au s2];dsimp only;rw[fN,au s3];dsimp only;rw[fN,au s4];dsimp only;rw[fN];rfl
 have S9:∀k,k≠h.length->k<h4.length->h8[k]?=h4[k]?:=λk n1 n2=>(k8 k (by omega)).trans (hk7 k n1 n2);have hpre:h<+:h8:=by
  refine List.prefix_iff_getElem?.mpr λi hi=>?_;have YV:i<h4.length:=by omega
  rw[S9 i (by omega) YV];have:(h2.set h.length (.ins c [("net",V1)]))[i]?=h2[i]?:=getElem?_set_ne (by omega);have YW:h4[i]?=h3[i]?:=iY Pu (by omega);rw[YW,this,iY S7 (by simp;omega),getElem?_append_left hi,List.getElem?_eq_getElem hi]
 refine⟨h8,V1,v2,.ref h5.length,run,hpre,by rw[k8 _ (by omega)];exact S8,λB hB=>aq.cons ?_ (aq.cons ?_ (aq.cons ?_ aq.nil))⟩
 ·refine Dn.mono (A:=Fr (h.length+1)) (h:=h3) (λo z=>?_) (λk o a g=>?_) _ _ WS
  ·cases o with
   | none=>exact False.elim z
   | some k=>exact hB k z
  ·have a:h.length+1<=k:=a;have:=(List.getElem?_eq_some_iff.mp g).1;rw[S9 k (by omega) (by omega)];exact cI Pu g
 ·refine Dn.mono (A:=Fr h3.length) (h:=h4) (λo z=>?_) (λk o a g=>?_) _ _ d2
  ·cases o with
   | none=>exact False.elim z
   | some k=>exact hB k (by have:h3.length<=k:=z;omega)
  ·have a:h3.length<=k:=a;have:=(List.getElem?_eq_some_iff.mp g).1;rw[S9 k (by omega) (by omega)];exact g
 ·rw[Dn]
  refine⟨h5.length,bU p q' es,rfl,hB _ (by omega),?_,rfl,?_⟩
  ·rw[List.drop_zero] at d8;exact d8
  ·refine(aX _ _ (wH λw hw=>?_)).mpr rfl;obtain⟨kv,hkv,rfl⟩:=mem_map.mp hw;exact wG es _ (λkv hk=>by rw[mem_singleton.mp hk];rfl) kv hkv
theorem wJ{n c jo jp:Nat}(hc:c<n)(hΦ:∀j,Imp (Φ j) (Ψ j)):Imp (Cz c (ie Φ 5 (qM n jo jp))) (j9 Ψ c jo jp):=λA h ds vs u q=>by
 unfold j9
 split
 ·rename_i net
  obtain⟨v,rfl,qn⟩:=aq.one q
  split
  ·rename_i p q' ts e1
   cases e2:ck EY ts with
   | none=>trivial
   | some es =>
    show Rel A h (RV A h) _ (pg (decide (es.length<1000)) _)
    by_cases hz:es.length<1000
    ·unfold pg
     rw[if_pos (decide_eq_true hz)]
     split
     ·rename_i y e3
      obtain⟨h8,V1,v2,vE,r1,p8,g8,d8⟩:=wI (Ψ:=Ψ) hc hΦ u qn e1 e2 hz e3;have run:Cz c (ie Φ 5 (qM n jo jp)) [v] h=.ok (.ref h.length) h8:=by show bnd (ie Φ 5 (qM n jo jp) [.ref h.length,v]) _ (h++[Ob.ins c []])=_;rw[au r1];rfl
      have dn:∀B:AP,(∀k,h.length<=k->B (some k))->Dn B h8 (.ob c ["net","places","ends"] [.tup [.tup [.int p,.int q'],.rl ts],y,.dc ((bU p q' es).map (·.1)) ((bU p q' es).map (·.2))]) (.ref h.length):=λB hB=>by
       rw[Dn];exact⟨h.length,_,rfl,hB _ (Nat.le_refl _),g8,rfl,d8 B λk hk=>hB k (by omega)⟩
      exact⟨_,h8,run,p8,dn A λk hk=>u k hk,λ_=>dn _ λk hk=>hk⟩
     ·trivial
    ·unfold pg;rw[if_neg (by simpa using hz)];trivial
  ·trivial
 ·trivial
noncomputable def sW(Ψ' Ψ:Nat->List Val->Pr FV)(c jo jp jt jr:Nat)(ds:List Val):Pr FV:=match j9 Ψ' c jo jp ds with
 | .ok (_,.ob c' ns vs)=>(match Ψ jt [.ob c' ns vs] with
  | .ok (_,t)=>(match Ψ jr [.ob c' ns vs,t] with
   | .ok (_,.int m)=>.ok (true,.ob c' (ns++[("whole":Str)]) (vs++[.int m]))
   | _=>.no)
  | _=>.no)
 | _=>.no
noncomputable abbrev zO(n ji:Nat)(jst jsr:List (Nat×Nat)):fM:=.cons (.expr (.call ji (.cons (.var 0) (.cons (.var 1) .nil)))) (.cons (.setF n (.var 0) "whole" (.mth (.var 0) "tree_rank" jsr (.cons (.mth (.var 0) "ties" jst .nil) .nil))) .nil)
theorem DO{c jo jp:Nat}(e:j9 Ψ c jo jp ds=.ok fw):∃net p q ts es y,ds=[net] /\ Ψ jo [net]=.ok (true,.tup [.tup [.int p,.int q],.rl ts])/\ck EY ts=some es/\es.length<1000 /\ Ψ jp [.tup [.tup [.int p,.int q],.rl ts]]=.ok (true,y) /\
  fw=(true,.ob c ["net","places","ends"] [.tup [.tup [.int p,.int q],.rl ts],y,.dc ((bU p q es).map (·.1)) ((bU p q es).map (·.2))]):=by
 unfold j9 at e;split at e
 ·rename_i net
  split at e
  ·rename_i p q ts e1
   cases e2:ck EY ts with
   | none=>rw[e2] at e;cases e
   | some es =>
    rw[e2] at e;change pg (decide (es.length<1000)) _=_ at e;unfold pg at e
    by_cases hz:es.length<1000
    ·rw[if_pos (decide_eq_true hz)] at e
     split at e
     ·rename_i y e3;cases e;exact⟨net,p,q,ts,es,y,rfl,e1,e2,hz,e3,rfl⟩
     ·cases e
    ·rw[if_neg (by simpa using hz)] at e;cases e
  ·cases e
 ·cases e
theorem DP{c c' jo jp jt jr:Nat}{f f1 f2:Bool}{m:Int}(e0:j9 Ψ' c jo jp ds=.ok (f,.ob c' ns vs))(e1:Ψ jt [.ob c' ns vs]=.ok (f1,t))(e2:Ψ jr [.ob c' ns vs,t]=.ok (f2,.int m)):sW Ψ' Ψ c jo jp jt jr ds=.ok (true,.ob c' (ns++[("whole":Str)]) (vs++[.int m])):=by
 unfold sW;rw[e0];dsimp only;rw[e1];dsimp only;rw[e2]
theorem DQ:Imp φ (λ_=>.no):=λ_ _ _ _ _ _=>trivial
theorem DR{n c ji jo jp jt jr:Nat}(hc:c<n)(YX:∀j,Imp (Φ' j) (Ψ' j))(hΦ:∀j,Imp (Φ j) (Ψ j))(hji:Φ ji=ie Φ' 5 (qM n jo jp))(ht:jst.lookup c=some jt)(hr:jsr.lookup c=some jr) :
  Imp (Cz c (ie Φ 2 (zO n ji jst jsr))) (sW Ψ' Ψ c jo jp jt jr):=λA h ds vs u q=>by
 unfold sW;cases e0:j9 Ψ' c jo jp ds with
 | no=>trivial
 | exc _ _=>trivial
 | ok fw =>
  obtain⟨net,p,q',ts,es,y,rfl,e1,e2,hz,e3,rfl⟩:=DO e0;dsimp only;obtain⟨v,rfl,qn⟩:=aq.one q;obtain⟨h8,V1,v2,vE,r1,p8,g8,d8⟩:=wI (Φ:=Φ') (Ψ:=Ψ') hc YX u qn e1 e2 hz e3;have l8:=p8.length_le;have b8:h.length<h8.length:=(List.getElem?_eq_some_iff.mp g8).1;have dO:∀h',h8<+:h'->Dn (Fr h.length) h' (.ob c ["net","places","ends"] [.tup [.tup [.int p,.int q'],.rl ts],y,.dc ((bU p q' es).map (·.1)) ((bU p q' es).map (·.2))]) (.ref h.length):=λh' p'=>by
   rw[Dn];exact⟨h.length,_,rfl,Nat.le_refl _,cI p' g8,rfl,aq.mono (λ_ a=>a) (λ_ _ _ g=>cI p' g) _ _ (d8 (Fr h.length) λk hk=>show h.length<=k by omega)⟩
  have R1:=hΦ jt (Fr h.length) h8 _ _ (λk hk=>show h.length<=k by omega) (aq.cons (dO h8 (prefix_refl _)) aq.nil);generalize hob:Val.ob c ["net","places","ends"] [.tup [.tup [.int p,.int q'],.rl ts],y,.dc ((bU p q' es).map (·.1)) ((bU p q' es).map (·.2))]=ob at R1 dO;cases e4:Ψ jt [ob] with
  | no=>trivial
  | exc _ _=>trivial
  | ok ft =>
   obtain⟨f1,t⟩:=ft;dsimp only;rw[e4] at R1;obtain⟨vt,h9,x1,p9,d9,_⟩:=R1;have l9:=p9.length_le;have R2:=hΦ jr (Fr h.length) h9 _ _ (λk hk=>show h.length<=k by omega) (aq.cons (dO h9 p9) (aq.cons d9 aq.nil));cases e5:Ψ jr [ob,t] with
   | no=>trivial
   | exc _ _=>trivial
   | ok fm =>
    obtain⟨f2,m⟩:=fm;rw[e5] at R2;obtain⟨vm,Pw,x2,Ri,Na,dz⟩:=R2;clear dz;cases m<;>first|trivial|skip
    rename_i m;have Na:Dn (Fr h.length) Pw (.int m) vm:=Na;rw[Dn] at Na;subst Na;subst hob;dsimp only;have YY:=cI (p9.trans Ri) g8;have g9:=cI p9 g8;have l10:=Ri.length_le
    let h11:Hs:=Pw.set h.length (.ins c [("net",V1),("places",v2),("ends",vE),("whole",.int m)])
    let env:Env:=[some (.ref h.length),some v]
    have mt:∀(g:Hs) (x:Str) (js:List (Nat×Nat)) (jj:Nat),g[h.length]?=some (.ins c [("net",V1),("places",v2),("ends",vE)])->("net":Str)≠x->("places":Str)≠x->("ends":Str)≠x->js.lookup c=some jj->kR g (.ref h.length) x js=some jj:=λg x js jj hg n1 n2 n3 hj=>by
     unfold kR;dsimp only;rw[hg];dsimp only;rw[if_pos]
     ·exact hj
     ·rw[lookup_cons,lookup_cons,lookup_cons,List.lookup_nil];rw[beq_eq_false_iff_ne.mpr n1.symm,beq_eq_false_iff_ne.mpr n2.symm,beq_eq_false_iff_ne.mpr n3.symm];rfl
    have s1:gG Φ (.expr (.call ji (.cons (.var 0) (.cons (.var 1) .nil)))) env (h++[Ob.ins c []])=.ok (.nx env) h8:=by
     rw[gG,au (a:=.non) (h1:=h8)]
     ·rfl
     ·rw[aH,au (a:=[.ref h.length,v]) (h1:=h++[Ob.ins c []])]
      ·rw[hji];exact r1
      ·rw[aZ,au (bX rfl),aZ];rw[show bnd (bnd (aH Φ (.var 1) env) λd=>bnd (aZ Φ .nil env) λds=>ret (d::ds)) (λds=>ret (Val.ref h.length::ds)) (h++[Ob.ins c []])=_ from au (a:=[v]) (h1:=h++[Ob.ins c []]) (by rw[au (bX rfl),aZ];rfl)];rfl
    have eT:aH Φ (.mth (.var 0) "ties" jst .nil) env h8=.ok vt h9:=by rw[aH,au (bX rfl),jE (a:=jt) (mt h8 _ _ _ g8 (by decide) (by decide) (by decide) ht),aZ];exact x1
    have s2:gG Φ (.setF n (.var 0) "whole" (.mth (.var 0) "tree_rank" jsr (.cons (.mth (.var 0) "ties" jst .nil) .nil))) env h8=.ok (.nx env) h11:=by
     have e:aH Φ (.mth (.var 0) "tree_rank" jsr (.cons (.mth (.var 0) "ties" jst .nil) .nil)) env h8=.ok (.int m) Pw:=by
      rw[aH,au (bX rfl),jE (a:=jr) (mt h8 _ _ _ g8 (by decide) (by decide) (by decide) hr),aZ];rw[au (a:=[vt]) (h1:=h9)]
      ·exact x2
      ·rw[au eT,aZ];rfl
     rw[gG,au e,au (bX rfl)];exact pF hc YY (by decide:3<1000)
    have run:Cz c (ie Φ 2 (zO n ji jst jsr)) [v] h=.ok (.ref h.length) h11:=by
     show bnd (ie Φ 2 (zO n ji jst jsr) [.ref h.length,v]) _ (h++[Ob.ins c []])=_;rw[au (a:=.non) (h1:=h11)]
     ·rfl
     ·unfold ie
      rw[au (a:=Fl.nx env) (h1:=h11)]
      ·rfl
      ·show fN Φ (zO n ji jst jsr) env _=_;rw[fN,au s1];dsimp only;rw[fN,au s2];dsimp only;rw[fN];rfl
    have hpre:h<+:h11:=by refine List.prefix_iff_getElem?.mpr λi hi=>?_;show (Pw.set _ _)[i]?=_;rw[getElem?_set_ne (by omega)];exact List.prefix_iff_getElem?.mp ((p8.trans p9).trans Ri) i hi
    have YZ:h11[h.length]?=some (.ins c [("net",V1),("places",v2),("ends",vE),("whole",.int m)]):=getElem?_set_self (by omega);have dn:∀B:AP,(∀k,h.length<=k->B (some k))->Dn B h11 (.ob c ((["net","places","ends"]:List Str)++[("whole":Str)]) ([.tup [.tup [.int p,.int q'],.rl ts],y,.dc ((bU p q' es).map (·.1)) ((bU p q' es).map (·.2))]++[.int m])) (.ref h.length):=λB hB=>by
     rw[Dn];refine⟨h.length,_,rfl,hB _ (Nat.le_refl _),YZ,rfl,?_⟩;have dd:=aq.mono (A':=B) (h':=h11) (λo z=>?_) (λk o a g=>?_) _ _ (d8 (Fr (h.length+1)) λk hk=>hk)
     ·exact aq.app dd (aq.cons ((iJ _ _ rfl).mpr rfl) aq.nil)
     ·cases o with
      | none=>exact False.elim z
      | some k=>exact hB k (by have:h.length+1<=k:=z;omega)
     ·have a:h.length+1<=k:=a;show (Pw.set _ _)[k]?=_;rw[getElem?_set_ne (by omega)];exact cI (p9.trans Ri) g
    exact⟨_,h11,run,hpre,dn A λk hk=>u k hk,λ_=>dn _ λk hk=>hk⟩
end
end Hv
end
section
namespace Hv
open PySem L2
noncomputable def cnt(φ:Int->Int)(ps:List Int):Nat:=(eW [] (ps.map φ)).length
theorem fW{ps:List Int}{v:Int}:v∈eW [] (ps.map φ)↔∃x∈ps,φ x=v:=by
 rw[qI];simp
theorem DS{ps:List Int}(h:∀x∈ps,∀y∈ps,g x=g y->f x=f y):cnt f ps<=cnt g ps:=by
 classical
 let r:Int->Int:=λv=>if hv:∃x∈ps,f x=v then g (Classical.choose hv) else 0
 have hr:∀v∈eW [] (ps.map f),∃x∈ps,f x=v/\r v=g x:=λv hv=>by
  have e:=fW.mp hv;refine⟨Classical.choose e,(choose_spec e).1,(choose_spec e).2,?_⟩;show (if hv:∃x∈ps,f x=v then g (Classical.choose hv) else 0)=_;rw[dif_pos e]
 have nd:((eW [] (ps.map f)).map r).Nodup:=by
  have n0:=fP (ps.map f) [] nodup_nil;revert hr n0;generalize eW [] (ps.map f)=l;intro hr n0
  induction l with
  | nil=>exact nodup_nil
  | cons v l ih =>rw[nodup_cons] at n0;rw[map_cons,nodup_cons];refine⟨λhm=>?_,ih (λw hw=>hr w (mem_cons_of_mem _ hw)) n0.2⟩;obtain⟨w,hw,e⟩:=mem_map.mp hm;obtain⟨x,hx,e1,e2⟩:=hr v (mem_cons_self ..);obtain⟨y,hy,e3,e4⟩:=hr w (mem_cons_of_mem _ hw);have:f x=f y:=h x hx y hy (by rw[<-e2,<-e4,e]);exact n0.1 (by rw[<-e1,this,e3];exact hw)
 have:=dD nd (m:=eW [] (ps.map g)) λz hz=>by
  obtain⟨v,hv,rfl⟩:=mem_map.mp hz;obtain⟨x,hx,_,e2⟩:=hr v hv;rw[e2];exact fW.mpr ⟨x,hx,rfl⟩
 rw[length_map] at this;exact this
theorem My{ps:List Int}(h:∀x∈ps,∀y∈ps,f x=f y↔g x=g y):cnt f ps=cnt g ps :=
 Nat.le_antisymm (DS λx hx y hy=>(h x hx y hy).mpr) (DS λx hx y hy=>(h x hx y hy).mp)
theorem cnt_join{ps:List Int}{a b:Int}(ha:a∈ps)(hb:b∈ps)(ne:ψ a ≠ ψ b):cnt (λx=>if ψ x = ψ b then ψ a else ψ x) ps+1=cnt ψ ps:=by
 have m1:ψ b∈eW [] (ps.map ψ):=fW.mpr ⟨b,hb,rfl⟩;have n1:=fP (ps.map ψ) [] nodup_nil;have n2:=fP (ps.map λx=>if ψ x = ψ b then ψ a else ψ x) [] nodup_nil;have Y0:=dD n2 (m:=(eW [] (ps.map ψ)).erase (ψ b)) λv hv=>by
  obtain⟨x,hx,e⟩:=fW.mp hv;rw[List.Nodup.mem_erase_iff n1]
  by_cases c:ψ x = ψ b
  ·rw[if_pos c] at e;subst e;exact⟨ne,fW.mpr ⟨a,ha,rfl⟩⟩
  ·rw[if_neg c] at e;subst e;exact⟨c,fW.mpr ⟨x,hx,rfl⟩⟩
 have Y3:=dD (n1.erase (ψ b)) (m:=eW [] (ps.map λx=>if ψ x = ψ b then ψ a else ψ x)) λv hv=>by
  rw[List.Nodup.mem_erase_iff n1] at hv;obtain⟨x,hx,e⟩:=fW.mp hv.2;subst e;exact fW.mpr ⟨x,hx,by rw[if_neg hv.1]⟩
 rw[List.length_erase_of_mem m1] at Y0 Y3;have:=List.length_pos_of_mem m1;unfold cnt;omega
end Hv
end
section
namespace Hv
open PySem L2
theorem ly.fix{ps:List Int}(h:ly ps es φ){x:Int}(hx:x∈ps):φ (φ x) = φ x:=((h.way x hx).const φ h.same).symm
noncomputable def rk(φ:Int->Int)(ps:List Int):Nat:=(ps.filter λx=>!decide (φ x=x)).length
theorem zP(t:Int->Bool):∀ps:List Int,(ps.filter t).length+(ps.filter λx=>!t x).length=ps.length
 | []=>rfl
 | x::r=>by
  have ih:=zP t r;cases h:t x with
  | true=>rw[List.filter_cons_of_pos h,List.filter_cons_of_neg (by simp[h]),length_cons,length_cons];omega
  | false=>rw[List.filter_cons_of_neg (by simp[h]),List.filter_cons_of_pos (by simp[h]),length_cons,length_cons];omega
theorem uD{ps:List Int}(h:ly ps es φ)(hn:ps.Nodup):rk φ ps+cnt φ ps=ps.length:=by
 have e:cnt φ ps=(ps.filter λx=>decide (φ x=x)).length:=by
  unfold cnt;refine Nat.le_antisymm (dD (fP _ [] nodup_nil) λv hv=>?_) (dD (hn.filter _) λv hv=>?_)
  ·obtain⟨x,hx,rfl⟩:=fW.mp hv;exact mem_filter.mpr ⟨h.y9 x hx,decide_eq_true (h.fix hx)⟩
  ·obtain⟨a,b⟩:=mem_filter.mp hv;exact fW.mpr ⟨v,a,of_decide_eq_true b⟩
 rw[e];have:=zP (λx=>decide (φ x=x)) ps;unfold rk;omega
theorem Px{ps:List Int}{n:Nat}(h1:ly ps es φ)(h2:ly ps es ψ)(hn:ps.Nodup)(e:n+cnt ψ ps=ps.length):n=rk φ ps:=by
 have c:cnt φ ps=cnt ψ ps:=My λx hx y hy=>by rw[h1.iff hx hy,h2.iff hx hy]
 have:=uD h1 hn;omega
theorem ly.Bk{ps:List Int}(h:ly ps es f){a b:Int}(ha:a∈ps)(hb:b∈ps)(e:f a=f b):ly ps (es++[(a,b)]) f:=by
 have:=h.step ha hb (f a) (f b) (.inl ⟨rfl,rfl⟩);have ef:(λx=>if f x=f b then f a else f x)=f:=funext λx=>by
  split
  ·rename_i c;rw[c,e]
  ·rfl
 rwa [ef] at this
theorem wK:∀ks:List Int,sH (ks.map Sum.inl)=some ks
 | []=>rfl
 | x::r=>by
  have ih:=wK r;unfold sH at ih |-;rw[map_cons,ck,ih];rfl
end Hv
end
section
namespace Hv
open PySem L2
noncomputable def Nb(ps:List Int)(es:List (Int×Int)):Prop:=∀e∈es,e.1∈ps/\e.2∈ps
theorem DT{ps:List Int}:∀(es pre:List (Int×Int)) (φ:Int->Int),ly ps pre φ -> Nb ps es->∃ψ,ly ps (pre++es) ψ
 | [],pre,φ,h,_=>⟨φ,by rw[append_nil];exact h⟩
 | e::r,pre,φ,h,hi=>by
  obtain⟨h1,h2⟩:=hi e mem_cons_self;have st:=h.step h1 h2 (φ e.1) (φ e.2) (.inl ⟨rfl,rfl⟩);obtain⟨ψ,k⟩:=DT r (pre++[(e.1,e.2)]) _ st λx hx=>hi x (mem_cons_of_mem _ hx);exact⟨ψ,by rw[List.append_assoc] at k;exact k⟩
theorem DU{ps:List Int}(hi:Nb ps es):∃ψ,ly ps es ψ:=by
 obtain⟨ψ,h⟩:=DT es [] id (ly.start ps) hi;exact⟨ψ,h⟩
theorem ly.Mz{ps:List Int}(h:ly ps es φ)(hm:∀e,e∈es↔e∈es'):ly ps es' φ :=
 ⟨h.y9,λx hx=>(h.way x hx).mono λe he=>(hm e).mp he,λe he=>h.same e ((hm e).mpr he)⟩
open Classical in
noncomputable def tr(ps:List Int)(es:List (Int×Int)):Nat:=if h:∃φ,ly ps es φ then rk (Classical.choose h) ps else 0
theorem oH{ps:List Int}(h:ly ps es φ)(hn:ps.Nodup):tr ps es=rk φ ps:=by
 unfold tr;have h':∃φ,ly ps es φ:=⟨φ,h⟩;rw[dif_pos h'];have h2:=choose_spec h';exact Px h h2 hn (uD h2 hn)
theorem wL{ps:List Int}(hn:ps.Nodup)(hi:Nb ps es)(hm:∀e,e∈es↔e∈es'):tr ps es=tr ps es':=by
 obtain⟨φ,h⟩:=DU hi;rw[oH h hn,oH (h.Mz hm) hn]
open Classical in
theorem HG{ps:List Int}{a b:Int}(hn:ps.Nodup)(hi:Nb ps es)(ha:a∈ps)(hb:b∈ps)(hm:∀e,e∈es'↔e∈es\/e=(a,b)):tr ps es'=tr ps es+if Way es a b then 0 else 1:=by
 obtain⟨φ,h⟩:=DU hi;have hi':Nb ps (es++[(a,b)]):=λe he=>by
  rcases mem_append.mp he with he|he
  ·exact hi e he
  ·rw[mem_singleton.mp he];exact⟨ha,hb⟩
 rw[<-wL (es:=es++[(a,b)]) hn hi' (λe=>by rw[hm e];simp)]
 by_cases c:φ a = φ b
 ·rw[if_pos ((h.iff ha hb).mp c),oH (h.Bk ha hb c) hn,oH h hn,Nat.add_zero]
 ·rw[if_neg (λw=>c ((h.iff ha hb).mpr w))];have st:=h.step ha hb (φ a) (φ b) (.inl ⟨rfl,rfl⟩);have e1:=uD st hn;have e2:=uD h hn;have e3:=cnt_join ha hb c;rw[oH st hn,oH h hn];omega
end Hv
end
section
namespace K25
open PySem L2 Hv
noncomputable def top(i:Nat):Stmt:=PySem.Challenge.pw_linkorcut_k25_whole_ranks.main.body.getD i (.Pass ⟨0,0,0,0⟩)
noncomputable def cons:List (Str×Val):=[("THOUGHT",(.int (-1)))]
noncomputable def tb:Tb:=⟨3,["net","places","ends","whole"],[(0,"tree_rank",10),(1,"tree_rank",10),(2,"tree_rank",10),(0,"ties",12),(1,"ties",12),(2,"ties",12),(0,"rank",15),(1,"rank",16),(2,"rank",17),(0,"free",19),(1,"free",19),(2,"free",19),(0,"reach",18),(1,"reach",18),(2,"reach",18)],[("Rule","__init__",8)],[]⟩
noncomputable def bw(i:Nat):Stmt:=match top 9 with|.ClassDef (body:=b) ..=>b.getD i (.Pass ⟨0,0,0,0⟩)|_=>.Pass ⟨0,0,0,0⟩
noncomputable def qN(i:Nat):Stmt:=match top 10 with|.ClassDef (body:=b) ..=>b.getD i (.Pass ⟨0,0,0,0⟩)|_=>.Pass ⟨0,0,0,0⟩
noncomputable def iA(i:Nat):Stmt:=match top 11 with|.ClassDef (body:=b) ..=>b.getD i (.Pass ⟨0,0,0,0⟩)|_=>.Pass ⟨0,0,0,0⟩
noncomputable def jb:fM:=(.cons (.iff (.cmp .lt (.var 1) (.blt .len (.cons (.var 0) .nil))) (.cons (.ret (.idx (.var 0) (.var 1))) .nil) .nil) (.cons (.ret (.cst (.int 0))) .nil))
noncomputable def gf:fM:=(.cons (.asg (.one 3) (.cst (.int 1))) (.cons (.asg (.one 4) (.cst (.int 0))) (.cons (.iff (.cmp .gt (.bin .mod (.var 0) (.cst (.int 3))) (.cst (.int 0))) (.cons (.asg (.one 3) (.bin .add (.cst (.int 1)) (.bin .mod (.bin .fdiv (.var 0) (.cst (.int 3))) (.bin .pow (.cst (.int 10)) (.cst (.int 56)))))) (.cons (.asg (.one 4) (.bin .mod (.bin .fdiv (.var 1) (.cst (.int 66))) (.bin .pow (.cst (.int 10)) (.cst (.int 58))))) .nil)) .nil) (.cons (.ret (.bin .add (.bin .mul (.var 3) (.bin .mod (.bin .add (.bin .mul (.bin .add (.cst (.int 1)) (.bin .mod (.var 1) (.cst (.int 66)))) (.var 2)) (.var 0)) (.cst (.int 67)))) (.var 4))) .nil))))
noncomputable def kc:fM:=(.cons (.asg (.one 2) (.call 0 (.cons (.var 0) (.cons (.cst (.int 0)) .nil)))) (.cons (.asg (.one 3) (.call 0 (.cons (.var 0) (.cons (.cst (.int 1)) .nil)))) (.cons (.asg (.one 4) (.call 0 (.cons (.var 0) (.cons (.cst (.int 2)) .nil)))) (.cons (.asg (.one 5) (.bin .add (.cst (.int 2)) (.bin .mod (.var 4) (.cst (.int 7))))) (.cons (.asg (.one 6) (.comp ["_law_k","_law_two_here","_law_one"] [none,some 3,some 2] (.one 0) .range (.cons (.var 5) .nil) .no (.call 1 (.cons (.var 1) (.cons (.var 2) (.cons (.var 0) .nil)))))) (.cons (.asg (.one 7) (.lst .nil)) (.cons (.for (.tup [8,9]) .enum (.cons (.var 1) .nil) (.cons (.asg (.one 10) (.idx (.var 6) (.bin .mod (.var 9) (.var 5)))) (.cons (.asg (.one 11) (.idx (.var 6) (.bin .mod (.bin .fdiv (.var 9) (.var 5)) (.var 5)))) (.cons (.expr (.met .append (.var 7) (.cons (.tup (.cons (.call 1 (.cons (.var 2) (.cons (.var 3) (.cons (.var 8) .nil)))) (.cons (.blt .min (.cons (.var 10) (.cons (.var 11) .nil))) (.cons (.blt .max (.cons (.var 10) (.cons (.var 11) .nil))) .nil)))) .nil))) .nil)))) (.cons (.asg (.one 12) (.blt .sorted (.cons (.lst (.cons (.idx (.var 6) (.cst (.int 0))) (.cons (.idx (.var 6) (.bin .sub (.cst (.int 1)) (.blt .int (.cons (.cmp .eq (.bin .mod (.bin .fdiv (.var 4) (.cst (.int 7))) (.cst (.int 8))) (.cst (.int 3))) .nil)))) .nil))) .nil))) (.cons (.ret (.tup (.cons (.tup (.cons (.idx (.var 12) (.cst (.int 0))) (.cons (.idx (.var 12) (.cst (.int 1))) .nil))) (.cons (.blt .sorted (.cons (.var 7) .nil)) .nil)))) .nil)))))))))
noncomputable def cK:fM:=(.cons (.asg (.one 2) (.lst .nil)) (.cons (.for (.tup [3,4,5]) .seq (.cons (.var 1) .nil) (.cons (.expr (.met .append (.var 2) (.cons (.tup (.cons (.var 3) (.cons (.blt .min (.cons (.var 4) (.cons (.var 5) .nil))) (.cons (.blt .max (.cons (.var 4) (.cons (.var 5) .nil))) .nil)))) .nil))) .nil)) (.cons (.ret (.tup (.cons (.tup (.cons (.blt .min (.cons (.idx (.var 0) (.cst (.int 0))) (.cons (.idx (.var 0) (.cst (.int 1))) .nil))) (.cons (.blt .max (.cons (.idx (.var 0) (.cst (.int 0))) (.cons (.idx (.var 0) (.cst (.int 1))) .nil))) .nil))) (.cons (.blt .sorted (.cons (.var 2) .nil)) .nil)))) .nil)))
noncomputable def gS:fM:=(.cons (.ret (.call 3 (.cons (.idx (.var 0) (.cst (.int 0))) (.cons (.idx (.var 0) (.cst (.int 1))) .nil)))) .nil)
noncomputable def fj:fM:=(.cons (.asg (.one 1) (.blt .list (.cons (.idx (.var 0) (.cst (.int 0))) .nil))) (.cons (.for (.one 2) .seq (.cons (.idx (.var 0) (.cst (.int 1))) .nil) (.cons (.expr (.met .extend (.var 1) (.cons (.slc (.var 2) (.cst (.int 1)) .no) .nil))) .nil)) (.cons (.ret (.sset (.var 1))) .nil)))
noncomputable def uE:fM:=(.cons (.setF 3 (.var 0) "net" (.call 4 (.cons (.var 1) .nil))) (.cons (.setF 3 (.var 0) "places" (.call 5 (.cons (.fld 3 (.var 0) "net") .nil))) (.cons (.setF 3 (.var 0) "ends" (.dct1 (.con "THOUGHT" (.int (-1))) (.idx (.fld 3 (.var 0) "net") (.cst (.int 0))))) (.cons (.for (.tup [2,3,4]) .seq (.cons (.idx (.fld 3 (.var 0) "net") (.cst (.int 1))) .nil) (.cons (.gO (.fld 3 (.var 0) "ends") (.var 2) (.tup (.cons (.var 3) (.cons (.var 4) .nil)))) .nil)) .nil))))
noncomputable def lO:fM:=(.cons (.setF 3 (.var 0) "net" (.call 4 (.cons (.var 1) .nil))) (.cons (.setF 3 (.var 0) "places" (.call 5 (.cons (.fld 3 (.var 0) "net") .nil))) (.cons (.setF 3 (.var 0) "ends" (.dct1 (.con "THOUGHT" (.int (-1))) (.idx (.fld 3 (.var 0) "net") (.cst (.int 0))))) (.cons (.for (.tup [2,3,4]) .seq (.cons (.idx (.fld 3 (.var 0) "net") (.cst (.int 1))) .nil) (.cons (.gO (.fld 3 (.var 0) "ends") (.var 2) (.tup (.cons (.var 3) (.cons (.var 4) .nil)))) .nil)) .nil))))
noncomputable def fS:fM:=(.cons (.setF 3 (.var 0) "net" (.call 4 (.cons (.var 1) .nil))) (.cons (.setF 3 (.var 0) "places" (.call 5 (.cons (.fld 3 (.var 0) "net") .nil))) (.cons (.setF 3 (.var 0) "ends" (.dct1 (.con "THOUGHT" (.int (-1))) (.idx (.fld 3 (.var 0) "net") (.cst (.int 0))))) (.cons (.for (.tup [2,3,4]) .seq (.cons (.idx (.fld 3 (.var 0) "net") (.cst (.int 1))) .nil) (.cons (.gO (.fld 3 (.var 0) "ends") (.var 2) (.tup (.cons (.var 3) (.cons (.var 4) .nil)))) .nil)) .nil))))
noncomputable def fk:fM:=(.cons (.asg (.one 2) .dct0) (.cons (.for (.one 3) .seq (.cons (.var 0) .nil) (.cons (.gO (.var 2) (.var 3) (.var 3)) .nil)) (.cons (.for (.tup [4,5]) .seq (.cons (.var 1) .nil) (.cons (.asg (.one 6) (.blt .min (.cons (.idx (.var 2) (.var 4)) (.cons (.idx (.var 2) (.var 5)) .nil)))) (.cons (.asg (.one 7) (.blt .max (.cons (.idx (.var 2) (.var 4)) (.cons (.idx (.var 2) (.var 5)) .nil)))) (.cons (.for (.one 3) .seq (.cons (.var 0) .nil) (.cons (.iff (.cmp .eq (.idx (.var 2) (.var 3)) (.var 7)) (.cons (.gO (.var 2) (.var 3) (.var 6)) .nil) .nil) .nil)) .nil)))) (.cons (.ret (.var 2)) .nil))))
noncomputable def cg:fM:=(.cons (.asg (.one 2) (.call 9 (.cons (.fld 3 (.var 0) "places") (.cons (.comp ["tie","self"] [none,some 0] (.one 0) .seq (.cons (.var 1) .nil) .no (.idx (.fld 3 (.var 1) "ends") (.var 0))) .nil)))) (.cons (.ret (.blt .len (.cons (.comp ["place","firsts"] [none,some 2] (.one 0) .seq (.cons (.fld 3 (.var 0) "places") .nil) (.cmp .ne (.idx (.var 1) (.var 0)) (.var 0)) (.var 0)) .nil))) .nil))
noncomputable def gg:fM:=(.cons (.ret (.comp ["tie"] [none] (.one 0) .seq (.cons (.idx (.var 0) (.cst (.int 1))) .nil) .no (.idx (.var 0) (.cst (.int 0))))) .nil)
noncomputable def fu:fM:=(.cons (.ret (.bin .add (.lst (.cons (.con "THOUGHT" (.int (-1))) .nil)) (.call 11 (.cons (.fld 3 (.var 0) "net") .nil)))) .nil)
noncomputable def nT:fM:=(.cons (.expr (.call 8 (.cons (.var 0) (.cons (.var 1) .nil)))) (.cons (.setF 3 (.var 0) "whole" (.mth (.var 0) "tree_rank" [(0,10),(1,10),(2,10)] (.cons (.mth (.var 0) "ties" [(0,12),(1,12),(2,12)] .nil) .nil))) .nil))
noncomputable def fT:fM:=(.cons (.iff (.cmp .eq (.var 0) (.cst (.int 1))) (.cons (.ret (.call 7 (.cons (.var 1) .nil))) .nil) .nil) (.cons (.iff (.cmp .eq (.var 0) (.cst (.int 2))) (.cons (.ret (.call 13 (.cons (.var 1) .nil))) .nil) .nil) (.cons (.ret (.call 6 (.cons (.var 1) .nil))) .nil)))
noncomputable def fy:fM:=(.cons (.ret (.blt .len (.cons (.var 1) .nil))) .nil)
noncomputable def cL:fM:=(.cons (.ret (.mth (.var 0) "tree_rank" [(0,10),(1,10),(2,10)] (.cons (.var 1) .nil))) .nil)
noncomputable def cY:fM:=(.cons (.asg (.one 2) (.comp ["tie","row"] [none,some 1] (.one 0) .seq (.cons (.mth (.var 0) "ties" [(0,12),(1,12),(2,12)] .nil) .nil) (.cmp .nin (.var 0) (.var 1)) (.var 0))) (.cons (.ret (.bin .add (.bin .sub (.blt .len (.cons (.var 1) .nil)) (.fld 3 (.var 0) "whole")) (.mth (.var 0) "tree_rank" [(0,10),(1,10),(2,10)] (.cons (.var 2) .nil)))) .nil))
noncomputable def dX:fM:=(.cons (.asg (.one 2) (.mth (.var 0) "rank" [(0,15),(1,16),(2,17)] (.cons (.var 1) .nil))) (.cons (.ret (.comp ["tie","row","rank","self"] [none,some 1,some 2,some 0] (.one 0) .seq (.cons (.mth (.var 0) "ties" [(0,12),(1,12),(2,12)] .nil) .nil) (.or (.cmp .y9 (.var 0) (.var 1)) (.cmp .le (.mth (.var 3) "rank" [(0,15),(1,16),(2,17)] (.cons (.bin .add (.var 1) (.lst (.cons (.var 0) .nil))) .nil)) (.var 2))) (.var 0))) .nil))
noncomputable def fz:fM:=(.cons (.ret (.cmp .eq (.mth (.var 0) "rank" [(0,15),(1,16),(2,17)] (.cons (.var 1) .nil)) (.blt .len (.cons (.var 1) .nil)))) .nil)
noncomputable def jc:fM:=(.cons (.ret (.blt .any (.cons (.comp ["_law_name","_law_rule_here","_law_fewer"] [none,some 0,some 1] (.one 0) .seq (.cons (.var 2) .nil) (.cmp .nin (.var 0) (.var 2)) (.mth (.var 1) "free" [(0,19),(1,19),(2,19)] (.cons (.bin .add (.var 2) (.lst (.cons (.var 0) .nil))) .nil))) .nil))) .nil)
noncomputable def gT:fM:=(.cons (.ret (.and (.blt (.isin "int") (.cons (.var 0) .nil)) (.not (.blt (.isin "bool") (.cons (.var 0) .nil))))) .nil)
noncomputable def gh:fM:=(.cons (.asg (.one 4) (.bin .add (.var 1) (.comp ["_law_each","_law_one"] [none,some 1] (.one 0) .seq (.cons (.var 2) .nil) (.cmp .nin (.var 0) (.var 1)) (.var 0)))) (.cons (.asg (.one 5) (.comp ["_law_each","_law_other"] [none,some 2] (.one 0) .seq (.cons (.var 1) .nil) (.cmp .y9 (.var 0) (.var 1)) (.var 0))) (.cons (.asg (.one 6) (.comp ["_law_picked","_law_rule_here"] [none,some 0] (.one 0) .seq (.cons (.lst (.cons (.var 1) (.cons (.var 2) (.cons (.var 4) (.cons (.var 5) .nil))))) .nil) .no (.mth (.var 1) "rank" [(0,15),(1,16),(2,17)] (.cons (.blt .list (.cons (.var 0) .nil)) .nil)))) (.cons (.iff (.or (.not (.blt .all (.cons (.comp ["_law_size"] [none] (.one 0) .seq (.cons (.var 6) .nil) .no (.call 21 (.cons (.var 0) .nil))) .nil))) (.not (.chn .le .le (.cst (.int 0)) (.idx (.var 6) (.cst (.int 0))) (.blt .len (.cons (.var 1) .nil))))) (.cons (.ret (.cst (.bl false))) .nil) .nil) (.cons (.iff (.or (.cmp .ne (.mth (.var 0) "free" [(0,19),(1,19),(2,19)] (.cons (.blt .list (.cons (.var 1) .nil)) .nil)) (.cmp .eq (.idx (.var 6) (.cst (.int 0))) (.blt .len (.cons (.var 1) .nil)))) (.cmp .ne (.mth (.var 0) "free" [(0,19),(1,19),(2,19)] (.cons (.lst (.cons (.var 3) .nil)) .nil)) (.cmp .eq (.mth (.var 0) "rank" [(0,15),(1,16),(2,17)] (.cons (.lst (.cons (.var 3) .nil)) .nil)) (.cst (.int 1))))) (.cons (.ret (.cst (.bl false))) .nil) .nil) (.cons (.iff (.cmp .lt (.bin .add (.idx (.var 6) (.cst (.int 0))) (.idx (.var 6) (.cst (.int 1)))) (.bin .add (.idx (.var 6) (.cst (.int 2))) (.idx (.var 6) (.cst (.int 3))))) (.cons (.ret (.cst (.bl false))) .nil) .nil) (.cons (.asg (.one 7) (.mth (.var 0) "reach" [(0,18),(1,18),(2,18)] (.cons (.blt .list (.cons (.var 1) .nil)) .nil))) (.cons (.iff (.or (.cmp .ne (.mth (.var 0) "rank" [(0,15),(1,16),(2,17)] (.cons (.blt .list (.cons (.var 7) .nil)) .nil)) (.idx (.var 6) (.cst (.int 0)))) (.cmp .ne (.mth (.var 0) "reach" [(0,18),(1,18),(2,18)] (.cons (.blt .list (.cons (.var 7) .nil)) .nil)) (.var 7))) (.cons (.ret (.cst (.bl false))) .nil) .nil) (.cons (.iff (.cmp .nin (.var 3) (.var 1)) (.cons (.iff (.not (.chn .le .le (.idx (.var 6) (.cst (.int 0))) (.mth (.var 0) "rank" [(0,15),(1,16),(2,17)] (.cons (.bin .add (.var 1) (.lst (.cons (.var 3) .nil))) .nil)) (.bin .add (.idx (.var 6) (.cst (.int 0))) (.cst (.int 1))))) (.cons (.ret (.cst (.bl false))) .nil) .nil) (.cons (.iff (.and (.mth (.var 0) "free" [(0,19),(1,19),(2,19)] (.cons (.bin .add (.var 1) (.lst (.cons (.var 3) .nil))) .nil)) (.not (.mth (.var 0) "free" [(0,19),(1,19),(2,19)] (.cons (.blt .list (.cons (.var 1) .nil)) .nil)))) (.cons (.ret (.cst (.bl false))) .nil) .nil) .nil)) .nil) (.cons (.iff (.and (.mth (.var 0) "free" [(0,19),(1,19),(2,19)] (.cons (.blt .list (.cons (.var 1) .nil)) .nil)) (.mth (.var 0) "free" [(0,19),(1,19),(2,19)] (.cons (.blt .list (.cons (.var 2) .nil)) .nil))) (.cons (.iff (.cmp .lt (.blt .len (.cons (.var 1) .nil)) (.blt .len (.cons (.var 2) .nil))) (.cons (.ret (.call 20 (.cons (.var 0) (.cons (.var 1) (.cons (.var 2) .nil))))) .nil) .nil) (.cons (.iff (.cmp .lt (.blt .len (.cons (.var 2) .nil)) (.blt .len (.cons (.var 1) .nil))) (.cons (.ret (.call 20 (.cons (.var 0) (.cons (.var 2) (.cons (.var 1) .nil))))) .nil) .nil) .nil)) .nil) (.cons (.ret (.cst (.bl true))) .nil)))))))))))
noncomputable def bQ:fM:=(.cons (.asg (.one 2) (.neg (.cst (.int 1)))) (.cons (.asg (.one 3) (.lst .nil)) (.cons (.for (.one 4) .range (.cons (.var 1) .nil) (.cons (.asg (.one 2) (.bin .add (.bin .add (.var 2) (.cst (.int 1))) (.bin .mod (.var 0) (.bin .pow (.cst (.int 10)) (.cst (.int 57)))))) (.cons (.asg (.one 0) (.bin .fdiv (.var 0) (.bin .pow (.cst (.int 10)) (.cst (.int 57))))) (.cons (.expr (.met .append (.var 3) (.cons (.var 2) .nil))) .nil)))) (.cons (.ret (.var 3)) .nil))))
noncomputable def fB:fM:=(.cons (.asg (.one 2) (.call 0 (.cons (.var 0) (.cons (.cst (.int 2)) .nil)))) (.cons (.asg (.one 3) (.bin .add (.cst (.int 2)) (.bin .mod (.var 2) (.cst (.int 7))))) (.cons (.asg (.one 4) (.call 23 (.cons (.call 0 (.cons (.var 0) (.cons (.cst (.int 1)) .nil))) (.cons (.var 3) .nil)))) (.cons (.asg (.one 5) (.bin .mod (.bin .fdiv (.var 2) (.cst (.int 7))) (.var 3))) (.cons (.asg (.one 6) (.bin .mod (.bin .fdiv (.bin .fdiv (.var 2) (.cst (.int 7))) (.var 3)) (.var 3))) (.cons (.asg (.one 7) (.call 23 (.cons (.call 0 (.cons (.var 0) (.cons (.cst (.int 0)) .nil))) (.cons (.bin .mod (.bin .fdiv (.bin .fdiv (.bin .fdiv (.var 2) (.cst (.int 7))) (.var 3)) (.var 3)) (.bin .add (.var 1) (.cst (.int 1)))) .nil)))) (.cons (.asg (.one 8) (.call 0 (.cons (.var 0) (.cons (.cst (.int 3)) .nil)))) (.cons (.asg (.one 9) (.lst .nil)) (.cons (.for (.one 10) .seq (.cons (.var 7) .nil) (.cons (.asg (.one 11) (.idx (.var 4) (.bin .mod (.var 8) (.var 3)))) (.cons (.asg (.one 12) (.idx (.var 4) (.bin .mod (.bin .fdiv (.var 8) (.var 3)) (.var 3)))) (.cons (.expr (.met .append (.var 9) (.cons (.tup (.cons (.var 10) (.cons (.blt .min (.cons (.var 11) (.cons (.var 12) .nil))) (.cons (.blt .max (.cons (.var 11) (.cons (.var 12) .nil))) .nil)))) .nil))) (.cons (.asg (.one 8) (.bin .fdiv (.bin .fdiv (.var 8) (.var 3)) (.var 3))) .nil))))) (.cons (.ret (.tup (.cons (.tup (.cons (.idx (.var 4) (.blt .min (.cons (.var 5) (.cons (.var 6) .nil)))) (.cons (.idx (.var 4) (.blt .max (.cons (.var 5) (.cons (.var 6) .nil)))) .nil))) (.cons (.var 9) .nil)))) .nil))))))))))
noncomputable def kg:fM:=(.cons (.asg (.one 2) (.lst .nil)) (.cons (.for (.one 3) .seq (.cons (.var 0) .nil) (.cons (.iff (.cmp .eq (.bin .mod (.var 1) (.cst (.int 2))) (.cst (.int 1))) (.cons (.expr (.met .append (.var 2) (.cons (.var 3) .nil))) .nil) .nil) (.cons (.asg (.one 1) (.bin .fdiv (.var 1) (.cst (.int 2)))) .nil))) (.cons (.ret (.var 2)) .nil)))
noncomputable def kh:fM:=(.cons (.asg (.one 1) (.bin .fdiv (.call 0 (.cons (.var 0) (.cons (.cst (.int 2)) .nil))) (.cst (.int 56)))) (.cons (.asg (.one 2) (.call 2 (.cons (.var 0) (.cons (.slc (.var 0) (.cst (.int 3)) (.bin .add (.cst (.int 3)) (.bin .mod (.var 1) (.cst (.int 9))))) .nil)))) (.cons (.iff (.and (.cmp .eq (.bin .mod (.blt .len (.cons (.var 0) .nil)) (.cst (.int 2))) (.cst (.int 0))) (.cmp .ge (.call 0 (.cons (.var 0) (.cons (.cst (.int 3)) .nil))) (.bin .pow (.cst (.int 10)) (.cst (.int 18))))) (.cons (.asg (.one 1) (.call 0 (.cons (.var 0) (.cons (.cst (.int 4)) .nil)))) (.cons (.asg (.one 2) (.call 24 (.cons (.var 0) (.cons (.cst (.int 12)) .nil)))) .nil)) .nil) (.cons (.asg (.one 3) (.call 14 (.cons (.bin .mod (.bin .fdiv (.var 1) (.cst (.int 9))) (.cst (.int 3))) (.cons (.var 2) .nil)))) (.cons (.asg (.one 4) (.blt .sorted (.cons (.bin .add (.lst (.cons (.neg (.cst (.int 1))) .nil)) (.comp ["_law_each"] [none] (.one 0) .seq (.cons (.idx (.var 2) (.cst (.int 1))) .nil) .no (.idx (.var 0) (.cst (.int 0))))) .nil))) (.cons (.asg (.one 5) (.lst .nil)) (.cons (.for (.one 6) .seq (.cons (.slc (.var 0) (.cst (.int 11)) (.cst (.int 37))) .nil) (.cons (.asg (.one 7) (.call 25 (.cons (.var 4) (.cons (.bin .fdiv (.var 6) (.cst (.int 16))) .nil)))) (.cons (.iff (.cmp .eq (.bin .mod (.var 6) (.cst (.int 2))) (.cst (.int 1))) (.cons (.asg (.one 7) (.call 25 (.cons (.var 7) (.cons (.bin .fdiv (.var 6) (.cst (.int 7))) .nil)))) .nil) .nil) (.cons (.iff (.not (.call 22 (.cons (.var 3) (.cons (.var 5) (.cons (.var 7) (.cons (.idx (.var 4) (.bin .mod (.bin .fdiv (.var 6) (.cst (.int 2))) (.blt .len (.cons (.var 4) .nil)))) .nil)))))) (.cons (.ret (.cst (.bl false))) .nil) .nil) (.cons (.asg (.one 5) (.var 7)) .nil))))) (.cons (.ret (.call 22 (.cons (.var 3) (.cons (.var 5) (.cons (.lst .nil) (.cons (.idx (.var 4) (.bin .mod (.bin .fdiv (.var 1) (.cst (.int 27))) (.blt .len (.cons (.var 4) .nil)))) .nil)))))) .nil))))))))
noncomputable def Py:List Row:=[]
noncomputable def wM:List Val->M Val:=ie (look Py) 2 jb
noncomputable def Pz:List Row:=Py++[(("_law_cell":Str),2,wM)]
noncomputable def qO:List Val->M Val:=ie (look Pz) 5 gf
noncomputable def PB:List Row:=Pz++[(("_law_number":Str),3,qO)]
noncomputable def zQ:List Val->M Val:=ie (look PB) 13 kc
noncomputable def PC:List Row:=PB++[(("_law_net":Str),2,zQ)]
noncomputable def ki:List Val->M Val:=ie (look PC) 6 cK
noncomputable def PD:List Row:=PC++[(("put_in_order":Str),2,ki)]
noncomputable def sX:List Val->M Val:=ie (look PD) 1 gS
noncomputable def PF:List Row:=PD++[(("own_net":Str),1,sX)]
noncomputable def oJ:List Val->M Val:=ie (look PF) 3 fj
noncomputable def PJ:List Row:=PF++[(("places_of":Str),1,oJ)]
noncomputable def DV:List Val->M Val:=Cz 0 (ie (look PJ) 5 uE)
noncomputable def PK:List Row:=PJ++[(("Rule":Str),1,DV)]
noncomputable def sY:List Val->M Val:=Cz 1 (ie (look PK) 5 lO)
noncomputable def PM:List Row:=PK++[(("ByTrees":Str),1,sY)]
noncomputable def jK:List Val->M Val:=ie (look PM) 5 fS
noncomputable def PN:List Row:=PM++[(("Rule.__init__":Str),1002,jK)]
noncomputable def oK:List Val->M Val:=ie (look PN) 8 fk
noncomputable def DW:List Row:=PN++[(("firsts_by":Str),2,oK)]
noncomputable def jd:List Val->M Val:=ie (look DW) 3 cg
noncomputable def DX:List Row:=DW++[(("Rule.tree_rank":Str),1002,jd)]
noncomputable def qP:List Val->M Val:=ie (look DX) 1 gg
noncomputable def DY:List Row:=DX++[(("names_of":Str),1,qP)]
noncomputable def oM:List Val->M Val:=ie (look DY) 1 fu
noncomputable def DZ:List Row:=DY++[(("Rule.ties":Str),1001,oM)]
noncomputable def wN:List Val->M Val:=Cz 2 (ie (look DZ) 2 nT)
noncomputable def D3:List Row:=DZ++[(("ByRest":Str),1,wN)]
noncomputable def wO:List Val->M Val:=ie (look D3) 2 fT
noncomputable def D4:List Row:=D3++[(("_law_rule":Str),2,wO)]
noncomputable def oN:List Val->M Val:=ie (look D4) 2 fy
noncomputable def D5:List Row:=D4++[(("Rule.rank":Str),1002,oN)]
noncomputable def kj:List Val->M Val:=ie (look D5) 2 cL
noncomputable def D6:List Row:=D5++[(("ByTrees.rank":Str),1002,kj)]
noncomputable def lz:List Val->M Val:=ie (look D6) 3 cY
noncomputable def D7:List Row:=D6++[(("ByRest.rank":Str),1002,lz)]
noncomputable def mJ:List Val->M Val:=ie (look D7) 3 dX
noncomputable def D8:List Row:=D7++[(("Rule.reach":Str),1002,mJ)]
noncomputable def oO:List Val->M Val:=ie (look D8) 2 fz
noncomputable def D9:List Row:=D8++[(("Rule.free":Str),1002,oO)]
noncomputable def wQ:List Val->M Val:=ie (look D9) 3 jc
noncomputable def Ea:List Row:=D9++[(("_law_grow":Str),3,wQ)]
noncomputable def sZ:List Val->M Val:=ie (look Ea) 1 gT
noncomputable def Eb:List Row:=Ea++[(("_law_whole":Str),1,sZ)]
noncomputable def zR:List Val->M Val:=ie (look Eb) 8 gh
noncomputable def Ec:List Row:=Eb++[(("_law_two":Str),4,zR)]
noncomputable def jL:List Val->M Val:=ie (look Ec) 5 bQ
noncomputable def Ed:List Row:=Ec++[(("_law_gap_numbers":Str),2,jL)]
noncomputable def oQ:List Val->M Val:=ie (look Ed) 13 fB
noncomputable def Ef:List Row:=Ed++[(("_law_any_net":Str),2,oQ)]
noncomputable def zS:List Val->M Val:=ie (look Ef) 4 kg
noncomputable def Eg:List Row:=Ef++[(("_law_row":Str),2,zS)]
noncomputable def wR:List Val->M Val:=ie (look Eg) 8 kh
noncomputable def Tc:List Row:=Eg++[(("law":Str),1,wR)]
noncomputable def Td:List bg:=[]
noncomputable def bH:bg:=e9 (ai Td) 2 jb
noncomputable def Te:List bg:=Td++[bH]
noncomputable def gU:bg:=e9 (ai Te) 5 gf
noncomputable def PR:List bg:=Te++[gU]
noncomputable def mK:bg:=e9 (ai PR) 13 kc
noncomputable def Tf:List bg:=PR++[mK]
noncomputable def cZ:bg:=e9 (ai Tf) 6 cK
noncomputable def Rj:List bg:=Tf++[cZ]
noncomputable def cR:bg:=e9 (ai Rj) 1 gS
noncomputable def Tg:List bg:=Rj++[cR]
noncomputable def cj:bg:=e9 (ai Tg) 3 fj
noncomputable def PU:List bg:=Tg++[cj]
noncomputable def uF:bg:=j9 (ai PU) 0 4 5
noncomputable def PX:List bg:=PU++[uF]
noncomputable def kO:bg:=j9 (ai PX) 1 4 5
noncomputable def PY:List bg:=PX++[kO]
noncomputable def gp:bg:=λ_=>.no
noncomputable def Th:List bg:=PY++[gp]
noncomputable def eL:bg:=e9 (ai Th) 8 fk
noncomputable def HH:List bg:=Th++[eL]
noncomputable def aS:bg:=e9 (ai HH) 3 cg
noncomputable def MA:List bg:=HH++[aS]
noncomputable def gW:bg:=e9 (ai MA) 1 gg
noncomputable def HJ:List bg:=MA++[gW]
noncomputable def cH:bg:=e9 (ai HJ) 1 fu
noncomputable def Bm:List bg:=HJ++[cH]
noncomputable def mL:bg:=sW (ai PY) (ai Bm) 2 4 5 12 10
noncomputable def Bo:List bg:=Bm++[mL]
noncomputable def gX:bg:=e9 (ai Bo) 2 fT
noncomputable def MB:List bg:=Bo++[gX]
noncomputable def dg:bg:=e9 (ai MB) 2 fy
noncomputable def HK:List bg:=MB++[dg]
noncomputable def bV:bg:=e9 (ai HK) 2 cL
noncomputable def Eh:List bg:=HK++[bV]
noncomputable def bP:bg:=e9 (ai Eh) 3 cY
noncomputable def uG:List bg:=Eh++[bP]
noncomputable def fD:bg:=e9 (ai uG) 3 dX
noncomputable def yE:List bg:=uG++[fD]
noncomputable def dh:bg:=e9 (ai yE) 2 fz
noncomputable def HL:List bg:=yE++[dh]
noncomputable def ko:bg:=e9 (ai HL) 3 jc
noncomputable def MC:List bg:=HL++[ko]
noncomputable def je:bg:=e9 (ai MC) 1 gT
noncomputable def dH:List bg:=MC++[je]
noncomputable def mO:bg:=e9 (ai dH) 8 gh
noncomputable def rJ:List bg:=dH++[mO]
noncomputable def cM:bg:=e9 (ai rJ) 5 bQ
noncomputable def Ei:List bg:=rJ++[cM]
noncomputable def gi:bg:=e9 (ai Ei) 13 fB
noncomputable def MD:List bg:=Ei++[gi]
noncomputable def mP:bg:=e9 (ai MD) 4 kg
noncomputable def di:List bg:=MD++[mP]
noncomputable def zT:bg:=e9 (ai di) 8 kh
noncomputable def Ti:List bg:=di++[zT]
theorem oX:ai PR 0=bH:=rfl
theorem iB:ai PR 1=gU:=rfl
theorem jf:ai Rj 3=cZ:=rfl
theorem oY:ai PU 4=cR:=rfl
theorem mQ:ai PU 5=cj:=rfl
theorem lQ:ai PX 4=cR:=rfl
theorem kq:ai PX 5=cj:=rfl
theorem iM:ai PY 4=cR:=rfl
theorem gY:ai PY 5=cj:=rfl
theorem gE:ai HH 9=eL:=rfl
theorem jP:ai HJ 11=gW:=rfl
theorem tu:ai Bm 8=gp:=rfl
theorem iN:ai Bm 10=aS:=rfl
theorem kW:ai Bm 12=cH:=rfl
theorem qQ:ai Bo 6=uF:=rfl
theorem mR:ai Bo 7=kO:=rfl
theorem nU:ai Bo 13=mL:=rfl
theorem fU:ai HK 10=aS:=rfl
theorem gj:ai Eh 10=aS:=rfl
theorem iO:ai Eh 12=cH:=rfl
theorem jg:ai uG 12=cH:=rfl
theorem eO:ai uG 15=dg:=rfl
theorem dj:ai uG 16=bV:=rfl
theorem dM:ai uG 17=bP:=rfl
theorem jF:ai yE 15=dg:=rfl
theorem iu:ai yE 16=bV:=rfl
theorem iP:ai yE 17=bP:=rfl
theorem kX:ai HL 19=dh:=rfl
theorem lR:ai dH 15=dg:=rfl
theorem jQ:ai dH 16=bV:=rfl
theorem kr:ai dH 17=bP:=rfl
theorem gu:ai dH 18=fD:=rfl
theorem bW:ai dH 19=dh:=rfl
theorem jM:ai dH 20=ko:=rfl
theorem nV:ai dH 21=je:=rfl
theorem dN:ai Ei 0=bH:=rfl
theorem dm:ai Ei 23=cM:=rfl
theorem iQ:ai di 0=bH:=rfl
theorem uH:ai di 2=mK:=rfl
theorem rK:ai di 14=gX:=rfl
theorem mT:ai di 22=mO:=rfl
theorem nW:ai di 24=gi:=rfl
theorem mU:ai di 25=mP:=rfl
theorem i0:dS Py Td:=Dr
theorem Ej:Imp wM bH:=bM (aC i0) (by decide +kernel)
theorem i1:dS Pz Te:=aD i0 Ej
theorem yF:Imp qO gU:=bM (aC i1) (by decide +kernel)
theorem i2:dS PB PR:=aD i1 yF
theorem HM:Imp zQ mK:=bM (aC i2) (by decide +kernel)
theorem i3:dS PC Tf:=aD i2 HM
theorem qR:Imp ki cZ:=bM (aC i3) (by decide +kernel)
theorem i4:dS PD Rj:=aD i3 qR
theorem Bp:Imp sX cR:=bM (aC i4) (by decide +kernel)
theorem i5:dS PF Tg:=aD i4 Bp
theorem wU:Imp oJ cj:=bM (aC i5) (by decide +kernel)
theorem i6:dS PJ PU:=aD i5 wU
theorem ME:Imp DV uF:=wJ (n:=3) (by decide) (aC i6)
theorem i7:dS PK PX:=aD i6 ME
theorem Bq:Imp sY kO:=wJ (n:=3) (by decide) (aC i7)
theorem i8:dS PM PY:=aD i7 Bq
theorem oZ:Imp jK gp:=DQ
theorem i9:dS PN Th:=aD i8 oZ
theorem wV:Imp oK eL:=bM (aC i9) (by decide +kernel)
theorem WX:dS DW HH:=aD i9 wV
theorem nX:Imp jd aS:=bM (aC WX) (by decide +kernel)
theorem WY:dS DX MA:=aD WX nX
theorem yG:Imp qP gW:=bM (aC WY) (by decide +kernel)
theorem i12:dS DY HJ:=aD WY yG
theorem wW:Imp oM cH:=bM (aC i12) (by decide +kernel)
theorem WZ:dS DZ Bm:=aD i12 wW
theorem Ek:Imp wN mL:=DR (n:=3) (ji:=8) (by decide) (aC i8) (aC WZ) rfl rfl rfl
theorem W0:dS D3 Bo:=aD WZ Ek
theorem El:Imp wO gX:=bM (aC W0) (by decide +kernel)
theorem W2:dS D4 MB:=aD W0 El
theorem wX:Imp oN dg:=bM (aC W2) (by decide +kernel)
theorem W3:dS D5 HK:=aD W2 wX
theorem qS:Imp kj bV:=bM (aC W3) (by decide +kernel)
theorem W4:dS D6 Eh:=aD W3 qS
theorem rL:Imp lz bP:=bM (aC W4) (by decide +kernel)
theorem W5:dS D7 uG:=aD W4 rL
theorem uI:Imp mJ fD:=bM (aC W5) (by decide +kernel)
theorem W6:dS D8 yE:=aD W5 uI
theorem wY:Imp oO dh:=bM (aC W6) (by decide +kernel)
theorem W7:dS D9 HL:=aD W6 wY
theorem Em:Imp wQ ko:=bM (aC W7) (by decide +kernel)
theorem W8:dS Ea MC:=aD W7 Em
theorem Br:Imp sZ je:=bM (aC W8) (by decide +kernel)
theorem W9:dS Eb dH:=aD W8 Br
theorem HN:Imp zR mO:=bM (aC W9) (by decide +kernel)
theorem Xa:dS Ec rJ:=aD W9 HN
theorem o4:Imp jL cM:=bM (aC Xa) (by decide +kernel)
theorem Xb:dS Ed Ei:=aD Xa o4
theorem wZ:Imp oQ gi:=bM (aC Xb) (by decide +kernel)
theorem Xc:dS Ef MD:=aD Xb wZ
theorem HP:Imp zS mP:=bM (aC Xc) (by decide +kernel)
theorem Tj:dS Eg di:=aD Xc HP
theorem HQ{ns:List Int}{f:Bool}(e:zT [.rl (ns.map .int)]=.ok (f,.bl true)):∃h',wR [.rl (ns.map .int)] []=.ok (.bl true) h':=Ds (bM (aC Tj) (by decide +kernel)) e
theorem PZ:Imp wR zT:=bM (aC Tj) (by decide +kernel)
theorem i27:dS Tc Ti:=aD Tj PZ
theorem c0:aT ["_law_script","_law_k"] ["_law_script","_law_k"] (aa (top 13))=true:=by decide +kernel
theorem d0:bf ⟨["_law_script","_law_k"],aa (top 13),Py.map (λr=>(r.1,r.2.1)),cons,tb⟩ jb (ak (top 13))=true:=by decide +kernel
theorem c1:aT ["_law_one","_law_two_here","_law_k","_law_step","_law_shift"] ["_law_one","_law_two_here","_law_k"] (aa (top 14))=true:=by decide +kernel
theorem d1:bf ⟨["_law_one","_law_two_here","_law_k","_law_step","_law_shift"],aa (top 14),Pz.map (λr=>(r.1,r.2.1)),cons,tb⟩ gf (ak (top 14))=true:=by decide +kernel
theorem c2:aT ["_law_script","_law_cells","_law_one","_law_two_here","_law_pick","_law_many","_law_places","_law_ties","_law_k","_law_cell_here","_law_here","_law_there","_law_poles"] ["_law_script","_law_cells"] (aa (top 15))=true:=by decide +kernel
theorem d2:bf ⟨["_law_script","_law_cells","_law_one","_law_two_here","_law_pick","_law_many","_law_places","_law_ties","_law_k","_law_cell_here","_law_here","_law_there","_law_poles"],aa (top 15),PB.map (λr=>(r.1,r.2.1)),cons,tb⟩ kc (ak (top 15))=true:=by decide +kernel
theorem c3:aT ["poles","ties","named","name","one","other"] ["poles","ties"] (aa (top 1))=true:=by decide +kernel
theorem d3:bf ⟨["poles","ties","named","name","one","other"],aa (top 1),PC.map (λr=>(r.1,r.2.1)),cons,tb⟩ cK (ak (top 1))=true:=by decide +kernel
theorem c4:aT ["net"] ["net"] (aa (top 2))=true:=by decide +kernel
theorem d4:bf ⟨["net"],aa (top 2),PD.map (λr=>(r.1,r.2.1)),cons,tb⟩ gS (ak (top 2))=true:=by decide +kernel
theorem c5:aT ["net","places","tie"] ["net"] (aa (top 3))=true:=by decide +kernel
theorem d5:bf ⟨["net","places","tie"],aa (top 3),PF.map (λr=>(r.1,r.2.1)),cons,tb⟩ fj (ak (top 3))=true:=by decide +kernel
theorem c6:aT ["self","net","name","one","other"] ["self","net"] (aa (bw 0))=true:=by decide +kernel
theorem d6:bf ⟨["self","net","name","one","other"],aa (bw 0),PJ.map (λr=>(r.1,r.2.1)),cons,tb⟩ uE (ak (bw 0))=true:=by decide +kernel
theorem c7:aT ["self","net","name","one","other"] ["self","net"] (aa (bw 0))=true:=by decide +kernel
theorem d7:bf ⟨["self","net","name","one","other"],aa (bw 0),PK.map (λr=>(r.1,r.2.1)),cons,tb⟩ lO (ak (bw 0))=true:=by decide +kernel
theorem c8:aT ["self","net","name","one","other"] ["self","net"] (aa (bw 0))=true:=by decide +kernel
theorem d8:bf ⟨["self","net","name","one","other"],aa (bw 0),PM.map (λr=>(r.1,r.2.1)),cons,tb⟩ fS (ak (bw 0))=true:=by decide +kernel
theorem c9:aT ["places","pairs","firsts","place","one","other","kept","gone"] ["places","pairs"] (aa (top 6))=true:=by decide +kernel
theorem d9:bf ⟨["places","pairs","firsts","place","one","other","kept","gone"],aa (top 6),PN.map (λr=>(r.1,r.2.1)),cons,tb⟩ fk (ak (top 6))=true:=by decide +kernel
theorem Y4:aT ["self","row","firsts"] ["self","row"] (aa (bw 7))=true:=by decide +kernel
theorem Na:bf ⟨["self","row","firsts"],aa (bw 7),DW.map (λr=>(r.1,r.2.1)),cons,tb⟩ cg (ak (bw 7))=true:=by decide +kernel
theorem Y5:aT ["net"] ["net"] (aa (top 4))=true:=by decide +kernel
theorem Y6:bf ⟨["net"],aa (top 4),DX.map (λr=>(r.1,r.2.1)),cons,tb⟩ gg (ak (top 4))=true:=by decide +kernel
theorem c12:aT ["self"] ["self"] (aa (bw 3))=true:=by decide +kernel
theorem Y7:bf ⟨["self"],aa (bw 3),DY.map (λr=>(r.1,r.2.1)),cons,tb⟩ fu (ak (bw 3))=true:=by decide +kernel
theorem Y8:aT ["self","net"] ["self","net"] (aa (iA 0))=true:=by decide +kernel
theorem Y9:bf ⟨["self","net"],aa (iA 0),DZ.map (λr=>(r.1,r.2.1)),cons,tb⟩ nT (ak (iA 0))=true:=by decide +kernel
theorem Za:aT ["_law_kind","_law_net_here"] ["_law_kind","_law_net_here"] (aa (top 16))=true:=by decide +kernel
theorem Zb:bf ⟨["_law_kind","_law_net_here"],aa (top 16),D3.map (λr=>(r.1,r.2.1)),cons,tb⟩ fT (ak (top 16))=true:=by decide +kernel
theorem Zc:aT ["self","row"] ["self","row"] (aa (bw 4))=true:=by decide +kernel
theorem Zd:bf ⟨["self","row"],aa (bw 4),D4.map (λr=>(r.1,r.2.1)),cons,tb⟩ fy (ak (bw 4))=true:=by decide +kernel
theorem Ze:aT ["self","row"] ["self","row"] (aa (qN 1))=true:=by decide +kernel
theorem Zf:bf ⟨["self","row"],aa (qN 1),D5.map (λr=>(r.1,r.2.1)),cons,tb⟩ cL (ak (qN 1))=true:=by decide +kernel
theorem Zg:aT ["self","row","rest"] ["self","row"] (aa (iA 2))=true:=by decide +kernel
theorem Zh:bf ⟨["self","row","rest"],aa (iA 2),D6.map (λr=>(r.1,r.2.1)),cons,tb⟩ cY (ak (iA 2))=true:=by decide +kernel
theorem Zi:aT ["self","row","rank"] ["self","row"] (aa (bw 6))=true:=by decide +kernel
theorem Zj:bf ⟨["self","row","rank"],aa (bw 6),D7.map (λr=>(r.1,r.2.1)),cons,tb⟩ dX (ak (bw 6))=true:=by decide +kernel
theorem Zk:aT ["self","row"] ["self","row"] (aa (bw 5))=true:=by decide +kernel
theorem Zl:bf ⟨["self","row"],aa (bw 5),D8.map (λr=>(r.1,r.2.1)),cons,tb⟩ fz (ak (bw 5))=true:=by decide +kernel
theorem Zm:aT ["_law_rule_here","_law_fewer","_law_more"] ["_law_rule_here","_law_fewer","_law_more"] (aa (top 19))=true:=by decide +kernel
theorem Zn:bf ⟨["_law_rule_here","_law_fewer","_law_more"],aa (top 19),D9.map (λr=>(r.1,r.2.1)),cons,tb⟩ jc (ak (top 19))=true:=by decide +kernel
theorem Zo:aT ["_law_found"] ["_law_found"] (aa (top 18))=true:=by decide +kernel
theorem Zp:bf ⟨["_law_found"],aa (top 18),Ea.map (λr=>(r.1,r.2.1)),cons,tb⟩ gT (ak (top 18))=true:=by decide +kernel
theorem Zq:aT ["_law_rule_here","_law_one","_law_other","_law_name","_law_either","_law_both","_law_sizes","_law_closed"] ["_law_rule_here","_law_one","_law_other","_law_name"] (aa (top 20))=true:=by decide +kernel
theorem Zr:bf ⟨["_law_rule_here","_law_one","_law_other","_law_name","_law_either","_law_both","_law_sizes","_law_closed"],aa (top 20),Eb.map (λr=>(r.1,r.2.1)),cons,tb⟩ gh (ak (top 20))=true:=by decide +kernel
theorem Zs:aT ["_law_cell_here","_law_many","_law_number_here","_law_found","_law_k"] ["_law_cell_here","_law_many"] (aa (top 21))=true:=by decide +kernel
theorem Zt:bf ⟨["_law_cell_here","_law_many","_law_number_here","_law_found","_law_k"],aa (top 21),Ec.map (λr=>(r.1,r.2.1)),cons,tb⟩ bQ (ak (top 21))=true:=by decide +kernel
theorem Zu:aT ["_law_script","_law_most","_law_rest","_law_many","_law_places","_law_one","_law_other","_law_names","_law_cell_here","_law_ties","_law_name","_law_here","_law_there"] ["_law_script","_law_most"] (aa (top 22))=true:=by decide +kernel
theorem Zv:bf ⟨["_law_script","_law_most","_law_rest","_law_many","_law_places","_law_one","_law_other","_law_names","_law_cell_here","_law_ties","_law_name","_law_here","_law_there"],aa (top 22),Ed.map (λr=>(r.1,r.2.1)),cons,tb⟩ fB (ak (top 22))=true:=by decide +kernel
theorem Zw:aT ["_law_names","_law_cell_here","_law_row_here","_law_name"] ["_law_names","_law_cell_here"] (aa (top 17))=true:=by decide +kernel
theorem Zx:bf ⟨["_law_names","_law_cell_here","_law_row_here","_law_name"],aa (top 17),Ef.map (λr=>(r.1,r.2.1)),cons,tb⟩ kg (ak (top 17))=true:=by decide +kernel
theorem Zy:aT ["_law_script","_law_size","_law_net_here","_law_rule_here","_law_names","_law_one","_law_cell_here","_law_other"] ["_law_script"] (aa (top 23))=true:=by decide +kernel
theorem Zz:bf ⟨["_law_script","_law_size","_law_net_here","_law_rule_here","_law_names","_law_one","_law_cell_here","_law_other"],aa (top 23),Eg.map (λr=>(r.1,r.2.1)),cons,tb⟩ kh (ak (top 23))=true:=by decide +kernel
section
variable {P:Program} {w:World} {K:PySem.W.Frag} {mg:Str->Option Value} {base:Heap}
theorem all_mk{l:PySem.W.OpenLaw}{h:Heap}{fa:Addr}(X:K.In h)(G:h.Ns mainGlobals mg)(ZA:mg "law" = some (.ref fa))(hφ:∀ns:List Int,ns.length<=63->∃h',wR [.rl (ns.map .int)] []=.ok (.bl true) h'){D0:Addr}{D1:Addr}{D2:Addr}{E0:Addr}{ZC ZD ZE ZF Xd ZG:Value}{ZH ZI:Option Addr}{ZJ:Array (Option Value)}{a0:Addr}{ZK ZL ZM ZN Xe ZO:Value}{ZP ZQ:Option Addr}{ZR:Array (Option Value)}{a1:Addr}{ZS ZT ZU ZV Xf ZW:Value}{ZX ZY:Option Addr}{sl2:Array (Option Value)}{a2:Addr}{ZZ kV3 dc3 pm3 Xg ct3:Value}{od3 an3:Option Addr}{sl3:Array (Option Value)}{a3:Addr}{oc4 kV4 dc4 pm4 Xh ct4:Value}{od4 an4:Option Addr}{sl4:Array (Option Value)}{a4:Addr}{oc5 kV5 dc5 pm5 Xi ct5:Value}{od5 an5:Option Addr}{sl5:Array (Option Value)}{a5:Addr}{oc6 kV6 dc6 pm6 Xj ct6:Value}{od6 an6:Option Addr}{sl6:Array (Option Value)}{a6:Addr}{oc7 kV7 dc7 pm7 Xk ct7:Value}{od7 an7:Option Addr}{sl7:Array (Option Value)}{a7:Addr}{oc8 kV8 dc8 pm8 Xl ct8:Value}{od8 an8:Option Addr}{sl8:Array (Option Value)}{a8:Addr}{oc9 kV9 dc9 pm9 Xm ct9:Value}{od9 an9:Option Addr}{sl9:Array (Option Value)}{a9:Addr}{Tn To Tp Tq P0 Tr:Value}{Tt Tu:Option Addr}{Tv:Array (Option Value)}{Jz:Addr}{Tw Tz TH TJ P1 TL:Value}{TM TN:Option Addr}{TQ:Array (Option Value)}{Rk:Addr}{TR TU TV TX P4 TY:Value}{TZ T4:Option Addr}{T5:Array (Option Value)}{JA:Addr}{T6 T7 T8 T9 P5 Ua:Value}{Ub Uc:Option Addr}{Ud:Array (Option Value)}{P6:Addr}{Ue Ug Uh Ui P7 Uj:Value}{Uk Ul:Option Addr}{Um:Array (Option Value)}{Rm:Addr}{Uo Uq Ur Us P8 Ut:Value}{Uu Uv:Option Addr}{Uw:Array (Option Value)}{Nc:Addr}{Ux Uy Uz UA P9 UB:Value}{UC UD:Option Addr}{UE:Array (Option Value)}{Nd:Addr}{UG UH UI UJ Qa UK:Value}{UL UM:Option Addr}{UN:Array (Option Value)}{Nf:Addr}{UO UP UQ UR Qc US:Value}{UT UU:Option Addr}{UW:Array (Option Value)}{JB:Addr}{UX UY UZ U0 Qd U1:Value}{U3 U4:Option Addr}{U5:Array (Option Value)}{JC:Addr}{U6 U7 U8 U9 Qe Va:Value}{Vb Vc:Option Addr}{Vd:Array (Option Value)}{Rn:Addr}{Ve Vf Vg Vh Qf Vi:Value}{Vj Vk:Option Addr}{Vl:Array (Option Value)}{Ro:Addr}{Vm Vn Vo Vp Qg Vq:Value}{Vr Vs:Option Addr}{Vt:Array (Option Value)}{Rp:Addr}{Vu Vv Vw Vx Qh Vy:Value}{Vz VA:Option Addr}{VB:Array (Option Value)}{Rq:Addr}{VC VD VE VF Qi VG:Value}{VH VI:Option Addr}{VJ:Array (Option Value)}{Rt:Addr}{VL VM VN VO Qj VP:Value}{VQ VS:Option Addr}{VT:Array (Option Value)}{Ru:Addr}{VU Qk Ql Qm MF Qn:Value}{VW Qo:Option Addr}{VX:Array (Option Value)}{VY:Addr}{tk0:Tok}
  (DA0:PySem.W.nsIn K mainGlobals "Rule" = some (some (.ref D0))) (DG0:plainGet K D0 Str.empty=true) (DH0:hasDictIn K D0=true) (DO0:plainOver K D0=true) (DS0:findIn K (.ref D0) "__setattr__" = some (some (.builtin "object.__setattr__"))) (DM0:makesIn K D0=true) (DK0:keepIn K (.ref D0)=true)
  (DN0_0:findIn K (.ref D0) "net" = some none)
  (DN0_1:findIn K (.ref D0) "places" = some none)
  (DN0_2:findIn K (.ref D0) "ends" = some none)
  (DN0_3:findIn K (.ref D0) "whole" = some none)
  (DA1:PySem.W.nsIn K mainGlobals "ByTrees" = some (some (.ref D1))) (DG1:plainGet K D1 Str.empty=true) (DH1:hasDictIn K D1=true) (DO1:plainOver K D1=true) (DS1:findIn K (.ref D1) "__setattr__" = some (some (.builtin "object.__setattr__"))) (DM1:makesIn K D1=true) (DK1:keepIn K (.ref D1)=true)
  (DN1_0:findIn K (.ref D1) "net" = some none)
  (DN1_1:findIn K (.ref D1) "places" = some none)
  (DN1_2:findIn K (.ref D1) "ends" = some none)
  (DN1_3:findIn K (.ref D1) "whole" = some none)
  (DA2:PySem.W.nsIn K mainGlobals "ByRest" = some (some (.ref D2))) (DG2:plainGet K D2 Str.empty=true) (DH2:hasDictIn K D2=true) (DO2:plainOver K D2=true) (DS2:findIn K (.ref D2) "__setattr__" = some (some (.builtin "object.__setattr__"))) (DM2:makesIn K D2=true) (DK2:keepIn K (.ref D2)=true)
  (DN2_0:findIn K (.ref D2) "net" = some none)
  (DN2_1:findIn K (.ref D2) "places" = some none)
  (DN2_2:findIn K (.ref D2) "ends" = some none)
  (DN2_3:findIn K (.ref D2) "whole" = some none)
  (EA0:PySem.W.nsIn K mainGlobals "Rule" = some (some (.ref E0)))
  (EG0:specialIn K (.ref E0) "__getattribute__" = some (some (.builtin "type.__getattribute__"))) (ER0:readsIn K E0 (.type "type")=true)
  (A0:PySem.W.nsIn K mainGlobals "_law_cell" = some (some (.ref a0)))
  (L0:K.lookup a0=some ⟨ZC,ZH,.func (PySem.W.fnOf "_law_cell" "_law_cell" (aK (top 13)) (ak (top 13)) (aa (top 13)) .none ZD ZE ZF ZI Xd ZG),ZJ⟩) (C0:codeIn K Xd "_law_cell" = true) (Q0:keepIn K (.ref a0)=true)
  (A1:PySem.W.nsIn K mainGlobals "_law_number" = some (some (.ref a1)))
  (L1:K.lookup a1=some ⟨ZK,ZP,.func (PySem.W.fnOf "_law_number" "_law_number" (aK (top 14)) (ak (top 14)) (aa (top 14)) .none ZL ZM ZN ZQ Xe ZO),ZR⟩) (C1:codeIn K Xe "_law_number" = true) (Q1:keepIn K (.ref a1)=true)
  (A2:PySem.W.nsIn K mainGlobals "_law_net" = some (some (.ref a2)))
  (L2:K.lookup a2=some ⟨ZS,ZX,.func (PySem.W.fnOf "_law_net" "_law_net" (aK (top 15)) (ak (top 15)) (aa (top 15)) .none ZT ZU ZV ZY Xf ZW),sl2⟩) (C2:codeIn K Xf "_law_net" = true) (Q2:keepIn K (.ref a2)=true)
  (A3:PySem.W.nsIn K mainGlobals "put_in_order" = some (some (.ref a3)))
  (L3:K.lookup a3=some ⟨ZZ,od3,.func (PySem.W.fnOf "put_in_order" "put_in_order" (aK (top 1)) (ak (top 1)) (aa (top 1)) .none kV3 dc3 pm3 an3 Xg ct3),sl3⟩) (C3:codeIn K Xg "put_in_order" = true) (Q3:keepIn K (.ref a3)=true)
  (A4:PySem.W.nsIn K mainGlobals "own_net" = some (some (.ref a4)))
  (L4:K.lookup a4=some ⟨oc4,od4,.func (PySem.W.fnOf "own_net" "own_net" (aK (top 2)) (ak (top 2)) (aa (top 2)) .none kV4 dc4 pm4 an4 Xh ct4),sl4⟩) (C4:codeIn K Xh "own_net" = true) (Q4:keepIn K (.ref a4)=true)
  (A5:PySem.W.nsIn K mainGlobals "places_of" = some (some (.ref a5)))
  (L5:K.lookup a5=some ⟨oc5,od5,.func (PySem.W.fnOf "places_of" "places_of" (aK (top 3)) (ak (top 3)) (aa (top 3)) .none kV5 dc5 pm5 an5 Xi ct5),sl5⟩) (C5:codeIn K Xi "places_of" = true) (Q5:keepIn K (.ref a5)=true)
  (A6:findIn K (.ref D0) "__init__" = some (some (.ref a6))) (I6:PySem.W.isFn K (.ref a6)=true)
  (L6:K.lookup a6=some ⟨oc6,od6,.func (PySem.W.fnOf "__init__" "Rule.__init__" (aK (bw 0)) (ak (bw 0)) (aa (bw 0)) .none kV6 dc6 pm6 an6 Xj ct6),sl6⟩) (C6:codeIn K Xj "Rule.__init__" = true) (Q6:keepIn K (.ref a6)=true)
  (A7:findIn K (.ref D1) "__init__" = some (some (.ref a7))) (I7:PySem.W.isFn K (.ref a7)=true)
  (L7:K.lookup a7=some ⟨oc7,od7,.func (PySem.W.fnOf "__init__" "Rule.__init__" (aK (bw 0)) (ak (bw 0)) (aa (bw 0)) .none kV7 dc7 pm7 an7 Xk ct7),sl7⟩) (C7:codeIn K Xk "Rule.__init__" = true) (Q7:keepIn K (.ref a7)=true)
  (EF0_8:findCls K (.ref E0) (.type "type") "__init__" = some (.val (.ref a8)))
  (I8:PySem.W.isFn K (.ref a8)=true)
  (L8:K.lookup a8=some ⟨oc8,od8,.func (PySem.W.fnOf "__init__" "Rule.__init__" (aK (bw 0)) (ak (bw 0)) (aa (bw 0)) .none kV8 dc8 pm8 an8 Xl ct8),sl8⟩) (C8:codeIn K Xl "Rule.__init__" = true) (Q8:keepIn K (.ref a8)=true)
  (A9:PySem.W.nsIn K mainGlobals "firsts_by" = some (some (.ref a9)))
  (L9:K.lookup a9=some ⟨oc9,od9,.func (PySem.W.fnOf "firsts_by" "firsts_by" (aK (top 6)) (ak (top 6)) (aa (top 6)) .none kV9 dc9 pm9 an9 Xm ct9),sl9⟩) (C9:codeIn K Xm "firsts_by" = true) (Q9:keepIn K (.ref a9)=true)
  (M0_10:findIn K (.ref D0) "tree_rank" = some (some (.ref Jz)))
  (M1_10:findIn K (.ref D1) "tree_rank" = some (some (.ref Jz)))
  (M2_10:findIn K (.ref D2) "tree_rank" = some (some (.ref Jz)))
  (I10:PySem.W.isFn K (.ref Jz)=true)
  (L10:K.lookup Jz=some ⟨Tn,Tt,.func (PySem.W.fnOf "tree_rank" "Rule.tree_rank" (aK (bw 7)) (ak (bw 7)) (aa (bw 7)) .none To Tp Tq Tu P0 Tr),Tv⟩) (C10:codeIn K P0 "Rule.tree_rank" = true) (Q10:keepIn K (.ref Jz)=true)
  (A11:PySem.W.nsIn K mainGlobals "names_of" = some (some (.ref Rk)))
  (L11:K.lookup Rk=some ⟨Tw,TM,.func (PySem.W.fnOf "names_of" "names_of" (aK (top 4)) (ak (top 4)) (aa (top 4)) .none Tz TH TJ TN P1 TL),TQ⟩) (C11:codeIn K P1 "names_of" = true) (Q11:keepIn K (.ref Rk)=true)
  (M0_12:findIn K (.ref D0) "ties" = some (some (.ref JA)))
  (M1_12:findIn K (.ref D1) "ties" = some (some (.ref JA)))
  (M2_12:findIn K (.ref D2) "ties" = some (some (.ref JA)))
  (I12:PySem.W.isFn K (.ref JA)=true)
  (L12:K.lookup JA=some ⟨TR,TZ,.func (PySem.W.fnOf "ties" "Rule.ties" (aK (bw 3)) (ak (bw 3)) (aa (bw 3)) .none TU TV TX T4 P4 TY),T5⟩) (C12:codeIn K P4 "Rule.ties" = true) (Q12:keepIn K (.ref JA)=true)
  (A13:findIn K (.ref D2) "__init__" = some (some (.ref P6))) (I13:PySem.W.isFn K (.ref P6)=true)
  (L13:K.lookup P6=some ⟨T6,Ub,.func (PySem.W.fnOf "__init__" "ByRest.__init__" (aK (iA 0)) (ak (iA 0)) (aa (iA 0)) .none T7 T8 T9 Uc P5 Ua),Ud⟩) (C13:codeIn K P5 "ByRest.__init__" = true) (Q13:keepIn K (.ref P6)=true)
  (A14:PySem.W.nsIn K mainGlobals "_law_rule" = some (some (.ref Rm)))
  (L14:K.lookup Rm=some ⟨Ue,Uk,.func (PySem.W.fnOf "_law_rule" "_law_rule" (aK (top 16)) (ak (top 16)) (aa (top 16)) .none Ug Uh Ui Ul P7 Uj),Um⟩) (C14:codeIn K P7 "_law_rule" = true) (Q14:keepIn K (.ref Rm)=true)
  (M0_15:findIn K (.ref D0) "rank" = some (some (.ref Nc)))
  (I15:PySem.W.isFn K (.ref Nc)=true)
  (L15:K.lookup Nc=some ⟨Uo,Uu,.func (PySem.W.fnOf "rank" "Rule.rank" (aK (bw 4)) (ak (bw 4)) (aa (bw 4)) .none Uq Ur Us Uv P8 Ut),Uw⟩) (C15:codeIn K P8 "Rule.rank" = true) (Q15:keepIn K (.ref Nc)=true)
  (M1_16:findIn K (.ref D1) "rank" = some (some (.ref Nd)))
  (I16:PySem.W.isFn K (.ref Nd)=true)
  (L16:K.lookup Nd=some ⟨Ux,UC,.func (PySem.W.fnOf "rank" "ByTrees.rank" (aK (qN 1)) (ak (qN 1)) (aa (qN 1)) .none Uy Uz UA UD P9 UB),UE⟩) (C16:codeIn K P9 "ByTrees.rank" = true) (Q16:keepIn K (.ref Nd)=true)
  (M2_17:findIn K (.ref D2) "rank" = some (some (.ref Nf)))
  (I17:PySem.W.isFn K (.ref Nf)=true)
  (L17:K.lookup Nf=some ⟨UG,UL,.func (PySem.W.fnOf "rank" "ByRest.rank" (aK (iA 2)) (ak (iA 2)) (aa (iA 2)) .none UH UI UJ UM Qa UK),UN⟩) (C17:codeIn K Qa "ByRest.rank" = true) (Q17:keepIn K (.ref Nf)=true)
  (M0_18:findIn K (.ref D0) "reach" = some (some (.ref JB)))
  (M1_18:findIn K (.ref D1) "reach" = some (some (.ref JB)))
  (M2_18:findIn K (.ref D2) "reach" = some (some (.ref JB)))
  (I18:PySem.W.isFn K (.ref JB)=true)
  (L18:K.lookup JB=some ⟨UO,UT,.func (PySem.W.fnOf "reach" "Rule.reach" (aK (bw 6)) (ak (bw 6)) (aa (bw 6)) .none UP UQ UR UU Qc US),UW⟩) (C18:codeIn K Qc "Rule.reach" = true) (Q18:keepIn K (.ref JB)=true)
  (M0_19:findIn K (.ref D0) "free" = some (some (.ref JC)))
  (M1_19:findIn K (.ref D1) "free" = some (some (.ref JC)))
  (M2_19:findIn K (.ref D2) "free" = some (some (.ref JC)))
  (I19:PySem.W.isFn K (.ref JC)=true)
  (L19:K.lookup JC=some ⟨UX,U3,.func (PySem.W.fnOf "free" "Rule.free" (aK (bw 5)) (ak (bw 5)) (aa (bw 5)) .none UY UZ U0 U4 Qd U1),U5⟩) (C19:codeIn K Qd "Rule.free" = true) (Q19:keepIn K (.ref JC)=true)
  (A20:PySem.W.nsIn K mainGlobals "_law_grow" = some (some (.ref Rn)))
  (L20:K.lookup Rn=some ⟨U6,Vb,.func (PySem.W.fnOf "_law_grow" "_law_grow" (aK (top 19)) (ak (top 19)) (aa (top 19)) .none U7 U8 U9 Vc Qe Va),Vd⟩) (C20:codeIn K Qe "_law_grow" = true) (Q20:keepIn K (.ref Rn)=true)
  (A21:PySem.W.nsIn K mainGlobals "_law_whole" = some (some (.ref Ro)))
  (L21:K.lookup Ro=some ⟨Ve,Vj,.func (PySem.W.fnOf "_law_whole" "_law_whole" (aK (top 18)) (ak (top 18)) (aa (top 18)) .none Vf Vg Vh Vk Qf Vi),Vl⟩) (C21:codeIn K Qf "_law_whole" = true) (Q21:keepIn K (.ref Ro)=true)
  (A22:PySem.W.nsIn K mainGlobals "_law_two" = some (some (.ref Rp)))
  (L22:K.lookup Rp=some ⟨Vm,Vr,.func (PySem.W.fnOf "_law_two" "_law_two" (aK (top 20)) (ak (top 20)) (aa (top 20)) .none Vn Vo Vp Vs Qg Vq),Vt⟩) (C22:codeIn K Qg "_law_two" = true) (Q22:keepIn K (.ref Rp)=true)
  (A23:PySem.W.nsIn K mainGlobals "_law_gap_numbers" = some (some (.ref Rq)))
  (L23:K.lookup Rq=some ⟨Vu,Vz,.func (PySem.W.fnOf "_law_gap_numbers" "_law_gap_numbers" (aK (top 21)) (ak (top 21)) (aa (top 21)) .none Vv Vw Vx VA Qh Vy),VB⟩) (C23:codeIn K Qh "_law_gap_numbers" = true) (Q23:keepIn K (.ref Rq)=true)
  (A24:PySem.W.nsIn K mainGlobals "_law_any_net" = some (some (.ref Rt)))
  (L24:K.lookup Rt=some ⟨VC,VH,.func (PySem.W.fnOf "_law_any_net" "_law_any_net" (aK (top 22)) (ak (top 22)) (aa (top 22)) .none VD VE VF VI Qi VG),VJ⟩) (C24:codeIn K Qi "_law_any_net" = true) (Q24:keepIn K (.ref Rt)=true)
  (A25:PySem.W.nsIn K mainGlobals "_law_row" = some (some (.ref Ru)))
  (L25:K.lookup Ru=some ⟨VL,VQ,.func (PySem.W.fnOf "_law_row" "_law_row" (aK (top 17)) (ak (top 17)) (aa (top 17)) .none VM VN VO VS Qj VP),VT⟩) (C25:codeIn K Qj "_law_row" = true) (Q25:keepIn K (.ref Ru)=true)
  (A26:PySem.W.nsIn K mainGlobals "law" = some (some (.ref VY)))
  (L26:K.lookup VY=some ⟨VU,VW,.func (PySem.W.fnOf "law" "law" (aK (top 23)) (ak (top 23)) (aa (top 23)) .none Qk Ql Qm Qo MF Qn),VX⟩) (C26:codeIn K MF "law" = true) (Q26:keepIn K (.ref VY)=true)
  (Z0:PySem.W.nsIn K mainGlobals "len" = some none)
  (Z1:PySem.W.nsIn K mainGlobals "min" = some none)
  (Z2:PySem.W.nsIn K mainGlobals "max" = some none)
  (Z3:PySem.W.nsIn K mainGlobals "sorted" = some none)
  (Z4:PySem.W.nsIn K mainGlobals "list" = some none)
  (Z5:PySem.W.nsIn K mainGlobals "tuple" = some none)
  (Z6:PySem.W.nsIn K mainGlobals "str" = some none)
  (Z7:PySem.W.nsIn K mainGlobals "all" = some none)
  (Z8:PySem.W.nsIn K mainGlobals "any" = some none)
  (Z9:PySem.W.nsIn K mainGlobals "isinstance" = some none)
  (Z10:PySem.W.nsIn K mainGlobals "range" = some none)
  (Z11:PySem.W.nsIn K mainGlobals "enumerate" = some none)
  (Z12:PySem.W.nsIn K mainGlobals "int" = some none)
  (Z13:PySem.W.nsIn K mainGlobals "bool" = some none)
  (Z14:PySem.W.nsIn K mainGlobals "dict" = some none)
  (Z15:PySem.W.nsIn K mainGlobals "set" = some none)
  (Z16:PySem.W.nsIn K mainGlobals "zip" = some none)
  (V0:PySem.W.nsIn K mainGlobals "THOUGHT" = some (some (.int (-1) tk0))) :
  ∃fd:FuncData,(∀(s:Shared) (v:Value),BindsTo s fd ⟨[v],[]⟩ [("_law_script",v)])/\∀base:Heap,K.In base->base.Ns mainGlobals mg->fJ l.prog w K mg base xA 54 fa fd ["_law_script"] (Rg K):=by
 have e:=ZA.symm.trans (mg_of X G A26);cases e;obtain⟨cl,hcl⟩:∃cl:Nat->Addr,cl=λn=>if n=0 then D0 else if n=1 then D1 else if n=2 then D2 else if n=1008 then a8 else if n=1010 then Jz else if n=1012 then JA else if n=1015 then Nc else if n=1016 then Nd else if n=1017 then Nf else if n=1018 then JB else if n=1019 then JC else 0:=⟨_,rfl⟩
 have T:Base K cl mg cons tb:=by
  subst hcl;refine⟨λx hx=>?_,λp hp=>?_,λc hc=>?_,λp hp=>?_,λp hp=>?_,λp hp=>?_⟩
  ·simp only[gQ,mem_cons,not_mem_nil,or_false] at hx
   rcases hx with rfl|rfl|rfl|rfl|rfl|rfl|rfl|rfl|rfl|rfl|rfl|rfl|rfl|rfl|rfl|rfl|rfl
   ·exact mg_none_of X G Z0
   ·exact mg_none_of X G Z1
   ·exact mg_none_of X G Z2
   ·exact mg_none_of X G Z3
   ·exact mg_none_of X G Z4
   ·exact mg_none_of X G Z5
   ·exact mg_none_of X G Z6
   ·exact mg_none_of X G Z7
   ·exact mg_none_of X G Z8
   ·exact mg_none_of X G Z9
   ·exact mg_none_of X G Z10
   ·exact mg_none_of X G Z11
   ·exact mg_none_of X G Z12
   ·exact mg_none_of X G Z13
   ·exact mg_none_of X G Z14
   ·exact mg_none_of X G Z15
   ·exact mg_none_of X G Z16
  ·simp only[cons,mem_cons,not_mem_nil,or_false] at hp
   rcases hp with rfl
   ·exact⟨.int (-1),_,mg_of X G V0,⟨_,rfl⟩,λ_ _ _=>VR.int⟩
  ·have hc:c<3:=hc
   match c,hc with
   | 0,_ =>
    refine⟨⟨DG0,DH0,DO0,DS0⟩,λx hx=>?_⟩;simp only[tb,mem_cons,not_mem_nil,or_false] at hx
    rcases hx with rfl|rfl|rfl|rfl
    ·exact DN0_0
    ·exact DN0_1
    ·exact DN0_2
    ·exact DN0_3
   | 1,_ =>
    refine⟨⟨DG1,DH1,DO1,DS1⟩,λx hx=>?_⟩;simp only[tb,mem_cons,not_mem_nil,or_false] at hx
    rcases hx with rfl|rfl|rfl|rfl
    ·exact DN1_0
    ·exact DN1_1
    ·exact DN1_2
    ·exact DN1_3
   | 2,_ =>
    refine⟨⟨DG2,DH2,DO2,DS2⟩,λx hx=>?_⟩;simp only[tb,mem_cons,not_mem_nil,or_false] at hx
    rcases hx with rfl|rfl|rfl|rfl
    ·exact DN2_0
    ·exact DN2_1
    ·exact DN2_2
    ·exact DN2_3
  ·simp only[tb,mem_cons,not_mem_nil,or_false] at hp
   rcases hp with rfl|rfl|rfl|rfl|rfl|rfl|rfl|rfl|rfl|rfl|rfl|rfl|rfl|rfl|rfl
   ·exact⟨M0_10,I10,Q10⟩
   ·exact⟨M1_10,I10,Q10⟩
   ·exact⟨M2_10,I10,Q10⟩
   ·exact⟨M0_12,I12,Q12⟩
   ·exact⟨M1_12,I12,Q12⟩
   ·exact⟨M2_12,I12,Q12⟩
   ·exact⟨M0_15,I15,Q15⟩
   ·exact⟨M1_16,I16,Q16⟩
   ·exact⟨M2_17,I17,Q17⟩
   ·exact⟨M0_19,I19,Q19⟩
   ·exact⟨M1_19,I19,Q19⟩
   ·exact⟨M2_19,I19,Q19⟩
   ·exact⟨M0_18,I18,Q18⟩
   ·exact⟨M1_18,I18,Q18⟩
   ·exact⟨M2_18,I18,Q18⟩
  ·simp only[tb,mem_cons,not_mem_nil,or_false] at hp
   rcases hp with rfl
   ·exact⟨E0,mg_of X G EA0,⟨EG0,ER0,EF0_8,Q8⟩⟩
  ·simp[tb] at hp
 have F0:=bA (st:=(top 13)) L0 C0 Q0;have b0:=F0.binds (ps:=["_law_script","_law_k"]) λ_ _ _ _ _ _ us hl=>by obtain⟨_,_,rfl⟩:=fF hl;exact rfl
 have F1:=bA (st:=(top 14)) L1 C1 Q1;have b1:=F1.binds (ps:=["_law_one","_law_two_here","_law_k"]) λ_ _ _ _ _ _ us hl=>by obtain⟨_,_,_,rfl⟩:=IZ hl;exact rfl
 have F2:=bA (st:=(top 15)) L2 C2 Q2;have b2:=F2.binds (ps:=["_law_script","_law_cells"]) λ_ _ _ _ _ _ us hl=>by obtain⟨_,_,rfl⟩:=fF hl;exact rfl
 have F3:=bA (st:=(top 1)) L3 C3 Q3;have b3:=F3.binds (ps:=["poles","ties"]) λ_ _ _ _ _ _ us hl=>by obtain⟨_,_,rfl⟩:=fF hl;exact rfl
 have F4:=bA (st:=(top 2)) L4 C4 Q4;have b4:=F4.binds (ps:=["net"]) λ_ _ _ _ _ _ us hl=>by obtain⟨_,rfl⟩:=v5 hl;exact rfl
 have F5:=bA (st:=(top 3)) L5 C5 Q5;have b5:=F5.binds (ps:=["net"]) λ_ _ _ _ _ _ us hl=>by obtain⟨_,rfl⟩:=v5 hl;exact rfl
 have F6:=bA (st:=(bw 0)) L6 C6 Q6;have b6:=F6.binds (ps:=["self","net"]) λ_ _ _ _ _ _ us hl=>by obtain⟨_,_,rfl⟩:=fF hl;exact rfl
 have F7:=bA (st:=(bw 0)) L7 C7 Q7;have b7:=F7.binds (ps:=["self","net"]) λ_ _ _ _ _ _ us hl=>by obtain⟨_,_,rfl⟩:=fF hl;exact rfl
 have F8:=bA (st:=(bw 0)) L8 C8 Q8;have b8:=F8.binds (ps:=["self","net"]) λ_ _ _ _ _ _ us hl=>by obtain⟨_,_,rfl⟩:=fF hl;exact rfl
 have F9:=bA (st:=(top 6)) L9 C9 Q9;have b9:=F9.binds (ps:=["places","pairs"]) λ_ _ _ _ _ _ us hl=>by obtain⟨_,_,rfl⟩:=fF hl;exact rfl
 have Xn:=bA (st:=(bw 7)) L10 C10 Q10;have b10:=Xn.binds (ps:=["self","row"]) λ_ _ _ _ _ _ us hl=>by obtain⟨_,_,rfl⟩:=fF hl;exact rfl
 have Xo:=bA (st:=(top 4)) L11 C11 Q11;have b11:=Xo.binds (ps:=["net"]) λ_ _ _ _ _ _ us hl=>by obtain⟨_,rfl⟩:=v5 hl;exact rfl
 have Xp:=bA (st:=(bw 3)) L12 C12 Q12;have b12:=Xp.binds (ps:=["self"]) λ_ _ _ _ _ _ us hl=>by obtain⟨_,rfl⟩:=v5 hl;exact rfl
 have Xq:=bA (st:=(iA 0)) L13 C13 Q13;have b13:=Xq.binds (ps:=["self","net"]) λ_ _ _ _ _ _ us hl=>by obtain⟨_,_,rfl⟩:=fF hl;exact rfl
 have Xr:=bA (st:=(top 16)) L14 C14 Q14;have b14:=Xr.binds (ps:=["_law_kind","_law_net_here"]) λ_ _ _ _ _ _ us hl=>by obtain⟨_,_,rfl⟩:=fF hl;exact rfl
 have Xs:=bA (st:=(bw 4)) L15 C15 Q15;have b15:=Xs.binds (ps:=["self","row"]) λ_ _ _ _ _ _ us hl=>by obtain⟨_,_,rfl⟩:=fF hl;exact rfl
 have Xu:=bA (st:=(qN 1)) L16 C16 Q16;have b16:=Xu.binds (ps:=["self","row"]) λ_ _ _ _ _ _ us hl=>by obtain⟨_,_,rfl⟩:=fF hl;exact rfl
 have Xv:=bA (st:=(iA 2)) L17 C17 Q17;have b17:=Xv.binds (ps:=["self","row"]) λ_ _ _ _ _ _ us hl=>by obtain⟨_,_,rfl⟩:=fF hl;exact rfl
 have Xw:=bA (st:=(bw 6)) L18 C18 Q18;have b18:=Xw.binds (ps:=["self","row"]) λ_ _ _ _ _ _ us hl=>by obtain⟨_,_,rfl⟩:=fF hl;exact rfl
 have Xx:=bA (st:=(bw 5)) L19 C19 Q19;have b19:=Xx.binds (ps:=["self","row"]) λ_ _ _ _ _ _ us hl=>by obtain⟨_,_,rfl⟩:=fF hl;exact rfl
 have Xy:=bA (st:=(top 19)) L20 C20 Q20;have b20:=Xy.binds (ps:=["_law_rule_here","_law_fewer","_law_more"]) λ_ _ _ _ _ _ us hl=>by obtain⟨_,_,_,rfl⟩:=IZ hl;exact rfl
 have Xz:=bA (st:=(top 18)) L21 C21 Q21;have b21:=Xz.binds (ps:=["_law_found"]) λ_ _ _ _ _ _ us hl=>by obtain⟨_,rfl⟩:=v5 hl;exact rfl
 have XA:=bA (st:=(top 20)) L22 C22 Q22;have b22:=XA.binds (ps:=["_law_rule_here","_law_one","_law_other","_law_name"]) λ_ _ _ _ _ _ us hl=>by obtain⟨_,_,_,_,rfl⟩:=OP hl;exact rfl
 have XC:=bA (st:=(top 21)) L23 C23 Q23;have b23:=XC.binds (ps:=["_law_cell_here","_law_many"]) λ_ _ _ _ _ _ us hl=>by obtain⟨_,_,rfl⟩:=fF hl;exact rfl
 have XD:=bA (st:=(top 22)) L24 C24 Q24;have b24:=XD.binds (ps:=["_law_script","_law_most"]) λ_ _ _ _ _ _ us hl=>by obtain⟨_,_,rfl⟩:=fF hl;exact rfl
 have XE:=bA (st:=(top 17)) L25 C25 Q25;have b25:=XE.binds (ps:=["_law_names","_law_cell_here"]) λ_ _ _ _ _ _ us hl=>by obtain⟨_,_,rfl⟩:=fF hl;exact rfl
 have F26:=bA (st:=(top 23)) L26 C26 Q26;refine⟨PySem.W.fnOf "law" "law" (aK (top 23)) (ak (top 23)) (aa (top 23)) .none Qk Ql Qm Qo MF Qn,λs v=>.of_eq rfl,λbase _ _=>?_⟩;have G0:cT l.prog w ⟨K,cl⟩ mg base 0 Py:=all_nil;have G1:cT l.prog w ⟨K,cl⟩ mg base 2 Pz:=bS (x:="_law_cell") (N:=["_law_script","_law_k"]) (ps:=["_law_script","_law_k"]) (body:=jb) (f:=a0) T G0 F0 (mg_of X G A0) b0 (by decide) c0 d0;have G2:cT l.prog w ⟨K,cl⟩ mg base 4 PB:=bS (x:="_law_number") (N:=["_law_one","_law_two_here","_law_k","_law_step","_law_shift"]) (ps:=["_law_one","_law_two_here","_law_k"]) (body:=gf) (f:=a1) T G1 F1 (mg_of X G A1) b1 (by decide) c1 d1;have G3:cT l.prog w ⟨K,cl⟩ mg base 6 PC:=bS (x:="_law_net") (N:=["_law_script","_law_cells","_law_one","_law_two_here","_law_pick","_law_many","_law_places","_law_ties","_law_k","_law_cell_here","_law_here","_law_there","_law_poles"]) (ps:=["_law_script","_law_cells"]) (body:=kc) (f:=a2) T G2 F2 (mg_of X G A2) b2 (by decide) c2 d2;have G4:cT l.prog w ⟨K,cl⟩ mg base 8 PD:=bS (x:="put_in_order") (N:=["poles","ties","named","name","one","other"]) (ps:=["poles","ties"]) (body:=cK) (f:=a3) T G3 F3 (mg_of X G A3) b3 (by decide) c3 d3;have G5:cT l.prog w ⟨K,cl⟩ mg base 10 PF:=bS (x:="own_net") (N:=["net"]) (ps:=["net"]) (body:=gS) (f:=a4) T G4 F4 (mg_of X G A4) b4 (by decide) c4 d4;have G6:cT l.prog w ⟨K,cl⟩ mg base 12 PJ:=bS (x:="places_of") (N:=["net","places","tie"]) (ps:=["net"]) (body:=fj) (f:=a5) T G5 F5 (mg_of X G A5) b5 (by decide) c5 d5;have G7:cT l.prog w ⟨K,cl⟩ mg base 14 PK:=all_class (x:="Rule") (N:=["self","net","name","one","other"]) (ps:=["self","net"]) (body:=uE) (n:=1) (f:=a6) (c:=0) T G6 F6 (by rw[hcl];exact mg_of X G DA0) (by rw[hcl];exact⟨DM0,A6,I6,DK0⟩) b6 rfl (by decide) c6 d6;have G8:cT l.prog w ⟨K,cl⟩ mg base 16 PM:=all_class (x:="ByTrees") (N:=["self","net","name","one","other"]) (ps:=["self","net"]) (body:=lO) (n:=1) (f:=a7) (c:=1) T G7 F7 (by rw[hcl];exact mg_of X G DA1) (by rw[hcl];exact⟨DM1,A7,I7,DK1⟩) b7 rfl (by decide) c7 d7;have G9:cT l.prog w ⟨K,cl⟩ mg base 18 PN:=f9 (y:="Rule.__init__") (N:=["self","net","name","one","other"]) (ps:=["self","net"]) (body:=fS) (f:=a8) T G8 F8 (by rw[hcl];rfl) b8 c8 d8;have G10:cT l.prog w ⟨K,cl⟩ mg base 20 DW:=bS (x:="firsts_by") (N:=["places","pairs","firsts","place","one","other","kept","gone"]) (ps:=["places","pairs"]) (body:=fk) (f:=a9) T G9 F9 (mg_of X G A9) b9 (by decide) c9 d9;have G11:cT l.prog w ⟨K,cl⟩ mg base 22 DX:=f9 (y:="Rule.tree_rank") (N:=["self","row","firsts"]) (ps:=["self","row"]) (body:=cg) (f:=Jz) T G10 Xn (by rw[hcl];rfl) b10 Y4 Na;have G12:cT l.prog w ⟨K,cl⟩ mg base 24 DY:=bS (x:="names_of") (N:=["net"]) (ps:=["net"]) (body:=gg) (f:=Rk) T G11 Xo (mg_of X G A11) b11 (by decide) Y5 Y6;have G13:cT l.prog w ⟨K,cl⟩ mg base 26 DZ:=f9 (y:="Rule.ties") (N:=["self"]) (ps:=["self"]) (body:=fu) (f:=JA) T G12 Xp (by rw[hcl];rfl) b12 c12 Y7;have G14:cT l.prog w ⟨K,cl⟩ mg base 28 D3:=all_class (x:="ByRest") (N:=["self","net"]) (ps:=["self","net"]) (body:=nT) (n:=1) (f:=P6) (c:=2) T G13 Xq (by rw[hcl];exact mg_of X G DA2) (by rw[hcl];exact⟨DM2,A13,I13,DK2⟩) b13 rfl (by decide) Y8 Y9;have G15:cT l.prog w ⟨K,cl⟩ mg base 30 D4:=bS (x:="_law_rule") (N:=["_law_kind","_law_net_here"]) (ps:=["_law_kind","_law_net_here"]) (body:=fT) (f:=Rm) T G14 Xr (mg_of X G A14) b14 (by decide) Za Zb;have G16:cT l.prog w ⟨K,cl⟩ mg base 32 D5:=f9 (y:="Rule.rank") (N:=["self","row"]) (ps:=["self","row"]) (body:=fy) (f:=Nc) T G15 Xs (by rw[hcl];rfl) b15 Zc Zd;have G17:cT l.prog w ⟨K,cl⟩ mg base 34 D6:=f9 (y:="ByTrees.rank") (N:=["self","row"]) (ps:=["self","row"]) (body:=cL) (f:=Nd) T G16 Xu (by rw[hcl];rfl) b16 Ze Zf;have G18:cT l.prog w ⟨K,cl⟩ mg base 36 D7:=f9 (y:="ByRest.rank") (N:=["self","row","rest"]) (ps:=["self","row"]) (body:=cY) (f:=Nf) T G17 Xv (by rw[hcl];rfl) b17 Zg Zh;have G19:cT l.prog w ⟨K,cl⟩ mg base 38 D8:=f9 (y:="Rule.reach") (N:=["self","row","rank"]) (ps:=["self","row"]) (body:=dX) (f:=JB) T G18 Xw (by rw[hcl];rfl) b18 Zi Zj;have G20:cT l.prog w ⟨K,cl⟩ mg base 40 D9:=f9 (y:="Rule.free") (N:=["self","row"]) (ps:=["self","row"]) (body:=fz) (f:=JC) T G19 Xx (by rw[hcl];rfl) b19 Zk Zl;have G21:cT l.prog w ⟨K,cl⟩ mg base 42 Ea:=bS (x:="_law_grow") (N:=["_law_rule_here","_law_fewer","_law_more"]) (ps:=["_law_rule_here","_law_fewer","_law_more"]) (body:=jc) (f:=Rn) T G20 Xy (mg_of X G A20) b20 (by decide) Zm Zn;have G22:cT l.prog w ⟨K,cl⟩ mg base 44 Eb:=bS (x:="_law_whole") (N:=["_law_found"]) (ps:=["_law_found"]) (body:=gT) (f:=Ro) T G21 Xz (mg_of X G A21) b21 (by decide) Zo Zp;have G23:cT l.prog w ⟨K,cl⟩ mg base 46 Ec:=bS (x:="_law_two") (N:=["_law_rule_here","_law_one","_law_other","_law_name","_law_either","_law_both","_law_sizes","_law_closed"]) (ps:=["_law_rule_here","_law_one","_law_other","_law_name"]) (body:=gh) (f:=Rp) T G22 XA (mg_of X G A22) b22 (by decide) Zq Zr;have G24:cT l.prog w ⟨K,cl⟩ mg base 48 Ed:=bS (x:="_law_gap_numbers") (N:=["_law_cell_here","_law_many","_law_number_here","_law_found","_law_k"]) (ps:=["_law_cell_here","_law_many"]) (body:=bQ) (f:=Rq) T G23 XC (mg_of X G A23) b23 (by decide) Zs Zt;have G25:cT l.prog w ⟨K,cl⟩ mg base 50 Ef:=bS (x:="_law_any_net") (N:=["_law_script","_law_most","_law_rest","_law_many","_law_places","_law_one","_law_other","_law_names","_law_cell_here","_law_ties","_law_name","_law_here","_law_there"]) (ps:=["_law_script","_law_most"]) (body:=fB) (f:=Rt) T G24 XD (mg_of X G A24) b24 (by decide) Zu Zv;have G26:cT l.prog w ⟨K,cl⟩ mg base 52 Eg:=bS (x:="_law_row") (N:=["_law_names","_law_cell_here","_law_row_here","_law_name"]) (ps:=["_law_names","_law_cell_here"]) (body:=kg) (f:=Ru) T G25 XE (mg_of X G A25) b25 (by decide) Zw Zx;exact(zu T G26 F26 Zy Zz).imp (LQ hφ)
end
end K25
end
section
open PySem L2 Hv
set_option hygiene false
local macro_rules | `(tactic| simp only[EV,$ls,*] $[$l:location]?)=>`(tactic| simp only[e9,DF,DG,DH,wo,Jc,Jd,Je,Jf,Jg,Dv,Jh,Dw,Dy,Pg,zH,Ji,aN,aQ,CW,bz,qz,gB,M9,rN,LR,Dq,bF,Dt,ff,mH,Du,isVar,ig,List.getElem?_cons_zero,getElem?_cons_succ,set_cons_zero,set_cons_succ,map_cons,map_nil,length_cons,length_nil,cons_append,nil_append,List.replicate_succ,List.replicate_zero,Nat.reduceSub,Nat.reduceAdd,Nat.reduceLeDiff,Jj,Jk,Ph,Pj,Pk,Pn,Po,Pp,Jm,Jo,zK,Jp,Jq,Jr,Js,Jt,Ju,Jv,Dz,DA,DC,DE,zL,Jw,ju,bD,oA,Rh,cS,iU,Hv.stored,List.contains_nil,List.contains_cons,elem_nil,List.elem_cons,Nat.reduceBEq,Nat.reduceEqDiff,BEq.rfl,all_cons,List.all_nil,beq_self_eq_true,sN,fH,qA,jZ,nO,↓reduceIte,Bool.and_true,Bool.true_and,Bool.false_and,Bool.and_false,Bool.or_false,Bool.false_or,Bool.or_true,Bool.true_or,Bool.or_self,zero_le,Bool.not_true,Bool.not_false,false_eq_true,decide_eq_true_eq,not_eq_true',decide_eq_false_iff_not,append_nil,nil_append,reduceCtorEq,$ls,*] $[$l:location]?)
section
open PySem L2 Hv
namespace K25
noncomputable def cellAt(ns:List Int)(k:Nat):Int:=ns.getD k 0
theorem fX(ns:List Int)(k:Nat):bH [.rl (ns.map .int),.int k]=.ok (true,.int (cellAt ns k)):=by
 unfold bH jb
 by_cases h:k<ns.length
 ·have e:iR (List.map Val.int ns) (k:Int)=some (.int (ns[k])):=kE (by simp[h])
  have h':(k:Int)<ns.length:=by omega
  simp only[EV,dU e,length_map,h',cellAt,List.getD,List.getElem?_eq_getElem h,Option.getD_some]
 ·have h':¬ (k:Int)<ns.length:=by omega
  have e:ns[k]?=none:=by simp;omega
  simp only[EV,length_map,h',cellAt,List.getD,e,getD_none]
noncomputable def gZ(one two k:Int):Int:=(if 0<one%3 then 1+one/3%10 ^ 56 else 1)*(((1+two%66)*k+one)%67)+(if 0<one%3 then two/66%10 ^ 58 else 0)
theorem Bs(a b:Int)(h:0<=b/\b<67):lg a b=true:=by
 unfold lg;simp only[or_eq_true,and_eq_true,decide_eq_true_eq];right;omega
theorem yH(a b:Int)(h:0<=a/\a<67):lg a b=true:=by
 unfold lg;simp only[or_eq_true,and_eq_true,decide_eq_true_eq];left;omega
theorem zU(one two k:Int):gU [.int one,.int two,.int k]=.ok (true,.int (gZ one two k)):=by
 unfold gU gf gZ;have m1:lg (1+two%66) k=true:=yH _ _ (by omega);have m2:∀x,lg x (((1+two%66)*k+one)%67)=true:=λx=>Bs _ _ (by omega);simp only[EV,eG (show decide ((0:Int)<3)=true by decide),eG (show decide ((0:Int)<66)=true by decide),eG (show decide ((0:Int)<67)=true by decide),cX (show gy 3=true by decide),cX (show gy 66=true by decide),zJ (show decide ((0:Int)<=56/\(56:Int)<=1000000/\(10:Int).natAbs<2 ^ 64)=true by decide),zJ (show decide ((0:Int)<=58/\(58:Int)<=1000000/\(10:Int).natAbs<2 ^ 64)=true by decide),Jl m1,Jl (m2 _),eG (show decide ((0:Int)<10 ^ (56:Int).toNat)=true by decide),eG (show decide ((0:Int)<10 ^ (58:Int).toNat)=true by decide)]
 repeat' split
 all_goals first|rfl|contradiction
theorem HS(one two k:Int):0<=gZ one two k:=by
 unfold gZ;generalize ((1+two%66)*k+one)=z;have hs:∃st:Int,(if 0<one%3 then 1+one/3%10 ^ 56 else 1)=st/\1<=st:=by refine⟨_,rfl,?_⟩;split<;>omega
 have hf:∃sh:Int,(if 0<one%3 then two/66%10 ^ 58 else 0)=sh/\0<=sh:=by refine⟨_,rfl,?_⟩;split<;>omega
 obtain⟨st,e1,a1⟩:=hs;obtain⟨sh,e2,b1⟩:=hf;rw[e1,e2];have p1:0<=st*(z%67):=Int.mul_nonneg (by omega) (by omega);omega
theorem En(one two i j:Int)(hi:0<=i/\i<67)(hj:0<=j/\j<67)(e:gZ one two i=gZ one two j):i=j:=by
 unfold gZ at e;have hs:∃st:Int,(if 0<one%3 then 1+one/3%10 ^ 56 else 1)=st/\1<=st:=by refine⟨_,rfl,?_⟩;split<;>omega
 obtain⟨st,e1,a1⟩:=hs;rw[e1] at e;have e2:st*(((1+two%66)*i+one)%67)=st*(((1+two%66)*j+one)%67):=by omega
 have e3:=Int.eq_of_mul_eq_mul_left (by omega:st≠0) e2;exact HE (by omega) hi hj e3
theorem JD{n:Int}(h:inR n=true):jY .range [.int n]=some ((List.range n.toNat).map λ(i:Nat)=>Val.int (0+(i:Int))):=by
 show (if inR n=true then some (cE 0 n.toNat) else none)=_;rw[if_pos h];rfl
structure aP (p q:Int) (ts:List T3):Prop where
 ord:p<=q
 len:ts.length<=14
 up:DL ts
 ends:∀t∈ts,t.2.1<=t.2.2
 names:∀t∈ts,0<=t.1
theorem qT:∀(i:Nat) (ms:List Int) (pre post:List Val) (x:Val),cV i (ms.map .int)=pre++x::post->∃c:Int,x=.tup [.int ((i+pre.length:Nat):Int),.int c]
 | _,[],pre,post,x,h=>by simp[cV] at h
 | i,d::r,[],post,x,h=>by
  rw[map_cons,cV,nil_append] at h;injection h with h _
  exact⟨d,by rw[<-h];rfl⟩
 | i,d::r,y::pre,post,x,h=>by
  rw[map_cons,cV,cons_append] at h;injection h with _ h
  obtain⟨c,e⟩:=qT (i+1) r pre post x h;exact⟨c,by rw[e,length_cons];congr 4;omega⟩
structure yI (one two:Int) (ts:List T3):Prop where
 name:∀i (h:i<ts.length),(ts[i]).1=gZ one two i
 ends:∀t∈ts,t.2.1<=t.2.2
theorem yI.nodup{one two:Int}(h:yI one two ts)(hl:ts.length<=14):(ts.map (·.1)).Nodup:=by
 unfold List.Nodup;rw[pairwise_iff_getElem];intro i j hi hj hij;rw[length_map] at hi hj;rw[getElem_map,getElem_map,h.name i hi,h.name j hj];intro e;have:=En one two i j (by omega) (by omega) e;omega
theorem Qp(a b:Int):∃x y,PySem.W.sortI [a,b]=[x,y]/\x<=y:=by
 have hl:(PySem.W.sortI [a,b]).length=2:=(sortI_perm _).length_eq;have hs:=PySem.W.sortI_rises [a,b]
 match h:PySem.W.sortI [a,b],hl,hs with
 | [x,y],_,hs=>exact⟨x,y,rfl,by simpa using hs⟩
theorem xg(h:fE xs=some ys):gb .sorted [.rl xs]=.ok (true,.rl ys):=by
 show (pb (pl (fE xs)) (λys:List Val=>Pr.ok ((true,Val.rl ys):FV)):Pr FV)=_;rw[h];rfl
theorem MG(ns ms:List Int)(hm:ms.length<=14):∃p q ts,mK [.rl (ns.map .int),.rl (ms.map .int)]=.ok (true,bK p q ts)/\aP p q ts/\ts.length=ms.length:=by
 have c0:bH [.rl (ns.map .int),.int 0]=.ok (true,.int (cellAt ns 0)):=fX ns 0;have c1:bH [.rl (ns.map .int),.int 1]=.ok (true,.int (cellAt ns 1)):=fX ns 1;have c2:bH [.rl (ns.map .int),.int 2]=.ok (true,.int (cellAt ns 2)):=fX ns 2;unfold mK kc;generalize cellAt ns 0=one at *;generalize cellAt ns 1=two at *;generalize cellAt ns 2=pick at *;have Qq:2<=2+pick%7/\2+pick%7<=8:=by omega
 simp only[EV,oX,c0,c1,c2,eG (show decide ((0:Int)<7)=true by decide)];generalize XF:2+pick%7=many at *;have hR:inR many=true:=by unfold inR;simp only[and_eq_true,decide_eq_true_eq];omega
 have hc:many.toNat<=100000:=by omega
 simp only[EV,JD hR,gc,length_map,length_range,hc];rw[fR (λi:Nat=>Val.int (0+(i:Int))) (λi:Nat=>.int (gZ two one (0+(i:Int)))) (List.range many.toNat) (λi hi=>by
  simp only[EV,bG,iB,zU])]
 have hpl:∀i:Int,0<=i->i<many->iR ((List.range many.toNat).map λi:Nat=>Val.int (gZ two one (0+(i:Int)))) i=some (.int (gZ two one i)):=λi h0 h1=>by
  obtain⟨k,rfl⟩:=eq_ofNat_of_zero_le h0;refine kE ?_;rw[getElem?_map,List.getElem?_range (by omega)];simp
 generalize ePl:((List.range many.toNat).map λi:Nat=>Val.int (gZ two one (0+(i:Int))))=Pl at *;simp only[EV,Pq]
 repeat rw[qE]
 have hx:cV 0 (ms.map Val.int)=(cV 0 (ms.map Val.int)).map id:=(map_id _).symm;rw[hx];have hmp:decide (0<many)=true:=by rw[decide_eq_true_eq];omega
 have Rv:gy many=true:=by unfold gy;rw[decide_eq_true_eq];omega
 have z3:3<=sizeLine:=by decide
 have z2:2<=sizeLine:=by decide
 refine cQ id (λr:Pr FV=>∃p q ts,r=.ok (true,bK p q ts)/\aP p q ts/\ts.length=ms.length)
  (λdone env=>∃(ts:List T3) (m6:Mk) (a b c d:Option (Mk×Val)),env=[some (.sh,.rl (ns.map .int)),some (.sh,.rl (ms.map .int)),some (.sh,.int one),some (.sh,.int two),some (.sh,.int pick),some (.sh,.int many),some (m6,.rl Pl),some (.ow,.rl (ts.map dW)),a,b,c,d,none]/\lu m6=true/\ts.length=done.length/\yI one two ts)
  ⟨[],_,none,none,none,none,rfl,by first|rfl|exact wo,rfl,⟨λi h=>by simp at h,λ_ h=>by simp at h⟩⟩ ?_ ?_
 ·rintro pre x post env hx ⟨ts,m6,a,b,c,d,rfl,h6,hl,ok⟩
  have aaa:pre.length<14:=by have:=congrArg length hx;rw[kM,length_map,length_append,length_cons] at this;omega
  obtain⟨cell,rfl⟩:=qT _ _ _ _ _ hx;rw[Nat.zero_add];have i1:=hpl (cell%many) (emod_nonneg _ (by omega)) (emod_lt_of_pos _ (by omega));have i2:=hpl (cell/many%many) (emod_nonneg _ (by omega)) (emod_lt_of_pos _ (by omega));generalize gZ two one (cell%many)=n1 at *;generalize gZ two one (cell/many%many)=n2 at *;have e3:=zU one two (pre.length:Int);have z:ts.length<sizeLine:=by rw[hl];unfold sizeLine;omega
  have tt:Val.tup [.int (gZ one two (pre.length:Int)),.int (if n2<n1 then n2 else n1),.int (if n2>n1 then n2 else n1)]=dW (turnT (gZ one two (pre.length:Int),n1,n2)):=rfl;refine⟨_,?_,ts++[turnT (gZ one two (pre.length:Int),n1,n2)],m6,some (.sh,.int pre.length),some (.sh,.int cell),some (.sh,.int n1),some (.sh,.int n2),rfl,h6,by simp[hl],⟨λi hi=>?_,λt ht=>?_⟩⟩
  ·simp only[EV,id,Mv,h6,eG hmp,cX Rv,dU i1,dU i2,iB,e3,z3,tt,length_map,z,map_append]
  ·rw[List.getElem_append]
   split
   ·exact ok.name i (by assumption)
   ·simp only[length_append,length_cons,length_nil] at hi
    have:i=pre.length:=by omega
    subst this;simp[hl,turnT]
  ·rcases mem_append.mp ht with ht|ht
   ·exact ok.ends t ht
   ·rw[mem_singleton] at ht;subst ht;unfold turnT;dsimp only;split<;>split<;>omega
 ·rintro env ⟨ts,m6,a,b,c,d,rfl,h6,hl,ok⟩
  have Qs:ts.length<=14:=by rw[hl,kM,length_map];exact hm
  have j0:=hpl 0 (by omega) (by omega);have j1:iR Pl (1-(if pick/7%8=3 then 1 else 0))=some (.int (gZ two one (1-(if pick/7%8=3 then 1 else 0)))):=hpl _ (by split<;>omega) (by split<;>omega);obtain⟨x,y,es,hxy⟩:=Qp (gZ two one 0) (gZ two one (1-(if pick/7%8=3 then 1 else 0)));generalize gZ two one (1-(if pick/7%8=3 then 1 else 0))=n1 at *;have esV:gb .sorted [.rl [.int (gZ two one 0),.int n1]]=.ok (true,.rl [.int x,.int y]):=by refine xg ?_;show (if 2<64 then some ((PySem.W.sortI [gZ two one 0,n1]).map Val.int) else none)=_;rw[if_pos (by decide),es];rfl
  have eI:∀b:Bool,gb .int [.bl b]=.ok (true,.int (if b=true then 1 else 0)):=λ_=>rfl;have dI:(if decide (pick/7%8=3)=true then (1:Int) else 0)=if pick/7%8=3 then 1 else 0:=by
   by_cases c:pick/7%8=3<;>simp[c]
  refine⟨x,y,jJ ts,?_,⟨hxy,?_,?_,?_,?_⟩,?_⟩
  ·simp only[EV,h6,dU j0,cX (show gy 7=true by decide),eG (show decide ((0:Int)<8)=true by decide),eI,dI,dU j1,z2,esV,dU Ht,dU Bg,wC (show ts.length<64 by omega)];rfl
  ·rw[(fQ ts).length_eq];exact Qs
  ·exact wD ts (ok.nodup Qs)
  ·exact λt ht=>ok.ends t ((fQ ts).mem_iff.mp ht)
  ·intro t ht;obtain⟨i,hi,rfl⟩:=getElem_of_mem ((fQ ts).mem_iff.mp ht);rw[ok.name i hi];exact HS _ _ _
  ·rw[(fQ ts).length_eq,hl,kM,length_map]
end K25
end
section
open PySem L2 Hv
namespace K25
noncomputable def XG(t:T3):Int×Int:=(t.2.1,t.2.2)
noncomputable def jN(p q:Int)(ts:List T3):List Int:=p::q::ts.flatMap λt=>[t.2.1,t.2.2]
noncomputable def qZ(p q:Int)(ts:List T3):List Int:=gO (jN p q ts)
theorem nY(p q:Int)(ts:List T3):(jN p q ts).length=2+2*ts.length:=by
 unfold jN
 induction ts with
 | nil=>rfl
 | cons t r ih=>simp only[List.flatMap_cons,length_cons,length_append,length_nil] at *;omega
theorem xh:∀(ns ks:List Int),(eW ks ns).length<=ks.length+ns.length
 | [],ks=>Nat.le_refl _
 | k::r,ks=>by
  rw[eW,length_cons];have:=xh r (qc ks k);have:=qd ks k;omega
theorem HU{p q:Int}(h:ts.length<=14):(qZ p q ts).length<64:=by
 unfold qZ gO;rw[(sortI_perm _).length_eq];have:=xh (jN p q ts) [];rw[nY] at this;simp only[length_nil] at this;omega
theorem pG{p q x:Int}:x∈qZ p q ts↔x=p\/x=q\/∃t∈ts,x=t.2.1\/x=t.2.2:=by
 unfold qZ;rw[DK];unfold jN;simp only[mem_cons,List.mem_flatMap,not_mem_nil,or_false]
theorem places_eq{p q:Int}(h:ts.length<=14):cj [bK p q ts]=.ok (true,.rl ((qZ p q ts).map .int)):=by
 unfold cj fj bK;simp only[EV,oG Ht,oG Bg,fh];rw[qE];refine cQ dW (λr:Pr FV=>r=.ok (true,.rl ((qZ p q ts).map .int)))
  (λdone env=>∃a,env=[some (.sh,bK p q ts),some (.ow,.rl ((jN p q done).map .int)),a])
  ⟨none,rfl⟩ ?_ ?_
 ·rintro pre t post env hx ⟨a,rfl⟩
  refine⟨[some (.sh,bK p q ts),some (.ow,.rl ((jN p q (pre++[t])).map .int)),some (.sh,dW t)],?_,_,rfl⟩;have hpl:pre.length<14:=by have:=congrArg length hx;rw[length_append,length_cons] at this;omega
  have z:((jN p q pre).map Val.int).length+2<=sizeLine:=by rw[length_map,nY];unfold sizeLine;omega
  have ea:(jN p q (pre++[t])).map Val.int=(jN p q pre).map Val.int++[.int t.2.1,.int t.2.2]:=by unfold jN;simp
  simp only[EV,bG,Mw,z,ea]
 ·rintro env ⟨a,rfl⟩
  have hl:(jN p q ts).length<64:=by rw[nY];omega
  simp only[EV,ints_map,hl];rfl
end K25
end
section
open PySem L2 Hv
namespace K25
noncomputable def lA(e:Int×Int):Val:=.tup [.int e.1,.int e.2]
theorem HV{i j:Nat}:fG (.tup [i,j]) (lA e) env=some ((env.set i (some (.sh,.int e.1))).set j (some (.sh,.int e.2))):=rfl
theorem Bt(ps:List Int)(hn:ps.Nodup)(hl:ps.length<64)(es:List (Int×Int))(he:∀e∈es,e.1∈ps/\e.2∈ps):∃f φ,eL [.rl (ps.map .int),.rl (es.map lA)]=.ok (f,uT ps λx=>.int (φ x))/\ly ps es φ:=by
 unfold eL fk;simp only[EV,fh];rw[qE];have hz:∀pre:List Int,pre.length<=ps.length->(pre.map (Sum.inl:Int->Key)).length<sizeLine:=λpre h=>by rw[length_map];unfold sizeLine;omega
 refine cQ Val.int (λr:Pr FV=>∃f φ,r=.ok (f,uT ps λx=>.int (φ x))/\ly ps es φ)
  (λdone env=>∃a,env=[some (.sh,.rl (ps.map .int)),some (.sh,.rl (es.map lA)),some (.ow,uT done λx=>.int x),a,none,none,none,none])
  ⟨none,rfl⟩ ?_ ?_
 ·rintro pre x post env hx ⟨a,rfl⟩
  have VZ:x∉pre:=by rw[hx,nodup_append] at hn;exact λh=>hn.2.2 x h x (by simp) rfl
  refine⟨[some (.sh,.rl (ps.map .int)),some (.sh,.rl (es.map lA)),some (.ow,uT (pre++[x]) λx=>.int x),some (.sh,.int x),none,none,none,none],?_,_,rfl⟩;simp only[EV,bG,Jy,hz pre (by rw[hx];simp),Hw VZ];rw[kN (g':=λx=>Val.int x)];intro y _;unfold wz
  split
  ·rename_i e;rw[e]
  ·rfl
 ·rintro env ⟨a,rfl⟩
  simp only[EV,fh];rw[qE];refine cQ lA (λr:Pr FV=>∃f φ,r=.ok (f,uT ps λx=>.int (φ x))/\ly ps es φ)
   (λdone env=>∃(φ:Int->Int) (a b c d e:Option (Mk×Val)),env=[some (.sh,.rl (ps.map .int)),some (.sh,.rl (es.map lA)),some (.ow,uT ps λx=>.int (φ x)),a,b,c,d,e]/\ly ps done φ)
   ⟨id,_,_,_,_,_,rfl,ly.start ps⟩ ?_ ?_
  ·rintro pre e post env hx ⟨φ,a,b,c,d,f,rfl,Qt⟩
   obtain⟨h1,h2⟩:=he e (by rw[hx];simp);simp only[EV,HV,qG h1,qG h2,fh];have hk:∃kept gone:Int,(if φ e.2 < φ e.1 then φ e.2 else φ e.1)=kept/\(if φ e.2 > φ e.1 then φ e.2 else φ e.1)=gone/\((kept = φ e.1/\gone = φ e.2)\/(kept = φ e.2/\gone = φ e.1)):=by
    refine⟨_,_,rfl,rfl,?_⟩
    split<;>split<;>omega
   obtain⟨kept,gone,ek,eg,hk⟩:=hk;rw[ek,eg];refine cQ Val.int (λr:Pr EW=>∃env',r=.ok (.nx env')/\∃(φ:Int->Int) (a b c d f:Option (Mk×Val)),env'=[some (.sh,.rl (ps.map .int)),some (.sh,.rl (es.map lA)),some (.ow,uT ps λx=>.int (φ x)),a,b,c,d,f]/\ly ps (pre++[e]) φ)
    (λdone env=>∃a,env=[some (.sh,.rl (ps.map .int)),some (.sh,.rl (es.map lA)),some (.ow,uT ps λx=>.int (if x∈done /\ φ x=gone then kept else φ x)),a,some (.sh,.int e.1),some (.sh,.int e.2),some (.sh,.int kept),some (.sh,.int gone)])
    ⟨a,by simp⟩ ?_ ?_
   ·rintro done x post env hy ⟨a,rfl⟩
    have VZ:x∉done:=by rw[hy,nodup_append] at hn;exact λh=>hn.2.2 x h x (by simp) rfl
    have hxs:x∈ps:=by rw[hy];simp
    refine⟨_,?_,some (.sh,.int x),rfl⟩;simp only[EV,bG,qG hxs,Jy,hz ps (Nat.le_refl _),Hu hxs,VZ,false_and,if_false]
    by_cases hg:φ x=gone
    ·simp only[hg,↓reduceIte]
     rw[kN];intro y _;unfold wz
     by_cases e:y=x
     ·subst e;simp[hg]
     ·simp[e]
    ·simp only[hg,↓reduceIte]
     rw[kN];intro y _
     by_cases e:y=x
     ·subst e;simp[hg]
     ·simp[e]
   ·rintro env ⟨a,rfl⟩;refine⟨_,rfl,(λx=>if φ x=gone then kept else φ x),a,some (.sh,.int e.1),some (.sh,.int e.2),some (.sh,.int kept),some (.sh,.int gone),?_,Qt.step h1 h2 kept gone hk⟩;rw[kN];intro y hy;simp[hy]
  ·rintro env ⟨φ,a,b,c,d,e,rfl,Qt⟩;simp only[EV,bF];exact⟨_,φ,rfl,Qt⟩
end K25
end
section
open PySem L2 Hv
namespace K25
theorem order_eq{p q:Int}{us:List T3}(hl:us.length<=16):cZ [.tup [.int p,.int q],.rl (us.map dW)]=.ok (true,bK (if q<p then q else p) (if q>p then q else p) (jJ (us.map turnT))):=by
 unfold cZ cK;have z0:0<=sizeLine:=by decide
 have z2:2<=sizeLine:=by decide
 have z3:3<=sizeLine:=by decide
 simp only[EV,fh];rw[qE];refine cQ dW (λr:Pr FV=>r=.ok (true,bK (if q<p then q else p) (if q>p then q else p) (jJ (us.map turnT))))
  (λdone env=>∃a b c,env=[some (.sh,.tup [.int p,.int q]),some (.sh,.rl (us.map dW)),some (.ow,.rl ((done.map turnT).map dW)),a,b,c])
  ⟨none,none,none,rfl⟩ ?_ ?_
 ·rintro pre t post env hx ⟨a,b,c,rfl⟩
  have hpl:pre.length<16:=by have:=congrArg length hx;rw[length_append,length_cons] at this;omega
  have z:((pre.map turnT).map dW).length<sizeLine:=by rw[length_map,length_map];unfold sizeLine;omega
  refine⟨[some (.sh,.tup [.int p,.int q]),some (.sh,.rl (us.map dW)),some (.ow,.rl (((pre++[t]).map turnT).map dW)),some (.sh,.int t.1),some (.sh,.int t.2.1),some (.sh,.int t.2.2)],?_,_,_,_,rfl⟩;have ea:((pre++[t]).map turnT).map dW=(pre.map turnT).map dW++[dW (turnT t)]:=by simp
  simp only[EV,Hz,z3,z,ea];rfl
 ·rintro env ⟨a,b,c,rfl⟩;simp only[EV,oG Ht,oG Bg,z2,wC (show (us.map turnT).length<64 by rw[length_map];omega)];rfl
theorem Bu{p q:Int}(hl:us.length<=16):cR [bK p q us]=.ok (true,bK (if q<p then q else p) (if q>p then q else p) (jJ (us.map turnT))):=by
 have e:=order_eq (p:=p) (q:=q) hl;unfold cR gS;unfold bK at e |-;simp only[EV,jf,oG Ht,oG Bg,e]
end K25
end
section
open PySem L2 Hv
namespace K25
noncomputable def nameV(t:T3):Val:=.int t.1
theorem HW(h:t.2.1<=t.2.2):turnT t=t:=by
 obtain⟨a,b,c⟩:=t;unfold turnT;dsimp only at h |-;rw[Prod.mk.injEq,Prod.mk.injEq];refine⟨rfl,?_,?_⟩<;>split<;>omega
theorem HX:∀{l:List T3},(∀y∈l,x.1<y.1)->qJ x l=x::l
 | [],_=>rfl
 | y::r,h=>by
  rw[qJ];have lx:HT.lexLt (l3 y) (l3 x)=decide (y.1<x.1):=by show HT.lexLt (y.1::_) (x.1::_)=_;have:=h y mem_cons_self;rw[HT.fK,if_neg (by omega)]
  have:=h y mem_cons_self;rw[lx,if_neg (by simp;omega)]
theorem xj:∀{l:List T3},DL l->jJ l=l
 | [],_=>rfl
 | x::r,h=>by
  unfold DL at h;rw[pairwise_cons] at h;rw[jJ,xj h.2,HX h.1]
theorem MH{p q:Int}(ok:aP p q ts):cR [bK p q ts]=.ok (true,bK p q ts):=by
 have e:=Bu (p:=p) (q:=q) (us:=ts) (le_trans ok.len (by decide));have em:ts.map turnT=ts:=by rw[map_congr_left λt ht=>HW (ok.ends t ht)];exact map_id _
 have ep:(if q<p then q else p)=p:=by have:=ok.ord;split<;>omega
 have eq:(if q>p then q else p)=q:=by have:=ok.ord;split<;>omega
 rw[em,xj ok.up,ep,eq] at e;exact e
theorem Eo:∀ts:List T3,ck EY (ts.map dW)=some ts
 | []=>rfl
 | t::r=>by rw[map_cons,ck,show EY (dW t)=some t from rfl,bind_some,Eo r];rfl
noncomputable def lB(c:Nat)(p q:Int)(ts:List T3):Val:=.ob c ["net","places","ends"] [bK p q ts,.rl ((qZ p q ts).map .int),.dc ((bU p q ts).map (·.1)) ((bU p q ts).map (·.2))]
noncomputable def jh(c:Nat)(p q:Int)(ts:List T3)(w:Int):Val:=.ob c ["net","places","ends","whole"] [bK p q ts,.rl ((qZ p q ts).map .int),.dc ((bU p q ts).map (·.1)) ((bU p q ts).map (·.2)),.int w]
theorem qU{c jo jp:Nat}{p q:Int}(h1:Ψ jo=cR)(h2:Ψ jp=cj)(ok:aP p q ts):j9 Ψ c jo jp [bK p q ts]=.ok (true,lB c p q ts):=by
 have e1:=MH ok;have e2:=places_eq (p:=p) (q:=q) ok.len;unfold j9;dsimp only;rw[h1,e1];unfold bK at e2 |-;dsimp only;rw[Eo,ff,bF,h2];unfold pg;rw[if_pos (decide_eq_true (by have:=ok.len;omega)),e2];rfl
noncomputable def nms(ts:List T3):List Int:=-1::ts.map (·.1)
theorem ku(h:a.length+b.length<=sizeLine):lK .add (.rl a) (.rl b)=.ok (bD (a++b),.rl (a++b)):=by
 show pg _ _=_;unfold pg;rw[if_pos (decide_eq_true h)]
theorem Ep{c:Nat}{p q:Int}{ts:List T3}{m:Str}{js:List (Nat×Nat)}{j:Nat}(hj:js.lookup c=some j)(h:m ≠ "net" /\ m ≠ "places" /\ m ≠ "ends" /\ m ≠ "whole"):kR [] (lB c p q ts) m js=some j:=by
 unfold lB kR;dsimp only;have e:∀vs:List Val,vs.length=3->((["net","places","ends"]:List Str).zip vs).lookup m=none:=λvs hv=>by
  match vs,hv with
  | [a,b,c],_ =>rw[zip_cons_cons,lookup_cons,beq_false_of_ne h.1,zip_cons_cons,lookup_cons,beq_false_of_ne h.2.1,zip_cons_cons,lookup_cons,beq_false_of_ne h.2.2.1];rfl
 rw[e _ rfl];exact hj
theorem qV{c:Nat}{p q w:Int}{ts:List T3}{m:Str}{js:List (Nat×Nat)}{j:Nat}(hj:js.lookup c=some j)(h:m ≠ "net" /\ m ≠ "places" /\ m ≠ "ends" /\ m ≠ "whole"):kR [] (jh c p q ts w) m js=some j:=by
 unfold jh kR;dsimp only;have e:∀vs:List Val,vs.length=4->((["net","places","ends","whole"]:List Str).zip vs).lookup m=none:=λvs hv=>by
  match vs,hv with
  | [a,b,c,d],_ =>rw[zip_cons_cons,lookup_cons,beq_false_of_ne h.1,zip_cons_cons,lookup_cons,beq_false_of_ne h.2.1,zip_cons_cons,lookup_cons,beq_false_of_ne h.2.2.1,zip_cons_cons,lookup_cons,beq_false_of_ne h.2.2.2];rfl
 rw[e _ rfl];exact hj
theorem Bv{c:Nat}(hc:c<3){p q w:Int}:iG 3 [] (jh c p q ts w) "whole" = some (.int w):=by
 unfold jh iG;dsimp only;rw[if_pos hc];rfl
theorem cN(l:List Int):bD (l.map Val.int)=true:=bO l
theorem Er{p q:Int}(ok:aP p q ts):PySem.W.sortI (nms ts)=nms ts:=by
 refine(eq_sortI (List.Perm.refl _) ?_).symm;unfold nms;rw[pairwise_cons];refine⟨λx hx=>?_,?_⟩
 ·obtain⟨t,ht,rfl⟩:=mem_map.mp hx;have:=ok.names t ht;omega
 ·rw[pairwise_map];have:=ok.up;unfold DL at this;exact this.imp λh=>by omega
theorem jk{p q:Int}(ok:aP p q ts):(nms ts).Nodup:=by
 unfold nms;rw[nodup_cons];refine⟨λh=>?_,?_⟩
 ·obtain⟨t,ht,e⟩:=mem_map.mp h;have:=ok.names t ht;omega
 ·have:=ok.up;unfold DL at this;rw[List.Nodup,pairwise_map];exact this.imp λh=>by omega
theorem tyi(t:Int):gb (.isin "int") [.int t]=.ok (true,.bl true):=Bh (t:="int") rfl (by decide)
theorem V3(t:Int):gb (.isin "bool") [.int t]=.ok (true,.bl false):=yx (t:="int") rfl (by decide)
theorem zV(l:List Int):cop [] .ne (.rl (l.map .int)) (.rl (l.map .int))=some false:=by
 refine ne_self (DI Val.int PyData.int l λ_ _=>rfl) ?_;rw[PyData.canLay0];exact qF _ _ λt _=>by rw[PyData.canLay0]
noncomputable def o5:List Int->Int->List Int
 | [],_=>[]
 | x::r,c=>if c%2=1 then x::o5 r (c/2) else o5 r (c/2)
theorem mV:∀(ns:List Int) (c:Int),(o5 ns c).Sublist ns
 | [],_=>.slnil
 | x::r,c=>by
  rw[o5]
  split
  ·exact(mV r _).cons_cons x
  ·exact(mV r _).cons x
theorem Es(ns:List Int)(c:Int)(h:ns.length<64):mP [.rl (ns.map .int),.int c]=.ok (true,.rl ((o5 ns c).map .int)):=by
 unfold mP kg;simp only[EV,fh,show 0<=sizeLine by decide]
 repeat rw[qE]
 refine cQ Val.int (λr:Pr FV=>r=.ok (true,.rl ((o5 ns c).map .int)))
  (λdone env=>∃(l:List Int) (c':Int) (a:Option (Mk×Val)),env=[some (.sh,.rl (ns.map .int)),some (.sh,.int c'),some (.ow,.rl (l.map .int)),a]/\o5 ns c=l++o5 (ns.drop done.length) c'/\l.length<=done.length)
  ⟨[],c,none,rfl,rfl,Nat.le_refl _⟩ ?_ ?_
 ·rintro pre x post env hx ⟨l,c',a,rfl,hl,hle⟩
  have hd:ns.drop pre.length=x::post:=by rw[hx];simp
  have hd2:ns.drop (pre++[x]).length=post:=by rw[hx];simp
  have hpl:pre.length<64:=by have:=congrArg length hx;rw[length_append,length_cons] at this;omega
  have z:(l.map Val.int).length<sizeLine:=by rw[length_map];unfold sizeLine;omega
  rw[hd,o5] at hl;simp only[EV,bG,eG (show decide ((0:Int)<2)=true by decide),cX (show gy 2=true by decide)]
  by_cases e:c'%2=1
  ·rw[if_pos e] at hl;refine⟨_,?_,l++[x],c'/2,some (.sh,.int x),rfl,by rw[hd2,hl];simp,by simp;omega⟩;simp only[EV,e,decide_true,z,map_append,cX (show gy 2=true by decide)]
  ·rw[if_neg e] at hl;refine⟨_,?_,l,c'/2,some (.sh,.int x),rfl,by rw[hd2,hl],by simp;omega⟩;simp only[EV,e,decide_false,cX (show gy 2=true by decide)]
 ·rintro env ⟨l,c',a,rfl,hl,hle⟩;rw[List.drop_length,o5,append_nil] at hl;simp only[EV,hl,cN]
noncomputable def jl(p q:Int)(ts:List T3)(x:Int):Int×Int:=match ts.find? (λt=>decide (t.1=x)) with
 | some t=>(t.2.1,t.2.2)
 | none=>(p,q)
theorem Et:∀{ts:List T3},(ts.map (·.1)).Nodup->t∈ts->ts.find? (λu=>decide (u.1=t.1))=some t
 | u::r,hn,ht=>by
  rw[map_cons,nodup_cons] at hn;rw[find?_cons]
  by_cases e:u.1=t.1
  ·rw[decide_eq_true e]
   rcases mem_cons.mp ht with rfl|ht
   ·rfl
   ·exact absurd (e▸mem_map_of_mem (f:=(·.1)) ht) hn.1
  ·rw[decide_eq_false e]
   rcases mem_cons.mp ht with rfl|ht
   ·exact absurd rfl e
   ·exact Et hn.2 ht
theorem xm{p q:Int}(ok:aP p q ts):(ts.map (·.1)).Nodup:=(nodup_cons.mp (jk ok)).2
theorem Eu{p q:Int}(ok:aP p q ts)(ht:t∈ts):jl p q ts t.1=(t.2.1,t.2.2):=by
 unfold jl;rw[Et (xm ok) ht]
theorem Ew{p q:Int}(ok:aP p q ts):jl p q ts (-1)=(p,q):=by
 unfold jl;rw[List.find?_eq_none.mpr λt ht=>by have:=ok.names t ht;simp;omega]
theorem uJ{p q:Int}(ok:aP p q ts){x:Int}(hx:x∈nms ts):(jl p q ts x).1∈qZ p q ts/\(jl p q ts x).2∈qZ p q ts:=by
 unfold nms at hx
 rcases mem_cons.mp hx with rfl|hx
 ·rw[Ew ok];exact⟨pG.mpr (.inl rfl),pG.mpr (.inr (.inl rfl))⟩
 ·obtain⟨t,ht,rfl⟩:=mem_map.mp hx;rw[Eu ok ht];exact⟨pG.mpr (.inr (.inr ⟨t,ht,.inl rfl⟩)),pG.mpr (.inr (.inr ⟨t,ht,.inr rfl⟩))⟩
theorem zW(g:Int->Val):∀(us:List T3) (ks:List Int),(∀u∈us,u.1∉ks)->(us.map (·.1)).Nodup->(∀u∈us,g u.1=.tup [.int u.2.1,.int u.2.2]) ->
  us.foldl ja (ks.map λx=>((Sum.inl x:Key),g x))=(ks++us.map (·.1)).map λx=>((Sum.inl x:Key),g x)
 | [],ks,_,_,_=>by simp
 | u::r,ks,h1,h2,h3=>by
  rw[map_cons,nodup_cons] at h2;have e:ja (ks.map λx=>((Sum.inl x:Key),g x)) u=(ks++[u.1]).map λx=>((Sum.inl x:Key),g x):=by unfold ja gP;rw[yD,if_neg (by simpa using h1 u mem_cons_self),map_append,map_cons,map_nil,h3 u mem_cons_self]
  rw[List.foldl_cons,e,zW g r (ks++[u.1]) (λv hv z=>?_) h2.2 λv hv=>h3 v (mem_cons_of_mem _ hv)]
  ·simp
  ·rcases mem_append.mp z with z|z
   ·exact h1 v (mem_cons_of_mem _ hv) z
   ·rw[mem_singleton] at z;exact h2.1 (z▸mem_map_of_mem (f:=(·.1)) hv)
noncomputable def nZ(p q:Int)(ts:List T3)(x:Int):Val:=lA (jl p q ts x)
noncomputable def MI(p q:Int)(ts:List T3):Val:=uT (nms ts) (nZ p q ts)
theorem zX{p q:Int}(ok:aP p q ts):Val.dc ((bU p q ts).map (·.1)) ((bU p q ts).map (·.2))=MI p q ts:=by
 have e:bU p q ts=(nms ts).map λx=>((Sum.inl x:Key),nZ p q ts x):=by
  have h:=zW (nZ p q ts) ts [-1] (λu hu z=>by
   rw[mem_singleton] at z;have:=ok.names u hu;omega) (xm ok) λu hu=>by unfold nZ;rw[Eu ok hu];rfl
  unfold bU nms;rw[map_cons,map_nil] at h;have e1:nZ p q ts (-1)=.tup [.int p,.int q]:=by unfold nZ;rw[Ew ok];rfl
  rw[e1] at h;exact h
 rw[e,map_map,map_map];rfl
structure Ex (o:Val) (p q:Int) (ts:List T3):Prop where
 net:iG 3 [] o "net" = some (bK p q ts)
 places:iG 3 [] o "places" = some (.rl ((qZ p q ts).map .int))
 ends:iG 3 [] o "ends" = some (MI p q ts)
theorem uK{c:Nat}(hc:c<3){p q:Int}(ok:aP p q ts):Ex (lB c p q ts) p q ts:=by
 refine⟨?_,?_,?_⟩
 ·unfold lB iG;dsimp only;rw[if_pos hc];rfl
 ·unfold lB iG;dsimp only;rw[if_pos hc];rfl
 ·rw[<-zX ok];unfold lB iG;dsimp only;rw[if_pos hc];rfl
theorem uL{c:Nat}(hc:c<3){p q w:Int}(ok:aP p q ts):Ex (jh c p q ts w) p q ts:=by
 refine⟨?_,?_,?_⟩
 ·unfold jh iG;dsimp only;rw[if_pos hc];rfl
 ·unfold jh iG;dsimp only;rw[if_pos hc];rfl
 ·rw[<-zX ok];unfold jh iG;dsimp only;rw[if_pos hc];rfl
theorem Ey{p q:Int}(h:ts.length<=14):gW [bK p q ts]=.ok (true,.rl (ts.map nameV)):=by
 unfold gW gg bK;have hc:ts.length<=100000:=by omega
 simp only[EV,oG Bg,fh,gc,length_map,hc];rw[fR dW nameV ts (λt ht=>by
  have i0:mh [] (dW t) (.int 0)=some (.int t.1):=rfl;simp only[EV,bG,i0,nameV])]
 simp only[EV,bF]
theorem uM{p q:Int}(ro:Ex o p q ts)(h:ts.length<=14):cH [o]=.ok (true,.rl ((nms ts).map .int)):=by
 have e1:=Ey (p:=p) (q:=q) h;unfold cH fu;have z1:1<=sizeLine:=by decide
 have z:([.int (-1)]:List Val).length+(ts.map nameV).length<=sizeLine:=by rw[length_map];simp;unfold sizeLine;omega
 simp only[EV,ro.net,jP,e1,z1,ku z];have em:[Val.int (-1)]++ts.map nameV=(nms ts).map .int:=by unfold nms;rw[map_cons,map_map];rfl
 have en:bD (ts.map nameV)=true:=by rw[show ts.map nameV=(ts.map (·.1)).map Val.int by rw[map_map];rfl];exact cN _
 rw[show Val.int (-1)::ts.map nameV=(nms ts).map .int from em,en]
theorem Qu(e:Int×Int):ju (lA e)=true:=rfl
theorem Ez(p q:Int)(ts:List T3)(x:Int):ju (nZ p q ts x)=true:=rfl
theorem V4{p q:Int}{x:Int}:mh [] (nZ p q ts x) (.int 0)=some (.int (jl p q ts x).1):=rfl
theorem V5{p q:Int}{x:Int}:mh [] (nZ p q ts x) (.int 1)=some (.int (jl p q ts x).2):=rfl
theorem HY{p q:Int}{x:Int}(h:x∈nms ts):mh [] (MI p q ts) (.int x)=some (nZ p q ts x):=qG h
theorem MJ(p q:Int)(ts:List T3):∀l:List Int,bD (l.map (nZ p q ts))=true
 | []=>rfl
 | x::r=>by rw[map_cons,bD,MJ p q ts r];rfl
theorem jG{p q:Int}(ok:aP p q ts):(nms ts).length<=15:=by
 have:=ok.len;unfold nms;simp;omega
noncomputable def eB(p q:Int)(ts:List T3)(P:List Int):Nat:=tr (qZ p q ts) (P.map (jl p q ts))
theorem EA{p q:Int}(ok:aP p q ts){P:List Int}(hP:∀x∈P,x∈nms ts):Nb (qZ p q ts) (P.map (jl p q ts)):=λe he=>by
 obtain⟨x,hx,rfl⟩:=mem_map.mp he;exact uJ ok (hP x hx)
theorem qW{p q:Int}(ok:aP p q ts)(ro:Ex o p q ts){P:List Int}(hP:∀x∈P,x∈nms ts)(hl:P.length<=15):aS [o,.rl (P.map .int)]=.ok (true,.int (eB p q ts P)):=by
 have hpl:=HU (p:=p) (q:=q) ok.len;have V6:(qZ p q ts).Nodup:=jD _;obtain⟨f,φ,ef,Qt⟩:=Bt (qZ p q ts) V6 hpl (P.map (jl p q ts)) (λe he=>by
  obtain⟨x,hx,rfl⟩:=mem_map.mp he;exact uJ ok (hP x hx))
 have et:eB p q ts P=rk φ (qZ p q ts):=oH Qt V6;rw[et];rw[map_map] at ef;unfold aS cg;have hc:P.length<=100000:=by omega
 have hc2:(qZ p q ts).length<=100000:=by omega
 simp only[EV,ro.places,ro.ends,fh,gc,length_map,hc];rw[fR Val.int (nZ p q ts) P (λx hx=>by
  simp only[EV,bG,ro.ends,HY (hP x hx),Ez])]
 have ef':eL [.rl ((qZ p q ts).map .int),.rl (P.map (nZ p q ts))]=.ok (f,uT (qZ p q ts) λx=>.int (φ x)):=ef;simp only[EV,gE,ef',ro.places,fh,gc,length_map,hc2];rw[eu Val.int Val.int (λx=>!decide (φ x=x)) (qZ p q ts) (λx hx=>by
  have hi:=qG (g:=λx=>Val.int (φ x)) hx;simp only[EV,bG,hi]
  by_cases c:φ x=x
  ·simp[c]
  ·simp[c])]
 simp only[EV,length_map];rfl
theorem HZ:∀us:List T3,bD (us.map dW)=true
 | []=>rfl
 | u::r=>by rw[map_cons,bD,HZ r];rfl
theorem EB{c jo jp jt jr:Nat}(hc:c<3){p q:Int}(h1:Ψ' jo=cR)(h2:Ψ' jp=cj)(h3:Ψ jt=cH)(h4:Ψ jr=aS)(ok:aP p q ts) :
  sW Ψ' Ψ c jo jp jt jr [bK p q ts]=.ok (true,jh c p q ts (eB p q ts (nms ts))):=by
 have e3:=uM (uK hc ok) ok.len;have e1:=qW ok (uK hc ok) (P:=nms ts) (λ_ h=>h) (jG ok);rw[<-h3] at e3;rw[<-h4] at e1;exact DP (qU h1 h2 ok) e3 e1
noncomputable def others(ts:List T3)(P:List Int):List Int:=(nms ts).filter λx=>!decide (x∈P)
theorem ic{P:List Int}:∀x∈others ts P,x∈nms ts:=λx hx=>(mem_filter.mp hx).1
theorem Ia{p q:Int}(ok:aP p q ts){P:List Int}:(others ts P).length<=15:=le_trans (List.length_filter_le _ _) (jG ok)
theorem EC{c:Nat}(hc:c<3)(jt:([(0,12),(1,12),(2,12)]:List (Nat×Nat)).lookup c=some 12)(jr:([(0,10),(1,10),(2,10)]:List (Nat×Nat)).lookup c=some 10){p q w:Int}(ok:aP p q ts){P:List Int}:bP [jh c p q ts w,.rl (P.map .int)]=.ok (true,.int ((P.length:Int)-w+eB p q ts (others ts P))):=by
 have e1:=qW ok (uL (w:=w) hc ok) (P:=others ts P) ic (Ia ok);have e3:=uM (uL (w:=w) hc ok) ok.len;have hl:(nms ts).length<=100000:=by have:=jG ok;omega
 have m1:=qV (p:=p) (q:=q) (w:=w) (ts:=ts) (m:="ties") jt (by decide);have m2:=qV (p:=p) (q:=q) (w:=w) (ts:=ts) (m:="tree_rank") jr (by decide);unfold bP cY;simp only[EV,m1,iO,e3,fh,gc,length_map,hl];rw[eu Val.int Val.int (λx=>!decide (x∈P)) (nms ts) (λx hx=>by
  simp only[EV,bG,qH]
  by_cases c:x∈P
  ·simp[c]
  ·simp[c])]
 have Wq:aS [jh c p q ts w,.rl (((nms ts).filter λx=>!decide (x∈P)).map .int)]=.ok (true,.int (eB p q ts (others ts P))):=e1;simp only[EV,m2,gj,Wq,Bv hc,length_map]
theorem tB:∀ks:List Int,aV (ks.map Val.int)=some ks
 | []=>rfl
 | k::r=>by
  have:=tB r;unfold aV at this |-;rw[map_cons,ck,this];rfl
theorem Rx{ks ms:List Int}(h:ks.length<=100000):IM [] (ks.map Sum.inl) (.rl (ms.map .int))=some (ks.filter λx=>!decide (x∈ms)):=by
 unfold IM;rw[wK,bind_some,show aB [] (.rl (ms.map .int))=some (ms.map .int) from rfl,bind_some,tB,bind_some,if_pos h]
 congr 1
 refine filter_congr λx _=>?_
 congr 1
 rw[Bool.eq_iff_iff,any_eq_true,decide_eq_true_eq];constructor
 ·rintro⟨m,hm,e⟩;rw[<-eq_of_beq e];exact hm
 ·exact λhm=>⟨x,hm,beq_self_eq_true _⟩
end K25
end
end
section
open PySem L2 Hv
namespace K25
theorem ED{p q:Int}{P Q:List Int}{x:Int}(h:∀y,y∈Q↔y∈P\/y=x):∀e,e∈Q.map (jl p q ts)↔e∈P.map (jl p q ts)\/e=((jl p q ts x).1,(jl p q ts x).2):=λe=>by
 constructor
 ·intro he
  obtain⟨y,hy,rfl⟩:=mem_map.mp he
  rcases(h y).mp hy with hy|rfl
  ·exact .inl (mem_map_of_mem hy)
  ·exact .inr rfl
 ·rintro(he|rfl)
  ·obtain⟨y,hy,rfl⟩:=mem_map.mp he;exact mem_map_of_mem ((h y).mpr (.inl hy))
  ·exact mem_map_of_mem (f:=jl p q ts) ((h x).mpr (.inr rfl))
section
variable {p q:Int} {ts:List T3}
noncomputable def Wy(p q:Int)(ts:List T3)(P:List Int)(x:Int):Prop:=Way (P.map (jl p q ts)) (jl p q ts x).1 (jl p q ts x).2
theorem Wy.mono{P Q:List Int}(h:∀y∈P,y∈Q){x:Int}(w:Wy p q ts P x):Wy p q ts Q x:=by
 unfold Wy at w |-;refine Way.mono (λe he=>?_) w;obtain⟨y,hy,rfl⟩:=mem_map.mp he;exact mem_map_of_mem (h y hy)
open Classical in
theorem JE(ok:aP p q ts){P Q:List Int}{x:Int}(hP:∀y∈P,y∈nms ts)(hx:x∈nms ts)(h:∀y,y∈Q↔y∈P\/y=x):eB p q ts Q=eB p q ts P+if Wy p q ts P x then 0 else 1:=by
 obtain⟨h1,h2⟩:=uJ ok hx;exact HG (ps:=qZ p q ts) (jD _) (EA ok hP) h1 h2 (ED (p:=p) (q:=q) (ts:=ts) h)
theorem gk(ok:aP p q ts){P Q:List Int}{x:Int}(hP:∀y∈P,y∈nms ts)(hx:x∈nms ts)(h:∀y,y∈Q↔y∈P\/y=x):eB p q ts P<=eB p q ts Q/\eB p q ts Q<=eB p q ts P+1:=by
 rw[JE ok hP hx h]
 split<;>omega
theorem mW(ok:aP p q ts){P Q:List Int}{x:Int}(hP:∀y∈P,y∈nms ts)(hx:x∈nms ts)(h:∀y,y∈Q↔y∈P\/y=x):Wy p q ts P x↔eB p q ts Q=eB p q ts P:=by
 rw[JE ok hP hx h]
 split
 ·exact⟨λ_=>rfl,λ_=>‹_›⟩
 ·exact⟨λw=>absurd w ‹_›,λe=>by omega⟩
theorem jm(ok:aP p q ts){P Q:List Int}(hP:∀y∈P,y∈nms ts)(h:∀y,y∈P↔y∈Q):eB p q ts P=eB p q ts Q:=by
 refine wL (jD _) (EA ok hP) λe=>⟨λhe=>?_,λhe=>?_⟩
 ·obtain⟨y,hy,rfl⟩:=mem_map.mp he;exact mem_map_of_mem ((h y).mp hy)
 ·obtain⟨y,hy,rfl⟩:=mem_map.mp he;exact mem_map_of_mem ((h y).mpr hy)
theorem bx{R:List Int}{x:Int}(y:Int):y∈R++[x]↔y∈R\/y=x:=by simp
theorem gF{R:List Int}{x:Int}(hR:∀y∈R,y∈nms ts)(hx:x∈nms ts):∀y∈R++[x],y∈nms ts:=λy hy=>by
 rcases(bx y).mp hy with h|rfl
 ·exact hR y h
 ·exact hx
theorem uO(ok:aP p q ts):∀(xs R:List Int),(∀y∈R,y∈nms ts)->(∀y∈xs,y∈nms ts)->eB p q ts R<=eB p q ts (R++xs)/\eB p q ts (R++xs)<=eB p q ts R+xs.length
 | [],R,_,_=>by rw[append_nil];exact⟨Nat.le_refl _,Nat.le_refl _⟩
 | x::xs,R,hR,hx=>by
  have h1:=gk ok (Q:=R++[x]) hR (hx x mem_cons_self) bx;have h2:=uO ok xs (R++[x]) (gF hR (hx x mem_cons_self)) λy hy=>hx y (mem_cons_of_mem _ hy);rw[List.append_assoc] at h2;rw[length_cons];exact⟨le_trans h1.1 h2.1,by have:=h2.2;have:=h1.2;show eB p q ts (R++([x]++xs))<=_;omega⟩
theorem zY(ok:aP p q ts):∀(xs R:List Int),(∀y∈R,y∈nms ts)->(∀y∈xs,y∈nms ts)->(∀y∈xs,Wy p q ts R y)->eB p q ts (R++xs)=eB p q ts R
 | [],R,_,_,_=>by rw[append_nil]
 | x::xs,R,hR,hx,hw=>by
  have h1:=(mW ok (Q:=R++[x]) hR (hx x mem_cons_self) bx).mp (hw x mem_cons_self);have h2:=zY ok xs (R++[x]) (gF hR (hx x mem_cons_self)) (λy hy=>hx y (mem_cons_of_mem _ hy)) λy hy=>(hw y (mem_cons_of_mem _ hy)).mono λz hz=>mem_append_left _ hz;rw[List.append_assoc,h1] at h2;exact h2
theorem xq(ok:aP p q ts):∀(xs R:List Int),(∀y∈R,y∈nms ts)->(∀y∈xs,y∈nms ts)->(∀pre x post,xs=pre++x::post->¬ Wy p q ts (R++pre) x)->eB p q ts (R++xs)=eB p q ts R+xs.length
 | [],R,_,_,_=>by rw[append_nil];rfl
 | x::xs,R,hR,hx,hw=>by
  have n1:¬ Wy p q ts R x:=by have:=hw [] x xs rfl;rwa [append_nil] at this
  have s1:=gk ok (Q:=R++[x]) hR (hx x mem_cons_self) bx;have h1:¬ eB p q ts (R++[x])=eB p q ts R:=λe=>n1 ((mW ok (Q:=R++[x]) hR (hx x mem_cons_self) bx).mpr e);have h2:=xq ok xs (R++[x]) (gF hR (hx x mem_cons_self)) (λy hy=>hx y (mem_cons_of_mem _ hy)) λpre y post e=>by
   have:=hw (x::pre) y post (by rw[e];rfl);rw[List.append_assoc];exact this
  rw[List.append_assoc] at h2;rw[length_cons];show eB p q ts (R++([x]++xs))=_;omega
theorem uQ:eB p q ts []=0:=by
 unfold eB;rw[map_nil,oH (ps:=qZ p q ts) (ly.start _) (jD _)];unfold rk;simp
theorem Ib(ok:aP p q ts){P Q:List Int}(h:∀y∈P,y∈Q)(hQ:∀y∈Q,y∈nms ts):eB p q ts P<=eB p q ts Q:=by
 have hP:∀y∈P,y∈nms ts:=λy hy=>hQ y (h y hy);have h1:=(uO ok Q P hP hQ).1;rwa [jm ok (P:=P++Q) (Q:=Q) (λy hy=>by rcases mem_append.mp hy with h|h;exact hP y h;exact hQ y h) λy=>⟨λhy=>by rcases mem_append.mp hy with z|z;exact h y z;exact z,λhy=>mem_append_right _ hy⟩] at h1
theorem MK(ok:aP p q ts){P:List Int}(hP:∀y∈P,y∈nms ts):eB p q ts P<=P.length:=by
 have:=(uO ok P [] (λ_ h=>by simp at h) hP).2;rw[uQ,nil_append] at this;omega
theorem Ng(ok:aP p q ts){R:List Int}(hR:∀y∈R,y∈nms ts):eB p q ts R=eB p q ts (nms ts)↔∀x∈nms ts,x∈R\/eB p q ts (R++[x])=eB p q ts R:=by
 constructor
 ·intro e x hx;refine .inr ?_;have h1:=(gk ok (Q:=R++[x]) hR hx bx).1;have h2:=Ib ok (P:=R++[x]) (Q:=nms ts) (gF hR hx) λ_ h=>h;omega
 ·intro h
  have e:=zY ok (nms ts) R hR (λ_ h=>h) λx hx=>by
   rcases h x hx with hr|e
   ·exact(mW ok (Q:=R) hR hx λy=>⟨λh=>.inl h,λh=>h.elim id λe=>e▸hr⟩).mpr rfl
   ·exact(mW ok (Q:=R++[x]) hR hx bx).mpr e
  rw[<-e];exact jm ok (λy hy=>by rcases mem_append.mp hy with h|h;exact hR y h;exact h) λy=>⟨λhy=>by rcases mem_append.mp hy with z|z;exact hR y z;exact z,λhy=>mem_append_right _ hy⟩
theorem dJ{P:List Int}{y:Int}:y∈others ts P↔y∈nms ts/\y∉P:=by
 unfold others;rw[mem_filter];simp
theorem Ic{P:List Int}(hP:∀y∈P,y∈nms ts){y:Int}:y∈others ts (others ts P)↔y∈P:=by
 rw[dJ,dJ];constructor
 ·rintro⟨h1,h2⟩;exact byContradiction λn=>h2 ⟨h1,n⟩
 ·exact λh=>⟨hP y h,λz=>z.2 h⟩
theorem Qv(ok:aP p q ts){P:List Int}(hn:P.Nodup)(hP:∀y∈P,y∈nms ts):eB p q ts P=P.length↔∀x∈nms ts,x∈others ts P\/eB p q ts (others ts (others ts P++[x]))+1=eB p q ts (others ts (others ts P)):=by
 have hOO:eB p q ts (others ts (others ts P))=eB p q ts P:=jm ok ic λy=>Ic hP;have hm:∀x y,y∈others ts (others ts P++[x])↔y∈P/\y≠x:=λx y=>by
  rw[dJ,bx,dJ];constructor
  ·rintro⟨h1,h2⟩;exact⟨byContradiction λn=>h2 (.inl ⟨h1,n⟩),λe=>h2 (.inr e)⟩
  ·rintro⟨h1,h2⟩;exact⟨hP y h1,λz=>z.elim (λz=>z.2 h1) h2⟩
 have hq:∀x∈P,∀y,y∈P↔y∈others ts (others ts P++[x])\/y=x:=λx hx y=>by
  rw[hm];constructor
  ·intro h
   by_cases e:y=x
   ·exact .inr e
   ·exact .inl ⟨h,e⟩
  ·rintro(h|rfl)
   ·exact h.1
   ·exact hx
 rw[hOO];constructor
 ·intro e x hx
  by_cases Ie:x∈P
  ·refine .inr ?_
   have h1:=(gk ok (P:=others ts (others ts P++[x])) (Q:=P) ic hx (hq x Ie)).2;have h2:eB p q ts (others ts (others ts P++[x]))=eB p q ts (P.erase x):=jm ok ic λy=>by
    rw[hm,hn.mem_erase_iff];exact⟨λh=>⟨h.2,h.1⟩,λh=>⟨h.2,h.1⟩⟩
   have h3:=MK ok (P:=P.erase x) λy hy=>hP y (List.mem_of_mem_erase hy);rw[List.length_erase_of_mem Ie] at h3;have:=List.length_pos_of_mem Ie;omega
  ·exact .inl (dJ.mpr ⟨hx,Ie⟩)
 ·intro h
  have e:=xq ok P [] (λ_ h=>by simp at h) hP λpre x post e w=>by
   have Ie:x∈P:=by rw[e];simp
   have hpre:∀y∈pre,y∈P/\y≠x:=λy hy=>by
    refine⟨by rw[e];exact mem_append_left _ hy,λz=>?_⟩;subst z;rw[e,nodup_append] at hn;exact hn.2.2 y hy y mem_cons_self rfl
   have w2:Wy p q ts (others ts (others ts P++[x])) x:=w.mono λy hy=>(hm x y).mpr (hpre y (by simpa using hy));have e2:=(mW ok (P:=others ts (others ts P++[x])) (Q:=P) ic (hP x Ie) (hq x Ie)).mp w2
   rcases h x (hP x Ie) with z|z
   ·exact(dJ.mp z).2 Ie
   ·omega
  rw[uQ,nil_append] at e;omega
theorem missed(ok:aP p q ts){P:List Int}{x:Int}(hx:x∈nms ts)(hn:x∉P):others ts (P++[x])=(others ts P).filter (λy=>!decide (y=x))/\(eB p q ts (others ts (P++[x]))+1=eB p q ts (others ts P)↔eB p q ts (others ts (P++[x]))<eB p q ts (others ts P)):=by
 constructor
 ·unfold others
  rw[List.filter_filter];refine filter_congr λy _=>?_
  by_cases a:y∈P<;>by_cases b:y=x<;>simp[a,b]
 ·have h1:=(gk ok (P:=others ts (P++[x])) (Q:=others ts P) (x:=x) ic hx λy=>by
   rw[dJ,dJ,bx];constructor
   ·rintro⟨h1,h2⟩
    by_cases c:y=x
    ·exact .inr c
    ·exact .inl ⟨h1,λz=>z.elim h2 c⟩
   ·rintro(⟨h1,h2⟩|rfl)
    ·exact⟨h1,λz=>h2 (.inl z)⟩
    ·exact⟨hx,hn⟩).2
  omega
end
end K25
end
section
open PySem L2 Hv
namespace K25
structure n5 (N:List Int) (r:List Int->Int):Prop where
 nil:r []=0
 same:∀P Q:List Int,P.Nodup->Q.Nodup->(∀y∈P,y∈N)->(∀y,y∈P↔y∈Q)->r P=r Q
 step:∀(P:List Int) (x:Int),P.Nodup->(∀y∈P,y∈N)->x∈N->x∉P->r (P++[x])=r P\/r (P++[x])=r P+1
 loc:∀(P Q:List Int) (x:Int),P.Nodup->Q.Nodup->(∀y∈Q,y∈N)->(∀y∈P,y∈Q)->x∈N->x∉Q->r (P++[x])=r P->r (Q++[x])=r Q
theorem gx{P:List Int}{x:Int}(hn:P.Nodup)(hx:x∉P):(P++[x]).Nodup:=by
 rw[nodup_append];exact⟨hn,by simp,λa ha b hb e=>hx (by rw[mem_singleton] at hb;rw[<-hb,<-e];exact ha)⟩
theorem yJ{P D:List Int}{x:Int}(h:(P++x::D).Nodup):P.Nodup/\x∉P:=by
 rw[nodup_append] at h;exact⟨h.1,λhx=>h.2.2 x hx x mem_cons_self rfl⟩
theorem jn(P D:List Int)(x:Int):P++x::D=(P++[x])++D:=by rw[List.append_assoc];rfl
section
variable {N:List Int} {r:List Int->Int} (h:n5 N r)
include h
theorem n5.app:∀(D P:List Int),(P++D).Nodup->(∀y∈P++D,y∈N)->r P<=r (P++D)/\r (P++D)<=r P+D.length
 | [],P,_,_=>by rw[append_nil];exact⟨Int.le_refl _,by simp⟩
 | x::D,P,hn,hi=>by
  obtain⟨n1,n2⟩:=yJ hn;have s:=h.step P x n1 (λy hy=>hi y (mem_append_left _ hy)) (hi x (mem_append_right _ mem_cons_self)) n2;rw[jn] at hn hi |-;have ih:=n5.app D (P++[x]) hn hi;rw[length_cons];omega
theorem n5.bound{P:List Int}(hn:P.Nodup)(hP:∀y∈P,y∈N):0<=r P/\r P<=P.length:=by
 have:=h.app P [] hn hP;rw[h.nil,nil_append] at this;omega
theorem n5.mono{P Q:List Int}(hp:P.Nodup)(hq:Q.Nodup)(hQ:∀y∈Q,y∈N)(hs:∀y∈P,y∈Q):r P<=r Q:=by
 have nd:(P++Q.filter λy=>!decide (y∈P)).Nodup:=by rw[nodup_append];exact⟨hp,hq.sublist filter_sublist,λa ha b hb e=>by subst e;have:=(mem_filter.mp hb).2;simp[ha] at this⟩
 have mm:∀y,y∈(P++Q.filter λy=>!decide (y∈P))↔y∈Q:=λy=>by
  rw[mem_append,mem_filter];constructor
  ·rintro(z|z)
   ·exact hs y z
   ·exact z.1
  ·intro z
   by_cases c:y∈P
   ·exact .inl c
   ·exact .inr ⟨z,by simpa using c⟩
 have:=(h.app _ P nd λy hy=>hQ y ((mm y).mp hy)).1;rwa [h.same _ Q nd hq (λy hy=>hQ y ((mm y).mp hy)) mm] at this
theorem n5.Qw:∀(D P B:List Int),(P++D).Nodup->(∀y∈P++D,y∈N)->B.Nodup->(∀y∈B,y∈P)->r (P++D)+r B<=r (B++D)+r P
 | [],P,B,_,_,_,_=>by rw[append_nil,append_nil];omega
 | x::D,P,B,hn,hi,hb,hs=>by
  obtain⟨n1,n2⟩:=yJ hn;have hx:=hi x (mem_append_right _ mem_cons_self);have hP:∀y∈P,y∈N:=λy hy=>hi y (mem_append_left _ hy);have nb:x∉B:=λz=>n2 (hs x z);have s1:=h.step P x n1 hP hx n2;have s2:=h.step B x hb (λy hy=>hP y (hs y hy)) hx nb;have l:=h.loc B P x hb n1 hP hs hx n2;rw[jn] at hn hi;rw[jn P D x,jn B D x];have ih:=n5.Qw D (P++[x]) (B++[x]) hn hi (gx hb nb) λy hy=>by
   rcases(bx y).mp hy with z|rfl
   ·exact mem_append_left _ (hs y z)
   ·simp
  rcases s2 with s2|s2
  ·have:=l s2;omega
  ·omega
theorem n5.close:∀(E P:List Int),(P++E).Nodup->(∀y∈P++E,y∈N)->(∀x∈E,r (P++[x])=r P)->r (P++E)=r P
 | [],P,_,_,_=>by rw[append_nil]
 | x::E,P,hn,hi,hE=>by
  obtain⟨n1,n2⟩:=yJ hn;have hP:∀y∈P,y∈N:=λy hy=>hi y (mem_append_left _ hy);have hx:=hi x (mem_append_right _ mem_cons_self);have e1:=hE x mem_cons_self;have hall:∀y∈E,y∈N/\y∉P++[x]:=λy hy=>⟨hi y (mem_append_right _ (mem_cons_of_mem _ hy)),λz=>by
   rw[jn,nodup_append] at hn;exact hn.2.2 y z y hy rfl⟩
  rw[jn] at hn hi |-;rw[n5.close E (P++[x]) hn hi λy hy=>h.loc P (P++[x]) y n1 (gx n1 n2) (λy hy=>by rcases(bx y).mp hy with q|rfl;exact hP y q;exact hx) (λz hz=>mem_append_left _ hz) (hall y hy).1 (hall y hy).2 (hE y (mem_cons_of_mem _ hy)),e1]
noncomputable def rM(N:List Int)(r:List Int->Int)(P:List Int):List Int:=N.filter λx=>decide (x∈P)||decide (r (P++[x])=r P)
omit h in
theorem fY{P:List Int}{x:Int}:x∈rM N r P↔x∈N/\(x∈P\/r (P++[x])=r P):=by
 unfold rM;rw[mem_filter,or_eq_true,decide_eq_true_eq,decide_eq_true_eq]
theorem n5.xr(hN:N.Nodup){P:List Int}(hn:P.Nodup)(hP:∀y∈P,y∈N):r (rM N r P)=r P:=by
 have hc:(rM N r P).Nodup:=by unfold rM;exact hN.sublist filter_sublist
 have nd:(P++(rM N r P).filter λy=>!decide (y∈P)).Nodup:=by rw[nodup_append];exact⟨hn,hc.sublist filter_sublist,λa ha b hb e=>by subst e;have:=(mem_filter.mp hb).2;simp[ha] at this⟩
 have mm:∀y,y∈(P++(rM N r P).filter λy=>!decide (y∈P))↔y∈rM N r P:=λy=>by
  rw[mem_append,mem_filter];constructor
  ·rintro(z|z)
   ·exact fY.mpr ⟨hP y z,.inl z⟩
   ·exact z.1
  ·intro z
   by_cases c:y∈P
   ·exact .inl c
   ·exact .inr ⟨z,by simpa using c⟩
 have hi:∀y∈(P++(rM N r P).filter λy=>!decide (y∈P)),y∈N:=λy hy=>(fY.mp ((mm y).mp hy)).1;rw[<-h.same _ _ nd hc hi mm];refine h.close _ P nd hi λx hx=>?_;obtain⟨h1,h2⟩:=mem_filter.mp hx;exact(fY.mp h1).2.resolve_left (by simpa using h2)
theorem n5.Ig(hN:N.Nodup){P:List Int}(hn:P.Nodup)(hP:∀y∈P,y∈N):rM N r (rM N r P)=rM N r P:=by
 have hc:(rM N r P).Nodup:=by unfold rM;exact hN.sublist filter_sublist
 have hr:=h.xr hN hn hP;rw[rM]
 conv=>rhs;rw[rM]
 refine filter_congr λx hx=>?_;rw[Bool.eq_iff_iff,or_eq_true,or_eq_true,decide_eq_true_eq,decide_eq_true_eq,decide_eq_true_eq,decide_eq_true_eq,hr]
 by_cases c:x∈rM N r P
 ·exact⟨λ_=>(fY.mp c).2,λ_=>.inl c⟩
 ·constructor
  ·rintro(z|z)
   ·exact absurd z c
   ·exfalso
    have nP:x∉P:=λq=>c (fY.mpr ⟨hx,.inl q⟩);have m:=h.mono (P:=P++[x]) (Q:=rM N r P++[x]) (gx hn nP) (gx hc c) ((λy hy=>by rcases(bx y).mp hy with q|rfl;exact(fY.mp q).1;exact hx)) λy hy=>by
     rcases(bx y).mp hy with q|rfl
     ·exact mem_append_left _ (fY.mpr ⟨hP y q,.inl q⟩)
     ·simp
    have s:=h.step P x hn hP hx nP;exact c (fY.mpr ⟨hx,.inr (by omega)⟩)
  ·exact λz=>absurd (fY.mpr ⟨hx,z⟩) c
theorem n5.grow{P Q:List Int}(hp:P.Nodup)(hP:∀y∈P,y∈N)(hq:Q.Nodup)(hQ:∀y∈Q,y∈N)(fp:r P=P.length)(fq:r Q=Q.length)(hl:P.length<Q.length):∃x∈Q,x∉P/\r (P++[x])=P.length+1:=by
 refine byContradiction λno=>?_;have nd:(P++Q.filter λy=>!decide (y∈P)).Nodup:=by rw[nodup_append];exact⟨hp,hq.sublist filter_sublist,λa ha b hb e=>by subst e;have:=(mem_filter.mp hb).2;simp[ha] at this⟩
 have hi:∀y∈P++Q.filter (λy=>!decide (y∈P)),y∈N:=λy hy=>by
  rcases mem_append.mp hy with z|z
  ·exact hP y z
  ·exact hQ y (mem_filter.mp z).1
 have e:=h.close (Q.filter λy=>!decide (y∈P)) P nd hi λx hx=>by
  obtain⟨h1,h2⟩:=mem_filter.mp hx;have nx:x∉P:=by simpa using h2
  rcases h.step P x hp hP (hQ x h1) nx with z|z
  ·exact z
  ·exact absurd ⟨x,h1,nx,by omega⟩ no
 have m:=h.mono (P:=Q) (Q:=P++Q.filter λy=>!decide (y∈P)) hq nd hi λy hy=>by
  by_cases c:y∈P
  ·exact mem_append_left _ c
  ·exact mem_append_right _ (mem_filter.mpr ⟨hy,by simpa using c⟩)
 omega
end
section
variable {p q:Int} {ts:List T3}
noncomputable def gm(κ:Nat)(p q:Int)(ts:List T3)(P:List Int):Int:=if κ = 0 then (P.length:Int) else if κ = 1 then (eB p q ts P:Int) else (P.length:Int)-eB p q ts (nms ts)+eB p q ts (others ts P)
theorem xu{P Q:List Int}(hp:P.Nodup)(hq:Q.Nodup)(h:∀y,y∈P↔y∈Q):P.length=Q.length :=
 Nat.le_antisymm (dD hp λx hx=>(h x).mp hx) (dD hq λx hx=>(h x).mpr hx)
theorem mX{P:List Int}{x:Int}(hx:x∈nms ts)(hn:x∉P)(y:Int):y∈others ts P↔y∈others ts (P++[x])\/y=x:=by
 rw[dJ,dJ,bx];constructor
 ·rintro⟨h1,h2⟩
  by_cases c:y=x
  ·exact .inr c
  ·exact .inl ⟨h1,λz=>z.elim h2 c⟩
 ·rintro(⟨h1,h2⟩|rfl)
  ·exact⟨h1,λz=>h2 (.inl z)⟩
  ·exact⟨hx,hn⟩
theorem mY(ok:aP p q ts){κ:Nat}(hk:κ < 3):n5 (nms ts) (gm κ p q ts):=by
 match κ,hk with
 | 0,_ =>have e:∀P,gm 0 p q ts P=(P.length:Int):=λP=>if_pos rfl;refine⟨by rw[e];rfl,λP Q hp hq _ h=>by rw[e,e,xu hp hq h],λP x _ _ _ _=>.inr (by rw[e,e,length_append];rfl),λP Q x _ _ _ _ _ _ z=>?_⟩;rw[e,e,length_append] at z;simp at z;omega
 | 1,_ =>
  have e:∀P,gm 1 p q ts P=(eB p q ts P:Int):=λP=>by unfold gm;rw[if_neg (by decide),if_pos rfl]
  refine⟨by rw[e,uQ];rfl,λP Q _ _ hP h=>by rw[e,e,jm ok hP h],λP x _ hP hx _=>?_,λP Q x _ _ hQ hs hx _ z=>?_⟩
  ·have:=gk ok (Q:=P++[x]) hP hx bx;rw[e,e];omega
  ·rw[e,e] at z |-;have hP:∀y∈P,y∈nms ts:=λy hy=>hQ y (hs y hy);have w:=(mW ok (Q:=P++[x]) hP hx bx).mpr (by omega);rw[(mW ok (Q:=Q++[x]) hQ hx bx).mp (w.mono hs)]
 | 2,_ =>
  have e:∀P,gm 2 p q ts P=(P.length:Int)-eB p q ts (nms ts)+eB p q ts (others ts P):=λP=>by unfold gm;rw[if_neg (by decide),if_neg (by decide)]
  have l1:∀(P:List Int) (x:Int),((P++[x]).length:Int)=P.length+1:=λP x=>by simp
  refine⟨?_,λP Q hp hq hP h=>?_,λP x _ hP hx hn=>?_,λP Q x _ _ hQ hs hx hn z=>?_⟩
  ·have:others ts []=nms ts:=by unfold others;rw[List.filter_eq_self];simp
   rw[e,this,length_nil];omega
  ·rw[e,e,xu hp hq h,jm ok ic (P:=others ts P) (Q:=others ts Q) λy=>by rw[dJ,dJ,h]]
  ·have:=gk ok (P:=others ts (P++[x])) (Q:=others ts P) (x:=x) ic hx (mX hx hn);rw[e,e,l1];omega
  ·rw[e,e,l1] at z |-
   have hnP:x∉P:=λw=>hn (hs x w);have sQ:=gk ok (P:=others ts (Q++[x])) (Q:=others ts Q) (x:=x) ic hx (mX hx hn);have y1:=mW ok (P:=others ts (P++[x])) (Q:=others ts P) (x:=x) ic hx (mX hx hnP);have y2:=mW ok (P:=others ts (Q++[x])) (Q:=others ts Q) (x:=x) ic hx (mX hx hn);have n1:¬ Wy p q ts (others ts (P++[x])) x:=λw=>by have:=y1.mp w;omega
   have n2:¬ eB p q ts (others ts Q)=eB p q ts (others ts (Q++[x])):=λw=>n1 ((y2.mpr w).mono λy hy=>by
    rw[dJ] at hy |-;exact⟨hy.1,λk=>hy.2 (by rcases(bx y).mp k with k|k;exact mem_append_left _ (hs y k);rw[k];simp)⟩)
   omega
end
end K25
end
section
open PySem L2 Hv
set_option hygiene false
local macro_rules | `(tactic| simp only[EV,$ls,*] $[$l:location]?)=>`(tactic| simp only[e9,DF,DG,DH,wo,Jc,Jd,Je,Jf,Jg,Dv,Jh,Dw,Dy,Pg,zH,Ji,aN,aQ,CW,bz,qz,gB,M9,rN,LR,Dq,bF,Dt,ff,mH,Du,isVar,ig,List.getElem?_cons_zero,getElem?_cons_succ,set_cons_zero,set_cons_succ,map_cons,map_nil,length_cons,length_nil,cons_append,nil_append,List.replicate_succ,List.replicate_zero,Nat.reduceSub,Nat.reduceAdd,Nat.reduceLeDiff,Jj,Jk,Ph,Pj,Pk,Pn,Po,Pp,Jm,Jo,zK,Jp,Jq,Jr,Js,Jt,Ju,Jv,Dz,DA,DC,DE,zL,Jw,ju,bD,oA,Rh,cS,iU,Hv.stored,List.contains_nil,List.contains_cons,elem_nil,List.elem_cons,Nat.reduceBEq,Nat.reduceEqDiff,BEq.rfl,all_cons,List.all_nil,beq_self_eq_true,sN,fH,qA,jZ,nO,↓reduceIte,Bool.and_true,Bool.true_and,Bool.false_and,Bool.and_false,Bool.or_false,Bool.false_or,Bool.or_true,Bool.true_or,Bool.or_self,zero_le,Bool.not_true,Bool.not_false,false_eq_true,decide_eq_true_eq,not_eq_true',decide_eq_false_iff_not,append_nil,nil_append,reduceCtorEq,$ls,*] $[$l:location]?)
section
open PySem L2 Hv
namespace K25
noncomputable def Ry:IE:=.bin .pow (.cst (.int 10)) (.cst (.int 57))
noncomputable def BE:Int:=10 ^ (57:Int).toNat
theorem zZ:0<BE:=by decide
theorem ML:gy BE=true:=by decide
noncomputable def s1:IS:=.asg (.one 2) (.bin .add (.bin .add (.var 2) (.cst (.int 1))) (.bin .mod (.var 0) Ry))
noncomputable def s2:IS:=.asg (.one 0) (.bin .fdiv (.var 0) Ry)
noncomputable def s3:IS:=.expr (.met .append (.var 3) (.cons (.var 2) .nil))
noncomputable def xw:fM:=.cons s1 (.cons s2 (.cons s3 .nil))
theorem kP{ms:List Nat}(h:aQ Ψ ms st env=.ok (.nx env')):aN Ψ ms (.cons st r) env=aN Ψ ms r env':=by
 rw[aN,h];rfl
theorem EE:bz Ψ Ry env=.ok (true,.int BE):=by
 unfold Ry;simp only[bz,bF,zJ (show decide ((0:Int)<=57/\(57:Int)<=1000000/\(10:Int).natAbs<2 ^ 64)=true by decide)];rfl
theorem Qx{c n y:Int}:aQ Ψ [3] s1 [some (.sh,.int c),some (.sh,.int n),some (.sh,.int y),some (.ow,v),d]=.ok (.nx [some (.sh,.int c),some (.sh,.int n),some (.sh,.int (y+1+c%BE)),some (.ow,v),d]):=by
 unfold s1;simp only[EV,EE,eG (show decide (0<BE)=true by rw[decide_eq_true_eq];exact zZ)];exact if_neg (by decide)
theorem Qy{c n y:Int}:aQ Ψ [3] s2 [some (.sh,.int c),some (.sh,.int n),some (.sh,.int y),some (.ow,v),d]=.ok (.nx [some (.sh,.int (c/BE)),some (.sh,.int n),some (.sh,.int y),some (.ow,v),d]):=by
 unfold s2;simp only[EV,EE,cX ML];exact if_neg (by decide)
theorem Qz{c n y:Int}{xs:List Int}(h:xs.length<64):aQ Ψ [3] s3 [some (.sh,.int c),some (.sh,.int n),some (.sh,.int y),some (.ow,.rl (xs.map .int)),d]=.ok (.nx [some (.sh,.int c),some (.sh,.int n),some (.sh,.int y),some (.ow,.rl ((xs++[y]).map .int)),d]):=by
 unfold s3;have z:xs.length<sizeLine:=by unfold sizeLine;omega
 simp only[EV,length_map,z,map_append]
theorem Ih{c n y:Int}{xs:List Int}(h:xs.length<64):aN Ψ [3] xw [some (.sh,.int c),some (.sh,.int n),some (.sh,.int y),some (.ow,.rl (xs.map .int)),d]=.ok (.nx [some (.sh,.int (c/BE)),some (.sh,.int n),some (.sh,.int (y+1+c%BE)),some (.ow,.rl ((xs++[y+1+c%BE]).map .int)),d]):=by
 unfold xw;rw[kP Qx,kP Qy,kP (Qz h)];simp only[aN]
theorem Ii{c n:Int}{y:Int}(h:inR n=true):aQ Ψ [3] (.for (.one 4) .range (.cons (.var 1) .nil) xw) [some (.sh,.int c),some (.sh,.int n),some (.sh,.int y),some (.ow,v),d] =
  nQ (λx env=>pb (pl (fG (.one 4) x env)) λenv'=>aN Ψ [3] xw env') ((List.range n.toNat).map λ(i:Nat)=>Val.int (0+(i:Int))) [some (.sh,.int c),some (.sh,.int n),some (.sh,.int y),some (.ow,v),d]:=by
 rw[aQ,show (sN (.one 4) (.cons (.var 1) .nil) xw&&(Hv.stored (.one 4)).all λi=>!([3]:List Nat).contains i)=true from by decide,mH];have e:gB Ψ (.cons (.var 1) .nil) [some (.sh,.int c),some (.sh,.int n),some (.sh,.int y),some (.ow,v),d]=.ok [.int n]:=by simp only[EV,bF]
 rw[e,bF,JD h,ff,bF]
noncomputable def QA:Prop:=∀(c:Int) (n:Nat),n<=15->∃xs:List Int,cM [.int c,.int (n:Int)]=.ok (true,.rl (xs.map .int))/\xs.length=n/\xs.Pairwise (· < ·)/\∀x∈xs,0<=x
theorem EF:QA:=by
 intro c n hn;have hr:inR (n:Int)=true:=by unfold inR;simp;omega
 unfold cM e9;have e1:aQ (ai rJ) [3] (.asg (.one 2) (.neg (.cst (.int 1)))) [some (.sh,.int c),some (.sh,.int n),none,none,none]=.ok (.nx [some (.sh,.int c),some (.sh,.int n),some (.sh,.int (-1)),none,none]):=by
  simp only[EV,bF]
  try rfl
 have e2:aQ (ai rJ) [3] (.asg (.one 3) (.lst .nil)) [some (.sh,.int c),some (.sh,.int n),some (.sh,.int (-1)),none,none]=.ok (.nx [some (.sh,.int c),some (.sh,.int n),some (.sh,.int (-1)),some (.ow,.rl []),none]):=by simp only[EV,bF]
 have hm:fH bQ=[3]:=by decide
 have hi:bQ=(.cons (.asg (.one 2) (.neg (.cst (.int 1)))) (.cons (.asg (.one 3) (.lst .nil)) (.cons (.for (.one 4) .range (.cons (.var 1) .nil) xw) (.cons (.ret (.var 3)) .nil)))):=rfl;rw[hm,hi];show ∃xs:List Int,pb (aN (ai rJ) [3] _ [some (.sh,.int c),some (.sh,.int n),none,none,none]) _=_/\_;rw[kP e1,kP e2];have key:=cQ (us:=List.range n) (k:=λf=>Pr.ok f) (body:=λx env=>pb (pl (fG (.one 4) x env)) λenv'=>aN (ai rJ) [3] xw env') (λi:Nat=>Val.int (0+(i:Int)))
  (λr:Pr EW=>∃(c' y:Int) (xs:List Int) (d:Option (Mk×Val)),r=.ok (.nx [some (.sh,.int c'),some (.sh,.int n),some (.sh,.int y),some (.ow,.rl (xs.map .int)),d])/\xs.length=n/\xs.Pairwise (· < ·)/\∀x∈xs,0<=x)
  (oU:=[some (.sh,.int c),some (.sh,.int n),some (.sh,.int (-1)),some (.ow,.rl []),none])
  (λdone env=>∃(c' y:Int) (xs:List Int) (d:Option (Mk×Val)),env=[some (.sh,.int c'),some (.sh,.int n),some (.sh,.int y),some (.ow,.rl (xs.map .int)),d]/\xs.length=done.length/\xs.Pairwise (· < ·)/\(∀x∈xs,0<=x/\x<=y) /\ -1<=y)
  ⟨c,-1,[],none,rfl,rfl,List.Pairwise.nil,λ_ h=>by simp at h,by omega⟩ (by
   rintro pre k post env hx ⟨c',y,xs,d,rfl,hl,hp,hb,hy⟩;have hlt:xs.length<64:=by have:=congrArg length hx;rw[length_append,length_cons,length_range] at this;omega
   have hmod:=emod_nonneg c' (show BE≠0 from Int.ne_of_gt zZ);have eb:=Ih (Ψ:=ai rJ) (c:=c') (n:=n) (y:=y) (d:=some (.sh,.int (0+(k:Int)))) hlt;generalize c'%BE=m at *;refine⟨_,eb,c'/BE,y+1+m,xs++[y+1+m],_,rfl,?_,?_,?_,by omega⟩
   ·rw[length_append,length_append,hl];rfl
   ·rw[List.pairwise_append];refine⟨hp,List.pairwise_singleton _ _,λa ha b hb'=>?_⟩;rw[mem_singleton] at hb';subst hb';have:=(hb a ha).2;omega
   ·intro x hx'
    rcases mem_append.mp hx' with h|h
    ·have:=hb x h;omega
    ·rw[mem_singleton] at h;subst h;omega) (by
   rintro env ⟨c',y,xs,d,rfl,hl,hp,hb,hy⟩;exact⟨c',y,xs,d,rfl,by rw[hl,length_range],hp,λx hx=>(hb x hx).1⟩)
 have hf:=Ii (Ψ:=ai rJ) (c:=c) (n:=n) (y:=-1) (v:=.rl []) (d:=none) hr;rw[Int.toNat_natCast] at hf;cases e:nQ (λx env=>pb (pl (fG (.one 4) x env)) λenv'=>aN (ai rJ) [3] xw env') ((List.range n).map λi:Nat=>Val.int (0+(i:Int))) [some (.sh,.int c),some (.sh,.int n),some (.sh,.int (-1)),some (.ow,.rl []),none] with
 | ok f =>
  rw[e] at key hf;obtain⟨c',y,xs,d,er,h1,h2,h3⟩:=key;have S4:f=.nx [some (.sh,.int c'),some (.sh,.int n),some (.sh,.int y),some (.ow,.rl (xs.map .int)),d]:=by injection er
  subst S4;have im:bD (xs.map Val.int)=true:=by
   clear er h1 h2 h3 hf e
   induction xs with
   | nil=>rfl
   | cons t r ih=>rw[map_cons,bD,ih];rfl
  refine⟨xs,?_,h1,h2,h3⟩;rw[kP hf];simp only[EV,im]
  try rfl
 | exc _ _=>rw[e] at key;obtain⟨_,_,_,_,er,_⟩:=key;cases er
 | no=>rw[e] at key;obtain⟨_,_,_,_,er,_⟩:=key;cases er
end K25
end
section
open PySem L2 Hv
namespace K25
theorem yK(ns:List Int):∃p q ts,gi [.rl (ns.map .int),.int 12]=.ok (false,bK p q ts)/\aP p q ts:=by
 have c0:bH [.rl (ns.map .int),.int 0]=.ok (true,.int (cellAt ns 0)):=fX ns 0;have c1:bH [.rl (ns.map .int),.int 1]=.ok (true,.int (cellAt ns 1)):=fX ns 1;have c2:bH [.rl (ns.map .int),.int 2]=.ok (true,.int (cellAt ns 2)):=fX ns 2;have c3:bH [.rl (ns.map .int),.int 3]=.ok (true,.int (cellAt ns 3)):=fX ns 3;unfold gi fB;generalize cellAt ns 0=k0 at *;generalize cellAt ns 1=k1 at *;generalize cellAt ns 2=rest at *;generalize cellAt ns 3=k3 at *;have Qq:2<=2+rest%7/\2+rest%7<=8:=by omega
 simp only[EV,dN,c1,c2,eG (show decide ((0:Int)<7)=true by decide)];generalize 2+rest%7=many at *;obtain⟨m,rfl⟩:=eq_ofNat_of_zero_le (show 0<=many by omega);have hm:2<=m/\m<=8:=by omega
 obtain⟨Pl,eP,lP,uP,nP⟩:=EF k1 m (by omega);have hmp:decide (0<(m:Int))=true:=by rw[decide_eq_true_eq];omega
 have Rv:gy (m:Int)=true:=by unfold gy;rw[decide_eq_true_eq];omega
 simp only[EV,dm,eP,cX (show gy 7=true by decide),cX Rv,eG hmp,dN,c0,eG (show decide ((0:Int)<12+1)=true by decide)];have hj0:0<=rest/7/(m:Int)/(m:Int)%(12+1)/\rest/7/(m:Int)/(m:Int)%(12+1)<=12:=by omega
 generalize rest/7/(m:Int)/(m:Int)%(12+1)=j at *;obtain⟨n,rfl⟩:=eq_ofNat_of_zero_le hj0.1;obtain⟨N,eN,lN,uN,nN⟩:=EF k0 n (by omega);have i1:=emod_nonneg (rest/7) (show (m:Int)≠0 by omega);have i2:=emod_lt_of_pos (rest/7) (show 0<(m:Int) by omega);have i3:=emod_nonneg (rest/7/(m:Int)) (show (m:Int)≠0 by omega);have i4:=emod_lt_of_pos (rest/7/(m:Int)) (show 0<(m:Int) by omega);generalize rest/7%(m:Int)=o1 at *;generalize rest/7/(m:Int)%(m:Int)=o2 at *;have hpl:∀i:Int,0<=i->i<m->iR (Pl.map Val.int) i=some (.int (Pl.getD i.toNat 0)):=λi h0 h1=>by
  obtain⟨k,rfl⟩:=eq_ofNat_of_zero_le h0;refine kE ?_;rw[getElem?_map,List.getElem?_eq_getElem (by omega)];simp[List.getD,List.getElem?_eq_getElem (show k<Pl.length by omega)]
 have mono:∀i j:Int,0<=i->i<=j->j<m->Pl.getD i.toNat 0<=Pl.getD j.toNat 0:=λi j h0 h1 h2=>by
  obtain⟨a,rfl⟩:=eq_ofNat_of_zero_le h0;obtain⟨b,rfl⟩:=eq_ofNat_of_zero_le (show 0<=j by omega);rw[Int.toNat_natCast,Int.toNat_natCast];have ga:∀k,(h:k<Pl.length)->Pl.getD k 0=Pl[k]:=λk h=>by simp[List.getD,List.getElem?_eq_getElem h]
  rw[ga a (by omega),ga b (by omega)]
  by_cases e:a=b
  ·subst e;exact Int.le_refl _
  ·exact Int.le_of_lt (pairwise_iff_getElem.mp uP a b (by omega) (by omega) (by omega))
 simp only[EV,dm,eN,dN,c3,show 0<=sizeLine by decide,fh]
 repeat rw[qE]
 have z3:3<=sizeLine:=by decide
 have z2:2<=sizeLine:=by decide
 generalize ePl:Pl.map Val.int=PV at *;refine cQ Val.int (λr:Pr FV=>∃p q ts,r=.ok (false,bK p q ts)/\aP p q ts)
  (λdone env=>∃(c':Int) (ts:List T3) (m4 m7:Mk) (a b d:Option (Mk×Val)),env=[some (.sh,.rl (ns.map .int)),some (.sh,.int 12),some (.sh,.int rest),some (.sh,.int (m:Int)),some (m4,.rl PV),some (.sh,.int o1),some (.sh,.int o2),some (m7,.rl (N.map .int)),some (.sh,.int c'),some (.ow,.rl (ts.map dW)),a,b,d]/\lu m4=true/\ts.map (·.1)=done/\∀t∈ts,t.2.1<=t.2.2)
  ⟨k3,[],_,_,none,none,none,rfl,by first|rfl|exact wo,rfl,λ_ h=>by simp at h⟩ ?_ ?_
 ·rintro pre x post env hx ⟨c',ts,m4,m7,a,b,d,rfl,h4,ht,he⟩
  have V6:pre.length<15:=by have:=congrArg length hx;rw[length_append,length_cons] at this;omega
  have hl:ts.length=pre.length:=by rw[<-ht,length_map]
  have z:ts.length<sizeLine:=by rw[hl];unfold sizeLine;omega
  have q1:=hpl (c'%m) (emod_nonneg _ (by omega)) (emod_lt_of_pos _ (by omega));have q2:=hpl (c'/m%m) (emod_nonneg _ (by omega)) (emod_lt_of_pos _ (by omega));generalize Pl.getD (c'%(m:Int)).toNat 0=n1 at *;generalize Pl.getD (c'/(m:Int)%(m:Int)).toNat 0=n2 at *;have tt:Val.tup [.int x,.int (if n2<n1 then n2 else n1),.int (if n2>n1 then n2 else n1)]=dW (turnT (x,n1,n2)):=rfl;refine⟨_,?_,c'/m/m,ts++[turnT (x,n1,n2)],m4,m7,some (.sh,.int x),some (.sh,.int n1),some (.sh,.int n2),rfl,h4,?_,λt V7=>?_⟩
  ·simp only[EV,bG,h4,eG hmp,cX Rv,dU q1,dU q2,z3,tt,length_map,z,map_append]
  ·rw[map_append,ht];rfl
  ·rcases mem_append.mp V7 with h|h
   ·exact he t h
   ·rw[mem_singleton] at h;subst h;unfold turnT;dsimp only;split<;>split<;>omega
 ·rintro env ⟨c',ts,m4,m7,a,b,d,rfl,h4,ht,he⟩
  have q1:=hpl (if o2<o1 then o2 else o1) (by split<;>omega) (by split<;>omega);have q2:=hpl (if o2>o1 then o2 else o1) (by split<;>omega) (by split<;>omega);have hle:=mono (if o2<o1 then o2 else o1) (if o2>o1 then o2 else o1) (by split<;>omega) (by split<;>split<;>omega) (by split<;>omega);have im:bD (ts.map dW)=true:=by
   clear ht he
   induction ts with
   | nil=>rfl
   | cons t r ih=>rw[map_cons,bD,ih];rfl
  refine⟨_,_,ts,?_,⟨hle,?_,?_,he,λt V7=>?_⟩⟩
  ·simp only[EV,h4,dU q1,dU q2,z2,im];rfl
  ·have:ts.length=N.length:=by rw[<-ht,length_map]
   omega
  ·unfold DL;have:=uN;rw[<-ht,pairwise_map] at this;exact this
  ·exact nN _ (by rw[<-ht];exact mem_map_of_mem V7)
end K25
end
section
open PySem L2 Hv
namespace K25
noncomputable abbrev NF(m:Str):Prop:=m ≠ "net" /\ m ≠ "places" /\ m ≠ "ends" /\ m ≠ "whole"
noncomputable def gn(κ:Nat)(p q:Int)(ts:List T3):Val:=if κ = 2 then jh 2 p q ts (eB p q ts (nms ts)) else lB κ p q ts
theorem EG{κ:Nat}{p q:Int}{ts:List T3}{m:Str}{js:List (Nat×Nat)}{j:Nat}(hj:js.lookup κ = some j)(h:NF m):kR [] (gn κ p q ts) m js=some j:=by
 unfold gn
 split
 ·rename_i e;subst e;exact qV hj h
 ·exact Ep hj h
theorem EH{κ:Nat}(hk:κ < 3){p q:Int}(ok:aP p q ts):Ex (gn κ p q ts) p q ts:=by
 unfold gn
 split
 ·exact uL (by decide) ok
 ·exact uK hk ok
theorem sub_len{p q:Int}(ok:aP p q ts){P:List Int}(hn:P.Nodup)(hP:∀x∈P,x∈nms ts):P.length<=15:=le_trans (dD hn hP) (jG ok)
theorem uR{Ψ:Nat->List Val->Pr FV}(h0:Ψ 15=dg)(h1:Ψ 16=bV)(h2:Ψ 17=bP){κ:Nat}(hk:κ < 3){p q:Int}{ts:List T3}(ok:aP p q ts){P:List Int}(hP:∀x∈P,x∈nms ts)(hl:P.length<=15):Ψ (15 + κ) [gn κ p q ts,.rl (P.map .int)]=.ok (true,.int (gm κ p q ts P)):=by
 match κ,hk with
 | 0,_ =>rw[h0];unfold dg fy;simp only[EV,length_map];rfl
 | 1,_ =>rw[h1];have e:=qW (o:=gn 1 p q ts) ok (EH (by decide) ok) hP hl;have m:=EG (κ:=1) (p:=p) (q:=q) (ts:=ts) (m:="tree_rank") (js:=[(0,10),(1,10),(2,10)]) (j:=10) rfl (by decide);unfold bV cL;simp only[EV,m,fU,e];rfl
 | 2,_ =>rw[h2];exact EC (c:=2) (by decide) rfl rfl ok
theorem MM{κ:Nat}(hk:κ < 3){p q:Int}{ts:List T3}:kR [] (gn κ p q ts) "rank" [(0,15),(1,16),(2,17)]=some (15 + κ):=by
 refine EG ?_ (by decide)
 match κ,hk with
 | 0,_=>rfl
 | 1,_=>rfl
 | 2,_=>rfl
theorem m3{κ:Nat}(hk:κ < 3){p q:Int}{ts:List T3}{m:Str}{j:Nat}(h:NF m):kR [] (gn κ p q ts) m [(0,j),(1,j),(2,j)]=some j:=by
 refine EG ?_ h
 match κ,hk with
 | 0,_=>rfl
 | 1,_=>rfl
 | 2,_=>rfl
theorem free_eq{κ:Nat}(hk:κ < 3){p q:Int}(ok:aP p q ts){P:List Int}(hP:∀x∈P,x∈nms ts)(hl:P.length<=15):dh [gn κ p q ts,.rl (P.map .int)]=.ok (true,.bl (decide (gm κ p q ts P=(P.length:Int)))):=by
 have e:=uR (Ψ:=ai yE) jF iu iP hk ok hP hl;unfold dh fz;simp only[EV,MM hk,e,length_map]
theorem xy{κ:Nat}(hk:κ < 3){p q:Int}(ok:aP p q ts){P:List Int}(hn:P.Nodup)(hP:∀x∈P,x∈nms ts):fD [gn κ p q ts,.rl (P.map .int)]=.ok (true,.rl ((rM (nms ts) (gm κ p q ts) P).map .int)):=by
 have hl:=sub_len ok hn hP;have e:=uR (Ψ:=ai uG) eO dj dM hk ok hP hl;have e1:=uM (EH hk ok) ok.len;have hc:(nms ts).length<=100000:=by have:=jG ok;omega
 have mt:=m3 hk (p:=p) (q:=q) (ts:=ts) (m:="ties") (j:=12) (by decide);unfold fD dX;simp only[EV,MM hk,e,mt,jg,e1,fh,gc,length_map,hc];rw[eu Val.int Val.int (λx=>decide (x∈P)||decide (gm κ p q ts (P++[x])=gm κ p q ts P)) (nms ts) (λx hx=>by
  have z1:1<=sizeLine:=by decide
  have z:(P.map Val.int).length+([.int x]:List Val).length<=sizeLine:=by rw[length_map];simp;unfold sizeLine;omega
  have em:P.map Val.int++[.int x]=(P++[x]).map .int:=by rw[map_append];rfl
  simp only[EV,bG,DJ]
  by_cases c:x∈P
  ·simp[c]
  ·have e2:=uR (Ψ:=ai uG) eO dj dM hk ok (P:=P++[x]) (gF hP hx) (sub_len ok (gx hn c) (gF hP hx))
   simp only[EV,c,decide_false,z1,ku z,em,MM hk,e2];have hm:=(mY ok hk).step P x hn hP hx c
   by_cases d:gm κ p q ts (P++[x])=gm κ p q ts P
   ·simp[d]
   ·have:¬ gm κ p q ts (P++[x])<=gm κ p q ts P:=by omega
    simp[d,this])]
 simp only[EV,bF];rfl
theorem EI{κ:Nat}(hk:κ < 3){p q:Int}(ok:aP p q ts):gX [.int (κ:Int),bK p q ts]=.ok (true,gn κ p q ts):=by
 have r0:uF [bK p q ts]=.ok (true,lB 0 p q ts):=qU oY mQ ok;have r1:kO [bK p q ts]=.ok (true,lB 1 p q ts):=qU lQ kq ok;have r2:mL [bK p q ts]=.ok (true,jh 2 p q ts (eB p q ts (nms ts))):=EB (by decide) iM gY kW iN ok
 match κ,hk with
 | 0,_ =>have d1:decide (((0:Nat):Int)=1)=false:=rfl;have d2:decide (((0:Nat):Int)=2)=false:=rfl;unfold gX fT;simp only[EV,d1,d2,qQ,r0];rfl
 | 1,_ =>have d1:decide (((1:Nat):Int)=1)=true:=rfl;unfold gX fT;simp only[EV,d1,mR,r1];rfl
 | 2,_ =>have d1:decide (((2:Nat):Int)=1)=false:=rfl;have d2:decide (((2:Nat):Int)=2)=true:=rfl;unfold gX fT;simp only[EV,d1,d2,nU,r2];rfl
theorem EJ(i:Int):je [.int i]=.ok (true,.bl true):=by
 unfold je gT;simp only[EV,tyi,V3]
theorem z5(b:Int->Bool):∀l:List Int,cu (l.map λu=>Val.bl (b u))=some (l.map b)
 | []=>rfl
 | x::l=>by
  have ih:=z5 b l;unfold cu at ih |-;rw[map_cons,map_cons,ck,ih];rfl
theorem QB(b:Int->Bool)(l:List Int):gb .any [.rl (l.map λu=>Val.bl (b u))]=.ok (true,.bl (l.any b)):=by
 show pb (pl (cu (l.map λu=>Val.bl (b u)))) _=_;rw[z5,ff,bF,any_map];rfl
theorem z6{κ:Nat}(hk:κ < 3){p q:Int}(ok:aP p q ts){P Q:List Int}(hp:P.Nodup)(hP:∀x∈P,x∈nms ts)(hq:Q.Nodup)(hQ:∀x∈Q,x∈nms ts)(fp:gm κ p q ts P=P.length)(fq:gm κ p q ts Q=Q.length)(hlt:P.length<Q.length):ko [gn κ p q ts,.rl (P.map .int),.rl (Q.map .int)]=.ok (true,.bl true):=by
 have hl:=sub_len ok hp hP;have hc:Q.length<=100000:=by have:=sub_len ok hq hQ;omega
 have mf:=m3 hk (p:=p) (q:=q) (ts:=ts) (m:="free") (j:=19) (by decide);unfold ko jc;simp only[EV,fh,gc,length_map,hc];rw[eu Val.int (λx=>.bl (decide (gm κ p q ts (P++[x])=((P++[x]).length:Int)))) (λx=>!decide (x∈P)) Q (λx hx=>by
  have z1:1<=sizeLine:=by decide
  have z:(P.map Val.int).length+([.int x]:List Val).length<=sizeLine:=by rw[length_map];simp;unfold sizeLine;omega
  have em:P.map Val.int++[.int x]=(P++[x]).map .int:=by rw[map_append];rfl
  simp only[EV,bG,qH]
  by_cases c:x∈P
  ·simp[c]
  ·have fr:=free_eq hk ok (P:=P++[x]) (gF hP (hQ x hx)) (sub_len ok (gx hp c) (gF hP (hQ x hx)));simp only[EV,c,decide_false,z1,ku z,em,mf,kX,fr,not_false_eq_true,if_true])]
 obtain⟨x,h1,h2,h3⟩:=(mY ok hk).grow hp hP hq hQ fp fq hlt;have ha:((Q.filter λx=>!decide (x∈P)).any λx=>decide (gm κ p q ts (P++[x])=((P++[x]).length:Int)))=true:=by rw[any_eq_true];refine⟨x,mem_filter.mpr ⟨h1,by simpa using h2⟩,?_⟩;rw[decide_eq_true_eq,h3];simp
 simp only[EV,QB,ha]
theorem aE{ms:List Nat}(h:aQ Ψ ms st env=.ok (.nx env')):aN Ψ ms (.cons st r) env=aN Ψ ms r env':=by
 rw[aN,h];rfl
theorem iC{i:Nat}{f:Bool}(h:bz Ψ e env=.ok (f,v)):aQ Ψ [] (.asg (.one i) e) env=.ok (.nx (env.set i (some (fO f v,v)))):=by
 rw[aQ]
 try dsimp only
 rw[h];rfl
theorem jq{ms:List Nat}{f:Bool}(h:CW Ψ c env=.ok (f,.bl false)):aQ Ψ ms (.iff c a .nil) env=.ok (.nx env):=by
 rw[aQ,h,bF];show pb (pl (dQ [] (.bl false))) _=_;rw[zK,ff,bF,if_neg Bool.false_ne_true,aN]
theorem tD{ms:List Nat}{f:Bool}(h:CW Ψ c env=.ok (f,.bl true)):aQ Ψ ms (.iff c a .nil) env=aN Ψ ms a env:=by
 rw[aQ,h,bF];show pb (pl (dQ [] (.bl true))) _=_;rw[zK,ff,bF,if_pos rfl]
noncomputable abbrev Sl:=Option (Mk×Val)
theorem QC(l:List Int):cop [] .ne (.rl (l.map .int)) (.rl (l.map .int))=some false:=zV l
noncomputable def yL:fM:=.cons (.ret (.cst (.bl false))) .nil
noncomputable def fr(a:IE):IE:=.mth (.var 0) "free" [(0,19),(1,19),(2,19)] (.cons a .nil)
noncomputable def Nh(a:IE):IE:=.mth (.var 0) "rank" [(0,15),(1,16),(2,17)] (.cons a .nil)
noncomputable def Rz(a:IE):IE:=.mth (.var 0) "reach" [(0,18),(1,18),(2,18)] (.cons a .nil)
noncomputable def xC(a:IE):IE:=.blt .list (.cons a .nil)
noncomputable def z7(a:IE):IE:=.blt .len (.cons a .nil)
noncomputable def z8(j:Int):IE:=.idx (.var 6) (.cst (.int j))
noncomputable def RA:IE:=.bin .add (.var 1) (.lst (.cons (.var 3) .nil))
noncomputable def t1:IS:=.asg (.one 4) (.bin .add (.var 1) (.comp ["_law_each","_law_one"] [none,some 1] (.one 0) .seq (.cons (.var 2) .nil) (.cmp .nin (.var 0) (.var 1)) (.var 0)))
noncomputable def t2:IS:=.asg (.one 5) (.comp ["_law_each","_law_other"] [none,some 2] (.one 0) .seq (.cons (.var 1) .nil) (.cmp .y9 (.var 0) (.var 1)) (.var 0))
noncomputable def t3:IS:=.asg (.one 6) (.comp ["_law_picked","_law_rule_here"] [none,some 0] (.one 0) .seq (.cons (.lst (.cons (.var 1) (.cons (.var 2) (.cons (.var 4) (.cons (.var 5) .nil))))) .nil) .no (.mth (.var 1) "rank" [(0,15),(1,16),(2,17)] (.cons (xC (.var 0)) .nil)))
noncomputable def t4:IS:=.iff (.or (.not (.blt .all (.cons (.comp ["_law_size"] [none] (.one 0) .seq (.cons (.var 6) .nil) .no (.call 21 (.cons (.var 0) .nil))) .nil))) (.not (.chn .le .le (.cst (.int 0)) (z8 0) (z7 (.var 1))))) yL .nil
noncomputable def t5:IS:=.iff (.or (.cmp .ne (fr (xC (.var 1))) (.cmp .eq (z8 0) (z7 (.var 1)))) (.cmp .ne (fr (.lst (.cons (.var 3) .nil))) (.cmp .eq (Nh (.lst (.cons (.var 3) .nil))) (.cst (.int 1))))) yL .nil
noncomputable def t6:IS:=.iff (.cmp .lt (.bin .add (z8 0) (z8 1)) (.bin .add (z8 2) (z8 3))) yL .nil
noncomputable def t7:IS:=.asg (.one 7) (Rz (xC (.var 1)))
noncomputable def t8:IS:=.iff (.or (.cmp .ne (Nh (xC (.var 7))) (z8 0)) (.cmp .ne (Rz (xC (.var 7))) (.var 7))) yL .nil
noncomputable def V8:IS:=.iff (.not (.chn .le .le (z8 0) (Nh RA) (.bin .add (z8 0) (.cst (.int 1))))) yL .nil
noncomputable def V9:IS:=.iff (.and (fr RA) (.not (fr (xC (.var 1))))) yL .nil
noncomputable def t9:IS:=.iff (.cmp .nin (.var 3) (.var 1)) (.cons V8 (.cons V9 .nil)) .nil
noncomputable def Ij:IS:=.iff (.cmp .lt (z7 (.var 1)) (z7 (.var 2))) (.cons (.ret (.call 20 (.cons (.var 0) (.cons (.var 1) (.cons (.var 2) .nil))))) .nil) .nil
noncomputable def Bw:IS:=.iff (.cmp .lt (z7 (.var 2)) (z7 (.var 1))) (.cons (.ret (.call 20 (.cons (.var 0) (.cons (.var 2) (.cons (.var 1) .nil))))) .nil) .nil
noncomputable def RB:IS:=.iff (.and (fr (xC (.var 1))) (fr (xC (.var 2)))) (.cons Ij (.cons Bw .nil)) .nil
theorem MN:gh=.cons t1 (.cons t2 (.cons t3 (.cons t4 (.cons t5 (.cons t6 (.cons t7 (.cons t8 (.cons t9 (.cons RB (.cons (.ret (.cst (.bl true))) .nil)))))))))):=rfl
section
variable {κ:Nat} {p q:Int} {ts:List T3} {P Q:List Int} {n:Int}
noncomputable def TE(κ:Nat)(p q:Int)(ts:List T3)(P Q:List Int)(n:Int)(r:List Sl):bJ:=some (.sh,gn κ p q ts)::some (.sh,.rl (P.map .int))::some (.sh,.rl (Q.map .int))::some (.sh,.int n)::r
noncomputable def xD(P Q:List Int):List Int:=P++Q.filter λy=>!decide (y∈P)
noncomputable def yM(P Q:List Int):List Int:=P.filter λy=>decide (y∈Q)
noncomputable def Il(κ:Nat)(p q:Int)(ts:List T3)(P Q:List Int):List Int:=[gm κ p q ts P,gm κ p q ts Q,gm κ p q ts (xD P Q),gm κ p q ts (yM P Q)]
noncomputable def TF(κ:Nat)(p q:Int)(ts:List T3)(P Q:List Int)(n:Int)(c7:Sl):bJ:=TE κ p q ts P Q n [some (.nw,.rl ((xD P Q).map .int)),some (.nw,.rl ((yM P Q).map .int)),some (.nw,.rl ((Il κ p q ts P Q).map .int)),c7]
structure JF (κ:Nat) (p q:Int) (ts:List T3) (P Q:List Int) (n:Int):Prop where
 hk:κ < 3
 ok:aP p q ts
 hp:P.Nodup
 hP:∀x∈P,x∈nms ts
 hq:Q.Nodup
 hQ:∀x∈Q,x∈nms ts
 hn:n∈nms ts
variable (T:JF κ p q ts P Q n)
include T
theorem JF.lp:P.length<=15:=sub_len T.ok T.hp T.hP
theorem JF.lq:Q.length<=15:=sub_len T.ok T.hq T.hQ
theorem JF.ei:(xD P Q).Nodup/\∀x∈xD P Q,x∈nms ts:=by
 unfold xD;refine⟨?_,λx hx=>?_⟩
 ·rw[nodup_append];exact⟨T.hp,T.hq.sublist filter_sublist,λa ha b hb e=>by subst e;have:=(mem_filter.mp hb).2;simp[ha] at this⟩
 ·rcases mem_append.mp hx with z|z
  ·exact T.hP x z
  ·exact T.hQ x (mem_filter.mp z).1
theorem JF.bo:(yM P Q).Nodup/\∀x∈yM P Q,x∈nms ts:=⟨T.hp.sublist filter_sublist,λx hx=>T.hP x (mem_filter.mp hx).1⟩
theorem JF.rank{R:List Int}(hn:R.Nodup)(hR:∀x∈R,x∈nms ts):ai dH (15 + κ) [gn κ p q ts,.rl (R.map .int)]=.ok (true,.int (gm κ p q ts R)) :=
 uR (Ψ:=ai dH) lR jQ kr T.hk T.ok hR (sub_len T.ok hn hR)
theorem JF.free{R:List Int}(hn:R.Nodup)(hR:∀x∈R,x∈nms ts):dh [gn κ p q ts,.rl (R.map .int)]=.ok (true,.bl (decide (gm κ p q ts R=(R.length:Int)))):=free_eq T.hk T.ok hR (sub_len T.ok hn hR)
theorem QD{c4 c5 c6 c7:Sl}:aQ (ai dH) [] t1 (TE κ p q ts P Q n [c4,c5,c6,c7])=.ok (.nx (TE κ p q ts P Q n [some (.nw,.rl ((xD P Q).map .int)),c5,c6,c7])):=by
 have hc:Q.length<=100000:=by have:=T.lq;omega
 have z:(P.map Val.int).length+((Q.filter λy=>!decide (y∈P)).map Val.int).length<=sizeLine:=by have:=List.length_filter_le (λy=>!decide (y∈P)) Q;have:=T.lp;have:=T.lq;rw[length_map,length_map];unfold sizeLine;omega
 have em:P.map Val.int++(Q.filter λy=>!decide (y∈P)).map Val.int=(xD P Q).map .int:=by unfold xD;rw[map_append]
 unfold t1;rw[iC (f:=true) (v:=.rl ((xD P Q).map .int))]
 ·rfl
 ·unfold TE
  simp only[EV,fh,gc,length_map,hc];rw[eu Val.int Val.int (λy=>!decide (y∈P)) Q (λy hy=>by
   simp only[EV,bG,qH]
   by_cases c:y∈P<;>simp[c])]
  simp only[EV,ku z,em,cN]
theorem QE{c4 c5 c6 c7:Sl}:aQ (ai dH) [] t2 (TE κ p q ts P Q n [c4,c5,c6,c7])=.ok (.nx (TE κ p q ts P Q n [c4,some (.nw,.rl ((yM P Q).map .int)),c6,c7])):=by
 have hc:P.length<=100000:=by have:=T.lp;omega
 unfold t2;rw[iC (f:=true) (v:=.rl ((yM P Q).map .int))]
 ·rfl
 ·unfold TE
  simp only[EV,fh,gc,length_map,hc];rw[eu Val.int Val.int (λy=>decide (y∈Q)) P (λy hy=>by
   simp only[EV,bG,DJ]
   by_cases c:y∈Q<;>simp[c])]
  rfl
theorem QF{c6 c7:Sl}:aQ (ai dH) [] t3 (TE κ p q ts P Q n [some (.nw,.rl ((xD P Q).map .int)),some (.nw,.rl ((yM P Q).map .int)),c6,c7])=.ok (.nx (TF κ p q ts P Q n c7)):=by
 have z4:4<=sizeLine:=by decide
 have h4:4<=100000:=by decide
 unfold t3;rw[iC (f:=true) (v:=.rl ((Il κ p q ts P Q).map .int))]
 ·rfl
 ·unfold TE xC
  simp only[EV,z4,fh,gc,h4];rw[show ([Val.rl (P.map .int),Val.rl (Q.map .int),Val.rl ((xD P Q).map .int),Val.rl ((yM P Q).map .int)]:List Val)=[P,Q,xD P Q,yM P Q].map (λl:List Int=>Val.rl (l.map .int)) from rfl,
   fR (λl:List Int=>Val.rl (l.map .int)) (λl:List Int=>Val.int (gm κ p q ts l)) [P,Q,xD P Q,yM P Q] (λl hl=>by
   have hr:l.Nodup/\∀x∈l,x∈nms ts:=by
    rcases mem_cons.mp hl with rfl|hl
    ·exact⟨T.hp,T.hP⟩
    rcases mem_cons.mp hl with rfl|hl
    ·exact⟨T.hq,T.hQ⟩
    rcases mem_cons.mp hl with rfl|hl
    ·exact T.ei
    ·rw[mem_singleton.mp hl];exact T.bo
   simp only[EV,bG,cN,MM T.hk,T.rank hr.1 hr.2])]
  rfl
omit T in
theorem IJ:iR ((Il κ p q ts P Q).map Val.int) 0=some (.int (gm κ p q ts P)):=rfl
omit T in
theorem at1:iR ((Il κ p q ts P Q).map Val.int) 1=some (.int (gm κ p q ts Q)):=rfl
omit T in
theorem at2:iR ((Il κ p q ts P Q).map Val.int) 2=some (.int (gm κ p q ts (xD P Q))):=rfl
omit T in
theorem at3:iR ((Il κ p q ts P Q).map Val.int) 3=some (.int (gm κ p q ts (yM P Q))):=rfl
theorem QG{c7:Sl}:aQ (ai dH) [] t4 (TF κ p q ts P Q n c7)=.ok (.nx (TF κ p q ts P Q n c7)):=by
 have b:=(mY T.ok T.hk).bound T.hp T.hP;have d1:decide (0<=gm κ p q ts P)=true:=by rw[decide_eq_true_eq];exact b.1
 have d2:decide (gm κ p q ts P<=(P.length:Int))=true:=by rw[decide_eq_true_eq];exact b.2
 have hl:(Il κ p q ts P Q).length<=100000:=by unfold Il;simp
 unfold t4 z8 z7;refine jq (f:=true) ?_;unfold TF TE;simp only[EV,fh,gc,length_map,hl];rw[fR Val.int (λ_=>.bl true) (Il κ p q ts P Q) (λt ht=>by
  simp only[EV,bG,nV,EJ])]
 simp only[EV,all_true,dU IJ,length_map,d1,d2]
theorem QH{c7:Sl}:aQ (ai dH) [] t5 (TF κ p q ts P Q n c7)=.ok (.nx (TF κ p q ts P Q n c7)):=by
 have z1:1<=sizeLine:=by decide
 have mf:=m3 T.hk (p:=p) (q:=q) (ts:=ts) (m:="free") (j:=19) (by decide);have f1:=T.free T.hp T.hP;have hR:∀x∈[n],x∈nms ts:=λx hx=>by rw[mem_singleton.mp hx];exact T.hn
 have f2:=T.free (R:=[n]) (by simp) hR;have r2:=T.rank (R:=[n]) (by simp) hR;simp only[map_cons,map_nil] at f2 r2;rw[show (([n]:List Int).length:Int)=1 from rfl] at f2;unfold t5 z8 z7 fr Nh xC;refine jq (f:=true) ?_;unfold TF TE;simp only[EV,mf,cN,bW,f1,dU IJ,length_map,S5,bne_self_eq_false,z1,f2,MM T.hk,r2]
theorem QI{c7:Sl}:aQ (ai dH) [] t6 (TF κ p q ts P Q n c7)=.ok (.nx (TF κ p q ts P Q n c7)):=by
 have sm:=(mY T.ok T.hk).Qw (Q.filter λy=>!decide (y∈P)) P (yM P Q) T.ei.1 T.ei.2 T.bo.1 λy hy=>(mem_filter.mp hy).1;have e:gm κ p q ts (yM P Q++Q.filter λy=>!decide (y∈P))=gm κ p q ts Q:=by
  refine(mY T.ok T.hk).same _ _ ?_ T.hq (λy hy=>?_) λy=>?_
  ·rw[nodup_append];exact⟨T.bo.1,T.hq.sublist filter_sublist,λa ha b hb e=>by subst e;have:=(mem_filter.mp hb).2;have:=(mem_filter.mp ha).1;simp_all⟩
  ·rcases mem_append.mp hy with z|z
   ·exact T.bo.2 y z
   ·exact T.hQ y (mem_filter.mp z).1
  ·unfold yM
   rw[mem_append,mem_filter,mem_filter];constructor
   ·rintro(z|z)
    ·simpa using z.2
    ·exact z.1
   ·intro z
    by_cases c:y∈P
    ·exact .inl ⟨c,by simpa using z⟩
    ·exact .inr ⟨z,by simpa using c⟩
 rw[e] at sm;have d:decide (gm κ p q ts P+gm κ p q ts Q<gm κ p q ts (xD P Q)+gm κ p q ts (yM P Q))=false:=by rw[decide_eq_false_iff_not];unfold xD;omega
 unfold t6 z8;refine jq (f:=true) ?_;unfold TF TE;simp only[EV,dU IJ,dU at1,dU at2,dU at3,d]
noncomputable def cl(κ:Nat)(p q:Int)(ts:List T3)(P:List Int):List Int:=rM (nms ts) (gm κ p q ts) P
theorem JF.MO:(cl κ p q ts P).Nodup/\∀x∈cl κ p q ts P,x∈nms ts:=⟨(jk T.ok).sublist filter_sublist,λx hx=>(fY.mp hx).1⟩
theorem QJ{c7:Sl}:aQ (ai dH) [] t7 (TF κ p q ts P Q n c7)=.ok (.nx (TF κ p q ts P Q n (some (.nw,.rl ((cl κ p q ts P).map .int))))):=by
 have rc:=xy T.hk T.ok T.hp T.hP;have mr:=m3 T.hk (p:=p) (q:=q) (ts:=ts) (m:="reach") (j:=18) (by decide);unfold t7 Rz xC;rw[iC (f:=true) (v:=.rl ((cl κ p q ts P).map .int))]
 ·rfl
 ·unfold TF TE;simp only[EV,mr,cN,gu,rc];rfl
theorem QK:aQ (ai dH) [] t8 (TF κ p q ts P Q n (some (.nw,.rl ((cl κ p q ts P).map .int))))=.ok (.nx (TF κ p q ts P Q n (some (.nw,.rl ((cl κ p q ts P).map .int))))):=by
 have hr:=T.MO;have rc:=xy T.hk T.ok hr.1 hr.2;rw[show rM (nms ts) (gm κ p q ts) (cl κ p q ts P)=cl κ p q ts P from(mY T.ok T.hk).Ig (jk T.ok) T.hp T.hP] at rc;have rk:=T.rank hr.1 hr.2;rw[show gm κ p q ts (cl κ p q ts P)=gm κ p q ts P from(mY T.ok T.hk).xr (jk T.ok) T.hp T.hP] at rk;have mr:=m3 T.hk (p:=p) (q:=q) (ts:=ts) (m:="reach") (j:=18) (by decide);unfold t8 Rz Nh xC z8;refine jq (f:=true) ?_;unfold TF TE;simp only[EV,mr,cN,MM T.hk,rk,dU IJ,decide_true,gu,rc,zV]
theorem QL{c7:Sl}:aQ (ai dH) [] t9 (TF κ p q ts P Q n c7)=.ok (.nx (TF κ p q ts P Q n c7)):=by
 have z1:1<=sizeLine:=by decide
 by_cases c:n∈P
 ·unfold t9;refine jq (f:=true) ?_;unfold TF TE;simp only[EV,qH,c,decide_true]
 ·have st:=(mY T.ok T.hk).step P n T.hp T.hP T.hn c
  have bd:=(mY T.ok T.hk).bound T.hp T.hP;have hr:(P++[n]).Nodup/\∀x∈P++[n],x∈nms ts:=⟨gx T.hp c,gF T.hP T.hn⟩;have rk:=T.rank hr.1 hr.2;have f1:=T.free T.hp T.hP;have f2:=T.free hr.1 hr.2;have mf:=m3 T.hk (p:=p) (q:=q) (ts:=ts) (m:="free") (j:=19) (by decide);have z:(P.map Val.int).length+([.int n]:List Val).length<=sizeLine:=by have:=T.lp;rw[length_map];simp;unfold sizeLine;omega
  have em:P.map Val.int++[.int n]=(P++[n]).map .int:=by rw[map_append];rfl
  have l1:((P++[n]).length:Int)=P.length+1:=by simp
  have d1:decide (gm κ p q ts P<=gm κ p q ts (P++[n]))=true:=by rw[decide_eq_true_eq];omega
  have d2:decide (gm κ p q ts (P++[n])<=gm κ p q ts P+1)=true:=by rw[decide_eq_true_eq];omega
  have ea:aQ (ai dH) [] V8 (TF κ p q ts P Q n c7)=.ok (.nx (TF κ p q ts P Q n c7)):=by unfold V8 z8 Nh RA;refine jq (f:=true) ?_;unfold TF TE;simp only[EV,dU IJ,z1,ku z,em,cN,MM T.hk,rk,d1,d2]
  have eb:aQ (ai dH) [] V9 (TF κ p q ts P Q n c7)=.ok (.nx (TF κ p q ts P Q n c7)):=by
   unfold V9 fr RA xC;refine jq (f:=true) ?_;unfold TF TE
   by_cases d:gm κ p q ts (P++[n])=((P++[n]).length:Int)
   ·have e:gm κ p q ts P=(P.length:Int):=by omega
    simp only[EV,z1,ku z,em,cN,mf,bW,f2,d,f1,e,decide_true]
   ·simp only[EV,z1,ku z,em,cN,mf,bW,f2,d,decide_false]
  have ec:CW (ai dH) (.cmp .nin (.var 3) (.var 1)) (TF κ p q ts P Q n c7)=.ok (true,.bl true):=by unfold TF TE;simp only[EV,qH,c,decide_false]
  unfold t9;rw[tD ec,aE ea,aE eb,aN]
theorem MP{c7:Sl}:aN (ai dH) [] (.cons RB (.cons (.ret (.cst (.bl true))) .nil)) (TF κ p q ts P Q n c7)=.ok (.rt (true,.bl true)):=by
 have f1:=T.free T.hp T.hP;have f2:=T.free T.hq T.hQ;have mf:=m3 T.hk (p:=p) (q:=q) (ts:=ts) (m:="free") (j:=19) (by decide);have fin:∀env:bJ,aN (ai dH) [] (.cons (.ret (.cst (.bl true))) .nil) env=.ok (.rt (true,.bl true)):=λenv=>by
  simp only[EV,bF]
 have ec:CW (ai dH) (.and (fr (xC (.var 1))) (fr (xC (.var 2)))) (TF κ p q ts P Q n c7)=.ok (true,.bl (decide (gm κ p q ts P=(P.length:Int)/\gm κ p q ts Q=(Q.length:Int)))):=by
  unfold fr xC TF TE
  by_cases d:gm κ p q ts P=(P.length:Int)
  ·simp only[EV,cN,mf,bW,f1,d,decide_true,f2,true_and]
  ·simp only[EV,cN,mf,bW,f1,d,decide_false,false_and]
 by_cases hf:gm κ p q ts P=(P.length:Int)/\gm κ p q ts Q=(Q.length:Int)
 ·rw[decide_eq_true hf] at ec
  have ea:CW (ai dH) (.cmp .lt (z7 (.var 1)) (z7 (.var 2))) (TF κ p q ts P Q n c7)=.ok (true,.bl (decide ((P.length:Int)<Q.length))):=by unfold z7 TF TE;simp only[EV,length_map]
  have eb:CW (ai dH) (.cmp .lt (z7 (.var 2)) (z7 (.var 1))) (TF κ p q ts P Q n c7)=.ok (true,.bl (decide ((Q.length:Int)<P.length))):=by unfold z7 TF TE;simp only[EV,length_map]
  rw[aN];unfold RB;rw[tD ec]
  by_cases h1:(P.length:Int)<Q.length
  ·rw[decide_eq_true h1] at ea;have g:=z6 T.hk T.ok T.hp T.hP T.hq T.hQ hf.1 hf.2 (by omega);rw[aN];unfold Ij;rw[tD ea];unfold TF TE;simp only[EV,jM,g]
  ·rw[decide_eq_false h1] at ea
   rw[show aN (ai dH) [] (.cons Ij (.cons Bw .nil)) (TF κ p q ts P Q n c7)=aN (ai dH) [] (.cons Bw .nil) (TF κ p q ts P Q n c7) from aE (by unfold Ij;exact jq ea)]
   by_cases h2:(Q.length:Int)<P.length
   ·rw[decide_eq_true h2] at eb;have g:=z6 T.hk T.ok T.hq T.hQ T.hp T.hP hf.2 hf.1 (by omega);rw[aN];unfold Bw;rw[tD eb];unfold TF TE;simp only[EV,jM,g]
   ·rw[decide_eq_false h2] at eb;rw[show aN (ai dH) [] (.cons Bw .nil) (TF κ p q ts P Q n c7)=.ok (.nx (TF κ p q ts P Q n c7)) from by rw[aE (by unfold Bw;exact jq eb),aN]];exact fin (TF κ p q ts P Q n c7)
 ·rw[decide_eq_false hf] at ec;rw[aE (by unfold RB;exact jq ec)];exact fin (TF κ p q ts P Q n c7)
theorem EK:mO [gn κ p q ts,.rl (P.map .int),.rl (Q.map .int),.int n]=.ok (true,.bl true):=by
 have fin:aN (ai dH) [] gh (TE κ p q ts P Q n [none,none,none,none])=.ok (.rt (true,.bl true)):=by rw[MN,aE (QD T),aE (QE T),aE (QF T),aE (QG T),aE (QH T),aE (QI T),aE (QJ T),aE (QK T),aE (QL T)];exact MP T
 unfold mO e9;rw[show fH gh=[] from by decide];show pb (aN (ai dH) [] gh (TE κ p q ts P Q n [none,none,none,none])) _=_;rw[fin];rfl
end
noncomputable def MQ:IE:=.call 2 (.cons (.var 0) (.cons (.slc (.var 0) (.cst (.int 3)) (.bin .add (.cst (.int 3)) (.bin .mod (.var 1) (.cst (.int 9))))) .nil))
noncomputable def z9:IE:=.cmp .eq (.bin .mod (.blt .len (.cons (.var 0) .nil)) (.cst (.int 2))) (.cst (.int 0))
noncomputable def Wa:IE:=.bin .pow (.cst (.int 10)) (.cst (.int 18))
noncomputable def Im:IE:=.cmp .ge (.call 0 (.cons (.var 0) (.cons (.cst (.int 3)) .nil))) Wa
noncomputable def Io:IE:=.call 24 (.cons (.var 0) (.cons (.cst (.int 12)) .nil))
noncomputable def EL:IE:=.call 14 (.cons (.bin .mod (.bin .fdiv (.var 1) (.cst (.int 9))) (.cst (.int 3))) (.cons (.var 2) .nil))
noncomputable def uS:IE:=.blt .sorted (.cons (.bin .add (.lst (.cons (.neg (.cst (.int 1))) .nil)) (.comp ["_law_each"] [none] (.one 0) .seq (.cons (.idx (.var 2) (.cst (.int 1))) .nil) .no (.idx (.var 0) (.cst (.int 0))))) .nil)
noncomputable def tE(i j:Nat):IE:=.idx (.var 4) (.bin .mod (.bin .fdiv (.var i) (.cst (.int j))) (.blt .len (.cons (.var 4) .nil)))
noncomputable def u1:IS:=.asg (.one 7) (.call 25 (.cons (.var 4) (.cons (.bin .fdiv (.var 6) (.cst (.int 16))) .nil)))
noncomputable def u2:IS:=.iff (.cmp .eq (.bin .mod (.var 6) (.cst (.int 2))) (.cst (.int 1))) (.cons (.asg (.one 7) (.call 25 (.cons (.var 7) (.cons (.bin .fdiv (.var 6) (.cst (.int 7))) .nil)))) .nil) .nil
noncomputable def u3:IS:=.iff (.not (.call 22 (.cons (.var 3) (.cons (.var 5) (.cons (.var 7) (.cons (tE 6 2) .nil)))))) yL .nil
noncomputable def u4:IS:=.asg (.one 5) (.var 7)
noncomputable def mZ:fM:=.cons u1 (.cons u2 (.cons u3 (.cons u4 .nil)))
noncomputable def qX:IE:=.slc (.var 0) (.cst (.int 11)) (.cst (.int 37))
noncomputable def EM:IS:=.ret (.call 22 (.cons (.var 3) (.cons (.var 5) (.cons (.lst .nil) (.cons (tE 1 27) .nil)))))
theorem MR:kh=.cons (.asg (.one 1) (.bin .fdiv (.call 0 (.cons (.var 0) (.cons (.cst (.int 2)) .nil))) (.cst (.int 56)))) (.cons (.asg (.one 2) MQ) (.cons (.iff (.and z9 Im) (.cons (.asg (.one 1) (.call 0 (.cons (.var 0) (.cons (.cst (.int 4)) .nil)))) (.cons (.asg (.one 2) Io) .nil)) .nil) (.cons (.asg (.one 3) EL) (.cons (.asg (.one 4) uS) (.cons (.asg (.one 5) (.lst .nil)) (.cons (.for (.one 6) .seq (.cons qX .nil) mZ) (.cons EM .nil))))))):=rfl
section
variable {ns:List Int} {sz:Int} {κ:Nat} {p q:Int} {ts:List T3}
noncomputable def EN(ns:List Int)(sz:Int)(κ:Nat)(p q:Int)(ts:List T3)(m2:Mk)(r:List Sl):bJ:=some (.sh,.rl (ns.map .int))::some (.sh,.int sz)::some (m2,bK p q ts)::some (fO true (gn κ p q ts),gn κ p q ts)::some (.nw,.rl ((nms ts).map .int))::r
noncomputable def Rw(ts:List T3)(P:List Int):Prop:=P.Nodup/\∀y∈P,y∈nms ts
theorem Ip:0<(nms ts).length:=by unfold nms;simp
theorem Aa{m1 m4:Mk}(r1:lu m1=true)(r4:lu m4=true){a0 a2 a3:Sl}{i j:Nat}{x:Int}(hj:gy (j:Int)=true)(hi:(i=1/\x=sz)\/(i=6/\∃a b,r=a::some (.sh,.int x)::b)):∃n,n∈nms ts/\∃f,bz (ai di) (tE i j) (a0::some (m1,.int sz)::a2::a3::some (m4,.rl ((nms ts).map .int))::r)=.ok (f,.int n):=by
 have hlt:0<((nms ts).length:Int):=by have:=Ip (ts:=ts);omega
 have j1:=emod_nonneg (x/(j:Int)) (show ((nms ts).length:Int)≠0 by omega);have j2:=emod_lt_of_pos (x/(j:Int)) hlt;obtain⟨k,hk⟩:=eq_ofNat_of_zero_le j1;rw[hk] at j2;have XH:k<(nms ts).length:=by omega
 have hat:iR ((nms ts).map Val.int) (k:Int)=some (.int ((nms ts)[k])):=kE (by rw[getElem?_map,List.getElem?_eq_getElem XH];rfl);refine⟨(nms ts)[k],List.getElem_mem XH,true,?_⟩;have hm:=eG (a:=x/(j:Int)) (show decide (0<((nms ts).length:Int))=true by rw[decide_eq_true_eq];exact hlt);unfold tE
 rcases hi with ⟨rfl,rfl⟩|⟨rfl,a,b,rfl⟩
 ·simp only[EV,r1,r4,length_map,cX hj,hm,hk,dU hat]
 ·simp only[EV,r1,r4,length_map,cX hj,hm,hk,dU hat]
theorem MS(ok:aP p q ts){m2:Mk}{x:Int}{c5 c7:Sl}:∃Q,Rw ts Q/\aN (ai di) [] (.cons u1 (.cons u2 r)) (EN ns sz κ p q ts m2 [c5,some (.sh,.int x),c7])=aN (ai di) [] r (EN ns sz κ p q ts m2 [c5,some (.sh,.int x),some (.nw,.rl (Q.map .int))]):=by
 have hN:(nms ts).length<64:=by have:=jG ok;omega
 have XI:=Es (nms ts) (x/16) hN;have hsub:=mV (nms ts) (x/16);generalize o5 (nms ts) (x/16)=l at XI hsub;have hl:l.Nodup:=hsub.nodup (jk ok);have e1:aQ (ai di) [] u1 (EN ns sz κ p q ts m2 [c5,some (.sh,.int x),c7])=.ok (.nx (EN ns sz κ p q ts m2 [c5,some (.sh,.int x),some (.nw,.rl (l.map .int))])):=by
  unfold u1;rw[iC (f:=true) (v:=.rl (l.map .int))]
  ·rfl
  ·unfold EN;simp only[EV,cX (show gy 16=true by decide),mU,XI]
 have ec:CW (ai di) (.cmp .eq (.bin .mod (.var 6) (.cst (.int 2))) (.cst (.int 1))) (EN ns sz κ p q ts m2 [c5,some (.sh,.int x),some (.nw,.rl (l.map .int))])=.ok (true,.bl (decide (x%2=1))):=by unfold EN;simp only[EV,eG (show decide ((0:Int)<2)=true by decide)]
 by_cases hodd:x%2=1
 ·rw[decide_eq_true hodd] at ec
  have XJ:=Es l (x/7) (by have:=hsub.length_le;omega);have hsub2:=mV l (x/7);generalize o5 l (x/7)=l2 at XJ hsub2;refine⟨l2,⟨hsub2.nodup hl,λy hy=>hsub.subset (hsub2.subset hy)⟩,?_⟩;rw[aE e1];refine aE ?_;unfold u2;rw[tD ec,aE (iC (f:=true) (v:=.rl (l2.map .int)) ?_),aN]
  ·rfl
  ·unfold EN;simp only[EV,cX (show gy 7=true by decide),mU,XJ]
 ·rw[decide_eq_false hodd] at ec;refine⟨l,⟨hl,λy hy=>hsub.subset hy⟩,?_⟩;rw[aE e1];refine aE ?_;unfold u2;exact jq ec
theorem Iq(hk:κ < 3)(ok:aP p q ts){m2 m5:Mk}(h5:lu m5=true){P:List Int}(hP:Rw ts P){x:Int}{c7:Sl}:∃Q m d7,Rw ts Q/\lu m=true/\aN (ai di) [] mZ (EN ns sz κ p q ts m2 [some (m5,.rl (P.map .int)),some (.sh,.int x),c7])=.ok (.nx (EN ns sz κ p q ts m2 [some (m,.rl (Q.map .int)),some (.sh,.int x),d7])):=by
 obtain⟨Q,hQ,e12⟩:=MS (ns:=ns) (sz:=sz) (κ:=κ) ok (m2:=m2) (x:=x) (c5:=some (m5,.rl (P.map .int))) (c7:=c7) (r:=.cons u3 (.cons u4 .nil));obtain⟨n,hn,f,en⟩:=Aa (sz:=sz) (ts:=ts) (m1:=.sh) (m4:=.nw) rfl rfl (a0:=some (.sh,.rl (ns.map .int))) (a2:=some (m2,bK p q ts)) (a3:=some (fO true (gn κ p q ts),gn κ p q ts)) (r:=[some (m5,.rl (P.map .int)),some (.sh,.int x),some (.nw,.rl (Q.map .int))]) (i:=6) (j:=2) (x:=x) (by decide) (.inr ⟨rfl,_,_,rfl⟩);have tw:=EK ⟨hk,ok,hP.1,hP.2,hQ.1,hQ.2,hn⟩;have e3:aQ (ai di) [] u3 (EN ns sz κ p q ts m2 [some (m5,.rl (P.map .int)),some (.sh,.int x),some (.nw,.rl (Q.map .int))])=.ok (.nx (EN ns sz κ p q ts m2 [some (m5,.rl (P.map .int)),some (.sh,.int x),some (.nw,.rl (Q.map .int))])):=by unfold u3;refine jq (f:=true) ?_;unfold EN;simp only[EV,en,h5,mT,tw]
 have e4:aQ (ai di) [] u4 (EN ns sz κ p q ts m2 [some (m5,.rl (P.map .int)),some (.sh,.int x),some (.nw,.rl (Q.map .int))])=.ok (.nx (EN ns sz κ p q ts m2 [some (.sh,.rl (Q.map .int)),some (.sh,.int x),some (.nw,.rl (Q.map .int))])):=by
  unfold u4;rw[iC (f:=false) (v:=.rl (Q.map .int))]
  ·rfl
  ·unfold EN;simp only[EV,bF]
 refine⟨Q,.sh,some (.nw,.rl (Q.map .int)),hQ,rfl,?_⟩;unfold mZ;rw[e12,aE e3,aE e4,aN]
theorem Ir(hns:ns.length<=63)(hk:κ < 3)(ok:aP p q ts){m2:Mk}:∃Q m c6 c7,Rw ts Q/\lu m=true/\aQ (ai di) [] (.for (.one 6) .seq (.cons qX .nil) mZ) (EN ns sz κ p q ts m2 [some (.nw,.rl []),none,none])=.ok (.nx (EN ns sz κ p q ts m2 [some (m,.rl (Q.map .int)),c6,c7])):=by
 generalize hLs:fZ ns (some 11) (some 37)=Ls;have he:gB (ai di) (.cons qX .nil) (EN ns sz κ p q ts m2 [some (.nw,.rl []),none,none])=.ok [.rl (Ls.map .int)]:=by unfold qX EN;simp only[EV,Jx,wu,hLs]
 rw[aQ,show (sN (.one 6) (.cons qX .nil) mZ&&(Hv.stored (.one 6)).all λi=>!([]:List Nat).contains i)=true from by decide,mH,he,bF,fh,ff,bF];have key:=cQ (us:=Ls) (k:=λf=>Pr.ok f) (body:=λx env=>pb (pl (fG (.one 6) x env)) λenv'=>aN (ai di) [] mZ env') Val.int
  (λr:Pr EW=>∃Q m c6 c7,Rw ts Q/\lu m=true/\r=.ok (.nx (EN ns sz κ p q ts m2 [some (m,.rl (Q.map .int)),c6,c7])))
  (oU:=EN ns sz κ p q ts m2 [some (.nw,.rl []),none,none])
  (λdone env=>∃Q m c6 c7,Rw ts Q/\lu m=true/\env=EN ns sz κ p q ts m2 [some (m,.rl (Q.map .int)),c6,c7])
  ⟨[],.nw,none,none,⟨nodup_nil,λ_ h=>by simp at h⟩,rfl,rfl⟩ (by
   rintro pre x post env hx ⟨P,m,c6,c7,hP,hm,rfl⟩;obtain⟨Q,m',d7,hQ,hm',h⟩:=Iq (ns:=ns) (sz:=sz) hk ok (m2:=m2) hm hP (x:=x) (c7:=c7);exact⟨_,h,Q,m',_,d7,hQ,hm',rfl⟩) (by
   rintro env ⟨P,m,c6,c7,hP,hm,rfl⟩;exact⟨P,m,c6,c7,hP,hm,rfl⟩)
 cases e:nQ (λx env=>pb (pl (fG (.one 6) x env)) λenv'=>aN (ai di) [] mZ env') (Ls.map Val.int) (EN ns sz κ p q ts m2 [some (.nw,.rl []),none,none]) with
 | ok f=>rw[e] at key;exact key
 | exc _ _=>rw[e] at key;exact key
 | no=>rw[e] at key;exact key
theorem MT(hk:κ < 3)(ok:aP p q ts){m2 m5:Mk}(h5:lu m5=true){P:List Int}(hP:Rw ts P){c6 c7:Sl}:aN (ai di) [] (.cons EM .nil) (EN ns sz κ p q ts m2 [some (m5,.rl (P.map .int)),c6,c7])=.ok (.rt (true,.bl true)):=by
 obtain⟨n,hn,f,en⟩:=Aa (sz:=sz) (ts:=ts) (m1:=xB .sh) (m4:=xB .nw) rfl rfl (a0:=some (xB .sh,.rl (ns.map .int))) (a2:=some (xB m2,bK p q ts)) (a3:=some (xB (fO true (gn κ p q ts)),gn κ p q ts)) (r:=[some (xB m5,.rl (P.map .int)),LR c6,LR c7]) (i:=1) (j:=27) (x:=sz) (by decide) (.inl ⟨rfl,rfl⟩);have tw:=EK (P:=P) (Q:=[]) ⟨hk,ok,hP.1,hP.2,nodup_nil,λ_ h=>by simp at h,hn⟩;have z0:0<=sizeLine:=by decide
 rw[map_nil] at tw;have e:M9 (ai di) (.call 22 (.cons (.var 3) (.cons (.var 5) (.cons (.lst .nil) (.cons (tE 1 27) .nil))))) (EN ns sz κ p q ts m2 [some (m5,.rl (P.map .int)),c6,c7])=.ok (true,.bl true):=by
  show bz (ai di) (.call 22 (.cons (.var 3) (.cons (.var 5) (.cons (.lst .nil) (.cons (tE 1 27) .nil))))) [some (xB .sh,.rl (ns.map .int)),some (xB .sh,.int sz),some (xB m2,bK p q ts),some (xB (fO true (gn κ p q ts)),gn κ p q ts),some (xB .nw,.rl ((nms ts).map .int)),some (xB m5,.rl (P.map .int)),LR c6,LR c7]=_;have r5:lu (xB m5)=true:=by cases m5<;>first|rfl|exact h5
  have r3:lu (xB (fO true (gn κ p q ts)))=true:=by unfold fO;split<;>rfl
  simp only[bz,qz,bF,List.getElem?_cons_zero,getElem?_cons_succ,r5,r3,mH,z0,length_nil,decide_true,en];simp only[EV,z0,mT,tw]
 unfold EM;rw[aN,aQ,e];rfl
theorem Bx(ok:aP p q ts){m2:Mk}(h2:lu m2=true):bz (ai di) uS (a::b::some (m2,bK p q ts)::c::r)=.ok (true,.rl ((nms ts).map .int)):=by
 have hc:ts.length<=100000:=by have:=ok.len;omega
 have z1:1<=sizeLine:=by decide
 have hN:(nms ts).length<64:=by have:=jG ok;omega
 have em:([.int (-1)]:List Val)++ts.map (λu=>Val.int u.1)=(nms ts).map .int:=by unfold nms;rw[map_cons,map_map];rfl
 have z:([.int (-1)]:List Val).length+(ts.map (λu=>Val.int u.1)).length<=sizeLine:=by rw[length_map];simp only[length_cons,length_nil];unfold sizeLine;have:=ok.len;omega
 have ng:gb .sorted [.rl ((nms ts).map .int)]=.ok (true,.rl ((nms ts).map .int)):=by
  have h:gb .sorted [.rl ((nms ts).map .int)]=.ok (true,.rl ((PySem.W.sortI (nms ts)).map .int)):=by refine xg ?_;unfold fE;rw[if_pos (by rw[length_map];exact hN),ints_map]
  rw[h,Er ok]
 unfold uS bK;simp only[EV,h2,oG Bg,fh,gc,length_map,hc,z1];rw[fR dW (λu=>Val.int u.1) ts (λu hu=>by
  have i0:mh [] (dW u) (.int 0)=some (.int u.1):=rfl;simp only[EV,bG,i0])]
 simp only[EV,bF];rw[ku z,em,bF,bF];exact ng
end
theorem MU:bz Ψ Wa env=.ok (true,.int (10 ^ (18:Int).toNat)):=by
 unfold Wa;simp only[bz,bF,zJ (show decide ((0:Int)<=18/\(18:Int)<=1000000/\(10:Int).natAbs<2 ^ 64)=true by decide)];rfl
theorem MV(ns:List Int)(hn:ns.length<=63):∃f,zT [.rl (ns.map .int)]=.ok (f,.bl true):=by
 have c2:bH [.rl (ns.map .int),.int 2]=.ok (true,.int (cellAt ns 2)):=fX ns 2;have c3:bH [.rl (ns.map .int),.int 3]=.ok (true,.int (cellAt ns 3)):=fX ns 3;have c4:bH [.rl (ns.map .int),.int 4]=.ok (true,.int (cellAt ns 4)):=fX ns 4;generalize hsz:cellAt ns 2/56=sz at *;generalize cellAt ns 3=k3 at *;generalize cellAt ns 4=k4 at *;have hcl:(fZ ns (some 3) (some (3+sz%9))).length<=14:=by obtain⟨k,hk⟩:=eq_ofNat_of_zero_le (show 0<=sz%9 by omega);have h:=Bj ns 3 k (by omega);rw[<-hk] at h;omega
 obtain⟨p0,q0,By,en,ok0,_⟩:=MG ns (fZ ns (some 3) (some (3+sz%9))) hcl;obtain⟨p1,q1,Wb,ea,ok1⟩:=yK ns;have key:∀(s p q:Int) (ts:List T3) (m:Mk),aP p q ts->lu m=true->aN (ai di) [] (.cons (.asg (.one 3) EL) (.cons (.asg (.one 4) uS) (.cons (.asg (.one 5) (.lst .nil)) (.cons (.for (.one 6) .seq (.cons qX .nil) mZ) (.cons EM .nil))))) [some (.sh,.rl (ns.map .int)),some (.sh,.int s),some (m,bK p q ts),none,none,none,none,none]=.ok (.rt (true,.bl true)):=λs p q ts m ok hm=>by
  obtain⟨κ,hκ⟩:=eq_ofNat_of_zero_le (show 0<=s/9%3 by omega);have hk:κ < 3:=by omega
  have er:=EI hk ok;rw[aE (iC (i:=3) (f:=true) (v:=gn κ p q ts) (by unfold EL;simp only[EV,hm,cX (show gy 9=true by decide),eG (show decide ((0:Int)<3)=true by decide),hκ,rK,er]))];simp only[set_cons_succ,set_cons_zero];rw[aE (iC (i:=4) (Bx ok hm))];simp only[set_cons_succ,set_cons_zero,zH];rw[aE (iC (i:=5) (f:=true) (v:=.rl []) (by simp only[EV,show 0<=sizeLine by decide]))];simp only[set_cons_succ,set_cons_zero,zH];obtain⟨Q,m',c6,c7,hQ,hm',e1⟩:=Ir (sz:=s) hn hk ok (m2:=m);have e2:aN (ai di) [] (.cons (.for (.one 6) .seq (.cons qX .nil) mZ) (.cons EM .nil)) (EN ns s κ p q ts m [some (.nw,.rl []),none,none])=.ok (.rt (true,.bl true)):=by rw[aE e1];exact MT hk ok hm' hQ
  exact e2
 have e0:aQ (ai di) [] (.asg (.one 1) (.bin .fdiv (.call 0 (.cons (.var 0) (.cons (.cst (.int 2)) .nil))) (.cst (.int 56)))) [some (.sh,.rl (ns.map .int)),none,none,none,none,none,none,none]=.ok (.nx [some (.sh,.rl (ns.map .int)),some (.sh,.int sz),none,none,none,none,none,none]) :=
  iC (i:=1) (f:=true) (v:=.int sz) (by simp only[EV,iQ,c2,cX (show gy 56=true by decide),hsz])
 have e1:aQ (ai di) [] (.asg (.one 2) MQ) [some (.sh,.rl (ns.map .int)),some (.sh,.int sz),none,none,none,none,none,none]=.ok (.nx [some (.sh,.rl (ns.map .int)),some (.sh,.int sz),some (fO true (bK p0 q0 By),bK p0 q0 By),none,none,none,none,none]) :=
  iC (i:=2) (f:=true) (v:=bK p0 q0 By) (by unfold MQ;simp only[EV,eG (show decide ((0:Int)<9)=true by decide),Jx,wu,uH,en])
 have ev:∃b,CW (ai di) (.and z9 Im) [some (.sh,.rl (ns.map .int)),some (.sh,.int sz),some (fO true (bK p0 q0 By),bK p0 q0 By),none,none,none,none,none]=.ok (true,.bl b):=by
  unfold z9 Im
  by_cases h:(ns.length:Int)%2=0
  ·refine⟨decide ((10 ^ (18:Int).toNat:Int)<=k3),?_⟩;simp only[EV,length_map,eG (show decide ((0:Int)<2)=true by decide),h,decide_true,iQ,c3,MU];exact if_neg (by decide)
  ·refine⟨false,?_⟩;simp only[EV,length_map,eG (show decide ((0:Int)<2)=true by decide),h,decide_false]
 obtain⟨b,ev⟩:=ev;have fin:aN (ai di) [] kh [some (.sh,.rl (ns.map .int)),none,none,none,none,none,none,none]=.ok (.rt (true,.bl true)):=by
  rw[MR,aE e0,aE e1];cases b with
  | false=>rw[aE (jq ev)];exact key _ _ _ _ _ ok0 wo
  | true =>
   have e5:aQ (ai di) [] (.asg (.one 1) (.call 0 (.cons (.var 0) (.cons (.cst (.int 4)) .nil)))) [some (.sh,.rl (ns.map .int)),some (.sh,.int sz),some (fO true (bK p0 q0 By),bK p0 q0 By),none,none,none,none,none]=.ok (.nx [some (.sh,.rl (ns.map .int)),some (.sh,.int k4),some (fO true (bK p0 q0 By),bK p0 q0 By),none,none,none,none,none]) :=
    iC (i:=1) (f:=true) (v:=.int k4) (by simp only[EV,iQ,c4])
   have e6:aQ (ai di) [] (.asg (.one 2) Io) [some (.sh,.rl (ns.map .int)),some (.sh,.int k4),some (fO true (bK p0 q0 By),bK p0 q0 By),none,none,none,none,none]=.ok (.nx [some (.sh,.rl (ns.map .int)),some (.sh,.int k4),some (.sh,bK p1 q1 Wb),none,none,none,none,none]) :=
    iC (i:=2) (f:=false) (v:=bK p1 q1 Wb) (by unfold Io;simp only[EV,nW,ea])
   have e7:aQ (ai di) [] (.iff (.and z9 Im) (.cons (.asg (.one 1) (.call 0 (.cons (.var 0) (.cons (.cst (.int 4)) .nil)))) (.cons (.asg (.one 2) Io) .nil)) .nil) [some (.sh,.rl (ns.map .int)),some (.sh,.int sz),some (fO true (bK p0 q0 By),bK p0 q0 By),none,none,none,none,none]=.ok (.nx [some (.sh,.rl (ns.map .int)),some (.sh,.int k4),some (.sh,bK p1 q1 Wb),none,none,none,none,none]):=by rw[tD ev,aE e5,aE e6,aN]
   rw[aE e7];exact key _ _ _ _ _ ok1 rfl
 refine⟨true,?_⟩;show pb (aN (ai di) (fH kh) kh [some (.sh,.rl (ns.map .int)),none,none,none,none,none,none,none]) _=_;rw[show fH kh=[] from by decide,fin];rfl
theorem true(ns:List Int)(hn:ns.length<=63):∃h',wR [.rl (ns.map .int)] []=.ok (.bl true) h':=by
 obtain⟨f,e⟩:=MV ns hn;exact HQ e
end K25
end
end
section
namespace PySem.W.Fast
theorem tw2590232658759313655:True:=trivial
theorem tw5714402542989342253:True:=trivial
theorem tw14363130502668652624:True:=trivial
theorem tw12128724648649829294:True:=trivial
theorem tw12180349353623223151:True:=trivial
theorem tw10629713168121960062:True:=trivial
theorem tw13764323368193869510:True:=trivial
theorem tw11470620578100772204:True:=trivial
theorem tw3447362688482694483:True:=trivial
theorem tw560039752268505136:True:=trivial
theorem tw9262293842059819812:True:=trivial
theorem tw16283847870997131134:True:=trivial
theorem tw12294507362500133797:True:=trivial
theorem tw18208187520172821147:True:=trivial
theorem tw13720787339690683570:True:=trivial
theorem tw5077043707959718857:True:=trivial
theorem tw633831900689409645:True:=trivial
theorem tw15627411521128846518:True:=trivial
theorem tw514275015592175965:True:=trivial
theorem tw575801918092079132:True:=trivial
theorem tw3219963998713127220:True:=trivial
theorem tw5420257351867936088:True:=trivial
theorem tw60655928307480668:True:=trivial
theorem tw5652432945341546787:True:=trivial
theorem tw10137272797521434286:True:=trivial
theorem tw3421744399122762374:True:=trivial
theorem tw13685997970798786577:True:=trivial
theorem tw348026128858475875:True:=trivial
theorem tw10107387664166114013:True:=trivial
theorem tw6791979046618858481:True:=trivial
theorem tw2908360893928655807:True:=trivial
theorem tw14455872488184108621:True:=trivial
theorem tw16074355164446713424:True:=trivial
theorem tw13395897217825616334:True:=trivial
theorem tw11768761856640531252:True:=trivial
theorem tw10372846638364935950:True:=trivial
theorem tw17947145105858871098:True:=trivial
theorem tw6744420386292275670:True:=trivial
theorem tw16321069811035645382:True:=trivial
theorem tw8777614094273067154:True:=trivial
theorem tw6952508968597813327:True:=trivial
theorem tw9274613941353220273:True:=trivial
theorem tw7992302131964316238:True:=trivial
theorem tw18143987460107565693:True:=trivial
theorem tw1077967389539857582:True:=trivial
theorem tw17861654451760727492:True:=trivial
theorem tw286219756232404353:True:=trivial
theorem tw8497903560140691024:True:=trivial
theorem tw2533197473707349395:True:=trivial
theorem tw8509990752846668199:True:=trivial
theorem tw12137269916743746411:True:=trivial
theorem tw18383388983303853193:True:=trivial
theorem tw15546292961591501052:True:=trivial
theorem tw976022772363726263:True:=trivial
theorem tw10748638205301234636:True:=trivial
theorem tw1040125831058587598:True:=trivial
theorem tw17169113851328802067:True:=trivial
theorem tw17404024400168794514:True:=trivial
theorem tw15015365438466484043:True:=trivial
theorem tw12012644195594635869:True:=trivial
theorem tw8237352591426388548:True:=trivial
theorem tw1240874456300491993:True:=trivial
theorem tw9146173740325624870:True:=trivial
theorem tw6384321960442805693:True:=trivial
theorem tw18268398003988384000:True:=trivial
theorem tw14033004843108369075:True:=trivial
theorem tw13904678235449743770:True:=trivial
theorem tw1429235324768455540:True:=trivial
theorem tw15798861154625080150:True:=trivial
theorem tw4344356657454602473:True:=trivial
theorem tw4832611722489092821:True:=trivial
theorem tw11859271449041228390:True:=trivial
theorem tw9615416848267323134:True:=trivial
theorem tw5798755294557079752:True:=trivial
theorem tw3923175331521444602:True:=trivial
theorem tw15786703209713077990:True:=trivial
theorem tw1440862621881336312:True:=trivial
theorem tw5525665661154625547:True:=trivial
theorem tw2156402391923760702:True:=trivial
theorem tw11249444734993722985:True:=trivial
end PySem.W.Fast
open PySem PySem.W PyProof.Rows
set_option maxRecDepth 100000 in
set_option maxHeartbeats 0 in
theorem PySem.Challenge.cw_linkorcut_k25_whole_ranks_holds : PySem.Challenge.rw_linkorcut_k25_whole_ranks.Holds := by
 w_on;o_law;k_head;(case hw=>w_witness2)
 k_fill
 refine Hv.walk (l:=PySem.Challenge.rw_linkorcut_k25_whole_ranks) (k:=54) (x:="_law_script") rfl rfl ⟨rfl,by decide,by decide⟩ (λw h Y=>PySem.W.kIn_of Y) ?F
 case F =>
  intro w mg fa h KX G hmg;refine' K25.all_mk KX G hmg K25.true ?DA0 ?DG0 ?DH0 ?DO0 ?DS0 ?DM0 ?DK0 ?DN0_0 ?DN0_1 ?DN0_2 ?DN0_3 ?DA1 ?DG1 ?DH1 ?DO1 ?DS1 ?DM1 ?DK1 ?DN1_0 ?DN1_1 ?DN1_2 ?DN1_3 ?DA2 ?DG2 ?DH2 ?DO2 ?DS2 ?DM2 ?DK2 ?DN2_0 ?DN2_1 ?DN2_2 ?DN2_3 ?EA0 ?EG0 ?ER0 ?A0 ?L0 ?C0 ?Q0 ?A1 ?L1 ?C1 ?Q1 ?A2 ?L2 ?C2 ?Q2 ?A3 ?L3 ?C3 ?Q3 ?A4 ?L4 ?C4 ?Q4 ?A5 ?L5 ?C5 ?Q5 ?A6 ?I6 ?L6 ?C6 ?Q6 ?A7 ?I7 ?L7 ?C7 ?Q7 ?EF0_8 ?I8 ?L8 ?C8 ?Q8 ?A9 ?L9 ?C9 ?Q9 ?M0_10 ?M1_10 ?M2_10 ?I10 ?L10 ?C10 ?Q10 ?A11 ?L11 ?C11 ?Q11 ?M0_12 ?M1_12 ?M2_12 ?I12 ?L12 ?C12 ?Q12 ?A13 ?I13 ?L13 ?C13 ?Q13 ?A14 ?L14 ?C14 ?Q14 ?M0_15 ?I15 ?L15 ?C15 ?Q15 ?M1_16 ?I16 ?L16 ?C16 ?Q16 ?M2_17 ?I17 ?L17 ?C17 ?Q17 ?M0_18 ?M1_18 ?M2_18 ?I18 ?L18 ?C18 ?Q18 ?M0_19 ?M1_19 ?M2_19 ?I19 ?L19 ?C19 ?Q19 ?A20 ?L20 ?C20 ?Q20 ?A21 ?L21 ?C21 ?Q21 ?A22 ?L22 ?C22 ?Q22 ?A23 ?L23 ?C23 ?Q23 ?A24 ?L24 ?C24 ?Q24 ?A25 ?L25 ?C25 ?Q25 ?A26 ?L26 ?C26 ?Q26 ?Z0 ?Z1 ?Z2 ?Z3 ?Z4 ?Z5 ?Z6 ?Z7 ?Z8 ?Z9 ?Z10 ?Z11 ?Z12 ?Z13 ?Z14 ?Z15 ?Z16 ?V0
  (case DA0=>k_is)
  (case DG0=>k_is)
  (case DH0=>k_is)
  (case DO0=>k_is)
  (case DS0=>k_is)
  (case DM0=>k_is)
  (case DK0=>k_is)
  (case DN0_0=>k_is)
  (case DN0_1=>k_is)
  (case DN0_2=>k_is)
  (case DN0_3=>k_is)
  (case DA1=>k_is)
  (case DG1=>k_is)
  (case DH1=>k_is)
  (case DO1=>k_is)
  (case DS1=>k_is)
  (case DM1=>k_is)
  (case DK1=>k_is)
  (case DN1_0=>k_is)
  (case DN1_1=>k_is)
  (case DN1_2=>k_is)
  (case DN1_3=>k_is)
  (case DA2=>k_is)
  (case DG2=>k_is)
  (case DH2=>k_is)
  (case DO2=>k_is)
  (case DS2=>k_is)
  (case DM2=>k_is)
  (case DK2=>k_is)
  (case DN2_0=>k_is)
  (case DN2_1=>k_is)
  (case DN2_2=>k_is)
  (case DN2_3=>k_is)
  (case EA0=>k_is)
  (case EG0=>k_is)
  (case ER0=>k_is)
  (case A0=>k_is)
  (case L0=>k_is)
  (case C0=>k_is)
  (case Q0=>k_is)
  (case A1=>k_is)
  (case L1=>k_is)
  (case C1=>k_is)
  (case Q1=>k_is)
  (case A2=>k_is)
  (case L2=>k_is)
  (case C2=>k_is)
  (case Q2=>k_is)
  (case A3=>k_is)
  (case L3=>k_is)
  (case C3=>k_is)
  (case Q3=>k_is)
  (case A4=>k_is)
  (case L4=>k_is)
  (case C4=>k_is)
  (case Q4=>k_is)
  (case A5=>k_is)
  (case L5=>k_is)
  (case C5=>k_is)
  (case Q5=>k_is)
  (case A6=>k_is)
  (case I6=>k_is)
  (case L6=>k_is)
  (case C6=>k_is)
  (case Q6=>k_is)
  (case A7=>k_is)
  (case I7=>k_is)
  (case L7=>k_is)
  (case C7=>k_is)
  (case Q7=>k_is)
  (case EF0_8=>k_is)
  (case I8=>k_is)
  (case L8=>k_is)
  (case C8=>k_is)
  (case Q8=>k_is)
  (case A9=>k_is)
  (case L9=>k_is)
  (case C9=>k_is)
  (case Q9=>k_is)
  (case M0_10=>k_is)
  (case M1_10=>k_is)
  (case M2_10=>k_is)
  (case I10=>k_is)
  (case L10=>k_is)
  (case C10=>k_is)
  (case Q10=>k_is)
  (case A11=>k_is)
  (case L11=>k_is)
  (case C11=>k_is)
  (case Q11=>k_is)
  (case M0_12=>k_is)
  (case M1_12=>k_is)
  (case M2_12=>k_is)
  (case I12=>k_is)
  (case L12=>k_is)
  (case C12=>k_is)
  (case Q12=>k_is)
  (case A13=>k_is)
  (case I13=>k_is)
  (case L13=>k_is)
  (case C13=>k_is)
  (case Q13=>k_is)
  (case A14=>k_is)
  (case L14=>k_is)
  (case C14=>k_is)
  (case Q14=>k_is)
  (case M0_15=>k_is)
  (case I15=>k_is)
  (case L15=>k_is)
  (case C15=>k_is)
  (case Q15=>k_is)
  (case M1_16=>k_is)
  (case I16=>k_is)
  (case L16=>k_is)
  (case C16=>k_is)
  (case Q16=>k_is)
  (case M2_17=>k_is)
  (case I17=>k_is)
  (case L17=>k_is)
  (case C17=>k_is)
  (case Q17=>k_is)
  (case M0_18=>k_is)
  (case M1_18=>k_is)
  (case M2_18=>k_is)
  (case I18=>k_is)
  (case L18=>k_is)
  (case C18=>k_is)
  (case Q18=>k_is)
  (case M0_19=>k_is)
  (case M1_19=>k_is)
  (case M2_19=>k_is)
  (case I19=>k_is)
  (case L19=>k_is)
  (case C19=>k_is)
  (case Q19=>k_is)
  (case A20=>k_is)
  (case L20=>k_is)
  (case C20=>k_is)
  (case Q20=>k_is)
  (case A21=>k_is)
  (case L21=>k_is)
  (case C21=>k_is)
  (case Q21=>k_is)
  (case A22=>k_is)
  (case L22=>k_is)
  (case C22=>k_is)
  (case Q22=>k_is)
  (case A23=>k_is)
  (case L23=>k_is)
  (case C23=>k_is)
  (case Q23=>k_is)
  (case A24=>k_is)
  (case L24=>k_is)
  (case C24=>k_is)
  (case Q24=>k_is)
  (case A25=>k_is)
  (case L25=>k_is)
  (case C25=>k_is)
  (case Q25=>k_is)
  (case A26=>k_is)
  (case L26=>k_is)
  (case C26=>k_is)
  (case Q26=>k_is)
  (case Z0=>k_is)
  (case Z1=>k_is)
  (case Z2=>k_is)
  (case Z3=>k_is)
  (case Z4=>k_is)
  (case Z5=>k_is)
  (case Z6=>k_is)
  (case Z7=>k_is)
  (case Z8=>k_is)
  (case Z9=>k_is)
  (case Z10=>k_is)
  (case Z11=>k_is)
  (case Z12=>k_is)
  (case Z13=>k_is)
  (case Z14=>k_is)
  (case Z15=>k_is)
  (case Z16=>k_is)
  (case V0=>k_is)
#print axioms PySem.Challenge.cw_linkorcut_k25_whole_ranks_holds
end
