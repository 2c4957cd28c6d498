import PyProof.Rows.All
import Wide.All
import OpenK.AllK
import Wide.FinOn
import Lean
import PyProof.EqAt
import PyProof.EqKinds
import PyProof.TupleCall
import KE.KDictList
import KE.KDictLaws
import KE.KDictSum
import KE.KRevSl
import PyProof.DictWalks
import PySem.Challenge.RW_linkorcut_k22_rank_by_trees
set_option Elab.async false
set_option linter.all false
set_option maxRecDepth 100000
set_option maxHeartbeats 4000000
set_option genSizeOf false
set_option backward.eqns.nonrecursive false
set_option backward.eqns.deepRecursiveSplit false
set_option bootstrap.genMatcherCode false
section
namespace L2
open PySem PySem.Spec PyProof.Rows
noncomputable abbrev Key:=Sum Int Str
noncomputable def keyIs:Key->Value->Bool
 | .inl k,v=>Value.isInt k v
 | .inr x,v=>Value.isStrOf x v
noncomputable def keyH(w:World):Key->Int
 | .inl k=>hashInt k
 | .inr x=>hashStr w x
theorem keyIs_shape:∀{k:Key} {v:Value},keyIs k v=true->(∃i t,k=Sum.inl i/\v=Value.int i t)\/(∃x t,k=Sum.inr x/\v=Value.str x t)
 | .inl i,v,h=>by
  obtain⟨t,e⟩:=Value.isInt_shape (k:=i) (v:=v) h
  exact .inl ⟨i,t,rfl,e⟩
 | .inr x,v,h=>by
  obtain⟨t,e⟩:=Value.isStrOf_shape (x:=x) (v:=v) h
  exact .inr ⟨x,t,rfl,e⟩
theorem keyIs_int(i:Int)(t:Tok):keyIs (.inl i) (.int i t)=true:=by simp[keyIs,Value.isInt]
theorem keyIs_str(x:Str)(t:Tok):keyIs (.inr x) (.str x t)=true:=by simp[keyIs,Value.isStrOf]
theorem key_ll(a b:Int):decide ((Sum.inl a:Key)=Sum.inl b)=(a==b):=by
 by_cases e:a=b
 ·subst e;simp
 ·have h:¬ (Sum.inl a:Key)=Sum.inl b:=fun q=>e (Sum.inl.inj q)
  rw[decide_eq_false h]
  exact(beq_eq_false_iff_ne.mpr e).symm
theorem key_rr(a b:Str):decide ((Sum.inr a:Key)=Sum.inr b)=decide (a=b):=by
 by_cases e:a=b
 ·subst e;simp
 ·have h:¬ (Sum.inr a:Key)=Sum.inr b:=fun q=>e (Sum.inr.inj q)
  rw[decide_eq_false h,decide_eq_false e]
theorem key_lr(a:Int)(b:Str):decide ((Sum.inl a:Key)=Sum.inr b)=false:=decide_eq_false (fun q=>nomatch q)
theorem key_rl(a:Str)(b:Int):decide ((Sum.inr a:Key)=Sum.inl b)=false:=decide_eq_false (fun q=>nomatch q)
noncomputable def mixKind(prog:Program)(w:World):PySem.KeyKind prog w Key where
 is:=keyIs
 hash:=keyH w
 inj:=fun v a b ha hb=>by
  rcases keyIs_shape ha with ⟨i,t,rfl,rfl⟩|⟨x,t,rfl,rfl⟩
  ·rcases keyIs_shape hb with ⟨j,u,rfl,e⟩|⟨y,u,rfl,e⟩
   ·injection e with e1 _;rw[e1]
   ·exact nomatch e
  ·rcases keyIs_shape hb with ⟨j,u,rfl,e⟩|⟨y,u,rfl,e⟩
   ·exact nomatch e
   ·injection e with e1 _;rw[e1]
 byValue:=fun k v h=>by
  rcases keyIs_shape h with ⟨i,t,rfl,rfl⟩|⟨x,t,rfl,rfl⟩<;>rfl
 pyHash:=fun hv h=>by
  rcases keyIs_shape hv with ⟨i,t,rfl,rfl⟩|⟨x,t,rfl,rfl⟩
  ·exact wpAny_pyHash_int h
  ·exact wpAny_pyHash_str h
 eqBool:=fun hu hv h=>by
  rcases keyIs_shape hu with ⟨i,t,rfl,rfl⟩|⟨x,t,rfl,rfl⟩
  ·rcases keyIs_shape hv with ⟨j,u,rfl,rfl⟩|⟨y,u,rfl,rfl⟩
   ·rw[key_ll] at h;exact wpAny_eqBool_int h
   ·rw[key_lr] at h;exact SeqAt.EqAt.int_str i t y u _ _ _ _ h
  ·rcases keyIs_shape hv with ⟨j,u,rfl,rfl⟩|⟨y,u,rfl,rfl⟩
   ·rw[key_rl] at h;exact SeqAt.EqAt.str_int x t j u _ _ _ _ h
   ·rw[key_rr] at h;exact wpAny_eqBool_str h
 «strs»:=fun k x t v h=>by
  rcases keyIs_shape h with ⟨i,u,rfl,e⟩|⟨y,u,rfl,e⟩
  ·exact nomatch e
  ·injection e with e1 _
   subst e1
   cases v<;>rfl
theorem mixKind_is(prog:Program)(w:World)(k:Key)(v:Value):(mixKind prog w).is k v=keyIs k v:=rfl
theorem mixKind_int(prog:Program)(w:World)(i:Int)(t:Tok):(mixKind prog w).is (.inl i) (.int i t)=true:=keyIs_int i t
theorem mixKind_str(prog:Program)(w:World)(x:Str)(t:Tok):(mixKind prog w).is (.inr x) (.str x t)=true:=keyIs_str x t
end L2
namespace L2
open PySem PySem.Spec PyProof.Rows
inductive V where
 | non|bl (b:Bool)|int (i:Int)|str (x:Str)|byt (b:Array UInt8)|flt (b:UInt64)|ref (a:Addr)|ty (n:String)
 deriving DecidableEq
noncomputable def RelV:V->Value->Prop
 | .non,u=>u=Value.none
 | .bl b,u=>u=Value.bool b
 | .int i,u=>∃t,u=Value.int i t
 | .str x,u=>∃t,u=Value.str x t
 | .byt b,u=>∃t,u=Value.bytes b t
 | .flt b,u=>∃t,u=Value.float b t
 | .ref a,u=>u=Value.ref a
 | .ty n,u=>u=Value.type n
noncomputable abbrev Vals:List V->List Value->Prop:=Paired RelV
theorem Vals.length{xs:List V}{us:List Value}(r:Vals xs us):xs.length=us.length:=Paired.length r
theorem Vals.get:∀{xs:List V} {us:List Value} {i:Nat} {x:V},Vals xs us->xs[i]?=some x->∃u,us[i]?=some u/\RelV x u
 | _,_,_,_,.nil,e=>by simp at e
 | _,_,0,_,.cons r _,e=>by simp at e;subst e;exact⟨_,rfl,r⟩
 | _,_,i+1,x,.cons _ t,e=>by
  obtain⟨u,h1,h2⟩:=Vals.get (i:=i) (x:=x) t (by simpa using e)
  exact⟨u,by simpa using h1,h2⟩
theorem Vals.set{x:V}{u:Value}(r:RelV x u):∀{xs:List V} {us:List Value} (i:Nat),Vals xs us->Vals (xs.set i x) (us.set i u)
 | _,_,_,.nil=>.nil
 | _,_,0,.cons _ t=>.cons r t
 | _,_,i+1,.cons q t=>.cons q (Vals.set r i t)
theorem Vals.append:∀{xs ys:List V} {us ws:List Value},Vals xs us->Vals ys ws->Vals (xs++ys) (us++ws)
 | _,_,_,_,.nil,s=>s
 | _,_,_,_,.cons r t,s=>.cons r (Vals.append t s)
theorem Vals.take:∀{xs:List V} {us:List Value} (n:Nat),Vals xs us->Vals (xs.take n) (us.take n)
 | _,_,0,_=>.nil
 | _,_,_+1,.nil=>.nil
 | _,_,n+1,.cons r t=>.cons r (Vals.take n t)
theorem Vals.drop:∀{xs:List V} {us:List Value} (n:Nat),Vals xs us->Vals (xs.drop n) (us.drop n)
 | _,_,0,r=>r
 | _,_,_+1,.nil=>.nil
 | _,_,n+1,.cons _ t=>Vals.drop n t
noncomputable def RelO:Option V->Option Value->Prop
 | some v,some u=>RelV v u
 | none,none=>True
 | _,_=>False
noncomputable def KV{κ:Type}:List (κ × V)->List (κ × Value)->Prop:=Paired fun(p:κ × V) (q:κ × Value)=>p.1=q.1/\RelV p.2 q.2
noncomputable def kV:Key->V
 | .inl i=>.int i
 | .inr x=>.str x
inductive HO where
  | lst (xs:List V)
  | tup (xs:List V)
  | dK (kvs:List (Key×V))|dT (kvs:List (List Key×V))
  | set (S:Int->Bool) (n:Nat)
  | ins (C dx:Addr) (fs:List (Str×V))
  | own (x:Addr)
  | xd (fs:List (Str×V))
  | met (f x:Addr)
  | rng (lo hi:Int)
  | frz (o:Obj) (u:HO)
  | tbl (ps:Array Value)
  | ext (φ:Heap->Prop)
noncomputable abbrev Hp:=Addr->Option HO
noncomputable def upd(H:Hp)(a:Addr)(o:HO):Hp:=fun b=>if b=a then some o else H b
theorem upd_same{H:Hp}{a:Addr}{o:HO}:upd H a o a=some o:=by unfold upd;rw[if_pos rfl]
theorem upd_ne{H:Hp}{a b:Addr}{o:HO}(h:b≠a):upd H a o b=H b:=by unfold upd;rw[if_neg h]
theorem ne_of{H:Hp}{a b:Addr}{o u:HO}(h:H a=some o)(h':H b=some u)(d:o≠u):a≠b:=by
 intro e;subst e;rw[h] at h';exact d (Option.some.inj h')
theorem ne_of_none{H:Hp}{a b:Addr}{o:HO}(h:H a=some o)(h':H b=none):a≠b:=by
 intro e;subst e;rw[h] at h';cases h'
section
variable (P:Program) (w:World)
noncomputable def ObjOk(H:Hp)(h:Heap)(a:Addr):HO->Prop
 | .lst xs=>xs.length<=sizeLine/\∃(its:List Value) (n:Nat),Vals xs its/\h.get? a=some { cls:=.type "list",data:=.seq its.toArray n }
 | .tup xs=>xs.length<=sizeLine/\∃its:List Value,Vals xs its/\IsTup h a its.toArray
 | .dK kvs=>kvs.length<=sizeLine/\(a==sysModules)=false/\∃vs,KV kvs vs/\h.DictOf (mixKind P w) a vs
 | .dT kvs=>kvs.length<=sizeLine/\(a==sysModules)=false/\∃xs:List (List Key×Addr×Value),
   Paired (fun(p:List Key×V) (q:List Key×Addr×Value)=>p.1=q.1/\H q.2.1=some (.tup (p.1.map kV))/\RelV p.2 q.2.2) kvs xs /\
   ∃o es ep,h.get? a=some o/\o.ExactDict/\o.data=.dict es ep/\es.toList=xs.map (entryOfKey (tupleKind (mixKind P w)))/\(xs.map (·.1)).Nodup
 | .set S n=>h.SetOf (intKind P w) a S n
 | .ins C dx fs=>H dx=some (.own a)/\fs.length<=1000/\dx≠a/\h.get? a=some (PySem.W.instObj C dx) /\
   ∃mA,h.Ns1 dx mA/\(∀f,RelO (fs.lookup f) (mA f))/\PySem.Within mA (fs.map (·.1))
 | .own _=>∃o,h.get? a=some o
 | .xd fs=>∃mA,h.Ns1 a mA/\∀f,RelO (fs.lookup f) (mA f)
 | .rng lo hi=>∃t u v,h.get? a=some { cls:=.type "range",data:=.fields #[.int lo t,.int hi u,.int 1 v] }
 | .frz o u=>h.get? a=some o/\ObjOk H h a u
 | .tbl ps=>h.get? a=some { cls:=.none,data:=.fields ps }
 | .met f x=>h.get? a=some (PySem.W.methodObj (.ref f) (.ref x))
 | .ext φ=>φ h/\(∃o,h.get? a=some o)/\∀h1 h2:Heap,φ h1->(∀o,h1.get? a=some o->h2.get? a=some o) -> φ h2
noncomputable def HOk(H:Hp)(h:Heap):Prop:=∀a o,H a=some o->ObjOk P w H h a o
end
section
variable {P:Program} {w:World} {H H':Hp} {h h':Heap} {a:Addr} {o:HO}
theorem ObjOk.lt(x:ObjOk P w H h a o):a<h.objs.size:=by
 cases o with
 | lst xs=>obtain⟨_,_,_,_,e⟩:=x;exact Heap.lt_size e
 | tup xs=>obtain⟨_,_,_,p⟩:=x;exact p.lt
 | dK kvs=>obtain⟨_,_,_,_,o,_,_,e,_⟩:=x;exact Heap.lt_size e
 | dT kvs=>obtain⟨_,_,_,_,o,_,_,e,_⟩:=x;exact Heap.lt_size e
 | set S n=>obtain⟨o,_,_,_,e,_⟩:=x;exact Heap.lt_size e
 | ins C dx fs=>obtain⟨_,_,_,e,_⟩:=x;exact Heap.lt_size e
 | own y=>obtain⟨_,e⟩:=x;exact Heap.lt_size e
 | xd fs=>obtain⟨_,⟨_,_,_,e,_⟩,_⟩:=x;exact Heap.lt_size e
 | rng lo hi=>obtain⟨_,_,_,e⟩:=x;exact Heap.lt_size e
 | frz ob u=>obtain⟨e,_⟩:=x;exact Heap.lt_size e
 | tbl ps=>exact Heap.lt_size (show h.get? a=some _ from x)
 | met f y=>exact Heap.lt_size (show h.get? a=some _ from x)
 | ext φ=>obtain⟨_,⟨_,e⟩,_⟩:=x;exact Heap.lt_size e
theorem Paired.mapP{α β:Type}{F G:α -> β -> Prop}:∀{l₁:List α} {l₂:List β},Paired F l₁ l₂->(∀a b,F a b->G a b)->Paired G l₁ l₂
 | _,_,.nil,_=>.nil
 | _,_,.cons r t,f=>.cons (f _ _ r) (Paired.mapP t f)
theorem ObjOk.stay(x:ObjOk P w H h a o)(k:∀b u,(b=a\/H b=some (.own a))->h.get? b=some u->h'.get? b=some u)
  (ho:∀b,H b=some (.own a)->H' b=some (.own a)) (ht:∀b xs,H b=some (.tup xs)->H' b=some (.tup xs)):ObjOk P w H' h' a o:=by
 induction o with
 | lst xs=>obtain⟨z,its,n,r,e⟩:=x;exact⟨z,its,n,r,k _ _ (.inl rfl) e⟩
 | tup xs=>obtain⟨z,its,r,ob,e,c⟩:=x;exact⟨z,its,r,ob,k _ _ (.inl rfl) e,c⟩
 | dK kvs=>obtain⟨z,y,vs,r,ob,es,ep,e,c⟩:=x;exact⟨z,y,vs,r,ob,es,ep,k _ _ (.inl rfl) e,c⟩
 | dT kvs =>
  obtain⟨z,y,xs,r,ob,es,ep,e,c⟩:=x
  exact⟨z,y,xs,Paired.mapP r fun p q z=>⟨z.1,ht _ _ z.2.1,z.2.2⟩,ob,es,ep,k _ _ (.inl rfl) e,c⟩
 | set S n=>obtain⟨ob,es,ep,t,e,c⟩:=x;exact⟨ob,es,ep,t,k _ _ (.inl rfl) e,c⟩
 | ins C dx fs =>
  obtain⟨d,z,ne,e,mA,⟨od,es,ep,e2,c⟩,r⟩:=x
  exact⟨ho _ d,z,ne,k _ _ (.inl rfl) e,mA,⟨od,es,ep,k _ _ (.inr d) e2,c⟩,r⟩
 | own y=>obtain⟨ob,e⟩:=x;exact⟨ob,k _ _ (.inl rfl) e⟩
 | xd fs=>obtain⟨mA,⟨od,es,ep,e,c⟩,r⟩:=x;exact⟨mA,⟨od,es,ep,k _ _ (.inl rfl) e,c⟩,r⟩
 | rng lo hi=>obtain⟨t,u,v,e⟩:=x;exact⟨t,u,v,k _ _ (.inl rfl) e⟩
 | frz ob u ih=>obtain⟨e,q⟩:=x;exact⟨k _ _ (.inl rfl) e,ih q⟩
 | tbl ps =>
  have e:h.get? a=some { cls:=.none,data:=.fields ps }:=x
  show h'.get? a=some { cls:=.none,data:=.fields ps }
  exact k a _ (.inl rfl) e
 | met f y =>
  have e:h.get? a=some (PySem.W.methodObj (.ref f) (.ref y)):=x
  show h'.get? a=some (PySem.W.methodObj (.ref f) (.ref y))
  exact k a _ (.inl rfl) e
 | ext φ=>obtain⟨p,⟨o,e⟩,st⟩:=x;exact⟨st _ _ p fun o q=>k _ _ (.inl rfl) q,⟨o,k _ _ (.inl rfl) e⟩,st⟩
theorem HOk.lt(x:HOk P w H h)(e:H a=some o):a<h.objs.size:=(x a o e).lt
theorem HOk.fresh(x:HOk P w H h)(e:h.objs.size<=a):H a=none:=by
 cases q:H a with
 | none=>rfl
 | some u=>exact absurd (Nat.lt_of_lt_of_le (x.lt q) e) (Nat.lt_irrefl _)
theorem HOk.kept(x:HOk P w H h)(k:∀b u,h.get? b=some u->h'.get? b=some u):HOk P w H h':=fun a o e =>
 (x a o e).stay (fun b u _ q=>k b u q) (fun _ q=>q) fun _ _ q=>q
theorem HOk.laid(x:HOk P w H h)(k:∀b u,h.get? b=some u->h'.get? b=some u)(hp:h.objs.size<=a)(new:ObjOk P w (upd H a o) h' a o):HOk P w (upd H a o) h':=fun b u e=>by
 have hn:=x.fresh hp
 by_cases hb:b=a
 ·subst hb;rw[upd_same] at e;cases e;exact new
 ·rw[upd_ne hb] at e
  exact(x b u e).stay (fun c v _ q=>k c v q) (fun c q=>by rw[upd_ne (ne_of_none q hn)];exact q) fun c xs q=>by rw[upd_ne (ne_of_none q hn)];exact q
end
noncomputable def Rd(H:Hp)(a:Addr)(u:HO):Prop:=H a=some u\/∃o,H a=some (.frz o u)
theorem Rd.ok{P:Program}{w:World}{H:Hp}{h:Heap}{a:Addr}{u:HO}(r:Rd H a u)(x:HOk P w H h):ObjOk P w H h a u:=by
 rcases r with r|⟨o,r⟩
 ·exact x a u r
 ·obtain⟨_,q⟩:=x a _ r
  exact q
noncomputable def Mut:Option HO->Prop
 | some (.lst _)=>True
 | some (.dK _)=>True
 | some (.dT _)=>True
 | some (.set _ _)=>True
 | some (.ins _ _ _)=>True
 | some (.ext _)=>True
 | _=>False
section
variable {P:Program} {w:World} {H:Hp} {h h':Heap} {x e:Addr} {o':HO}
theorem HOk.write(ok:HOk P w H h)(mu:Mut (H x))(he:e=x\/H e=some (.own x))(k:∀b u,b≠e->h.get? b=some u->h'.get? b=some u)(heo:∃u,h'.get? e=some u)
  (new:ObjOk P w (upd H x o') h' x o'):HOk P w (upd H x o') h':=fun b u q=>by
 have nown:∀c y,H c=some (.own y)->c≠x:=fun c y r z=>by subst z;rw[r] at mu;exact mu
 have ntup:∀c xs,H c=some (.tup xs)->c≠x:=fun c xs r z=>by subst z;rw[r] at mu;exact mu
 by_cases hb:b=x
 ·subst hb;rw[upd_same] at q;cases q;exact new
 ·rw[upd_ne hb] at q
  by_cases hbe:b=e
  ·have q':H b=some (.own x):=by
    rcases he with z|z
    ·exact absurd (hbe.trans z) hb
    ·rw[hbe];exact z
   rw[q] at q';cases q'
   obtain⟨v,hv⟩:=heo
   exact⟨v,by rw[hbe];exact hv⟩
  ·refine(ok b u q).stay (fun c v hc r=>k c v ?_ r) (fun c r=>by rw[upd_ne (nown c b r)];exact r) fun c xs r=>by rw[upd_ne (ntup c xs r)];exact r
   rcases hc with rfl|hc
   ·exact hbe
   ·rintro rfl
    rcases he with z|z
    ·exact nown c b hc z
    ·rw[hc] at z;cases z;exact hb rfl
end
structure Un (fs ex:List Addr) (H H':Hp) (h h':Heap):Prop where
 keep:∀b o,h.get? b=some o->H b=none->b∉fs->b∉ex->h'.get? b=some o
 slot:∀b o,h.get? b=some o->H b=none->b∈fs->b∉ex->∃sl,h'.get? b=some { o with slots:=sl }
 free:∀b o,h.get? b=some o->H b=none->b∉ex->H' b=none
 there:∀b o,h.get? b=some o->b∉ex->∃o',h'.get? b=some o'
 tups:∀b xs,H b=some (.tup xs)->H' b=some (.tup xs)
 frzs:∀b o u,H b=some (.frz o u)->H' b=some (.frz o u)
 tbls:∀b ps,H b=some (.tbl ps)->∃more,H' b=some (.tbl (ps++more))
section
variable {fs fs' ex ex':List Addr} {H H1 H2:Hp} {h h1 h2 h':Heap} {a x e:Addr} {o:HO}
theorem Un.any(u:Un fs ex H H1 h h1){b:Addr}{ob:Obj}(q:h.get? b=some ob)(n:H b=none)(hx:b∉ex):∃sl,h1.get? b=some { ob with slots:=sl }:=by
 by_cases hb:b∈fs
 ·exact u.slot b ob q n hb hx
 ·exact⟨ob.slots,u.keep b ob q n hb hx⟩
theorem Un.kept(k:∀b u,h.get? b=some u->h'.get? b=some u):Un fs ex H H h h' :=
 ⟨fun b ob q _ _ _=>k b ob q,fun b ob q _ _ _=>⟨ob.slots,k b ob q⟩,fun _ _ _ n _=>n,fun b ob q _=>⟨ob,k b ob q⟩,fun _ _ q=>q,fun _ _ _ q=>q,fun _ ps q=>⟨#[],by rw[q];simp⟩⟩
theorem Un.refl:Un fs ex H H h h:=Un.kept fun _ _ q=>q
theorem Un.laid(k:∀b u,h.get? b=some u->h'.get? b=some u)(hp:h.objs.size<=a)(hn:H a=none):Un fs ex H (upd H a o) h h' where
 keep:=fun b u q _ _ _=>k b u q
 slot:=fun b u q _ _ _=>⟨u.slots,k b u q⟩
 free:=fun b u q n _=>by rw[upd_ne (Nat.ne_of_lt (Nat.lt_of_lt_of_le (Heap.lt_size q) hp))];exact n
 there:=fun b u q _=>⟨u,k b u q⟩
 tups:=fun b xs q=>by rw[upd_ne (ne_of_none q hn)];exact q
 frzs:=fun b u xs q=>by rw[upd_ne (ne_of_none q hn)];exact q
 tbls:=fun b ps q=>⟨#[],by rw[upd_ne (ne_of_none q hn),q];simp⟩
theorem Un.write(mu:Mut (H x))(he:e=x\/H e=some (.own x))(k:∀b u,b≠e->h.get? b=some u->h'.get? b=some u)(heo:∃u,h'.get? e=some u):Un fs ex H (upd H x o) h h':=by
 have hx:∀b,H b=none->b≠x:=fun b n z=>by subst z;rw[n] at mu;exact mu
 have hb:∀b,H b=none->b≠e:=fun b n z=>by
  subst z
  rcases he with r|r
  ·exact hx b n r
  ·rw[n] at r;cases r
 have hm:∀b u,H b=some u->¬ Mut (some u)->b≠x:=fun b u q nm z=>by subst z;rw[q] at mu;exact nm mu
 refine⟨fun b u q n _ _=>k b u (hb b n) q,fun b u q n _ _=>⟨u.slots,k b u (hb b n) q⟩,fun b u q n _=>by rw[upd_ne (hx b n)];exact n,fun b u q _=>?_,
  fun b xs q=>by rw[upd_ne (hm b _ q fun z=>z)];exact q,fun b u xs q=>by rw[upd_ne (hm b _ q fun z=>z)];exact q,fun b ps q=>⟨#[],by rw[upd_ne (hm b _ q fun z=>z),q];simp⟩⟩
 by_cases hbe:b=e
 ·subst hbe;exact heo
 ·exact⟨u,k b u hbe q⟩
end
noncomputable def trk(h:Heap)(H:Hp):List Addr:=(List.range h.objs.size).filter fun a=>(H a).isSome
noncomputable def hidT(h:Heap)(H:Hp):Heap:=PySem.W.hideAll h (trk h H)
theorem hidT_size(h:Heap)(H:Hp):(hidT h H).objs.size=h.objs.size:=PySem.W.hideAll_size _ _
theorem hidT_get{h:Heap}{H:Hp}{b:Addr}{o:Obj}(e:h.get? b=some o)(n:H b=none):(hidT h H).get? b=some o :=
 PySem.W.hideAll_get _ e fun hm=>by
  have q:(H b).isSome=true:=(List.mem_filter.mp hm).2
  rw[n] at q;simp at q
theorem of_hidT{h:Heap}{H:Hp}{b:Addr}{o:Obj}(e:(hidT h H).get? b=some o):h.get? b=some o/\H b=none:=by
 have e':h.get? b=some o:=PySem.W.of_hideAll (trk h H) e
 refine⟨e',?_⟩
 cases q:H b with
 | none=>rfl
 | some x =>
  have hm:b∈trk h H:=List.mem_filter.mpr ⟨List.mem_range.mpr (Heap.lt_size e'),by simp[q]⟩
  have z:(hidT h H).get? b=none:=PySem.W.hideAll_none (trk h H) hm
  rw[z] at e;cases e
noncomputable def allNews(g h:Heap)(L:Addr):List (Addr×Obj):=(List.range h.objs.size).filterMap fun a=>if a=L\/(g.get? a).isSome=true then none else (h.get? a).map fun o=>(a,o)
noncomputable def rest(g h:Heap)(L d:Addr):List (Addr×Obj):=(allNews g h L).filter fun p=>decide (p.1≠d)
end L2
namespace L2
open PySem PySem.Spec PyProof.Rows
structure Mod (K:PySem.W.Frag) (mg:Str->Option Value) (base:Heap):Prop where
 kin:K.In base
 glob:base.Ns mainGlobals mg
 blt:∃mb,base.Ns builtinsNs mb/\∀x:Str,x ≠ "__name__" -> mb x=bootBuiltins x
 nolimit:base.NoLimit
structure Cx where
 prog:Program
 w:World
 K:PySem.W.Frag
 mg:Str->Option Value
 base:Heap
 A:Around
 N:List Str
 s₀:Shared
 H₀:Hp
 env:Env
 outer:List Env
 stack:List Env
 ex:List Addr
 fn:Str->Bool
 calm:Bool
 pn:List (Addr×Obj)
 xe:Value->Shared->Prop
noncomputable def frs(l:List Env):List Addr:=l.filterMap (·.frame)
noncomputable abbrev Cx.fs(X:Cx):List Addr:=frs X.outer
noncomputable def Vis(sc:Scope)(x:Str):Prop:=sc.names.lookup x=some .local\/sc.names.lookup x=some .cell\/sc.names.lookup x=some .free
noncomputable def Loc(sc:Scope)(x:Str):Prop:=sc.names.lookup x=some .local\/sc.names.lookup x=some .cell
noncomputable def Look(env:Env)(h:Heap)(m:Str->Option Value)(x:Str)(u:Value):Prop :=
 (env.kindOf x=some .local/\m x=some u)\/((env.kindOf x=some .cell\/env.kindOf x=some .free)/\∃c,env.cells.lookup x=some c/\h.IsCell c (some u))
structure Cx.Ok (X:Cx):Prop where
 mod:Mod X.K X.mg X.base
 kind:X.env.scope.kind=.function
 glob:X.env.globals=mainGlobals
 blt:X.env.builtins=builtinsNs
 above:X.s₀.heap.objs.size<=X.env.locals
 inj:∀x y c,X.env.cells.lookup x=some c->X.env.cells.lookup y=some c->x=y
 has:∀x,(X.env.kindOf x=some .cell\/X.env.kindOf x=some .free)->∃c,X.env.cells.lookup x=some c
 cab:∀x c,X.fn x=true->X.env.cells.lookup x=some c->X.s₀.heap.objs.size<=c
 hd:X.calm=true->X.A.handled=none
 frames:X.A.frames=some X.stack
 stk:X.stack=X.outer\/(X.stack=X.env::X.outer/\X.env.frame=some X.env.locals)
 exf:∀b∈X.ex,b≠X.env.locals/\∀x c,X.env.cells.lookup x=some c->c≠b
 bs:∀b o,X.base.get? b=some o->X.s₀.heap.get? b=some o/\X.H₀ b=none
 bsz:X.base.objs.size<=X.s₀.heap.objs.size
 noex:∀b o,X.base.get? b=some o->b∉X.ex
 exfs:∀b∈X.ex,b∉X.fs
 funs:X.s₀.heap.FunFrames X.base X.outer
 frf:∀b∈X.fs,X.H₀ b=none
structure Inv (X:Cx) (pins:List (Addr×Obj)) (σ:List (Option V)) (H:Hp) (s:Shared):Prop where
 ok:X.Ok
 os:s.os=X.s₀.os
 bare:AllBare s.gens
 base:Un X.fs X.ex X.H₀ H X.s₀.heap s.heap
 loc:∃m,s.heap.Ns X.env.locals m/\∀(i:Nat) (x:Str) (v:V),X.N[i]?=some x -> σ[i]?=some (some v)->Vis X.env.scope x->∃u,RelV v u/\Look X.env s.heap m x u
 cell:∀x c,X.env.cells.lookup x=some c->∃v,s.heap.IsCell c v
 free:H X.env.locals=none
 freeC:∀x c,X.env.cells.lookup x=some c->H c=none
 pin:∀p∈X.pn++pins,s.heap.get? p.1=some p.2/\H p.1=none/\p.1≠X.env.locals/\p.1∉X.fs/\∀v,p.2.data≠.cell v
 hok:HOk X.prog X.w H s.heap
 len:σ.length=X.N.length
section
variable {X:Cx} {pins:List (Addr×Obj)} {σ:List (Option V)} {H H':Hp} {s:Shared} {h':Heap}
theorem Cx.Ok.nofr(ok:X.Ok){b:Addr}{o:Obj}(e:X.base.get? b=some o):b∉X.fs:=fun hb=>by
 have:=(ok.funs.mem hb).1
 rw[e] at this;cases this
theorem Inv.bs(I:Inv X pins σ H s):∀b o,X.base.get? b=some o->s.heap.get? b=some o/\H b=none:=fun b o e =>
 ⟨I.base.keep b o (I.ok.bs b o e).1 (I.ok.bs b o e).2 (I.ok.nofr e) (I.ok.noex b o e),I.base.free b o (I.ok.bs b o e).1 (I.ok.bs b o e).2 (I.ok.noex b o e)⟩
theorem Inv.bk(I:Inv X pins σ H s):∀b o,X.base.get? b=some o->s.heap.get? b=some o:=fun b o e=>(I.bs b o e).1
theorem Inv.mod(I:Inv X pins σ H s):Mod X.K X.mg X.base:=I.ok.mod
theorem Inv.kIn(I:Inv X pins σ H s):X.K.In s.heap:=I.ok.mod.kin.keeps I.bk
theorem Inv.lt(I:Inv X pins σ H s):X.env.locals<s.heap.objs.size:=let ⟨_,hn,_⟩:=I.loc;hn.lt
theorem Inv.sz(I:Inv X pins σ H s):X.s₀.heap.objs.size<=s.heap.objs.size:=Nat.le_trans I.ok.above (Nat.le_of_lt I.lt)
theorem Inv.nofs(I:Inv X pins σ H s){a:Addr}(h:s.heap.objs.size<=a):a∉X.fs:=fun hb=>by
 obtain⟨_,o,ho,_⟩:=I.ok.funs.mem hb
 exact absurd (Nat.lt_of_lt_of_le (Heap.lt_size ho) (Nat.le_trans I.sz h)) (Nat.lt_irrefl _)
theorem Inv.cne(I:Inv X pins σ H s):∀x c,X.env.cells.lookup x=some c->c≠X.env.locals:=fun x c e z=>by
 obtain⟨v,o,ho,hd⟩:=I.cell x c e
 obtain⟨m,⟨o',es,ep,ho',hd',_⟩,_⟩:=I.loc
 rw[z,ho'] at ho;cases ho;rw[hd'] at hd;cases hd
theorem Inv.funs(I:Inv X pins σ H s):s.heap.FunFrames X.base X.outer:=by
 have all:∀(l:List Env),(∀b∈frs l,b∈X.fs)->X.s₀.heap.FunFrames X.base l->s.heap.FunFrames X.base l:=by
  intro l
  induction l with
  | nil=>intro _ _;trivial
  | cons env r ih =>
   intro hs hl
   obtain⟨hk,⟨L,o,hf,hn,ho,hd⟩,hr⟩:=hl
   have hL:L∈X.fs:=hs L (by unfold frs;rw[List.filterMap_cons,hf];exact List.mem_cons_self)
   obtain⟨sl,e⟩:=I.base.slot L o ho (I.ok.frf L hL) hL fun z=>I.ok.exfs L z hL
   exact⟨hk,⟨L,_,hf,hn,e,hd⟩,ih (fun b hb=>hs b (by unfold frs;rw[List.filterMap_cons,hf];exact List.mem_cons_of_mem _ hb)) hr⟩
 exact all X.outer (fun _ hb=>hb) I.ok.funs
theorem Inv.stack(I:Inv X pins σ H s):s.heap.FunFrames X.base X.stack:=by
 rcases I.ok.stk with e|⟨e,hf⟩
 ·rw[e];exact I.funs
 ·rw[e]
  obtain⟨m,hn,_⟩:=I.loc
  refine .cons (by rw[I.ok.kind];decide) hf hn ?_ I.funs
  exact Heap.get?_none_of_le (Nat.le_trans I.ok.bsz I.ok.above)
theorem Inv.stkSub(I:Inv X pins σ H s):∀b∈frs X.stack,b∈X.env.locals::X.fs:=fun b hb=>by
 rcases I.ok.stk with e|⟨e,hf⟩
 ·rw[e] at hb;exact List.mem_cons_of_mem _ hb
 ·rw[e] at hb
  unfold frs at hb
  rw[List.filterMap_cons,hf] at hb
  exact hb
theorem Inv.stkFree(I:Inv X pins σ H s):∀b∈frs X.stack,H b=none:=fun b hb=>by
 rcases List.mem_cons.mp (I.stkSub b hb) with e|hb
 ·rw[e];exact I.free
 ·obtain⟨_,o,ho,_⟩:=I.ok.funs.mem hb
  exact I.base.free b o ho (I.ok.frf b hb) fun z=>I.ok.exfs b z hb
theorem Inv.step{g':Array GenState}{t':Nat}{d':Drawn}{ch:List Addr}(I:Inv X pins σ H s)
  (hch:∀b∈ch,(b∈X.ex\/X.s₀.heap.objs.size<=b)/\b≠X.env.locals/\(∀x c,X.env.cells.lookup x=some c->c≠b)/\∀p∈X.pn++pins,p.1≠b)
  (keep:∀b o,b≠X.env.locals->b∉X.fs->b∉ch->s.heap.get? b=some o->H b=none->h'.get? b=some o)
  (slot:∀b o,b≠X.env.locals->b∈X.fs->b∉ch->s.heap.get? b=some o->H b=none->∃sl,h'.get? b=some { o with slots:=sl }) (free:∀b o,b∉ch->s.heap.get? b=some o->H b=none->H' b=none)
  (there:∀b o,b∉ch->s.heap.get? b=some o->∃o',h'.get? b=some o')
  (tups:∀b xs,H b=some (.tup xs)->H' b=some (.tup xs)) (frzs:∀b o u,H b=some (.frz o u)->H' b=some (.frz o u)) (tbls:∀b ps,H b=some (.tbl ps)->∃more,H' b=some (.tbl (ps++more)))
  (ns:∀m,s.heap.Ns X.env.locals m->h'.Ns X.env.locals m) (hok:HOk X.prog X.w H' h') (hg:AllBare g') :
  Inv X pins σ H' { s with heap:=h',gens:=g',drawn:=d',toks:=t' }:=by
 have neL:∀b o,X.s₀.heap.get? b=some o->b≠X.env.locals:=fun b o e=>Nat.ne_of_lt (Nat.lt_of_lt_of_le (Heap.lt_size e) I.ok.above)
 have neC:∀b o,X.s₀.heap.get? b=some o->b∉X.ex->b∉ch:=fun b o e hx hb=>by
  rcases(hch b hb).1 with z|z
  ·exact hx z
  ·exact absurd (Nat.lt_of_lt_of_le (Heap.lt_size e) z) (Nat.lt_irrefl _)
 have cellK:∀x c,X.env.cells.lookup x=some c->∀v,s.heap.IsCell c v->h'.IsCell c v:=fun x c e v ⟨o,ho,hd⟩=>by
  have nch:c∉ch:=fun z=>(hch c z).2.2.1 x c e rfl
  by_cases hc:c∈X.fs
  ·obtain⟨sl,q⟩:=slot c o (I.cne x c e) hc nch ho (I.freeC x c e)
   exact⟨_,q,hd⟩
  ·exact⟨o,keep c o (I.cne x c e) hc nch ho (I.freeC x c e),hd⟩
 refine⟨I.ok,I.os,hg,⟨fun b o e n hb hx=>?_,fun b o e n hb hx=>?_,fun b o e n hx=>?_,fun b o e hx=>?_,fun b xs e=>tups b xs (I.base.tups b xs e),fun b o xs e=>frzs b o xs (I.base.frzs b o xs e),fun b ps e=>?_⟩,?_,fun x c e=>?_,?_,fun x c e=>?_,fun p hp=>?_,hok,I.len⟩
 ·exact keep b o (neL b o e) hb (neC b o e hx) (I.base.keep b o e n hb hx) (I.base.free b o e n hx)
 ·obtain⟨sl,e1⟩:=I.base.slot b o e n hb hx
  obtain⟨sl',e2⟩:=slot b _ (neL b o e) hb (neC b o e hx) e1 (I.base.free b o e n hx)
  exact⟨sl',e2⟩
 ·obtain⟨o',e1⟩:=I.base.there b o e hx
  exact free b o' (neC b o e hx) e1 (I.base.free b o e n hx)
 ·obtain⟨o',e1⟩:=I.base.there b o e hx
  exact there b o' (neC b o e hx) e1
 ·obtain⟨m1,e1⟩:=I.base.tbls b ps e
  obtain⟨m2,e2⟩:=tbls b _ e1
  exact⟨m1++m2,by rw[e2,Array.append_assoc]⟩
 ·obtain⟨m,hn,hl⟩:=I.loc
  refine⟨m,ns m hn,fun i x v e1 e2 e3=>?_⟩
  obtain⟨u,r,l⟩:=hl i x v e1 e2 e3
  refine⟨u,r,?_⟩
  rcases l with l|⟨k,c,e,z⟩
  ·exact .inl l
  ·exact .inr ⟨k,c,e,cellK x c e _ z⟩
 ·obtain⟨v,z⟩:=I.cell x c e
  exact⟨v,cellK x c e v z⟩
 ·obtain⟨m,⟨o,_,_,ho,_⟩,_⟩:=I.loc
  exact free _ o (fun z=>(hch _ z).2.1 rfl) ho I.free
 ·obtain⟨v,o,ho,hd⟩:=I.cell x c e
  exact free c o (fun z=>(hch c z).2.2.1 x c e rfl) ho (I.freeC x c e)
 ·obtain⟨e,n,ne,nf,d⟩:=I.pin p hp
  have nch:p.1∉ch:=fun z=>(hch p.1 z).2.2.2 p hp rfl
  exact⟨keep p.1 p.2 ne nf nch e n,free p.1 p.2 nch e n,ne,nf,d⟩
theorem Inv.un{t':Nat}(I:Inv X pins σ H s)(u:Un X.fs [] H H' s.heap h')(hok:HOk X.prog X.w H' h'):Inv X pins σ H' { s with heap:=h',toks:=t' }:=by
 obtain⟨m,⟨o,es,ep,ho,r⟩,_⟩:=id I.loc
 obtain⟨sl,hL⟩:=u.any ho I.free (by simp)
 exact I.step (g':=s.gens) (d':=s.drawn) (ch:=[]) (fun _ z=>nomatch z) (fun b o _ hb _ e n=>u.keep b o e n hb (by simp)) (fun b o _ hb _ e n=>u.slot b o e n hb (by simp)) (fun b o _ e n=>u.free b o e n (by simp)) (fun b o _ e=>u.there b o e (by simp)) u.tups u.frzs u.tbls (fun m' hm=>by
  obtain⟨o',es',ep',ho',r'⟩:=hm
  rw[ho] at ho';cases ho'
  exact⟨_,es',ep',hL,r'⟩) hok I.bare
theorem Inv.call{g':Array GenState}{t':Nat}{d':Drawn}{ch:List Addr}(I:Inv X pins σ H s)(u:Un (frs X.stack) ch H H' s.heap h')(hok:HOk X.prog X.w H' h')(hg:AllBare g')
  (hch:∀b∈ch,(b∈X.ex\/X.s₀.heap.objs.size<=b)/\b≠X.env.locals/\(∀x c,X.env.cells.lookup x=some c->c≠b)/\∀p∈X.pn++pins,p.1≠b) :
  Inv X pins σ H' { s with heap:=h',gens:=g',drawn:=d',toks:=t' }:=by
 obtain⟨m,⟨o,es,ep,ho,r⟩,_⟩:=id I.loc
 obtain⟨sl,hL⟩:=u.any ho I.free fun z=>(hch _ z).2.1 rfl
 exact I.step (ch:=ch) hch (fun b o hL hb hc e n=>u.keep b o e n (fun z=>(List.mem_cons.mp (I.stkSub b z)).elim hL hb) hc) (fun b o _ _ hc e n=>u.any e n hc) (fun b o hc e n=>u.free b o e n hc) (fun b o hc e=>u.there b o e hc) u.tups u.frzs u.tbls (fun m' hm=>by
  obtain⟨o',es',ep',ho',r'⟩:=hm
  rw[ho] at ho';cases ho'
  exact⟨_,es',ep',hL,r'⟩) hok hg
theorem Inv.turned{t':Nat}{it:Addr}(I:Inv X pins σ H s)(k:∀b o,b≠it->s.heap.get? b=some o->h'.get? b=some o)(hn:H it=none)(hL:it≠X.env.locals)
  (h1:it∈X.ex\/X.s₀.heap.objs.size<=it) (h2:∀x c,X.env.cells.lookup x=some c->c≠it) (h3:∀p∈X.pn++pins,p.1≠it):Inv X pins σ H { s with heap:=h',toks:=t' }:=by
 have nit:∀b u,H b=some u->b≠it:=fun b u e z=>by rw[z,hn] at e;cases e
 refine I.step (g':=s.gens) (d':=s.drawn) (ch:=[it]) (fun b hb=>?_) (fun b o _ _ hc e _=>k b o (fun z=>hc (by simp[z])) e) (fun b o _ _ hc e _=>⟨o.slots,k b o (fun z=>hc (by simp[z])) e⟩) (fun _ _ _ _ n=>n)
  (fun b o hc e=>⟨o,k b o (fun z=>hc (by simp[z])) e⟩) (fun _ _ e=>e) (fun _ _ _ e=>e) (fun b ps e=>⟨#[],by rw[e];simp⟩) (fun m hm=>?_) (fun b u e=>?_) I.bare
 ·have e:b=it:=by simpa using hb
  subst e
  exact⟨h1,hL,h2,h3⟩
 ·obtain⟨o,es,ep,ho,r⟩:=hm
  exact⟨o,es,ep,k _ o (Ne.symm hL) ho,r⟩
 ·refine(I.hok b u e).stay (fun c v hc q=>k c v ?_ q) (fun _ q=>q) fun _ _ q=>q
  rcases hc with z|z
  ·rw[z];exact nit b u e
  ·exact nit c _ z
theorem Inv.tok(I:Inv X pins σ H s)(t:Nat):Inv X pins σ H { s with toks:=t }:=I.un (h':=s.heap) (t':=t) Un.refl I.hok
theorem Inv.kept{t':Nat}(I:Inv X pins σ H s)(k:∀b u,s.heap.get? b=some u->h'.get? b=some u):Inv X pins σ H { s with heap:=h',toks:=t' }:=I.un (Un.kept k) (I.hok.kept k)
theorem Inv.laid{a:Addr}{o:HO}{t':Nat}(I:Inv X pins σ H s)(k:∀b u,s.heap.get? b=some u->h'.get? b=some u)(hp:s.heap.objs.size<=a)(new:ObjOk X.prog X.w (upd H a o) h' a o) :
  Inv X pins σ (upd H a o) { s with heap:=h',toks:=t' }:=I.un (Un.laid k hp (I.hok.fresh hp)) (I.hok.laid k hp new)
theorem Inv.write{x e:Addr}{o:HO}{t':Nat}(I:Inv X pins σ H s)(mu:Mut (H x))(he:e=x\/H e=some (.own x))(k:∀b u,b≠e->s.heap.get? b=some u->h'.get? b=some u)(heo:∃u,h'.get? e=some u)
  (new:ObjOk X.prog X.w (upd H x o) h' x o):Inv X pins σ (upd H x o) { s with heap:=h',toks:=t' }:=I.un (Un.write mu he k heo) (I.hok.write mu he k heo new)
theorem Inv.pins_of{pins':List (Addr×Obj)}(I:Inv X pins σ H s)(h:∀p∈pins',s.heap.get? p.1=some p.2/\H p.1=none/\p.1≠X.env.locals/\p.1∉X.fs/\∀v,p.2.data≠.cell v):Inv X pins' σ H s :=
 ⟨I.ok,I.os,I.bare,I.base,I.loc,I.cell,I.free,I.freeC,fun p hp=>(List.mem_append.mp hp).elim (fun z=>I.pin p (List.mem_append_left _ z)) (h p),I.hok,I.len⟩
theorem nodup_ix{N:List Str}(hN:N.Nodup){i j:Nat}{x:Str}(a:N[i]?=some x)(b:N[j]?=some x):i=j:=by
 obtain⟨h1,e1⟩:=List.getElem?_eq_some_iff.mp a
 obtain⟨h2,e2⟩:=List.getElem?_eq_some_iff.mp b
 exact(List.getElem_inj hN).mp (e1.trans e2.symm)
theorem store_ok2{M:Model}{A:Around}{E:Value->Shared->Prop}{i:Nat}{x:Str}{v:V}{u:Value}{Q:Unit->Shared->Prop}(I:Inv X pins σ H s)(hN:X.N.Nodup)(hi:X.N[i]?=some x)(hx:Loc X.env.scope x)(r:RelV v u)
  (h:∀s',Inv X pins (σ.set i (some v)) H s'->(∃a,Heap.SameBut a s.heap s'.heap/\(a=X.env.locals\/X.env.cells.lookup x=some a))->Q () s') (hf:X.fn x=true\/X.env.scope.names.lookup x=some .local:=by first|exact .inl rfl|exact .inr rfl|assumption):wpAny M A (storeName X.env x u) Q E s:=by
 obtain⟨m,hn,hl⟩:=id I.loc
 have hcls:(X.env.scope.kind==.class||(X.env.scope.kind==.module&&X.env.locals != X.env.globals))=false:=by rw[I.ok.kind];rfl
 have hiσ:i < σ.length:=by rw[I.len];exact(List.getElem?_eq_some_iff.mp hi).1
 have cne:=I.cne
 have tracked:∀{a:Addr} {h':Heap},(∃o,s.heap.get? a=some o/\H a=none)->Heap.SameBut a s.heap h'->HOk X.prog X.w H h':=fun {a h'} ha hs b ob e=>by
  obtain⟨_,_,hfree⟩:=ha
  refine(I.hok b ob e).stay (fun c w' hc q=>(hs.2 c ?_).trans q) (fun _ q=>q) fun _ _ q=>q
  rintro rfl
  rcases hc with rfl|hc
  ·rw[hfree] at e;cases e
  ·rw[hfree] at hc;cases hc
 rcases hx with hk|hk
 ·refine wpAny_storeName_local hk hn (fun h' hn' hs=>?_) hcls
  obtain⟨oL,_,_,hoL,_⟩:=id hn
  refine h _ ⟨I.ok,I.os,I.bare,⟨fun b o e n hb hx=>?_,fun b o e n hb hx=>?_,I.base.free,fun b o e hx=>?_,I.base.tups,I.base.frzs,I.base.tbls⟩,⟨_,hn',fun j y v' e1 e2 e3=>?_⟩,fun y c e=>?_,I.free,I.freeC,fun p hp=>?_,tracked ⟨oL,hoL,I.free⟩ hs,by simpa using I.len⟩ ⟨_,hs,.inl rfl⟩
  ·exact(hs.2 b (Nat.ne_of_lt (Nat.lt_of_lt_of_le (Heap.lt_size e) I.ok.above))).trans (I.base.keep b o e n hb hx)
  ·obtain⟨sl,e1⟩:=I.base.slot b o e n hb hx
   exact⟨sl,(hs.2 b (Nat.ne_of_lt (Nat.lt_of_lt_of_le (Heap.lt_size e) I.ok.above))).trans e1⟩
  ·obtain⟨o',e1⟩:=I.base.there b o e hx
   exact⟨o',(hs.2 b (Nat.ne_of_lt (Nat.lt_of_lt_of_le (Heap.lt_size e) I.ok.above))).trans e1⟩
  ·by_cases hj:j=i
   ·subst hj
    rw[hi] at e1;cases e1
    rw[List.getElem?_set_self hiσ] at e2
    cases e2
    exact⟨u,r,.inl ⟨hk,by simp⟩⟩
   ·rw[List.getElem?_set_ne (Ne.symm hj)] at e2
    obtain⟨u',r',q⟩:=hl j y v' e1 e2 e3
    refine⟨u',r',?_⟩
    rcases q with ⟨k,e⟩|⟨k,c,e,z⟩
    ·refine .inl ⟨k,?_⟩
     have:y≠x:=fun e=>hj (nodup_ix hN e1 (e▸hi))
     simp[this,e]
    ·exact .inr ⟨k,c,e,z.sameBut hs (cne y c e)⟩
  ·obtain⟨w',z⟩:=I.cell y c e
   exact⟨w',z.sameBut hs (cne y c e)⟩
  ·obtain⟨e,n,ne,nf,d⟩:=I.pin p hp
   exact⟨(hs.2 p.1 ne).trans e,n,ne,nf,d⟩
 ·have hfn:X.fn x=true:=by
   rcases hf with z|z
   ·exact z
   ·rw[z] at hk;cases hk
  obtain⟨c,hc⟩:=I.ok.has x (.inl hk)
  obtain⟨w',z⟩:=I.cell x c hc
  refine wpAny_storeName_cell I.ok.kind hk hc z (fun h' hc' hs=>?_)
  obtain⟨oc,hoc,hocd⟩:=id z
  refine h { s with heap:=h' } ⟨I.ok,I.os,I.bare,⟨fun b o e n hb hx=>?_,fun b o e n hb hx=>?_,I.base.free,fun b o e hx=>?_,I.base.tups,I.base.frzs,I.base.tbls⟩,⟨m,hn.sameBut hs (Ne.symm (cne x c hc)),fun j y v' e1 e2 e3=>?_⟩,fun y c' e=>?_,I.free,I.freeC,fun p hp=>?_,tracked ⟨oc,hoc,I.freeC x c hc⟩ hs,by simpa using I.len⟩ ⟨c,hs,.inr hc⟩
  ·exact(hs.2 b (Nat.ne_of_lt (Nat.lt_of_lt_of_le (Heap.lt_size e) (I.ok.cab x c hfn hc)))).trans (I.base.keep b o e n hb hx)
  ·obtain⟨sl,e1⟩:=I.base.slot b o e n hb hx
   exact⟨sl,(hs.2 b (Nat.ne_of_lt (Nat.lt_of_lt_of_le (Heap.lt_size e) (I.ok.cab x c hfn hc)))).trans e1⟩
  ·obtain⟨o',e1⟩:=I.base.there b o e hx
   exact⟨o',(hs.2 b (Nat.ne_of_lt (Nat.lt_of_lt_of_le (Heap.lt_size e) (I.ok.cab x c hfn hc)))).trans e1⟩
  ·by_cases hj:j=i
   ·subst hj
    rw[hi] at e1;cases e1
    rw[List.getElem?_set_self hiσ] at e2
    cases e2
    exact⟨u,r,.inr ⟨.inl hk,c,hc,hc'⟩⟩
   ·rw[List.getElem?_set_ne (Ne.symm hj)] at e2
    obtain⟨u',r',q⟩:=hl j y v' e1 e2 e3
    refine⟨u',r',?_⟩
    rcases q with q|⟨k,c',e,z'⟩
    ·exact .inl q
    ·refine .inr ⟨k,c',e,z'.sameBut hs ?_⟩
     rintro rfl
     exact hj (nodup_ix hN e1 (I.ok.inj _ _ _ e hc▸hi))
  ·by_cases hcc:c'=c
   ·subst hcc;exact⟨_,hc'⟩
   ·obtain⟨w2,z2⟩:=I.cell y c' e
    exact⟨w2,z2.sameBut hs hcc⟩
  ·obtain⟨e,n,ne,nf,d⟩:=I.pin p hp
   refine⟨(hs.2 p.1 ?_).trans e,n,ne,nf,d⟩
   intro q
   rw[q,hoc] at e
   have q':oc=p.2:=Option.some.inj e
   exact d w' (by rw[<-q'];exact hocd)
theorem store_ok{M:Model}{A:Around}{E:Value->Shared->Prop}{i:Nat}{x:Str}{v:V}{u:Value}{Q:Unit->Shared->Prop}(I:Inv X pins σ H s)(hN:X.N.Nodup)(hi:X.N[i]?=some x)(hx:Loc X.env.scope x)(r:RelV v u)
  (h:∀s',Inv X pins (σ.set i (some v)) H s'->Q () s') (hf:X.fn x=true\/X.env.scope.names.lookup x=some .local:=by first|exact .inl rfl|exact .inr rfl|assumption):wpAny M A (storeName X.env x u) Q E s :=
 store_ok2 I hN hi hx r (fun s' I' _=>h s' I') hf
theorem Inv.call'{s':Shared}{ch:List Addr}(I:Inv X pins σ H s)(ho:s'.os=s.os)(u:Un (frs X.stack) ch H H' s.heap s'.heap)(hok:HOk X.prog X.w H' s'.heap)(hg:AllBare s'.gens)
  (hch:∀b∈ch,(b∈X.ex\/X.s₀.heap.objs.size<=b)/\b≠X.env.locals/\(∀x c,X.env.cells.lookup x=some c->c≠b)/\∀p∈X.pn++pins,p.1≠b):Inv X pins σ H' s':=by
 obtain⟨h',g',d',t',o'⟩:=s'
 have e:o'=s.os:=ho
 subst e
 exact I.call (g':=g') (t':=t') (d':=d') u hok hg hch
end
noncomputable abbrev XK:=Value->Option Addr->Hp->Prop
noncomputable abbrev St:=List (Option V)
noncomputable abbrev VK:=V->Hp->Prop
noncomputable abbrev TE:=St->Hp->VK->Prop
noncomputable abbrev TT:=St->Hp->(Bool->Hp->Prop)->Prop
noncomputable abbrev TA:=St->Hp->(List V->Hp->Prop)->Prop
structure Ends where
 nx:St->Hp->Prop
 rt:VK
 bk:St->Hp->Prop:=fun _ _=>False
 ct:St->Hp->Prop:=fun _ _=>False
noncomputable abbrev TS:=Ends->St->Hp->Prop
noncomputable def EP(X:Cx)(pins:List (Addr×Obj))(σ:St)(Q:VK)(u:Value)(s':Shared):Prop:=∃v H',Inv X pins σ H' s'/\RelV v u/\Q v H'
noncomputable def TP(X:Cx)(pins:List (Addr×Obj))(σ:St)(Q:Bool->Hp->Prop)(b:Bool)(s':Shared):Prop:=∃H',Inv X pins σ H' s'/\Q b H'
noncomputable def AP(X:Cx)(pins:List (Addr×Obj))(σ:St)(Q:List V->Hp->Prop)(us:List Value)(s':Shared):Prop:=∃vs H',Inv X pins σ H' s'/\Vals vs us/\Q vs H'
noncomputable def SP(X:Cx)(pins:List (Addr×Obj))(D:Ends)(f:Flow)(s':Shared):Prop :=
 match f with
 | .next=>∃σ' H',Inv X pins σ' H' s'/\D.nx σ' H'
 | .brk=>∃σ' H',Inv X pins σ' H' s'/\D.bk σ' H'
 | .cont=>∃σ' H',Inv X pins σ' H' s'/\D.ct σ' H'
 | .ret u=>∃v σ' H',Inv X pins σ' H' s'/\RelV v u/\D.rt v H'
noncomputable def PE(X:Cx)(e:Expr)(t:TE):Prop :=
 ∀(pins:List (Addr×Obj)) (s:Shared) (σ:St) (H:Hp) (Q:VK),Inv X pins σ H s->t σ H Q->wpAny (model X.prog X.w) X.A (eval e X.env) (EP X pins σ Q) X.xe s
noncomputable def PT(X:Cx)(e:Expr)(t:TT):Prop :=
 ∀(pins:List (Addr×Obj)) (s:Shared) (σ:St) (H:Hp) (Q:Bool->Hp->Prop),Inv X pins σ H s->t σ H Q->wpAny (model X.prog X.w) X.A (isTrue e X.env (eval e X.env)) (TP X pins σ Q) X.xe s
noncomputable def PW(X:Cx)(e:Expr)(t:TT):Prop :=
 ∀(whole:Sem Value) (pins:List (Addr×Obj)) (s:Shared) (σ:St) (H:Hp) (Q:Bool->Hp->Prop),Inv X pins σ H s->t σ H Q->wpAny (model X.prog X.w) X.A (isTrue e X.env whole) (TP X pins σ Q) X.xe s
theorem PW.pt{X:Cx}{e:Expr}{t:TT}(h:PW X e t):PT X e t:=h _
noncomputable def PA(X:Cx)(es:List Expr)(t:TA):Prop :=
 ∀(pos:Pos) (pins:List (Addr×Obj)) (s:Shared) (σ:St) (H:Hp) (Q:List V->Hp->Prop),Inv X pins σ H s->t σ H Q->wpAny (model X.prog X.w) X.A (spliced (backTo pos (starEach es X.env))) (AP X pins σ Q) X.xe s
noncomputable def PS(X:Cx)(st:Stmt)(t:TS):Prop :=
 ∀(pins:List (Addr×Obj)) (s:Shared) (σ:St) (H:Hp) (D:Ends),Inv X pins σ H s->t D σ H->wpAny (model X.prog X.w) X.A (exec st X.env) (SP X pins D) X.xe s
noncomputable def PSs(X:Cx)(st:List Stmt)(t:TS):Prop :=
 ∀(pins:List (Addr×Obj)) (s:Shared) (σ:St) (H:Hp) (D:Ends),Inv X pins σ H s->t D σ H->wpAny (model X.prog X.w) X.A (execs st X.env) (SP X pins D) X.xe s
theorem thn{α:Type}{t:Sem α}{Q Q':α -> Shared->Prop}{M:Model}{A:Around}{E:Value->Shared->Prop}{s:Shared}(h:wpAny M A t Q E s)(hQ:∀a s,Q a s->Q' a s):wpAny M A t Q' E s:=wpAny_mono h hQ fun _ _ x=>x
end L2
namespace L2
open PySem PySem.Spec PyProof.Rows
section
variable {X:Cx}
theorem bin{a b:Expr}{ta tb:TE}(ha:PE X a ta)(hb:PE X b tb){pins:List (Addr×Obj)}{s:Shared}{σ:St}{H:Hp}{R:V->V->Hp->Prop}(I:Inv X pins σ H s)(h:ta σ H fun x H1=>tb σ H1 fun y H2=>R x y H2)
  {α:Type} {Q:α -> Shared->Prop} {f:Value->Value->Sem α}
  (hf:∀v u s2 x y H2,Inv X pins σ H2 s2->RelV x v->RelV y u->R x y H2->wpAny (model X.prog X.w) X.A (f v u) Q X.xe s2) :
  wpAny (model X.prog X.w) X.A (eval a X.env) (fun v s₁=>wpAny (model X.prog X.w) X.A (eval b X.env) (fun u s₂=>wpAny (model X.prog X.w) X.A (f v u) Q X.xe s₂) X.xe s₁) X.xe s:=by
 refine thn (ha pins s σ H _ I h) fun v s1 zz0=>?_
 obtain⟨x,H1,I1,r1,q1⟩:=zz0
 refine thn (hb pins s1 σ H1 _ I1 q1) fun u s2 zz0=>?_
 obtain⟨y,H2,I2,r2,q2⟩:=zz0
 exact hf v u s2 x y H2 I2 r1 r2 q2
noncomputable def tVar(i:Nat):TE:=fun σ H Q=>∃v,σ[i]?=some (some v)/\Q v H
noncomputable def tC(v:V):TE:=fun _ H Q=>Q v H
theorem pe_var{i:Nat}{x:Str}{pos:Pos}(hN:X.N[i]?=some x)(hv:Vis X.env.scope x)(hd:(x==("__debug__":Str))=false:=by decide)(hcd:(x==("__classdict__":Str))=false:=by decide):PE X (.Name x pos) (tVar i):=by
 intro pins s σ H Q I h
 obtain⟨v,e,h⟩:=h
 obtain⟨m,hn,hl⟩:=I.loc
 obtain⟨u,r,l⟩:=hl i x v hN e hv
 have fin:EP X pins σ Q u s:=⟨v,H,I,r,h⟩
 rcases l with ⟨hk,hm⟩|⟨hk,c,hc,hcell⟩
 ·exact wpAny_Name (wpAny_loadName_local I.ok.kind hk hn hm fin) hd
 ·rcases hk with hk|hk
  ·exact wpAny_Name (wpAny_loadName_cell I.ok.kind hk hc hcell fin) hd
  ·exact wpAny_Name (wpAny_loadName_free I.ok.kind hk hc hcell fin hcd) hd
theorem pe_int{i j pos}:PE X (.Constant (.int i) j pos) (tC (.int i)):=fun _ _ _ H _ I h=>wpAny_Constant_int ⟨.int i,H,I.tok _,⟨_,rfl⟩,h⟩
theorem pe_bl{b j pos}:PE X (.Constant (.bool b) j pos) (tC (.bl b)):=fun _ _ _ H _ I h=>Constant_bool ⟨.bl b,H,I,rfl,h⟩
theorem pe_non{j pos}:PE X (.Constant .none j pos) (tC .non):=fun _ _ _ H _ I h=>Constant_none ⟨.non,H,I,rfl,h⟩
theorem pe_str{x j pos}:PE X (.Constant (.str x) j pos) (tC (.str x)):=fun _ _ _ H _ I h=>Calls.Constant_str ⟨.str x,H,I.tok _,⟨_,rfl⟩,h⟩
noncomputable def Gl(X:Cx)(x:Str):Prop:=X.env.kindOf x=some .globalImplicit
theorem ld_glob{E:Value->Shared->Prop}{pins:List (Addr×Obj)}{s:Shared}{σ:St}{H:Hp}{x:Str}{u:Value}{pos:Pos}{Q:Value->Shared->Prop}(I:Inv X pins σ H s)(hg:Gl X x)(hm:X.mg x=some u)(h:Q u s)
  (hd:(x==("__debug__":Str))=false:=by decide):wpAny (model X.prog X.w) X.A (eval (.Name x pos) X.env) Q E s :=
 Calls.Name_function_global I.ok.kind hg (Calls.loadGlobal_global (by rw[I.ok.glob];exact I.mod.glob.keeps I.bk) hm h) hd
theorem ld_blt{E:Value->Shared->Prop}{pins:List (Addr×Obj)}{s:Shared}{σ:St}{H:Hp}{x:Str}{u:Value}{pos:Pos}{Q:Value->Shared->Prop}(I:Inv X pins σ H s)(hg:Gl X x)(hm:X.mg x=none)(hv:bootBuiltins x=some u)(h:Q u s)
  (hn:x ≠ "__name__":=by decide) (hd:(x==("__debug__":Str))=false:=by decide):wpAny (model X.prog X.w) X.A (eval (.Name x pos) X.env) Q E s:=by
 obtain⟨mb,h1,h2⟩:=I.mod.blt
 exact Calls.Name_function_global I.ok.kind hg (Calls.loadGlobal_builtin (by rw[I.ok.glob];exact I.mod.glob.keeps I.bk) hm (by rw[I.ok.blt];exact h1.keeps I.bk) ((h2 x hn).trans hv) h) hd
theorem pe_glob{x:Str}{v:V}{u:Value}{pos:Pos}(hg:Gl X x)(hm:X.mg x=some u)(r:RelV v u)(hd:(x==("__debug__":Str))=false:=by decide):PE X (.Name x pos) (tC v) :=
 fun _ _ _ H _ I h=>ld_glob I hg hm ⟨v,H,I,r,h⟩ hd
theorem pe_bltn{x:Str}{v:V}{u:Value}{pos:Pos}(hg:Gl X x)(hm:X.mg x=none)(hv:bootBuiltins x=some u)(r:RelV v u)(hn:x ≠ "__name__":=by decide)(hd:(x==("__debug__":Str))=false:=by decide):PE X (.Name x pos) (tC v) :=
 fun _ _ _ H _ I h=>ld_blt I hg hm hv ⟨v,H,I,r,h⟩ hn hd
variable {a b:Expr} {ta tb:TE} {pos:Pos}
variable {tA tB':TT} {rest:List Expr}
noncomputable def tAnd(t u:TT):TT:=fun σ H Q=>t σ H fun c H1=>if c=true then u σ H1 Q else Q false H1
noncomputable def tOr(t u:TT):TT:=fun σ H Q=>t σ H fun c H1=>if c=true then Q true H1 else u σ H1 Q
noncomputable def tNot(t:TT):TT:=fun σ H Q=>t σ H fun c H1=>Q (!c) H1
theorem pw_and1(ha:PT X a tA):PW X (.BoolOp .And [a] pos) tA:=by
 intro wh pins s σ H Q I h
 refine isTrue_and (thn (ha pins s σ H Q I h) fun c s1 e=>?_)
 cases c with
 | true=>exact isTrue_and_nil e
 | false=>exact e
theorem pw_or1(ha:PT X a tA):PW X (.BoolOp .Or [a] pos) tA:=by
 intro wh pins s σ H Q I h
 refine isTrue_or (thn (ha pins s σ H Q I h) fun c s1 e=>?_)
 cases c with
 | false=>exact isTrue_or_nil e
 | true=>exact e
theorem pw_and(ha:PT X a tA)(hb:PW X (.BoolOp .And (b::rest) pos) tB'):PW X (.BoolOp .And (a::b::rest) pos) (tAnd tA tB'):=by
 intro wh pins s σ H Q I h
 refine isTrue_and (thn (ha pins s σ H _ I h) fun c s1 zz0=>?_)
 obtain⟨H1,I1,q1⟩:=zz0
 cases c with
 | true=>exact hb wh pins s1 σ H1 Q I1 q1
 | false=>exact⟨H1,I1,q1⟩
theorem pw_or(ha:PT X a tA)(hb:PW X (.BoolOp .Or (b::rest) pos) tB'):PW X (.BoolOp .Or (a::b::rest) pos) (tOr tA tB'):=by
 intro wh pins s σ H Q I h
 refine isTrue_or (thn (ha pins s σ H _ I h) fun c s1 zz0=>?_)
 obtain⟨H1,I1,q1⟩:=zz0
 cases c with
 | true=>exact⟨H1,I1,q1⟩
 | false=>exact hb wh pins s1 σ H1 Q I1 q1
theorem pt_not(ha:PT X a tA):PT X (.UnaryOp .Not a pos) (tNot tA):=by
 intro pins s σ H Q I h
 exact isTrue_not (ha pins s σ H (fun c H1=>Q (!c) H1) I h)
noncomputable def tAndV(ta tb:TE):TE:=fun σ H Q=>ta σ H fun x H1=>∃c,x=.bl c/\if c=true then tb σ H1 Q else Q (.bl false) H1
noncomputable def tOrV(ta tb:TE):TE:=fun σ H Q=>ta σ H fun x H1=>∃c,x=.bl c/\if c=true then Q (.bl true) H1 else tb σ H1 Q
noncomputable def tNotV(ta:TE):TE:=fun σ H Q=>ta σ H fun x H1=>∃c,x=.bl c/\Q (.bl (!c)) H1
theorem pe_one{op}{t:TE}(h:PE X a t):PE X (.BoolOp op [a] pos) t:=fun pins s σ H Q I hw=>BoolOp_one (h pins s σ H Q I hw)
theorem pe_and(ha:PE X a ta)(hb:PE X (.BoolOp .And (b::rest) pos) tb):PE X (.BoolOp .And (a::b::rest) pos) (tAndV ta tb):=by
 intro pins s σ H Q I h
 refine BoolOp_and (thn (ha pins s σ H _ I h) fun v s1 zz0=>?_)
 obtain⟨x,H1,I1,r1,q1⟩:=zz0
 obtain⟨c,rfl,q1⟩:=q1
 cases r1
 refine wpAny_truthy_bool ?_
 cases c with
 | true=>exact hb pins s1 σ H1 Q I1 q1
 | false=>exact⟨.bl false,H1,I1,rfl,q1⟩
theorem pe_or(ha:PE X a ta)(hb:PE X (.BoolOp .Or (b::rest) pos) tb):PE X (.BoolOp .Or (a::b::rest) pos) (tOrV ta tb):=by
 intro pins s σ H Q I h
 refine BoolOp_or (thn (ha pins s σ H _ I h) fun v s1 zz0=>?_)
 obtain⟨x,H1,I1,r1,q1⟩:=zz0
 obtain⟨c,rfl,q1⟩:=q1
 cases r1
 refine wpAny_truthy_bool ?_
 cases c with
 | false=>exact hb pins s1 σ H1 Q I1 q1
 | true=>exact⟨.bl true,H1,I1,rfl,q1⟩
theorem pe_not(ha:PE X a ta):PE X (.UnaryOp .Not a pos) (tNotV ta):=by
 intro pins s σ H Q I h
 refine UnaryOp_ (thn (ha pins s σ H _ I h) fun v s1 zz0=>?_)
 obtain⟨x,H1,I1,r1,q1⟩:=zz0
 obtain⟨c,rfl,q1⟩:=q1
 cases r1
 exact not_of (wpAny_truthy_bool ⟨.bl (!c),H1,I1,rfl,q1⟩)
end
end L2
namespace L2
open PySem PySem.Spec PyProof.Rows
noncomputable def SqL(K:PySem.W.Frag)(H:Hp)(a:Addr)(xs:List V):Prop :=
 Rd H a (.lst xs) \/
  ∃(o:Obj) (its:Array Value) (n:Nat),K.lookup a=some o/\o.cls=.type "list" /\ o.dict=none/\o.data=.seq its n/\its.size<=sizeLine/\Vals xs its.toList
noncomputable def SqT(K:PySem.W.Frag)(H:Hp)(a:Addr)(xs:List V):Prop :=
 Rd H a (.tup xs) \/
  ∃(o:Obj) (its:Array Value) (n:Nat),K.lookup a=some o/\o.cls=.type "tuple" /\ o.data=.seq its n/\its.size<=sizeLine/\Vals xs its.toList
noncomputable def absV:Value->Option V
 | .none=>some .non
 | .bool b=>some (.bl b)
 | .int i _=>some (.int i)
 | .str x _=>some (.str x)
 | .bytes b _=>some (.byt b)
 | .float b _=>some (.flt b)
 | .ref a=>some (.ref a)
 | .type n=>some (.ty n)
 | _=>none
theorem RelV.abs{x:V}{u:Value}(r:RelV x u):absV u=some x:=by
 cases x with
 | non=>cases r;rfl
 | bl _=>cases r;rfl
 | int _=>obtain⟨t,rfl⟩:=r;rfl
 | str _=>obtain⟨t,rfl⟩:=r;rfl
 | byt _=>obtain⟨t,rfl⟩:=r;rfl
 | flt _=>obtain⟨t,rfl⟩:=r;rfl
 | ref _=>cases r;rfl
 | ty _=>cases r;rfl
theorem RelV.inj{x y:V}{u:Value}(r:RelV x u)(q:RelV y u):x=y:=Option.some.inj (r.abs.symm.trans q.abs)
theorem Vals.inj:∀{xs ys:List V} {us:List Value},Vals xs us->Vals ys us->xs=ys
 | _,_,_,.nil,.nil=>rfl
 | _,_,_,.cons r t,.cons r' t'=>by rw[r.inj r',Vals.inj t t']
section
variable {X:Cx} {pins:List (Addr×Obj)} {σ:St} {H:Hp} {s:Shared} {a:Addr} {xs ys:List V}
theorem SqT.of{K:PySem.W.Frag}(h:H a=some (.tup xs)):SqT K H a xs:=.inl (.inl h)
theorem Inv.list(I:Inv X pins σ H s)(h:SqL X.K H a xs):∃its:List Value,Vals xs its/\PlainL s.heap a its.toArray/\xs.length<=sizeLine:=by
 rcases h with h|⟨o,its,n,hk,hc,hd,hs,hz,r⟩
 ·obtain⟨z,its,n,r,e⟩:=h.ok I.hok
  exact⟨its,r,⟨_,n,e,rfl,rfl,rfl⟩,z⟩
 ·refine⟨its.toList,r,⟨o,n,I.kIn a o hk,hc,hd,by simpa using hs⟩,?_⟩
  have e:=r.length
  simp only[Array.length_toList] at e
  omega
theorem Inv.tuple(I:Inv X pins σ H s)(h:SqT X.K H a xs):∃its:List Value,Vals xs its/\IsTup s.heap a its.toArray/\xs.length<=sizeLine:=by
 rcases h with h|⟨o,its,n,hk,hc,hs,hz,r⟩
 ·obtain⟨z,its,r,p⟩:=h.ok I.hok
  exact⟨its,r,p,z⟩
 ·refine⟨its.toList,r,⟨o,I.kIn a o hk,hc,n,by simpa using hs⟩,?_⟩
  have e:=r.length
  simp only[Array.length_toList] at e
  omega
theorem Inv.list_inj(I:Inv X pins σ H s)(h:SqL X.K H a xs)(h':SqL X.K H a ys):xs=ys:=by
 obtain⟨its,r,⟨o,n,e,_,_,d⟩,_⟩:=I.list h
 obtain⟨its',r',⟨o',n',e',_,_,d'⟩,_⟩:=I.list h'
 rw[e] at e';cases e'
 rw[d] at d'
 injection d' with d1 _
 have:its=its':=by simpa using congrArg Array.toList d1
 subst this
 exact r.inj r'
theorem Inv.tuple_inj(I:Inv X pins σ H s)(h:SqT X.K H a xs)(h':SqT X.K H a ys):xs=ys:=by
 obtain⟨its,r,⟨o,e,_,n,d⟩,_⟩:=I.tuple h
 obtain⟨its',r',⟨o',e',_,n',d'⟩,_⟩:=I.tuple h'
 rw[e] at e';cases e'
 rw[d] at d'
 injection d' with d1 _
 have:its=its':=by simpa using congrArg Array.toList d1
 subst this
 exact r.inj r'
end
noncomputable abbrev Cx.wish(X:Cx)(E:Value->Shared->Prop):Cx:={ X with xe:=E }
noncomputable abbrev Cx.nox(X:Cx):Cx:=X.wish fun _ _=>False
theorem Cx.Ok.wish{X:Cx}(ok:X.Ok)(E:Value->Shared->Prop):(X.wish E).Ok :=
 ⟨ok.mod,ok.kind,ok.glob,ok.blt,ok.above,ok.inj,ok.has,ok.cab,ok.hd,ok.frames,ok.stk,ok.exf,ok.bs,ok.bsz,ok.noex,ok.exfs,ok.funs,ok.frf⟩
theorem Cx.Ok.unwish{X:Cx}{E:Value->Shared->Prop}(ok:(X.wish E).Ok):X.Ok :=
 ⟨ok.mod,ok.kind,ok.glob,ok.blt,ok.above,ok.inj,ok.has,ok.cab,ok.hd,ok.frames,ok.stk,ok.exf,ok.bs,ok.bsz,ok.noex,ok.exfs,ok.funs,ok.frf⟩
section
variable {X:Cx} {pins:List (Addr×Obj)} {σ:St} {H:Hp} {s:Shared} {E:Value->Shared->Prop}
theorem Inv.wish(I:Inv X pins σ H s)(E:Value->Shared->Prop):Inv (X.wish E) pins σ H s:=⟨I.ok.wish E,I.os,I.bare,I.base,I.loc,I.cell,I.free,I.freeC,I.pin,I.hok,I.len⟩
theorem Inv.unwish(I:Inv (X.wish E) pins σ H s):Inv X pins σ H s:=⟨I.ok.unwish,I.os,I.bare,I.base,I.loc,I.cell,I.free,I.freeC,I.pin,I.hok,I.len⟩
theorem SP.unwish{D:Ends}{f:Flow}{s':Shared}(h:SP (X.wish E) pins D f s'):SP X pins D f s':=by
 cases f with
 | next=>obtain⟨σ',H',I,q⟩:=h;exact⟨σ',H',I.unwish,q⟩
 | brk=>obtain⟨σ',H',I,q⟩:=h;exact⟨σ',H',I.unwish,q⟩
 | cont=>obtain⟨σ',H',I,q⟩:=h;exact⟨σ',H',I.unwish,q⟩
 | ret u=>obtain⟨v,σ',H',I,r,q⟩:=h;exact⟨v,σ',H',I.unwish,r,q⟩
theorem PSs.nox{st:List Stmt}{t:TS}(h:PSs X.nox st t):PSs X st t:=fun pins s σ H D I hw =>
 wpAny_mono (h pins s σ H D (I.wish _) hw) (fun _ _ q=>q.unwish) fun _ _ z=>False.elim z
end
section
variable {X:Cx} {st:Stmt} {rest:List Stmt} {t u:TS} {e:Expr} {te:TE} {pos:Pos}
noncomputable def tNext:TS:=fun D σ H=>D.nx σ H
noncomputable def tSeq(t u:TS):TS:=fun D σ H=>t { D with nx:=u D } σ H
theorem pss_nil:PSs X [] tNext:=fun _ _ σ H _ I h=>wpAny_execs_nil ⟨σ,H,I,h⟩
theorem pss_cons(h1:PS X st t)(h2:PSs X rest u):PSs X (st::rest) (tSeq t u):=by
 intro pins s σ H D I h
 refine wpAny_execs_cons (thn (h1 pins s σ H { D with nx:=u D } I h) fun f s1 q=>?_)
 cases f with
 | next =>
  obtain⟨σ',H',I',q⟩:=q
  exact h2 pins s1 σ' H' D I' q
 | ret v=>exact q
 | brk=>exact q
 | cont=>exact q
noncomputable def tBreak:TS:=fun D σ H=>D.bk σ H
noncomputable def tCont:TS:=fun D σ H=>D.ct σ H
theorem ps_pass:PS X (.Pass pos) tNext:=fun _ _ σ H _ I h=>wpAny_Pass ⟨σ,H,I,h⟩
theorem ps_break:PS X (.Break pos) tBreak:=fun _ _ σ H _ I h=>wpAny_Break ⟨σ,H,I,h⟩
theorem ps_continue:PS X (.Continue pos) tCont:=fun _ _ σ H _ I h=>wpAny_Continue ⟨σ,H,I,h⟩
theorem Inv.quiet{pins:List (Addr×Obj)}{σ:St}{H:Hp}{s:Shared}(I:Inv X pins σ H s):interactive X.env=false:=by simp[interactive,I.ok.kind]
theorem ps_doc{x j pos pos'}:PS X (.Expr (.Constant (.str x) j pos) pos') tNext:=fun _ s σ H _ I h=>wpAny_Expr (Calls.Constant_str (show SP X _ _ .next { s with toks:=s.toks+1 } from⟨σ,H,I.tok _,h⟩)) I.quiet
noncomputable def tDrop(te:TE):TS:=fun D σ H=>te σ H fun _ H1=>D.nx σ H1
theorem ps_expr(he:PE X e te)(hs:swapsWith e none pos.line X.env=pure false:=by rfl):PS X (.Expr e pos) (tDrop te):=by
 intro pins s σ H D I h
 exact wpAny_Expr_any (thn (he pins s σ H _ I h) fun v s1 ⟨x,H1,I1,r1,q1⟩=>⟨σ,H1,I1,q1⟩) I.quiet hs
noncomputable def tRet(te:TE):TS:=fun D σ H=>te σ H D.rt
theorem ps_ret(he:PE X e te):PS X (.Return (some e) pos) (tRet te):=by
 intro pins s σ H D I h
 exact wpAny_Return_some (thn (he pins s σ H _ I h) fun v s1 ⟨x,H1,I1,r1,q1⟩=>⟨x,σ,H1,I1,r1,q1⟩)
noncomputable def tRetN:TS:=fun D _ H=>D.rt .non H
theorem ps_retN:PS X (.Return none pos) tRetN:=fun _ _ σ H _ I h=>wpAny_Return_none ⟨.non,σ,H,I,rfl,h⟩
noncomputable def tIfS(c:TT)(t u:TS):TS:=fun D σ H=>c σ H fun b H1=>if b=true then t D σ H1 else u D σ H1
theorem ps_if{c:Expr}{a b:List Stmt}{tc:TT}(hc:PT X c tc)(ha:PSs X a t)(hb:PSs X b u):PS X (.If c a b pos) (tIfS tc t u):=by
 intro pins s σ H D I h
 refine wpAny_If (thn (hc pins s σ H _ I h) fun d s1 zz0=>?_)
 obtain⟨H1,I1,q1⟩:=zz0
 cases d with
 | true=>exact ha pins s1 σ H1 D I1 q1
 | false=>exact hb pins s1 σ H1 D I1 q1
noncomputable def tNever:TS:=fun _ _ _=>False
theorem ps_never:PS X st tNever:=fun _ _ _ _ _ _ h=>h.elim
end
noncomputable abbrev TG:=V->St->Hp->(St->Hp->Prop)->Prop
noncomputable abbrev TGs:=List V->St->Hp->(St->Hp->Prop)->Prop
noncomputable def PG(X:Cx)(target:Expr)(t:TG):Prop :=
 ∀(pins:List (Addr×Obj)) (s:Shared) (σ:St) (H:Hp) (v:V) (u:Value) (Q:St->Hp->Prop),Inv X pins σ H s->RelV v u->t v σ H Q ->
  wpAny (model X.prog X.w) X.A (assign target X.env u) (fun _ s'=>∃σ' H',Inv X pins σ' H' s'/\Q σ' H') X.xe s
noncomputable def PGs(X:Cx)(ts:List Expr)(t:TGs):Prop :=
 ∀(pins:List (Addr×Obj)) (s:Shared) (σ:St) (H:Hp) (vs:List V) (us:List Value) (Q:St->Hp->Prop),Inv X pins σ H s->Vals vs us->t vs σ H Q ->
  wpAny (model X.prog X.w) X.A (assignInOrder ((assignEach ts X.env).map (·.2)) us) (fun _ s'=>∃σ' H',Inv X pins σ' H' s'/\Q σ' H') X.xe s
noncomputable abbrev TSet:=V->V->V->Hp->(Hp->Prop)->Prop
noncomputable def PSet(X:Cx)(t:TSet):Prop :=
 ∀(pins:List (Addr×Obj)) (s:Shared) (σ:St) (H:Hp) (o i v:V) (ov iv u:Value) (Q:Hp->Prop),Inv X pins σ H s->RelV o ov->RelV i iv->RelV v u->t o i v H Q ->
  wpAny (model X.prog X.w) X.A (setItem ov iv u) (fun _ s'=>∃H',Inv X pins σ H' s'/\Q H') X.xe s
noncomputable abbrev TIp:=V->V->Hp->VK->Prop
noncomputable def PIp(X:Cx)(op:Operator)(t:TIp):Prop :=
 ∀(pins:List (Addr×Obj)) (s:Shared) (σ:St) (H:Hp) (x y:V) (v u:Value) (Q:VK),Inv X pins σ H s->RelV x v->RelV y u->t x y H Q ->
  wpAny (model X.prog X.w) X.A (inplaceOp op v u) (EP X pins σ Q) X.xe s
section
variable {X:Cx} {pos:Pos}
noncomputable def gName(i:Nat):TG:=fun v σ H Q=>Q (σ.set i (some v)) H
theorem pg_name{i:Nat}{x:Str}(hN:X.N.Nodup)(hi:X.N[i]?=some x)(hx:Loc X.env.scope x)(hf:X.fn x=true\/X.env.scope.names.lookup x=some .local:=by first|exact .inl rfl|exact .inr rfl|assumption):PG X (.Name x pos) (gName i):=by
 intro pins s σ H v u Q I r h
 exact wpAny_assign_Name (store_ok I hN hi hx r (fun s' I'=>⟨_,H,I',h⟩) hf)
noncomputable def gNil:TGs:=fun vs σ H Q=>vs=[]/\Q σ H
noncomputable def gCons(t:TG)(u:TGs):TGs:=fun vs σ H Q=>∃v r,vs=v::r/\t v σ H fun σ' H'=>u r σ' H' Q
theorem pgs_nil:PGs X [] gNil:=by
 intro pins s σ H vs us Q I r h
 obtain⟨e,h⟩:=h
 subst e
 cases r
 exact assignInOrder_nil ⟨σ,H,I,h⟩
theorem pgs_cons{e:Expr}{es:List Expr}{t:TG}{u:TGs}(h1:PG X e t)(h2:PGs X es u)
  (hs:(assignEach (e::es) X.env).map (·.2)=assign e X.env::(assignEach es X.env).map (·.2):=by rfl):PGs X (e::es) (gCons t u):=by
 intro pins s σ H vs us Q I r h
 obtain⟨v,vr,e1,h⟩:=h
 subst e1
 cases r with
 | cons r rr =>
  rw[hs]
  refine assignInOrder_cons (thn (h1 pins s σ H _ _ _ I r h) fun _ s1 zz0=>?_)
  obtain⟨σ1,H1,I1,q1⟩:=zz0
  exact h2 pins s1 σ1 H1 _ _ Q I1 rr q1
noncomputable def gTup(K:PySem.W.Frag)(n:Nat)(t:TGs):TG:=fun v σ H Q=>∃a xs,v=.ref a/\SqT K H a xs/\xs.length=n/\t xs σ H Q
theorem pg_tup{es:List Expr}{k:Nat}{t:TGs}{n:Nat}(hc:X.calm=true)(h:PGs X es t)
  (hn:(assignEach es X.env).length=n:=by rfl) (hst:(assignEach es X.env).findIdx? (·.1)=none:=by rfl):PG X (.Tuple es k pos) (gTup X.K n t):=by
 intro pins s σ H v u Q I r hw
 obtain⟨a,xs,e1,hq,hl,hw⟩:=hw
 subst e1
 cases r
 obtain⟨its,rv,ht,hz⟩:=I.tuple hq
 refine assign_Tuple_tuple (I.ok.hd hc) ht (by simp[hn,<-hl,rv.length]) hst fun h' hx=>?_
 have I1:Inv X pins σ H { s with heap:=h' }:=I.kept (t':=s.toks) fun b o e=>hx b o (Nat.ne_of_lt (Heap.lt_size e)) e
 exact h pins _ σ H xs _ Q I1 (by simpa using rv) hw
noncomputable def gSub(to ti:TE)(t:TSet):TG:=fun v σ H Q=>to σ H fun o H1=>ti σ H1 fun i H2=>t o i v H2 fun H3=>Q σ H3
theorem pg_sub{o i:Expr}{to ti:TE}{t:TSet}(ho:PE X o to)(hi:PE X i ti)(hs:PSet X t)
  (ha:∀v,assign (.Subscript o i pos) X.env v=(do
   let ov <-holding [v] (eval o X.env)
   let iv <-holding [v,ov] (eval i X.env)
   standAt pos
   holding [v,ov,iv] (setItem ov iv v)
   release [v,ov,iv] []):=by intro _;rfl):PG X (.Subscript o i pos) (gSub to ti t):=by
 intro pins s σ H v u Q I r h
 rw[ha]
 refine wpAny_bind (wpAny_holding (thn (ho pins s σ H _ I h) fun ov s1 zz0=>?_))
 obtain⟨x,H1,I1,r1,q1⟩:=zz0
 refine wpAny_bind (wpAny_holding (thn (hi pins s1 σ H1 _ I1 q1) fun iv s2 zz0=>?_))
 obtain⟨y,H2,I2,r2,q2⟩:=zz0
 refine wpAny_bind (wpAny_standAt (wpAny_bind (wpAny_holding (thn (hs pins s2 σ H2 x y v ov iv u _ I2 r1 r2 r q2) fun _ s3 zz0=>?_))))
 obtain⟨H3,I3,q3⟩:=zz0
 exact wpAny_release ⟨σ,H3,I3,q3⟩
noncomputable def tAsg(te:TE)(g:TG):TS:=fun D σ H=>te σ H fun x H1=>g x σ H1 D.nx
theorem ps_asg{tg e:Expr}{te:TE}{g:TG}(he:PE X e te)(hg:PG X tg g)(hs:swapsWithSole [tg] e pos.line X.env=pure false:=by rfl)(hw:swappedStores [tg] e X.env=pure none:=by rfl)
  (h1:(assignEach [tg] X.env).map (·.2)=[assign tg X.env]:=by rfl):PS X (.Assign [tg] e pos) (tAsg te g):=by
 intro pins s σ H D I h
 refine wpAny_Assign_stores (thn (he pins s σ H _ I h) fun v s1 ⟨x,H1,I1,r1,q1⟩=>?_) hs hw
 rw[h1]
 exact thn (hg pins s1 σ H1 x v _ I1 r1 q1) fun _ s2 q=>q
theorem ps_set{i:Nat}{x:Str}{e:Expr}{te:TE}{pos':Pos}(hN:X.N.Nodup)(hi:X.N[i]?=some x)(hx:Loc X.env.scope x)(he:PE X e te)(hs:swapsWith e (some (.Name x pos')) pos.line X.env=pure false:=by rfl)(hf:X.fn x=true\/X.env.scope.names.lookup x=some .local:=by first|exact .inl rfl|exact .inr rfl|assumption) :
  PS X (.Assign [.Name x pos'] e pos) (tAsg te (gName i)):=by
 intro pins s σ H D I h
 refine wpAny_Assign_Name (thn (he pins s σ H _ I h) fun v s1 ⟨y,H1,I1,r1,q1⟩=>?_) hs
 exact store_ok I1 hN hi hx r1 (fun s2 I2=>⟨_,H1,I2,q1⟩) hf
noncomputable def tAug(i:Nat)(te:TE)(ti:TIp):TS:=fun D σ H=>∃x,σ[i]?=some (some x)/\te σ H fun y H1=>ti x y H1 fun z H2=>D.nx (σ.set i (some z)) H2
theorem ps_aug{i:Nat}{x:Str}{e:Expr}{te:TE}{op:Operator}{ti:TIp}{pos':Pos}(hN:X.N.Nodup)(hi:X.N[i]?=some x)(hx:Loc X.env.scope x)(he:PE X e te)(ho:PIp X op ti)(hf:X.fn x=true\/X.env.scope.names.lookup x=some .local:=by first|exact .inl rfl|exact .inr rfl|assumption) :
  PS X (.AugAssign (.Name x pos') op e pos) (tAug i te ti):=by
 intro pins s σ H D I h
 obtain⟨v,e1,h⟩:=h
 obtain⟨m,hn,hl⟩:=I.loc
 have vis:Vis X.env.scope x:=by rcases hx with k|k;exact .inl k;exact .inr (.inl k)
 obtain⟨u,r,l⟩:=hl i x v hi e1 vis
 refine wpAny_AugAssign_Name ?_
 have go:wpAny (model X.prog X.w) X.A (eval e X.env) (fun w s₂=>wpAny (model X.prog X.w) X.A (inplaceOp op u w) (fun r s₃=>wpAny (model X.prog X.w) X.A (storeName X.env x r) (fun _=>SP X pins D .next) X.xe s₃) X.xe s₂) X.xe s:=by
  refine thn (he pins s σ H _ I h) fun w s1 zz0=>?_
  obtain⟨y,H1,I1,r1,q1⟩:=zz0
  refine thn (ho pins s1 σ H1 v y u w _ I1 r r1 q1) fun z s2 zz0=>?_
  obtain⟨zv,H2,I2,r2,q2⟩:=zz0
  exact store_ok I2 hN hi hx r2 (fun s3 I3=>⟨_,H2,I3,q2⟩) hf
 rcases l with ⟨hk,hm⟩|⟨hk,c,hc,hcell⟩
 ·exact wpAny_loadName_local I.ok.kind hk hn hm go
 ·rcases hk with hk|hk
  ·exact wpAny_loadName_cell I.ok.kind hk hc hcell go
  ·rcases hx with k|k
   ·have:X.env.scope.names.lookup x=some .free:=hk
    rw[k] at this;cases this
   ·have:X.env.scope.names.lookup x=some .free:=hk
    rw[k] at this;cases this
end
section
variable {X:Cx} {pos:Pos}
end
structure It where
 go:Nat->Hp->Prop
 yld:Nat->Hp->V->Hp->Prop
 stop:Nat->Hp->Prop
noncomputable def FpOk(X:Cx)(pins:List (Addr×Obj))(H:Hp)(b:Addr):Prop :=
 H b=none/\b≠X.env.locals/\b∉X.fs/\(b∈X.ex\/X.s₀.heap.objs.size<=b)/\(∀x c,X.env.cells.lookup x=some c->c≠b)/\∀p∈X.pn++pins,p.1≠b
theorem Inv.fpOk{X:Cx}{pins:List (Addr×Obj)}{σ:St}{H H':Hp}{s:Shared}{b:Addr}(I:Inv X pins σ H s)(hb:s.heap.objs.size<=b)(hn:H' b=none):FpOk X pins H' b:=by
 refine⟨hn,Nat.ne_of_gt (Nat.lt_of_lt_of_le I.lt hb),I.nofs hb,.inr (Nat.le_trans I.sz hb),fun x c e z=>?_,fun p hp z=>?_⟩
 ·obtain⟨v,q⟩:=I.cell x c e
  exact absurd (Nat.lt_of_lt_of_le q.lt (by rw[z];exact hb)) (Nat.lt_irrefl _)
 ·exact absurd (Nat.lt_of_lt_of_le (Heap.lt_size (I.pin p hp).1) (by rw[z];exact hb)) (Nat.lt_irrefl _)
structure Turn (P:Program) (w:World) (K:PySem.W.Frag) (tg:Expr) (J:It) (fp:List Addr) (it:Addr) (tn:Nat->Heap->Prop):Prop where
 mem:it∈fp
 obj:∀i h,tn i h->∀b∈fp,∃o,h.get? b=some o/\∀v,o.data≠.cell v
 keep:∀i h h',tn i h->(∀b∈fp,∀o,h.get? b=some o->h'.get? b=some o)->tn i h'
 item:∀(X:Cx),X.prog=P->X.w=w->X.K=K->X.calm=true->∀(i:Nat) (pins:List (Addr×Obj)) (s:Shared) (σ:St) (H:Hp) (E:Value->Shared->Prop),Inv X pins σ H s->(∀b∈fp,FpOk X pins H b)->tn i s.heap->J.go i H ->
  wpAny (model P w) X.A (pyNext (.ref it)) (fun r s1=>∃u,r=some u /\
   wpAny (model P w) X.A (letOwnedTupleGo tg (.ref it) u) (fun _ s2=>∃x H',Inv X pins σ H' s2/\RelV x u/\J.yld i H x H'/\tn (i+1) s2.heap/\∀b∈fp,H' b=none) E s1) E s
 done:∀(X:Cx),X.prog=P->X.w=w->X.K=K->X.calm=true->∀(i:Nat) (pins:List (Addr×Obj)) (s:Shared) (σ:St) (H:Hp) (E:Value->Shared->Prop),Inv X pins σ H s->(∀b∈fp,FpOk X pins H b)->tn i s.heap->J.stop i H ->
  wpAny (model P w) X.A (pyNext (.ref it)) (fun r s1=>r=none/\Inv X pins σ H s1) E s
 self:∀(A:Around) (i:Nat) (s:Shared) (Q:Value->Shared->Prop) (E:Value->Shared->Prop),tn i s.heap->Q (.ref it) s->wpAny (model P w) A (pyIter (.ref it)) Q E s
noncomputable abbrev TI:=St->Hp->(It->Hp->Prop)->Prop
noncomputable def PIE(X:Cx)(pins:List (Addr×Obj))(σ:St)(tg:Expr)(R:It->Hp->Prop)(itv:Value)(s2:Shared):Prop :=
 ∃(it:Addr) (fp:List Addr) (tn:Nat->Heap->Prop) (J:It) (H':Hp),itv=.ref it/\Inv X pins σ H' s2/\Turn X.prog X.w X.K tg J fp it tn/\tn 0 s2.heap/\(∀b∈fp,FpOk X pins H' b)/\R J H'
noncomputable def PI(X:Cx)(tg iter:Expr)(wi:TI):Prop :=
 ∀(pins:List (Addr×Obj)) (s:Shared) (σ:St) (H:Hp) (R:It->Hp->Prop),Inv X pins σ H s->wi σ H R ->
  wpAny (model X.prog X.w) X.A (eval iter X.env) (fun v s1=>wpAny (model X.prog X.w) X.A (pyIter v) (PIE X pins σ tg R) X.xe s1) X.xe s
theorem go_of{M:Model}{A:Around}{E:Value->Shared->Prop}{s:Shared}{tg:Expr}{it:Addr}{u:Value}{o:Obj}{n:String}{vs:Array Value}{Q:Unit->Shared->Prop}(ho:s.heap.get? it=some o)(hc:o.cls=.type n)(hd:o.data=.fields vs)
  (hn:["enumerate","zip","dict_itemiterator","dict_reverseitemiterator","odict_iterator","itertools.zip_longest","itertools.pairwise"].contains n=false) (hQ:Q () s):wpAny M A (letOwnedTupleGo tg (.ref it) u) Q E s:=by
 unfold letOwnedTupleGo
 cases tg<;>first
  | exact wpAny_pure hQ
  | (cases u<;>first
    | exact wpAny_pure hQ
    | (refine wpAny_bind (wpAny_load ho ?_)
       rw[hc,hd]
       show wpAny M A (if (["enumerate","zip","dict_itemiterator","dict_reverseitemiterator","odict_iterator","itertools.zip_longest","itertools.pairwise"].contains n&&vs[0]?==some (rawInt _))=true then _ else _) Q E s
       rw[if_neg (by intro h;rw[hn,Bool.false_and] at h;cases h)]
       exact wpAny_pure hQ))
noncomputable def Itl(K:PySem.W.Frag)(a:Addr):It :=
 ⟨fun i H=>∃xs x,SqL K H a xs/\xs[i]?=some x,fun i H x H'=>H'=H/\∀xs,SqL K H a xs->xs[i]?=some x,fun i H=>∃xs,SqL K H a xs/\xs.length<=i⟩
noncomputable def Itt(K:PySem.W.Frag)(a:Addr):It :=
 ⟨fun i H=>∃xs x,SqT K H a xs/\xs[i]?=some x,fun i H x H'=>H'=H/\∀xs,SqT K H a xs->xs[i]?=some x,fun i H=>∃xs,SqT K H a xs/\xs.length<=i⟩
noncomputable def Itr(lo:Int)(n:Nat):It:=⟨fun i _=>i<n,fun i H x H'=>H'=H/\x=.int (lo+i),fun i _=>n<=i⟩
theorem turn_list{P:Program}{w:World}{K:PySem.W.Frag}{tg:Expr}(a it:Addr):Turn P w K tg (Itl K a) [it] it (fun i h=>h.IsListIter it a i) where
 mem:=by simp
 obj:=fun i h st b hb=>by
  have e:b=it:=by simpa using hb
  subst e
  obtain⟨o,e,c,d⟩:=st
  exact⟨o,e,fun v z=>by rw[d] at z;cases z⟩
 keep:=fun i h h' st k=>st.at fun o e=>k it (by simp) o e
 item:=by
  intro X hP hw hK hc i pins s σ H E I hf st hg
  subst hP hw hK
  obtain⟨xs,x,hq,hx⟩:=hg
  obtain⟨its,rv,p,hz⟩:=I.list hq
  obtain⟨u,hu,ru⟩:=rv.get hx
  obtain⟨f0,f1,f2,f3,f4,f5⟩:=hf it (by simp)
  refine wpAny_pyNext_list_item st p.isList (x:=u) (by simpa using hu) fun h' st' sb=>?_
  have I1:Inv X pins σ H { s with heap:=h' }:=I.turned (t':=s.toks) (fun b o hb e=>(sb.2 b hb).trans e) f0 f1 f3 f4 f5
  obtain⟨o,e,c,d⟩:=id st'
  exact⟨u,rfl,go_of (s:={ s with heap:=h' }) e c d (by decide) ⟨x,H,I1,ru,⟨rfl,fun ys hy=>by rw[I.list_inj hy hq];exact hx⟩,st',fun b hb=>(hf b hb).1⟩⟩
 done:=by
  intro X hP hw hK hc i pins s σ H E I hf st hg
  subst hP hw hK
  obtain⟨xs,hq,hx⟩:=hg
  obtain⟨its,rv,p,hz⟩:=I.list hq
  obtain⟨f0,f1,f2,f3,f4,f5⟩:=hf it (by simp)
  have hl:=rv.length
  exact wpAny_pyNext_list_end (I.ok.hd hc) st p.isList (by simp;omega) fun h' eb=>⟨rfl,I.turned (t':=s.toks) (fun b o hb e=>eb b o hb e) f0 f1 f3 f4 f5⟩
 self:=fun _ _ _ _ _ st h=>wpAny_pyIter_listiter st h
theorem turn_tuple{P:Program}{w:World}{K:PySem.W.Frag}{tg:Expr}(a it:Addr):Turn P w K tg (Itt K a) [it] it (fun i h=>h.IsTupleIter it a i) where
 mem:=by simp
 obj:=fun i h st b hb=>by
  have e:b=it:=by simpa using hb
  subst e
  obtain⟨o,e,c,d⟩:=st
  exact⟨o,e,fun v z=>by rw[d] at z;cases z⟩
 keep:=fun i h h' st k=>st.at fun o e=>k it (by simp) o e
 item:=by
  intro X hP hw hK hc i pins s σ H E I hf st hg
  subst hP hw hK
  obtain⟨xs,x,hq,hx⟩:=hg
  obtain⟨its,rv,p,hz⟩:=I.tuple hq
  obtain⟨u,hu,ru⟩:=rv.get hx
  obtain⟨f0,f1,f2,f3,f4,f5⟩:=hf it (by simp)
  refine wpAny_pyNext_tuple_item st (show s.heap.IsTuple a its.toArray from p) (x:=u) (by simpa using hu) fun h' st' sb=>?_
  have I1:Inv X pins σ H { s with heap:=h' }:=I.turned (t':=s.toks) (fun b o hb e=>(sb.2 b hb).trans e) f0 f1 f3 f4 f5
  obtain⟨o,e,c,d⟩:=id st'
  exact⟨u,rfl,go_of (s:={ s with heap:=h' }) e c d (by decide) ⟨x,H,I1,ru,⟨rfl,fun ys hy=>by rw[I.tuple_inj hy hq];exact hx⟩,st',fun b hb=>(hf b hb).1⟩⟩
 done:=by
  intro X hP hw hK hc i pins s σ H E I hf st hg
  subst hP hw hK
  obtain⟨xs,hq,hx⟩:=hg
  obtain⟨its,rv,p,hz⟩:=I.tuple hq
  obtain⟨f0,f1,f2,f3,f4,f5⟩:=hf it (by simp)
  have hl:=rv.length
  exact wpAny_pyNext_tuple_end (I.ok.hd hc) st (show s.heap.IsTuple a its.toArray from p) (by simp;omega) fun h' eb=>⟨rfl,I.turned (t':=s.toks) (fun b o hb e=>eb b o hb e) f0 f1 f3 f4 f5⟩
 self:=fun _ _ _ _ _ st h=>wpAny_pyIter_tupleiter st h
theorem turn_range{P:Program}{w:World}{K:PySem.W.Frag}{tg:Expr}(it:Addr)(lo:Int)(n:Nat):Turn P w K tg (Itr lo n) [it] it (fun i h=>IsRangeIter h it (lo+(i:Nat)*1) ((n:Int)-(i:Nat)) 1) where
 mem:=by simp
 obj:=fun i h st b hb=>by
  have e:b=it:=by simpa using hb
  subst e
  exact⟨_,st,fun v z=>by
   have z':Data.fields _=Data.cell v:=z
   cases z'⟩
 keep:=fun i h h' st k=>k it (by simp) _ st
 item:=by
  intro X hP hw hK hc i pins s σ H E I hf st hg
  subst hP hw hK
  obtain⟨f0,f1,f2,f3,f4,f5⟩:=hf it (by simp)
  have W:=Walks.range (prog:=X.prog) (w:=X.w) (I.ok.hd hc) it lo 1 n
  refine W.item i s _ _ hg st fun v h' tk hv st' kk=>?_
  obtain⟨t,rfl⟩:=hv
  have I1:Inv X pins σ H { s with heap:=h',toks:=tk }:=I.turned (fun b o hb e=>kk b o (by simpa using hb) e) f0 f1 f3 f4 f5
  refine⟨_,rfl,go_of (s:={ s with heap:=h',toks:=tk }) (n:="range_iterator") st' rfl rfl (by decide) ⟨.int (lo+i),H,I1,⟨t,?_⟩,⟨rfl,rfl⟩,st',fun b hb=>(hf b hb).1⟩⟩
  rw[Int.mul_one]
 done:=by
  intro X hP hw hK hc i pins s σ H E I hf st hg
  subst hP hw hK
  obtain⟨f0,f1,f2,f3,f4,f5⟩:=hf it (by simp)
  exact wpAny_pyNext_range_end (I.ok.hd hc) st (by have:n<=i:=hg;omega) fun h' eb=>⟨rfl,I.turned (t':=s.toks) (fun b o hb e=>eb b o hb e) f0 f1 f3 f4 f5⟩
 self:=fun _ _ _ _ _ st h=>wpAny_pyIter_rangeiter st h
end L2
namespace L2
open PySem PySem.Spec PyProof.Rows
section
variable {X:Cx} {tg:Expr}
noncomputable def iList(K:PySem.W.Frag)(tl:TE):TI:=fun σ H R=>tl σ H fun x H1=>∃a,x=.ref a/\(∃xs,SqL K H1 a xs)/\R (Itl K a) H1
noncomputable def iTup(K:PySem.W.Frag)(tl:TE):TI:=fun σ H R=>tl σ H fun x H1=>∃a,x=.ref a/\(∃xs,SqT K H1 a xs)/\R (Itt K a) H1
theorem pi_list{l:Expr}{tl:TE}(hl:PE X l tl):PI X tg l (iList X.K tl):=by
 intro pins s σ H R I h
 refine thn (hl pins s σ H _ I h) fun v s1 zz0=>?_
 obtain⟨x,H1,I1,r1,q1⟩:=zz0
 obtain⟨a,e,⟨xs,hq⟩,q⟩:=q1
 subst e
 cases r1
 obtain⟨its,rv,p,hz⟩:=I1.list hq
 refine wpAny_pyIter_list p.isList ?_
 refine⟨s1.heap.objs.size,[s1.heap.objs.size],_,_,H1,rfl,I1.kept (t':=s1.toks) fun b o e=>Heap.get?_push_of_some _ e,turn_list a _,⟨_,Heap.get?_push_size _ rfl,rfl,rfl⟩,fun b hb=>?_,q⟩
 have e:b=s1.heap.objs.size:=by simpa using hb
 subst e
 exact I1.fpOk (Nat.le_refl _) (I1.hok.fresh (Nat.le_refl _))
theorem pi_tup{l:Expr}{tl:TE}(hl:PE X l tl):PI X tg l (iTup X.K tl):=by
 intro pins s σ H R I h
 refine thn (hl pins s σ H _ I h) fun v s1 zz0=>?_
 obtain⟨x,H1,I1,r1,q1⟩:=zz0
 obtain⟨a,e,⟨xs,hq⟩,q⟩:=q1
 subst e
 cases r1
 obtain⟨its,rv,p,hz⟩:=I1.tuple hq
 refine wpAny_pyIter_tuple (show s1.heap.IsTuple a its.toArray from p) ?_
 refine⟨s1.heap.objs.size,[s1.heap.objs.size],_,_,H1,rfl,I1.kept (t':=s1.toks) fun b o e=>Heap.get?_push_of_some _ e,turn_tuple a _,⟨_,Heap.get?_push_size _ rfl,rfl,rfl⟩,fun b hb=>?_,q⟩
 have e:b=s1.heap.objs.size:=by simpa using hb
 subst e
 exact I1.fpOk (Nat.le_refl _) (I1.hok.fresh (Nat.le_refl _))
theorem range_it{pins:List (Addr×Obj)}{σ:St}{H:Hp}{s:Shared}{R:It->Hp->Prop}{E:Value->Shared->Prop}{lo hi:Int}{t u v:Tok}{tk:Nat}(I:Inv X pins σ H s)(h1:-(2 ^ 62)<=lo)(h2:lo<2 ^ 62)(h3:-(2 ^ 62)<=hi)(h4:hi<2 ^ 62)
  (q:R (Itr lo (hi-lo).toNat) H):wpAny (model X.prog X.w) X.A (pyIter (.ref s.heap.objs.size)) (PIE X pins σ tg R) E { s with heap:=s.heap.push { cls:=.type "range",data:=.fields #[.int lo t,.int hi u,.int 1 v] },toks:=tk }:=by
 refine wpAny_pyIter_range (IsRange.new ..) (small_one h1 h2 h3 h4) ?_
 have I1:Inv X pins σ H { s with heap:=s.heap.push { cls:=.type "range",data:=.fields #[.int lo t,.int hi u,.int 1 v] },toks:=tk }:=I.kept fun b o e=>Heap.get?_push_of_some _ e
 refine⟨(s.heap.push { cls:=.type "range",data:=.fields #[.int lo t,.int hi u,.int 1 v] }).objs.size,[(s.heap.push { cls:=.type "range",data:=.fields #[.int lo t,.int hi u,.int 1 v] }).objs.size],_,_,H,rfl,
  I1.kept (t':=tk) fun b o e=>Heap.get?_push_of_some _ e,turn_range _ lo (hi-lo).toNat,?_,fun b hb=>?_,q⟩
 ·have e1:lo+((0:Nat):Int)*1=lo:=by simp
  have e2:(((hi-lo).toNat:Nat):Int)-((0:Nat):Int)=Builtin.Range.rangeSize lo hi 1:=by rw[rangeSize_one];split<;>omega
  show IsRangeIter _ _ (lo+((0:Nat):Int)*1) ((((hi-lo).toNat:Nat):Int)-((0:Nat):Int)) 1
  rw[e1,e2]
  exact Heap.get?_push_size _ rfl
 ·have e:b=(s.heap.push { cls:=.type "range",data:=.fields #[.int lo t,.int hi u,.int 1 v] }).objs.size:=by simpa using hb
  subst e
  exact I1.fpOk (Nat.le_refl _) (I1.hok.fresh (Nat.le_refl _))
noncomputable def iRng1(ta:TA):TI:=fun σ H R=>ta σ H fun vs H1=>∃j:Int,vs=[.int j] /\ -(2 ^ 62)<=j/\j<2 ^ 62/\R (Itr 0 j.toNat) H1
noncomputable def iRng2(ta:TA):TI:=fun σ H R=>ta σ H fun vs H1=>∃i j:Int,vs=[.int i,.int j]/\(-(2 ^ 62)<=i/\i<2 ^ 62 /\ -(2 ^ 62)<=j/\j<2 ^ 62)/\R (Itr i (j-i).toNat) H1
theorem pi_range1{a:Expr}{ta:TA}{p pos:Pos}(hg:Gl X "range")(hm:X.mg "range" = none)(ha:PA X [a] ta)(hs:starEach [a] X.env=[(false,eval a X.env)]:=by rfl):PI X tg (.Call (.Name "range" p) [a] [] pos) (iRng1 ta):=by
 intro pins s σ H R I h
 refine Call_ (ld_blt I hg hm boot_range (PyProof.Rows.callWith_type1 (thn (ha pos pins s σ H _ I h) fun us s1 zz0=>?_) hs rfl))
 obtain⟨vs,H1,I1,r1,q1⟩:=zz0
 obtain⟨j,e,q1,q2,q⟩:=q1
 subst e
 cases r1 with
 | cons r rr =>
  cases rr
  obtain⟨t,rfl⟩:=r
  exact call_range_1 (range_it I1 (by omega) (by omega) q1 q2 (by simpa using q))
theorem pi_range2{a b:Expr}{ta:TA}{p pos:Pos}(hg:Gl X "range")(hm:X.mg "range" = none)(ha:PA X [a,b] ta)(hs:starEach [a,b] X.env=[(false,eval a X.env),(false,eval b X.env)]:=by rfl)(hs2:starEach [b] X.env=[(false,eval b X.env)]:=by rfl) :
  PI X tg (.Call (.Name "range" p) [a,b] [] pos) (iRng2 ta):=by
 intro pins s σ H R I h
 refine Call_ (ld_blt I hg hm boot_range (PyProof.Rows.callWith_type1 (thn (ha pos pins s σ H _ I h) fun us s1 ⟨vs,H1,I1,r1,q1⟩=>?_) (by rw[hs,hs2]) (by rw[hs2];rfl)))
 obtain⟨i,j,e,⟨q1,q2,q3,q4⟩,q⟩:=q1
 subst e
 cases r1 with
 | cons r rr =>
  cases rr with
  | cons r' rr =>
   cases rr
   obtain⟨t,rfl⟩:=r
   obtain⟨t',rfl⟩:=r'
   exact call_range_2 (range_it I1 q1 q2 q3 q4 q)
noncomputable def tFor(wi:TI)(g:TG)(tb:TS):TS:=fun D σ H=>wi σ H fun J H1=>∃W:Nat->Nat->St->Hp->Prop,(∃m,W 0 m σ H1)/\∀i m σ H,W i m σ H ->
 (J.stop i H/\D.nx σ H)\/(J.go i H/\∃N:St->Hp->Prop,(∀σ' H',N σ' H'->∃m',m'<m/\W (i+1) m' σ' H')/\∀x H',J.yld i H x H'->g x σ H' fun σ2 H2=>tb { D with nx:=N,ct:=N,bk:=D.nx } σ2 H2)
noncomputable def pinsAt(fp:List Addr)(h:Heap):List (Addr×Obj):=fp.filterMap fun b=>(h.get? b).map fun o=>(b,o)
theorem mem_pinsAt{fp:List Addr}{h:Heap}{b:Addr}{o:Obj}(hb:b∈fp)(e:h.get? b=some o):(b,o)∈pinsAt fp h:=List.mem_filterMap.mpr ⟨b,hb,by rw[e];rfl⟩
theorem of_pinsAt{fp:List Addr}{h:Heap}{p:Addr×Obj}(hp:p∈pinsAt fp h):p.1∈fp/\h.get? p.1=some p.2:=by
 obtain⟨b,hb,e⟩:=List.mem_filterMap.mp hp
 cases q:h.get? b with
 | none=>rw[q] at e;cases e
 | some o =>
  rw[q] at e
  have e':(b,o)=p:=Option.some.inj e
  subst e'
  exact⟨hb,q⟩
theorem Inv.pinned{pins:List (Addr×Obj)}{σ:St}{H:Hp}{s:Shared}{fp:List Addr}(I:Inv X pins σ H s)(hf:∀b∈fp,FpOk X pins H b)(ho:∀b∈fp,∃o,s.heap.get? b=some o/\∀v,o.data≠.cell v):Inv X (pins++pinsAt fp s.heap) σ H s :=
 I.pins_of fun p hp=>(List.mem_append.mp hp).elim (fun z=>I.pin p (List.mem_append_right _ z)) fun z=>by
  obtain⟨hb,e⟩:=of_pinsAt z
  obtain⟨f0,f1,f2,_⟩:=hf p.1 hb
  obtain⟨o,e',d⟩:=ho p.1 hb
  rw[e] at e';cases e'
  exact⟨e,f0,f1,f2,d⟩
theorem Inv.unpinned{pins pl:List (Addr×Obj)}{σ:St}{H:Hp}{s:Shared}(I:Inv X (pins++pl) σ H s):Inv X pins σ H s:=I.pins_of fun p hp=>I.pin p (List.mem_append_right _ (List.mem_append_left _ hp))
theorem ps_for{iter:Expr}{body:List Stmt}{wi:TI}{g:TG}{tb:TS}{pos:Pos}(hp:PassesOwn (model X.prog X.w) X.A X.env X.xe)(hc:X.calm=true)(hi:PI X tg iter wi)(hg:PG X tg g)(hb:PSs X body tb)
  (hs:∀x,foldedSetIterable iter X.env x=pure x:=by intro _;rfl):PS X (.For tg iter body [] pos) (tFor wi g tb):=by
 intro pins s σ H D I h
 refine wpAny_For (thn (hi pins s σ H _ I h) fun v s1 h1=>thn h1 fun itv s2 h2=>?_) hs
 obtain⟨it,fp,tn,J,H2,e,I2,T,st2,f2,W,⟨m0,w0⟩,turn⟩:=h2
 subst e
 have stat:∀{H':Hp},(∀b∈fp,H' b=none)->∀b∈fp,FpOk X pins H' b:=fun hn b hb=>⟨hn b hb,(f2 b hb).2⟩
 refine codeAny_forLoop_any (fun n s'=>∃i σ' H',Inv X pins σ' H' s'/\tn i s'.heap/\(∀b∈fp,H' b=none)/\W i n σ' H') ?_ m0 ⟨0,σ,H2,I2,st2,fun b hb=>(f2 b hb).1,w0⟩
 rintro n s3 ⟨i,σ3,H3,I3,st3,fr3,w3⟩
 rcases turn i n σ3 H3 w3 with ⟨stop,qn⟩|⟨go,N,hN,step⟩
 ·refine wpAny_passesOwn hp (thn (T.done X rfl rfl rfl hc i pins s3 σ3 H3 X.xe I3 (stat fr3) st3 stop) fun r s4 zz0=>?_)
  obtain⟨hr,I4⟩:=zz0
  subst hr
  exact wpAny_execs_nil ⟨σ3,H3,I4,qn⟩
 ·refine wpAny_passesOwn hp (thn (T.item X rfl rfl rfl hc i pins s3 σ3 H3 X.xe I3 (stat fr3) st3 go) fun r s4 zz0=>?_)
  obtain⟨u,hr,h4⟩:=zz0
  subst hr
  refine wpAny_passesOwn hp (thn h4 fun _ s5 zz0=>?_)
  obtain⟨x,H5,I5,r5,y5,st5,fr5⟩:=zz0
  have I5':=I5.pinned (stat fr5) (T.obj _ _ st5)
  refine wpAny_passesOwn hp (thn (hg _ s5 σ3 H5 x u _ I5' r5 (step x H5 y5)) fun _ s6 zz0=>?_)
  obtain⟨σ6,H6,I6,q6⟩:=zz0
  refine wpAny_passesOwn hp (thn (hb _ s6 σ6 H6 _ I6 q6) fun f s7 q7=>?_)
  have again:∀{σ7:St} {H7:Hp},Inv X (pins++pinsAt fp s5.heap) σ7 H7 s7->N σ7 H7->∃m,m<n/\∃i σ' H',Inv X pins σ' H' s7/\tn i s7.heap/\(∀b∈fp,H' b=none)/\W i m σ' H':=fun {σ7 H7} I7 n7=>by
   obtain⟨m',hm,w7⟩:=hN σ7 H7 n7
   refine⟨m',hm,i+1,σ7,H7,I7.unpinned,T.keep _ _ _ st5 fun b hb o e=>(I7.pin (b,o) (List.mem_append_right _ (List.mem_append_right _ (mem_pinsAt hb e)))).1,fun b hb=>?_,w7⟩
   obtain⟨o,e,d⟩:=T.obj _ _ st5 b hb
   exact(I7.pin (b,o) (List.mem_append_right _ (List.mem_append_right _ (mem_pinsAt hb e)))).2.1
  cases f with
  | next=>obtain⟨σ7,H7,I7,n7⟩:=q7;exact again I7 n7
  | cont=>obtain⟨σ7,H7,I7,n7⟩:=q7;exact again I7 n7
  | brk=>obtain⟨σ7,H7,I7,q7⟩:=q7;exact⟨σ7,H7,I7.unpinned,q7⟩
  | ret v=>obtain⟨x7,σ7,H7,I7,r7,q7⟩:=q7;exact⟨x7,σ7,H7,I7.unpinned,r7,q7⟩
end
end L2
namespace L2
open PySem PySem.Spec PyProof.Rows
noncomputable abbrev R2:=V->V->Hp->VK->Prop
noncomputable def OpR(X:Cx)(f:Value->Value->Sem Value)(r:R2):Prop :=
 ∀(pins:List (Addr×Obj)) (s:Shared) (σ:St) (H:Hp) (x y:V) (v u:Value) (Q:VK),Inv X pins σ H s->RelV x v->RelV y u->r x y H Q ->
  wpAny (model X.prog X.w) X.A (f v u) (EP X pins σ Q) X.xe s
noncomputable def UnR(X:Cx)(f:Value->Sem Value)(r:V->Hp->VK->Prop):Prop :=
 ∀(pins:List (Addr×Obj)) (s:Shared) (σ:St) (H:Hp) (x:V) (v:Value) (Q:VK),Inv X pins σ H s->RelV x v->r x H Q ->
  wpAny (model X.prog X.w) X.A (f v) (EP X pins σ Q) X.xe s
noncomputable def CallR(X:Cx)(f:Value)(r:List V->Hp->VK->Prop):Prop :=
 ∀(pins:List (Addr×Obj)) (s:Shared) (σ:St) (H:Hp) (xs:List V) (us:List Value) (Q:VK),Inv X pins σ H s->Vals xs us->r xs H Q ->
  wpAny (model X.prog X.w) X.A (call f us) (EP X pins σ Q) X.xe s
noncomputable def TruR(X:Cx)(r:V->Hp->(Bool->Hp->Prop)->Prop):Prop :=
 ∀(pins:List (Addr×Obj)) (s:Shared) (σ:St) (H:Hp) (x:V) (v:Value) (Q:Bool->Hp->Prop),Inv X pins σ H s->RelV x v->r x H Q ->
  wpAny (model X.prog X.w) X.A (truthy v) (TP X pins σ Q) X.xe s
noncomputable def tOp(r:R2)(ta tb:TE):TE:=fun σ H Q=>ta σ H fun x H1=>tb σ H1 fun y H2=>r x y H2 Q
noncomputable def tUn(r:V->Hp->VK->Prop)(ta:TE):TE:=fun σ H Q=>ta σ H fun x H1=>r x H1 Q
noncomputable def rI(C:Int->Int->Prop)(g:Int->Int->V):R2:=fun x y H Q=>∃i j,x=.int i/\y=.int j/\C i j/\Q (g i j) H
noncomputable def rI0(g:Int->Int->V):R2:=fun x y H Q=>∃i j,x=.int i/\y=.int j/\Q (g i j) H
noncomputable def rU(g:Int->V):V->Hp->VK->Prop:=fun x H Q=>∃i,x=.int i/\Q (g i) H
section
variable {X:Cx} {a b c:Expr} {ta tb tc:TE} {pos:Pos}
theorem binT(ha:PE X a ta)(hb:PE X b tb){pins:List (Addr×Obj)}{s:Shared}{σ:St}{H:Hp}{R:V->V->Hp->Prop}(I:Inv X pins σ H s)
  (h:ta σ H fun x H1=>tb σ H1 fun y H2=>R x y H2) {Q:Value->Shared->Prop} {f:Value->Value->Sem Value}
  (hf:∀v u s2 x y H2,Inv X pins σ H2 s2->RelV x v->RelV y u->R x y H2->wpAny (model X.prog X.w) X.A (f v u) Q X.xe s2) :
  wpAny (model X.prog X.w) X.A (eval a X.env) (fun v s₁=>wpAny (model X.prog X.w) X.A (eval b X.env) (fun u s₂=>wpAny (model X.prog X.w) X.A (f v u) Q X.xe s₂) X.xe s₁) X.xe s:=by
 refine thn (ha pins s σ H _ I h) fun v s1 zz0=>?_
 obtain⟨x,H1,I1,r1,q1⟩:=zz0
 refine thn (hb pins s1 σ H1 _ I1 q1) fun u s2 zz0=>?_
 obtain⟨y,H2,I2,r2,q2⟩:=zz0
 exact hf v u s2 x y H2 I2 r1 r2 q2
theorem pe_op{op:Operator}{r:R2}(ho:OpR X (binaryOp op) r)(ha:PE X a ta)(hb:PE X b tb):PE X (.BinOp a op b pos) (tOp r ta tb):=by
 intro pins s σ H Q I h
 exact wpAny_BinOp (binT ha hb I h fun v u s2 x y H2 I2 rx ry q=>ho pins s2 σ H2 x y v u Q I2 rx ry q)
theorem pe_un{op:UnaryOp}{r:V->Hp->VK->Prop}(ho:UnR X (unaryOp op) r)(ha:PE X a ta):PE X (.UnaryOp op a pos) (tUn r ta):=by
 intro pins s σ H Q I h
 exact UnaryOp_ (thn (ha pins s σ H _ I h) fun v s1 ⟨x,H1,I1,r1,q1⟩=>ho pins s1 σ H1 x v Q I1 r1 q1)
theorem opI{f:Value->Value->Sem Value}{C:Int->Int->Prop}{g:Int->Int->Int}
  (rule:∀(i j:Int) (t u:Tok) (s:Shared) (Q:Value->Shared->Prop) (E:Value->Shared->Prop),C i j->Q (.int (g i j) s.toks) { s with toks:=s.toks+1 }->wpAny (model X.prog X.w) X.A (f (.int i t) (.int j u)) Q E s) :
  OpR X f (rI C fun i j=>.int (g i j)):=by
 intro pins s σ H x y v u Q I rx ry h
 obtain⟨i,j,rfl,rfl,hc,q⟩:=h
 obtain⟨t,rfl⟩:=rx
 obtain⟨t',rfl⟩:=ry
 exact rule i j t t' s _ _ hc ⟨.int (g i j),H,I.tok _,⟨_,rfl⟩,q⟩
theorem opI0{f:Value->Value->Sem Value}{g:Int->Int->Int}
  (rule:∀(i j:Int) (t u:Tok) (s:Shared) (Q:Value->Shared->Prop) (E:Value->Shared->Prop),Q (.int (g i j) s.toks) { s with toks:=s.toks+1 }->wpAny (model X.prog X.w) X.A (f (.int i t) (.int j u)) Q E s) :
  OpR X f (rI0 fun i j=>.int (g i j)):=by
 intro pins s σ H x y v u Q I rx ry h
 obtain⟨i,j,rfl,rfl,q⟩:=h
 obtain⟨t,rfl⟩:=rx
 obtain⟨t',rfl⟩:=ry
 exact rule i j t t' s _ _ ⟨.int (g i j),H,I.tok _,⟨_,rfl⟩,q⟩
theorem opB0{f:Value->Value->Sem Value}{g:Int->Int->Bool}
  (rule:∀(i j:Int) (t u:Tok) (s:Shared) (Q:Value->Shared->Prop) (E:Value->Shared->Prop),Q (.bool (g i j)) s->wpAny (model X.prog X.w) X.A (f (.int i t) (.int j u)) Q E s) :
  OpR X f (rI0 fun i j=>.bl (g i j)):=by
 intro pins s σ H x y v u Q I rx ry h
 obtain⟨i,j,rfl,rfl,q⟩:=h
 obtain⟨t,rfl⟩:=rx
 obtain⟨t',rfl⟩:=ry
 exact rule i j t t' s _ _ ⟨.bl (g i j),H,I,rfl,q⟩
noncomputable def CPow(i j:Int):Prop:=0<=j/\j<=1000000/\i.natAbs<2 ^ 64
noncomputable def CMul(i j:Int):Prop:=(-(2 ^ 64)<i/\i<2 ^ 64)\/(-(2 ^ 64)<j/\j<2 ^ 64)
theorem CMul.ok{i j:Int}(h:CMul i j):IntMulOk i j:=by
 rcases h with ⟨h1,h2⟩|⟨h1,h2⟩
 ·exact .of_left (intBits_le_64 h1 h2)
 ·exact .of_right (intBits_le_64 h1 h2)
theorem op_add:OpR X (binaryOp .Add) (rI0 fun i j=>.int (i+j)):=opI0 fun _ _ _ _ _ _ _ q=>add_int q
theorem op_sub:OpR X (binaryOp .Sub) (rI0 fun i j=>.int (i-j)):=opI0 fun _ _ _ _ _ _ _ q=>sub_int q
theorem op_mul:OpR X (binaryOp .Mult) (rI CMul fun i j=>.int (i*j)):=opI fun _ _ _ _ _ _ _ hc q=>mul_int q hc.ok
theorem op_mod:OpR X (binaryOp .Mod) (rI (fun _ j=>0<j) fun i j=>.int (i%j)):=opI fun i j _ _ _ _ _ hc q=>by
 have h1:(0:Int)<j:=hc
 exact mod_int' (by omega) (by rw[Int.fmod_eq_emod_of_nonneg i (by omega)];exact q)
theorem op_pow:OpR X (binaryOp .Pow) (rI CPow fun i j=>.int (i ^ j.toNat)):=opI fun _ _ _ _ _ _ _ hc q=>pow_int_small hc.1 hc.2.1 hc.2.2 q
theorem iop_add:OpR X (inplaceOp .Add) (rI0 fun i j=>.int (i+j)):=opI0 fun _ _ _ _ _ _ _ q=>iadd_int q
theorem iop_sub:OpR X (inplaceOp .Sub) (rI0 fun i j=>.int (i-j)):=opI0 fun _ _ _ _ _ _ _ q=>isub_int q
theorem iop_mul:OpR X (inplaceOp .Mult) (rI CMul fun i j=>.int (i*j)):=opI fun _ _ _ _ _ _ _ hc q=>imul_int q hc.ok
theorem iop_mod:OpR X (inplaceOp .Mod) (rI (fun _ j=>0<j) fun i j=>.int (i%j)):=opI fun i j _ _ _ _ _ hc q=>by
 have h1:(0:Int)<j:=hc
 exact imod_int (by omega) (by rw[Int.fmod_eq_emod_of_nonneg i (by omega)];exact q)
theorem unI{f:Value->Sem Value}{g:Int->Int}
  (rule:∀(i:Int) (t:Tok) (s:Shared) (Q:Value->Shared->Prop) (E:Value->Shared->Prop),Q (.int (g i) s.toks) { s with toks:=s.toks+1 }->wpAny (model X.prog X.w) X.A (f (.int i t)) Q E s) :
  UnR X f (rU fun i=>.int (g i)):=by
 intro pins s σ H x v Q I rx h
 obtain⟨i,rfl,q⟩:=h
 obtain⟨t,rfl⟩:=rx
 exact rule i t s _ _ ⟨.int (g i),H,I.tok _,⟨_,rfl⟩,q⟩
theorem un_neg:UnR X (unaryOp .USub) (rU fun i=>.int (-i)):=unI fun _ _ _ _ _ q=>neg_int q
end
section
variable {X:Cx} {a b c:Expr} {ta tb tc:TE} {pos:Pos}
theorem fin_bl{pins:List (Addr×Obj)}{σ:St}{H:Hp}{s:Shared}{Q:VK}{k k':Bool}(I:Inv X pins σ H s)(q:Q (.bl k) H)(e:k=k'):EP X pins σ Q (.bool k') s:=by
 subst e
 exact⟨.bl k,H,I,rfl,q⟩
theorem op_lt:OpR X (compareOp .Lt) (rI0 fun i j=>.bl (decide (i<j))):=opB0 fun _ _ _ _ _ _ _ q=>lt_int q
theorem op_le:OpR X (compareOp .LtE) (rI0 fun i j=>.bl (decide (i<=j))):=opB0 fun _ _ _ _ _ _ _ q=>le_int q
theorem op_gt:OpR X (compareOp .Gt) (rI0 fun i j=>.bl (decide (j<i))):=opB0 fun _ _ _ _ _ _ _ q=>gt_int q
theorem op_ge:OpR X (compareOp .GtE) (rI0 fun i j=>.bl (decide (j<=i))):=opB0 fun _ _ _ _ _ _ _ q=>ge_int q
theorem op_in_str:OpR X (compareOp .In) (fun x y H Q=>∃i j,x=.str i/\y=.str j/\Q (.bl (!(Builtin.Str.occurrences j i 0 j.length 1).isEmpty)) H):=by
 intro pins s σ H x y v u Q I rx ry h
 obtain⟨i,j,rfl,rfl,q⟩:=h
 obtain⟨t,rfl⟩:=rx
 obtain⟨t',rfl⟩:=ry
 exact in_str (fin_bl I q rfl)
theorem op_isN:OpR X (compareOp .Is) (fun x y H Q=>y=.non/\Q (.bl (decide (x=.non))) H):=by
 intro pins s σ H x y v u Q I rx ry h
 obtain⟨rfl,q⟩:=h
 cases ry
 refine is_none_gen (fin_bl I q ?_)
 cases x<;>first
  | (cases rx;rfl)
  | (obtain⟨t,rfl⟩:=rx;rfl)
theorem op_notN:OpR X (compareOp .IsNot) (fun x y H Q=>y=.non/\Q (.bl (!decide (x=.non))) H):=by
 intro pins s σ H x y v u Q I rx ry h
 obtain⟨rfl,q⟩:=h
 cases ry
 refine isnot_none_gen (fin_bl I q ?_)
 cases x<;>first
  | (cases rx;rfl)
  | (obtain⟨t,rfl⟩:=rx;rfl)
theorem op_notin_str:OpR X (compareOp .NotIn) (fun x y H Q=>∃i j,x=.str i/\y=.str j/\Q (.bl (!(!(Builtin.Str.occurrences j i 0 j.length 1).isEmpty))) H):=by
 intro pins s σ H x y v u Q I rx ry h
 obtain⟨i,j,rfl,rfl,q⟩:=h
 obtain⟨t,rfl⟩:=rx
 obtain⟨t',rfl⟩:=ry
 exact notIn_str (fin_bl I q rfl)
theorem nomark(b:Expr){op:CmpOp}(h:op≠.In:=by decide)(h2:op≠.NotIn:=by decide):behindInMarks op b=false:=by
 have e1:(op==CmpOp.In)=false:=by cases op<;>first|rfl|exact absurd rfl h
 have e2:(op==CmpOp.NotIn)=false:=by cases op<;>first|rfl|exact absurd rfl h2
 cases b<;>simp[behindInMarks,e1,e2]
theorem pe_cmpR{op:CmpOp}{r:R2}(ho:OpR X (compareOp op) r)(ha:PE X a ta)(hb:PE X b tb)(hm:behindInMarks op b=false):PE X (.Compare a [op] [b] pos) (tOp r ta tb):=by
 intro pins s σ H Q I h
 exact wpAny_Compare1 (binT ha hb I h fun v u s2 x y H2 I2 rx ry q=>ho pins s2 σ H2 x y v u Q I2 rx ry q) hm
noncomputable def tTest(t:TE):TT:=fun σ H Q=>t σ H fun x H'=>∃k,x=.bl k/\Q k H'
theorem pt_cmpR{op:CmpOp}{r:R2}(ho:OpR X (compareOp op) r)(ha:PE X a ta)(hb:PE X b tb)(hm:behindInMarks op b=false):PT X (.Compare a [op] [b] pos) (tTest (tOp r ta tb)):=by
 intro pins s σ H Q I h
 refine wpAny_isTrue_Compare1 (thn (ha pins s σ H _ I h) fun v s1 ⟨x,H1,I1,r1,q1⟩=>thn (hb pins s1 σ H1 _ I1 q1) fun u s2 ⟨y,H2,I2,r2,q2⟩ =>
  thn (ho pins s2 σ H2 x y v u _ I2 r1 r2 q2) fun c s3 ⟨z,H3,I3,r3,k,e,q3⟩=>?_) hm
 subst e
 cases r3
 exact wpAny_truthy_bool ⟨H3,I3,q3⟩
noncomputable def TruV(K:PySem.W.Frag)(x:V)(H:Hp)(k:Bool):Prop :=
 match x with
 | .non=>k=false
 | .bl b=>k=b
 | .int i=>k=(i != 0)
 | .str y=>y.length<=sizeLine/\k=((y.length:Int) != 0)
 | .byt y=>y.size<=sizeLine/\k=((y.size:Int) != 0)
 | .ref p=>(∃xs,SqL K H p xs/\k = !xs.isEmpty)\/(∃xs,SqT K H p xs/\k = !xs.isEmpty)\/∃kvs,H p=some (.dK kvs)/\k = !kvs.isEmpty
 | _=>False
theorem isEmpty_kv{κ:Type}{kvs:List (κ × V)}{vs:List (κ × Value)}(r:KV kvs vs):(!vs.isEmpty) = !kvs.isEmpty:=by
 cases r<;>rfl
theorem isEmpty_of{xs:List V}{its:List Value}(r:Vals xs its):(!its.toArray.isEmpty) = !xs.isEmpty:=by
 cases r<;>simp
theorem line63:(sizeLine:Nat)<2 ^ 63:=by rw[sizeLine_eq];decide
theorem tru_ok:TruR X (fun x H Q=>∃k,TruV X.K x H k/\Q k H):=by
 intro pins s σ H x v Q I rx h
 obtain⟨k,e,q⟩:=h
 have hl:=line63
 have hs:sizeLine=16777216:=sizeLine_eq
 cases x with
 | non =>
  cases rx
  have e':k=false:=e
  subst e'
  exact truthy_none ⟨H,I,q⟩
 | bl b =>
  cases rx
  have e':k=b:=e
  subst e'
  exact wpAny_truthy_bool ⟨H,I,q⟩
 | int i =>
  obtain⟨t,rfl⟩:=rx
  have e':k=(i != 0):=e
  subst e'
  exact PySem.P.truthy_int ⟨H,I,q⟩
 | str y =>
  obtain⟨t,rfl⟩:=rx
  obtain⟨hy,e'⟩:y.length<=sizeLine/\k=((y.length:Int) != 0):=e
  subst e'
  exact PySem.P.truthy_str (by omega) ⟨H,I.tok _,q⟩
 | byt y =>
  obtain⟨t,rfl⟩:=rx
  obtain⟨hy,e'⟩:y.size<=sizeLine/\k=((y.size:Int) != 0):=e
  subst e'
  exact PySem.W.truthy_bytes (by omega) ⟨H,I.tok _,q⟩
 | ref p =>
  cases rx
  have e':(∃xs,SqL X.K H p xs/\k = !xs.isEmpty)\/(∃xs,SqT X.K H p xs/\k = !xs.isEmpty)\/∃kvs,H p=some (.dK kvs)/\k = !kvs.isEmpty:=e
  rcases e' with ⟨xs,hx,e'⟩|⟨xs,hx,e'⟩|⟨kvs,hx,e'⟩
  ·subst e'
   obtain⟨its,r,pl,hz⟩:=I.list hx
   have hlen:=r.length
   exact wpAny_truthy_list pl.isList (by simp only[List.size_toArray];omega) ⟨H,I.tok _,by rw[isEmpty_of r];exact q⟩
  ·subst e'
   obtain⟨its,r,pl,hz⟩:=I.tuple hx
   have hlen:=r.length
   exact truthy_tuple pl (by simp only[List.size_toArray];omega) ⟨H,I.tok _,by rw[isEmpty_of r];exact q⟩
  ·subst e'
   obtain⟨hz,hS,vs,r,m⟩:kvs.length<=sizeLine/\(p==sysModules)=false/\∃vs,KV kvs vs/\s.heap.DictOf (mixKind X.prog X.w) p vs:=I.hok p _ hx
   have hlen:kvs.length=vs.length:=Paired.length r
   exact wpAny_truthy_dict hS m (by omega) ⟨H,I.tok _,by rw[isEmpty_kv r];exact q⟩
 | _=>exact(show False from e).elim
theorem pt_truth(ha:PE X a ta)(he:∀whole,isTrue a X.env whole=(do let v <-whole;standAt a.pos;holding [v] (truthy v))) :
  PT X a (fun σ H Q=>ta σ H fun x H'=>∃k,TruV X.K x H' k/\Q k H'):=by
 intro pins s σ H Q I h
 exact isTrue_plain (thn (ha pins s σ H _ I h) fun v s1 ⟨x,H1,I1,r1,q1⟩=>tru_ok pins s1 σ H1 x v Q I1 r1 q1) (he _)
theorem op_add_str:OpR X (binaryOp .Add) (fun x y H Q=>∃i j,x=.str i/\y=.str j/\i.length+j.length<=sizeLine/\Q (.str (i++j)) H):=by
 intro pins s σ H x y v u Q I rx ry h
 obtain⟨i,j,rfl,rfl,hz,q⟩:=h
 obtain⟨t,rfl⟩:=rx
 obtain⟨t',rfl⟩:=ry
 exact add_str (fun t' tk=>⟨.str (i++j),H,I.tok _,⟨_,rfl⟩,q⟩) hz
theorem vals1{x:V}{us:List Value}(r:Vals [x] us):∃u,us=[u]/\RelV x u:=by
 cases r with
 | cons r1 r2=>cases r2;exact⟨_,rfl,r1⟩
theorem vals2{x y:V}{us:List Value}(r:Vals [x,y] us):∃u w',us=[u,w']/\RelV x u/\RelV y w':=by
 cases r with
 | cons r1 r2 =>
  cases r2 with
  | cons r3 r4=>cases r4;exact⟨_,_,rfl,r1,r3⟩
theorem call_max2(hc:X.calm=true):CallR X (.builtin "max") (fun xs H Q=>∃i j,xs=[.int i,.int j]/\Q (.int (if j>i then j else i)) H):=by
 intro pins s σ H xs us Q I r h
 obtain⟨i,j,rfl,q⟩:=h
 obtain⟨u,w',rfl,⟨t,rfl⟩,⟨t',rfl⟩⟩:=vals2 r
 refine max_two_ints (I.ok.hd hc) fun h' tk k=>⟨_,H,I.kept k,?_,q⟩
 by_cases hj:j>i
 ·rw[if_pos hj,if_pos hj];exact⟨_,rfl⟩
 ·rw[if_neg hj,if_neg hj];exact⟨_,rfl⟩
theorem call_min2(hc:X.calm=true):CallR X (.builtin "min") (fun xs H Q=>∃i j,xs=[.int i,.int j]/\Q (.int (if j<i then j else i)) H):=by
 intro pins s σ H xs us Q I r h
 obtain⟨i,j,rfl,q⟩:=h
 obtain⟨u,w',rfl,⟨t,rfl⟩,⟨t',rfl⟩⟩:=vals2 r
 refine min_two_ints (I.ok.hd hc) fun h' tk k=>⟨_,H,I.kept k,?_,q⟩
 by_cases hj:j<i
 ·rw[if_pos hj,if_pos hj];exact⟨_,rfl⟩
 ·rw[if_neg hj,if_neg hj];exact⟨_,rfl⟩
theorem call_int1:CallR X (.type "int") (fun xs H Q=>(∃i,xs=[.int i]/\Q (.int i) H)\/∃k,xs=[.bl k]/\Q (.int (if k then 1 else 0)) H):=by
 intro pins s σ H xs us Q I r h
 rcases h with ⟨i,rfl,q⟩|⟨k,rfl,q⟩
 ·obtain⟨u,rfl,t,rfl⟩:=vals1 r
  exact call_int_int ⟨.int i,H,I,⟨_,rfl⟩,q⟩
 ·obtain⟨u,rfl,r1⟩:=vals1 r
  cases r1
  exact call_int_bool ⟨.int (if k then 1 else 0),H,I.tok _,⟨_,rfl⟩,q⟩
noncomputable def LenV(K:PySem.W.Frag)(x:V)(H:Hp)(n:Nat):Prop :=
 match x with
 | .str y=>y.length<=sizeLine/\n=y.length
 | .byt y=>y.size<=sizeLine/\n=y.size
 | .ref p=>(∃xs,SqL K H p xs/\n=xs.length)\/∃xs,SqT K H p xs/\n=xs.length
 | _=>False
theorem call_len:CallR X (.builtin "len") (fun xs H Q=>∃x n,xs=[x]/\LenV X.K x H n/\Q (.int n) H):=by
 intro pins s σ H xs us Q I r h
 obtain⟨x,n,rfl,e,q⟩:=h
 obtain⟨u,rfl,rx⟩:=vals1 r
 have hl:=line63
 have hs:sizeLine=16777216:=sizeLine_eq
 cases x with
 | str y =>
  obtain⟨t,rfl⟩:=rx
  obtain⟨hy,e'⟩:y.length<=sizeLine/\n=y.length:=e
  subst e'
  exact len_str (by omega) ⟨.int _,H,I.tok _,⟨_,rfl⟩,q⟩
 | byt y =>
  obtain⟨t,rfl⟩:=rx
  obtain⟨hy,e'⟩:y.size<=sizeLine/\n=y.size:=e
  subst e'
  exact PySem.W.len_bytes (by omega) ⟨.int _,H,I.tok _,⟨_,rfl⟩,q⟩
 | ref p =>
  cases rx
  have e':(∃xs,SqL X.K H p xs/\n=xs.length)\/∃xs,SqT X.K H p xs/\n=xs.length:=e
  rcases e' with ⟨xs,hx,e'⟩|⟨xs,hx,e'⟩
  ·subst e'
   obtain⟨its,r',pl,hz⟩:=I.list hx
   have hlen:=r'.length
   exact Calls.call_len_list pl.isList (by simp only[List.size_toArray];omega) ⟨.int xs.length,H,I.tok _,⟨_,by simp only[List.size_toArray];rw[hlen]⟩,q⟩
  ·subst e'
   obtain⟨its,r',pl,hz⟩:=I.tuple hx
   have hlen:=r'.length
   exact len_tuple pl (by simp only[List.size_toArray];omega) ⟨.int xs.length,H,I.tok _,⟨_,by simp only[List.size_toArray];rw[hlen]⟩,q⟩
 | _=>exact(show False from e).elim
end
end L2
namespace L2
open PySem PySem.Spec PyProof.Rows
structure ObjM (h:Heap) (x dx C:Addr) (mA:Str->Option Value):Prop where
 obj:h.get? x=some (PySem.W.instObj C dx)
 ns:h.Ns1 dx mA
 ne:dx≠x
theorem lookIn_ns{h:Heap}{dx:Addr}{mA:Str->Option Value}(n:h.Ns1 dx mA):∃od,h.get? dx=some od/\∀name,PySem.W.lookIn name od=some (mA name):=by
 obtain⟨o,es,ep,ho,hd,hk,_,hm⟩:=n
 refine⟨o,ho,fun name=>?_⟩
 have e:=hm name
 unfold nsFind findBy at e
 rw[<-Array.find?_toList] at e
 unfold PySem.W.lookIn
 rw[hd]
 dsimp only
 split
 ·rename_i y q
  rw[q] at e
  exact congrArg some e
 ·rename_i q
  rw[q] at e
  have a:es.toList.any (·.refKey)=false:=by
   rw[List.any_eq_false]
   intro y hy
   obtain⟨z,t,hkey⟩:=hk y (Array.mem_toList_iff.mp hy)
   simp[DictEntry.refKey,hkey]
  have a':¬ es.toList.any (·.refKey)=true:=by rw[a];exact Bool.false_ne_true
  rw[if_neg a']
  exact congrArg some e
theorem ObjM.look{h:Heap}{x dx C:Addr}{mA:Str->Option Value}(I:ObjM h x dx C mA):∃od,PySem.W.InstAt h x (PySem.W.instObj C dx) C (some od)/\∀name,PySem.W.lookIn name od=some (mA name) :=
 let ⟨od,ho,hl⟩:=lookIn_ns I.ns
 ⟨od,⟨I.obj,rfl,rfl,ho⟩,hl⟩
section
variable {prog:Program} {w:World} {A:Around} {E:Value->Shared->Prop} {s:Shared} {K:PySem.W.Frag} {x dx C f:Addr} {mA:Str->Option Value} {name:Str} {v:Value}
theorem get_map{expr:Bool}{Q:Value->Shared->Prop}(X:K.In s.heap)(I:ObjM s.heap x dx C mA)(hg:PySem.W.plainGet K C name=true)(hh:PySem.W.hasDictIn K C=true)
  (ha:PySem.W.findIn K (.ref C) name=some none) (hv:mA name=some v) (hv':PySem.W.handedIn v=true) (h:Q v { s with toks:=s.toks+1 }) :
  wpAny (model prog w) A (getAttr (.ref x) name expr) Q E s:=by
 obtain⟨od,J,hl⟩:=I.look
 exact PySem.W.get_value X J (PySem.W.plainGet_of hg).1 (PySem.W.findObj_own hh ha rfl (by rw[hl,hv])) hv' h
theorem get_meth{pl:Sem Bool}{Q:Value×List Value->Shared->Prop}(X:K.In s.heap)(I:ObjM s.heap x dx C mA)(hg:PySem.W.plainGet K C name=true)
  (hf:PySem.W.findIn K (.ref C) name=some (some (.ref f))) (ht:PySem.W.isFn K (.ref f)=true) (hv:mA name=none) (h:Q (.ref f,[.ref x]) s) :
  wpAny (model prog w) A (getMethod (.ref x) name pl) Q E s:=by
 obtain⟨od,J,hl⟩:=I.look
 exact PySem.W.method_fn X J (PySem.W.plainGet_of hg).1 (PySem.W.plainGet_of hg).2 hf (beq_iff_eq.mp ht) (by show (PySem.W.lookIn name od).map (·.isSome)=some false;rw[hl,hv];rfl) h
theorem set_map{ns:List Str}{Q:Unit->Shared->Prop}(X:K.In s.heap)(I:ObjM s.heap x dx C mA)
  (hs:PySem.W.findIn K (.ref C) "__setattr__" = some (some (.builtin "object.__setattr__"))) (hp:PySem.W.plainOver K C=true) (ht:PySem.W.takerIn K C name=some none) (hh:PySem.W.hasDictIn K C=true)
  (hw:PySem.Within mA ns) (hsz:ns.length<=sizeLine)
  (h:∀h',ObjM h' x dx C (fun y=>if y=name then some v else mA y)->Heap.SameBut dx s.heap h'->Q () { s with heap:=h',toks:=s.toks+2 }) :
  wpAny (model prog w) A (setAttr (.ref x) name v) Q E s:=by
 obtain⟨od,J,hl⟩:=I.look
 refine PySem.W.set_plain X J hs (PySem.W.osa_open (s:={ s with toks:=s.toks+1 }) (r:=none) X J hp ht fun b=>?_)
 obtain⟨cd,hc,hd'⟩:=PySem.W.any_some hh
 have hx:s.heap.get? x=some ⟨.ref C,some dx,.plain,#[]⟩:=I.obj
 refine wpAny_bind (wpAny_pure (wpAny_bind (wpAny_bind (wpAny_loadPart hx (wpAny_bind (PySem.W.Looks.here (s:={ s with toks:=s.toks+1 }) (PySem.W.looks_clsIn X hc) ?_))))))
 rw[hd']
 refine wpAny_pure (a:=some dx) (wpAny_bind (wpAny_pure (wpAny_bind ?_)))
 refine wpAny_nsSet1 (s:={ s with toks:=s.toks+1 }) I.ns fun h' hn2 hs2=>?_
 obtain⟨oD,esD,epD,hoD,hdD,hcD⟩:=hn2.count (PySem.Within.cons name v hw)
 refine wpAny_bind (wpAny_lookBehind hoD (by rw[hdD];exact pastItsLine_dict (Nat.le_trans hcD (by rw[List.length_cons];omega))) ?_)
 exact wpAny_pure (h _ ⟨(hs2.2 _ (Ne.symm I.ne)).trans I.obj,hn2,I.ne⟩ hs2)
theorem make_map{R:Result->Shared->Prop}{vs:List Value}{kw:List (Str×Value)}(X:K.In s.heap)(hm:PySem.W.makesIn K C=true)
  (hi:PySem.W.findIn K (.ref C) "__init__" = some (some (.ref f))) (hf:PySem.W.typeIn K (.ref f)=some (.type "function"))
  (h:codeAny (model prog w) (A.under (.builtin "type.__call__" ⟨.ref C::vs,kw⟩)) (.call (.ref f) ⟨.ref (s.heap.objs.size+1)::vs,kw⟩) (PySem.W.InitBack (s.heap.objs.size+1) R)
   { s with heap:=(s.heap.push PySem.W.emptyDict).push (PySem.W.instObj C s.heap.objs.size) }) :
  codeAny (model prog w) A (.call (.ref C) ⟨vs,kw⟩) R s:=by
 obtain⟨hh,g,d,t,os⟩:=s
 exact PySem.W.make_core (PySem.W.makes_of X hm) (PySem.W.looks_findIn X hi) (fun self=>PySem.W.bind_fn X self hf) (.inl rfl) h
end
noncomputable def putF(f:Str)(v:V):List (Str×V)->List (Str×V)
 | []=>[(f,v)]
 | (g,x)::r=>if g=f then (g,v)::r else (g,x)::putF f v r
theorem lookup_putF(f g:Str)(v:V):∀fs:List (Str×V),(putF f v fs).lookup g=if g=f then some v else fs.lookup g
 | []=>by
  show List.lookup g [(f,v)]=_
  by_cases h:g=f
  ·have hb:(g==f)=true:=beq_iff_eq.mpr h
   simp only[List.lookup,hb,if_pos h]
  ·have hb:(g==f)=false:=beq_eq_false_iff_ne.mpr h
   simp only[List.lookup,hb,if_neg h]
 | (k,x)::r=>by
  have ih:=lookup_putF f g v r
  rw[show putF f v ((k,x)::r)=(if k=f then (k,v)::r else (k,x)::putF f v r) from rfl]
  by_cases hk:k=f
  ·rw[if_pos hk]
   by_cases h:g=k
   ·have hb:(g==k)=true:=beq_iff_eq.mpr h
    simp only[List.lookup,hb,if_pos (h.trans hk)]
   ·have hb:(g==k)=false:=beq_eq_false_iff_ne.mpr h
    simp only[List.lookup,hb,if_neg (fun e:g=f=>h (e.trans hk.symm))]
  ·rw[if_neg hk]
   by_cases h:g=k
   ·have hb:(g==k)=true:=beq_iff_eq.mpr h
    simp only[List.lookup,hb,if_neg (fun e:g=f=>hk (h.symm.trans e))]
   ·have hb:(g==k)=false:=beq_eq_false_iff_ne.mpr h
    simp only[List.lookup,hb]
    exact ih
theorem keys_putF(f:Str)(v:V):∀fs:List (Str×V),f∈(putF f v fs).map (·.1)/\∀g,g∈fs.map (·.1)->g∈(putF f v fs).map (·.1)
 | []=>⟨by simp[putF],fun g h=>by simp at h⟩
 | (k,x)::r=>by
  obtain⟨i1,i2⟩:=keys_putF f v r
  rw[show putF f v ((k,x)::r)=(if k=f then (k,v)::r else (k,x)::putF f v r) from rfl]
  by_cases hk:k=f
  ·rw[if_pos hk]
   subst hk
   exact⟨by simp,fun g h=>by simpa using h⟩
  ·rw[if_neg hk]
   refine⟨?_,fun g h=>?_⟩
   ·rw[List.map_cons]
    exact List.mem_cons_of_mem _ i1
   ·rw[List.map_cons] at h |-
    rcases List.mem_cons.mp h with e|e
    ·exact List.mem_cons.mpr (.inl e)
    ·exact List.mem_cons_of_mem _ (i2 g e)
theorem length_putF(f:Str)(v:V):∀fs:List (Str×V),(putF f v fs).length<=fs.length+1
 | []=>by simp[putF]
 | (k,x)::r=>by
  have ih:=length_putF f v r
  rw[show putF f v ((k,x)::r)=(if k=f then (k,v)::r else (k,x)::putF f v r) from rfl]
  by_cases hk:k=f
  ·rw[if_pos hk,List.length_cons,List.length_cons];omega
  ·rw[if_neg hk,List.length_cons,List.length_cons];omega
theorem RelO.some_of{v:V}{o:Option Value}(r:RelO (some v) o):∃u,o=some u/\RelV v u:=by
 cases o with
 | none=>exact(show False from r).elim
 | some u=>exact⟨u,rfl,r⟩
theorem RelO.none_of{o:Option Value}(r:RelO none o):o=none:=by
 cases o with
 | none=>rfl
 | some u=>exact(show False from r).elim
theorem handed_of{v:V}{u:Value}(r:RelV v u):PySem.W.handedIn u=true:=by
 cases v with
 | non=>cases (show u=Value.none from r);rfl
 | bl b=>cases (show u=Value.bool b from r);rfl
 | int i=>obtain⟨t,e⟩:=(show ∃t,u=Value.int i t from r);cases e;rfl
 | str x=>obtain⟨t,e⟩:=(show ∃t,u=Value.str x t from r);cases e;rfl
 | byt b=>obtain⟨t,e⟩:=(show ∃t,u=Value.bytes b t from r);cases e;rfl
 | flt b=>obtain⟨t,e⟩:=(show ∃t,u=Value.float b t from r);cases e;rfl
 | ref a=>cases (show u=Value.ref a from r);rfl
 | ty n=>cases (show u=Value.type n from r);rfl
section
variable {P:Program} {w:World} {H H':Hp} {h h':Heap} {a C dx:Addr} {fs fs':List (Str×V)}
theorem ins_get(hok:HOk P w H h)(e:H a=some (.ins C dx fs)):∃mA,ObjM h a dx C mA/\(∀f,RelO (fs.lookup f) (mA f))/\PySem.Within mA (fs.map (·.1))/\fs.length<=1000/\H dx=some (.own a):=by
 obtain⟨d,z,ne,ob,mA,n,r,q⟩:=(show ObjOk P w H h a (.ins C dx fs) from hok a _ e)
 exact⟨mA,⟨ob,n,ne⟩,r,q,z,d⟩
end
structure Cls (K:PySem.W.Frag) (C:Addr):Prop where
 pg:PySem.W.plainGet K C Str.empty=true
 hd:PySem.W.hasDictIn K C=true
 po:PySem.W.plainOver K C=true
 sa:PySem.W.findIn K (.ref C) "__setattr__" = some (some (.builtin "object.__setattr__"))
theorem Cls.get{K:PySem.W.Frag}{C:Addr}(c:Cls K C)(f:Str):PySem.W.plainGet K C f=true:=c.pg
noncomputable def NoAttr(K:PySem.W.Frag)(C:Addr)(f:Str):Prop:=PySem.W.findIn K (.ref C) f=some none
theorem NoAttr.taker{K:PySem.W.Frag}{C:Addr}{f:Str}(n:NoAttr K C f):PySem.W.takerIn K C f=some none:=by
 unfold PySem.W.takerIn
 rw[show PySem.W.findIn K (.ref C) f=some none from n]
 rfl
structure Meth (K:PySem.W.Frag) (C:Addr) (m:Str) (f:Addr):Prop where
 at_:PySem.W.findIn K (.ref C) m=some (some (.ref f))
 fn:PySem.W.isFn K (.ref f)=true
 kp:PySem.W.keepIn K (.ref f)=true
section
variable {X:Cx} {pins:List (Addr×Obj)} {σ:St} {H:Hp} {s:Shared} {a C dx:Addr} {fs:List (Str×V)} {f:Str} {v:V} {A:Around} {E:Value->Shared->Prop}
theorem getattr_ok{b:Bool}{Q:Value->Shared->Prop}(I:Inv X pins σ H s)(e:H a=some (.ins C dx fs))(c:Cls X.K C)(n:NoAttr X.K C f)(l:fs.lookup f=some v)
  (h:∀u s',Inv X pins σ H s'->RelV v u->Q u s'):wpAny (model X.prog X.w) A (getAttr (.ref a) f b) Q E s:=by
 obtain⟨mA,O,r,_,_,_⟩:=ins_get I.hok e
 obtain⟨u,hu,ru⟩:=RelO.some_of (v:=v) (o:=mA f) (by rw[<-l];exact r f)
 exact get_map I.kIn O (c.get f) c.hd n hu (handed_of ru) (h u _ (I.tok _) ru)
theorem getmeth_ok{m:Str}{g:Addr}{pl:Sem Bool}{Q:Value×List Value->Shared->Prop}(I:Inv X pins σ H s)(e:H a=some (.ins C dx fs))(c:Cls X.K C)(k:Meth X.K C m g)(l:fs.lookup m=none)
  (h:Q (.ref g,[.ref a]) s):wpAny (model X.prog X.w) A (getMethod (.ref a) m pl) Q E s:=by
 obtain⟨mA,O,r,_,_,_⟩:=ins_get I.hok e
 have hn:mA m=none:=RelO.none_of (by rw[<-l];exact r m)
 exact get_meth I.kIn O (c.get m) k.at_ k.fn hn h
theorem setattr_ok{y:V}{u:Value}{Q:Unit->Shared->Prop}(I:Inv X pins σ H s)(e:H a=some (.ins C dx fs))(c:Cls X.K C)(n:NoAttr X.K C f)(hl:fs.length<1000)(ry:RelV y u)
  (h:∀s',Inv X pins σ (upd H a (.ins C dx (putF f y fs))) s'->Q () s'):wpAny (model X.prog X.w) A (setAttr (.ref a) f u) Q E s:=by
 obtain⟨mA,O,r,wi,_,ho⟩:=ins_get I.hok e
 have hz:(fs.map (·.1)).length<=sizeLine:=by rw[List.length_map,sizeLine_eq];omega
 refine set_map I.kIn O c.sa c.po n.taker c.hd wi hz fun h' O' sb=>h _ ?_
 have hd:∃o,h'.get? dx=some o:=let ⟨o,_,_,e',_⟩:=O'.ns;⟨o,e'⟩
 refine I.write (x:=a) (e:=dx) (by rw[e];exact True.intro) (.inr ho) (fun b q hb z=>(sb.2 b hb).trans z) hd ?_
 refine⟨by rw[upd_ne O.ne];exact ho,?_,O.ne,O'.obj,_,O'.ns,fun g=>?_,fun g hg=>?_⟩
 ·have:=length_putF f y fs;omega
 ·show RelO ((putF f y fs).lookup g) (if g=f then some u else mA g)
  rw[lookup_putF]
  by_cases q:g=f
  ·rw[if_pos q,if_pos q];exact ry
  ·rw[if_neg q,if_neg q];exact r g
 ·by_cases q:g=f
  ·rw[q];exact(keys_putF f y fs).1
  ·refine(keys_putF f y fs).2 g (wi g fun z=>hg ?_)
   show (if g=f then some u else mA g)=none
   rw[if_neg q];exact z
theorem Inv.made(I:Inv X pins σ H s):Inv X pins σ (upd (upd H s.heap.objs.size (.own (s.heap.objs.size+1))) (s.heap.objs.size+1) (.ins C s.heap.objs.size []))
  { s with heap:=(s.heap.push PySem.W.emptyDict).push (PySem.W.instObj C s.heap.objs.size) }:=by
 have e1:(s.heap.push PySem.W.emptyDict).get? s.heap.objs.size=some PySem.W.emptyDict:=Heap.get?_push_size s.heap rfl
 have e2:((s.heap.push PySem.W.emptyDict).push (PySem.W.instObj C s.heap.objs.size)).get? (s.heap.objs.size+1)=some (PySem.W.instObj C s.heap.objs.size):=by
  have:=Heap.get?_push_size (s.heap.push PySem.W.emptyDict) (o:=PySem.W.instObj C s.heap.objs.size) rfl
  rwa [Heap.size_push] at this
 have e3:(s.heap.push PySem.W.emptyDict).Ns s.heap.objs.size (fun _=>none):=⟨PySem.W.emptyDict,#[],_,e1,rfl,(fun e he=>absurd he (by simp)),fun _=>rfl⟩
 have I1:=I.laid (a:=s.heap.objs.size) (o:=.own (s.heap.objs.size+1)) (h':=s.heap.push PySem.W.emptyDict) (t':=s.toks) (fun b u q=>Heap.get?_push_of_some _ q) (Nat.le_refl _) ⟨_,e1⟩
 refine I1.laid (a:=s.heap.objs.size+1) (o:=.ins C s.heap.objs.size []) (t':=s.toks) (fun b u q=>Heap.get?_push_of_some _ q) (Nat.le_of_eq (Heap.size_push _ _)) ?_
 have ne:s.heap.objs.size≠s.heap.objs.size+1:=Nat.ne_of_lt (Nat.lt_succ_self _)
 refine⟨by rw[upd_ne ne,upd_same],Nat.zero_le _,ne,e2,fun _=>none,(Heap.Ns1.of_empty e3).at fun o q=>Heap.get?_push_of_some _ q,fun _=>True.intro,fun y hy=>absurd rfl hy⟩
theorem attr_of{prog:Program}{w:World}{env:Env}{e:Expr}{f:Str}{pos:Pos}{s:Shared}{Q:Value->Shared->Prop}(hb:attributeBase e f env (eval e env)=eval e env)
  (h:wpAny (model prog w) A (eval e env) (fun o s₁=>wpAny (model prog w) A (getAttr o f true) Q E s₁) E s):wpAny (model prog w) A (eval (.Attribute e f pos) env) Q E s :=
 Attribute_any_ h (by rw[arm_eval_Attribute,hb])
end
noncomputable def tFld(K:PySem.W.Frag)(ta:TE)(f:Str):TE:=fun σ H Q=>ta σ H fun x H1=>∃a C dx fs v,x=.ref a/\H1 a=some (.ins C dx fs)/\Cls K C/\NoAttr K C f/\fs.lookup f=some v/\Q v H1
noncomputable def sFld(K:PySem.W.Frag)(ta tv:TE)(f:Str):TS:=fun D σ H=>tv σ H fun y H1=>ta σ H1 fun x H2=>∃a C dx fs,x=.ref a/\H2 a=some (.ins C dx fs)/\Cls K C/\NoAttr K C f/\fs.length<1000 /\
 D.nx σ (upd H2 a (.ins C dx (putF f y fs)))
section
variable {X:Cx} {o e value:Expr} {f:Str} {pos pos' tpos:Pos} {ta tv:TE}
theorem pe_fld(he:PE X e ta)(hb:attributeBase e f X.env (eval e X.env)=eval e X.env):PE X (.Attribute e f pos) (tFld X.K ta f):=by
 intro pins s σ H Q I h
 refine attr_of hb (thn (he pins s σ H _ I h) fun u s1 zz0=>?_)
 obtain⟨x,H1,I1,rx,a,C,dx,fs,v,ex,ea,c,n,l,q⟩:=zz0
 subst ex
 obtain rfl:u=Value.ref a:=rx
 exact getattr_ok I1 ea c n l fun u' s2 I2 ru=>⟨v,H1,I2,ru,q⟩
theorem ps_fld(ha:PE X o ta)(hv:PE X value tv)(hs:swapsWith value (some (.Attribute o f pos')) pos.line X.env=pure false):PS X (.Assign [.Attribute o f pos'] value pos) (sFld X.K ta tv f):=by
 intro pins s σ H D I h
 refine plainObj_wpAny_Assign_Attribute (thn (hv pins s σ H _ I h) fun u s1 ⟨y,H1,I1,ry,q⟩=>thn (ha pins s1 σ H1 _ I1 q) fun ov s2 ⟨x,H2,I2,rx,a,C,dx,fs,ex,ea,c,n,l,q2⟩=>?_) hs
 subst ex
 obtain rfl:ov=Value.ref a:=rx
 exact setattr_ok I2 ea c n l ry fun s3 I3=>⟨σ,_,I3,q2⟩
end
section
variable {X:Cx} {pins:List (Addr×Obj)} {σ:St} {H:Hp} {s:Shared} {A:Around} {E:Value->Shared->Prop} {Q:Value->Shared->Prop} {c:Value} {b:Bool}
end
end L2
namespace L2
open PySem PySem.Spec PyProof.Rows
structure Room (k:Nat) (A:Around):Prop where
 hd:A.handled=none
 dp:A.depth+3*k+5<recursionLimit
 un:A.units+16*k+200<cLine
theorem Room.mono{j k:Nat}{A:Around}(r:Room k A)(h:j<=k):Room j A:=⟨r.hd,by have:=r.dp;omega,by have:=r.un;omega⟩
theorem Room.deeper{k:Nat}{A:Around}(r:Room (k+1) A)(env:Env):Room k (A.deeper env) :=
 ⟨r.hd,by have:=r.dp;show A.depth+1+3*k+5<_;omega,by have:=r.un;show A.units+3+16*k+200<_;omega⟩
theorem make_depth{A:Around}{C:Addr}{us:List Value}{kw:List (Str×Value)}:(A.under (.builtin "type.__call__" ⟨.ref C::us,kw⟩)).depth=A.depth+1:=by
 first|rfl|simp[Around.under,Code.weight,Code.isCreation,Code.isGuard,Code.isCaller,Code.frames,Code.isFrame,guardIds]
theorem make_units{A:Around}{C:Addr}{us:List Value}{kw:List (Str×Value)}:(A.under (.builtin "type.__call__" ⟨.ref C::us,kw⟩)).units=A.units+1:=by
 first|rfl|simp[Around.under,Code.cUnits,Code.frames,Code.isFrame]
theorem Room.make{k:Nat}{A:Around}(r:Room (k+1) A)(C:Addr)(us:List Value)(kw:List (Str×Value)):Room k (A.under (.builtin "type.__call__" ⟨.ref C::us,kw⟩)) :=
 ⟨r.hd,by have:=r.dp;rw[make_depth];omega,by have:=r.un;rw[make_units];omega⟩
theorem Room.depth{k:Nat}{A:Around}(r:Room k A):A.depth<recursionLimit:=by have:=r.dp;omega
theorem Room.units{k:Nat}{A:Around}(r:Room k A):A.units+64<cLine:=by have:=r.un;omega
noncomputable def tNil:TA:=fun _ H Q=>Q [] H
noncomputable def tCons(ta:TE)(tr:TA):TA:=fun σ H Q=>ta σ H fun x H1=>tr σ H1 fun xs H2=>Q (x::xs) H2
section
variable {X:Cx} {e:Expr} {es:List Expr} {te:TE} {t:TA} {pos:Pos}
theorem pa_nil:PA X [] tNil:=fun _ _ _ _ H Q I h=>Calls.spliced_nil ⟨[],H,I,.nil,h⟩
theorem pa_cons(ha:PE X e te)(hr:PA X es t)(hs:starEach (e::es) X.env=(false,eval e X.env)::starEach es X.env:=by rfl):PA X (e::es) (tCons te t):=by
 intro pos pins s σ H Q I h
 rw[hs]
 show wpAny _ _ (spliced ((false,eval e X.env)::backTo pos (starEach es X.env))) _ _ s
 refine Calls.spliced_cons (thn (ha pins s σ H _ I h) fun u s1 zz0=>?_)
 obtain⟨x,H1,I1,r1,q1⟩:=zz0
 exact thn (hr pos pins s1 σ H1 _ I1 q1) fun us s2 ⟨xs,H2,I2,r2,q2⟩=>⟨x::xs,H2,I2,.cons r1 r2,q2⟩
noncomputable def tTup(t:TA):TE:=fun σ H Q=>t σ H fun xs H1=>xs.length<=sizeLine/\∀p,H1 p=none->Q (.ref p) (upd H1 p (.tup xs))
noncomputable def tLst(t:TA):TE:=fun σ H Q=>t σ H fun xs H1=>xs.length<=sizeLine/\∀p,H1 p=none->Q (.ref p) (upd H1 p (.lst xs))
theorem pe_tup{x1}(h:PA X es t):PE X (.Tuple es x1 pos) (tTup t):=by
 intro pins s σ H Q I hq
 refine wpAny_Tuple_spliced (thn (h pos pins s σ H _ I hq) fun us s1 ⟨xs,H1,I1,r,z,q⟩=>⟨by rw[<-r.length];exact z,?_⟩)
 have hf:H1 s1.heap.objs.size=none:=I1.hok.fresh (Nat.le_refl _)
 refine⟨.ref s1.heap.objs.size,upd H1 s1.heap.objs.size (.tup xs),I1.laid (t':=s1.toks) (fun b u e=>Heap.get?_push_of_some _ e) (Nat.le_refl _) ?_,rfl,q _ hf⟩
 exact⟨z,us,r,⟨_,Heap.get?_push_size _ rfl,rfl,_,rfl⟩⟩
theorem pe_lst(h:PA X es t):PE X (.List es pos) (tLst t):=by
 intro pins s σ H Q I hq
 refine wpAny_List_spliced (thn (h pos pins s σ H _ I hq) fun us s1 ⟨xs,H1,I1,r,z,q⟩=>⟨by rw[<-r.length];exact z,?_⟩)
 have hf:H1 s1.heap.objs.size=none:=I1.hok.fresh (Nat.le_refl _)
 refine⟨.ref s1.heap.objs.size,upd H1 s1.heap.objs.size (.lst xs),I1.laid (t':=s1.toks) (fun b u e=>Heap.get?_push_of_some _ e) (Nat.le_refl _) ?_,rfl,q _ hf⟩
 exact⟨z,us,0,r,Heap.get?_push_size _ rfl⟩
end
noncomputable abbrev Sp:=List V->Hp->VK->XK->Prop
noncomputable abbrev CXT:=List Env->Hp->Shared->XK->Value->Shared->Prop
structure Env0 (P:Program) (w:World) (K:PySem.W.Frag) (mg:Str->Option Value) (base:Heap) (A:Around) (outer:List Env) (s:Shared) (H:Hp):Prop where
 frames:A.frames=some outer
 mod:Mod K mg base
 bs:∀b o,base.get? b=some o->s.heap.get? b=some o/\H b=none
 bsz:base.objs.size<=s.heap.objs.size
 funs:s.heap.FunFrames base outer
 frf:∀b∈frs outer,H b=none
 hok:HOk P w H s.heap
 bare:AllBare s.gens
noncomputable def CE(outer:List Env)(P:Program)(w:World)(H:Hp)(s:Shared)(Q:VK)(u:Value)(s':Shared):Prop :=
 ∃v H',s'.os=s.os/\AllBare s'.gens/\Un (frs outer) [] H H' s.heap s'.heap/\HOk P w H' s'.heap/\RelV v u/\Q v H'
noncomputable def CR(CX:CXT)(outer:List Env)(P:Program)(w:World)(H:Hp)(s:Shared)(Q:VK)(E:XK)(r:Result)(s':Shared):Prop :=
 match r with
 | .ok (.ret u)=>CE outer P w H s Q u s'
 | .ok _=>False
 | .error e=>CX outer H s E e s'
structure FnOk (P:Program) (w:World) (K:PySem.W.Frag) (mg:Str->Option Value) (base:Heap) (CX:CXT) (k:Nat) (f:Addr) (fd:FuncData) (ps:List Str) (sp:Sp):Prop where
 len:∀vs H Q E,sp vs H Q E->vs.length=ps.length
 run:∀(A:Around) (outer:List Env) (s:Shared) (H:Hp) (args:Args) (us:List Value) (vs:List V) (Q:VK) (E:XK),Room k A->Env0 P w K mg base A outer s H->BindsTo s fd args (ps.zip us)->Vals vs us->sp vs H Q E ->
  codeAny (model P w) A (.call (.ref f) args) (CR CX outer P w H s Q E) s
theorem FnOk.mono{P:Program}{w:World}{K:PySem.W.Frag}{mg:Str->Option Value}{base:Heap}{CX:CXT}{j k:Nat}{f:Addr}{fd:FuncData}{ps:List Str}{sp:Sp}(F:FnOk P w K mg base CX j f fd ps sp)(h:j<=k) :
  FnOk P w K mg base CX k f fd ps sp:=⟨F.len,fun A outer s H args us vs Q E hr=>F.run A outer s H args us vs Q E (hr.mono h)⟩
theorem FnOk.imp{P:Program}{w:World}{K:PySem.W.Frag}{mg:Str->Option Value}{base:Heap}{CX:CXT}{k:Nat}{f:Addr}{fd:FuncData}{ps:List Str}{sp sp':Sp}(F:FnOk P w K mg base CX k f fd ps sp)
  (h:∀vs H Q E,sp' vs H Q E->sp vs H Q E):FnOk P w K mg base CX k f fd ps sp' :=
 ⟨fun vs H Q E q=>F.len vs H Q E (h _ _ _ _ q),fun A outer s H args us vs Q E hr he hb hv hs=>F.run A outer s H args us vs Q E hr he hb hv (h _ _ _ _ hs)⟩
theorem Env0.make{P:Program}{w:World}{K:PySem.W.Frag}{mg:Str->Option Value}{base:Heap}{A:Around}{outer:List Env}{s:Shared}{H:Hp}(e:Env0 P w K mg base A outer s H)(C:Addr)(us:List Value)(kw:List (Str×Value)) :
  Env0 P w K mg base (A.under (.builtin "type.__call__" ⟨.ref C::us,kw⟩)) outer s H:=⟨by first|exact e.frames|(simpa [Around.under,Code.envs,Code.isFrame,pushEnvs] using e.frames),e.mod,e.bs,e.bsz,e.funs,e.frf,e.hok,e.bare⟩
section
variable {X:Cx} {pins:List (Addr×Obj)} {σ:St} {H:Hp} {s s':Shared}
theorem Inv.env0(I:Inv X pins σ H s):Env0 X.prog X.w X.K X.mg X.base X.A X.stack s H :=
 ⟨I.ok.frames,I.ok.mod,I.bs,Nat.le_trans I.ok.bsz I.sz,I.stack,I.stkFree,I.hok,I.bare⟩
theorem Inv.after{Q:VK}{u:Value}(I:Inv X pins σ H s)(h:CE X.stack X.prog X.w H s Q u s'):EP X pins σ Q u s':=by
 obtain⟨v,H',os,bare,un,hok,r,q⟩:=h
 obtain⟨hh,g,d,t,os'⟩:=s'
 obtain rfl:os'=s.os:=os
 exact⟨v,H',I.call (h':=hh) (g':=g) (d':=d) (t':=t) (ch:=[]) un hok bare (fun b z=>absurd z (by simp)),r,q⟩
end
noncomputable def tCall(sp:Sp)(dvs:List V)(E:XK)(t:TA):TE:=fun σ H Q=>t σ H fun vs H1=>sp (vs++dvs) H1 Q E
noncomputable def tMake(C:Addr)(sp:Sp)(dvs:List V)(E:XK)(t:TA):TE:=fun σ H Q=>t σ H fun vs H1=>∀x dx,H1 x=none->H1 dx=none->dx≠x ->
 sp (.ref x::(vs++dvs)) (upd (upd H1 dx (.own x)) x (.ins C dx [])) (fun v H2=>v=.non/\Q (.ref x) H2) E
noncomputable def Binds(K:PySem.W.Frag)(fd:FuncData)(ps:List Str)(ds:List Value):Prop :=
 ∀(s:Shared) (us:List Value),K.In s.heap->(us++ds).length=ps.length->BindsTo s fd ⟨us,[]⟩ (ps.zip (us++ds))
theorem Binds.all{K:PySem.W.Frag}{fd:FuncData}{ps:List Str}(h:∀us:List Value,us.length=ps.length->bindArgs fd ⟨us,[]⟩=pure (ps.zip us)):Binds K fd ps []:=fun s us _ hl=>by
 rw[List.append_nil] at hl |-
 exact .of_eq (h us hl)
noncomputable def Passes(CX:CXT)(X:Cx)(E:XK):Prop:=∀(pins:List (Addr×Obj)) (σ:St) (H:Hp) (s:Shared) (e:Value) (s':Shared),Inv X pins σ H s->CX X.stack H s E e s'->X.xe e s'
section
variable {X:Cx} {CX:CXT} {k:Nat} {f C:Addr} {fd:FuncData} {ps:List Str} {sp:Sp} {dvs:List V} {ds:List Value} {E:XK} {x m:Str} {p pos apos:Pos} {e o:Expr} {es:List Expr} {ta:TE} {t:TA}
theorem run_fn{pins:List (Addr×Obj)}{σ:St}{H:Hp}{s:Shared}{Q:VK}{us:List Value}{vs:List V}(F:FnOk X.prog X.w X.K X.mg X.base CX k f fd ps sp)(hr:Room k X.A)(hb:Binds X.K fd ps ds)(hd:Vals dvs ds)(hx:Passes CX X E)
  (I:Inv X pins σ H s) (r:Vals vs us) (h:sp (vs++dvs) H Q E):wpAny (model X.prog X.w) X.A (call (.ref f) us) (EP X pins σ Q) X.xe s:=by
 have r2:Vals (vs++dvs) (us++ds):=r.append hd
 have hl:(us++ds).length=ps.length:=by rw[<-r2.length];exact F.len _ _ _ _ h
 refine wpAny_call (codeAny_mono (F.run X.A X.stack s H ⟨us,[]⟩ (us++ds) (vs++dvs) Q E hr I.env0 (hb s us I.kIn hl) r2 h) fun r s' hq=>?_)
 cases r with
 | error e=>exact hx pins σ H s e s' I hq
 | ok fl =>
  cases fl with
  | ret u=>exact I.after hq
  | next=>exact False.elim hq
  | brk=>exact False.elim hq
  | cont=>exact False.elim hq
theorem pe_call(F:FnOk X.prog X.w X.K X.mg X.base CX k f fd ps sp)(hr:Room k X.A)(hg:Gl X x)(hm:X.mg x=some (.ref f))(hk:PySem.W.keepIn X.K (.ref f)=true)(hb:Binds X.K fd ps ds)(hd:Vals dvs ds)(hx:Passes CX X E)
  (ha:PA X (e::es) t) (hdb:(x==("__debug__":Str))=false:=by decide) (he:starEach (e::es) X.env=(false,eval e X.env)::starEach es X.env:=by rfl) (hpl:(backTo pos (starEach es X.env)).any (·.1)=false:=by rfl) :
  PE X (.Call (.Name x p) (e::es) [] pos) (tCall sp dvs E t):=by
 intro pins s σ H Q I h
 refine wpAny_Call_Name_kw (ld_glob I hg hm ?_ hdb)
 refine PySem.W.callWith_K (h₀:=X.base) I.ok.mod.kin hk (thn (ha pos pins s σ H _ I h) fun us s1 ⟨vs,H1,I1,r,q⟩=>⟨I1.kIn,?_⟩) he hpl
 exact run_fn F hr hb hd hx I1 r q
theorem pe_call0(F:FnOk X.prog X.w X.K X.mg X.base CX k f fd ps sp)(hr:Room k X.A)(hg:Gl X x)(hm:X.mg x=some (.ref f))(hk:PySem.W.keepIn X.K (.ref f)=true)(hb:Binds X.K fd ps ds)(hd:Vals dvs ds)(hx:Passes CX X E)
  (hdb:(x==("__debug__":Str))=false:=by decide):PE X (.Call (.Name x p) [] [] pos) (tCall sp dvs E tNil):=by
 intro pins s σ H Q I h
 refine wpAny_Call_Name_kw (ld_glob I hg hm ?_ hdb)
 exact PySem.W.callWith_K0 I.kIn hk (run_fn (us:=[]) F hr hb hd hx I .nil h)
structure Mk (K:PySem.W.Frag) (C f:Addr):Prop where
 makes:PySem.W.makesIn K C=true
 init:PySem.W.findIn K (.ref C) "__init__" = some (some (.ref f))
 fn:PySem.W.isFn K (.ref f)=true
 kp:PySem.W.keepIn K (.ref C)=true
theorem run_make{pins:List (Addr×Obj)}{σ:St}{H:Hp}{s:Shared}{Q:VK}{us:List Value}{vs:List V}(M:Mk X.K C f)(F:FnOk X.prog X.w X.K X.mg X.base CX k f fd ps sp)(hr:Room (k+1) X.A)(hb:Binds X.K fd ps ds)(hd:Vals dvs ds)
  (hx:Passes CX X E) (I:Inv X pins σ H s) (r:Vals vs us)
  (h:∀x dx,H x=none->H dx=none->dx≠x->sp (.ref x::(vs++dvs)) (upd (upd H dx (.own x)) x (.ins C dx [])) (fun v H2=>v=.non/\Q (.ref x) H2) E) :
  wpAny (model X.prog X.w) X.A (call (.ref C) us) (EP X pins σ Q) X.xe s:=by
 have hq:=h (s.heap.objs.size+1) s.heap.objs.size (I.hok.fresh (Nat.le_succ _)) (I.hok.fresh (Nat.le_refl _)) (Nat.ne_of_lt (Nat.lt_succ_self _))
 have I2:=Inv.made (C:=C) I
 have r2:Vals (V.ref (s.heap.objs.size+1)::(vs++dvs)) (Value.ref (s.heap.objs.size+1)::(us++ds)):=.cons rfl (r.append hd)
 have hl:(Value.ref (s.heap.objs.size+1)::us++ds).length=ps.length:=by
  have e:=r2.length
  rw[F.len _ _ _ _ hq] at e
  exact e.symm
 refine wpAny_call (make_map (f:=f) I.kIn M.makes M.init (beq_iff_eq.mp M.fn) (codeAny_mono (F.run _ X.stack _ _ ⟨Value.ref (s.heap.objs.size+1)::us,[]⟩ (Value.ref (s.heap.objs.size+1)::(us++ds)) _ _ E (hr.make C us [])
  (I2.env0.make C us []) (hb _ (Value.ref (s.heap.objs.size+1)::us) I2.kIn hl) r2 hq) fun r s' hq'=>?_))
 cases r with
 | error e=>exact hx pins σ _ _ e s' I2 hq'
 | ok fl =>
  cases fl with
  | ret u =>
   obtain⟨v,H',I3,rv,ev,q3⟩:=I2.after hq'
   subst ev
   exact⟨rv,⟨V.ref (s.heap.objs.size+1),H',I3,rfl,q3⟩⟩
  | next=>exact False.elim hq'
  | brk=>exact False.elim hq'
  | cont=>exact False.elim hq'
theorem pe_make(M:Mk X.K C f)(F:FnOk X.prog X.w X.K X.mg X.base CX k f fd ps sp)(hr:Room (k+1) X.A)(hg:Gl X x)(hm:X.mg x=some (.ref C))(hb:Binds X.K fd ps ds)(hd:Vals dvs ds)(hx:Passes CX X E)
  (ha:PA X (e::es) t) (hdb:(x==("__debug__":Str))=false:=by decide) (he:starEach (e::es) X.env=(false,eval e X.env)::starEach es X.env:=by rfl) (hpl:(backTo pos (starEach es X.env)).any (·.1)=false:=by rfl) :
  PE X (.Call (.Name x p) (e::es) [] pos) (tMake C sp dvs E t):=by
 intro pins s σ H Q I h
 refine wpAny_Call_Name_kw (ld_glob I hg hm ?_ hdb)
 refine PySem.W.callWith_K (h₀:=X.base) I.ok.mod.kin M.kp (thn (ha pos pins s σ H _ I h) fun us s1 ⟨vs,H1,I1,r,q⟩=>⟨I1.kIn,?_⟩) he hpl
 exact run_make M F hr hb hd hx I1 r q
theorem pe_make0(M:Mk X.K C f)(F:FnOk X.prog X.w X.K X.mg X.base CX k f fd ps sp)(hr:Room (k+1) X.A)(hg:Gl X x)(hm:X.mg x=some (.ref C))(hb:Binds X.K fd ps ds)(hd:Vals dvs ds)(hx:Passes CX X E)
  (hdb:(x==("__debug__":Str))=false:=by decide):PE X (.Call (.Name x p) [] [] pos) (tMake C sp dvs E tNil):=by
 intro pins s σ H Q I h
 refine wpAny_Call_Name_kw (ld_glob I hg hm ?_ hdb)
 exact PySem.W.callWith_K0 I.kIn M.kp (run_make (us:=[]) M F hr hb hd hx I .nil h)
end
section
variable {X:Cx} {CX:CXT} {k:Nat} {f C:Addr} {fd:FuncData} {ps ks:List Str} {sp:Sp} {E:XK} {x m:Str} {p pos apos kpos:Pos} {e o:Expr} {es:List Expr} {kws:List Keyword} {te ta:TE} {t tk:TA} {nm:Option Str}
variable {g:List Value->List Value->List Value} {gV:List V->List V->List V}
end
structure FnScope (N P:List Str) (sc:Scope):Prop where
 kind:sc.kind=.function
 co:sc.isCoroutine=false
 gen:sc.isGenerator=false
 nd:N.Nodup
 pre:N.take P.length=P
 par:∀x∈P,sc.names.lookup x=some .local\/sc.names.lookup x=some .cell
 nofree:∀y∈sc.names,y.2≠.free
theorem bindL_out{kindOf:Str->Option NameKind}{x:Str}:∀{binds:List (Str×Value)} {m:Str->Option Value},(∀v,(x,v)∉binds)->bindL kindOf binds m x=m x
 | [],_,_=>rfl
 | (n,v)::r,m,h=>by
  unfold bindL
  rw[bindL_out fun w hw=>h w (List.mem_cons_of_mem _ hw)]
  split
  ·have:x≠n:=by rintro rfl;exact h v List.mem_cons_self
   simp[this]
  ·rfl
theorem bindC_out{kindOf:Str->Option NameKind}{x:Str}:∀{binds:List (Str×Value)} {m:Str->Option Value},(∀v,(x,v)∉binds)->bindC kindOf binds m x=m x
 | [],_,_=>rfl
 | (n,v)::r,m,h=>by
  unfold bindC
  rw[bindC_out fun w hw=>h w (List.mem_cons_of_mem _ hw)]
  split
  ·rfl
  ·have:x≠n:=by rintro rfl;exact h v List.mem_cons_self
   simp[this]
theorem bindL_get{kindOf:Str->Option NameKind}{x:Str}{v:Value}:∀{P:List Str} {vs:List Value} {i:Nat} {m:Str->Option Value},P.Nodup->P[i]?=some x->vs[i]?=some v->kindOf x=some .local ->
  bindL kindOf (P.zip vs) m x=some v
 | [],_,_,_,_,h,_,_=>by simp at h
 | _::_,[],_,_,_,_,h,_=>by simp at h
 | p::P,w::vs,0,m,nd,h1,h2,hk=>by
  simp at h1 h2;subst h1;subst h2
  show bindL kindOf ((p,w)::P.zip vs) m p=_
  unfold bindL
  rw[bindL_out fun v hv=>(List.nodup_cons.mp nd).1 (List.of_mem_zip hv).1,if_pos hk]
  simp
 | p::P,w::vs,i+1,m,nd,h1,h2,hk=>by
  show bindL kindOf ((p,w)::P.zip vs) m x=_
  unfold bindL
  exact bindL_get (i:=i) (List.nodup_cons.mp nd).2 (by simpa using h1) (by simpa using h2) hk
theorem bindC_get{kindOf:Str->Option NameKind}{x:Str}{v:Value}:∀{P:List Str} {vs:List Value} {i:Nat} {m:Str->Option Value},P.Nodup->P[i]?=some x->vs[i]?=some v->kindOf x≠some .local ->
  bindC kindOf (P.zip vs) m x=some v
 | [],_,_,_,_,h,_,_=>by simp at h
 | _::_,[],_,_,_,_,h,_=>by simp at h
 | p::P,w::vs,0,m,nd,h1,h2,hk=>by
  simp at h1 h2;subst h1;subst h2
  show bindC kindOf ((p,w)::P.zip vs) m p=_
  unfold bindC
  rw[bindC_out fun v hv=>(List.nodup_cons.mp nd).1 (List.of_mem_zip hv).1,if_neg hk]
  simp
 | p::P,w::vs,i+1,m,nd,h1,h2,hk=>by
  show bindC kindOf ((p,w)::P.zip vs) m x=_
  unfold bindC
  exact bindC_get (i:=i) (List.nodup_cons.mp nd).2 (by simpa using h1) (by simpa using h2) hk
noncomputable def start(N:List Str)(vs:List V):St:=vs.map some++List.replicate (N.length-vs.length) none
noncomputable def cxOf(CX:CXT)(P:Program)(w:World)(K:PySem.W.Frag)(mg:Str->Option Value)(base:Heap)(N:List Str)(qual:Str)(scope:Scope)(f:Addr)(cd:Value)(A:Around)(outer:List Env)(s:Shared)(H:Hp)(E:XK):Cx where
 prog:=P
 w:=w
 K:=K
 mg:=mg
 base:=base
 A:=A.deeper (envOfC qual scope s.heap.objs.size f cd)
 N:=N
 s₀:=s
 H₀:=H
 env:=envOfC qual scope s.heap.objs.size f cd
 outer:=outer
 stack:=envOfC qual scope s.heap.objs.size f cd::outer
 ex:=[]
 calm:=true
 fn:=fun _=>true
 pn:=[]
 xe:=fun e s'=>wpAny (model P w) (A.deeper (envOfC qual scope s.heap.objs.size f cd)) (leaving (envOfC qual scope s.heap.objs.size f cd) e) (fun _ s''=>CX outer H s E e s'') (fun e' s''=>CX outer H s E e' s'') s'
theorem cell_has{sc:Scope}{n:Nat}{x:Str}(h:sc.names.lookup x=some .cell):∃c,(cellsFrom n sc.names []).lookup x=some c:=by
 have q:=PySem.W.cellsFrom_some sc.names n [] (.inl h)
 exact Option.isSome_iff_exists.mp q
theorem inv_start{CX:CXT}{P:Program}{w:World}{K:PySem.W.Frag}{mg:Str->Option Value}{base:Heap}{N ps:List Str}{qual:Str}{scope:Scope}{f:Addr}{cd:Value}{A:Around}{outer:List Env}{s s1:Shared}{H:Hp}{E:XK}{us:List Value}{vs:List V}
  (S:FnScope N ps scope) (hd:A.handled=none) (e0:Env0 P w K mg base A outer s H) (hl:vs.length=ps.length) (r:Vals vs us)
  (x:InCallC s s.heap.objs.size (bindL (envOfC qual scope s.heap.objs.size f cd).kindOf (ps.zip us) fun _=>none) (cellsFrom (s.heap.objs.size+1) scope.names []) (bindC (envOfC qual scope s.heap.objs.size f cd).kindOf (ps.zip us) fun _=>none) s1) :
  Inv (cxOf CX P w K mg base N qual scope f cd A outer s H E) [] (start N vs) H s1:=by
 have hpl:ps.length<=N.length:=by have:=congrArg List.length S.pre;rw[List.length_take] at this;omega
 obtain⟨h1,tk,rfl,hk⟩:=x.done
 have noA:∀b:Addr,b∉(cxOf CX P w K mg base N qual scope f cd A outer s H E).ex:=fun b z=>absurd (show b∈([]:List Addr) from z) (by simp)
 refine⟨⟨e0.mod,S.kind,rfl,rfl,Nat.le_refl _,fun y z c h1 h2=>?_,fun y hy=>?_,fun y c _ h=>?_,fun _=>hd,Around.frames_deeper e0.frames,.inr ⟨rfl,rfl⟩,fun b z=>absurd z (noA b),e0.bs,e0.bsz,fun b _ _=>noA b,fun b z=>absurd z (noA b),e0.funs,e0.frf⟩,
  rfl,e0.bare,Un.kept hk,⟨_,x.toInCall.ns,fun i y v h1 h2 h3=>?_⟩,fun y c h=>⟨_,x.cell y c h⟩,e0.hok.fresh (Nat.le_refl _),fun y c h=>?_,fun p hp=>absurd (show p∈([]:List (Addr×Obj)) from hp) (by simp),e0.hok.kept hk,?_⟩
 ·exact name_of_addr x.apart (PySem.mem_of_lookup h1) (PySem.mem_of_lookup h2)
 ·have hy:scope.names.lookup y=some .cell\/scope.names.lookup y=some .free:=hy
  rcases hy with hy|hy
  ·exact cell_has hy
  ·exact absurd rfl (S.nofree _ (PySem.mem_of_lookup hy))
 ·exact Nat.le_of_lt (x.above y c (PySem.mem_of_lookup h))
 ·have hi:i<vs.length:=by
   unfold start at h2
   by_cases hi:i<vs.length
   ·exact hi
   ·rw[List.getElem?_append_right (by simpa using hi)] at h2
    rw[List.getElem?_replicate] at h2
    split at h2<;>cases h2
  have ha:vs[i]?=some v:=by
   unfold start at h2
   rw[List.getElem?_append_left (by simpa using hi),List.getElem?_map] at h2
   cases e:vs[i]? with
   | none=>rw[e] at h2;cases h2
   | some a=>rw[e] at h2;cases h2;rfl
  obtain⟨u,hu,rv⟩:=r.get ha
  have hp:ps[i]?=some y:=by
   rw[<-S.pre,List.getElem?_take_of_lt (by omega)];exact h1
  have ndP:ps.Nodup:=by rw[<-S.pre];exact S.nd.sublist (List.take_sublist _ _)
  refine⟨u,rv,?_⟩
  rcases S.par y (List.mem_of_getElem? hp) with k|k
  ·exact .inl ⟨k,bindL_get ndP hp hu k⟩
  ·obtain⟨c,e⟩:=cell_has (n:=s.heap.objs.size+1) k
   refine .inr ⟨.inl k,c,e,?_⟩
   have q:=x.cell y c e
   rw[bindC_get ndP hp hu (by show scope.names.lookup y≠_;rw[k];decide)] at q
   exact q
 ·exact e0.hok.fresh (Nat.le_of_lt (x.above y c (PySem.mem_of_lookup h)))
 ·unfold start
  show _=N.length
  rw[List.length_append,List.length_map,List.length_replicate]
  omega
theorem fn_of{CX:CXT}{P:Program}{w:World}{K:PySem.W.Frag}{mg:Str->Option Value}{base:Heap}{k:Nat}{f:Addr}{name qual:Str}{params:Arguments}{body:List Stmt}{scope:Scope}{dV kV doc pm cdv ct oc:Value}{an od:Option Addr}
  {osl:Array (Option Value)} {N ps:List Str} {sp:Sp} (lk:K.lookup f=some ⟨oc,od,.func (PySem.W.fnOf name qual params body scope dV kV doc pm an cdv ct),osl⟩) (hcd:PySem.W.codeIn K cdv qual=true) (S:FnScope N ps scope)
  (len:∀vs H Q E,sp vs H Q E->vs.length=ps.length)
  (hbody:∀(A:Around) (outer:List Env) (s:Shared) (H:Hp) (vs:List V) (Q:VK) (E:XK),Room k (A.deeper (envOfC qual scope s.heap.objs.size f cdv))->sp vs H Q E ->
   ∃t,PSs (cxOf CX P w K mg base N qual scope f cdv A outer s H E) body t/\t { nx:=fun _ H'=>Q .non H',rt:=Q } (start N vs) H) :
  FnOk P w K mg base CX (k+1) f (PySem.W.fnOf name qual params body scope dV kV doc pm an cdv ct) ps sp:=by
 refine⟨len,fun A outer s H args us vs Q E hr e0 hb r hsp=>?_⟩
 have hl:=len _ _ _ _ hsp
 have KX:K.In s.heap:=e0.mod.kin.keeps fun b o e=>(e0.bs b o e).1
 have lim:s.heap.NoLimit:=e0.mod.nolimit.keeps fun b o e=>(e0.bs b o e).1
 have hkind:∀y∈ps.zip us,scope.names.lookup y.1=some .local\/(scope.names.lookup y.1=some .cell/\((cellsFrom (s.heap.objs.size+1) scope.names []).lookup y.1).isSome=true):=fun⟨n,v⟩ hy=>by
  rcases S.par n (List.of_mem_zip hy).1 with q|q
  ·exact .inl q
  ·exact .inr ⟨q,PySem.W.cellsFrom_some _ _ _ (.inl q)⟩
 refine codeAny_call_function hr.depth (KX _ _ lk) rfl S.co S.gen rfl (PySem.W.codeRec_of KX hcd) (hb _ _ _ _ ?_)
 refine wpAny_newFunctionEnv_cells S.kind hkind fun env he s1 x=>?_
 subst he
 refine⟨lim.keeps x.toInCall.keep,codeAny_func ?_⟩
 obtain⟨t,ht,hq⟩:=hbody A outer s H vs Q E (hr.deeper _) hsp
 have I:Inv (cxOf CX P w K mg base N qual scope f cdv A outer s H E) [] (start N vs) H s1:=inv_start S hr.hd e0 hl r x
 refine wpAny_mono (ht [] s1 (start N vs) H _ I hq) (fun fl s' hs=>?_) fun e s' hs=>hs
 have fin:∀{σ':St} {H':Hp} {v:V} {u:Value},Inv (cxOf CX P w K mg base N qual scope f cdv A outer s H E) [] σ' H' s'->RelV v u->Q v H'->CE outer P w H s Q u s' :=
  fun {σ' H' v u} J rv q=>⟨v,H',J.os,J.bare,J.base,J.hok,rv,q⟩
 cases fl with
 | ret u =>
  obtain⟨v,σ',H',J,rv,q⟩:=hs
  exact fin J rv q
 | next =>
  obtain⟨σ',H',J,q⟩:=hs
  exact fin (v:=V.non) (u:=Value.none) J rfl q
 | brk =>
  obtain⟨_,_,_,q⟩:=hs
  exact False.elim q
 | cont =>
  obtain⟨_,_,_,q⟩:=hs
  exact False.elim q
end L2
namespace L2
open PySem PySem.Spec PyProof.Rows
section
variable {X:Cx} {x:Str} {p pos:Pos} {e:Expr} {es:List Expr} {t:TA} {id T:String} {r:List V->Hp->VK->Prop}
noncomputable def tCB(r:List V->Hp->VK->Prop)(t:TA):TE:=fun σ H Q=>t σ H fun vs H1=>r vs H1 Q
theorem pe_callB(hc:CallR X (.builtin id) r)(hg:Gl X x)(hm:X.mg x=none)(hv:bootBuiltins x=some (.builtin id))(ha:PA X (e::es) t)(hn:x ≠ "__name__":=by decide)(hdb:(x==("__debug__":Str))=false:=by decide)
  (he:starEach (e::es) X.env=(false,eval e X.env)::starEach es X.env:=by rfl) (hpl:(backTo pos (starEach es X.env)).any (·.1)=false:=by rfl):PE X (.Call (.Name x p) (e::es) [] pos) (tCB r t):=by
 intro pins s σ H Q I h
 refine wpAny_Call_Name_kw (ld_blt I hg hm hv ?_ hn hdb)
 exact PyProof.Rows.callWith_builtin1 (thn (ha pos pins s σ H _ I h) fun us s1 ⟨vs,H1,I1,r1,q1⟩=>hc pins s1 σ H1 vs us Q I1 r1 q1) he hpl
theorem pe_callTy(hc:CallR X (.type T) r)(hg:Gl X x)(hm:X.mg x=none)(hv:bootBuiltins x=some (.type T))(ha:PA X (e::es) t)(hn:x ≠ "__name__":=by decide)(hdb:(x==("__debug__":Str))=false:=by decide)
  (he:starEach (e::es) X.env=(false,eval e X.env)::starEach es X.env:=by rfl) (hpl:(backTo pos (starEach es X.env)).any (·.1)=false:=by rfl):PE X (.Call (.Name x p) (e::es) [] pos) (tCB r t):=by
 intro pins s σ H Q I h
 refine wpAny_Call_Name_kw (ld_blt I hg hm hv ?_ hn hdb)
 exact PyProof.Rows.callWith_type1 (thn (ha pos pins s σ H _ I h) fun us s1 ⟨vs,H1,I1,r1,q1⟩=>hc pins s1 σ H1 vs us Q I1 r1 q1) he hpl
end
end L2
namespace HT
open PySem PyProof.Rows
noncomputable def lexLt:List Int->List Int->Bool
 | [],[]=>false
 | [],_::_=>true
 | _::_,[]=>false
 | x::xs,y::ys=>if x=y then lexLt xs ys else decide (x<y)
theorem lexLt_cons(x y:Int)(xs ys:List Int):lexLt (x::xs) (y::ys)=if x=y then lexLt xs ys else decide (x<y):=rfl
theorem lexLt_nil_nil:lexLt [] []=false:=rfl
theorem lexLt_nil_cons(y:Int)(ys:List Int):lexLt [] (y::ys)=true:=rfl
theorem lexLt_cons_nil(x:Int)(xs:List Int):lexLt (x::xs) []=false:=rfl
section
open PySem.SeqAt
open PySem.AutoSeq1 (wpAny_loadPart')
open PySem.MeetsSeq PySem.MeetsSeq2 PySem.MeetsSeq3
end
section
variable {prog:Program} {w:World} {A:Around} {E:Value->Shared->Prop} {s:Shared}
theorem cat_tup{t b:Addr}{vs ws:List Value}{Q:Value->Shared->Prop}(ht:IsTup s.heap t vs.toArray)(hb:IsTup s.heap b ws.toArray)(hv:vs≠[])
  (h1:ws=[]->Q (.ref t) s) (h2:ws≠[]->Q (.ref s.heap.objs.size) { s with heap:=s.heap.push { cls:=.type "tuple",data:=.seq (vs++ws).toArray } })
  (hsz:vs.length+ws.length<=sizeLine):wpAny (model prog w) A (binaryOp .Add (.ref t) (.ref b)) Q E s:=by
 obtain⟨⟨cls,dd,data,sl⟩,ho,hc,n,hd⟩:=id ht
 obtain⟨⟨cls2,dd2,data2,sl2⟩,ho2,hc2,n2,hd2⟩:=id hb
 simp only at hc hd hc2 hd2
 subst hc hd hc2 hd2
 have e:vs.toArray++ws.toArray=(vs++ws).toArray:=by simp
 by_cases hw:ws=[]
 ·exact concat_meets ⟨_,ho,rfl⟩ ⟨_,ho2,rfl⟩ noFill_tuple_add seq_tuple_add PySem.F.slot_tuple_add PySem.F.entry_tuple_add (PySem.F.args_tuple_add_2 _ _)
   (tuple_addW1 t b vs.toArray ws.toArray n n2 dd dd2 sl sl2 (by simpa using hv) (by simp[hw])) ⟨ho,ho2,h1 hw⟩
 ·refine concat_meets ⟨_,ho,rfl⟩ ⟨_,ho2,rfl⟩ noFill_tuple_add seq_tuple_add PySem.F.slot_tuple_add PySem.F.entry_tuple_add (PySem.F.args_tuple_add_2 _ _)
   (tuple_addW2 t b vs.toArray ws.toArray n n2 dd dd2 sl sl2 (by simpa using hv) (by simpa using hw) (by rw[List.size_toArray,List.size_toArray];exact hsz)) ⟨ho,ho2,?_⟩
  rw[e]
  exact h2 hw
noncomputable def sIx(n d:Nat):Option Int->Nat
 | none=>d
 | some v=>if v<0 then (v+(n:Int)).toNat else min v.toNat n
theorem sIx_le(n d:Nat)(hd:d<=n)(o:Option Int):sIx n d o<=n:=by
 cases o with
 | none=>exact hd
 | some v =>
  show (if v<0 then (v+(n:Int)).toNat else min v.toNat n)<=n
  by_cases hv:v<0
  ·rw[if_pos hv];omega
  ·rw[if_neg hv];exact Nat.min_le_right _ _
theorem clip_eq(v:Int)(n d:Nat):(if v<0 then max (v+(n:Int)) 0 else min v (n:Int))=((sIx n d (some v):Nat):Int):=by
 show (if v<0 then max (v+(n:Int)) 0 else min v (n:Int))=(((if v<0 then (v+(n:Int)).toNat else min v.toNat n):Nat):Int)
 by_cases hv:v<0
 ·simp only[if_pos hv];omega
 ·simp only[if_neg hv];omega
theorem adjust_gen(lo hi:Option Int)(n:Nat):Builtin.Slice.sliceAdjust lo hi 1 (n:Int)=(((sIx n 0 lo:Nat):Int),((sIx n n hi:Nat):Int)):=by
 have h1:¬ ((1:Int)<0):=by omega
 unfold Builtin.Slice.sliceAdjust
 simp only[h1,if_false]
 refine Prod.ext ?_ ?_
 ·cases lo with
  | none=>rfl
  | some v=>exact clip_eq v n 0
 ·cases hi with
  | none=>rfl
  | some v=>exact clip_eq v n n
theorem places_gen(i j:Nat):Builtin.Slice.slicePlaces (i:Int) (j:Int) 1=j-i:=by
 unfold Builtin.Slice.slicePlaces
 have h1:(1:Int)>0:=by omega
 simp only[h1,if_true,Int.ediv_one]
 split<;>omega
theorem slicePart_{v:Value}{o:Option Int}{Q:Option Int->Shared->Prop}(p:IsPart v o)(h:Q o s):wpAny (model prog w) A (Builtin.Slice.slicePartIndex v) Q E s:=by
 cases p with
 | none=>exact slicePart_none h
 | int i t=>exact slicePart_int h
theorem sliceApplied_gen{sl:Addr}{vl vu:Value}{lo hi:Option Int}{n:Nat}{Q:Int×Int×Nat->Shared->Prop}(hs:s.heap.IsSliceOf sl vl vu .none)(pl:IsPart vl lo)(pu:IsPart vu hi)
  (h:Q (((sIx n 0 lo:Nat):Int),1,sIx n n hi-sIx n 0 lo) s):wpAny (model prog w) A (Builtin.Slice.sliceApplied (.ref sl) (pure (n:Int))) Q E s:=by
 obtain⟨os,hos,hcs,hds⟩:=id hs
 unfold Builtin.Slice.sliceApplied Builtin.Slice.sliceFields
 refine wpAny_bind (wpAny_bind (wpAny_field hos hds (x:=vl) rfl (wpAny_bind (wpAny_field hos hds (x:=vu) rfl (wpAny_bind (wpAny_field hos hds (x:=.none) rfl (wpAny_pure ?_)))))))
 refine wpAny_bind (slicePart_none ?_)
 show wpAny _ _ (if ((1:Int)==0)=true then _ else _) _ _ s
 rw[if_neg (by decide)]
 refine wpAny_bind (slicePart_ pl (wpAny_bind (slicePart_ pu (wpAny_bind (wpAny_pure ?_)))))
 show wpAny _ _ (match Builtin.Slice.sliceAdjust lo hi 1 (n:Int) with|(lo,hi)=>pure (lo,(1:Int),Builtin.Slice.slicePlaces lo hi 1)) _ _ s
 rw[adjust_gen lo hi n]
 show wpAny _ _ (pure (((sIx n 0 lo:Nat):Int),(1:Int),Builtin.Slice.slicePlaces ((sIx n 0 lo:Nat):Int) ((sIx n n hi:Nat):Int) 1)) _ _ s
 rw[places_gen]
 exact wpAny_pure h
theorem pick_gen(xs:Array Value)(i k:Nat):((List.range k).filterMap fun(m:Nat)=>xs[((i:Int)+(m:Int)*1).toNat]?).toArray=((xs.toList.drop i).take k).toArray:=by
 have e:(fun(m:Nat)=>xs[((i:Int)+(m:Int)*1).toNat]?)=fun m=>xs[i+m]?:=by
  funext m
  have:((i:Int)+(m:Int)*1).toNat=i+m:=by omega
  rw[this]
 rw[e]
 have:=pick_run xs i k
 rw[List.filterMap_map] at this
 have e2:((fun x=>xs[x]?)∘fun x=>i+x)=fun m=>xs[i+m]?:=rfl
 rw[e2] at this
 rw[this]
theorem getItem_tuple_cut{t sl:Addr}{items:Array Value}{vl vu:Value}{lo hi:Option Int}{Q:Value->Shared->Prop}(ht:IsTup s.heap t items)(hs:s.heap.IsSliceOf sl vl vu .none)(pl:IsPart vl lo)(pu:IsPart vu hi)
  (hw:¬ (sIx items.size 0 lo=0/\sIx items.size items.size hi=items.size))
  (h:Q (.ref s.heap.objs.size) { s with heap:=s.heap.push { cls:=.type "tuple",data:=.seq ((items.toList.drop (sIx items.size 0 lo)).take (sIx items.size items.size hi-sIx items.size 0 lo)).toArray } })
  (hsz:items.size<=sizeLine):wpAny (model prog w) A (getItem (.ref t) (.ref sl)) Q E s:=by
 have htake:sizeOk (.seq ((items.toList.drop (sIx items.size 0 lo)).take (sIx items.size items.size hi-sIx items.size 0 lo)).toArray):=by
  show ((items.toList.drop (sIx items.size 0 lo)).take (sIx items.size items.size hi-sIx items.size 0 lo)).toArray.size<=sizeLine
  rw[List.size_toArray,List.length_take,List.length_drop,Array.length_toList]
  omega
 have hj:sIx items.size items.size hi<=items.size:=sIx_le _ _ (Nat.le_refl _) hi
 obtain⟨os,hos,hcs,hds⟩:=id hs
 have hTs:s.TypeIs (.ref sl) "slice":=⟨os,hos,hcs⟩
 unfold getItem
 try with_reducible refine wpAny_holding ?_
 first|refine wpAny_bind (wpAny_pure ?_)|skip
 refine wpAny_bind (wpAny_sequenceKey ht.typeIs (by decide) ?_)
 refine wpAny_bind (wpAny_callSpecial?_slot (name:=Str.ofString "__getitem__") ht.typeIs PyProof.Rows.slot_tuple_getitem
  (wpAny_call_entry PyProof.Rows.slot_tuple_getitem ht.typeIs entry_tuple_getitem ?_ (args_tuple_getitem _ _)))
 show wpAny _ _ (Builtin.Tuple.tupleItemsOf (.ref t) >>= _) _ _ s
 refine wpAny_bind (tupleItemsOf_ ht ?_)
 refine wpAny_bind (wpAny_typeOf hTs ?_)
 rw[if_pos (by decide)]
 refine wpAny_bind (sliceApplied_gen hs pl pu ?_)
 have hno:¬ ((((sIx items.size 0 lo:Nat):Int)==0&&(1:Int)==1&&(sIx items.size items.size hi-sIx items.size 0 lo)==items.size)=true):=by
  intro q
  rw[Bool.and_eq_true,Bool.and_eq_true] at q
  have q1:((sIx items.size 0 lo:Nat):Int)=0:=eq_of_beq q.1.1
  have q2:sIx items.size items.size hi-sIx items.size 0 lo=items.size:=eq_of_beq q.2
  exact hw ⟨by omega,by omega⟩
 show wpAny _ _ (if (((sIx items.size 0 lo:Nat):Int)==0&&(1:Int)==1&&(sIx items.size items.size hi-sIx items.size 0 lo)==items.size)=true then _ else _) _ _ s
 rw[if_neg hno,pick_gen]
 first
  | exact wpAny_bind (m:=Builtin.Tuple.tupleExact _) (wpAny_newObj_type (wpAny_pure ⟨_,rfl,wpAny_pure h⟩) htake)
  | exact wpAny_bind (m:=Builtin.Tuple.tupleExact _) (wpAny_newObj_type (wpAny_bind (wpAny_pure (wpAny_pure ⟨_,rfl,wpAny_pure h⟩))) htake)
  | exact wpAny_bind (wpAny_bind (m:=Builtin.Tuple.tupleExact _) (wpAny_newObj_type (wpAny_pure (wpAny_pure ⟨_,rfl,wpAny_pure h⟩)) htake))
  | exact wpAny_bind (wpAny_bind (m:=Builtin.Tuple.tupleExact _) (wpAny_newObj_type (wpAny_pure ⟨_,rfl,wpAny_pure h⟩) htake))
end
end HT
namespace L2
open PySem PySem.Spec PyProof.Rows
noncomputable abbrev TO:=St->Hp->(Option Int->Hp->Prop)->Prop
noncomputable def PO(X:Cx)(e:Option Expr)(t:TO):Prop :=
 ∀(pins:List (Addr×Obj)) (s:Shared) (σ:St) (H:Hp) (Q:Option Int->Hp->Prop),Inv X pins σ H s->t σ H Q ->
  wpAny (model X.prog X.w) X.A (evalPart e X.env) (fun u s'=>∃o H',Inv X pins σ H' s'/\IsPart u o/\Q o H') X.xe s
noncomputable def tNoPart:TO:=fun _ H Q=>Q none H
noncomputable def tPart(t:TE):TO:=fun σ H Q=>t σ H fun x H1=>∃i,x=.int i/\Q (some i) H1
theorem intsAre_of{ns:List Int}:∀{us:List Value},Vals (ns.map V.int) us->IntsAre us ns:=by
 induction ns with
 | nil=>intro us r;rw[List.map_nil] at r;cases r;exact .nil
 | cons n ns ih =>
  intro us r
  rw[List.map_cons] at r
  cases r with
  | cons r1 r2 =>
   obtain⟨t,e⟩:=r1
   subst e
   exact .cons n t (ih r2)
section
variable {X:Cx} {e:Expr} {te:TE} {lo hi:Option Expr} {tl th:TO} {pos p2:Pos}
theorem po_none:PO X none tNoPart:=by
 intro pins s σ H Q I h
 rw[evalPart_none]
 exact wpAny_pure ⟨none,H,I,.none,h⟩
theorem po_some(h:PE X e te):PO X (some e) (tPart te):=by
 intro pins s σ H Q I hw
 rw[evalPart_some]
 refine thn (h pins s σ H _ I hw) fun u s1 zz0=>?_
 obtain⟨x,H1,I1,r1,q1⟩:=zz0
 obtain⟨i,rfl,q⟩:=q1
 obtain⟨t,rfl⟩:=r1
 exact⟨some i,H1,I1,.int i t,q⟩
noncomputable def SlR(X:Cx)(r:V->Option Int->Option Int->Hp->VK->Prop):Prop :=
 ∀(pins:List (Addr×Obj)) (s:Shared) (σ:St) (H:Hp) (x:V) (v vl vu:Value) (lo hi:Option Int) (sl:Addr) (Q:VK),Inv X pins σ H s->RelV x v->s.heap.IsSliceOf sl vl vu .none->IsPart vl lo->IsPart vu hi->r x lo hi H Q ->
  ∃T id,typeLookup (.type T) "__getitem__" = pure (some (.builtin id))/\s.TypeIs v T/\wpAny (model X.prog X.w) X.A (getItem v (.ref sl)) (EP X pins σ Q) X.xe s
noncomputable def tSl(r:V->Option Int->Option Int->Hp->VK->Prop)(te:TE)(tl th:TO):TE:=fun σ H Q=>te σ H fun x H1=>tl σ H1 fun l H2=>th σ H2 fun u H3=>r x l u H3 Q
theorem pe_slice{r:V->Option Int->Option Int->Hp->VK->Prop}(hr:SlR X r)(he:PE X e te)(hl:PO X lo tl)(hu:PO X hi th):PE X (.Subscript e (.Slice lo hi none p2) pos) (tSl r te tl th):=by
 intro pins s σ H Q I h
 refine Subscript_ (thn (he pins s σ H _ I h) fun v s1 zz0=>?_)
 obtain⟨x,H1,I1,r1,q1⟩:=zz0
 refine wpAny_Slice (thn (hl pins s1 σ H1 _ I1 q1) fun vl s2 ⟨l,H2,I2,pl,q2⟩=>thn (hu pins s2 σ H2 _ I2 q2) fun vu s3 zz0=>?_)
 obtain⟨u,H3,I3,pu,q3⟩:=zz0
 rw[evalPart_none]
 refine wpAny_pure ?_
 have I4:Inv X pins σ H3 { s3 with heap:=s3.heap.push { cls:=.type "slice",data:=.fields #[vl,vu,.none] } }:=I3.kept (t':=s3.toks) fun b ob q=>Heap.get?_push_of_some _ q
 obtain⟨T,id,hT,ht,hg⟩:=hr pins { s3 with heap:=s3.heap.push { cls:=.type "slice",data:=.fields #[vl,vu,.none] } } σ H3 x v vl vu l u s3.heap.objs.size Q I4 r1 (Heap.IsSliceOf.new ..) pl pu q3
 show wpAny (model X.prog X.w) X.A (subscriptTail e (.Slice lo hi none p2) v (.ref s3.heap.objs.size)) (EP X pins σ Q) X.xe { s3 with heap:=s3.heap.push { cls:=.type "slice",data:=.fields #[vl,vu,.none] } }
 exact tail_any (ops:=[.ref s3.heap.objs.size,v]) ht hT hg (by with_unfolding_all rfl)
noncomputable def cutV(xs:List V)(lo hi:Option Int):List V:=(xs.drop (HT.sIx xs.length 0 lo)).take (HT.sIx xs.length xs.length hi-HT.sIx xs.length 0 lo)
theorem cutV_length(xs:List V)(lo hi:Option Int):(cutV xs lo hi).length<=xs.length:=by
 unfold cutV
 rw[List.length_take,List.length_drop]
 omega
noncomputable def rSlT(K:PySem.W.Frag):V->Option Int->Option Int->Hp->VK->Prop:=fun x lo hi H Q=>∃a xs,x=.ref a/\SqT K H a xs /\
 ¬ (HT.sIx xs.length 0 lo=0/\HT.sIx xs.length xs.length hi=xs.length)/\∀p,H p=none->Q (.ref p) (upd H p (.tup (cutV xs lo hi)))
theorem sl_tup:SlR X (rSlT X.K):=by
 intro pins s σ H x v vl vu lo hi sl Q I rx hs pl pu h
 obtain⟨a,xs,rfl,hx,hw,q⟩:=h
 cases rx
 obtain⟨its,r,ht,hz⟩:=I.tuple hx
 have hlen:its.toArray.size=xs.length:=by rw[List.size_toArray];exact r.length.symm
 refine⟨"tuple",_,PyProof.Rows.slot_tuple_getitem.lookup,ht.typeIs,?_⟩
 refine HT.getItem_tuple_cut ht hs pl pu (by rw[hlen];exact hw) ?_ (by rw[hlen];exact hz)
 rw[hlen]
 refine⟨.ref s.heap.objs.size,_,I.laid (t':=s.toks) (o:=.tup (cutV xs lo hi)) (fun b ob q=>Heap.get?_push_of_some _ q) (Nat.le_refl _) ?_,rfl,q _ (I.hok.fresh (Nat.le_refl _))⟩
 exact⟨Nat.le_trans (cutV_length xs lo hi) hz,_,(r.drop (HT.sIx xs.length 0 lo)).take (HT.sIx xs.length xs.length hi-HT.sIx xs.length 0 lo),IsTup.new _ _⟩
noncomputable def rCatT(K:PySem.W.Frag):R2:=fun x y H Q=>∃a b xs ys,x=.ref a/\y=.ref b/\SqT K H a xs/\SqT K H b ys/\xs≠[]/\xs.length+ys.length<=sizeLine /\
 (ys=[]->Q (.ref a) H)/\(ys≠[]->∀p,H p=none->Q (.ref p) (upd H p (.tup (xs++ys))))
theorem Vals.nil_iff{xs:List V}{us:List Value}(r:Vals xs us):us=[]↔xs=[]:=by
 cases r with
 | nil=>simp
 | cons _ _=>simp
theorem op_catT:OpR X (binaryOp .Add) (rCatT X.K):=by
 intro pins s σ H x y v u Q I rx ry h
 obtain⟨a,b,xs,ys,rfl,rfl,ha,hb,hx,hz,q1,q2⟩:=h
 cases rx
 cases ry
 obtain⟨its,r1,p1,_⟩:=I.tuple ha
 obtain⟨its2,r2,p2,_⟩:=I.tuple hb
 refine HT.cat_tup p1 p2 (fun z=>hx (r1.nil_iff.mp z)) (fun z=>⟨.ref a,H,I,rfl,q1 (r2.nil_iff.mp z)⟩) (fun z=>?_) (by rw[<-r1.length,<-r2.length];exact hz)
 refine⟨.ref s.heap.objs.size,_,I.laid (t':=s.toks) (o:=.tup (xs++ys)) (fun b ob q=>Heap.get?_push_of_some _ q) (Nat.le_refl _) ?_,rfl,q2 (fun w=>z (r2.nil_iff.mpr w)) _ (I.hok.fresh (Nat.le_refl _))⟩
 exact⟨by rw[List.length_append];exact hz,_,r1.append r2,IsTup.new _ _⟩
end
end L2
namespace L2
open PySem PySem.Spec PyProof.Rows
noncomputable def ixN(n:Nat)(i:Int):Option Nat:=if 0<=i then (if i<n then some i.toNat else none) else if -(n:Int)<=i then some (i+n).toNat else none
noncomputable def atI{α:Type}(xs:List α)(i:Int):Option α:=(ixN xs.length i).bind fun j=>xs[j]?
theorem ixN_seq{n:Nat}{i:Int}{j:Nat}(h:ixN n i=some j):seqIndex? i n=some j/\j<n /\ -(n:Int)<=i/\i<n:=by
 unfold ixN at h
 by_cases h0:0<=i
 ·rw[if_pos h0] at h
  by_cases h1:i<n
  ·rw[if_pos h1] at h
   have e:i.toNat=j:=Option.some.inj h
   exact⟨by rw[seqIndex_of h0 h1,e],by omega,by omega,h1⟩
  ·rw[if_neg h1] at h;cases h
 ·rw[if_neg h0] at h
  by_cases h1:-(n:Int)<=i
  ·rw[if_pos h1] at h
   have e:(i+n).toNat=j:=Option.some.inj h
   exact⟨by rw[seqIndex_neg (by omega) h1,e],by omega,h1,by omega⟩
  ·rw[if_neg h1] at h;cases h
theorem atI_get{α:Type}{xs:List α}{i:Int}{v:α}(h:atI xs i=some v):∃j,seqIndex? i xs.length=some j/\xs[j]?=some v/\j<xs.length /\ -(xs.length:Int)<=i/\i<xs.length:=by
 unfold atI at h
 cases e:ixN xs.length i with
 | none=>rw[e] at h;cases h
 | some j =>
  rw[e] at h
  obtain⟨h1,h2,h3,h4⟩:=ixN_seq e
  exact⟨j,h1,h,h2,h3,h4⟩
theorem atI_nat{α:Type}{xs:List α}{j:Nat}{v:α}(h:xs[j]?=some v):atI xs (j:Int)=some v:=by
 have hj:j<xs.length:=(List.getElem?_eq_some_iff.mp h).1
 have e:ixN xs.length (j:Int)=some j:=by
  unfold ixN
  rw[if_pos (by omega),if_pos (by omega)];simp
 unfold atI;rw[e];exact h
noncomputable def PlainIx(b:Expr):Prop:=∀o i,subscripted b false o i=operate [o,i] (getItem o i)
noncomputable def IxR(X:Cx)(r:R2):Prop :=
 ∀(value slice:Expr) (pins:List (Addr×Obj)) (s:Shared) (σ:St) (H:Hp) (x y:V) (v u:Value) (Q:VK),Inv X pins σ H s->RelV x v->RelV y u->r x y H Q ->
  subscripted slice false v u=operate [v,u] (getItem v u)->wpAny (model X.prog X.w) X.A (subscriptTail value slice v u) (EP X pins σ Q) X.xe s
noncomputable def MtR(X:Cx)(id:String)(r:V->List V->Hp->VK->Prop):Prop :=
 ∀(pins:List (Addr×Obj)) (s:Shared) (σ:St) (H:Hp) (x:V) (xs:List V) (v:Value) (us:List Value) (Q:VK),Inv X pins σ H s->RelV x v->Vals xs us->r x xs H Q ->
  wpAny (model X.prog X.w) X.A (call (.builtin id) (v::us)) (EP X pins σ Q) X.xe s
section
variable {X:Cx} {a b:Expr} {ta tb:TE} {pos:Pos}
theorem pe_ix{r:R2}(hr:IxR X r)(ha:PE X a ta)(hb:PE X b tb)(hs:PlainIx b):PE X (.Subscript a b pos) (tOp r ta tb):=by
 intro pins s σ H Q I h
 exact Subscript_ (binT ha hb I h fun v u s2 x y H2 I2 rx ry q=>hr a b pins s2 σ H2 x y v u Q I2 rx ry q (hs _ _))
noncomputable def rIxL(K:PySem.W.Frag):R2:=fun x y H Q=>∃p xs i v,x=.ref p/\y=.int i/\SqL K H p xs/\atI xs i=some v/\Q v H
noncomputable def rIxT(K:PySem.W.Frag):R2:=fun x y H Q=>∃p xs i v,x=.ref p/\y=.int i/\SqT K H p xs/\atI xs i=some v/\Q v H
noncomputable def rIxS:R2:=fun x y H Q=>∃z i c,x=.str z/\y=.int i/\z.length<=sizeLine/\atI z.cps.toList i=some c/\Q (.str ⟨#[c]⟩) H
theorem ix_list:IxR X (rIxL X.K):=by
 intro value slice pins s σ H x y v u Q I rx ry h hs
 obtain⟨p,xs,i,z,rfl,rfl,hq,he,q⟩:=h
 cases rx
 obtain⟨t,rfl⟩:=ry
 obtain⟨its,r,pl,hz⟩:=I.list hq
 obtain⟨j,h1,h2,h3,h4,h5⟩:=atI_get he
 obtain⟨w,ew,rw'⟩:=r.get h2
 have hl:=r.length
 have hn:=line63
 have fin:EP X pins σ Q w s:=⟨z,H,I,rw',q⟩
 by_cases h0:0<=i
 ·have hj:i.toNat=j:=by
   rw[seqIndex_of h0 h5] at h1
   exact Option.some.inj h1
  exact item_listR pl.isList h0 (by omega) (by rw[hj];simpa using ew) fin hs
 ·have hj:(i+(its.toArray.size:Int)).toNat=j:=by
   rw[seqIndex_neg (by omega) h4] at h1
   rw[List.size_toArray,<-hl]
   exact Option.some.inj h1
  exact subscriptTail_builtinR (x:=w) pl.isList.typeIs slot_list_getitem.lookup
   (wpAny_getItem_list_neg (Q:=fun r s'=>r=w/\EP X pins σ Q r s') pl.isList (by omega) (by rw[List.size_toArray]<;>omega) (by omega) (by rw[hj];simpa using ew) ⟨rfl,fin⟩) hs
theorem ix_tup:IxR X (rIxT X.K):=by
 intro value slice pins s σ H x y v u Q I rx ry h hs
 obtain⟨p,xs,i,z,rfl,rfl,hq,he,q⟩:=h
 cases rx
 obtain⟨t,rfl⟩:=ry
 obtain⟨its,r,pl,hz⟩:=I.tuple hq
 obtain⟨j,h1,h2,h3,h4,h5⟩:=atI_get he
 obtain⟨w,ew,rw'⟩:=r.get h2
 have hl:=r.length
 have hn:=line63
 have fin:EP X pins σ Q w s:=⟨z,H,I,rw',q⟩
 exact subscriptTail_builtinR (x:=w) pl.typeIs slot_tuple_getitem.lookup
  (getItem_tuple (j:=j) (Q:=fun r s'=>r=w/\EP X pins σ Q r s') pl (by omega) (by omega) (by rw[List.size_toArray,<-hl];exact h1) (by simpa using ew) ⟨rfl,fin⟩) hs
theorem ix_str:IxR X rIxS:=by
 intro value slice pins s σ H x y v u Q I rx ry h hs
 obtain⟨z,i,c,rfl,rfl,hz,he,q⟩:=h
 obtain⟨t,rfl⟩:=rx
 obtain⟨t',rfl⟩:=ry
 obtain⟨j,h1,h2,h3,h4,h5⟩:=atI_get he
 have hl:z.cps.toList.length=z.length:=by simp[Str.length]
 rw[hl] at h1 h4 h5
 have hn:=line63
 exact tail_any (typeIs_str s z t) slot_str_getitem.lookup (getItem_str (c:=c) (by
  have e1:decide (i < -(2 ^ 63:Int))=false:=decide_eq_false (by omega)
  have e2:decide (i≥2 ^ 63)=false:=decide_eq_false (by omega)
  rw[e1,e2,Bool.or_false]) (by rw[h1];simpa using h2) ⟨.str ⟨#[c]⟩,H,I.tok _,⟨_,rfl⟩,q⟩) hs
theorem mapSeq_set(its:List Value)(n j:Nat)(u:Value):Obj.mapSeq (·.setIfInBounds j u) { cls:=.type "list",data:=.seq its.toArray n }={ cls:=.type "list",data:=.seq (its.set j u).toArray n }:=by
 simp[Obj.mapSeq]
theorem Inv.lst{pins:List (Addr×Obj)}{σ:St}{H:Hp}{s:Shared}{p:Addr}{xs:List V}(I:Inv X pins σ H s)(h:H p=some (.lst xs)) :
  ∃(its:List Value) (n:Nat),Vals xs its/\s.heap.get? p=some { cls:=.type "list",data:=.seq its.toArray n }/\xs.length<=sizeLine:=by
 obtain⟨z,its,n,r,e⟩:=I.hok p _ h
 exact⟨its,n,r,e,z⟩
theorem Inv.lstUpd{pins:List (Addr×Obj)}{σ:St}{H:Hp}{s:Shared}{p:Addr}{xs ys:List V}{its its':List Value}{n n':Nat}{f:Obj->Obj}(I:Inv X pins σ H s)(h:H p=some (.lst xs))
  (ho:s.heap.get? p=some { cls:=.type "list",data:=.seq its.toArray n }) (hf:f { cls:=.type "list",data:=.seq its.toArray n }={ cls:=.type "list",data:=.seq its'.toArray n' }) (r:Vals ys its') (hz:ys.length<=sizeLine) (t:Nat) :
  Inv X pins σ (upd H p (.lst ys)) { s with heap:=s.heap.update p f,toks:=t }:=by
 have e:(s.heap.update p f).get? p=some { cls:=.type "list",data:=.seq its'.toArray n' }:=by
  rw[Heap.get?_update_self f ho (by rw[hf]<;>rfl),hf]
 refine I.write (x:=p) (e:=p) (by rw[h];trivial) (.inl rfl) (fun b u hb q=>(Heap.get?_update_other _ _ (Ne.symm hb)).trans q) ⟨_,e⟩ ?_
 exact⟨hz,its',n',r,e⟩
noncomputable def rSetL:V->V->V->Hp->(Hp->Prop)->Prop:=fun o i v H Q=>∃p xs k j,o=.ref p/\i=.int k/\H p=some (.lst xs)/\ixN xs.length k=some j/\Q (upd H p (.lst (xs.set j v)))
theorem set_list:PSet X rSetL:=by
 intro pins s σ H o i v ov iv u Q I ro ri rv h
 obtain⟨p,xs,k,j,rfl,rfl,hp,hj,q⟩:=h
 cases ro
 obtain⟨t,rfl⟩:=ri
 obtain⟨its,n,r,ho,hz⟩:=I.lst hp
 obtain⟨h1,h2,h3,h4⟩:=ixN_seq hj
 have hl:=r.length
 have hn:=line63
 have I':Inv X pins σ (upd H p (.lst (xs.set j v))) { s with heap:=s.heap.update p (Obj.mapSeq (·.setIfInBounds j u)) } :=
  I.lstUpd hp ho (mapSeq_set its n j u) (r.set rv j) (by rw[List.length_set];exact hz) s.toks
 by_cases h0:0<=k
 ·have hk:k.toNat=j:=by
   rw[seqIndex_of h0 h4] at h1
   exact Option.some.inj h1
  exact PySem.W.ki_setAt ho h0 (by omega) (by rw[List.size_toArray,<-hl];exact h4) (by rw[hk];exact⟨_,I',q⟩)
 ·have hk:(k+(its.toArray.size:Int)).toNat=j:=by
   rw[seqIndex_neg (by omega) h3] at h1
   rw[List.size_toArray,<-hl]
   exact Option.some.inj h1
  exact PySem.W.ki_setBack ho (by omega) (by rw[List.size_toArray,<-hl];exact h3) (by omega) (by rw[hk];exact⟨_,I',q⟩)
theorem slice_bounds(lo hi:Option Int)(n:Nat):(sliceBounds lo hi none n).1=((HT.sIx n 0 lo:Nat):Int)/\(sliceBounds lo hi none n).2.1=((HT.sIx n n hi:Nat):Int)/\(sliceBounds lo hi none n).2.2=1:=by
 refine⟨?_,?_,rfl⟩
 ·cases lo with
  | none=>simp[sliceBounds,HT.sIx]
  | some i =>
   simp only[sliceBounds,HT.sIx,Option.getD_none,show (1:Int)>0 by decide,if_true]
   by_cases h:i<0
   ·simp only[h,if_true]<;>omega
   ·simp only[h,if_false]<;>omega
 ·cases hi with
  | none=>simp[sliceBounds,HT.sIx]
  | some i =>
   simp only[sliceBounds,HT.sIx,Option.getD_none,show (1:Int)>0 by decide,if_true]
   by_cases h:i<0
   ·simp only[h,if_true]<;>omega
   ·simp only[h,if_false]<;>omega
theorem slicePick_cut(its:List Value)(lo hi:Option Int):slicePick its.toArray lo hi none=((its.drop (HT.sIx its.length 0 lo)).take (HT.sIx its.length its.length hi-HT.sIx its.length 0 lo)).toArray:=by
 obtain⟨h1,h2,h3⟩:=slice_bounds lo hi its.toArray.size
 unfold slicePick
 rw[h1,h2,h3]
 simp only[sliceRange_one,pick_run,List.size_toArray]<;>rfl
noncomputable def rSlL(K:PySem.W.Frag):V->Option Int->Option Int->Hp->VK->Prop:=fun x lo hi H Q=>∃a xs,x=.ref a/\SqL K H a xs/\∀p,H p=none->Q (.ref p) (upd H p (.lst (cutV xs lo hi)))
theorem sl_list:SlR X (rSlL X.K):=by
 intro pins s σ H x v vl vu lo hi sl Q I rx hs pl pu h
 obtain⟨a,xs,rfl,hx,q⟩:=h
 cases rx
 obtain⟨its,r,ht,hz⟩:=I.list hx
 have hlen:=r.length
 refine⟨"list",_,slot_list_getitem.lookup,ht.isList.typeIs,?_⟩
 refine wpAny_getItem_list_slice ht.isList hs pl pu .none (by simp) ?_ (by rw[List.size_toArray]<;>omega)
 rw[slicePick_cut,<-hlen]
 refine⟨.ref s.heap.objs.size,_,I.laid (t':=s.toks) (o:=.lst (cutV xs lo hi)) (fun b ob q=>Heap.get?_push_of_some _ q) (Nat.le_refl _) ?_,rfl,q _ (I.hok.fresh (Nat.le_refl _))⟩
 exact⟨Nat.le_trans (cutV_length xs lo hi) hz,_,0,(r.drop (HT.sIx xs.length 0 lo)).take (HT.sIx xs.length xs.length hi-HT.sIx xs.length 0 lo),Heap.get?_push_size _ rfl⟩
noncomputable def flatV:V->Bool
 | .non=>true
 | .bl _=>true
 | .int _=>true
 | .str _=>true
 | _=>false
theorem call_list_of:CallR X (.type "list") (fun xs H Q=>∃p ys,xs=[.ref p]/\(SqL X.K H p ys\/SqT X.K H p ys)/\∀l,H l=none->Q (.ref l) (upd H l (.lst ys))):=by
 intro pins s σ H xs us Q I r h
 obtain⟨p,ys,rfl,hq,q⟩:=h
 obtain⟨u,rfl,rx⟩:=vals1 r
 cases rx
 have fin:∀(its:List Value),Vals ys its->ys.length<=sizeLine->∀(h':Heap) (c':Nat),(∀b o',s.heap.get? b=some o'->h'.get? b=some o') ->
   h'.get? s.heap.objs.size=some { cls:=.type "list",dict:=none,data:=.seq its.toArray c',slots:=#[] }->EP X pins σ Q (.ref s.heap.objs.size) { s with heap:=h' }:=fun its r' hz h' c' kp e =>
  ⟨.ref s.heap.objs.size,_,I.laid (t':=s.toks) kp (Nat.le_refl _) (show ObjOk X.prog X.w _ h' _ (.lst ys) from⟨hz,its,c',r',e⟩),rfl,q _ (I.hok.fresh (Nat.le_refl _))⟩
 rcases hq with hq|hq
 ·obtain⟨its,r',pl,hz⟩:=I.list hq
  have hlen:=r'.length
  obtain⟨o,ho,hc,n,hd⟩:=pl.isList
  exact call_list_seq p (.inl rfl) ho hc hd (fun h' c' kp e=>fin its r' hz h' c' kp e) (by simp only[List.size_toArray]<;>omega)
 ·obtain⟨its,r',pl,hz⟩:=I.tuple hq
  have hlen:=r'.length
  obtain⟨o,ho,hc,n,hd⟩:=pl
  exact call_list_seq p (.inr rfl) ho hc hd (fun h' c' kp e=>fin its r' hz h' c' kp e) (by simp only[List.size_toArray]<;>omega)
noncomputable def tyV(K:PySem.W.Frag)(T:String)(x:V)(H:Hp):Prop:=match x with
 | .str _=>T = "str"
 | .int _=>T = "int"
 | .ref p=>(T = "list" /\ ∃xs,SqL K H p xs)\/(T = "tuple" /\ ∃o,K.lookup p=some o/\o.cls=.type "tuple" /\ o.dict=none) \/
   (T = "dict" /\ ((∃kvs,H p=some (.dK kvs))\/∃kvs,H p=some (.dT kvs)))\/(T = "set" /\ ∃S n,H p=some (.set S n))
 | _=>False
theorem tyV_is{pins:List (Addr×Obj)}{σ:St}{H:Hp}{s:Shared}{T:String}{x:V}{v:Value}(I:Inv X pins σ H s)(r:RelV x v)(ty:tyV X.K T x H) :
  s.TypeIs v T/\∀a,v=.ref a->∃ob,s.heap.get? a=some ob/\ob.dict=none:=by
 cases x with
 | str z =>
  obtain⟨t,rfl⟩:=r
  cases (show T = "str" from ty)
  exact⟨typeIs_str s z t,fun _ e=>nomatch e⟩
 | int i =>
  obtain⟨t,rfl⟩:=r
  cases (show T = "int" from ty)
  exact⟨typeIs_int s i t,fun _ e=>nomatch e⟩
 | ref p =>
  cases r
  rcases ty with ⟨rfl,xs,hq⟩|⟨rfl,o,hk,hc,hd⟩|⟨rfl,hk⟩|⟨rfl,S,n,hk⟩
  ·obtain⟨its,_,pl,_⟩:=I.list hq
   refine⟨pl.isList.typeIs,fun a e=>?_⟩
   cases e
   obtain⟨o,n,e,c,hd,_⟩:=pl
   exact⟨o,e,hd⟩
  ·refine⟨⟨o,I.kIn p o hk,hc⟩,fun a e=>?_⟩
   cases e
   exact⟨o,I.kIn _ o hk,hd⟩
  ·have z:∃o,s.heap.get? p=some o/\o.ExactDict:=by
    rcases hk with ⟨kvs,hk⟩|⟨kvs,hk⟩
    ·obtain⟨_,_,_,_,o,_,_,e,ex,_⟩:=I.hok p _ hk
     exact⟨o,e,ex⟩
    ·obtain⟨_,_,_,_,o,_,_,e,ex,_⟩:=I.hok p _ hk
     exact⟨o,e,ex⟩
   obtain⟨o,e,ex⟩:=z
   refine⟨⟨o,e,ex.1⟩,fun a e2=>?_⟩
   cases e2
   exact⟨o,e,ex.2.1⟩
  ·obtain⟨o,_,_,_,e,ex,_⟩:=I.hok p _ hk
   refine⟨⟨o,e,ex.1⟩,fun a e2=>?_⟩
   cases e2
   exact⟨o,e,ex.2.1⟩
 | _=>exact False.elim ty
noncomputable def tBM(K:PySem.W.Frag)(T:String)(r:V->List V->Hp->VK->Prop)(to:TE)(t:TA):TE:=fun σ H Q=>to σ H fun x H1=>tyV K T x H1/\t σ H1 fun xs H2=>r x xs H2 Q
variable {o e:Expr} {es:List Expr} {to:TE} {t:TA} {name:Str} {apos cpos:Pos} {T id:String} {r:V->List V->Hp->VK->Prop}
theorem pe_bm(pa:PlainAttrs T)(slot:Slot T name id)(hty:typeOf (.builtin id)=pure (.type "method_descriptor"))(hm:MtR X id r)(ho:PE X o to)(ha:PA X (e::es) t)
  (hbase:attributeBase o name X.env (eval o X.env)=eval o X.env:=by rfl)
  (hfew:((backTo cpos (starEach (e::es) X.env)).all (fun x=>!x.1)&&(backToKw cpos (keywordEach [] X.env)).all (fun x=>x.1.isSome)
   && decide ((e::es).length+([]:List Keyword).length+(if ([]:List Keyword).isEmpty then 0 else 1)<30))=true:=by rfl)
  (hline:(apos.endLine==cpos.line)=true:=by rfl) (hs:starEach (e::es) X.env=(false,eval e X.env)::starEach es X.env:=by rfl) (hplain:(backTo cpos (starEach es X.env)).any (·.1)=false:=by rfl) :
  PE X (.Call (.Attribute o name apos) (e::es) [] cpos) (tBM X.K T r to t):=by
 intro pins s σ H Q I h
 refine wpAny_Call_method_late hbase hfew hline rfl (thn (ho pins s σ H _ I h) fun v s1 zz0=>?_)
 obtain⟨x,H1,I1,r1,ty,q1⟩:=zz0
 obtain⟨h1,h2⟩:=tyV_is I1 r1 ty
 refine⟨T,id,pa,slot,hty,h1,h2,?_⟩
 have hA:=ha cpos pins s1 σ H1 _ I1 q1
 rw[hs] at hA |-
 refine Calls.callWith_builtin (by show (false||(backTo cpos (starEach es X.env)).any (·.1))=false;rw[hplain]<;>rfl) (Calls.evalArgs_plain ?_)
 exact thn hA fun us s2 ⟨vs,H2,I2,r2,q2⟩=>hm pins s2 σ H2 x vs v us Q I2 r1 r2 q2
/- xs.append(e),list.index on a module's tuple .. are MtR facts of 06m -/
end
end L2
namespace L2
open PySem PySem.Spec PyProof.Rows
noncomputable def MtM(X:Cx)(id:String)(r:V->List V->Hp->VK->Prop):Prop :=
 ∀(pins:List (Addr×Obj)) (s:Shared) (σ:St) (H:Hp) (x:V) (xs:List V) (v:Value) (us:List Value) (Q:VK),Inv X pins σ H s->RelV x v->Vals xs us->r x xs H Q ->
  wpAny (model X.prog X.w) X.A (call (.builtin id) (v::us)) (EP X pins σ Q) X.xe s
theorem Vals.one:∀{x:V} {us:List Value},Vals [x] us->∃u,us=[u]/\RelV x u
 | _,_,.cons r .nil=>⟨_,rfl,r⟩
section
variable {X:Cx} {pins:List (Addr×Obj)} {σ:St} {H:Hp} {s:Shared} {l b:Addr} {xs ys zs:List V}
theorem Inv.lset{its its':List Value}{n:Nat}{f:Array Value->Array Value}{t':Nat}(I:Inv X pins σ H s)(hH:H l=some (.lst xs))
  (e:s.heap.get? l=some { cls:=.type "list",data:=.seq its.toArray n }) (hf:f its.toArray=its'.toArray) (hv:Vals ys its') (hz:ys.length<=sizeLine) :
  Inv X pins σ (upd H l (.lst ys)) { s with heap:=s.heap.update l (Obj.mapSeq f),toks:=t' }:=by
 have q:=PySem.IsL.update e f
 rw[hf] at q
 refine I.write (x:=l) (e:=l) (by rw[hH];exact trivial) (.inl rfl) (fun b' u hb hu=>(Heap.get?_update_other s.heap (Obj.mapSeq f) (Ne.symm hb)).trans hu) ⟨_,q⟩ ?_
 exact⟨hz,its',_,hv,q⟩
theorem Inv.lnew{its:List Value}{t':Nat}(I:Inv X pins σ H s)(hv:Vals ys its)(hz:ys.length<=sizeLine) :
  Inv X pins σ (upd H s.heap.objs.size (.lst ys)) { s with heap:=s.heap.push { cls:=.type "list",data:=.seq its.toArray },toks:=t' } :=
 I.laid (fun _ _ q=>Heap.get?_push_of_some _ q) (Nat.le_refl _) ⟨hz,its,0,hv,Heap.get?_push_size _ rfl⟩
theorem Inv.lstM(I:Inv X pins σ H s)(hH:H l=some (.lst xs)):xs.length<=sizeLine/\∃(its:List Value) (n:Nat),Vals xs its/\xs.length=its.length/\s.heap.get? l=some { cls:=.type "list",data:=.seq its.toArray n }:=by
 obtain⟨z,its,n,r,e⟩:=I.hok l _ hH
 exact⟨z,its,n,r,r.length,e⟩
theorem notLongL{n:Nat}(h:n<=sizeLine):Builtin.List.listTooLong n=false:=by
 unfold Builtin.List.listTooLong
 exact decide_eq_false (by omega)
end
section
variable {X:Cx}
noncomputable def rAppend:V->List V->Hp->VK->Prop:=fun x vs H Q=>∃l xs y,x=.ref l/\vs=[y]/\H l=some (.lst xs)/\xs.length<sizeLine/\Q .non (upd H l (.lst (xs++[y])))
theorem mt_append:MtM X "list.append" rAppend:=by
 intro pins s σ H x vs v us Q I rx rv h
 obtain⟨l,xs,y,rfl,rfl,hH,hz,q⟩:=h
 cases rx
 obtain⟨u,rfl,ru⟩:=rv.one
 obtain⟨z,its,n,r,hl,e⟩:=I.lstM hH
 refine call_meets F.slot_list_append ⟨_,e,rfl⟩ F.entry_list_append (F.args_list_append_2 _ _) (PySem.list_append l its.toArray n u (by rw[List.size_toArray];omega)) ⟨e,?_⟩
 refine⟨.non,_,I.lset (its':=its++[u]) hH e (by simp) (r.append (.cons ru .nil)) ?_,rfl,q⟩
 rw[List.length_append,List.length_singleton]
 omega
noncomputable def rExtend:V->List V->Hp->VK->Prop:=fun x vs H Q=>∃l b xs zs,x=.ref l/\vs=[.ref b]/\H l=some (.lst xs)/\H b=some (.lst zs)/\xs.length+zs.length<=sizeLine/\Q .non (upd H l (.lst (xs++zs)))
theorem mt_extend:MtM X "list.extend" rExtend:=by
 intro pins s σ H x vs v us Q I rx rv h
 obtain⟨l,b,xs,zs,rfl,rfl,hH,hB,hz,q⟩:=h
 cases rx
 obtain⟨u,rfl,ru⟩:=rv.one
 cases ru
 obtain⟨z,its,n,r,hl,e⟩:=I.lstM hH
 obtain⟨z2,its2,n2,r2,hl2,e2⟩:=I.lstM hB
 have hsz:its.toArray.size+its2.toArray.size<=sizeLine:=by rw[List.size_toArray,List.size_toArray];omega
 have hlong:¬ (!its.toArray.isEmpty&&Builtin.List.listTooLong (its.toArray.size+its2.toArray.size))=true:=by
  rw[notLongL hsz,Bool.and_false]
  exact Bool.false_ne_true
 refine call_meets F.slot_list_extend ⟨_,e,rfl⟩ F.entry_list_extend (F.args_list_extend_2 _ _)
  (AutoSeq1.list_extend_list_list_0 l its.toArray n b its2.toArray n2 hlong (by rw[List.size_toArray];omega) (by omega)) ⟨e,e2,?_⟩
 refine⟨.non,_,I.lset (its':=its++its2) hH e (by simp) (r.append r2) ?_,rfl,q⟩
 rw[List.length_append]
 omega
end
section
variable {prog:Program} {w:World} {A:Around} {E:Value->Shared->Prop} {s:Shared}
end
section
variable {X:Cx}
end
end L2
namespace L2
open PySem PySem.Spec PyProof.Rows
section
variable {κ:Type} [DecidableEq κ]
noncomputable def valV(kvs:List (κ × V))(k:κ):Option V:=(kvs.find? fun kv=>decide (kv.1=k)).map (·.2)
noncomputable def putK(kvs:List (κ × V))(k:κ)(v:V):List (κ × V) :=
 if (kvs.any fun kv=>decide (kv.1=k))=true then kvs.map (fun kv=>if kv.1=k then (kv.1,v) else kv) else kvs++[(k,v)]
theorem valV_pos{p:κ × V}{r:List (κ × V)}{k:κ}(e:p.1=k):valV (p::r) k=some p.2:=by simp[valV,List.find?_cons,e]
theorem valV_neg{p:κ × V}{r:List (κ × V)}{k:κ}(e:¬ p.1=k):valV (p::r) k=valV r k:=by simp[valV,List.find?_cons,e]
theorem valV_any(k:κ):∀kvs:List (κ × V),(kvs.any fun kv=>decide (kv.1=k))=(valV kvs k).isSome
 | []=>rfl
 | p::r=>by
  rw[List.any_cons]
  by_cases e:p.1=k
  ·simp only[valV_pos e,decide_eq_true e,Bool.true_or,Option.isSome_some]
  ·rw[valV_neg e,decide_eq_false e,Bool.false_or];exact valV_any k r
theorem length_putK(kvs:List (κ × V))(k:κ)(v:V):(putK kvs k v).length<=kvs.length+1:=by
 unfold putK
 split
 ·rw[List.length_map];omega
 ·rw[List.length_append,List.length_cons,List.length_nil];omega
theorem RelO.isSome_eq{o:Option V}{u:Option Value}(r:RelO o u):o.isSome=u.isSome:=by
 cases o with
 | none=>cases u with
  | none=>rfl
  | some _=>exact(show False from r).elim
 | some _=>cases u with
  | none=>exact(show False from r).elim
  | some _=>rfl
theorem RelO.getD{o:Option V}{u:Option Value}{d:V}{d':Value}(r:RelO o u)(rd:RelV d d'):RelV (o.getD d) (u.getD d'):=by
 cases o with
 | none=>cases u with
  | none=>exact rd
  | some _=>exact(show False from r).elim
 | some _=>cases u with
  | none=>exact(show False from r).elim
  | some _=>exact r
theorem KV.val{kvs:List (κ × V)}{vs:List (κ × Value)}(r:KV kvs vs)(k:κ):RelO (valV kvs k) (valueAt vs k):=by
 unfold KV at r
 induction r with
 | nil=>exact True.intro
 | @cons p q ps qs h t ih =>
  obtain⟨h1,h2⟩:=h
  by_cases e:p.1=k
  ·have e':q.1=k:=h1.symm.trans e
   have b:valueAt (q::qs) k=some q.2:=by simp[valueAt,List.find?_cons,e']
   rw[valV_pos e,b];exact h2
  ·have e':¬ q.1=k:=fun z=>e (h1.trans z)
   have b:valueAt (q::qs) k=valueAt qs k:=by simp[valueAt,List.find?_cons,e']
   rw[valV_neg e,b];exact ih
theorem KV.any{kvs:List (κ × V)}{vs:List (κ × Value)}(r:KV kvs vs)(k:κ):(kvs.any fun kv=>decide (kv.1=k))=vs.any fun kv=>decide (kv.1=k):=by
 unfold KV at r
 induction r with
 | nil=>rfl
 | cons h t ih=>rw[List.any_cons,List.any_cons,ih,h.1]
theorem KV.repl{kvs:List (κ × V)}{vs:List (κ × Value)}(r:KV kvs vs)(k:κ){y:V}{u:Value}(ry:RelV y u) :
  KV (kvs.map fun kv=>if kv.1=k then (kv.1,y) else kv) (vs.map fun kv=>if kv.1=k then (kv.1,u) else kv):=by
 unfold KV at r |-
 induction r with
 | nil=>exact .nil
 | @cons p q ps qs h t ih =>
  rw[List.map_cons,List.map_cons]
  refine .cons ?_ ih
  obtain⟨h1,h2⟩:=h
  by_cases e:p.1=k
  ·rw[if_pos e,if_pos (h1.symm.trans e)];exact⟨h1,ry⟩
  ·rw[if_neg e,if_neg (fun z=>e (h1.trans z))];exact⟨h1,h2⟩
theorem KV.put{kvs:List (κ × V)}{vs:List (κ × Value)}(r:KV kvs vs)(k:κ){y:V}{u:Value}(ry:RelV y u):KV (putK kvs k y) (stored vs k u):=by
 unfold putK stored
 rw[r.any k]
 by_cases e:(vs.any fun kv=>decide (kv.1=k))=true
 ·rw[if_pos e,if_pos e];exact r.repl k ry
 ·rw[if_neg e,if_neg e];exact Paired.snoc r ⟨rfl,ry⟩
theorem KV.length{kvs:List (κ × V)}{vs:List (κ × Value)}(r:KV kvs vs):kvs.length=vs.length:=Paired.length r
end
theorem kV_is{P:Program}{w:World}{k:Key}{u:Value}(r:RelV (kV k) u):(mixKind P w).is k u=true:=by
 cases k with
 | inl i=>obtain⟨t,e⟩:=(show ∃t,u=Value.int i t from r);subst e;exact mixKind_int P w i t
 | inr x=>obtain⟨t,e⟩:=(show ∃t,u=Value.str x t from r);subst e;exact mixKind_str P w x t
theorem items_are{P:Program}{w:World}:∀{ks:List Key} {us:List Value},Vals (ks.map kV) us->ItemsAre (mixKind P w) ks us
 | [],_,r=>by rw[List.map_nil] at r;cases r;exact .nil
 | k::ks,_,r=>by
  rw[List.map_cons] at r
  cases r with
  | cons h t=>exact .cons (kV_is h) (items_are t)
noncomputable abbrev KT(H:Hp):List (List Key×V)->List (List Key×Addr×Value)->Prop:=Paired fun p q=>p.1=q.1/\H q.2.1=some (.tup (p.1.map kV))/\RelV p.2 q.2.2
theorem KT.val{H:Hp}{kvs:List (List Key×V)}{xs:List (List Key×Addr×Value)}(r:KT H kvs xs)(k:List Key):RelO (valV kvs k) ((atKey xs k).map (·.2)):=by
 induction r with
 | nil=>exact True.intro
 | @cons p q ps qs h t ih =>
  obtain⟨h1,_,h2⟩:=h
  by_cases e:p.1=k
  ·have e':q.1=k:=h1.symm.trans e
   have b:atKey (q::qs) k=some q.2:=by simp[atKey,List.find?_cons,e']
   rw[valV_pos e,b];exact h2
  ·have e':¬ q.1=k:=fun z=>e (h1.trans z)
   have b:atKey (q::qs) k=atKey qs k:=by simp[atKey,List.find?_cons,e']
   rw[valV_neg e,b];exact ih
theorem KT.repl{H:Hp}{kvs:List (List Key×V)}{xs:List (List Key×Addr×Value)}(r:KT H kvs xs)(k:List Key){y:V}{u:Value}(ry:RelV y u) :
  KT H (kvs.map fun kv=>if kv.1=k then (kv.1,y) else kv) (xs.map (putAt k u)):=by
 induction r with
 | nil=>exact .nil
 | @cons p q ps qs h t ih =>
  rw[List.map_cons,List.map_cons]
  refine .cons ?_ ih
  obtain⟨h1,h2,h3⟩:=h
  unfold putAt
  by_cases e:p.1=k
  ·rw[if_pos e,if_pos (h1.symm.trans e)];exact⟨h1,h2,ry⟩
  ·rw[if_neg e,if_neg (fun z=>e (h1.trans z))];exact⟨h1,h2,h3⟩
theorem KT.put{H:Hp}{kvs:List (List Key×V)}{xs:List (List Key×Addr×Value)}(r:KT H kvs xs)(k:List Key){b:Addr}{y:V}{u:Value}(hb:H b=some (.tup (k.map kV)))(ry:RelV y u) :
  KT H (putK kvs k y) (storedH xs k b u):=by
 have e:(kvs.any fun kv=>decide (kv.1=k))=(atKey xs k).isSome:=by
  rw[valV_any,(r.val k).isSome_eq,Option.isSome_map]
 unfold putK storedH
 rw[e]
 by_cases q:(atKey xs k).isSome=true
 ·rw[if_pos q,if_pos q];exact r.repl k ry
 ·rw[if_neg q,if_neg q];exact Paired.snoc r ⟨rfl,hb,ry⟩
theorem KT.keeps{H H':Hp}{kvs:List (List Key×V)}{xs:List (List Key×Addr×Value)}(r:KT H kvs xs)(ht:∀b ys,H b=some (.tup ys)->H' b=some (.tup ys)):KT H' kvs xs :=
 Paired.mapP r fun _ _ z=>⟨z.1,ht _ _ z.2.1,z.2.2⟩
section
variable {P:Program} {w:World} {H:Hp} {h:Heap} {a:Addr}
theorem rd_of{u:HO}(ok:HOk P w H h)(e:Rd H a u):ObjOk P w H h a u:=e.ok ok
theorem dk_rd{kvs:List (Key×V)}(ok:HOk P w H h)(e:Rd H a (.dK kvs)):kvs.length<=sizeLine/\(a==sysModules)=false/\∃vs,KV kvs vs/\h.DictOf (mixKind P w) a vs :=
 show ObjOk P w H h a (.dK kvs) from rd_of ok e
theorem dk_of{kvs:List (Key×V)}(ok:HOk P w H h)(e:H a=some (.dK kvs)):kvs.length<=sizeLine/\(a==sysModules)=false/\∃vs,KV kvs vs/\h.DictOf (mixKind P w) a vs:=dk_rd ok (.inl e)
theorem key_of{ks:List Key}(ok:HOk P w H h)(e:H a=some (.tup (ks.map kV))):(tupleKind (mixKind P w)).is h ks a:=by
 obtain⟨_,its,r,o,h1,h2,n,h3⟩:=(show ObjOk P w H h a (.tup (ks.map kV)) from ok a _ e)
 exact⟨o,its.toArray,n,h1,h2,h3,by simpa using items_are r⟩
theorem dt_rd{kvs:List (List Key×V)}(ok:HOk P w H h)(e:Rd H a (.dT kvs)):kvs.length<=sizeLine/\(a==sysModules)=false /\
  ∃xs,KT H kvs xs/\h.DictOfH (tupleKind (mixKind P w)) a xs:=by
 obtain⟨z,y,xs,r,o,es,ep,h1,h2,h3,h4,h5⟩:=(show ObjOk P w H h a (.dT kvs) from rd_of ok e)
 refine⟨z,y,xs,r,o,es,ep,h1,h2,h3,h4,fun x hx=>?_,h5⟩
 have all:∀{l:List (List Key×V)} {m:List (List Key×Addr×Value)},KT H l m->∀x∈m,(tupleKind (mixKind P w)).is h x.1 x.2.1:=by
  intro l m q
  induction q with
  | nil=>intro x hx;exact nomatch hx
  | @cons p q ps qs hq t ih =>
   intro x hx
   rcases List.mem_cons.mp hx with e|hx
   ·subst e
    exact key_of ok (by rw[<-hq.1];exact hq.2.1)
   ·exact ih x hx
 exact all r x hx
theorem dt_of{kvs:List (List Key×V)}(ok:HOk P w H h)(e:H a=some (.dT kvs)):kvs.length<=sizeLine/\(a==sysModules)=false /\
  ∃xs,KT H kvs xs/\h.DictOfH (tupleKind (mixKind P w)) a xs:=dt_rd ok (.inl e)
end
noncomputable def DGet(H:Hp)(a:Addr)(y:V)(r:Option V):Prop :=
 (∃kvs k,Rd H a (.dK kvs)/\y=kV k/\r=valV kvs k)\/∃kvs k b,Rd H a (.dT kvs)/\y=.ref b/\H b=some (.tup (k.map kV))/\r=valV kvs k
noncomputable def DPut(H:Hp)(a:Addr)(y v:V)(H':Hp):Prop :=
 (∃kvs k,H a=some (.dK kvs)/\y=kV k/\kvs.length<sizeLine/\H'=upd H a (.dK (putK kvs k v))) \/
 ∃kvs k b,H a=some (.dT kvs)/\y=.ref b/\H b=some (.tup (k.map kV))/\kvs.length<sizeLine/\H'=upd H a (.dT (putK kvs k v))
theorem DGet.k{H:Hp}{a:Addr}{kvs:List (Key×V)}{k:Key}(e:H a=some (.dK kvs)):DGet H a (kV k) (valV kvs k):=.inl ⟨kvs,k,.inl e,rfl,rfl⟩
theorem DPut.k{H:Hp}{a:Addr}{kvs:List (Key×V)}{k:Key}{v:V}(e:H a=some (.dK kvs))(hl:kvs.length<sizeLine):DPut H a (kV k) v (upd H a (.dK (putK kvs k v))):=.inl ⟨kvs,k,e,rfl,hl,rfl⟩
section
variable {X:Cx} {pins:List (Addr×Obj)} {σ:St} {H:Hp} {s:Shared} {a:Addr} {y v:V} {u r:Value} {o:Option V} {A:Around} {E:Value->Shared->Prop}
theorem Inv.big(I:Inv X pins σ H s):sysModules<s.heap.objs.size:=by
 have h:mainGlobals<s.heap.objs.size:=(I.mod.glob.keeps I.bk).lt
 exact Nat.lt_trans (by decide) h
theorem d_getItem{Q:Value->Shared->Prop}(hu:A.units+1<cLine)(I:Inv X pins σ H s)(g:DGet H a y (some v))(ry:RelV y u)(h:∀w' s',Inv X pins σ H s'->RelV v w'->Q w' s') :
  wpAny (model X.prog X.w) A (getItem (.ref a) u) Q E s:=by
 rcases g with ⟨kvs,k,e,ey,l⟩|⟨kvs,k,b,e,ey,eb,l⟩
 ·subst ey
  obtain⟨z,hd,vs,rel,dd⟩:=dk_rd I.hok e
  obtain⟨w',hw,rw'⟩:=RelO.some_of (v:=v) (o:=valueAt vs k) (by rw[l];exact rel.val k)
  exact wpAny_getItem_of (kV_is ry) dd.mapOf hw (h w' _ (I.tok _) rw')
 ·subst ey
  cases (show u=Value.ref b from ry)
  obtain⟨z,hd,xs,rel,dd⟩:=dt_rd I.hok e
  obtain⟨w',hw,rw'⟩:=RelO.some_of (v:=v) (o:=(atKey xs k).map (·.2)) (by rw[l];exact rel.val k)
  obtain⟨p,hp,hp2⟩:=Option.map_eq_some_iff.mp hw
  refine wpAny_getItem_heap (tupleKind_room_in1 hu) (key_of I.hok eb) dd hp ?_
  rw[hp2]
  exact h w' _ (I.tok _) rw'
theorem d_in{Q:Value->Shared->Prop}(hu:A.units+1<cLine)(I:Inv X pins σ H s)(g:DGet H a y o)(ry:RelV y u)(h:∀s',Inv X pins σ H s'->Q (.bool o.isSome) s') :
  wpAny (model X.prog X.w) A (compareOp .In u (.ref a)) Q E s:=by
 rcases g with ⟨kvs,k,e,ey,l⟩|⟨kvs,k,b,e,ey,eb,l⟩
 ·subst ey
  obtain⟨z,hd,vs,rel,dd⟩:=dk_rd I.hok e
  refine wpAny_in_of (kV_is ry) hd dd.mapOf ?_
  rw[<-(rel.val k).isSome_eq,<-l]
  exact h _ (I.tok _)
 ·subst ey
  cases (show u=Value.ref b from ry)
  obtain⟨z,hd,xs,rel,dd⟩:=dt_rd I.hok e
  refine wpAny_in_heap (tupleKind_room_in1 hu) (key_of I.hok eb) hd dd ?_
  have q:=(rel.val k).isSome_eq
  rw[Option.isSome_map] at q
  rw[<-q,<-l]
  exact h _ (I.tok _)
theorem d_notIn{Q:Value->Shared->Prop}(hu:A.units+1<cLine)(I:Inv X pins σ H s)(g:DGet H a y o)(ry:RelV y u)(h:∀s',Inv X pins σ H s'->Q (.bool (!o.isSome)) s') :
  wpAny (model X.prog X.w) A (compareOp .NotIn u (.ref a)) Q E s:=by
 rcases g with ⟨kvs,k,e,ey,l⟩|⟨kvs,k,b,e,ey,eb,l⟩
 ·subst ey
  obtain⟨z,hd,vs,rel,dd⟩:=dk_rd I.hok e
  refine wpAny_notIn_of (kV_is ry) hd dd.mapOf ?_
  rw[<-(rel.val k).isSome_eq,<-l]
  exact h _ (I.tok _)
 ·subst ey
  cases (show u=Value.ref b from ry)
  obtain⟨z,hd,xs,rel,dd⟩:=dt_rd I.hok e
  refine wpAny_notIn_heap (tupleKind_room_in1 hu) (key_of I.hok eb) hd dd ?_
  have q:=(rel.val k).isSome_eq
  rw[Option.isSome_map] at q
  rw[<-q,<-l]
  exact h _ (I.tok _)
theorem d_write{h':Heap}{t':Nat}{ob:HO}(I:Inv X pins σ H s)(mu:Mut (H a))(hs:Heap.SameBut a s.heap h')(he:∃q,h'.get? a=some q)(new:ObjOk X.prog X.w (upd H a ob) h' a ob) :
  Inv X pins σ (upd H a ob) { s with heap:=h',toks:=t' } :=
 I.write (x:=a) (e:=a) mu (.inl rfl) (fun b q hb z=>(hs.2 b hb).trans z) he new
theorem dk_new{P:Program}{w:World}{H':Hp}{h':Heap}{kvs:List (Key×V)}{vs:List (Key×Value)}(z:kvs.length<=sizeLine)(hd:(a==sysModules)=false)(rel:KV kvs vs)(dd:h'.DictOf (mixKind P w) a vs) :
  ObjOk P w H' h' a (.dK kvs):=⟨z,hd,vs,rel,dd⟩
theorem d_setItem{H':Hp}{Q:Unit->Shared->Prop}(hu:A.units+1<cLine)(I:Inv X pins σ H s)(g:DPut H a y v H')(ry:RelV y u)(rv:RelV v r)(h:∀s',Inv X pins σ H' s'->Q () s') :
  wpAny (model X.prog X.w) A (setItem (.ref a) u r) Q E s:=by
 rcases g with ⟨kvs,k,e,ey,l,eH⟩|⟨kvs,k,b,e,ey,eb,l,eH⟩
 ·subst ey eH
  obtain⟨z,hd,vs,rel,dd⟩:=dk_of I.hok e
  have hz:vs.length<=sizeLine:=by rw[<-rel.length];exact z
  have hl:(putK kvs k v).length<=sizeLine:=by have:=length_putK kvs k v;omega
  refine wpAny_setItem_pairs (hsz:=hz) (kV_is ry) dd fun h' dd' hs=>h _ ?_
  have he:∃q,h'.get? a=some q:=let ⟨q,_,_,hq,_⟩:=dd';⟨q,hq⟩
  exact d_write I (by rw[e];exact True.intro) hs he (dk_new hl hd (rel.put k rv) dd')
 ·subst ey eH
  cases (show u=Value.ref b from ry)
  obtain⟨z,hd,xs,rel,dd⟩:=dt_of I.hok e
  have hz:xs.length<=sizeLine:=by rw[<-Paired.length rel];exact z
  have hl:(putK kvs k v).length<=sizeLine:=by have:=length_putK kvs k v;omega
  refine wpAny_setItem_heap (hsz:=hz) (tupleKind_room_in1 hu) (key_of I.hok eb) dd fun h' dd' hs=>h _ ?_
  obtain⟨q,es,ep,hq,h2,h3,h4,_,h5⟩:=dd'
  refine d_write I (by rw[e];exact True.intro) hs ⟨q,hq⟩ ⟨hl,hd,_,(rel.put k eb rv).keeps fun c ys ec=>?_,q,es,ep,hq,h2,h3,h4,h5⟩
  rw[upd_ne (ne_of ec e (fun z=>nomatch z))]
  exact ec
end
section
variable {X:Cx} {pins:List (Addr×Obj)} {σ:St} {H:Hp} {s:Shared} {a:Addr} {kvs:List (Key×V)} {k:Key} {u:Value} {A:Around} {E:Value->Shared->Prop}
theorem d_len{Q:Value->Shared->Prop}(I:Inv X pins σ H s)(e:Rd H a (.dK kvs))(h:∀t s',Inv X pins σ H s'->Q (.int kvs.length t) s'):wpAny (model X.prog X.w) A (call (.builtin "len") [.ref a]) Q E s:=by
 obtain⟨z,hd,vs,rel,dd⟩:=dk_rd I.hok e
 refine call_len_dict hd dd (by rw[<-rel.length];rw[sizeLine_eq] at z;omega) ?_
 rw[<-rel.length]
 exact h _ _ (I.tok _)
end
theorem dict_typeIs{X:Cx}{pins:List (Addr×Obj)}{σ:St}{H:Hp}{s:Shared}{a:Addr}{y:V}{o:Option V}(I:Inv X pins σ H s)(g:DGet H a y o):s.TypeIs (.ref a) "dict":=by
 rcases g with ⟨kvs,k,e,_,_⟩|⟨kvs,k,b,e,_,_,_⟩
 ·obtain⟨_,_,vs,_,dd⟩:=dk_rd I.hok e
  exact dd.typeIs
 ·obtain⟨_,_,xs,_,dd⟩:=dt_rd I.hok e
  exact dd.typeIs
section
variable {X:Cx} {o i e value:Expr} {pos pos' tpos:Pos} {td ty tv:TE}
end
theorem dk_empty{P:Program}{w:World}{H:Hp}(h:Heap)(hb:sysModules<h.objs.size):ObjOk P w H (h.push { cls:=.type "dict",data:=.dict #[] }) h.objs.size (.dK []) :=
 ⟨Nat.zero_le _,beq_eq_false_iff_ne.mpr (Ne.symm (Nat.ne_of_lt hb)),[],.nil,Heap.DictOf.new h⟩
noncomputable def tDNewK:TE:=fun _ H Q=>∀p,H p=none->Q (.ref p) (upd H p (.dK []))
section
variable {X:Cx} {pos:Pos}
theorem pe_dnewK:PE X (.Dict [] [] pos) tDNewK:=fun pins s σ H Q I h =>
 wpAny_Dict_empty ⟨.ref s.heap.objs.size,_,I.laid (a:=s.heap.objs.size) (o:=.dK []) (t':=s.toks) (fun _ _ q=>Heap.get?_push_of_some _ q) (Nat.le_refl _) (dk_empty s.heap I.big),rfl,h _ (I.hok.fresh (Nat.le_refl _))⟩
end
noncomputable def tPairs:List (TE×TE)->St->Hp->(List (V×V)->Hp->Prop)->Prop
 | [],_,H,Q=>Q [] H
 | (tk,tv)::r,σ,H,Q=>tk σ H fun x H1=>tv σ H1 fun y H2=>tPairs r σ H2 fun ps H3=>Q ((x,y)::ps) H3
noncomputable abbrev VV:List (V×V)->List (Value×Value)->Prop:=Paired fun p q=>RelV p.1 q.1/\RelV p.2 q.2
noncomputable def PPs(X:Cx)(pos:Pos)(keys:List (Option Expr))(values:List Expr)(trs:List (TE×TE)):Prop :=
 ∀(pins:List (Addr×Obj)) (s:Shared) (σ:St) (H:Hp) (Q:List (V×V)->Hp->Prop),Inv X pins σ H s->tPairs trs σ H Q ->
  wpAny (model X.prog X.w) X.A (evalPairs (pairTrees keys values X.env pos)) (fun vs s'=>∃ps H',Inv X pins σ H' s'/\VV ps vs/\Q ps H') X.xe s
theorem pps_nil{X:Cx}{pos:Pos}:PPs X pos [] [] []:=fun pins s σ H Q I h=>pairTrees_nil_walk ⟨[],H,I,.nil,h⟩
theorem pps_cons{X:Cx}{pos:Pos}{k v:Expr}{ks:List (Option Expr)}{vs:List Expr}{tk tv:TE}{trs:List (TE×TE)}(hk:PE X k tk)(hv:PE X v tv)(hr:PPs X pos ks vs trs) :
  PPs X pos (some k::ks) (v::vs) ((tk,tv)::trs):=fun pins s σ H Q I h =>
 pairTrees_cons_walk (thn (hk pins s σ H _ I h) fun u s1 ⟨x,H1,I1,rx,q1⟩=>thn (hv pins s1 σ H1 _ I1 q1) fun w2 s2 ⟨y,H2,I2,ry,q2⟩ =>
  thn (hr pins s2 σ H2 _ I2 q2) fun ws s3 ⟨ps,H3,I3,rel,q3⟩=>⟨(x,y)::ps,H3,I3,.cons ⟨rx,ry⟩ rel,q3⟩)
noncomputable def mergeK(kvs more:List (Key×V)):List (Key×V):=more.foldl (fun acc kv=>putK acc kv.1 kv.2) kvs
theorem KV.merge:∀{more:List (Key×V)} {rs:List (Key×Value)} {kvs:List (Key×V)} {vs:List (Key×Value)},KV more rs->KV kvs vs->KV (mergeK kvs more) (merged vs rs):=by
 intro more rs kvs vs r
 unfold KV at r
 induction r generalizing kvs vs with
 | nil=>intro q;exact q
 | @cons p q ps qs h t ih =>
  intro r0
  have e:KV (putK kvs p.1 p.2) (stored vs q.1 q.2):=by
   have:=r0.put p.1 h.2
   rw[<-h.1];exact this
  exact ih e
theorem length_mergeK:∀(more kvs:List (Key×V)),(mergeK kvs more).length<=kvs.length+more.length
 | [],kvs=>by show kvs.length<=kvs.length+0;omega
 | p::r,kvs=>by
  have h1:=length_mergeK r (putK kvs p.1 p.2)
  have h2:=length_putK kvs p.1 p.2
  show (mergeK (putK kvs p.1 p.2) r).length<=_
  rw[List.length_cons];omega
theorem carries_of{P:Program}{w:World}:∀{kvs:List (Key×V)} {ws:List (Value×Value)},VV (kvs.map fun kv=>(kV kv.1,kv.2)) ws->∃rs,Carries (mixKind P w) ws rs/\KV kvs rs
 | [],_,r=>by rw[List.map_nil] at r;cases r;exact⟨[],True.intro,.nil⟩
 | p::kvs,_,r=>by
  rw[List.map_cons] at r
  cases r with
  | @cons a b as bs h t =>
   obtain⟨rs,c,q⟩:=carries_of (P:=P) (w:=w) t
   obtain⟨b1,b2⟩:=b
   exact⟨(p.1,b2)::rs,⟨kV_is h.1,rfl,c⟩,.cons ⟨rfl,h.2⟩ q⟩
noncomputable def tDisp(trs:List (TE×TE)):TE:=fun σ H Q=>∀p,H p=none->tPairs trs σ (upd H p (.dK [])) fun ps H2=>H2 p=some (.dK [])/\∃kvs:List (Key×V),ps=kvs.map (fun kv=>(kV kv.1,kv.2))/\kvs.length<=15/\Q (.ref p) (upd H2 p (.dK (mergeK [] kvs)))
theorem pe_disp{X:Cx}{pos:Pos}{keys:List (Option Expr)}{values:List Expr}{trs:List (TE×TE)}(h:PPs X pos keys values trs)(hall:keys.all (·.isSome)=true)(hl:keys.length=values.length)(h0:keys≠[])
  (h15:keys.length<=15):PE X (.Dict keys values pos) (tDisp trs):=by
 intro pins s σ H Q I q
 have hn:=I.hok.fresh (Nat.le_refl s.heap.objs.size)
 have I1:=I.laid (a:=s.heap.objs.size) (o:=.dK []) (h':=s.heap.push { cls:=.type "dict",data:=.dict #[] }) (t':=s.toks) (fun _ _ q=>Heap.get?_push_of_some _ q) (Nat.le_refl _) (dk_empty s.heap I.big)
 refine wpAny_Dict_walk (knd:=mixKind X.prog X.w) hall hl h0 h15 (thn (h pins _ σ _ _ I1 (q _ hn)) fun ws s2 zz0=>?_)
 obtain⟨ps,H2,I2,rel,e,kvs,ep,lk,q2⟩:=zz0
 subst ep
 obtain⟨rs,c,rk⟩:=carries_of (P:=X.prog) (w:=X.w) rel
 obtain⟨z,hd,vs0,r0,dd⟩:=dk_of I2.hok e
 cases r0
 refine⟨rs,c,dd,fun h' dd' hs=>⟨.ref s.heap.objs.size,_,?_,rfl,q2⟩⟩
 have hz:(mergeK [] kvs).length<=sizeLine:=by
  have h1:=length_mergeK kvs []
  rw[List.length_nil] at h1
  rw[sizeLine_eq];omega
 have he:∃q,h'.get? s.heap.objs.size=some q:=let ⟨q,_,_,hq,_⟩:=dd';⟨q,hq⟩
 exact d_write I2 (by rw[e];exact True.intro) hs he (dk_new hz hd (rk.merge .nil) dd')
structure M2 (X:Cx) (o:Expr) (m:Str) (apos:Pos) (e f:Expr) (cpos:Pos):Prop where
 base:attributeBase o m X.env (eval o X.env)=eval o X.env
 few:((backTo cpos (starEach [e,f] X.env)).all (fun x=>!x.1)&&(backToKw cpos (keywordEach [] X.env)).all (fun x=>x.1.isSome)
  && decide (([e,f]:List Expr).length+([]:List Keyword).length+(if ([]:List Keyword).isEmpty then 0 else 1)<30))=true
 line:(apos.endLine==cpos.line)=true
 trees:backTo cpos (starEach [e,f] X.env)=[(false,eval e X.env),(false,eval f X.env)]
noncomputable def IsD(H:Hp)(a:Addr):Prop:=(∃kvs,Rd H a (.dK kvs))\/∃kvs,Rd H a (.dT kvs)
theorem isD_at{X:Cx}{pins:List (Addr×Obj)}{σ:St}{H:Hp}{s:Shared}{a:Addr}(I:Inv X pins σ H s)(d:IsD H a) :
  s.TypeIs (.ref a) "dict" /\ (∀b,Value.ref a=.ref b->∃ob,s.heap.get? b=some ob/\ob.dict=none)/\(a==sysModules)=false:=by
 rcases d with ⟨kvs,e⟩|⟨kvs,e⟩
 ·obtain⟨_,hd,vs,_,dd⟩:=dk_rd I.hok e
  refine⟨dd.typeIs,fun b q=>?_,hd⟩
  cases q
  obtain⟨ob,_,_,h1,h2,_⟩:=dd
  exact⟨ob,h1,h2.2.1⟩
 ·obtain⟨_,hd,xs,_,dd⟩:=dt_rd I.hok e
  refine⟨dd.typeIs,fun b q=>?_,hd⟩
  cases q
  obtain⟨ob,_,_,h1,h2,_⟩:=dd
  exact⟨ob,h1,h2.2.1⟩
section
variable {X:Cx} {pins:List (Addr×Obj)} {σ:St} {H:Hp} {s:Shared} {a:Addr} {y d:V} {u r:Value} {o:Option V} {A:Around} {E:Value->Shared->Prop}
theorem d_get2{Q:Value->Shared->Prop}(hu:A.units+1<cLine)(I:Inv X pins σ H s)(g:DGet H a y o)(ry:RelV y u)(rd:RelV d r)(h:∀w' s',Inv X pins σ H s'->RelV (o.getD d) w'->Q w' s') :
  wpAny (model X.prog X.w) A (call (.builtin "dict.get") [.ref a,u,r]) Q E s:=by
 rcases g with ⟨kvs,k,e,ey,l⟩|⟨kvs,k,b,e,ey,eb,l⟩
 ·subst ey
  obtain⟨z,hd,vs,rel,dd⟩:=dk_rd I.hok e
  refine call_meetsIn PySem.F.slot_dict_get dd.typeIs PySem.F.entry_dict_get (PySem.F.args_dict_get_3 _ _ _) (meets_dict_get_default (mixKind X.prog X.w) a (kV_is ry) hd r) ⟨_,dd.mapOf,h _ _ (I.tok _) ?_⟩
  rw[l]
  exact(rel.val k).getD rd
 ·subst ey
  cases (show u=Value.ref b from ry)
  obtain⟨z,hd,xs,rel,dd⟩:=dt_rd I.hok e
  refine call_meetsIn PySem.F.slot_dict_get dd.typeIs PySem.F.entry_dict_get (PySem.F.args_dict_get_3 _ _ _) (meetsH_dict_get_default (tupleKind (mixKind X.prog X.w)) a b hd r) ⟨tupleKind_room_in1 hu,k,xs,key_of I.hok eb,dd,h _ _ (I.tok _) ?_⟩
  rw[l]
  exact(rel.val k).getD rd
end
noncomputable def tDGet2(td ty tx:TE):TE:=fun σ H Q=>td σ H fun x H1=>∃a,x=.ref a/\IsD H1 a/\ty σ H1 fun y H2=>tx σ H2 fun z H3=>∃o,DGet H3 a y o/\Q (o.getD z) H3
section
variable {X:Cx} {o e f:Expr} {apos cpos:Pos} {td ty tx:TE}
theorem pe_dget2(hu:X.A.units+1<cLine)(ho:PE X o td)(he:PE X e ty)(hf:PE X f tx)(m:M2 X o "get" apos e f cpos):PE X (.Call (.Attribute o "get" apos) [e,f] [] cpos) (tDGet2 td ty tx):=by
 intro pins s σ H Q I h
 refine wpAny_Call_method m.base m.few m.line PySem.F.plainAttrs_dict PySem.F.slot_dict_get PySem.F.type_dict_get (thn (ho pins s σ H _ I h) fun u s1 zz0=>?_)
 obtain⟨x,H1,I1,rx,a,ex,d,q1⟩:=zz0
 subst ex
 obtain rfl:u=Value.ref a:=rx
 obtain⟨t1,t2,_⟩:=isD_at I1 d
 refine⟨t1,t2,?_⟩
 rw[m.trees]
 refine Calls.callWith_builtin rfl (Calls.evalArgs_plain (Calls.spliced_cons (thn (he pins s1 σ H1 _ I1 q1) fun iv s2 ⟨y,H2,I2,ry,q2⟩ =>
  Calls.spliced_cons (thn (hf pins s2 σ H2 _ I2 q2) fun fv s3 ⟨z,H3,I3,rz,ov,g,q3⟩=>Calls.spliced_nil ?_))))
 exact d_get2 hu I3 g ry rz fun w' s4 I4 rw'=>⟨_,H3,I4,rw',q3⟩
end
section
variable {X:Cx} {pins:List (Addr×Obj)} {σ:St} {H:Hp} {s:Shared} {a:Addr} {kvs:List (Key×V)} {A:Around} {E:Value->Shared->Prop}
end
section
variable {X:Cx} {pins:List (Addr×Obj)} {σ:St} {H:Hp} {s:Shared} {a:Addr} {y:V} {u:Value} {A:Around} {E:Value->Shared->Prop}
end
end L2
namespace Att
open PySem PySem.W PySem.Calls PyProof.Rows
theorem ints_of_wellAll{P:Params}{h:Heap}:∀(ns:List Int) (vs:List Value),WellAll P h vs (ns.map WData.int)->IntsAre vs ns:=by
 intro ns
 induction ns with
 | nil =>
  intro vs w
  rw[List.map_nil] at w
  cases w
  exact .nil
 | cons n ns ih =>
  intro vs w
  rw[List.map_cons] at w
  cases w with
  | cons a b =>
   cases a
   exact .cons _ _ (ih _ b)
theorem script_of{l:OpenLaw}{n:Nat}(hn:l.most=some n){P:Params}{h:Heap}{args:List WData}{vals:List Value}
  (hpre:l.row.toRowW.claim.pre args=true) (hwl:WellAll P h vals args) :
  ∃a vs ns,vals=[Value.ref a]/\args=[WData.list (ns.map WData.int)]/\h.get? a=some { cls:=.type "list",data:=.seq vs.toArray }/\IntsAre vs ns/\ns.length<=n:=by
 have hsh:WShape.hasAll [] args [.list .int]=true:=(pre_splitW hpre).1
 have hc:l.pre.holds [] { args:=args }=true:=(pre_splitW hpre).2
 obtain⟨d,r,rfl,h1,h2⟩:=hasAllW_cons hsh
 obtain rfl:=hasAllW_nil h2
 obtain⟨xs,rfl,h3⟩:=hasW_list h1
 obtain⟨ns,rfl⟩:=items_int h3
 have hlen:ns.length<=n:=by
  unfold OpenLaw.pre at hc
  have h4:(WTm.not (.lt (.lit (.int (n:Int))) (.len (.arg 0)))).holds [] { args:=[.list (ns.map .int)] }=true:=by
   have h4:=(holds_andW hc).1
   rw[hn] at h4
   exact h4
  have h5:=condW_of h4 (w_not (w_lt w_lit (w_len_list (w_arg rfl))))
  rw[List.length_map] at h5
  refine Nat.le_of_not_lt fun q=>?_
  have q':(n:Int)<((ns.length:Nat):Int):=by omega
  first
   | (rw[decide_eq_true q'] at h5;exact absurd h5 (by decide))
   | (simp at h5;omega)
 cases hwl with
 | cons w1 w2 =>
  cases w2
  cases w1 with
  | list ho hall=>exact⟨_,_,ns,rfl,rfl,ho,ints_of_wellAll ns _ hall,hlen⟩
theorem post_true(l:OpenLaw)(args:List WData):l.row.toRowW.claim.post args (.bool true) args=true :=
 postW_of (r:=l.row.toRowW) (X:=(true==true))
  (show WShape.has [] (.bool true) .bool=true by first|rfl|decide|simp[WShape.has,WShape.arms,WShape.armsAll])
  (show (WTm.eq .res (.lit (.bool true))).value [] { args:=args,res:=some (.bool true),after:=args }=some (.bool (true==true)) from w_eq_bool (w_res rfl) w_lit) rfl
theorem attach_call{l:OpenLaw}{n:Nat}{q:Program}{loose:List Str}{XP:(Str->Option Value)->Heap->Prop}{YP:World->Heap->Prop}{d:DefRec}
  (hn:l.most=some n) (hdf:d.params.defaults=[])
  (call:∀(w:World) (s₀ s₁:Shared) (mg mb:Str->Option Value) (fa:Addr) (o:Obj) (pm cd doc:Value) (a:Addr) (vs:List Value) (ns:List Int),
   Ground q loose [] XP w s₀ mg mb s₁.heap->YP w s₁.heap ->
   s₁.heap.get? fa=some o->o.data=.func (docDef d.name d.params d.body d.scope pm cd doc)->s₁.heap.CodeRec cd d.name->mg d.name=some (.ref fa) ->
   s₁.heap.get? a=some { cls:=.type "list",data:=.seq vs.toArray }->IntsAre vs ns->ns.length<=n->s₁.gens = #[] ->
   codeAny (model l.prog w) callerA (.call (.ref fa) ⟨[.ref a],[]⟩) (fun r s'=>r=.ok (.ret (.bool true))/\OldK s₁.heap s'.heap/\s'.os=s₁.os/\AllBare s'.gens) s₁) :
  WalkO q loose XP YP l.row.toRowW d [] (fun f vs=>PySem.call f vs):=by
 intro w s₀ s₁ mg mb G Y fa o pm cd doc dV kV ho hd hcd hD hmg hg args vals as hpre hlay hrd hwl hlo
 obtain rfl:dV=.none:=Dflts.none hD hdf
 obtain rfl:kV=.none:=Dflts.noKw hD
 obtain⟨a,vs,ns,rfl,rfl,hobj,hints,hlen⟩:=script_of hn hpre hwl
 refine enter_call (codeAny_mono (call w s₀ s₁ mg mb fa o pm cd doc a vs ns G Y ho (fd_plain hd) hcd hmg hobj hints hlen hg) fun r s' hq=>?_)
 obtain⟨rfl,h2,h3,h4⟩:=hq
 exact⟨.inl ⟨.bool true,.bool true,[],rfl,fun _=>rfl,.bool true,post_true l _,fun _=>⟨List.Pairwise.nil,fun _ hm=>(nomatch hm)⟩⟩,h2,h3,h4⟩
section
variable {prog:Program} {w:World} {A:Around} {E:Value->Shared->Prop} {s:Shared} {K:Frag}
noncomputable def ledger(h:Heap)(L d:Addr):List (Addr×Obj):=(List.range h.objs.size).filterMap fun a=>if a=L\/a=d then none else (h.get? a).map fun o=>(a,o)
end
end Att
namespace L2
open PySem PySem.Spec PyProof.Rows
theorem vals_ints:∀{vs:List Value} {ns:List Int},IntsAre vs ns->Vals (ns.map V.int) vs
 | _,_,.nil=>.nil
 | _,_,.cons n t h=>.cons ⟨t,rfl⟩ (vals_ints h)
noncomputable def Only(H:Hp):Prop:=∀b,H b=none\/∃o xs,H b=some (.frz o (.lst xs))
theorem law_call{P:Program}{w:World}{K:PySem.W.Frag}{mg mb:Str->Option Value}{CX:CXT}{k:Nat}{fa a:Addr}{fd:FuncData}{x:Str}{sp:Sp}{s₁:Shared}{vs:List Value}{ns:List Int}
  (KX:K.In s₁.heap) (hns:s₁.heap.Ns mainGlobals mg) (hb:s₁.heap.Ns builtinsNs mb) (hbb:∀x:Str,x ≠ "__name__" -> mb x=bootBuiltins x) (hlim:s₁.heap.NoLimit) (hg:s₁.gens = #[])
  (ha:s₁.heap.get? a=some { cls:=.type "list",data:=.seq vs.toArray }) (hi:IntsAre vs ns) (hl:ns.length<=sizeLine) (hr:Room k callerA)
  (F:∀base:Heap,K.In base->base.Ns mainGlobals mg->FnOk P w K mg base CX k fa fd [x] sp) (hbind:∀(s:Shared) (u:Value),BindsTo s fd ⟨[u],[]⟩ [(x,u)])
  (hsp:∀H:Hp,Only H->SqL K H a (ns.map V.int)->sp [.ref a] H (fun v _=>v=.bl true) fun _ _ _=>False)
  (hCX:∀H e s',CX [] H s₁ (fun _ _ _=>False) e s'->False) :
  codeAny (model P w) callerA (.call (.ref fa) ⟨[.ref a],[]⟩) (fun r s'=>r=.ok (.ret (.bool true))/\OldK s₁.heap s'.heap/\s'.os=s₁.os/\AllBare s'.gens) s₁:=by
 have rv:=vals_ints hi
 have lenV:=hi.length
 have core:∀H:Hp,Only H->SqL K H a (ns.map V.int)->HOk P w H s₁.heap->(∀b,H b≠none->b=a)->(H a≠none->K.lookup a=none) ->
   codeAny (model P w) callerA (.call (.ref fa) ⟨[.ref a],[]⟩) (fun r s'=>r=.ok (.ret (.bool true))/\OldK s₁.heap s'.heap/\s'.os=s₁.os/\AllBare s'.gens) s₁:=by
  intro H hO hS hok hA hK
  have base_of:∀{b:Addr} {o:Obj},s₁.heap.get? b=some o->H b=none->(hidT s₁.heap H).get? b=some o:=fun e n=>hidT_get e n
  have noA:∀{b:Addr} {o:Obj} {es:Array DictEntry} {ep:Nat},s₁.heap.get? b=some o->o.data=.dict es ep->H b=none:=fun {b o es ep} e d=>by
   cases q:H b with
   | none=>rfl
   | some u =>
    have e':b=a:=hA b (by rw[q];simp)
    subst e'
    rw[ha] at e;cases e
    have d':Data.seq vs.toArray _=Data.dict es ep:=d
    cases d'
  have nsK:∀{b:Addr} {m:Str->Option Value},s₁.heap.Ns b m->(hidT s₁.heap H).Ns b m:=fun {b m} ⟨o,es,ep,e,d,r⟩=>⟨o,es,ep,base_of e (noA e d),d,r⟩
  have hKb:K.In (hidT s₁.heap H):=fun b o e=>base_of (KX b o e) (by
   cases q:H b with
   | none=>rfl
   | some u =>
    have e':b=a:=hA b (by rw[q];simp)
    subst e'
    rw[hK (by rw[q];simp)] at e;cases e)
  have hM:Mod K mg (hidT s₁.heap H):=⟨hKb,nsK hns,⟨mb,nsK hb,hbb⟩,let ⟨mc,h1,h2⟩:=hlim;⟨mc,nsK h1,h2⟩⟩
  have e0:Env0 P w K mg (hidT s₁.heap H) callerA [] s₁ H:=⟨rfl,hM,fun b o e=>of_hidT e,Nat.le_of_eq (hidT_size _ _),trivial,fun b hb=>absurd (show b∈([]:List Addr) from hb) (by simp),hok,.of_eq hg⟩
  refine codeAny_mono ((F _ hKb (nsK hns)).run callerA [] s₁ H ⟨[.ref a],[]⟩ [.ref a] [.ref a] _ _ hr e0 (hbind s₁ (.ref a)) (.cons rfl .nil) (hsp H hO hS)) fun r s' h=>?_
  cases r with
  | error e=>exact(hCX H e s' h).elim
  | ok fl =>
   cases fl with
   | next=>exact False.elim h
   | brk=>exact False.elim h
   | cont=>exact False.elim h
   | ret u =>
    obtain⟨v,H',os,bare,un,hok',r',q⟩:=h
    have q':v=.bl true:=q
    subst q'
    obtain rfl:u=Value.bool true:=r'
    refine⟨rfl,OldK.of_keep fun b o e=>?_,os,bare⟩
    cases q:H b with
    | none=>exact un.keep b o e q (by intro z;exact absurd (show b∈([]:List Addr) from z) (by simp)) (by simp)
    | some u =>
     rcases hO b with z|⟨ob,xs,z⟩
     ·rw[q] at z;cases z
     ·have z2:=un.frzs b ob _ z
      obtain⟨e1,_⟩:=hok b _ z
      obtain⟨e2,_⟩:=hok' b _ z2
      rw[e] at e1;cases e1
      exact e2
 cases hk:K.lookup a with
 | some o =>
  have e:=KX a o hk
  rw[ha] at e
  cases e
  refine core (fun _=>none) (fun _=>.inl rfl) (.inr ⟨_,vs.toArray,_,hk,rfl,rfl,rfl,by rw[List.size_toArray,lenV];exact hl,by simpa using rv⟩) (fun b u z=>by have z':(none:Option HO)=some u:=z;cases z') (fun b z=>absurd rfl z) fun z=>absurd rfl z
 | none =>
  refine core (fun b=>if b=a then some (.frz { cls:=.type "list",data:=.seq vs.toArray } (.lst (ns.map V.int))) else none) (fun b=>?_) (.inl (.inr ⟨{ cls:=.type "list",data:=.seq vs.toArray },if_pos rfl⟩)) (fun b u z=>?_) (fun b z=>?_) fun _=>hk
  ·by_cases hb:b=a
   ·exact .inr ⟨_,_,if_pos hb⟩
   ·exact .inl (if_neg hb)
  ·by_cases hb:b=a
   ·have z':=(if_pos hb).symm.trans z
    cases z'
    subst hb
    exact⟨ha,by rw[List.length_map];exact hl,vs,_,rv,ha⟩
   ·have z':=(if_neg hb).symm.trans z
    cases z'
  ·by_cases hb:b=a
   ·exact hb
   ·exact absurd (if_neg hb) z
end L2
namespace L2
open PySem PySem.Spec PyProof.Rows
theorem walk_of{l:PySem.W.OpenLaw}{n k:Nat}{q:Program}{loose:List Str}{XP:(Str->Option Value)->Heap->Prop}{YP:World->Heap->Prop}{d:DefRec}{K:Params->PySem.W.Frag}{CX:World->CXT}{sp:World->Sp}{x:Str}
  (hn:l.most=some n) (hn2:n<=sizeLine) (hdf:d.params.defaults=[]) (hr:Room k callerA)
  (hY:∀(w:World) (h:Heap),YP w h->(K w.params).In h)
  (F:∀(w:World) (mg:Str->Option Value) (fa:Addr) (h:Heap),(K w.params).In h->h.Ns mainGlobals mg->mg d.name=some (.ref fa) ->
   ∃fd:FuncData,(∀(s:Shared) (u:Value),BindsTo s fd ⟨[u],[]⟩ [(x,u)]) /\
    ∀base:Heap,(K w.params).In base->base.Ns mainGlobals mg->FnOk l.prog w (K w.params) mg base (CX w) k fa fd [x] (sp w))
  (hsp:∀(w:World) (H:Hp) (a:Addr) (ns:List Int),ns.length<=n->Only H->SqL (K w.params) H a (ns.map V.int)->sp w [.ref a] H (fun v _=>v=.bl true) fun _ _ _=>False)
  (hCX:∀(w:World) (H:Hp) (s:Shared) (e:Value) (s':Shared),CX w [] H s (fun _ _ _=>False) e s'->False) :
  PySem.W.WalkO q loose XP YP l.row.toRowW d [] (fun f vs=>PySem.call f vs):=by
 refine Att.attach_call hn hdf fun w s₀ s₁ mg mb fa o pm cd doc a vs ns G Y ho hd hcd hmg hobj hints hlen hg=>?_
 have KX:=hY w _ Y
 obtain⟨fd,hb,hF⟩:=F w mg fa _ KX G.T.g hmg
 exact law_call KX G.T.g G.T.b G.T.builtins G.T.nolimit hg hobj hints (Nat.le_trans hlen hn2) hr hF hb (fun H hO hS=>hsp w H a ns hlen hO hS) fun H e s'=>hCX w H s₁ e s'
end L2
namespace L2
open PySem PySem.Spec PyProof.Rows
noncomputable def defArgs(s:Stmt):Arguments:=match s with
 | .FunctionDef _ a _ _ _ _ _ _ _ _=>a
 | _=>{ posonlyargs:=[],args:=[],vararg:=none,kwonlyargs:=[],kw_defaults:=[],kwarg:=none,defaults:=[] }
noncomputable def defBody(s:Stmt):List Stmt:=match s with
 | .FunctionDef _ _ b _ _ _ _ _ _ _=>b
 | _=>[]
noncomputable def defScope(s:Stmt):Scope:=match s with
 | .FunctionDef _ _ _ _ _ _ sc _ _ _=>sc
 | _=>{ kind:=.function,names:=[],isGenerator:=false,isCoroutine:=false }
noncomputable abbrev CX0:CXT:=fun _ _ _ _ _ _=>False
noncomputable abbrev E0:XK:=fun _ _ _=>False
theorem pass0{X:Cx}:Passes CX0 X E0:=fun _ _ _ _ _ _ _ h=>h.elim
structure Fun (K:PySem.W.Frag) (x qual:Str) (st:Stmt) (f:Addr) (fd:FuncData):Prop where
 ex:∃(oc:Value) (od:Option Addr) (kV doc pm:Value) (an:Option Addr) (cdv ct:Value) (osl:Array (Option Value)),
  fd=PySem.W.fnOf x qual (defArgs st) (defBody st) (defScope st) .none kV doc pm an cdv ct/\K.lookup f=some ⟨oc,od,.func fd,osl⟩/\PySem.W.codeIn K cdv qual=true
 kp:PySem.W.keepIn K (.ref f)=true
section
variable {P:Program} {w:World} {K:PySem.W.Frag} {mg:Str->Option Value} {base:Heap}
theorem Fun.ok{x qual:Str}{st:Stmt}{f:Addr}{fd:FuncData}{N ps:List Str}{k:Nat}{sp:Sp}(F:Fun K x qual st f fd)(S:FnScope N ps (defScope st))(len:∀vs H Q E,sp vs H Q E->vs.length=ps.length)
  (hbody:∀(cdv:Value) (A:Around) (outer:List Env) (s:Shared) (H:Hp) (vs:List V) (Q:VK) (E:XK),Room k (A.deeper (envOfC qual (defScope st) s.heap.objs.size f cdv))->sp vs H Q E ->
   ∃t,PSs (cxOf CX0 P w K mg base N qual (defScope st) f cdv A outer s H E).nox (defBody st) t/\t { nx:=fun _ H'=>Q .non H',rt:=Q } (start N vs) H):FnOk P w K mg base CX0 (k+1) f fd ps sp:=by
 obtain⟨oc,od,kV,doc,pm,an,cdv,ct,osl,rfl,lk,hcd⟩:=F.ex
 refine fn_of lk hcd S len fun A outer s H vs Q E hr hsp=>?_
 obtain⟨t,h,q⟩:=hbody cdv A outer s H vs Q E hr hsp
 exact⟨t,h.nox,q⟩
theorem Fun.binds{x qual:Str}{st:Stmt}{f:Addr}{fd:FuncData}{ps:List Str}(F:Fun K x qual st f fd)
  (h:∀(kV doc pm:Value) (an:Option Addr) (cdv ct:Value) (us:List Value),us.length=ps.length->bindArgs (PySem.W.fnOf x qual (defArgs st) (defBody st) (defScope st) .none kV doc pm an cdv ct) ⟨us,[]⟩=pure (ps.zip us)):Binds K fd ps []:=by
 obtain⟨oc,od,kV,doc,pm,an,cdv,ct,osl,rfl,lk,hcd⟩:=F.ex
 exact .all (h kV doc pm an cdv ct)
theorem fun_mk{x qual:Str}{st:Stmt}{f:Addr}{oc:Value}{od an:Option Addr}{osl:Array (Option Value)}{kV doc pm cdv ct:Value}(l:K.lookup f=some ⟨oc,od,.func (PySem.W.fnOf x qual (defArgs st) (defBody st) (defScope st) .none kV doc pm an cdv ct),osl⟩)
  (c:PySem.W.codeIn K cdv qual=true) (k:PySem.W.keepIn K (.ref f)=true):Fun K x qual st f (PySem.W.fnOf x qual (defArgs st) (defBody st) (defScope st) .none kV doc pm an cdv ct):=⟨⟨oc,od,kV,doc,pm,an,cdv,ct,osl,rfl,l,c⟩,k⟩
end
section
variable {X:Cx}
theorem call_lenD:CallR X (.builtin "len") (fun xs H Q=>∃a kvs,xs=[V.ref a]/\H a=some (.dK kvs)/\Q (.int kvs.length) H):=by
 intro pins s σ H xs us Q I r h
 obtain⟨a,kvs,rfl,ha,q⟩:=h
 obtain⟨u,rfl,ru⟩:=vals1 r
 cases ru
 exact d_len I (.inl ha) fun t s' I'=>⟨.int kvs.length,H,I',⟨t,rfl⟩,q⟩
end
noncomputable def Same(H H':Hp):Prop:=∀b o,H b=some o->H' b=some o
theorem Same.seq{K:PySem.W.Frag}{H H':Hp}{a:Addr}{xs:List V}(e:Same H H')(h:SqL K H a xs):SqL K H' a xs:=by
 rcases h with (h|⟨o,h⟩)|h
 ·exact .inl (.inl (e _ _ h))
 ·exact .inl (.inr ⟨o,e _ _ h⟩)
 ·exact .inr h
section
variable {κ:Type} [DecidableEq κ]
end
end L2
end
section
namespace L2
open PySem PySem.Spec PyProof.Rows
theorem closure_go(env:Env):∀(names:List (Str×NameKind)) (acc:List (Str×Addr)),(∀y∈names,y.2=.free->∃c,env.cells.lookup y.1=some c) ->
  (∀x c,acc.lookup x=some c->env.cells.lookup x=some c) ->
  ∃cl,(forIn names acc fun x r=>if (x.snd==NameKind.free)=true then do let c <-cellOf env x.fst;pure (ForInStep.yield ((x.fst,c)::r)) else pure (ForInStep.yield r))=(pure cl:Sem (List (Str×Addr))) /\
   (∀x c,cl.lookup x=some c->env.cells.lookup x=some c)/\∀x,((x,NameKind.free)∈names\/∃c,acc.lookup x=some c)->∃c,cl.lookup x=some c
 | [],acc,_,ha=>⟨acc,rfl,ha,fun x h=>h.elim (fun z=>nomatch z) fun z=>z⟩
 | (n,k)::r,acc,hn,ha=>by
  have hr:∀y∈r,y.2=NameKind.free->∃c,env.cells.lookup y.1=some c:=fun y hy=>hn y (List.mem_cons_of_mem _ hy)
  by_cases hk:k=.free
  ·subst hk
   obtain⟨c,hc⟩:=hn (n,.free) List.mem_cons_self rfl
   have ha':∀x d,((n,c)::acc).lookup x=some d->env.cells.lookup x=some d:=fun x d h=>by
    rw[List.lookup_cons] at h
    cases e:x==n with
    | true =>
     rw[e] at h
     have e':x=n:=eq_of_beq e
     cases h
     rw[e'];exact hc
    | false=>rw[e] at h;exact ha x d h
   obtain⟨cl,e1,e2,e3⟩:=closure_go env r ((n,c)::acc) hr ha'
   refine⟨cl,?_,e2,fun x h=>?_⟩
   ·rw[List.forIn_cons]
    have hco:cellOf env n=pure c:=by unfold cellOf;rw[hc]
    simp only[beq_self_eq_true,if_true,hco]
    exact e1
   ·by_cases hx:x=n
    ·subst hx
     exact e3 x (.inr ⟨c,by simp[List.lookup_cons]⟩)
    ·rcases h with h|⟨d,h⟩
     ·rcases List.mem_cons.mp h with z|z
      ·exact absurd (congrArg Prod.fst z) hx
      ·exact e3 x (.inl z)
     ·refine e3 x (.inr ⟨d,?_⟩)
      rw[List.lookup_cons]
      have:(x==n)=false:=beq_eq_false_iff_ne.mpr hx
      rw[this];exact h
  ·have hb:(k==NameKind.free)=false:=beq_eq_false_iff_ne.mpr hk
   obtain⟨cl,e1,e2,e3⟩:=closure_go env r acc hr ha
   refine⟨cl,?_,e2,fun x h=>e3 x ?_⟩
   ·rw[List.forIn_cons]
    simp only[hb,Bool.false_eq_true,if_false]
    exact e1
   ·rcases h with h|h
    ·rcases List.mem_cons.mp h with z|z
     ·cases z;exact absurd rfl hk
     ·exact .inl z
    ·exact .inr h
theorem closure_of{scope:Scope}{env:Env}(h:∀y∈scope.names,y.2=.free->∃c,env.cells.lookup y.1=some c) :
  ∃cl,closureFor scope env=pure cl/\(∀x c,cl.lookup x=some c->env.cells.lookup x=some c)/\∀x,(x,NameKind.free)∈scope.names->∃c,cl.lookup x=some c:=by
 obtain⟨cl,e1,e2,e3⟩:=closure_go env scope.names [] h (fun x c z=>by simp at z)
 refine⟨cl,?_,e2,fun x hx=>e3 x (.inl hx)⟩
 unfold closureFor
 simp only[bind_pure]
 exact e1
noncomputable def compCx(X:Cx)(scope:Scope)(N':List Str)(cl:List (Str×Addr))(C:Addr)(s:Shared)(H:Hp)(fp:List Addr):Cx :=
 { prog:=X.prog,w:=X.w,K:=X.K,mg:=X.mg,base:=X.base,A:=X.A,N:=N',s₀:=s,H₀:=H,env:=compEnvC scope cl C X.env,outer:=X.stack,stack:=X.stack,ex:=fp,fn:=fun _=>false,calm:=X.calm,pn:=[],xe:=fun _ _=>False }
noncomputable def compSt(js:List (Option Nat))(σ:St):St:=js.map fun o=>match o with
 | none=>none
 | some j=>match σ[j]? with
  | some (some v)=>some v
  | _=>none
noncomputable def freeIn(sc:Scope)(x:Str):Bool:=sc.names.lookup x==some .cell||sc.names.lookup x==some .free
noncomputable def compOkB(XN:List Str)(xsc scope:Scope)(N':List Str)(js:List (Option Nat)):Bool :=
 scope.kind==.function&&(scope.names.all fun y=>y.2 != .local||scope.names.lookup y.1==some .local)&&(scope.names.all fun y=>y.2 != .cell) &&
 (scope.names.all fun y=>y.2 != .free||(freeIn xsc y.1&&scope.names.lookup y.1==some .free))&&js.length==N'.length &&
 ((N'.zip js).all fun p=>match p.2 with|none=>true|some j=>XN[j]?==some p.1&&scope.names.lookup p.1==some .free)
structure CompOk (X:Cx) (scope:Scope) (N':List Str) (js:List (Option Nat)):Prop where
 kind:scope.kind=.function
 names:∀y∈scope.names,y.2=.local->scope.names.lookup y.1=some .local
 nocell:∀y∈scope.names,y.2≠.cell
 free:∀y∈scope.names,y.2=.free->freeIn X.env.scope y.1=true/\scope.names.lookup y.1=some .free
 len:js.length=N'.length
 src:∀(i:Nat) (x:Str) (j:Nat),N'[i]?=some x->js[i]?=some (some j)->X.N[j]?=some x/\scope.names.lookup x=some .free
theorem compOk_of{X:Cx}{scope:Scope}{N':List Str}{js:List (Option Nat)}(h:compOkB X.N X.env.scope scope N' js=true):CompOk X scope N' js:=by
 unfold compOkB at h
 simp only[Bool.and_eq_true,List.all_eq_true] at h
 obtain⟨⟨⟨⟨⟨h1,h2⟩,h3⟩,h4⟩,h5⟩,h6⟩:=h
 refine⟨eq_of_beq h1,fun y hy e=>?_,fun y hy e=>?_,fun y hy e=>?_,eq_of_beq h5,fun i x j e1 e2=>?_⟩
 ·have:=h2 y hy
  rw[e] at this
  simpa using this
 ·have:=h3 y hy
  rw[e] at this
  simp at this
 ·have:=h4 y hy
  rw[e] at this
  simpa using this
 ·have hm:(x,some j)∈N'.zip js:=by
   refine List.mem_iff_getElem?.mpr ⟨i,?_⟩
   rw[List.getElem?_zip_eq_some]
   exact⟨e1,e2⟩
  have:=h6 _ hm
  simpa using this
theorem compSt_length(js:List (Option Nat))(σ:St):(compSt js σ).length=js.length:=by unfold compSt;rw[List.length_map]
noncomputable def PTs(X:Cx)(ifs:List Expr)(t:TT):Prop :=
 ∀(pins:List (Addr×Obj)) (s:Shared) (σ:St) (H:Hp) (Q:Bool->Hp->Prop),Inv X pins σ H s->t σ H Q ->
  wpAny (model X.prog X.w) X.A (forIn ifs true fun c r=>if r=true then do let ok <-isTrue c X.env (eval c X.env);pure (ForInStep.yield ok) else pure (ForInStep.yield r)) (TP X pins σ Q) X.xe s
noncomputable def tTrue:TT:=fun _ H Q=>Q true H
theorem pts_nil{X:Cx}:PTs X [] tTrue:=fun _ _ _ H _ I h=>wpAny_tests_nil ⟨H,I,h⟩
theorem pts_one{X:Cx}{c:Expr}{t:TT}(h:PT X c t):PTs X [c] t:=fun pins s σ H Q I hw=>wpAny_tests_one (h pins s σ H Q I hw)
noncomputable def tComp(wi:TI)(js:List (Option Nat))(g:TG)(tt:TT)(te:TE):TE:=fun σ H Q=>wi σ H fun J H1=>∀D,H1 D=none->∃W:Nat->Nat->St->Hp->Prop,(∃m,W 0 m (compSt js σ) (upd H1 D (.lst []))) /\
 ∀i m σ' H,W i m σ' H->(J.stop i H/\Q (.ref D) H)\/(J.go i H/\∃N:St->Hp->Prop,(∀σ'' H',N σ'' H'->∃m',m'<m/\W (i+1) m' σ'' H') /\
  ∀x H',J.yld i H x H'->g x σ' H' fun σ2 H2=>tt σ2 H2 fun b H3=>if b=true then te σ2 H3 fun y H4=>∃ys,H4 D=some (.lst ys)/\ys.length<sizeLine/\N σ2 (upd H4 D (.lst (ys++[y]))) else N σ2 H3)
theorem relabel_names{scope:Scope}{env:Env}{x:Str}(hc:∀y∈scope.names,y.2≠.cell)
  (h:(relabel scope env).names.lookup x=some .cell\/(relabel scope env).names.lookup x=some .free):(x,NameKind.free)∈scope.names:=by
 unfold relabel at h
 simp only at h
 generalize scope.names=ns at hc h
 induction ns with
 | nil=>simp at h
 | cons p r ih =>
  obtain⟨n,k⟩:=p
  have hc':∀y∈r,y.2≠.cell:=fun y hy=>hc y (List.mem_cons_of_mem _ hy)
  simp only[List.map_cons] at h
  cases hx:x==n with
  | true =>
   have e':x=n:=eq_of_beq hx
   subst e'
   by_cases hk:k=.free
   ·subst hk;exact List.mem_cons_self
   ·have hk2:=hc (x,k) List.mem_cons_self
    have hb:(k==NameKind.free)=false:=beq_eq_false_iff_ne.mpr hk
    rw[hb] at h
    simp only[Bool.false_and,Bool.false_eq_true,if_false,List.lookup_cons,beq_self_eq_true] at h
    rcases h with h|h
    ·exact absurd (Option.some.inj h) hk2
    ·exact absurd (Option.some.inj h) hk
  | false =>
   refine List.mem_cons_of_mem _ (ih hc' ?_)
   by_cases hk:(k==NameKind.free&&env.scope.kind==.function&&env.kindOf n==some .cell)=true
   ·rw[if_pos hk] at h
    simp only[List.lookup_cons,hx] at h
    exact h
   ·rw[if_neg hk] at h
    simp only[List.lookup_cons,hx] at h
    exact h
theorem relabel_free{scope:Scope}{env:Env}{x:Str}(h:scope.names.lookup x=some .free) :
  (relabel scope env).names.lookup x=some .cell\/(relabel scope env).names.lookup x=some .free:=by
 unfold relabel
 simp only
 generalize scope.names=ns at h
 induction ns with
 | nil=>simp at h
 | cons p r ih =>
  obtain⟨n,k⟩:=p
  simp only[List.map_cons]
  cases hx:x==n with
  | true =>
   simp only[List.lookup_cons,hx] at h
   have hk:=Option.some.inj h
   subst hk
   by_cases hk:(NameKind.free==NameKind.free&&env.scope.kind==.function&&env.kindOf n==some .cell)=true
   ·rw[if_pos hk];simp[List.lookup_cons,hx]
   ·rw[if_neg hk];simp[List.lookup_cons,hx]
  | false =>
   simp only[List.lookup_cons,hx] at h
   by_cases hk:(k==NameKind.free&&env.scope.kind==.function&&env.kindOf n==some .cell)=true
   ·rw[if_pos hk];simp only[List.lookup_cons,hx];exact ih h
   ·rw[if_neg hk];simp only[List.lookup_cons,hx];exact ih h
section
variable {X:Cx} {pins:List (Addr×Obj)} {σ:St} {scope:Scope} {N':List Str} {js:List (Option Nat)}
theorem free_cells(ok:CompOk X scope N' js)(xo:X.Ok):∀y∈scope.names,y.2=.free->∃c,X.env.cells.lookup y.1=some c:=fun y hy e=>by
 have:=(ok.free y hy e).1
 unfold freeIn at this
 rw[Bool.or_eq_true] at this
 refine xo.has y.1 ?_
 rcases this with z|z
 ·exact .inl (eq_of_beq z)
 ·exact .inr (eq_of_beq z)
theorem comp_entry{H:Hp}{s:Shared}{cl:List (Str×Addr)}{fp:List Addr}{h':Heap}{tk:Nat}(ok:CompOk X scope N' js)(I:Inv X pins σ H s)
  (hcl1:∀x c,cl.lookup x=some c->X.env.cells.lookup x=some c) (hcl2:∀x,(x,NameKind.free)∈scope.names->∃c,cl.lookup x=some c)
  (hfp:∀b∈fp,FpOk X pins H b) (hlt:∀b∈fp,b<s.heap.objs.size)
  (hns:h'.Ns s.heap.objs.size (fun _=>none)) (hk:∀b o,s.heap.get? b=some o->h'.get? b=some o) :
  Inv (compCx X scope N' cl s.heap.objs.size s H fp) [] (compSt js σ) H { s with heap:=h',toks:=tk }:=by
 have cellK:∀x c,cl.lookup x=some c->∃v,s.heap.IsCell c v:=fun x c e=>I.cell x c (hcl1 x c e)
 have hCf:H s.heap.objs.size=none:=I.hok.fresh (Nat.le_refl _)
 refine⟨⟨I.ok.mod,ok.kind,I.ok.glob,I.ok.blt,Nat.le_refl _,fun x y c e1 e2=>I.ok.inj x y c (hcl1 x c e1) (hcl1 y c e2),fun x hx=>hcl2 x (relabel_names ok.nocell hx),fun x c hf _=>absurd hf (by intro z;cases z),I.ok.hd,I.ok.frames,.inl rfl,
   fun b hb=>⟨Nat.ne_of_lt (hlt b hb),fun x c e z=>?_⟩,I.bs,Nat.le_trans I.ok.bsz I.sz,fun b o e hb=>?_,fun b hb hs=>?_,I.stack,I.stkFree⟩,rfl,I.bare,Un.kept hk,⟨_,hns,fun i x v e1 e2 e3=>?_⟩,fun x c e=>?_,hCf,fun x c e=>I.freeC x c (hcl1 x c e),
   fun p hp=>absurd (show p∈([]:List (Addr×Obj)) from hp) (by simp),I.hok.kept hk,?_⟩
 ·exact(hfp b hb).2.2.2.2.1 x c (hcl1 x c e) z
 ·rcases(hfp b hb).2.2.2.1 with z|z
  ·exact I.ok.noex b o e z
  ·exact absurd (Nat.lt_of_lt_of_le (Heap.lt_size (I.ok.bs b o e).1) z) (Nat.lt_irrefl _)
 ·rcases List.mem_cons.mp (I.stkSub b hs) with z|z
  ·exact(hfp b hb).2.1 z
  ·exact(hfp b hb).2.2.1 z
 ·-- a name that has a value: one of the def around
  have e2':(compSt js σ)[i]?=some (some v):=e2
  unfold compSt at e2'
  rw[List.getElem?_map] at e2'
  cases hj:js[i]? with
  | none=>rw[hj] at e2';cases e2'
  | some o =>
   rw[hj] at e2'
   cases o with
   | none=>simp at e2'
   | some j =>
    obtain⟨hN,hf⟩:=ok.src i x j e1 hj
    cases hs:σ[j]? with
    | none=>simp[hs] at e2'
    | some ov =>
     cases ov with
     | none=>simp[hs] at e2'
     | some v' =>
      simp[hs] at e2'
      subst e2'
      have hfr:=(ok.free (x,.free) (PySem.mem_of_lookup hf) rfl).1
      unfold freeIn at hfr
      rw[Bool.or_eq_true] at hfr
      have hfr':X.env.scope.names.lookup x=some .cell\/X.env.scope.names.lookup x=some .free:=hfr.imp eq_of_beq eq_of_beq
      obtain⟨m,_,hl⟩:=I.loc
      obtain⟨u,r,l⟩:=hl j x v' hN hs (.inr hfr')
      refine⟨u,r,.inr ⟨relabel_free hf,?_⟩⟩
      rcases l with ⟨k,_⟩|⟨_,c,e,z⟩
      ·have k':X.env.scope.names.lookup x=some .local:=k
       rcases hfr' with q|q<;>(rw[q] at k';cases k')
      ·obtain⟨d,hd⟩:=hcl2 x (PySem.mem_of_lookup hf)
       have e':=hcl1 x d hd
       rw[e] at e';cases e'
       obtain⟨oc,hoc,hocd⟩:=z
       exact⟨c,hd,oc,hk _ _ hoc,hocd⟩
 ·obtain⟨v,oc,hoc,hocd⟩:=cellK x c e
  exact⟨v,oc,hk _ _ hoc,hocd⟩
 ·rw[compSt_length];exact ok.len
theorem comp_exit{H H':Hp}{s s':Shared}{cl:List (Str×Addr)}{fp:List Addr}{C:Addr}{σ':St}(I:Inv X pins σ H s)(hfp:∀b∈fp,FpOk X pins H b)
  (J:Inv (compCx X scope N' cl C s H fp) [] σ' H' s'):Inv X pins σ H' s' :=
 I.call' (ch:=fp) J.os J.base J.hok J.bare fun b hb=>⟨(hfp b hb).2.2.2.1,(hfp b hb).2.1,(hfp b hb).2.2.2.2.1,(hfp b hb).2.2.2.2.2⟩
end
section
variable {X:Cx} {scope:Scope} {N':List Str} {js:List (Option Nat)} {tg elt iter:Expr} {ifs:List Expr} {pos:Pos} {wi:TI} {g:TG} {tt:TT} {te:TE}
theorem comp_run{pins:List (Addr×Obj)}{σ:St}{H2:Hp}{s2:Shared}{it:Addr}{fp:List Addr}{tn:Nat->Heap->Prop}{J:It}{cl:List (Str×Addr)}{E:Value->Shared->Prop}{RR:Value->Addr->Result->Shared->Prop}{Q:VK}
  (ok:CompOk X scope N' js) (hc:X.calm=true) (I2:Inv X pins σ H2 s2) (T:Turn X.prog X.w X.K tg J fp it tn) (st2:tn 0 s2.heap) (f2:∀b∈fp,FpOk X pins H2 b)
  (hcl1:∀x c,cl.lookup x=some c->X.env.cells.lookup x=some c) (hcl2:∀x,(x,NameKind.free)∈scope.names->∃c,cl.lookup x=some c)
  (hg:∀cl C s H fp,PG (compCx X scope N' cl C s H fp) tg g) (ht:∀cl C s H fp,PTs (compCx X scope N' cl C s H fp) ifs tt) (he:∀cl C s H fp,PE (compCx X scope N' cl C s H fp) elt te)
  (rd:∀D,H2 D=none->∃W:Nat->Nat->St->Hp->Prop,(∃m,W 0 m (compSt js σ) (upd H2 D (.lst []))) /\
   ∀i m σ' H,W i m σ' H->(J.stop i H/\Q (.ref D) H)\/(J.go i H/\∃N:St->Hp->Prop,(∀σ'' H',N σ'' H'->∃m',m'<m/\W (i+1) m' σ'' H') /\
    ∀x H',J.yld i H x H'->g x σ' H' fun σ2 H2=>tt σ2 H2 fun b H3=>if b=true then te σ2 H3 fun y H4=>∃ys,H4 D=some (.lst ys)/\ys.length<sizeLine/\N σ2 (upd H4 D (.lst (ys++[y]))) else N σ2 H3))
  (hRR:∀(D C:Addr) (s':Shared) (H':Hp) (m:Str->Option Value),s2.heap.objs.size<=C->Inv X pins σ H' s'->H' C=none->s'.heap.Ns C m->Q (.ref D) H'->RR (.ref D) C (.ok .next) s') :
  wpAny (model X.prog X.w) X.A (newList []) (fun acc s₃=>wpAny (model X.prog X.w) X.A (newFunctionEnv scope X.env.globals cl [] X.env.qual none .none (some X.env)) (fun cenv s₄ =>
   codeAny (model X.prog X.w) X.A (.compStart (.ListComp elt [⟨tg,iter,ifs,0⟩] scope pos) 0 (.ref it) acc { cenv with scope:=relabel scope X.env }) (RR acc cenv.locals) s₄) E s₃) E s2:=by
 have hD:H2 s2.heap.objs.size=none:=I2.hok.fresh (Nat.le_refl _)
 refine wpAny_newObj_type (wpAny_newFunctionEnv ok.nocell (by intro y hy;simp at hy) (fun h₁ hns₁ hsb₁=>?_) ok.kind)
 dsimp only at hns₁ hsb₁ |-
 have I3:Inv X pins σ (upd H2 s2.heap.objs.size (.lst [])) { s2 with heap:=s2.heap.push { cls:=.type "list",dict:=none,data:=.seq ([]:List Value).toArray },toks:=s2.toks } :=
  I2.laid (t':=s2.toks) (fun b u e=>Heap.get?_push_of_some _ e) (Nat.le_refl _) ⟨by simp,[],0,.nil,Heap.get?_push_size _ rfl⟩
 generalize hs3:({ s2 with heap:=s2.heap.push { cls:=.type "list",dict:=none,data:=.seq ([]:List Value).toArray },toks:=s2.toks }:Shared)=s3 at I3
 have hsz:s3.heap.objs.size=s2.heap.objs.size+1:=by rw[<-hs3];exact Heap.size_push ..
 have eC:(s2.heap.push { cls:=.type "list",dict:=none,data:=.seq ([]:List Value).toArray }).objs.size=s3.heap.objs.size:=by rw[<-hs3]
 have f3:∀b∈fp,FpOk X pins (upd H2 s2.heap.objs.size (.lst [])) b:=fun b hb=>by
  obtain⟨o,e,_⟩:=T.obj _ _ st2 b hb
  refine⟨?_,(f2 b hb).2⟩
  rw[upd_ne (Nat.ne_of_lt (Heap.lt_size e))]
  exact(f2 b hb).1
 have hlt:∀b∈fp,b<s3.heap.objs.size:=fun b hb=>by
  obtain⟨o,e,_⟩:=T.obj _ _ st2 b hb
  have hb2:b<s2.heap.objs.size:=Heap.lt_size e
  rw[hsz]
  exact Nat.lt_succ_of_lt hb2
 have keep:∀b o,s3.heap.get? b=some o->h₁.get? b=some o:=fun b o e=>by
  have e':(s2.heap.push { cls:=.type "list",dict:=none,data:=.seq ([]:List Value).toArray }).get? b=some o:=by rw[<-hs3] at e;exact e
  exact hsb₁.extBut b o (Nat.ne_of_lt (Heap.lt_size e')) (Heap.get?_push_of_some _ e')
 have I4:=comp_entry (tk:=s2.toks+([]:List (Str×Value)).length) ok I3 hcl1 hcl2 f3 hlt (h':=h₁) (by rw[<-eC];simpa using hns₁) keep
 have st4:tn 0 h₁:=T.keep _ _ _ st2 fun b hb o e=>keep b o (by rw[<-hs3];exact Heap.get?_push_of_some _ e)
 obtain⟨W,⟨m0,w0⟩,turn⟩:=rd _ hD
 have stat:∀{H':Hp},(∀b∈fp,H' b=none)->∀b∈fp,FpOk (compCx X scope N' cl s3.heap.objs.size s3 (upd H2 s2.heap.objs.size (.lst [])) fp) [] H' b:=fun {H'} hn b hb =>
  ⟨hn b hb,Nat.ne_of_lt (hlt b hb),I4.ok.exfs b hb,.inl hb,(I4.ok.exf b hb).2,fun p hp=>absurd (show p∈([]:List (Addr×Obj)) from hp) (by simp)⟩
 have es3:∀tk,({ s2 with heap:=h₁,toks:=tk }:Shared)={ s3 with heap:=h₁,toks:=tk }:=fun tk=>by rw[<-hs3]
 have loop:codeAny (model X.prog X.w) X.A (.compLoop (.ListComp elt [⟨tg,iter,ifs,0⟩] scope pos) 0 (.ref it) (.ref s2.heap.objs.size) (compEnvC scope cl s3.heap.objs.size X.env)) (RR (.ref s2.heap.objs.size) s3.heap.objs.size)
   { s3 with heap:=h₁,toks:=s2.toks+([]:List (Str×Value)).length }:=by
  refine codeAny_loop rfl (fun n s'=>∃i σ' H',Inv (compCx X scope N' cl s3.heap.objs.size s3 (upd H2 s2.heap.objs.size (.lst [])) fp) [] σ' H' s'/\tn i s'.heap/\(∀b∈fp,H' b=none)/\W i n σ' H') ?_ m0 ⟨0,_,_,I4,st4,fun b hb=>(f3 b hb).1,w0⟩
  rintro n s5 ⟨i,σ5,H5,I5,st5,fr5,w5⟩
  show wpAny _ X.A ((compTurn (.ListComp elt [⟨tg,iter,ifs,0⟩] scope pos) 0 (.ref it) (.ref s2.heap.objs.size) (compEnvC scope cl s3.heap.objs.size X.env)).onRaise (fun x=>do noteFrame x (compEnvC scope cl s3.heap.objs.size X.env);theTreesLotGoes x)) _ _ s5
  refine wpAny_noted ?_
  rw[compTurn_list]
  refine wpAny_bind (wpAny_standAt (wpAny_bind ?_))
  rcases turn i n σ5 H5 w5 with ⟨stop,qn⟩|⟨go,N,hN,step⟩
  ·refine wpAny_mono (T.done (compCx X scope N' cl s3.heap.objs.size s3 (upd H2 s2.heap.objs.size (.lst [])) fp) rfl rfl rfl hc i [] s5 σ5 H5 (fun _ _=>False) I5 (stat fr5) st5 stop) (fun r s6 ⟨hr,I6⟩=>?_) fun _ _ z=>z.elim
   subst hr
   refine wpAny_pure ?_
   obtain⟨m,hm,_⟩:=id I6.loc
   exact hRR _ _ s6 H5 m (by rw[hsz];exact Nat.le_succ _) (comp_exit I3 f3 I6) I6.free hm qn
  ·refine wpAny_mono (T.item (compCx X scope N' cl s3.heap.objs.size s3 (upd H2 s2.heap.objs.size (.lst [])) fp) rfl rfl rfl hc i [] s5 σ5 H5 (fun _ _=>False) I5 (stat fr5) st5 go) (fun r s6 ⟨u,hr,h6⟩=>?_) fun _ _ z=>z.elim
   subst hr
   refine wpAny_bind (wpAny_mono h6 (fun _ s7 ⟨x,H7,I7,r7,y7,st7,fr7⟩=>?_) fun _ _ z=>z.elim)
   have I7':=I7.pinned (stat fr7) (T.obj _ _ st7)
   refine wpAny_bind (wpAny_mono (hg _ _ _ _ _ _ s7 σ5 H7 x u _ I7' r7 (step x H7 y7)) (fun _ s8 ⟨σ8,H8,I8,q8⟩=>?_) fun _ _ z=>z.elim)
   refine wpAny_bind (wpAny_mono (ht _ _ _ _ _ _ s8 σ8 H8 _ I8 q8) (fun b s9 ⟨H9,I9,q9⟩=>?_) fun _ _ z=>z.elim)
   have again':∀{sA:Shared} {σA:St} {HA:Hp},Inv (compCx X scope N' cl s3.heap.objs.size s3 (upd H2 s2.heap.objs.size (.lst [])) fp) ([]++pinsAt fp s7.heap) σA HA sA->N σA HA ->
     ∃m,m<n/\∃i σ' H',Inv (compCx X scope N' cl s3.heap.objs.size s3 (upd H2 s2.heap.objs.size (.lst [])) fp) [] σ' H' sA/\tn i sA.heap/\(∀b∈fp,H' b=none)/\W i m σ' H':=fun {sA σA HA} IA nA=>by
    obtain⟨m',hm,wA⟩:=hN σA HA nA
    refine⟨m',hm,i+1,σA,HA,IA.unpinned,T.keep _ _ _ st7 fun b hb o e=>(IA.pin (b,o) (List.mem_append_right _ (List.mem_append_right _ (mem_pinsAt hb e)))).1,fun b hb=>?_,wA⟩
    obtain⟨o,e,d⟩:=T.obj _ _ st7 b hb
    exact(IA.pin (b,o) (List.mem_append_right _ (List.mem_append_right _ (mem_pinsAt hb e)))).2.1
   cases b with
   | false=>exact wpAny_pure ⟨rfl,again' I9 (by simpa using q9)⟩
   | true =>
    rw[if_pos rfl] at q9
    refine wpAny_bind (wpAny_bind (wpAny_mono (he _ _ _ _ _ _ s9 σ8 H9 _ I9 q9) (fun v sB ⟨y,HB,IB,rB,ys,hys,hlen,nB⟩=>?_) fun _ _ z=>z.elim))
    refine wpAny_bind (wpAny_mono (mt_append (X:=compCx X scope N' cl s3.heap.objs.size s3 (upd H2 s2.heap.objs.size (.lst [])) fp) _ sB σ8 HB (.ref s2.heap.objs.size) [y] _ [v] (fun _ HC=>HC=upd HB s2.heap.objs.size (.lst (ys++[y]))) IB rfl (.cons rB .nil) ⟨_,ys,y,rfl,rfl,hys,hlen,rfl⟩) (fun v' sC ⟨_,HC,IC,_,eC'⟩=>?_) fun _ _ z=>z.elim)
    subst eC'
    exact wpAny_pure (wpAny_pure ⟨rfl,again' IC nB⟩)
 rw[es3]
 have eenv:({ newEnv scope (s2.heap.push { cls:=.type "list",dict:=none,data:=.seq ([]:List Value).toArray }).objs.size X.env.globals cl X.env.qual none Value.none (some X.env) builtinsNs with scope:=relabel scope X.env }:Env)=compEnvC scope cl s3.heap.objs.size X.env:=by
  rw[eC];rfl
 have eloc:(newEnv scope (s2.heap.push { cls:=.type "list",dict:=none,data:=.seq ([]:List Value).toArray }).objs.size X.env.globals cl X.env.qual none Value.none (some X.env) builtinsNs).locals=s3.heap.objs.size:=by
  rw[eC];rfl
 rw[eenv,eloc]
 exact codeAny_compStart_list loop (T.self _ _ _ _ _ st4 loop)
theorem pe_comp(hok:compOkB X.N X.env.scope scope N' js=true)(hc:X.calm=true)(hi:PI X tg iter wi)(hg:∀cl C s H fp,PG (compCx X scope N' cl C s H fp) tg g)
  (ht:∀cl C s H fp,PTs (compCx X scope N' cl C s H fp) ifs tt) (he:∀cl C s H fp,PE (compCx X scope N' cl C s H fp) elt te)
  (hs:∀x,foldedSetIterable iter X.env x=pure x:=by intro _;rfl):PE X (.ListComp elt [⟨tg,iter,ifs,0⟩] scope pos) (tComp wi js g tt te):=by
 intro pins s σ H Q I h
 have ok:=compOk_of hok
 obtain⟨cl,ecl,hcl1,hcl2⟩:=closure_of (free_cells ok I.ok)
 rw[eval_ListComp]
 refine wpAny_comprehension_free (use:=none) rfl hs ecl ok.kind ok.names (thn (hi pins s σ H _ I h) fun xv s1 h1=>thn h1 fun itv s2 h2=>?_)
 obtain⟨it,fp,tn,J,H2,rfl,I2,T,st2,f2,rd⟩:=h2
 refine comp_run (RR:=fun acc C=>compPost (model X.prog X.w) X.A X.xe none (EP X pins σ Q) acc C) ok hc I2 T st2 f2 hcl1 hcl2 hg ht he rd ?_
 intro D C s' H' m hC J' fC hm q
 refine⟨m,hm,fun h' hs'=>⟨.ref D,H',?_,rfl,q⟩⟩
 refine J'.turned (t':=s'.toks) (fun b o hb e=>hs'.extBut b o hb e) fC (Nat.ne_of_gt (Nat.lt_of_lt_of_le I2.lt hC)) (.inr (Nat.le_trans I2.sz hC)) (fun x c e z=>?_) fun p hp z=>?_
 ·obtain⟨v,q'⟩:=I2.cell x c e
  exact absurd (Nat.lt_of_lt_of_le q'.lt (by rw[z];exact hC)) (Nat.lt_irrefl _)
 ·exact absurd (Nat.lt_of_lt_of_le (Heap.lt_size (I2.pin p hp).1) (by rw[z];exact hC)) (Nat.lt_irrefl _)
theorem ps_comp{i:Nat}{x:Str}{pos' spos:Pos}(hN:X.N.Nodup)(hx:X.N[i]?=some x)(hl:Loc X.env.scope x)(hok:compOkB X.N X.env.scope scope N' js=true)(hc:X.calm=true)(hi:PI X tg iter wi)(hg:∀cl C s H fp,PG (compCx X scope N' cl C s H fp) tg g)
  (ht:∀cl C s H fp,PTs (compCx X scope N' cl C s H fp) ifs tt) (he:∀cl C s H fp,PE (compCx X scope N' cl C s H fp) elt te)
  (hsw:swapsWith (.ListComp elt [⟨tg,iter,ifs,0⟩] scope pos) (some (.Name x pos')) spos.line X.env=pure true:=by rfl)
  (hf:X.fn x=true\/X.env.scope.names.lookup x=some .local:=by first|exact .inl rfl|exact .inr rfl|assumption)
  (hs:∀x,foldedSetIterable iter X.env x=pure x:=by intro _;rfl):PS X (.Assign [.Name x pos'] (.ListComp elt [⟨tg,iter,ifs,0⟩] scope pos) spos) (tAsg (tComp wi js g tt te) (gName i)):=by
 intro pins s σ H D I h
 have ok:=compOk_of hok
 obtain⟨cl,ecl,hcl1,hcl2⟩:=closure_of (free_cells ok I.ok)
 rw[exec_Assign_Name_used _ _ _ _ hsw]
 refine wpAny_bind (wpAny_standAt (wpAny_bind ?_))
 show wpAny _ X.A (do let _ <-comprehension (.ListComp elt [⟨tg,iter,ifs,0⟩] scope pos) scope X.env _ (newList []) false (eval iter X.env) (some (assign (.Name x pos') X.env))) _ _ s
 refine wpAny_bind (wpAny_mono (wpAny_comprehension_free (use:=some (assign (.Name x pos') X.env)) (Q:=fun _ s'=>SP X pins D .next s') rfl hs ecl ok.kind ok.names
  (thn (hi pins s σ H _ I h) fun xv s1 h1=>thn h1 fun itv s2 h2=>?_)) (fun _ s' hq=>wpAny_pure (wpAny_pure hq)) fun _ _ e=>e)
 obtain⟨it,fp,tn,J,H2,rfl,I2,T,st2,f2,rd⟩:=h2
 refine comp_run (RR:=fun acc C=>compPost (model X.prog X.w) X.A X.xe (some (assign (.Name x pos') X.env)) (fun _ s'=>SP X pins D .next s') acc C) (Q:=fun x H1=>gName i x σ H1 D.nx) ok hc I2 T st2 f2 hcl1 hcl2 hg ht he rd ?_
 intro E C s' H' m hC J' fC hm q
 have hCL:C≠X.env.locals:=Nat.ne_of_gt (Nat.lt_of_lt_of_le I2.lt hC)
 have hCc:∀x c,X.env.cells.lookup x=some c->c≠C:=fun x c e z=>by
  obtain⟨v,q'⟩:=I2.cell x c e
  exact absurd (Nat.lt_of_lt_of_le q'.lt (by rw[z];exact hC)) (Nat.lt_irrefl _)
 refine thn (show wpAny _ X.A (assign (.Name x pos') X.env (.ref E)) (fun _ s''=>(∃σ'' H'',Inv X pins σ'' H'' s''/\D.nx σ'' H''/\H'' C=none)/\∃m,s''.heap.Ns C m) X.xe s' from ?_) fun _ s'' ⟨⟨σ'',H'',I'',q'',fC''⟩,m'',hm''⟩=>?_
 ·refine wpAny_assign_Name (store_ok2 J' hN hx hl (show RelV (.ref E) (.ref E) from rfl) (fun s'' I'' ⟨a,hsb,ha⟩=>⟨⟨_,H',I'',q,fC⟩,m,?_⟩) hf)
  refine hm.sameBut hsb ?_
  rcases ha with z|z
  ·rw[z];exact hCL
  ·exact fun w=>hCc _ _ z w.symm
 ·refine⟨m'',hm'',fun h' hs'=>⟨σ'',H'',?_,q''⟩⟩
  refine I''.turned (t':=s''.toks) (fun b o hb e=>hs'.extBut b o hb e) fC'' hCL (.inr (Nat.le_trans I2.sz hC)) hCc fun p hp z=>?_
  exact absurd (Nat.lt_of_lt_of_le (Heap.lt_size (I2.pin p hp).1) (by rw[z];exact hC)) (Nat.lt_irrefl _)
end
end L2
end
section
namespace L2
open PySem PySem.Spec PyProof.Rows
theorem Inv.turnedL{X:Cx}{pins:List (Addr×Obj)}{σ:St}{H:Hp}{s:Shared}{h':Heap}{t':Nat}{ch:List Addr}(I:Inv X pins σ H s)(hf:∀b∈ch,FpOk X pins H b)
  (k:∀b o,b∉ch->s.heap.get? b=some o->h'.get? b=some o):Inv X pins σ H { s with heap:=h',toks:=t' }:=by
 have nit:∀b u,H b=some u->b∉ch:=fun b u e z=>by rw[(hf b z).1] at e;cases e
 refine I.step (g':=s.gens) (d':=s.drawn) (ch:=ch) (fun b hb=>?_) (fun b o _ _ hc e _=>k b o hc e) (fun b o _ _ hc e _=>⟨o.slots,k b o hc e⟩) (fun _ _ _ _ n=>n)
  (fun b o hc e=>⟨o,k b o hc e⟩) (fun _ _ e=>e) (fun _ _ _ e=>e) (fun b ps e=>⟨#[],by rw[e];simp⟩) (fun m hm=>?_) (fun b u e=>?_) I.bare
 ·exact⟨(hf b hb).2.2.2.1,(hf b hb).2.1,(hf b hb).2.2.2.2.1,(hf b hb).2.2.2.2.2⟩
 ·obtain⟨o,es,ep,ho,r⟩:=hm
  exact⟨o,es,ep,k _ o (fun z=>(hf _ z).2.1 rfl) ho,r⟩
 ·refine(I.hok b u e).stay (fun c v hc q=>k c v ?_ q) (fun _ q=>q) fun _ _ q=>q
  rcases hc with z|z
  ·rw[z];exact nit b u e
  ·exact nit c _ z
noncomputable def Ite(K:PySem.W.Frag)(a:Addr):It :=
 ⟨fun i H=>∃xs x,SqL K H a xs/\xs[i]?=some x,fun i H x H'=>∃p v,H p=none/\x=.ref p/\H'=upd H p (.tup [.int i,v])/\∀xs,SqL K H a xs->xs[i]?=some v,fun i H=>∃xs,SqL K H a xs/\xs.length<=i⟩
theorem turn_enum{P:Program}{w:World}{K:PySem.W.Frag}{es:List Expr}{k:Nat}{pos:Pos}(a e it:Addr)(hne:e≠it) :
  Turn P w K (.Tuple es k pos) (Ite K a) [e,it] e (fun i h=>(∃old,IsEnum h e it i old)/\h.IsListIter it a i) where
 mem:=by simp
 obj:=fun i h st b hb=>by
  obtain⟨⟨old,he⟩,⟨o,e2,c,d⟩⟩:=st
  rcases List.mem_cons.mp hb with z|z
  ·subst z;exact⟨_,he,fun v z=>nomatch z⟩
  ·rw[List.mem_singleton.mp z];exact⟨o,e2,fun v z=>by rw[d] at z;cases z⟩
 keep:=fun i h h' st k=>⟨let ⟨old,he⟩:=st.1;⟨old,k e (by simp) _ he⟩,st.2.at fun o e=>k it (by simp) o e⟩
 item:=by
  intro X hP hw hK hc i pins s σ H E I hf st hg
  subst hP hw hK
  obtain⟨xs,x,hq,hx⟩:=hg
  obtain⟨its,rv,p,hz⟩:=I.list hq
  obtain⟨u,hu,ru⟩:=rv.get hx
  obtain⟨⟨old,he⟩,hit⟩:=st
  have hei:e<s.heap.objs.size:=Heap.lt_size he
  have hii:it<s.heap.objs.size:=by obtain⟨_,y,_⟩:=hit;exact Heap.lt_size y
  refine wpAny_pyNext_enum_item he hit p.isList (x:=u) (by simpa using hu) hne fun h' ho hit' hT hsz hk=>?_
  refine⟨_,rfl,?_⟩
  refine wpAny_letOwnedTupleGo_enum ho fun h2 he2 hs2=>?_
  have hT2:h2.get? s.heap.objs.size=some { cls:=.type "tuple",data:=.seq #[.int i s.toks,u] }:=hs2.extBut _ _ (Nat.ne_of_gt hei) hT
  have I1:Inv X pins σ H { s with heap:=h2,toks:=s.toks+1 }:=I.turnedL (ch:=[e,it]) hf fun b o hb q=>by
   have h1:b≠e:=fun z=>hb (by simp[z])
   have h2:b≠it:=fun z=>hb (by simp[z])
   exact hs2.extBut b o h1 (hk b o h1 h2 q)
  have hn:H s.heap.objs.size=none:=I.hok.fresh (Nat.le_refl _)
  have I2:Inv X pins σ (upd H s.heap.objs.size (.tup [.int i,x])) { s with heap:=h2,toks:=s.toks+1 }:=by
   have un:Un X.fs [] H (upd H s.heap.objs.size (.tup [.int i,x])) s.heap s.heap:=Un.laid (fun b u q=>q) (Nat.le_refl _) hn
   refine⟨I1.ok,I1.os,I1.bare,?_,I1.loc,I1.cell,?_,fun y c q=>?_,fun p hp=>?_,fun b o q=>?_,I1.len⟩
   ·refine⟨I1.base.keep,I1.base.slot,fun b o q n hx=>?_,I1.base.there,fun b ys q=>?_,fun b o ys q=>?_,fun b ps q=>?_⟩
    ·have hlt:b<s.heap.objs.size:=Nat.lt_of_lt_of_le (Heap.lt_size q) I.sz
     rw[upd_ne (Nat.ne_of_lt hlt)];exact I1.base.free b o q n hx
    ·rw[upd_ne (ne_of_none (I1.base.tups b ys q) hn)];exact I1.base.tups b ys q
    ·rw[upd_ne (ne_of_none (I1.base.frzs b o ys q) hn)];exact I1.base.frzs b o ys q
    ·obtain⟨more,z⟩:=I1.base.tbls b ps q
     exact⟨more,by rw[upd_ne (ne_of_none z hn)];exact z⟩
   ·rw[upd_ne (Nat.ne_of_lt I.lt)];exact I1.free
   ·obtain⟨v,z⟩:=I.cell y c q
    rw[upd_ne (Nat.ne_of_lt z.lt)];exact I1.freeC y c q
   ·obtain⟨q1,q2,q3⟩:=I1.pin p hp
    refine⟨q1,?_,q3⟩
    rw[upd_ne (Nat.ne_of_lt (Heap.lt_size (I.pin p hp).1))];exact q2
   ·by_cases hb:b=s.heap.objs.size
    ·subst hb
     rw[upd_same] at q;cases q
     exact⟨by show 2<=sizeLine;decide,[.int i s.toks,u],.cons ⟨_,rfl⟩ (.cons ru .nil),_,hT2,rfl,_,rfl⟩
    ·rw[upd_ne hb] at q
     exact(I1.hok b o q).stay (fun c v _ z=>z) (fun c z=>by rw[upd_ne (ne_of_none z hn)];exact z) fun c ys z=>by rw[upd_ne (ne_of_none z hn)];exact z
  refine⟨.ref s.heap.objs.size,_,I2,rfl,⟨s.heap.objs.size,x,hn,rfl,rfl,fun ys hy=>by rw[I.list_inj hy hq];exact hx⟩,⟨⟨_,by simpa using he2⟩,?_⟩,fun b hb=>?_⟩
  ·exact hit'.at fun o y=>(hs2.2 it hne.symm).trans y
  ·have hlt:b<s.heap.objs.size:=by
    rcases List.mem_cons.mp hb with z|z
    ·rw[z];exact hei
    ·rw[List.mem_singleton.mp z];exact hii
   rw[upd_ne (Nat.ne_of_lt hlt)];exact(hf b hb).1
 done:=by
  intro X hP hw hK hc i pins s σ H E I hf st hg
  subst hP hw hK
  obtain⟨xs,hq,hx⟩:=hg
  obtain⟨its,rv,p,hz⟩:=I.list hq
  obtain⟨⟨old,he⟩,hit⟩:=st
  have hl:=rv.length
  exact wpAny_pyNext_enum_end (I.ok.hd hc) he hit p.isList (by simp;omega) fun h' eb=>⟨rfl,I.turnedL (t':=s.toks) (ch:=[e,it]) hf fun b o hb q=>eb b o (fun z=>hb (by simp[z])) q⟩
 self:=fun _ _ _ _ _ st h=>let ⟨_,he⟩:=st.1;wpAny_pyIter_enum he h
noncomputable def iEnum(K:PySem.W.Frag)(ta:TA):TI:=fun σ H R=>ta σ H fun vs H1=>∃a,vs=[.ref a]/\(∃xs,SqL K H1 a xs)/\R (Ite K a) H1
theorem pi_enum{X:Cx}{es:List Expr}{k:Nat}{tpos:Pos}{a:Expr}{ta:TA}{p pos:Pos}(hg:Gl X "enumerate")(hm:X.mg "enumerate" = none)(ha:PA X [a] ta)(hs:starEach [a] X.env=[(false,eval a X.env)]:=by rfl) :
  PI X (.Tuple es k tpos) (.Call (.Name "enumerate" p) [a] [] pos) (iEnum X.K ta):=by
 intro pins s σ H R I h
 refine Call_ (ld_blt I hg hm boot_enumerate (PyProof.Rows.callWith_type1 (thn (ha pos pins s σ H _ I h) fun us s1 zz0=>?_) hs rfl))
 obtain⟨vs,H1,I1,r1,q1⟩:=zz0
 obtain⟨l,e,⟨xs,hq⟩,q⟩:=q1
 subst e
 cases r1 with
 | cons r rr =>
  cases rr
  cases r
  obtain⟨its,rv,pl,hz⟩:=I1.list hq
  refine call_enumerate_list pl.isList fun h' he hit hsz hk=>?_
  have I2:Inv X pins σ H1 { s1 with heap:=h' }:=I1.kept (t':=s1.toks) hk
  refine wpAny_pyIter_enum (s:={ s1 with heap:=h' }) he ?_
  refine⟨_,[s1.heap.objs.size+1,s1.heap.objs.size],_,_,H1,rfl,I2,turn_enum l _ _ (Nat.ne_of_gt (Nat.lt_succ_self _)),⟨⟨_,by simpa using he⟩,hit⟩,fun b hb=>?_,q⟩
  have hb':s1.heap.objs.size<=b:=by
   rcases List.mem_cons.mp hb with z|z
   ·rw[z];exact Nat.le_succ _
   ·rw[List.mem_singleton.mp z];exact Nat.le_refl _
  exact I1.fpOk hb' (I1.hok.fresh hb')
end L2
end
section
namespace L2
open PySem PySem.W PyProof.Rows
namespace Srt
section
variable {O:KeyOrd} {key:Nat->O.α} {N:Nat} {cmp:Nat->Nat->(Bool->Shared->Prop)->Shared->Prop} {s:Shared}
noncomputable def K(O:KeyOrd)(key:Nat->O.α)(p:Array Nat)(i:Nat):O.α:=key (p.getD i 0)
noncomputable def Up(O:KeyOrd)(key:Nat->O.α)(p:Array Nat)(k:Nat):Prop:=∀i j,i<=j->j<k->O.kle (K O key p i) (K O key p j)
noncomputable def Down(O:KeyOrd)(key:Nat->O.α)(p:Array Nat)(k:Nat):Prop:=∀i j,i<=j->j<k->O.kle (K O key p j) (K O key p i)
noncomputable def Ans(O:KeyOrd)(key:Nat->O.α)(N:Nat)(cmp:Nat->Nat->(Bool->Shared->Prop)->Shared->Prop)(s:Shared):Prop :=
 ∀i j (C:Bool->Shared->Prop),i<N->j<N->C (O.blt (key i) (key j)) s->cmp i j C s
noncomputable def Ent(N:Nat)(p:Array Nat):Prop:=p.size=N/\0<N/\∀x∈p.toList,x<N
theorem Ent.at{p:Array Nat}(h:Ent N p)(i:Nat):p.getD i 0<N:=by
 by_cases hi:i<p.size
 ·have e:p.getD i 0=p[i]:=by simp[Array.getD,hi]
  rw[e];exact h.2.2 _ (by simp)
 ·have e:p.getD i 0=0:=by simp[Array.getD,hi]
  rw[e];exact h.2.1
theorem Ent.perm{p q:Array Nat}(h:Ent N p)(e:q.Perm p):Ent N q :=
 ⟨e.size_eq.trans h.1,h.2.1,fun x hx=>h.2.2 x ((Array.perm_iff_toList_perm.mp e).mem_iff.mp hx)⟩
theorem K_congr{p q:Array Nat}{i j:Nat}(h:p[i]?=q[j]?):K O key p i=K O key q j:=by
 unfold K;rw[Array.getD_eq_getD_getElem?,Array.getD_eq_getD_getElem?,h]
theorem K_bubble{p:Array Nat}{src d:Nat}(hs:src<p.size)(hd:d<=src)(k:Nat) :
  K O key (bubble p src d) k=if k=src-d then K O key p src else if src-d<k/\k<=src then K O key p (k-1) else K O key p k:=by
 have e:=getElem?_bubble hs d hd k
 by_cases h1:k=src-d
 ·rw[if_pos h1] at e |-;exact K_congr e
 ·rw[if_neg h1] at e |-
  by_cases h2:src-d<k/\k<=src
  ·rw[if_pos h2] at e |-;exact K_congr e
  ·rw[if_neg h2] at e |-;exact K_congr e
theorem K_rev{p:Array Nat}{i j:Nat}(hj:j<=p.size)(k:Nat):K O key (kas_rev p i j) k=if i<=k/\k<j then K O key p (i+j-1-k) else K O key p k:=by
 have e:=getElem?_mirror_all (i:=i) hj k
 by_cases h1:i<=k/\k<j
 ·rw[if_pos h1] at e |-;exact K_congr e
 ·rw[if_neg h1] at e |-;exact K_congr e
theorem K_rev_eq{p:Array Nat}{i j:Nat}(hj:j<=p.size)(h:∀k,i<=k->k<j->K O key p k=K O key p (j-1))(k:Nat):K O key (kas_rev p i j) k=K O key p k:=by
 rw[K_rev hj]
 split
 ·rw[h _ (by omega) (by omega),h k (by omega) (by omega)]
 ·rfl
theorem up_chain{p:Array Nat}{m:Nat}(h:∀t,1<=t->t<m->O.kle (K O key p (t-1)) (K O key p t)):Up O key p m:=by
 intro i j hij hj
 induction j with
 | zero =>
  have:i=0:=by omega
  subst this;exact KeyOrd.kle_refl _
 | succ j ih =>
  by_cases e:i=j+1
  ·subst e;exact KeyOrd.kle_refl _
  ·exact KeyOrd.kle_trans (ih (by omega) (by omega)) (h (j+1) (by omega) hj)
theorem asc_(hA:Ans O key N cmp s){p:Array Nat}(he:Ent N p):∀(f n:Nat) {Q:Nat->Shared->Prop},1<=n ->
  (∀m,n<=m->m<=n+f->(∀t,n<=t->t<m->O.kle (K O key p (t-1)) (K O key p t))->(m<n+f->O.klt (K O key p m) (K O key p (m-1)))->Q m s)->(kas_asc p f n).kasWp cmp Q s
 | 0,n,Q,hn,h=>h n (Nat.le_refl _) (Nat.le_refl _) (fun t h1 h2=>by omega) fun q=>by omega
 | f+1,n,Q,hn,h=>by
  show cmp _ _ _ s
  refine hA _ _ _ (he.at _) (he.at _) ?_
  cases hb:O.blt (key (p.getD n 0)) (key (p.getD (n-1) 0)) with
  | true=>exact h n (Nat.le_refl _) (by omega) (fun t h1 h2=>by omega) fun _=>hb
  | false =>
   show (kas_asc p f (n+1)).kasWp cmp Q s
   refine asc_ hA he f (n+1) (by omega) fun m h1 h2 h3 h4=>h m (by omega) (by omega) (fun t t1 t2=>?_) fun q=>h4 (by omega)
   by_cases e:t=n
   ·subst e;exact hb
   ·exact h3 t (by omega) t2
theorem desc_(hA:Ans O key N cmp s):∀(f:Nat) (p:Array Nat) (n q:Nat) {Q:Array Nat×Nat×Nat->Shared->Prop},Ent N p->1<=n->n+f<=N->q+1<=n->Down O key p n->(∀i,n-(q+1)<=i->i<n->K O key p i=K O key p (n-1)) ->
  (∀p' n' q',p'.Perm p->Ent N p'->1<=n'->n<=n'->n'<=n+f->q'+1<=n'->Down O key p' n'->(∀i,n'-(q'+1)<=i->i<n'->K O key p' i=K O key p' (n'-1))->Q (p',n',q') s)->(kas_desc f p n q).kasWp cmp Q s
 | 0,p,n,q,Q,he,hn,hN,hq,hd,hl,h=>h p n q (Array.Perm.refl _) he hn (Nat.le_refl _) (Nat.le_refl _) hq hd hl
 | f+1,p,n,q,Q,he,hn,hN,hq,hd,hl,h=>by
  show cmp _ _ _ s
  refine hA _ _ _ (he.at _) (he.at _) ?_
  cases hb:O.blt (key (p.getD n 0)) (key (p.getD (n-1) 0)) with
  | true =>
   have hlt:O.klt (K O key p n) (K O key p (n-1)):=hb
   have hd1:Down O key p (n+1):=fun i j hij hj=>by
    by_cases e:j=n
    ·subst e
     by_cases e2:i=j
     ·subst e2;exact KeyOrd.kle_refl _
     ·exact KeyOrd.kle_trans (KeyOrd.kle_of_klt hlt) (hd i (j-1) (by omega) (by omega))
    ·exact hd i j hij (by omega)
   show (if q>0 then kas_desc f (kas_rev p (n-(q+1)) n) (n+1) 0 else kas_desc f p (n+1) 0).kasWp cmp Q s
   by_cases hq0:q>0
   ·rw[if_pos hq0]
    have ep:(kas_rev p (n-(q+1)) n).Perm p:=mirror_perm _ _ _ _
    have eK:∀k,K O key (kas_rev p (n-(q+1)) n) k=K O key p k:=fun k=>K_rev_eq (by rw[he.1];omega) hl k
    refine desc_ hA f _ (n+1) 0 (he.perm ep) (by omega) (by omega) (by omega) (fun i j hij hj=>by rw[eK,eK];exact hd1 i j hij hj) (fun i h1 h2=>?_) fun p' n' q' g1 g2 g3 g4 g5 g6 g7 g8=>h p' n' q' (g1.trans ep) g2 g3 (by omega) (by omega) g6 g7 g8
    have:i=n:=by omega
    subst this;rfl
   ·rw[if_neg hq0]
    refine desc_ hA f p (n+1) 0 he (by omega) (by omega) (by omega) hd1 (fun i h1 h2=>?_) fun p' n' q' g1 g2 g3 g4 g5 g6 g7 g8=>h p' n' q' g1 g2 g3 (by omega) (by omega) g6 g7 g8
    have:i=n:=by omega
    subst this;rfl
  | false =>
   show cmp _ _ _ s
   refine hA _ _ _ (he.at _) (he.at _) ?_
   cases hc:O.blt (key (p.getD (n-1) 0)) (key (p.getD n 0)) with
   | true=>exact h p n q (Array.Perm.refl _) he hn (Nat.le_refl _) (by omega) hq hd hl
   | false =>
    have heq:K O key p n=K O key p (n-1):=O.total _ _ hb hc
    show (kas_desc f p (n+1) (q+1)).kasWp cmp Q s
    refine desc_ hA f p (n+1) (q+1) he (by omega) (by omega) (by omega) (fun i j hij hj=>?_) (fun i h1 h2=>?_) fun p' n' q' g1 g2 g3 g4 g5 g6 g7 g8=>h p' n' q' g1 g2 g3 (by omega) (by omega) g6 g7 g8
    ·by_cases e:j=n
     ·subst e
      by_cases e2:i=j
      ·subst e2;exact KeyOrd.kle_refl _
      ·rw[heq];exact hd i (j-1) (by omega) (by omega)
     ·exact hd i j hij (by omega)
    ·show K O key p i=K O key p (n+1-1)
     rw[Nat.add_sub_cancel]
     by_cases e:i=n
     ·subst e;rfl
     ·rw[heq];exact hl i (by omega) (by omega)
theorem tail3_(hA:Ans O key N cmp s){p:Array Nat}{n nrem:Nat}{Q:Nat×Array Nat->Shared->Prop}(he:Ent N p)(h1:1<=n)(hn:n<=nrem)(hr:nrem<=N)(hd:Down O key p n)
  (h:∀m p',p'.Perm p->Ent N p'->1<=m->m<=nrem->Up O key p' m->Q (m,p') s):(kas_tail3 n nrem p).kasWp cmp Q s:=by
 unfold kas_tail3
 rw[KasT.kasWp_bind]
 have ep:(kas_rev p 0 n).Perm p:=mirror_perm _ _ _ _
 have hz:n<=p.size:=by rw[he.1];omega
 refine asc_ hA (he.perm ep) _ _ h1 fun m a1 a2 a3 _=>h m _ ep (he.perm ep) (by omega) (by omega) (up_chain fun t t1 t2=>?_)
 by_cases e:t<n
 ·rw[K_rev hz,K_rev hz,if_pos (by omega),if_pos (by omega)]
  exact hd _ _ (by omega) (by omega)
 ·exact a3 t (by omega) t2
theorem descPart_(hA:Ans O key N cmp s){p:Array Nat}{n nrem:Nat}{Q:Nat×Array Nat->Shared->Prop}(he:Ent N p)(hn:n+1<=nrem)(hr:nrem<=N)(hd:Down O key p (n+1))
  (h:∀m p',p'.Perm p->Ent N p'->1<=m->m<=nrem->Up O key p' m->Q (m,p') s):(kas_descPart n nrem p).kasWp cmp Q s:=by
 unfold kas_descPart
 rw[KasT.kasWp_bind]
 have hlast:∀i,n+1-(0+1)<=i->i<n+1->K O key p i=K O key p (n+1-1):=fun i h1 h2=>by
  have e:i=n:=by omega
  subst e
  rfl
 refine desc_ hA (nrem-(n+1)) p (n+1) 0 he (by omega) (by omega) (by omega) hd hlast fun p' n' q' g1 g2 g3 g4 g5 g6 g7 g8=>?_
 show (if q'>0 then kas_tail3 n' nrem (kas_rev p' (n'-(q'+1)) n') else kas_tail3 n' nrem p').kasWp cmp Q s
 by_cases hq:q'>0
 ·rw[if_pos hq]
  have ep:(kas_rev p' (n'-(q'+1)) n').Perm p':=mirror_perm _ _ _ _
  have eK:∀k,K O key (kas_rev p' (n'-(q'+1)) n') k=K O key p' k:=fun k=>K_rev_eq (by rw[g2.1];omega) g8 k
  exact tail3_ hA (g2.perm ep) g3 (by omega) hr (fun i j hij hj=>by rw[eK,eK];exact g7 i j hij hj) fun m p'' a1 a2 a3 a4 a5=>h m p'' ((a1.trans ep).trans g1) a2 a3 a4 a5
 ·rw[if_neg hq]
  exact tail3_ hA g2 g3 (by omega) hr g7 fun m p'' a1 a2 a3 a4 a5=>h m p'' (a1.trans g1) a2 a3 a4 a5
theorem count_(hA:Ans O key N cmp s){p:Array Nat}{nrem:Nat}{Q:Nat×Array Nat->Shared->Prop}(he:Ent N p)(h1:1<=nrem)(hr:nrem<=N)
  (h:∀m p',p'.Perm p->Ent N p'->1<=m->m<=nrem->Up O key p' m->Q (m,p') s):(kas_count nrem p).kasWp cmp Q s:=by
 unfold kas_count
 rw[KasT.kasWp_bind]
 refine asc_ hA he _ _ (Nat.le_refl _) fun n a1 a2 a3 a4=>?_
 have hup:Up O key p n:=up_chain fun t t1 t2=>a3 t t1 t2
 by_cases e1:(n==nrem)=true
 ·rw[if_pos e1]
  exact h n p (Array.Perm.refl _) he a1 (by omega) hup
 ·rw[if_neg e1]
  have e1':n≠nrem:=fun z=>e1 (by simp[z])
  have hlt:O.klt (K O key p n) (K O key p (n-1)):=a4 (by omega)
  by_cases e2:n>1
  ·rw[if_pos e2]
   show cmp _ _ _ s
   refine hA _ _ _ (he.at _) (he.at _) ?_
   cases hc:O.blt (key (p.getD 0 0)) (key (p.getD (n-1) 0)) with
   | true=>exact h n p (Array.Perm.refl _) he a1 (by omega) hup
   | false =>
    have hle:O.kle (K O key p (n-1)) (K O key p 0):=hc
    have ep:(kas_rev p 0 n).Perm p:=mirror_perm _ _ _ _
    have hall:∀k,0<=k->k<n->K O key p k=K O key p (n-1):=fun k _ hk =>
     KeyOrd.kle_antisymm (hup k (n-1) (by omega) (by omega)) (KeyOrd.kle_trans hle (hup 0 k (by omega) hk))
    have eK:∀k,K O key (kas_rev p 0 n) k=K O key p k:=fun k=>K_rev_eq (by rw[he.1];omega) hall k
    show (kas_descPart n nrem (kas_rev p 0 n)).kasWp cmp Q s
    refine descPart_ hA (he.perm ep) (by omega) hr (fun i j hij hj=>?_) fun m p' b1 b2 b3 b4 b5=>h m p' (b1.trans ep) b2 b3 b4 b5
    rw[eK,eK]
    by_cases ej:j=n
    ·subst ej
     by_cases ei:i=j
     ·subst ei;exact KeyOrd.kle_refl _
     ·rw[hall i (by omega) (by omega)];exact KeyOrd.kle_of_klt hlt
    ·rw[hall i (by omega) (by omega),hall j (by omega) (by omega)];exact KeyOrd.kle_refl _
  ·rw[if_neg e2]
   have en:n=1:=by omega
   subst en
   refine descPart_ hA he (by omega) hr (fun i j hij hj=>?_) fun m p' b1 b2 b3 b4 b5=>h m p' b1 b2 b3 b4 b5
   by_cases ei:i=j
   ·subst ei;exact KeyOrd.kle_refl _
   ·have:i=0/\j=1:=by omega
    obtain⟨rfl,rfl⟩:=this
    exact KeyOrd.kle_of_klt hlt
theorem place_(hA:Ans O key N cmp s){p:Array Nat}{k:Nat}(he:Ent N p)(hs:Up O key p k):∀(f l r:Nat) {Q:Nat->Shared->Prop},l<=r->r<=k->r-l<=f ->
  (∀i,i<l->O.kle (K O key p i) (K O key p k))->(∀i,r<=i->i<k->O.klt (K O key p k) (K O key p i)) ->
  (∀l',l'<=k->(∀i,i<l'->O.kle (K O key p i) (K O key p k))->(∀i,l'<=i->i<k->O.klt (K O key p k) (K O key p i))->Q l' s)->(kas_place p k f l r).kasWp cmp Q s
 | 0,l,r,Q,hlr,hrk,hf,hlo,hhi,h=>by
  have:l=r:=by omega
  subst this
  exact h l hrk hlo hhi
 | f+1,l,r,Q,hlr,hrk,hf,hlo,hhi,h=>by
  show (if l≥r then KasT.ret l else _).kasWp cmp Q s
  by_cases hge:l≥r
  ·rw[if_pos hge]
   have:l=r:=by omega
   subst this
   exact h l hrk hlo hhi
  ·rw[if_neg hge]
   show cmp _ _ _ s
   refine hA _ _ _ (he.at _) (he.at _) ?_
   cases hb:O.blt (key (p.getD k 0)) (key (p.getD ((l+r)/2) 0)) with
   | true =>
    show (kas_place p k f l ((l+r)/2)).kasWp cmp Q s
    exact place_ hA he hs f l ((l+r)/2) (by omega) (by omega) (by omega) hlo (fun i h1 h2=>KeyOrd.klt_of_klt_of_kle hb (hs _ _ h1 h2)) h
   | false =>
    show (kas_place p k f ((l+r)/2+1) r).kasWp cmp Q s
    exact place_ hA he hs f ((l+r)/2+1) r (by omega) (by omega) (by omega) (fun i h1=>KeyOrd.kle_trans (hs i ((l+r)/2) (by omega) (by omega)) hb) hhi h
theorem bin_(hA:Ans O key N cmp s):∀(f:Nat) (p:Array Nat) (k:Nat) {Q:Array Nat->Shared->Prop},Ent N p->k+f<=N->Up O key p k->(∀p',p'.Perm p->Up O key p' (k+f)->Q p' s)->(kas_bin f p k).kasWp cmp Q s
 | 0,p,k,Q,he,hk,hs,h=>h p (Array.Perm.refl _) hs
 | f+1,p,k,Q,he,hk,hs,h=>by
  show ((kas_place p k k 0 k).bind fun l=>kas_bin f (bubble p k (k-l)) (k+1)).kasWp cmp Q s
  rw[KasT.kasWp_bind]
  refine place_ hA he hs k 0 k (by omega) (by omega) (by omega) (fun i hi=>by omega) (fun i h1 h2=>by omega) fun l hl hlo hhi=>?_
  have ep:(bubble p k (k-l)).Perm p:=bubble_perm _ _ _
  have hks:k<p.size:=by rw[he.1];omega
  refine bin_ hA f _ (k+1) (he.perm ep) (by omega) (fun i j hij hj=>?_) fun p' a1 a2=>h p' (a1.trans ep) (by rwa [show k+(f+1)=k+1+f by omega])
  rw[K_bubble hks (by omega),K_bubble hks (by omega),show k-(k-l)=l by omega]
  repeat' split
  all_goals first
   | (exfalso;omega)
   | exact KeyOrd.kle_refl _
   | exact hlo _ (by omega)
   | exact KeyOrd.kle_of_klt (hhi _ (by omega) (by omega))
   | exact hs _ _ (by omega) (by omega)
theorem sort_(hA:Ans O key N cmp s){Q:Array Nat->Shared->Prop}(h1:1<=N)(h:∀p,p.Perm (List.toArray (List.range N))->Up O key p N->Q p s):(kas_sort N).kasWp cmp Q s:=by
 unfold kas_sort
 rw[KasT.kasWp_bind]
 have he:Ent N (List.toArray (List.range N)):=⟨by simp,h1,fun x hx=>by simpa using hx⟩
 refine count_ hA he h1 (Nat.le_refl _) fun m p a1 a2 a3 a4 a5=>?_
 show (if m<N then kas_bin (N-max m 1) p (max m 1) else KasT.ret p).kasWp cmp Q s
 have em:max m 1=m:=by omega
 by_cases hlt:m<N
 ·rw[if_pos hlt,em]
  exact bin_ hA _ p m a2 (by omega) a5 fun p' b1 b2=>h p' (b1.trans a1) (by rwa [show m+(N-m)=N by omega] at b2)
 ·rw[if_neg hlt]
  have:m=N:=by omega
  subst this
  exact h p a1 a5
end
end Srt
end L2
end
section
namespace L2
open PySem PySem.W PyProof.Rows
namespace Srt
theorem map_getD_range{α:Type}(l:List α)(d:α):(List.range l.length).map (fun i=>l.getD i d)=l:=by
 refine List.ext_getElem (by simp) fun i h1 h2=>?_
 simp[h2]
section
variable {prog:Program} {w:World} {A:Around} {E:Value->Shared->Prop} {s:Shared}
noncomputable def AskOk(prog:Program)(w:World)(A:Around)(O:KeyOrd)(key:Nat->O.α)(vs:List Value)(s6:Shared):Prop :=
 wpAny (model prog w) A (keyKind' vs.toArray) (fun κ s'=>s'=s6/\Ans O key vs.length (kas_ask prog w A κ vs) s6) (fun _ _=>False) s6
structure Outs (O:KeyOrd) (key:Nat->O.α) (n:Nat) (p:List Nat):Prop where
 perm:p.Perm (List.range n)
 up:(p.map key).Pairwise O.kle
theorem outs_of{O:KeyOrd}{key:Nat->O.α}{n:Nat}{p:Array Nat}(h1:p.Perm (List.toArray (List.range n)))(h2:Up O key p n):Outs O key n p.toList:=by
 have hp:p.toList.Perm (List.range n):=by simpa using Array.perm_iff_toList_perm.mp h1
 refine⟨hp,List.pairwise_iff_getElem.mpr fun i j hi hj hij=>?_⟩
 have hz:p.toList.length=n:=by rw[hp.length_eq,List.length_range]
 rw[List.length_map] at hi hj
 have q:=h2 i j (Nat.le_of_lt hij) (by omega)
 have ei:p.getD i 0=p.toList[i]:=by simp at hi;simp[Array.getD,hi]
 have ej:p.getD j 0=p.toList[j]:=by simp at hj;simp[Array.getD,hj]
 unfold K at q
 rw[ei,ej] at q
 rw[List.getElem_map,List.getElem_map]
 exact q
theorem sort_any{O:KeyOrd}{key:Nat->O.α}{a:Addr}{vs:List Value}{n:Nat}{P:Fin->Shared->Prop}(ho:s.heap.get? a=some (seqObj "list" vs.toArray n))(h64:vs.length<64)
  (hk:2<=vs.length->∀h6:Heap,(∀b o,b≠a->s.heap.get? b=some o->h6.get? b=some o)->AskOk prog w A O key vs { s with heap:=h6 })
  (h:∀p,Outs O key vs.length p->P (.done (.ret .none)) { s with heap:=sortedHeap s.heap a vs (p.map fun i=>vs.getD i Value.none).toArray }) :
  wpAny (model prog w) A (Builtin.«list.sort» ⟨[.ref a],[]⟩) P E s:=by
 have alt:a<s.heap.objs.size:=Heap.lt_size ho
 have big:vs.length<=sizeLine:=by rw[sizeLine_eq];omega
 rw[list_sort_plain]
 apply wpAny_bind;apply listItems_at ho rfl
 apply wpAny_bind;refine listUpdate_at ho rfl ?_ (by rw[List.size_toArray];exact big) (Nat.zero_le _)
 have q1:=get?_update_seq ho (fun _=>(#[]:Array Value))
 apply wpAny_bind;apply seqEpoch_at q1 rfl
 apply wpAny_bind;refine wpAny_newTuple ?_ (by show vs.length<=sizeLine;exact big)
 apply wpAny_bind;refine wpAny_newList ?_ (Nat.zero_le _)
 apply wpAny_holding
 generalize hN:((s.heap.update a (Obj.mapSeq fun _=>(#[]:Array Value))).push (seqObj "tuple" vs.toArray 0)).push (seqObj "list" #[] 0)=h6
 have keep6:∀b o,b≠a->s.heap.get? b=some o->h6.get? b=some o:=fun b o hb e=>by
  rw[<-hN]
  refine Heap.get?_push_of_some _ (Heap.get?_push_of_some _ ?_)
  rw[Heap.get?_update_ne _ _ _ _ hb];exact e
 have q6:h6.get? a=some (seqObj "list" #[] (if (#[]:Array Value).size==vs.toArray.size then n else n+1)):=by
  rw[<-hN];exact Heap.get?_push_of_some _ (Heap.get?_push_of_some _ q1)
 have eS:∀out,h6.update a (Obj.mapSeq fun _=>out)=sortedHeap s.heap a vs out:=fun out=>by rw[<-hN];rfl
 show wpAny (model prog w) A _ P E { s with heap:=h6 }
 dsimp only
 by_cases h2:vs.toArray.size<2
 ·rw[if_pos h2,if_pos h2]
  apply wpAny_bind;apply wpAny_pure
  rw[StateT.run_pure]
  apply wpAny_bind;apply wpAny_pure
  dsimp only
  have eo:(arrOf (SortSt.mk' general' (vs.toArray.zip vs.toArray) #[] 7 none)).map (·.2)=vs.toArray:=by
   show (vs.toArray.zip vs.toArray).map (·.2)=vs.toArray
   apply Array.toList_inj.mp
   simp[List.map_snd_zip]
  rw[eo]
  apply wpAny_bind;apply seqEpoch_at q6 rfl
  apply wpAny_bind;refine listUpdate_at q6 rfl ?_ (Nat.zero_le _) (by show vs.toArray.size<=_;rw[List.size_toArray];omega)
  have hb:((if (#[]:Array Value).size==vs.toArray.size then n else n+1) != (if (#[]:Array Value).size==vs.toArray.size then n else n+1))=false:=by simp
  rw[eS]
  simp only[hb,Bool.false_eq_true,if_false]
  apply wpAny_pure
  have g:=h (List.range vs.length) ⟨List.Perm.refl _,?_⟩
  ·rw[map_getD_range] at g;exact g
  ·rw[List.size_toArray] at h2
   refine List.pairwise_iff_getElem.mpr fun i j hi hj hij=>?_
   simp at hi hj
   omega
 ·rw[if_neg h2,if_neg h2]
  rw[List.size_toArray] at h2
  have ask:=hk (by omega) h6 keep6
  apply wpAny_bind
  refine wpAny_mono ask (fun κ s0 hκ=>?_) fun _ _ x=>x.elim
  obtain⟨rfl,ans⟩:=hκ
  apply wpAny_bind
  refine wpAny_mono (kat_run (Q:=fun st' s'=>s'={ s with heap:=h6 }/\∃p:Array Nat,Outs O key vs.length p.toList/\p.size=vs.length/\(arrOf st').map (·.2)=(p.toList.map fun i=>vs.getD i Value.none).toArray/\failedOf st'=none)
   (G:=fun p s'=>s'={ s with heap:=h6 }/\Outs O key vs.length p.toList) rfl (by omega) h64 (fun p st' s' a1 a2 a3 a4=>⟨a4.1,p,a4.2,a1,kat_snds rfl a2,a3⟩)
   (sort_ ans (by omega) fun p b1 b2=>⟨rfl,outs_of b1 b2⟩)) ?_ fun _ _ x=>x
  rintro⟨⟨⟩,st'⟩ s' ⟨rfl,p,op,pz,er,ef⟩
  dsimp only
  rw[er]
  apply wpAny_bind;apply seqEpoch_at q6 rfl
  apply wpAny_bind;refine listUpdate_at q6 rfl ?_ (Nat.zero_le _) (by show (List.toArray _).size<=_;rw[List.size_toArray,List.length_map,Array.length_toList,pz];omega)
  have hb:((if (#[]:Array Value).size==vs.toArray.size then n else n+1) != (if (#[]:Array Value).size==vs.toArray.size then n else n+1))=false:=by simp
  rw[eS,ef]
  simp only[hb,Bool.false_eq_true,if_false]
  exact wpAny_pure (h p.toList op)
theorem call_sorted_of{O:KeyOrd}{x:Value}{Q:Value->Shared->Prop}
  (h:wpAny (model prog w) A.in1 (collect x) (fun vs s1=>vs.length<64/\∃key:Nat->O.α,(2<=vs.length->∀h6:Heap,(∀b o,s1.heap.get? b=some o->h6.get? b=some o)->AskOk prog w A.in1.in1 O key vs { s1 with heap:=h6 }) /\
   ∀p h',Outs O key vs.length p->(∀b o,s1.heap.get? b=some o->h'.get? b=some o)->(∃e,h'.get? s1.heap.objs.size=some (seqObj "list" (p.map fun i=>vs.getD i Value.none).toArray e))->Q (.ref s1.heap.objs.size) { s1 with heap:=h' }) E s) :
  wpAny (model prog w) A (call (.builtin "sorted") [x]) Q E s:=by
 refine Calls.call_function_entry kind_sorted plain_sorted entry_sorted (args_sorted1 _) ?_
 unfold Builtin.«sorted»
 refine wpAny_bind (m:=checkCount "sorted" 1 1 _) (wpAny_pure ?_)
 apply wpAny_bind
 refine wpAny_mono h (fun vs s1 ⟨h64,key,hk,hq⟩=>?_) fun _ _ z=>z
 have big:vs.length<=sizeLine:=by rw[sizeLine_eq];omega
 apply wpAny_bind
 refine wpAny_newList ?_ big
 have q:(s1.heap.push (seqObj "list" vs.toArray 0)).get? s1.heap.objs.size=some (seqObj "list" vs.toArray 0):=Heap.get?_push_size _ rfl
 apply wpAny_bind
 apply wpAny_holding
 refine wpAny_call_entry (s:={ s1 with heap:=s1.heap.push (seqObj "list" vs.toArray 0) }) slot_list_sort ⟨_,q,rfl⟩ entry_list_sort ?_ (args_list_sort _)
 refine sort_any (key:=key) (s:={ s1 with heap:=s1.heap.push (seqObj "list" vs.toArray 0) }) q h64 (fun h2 h6 k6=>?_) fun p op=>⟨_,rfl,wpAny_pure ⟨_,rfl,?_⟩⟩
 ·exact hk h2 h6 fun b o e=>k6 b o (Nat.ne_of_lt (Heap.lt_size e)) (Heap.get?_push_of_some _ e)
 ·refine hq p _ op (fun b o e=>?_) (sortedHeap_at q)
  rw[sortedHeap_old (Nat.ne_of_lt (Heap.lt_size e)) (by rw[size_push'];exact Nat.lt_succ_of_lt (Heap.lt_size e))]
  exact Heap.get?_push_of_some _ e
end
noncomputable def intOrd:KeyOrd where
 α:=Int
 blt:=fun a b=>decide (a<b)
 irrefl:=fun a=>by simp
 trans:=fun a b c h1 h2=>by simp at *;omega
 negTrans:=fun a b c h=>by simp at *;omega
 total:=fun a b h1 h2=>by simp at *;omega
theorem askOk_ints{prog:Program}{w:World}{A:Around}{s6:Shared}{vs:List Value}{ns:List Int}(hI:IntsAre vs ns)(h2:2<=vs.length):AskOk prog w A intOrd (fun i=>ns.getD i 0) vs s6:=by
 have at_:∀i,i<vs.length->∃t,vs.getD i Value.none=.int (ns.getD i 0) t:=by
  intro i hi
  induction hI generalizing i with
  | nil=>simp at hi
  | cons z t r ih =>
   cases i with
   | zero=>exact⟨t,by simp⟩
   | succ i =>
    by_cases hr:2<=1
    ·omega
    ·simp only[List.length_cons] at hi
     have aux:∀{vs:List Value} {ns:List Int},IntsAre vs ns->∀i,i<vs.length->∃t,vs.getD i Value.none=.int (ns.getD i 0) t:=by
      intro vs ns q
      induction q with
      | nil=>intro i hi;simp at hi
      | cons z t r ih =>
       intro i hi
       cases i with
       | zero=>exact⟨t,by simp⟩
       | succ i=>simp only[List.length_cons] at hi;obtain⟨u,e⟩:=ih i (by omega);exact⟨u,by simpa using e⟩
     obtain⟨u,e⟩:=aux r i (by omega)
     exact⟨u,by simpa using e⟩
 obtain⟨v₁,v₂,rest,rfl⟩:∃v₁ v₂ rest,vs=v₁::v₂::rest:=by
  match vs,h2 with
  | v₁::v₂::rest,_=>exact⟨v₁,v₂,rest,rfl⟩
 unfold AskOk
 rw[keyKind_ints hI]
 refine wpAny_pure ⟨rfl,fun i j C hi hj hc=>?_⟩
 obtain⟨t,e1⟩:=at_ i hi
 obtain⟨u,e2⟩:=at_ j hj
 unfold kas_ask
 rw[e1,e2,keyLt'_oneType]
 exact oneLt_int hc
theorem lexLt_irrefl:∀a,HT.lexLt a a=false
 | []=>rfl
 | x::xs=>by rw[HT.lexLt_cons,if_pos rfl];exact lexLt_irrefl xs
theorem lexLt_total:∀a b,HT.lexLt a b=false->HT.lexLt b a=false->a=b
 | [],[],_,_=>rfl
 | [],_::_,h,_=>by rw[HT.lexLt_nil_cons] at h;cases h
 | _::_,[],_,h=>by rw[HT.lexLt_nil_cons] at h;cases h
 | x::xs,y::ys,h1,h2=>by
  rw[HT.lexLt_cons] at h1 h2
  by_cases e:x=y
  ·subst e
   rw[if_pos rfl] at h1 h2
   rw[lexLt_total xs ys h1 h2]
  ·rw[if_neg e] at h1
   rw[if_neg (fun z=>e z.symm)] at h2
   simp at h1 h2
   omega
theorem lexLt_trans:∀a b c,HT.lexLt a b=true->HT.lexLt b c=true->HT.lexLt a c=true
 | [],[],c,h,_=>by rw[HT.lexLt_nil_nil] at h;cases h
 | [],_::_,[],_,h=>by rw[HT.lexLt_cons_nil] at h;cases h
 | [],_::_,_::_,_,_=>rfl
 | _::_,[],_,h,_=>by rw[HT.lexLt_cons_nil] at h;cases h
 | _::_,_::_,[],_,h=>by rw[HT.lexLt_cons_nil] at h;cases h
 | x::xs,y::ys,z::zs,h1,h2=>by
  rw[HT.lexLt_cons] at h1 h2 |-
  by_cases e1:x=y
  ·subst e1
   rw[if_pos rfl] at h1
   by_cases e2:x=z
   ·subst e2
    rw[if_pos rfl] at h2 |-
    exact lexLt_trans xs ys zs h1 h2
   ·rw[if_neg e2] at h2 |-;exact h2
  ·rw[if_neg e1] at h1
   by_cases e2:y=z
   ·subst e2
    rw[if_neg e1];exact h1
   ·rw[if_neg e2] at h2
    simp at h1 h2
    rw[if_neg (by omega)]
    simp;omega
theorem lexLt_neg(a b c:List Int)(h:HT.lexLt a c=true):HT.lexLt a b=true\/HT.lexLt b c=true:=by
 cases h1:HT.lexLt a b with
 | true=>exact .inl rfl
 | false =>
  cases h2:HT.lexLt b c with
  | true=>exact .inr rfl
  | false =>
   cases h3:HT.lexLt b a with
   | true=>have:=lexLt_trans _ _ _ h3 h;rw[h2] at this;cases this
   | false=>rw[lexLt_total _ _ h1 h3] at h;rw[h2] at h;cases h
noncomputable def lexOrd:KeyOrd where
 α:=List Int
 blt:=HT.lexLt
 irrefl:=lexLt_irrefl
 trans:=lexLt_trans
 negTrans:=lexLt_neg
 total:=lexLt_total
section
variable {prog:Program} {w:World} {A:Around} {s:Shared}
theorem katLex_ints{b fin:Bool}{Q:Bool->Shared->Prop}:∀{us vs:List Value} {ns ms:List Int} (i:Nat),IntsAre us ns->IntsAre vs ms->(ns.length<ms.length↔fin=true)->us.length=ns.length ->
  Q (HT.lexLt ns ms) s->(ns.length=ms.length\/i=i)->(∀k,k<ns.length->k<ms.length->True)->(ns.length≠ms.length->True)->(fin=decide (ns.length<ms.length))->KatLex prog w A b fin Q (us.zip vs) i s
 | _,_,_,_,i,.nil,.nil,_,_,hq,_,_,_,hf=>by
  refine kat_nil ?_
  rw[hf];exact hq
 | _,_,_,_,i,.nil,.cons _ _ _,_,_,hq,_,_,_,hf=>by
  refine kat_nil ?_
  rw[hf]
  simpa [HT.lexLt_nil_cons] using hq
 | _,_,_,_,i,.cons _ _ _,.nil,_,_,hq,_,_,_,hf=>by
  refine kat_nil ?_
  rw[hf]
  simpa [HT.lexLt_cons_nil] using hq
 | _,_,_,_,i,.cons x t r,.cons y u r',h1,h2,hq,_,_,_,hf=>by
  refine kat_cons (wpAny_eqBool_int ?_)
  rw[HT.lexLt_cons] at hq
  by_cases e:x=y
  ·subst e
   rw[if_pos rfl] at hq
   rw[beq_self_eq_true]
   refine kat_yes (katLex_ints (i+1) r r' ?_ ?_ hq (.inr rfl) (fun _ _ _=>trivial) (fun _=>trivial) ?_)
   ·simpa using h1
   ·simpa using h2
   ·rw[hf];simp
  ·rw[if_neg e] at hq
   rw[show (x==y)=false from beq_eq_false_iff_ne.mpr e]
   refine kat_no ?_
   cases hb:(b&&i==0) with
   | true=>exact oneLt_int hq
   | false=>exact kat_one _ _ (PyProof.Rows.lt_int hq)
end
end Srt
end L2
end
section
namespace L2
open PySem PySem.Spec PyProof.Rows
noncomputable def keyD:Key->PyData
 | .inl i=>.int i
 | .inr x=>.str x
mutual
noncomputable def Den(K:PySem.W.Frag)(H:Hp):PyData->V->Prop
 | .none,v=>v=.non
 | .bool b,v=>v=.bl b
 | .int i,v=>v=.int i
 | .str x,v=>v=.str x
 | .list ds,v=>∃a xs,v=.ref a/\SqL K H a xs/\Dens K H ds xs
 | .tuple ds,v=>∃a xs,v=.ref a/\SqT K H a xs/\Dens K H ds xs
 | .dict kvs,v=>∃a ks,v=.ref a/\H a=some (.dK ks)/\DensK K H kvs ks
noncomputable def Dens(K:PySem.W.Frag)(H:Hp):List PyData->List V->Prop
 | [],xs=>xs=[]
 | d::ds,xs=>∃x r,xs=x::r/\Den K H d x/\Dens K H ds r
noncomputable def DensK(K:PySem.W.Frag)(H:Hp):List (PyData×PyData)->List (Key×V)->Prop
 | [],ks=>ks=[]
 | (k,d)::r,ks=>∃key x rest,ks=(key,x)::rest/\k=keyD key/\Den K H d x/\DensK K H r rest
end
theorem Same.tup{K:PySem.W.Frag}{H H':Hp}{a:Addr}{xs:List V}(e:Same H H')(h:SqT K H a xs):SqT K H' a xs:=by
 rcases h with (h|⟨o,h⟩)|h
 ·exact .inl (.inl (e _ _ h))
 ·exact .inl (.inr ⟨o,e _ _ h⟩)
 ·exact .inr h
section
variable {K:PySem.W.Frag} {H H':Hp}
mutual
theorem Den.same(e:Same H H'):∀(d:PyData) (v:V),Den K H d v->Den K H' d v
 | .none,_,h=>by rw[Den] at h |-;exact h
 | .bool _,_,h=>by rw[Den] at h |-;exact h
 | .int _,_,h=>by rw[Den] at h |-;exact h
 | .str _,_,h=>by rw[Den] at h |-;exact h
 | .list ds,v,h=>by
  rw[Den] at h |-
  obtain⟨a,xs,q1,q2,q3⟩:=h
  exact⟨a,xs,q1,e.seq q2,Dens.same e ds xs q3⟩
 | .tuple ds,v,h=>by
  rw[Den] at h |-
  obtain⟨a,xs,q1,q2,q3⟩:=h
  exact⟨a,xs,q1,e.tup q2,Dens.same e ds xs q3⟩
 | .dict kvs,v,h=>by
  rw[Den] at h |-
  obtain⟨a,ks,q1,q2,q3⟩:=h
  exact⟨a,ks,q1,e _ _ q2,DensK.same e kvs ks q3⟩
theorem Dens.same(e:Same H H'):∀(ds:List PyData) (xs:List V),Dens K H ds xs->Dens K H' ds xs
 | [],_,h=>by rw[Dens] at h |-;exact h
 | d::ds,xs,h=>by
  rw[Dens] at h |-
  obtain⟨x,r,q1,q2,q3⟩:=h
  exact⟨x,r,q1,Den.same e d x q2,Dens.same e ds r q3⟩
theorem DensK.same(e:Same H H'):∀(kvs:List (PyData×PyData)) (ks:List (Key×V)),DensK K H kvs ks->DensK K H' kvs ks
 | [],_,h=>by rw[DensK] at h |-;exact h
 | (k,d)::r,ks,h=>by
  rw[DensK] at h |-
  obtain⟨key,x,rest,q1,q2,q3,q4⟩:=h
  exact⟨key,x,rest,q1,q2,Den.same e d x q3,DensK.same e r rest q4⟩
end
theorem Dens.nil:Dens K H [] []:=by rw[Dens]
theorem Dens.cons{d:PyData}{ds:List PyData}{x:V}{r:List V}(h1:Den K H d x)(h2:Dens K H ds r):Dens K H (d::ds) (x::r):=by rw[Dens];exact⟨x,r,rfl,h1,h2⟩
theorem Den.int{i:Int}:Den K H (.int i) (.int i):=by rw[Den]
theorem Den.str{x:Str}:Den K H (.str x) (.str x):=by rw[Den]
theorem Den.bool{b:Bool}:Den K H (.bool b) (.bl b):=by rw[Den]
theorem Den.none:Den K H .none .non:=by rw[Den]
theorem Den.list{a:Addr}{xs:List V}{ds:List PyData}(h:SqL K H a xs)(q:Dens K H ds xs):Den K H (.list ds) (.ref a):=by rw[Den];exact⟨a,xs,rfl,h,q⟩
theorem Den.tuple{a:Addr}{xs:List V}{ds:List PyData}(h:SqT K H a xs)(q:Dens K H ds xs):Den K H (.tuple ds) (.ref a):=by rw[Den];exact⟨a,xs,rfl,h,q⟩
end
section
variable {X:Cx} {pins:List (Addr×Obj)} {σ:St} {H:Hp} {s:Shared}
mutual
theorem Den.reads(I:Inv X pins σ H s):∀(d:PyData) (v:V) (u:Value),d.canLay0=true->Den X.K H d v->RelV v u->∃as,Reads s.heap u d as
 | .none,v,u,_,h,r=>by rw[Den] at h;subst h;cases r;exact⟨_,.none⟩
 | .bool b,v,u,_,h,r=>by rw[Den] at h;subst h;cases r;exact⟨_,.bool b⟩
 | .int i,v,u,_,h,r=>by rw[Den] at h;subst h;obtain⟨t,rfl⟩:=r;exact⟨_,.int i t⟩
 | .str x,v,u,_,h,r=>by rw[Den] at h;subst h;obtain⟨t,rfl⟩:=r;exact⟨_,.str x t⟩
 | .list ds,v,u,c,h,r=>by
  rw[Den] at h
  obtain⟨a,xs,rfl,q1,q2⟩:=h
  cases r
  obtain⟨its,rv,⟨o,n,e1,e2,_,e3⟩,_⟩:=I.list q1
  obtain⟨as,ra⟩:=Dens.reads I ds xs its (by simpa [PyData.canLay0] using c) q2 rv
  exact⟨_,.list e1 e2 e3 (by simpa using ra)⟩
 | .tuple ds,v,u,c,h,r=>by
  rw[Den] at h
  obtain⟨a,xs,rfl,q1,q2⟩:=h
  cases r
  obtain⟨its,rv,⟨o,e1,e2,n,e3⟩,_⟩:=I.tuple q1
  obtain⟨as,ra⟩:=Dens.reads I ds xs its (by simpa [PyData.canLay0] using c) q2 rv
  exact⟨_,.tuple e1 e2 e3 (by simpa using ra)⟩
 | .dict _,_,_,c,_,_=>by simp[PyData.canLay0] at c
theorem Dens.reads(I:Inv X pins σ H s):∀(ds:List PyData) (xs:List V) (us:List Value),PyData.canLayAll0 ds=true->Dens X.K H ds xs->Vals xs us->∃as,ReadsAll s.heap us ds as
 | [],xs,us,_,h,r=>by rw[Dens] at h;subst h;cases r;exact⟨_,.nil⟩
 | d::ds,xs,us,c,h,r=>by
  have c':d.canLay0=true/\PyData.canLayAll0 ds=true:=by simpa [PyData.canLayAll0] using c
  rw[Dens] at h
  obtain⟨x,rest,rfl,q1,q2⟩:=h
  cases r with
  | cons r1 r2 =>
   obtain⟨as,ra⟩:=Den.reads I d x _ c'.1 q1 r1
   obtain⟨bs,rb⟩:=Dens.reads I ds rest _ c'.2 q2 r2
   exact⟨_,.cons ra rb⟩
end
end
section
variable {X:Cx}
noncomputable def rEqD(K:PySem.W.Frag):R2:=fun x y H Q=>∃d e,Den K H d x/\Den K H e y/\d.canLay0=true/\e.canLay0=true/\d.depth<=60/\Q (.bl (PyData.eqv d e)) H
noncomputable def rNeD(K:PySem.W.Frag):R2:=fun x y H Q=>∃d e,Den K H d x/\Den K H e y/\d.canLay0=true/\e.canLay0=true/\d.depth<=60/\Q (.bl (!PyData.eqv d e)) H
theorem op_eqD(hu:X.A.units+64<cLine):OpR X (compareOp .Eq) (rEqD X.K):=by
 intro pins s σ H x y v u Q I rx ry h
 obtain⟨d,e,hd,he,c1,c2,hz,q⟩:=h
 obtain⟨as,ra⟩:=Den.reads I d x v c1 hd rx
 obtain⟨bs,rb⟩:=Den.reads I e y u c2 he ry
 exact SeqAt.compareEq_reads ra rb c1 c2 (by have:=Nat.min_le_left d.depth e.depth;omega) ⟨.bl _,H,I,rfl,q⟩
theorem op_neD(hu:X.A.units+64<cLine):OpR X (compareOp .NotEq) (rNeD X.K):=by
 intro pins s σ H x y v u Q I rx ry h
 obtain⟨d,e,hd,he,c1,c2,hz,q⟩:=h
 obtain⟨as,ra⟩:=Den.reads I d x v c1 hd rx
 obtain⟨bs,rb⟩:=Den.reads I e y u c2 he ry
 exact SeqAt.compareNe_reads ra rb c1 c2 (by have:=Nat.min_le_left d.depth e.depth;omega) ⟨.bl _,H,I,rfl,q⟩
theorem sorted_ints_of{pins:List (Addr×Obj)}{σ:St}{H:Hp}{s:Shared}{p:Addr}{ns:List Int}{Q:VK}(I:Inv X pins σ H s)(hq:SqL X.K H p (ns.map V.int))(h64:ns.length<64)
  (q:∀l,H l=none->Q (.ref l) (upd H l (.lst ((PySem.W.sortI ns).map V.int)))):wpAny (model X.prog X.w) X.A (call (.builtin "sorted") [.ref p]) (EP X pins σ Q) X.xe s:=by
 obtain⟨its,rv,pl,hz⟩:=I.list hq
 have hi:=intsAre_of rv
 have hl:=hi.length
 refine sorted_ints pl.isList hi (by omega) fun out ns' a1 a2 a3=>?_
 obtain⟨e,he⟩:=sortedAll_at s.heap its out
 have es:ns'=PySem.W.sortI ns:=PySem.W.eq_sortI a2 a3
 subst es
 have hn:H (s.heap.objs.size+1)=none:=I.hok.fresh (Nat.le_succ _)
 refine⟨.ref (s.heap.objs.size+1),_,I.laid (t':=s.toks) (fun b o z=>sortedAll_old z) (Nat.le_succ _) (show ObjOk X.prog X.w _ _ _ (.lst ((PySem.W.sortI ns).map V.int)) from⟨?_,out.toList,e,vals_ints a1,by simpa using he⟩),rfl,q _ hn⟩
 rw[List.length_map,(PySem.W.sortI_perm ns).length_eq,sizeLine_eq];omega
theorem call_sorted_ints:CallR X (.builtin "sorted") (fun xs H Q=>∃p ns,xs=[.ref p]/\SqL X.K H p (ns.map V.int)/\ns.length<64/\∀l,H l=none->Q (.ref l) (upd H l (.lst ((PySem.W.sortI ns).map V.int)))):=by
 intro pins s σ H xs us Q I r h
 obtain⟨p,ns,rfl,hq,h64,q⟩:=h
 obtain⟨u,rfl,ru⟩:=vals1 r
 cases ru
 exact sorted_ints_of I hq h64 q
noncomputable def TupI(K:PySem.W.Frag)(H:Hp)(r:Addr×List Int):Prop:=SqT K H r.1 (r.2.map V.int)/\r.2≠[]
theorem askOk_tups{pins:List (Addr×Obj)}{σ:St}{H:Hp}{s:Shared}{A:Around}{rs:List (Addr×List Int)}{h6:Heap}{s6:Shared}(I:Inv X pins σ H s)(ht:∀r∈rs,TupI X.K H r)(h2:2<=rs.length)(k:∀b o,s.heap.get? b=some o->s6.heap.get? b=some o) :
  Srt.AskOk X.prog X.w A Srt.lexOrd (fun i=>(rs.getD i (0,[])).2) (rs.map fun r=>Value.ref r.1) s6:=by
 have tup:∀r∈rs,∃its o n,s6.heap.get? r.1=some o/\o.cls=.type "tuple" /\ o.data=.seq (List.toArray its) n/\IntsAre its r.2:=fun r hr=>by
  obtain⟨its,rv,⟨o,e1,e2,n,e3⟩,_⟩:=I.tuple (ht r hr).1
  exact⟨its,o,n,k _ _ e1,e2,e3,intsAre_of rv⟩
 have kt:∀rs:List (Addr×List Int),(∀r∈rs,∃its o n,s6.heap.get? r.1=some o/\o.cls=.type "tuple" /\ o.data=.seq (List.toArray its) n/\IntsAre its r.2)->(∀r∈rs,r.2≠[]) ->
   ∃fs,PySem.W.KatTups s6.heap (rs.map fun r=>Value.ref r.1) fs/\fs.length=rs.length/\∀v∈fs,∃i t,v=Value.int i t:=by
  intro rs
  induction rs with
  | nil=>intro _ _;exact⟨[],PySem.W.KatTups.nil,rfl,fun v hv=>nomatch hv⟩
  | cons r rs ih =>
   intro g1 g2
   obtain⟨fs,q1,q2,q3⟩:=ih (fun r' hr'=>g1 r' (List.mem_cons_of_mem _ hr')) fun r' hr'=>g2 r' (List.mem_cons_of_mem _ hr')
   obtain⟨its,o,n,e1,e2,e3,hi⟩:=g1 r List.mem_cons_self
   have hne:=g2 r List.mem_cons_self
   cases hr:r.2 with
   | nil=>exact absurd hr hne
   | cons i is =>
    rw[hr] at hi
    cases hi with
    | cons _ t hi' =>
     refine⟨.int i t::fs,PySem.W.KatTups.cons e1 e2 e3 (by simp) q1,by simp[q2],fun v hv=>?_⟩
     rcases List.mem_cons.mp hv with z|z
     ·exact⟨i,t,z⟩
     ·exact q3 v z
 obtain⟨fs,q1,q2,q3⟩:=kt rs tup fun r hr=>(ht r hr).2
 unfold Srt.AskOk
 refine PySem.W.kat_kind q1 (by omega) (T:=Value.type "int") (fun v hv=>?_) rfl ⟨rfl,fun i j C hi hj hc=>?_⟩
 ·obtain⟨i,t,rfl⟩:=q3 v hv
  exact PySem.W.Looks.of_pure rfl
 ·rw[List.length_map] at hi hj
  unfold PySem.W.kas_ask
  have e1:(rs.map fun r=>Value.ref r.1).getD i Value.none=Value.ref rs[i].1:=by simp[hi]
  have e2:(rs.map fun r=>Value.ref r.1).getD j Value.none=Value.ref rs[j].1:=by simp[hj]
  have e3:rs.getD i (0,[])=rs[i]:=by simp[hi]
  have e4:rs.getD j (0,[])=rs[j]:=by simp[hj]
  rw[e1,e2]
  simp only[e3,e4] at hc
  obtain⟨its,o,n,a1,a2,a3,a4⟩:=tup rs[i] (List.getElem_mem hi)
  obtain⟨its',o',n',b1,b2,b3,b4⟩:=tup rs[j] (List.getElem_mem hj)
  have l1:=a4.length
  have l2:=b4.length
  refine PySem.W.kat_lt a1 a3 b1 b3 (Srt.katLex_ints 0 a4 b4 ?_ l1 hc (.inr rfl) (fun _ _ _=>trivial) (fun _=>trivial) ?_)
  ·rw[List.size_toArray,List.size_toArray,l1,l2];simp
  ·rw[List.size_toArray,List.size_toArray,l1,l2]
theorem vals_refs{rs:List (Addr×List Int)}:∀{us:List Value},Vals (rs.map fun r=>V.ref r.1) us->us=rs.map fun r=>Value.ref r.1:=by
 induction rs with
 | nil=>intro us r;cases r;rfl
 | cons a rs ih =>
  intro us r
  cases r with
  | cons r1 r2=>cases r1;rw[ih r2];rfl
theorem call_sorted_tups:CallR X (.builtin "sorted") (fun xs H Q=>∃(p:Addr) (rs:List (Addr×List Int)),xs=[.ref p]/\SqL X.K H p (rs.map fun r=>V.ref r.1)/\rs.length<64/\(∀r∈rs,TupI X.K H r) /\
  ∀(l:Addr) (qs:List (Addr×List Int)),H l=none->qs.Perm rs->qs.Pairwise (fun a b=>HT.lexLt b.2 a.2=false)->Q (.ref l) (upd H l (.lst (qs.map fun r=>V.ref r.1)))):=by
 intro pins s σ H xs us Q I r h
 obtain⟨p,rs,rfl,hq,h64,ht,q⟩:=h
 obtain⟨u,rfl,ru⟩:=vals1 r
 cases ru
 obtain⟨its,rv,pl,hz⟩:=I.list hq
 have ev:=vals_refs rv
 subst ev
 refine Srt.call_sorted_of (O:=Srt.lexOrd) (collect_list pl.isList ?_ (by rw[List.length_map,sizeLine_eq];omega))
 have k1:∀b o,s.heap.get? b=some o->((s.heap.push (seqObj "list" #[] 0)).update s.heap.objs.size (Obj.mapSeq (· ++ (rs.map fun r=>Value.ref r.1).toArray))).get? b=some o:=fun b o e=>by
  rw[Heap.get?_update_ne _ _ _ _ (Nat.ne_of_lt (Heap.lt_size e))]
  exact Heap.get?_push_of_some _ e
 have sz1:((s.heap.push (seqObj "list" #[] 0)).update s.heap.objs.size (Obj.mapSeq (· ++ (rs.map fun r=>Value.ref r.1).toArray))).objs.size=s.heap.objs.size+1:=by rw[Heap.size_update,size_push']
 refine⟨by rw[List.length_map];exact h64,fun i=>(rs.getD i (0,[])).2,fun h2 h6 k6=>?_,fun pp h' op k' he=>?_⟩
 ·rw[List.length_map] at h2
  exact askOk_tups (h6:=h6) I ht h2 fun b o e=>k6 b o (k1 b o e)
 ·rw[List.length_map] at op
  dsimp only at k' he |-
  rw[sz1] at he |-
  obtain⟨e,he⟩:=he
  have hn:H (s.heap.objs.size+1)=none:=I.hok.fresh (Nat.le_succ _)
  have lp:pp.length=rs.length:=by rw[op.perm.length_eq,List.length_range]
  have mem:∀i∈pp,i<rs.length:=fun i hi=>by simpa using op.perm.mem_iff.mp hi
  have eout:(pp.map fun i=>(rs.map fun r=>Value.ref r.1).getD i Value.none)=(pp.map fun i=>rs.getD i (0,[])).map fun r=>Value.ref r.1:=by
   rw[List.map_map]
   refine List.map_congr_left fun i hi=>?_
   simp[mem i hi]
  have qp:(pp.map fun i=>rs.getD i (0,[])).Perm rs:=by
   have:=op.perm.map fun i=>rs.getD i (0,[])
   rwa [Srt.map_getD_range] at this
  have qs:(pp.map fun i=>rs.getD i (0,[])).Pairwise (fun a b=>HT.lexLt b.2 a.2=false):=by
   have up1:=List.pairwise_map.mp op.up
   exact List.pairwise_map.mpr up1
  refine⟨.ref (s.heap.objs.size+1),_,I.laid (t':=s.toks) (fun b o z=>k' b o (k1 b o z)) (Nat.le_succ _) (show ObjOk X.prog X.w _ _ _ (.lst ((pp.map fun i=>rs.getD i (0,[])).map fun r=>V.ref r.1)) from⟨?_,_,e,?_,he⟩),rfl,q _ _ hn qp qs⟩
  ·rw[List.length_map,List.length_map,lp,sizeLine_eq];omega
  ·rw[eout]
   generalize (pp.map fun i=>rs.getD i (0,[]))=zs
   induction zs with
   | nil=>exact .nil
   | cons z zs ih=>exact .cons rfl ih
theorem ints_at{us:List Value}{ns:List Int}(h:IntsAre us ns):∀(i:Nat) (v:Value),us[i]?=some v->∃t,v=.int (ns.getD i 0) t:=by
 induction h with
 | nil=>intro i v e;simp at e
 | cons z t r ih =>
  intro i v e
  cases i with
  | zero=>simp at e;exact⟨t,by simp[<-e]⟩
  | succ i=>obtain⟨u,q⟩:=ih i v (by simpa using e);exact⟨u,by simpa using q⟩
theorem minmax_of{pins:List (Addr×Obj)}{σ:St}{H:Hp}{s:Shared}{p:Addr}{ns:List Int}(I:Inv X pins σ H s)(hc:X.calm=true)(hq:SqL X.K H p (ns.map V.int)\/SqT X.K H p (ns.map V.int))(hne:0<ns.length){Q:Value->Shared->Prop}{f:String}{bt:Int->Int->Bool}{op:CmpOp}
  (hf:∀{Q:Value->Shared->Prop},wpAny (model X.prog X.w) X.A.in1 (pyIter (.ref p)) (fun it s₂=>∃I fp wr n P St bt,it=.ref I/\Walks X.prog X.w X.A.in1 I fp wr n P St/\St 0 s₂.heap/\(∀b∈fp,b<s₂.heap.objs.size)/\0<n/\CmpOf X.prog X.w X.A.in1 op P bt /\
   ∀v h' tk,P (argBest bt (n-1)) v->(∀b o,b∉wr->s₂.heap.get? b=some o->h'.get? b=some o)->Q v { s₂ with heap:=h',toks:=tk }) X.xe s->wpAny (model X.prog X.w) X.A (call (.builtin f) [.ref p]) Q X.xe s)
  (hcmp:∀(P:Nat->Value->Prop),(∀i v,P i v->∃t,v=.int (ns.getD i 0) t)->CmpOf X.prog X.w X.A.in1 op P fun i j=>bt (ns.getD i 0) (ns.getD j 0))
  (h:∀t h' tk,(∀b o,s.heap.get? b=some o->h'.get? b=some o)->argBest (fun i j=>bt (ns.getD i 0) (ns.getD j 0)) (ns.length-1)<ns.length->Q (.int (ns.getD (argBest (fun i j=>bt (ns.getD i 0) (ns.getD j 0)) (ns.length-1)) 0) t) { s with heap:=h',toks:=tk }) :
  wpAny (model X.prog X.w) X.A (call (.builtin f) [.ref p]) Q X.xe s:=by
 have hh:X.A.in1.handled=none:=I.ok.hd hc
 have up:∀{us:List Value} (P:Nat->Value->Prop) (hi:IntsAre us ns),(∀i v,P i v->us.toArray[i]?=some v)->∀i v,P i v->∃t,v=.int (ns.getD i 0) t:=fun P hi hP i v q=>ints_at hi i v (by simpa using hP i v q)
 have best:∀{us:List Value} (hi:IntsAre us ns) (v:Value) (h':Heap) (tk:Nat),us.toArray[argBest (fun i j=>bt (ns.getD i 0) (ns.getD j 0)) (us.toArray.size-1)]?=some v->(∀b o,s.heap.get? b=some o->h'.get? b=some o)->Q v { s with heap:=h',toks:=tk }:=fun {us} hi v h' tk e k=>by
  have hl:=hi.length
  rw[List.size_toArray,hl] at e
  have e':us[argBest (fun i j=>bt (ns.getD i 0) (ns.getD j 0)) (ns.length-1)]?=some v:=by simpa using e
  obtain⟨t,rfl⟩:=ints_at hi _ v e'
  exact h t h' tk k (by have:=(List.getElem?_eq_some_iff.mp e').1;omega)
 rcases hq with hq|hq
 ·obtain⟨its,rv,pl,hz⟩:=I.list hq
  have hi:=intsAre_of rv
  have hl:=hi.length
  have hpl:=pl.isList
  have hlt:p<s.heap.objs.size:=by obtain⟨_,e,_⟩:=hpl;exact Heap.lt_size e
  refine hf (wpAny_pyIter_list hpl ⟨s.heap.objs.size,[s.heap.objs.size,p],[s.heap.objs.size],its.toArray.size,_,_,fun i j=>bt (ns.getD i 0) (ns.getD j 0),rfl,Walks.list hh _ p (Nat.ne_of_lt hlt) its.toArray,⟨⟨_,Heap.get?_push_size _ rfl,rfl,rfl⟩,hpl.push _⟩,fun b hb=>?_,by rw[List.size_toArray];omega,
   hcmp _ (up _ hi fun i v q=>q),fun v h' tk e k=>?_⟩)
  ·simp only[size_push']
   rcases List.mem_cons.mp hb with z|z
   ·rw[z];exact Nat.lt_succ_self _
   ·rw[List.mem_singleton.mp z];exact Nat.lt_succ_of_lt hlt
  ·exact best hi v h' tk e fun b o z=>k b o (by simp;exact Nat.ne_of_lt (Heap.lt_size z)) (Heap.get?_push_of_some _ z)
 ·obtain⟨its,rv,pl,hz⟩:=I.tuple hq
  have hi:=intsAre_of rv
  have hl:=hi.length
  have hpl:s.heap.IsTuple p its.toArray:=pl
  have hlt:p<s.heap.objs.size:=by obtain⟨_,e,_⟩:=hpl;exact Heap.lt_size e
  refine hf (wpAny_pyIter_tuple hpl ⟨s.heap.objs.size,[s.heap.objs.size,p],[s.heap.objs.size],its.toArray.size,_,_,fun i j=>bt (ns.getD i 0) (ns.getD j 0),rfl,Walks.tuple hh _ p (Nat.ne_of_lt hlt) its.toArray,⟨⟨_,Heap.get?_push_size _ rfl,rfl,rfl⟩,?_⟩,fun b hb=>?_,by rw[List.size_toArray];omega,
   hcmp _ (up _ hi fun i v q=>q),fun v h' tk e k=>?_⟩)
  ·obtain⟨o,e,c⟩:=hpl;exact⟨o,Heap.get?_push_of_some _ e,c⟩
  ·simp only[size_push']
   rcases List.mem_cons.mp hb with z|z
   ·rw[z];exact Nat.lt_succ_self _
   ·rw[List.mem_singleton.mp z];exact Nat.lt_succ_of_lt hlt
  ·exact best hi v h' tk e fun b o z=>k b o (by simp;exact Nat.ne_of_lt (Heap.lt_size z)) (Heap.get?_push_of_some _ z)
theorem call_min_seq(hc:X.calm=true):CallR X (.builtin "min") (fun xs H Q=>∃(p:Addr) (ns:List Int),xs=[.ref p]/\(SqL X.K H p (ns.map V.int)\/SqT X.K H p (ns.map V.int))/\0<ns.length/\∀m,m∈ns->(∀a∈ns,m<=a)->Q (.int m) H):=by
 intro pins s σ H xs us Q I r h
 obtain⟨p,ns,rfl,hq,hne,q⟩:=h
 obtain⟨u,rfl,ru⟩:=vals1 r
 cases ru
 refine minmax_of (bt:=fun a b=>decide (a<b)) (op:=.Lt) I hc hq hne (fun {Q} h=>call_min_walk h) (fun P hP=>?_) fun t h' tk k hb=>⟨.int _,H,I.kept k,⟨t,rfl⟩,q _ ?_ fun a ha=>?_⟩
 ·intro i j x y s' Q' E' hx hy hQ
  obtain⟨t,rfl⟩:=hP i x hx
  obtain⟨t',rfl⟩:=hP j y hy
  exact lt_int (by simpa using hQ)
 ·exact getD_mem hb
 ·obtain⟨j,hj,rfl⟩:=mem_getD ha
  exact(argBest_lt (fun i=>ns.getD i 0) (ns.length-1)).2 j (by omega)
theorem call_max_seq(hc:X.calm=true):CallR X (.builtin "max") (fun xs H Q=>∃(p:Addr) (ns:List Int),xs=[.ref p]/\(SqL X.K H p (ns.map V.int)\/SqT X.K H p (ns.map V.int))/\0<ns.length/\∀m,m∈ns->(∀a∈ns,a<=m)->Q (.int m) H):=by
 intro pins s σ H xs us Q I r h
 obtain⟨p,ns,rfl,hq,hne,q⟩:=h
 obtain⟨u,rfl,ru⟩:=vals1 r
 cases ru
 refine minmax_of (bt:=fun a b=>decide (a>b)) (op:=.Gt) I hc hq hne (fun {Q} h=>call_max_walk h) (fun P hP=>?_) fun t h' tk k hb=>⟨.int _,H,I.kept k,⟨t,rfl⟩,q _ ?_ fun a ha=>?_⟩
 ·intro i j x y s' Q' E' hx hy hQ
  obtain⟨t,rfl⟩:=hP i x hx
  obtain⟨t',rfl⟩:=hP j y hy
  exact gt_int (by simpa using hQ)
 ·exact getD_mem hb
 ·obtain⟨j,hj,rfl⟩:=mem_getD ha
  exact(argBest_gt (fun i=>ns.getD i 0) (ns.length-1)).2 j (by omega)
end
end L2
end
section
namespace L2
open PySem PySem.Spec PyProof.Rows
section
variable {X:Cx}
theorem vals_bools{bs:List Bool}:∀{us:List Value},Vals (bs.map V.bl) us->us=bs.map Value.bool:=by
 induction bs with
 | nil=>intro us r;cases r;rfl
 | cons a bs ih =>
  intro us r
  cases r with
  | cons r1 r2=>cases r1;rw[ih r2];rfl
theorem range_all_getD(bs:List Bool):((List.range bs.length).all fun i=>bs.getD i true)=bs.all id:=by
 conv=>rhs;rw[<-Srt.map_getD_range bs true]
 rw[List.all_map];rfl
theorem call_all_list(hc:X.calm=true):CallR X (.builtin "all") (fun xs H Q=>∃(p:Addr) (bs:List Bool),xs=[.ref p]/\SqL X.K H p (bs.map V.bl)/\Q (.bl (bs.all id)) H):=by
 intro pins s σ H xs us Q I r h
 obtain⟨p,bs,rfl,hq,q⟩:=h
 obtain⟨u,rfl,ru⟩:=vals1 r
 cases ru
 obtain⟨its,rv,pl,hz⟩:=I.list hq
 have ev:=vals_bools rv
 subst ev
 have hpl:=pl.isList
 have hlt:p<s.heap.objs.size:=by obtain⟨_,e,_⟩:=hpl;exact Heap.lt_size e
 refine call_all_walk (wpAny_pyIter_list hpl ⟨s.heap.objs.size,[s.heap.objs.size,p],[s.heap.objs.size],_,_,_,fun i=>bs.getD i true,rfl,Walks.list (A:=X.A.in1) (I.ok.hd hc) _ p (Nat.ne_of_lt hlt) (bs.map Value.bool).toArray,
  ⟨⟨_,Heap.get?_push_size _ rfl,rfl,rfl⟩,hpl.push _⟩,fun i v s' Q' E' hP hQ=>?_,fun h' tk hk=>?_⟩)
 ·have hi:i<bs.length:=by simpa using (Array.getElem?_eq_some_iff.mp hP).1
  have e:v=Value.bool (bs.getD i true):=by
   have:(bs.map Value.bool)[i]?=some v:=by simpa using hP
   simp[hi] at this;simp[hi,this]
  subst e
  exact wpAny_truthy_bool hQ
 ·have e:((List.range (bs.map Value.bool).toArray.size).all fun i=>bs.getD i true)=bs.all id:=by rw[List.size_toArray,List.length_map];exact range_all_getD bs
  rw[e]
  exact⟨.bl _,H,I.kept fun b o z=>hk b o (by simp;exact Nat.ne_of_lt (Heap.lt_size z)) (Heap.get?_push_of_some _ z),rfl,q⟩
section
open PySem.AutoSeq1 (wpAny_loadPart')
theorem extend_tuple(l b:Addr)(items items2:Array Value)(n n2:Nat)(dd2:Option Addr)(sl2:Array (Option Value))(hs0:¬(!items.isEmpty&&Builtin.List.listTooLong (items.size+items2.size))=true)(hs1:items.size<=sizeLine)(hs2:items.size+items2.size<=sizeLine+1) :
  Meets (Builtin.«list.extend» ⟨[.ref l,.ref b],[]⟩) (fun _ R s=>s.heap.get? l=some { cls:=.type "list",data:=.seq items n }/\s.heap.get? b=some { cls:=.type "tuple",dict:=dd2,data:=.seq items2 n2,slots:=sl2 } /\
   R (.ok (.ret Value.none)) { s with heap:=s.heap.update l (Obj.mapSeq fun x=>x++items2) }) :=
 .of_wp fun prog w A R s h=>by
  obtain⟨hp,g,d,tk,os⟩:=s
  obtain⟨hl,hb,h⟩:=h
  have f2:=AutoSeq1.sub_tuple_tuple
  have f3:=AutoSeq1.sub_list_list
  have f4:=AutoSeq1.sub_tuple_list
  have f5:=AutoSeq1.sub_list_tuple
  have hz':(items++items2).size<=sizeLine+1:=by rw[Array.size_append];exact hs2
  wp_walk using (wpAny_updateSeq hl rfl (hz:=hs1) (_hz':=hz')),wpAny_loadPart' hl,wpAny_loadPart' hb
  exact⟨_,rfl,h⟩
end
noncomputable def rExtendT(K:PySem.W.Frag):V->List V->Hp->VK->Prop:=fun x vs H Q=>∃l b xs zs,x=.ref l/\vs=[.ref b]/\H l=some (.lst xs)/\SqT K H b zs/\xs.length+zs.length<=sizeLine/\Q .non (upd H l (.lst (xs++zs)))
theorem mt_extendT:MtM X "list.extend" (rExtendT X.K):=by
 intro pins s σ H x vs v us Q I rx rv h
 obtain⟨l,b,xs,zs,rfl,rfl,hH,hB,hz,q⟩:=h
 cases rx
 obtain⟨u,rfl,ru⟩:=rv.one
 cases ru
 obtain⟨z,its,n,r,hl,e⟩:=I.lstM hH
 obtain⟨its2,r2,⟨⟨oc,od,odt,osl⟩,e2,ec,n2,ed⟩,z2⟩:=I.tuple hB
 cases ec
 cases ed
 have l2:=r2.length
 have hsz:its.toArray.size+its2.toArray.size<=sizeLine:=by rw[List.size_toArray,List.size_toArray];omega
 have hlong:¬ (!its.toArray.isEmpty&&Builtin.List.listTooLong (its.toArray.size+its2.toArray.size))=true:=by
  rw[notLongL hsz,Bool.and_false]
  exact Bool.false_ne_true
 refine call_meets F.slot_list_extend ⟨_,e,rfl⟩ F.entry_list_extend (F.args_list_extend_2 _ _)
  (extend_tuple l b its.toArray its2.toArray n n2 od osl hlong (by rw[List.size_toArray];omega) (by omega)) ⟨e,e2,?_⟩
 refine⟨.non,_,I.lset (its':=its++its2) hH e (by simp) (r.append r2) ?_,rfl,q⟩
 rw[List.length_append]
 omega
end
end L2
end
section
namespace L2
open PySem
noncomputable def RsT(xs:Array Nat):Prop:=xs.toList.Pairwise (· < ·)
structure Cut (xs:Array Nat) (j p:Nat):Prop where
 le:p<=xs.size
 lo:∀(i:Nat) (hi:i<xs.size),i<p->xs[i]<j
 hi:∀(i:Nat) (hi:i<xs.size),p<=i->j<=xs[i]
theorem Cut.one{xs:Array Nat}{j p q:Nat}(a:Cut xs j p)(b:Cut xs j q):p=q:=by
 rcases Nat.lt_trichotomy p q with h|h|h
 ·have hp:p<xs.size:=Nat.lt_of_lt_of_le h b.le
  have:=a.hi p hp (Nat.le_refl _);have:=b.lo p hp h;omega
 ·exact h
 ·have hq:q<xs.size:=Nat.lt_of_lt_of_le h a.le
  have:=b.hi q hq (Nat.le_refl _);have:=a.lo q hq h;omega
theorem RsT.get{xs:Array Nat}(r:RsT xs){a b:Nat}(ha:a<xs.size)(hb:b<xs.size)(h:a<b):xs[a]<xs[b]:=by
 have:=List.pairwise_iff_getElem.mp r a b (by simpa using ha) (by simpa using hb) h
 simpa using this
theorem go_cut{xs:Array Nat}(r:RsT xs)(j:Nat):∀(fuel lo hi:Nat),lo<=hi->hi<=xs.size->hi-lo<=fuel->(∀(i:Nat) (hi:i<xs.size),i<lo->xs[i]<j)->(∀(i:Nat) (h:i<xs.size),hi<=i->j<=xs[i])->Cut xs j (SetTable.below.go xs j fuel lo hi)
 | 0,lo,hi,h1,h2,h3,a,b=>by
  have:lo=hi:=by omega
  subst this
  exact⟨h2,a,b⟩
 | fuel+1,lo,hi,h1,h2,h3,a,b=>by
  unfold SetTable.below.go
  by_cases hlt:lo<hi
  ·rw[if_pos hlt]
   dsimp only
   have hm:(lo+hi)/2<xs.size:=by omega
   have eg:xs.getD ((lo+hi)/2) j=xs[(lo+hi)/2]:=by simp[Array.getD,hm]
   rw[eg]
   by_cases hc:xs[(lo+hi)/2]<j
   ·rw[if_pos hc]
    refine go_cut r j fuel _ hi (by omega) h2 (by omega) (fun i hi' hl=>?_) b
    by_cases e:i=(lo+hi)/2
    ·subst e;exact hc
    ·exact Nat.lt_trans (r.get hi' hm (by omega)) hc
   ·rw[if_neg hc]
    refine go_cut r j fuel lo _ (by omega) (by omega) (by omega) a (fun i hi' hl=>?_)
    by_cases e:i=(lo+hi)/2
    ·subst e;omega
    ·have:=r.get hm hi' (by omega);omega
  ·rw[if_neg hlt]
   have:lo=hi:=by omega
   subst this
   exact⟨h2,a,b⟩
theorem below_cut{xs:Array Nat}(r:RsT xs)(j:Nat):Cut xs j (SetTable.below xs j) :=
 go_cut r j xs.size 0 xs.size (Nat.zero_le _) (Nat.le_refl _) (by omega) (fun i _ h=>by omega) (fun i h hl=>by omega)
theorem below_zero{xs:Array Nat}(r:RsT xs):SetTable.below xs 0=0:=(below_cut r 0).one ⟨Nat.zero_le _,fun i _ h=>by omega,fun i _ _=>Nat.zero_le _⟩
theorem below_next{xs:Array Nat}(r:RsT xs){i:Nat}(hi:i<xs.size):SetTable.below xs (xs[i]+1)=i+1:=by
 refine(below_cut r _).one ⟨hi,fun k hk h=>?_,fun k hk h=>?_⟩
 ·by_cases e:k=i
  ·subst e;omega
  ·have:=r.get hk hi (by omega);omega
 ·have:=r.get hi hk (by omega);omega
theorem mem_below{xs:Array Nat}(r:RsT xs){j:Nat}(h:j∈xs):xs[SetTable.below xs j]?=some j:=by
 obtain⟨k,hk,e⟩:=Array.mem_iff_getElem.mp h
 have:SetTable.below xs j=k:=by
  refine(below_cut r j).one ⟨Nat.le_of_lt hk,fun i hi h=>?_,fun i hi h=>?_⟩
  ·have:=r.get hi hk h;omega
  ·by_cases e':i=k
   ·subst e';omega
   ·have:=r.get hk hi (by omega);omega
 rw[this,Array.getElem?_eq_getElem hk,e]
theorem insert_rs{xs:Array Nat}(r:RsT xs){j:Nat}(h:j∉xs):RsT (SetTable.insertAt xs (SetTable.below xs j) j):=by
 have c:=below_cut r j
 unfold RsT
 rw[SetTable.toList_insertAt]
 have rl:xs.toList.Pairwise (· < ·):=r
 have lo:∀a∈xs.toList.take (SetTable.below xs j),a<j:=fun a ha=>by
  obtain⟨i,hi,e⟩:=List.mem_iff_getElem.mp ha
  rw[List.length_take,Array.length_toList] at hi
  rw[List.getElem_take] at e
  have:=c.lo i (by omega) (by omega)
  rw[<-e];simpa using this
 have up:∀a∈xs.toList.drop (SetTable.below xs j),j<a:=fun a ha=>by
  obtain⟨i,hi,e⟩:=List.mem_iff_getElem.mp ha
  rw[List.length_drop,Array.length_toList] at hi
  rw[List.getElem_drop] at e
  have h1:=c.hi (SetTable.below xs j+i) (by omega) (by omega)
  have e':xs[SetTable.below xs j+i]'(by omega)=a:=by rw[<-e];simp
  rw[e'] at h1
  have:a≠j:=fun z=>h (by rw[<-z,<-e'];exact Array.getElem_mem _)
  omega
 rw[List.pairwise_append]
 refine⟨rl.sublist (List.take_sublist _ _),List.pairwise_cons.mpr ⟨up,rl.sublist (List.drop_sublist _ _)⟩,fun a ha b hb=>?_⟩
 rcases List.mem_cons.mp hb with e|hb
 ·rw[e];exact lo a ha
 ·exact Nat.lt_trans (lo a ha) (up b hb)
theorem range_rs(n:Nat):RsT (Array.range n):=by
 unfold RsT
 rw[Array.toList_range]
 exact List.pairwise_lt_range
theorem slot_free{t:SetTable}(r:RsT t.place){j:Nat}(h:t.slot j=.empty\/t.slot j=.dummy):j∉t.place:=fun hm=>by
 have e:=mem_below r hm
 unfold SetTable.slot at h
 dsimp only at h
 rw[e] at h
 simp at h
theorem probe_free{t:SetTable}{f:Nat->Int}{h:Int}:∀(fuel:Nat) (p:SetTable.Probe) (j:Nat) (d:Option Nat),(∀k,p.dummy=some k->t.slot k=.dummy)->SetTable.probe.go t f h fuel p=some (.empty j d)->t.slot j=.empty/\∀k,d=some k->t.slot k=.dummy
 | 0,p,j,d,hd,e=>by simp[SetTable.probe.go] at e
 | fuel+1,p,j,d,hd,e=>by
  have ad:∀q:SetTable.Probe,(t.advance q).dummy=q.dummy:=fun q=>by unfold SetTable.advance;split<;>rfl
  unfold SetTable.probe.go at e
  split at e
  ·rename_i hs
   cases e
   exact⟨hs,hd⟩
  ·rename_i hs
   refine probe_free fuel _ j d (fun k hk=>?_) e
   rw[ad] at hk
   cases hk
   exact hs
  ·split at e
   ·cases e
   ·exact probe_free fuel _ j d (fun k hk=>hd k (by rw[<-ad];exact hk)) e
theorem free_new{t:SetTable}(r:RsT t.place){h:Int}{s:Nat}{b:Bool}(e:t.freeSlot h=some (s,b)):s∉t.place:=by
 unfold SetTable.freeSlot at e
 split at e
 ·rename_i j d hp
  cases e
  obtain⟨h1,h2⟩:=probe_free _ _ _ _ (fun k hk=>by simp[SetTable.probeStart] at hk) hp
  cases d with
  | none=>exact slot_free r (.inl h1)
  | some k=>exact slot_free r (.inr (h2 k rfl))
 ·cases e
theorem layNew_rs{t:SetTable}(r:RsT t.place)(es:Array (Int×Value))(h:Int)(x:Value):RsT (layNew t es h x).2.1.place/\(layNew t es h x).2.1.led=t.led:=by
 unfold layNew
 split
 ·rename_i s b e
  have fr:=free_new r e
  dsimp only
  unfold SetTable.orStandIn
  split
  ·exact⟨insert_rs r fr,rfl⟩
  ·exact⟨range_rs _,rfl⟩
 ·exact⟨range_rs _,rfl⟩
theorem relay_rs{t:SetTable}(r:RsT t.place)(es:Array (Int×Value))(n:Nat):RsT (relayAll t es n).2.1.place/\(relayAll t es n).2.1.led=t.led:=by
 unfold relayAll
 split
 ·rename_i t' order e
  dsimp only
  split
  ·unfold SetTable.relaid SetTable.laid at e
   obtain⟨ow,e1,e⟩:=Option.bind_eq_some_iff.mp e
   cases e
   refine⟨?_,rfl⟩
   show List.Pairwise _ (List.map _ _).toArray.toList
   rw[List.toList_toArray,List.pairwise_map]
   refine List.Pairwise.filterMap _ (R:=(· < ·)) (fun a a' hl b hb b' hb'=>?_) List.pairwise_lt_range
   obtain⟨x,_,rfl⟩:=Option.map_eq_some_iff.mp hb
   obtain⟨y,_,rfl⟩:=Option.map_eq_some_iff.mp hb'
   exact hl
  ·exact⟨range_rs _,rfl⟩
 ·exact⟨range_rs _,rfl⟩
end L2
end
section
namespace L2
open PySem PyProof.Rows
noncomputable def byTx(w:World):Bool:=w.params.followText "set-order"
structure TabOk (w:World) (es:Array (Int×Value)) (t:SetTable):Prop where
 few:es.size<scanBound
 fit:t.fits es.size=true
 rs:RsT t.place
 led:t.led = !byTx w
structure IsSet (prog:Program) (w:World) (h:Heap) (a:Addr) (o:Obj) (es:Array (Int×Value)) (ep:Nat) (t:SetTable) (ks:List Int):Prop where
 at_:h.get? a=some o
 ex:o.ExactSet
 dat:o.data=.set es ep t
 el:ElemsOf (intKind prog w) es.toList
 tab:TabOk w es t
 nod:ks.Nodup
 mem:∀k,k∈ks↔∃e∈es.toList,(intKind prog w).is k e.2=true
 num:es.size=ks.length
noncomputable def SetI(prog:Program)(w:World)(h:Heap)(a:Addr)(ks:List Int):Prop:=∃o es ep t,IsSet prog w h a o es ep t ks
noncomputable def addK(ks:List Int)(k:Int):List Int:=if k∈ks then ks else ks++[k]
section
variable {prog:Program} {w:World} {A:Around} {E:Value->Shared->Prop} {s:Shared}
theorem put_at{h:Heap}{a:Addr}{o:Obj}{es es':Array (Int×Value)}{ep:Nat}{t t':SetTable}(ho:h.get? a=some o)(hd:o.data=.set es ep t):(h.update a (Obj.putSet es' t')).get? a=some { o with data:=.set es' (ep+1) t' }:=by
 have q:=Heap.get?_update_self (Obj.putSet es' t') ho (by rw[putSet_of es' t' hd];rfl)
 rw[putSet_of es' t' hd] at q;exact q
theorem SetI.frame{h h':Heap}{a:Addr}{ks:List Int}(S:SetI prog w h a ks)(k:∀o,h.get? a=some o->h'.get? a=some o):SetI prog w h' a ks:=by
 obtain⟨o,es,ep,t,i⟩:=S
 exact⟨o,es,ep,t,{ i with at_:=k o i.at_ }⟩
theorem mem_push{es es1:List (Int×Value)}{ks:List Int}{k:Int}{x:Value}(hx:(intKind prog w).is k x=true)(hm:∀j,j∈ks↔∃e∈es,(intKind prog w).is j e.2=true)(p:es1.Perm (es++[((intKind prog w).hash k,x)]))(j:Int) :
  j∈ks++[k]↔∃e∈es1,(intKind prog w).is j e.2=true:=by
 rw[List.mem_append,List.mem_singleton,hm]
 constructor
 ·rintro(⟨e,he,q⟩|rfl)
  ·exact⟨e,p.mem_iff.mpr (List.mem_append_left _ he),q⟩
  ·exact⟨_,p.mem_iff.mpr (List.mem_append_right _ List.mem_cons_self),hx⟩
 ·rintro⟨e,he,q⟩
  rcases List.mem_append.mp (p.mem_iff.mp he) with z|z
  ·exact .inl ⟨e,z,q⟩
  ·rw[List.mem_singleton] at z;subst z;exact .inr ((intKind prog w).inj x j k q hx)
theorem add_tail{g:Bool->Sem Unit}(hg:∀(b:Bool) (s₁:Shared) (Q':Unit->Shared->Prop),Q' () s₁->wpAny (model prog w) A (g b) Q' E s₁)
  {a:Addr} {o:Obj} {es es1:Array (Int×Value)} {ep:Nat} {t t2:SetTable} {ks:List Int} (ho:s.heap.get? a=some o) (hex:o.ExactSet) (hd:o.data=.set es ep t)
  (hel:ElemsOf (intKind prog w) es1.toList) (hm:∀k,k∈ks↔∃e∈es1.toList,(intKind prog w).is k e.2=true) (hnd:ks.Nodup) (hn:es1.size=ks.length) (ht:TabOk w es1 t2) {b:Bool} {R:Option Bool->Shared->Prop}
  (h:∀h',Heap.SameBut a s.heap h'->SetI prog w h' a ks->R (some true) { s with heap:=h' }) :
  wpAny (model prog w) A (do
    storeSet a es1 t2
    if (!b&&t2.tooFull)=true then do
      g (relayAll t2 es1 (SetTable.grown es1.size)).2.2
      storeSet a (relayAll t2 es1 (SetTable.grown es1.size)).1 (relayAll t2 es1 (SetTable.grown es1.size)).2.1
      pure (some true)
     else pure (some true)) R E s:=by
 refine wpAny_bind (wpAny_storeSet_of ho hd ?_ (fits_of_scanBound ht.few))
 have h1:=put_at (es':=es1) (t':=t2) ho hd
 have b1:=Heap.SameBut.update s.heap a (Obj.putSet es1 t2)
 split
 ·have p:=relayAll_perm t2 es1 (SetTable.grown es1.size)
  have f:=relayAll_fits t2 es1 (SetTable.grown es1.size)
  have rr:=relay_rs ht.rs es1 (SetTable.grown es1.size)
  generalize relayAll t2 es1 (SetTable.grown es1.size)=Rl at p f rr |-
  obtain⟨es2,t3,gv⟩:=Rl
  dsimp only at p f rr |-
  have z:es2.size=es1.size:=by rw[<-Array.length_toList,p.length_eq,Array.length_toList]
  have few:es2.size<scanBound:=by rw[z];exact ht.few
  refine wpAny_bind (hg _ _ _ ?_)
  refine wpAny_bind (wpAny_storeSet_of h1 rfl ?_ (fits_of_scanBound few))
  refine wpAny_pure (h _ (b1.trans (Heap.SameBut.update _ a _)) ⟨_,es2,_,t3,put_at h1 rfl,hex,rfl,hel.perm p,⟨few,f,rr.1,rr.2.trans ht.led⟩,hnd,fun k=>(hm k).trans ⟨fun⟨e,he,q⟩=>⟨e,p.mem_iff.mpr he,q⟩,fun⟨e,he,q⟩=>⟨e,p.mem_iff.mp he,q⟩⟩,z.trans hn⟩)
 ·exact wpAny_pure (h _ b1 ⟨_,es1,_,t2,h1,hex,rfl,hel,ht,hnd,hm,hn⟩)
theorem add_int{a:Addr}{ks:List Int}{k:Int}{tk:Tok}{Q:Bool->Shared->Prop}(S:SetI prog w s.heap a ks)(room:ks.length+1<scanBound)
  (h:∀h' b,Heap.SameBut a s.heap h'->SetI prog w h' a (addK ks k)->Q b { s with heap:=h' }) :
  wpAny (model prog w) A (setAddHashed a (.int k tk) ((intKind prog w).hash k)) Q E s:=by
 obtain⟨o,es,ep,t,I⟩:=S
 have hx:(intKind prog w).is k (.int k tk)=true:=intKind_is _ _ _ _
 have sc:(Value.int k tk).scannable=true:=rfl
 unfold setAddHashed setAddHashedIn
 refine wpAny_holding (wpAny_bind (wpAny_setState_of I.at_ I.dat I.tab.fit ?_))
 dsimp only
 rw[byScan_of sc I.tab.few I.el]
 simp only[↓reduceIte]
 unfold setAddByScan
 refine wpAny_bind (wpAny_bind (wpAny_rule (wpAny_bind (wpAny_setScan_of hx I.at_ I.dat I.tab.fit I.el ?_))))
 cases hr:List.findIdx? (fun e=>(intKind prog w).is k e.2) es.toList with
 | some j =>
  dsimp only
  obtain⟨hj,pj,_⟩:=List.findIdx?_eq_some_iff_getElem.mp hr
  have hk:k∈ks:=(I.mem k).mpr ⟨es.toList[j],List.getElem_mem hj,pj⟩
  refine wpAny_pure (wpAny_pure ?_)
  have e:s={ s with heap:=s.heap }:=by cases s;rfl
  rw[e]
  exact h s.heap _ (Heap.SameBut.refl a s.heap) (by unfold addK;rw[if_pos hk];exact⟨o,es,ep,t,I⟩)
 | none =>
  dsimp only
  have hk:k∉ks:=fun z=>by
   obtain⟨e,he,p⟩:=(I.mem k).mp z
   have:=List.findIdx?_eq_none_iff.mp hr e he
   rw[p] at this;cases this
  have gw:∀(b:Bool) (s₁:Shared) (Q':Unit->Shared->Prop),Q' () s₁->wpAny (model prog w) A (match b with|true=>rule "set.scan.the-table-gave-way" | false=>pure ()) Q' E s₁:=fun b s₁ Q' q=>by
   cases b
   ·exact wpAny_pure q
   ·exact wpAny_rule q
  have p:=layNew_perm t es ((intKind prog w).hash k) (.int k tk)
  have f:=layNew_fits t es ((intKind prog w).hash k) (.int k tk)
  have rr:=layNew_rs I.tab.rs es ((intKind prog w).hash k) (.int k tk)
  generalize layNew t es ((intKind prog w).hash k) (.int k tk)=Ln at p f rr |-
  obtain⟨es1,t1,wd,gv⟩:=Ln
  dsimp only at p f rr |-
  rw[Array.toList_push] at p
  have z:es1.size=(ks++[k]).length:=by rw[<-Array.length_toList,p.length_eq,List.length_append,List.length_append,Array.length_toList,I.num];rfl
  have few:es1.size<scanBound:=by rw[z,List.length_append];simpa using room
  have nd:(ks++[k]).Nodup:=by
   rw[List.nodup_append]
   exact⟨I.nod,by simp,fun x hx' y hy e=>hk (by rw[List.mem_singleton] at hy;rw[<-hy,<-e];exact hx')⟩
  have el1:ElemsOf (intKind prog w) es1.toList:=(I.el.push hx sc).perm p
  have m1:=mem_push hx I.mem p
  have fin:∀h',Heap.SameBut a s.heap h'->SetI prog w h' a (ks++[k])->Q true { s with heap:=h' }:=fun h' sb S'=>h h' true sb (by unfold addK;rw[if_neg hk];exact S')
  refine wpAny_bind (gw _ _ _ ?_)
  split
  ·refine wpAny_bind ?_
   rw[hashByValue_scannable 8 sc]
   refine wpAny_pure ?_
   refine add_tail gw I.at_ I.ex I.dat el1 m1 nd z ⟨few,?_,?_,?_⟩ fun h' sb S'=>wpAny_pure (fin h' sb S')
   ·split
    ·exact f
    ·exact SetTable.fits_plain_off f
   ·split
    ·exact rr.1
    ·exact rr.1
   ·split
    ·exact rr.2.trans I.tab.led
    ·exact rr.2.trans I.tab.led
  ·refine wpAny_bind (wpAny_pure ?_)
   simp only[↓reduceIte]
   exact add_tail gw I.at_ I.ex I.dat el1 m1 nd z ⟨few,f,rr.1,rr.2.trans I.tab.led⟩ fun h' sb S'=>wpAny_pure (fin h' sb S')
end
end L2
end
section
namespace L2
open PySem PyProof.Rows
noncomputable def newK:List Int->List Int->List Int
 | ks,[]=>ks
 | ks,k::r=>newK (addK ks k) r
theorem addK_len(ks:List Int)(k:Int):(addK ks k).length<=ks.length+1:=by unfold addK;split<;>simp
section
variable {prog:Program} {w:World} {A:Around} {E:Value->Shared->Prop} {s:Shared}
theorem upd_loop{R:Result->Shared->Prop}{I:Addr}{fp wr:List Addr}{G:Array GenState->Array GenState->Prop}{n:Nat}{P:Nat->Value->Prop}{St:Nat->Shared->Prop}(W:WalksS prog w A.in1 I fp wr G n P St)(S:Addr)(hSf:S∉fp)(val:Nat->Int)(hval:∀i v,P i v->∃t,v=.int (val i) t) :
  ∀(k i:Nat) (s:Shared) (ks:List Int),n-i=k->i<=n->ks.length+k+1<scanBound->St i s->SetI prog w s.heap S ks ->
   (∀s',Moved (S::wr) G s s'->SetI prog w s'.heap S (newK ks ((List.range' i k).map val))->R (.ok (.ret .none)) s') ->
   codeAny (model prog w) A (.builtin "set.update.loop" ⟨[.ref S,.ref I],[]⟩) R s:=by
 have hSw:S∉wr:=fun h=>hSf (W.sub _ h)
 have sub:∀b∈wr,b∈S::wr:=fun b hb=>List.mem_cons_of_mem _ hb
 intro k
 induction k with
 | zero =>
  intro i s ks hk hi _ hst hS hR
  have:i=n:=by omega
  subst this
  refine codeAny_builtin PyProof.Rows.F.entry_set_update_loop ?_
  rw[Around.under_plainId PyProof.Rows.F.plain_set_update_loop _]
  show wpAny _ A.in1 (pyNext (.ref I) >>= _) _ _ s
  refine wpAny_bind (W.done s _ _ hst fun s' hm=>?_)
  show wpAny _ A.in1 (ret Value.none) _ _ s'
  exact wpAny_pure (hR s' (hm.mono sub) (hS.frame fun o e=>hm.heap S _ hSw e))
 | succ k ih =>
  intro i s ks hk hi hl hst hS hR
  have hlt:i<n:=by omega
  refine codeAny_builtin PyProof.Rows.F.entry_set_update_loop ?_
  rw[Around.under_plainId PyProof.Rows.F.plain_set_update_loop _]
  show wpAny _ A.in1 (pyNext (.ref I) >>= _) _ _ s
  refine wpAny_bind (W.item i s _ _ hlt hst fun v s' hP hst' hm=>?_)
  obtain⟨t,rfl⟩:=hval i v hP
  have hS':=hS.frame (h':=s'.heap) fun o e=>hm.heap S _ hSw e
  show wpAny _ A.in1 (holding [Value.int (val i) t] (setAdd S (.int (val i) t)) >>= _) _ _ s'
  refine wpAny_bind (wpAny_holding ?_)
  unfold setAdd
  refine wpAny_holding (wpAny_bind ((intKind prog w).pyHash (k:=val i) (intKind_is _ _ _ _) ?_))
  refine add_int (s:={ s' with toks:=s'.toks+1 }) hS' (by omega) fun h' b sb S2=>?_
  have hl2:=addK_len ks (val i)
  refine wpAny_pure ⟨plainId_quiet PyProof.Rows.F.plain_set_update_loop _,ih (i+1) _ (addK ks (val i)) (by omega) hlt (by omega) (W.frame _ s' _ _ hst' (Nat.le_succ _) fun b hb o e=>?_) S2 fun s'' hm'' S3=>?_⟩
  ·rw[sb.2 b fun z=>hSf (by rw[<-z];exact hb)];exact e
  ·refine hR s'' (Moved.trans W.gtrans ((hm.mono sub).then_heap (Nat.le_succ _) fun b o hb e=>?_) hm'') ?_
   ·rw[sb.2 b fun z=>hb (by rw[z];exact List.mem_cons_self)];exact e
   ·rw[List.range'_succ,List.map_cons,newK];exact S3
noncomputable abbrev set0(w:World):Obj:={ cls:=.type "set",dict:=none,data:=.set #[] 0 (.fresh 0 0 (!byTx w)) }
theorem set0_ok{h:Heap}{a:Addr}(e:h.get? a=some (set0 w)):SetI prog w h a [] :=
 ⟨_,#[],0,_,e,⟨rfl,rfl,rfl⟩,rfl,fun x hx=>by simp at hx,⟨by show 0<4096;decide,rfl,List.Pairwise.nil,rfl⟩,List.nodup_nil,fun k=>by simp,rfl⟩
theorem set_new1(a:Value){Q₁:Value->Shared->Prop}(h:Q₁ (.ref s.heap.objs.size) { s with heap:=s.heap.push (set0 w) }) :
  codeAny (model prog w) A (.call (.builtin "set.__new__") ⟨[.type "set",a],[]⟩) (wants Q₁ E) s:=by
 refine codeAny_of_tree ?_
 show wpAny _ A.in1 (do checkBuiltinCall "set.__new__" ⟨[.type "set",a],[]⟩;again (.builtin "set.__new__" ⟨[.type "set",a],[]⟩)) _ _ s
 refine wpAny_bind (wpAny_of_eq (PySem.F.newCall_set_1 a) (wpAny_pure ⟨plainId_quiet PySem.F.plain_set_new _,codeAny_builtin PySem.F.entry_set_new ?_⟩))
 rw[Around.under_plainId PySem.F.plain_set_new _]
 unfold Builtin.«set.__new__» Builtin.Frozenset.newClass
 have hsub:=sub_set_self
 obtain⟨hp,g,d,tk,os⟩:=s
 dsimp only
 wp_walk
 refine wpAny_askSetting (wpAny_pure ?_)
 dsimp only
 simp only[newObj]
 refine wpAny_bind (wpAny_alloc (wpAny_pure ?_))
 exact wpAny_pure h
end
end L2
end
section
namespace L2
open PySem PyProof.Rows
section
variable {prog:Program} {w:World} {A:Around} {E:Value->Shared->Prop} {s:Shared}
theorem ints_range{vs:List Value}{ns:List Int}(hi:IntsAre vs ns):(List.range' 0 vs.length).map (fun i=>ns.getD i 0)=ns:=by
 have hl:=IntsAre.length hi
 apply List.ext_getElem
 ·rw[List.length_map,List.length_range',hl]
 ·intro i h1 h2
  simp[List.getD,h2]
theorem set_of_list{l:Addr}{items:Array Value}{ns:List Int}{Q:Value->Shared->Prop}(hh:A.handled=none)(hl:s.heap.IsList l items)(hi:IntsAre items.toList ns)(hb:items.size+1<scanBound)
  (h:∀(h':Heap) (tk:Nat),SetI prog w h' s.heap.objs.size (newK [] ns)->(∀b o,b<s.heap.objs.size->s.heap.get? b=some o->h'.get? b=some o)->Q (.ref s.heap.objs.size) { s with heap:=h',toks:=tk }) :
  wpAny (model prog w) A (call (.type "set") [.ref l]) Q E s:=by
 obtain⟨c,tl,mro⟩:=PySem.F.called_set.mro
 have made:=PySem.F.called_set.made
 have sub:=PySem.F.called_set.sub
 refine wpAny_call (codeAny_of_tree ?_);show wpAny _ _ (callAny (.type "set") _) _ _ _
 refine wpAny_pure ⟨Code.quiet_builtin _ (by decide +kernel),codeAny_builtin PySem.F.entry_type_call ?_⟩
 rw[Around.under_plain (weight_type_call_type "set" [.ref l] []) rfl]
 have n1:=PySem.F.called_set.notType
 have n2:=PySem.F.called_set.canCreate
 have n3:=PySem.F.typeCall_set_1 (.ref l)
 repeat (any_goals (first|assumption|wp_step))
 refine codeAny_mono (set_new1 (.ref l) (E:=E) (Q₁:=fun obj s₁=>obj=.ref s.heap.objs.size/\s₁={ s with heap:=s.heap.push (set0 w) }) ⟨rfl,rfl⟩) fun r s₁ hr=>?_
 cases r with
 | error e=>exact hr
 | ok fl =>
  cases fl with
  | ret obj =>
   obtain⟨rfl,rfl⟩:=hr
   have at0:(s.heap.push (set0 w)).get? s.heap.objs.size=some (set0 w):=Heap.get?_push_size _ rfl
   have hT:Shared.TypeIs { s with heap:=s.heap.push (set0 w) } (.ref s.heap.objs.size) "set":=⟨_,at0,rfl⟩
   have look:=PySem.F.called_set.init.lookup
   have bind:=PySem.F.called_set.init.bind (.ref s.heap.objs.size)
   repeat (any_goals (first|assumption|wp_step))
   refine codeAny_mono (codeAny_call_builtin (R:=wants (fun r s₂=>r=.none/\∃h' tk,s₂={ s with heap:=h',toks:=tk }/\SetI prog w h' s.heap.objs.size (newK [] ns) /\
     (∀b o,b<s.heap.objs.size->s.heap.get? b=some o->h'.get? b=some o)) E) PySem.F.called_set.init.plain PySem.F.entry_set_init (check_set_init_1 hT ?_)) fun r₂ s₂ hr₂=>?_
   ·obtain⟨ol,hol,cl,nl,dl⟩:=hl
    obtain⟨oc,od,oda,os⟩:=ol
    simp only at cl dl
    subst cl;subst dl
    have hol':(s.heap.push (set0 w)).get? l=some { cls:=.type "list",dict:=od,data:=.seq items nl,slots:=os }:=Heap.get?_push_of_some _ hol
    have q1:=PySem.F.sub_list_set
    have q2:=PySem.F.sub_list_frozenset
    have q3:(Value.type "list" == Value.type "dict")=false:=by decide
    have hl1:(s.heap.push (set0 w)).IsList l items:=⟨_,hol',rfl,nl,rfl⟩
    unfold Builtin.«set.__init__» noKeywords Builtin.Frozenset.updateFrom
    generalize hPI:pyIter=PI
    wp_walk
    subst hPI
    refine wpAny_pyIter_list hl1 (wpAny_bind (wpAny_runValue ?_))
    have lS:l<s.heap.objs.size:=Heap.lt_size hol
    have h3:A.in1.in1.in1.handled=none:=by simp[hh]
    have neI:l≠(s.heap.push (set0 w)).objs.size:=by rw[Heap.size_push];exact Nat.ne_of_lt (Nat.lt_succ_of_lt lS)
    have sF:s.heap.objs.size∉[(s.heap.push (set0 w)).objs.size,l]:=by
     rw[Heap.size_push];simp only[List.mem_cons,List.not_mem_nil,or_false,not_or]
     exact⟨Nat.ne_of_lt (Nat.lt_succ_self _),Nat.ne_of_gt lS⟩
    have val:∀(i:Nat) (v:Value),items[i]?=some v->∃t,v=.int ((fun i=>ns.getD i 0) i) t:=fun i v hv=>IntsAre.int_at hi i v (by rw[Array.getElem?_toList];exact hv)
    refine upd_loop ((Walks.list h3 _ l neI items).toS) s.heap.objs.size sF (fun i=>ns.getD i 0) val (items.size-0) 0 _ [] (by omega) (Nat.zero_le _) (by simpa using hb) ⟨⟨_,Heap.get?_push_size _ rfl,rfl,rfl⟩,hl1.push _⟩ ?s0 ?sR
    case s0=>exact set0_ok (Heap.get?_push_of_some _ at0)
    case sR =>
     intro s' hm S'
     obtain⟨h',g',d',tk',os'⟩:=s'
     have eg:g'=s.gens:=hm.gens
     have ed:d'=s.drawn:=hm.drawn
     have eo:os'=s.os:=hm.os
     subst eg;subst ed;subst eo
     refine wpAny_pure ?_
     show wpAny _ _ (ret Value.none) _ _ _
     have e0:(List.range' 0 (items.size-0)).map (fun i=>ns.getD i 0)=ns:=by have:=ints_range hi;rw[Array.length_toList] at this;exact this
     rw[e0] at S'
     refine wpAny_pure ⟨rfl,h',tk',rfl,S',fun b o hb e=>?_⟩
     have b1:b≠s.heap.objs.size:=Nat.ne_of_lt hb
     have b2:b≠(s.heap.push (set0 w)).objs.size:=by rw[Heap.size_push];exact Nat.ne_of_lt (Nat.lt_succ_of_lt hb)
     exact hm.heap b o (by simp only[List.mem_cons,List.not_mem_nil,or_false,not_or];exact⟨b1,b2⟩) (Heap.get?_push_of_some _ (Heap.get?_push_of_some _ e))
   ·cases r₂ with
    | error e=>exact hr₂
    | ok fl₂ =>
     cases fl₂ with
     | ret r =>
      obtain⟨rfl,h',tk,rfl,S',hk⟩:=hr₂
      repeat (any_goals (first|assumption|wp_step))
      exact h _ _ S' hk
     | _=>exact hr₂.elim
  | _=>exact hr.elim
end
end L2
end
section
namespace L2
open PySem PyProof.Rows
namespace SI
theorem entry_iter:entryFor table "set.__iter__" = some Builtin.«frozenset.__iter__» :=
 entryFor_alias (id':="frozenset.__iter__") (by kernel_rfl) rfl (by decide +kernel) (by kernel_rfl)
theorem owner:Manifest.owners.lookup (String.ofList ['r','o','t','a','r','e','t','i','_','t','e','s'].reverse)=some Manifest.sig_set_iterator:=by kernel_rfl
theorem slot_next:Slot "set_iterator" "__next__" "set_iterator.__next__" :=
 .of (owner:="set_iterator") (n:="__next__") (by rw[typeLookup_type,builtinLookup_eq_fast];kernel_rfl) (by decide +kernel) (by decide +kernel) (by decide +kernel) (by first|exact .inl (by decide +kernel)|exact .inr (by decide +kernel)) (by rw[isSubtype_type];kernel_rfl)
theorem entry_next:entryFor table "set_iterator.__next__" = some Builtin.«set_iterator.__next__»:=entryFor_of_tree (by kernel_rfl)
theorem args_next(a:Value):argsOk "set_iterator.__next__" ⟨[a],[]⟩:=by
 unfold argsOk;rw[signature?_of (id:="set_iterator.__next__") (n:=['_','_','t','x','e','n','_','_']) (o:=['r','o','t','a','r','e','t','i','_','t','e','s']) (by kernel_rfl) owner];kernel_rfl
theorem slot_iter:Slot "set_iterator" "__iter__" "set_iterator.__iter__" :=
 .of (owner:="set_iterator") (n:="__iter__") (by rw[typeLookup_type,builtinLookup_eq_fast];kernel_rfl) (by decide +kernel) (by decide +kernel) (by decide +kernel) (by first|exact .inl (by decide +kernel)|exact .inr (by decide +kernel)) (by rw[isSubtype_type];kernel_rfl)
theorem entry_self:entryFor table "set_iterator.__iter__" = some Builtin.«dict_keyiterator.__iter__» :=
 entryFor_alias (id':="dict_keyiterator.__iter__") (by kernel_rfl) rfl (by decide +kernel) (by kernel_rfl)
theorem args_iter(a:Value):argsOk "set_iterator.__iter__" ⟨[a],[]⟩:=by
 unfold argsOk;rw[signature?_of (id:="set_iterator.__iter__") (n:=['_','_','r','e','t','i','_','_']) (o:=['r','o','t','a','r','e','t','i','_','t','e','s']) (by kernel_rfl) owner];kernel_rfl
end SI
section
variable {prog:Program} {w:World} {A:Around} {E:Value->Shared->Prop} {s:Shared}
noncomputable def SItObj(h:Heap)(it:Addr)(f:Value)(i:Nat)(a:Addr)(n ep:Nat):Prop:=∃o,h.get? it=some o/\o.cls=.type "set_iterator" /\ o.data=.fields #[f,.int i 0,.ref a,.int n 0,.int ep 0]
theorem SItObj.typeIs{it:Addr}{f:Value}{i:Nat}{a:Addr}{n ep:Nat}(x:SItObj s.heap it f i a n ep):s.TypeIs (.ref it) "set_iterator":=let ⟨o,ho,hc,_⟩:=x;⟨o,ho,hc⟩
theorem iter_self{it:Addr}{f:Value}{i:Nat}{a:Addr}{n ep:Nat}{Q:Value->Shared->Prop}(x:SItObj s.heap it f i a n ep)(h:Q (.ref it) s):wpAny (model prog w) A (pyIter (.ref it)) Q E s:=by
 refine wpAny_pyIter_slot x.typeIs SI.slot_iter (wpAny_call_entry SI.slot_iter x.typeIs SI.entry_self ?_ (SI.args_iter _))
 exact wpAny_pure ⟨_,rfl,"set_iterator",_,x.typeIs,SI.slot_next.lookup,h⟩
end
end L2
end
section
namespace L2
open PySem PyProof.Rows
section
variable {prog:Program} {w:World} {A:Around} {E:Value->Shared->Prop} {s:Shared}
theorem setEntries_at{a:Addr}{o:Obj}{es:Array (Int×Value)}{ep:Nat}{t:SetTable}{Q:Array (Int×Value)->Shared->Prop}(ho:s.heap.get? a=some o)(hd:o.data=.set es ep t)(hf:t.fits es.size=true)(h:Q es s):wpAny (model prog w) A (setEntries a) Q E s:=by
 unfold setEntries
 exact wpAny_bind (wpAny_setState_of ho hd hf (wpAny_pure h))
theorem byText_at{Q:Bool->Shared->Prop}(h:Q (byTx w) s):wpAny (model prog w) A setsByText Q E s:=by
 unfold setsByText
 exact wpAny_bind (wpAny_askSetting (wpAny_pure h))
theorem next_slot{a:Addr}{o:Obj}{es:Array (Int×Value)}{ep sl g:Nat}{t:SetTable}{ks:List Int}{Q:Option (Value×Nat)->Shared->Prop}(S:IsSet prog w s.heap a o es ep t ks)(hb:byTx w=false)(hp:(!t.plain&&decide (es.size>1))=false)
  (hQ:Q (match es[SetTable.below t.place sl]?,t.place[SetTable.below t.place sl]? with|some (_,x),some j=>some (x,j+1)|_,_=>none) s):wpAny (model prog w) A (setNext a sl g ep) Q E s:=by
 have led:t.led=true:=by rw[S.tab.led,hb];rfl
 unfold setNext
 refine wpAny_bind (wpAny_setState_of S.at_ S.dat S.tab.fit ?_)
 dsimp only
 refine wpAny_bind (byText_at ?_)
 rw[hb]
 simp only[Bool.false_eq_true,↓reduceIte]
 rw[if_neg (fun z=>by
  have z':(!t.plain&&decide (es.size>1))=true:=z
  rw[hp] at z';cases z')]
 refine wpAny_bind ?_
 show wpAny _ _ (if (!t.led && !es.isEmpty)=true then Sem.unsupported "set:maker-not-led" else pure ()) _ _ _
 rw[if_neg (by rw[led];simp)]
 exact wpAny_pure (wpAny_pure hQ)
theorem next_text{a:Addr}{o:Obj}{es:Array (Int×Value)}{ep sl g:Nat}{t:SetTable}{ks:List Int}{Q:Option (Value×Nat)->Shared->Prop}(S:IsSet prog w s.heap a o es ep t ks)(hb:byTx w=true)
  (hQ:Q (((pickOrder (w.params.setOrder a ep) es)[g]?).map fun e=>(e.2,sl)) s):wpAny (model prog w) A (setNext a sl g ep) Q E s:=by
 unfold setNext
 refine wpAny_bind (wpAny_setState_of S.at_ S.dat S.tab.fit ?_)
 dsimp only
 refine wpAny_bind (byText_at ?_)
 rw[hb]
 simp only[bne_self_eq_false,Bool.false_eq_true,↓reduceIte]
 unfold setWalk
 refine wpAny_bind (wpAny_bind (wpAny_setState_of S.at_ S.dat S.tab.fit ?_))
 dsimp only
 refine wpAny_bind (byText_at ?_)
 rw[hb]
 simp only[↓reduceIte]
 exact wpAny_bind (wpAny_askSetting (wpAny_pure (wpAny_pure hQ)))
theorem step_num{it a:Addr}{o:Obj}{es:Array (Int×Value)}{ep:Nat}{t:SetTable}{ks:List Int}{i sl:Nat}{r:Option (Value×Nat)}{Q:Option Value->Shared->Prop}(hh:A.handled=none)(x:SItObj s.heap it (.int sl 0) i a es.size ep)(S:IsSet prog w s.heap a o es ep t ks)
  (hn:∀(A:Around) (E:Value->Shared->Prop) (Q:Option (Value×Nat)->Shared->Prop),Q r s->wpAny (model prog w) A (setNext a sl i ep) Q E s)
  (hQ:∀v nx,r=some (v,nx)->∀h',SItObj h' it (.int (nx:Nat) 0) (i+1) a es.size ep->Heap.SameBut it s.heap h'->Q (some v) { s with heap:=h' })
  (hE:r=none->∀h',Heap.ExtBut it s.heap h'->Q none { s with heap:=h' }):wpAny (model prog w) A (pyNext (.ref it)) Q E s:=by
 obtain⟨oi,hoi,hci,hdi⟩:=id x
 unfold pyNext
 refine wpAny_bind (wpAny_attempt (wpAny_callSpecial?_slot (name:=Str.ofString "__next__") x.typeIs SI.slot_next (wpAny_call_entry SI.slot_next x.typeIs SI.entry_next ?_ (SI.args_next _))))
 unfold Builtin.«set_iterator.__next__»
 refine wpAny_bind (wpAny_pure ?_)
 refine wpAny_bind (wpAny_fieldsOf hoi hdi ?_)
 dsimp only
 refine wpAny_bind (setEntries_at S.at_ S.dat S.tab.fit ?_)
 rw[if_neg (by simp)]
 refine wpAny_bind (hn _ _ _ ?_)
 cases r with
 | some p =>
  obtain⟨v,nx⟩:=p
  dsimp only
  refine wpAny_bind (wpAny_setField hoi hdi (by simp) ?_)
  have h1:=Heap.get?_update_self (Obj.mapFields (·.setIfInBounds 0 (rawInt nx))) hoi (Obj.isFreed_of_fields (Obj.data_mapFields hdi _))
  have d1:=Obj.data_mapFields hdi (·.setIfInBounds 0 (rawInt nx))
  refine wpAny_bind (wpAny_setField h1 d1 (by simp) ?_)
  have h2:=Heap.get?_update_self (Obj.mapFields (·.setIfInBounds 1 (rawInt ((i:Int)+1)))) h1 (Obj.isFreed_of_fields (Obj.data_mapFields d1 _))
  refine wpAny_pure ⟨_,rfl,wpAny_pure (hQ v nx rfl _ ⟨_,h2,?_,?_⟩ ((Heap.SameBut.update ..).trans (Heap.SameBut.update ..)))⟩
  ·rw[Obj.cls_mapFields,Obj.cls_mapFields];exact hci
  ·rw[Obj.data_mapFields d1];simp[rawInt]
 | none =>
  dsimp only
  refine wpAny_bind (wpAny_setField hoi hdi (by simp) ?_)
  refine wpAny_bind ?_
  simp only[newExc,newTuple]
  refine wpAny_bind (wpAny_newObj_type ?_ (by size_fits))
  refine wpAny_bind (m:=firstArgMember _ _) (wpAny_of_eq (a:=Value.none) (by first|rfl|(simp only[firstArgMember];rfl)) ?_)
  refine wpAny_newObj_type ?_ (by size_fits)
  simp only[raiseNew]
  refine wpAny_bind (wpAny_handled ?_)
  rw[show A.in1.handled=none from hh]
  refine wpAny_bind (wpAny_pure (wpAny_throw ?_))
  refine wpAny_bind (wpAny_isInstance (T:="StopIteration") (b:=true) ⟨_,Heap.get?_push_size _ rfl,rfl⟩ isSubtype_stop ?_)
  exact wpAny_pure (hE rfl _ (((Heap.SameBut.update ..).extBut.push _).push _))
end
end L2
end
section
namespace L2
open PySem PyProof.Rows
theorem erase_perm{α:Type}:∀(l:List α) (i:Nat) (h:i<l.length),(l[i]::l.eraseIdx i).Perm l
 | x::l,0,_=>List.Perm.refl _
 | x::l,i+1,h=>by
  simp only[List.getElem_cons_succ,List.eraseIdx_cons_succ]
  exact(List.Perm.swap _ _ _).trans (List.Perm.cons x (erase_perm l i (by simpa using h)))
section
variable {prog:Program} {w:World} {A:Around} {E:Value->Shared->Prop} {s:Shared}
theorem choose_at{src:Source}{n:Nat}{Q:Nat->Shared->Prop}(hn:n≠0)(h:∀i d,i<n->Q i { s with drawn:=d }):wpAny (model prog w) A (choose src n) Q E s:=fun Γ p hΓ=>by
 show Sem.wp _ _ (Sem.choose src n Sem.pure) _ _ _ _
 rw[Sem.wp]
 exact⟨hn,h _ _ (Nat.mod_lt _ (Nat.pos_of_ne_zero hn))⟩
theorem draw_at{α:Type}:∀(n:Nat) (xs:List α) (s:Shared) (Q:List α -> Shared->Prop),xs.length=n->(∀ys d,ys.Perm xs->Q ys { s with drawn:=d })->wpAny (model prog w) A (drawOrder n xs) Q E s
 | 0,xs,s,Q,hl,h=>by
  have:xs=[]:=List.eq_nil_of_length_eq_zero hl
  subst this
  unfold drawOrder
  exact wpAny_pure (h [] s.drawn (List.Perm.refl _))
 | n+1,[],s,Q,hl,h=>by simp at hl
 | n+1,x::xs,s,Q,hl,h=>by
  unfold drawOrder
  refine wpAny_bind (choose_at (by simp) fun i d hi=>?_)
  have hx:(x::xs)[i]?=some ((x::xs)[i]):=List.getElem?_eq_getElem hi
  rw[hx]
  dsimp only
  refine wpAny_bind (draw_at n ((x::xs).eraseIdx i) _ _ (by rw[List.length_eraseIdx,if_pos hi];simp at hl |-;omega) fun ys d' p=>wpAny_pure ?_)
  exact h _ d' (((List.Perm.cons _ p).trans (erase_perm _ i hi)))
theorem step_drawn{it a td:Addr}{o oT:Obj}{es:Array (Int×Value)}{ep c:Nat}{t:SetTable}{ks:List Int}{i:Nat}{ps:List Nat}{Q:Option Value->Shared->Prop}(hh:A.handled=none)(x:SItObj s.heap it (.ref td) i a es.size ep)(S:IsSet prog w s.heap a o es ep t ks)
  (hT:s.heap.get? td=some oT) (hTd:oT.data=.seq (ps.map fun(j:Nat)=>rawInt j).toArray c) (hlt:∀j∈ps,j<es.size)
  (hQ:∀j e,ps[i]?=some j->es[j]?=some e->∀h',SItObj h' it (.ref td) (i+1) a es.size ep->Heap.SameBut it s.heap h'->Q (some e.2) { s with heap:=h' })
  (hE:ps[i]?=none->∀h',Heap.ExtBut it s.heap h'->Q none { s with heap:=h' }):wpAny (model prog w) A (pyNext (.ref it)) Q E s:=by
 obtain⟨oi,hoi,hci,hdi⟩:=id x
 unfold pyNext
 refine wpAny_bind (wpAny_attempt (wpAny_callSpecial?_slot (name:=Str.ofString "__next__") x.typeIs SI.slot_next (wpAny_call_entry SI.slot_next x.typeIs SI.entry_next ?_ (SI.args_next _))))
 unfold Builtin.«set_iterator.__next__»
 refine wpAny_bind (wpAny_pure ?_)
 refine wpAny_bind (wpAny_fieldsOf hoi hdi ?_)
 dsimp only
 refine wpAny_bind (setEntries_at S.at_ S.dat S.tab.fit ?_)
 rw[if_neg (by simp)]
 refine wpAny_bind (wpAny_seqItems hT hTd ?_)
 dsimp only
 have hg:((ps.map fun(j:Nat)=>rawInt j).toArray)[((i:Nat):Int).toNat]?=(ps[i]?).map fun(j:Nat)=>rawInt j:=by simp
 rw[hg]
 cases hp:ps[i]? with
 | some j =>
  have hj:j<es.size:=hlt j (List.mem_of_getElem? hp)
  simp only[Option.map_some,rawInt]
  refine wpAny_bind ?_
  unfold setNextDrawn
  refine wpAny_bind (wpAny_setState_of S.at_ S.dat S.tab.fit ?_)
  dsimp only
  rw[if_neg (by simp)]
  have hej:es[((j:Nat):Int).toNat]?=some es[j]:=by simp[hj]
  rw[hej]
  refine wpAny_pure ?_
  refine wpAny_bind (wpAny_setField hoi hdi (by simp) ?_)
  have h2:=Heap.get?_update_self (Obj.mapFields (·.setIfInBounds 1 (.int ((i:Int)+1) 0))) hoi (Obj.isFreed_of_fields (Obj.data_mapFields hdi _))
  refine wpAny_pure ⟨_,rfl,wpAny_pure (hQ j _ hp (Array.getElem?_eq_getElem hj) _ ⟨_,h2,?_,?_⟩ (Heap.SameBut.update ..))⟩
  ·rw[Obj.cls_mapFields];exact hci
  ·rw[Obj.data_mapFields hdi];simp
 | none =>
  simp only[Option.map_none]
  refine wpAny_bind (wpAny_setField hoi hdi (by simp) ?_)
  have h1:=Heap.get?_update_self (Obj.mapFields (·.setIfInBounds 0 (rawInt 0))) hoi (Obj.isFreed_of_fields (Obj.data_mapFields hdi _))
  have d1:=Obj.data_mapFields hdi (·.setIfInBounds 0 (rawInt 0))
  refine wpAny_bind (wpAny_setField h1 d1 (by simp) ?_)
  refine wpAny_bind ?_
  simp only[newExc,newTuple]
  refine wpAny_bind (wpAny_newObj_type ?_ (by size_fits))
  refine wpAny_bind (m:=firstArgMember _ _) (wpAny_of_eq (a:=Value.none) (by first|rfl|(simp only[firstArgMember];rfl)) ?_)
  refine wpAny_newObj_type ?_ (by size_fits)
  simp only[raiseNew]
  refine wpAny_bind (wpAny_handled ?_)
  rw[show A.in1.handled=none from hh]
  refine wpAny_bind (wpAny_pure (wpAny_throw ?_))
  refine wpAny_bind (wpAny_isInstance (T:="StopIteration") (b:=true) ⟨_,Heap.get?_push_size _ rfl,rfl⟩ isSubtype_stop ?_)
  exact wpAny_pure (hE hp _ ((((Heap.SameBut.update ..).trans (Heap.SameBut.update ..)).extBut.push _).push _))
end
end L2
end
section
namespace L2
open PySem PyProof.Rows
theorem pick_perm{α:Type}(f:Nat->Nat):∀(n k:Nat) (l:List α) (out:Array α),l.length=n->(pickOrder.go f n k l out).toList.Perm (out.toList++l)
 | 0,k,l,out,h=>by
  have:l=[]:=List.eq_nil_of_length_eq_zero h
  subst this
  unfold pickOrder.go
  simp
 | n+1,k,l,out,h=>by
  unfold pickOrder.go
  have hl:0<l.length:=by omega
  have hi:f k%l.length<l.length:=Nat.mod_lt _ hl
  rw[List.getElem?_eq_getElem hi]
  dsimp only
  refine(pick_perm f n (k+1) _ _ (by rw[List.length_eraseIdx,if_pos hi];omega)).trans ?_
  rw[Array.toList_push,List.append_assoc]
  exact List.Perm.append_left _ (erase_perm l _ hi)
theorem fits_size{t:SetTable}{n:Nat}(h:t.fits n=true):t.place.size=n:=by
 simp only[SetTable.fits,Bool.and_eq_true,beq_iff_eq] at h;exact h.1
noncomputable def slN(t:SetTable):Nat->Nat
 | 0=>0
 | i+1=>t.place.getD i 0+1
theorem slN_below{t:SetTable}(r:RsT t.place):∀i,i<=t.place.size->SetTable.below t.place (slN t i)=i
 | 0,_=>below_zero r
 | i+1,h=>by
  have hi:i<t.place.size:=h
  have e:slN t (i+1)=t.place[i]+1:=by simp[slN,Array.getD,hi]
  rw[e];exact below_next r hi
section
variable {prog:Program} {w:World} {A:Around} {E:Value->Shared->Prop} {s:Shared}
theorem IsSet.keep{h h':Heap}{a:Addr}{o:Obj}{es:Array (Int×Value)}{ep:Nat}{t:SetTable}{ks:List Int}(S:IsSet prog w h a o es ep t ks)(k:∀o,h.get? a=some o->h'.get? a=some o):IsSet prog w h' a o es ep t ks:={ S with at_:=k o S.at_ }
theorem SItObj.keep{h h':Heap}{it:Addr}{f:Value}{i:Nat}{a:Addr}{n ep:Nat}(x:SItObj h it f i a n ep)(k:∀o,h.get? it=some o->h'.get? it=some o):SItObj h' it f i a n ep:=by
 obtain⟨o,ho,r⟩:=x;exact⟨o,k o ho,r⟩
noncomputable def PL(L:List (Int×Value))(i:Nat)(v:Value):Prop:=∃e,L[i]?=some e/\v=e.2
theorem walk_slot(hh:A.handled=none){I a:Addr}{o:Obj}{es:Array (Int×Value)}{ep:Nat}{t:SetTable}{ks:List Int}(hne:a≠I)(hb:byTx w=false)(hp:(!t.plain&&decide (es.size>1))=false) :
  Walks prog w A I [I,a] [I] es.toList.length (PL es.toList) (fun i h=>IsSet prog w h a o es ep t ks/\SItObj h I (.int (slN t i) 0) i a es.size ep) where
 sub:=fun b hb=>by simp at hb;simp[hb]
 frame:=fun _ _ _ st hk=>⟨st.1.keep fun o e=>hk a (by simp) o e,st.2.keep fun o e=>hk I (by simp) o e⟩
 item:=fun i s Q E hi st hQ=>by
  have hi:i<es.size:=by simpa using hi
  have hz:=fits_size st.1.tab.fit
  have hb':=slN_below st.1.tab.rs i (by rw[hz];exact Nat.le_of_lt hi)
  refine step_num (r:=some (es[i].2,t.place.getD i 0+1)) hh st.2 st.1 (fun A E Q q=>next_slot st.1 hb hp ?_) (fun v nx e h' x' sb=>?_) (fun e=>nomatch e)
  ·rw[hb',Array.getElem?_eq_getElem hi,Array.getElem?_eq_getElem (by rw[hz];exact hi)]
   have e1:t.place[i]'(by rw[hz];exact hi)=t.place.getD i 0:=by simp[Array.getD,hz,hi]
   dsimp only
   rw[e1];exact q
  ·cases e
   exact hQ _ h' s.toks ⟨es[i],by simp[hi],rfl⟩ ⟨st.1.keep fun o e=>sb.extBut a o hne e,x'⟩ fun b o hb e=>sb.extBut b o (fun z=>hb (by simp[z])) e
 done:=fun s Q E st hQ=>by
  have hz:=fits_size st.1.tab.fit
  have hb':=slN_below st.1.tab.rs es.toList.length (by rw[hz];simp)
  refine step_num (r:=none) hh st.2 st.1 (fun A E Q q=>next_slot st.1 hb hp ?_) (fun v nx e=>nomatch e) (fun _ h' sb=>hQ h' s.toks fun b o hb e=>sb b o (fun z=>hb (by simp[z])) e)
  rw[hb',Array.getElem?_eq_none (by simp)]
  exact q
 self:=fun _ _ _ _ st hQ=>iter_self st.2 hQ
theorem walk_text(hh:A.handled=none){I a:Addr}{o:Obj}{es:Array (Int×Value)}{ep:Nat}{t:SetTable}{ks:List Int}(hne:a≠I)(hb:byTx w=true) :
  Walks prog w A I [I,a] [I] (pickOrder (w.params.setOrder a ep) es).toList.length (PL (pickOrder (w.params.setOrder a ep) es).toList) (fun i h=>IsSet prog w h a o es ep t ks/\SItObj h I (.int (0:Nat) 0) i a es.size ep) where
 sub:=fun b hb=>by simp at hb;simp[hb]
 frame:=fun _ _ _ st hk=>⟨st.1.keep fun o e=>hk a (by simp) o e,st.2.keep fun o e=>hk I (by simp) o e⟩
 item:=fun i s Q E hi st hQ=>by
  have hi:i<(pickOrder (w.params.setOrder a ep) es).size:=by simpa using hi
  refine step_num (r:=some ((pickOrder (w.params.setOrder a ep) es)[i].2,0)) hh st.2 st.1 (fun A E Q q=>next_text st.1 hb ?_) (fun v nx e h' x' sb=>?_) (fun e=>nomatch e)
  ·rw[Array.getElem?_eq_getElem hi];exact q
  ·cases e
   exact hQ _ h' s.toks ⟨(pickOrder (w.params.setOrder a ep) es)[i],by simp[hi],rfl⟩ ⟨st.1.keep fun o e=>sb.extBut a o hne e,x'⟩ fun b o hb e=>sb.extBut b o (fun z=>hb (by simp[z])) e
 done:=fun s Q E st hQ=>by
  refine step_num (r:=none) hh st.2 st.1 (fun A E Q q=>next_text st.1 hb ?_) (fun v nx e=>nomatch e) (fun _ h' sb=>hQ h' s.toks fun b o hb e=>sb b o (fun z=>hb (by simp[z])) e)
  rw[Array.getElem?_eq_none (by simp)]
  exact q
 self:=fun _ _ _ _ st hQ=>iter_self st.2 hQ
theorem walk_drawn(hh:A.handled=none){I a td:Addr}{o oT:Obj}{es:Array (Int×Value)}{ep c:Nat}{t:SetTable}{ks:List Int}{ps:List Nat}(hne:a≠I)(hnt:td≠I)(hlt:∀j∈ps,j<es.size)(hTd:oT.data=.seq (ps.map fun(j:Nat)=>rawInt j).toArray c) :
  Walks prog w A I [I,a,td] [I] ps.length (PL (ps.map fun j=>es.getD j (0,.none))) (fun i h=>IsSet prog w h a o es ep t ks/\SItObj h I (.ref td) i a es.size ep/\h.get? td=some oT) where
 sub:=fun b hb=>by simp at hb;simp[hb]
 frame:=fun _ _ _ st hk=>⟨st.1.keep fun o e=>hk a (by simp) o e,st.2.1.keep fun o e=>hk I (by simp) o e,hk td (by simp) _ st.2.2⟩
 item:=fun i s Q E hi st hQ=>by
  refine step_drawn hh st.2.1 st.1 st.2.2 hTd hlt (fun j e hj he h' x' sb=>?_) (fun hn=>absurd hn (by rw[List.getElem?_eq_getElem hi];simp))
  refine hQ _ h' s.toks ⟨e,?_,rfl⟩ ⟨st.1.keep fun o e=>sb.extBut a o hne e,x',sb.extBut td _ hnt st.2.2⟩ fun b o hb e=>sb.extBut b o (fun z=>hb (by simp[z])) e
  rw[List.getElem?_map,hj]
  have hjl:j<es.size:=(Array.getElem?_eq_some_iff.mp he).1
  have:=(Array.getElem?_eq_some_iff.mp he).2
  simp[Array.getD,hjl,this]
 done:=fun s Q E st hQ=>step_drawn hh st.2.1 st.1 st.2.2 hTd hlt (fun j e hj=>absurd hj (by simp)) (fun _ h' sb=>hQ h' s.toks fun b o hb e=>sb b o (fun z=>hb (by simp[z])) e)
 self:=fun _ _ _ _ st hQ=>iter_self st.2.1 hQ
end
end L2
end
section
namespace L2
open PySem PyProof.Rows
section
variable {prog:Program} {w:World} {A:Around} {E:Value->Shared->Prop} {s:Shared}
theorem drawn_at{a:Addr}{o:Obj}{es:Array (Int×Value)}{ep:Nat}{t:SetTable}{ks:List Int}{Q:Bool->Shared->Prop}(S:IsSet prog w s.heap a o es ep t ks)(h:Q (!byTx w&&(!t.plain&&decide (es.size>1))) s):wpAny (model prog w) A (setDrawn a) Q E s:=by
 unfold setDrawn
 refine wpAny_bind (wpAny_setState_of S.at_ S.dat S.tab.fit ?_)
 dsimp only
 exact wpAny_bind (byText_at (wpAny_pure h))
theorem epoch_at{a:Addr}{o:Obj}{es:Array (Int×Value)}{ep:Nat}{t:SetTable}{ks:List Int}{Q:Nat->Shared->Prop}(S:IsSet prog w s.heap a o es ep t ks)(h:Q ep s):wpAny (model prog w) A (setEpoch a) Q E s:=wpAny_setEpoch_of S.at_ S.dat S.tab.fit h
theorem set_iter(hh:A.handled=none){a:Addr}{o:Obj}{es:Array (Int×Value)}{ep:Nat}{t:SetTable}{ks:List Int}(S:IsSet prog w s.heap a o es ep t ks){Q:Value->Shared->Prop}
  (hQ:∀(h':Heap) d (I:Addr) (fp:List Addr) (L:List (Int×Value)) (St:Nat->Heap->Prop),L.Perm es.toList->Walks prog w A I fp [I] L.length (PL L) St->St 0 h'->s.heap.objs.size<=I->I<h'.objs.size->(∀b∈fp,b=a\/s.heap.objs.size<=b)->(∀b o,s.heap.get? b=some o->h'.get? b=some o)->Q (.ref I) { s with heap:=h',drawn:=d }) :
  wpAny (model prog w) A (pyIter (.ref a)) Q E s:=by
 have hT:s.TypeIs (.ref a) "set":=⟨o,S.at_,S.ex.1⟩
 have hlt:a<s.heap.objs.size:=Heap.lt_size S.at_
 refine wpAny_pyIter_slot hT PySem.F.slot_set_iter (wpAny_call_entry PySem.F.slot_set_iter hT SI.entry_iter ?_ (PySem.F.args_set_iter_1 _))
 unfold Builtin.«frozenset.__iter__» Builtin.Frozenset.slot0 Builtin.Frozenset.sizeOf
 refine wpAny_bind (wpAny_bind (wpAny_pure (wpAny_pure ?_)))
 refine wpAny_bind (wpAny_bind (setEntries_at S.at_ S.dat S.tab.fit (wpAny_pure ?_)))
 refine wpAny_bind (drawn_at S ?_)
 cases hd:(!byTx w&&(!t.plain&&decide (es.size>1))) with
 | false =>
  simp only[Bool.false_eq_true,↓reduceIte]
  refine wpAny_bind (wpAny_pure ?_)
  refine wpAny_bind (epoch_at S ?_)
  refine wpAny_bind (wpAny_newObj_type (wpAny_pure ⟨_,rfl,"set_iterator",_,⟨_,Heap.get?_push_size _ rfl,rfl⟩,SI.slot_next.lookup,?_⟩))
  have e:s={ s with drawn:=s.drawn }:=by cases s;rfl
  have fpk:∀b∈[s.heap.objs.size,a],b=a\/s.heap.objs.size<=b:=fun b hb=>by
   simp only[List.mem_cons,List.not_mem_nil,or_false] at hb
   rcases hb with rfl|rfl
   ·exact .inr (Nat.le_refl _)
   ·exact .inl rfl
  have sz:s.heap.objs.size<(s.heap.push { cls:=.type "set_iterator",data:=.fields ([rawInt 0,rawInt 0,.ref a,rawInt es.size,rawInt ep]:List Value).toArray }).objs.size:=by rw[Heap.size_push];exact Nat.lt_succ_self _
  cases hb:byTx w with
  | true =>
   exact hQ _ s.drawn _ _ _ _ (pick_perm _ _ 0 es.toList #[] (by simp)) (walk_text hh (Nat.ne_of_lt hlt) hb) ⟨S.keep fun o e=>Heap.get?_push_of_some _ e,⟨_,Heap.get?_push_size _ rfl,rfl,rfl⟩⟩ (Nat.le_refl _) sz fpk fun b o e=>Heap.get?_push_of_some _ e
  | false =>
   rw[hb] at hd
   exact hQ _ s.drawn _ _ _ _ (List.Perm.refl _) (walk_slot hh (Nat.ne_of_lt hlt) hb (by simpa using hd)) ⟨S.keep fun o e=>Heap.get?_push_of_some _ e,⟨_,Heap.get?_push_size _ rfl,rfl,rfl⟩⟩ (Nat.le_refl _) sz fpk fun b o e=>Heap.get?_push_of_some _ e
 | true =>
  simp only[↓reduceIte]
  refine wpAny_bind (draw_at es.size (List.range es.size) s _ (by simp) fun ps d pp=>?_)
  refine wpAny_bind ?_
  simp only[newTuple]
  refine wpAny_newObj_type ?_ (by show (List.toArray _).size<=sizeLine;rw[List.size_toArray,List.length_map,pp.length_eq,List.length_range];exact fits_of_scanBound S.tab.few)
  have S1:IsSet prog w (s.heap.push { cls:=.type "tuple",data:=.seq (ps.map fun(i:Nat)=>rawInt i).toArray }) a o es ep t ks:=S.keep fun o e=>Heap.get?_push_of_some _ e
  refine wpAny_bind (epoch_at S1 ?_)
  refine wpAny_bind (wpAny_newObj_type (wpAny_pure ⟨_,rfl,"set_iterator",_,⟨_,Heap.get?_push_size _ rfl,rfl⟩,SI.slot_next.lookup,?_⟩))
  have hpl:∀j∈ps,j<es.size:=fun j hj=>by simpa using pp.mem_iff.mp hj
  have perm:(ps.map fun j=>es.getD j (0,Value.none)).Perm es.toList:=by
   have e2:(List.range es.size).map (fun j=>es.getD j (0,Value.none))=es.toList:=by
    apply List.ext_getElem
    ·simp
    ·intro i h1 h2
     have hi:i<es.size:=by simpa using h2
     simp[Array.getD,hi]
   rw[<-e2];exact pp.map _
  have z1:(s.heap.push { cls:=.type "tuple",data:=.seq (ps.map fun(i:Nat)=>rawInt i).toArray }).objs.size=s.heap.objs.size+1:=Heap.size_push _ _
  have W:=walk_drawn (prog:=prog) (w:=w) (A:=A) (o:=o) (ep:=ep) (t:=t) (ks:=ks) hh (I:=s.heap.objs.size+1) (a:=a) (td:=s.heap.objs.size) (oT:={ cls:=.type "tuple",data:=.seq (ps.map fun(i:Nat)=>rawInt i).toArray }) (es:=es) (c:=0) (ps:=ps) (Nat.ne_of_lt (Nat.lt_succ_of_lt hlt)) (Nat.ne_of_lt (Nat.lt_succ_self _)) hpl rfl
  rw[show ps.length=(ps.map fun j=>es.getD j (0,Value.none)).length by simp] at W
  rw[z1]
  refine hQ _ d _ _ _ _ perm W ⟨S1.keep fun o e=>Heap.get?_push_of_some _ e,⟨{ cls:=.type "set_iterator",data:=.fields ([.ref s.heap.objs.size,rawInt 0,.ref a,rawInt es.size,rawInt ep]:List Value).toArray },?_,rfl,rfl⟩,Heap.get?_push_of_some _ (Heap.get?_push_size _ rfl)⟩ (Nat.le_succ _) ?_ ?_ fun b o e=>Heap.get?_push_of_some _ (Heap.get?_push_of_some _ e)
  ·rw[<-z1];exact Heap.get?_push_size _ rfl
  ·rw[Heap.size_push,z1];exact Nat.lt_succ_self _
  ·intro b hb
   simp only[List.mem_cons,List.not_mem_nil,or_false] at hb
   rcases hb with rfl|rfl|rfl
   ·exact .inr (Nat.le_succ _)
   ·exact .inl rfl
   ·exact .inr (Nat.le_refl _)
end
end L2
end
section
namespace L2
open PySem PyProof.Rows
section
variable {prog:Program} {w:World} {A:Around} {E:Value->Shared->Prop} {s:Shared}
theorem hint_set{r:Addr}{Q:Bool->Shared->Prop}(hT:s.TypeIs (.ref r) "set")(h:Q false s):wpAny (model prog w) A (Builtin.List.listLengthHint (.ref r)) Q E s:=by
 unfold Builtin.List.listLengthHint
 refine wpAny_bind (wpAny_specialOf hT PySem.F.slot_set_len.lookup ?_)
 generalize hid:("set.__len__":String)=id0
 wp_delta
 rw[show splitId id0=some ("set","__len__") from by subst hid;decide +kernel]
 subst hid
 refine wpAny_bind (wpAny_isInstance (T:="set") (b:=true) hT sub_set_self ?_)
 refine wpAny_ite_split (fun z=>absurd z (by decide)) (fun _=>?_)
 refine wpAny_ite_split (fun _=>?_) (fun z=>absurd (by decide +kernel) z)
 exact wpAny_bind (wpAny_typeOf hT (wpAny_pure h))
theorem collect_set(hh:A.handled=none){a:Addr}{o:Obj}{es:Array (Int×Value)}{ep:Nat}{t:SetTable}{ks:List Int}(S:IsSet prog w s.heap a o es ep t ks){R:List Value->Shared->Prop}
  (h:∀(h':Heap) (tk:Nat) d (L:List (Int×Value)),(∀b o,s.heap.get? b=some o->h'.get? b=some o)->s.heap.objs.size<h'.objs.size->L.Perm es.toList->R (L.map (·.2)) { s with heap:=h',toks:=tk,drawn:=d }) :
  wpAny (model prog w) A (collect (.ref a)) R E s:=by
 have hlt:a<s.heap.objs.size:=Heap.lt_size S.at_
 unfold collect
 refine wpAny_bind (wpAny_runValue (codeAny_builtin entry_proto_collect' ?_))
 rw[Around.under_plainId PySem.F.plain_proto_collect _]
 show wpAny _ A.in1 (newList [] >>= fun l=>again (.builtin "list.__iadd__" ⟨[l,.ref a],[]⟩)) _ _ s
 refine wpAny_bind (wpAny_newObj_type ?_)
 refine wpAny_pure ⟨plainId_quiet PySem.F.plain_list_iadd _,codeAny_builtin entry_list_iadd' ?_⟩
 rw[Around.under_plainId PySem.F.plain_list_iadd _]
 let s1:Shared:={ s with heap:=s.heap.push { cls:=.type "list",data:=.seq ([]:List Value).toArray } }
 have l1:s1.heap.get? s.heap.objs.size=some { cls:=.type "list",data:=.seq #[] }:=Heap.get?_push_size _ rfl
 have S1:IsSet prog w s1.heap a o es ep t ks:=S.keep fun o e=>Heap.get?_push_of_some _ e
 have z1:s1.heap.objs.size=s.heap.objs.size+1:=Heap.size_push _ _
 have hT:s1.TypeIs (.ref a) "set":=⟨o,S1.at_,S1.ex.1⟩
 show wpAny _ A.in1 (Builtin.List.listExtendWith (.ref s.heap.objs.size) (.ref a) (.ref s.heap.objs.size)) _ _ s1
 unfold Builtin.List.listExtendWith
 refine wpAny_bind (wpAny_typeOf hT ?_)
 have n1:Builtin.List.listSameRef (.ref s.heap.objs.size) (.ref a)=false:=by simp[Builtin.List.listSameRef,Nat.ne_of_gt hlt]
 simp only[n1,show (Value.type "set" == Value.type "list")=false by decide,show (Value.type "set" == Value.type "tuple")=false by decide,Bool.or_false,Bool.false_eq_true,if_false]
 refine wpAny_bind (set_iter (A:=A.in1) (by simp[hh]) S1 fun h2 d I fp L St perm W st zI zI2 hfp k2=>?_)
 have l2:h2.get? s.heap.objs.size=some { cls:=.type "list",data:=.seq #[] }:=k2 _ _ l1
 have nfp:s.heap.objs.size∉fp:=fun z=>by
  rcases hfp _ z with e|e
  ·exact absurd e (Nat.ne_of_gt hlt)
  ·rw[z1] at e;exact absurd e (Nat.not_succ_le_self _)
 have hl:L.length<=sizeLine:=by rw[perm.length_eq,Array.length_toList];exact fits_of_scanBound S.tab.few
 have key:∀(hp:Heap) (c₁:Nat) (Rr:Result->Shared->Prop),St 0 hp->(∀b o,b≠s.heap.objs.size->h2.get? b=some o->hp.get? b=some o)->hp.get? s.heap.objs.size=some { cls:=.type "list",data:=.seq #[] c₁ } ->
   (∀(s':Shared) (acc:Array Value) (c:Nat),s'.heap.get? s.heap.objs.size=some { cls:=.type "list",dict:=none,data:=.seq acc c,slots:=#[] }->R acc.toList s'->Rr (.ok (.ret (.ref s.heap.objs.size))) s') ->
   codeAny (model prog w) A (.builtin "list.extend.loop" ⟨[.ref s.heap.objs.size,.ref I,.ref s.heap.objs.size],[]⟩) Rr { s1 with heap:=hp,drawn:=d }:=by
  intro hp c₁ Rr hst hk hS hR
  refine codeAny_extend_loopS W.toS hl s.heap.objs.size nfp (.ref s.heap.objs.size) L.length 0 _ #[] c₁ rfl (Nat.zero_le _) hst hS (ItemsOf.nil _) fun s' acc c hm hS' hacc=>?_
  refine hR s' acc c hS' ?_
  have ea:acc.toList=L.map (·.2):=by
   apply List.ext_getElem
   ·rw[Array.length_toList,hacc.1,List.length_map]
   ·intro j h1 h2
    have hj:j<acc.size:=by simpa using h1
    obtain⟨e,he,hv⟩:=hacc.2 j acc[j] (Array.getElem?_eq_getElem hj)
    rw[Array.getElem_toList,hv,List.getElem_map]
    obtain⟨hj2,e2⟩:=List.getElem?_eq_some_iff.mp he
    rw[e2]
  rw[ea,Moved.eq_with hm]
  refine h s'.heap s'.toks d L (fun b o e=>?_) (Heap.lt_size hS') perm
  have hb:b<s.heap.objs.size:=Heap.lt_size e
  refine hm.heap b o (fun z=>?_) (hk b o (Nat.ne_of_lt hb) (k2 b o (Heap.get?_push_of_some _ e)))
  rcases List.mem_cons.mp z with z|z
  ·exact absurd z (Nat.ne_of_lt hb)
  ·rw[List.mem_singleton] at z;rw[z] at hb;rw[z1] at zI;exact absurd (Nat.lt_of_lt_of_le hb (Nat.le_of_succ_le zI)) (Nat.lt_irrefl _)
 have fin:∀(s':Shared) (acc:Array Value) (c:Nat),s'.heap.get? s.heap.objs.size=some { cls:=.type "list",dict:=none,data:=.seq acc c,slots:=#[] }->R acc.toList s'->wpAny (model prog w) A (load s.heap.objs.size >>= fun ob=>(match ob.data with|.seq xs _=>pure xs.toList|_=>unsupported "internal:collect")) R E s':=fun s' acc c e q=>wpAny_bind (wpAny_load e (wpAny_pure q))
 refine wpAny_bind (wpAny_holding (hint_set ⟨o,k2 _ _ S1.at_,S1.ex.1⟩ ?_))
 refine wpAny_ite_split (fun _=>?_) (fun _=>wpAny_pure ⟨plainId_quiet PySem.F.plain_extend_loop _,key _ 0 _ st (fun b o _ e=>e) l2 fin⟩)
 refine wpAny_bind (wpAny_rule ?_)
 refine wpAny_bind ?_
 show wpAny _ _ (updateSeq s.heap.objs.size (·.push .none) >>= fun _=>updateSeq s.heap.objs.size (·.pop)) _ _ _
 refine wpAny_bind (wpAny_updateSeq l2 rfl ?_)
 have l3:=Heap.get?_update_self (Obj.mapSeq (·.push Value.none)) l2 rfl
 refine wpAny_updateSeq (hz:=by seq_fits) l3 rfl ?_
 have l4:=Heap.get?_update_self (Obj.mapSeq (·.pop)) l3 rfl
 have oth:∀b o,b≠s.heap.objs.size->h2.get? b=some o->((h2.update s.heap.objs.size (Obj.mapSeq (·.push Value.none))).update s.heap.objs.size (Obj.mapSeq (·.pop))).get? b=some o:=fun b o hb e=>(Heap.get?_update_other _ _ (Ne.symm hb)).trans ((Heap.get?_update_other _ _ (Ne.symm hb)).trans e)
 exact wpAny_pure ⟨plainId_quiet PySem.F.plain_extend_loop _,key _ _ _ (W.frame 0 _ _ st fun b hb o e=>oth b o (fun z=>nfp (z▸hb)) e) oth l4 fin⟩
end
end L2
end
section
namespace L2
open PySem PyProof.Rows
theorem sub_perm:∀(ks ns:List Int),ks.Nodup->(∀k∈ks,k∈ns)->ks.length=ns.length->ks.Perm ns
 | [],ns,_,_,h=>by
  have:ns=[]:=List.eq_nil_of_length_eq_zero h.symm
  subst this;exact List.Perm.refl _
 | k::ks,ns,nd,hs,hl=>by
  have hk:=hs k List.mem_cons_self
  have nd':=List.nodup_cons.mp nd
  have p:=List.perm_cons_erase hk
  refine(List.Perm.cons k (sub_perm ks (ns.erase k) nd'.2 (fun x hx=>?_) ?_)).trans p.symm
  ·exact(List.mem_erase_of_ne fun z=>nd'.1 (by rw[<-z];exact hx)).mpr (hs x (List.mem_cons_of_mem _ hx))
  ·rw[List.length_erase_of_mem hk]
   simp only[List.length_cons] at hl
   omega
noncomputable def intV:Value->Int
 | .int i _=>i
 | _=>0
section
variable {prog:Program} {w:World} {A:Around} {E:Value->Shared->Prop} {s:Shared}
theorem ints_elems:∀{L:List (Int×Value)},ElemsOf (intKind prog w) L->IntsAre (L.map (·.2)) (L.map fun e=>intV e.2)
 | [],_=>.nil
 | (h,v)::L,el=>by
  obtain⟨⟨k,hk,_⟩,_⟩:=el _ List.mem_cons_self
  obtain⟨t,e⟩:=Value.isInt_shape (k:=k) (v:=v) hk
  subst e
  exact .cons k t (ints_elems fun x hx=>el x (List.mem_cons_of_mem _ hx))
theorem set_perm{h:Heap}{a:Addr}{o:Obj}{es:Array (Int×Value)}{ep:Nat}{t:SetTable}{ks:List Int}(S:IsSet prog w h a o es ep t ks){L:List (Int×Value)}(p:L.Perm es.toList):(L.map fun e=>intV e.2).Perm ks:=by
 refine(sub_perm ks _ S.nod (fun k hk=>?_) ?_).symm
 ·obtain⟨e,he,q⟩:=(S.mem k).mp hk
  obtain⟨t',ev⟩:=Value.isInt_shape (k:=k) (v:=e.2) q
  exact List.mem_map.mpr ⟨e,p.mem_iff.mpr he,by rw[ev];rfl⟩
 ·have:=S.num;rw[List.length_map,p.length_eq,Array.length_toList];exact this.symm
theorem sorted_set(hh:A.handled=none){a:Addr}{o:Obj}{es:Array (Int×Value)}{ep:Nat}{t:SetTable}{ks:List Int}(S:IsSet prog w s.heap a o es ep t ks)(h64:ks.length<64){Q:Value->Shared->Prop}
  (hQ:∀(h':Heap) (tk:Nat) d (D:Addr) (out:List Value) (e:Nat),(∀b o,s.heap.get? b=some o->h'.get? b=some o)->s.heap.objs.size<=D->h'.get? D=some (seqObj "list" out.toArray e)->IntsAre out (PySem.W.sortI ks)->Q (.ref D) { s with heap:=h',toks:=tk,drawn:=d }) :
  wpAny (model prog w) A (call (.builtin "sorted") [.ref a]) Q E s:=by
 refine Srt.call_sorted_of (O:=Srt.intOrd) (collect_set (A:=A.in1) (by simp[hh]) S fun h' tk d L hk hz perm=>?_)
 have el:ElemsOf (intKind prog w) L:=S.el.perm perm
 have hI:=ints_elems el
 have pk:=set_perm S perm
 have hl:(L.map (·.2)).length<64:=by rw[List.length_map];have:=pk.length_eq;rw[List.length_map] at this;omega
 refine⟨hl,fun i=>(L.map fun e=>intV e.2).getD i 0,fun h2 h6 _=>Srt.askOk_ints hI h2,fun p h'' outs k2 he=>?_⟩
 obtain⟨e,he⟩:=he
 have lv:(L.map (·.2)).length=(L.map fun e=>intV e.2).length:=by rw[List.length_map,List.length_map]
 have mem:∀i∈p,i<L.length:=fun i hi=>by have:=outs.perm.mem_iff.mp hi;simpa using this
 have pn:(p.map fun i=>(L.map fun e=>intV e.2).getD i 0).Perm ks:=by
  have:=outs.perm.map fun i=>(L.map fun e=>intV e.2).getD i 0
  rw[lv,Srt.map_getD_range] at this
  exact this.trans pk
 have up:(p.map fun i=>(L.map fun e=>intV e.2).getD i 0).Pairwise (· <= ·):=by
  refine List.Pairwise.imp (R:=Srt.intOrd.kle) (fun {x y:Int} hxy=>?_) outs.up
  have hxy:(decide (y<x):Bool)=false:=hxy
  exact Int.not_lt.mp (of_decide_eq_false hxy)
 have es:=PySem.W.eq_sortI pn up
 refine hQ h'' tk d h'.objs.size _ e (fun b o z=>k2 b o (hk b o z)) (Nat.le_of_lt hz) he ?_
 rw[<-es]
 clear he es up pn outs
 induction p with
 | nil=>exact .nil
 | cons i r ih =>
  have hi:=mem i List.mem_cons_self
  have hi2:i<(L.map (·.2)).length:=by simpa using hi
  obtain⟨t',ev⟩:=IntsAre.int_at hI i _ (List.getElem?_eq_getElem hi2)
  rw[List.map_cons,List.map_cons]
  have e1:(L.map (·.2)).getD i Value.none=.int ((L.map fun e=>intV e.2).getD i 0) t':=by
   rw[<-ev];simp[List.getD,List.getElem?_eq_getElem hi]
  rw[e1]
  exact .cons _ t' (ih fun j hj=>mem j (List.mem_cons_of_mem _ hj))
end
end L2
end
section
namespace L2
open PySem PySem.Spec PyProof.Rows
section
variable {X:Cx}
theorem Inv.draws{pins:List (Addr×Obj)}{σ:St}{H:Hp}{s:Shared}(I:Inv X pins σ H s)(d:Drawn):Inv X pins σ H { s with drawn:=d }:=⟨I.ok,I.os,I.bare,I.base,I.loc,I.cell,I.free,I.freeC,I.pin,I.hok,I.len⟩
noncomputable def tSS(K:PySem.W.Frag)(te:TE):TE:=fun σ H Q=>te σ H fun x H1=>∃p ns,x=.ref p/\SqL K H1 p (ns.map V.int)/\ns.length<64/\∀l,H1 l=none->Q (.ref l) (upd H1 l (.lst ((PySem.W.sortI (newK [] ns)).map V.int)))
theorem newK_len:∀(ns ks:List Int),(newK ks ns).length<=ks.length+ns.length
 | [],ks=>by simp[newK]
 | n::ns,ks=>by
  rw[newK,List.length_cons]
  have:=newK_len ns (addK ks n)
  have:=addK_len ks n
  omega
theorem pe_sset{e:Expr}{te:TE}{p1 p2 pos1 pos2:Pos}(hh:X.A.handled=none)(hg:Gl X "sorted")(hm:X.mg "sorted" = none)(hg2:Gl X "set")(hm2:X.mg "set" = none)(hv:bootBuiltins "sorted" = some (.builtin "sorted"))(hv2:bootBuiltins "set" = some (.type "set"))(he:PE X e te)
  (hs:starEach [e] X.env=[(false,eval e X.env)]):PE X (.Call (.Name "sorted" p1) [.Call (.Name "set" p2) [e] [] pos2] [] pos1) (tSS X.K te):=by
 intro pins s σ H Q I h
 refine wpAny_Call_Name_kw (ld_blt I hg hm hv ?_ (by decide) (by decide))
 refine PyProof.Rows.callWith_builtin1 ?_ rfl rfl
 show wpAny _ _ (spliced [(false,eval (.Call (.Name "set" p2) [e] [] pos2) X.env)]) _ _ s
 refine Calls.spliced_cons ?_
 refine wpAny_Call_Name_kw (ld_blt I hg2 hm2 hv2 ?_ (by decide) (by decide))
 refine PyProof.Rows.callWith_type1 ?_ hs rfl
 show wpAny _ _ (spliced (backTo pos2 (starEach [e] X.env))) _ _ s
 rw[hs]
 show wpAny _ _ (spliced [(false,eval e X.env)]) _ _ s
 refine Calls.spliced_cons (thn (he pins s σ H _ I h) fun u s1 ⟨x,H1,I1,r1,p,ns,ex,hq,h64,q⟩=>Calls.spliced_nil ?_)
 subst ex
 cases r1
 obtain⟨its,rv,pl,hz⟩:=I1.list hq
 have hi:=intsAre_of rv
 have hl:=hi.length
 refine set_of_list hh pl.isList (by simpa using hi) (by show its.toArray.size+1<4096;rw[List.size_toArray,hl];omega) fun h2 tk S k2=>?_
 obtain⟨o,es,ep,t,S⟩:=S
 refine Calls.spliced_nil ?_
 have hk:=newK_len ns []
 have hk64:(newK [] ns).length<64:=by simp at hk;omega
 refine sorted_set (s:={ s1 with heap:=h2,toks:=tk }) hh S hk64 fun h3 tk3 d D out e k3 zD eD hout=>?_
 have hD:s1.heap.objs.size<=D:=Nat.le_trans (Nat.le_of_lt (Heap.lt_size S.at_)) zD
 have hn:H1 D=none:=I1.hok.fresh hD
 refine⟨.ref D,_,(I1.draws d).laid (t':=tk3) (fun b o z=>k3 b o (k2 b o (Heap.lt_size z) z)) hD (show ObjOk X.prog X.w _ _ _ (.lst ((PySem.W.sortI (newK [] ns)).map V.int)) from⟨?_,out,e,vals_ints hout,eD⟩),rfl,q _ hn⟩
 rw[List.length_map,(PySem.W.sortI_perm _).length_eq,sizeLine_eq];omega
end
end L2
end
section
namespace L2
open PySem PySem.Spec PyProof.Rows PySem.W
section
variable {X:Cx}
noncomputable def tLK(to:TE):TE:=fun σ H Q=>to σ H fun x H1=>∃a kvs,x=.ref a/\H1 a=some (.dK kvs)/\∀l,H1 l=none->Q (.ref l) (upd H1 l (.lst (kvs.map fun kv=>kV kv.1)))
theorem kV_rel{P:Program}{w:World}{k:Key}{u:Value}(e:(mixKind P w).is k u=true):RelV (kV k) u:=by
 rw[mixKind_is] at e
 rcases keyIs_shape e with ⟨i,t,rfl,rfl⟩|⟨x,t,rfl,rfl⟩
 ·exact⟨t,rfl⟩
 ·exact⟨t,rfl⟩
theorem keys_vals{P:Program}{w:World}:∀{kvs:List (Key×V)} {vs:List (Key×Value)} {out:List Value},KV kvs vs->out.length=vs.length->(∀(j:Nat) (v:Value),out[j]?=some v->∃(k:Key) (x:Value),vs[j]?=some (k,x)/\(mixKind P w).is k v=true)->Vals (kvs.map fun kv=>kV kv.1) out
 | [],vs,out,r,hl,h=>by
  cases r
  cases out with
  | nil=>exact .nil
  | cons _ _=>simp at hl
 | p::kvs,vs,out,r,hl,h=>by
  cases r with
  | @cons _ q _ qs hq t =>
   cases out with
   | nil=>simp at hl
   | cons v out =>
    obtain⟨k,x,e1,e2⟩:=h 0 v rfl
    simp at e1
    refine .cons ?_ (keys_vals t (by simpa using hl) fun j u hu=>h (j+1) u hu)
    have:p.1=k:=by rw[hq.1,e1]
    show RelV (kV p.1) v
    rw[this]
    exact kV_rel e2
end
end L2
end
section
namespace L2
open PySem PySem.Spec PyProof.Rows PySem.W
section
variable {X:Cx} {pins:List (Addr×Obj)} {σ:St} {H:Hp} {s:Shared} {a:Addr} {kvs:List (Key×V)} {k:Key} {u r:Value} {z:V} {A:Around} {E:Value->Shared->Prop}
end
end L2
end
section
namespace L2
open PySem PySem.Spec PyProof.Rows
section
open PySem.AutoSeq1 (wpAny_loadPart')
open PySem.MeetsSeq PySem.MeetsSeq3
end
end L2
end
section
namespace L2
open PySem PySem.Spec PyProof.Rows PySem.W
section
variable {X:Cx}
end
end L2
end
section
namespace L2
open PySem PySem.Spec PyProof.Rows PySem.W
section
variable {X:Cx}
end
end L2
end
section
namespace L2
open PySem PySem.Spec PyProof.Rows PySem.W
section
variable {X:Cx}
noncomputable def tSK(to:TE):TE:=fun σ H Q=>to σ H fun x H1=>∃(a:Addr) (kvs:List (Key×V)) (ns:List Int),x=.ref a/\H1 a=some (.dK kvs)/\kvs.map (·.1)=ns.map Sum.inl/\ns.length<64/\∀l,H1 l=none->Q (.ref l) (upd H1 l (.lst ((PySem.W.sortI ns).map V.int)))
theorem pick_ints{vs:List Value}{ns:List Int}(hI:IntsAre vs ns):∀(p:List Nat),(∀i∈p,i<ns.length)->IntsAre (p.map fun i=>vs.getD i Value.none) (p.map fun i=>ns.getD i 0)
 | [],_=>.nil
 | i::r,mem=>by
  have hi:=mem i List.mem_cons_self
  have hi2:i<vs.length:=by rw[hI.length];exact hi
  obtain⟨t',ev⟩:=IntsAre.int_at hI i _ (List.getElem?_eq_getElem hi2)
  rw[List.map_cons,List.map_cons]
  have e1:vs.getD i Value.none=.int (ns.getD i 0) t':=by
   rw[<-ev];simp[List.getD,List.getElem?_eq_getElem hi2]
  rw[e1]
  exact .cons _ t' (pick_ints hI r fun j hj=>mem j (List.mem_cons_of_mem _ hj))
end
end L2
end
section
namespace L2
open PySem PySem.Spec PyProof.Rows
end L2
end
section
namespace L2
open PySem PySem.Spec PyProof.Rows
section
variable {X:Cx}
theorem eval_meth{M:Model}{A:Around}{E:Value->Shared->Prop}{s:Shared}{env:Env}{o:Expr}{m:Str}{ap cp:Pos}{args:List Expr}{Q:Value->Shared->Prop}
  (hbase:attributeBase o m env (eval o env)=eval o env)
  (hfew:((backTo cp (starEach args env)).all (fun x=>!x.1)&&(backToKw cp (keywordEach [] env)).all (fun x=>x.1.isSome)
   && decide (args.length+([]:List Keyword).length+(if ([]:List Keyword).isEmpty then 0 else 1)<30))=true) (hline:(ap.endLine==cp.line)=true)
  (h:wpAny M A (eval o env) (fun ov s₁=>∀pl,wpAny M A (getMethod ov m pl) (fun fx s₂=>wpAny M A (callWith cp fx.1 fx.2 (backTo cp (starEach args env)) (backToKw cp (keywordEach [] env))) Q E s₂) E s₁) E s) :
  wpAny M A (eval (.Call (.Attribute o m ap) args [] cp) env) Q E s:=by
 rw[arm_eval_Call,hbase]
 refine wpAny_bind (wpAny_mono h (fun ov s₁ h₁=>?_) fun _ _ e=>e)
 refine wpAny_bind (wpAny_standAt ?_)
 have hform:methodCallForm (args.length+([]:List Keyword).length) (backTo cp (starEach args env)) (backToKw cp (keywordEach [] env))=true:=hfew
 have hpos:methodCallPos true o env ap cp=pure cp:=by unfold methodCallPos;simp[hline]
 unfold methodCall
 rw[hform]
 refine wpAny_bind (wpAny_holding (wpAny_mono (h₁ _) (fun fx s₂ h₂=>?_) fun _ _ e=>e))
 exact wpAny_bind (wpAny_of_eq hpos h₂)
theorem pe_mthD{k:Nat}{o l:Expr}{m:Str}{ap cp:Pos}{ls:List Expr}{ta:TE}{t:TA}(he:PE X o ta)(ha:PA X (l::ls) t)(hbase:attributeBase o m X.env (eval o X.env)=eval o X.env)
  (hfew:((backTo cp (starEach (l::ls) X.env)).all (fun x=>!x.1)&&(backToKw cp (keywordEach [] X.env)).all (fun x=>x.1.isSome)
   && decide ((l::ls).length+([]:List Keyword).length+(if ([]:List Keyword).isEmpty then 0 else 1)<30))=true) (hline:(ap.endLine==cp.line)=true) (hr:Room k X.A)
  (st:starEach (l::ls) X.env=(false,eval l X.env)::starEach ls X.env) (an:(backTo cp (starEach ls X.env)).any (·.1)=false) :
  PE X (.Call (.Attribute o m ap) (l::ls) [] cp) (fun σ H Q=>ta σ H fun x H1=>∃a C dx fs f fd ps sp,x=.ref a/\H1 a=some (.ins C dx fs)/\Cls X.K C/\Meth X.K C m f/\fs.lookup m=none/\Binds X.K fd ps [] /\
   FnOk X.prog X.w X.K X.mg X.base CX0 k f fd ps sp/\t σ H1 fun vs H2=>sp (x::vs) H2 Q E0):=by
 intro pins s σ H Q I h
 refine eval_meth hbase hfew hline (thn (he pins s σ H _ I h) fun u s1 zz0 pl=>?_)
 obtain⟨x,H1,I1,rx,a,C,dx,fs,f,fd,ps,sp,ex,ea,c,hm,ln,hb,F,q⟩:=zz0
 subst ex
 obtain rfl:u=Value.ref a:=rx
 refine getmeth_ok I1 ea c hm ln ?_
 refine PySem.W.callWith_K (first:=[.ref a]) (h₀:=X.base) I.ok.mod.kin hm.kp (thn (ha cp pins s1 σ H1 _ I1 q) fun us s2 ⟨vs,H2,I2,r,q2⟩=>⟨I2.kIn,?_⟩) st an
 exact run_fn (us:=.ref a::us) (vs:=.ref a::vs) (dvs:=[]) (ds:=[]) F hr hb .nil pass0 I2 (.cons rfl r) (by rw[List.append_nil];exact q2)
theorem pe_mth0{k:Nat}{o:Expr}{m:Str}{ap cp:Pos}{ta:TE}(he:PE X o ta)(hbase:attributeBase o m X.env (eval o X.env)=eval o X.env)
  (hline:(ap.endLine==cp.line)=true) (hr:Room k X.A) :
  PE X (.Call (.Attribute o m ap) [] [] cp) (fun σ H Q=>ta σ H fun x H1=>∃a C dx fs f fd ps sp,x=.ref a/\H1 a=some (.ins C dx fs)/\Cls X.K C/\Meth X.K C m f/\fs.lookup m=none/\Binds X.K fd ps [] /\
   FnOk X.prog X.w X.K X.mg X.base CX0 k f fd ps sp/\sp [x] H1 Q E0):=by
 intro pins s σ H Q I h
 refine eval_meth hbase rfl hline (thn (he pins s σ H _ I h) fun u s1 zz0 pl=>?_)
 obtain⟨x,H1,I1,rx,a,C,dx,fs,f,fd,ps,sp,ex,ea,c,hm,ln,hb,F,q⟩:=zz0
 subst ex
 obtain rfl:u=Value.ref a:=rx
 refine getmeth_ok I1 ea c hm ln ?_
 exact PySem.W.callWith_K0 (first:=[.ref a]) I1.kIn hm.kp (run_fn (us:=[.ref a]) (vs:=[.ref a]) (dvs:=[]) (ds:=[]) F hr hb .nil pass0 I1 (.cons rfl .nil) q)
theorem op_isB:OpR X (compareOp .Is) (fun x y H Q=>∃b c,x=.bl b/\y=.bl c/\Q (.bl (b==c)) H):=by
 intro pins s σ H x y v u Q I rx ry h
 obtain⟨b,c,rfl,rfl,q⟩:=h
 cases rx
 cases ry
 refine wpAny_is_plain rfl (fin_bl I q ?_)
 cases b<;>cases c<;>rfl
theorem op_notB:OpR X (compareOp .IsNot) (fun x y H Q=>∃b c,x=.bl b/\y=.bl c/\Q (.bl (!(b==c))) H):=by
 intro pins s σ H x y v u Q I rx ry h
 obtain⟨b,c,rfl,rfl,q⟩:=h
 cases rx
 cases ry
 refine wpAny_isNot_plain rfl (fin_bl I q ?_)
 cases b<;>cases c<;>rfl
end
end L2
end
section
namespace L2
open PySem PySem.Spec PyProof.Rows PySem.W
section
variable {X:Cx}
theorem laid2{a:Addr}{o:HO}{t':Nat}{pins:List (Addr×Obj)}{σ:St}{H:Hp}{s:Shared}{h':Heap}(I:Inv X pins σ H s)(k:∀b u,s.heap.get? b=some u->h'.get? b=some u)(hp:s.heap.get? a=none)(hn:H a=none)(new:ObjOk X.prog X.w (upd H a o) h' a o) :
  Inv X pins σ (upd H a o) { s with heap:=h',toks:=t' }:=by
 refine I.un ⟨fun b u q _ _ _=>k b u q,fun b u q _ _ _=>⟨u.slots,k b u q⟩,fun b u q n _=>?_,fun b u q _=>⟨u,k b u q⟩,fun b xs q=>by rw[upd_ne (ne_of_none q hn)];exact q,fun b u xs q=>by rw[upd_ne (ne_of_none q hn)];exact q,fun b ps q=>⟨#[],by rw[upd_ne (ne_of_none q hn),q];simp⟩⟩ fun b u e=>?_
 ·rw[upd_ne fun z=>by rw[z,hp] at q;cases q];exact n
 ·by_cases hb:b=a
  ·subst hb;rw[upd_same] at e;cases e;exact new
  ·rw[upd_ne hb] at e
   exact(I.hok b u e).stay (fun c v _ q=>k c v q) (fun c q=>by rw[upd_ne (ne_of_none q hn)];exact q) fun c xs q=>by rw[upd_ne (ne_of_none q hn)];exact q
noncomputable def tRv(K:PySem.W.Frag)(te:TE)(ts:TO):TE:=fun σ H Q=>te σ H fun x H1=>ts σ H1 fun i H2=>i=some (-1)/\∃a xs,x=.ref a/\SqL K H2 a xs/\∀p,H2 p=none->Q (.ref p) (upd H2 p (.lst xs.reverse))
theorem vals_rev:∀{xs:List V} {its:List Value},Vals xs its->Vals xs.reverse its.reverse
 | [],_,h=>by cases h;exact .nil
 | x::r,_,h=>by
  cases h with
  | cons a t =>
   rw[List.reverse_cons,List.reverse_cons]
   exact Vals.append (vals_rev t) (.cons a .nil)
theorem pe_rev{e st:Expr}{te:TE}{ts:TO}{p2 pos:Pos}(he:PE X e te)(hs:PO X (some st) ts):PE X (.Subscript e (.Slice none none (some st) p2) pos) (tRv X.K te ts):=by
 intro pins s σ H Q I h
 refine Subscript_ (thn (he pins s σ H _ I h) fun v s1 zz0=>?_)
 obtain⟨x,H1,I1,r1,q1⟩:=zz0
 refine wpAny_Slice ?_
 rw[evalPart_none]
 refine wpAny_pure ?_
 refine wpAny_pure ?_
 refine thn (hs pins s1 σ H1 _ I1 q1) fun vk s3 zz0=>?_
 obtain⟨k,H3,I3,pk,q3⟩:=zz0
 obtain⟨rfl,a,xs,rfl,hx,q⟩:=q3
 cases r1
 have I4:Inv X pins σ H3 { s3 with heap:=s3.heap.push { cls:=.type "slice",data:=.fields #[.none,.none,vk] } }:=I3.kept (t':=s3.toks) fun b ob q=>Heap.get?_push_of_some _ q
 obtain⟨its,r,ht,hz⟩:=I4.list hx
 have hlen:=r.length
 show wpAny (model X.prog X.w) X.A (subscriptTail e (.Slice none none (some st) p2) (.ref a) (.ref s3.heap.objs.size)) (EP X pins σ Q) X.xe { s3 with heap:=s3.heap.push { cls:=.type "slice",data:=.fields #[.none,.none,vk] } }
 refine tail_any (ops:=[.ref a,.ref s3.heap.objs.size]) ht.isList.typeIs slot_list_getitem.lookup ?_ (by with_unfolding_all rfl)
 refine wpAny_getItem_list_slice ht.isList (Heap.IsSliceOf.new ..) .none .none pk (by decide) ?_ (by rw[List.size_toArray]<;>omega)
 rw[PySem.W.krv_pick]
 refine⟨.ref _,_,I4.laid (t':=s3.toks) (o:=.lst xs.reverse) (fun b ob q=>Heap.get?_push_of_some _ q) (Nat.le_refl _) ?_,rfl,q _ (I4.hok.fresh (Nat.le_refl _))⟩
 exact⟨by rw[List.length_reverse];exact hz,_,0,vals_rev r,Heap.get?_push_size _ rfl⟩
theorem pe_lkeysD{o:Expr}{to:TE}{p pos:Pos}(hh:X.A.handled=none)(hst:starEach [o] X.env=[(false,eval o X.env)])(hg:Gl X "list")(hm:X.mg "list" = none)(hv:bootBuiltins "list" = some (.type "list"))(ho:PE X o to):PE X (.Call (.Name "list" p) [o] [] pos) (tLK to):=by
 intro pins s σ H Q I h
 refine wpAny_Call_Name_kw (ld_blt I hg hm hv ?_ (by decide) (by decide))
 refine PyProof.Rows.callWith_type1 ?_ hst rfl
 rw[hst]
 show wpAny _ _ (spliced [(false,eval o X.env)]) _ _ s
 refine Calls.spliced_cons ?_
 refine thn (ho pins s σ H _ I h) fun u s1 zz0=>?_
 obtain⟨x,H1,I1,r1,a,kvs,ex,ea,q⟩:=zz0
 subst ex
 cases r1
 obtain⟨t1,t2,hd⟩:=isD_at I1 (.inl ⟨kvs,.inl ea⟩)
 obtain⟨hz,_,vs,rel,dd⟩:=dk_of I1.hok ea
 refine Calls.spliced_nil ?_
 obtain⟨ep,da⟩:=dd.dictAt
 have hlen:=rel.length
 refine kdl_call (kdl_dict (knd:=mixKind X.prog X.w) (kvs:=vs) (ep:=ep) (d:=a) hd) hh da (by rw[<-hlen];exact hz) fun h' tk acc c k2 eD hacc=>?_
 have hn:H1 s1.heap.objs.size=none:=I1.hok.fresh (Nat.le_refl _)
 refine⟨.ref _,_,I1.laid (t':=tk) (fun b o z=>k2 b o z) (Nat.le_refl _) (show ObjOk X.prog X.w _ _ _ (.lst (kvs.map fun kv=>kV kv.1)) from⟨?_,acc.toList,c,?_,?_⟩),rfl,q _ hn⟩
 ·rw[List.length_map];exact hz
 ·exact keys_vals (P:=X.prog) (w:=X.w) rel (by rw[Array.length_toList];exact hacc.1) fun j v e=>hacc.2 j v (by rw[<-Array.getElem?_toList];exact e)
 ·first|(rw[Array.toArray_toList];exact eD)|simpa using eD
theorem pe_skeysD{o:Expr}{to:TE}{p pos:Pos}(hh:X.A.handled=none)(hst:starEach [o] X.env=[(false,eval o X.env)])(hg:Gl X "sorted")(hm:X.mg "sorted" = none)(hv:bootBuiltins "sorted" = some (.builtin "sorted"))(ho:PE X o to):PE X (.Call (.Name "sorted" p) [o] [] pos) (tSK to):=by
 intro pins s σ H Q I h
 refine wpAny_Call_Name_kw (ld_blt I hg hm hv ?_ (by decide) (by decide))
 refine PyProof.Rows.callWith_builtin1 ?_ hst rfl
 rw[hst]
 show wpAny _ _ (spliced [(false,eval o X.env)]) _ _ s
 refine Calls.spliced_cons ?_
 refine thn (ho pins s σ H _ I h) fun u s1 zz0=>?_
 obtain⟨x,H1,I1,r1,a,kvs,ns,ex,ea,ens,h64,q⟩:=zz0
 subst ex
 cases r1
 obtain⟨t1,t2,hd⟩:=isD_at I1 (.inl ⟨kvs,.inl ea⟩)
 obtain⟨hz,_,vs,rel,dd⟩:=dk_of I1.hok ea
 refine Calls.spliced_nil ?_
 obtain⟨ep,da⟩:=dd.dictAt
 have hlen:=rel.length
 refine Srt.call_sorted_of (O:=Srt.intOrd) (kdu_collect (A:=X.A.in1) (kdl_dict (knd:=mixKind X.prog X.w) (kvs:=vs) (ep:=ep) (d:=a) hd) (by simp[hh]) da (by rw[<-hlen];exact hz) fun h' tk acc k1 hacc=>?_)
 have hV:Vals (kvs.map fun kv=>kV kv.1) acc.toList:=keys_vals (P:=X.prog) (w:=X.w) rel (by rw[Array.length_toList];exact hacc.1) fun j v e=>hacc.2 j v (by rw[<-Array.getElem?_toList];exact e)
 have hk:(kvs.map fun kv=>kV kv.1)=ns.map V.int:=by
  have:=congrArg (List.map kV) ens
  rw[List.map_map,List.map_map] at this
  exact this
 rw[hk] at hV
 have hI:=intsAre_of hV
 have lv:=hI.length
 have hN:∀b o,s1.heap.get? b=some o->b≠h'.objs.size:=fun b o e z=>by
  have q:=Heap.lt_size (k1 b o e)
  rw[z] at q
  exact Nat.lt_irrefl _ q
 refine⟨by rw[lv];exact h64,fun i=>ns.getD i 0,fun h2 h6 _=>Srt.askOk_ints hI h2,fun pp h'' outs k' he=>?_⟩
 obtain⟨e,he⟩:=he
 have mem:∀i∈pp,i<ns.length:=fun i hi=>by have:=outs.perm.mem_iff.mp hi;rw[lv] at this;simpa using this
 have pn:(pp.map fun i=>ns.getD i 0).Perm ns:=by
  have:=outs.perm.map fun i=>ns.getD i 0
  rw[lv,Srt.map_getD_range] at this
  exact this
 have up:(pp.map fun i=>ns.getD i 0).Pairwise (· <= ·):=by
  refine List.Pairwise.imp (R:=Srt.intOrd.kle) (fun {x y:Int} hxy=>?_) outs.up
  have hxy:(decide (y<x):Bool)=false:=hxy
  exact Int.not_lt.mp (of_decide_eq_false hxy)
 have es:=PySem.W.eq_sortI pn up
 have hout:=pick_ints hI pp mem
 rw[es] at hout
 dsimp only at k' he |-
 have hl:s1.heap.get? h'.objs.size=none:=by
  cases e:s1.heap.get? h'.objs.size with
  | none=>rfl
  | some o=>exact absurd rfl (hN _ o e)
 have hn:H1 h'.objs.size=none:=(HOk.kept I1.hok k1).fresh (Nat.le_refl _)
 refine⟨.ref h'.objs.size,_,laid2 I1 (t':=tk) (fun b o z=>k' b o (k1 b o z)) hl hn (show ObjOk X.prog X.w _ _ _ (.lst ((PySem.W.sortI ns).map V.int)) from⟨?_,_,e,vals_ints hout,he⟩),rfl,q _ hn⟩
 rw[List.length_map,(PySem.W.sortI_perm _).length_eq,sizeLine_eq];omega
end
end L2
end
section
namespace L2
open PySem PySem.Spec PyProof.Rows PySem.W
section
variable {X:Cx}
structure ClsM (K:PySem.W.Frag) (C:Addr) (m:Str) (f:Addr):Prop where
 ga:PySem.W.specialIn K (.ref C) "__getattribute__" = some (some (.builtin "type.__getattribute__"))
 rd:PySem.W.readsIn K C (.type "type")=true
 at_:PySem.W.findCls K (.ref C) (.type "type") m=some (.val (.ref f))
 kp:PySem.W.keepIn K (.ref f)=true
structure TyI (K:PySem.W.Frag) (C:Addr):Prop where
 ha:PySem.W.findIn K (.ref C) "__class__" = some (some (.builtin "object.__class__"))
 hn:PySem.W.specialIn K (.builtin "object.__class__") "__get__" = some (some (.builtin "getset_descriptor.__get__"))
 htk:PySem.W.takesIn K (.builtin "object.__class__")=some true
 hm:PySem.W.mroIn K C (.type "object")=some true
end
end L2
end
section
namespace Hv
open PySem L2 PyProof.Rows
inductive Val
 | non|bl (b:Bool)|int (i:Int)|str (x:Str)|tup (vs:List Val)|rl (vs:List Val)|dc (ks:List Key) (vs:List Val)|ob (c:Nat) (xs:List Str) (vs:List Val)|ref (i:Nat)
inductive Ob
 | lst (xs:List Val)|dct (kvs:List (Key×Val))|ins (c:Nat) (fs:List (Str×Val))
noncomputable abbrev Hs:=List Ob
inductive Out (α:Type)
 | ok (a:α) (h:Hs)|exc (c:Nat) (vs:List Val) (h:Hs)|no
noncomputable abbrev M(α:Type):=Hs->Out α
noncomputable def ret{α:Type}(a:α):M α:=fun h=>.ok a h
noncomputable def bnd{α β:Type}(m:M α)(f:α -> M β):M β:=fun h=>match m h with
 | .ok a h'=>f a h'
 | .exc c vs h'=>.exc c vs h'
 | .no=>.no
noncomputable def lft{α:Type}(o:Option α):M α:=fun h=>match o with
 | some a=>.ok a h
 | none=>.no
noncomputable def ask{α:Type}(f:Hs->Option α):M α:=fun h=>lft (f h) h
noncomputable def new(o:Ob):M Val:=fun h=>.ok (.ref h.length) (h++[o])
noncomputable def put(i:Nat)(o:Ob):M Unit:=fun h=>.ok () (h.set i o)
noncomputable def mapO{α β:Type}(f:α -> Option β):List α -> Option (List β)
 | []=>some []
 | a::r=>(f a).bind fun b=>(mapO f r).bind fun bs=>some (b::bs)
inductive Bop|add|sub|mul|fdiv|mod|pow
 deriving DecidableEq
inductive Cop|eq|ne|lt|le|gt|ge|isn|ntn|inn|nin
 deriving DecidableEq
inductive Bl|len|min|max|sorted|list|tuple|str|int|all|any|isin (T:String)
 deriving DecidableEq
inductive Me|join|append|extend
 deriving DecidableEq
inductive Pat|one (i:Nat)|tup (is:List Nat)
 deriving DecidableEq
inductive Ik|seq|range|enum|zip
 deriving DecidableEq
mutual
inductive IE
 | var (i:Nat)|cst (d:Val)|con (x:Str) (d:Val)|no
 | bin (o:Bop) (a b:IE)|neg (a:IE)|cmp (o:Cop) (a b:IE)|chn (o p:Cop) (a b c:IE)
 | and (a b:IE)|or (a b:IE)|not (a:IE)|ite (c a b:IE)
 | tup (es:IEs)|lst (es:IEs)|idx (a b:IE)|slc (a lo hi:IE)
 | call (j:Nat) (es:IEs)|blt (b:Bl) (es:IEs)|met (m:Me) (a:IE) (es:IEs)
 | comp (N:List Str) (js:List (Option Nat)) (pat:Pat) (k:Ik) (it:IEs) (c elt:IE)
 | dct0
 | sset (a:IE)
 | dget (d k x:IE)
 | dct1 (k v:IE)
 | lkeys (d:IE)
 | sdef (d k x:IE)
 | svals (d:IE)
 | skeys (d:IE)
 | fld (n:Nat) (a:IE) (x:Str)
 | mth (a:IE) (m:Str) (js:List (Nat×Nat)) (es:IEs)
 | rev (a s:IE)
 | dflt (N:List Str) (js:List (Option Nat)) (p q:Nat) (d w:IE)
 | isc (a:IE) (x:Str) (bs:List Bool)
inductive IEs|nil|cons (e:IE) (es:IEs)
end
noncomputable abbrev Env:=List (Option Val)
mutual
inductive IS
 | expr (e:IE)|asg (p:Pat) (e:IE)|aug (i:Nat) (o:Bop) (e:IE)|setI (o i v:IE)
 | iff (c:IE) (a b:ISs)|for (p:Pat) (k:Ik) (it:IEs) (body:ISs)|whl (n:Nat) (c:IE) (body:ISs)
 | ret (e:IE)|retN|brk|cnt|pass|never|setF (n:Nat) (a:IE) (x:Str) (v:IE)
inductive ISs|nil|cons (s:IS) (r:ISs)
end
noncomputable def lstOf(h:Hs):Val->Option (List Val)
 | .rl vs=>some vs
 | .ref i=>match h[i]? with
  | some (.lst xs)=>some xs
  | _=>none
 | _=>none
noncomputable def seqOf(h:Hs):Val->Option (List Val)
 | .tup vs=>some vs
 | v=>lstOf h v
noncomputable def extOf(h:Hs):Val->Option (List Val)
 | .tup vs=>some vs
 | .ref i=>lstOf h (.ref i)
 | _=>none
noncomputable def ints?:List Val->Option (List Int):=mapO fun v=>match v with
 | .int i=>some i
 | _=>none
noncomputable def strs?:List Val->Option (List Str):=mapO fun v=>match v with
 | .str i=>some i
 | _=>none
noncomputable def bools?:List Val->Option (List Bool):=mapO fun v=>match v with
 | .bl i=>some i
 | _=>none
noncomputable def tups?:List Val->Option (List (List Int)):=mapO fun v=>match v with
 | .tup vs=>if vs.isEmpty then none else ints? vs
 | _=>none
noncomputable def toD:Nat->Hs->Val->Option PyData
 | 0,_,_=>none
 | _+1,_,.non=>some .none
 | _+1,_,.bl b=>some (.bool b)
 | _+1,_,.int i=>some (.int i)
 | _+1,_,.str x=>if PyData.strOk x=true then some (.str x) else none
 | n+1,h,.tup vs=>(mapO (toD n h) vs).bind fun ds=>some (.tuple ds)
 | n+1,h,.rl vs=>(mapO (toD n h) vs).bind fun ds=>some (.list ds)
 | _+1,_,.dc _ _=>none
 | _+1,_,.ob _ _ _=>none
 | n+1,h,.ref i=>(lstOf h (.ref i)).bind fun xs=>(mapO (toD n h) xs).bind fun ds=>some (.list ds)
noncomputable def eqH(h:Hs)(v w:Val):Option Bool:=(toD 16 h v).bind fun d=>(toD 16 h w).bind fun e=>some (PyData.eqv d e)
noncomputable def insL(x:List Int):List (List Int)->List (List Int)
 | []=>[x]
 | y::r=>if HT.lexLt y x=true then y::insL x r else x::y::r
noncomputable def sortL:List (List Int)->List (List Int)
 | []=>[]
 | x::r=>insL x (sortL r)
noncomputable def itup(ks:List Int):Val:=.tup (ks.map .int)
noncomputable def sortV(xs:List Val):Option (List Val) :=
 if xs.length<64 then
  match ints? xs with
  | some ns=>some ((PySem.W.sortI ns).map .int)
  | none=>(tups? xs).bind fun kss=>some ((sortL kss).map itup)
 else none
noncomputable def minL:List Int->Option Val
 | []=>none
 | a::r=>some (.int (r.foldl min a))
noncomputable def maxL:List Int->Option Val
 | []=>none
 | a::r=>some (.int (r.foldl max a))
noncomputable def mulOk(i j:Int):Bool:=(decide (-(2 ^ 64)<i)&&decide (i<2 ^ 64))||(decide (-(2 ^ 64)<j)&&decide (j<2 ^ 64))
noncomputable def guardM{α:Type}(c:Bool)(m:M α):M α:=fun h=>if c=true then m h else .no
noncomputable def dvOk(b:Int):Bool:=decide (0<b/\b<1606938044258990275541962092341162602522202993782792835301376)
noncomputable def bop:Bop->Val->Val->M Val
 | .add,.int a,.int b=>ret (.int (a+b))
 | .add,.str a,.str b=>guardM (decide (a.length+b.length<=sizeLine)) (ret (.str (a++b)))
 | .add,.tup a,.tup b=>guardM (!a.isEmpty&&decide (a.length+b.length<=sizeLine)) (ret (.tup (a++b)))
 | .add,v,w=>bnd (ask fun h=>lstOf h v) fun a=>bnd (ask fun h=>lstOf h w) fun b=>guardM (decide (a.length+b.length<=sizeLine)) (new (.lst (a++b)))
 | .sub,.int a,.int b=>ret (.int (a-b))
 | .mul,.int a,.int b=>guardM (mulOk a b) (ret (.int (a*b)))
 | .fdiv,.int a,.int b=>guardM (dvOk b) (ret (.int (a/b)))
 | .mod,.int a,.int b=>guardM (decide (0<b)) (ret (.int (a%b)))
 | .pow,.int a,.int b=>guardM (decide (0<=b/\b<=1000000/\a.natAbs<2 ^ 64)) (ret (.int (a ^ b.toNat)))
 | _,_,_=>lft none
noncomputable def isNon:Val->Bool
 | .non=>true
 | _=>false
noncomputable def valK(kvs:List (Key×Val))(k:Key):Option Val:=(kvs.find? fun kv=>decide (kv.1=k)).map (·.2)
noncomputable def putV(kvs:List (Key×Val))(k:Key)(v:Val):List (Key×Val) :=
 if (kvs.any fun kv=>decide (kv.1=k))=true then kvs.map (fun kv=>if kv.1=k then (kv.1,v) else kv) else kvs++[(k,v)]
noncomputable def keyOf:Val->Option Key
 | .int i=>some (.inl i)
 | .str x=>some (.inr x)
 | _=>none
noncomputable def anyD(f d:PyData):Option Bool:=match f with
 | .list ds=>some (ds.any fun y=>PyData.eqv y d)
 | .tuple ds=>some (ds.any fun y=>PyData.eqv y d)
 | _=>none
noncomputable def memD(h:Hs)(v w:Val):Option Bool:=(toD 16 h w).bind fun f=>(toD 16 h v).bind fun d=>anyD f d
noncomputable def memK(h:Hs)(v:Val)(i:Nat):Ob->Option Bool
 | .dct kvs=>(keyOf v).bind fun k=>some (valK kvs k).isSome
 | _=>memD h v (.ref i)
noncomputable def memH(h:Hs):Val->Val->Option Bool
 | .str a,.str b=>some (!(Builtin.Str.occurrences b a 0 b.length 1).isEmpty)
 | v,.ref i=>(h[i]?).bind (memK h v i)
 | v,.dc ks _=>(keyOf v).bind fun k=>some (ks.any fun j=>decide (j=k))
 | v,w=>memD h v w
noncomputable def isV(v w:Val):Option Bool:=match w with
 | .non=>some (isNon v)
 | .bl b=>(match v with
  | .bl a=>some (a==b)
  | _=>none)
 | _=>none
noncomputable def cop(h:Hs):Cop->Val->Val->Option Bool
 | .eq,v,w=>eqH h v w
 | .ne,v,w=>(eqH h v w).map (!·)
 | .lt,.int a,.int b=>some (decide (a<b))
 | .le,.int a,.int b=>some (decide (a<=b))
 | .gt,.int a,.int b=>some (decide (b<a))
 | .ge,.int a,.int b=>some (decide (b<=a))
 | .isn,v,w=>isV v w
 | .ntn,v,w=>(isV v w).map (!·)
 | .inn,v,w=>memH h v w
 | .nin,v,w=>(memH h v w).map (!·)
 | _,_,_=>none
noncomputable def truH(h:Hs):Val->Option Bool
 | .non=>some false
 | .bl b=>some b
 | .int i=>some (i != 0)
 | .str x=>if x.length<=sizeLine then some ((x.length:Int) != 0) else none
 | .tup vs=>some (!vs.isEmpty)
 | .rl vs=>some (!vs.isEmpty)
 | .dc ks _=>some (!ks.isEmpty)
 | .ob _ _ _=>none
 | .ref i=>match h[i]? with
  | some (.lst xs)=>some (!xs.isEmpty)
  | some (.dct xs)=>some (!xs.isEmpty)
  | _=>none
noncomputable def idxH(h:Hs):Val->Val->Option Val
 | .str x,.int i=>if x.length<=sizeLine then (atI x.cps.toList i).map fun c=>.str ⟨#[c]⟩ else none
 | .tup vs,.int i=>atI vs i
 | .rl vs,.int i=>atI vs i
 | .ref j,.int i=>match h[j]? with
  | some (.dct kvs)=>valK kvs (.inl i)
  | _=>(lstOf h (.ref j)).bind fun xs=>atI xs i
 | .ref j,.str x=>match h[j]? with
  | some (.dct kvs)=>valK kvs (.inr x)
  | _=>none
 | .dc ks vs,.int i=>valK (ks.zip vs) (.inl i)
 | .dc ks vs,.str x=>valK (ks.zip vs) (.inr x)
 | _,_=>none
noncomputable def isDc(h:Hs)(o:Val):Option Unit:=match o with
 | .ref i=>(match h[i]? with
  | some (.dct _)=>some ()
  | _=>none)
 | .dc _ _=>some ()
 | _=>none
noncomputable def getH(h:Hs)(o:Val)(k:Key):Option (Option Val):=match o with
 | .ref i=>(match h[i]? with
  | some (.dct kvs)=>some (valK kvs k)
  | _=>none)
 | .dc ks vs=>some (valK (ks.zip vs) k)
 | _=>none
noncomputable def keysH(h:Hs)(o:Val):Option (List Key):=match o with
 | .ref i=>(match h[i]? with
  | some (.dct kvs)=>some (kvs.map (·.1))
  | _=>none)
 | .dc ks _=>some ks
 | _=>none
noncomputable def keyV:Key->Val
 | .inl i=>.int i
 | .inr x=>.str x
noncomputable def sdefM(o:Val)(k:Key)(z:Val):M Val:=match o with
 | .ref j=>bnd (ask fun h=>match h[j]? with|some (.dct kvs)=>some kvs|_=>none) fun kvs=>guardM (decide (kvs.length<sizeLine)) (match valK kvs k with
  | some v=>ret v
  | none=>bnd (put j (.dct (putV kvs k z))) fun _=>ret z)
 | _=>lft none
noncomputable def intK?:List Key->Option (List Int):=mapO fun k=>match k with
 | .inl i=>some i
 | .inr _=>none
noncomputable def skeysH(h:Hs)(o:Val):Option (List Int):=(keysH h o).bind fun ks=>(intK? ks).bind fun ns=>if ns.length<64 then some (PySem.W.sortI ns) else none
noncomputable def cutL{α:Type}(ds:List α)(lo hi:Option Int):List α:=(ds.drop (HT.sIx ds.length 0 lo)).take (HT.sIx ds.length ds.length hi-HT.sIx ds.length 0 lo)
noncomputable def slcM(v:Val)(lo hi:Option Int):M Val:=match v with
 | .tup vs=>guardM (!(decide (HT.sIx vs.length 0 lo=0)&&decide (HT.sIx vs.length vs.length hi=vs.length))) (ret (.tup (cutL vs lo hi)))
 | v=>bnd (ask fun h=>lstOf h v) fun xs=>new (.lst (cutL xs lo hi))
noncomputable def tyN(h:Hs):Val->Option String
 | .non=>some "NoneType" | .bl _=>some "bool" | .int _=>some "int" | .str _=>some "str" | .tup _=>some "tuple" | .rl _=>some "list" | .dc _ _=>some "dict" | .ob _ _ _=>none
 | .ref i=>match h[i]? with
  | some (.lst _)=>some "list"
  | some (.dct _)=>some "dict"
  | _=>none
noncomputable def isinH(T:String)(t:String):Option Bool :=
 if ["list","tuple","str","bool","int","dict"].contains T=true then some (decide (T=t\/(T = "int" /\ t = "bool"))) else none
noncomputable def lenH(h:Hs):Val->Option Nat
 | .str x=>if x.length<=sizeLine then some x.length else none
 | .tup vs=>some vs.length
 | .rl vs=>some vs.length
 | .dc ks _=>some ks.length
 | .ref i=>match h[i]? with
  | some (.lst xs)=>some xs.length
  | some (.dct xs)=>some xs.length
  | _=>none
 | _=>none
noncomputable def blt:Bl->List Val->M Val
 | .len,[v]=>bnd (ask fun h=>lenH h v) fun n=>ret (.int n)
 | .min,[.int a,.int b]=>ret (.int (if b<a then b else a))
 | .max,[.int a,.int b]=>ret (.int (if b>a then b else a))
 | .min,[v]=>bnd (ask fun h=>seqOf h v) fun xs=>lft ((ints? xs).bind minL)
 | .max,[v]=>bnd (ask fun h=>seqOf h v) fun xs=>lft ((ints? xs).bind maxL)
 | .sorted,[v]=>bnd (ask fun h=>lstOf h v) fun xs=>bnd (lft (sortV xs)) fun ys=>new (.lst ys)
 | .list,[v]=>bnd (ask fun h=>seqOf h v) fun xs=>new (.lst xs)
 | .int,[.bl b]=>ret (.int (if b=true then 1 else 0))
 | .int,[.int i]=>ret (.int i)
 | .all,[v]=>bnd (ask fun h=>lstOf h v) fun xs=>bnd (lft (bools? xs)) fun bs=>ret (.bl (bs.all id))
 | .isin T,[v]=>bnd (ask fun h=>tyN h v) fun t=>bnd (lft (isinH T t)) fun b=>ret (.bl b)
 | _,_=>lft none
noncomputable def met:Me->Val->List Val->M Val
 | .append,.ref i,[v]=>bnd (ask fun h=>match h[i]? with|some (.lst xs)=>some xs|_=>none) fun xs=>guardM (decide (xs.length<sizeLine)) (bnd (put i (.lst (xs++[v]))) fun _=>ret .non)
 | .extend,.ref i,[v]=>bnd (ask fun h=>match h[i]? with|some (.lst xs)=>some xs|_=>none) fun xs=>bnd (ask fun h=>extOf h v) fun ys=>guardM (decide (xs.length+ys.length<=sizeLine)) (bnd (put i (.lst (xs++ys))) fun _=>ret .non)
 | _,_,_=>lft none
noncomputable def recv(h:Hs):Me->Val->Option Unit
 | .join,.str _=>some ()
 | .append,.ref i=>match h[i]? with|some (.lst _)=>some ()|_=>none
 | .extend,.ref i=>match h[i]? with|some (.lst _)=>some ()|_=>none
 | _,_=>none
inductive Src
 | fix (xs:List Val)|live (i:Nat)|enum (i:Nat)|zip (v w:Val)
noncomputable def enumV:Nat->List Val->List Val
 | _,[]=>[]
 | i,d::r=>.tup [.int i,d]::enumV (i+1) r
noncomputable def zipV:List Val->List Val->List Val
 | a::r,b::t=>.tup [a,b]::zipV r t
 | _,_=>[]
noncomputable def rangeV(lo:Int)(n:Nat):List Val:=(List.range n).map fun(i:Nat)=>Val.int (lo+(i:Int))
noncomputable def inR(i:Int):Bool:=decide (-(2 ^ 62)<=i)&&decide (i<2 ^ 62)
noncomputable def srcOf:Ik->List Val->Option Src
 | .seq,[.tup vs]=>some (.fix vs)
 | .seq,[.rl vs]=>some (.fix vs)
 | .seq,[.ref i]=>some (.live i)
 | .range,[.int n]=>if inR n then some (.fix (rangeV 0 n.toNat)) else none
 | .range,[.int a,.int b]=>if inR a&&inR b then some (.fix (rangeV a (b-a).toNat)) else none
 | .enum,[.rl vs]=>some (.fix (enumV 0 vs))
 | .enum,[.ref i]=>some (.enum i)
 | .zip,[v,w]=>some (.zip v w)
 | _,_=>none
noncomputable def Src.items(h:Hs):Src->Option (List Val)
 | .fix xs=>some xs
 | .live i=>lstOf h (.ref i)
 | .enum i=>(lstOf h (.ref i)).map (enumV 0)
 | .zip v w=>(lstOf h v).bind fun xs=>(lstOf h w).map fun ys=>zipV xs ys
noncomputable def bindAll:List Nat->List Val->Env->Option Env
 | [],[],env=>some env
 | i::is,d::ds,env=>bindAll is ds (env.set i (some d))
 | _,_,_=>none
noncomputable def bindE:Pat->Val->Env->Option Env
 | .one i,d,env=>some (env.set i (some d))
 | .tup is,.tup ds,env=>bindAll is ds env
 | _,_,_=>none
noncomputable def envC(js:List (Option Nat))(env:Env):Env:=js.map fun o=>match o with
 | none=>none
 | some j=>match env[j]? with
  | some (some d)=>some d
  | _=>none
noncomputable def compM(src:Src)(f:Val->M (Option Val)):Nat->Nat->List Val->M (List Val)
 | 0,i,acc=>bnd (ask fun h=>src.items h) fun xs=>guardM (decide (xs.length<=i)) (ret acc)
 | n+1,i,acc=>bnd (ask fun h=>src.items h) fun xs=>match xs[i]? with
  | none=>ret acc
  | some x=>bnd (f x) fun o=>compM src f n (i+1) (match o with|some e=>acc++[e]|none=>acc)
noncomputable def isNo:IE->Bool
 | .no=>true
 | _=>false
noncomputable def part?:Val->Option Int
 | .int i=>some i
 | _=>none
noncomputable def boolM:Val->M Bool
 | .bl b=>ret b
 | _=>lft none
noncomputable def fldH(n:Nat)(h:Hs)(o:Val)(x:Str):Option Val:=match o with
 | .ref i=>(match h[i]? with
  | some (.ins c fs)=>if c<n then fs.lookup x else none
  | _=>none)
 | .ob c xs vs=>if c<n then (xs.zip vs).lookup x else none
 | _=>none
noncomputable def mthH(h:Hs)(o:Val)(m:Str)(js:List (Nat×Nat)):Option Nat:=match o with
 | .ref i=>(match h[i]? with
  | some (.ins c fs)=>if (fs.lookup m).isNone=true then js.lookup c else none
  | _=>none)
 | .ob c xs vs=>if ((xs.zip vs).lookup m).isNone=true then js.lookup c else none
 | _=>none
noncomputable def putFV(f:Str)(v:Val):List (Str×Val)->List (Str×Val)
 | []=>[(f,v)]
 | (g,x)::r=>if g=f then (g,v)::r else (g,x)::putFV f v r
noncomputable def setFM(n:Nat)(o:Val)(x:Str)(v:Val):M Unit:=match o with
 | .ref i=>bnd (ask fun h=>match h[i]? with|some (.ins c fs)=>if c<n then some (c,fs) else none|_=>none) fun p=>guardM (decide (p.2.length<1000)) (put i (.ins p.1 (putFV x v p.2)))
 | _=>lft none
noncomputable def mkF(c:Nat)(φ:List Val->M Val)(vs:List Val):M Val:=bnd (new (.ins c [])) fun o=>bnd (φ (o::vs)) fun r=>match r with
 | .non=>ret o
 | _=>lft none
mutual
noncomputable def evE(Φ:Nat->List Val->M Val):IE->Env->M Val
 | .var i,env=>lft (match env[i]? with
  | some (some d)=>some d
  | _=>none)
 | .cst d,_=>ret d
 | .con _ d,_=>ret d
 | .no,_=>lft none
 | .bin o a b,env=>bnd (evE Φ a env) fun x=>bnd (evE Φ b env) fun y=>bop o x y
 | .neg a,env=>bnd (evE Φ a env) fun x=>match x with
  | .int i=>ret (.int (-i))
  | _=>lft none
 | .cmp o a b,env=>bnd (evE Φ a env) fun x=>bnd (evE Φ b env) fun y=>bnd (ask fun h=>cop h o x y) fun t=>ret (.bl t)
 | .chn _ _ _ _ _,_=>lft none
 | .and a b,env=>bnd (evE Φ a env) fun x=>bnd (boolM x) fun t=>if t=true then bnd (evE Φ b env) fun y=>bnd (boolM y) fun u=>ret (.bl u) else ret (.bl false)
 | .or a b,env=>bnd (evE Φ a env) fun x=>bnd (boolM x) fun t=>if t=true then ret (.bl true) else bnd (evE Φ b env) fun y=>bnd (boolM y) fun u=>ret (.bl u)
 | .not a,env=>bnd (evE Φ a env) fun x=>bnd (boolM x) fun t=>ret (.bl (!t))
 | .ite _ _ _,_=>lft none
 | .tup es,env=>bnd (evEs Φ es env) fun ds=>guardM (decide (ds.length<=sizeLine)) (ret (.tup ds))
 | .lst es,env=>bnd (evEs Φ es env) fun ds=>guardM (decide (ds.length<=sizeLine)) (new (.lst ds))
 | .idx a b,env=>bnd (evE Φ a env) fun x=>bnd (evE Φ b env) fun y=>ask fun h=>idxH h x y
 | .slc a lo hi,env=>bnd (evE Φ a env) fun x=>bnd (if isNo lo=true then ret none else bnd (evE Φ lo env) fun v=>bnd (lft (part? v)) fun i=>ret (some i)) fun l =>
   bnd (if isNo hi=true then ret none else bnd (evE Φ hi env) fun v=>bnd (lft (part? v)) fun i=>ret (some i)) fun u=>slcM x l u
 | .call j es,env=>bnd (evEs Φ es env) fun ds=>Φ j ds
 | .blt b es,env=>bnd (evEs Φ es env) fun ds=>blt b ds
 | .met m a es,env=>bnd (evE Φ a env) fun x=>bnd (ask fun h=>recv h m x) fun _=>bnd (evEs Φ es env) fun ds=>met m x ds
 | .comp _ js pat k it c elt,env=>bnd (evEs Φ it env) fun its=>bnd (lft (srcOf k its)) fun src=>bnd (ask fun h=>src.items h) fun xs=>guardM (decide (xs.length<=100000))
   (bnd (compM src (fun d=>bnd (lft (bindE pat d (envC js env))) fun env'=>bnd (if isNo c=true then ret true else bnd (evE Φ c env') fun v=>ask fun h=>truH h v) fun t =>
    if t=true then bnd (evE Φ elt env') fun e=>ret (some e) else ret none) xs.length 0 []) fun ys=>new (.lst ys))
 | .dct0,_=>new (.dct [])
 | .sset a,env=>bnd (evE Φ a env) fun v=>bnd (ask fun h=>lstOf h v) fun xs=>bnd (lft (ints? xs)) fun ns=>guardM (decide (ns.length<64)) (new (.lst ((PySem.W.sortI (L2.newK [] ns)).map .int)))
 | .dget d k x,env=>bnd (evE Φ d env) fun o=>bnd (ask fun h=>isDc h o) fun _=>bnd (evE Φ k env) fun i=>bnd (lft (keyOf i)) fun kk=>bnd (evE Φ x env) fun z=>bnd (ask fun h=>getH h o kk) fun r=>ret (r.getD z)
 | .dct1 k v,env=>bnd (evE Φ k env) fun x=>bnd (lft (keyOf x)) fun kk=>bnd (evE Φ v env) fun y=>new (.dct [(kk,y)])
 | .lkeys d,env=>bnd (evE Φ d env) fun o=>bnd (ask fun h=>keysH h o) fun ks=>new (.lst (ks.map keyV))
 | .sdef _ _ _,_=>lft none
 | .svals _,_=>lft none
 | .skeys d,env=>bnd (evE Φ d env) fun o=>bnd (ask fun h=>skeysH h o) fun ns=>new (.lst (ns.map .int))
 | .fld n a x,env=>bnd (evE Φ a env) fun o=>ask fun h=>fldH n h o x
 | .mth a m js es,env=>bnd (evE Φ a env) fun o=>bnd (ask fun h=>mthH h o m js) fun j=>bnd (evEs Φ es env) fun ds=>Φ j (o::ds)
 | .rev a s,env=>bnd (evE Φ a env) fun x=>bnd (if isNo s=true then ret none else bnd (evE Φ s env) fun v=>bnd (lft (part? v)) fun i=>ret (some i)) fun k =>
   guardM (decide (k=some (-1))) (bnd (ask fun h=>lstOf h x) fun xs=>new (.lst xs.reverse))
 | .dflt _ _ _ _ _ _,_=>lft none
 | .isc _ _ _,_=>lft none
noncomputable def evEs(Φ:Nat->List Val->M Val):IEs->Env->M (List Val)
 | .nil,_=>ret []
 | .cons e es,env=>bnd (evE Φ e env) fun d=>bnd (evEs Φ es env) fun ds=>ret (d::ds)
end
inductive Fl
 | nx (env:Env)|rt (v:Val)|bk (env:Env)|ct (env:Env)
noncomputable def forM(src:Src)(body:Val->Env->M Fl):Nat->Nat->Env->M Fl
 | 0,i,env=>bnd (ask fun h=>src.items h) fun xs=>guardM (decide (xs.length<=i)) (ret (.nx env))
 | n+1,i,env=>bnd (ask fun h=>src.items h) fun xs=>match xs[i]? with
  | none=>ret (.nx env)
  | some x=>bnd (body x env) fun f=>match f with
   | .nx env'=>forM src body n (i+1) env'
   | .ct env'=>forM src body n (i+1) env'
   | .bk env'=>ret (.nx env')
   | .rt v=>ret (.rt v)
noncomputable def setIM(o i v:Val):M Unit:=match o with
 | .ref j=>bnd (ask fun h=>h[j]?) fun ob=>match ob,i with
  | .lst xs,.int k=>bnd (lft (ixN xs.length k)) fun n=>put j (.lst (xs.set n v))
  | .dct kvs,i=>bnd (lft (keyOf i)) fun k=>guardM (decide (kvs.length<sizeLine)) (put j (.dct (putV kvs k v)))
  | _,_=>lft none
 | _=>lft none
mutual
noncomputable def evS(Φ:Nat->List Val->M Val):IS->Env->M Fl
 | .expr e,env=>bnd (evE Φ e env) fun _=>ret (.nx env)
 | .asg p e,env=>bnd (evE Φ e env) fun v=>bnd (lft (bindE p v env)) fun env'=>ret (.nx env')
 | .aug i o e,env=>bnd (lft (match env[i]? with|some (some (.int x))=>some x|_=>none)) fun x=>bnd (evE Φ e env) fun v=>bnd (lft (part? v)) fun y=>bnd (bop o (.int x) (.int y)) fun z=>ret (.nx (env.set i (some z)))
 | .setI o i v,env=>bnd (evE Φ v env) fun x=>bnd (evE Φ o env) fun y=>bnd (evE Φ i env) fun z=>bnd (setIM y z x) fun _=>ret (.nx env)
 | .iff c a b,env=>bnd (evE Φ c env) fun x=>bnd (ask fun h=>truH h x) fun t=>if t=true then evSs Φ a env else evSs Φ b env
 | .for p k it body,env=>bnd (evEs Φ it env) fun its=>bnd (lft (srcOf k its)) fun src=>bnd (ask fun h=>src.items h) fun xs =>
   forM src (fun x env=>bnd (lft (bindE p x env)) fun env'=>evSs Φ body env') xs.length 0 env
 | .whl _ _ _,_=>lft none
 | .ret e,env=>bnd (evE Φ e env) fun v=>ret (.rt v)
 | .retN,_=>ret (.rt .non)
 | .brk,env=>ret (.bk env)
 | .cnt,env=>ret (.ct env)
 | .pass,env=>ret (.nx env)
 | .never,_=>lft none
 | .setF n a x v,env=>bnd (evE Φ v env) fun y=>bnd (evE Φ a env) fun o=>bnd (setFM n o x y) fun _=>ret (.nx env)
noncomputable def evSs(Φ:Nat->List Val->M Val):ISs->Env->M Fl
 | .nil,env=>ret (.nx env)
 | .cons s r,env=>bnd (evS Φ s env) fun f=>match f with
  | .nx env'=>evSs Φ r env'
  | f=>ret f
end
noncomputable def evF(Φ:Nat->List Val->M Val)(n:Nat)(body:ISs)(vs:List Val):M Val :=
 bnd (evSs Φ body (vs.map some++List.replicate (n-vs.length) none)) fun f=>match f with
  | .nx _=>ret .non
  | .rt v=>ret v
  | _=>lft none
theorem cop_ii{h:Hs}{o:Cop}{v w:Val}{b:Bool}(ho:o=.lt\/o=.le\/o=.gt\/o=.ge)(e:cop h o v w=some b):∃i j,v=.int i/\w=.int j:=by
 cases v with
 | int i =>
  cases w with
  | int j=>exact⟨i,j,rfl,rfl⟩
  | _=>rcases ho with rfl|rfl|rfl|rfl<;>cases e
 | _=>rcases ho with rfl|rfl|rfl|rfl<;>cases e
end Hv
end
section
namespace Hv
open PySem L2 PyProof.Rows
structure Bd where
 K:PySem.W.Frag
 cl:Nat->Addr
noncomputable def SqR(K:PySem.W.Frag)(H:Hp)(a:Addr)(xs:List V):Prop :=
 (∃o,H a=some (.frz o (.lst xs)))\/SqL K (fun _=>none) a xs
theorem SqR.sq{K:PySem.W.Frag}{H:Hp}{a:Addr}{xs:List V}(h:SqR K H a xs):SqL K H a xs:=by
 rcases h with ⟨o,h⟩|(h|⟨o,h⟩)|h
 ·exact .inl (.inr ⟨o,h⟩)
 ·cases h
 ·cases h
 ·exact .inr h
mutual
noncomputable def VR(K:PySem.W.Frag)(ρ:List Addr)(H:Hp):Val->V->Prop
 | .non,x=>x=.non
 | .bl b,x=>x=.bl b
 | .int i,x=>x=.int i
 | .str s,x=>x=.str s
 | .tup vs,x=>∃a xs,x=.ref a/\SqT K H a xs/\VRs K ρ H vs xs
 | .rl vs,x=>∃a xs,x=.ref a/\SqR K H a xs/\VRs K ρ H vs xs
 | .dc _ _,_=>False
 | .ob _ _ _,_=>False
 | .ref i,x=>∃a,x=.ref a /\ ρ[i]?=some a
noncomputable def VRs(K:PySem.W.Frag)(ρ:List Addr)(H:Hp):List Val->List V->Prop
 | [],xs=>xs=[]
 | v::vs,xs=>∃x r,xs=x::r/\VR K ρ H v x/\VRs K ρ H vs r
end
noncomputable def KRs(K:PySem.W.Frag)(ρ:List Addr)(H:Hp):List (Key×Val)->List (Key×V)->Prop
 | [],xs=>xs=[]
 | (k,v)::vs,xs=>∃x r,xs=(k,x)::r/\VR K ρ H v x/\KRs K ρ H vs r
noncomputable def FRs(K:PySem.W.Frag)(ρ:List Addr)(H:Hp):List (Str×Val)->List (Str×V)->Prop
 | [],xs=>xs=[]
 | (k,v)::vs,xs=>∃x r,xs=(k,x)::r/\VR K ρ H v x/\FRs K ρ H vs r
noncomputable def OR(B:Bd)(ρ:List Addr)(H:Hp)(a:Addr):Ob->Prop
 | .lst xs=>∃ys,H a=some (.lst ys)/\VRs B.K ρ H xs ys
 | .dct kvs=>∃ks,H a=some (.dK ks)/\KRs B.K ρ H kvs ks
 | .ins c fs=>∃dx gs,H a=some (.ins (B.cl c) dx gs)/\FRs B.K ρ H fs gs
structure HR (B:Bd) (ρ:List Addr) (h:Hs) (H:Hp):Prop where
 len:ρ.length=h.length
 nd:ρ.Nodup
 ob:∀(i:Nat) (o:Ob) (a:Addr),h[i]?=some o -> ρ[i]?=some a->OR B ρ H a o
noncomputable def Mu:HO->Bool
 | .lst _=>true|.dK _=>true|.ins ..=>true
 | _=>false
structure Gw (ρ:List Addr) (H:Hp) (ρ':List Addr) (H':Hp):Prop where
 pre:ρ <+: ρ'
 firm:∀a o,H a=some o->Mu o=false->H' a=some o
structure Gr (ρ:List Addr) (H:Hp) (ρ':List Addr) (H':Hp):Prop where
 pre:ρ <+: ρ'
 keep:∀a o,H a=some o->a ∉ ρ -> H' a=some o
 firm:∀a o,H a=some o->Mu o=false->H' a=some o
 fresh:∀a,a ∈ ρ'->a ∉ ρ -> H a=none
section
variable {K:PySem.W.Frag} {B:Bd} {ρ ρ' ρ1 ρ2:List Addr} {H H' H1 H2:Hp} {h h':Hs}
theorem Gr.w(g:Gr ρ H ρ' H'):Gw ρ H ρ' H':=⟨g.pre,g.firm⟩
theorem Gr.refl:Gr ρ H ρ H:=⟨List.prefix_refl _,fun _ _ e _=>e,fun _ _ e _=>e,fun _ e n=>absurd e n⟩
theorem Gr.trans(g:Gr ρ H ρ1 H1)(k:Gr ρ1 H1 ρ2 H2):Gr ρ H ρ2 H2 where
 pre:=g.pre.trans k.pre
 keep a o e n:=k.keep a o (g.keep a o e n) fun z=>by rw[g.fresh a z n] at e;cases e
 firm a o e n:=k.firm a o (g.firm a o e n) n
 fresh a z n:=by
  by_cases hb:a ∈ ρ1
  ·exact g.fresh a hb n
  ·cases e:H a with
   | none=>rfl
   | some o =>
    have e1:=g.keep a o e n
    rw[k.fresh a z hb] at e1;cases e1
theorem pre_get{i:Nat}{a:Addr}(p:ρ <+: ρ')(e:ρ[i]?=some a):ρ'[i]?=some a:=by
 obtain⟨t,rfl⟩:=p
 have hi:i < ρ.length:=(List.getElem?_eq_some_iff.mp e).1
 rw[List.getElem?_append_left hi];exact e
theorem Gw.sqT{a:Addr}{xs:List V}(g:Gw ρ H ρ' H')(e:SqT K H a xs):SqT K H' a xs:=by
 rcases e with (e|⟨o,e⟩)|e
 ·exact .inl (.inl (g.firm _ _ e rfl))
 ·exact .inl (.inr ⟨o,g.firm _ _ e rfl⟩)
 ·exact .inr e
theorem Gw.sqR{a:Addr}{xs:List V}(g:Gw ρ H ρ' H')(e:SqR K H a xs):SqR K H' a xs:=by
 rcases e with ⟨o,e⟩|e
 ·exact .inl ⟨o,g.firm _ _ e rfl⟩
 ·exact .inr e
mutual
theorem VR.upw(g:Gw ρ H ρ' H'):∀(v:Val) (x:V),VR K ρ H v x->VR K ρ' H' v x
 | .non,x,e=>by rw[VR] at e |-;exact e
 | .bl b,x,e=>by rw[VR] at e |-;exact e
 | .int b,x,e=>by rw[VR] at e |-;exact e
 | .str b,x,e=>by rw[VR] at e |-;exact e
 | .tup vs,x,e=>by
  rw[VR] at e |-
  obtain⟨a,xs,rfl,q1,q2⟩:=e
  exact⟨a,xs,rfl,g.sqT q1,VRs.upw g vs xs q2⟩
 | .rl vs,x,e=>by
  rw[VR] at e |-
  obtain⟨a,xs,rfl,q1,q2⟩:=e
  exact⟨a,xs,rfl,g.sqR q1,VRs.upw g vs xs q2⟩
 | .dc _ _,x,e=>by rw[VR] at e;exact e.elim
 | .ob _ _ _,x,e=>by rw[VR] at e;exact e.elim
 | .ref i,x,e=>by
  rw[VR] at e |-
  obtain⟨a,rfl,q⟩:=e
  exact⟨a,rfl,pre_get g.pre q⟩
theorem VRs.upw(g:Gw ρ H ρ' H'):∀(vs:List Val) (xs:List V),VRs K ρ H vs xs->VRs K ρ' H' vs xs
 | [],xs,e=>by rw[VRs] at e |-;exact e
 | v::vs,xs,e=>by
  rw[VRs] at e |-
  obtain⟨x,r,rfl,q1,q2⟩:=e
  exact⟨x,r,rfl,VR.upw g v x q1,VRs.upw g vs r q2⟩
end
theorem KRs.upw(g:Gw ρ H ρ' H'):∀(vs:List (Key×Val)) (xs:List (Key×V)),KRs K ρ H vs xs->KRs K ρ' H' vs xs
 | [],xs,e=>e
 | (k,v)::vs,xs,⟨x,r,e,q1,q2⟩=>⟨x,r,e,VR.upw g v x q1,KRs.upw g vs r q2⟩
theorem FRs.upw(g:Gw ρ H ρ' H'):∀(vs:List (Str×Val)) (xs:List (Str×V)),FRs K ρ H vs xs->FRs K ρ' H' vs xs
 | [],xs,e=>e
 | (k,v)::vs,xs,⟨x,r,e,q1,q2⟩=>⟨x,r,e,VR.upw g v x q1,FRs.upw g vs r q2⟩
theorem FRs.look{x:Str}:∀{vs:List (Str×Val)} {xs:List (Str×V)},FRs K ρ H vs xs->(vs.lookup x=none->xs.lookup x=none)/\∀v,vs.lookup x=some v->∃y,xs.lookup x=some y/\VR K ρ H v y
 | [],xs,e=>by rw[FRs] at e;subst e;exact⟨fun _=>rfl,fun v z=>by cases z⟩
 | (k,v)::vs,xs,e=>by
  rw[FRs] at e
  obtain⟨y,r,rfl,q1,q2⟩:=e
  rw[List.lookup_cons,List.lookup_cons]
  cases hb:x==k with
  | true=>exact⟨fun z=>(by cases z),fun w z=>by cases z;exact⟨y,rfl,q1⟩⟩
  | false=>exact FRs.look q2
theorem FRs.length:∀{vs:List (Str×Val)} {xs:List (Str×V)},FRs K ρ H vs xs->vs.length=xs.length
 | [],xs,e=>by rw[FRs] at e;subst e;rfl
 | (k,v)::vs,xs,e=>by rw[FRs] at e;obtain⟨y,r,rfl,_,q⟩:=e;simp[FRs.length q]
theorem FRs.put{x:Str}{w:Val}{y:V}(hw:VR K ρ H w y):∀{vs:List (Str×Val)} {xs:List (Str×V)},FRs K ρ H vs xs->FRs K ρ H (putFV x w vs) (putF x y xs)
 | [],xs,e=>by rw[FRs] at e;subst e;exact⟨y,[],rfl,hw,rfl⟩
 | (k,v)::vs,xs,e=>by
  rw[FRs] at e
  obtain⟨z,r,rfl,q1,q2⟩:=e
  rw[putFV,putF]
  by_cases hk:k=x
  ·rw[if_pos hk,if_pos hk];exact⟨y,r,rfl,hw,q2⟩
  ·rw[if_neg hk,if_neg hk];exact⟨z,_,rfl,q1,FRs.put hw q2⟩
theorem VR.up(g:Gr ρ H ρ' H')(v:Val)(x:V)(e:VR K ρ H v x):VR K ρ' H' v x:=VR.upw g.w v x e
theorem VRs.up(g:Gr ρ H ρ' H')(v:List Val)(x:List V)(e:VRs K ρ H v x):VRs K ρ' H' v x:=VRs.upw g.w v x e
theorem KRs.up(g:Gr ρ H ρ' H')(v:List (Key×Val))(x:List (Key×V))(e:KRs K ρ H v x):KRs K ρ' H' v x:=KRs.upw g.w v x e
theorem FRs.up(g:Gr ρ H ρ' H')(v:List (Str×Val))(x:List (Str×V))(e:FRs K ρ H v x):FRs K ρ' H' v x:=FRs.upw g.w v x e
theorem VRs.nil:VRs K ρ H [] []:=by rw[VRs]
theorem VRs.cons{v:Val}{vs:List Val}{x:V}{xs:List V}(a:VR K ρ H v x)(b:VRs K ρ H vs xs):VRs K ρ H (v::vs) (x::xs):=by rw[VRs];exact⟨x,xs,rfl,a,b⟩
theorem VRs.length:∀{vs:List Val} {xs:List V},VRs K ρ H vs xs->vs.length=xs.length
 | [],xs,e=>by rw[VRs] at e;subst e;rfl
 | v::vs,xs,e=>by rw[VRs] at e;obtain⟨x,r,rfl,_,q⟩:=e;simp[VRs.length q]
theorem VRs.get:∀{vs:List Val} {xs:List V} {i:Nat} {v:Val},VRs K ρ H vs xs->vs[i]?=some v->∃x,xs[i]?=some x/\VR K ρ H v x
 | [],xs,i,v,e,q=>by simp at q
 | w::vs,xs,0,v,e,q=>by
  rw[VRs] at e;obtain⟨x,r,rfl,a,_⟩:=e
  simp at q;subst q;exact⟨x,rfl,a⟩
 | w::vs,xs,i+1,v,e,q=>by
  rw[VRs] at e;obtain⟨x,r,rfl,_,b⟩:=e
  simp at q
  obtain⟨y,q1,q2⟩:=VRs.get b q
  exact⟨y,by simpa using q1,q2⟩
theorem VRs.append:∀{vs ws:List Val} {xs ys:List V},VRs K ρ H vs xs->VRs K ρ H ws ys->VRs K ρ H (vs++ws) (xs++ys)
 | [],ws,xs,ys,e,q=>by rw[VRs] at e;subst e;exact q
 | w::vs,ws,xs,ys,e,q=>by
  rw[VRs] at e;obtain⟨x,r,rfl,a,b⟩:=e
  exact VRs.cons a (VRs.append b q)
theorem VRs.take:∀{vs:List Val} {xs:List V} (n:Nat),VRs K ρ H vs xs->VRs K ρ H (vs.take n) (xs.take n)
 | _,_,0,_=>by simp;exact VRs.nil
 | [],xs,n+1,e=>by rw[VRs] at e;subst e;simp;exact VRs.nil
 | w::vs,xs,n+1,e=>by
  rw[VRs] at e;obtain⟨x,r,rfl,a,b⟩:=e
  exact VRs.cons a (VRs.take n b)
theorem VRs.drop:∀{vs:List Val} {xs:List V} (n:Nat),VRs K ρ H vs xs->VRs K ρ H (vs.drop n) (xs.drop n)
 | _,_,0,e=>by simpa using e
 | [],xs,n+1,e=>by rw[VRs] at e;subst e;simp;exact VRs.nil
 | w::vs,xs,n+1,e=>by
  rw[VRs] at e;obtain⟨x,r,rfl,a,b⟩:=e
  exact VRs.drop n b
theorem VRs.cut{vs:List Val}{xs:List V}(lo hi:Option Int)(e:VRs K ρ H vs xs):VRs K ρ H (cutL vs lo hi) (cutV xs lo hi):=by
 unfold cutL cutV
 rw[e.length]
 exact VRs.take _ (VRs.drop _ e)
theorem VRs.app:∀{vs ws:List Val} {xs ys:List V},VRs K ρ H vs xs->VRs K ρ H ws ys->VRs K ρ H (vs++ws) (xs++ys)
 | [],_,xs,_,e,q=>by rw[VRs] at e;subst e;exact q
 | v::vs,_,xs,_,e,q=>by
  rw[VRs] at e
  obtain⟨x,r,rfl,a,b⟩:=e
  rw[List.cons_append,List.cons_append,VRs]
  exact⟨x,_,rfl,a,VRs.app b q⟩
theorem VRs.rev:∀{vs:List Val} {xs:List V},VRs K ρ H vs xs->VRs K ρ H vs.reverse xs.reverse
 | [],xs,e=>by rw[VRs] at e;subst e;rw[List.reverse_nil,List.reverse_nil,VRs]
 | v::vs,xs,e=>by
  rw[VRs] at e
  obtain⟨x,r,rfl,a,b⟩:=e
  rw[List.reverse_cons,List.reverse_cons]
  refine VRs.app (VRs.rev b) ?_
  rw[VRs]
  exact⟨x,[],rfl,a,by rw[VRs]⟩
theorem VRs.atI{vs:List Val}{xs:List V}{i:Int}{v:Val}(e:VRs K ρ H vs xs)(q:L2.atI vs i=some v):∃x,L2.atI xs i=some x/\VR K ρ H v x:=by
 unfold L2.atI at q |-
 rw[e.length] at q
 cases hi:L2.ixN xs.length i with
 | none=>rw[hi] at q;cases q
 | some n=>rw[hi] at q;exact VRs.get e q
theorem VRs.set:∀{vs:List Val} {xs:List V} (n:Nat) {v:Val} {x:V},VRs K ρ H vs xs->VR K ρ H v x->VRs K ρ H (vs.set n v) (xs.set n x)
 | [],xs,n,v,x,e,q=>by rw[VRs] at e;subst e;simp;exact VRs.nil
 | w::vs,xs,0,v,x,e,q=>by
  rw[VRs] at e;obtain⟨y,r,rfl,a,b⟩:=e
  exact VRs.cons q b
 | w::vs,xs,n+1,v,x,e,q=>by
  rw[VRs] at e;obtain⟨y,r,rfl,a,b⟩:=e
  exact VRs.cons a (VRs.set n b q)
theorem VRs.one{v:Val}{xs:List V}(e:VRs K ρ H [v] xs):∃x,xs=[x]/\VR K ρ H v x:=by
 rw[VRs] at e;obtain⟨x,r,rfl,a,b⟩:=e
 rw[VRs] at b;subst b;exact⟨x,rfl,a⟩
theorem VRs.two{v w:Val}{xs:List V}(e:VRs K ρ H [v,w] xs):∃x y,xs=[x,y]/\VR K ρ H v x/\VR K ρ H w y:=by
 rw[VRs] at e;obtain⟨x,r,rfl,a,b⟩:=e
 obtain⟨y,rfl,c⟩:=VRs.one b
 exact⟨x,y,rfl,a,c⟩
theorem VR.int{i:Int}:VR K ρ H (.int i) (.int i):=by rw[VR]
theorem VR.str{i:Str}:VR K ρ H (.str i) (.str i):=by rw[VR]
theorem VR.bl{i:Bool}:VR K ρ H (.bl i) (.bl i):=by rw[VR]
theorem VR.non:VR K ρ H .non .non:=by rw[VR]
theorem VR.tup{a:Addr}{vs:List Val}{xs:List V}(q:SqT K H a xs)(e:VRs K ρ H vs xs):VR K ρ H (.tup vs) (.ref a):=by rw[VR];exact⟨a,xs,rfl,q,e⟩
theorem VR.ref{a:Addr}{i:Nat}(q:ρ[i]?=some a):VR K ρ H (.ref i) (.ref a):=by rw[VR];exact⟨a,rfl,q⟩
theorem VRs.ints:∀{ns:List Int} {xs:List V},VRs K ρ H (ns.map Val.int) xs↔xs=ns.map V.int
 | [],xs=>by simp[VRs]
 | n::ns,xs=>by
  simp only[List.map_cons]
  rw[VRs]
  constructor
  ·rintro⟨x,r,rfl,a,b⟩
   rw[VR] at a;subst a
   rw[(VRs.ints (ns:=ns)).mp b]
  ·rintro rfl
   exact⟨_,_,rfl,VR.int,(VRs.ints (ns:=ns)).mpr rfl⟩
theorem VRs.bools:∀{ns:List Bool} {xs:List V},VRs K ρ H (ns.map Val.bl) xs↔xs=ns.map V.bl
 | [],xs=>by simp[VRs]
 | n::ns,xs=>by
  simp only[List.map_cons]
  rw[VRs]
  constructor
  ·rintro⟨x,r,rfl,a,b⟩
   rw[VR] at a;subst a
   rw[(VRs.bools (ns:=ns)).mp b]
  ·rintro rfl
   exact⟨_,_,rfl,VR.bl,(VRs.bools (ns:=ns)).mpr rfl⟩
theorem VRs.tups:∀{kss:List (List Int)} {xs:List V},VRs K ρ H (kss.map itup) xs->∃rs:List (Addr×List Int),xs=rs.map (fun r=>V.ref r.1)/\kss=rs.map (·.2)/\∀r∈rs,SqT K H r.1 (r.2.map V.int)
 | [],xs,e=>by simp only[List.map_nil] at e;rw[VRs] at e;exact⟨[],e,rfl,fun _ z=>nomatch z⟩
 | ks::kss,xs,e=>by
  simp only[List.map_cons] at e
  rw[VRs] at e
  obtain⟨x,r,rfl,a,b⟩:=e
  obtain⟨rs,e1,e2,e3⟩:=VRs.tups b
  unfold itup at a
  rw[VR] at a
  obtain⟨p,ys,rfl,g1,g2⟩:=a
  rw[VRs.ints.mp g2] at g1
  refine⟨(p,ks)::rs,by rw[e1];rfl,by rw[e2];rfl,fun r hr=>?_⟩
  rcases List.mem_cons.mp hr with z|z
  ·rw[z];exact g1
  ·exact e3 r z
theorem VRs.of_tups:∀{rs:List (Addr×List Int)},(∀r∈rs,SqT K H r.1 (r.2.map V.int))->VRs K ρ H ((rs.map (·.2)).map itup) (rs.map fun r=>V.ref r.1)
 | [],_=>VRs.nil
 | r::rs,e=>VRs.cons (VR.tup (e r List.mem_cons_self) (VRs.ints.mpr rfl)) (VRs.of_tups fun q hq=>e q (List.mem_cons_of_mem _ hq))
theorem OR.mu{a:Addr}{o:Ob}(q:OR B ρ H a o):∃u,H a=some u/\Mu u=true:=by
 cases o with
 | lst xs=>obtain⟨ys,e,_⟩:=q;exact⟨_,e,rfl⟩
 | dct xs=>obtain⟨ys,e,_⟩:=q;exact⟨_,e,rfl⟩
 | ins c fs=>obtain⟨dx,ys,e,_⟩:=q;exact⟨_,e,rfl⟩
theorem HR.mu{a:Addr}(r:HR B ρ h H)(e:a ∈ ρ):∃u,H a=some u/\Mu u=true:=by
 obtain⟨i,hi,rfl⟩:=List.getElem_of_mem e
 have hi':i<h.length:=by rw[<-r.len];exact hi
 exact(r.ob i _ _ (List.getElem?_eq_getElem hi') (List.getElem?_eq_getElem hi)).mu
theorem HR.out{p:Addr}(r:HR B ρ h H)(e:H p=none):p ∉ ρ:=fun z=>by
 obtain⟨u,q,_⟩:=r.mu z
 rw[e] at q;cases q
theorem OR.upw{a:Addr}{o:Ob}(g:Gw ρ H ρ' H')(e:H' a=H a)(q:OR B ρ H a o):OR B ρ' H' a o:=by
 cases o with
 | lst xs=>obtain⟨ys,e1,e2⟩:=q;exact⟨ys,e.trans e1,VRs.upw g _ _ e2⟩
 | dct xs=>obtain⟨ys,e1,e2⟩:=q;exact⟨ys,e.trans e1,KRs.upw g _ _ e2⟩
 | ins c fs=>obtain⟨dx,ys,e1,e2⟩:=q;exact⟨dx,ys,e.trans e1,FRs.upw g _ _ e2⟩
theorem OR.up{a:Addr}{o:Ob}(g:Gr ρ H ρ' H')(e:H' a=H a)(q:OR B ρ H a o):OR B ρ' H' a o:=OR.upw g.w e q
theorem Gr.side{p:Addr}{o:HO}(e:H p=none):Gr ρ H ρ (upd H p o) where
 pre:=List.prefix_refl _
 keep a u q _:=by rw[upd_ne (ne_of_none q e)];exact q
 firm a u q _:=by rw[upd_ne (ne_of_none q e)];exact q
 fresh a z n:=absurd z n
theorem HR.side{p:Addr}{o:HO}(r:HR B ρ h H)(e:H p=none):HR B ρ h (upd H p o) where
 len:=r.len
 nd:=r.nd
 ob i u a q1 q2:=by
  refine OR.up (Gr.side e) ?_ (r.ob i u a q1 q2)
  refine upd_ne fun z=>?_
  subst z
  exact r.out e (List.mem_of_getElem? q2)
theorem Gw.other{p:Addr}{o u:HO}(e:H p=some u)(hm:Mu u=true):Gw ρ H ρ (upd H p o) where
 pre:=List.prefix_refl _
 firm a w q n:=by
  have:a≠p:=fun z=>by subst z;rw[e] at q;cases q;rw[hm] at n;cases n
  rw[upd_ne this];exact q
theorem HR.other{p:Addr}{o u:HO}(r:HR B ρ h H)(hp:p ∉ ρ)(e:H p=some u)(hm:Mu u=true):HR B ρ h (upd H p o) where
 len:=r.len
 nd:=r.nd
 ob i w a q1 q2:=OR.upw (Gw.other e hm) (upd_ne fun z=>by subst z;exact hp (List.mem_of_getElem? q2)) (r.ob i w a q1 q2)
theorem Gr.new{p:Addr}{o:HO}(e:H p=none):Gr ρ H (ρ ++ [p]) (upd H p o) where
 pre:=List.prefix_append _ _
 keep a u q _:=by rw[upd_ne (ne_of_none q e)];exact q
 firm a u q _:=by rw[upd_ne (ne_of_none q e)];exact q
 fresh a z n:=by
  rcases List.mem_append.mp z with z|z
  ·exact absurd z n
  ·rw[List.mem_singleton.mp z];exact e
theorem HR.new{p:Addr}{o:HO}{u:Ob}(r:HR B ρ h H)(e:H p=none)(q:OR B (ρ ++ [p]) (upd H p o) p u):HR B (ρ ++ [p]) (h++[u]) (upd H p o) where
 len:=by simp[r.len]
 nd:=by
  rw[List.nodup_append]
  refine⟨r.nd,by simp,fun a ha b hb=>?_⟩
  rw[List.mem_singleton.mp hb]
  rintro rfl
  exact r.out e ha
 ob i v a q1 q2:=by
  by_cases hi:i<h.length
  ·rw[List.getElem?_append_left hi] at q1
   rw[List.getElem?_append_left (by rw[r.len];exact hi)] at q2
   refine OR.up (Gr.new e) (upd_ne fun z=>?_) (r.ob i v a q1 q2)
   subst z
   exact r.out e (List.mem_of_getElem? q2)
  ·rw[List.getElem?_append_right (by omega)] at q1
   rw[List.getElem?_append_right (by rw[r.len];omega)] at q2
   have hi0:i-h.length=0:=by
    have:=(List.getElem?_eq_some_iff.mp q1).1
    simp at this;omega
   rw[hi0] at q1
   rw[r.len,hi0] at q2
   simp at q1 q2
   subst q1;subst q2
   exact q
theorem new_ref{p:Addr}(r:HR B ρ h H):VR K (ρ ++ [p]) H' (.ref h.length) (.ref p):=VR.ref (by rw[<-r.len];simp)
theorem nd_ix{α:Type}:∀{l:List α} {i j:Nat} {a:α},l.Nodup->l[i]?=some a->l[j]?=some a->i=j
 | [],i,j,a,_,e,_=>by simp at e
 | b::l,0,0,a,_,_,_=>rfl
 | b::l,0,j+1,a,n,e,f=>by
  simp at e f;subst e
  exact absurd (List.mem_of_getElem? f) (List.nodup_cons.mp n).1
 | b::l,i+1,0,a,n,e,f=>by
  simp at e f;subst f
  exact absurd (List.mem_of_getElem? e) (List.nodup_cons.mp n).1
 | b::l,i+1,j+1,a,n,e,f=>by
  simp at e f
  rw[nd_ix (List.nodup_cons.mp n).2 e f]
theorem Gr.put{p:Addr}{o u:HO}(hp:p ∈ ρ)(e:H p=some u)(hm:Mu u=true):Gr ρ H ρ (upd H p o) where
 pre:=List.prefix_refl _
 keep a w q n:=by rw[upd_ne fun z=>n (by rw[z];exact hp)];exact q
 firm a w q n:=by
  have:a≠p:=fun z=>by subst z;rw[e] at q;cases q;rw[hm] at n;cases n
  rw[upd_ne this];exact q
 fresh a z n:=absurd z n
theorem HR.put{p:Addr}{i:Nat}{o:HO}{u w:Ob}(r:HR B ρ h H)(hi:ρ[i]?=some p)(e:h[i]?=some w)(q:OR B ρ (upd H p o) p u):HR B ρ (h.set i u) (upd H p o) where
 len:=by simp[r.len]
 nd:=r.nd
 ob j v a q1 q2:=by
  obtain⟨z,k1,k2⟩:=(r.ob i w p e hi).mu
  by_cases hj:j=i
  ·subst hj
   rw[hi] at q2;cases q2
   have hlt:j<h.length:=(List.getElem?_eq_some_iff.mp e).1
   rw[List.getElem?_set_self hlt] at q1;cases q1
   exact q
  ·rw[List.getElem?_set_ne (fun z=>hj z.symm)] at q1
   refine OR.up (Gr.put (List.mem_of_getElem? hi) k1 k2) (upd_ne fun z=>?_) (r.ob j v a q1 q2)
   subst z
   exact hj (nd_ix r.nd q2 hi)
theorem lst_sq{v:Val}{x:V}{xs:List Val}(r:HR B ρ h H)(q:VR B.K ρ H v x)(e:lstOf h v=some xs):∃a ys,x=.ref a/\SqL B.K H a ys/\VRs B.K ρ H xs ys:=by
 cases v with
 | rl vs =>
  simp only[lstOf] at e;cases e
  rw[VR] at q
  obtain⟨a,ys,rfl,k1,k2⟩:=q
  exact⟨a,ys,rfl,k1.sq,k2⟩
 | ref i =>
  simp only[lstOf] at e
  split at e
  ·rename_i zs e1
   cases e
   rw[VR] at q
   obtain⟨a,rfl,k1⟩:=q
   obtain⟨ys,k2,k3⟩:=r.ob i _ a e1 k1
   exact⟨a,ys,rfl,.inl (.inl k2),k3⟩
  ·cases e
 | _=>cases e
theorem lst_own{i:Nat}{x:V}{xs:List Val}(r:HR B ρ h H)(q:VR B.K ρ H (.ref i) x)(e:h[i]?=some (.lst xs)):∃a ys,x=.ref a /\ ρ[i]?=some a/\H a=some (.lst ys)/\VRs B.K ρ H xs ys:=by
 rw[VR] at q
 obtain⟨a,rfl,k1⟩:=q
 obtain⟨ys,k2,k3⟩:=r.ob i _ a e k1
 exact⟨a,ys,rfl,k1,k2,k3⟩
theorem seq_sq{v:Val}{x:V}{xs:List Val}(r:HR B ρ h H)(q:VR B.K ρ H v x)(e:seqOf h v=some xs):∃a ys,x=.ref a/\(SqL B.K H a ys\/SqT B.K H a ys)/\VRs B.K ρ H xs ys:=by
 cases v with
 | tup vs =>
  simp only[seqOf] at e;cases e
  rw[VR] at q
  obtain⟨a,ys,rfl,k1,k2⟩:=q
  exact⟨a,ys,rfl,.inr k1,k2⟩
 | rl vs=>obtain⟨a,ys,e1,k1,k2⟩:=lst_sq r q (show lstOf h (.rl vs)=some xs from e);exact⟨a,ys,e1,.inl k1,k2⟩
 | ref vs=>obtain⟨a,ys,e1,k1,k2⟩:=lst_sq r q (show lstOf h (.ref vs)=some xs from e);exact⟨a,ys,e1,.inl k1,k2⟩
 | _=>cases e
theorem toD_ok(r:HR B ρ h H):∀(n:Nat) (v:Val) (x:V) (d:PyData),VR B.K ρ H v x->toD n h v=some d->Den B.K H d x/\d.canLay0=true/\d.depth<=n:=by
 intro n
 induction n with
 | zero=>intro v x d _ e;simp only[toD] at e;cases e
 | succ n ih =>
  have all:∀(vs:List Val) (xs:List V) (ds:List PyData),VRs B.K ρ H vs xs->mapO (toD n h) vs=some ds->Dens B.K H ds xs/\PyData.canLayAll0 ds=true/\PyData.depthAll ds<=n:=by
   intro vs
   induction vs with
   | nil=>intro xs ds q e;simp only[mapO] at e;cases e;rw[VRs] at q;subst q;exact⟨Dens.nil,rfl,by simp[PyData.depthAll]⟩
   | cons v vs ihv =>
    intro xs ds q e
    simp only[mapO] at e
    obtain⟨d,e1,e⟩:=Option.bind_eq_some_iff.mp e
    obtain⟨ds',e2,e⟩:=Option.bind_eq_some_iff.mp e
    cases e
    rw[VRs] at q
    obtain⟨x,r,rfl,q1,q2⟩:=q
    obtain⟨a1,a2,a3⟩:=ih v x d q1 e1
    obtain⟨b1,b2,b3⟩:=ihv r ds' q2 e2
    refine⟨Dens.cons a1 b1,by simp[PyData.canLayAll0,a2,b2],?_⟩
    simp only[PyData.depthAll];omega
  intro v x d q e
  cases v with
  | non=>simp only[toD] at e;cases e;rw[VR] at q;subst q;exact⟨Den.none,rfl,by simp[PyData.depth]⟩
  | bl b=>simp only[toD] at e;cases e;rw[VR] at q;subst q;exact⟨Den.bool,rfl,by simp[PyData.depth]⟩
  | int b=>simp only[toD] at e;cases e;rw[VR] at q;subst q;exact⟨Den.int,rfl,by simp[PyData.depth]⟩
  | str b =>
   simp only[toD] at e
   split at e
   ·rename_i hs;cases e;rw[VR] at q;subst q;exact⟨Den.str,by simp[PyData.canLay0,hs],by simp[PyData.depth]⟩
   ·cases e
  | tup vs =>
   simp only[toD] at e
   obtain⟨ds,e1,e⟩:=Option.bind_eq_some_iff.mp e
   cases e
   rw[VR] at q
   obtain⟨a,xs,rfl,q1,q2⟩:=q
   obtain⟨b1,b2,b3⟩:=all vs xs ds q2 e1
   exact⟨Den.tuple q1 b1,by simp[PyData.canLay0,b2],by simp only[PyData.depth];omega⟩
  | rl vs =>
   simp only[toD] at e
   obtain⟨ds,e1,e⟩:=Option.bind_eq_some_iff.mp e
   cases e
   rw[VR] at q
   obtain⟨a,xs,rfl,q1,q2⟩:=q
   obtain⟨b1,b2,b3⟩:=all vs xs ds q2 e1
   exact⟨Den.list q1.sq b1,by simp[PyData.canLay0,b2],by simp only[PyData.depth];omega⟩
  | dc _ _=>rw[VR] at q;exact q.elim
  | ob _ _ _=>rw[VR] at q;exact q.elim
  | ref i =>
   simp only[toD] at e
   obtain⟨vs,e0,e⟩:=Option.bind_eq_some_iff.mp e
   obtain⟨ds,e1,e⟩:=Option.bind_eq_some_iff.mp e
   cases e
   obtain⟨a,xs,rfl,q1,q2⟩:=lst_sq r q e0
   obtain⟨b1,b2,b3⟩:=all vs xs ds q2 e1
   exact⟨Den.list q1 b1,by simp[PyData.canLay0,b2],by simp only[PyData.depth];omega⟩
end
end Hv
end
section
namespace Hv
open PySem L2 PyProof.Rows
theorem insL_perm(x:List Int):∀l,(insL x l).Perm (x::l)
 | []=>.refl _
 | y::r=>by
  unfold insL;split
  ·exact((insL_perm x r).cons y).trans (.swap _ _ _)
  ·exact .refl _
theorem sortL_perm:∀l,(sortL l).Perm l
 | []=>.refl _
 | x::r=>(insL_perm x _).trans ((sortL_perm r).cons x)
theorem lexLe_trans{a b c:List Int}(h1:HT.lexLt b a=false)(h2:HT.lexLt c b=false):HT.lexLt c a=false:=by
 cases e:HT.lexLt c a with
 | false=>rfl
 | true =>
  rcases Srt.lexLt_neg c b a e with z|z
  ·rw[h2] at z;cases z
  ·rw[h1] at z;cases z
theorem lexLe_of_lt{a b:List Int}(h:HT.lexLt a b=true):HT.lexLt b a=false:=by
 cases e:HT.lexLt b a with
 | false=>rfl
 | true=>have:=Srt.lexLt_trans _ _ _ h e;rw[Srt.lexLt_irrefl] at this;cases this
theorem insL_up(x:List Int):∀l:List (List Int),l.Pairwise (fun a b=>HT.lexLt b a=false)->(insL x l).Pairwise (fun a b=>HT.lexLt b a=false)
 | [],_=>by simp[insL]
 | y::r,h=>by
  obtain⟨h1,h2⟩:=List.pairwise_cons.mp h
  unfold insL
  split
  ·rename_i hlt
   refine List.pairwise_cons.mpr ⟨fun z hz=>?_,insL_up x r h2⟩
   rcases List.mem_cons.mp ((insL_perm x r).mem_iff.mp hz) with rfl|hz
   ·exact lexLe_of_lt hlt
   ·exact h1 z hz
  ·rename_i hlt
   refine List.pairwise_cons.mpr ⟨fun z hz=>?_,h⟩
   have hxy:HT.lexLt y x=false:=by simpa using hlt
   rcases List.mem_cons.mp hz with rfl|hz
   ·exact hxy
   ·exact lexLe_trans hxy (h1 z hz)
theorem sortL_up:∀l,(sortL l).Pairwise (fun a b=>HT.lexLt b a=false)
 | []=>.nil
 | x::r=>insL_up x _ (sortL_up r)
theorem eq_sortL{l kss:List (List Int)}(hp:l.Perm kss)(hs:l.Pairwise (fun a b=>HT.lexLt b a=false)):l=sortL kss :=
 List.Perm.eq_of_pairwise (fun a b _ _ h1 h2=>Srt.lexLt_total a b h2 h1) hs (sortL_up kss) (hp.trans (sortL_perm kss).symm)
theorem minL_spec{ns:List Int}{m:Int}(h:m∈ns)(h2:∀a∈ns,m<=a):minL ns=some (.int m):=by
 cases ns with
 | nil=>cases h
 | cons a r =>
  have key:∀(r:List Int) (a:Int),(r.foldl min a)∈a::r/\∀b∈a::r,r.foldl min a<=b:=by
   intro r
   induction r with
   | nil=>intro a;simp
   | cons c r ih =>
    intro a
    obtain⟨q1,q2⟩:=ih (min a c)
    refine⟨?_,fun b hb=>?_⟩
    ·show List.foldl min (min a c) r∈_
     rcases List.mem_cons.mp q1 with z|z
     ·rw[z]
      rcases Int.le_total a c with hc|hc
      ·rw[Int.min_eq_left hc];exact List.mem_cons_self
      ·rw[Int.min_eq_right hc];exact List.mem_cons_of_mem _ List.mem_cons_self
     ·exact List.mem_cons_of_mem _ (List.mem_cons_of_mem _ z)
    ·show List.foldl min (min a c) r<=b
     have q3:=q2 (min a c) List.mem_cons_self
     rcases List.mem_cons.mp hb with z|z
     ·subst z;omega
     ·rcases List.mem_cons.mp z with z|z
      ·subst z;omega
      ·exact q2 b (List.mem_cons_of_mem _ z)
  obtain⟨q1,q2⟩:=key r a
  show some (Val.int (r.foldl min a))=_
  rw[Int.le_antisymm (q2 m h) (h2 _ q1)]
theorem maxL_spec{ns:List Int}{m:Int}(h:m∈ns)(h2:∀a∈ns,a<=m):maxL ns=some (.int m):=by
 cases ns with
 | nil=>cases h
 | cons a r =>
  have key:∀(r:List Int) (a:Int),(r.foldl max a)∈a::r/\∀b∈a::r,b<=r.foldl max a:=by
   intro r
   induction r with
   | nil=>intro a;simp
   | cons c r ih =>
    intro a
    obtain⟨q1,q2⟩:=ih (max a c)
    refine⟨?_,fun b hb=>?_⟩
    ·show List.foldl max (max a c) r∈_
     rcases List.mem_cons.mp q1 with z|z
     ·rw[z]
      rcases Int.le_total a c with hc|hc
      ·rw[Int.max_eq_right hc];exact List.mem_cons_of_mem _ List.mem_cons_self
      ·rw[Int.max_eq_left hc];exact List.mem_cons_self
     ·exact List.mem_cons_of_mem _ (List.mem_cons_of_mem _ z)
    ·show b<=List.foldl max (max a c) r
     have q3:=q2 (max a c) List.mem_cons_self
     rcases List.mem_cons.mp hb with z|z
     ·subst z;omega
     ·rcases List.mem_cons.mp z with z|z
      ·subst z;omega
      ·exact q2 b (List.mem_cons_of_mem _ z)
  obtain⟨q1,q2⟩:=key r a
  show some (Val.int (r.foldl max a))=_
  rw[Int.le_antisymm (h2 _ q1) (q2 m h)]
noncomputable def Post(B:Bd)(EX:Nat->List V->Hp->Prop)(ρ:List Addr)(H:Hp){α:Type}(W:α -> Hs->List Addr->Hp->Prop):Out α -> Prop
 | .ok a h'=>∀ρ' H',Gr ρ H ρ' H'->HR B ρ' h' H'->W a h' ρ' H'
 | .exc c vs h'=>∀ρ' H' xs,Gr ρ H ρ' H'->HR B ρ' h' H'->VRs B.K ρ' H' vs xs->EX c xs H'
 | .no=>False
noncomputable def WV(K:PySem.W.Frag)(Q:VK):Val->Hs->List Addr->Hp->Prop:=fun v _ ρ' H'=>∀x,VR K ρ' H' v x->Q x H'
section
variable {B:Bd} {EX:Nat->List V->Hp->Prop} {ρ ρ':List Addr} {H H':Hp} {α β:Type} {W:β -> Hs->List Addr->Hp->Prop} {h h':Hs} {Q:VK}
theorem Post.up{W:α -> Hs->List Addr->Hp->Prop}{o:Out α}(g:Gr ρ H ρ' H')(p:Post B EX ρ H W o):Post B EX ρ' H' W o:=by
 cases o with
 | ok a h'=>exact fun ρ2 H2 g2 r=>p ρ2 H2 (g.trans g2) r
 | exc c vs h'=>exact fun ρ2 H2 xs g2 r=>p ρ2 H2 xs (g.trans g2) r
 | no=>exact p
theorem post_guard{c:Bool}{m:M β}(p:Post B EX ρ H W (guardM c m h)):c=true/\Post B EX ρ H W (m h):=by
 unfold guardM at p
 split at p
 ·rename_i e;exact⟨e,p⟩
 ·exact p.elim
theorem post_ask{f:Hs->Option α}{g:α -> M β}(p:Post B EX ρ H W (bnd (ask f) g h)):∃a,f h=some a/\Post B EX ρ H W (g a h):=by
 unfold bnd ask lft at p
 cases e:f h with
 | none=>rw[e] at p;exact p.elim
 | some a=>rw[e] at p;exact⟨a,rfl,p⟩
theorem post_ask'{f:Hs->Option β}(r:HR B ρ h H)(p:Post B EX ρ H W (ask f h)):∃a,f h=some a/\W a h ρ H:=by
 unfold ask lft at p
 cases e:f h with
 | none=>rw[e] at p;exact p.elim
 | some a=>rw[e] at p;exact⟨a,rfl,p ρ H Gr.refl r⟩
theorem post_lft{o:Option α}{g:α -> M β}(p:Post B EX ρ H W (bnd (lft o) g h)):∃a,o=some a/\Post B EX ρ H W (g a h):=by
 unfold bnd lft at p
 cases e:o with
 | none=>rw[e] at p;exact p.elim
 | some a=>rw[e] at p;exact⟨a,rfl,p⟩
theorem post_lft'{o:Option β}(r:HR B ρ h H)(p:Post B EX ρ H W (lft o h)):∃a,o=some a/\W a h ρ H:=by
 unfold lft at p
 cases e:o with
 | none=>rw[e] at p;exact p.elim
 | some a=>rw[e] at p;exact⟨a,rfl,p ρ H Gr.refl r⟩
theorem post_ret{a:β}(r:HR B ρ h H)(p:Post B EX ρ H W (ret a h)):W a h ρ H:=p ρ H Gr.refl r
theorem post_new{o:Ob}{O:HO}{p:Addr}(r:HR B ρ h H)(hp:H p=none)(q:OR B (ρ ++ [p]) (upd H p O) p o)(w:Post B EX ρ H (WV B.K Q) (new o h)):Q (.ref p) (upd H p O) :=
 w (ρ ++ [p]) (upd H p O) (Gr.new hp) (r.new hp q) _ (new_ref r)
theorem post_newL{xs:List Val}{ys:List V}{p:Addr}(r:HR B ρ h H)(hp:H p=none)(q:VRs B.K ρ H xs ys)(w:Post B EX ρ H (WV B.K Q) (new (.lst xs) h)):Q (.ref p) (upd H p (.lst ys)) :=
 post_new (o:=.lst xs) (O:=.lst ys) r hp ⟨ys,upd_same,VRs.up (Gr.new hp) _ _ q⟩ w
theorem post_tup{xs:List Val}{ys:List V}{p:Addr}(r:HR B ρ h H)(hp:H p=none)(q:VRs B.K ρ H xs ys)(w:Post B EX ρ H (WV B.K Q) (ret (Val.tup xs) h)):Q (.ref p) (upd H p (.tup ys)) :=
 w ρ (upd H p (.tup ys)) (Gr.side hp) (r.side hp) _ (VR.tup (SqT.of upd_same) (VRs.up (Gr.side hp) _ _ q))
theorem post_bnd{m:M Val}{f:Val->M β}(p:Post B EX ρ H W (bnd m f h))(k:∀v h1 ρ1 x H1,Gr ρ H ρ1 H1->HR B ρ1 h1 H1->VR B.K ρ1 H1 v x->Post B EX ρ1 H1 W (f v h1)->Q x H1):Post B EX ρ H (WV B.K Q) (m h):=by
 unfold bnd at p
 cases e:m h with
 | ok v h1=>rw[e] at p;exact fun ρ1 H1 g r x q=>k v h1 ρ1 x H1 g r q (Post.up g p)
 | exc c vs h1=>rw[e] at p;exact p
 | no=>rw[e] at p;exact p
theorem post_bndG{m:M α}{f:α -> M β}{W':α -> Hs->List Addr->Hp->Prop}(p:Post B EX ρ H W (bnd m f h))(k:∀v h1 ρ1 H1,Gr ρ H ρ1 H1->HR B ρ1 h1 H1->Post B EX ρ1 H1 W (f v h1)->W' v h1 ρ1 H1):Post B EX ρ H W' (m h):=by
 unfold bnd at p
 cases e:m h with
 | ok v h1=>rw[e] at p;exact fun ρ1 H1 g r=>k v h1 ρ1 H1 g r (Post.up g p)
 | exc c vs h1=>rw[e] at p;exact p
 | no=>rw[e] at p;exact p
end
theorem ints_some:∀{ds:List Val} {ns:List Int},ints? ds=some ns->ds=ns.map .int
 | [],ns,e=>by simp only[ints?,mapO] at e;cases e;rfl
 | v::r,ns,e=>by
  simp only[ints?,mapO] at e
  obtain⟨i,e1,e⟩:=Option.bind_eq_some_iff.mp e
  obtain⟨is,e2,e⟩:=Option.bind_eq_some_iff.mp e
  cases e
  cases v<;>first|cases e1|skip
  rw[ints_some (show ints? r=some is from e2)];rfl
theorem bools_some:∀{ds:List Val} {ns:List Bool},bools? ds=some ns->ds=ns.map .bl
 | [],ns,e=>by simp only[bools?,mapO] at e;cases e;rfl
 | v::r,ns,e=>by
  simp only[bools?,mapO] at e
  obtain⟨i,e1,e⟩:=Option.bind_eq_some_iff.mp e
  obtain⟨is,e2,e⟩:=Option.bind_eq_some_iff.mp e
  cases e
  cases v<;>first|cases e1|skip
  rw[bools_some (show bools? r=some is from e2)];rfl
theorem tups_some:∀{ds:List Val} {kss:List (List Int)},tups? ds=some kss->ds=kss.map itup/\∀ks∈kss,ks≠[]
 | [],ns,e=>by simp only[tups?,mapO] at e;cases e;exact⟨rfl,fun _ z=>nomatch z⟩
 | v::r,ns,e=>by
  simp only[tups?,mapO] at e
  obtain⟨i,e1,e⟩:=Option.bind_eq_some_iff.mp e
  obtain⟨is,e2,e⟩:=Option.bind_eq_some_iff.mp e
  cases e
  cases v<;>first|cases e1|skip
  rename_i vs
  dsimp only at e1
  split at e1
  ·cases e1
  ·rename_i hne
   obtain⟨q1,q2⟩:=tups_some (show tups? r=some is from e2)
   have e3:=ints_some e1
   subst e3
   refine⟨by rw[q1];rfl,fun ks hk=>?_⟩
   rcases List.mem_cons.mp hk with z|z
   ·subst z;intro z;subst z;exact hne rfl
   ·exact q2 ks z
section
variable {X:Cx} {cl:Nat->Addr} {EX:Nat->List V->Hp->Prop}
noncomputable abbrev bd(X:Cx)(cl:Nat->Addr):Bd:=⟨X.K,cl⟩
theorem op_addL:OpR X (binaryOp .Add) (fun x y H Q=>∃a b xs ys,x=.ref a/\y=.ref b/\SqL X.K H a xs/\SqL X.K H b ys/\xs.length+ys.length<=sizeLine/\∀p,H p=none->Q (.ref p) (upd H p (.lst (xs++ys)))):=by
 intro pins s σ H x y v u Q I rx ry h
 obtain⟨l,l',xs,ys,rfl,rfl,q1,q3,hl,q⟩:=h
 cases rx;cases ry
 obtain⟨its,r1,pl1,z1⟩:=I.list q1
 obtain⟨its',r2,pl2,z2⟩:=I.list q3
 have l1:=r1.length
 have l2:=r2.length
 obtain⟨⟨oc,od,odt,osl⟩,n1,e1,e2,_,e4⟩:=pl1
 obtain⟨⟨oc',od',odt',osl'⟩,n2,f1,f2,_,f4⟩:=pl2
 cases e2;cases e4;cases f2;cases f4
 refine concat_meets ⟨_,e1,rfl⟩ ⟨_,f1,rfl⟩ noFill_list_add seq_list_add PySem.F.slot_list_add PySem.F.entry_list_add (PySem.F.args_list_add_2 _ _) (list_addW l l' its.toArray its'.toArray n1 n2 od od' osl osl' (by simp only[List.size_toArray];omega)) ⟨e1,f1,?_⟩
 have ea:its.toArray++its'.toArray=(its++its').toArray:=by simp
 rw[ea]
 have hn:H s.heap.objs.size=none:=I.hok.fresh (Nat.le_refl _)
 exact⟨.ref s.heap.objs.size,_,I.lnew (t':=s.toks) (its:=its++its') (r1.append r2) (by rw[List.length_append];omega),rfl,q _ hn⟩
noncomputable def opOf:Bop->Operator
 | .add=>.Add|.sub=>.Sub|.mul=>.Mult|.fdiv=>.FloorDiv|.mod=>.Mod|.pow=>.Pow
noncomputable def cmpOf:Cop->CmpOp
 | .eq=>.Eq|.ne=>.NotEq|.lt=>.Lt|.le=>.LtE|.gt=>.Gt|.ge=>.GtE|.isn=>.Is|.ntn=>.IsNot|.inn=>.In|.nin=>.NotIn
noncomputable def rB(B:Bd)(EX:Nat->List V->Hp->Prop)(o:Bop):R2:=fun x y H Q=>∃ρ h v w,HR B ρ h H/\VR B.K ρ H v x/\VR B.K ρ H w y/\Post B EX ρ H (WV B.K Q) (bop o v w h)
theorem dvOk.log{j:Int}(h:dvOk j=true):0<j/\j.natAbs.log2<9000:=by
 have h:=of_decide_eq_true h
 refine⟨h.1,(Nat.log2_lt (by omega)).mpr ?_⟩
 have e:j.natAbs<2 ^ 200:=by
  have:(2:Nat) ^ 200=1606938044258990275541962092341162602522202993782792835301376:=by decide
  omega
 exact Nat.lt_of_lt_of_le e (Nat.pow_le_pow_right (by decide) (by decide))
theorem op_fdivW:OpR X (binaryOp .FloorDiv) (rI (fun _ j=>dvOk j=true) fun i j=>.int (i/j)):=opI fun i j _ _ _ _ _ hc q=>by
 obtain⟨h1,h2⟩:=dvOk.log hc
 exact PyProof.Rows.floordiv_int (by omega) (by rw[Int.fdiv_eq_ediv_of_nonneg i (by omega)];exact q) (.inl (PyProof.noPylong_of_log2 h2))
theorem iop_fdivW:OpR X (inplaceOp .FloorDiv) (rI (fun _ j=>dvOk j=true) fun i j=>.int (i/j)):=opI fun i j _ _ _ _ _ hc q=>by
 obtain⟨h1,h2⟩:=dvOk.log hc
 exact PyProof.Rows.ifloordiv_int (by omega) (by rw[Int.fdiv_eq_ediv_of_nonneg i (by omega)];exact q) (.inl (PyProof.noPylong_of_log2 h2))
theorem bop_ii{o:Bop}(ho:o≠.add)(v w:Val)(h:Hs):(∃i j,v=.int i/\w=.int j)\/bop o v w h=.no:=by
 cases v with
 | int i =>
  cases w with
  | int j=>exact .inl ⟨i,j,rfl,rfl⟩
  | _=>right;cases o<;>first|rfl|exact absurd rfl ho
 | _=>right;cases o<;>first|rfl|exact absurd rfl ho
theorem op_bop(o:Bop):OpR X (binaryOp (opOf o)) (rB (bd X cl) EX o):=by
 intro pins s σ H x y v' u' Q I rx ry hh
 obtain⟨ρ,h,v,w,r,hv,hw,p⟩:=hh
 have lists:Post (bd X cl) EX ρ H (WV X.K Q) (bnd (ask fun h=>lstOf h v) (fun a=>bnd (ask fun h=>lstOf h w) fun b=>guardM (decide (a.length+b.length<=sizeLine)) (new (.lst (a++b)))) h)->wpAny (model X.prog X.w) X.A (binaryOp .Add v' u') (EP X pins σ Q) X.xe s:=by
  intro p
  obtain⟨a,e1,p⟩:=post_ask p
  obtain⟨b,e2,p⟩:=post_ask p
  obtain⟨e3,p⟩:=post_guard p
  have e3:=of_decide_eq_true e3
  obtain⟨a1,ys1,rfl,k1,k2⟩:=lst_sq r hv e1
  obtain⟨a2,ys2,rfl,k3,k4⟩:=lst_sq r hw e2
  exact op_addL pins s σ H _ _ v' u' Q I rx ry ⟨a1,a2,ys1,ys2,rfl,rfl,k1,k3,by rw[<-k2.length,<-k4.length];exact e3,fun q hq=>post_newL r hq (VRs.append k2 k4) p⟩
 cases o with
 | add =>
  cases v<;>cases w<;>first
   | exact lists p
   | skip
  ·rename_i a b
   rw[VR] at hv hw;subst hv;subst hw
   exact op_add pins s σ H _ _ _ _ Q I rx ry ⟨a,b,rfl,rfl,post_ret r p _ VR.int⟩
  ·rename_i a b
   rw[VR] at hv hw;subst hv;subst hw
   obtain⟨e,p⟩:=post_guard p
   exact op_add_str pins s σ H _ _ _ _ Q I rx ry ⟨a,b,rfl,rfl,of_decide_eq_true e,post_ret r p _ VR.str⟩
  ·rename_i a b
   rw[VR] at hv hw
   obtain⟨a1,ys1,rfl,k1,k2⟩:=hv
   obtain⟨a2,ys2,rfl,k3,k4⟩:=hw
   obtain⟨e,p⟩:=post_guard p
   simp only[Bool.and_eq_true,Bool.not_eq_true',decide_eq_true_eq] at e
   refine op_catT pins s σ H _ _ _ _ Q I rx ry ⟨a1,a2,ys1,ys2,rfl,rfl,k1,k3,?_,by rw[<-k2.length,<-k4.length];exact e.2,fun z=>?_,fun _ q hq=>post_tup r hq (VRs.append k2 k4) p⟩
   ·intro z;subst z
    have:=k2.length
    cases a with
    | nil=>simp at e
    | cons _ _=>simp at this
   ·subst z
    have hb:b=[]:=by cases b with|nil=>rfl|cons _ _=>have:=k4.length;simp at this
    subst hb
    rw[List.append_nil] at p
    exact post_ret r p _ (VR.tup k1 k2)
 | sub =>
  rcases bop_ii (o:=.sub) (by intro z;cases z) v w h with ⟨i,j,rfl,rfl⟩|z
  case inr=>rw[z] at p;exact p.elim
  rw[VR] at hv hw;subst hv;subst hw
  exact op_sub pins s σ H _ _ _ _ Q I rx ry ⟨_,_,rfl,rfl,post_ret r p _ VR.int⟩
 | mul =>
  rcases bop_ii (o:=.mul) (by intro z;cases z) v w h with ⟨i,j,rfl,rfl⟩|z
  case inr=>rw[z] at p;exact p.elim
  rw[VR] at hv hw;subst hv;subst hw
  obtain⟨hm,p⟩:=post_guard p
  refine op_mul pins s σ H _ _ _ _ Q I rx ry ⟨_,_,rfl,rfl,?_,post_ret r p _ VR.int⟩
  unfold mulOk at hm
  simp only[Bool.or_eq_true,Bool.and_eq_true,decide_eq_true_eq] at hm
  exact hm
 | fdiv =>
  rcases bop_ii (o:=.fdiv) (by intro z;cases z) v w h with ⟨i,j,rfl,rfl⟩|z
  case inr=>rw[z] at p;exact p.elim
  rw[VR] at hv hw;subst hv;subst hw
  obtain⟨hm,p⟩:=post_guard p
  exact op_fdivW pins s σ H _ _ _ _ Q I rx ry ⟨_,_,rfl,rfl,hm,post_ret r p _ VR.int⟩
 | mod =>
  rcases bop_ii (o:=.mod) (by intro z;cases z) v w h with ⟨i,j,rfl,rfl⟩|z
  case inr=>rw[z] at p;exact p.elim
  rw[VR] at hv hw;subst hv;subst hw
  obtain⟨hm,p⟩:=post_guard p
  exact op_mod pins s σ H _ _ _ _ Q I rx ry ⟨_,_,rfl,rfl,of_decide_eq_true hm,post_ret r p _ VR.int⟩
 | pow =>
  rcases bop_ii (o:=.pow) (by intro z;cases z) v w h with ⟨i,j,rfl,rfl⟩|z
  case inr=>rw[z] at p;exact p.elim
  rw[VR] at hv hw;subst hv;subst hw
  obtain⟨hm,p⟩:=post_guard p
  have hm:=of_decide_eq_true hm
  exact op_pow pins s σ H _ _ _ _ Q I rx ry ⟨_,_,rfl,rfl,hm,post_ret r p _ VR.int⟩
end
end Hv
end
section
namespace Hv
open PySem L2 PyProof.Rows
section
variable {X:Cx} {cl:Nat->Addr} {EX:Nat->List V->Hp->Prop}
theorem eqH_some{h:Hs}{v w:Val}{b:Bool}(e:eqH h v w=some b):∃d f,toD 16 h v=some d/\toD 16 h w=some f/\b=PyData.eqv d f:=by
 unfold eqH at e
 obtain⟨d,e1,e⟩:=Option.bind_eq_some_iff.mp e
 obtain⟨f,e2,e⟩:=Option.bind_eq_some_iff.mp e
 exact⟨d,f,e1,e2,(Option.some.inj e).symm⟩
theorem non_iff{K:PySem.W.Frag}{ρ:List Addr}{H:Hp}{v:Val}{x:V}(q:VR K ρ H v x):decide (x=.non)=isNon v:=by
 cases v<;>rw[VR] at q
 ·subst q;rfl
 ·subst q;rfl
 ·subst q;rfl
 ·subst q;rfl
 ·obtain⟨a,xs,rfl,_⟩:=q;rfl
 ·obtain⟨a,xs,rfl,_⟩:=q;rfl
 ·exact q.elim
 ·exact q.elim
 ·obtain⟨a,rfl,_⟩:=q;rfl
theorem op_inD(hu:X.A.units+64<cLine)(neg:Bool):OpR X (compareOp (if neg=true then .NotIn else .In)) (fun x y H Q=>∃d f ds,Den X.K H d x/\Den X.K H f y/\d.canLay0=true/\f.canLay0=true/\d.depth<=16/\(f=.list ds\/f=.tuple ds)/\Q (.bl (if neg=true then !(ds.any fun y=>PyData.eqv y d) else ds.any fun y=>PyData.eqv y d)) H):=by
 intro pins s σ H x y v u Q I rx ry hh
 obtain⟨d,f,ds,hd,hf,c1,c2,hz,e,q⟩:=hh
 obtain⟨as,ra⟩:=Den.reads I d x v c1 hd rx
 obtain⟨bs,rb⟩:=Den.reads I f y u c2 hf ry
 have hu':X.A.units+1+min (PyData.depthAll ds) d.depth<cLine:=by have:=Nat.min_le_right (PyData.depthAll ds) d.depth;omega
 rcases e with rfl|rfl
 ·have c3:PyData.canLayAll0 ds=true:=by simpa [PyData.canLay0] using c2
  cases neg with
  | true=>exact SeqAt.notIn_list_reads rb ra c3 c1 hu' ⟨.bl _,H,I,rfl,q⟩
  | false=>exact SeqAt.in_list_reads rb ra c3 c1 hu' ⟨.bl _,H,I,rfl,q⟩
 ·have c3:PyData.canLayAll0 ds=true:=by simpa [PyData.canLay0] using c2
  cases neg with
  | true=>exact SeqAt.notIn_tuple_reads rb ra c3 c1 hu' ⟨.bl _,H,I,rfl,q⟩
  | false=>exact SeqAt.in_tuple_reads rb ra c3 c1 hu' ⟨.bl _,H,I,rfl,q⟩
theorem KRs.val{K:PySem.W.Frag}{ρ:List Addr}{H:Hp}(k:Key):∀{kvs:List (Key×Val)} {ks:List (Key×V)},KRs K ρ H kvs ks->(valK kvs k=none->valV ks k=none)/\∀v,valK kvs k=some v->∃x,valV ks k=some x/\VR K ρ H v x
 | [],ks,e=>by
  have:ks=[]:=e
  subst this
  exact⟨fun _=>rfl,fun v z=>by simp[valK] at z⟩
 | (k',v')::kvs,ks,⟨x,r,e,q1,q2⟩=>by
  subst e
  obtain⟨a,b⟩:=KRs.val k q2
  by_cases hk:k'=k
  ·subst hk
   refine⟨fun z=>by simp[valK] at z,fun v z=>⟨x,by simp[valV],?_⟩⟩
   simp[valK] at z;subst z;exact q1
  ·have e1:valK ((k',v')::kvs) k=valK kvs k:=by simp[valK,hk]
   have e2:valV ((k',x)::r) k=valV r k:=by simp[valV,hk]
   rw[e1,e2];exact⟨a,b⟩
theorem KRs.length{K:PySem.W.Frag}{ρ:List Addr}{H:Hp}:∀{kvs:List (Key×Val)} {ks:List (Key×V)},KRs K ρ H kvs ks->kvs.length=ks.length
 | [],ks,e=>by have:ks=[]:=e;subst this;rfl
 | (k',v')::kvs,ks,⟨x,r,e,q1,q2⟩=>by subst e;simp[KRs.length q2]
theorem KRs.any{K:PySem.W.Frag}{ρ:List Addr}{H:Hp}(k:Key):∀{kvs:List (Key×Val)} {ks:List (Key×V)},KRs K ρ H kvs ks->(kvs.any fun kv=>decide (kv.1=k))=(ks.any fun kv=>decide (kv.1=k))
 | [],ks,e=>by have:ks=[]:=e;subst this;rfl
 | (k',v')::kvs,ks,⟨x,r,e,q1,q2⟩=>by subst e;simp only[List.any_cons];rw[KRs.any k q2]
theorem KRs.repl{K:PySem.W.Frag}{ρ:List Addr}{H:Hp}(k:Key){v:Val}{y:V}(q:VR K ρ H v y):∀{kvs:List (Key×Val)} {ks:List (Key×V)},KRs K ρ H kvs ks->KRs K ρ H (kvs.map fun kv=>if kv.1=k then (kv.1,v) else kv) (ks.map fun kv=>if kv.1=k then (kv.1,y) else kv)
 | [],ks,e=>by have:ks=[]:=e;subst this;rfl
 | (k',v')::kvs,ks,⟨x,r,e,q1,q2⟩=>by
  subst e
  simp only[List.map_cons]
  by_cases hk:k'=k
  ·rw[if_pos hk,if_pos hk];exact⟨y,_,rfl,q,KRs.repl k q q2⟩
  ·rw[if_neg hk,if_neg hk];exact⟨x,_,rfl,q1,KRs.repl k q q2⟩
theorem KRs.snoc{K:PySem.W.Frag}{ρ:List Addr}{H:Hp}(k:Key){v:Val}{y:V}(q:VR K ρ H v y):∀{kvs:List (Key×Val)} {ks:List (Key×V)},KRs K ρ H kvs ks->KRs K ρ H (kvs++[(k,v)]) (ks++[(k,y)])
 | [],ks,e=>by have:ks=[]:=e;subst this;exact⟨y,[],rfl,q,rfl⟩
 | (k',v')::kvs,ks,⟨x,r,e,q1,q2⟩=>by subst e;exact⟨x,_,rfl,q1,KRs.snoc k q q2⟩
theorem KRs.put{K:PySem.W.Frag}{ρ:List Addr}{H:Hp}(k:Key){v:Val}{y:V}(q:VR K ρ H v y){kvs:List (Key×Val)}{ks:List (Key×V)}(e:KRs K ρ H kvs ks):KRs K ρ H (putV kvs k v) (putK ks k y):=by
 unfold putV putK
 rw[KRs.any k e]
 split
 ·exact KRs.repl k q e
 ·exact KRs.snoc k q e
theorem key_kV{K:PySem.W.Frag}{ρ:List Addr}{H:Hp}{v:Val}{x:V}{k:Key}(q:VR K ρ H v x)(e:keyOf v=some k):x=kV k:=by
 cases v<;>simp only[keyOf] at e<;>first|cases e|skip
 ·rw[VR] at q;exact q
 ·rw[VR] at q;exact q
theorem ix_dict(hu:X.A.units+64<cLine):IxR X (fun x y H Q=>∃a v,x=.ref a/\DGet H a y (some v)/\Q v H):=by
 intro value slice pins s σ H x y v u Q I rx ry h hs
 obtain⟨a,z,rfl,g,q⟩:=h
 cases rx
 have hT:=dict_typeIs I g
 unfold subscriptTail
 refine wpAny_bind ?_
 rw[getitemInPython_of_ne hT.not_modules]
 refine wpAny_bind (wpAny_specialOf hT PySem.F.slot_dict_getitem.lookup ?_)
 have fin:wpAny (model X.prog X.w) X.A (subscripted slice false (.ref a) u) (fun r s₃=>wpAny (model X.prog X.w) X.A (letTemporaryGo value (.ref a) r >>= fun _=>pure r) (EP X pins σ Q) X.xe s₃) X.xe s:=by
  rw[hs]
  exact wpAny_operating (d_getItem (by omega) I g ry fun w' s' I' r'=>wpAny_bind (wpAny_letTemporaryGo (wpAny_pure ⟨z,H,I',r',q⟩)))
 first
  | exact wpAny_pure (wpAny_bind fin)
  | exact wpAny_bind (wpAny_pure (wpAny_bind fin))
  | exact wpAny_bind fin
noncomputable def rC(B:Bd)(o:Cop):R2:=fun x y H Q=>∃ρ h v w b,HR B ρ h H/\VR B.K ρ H v x/\VR B.K ρ H w y/\cop h o v w=some b/\Q (.bl b) H
theorem mem_data{h:Hs}{v w:Val}{b:Bool}(e:memD h v w=some b):∃d f ds,toD 16 h v=some d/\toD 16 h w=some f/\(f=.list ds\/f=.tuple ds)/\b=ds.any fun y=>PyData.eqv y d:=by
 unfold memD at e
 obtain⟨f,e1,e⟩:=Option.bind_eq_some_iff.mp e
 obtain⟨d,e2,e⟩:=Option.bind_eq_some_iff.mp e
 cases f<;>simp only[anyD] at e<;>first|cases e|skip
 ·exact⟨d,_,_,e2,e1,.inl rfl,rfl⟩
 ·exact⟨d,_,_,e2,e1,.inr rfl,rfl⟩
theorem mem_other{h:Hs}{v w:Val}{b:Bool}(hw:∀ks vs,w≠.dc ks vs)(e:memH h v w=some b):(∃x y,v=.str x/\w=.str y/\b = !(Builtin.Str.occurrences y x 0 y.length 1).isEmpty)\/(∃i kvs k,w=.ref i/\h[i]?=some (.dct kvs)/\keyOf v=some k/\b=(valK kvs k).isSome) \/
  ∃d f ds,toD 16 h v=some d/\toD 16 h w=some f/\(f=.list ds\/f=.tuple ds)/\b=ds.any fun y=>PyData.eqv y d:=by
 cases w with
 | ref i =>
  have e':(h[i]?).bind (memK h v i)=some b:=by cases v<;>exact e
  obtain⟨ob,e1,e2⟩:=Option.bind_eq_some_iff.mp e'
  cases ob with
  | dct kvs =>
   obtain⟨k,e3,e4⟩:=Option.bind_eq_some_iff.mp (show (keyOf v).bind _=some b from e2)
   exact .inr (.inl ⟨i,kvs,k,rfl,e1,e3,(Option.some.inj e4).symm⟩)
  | lst xs=>exact .inr (.inr (mem_data e2))
  | ins c fs=>exact .inr (.inr (mem_data e2))
 | dc ks vs=>exact absurd rfl (hw ks vs)
 | str y =>
  cases v with
  | str x=>exact .inl ⟨x,y,rfl,rfl,(Option.some.inj e).symm⟩
  | _=>exact .inr (.inr (mem_data e))
 | _=>exact .inr (.inr (mem_data (by cases v<;>exact e)))
theorem op_cop(hu:X.A.units+64<cLine)(o:Cop):OpR X (compareOp (cmpOf o)) (rC (bd X cl) o):=by
 intro pins s σ H x y v' u' Q I rx ry hh
 obtain⟨ρ,h,v,w,b,r,hv,hw,e,q⟩:=hh
 have mem:∀(neg:Bool),memH h v w=some (if neg=true then !b else b)->wpAny (model X.prog X.w) X.A (compareOp (if neg=true then .NotIn else .In) v' u') (EP X pins σ Q) X.xe s:=by
  intro neg e
  have nd:∀ks vs,w≠.dc ks vs:=fun ks vs z=>by subst z;rw[VR] at hw;exact hw.elim
  rcases mem_other nd e with ⟨a,c,rfl,rfl,eb⟩|⟨i,kvs,k,rfl,e1,e2,eb⟩|⟨d,f,ds,e1,e2,e3,eb⟩
  ·rw[VR] at hv;rw[VR] at hw;subst hv;subst hw
   cases neg with
   | true =>
    refine op_notin_str pins s σ H _ _ v' u' Q I rx ry ⟨a,c,rfl,rfl,?_⟩
    rw[if_pos rfl] at eb
    rw[<-eb,Bool.not_not];exact q
   | false =>
    refine op_in_str pins s σ H _ _ v' u' Q I rx ry ⟨a,c,rfl,rfl,?_⟩
    rw[if_neg Bool.false_ne_true] at eb
    rw[<-eb];exact q
  ·rw[VR] at hw
   obtain⟨a,rfl,k1⟩:=hw
   obtain⟨ks,k2,k3⟩:=r.ob i _ a e1 k1
   have ex:=key_kV hv e2
   subst ex
   have es:(valV ks k).isSome=(valK kvs k).isSome:=by
    obtain⟨z1,z2⟩:=KRs.val k k3
    cases e4:valK kvs k with
    | none=>rw[z1 e4];rfl
    | some z=>obtain⟨x,z3,_⟩:=z2 z e4;rw[z3];rfl
   cases ry
   cases neg with
   | true =>
    refine d_notIn (by omega) I (DGet.k (k:=k) k2) rx fun s' I'=>⟨.bl _,H,I',rfl,?_⟩
    rw[if_pos rfl] at eb
    rw[es,<-eb,Bool.not_not];exact q
   | false =>
    refine d_in (by omega) I (DGet.k (k:=k) k2) rx fun s' I'=>⟨.bl _,H,I',rfl,?_⟩
    rw[if_neg Bool.false_ne_true] at eb
    rw[es,<-eb];exact q
  ·obtain⟨a1,a2,a3⟩:=toD_ok r 16 v x d hv e1
   obtain⟨b1,b2,b3⟩:=toD_ok r 16 w y f hw e2
   refine op_inD hu neg pins s σ H x y v' u' Q I rx ry ⟨d,f,ds,a1,b1,a2,b2,a3,e3,?_⟩
   cases neg with
   | true=>rw[if_pos rfl] at eb |-;rw[<-eb,Bool.not_not];exact q
   | false=>rw[if_neg Bool.false_ne_true] at eb |-;rw[<-eb];exact q
 cases o with
 | eq =>
  obtain⟨d,f,e1,e2,rfl⟩:=eqH_some (show eqH h v w=some b by exact e)
  obtain⟨a1,a2,a3⟩:=toD_ok r 16 v x d hv e1
  obtain⟨b1,b2,b3⟩:=toD_ok r 16 w y f hw e2
  exact op_eqD hu pins s σ H x y v' u' Q I rx ry ⟨d,f,a1,b1,a2,b2,by omega,q⟩
 | ne =>
  have e':(eqH h v w).map (!·)=some b:=e
  obtain⟨c,e3,rfl⟩:=Option.map_eq_some_iff.mp e'
  obtain⟨d,f,e1,e2,rfl⟩:=eqH_some e3
  obtain⟨a1,a2,a3⟩:=toD_ok r 16 v x d hv e1
  obtain⟨b1,b2,b3⟩:=toD_ok r 16 w y f hw e2
  exact op_neD hu pins s σ H x y v' u' Q I rx ry ⟨d,f,a1,b1,a2,b2,by omega,q⟩
 | lt =>
  obtain⟨i,j,rfl,rfl⟩:=cop_ii (.inl rfl) e
  cases e
  rw[VR] at hv;rw[VR] at hw;subst hv;subst hw
  exact op_lt pins s σ H _ _ v' u' Q I rx ry ⟨_,_,rfl,rfl,q⟩
 | le =>
  obtain⟨i,j,rfl,rfl⟩:=cop_ii (.inr (.inl rfl)) e
  cases e
  rw[VR] at hv;rw[VR] at hw;subst hv;subst hw
  exact op_le pins s σ H _ _ v' u' Q I rx ry ⟨_,_,rfl,rfl,q⟩
 | gt =>
  obtain⟨i,j,rfl,rfl⟩:=cop_ii (.inr (.inr (.inl rfl))) e
  cases e
  rw[VR] at hv;rw[VR] at hw;subst hv;subst hw
  exact op_gt pins s σ H _ _ v' u' Q I rx ry ⟨_,_,rfl,rfl,q⟩
 | ge =>
  obtain⟨i,j,rfl,rfl⟩:=cop_ii (.inr (.inr (.inr rfl))) e
  cases e
  rw[VR] at hv;rw[VR] at hw;subst hv;subst hw
  exact op_ge pins s σ H _ _ v' u' Q I rx ry ⟨_,_,rfl,rfl,q⟩
 | isn =>
  have e:isV v w=some b:=e
  cases w<;>first|(cases e;done)|skip
  ·cases e
   rw[VR] at hw;subst hw
   refine op_isN pins s σ H x _ v' u' Q I rx ry ⟨rfl,?_⟩
   rw[non_iff hv];exact q
  ·cases v<;>first|(cases e;done)|skip
   cases e
   rw[VR] at hv;rw[VR] at hw;subst hv;subst hw
   exact op_isB pins s σ H _ _ v' u' Q I rx ry ⟨_,_,rfl,rfl,q⟩
 | ntn =>
  have e:(isV v w).map (!·)=some b:=e
  cases w<;>first|(cases e;done)|skip
  ·cases e
   rw[VR] at hw;subst hw
   refine op_notN pins s σ H x _ v' u' Q I rx ry ⟨rfl,?_⟩
   rw[non_iff hv];exact q
  ·cases v<;>first|(cases e;done)|skip
   cases e
   rw[VR] at hv;rw[VR] at hw;subst hv;subst hw
   exact op_notB pins s σ H _ _ v' u' Q I rx ry ⟨_,_,rfl,rfl,q⟩
 | inn=>exact mem false (by rw[if_neg Bool.false_ne_true];exact e)
 | nin =>
  have e':(memH h v w).map (!·)=some b:=e
  obtain⟨c,e3,rfl⟩:=Option.map_eq_some_iff.mp e'
  exact mem true (by rw[e3];simp)
theorem tru_of{B:Bd}{ρ:List Addr}{h:Hs}{H:Hp}{v:Val}{x:V}{b:Bool}(r:HR B ρ h H)(q:VR B.K ρ H v x)(e:truH h v=some b):TruV B.K x H b:=by
 cases v with
 | non=>rw[VR] at q;subst q;exact(Option.some.inj e).symm
 | bl c=>rw[VR] at q;subst q;exact(Option.some.inj e).symm
 | int i=>rw[VR] at q;subst q;exact(Option.some.inj e).symm
 | str z =>
  rw[VR] at q;subst q
  simp only[truH] at e
  split at e
  ·rename_i hl;exact⟨hl,(Option.some.inj e).symm⟩
  ·cases e
 | tup vs =>
  rw[VR] at q
  obtain⟨a,xs,rfl,q1,q2⟩:=q
  refine .inr (.inl ⟨xs,q1,?_⟩)
  rw[<-Option.some.inj e]
  have:=q2.length
  cases vs<;>cases xs<;>simp_all
 | rl vs =>
  rw[VR] at q
  obtain⟨a,xs,rfl,q1,q2⟩:=q
  refine .inl ⟨xs,q1.sq,?_⟩
  rw[<-Option.some.inj e]
  have:=q2.length
  cases vs<;>cases xs<;>simp_all
 | dc _ _=>rw[VR] at q;exact q.elim
 | ob _ _ _=>rw[VR] at q;exact q.elim
 | ref i =>
  rw[VR] at q
  obtain⟨a,rfl,q1⟩:=q
  simp only[truH] at e
  split at e
  ·rename_i vs e1
   obtain⟨xs,k1,k2⟩:=r.ob i _ a e1 q1
   refine .inl ⟨xs,.inl (.inl k1),?_⟩
   rw[<-Option.some.inj e]
   have:=k2.length
   cases vs<;>cases xs<;>simp_all
  ·rename_i vs e1
   obtain⟨xs,k1,k2⟩:=r.ob i _ a e1 q1
   refine .inr (.inr ⟨xs,k1,?_⟩)
   rw[<-Option.some.inj e]
   have:=k2.length
   cases vs<;>cases xs<;>simp_all
  ·cases e
noncomputable def rIdx(B:Bd):R2:=fun x y H Q=>∃ρ h v w z,HR B ρ h H/\VR B.K ρ H v x/\VR B.K ρ H w y/\idxH h v w=some z/\∀u,VR B.K ρ H z u->Q u H
theorem ix_idx(hu:X.A.units+64<cLine):IxR X (rIdx (bd X cl)):=by
 intro value slice pins s σ H x y v' u' Q I rx ry hh hs
 obtain⟨ρ,h,v,w,z,r,hv,hw,e,q⟩:=hh
 cases v with
 | str t =>
  cases w<;>first|cases e|skip
  rename_i i
  change (if t.length<=sizeLine then (atI t.cps.toList i).map (fun c=>Val.str ⟨#[c]⟩) else none)=some z at e
  split at e
  ·rename_i hl
   obtain⟨c,e1,rfl⟩:=Option.map_eq_some_iff.mp e
   rw[VR] at hv;rw[VR] at hw;subst hv;subst hw
   exact ix_str value slice pins s σ H _ _ v' u' Q I rx ry ⟨t,i,c,rfl,rfl,hl,e1,q _ VR.str⟩ hs
  ·cases e
 | tup vs =>
  cases w<;>first|cases e|skip
  rename_i i
  rw[VR] at hv;rw[VR] at hw;subst hw
  obtain⟨a,xs,rfl,q1,q2⟩:=hv
  obtain⟨t,e2,q3⟩:=VRs.atI q2 e
  exact ix_tup value slice pins s σ H _ _ v' u' Q I rx ry ⟨a,xs,i,t,rfl,rfl,q1,e2,q _ q3⟩ hs
 | rl vs =>
  cases w<;>first|cases e|skip
  rename_i i
  rw[VR] at hv;rw[VR] at hw;subst hw
  obtain⟨a,xs,rfl,q1,q2⟩:=hv
  obtain⟨t,e2,q3⟩:=VRs.atI q2 e
  exact ix_list value slice pins s σ H _ _ v' u' Q I rx ry ⟨a,xs,i,t,rfl,rfl,q1.sq,e2,q _ q3⟩ hs
 | ref j =>
  cases w with
  | int i =>
   change (match h[j]? with|some (.dct kvs)=>valK kvs (.inl i)|_=>(lstOf h (.ref j)).bind fun xs=>atI xs i)=some z at e
   split at e
   ·rename_i kvs e1
    rw[VR] at hv
    obtain⟨a,rfl,q1⟩:=hv
    obtain⟨ks,k1,k2⟩:=r.ob j _ a e1 q1
    obtain⟨t,e2,q3⟩:=(KRs.val (.inl i) k2).2 z e
    have g:DGet H a (kV (.inl i)) (valV ks (.inl i)):=DGet.k k1
    rw[e2] at g
    rw[VR] at hw;subst hw
    exact ix_dict hu value slice pins s σ H _ _ v' u' Q I rx ry ⟨a,t,rfl,g,q _ q3⟩ hs
   ·obtain⟨vs,e1,e⟩:=Option.bind_eq_some_iff.mp e
    obtain⟨a,xs,rfl,q1,q2⟩:=lst_sq r hv e1
    rw[VR] at hw;subst hw
    obtain⟨t,e2,q3⟩:=VRs.atI q2 e
    exact ix_list value slice pins s σ H _ _ v' u' Q I rx ry ⟨a,xs,i,t,rfl,rfl,q1,e2,q _ q3⟩ hs
  | str y =>
   change (match h[j]? with|some (.dct kvs)=>valK kvs (.inr y)|_=>none)=some z at e
   split at e
   ·rename_i kvs e1
    rw[VR] at hv
    obtain⟨a,rfl,q1⟩:=hv
    obtain⟨ks,k1,k2⟩:=r.ob j _ a e1 q1
    obtain⟨t,e2,q3⟩:=(KRs.val (.inr y) k2).2 z e
    have g:DGet H a (kV (.inr y)) (valV ks (.inr y)):=DGet.k k1
    rw[e2] at g
    rw[VR] at hw;subst hw
    exact ix_dict hu value slice pins s σ H _ _ v' u' Q I rx ry ⟨a,t,rfl,g,q _ q3⟩ hs
   ·cases e
  | _=>cases e
 | dc _ _=>rw[VR] at hv;exact hv.elim
 | _=>cases w<;>cases e
noncomputable def rSl(B:Bd)(EX:Nat->List V->Hp->Prop):V->Option Int->Option Int->Hp->VK->Prop:=fun x lo hi H Q=>∃ρ h v,HR B ρ h H/\VR B.K ρ H v x/\Post B EX ρ H (WV B.K Q) (slcM v lo hi h)
theorem sl_slc:SlR X (rSl (bd X cl) EX):=by
 intro pins s σ H x v' vl vu lo hi sl Q I rx hs pl pu hh
 obtain⟨ρ,h,v,r,hv,p⟩:=hh
 have lists:Post (bd X cl) EX ρ H (WV X.K Q) (bnd (ask fun h=>lstOf h v) (fun xs=>new (.lst (cutL xs lo hi))) h)->∃T id,typeLookup (.type T) "__getitem__" = pure (some (.builtin id))/\s.TypeIs v' T/\wpAny (model X.prog X.w) X.A (getItem v' (.ref sl)) (EP X pins σ Q) X.xe s:=by
  intro p
  obtain⟨a,e1,p⟩:=post_ask p
  obtain⟨a1,ys1,rfl,k1,k2⟩:=lst_sq r hv e1
  exact sl_list pins s σ H _ v' vl vu lo hi sl Q I rx hs pl pu ⟨a1,ys1,rfl,k1,fun q hq=>post_newL r hq (VRs.cut lo hi k2) p⟩
 cases v with
 | tup vs =>
  simp only[slcM] at p
  rw[VR] at hv
  obtain⟨a,xs,rfl,q1,q2⟩:=hv
  obtain⟨e,p⟩:=post_guard p
  refine sl_tup pins s σ H _ v' vl vu lo hi sl Q I rx hs pl pu ⟨a,xs,rfl,q1,?_,fun q hq=>post_tup r hq (VRs.cut lo hi q2) p⟩
  rw[<-q2.length]
  simp only[Bool.not_eq_true',Bool.and_eq_false_iff,decide_eq_false_iff_not] at e
  rintro⟨z1,z2⟩
  exact e.elim (fun k=>k z1) fun k=>k z2
 | _=>exact lists p
end
end Hv
end
section
set_option backward.match.sparseCases false
namespace Hv
open PySem L2 PyProof.Rows
section
variable {X:Cx} {cl:Nat->Addr} {EX:Nat->List V->Hp->Prop}
noncomputable def rBl(B:Bd)(EX:Nat->List V->Hp->Prop)(b:Bl):List V->Hp->VK->Prop:=fun xs H Q=>∃ρ h vs,HR B ρ h H/\VRs B.K ρ H vs xs/\Post B EX ρ H (WV B.K Q) (blt b vs h)
theorem len_bl:CallR X (.builtin "len") (rBl (bd X cl) EX .len):=by
 intro pins s σ H xs us Q I rr hh
 obtain⟨ρ,h,vs,r,hv,p⟩:=hh
 match vs,p with
 | [v],p =>
  obtain⟨n,e,p⟩:=post_ask p
  obtain⟨x,rfl,hx⟩:=VRs.one hv
  have fin:=post_ret r p _ VR.int
  cases v with
  | str z =>
   simp only[lenH] at e
   split at e
   ·rename_i hl;cases e
    rw[VR] at hx;subst hx
    exact L2.call_len pins s σ H _ us Q I rr ⟨_,z.length,rfl,⟨hl,rfl⟩,fin⟩
   ·cases e
  | tup vs =>
   simp only[lenH] at e;cases e
   rw[VR] at hx
   obtain⟨a,ys,rfl,q1,q2⟩:=hx
   refine L2.call_len pins s σ H _ us Q I rr ⟨_,ys.length,rfl,.inr ⟨ys,q1,rfl⟩,?_⟩
   rw[<-q2.length];exact fin
  | rl vs =>
   simp only[lenH] at e;cases e
   rw[VR] at hx
   obtain⟨a,ys,rfl,q1,q2⟩:=hx
   refine L2.call_len pins s σ H _ us Q I rr ⟨_,ys.length,rfl,.inl ⟨ys,q1.sq,rfl⟩,?_⟩
   rw[<-q2.length];exact fin
  | dc _ _=>rw[VR] at hx;exact hx.elim
  | ob _ _ _=>rw[VR] at hx;exact hx.elim
  | ref i =>
   rw[VR] at hx
   obtain⟨a,rfl,q1⟩:=hx
   simp only[lenH] at e
   split at e
   ·rename_i vs e1;cases e
    obtain⟨ys,k1,k2⟩:=r.ob i _ a e1 q1
    refine L2.call_len pins s σ H _ us Q I rr ⟨_,ys.length,rfl,.inl ⟨ys,.inl (.inl k1),rfl⟩,?_⟩
    rw[<-k2.length];exact fin
   ·rename_i vs e1;cases e
    obtain⟨ks,k1,k2⟩:=r.ob i _ a e1 q1
    refine call_lenD pins s σ H _ us Q I rr ⟨a,ks,rfl,k1,?_⟩
    rw[<-k2.length];exact fin
   ·cases e
  | _=>simp only[lenH] at e;cases e
theorem min_bl(hc:X.calm=true):CallR X (.builtin "min") (rBl (bd X cl) EX .min):=by
 intro pins s σ H xs us Q I rr hh
 obtain⟨ρ,h,vs,r,hv,p⟩:=hh
 have seq:∀v,vs=[v]->Post (bd X cl) EX ρ H (WV X.K Q) (bnd (ask fun h=>seqOf h v) (fun xs=>lft ((ints? xs).bind minL)) h)->wpAny (model X.prog X.w) X.A (call (.builtin "min") us) (EP X pins σ Q) X.xe s:=by
  rintro v rfl p
  obtain⟨zs,e,p⟩:=post_ask p
  obtain⟨x,rfl,hx⟩:=VRs.one hv
  obtain⟨a,ys,rfl,q1,q2⟩:=seq_sq r hx e
  obtain⟨m,e1,p⟩:=post_lft' r p
  obtain⟨ns,e2,e3⟩:=Option.bind_eq_some_iff.mp e1
  rw[ints_some e2] at q2
  rw[VRs.ints.mp q2] at q1
  have hne:0<ns.length:=by cases ns with|nil=>cases e3|cons _ _=>simp
  refine call_min_seq hc pins s σ H _ us Q I rr ⟨a,ns,rfl,q1,hne,fun m hm hmin=>?_⟩
  rw[minL_spec hm hmin] at e3;cases e3
  exact p _ VR.int
 match vs,p with
 | [.int a,.int b],p =>
  obtain⟨x,y,rfl,hx,hy⟩:=VRs.two hv
  rw[VR] at hx;rw[VR] at hy;subst hx;subst hy
  exact call_min2 hc pins s σ H _ us Q I rr ⟨a,b,rfl,post_ret r p _ VR.int⟩
 | [v],p=>exact seq v rfl (by cases v<;>exact p)
theorem max_bl(hc:X.calm=true):CallR X (.builtin "max") (rBl (bd X cl) EX .max):=by
 intro pins s σ H xs us Q I rr hh
 obtain⟨ρ,h,vs,r,hv,p⟩:=hh
 have seq:∀v,vs=[v]->Post (bd X cl) EX ρ H (WV X.K Q) (bnd (ask fun h=>seqOf h v) (fun xs=>lft ((ints? xs).bind maxL)) h)->wpAny (model X.prog X.w) X.A (call (.builtin "max") us) (EP X pins σ Q) X.xe s:=by
  rintro v rfl p
  obtain⟨zs,e,p⟩:=post_ask p
  obtain⟨x,rfl,hx⟩:=VRs.one hv
  obtain⟨a,ys,rfl,q1,q2⟩:=seq_sq r hx e
  obtain⟨m,e1,p⟩:=post_lft' r p
  obtain⟨ns,e2,e3⟩:=Option.bind_eq_some_iff.mp e1
  rw[ints_some e2] at q2
  rw[VRs.ints.mp q2] at q1
  have hne:0<ns.length:=by cases ns with|nil=>cases e3|cons _ _=>simp
  refine call_max_seq hc pins s σ H _ us Q I rr ⟨a,ns,rfl,q1,hne,fun m hm hmin=>?_⟩
  rw[maxL_spec hm hmin] at e3;cases e3
  exact p _ VR.int
 match vs,p with
 | [.int a,.int b],p =>
  obtain⟨x,y,rfl,hx,hy⟩:=VRs.two hv
  rw[VR] at hx;rw[VR] at hy;subst hx;subst hy
  exact call_max2 hc pins s σ H _ us Q I rr ⟨a,b,rfl,post_ret r p _ VR.int⟩
 | [v],p=>exact seq v rfl (by cases v<;>exact p)
theorem sorted_bl:CallR X (.builtin "sorted") (rBl (bd X cl) EX .sorted):=by
 intro pins s σ H xs us Q I rr hh
 obtain⟨ρ,h,vs,r,hv,p⟩:=hh
 match vs,p with
 | [v],p =>
  obtain⟨zs,e,p⟩:=post_ask p
  obtain⟨out,e1,p⟩:=post_lft p
  obtain⟨x,rfl,hx⟩:=VRs.one hv
  obtain⟨a,ys,rfl,q1,q2⟩:=lst_sq r hx e
  unfold sortV at e1
  split at e1
  ·rename_i h64
   cases e2:ints? zs with
   | some ns =>
    rw[e2] at e1
    cases e1
    rw[ints_some e2] at q2 h64
    rw[VRs.ints.mp q2] at q1
    rw[List.length_map] at h64
    exact call_sorted_ints pins s σ H _ us Q I rr ⟨a,ns,rfl,q1,h64,fun l hl=>post_newL r hl (VRs.ints.mpr rfl) p⟩
   | none =>
    rw[e2] at e1
    obtain⟨kss,e3,e4⟩:=Option.bind_eq_some_iff.mp e1
    cases e4
    obtain⟨g1,g2⟩:=tups_some e3
    rw[g1] at q2 h64
    obtain⟨rs,r1,r2,r3⟩:=VRs.tups q2
    rw[r1] at q1
    rw[List.length_map,r2,List.length_map] at h64
    refine call_sorted_tups pins s σ H _ us Q I rr ⟨a,rs,rfl,q1,h64,fun p hp=>⟨r3 p hp,g2 _ (by rw[r2];exact List.mem_map_of_mem hp)⟩,fun l qs hl hp hs=>?_⟩
    have e4:qs.map (·.2)=sortL kss:=eq_sortL (by rw[r2];exact hp.map _) (List.pairwise_map.mpr hs)
    rw[<-e4] at p
    exact post_newL r hl (VRs.of_tups fun z hz=>r3 z (hp.mem_iff.mp hz)) p
  ·cases e1
theorem list_bl:CallR X (.type "list") (rBl (bd X cl) EX .list):=by
 intro pins s σ H xs us Q I rr hh
 obtain⟨ρ,h,vs,r,hv,p⟩:=hh
 match vs,p with
 | [v],p =>
  obtain⟨zs,e,p⟩:=post_ask p
  obtain⟨x,rfl,hx⟩:=VRs.one hv
  obtain⟨a,ys,rfl,q1,q2⟩:=seq_sq r hx e
  exact call_list_of pins s σ H _ us Q I rr ⟨a,ys,rfl,q1,fun l hl=>post_newL r hl q2 p⟩
theorem tuple_bl:CallR X (.type "tuple") (rBl (bd X cl) EX .tuple):=by
 intro pins s σ H xs us Q I rr hh
 obtain⟨ρ,h,vs,r,hv,p⟩:=hh
 exact(show False from p).elim
theorem str_bl:CallR X (.type "str") (rBl (bd X cl) EX .str):=by
 intro pins s σ H xs us Q I rr hh
 obtain⟨ρ,h,vs,r,hv,p⟩:=hh
 exact(show False from p).elim
theorem int_bl:CallR X (.type "int") (rBl (bd X cl) EX .int):=by
 intro pins s σ H xs us Q I rr hh
 obtain⟨ρ,h,vs,r,hv,p⟩:=hh
 match vs,p with
 | [.int i],p =>
  obtain⟨x,rfl,hx⟩:=VRs.one hv
  rw[VR] at hx;subst hx
  exact call_int1 pins s σ H _ us Q I rr (.inl ⟨i,rfl,post_ret r p _ VR.int⟩)
 | [.bl i],p =>
  obtain⟨x,rfl,hx⟩:=VRs.one hv
  rw[VR] at hx;subst hx
  exact call_int1 pins s σ H _ us Q I rr (.inr ⟨i,rfl,post_ret r p _ VR.int⟩)
theorem all_bl(hc:X.calm=true):CallR X (.builtin "all") (rBl (bd X cl) EX .all):=by
 intro pins s σ H xs us Q I rr hh
 obtain⟨ρ,h,vs,r,hv,p⟩:=hh
 match vs,p with
 | [v],p =>
  obtain⟨zs,e,p⟩:=post_ask p
  obtain⟨bs,e1,p⟩:=post_lft p
  obtain⟨x,rfl,hx⟩:=VRs.one hv
  obtain⟨a,ys,rfl,q1,q2⟩:=lst_sq r hx e
  rw[bools_some e1] at q2
  rw[VRs.bools.mp q2] at q1
  exact call_all_list hc pins s σ H _ us Q I rr ⟨a,bs,rfl,q1,post_ret r p _ VR.bl⟩
theorem any_bl(hc:X.calm=true):CallR X (.builtin "any") (rBl (bd X cl) EX .any):=by
 intro pins s σ H xs us Q I rr hh
 obtain⟨ρ,h,vs,r,hv,p⟩:=hh
 exact(show False from p).elim
noncomputable def rIs(B:Bd)(EX:Nat->List V->Hp->Prop)(T:String):List V->Hp->VK->Prop:=fun xs H Q=>∃ρ h v x,xs=[x,.ty T]/\HR B ρ h H/\VR B.K ρ H v x/\Post B EX ρ H (WV B.K Q) (blt (.isin T) [v] h)
theorem kit_tab(K:PySem.W.Frag)(t T:String)(ht:t∈["NoneType","bool","int","str","list","tuple","dict"])(hT:T∈["list","tuple","str","bool","int","dict"]) :
  PySem.W.kitOne K (.type t) (.type T)=some (decide (T=t\/(T = "int" /\ t = "bool"))):=by
 simp only[List.mem_cons,List.not_mem_nil,or_false] at ht hT
 rcases ht with rfl|rfl|rfl|rfl|rfl|rfl|rfl<;>rcases hT with rfl|rfl|rfl|rfl|rfl|rfl<;>rfl
theorem isin_bl{T:String}:CallR X (.builtin "isinstance") (rIs (bd X cl) EX T):=by
 intro pins s σ H xs us Q I rr hh
 obtain⟨ρ,h,v,x,rfl,r,hx,p⟩:=hh
 obtain⟨u,w',rfl,r1,r2⟩:=vals2 rr
 cases r2
 obtain⟨t,e,p⟩:=post_ask p
 obtain⟨b,e1,p⟩:=post_lft p
 have q:=post_ret r p _ VR.bl
 unfold isinH at e1
 split at e1
 ·rename_i hT'
  have hT:T∈["list","tuple","str","bool","int","dict"]:=by simpa using hT'
  cases e1
  have fin:∀tk,EP X pins σ Q (.bool (decide (T=t\/(T = "int" /\ t = "bool")))) { s with toks:=tk }:=fun tk=>⟨.bl _,H,I.tok _,rfl,q⟩
  have tab:=fun ht=>kit_tab X.K t T ht hT
  cases v with
  | non=>rw[VR] at hx;subst hx;cases r1;simp only[tyN] at e;cases e;exact PySem.W.kia_one PySem.W.kitx_none I.kIn True.intro (tab (by simp)) (fun z=>nomatch z) fin
  | bl c=>rw[VR] at hx;subst hx;cases r1;simp only[tyN] at e;cases e;exact PySem.W.kia_one PySem.W.kitx_bool I.kIn True.intro (tab (by simp)) (fun z=>nomatch z) fin
  | int i=>rw[VR] at hx;subst hx;obtain⟨t',rfl⟩:=r1;simp only[tyN] at e;cases e;exact PySem.W.kia_one PySem.W.kitx_int I.kIn True.intro (tab (by simp)) (fun z=>nomatch z) fin
  | str i=>rw[VR] at hx;subst hx;obtain⟨t',rfl⟩:=r1;simp only[tyN] at e;cases e;exact PySem.W.kia_one PySem.W.kitx_str I.kIn True.intro (tab (by simp)) (fun z=>nomatch z) fin
  | tup vs =>
   rw[VR] at hx
   obtain⟨a,ys,rfl,q1,_⟩:=hx
   cases r1
   simp only[tyN] at e;cases e
   obtain⟨_,_,⟨o,e1,e2,_⟩,_⟩:=I.tuple q1
   exact PySem.W.kia_one PySem.W.kitx_tuple I.kIn ⟨o,e1,e2⟩ (tab (by simp)) (fun z=>nomatch z) fin
  | rl vs =>
   rw[VR] at hx
   obtain⟨a,ys,rfl,q1,_⟩:=hx
   cases r1
   simp only[tyN] at e;cases e
   obtain⟨_,_,⟨o,n,e1,e2,_⟩,_⟩:=I.list q1.sq
   exact PySem.W.kia_one PySem.W.kitx_list I.kIn ⟨o,e1,e2⟩ (tab (by simp)) (fun z=>nomatch z) fin
  | dc _ _=>rw[VR] at hx;exact hx.elim
  | ob _ _ _=>rw[VR] at hx;exact hx.elim
  | ref i =>
   rw[VR] at hx
   obtain⟨a,rfl,q1⟩:=hx
   cases r1
   simp only[tyN] at e
   split at e
   ·rename_i vs e1;cases e
    obtain⟨ys,k1,k2⟩:=r.ob i _ a e1 q1
    obtain⟨_,_,⟨o,n,e1,e2,_⟩,_⟩:=I.list (xs:=ys) (.inl (.inl k1))
    exact PySem.W.kia_one PySem.W.kitx_list I.kIn ⟨o,e1,e2⟩ (tab (by simp)) (fun z=>nomatch z) fin
   ·rename_i vs e1;cases e
    obtain⟨ks,k1,k2⟩:=r.ob i _ a e1 q1
    obtain⟨_,_,vs,_,p⟩:=(show ObjOk X.prog X.w H s.heap a (.dK ks) from I.hok a _ k1)
    obtain⟨o,es,ep,h1,h2,_⟩:=p
    exact PySem.W.kia_one PySem.W.kitx_dict I.kIn ⟨o,h1,h2.1⟩ (tab (by simp)) (fun z=>nomatch z) fin
   ·cases e
 ·cases e1
noncomputable def rMe(B:Bd)(EX:Nat->List V->Hp->Prop)(m:Me):V->List V->Hp->VK->Prop:=fun x xs H Q=>∃ρ h v vs,HR B ρ h H/\VR B.K ρ H v x/\VRs B.K ρ H vs xs/\Post B EX ρ H (WV B.K Q) (met m v vs h)
theorem join_me:MtR X "str.join" (rMe (bd X cl) EX .join):=by
 intro pins s σ H x xs u us Q I ru rr hh
 obtain⟨ρ,h,v,vs,r,hv,hvs,p⟩:=hh
 exact(show False from p).elim
theorem post_put{B:Bd}{ρ:List Addr}{h:Hs}{H:Hp}{Q:VK}{i:Nat}{a:Addr}{o u:Ob}{O U:HO}(r:HR B ρ h H)(hi:ρ[i]?=some a)(e:h[i]?=some u)(eU:H a=some U)(hm:Mu U=true)(q:OR B ρ (upd H a O) a o)
  (p:Post B EX ρ H (WV B.K Q) (bnd (put i o) (fun _=>ret Val.non) h)):Q .non (upd H a O) :=
 p ρ (upd H a O) (Gr.put (List.mem_of_getElem? hi) eU hm) (r.put hi e q) _ VR.non
theorem append_me:MtR X "list.append" (rMe (bd X cl) EX .append):=by
 intro pins s σ H x xs v' us Q I rx rv hh
 obtain⟨ρ,h,v,vs,r,hv,hvs,p⟩:=hh
 match v,vs,p with
 | .ref i,[w],p =>
  obtain⟨zs,e,p⟩:=post_ask p
  split at e
  ·rename_i zs' e1;cases e
   obtain⟨e2,p⟩:=post_guard p
   obtain⟨a,ys,rfl,q0,q1,q2⟩:=lst_own r hv e1
   obtain⟨y,rfl,hy⟩:=VRs.one hvs
   refine mt_append pins s σ H _ _ v' us Q I rx rv ⟨a,ys,y,rfl,rfl,q1,by rw[<-q2.length];exact of_decide_eq_true e2,?_⟩
   have g:Gr ρ H ρ (upd H a (.lst (ys++[y]))):=Gr.put (List.mem_of_getElem? q0) q1 rfl
   exact post_put (o:=.lst (zs++[w])) r q0 e1 q1 rfl ⟨_,upd_same,VRs.append (VRs.up g _ _ q2) (VRs.up g _ _ (VRs.cons hy VRs.nil))⟩ p
  ·cases e
theorem extend_me:MtR X "list.extend" (rMe (bd X cl) EX .extend):=by
 intro pins s σ H x xs v' us Q I rx rv hh
 obtain⟨ρ,h,v,vs,r,hv,hvs,p⟩:=hh
 match v,vs,p with
 | .ref i,[w],p =>
  obtain⟨zs,e,p⟩:=post_ask p
  split at e
  ·rename_i zs' e1;cases e
   obtain⟨ws,e3,p⟩:=post_ask p
   obtain⟨e2,p⟩:=post_guard p
   have e2:=of_decide_eq_true e2
   obtain⟨a,ys,rfl,q0,q1,q2⟩:=lst_own r hv e1
   obtain⟨y,rfl,hy⟩:=VRs.one hvs
   have fin:∀(bs:List V),VRs X.K ρ H ws bs->Q .non (upd H a (.lst (ys++bs))):=fun bs hb=>by
    have g:Gr ρ H ρ (upd H a (.lst (ys++bs))):=Gr.put (List.mem_of_getElem? q0) q1 rfl
    exact post_put (o:=.lst (zs++ws)) r q0 e1 q1 rfl ⟨_,upd_same,VRs.append (VRs.up g _ _ q2) (VRs.up g _ _ hb)⟩ p
   cases w with
   | tup ts =>
    simp only[extOf] at e3;cases e3
    rw[VR] at hy
    obtain⟨b,bs,rfl,k1,k2⟩:=hy
    exact mt_extendT pins s σ H _ _ v' us Q I rx rv ⟨a,b,ys,bs,rfl,rfl,q1,k1,by rw[<-q2.length,<-k2.length];exact e2,fin bs k2⟩
   | ref j =>
    simp only[extOf,lstOf] at e3
    split at e3
    ·rename_i ts e4;cases e3
     obtain⟨b,bs,rfl,k0,k1,k2⟩:=lst_own r hy e4
     exact mt_extend pins s σ H _ _ v' us Q I rx rv ⟨a,b,ys,bs,rfl,rfl,q1,k1,by rw[<-q2.length,<-k2.length];exact e2,fin bs k2⟩
    ·cases e3
   | _=>simp only[extOf] at e3;cases e3
  ·cases e
end
end Hv
end
section
namespace Hv
open PySem L2 PyProof.Rows
structure Tb where
 nc:Nat
 flds:List Str
 mts:List (Nat×Str×Nat)
 clm:List (Str×Str×Nat)
 isc:List (Str×List Bool)
structure Gam where
 N:List Str
 sc:Scope
 fns:List (Str×Nat)
 cons:List (Str×Val)
 tb:Tb
noncomputable def visB(sc:Scope)(x:Str):Bool:=(sc.names.lookup x==some .local||sc.names.lookup x==some .cell||sc.names.lookup x==some .free) && !(x==("__debug__":Str)) && !(x==("__classdict__":Str))
noncomputable def glB(sc:Scope)(x:Str):Bool:=sc.names.lookup x==some .globalImplicit && !(x==("__debug__":Str)) && !(x==("__name__":Str))
noncomputable def constB:Const->Val->Bool
 | .none,.non=>true
 | .bool a,.bl b=>a==b
 | .int a,.int b=>a==b
 | .str a,.str b=>a==b
 | _,_=>false
noncomputable def bopB(o:Bop)(op:Operator):Bool:=decide (op=opOf o)
noncomputable def copB(o:Cop)(op:CmpOp):Bool:=decide (op=cmpOf o)
noncomputable def bltN:Bl->Str
 | .len=>"len" | .min=>"min" | .max=>"max" | .sorted=>"sorted" | .list=>"list" | .tuple=>"tuple" | .str=>"str" | .int=>"int" | .all=>"all" | .any=>"any" | .isin _=>"isinstance"
noncomputable def noStar:Expr->Bool
 | .Starred ..=>false
 | _=>true
noncomputable def plainIx:Expr->Bool
 | .Slice ..=>false
 | _=>true
noncomputable def plainIt:Expr->Bool
 | .Name ..=>true|.Call ..=>true|.Subscript ..=>true|.List ..=>true|.Tuple ..=>true|.ListComp ..=>true|.Attribute ..=>true|.BinOp ..=>true
 | _=>false
noncomputable def superB:Expr->Bool
 | .Call (.Name _ _) [] [] _=>false
 | _=>true
noncomputable def relab(scope xsc:Scope):Scope :=
 { scope with names:=scope.names.map fun(n,k)=>if (k==.free&&xsc.kind==.function&&xsc.names.lookup n==some .cell) then (n,.cell) else (n,k) }
noncomputable def Gam.inC(Γ:Gam)(scope:Scope)(N':List Str):Gam:={ Γ with N:=N',sc:=relab scope Γ.sc }
noncomputable def patB(Γ:Gam):Pat->Expr->Bool
 | .one i,.Name x _=>Γ.N[i]?==some x && Γ.sc.names.lookup x==some .local
 | .tup is,.Tuple es _ _=>es.length==is.length&&(is.zip es).all fun p=>match p.2 with
  | .Name x _=>Γ.N[p.1]?==some x && Γ.sc.names.lookup x==some .local
  | _=>false
 | _,_=>false
noncomputable def patIs:Pat->List Nat
 | .one i=>[i]
 | .tup is=>is
noncomputable def meN:Me->Str
 | .join=>"join" | .append=>"append" | .extend=>"extend"
noncomputable def flatEq:Val->Val->Bool
 | .non,.non=>true
 | .bl a,.bl b=>a==b
 | .int a,.int b=>a==b
 | .str a,.str b=>a==b
 | _,_=>false
noncomputable def dfChk(Γ:Gam)(N':List Str)(js:List (Option Nat))(p q i j:Nat):Expr->Bool
 | .ListComp (.Name y1 _) [⟨.Name y2 yp,.Name dn _,[.Compare (.Name y3 _) [.NotIn] [.Name en ep] _],ia⟩] scope _=>ia==0&&compOkB Γ.N Γ.sc scope N' js&&decide (N'.Nodup)&&patB (Γ.inC scope N') (.one p) (.Name y2 yp)&&js[p]?==some none&&js[q]?==some (some j)&&p != q && !behindInMarks .NotIn (.Name en ep) &&
   (N'[p]?==some y1&&visB (Γ.inC scope N').sc y1)&&(N'[p]?==some y3&&visB (Γ.inC scope N').sc y3)&&(N'[q]?==some en&&visB (Γ.inC scope N').sc en)&&(Γ.N[i]?==some dn&&visB Γ.sc dn)
 | _=>false
mutual
noncomputable def chkE(Γ:Gam):IE->Expr->Bool
 | .var i,e=>match e with
  | .Name x _=>Γ.N[i]?==some x&&visB Γ.sc x
  | _=>false
 | .cst d,e=>match e with
  | .Constant c _ _=>constB c d
  | _=>false
 | .con x d,e=>match e with
  | .Name y _=>x==y&&glB Γ.sc x && Γ.cons.any fun p=>p.1==x&&flatEq p.2 d
  | _=>false
 | .no,_=>false
 | .bin o a b,e=>match e with
  | .BinOp l op r _=>bopB o op&&chkE Γ a l&&chkE Γ b r
  | _=>false
 | .neg a,e=>match e with
  | .UnaryOp .USub l _=>chkE Γ a l
  | _=>false
 | .cmp o a b,e=>match e with
  | .Compare l [op] [r] _=>copB o op && !behindInMarks op r&&chkE Γ a l&&chkE Γ b r
  | _=>false
 | .chn o p a b c,e=>match e with
  | .Compare l [op,op'] [m,r] _=>copB o op&&copB p op' && !behindInMarks op m && !behindInMarks op' r&&chkE Γ a l&&chkE Γ b m&&chkE Γ c r
  | _=>false
 | .and a b,e=>match e with
  | .BoolOp .And (l::m::r) pos=>chkE Γ a l&&(match r with|[]=>chkE Γ b m|n::r'=>chkE Γ b (.BoolOp .And (m::n::r') pos))
  | _=>false
 | .or a b,e=>match e with
  | .BoolOp .Or (l::m::r) pos=>chkE Γ a l&&(match r with|[]=>chkE Γ b m|n::r'=>chkE Γ b (.BoolOp .Or (m::n::r') pos))
  | _=>false
 | .not a,e=>match e with
  | .UnaryOp .Not l _=>chkE Γ a l
  | _=>false
 | .ite c a b,e=>match e with
  | .IfExp t l r _=>chkE Γ c t&&chkE Γ a l&&chkE Γ b r
  | _=>false
 | .tup es,e=>match e with
  | .Tuple ls _ _=>chkEs Γ es ls
  | _=>false
 | .lst es,e=>match e with
  | .List ls _=>chkEs Γ es ls
  | _=>false
 | .idx a b,e=>match e with
  | .Subscript l r _=>plainIx r&&chkE Γ a l&&chkE Γ b r
  | _=>false
 | .slc a lo hi,e=>match e with
  | .Subscript l (.Slice l' h' none _) _=>chkE Γ a l&&(match l' with|none=>isNo lo|some e=>!isNo lo&&chkE Γ lo e)&&(match h' with|none=>isNo hi|some e=>!isNo hi&&chkE Γ hi e)
  | _=>false
 | .call j es,e=>match e with
  | .Call (.Name x _) args [] _=>glB Γ.sc x && Γ.fns[j]?==some (x,args.length)&&decide (args.length<1000)&&chkEs Γ es args
  | _=>false
 | .blt b es,e=>match e with
  | .Call (.Name x _) args [] _=>glB Γ.sc x&&x==bltN b&&(match b with
   | .isin T=>(match args with|[a,.Name y _]=>glB Γ.sc y&&y==(T:Str)&&["list","tuple","str","bool","int","dict"].contains T&&chkEs Γ es [a]|_=>false)
   | _=>!args.isEmpty&&chkEs Γ es args)
  | _=>false
 | .met m a es,e=>match e with
  | .Call (.Attribute o x ap) args [] cp=>x==meN m&&superB o && !args.isEmpty&&decide (args.length<29)&&ap.endLine==cp.line&&chkE Γ a o&&chkEs Γ es args
  | _=>false
 | .comp N' js pat k it c elt,e=>match e with
  | .ListComp e [⟨tg,iter,ifs,0⟩] scope _=>compOkB Γ.N Γ.sc scope N' js&&chkIt Γ k it iter&&decide (N'.Nodup)&&patB (Γ.inC scope N') pat tg&&((patIs pat).all fun i=>js[i]?==some none)&&(match k,pat with|.enum,.one _=>false|.zip,.one _=>false|_,_=>true) &&
   (match ifs with|[]=>isNo c|[t]=>!isNo c&&chkE (Γ.inC scope N') c t|_=>false)&&chkE (Γ.inC scope N') elt e
  | _=>false
 | .dct0,e=>match e with
  | .Dict [] [] _=>true
  | _=>false
 | .sset a,e=>match e with
  | .Call (.Name x _) [.Call (.Name y _) [l] [] _] [] _=>x==("sorted":Str)&&y==("set":Str)&&glB Γ.sc x&&glB Γ.sc y&&noStar l&&chkE Γ a l
  | _=>false
 | .dget d k x,e=>match e with
  | .Call (.Attribute o m ap) [a,b] [] cp=>m==("get":Str)&&superB o&&noStar a&&noStar b&&ap.endLine==cp.line&&chkE Γ d o&&chkE Γ k a&&chkE Γ x b
  | _=>false
 | .dct1 k v,e=>match e with
  | .Dict [some a] [b] _=>chkE Γ k a&&chkE Γ v b
  | _=>false
 | .lkeys d,e=>match e with
  | .Call (.Name x _) [.Name y q] [] _=>x==("list":Str)&&glB Γ.sc x&&chkE Γ d (.Name y q)
  | _=>false
 | .sdef d k x,e=>match e with
  | .Call (.Attribute o m ap) [a,b] [] cp=>m==("setdefault":Str)&&superB o&&noStar a&&noStar b&&ap.endLine==cp.line&&chkE Γ d o&&chkE Γ k a&&chkE Γ x b
  | _=>false
 | .svals d,e=>match e with
  | .Call (.Name x _) [.Call (.Attribute o m ap) [] [] cp] [] _=>x==("sorted":Str)&&m==("values":Str)&&glB Γ.sc x&&superB o&&ap.endLine==cp.line&&chkE Γ d o
  | _=>false
 | .skeys d,e=>match e with
  | .Call (.Name x _) [.Name y q] [] _=>x==("sorted":Str)&&glB Γ.sc x&&chkE Γ d (.Name y q)
  | _=>false
 | .fld n a x,e=>match e with
  | .Attribute o y _=>x==y&&superB o&&n == Γ.tb.nc && Γ.tb.flds.contains x&&chkE Γ a o
  | _=>false
 | .rev a s,e=>match e with
  | .Subscript l (.Slice none none st _) _=>chkE Γ a l&&st.isSome&&(match st with|none=>isNo s|some e=>!isNo s&&chkE Γ s e)
  | _=>false
 | .dflt N' js p q d w,e=>match d,w with
  | .var i,.var j=>dfChk Γ N' js p q i j e
  | _,_=>false
 | .isc a x bs,e=>match e with
  | .Call (.Name f _) [l,.Name y _] [] _=>f==("isinstance":Str)&&glB Γ.sc f&&y==x&&glB Γ.sc y&&noStar l && Γ.tb.isc.contains (x,bs)&&decide (bs.length <= Γ.tb.nc)&&chkE Γ a l
  | _=>false
 | .mth a m js es,e=>match e with
  | .Call (.Attribute o x ap) args [] cp=>x==m&&superB o&&decide (args.length<29)&&ap.endLine==cp.line&&(js.all fun p=>decide (p.1 < Γ.tb.nc) && Γ.tb.mts.contains (p.1,m,p.2)&&(match Γ.fns[p.2]? with|some (_,n)=>n==1001+args.length|none=>false))&&chkE Γ a o&&chkEs Γ es args
  | _=>false
noncomputable def chkEs(Γ:Gam):IEs->List Expr->Bool
 | .nil,ls=>ls.isEmpty
 | .cons e es,ls=>match ls with
  | l::ls=>noStar l&&chkE Γ e l&&chkEs Γ es ls
  | []=>false
noncomputable def chkIt(Γ:Gam)(k:Ik):IEs->Expr->Bool
 | .nil,_=>false
 | .cons e es,l=>match k with
  | .seq=>(match es with|.nil=>plainIt l&&chkE Γ e l|_=>false)
  | .range=>(match l with|.Call (.Name x _) (a::args) [] _=>x==("range":Str)&&glB Γ.sc x&&noStar a&&chkE Γ e a&&chkEs Γ es args&&decide (args.length<2)|_=>false)
  | .enum=>(match es,l with|.nil,.Call (.Name x _) [a] [] _=>x==("enumerate":Str)&&glB Γ.sc x&&noStar a&&chkE Γ e a|_,_=>false)
  | .zip=>false
end
noncomputable abbrev Fn:=Nat->List Val->M Val
noncomputable def EnvR(K:PySem.W.Frag)(ρ:List Addr)(env:Env)(σ:L2.St)(H:Hp):Prop:=∀(i:Nat) (v:Val),env[i]?=some (some v)->∃x,σ[i]?=some (some x)/\VR K ρ H v x
theorem EnvR.upw{K:PySem.W.Frag}{ρ ρ':List Addr}{env:Env}{σ:L2.St}{H H':Hp}(e:EnvR K ρ env σ H)(g:Gw ρ H ρ' H'):EnvR K ρ' env σ H':=fun i v q=>by
 obtain⟨x,q1,q2⟩:=e i v q
 exact⟨x,q1,VR.upw g v x q2⟩
theorem EnvR.up{K:PySem.W.Frag}{ρ ρ':List Addr}{env:Env}{σ:L2.St}{H H':Hp}(e:EnvR K ρ env σ H)(g:Gr ρ H ρ' H'):EnvR K ρ' env σ H':=e.upw g.w
noncomputable def WVs(K:PySem.W.Frag)(Q:List V->Hp->Prop):List Val->Hs->List Addr->Hp->Prop:=fun vs _ ρ' H'=>∀xs,VRs K ρ' H' vs xs->Q xs H'
noncomputable def WT(Q:Bool->Hp->Prop):Bool->Hs->List Addr->Hp->Prop:=fun b _ _ H'=>Q b H'
noncomputable def evT(Φ:Fn)(ir:IE)(env:Env):M Bool:=bnd (evE Φ ir env) fun x=>ask fun h=>truH h x
noncomputable def tV(Φ:Fn)(B:Bd)(EX:Nat->List V->Hp->Prop)(ir:IE):TE:=fun σ H Q=>∃ρ env h,EnvR B.K ρ env σ H/\HR B ρ h H/\Post B EX ρ H (WV B.K Q) (evE Φ ir env h)
noncomputable def tVs(Φ:Fn)(B:Bd)(EX:Nat->List V->Hp->Prop)(irs:IEs):TA:=fun σ H Q=>∃ρ env h,EnvR B.K ρ env σ H/\HR B ρ h H/\Post B EX ρ H (WVs B.K Q) (evEs Φ irs env h)
noncomputable def tT(Φ:Fn)(B:Bd)(EX:Nat->List V->Hp->Prop)(ir:IE):TT:=fun σ H Q=>∃ρ env h,EnvR B.K ρ env σ H/\HR B ρ h H/\Post B EX ρ H (WT Q) (evT Φ ir env h)
theorem _root_.L2.PE.imp{X:Cx}{e:Expr}{t t':TE}(h:PE X e t)(i:∀σ H Q,t' σ H Q->t σ H Q):PE X e t':=fun pins s σ H Q I hw=>h pins s σ H Q I (i σ H Q hw)
theorem _root_.L2.PT.imp{X:Cx}{e:Expr}{t t':TT}(h:PT X e t)(i:∀σ H Q,t' σ H Q->t σ H Q):PT X e t':=fun pins s σ H Q I hw=>h pins s σ H Q I (i σ H Q hw)
theorem _root_.L2.PA.imp{X:Cx}{es:List Expr}{t t':TA}(h:PA X es t)(i:∀σ H Q,t' σ H Q->t σ H Q):PA X es t':=fun pos pins s σ H Q I hw=>h pos pins s σ H Q I (i σ H Q hw)
theorem _root_.L2.PO.imp{X:Cx}{e:Option Expr}{t t':TO}(h:PO X e t)(i:∀σ H Q,t' σ H Q->t σ H Q):PO X e t':=fun pins s σ H Q I hw=>h pins s σ H Q I (i σ H Q hw)
theorem _root_.L2.PI.imp{X:Cx}{tg iter:Expr}{t t':TI}(h:PI X tg iter t)(i:∀σ H R,t' σ H R->t σ H R):PI X tg iter t':=fun pins s σ H R I hw=>h pins s σ H R I (i σ H R hw)
theorem bnd_assoc{α β γ:Type}(m:M α)(f:α -> M β)(g:β -> M γ):bnd (bnd m f) g=bnd m fun x=>bnd (f x) g:=by
 funext h
 show (match (match m h with|.ok a h'=>f a h'|.exc c vs h'=>.exc c vs h'|.no=>.no) with|.ok a h'=>g a h'|.exc c vs h'=>.exc c vs h'|.no=>.no)=(match m h with|.ok a h'=>bnd (f a) g h'|.exc c vs h'=>.exc c vs h'|.no=>.no)
 cases m h<;>rfl
theorem bnd_retL{α β:Type}(a:α)(f:α -> M β):bnd (ret a) f=f a:=rfl
noncomputable def fnSp(B:Bd)(n:Nat)(φ:List Val->M Val):Sp:=fun xs H Q _=>∃ρ h vs,vs.length=n/\HR B ρ h H/\VRs B.K ρ H vs xs/\Post B (fun _ _ _=>False) ρ H (WV B.K Q) (φ vs h)
noncomputable def FnG(P:Program)(w:World)(B:Bd)(mg:Str->Option Value)(base:Heap)(k:Nat)(j:Nat)(x:Str)(n:Nat)(φ:List Val->M Val):Prop :=
 (n<1000/\((∃(f:Addr) (fd:FuncData) (ps:List Str),ps.length=n/\mg x=some (.ref f)/\PySem.W.keepIn B.K (.ref f)=true/\Binds B.K fd ps []/\FnOk P w B.K mg base CX0 k f fd ps (fnSp B n φ)) \/
  ∃(c:Nat) (f:Addr) (fd:FuncData) (ps:List Str) (φ0:List Val->M Val),φ = mkF c φ0/\ps.length=n+1/\mg x=some (.ref (B.cl c))/\Mk B.K (B.cl c) f/\Binds B.K fd ps []/\FnOk P w B.K mg base CX0 k f fd ps (fnSp B (n+1) φ0))) \/
 (1000<=n/\∃(fd:FuncData) (ps:List Str),ps.length=n-1000/\Binds B.K fd ps []/\FnOk P w B.K mg base CX0 k (B.cl (1000+j)) fd ps (fnSp B (n-1000) φ))
noncomputable def bltNames:List Str:=["len","min","max","sorted","list","tuple","str","all","any","isinstance","range","enumerate","int","bool","dict","set","zip"]
structure Ctx (Φ:Fn) (Γ:Gam) (k:Nat) (X:Cx) (cl:Nat->Addr) (EX:Nat->List V->Hp->Prop):Prop where
 N:X.N = Γ.N
 sc:X.env.scope = Γ.sc
 calm:X.calm=true
 room:Room (k+1) X.A
 noex:∀c xs H,¬ EX c xs H
 fns:∀j x n,Γ.fns[j]?=some (x,n)->FnG X.prog X.w (bd X cl) X.mg X.base k j x n (Φ j)
 cls:∀c,c < Γ.tb.nc->Cls X.K (cl c)/\∀x ∈ Γ.tb.flds,NoAttr X.K (cl c) x
 mts:∀p ∈ Γ.tb.mts,Meth X.K (cl p.1) p.2.1 (cl (1000+p.2.2))
 clm:∀p ∈ Γ.tb.clm,∃C,X.mg p.1=some (.ref C)/\ClsM X.K C p.2.1 (cl (1000+p.2.2))
 isc:∀p ∈ Γ.tb.isc,∃C,X.mg p.1=some (.ref C)/\∀c b,p.2[c]?=some b->TyI X.K (cl c)/\PySem.W.kitOne X.K (.ref (cl c)) (.ref C)=some b
 cons:∀p ∈ Γ.cons,∃v u,X.mg p.1=some u/\RelV v u/\∀K ρ H,VR K ρ H p.2 v
 blt:∀x∈bltNames,X.mg x=none
section
variable {Φ:Fn} {Γ:Gam} {k:Nat} {X:Cx} {cl:Nat->Addr} {EX:Nat->List V->Hp->Prop}
theorem Ctx.units(c:Ctx Φ Γ k X cl EX):X.A.units+64<cLine:=c.room.units
theorem Ctx.vis(c:Ctx Φ Γ k X cl EX){x:Str}(h:visB Γ.sc x=true):Vis X.env.scope x/\(x==("__debug__":Str))=false/\(x==("__classdict__":Str))=false:=by
 unfold visB at h
 simp only[Bool.and_eq_true,Bool.or_eq_true,beq_iff_eq,Bool.not_eq_true'] at h
 obtain⟨⟨h1,h2⟩,h3⟩:=h
 refine⟨?_,h2,h3⟩
 unfold Vis
 rw[c.sc]
 rcases h1 with (z|z)|z
 ·exact .inl z
 ·exact .inr (.inl z)
 ·exact .inr (.inr z)
theorem Ctx.gl(c:Ctx Φ Γ k X cl EX){x:Str}(h:glB Γ.sc x=true):Gl X x/\(x==("__debug__":Str))=false/\x ≠ "__name__":=by
 unfold glB at h
 simp only[Bool.and_eq_true,beq_iff_eq,Bool.not_eq_true'] at h
 obtain⟨⟨h1,h2⟩,h3⟩:=h
 refine⟨?_,h2,fun z=>by rw[z] at h3;simp at h3⟩
 show X.env.scope.names.lookup x=_
 rw[c.sc];exact h1
theorem Ctx.inC(c:Ctx Φ Γ k X cl EX)(scope:Scope)(N':List Str)(cls:List (Str×Addr))(C:Addr)(s:Shared)(H:Hp)(fp:List Addr):Ctx Φ (Γ.inC scope N') k (compCx X scope N' cls C s H fp) cl EX:=by
 refine⟨rfl,?_,c.calm,c.room,c.noex,c.fns,c.cls,c.mts,c.clm,c.isc,c.cons,c.blt⟩
 show relabel scope X.env=relab scope Γ.sc
 rw[<-c.sc];rfl
theorem star_one{e:Expr}{es:List Expr}{env:PySem.Env}(h:noStar e=true):starEach (e::es) env=(false,eval e env)::starEach es env:=by
 cases e<;>first|rfl|(simp[noStar] at h)
theorem star_any{pos:Pos}{env:PySem.Env}:∀{es:List Expr} {irs:IEs},chkEs Γ irs es=true->(backTo pos (starEach es env)).any (·.1)=false
 | [],_,_=>rfl
 | e::es,.nil,h=>by simp[chkEs] at h
 | e::es,.cons i irs,h=>by
  simp only[chkEs,Bool.and_eq_true] at h
  rw[star_one h.1.1]
  show (false||(backTo pos (starEach es env)).any (·.1))=false
  rw[star_any (irs:=irs) h.2];rfl
theorem star_all{pos:Pos}{env:PySem.Env}{es:List Expr}{irs:IEs}(h:chkEs Γ irs es=true):(backTo pos (starEach es env)).all (fun x=>!x.1)=true:=by
 have q:=star_any (pos:=pos) (env:=env) h
 rw[List.all_eq_true]
 intro x hx
 have:=List.any_eq_false.mp q x hx
 simpa using this
theorem plainIx_ok{e:Expr}(h:plainIx e=true):PlainIx e:=by
 intro o i
 cases e<;>first|rfl|(simp[plainIx] at h)
theorem super_ok{e:Expr}{x:Str}{env:PySem.Env}{whole:Sem Value}(h:superB e=true):attributeBase e x env whole=whole:=by
 cases e<;>first
  | rfl
  | skip
 rename_i f args kws pos
 cases f<;>first
  | rfl
  | skip
 cases args with
 | cons a r=>rfl
 | nil =>
  cases kws with
  | cons a r=>rfl
  | nil=>simp[superB] at h
theorem pt_of{e:Expr}{ir:IE}(q:PE X e (tV Φ (bd X cl) EX ir))(he:∀whole,isTrue e X.env whole=(do let v <-whole;standAt e.pos;holding [v] (truthy v))):PT X e (tT Φ (bd X cl) EX ir) :=
 (pt_truth q he).imp fun σ H Q ⟨ρ,env,h,hE,r,p⟩=>⟨ρ,env,h,hE,r,post_bnd p fun v h1 ρ1 x H1 g1 r1 q1 p1=>by
  obtain⟨b,e,w⟩:=post_ask' r1 p1
  exact⟨b,tru_of r1 q1 e,w⟩⟩
theorem un_neg:UnR X (unaryOp .USub) (fun x H Q=>∃i,x=.int i/\Q (.int (-i)) H):=by
 intro pins s σ H x v Q I rx h
 obtain⟨i,rfl,q⟩:=h
 obtain⟨t,rfl⟩:=rx
 exact neg_int ⟨.int (-i),H,I.tok _,⟨_,rfl⟩,q⟩
theorem pw_of{op:BoolOp}{vs:List Expr}{pos:Pos}{t:TT}(h:PT X (.BoolOp op vs pos) t):PW X (.BoolOp op vs pos) t:=fun whole pins s σ H Q I hw=>h pins s σ H Q I hw
noncomputable def OkE(Φ:Fn)(ir:IE):Prop:=∀(Γ:Gam) (k:Nat) (X:Cx) (cl:Nat->Addr) (EX:Nat->List V->Hp->Prop) (e:Expr),Ctx Φ Γ k X cl EX->chkE Γ ir e=true->PE X e (tV Φ (bd X cl) EX ir)/\PT X e (tT Φ (bd X cl) EX ir)
noncomputable def OkEs(Φ:Fn)(irs:IEs):Prop:=(∀(Γ:Gam) (k:Nat) (X:Cx) (cl:Nat->Addr) (EX:Nat->List V->Hp->Prop) (es:List Expr),Ctx Φ Γ k X cl EX->chkEs Γ irs es=true->PA X es (tVs Φ (bd X cl) EX irs))/\match irs with
 | .nil=>True
 | .cons e r=>OkE Φ e/\match r with
  | .nil=>True
  | .cons e' _=>OkE Φ e'
theorem bopB_eq{o:Bop}{op:Operator}(h:bopB o op=true):op=opOf o:=of_decide_eq_true h
theorem copB_eq{o:Cop}{op:CmpOp}(h:copB o op=true):op=cmpOf o:=of_decide_eq_true h
theorem okStub{ir:IE}(hs:∀env h,evE Φ ir env h=.no):OkE Φ ir:=by
 intro Γ k X cl EX e c h
 exact⟨fun pins s σ H Q I ⟨ρ,env,h,hE,r,p⟩=>by rw[hs] at p;exact p.elim,fun pins s σ H Q I ⟨ρ,env,h,hE,r,p⟩=>by unfold evT bnd at p;rw[hs] at p;exact p.elim⟩
theorem ok_var{i:Nat}:OkE Φ (.var i):=by
 intro Γ k X cl EX e c h
 rw[chkE.eq_def] at h;dsimp only at h;split at h<;>first|cases h|skip
 rename_i x pos
 simp only[Bool.and_eq_true,beq_iff_eq] at h
 obtain⟨v1,v2,v3⟩:=c.vis h.2
 have q:PE X (.Name x pos) (tV Φ (bd X cl) EX (.var i)):=by
  refine(pe_var (by rw[c.N];exact h.1) v1 v2 v3).imp fun σ H Q zz0=>?_
  obtain⟨ρ,env,h,hE,r,p⟩:=zz0
  rw[evE.eq_def] at p;dsimp only at p
  obtain⟨d,e1,w⟩:=post_lft' r p
  split at e1<;>cases e1
  rename_i e1
  obtain⟨x,e2,e3⟩:=hE i d e1
  exact⟨x,e2,w x e3⟩
 exact⟨q,pt_of q fun _=>rfl⟩
theorem ok_cst{d:Val}:OkE Φ (.cst d):=by
 intro Γ k X cl EX e c h
 rw[chkE.eq_def] at h;dsimp only at h;split at h<;>first|cases h|skip
 rename_i cc j pos
 have q:PE X (.Constant cc j pos) (tV Φ (bd X cl) EX (.cst d)):=by
  unfold constB at h
  split at h<;>first|cases h|skip
  ·refine pe_non.imp fun σ H Q zz0=>?_
   obtain⟨ρ,env,h,hE,r,p⟩:=zz0
   simp only[evE] at p
   exact post_ret r p _ VR.non
  ·cases eq_of_beq h
   refine pe_bl.imp fun σ H Q zz0=>?_
   obtain⟨ρ,env,h,hE,r,p⟩:=zz0
   simp only[evE] at p
   exact post_ret r p _ VR.bl
  ·cases eq_of_beq h
   refine pe_int.imp fun σ H Q zz0=>?_
   obtain⟨ρ,env,h,hE,r,p⟩:=zz0
   simp only[evE] at p
   exact post_ret r p _ VR.int
  ·cases eq_of_beq h
   refine pe_str.imp fun σ H Q zz0=>?_
   obtain⟨ρ,env,h,hE,r,p⟩:=zz0
   simp only[evE] at p
   exact post_ret r p _ VR.str
 exact⟨q,pt_of q fun _=>rfl⟩
theorem flatEq_eq{a b:Val}(h:flatEq a b=true):a=b:=by
 unfold flatEq at h
 split at h<;>first|rfl|(cases eq_of_beq h;rfl)|cases h
theorem ok_con{x:Str}{d:Val}:OkE Φ (.con x d):=by
 intro Γ k X cl EX e c h
 rw[chkE.eq_def] at h;dsimp only at h;split at h<;>first|cases h|skip
 rename_i y pos
 simp only[Bool.and_eq_true,beq_iff_eq] at h
 obtain⟨⟨h1,h2⟩,h3⟩:=h
 subst h1
 obtain⟨g1,g2,g3⟩:=c.gl h2
 obtain⟨p,hp,h4⟩:=List.any_eq_true.mp h3
 simp only[Bool.and_eq_true,beq_iff_eq] at h4
 obtain⟨v,u,m1,m2,m3⟩:=c.cons p hp
 rw[h4.1] at m1
 have q:PE X (.Name x pos) (tV Φ (bd X cl) EX (.con x d)):=by
  refine(pe_glob g1 m1 m2 g2).imp fun σ H Q zz0=>?_
  obtain⟨ρ,env,h,hE,r,p⟩:=zz0
  simp only[evE] at p
  exact post_ret r p _ (by rw[<-flatEq_eq h4.2];exact m3 _ _ _)
 exact⟨q,pt_of q fun _=>rfl⟩
theorem ok_no:OkE Φ .no:=by
 intro Γ k X cl EX e c h
 rw[chkE.eq_def] at h;dsimp only at h;cases h
theorem ok_nil:OkEs Φ .nil:=by
 refine⟨fun Γ k X cl EX es c h=>?_,trivial⟩
 rw[chkEs] at h
 cases es with
 | cons a r=>cases h
 | nil =>
  refine pa_nil.imp fun σ H Q zz0=>?_
  obtain⟨ρ,env,h,hE,r,p⟩:=zz0
  simp only[evEs] at p
  exact post_ret r p _ VRs.nil
theorem ok_cons{e:IE}{es:IEs}(h1:OkE Φ e)(h2:OkEs Φ es):OkEs Φ (.cons e es):=by
 refine⟨fun Γ k X cl EX ls c h=>?_,h1,?_⟩
 ·rw[chkEs.eq_def] at h;dsimp only at h
  cases ls with
  | nil=>cases h
  | cons l ls =>
   simp only[Bool.and_eq_true] at h
   refine(pa_cons (h1 Γ k X cl EX l c h.1.2).1 (h2.1 Γ k X cl EX ls c h.2) (star_one h.1.1)).imp fun σ H Q zz0=>?_
   obtain⟨ρ,env,h,hE,r,p⟩:=zz0
   simp only[evEs] at p
   refine⟨ρ,env,h,hE,r,post_bnd p fun v h1 ρ1 x H1 g1 r1 q1 p1=>⟨ρ1,env,h1,hE.up g1,r1,post_bndG p1 fun vs h2 ρ2 H2 g2 r2 p2 xs q2=>?_⟩⟩
   exact post_ret r2 p2 _ (VRs.cons (VR.up g2 _ _ q1) q2)
 ·cases es with
  | nil=>trivial
  | cons e' r=>exact h2.2.1
theorem ok_bin{o:Bop}{a b:IE}(ha:OkE Φ a)(hb:OkE Φ b):OkE Φ (.bin o a b):=by
 intro Γ k X cl EX e c h
 rw[chkE.eq_def] at h;dsimp only at h;split at h<;>first|cases h|skip
 rename_i l op r pos
 simp only[Bool.and_eq_true] at h
 obtain⟨⟨h1,h2⟩,h3⟩:=h
 have eo:op=opOf o:=bopB_eq h1
 subst eo
 have q:PE X (.BinOp l (opOf o) r pos) (tV Φ (bd X cl) EX (.bin o a b)):=by
  refine(pe_op (op_bop (cl:=cl) (EX:=EX) o) (ha Γ k X cl EX l c h2).1 (hb Γ k X cl EX r c h3).1).imp fun σ H Q zz0=>?_
  obtain⟨ρ,env,h,hE,r,p⟩:=zz0
  simp only[evE] at p
  exact⟨ρ,env,h,hE,r,post_bnd p fun v h1 ρ1 x H1 g1 r1 q1 p1=>⟨ρ1,env,h1,hE.up g1,r1,post_bnd p1 fun w h2 ρ2 y H2 g2 r2 q2 p2=>⟨ρ2,h2,v,w,r2,VR.up g2 _ _ q1,q2,p2⟩⟩⟩
 exact⟨q,pt_of q fun _=>rfl⟩
theorem ok_neg{a:IE}(ha:OkE Φ a):OkE Φ (.neg a):=by
 intro Γ k X cl EX e c h
 rw[chkE.eq_def] at h;dsimp only at h;split at h<;>first|cases h|skip
 rename_i l pos
 have q:PE X (.UnaryOp .USub l pos) (tV Φ (bd X cl) EX (.neg a)):=by
  refine(pe_un un_neg (ha Γ k X cl EX l c h).1).imp fun σ H Q zz0=>?_
  obtain⟨ρ,env,h,hE,r,p⟩:=zz0
  simp only[evE] at p
  refine⟨ρ,env,h,hE,r,post_bnd p fun v h1 ρ1 x H1 g1 r1 q1 p1=>?_⟩
  cases v<;>first|exact p1.elim|skip
  rw[VR] at q1
  exact⟨_,q1,post_ret r1 p1 _ VR.int⟩
 exact⟨q,pt_of q fun _=>rfl⟩
theorem ok_cmp{o:Cop}{a b:IE}(ha:OkE Φ a)(hb:OkE Φ b):OkE Φ (.cmp o a b):=by
 intro Γ k X cl EX e c h
 rw[chkE.eq_def] at h;dsimp only at h;split at h<;>first|cases h|skip
 rename_i l op r pos
 simp only[Bool.and_eq_true,Bool.not_eq_true'] at h
 obtain⟨⟨⟨h1,h4⟩,h2⟩,h3⟩:=h
 have eo:op=cmpOf o:=copB_eq h1
 subst eo
 refine⟨(pe_cmpR (op_cop (cl:=cl) c.units o) (ha Γ k X cl EX l c h2).1 (hb Γ k X cl EX r c h3).1 h4).imp fun σ H Q ⟨ρ,env,h,hE,r,p⟩=>?_,(pt_cmpR (op_cop (cl:=cl) c.units o) (ha Γ k X cl EX l c h2).1 (hb Γ k X cl EX r c h3).1 h4).imp fun σ H Q ⟨ρ,env,h,hE,r,p⟩=>?_⟩
 ·simp only[evE] at p
  refine⟨ρ,env,h,hE,r,post_bnd p fun v h1 ρ1 x H1 g1 r1 q1 p1=>⟨ρ1,env,h1,hE.up g1,r1,post_bnd p1 fun w h2 ρ2 y H2 g2 r2 q2 p2=>?_⟩⟩
  obtain⟨t,e,p3⟩:=post_ask p2
  exact⟨ρ2,h2,v,w,t,r2,VR.up g2 _ _ q1,q2,e,post_ret r2 p3 _ VR.bl⟩
 ·simp only[evT,evE,bnd_assoc,bnd_retL] at p
  refine⟨ρ,env,h,hE,r,post_bnd p fun v h1 ρ1 x H1 g1 r1 q1 p1=>⟨ρ1,env,h1,hE.up g1,r1,post_bnd p1 fun w h2 ρ2 y H2 g2 r2 q2 p2=>?_⟩⟩
  obtain⟨t,e,p3⟩:=post_ask p2
  obtain⟨t',e',w'⟩:=post_ask' r2 p3
  cases (show some t=some t' from e')
  exact⟨ρ2,h2,v,w,t,r2,VR.up g2 _ _ q1,q2,e,t,rfl,w'⟩
theorem ok_chn{o o':Cop}{a b d:IE}(ha:OkE Φ a)(hb:OkE Φ b)(hd:OkE Φ d):OkE Φ (.chn o o' a b d):=okStub fun _ _=>rfl
end
end Hv
end
section
namespace Hv
open PySem L2 PyProof.Rows
section
variable {B:Bd} {EX:Nat->List V->Hp->Prop} {ρ:List Addr} {H:Hp} {β:Type} {W:β -> Hs->List Addr->Hp->Prop} {h:Hs}
theorem post_bool{v:Val}{f:Bool->M β}(p:Post B EX ρ H W (bnd (boolM v) f h)):∃t,v=.bl t/\Post B EX ρ H W (f t h):=by
 cases v with
 | bl t=>exact⟨t,rfl,p⟩
 | _=>exact p.elim
theorem post_T{m:M Val}{F:Val->M β}{Q:Bool->Hp->Prop}(p:Post B EX ρ H W (bnd m F h))(k:∀v h1,Post B EX ρ H W (F v h1)->∃t,truH h1 v=some t/\∀ρ1 H1,Gr ρ H ρ1 H1->HR B ρ1 h1 H1->Q t H1) :
  Post B EX ρ H (WT Q) (bnd m (fun x=>ask fun h=>truH h x) h):=by
 unfold bnd at p |-
 cases e:m h with
 | ok v h1 =>
  rw[e] at p
  obtain⟨t,e1,q⟩:=k v h1 p
  show Post B EX ρ H (WT Q) (ask (fun h=>truH h v) h1)
  have e2:ask (fun h=>truH h v) h1=.ok t h1:=by unfold ask lft;dsimp only;rw[e1]
  rw[e2]
  exact fun ρ1 H1 g r=>q ρ1 H1 g r
 | exc c vs h1=>rw[e] at p;exact p
 | no=>rw[e] at p;exact p
end
section
variable {Φ:Fn} {Γ:Gam} {k:Nat} {X:Cx} {cl:Nat->Addr} {EX:Nat->List V->Hp->Prop}
theorem ok_and{a b:IE}(ha:OkE Φ a)(hb:OkE Φ b):OkE Φ (.and a b):=by
 intro Γ k X cl EX e c h
 rw[chkE.eq_def] at h;dsimp only at h;split at h<;>first|cases h|skip
 rename_i l m r pos
 simp only[Bool.and_eq_true] at h
 obtain⟨h1,h2⟩:=h
 have hB:PE X (.BoolOp .And (m::r) pos) (tV Φ (bd X cl) EX b)/\PW X (.BoolOp .And (m::r) pos) (tT Φ (bd X cl) EX b):=by
  cases r with
  | nil=>exact⟨pe_one (hb Γ k X cl EX m c h2).1,pw_and1 (hb Γ k X cl EX m c h2).2⟩
  | cons n r'=>exact⟨(hb Γ k X cl EX _ c h2).1,pw_of (hb Γ k X cl EX _ c h2).2⟩
 refine⟨(pe_and (ha Γ k X cl EX l c h1).1 hB.1).imp fun σ H Q ⟨ρ,env,h,hE,r,p⟩=>?_,(pw_and (ha Γ k X cl EX l c h1).2 hB.2).pt.imp fun σ H Q ⟨ρ,env,h,hE,r,p⟩=>?_⟩
 ·simp only[evE] at p
  refine⟨ρ,env,h,hE,r,post_bnd p fun v h1 ρ1 x H1 g1 r1 q1 p1=>?_⟩
  obtain⟨t,rfl,p2⟩:=post_bool p1
  rw[VR] at q1
  refine⟨t,q1,?_⟩
  cases t with
  | true =>
   rw[if_pos rfl] at p2 |-
   refine⟨ρ1,env,h1,hE.up g1,r1,post_bnd p2 fun w h2 ρ2 y H2 g2 r2 q2 p3=>?_⟩
   obtain⟨u,rfl,p4⟩:=post_bool p3
   exact post_ret r2 p4 _ q2
  | false =>
   rw[if_neg Bool.false_ne_true] at p2 |-
   exact post_ret r1 p2 _ VR.bl
 ·simp only[evT,evE,bnd_assoc] at p
  refine⟨ρ,env,h,hE,r,post_T p fun v h1 p1=>?_⟩
  obtain⟨t,rfl,p2⟩:=post_bool p1
  refine⟨t,rfl,fun ρ1 H1 g1 r1=>?_⟩
  have p2:=Post.up g1 p2
  cases t with
  | true =>
   rw[if_pos rfl] at p2 |-
   simp only[bnd_assoc,bnd_retL] at p2
   refine⟨ρ1,env,h1,hE.up g1,r1,post_T p2 fun w h2 p3=>?_⟩
   obtain⟨u,rfl,p4⟩:=post_bool p3
   exact⟨u,rfl,fun ρ2 H2 g2 r2=>by obtain⟨t',e',w'⟩:=post_ask' r2 (Post.up g2 p4);cases (show some u=some t' from e');exact w'⟩
  | false =>
   rw[if_neg Bool.false_ne_true] at p2 |-
   obtain⟨t',e',w'⟩:=post_ask' r1 (show Post _ _ ρ1 H1 _ (ask (fun h=>truH h (.bl false)) h1) from p2)
   cases (show some false=some t' from e')
   exact w'
theorem ok_or{a b:IE}(ha:OkE Φ a)(hb:OkE Φ b):OkE Φ (.or a b):=by
 intro Γ k X cl EX e c h
 rw[chkE.eq_def] at h;dsimp only at h;split at h<;>first|cases h|skip
 rename_i l m r pos
 simp only[Bool.and_eq_true] at h
 obtain⟨h1,h2⟩:=h
 have hB:PE X (.BoolOp .Or (m::r) pos) (tV Φ (bd X cl) EX b)/\PW X (.BoolOp .Or (m::r) pos) (tT Φ (bd X cl) EX b):=by
  cases r with
  | nil=>exact⟨pe_one (hb Γ k X cl EX m c h2).1,pw_or1 (hb Γ k X cl EX m c h2).2⟩
  | cons n r'=>exact⟨(hb Γ k X cl EX _ c h2).1,pw_of (hb Γ k X cl EX _ c h2).2⟩
 refine⟨(pe_or (ha Γ k X cl EX l c h1).1 hB.1).imp fun σ H Q ⟨ρ,env,h,hE,r,p⟩=>?_,(pw_or (ha Γ k X cl EX l c h1).2 hB.2).pt.imp fun σ H Q ⟨ρ,env,h,hE,r,p⟩=>?_⟩
 ·simp only[evE] at p
  refine⟨ρ,env,h,hE,r,post_bnd p fun v h1 ρ1 x H1 g1 r1 q1 p1=>?_⟩
  obtain⟨t,rfl,p2⟩:=post_bool p1
  rw[VR] at q1
  refine⟨t,q1,?_⟩
  cases t with
  | false =>
   rw[if_neg Bool.false_ne_true] at p2 |-
   refine⟨ρ1,env,h1,hE.up g1,r1,post_bnd p2 fun w h2 ρ2 y H2 g2 r2 q2 p3=>?_⟩
   obtain⟨u,rfl,p4⟩:=post_bool p3
   exact post_ret r2 p4 _ q2
  | true =>
   rw[if_pos rfl] at p2 |-
   exact post_ret r1 p2 _ VR.bl
 ·simp only[evT,evE,bnd_assoc] at p
  refine⟨ρ,env,h,hE,r,post_T p fun v h1 p1=>?_⟩
  obtain⟨t,rfl,p2⟩:=post_bool p1
  refine⟨t,rfl,fun ρ1 H1 g1 r1=>?_⟩
  have p2:=Post.up g1 p2
  cases t with
  | false =>
   rw[if_neg Bool.false_ne_true] at p2 |-
   simp only[bnd_assoc,bnd_retL] at p2
   refine⟨ρ1,env,h1,hE.up g1,r1,post_T p2 fun w h2 p3=>?_⟩
   obtain⟨u,rfl,p4⟩:=post_bool p3
   exact⟨u,rfl,fun ρ2 H2 g2 r2=>by obtain⟨t',e',w'⟩:=post_ask' r2 (Post.up g2 p4);cases (show some u=some t' from e');exact w'⟩
  | true =>
   rw[if_pos rfl] at p2 |-
   obtain⟨t',e',w'⟩:=post_ask' r1 (show Post _ _ ρ1 H1 _ (ask (fun h=>truH h (.bl true)) h1) from p2)
   cases (show some true=some t' from e')
   exact w'
theorem ok_not{a:IE}(ha:OkE Φ a):OkE Φ (.not a):=by
 intro Γ k X cl EX e c h
 rw[chkE.eq_def] at h;dsimp only at h;split at h<;>first|cases h|skip
 rename_i l pos
 refine⟨(pe_not (ha Γ k X cl EX l c h).1).imp fun σ H Q ⟨ρ,env,h,hE,r,p⟩=>?_,(pt_not (ha Γ k X cl EX l c h).2).imp fun σ H Q ⟨ρ,env,h,hE,r,p⟩=>?_⟩
 ·simp only[evE] at p
  refine⟨ρ,env,h,hE,r,post_bnd p fun v h1 ρ1 x H1 g1 r1 q1 p1=>?_⟩
  obtain⟨t,rfl,p2⟩:=post_bool p1
  rw[VR] at q1
  exact⟨t,q1,post_ret r1 p2 _ VR.bl⟩
 ·simp only[evT,evE,bnd_assoc] at p
  refine⟨ρ,env,h,hE,r,post_T p fun v h1 p1=>?_⟩
  obtain⟨t,rfl,p2⟩:=post_bool p1
  refine⟨t,rfl,fun ρ1 H1 g1 r1=>?_⟩
  obtain⟨t',e',w'⟩:=post_ask' r1 (show Post _ _ ρ1 H1 _ (ask (fun h=>truH h (.bl (!t))) h1) from Post.up g1 p2)
  cases (show some (!t)=some t' from e')
  exact w'
theorem ok_ite{t a b:IE}(ht:OkE Φ t)(ha:OkE Φ a)(hb:OkE Φ b):OkE Φ (.ite t a b):=okStub fun _ _=>rfl
theorem ok_tup{es:IEs}(hs:OkEs Φ es):OkE Φ (.tup es):=by
 intro Γ k X cl EX e c h
 rw[chkE.eq_def] at h;dsimp only at h;split at h<;>first|cases h|skip
 rename_i ls x1 pos
 have q:PE X (.Tuple ls x1 pos) (tV Φ (bd X cl) EX (.tup es)):=by
  refine(pe_tup (hs.1 Γ k X cl EX ls c h)).imp fun σ H Q zz0=>?_
  obtain⟨ρ,env,h,hE,r,p⟩:=zz0
  simp only[evE] at p
  refine⟨ρ,env,h,hE,r,post_bndG p fun vs h1 ρ1 H1 g1 r1 p1 xs q1=>?_⟩
  obtain⟨e1,p2⟩:=post_guard p1
  exact⟨by rw[<-q1.length];exact of_decide_eq_true e1,fun q hq=>post_tup r1 hq q1 p2⟩
 exact⟨q,pt_of q fun _=>rfl⟩
theorem ok_lst{es:IEs}(hs:OkEs Φ es):OkE Φ (.lst es):=by
 intro Γ k X cl EX e c h
 rw[chkE.eq_def] at h;dsimp only at h;split at h<;>first|cases h|skip
 rename_i ls pos
 have q:PE X (.List ls pos) (tV Φ (bd X cl) EX (.lst es)):=by
  refine(pe_lst (hs.1 Γ k X cl EX ls c h)).imp fun σ H Q zz0=>?_
  obtain⟨ρ,env,h,hE,r,p⟩:=zz0
  simp only[evE] at p
  refine⟨ρ,env,h,hE,r,post_bndG p fun vs h1 ρ1 H1 g1 r1 p1 xs q1=>?_⟩
  obtain⟨e1,p2⟩:=post_guard p1
  exact⟨by rw[<-q1.length];exact of_decide_eq_true e1,fun q hq=>post_newL r1 hq q1 p2⟩
 exact⟨q,pt_of q fun _=>rfl⟩
theorem ok_dct0:OkE Φ .dct0:=by
 intro Γ k X cl EX e c h
 rw[chkE.eq_def] at h;dsimp only at h;split at h<;>first|cases h|skip
 rename_i pos
 have q:PE X (.Dict [] [] pos) (tV Φ (bd X cl) EX .dct0):=by
  refine(pe_dnewK (X:=X) (pos:=pos)).imp fun σ H Q zz0=>?_
  obtain⟨ρ,env,h,hE,r,p⟩:=zz0
  simp only[evE] at p
  exact fun a ha=>post_new (o:=.dct []) (O:=.dK []) r ha ⟨[],upd_same,(by rw[KRs])⟩ p
 exact⟨q,pt_of q fun _=>rfl⟩
theorem ok_idx{a b:IE}(ha:OkE Φ a)(hb:OkE Φ b):OkE Φ (.idx a b):=by
 intro Γ k X cl EX e c h
 rw[chkE.eq_def] at h;dsimp only at h;split at h<;>first|cases h|skip
 rename_i l r pos
 simp only[Bool.and_eq_true] at h
 have q:PE X (.Subscript l r pos) (tV Φ (bd X cl) EX (.idx a b)):=by
  refine(pe_ix (ix_idx (cl:=cl) c.units) (ha Γ k X cl EX l c h.1.2).1 (hb Γ k X cl EX r c h.2).1 (plainIx_ok h.1.1)).imp fun σ H Q zz0=>?_
  obtain⟨ρ,env,h,hE,r,p⟩:=zz0
  simp only[evE] at p
  refine⟨ρ,env,h,hE,r,post_bnd p fun v h1 ρ1 x H1 g1 r1 q1 p1=>⟨ρ1,env,h1,hE.up g1,r1,post_bnd p1 fun w h2 ρ2 y H2 g2 r2 q2 p2=>?_⟩⟩
  obtain⟨z,e,w'⟩:=post_ask' r2 p2
  exact⟨ρ2,h2,v,w,z,r2,VR.up g2 _ _ q1,q2,e,w'⟩
 exact⟨q,pt_of q fun _=>rfl⟩
noncomputable def evP(Φ:Fn)(ir:IE)(env:Env):M (Option Int):=if isNo ir=true then ret none else bnd (evE Φ ir env) fun v=>bnd (lft (part? v)) fun i=>ret (some i)
noncomputable def tP(Φ:Fn)(B:Bd)(EX:Nat->List V->Hp->Prop)(ir:IE):TO:=fun σ H Q=>∃ρ env h,EnvR B.K ρ env σ H/\HR B ρ h H/\Post B EX ρ H (fun o _ _ H'=>Q o H') (evP Φ ir env h)
theorem part_some{d:Val}{i:Int}(h:part? d=some i):d=.int i:=by cases d<;>cases h;rfl
theorem po_part{ir:IE}(hi:OkE Φ ir)(c:Ctx Φ Γ k X cl EX){o:Option Expr}(h:(match o with|none=>isNo ir|some e=>!isNo ir&&chkE Γ ir e)=true):PO X o (tP Φ (bd X cl) EX ir):=by
 cases o with
 | none =>
  refine po_none.imp fun σ H Q zz0=>?_
  obtain⟨ρ,env,h',hE,r,p⟩:=zz0
  unfold evP at p
  rw[if_pos h] at p
  exact post_ret r p
 | some e =>
  simp only[Bool.and_eq_true,Bool.not_eq_true'] at h
  refine(po_some (hi Γ k X cl EX e c h.2).1).imp fun σ H Q zz0=>?_
  obtain⟨ρ,env,h',hE,r,p⟩:=zz0
  unfold evP at p
  rw[if_neg (by rw[h.1];exact Bool.false_ne_true)] at p
  refine⟨ρ,env,h',hE,r,post_bnd p fun v h1 ρ1 x H1 g1 r1 q1 p1=>?_⟩
  obtain⟨i,e1,p2⟩:=post_lft p1
  cases part_some e1
  rw[VR] at q1
  exact⟨i,q1,post_ret r1 p2⟩
theorem ok_slc{a lo hi:IE}(ha:OkE Φ a)(hl:OkE Φ lo)(hh:OkE Φ hi):OkE Φ (.slc a lo hi):=by
 intro Γ k X cl EX e c h
 rw[chkE.eq_def] at h;dsimp only at h;split at h<;>first|cases h|skip
 rename_i l l' h' p2 pos
 simp only[Bool.and_eq_true] at h
 have q:PE X (.Subscript l (.Slice l' h' none p2) pos) (tV Φ (bd X cl) EX (.slc a lo hi)):=by
  refine(pe_slice (sl_slc (cl:=cl) (EX:=EX)) (ha Γ k X cl EX l c h.1.1).1 (po_part hl c h.1.2) (po_part hh c h.2)).imp fun σ H Q zz0=>?_
  obtain⟨ρ,env,h,hE,r,p⟩:=zz0
  simp only[evE] at p
  refine⟨ρ,env,h,hE,r,post_bnd p fun v h1 ρ1 x H1 g1 r1 q1 p1=>⟨ρ1,env,h1,hE.up g1,r1,post_bndG (m:=evP Φ lo env) p1 fun lo' h2 ρ2 H2 g2 r2 p3=>⟨ρ2,env,h2,(hE.up g1).up g2,r2,post_bndG (m:=evP Φ hi env) p3 fun hi' h3 ρ3 H3 g3 r3 p4=>?_⟩⟩⟩
  exact⟨ρ3,h3,v,r3,VR.up (g2.trans g3) _ _ q1,p4⟩
 exact⟨q,pt_of q fun _=>rfl⟩
theorem ok_rev{a sx:IE}(ha:OkE Φ a)(hs:OkE Φ sx):OkE Φ (.rev a sx):=by
 intro Γ k X cl EX e c h
 rw[chkE.eq_def] at h;dsimp only at h;split at h<;>first|cases h|skip
 rename_i l st p2 pos
 simp only[Bool.and_eq_true] at h
 obtain⟨⟨h1,h2⟩,h3⟩:=h
 obtain⟨st,rfl⟩:=Option.isSome_iff_exists.mp h2
 have q:PE X (.Subscript l (.Slice none none (some st) p2) pos) (tV Φ (bd X cl) EX (.rev a sx)):=by
  refine(pe_rev (ha Γ k X cl EX l c h1).1 (po_part hs c h3)).imp fun σ H Q zz0=>?_
  obtain⟨ρ,env,h,hE,r,p⟩:=zz0
  simp only[evE] at p
  refine⟨ρ,env,h,hE,r,post_bnd p fun v h1 ρ1 x H1 g1 r1 q1 p1=>⟨ρ1,env,h1,hE.up g1,r1,post_bndG (m:=evP Φ sx env) p1 fun lo' h2 ρ2 H2 g2 r2 p3=>?_⟩⟩
  obtain⟨e1,p4⟩:=post_guard p3
  obtain⟨xs,e2,p5⟩:=post_ask p4
  obtain⟨ad,ys,rfl,k1,k2⟩:=lst_sq r2 (VR.up g2 _ _ q1) e2
  exact⟨of_decide_eq_true e1,ad,ys,rfl,k1,fun q hq=>post_newL r2 hq (VRs.rev k2) p5⟩
 exact⟨q,pt_of q fun _=>rfl⟩
theorem evEs_len{env:Env}:∀{irs:IEs} {ls:List Expr} {vs:List Val} {h h':Hs},chkEs Γ irs ls=true->evEs Φ irs env h=.ok vs h'->vs.length=ls.length:=by
 intro irs
 induction irs using IEs.rec (motive_1:=fun _=>True) with
 | nil =>
  intro ls ds h h' a b
  rw[chkEs] at a
  simp only[evEs,ret] at b;cases b
  cases ls with
  | nil=>rfl
  | cons _ _=>cases a
 | cons e es _ ih =>
  intro ls ds h h' a b
  rw[chkEs.eq_def] at a;dsimp only at a
  cases ls with
  | nil=>cases a
  | cons l ls =>
   simp only[Bool.and_eq_true] at a
   simp only[evEs,bnd] at b
   cases e1:evE Φ e env h with
   | ok v h1 =>
    rw[e1] at b
    dsimp only at b
    cases e2:evEs Φ es env h1 with
    | ok vs h2 =>
     rw[e2] at b
     cases b
     simp[ih a.2 e2]
    | exc _ _ _=>rw[e2] at b;cases b
    | no=>rw[e2] at b;cases b
   | exc _ _ _=>rw[e1] at b;cases b
   | no=>rw[e1] at b;cases b
 | _=>trivial
theorem post_bndE{α β:Type}{B:Bd}{ρ:List Addr}{H:Hp}{W:β -> Hs->List Addr->Hp->Prop}{W':α -> Hs->List Addr->Hp->Prop}{h:Hs}{m:M α}{f:α -> M β}(p:Post B EX ρ H W (bnd m f h))(k:∀v h1 ρ1 H1,m h=.ok v h1->Gr ρ H ρ1 H1->HR B ρ1 h1 H1->Post B EX ρ1 H1 W (f v h1)->W' v h1 ρ1 H1):Post B EX ρ H W' (m h):=by
 unfold bnd at p
 cases e:m h with
 | ok v h1=>rw[e] at p;exact fun ρ1 H1 g r=>k v h1 ρ1 H1 e g r (Post.up g p)
 | exc c vs h1=>rw[e] at p;exact p
 | no=>rw[e] at p;exact p
theorem post_false{α:Type}{B:Bd}{ρ:List Addr}{h:Hs}{H:Hp}{W:α -> Hs->List Addr->Hp->Prop}{o:Out α}(n:∀c xs H,¬ EX c xs H)(p:Post B EX ρ H W o):Post B (fun _ _ _=>False) ρ H W o:=by
 cases o with
 | ok a h'=>exact p
 | exc c vs h'=>exact fun ρ' H' xs g r q=>n _ _ _ (p ρ' H' xs g r q)
 | no=>exact p
theorem make_sp{B:Bd}{ρ:List Addr}{h:Hs}{H:Hp}{Q:VK}{E:XK}{n c:Nat}{φ0:List Val->M Val}{vs:List Val}{xs:List V}{x dx:Addr}(r:HR B ρ h H)(hv:VRs B.K ρ H vs xs)(hl:vs.length=n)(p:Post B (fun _ _ _=>False) ρ H (WV B.K Q) (mkF c φ0 vs h))
  (nx:H x=none) (nd:H dx=none) (ne:dx≠x):fnSp B (n+1) φ0 (.ref x::xs) (upd (upd H dx (.own x)) x (.ins (B.cl c) dx [])) (fun v H2=>v=.non/\Q (.ref x) H2) E:=by
 have r1:HR B ρ h (upd H dx (.own x)):=r.side nd
 have nx1:(upd H dx (.own x)) x=none:=by rw[upd_ne fun z=>ne z.symm];exact nx
 have g:Gr ρ H (ρ ++ [x]) (upd (upd H dx (.own x)) x (.ins (B.cl c) dx [])):=(Gr.side nd).trans (Gr.new nx1)
 have r2:HR B (ρ ++ [x]) (h++[.ins c []]) (upd (upd H dx (.own x)) x (.ins (B.cl c) dx [])):=r1.new nx1 ⟨dx,[],upd_same,rfl⟩
 have hx:(ρ ++ [x])[h.length]?=some x:=by rw[<-r.len];simp
 refine⟨ρ ++ [x],h++[.ins c []],.ref h.length::vs,by simp[hl],r2,VRs.cons (VR.ref hx) (VRs.up g _ _ hv),?_⟩
 have p2:Post B (fun _ _ _=>False) (ρ ++ [x]) (upd (upd H dx (.own x)) x (.ins (B.cl c) dx [])) (WV B.K Q) (bnd (φ0 (.ref h.length::vs)) (fun r=>match r with|.non=>ret (.ref h.length)|_=>lft none) (h++[.ins c []])):=Post.up g p
 refine post_bndG p2 fun v h1 ρ1 H1 g1 r3 p3 y hy=>?_
 cases v<;>first|exact p3.elim|skip
 rw[VR] at hy
 exact⟨hy,post_ret r3 p3 _ (VR.ref (pre_get g1.pre hx))⟩
theorem call_nm{j:Nat}{es:IEs}{Γ:Gam}{k:Nat}{X:Cx}{cl:Nat->Addr}{EX:Nat->List V->Hp->Prop}{x:Str}{p:Pos}{args:List Expr}{pos:Pos}(hs:OkEs Φ es)(c:Ctx Φ Γ k X cl EX)
  (h:(glB Γ.sc x && Γ.fns[j]?==some (x,args.length)&&decide (args.length<1000)&&chkEs Γ es args)=true):PE X (.Call (.Name x p) args [] pos) (tV Φ (bd X cl) EX (.call j es))/\PT X (.Call (.Name x p) args [] pos) (tT Φ (bd X cl) EX (.call j es)):=by
 simp only[Bool.and_eq_true,beq_iff_eq,decide_eq_true_eq] at h
 obtain⟨⟨⟨h1,h2⟩,h3⟩,h4⟩:=h
 obtain⟨g1,g2,g3⟩:=c.gl h1
 have room:Room k X.A:=c.room.mono (Nat.le_succ k)
 have q:PE X (.Call (.Name x p) args [] pos) (tV Φ (bd X cl) EX (.call j es)):=by
  rcases c.fns j x _ h2 with ⟨_,⟨f,fd,ps,f1,f2,f3,f4,f5⟩|⟨cc,f,fd,ps,φ0,f0,f1,f2,f3,f4,f5⟩⟩|⟨z,_⟩
  ·cases args with
   | nil =>
    cases es with
    | cons i irs=>rw[chkEs.eq_def] at h4;cases h4
    | nil =>
     refine(pe_call0 f5 room g1 f2 f3 f4 .nil pass0 g2).imp fun σ H Q zz0=>?_
     obtain⟨ρ,env,h,hE,r,p⟩:=zz0
     simp only[evE,evEs,bnd_retL] at p
     exact⟨ρ,h,[],rfl,r,VRs.nil,post_false (h:=h) c.noex p⟩
   | cons l ls =>
    cases es with
    | nil=>rw[chkEs] at h4;cases h4
    | cons i irs =>
     have h5:=h4
     rw[chkEs.eq_def] at h5;dsimp only at h5
     simp only[Bool.and_eq_true] at h5
     refine(pe_call f5 room g1 f2 f3 f4 .nil pass0 (hs.1 Γ k X cl EX _ c h4) g2 (star_one h5.1.1) (star_any h5.2)).imp fun σ H Q zz0=>?_
     obtain⟨ρ,env,h,hE,r,p⟩:=zz0
     simp only[evE] at p
     refine⟨ρ,env,h,hE,r,post_bndE p fun vs h1 ρ1 H1 e1 g1 r1 p1 xs q1=>⟨ρ1,h1,vs,evEs_len h4 e1,r1,by rw[List.append_nil];exact q1,post_false (h:=h1) c.noex p1⟩⟩
  ·cases args with
   | nil =>
    cases es with
    | cons i irs=>rw[chkEs.eq_def] at h4;cases h4
    | nil =>
     refine(pe_make0 f3 f5 c.room g1 f2 f4 .nil pass0 g2).imp fun σ H Q zz0=>?_
     obtain⟨ρ,env,h,hE,r,p⟩:=zz0
     simp only[evE,evEs,bnd_retL] at p
     intro y dy ny ndy ney
     rw[f0] at p
     exact make_sp (B:=bd X cl) r VRs.nil rfl (post_false (h:=h) c.noex p) ny ndy ney
   | cons l ls =>
    cases es with
    | nil=>rw[chkEs] at h4;cases h4
    | cons i irs =>
     have h5:=h4
     rw[chkEs.eq_def] at h5;dsimp only at h5
     simp only[Bool.and_eq_true] at h5
     refine(pe_make f3 f5 c.room g1 f2 f4 .nil pass0 (hs.1 Γ k X cl EX _ c h4) g2 (star_one h5.1.1) (star_any h5.2)).imp fun σ H Q zz0=>?_
     obtain⟨ρ,env,h,hE,r,p⟩:=zz0
     simp only[evE] at p
     refine⟨ρ,env,h,hE,r,post_bndE p fun vs h1 ρ1 H1 e1 g1 r1 p1 xs q1 y dy ny ndy ney=>?_⟩
     rw[f0] at p1
     rw[List.append_nil]
     exact make_sp (B:=bd X cl) r1 q1 (evEs_len h4 e1) (post_false (h:=h1) c.noex p1) ny ndy ney
  ·omega
 exact⟨q,pt_of q fun _=>rfl⟩
theorem ok_call{j:Nat}{es:IEs}(hs:OkEs Φ es):OkE Φ (.call j es):=by
 intro Γ k X cl EX e c h
 rw[chkE.eq_def] at h;dsimp only at h;split at h<;>first|cases h|skip
 ·exact call_nm hs c h
theorem ok_fld{n:Nat}{a:IE}{x:Str}(ha:OkE Φ a):OkE Φ (.fld n a x):=by
 intro Γ k X cl EX e c h
 rw[chkE.eq_def] at h;dsimp only at h;split at h<;>first|cases h|skip
 rename_i o y pos
 simp only[Bool.and_eq_true,beq_iff_eq,List.contains_iff_mem] at h
 obtain⟨⟨⟨⟨h1,h2⟩,h3⟩,h4⟩,h5⟩:=h
 subst h1
 have q:PE X (.Attribute o x pos) (tV Φ (bd X cl) EX (.fld n a x)):=by
  refine(pe_fld (ha Γ k X cl EX o c h5).1 (super_ok h2)).imp fun σ H Q zz0=>?_
  obtain⟨ρ,env,h,hE,r,p⟩:=zz0
  simp only[evE] at p
  refine⟨ρ,env,h,hE,r,post_bnd p fun v h1 ρ1 y H1 g1 r1 q1 p1=>?_⟩
  obtain⟨z,e1,w⟩:=post_ask' r1 p1
  cases v<;>first|(cases e1;done)|(rw[VR] at q1;exact q1.elim)|skip
  rename_i i
  rw[VR] at q1
  obtain⟨ad,rfl,q1⟩:=q1
  have hx:∃c0 fs,h1[i]?=some (.ins c0 fs)/\c0<n/\fs.lookup x=some z:=by
   change (match h1[i]? with|some (.ins c fs)=>if c<n then fs.lookup x else none|_=>none)=some z at e1
   split at e1
   ·rename_i c0 fs e2
    split at e1
    ·rename_i hc;exact⟨c0,fs,e2,hc,e1⟩
    ·cases e1
   ·cases e1
  obtain⟨c0,fs,e2,hc,e3⟩:=hx
  obtain⟨dx,gs,k1,k2⟩:=r1.ob i _ ad e2 q1
  obtain⟨y,l1,l2⟩:=k2.look.2 z e3
  obtain⟨cc,nn⟩:=c.cls c0 (by omega)
  exact⟨ad,cl c0,dx,gs,y,rfl,k1,cc,nn x h4,l1,w y l2⟩
 exact⟨q,pt_of q fun _=>rfl⟩
theorem look_mem:∀{js:List (Nat×Nat)} {c j:Nat},js.lookup c=some j->(c,j)∈js
 | (a,b)::r,c,j,e=>by
  rw[List.lookup_cons] at e
  cases hb:c==a with
  | true=>rw[hb] at e;cases e;rw[eq_of_beq hb];exact List.mem_cons_self
  | false=>rw[hb] at e;exact List.mem_cons_of_mem _ (look_mem e)
theorem ok_mth{a:IE}{m:Str}{js:List (Nat×Nat)}{es:IEs}(ha:OkE Φ a)(hs:OkEs Φ es):OkE Φ (.mth a m js es):=by
 intro Γ k X cl EX e c h
 rw[chkE.eq_def] at h;dsimp only at h;split at h<;>first|cases h|skip
 rename_i o x ap args cp
 simp only[Bool.and_eq_true,beq_iff_eq,List.all_eq_true,decide_eq_true_eq,List.contains_iff_mem] at h
 obtain⟨⟨⟨⟨⟨⟨h1,h2⟩,h3⟩,h4⟩,h5⟩,h6⟩,h7⟩:=h
 subst h1
 have few:((backTo cp (starEach args X.env)).all (fun x=>!x.1)&&(backToKw cp (keywordEach [] X.env)).all (fun x=>x.1.isSome)
   && decide (args.length+([]:List Keyword).length+(if ([]:List Keyword).isEmpty then 0 else 1)<30))=true:=by
  rw[star_all h7]
  simp only[Bool.true_and,Bool.and_eq_true]
  exact⟨rfl,decide_eq_true (by simp;omega)⟩
 have hl:(ap.endLine==cp.line)=true:=by rw[h4];exact beq_self_eq_true _
 have room:Room k X.A:=c.room.mono (Nat.le_succ k)
 have main:∀(σ:L2.St) (H:Hp) (Q:VK) (v:Val) (h1:Hs) (ρ1:List Addr) (y:V) (H1:Hp) (F:Nat->M Val),HR (bd X cl) ρ1 h1 H1->VR X.K ρ1 H1 v y->Post (bd X cl) EX ρ1 H1 (WV X.K Q) (bnd (ask fun h=>mthH h v x js) F h1) ->
   ∃j i ad c0 dx gs fd ps,v=.ref i/\y=.ref ad/\H1 ad=some (.ins (cl c0) dx gs)/\Cls X.K (cl c0)/\Meth X.K (cl c0) x (cl (1000+j))/\gs.lookup x=none/\Binds X.K fd ps [] /\
    FnOk X.prog X.w X.K X.mg X.base CX0 k (cl (1000+j)) fd ps (fnSp (bd X cl) (1+args.length) (Φ j))/\Post (bd X cl) EX ρ1 H1 (WV X.K Q) (F j h1):=by
  intro σ H Q v h1 ρ1 y H1 F r1 q1 p1
  obtain⟨j,e1,p2⟩:=post_ask p1
  cases v<;>first|(cases e1;done)|(rw[VR] at q1;exact q1.elim)|skip
  rename_i i
  rw[VR] at q1
  obtain⟨ad,rfl,q1⟩:=q1
  have hx:∃c0 fs,h1[i]?=some (.ins c0 fs)/\fs.lookup x=none/\js.lookup c0=some j:=by
   change (match h1[i]? with|some (.ins c fs)=>if (fs.lookup x).isNone=true then js.lookup c else none|_=>none)=some j at e1
   split at e1
   ·rename_i c0 fs e2
    split at e1
    ·rename_i hc;exact⟨c0,fs,e2,by simpa using hc,e1⟩
    ·cases e1
   ·cases e1
  obtain⟨c0,fs,e2,hn,e3⟩:=hx
  obtain⟨dx,gs,k1,k2⟩:=r1.ob i _ ad e2 q1
  obtain⟨⟨m1,m2⟩,m3⟩:=h5 _ (look_mem e3)
  dsimp only at m1 m2 m3
  have cc:=(c.cls c0 m1).1
  have mm:=c.mts _ m2
  dsimp only at mm
  have hf:∃xx,Γ.fns[j]?=some (xx,1001+args.length):=by
   cases ef:Γ.fns[j]? with
   | none=>rw[ef] at m3;cases m3
   | some q=>rw[ef] at m3;obtain⟨q1,q2⟩:=q;exact⟨q1,by rw[show q2=_ from eq_of_beq m3]⟩
  obtain⟨xx,hf⟩:=hf
  rcases c.fns j xx _ hf with ⟨z,_⟩|⟨_,fd,ps,f1,f4,f5⟩
  ·omega
  ·rw[show 1001+args.length-1000=1+args.length by omega] at f5
   exact⟨j,i,ad,c0,dx,gs,fd,ps,rfl,rfl,k1,cc,mm,k2.look.1 hn,f4,f5,p2⟩
 have q:PE X (.Call (.Attribute o x ap) args [] cp) (tV Φ (bd X cl) EX (.mth a x js es)):=by
  cases args with
  | nil =>
   cases es with
   | cons i irs=>rw[chkEs.eq_def] at h7;cases h7
   | nil =>
    refine(pe_mth0 (k:=k) (ha Γ k X cl EX o c h6).1 (super_ok h2) hl room).imp fun σ H Q zz0=>?_
    obtain⟨ρ,env,h,hE,r,p⟩:=zz0
    simp only[evE,evEs,bnd_retL] at p
    refine⟨ρ,env,h,hE,r,post_bnd p fun v h1 ρ1 y H1 g1 r1 q1 p1=>?_⟩
    obtain⟨j,i,ad,c0,dx,gs,fd,ps,rfl,rfl,k1,cc,mm,k2,f4,f5,p2⟩:=main σ H Q v h1 ρ1 y H1 _ r1 q1 p1
    exact⟨ad,cl c0,dx,gs,cl (1000+j),fd,ps,_,rfl,k1,cc,mm,k2,f4,f5,ρ1,h1,[.ref i],rfl,r1,VRs.cons q1 VRs.nil,post_false (h:=h1) c.noex p2⟩
  | cons l ls =>
   cases es with
   | nil=>rw[chkEs] at h7;cases h7
   | cons i irs =>
    have h8:=h7
    rw[chkEs.eq_def] at h8;dsimp only at h8
    simp only[Bool.and_eq_true] at h8
    refine(pe_mthD (k:=k) (ha Γ k X cl EX o c h6).1 (hs.1 Γ k X cl EX _ c h7) (super_ok h2) few hl room (star_one h8.1.1) (star_any h8.2)).imp fun σ H Q zz0=>?_
    obtain⟨ρ,env,h,hE,r,p⟩:=zz0
    simp only[evE] at p
    refine⟨ρ,env,h,hE,r,post_bnd p fun v h1 ρ1 y H1 g1 r1 q1 p1=>?_⟩
    obtain⟨j,i,ad,c0,dx,gs,fd,ps,rfl,rfl,k1,cc,mm,k2,f4,f5,p2⟩:=main σ H Q v h1 ρ1 y H1 _ r1 q1 p1
    refine⟨ad,cl c0,dx,gs,cl (1000+j),fd,ps,_,rfl,k1,cc,mm,k2,f4,f5,ρ1,env,h1,hE.up g1,r1,post_bndE p2 fun vs h2 ρ2 H2 e4 g2 r2 p3 xs q2=>?_⟩
    refine⟨ρ2,h2,.ref i::vs,?_,r2,VRs.cons (VR.up g2 _ _ q1) q2,post_false (h:=h2) c.noex p3⟩
    rw[List.length_cons,evEs_len h7 e4];omega
 exact⟨q,pt_of q fun _=>rfl⟩
end
end Hv
end
section
namespace Hv
open PySem L2 PyProof.Rows
section
variable {Φ:Fn} {Γ:Gam} {k:Nat} {X:Cx} {cl:Nat->Addr} {EX:Nat->List V->Hp->Prop}
theorem bl_all:bootBuiltins "all" = some (.builtin "all"):=by decide +kernel
theorem bl_any:bootBuiltins "any" = some (.builtin "any"):=by decide +kernel
theorem bl_sorted:bootBuiltins "sorted" = some (.builtin "sorted"):=by decide +kernel
theorem bl_min:bootBuiltins "min" = some (.builtin "min"):=by decide +kernel
theorem bl_max:bootBuiltins "max" = some (.builtin "max"):=by decide +kernel
theorem bl_list:bootBuiltins "list" = some (.type "list"):=by decide +kernel
theorem bl_tuple:bootBuiltins "tuple" = some (.type "tuple"):=by decide +kernel
theorem bl_str:bootBuiltins "str" = some (.type "str"):=by decide +kernel
theorem bl_int:bootBuiltins "int" = some (.type "int"):=by decide +kernel
theorem bl_bool:bootBuiltins "bool" = some (.type "bool"):=by decide +kernel
theorem bl_dict:bootBuiltins "dict" = some (.type "dict"):=by decide +kernel
theorem bl_isin:bootBuiltins "isinstance" = some (.builtin "isinstance"):=by decide +kernel
theorem evEs_one{e:IE}{env:Env}:evEs Φ (.cons e .nil) env=bnd (evE Φ e env) fun d=>ret [d]:=by
 simp only[evEs,bnd_retL]
theorem six{T:String}(h:["list","tuple","str","bool","int","dict"].contains T=true):T = "list" \/ T = "tuple" \/ T = "str" \/ T = "bool" \/ T = "int" \/ T = "dict":=by simpa using h
theorem ty_boot{T:String}(h:["list","tuple","str","bool","int","dict"].contains T=true):(T:Str)∈bltNames/\bootBuiltins (T:Str)=some (.type T)/\(T:Str) ≠ "__name__" /\ ((T:Str)==("__debug__":Str))=false:=by
 rcases six h with rfl|rfl|rfl|rfl|rfl|rfl
 ·exact⟨by decide,bl_list,by decide,by decide⟩
 ·exact⟨by decide,bl_tuple,by decide,by decide⟩
 ·exact⟨by decide,bl_str,by decide,by decide⟩
 ·exact⟨by decide,bl_bool,by decide,by decide⟩
 ·exact⟨by decide,bl_int,by decide,by decide⟩
 ·exact⟨by decide,bl_dict,by decide,by decide⟩
theorem ok_isin{T:String}{es:IEs}(hs:OkEs Φ es):OkE Φ (.blt (.isin T) es):=by
 intro Γ k X cl EX e c h
 rw[chkE.eq_def] at h;dsimp only at h;split at h<;>first|cases h|skip
 rename_i x p args pos
 simp only[Bool.and_eq_true,beq_iff_eq] at h
 obtain⟨⟨h1,h2⟩,h3⟩:=h
 subst h2
 obtain⟨g1,g2,g3⟩:=c.gl h1
 split at h3<;>first|cases h3|skip
 rename_i a y yp
 simp only[Bool.and_eq_true,beq_iff_eq] at h3
 obtain⟨⟨⟨k1,k2⟩,k3⟩,k4⟩:=h3
 obtain⟨b1,b2,b3,b4⟩:=ty_boot k3
 obtain⟨y1,y2,y3⟩:=c.gl k1
 subst k2
 cases es with
 | nil=>rw[chkEs] at k4;cases k4
 | cons i irs =>
  rw[chkEs.eq_def] at k4;dsimp only at k4
  simp only[Bool.and_eq_true] at k4
  cases irs with
  | cons j irs=>have:=k4.2;rw[chkEs.eq_def] at this;cases this
  | nil =>
   have q:PE X (.Call (.Name (bltN (.isin T)) p) [a,.Name (T:Str) yp] [] pos) (tV Φ (bd X cl) EX (.blt (.isin T) (.cons i .nil))):=by
    refine(pe_callB (isin_bl (cl:=cl) (EX:=EX) (T:=T)) g1 (c.blt _ (show ("isinstance":Str)∈bltNames by decide)) bl_isin (pa_cons (hs.2.1 Γ k X cl EX a c k4.1.2).1 (pa_cons (pe_bltn (v:=.ty T) y1 (c.blt _ b1) b2 rfl b3 b4) pa_nil) (star_one k4.1.1)) g3 g2 (star_one k4.1.1)).imp fun σ H Q zz0=>?_
    obtain⟨ρ,env,h,hE,r,p⟩:=zz0
    simp only[evE,evEs_one,bnd_assoc,bnd_retL] at p
    exact⟨ρ,env,h,hE,r,post_bnd p fun v h1 ρ1 x H1 g1 r1 q1 p1=>⟨ρ1,h1,v,x,rfl,r1,q1,p1⟩⟩
   exact⟨q,pt_of q fun _=>rfl⟩
theorem bl_set:bootBuiltins "set" = some (.type "set"):=by decide +kernel
theorem ok_sset{a:IE}(ha:OkE Φ a):OkE Φ (.sset a):=by
 intro Γ k X cl EX e c h
 rw[chkE.eq_def] at h;dsimp only at h;split at h<;>first|cases h|skip
 rename_i x p1 y p2 l pos2 pos1
 simp only[Bool.and_eq_true,beq_iff_eq] at h
 obtain⟨⟨⟨⟨⟨h1,h2⟩,h3⟩,h4⟩,h5⟩,h6⟩:=h
 subst h1;subst h2
 have q:PE X (.Call (.Name "sorted" p1) [.Call (.Name "set" p2) [l] [] pos2] [] pos1) (tV Φ (bd X cl) EX (.sset a)):=by
  have qe:=(ha Γ k X cl EX l c h6).1
  intro pins s σ H Q I hh
  have hd:X.A.handled=none:=I.ok.hd c.calm
  refine((pe_sset hd (c.gl h3).1 (c.blt _ (by decide)) (c.gl h4).1 (c.blt _ (by decide)) bl_sorted bl_set qe (star_one (env:=X.env) (es:=[]) h5)).imp fun σ H Q ⟨ρ,env,h,hE,r,p⟩=>?_) pins s σ H Q I hh
  simp only[evE] at p
  refine⟨ρ,env,h,hE,r,post_bnd p fun v h1 ρ1 x H1 g1 r1 q1 p1=>?_⟩
  obtain⟨zs,e,p1⟩:=post_ask p1
  obtain⟨ns,e1,p1⟩:=post_lft p1
  obtain⟨e2,p1⟩:=post_guard p1
  obtain⟨b,ys,rfl,q2,q3⟩:=lst_sq r1 q1 e
  rw[ints_some e1] at q3
  rw[VRs.ints.mp q3] at q2
  exact⟨b,ns,rfl,q2,of_decide_eq_true e2,fun l hl=>post_newL r1 hl (VRs.ints.mpr rfl) p1⟩
 exact⟨q,pt_of q fun _=>rfl⟩
theorem ok_dget{d k x:IE}(hd:OkE Φ d)(hk:OkE Φ k)(hx:OkE Φ x):OkE Φ (.dget d k x):=by
 intro Γ n X cl EX e c h
 rw[chkE.eq_def] at h;dsimp only at h;split at h<;>first|cases h|skip
 rename_i o m ap a b cp
 simp only[Bool.and_eq_true,beq_iff_eq] at h
 obtain⟨⟨⟨⟨⟨⟨⟨h1,h2⟩,h3⟩,h4⟩,h5⟩,h6⟩,h7⟩,h8⟩:=h
 subst h1
 have st:starEach [a,b] X.env=[(false,eval a X.env),(false,eval b X.env)]:=by rw[star_one h3,star_one h4];rfl
 have m2:M2 X o "get" ap a b cp:=⟨super_ok h2,by rw[st];rfl,by rw[h5];exact beq_self_eq_true _,by rw[st];rfl⟩
 have q:PE X (.Call (.Attribute o "get" ap) [a,b] [] cp) (tV Φ (bd X cl) EX (.dget d k x)):=by
  refine(pe_dget2 (by have:=c.units;omega) (hd Γ n X cl EX o c h6).1 (hk Γ n X cl EX a c h7).1 (hx Γ n X cl EX b c h8).1 m2).imp fun σ H Q zz0=>?_
  obtain⟨ρ,env,h,hE,r,p⟩:=zz0
  simp only[evE] at p
  refine⟨ρ,env,h,hE,r,post_bnd p fun v h1 ρ1 y H1 g1 r1 q1 p1=>?_⟩
  obtain⟨u0,e1,pA⟩:=post_ask p1
  clear p1
  cases v<;>first|(cases e1;done)|(rw[VR] at q1;exact q1.elim)|skip
  rename_i i
  rw[VR] at q1
  obtain⟨ad,rfl,q1⟩:=q1
  have hdc:∃kvs,h1[i]?=some (.dct kvs):=by
   change (match h1[i]? with|some (.dct _)=>some ()|_=>none)=some _ at e1
   split at e1
   ·rename_i kvs e2;exact⟨kvs,e2⟩
   ·cases e1
  obtain⟨kvs,e2⟩:=hdc
  obtain⟨ks,k1,k2⟩:=r1.ob i _ ad e2 q1
  refine⟨ad,rfl,.inl ⟨ks,.inl k1⟩,ρ1,env,h1,hE.up g1,r1,post_bnd pA fun w h2 ρ2 y2 H2 g2 r2 q2 p2=>?_⟩
  obtain⟨kk,e3,p2⟩:=post_lft p2
  refine⟨ρ2,env,h2,(hE.up g1).up g2,r2,post_bnd p2 fun z h3 ρ3 y3 H3 g3 r3 q3 p3=>?_⟩
  obtain⟨rr,e4,p3⟩:=post_ask p3
  have q4:ρ3[i]?=some ad:=pre_get (g2.trans g3).pre q1
  have hd3:∃kvs,h3[i]?=some (.dct kvs)/\rr=valK kvs kk:=by
   change (match h3[i]? with|some (.dct kvs)=>some (valK kvs kk)|_=>none)=some rr at e4
   split at e4
   ·rename_i kvs e2;cases e4;exact⟨kvs,e2,rfl⟩
   ·cases e4
  obtain⟨kvs3,e5,rfl⟩:=hd3
  obtain⟨ks3,k3,k4⟩:=r3.ob i _ ad e5 q4
  have ek:y2=kV kk:=by
   cases w<;>first|(cases e3;done)|skip
   ·cases e3;rw[VR] at q2;exact q2
   ·cases e3;rw[VR] at q2;exact q2
  refine⟨valV ks3 kk,by rw[ek];exact DGet.k k3,?_⟩
  cases ev:valK kvs3 kk with
  | none =>
   rw[ev] at p3
   rw[(KRs.val kk k4).1 ev]
   exact post_ret r3 p3 _ q3
  | some z' =>
   obtain⟨t,e6,q6⟩:=(KRs.val kk k4).2 z' ev
   rw[ev] at p3
   rw[e6]
   exact post_ret r3 p3 _ q6
 exact⟨q,pt_of q fun _=>rfl⟩
theorem keys_vr{K:PySem.W.Frag}{ρ:List Addr}{H:Hp}:∀{kvs:List (Key×Val)} {ks:List (Key×V)},KRs K ρ H kvs ks->VRs K ρ H ((kvs.map (·.1)).map keyV) (ks.map fun kv=>kV kv.1)
 | [],ks,q=>by rw[KRs] at q;subst q;exact rfl
 | (k,v)::kvs,ks,q=>by
  rw[KRs] at q
  obtain⟨x,r,rfl,_,q⟩:=q
  refine⟨kV k,_,rfl,?_,keys_vr q⟩
  cases k with
  | inl i=>exact VR.int
  | inr s=>exact VR.str
theorem lkeys_imp{d:IE}{env0:Unit}:∀(σ:L2.St) (H:Hp) (Q:VK),tV Φ (bd X cl) EX (.lkeys d) σ H Q->tLK (tV Φ (bd X cl) EX d) σ H Q:=fun σ H Q ⟨ρ,env,h,hE,r,p⟩=>by
 simp only[evE] at p
 refine⟨ρ,env,h,hE,r,post_bnd p fun v h1 ρ1 y H1 g1 r1 q1 p1=>?_⟩
 obtain⟨ks0,e1,pA⟩:=post_ask p1
 clear p1
 cases v<;>first|(cases e1;done)|(rw[VR] at q1;exact q1.elim)|skip
 rename_i i
 rw[VR] at q1
 obtain⟨ad,rfl,q1⟩:=q1
 have hdc:∃kvs,h1[i]?=some (.dct kvs)/\ks0=kvs.map (·.1):=by
  change (match h1[i]? with|some (.dct kvs)=>some (kvs.map (·.1))|_=>none)=some _ at e1
  split at e1
  ·rename_i kvs e2;cases e1;exact⟨kvs,e2,rfl⟩
  ·cases e1
 obtain⟨kvs,e2,rfl⟩:=hdc
 obtain⟨ks,k1,k2⟩:=r1.ob i _ ad e2 q1
 exact⟨ad,ks,rfl,k1,fun l hl=>post_newL r1 hl (keys_vr k2) pA⟩
theorem ok_lkeys{d:IE}(hd:OkE Φ d):OkE Φ (.lkeys d):=by
 intro Γ n X cl EX e c h
 rw[chkE.eq_def] at h;dsimp only at h;split at h<;>first|cases h|skip
 ·rename_i x p y qp pos
  simp only[Bool.and_eq_true,beq_iff_eq] at h
  obtain⟨⟨h1,h3⟩,h6⟩:=h
  subst h1
  have q:PE X (.Call (.Name "list" p) [.Name y qp] [] pos) (tV Φ (bd X cl) EX (.lkeys d)):=by
   have qe:=(hd Γ n X cl EX _ c h6).1
   intro pins s σ H Q I hh
   have hdl:X.A.handled=none:=I.ok.hd c.calm
   exact((pe_lkeysD hdl (star_one rfl) (c.gl h3).1 (c.blt _ (by decide)) bl_list qe).imp (lkeys_imp (env0:=()))) pins s σ H Q I hh
  exact⟨q,pt_of q fun _=>rfl⟩
theorem ok_sdef{d k x:IE}(hd:OkE Φ d)(hk:OkE Φ k)(hx:OkE Φ x):OkE Φ (.sdef d k x):=okStub fun _ _=>rfl
theorem krs_fst{K:PySem.W.Frag}{ρ:List Addr}{H:Hp}:∀{kvs:List (Key×Val)} {ks:List (Key×V)},KRs K ρ H kvs ks->ks.map (·.1)=kvs.map (·.1)
 | [],ks,q=>by rw[KRs] at q;subst q;rfl
 | (k,v)::kvs,ks,q=>by
  rw[KRs] at q
  obtain⟨x,r,rfl,_,q⟩:=q
  rw[List.map_cons,List.map_cons,krs_fst q]
theorem intK_eq:∀{ks:List Key} {ns:List Int},intK? ks=some ns->ks=ns.map Sum.inl
 | [],ns,e=>by cases e;rfl
 | k::ks,ns,e=>by
  unfold intK? at e
  rw[mapO] at e
  obtain⟨i,e1,e⟩:=Option.bind_eq_some_iff.mp e
  obtain⟨r,e2,e⟩:=Option.bind_eq_some_iff.mp e
  cases e
  cases k with
  | inl j=>cases e1;rw[intK_eq e2];rfl
  | inr _=>cases e1
theorem skeys_imp{d:IE}{env0:Unit}:∀(σ:L2.St) (H:Hp) (Q:VK),tV Φ (bd X cl) EX (.skeys d) σ H Q->tSK (tV Φ (bd X cl) EX d) σ H Q:=fun σ H Q ⟨ρ,env,h,hE,r,p⟩=>by
 simp only[evE] at p
 refine⟨ρ,env,h,hE,r,post_bnd p fun v h1 ρ1 y H1 g1 r1 q1 p1=>?_⟩
 obtain⟨ns0,e1,pA⟩:=post_ask p1
 clear p1
 unfold skeysH at e1
 obtain⟨ks0,e5,e6⟩:=Option.bind_eq_some_iff.mp e1
 clear e1
 obtain⟨ns,e3,e4⟩:=Option.bind_eq_some_iff.mp e6
 clear e6
 have e1:=e5
 clear e5
 cases v<;>first|(cases e1;done)|(rw[VR] at q1;exact q1.elim)|skip
 rename_i i
 rw[VR] at q1
 obtain⟨ad,rfl,q1⟩:=q1
 have hdc:∃kvs,h1[i]?=some (.dct kvs)/\ks0=kvs.map (·.1):=by
  change (match h1[i]? with|some (.dct kvs)=>some (kvs.map (·.1))|_=>none)=some _ at e1
  split at e1
  ·rename_i kvs e2;cases e1;exact⟨kvs,e2,rfl⟩
  ·cases e1
 obtain⟨kvs,e2,rfl⟩:=hdc
 obtain⟨ks,k1,k2⟩:=r1.ob i _ ad e2 q1
 by_cases hl:ns.length<64
 ·rw[if_pos hl] at e4
  cases e4
  exact⟨ad,ks,ns,rfl,k1,(krs_fst k2).trans (intK_eq e3),hl,fun l hl=>post_newL r1 hl (VRs.ints.mpr rfl) pA⟩
 ·rw[if_neg hl] at e4;cases e4
theorem ok_skeys{d:IE}(hd:OkE Φ d):OkE Φ (.skeys d):=by
 intro Γ n X cl EX e c h
 rw[chkE.eq_def] at h;dsimp only at h;split at h<;>first|cases h|skip
 ·rename_i x p y qp pos
  simp only[Bool.and_eq_true,beq_iff_eq] at h
  obtain⟨⟨h1,h3⟩,h6⟩:=h
  subst h1
  have q:PE X (.Call (.Name "sorted" p) [.Name y qp] [] pos) (tV Φ (bd X cl) EX (.skeys d)):=by
   have qe:=(hd Γ n X cl EX _ c h6).1
   intro pins s σ H Q I hh
   have hdl:X.A.handled=none:=I.ok.hd c.calm
   exact((pe_skeysD hdl (star_one rfl) (c.gl h3).1 (c.blt _ (by decide)) bl_sorted qe).imp (skeys_imp (env0:=()))) pins s σ H Q I hh
  exact⟨q,pt_of q fun _=>rfl⟩
theorem ok_svals{d:IE}(hd:OkE Φ d):OkE Φ (.svals d):=okStub fun _ _=>rfl
theorem ok_blt{b:Bl}{es:IEs}(hs:OkEs Φ es):OkE Φ (.blt b es):=by
 cases b with
 | isin T=>exact ok_isin hs
 | _ =>
  intro Γ k X cl EX e c h
  rw[chkE.eq_def] at h;dsimp only at h;split at h<;>first|cases h|skip
  rename_i x p args pos
  simp only[Bool.and_eq_true,beq_iff_eq] at h
  obtain⟨⟨h1,h2⟩,h3⟩:=h
  subst h2
  obtain⟨g1,g2,g3⟩:=c.gl h1
  cases args with
  | nil=>cases h3.1
  | cons l ls =>
   cases es with
   | nil=>have:=h3.2;rw[chkEs] at this;cases this
   | cons i irs =>
    have h5:=h3.2
    rw[chkEs.eq_def] at h5;dsimp only at h5
    simp only[Bool.and_eq_true] at h5
    have hA:=hs.1 Γ k X cl EX _ c h3.2
    have st:=star_one (env:=X.env) (es:=ls) h5.1.1
    have an:=star_any (pos:=pos) (env:=X.env) h5.2
    refine(fun q=>⟨q,pt_of q fun _=>rfl⟩) ?_
    first
     | refine(pe_callB (len_bl (cl:=cl) (EX:=EX)) g1 (c.blt _ (by decide)) PySem.boot_len hA g3 g2 st an).imp fun σ H Q ⟨ρ,env,h,hE,r,p⟩=>?_
     | refine(pe_callB (min_bl (cl:=cl) (EX:=EX) c.calm) g1 (c.blt _ (by decide)) bl_min hA g3 g2 st an).imp fun σ H Q ⟨ρ,env,h,hE,r,p⟩=>?_
     | refine(pe_callB (max_bl (cl:=cl) (EX:=EX) c.calm) g1 (c.blt _ (by decide)) bl_max hA g3 g2 st an).imp fun σ H Q ⟨ρ,env,h,hE,r,p⟩=>?_
     | refine(pe_callB (sorted_bl (cl:=cl) (EX:=EX)) g1 (c.blt _ (by decide)) bl_sorted hA g3 g2 st an).imp fun σ H Q ⟨ρ,env,h,hE,r,p⟩=>?_
     | refine(pe_callB (all_bl (cl:=cl) (EX:=EX) c.calm) g1 (c.blt _ (by decide)) bl_all hA g3 g2 st an).imp fun σ H Q ⟨ρ,env,h,hE,r,p⟩=>?_
     | refine(pe_callB (any_bl (cl:=cl) (EX:=EX) c.calm) g1 (c.blt _ (by decide)) bl_any hA g3 g2 st an).imp fun σ H Q ⟨ρ,env,h,hE,r,p⟩=>?_
     | refine(pe_callTy (list_bl (cl:=cl) (EX:=EX)) g1 (c.blt _ (by decide)) bl_list hA g3 g2 st an).imp fun σ H Q ⟨ρ,env,h,hE,r,p⟩=>?_
     | refine(pe_callTy (tuple_bl (cl:=cl) (EX:=EX)) g1 (c.blt _ (by decide)) bl_tuple hA g3 g2 st an).imp fun σ H Q ⟨ρ,env,h,hE,r,p⟩=>?_
     | refine(pe_callTy (str_bl (cl:=cl) (EX:=EX)) g1 (c.blt _ (by decide)) bl_str hA g3 g2 st an).imp fun σ H Q ⟨ρ,env,h,hE,r,p⟩=>?_
     | refine(pe_callTy (int_bl (cl:=cl) (EX:=EX)) g1 (c.blt _ (by decide)) bl_int hA g3 g2 st an).imp fun σ H Q ⟨ρ,env,h,hE,r,p⟩=>?_
    simp only[evE] at p
    exact⟨ρ,env,h,hE,r,post_bndG p fun vs h1 ρ1 H1 g1 r1 p1 xs q1=>⟨ρ1,h1,vs,r1,q1,p1⟩⟩
noncomputable def meT:Me->String
 | .join=>"str" | .append=>"list" | .extend=>"list"
theorem recv_ty{B:Bd}{ρ:List Addr}{h:Hs}{H:Hp}{m:Me}{v:Val}{x:V}(r:HR B ρ h H)(q:VR B.K ρ H v x)(e:recv h m v=some ()):tyV B.K (meT m) x H:=by
 cases m<;>cases v<;>simp only[recv] at e<;>first|cases e|skip
 ·rw[VR] at q;subst q;rfl
 ·split at e
  ·rename_i xs e1
   obtain⟨a,ys,rfl,q0,q1,q2⟩:=lst_own r q e1
   exact .inl ⟨rfl,ys,.inl (.inl q1)⟩
  ·cases e
 ·split at e
  ·rename_i xs e1
   obtain⟨a,ys,rfl,q0,q1,q2⟩:=lst_own r q e1
   exact .inl ⟨rfl,ys,.inl (.inl q1)⟩
  ·cases e
theorem ok_met{m:Me}{a:IE}{es:IEs}(ha:OkE Φ a)(hs:OkEs Φ es):OkE Φ (.met m a es):=by
 intro Γ k X cl EX e c h
 rw[chkE.eq_def] at h;dsimp only at h;split at h<;>first|cases h|skip
 rename_i o x ap args cp
 simp only[Bool.and_eq_true,beq_iff_eq] at h
 obtain⟨⟨⟨⟨⟨⟨h1,h2⟩,h3⟩,h4⟩,h5⟩,h6⟩,h7⟩:=h
 subst h1
 cases args with
 | nil=>cases h3
 | cons l ls =>
  have hA:=hs.1 Γ k X cl EX _ c h7
  have h8:noStar l=true/\∃irs,chkEs Γ irs ls=true:=by
   cases es with
   | nil=>rw[chkEs] at h7;cases h7
   | cons i irs=>rw[chkEs.eq_def] at h7;dsimp only at h7;simp only[Bool.and_eq_true] at h7;exact⟨h7.1.1,irs,h7.2⟩
  obtain⟨n1,irs,n2⟩:=h8
  have st:=star_one (env:=X.env) (es:=ls) n1
  have an:=star_any (pos:=cp) (env:=X.env) n2
  have few:((backTo cp (starEach (l::ls) X.env)).all (fun x=>!x.1)&&(backToKw cp (keywordEach [] X.env)).all (fun x=>x.1.isSome)
   && decide ((l::ls).length+([]:List Keyword).length+(if ([]:List Keyword).isEmpty then 0 else 1)<30))=true:=by
   rw[star_all h7]
   have:(l::ls).length<29:=of_decide_eq_true h4
   simp only[Bool.true_and,Bool.and_eq_true]
   exact⟨rfl,decide_eq_true (by simp at this |-;omega)⟩
  have hl:(ap.endLine==cp.line)=true:=by rw[h5];exact beq_self_eq_true _
  refine(fun q=>⟨q,pt_of q fun _=>rfl⟩) ?_
  have fin:∀(T:String) (r:V->List V->Hp->VK->Prop),(∀x xs H Q,rMe (bd X cl) EX m x xs H Q->r x xs H Q)->T=meT m->∀σ H Q,tV Φ (bd X cl) EX (.met m a es) σ H Q->tBM X.K T r (tV Φ (bd X cl) EX a) (tVs Φ (bd X cl) EX es) σ H Q:=by
   rintro T rr hr rfl σ H Q ⟨ρ,env,h,hE,r,p⟩
   simp only[evE] at p
   refine⟨ρ,env,h,hE,r,post_bnd p fun v h1 ρ1 x H1 g1 r1 q1 p1=>?_⟩
   obtain⟨_,e1,p2⟩:=post_ask p1
   refine⟨recv_ty r1 q1 e1,ρ1,env,h1,hE.up g1,r1,post_bndG p2 fun vs h2 ρ2 H2 g2 r2 p3 xs q2=>hr _ _ _ _ ⟨ρ2,h2,v,vs,r2,VR.up g2 _ _ q1,q2,p3⟩⟩
  cases m with
  | join=>exact(pe_bm PySem.F.plainAttrs_str PySem.F.slot_str_join PySem.F.type_str_join (join_me (cl:=cl) (EX:=EX)) (ha Γ k X cl EX o c h6).1 hA (super_ok h2) few hl st an).imp (fin _ _ (fun _ _ _ _ z=>z) rfl)
  | append=>exact(pe_bm PySem.F.plainAttrs_list PySem.F.slot_list_append PySem.F.type_list_append (append_me (cl:=cl) (EX:=EX)) (ha Γ k X cl EX o c h6).1 hA (super_ok h2) few hl st an).imp (fin _ _ (fun _ _ _ _ z=>z) rfl)
  | extend=>exact(pe_bm PySem.F.plainAttrs_list PySem.F.slot_list_extend PySem.F.type_list_extend (extend_me (cl:=cl) (EX:=EX)) (ha Γ k X cl EX o c h6).1 hA (super_ok h2) few hl st an).imp (fin _ _ (fun _ _ _ _ z=>z) rfl)
end
end Hv
end
section
namespace Hv
open PySem L2 PyProof.Rows
theorem _root_.L2.PI.or{X:Cx}{tg iter:Expr}{t t':TI}(h:PI X tg iter t)(h':PI X tg iter t'):PI X tg iter (fun σ H R=>t σ H R\/t' σ H R):=fun pins s σ H R I hw=>hw.elim (h pins s σ H R I) (h' pins s σ H R I)
structure Walks (B:Bd) (src:Src) (J:It) (ρ1:List Addr) (H1:Hp):Prop where
 stop:∀{ρ h H i xs},Gw ρ1 H1 ρ H->HR B ρ h H->src.items h=some xs->xs.length<=i->J.stop i H
 go:∀{ρ h H i xs v},Gw ρ1 H1 ρ H->HR B ρ h H->src.items h=some xs->xs[i]?=some v->J.go i H
 yld:∀{ρ h H i xs v y H'},Gw ρ1 H1 ρ H->HR B ρ h H->src.items h=some xs->xs[i]?=some v->J.yld i H y H'->Gr ρ H ρ H'/\HR B ρ h H'/\VR B.K ρ H' v y
section
variable {B:Bd} {ρ1:List Addr} {H1:Hp} {a:Addr}
theorem walks_tup{vs:List Val}{xs:List V}(q:SqT B.K H1 a xs)(e:VRs B.K ρ1 H1 vs xs):Walks B (.fix vs) (Itt B.K a) ρ1 H1 where
 stop:=fun g r hi hl=>by
  cases hi
  exact⟨xs,g.sqT q,by rw[<-e.length];exact hl⟩
 go:=fun g r hi hv=>by
  cases hi
  obtain⟨x,k1,_⟩:=e.get hv
  exact⟨xs,x,g.sqT q,k1⟩
 yld:=fun g r hi hv y=>by
  cases hi
  obtain⟨rfl,y⟩:=y
  obtain⟨x,k1,k2⟩:=e.get hv
  have:=y xs (g.sqT q)
  rw[k1] at this;cases this
  exact⟨Gr.refl,r,VR.upw g _ _ k2⟩
theorem walks_rl{vs:List Val}{xs:List V}(q:SqR B.K H1 a xs)(e:VRs B.K ρ1 H1 vs xs):Walks B (.fix vs) (Itl B.K a) ρ1 H1 where
 stop:=fun g r hi hl=>by
  cases hi
  exact⟨xs,(g.sqR q).sq,by rw[<-e.length];exact hl⟩
 go:=fun g r hi hv=>by
  cases hi
  obtain⟨x,k1,_⟩:=e.get hv
  exact⟨xs,x,(g.sqR q).sq,k1⟩
 yld:=fun g r hi hv y=>by
  cases hi
  obtain⟨rfl,y⟩:=y
  obtain⟨x,k1,k2⟩:=e.get hv
  have:=y xs (g.sqR q).sq
  rw[k1] at this;cases this
  exact⟨Gr.refl,r,VR.upw g _ _ k2⟩
theorem live_sq{i:Nat}{ρ:List Addr}{h:Hs}{H:Hp}{xs:List Val}(q:ρ1[i]?=some a)(g:Gw ρ1 H1 ρ H)(r:HR B ρ h H)(hi:(Src.live i).items h=some xs):∃ys,SqL B.K H a ys/\VRs B.K ρ H xs ys:=by
 obtain⟨b,ys,e,k1,k2⟩:=lst_sq r (VR.ref (pre_get g.pre q)) (show lstOf h (.ref i)=some xs from hi)
 cases e
 exact⟨ys,k1,k2⟩
theorem walks_live{i:Nat}(q:ρ1[i]?=some a):Walks B (.live i) (Itl B.K a) ρ1 H1 where
 stop:=fun g r hi hl=>by
  obtain⟨ys,k1,k2⟩:=live_sq q g r hi
  exact⟨ys,k1,by rw[<-k2.length];exact hl⟩
 go:=fun g r hi hv=>by
  obtain⟨ys,k1,k2⟩:=live_sq q g r hi
  obtain⟨x,k3,_⟩:=k2.get hv
  exact⟨ys,x,k1,k3⟩
 yld:=fun g r hi hv y=>by
  obtain⟨ys,k1,k2⟩:=live_sq q g r hi
  obtain⟨rfl,y⟩:=y
  obtain⟨x,k3,k4⟩:=k2.get hv
  have:=y ys k1
  rw[k3] at this;cases this
  exact⟨Gr.refl,r,k4⟩
theorem rangeV_length(lo:Int)(n:Nat):(rangeV lo n).length=n:=by unfold rangeV;simp
theorem walks_range{lo:Int}{n:Nat}:Walks B (.fix (rangeV lo n)) (Itr lo n) ρ1 H1 where
 stop:=fun g r hi hl=>by
  cases hi
  rw[rangeV_length] at hl;exact hl
 go:=fun g r hi hv=>by
  cases hi
  have:=(List.getElem?_eq_some_iff.mp hv).1
  rw[rangeV_length] at this;exact this
 yld:=fun {ρ h H i xs v y H'} g r hi hv y'=>by
  cases hi
  obtain⟨rfl,rfl⟩:=y'
  have hl:=(List.getElem?_eq_some_iff.mp hv).1
  rw[rangeV_length] at hl
  have e:(rangeV lo n)[i]?=some (.int (lo+i)):=by unfold rangeV;simp[hl]
  rw[e] at hv;cases hv
  exact⟨Gr.refl,r,VR.int⟩
theorem enumV_length:∀(i:Nat) (ds:List Val),(enumV i ds).length=ds.length
 | _,[]=>rfl
 | i,d::r=>by simp[enumV,enumV_length (i+1) r]
theorem enumV_get:∀(k:Nat) (ds:List Val) (i:Nat) (d:Val),ds[i]?=some d->(enumV k ds)[i]?=some (.tup [.int ((k+i:Nat):Int),d])
 | _,[],_,_,h=>by simp at h
 | k,e::r,0,d,h=>by simp at h;subst h;simp[enumV]
 | k,e::r,i+1,d,h=>by
  have:=enumV_get (k+1) r i d (by simpa using h)
  simp only[enumV,List.getElem?_cons_succ]
  rw[this]
  have e1:k+1+i=k+(i+1):=by omega
  rw[e1]
theorem enumV_inv{ds:List Val}{i:Nat}{v:Val}(e:(enumV 0 ds)[i]?=some v):∃d,ds[i]?=some d/\v=.tup [.int (i:Int),d]:=by
 have hl:=(List.getElem?_eq_some_iff.mp e).1
 rw[enumV_length] at hl
 have e1:=enumV_get 0 ds i ds[i] (List.getElem?_eq_getElem hl)
 rw[e] at e1
 cases e1
 exact⟨ds[i],List.getElem?_eq_getElem hl,by rw[Nat.zero_add]⟩
theorem enum_yld{ρ:List Addr}{h:Hs}{H H':Hp}{i:Nat}{xs:List Val}{ys:List V}{v:Val}{y:V}(r:HR B ρ h H)(k1:SqL B.K H a ys)(k2:VRs B.K ρ H xs ys)(hv:(enumV 0 xs)[i]?=some v)(hy:(Ite B.K a).yld i H y H'):Gr ρ H ρ H'/\HR B ρ h H'/\VR B.K ρ H' v y:=by
 obtain⟨p,w,hn,rfl,rfl,hy⟩:=hy
 obtain⟨d,e1,rfl⟩:=enumV_inv hv
 obtain⟨x,k3,k4⟩:=k2.get e1
 have:=hy ys k1
 rw[k3] at this;cases this
 exact⟨Gr.side hn,r.side hn,VR.tup (SqT.of upd_same) (VRs.cons VR.int (VRs.cons (VR.up (Gr.side hn) _ _ k4) VRs.nil))⟩
theorem walks_enumR{vs:List Val}{xs:List V}(q:SqR B.K H1 a xs)(e:VRs B.K ρ1 H1 vs xs):Walks B (.fix (enumV 0 vs)) (Ite B.K a) ρ1 H1 where
 stop:=fun g r hi hl=>by
  cases hi
  rw[enumV_length] at hl
  exact⟨xs,(g.sqR q).sq,by rw[<-e.length];exact hl⟩
 go:=fun g r hi hv=>by
  cases hi
  obtain⟨d,e1,_⟩:=enumV_inv hv
  obtain⟨x,k1,_⟩:=e.get e1
  exact⟨xs,x,(g.sqR q).sq,k1⟩
 yld:=fun g r hi hv y=>by
  cases hi
  exact enum_yld r (g.sqR q).sq (VRs.upw g _ _ e) hv y
theorem walks_enumL{i:Nat}(q:ρ1[i]?=some a):Walks B (.enum i) (Ite B.K a) ρ1 H1 where
 stop:=fun g r hi hl=>by
  obtain⟨zs,e1,rfl⟩:=Option.map_eq_some_iff.mp hi
  obtain⟨ys,k1,k2⟩:=live_sq q g r e1
  rw[enumV_length] at hl
  exact⟨ys,k1,by rw[<-k2.length];exact hl⟩
 go:=fun g r hi hv=>by
  obtain⟨zs,e1,rfl⟩:=Option.map_eq_some_iff.mp hi
  obtain⟨ys,k1,k2⟩:=live_sq q g r e1
  obtain⟨d,e2,_⟩:=enumV_inv hv
  obtain⟨x,k3,_⟩:=k2.get e2
  exact⟨ys,x,k1,k3⟩
 yld:=fun g r hi hv y=>by
  obtain⟨zs,e1,rfl⟩:=Option.map_eq_some_iff.mp hi
  obtain⟨ys,k1,k2⟩:=live_sq q g r e1
  exact enum_yld r k1 k2 hv y
end
section
variable {Φ:Fn} {Γ:Gam} {k:Nat} {X:Cx} {cl:Nat->Addr} {EX:Nat->List V->Hp->Prop}
noncomputable def evI(Φ:Fn)(ik:Ik)(it:IEs)(env:Env):M Src:=bnd (evEs Φ it env) fun its=>lft (srcOf ik its)
noncomputable def tI(Φ:Fn)(B:Bd)(EX:Nat->List V->Hp->Prop)(ik:Ik)(it:IEs):TI:=fun σ H R=>∃ρ env h,EnvR B.K ρ env σ H/\HR B ρ h H /\
 Post B EX ρ H (fun src h' ρ' H'=>(∃xs,src.items h'=some xs)/\∀J,Walks B src J ρ' H'->R J H') (evI Φ ik it env h)
theorem ok_it{ik:Ik}{it:IEs}(hs:OkEs Φ it)(c:Ctx Φ Γ k X cl EX){tg iter:Expr}(h:chkIt Γ ik it iter=true)(ht:ik=.enum\/ik=.zip->∃es kk pos,tg=.Tuple es kk pos):PI X tg iter (tI Φ (bd X cl) EX ik it)/\∀x,foldedSetIterable iter X.env x=pure x:=by
 cases it with
 | nil=>rw[chkIt] at h;cases h
 | cons e es =>
  rw[chkIt.eq_def] at h;dsimp only at h
  cases ik with
  | seq =>
   dsimp only at h
   split at h<;>first|cases h|skip
   rename_i hs'
   simp only[Bool.and_eq_true] at h
   have q:=(hs.2.1 Γ k X cl EX iter c h.2).1
   refine⟨((pi_list q).or (pi_tup q)).imp fun σ H R ⟨ρ,env,h,hE,r,p⟩=>?_,fun x=>?_⟩
   ·simp only[evI,evEs_one,bnd_assoc,bnd_retL] at p
    have key:∀(Q:VK),(∀v h1 ρ1 x H1,evE Φ e env h=.ok v h1->Gr ρ H ρ1 H1->HR (bd X cl) ρ1 h1 H1->VR X.K ρ1 H1 v x->Post (bd X cl) EX ρ1 H1 (fun src h' ρ' H'=>(∃xs,src.items h'=some xs)/\∀J,Walks (bd X cl) src J ρ' H'->R J H') (lft (srcOf .seq [v]) h1)->Q x H1)->tV Φ (bd X cl) EX e σ H Q:=fun Q kk =>
     ⟨ρ,env,h,hE,r,post_bndE p fun v h1 ρ1 H1 e1 g1 r1 p1 x q1=>kk v h1 ρ1 x H1 e1 g1 r1 q1 p1⟩
    cases ev:evE Φ e env h with
    | ok v h1 =>
     cases v with
     | tup vs =>
      refine .inr (key _ fun v h1 ρ1 x H1 e1 g1 r1 q1 p1=>?_)
      rw[ev] at e1;cases e1
      obtain⟨src,e2,w1,w2⟩:=post_lft' r1 p1
      cases e2
      rw[VR] at q1
      obtain⟨a,xs,rfl,k1,k2⟩:=q1
      exact⟨a,rfl,⟨xs,k1⟩,w2 _ (walks_tup k1 k2)⟩
     | rl vs =>
      refine .inl (key _ fun v h1 ρ1 x H1 e1 g1 r1 q1 p1=>?_)
      rw[ev] at e1;cases e1
      obtain⟨src,e2,w1,w2⟩:=post_lft' r1 p1
      cases e2
      rw[VR] at q1
      obtain⟨a,xs,rfl,k1,k2⟩:=q1
      exact⟨a,rfl,⟨xs,k1.sq⟩,w2 _ (walks_rl k1 k2)⟩
     | ref i =>
      refine .inl (key _ fun v h1 ρ1 x H1 e1 g1 r1 q1 p1=>?_)
      rw[ev] at e1;cases e1
      obtain⟨src,e2,⟨zs,w1⟩,w2⟩:=post_lft' r1 p1
      cases e2
      have q0:=q1
      rw[VR] at q1
      obtain⟨a,rfl,k1⟩:=q1
      obtain⟨b,ys,e3,k2,k3⟩:=lst_sq r1 q0 (show lstOf h1 (.ref i)=some zs from w1)
      cases e3
      exact⟨a,rfl,⟨ys,k2⟩,w2 _ (walks_live k1)⟩
     | _ =>
      refine .inl (key _ fun v h1 ρ1 x H1 e1 g1 r1 q1 p1=>?_)
      rw[ev] at e1;cases e1
      obtain⟨src,e2,_⟩:=post_lft' r1 p1
      cases e2
    | exc _ _ _=>exact .inl (key _ fun v h1 ρ1 x H1 e1=>by rw[ev] at e1;cases e1)
    | no=>exact .inl (key _ fun v h1 ρ1 x H1 e1=>by rw[ev] at e1;cases e1)
   ·cases iter<;>first|rfl|(exact absurd h.1 Bool.false_ne_true)
  | range =>
   dsimp only at h
   split at h<;>first|cases h|skip
   rename_i x xp a args pos
   simp only[Bool.and_eq_true,beq_iff_eq] at h
   obtain⟨⟨⟨⟨⟨h1,h2⟩,h3⟩,h4⟩,h5⟩,h6⟩:=h
   subst h1
   obtain⟨g1,g2,g3⟩:=c.gl h2
   have hm:=c.blt _ (show ("range":Str)∈bltNames by decide)
   refine⟨?_,fun x=>rfl⟩
   have hA:=hs.1 Γ k X cl EX (a::args) c (by rw[chkEs.eq_def];simp[h3,h4,h5])
   cases args with
   | nil =>
    cases es with
    | cons i irs=>rw[chkEs.eq_def] at h5;cases h5
    | nil =>
     refine(pi_range1 g1 hm hA (star_one h3)).imp fun σ H R zz0=>?_
     obtain⟨ρ,env,h,hE,r,p⟩:=zz0
     refine⟨ρ,env,h,hE,r,post_bndE p fun vs h1 ρ1 H1 e1 gr1 r1 p1 xs q1=>?_⟩
     obtain⟨src,e2,w1,w2⟩:=post_lft' r1 p1
     match vs,e2 with
     | [.int n],e2 =>
      change (if inR n=true then some (Src.fix (rangeV 0 n.toNat)) else none)=some src at e2
      split at e2
      ·rename_i hn;cases e2
       simp only[inR,Bool.and_eq_true,decide_eq_true_eq] at hn
       obtain⟨x,rfl,hx⟩:=VRs.one q1
       rw[VR] at hx;subst hx
       exact⟨n,rfl,hn.1,hn.2,w2 _ walks_range⟩
      ·cases e2
     | [.int _,.int _],e2=>have:=evEs_len (Γ:=Γ) (ls:=[a]) (by rw[chkEs.eq_def];simp[h3,h4,chkEs]) e1;simp at this
   | cons b args =>
    cases args with
    | cons _ _=>have:=of_decide_eq_true h6;simp only[List.length_cons] at this;omega
    | nil =>
     have hb:noStar b=true:=by
      cases es with
      | nil=>rw[chkEs] at h5;cases h5
      | cons i irs=>rw[chkEs.eq_def] at h5;dsimp only at h5;simp only[Bool.and_eq_true] at h5;exact h5.1.1
     refine(pi_range2 g1 hm hA (by rw[star_one h3,star_one hb];rfl) (by rw[star_one hb];rfl)).imp fun σ H R zz0=>?_
     obtain⟨ρ,env,h,hE,r,p⟩:=zz0
     refine⟨ρ,env,h,hE,r,post_bndE p fun vs h1 ρ1 H1 e1 gr1 r1 p1 xs q1=>?_⟩
     obtain⟨src,e2,w1,w2⟩:=post_lft' r1 p1
     match vs,e2 with
     | [.int _],e2=>have:=evEs_len (Γ:=Γ) (ls:=[a,b]) (by rw[chkEs.eq_def];simp[h3,h4,h5]) e1;simp at this
     | [.int lo,.int hi],e2 =>
      change (if (inR lo&&inR hi)=true then some (Src.fix (rangeV lo (hi-lo).toNat)) else none)=some src at e2
      split at e2
      ·rename_i hn;cases e2
       simp only[inR,Bool.and_eq_true,decide_eq_true_eq] at hn
       obtain⟨x,y,rfl,hx,hy⟩:=VRs.two q1
       rw[VR] at hx;rw[VR] at hy;subst hx;subst hy
       exact⟨lo,hi,rfl,⟨hn.1.1,hn.1.2,hn.2.1,hn.2.2⟩,w2 _ walks_range⟩
      ·cases e2
  | enum =>
   dsimp only at h
   split at h<;>first|cases h|skip
   rename_i x xp a pos
   simp only[Bool.and_eq_true,beq_iff_eq] at h
   obtain⟨⟨⟨h1,h2⟩,h3⟩,h4⟩:=h
   subst h1
   obtain⟨g1,g2,g3⟩:=c.gl h2
   have hm:=c.blt _ (show ("enumerate":Str)∈bltNames by decide)
   obtain⟨tes,tk,tp,rfl⟩:=ht (.inl rfl)
   refine⟨?_,fun x=>rfl⟩
   have hA:=hs.1 Γ k X cl EX [a] c (by rw[chkEs.eq_def];simp[h3,h4,chkEs])
   refine(pi_enum g1 hm hA (star_one h3)).imp fun σ H R zz0=>?_
   obtain⟨ρ,env,h,hE,r,p⟩:=zz0
   refine⟨ρ,env,h,hE,r,post_bndE p fun vs h1 ρ1 H1 e1 gr1 r1 p1 xs q1=>?_⟩
   obtain⟨src,e2,⟨zs,w1⟩,w2⟩:=post_lft' r1 p1
   match vs,e2 with
   | [.rl ws],e2 =>
    cases e2
    obtain⟨x,rfl,hx⟩:=VRs.one q1
    rw[VR] at hx
    obtain⟨b,ys,rfl,k1,k2⟩:=hx
    exact⟨b,rfl,⟨ys,k1.sq⟩,w2 _ (walks_enumR k1 k2)⟩
   | [.ref i],e2 =>
    cases e2
    obtain⟨x,rfl,hx⟩:=VRs.one q1
    obtain⟨us,w3,_⟩:=Option.map_eq_some_iff.mp w1
    obtain⟨b,ys,rfl,k2,k3⟩:=lst_sq r1 hx w3
    rw[VR] at hx
    obtain⟨b',e3,k1⟩:=hx
    cases e3
    exact⟨b,rfl,⟨ys,k2⟩,w2 _ (walks_enumL k1)⟩
  | zip=>cases h
end
end Hv
end
section
namespace Hv
open PySem L2 PyProof.Rows
section
variable {Φ:Fn} {Γ:Gam} {k:Nat} {X:Cx} {cl:Nat->Addr} {EX:Nat->List V->Hp->Prop}
noncomputable def gNames:List Nat->TGs
 | []=>gNil
 | i::is=>gCons (gName i) (gNames is)
noncomputable def gPat(K:PySem.W.Frag):Pat->TG
 | .one i=>gName i
 | .tup is=>gTup K is.length (gNames is)
noncomputable def setAll:List Nat->List V->L2.St->L2.St
 | i::is,v::vs,σ=>setAll is vs (σ.set i (some v))
 | _,_,σ=>σ
theorem gNames_of:∀{is:List Nat} {vs:List V} {σ:L2.St} {H:Hp} {Q:L2.St->Hp->Prop},vs.length=is.length->Q (setAll is vs σ) H->gNames is vs σ H Q
 | [],[],_,_,_,_,h=>⟨rfl,h⟩
 | i::is,v::vs,σ,H,Q,hl,h=>⟨v,vs,rfl,gNames_of (by simpa using hl) h⟩
theorem pgs_names(hnd:X.N.Nodup):∀{is:List Nat} {es:List Expr},es.length=is.length->(∀p∈is.zip es,∃x pos,p.2=.Name x pos/\X.N[p.1]?=some x/\X.env.scope.names.lookup x=some .local)->PGs X es (gNames is)
 | [],[],_,_=>pgs_nil
 | i::is,e::es,hl,h=>by
  obtain⟨x,pos,rfl,h1,h2⟩:=h (i,e) (by simp)
  exact pgs_cons (pg_name hnd h1 (.inl h2) (.inr h2)) (pgs_names hnd (by simpa using hl) fun p hp=>h p (by simp[hp]))
theorem assignEach_len{env:PySem.Env}:∀{es:List Expr},(∀e∈es,∃x pos,e=.Name x pos)->(assignEach es env).length=es.length/\(assignEach es env).findIdx? (·.1)=none
 | [],_=>⟨rfl,rfl⟩
 | e::es,h=>by
  obtain⟨x,pos,rfl⟩:=h e List.mem_cons_self
  obtain⟨h1,h2⟩:=assignEach_len (env:=env) (es:=es) fun e he=>h e (List.mem_cons_of_mem _ he)
  have e1:assignEach (Expr.Name x pos::es) env=(false,assign (Expr.Name x pos) env)::assignEach es env:=rfl
  rw[e1]
  refine⟨by simp[h1],?_⟩
  rw[List.findIdx?_cons,h2];rfl
theorem pg_pat(c:Ctx Φ Γ k X cl EX)(hnd:X.N.Nodup){pat:Pat}{tg:Expr}(h:patB Γ pat tg=true):PG X tg (gPat X.K pat):=by
 cases pat with
 | one i =>
  cases tg<;>simp[patB] at h
  obtain⟨h1,h2⟩:=h
  exact pg_name hnd (by rw[c.N];exact h1) (.inl (by rw[c.sc];exact h2)) (.inr (by rw[c.sc];exact h2))
 | tup is =>
  cases tg with
  | Tuple es kk pos =>
   simp only[patB,Bool.and_eq_true,beq_iff_eq,List.all_eq_true] at h
   obtain⟨h1,h2⟩:=h
   have names:∀p∈is.zip es,∃x pos,p.2=.Name x pos/\X.N[p.1]?=some x/\X.env.scope.names.lookup x=some .local:=fun p hp=>by
    have q:=h2 p hp
    cases ep:p.2<;>rw[ep] at q<;>simp at q
    rename_i x pos'
    exact⟨x,pos',rfl,by rw[c.N];exact q.1,by rw[c.sc];exact q.2⟩
   have all:∀e∈es,∃x pos,e=.Name x pos:=fun e he=>by
    obtain⟨n,hn,rfl⟩:=List.getElem_of_mem he
    have hm:(is[n]'(by omega),es[n])∈is.zip es:=List.mem_iff_getElem?.mpr ⟨n,by rw[List.getElem?_zip_eq_some];simp[hn]⟩
    obtain⟨x,pos,q,_⟩:=names _ hm
    exact⟨x,pos,q⟩
   obtain⟨l1,l2⟩:=assignEach_len (env:=X.env) all
   exact pg_tup c.calm (pgs_names hnd h1 names) (by rw[l1,h1]) l2
  | _=>simp[patB] at h
noncomputable def patS(Γ:Gam):Pat->Expr->Bool
 | .one i,.Name x _=>Γ.N[i]?==some x&&(Γ.sc.names.lookup x==some .local || Γ.sc.names.lookup x==some .cell)
 | .tup is,.Tuple es _ _=>es.length==is.length&&(is.zip es).all fun p=>match p.2 with
  | .Name x _=>Γ.N[p.1]?==some x&&(Γ.sc.names.lookup x==some .local || Γ.sc.names.lookup x==some .cell)
  | _=>false
 | _,_=>false
theorem pgs_namesS(hfn:∀x,X.fn x=true)(hnd:X.N.Nodup):∀{is:List Nat} {es:List Expr},es.length=is.length->(∀p∈is.zip es,∃x pos,p.2=.Name x pos/\X.N[p.1]?=some x/\Loc X.env.scope x)->PGs X es (gNames is)
 | [],[],_,_=>pgs_nil
 | i::is,e::es,hl,h=>by
  obtain⟨x,pos,rfl,h1,h2⟩:=h (i,e) (by simp)
  exact pgs_cons (pg_name hnd h1 h2 (.inl (hfn x))) (pgs_namesS hfn hnd (by simpa using hl) fun p hp=>h p (by simp[hp]))
theorem pg_patS(c:Ctx Φ Γ k X cl EX)(hfn:∀x,X.fn x=true)(hnd:X.N.Nodup){pat:Pat}{tg:Expr}(h:patS Γ pat tg=true):PG X tg (gPat X.K pat):=by
 have loc:∀x,(Γ.sc.names.lookup x==some .local || Γ.sc.names.lookup x==some .cell)=true->Loc X.env.scope x:=fun x e=>by
  unfold L2.Loc;rw[c.sc]
  simpa using e
 cases pat with
 | one i =>
  cases tg<;>simp only[patS,Bool.and_eq_true,beq_iff_eq] at h<;>first|cases h|skip
  rename_i x pos h1 h2
  exact pg_name hnd (by rw[c.N];exact h1) (loc _ h2) (.inl (hfn _))
 | tup is =>
  cases tg with
  | Tuple es kk pos =>
   simp only[patS,Bool.and_eq_true,beq_iff_eq,List.all_eq_true] at h
   obtain⟨h1,h2⟩:=h
   have names:∀p∈is.zip es,∃x pos,p.2=.Name x pos/\X.N[p.1]?=some x/\Loc X.env.scope x:=fun p hp=>by
    have q:=h2 p hp
    cases ep:p.2<;>rw[ep] at q<;>first|cases q|skip
    rename_i x pos'
    simp only[Bool.and_eq_true,beq_iff_eq] at q
    exact⟨x,pos',rfl,by rw[c.N];exact q.1,loc _ q.2⟩
   have all:∀e∈es,∃x pos,e=.Name x pos:=fun e he=>by
    obtain⟨n,hn,rfl⟩:=List.getElem_of_mem he
    have hm:(is[n]'(by omega),es[n])∈is.zip es:=List.mem_iff_getElem?.mpr ⟨n,by rw[List.getElem?_zip_eq_some];simp[hn]⟩
    obtain⟨x,pos,q,_⟩:=names _ hm
    exact⟨x,pos,q⟩
   obtain⟨l1,l2⟩:=assignEach_len (env:=X.env) all
   exact pg_tup c.calm (pgs_namesS hfn hnd h1 names) (by rw[l1,h1]) l2
  | _=>simp[patS] at h
theorem EnvR.set{K:PySem.W.Frag}{ρ:List Addr}{env:Env}{σ:L2.St}{H:Hp}{i:Nat}{v:Val}{x:V}(e:EnvR K ρ env σ H)(hl:env.length = σ.length)(q:VR K ρ H v x):EnvR K ρ (env.set i (some v)) (σ.set i (some x)) H:=fun j w hj=>by
 by_cases hij:i=j
 ·subst hij
  have hi:i<env.length:=by
   have:=(List.getElem?_eq_some_iff.mp hj).1
   simpa using this
  rw[List.getElem?_set_self hi] at hj
  cases hj
  exact⟨x,by rw[List.getElem?_set_self (by rw[<-hl];exact hi)],q⟩
 ·rw[List.getElem?_set_ne hij] at hj
  rw[List.getElem?_set_ne hij]
  exact e j w hj
theorem bindAll_ok{K:PySem.W.Frag}{ρ:List Addr}{H:Hp}:∀{is:List Nat} {ds:List Val} {xs:List V} {env env':Env} {σ:L2.St},bindAll is ds env=some env'->VRs K ρ H ds xs->EnvR K ρ env σ H->env.length = σ.length->EnvR K ρ env' (setAll is xs σ) H/\env'.length=(setAll is xs σ).length/\(setAll is xs σ).length = σ.length/\xs.length=is.length
 | [],[],xs,env,env',σ,e,q,hE,hl=>by
  rw[VRs] at q;subst q
  simp only[bindAll] at e;cases e
  exact⟨hE,hl,rfl,rfl⟩
 | i::is,d::ds,xs,env,env',σ,e,q,hE,hl=>by
  rw[VRs] at q
  obtain⟨x,r,rfl,q1,q2⟩:=q
  simp only[bindAll] at e
  obtain⟨a1,a2,a3,a4⟩:=bindAll_ok e q2 (hE.set hl q1) (by simp[hl])
  exact⟨a1,a2,by rw[show setAll (i::is) (x::r) σ = setAll is r (σ.set i (some x)) from rfl,a3];simp,by simp[a4]⟩
 | [],_::_,_,_,_,_,e,_,_,_=>by simp[bindAll] at e
 | _::_,[],_,_,_,_,e,_,_,_=>by simp[bindAll] at e
theorem gPat_ok{K:PySem.W.Frag}{ρ:List Addr}{H:Hp}{pat:Pat}{v:Val}{x:V}{env env':Env}{σ:L2.St}{Q:L2.St->Hp->Prop}(e:bindE pat v env=some env')(q:VR K ρ H v x)(hE:EnvR K ρ env σ H)(hl:env.length = σ.length)
  (kk:∀σ',EnvR K ρ env' σ' H->env'.length = σ'.length -> σ'.length = σ.length->Q σ' H):gPat K pat x σ H Q:=by
 cases pat with
 | one i =>
  simp only[bindE] at e;cases e
  exact kk _ (hE.set hl q) (by simp[hl]) (by simp)
 | tup is =>
  cases v<;>simp only[bindE] at e<;>first|cases e|skip
  rw[VR] at q
  obtain⟨a,xs,rfl,q1,q2⟩:=q
  obtain⟨a1,a2,a3,a4⟩:=bindAll_ok e q2 hE hl
  exact⟨a,xs,rfl,q1,a4,gNames_of a4 (kk _ a1 a2 a3)⟩
theorem post_base{α β:Type}{B:Bd}{ρ ρ':List Addr}{H H':Hp}{W:β -> Hs->List Addr->Hp->Prop}{W':α -> Hs->List Addr->Hp->Prop}{h:Hs}{m:M α}{f:α -> M β}(g:Gr ρ H ρ' H')(p:Post B EX ρ H W (bnd m f h))
  (kk:∀v h1 ρ2 H2,m h=.ok v h1->Post B EX ρ H W (f v h1)->Gr ρ' H' ρ2 H2->HR B ρ2 h1 H2->W' v h1 ρ2 H2):Post B EX ρ' H' W' (m h):=by
 unfold bnd at p
 cases e:m h with
 | ok v h1=>rw[e] at p;exact fun ρ2 H2 g2 r2=>kk v h1 ρ2 H2 e p g2 r2
 | exc c vs h1=>rw[e] at p;exact fun ρ2 H2 xs g2 r2 q=>p ρ2 H2 xs (g.trans g2) r2 q
 | no=>rw[e] at p;exact p
theorem HR.adopt{B:Bd}{ρ:List Addr}{h:Hs}{H:Hp}{D:Addr}{u:Ob}(r:HR B ρ h H)(hD:D ∉ ρ)(q:OR B (ρ ++ [D]) H D u):HR B (ρ ++ [D]) (h++[u]) H where
 len:=by simp[r.len]
 nd:=by
  rw[List.nodup_append]
  refine⟨r.nd,by simp,fun a ha b hb=>?_⟩
  rw[List.mem_singleton.mp hb]
  rintro rfl
  exact hD ha
 ob i v a q1 q2:=by
  by_cases hi:i<h.length
  ·rw[List.getElem?_append_left hi] at q1
   rw[List.getElem?_append_left (by rw[r.len];exact hi)] at q2
   exact OR.upw ⟨List.prefix_append _ _,fun _ _ e _=>e⟩ rfl (r.ob i v a q1 q2)
  ·rw[List.getElem?_append_right (by omega)] at q1
   rw[List.getElem?_append_right (by rw[r.len];omega)] at q2
   have hi0:i-h.length=0:=by
    have:=(List.getElem?_eq_some_iff.mp q1).1
    simp at this;omega
   rw[hi0] at q1
   rw[r.len,hi0] at q2
   simp at q1 q2
   subst q1;subst q2
   exact q
theorem Gr.over{ρ ρ':List Addr}{H H':Hp}{D:Addr}{o:HO}(g:Gr ρ H ρ' H')(hD:H D=none):Gr ρ H ρ' (upd H' D o) where
 pre:=g.pre
 keep a u e n:=by rw[upd_ne (ne_of_none e hD)];exact g.keep a u e n
 firm a u e n:=by rw[upd_ne (ne_of_none e hD)];exact g.firm a u e n
 fresh:=g.fresh
theorem Gr.adopt{ρ ρ':List Addr}{H H':Hp}{D:Addr}(g:Gr ρ H ρ' H')(hD:H D=none):Gr ρ H (ρ'++[D]) H' where
 pre:=g.pre.trans (List.prefix_append _ _)
 keep:=g.keep
 firm:=g.firm
 fresh a z n:=by
  rcases List.mem_append.mp z with z|z
  ·exact g.fresh a z n
  ·rw[List.mem_singleton.mp z];exact hD
theorem envC_ok{K:PySem.W.Frag}{ρ:List Addr}{env:Env}{σ:L2.St}{H:Hp}{js:List (Option Nat)}(e:EnvR K ρ env σ H):EnvR K ρ (envC js env) (compSt js σ) H:=fun i v q=>by
 unfold envC at q
 rw[List.getElem?_map] at q
 cases hj:js[i]? with
 | none=>rw[hj] at q;cases q
 | some o =>
  rw[hj] at q
  simp only[Option.map_some] at q
  cases o with
  | none=>cases q
  | some j =>
   dsimp only at q
   cases ej:env[j]? with
   | none=>rw[ej] at q;cases q
   | some w =>
    cases w with
    | none=>rw[ej] at q;cases q
    | some d =>
     rw[ej] at q
     cases q
     obtain⟨x,q1,q2⟩:=e j _ ej
     refine⟨x,?_,q2⟩
     unfold compSt
     rw[List.getElem?_map,hj]
     simp only[Option.map_some]
     rw[q1]
theorem envC_pat{K:PySem.W.Frag}{ρ:List Addr}{env:Env}{σ σ':L2.St}{H:Hp}{js:List (Option Nat)}{pat:Pat}(hp:(patIs pat).all (fun i=>js[i]?==some none)=true)(e:EnvR K ρ (envC js env) σ H)(hs:∀i,i∉patIs pat -> σ'[i]? = σ[i]?):EnvR K ρ (envC js env) σ' H:=fun i v q=>by
 have hi:i∉patIs pat:=fun z=>by
  have h1:=List.all_eq_true.mp hp i z
  have h2:js[i]?=some none:=eq_of_beq h1
  unfold envC at q
  rw[List.getElem?_map,h2] at q
  cases q
 obtain⟨x,q1,q2⟩:=e i v q
 exact⟨x,(hs i hi).trans q1,q2⟩
theorem setAll_out:∀{is:List Nat} {xs:List V} {σ:L2.St} {i:Nat},i∉is->(setAll is xs σ)[i]? = σ[i]?
 | [],xs,σ,i,_=>by cases xs<;>rfl
 | j::is,[],σ,i,_=>rfl
 | j::is,x::xs,σ,i,h=>by
  rw[show setAll (j::is) (x::xs) σ = setAll is xs (σ.set j (some x)) from rfl,setAll_out fun z=>h (List.mem_cons_of_mem _ z),List.getElem?_set_ne fun z=>h (by rw[z];exact List.mem_cons_self)]
theorem gPat_ok2{K:PySem.W.Frag}{ρ:List Addr}{H:Hp}{pat:Pat}{v:Val}{x:V}{env env':Env}{σ:L2.St}{Q:L2.St->Hp->Prop}(e:bindE pat v env=some env')(q:VR K ρ H v x)(hE:EnvR K ρ env σ H)(hl:env.length = σ.length)
  (kk:∀σ',EnvR K ρ env' σ' H -> σ'.length = σ.length->(∀i,i∉patIs pat -> σ'[i]? = σ[i]?)->Q σ' H):gPat K pat x σ H Q:=by
 cases pat with
 | one i =>
  simp only[bindE] at e;cases e
  exact kk _ (hE.set hl q) (by simp) fun j hj=>List.getElem?_set_ne fun z=>hj (by rw[z];exact List.mem_singleton.mpr rfl)
 | tup is =>
  cases v<;>simp only[bindE] at e<;>first|cases e|skip
  rw[VR] at q
  obtain⟨a,xs,rfl,q1,q2⟩:=q
  obtain⟨a1,a2,a3,a4⟩:=bindAll_ok e q2 hE hl
  exact⟨a,xs,rfl,q1,a4,gNames_of a4 (kk _ a1 a3 fun j hj=>setAll_out hj)⟩
theorem comp_parts{N':List Str}{js:List (Option Nat)}{pat:Pat}{ik:Ik}{it:IEs}{t elt:IE}(hs:OkEs Φ it)(hc:OkE Φ t)(he:OkE Φ elt)(c:Ctx Φ Γ k X cl EX){e:Expr}(h:chkE Γ (.comp N' js pat ik it t elt) e=true) :
  ∃e' tg iter ifs scope pos wi g tt te,e=.ListComp e' [⟨tg,iter,ifs,0⟩] scope pos/\compOkB X.N X.env.scope scope N' js=true/\PI X tg iter wi/\(∀cls C s H fp,PG (compCx X scope N' cls C s H fp) tg g)/\(∀cls C s H fp,PTs (compCx X scope N' cls C s H fp) ifs tt) /\
   (∀cls C s H fp,PE (compCx X scope N' cls C s H fp) e' te)/\(∀x,foldedSetIterable iter X.env x=pure x)/\∀σ H Q,tV Φ (bd X cl) EX (.comp N' js pat ik it t elt) σ H Q->tComp wi js g tt te σ H Q:=by
 rw[chkE.eq_def] at h;dsimp only at h;split at h<;>first|cases h|skip
 rename_i e' tg iter ifs scope pos
 simp only[Bool.and_eq_true] at h
 obtain⟨⟨⟨⟨⟨⟨⟨h1,h2⟩,h3⟩,h4⟩,h5⟩,h6⟩,h7⟩,h8⟩:=h
 have hnd:N'.Nodup:=of_decide_eq_true h3
 have hen:ik=.enum\/ik=.zip->∃es kk pos,tg=.Tuple es kk pos:=by
  intro hz
  cases pat with
  | one i=>rcases hz with rfl|rfl<;>cases h6
  | tup is=>cases tg<;>simp[patB] at h4;exact⟨_,_,_,rfl⟩
 obtain⟨hi,hf⟩:=ok_it hs c h2 hen
 let tt:TT:=if isNo t=true then tTrue else tT Φ (bd X cl) EX t
 have hTs:∀cls C s H fp,PTs (compCx X scope N' cls C s H fp) ifs tt:=fun cls C s H fp=>by
  have c':=c.inC scope N' cls C s H fp
  cases ifs with
  | nil =>
   have:isNo t=true:=h7
   show PTs _ [] (if isNo t=true then tTrue else tT Φ (bd X cl) EX t)
   rw[if_pos this];exact pts_nil
  | cons a r =>
   cases r with
   | cons _ _=>cases h7
   | nil =>
    simp only[Bool.and_eq_true,Bool.not_eq_true'] at h7
    show PTs _ [a] (if isNo t=true then tTrue else tT Φ (bd X cl) EX t)
    rw[if_neg (by rw[h7.1];exact Bool.false_ne_true)]
    exact pts_one (hc _ _ _ _ _ _ c' h7.2).2
 refine⟨e',tg,iter,ifs,scope,pos,_,gPat X.K pat,tt,tV Φ (bd X cl) EX elt,rfl,by rw[c.N,c.sc];exact h1,hi,fun cls C s H fp=>pg_pat (c.inC scope N' cls C s H fp) hnd h4,hTs,fun cls C s H fp=>(he _ _ _ _ _ _ (c.inC scope N' cls C s H fp) h8).1,hf,fun σ H Q ⟨ρ,env,h,hE,r,p⟩=>?_⟩
 ·skip
  simp only[evE] at p
  let f:Val->M (Option Val):=fun d=>bnd (lft (bindE pat d (envC js env))) fun env'=>bnd (if isNo t=true then ret true else bnd (evE Φ t env') fun v=>ask fun h=>truH h v) fun t =>
    if t=true then bnd (evE Φ elt env') fun e=>ret (some e) else ret none
  have p':Post (bd X cl) EX ρ H (WV X.K Q) (bnd (evI Φ ik it env) (fun src=>bnd (ask fun h=>src.items h) fun xs=>guardM (decide (xs.length<=100000)) (bnd (compM src f xs.length 0 []) fun ys=>new (.lst ys))) h):=by
   unfold evI;rw[bnd_assoc];exact p
  refine⟨ρ,env,h,hE,r,post_bndG p' fun src h1 ρ1 H1 g1 r1 p1=>?_⟩
  obtain⟨xs,e1,p2⟩:=post_ask p1
  obtain⟨e2,p3⟩:=post_guard p2
  have e2:=of_decide_eq_true e2
  refine⟨⟨xs,e1⟩,fun J wk D hD=>?_⟩
  have hDl:(100000:Nat)<sizeLine:=by rw[sizeLine_eq];decide
  refine⟨fun i m σ' H'=>∃ρ' h' acc ys,Gr ρ1 H1 ρ' H'/\HR (bd X cl) ρ' h' H'/\D ∉ ρ'/\H' D=some (.lst ys)/\VRs X.K ρ' H' acc ys/\EnvR X.K ρ' (envC js env) σ' H' /\ σ'.length=js.length/\acc.length<=i/\i+m=xs.length /\
   Post (bd X cl) EX ρ1 H1 (WV X.K Q) (bnd (compM src f m i acc) (fun ys=>new (.lst ys)) h'),⟨xs.length,ρ1,h1,[],[],Gr.side hD,r1.side hD,r1.out hD,upd_same,VRs.nil,(envC_ok (hE.up g1)).up (Gr.side hD),compSt_length js σ,Nat.le_refl _,by omega,p3⟩,?_⟩
  rintro i m σ' H' ⟨ρ',h',acc,ys,w1,w2,w3,w4,w5,w6,w7,w8,w9,w10⟩
  have fin:∀p:Post (bd X cl) EX ρ1 H1 (WV X.K Q) (new (.lst acc) h'),Q (.ref D) H':=fun p=>by
   refine p (ρ'++[D]) H' (w1.adopt hD) (w2.adopt w3 ⟨ys,w4,VRs.upw ⟨List.prefix_append _ _,fun _ _ e _=>e⟩ _ _ w5⟩) _ (VR.ref (by rw[<-w2.len];simp))
  cases m with
  | zero =>
   simp only[compM,bnd_assoc] at w10
   obtain⟨xs',k1,w10⟩:=post_ask w10
   have w11:Post (bd X cl) EX ρ1 H1 (WV X.K Q) (bnd (guardM (decide (xs'.length<=i)) (ret acc)) (fun ys=>new (.lst ys)) h'):=w10
   unfold guardM at w11
   by_cases hl:xs'.length<=i
   ·have:bnd (fun h=>if decide (xs'.length<=i)=true then ret acc h else Out.no) (fun ys=>new (.lst ys)) h'=new (.lst acc) h':=by
     unfold bnd;dsimp only;rw[if_pos (decide_eq_true hl)];rfl
    rw[this] at w11
    exact .inl ⟨wk.stop w1.w w2 k1 hl,fin w11⟩
   ·have:bnd (fun h=>if decide (xs'.length<=i)=true then ret acc h else Out.no) (fun ys=>new (.lst ys)) h'=Out.no:=by
     unfold bnd;dsimp only;rw[if_neg (by rw[decide_eq_false hl];exact Bool.false_ne_true)]
    rw[this] at w11
    exact w11.elim
  | succ m =>
   simp only[compM,bnd_assoc] at w10
   obtain⟨xs',k1,w10⟩:=post_ask w10
   cases hx:xs'[i]? with
   | none =>
    rw[hx] at w10
    exact .inl ⟨wk.stop w1.w w2 k1 (List.getElem?_eq_none_iff.mp hx),fin w10⟩
   | some v =>
    rw[hx] at w10
    dsimp only at w10
    refine .inr ⟨wk.go w1.w w2 k1 hx,_,fun σ'' H'' w=>⟨m,Nat.lt_succ_self _,w⟩,fun y H2 hy=>?_⟩
    obtain⟨z1,z2,z3⟩:=wk.yld w1.w w2 k1 hx hy
    simp only[bnd_assoc] at w10
    simp only[f,bnd_assoc] at w10
    obtain⟨env',k2,w10⟩:=post_lft w10
    refine gPat_ok2 k2 z3 (w6.up z1) (by rw[w7];simp[envC]) fun σ2 hE2 hl2 hout=>?_
    have hD2:H2 D=some (.lst ys):=z1.keep _ _ w4 w3
    have G2:Gr ρ1 H1 ρ' H2:=w1.trans z1
    have body:∀(b:Bool) (h3:Hs) (ρ3:List Addr) (H3:Hp),Gr ρ' H2 ρ3 H3->HR (bd X cl) ρ3 h3 H3->Post (bd X cl) EX ρ1 H1 (WV X.K Q) (bnd (if b=true then bnd (evE Φ elt env') fun e=>ret (some e) else ret none) (fun o=>bnd (compM src f m (i+1) (match o with|some e=>acc++[e]|none=>acc)) fun ys=>new (.lst ys)) h3) ->
      (if b=true then tV Φ (bd X cl) EX elt σ2 H3 (fun y H4=>∃ys,H4 D=some (.lst ys)/\ys.length<sizeLine/\(fun σ' H'=>∃ρ' h' acc ys,Gr ρ1 H1 ρ' H'/\HR (bd X cl) ρ' h' H'/\D ∉ ρ'/\H' D=some (.lst ys)/\VRs X.K ρ' H' acc ys/\EnvR X.K ρ' (envC js env) σ' H' /\ σ'.length=js.length/\acc.length<=i+1/\i+1+m=xs.length /\
       Post (bd X cl) EX ρ1 H1 (WV X.K Q) (bnd (compM src f m (i+1) acc) (fun ys=>new (.lst ys)) h')) σ2 (upd H4 D (.lst (ys++[y]))))
      else (fun σ' H'=>∃ρ' h' acc ys,Gr ρ1 H1 ρ' H'/\HR (bd X cl) ρ' h' H'/\D ∉ ρ'/\H' D=some (.lst ys)/\VRs X.K ρ' H' acc ys/\EnvR X.K ρ' (envC js env) σ' H' /\ σ'.length=js.length/\acc.length<=i+1/\i+1+m=xs.length /\
       Post (bd X cl) EX ρ1 H1 (WV X.K Q) (bnd (compM src f m (i+1) acc) (fun ys=>new (.lst ys)) h')) σ2 H3):=by
     intro b h3 ρ3 H3 g3 r3 p5
     have nD3:D ∉ ρ3:=fun z=>by have:=g3.fresh D z w3;rw[hD2] at this;cases this
     have hD3:H3 D=some (.lst ys):=g3.keep _ _ hD2 w3
     have E3:EnvR X.K ρ3 (envC js env) σ2 H3:=(envC_pat h5 (w6.up z1) hout).up g3
     cases b with
     | true =>
      rw[if_pos rfl] at p5 |-
      simp only[bnd_assoc,bnd_retL] at p5
      refine⟨ρ3,env',h3,hE2.up g3,r3,post_base (G2.trans g3) p5 fun v4 h4 ρ4 H4 _ p6 g4 r4 y4 q4=>?_⟩
      have nD4:D ∉ ρ4:=fun z=>by have:=g4.fresh D z nD3;rw[hD3] at this;cases this
      have hD4:H4 D=some (.lst ys):=g4.keep _ _ hD3 nD3
      have gw:Gw ρ4 H4 ρ4 (upd H4 D (.lst (ys++[y4]))):=Gw.other hD4 rfl
      have la:=w5.length
      refine⟨ys,hD4,by omega,ρ4,h4,acc++[v4],ys++[y4],((G2.trans g3).trans g4).over hD,r4.other nD4 hD4 rfl,nD4,upd_same,VRs.append (VRs.upw gw _ _ (VRs.up ((z1.trans g3).trans g4) _ _ w5)) (VRs.upw gw _ _ (VRs.cons q4 VRs.nil)),(E3.up g4).upw gw,by rw[hl2,w7],by simp;omega,by omega,p6⟩
     | false =>
      rw[if_neg Bool.false_ne_true] at p5 |-
      exact⟨ρ3,h3,acc,ys,G2.trans g3,r3,nD3,hD3,VRs.up (z1.trans g3) _ _ w5,E3,by rw[hl2,w7],by omega,by omega,p5⟩
    show (if isNo t=true then tTrue else tT Φ (bd X cl) EX t) σ2 H2 _
    by_cases hn:isNo t=true
    ·rw[if_pos hn]
     rw[if_pos hn,bnd_retL] at w10
     exact body true h' ρ' H2 Gr.refl z2 w10
    ·rw[if_neg hn]
     rw[if_neg hn] at w10
     exact⟨ρ',env',h',hE2,z2,post_base G2 w10 fun b h3 ρ3 H3 _ p5 g3 r3=>body b h3 ρ3 H3 g3 r3 p5⟩
theorem ok_comp{N':List Str}{js:List (Option Nat)}{pat:Pat}{ik:Ik}{it:IEs}{t elt:IE}(hs:OkEs Φ it)(hc:OkE Φ t)(he:OkE Φ elt):OkE Φ (.comp N' js pat ik it t elt):=by
 intro Γ k X cl EX e c h
 obtain⟨e',tg,iter,ifs,scope,pos,wi,g,tt,te,rfl,h1,h2,h3,h4,h5,h6,h7⟩:=comp_parts hs hc he c h
 have q:=(pe_comp (pos:=pos) h1 c.calm h2 h3 h4 h5 h6).imp h7
 exact⟨q,pt_of q fun _=>rfl⟩
theorem ok_dct1{k v:IE}(hk:OkE Φ k)(hv:OkE Φ v):OkE Φ (.dct1 k v):=by
 intro Γ n X cl EX e c h
 rw[chkE.eq_def] at h;dsimp only at h;split at h<;>first|cases h|skip
 rename_i a b pos
 simp only[Bool.and_eq_true] at h
 have q:PE X (.Dict [some a] [b] pos) (tV Φ (bd X cl) EX (.dct1 k v)):=by
  refine(pe_disp (pps_cons (hk Γ n X cl EX a c h.1).1 (hv Γ n X cl EX b c h.2).1 pps_nil) rfl rfl (by simp) (by simp)).imp fun σ H Q zz0=>?_
  obtain⟨ρ,env,h,hE,r,p⟩:=zz0
  intro D hD
  have g0:Gr ρ H ρ (upd H D (.dK [])):=Gr.side hD
  simp only[evE] at p
  refine⟨ρ,env,h,hE.up g0,r.side hD,post_base g0 p fun x h1 ρ1 H1 _ p1 g1 r1 y1 q1=>?_⟩
  obtain⟨kk,e1,p1⟩:=post_lft p1
  refine⟨ρ1,env,h1,(hE.up g0).up g1,r1,post_base (g0.trans g1) p1 fun y h2 ρ2 H2 _ p2 g2 r2 y2 q2=>?_⟩
  have hD1:D ∉ ρ:=r.out hD
  have hD2:D ∉ ρ2:=fun z=>by have:=(g1.trans g2).fresh D z hD1;rw[upd_same] at this;cases this
  have e2:H2 D=some (.dK []):=(g1.trans g2).keep D _ upd_same hD1
  have ek:y1=kV kk:=by
   cases x<;>first|(cases e1;done)|skip
   ·cases e1;rw[VR] at q1;exact q1
   ·cases e1;rw[VR] at q1;exact q1
  refine⟨e2,[(kk,y2)],by rw[ek];rfl,by simp,?_⟩
  have gw:Gw ρ2 H2 (ρ2++[D]) (upd H2 D (.dK (mergeK [] [(kk,y2)]))):=⟨List.prefix_append _ _,(Gw.other (ρ:=ρ2) e2 rfl).firm⟩
  exact p2 (ρ2++[D]) _ ((((g0.trans g1).trans g2).over hD).adopt hD) ((r2.other hD2 e2 rfl).adopt hD2 ⟨[(kk,y2)],upd_same,y2,[],rfl,VR.upw gw _ _ q2,rfl⟩) _ (new_ref r2)
 exact⟨q,pt_of q fun _=>rfl⟩
theorem ok_dflt{N':List Str}{js:List (Option Nat)}{p q:Nat}{d w:IE}:OkE Φ (.dflt N' js p q d w):=okStub fun _ _=>rfl
theorem ok_isc{a:IE}{x:Str}{bs:List Bool}(ha:OkE Φ a):OkE Φ (.isc a x bs):=okStub fun _ _=>rfl
theorem ok_all:(∀ir,OkE Φ ir)/\∀irs,OkEs Φ irs:=by
 have one:∀ir,OkE Φ ir:=by
  intro ir
  exact IE.rec (motive_1:=fun ir=>OkE Φ ir) (motive_2:=fun irs=>OkEs Φ irs) (fun _=>ok_var) (fun _=>ok_cst) (fun _ _=>ok_con) ok_no (fun _ _ _ a b=>ok_bin a b) (fun _ a=>ok_neg a) (fun _ _ _ a b=>ok_cmp a b) (fun _ _ _ _ _ a b c=>ok_chn a b c)
   (fun _ _ a b=>ok_and a b) (fun _ _ a b=>ok_or a b) (fun _ a=>ok_not a) (fun _ _ _ a b c=>ok_ite a b c) (fun _ a=>ok_tup a) (fun _ a=>ok_lst a) (fun _ _ a b=>ok_idx a b) (fun _ _ _ a b c=>ok_slc a b c) (fun _ _ a=>ok_call a) (fun _ _ a=>ok_blt a)
   (fun _ _ _ a b=>ok_met a b) (fun _ _ _ _ _ _ _ a b c=>ok_comp a b c) ok_dct0 (fun _ a=>ok_sset a) (fun _ _ _ a b c=>ok_dget a b c) (fun _ _ a b=>ok_dct1 a b) (fun _ a=>ok_lkeys a) (fun _ _ _ a b c=>ok_sdef a b c) (fun _ a=>ok_svals a) (fun _ a=>ok_skeys a) (fun _ _ _ a=>ok_fld a) (fun _ _ _ _ a b=>ok_mth a b) (fun _ _ a b=>ok_rev a b) (fun _ _ _ _ _ _ _ _=>ok_dflt) (fun _ _ _ a=>ok_isc a) ok_nil (fun _ _ a b=>ok_cons a b) ir
 refine⟨one,fun irs=>?_⟩
 induction irs using IEs.rec (motive_1:=fun _=>True) with
 | nil=>exact ok_nil
 | cons e es _ ih=>exact ok_cons (one e) ih
 | _=>trivial
end
end Hv
end
section
namespace Hv
open PySem L2 PyProof.Rows
noncomputable def noComp:Expr->Bool
 | .ListComp ..=>false|.SetComp ..=>false|.DictComp ..=>false
 | _=>true
noncomputable def noTup:Expr->Bool
 | .Tuple ..=>false
 | _=>true
noncomputable def noSD:Expr->Bool
 | .SetComp ..=>false|.DictComp ..=>false
 | _=>true
mutual
noncomputable def chkS(Γ:Gam):IS->Stmt->Bool
 | .expr e,s=>match s with
  | .Expr x _=>noComp x&&chkE Γ e x
  | _=>false
 | .asg p e,s=>match s with
  | .Assign [tg] x _=>patS Γ p tg&&chkE Γ e x&&(match p with|.one _=>noSD x|.tup _=>noComp x&&noTup x)
  | _=>false
 | .aug i o e,s=>match s with
  | .AugAssign (.Name x _) op v _=>Γ.N[i]?==some x&&(Γ.sc.names.lookup x==some .local || Γ.sc.names.lookup x==some .cell)&&bopB o op&&(match o with|.pow=>false|_=>true)&&chkE Γ e v
  | _=>false
 | .setI o i v,s=>match s with
  | .Assign [.Subscript a b _] x _=>plainIx b&&noComp x&&chkE Γ o a&&chkE Γ i b&&chkE Γ v x
  | _=>false
 | .iff c a b,s=>match s with
  | .If t x y _=>chkE Γ c t&&chkSs Γ a x&&chkSs Γ b y
  | _=>false
 | .for p k it body,s=>match s with
  | .For tg iter x [] _=>patS Γ p tg&&chkIt Γ k it iter&&(match k,p with|.enum,.one _=>false|.zip,.one _=>false|_,_=>true)&&chkSs Γ body x
  | _=>false
 | .whl _ c body,s=>match s with
  | .While t x [] _=>chkE Γ c t&&chkSs Γ body x
  | _=>false
 | .ret e,s=>match s with
  | .Return (some x) _=>chkE Γ e x
  | _=>false
 | .retN,s=>match s with
  | .Return none _=>true
  | _=>false
 | .brk,s=>match s with
  | .Break _=>true
  | _=>false
 | .cnt,s=>match s with
  | .Continue _=>true
  | _=>false
 | .pass,s=>match s with
  | .Pass _=>true
  | .Expr (.Constant (.str _) _ _) _=>true
  | _=>false
 | .never,_=>true
 | .setF n a x v,s=>match s with
  | .Assign [.Attribute o y _] e _=>x==y&&noComp e&&n == Γ.tb.nc && Γ.tb.flds.contains x&&chkE Γ a o&&chkE Γ v e
  | _=>false
noncomputable def chkSs(Γ:Gam):ISs->List Stmt->Bool
 | .nil,ls=>ls.isEmpty
 | .cons s r,ls=>match ls with
  | l::ls=>chkS Γ s l&&chkSs Γ r ls
  | []=>false
end
structure SCtx (Φ:Fn) (Γ:Gam) (k:Nat) (X:Cx) (cl:Nat->Addr) (EX:Nat->List V->Hp->Prop):Prop extends Ctx Φ Γ k X cl EX where
 fn:∀x,X.fn x=true
 nd:X.N.Nodup
 kind:X.env.scope.kind=.function
 xe:PassesOwn (model X.prog X.w) X.A X.env X.xe
noncomputable def WF(K:PySem.W.Frag)(D:Ends):Fl->Hs->List Addr->Hp->Prop
 | .nx env',_,ρ',H'=>∀σ',EnvR K ρ' env' σ' H'->env'.length = σ'.length->D.nx σ' H'
 | .rt v,_,ρ',H'=>∀x,VR K ρ' H' v x->D.rt x H'
 | .bk env',_,ρ',H'=>∀σ',EnvR K ρ' env' σ' H'->env'.length = σ'.length->D.bk σ' H'
 | .ct env',_,ρ',H'=>∀σ',EnvR K ρ' env' σ' H'->env'.length = σ'.length->D.ct σ' H'
noncomputable def tS(Φ:Fn)(B:Bd)(EX:Nat->List V->Hp->Prop)(ir:IS):TS:=fun D σ H=>∃ρ env h,EnvR B.K ρ env σ H/\env.length = σ.length/\HR B ρ h H/\Post B EX ρ H (WF B.K D) (evS Φ ir env h)
noncomputable def tSs(Φ:Fn)(B:Bd)(EX:Nat->List V->Hp->Prop)(ir:ISs):TS:=fun D σ H=>∃ρ env h,EnvR B.K ρ env σ H/\env.length = σ.length/\HR B ρ h H/\Post B EX ρ H (WF B.K D) (evSs Φ ir env h)
theorem _root_.L2.PS.imp{X:Cx}{e:Stmt}{t t':TS}(h:PS X e t)(i:∀D σ H,t' D σ H->t D σ H):PS X e t':=fun pins s σ H D I hw=>h pins s σ H D I (i D σ H hw)
theorem _root_.L2.PSs.imp{X:Cx}{e:List Stmt}{t t':TS}(h:PSs X e t)(i:∀D σ H,t' D σ H->t D σ H):PSs X e t':=fun pins s σ H D I hw=>h pins s σ H D I (i D σ H hw)
section
variable {Φ:Fn} {Γ:Gam} {k:Nat} {X:Cx} {cl:Nat->Addr} {EX:Nat->List V->Hp->Prop}
noncomputable def OkS(Φ:Fn)(ir:IS):Prop:=∀(Γ:Gam) (k:Nat) (X:Cx) (cl:Nat->Addr) (EX:Nat->List V->Hp->Prop) (st:Stmt),SCtx Φ Γ k X cl EX->chkS Γ ir st=true->PS X st (tS Φ (bd X cl) EX ir)
noncomputable def OkSs(Φ:Fn)(irs:ISs):Prop:=∀(Γ:Gam) (k:Nat) (X:Cx) (cl:Nat->Addr) (EX:Nat->List V->Hp->Prop) (st:List Stmt),SCtx Φ Γ k X cl EX->chkSs Γ irs st=true->PSs X st (tSs Φ (bd X cl) EX irs)
theorem swaps_no{e:Expr}{t:Option Expr}{n:Nat}{env:PySem.Env}(h:noComp e=true):swapsWith e t n env=pure false:=by
 cases e<;>first|rfl|(exact absurd h Bool.false_ne_true)
theorem okE(ir:IE)(c:Ctx Φ Γ k X cl EX){e:Expr}(h:chkE Γ ir e=true):PE X e (tV Φ (bd X cl) EX ir):=(ok_all.1 ir Γ k X cl EX e c h).1
theorem okT(ir:IE)(c:Ctx Φ Γ k X cl EX){e:Expr}(h:chkE Γ ir e=true):PT X e (tT Φ (bd X cl) EX ir):=(ok_all.1 ir Γ k X cl EX e c h).2
theorem sStub{ir:IS}(hs:∀env h,evS Φ ir env h=.no):OkS Φ ir:=by
 intro Γ k X cl EX st c h
 refine ps_never.imp fun D σ H ⟨ρ,env,h,hE,hl,r,p⟩=>?_
 rw[hs] at p;exact p.elim
theorem s_expr{e:IE}:OkS Φ (.expr e):=by
 intro Γ k X cl EX st c h
 rw[chkS.eq_def] at h;dsimp only at h;split at h<;>first|cases h|skip
 simp only[Bool.and_eq_true] at h
 refine(ps_expr (okE e c.toCtx h.2) (swaps_no h.1)).imp fun D σ H zz0=>?_
 obtain⟨ρ,env,h,hE,hl,r,p⟩:=zz0
 simp only[evS] at p
 exact⟨ρ,env,h,hE,r,post_bnd p fun v h1 ρ1 x H1 g1 r1 q1 p1=>post_ret r1 p1 σ (hE.up g1) hl⟩
theorem s_asg{p:Pat}{e:IE}:OkS Φ (.asg p e):=by
 intro Γ k X cl EX st c h
 rw[chkS.eq_def] at h;dsimp only at h;split at h<;>first|cases h|skip
 rename_i tg x pos
 simp only[Bool.and_eq_true] at h
 obtain⟨⟨h1,h2⟩,h3⟩:=h
 have hg:=pg_patS c.toCtx c.fn c.nd h1
 have he:=okE e c.toCtx h2
 have fin:∀D σ H,tS Φ (bd X cl) EX (.asg p e) D σ H->tAsg (tV Φ (bd X cl) EX e) (gPat X.K p) D σ H:=fun D σ H ⟨ρ,env,h,hE,hl,r,pp⟩=>by
  simp only[evS] at pp
  refine⟨ρ,env,h,hE,r,post_bnd pp fun v h1 ρ1 x H1 g1 r1 q1 p1=>?_⟩
  obtain⟨env',e1,p2⟩:=post_lft p1
  exact gPat_ok e1 q1 (hE.up g1) hl fun σ' hE' hl' _=>post_ret r1 p2 σ' hE' hl'
 have h1':(assignEach [tg] X.env).map (·.2)=[assign tg X.env]:=by
  cases p with
  | one i=>cases tg<;>simp[patS] at h1;rfl
  | tup is=>cases tg<;>simp[patS] at h1;rfl
 cases p with
 | tup is =>
  simp only[Bool.and_eq_true] at h3
  refine(ps_asg he hg ?_ ?_ h1').imp fin
  ·show swapsWith x (some tg) _ _=_
   exact swaps_no h3.1
  ·cases tg<;>simp[patS] at h1
   cases x<;>first|rfl|(exact absurd h3.2 Bool.false_ne_true)
 | one i =>
  cases tg with
  | Name t tp =>
   simp only[patS,Bool.and_eq_true,beq_iff_eq] at h1
   have loc:L2.Loc X.env.scope t:=by unfold L2.Loc;rw[c.sc];simpa using h1.2
   have pl:noComp x=true->PS X (.Assign [.Name t tp] x pos) (tS Φ (bd X cl) EX (.asg (.one i) e)):=fun hx=>(ps_set c.nd (by rw[c.N];exact h1.1) loc he (swaps_no hx) (.inl (c.fn t))).imp fin
   cases x with
   | ListComp e' gens scope p2 =>
    cases hb:(X.env.kindOf t==some .local&&tp.line==p2.line && !(scope.names.any fun(n,k)=>n==t&&(k==.local||k==.cell))) with
    | false =>
     refine(ps_set c.nd (by rw[c.N];exact h1.1) loc he ?_ (.inl (c.fn t))).imp fin
     have bk:(X.env.blockKind==.function)=true:=by unfold Env.blockKind;rw[c.kind];rfl
     show (pure (X.env.blockKind==.function&&X.env.kindOf t==some .local&&tp.line==p2.line && !(scope.names.any fun(n,k)=>n==t&&(k==.local||k==.cell))):Sem Bool)=pure false
     rw[bk,Bool.true_and,hb]
    | true =>
     have bk:(X.env.blockKind==.function)=true:=by unfold Env.blockKind;rw[c.kind];rfl
     have hsw:swapsWith (.ListComp e' gens scope p2) (some (.Name t tp)) pos.line X.env=pure true:=by
      show (pure (X.env.blockKind==.function&&X.env.kindOf t==some .local&&tp.line==p2.line && !(scope.names.any fun(n,k)=>n==t&&(k==.local||k==.cell))):Sem Bool)=pure true
      rw[bk,Bool.true_and,hb]
     cases e with
     | comp N' js pat ik it tst elt =>
      obtain⟨e2,tg2,iter,ifs,scope2,pos2,wi,g,tt,te,q0,q1,q2,q3,q4,q5,q6,q7⟩:=comp_parts (ok_all.2 it) (ok_all.1 tst) (ok_all.1 elt) c.toCtx h2
      cases q0
      refine(ps_comp c.nd (by rw[c.N];exact h1.1) loc q1 c.calm q2 q3 q4 q5 hsw (.inl (c.fn t)) q6).imp fun D σ H hh=>?_
      exact q7 σ H _ (fin D σ H hh)
     | dflt N' js p q d w =>
      refine ps_never.imp fun D σ H hh=>?_
      obtain⟨ρ,env,h,hE,hl,r,pp⟩:=hh
      simp only[evS,evE] at pp
      exact pp.elim
     | _=>rw[chkE.eq_def] at h2;cases h2
   | SetComp _ _ _ _=>exact absurd h3 Bool.false_ne_true
   | DictComp _ _ _ _ _=>exact absurd h3 Bool.false_ne_true
   | _=>exact pl rfl
  | _=>simp[patS] at h1
noncomputable def rBi(B:Bd)(EX:Nat->List V->Hp->Prop)(o:Bop):R2:=fun x y H Q=>∃ρ h i j,HR B ρ h H/\x=.int i/\y=.int j/\Post B EX ρ H (WV B.K Q) (bop o (.int i) (.int j) h)
theorem op_iop{o:Bop}(ho:(match o with|.pow=>false|_=>true)=true):OpR X (inplaceOp (opOf o)) (rBi (bd X cl) EX o):=by
 intro pins s σ H x y v' u' Q I rx ry hh
 obtain⟨ρ,h,i,j,r,rfl,rfl,p⟩:=hh
 cases o with
 | add=>exact iop_add pins s σ H _ _ _ _ Q I rx ry ⟨_,_,rfl,rfl,post_ret r p _ VR.int⟩
 | sub=>exact iop_sub pins s σ H _ _ _ _ Q I rx ry ⟨_,_,rfl,rfl,post_ret r p _ VR.int⟩
 | mul =>
  obtain⟨hm,p⟩:=post_guard p
  refine iop_mul pins s σ H _ _ _ _ Q I rx ry ⟨_,_,rfl,rfl,?_,post_ret r p _ VR.int⟩
  unfold mulOk at hm
  simp only[Bool.or_eq_true,Bool.and_eq_true,decide_eq_true_eq] at hm
  exact hm
 | fdiv =>
  obtain⟨hm,p⟩:=post_guard p
  exact iop_fdivW pins s σ H _ _ _ _ Q I rx ry ⟨_,_,rfl,rfl,hm,post_ret r p _ VR.int⟩
 | mod =>
  obtain⟨hm,p⟩:=post_guard p
  have hm:=of_decide_eq_true hm
  exact iop_mod pins s σ H _ _ _ _ Q I rx ry ⟨_,_,rfl,rfl,hm,post_ret r p _ VR.int⟩
 | pow=>cases ho
theorem s_aug{i:Nat}{o:Bop}{e:IE}:OkS Φ (.aug i o e):=by
 intro Γ k X cl EX st c h
 rw[chkS.eq_def] at h;dsimp only at h;split at h<;>first|cases h|skip
 rename_i x xp op v pos
 simp only[Bool.and_eq_true,beq_iff_eq] at h
 obtain⟨⟨⟨⟨h1,h2⟩,h3⟩,h4⟩,h5⟩:=h
 have eo:op=opOf o:=bopB_eq h3
 subst eo
 have loc:L2.Loc X.env.scope x:=by unfold L2.Loc;rw[c.sc];simpa using h2
 refine(ps_aug (ti:=rBi (bd X cl) EX o) c.nd (by rw[c.N];exact h1) loc (okE e c.toCtx h5) (op_iop h4) (.inl (c.fn x))).imp fun D σ H zz0=>?_
 obtain⟨ρ,env,h,hE,hl,r,p⟩:=zz0
 simp only[evS] at p
 obtain⟨n,e1,p⟩:=post_lft p
 split at e1<;>cases e1
 rename_i e1
 obtain⟨y,k1,k2⟩:=hE i _ e1
 rw[VR] at k2;subst k2
 refine⟨_,k1,ρ,env,h,hE,r,post_bnd p fun v h1 ρ1 z H1 g1 r1 q1 p1=>?_⟩
 obtain⟨m,e2,p2⟩:=post_lft p1
 cases part_some e2
 rw[VR] at q1;subst q1
 refine⟨ρ1,h1,n,m,r1,rfl,rfl,post_bnd p2 fun w h2 ρ2 u H2 g2 r2 q2 p3=>?_⟩
 exact post_ret r2 p3 _ (((hE.up g1).up g2).set hl q2) (by simp[hl])
noncomputable def rSet(B:Bd)(EX:Nat->List V->Hp->Prop):TSet:=fun o i v H Q=>∃ρ h a b w,HR B ρ h H/\VR B.K ρ H a o/\VR B.K ρ H b i/\VR B.K ρ H w v/\Post B EX ρ H (fun _ _ _ H'=>Q H') (setIM a b w h)
theorem set_ok(hu:X.A.units+64<cLine):PSet X (rSet (bd X cl) EX):=by
 intro pins s σ H o i v ov iv u Q I ro ri rv hh
 obtain⟨ρ,h,a,b,w,r,ha,hb,hw,p⟩:=hh
 cases a with
 | ref j =>
  simp only[setIM] at p
  obtain⟨ob,e1,p⟩:=post_ask p
  have dict:∀kvs,ob=.dct kvs->Post (bd X cl) EX ρ H (fun _ _ _ H'=>Q H') (bnd (lft (keyOf b)) (fun k=>guardM (decide (kvs.length<sizeLine)) (put j (.dct (putV kvs k w)))) h)->wpAny (model X.prog X.w) X.A (setItem ov iv u) (fun _ s'=>∃H',L2.Inv X pins σ H' s'/\Q H') X.xe s:=by
   rintro kvs rfl p
   obtain⟨kk,e2,p⟩:=post_lft p
   obtain⟨e3,p⟩:=post_guard p
   have e3:=of_decide_eq_true e3
   rw[VR] at ha
   obtain⟨A,rfl,k1⟩:=ha
   obtain⟨ks,k2,k3⟩:=r.ob j _ A e1 k1
   cases ro
   have ek:=key_kV hb e2
   subst ek
   refine d_setItem (by omega) I (DPut.k (v:=v) k2 (by rw[<-k3.length];exact e3)) ri rv fun s' I'=>⟨_,I',?_⟩
   have g:Gr ρ H ρ (upd H A (.dK (putK ks kk v))):=Gr.put (List.mem_of_getElem? k1) k2 rfl
   exact p ρ _ g (r.put k1 e1 (u:=.dct (putV kvs kk w)) ⟨_,upd_same,KRs.put kk (VR.up g _ _ hw) (KRs.up g _ _ k3)⟩)
  cases ob with
  | lst xs =>
   cases b<;>first|(exact p.elim)|skip
   rename_i n _
   obtain⟨jj,e2,p⟩:=post_lft p
   obtain⟨A,ys,rfl,k1,k2,k3⟩:=lst_own r ha e1
   rw[VR] at hb;subst hb
   refine set_list pins s σ H _ _ v ov iv u Q I ro ri rv ⟨A,ys,n,jj,rfl,rfl,k2,by rw[<-k3.length];exact e2,?_⟩
   have g:Gr ρ H ρ (upd H A (.lst (ys.set jj v))):=Gr.put (List.mem_of_getElem? k1) k2 rfl
   exact p ρ _ g (r.put k1 e1 (u:=.lst (xs.set jj w)) ⟨_,upd_same,VRs.set jj (VRs.up g _ _ k3) (VR.up g _ _ hw)⟩)
  | dct kvs=>exact dict kvs rfl (by cases b<;>exact p)
  | ins c fs=>cases b<;>exact p.elim
 | _=>exact p.elim
theorem s_setI{o i v:IE}:OkS Φ (.setI o i v):=by
 intro Γ k X cl EX st c h
 rw[chkS.eq_def] at h;dsimp only at h;split at h<;>first|cases h|skip
 rename_i a b sp x pos
 simp only[Bool.and_eq_true] at h
 obtain⟨⟨⟨⟨h1,h2⟩,h3⟩,h4⟩,h5⟩:=h
 have hpg:PG X (.Subscript a b sp) (gSub (tV Φ (bd X cl) EX o) (tV Φ (bd X cl) EX i) (rSet (bd X cl) EX)):=pg_sub (okE o c.toCtx h3) (okE i c.toCtx h4) (set_ok c.units) (by
  intro v
  cases b<;>first|rfl|(exact absurd h1 Bool.false_ne_true))
 refine(ps_asg (okE v c.toCtx h5) hpg (swaps_no (t:=some (.Subscript a b sp)) (n:=pos.line) (env:=X.env) h2) (by cases x<;>rfl) rfl).imp fun D σ H zz0=>?_
 obtain⟨ρ,env,h,hE,hl,r,p⟩:=zz0
 simp only[evS] at p
 refine⟨ρ,env,h,hE,r,post_bnd p fun w h1 ρ1 x1 H1 g1 r1 q1 p1=>⟨ρ1,env,h1,hE.up g1,r1,post_bnd p1 fun w2 h2 ρ2 x2 H2 g2 r2 q2 p2=>⟨ρ2,env,h2,(hE.up g1).up g2,r2,post_bnd p2 fun w3 h3 ρ3 x3 H3 g3 r3 q3 p3=>?_⟩⟩⟩
 refine⟨ρ3,h3,w2,w3,w,r3,VR.up g3 _ _ q2,q3,VR.up (g2.trans g3) _ _ q1,post_bndG p3 fun _ h4 ρ4 H4 g4 r4 p4=>?_⟩
 exact post_ret r4 p4 σ (((hE.up g1).up g2).up g3 |>.up g4) hl
theorem s_iff{t:IE}{a b:ISs}(ha:OkSs Φ a)(hb:OkSs Φ b):OkS Φ (.iff t a b):=by
 intro Γ k X cl EX st c h
 rw[chkS.eq_def] at h;dsimp only at h;split at h<;>first|cases h|skip
 rename_i tt x y pos
 simp only[Bool.and_eq_true] at h
 refine(ps_if (okT t c.toCtx h.1.1) (ha Γ k X cl EX x c h.1.2) (hb Γ k X cl EX y c h.2)).imp fun D σ H zz0=>?_
 obtain⟨ρ,env,h,hE,hl,r,p⟩:=zz0
 simp only[evS] at p
 refine⟨ρ,env,h,hE,r,post_T p fun v h1 p1=>?_⟩
 obtain⟨s,e1,p2⟩:=post_ask p1
 refine⟨s,e1,fun ρ1 H1 g1 r1=>?_⟩
 have p2:=Post.up g1 p2
 cases s with
 | true=>rw[if_pos rfl] at p2 |-;exact⟨ρ1,env,h1,hE.up g1,hl,r1,p2⟩
 | false=>rw[if_neg Bool.false_ne_true] at p2 |-;exact⟨ρ1,env,h1,hE.up g1,hl,r1,p2⟩
theorem s_for{p:Pat}{ik:Ik}{it:IEs}{body:ISs}(hb:OkSs Φ body):OkS Φ (.for p ik it body):=by
 intro Γ k X cl EX st c h
 rw[chkS.eq_def] at h;dsimp only at h;split at h<;>first|cases h|skip
 rename_i tg iter x pos
 simp only[Bool.and_eq_true] at h
 obtain⟨⟨⟨h1,h2⟩,h3⟩,h4⟩:=h
 have hen:ik=.enum\/ik=.zip->∃es kk pos,tg=.Tuple es kk pos:=by
  intro hz
  cases p with
  | one i=>rcases hz with rfl|rfl<;>cases h3
  | tup is=>cases tg<;>simp[patS] at h1;exact⟨_,_,_,rfl⟩
 obtain⟨hi,hf⟩:=ok_it (ok_all.2 it) c.toCtx h2 hen
 refine(ps_for c.xe c.calm hi (pg_patS c.toCtx c.fn c.nd h1) (hb Γ k X cl EX x c h4) hf).imp fun D σ H zz0=>?_
 obtain⟨ρ,env,h,hE,hl,r,pp⟩:=zz0
 simp only[evS] at pp
 have p':Post (bd X cl) EX ρ H (WF X.K D) (bnd (evI Φ ik it env) (fun src=>bnd (ask fun h=>src.items h) fun xs=>forM src (fun x env=>bnd (lft (bindE p x env)) fun env'=>evSs Φ body env') xs.length 0 env) h):=by
  unfold evI;rw[bnd_assoc];exact pp
 refine⟨ρ,env,h,hE,r,post_bndG p' fun src h1 ρ1 H1 g1 r1 p1=>?_⟩
 obtain⟨xs,e1,p2⟩:=post_ask p1
 refine⟨⟨xs,e1⟩,fun J wk=>?_⟩
 refine⟨fun i m σ' H'=>∃ρ' env' h',Gr ρ1 H1 ρ' H'/\EnvR X.K ρ' env' σ' H'/\env'.length = σ'.length/\HR (bd X cl) ρ' h' H'/\Post (bd X cl) EX ρ' H' (WF X.K D) (forM src (fun x env=>bnd (lft (bindE p x env)) fun env'=>evSs Φ body env') m i env' h'),
  ⟨xs.length,ρ1,env,h1,Gr.refl,hE.up g1,hl,r1,p2⟩,?_⟩
 rintro i m σ' H' ⟨ρ',env',h',w1,w2,w3,w4,w5⟩
 cases m with
 | zero =>
  simp only[forM] at w5
  obtain⟨xs',k1,w5⟩:=post_ask w5
  obtain⟨k2,w5⟩:=post_guard w5
  exact .inl ⟨wk.stop w1.w w4 k1 (of_decide_eq_true k2),post_ret w4 w5 σ' w2 w3⟩
 | succ m =>
  simp only[forM] at w5
  obtain⟨xs',k1,w5⟩:=post_ask w5
  cases hx:xs'[i]? with
  | none =>
   rw[hx] at w5
   exact .inl ⟨wk.stop w1.w w4 k1 (List.getElem?_eq_none_iff.mp hx),post_ret w4 w5 σ' w2 w3⟩
  | some v =>
   rw[hx] at w5
   dsimp only at w5
   refine .inr ⟨wk.go w1.w w4 k1 hx,_,fun σ'' H'' w=>⟨m,Nat.lt_succ_self _,w⟩,fun y H2 hy=>?_⟩
   obtain⟨z1,z2,z3⟩:=wk.yld w1.w w4 k1 hx hy
   rw[bnd_assoc] at w5
   obtain⟨env2,k2,w5⟩:=post_lft w5
   refine gPat_ok k2 z3 (w2.up z1) w3 fun σ2 hE2 hl2 _=>⟨ρ',env2,h',hE2,hl2,z2,post_bndG (Post.up z1 w5) fun f h3 ρ3 H3 g3 r3 p3=>?_⟩
   cases f with
   | nx env3=>exact fun σ3 hE3 hl3=>⟨ρ3,env3,h3,(w1.trans z1).trans g3,hE3,hl3,r3,p3⟩
   | ct env3=>exact fun σ3 hE3 hl3=>⟨ρ3,env3,h3,(w1.trans z1).trans g3,hE3,hl3,r3,p3⟩
   | bk env3=>exact fun σ3 hE3 hl3=>post_ret r3 p3 σ3 hE3 hl3
   | rt v=>exact(post_ret r3 p3:WF X.K D (.rt v) h3 ρ3 H3)
theorem s_whl{n:Nat}{t:IE}{body:ISs}(hb:OkSs Φ body):OkS Φ (.whl n t body):=sStub fun _ _=>rfl
theorem s_ret{e:IE}:OkS Φ (.ret e):=by
 intro Γ k X cl EX st c h
 rw[chkS.eq_def] at h;dsimp only at h;split at h<;>first|cases h|skip
 refine(ps_ret (okE e c.toCtx h)).imp fun D σ H zz0=>?_
 obtain⟨ρ,env,h,hE,hl,r,p⟩:=zz0
 simp only[evS] at p
 exact⟨ρ,env,h,hE,r,post_bnd p fun v h1 ρ1 x H1 g1 r1 q1 p1=>post_ret r1 p1 x q1⟩
theorem s_retN:OkS Φ .retN:=by
 intro Γ k X cl EX st c h
 rw[chkS.eq_def] at h;dsimp only at h;split at h<;>first|cases h|skip
 refine ps_retN.imp fun D σ H zz0=>?_
 obtain⟨ρ,env,h,hE,hl,r,p⟩:=zz0
 simp only[evS] at p
 exact post_ret r p _ VR.non
theorem s_brk:OkS Φ .brk:=by
 intro Γ k X cl EX st c h
 rw[chkS.eq_def] at h;dsimp only at h;split at h<;>first|cases h|skip
 refine ps_break.imp fun D σ H zz0=>?_
 obtain⟨ρ,env,h,hE,hl,r,p⟩:=zz0
 simp only[evS] at p
 exact post_ret r p σ hE hl
theorem s_cnt:OkS Φ .cnt:=by
 intro Γ k X cl EX st c h
 rw[chkS.eq_def] at h;dsimp only at h;split at h<;>first|cases h|skip
 refine ps_continue.imp fun D σ H zz0=>?_
 obtain⟨ρ,env,h,hE,hl,r,p⟩:=zz0
 simp only[evS] at p
 exact post_ret r p σ hE hl
theorem s_pass:OkS Φ .pass:=by
 intro Γ k X cl EX st c h
 rw[chkS.eq_def] at h;dsimp only at h;split at h<;>first|cases h|skip
 ·refine ps_pass.imp fun D σ H zz0=>?_
  obtain⟨ρ,env,h,hE,hl,r,p⟩:=zz0
  simp only[evS] at p
  exact post_ret r p σ hE hl
 ·refine ps_doc.imp fun D σ H zz0=>?_
  obtain⟨ρ,env,h,hE,hl,r,p⟩:=zz0
  simp only[evS] at p
  exact post_ret r p σ hE hl
theorem s_never:OkS Φ .never:=by
 intro Γ k X cl EX st c h
 refine ps_never.imp fun D σ H zz0=>?_
 obtain⟨ρ,env,h,hE,hl,r,p⟩:=zz0
 simp only[evS] at p
 exact p.elim
theorem bnd_guard{α β:Type}(c:Bool)(m:M α)(f:α -> M β):bnd (guardM c m) f=guardM c (bnd m f):=by
 funext h
 unfold bnd guardM
 cases c<;>rfl
theorem s_setF{n:Nat}{a v:IE}{x:Str}:OkS Φ (.setF n a x v):=by
 intro Γ k X cl EX st c h
 rw[chkS.eq_def] at h;dsimp only at h;split at h<;>first|cases h|skip
 rename_i o y ap e pos
 simp only[Bool.and_eq_true,beq_iff_eq,List.contains_iff_mem] at h
 obtain⟨⟨⟨⟨⟨h1,h2⟩,h3⟩,h4⟩,h5⟩,h6⟩:=h
 subst h1
 refine(ps_fld (okE a c.toCtx h5) (okE v c.toCtx h6) (swaps_no (t:=some (.Attribute o x ap)) (n:=pos.line) (env:=X.env) h2)).imp fun D σ H zz0=>?_
 obtain⟨ρ,env,h,hE,hl,r,p⟩:=zz0
 simp only[evS] at p
 refine⟨ρ,env,h,hE,r,post_bnd p fun w h1 ρ1 x1 H1 g1 r1 q1 p1=>⟨ρ1,env,h1,hE.up g1,r1,post_bnd p1 fun w2 h2 ρ2 x2 H2 g2 r2 q2 p2=>?_⟩⟩
 cases w2<;>first|exact p2.elim|skip
 rename_i i
 rw[VR] at q2
 obtain⟨ad,rfl,q2⟩:=q2
 unfold setFM at p2;dsimp only at p2
 rw[bnd_assoc] at p2
 obtain⟨pr,e1,p3⟩:=post_ask p2
 have hx:h2[i]?=some (.ins pr.1 pr.2)/\pr.1<n:=by
  split at e1
  ·rename_i c0 fs e2
   split at e1
   ·rename_i hc;cases e1;exact⟨e2,hc⟩
   ·cases e1
  ·cases e1
 obtain⟨dx,gs,k1,k2⟩:=r2.ob i _ ad hx.1 q2
 obtain⟨cc,nn⟩:=c.cls pr.1 (by omega)
 have p4:Post (bd X cl) EX ρ2 H2 (WF X.K D) (guardM (decide (pr.2.length<1000)) (bnd (put i (.ins pr.1 (putFV x w pr.2))) fun _=>ret (.nx env)) h2):=by
  rw[<-bnd_guard];exact p3
 obtain⟨el,p5⟩:=post_guard p4
 refine⟨ad,cl pr.1,dx,gs,rfl,k1,cc,nn x h4,by rw[<-k2.length];exact of_decide_eq_true el,?_⟩
 have g:Gr ρ2 H2 ρ2 (upd H2 ad (.ins (cl pr.1) dx (putF x x1 gs))):=Gr.put (List.mem_of_getElem? q2) k1 rfl
 exact p5 ρ2 _ g (r2.put q2 hx.1 (u:=.ins pr.1 (putFV x w pr.2)) ⟨dx,_,upd_same,FRs.put (VR.up (g2.trans g) _ _ q1) (FRs.up g _ _ k2)⟩) σ (((hE.up g1).up g2).up g) hl
theorem ss_nil:OkSs Φ .nil:=by
 intro Γ k X cl EX st c h
 rw[chkSs] at h
 cases st with
 | cons _ _=>cases h
 | nil =>
  refine pss_nil.imp fun D σ H zz0=>?_
  obtain⟨ρ,env,h,hE,hl,r,p⟩:=zz0
  simp only[evSs] at p
  exact post_ret r p σ hE hl
theorem ss_cons{s:IS}{ss:ISs}(h1:OkS Φ s)(h2:OkSs Φ ss):OkSs Φ (.cons s ss):=by
 intro Γ k X cl EX st c h
 rw[chkSs.eq_def] at h;dsimp only at h
 cases st with
 | nil=>cases h
 | cons l ls =>
  simp only[Bool.and_eq_true] at h
  refine(pss_cons (h1 Γ k X cl EX l c h.1) (h2 Γ k X cl EX ls c h.2)).imp fun D σ H zz0=>?_
  obtain⟨ρ,env,h,hE,hl,r,p⟩:=zz0
  simp only[evSs] at p
  refine⟨ρ,env,h,hE,hl,r,post_bndG p fun f h1 ρ1 H1 g1 r1 p1=>?_⟩
  cases f with
  | nx env'=>exact fun σ' hE' hl'=>⟨ρ1,env',h1,hE',hl',r1,p1⟩
  | rt v=>exact(post_ret r1 p1:WF X.K D (.rt v) h1 ρ1 H1)
  | bk env'=>exact(post_ret r1 p1:WF X.K D (.bk env') h1 ρ1 H1)
  | ct env'=>exact(post_ret r1 p1:WF X.K D (.ct env') h1 ρ1 H1)
theorem ok_stmts:∀irs,OkSs Φ irs:=by
 intro irs
 exact ISs.rec (motive_1:=fun s=>OkS Φ s) (motive_2:=fun ss=>OkSs Φ ss) (fun _=>s_expr) (fun _ _=>s_asg) (fun _ _ _=>s_aug) (fun _ _ _=>s_setI) (fun _ _ _ a b=>s_iff a b) (fun _ _ _ _ a=>s_for a) (fun _ _ _ a=>s_whl a) (fun _=>s_ret) s_retN s_brk s_cnt s_pass s_never (fun _ _ _ _=>s_setF)
  ss_nil (fun _ _ a b=>ss_cons a b) irs
end
end Hv
end
section
namespace Hv
open PySem L2 PyProof.Rows
noncomputable abbrev Row:=Str×Nat×(List Val->M Val)
noncomputable def look(fs:List Row)(j:Nat):List Val->M Val:=match fs[j]? with
 | some r=>r.2.2
 | none=>fun _=>lft none
noncomputable def AllG(P:Program)(w:World)(B:Bd)(mg:Str->Option Value)(base:Heap)(k:Nat)(fs:List Row):Prop:=∀(j:Nat) (r:Row),fs[j]?=some r->FnG P w B mg base k j r.1 r.2.1 r.2.2
noncomputable def scopeB(N P:List Str)(sc:Scope):Bool :=
 sc.kind==.function && !sc.isCoroutine && !sc.isGenerator&&decide N.Nodup&&N.take P.length==P&&(P.all fun x=>sc.names.lookup x==some .local||sc.names.lookup x==some .cell)&&(sc.names.all fun y=>y.2 != .free)
theorem scope_of{N P:List Str}{sc:Scope}(h:scopeB N P sc=true):FnScope N P sc:=by
 unfold scopeB at h
 simp only[Bool.and_eq_true,beq_iff_eq,Bool.not_eq_true',decide_eq_true_eq,List.all_eq_true,Bool.or_eq_true,bne_iff_ne] at h
 obtain⟨⟨⟨⟨⟨⟨h1,h2⟩,h3⟩,h4⟩,h5⟩,h6⟩,h7⟩:=h
 exact⟨h1,h2,h3,h4,h5,h6,h7⟩
structure Base (K:PySem.W.Frag) (cl:Nat->Addr) (mg:Str->Option Value) (cons:List (Str×Val)) (tb:Tb):Prop where
 blt:∀x∈bltNames,mg x=none
 cons:∀p∈cons,∃v u,mg p.1=some u/\RelV v u/\∀K ρ H,VR K ρ H p.2 v
 cls:∀c,c<tb.nc->Cls K (cl c)/\∀x∈tb.flds,NoAttr K (cl c) x
 mts:∀p∈tb.mts,Meth K (cl p.1) p.2.1 (cl (1000+p.2.2))
 clm:∀p∈tb.clm,∃C,mg p.1=some (.ref C)/\ClsM K C p.2.1 (cl (1000+p.2.2))
 isc:∀p∈tb.isc,∃C,mg p.1=some (.ref C)/\∀c b,p.2[c]?=some b->TyI K (cl c)/\PySem.W.kitOne K (.ref (cl c)) (.ref C)=some b
section
variable {P:Program} {w:World} {K:PySem.W.Frag} {cl:Nat->Addr} {mg:Str->Option Value} {base:Heap} {k:Nat} {fs:List Row} {cons:List (Str×Val)} {tb:Tb}
theorem fn_ok{x qual:Str}{st:Stmt}{f:Addr}{fd:FuncData}{N ps:List Str}{body:ISs}(T:Base K cl mg cons tb)(A:AllG P w ⟨K,cl⟩ mg base k fs)(F:Fun K x qual st f fd)(hS:scopeB N ps (defScope st)=true)
  (hc:chkSs ⟨N,defScope st,fs.map (fun r=>(r.1,r.2.1)),cons,tb⟩ body (defBody st)=true):FnOk P w K mg base CX0 (k+2) f fd ps (fnSp ⟨K,cl⟩ ps.length (evF (look fs) N.length body)):=by
 have S:=scope_of hS
 refine F.ok S (fun vs H Q E h=>?_) (fun cdv A' outer s H vs Q E hr h=>?_)
 ·obtain⟨ρ,h,ws,h1,_,h2,_⟩:=h
  rw[<-h2.length,h1]
 ·obtain⟨ρ,h,ws,hl,r,hv,p⟩:=h
  have lv:=hv.length
  let X:Cx:=(cxOf CX0 P w K mg base N qual (defScope st) f cdv A' outer s H E).nox
  have c:SCtx (look fs) ⟨N,defScope st,fs.map (fun r=>(r.1,r.2.1)),cons,tb⟩ k X cl (fun _ _ _=>False):=by
   refine { N:=rfl,sc:=rfl,calm:=rfl,room:=hr,noex:=fun _ _ _ z=>z,fns:=fun j x n e=>?_,cls:=T.cls,mts:=T.mts,clm:=T.clm,isc:=T.isc,cons:=T.cons,blt:=T.blt,fn:=fun _=>rfl,nd:=S.nd,kind:=S.kind,xe:=PassesOwn.never }
   have e':(fs.map (fun r=>(r.1,r.2.1)))[j]?=some (x,n):=e
   rw[List.getElem?_map] at e'
   cases er:fs[j]? with
   | none=>rw[er] at e';cases e'
   | some r =>
    rw[er] at e'
    cases e'
    have:=A j r er
    unfold look
    rw[er]
    exact this
  refine⟨_,ok_stmts body _ k X cl _ (defBody st) c hc,ρ,ws.map some++List.replicate (N.length-ws.length) none,h,fun i v e=>?_,?_,r,post_bndG p fun fl h1 ρ1 H1 g1 r1 p1=>?_⟩
  ·by_cases hi:i<ws.length
   ·rw[List.getElem?_append_left (by simpa using hi)] at e
    rw[List.getElem?_map] at e
    cases ei:ws[i]? with
    | none=>rw[ei] at e;cases e
    | some w' =>
     rw[ei] at e;cases e
     obtain⟨y,q1,q2⟩:=hv.get ei
     refine⟨y,?_,q2⟩
     show (vs.map some++_)[i]?=_
     rw[List.getElem?_append_left (by rw[List.length_map,<-lv];exact hi),List.getElem?_map,q1];rfl
   ·rw[List.getElem?_append_right (by simp;omega)] at e
    have:=List.mem_of_getElem? e
    rw[List.mem_replicate] at this
    exact absurd this.2 (by simp)
  ·show _=(vs.map some++_).length
   simp[lv]
  ·cases fl with
   | nx env'=>exact fun σ' _ _=>post_ret r1 p1 _ VR.non
   | rt v=>exact(post_ret r1 p1:WV K Q v h1 ρ1 H1)
   | bk env'=>exact p1.elim
   | ct env'=>exact p1.elim
theorem _root_.Hv.FnG.mono{B:Bd}{j:Nat}{x:Str}{n:Nat}{φ:List Val->M Val}(g:FnG P w B mg base k j x n φ):FnG P w B mg base (k+2) j x n φ:=by
 have le:k<=k+2:=Nat.le_add_right _ _
 rcases g with ⟨h,⟨f,fd,ps,q1,q2,q3,q4,q5⟩|⟨c,f,fd,ps,φ0,q0,q1,q2,q3,q4,q5⟩⟩|⟨h,fd,ps,q1,q4,q5⟩
 ·exact .inl ⟨h,.inl ⟨f,fd,ps,q1,q2,q3,q4,q5.mono le⟩⟩
 ·exact .inl ⟨h,.inr ⟨c,f,fd,ps,φ0,q0,q1,q2,q3,q4,q5.mono le⟩⟩
 ·exact .inr ⟨h,fd,ps,q1,q4,q5.mono le⟩
theorem all_nil:AllG P w ⟨K,cl⟩ mg base k []:=fun j r e=>by simp at e
theorem all_snoc{x qual:Str}{st:Stmt}{f:Addr}{fd:FuncData}{N ps:List Str}{body:ISs}(T:Base K cl mg cons tb)(A:AllG P w ⟨K,cl⟩ mg base k fs)(F:Fun K x qual st f fd)(hm:mg x=some (.ref f))(hb:Binds K fd ps [])(h1000:ps.length<1000)(hS:scopeB N ps (defScope st)=true)
  (hc:chkSs ⟨N,defScope st,fs.map (fun r=>(r.1,r.2.1)),cons,tb⟩ body (defBody st)=true):AllG P w ⟨K,cl⟩ mg base (k+2) (fs++[(x,ps.length,evF (look fs) N.length body)]):=fun j r e=>by
 by_cases hj:j<fs.length
 ·rw[List.getElem?_append_left hj] at e
  exact(A j r e).mono
 ·rw[List.getElem?_append_right (by omega)] at e
  have hj0:j-fs.length=0:=by
   have:=(List.getElem?_eq_some_iff.mp e).1
   simp at this;omega
  rw[hj0] at e
  simp at e
  subst e
  exact .inl ⟨h1000,.inl ⟨f,fd,ps,rfl,hm,F.kp,hb,fn_ok T A F hS hc⟩⟩
theorem all_add{r0:Row}(A:AllG P w ⟨K,cl⟩ mg base k fs)(g:FnG P w ⟨K,cl⟩ mg base (k+2) fs.length r0.1 r0.2.1 r0.2.2):AllG P w ⟨K,cl⟩ mg base (k+2) (fs++[r0]):=fun j r e=>by
 by_cases hj:j<fs.length
 ·rw[List.getElem?_append_left hj] at e
  exact(A j r e).mono
 ·rw[List.getElem?_append_right (by omega)] at e
  have hj0:j-fs.length=0:=by
   have:=(List.getElem?_eq_some_iff.mp e).1
   simp at this;omega
  rw[hj0] at e
  simp at e
  subst e
  rw[show j=fs.length by omega]
  exact g
theorem all_meth{x qual y:Str}{st:Stmt}{f:Addr}{fd:FuncData}{N ps:List Str}{body:ISs}(T:Base K cl mg cons tb)(A:AllG P w ⟨K,cl⟩ mg base k fs)(F:Fun K x qual st f fd)(hf:cl (1000+fs.length)=f)(hb:Binds K fd ps [])(hS:scopeB N ps (defScope st)=true)
  (hc:chkSs ⟨N,defScope st,fs.map (fun r=>(r.1,r.2.1)),cons,tb⟩ body (defBody st)=true):AllG P w ⟨K,cl⟩ mg base (k+2) (fs++[(y,1000+ps.length,evF (look fs) N.length body)]):=by
 refine all_add (r0:=(y,1000+ps.length,evF (look fs) N.length body)) A (.inr ⟨Nat.le_add_right _ _,fd,ps,?_,hb,?_⟩)
 ·show ps.length=1000+ps.length-1000
  omega
 ·show FnOk P w K mg base CX0 (k+2) (cl (1000+fs.length)) fd ps (fnSp ⟨K,cl⟩ (1000+ps.length-1000) _)
  rw[hf,show 1000+ps.length-1000=ps.length by omega]
  exact fn_ok T A F hS hc
theorem all_class{x i qual:Str}{st:Stmt}{f:Addr}{fd:FuncData}{N ps:List Str}{n c:Nat}{body:ISs}(T:Base K cl mg cons tb)(A:AllG P w ⟨K,cl⟩ mg base k fs)(F:Fun K i qual st f fd)(hm:mg x=some (.ref (cl c)))(M:Mk K (cl c) f)(hb:Binds K fd ps [])(hn:ps.length=n+1)(h1000:n<1000)(hS:scopeB N ps (defScope st)=true)
  (hc:chkSs ⟨N,defScope st,fs.map (fun r=>(r.1,r.2.1)),cons,tb⟩ body (defBody st)=true):AllG P w ⟨K,cl⟩ mg base (k+2) (fs++[(x,n,mkF c (evF (look fs) N.length body))]):=by
 refine all_add (r0:=(x,n,mkF c (evF (look fs) N.length body))) A (.inl ⟨h1000,.inr ⟨c,f,fd,ps,_,rfl,hn,hm,M,hb,?_⟩⟩)
 rw[<-hn]
 exact fn_ok T A F hS hc
end
theorem law_sp{K:PySem.W.Frag}{cl:Nat->Addr}{φ:List Val->M Val}{H:Hp}{a:Addr}{ns:List Int}(hO:Only H)(hS:SqL K H a (ns.map V.int))(h:∃h',φ [.rl (ns.map .int)] []=.ok (.bl true) h') :
  fnSp ⟨K,cl⟩ 1 φ [.ref a] H (fun v _=>v=.bl true) fun _ _ _=>False:=by
 obtain⟨h',e⟩:=h
 have sr:SqR K H a (ns.map V.int):=by
  rcases hS with (z|z)|z
  ·rcases hO a with y|⟨o,xs,y⟩
   ·rw[y] at z;cases z
   ·rw[y] at z;cases z
  ·exact .inl z
  ·exact .inr (.inr z)
 refine⟨[],[],[.rl (ns.map .int)],rfl,⟨rfl,List.nodup_nil,fun i o a e=>by simp at e⟩,VRs.cons (by rw[VR];exact⟨a,_,rfl,sr,VRs.ints.mpr rfl⟩) VRs.nil,?_⟩
 rw[e]
 intro ρ' H' g r x q
 rw[VR] at q;exact q
noncomputable def spL(K:PySem.W.Frag):Sp:=fun vs H Q _=>∃(a:Addr) (ns:List Int),vs=[.ref a]/\Only H/\SqL K H a (ns.map V.int)/\ns.length<=63/\∀H',Q (.bl true) H'
theorem spL_of{K:PySem.W.Frag}{cl:Nat->Addr}{φ:List Val->M Val}(hφ:∀ns:List Int,ns.length<=63->∃h',φ [.rl (ns.map .int)] []=.ok (.bl true) h')(vs:List V)(H:Hp)(Q:VK)(E:XK)(h:spL K vs H Q E):fnSp ⟨K,cl⟩ 1 φ vs H Q E:=by
 obtain⟨a,ns,rfl,hO,hS,hl,hq⟩:=h
 obtain⟨ρ,h,vs,q1,q2,q3,q4⟩:=law_sp (cl:=cl) hO hS (hφ ns hl)
 refine⟨ρ,h,vs,q1,q2,q3,?_⟩
 revert q4
 cases φ vs h with
 | ok v h'=>exact fun q4 ρ' H' g r x hx=>by rw[show x=_ from q4 ρ' H' g r x hx];exact hq H'
 | exc c ws h'=>exact fun q4=>q4
 | no=>exact fun q4=>q4
theorem walk{l:PySem.W.OpenLaw}{q:Program}{loose:List Str}{XP:(Str->Option Value)->Heap->Prop}{YP:World->Heap->Prop}{d:DefRec}{K:Params->PySem.W.Frag}{k:Nat}{x:Str}(hn:l.most=some 63)(hdf:d.params.defaults=[])(hr:Room k callerA)
  (hY:∀(w:World) (h:Heap),YP w h->(K w.params).In h)
  (F:∀(w:World) (mg:Str->Option Value) (fa:Addr) (h:Heap),(K w.params).In h->h.Ns mainGlobals mg->mg d.name=some (.ref fa) ->
   ∃fd:FuncData,(∀(s:Shared) (u:Value),BindsTo s fd ⟨[u],[]⟩ [(x,u)])/\∀base:Heap,(K w.params).In base->base.Ns mainGlobals mg->FnOk l.prog w (K w.params) mg base CX0 k fa fd [x] (spL (K w.params))) :
  PySem.W.WalkO q loose XP YP l.row.toRowW d [] (fun f vs=>PySem.call f vs) :=
 L2.walk_of (n:=63) (k:=k) (x:=x) (CX:=fun _=>CX0) (sp:=fun w=>spL (K w.params)) hn (by decide) hdf hr hY F (fun _ _ a ns hl hO hS=>⟨a,ns,rfl,hO,hS,hl,fun _=>rfl⟩) fun _ _ _ _ _ z=>z
end Hv
end
section
namespace Hv
open PySem L2
inductive Pr (α:Type)
 | ok (a:α)|exc (c:Nat) (ds:List Val)|no
noncomputable def pb{α β:Type}(m:Pr α)(f:α -> Pr β):Pr β:=match m with
 | .ok a=>f a
 | .exc c ds=>.exc c ds
 | .no=>.no
noncomputable def pl{α:Type}(o:Option α):Pr α:=match o with
 | some a=>.ok a
 | none=>.no
noncomputable def pg{α:Type}(c:Bool)(m:Pr α):Pr α:=if c=true then m else .no
inductive Mk
 | sh|nw|ow
noncomputable def rdM:Mk->Bool
 | .ow=>false
 | _=>true
noncomputable def nwM:Mk->Bool
 | .nw=>true
 | _=>false
noncomputable abbrev VEnv:=List (Option (Mk×Val))
noncomputable abbrev FV:=Bool×Val
mutual
noncomputable def imm:Val->Bool
 | .rl _=>false
 | .dc _ _=>false
 | .ob _ _ _=>false
 | .ref _=>false
 | .tup vs=>imms vs
 | .non=>true
 | .bl _=>true
 | .int _=>true
 | .str _=>true
noncomputable def imms:List Val->Bool
 | []=>true
 | v::vs=>imm v&&imms vs
end
noncomputable def mkOf(f:Bool)(d:Val):Mk:=if (f && !imm d)=true then .nw else .sh
noncomputable def putD(ks:List Key)(ds:List Val)(k:Key)(d:Val):Val:=.dc ((putV (ks.zip ds) k d).map (·.1)) ((putV (ks.zip ds) k d).map (·.2))
noncomputable def bopV:Bop->Val->Val->Pr FV
 | .add,.int a,.int b=>.ok (true,.int (a+b))
 | .add,.str a,.str b=>pg (decide (a.length+b.length<=sizeLine)) (.ok (true,.str (a++b)))
 | .add,.tup a,.tup b=>pg (!a.isEmpty&&decide (a.length+b.length<=sizeLine)) (.ok (imms (a++b),.tup (a++b)))
 | .add,.rl a,.rl b=>pg (decide (a.length+b.length<=sizeLine)) (.ok (imms (a++b),.rl (a++b)))
 | .sub,.int a,.int b=>.ok (true,.int (a-b))
 | .mul,.int a,.int b=>pg (mulOk a b) (.ok (true,.int (a*b)))
 | .fdiv,.int a,.int b=>pg (dvOk b) (.ok (true,.int (a/b)))
 | .mod,.int a,.int b=>pg (decide (0<b)) (.ok (true,.int (a%b)))
 | .pow,.int a,.int b=>pg (decide (0<=b/\b<=1000000/\a.natAbs<2 ^ 64)) (.ok (true,.int (a ^ b.toNat)))
 | _,_,_=>.no
noncomputable def slcV(v:Val)(lo hi:Option Int):Pr FV:=match v with
 | .tup vs=>pg (!(decide (HT.sIx vs.length 0 lo=0)&&decide (HT.sIx vs.length vs.length hi=vs.length))) (.ok (imms (cutL vs lo hi),.tup (cutL vs lo hi)))
 | .rl vs=>.ok (imms (cutL vs lo hi),.rl (cutL vs lo hi))
 | _=>.no
noncomputable def bltV:Bl->List Val->Pr FV
 | .len,[v]=>pb (pl (lenH [] v)) fun n=>.ok (true,.int n)
 | .min,[.int a,.int b]=>.ok (true,.int (if b<a then b else a))
 | .max,[.int a,.int b]=>.ok (true,.int (if b>a then b else a))
 | .min,[v]=>pb (pl (seqOf [] v)) fun xs=>pb (pl ((ints? xs).bind minL)) fun m=>.ok (true,m)
 | .max,[v]=>pb (pl (seqOf [] v)) fun xs=>pb (pl ((ints? xs).bind maxL)) fun m=>.ok (true,m)
 | .sorted,[.rl xs]=>pb (pl (sortV xs)) fun ys=>.ok (true,.rl ys)
 | .list,[v]=>pb (pl (seqOf [] v)) fun xs=>.ok (imms xs,.rl xs)
 | .int,[.bl b]=>.ok (true,.int (if b=true then 1 else 0))
 | .int,[.int i]=>.ok (true,.int i)
 | .all,[.rl xs]=>pb (pl (bools? xs)) fun bs=>.ok (true,.bl (bs.all id))
 | .isin T,[v]=>pb (pl (tyN [] v)) fun t=>pb (pl (isinH T t)) fun b=>.ok (true,.bl b)
 | _,_=>.no
noncomputable def srcV:Ik->List Val->Option (List Val)
 | .seq,[.tup vs]=>some vs
 | .seq,[.rl vs]=>some vs
 | .range,[.int n]=>if inR n then some (rangeV 0 n.toNat) else none
 | .range,[.int a,.int b]=>if inR a&&inR b then some (rangeV a (b-a).toNat) else none
 | .enum,[.rl vs]=>some (enumV 0 vs)
 | _,_=>none
noncomputable def srcC(k:Ik)(ds:List Val):Option (List Val):=match k with
 | .zip=>none
 | k=>srcV k ds
noncomputable def bindAllV:List Nat->List Val->VEnv->Option VEnv
 | [],[],env=>some env
 | i::is,d::ds,env=>bindAllV is ds (env.set i (some (.sh,d)))
 | _,_,_=>none
noncomputable def bindV:Pat->Val->VEnv->Option VEnv
 | .one i,d,env=>some (env.set i (some (.sh,d)))
 | .tup is,.tup ds,env=>bindAllV is ds env
 | _,_,_=>none
noncomputable def envCV(js:List (Option Nat))(env:VEnv):VEnv:=js.map fun o=>match o with
 | none=>none
 | some j=>match env[j]? with
  | some (some d)=>some d
  | _=>none
noncomputable def compV(f:Val->Pr (Option FV)):List Val->Pr (Bool×List Val)
 | []=>.ok (true,[])
 | x::r=>pb (f x) fun o=>pb (compV f r) fun p=>.ok (match o with|some e=>(e.1&&p.1,e.2::p.2)|none=>p)
noncomputable def boolV:Val->Pr Bool
 | .bl b=>.ok b
 | _=>.no
noncomputable def varB(env:VEnv):IE->Option FV
 | .var i=>match env[i]? with
  | some (some (_,d))=>some (imm d,d)
  | _=>none
 | _=>none
noncomputable def isVar:IE->Bool
 | .var _=>true
 | _=>false
mutual
noncomputable def evV(Ψ:Nat->List Val->Pr FV):IE->VEnv->Pr FV
 | .var i,env=>match env[i]? with
  | some (some (m,d))=>pg (rdM m) (.ok (imm d,d))
  | _=>.no
 | .cst d,_=>.ok (imm d,d)
 | .con _ d,_=>.ok (imm d,d)
 | .no,_=>.no
 | .bin o a b,env=>pb (if isVar a=true then pl (varB env a) else evV Ψ a env) fun x=>pb (if isVar b=true then pl (varB env b) else evV Ψ b env) fun y=>bopV o x.2 y.2
 | .neg a,env=>pb (evV Ψ a env) fun x=>match x.2 with
  | .int i=>.ok (true,.int (-i))
  | _=>.no
 | .cmp o a b,env=>pb (if isVar a=true then pl (varB env a) else evV Ψ a env) fun x=>pb (if isVar b=true then pl (varB env b) else evV Ψ b env) fun y=>pb (pl (cop [] o x.2 y.2)) fun t=>.ok (true,.bl t)
 | .chn _ _ _ _ _,_=>.no
 | .and a b,env=>pb (evV Ψ a env) fun x=>pb (boolV x.2) fun t=>if t=true then pb (evV Ψ b env) fun y=>pb (boolV y.2) fun u=>.ok (true,.bl u) else .ok (true,.bl false)
 | .or a b,env=>pb (evV Ψ a env) fun x=>pb (boolV x.2) fun t=>if t=true then .ok (true,.bl true) else pb (evV Ψ b env) fun y=>pb (boolV y.2) fun u=>.ok (true,.bl u)
 | .not a,env=>pb (evV Ψ a env) fun x=>pb (boolV x.2) fun t=>.ok (true,.bl (!t))
 | .ite _ _ _,_=>.no
 | .tup es,env=>pb (evVs Ψ es env) fun p=>pg (decide (p.2.length<=sizeLine)) (.ok (p.1,.tup p.2))
 | .lst es,env=>pb (evVs Ψ es env) fun p=>pg (decide (p.2.length<=sizeLine)) (.ok (p.1,.rl p.2))
 | .idx a b,env=>pb (if isVar a=true then pl (varB env a) else evV Ψ a env) fun x=>pb (evV Ψ b env) fun y=>pb (pl (idxH [] x.2 y.2)) fun z=>.ok (imm z,z)
 | .slc a lo hi,env=>pb (if isVar a=true then pl (varB env a) else evV Ψ a env) fun x=>pb (if isNo lo=true then .ok none else pb (evV Ψ lo env) fun v=>pb (pl (part? v.2)) fun i=>.ok (some i)) fun l =>
   pb (if isNo hi=true then .ok none else pb (evV Ψ hi env) fun v=>pb (pl (part? v.2)) fun i=>.ok (some i)) fun u=>slcV x.2 l u
 | .call j es,env=>pb (evVs Ψ es env) fun p=>Ψ j p.2
 | .blt b es,env=>pb (evBs Ψ es env) fun ds=>bltV b ds
 | .met m a es,env=>match m with
  | .join=>.no
  | _=>.no
 | .comp _ js pat k it c elt,env=>pb (evBs Ψ it env) fun its=>pb (pl (srcC k its)) fun xs=>pg (decide (xs.length<=100000))
   (pb (compV (fun d=>pb (pl (bindV pat d (envCV js env))) fun env'=>pb (if isNo c=true then .ok true else pb (evV Ψ c env') fun v=>pl (truH [] v.2)) fun t =>
    if t=true then pb (evV Ψ elt env') fun e=>.ok (some e) else .ok none) xs) fun p=>.ok (p.1,.rl p.2))
 | .dct0,_=>.ok (true,.dc [] [])
 | .sset a,env=>pb (if isVar a=true then pl (varB env a) else evV Ψ a env) fun x=>match x.2 with
  | .rl xs=>pb (pl (ints? xs)) fun ns=>pg (decide (ns.length<64)) (.ok (true,.rl ((PySem.W.sortI (L2.newK [] ns)).map .int)))
  | _=>.no
 | .dget d k x,env=>pb (if isVar d=true then pl (varB env d) else evV Ψ d env) fun o=>pb (pl (isDc [] o.2)) fun _=>pb (evV Ψ k env) fun i=>pb (pl (keyOf i.2)) fun kk=>pb (evV Ψ x env) fun z=>pb (pl (getH [] o.2 kk)) fun r=>.ok (imm (r.getD z.2),r.getD z.2)
 | .dct1 k v,env=>pb (evV Ψ k env) fun x=>pb (pl (keyOf x.2)) fun kk=>pb (evV Ψ v env) fun y=>.ok (y.1,.dc [kk] [y.2])
 | .lkeys d,env=>pb (if isVar d=true then pl (varB env d) else evV Ψ d env) fun o=>pb (pl (keysH [] o.2)) fun ks=>.ok (true,.rl (ks.map keyV))
 | .sdef ..,_=>.no
 | .svals _,_=>.no
 | .skeys d,env=>pb (if isVar d=true then pl (varB env d) else evV Ψ d env) fun o=>pb (pl (skeysH [] o.2)) fun ns=>.ok (true,.rl (ns.map .int))
 | .fld n a x,env=>pb (if isVar a=true then pl (varB env a) else evV Ψ a env) fun o=>pb (pl (fldH n [] o.2 x)) fun z=>.ok (imm z,z)
 | .mth a m js es,env=>pb (evV Ψ a env) fun o=>pb (pl (mthH [] o.2 m js)) fun j=>pb (evVs Ψ es env) fun p=>Ψ j (o.2::p.2)
 | .rev a s,env=>pb (if isVar a=true then pl (varB env a) else evV Ψ a env) fun x=>pb (if isNo s=true then .ok none else pb (evV Ψ s env) fun v=>pb (pl (part? v.2)) fun i=>.ok (some i)) fun k =>
   pg (decide (k=some (-1))) (match x.2 with
    | .rl vs=>.ok (imms vs.reverse,.rl vs.reverse)
    | _=>.no)
 | .dflt _ _ _ _ _ _,_=>.no
 | .isc _ _ _,_=>.no
noncomputable def evVs(Ψ:Nat->List Val->Pr FV):IEs->VEnv->Pr (Bool×List Val)
 | .nil,_=>.ok (true,[])
 | .cons e es,env=>pb (evV Ψ e env) fun d=>pb (evVs Ψ es env) fun p=>.ok (d.1&&p.1,d.2::p.2)
noncomputable def evBs(Ψ:Nat->List Val->Pr FV):IEs->VEnv->Pr (List Val)
 | .nil,_=>.ok []
 | .cons e es,env=>pb (if isVar e=true then pl (varB env e) else evV Ψ e env) fun d=>pb (evBs Ψ es env) fun p=>.ok (d.2::p)
end
noncomputable def evB(Ψ:Nat->List Val->Pr FV)(e:IE)(env:VEnv):Pr FV:=if isVar e=true then pl (varB env e) else evV Ψ e env
inductive VFl
 | nx (env:VEnv)|rt (p:FV)|bk (env:VEnv)|ct (env:VEnv)
mutual
noncomputable def mutS:IS->List Nat
 | .expr (.met .append (.var i) _)=>[i]
 | .expr (.met .extend (.var i) _)=>[i]
 | .setI (.var i) _ _=>[i]
 | .iff _ a b=>mutSs a++mutSs b
 | .for _ _ _ b=>mutSs b
 | .whl _ _ b=>mutSs b
 | _=>[]
noncomputable def mutSs:ISs->List Nat
 | .nil=>[]
 | .cons s r=>mutS s++mutSs r
end
noncomputable def stored:Pat->List Nat
 | .one i=>[i]
 | .tup is=>is
mutual
noncomputable def stoS:IS->List Nat
 | .asg p _=>stored p
 | .aug i _ _=>[i]
 | .iff _ a b=>stoSs a++stoSs b
 | .for p _ _ b=>stored p++stoSs b
 | .whl _ _ b=>stoSs b
 | _=>[]
noncomputable def stoSs:ISs->List Nat
 | .nil=>[]
 | .cons s r=>stoS s++stoSs r
end
noncomputable def frT:IE->Bool
 | .lst _=>true
 | .comp ..=>true
 | .slc ..=>true
 | .blt .list _=>true
 | .blt .sorted _=>true
 | .dct0=>true
 | .dct1 ..=>true
 | _=>false
noncomputable def forV(body:Val->VEnv->Pr VFl):List Val->VEnv->Pr VFl
 | [],env=>.ok (.nx env)
 | x::r,env=>pb (body x env) fun f=>match f with
  | .nx env'=>forV body r env'
  | .ct env'=>forV body r env'
  | .bk env'=>.ok (.nx env')
  | .rt p=>.ok (.rt p)
noncomputable def frM:Mk->Mk
 | .ow=>.sh
 | m=>m
noncomputable def frO:Option (Mk×Val)->Option (Mk×Val)
 | none=>none
 | some (m,d)=>some (frM m,d)
noncomputable def frz(env:VEnv):VEnv:=env.map frO
noncomputable def evR(Ψ:Nat->List Val->Pr FV)(e:IE)(env:VEnv):Pr FV:=match e with
 | .var i=>match env[i]? with
  | some (some (m,d))=>if rdM m=true then .ok (imm d||nwM m,d) else match d with
   | .rl ds=>.ok (imms ds,.rl ds)
   | .dc ks ds=>.ok (imms ds,.dc ks ds)
   | _=>.no
  | _=>.no
 | .call j es=>evV Ψ (.call j es) (frz env)
 | e=>evV Ψ e env
noncomputable def srcOk(p:Pat)(it:IEs)(body:ISs):Bool:=match it with
 | .cons (.var i) .nil=>!(mutSs body).contains i && !(stoSs body).contains i && !(stored p).contains i
 | _=>true
mutual
noncomputable def evVS(Ψ:Nat->List Val->Pr FV)(ms:List Nat):IS->VEnv->Pr VFl
 | .expr e,env=>match e with
  | .met .append (.var i) (.cons a .nil)=>match env[i]? with
   | some (some (.ow,.rl ds))=>pb (evV Ψ a env) fun x=>pg (decide (ds.length<sizeLine)) (.ok (.nx (env.set i (some (.ow,.rl (ds++[x.2]))))))
   | _=>.no
  | .met .extend (.var i) (.cons a .nil)=>match env[i]? with
   | some (some (.ow,.rl ds))=>pb (evV Ψ a env) fun x=>match x.2 with
    | .tup vs=>pg (decide (ds.length+vs.length<=sizeLine)) (.ok (.nx (env.set i (some (.ow,.rl (ds++vs))))))
    | _=>.no
   | _=>.no
  | e=>pb (evV Ψ e env) fun _=>.ok (.nx env)
 | .asg p e,env=>match p with
  | .one i=>if ms.contains i=true then pg (frT e) (pb (evV Ψ e env) fun x=>match x.2 with
    | .rl ds=>.ok (.nx (env.set i (some (.ow,.rl ds))))
    | .dc ks ds=>.ok (.nx (env.set i (some (.ow,.dc ks ds))))
    | _=>.no) else pb (evV Ψ e env) fun x=>.ok (.nx (env.set i (some (mkOf x.1 x.2,x.2))))
  | .tup is=>pg (is.all fun i=>!ms.contains i) (pb (evV Ψ e env) fun x=>pb (pl (bindV (.tup is) x.2 env)) fun env'=>.ok (.nx env'))
 | .aug i o e,env=>pg (!ms.contains i) (pb (pl (match env[i]? with|some (some (_,.int x))=>some x|_=>none)) fun x=>pb (evV Ψ e env) fun v=>pb (pl (part? v.2)) fun y=>pb (bopV o (.int x) (.int y)) fun z=>.ok (.nx (env.set i (some (.sh,z.2)))))
 | .setI o i v,env=>match o with
  | .var j=>pb (evV Ψ v env) fun x=>match env[j]? with
   | some (some (.ow,.rl ds))=>pb (evV Ψ i env) fun z=>pb (pl (part? z.2)) fun k=>pb (pl (ixN ds.length k)) fun n=>.ok (.nx (env.set j (some (.ow,.rl (ds.set n x.2)))))
   | some (some (.ow,.dc ks ds))=>pb (evV Ψ i env) fun z=>pb (pl (keyOf z.2)) fun k=>pg (decide (ks.length<sizeLine)) (.ok (.nx (env.set j (some (.ow,putD ks ds k x.2)))))
   | _=>.no
  | _=>.no
 | .iff c a b,env=>pb (evB Ψ c env) fun x=>pb (pl (truH [] x.2)) fun t=>if t=true then evVSs Ψ ms a env else evVSs Ψ ms b env
 | .for p k it body,env=>pg (srcOk p it body&&(stored p).all fun i=>!ms.contains i) (pb (evBs Ψ it env) fun its=>pb (pl (srcV k its)) fun xs =>
   forV (fun x env=>pb (pl (bindV p x env)) fun env'=>evVSs Ψ ms body env') xs env)
 | .whl _ _ _,_=>.no
 | .ret e,env=>pb (evR Ψ e env) fun p=>.ok (.rt p)
 | .retN,_=>.ok (.rt (true,.non))
 | .brk,env=>.ok (.bk env)
 | .cnt,env=>.ok (.ct env)
 | .pass,env=>.ok (.nx env)
 | .never,_=>.no
 | .setF _ _ _ _,_=>.no
noncomputable def evVSs(Ψ:Nat->List Val->Pr FV)(ms:List Nat):ISs->VEnv->Pr VFl
 | .nil,env=>.ok (.nx env)
 | .cons s r,env=>pb (evVS Ψ ms s env) fun f=>match f with
  | .nx env'=>evVSs Ψ ms r env'
  | f=>.ok f
end
noncomputable def evVF(Ψ:Nat->List Val->Pr FV)(n:Nat)(body:ISs)(ds:List Val):Pr FV :=
 pb (evVSs Ψ (mutSs body) body (ds.map (fun d=>some (.sh,d))++List.replicate (n-ds.length) none)) fun f=>match f with
  | .nx _=>.ok (true,.non)
  | .rt p=>.ok p
  | _=>.no
end Hv
end
section
namespace Hv
open PySem L2
noncomputable abbrev AP:=Option Nat->Prop
noncomputable def Fr(n:Nat):AP:=fun o=>match o with
 | none=>False
 | some k=>n<=k
theorem Fr.le{n m:Nat}(h:n<=m):∀o,Fr m o->Fr n o
 | none,e=>e
 | some k,e=>Nat.le_trans h e
mutual
noncomputable def Dn(A:AP)(h:Hs):Val->Val->Prop
 | .non,v=>v=.non
 | .bl b,v=>v=.bl b
 | .int i,v=>v=.int i
 | .str x,v=>v=.str x
 | .tup ds,v=>∃vs,v=.tup vs/\Dns A h ds vs
 | .rl ds,v=>(∃vs,v=.rl vs/\A none/\Dns A h ds vs)\/∃i vs,v=.ref i/\A (some i)/\h[i]?=some (.lst vs)/\Dns A h ds vs
 | .dc ks ds,v=>∃i kvs,v=.ref i/\A (some i)/\h[i]?=some (.dct kvs)/\kvs.map (·.1)=ks/\Dns A h ds (kvs.map (·.2))
 | .ob c xs ds,v=>∃i fs,v=.ref i/\A (some i)/\h[i]?=some (.ins c fs)/\fs.map (·.1)=xs/\Dns A h ds (fs.map (·.2))
 | .ref _,_=>False
noncomputable def Dns(A:AP)(h:Hs):List Val->List Val->Prop
 | [],vs=>vs=[]
 | d::ds,vs=>∃v r,vs=v::r/\Dn A h d v/\Dns A h ds r
end
section
variable {A A':AP} {h h' h1:Hs}
mutual
theorem Dn.mono(hA:∀i,A i->A' i)(hh:∀(i:Nat) (o:Ob),A (some i)->h[i]?=some o->h'[i]?=some o):∀(d v:Val),Dn A h d v->Dn A' h' d v
 | .non,v,e=>by rw[Dn] at e |-;exact e
 | .bl _,v,e=>by rw[Dn] at e |-;exact e
 | .int _,v,e=>by rw[Dn] at e |-;exact e
 | .str _,v,e=>by rw[Dn] at e |-;exact e
 | .tup ds,v,e=>by
  rw[Dn] at e |-
  obtain⟨vs,rfl,q⟩:=e
  exact⟨vs,rfl,Dns.mono hA hh ds vs q⟩
 | .rl ds,v,e=>by
  rw[Dn] at e |-
  rcases e with ⟨vs,rfl,n,q⟩|⟨i,vs,rfl,a,g,q⟩
  ·exact .inl ⟨vs,rfl,hA _ n,Dns.mono hA hh ds vs q⟩
  ·exact .inr ⟨i,vs,rfl,hA _ a,hh i _ a g,Dns.mono hA hh ds vs q⟩
 | .dc ks ds,v,e=>by
  rw[Dn] at e |-
  obtain⟨i,kvs,rfl,a,g,k,q⟩:=e
  exact⟨i,kvs,rfl,hA _ a,hh i _ a g,k,Dns.mono hA hh ds _ q⟩
 | .ob c xs ds,v,e=>by
  rw[Dn] at e |-
  obtain⟨i,kvs,rfl,a,g,k,q⟩:=e
  exact⟨i,kvs,rfl,hA _ a,hh i _ a g,k,Dns.mono hA hh ds _ q⟩
 | .ref _,v,e=>by rw[Dn] at e;exact e.elim
theorem Dns.mono(hA:∀i,A i->A' i)(hh:∀(i:Nat) (o:Ob),A (some i)->h[i]?=some o->h'[i]?=some o):∀(ds vs:List Val),Dns A h ds vs->Dns A' h' ds vs
 | [],vs,e=>by rw[Dns] at e |-;exact e
 | d::ds,vs,e=>by
  rw[Dns] at e |-
  obtain⟨v,r,rfl,q1,q2⟩:=e
  exact⟨v,r,rfl,Dn.mono hA hh d v q1,Dns.mono hA hh ds r q2⟩
end
theorem pre_ob{i:Nat}{o:Ob}(p:h<+:h')(e:h[i]?=some o):h'[i]?=some o:=by
 obtain⟨t,rfl⟩:=p
 have hi:i<h.length:=(List.getElem?_eq_some_iff.mp e).1
 rw[List.getElem?_append_left hi];exact e
theorem Dn.ext{d v:Val}(p:h<+:h')(e:Dn A h d v):Dn A h' d v:=Dn.mono (fun _ a=>a) (fun _ _ _ q=>pre_ob p q) d v e
theorem Dns.ext{d v:List Val}(p:h<+:h')(e:Dns A h d v):Dns A h' d v:=Dns.mono (fun _ a=>a) (fun _ _ _ q=>pre_ob p q) d v e
theorem Dn.wid{d v:Val}(hA:∀i,A i->A' i)(e:Dn A h d v):Dn A' h d v:=Dn.mono hA (fun _ _ _ q=>q) d v e
theorem Dns.wid{d v:List Val}(hA:∀i,A i->A' i)(e:Dns A h d v):Dns A' h d v:=Dns.mono hA (fun _ _ _ q=>q) d v e
mutual
theorem imm_eq:∀(d v:Val),imm d=true->(Dn A h d v↔v=d)
 | .non,v,_=>by rw[Dn]
 | .bl _,v,_=>by rw[Dn]
 | .int _,v,_=>by rw[Dn]
 | .str _,v,_=>by rw[Dn]
 | .tup ds,v,e=>by
  rw[imm] at e
  rw[Dn]
  constructor
  ·rintro⟨vs,rfl,q⟩;rw[(imms_eq ds vs e).mp q]
  ·rintro rfl;exact⟨ds,rfl,(imms_eq ds ds e).mpr rfl⟩
 | .rl _,v,e=>by rw[imm] at e;cases e
 | .dc _ _,v,e=>by rw[imm] at e;cases e
 | .ob _ _ _,v,e=>by rw[imm] at e;cases e
 | .ref _,v,e=>by rw[imm] at e;cases e
theorem imms_eq:∀(ds vs:List Val),imms ds=true->(Dns A h ds vs↔vs=ds)
 | [],vs,_=>by rw[Dns]
 | d::ds,vs,e=>by
  rw[imms,Bool.and_eq_true] at e
  rw[Dns]
  constructor
  ·rintro⟨v,r,rfl,q1,q2⟩;rw[(imm_eq d v e.1).mp q1,(imms_eq ds r e.2).mp q2]
  ·rintro rfl;exact⟨d,ds,rfl,(imm_eq d d e.1).mpr rfl,(imms_eq ds ds e.2).mpr rfl⟩
end
theorem Dns.nil:Dns A h [] []:=by rw[Dns]
theorem Dns.cons{d v:Val}{ds vs:List Val}(a:Dn A h d v)(b:Dns A h ds vs):Dns A h (d::ds) (v::vs):=by rw[Dns];exact⟨v,vs,rfl,a,b⟩
theorem Dns.length:∀{ds vs:List Val},Dns A h ds vs->ds.length=vs.length
 | [],vs,e=>by rw[Dns] at e;subst e;rfl
 | d::ds,vs,e=>by rw[Dns] at e;obtain⟨v,r,rfl,_,q⟩:=e;simp[Dns.length q]
theorem Dns.get:∀{ds vs:List Val} {i:Nat} {d:Val},Dns A h ds vs->ds[i]?=some d->∃v,vs[i]?=some v/\Dn A h d v
 | [],vs,i,d,e,q=>by simp at q
 | c::ds,vs,0,d,e,q=>by
  rw[Dns] at e;obtain⟨v,r,rfl,a,_⟩:=e
  simp at q;subst q;exact⟨v,rfl,a⟩
 | c::ds,vs,i+1,d,e,q=>by
  rw[Dns] at e;obtain⟨v,r,rfl,_,b⟩:=e
  simp at q
  obtain⟨w,q1,q2⟩:=Dns.get b q
  exact⟨w,by simpa using q1,q2⟩
theorem Dns.append:∀{ds es vs ws:List Val},Dns A h ds vs->Dns A h es ws->Dns A h (ds++es) (vs++ws)
 | [],es,vs,ws,e,q=>by rw[Dns] at e;subst e;exact q
 | d::ds,es,vs,ws,e,q=>by
  rw[Dns] at e;obtain⟨v,r,rfl,a,b⟩:=e
  exact Dns.cons a (Dns.append b q)
theorem Dns.take:∀{ds vs:List Val} (n:Nat),Dns A h ds vs->Dns A h (ds.take n) (vs.take n)
 | _,_,0,_=>by simp;exact Dns.nil
 | [],vs,n+1,e=>by rw[Dns] at e;subst e;simp;exact Dns.nil
 | d::ds,vs,n+1,e=>by
  rw[Dns] at e;obtain⟨v,r,rfl,a,b⟩:=e
  exact Dns.cons a (Dns.take n b)
theorem Dns.drop:∀{ds vs:List Val} (n:Nat),Dns A h ds vs->Dns A h (ds.drop n) (vs.drop n)
 | _,_,0,e=>by simpa using e
 | [],vs,n+1,e=>by rw[Dns] at e;subst e;simp;exact Dns.nil
 | d::ds,vs,n+1,e=>by
  rw[Dns] at e;obtain⟨v,r,rfl,a,b⟩:=e
  exact Dns.drop n b
theorem Dns.cut{ds vs:List Val}(lo hi:Option Int)(e:Dns A h ds vs):Dns A h (cutL ds lo hi) (cutL vs lo hi):=by
 unfold cutL
 rw[e.length]
 exact Dns.take _ (Dns.drop _ e)
theorem Dns.app:∀{ds es vs ws:List Val},Dns A h ds vs->Dns A h es ws->Dns A h (ds++es) (vs++ws)
 | [],_,vs,_,e,q=>by rw[Dns] at e;subst e;exact q
 | d::ds,_,vs,_,e,q=>by
  rw[Dns] at e
  obtain⟨v,r,rfl,a,b⟩:=e
  rw[List.cons_append,List.cons_append,Dns]
  exact⟨v,_,rfl,a,Dns.app b q⟩
theorem Dns.rev:∀{ds vs:List Val},Dns A h ds vs->Dns A h ds.reverse vs.reverse
 | [],vs,e=>by rw[Dns] at e;subst e;exact Dns.nil
 | d::ds,vs,e=>by
  rw[Dns] at e
  obtain⟨v,r,rfl,a,b⟩:=e
  rw[List.reverse_cons,List.reverse_cons]
  refine Dns.app (Dns.rev b) ?_
  rw[Dns]
  exact⟨v,[],rfl,a,by rw[Dns]⟩
theorem Dns.set:∀{ds vs:List Val} (n:Nat) {d v:Val},Dns A h ds vs->Dn A h d v->Dns A h (ds.set n d) (vs.set n v)
 | [],vs,n,d,v,e,q=>by rw[Dns] at e;subst e;simp;exact Dns.nil
 | c::ds,vs,0,d,v,e,q=>by
  rw[Dns] at e;obtain⟨w,r,rfl,a,b⟩:=e
  exact Dns.cons q b
 | c::ds,vs,n+1,d,v,e,q=>by
  rw[Dns] at e;obtain⟨w,r,rfl,a,b⟩:=e
  exact Dns.cons a (Dns.set n b q)
theorem Dns.atI{ds vs:List Val}{i:Int}{d:Val}(e:Dns A h ds vs)(q:L2.atI ds i=some d):∃v,L2.atI vs i=some v/\Dn A h d v:=by
 unfold L2.atI at q |-
 rw[e.length] at q
 cases hi:L2.ixN vs.length i with
 | none=>rw[hi] at q;cases q
 | some n=>rw[hi] at q;exact Dns.get e q
theorem Dns.one{d:Val}{vs:List Val}(e:Dns A h [d] vs):∃v,vs=[v]/\Dn A h d v:=by
 rw[Dns] at e;obtain⟨v,r,rfl,a,b⟩:=e
 rw[Dns] at b;subst b;exact⟨v,rfl,a⟩
noncomputable def OD(A:AP)(h:Hs)(d:Val)(a:Nat):Prop:=match d with
 | .rl ds=>∃vs,h[a]?=some (.lst vs)/\Dns A h ds vs
 | .dc ks ds=>∃kvs,h[a]?=some (.dct kvs)/\kvs.map (·.1)=ks/\Dns A h ds (kvs.map (·.2))
 | _=>False
theorem OD.mono{d:Val}{a:Nat}(e:OD A h d a)(ho:∀o,h[a]?=some o->h'[a]?=some o)(hq:∀ds vs,Dns A h ds vs->Dns A' h' ds vs):OD A' h' d a:=by
 cases d with
 | rl ds=>obtain⟨vs,g,q⟩:=e;exact⟨vs,ho _ g,hq _ _ q⟩
 | dc ks ds=>obtain⟨kvs,g,k,q⟩:=e;exact⟨kvs,ho _ g,k,hq _ _ q⟩
 | _=>exact False.elim e
theorem OD.ext{d:Val}{a:Nat}(p:h<+:h')(e:OD A h d a):OD A h' d a:=e.mono (fun _ g=>pre_ob p g) fun _ _ q=>q.ext p
theorem OD.lt{d:Val}{a:Nat}(e:OD A h d a):a<h.length:=by
 cases d with
 | rl ds=>obtain⟨vs,g,q⟩:=e;exact(List.getElem?_eq_some_iff.mp g).1
 | dc ks ds=>obtain⟨kvs,g,k,q⟩:=e;exact(List.getElem?_eq_some_iff.mp g).1
 | _=>exact False.elim e
theorem OD.dn{d:Val}{a:Nat}(e:OD A h d a)(ha:A (.some a)):Dn A h d (.ref a):=by
 cases d with
 | rl ds=>obtain⟨vs,g,q⟩:=e;rw[Dn];exact .inr ⟨a,vs,rfl,ha,g,q⟩
 | dc ks ds=>obtain⟨kvs,g,k,q⟩:=e;rw[Dn];exact⟨a,kvs,rfl,ha,g,k,q⟩
 | _=>exact False.elim e
noncomputable def OB(A:AP)(h:Hs)(d:Val)(o:Ob):Prop:=match d with
 | .rl ds=>∃vs,o=.lst vs/\Dns A h ds vs
 | .dc ks ds=>∃kvs,o=.dct kvs/\kvs.map (·.1)=ks/\Dns A h ds (kvs.map (·.2))
 | _=>False
theorem OB.od{d:Val}{a:Nat}{o:Ob}(e:OB A h d o)(g:h'[a]?=.some o)(hq:∀ds vs,Dns A h ds vs->Dns A' h' ds vs):OD A' h' d a:=by
 cases d with
 | rl ds=>obtain⟨vs,rfl,q⟩:=e;exact⟨vs,g,hq _ _ q⟩
 | dc ks ds=>obtain⟨kvs,rfl,k,q⟩:=e;exact⟨kvs,g,k,hq _ _ q⟩
 | _=>exact False.elim e
noncomputable def DB(A:AP)(h:Hs)(d v:Val):Prop:=Dn A h d v\/∃i,v=.ref i/\OD A h d i
theorem DB.all{d v:Val}(e:DB A h d v):Dn (fun _=>True) h d v:=by
 rcases e with e|⟨i,rfl,q⟩
 ·exact e.wid fun _ _=>trivial
 ·exact(q.mono (A':=fun _=>True) (fun _ g=>g) fun _ _ z=>z.wid fun _ _=>trivial).dn trivial
theorem DB.ext{d v:Val}(p:h<+:h')(e:DB A h d v):DB A h' d v:=by
 rcases e with e|⟨i,rfl,q⟩
 ·exact .inl (e.ext p)
 ·exact .inr ⟨i,rfl,q.ext p⟩
theorem DB.dc{ks:List Key}{ds:List Val}{v:Val}(e:DB A h (.dc ks ds) v):∃i kvs,v=.ref i/\h[i]?=some (.dct kvs)/\kvs.map (·.1)=ks/\Dns A h ds (kvs.map (·.2)):=by
 rcases e with e|⟨i,rfl,kvs,g,k,q⟩
 ·rw[Dn] at e;obtain⟨i,kvs,rfl,_,g,k,q⟩:=e;exact⟨i,kvs,rfl,g,k,q⟩
 ·exact⟨i,kvs,rfl,g,k,q⟩
theorem DB.lst{ds:List Val}{v:Val}(e:DB A h (.rl ds) v):∃vs,lstOf h v=some vs/\Dns A h ds vs:=by
 rcases e with e|⟨i,rfl,vs,g,q⟩
 ·rw[Dn] at e
  rcases e with ⟨vs,rfl,_,q⟩|⟨i,vs,rfl,_,g,q⟩
  ·exact⟨vs,rfl,q⟩
  ·exact⟨vs,by simp[lstOf,g],q⟩
 ·exact⟨vs,by simp[lstOf,g],q⟩
theorem DB.seq{d v:Val}{ds:List Val}(e:DB A h d v)(q:seqOf [] d=some ds):∃vs,seqOf h v=some vs/\Dns A h ds vs:=by
 cases d with
 | tup es =>
  simp only[seqOf] at q;cases q
  rcases e with e|⟨_,_,e1⟩
  ·rw[Dn] at e;obtain⟨vs,rfl,q⟩:=e;exact⟨vs,rfl,q⟩
  ·exact False.elim e1
 | rl es =>
  simp only[seqOf,lstOf] at q;cases q
  obtain⟨vs,q1,q2⟩:=e.lst
  refine⟨vs,?_,q2⟩
  cases v<;>first|(simp[lstOf] at q1;done)|exact q1
 | ref i=>simp[seqOf,lstOf] at q
 | _=>simp[seqOf,lstOf] at q
theorem DB.int{v:Val}{i:Int}(e:DB A h (.int i) v):v=.int i:=by
 rcases e with e|⟨_,_,e1⟩
 ·rw[Dn] at e;exact e
 ·exact False.elim e1
theorem DB.str{v:Val}{i:Str}(e:DB A h (.str i) v):v=.str i:=by
 rcases e with e|⟨_,_,e1⟩
 ·rw[Dn] at e;exact e
 ·exact False.elim e1
theorem DB.bl{v:Val}{i:Bool}(e:DB A h (.bl i) v):v=.bl i:=by
 rcases e with e|⟨_,_,e1⟩
 ·rw[Dn] at e;exact e
 ·exact False.elim e1
theorem DB.tup{v:Val}{ds:List Val}(e:DB A h (.tup ds) v):∃vs,v=.tup vs/\Dns A h ds vs:=by
 rcases e with e|⟨_,_,e1⟩
 ·rw[Dn] at e;exact e
 ·exact False.elim e1
theorem toD_dn:∀(n:Nat) (d v:Val) (p:PyData),Dn (fun _=>True) h d v->toD n [] d=some p->toD n h v=some p:=by
 intro n
 induction n with
 | zero=>intro d v p _ e;simp[toD] at e
 | succ n ih =>
  have all:∀(ds vs:List Val) (ps:List PyData),Dns (fun _=>True) h ds vs->mapO (toD n []) ds=some ps->mapO (toD n h) vs=some ps:=by
   intro ds
   induction ds with
   | nil=>intro vs ps q e;rw[Dns] at q;subst q;exact e
   | cons d ds ihd =>
    intro vs ps q e
    rw[Dns] at q
    obtain⟨v,r,rfl,q1,q2⟩:=q
    simp only[mapO] at e |-
    obtain⟨x,e1,e⟩:=Option.bind_eq_some_iff.mp e
    obtain⟨xs,e2,e⟩:=Option.bind_eq_some_iff.mp e
    rw[ih d v x q1 e1,ihd r xs q2 e2]
    exact e
  intro d v p q e
  cases d with
  | non=>rw[Dn] at q;subst q;exact e
  | bl b=>rw[Dn] at q;subst q;exact e
  | int b=>rw[Dn] at q;subst q;exact e
  | str b=>rw[Dn] at q;subst q;exact e
  | tup ds =>
   rw[Dn] at q
   obtain⟨vs,rfl,q⟩:=q
   simp only[toD] at e |-
   obtain⟨ps,e1,e⟩:=Option.bind_eq_some_iff.mp e
   rw[all ds vs ps q e1];exact e
  | rl ds =>
   rw[Dn] at q
   simp only[toD] at e
   obtain⟨ps,e1,e⟩:=Option.bind_eq_some_iff.mp e
   rcases q with ⟨vs,rfl,_,q⟩|⟨i,vs,rfl,_,g,q⟩
   ·simp only[toD];rw[all ds vs ps q e1];exact e
   ·simp only[toD,lstOf,g,Option.bind_some];rw[all ds vs ps q e1];exact e
  | dc ks ds=>simp[toD] at e
  | ob c xs ds=>simp[toD] at e
  | ref i=>rw[Dn] at q;exact q.elim
theorem eq_dn{d e v w:Val}{b:Bool}(a:DB A h d v)(c:DB A h e w)(q:eqH [] d e=some b):eqH h v w=some b:=by
 unfold eqH at q |-
 obtain⟨x,e1,q⟩:=Option.bind_eq_some_iff.mp q
 obtain⟨y,e2,q⟩:=Option.bind_eq_some_iff.mp q
 rw[toD_dn 16 d v x a.all e1,toD_dn 16 e w y c.all e2]
 exact q
theorem isNon_dn{d v:Val}(a:DB A h d v):isNon v=isNon d:=by
 rcases a with a|⟨i,rfl,q⟩
 ·cases d<;>rw[Dn] at a
  ·subst a;rfl
  ·subst a;rfl
  ·subst a;rfl
  ·subst a;rfl
  ·obtain⟨vs,rfl,_⟩:=a;rfl
  ·rcases a with ⟨vs,rfl,_⟩|⟨i,vs,rfl,_⟩<;>rfl
  ·obtain⟨i,kvs,rfl,_⟩:=a;rfl
  ·obtain⟨i,kvs,rfl,_⟩:=a;rfl
  ·exact a.elim
 ·cases d<;>first|exact False.elim q|rfl
theorem mem_dn{d e v w:Val}{b:Bool}(a:DB A h d v)(c:DB A h e w)(q:memH [] d e=some b):memH h v w=some b:=by
 have data:memD [] d e=some b->memD h v w=some b:=fun q=>by
  unfold memD at q |-
  obtain⟨x,e1,q⟩:=Option.bind_eq_some_iff.mp q
  obtain⟨y,e2,q⟩:=Option.bind_eq_some_iff.mp q
  rw[toD_dn 16 e w x c.all e1,toD_dn 16 d v y a.all e2]
  exact q
 cases e with
 | str y =>
  have:=c.str;subst this
  cases d with
  | str x=>have:=a.str;subst this;exact q
  | _ =>
   have q':=data q
   unfold memD at q'
   obtain⟨x,e1,q'⟩:=Option.bind_eq_some_iff.mp q'
   obtain⟨z,e2,q'⟩:=Option.bind_eq_some_iff.mp q'
   simp only[toD] at e1
   split at e1<;>cases e1
   simp[anyD] at q'
 | tup es =>
  obtain⟨ws,rfl,_⟩:=c.tup
  have q':=data (by cases d<;>exact q)
  cases v<;>exact q'
 | rl es =>
  have q':=data (by cases d<;>exact q)
  rcases c with c|⟨i,rfl,vs,g,q2⟩
  ·rw[Dn] at c
   rcases c with ⟨ws,rfl,_⟩|⟨i,ws,rfl,_,g,_⟩
   ·cases v<;>exact q'
   ·cases v<;>(show (h[i]?).bind _=_;rw[g];exact q')
  ·cases v<;>(show (h[i]?).bind _=_;rw[g];exact q')
 | dc ks es =>
  obtain⟨i,kvs,rfl,g,hk,_⟩:=c.dc
  ·skip
   have q':(keyOf d).bind (fun k=>some (ks.any fun j=>decide (j=k)))=some b:=by cases d<;>exact q
   obtain⟨kk,e1,q'⟩:=Option.bind_eq_some_iff.mp q'
   have ev:keyOf v=some kk:=by
    cases d<;>simp only[keyOf] at e1<;>first|(cases e1;done)|skip
    ·have:=a.int;subst this;exact e1
    ·have:=a.str;subst this;exact e1
   have:(valK kvs kk).isSome=(ks.any fun j=>decide (j=kk)):=by
    subst hk
    unfold valK
    rw[Option.isSome_map,List.any_map]
    have key:∀l:List (Key×Val),(List.find? (fun kv=>decide (kv.fst=kk)) l).isSome=l.any ((fun j=>decide (j=kk))∘fun x=>x.fst):=by
     intro l
     induction l with
     | nil=>rfl
     | cons x l ih =>
      rw[List.find?_cons,List.any_cons]
      by_cases hx:x.1=kk
      ·simp[hx]
      ·simp[hx];simpa using ih
    exact key kvs
   have fin:memK h v i (.dct kvs)=some b:=by simp only[memK,ev,Option.bind_some,this];exact q'
   cases v<;>(show (h[i]?).bind _=_;rw[g];exact fin)
 | ref i =>
  rcases c with c|⟨_,_,e1⟩
  ·rw[Dn] at c;exact c.elim
  ·exact False.elim e1
 | ob cc xs es =>
  have q':memD [] d (.ob cc xs es)=some b:=by cases d<;>exact q
  unfold memD at q'
  obtain⟨x,e1,q'⟩:=Option.bind_eq_some_iff.mp q'
  simp[toD] at e1
 | non =>
  have q':=data (by cases d<;>exact q)
  have:w=.non:=by
   rcases c with c|⟨_,_,e1⟩
   ·rw[Dn] at c;exact c
   ·exact False.elim e1
  subst this
  cases v<;>exact q'
 | bl x =>
  have q':=data (by cases d<;>exact q)
  have:w=.bl x:=by
   rcases c with c|⟨_,_,e1⟩
   ·rw[Dn] at c;exact c
   ·exact False.elim e1
  subst this
  cases v<;>exact q'
 | int x =>
  have q':=data (by cases d<;>exact q)
  have:w=.int x:=by
   rcases c with c|⟨_,_,e1⟩
   ·rw[Dn] at c;exact c
   ·exact False.elim e1
  subst this
  cases v<;>exact q'
theorem isV_dn{d e v w:Val}{b:Bool}(a:DB A h d v)(c:DB A h e w)(q:isV d e=some b):isV v w=some b:=by
 cases e<;>first|(cases q;done)|skip
 ·have:w=.non:=by
   rcases c with c|⟨_,_,e1⟩
   ·rw[Dn] at c;exact c
   ·exact False.elim e1
  subst this
  show some (isNon v)=_
  rw[isNon_dn a];exact q
 ·have:=c.bl;subst this
  cases d<;>first|(cases q;done)|skip
  have:=a.bl;subst this
  exact q
theorem cop_dn{o:Cop}{d e v w:Val}{b:Bool}(a:DB A h d v)(c:DB A h e w)(q:cop [] o d e=some b):cop h o v w=some b:=by
 cases o with
 | eq=>exact eq_dn a c q
 | ne =>
  obtain⟨x,e1,e2⟩:=Option.map_eq_some_iff.mp (show (eqH [] d e).map _=some b from q)
  show (eqH h v w).map _=_
  rw[eq_dn a c e1];exact congrArg some e2
 | isn=>exact isV_dn a c q
 | ntn =>
  obtain⟨x,e1,e2⟩:=Option.map_eq_some_iff.mp (show (isV d e).map _=some b from q)
  show (isV v w).map _=_
  rw[isV_dn a c e1];exact congrArg some e2
 | inn=>exact mem_dn a c q
 | nin =>
  obtain⟨x,e1,e2⟩:=Option.map_eq_some_iff.mp (show (memH [] d e).map _=some b from q)
  show (memH h v w).map _=_
  rw[mem_dn a c e1];exact congrArg some e2
 | lt =>
  obtain⟨i,j,rfl,rfl⟩:=cop_ii (.inl rfl) q
  have:=a.int;subst this
  have:=c.int;subst this
  exact q
 | le =>
  obtain⟨i,j,rfl,rfl⟩:=cop_ii (.inr (.inl rfl)) q
  have:=a.int;subst this
  have:=c.int;subst this
  exact q
 | gt =>
  obtain⟨i,j,rfl,rfl⟩:=cop_ii (.inr (.inr (.inl rfl))) q
  have:=a.int;subst this
  have:=c.int;subst this
  exact q
 | ge =>
  obtain⟨i,j,rfl,rfl⟩:=cop_ii (.inr (.inr (.inr rfl))) q
  have:=a.int;subst this
  have:=c.int;subst this
  exact q
theorem tru_dn{d v:Val}{b:Bool}(a:DB A h d v)(q:truH [] d=some b):truH h v=some b:=by
 cases d with
 | rl ds =>
  obtain⟨vs,q1,q2⟩:=a.lst
  have l:=q2.length
  have e:(!ds.isEmpty) = !vs.isEmpty:=by cases ds<;>cases vs<;>simp_all
  simp only[truH] at q
  rw[e] at q
  cases v<;>simp only[lstOf] at q1<;>first|(cases q1;done)|skip
  ·cases q1;exact q
  ·split at q1<;>cases q1
   rename_i g
   simp only[truH,g];exact q
 | tup ds =>
  obtain⟨vs,rfl,q2⟩:=a.tup
  have l:=q2.length
  have e:(!ds.isEmpty) = !vs.isEmpty:=by cases ds<;>cases vs<;>simp_all
  simp only[truH] at q |-
  rw[<-e];exact q
 | dc ks ds =>
  obtain⟨i,kvs,rfl,g,hk,_⟩:=a.dc
  subst hk
  simp only[truH,g] at q |-
  rw[<-q];cases kvs<;>rfl
 | ob c xs ds=>cases q
 | ref i =>
  rcases a with a|⟨_,_,e1⟩
  ·rw[Dn] at a;exact a.elim
  ·exact False.elim e1
 | non =>
  rcases a with a|⟨_,_,e1⟩
  ·rw[Dn] at a;subst a;exact q
  ·exact False.elim e1
 | bl b=>have:=a.bl;subst this;exact q
 | int b=>have:=a.int;subst this;exact q
 | str b=>have:=a.str;subst this;exact q
theorem len_dn{d v:Val}{n:Nat}(a:DB A h d v)(q:lenH [] d=some n):lenH h v=some n:=by
 cases d with
 | rl ds =>
  obtain⟨vs,q1,q2⟩:=a.lst
  have l:=q2.length
  simp only[lenH] at q
  rw[l] at q
  cases v<;>simp only[lstOf] at q1<;>first|(cases q1;done)|skip
  ·cases q1;exact q
  ·split at q1<;>cases q1
   rename_i g
   simp only[lenH,g];exact q
 | tup ds =>
  obtain⟨vs,rfl,q2⟩:=a.tup
  simp only[lenH] at q |-
  rw[<-q2.length];exact q
 | dc ks ds =>
  obtain⟨i,kvs,rfl,g,hk,_⟩:=a.dc
  subst hk
  simp only[lenH,g] at q |-
  rw[<-q];simp
 | str b=>have:=a.str;subst this;exact q
 | _=>simp[lenH] at q
theorem ty_dn{d v:Val}{t:String}(a:DB A h d v)(q:tyN [] d=some t):tyN h v=some t:=by
 cases d with
 | rl ds =>
  obtain⟨vs,q1,q2⟩:=a.lst
  cases v<;>simp only[lstOf] at q1<;>first|(cases q1;done)|skip
  ·exact q
  ·split at q1<;>cases q1
   rename_i g
   simp only[tyN,g];exact q
 | tup ds=>obtain⟨vs,rfl,q2⟩:=a.tup;exact q
 | dc ks ds =>
  obtain⟨i,kvs,rfl,g,hk,_⟩:=a.dc
  simp only[tyN,g] at q |-;exact q
 | ob c xs ds=>cases q
 | ref i =>
  rcases a with a|⟨_,_,e1⟩
  ·rw[Dn] at a;exact a.elim
  ·exact False.elim e1
 | non =>
  rcases a with a|⟨_,_,e1⟩
  ·rw[Dn] at a;subst a;exact q
  ·exact False.elim e1
 | bl b=>have:=a.bl;subst this;exact q
 | int b=>have:=a.int;subst this;exact q
 | str b=>have:=a.str;subst this;exact q
theorem valK_dn{k:Key}:∀{kvs:List (Key×Val)} {ks:List Key} {ds:List Val} {z:Val},kvs.map (·.1)=ks->Dns A h ds (kvs.map (·.2))->valK (ks.zip ds) k=some z->∃v,valK kvs k=some v/\Dn A h z v
 | [],ks,ds,z,hk,q,e=>by subst hk;simp[valK] at e
 | (k',v')::kvs,ks,ds,z,hk,q,e=>by
  subst hk
  have l:=q.length
  cases ds with
  | nil=>simp at l
  | cons d ds =>
   simp only[List.map_cons] at q
   rw[Dns] at q
   obtain⟨v,r,e1,q1,q2⟩:=q
   cases e1
   by_cases hkk:k'=k
   ·subst hkk
    simp[valK] at e |-
    subst e;exact q1
   ·have e':valK ((kvs.map (·.1)).zip ds) k=some z:=by simpa [valK,hkk] using e
    obtain⟨w,a1,a2⟩:=valK_dn rfl q2 e'
    exact⟨w,by simpa [valK,hkk] using a1,a2⟩
theorem DB.noref{j:Nat}{v:Val}(c:DB A h (.ref j) v):False:=by
 rcases c with c|⟨_,_,e1⟩
 ·rw[Dn] at c;exact c
 ·exact e1
theorem valK_no{k:Key}:∀{kvs:List (Key×Val)} {ds:List Val},Dns A h ds (kvs.map (·.2))->valK ((kvs.map (·.1)).zip ds) k=none->valK kvs k=none
 | [],ds,q,e=>rfl
 | (k',v')::kvs,ds,q,e=>by
  cases ds with
  | nil=>rw[Dns] at q;cases q
  | cons d ds =>
   rw[List.map_cons,Dns] at q
   obtain⟨v,r,eq,q1,q2⟩:=q
   cases eq
   unfold valK at e |-
   rw[List.map_cons,List.zip_cons_cons,List.find?_cons] at e
   rw[List.find?_cons]
   by_cases hk:k'=k
   ·simp[hk] at e
   ·simp only[hk,decide_false] at e |-
    exact valK_no q2 e
theorem key_dn{d v:Val}{kk:Key}(a:Dn A h d v)(e:keyOf d=some kk):keyOf v=some kk:=by
 cases d<;>first|(cases e;done)|skip
 ·rw[Dn] at a;subst a;exact e
 ·rw[Dn] at a;subst a;exact e
theorem get_dn{o v:Val}{k:Key}{r:Option Val}(a:DB A h o v)(e:getH [] o k=some r):∃r',getH h v k=some r'/\∀z z',Dn A h z z'->Dn A h (r.getD z) (r'.getD z'):=by
 cases o<;>first|(cases e;done)|(exact(DB.noref a).elim)|skip
 rename_i ks ds
 obtain⟨i,kvs,rfl,g,hk,q⟩:=a.dc
 cases e
 have eg:getH h (.ref i) k=some (valK kvs k):=by
  show (match h[i]? with|some (.dct kvs)=>some (valK kvs k)|_=>none)=_
  rw[g]
 refine⟨_,eg,fun z z' hz=>?_⟩
 cases ev:valK (ks.zip ds) k with
 | none =>
  subst hk
  rw[valK_no q ev];exact hz
 | some d =>
  obtain⟨u,e1,e2⟩:=valK_dn hk q ev
  rw[e1];exact e2
theorem keysH_dn{o v:Val}{ks:List Key}(a:DB A h o v)(e:keysH [] o=some ks):keysH h v=some ks:=by
 cases o<;>first|(cases e;done)|(exact(DB.noref a).elim)|skip
 obtain⟨i,kvs,rfl,g,hk,q⟩:=a.dc
 cases e
 show (match h[i]? with|some (.dct kvs)=>some (kvs.map (fun kv:Key×Val=>kv.1))|_=>none)=_
 rw[g];exact congrArg some hk
theorem keyV_imm:∀ks:List Key,imms (ks.map keyV)=true
 | []=>rfl
 | .inl _::ks=>by rw[List.map_cons,imms,keyV_imm ks];rfl
 | .inr _::ks=>by rw[List.map_cons,imms,keyV_imm ks];rfl
theorem isDc_dn{o v:Val}{u:Unit}(a:DB A h o v)(e:isDc [] o=some u):isDc h v=some u:=by
 cases o<;>first|(cases e;done)|(exact(DB.noref a).elim)|skip
 obtain⟨i,kvs,rfl,g,hk,q⟩:=a.dc
 show (match h[i]? with|some (.dct _)=>some ()|_=>none)=_
 rw[g]
theorem idx_dn{d e v w z:Val}(a:DB A h d v)(c:Dn A h e w)(q:idxH [] d e=some z):∃u,idxH h v w=some u/\Dn A h z u:=by
 cases e with
 | int i =>
  rw[Dn] at c;subst c
  cases d with
  | str x =>
   have:=a.str;subst this
   refine⟨z,q,?_⟩
   change (if x.length<=sizeLine then (atI x.cps.toList i).map (fun c=>Val.str ⟨#[c]⟩) else none)=some z at q
   split at q
   ·obtain⟨c,_,rfl⟩:=Option.map_eq_some_iff.mp q;rw[Dn]
   ·cases q
  | tup ds =>
   obtain⟨vs,rfl,q2⟩:=a.tup
   exact q2.atI q
  | rl ds =>
   obtain⟨vs,q1,q2⟩:=a.lst
   obtain⟨u,q3,q4⟩:=q2.atI q
   refine⟨u,?_,q4⟩
   cases v<;>simp only[lstOf] at q1<;>first|(cases q1;done)|skip
   ·cases q1;exact q3
   ·split at q1<;>cases q1
    rename_i g
    unfold idxH;simp only[lstOf,g,Option.bind_some];exact q3
  | dc ks ds =>
   obtain⟨i',kvs,rfl,g,hk,q2⟩:=a.dc
   obtain⟨u,q3,q4⟩:=valK_dn hk q2 q
   refine⟨u,?_,q4⟩
   show (match h[i']? with|some (.dct kvs)=>valK kvs (.inl i)|_=>(lstOf h (.ref i')).bind fun xs=>atI xs i)=_
   rw[g];exact q3
  | ref j=>exact(DB.noref a).elim
  | _=>cases q
 | str x =>
  rw[Dn] at c;subst c
  cases d with
  | dc ks ds =>
   obtain⟨i',kvs,rfl,g,hk,q2⟩:=a.dc
   obtain⟨u,q3,q4⟩:=valK_dn hk q2 q
   refine⟨u,?_,q4⟩
   show (match h[i']? with|some (.dct kvs)=>valK kvs (.inr x)|_=>none)=_
   rw[g];exact q3
  | ref j=>exact(DB.noref a).elim
  | _=>cases q
 | _=>cases d<;>first|(cases q;done)|exact(DB.noref a).elim
theorem look_dn{x:Str}:∀{fs:List (Str×Val)} {ds:List Val},Dns A h ds (fs.map (·.2))->(((fs.map (·.1)).zip ds).lookup x=none->fs.lookup x=none)/\∀z,((fs.map (·.1)).zip ds).lookup x=some z->∃u,fs.lookup x=some u/\Dn A h z u
 | [],ds,q=>⟨fun _=>rfl,fun z e=>by simp at e⟩
 | (k,v)::fs,ds,q=>by
  cases ds with
  | nil=>rw[Dns] at q;cases q
  | cons d ds =>
   rw[List.map_cons,Dns] at q
   obtain⟨w,r,eq,q1,q2⟩:=q
   cases eq
   rw[List.map_cons,List.zip_cons_cons,List.lookup_cons,List.lookup_cons]
   cases hb:x==k with
   | true=>exact⟨fun z=>(by cases z),fun z e=>(by cases e;exact⟨v,rfl,q1⟩)⟩
   | false=>exact look_dn q2
theorem DB.ob{c:Nat}{xs:List Str}{ds:List Val}{v:Val}(e:DB A h (.ob c xs ds) v):∃i fs,v=.ref i/\h[i]?=some (.ins c fs)/\fs.map (·.1)=xs/\Dns A h ds (fs.map (·.2)):=by
 rcases e with e|⟨_,_,e1⟩
 ·rw[Dn] at e;obtain⟨i,fs,rfl,_,g,k,q⟩:=e;exact⟨i,fs,rfl,g,k,q⟩
 ·exact False.elim e1
theorem fld_dn{n:Nat}{o v z:Val}{x:Str}(a:DB A h o v)(e:fldH n [] o x=some z):∃u,fldH n h v x=some u/\Dn A h z u:=by
 cases o<;>first|(cases e;done)|(exact(DB.noref a).elim)|skip
 obtain⟨i,fs,rfl,g,hk,q⟩:=a.ob
 subst hk
 unfold fldH at e;dsimp only at e
 split at e
 ·rename_i hc
  obtain⟨u,e1,e2⟩:=(look_dn q).2 z e
  refine⟨u,?_,e2⟩
  unfold fldH;dsimp only;rw[g];dsimp only;rw[if_pos hc];exact e1
 ·cases e
theorem mth_dn{o v:Val}{m:Str}{js:List (Nat×Nat)}{j:Nat}(a:DB A h o v)(e:mthH [] o m js=some j):mthH h v m js=some j:=by
 cases o<;>first|(cases e;done)|(exact(DB.noref a).elim)|skip
 obtain⟨i,fs,rfl,g,hk,q⟩:=a.ob
 subst hk
 unfold mthH at e;dsimp only at e
 split at e
 ·rename_i hc
  have e1:=(look_dn q).1 (by simpa using hc)
  unfold mthH;dsimp only;rw[g];dsimp only;rw[if_pos (by rw[e1];rfl)];exact e
 ·cases e
end
end Hv
end
section
namespace Hv
open PySem L2
noncomputable def Up(A:AP)(h:Hs):Prop:=∀k,h.length<=k->A (some k)
noncomputable def Rel(A:AP)(h:Hs){α β:Type}(R:α -> Hs -> β -> Prop)(o:Out β):Pr α -> Prop
 | .ok a=>∃b h',o=.ok b h'/\h<+:h'/\R a h' b
 | .exc c es=>∃ws h',o=.exc c ws h'/\h<+:h'/\Dns A h' es ws
 | .no=>True
noncomputable def RV(A:AP)(h:Hs):FV->Hs->Val->Prop:=fun x h' v=>Dn A h' x.2 v/\(x.1=true->Dn (Fr h.length) h' x.2 v)
noncomputable def RVs(A:AP)(h:Hs):Bool×List Val->Hs->List Val->Prop:=fun x h' v=>Dns A h' x.2 v/\(x.1=true->Dns (Fr h.length) h' x.2 v)
noncomputable def RBr(A:AP):FV->Hs->Val->Prop:=fun x h' v=>DB A h' x.2 v
noncomputable def DBs(A:AP)(h:Hs):List Val->List Val->Prop
 | [],vs=>vs=[]
 | d::ds,vs=>∃v r,vs=v::r/\DB A h d v/\DBs A h ds r
noncomputable def ER(A:AP)(venv:VEnv)(env:Env)(h:Hs):Prop:=∀(i:Nat) (f:Mk) (d:Val),venv[i]?=some (some (f,d)) ->
 if rdM f=false then ∃a,env[i]?=some (some (.ref a))/\OD A h d a else ∃v,env[i]?=some (some v)/\Dn A h d v
section
variable {A:AP} {h h1:Hs} {α β γ δ:Type}
theorem Up.ext(u:Up A h)(p:h<+:h1):Up A h1:=fun k hk=>u k (Nat.le_trans p.length_le hk)
theorem ER.ext{venv:VEnv}{env:Env}(e:ER A venv env h)(p:h<+:h1):ER A venv env h1:=fun i f d q=>by
 have:=e i f d q
 revert this
 generalize rdM f=t
 intro this
 cases t with
 | false =>
  rw[if_pos rfl] at this |-
  obtain⟨a,k2,k3⟩:=this
  exact⟨a,k2,k3.ext p⟩
 | true =>
  rw[if_neg (by decide)] at this |-
  obtain⟨v,k1,k2⟩:=this
  exact⟨v,k1,k2.ext p⟩
theorem rel_bnd{R:α -> Hs -> β -> Prop}{R':γ -> Hs -> δ -> Prop}{m:M β}{f:β -> M δ}{p:Pr α}{F:α -> Pr γ}(r:Rel A h R (m h) p)(k:∀a h1 b,h<+:h1->R a h1 b->Rel A h1 R' (f b h1) (F a)):Rel A h R' (bnd m f h) (pb p F):=by
 unfold bnd
 cases p with
 | ok a =>
  obtain⟨b,h1,e,q,r⟩:=r
  rw[e]
  show Rel A h R' (f b h1) (F a)
  have:=k a h1 b q r
  cases e2:F a with
  | ok c=>rw[e2] at this;obtain⟨d,h2,e3,q2,r2⟩:=this;exact⟨d,h2,e3,q.trans q2,r2⟩
  | exc c es=>rw[e2] at this;obtain⟨d,h2,e3,q2,r2⟩:=this;exact⟨d,h2,e3,q.trans q2,r2⟩
  | no=>trivial
 | exc c es =>
  obtain⟨ws,h1,e,q,r⟩:=r
  rw[e];exact⟨ws,h1,rfl,q,r⟩
 | no=>trivial
theorem rel_ret{R:α -> Hs -> β -> Prop}{a:α}{b:β}(r:R a h b):Rel A h R (ret b h) (.ok a):=⟨b,h,rfl,List.prefix_refl _,r⟩
theorem rel_lft{R:α -> Hs -> β -> Prop}{o:Option α}{o':Option β}(r:∀a,o=some a->∃b,o'=some b/\R a h b):Rel A h R (lft o' h) (pl o):=by
 cases o with
 | none=>trivial
 | some a=>obtain⟨b,rfl,q⟩:=r a rfl;exact⟨b,h,rfl,List.prefix_refl _,q⟩
theorem rel_ask{R:α -> Hs -> β -> Prop}{o:Option α}{f:Hs->Option β}(r:∀a,o=some a->∃b,f h=some b/\R a h b):Rel A h R (ask f h) (pl o):=rel_lft r
theorem rel_guard{R:α -> Hs -> β -> Prop}{c c':Bool}{m:M β}{p:Pr α}(e:c=true->c'=true)(r:c=true->Rel A h R (m h) p):Rel A h R (guardM c' m h) (pg c p):=by
 unfold guardM pg
 cases c with
 | true=>rw[if_pos (e rfl),if_pos rfl];exact r rfl
 | false=>rw[if_neg Bool.false_ne_true];trivial
theorem rel_mono{R R':α -> Hs -> β -> Prop}{o:Out β}{p:Pr α}(r:Rel A h R o p)(k:∀a h' b,h<+:h'->R a h' b->R' a h' b):Rel A h R' o p:=by
 cases p with
 | ok a=>obtain⟨b,h',e,q,r⟩:=r;exact⟨b,h',e,q,k a h' b q r⟩
 | exc c es=>exact r
 | no=>trivial
theorem pre_snoc(o:Ob):h<+:h++[o]:=List.prefix_append _ _
theorem snoc_get(o:Ob):(h++[o])[h.length]?=some o:=by simp
theorem rel_new{xs vs:List Val}{f:Bool}{h0:Hs}(u:Up A h)(p:h0<+:h)(q:Dns A h xs vs)(g:f=true->Dns (Fr h0.length) h xs vs):Rel A h (RV A h0) (new (.lst vs) h) (.ok (f,.rl xs)):=by
 refine⟨_,_,rfl,pre_snoc _,?_,fun hf=>?_⟩
 ·show Dn A _ (.rl xs) _
  rw[Dn];exact .inr ⟨_,vs,rfl,u _ (Nat.le_refl _),snoc_get _,q.ext (pre_snoc _)⟩
 ·show Dn _ _ (.rl xs) _
  rw[Dn];exact .inr ⟨_,vs,rfl,p.length_le,snoc_get _,(g hf).ext (pre_snoc _)⟩
theorem imm_rv{d v:Val}{h0:Hs}(q:Dn A h d v):RV A h0 (imm d,d) h v:=⟨q,fun hi=>(imm_eq d v hi).mpr ((imm_eq d v hi).mp q)⟩
theorem imms_any{A':AP}{h':Hs}{ds vs:List Val}(q:Dns A h ds vs)(hi:imms ds=true):Dns A' h' ds vs:=(imms_eq ds vs hi).mpr ((imms_eq ds vs hi).mp q)
theorem int_rv{i:Int}{h0:Hs}{f:Bool}:RV A h0 (f,.int i) h (.int i):=⟨by rw[Dn],fun _=>by rw[Dn]⟩
theorem bl_rv{i:Bool}{h0:Hs}{f:Bool}:RV A h0 (f,.bl i) h (.bl i):=⟨by rw[Dn],fun _=>by rw[Dn]⟩
theorem str_rv{i:Str}{h0:Hs}{f:Bool}:RV A h0 (f,.str i) h (.str i):=⟨by rw[Dn],fun _=>by rw[Dn]⟩
theorem RV.br{x:FV}{v:Val}{h0:Hs}(r:RV A h0 x h v):RBr A x h v:=.inl r.1
theorem bopV_ii{o:Bop}(ho:o≠.add)(v w:Val):(∃i j,v=.int i/\w=.int j)\/bopV o v w=.no:=by
 cases v with
 | int i =>
  cases w with
  | int j=>exact .inl ⟨i,j,rfl,rfl⟩
  | _=>right;cases o<;>first|rfl|exact absurd rfl ho
 | _=>right;cases o<;>first|rfl|exact absurd rfl ho
theorem bop_rel{o:Bop}{d e v w:Val}{h0:Hs}(u:Up A h)(p:h0<+:h)(a:DB A h d v)(c:DB A h e w):Rel A h (RV A h0) (bop o v w h) (bopV o d e):=by
 have ii:o≠.add->(∃i j,d=.int i/\e=.int j)\/bopV o d e=.no:=fun ho=>bopV_ii ho d e
 cases o with
 | add =>
  cases d<;>cases e<;>first|trivial|skip
  ·have:=a.int;subst this;have:=c.int;subst this
   exact rel_ret int_rv
  ·have:=a.str;subst this;have:=c.str;subst this
   exact rel_guard (fun z=>z) fun _=>rel_ret str_rv
  ·rename_i xs ys
   obtain⟨vs,rfl,q1⟩:=a.tup
   obtain⟨ws,rfl,q2⟩:=c.tup
   have l1:=q1.length
   have l2:=q2.length
   refine rel_guard (fun z=>?_) fun _=>rel_ret ⟨?_,fun hi=>?_⟩
   ·rw[l1,l2] at z
    have:xs.isEmpty=vs.isEmpty:=by cases xs<;>cases vs<;>simp_all
    rw[<-this];exact z
   ·show Dn A h (.tup _) _;rw[Dn];exact⟨_,rfl,q1.append q2⟩
   ·show Dn _ h (.tup _) _;rw[Dn];exact⟨_,rfl,imms_any (q1.append q2) hi⟩
  ·rename_i xs ys
   obtain⟨vs,e1,q1⟩:=a.lst
   obtain⟨ws,e2,q2⟩:=c.lst
   have eb:bop .add v w=bnd (ask fun h=>lstOf h v) fun a=>bnd (ask fun h=>lstOf h w) fun b=>guardM (decide (a.length+b.length<=sizeLine)) (new (.lst (a++b))):=by
    cases v<;>simp only[lstOf] at e1<;>first|(cases e1;done)|skip
    all_goals cases w<;>simp only[lstOf] at e2<;>first|(cases e2;done)|rfl
   have ev:bop .add v w h=guardM (decide (vs.length+ws.length<=sizeLine)) (new (.lst (vs++ws))) h:=by
    rw[eb];unfold bnd ask lft;dsimp only;rw[e1];dsimp only;rw[e2]
   rw[ev]
   refine rel_guard (fun z=>?_) fun _=>rel_new u p (q1.append q2) fun hi=>imms_any (q1.append q2) hi
   rw[<-q1.length,<-q2.length];exact z
 | _ =>
  rcases ii (by intro z;cases z) with ⟨i,j,rfl,rfl⟩|z
  case inr=>rw[z];trivial
  have:=a.int;subst this;have:=c.int;subst this
  first
   | exact rel_ret int_rv
   | exact rel_guard (fun z=>z) fun _=>rel_ret int_rv
theorem slc_rel{d v:Val}{lo hi:Option Int}{h0:Hs}(u:Up A h)(p:h0<+:h)(a:DB A h d v):Rel A h (RV A h0) (slcM v lo hi h) (slcV d lo hi):=by
 cases d with
 | tup ds =>
  obtain⟨vs,rfl,q⟩:=a.tup
  have l:=q.length
  simp only[slcV,slcM]
  refine rel_guard (fun z=>?_) fun _=>rel_ret ⟨?_,fun hi=>?_⟩
  ·rw[l] at z;exact z
  ·show Dn A h (.tup _) _;rw[Dn];exact⟨_,rfl,q.cut lo hi⟩
  ·show Dn _ h (.tup _) _;rw[Dn];exact⟨_,rfl,imms_any (q.cut _ _) hi⟩
 | rl ds =>
  obtain⟨vs,e1,q⟩:=a.lst
  have ev:slcM v lo hi h=new (.lst (cutL vs lo hi)) h:=by
   have:slcM v lo hi=bnd (ask fun h=>lstOf h v) fun xs=>new (.lst (cutL xs lo hi)):=by
    cases v<;>simp only[lstOf] at e1<;>first|(cases e1;done)|rfl
   rw[this];unfold bnd ask lft;dsimp only;rw[e1]
  rw[ev]
  exact rel_new u p (q.cut lo hi) fun hh=>imms_any (q.cut lo hi) hh
 | _=>trivial
theorem DBs.one{d:Val}{vs:List Val}(e:DBs A h [d] vs):∃v,vs=[v]/\DB A h d v:=by
 obtain⟨v,r,rfl,a,b⟩:=e
 cases (show r=[] from b)
 exact⟨v,rfl,a⟩
theorem ints_dn{ds vs:List Val}{ns:List Int}(q:Dns A h ds vs)(e:ints? ds=some ns):vs=ds:=by
 have:imms ds=true:=by
  clear q
  induction ds generalizing ns with
  | nil=>rfl
  | cons d ds ih =>
   simp only[ints?,mapO] at e
   obtain⟨i,e1,e⟩:=Option.bind_eq_some_iff.mp e
   obtain⟨is,e2,e⟩:=Option.bind_eq_some_iff.mp e
   cases d<;>first|(cases e1;done)|skip
   rw[imms,imm,Bool.true_and];exact ih e2
 exact(imms_eq ds vs this).mp q
theorem bools_dn{ds vs:List Val}{ns:List Bool}(q:Dns A h ds vs)(e:bools? ds=some ns):vs=ds:=by
 have:imms ds=true:=by
  clear q
  induction ds generalizing ns with
  | nil=>rfl
  | cons d ds ih =>
   simp only[bools?,mapO] at e
   obtain⟨i,e1,e⟩:=Option.bind_eq_some_iff.mp e
   obtain⟨is,e2,e⟩:=Option.bind_eq_some_iff.mp e
   cases d<;>first|(cases e1;done)|skip
   rw[imms,imm,Bool.true_and];exact ih e2
 exact(imms_eq ds vs this).mp q
theorem ints_imm:∀{ds:List Val} {ns:List Int},ints? ds=some ns->imms ds=true
 | [],_,_=>rfl
 | d::ds,ns,e=>by
  simp only[ints?,mapO] at e
  obtain⟨i,e1,e⟩:=Option.bind_eq_some_iff.mp e
  obtain⟨is,e2,e⟩:=Option.bind_eq_some_iff.mp e
  cases d<;>first|(cases e1;done)|skip
  rw[imms,imm,Bool.true_and];exact ints_imm (show ints? ds=some is from e2)
theorem tups_imm:∀{ds:List Val} {ns:List (List Int)},tups? ds=some ns->imms ds=true
 | [],_,_=>rfl
 | d::ds,ns,e=>by
  simp only[tups?,mapO] at e
  obtain⟨i,e1,e⟩:=Option.bind_eq_some_iff.mp e
  obtain⟨is,e2,e⟩:=Option.bind_eq_some_iff.mp e
  cases d<;>first|(cases e1;done)|skip
  rename_i vs
  dsimp only at e1
  split at e1
  ·cases e1
  ·rw[imms,imm,ints_imm e1,Bool.true_and];exact tups_imm (show tups? ds=some is from e2)
theorem map_int_imm:∀ns:List Int,imms (ns.map .int)=true
 | []=>rfl
 | n::ns=>by rw[List.map_cons,imms,imm,Bool.true_and];exact map_int_imm ns
theorem map_itup_imm:∀kss:List (List Int),imms (kss.map itup)=true
 | []=>rfl
 | n::ns=>by rw[List.map_cons,imms,itup,imm,map_int_imm,Bool.true_and];exact map_itup_imm ns
theorem sortV_imm{xs ys:List Val}(e:sortV xs=some ys):imms xs=true/\imms ys=true:=by
 unfold sortV at e
 split at e
 ·cases e2:ints? xs with
  | some ns=>rw[e2] at e;cases e;exact⟨ints_imm e2,map_int_imm _⟩
  | none =>
   rw[e2] at e
   obtain⟨kss,e3,e4⟩:=Option.bind_eq_some_iff.mp e
   cases e4;exact⟨tups_imm e3,map_itup_imm _⟩
 ·cases e
theorem blt_rel{b:Bl}{ds vs:List Val}{h0:Hs}(u:Up A h)(p:h0<+:h)(a:DBs A h ds vs):Rel A h (RV A h0) (blt b vs h) (bltV b ds):=by
 have mm:∀(f:List Int->Option Val) (d:Val),(∀ns m,f ns=some m->∃i,m=.int i)->∀v,DB A h d v->Rel A h (RV A h0) (bnd (ask fun h=>seqOf h v) (fun xs=>lft ((ints? xs).bind f)) h) (pb (pl (seqOf [] d)) fun xs=>pb (pl ((ints? xs).bind f)) fun m=>.ok (true,m)):=by
  intro f d hf v hv
  refine rel_bnd (R:=fun xs h' ws=>Dns A h' xs ws) (rel_ask fun xs e=>hv.seq e) fun xs h1 ws q1 q=>?_
  have:lft ((ints? ws).bind f) h1=bnd (lft ((ints? ws).bind f)) (fun m=>ret m) h1:=by unfold bnd lft;cases (ints? ws).bind f<;>rfl
  rw[this]
  refine rel_bnd (R:=fun m _ m'=>m'=m/\∃i,m=.int i) (rel_lft fun m e=>?_) fun m h2 m' _ hm=>?_
  ·obtain⟨ns,e1,e2⟩:=Option.bind_eq_some_iff.mp e
   rw[ints_dn q e1]
   exact⟨m,e,rfl,hf ns m e2⟩
  ·obtain⟨rfl,i,rfl⟩:=hm
   exact rel_ret int_rv
 have hmin:∀ns m,minL ns=some m->∃i,m=Val.int i:=fun ns m e=>by cases ns<;>simp[minL] at e;exact⟨_,e.symm⟩
 have hmax:∀ns m,maxL ns=some m->∃i,m=Val.int i:=fun ns m e=>by cases ns<;>simp[maxL] at e;exact⟨_,e.symm⟩
 match ds,a with
 | [],a=>cases b<;>trivial
 | [d],a =>
  obtain⟨v,rfl,hv⟩:=a.one
  cases b with
  | len =>
   exact rel_bnd (R:=fun n _ m=>m=n) (rel_ask fun n e=>⟨n,len_dn hv e,rfl⟩) fun n h1 m _ e=>by subst e;exact rel_ret int_rv
  | min =>
   have e1:bltV .min [d]=pb (pl (seqOf [] d)) fun xs=>pb (pl ((ints? xs).bind minL)) fun m=>.ok (true,m):=by cases d<;>rfl
   have e2:blt .min [v]=bnd (ask fun h=>seqOf h v) fun xs=>lft ((ints? xs).bind minL):=by cases v<;>rfl
   rw[e1,e2];exact mm minL d hmin v hv
  | max =>
   have e1:bltV .max [d]=pb (pl (seqOf [] d)) fun xs=>pb (pl ((ints? xs).bind maxL)) fun m=>.ok (true,m):=by cases d<;>rfl
   have e2:blt .max [v]=bnd (ask fun h=>seqOf h v) fun xs=>lft ((ints? xs).bind maxL):=by cases v<;>rfl
   rw[e1,e2];exact mm maxL d hmax v hv
  | sorted =>
   cases d<;>first|trivial|skip
   rename_i xs
   obtain⟨ws,e1,q⟩:=hv.lst
   have ev:bnd (ask fun h=>lstOf h v) (fun xs=>bnd (lft (sortV xs)) fun ys=>new (.lst ys)) h=bnd (lft (sortV ws)) (fun ys=>new (.lst ys)) h:=by
    unfold bnd ask lft;dsimp only;rw[e1]
   show Rel A h (RV A h0) (bnd (ask fun h=>lstOf h v) (fun xs=>bnd (lft (sortV xs)) fun ys=>new (.lst ys)) h) _
   rw[ev]
   refine rel_bnd (R:=fun ys _ zs=>zs=ys/\imms ys=true) (rel_lft fun ys e=>?_) fun ys h1 zs q1 hz=>?_
   ·obtain⟨i1,i2⟩:=sortV_imm e
    rw[(imms_eq xs ws i1).mp q]
    exact⟨ys,e,rfl,i2⟩
   ·obtain⟨rfl,hi⟩:=hz
    exact rel_new (u.ext q1) (p.trans q1) ((imms_eq _ _ hi).mpr rfl) fun _=>(imms_eq _ _ hi).mpr rfl
  | list =>
   refine rel_bnd (R:=fun xs h' ws=>Dns A h' xs ws) (rel_ask fun xs e=>hv.seq e) fun xs h1 ws q1 q=>?_
   exact rel_new (u.ext q1) (p.trans q1) q fun hi=>imms_any q hi
  | tuple=>trivial
  | str=>trivial
  | int =>
   cases d<;>first|trivial|skip
   ·have:=hv.bl;subst this
    exact rel_ret int_rv
   ·have:=hv.int;subst this
    exact rel_ret int_rv
  | all =>
   cases d<;>first|trivial|skip
   rename_i xs
   obtain⟨ws,e1,q⟩:=hv.lst
   have ev:bnd (ask fun h=>lstOf h v) (fun xs=>bnd (lft (bools? xs)) fun bs=>ret (Val.bl (bs.all id))) h=bnd (lft (bools? ws)) (fun bs=>ret (Val.bl (bs.all id))) h:=by
    unfold bnd ask lft;dsimp only;rw[e1]
   show Rel A h (RV A h0) (bnd (ask fun h=>lstOf h v) (fun xs=>bnd (lft (bools? xs)) fun bs=>ret (Val.bl (bs.all id))) h) _
   rw[ev]
   exact rel_bnd (R:=fun ys _ zs=>zs=ys) (rel_lft fun ys e=>⟨ys,by rw[bools_dn q e];exact e,rfl⟩) fun ys h1 zs q1 hz=>by subst hz;exact rel_ret bl_rv
  | any=>trivial
  | isin T =>
   refine rel_bnd (R:=fun n _ m=>m=n) (rel_ask fun n e=>⟨n,ty_dn hv e,rfl⟩) fun n h1 m _ e=>?_
   subst e
   exact rel_bnd (R:=fun n _ m=>m=n) (rel_lft fun n e=>⟨n,e,rfl⟩) fun n h1 m _ e=>by subst e;exact rel_ret bl_rv
 | [d,e],a =>
  obtain⟨v,r,rfl,hv,hr⟩:=a
  obtain⟨w,rfl,hw⟩:=DBs.one hr
  cases b<;>first|trivial|(cases d<;>trivial)|skip
  ·cases d<;>cases e<;>first|trivial|skip
   have:=hv.int;subst this;have:=hw.int;subst this
   exact rel_ret int_rv
  ·cases d<;>cases e<;>first|trivial|skip
   have:=hv.int;subst this;have:=hw.int;subst this
   exact rel_ret int_rv
 | x::y::z::t,a=>cases b<;>first|trivial|(cases x<;>trivial)|(cases x<;>cases y<;>trivial)
end
end Hv
end
section
namespace Hv
open PySem L2
noncomputable def Imp(φ:List Val->M Val)(ψ:List Val->Pr FV):Prop:=∀(A:AP) (h:Hs) (ds vs:List Val),Up A h->Dns A h ds vs->Rel A h (RV A h) (φ vs h) (ψ ds)
section
variable {Φ:Nat->List Val->M Val} {Ψ:Nat->List Val->Pr FV} {A:AP} {h h1:Hs}
noncomputable def VOk(Φ:Nat->List Val->M Val)(Ψ:Nat->List Val->Pr FV)(ir:IE):Prop:=∀(venv:VEnv) (env:Env) (A:AP) (h:Hs),Up A h->ER A venv env h->Rel A h (RV A h) (evE Φ ir env h) (evV Ψ ir venv)
noncomputable def VOks(Φ:Nat->List Val->M Val)(Ψ:Nat->List Val->Pr FV)(irs:IEs):Prop:=(∀(venv:VEnv) (env:Env) (A:AP) (h:Hs),Up A h->ER A venv env h->Rel A h (RVs A h) (evEs Φ irs env h) (evVs Ψ irs venv)) /\
 ∀(venv:VEnv) (env:Env) (A:AP) (h:Hs),Up A h->ER A venv env h->Rel A h (fun ds h' vs=>DBs A h' ds vs) (evEs Φ irs env h) (evBs Ψ irs venv)
theorem RV.up{x:FV}{v:Val}{h0 h':Hs}(p:h0<+:h)(r:RV A h x h' v):RV A h0 x h' v:=⟨r.1,fun f=>(r.2 f).wid (Fr.le p.length_le)⟩
theorem rel_up{x:Pr FV}{o:Out Val}{h0:Hs}(p:h0<+:h)(r:Rel A h (RV A h) o x):Rel A h (RV A h0) o x:=rel_mono r fun _ _ _ _ q=>q.up p
theorem var_b{i:Nat}{venv:VEnv}{env:Env}(e:ER A venv env h):Rel A h (RBr A) (evE Φ (.var i) env h) (pl (varB venv (.var i))):=by
 rw[evE]
 refine rel_lft fun x hx=>?_
 simp only[varB] at hx
 split at hx
 ·rename_i f d hd
  cases hx
  have:=e i f d hd
  revert this
  generalize rdM f=t
  intro this
  cases t with
  | false =>
   rw[if_pos rfl] at this
   obtain⟨a,k2,k3⟩:=this
   exact⟨.ref a,by rw[k2],.inr ⟨a,rfl,k3⟩⟩
  | true =>
   rw[if_neg (by decide)] at this
   obtain⟨v,k1,k2⟩:=this
   exact⟨v,by rw[k1],.inl k2⟩
 ·cases hx
theorem ok_b{ir:IE}(o:VOk Φ Ψ ir){venv:VEnv}{env:Env}(u:Up A h)(e:ER A venv env h):Rel A h (RBr A) (evE Φ ir env h) (if isVar ir=true then pl (varB venv ir) else evV Ψ ir venv):=by
 by_cases hv:isVar ir=true
 ·rw[if_pos hv]
  cases ir<;>first|(cases hv;done)|exact var_b e
 ·rw[if_neg hv]
  exact rel_mono (o venv env A h u e) fun _ _ _ _ q=>q.br
theorem rel_pg0{α β:Type}{R:α -> Hs -> β -> Prop}{c:Bool}{o:Out β}{p:Pr α}(r:c=true->Rel A h R o p):Rel A h R o (pg c p):=by
 unfold pg
 cases c with
 | true=>rw[if_pos rfl];exact r rfl
 | false=>rw[if_neg Bool.false_ne_true];trivial
theorem v_var{i:Nat}:VOk Φ Ψ (.var i):=fun venv env A h u e=>by
 rw[evE,evV]
 cases hv:venv[i]? with
 | none=>trivial
 | some o =>
  cases o with
  | none=>trivial
  | some fd =>
   obtain⟨f,d⟩:=fd
   refine rel_pg0 fun hf=>?_
   ·have:=e i f d hv
    rw[if_neg (by simp[hf])] at this
    obtain⟨v,k1,k2⟩:=this
    rw[k1]
    exact⟨v,h,rfl,List.prefix_refl _,imm_rv k2⟩
theorem ask_ret{α:Type}{f:Hs->Option α}:ask f h=bnd (ask f) (fun z=>ret z) h:=by unfold bnd ask lft;cases f h<;>rfl
theorem flat_dn{d:Val}(f:imm d=true):Dn A h d d:=(imm_eq d d f).mpr rfl
theorem v_cst{d:Val}(f:imm d=true):VOk Φ Ψ (.cst d):=fun venv env A h u e=>by rw[evE,evV];exact rel_ret (imm_rv (flat_dn f))
theorem v_con{x:Str}{d:Val}(f:imm d=true):VOk Φ Ψ (.con x d):=fun venv env A h u e=>by rw[evE,evV];exact rel_ret (imm_rv (flat_dn f))
theorem v_no:VOk Φ Ψ .no:=fun venv env A h u e=>by rw[evV];trivial
theorem v_bin{o:Bop}{a b:IE}(ha:VOk Φ Ψ a)(hb:VOk Φ Ψ b):VOk Φ Ψ (.bin o a b):=fun venv env A h u e=>by
 rw[evE,evV]
 exact rel_bnd (ok_b ha u e) fun x h1 v p1 q1=>rel_bnd (ok_b hb (u.ext p1) (e.ext p1)) fun y h2 w p2 q2=>bop_rel ((u.ext p1).ext p2) (p1.trans p2) (DB.ext p2 q1) q2
theorem v_neg{a:IE}(ha:VOk Φ Ψ a):VOk Φ Ψ (.neg a):=fun venv env A h u e=>by
 rw[evE,evV]
 refine rel_bnd (ha venv env A h u e) fun x h1 v p1 q1=>?_
 obtain⟨f,d⟩:=x
 have q:=q1.1
 cases d<;>dsimp only<;>first|trivial|skip
 dsimp only at q
 rw[Dn] at q;subst q
 exact rel_ret int_rv
theorem v_cmp{o:Cop}{a b:IE}(ha:VOk Φ Ψ a)(hb:VOk Φ Ψ b):VOk Φ Ψ (.cmp o a b):=fun venv env A h u e=>by
 rw[evE,evV]
 exact rel_bnd (ok_b ha u e) fun x h1 v p1 q1=>rel_bnd (ok_b hb (u.ext p1) (e.ext p1)) fun y h2 w p2 q2 =>
  rel_bnd (R:=fun t _ t'=>t'=t) (rel_ask fun t et=>⟨t,cop_dn (DB.ext p2 q1) q2 et,rfl⟩) fun t h3 t' p3 et=>by subst et;exact rel_ret bl_rv
theorem v_chn{o o':Cop}{a b c:IE}(ha:VOk Φ Ψ a)(hb:VOk Φ Ψ b)(hc:VOk Φ Ψ c):VOk Φ Ψ (.chn o o' a b c):=fun venv env A h u e=>by rw[evV];trivial
theorem bool_rel{d v:Val}(q:Dn A h d v):Rel A h (fun t _ t'=>t'=t) (boolM v h) (boolV d):=by
 cases d<;>first|trivial|skip
 rw[Dn] at q;subst q
 exact rel_ret rfl
theorem v_and{a b:IE}(ha:VOk Φ Ψ a)(hb:VOk Φ Ψ b):VOk Φ Ψ (.and a b):=fun venv env A h u e=>by
 rw[evE,evV]
 refine rel_bnd (ha venv env A h u e) fun x h1 v p1 q1=>rel_bnd (bool_rel q1.1) fun t h2 t' p2 et=>?_
 subst et
 cases t' with
 | true =>
  rw[if_pos rfl,if_pos rfl]
  exact rel_bnd (hb venv env A h2 ((u.ext p1).ext p2) ((e.ext p1).ext p2)) fun y h3 w p3 q3=>rel_bnd (bool_rel q3.1) fun t h2 t' p2 et=>by subst et;exact rel_ret bl_rv
 | false =>
  rw[if_neg Bool.false_ne_true,if_neg Bool.false_ne_true]
  exact rel_ret bl_rv
theorem v_or{a b:IE}(ha:VOk Φ Ψ a)(hb:VOk Φ Ψ b):VOk Φ Ψ (.or a b):=fun venv env A h u e=>by
 rw[evE,evV]
 refine rel_bnd (ha venv env A h u e) fun x h1 v p1 q1=>rel_bnd (bool_rel q1.1) fun t h2 t' p2 et=>?_
 subst et
 cases t' with
 | false =>
  rw[if_neg Bool.false_ne_true,if_neg Bool.false_ne_true]
  exact rel_bnd (hb venv env A h2 ((u.ext p1).ext p2) ((e.ext p1).ext p2)) fun y h3 w p3 q3=>rel_bnd (bool_rel q3.1) fun t h2 t' p2 et=>by subst et;exact rel_ret bl_rv
 | true =>
  rw[if_pos rfl,if_pos rfl]
  exact rel_ret bl_rv
theorem v_not{a:IE}(ha:VOk Φ Ψ a):VOk Φ Ψ (.not a):=fun venv env A h u e=>by
 rw[evE,evV]
 exact rel_bnd (ha venv env A h u e) fun x h1 v p1 q1=>rel_bnd (bool_rel q1.1) fun t h2 t' p2 et=>by subst et;exact rel_ret bl_rv
theorem v_ite{c a b:IE}(hc:VOk Φ Ψ c)(ha:VOk Φ Ψ a)(hb:VOk Φ Ψ b):VOk Φ Ψ (.ite c a b):=fun venv env A h u e=>by rw[evV];trivial
theorem v_nil:VOks Φ Ψ .nil:=⟨fun venv env A h u e=>by rw[evEs,evVs];exact rel_ret ⟨Dns.nil,fun _=>Dns.nil⟩,fun venv env A h u e=>by rw[evEs,evBs];exact rel_ret rfl⟩
theorem v_cons{e:IE}{es:IEs}(he:VOk Φ Ψ e)(hs:VOks Φ Ψ es):VOks Φ Ψ (.cons e es):=by
 refine⟨fun venv env A h u er=>?_,fun venv env A h u er=>?_⟩
 ·rw[evEs,evVs]
  refine rel_bnd (he venv env A h u er) fun x h1 v p1 q1=>rel_bnd (hs.1 venv env A h1 (u.ext p1) (er.ext p1)) fun y h2 vs p2 q2=>?_
  refine rel_ret ⟨Dns.cons (q1.1.ext p2) q2.1,fun hf=>?_⟩
  have hf':x.1=true/\y.1=true:=by simpa using hf
  exact Dns.cons ((q1.2 hf'.1).ext p2) ((q2.2 hf'.2).wid (Fr.le p1.length_le))
 ·rw[evEs,evBs]
  refine rel_bnd (ok_b he u er) fun x h1 v p1 q1=>rel_bnd (hs.2 venv env A h1 (u.ext p1) (er.ext p1)) fun y h2 vs p2 q2=>?_
  exact rel_ret ⟨v,vs,rfl,DB.ext p2 q1,q2⟩
theorem v_tup{es:IEs}(hs:VOks Φ Ψ es):VOk Φ Ψ (.tup es):=fun venv env A h u e=>by
 rw[evE,evV]
 refine rel_bnd (hs.1 venv env A h u e) fun x h1 vs p1 q1=>rel_guard (fun z=>by rw[<-q1.1.length];exact z) fun _=>rel_ret ⟨?_,fun hf=>?_⟩
 ·show Dn A h1 (.tup _) _;rw[Dn];exact⟨vs,rfl,q1.1⟩
 ·show Dn _ h1 (.tup _) _;rw[Dn];exact⟨vs,rfl,q1.2 hf⟩
theorem v_dct0:VOk Φ Ψ .dct0:=fun venv env A h u e=>by
 rw[evE,evV]
 refine⟨_,_,rfl,pre_snoc _,?_,fun hf=>?_⟩
 ·show Dn A _ (.dc [] []) _
  rw[Dn];exact⟨_,[],rfl,u _ (Nat.le_refl _),snoc_get _,rfl,Dns.nil⟩
 ·show Dn _ _ (.dc [] []) _
  rw[Dn];exact⟨_,[],rfl,Nat.le_refl _,snoc_get _,rfl,Dns.nil⟩
theorem v_dct1{k v:IE}(hk:VOk Φ Ψ k)(hv:VOk Φ Ψ v):VOk Φ Ψ (.dct1 k v):=fun venv env A h u e=>by
 rw[evE,evV]
 refine rel_bnd (hk venv env A h u e) fun x h1 w p1 q1=>rel_bnd (R:=fun kk _ kk'=>kk'=kk) (rel_lft fun kk ek=>⟨kk,key_dn q1.1 ek,rfl⟩) fun kk h2 kk' p2 hkk=>?_
 subst hkk
 refine rel_bnd (hv venv env A h2 ((u.ext p1).ext p2) ((e.ext p1).ext p2)) fun y h3 z p3 q3=>?_
 have p:=(p1.trans p2).trans p3
 refine⟨_,_,rfl,pre_snoc _,?_,fun hf=>?_⟩
 ·show Dn A _ (.dc [kk'] [y.2]) _
  rw[Dn];exact⟨_,[(kk',z)],rfl,u _ p.length_le,snoc_get _,rfl,Dns.cons (q3.1.ext (pre_snoc _)) Dns.nil⟩
 ·show Dn _ _ (.dc [kk'] [y.2]) _
  rw[Dn];exact⟨_,[(kk',z)],rfl,p.length_le,snoc_get _,rfl,Dns.cons (((q3.2 hf).wid (Fr.le (p1.trans p2).length_le)).ext (pre_snoc _)) Dns.nil⟩
theorem v_dget{d k x:IE}(hd:VOk Φ Ψ d)(hk:VOk Φ Ψ k)(hx:VOk Φ Ψ x):VOk Φ Ψ (.dget d k x):=fun venv env A h u e=>by
 rw[evE,evV]
 refine rel_bnd (ok_b hd u e) fun o h1 v p1 q1=>rel_bnd (R:=fun _ _ _=>True) (rel_ask fun t et=>⟨t,isDc_dn q1 et,trivial⟩) fun _ h2 _ p2 _=>?_
 refine rel_bnd (hk venv env A h2 ((u.ext p1).ext p2) ((e.ext p1).ext p2)) fun i h3 w p3 q3=>rel_bnd (R:=fun kk _ kk'=>kk'=kk) (rel_lft fun kk ek=>⟨kk,key_dn q3.1 ek,rfl⟩) fun kk h4 kk' p4 hkk=>?_
 subst hkk
 have p14:=((p1.trans p2).trans p3).trans p4
 refine rel_bnd (hx venv env A h4 (u.ext p14) (e.ext p14)) fun z h5 z' p5 q5=>?_
 refine rel_bnd (R:=fun r h' r'=>∀a b,Dn A h5 a b->Dn A h' (r.getD a) (r'.getD b)) (rel_ask fun r er=>?_) fun r h6 r' p6 hr=>rel_ret (imm_rv (hr _ _ q5.1))
 obtain⟨r',e1,e2⟩:=get_dn (DB.ext ((p2.trans p3).trans (p4.trans p5)) q1) er
 exact⟨r',e1,e2⟩
theorem v_lkeys{d:IE}(hd:VOk Φ Ψ d):VOk Φ Ψ (.lkeys d):=fun venv env A h u e=>by
 rw[evE,evV]
 refine rel_bnd (ok_b hd u e) fun o h1 v p1 q1=>rel_bnd (R:=fun ks _ ks'=>ks'=ks) (rel_ask fun ks ek=>⟨ks,keysH_dn q1 ek,rfl⟩) fun ks h2 ks' p2 hk=>?_
 subst hk
 exact rel_new ((u.ext p1).ext p2) (p1.trans p2) ((imms_eq _ _ (keyV_imm ks')).mpr rfl) fun _=>(imms_eq _ _ (keyV_imm ks')).mpr rfl
theorem v_skeys{d:IE}(hd:VOk Φ Ψ d):VOk Φ Ψ (.skeys d):=fun venv env A h u e=>by
 rw[evE,evV]
 refine rel_bnd (ok_b hd u e) fun o h1 v p1 q1=>rel_bnd (R:=fun ns _ ns'=>ns'=ns) (rel_ask fun ns en=>⟨ns,?_,rfl⟩) fun ns h2 ns' p2 hk=>?_
 ·unfold skeysH at en |-
  obtain⟨ks,e1,e2⟩:=Option.bind_eq_some_iff.mp en
  rw[keysH_dn q1 e1]
  exact e2
 ·subst hk
  exact rel_new ((u.ext p1).ext p2) (p1.trans p2) ((imms_eq _ _ (map_int_imm ns')).mpr rfl) fun _=>(imms_eq _ _ (map_int_imm ns')).mpr rfl
theorem ints_eqV:∀{xs:List Val} {ns:List Int},ints? xs=some ns->xs=ns.map .int
 | [],ns,e=>by cases e;rfl
 | x::xs,ns,e=>by
  unfold ints? at e
  rw[mapO] at e
  obtain⟨i,e1,e⟩:=Option.bind_eq_some_iff.mp e
  obtain⟨r,e2,e⟩:=Option.bind_eq_some_iff.mp e
  cases e
  cases x<;>simp at e1
  subst e1
  rw[ints_eqV e2];rfl
theorem v_dflt{N':List Str}{js:List (Option Nat)}{p q:Nat}{d w:IE}(hd:VOk Φ Ψ d)(hw:VOk Φ Ψ w):VOk Φ Ψ (.dflt N' js p q d w):=fun venv env A h u e=>by rw[evV];trivial
theorem v_isc{a:IE}{x:Str}{bs:List Bool}(ha:VOk Φ Ψ a):VOk Φ Ψ (.isc a x bs):=fun venv env A h u e=>by rw[evV];trivial
theorem v_sset{a:IE}(ha:VOk Φ Ψ a):VOk Φ Ψ (.sset a):=fun venv env A h u e=>by
 rw[evE,evV]
 refine rel_bnd (ok_b ha u e) fun x h1 v p1 q1=>?_
 obtain⟨f,d⟩:=x
 cases d<;>first|trivial|skip
 rename_i xs
 obtain⟨vs,e1,e2⟩:=DB.lst q1
 have ea:∀(F:List Val->M Val),bnd (ask fun h=>lstOf h v) F h1=F vs h1:=fun F=>by unfold bnd ask lft;dsimp only;rw[e1]
 rw[ea]
 show Rel A h1 _ _ (pb (pl (ints? xs)) _)
 refine rel_bnd (R:=fun ns h' ns'=>ns'=ns) (rel_lft fun ns en=>⟨ns,?_,rfl⟩) fun ns h2 ns' p2 en=>?_
 ·have ei:=ints_eqV en
  subst ei
  rw[(imms_eq _ _ (map_int_imm ns)).mp e2];exact en
 ·subst en
  refine rel_guard (fun z=>z) fun _=>?_
  have hi:∀ms:List Int,Dns A h2 (ms.map Val.int) (ms.map Val.int):=fun ms=>(imms_eq _ _ (map_int_imm ms)).mpr rfl
  exact rel_new ((u.ext p1).ext p2) (p1.trans p2) (hi _) fun _=>(imms_eq _ _ (map_int_imm _)).mpr rfl
theorem v_lst{es:IEs}(hs:VOks Φ Ψ es):VOk Φ Ψ (.lst es):=fun venv env A h u e=>by
 rw[evE,evV]
 exact rel_bnd (hs.1 venv env A h u e) fun x h1 vs p1 q1=>rel_guard (fun z=>by rw[<-q1.1.length];exact z) fun _=>rel_new (u.ext p1) p1 q1.1 q1.2
theorem v_idx{a b:IE}(ha:VOk Φ Ψ a)(hb:VOk Φ Ψ b):VOk Φ Ψ (.idx a b):=fun venv env A h u e=>by
 rw[evE,evV]
 refine rel_bnd (ok_b ha u e) fun x h1 v p1 q1=>rel_bnd (hb venv env A h1 (u.ext p1) (e.ext p1)) fun y h2 w p2 q2=>?_
 rw[ask_ret]
 exact rel_bnd (R:=fun z h' z'=>Dn A h' z z') (rel_ask fun z ez=>idx_dn (DB.ext p2 q1) q2.1 ez) fun z h3 z' p3 q3=>rel_ret (imm_rv q3)
theorem part_rel{ir:IE}(o:VOk Φ Ψ ir){venv:VEnv}{env:Env}(u:Up A h)(e:ER A venv env h) :
  Rel A h (fun(t:Option Int) _ t'=>t'=t) ((if isNo ir=true then ret none else bnd (evE Φ ir env) fun v=>bnd (lft (part? v)) fun i=>ret (some i)) h) (if isNo ir=true then .ok none else pb (evV Ψ ir venv) fun v=>pb (pl (part? v.2)) fun i=>.ok (some i)):=by
 by_cases hn:isNo ir=true
 ·rw[if_pos hn,if_pos hn];exact rel_ret rfl
 ·rw[if_neg hn,if_neg hn]
  refine rel_bnd (o venv env A h u e) fun x h1 v p1 q1=>rel_bnd (R:=fun t _ t'=>t'=t) (rel_lft fun i ei=>?_) fun t h2 t' p2 et=>by subst et;exact rel_ret rfl
  obtain⟨f,d⟩:=x
  have q:=q1.1
  cases d<;>first|(cases ei;done)|skip
  dsimp only at q
  rw[Dn] at q;subst q
  exact⟨i,ei,rfl⟩
theorem v_slc{a lo hi:IE}(ha:VOk Φ Ψ a)(hl:VOk Φ Ψ lo)(hh:VOk Φ Ψ hi):VOk Φ Ψ (.slc a lo hi):=fun venv env A h u e=>by
 rw[evE,evV]
 refine rel_bnd (ok_b ha u e) fun x h1 v p1 q1=>rel_bnd (part_rel hl (u.ext p1) (e.ext p1)) fun l h2 l' p2 el=>rel_bnd (part_rel hh ((u.ext p1).ext p2) ((e.ext p1).ext p2)) fun r h3 r' p3 er=>?_
 subst el;subst er
 exact slc_rel (((u.ext p1).ext p2).ext p3) ((p1.trans p2).trans p3) (DB.ext (p2.trans p3) q1)
theorem v_rev{a sx:IE}(ha:VOk Φ Ψ a)(hs:VOk Φ Ψ sx):VOk Φ Ψ (.rev a sx):=fun venv env A h u e=>by
 rw[evE,evV]
 refine rel_bnd (ok_b ha u e) fun x h1 v p1 q1=>rel_bnd (part_rel hs (u.ext p1) (e.ext p1)) fun l h2 l' p2 el=>?_
 subst el
 refine rel_guard (fun z=>z) fun _=>?_
 obtain⟨f,d⟩:=x
 cases d with
 | rl ds =>
  obtain⟨vs,e1,q⟩:=DB.lst (DB.ext p2 q1)
  have ev:bnd (ask fun h=>lstOf h v) (fun xs=>new (.lst xs.reverse)) h2=new (.lst vs.reverse) h2:=by
   unfold bnd ask lft;dsimp only;rw[e1]
  rw[ev]
  exact rel_new ((u.ext p1).ext p2) (p1.trans p2) (Dns.rev q) fun hh=>imms_any (Dns.rev q) hh
 | _=>trivial
theorem v_call{j:Nat}{es:IEs}(hΦ:∀j,Imp (Φ j) (Ψ j))(hs:VOks Φ Ψ es):VOk Φ Ψ (.call j es):=fun venv env A h u e=>by
 rw[evE,evV]
 exact rel_bnd (hs.1 venv env A h u e) fun x h1 vs p1 q1=>rel_up p1 (hΦ j A h1 x.2 vs (u.ext p1) q1.1)
theorem v_fld{n:Nat}{a:IE}{x:Str}(ha:VOk Φ Ψ a):VOk Φ Ψ (.fld n a x):=fun venv env A h u e=>by
 rw[evE,evV]
 refine rel_bnd (ok_b ha u e) fun o h1 v p1 q1=>?_
 rw[ask_ret]
 exact rel_bnd (R:=fun z h' z'=>Dn A h' z z') (rel_ask fun z ez=>fld_dn q1 ez) fun z h3 z' p3 q3=>rel_ret (imm_rv q3)
theorem v_mth{a:IE}{m:Str}{js:List (Nat×Nat)}{es:IEs}(hΦ:∀j,Imp (Φ j) (Ψ j))(ha:VOk Φ Ψ a)(hs:VOks Φ Ψ es):VOk Φ Ψ (.mth a m js es):=fun venv env A h u e=>by
 rw[evE,evV]
 refine rel_bnd (ha venv env A h u e) fun o h1 v p1 q1=>rel_bnd (R:=fun j _ j'=>j'=j) (rel_ask fun j ej=>⟨j,mth_dn (.inl q1.1) ej,rfl⟩) fun j h2 j' p2 hj=>?_
 subst hj
 exact rel_bnd (hs.1 venv env A h2 ((u.ext p1).ext p2) ((e.ext p1).ext p2)) fun x h3 vs p3 q3=>rel_up ((p1.trans p2).trans p3) (hΦ j' A h3 (o.2::x.2) (v::vs) (((u.ext p1).ext p2).ext p3) (Dns.cons (q1.1.ext (p2.trans p3)) q3.1))
theorem v_blt{b:Bl}{es:IEs}(hs:VOks Φ Ψ es):VOk Φ Ψ (.blt b es):=fun venv env A h u e=>by
 rw[evE,evV]
 exact rel_bnd (hs.2 venv env A h u e) fun x h1 vs p1 q1=>blt_rel (u.ext p1) p1 q1
theorem v_met{m:Me}{a:IE}{es:IEs}(ha:VOk Φ Ψ a)(hs:VOks Φ Ψ es):VOk Φ Ψ (.met m a es):=fun venv env A h u e=>by
 cases m with
 | join=>rw[evV];trivial
 | append=>rw[evV]<;>first|trivial|(intro z;cases z)
 | extend=>rw[evV]<;>first|trivial|(intro z;cases z)
noncomputable def SrcR(A:AP)(h:Hs)(xs:List Val)(src:Src):Prop:=∃ws,Dns A h xs ws/\∀h',h<+:h'->src.items h'=some ws
theorem dns_range{lo:Int}{n:Nat}:Dns A h (rangeV lo n) (rangeV lo n):=by
 unfold rangeV
 generalize List.range n=l
 induction l with
 | nil=>exact Dns.nil
 | cons a l ih=>exact Dns.cons (by rw[Dn]) ih
theorem dns_enum:∀{xs ws:List Val} (i:Nat),Dns A h xs ws->Dns A h (enumV i xs) (enumV i ws)
 | [],ws,i,q=>by rw[Dns] at q;subst q;exact Dns.nil
 | x::xs,ws,i,q=>by
  rw[Dns] at q
  obtain⟨w,r,rfl,a,b⟩:=q
  exact Dns.cons (by rw[Dn];exact⟨_,rfl,Dns.cons (by rw[Dn]) (Dns.cons a Dns.nil)⟩) (dns_enum (i+1) b)
theorem lst_src{ds vs:List Val}{v:Val}(a:DB A h (.rl ds) v):∃ws,Dns A h ds ws/\((v=.rl ws)\/∃i,v=.ref i/\∀h',h<+:h'->lstOf h' (.ref i)=some ws):=by
 rcases a with a|⟨i,rfl,vs,g,q⟩
 ·rw[Dn] at a
  rcases a with ⟨vs,rfl,_,q⟩|⟨i,vs,rfl,_,g,q⟩
  ·exact⟨vs,q,.inl rfl⟩
  ·exact⟨vs,q,.inr ⟨i,rfl,fun h' p=>by simp[lstOf,pre_ob p g]⟩⟩
 ·exact⟨vs,q,.inr ⟨i,rfl,fun h' p=>by simp[lstOf,pre_ob p g]⟩⟩
theorem src_rel{k:Ik}{ds vs:List Val}(a:DBs A h ds vs):Rel A h (fun xs h' src=>SrcR A h' xs src) (lft (srcOf k vs) h) (pl (srcC k ds)):=by
 refine rel_lft fun xs e=>?_
 cases k with
 | seq =>
  match ds,e with
  | [.tup es],e =>
   cases e
   obtain⟨v,rfl,hv⟩:=a.one
   obtain⟨ws,rfl,q⟩:=hv.tup
   exact⟨.fix ws,rfl,ws,q,fun _ _=>rfl⟩
  | [.rl es],e =>
   cases e
   obtain⟨v,rfl,hv⟩:=a.one
   obtain⟨ws,q,rfl|⟨i,rfl,g⟩⟩:=lst_src (vs:=[]) hv
   ·exact⟨.fix ws,rfl,ws,q,fun _ _=>rfl⟩
   ·exact⟨.live i,rfl,ws,q,fun h' p=>g h' p⟩
 | range =>
  match ds,e with
  | [.int n],e =>
   obtain⟨v,rfl,hv⟩:=a.one
   have:=hv.int;subst this
   change (if inR n=true then some (rangeV 0 n.toNat) else none)=some _ at e
   split at e
   ·rename_i hn;cases e
    exact⟨.fix _,if_pos hn,_,dns_range,fun _ _=>rfl⟩
   ·cases e
  | [.int n,.int m],e =>
   obtain⟨v,r,rfl,hv,hr⟩:=a
   obtain⟨w,rfl,hw⟩:=DBs.one hr
   have:=hv.int;subst this
   have:=hw.int;subst this
   change (if (inR n&&inR m)=true then some (rangeV n (m-n).toNat) else none)=some _ at e
   split at e
   ·rename_i hn;cases e
    exact⟨.fix _,if_pos hn,_,dns_range,fun _ _=>rfl⟩
   ·cases e
 | enum =>
  match ds,e with
  | [.rl es],e =>
   cases e
   obtain⟨v,rfl,hv⟩:=a.one
   obtain⟨ws,q,rfl|⟨i,rfl,g⟩⟩:=lst_src (vs:=[]) hv
   ·exact⟨.fix _,rfl,_,dns_enum 0 q,fun _ _=>rfl⟩
   ·exact⟨.enum i,rfl,_,dns_enum 0 q,fun h' p=>by simp[Src.items,g h' p]⟩
 | zip=>cases e
theorem bind_dn:∀{is:List Nat} {ds vs:List Val} {venv venv':VEnv} {env:Env},bindAllV is ds venv=some venv'->Dns A h ds vs->ER A venv env h->(∀i∈is,i<venv.length->i<env.length)->∃env',bindAll is vs env=some env'/\ER A venv' env' h
 | [],[],vs,venv,venv',env,e,q,er,_=>by
  rw[Dns] at q;subst q
  simp only[bindAllV] at e;cases e
  exact⟨env,rfl,er⟩
 | i::is,d::ds,vs,venv,venv',env,e,q,er,hl=>by
  rw[Dns] at q
  obtain⟨v,r,rfl,q1,q2⟩:=q
  simp only[bindAllV] at e
  have er':ER A (venv.set i (some (.sh,d))) (env.set i (some v)) h:=fun j f d' hj=>by
   by_cases hij:i=j
   ·subst hij
    have hi:i<venv.length:=by have:=(List.getElem?_eq_some_iff.mp hj).1;simpa using this
    rw[List.getElem?_set_self hi] at hj
    cases hj
    rw[if_neg (by decide)]
    exact⟨v,by rw[List.getElem?_set_self (hl i List.mem_cons_self hi)],q1⟩
   ·rw[List.getElem?_set_ne hij] at hj
    rw[List.getElem?_set_ne hij]
    exact er j f d' hj
  simp only[bindAll]
  exact bind_dn e q2 er' fun j hj hl'=>by simpa using hl j (List.mem_cons_of_mem _ hj) (by simpa using hl')
 | [],_::_,_,_,_,_,e,_,_,_=>by simp[bindAllV] at e
 | _::_,[],_,_,_,_,e,_,_,_=>by simp[bindAllV] at e
theorem bindV_dn{p:Pat}{d v:Val}{venv venv':VEnv}{env:Env}(e:bindV p d venv=some venv')(q:Dn A h d v)(er:ER A venv env h)(hl:venv.length<=env.length):∃env',bindE p v env=some env'/\ER A venv' env' h:=by
 cases p with
 | one i =>
  simp only[bindV] at e;cases e
  refine⟨_,rfl,fun j f d' hj=>?_⟩
  by_cases hij:i=j
  ·subst hij
   have hi:i<venv.length:=by have:=(List.getElem?_eq_some_iff.mp hj).1;simpa using this
   rw[List.getElem?_set_self hi] at hj
   cases hj
   rw[if_neg (by decide)]
   exact⟨v,by rw[List.getElem?_set_self (by omega)],q⟩
  ·rw[List.getElem?_set_ne hij] at hj
   rw[List.getElem?_set_ne hij]
   exact er j f d' hj
 | tup is =>
  cases d<;>simp only[bindV] at e<;>first|(cases e;done)|skip
  rw[Dn] at q
  obtain⟨vs,rfl,q⟩:=q
  exact bind_dn e q er fun i _ hi=>by omega
theorem envC_dn{venv:VEnv}{env:Env}{js:List (Option Nat)}(e:ER A venv env h):ER A (envCV js venv) (envC js env) h:=fun i f d q=>by
 unfold envCV at q
 rw[List.getElem?_map] at q
 cases hj:js[i]? with
 | none=>rw[hj] at q;cases q
 | some o =>
  rw[hj] at q
  simp only[Option.map_some] at q
  cases o with
  | none=>cases q
  | some j =>
   dsimp only at q
   cases ej:venv[j]? with
   | none=>rw[ej] at q;cases q
   | some w =>
    cases w with
    | none=>rw[ej] at q;cases q
    | some fd =>
     rw[ej] at q
     cases q
     have:=e j f d ej
     revert this
     generalize rdM f=t
     intro this
     cases t with
     | false =>
      rw[if_pos rfl] at this |-
      obtain⟨a,k2,k3⟩:=this
      refine⟨a,?_,k3⟩
      unfold envC
      rw[List.getElem?_map,hj]
      simp only[Option.map_some]
      rw[k2]
     | true =>
      rw[if_neg (by decide)] at this |-
      obtain⟨v,k1,k2⟩:=this
      refine⟨v,?_,k2⟩
      unfold envC
      rw[List.getElem?_map,hj]
      simp only[Option.map_some]
      rw[k1]
theorem comp_rel{src:Src}{ws:List Val}{f:Val->M (Option Val)}{g:Val->Pr (Option FV)}{hb:Hs} :
  ∀(xs:List Val) (vs:List Val) (i:Nat) (acc:List Val) (h:Hs),hb<+:h->Up A h->(∀h',h<+:h'->src.items h'=some ws)->ws.drop i=vs->Dns A h xs vs ->
   (∀x v h',h<+:h'->Dn A h' x v->Rel A h' (fun o h'' o'=>match o,o' with|some e,some e'=>RV A hb e h'' e'|none,none=>True|_,_=>False) (f v h') (g x)) ->
   Rel A h (fun p h' ys=>∃zs,ys=acc++zs/\Dns A h' p.2 zs/\(p.1=true->Dns (Fr hb.length) h' p.2 zs)) (compM src f vs.length i acc h) (compV g xs)
 | [],vs,i,acc,h,pb',u,hi,hd,q,hf=>by
  rw[Dns] at q;subst q
  have hl:ws.length<=i:=List.drop_eq_nil_iff.mp hd
  have ev:compM src f ([]:List Val).length i acc h=.ok acc h:=by
   show compM src f 0 i acc h=_
   simp only[compM]
   unfold bnd ask lft guardM;dsimp only;rw[hi h (List.prefix_refl _)];dsimp only;rw[if_pos (decide_eq_true hl)];rfl
  rw[ev,compV]
  exact⟨acc,h,rfl,List.prefix_refl _,[],by simp,Dns.nil,fun _=>Dns.nil⟩
 | x::xs,vs,i,acc,h,pb',u,hi,hd,q,hf=>by
  rw[Dns] at q
  obtain⟨v,r,rfl,q1,q2⟩:=q
  have hv:ws[i]?=some v:=by
   have:=congrArg (fun l=>l[0]?) hd
   simpa using this
  have hr:ws.drop (i+1)=r:=by
   have:ws.drop (i+1)=(ws.drop i).drop 1:=by rw[List.drop_drop]
   rw[this,hd];rfl
  have ev:compM src f (v::r).length i acc h=bnd (f v) (fun o=>compM src f r.length (i+1) (match o with|some e=>acc++[e]|none=>acc)) h:=by
   show compM src f (r.length+1) i acc h=_
   simp only[compM]
   unfold bnd ask lft;dsimp only;rw[hi h (List.prefix_refl _)];dsimp only;rw[hv];try rfl
  rw[ev,compV]
  refine rel_bnd (hf x v h (List.prefix_refl _) q1) fun o h1 o' p1 ho=>?_
  have ih:=fun acc'=>comp_rel xs r (i+1) acc' h1 (pb'.trans p1) (u.ext p1) (fun h' p=>hi h' (p1.trans p)) hr (q2.ext p1) fun x v h' p=>hf x v h' (p1.trans p)
  cases o' with
  | some e' =>
   cases o with
   | none=>exact ho.elim
   | some e =>
    have ih:=ih (acc++[e'])
    cases e2:compV g xs with
    | ok p =>
     rw[e2] at ih
     obtain⟨ys,h2,e3,p2,zs,rfl,z1,z2⟩:=ih
     refine⟨_,h2,e3,p2,e'::zs,by simp,Dns.cons (ho.1.ext p2) z1,fun hp=>?_⟩
     have hp':e.1=true/\p.1=true:=by simpa using hp
     exact Dns.cons ((ho.2 hp'.1).ext p2) (z2 hp'.2)
    | exc c es=>rw[e2] at ih;exact ih
    | no=>trivial
  | none =>
   cases o with
   | some e'=>exact ho.elim
   | none =>
    have ih:=ih acc
    cases e2:compV g xs with
    | ok p =>
     rw[e2] at ih
     obtain⟨ys,h2,e3,p2,zs,rfl,z1,z2⟩:=ih
     exact⟨_,h2,e3,p2,zs,rfl,z1,z2⟩
    | exc c es=>rw[e2] at ih;exact ih
    | no=>trivial
theorem v_comp{N:List Str}{js:List (Option Nat)}{pat:Pat}{k:Ik}{it:IEs}{c elt:IE}(hs:VOks Φ Ψ it)(hc:VOk Φ Ψ c)(he:VOk Φ Ψ elt):VOk Φ Ψ (.comp N js pat k it c elt):=fun venv env A h u e=>by
 rw[evE,evV]
 refine rel_bnd (hs.2 venv env A h u e) fun ds h1 vs p1 q1=>rel_bnd (src_rel q1) fun xs h2 src p2 q2=>?_
 obtain⟨ws,q3,q4⟩:=q2
 have l:=q3.length
 have ev:∀(F:List Val->M Val),bnd (ask fun h=>src.items h) F h2=F ws h2:=fun F=>by unfold bnd ask lft;dsimp only;rw[q4 h2 (List.prefix_refl _)]
 rw[ev]
 refine rel_guard (fun z=>by rw[<-l];exact z) fun _=>?_
 have u2:=(u.ext p1).ext p2
 have e2:=(e.ext p1).ext p2
 refine rel_bnd (comp_rel (hb:=h) xs ws 0 [] h2 (p1.trans p2) u2 q4 rfl q3 fun x v h' p' qx=>?_) fun p h3 ys p3 hp=>?_
 ·refine rel_bnd (R:=fun venv' _ env'=>∃_:ER A venv' env' h',True) (rel_lft fun venv' ev'=>?_) fun venv' h4 env' p4 he'=>?_
  ·obtain⟨env',a1,a2⟩:=bindV_dn ev' qx (envC_dn (e2.ext p')) (by simp[envCV,envC])
   exact⟨env',a1,a2,trivial⟩
  ·obtain⟨er,_⟩:=he'
   have er:=er.ext p4
   have u4:=(u2.ext p').ext p4
   have tst:Rel A h4 (fun t _ t'=>t'=t) ((if isNo c=true then ret true else bnd (evE Φ c env') fun v=>ask fun h=>truH h v) h4) (if isNo c=true then .ok true else pb (evV Ψ c venv') fun v=>pl (truH [] v.2)):=by
    by_cases hn:isNo c=true
    ·rw[if_pos hn,if_pos hn];exact rel_ret rfl
    ·rw[if_neg hn,if_neg hn]
     exact rel_bnd (hc venv' env' A h4 u4 er) fun y h5 w p5 q5=>rel_ask fun t et=>⟨t,tru_dn q5.br et,rfl⟩
   refine rel_bnd tst fun t h5 t' p5 et=>?_
   subst et
   cases t' with
   | true =>
    rw[if_pos rfl,if_pos rfl]
    exact rel_bnd (he venv' env' A h5 (u4.ext p5) (er.ext p5)) fun y h6 w p6 q6=>rel_ret (q6.up ((p1.trans p2).trans (p'.trans (p4.trans p5))))
   | false =>
    rw[if_neg Bool.false_ne_true,if_neg Bool.false_ne_true]
    exact rel_ret trivial
 ·obtain⟨zs,rfl,z1,z2⟩:=hp
  exact rel_new (u2.ext p3) ((p1.trans p2).trans p3) z1 z2
mutual
noncomputable def okB:IE->Bool
 | .cst d=>imm d
 | .con _ d=>imm d
 | .bin _ a b=>okB a&&okB b
 | .neg a=>okB a
 | .cmp _ a b=>okB a&&okB b
 | .chn _ _ a b c=>okB a&&okB b&&okB c
 | .and a b=>okB a&&okB b
 | .or a b=>okB a&&okB b
 | .not a=>okB a
 | .ite a b c=>okB a&&okB b&&okB c
 | .tup es=>okBs es
 | .lst es=>okBs es
 | .idx a b=>okB a&&okB b
 | .slc a b c=>okB a&&okB b&&okB c
 | .call _ es=>okBs es
 | .blt _ es=>okBs es
 | .met _ a es=>okB a&&okBs es
 | .comp _ _ _ _ es a b=>okBs es&&okB a&&okB b
 | .var _=>true
 | .no=>true
 | .dct0=>true
 | .sset a=>okB a
 | .dget a b c=>okB a&&okB b&&okB c
 | .dct1 a b=>okB a&&okB b
 | .lkeys a=>okB a
 | .sdef ..=>false
 | .svals _=>false
 | .skeys a=>okB a
 | .fld _ a _=>okB a
 | .mth a _ _ es=>okB a&&okBs es
 | .rev a b=>okB a&&okB b
 | .dflt _ _ _ _ a b=>okB a&&okB b
 | .isc a _ _=>okB a
noncomputable def okBs:IEs->Bool
 | .nil=>true
 | .cons e es=>okB e&&okBs es
end
theorem v_all(hΦ:∀j,Imp (Φ j) (Ψ j)):(∀ir,okB ir=true->VOk Φ Ψ ir)/\∀irs,okBs irs=true->VOks Φ Ψ irs:=by
 have one:∀ir,okB ir=true->VOk Φ Ψ ir:=by
  intro ir
  refine IE.rec (motive_1:=fun ir=>okB ir=true->VOk Φ Ψ ir) (motive_2:=fun irs=>okBs irs=true->VOks Φ Ψ irs) ?_ ?_ ?_ ?_ ?_ ?_ ?_ ?_ ?_ ?_ ?_ ?_ ?_ ?_ ?_ ?_ ?_ ?_ ?_ ?_ ?_ ?_ ?_ ?_ ?_ ?_ ?_ ?_ ?_ ?_ ?_ ?_ ?_ ?_ ?_ ir
  ·exact fun _ _=>v_var
  ·exact fun _ f=>v_cst (by rw[okB] at f;exact f)
  ·exact fun _ _ f=>v_con (by rw[okB] at f;exact f)
  ·exact fun _=>v_no
  ·intro _ _ _ a b f;rw[okB,Bool.and_eq_true] at f;exact v_bin (a f.1) (b f.2)
  ·intro _ a f;rw[okB] at f;exact v_neg (a f)
  ·intro _ _ _ a b f;rw[okB,Bool.and_eq_true] at f;exact v_cmp (a f.1) (b f.2)
  ·intro _ _ _ _ _ a b c f;rw[okB,Bool.and_eq_true,Bool.and_eq_true] at f;exact v_chn (a f.1.1) (b f.1.2) (c f.2)
  ·intro _ _ a b f;rw[okB,Bool.and_eq_true] at f;exact v_and (a f.1) (b f.2)
  ·intro _ _ a b f;rw[okB,Bool.and_eq_true] at f;exact v_or (a f.1) (b f.2)
  ·intro _ a f;rw[okB] at f;exact v_not (a f)
  ·intro _ _ _ a b c f;rw[okB,Bool.and_eq_true,Bool.and_eq_true] at f;exact v_ite (a f.1.1) (b f.1.2) (c f.2)
  ·intro _ a f;rw[okB] at f;exact v_tup (a f)
  ·intro _ a f;rw[okB] at f;exact v_lst (a f)
  ·intro _ _ a b f;rw[okB,Bool.and_eq_true] at f;exact v_idx (a f.1) (b f.2)
  ·intro _ _ _ a b c f;rw[okB,Bool.and_eq_true,Bool.and_eq_true] at f;exact v_slc (a f.1.1) (b f.1.2) (c f.2)
  ·intro _ _ a f;rw[okB] at f;exact v_call hΦ (a f)
  ·intro _ _ a f;rw[okB] at f;exact v_blt (a f)
  ·intro _ _ _ a b f;rw[okB,Bool.and_eq_true] at f;exact v_met (a f.1) (b f.2)
  ·intro _ _ _ _ _ _ _ a b c f;rw[okB,Bool.and_eq_true,Bool.and_eq_true] at f;exact v_comp (a f.1.1) (b f.1.2) (c f.2)
  ·exact fun _=>v_dct0
  ·intro _ a f;rw[okB] at f;exact v_sset (a f)
  ·intro _ _ _ a b c f;rw[okB,Bool.and_eq_true,Bool.and_eq_true] at f;exact v_dget (a f.1.1) (b f.1.2) (c f.2)
  ·intro _ _ a b f;rw[okB,Bool.and_eq_true] at f;exact v_dct1 (a f.1) (b f.2)
  ·intro _ a f;rw[okB] at f;exact v_lkeys (a f)
  ·intro _ _ _ _ _ _ f;rw[okB] at f;cases f
  ·intro _ _ f;rw[okB] at f;cases f
  ·intro _ a f;rw[okB] at f;exact v_skeys (a f)
  ·intro _ _ _ a f;rw[okB] at f;exact v_fld (a f)
  ·intro _ _ _ _ a b f;rw[okB,Bool.and_eq_true] at f;exact v_mth hΦ (a f.1) (b f.2)
  ·intro _ _ a b f;rw[okB,Bool.and_eq_true] at f;exact v_rev (a f.1) (b f.2)
  ·intro _ _ _ _ _ _ a b f;rw[okB,Bool.and_eq_true] at f;exact v_dflt (a f.1) (b f.2)
  ·intro _ _ _ a f;rw[okB] at f;exact v_isc (a f)
  ·exact fun _=>v_nil
  ·intro _ _ a b f;rw[okBs,Bool.and_eq_true] at f;exact v_cons (a f.1) (b f.2)
 refine⟨one,fun irs=>?_⟩
 induction irs using IEs.rec (motive_1:=fun _=>True) with
 | nil=>exact fun _=>v_nil
 | cons e es _ ih=>exact fun f=>by rw[okBs,Bool.and_eq_true] at f;exact v_cons (one e f.1) (ih f.2)
 | _=>trivial
end
end Hv
end
section
namespace Hv
open PySem L2
section
variable {A A':AP} {h h':Hs}
mutual
theorem Dn.move(hn:A none->A' none)(hh:∀(i:Nat) (o:Ob),A (some i)->h[i]?=some o->A' (some i)/\h'[i]?=some o):∀(d v:Val),Dn A h d v->Dn A' h' d v
 | .non,v,e=>by rw[Dn] at e |-;exact e
 | .bl _,v,e=>by rw[Dn] at e |-;exact e
 | .int _,v,e=>by rw[Dn] at e |-;exact e
 | .str _,v,e=>by rw[Dn] at e |-;exact e
 | .tup ds,v,e=>by
  rw[Dn] at e |-
  obtain⟨vs,rfl,q⟩:=e
  exact⟨vs,rfl,Dns.move hn hh ds vs q⟩
 | .rl ds,v,e=>by
  rw[Dn] at e |-
  rcases e with ⟨vs,rfl,n,q⟩|⟨i,vs,rfl,a,g,q⟩
  ·exact .inl ⟨vs,rfl,hn n,Dns.move hn hh ds vs q⟩
  ·exact .inr ⟨i,vs,rfl,(hh i _ a g).1,(hh i _ a g).2,Dns.move hn hh ds vs q⟩
 | .dc ks ds,v,e=>by
  rw[Dn] at e |-
  obtain⟨i,kvs,rfl,a,g,k,q⟩:=e
  exact⟨i,kvs,rfl,(hh i _ a g).1,(hh i _ a g).2,k,Dns.move hn hh ds _ q⟩
 | .ob c xs ds,v,e=>by
  rw[Dn] at e |-
  obtain⟨i,kvs,rfl,a,g,k,q⟩:=e
  exact⟨i,kvs,rfl,(hh i _ a g).1,(hh i _ a g).2,k,Dns.move hn hh ds _ q⟩
 | .ref _,v,e=>by rw[Dn] at e;exact e.elim
theorem Dns.move(hn:A none->A' none)(hh:∀(i:Nat) (o:Ob),A (some i)->h[i]?=some o->A' (some i)/\h'[i]?=some o):∀(ds vs:List Val),Dns A h ds vs->Dns A' h' ds vs
 | [],vs,e=>by rw[Dns] at e |-;exact e
 | d::ds,vs,e=>by
  rw[Dns] at e |-
  obtain⟨v,r,rfl,q1,q2⟩:=e
  exact⟨v,r,rfl,Dn.move hn hh d v q1,Dns.move hn hh ds r q2⟩
end
end
noncomputable def Al(A0:AP)(O:Nat->Option Nat):AP:=fun o=>A0 o/\∀i,o.isSome=true->O i≠o
structure SR (A0:AP) (h0:Hs) (venv:VEnv) (env:Env) (h:Hs) (O:Nat->Option Nat):Prop where
 len:venv.length=env.length
 sh:∀(i:Nat) (m:Mk) (d:Val),venv[i]?=some (some (m,d))->rdM m=true->∃v,env[i]?=some (some v)/\Dn (Al A0 O) h d v/\(nwM m=true->Dn (Al (Fr h0.length) O) h d v)
 ow:∀(i:Nat) (d:Val),venv[i]?=some (some (.ow,d))->∃a,env[i]?=some (some (.ref a))/\O i=some a/\OD (Al A0 O) h d a
 own:∀i a,O i=some a->h0.length<=a/\a<h.length/\∃d,venv[i]?=some (some (.ow,d))
 inj:∀i j a,O i=some a->O j=some a->i=j
 pre:h0<+:h
 up:Up A0 h0
structure Fm (m:List Nat) (venv:VEnv) (env:Env) (h:Hs) (O:Nat->Option Nat) (venv':VEnv) (env':Env) (h':Hs) (O':Nat->Option Nat):Prop where
 le:h.length<=h'.length
 keep:∀k,k<h.length->(∀i,O i≠some k)->h'[k]?=h[k]?/\∀i,O' i≠some k
 stay:∀i,i∉m->O' i=O i/\venv'[i]?=venv[i]?/\env'[i]?=env[i]?/\∀a,O i=some a->h'[a]?=h[a]?
noncomputable def RF(A0:AP)(h0:Hs)(m:List Nat)(venv:VEnv)(env:Env)(h:Hs)(O:Nat->Option Nat):VFl->Hs->Fl->Prop
 | .nx venv',h',.nx env'=>∃O',SR A0 h0 venv' env' h' O'/\Fm m venv env h O venv' env' h' O'
 | .bk venv',h',.bk env'=>∃O',SR A0 h0 venv' env' h' O'/\Fm m venv env h O venv' env' h' O'
 | .ct venv',h',.ct env'=>∃O',SR A0 h0 venv' env' h' O'/\Fm m venv env h O venv' env' h' O'
 | .rt p,h',.rt v=>Dn A0 h' p.2 v/\(p.1=true->Dn (Fr h0.length) h' p.2 v)/\h0<+:h'
 | _,_,_=>False
noncomputable def RelS(A0:AP)(h0:Hs){α β:Type}(R:α -> Hs -> β -> Prop)(o:Out β):Pr α -> Prop
 | .ok f=>∃g h',o=.ok g h'/\R f h' g
 | .exc c es=>∃ws h',o=.exc c ws h'/\h0<+:h'/\Dns A0 h' es ws
 | .no=>True
section
variable {A0:AP} {h0:Hs} {venv:VEnv} {env:Env} {h h1:Hs} {O:Nat->Option Nat} {m:List Nat}
theorem SR.er(s:SR A0 h0 venv env h O):ER (Al A0 O) venv env h:=fun i f d e=>by
 cases f with
 | ow =>
  rw[if_pos (show rdM .ow=false by decide)]
  obtain⟨a,k2,_,k3⟩:=s.ow i d e
  exact⟨a,k2,k3⟩
 | sh=>rw[if_neg (by decide)];obtain⟨v,k1,k2,_⟩:=s.sh i _ d e rfl;exact⟨v,k1,k2⟩
 | nw=>rw[if_neg (by decide)];obtain⟨v,k1,k2,_⟩:=s.sh i _ d e rfl;exact⟨v,k1,k2⟩
theorem SR.upA(s:SR A0 h0 venv env h O):Up (Al A0 O) h:=fun k hk=>⟨s.up k (Nat.le_trans s.pre.length_le hk),fun i _ e=>by have:=(s.own i k e).2.1;omega⟩
theorem SR.ext(s:SR A0 h0 venv env h O)(p:h<+:h1):SR A0 h0 venv env h1 O where
 len:=s.len
 sh i m d e hm:=by obtain⟨v,k1,k2,k3⟩:=s.sh i m d e hm;exact⟨v,k1,k2.ext p,fun z=>(k3 z).ext p⟩
 ow i d e:=by obtain⟨a,k2,k3,k4⟩:=s.ow i d e;exact⟨a,k2,k3,k4.ext p⟩
 own i a e:=by obtain⟨k1,k2,k3⟩:=s.own i a e;exact⟨k1,Nat.lt_of_lt_of_le k2 p.length_le,k3⟩
 inj:=s.inj
 pre:=s.pre.trans p
 up:=s.up
theorem pre_get'(p:h<+:h1){k:Nat}(hk:k<h.length):h1[k]?=h[k]?:=by
 obtain⟨t,rfl⟩:=p
 rw[List.getElem?_append_left hk]
theorem Fm.refl(s:SR A0 h0 venv env h O)(p:h<+:h1):Fm m venv env h O venv env h1 O where
 le:=p.length_le
 keep k hk n:=⟨pre_get' p hk,n⟩
 stay i _:=⟨rfl,rfl,rfl,fun a e=>pre_get' p (s.own i a e).2.1⟩
theorem Fm.trans{venv1 venv2:VEnv}{env1 env2:Env}{h2:Hs}{O1 O2:Nat->Option Nat}(a:Fm m venv env h O venv1 env1 h1 O1)(b:Fm m venv1 env1 h1 O1 venv2 env2 h2 O2):Fm m venv env h O venv2 env2 h2 O2 where
 le:=Nat.le_trans a.le b.le
 keep k hk n:=by
  obtain⟨a1,a2⟩:=a.keep k hk n
  obtain⟨b1,b2⟩:=b.keep k (Nat.lt_of_lt_of_le hk a.le) a2
  exact⟨b1.trans a1,b2⟩
 stay i hi:=by
  obtain⟨a1,a2,a3,a4⟩:=a.stay i hi
  obtain⟨b1,b2,b3,b4⟩:=b.stay i hi
  exact⟨b1.trans a1,b2.trans a2,b3.trans a3,fun c e=>(b4 c (a1.trans e)).trans (a4 c e)⟩
theorem Fm.wid{m':List Nat}{venv':VEnv}{env':Env}{O':Nat->Option Nat}(hm:∀i∈m,i∈m')(a:Fm m venv env h O venv' env' h1 O'):Fm m' venv env h O venv' env' h1 O':=⟨a.le,a.keep,fun i hi=>a.stay i fun z=>hi (hm i z)⟩
theorem RF.pre{f:VFl}{h':Hs}{g:Fl}(s:SR A0 h0 venv env h O)(p:h<+:h1)(r:RF A0 h0 m venv env h1 O f h' g):RF A0 h0 m venv env h O f h' g:=by
 cases f<;>cases g<;>first|exact r.elim|exact r|(obtain⟨O',a,b⟩:=r;exact⟨O',a,(Fm.refl s p).trans b⟩)
theorem RF.wid{m':List Nat}{f:VFl}{h':Hs}{g:Fl}(hm:∀i∈m,i∈m')(r:RF A0 h0 m venv env h O f h' g):RF A0 h0 m' venv env h O f h' g:=by
 cases f<;>cases g<;>first|exact r.elim|exact r|(obtain⟨O',a,b⟩:=r;exact⟨O',a,b.wid hm⟩)
theorem RF.seq{venv1:VEnv}{env1:Env}{O1:Nat->Option Nat}{f:VFl}{h':Hs}{g:Fl}(a:Fm m venv env h O venv1 env1 h1 O1)(r:RF A0 h0 m venv1 env1 h1 O1 f h' g):RF A0 h0 m venv env h O f h' g:=by
 cases f<;>cases g<;>first|exact r.elim|exact r|(obtain⟨O',b,c⟩:=r;exact⟨O',b,a.trans c⟩)
theorem rels_bnd{α β γ δ:Type}{R:α -> Hs -> β -> Prop}{R':γ -> Hs -> δ -> Prop}{mm:M β}{f:β -> M δ}{p:Pr α}{F:α -> Pr γ}(s:SR A0 h0 venv env h O)(r:Rel (Al A0 O) h R (mm h) p)(k:∀a h1 b,h<+:h1->R a h1 b->RelS A0 h0 R' (f b h1) (F a)):RelS A0 h0 R' (bnd mm f h) (pb p F):=by
 unfold bnd
 cases p with
 | ok a=>obtain⟨b,h1,e,q,r⟩:=r;rw[e];exact k a h1 b q r
 | exc c es=>obtain⟨ws,h1,e,q,r⟩:=r;rw[e];exact⟨ws,h1,rfl,s.pre.trans q,r.wid fun _ z=>z.1⟩
 | no=>trivial
theorem rels_ret{α β:Type}{R:α -> Hs -> β -> Prop}{a:α}{b:β}(r:R a h b):RelS A0 h0 R (ret b h) (.ok a):=⟨b,h,rfl,r⟩
theorem rels_mono{α β:Type}{R R':α -> Hs -> β -> Prop}{o:Out β}{p:Pr α}(r:RelS A0 h0 R o p)(k:∀a h' b,R a h' b->R' a h' b):RelS A0 h0 R' o p:=by
 cases p with
 | ok a=>obtain⟨b,h',e,r⟩:=r;exact⟨b,h',e,k a h' b r⟩
 | exc c es=>exact r
 | no=>trivial
theorem rels_seq{α β γ δ:Type}{R:α -> Hs -> β -> Prop}{R':γ -> Hs -> δ -> Prop}{mm:M β}{f:β -> M δ}{p:Pr α}{F:α -> Pr γ}(r:RelS A0 h0 R (mm h) p)(k:∀a h1 b,R a h1 b->RelS A0 h0 R' (f b h1) (F a)):RelS A0 h0 R' (bnd mm f h) (pb p F):=by
 unfold bnd
 cases p with
 | ok a=>obtain⟨b,h1,e,r⟩:=r;rw[e];exact k a h1 b r
 | exc c es=>obtain⟨ws,h1,e,q,r⟩:=r;rw[e];exact⟨ws,h1,rfl,q,r⟩
 | no=>trivial
theorem rels_pg{α β:Type}{R:α -> Hs -> β -> Prop}{c:Bool}{o:Out β}{p:Pr α}(r:c=true->RelS A0 h0 R o p):RelS A0 h0 R o (pg c p):=by
 unfold pg
 cases c with
 | true=>rw[if_pos rfl];exact r rfl
 | false=>rw[if_neg Bool.false_ne_true];trivial
noncomputable def drop1(O:Nat->Option Nat)(i:Nat):Nat->Option Nat:=fun j=>if j=i then none else O j
theorem al_none:Al A0 O none->Al A0 O none:=id
theorem al_none'{O':Nat->Option Nat}:Al A0 O none->Al A0 O' none:=fun h=>⟨h.1,fun _ z=>by cases z⟩
theorem al_drop{i:Nat}:∀k,Al A0 O k->Al A0 (drop1 O i) k:=fun k ⟨a,b⟩=>⟨a,fun j z=>by unfold drop1;split;(cases k<;>simp_all);exact b j z⟩
theorem SR.setM(s:SR A0 h0 venv env h O){i:Nat}{mk:Mk}{d v:Val}(hmk:rdM mk=true)(q:Dn (Al A0 O) h d v)(qn:nwM mk=true->Dn (Al (Fr h0.length) O) h d v):SR A0 h0 (venv.set i (some (mk,d))) (env.set i (some v)) h (drop1 O i)/\Fm [i] venv env h O (venv.set i (some (mk,d))) (env.set i (some v)) h (drop1 O i):=by
 refine⟨⟨by simp[s.len],fun j m' d' e hm'=>?_,fun j d' e=>?_,fun j a e=>?_,fun j l a e1 e2=>?_,s.pre,s.up⟩,Nat.le_refl _,fun k hk n=>⟨rfl,fun j=>?_⟩,fun j hj=>?_⟩
 ·by_cases hij:i=j
  ·subst hij
   have hi:i<venv.length:=by have:=(List.getElem?_eq_some_iff.mp e).1;simpa using this
   rw[List.getElem?_set_self hi] at e
   cases e
   exact⟨v,by rw[List.getElem?_set_self (by rw[<-s.len];exact hi)],q.wid al_drop,fun z=>(qn z).wid al_drop⟩
  ·rw[List.getElem?_set_ne hij] at e
   rw[List.getElem?_set_ne hij]
   obtain⟨w,k1,k2,k3⟩:=s.sh j m' d' e hm'
   exact⟨w,k1,k2.wid al_drop,fun z=>(k3 z).wid al_drop⟩
 ·by_cases hij:i=j
  ·subst hij
   have hi:i<venv.length:=by have:=(List.getElem?_eq_some_iff.mp e).1;simpa using this
   rw[List.getElem?_set_self hi] at e
   cases e;cases hmk
  ·rw[List.getElem?_set_ne hij] at e
   rw[List.getElem?_set_ne hij]
   obtain⟨a,k2,k3,k4⟩:=s.ow j d' e
   exact⟨a,k2,by unfold drop1;rw[if_neg (fun z=>hij z.symm)];exact k3,k4.mono (fun _ g=>g) fun _ _ z=>z.wid al_drop⟩
 ·unfold drop1 at e
  split at e
  ·cases e
  ·rename_i hj
   obtain⟨k1,k2,d',k3⟩:=s.own j a e
   exact⟨k1,k2,d',by rw[List.getElem?_set_ne (fun z=>hj z.symm)];exact k3⟩
 ·unfold drop1 at e1 e2
  split at e1
  ·cases e1
  ·split at e2
   ·cases e2
   ·exact s.inj j l a e1 e2
 ·unfold drop1;split;simp;exact n j
 ·have hj':j≠i:=by simpa using hj
  exact⟨by unfold drop1;rw[if_neg hj'],List.getElem?_set_ne (fun z=>hj' z.symm),List.getElem?_set_ne (fun z=>hj' z.symm),fun _ _=>rfl⟩
theorem SR.set(s:SR A0 h0 venv env h O){i:Nat}{d v:Val}(q:Dn (Al A0 O) h d v):SR A0 h0 (venv.set i (some (.sh,d))) (env.set i (some v)) h (drop1 O i)/\Fm [i] venv env h O (venv.set i (some (.sh,d))) (env.set i (some v)) h (drop1 O i):=s.setM rfl q fun z=>nomatch z
theorem SR.binds:∀{is:List Nat} {ds vs:List Val} {venv:VEnv} {env:Env} {O:Nat->Option Nat} {venv':VEnv},SR A0 h0 venv env h O->bindAllV is ds venv=some venv'->Dns (Al A0 O) h ds vs ->
  ∃env' O',bindAll is vs env=some env'/\SR A0 h0 venv' env' h O'/\Fm is venv env h O venv' env' h O'
 | [],[],vs,venv,env,O,venv',s,e,q=>by
  rw[Dns] at q;subst q
  simp only[bindAllV] at e;cases e
  exact⟨env,O,rfl,s,Fm.refl s (List.prefix_refl _)⟩
 | i::is,d::ds,vs,venv,env,O,venv',s,e,q=>by
  rw[Dns] at q
  obtain⟨v,r,rfl,q1,q2⟩:=q
  simp only[bindAllV] at e
  obtain⟨s1,f1⟩:=s.set (i:=i) q1
  obtain⟨env',O',b1,b2,b3⟩:=SR.binds s1 e (q2.wid al_drop)
  refine⟨env',O',by simp only[bindAll];exact b1,b2,(f1.wid fun j hj=>?_).trans (b3.wid fun j hj=>List.mem_cons_of_mem _ hj)⟩
  rw[List.mem_singleton.mp hj];exact List.mem_cons_self
 | [],_::_,_,_,_,_,_,_,e,_=>by simp[bindAllV] at e
 | _::_,[],_,_,_,_,_,_,e,_=>by simp[bindAllV] at e
theorem SR.bind(s:SR A0 h0 venv env h O){p:Pat}{d v:Val}{venv':VEnv}(e:bindV p d venv=some venv')(q:Dn (Al A0 O) h d v):∃env' O',bindE p v env=some env'/\SR A0 h0 venv' env' h O'/\Fm (stored p) venv env h O venv' env' h O':=by
 cases p with
 | one i =>
  simp only[bindV] at e;cases e
  obtain⟨s1,f1⟩:=s.set (i:=i) q
  exact⟨_,_,rfl,s1,f1⟩
 | tup is =>
  cases d<;>simp only[bindV] at e<;>first|(cases e;done)|skip
  rw[Dn] at q
  obtain⟨vs,rfl,q⟩:=q
  exact s.binds e q
theorem set_pre{a:Nat}{o:Ob}(p:h0<+:h)(ha:h0.length<=a):h0<+:h.set a o:=by
 obtain⟨t,rfl⟩:=p
 rw[List.set_append_right _ _ ha]
 exact List.prefix_append _ _
theorem SR.put(s:SR A0 h0 venv env h O){i a:Nat}{d d1:Val}{ob:Ob}(e:venv[i]?=some (some (.ow,d)))(ha:O i=some a)(q:OB (Al A0 O) h d1 ob) :
  SR A0 h0 (venv.set i (some (.ow,d1))) env (h.set a ob) O/\Fm [i] venv env h O (venv.set i (some (.ow,d1))) env (h.set a ob) O:=by
 obtain⟨o1,o2,_⟩:=s.own i a ha
 have hi:i<venv.length:=(List.getElem?_eq_some_iff.mp e).1
 have mv:∀{A0:AP} (k:Nat) (o:Ob),Al A0 O k->h[k]?=some o->Al A0 O k/\(h.set a ob)[k]?=some o:=fun k o hk g=>⟨hk,by rw[List.getElem?_set_ne fun z=>hk.2 i rfl (by rw[<-z];exact ha)];exact g⟩
 obtain⟨a0,e2,e3,_⟩:=s.ow i d e
 refine⟨⟨by simp[s.len],fun j m' d' ej hm'=>?_,fun j d' ej=>?_,fun j b ej=>?_,s.inj,set_pre s.pre o1,s.up⟩,by simp,fun k hk n=>⟨?_,n⟩,fun j hj=>?_⟩
 ·by_cases hij:i=j
  ·subst hij;rw[List.getElem?_set_self hi] at ej;cases ej;cases hm'
  ·rw[List.getElem?_set_ne hij] at ej
   obtain⟨w,k1,k2,k3⟩:=s.sh j m' d' ej hm'
   exact⟨w,k1,Dn.move al_none mv _ _ k2,fun z=>Dn.move al_none mv _ _ (k3 z)⟩
 ·by_cases hij:i=j
  ·subst hij
   rw[List.getElem?_set_self hi] at ej;cases ej
   rw[ha] at e3;cases e3
   exact⟨a,e2,ha,q.od (by rw[List.getElem?_set_self o2]) fun _ _ z=>Dns.move al_none mv _ _ z⟩
  ·rw[List.getElem?_set_ne hij] at ej
   obtain⟨a1,k2,k3,k4⟩:=s.ow j d' ej
   have:a≠a1:=fun z=>hij (s.inj i j a ha (by rw[z];exact k3))
   exact⟨a1,k2,k3,k4.mono (fun _ g=>by rw[List.getElem?_set_ne this];exact g) fun _ _ z=>Dns.move al_none mv _ _ z⟩
 ·obtain⟨k1,k2,d',k3⟩:=s.own j b ej
  refine⟨k1,by simp[k2],?_⟩
  by_cases hij:i=j
  ·subst hij;exact⟨_,by rw[List.getElem?_set_self hi]⟩
  ·exact⟨d',by rw[List.getElem?_set_ne hij];exact k3⟩
 ·rw[List.getElem?_set_ne fun z=>n i (by rw[<-z];exact ha)]
 ·have hj':j≠i:=by simpa using hj
  exact⟨rfl,List.getElem?_set_ne (fun z=>hj' z.symm),rfl,fun b eb=>by rw[List.getElem?_set_ne fun z=>hj' (s.inj j i b eb (by rw[<-z];exact ha))]⟩
noncomputable def own1(O:Nat->Option Nat)(i a:Nat):Nat->Option Nat:=fun j=>if j=i then some a else O j
theorem SR.fresh(s:SR A0 h0 venv env h O){i:Nat}{d1:Val}{ob:Ob}{h2:Hs}(p:h<+:h2)(q:OB (Al A0 O) h2 d1 ob) :
  SR A0 h0 (venv.set i (some (.ow,d1))) (env.set i (some (.ref h2.length))) (h2++[ob]) (if i<venv.length then own1 O i h2.length else drop1 O i) /\
   Fm [i] venv env h O (venv.set i (some (.ow,d1))) (env.set i (some (.ref h2.length))) (h2++[ob]) (if i<venv.length then own1 O i h2.length else drop1 O i):=by
 have pp:h<+:h2++[ob]:=p.trans (List.prefix_append _ _)
 have s2:=s.ext p
 have mv:∀{A0:AP} (j:Nat),∀(k:Nat) (o:Ob),Al A0 O k->h2[k]?=some o->Al A0 (if i<venv.length then own1 O i h2.length else drop1 O i) k/\(h2++[ob])[k]?=some o:=fun {A0} j k o hk g=>by
  have hlt:k<h2.length:=(List.getElem?_eq_some_iff.mp g).1
  refine⟨?_,by rw[List.getElem?_append_left hlt];exact g⟩
  split
  ·refine⟨hk.1,fun l _=>?_⟩
   unfold own1
   split
   ·intro z;cases z;omega
   ·exact hk.2 l rfl
  ·exact al_drop k hk
 by_cases hi:i<venv.length
 ·rw[if_pos hi] at mv |-
  refine⟨⟨by simp[s.len],fun j m' d' ej hm'=>?_,fun j d' ej=>?_,fun j b ej=>?_,fun j l b e1 e2=>?_,s.pre.trans pp,s.up⟩,pp.length_le,fun k hk n=>⟨pre_get' pp hk,fun l=>?_⟩,fun j hj=>?_⟩
  ·by_cases hij:i=j
   ·subst hij;rw[List.getElem?_set_self hi] at ej;cases ej;cases hm'
   ·rw[List.getElem?_set_ne hij] at ej
    rw[List.getElem?_set_ne hij]
    obtain⟨w,k1,k2,k3⟩:=s2.sh j m' d' ej hm'
    exact⟨w,k1,Dn.move al_none' (mv 0) _ _ k2,fun z=>Dn.move al_none' (mv 0) _ _ (k3 z)⟩
  ·by_cases hij:i=j
   ·subst hij
    rw[List.getElem?_set_self hi] at ej;cases ej
    exact⟨h2.length,by rw[List.getElem?_set_self (by rw[<-s.len];exact hi)],by unfold own1;rw[if_pos rfl],q.od (by simp) fun _ _ z=>Dns.move al_none' (mv 0) _ _ z⟩
   ·rw[List.getElem?_set_ne hij] at ej
    rw[List.getElem?_set_ne hij]
    obtain⟨a1,k2,k3,k4⟩:=s2.ow j d' ej
    have hlt:a1<h2.length:=k4.lt
    exact⟨a1,k2,by unfold own1;rw[if_neg fun z=>hij z.symm];exact k3,k4.mono (fun _ g=>by rw[List.getElem?_append_left hlt];exact g) fun _ _ z=>Dns.move al_none' (mv 0) _ _ z⟩
  ·unfold own1 at ej
   split at ej
   ·rename_i hj;cases ej;subst hj
    exact⟨Nat.le_trans s.pre.length_le p.length_le,by simp,_,by rw[List.getElem?_set_self hi]⟩
   ·rename_i hj
    obtain⟨k1,k2,d',k3⟩:=s2.own j b ej
    exact⟨k1,by simp;omega,d',by rw[List.getElem?_set_ne fun z=>hj z.symm];exact k3⟩
  ·unfold own1 at e1 e2
   split at e1
   ·rename_i h1;cases e1
    split at e2
    ·rename_i h3;rw[h1,h3]
    ·have:=(s2.own l _ e2).2.1;omega
   ·split at e2
    ·cases e2;have:=(s2.own j _ e1).2.1;omega
    ·exact s.inj j l b e1 e2
  ·unfold own1;split
   ·intro z;cases z;have:=p.length_le;omega
   ·exact n l
  ·have hj':j≠i:=by simpa using hj
   exact⟨by unfold own1;rw[if_neg hj'],List.getElem?_set_ne (fun z=>hj' z.symm),List.getElem?_set_ne (fun z=>hj' z.symm),fun b eb=>pre_get' pp (s.own j b eb).2.1⟩
 ·rw[if_neg hi] at mv |-
  have e1:venv.set i (some (.ow,d1))=venv:=List.set_eq_of_length_le (by omega)
  have e2:env.set i (some (.ref h2.length))=env:=List.set_eq_of_length_le (by rw[<-s.len];omega)
  have e3:drop1 O i=O:=by
   funext j;unfold drop1;split
   ·rename_i hj;subst hj
    cases e:O j with
    | none=>rfl
    | some a=>obtain⟨_,_,d,k⟩:=s.own j a e;exact absurd (List.getElem?_eq_some_iff.mp k).1 hi
   ·rfl
  rw[e1,e2,e3]
  exact⟨s.ext pp,Fm.refl s pp⟩
end
end Hv
end
section
namespace Hv
open PySem L2
section
variable {Φ:Nat->List Val->M Val} {Ψ:Nat->List Val->Pr FV} {A:AP} {h h1:Hs}
noncomputable def isRef:Val->Bool
 | .rl _=>true
 | .dc _ _=>true
 | _=>false
noncomputable def RN(A:AP)(h:Hs):FV->Hs->Val->Prop:=fun x h' v=>isRef x.2=true->∃h2 o,h'=h2++[o]/\v=.ref h2.length/\h<+:h2/\OB A h2 x.2 o
noncomputable def NOk(Φ:Nat->List Val->M Val)(Ψ:Nat->List Val->Pr FV)(ir:IE):Prop:=∀(venv:VEnv) (env:Env) (A:AP) (h:Hs),Up A h->ER A venv env h->Rel A h (RN A h) (evE Φ ir env h) (evV Ψ ir venv)
theorem rel_newN{xs vs:List Val}{f:Bool}{h0:Hs}(p:h0<+:h)(q:Dns A h xs vs):Rel A h (RN A h0) (new (.lst vs) h) (.ok (f,.rl xs)) :=
 ⟨_,_,rfl,pre_snoc _,fun _=>⟨h,.lst vs,rfl,rfl,p,vs,rfl,q⟩⟩
theorem n_dct0:NOk Φ Ψ .dct0:=fun venv env A h u e=>by
 rw[evE,evV]
 exact⟨_,_,rfl,pre_snoc _,fun _=>⟨h,.dct [],rfl,rfl,List.prefix_refl _,[],rfl,rfl,Dns.nil⟩⟩
theorem n_dct1{k v:IE}(hk:VOk Φ Ψ k)(hv:VOk Φ Ψ v):NOk Φ Ψ (.dct1 k v):=fun venv env A h u e=>by
 rw[evE,evV]
 refine rel_bnd (hk venv env A h u e) fun x h1 w p1 q1=>rel_bnd (R:=fun kk _ kk'=>kk'=kk) (rel_lft fun kk ek=>⟨kk,key_dn q1.1 ek,rfl⟩) fun kk h2 kk' p2 hkk=>?_
 subst hkk
 refine rel_bnd (hv venv env A h2 ((u.ext p1).ext p2) ((e.ext p1).ext p2)) fun y h3 z p3 q3=>?_
 exact⟨_,_,rfl,pre_snoc _,fun _=>⟨h3,.dct [(kk',z)],rfl,rfl,(p1.trans p2).trans p3,[(kk',z)],rfl,rfl,Dns.cons q3.1 Dns.nil⟩⟩
theorem n_lst{es:IEs}(hs:VOks Φ Ψ es):NOk Φ Ψ (.lst es):=fun venv env A h u e=>by
 rw[evE,evV]
 exact rel_bnd (hs.1 venv env A h u e) fun x h1 vs p1 q1=>rel_guard (fun z=>by rw[<-q1.1.length];exact z) fun _=>rel_newN p1 q1.1
theorem n_slc{a lo hi:IE}(ha:VOk Φ Ψ a)(hl:VOk Φ Ψ lo)(hh:VOk Φ Ψ hi):NOk Φ Ψ (.slc a lo hi):=fun venv env A h u e=>by
 rw[evE,evV]
 refine rel_bnd (ok_b ha u e) fun x h1 v p1 q1=>rel_bnd (part_rel hl (u.ext p1) (e.ext p1)) fun l h2 l' p2 el=>rel_bnd (part_rel hh ((u.ext p1).ext p2) ((e.ext p1).ext p2)) fun r h3 r' p3 er=>?_
 subst el;subst er
 have q1:=DB.ext (p2.trans p3) q1
 obtain⟨f,d⟩:=x
 cases d with
 | tup ds =>
  obtain⟨vs,rfl,q⟩:=DB.tup q1
  have l:=q.length
  simp only[slcV,slcM]
  exact rel_guard (fun z=>by rw[l] at z;exact z) fun _=>rel_ret fun e=>by cases e
 | rl ds =>
  obtain⟨vs,e1,q⟩:=DB.lst q1
  have ev:slcM v l' r' h3=new (.lst (cutL vs l' r')) h3:=by
   have:slcM v l' r'=bnd (ask fun h=>lstOf h v) fun xs=>new (.lst (cutL xs l' r')):=by
    cases v<;>simp only[lstOf] at e1<;>first|(cases e1;done)|rfl
   rw[this];unfold bnd ask lft;dsimp only;rw[e1]
  rw[ev]
  exact rel_newN ((p1.trans p2).trans p3) (q.cut l' r')
 | _=>trivial
theorem n_list{es:IEs}(hs:VOks Φ Ψ es):NOk Φ Ψ (.blt .list es):=fun venv env A h u e=>by
 rw[evE,evV]
 refine rel_bnd (hs.2 venv env A h u e) fun ds h1 vs p1 q1=>?_
 match ds,q1 with
 | [],q1=>trivial
 | [d],q1 =>
  obtain⟨v,rfl,hv⟩:=q1.one
  exact rel_bnd (R:=fun xs h' ws=>Dns A h' xs ws) (rel_ask fun xs e=>hv.seq e) fun xs h2 ws p2 q=>rel_newN (p1.trans p2) q
 | _::_::_,_=>trivial
theorem n_sorted{es:IEs}(hs:VOks Φ Ψ es):NOk Φ Ψ (.blt .sorted es):=fun venv env A h u e=>by
 rw[evE,evV]
 refine rel_bnd (hs.2 venv env A h u e) fun ds h1 vs p1 q1=>?_
 match ds,q1 with
 | [],q1=>trivial
 | [d],q1 =>
  obtain⟨v,rfl,hv⟩:=q1.one
  cases d<;>first|trivial|skip
  rename_i xs
  obtain⟨ws,e1,q⟩:=hv.lst
  have ev:bnd (ask fun h=>lstOf h v) (fun xs=>bnd (lft (sortV xs)) fun ys=>new (.lst ys)) h1=bnd (lft (sortV ws)) (fun ys=>new (.lst ys)) h1:=by
   unfold bnd ask lft;dsimp only;rw[e1]
  show Rel A h1 (RN A h) (bnd (ask fun h=>lstOf h v) (fun xs=>bnd (lft (sortV xs)) fun ys=>new (.lst ys)) h1) _
  rw[ev]
  refine rel_bnd (R:=fun ys _ zs=>zs=ys/\imms ys=true) (rel_lft fun ys e=>?_) fun ys h2 zs p2 hz=>?_
  ·obtain⟨i1,i2⟩:=sortV_imm e
   rw[(imms_eq xs ws i1).mp q]
   exact⟨ys,e,rfl,i2⟩
  ·obtain⟨rfl,hi⟩:=hz
   exact rel_newN (p1.trans p2) ((imms_eq _ _ hi).mpr rfl)
 | x::_::_,_=>cases x<;>trivial
theorem n_comp{N:List Str}{js:List (Option Nat)}{pat:Pat}{k:Ik}{it:IEs}{c elt:IE}(hs:VOks Φ Ψ it)(hc:VOk Φ Ψ c)(he:VOk Φ Ψ elt):NOk Φ Ψ (.comp N js pat k it c elt):=fun venv env A h u e=>by
 rw[evE,evV]
 refine rel_bnd (hs.2 venv env A h u e) fun ds h1 vs p1 q1=>rel_bnd (src_rel q1) fun xs h2 src p2 q2=>?_
 obtain⟨ws,q3,q4⟩:=q2
 have l:=q3.length
 have ev:∀(F:List Val->M Val),bnd (ask fun h=>src.items h) F h2=F ws h2:=fun F=>by unfold bnd ask lft;dsimp only;rw[q4 h2 (List.prefix_refl _)]
 rw[ev]
 refine rel_guard (fun z=>by rw[<-l];exact z) fun _=>?_
 have u2:=(u.ext p1).ext p2
 have e2:=(e.ext p1).ext p2
 refine rel_bnd (comp_rel (hb:=h) xs ws 0 [] h2 (p1.trans p2) u2 q4 rfl q3 fun x v h' p' qx=>?_) fun p h3 ys p3 hp=>?_
 ·refine rel_bnd (R:=fun venv' _ env'=>∃_:ER A venv' env' h',True) (rel_lft fun venv' ev'=>?_) fun venv' h4 env' p4 he'=>?_
  ·obtain⟨env',a1,a2⟩:=bindV_dn ev' qx (envC_dn (e2.ext p')) (by simp[envCV,envC])
   exact⟨env',a1,a2,trivial⟩
  ·obtain⟨er,_⟩:=he'
   have er:=er.ext p4
   have u4:=(u2.ext p').ext p4
   have tst:Rel A h4 (fun t _ t'=>t'=t) ((if isNo c=true then ret true else bnd (evE Φ c env') fun v=>ask fun h=>truH h v) h4) (if isNo c=true then .ok true else pb (evV Ψ c venv') fun v=>pl (truH [] v.2)):=by
    by_cases hn:isNo c=true
    ·rw[if_pos hn,if_pos hn];exact rel_ret rfl
    ·rw[if_neg hn,if_neg hn]
     exact rel_bnd (hc venv' env' A h4 u4 er) fun y h5 w p5 q5=>rel_ask fun t et=>⟨t,tru_dn q5.br et,rfl⟩
   refine rel_bnd tst fun t h5 t' p5 et=>?_
   subst et
   cases t' with
   | true =>
    rw[if_pos rfl,if_pos rfl]
    exact rel_bnd (he venv' env' A h5 (u4.ext p5) (er.ext p5)) fun y h6 w p6 q6=>rel_ret (q6.up ((p1.trans p2).trans (p'.trans (p4.trans p5))))
   | false =>
    rw[if_neg Bool.false_ne_true,if_neg Bool.false_ne_true]
    exact rel_ret trivial
 ·obtain⟨zs,rfl,z1,z2⟩:=hp
  exact rel_newN ((p1.trans p2).trans p3) z1
theorem n_all(hΦ:∀j,Imp (Φ j) (Ψ j)){e:IE}(hf:frT e=true)(ho:okB e=true):NOk Φ Ψ e:=by
 have V:=v_all hΦ
 cases e<;>first|(cases hf;done)|skip
 ·rw[okB] at ho;exact n_lst (V.2 _ ho)
 ·rw[okB,Bool.and_eq_true,Bool.and_eq_true] at ho;exact n_slc (V.1 _ ho.1.1) (V.1 _ ho.1.2) (V.1 _ ho.2)
 ·rename_i b es
  rw[okB] at ho
  cases b<;>first|(cases hf;done)|skip
  ·exact n_sorted (V.2 _ ho)
  ·exact n_list (V.2 _ ho)
 ·rw[okB,Bool.and_eq_true,Bool.and_eq_true] at ho;exact n_comp (V.2 _ ho.1.1) (V.1 _ ho.1.2) (V.1 _ ho.2)
 ·exact n_dct0
 ·rw[okB,Bool.and_eq_true] at ho;exact n_dct1 (V.1 _ ho.1) (V.1 _ ho.2)
mutual
noncomputable def okS:IS->Bool
 | .expr e=>okB e
 | .asg _ e=>okB e
 | .aug _ _ e=>okB e
 | .setI o i v=>okB o&&okB i&&okB v
 | .iff c a b=>okB c&&okSs a&&okSs b
 | .for _ _ it b=>okBs it&&okSs b
 | .whl _ c b=>okB c&&okSs b
 | .ret e=>okB e
 | _=>true
noncomputable def okSs:ISs->Bool
 | .nil=>true
 | .cons s r=>okS s&&okSs r
end
noncomputable def mS(s:IS):List Nat:=mutS s++stoS s
noncomputable def mSs(s:ISs):List Nat:=mutSs s++stoSs s
variable {ms:List Nat}
noncomputable def SOk(Φ:Nat->List Val->M Val)(Ψ:Nat->List Val->Pr FV)(ms:List Nat)(s:IS):Prop:=∀(A0:AP) (h0:Hs) (venv:VEnv) (env:Env) (h:Hs) (O:Nat->Option Nat),SR A0 h0 venv env h O->RelS A0 h0 (RF A0 h0 (mS s) venv env h O) (evS Φ s env h) (evVS Ψ ms s venv)
noncomputable def SOks(Φ:Nat->List Val->M Val)(Ψ:Nat->List Val->Pr FV)(ms:List Nat)(s:ISs):Prop:=∀(A0:AP) (h0:Hs) (venv:VEnv) (env:Env) (h:Hs) (O:Nat->Option Nat),SR A0 h0 venv env h O->RelS A0 h0 (RF A0 h0 (mSs s) venv env h O) (evSs Φ s env h) (evVSs Ψ ms s venv)
theorem st_expr0{e:IE}(he:VOk Φ Ψ e)(hx:∀venv,evVS Ψ ms (.expr e) venv=pb (evV Ψ e venv) fun _=>.ok (.nx venv)):SOk Φ Ψ ms (.expr e):=fun A0 h0 venv env h O s=>by
 rw[evS,hx]
 exact rels_bnd s (he venv env _ h s.upA s.er) fun x h1 v p1 q1=>rels_ret ⟨O,s.ext p1,Fm.refl s p1⟩
theorem bnd_assoc'{α β γ:Type}(m:M α)(f:α -> M β)(g:β -> M γ):bnd (bnd m f) g=bnd m fun x=>bnd (f x) g:=by
 funext h
 show (match (match m h with|.ok a h'=>f a h'|.exc c vs h'=>.exc c vs h'|.no=>.no) with|.ok a h'=>g a h'|.exc c vs h'=>.exc c vs h'|.no=>.no)=(match m h with|.ok a h'=>bnd (f a) g h'|.exc c vs h'=>.exc c vs h'|.no=>.no)
 cases m h<;>rfl
theorem bnd_ok{α β:Type}{m:M α}{f:α -> M β}{a:α}{h h1:Hs}(e:m h=.ok a h1):bnd m f h=f a h1:=by unfold bnd;rw[e]
theorem ev_var{i:Nat}{v:Val}{env:Env}(e:env[i]?=some (some v)):evE Φ (.var i) env h=.ok v h:=by rw[evE,e];rfl
theorem st_append{i:Nat}{a:IE}(ha:VOk Φ Ψ a):SOk Φ Ψ ms (.expr (.met .append (.var i) (.cons a .nil))):=fun A0 h0 venv env h O s=>by
 rw[evS,evVS];try dsimp only
 split
 ·rename_i ds hv
  obtain⟨b,e2,e3,vs,e4,e5⟩:=s.ow i _ hv
  have ev:bnd (evE Φ (.met .append (.var i) (.cons a .nil)) env) (fun _=>ret (Fl.nx env)) h=bnd (evE Φ a env) (fun v=>bnd (met .append (.ref b) [v]) fun _=>ret (Fl.nx env)) h:=by
   rw[evE,bnd_assoc',bnd_ok (ev_var e2)]
   rw[bnd_assoc',bnd_ok (a:=()) (h1:=h) (by unfold ask lft;simp[recv,e4])]
   rw[bnd_assoc',evEs,bnd_assoc']
   congr 1
  rw[ev]
  refine rels_bnd s (ha venv env _ h s.upA s.er) fun x h1 v p1 q1=>rels_pg fun hg=>?_
  have s1:=s.ext p1
  obtain⟨s2,f2⟩:=s1.put (d1:=.rl (ds++[x.2])) (ob:=.lst (vs++[v])) hv e3 ⟨_,rfl,(e5.ext p1).append (Dns.cons q1.1 Dns.nil)⟩
  have l:=e5.length
  refine⟨.nx env,h1.set b (.lst (vs++[v])),?_,O,s2,(Fm.refl s p1).trans (f2.wid fun j hj=>?_)⟩
  ·have g:=pre_ob p1 e4
   unfold met bnd ask lft guardM put ret
   dsimp only
   rw[g];dsimp only
   rw[if_pos (by rw[<-l];exact hg)]
  ·rw[List.mem_singleton.mp hj];exact List.mem_append_left _ List.mem_cons_self
 ·trivial
theorem st_extend{i:Nat}{a:IE}(ha:VOk Φ Ψ a):SOk Φ Ψ ms (.expr (.met .extend (.var i) (.cons a .nil))):=fun A0 h0 venv env h O s=>by
 rw[evS,evVS];try dsimp only
 split
 ·rename_i ds hv
  obtain⟨b,e2,e3,vs,e4,e5⟩:=s.ow i _ hv
  have ev:bnd (evE Φ (.met .extend (.var i) (.cons a .nil)) env) (fun _=>ret (Fl.nx env)) h=bnd (evE Φ a env) (fun v=>bnd (met .extend (.ref b) [v]) fun _=>ret (Fl.nx env)) h:=by
   rw[evE,bnd_assoc',bnd_ok (ev_var e2)]
   rw[bnd_assoc',bnd_ok (a:=()) (h1:=h) (by unfold ask lft;simp[recv,e4])]
   rw[bnd_assoc',evEs,bnd_assoc']
   congr 1
  rw[ev]
  refine rels_bnd s (ha venv env _ h s.upA s.er) fun x h1 v p1 q1=>?_
  obtain⟨f,d⟩:=x
  cases d<;>first|trivial|skip
  rename_i ts
  have q:=q1.1
  dsimp only at q
  rw[Dn] at q
  obtain⟨ws,rfl,q⟩:=q
  refine rels_pg fun hg=>?_
  have s1:=s.ext p1
  obtain⟨s2,f2⟩:=s1.put (d1:=.rl (ds++ts)) (ob:=.lst (vs++ws)) hv e3 ⟨_,rfl,(e5.ext p1).append q⟩
  have l:=e5.length
  have l2:=q.length
  refine⟨.nx env,h1.set b (.lst (vs++ws)),?_,O,s2,(Fm.refl s p1).trans (f2.wid fun j hj=>?_)⟩
  ·have g:=pre_ob p1 e4
   unfold met bnd ask lft guardM put ret extOf
   dsimp only
   rw[g];dsimp only
   rw[if_pos (by rw[<-l,<-l2];exact hg)]
  ·rw[List.mem_singleton.mp hj];exact List.mem_append_left _ List.mem_cons_self
 ·trivial
theorem st_expr{e:IE}(hΦ:∀j,Imp (Φ j) (Ψ j))(ho:okB e=true):SOk Φ Ψ ms (.expr e):=by
 have V:=v_all hΦ
 have gen:(∀venv,evVS Ψ ms (.expr e) venv=pb (evV Ψ e venv) fun _=>.ok (.nx venv))->SOk Φ Ψ ms (.expr e):=fun hx=>st_expr0 (V.1 e ho) hx
 cases e with
 | met m a es =>
  cases m with
  | join=>exact gen fun venv=>by rw[evVS]<;>(intros;simp_all)
  | append =>
   cases a with
   | var i =>
    cases es with
    | nil=>exact gen fun venv=>by rw[evVS]<;>(intros;simp_all)
    | cons x r =>
     cases r with
     | nil=>rw[okB,okBs,okBs,Bool.and_eq_true,Bool.and_eq_true] at ho;exact st_append (V.1 x ho.2.1)
     | cons _ _=>exact gen fun venv=>by rw[evVS]<;>(intros;simp_all)
   | _=>exact gen fun venv=>by rw[evVS]<;>(intros;simp_all)
  | extend =>
   cases a with
   | var i =>
    cases es with
    | nil=>exact gen fun venv=>by rw[evVS]<;>(intros;simp_all)
    | cons x r =>
     cases r with
     | nil=>rw[okB,okBs,okBs,Bool.and_eq_true,Bool.and_eq_true] at ho;exact st_extend (V.1 x ho.2.1)
     | cons _ _=>exact gen fun venv=>by rw[evVS]<;>(intros;simp_all)
   | _=>exact gen fun venv=>by rw[evVS]<;>(intros;simp_all)
 | _=>exact gen fun venv=>by rw[evVS]<;>(intros;simp_all)
end
end Hv
end
section
namespace Hv
open PySem L2
section
variable {Φ:Nat->List Val->M Val} {Ψ:Nat->List Val->Pr FV} {ms:List Nat}
theorem mem1{i:Nat}{l:List Nat}(h:i∈l):∀j∈[i],j∈l:=fun j hj=>by rw[List.mem_singleton.mp hj];exact h
theorem st_asg{p:Pat}{e:IE}(hΦ:∀j,Imp (Φ j) (Ψ j))(ho:okB e=true):SOk Φ Ψ ms (.asg p e):=fun A0 h0 venv env h O s=>by
 have V:=(v_all hΦ).1 e ho
 cases p with
 | one i =>
  rw[evS,evVS];try dsimp only
  split
  ·refine rels_pg fun hf=>?_
   refine rels_bnd s (n_all hΦ hf ho venv env _ h s.upA s.er) fun x h1 v p1 q1=>?_
   obtain⟨f,d⟩:=x
   cases d<;>first|trivial|skip
   ·obtain⟨h2,vs,rfl,rfl,p2,q2⟩:=q1 rfl
    obtain⟨s2,f2⟩:=s.fresh (i:=i) p2 q2
    exact⟨_,_,rfl,_,s2,f2.wid (mem1 (by simp[mS,stoS,stored]))⟩
   ·obtain⟨h2,vs,rfl,rfl,p2,q2⟩:=q1 rfl
    obtain⟨s2,f2⟩:=s.fresh (i:=i) p2 q2
    exact⟨_,_,rfl,_,s2,f2.wid (mem1 (by simp[mS,stoS,stored]))⟩
  ·refine rels_bnd s (V venv env _ h s.upA s.er) fun x h1 v p1 q1=>?_
   have hnw:nwM (mkOf x.1 x.2)=true->Dn (Al (Fr h0.length) O) h1 x.2 v:=fun z=>by
    have hx:x.1=true:=by
     unfold mkOf at z
     split at z
     ·rename_i hh;simp only[Bool.and_eq_true] at hh;exact hh.1
     ·cases z
    refine(q1.2 hx).wid fun o ho=>?_
    cases o with
    | none=>exact ho.elim
    | some k=>exact⟨Nat.le_trans s.pre.length_le ho,fun j _ e=>by have:=(s.own j k e).2.1;have ho':h.length<=k:=ho;omega⟩
   have hrd:rdM (mkOf x.1 x.2)=true:=by unfold mkOf;split<;>rfl
   obtain⟨s2,f2⟩:=(s.ext p1).setM (i:=i) hrd q1.1 hnw
   exact⟨_,_,rfl,_,s2,(Fm.refl s p1).trans (f2.wid (mem1 (by simp[mS,stoS,stored])))⟩
 | tup is =>
  rw[evS,evVS];try dsimp only
  refine rels_pg fun hf=>rels_bnd s (V venv env _ h s.upA s.er) fun x h1 v p1 q1=>?_
  have s1:=s.ext p1
  refine rels_bnd s1 (R:=fun venv' h' env'=>∃O',SR A0 h0 venv' env' h' O'/\Fm (stored (.tup is)) venv env h1 O venv' env' h' O') (rel_lft fun venv' ev=>?_) fun venv' h2 env' p2 hh=>?_
  ·obtain⟨env',O',b1,b2,b3⟩:=s1.bind ev q1.1
   exact⟨env',b1,O',b2,b3⟩
  ·obtain⟨O',b2,b3⟩:=hh
   exact rels_ret ⟨O',b2,(Fm.refl s p1).trans (b3.wid fun j hj=>by simp only[mS,stoS];exact List.mem_append_right _ hj)⟩
theorem st_aug{i:Nat}{o:Bop}{e:IE}(hΦ:∀j,Imp (Φ j) (Ψ j))(ho:okB e=true):SOk Φ Ψ ms (.aug i o e):=fun A0 h0 venv env h O s=>by
 have V:=(v_all hΦ).1 e ho
 rw[evS,evVS]
 refine rels_pg fun hf=>rels_bnd s (R:=fun x _ y=>y=x) (rel_lft fun x hx=>?_) fun x h1 y p1 exy=>?_
 ·split at hx<;>cases hx
  rename_i f hv
  have:=s.er i f _ hv
  revert this
  generalize rdM f=t
  intro this
  cases t with
  | false=>rw[if_pos rfl] at this;obtain⟨_,_,k⟩:=this;exact False.elim k
  | true =>
   rw[if_neg (by decide)] at this
   obtain⟨v,k1,k2⟩:=this
   rw[Dn] at k2;subst k2
   exact⟨x,by rw[k1],rfl⟩
 ·subst exy
  have s1:=s.ext p1
  refine rels_bnd s1 (V venv env _ h1 s1.upA s1.er) fun z h2 v p2 q2=>?_
  have s2:=s1.ext p2
  refine rels_bnd s2 (R:=fun x _ y=>y=x) (rel_lft fun n en=>?_) fun n h3 n' p3 enn=>?_
  ·obtain⟨f,d⟩:=z
   have q:=q2.1
   cases d<;>first|(cases en;done)|skip
   dsimp only at q
   rw[Dn] at q;subst q
   exact⟨n,en,rfl⟩
  ·subst enn
   have s3:=s2.ext p3
   refine rels_bnd s3 (bop_rel (h0:=h3) s3.upA (List.prefix_refl _) (.inl (by rw[Dn])) (.inl (by rw[Dn]))) fun w h4 w' p4 q4=>?_
   obtain⟨s5,f5⟩:=(s3.ext p4).set (i:=i) q4.1
   exact rels_ret ⟨_,s5,(Fm.refl s (((p1.trans p2).trans p3).trans p4)).trans (f5.wid (mem1 (by simp[mS,stoS])))⟩
theorem any_fst(k:Key)(l:List (Key×Val)):(l.any fun kv=>decide (kv.1=k))=((l.map (·.1)).any fun x=>decide (x=k)):=by
 rw[List.any_map];rfl
theorem dns_put{A:AP}{h:Hs}{k:Key}{d v:Val}(e:Dn A h d v):∀{kvs:List (Key×Val)} {ds:List Val},Dns A h ds (kvs.map (·.2)) ->
  Dns A h ((((kvs.map (·.1)).zip ds).map fun kv=>if kv.1=k then (kv.1,d) else kv).map (·.2)) ((kvs.map fun kv=>if kv.1=k then (kv.1,v) else kv).map (·.2))
 | [],ds,q=>by simp only[List.map_nil,List.zip_nil_left];exact Dns.nil
 | (k',v')::kvs,ds,q=>by
  have l:=q.length
  cases ds with
  | nil=>simp at l
  | cons d' ds =>
   simp only[List.map_cons] at q
   rw[Dns] at q
   obtain⟨v1,r,e1,q1,q2⟩:=q
   cases e1
   simp only[List.map_cons,List.zip_cons_cons]
   refine Dns.cons ?_ (dns_put e q2)
   by_cases hk:k'=k
   ·rw[if_pos hk,if_pos hk];exact e
   ·rw[if_neg hk,if_neg hk];exact q1
theorem map_fst_put(k:Key)(d:Val)(l:List (Key×Val)):(l.map fun kv=>if kv.1=k then (kv.1,d) else kv).map (·.1)=l.map (·.1):=by
 rw[List.map_map]
 refine List.map_congr_left fun x _=>?_
 show (if x.1=k then (x.1,d) else x).1=x.1
 split<;>rfl
theorem putD_dn{A:AP}{h:Hs}{k:Key}{d v:Val}{kvs:List (Key×Val)}{ks:List Key}{ds:List Val}(hk:kvs.map (·.1)=ks)(q:Dns A h ds (kvs.map (·.2)))(e:Dn A h d v) :
  (putV kvs k v).map (·.1)=(putV (ks.zip ds) k d).map (·.1)/\Dns A h ((putV (ks.zip ds) k d).map (·.2)) ((putV kvs k v).map (·.2)):=by
 subst hk
 have l:=q.length
 rw[List.length_map] at l
 have z1:((kvs.map (·.1)).zip ds).map (·.1)=kvs.map (·.1):=List.map_fst_zip (by rw[List.length_map];omega)
 have z2:((kvs.map (·.1)).zip ds).map (·.2)=ds:=List.map_snd_zip (by rw[List.length_map];omega)
 unfold putV
 rw[any_fst,any_fst,z1]
 split
 ·rw[map_fst_put,map_fst_put,z1]
  exact⟨rfl,dns_put e q⟩
 ·rw[List.map_append,List.map_append,List.map_append,List.map_append,z1,z2]
  exact⟨rfl,q.append (Dns.cons e Dns.nil)⟩
theorem st_setI{o i v:IE}(hΦ:∀j,Imp (Φ j) (Ψ j))(ho:okB o=true)(hi:okB i=true)(hv:okB v=true):SOk Φ Ψ ms (.setI o i v):=fun A0 h0 venv env h O s=>by
 have V:=(v_all hΦ).1
 cases o with
 | var j =>
  rw[evS,evVS]
  refine rels_bnd s (V v hv venv env _ h s.upA s.er) fun x h1 w p1 q1=>?_
  have s1:=s.ext p1
  split
  ·rename_i ds hj
   obtain⟨b,e2,e3,vs,e4,e5⟩:=s1.ow j _ hj
   rw[bnd_ok (ev_var e2)]
   refine rels_bnd s1 (V i hi venv env _ h1 s1.upA s1.er) fun z h2 u p2 q2=>?_
   have s2:=s1.ext p2
   obtain⟨f,d⟩:=z
   have q:=q2.1
   cases d<;>first|trivial|skip
   dsimp only at q
   rw[Dn] at q;subst q
   rename_i kk
   have g:=pre_ob p2 e4
   have l:=e5.length
   show RelS A0 h0 _ _ (pb (pl (ixN ds.length kk)) _)
   cases hn:ixN ds.length kk with
   | none=>trivial
   | some n =>
    obtain⟨s3,f3⟩:=s2.put (d1:=.rl (ds.set n x.2)) (ob:=.lst (vs.set n w)) hj e3 ⟨_,rfl,(e5.ext p2).set n (q1.1.ext p2)⟩
    refine⟨.nx env,h2.set b (.lst (vs.set n w)),?_,O,s3,(Fm.refl s (p1.trans p2)).trans (f3.wid (mem1 (by simp[mS,mutS])))⟩
    rw[l] at hn
    simp only[setIM]
    unfold bnd ask lft put ret
    dsimp only
    rw[g];dsimp only
    rw[hn]
  ·rename_i ks ds hj
   obtain⟨b,e2,e3,kvs,e4,ek,e5⟩:=s1.ow j _ hj
   rw[bnd_ok (ev_var e2)]
   refine rels_bnd s1 (V i hi venv env _ h1 s1.upA s1.er) fun z h2 u p2 q2=>?_
   have s2:=s1.ext p2
   obtain⟨f,d⟩:=z
   have q:=q2.1
   dsimp only at q
   show RelS A0 h0 _ _ (pb (pl (keyOf d)) _)
   cases hk:keyOf d with
   | none=>trivial
   | some kk =>
    have hu:keyOf u=some kk:=by
     cases d<;>simp only[keyOf] at hk<;>first|(cases hk;done)|skip
     all_goals (rw[Dn] at q;subst q;exact hk)
    show RelS A0 h0 _ _ (pg _ _)
    refine rels_pg fun hl=>?_
    have g:=pre_ob p2 e4
    obtain⟨k1,k2⟩:=putD_dn (k:=kk) ek (e5.ext p2) (q1.1.ext p2)
    obtain⟨s3,f3⟩:=s2.put (d1:=putD ks ds kk x.2) (ob:=.dct (putV kvs kk w)) hj e3 ⟨_,rfl,k1,k2⟩
    refine⟨.nx env,h2.set b (.dct (putV kvs kk w)),?_,O,s3,(Fm.refl s (p1.trans p2)).trans (f3.wid (mem1 (by simp[mS,mutS])))⟩
    have hl':decide (kvs.length<sizeLine)=true:=by rw[<-ek,List.length_map] at hl;exact hl
    simp only[setIM]
    unfold bnd ask lft put ret guardM
    dsimp only
    rw[g];dsimp only
    rw[hu];dsimp only
    rw[if_pos hl']
  ·trivial
 | _=>rw[evVS]<;>first|trivial|(intros;simp_all)
theorem st_iff{c:IE}{a b:ISs}(hΦ:∀j,Imp (Φ j) (Ψ j))(hc:okB c=true)(ha:SOks Φ Ψ ms a)(hb:SOks Φ Ψ ms b):SOk Φ Ψ ms (.iff c a b):=fun A0 h0 venv env h O s=>by
 have V:=(v_all hΦ).1 c hc
 rw[evS,evVS]
 refine rels_bnd s (ok_b V s.upA s.er) fun x h1 v p1 q1=>?_
 have s1:=s.ext p1
 refine rels_bnd s1 (R:=fun t _ t'=>t'=t) (rel_ask fun t et=>⟨t,tru_dn q1 et,rfl⟩) fun t h2 t' p2 et=>?_
 subst et
 have s2:=s1.ext p2
 cases t' with
 | true =>
  rw[if_pos rfl,if_pos rfl]
  refine rels_mono (ha A0 h0 venv env h2 O s2) fun f h' g r=>(r.pre s (p1.trans p2)).wid fun i hi=>?_
  simp only[mSs,mS,mutS,stoS,List.mem_append] at hi |-
  rcases hi with z|z
  ·exact .inl (.inl z)
  ·exact .inr (.inl z)
 | false =>
  rw[if_neg Bool.false_ne_true,if_neg Bool.false_ne_true]
  refine rels_mono (hb A0 h0 venv env h2 O s2) fun f h' g r=>(r.pre s (p1.trans p2)).wid fun i hi=>?_
  simp only[mSs,mS,mutS,stoS,List.mem_append] at hi |-
  rcases hi with z|z
  ·exact .inl (.inr z)
  ·exact .inr (.inr z)
noncomputable def Stands(h:Hs)(O:Nat->Option Nat)(m:List Nat)(src:Src)(ws:List Val):Prop :=
 ∀h':Hs,(∀k,k<h.length->(∀i,O i≠some k)->h'[k]?=h[k]?)->(∀i,i∉m->∀a,O i=some a->h'[a]?=h[a]?)->src.items h'=some ws
theorem live_items{h:Hs}{i:Nat}{ws:List Val}(e:h[i]?=some (.lst ws)):(Src.live i).items h=some ws:=by simp[Src.items,lstOf,e]
theorem enum_items{h:Hs}{i:Nat}{ws:List Val}(e:h[i]?=some (.lst ws)):(Src.enum i).items h=some (enumV 0 ws):=by simp[Src.items,lstOf,e]
theorem forV_rel{A0:AP}{h0:Hs}{m:List Nat}{src:Src}{ws:List Val}{body:Val->Env->M Fl}{bodyV:Val->VEnv->Pr VFl}(hb:∀venv env h O x v,SR A0 h0 venv env h O->Dn (Al A0 O) h x v->RelS A0 h0 (RF A0 h0 m venv env h O) (body v env h) (bodyV x venv))
  {venv1:VEnv} {env1:Env} {h1:Hs} {O1:Nat->Option Nat} (st:Stands h1 O1 m src ws) :
  ∀(xs vs:List Val) (i:Nat) (venv:VEnv) (env:Env) (h:Hs) (O:Nat->Option Nat),SR A0 h0 venv env h O->Fm m venv1 env1 h1 O1 venv env h O->ws.drop i=vs->Dns (Al A0 O) h xs vs ->
   RelS A0 h0 (RF A0 h0 m venv1 env1 h1 O1) (forM src body vs.length i env h) (forV bodyV xs venv)
 | [],vs,i,venv,env,h,O,s,f,hd,q=>by
  rw[Dns] at q;subst q
  have hl:ws.length<=i:=List.drop_eq_nil_iff.mp hd
  have hi:=st h (fun k hk n=>(f.keep k hk n).1) (fun j hj a e=>(f.stay j hj).2.2.2 a e)
  rw[forV]
  refine⟨.nx env,h,?_,O,s,f⟩
  show forM src body 0 i env h=_
  simp only[forM]
  unfold bnd ask lft guardM;dsimp only;rw[hi];dsimp only;rw[if_pos (decide_eq_true hl)];rfl
 | x::xs,vs,i,venv,env,h,O,s,f,hd,q=>by
  rw[Dns] at q
  obtain⟨v,r,rfl,q1,q2⟩:=q
  have hv:ws[i]?=some v:=by
   have:=congrArg (fun l=>l[0]?) hd
   simpa using this
  have hr:ws.drop (i+1)=r:=by
   have:ws.drop (i+1)=(ws.drop i).drop 1:=by rw[List.drop_drop]
   rw[this,hd];rfl
  have hi:=st h (fun k hk n=>(f.keep k hk n).1) (fun j hj a e=>(f.stay j hj).2.2.2 a e)
  have ev:forM src body (v::r).length i env h=bnd (body v env) (fun f=>match f with
   | .nx env'=>forM src body r.length (i+1) env'
   | .ct env'=>forM src body r.length (i+1) env'
   | .bk env'=>ret (.nx env')
   | .rt v=>ret (.rt v)) h:=by
   show forM src body (r.length+1) i env h=_
   simp only[forM]
   unfold bnd ask lft;dsimp only;rw[hi];dsimp only;rw[hv];try rfl
  rw[ev,forV]
  refine rels_seq (hb venv env h O x v s q1) fun fl h2 gl hr2=>?_
  have go:∀venv' env' O',SR A0 h0 venv' env' h2 O'->Fm m venv env h O venv' env' h2 O'->RelS A0 h0 (RF A0 h0 m venv1 env1 h1 O1) (forM src body r.length (i+1) env' h2) (forV bodyV xs venv'):=fun venv' env' O' s' f'=>by
   refine forV_rel hb st xs r (i+1) venv' env' h2 O' s' (f.trans f') hr (Dns.move al_none' (fun k o hk g=>?_) _ _ q2)
   have hlt:k<h.length:=(List.getElem?_eq_some_iff.mp g).1
   obtain⟨a1,a2⟩:=f'.keep k hlt fun i=>hk.2 i rfl
   exact⟨⟨hk.1,fun i _=>a2 i⟩,a1.trans g⟩
  cases fl<;>cases gl<;>first|exact hr2.elim|skip
  ·obtain⟨O',s',f'⟩:=hr2;exact go _ _ O' s' f'
  ·exact rels_ret hr2
  ·obtain⟨O',s',f'⟩:=hr2;exact rels_ret ⟨O',s',f.trans f'⟩
  ·obtain⟨O',s',f'⟩:=hr2;exact go _ _ O' s' f'
theorem src_dn{A0:AP}{O:Nat->Option Nat}{h:Hs}{m:List Nat}{k:Ik}{d v:Val}{xs:List Val}(q:Dn (Al A0 O) h d v)(e:srcV k [d]=some xs):∃src ws,srcOf k [v]=some src/\Dns (Al A0 O) h xs ws/\src.items h=some ws/\Stands h O m src ws:=by
 have lst:∀es,d=.rl es->(∃ws,v=.rl ws/\Dns (Al A0 O) h es ws)\/∃a ws,v=.ref a/\h[a]?=some (.lst ws)/\Dns (Al A0 O) h es ws/\∀h':Hs,(∀k,k<h.length->(∀i,O i≠some k)->h'[k]?=h[k]?)->h'[a]?=some (Ob.lst ws):=by
  rintro es rfl
  rw[Dn] at q
  rcases q with ⟨ws,rfl,_,q⟩|⟨a,ws,rfl,al,g,q⟩
  ·exact .inl ⟨ws,rfl,q⟩
  ·exact .inr ⟨a,ws,rfl,g,q,fun h' hk=>(hk a (List.getElem?_eq_some_iff.mp g).1 fun i=>al.2 i rfl).trans g⟩
 cases k with
 | seq =>
  cases d<;>first|(cases e;done)|skip
  ·cases e
   rw[Dn] at q
   obtain⟨ws,rfl,q⟩:=q
   exact⟨.fix ws,ws,rfl,q,rfl,fun _ _ _=>rfl⟩
  ·cases e
   rcases lst _ rfl with ⟨ws,rfl,q'⟩|⟨a,ws,rfl,g,q',st⟩
   ·exact⟨.fix ws,ws,rfl,q',rfl,fun _ _ _=>rfl⟩
   ·exact⟨.live a,ws,rfl,q',live_items g,fun h' hk _=>live_items (st h' hk)⟩
 | range =>
  cases d<;>first|(cases e;done)|skip
  rw[Dn] at q;subst q
  rename_i n
  change (if inR n=true then some (rangeV 0 n.toNat) else none)=some _ at e
  split at e
  ·rename_i hn;cases e
   exact⟨.fix _,_,if_pos hn,dns_range,rfl,fun _ _ _=>rfl⟩
  ·cases e
 | enum =>
  cases d<;>first|(cases e;done)|skip
  cases e
  rcases lst _ rfl with ⟨ws,rfl,q'⟩|⟨a,ws,rfl,g,q',st⟩
  ·exact⟨.fix _,_,rfl,dns_enum 0 q',rfl,fun _ _ _=>rfl⟩
  ·exact⟨.enum a,_,rfl,dns_enum 0 q',enum_items g,fun h' hk _=>enum_items (st h' hk)⟩
 | zip=>cases e
theorem rel_bndE{α β γ δ:Type}{A:AP}{h:Hs}{R:α -> Hs -> β -> Prop}{R':γ -> Hs -> δ -> Prop}{m:M β}{f:β -> M δ}{p:Pr α}{F:α -> Pr γ}(r:Rel A h R (m h) p)(k:∀a h1 b,p=.ok a->h<+:h1->R a h1 b->Rel A h1 R' (f b h1) (F a)):Rel A h R' (bnd m f h) (pb p F):=by
 unfold bnd
 cases p with
 | ok a =>
  obtain⟨b,h1,e,q,r⟩:=r
  rw[e]
  show Rel A h R' (f b h1) (F a)
  have:=k a h1 b rfl q r
  cases e2:F a with
  | ok c=>rw[e2] at this;obtain⟨d,h2,e3,q2,r2⟩:=this;exact⟨d,h2,e3,q.trans q2,r2⟩
  | exc c es=>rw[e2] at this;obtain⟨d,h2,e3,q2,r2⟩:=this;exact⟨d,h2,e3,q.trans q2,r2⟩
  | no=>trivial
 | exc c es =>
  obtain⟨ws,h1,e,q,r⟩:=r
  rw[e];exact⟨ws,h1,rfl,q,r⟩
 | no=>trivial
theorem evBs_two{e e2:IE}{r:IEs}{venv:VEnv}{ds:List Val}(h:evBs Ψ (.cons e (.cons e2 r)) venv=.ok ds):2<=ds.length:=by
 rw[evBs,evBs] at h
 cases h1:(if isVar e=true then pl (varB venv e) else evV Ψ e venv) with
 | ok a =>
  rw[h1] at h
  cases h2:(if isVar e2=true then pl (varB venv e2) else evV Ψ e2 venv) with
  | ok b =>
   rw[h2] at h
   cases h3:evBs Ψ r venv with
   | ok c=>rw[h3] at h;cases h;simp
   | exc _ _=>rw[h3] at h;cases h
   | no=>rw[h3] at h;cases h
  | exc _ _=>rw[h2] at h;cases h
  | no=>rw[h2] at h;cases h
 | exc _ _=>rw[h1] at h;cases h
 | no=>rw[h1] at h;cases h
theorem srcV_two{k:Ik}{d1 d2:Val}{xs:List Val}(ex:srcV k [d1,d2]=some xs):k=.range/\∃n m,d1=.int n/\d2=.int m/\(inR n&&inR m)=true/\xs=rangeV n (m-n).toNat:=by
 cases k with
 | seq=>cases d1<;>cases ex
 | enum=>cases d1<;>cases ex
 | zip=>cases ex
 | range =>
  cases d1<;>first|(cases ex;done)|skip
  cases d2<;>first|(cases ex;done)|skip
  rename_i n m
  change (if (inR n&&inR m)=true then some (rangeV n (m-n).toNat) else none)=some xs at ex
  by_cases hn:(inR n&&inR m)=true
  ·rw[if_pos hn] at ex;cases ex;exact⟨rfl,n,m,rfl,rfl,hn,rfl⟩
  ·rw[if_neg hn] at ex;cases ex
theorem srcV_three{k:Ik}{d1 d2 d3:Val}{r:List Val}:srcV k (d1::d2::d3::r)=none:=by
 cases k with
 | seq=>cases d1<;>rfl
 | enum=>cases d1<;>rfl
 | zip=>rfl
 | range=>cases d1<;>first|rfl|(cases d2<;>rfl)
theorem src_for{A0:AP}{h0:Hs}{venv:VEnv}{env:Env}{h:Hs}{O:Nat->Option Nat}{k:Ik}{it:IEs}{m:List Nat}(hΦ:∀j,Imp (Φ j) (Ψ j))(hi:okBs it=true)(s:SR A0 h0 venv env h O)(hm:∀i,it=.cons (.var i) .nil->i∉m) :
  Rel (Al A0 O) h (fun xs h' src=>∃ws,Dns (Al A0 O) h' xs ws/\src.items h'=some ws/\Stands h' O m src ws) (bnd (evEs Φ it env) (fun its=>lft (srcOf k its)) h) (pb (evBs Ψ it venv) fun its=>pl (srcV k its)):=by
 have V:=v_all hΦ
 cases it with
 | nil=>rw[evBs];cases k<;>trivial
 | cons e es =>
  cases es with
  | nil =>
   rw[okBs,Bool.and_eq_true] at hi
   by_cases hv:isVar e=true
   ·cases e<;>first|(cases hv;done)|skip
    rename_i i
    rw[evBs,evBs,if_pos hv]
    simp only[varB]
    cases hx:venv[i]? with
    | none=>trivial
    | some o =>
     cases o with
     | none=>trivial
     | some fd =>
      obtain⟨f,d⟩:=fd
      show Rel _ _ _ _ (pl (srcV k [d]))
      cases hf:rdM f with
      | false =>
       have hf:f=.ow:=by cases f<;>first|rfl|cases hf
       subst hf
       obtain⟨a,e2,e3,e4⟩:=s.ow i d hx
       have ev:bnd (evEs Φ (.cons (.var i) .nil) env) (fun its=>lft (srcOf k its)) h=lft (srcOf k [.ref a]) h:=by
        rw[evEs,evEs,bnd_assoc',bnd_ok (ev_var e2)];rfl
       rw[ev]
       refine rel_lft fun xs ex=>?_
       have hd:∃ds,d=.rl ds:=by
        cases d<;>first|exact⟨_,rfl⟩|exact False.elim e4|(cases k<;>cases ex)
       obtain⟨ds,rfl⟩:=hd
       obtain⟨vs,e4,e5⟩:=e4
       have st:∀h':Hs,(∀i,i∉m->∀a,O i=some a->h'[a]?=h[a]?)->h'[a]?=some (Ob.lst vs):=fun h' hs=>(hs i (hm i rfl) a e3).trans e4
       cases k with
       | seq=>cases ex;exact⟨.live a,rfl,vs,e5,live_items e4,fun h' _ hs=>live_items (st h' hs)⟩
       | range=>cases ex
       | enum=>cases ex;exact⟨.enum a,rfl,_,dns_enum 0 e5,enum_items e4,fun h' _ hs=>enum_items (st h' hs)⟩
       | zip=>cases ex
      | true =>
       obtain⟨v,e1,e2,_⟩:=s.sh i f d hx hf
       have ev:bnd (evEs Φ (.cons (.var i) .nil) env) (fun its=>lft (srcOf k its)) h=lft (srcOf k [v]) h:=by
        rw[evEs,evEs,bnd_assoc',bnd_ok (ev_var e1)];rfl
       rw[ev]
       refine rel_lft fun xs ex=>?_
       obtain⟨src,ws,a1,a2,a3,a4⟩:=src_dn (m:=m) e2 ex
       exact⟨src,a1,ws,a2,a3,a4⟩
   ·rw[evBs,evBs,if_neg hv]
    have ev:bnd (evEs Φ (.cons e .nil) env) (fun its=>lft (srcOf k its)) h=bnd (evE Φ e env) (fun v=>lft (srcOf k [v])) h:=by
     rw[evEs,evEs,bnd_assoc'];rfl
    rw[ev]
    have ep:(pb (pb (evV Ψ e venv) fun d=>pb (Pr.ok ([]:List Val)) fun p=>Pr.ok (d.2::p)) fun its=>pl (srcV k its))=pb (evV Ψ e venv) fun d=>pl (srcV k [d.2]):=by
     cases evV Ψ e venv<;>rfl
    rw[ep]
    refine rel_bnd (V.1 e hi.1 venv env _ h s.upA s.er) fun x h1 v p1 q1=>rel_lft fun xs ex=>?_
    obtain⟨src,ws,a1,a2,a3,a4⟩:=src_dn (m:=m) q1.1 ex
    exact⟨src,a1,ws,a2,a3,a4⟩
  | cons e2 r =>
   have V2:=V.2 _ hi
   refine rel_bndE (V2.2 venv env _ h s.upA s.er) fun ds h1 vs eb p1 q1=>rel_lft fun xs ex=>?_
   have hl:2<=ds.length:=evBs_two eb
   match ds,q1 with
   | [],q1=>cases k<;>cases ex
   | [d],q1=>simp at hl
   | [d1,d2],q1 =>
    obtain⟨v,rr,rfl,hv,hr⟩:=q1
    obtain⟨w,rfl,hw⟩:=DBs.one hr
    obtain⟨rfl,n,m',rfl,rfl,hn,rfl⟩:=srcV_two ex
    have:=hv.int;subst this
    have:=hw.int;subst this
    exact⟨.fix _,if_pos hn,_,dns_range,rfl,fun _ _ _=>rfl⟩
   | d1::d2::d3::dr,q1=>rw[srcV_three] at ex;cases ex
theorem st_for{p:Pat}{k:Ik}{it:IEs}{body:ISs}(hΦ:∀j,Imp (Φ j) (Ψ j))(hi:okBs it=true)(hb:SOks Φ Ψ ms body):SOk Φ Ψ ms (.for p k it body):=fun A0 h0 venv env h O s=>by
 rw[evS,evVS]
 refine rels_pg fun hg=>?_
 rw[Bool.and_eq_true] at hg
 have hm:∀i,it=.cons (.var i) .nil->i∉mS (.for p k it body):=by
  rintro i rfl z
  simp only[srcOk,Bool.and_eq_true,Bool.not_eq_true',List.contains_eq_mem,decide_eq_false_iff_not] at hg
  simp only[mS,mutS,stoS,List.mem_append] at z
  rcases z with z|z|z
  ·exact hg.1.1.1 z
  ·exact hg.1.2 z
  ·exact hg.1.1.2 z
 have ev:∀(F:Src->M Fl),bnd (evEs Φ it env) (fun its=>bnd (lft (srcOf k its)) F) h=bnd (bnd (evEs Φ it env) fun its=>lft (srcOf k its)) F h:=fun F=>by rw[bnd_assoc']
 have ep:∀(F:List Val->Pr VFl),pb (evBs Ψ it venv) (fun its=>pb (pl (srcV k its)) F)=pb (pb (evBs Ψ it venv) fun its=>pl (srcV k its)) F:=fun F=>by cases evBs Ψ it venv<;>rfl
 rw[ev,ep]
 refine rels_bnd s (src_for (m:=mS (.for p k it body)) hΦ hi s hm) fun xs h1 src p1 hx=>?_
 obtain⟨ws,q1,q2,st⟩:=hx
 have s1:=s.ext p1
 have l:=q1.length
 have ev2:∀(F:List Val->M Fl),bnd (ask fun h=>src.items h) F h1=F ws h1:=fun F=>by unfold bnd ask lft;dsimp only;rw[q2]
 rw[ev2]
 refine rels_mono (forV_rel (m:=mS (.for p k it body)) (fun venv' env' h' O' x v s' qx=>?_) st xs ws 0 venv env h1 O s1 (Fm.refl s1 (List.prefix_refl _)) rfl q1) fun f h' g r=>r.pre s p1
 refine rels_bnd s' (R:=fun venv2 h2 env2=>∃O2,SR A0 h0 venv2 env2 h2 O2/\Fm (stored p) venv' env' h' O' venv2 env2 h2 O2) (rel_lft fun venv2 e2=>?_) fun venv2 h2 env2 p2 hh=>?_
 ·obtain⟨env2,O2,b1,b2,b3⟩:=s'.bind e2 qx
  exact⟨env2,b1,O2,b2,b3⟩
 ·obtain⟨O2,b2,b3⟩:=hh
  refine rels_mono (hb A0 h0 venv2 env2 h2 O2 b2) fun f h'' g r=>RF.seq (b3.wid fun i hi=>?_) (r.wid fun i hi=>?_)
  ·simp only[mS,mutS,stoS,List.mem_append];exact .inr (.inl hi)
  ·simp only[mSs,mS,mutS,stoS,List.mem_append] at hi |-
   rcases hi with z|z
   ·exact .inl z
   ·exact .inr (.inr z)
theorem st_whl{n:Nat}{c:IE}{body:ISs}(hΦ:∀j,Imp (Φ j) (Ψ j))(hc:okB c=true)(hb:SOks Φ Ψ ms body):SOk Φ Ψ ms (.whl n c body):=fun A0 h0 venv env h O s=>by rw[evVS];trivial
theorem rd_fr{m:Mk}:rdM (frM m)=true:=by cases m<;>rfl
theorem SR.fr{A0:AP}{h0:Hs}{venv:VEnv}{env:Env}{h:Hs}{O:Nat->Option Nat}(s:SR A0 h0 venv env h O):ER A0 (frz venv) env h:=fun i f d e=>by
 unfold frz at e
 rw[List.getElem?_map] at e
 cases hx:venv[i]? with
 | none=>rw[hx] at e;cases e
 | some o =>
  rw[hx] at e
  cases o with
  | none=>cases e
  | some fd =>
   obtain⟨m,d'⟩:=fd
   cases e
   rw[if_neg (by rw[rd_fr];decide)]
   cases hm:rdM m with
   | false =>
    have hm:m=.ow:=by cases m<;>first|rfl|cases hm
    subst hm
    obtain⟨a,e2,e3,e4⟩:=s.ow i d hx
    exact⟨_,e2,(e4.mono (A':=A0) (fun _ g=>g) fun _ _ z=>z.wid fun _ y=>y.1).dn (s.up a (s.own i a e3).1)⟩
   | true =>
    obtain⟨v,e1,e2,_⟩:=s.sh i m d hx hm
    exact⟨v,e1,e2.wid fun _ z=>z.1⟩
theorem rels_bnd0{A0:AP}{h0:Hs}{venv:VEnv}{env:Env}{h:Hs}{O:Nat->Option Nat}{α β γ δ:Type}{R:α -> Hs -> β -> Prop}{R':γ -> Hs -> δ -> Prop}{mm:M β}{f:β -> M δ}{p:Pr α}{F:α -> Pr γ}(s:SR A0 h0 venv env h O)(r:Rel A0 h R (mm h) p)(k:∀a h1 b,h<+:h1->R a h1 b->RelS A0 h0 R' (f b h1) (F a)):RelS A0 h0 R' (bnd mm f h) (pb p F):=by
 unfold bnd
 cases p with
 | ok a=>obtain⟨b,h1,e,q,r⟩:=r;rw[e];exact k a h1 b q r
 | exc c es=>obtain⟨ws,h1,e,q,r⟩:=r;rw[e];exact⟨ws,h1,rfl,s.pre.trans q,r⟩
 | no=>trivial
theorem st_ret{e:IE}(hΦ:∀j,Imp (Φ j) (Ψ j))(ho:okB e=true):SOk Φ Ψ ms (.ret e):=fun A0 h0 venv env h O s=>by
 have V:=(v_all hΦ).1 e ho
 have gen:evR Ψ e venv=evV Ψ e venv->RelS A0 h0 (RF A0 h0 (mS (.ret e)) venv env h O) (evS Φ (.ret e) env h) (evVS Ψ ms (.ret e) venv):=fun he=>by
  rw[evS,evVS,he]
  exact rels_bnd s (V venv env _ h s.upA s.er) fun x h1 v p1 q1=>rels_ret ⟨q1.1.wid fun _ z=>z.1,fun f=>(q1.2 f).wid (Fr.le s.pre.length_le),s.pre.trans p1⟩
 cases e with
 | var i =>
  rw[evS,evVS]
  simp only[evR]
  cases hx:venv[i]? with
  | none=>trivial
  | some o =>
   cases o with
   | none=>trivial
   | some fd =>
    obtain⟨f,d⟩:=fd
    cases hf:rdM f with
    | false =>
     have hf:f=.ow:=by cases f<;>first|rfl|cases hf
     subst hf
     obtain⟨a,e2,e3,e4⟩:=s.ow i d hx
     rw[bnd_ok (ev_var e2)]
     have ha:=s.own i a e3
     cases d<;>first|exact False.elim e4|skip
     ·refine⟨_,h,rfl,?_,fun hi=>?_,s.pre⟩
      ·exact(e4.mono (A':=A0) (fun _ g=>g) fun _ _ z=>z.wid fun _ y=>y.1).dn (s.up a ha.1)
      ·obtain⟨vs,e4,e5⟩:=e4
       show Dn _ h (.rl _) (.ref a)
       rw[Dn];exact .inr ⟨a,vs,rfl,ha.1,e4,imms_any e5 hi⟩
     ·refine⟨_,h,rfl,?_,fun hi=>?_,s.pre⟩
      ·exact(e4.mono (A':=A0) (fun _ g=>g) fun _ _ z=>z.wid fun _ y=>y.1).dn (s.up a ha.1)
      ·obtain⟨kvs,e4,ek,e5⟩:=e4
       show Dn _ h (.dc _ _) (.ref a)
       rw[Dn];exact⟨a,kvs,rfl,ha.1,e4,ek,imms_any e5 hi⟩
    | true =>
     obtain⟨v,e1,e2,e3⟩:=s.sh i f d hx hf
     rw[bnd_ok (ev_var e1)]
     dsimp only
     rw[if_pos hf]
     refine⟨_,h,rfl,e2.wid fun _ z=>z.1,fun hi=>?_,s.pre⟩
     rcases(Bool.or_eq_true _ _).mp hi with hi|hi
     ·exact(imm_eq d v hi).mpr ((imm_eq d v hi).mp e2)
     ·exact(e3 hi).wid fun _ z=>z.1
 | call j es =>
  rw[evS,evVS]
  exact rels_bnd0 s (V (frz venv) env A0 h (s.up.ext s.pre) s.fr) fun x h1 v p1 q1=>rels_ret ⟨q1.1,fun f=>(q1.2 f).wid (Fr.le s.pre.length_le),s.pre.trans p1⟩
 | _=>exact gen rfl
theorem st_nil:SOks Φ Ψ ms .nil:=fun A0 h0 venv env h O s=>by rw[evSs,evVSs];exact rels_ret ⟨O,s,Fm.refl s (List.prefix_refl _)⟩
theorem st_cons{a:IS}{r:ISs}(ha:SOk Φ Ψ ms a)(hr:SOks Φ Ψ ms r):SOks Φ Ψ ms (.cons a r):=fun A0 h0 venv env h O s=>by
 rw[evSs,evVSs]
 have w1:∀i∈mS a,i∈mSs (.cons a r):=fun i hi=>by
  simp only[mS,mSs,mutSs,stoSs,List.mem_append] at hi |-
  rcases hi with z|z
  ·exact .inl (.inl z)
  ·exact .inr (.inl z)
 have w2:∀i∈mSs r,i∈mSs (.cons a r):=fun i hi=>by
  simp only[mSs,mutSs,stoSs,List.mem_append] at hi |-
  rcases hi with z|z
  ·exact .inl (.inr z)
  ·exact .inr (.inr z)
 refine rels_seq (ha A0 h0 venv env h O s) fun f h1 g rr=>?_
 have rr:=rr.wid w1
 cases f<;>cases g<;>first|exact rr.elim|skip
 ·obtain⟨O',s',f'⟩:=rr
  exact rels_mono (hr A0 h0 _ _ h1 O' s') fun f h' g r'=>RF.seq f' (r'.wid w2)
 ·exact rels_ret rr
 ·exact rels_ret rr
 ·exact rels_ret rr
theorem s_all(hΦ:∀j,Imp (Φ j) (Ψ j)):∀ss,okSs ss=true->SOks Φ Ψ ms ss:=by
 intro ss
 refine ISs.rec (motive_1:=fun s=>okS s=true->SOk Φ Ψ ms s) (motive_2:=fun ss=>okSs ss=true->SOks Φ Ψ ms ss) ?_ ?_ ?_ ?_ ?_ ?_ ?_ ?_ ?_ ?_ ?_ ?_ ?_ ?_ ?_ ?_ ss
 ·exact fun e f=>st_expr hΦ (by rw[okS] at f;exact f)
 ·exact fun p e f=>st_asg hΦ (by rw[okS] at f;exact f)
 ·exact fun i o e f=>st_aug hΦ (by rw[okS] at f;exact f)
 ·intro o i v f;rw[okS,Bool.and_eq_true,Bool.and_eq_true] at f;exact st_setI hΦ f.1.1 f.1.2 f.2
 ·intro c a b ia ib f;rw[okS,Bool.and_eq_true,Bool.and_eq_true] at f;exact st_iff hΦ f.1.1 (ia f.1.2) (ib f.2)
 ·intro p k it b ib f;rw[okS,Bool.and_eq_true] at f;exact st_for hΦ f.1 (ib f.2)
 ·intro n c b ib f;rw[okS,Bool.and_eq_true] at f;exact st_whl hΦ f.1 (ib f.2)
 ·exact fun e f=>st_ret hΦ (by rw[okS] at f;exact f)
 ·exact fun _ A0 h0 venv env h O s=>by rw[evS,evVS];exact rels_ret ⟨by rw[Dn],fun _=>by rw[Dn],s.pre⟩
 ·exact fun _ A0 h0 venv env h O s=>by rw[evS,evVS];exact rels_ret ⟨O,s,Fm.refl s (List.prefix_refl _)⟩
 ·exact fun _ A0 h0 venv env h O s=>by rw[evS,evVS];exact rels_ret ⟨O,s,Fm.refl s (List.prefix_refl _)⟩
 ·exact fun _ A0 h0 venv env h O s=>by rw[evS,evVS];exact rels_ret ⟨O,s,Fm.refl s (List.prefix_refl _)⟩
 ·exact fun _ A0 h0 venv env h O s=>by rw[evVS];trivial
 ·exact fun _ _ _ _ _ A0 h0 venv env h O s=>by rw[evVS];trivial
 ·exact fun _=>st_nil
 ·intro a r ia ir f;rw[okSs,Bool.and_eq_true] at f;exact st_cons (ia f.1) (ir f.2)
theorem sr_fn{n:Nat}{A:AP}{h:Hs}{ds vs:List Val}(u:Up A h)(q:Dns A h ds vs):SR A h (ds.map (fun d=>some (.sh,d))++List.replicate (n-ds.length) none) (vs.map some++List.replicate (n-vs.length) none) h (fun _=>none):=by
 have l:=q.length
 have al:∀k,A k->Al A (fun _=>none) k:=fun k hk=>⟨hk,fun i z e=>by subst e;cases z⟩
 have get:∀(i:Nat) (f:Mk) (d:Val),(ds.map (fun d=>some (.sh,d))++List.replicate (n-ds.length) none:VEnv)[i]?=some (some (f,d))->f=.sh/\ds[i]?=some d:=fun i f d e=>by
  by_cases hi:i<ds.length
  ·rw[List.getElem?_append_left (by simpa using hi),List.getElem?_map] at e
   cases ei:ds[i]? with
   | none=>rw[ei] at e;cases e
   | some d'=>rw[ei] at e;cases e;exact⟨rfl,rfl⟩
  ·rw[List.getElem?_append_right (by simp;omega)] at e
   have:=List.mem_of_getElem? e
   rw[List.mem_replicate] at this
   exact absurd this.2 (by simp)
 refine⟨by simp[l],fun i m d e hm=>?_,fun i d e=>?_,(fun i a e=>nomatch e),(fun i j a e=>nomatch e),List.prefix_refl _,u⟩
 ·obtain⟨hm',e⟩:=get i m d e
  obtain⟨v,k1,k2⟩:=q.get e
  have hi:i<vs.length:=(List.getElem?_eq_some_iff.mp k1).1
  exact⟨v,by rw[List.getElem?_append_left (by simpa using hi),List.getElem?_map,k1];rfl,k2.wid al,fun z=>by subst hm';cases z⟩
 ·obtain⟨z,_⟩:=get i .ow d e;cases z
theorem imp_fn{n:Nat}{body:ISs}(hΦ:∀j,Imp (Φ j) (Ψ j))(ho:okSs body=true):Imp (evF Φ n body) (evVF Ψ n body):=fun A h ds vs u q=>by
 have l:=q.length
 have s:=sr_fn (n:=n) u q
 unfold evF evVF
 have r:=rels_seq (R':=fun x h' v=>h<+:h'/\RV A h x h' v) (s_all (ms:=mutSs body) hΦ body ho A h _ _ h _ s) (f:=fun f=>match f with
  | .nx _=>ret .non
  | .rt v=>ret v
  | _=>lft none) (F:=fun f=>match f with
  | .nx _=>.ok (true,.non)
  | .rt p=>.ok p
  | _=>.no) fun f h1 g rr=>by
   cases f<;>cases g<;>first|exact rr.elim|skip
   ·obtain⟨O',s',_⟩:=rr
    exact rels_ret ⟨s'.pre,by show Dn _ _ Val.non _;rw[Dn],fun _=>by show Dn _ _ Val.non _;rw[Dn]⟩
   ·exact rels_ret ⟨rr.2.2,rr.1,rr.2.1⟩
   ·trivial
   ·trivial
 revert r
 generalize (pb (evVSs Ψ (mutSs body) body (ds.map (fun d=>some (.sh,d))++List.replicate (n-ds.length) none)) _)=p
 intro r
 cases p with
 | ok x=>obtain⟨v,h',e,a,b⟩:=r;exact⟨v,h',e,a,b⟩
 | exc c es=>exact r
 | no=>trivial
end
end Hv
end
section
namespace Hv
open PySem L2
noncomputable abbrev RowV:=List Val->Pr FV
noncomputable def lookV(gs:List RowV)(j:Nat):RowV:=match gs[j]? with
 | some g=>g
 | none=>fun _=>.no
noncomputable def AllI(fs:List Row)(gs:List RowV):Prop:=fs.length=gs.length/\∀(j:Nat) (r:Row) (g:RowV),fs[j]?=some r->gs[j]?=some g->Imp r.2.2 g
theorem alli_nil:AllI [] []:=⟨rfl,fun j r g e=>by simp at e⟩
theorem alli_look{fs:List Row}{gs:List RowV}(a:AllI fs gs)(j:Nat):Imp (look fs j) (lookV gs j):=by
 unfold look lookV
 cases e:fs[j]? with
 | none =>
  have:gs[j]?=none:=by
   have:=List.getElem?_eq_none_iff.mp e
   exact List.getElem?_eq_none_iff.mpr (by rw[<-a.1];exact this)
  rw[this]
  exact fun _ _ _ _ _ _=>trivial
 | some r =>
  cases e2:gs[j]? with
  | none=>exact fun _ _ _ _ _ _=>trivial
  | some g=>exact a.2 j r g e e2
theorem alli_snoc{fs:List Row}{gs:List RowV}{x:Str}{k:Nat}{f:List Val->M Val}{g:RowV}(a:AllI fs gs)(i:Imp f g):AllI (fs++[(x,k,f)]) (gs++[g]):=by
 refine⟨by simp[a.1],fun j r g' e1 e2=>?_⟩
 by_cases hj:j<fs.length
 ·rw[List.getElem?_append_left hj] at e1
  rw[List.getElem?_append_left (by rw[<-a.1];exact hj)] at e2
  exact a.2 j r g' e1 e2
 ·rw[List.getElem?_append_right (by omega)] at e1
  rw[List.getElem?_append_right (by rw[<-a.1];omega)] at e2
  have hj0:j-fs.length=0:=by
   have:=(List.getElem?_eq_some_iff.mp e1).1
   simp at this;omega
  rw[<-a.1] at e2
  rw[hj0] at e1 e2
  simp at e1 e2
  subst e1;subst e2
  exact i
end Hv
end
section
namespace Hv
open PySem L2
section
variable {α β γ:Type}
theorem pb_ok(a:α)(f:α -> Pr β):pb (.ok a) f=f a:=rfl
theorem pb_no(f:α -> Pr β):pb .no f=.no:=rfl
theorem pb_ite(c:Prop)[Decidable c](m n:Pr α)(f:α -> Pr β):pb (if c then m else n) f=if c then pb m f else pb n f:=by split<;>rfl
theorem pb_pb(m:Pr α)(f:α -> Pr β)(g:β -> Pr γ):pb (pb m f) g=pb m fun x=>pb (f x) g:=by cases m<;>rfl
theorem pl_some(a:α):pl (some a)=.ok a:=rfl
theorem pl_none:pl (none:Option α)=.no:=rfl
theorem pg_true(m:Pr α):pg true m=m:=rfl
theorem pg_dec(c:Prop)[Decidable c](m:Pr α):pg (decide c) m=if c then m else .no:=by unfold pg;simp
theorem pg_pos{c:Bool}(h:c=true)(m:Pr α):pg c m=m:=by rw[h];rfl
end
theorem rd_mk{f:Bool}{d:Val}:rdM (mkOf f d)=true:=by unfold mkOf;split<;>rfl
theorem rd_sh:rdM .sh=true:=rfl
theorem rd_nw:rdM .nw=true:=rfl
theorem rd_ow:rdM .ow=false:=rfl
theorem nw_sh:nwM .sh=false:=rfl
theorem nw_nw:nwM .nw=true:=rfl
theorem mk_int{f:Bool}{i:Int}:mkOf f (.int i)=.sh:=by cases f<;>rfl
theorem mk_bl{f:Bool}{i:Bool}:mkOf f (.bl i)=.sh:=by cases f<;>rfl
theorem mk_str{f:Bool}{i:Str}:mkOf f (.str i)=.sh:=by cases f<;>rfl
theorem mk_non{f:Bool}:mkOf f .non=.sh:=by cases f<;>rfl
theorem mk_f{d:Val}:mkOf false d=.sh:=rfl
theorem mk_rl{ds:List Val}:mkOf true (.rl ds)=.nw:=rfl
theorem mk_dc{ks:List Key}{ds:List Val}:mkOf true (.dc ks ds)=.nw:=rfl
section
variable {a b:Int} {x y:Str} {t:Bool} {vs ws:List Val} {v:Val}
theorem add_i:bopV .add (.int a) (.int b)=.ok (true,.int (a+b)):=rfl
theorem sub_i:bopV .sub (.int a) (.int b)=.ok (true,.int (a-b)):=rfl
theorem mul_i(h:mulOk a b=true):bopV .mul (.int a) (.int b)=.ok (true,.int (a*b)):=by simp only[bopV];exact pg_pos h _
theorem fdiv_i(h:dvOk b=true):bopV .fdiv (.int a) (.int b)=.ok (true,.int (a/b)):=by simp only[bopV];exact pg_pos h _
theorem mod_i(h:decide (0<b)=true):bopV .mod (.int a) (.int b)=.ok (true,.int (a%b)):=by simp only[bopV];exact pg_pos h _
theorem pow_i(h:decide (0<=b/\b<=1000000/\a.natAbs<2 ^ 64)=true):bopV .pow (.int a) (.int b)=.ok (true,.int (a ^ b.toNat)):=by simp only[bopV];exact pg_pos h _
theorem lt_i:cop [] .lt (.int a) (.int b)=some (decide (a<b)):=rfl
theorem le_i:cop [] .le (.int a) (.int b)=some (decide (a<=b)):=rfl
theorem gt_i:cop [] .gt (.int a) (.int b)=some (decide (b<a)):=rfl
theorem ge_i:cop [] .ge (.int a) (.int b)=some (decide (b<=a)):=rfl
theorem eq_i:cop [] .eq (.int a) (.int b)=some (decide (a=b)):=by
 show some (a==b)=_
 congr 1
theorem ne_i:cop [] .ne (.int a) (.int b)=some (!decide (a=b)):=by
 show some (!(a==b))=_
 congr 1
theorem isn_v:cop [] .isn v .non=some (isNon v):=by cases v<;>rfl
theorem ntn_v:cop [] .ntn v .non=some (!isNon v):=by cases v<;>rfl
theorem tru_b:truH [] (.bl t)=some t:=rfl
theorem tru_i:truH [] (.int a)=some (a != 0):=rfl
theorem tru_l:truH [] (.rl vs)=some (!vs.isEmpty):=rfl
theorem tru_t:truH [] (.tup vs)=some (!vs.isEmpty):=rfl
theorem len_l:bltV .len [.rl vs]=.ok (true,.int vs.length):=rfl
theorem len_t:bltV .len [.tup vs]=.ok (true,.int vs.length):=rfl
theorem min_i:bltV .min [.int a,.int b]=.ok (true,.int (if b<a then b else a)):=rfl
theorem max_i:bltV .max [.int a,.int b]=.ok (true,.int (if b>a then b else a)):=rfl
theorem min_t2:bltV .min [.tup [.int a,.int b]]=.ok (true,.int (min a b)):=rfl
theorem max_t2:bltV .max [.tup [.int a,.int b]]=.ok (true,.int (max a b)):=rfl
theorem list_l:bltV .list [.rl vs]=.ok (imms vs,.rl vs):=rfl
theorem list_t:bltV .list [.tup vs]=.ok (imms vs,.rl vs):=rfl
theorem int_b:bltV .int [.bl t]=.ok (true,.int (if t=true then 1 else 0)):=rfl
theorem idx_l(h:atI vs a=some v):idxH [] (.rl vs) (.int a)=some v:=h
theorem idx_t(h:atI vs a=some v):idxH [] (.tup vs) (.int a)=some v:=h
end
theorem atI0{v:Val}{vs:List Val}:atI (v::vs) (0:Int)=some v:=by
 have:=atI_nat (xs:=v::vs) (j:=0) (v:=v) rfl
 exact this
theorem atI1{u v:Val}{vs:List Val}:atI (u::v::vs) (1:Int)=some v:=by
 have:=atI_nat (xs:=u::v::vs) (j:=1) (v:=v) rfl
 exact this
theorem isin_true{T:String}{v:Val}{t:String}(h1:tyN [] v=some t)(h2:isinH T t=some true):bltV (.isin T) [v]=.ok (true,.bl true):=by
 show pb (pl (tyN [] v)) _=_
 rw[h1,pl_some,pb_ok,h2];rfl
theorem isin_false{T:String}{v:Val}{t:String}(h1:tyN [] v=some t)(h2:isinH T t=some false):bltV (.isin T) [v]=.ok (true,.bl false):=by
 show pb (pl (tyN [] v)) _=_
 rw[h1,pl_some,pb_ok,h2];rfl
theorem ne_self{d:Val}{p:PyData}(h:toD 16 [] d=some p)(hp:p.canLay0=true):cop [] .ne d d=some false:=by
 simp only[cop,eqH,h,Option.bind_some]
 rw[SeqAt.eqv_refl p hp];rfl
end Hv
end
section
namespace Hv
open PySem L2
theorem src_l{vs:List Val}:srcV .seq [.rl vs]=some vs:=rfl
theorem srcC_s{ds:List Val}:srcC .seq ds=srcV .seq ds:=rfl
theorem srcC_r{ds:List Val}:srcC .range ds=srcV .range ds:=rfl
theorem srcC_e{ds:List Val}:srcC .enum ds=srcV .enum ds:=rfl
theorem src_e{vs:List Val}:srcV .enum [.rl vs]=some (enumV 0 vs):=rfl
theorem slc_l{vs:List Val}{lo hi:Option Int}:slcV (.rl vs) lo hi=.ok (imms (cutL vs lo hi),.rl (cutL vs lo hi)):=rfl
theorem bind_one{i:Nat}{d:Val}{env:VEnv}:bindV (.one i) d env=some (env.set i (some (.sh,d))):=rfl
theorem bind_2{i j:Nat}{d e:Val}{env:VEnv}:bindV (.tup [i,j]) (.tup [d,e]) env=some ((env.set i (some (.sh,d))).set j (some (.sh,e))):=rfl
theorem cutL_map{α β:Type}(f:α -> β)(ds:List α)(lo hi:Option Int):cutL (ds.map f) lo hi=(cutL ds lo hi).map f:=by
 unfold cutL;simp only[List.length_map,List.map_take,List.map_drop]
theorem cutL_len{α:Type}(ds:List α)(lo hi:Option Int):(cutL ds lo hi).length<=ds.length:=by
 unfold cutL;simp only[List.length_take,List.length_drop];omega
theorem enumV_len:∀(i:Nat) (ds:List Val),(enumV i ds).length=ds.length
 | _,[]=>rfl
 | i,d::r=>by rw[enumV,List.length_cons,enumV_len (i+1) r,List.length_cons]
theorem mapO_map{α β γ:Type}{f:β -> Option γ}{g:α -> β}{k:α -> γ}:∀(xs:List α),(∀x∈xs,f (g x)=some (k x))->mapO f (xs.map g)=some (xs.map k)
 | [],_=>rfl
 | x::r,h=>by
  rw[List.map_cons,mapO,h x List.mem_cons_self,mapO_map r fun y hy=>h y (List.mem_cons_of_mem _ hy)];rfl
theorem ints_map(xs:List Int):ints? (xs.map .int)=some xs:=by
 have:=mapO_map (f:=fun v=>match v with|.int i=>some i|_=>none) (g:=Val.int) (k:=id) xs fun _ _=>rfl
 rw[List.map_id] at this;exact this
theorem sortV_tups(kss:List (List Int))(h:∀k∈kss,k≠[])(hl:kss.length<64):sortV (kss.map itup)=some ((sortL kss).map itup):=by
 unfold sortV
 rw[if_pos (by rw[List.length_map];exact hl)]
 cases kss with
 | nil=>rfl
 | cons k r =>
  have e:ints? (List.map itup (k::r))=none:=by
   unfold ints? ;rw[List.map_cons,mapO];rfl
  rw[e]
  have e2:tups? (List.map itup (k::r))=some (k::r):=by
   have:=mapO_map (f:=fun v=>match v with|.tup vs=>if vs.isEmpty then none else ints? vs|_=>none) (g:=itup) (k:=id) (k::r) fun x hx=>by
    have hx:=h x hx
    show (if (x.map Val.int).isEmpty=true then none else ints? (x.map .int))=some x
    rw[if_neg (by simpa using hx),ints_map]
   rw[List.map_id] at this;exact this
  show (tups? (List.map itup (k::r))).bind _=_
  rw[e2];rfl
theorem toD_rl{α:Type}{n:Nat}{h:Hs}(f:α -> Val)(g:α -> PyData)(xs:List α)(e:∀x∈xs,toD n h (f x)=some (g x)):toD (n+1) h (.rl (xs.map f))=some (.list (xs.map g)):=by
 show (mapO (toD n h) _).bind _=_
 rw[mapO_map xs e];rfl
theorem canLay_all{α:Type}(g:α -> PyData):∀(xs:List α),(∀x∈xs,(g x).canLay0=true)->PyData.canLayAll0 (xs.map g)=true
 | [],_=>by simp[PyData.canLayAll0]
 | x::r,h=>by
  rw[List.map_cons,PyData.canLayAll0,h x List.mem_cons_self,canLay_all g r fun y hy=>h y (List.mem_cons_of_mem _ hy)];rfl
end Hv
end
section
namespace Hv
open PySem L2
theorem forV_invT{α:Type}(enc:α -> Val){body:Val->VEnv->Pr VFl}(Q:List α -> VEnv->Prop):∀(us done:List α) (env:VEnv),Q done env->(∀(pre:List α) (u:α) (post:List α) (env:VEnv),done++us=pre++u::post->Q pre env->∃env',body (enc u) env=.ok (.nx env')/\Q (pre++[u]) env')->∃env',forV body (us.map enc) env=.ok (.nx env')/\Q (done++us) env'
 | [],done,env,q,_=>⟨env,rfl,by rw[List.append_nil];exact q⟩
 | x::xs,done,env,q,h=>by
  obtain⟨env',e,q'⟩:=h done x xs env rfl q
  have eq:done++x::xs=done++[x]++xs:=by simp
  obtain⟨env2,e2,q2⟩:=forV_invT enc Q xs (done++[x]) env' q' (by rw[<-eq];exact h)
  refine⟨env2,?_,by rw[eq];exact q2⟩
  rw[List.map_cons,forV,e,pb_ok];exact e2
theorem use_loopT{α:Type}(enc:α -> Val){body:Val->VEnv->Pr VFl}{us:List α}{env0:VEnv}{β:Type}{k:VFl->Pr β}(G:Pr β -> Prop)(Q:List α -> VEnv->Prop)(h0:Q [] env0)
  (step:∀(pre:List α) (u:α) (post:List α) (env:VEnv),us=pre++u::post->Q pre env->∃env',body (enc u) env=.ok (.nx env')/\Q (pre++[u]) env')
  (post:∀env',Q us env'->G (k (.nx env'))):G (pb (forV body (us.map enc) env0) k):=by
 obtain⟨env',e,q⟩:=forV_invT enc Q us [] env0 h0 (fun pre x post env ep q=>step pre x post env ep q)
 rw[e,pb_ok]
 exact post env' q
theorem nodup_len:∀{l m:List Int},l.Nodup->(∀x∈l,x∈m)->l.length<=m.length
 | [],_,_,_=>Nat.zero_le _
 | x::r,m,h,hs=>by
  rw[List.nodup_cons] at h
  have hx:x∈m:=hs x List.mem_cons_self
  have:=nodup_len (m:=m.erase x) h.2 fun y hy=>(List.mem_erase_of_ne (fun e:y=x=>h.1 (e▸hy))).mpr (hs y (List.mem_cons_of_mem _ hy))
  rw[List.length_erase_of_mem hx] at this
  have:=List.length_pos_of_mem hx
  rw[List.length_cons]
  omega
noncomputable abbrev dcI(xs:List Int)(g:Int->Val):Val:=.dc (xs.map Sum.inl) (xs.map g)
noncomputable def updI(g:Int->Val)(x:Int)(v:Val):Int->Val:=fun y=>if y=x then v else g y
theorem zip_dc(xs:List Int)(g:Int->Val):(xs.map (Sum.inl:Int->Key)).zip (xs.map g)=xs.map fun x=>((Sum.inl x:Key),g x):=by
 induction xs with
 | nil=>rfl
 | cons x r ih=>simp only[List.map_cons,List.zip_cons_cons,ih]
theorem idx_dc{xs:List Int}{g:Int->Val}{x:Int}(h:x∈xs):idxH [] (dcI xs g) (.int x)=some (g x):=by
 show valK _ _=_
 rw[zip_dc]
 unfold valK
 induction xs with
 | nil=>simp at h
 | cons y r ih =>
  rw[List.map_cons,List.find?_cons]
  by_cases e:y=x
  ·subst e;simp
  ·have:((Sum.inl y:Key)=Sum.inl x)=False:=by simp[e]
   simp only[this,decide_false]
   exact ih (by rcases List.mem_cons.mp h with h|h;exact absurd h.symm e;exact h)
theorem any_dc(xs:List Int)(g:Int->Val)(x:Int):((xs.map fun x=>((Sum.inl x:Key),g x)).any fun kv=>decide (kv.1=Sum.inl x))=decide (x∈xs):=by
 induction xs with
 | nil=>rfl
 | cons y r ih =>
  rw[List.map_cons,List.any_cons,ih]
  by_cases e:y=x
  ·subst e;simp
  ·have e':¬ x=y:=fun h=>e h.symm
   simp[e,e']
theorem put_old{xs:List Int}{g:Int->Val}{x:Int}{v:Val}(h:x∈xs):putD (xs.map Sum.inl) (xs.map g) (.inl x) v=dcI xs (updI g x v):=by
 unfold putD putV
 rw[zip_dc,any_dc,if_pos (by simpa using h)]
 unfold dcI
 rw[List.map_map,List.map_map]
 congr 1
 ·refine List.map_congr_left fun y _=>?_
  show ((if (Sum.inl y:Key)=Sum.inl x then ((Sum.inl y:Key),v) else (Sum.inl y,g y)).1)=_
  split<;>rfl
 ·rw[List.map_map,List.map_map]
  refine List.map_congr_left fun y _=>?_
  show ((if (Sum.inl y:Key)=Sum.inl x then ((Sum.inl y:Key),v) else (Sum.inl y,g y)).2)=_
  unfold updI
  by_cases e:y=x
  ·rw[if_pos (by rw[e]),if_pos e]
  ·rw[if_neg (by simpa using e),if_neg e]
theorem put_new{xs:List Int}{g:Int->Val}{x:Int}{v:Val}(h:x∉xs):putD (xs.map Sum.inl) (xs.map g) (.inl x) v=dcI (xs++[x]) (updI g x v):=by
 unfold putD putV
 rw[zip_dc,any_dc,if_neg (by simpa using h)]
 unfold dcI
 simp only[List.map_append,List.map_map,List.map_cons,List.map_nil]
 congr 1
 congr 1
 ·refine List.map_congr_left fun y hy=>?_
  show g y=updI g x v y
  unfold updI
  rw[if_neg (fun e:y=x=>h (e▸hy))]
 ·simp[updI]
theorem dcI_congr{xs:List Int}{g g':Int->Val}(h:∀x∈xs,g x=g' x):dcI xs g=dcI xs g':=by
 unfold dcI;rw[List.map_congr_left h]
theorem key_i{x:Int}:keyOf (.int x)=some (.inl x):=rfl
theorem mem_newK(x:Int):∀(ns ks:List Int),x∈newK ks ns↔x∈ks\/x∈ns
 | [],ks=>by simp[newK]
 | k::r,ks=>by
  rw[newK,mem_newK x r,addK]
  split
  ·rename_i h
   constructor
   ·rintro(h'|h')
    ·exact .inl h'
    ·exact .inr (List.mem_cons_of_mem _ h')
   ·rintro(h'|h')
    ·exact .inl h'
    ·rcases List.mem_cons.mp h' with h'|h'
     ·exact .inl (h'▸h)
     ·exact .inr h'
  ·simp[or_assoc]
theorem nodup_newK:∀(ns ks:List Int),ks.Nodup->(newK ks ns).Nodup
 | [],ks,h=>h
 | k::r,ks,h=>by
  rw[newK]
  refine nodup_newK r _ ?_
  rw[addK]
  split
  ·exact h
  ·rename_i hk
   rw[List.nodup_append]
   exact⟨h,by simp,fun a ha b hb=>by simp at hb;subst hb;exact fun e=>hk (e▸ha)⟩
noncomputable def setI(ns:List Int):List Int:=PySem.W.sortI (newK [] ns)
theorem mem_setI(x:Int)(ns:List Int):x∈setI ns↔x∈ns:=by
 unfold setI
 rw[(PySem.W.sortI_perm _).mem_iff,mem_newK];simp
theorem nodup_setI(ns:List Int):(setI ns).Nodup:=by
 unfold setI
 rw[(PySem.W.sortI_perm _).nodup_iff]
 exact nodup_newK ns [] List.nodup_nil
inductive Way (es:List (Int×Int)):Int->Int->Prop
 | refl (a:Int):Way es a a
 | fwd {a b c:Int}:Way es a b->(b,c)∈es->Way es a c
 | bwd {a b c:Int}:Way es a b->(c,b)∈es->Way es a c
theorem Way.trans{es:List (Int×Int)}{a b c:Int}(h:Way es a b)(k:Way es b c):Way es a c:=by
 induction k with
 | refl=>exact h
 | fwd _ m ih=>exact .fwd ih m
 | bwd _ m ih=>exact .bwd ih m
theorem Way.symm{es:List (Int×Int)}{a b:Int}(h:Way es a b):Way es b a:=by
 induction h with
 | refl=>exact .refl _
 | fwd _ m ih=>exact(Way.bwd (.refl _) m).trans ih
 | bwd _ m ih=>exact(Way.fwd (.refl _) m).trans ih
theorem Way.mono{es fs:List (Int×Int)}(hs:∀e∈es,e∈fs){a b:Int}(h:Way es a b):Way fs a b:=by
 induction h with
 | refl=>exact .refl _
 | fwd _ m ih=>exact .fwd ih (hs _ m)
 | bwd _ m ih=>exact .bwd ih (hs _ m)
theorem Way.const{es:List (Int×Int)}{α:Type}(f:Int -> α)(hf:∀e∈es,f e.1=f e.2){a b:Int}(h:Way es a b):f a=f b:=by
 induction h with
 | refl=>rfl
 | fwd _ m ih=>exact ih.trans (hf _ m)
 | bwd _ m ih=>exact ih.trans (hf _ m).symm
structure Lab (ps:List Int) (es:List (Int×Int)) (f:Int->Int):Prop where
 inn:∀x∈ps,f x∈ps
 way:∀x∈ps,Way es x (f x)
 same:∀e∈es,f e.1=f e.2
theorem Lab.iff{ps:List Int}{es:List (Int×Int)}{f:Int->Int}(h:Lab ps es f){x y:Int}(hx:x∈ps)(hy:y∈ps):f x=f y↔Way es x y:=by
 constructor
 ·intro e
  have:=(h.way y hy).symm
  rw[<-e] at this
  exact(h.way x hx).trans this
 ·exact fun w=>w.const f h.same
theorem Lab.start(ps:List Int):Lab ps [] id:=⟨fun x h=>h,fun x _=>.refl x,fun e h=>by simp at h⟩
theorem Lab.step{ps:List Int}{es:List (Int×Int)}{f:Int->Int}(h:Lab ps es f){a b:Int}(ha:a∈ps)(hb:b∈ps)(kept gone:Int)(hk:(kept=f a/\gone=f b)\/(kept=f b/\gone=f a)):Lab ps (es++[(a,b)]) (fun x=>if f x=gone then kept else f x):=by
 have up:∀{x y},Way es x y->Way (es++[(a,b)]) x y:=fun w=>w.mono fun e he=>List.mem_append_left _ he
 have ab:Way (es++[(a,b)]) a b:=.fwd (.refl _) (by simp)
 refine⟨fun x hx=>?_,fun x hx=>?_,fun e he=>?_⟩
 ·split
  ·rcases hk with ⟨k,_⟩|⟨k,_⟩<;>rw[k]<;>exact h.inn _ (by assumption)
  ·exact h.inn x hx
 ·split
  ·rename_i e
   have w1:=up (h.way x hx)
   rw[e] at w1
   refine w1.trans ?_
   rcases hk with ⟨k,g⟩|⟨k,g⟩
   ·rw[k,g];exact((up (h.way b hb)).symm.trans ab.symm).trans (up (h.way a ha))
   ·rw[k,g];exact((up (h.way a ha)).symm.trans ab).trans (up (h.way b hb))
  ·exact up (h.way x hx)
 ·rcases List.mem_append.mp he with he|he
  ·rw[h.same e he]
  ·rw[List.mem_singleton] at he
   subst he
   rcases hk with ⟨k,g⟩|⟨k,g⟩
   ·rw[k,g];rw[if_pos (rfl:f b=f b)];split<;>rfl
   ·rw[k,g];rw[if_pos (rfl:f a=f a)];split<;>rfl
end Hv
end
section
namespace Hv
open PySem L2
noncomputable abbrev T3:=Int×Int×Int
noncomputable def l3(t:T3):List Int:=[t.1,t.2.1,t.2.2]
noncomputable def tup3(t:T3):Val:=.tup [.int t.1,.int t.2.1,.int t.2.2]
noncomputable def insT(x:T3):List T3->List T3
 | []=>[x]
 | y::r=>if HT.lexLt (l3 y) (l3 x)=true then y::insT x r else x::y::r
noncomputable def sort3:List T3->List T3
 | []=>[]
 | x::r=>insT x (sort3 r)
theorem insL_map(x:T3):∀l:List T3,insL (l3 x) (l.map l3)=(insT x l).map l3
 | []=>rfl
 | y::r=>by
  rw[List.map_cons,insL,insT]
  split
  ·rw[List.map_cons,insL_map x r]
  ·rfl
theorem sortL_map:∀l:List T3,sortL (l.map l3)=(sort3 l).map l3
 | []=>rfl
 | x::r=>by rw[List.map_cons,sortL,sortL_map r,insL_map];rfl
theorem insT_perm(x:T3):∀l:List T3,(insT x l).Perm (x::l)
 | []=>.refl _
 | y::r=>by
  rw[insT]
  split
  ·exact((insT_perm x r).cons y).trans (List.Perm.swap ..)
  ·exact .refl _
theorem sort3_perm:∀l:List T3,(sort3 l).Perm l
 | []=>.refl _
 | x::r=>(insT_perm x _).trans ((sort3_perm r).cons x)
theorem sortV_3(ts:List T3)(hl:ts.length<64):sortV (ts.map tup3)=some ((sort3 ts).map tup3):=by
 have e:∀us:List T3,us.map tup3=(us.map l3).map itup:=fun us=>by rw[List.map_map];rfl
 rw[e,sortV_tups _ (fun k hk=>by obtain⟨t,_,rfl⟩:=List.mem_map.mp hk;simp[l3]) (by rw[List.length_map];exact hl),sortL_map,e]
theorem sorted_3{ts:List T3}(hl:ts.length<64):bltV .sorted [.rl (ts.map tup3)]=.ok (true,.rl ((sort3 ts).map tup3)):=by
 show pb (pl (sortV _)) _=_
 rw[sortV_3 ts hl];rfl
noncomputable def UpT(ts:List T3):Prop:=ts.Pairwise fun a b=>a.1<b.1
theorem insT_up(x:T3):∀l:List T3,UpT l->(∀y∈l,y.1≠x.1)->UpT (insT x l)
 | [],_,_=>by simp[insT,UpT]
 | y::r,h,hn=>by
  unfold UpT at *
  rw[List.pairwise_cons] at h
  have ny:y.1≠x.1:=hn y List.mem_cons_self
  rw[insT]
  have lx:HT.lexLt (l3 y) (l3 x)=decide (y.1<x.1):=by
   show HT.lexLt (y.1::_) (x.1::_)=_
   rw[HT.lexLt_cons,if_neg ny]
  rw[lx]
  by_cases c:y.1<x.1
  ·rw[if_pos (by simpa using c),List.pairwise_cons]
   refine⟨fun z hz=>?_,insT_up x r h.2 fun z hz=>hn z (List.mem_cons_of_mem _ hz)⟩
   rcases List.mem_cons.mp ((insT_perm x r).mem_iff.mp hz) with hz|hz
   ·rw[hz];exact c
   ·exact h.1 z hz
  ·rw[if_neg (by simpa using c),List.pairwise_cons,List.pairwise_cons]
   refine⟨fun z hz=>?_,h⟩
   have:x.1<y.1:=by omega
   rcases List.mem_cons.mp hz with hz|hz
   ·rw[hz];exact this
   ·have:=h.1 z hz;omega
theorem sort3_up:∀l:List T3,(l.map (·.1)).Nodup->UpT (sort3 l)
 | [],_=>.nil
 | x::r,h=>by
  rw[List.map_cons,List.nodup_cons] at h
  refine insT_up x _ (sort3_up r h.2) fun y hy e=>h.1 ?_
  rw[(sort3_perm r).mem_iff] at hy
  exact List.mem_map.mpr ⟨y,hy,e⟩
noncomputable def turnT(t:T3):T3:=(t.1,if t.2.2<t.2.1 then t.2.2 else t.2.1,if t.2.2>t.2.1 then t.2.2 else t.2.1)
noncomputable def netV(p q:Int)(ts:List T3):Val:=.tup [.tup [.int p,.int q],.rl (ts.map tup3)]
theorem bind_t3{i j k:Nat}{t:T3}{env:VEnv}:bindV (.tup [i,j,k]) (tup3 t) env=some (((env.set i (some (.sh,.int t.1))).set j (some (.sh,.int t.2.1))).set k (some (.sh,.int t.2.2))):=rfl
theorem cutL_len2{α:Type}(ds:List α)(lo:Int)(n:Nat)(h:0<=lo):(cutL ds (some lo) (some (lo+n))).length<=n:=by
 unfold cutL HT.sIx
 dsimp only
 rw[if_neg (by omega),if_neg (by omega)]
 simp only[List.length_take,List.length_drop]
 omega
theorem slc_t3{t:T3}:slcV (tup3 t) (some 1) none=.ok (true,.tup [.int t.2.1,.int t.2.2]):=rfl
theorem compV_mapF{α:Type}(enc:α -> Val)(g:α -> FV){f:Val->Pr (Option FV)}:∀(us:List α),(∀u∈us,f (enc u)=.ok (some (g u)))->compV f (us.map enc)=.ok (us.all fun u=>(g u).1,us.map fun u=>(g u).2)
 | [],_=>rfl
 | x::xs,h=>by
  rw[List.map_cons,compV,h x List.mem_cons_self,pb_ok,compV_mapF enc g xs fun y hy=>h y (List.mem_cons_of_mem _ hy),pb_ok]
  rfl
theorem compV_mapT{α:Type}(enc dec:α -> Val){f:Val->Pr (Option FV)}(us:List α)(h:∀u∈us,f (enc u)=.ok (some (true,dec u))):compV f (us.map enc)=.ok (true,us.map dec):=by
 rw[compV_mapF enc (fun u=>(true,dec u)) us h];simp
theorem compV_filT{α:Type}(enc dec:α -> Val)(t:α -> Bool){f:Val->Pr (Option FV)}:∀(us:List α),(∀u∈us,f (enc u)=.ok (if t u=true then some (true,dec u) else none))->compV f (us.map enc)=.ok (true,(us.filter t).map dec)
 | [],_=>rfl
 | x::xs,h=>by
  rw[List.map_cons,compV,h x List.mem_cons_self,pb_ok,compV_filT enc dec t xs fun y hy=>h y (List.mem_cons_of_mem _ hy),pb_ok]
  by_cases hx:t x=true
  ·rw[if_pos hx,List.filter_cons_of_pos hx];rfl
  ·rw[if_neg hx,List.filter_cons_of_neg hx]
theorem prime67:∀m,m<67->∀d,d<67->0<m->0<d->(m*d)%67≠0:=by decide +kernel
theorem times67{m c i j:Int}(hm:0<m/\m<67)(hi:0<=i/\i<67)(hj:0<=j/\j<67)(e:(m*i+c)%67=(m*j+c)%67):i=j:=by
 have key:∀i j:Int,0<=i->j<67->i<j->(m*i+c)%67=(m*j+c)%67->False:=by
  intro i j h0 h1 hlt e
  obtain⟨a,ha⟩:=Int.eq_ofNat_of_zero_le (show 0<=m by omega)
  obtain⟨d,hd⟩:=Int.eq_ofNat_of_zero_le (show 0<=j-i by omega)
  have p:=prime67 a (by omega) d (by omega) (by omega) (by omega)
  have:m*j=m*i+m*(j-i):=by rw[Int.mul_sub];omega
  rw[this] at e
  have e2:(m*(j-i))%67=0:=by omega
  rw[ha,hd] at e2
  apply p
  have:((a*d:Nat):Int)%67=0:=by rw[Int.natCast_mul];exact e2
  omega
 rcases Int.lt_trichotomy i j with h|h|h
 ·exact(key i j hi.1 hj.2 h e).elim
 ·exact h
 ·exact(key j i hj.1 hi.2 h e.symm).elim
theorem ask_some{α:Type}{f:Hs->Option α}{a:α}{h:Hs}(e:f h=some a):ask f h=.ok a h:=by show (match f h with|some a=>Out.ok a h|none=>Out.no)=_;rw[e]
theorem bnd_ask{α β:Type}{f:Hs->Option α}{g:α -> M β}{a:α}{h:Hs}(e:f h=some a):bnd (ask f) g h=g a h:=bnd_ok (ask_some e)
theorem bnd_lft{α β:Type}{o:Option α}{g:α -> M β}{a:α}{h:Hs}(e:o=some a):bnd (lft o) g h=g a h:=bnd_ok (by unfold lft;rw[e])
end Hv
end
section
namespace Hv
open PySem L2
noncomputable def t3?:Val->Option (Int×Int×Int)
 | .tup [.int a,.int b,.int c]=>some (a,b,c)
 | _=>none
noncomputable def endKV(kvs:List (Key×Val))(t:Int×Int×Int):List (Key×Val):=putV kvs (.inl t.1) (.tup [.int t.2.1,.int t.2.2])
noncomputable def endsKV(p q:Int)(ts:List (Int×Int×Int)):List (Key×Val):=ts.foldl endKV [(.inl (-1),.tup [.int p,.int q])]
noncomputable def ruleG(Ψ:Nat->List Val->Pr FV)(c jo jp:Nat)(ds:List Val):Pr FV:=match ds with
 | [net]=>(match Ψ jo [net] with
  | .ok (true,.tup [.tup [.int p,.int q],.rl ts])=>pb (pl (mapO t3? ts)) fun es=>pg (decide (es.length<1000)) (match Ψ jp [.tup [.tup [.int p,.int q],.rl ts]] with
   | .ok (true,y)=>.ok (true,.ob c ["net","places","ends"] [.tup [.tup [.int p,.int q],.rl ts],y,.dc ((endsKV p q es).map (·.1)) ((endsKV p q es).map (·.2))])
   | _=>.no)
  | _=>.no)
 | _=>.no
noncomputable abbrev ruleB(n jo jp:Nat):ISs:=.cons (.setF n (.var 0) "net" (.call jo (.cons (.var 1) .nil))) (.cons (.setF n (.var 0) "places" (.call jp (.cons (.fld n (.var 0) "net") .nil))) (.cons (.setF n (.var 0) "ends" (.dct1 (.con "THOUGHT" (.int (-1))) (.idx (.fld n (.var 0) "net") (.cst (.int 0)))))
 (.cons (.for (.tup [2,3,4]) .seq (.cons (.idx (.fld n (.var 0) "net") (.cst (.int 1))) .nil) (.cons (.setI (.fld n (.var 0) "ends") (.var 2) (.tup (.cons (.var 3) (.cons (.var 4) .nil)))) .nil)) .nil)))
noncomputable def tv3(t:Int×Int×Int):Val:=.tup [.int t.1,.int t.2.1,.int t.2.2]
theorem t3_some{v:Val}{t:Int×Int×Int}(e:t3? v=some t):v=tv3 t:=by
 unfold t3? at e
 split at e
 ·cases e;rfl
 ·cases e
theorem t3s_some:∀{vs:List Val} {ts:List (Int×Int×Int)},mapO t3? vs=some ts->vs=ts.map tv3
 | [],ts,e=>by cases e;rfl
 | v::vs,ts,e=>by
  rw[mapO] at e
  obtain⟨t,e1,e⟩:=Option.bind_eq_some_iff.mp e
  obtain⟨r,e2,e⟩:=Option.bind_eq_some_iff.mp e
  cases e
  rw[t3_some e1,t3s_some e2];rfl
theorem tv3_imm:∀ts:List (Int×Int×Int),imms (ts.map tv3)=true
 | []=>rfl
 | t::r=>by rw[List.map_cons,imms,tv3_imm r];rfl
theorem putV_len(kvs:List (Key×Val))(k:Key)(v:Val):(putV kvs k v).length<=kvs.length+1:=by
 unfold putV
 split
 ·rw[List.length_map];omega
 ·rw[List.length_append];simp
theorem putV_imm{k:Key}{v:Val}(hv:imm v=true)(kvs:List (Key×Val))(h:∀kv∈kvs,imm kv.2=true):∀kv∈putV kvs k v,imm kv.2=true:=by
 unfold putV
 intro kv hk
 split at hk
 ·obtain⟨z,hz,rfl⟩:=List.mem_map.mp hk
  split
  ·exact hv
  ·exact h z hz
 ·rcases List.mem_append.mp hk with hk|hk
  ·exact h kv hk
  ·rw[List.mem_singleton.mp hk];exact hv
theorem ends_imm:∀(ts:List (Int×Int×Int)) (kvs:List (Key×Val)),(∀kv∈kvs,imm kv.2=true)->∀kv∈ts.foldl endKV kvs,imm kv.2=true
 | [],kvs,h=>h
 | t::r,kvs,h=>ends_imm r _ (putV_imm rfl kvs h)
theorem imms_all:∀{vs:List Val},(∀v∈vs,imm v=true)->imms vs=true
 | [],_=>rfl
 | v::vs,h=>by rw[imms,h v List.mem_cons_self,imms_all fun w hw=>h w (List.mem_cons_of_mem _ hw)];rfl
section
variable {Φ:Nat->List Val->M Val} {Ψ:Nat->List Val->Pr FV}
theorem rule_loop{n c D L E:Nat}{ts:List (Int×Int×Int)}{fs:List (Str×Val)}(hc:c<n)(hf:fs.lookup ("ends":Str)=some (Val.ref E))(ts1000:ts.length<1000)(hDE:D≠E)(hLE:L≠E) :
  ∀(m j:Nat) (kvs:List (Key×Val)) (env:Env) (h h':Hs),m+j=ts.length->kvs.length<=j+1->env[0]?=some (some (.ref D))->4<env.length->h[D]?=some (.ins c fs)->h[L]?=some (.lst (ts.map tv3))->h'.length=h.length->(∀k,k≠E->h'[k]?=h[k]?)->h'[E]?=some (.dct kvs) ->
  ∃env' h2,forM (.live L) (fun x env=>bnd (lft (bindE (.tup [2,3,4]) x env)) fun env'=>evSs Φ (.cons (.setI (.fld n (.var 0) "ends") (.var 2) (.tup (.cons (.var 3) (.cons (.var 4) .nil)))) .nil) env') m j env h'=.ok (.nx env') h2 /\
   h2.length=h.length/\(∀k,k≠E->h2[k]?=h[k]?)/\h2[E]?=some (.dct ((ts.drop j).foldl endKV kvs))
 | 0,j,kvs,env,h,h',hm,hk,he,hl,hD,hL,h1,h2,h3=>by
  refine⟨env,h',?_,h1,h2,?_⟩
  ·rw[forM,bnd_ask (a:=ts.map tv3) (live_items (by rw[h2 L hLE];exact hL))]
   unfold guardM
   rw[if_pos (decide_eq_true (by rw[List.length_map];omega))]
   rfl
  ·rw[List.drop_of_length_le (by omega)];exact h3
 | m+1,j,kvs,env,h,h',hm,hk,he,hl,hD,hL,h1,h2,h3=>by
  have hj:j<ts.length:=by omega
  have hE:E<h'.length:=(List.getElem?_eq_some_iff.mp h3).1
  let env1:Env:=((env.set 2 (some (.int ts[j].1))).set 3 (some (.int ts[j].2.1))).set 4 (some (.int ts[j].2.2))
  have b1:bindE (.tup [2,3,4]) (tv3 ts[j]) env=some env1:=rfl
  have g0:env1[0]?=some (some (.ref D)):=by
   show (((env.set 2 _).set 3 _).set 4 _)[0]?=_
   rw[List.getElem?_set_ne (by omega),List.getElem?_set_ne (by omega),List.getElem?_set_ne (by omega)];exact he
  have g2:env1[2]?=some (some (.int ts[j].1)):=by
   show (((env.set 2 _).set 3 _).set 4 _)[2]?=_
   rw[List.getElem?_set_ne (by omega),List.getElem?_set_ne (by omega),List.getElem?_set_self (by omega)]
  have g3:env1[3]?=some (some (.int ts[j].2.1)):=by
   show (((env.set 2 _).set 3 _).set 4 _)[3]?=_
   rw[List.getElem?_set_ne (by omega),List.getElem?_set_self (by rw[List.length_set];omega)]
  have g4:env1[4]?=some (some (.int ts[j].2.2)):=by
   show (((env.set 2 _).set 3 _).set 4 _)[4]?=_
   rw[List.getElem?_set_self (by rw[List.length_set,List.length_set];omega)]
  have evf:evE Φ (.fld n (.var 0) "ends") env1 h'=.ok (.ref E) h':=by
   rw[evE,bnd_ok (ev_var g0)]
   refine ask_some (f:=fun h=>fldH n h (.ref D) "ends") ?_
   unfold fldH;dsimp only;rw[h2 D hDE,hD];dsimp only;rw[if_pos hc];exact hf
  have evt:evE Φ (.tup (.cons (.var 3) (.cons (.var 4) .nil))) env1 h'=.ok (.tup [.int ts[j].2.1,.int ts[j].2.2]) h':=by
   rw[evE,bnd_ok (a:=[.int ts[j].2.1,.int ts[j].2.2]) (h1:=h')]
   ·unfold guardM;rw[if_pos (decide_eq_true (show ([Val.int ts[j].2.1,Val.int ts[j].2.2]:List Val).length<=sizeLine from(by decide:2<=sizeLine)))];rfl
   ·rw[evEs,bnd_ok (ev_var g3),evEs]
    rw[show bnd (bnd (evE Φ (.var 4) env1) fun d=>bnd (evEs Φ .nil env1) fun ds=>ret (d::ds)) (fun ds=>ret (Val.int ts[j].2.1::ds)) h'=_ from bnd_ok (a:=[.int ts[j].2.2]) (h1:=h') (by rw[bnd_ok (ev_var g4),evEs];rfl)]
    rfl
  have st:evSs Φ (.cons (.setI (.fld n (.var 0) "ends") (.var 2) (.tup (.cons (.var 3) (.cons (.var 4) .nil)))) .nil) env1 h'=.ok (.nx env1) (h'.set E (.dct (endKV kvs ts[j]))):=by
   rw[evSs,bnd_ok (a:=Fl.nx env1) (h1:=h'.set E (.dct (endKV kvs ts[j])))]
   ·dsimp only;rw[evSs];rfl
   ·rw[evS,bnd_ok evt,bnd_ok evf,bnd_ok (ev_var g2)]
    rw[bnd_ok (a:=()) (h1:=h'.set E (.dct (endKV kvs ts[j])))]
    ·rfl
    ·unfold setIM;dsimp only
     rw[bnd_ask (f:=fun h=>h[E]?) h3]
     dsimp only
     rw[bnd_lft (o:=keyOf (.int ts[j].1)) (a:=.inl ts[j].1) rfl]
     unfold guardM
     rw[if_pos (decide_eq_true (by unfold sizeLine;omega))]
     rfl
  have hlen:(endKV kvs ts[j]).length<=j+1+1:=Nat.le_trans (putV_len _ _ _) (by omega)
  obtain⟨env2,h4,r1,r2,r3,r4⟩:=rule_loop hc hf ts1000 hDE hLE m (j+1) (endKV kvs ts[j]) env1 h (h'.set E (.dct (endKV kvs ts[j]))) (by omega) hlen g0 (by show 4<(((env.set 2 _).set 3 _).set 4 _).length;simp;omega) hD hL (by simp[h1])
   (fun k hk=>by rw[List.getElem?_set_ne fun z=>hk z.symm];exact h2 k hk) (List.getElem?_set_self hE)
  refine⟨env2,h4,?_,r2,r3,?_⟩
  ·rw[forM,bnd_ask (a:=ts.map tv3) (live_items (by rw[h2 L hLE];exact hL))]
   rw[show (ts.map tv3)[j]?=some (tv3 ts[j]) by rw[List.getElem?_map,List.getElem?_eq_getElem hj];rfl]
   dsimp only
   rw[bnd_ok (a:=Fl.nx env1) (h1:=h'.set E (.dct (endKV kvs ts[j])))]
   ·exact r1
   ·rw[bnd_lft b1];exact st
  ·rw[List.drop_eq_getElem_cons hj,List.foldl_cons];exact r4
theorem set_run{n c i:Nat}{env:Env}{x:Str}{v:Val}{fs:List (Str×Val)}{h:Hs}(hc:c<n)(g:h[i]?=some (.ins c fs))(hl:fs.length<1000):bnd (setFM n (.ref i) x v) (fun _=>ret (Fl.nx env)) h=.ok (.nx env) (h.set i (.ins c (putFV x v fs))):=by
 unfold setFM;dsimp only
 rw[bnd_assoc',bnd_ask (a:=(c,fs)) (by rw[g];dsimp only;rw[if_pos hc])]
 dsimp only
 unfold bnd guardM
 rw[if_pos (decide_eq_true hl)]
 rfl
theorem rule_run{n c jo jp:Nat}(hc:c<n)(hΦ:∀j,Imp (Φ j) (Ψ j)){A:AP}{h:Hs}{net v y:Val}{p q':Int}{ts:List Val}{es:List (Int×Int×Int)}(u:Up A h)(qn:Dn A h net v)(e1:Ψ jo [net]=.ok (true,.tup [.tup [.int p,.int q'],.rl ts]))(e2:mapO t3? ts=some es)(hz:es.length<1000)
  (e3:Ψ jp [.tup [.tup [.int p,.int q'],.rl ts]]=.ok (true,y)):∃(h8:Hs) (V1 v2 vE:Val),evF Φ 5 (ruleB n jo jp) [.ref h.length,v] (h++[Ob.ins c []])=.ok .non h8/\h<+:h8/\h8[h.length]?=some (.ins c [("net",V1),("places",v2),("ends",vE)]) /\
   ∀B:AP,(∀k,h.length+1<=k->B (some k))->Dns B h8 [.tup [.tup [.int p,.int q'],.rl ts],y,.dc ((endsKV p q' es).map (·.1)) ((endsKV p q' es).map (·.2))] [V1,v2,vE]:=by
 have et:=t3s_some e2
 have p01:h<+:h++[Ob.ins c []]:=List.prefix_append _ _
 have u1:=u.ext p01
 have R1:=hΦ jo A (h++[Ob.ins c []]) [net] [v] u1 (Dns.cons (qn.ext p01) Dns.nil)
 rw[e1] at R1
 obtain⟨v1,h2,f1,p12,_,dF⟩:=R1
 have dA:=dF rfl
 clear dF
 have hD2:h2[h.length]?=some (.ins c []):=pre_ob p12 (by simp)
 have l2:h.length+1<=h2.length:=by have:=p12.length_le;simpa using this
 rw[Dn] at dA
 obtain⟨ws,rfl,dB⟩:=dA
 rw[Dns] at dB
 obtain⟨w0,r0,rfl,d0,d1⟩:=dB
 obtain⟨w1,rfl,d5⟩:=Dns.one d1
 clear d1
 have ew0:w0=.tup [.int p,.int q']:=(imm_eq _ _ (show imm (.tup [.int p,.int q'])=true from rfl)).mp d0
 subst ew0
 rw[Dn] at d5
 rcases d5 with ⟨_,_,z,_⟩|⟨L,ws,rfl,aL,gL,d6⟩
 ·exact False.elim z
 rw[et] at d6
 have ews:ws=es.map tv3:=(imms_eq _ _ (tv3_imm es)).mp d6
 subst ews
 have hL:(h++[Ob.ins c []]).length<=L:=aL
 have hL':h.length+1<=L:=by simpa using hL
 have lL:L<h2.length:=(List.getElem?_eq_some_iff.mp gL).1
 let V1:Val:=.tup [.tup [.int p,.int q'],.ref L]
 let h3:Hs:=h2.set h.length (.ins c [("net",V1)])
 have hD3:h3[h.length]?=some (.ins c [("net",V1)]):=List.getElem?_set_self (by omega)
 have gL3:h3[L]?=some (.lst (es.map tv3)):=by
  show (h2.set _ _)[L]?=_
  rw[List.getElem?_set_ne (by omega)];exact gL
 have l3:h3.length=h2.length:=List.length_set
 have dn3:Dn (Fr (h.length+1)) h3 (.tup [.tup [.int p,.int q'],.rl ts]) V1:=by
  rw[Dn]
  refine⟨_,rfl,Dns.cons ((imm_eq _ _ (show imm (.tup [.int p,.int q'])=true from rfl)).mpr rfl) (Dns.cons ?_ Dns.nil)⟩
  rw[Dn]
  exact .inr ⟨L,_,rfl,hL',gL3,by rw[et];exact(imms_eq _ _ (tv3_imm es)).mpr rfl⟩
 have R2:=hΦ jp (Fr (h.length+1)) h3 [.tup [.tup [.int p,.int q'],.rl ts]] [V1] (fun k hk=>by show h.length+1<=k;omega) (Dns.cons dn3 Dns.nil)
 rw[e3] at R2
 obtain⟨v2,h4,f2,p34,_,dG⟩:=R2
 have d2:=dG rfl
 clear dG
 have hD4:h4[h.length]?=some (.ins c [("net",V1)]):=pre_ob p34 hD3
 have l4:h3.length<=h4.length:=p34.length_le
 let h5:Hs:=h4.set h.length (.ins c [("net",V1),("places",v2)])
 have hD5:h5[h.length]?=some (.ins c [("net",V1),("places",v2)]):=List.getElem?_set_self (by omega)
 have l5:h5.length=h4.length:=List.length_set
 let h6:Hs:=h5++[Ob.dct [(.inl (-1),.tup [.int p,.int q'])]]
 have hD6:h6[h.length]?=some (.ins c [("net",V1),("places",v2)]):=pre_ob (List.prefix_append _ _) hD5
 have l6:h6.length=h5.length+1:=by show (h5++[_]).length=_;simp
 let FS:List (Str×Val):=[("net",V1),("places",v2),("ends",.ref h5.length)]
 let h7:Hs:=h6.set h.length (.ins c FS)
 have hD7:h7[h.length]?=some (.ins c FS):=List.getElem?_set_self (by omega)
 have l7:h7.length=h6.length:=List.length_set
 have hE7:h7[h5.length]?=some (.dct [(.inl (-1),.tup [.int p,.int q'])]):=by
  show (h6.set _ _)[h5.length]?=_
  rw[List.getElem?_set_ne (by omega)]
  show (h5++[_])[h5.length]?=_
  simp
 have hk7:∀k,k≠h.length->k<h4.length->h7[k]?=h4[k]?:=fun k n1 n2=>by
  show (h6.set _ _)[k]?=_
  rw[List.getElem?_set_ne fun z=>n1 z.symm]
  show (h5++[_])[k]?=_
  rw[List.getElem?_append_left (by omega)]
  show (h4.set _ _)[k]?=_
  rw[List.getElem?_set_ne fun z=>n1 z.symm]
 have gL4:h4[L]?=some (.lst (es.map tv3)):=pre_ob p34 gL3
 have gL7:h7[L]?=some (.lst (es.map tv3)):=by rw[hk7 L (by omega) (by omega)];exact gL4
 let env:Env:=[some (.ref h.length),some v,none,none,none]
 have k1:("ends":Str) ≠ "net":=by decide
 obtain⟨env',h8,lp,l8,k8,d8⟩:=rule_loop (Φ:=Φ) (fs:=FS) (ts:=es) hc (by rfl) hz (by omega) (by omega) es.length 0 [(.inl (-1),.tup [.int p,.int q'])] env h7 h7 (by omega) (by simp) rfl (by decide:4<5) hD7 gL7 rfl (fun _ _=>rfl) hE7
 have fldN:∀(g:Hs) (fs:List (Str×Val)),g[h.length]?=some (.ins c (("net",V1)::fs))->evE Φ (.fld n (.var 0) "net") env g=.ok V1 g:=fun g fs hg=>by
  rw[evE,bnd_ok (ev_var rfl)]
  refine ask_some (f:=fun h'=>fldH n h' (.ref h.length) "net") ?_
  unfold fldH;dsimp only;rw[hg];dsimp only;rw[if_pos hc];rfl
 have s1:evS Φ (.setF n (.var 0) "net" (.call jo (.cons (.var 1) .nil))) env (h++[Ob.ins c []])=.ok (.nx env) h3:=by
  have e:evE Φ (.call jo (.cons (.var 1) .nil)) env (h++[Ob.ins c []])=.ok V1 h2:=by
   rw[evE,bnd_ok (a:=[v]) (h1:=h++[Ob.ins c []])]
   ·exact f1
   ·rw[evEs,bnd_ok (ev_var rfl),evEs];rfl
  rw[evS,bnd_ok e,bnd_ok (ev_var rfl)]
  exact set_run hc hD2 (by decide)
 have s2:evS Φ (.setF n (.var 0) "places" (.call jp (.cons (.fld n (.var 0) "net") .nil))) env h3=.ok (.nx env) h5:=by
  have e:evE Φ (.call jp (.cons (.fld n (.var 0) "net") .nil)) env h3=.ok v2 h4:=by
   rw[evE,bnd_ok (a:=[V1]) (h1:=h3)]
   ·exact f2
   ·rw[evEs,bnd_ok (fldN h3 [] hD3),evEs];rfl
  rw[evS,bnd_ok e,bnd_ok (ev_var rfl)]
  exact set_run hc hD4 (by decide:1<1000)
 have s3:evS Φ (.setF n (.var 0) "ends" (.dct1 (.con "THOUGHT" (.int (-1))) (.idx (.fld n (.var 0) "net") (.cst (.int 0))))) env h5=.ok (.nx env) h7:=by
  have e0:evE Φ (.idx (.fld n (.var 0) "net") (.cst (.int 0))) env h5=.ok (.tup [.int p,.int q']) h5:=by
   rw[evE,bnd_ok (fldN h5 _ hD5),bnd_ok (a:=.int 0) (h1:=h5) (by rw[evE];rfl)]
   rfl
  have e:evE Φ (.dct1 (.con "THOUGHT" (.int (-1))) (.idx (.fld n (.var 0) "net") (.cst (.int 0)))) env h5=.ok (.ref h5.length) h6:=by
   rw[evE,bnd_ok (a:=.int (-1)) (h1:=h5) (by rw[evE];rfl),bnd_lft (o:=keyOf (.int (-1))) (a:=.inl (-1)) rfl,bnd_ok e0]
   rfl
  rw[evS,bnd_ok e,bnd_ok (ev_var rfl)]
  exact set_run hc hD6 (by decide:2<1000)
 have s4:evS Φ (.for (.tup [2,3,4]) .seq (.cons (.idx (.fld n (.var 0) "net") (.cst (.int 1))) .nil) (.cons (.setI (.fld n (.var 0) "ends") (.var 2) (.tup (.cons (.var 3) (.cons (.var 4) .nil)))) .nil)) env h7=.ok (.nx env') h8:=by
  have e0:evE Φ (.idx (.fld n (.var 0) "net") (.cst (.int 1))) env h7=.ok (.ref L) h7:=by
   rw[evE,bnd_ok (fldN h7 _ hD7),bnd_ok (a:=.int 1) (h1:=h7) (by rw[evE];rfl)]
   rfl
  rw[evS,bnd_ok (a:=[.ref L]) (h1:=h7)]
  ·rw[bnd_lft (o:=srcOf .seq [.ref L]) (a:=.live L) rfl,bnd_ask (a:=es.map tv3) (live_items gL7),List.length_map]
   exact lp
  ·rw[evEs,bnd_ok e0,evEs];rfl
 have run:evF Φ 5 (ruleB n jo jp) [.ref h.length,v] (h++[Ob.ins c []])=.ok .non h8:=by
  unfold evF
  rw[bnd_ok (a:=Fl.nx env') (h1:=h8)]
  ·rfl
  ·show evSs Φ (ruleB n jo jp) env _=_
   rw[evSs,bnd_ok s1];dsimp only
   rw[evSs,bnd_ok s2];dsimp only
   rw[evSs,bnd_ok s3];dsimp only
   rw[evSs,bnd_ok s4];dsimp only
   rw[evSs];rfl
 have k48:∀k,k≠h.length->k<h4.length->h8[k]?=h4[k]?:=fun k n1 n2=>(k8 k (by omega)).trans (hk7 k n1 n2)
 have hpre:h<+:h8:=by
  refine List.prefix_iff_getElem?.mpr fun i hi=>?_
  have hi4:i<h4.length:=by omega
  rw[k48 i (by omega) hi4]
  have:(h2.set h.length (.ins c [("net",V1)]))[i]?=h2[i]?:=List.getElem?_set_ne (by omega)
  have e3':h4[i]?=h3[i]?:=pre_get' p34 (by omega)
  rw[e3',this,pre_get' p12 (by simp;omega),List.getElem?_append_left hi,List.getElem?_eq_getElem hi]
 refine⟨h8,V1,v2,.ref h5.length,run,hpre,by rw[k8 _ (by omega)];exact hD7,fun B hB=>Dns.cons ?_ (Dns.cons ?_ (Dns.cons ?_ Dns.nil))⟩
 ·refine Dn.mono (A:=Fr (h.length+1)) (h:=h3) (fun o z=>?_) (fun k o a g=>?_) _ _ dn3
  ·cases o with
   | none=>exact False.elim z
   | some k=>exact hB k z
  ·have a:h.length+1<=k:=a
   have:=(List.getElem?_eq_some_iff.mp g).1
   rw[k48 k (by omega) (by omega)];exact pre_ob p34 g
 ·refine Dn.mono (A:=Fr h3.length) (h:=h4) (fun o z=>?_) (fun k o a g=>?_) _ _ d2
  ·cases o with
   | none=>exact False.elim z
   | some k=>exact hB k (by have:h3.length<=k:=z;omega)
  ·have a:h3.length<=k:=a
   have:=(List.getElem?_eq_some_iff.mp g).1
   rw[k48 k (by omega) (by omega)];exact g
 ·rw[Dn]
  refine⟨h5.length,endsKV p q' es,rfl,hB _ (by omega),?_,rfl,?_⟩
  ·rw[List.drop_zero] at d8;exact d8
  ·refine(imms_eq _ _ (imms_all fun w hw=>?_)).mpr rfl
   obtain⟨kv,hkv,rfl⟩:=List.mem_map.mp hw
   exact ends_imm es _ (fun kv hk=>by rw[List.mem_singleton.mp hk];rfl) kv hkv
theorem imp_rule{n c jo jp:Nat}(hc:c<n)(hΦ:∀j,Imp (Φ j) (Ψ j)):Imp (mkF c (evF Φ 5 (ruleB n jo jp))) (ruleG Ψ c jo jp):=fun A h ds vs u q=>by
 unfold ruleG
 split
 ·rename_i net
  obtain⟨v,rfl,qn⟩:=Dns.one q
  split
  ·rename_i p q' ts e1
   cases e2:mapO t3? ts with
   | none=>trivial
   | some es =>
    show Rel A h (RV A h) _ (pg (decide (es.length<1000)) _)
    by_cases hz:es.length<1000
    ·unfold pg
     rw[if_pos (decide_eq_true hz)]
     split
     ·rename_i y e3
      obtain⟨h8,V1,v2,vE,r1,p8,g8,d8⟩:=rule_run (Ψ:=Ψ) hc hΦ u qn e1 e2 hz e3
      have run:mkF c (evF Φ 5 (ruleB n jo jp)) [v] h=.ok (.ref h.length) h8:=by
       show bnd (evF Φ 5 (ruleB n jo jp) [.ref h.length,v]) _ (h++[Ob.ins c []])=_
       rw[bnd_ok r1]
       rfl
      have dn:∀B:AP,(∀k,h.length<=k->B (some k))->Dn B h8 (.ob c ["net","places","ends"] [.tup [.tup [.int p,.int q'],.rl ts],y,.dc ((endsKV p q' es).map (·.1)) ((endsKV p q' es).map (·.2))]) (.ref h.length):=fun B hB=>by
       rw[Dn]
       exact⟨h.length,_,rfl,hB _ (Nat.le_refl _),g8,rfl,d8 B fun k hk=>hB k (by omega)⟩
      exact⟨_,h8,run,p8,dn A fun k hk=>u k hk,fun _=>dn _ fun k hk=>hk⟩
     ·trivial
    ·unfold pg
     rw[if_neg (by simpa using hz)]
     trivial
  ·trivial
 ·trivial
end
end Hv
end
section
namespace Hv
open PySem L2
noncomputable def cnt(φ:Int->Int)(ps:List Int):Nat:=(newK [] (ps.map φ)).length
theorem mem_cnt{φ:Int->Int}{ps:List Int}{v:Int}:v∈newK [] (ps.map φ)↔∃x∈ps,φ x=v:=by
 rw[mem_newK];simp
theorem cnt_le{f g:Int->Int}{ps:List Int}(h:∀x∈ps,∀y∈ps,g x=g y->f x=f y):cnt f ps<=cnt g ps:=by
 classical
 let r:Int->Int:=fun v=>if hv:∃x∈ps,f x=v then g (Classical.choose hv) else 0
 have hr:∀v∈newK [] (ps.map f),∃x∈ps,f x=v/\r v=g x:=fun v hv=>by
  have e:=mem_cnt.mp hv
  refine⟨Classical.choose e,(Classical.choose_spec e).1,(Classical.choose_spec e).2,?_⟩
  show (if hv:∃x∈ps,f x=v then g (Classical.choose hv) else 0)=_
  rw[dif_pos e]
 have nd:((newK [] (ps.map f)).map r).Nodup:=by
  have n0:=nodup_newK (ps.map f) [] List.nodup_nil
  revert hr n0
  generalize newK [] (ps.map f)=l
  intro hr n0
  induction l with
  | nil=>exact List.nodup_nil
  | cons v l ih =>
   rw[List.nodup_cons] at n0
   rw[List.map_cons,List.nodup_cons]
   refine⟨fun hm=>?_,ih (fun w hw=>hr w (List.mem_cons_of_mem _ hw)) n0.2⟩
   obtain⟨w,hw,e⟩:=List.mem_map.mp hm
   obtain⟨x,hx,e1,e2⟩:=hr v (List.mem_cons_self ..)
   obtain⟨y,hy,e3,e4⟩:=hr w (List.mem_cons_of_mem _ hw)
   have:f x=f y:=h x hx y hy (by rw[<-e2,<-e4,e])
   exact n0.1 (by rw[<-e1,this,e3];exact hw)
 have:=nodup_len nd (m:=newK [] (ps.map g)) fun z hz=>by
  obtain⟨v,hv,rfl⟩:=List.mem_map.mp hz
  obtain⟨x,hx,_,e2⟩:=hr v hv
  rw[e2]
  exact mem_cnt.mpr ⟨x,hx,rfl⟩
 rw[List.length_map] at this
 exact this
theorem cnt_eq{f g:Int->Int}{ps:List Int}(h:∀x∈ps,∀y∈ps,f x=f y↔g x=g y):cnt f ps=cnt g ps :=
 Nat.le_antisymm (cnt_le fun x hx y hy=>(h x hx y hy).mpr) (cnt_le fun x hx y hy=>(h x hx y hy).mp)
theorem cnt_join{ψ:Int->Int}{ps:List Int}{a b:Int}(ha:a∈ps)(hb:b∈ps)(ne:ψ a ≠ ψ b):cnt (fun x=>if ψ x = ψ b then ψ a else ψ x) ps+1=cnt ψ ps:=by
 have m1:ψ b∈newK [] (ps.map ψ):=mem_cnt.mpr ⟨b,hb,rfl⟩
 have n1:=nodup_newK (ps.map ψ) [] List.nodup_nil
 have n2:=nodup_newK (ps.map fun x=>if ψ x = ψ b then ψ a else ψ x) [] List.nodup_nil
 have le1:=nodup_len n2 (m:=(newK [] (ps.map ψ)).erase (ψ b)) fun v hv=>by
  obtain⟨x,hx,e⟩:=mem_cnt.mp hv
  rw[List.Nodup.mem_erase_iff n1]
  by_cases c:ψ x = ψ b
  ·rw[if_pos c] at e;subst e;exact⟨ne,mem_cnt.mpr ⟨a,ha,rfl⟩⟩
  ·rw[if_neg c] at e;subst e;exact⟨c,mem_cnt.mpr ⟨x,hx,rfl⟩⟩
 have le2:=nodup_len (n1.erase (ψ b)) (m:=newK [] (ps.map fun x=>if ψ x = ψ b then ψ a else ψ x)) fun v hv=>by
  rw[List.Nodup.mem_erase_iff n1] at hv
  obtain⟨x,hx,e⟩:=mem_cnt.mp hv.2
  subst e
  exact mem_cnt.mpr ⟨x,hx,by rw[if_neg hv.1]⟩
 rw[List.length_erase_of_mem m1] at le1 le2
 have:=List.length_pos_of_mem m1
 unfold cnt
 omega
end Hv
end
section
namespace Hv
open PySem L2
theorem Lab.fix{ps:List Int}{es:List (Int×Int)}{φ:Int->Int}(h:Lab ps es φ){x:Int}(hx:x∈ps):φ (φ x) = φ x:=((h.way x hx).const φ h.same).symm
noncomputable def rk(φ:Int->Int)(ps:List Int):Nat:=(ps.filter fun x=>!decide (φ x=x)).length
theorem fil_len(t:Int->Bool):∀ps:List Int,(ps.filter t).length+(ps.filter fun x=>!t x).length=ps.length
 | []=>rfl
 | x::r=>by
  have ih:=fil_len t r
  cases h:t x with
  | true=>rw[List.filter_cons_of_pos h,List.filter_cons_of_neg (by simp[h]),List.length_cons,List.length_cons];omega
  | false=>rw[List.filter_cons_of_neg (by simp[h]),List.filter_cons_of_pos (by simp[h]),List.length_cons,List.length_cons];omega
theorem rk_cnt{ps:List Int}{es:List (Int×Int)}{φ:Int->Int}(h:Lab ps es φ)(hn:ps.Nodup):rk φ ps+cnt φ ps=ps.length:=by
 have e:cnt φ ps=(ps.filter fun x=>decide (φ x=x)).length:=by
  unfold cnt
  refine Nat.le_antisymm (nodup_len (nodup_newK _ [] List.nodup_nil) fun v hv=>?_) (nodup_len (hn.filter _) fun v hv=>?_)
  ·obtain⟨x,hx,rfl⟩:=mem_cnt.mp hv
   exact List.mem_filter.mpr ⟨h.inn x hx,decide_eq_true (h.fix hx)⟩
  ·obtain⟨a,b⟩:=List.mem_filter.mp hv
   exact mem_cnt.mpr ⟨v,a,of_decide_eq_true b⟩
 rw[e]
 have:=fil_len (fun x=>decide (φ x=x)) ps
 unfold rk
 omega
theorem cnt_id{ps:List Int}(hn:ps.Nodup):cnt id ps=ps.length:=by
 have h:=rk_cnt (Lab.start ps) hn
 have:rk id ps=0:=by
  unfold rk
  rw[List.filter_eq_nil_iff.mpr fun x _=>by simp];rfl
 omega
theorem rk_of{ps:List Int}{es:List (Int×Int)}{φ ψ:Int->Int}{n:Nat}(h1:Lab ps es φ)(h2:Lab ps es ψ)(hn:ps.Nodup)(e:n+cnt ψ ps=ps.length):n=rk φ ps:=by
 have c:cnt φ ps=cnt ψ ps:=cnt_eq fun x hx y hy=>by rw[h1.iff hx hy,h2.iff hx hy]
 have:=rk_cnt h1 hn
 omega
theorem Lab.same_step{ps:List Int}{es:List (Int×Int)}{f:Int->Int}(h:Lab ps es f){a b:Int}(ha:a∈ps)(hb:b∈ps)(e:f a=f b):Lab ps (es++[(a,b)]) f:=by
 have:=h.step ha hb (f a) (f b) (.inl ⟨rfl,rfl⟩)
 have ef:(fun x=>if f x=f b then f a else f x)=f:=funext fun x=>by
  split
  ·rename_i c;rw[c,e]
  ·rfl
 rwa [ef] at this
theorem get_dc{xs:List Int}{g:Int->Val}{x:Int}:getH [] (dcI xs g) (.inl x)=some (if x∈xs then some (g x) else none):=by
 unfold getH dcI
 dsimp only
 rw[zip_dc]
 congr 1
 unfold valK
 induction xs with
 | nil=>simp
 | cons y r ih =>
  rw[List.map_cons,List.find?_cons]
  by_cases e:y=x
  ·subst e;simp
  ·have:((Sum.inl y:Key)=Sum.inl x)=False:=by simp[e]
   have e':¬ x=y:=fun h=>e h.symm
   simp only[this,decide_false]
   rw[ih]
   simp[e']
theorem put_psi{ks:List Int}{ψ:Int->Int}{a:Int}:putD (ks.map Sum.inl) (ks.map fun x=>Val.int (ψ x)) (.inl a) (.int (ψ a))=dcI (addK ks a) fun x=>.int (ψ x):=by
 have eu:∀y,updI (fun x=>Val.int (ψ x)) a (.int (ψ a)) y=.int (ψ y):=fun y=>by
  unfold updI
  split
  ·rename_i e;rw[e]
  ·rfl
 unfold addK
 by_cases h:a∈ks
 ·rw[put_old h,if_pos h];exact dcI_congr fun y _=>eu y
 ·rw[put_new h,if_neg h];exact dcI_congr fun y _=>eu y
theorem mem_addK{ks:List Int}{a x:Int}:x∈addK ks a↔x∈ks\/x=a:=by
 unfold addK
 split
 ·rename_i h
  exact⟨.inl,fun k=>k.elim id fun e=>e▸h⟩
 ·simp
theorem nd_addK{ks:List Int}{a:Int}(h:ks.Nodup):(addK ks a).Nodup:=by
 unfold addK
 split
 ·exact h
 ·rename_i n
  rw[List.nodup_append]
  exact⟨h,by simp,fun x hx y hy e=>n (by rw[List.mem_singleton] at hy;rw[<-hy,<-e];exact hx)⟩
theorem len_addK(ks:List Int)(a:Int):(addK ks a).length<=ks.length+1:=by
 unfold addK
 split
 ·omega
 ·simp
theorem intK_map:∀ks:List Int,intK? (ks.map Sum.inl)=some ks
 | []=>rfl
 | x::r=>by
  have ih:=intK_map r
  unfold intK? at ih |-
  rw[List.map_cons,mapO,ih];rfl
theorem skeys_dc{ks:List Int}{g:Int->Val}(h:ks.length<64):skeysH [] (dcI ks g)=some (PySem.W.sortI ks):=by
 unfold skeysH
 show (intK? (ks.map Sum.inl)).bind _=_
 rw[intK_map]
 show (if ks.length<64 then some (PySem.W.sortI ks) else none)=_
 rw[if_pos h]
structure Mks (ps ks:List Int) (es:List (Int×Int)) (ψ:Int->Int) (n:Nat):Prop where
 lab:Lab ps es ψ
 nd:ks.Nodup
 off:∀x,x∉ks -> ψ x=x
 inn:∀x∈ks,ψ x∈ks
 num:n+cnt ψ ps=ps.length
 len:ks.length<=2*es.length
theorem Mks.start{ps:List Int}(hn:ps.Nodup):Mks ps [] [] id 0:=⟨Lab.start ps,List.nodup_nil,fun _ _=>rfl,fun x h=>by simp at h,by rw[cnt_id hn];omega,Nat.le_refl _⟩
theorem Mks.stay{ps ks:List Int}{es:List (Int×Int)}{ψ:Int->Int}{n:Nat}(m:Mks ps ks es ψ n){a b:Int}(ha:a∈ps)(hb:b∈ps)(e:ψ a = ψ b):Mks ps ks (es++[(a,b)]) ψ n :=
 ⟨m.lab.same_step ha hb e,m.nd,m.off,m.inn,m.num,by have:=m.len;simp;omega⟩
theorem Mks.join{ps ks:List Int}{es:List (Int×Int)}{ψ:Int->Int}{n:Nat}(m:Mks ps ks es ψ n){a b:Int}(ha:a∈ps)(hb:b∈ps)(ne:ψ a ≠ ψ b):Mks ps (addK (addK ks a) b) (es++[(a,b)]) (fun x=>if ψ x = ψ b then ψ a else ψ x) (n+1):=by
 have key:∀x,x∈ks\/x=a\/x=b -> ψ x∈addK (addK ks a) b:=fun x hx=>by
  rw[mem_addK,mem_addK]
  by_cases h:x∈ks
  ·exact .inl (.inl (m.inn x h))
  ·rw[m.off x h]
   rcases hx with hx|hx|hx
   ·exact absurd hx h
   ·exact .inl (.inr hx)
   ·exact .inr hx
 refine⟨m.lab.step ha hb (ψ a) (ψ b) (.inl ⟨rfl,rfl⟩),nd_addK (nd_addK m.nd),fun x hx=>?_,fun x hx=>?_,?_,?_⟩
 ·have hx':x∉ks:=fun h=>hx (mem_addK.mpr (.inl (mem_addK.mpr (.inl h))))
  rw[m.off x hx']
  rw[if_neg]
  intro e
  exact hx (by rw[e];exact key b (.inr (.inr rfl)))
 ·split
  ·exact key a (.inr (.inl rfl))
  ·refine key x ?_
   rcases mem_addK.mp hx with h|h
   ·rcases mem_addK.mp h with h|h
    ·exact .inl h
    ·exact .inr (.inl h)
   ·exact .inr (.inr h)
 ·have:=cnt_join ha hb ne
  have:=m.num
  omega
 ·have h1:=len_addK (addK ks a) b
  have h2:=len_addK ks a
  have:=m.len
  simp;omega
end Hv
end
section
namespace Hv
open PySem L2
open Classical in
noncomputable def tr(ps:List Int)(es:List (Int×Int)):Nat:=if h:∃φ,Lab ps es φ then rk (Classical.choose h) ps else 0
end Hv
end
section
namespace Hv
open PySem L2
noncomputable def flatV(venv:VEnv):VEnv:=venv.map fun o=>match o with
 | some (.nw,_)=>none
 | some (_,d)=>some (.sh,d)
 | none=>none
noncomputable def hideV(venv:VEnv):VEnv:=venv.map fun o=>match o with
 | some (.sh,d)=>some (.sh,d)
 | _=>none
noncomputable def evN(Ψ:Nat->List Val->Pr FV)(e:IE)(env:VEnv):Pr FV:=match evV Ψ e (hideV env) with
 | .ok x=>.ok x
 | _=>pb (evV Ψ e (flatV env)) fun x=>pg x.1 (.ok x)
noncomputable def spoF(_:IE)(_:Pat)(_:Ik)(_:ISs):Option (Nat×Nat):=none
noncomputable def lisV?:List Val->Option (List (List Int)):=mapO fun v=>match v with
 | .rl es=>ints? es
 | _=>none
noncomputable def spoV(env:VEnv)(iq:Nat×Nat):Pr VFl:=match env[iq.1]? with
 | some (some (.ow,.rl ds))=>pb (pl (lisV? ds)) fun ls=>pg ((ls.all fun l=>decide (l.length+ls.length<sizeLine))&&decide (iq.2<env.length)) (.ok (.nx ((env.set iq.1 none).set iq.2 none)))
 | _=>.no
mutual
noncomputable def evLS(Ψ:Nat->List Val->Pr FV)(sp:List Nat):IS->VEnv->Pr VFl
 | .expr _,_=>.no
 | .asg p e,env=>match p with
  | .one i=>if sp.contains i=true then pb (evV Ψ e (flatV env)) fun x=>pg x.1 (.ok (.nx (env.set i (some (.ow,x.2)))))
    else pb (evN Ψ e env) fun x=>.ok (.nx (env.set i (some (.sh,x.2))))
  | .tup is=>pb (evN Ψ e env) fun x=>pb (pl (bindV (.tup is) x.2 env)) fun env'=>.ok (.nx env')
 | .setI o i v,env=>match o with
  | .idx (.var x) (.cst (.int j))=>match env[x]? with
   | some (some (.ow,.tup [d0,.rl es]))=>pg (decide (j=1)&&imm d0&&imms es) (pb (evV Ψ v (flatV env)) fun w=>pg (imm w.2) (pb (evV Ψ i (flatV env)) fun z=>pb (pl (part? z.2)) fun k=>pb (pl (ixN es.length k)) fun n=>.ok (.nx (env.set x (some (.ow,.tup [d0,.rl (es.set n w.2)]))))))
   | _=>.no
  | _=>.no
 | .iff c a b,env=>pb (evV Ψ c (flatV env)) fun x=>pb (pl (truH [] x.2)) fun t=>if t=true then evLSs Ψ sp a env else evLSs Ψ sp b env
 | .for p k it body,env=>match it with
  | .cons e .nil=>match spoF e p k body with
   | some iq=>spoV env iq
   | none=>pb (evN Ψ e env) fun x=>pb (pl (srcV k [x.2])) fun xs=>forV (fun x env=>pb (pl (bindV p x env)) fun env'=>evLSs Ψ sp body env') xs env
  | _=>.no
 | .ret e,env=>pb (evV Ψ e (flatV env)) fun p=>.ok (.rt p)
 | .brk,env=>.ok (.bk env)
 | .cnt,env=>.ok (.ct env)
 | .pass,env=>.ok (.nx env)
 | _,_=>.no
noncomputable def evLSs(Ψ:Nat->List Val->Pr FV)(sp:List Nat):ISs->VEnv->Pr VFl
 | .nil,env=>.ok (.nx env)
 | .cons s r,env=>pb (evLS Ψ sp s env) fun f=>match f with
  | .nx env'=>evLSs Ψ sp r env'
  | f=>.ok f
end
mutual
noncomputable def spoS:IS->List Nat
 | .expr (.met .append (.var i) _)=>[i]
 | .expr (.met .append (.idx (.var i) _) _)=>[i]
 | .setI (.idx (.var i) _) _ _=>[i]
 | .iff _ a b=>spoSs a++spoSs b
 | .for p k it b=>match it with
  | .cons e .nil=>match spoF e p k b with
   | some iq=>[iq.1]
   | none=>spoSs b
  | _=>spoSs b
 | _=>[]
noncomputable def spoSs:ISs->List Nat
 | .nil=>[]
 | .cons s r=>spoS s++spoSs r
end
noncomputable def evLF(Ψ:Nat->List Val->Pr FV)(n:Nat)(body:ISs)(ds:List Val):Pr FV :=
 pb (evLSs Ψ (spoSs body) body (ds.map (fun d=>some (.sh,d))++List.replicate (n-ds.length) none)) fun f=>match f with
  | .nx _=>.ok (true,.non)
  | .rt p=>.ok p
  | _=>.no
noncomputable abbrev UR:=Nat->Nat->Prop
noncomputable def AU(U:UR):AP:=fun o=>match o with
 | none=>True
 | some k=>∀i,¬ U i k
noncomputable def RU(U:UR)(i:Nat):AP:=fun o=>match o with
 | none=>False
 | some k=>U i k
structure SL (venv:VEnv) (env:Env) (h:Hs) (U:UR):Prop where
 len:venv.length=env.length
 sh:∀(i:Nat) (d:Val),venv[i]?=some (some (.sh,d))->∃v,env[i]?=some (some v)/\Dn (AU U) h d v
 un:∀(i:Nat) (d:Val),venv[i]?=some (some (.ow,d))->∃v,env[i]?=some (some v)/\Dn (RU U i) h d v
 ub:∀i k,U i k->k<h.length
 dis:∀i j k,U i k->U j k->i=j
structure KU (h:Hs) (U:UR) (h':Hs) (U':UR):Prop where
 le:h.length<=h'.length
 keep:∀k,k<h.length->(∀i,¬ U i k)->h'[k]?=h[k]?/\∀i,¬ U' i k
noncomputable def clr(U:UR)(i:Nat):UR:=fun j k=>j≠i/\U j k
noncomputable def reg(U:UR)(i n m:Nat):UR:=fun j k=>if j=i then n<=k/\k<m else U j k
noncomputable def LRel{α β:Type}(R:α -> Hs -> β -> Prop)(o:Out β):Pr α -> Prop
 | .ok a=>∃b h',o=.ok b h'/\R a h' b
 | _=>True
noncomputable def RL(h:Hs)(U:UR):VFl->Hs->Fl->Prop
 | .nx venv',h',.nx env'=>∃U',SL venv' env' h' U'/\KU h U h' U'
 | .bk venv',h',.bk env'=>∃U',SL venv' env' h' U'/\KU h U h' U'
 | .ct venv',h',.ct env'=>∃U',SL venv' env' h' U'/\KU h U h' U'
 | .rt p,h',.rt v=>Dn (fun _=>True) h' p.2 v
 | _,_,_=>False
section
variable {α β γ δ:Type} {h h1 h2:Hs} {U U1 U2:UR} {venv:VEnv} {env:Env}
theorem lrel_bnd{R:α -> Hs -> β -> Prop}{R':γ -> Hs -> δ -> Prop}{m:M β}{f:β -> M δ}{p:Pr α}{F:α -> Pr γ}(r:LRel R (m h) p)(k:∀a h1 b,R a h1 b->LRel R' (f b h1) (F a)):LRel R' (bnd m f h) (pb p F):=by
 unfold bnd
 cases p with
 | ok a=>obtain⟨b,h1,e,q⟩:=r;rw[e];exact k a h1 b q
 | exc c es=>trivial
 | no=>trivial
theorem lrel_of{A:AP}{R:α -> Hs -> β -> Prop}{o:Out β}{p:Pr α}(r:Rel A h R o p):LRel (fun a h' b=>h<+:h'/\R a h' b) o p:=by
 cases p with
 | ok a=>exact r
 | exc c es=>trivial
 | no=>trivial
theorem lrel_ret{R:α -> Hs -> β -> Prop}{a:α}{b:β}(r:R a h b):LRel R (ret b h) (.ok a):=⟨b,h,rfl,r⟩
theorem lrel_lft{R:α -> Hs -> β -> Prop}{o:Option α}{o':Option β}(r:∀a,o=some a->∃b,o'=some b/\R a h b):LRel R (lft o' h) (pl o):=by
 cases o with
 | none=>trivial
 | some a=>obtain⟨b,rfl,q⟩:=r a rfl;exact⟨b,h,rfl,q⟩
theorem lrel_pg{R:α -> Hs -> β -> Prop}{c:Bool}{o:Out β}{p:Pr α}(r:c=true->LRel R o p):LRel R o (pg c p):=by
 unfold pg
 cases c with
 | true=>rw[if_pos rfl];exact r rfl
 | false=>rw[if_neg Bool.false_ne_true];trivial
theorem lrel_mono{R R':α -> Hs -> β -> Prop}{o:Out β}{p:Pr α}(r:LRel R o p)(k:∀a h' b,R a h' b->R' a h' b):LRel R' o p:=by
 cases p with
 | ok a=>obtain⟨b,h',e,r⟩:=r;exact⟨b,h',e,k a h' b r⟩
 | exc c es=>trivial
 | no=>trivial
theorem KU.refl(s:SL venv env h U)(p:h<+:h1):KU h U h1 U:=⟨p.length_le,fun k hk n=>⟨pre_get' p hk,n⟩⟩
theorem KU.trans(a:KU h U h1 U1)(b:KU h1 U1 h2 U2):KU h U h2 U2 where
 le:=Nat.le_trans a.le b.le
 keep k hk n:=by
  obtain⟨a1,a2⟩:=a.keep k hk n
  obtain⟨b1,b2⟩:=b.keep k (Nat.lt_of_lt_of_le hk a.le) a2
  exact⟨b1.trans a1,b2⟩
theorem RL.seq{f:VFl}{h':Hs}{g:Fl}(a:KU h U h1 U1)(r:RL h1 U1 f h' g):RL h U f h' g:=by
 cases f<;>cases g<;>first|exact r.elim|exact r|(obtain⟨O',b,c⟩:=r;exact⟨O',b,a.trans c⟩)
theorem SL.ext(s:SL venv env h U)(p:h<+:h1):SL venv env h1 U where
 len:=s.len
 sh i d e:=by obtain⟨v,k1,k2⟩:=s.sh i d e;exact⟨v,k1,k2.ext p⟩
 un i d e:=by obtain⟨v,k1,k2⟩:=s.un i d e;exact⟨v,k1,k2.ext p⟩
 ub i k e:=Nat.lt_of_lt_of_le (s.ub i k e) p.length_le
 dis:=s.dis
theorem SL.flat(s:SL venv env h U):ER (fun _=>True) (flatV venv) env h:=fun i f d q=>by
 unfold flatV at q
 rw[List.getElem?_map] at q
 cases e:venv[i]? with
 | none=>rw[e] at q;cases q
 | some o =>
  rw[e] at q
  cases o with
  | none=>cases q
  | some fd =>
   obtain⟨g,d'⟩:=fd
   cases g with
   | nw=>cases q
   | ow=>cases q;rw[if_neg (by decide)];obtain⟨v,k1,k2⟩:=s.un i _ e;exact⟨v,k1,k2.wid fun _ _=>trivial⟩
   | sh=>cases q;rw[if_neg (by decide)];obtain⟨v,k1,k2⟩:=s.sh i _ e;exact⟨v,k1,k2.wid fun _ _=>trivial⟩
theorem SL.hide(s:SL venv env h U):ER (AU U) (hideV venv) env h:=fun i f d q=>by
 unfold hideV at q
 rw[List.getElem?_map] at q
 cases e:venv[i]? with
 | none=>rw[e] at q;cases q
 | some o =>
  rw[e] at q
  cases o with
  | none=>cases q
  | some fd =>
   obtain⟨g,d'⟩:=fd
   cases g with
   | ow=>cases q
   | nw=>cases q
   | sh =>
    cases q
    rw[if_neg (by decide)]
    exact s.sh i _ e
theorem SL.up(s:SL venv env h U):Up (AU U) h:=fun k hk i z=>by have:=s.ub i k z;omega
theorem au_clr{i:Nat}:∀o,AU U o->AU (clr U i) o
 | none,_=>trivial
 | some k,n=>fun j z=>n j z.2
theorem ru_clr{i j:Nat}(hj:j≠i):∀o,RU U j o->RU (clr U i) j o
 | none,e=>e
 | some k,e=>⟨hj,e⟩
theorem SL.set(s:SL venv env h U){i:Nat}{d v:Val}(q:Dn (AU U) h d v):SL (venv.set i (some (.sh,d))) (env.set i (some v)) h (clr U i)/\KU h U h (clr U i):=by
 refine⟨⟨by simp[s.len],fun j d' e=>?_,fun j d' e=>?_,fun j k e=>s.ub j k e.2,fun j l k e1 e2=>s.dis j l k e1.2 e2.2⟩,Nat.le_refl _,fun k hk n=>⟨rfl,fun j z=>n j z.2⟩⟩
 ·by_cases hij:i=j
  ·subst hij
   have hi:i<venv.length:=by have:=(List.getElem?_eq_some_iff.mp e).1;simpa using this
   rw[List.getElem?_set_self hi] at e
   cases e
   exact⟨v,by rw[List.getElem?_set_self (by rw[<-s.len];exact hi)],q.wid au_clr⟩
  ·rw[List.getElem?_set_ne hij] at e
   rw[List.getElem?_set_ne hij]
   obtain⟨w,k1,k2⟩:=s.sh j d' e
   exact⟨w,k1,k2.wid au_clr⟩
 ·by_cases hij:i=j
  ·subst hij
   have hi:i<venv.length:=by have:=(List.getElem?_eq_some_iff.mp e).1;simpa using this
   rw[List.getElem?_set_self hi] at e
   cases e
  ·rw[List.getElem?_set_ne hij] at e
   rw[List.getElem?_set_ne hij]
   obtain⟨w,k1,k2⟩:=s.un j d' e
   exact⟨w,k1,k2.wid (ru_clr fun z=>hij z.symm)⟩
theorem SL.setU(s:SL venv env h U)(p:h<+:h1){i:Nat}{d v:Val}(q:Dn (Fr h.length) h1 d v):SL (venv.set i (some (.ow,d))) (env.set i (some v)) h1 (reg U i h.length h1.length)/\KU h U h1 (reg U i h.length h1.length):=by
 have no:∀k j,k<h.length->¬ U j k->¬ reg U i h.length h1.length j k:=fun k j hk n z=>by
  unfold reg at z
  split at z
  ·omega
  ·exact n z
 have mvA:∀(k:Nat) (o:Ob),AU U (some k)->h[k]?=some o->AU (reg U i h.length h1.length) (some k)/\h1[k]?=some o:=fun k o a g=>⟨fun j=>no k j (List.getElem?_eq_some_iff.mp g).1 (a j),pre_ob p g⟩
 refine⟨⟨by simp[s.len],fun j d' e=>?_,fun j d' e=>?_,fun j k e=>?_,fun j l k e1 e2=>?_⟩,p.length_le,fun k hk n=>⟨pre_get' p hk,fun j=>no k j hk (n j)⟩⟩
 ·by_cases hij:i=j
  ·subst hij
   have hi:i<venv.length:=by have:=(List.getElem?_eq_some_iff.mp e).1;simpa using this
   rw[List.getElem?_set_self hi] at e
   cases e
  ·rw[List.getElem?_set_ne hij] at e
   rw[List.getElem?_set_ne hij]
   obtain⟨w,k1,k2⟩:=s.sh j d' e
   exact⟨w,k1,Dn.move (fun _=>trivial) mvA _ _ k2⟩
 ·by_cases hij:i=j
  ·subst hij
   have hi:i<venv.length:=by have:=(List.getElem?_eq_some_iff.mp e).1;simpa using this
   rw[List.getElem?_set_self hi] at e
   cases e
   refine⟨v,by rw[List.getElem?_set_self (by rw[<-s.len];exact hi)],Dn.move (A:=Fr h.length) (fun z=>False.elim z) (fun k o a g=>⟨?_,g⟩) _ _ q⟩
   show reg U i h.length h1.length i k
   unfold reg;rw[if_pos rfl]
   exact⟨a,(List.getElem?_eq_some_iff.mp g).1⟩
  ·rw[List.getElem?_set_ne hij] at e
   rw[List.getElem?_set_ne hij]
   obtain⟨w,k1,k2⟩:=s.un j d' e
   refine⟨w,k1,Dn.move (A:=RU U j) (fun z=>False.elim z) (fun k o a g=>⟨?_,pre_ob p g⟩) _ _ k2⟩
   show reg U i h.length h1.length j k
   unfold reg;rw[if_neg fun z=>hij z.symm];exact a
 ·unfold reg at e
  split at e
  ·exact e.2
  ·exact Nat.lt_of_lt_of_le (s.ub j k e) p.length_le
 ·unfold reg at e1 e2
  split at e1<;>split at e2
  ·rename_i a b;rw[a,b]
  ·have:=s.ub l k e2;omega
  ·have:=s.ub j k e1;omega
  ·exact s.dis j l k e1 e2
theorem SL.binds:∀{is:List Nat} {ds vs:List Val} {venv:VEnv} {env:Env} {U:UR} {venv':VEnv},SL venv env h U->bindAllV is ds venv=some venv'->Dns (AU U) h ds vs ->
  ∃env' U',bindAll is vs env=some env'/\SL venv' env' h U'/\KU h U h U'
 | [],[],vs,venv,env,U,venv',s,e,q=>by
  rw[Dns] at q;subst q
  simp only[bindAllV] at e;cases e
  exact⟨env,U,rfl,s,KU.refl s (List.prefix_refl _)⟩
 | i::is,d::ds,vs,venv,env,U,venv',s,e,q=>by
  rw[Dns] at q
  obtain⟨v,r,rfl,q1,q2⟩:=q
  simp only[bindAllV] at e
  obtain⟨s1,f1⟩:=s.set (i:=i) q1
  obtain⟨env',U',b1,b2,b3⟩:=SL.binds s1 e (q2.wid au_clr)
  exact⟨env',U',by simp only[bindAll];exact b1,b2,f1.trans b3⟩
 | [],_::_,_,_,_,_,_,_,e,_=>by simp[bindAllV] at e
 | _::_,[],_,_,_,_,_,_,e,_=>by simp[bindAllV] at e
theorem SL.bind(s:SL venv env h U){p:Pat}{d v:Val}{venv':VEnv}(e:bindV p d venv=some venv')(q:Dn (AU U) h d v):∃env' U',bindE p v env=some env'/\SL venv' env' h U'/\KU h U h U':=by
 cases p with
 | one i =>
  simp only[bindV] at e;cases e
  obtain⟨s1,f1⟩:=s.set (i:=i) q
  exact⟨_,_,rfl,s1,f1⟩
 | tup is =>
  cases d<;>simp only[bindV] at e<;>first|(cases e;done)|skip
  rw[Dn] at q
  obtain⟨vs,rfl,q⟩:=q
  exact s.binds e q
theorem SL.regrow(s:SL venv env h U){i b:Nat}{d dn w:Val}{o:Ob}(e:venv[i]?=some (some (.ow,d)))(ee:env[i]?=some (some w))(hb:U i b)(nw:Dn (RU U i) (h.set b o) dn w) :
  SL (venv.set i (some (.ow,dn))) env (h.set b o) U/\KU h U (h.set b o) U:=by
 have hlt:i<venv.length:=(List.getElem?_eq_some_iff.mp e).1
 refine⟨⟨by simp[s.len],fun j d' ej=>?_,fun j d' ej=>?_,fun j k ek=>by rw[List.length_set];exact s.ub j k ek,s.dis⟩,by simp,fun k hk n=>⟨?_,n⟩⟩
 ·by_cases hij:i=j
  ·subst hij;rw[List.getElem?_set_self hlt] at ej;cases ej
  ·rw[List.getElem?_set_ne hij] at ej
   obtain⟨w,k1,k2⟩:=s.sh j d' ej
   refine⟨w,k1,Dn.move (fun _=>trivial) (fun k o' a g=>⟨a,?_⟩) _ _ k2⟩
   rw[List.getElem?_set_ne fun z=>a i (by rw[<-z];exact hb)];exact g
 ·by_cases hij:i=j
  ·subst hij;rw[List.getElem?_set_self hlt] at ej;cases ej
   exact⟨w,ee,nw⟩
  ·rw[List.getElem?_set_ne hij] at ej
   obtain⟨w,k1,k2⟩:=s.un j d' ej
   refine⟨w,k1,Dn.move (A:=RU U j) (fun z=>False.elim z) (fun k o' a g=>⟨a,?_⟩) _ _ k2⟩
   rw[List.getElem?_set_ne fun z=>hij (s.dis i j k (by rw[<-z];exact hb) a)];exact g
 ·rw[List.getElem?_set_ne fun z=>n i (by rw[<-z];exact hb)]
end
end Hv
end
section
namespace Hv
open PySem L2
section
variable {Φ:Nat->List Val->M Val} {Ψ:Nat->List Val->Pr FV} {sp:List Nat} {venv:VEnv} {env:Env} {h:Hs} {U:UR}
theorem evN_rel{e:IE}(V:VOk Φ Ψ e)(s:SL venv env h U):LRel (fun x h' v=>h<+:h'/\Dn (AU U) h' x.2 v) (evE Φ e env h) (evN Ψ e venv):=by
 have r1:=V (hideV venv) env (AU U) h s.up s.hide
 have r2:=V (flatV venv) env (fun _=>True) h (fun _ _=>trivial) s.flat
 have go:LRel (fun x h' v=>h<+:h'/\Dn (AU U) h' x.2 v) (evE Φ e env h) (pb (evV Ψ e (flatV venv)) fun x=>pg x.1 (.ok x)):=by
  cases e2:evV Ψ e (flatV venv) with
  | ok x =>
   rw[e2] at r2
   obtain⟨v,h',ev,p,q⟩:=r2
   show LRel _ _ (pg x.1 (.ok x))
   refine lrel_pg fun hx=>⟨v,h',ev,p,(q.2 hx).wid fun o z=>?_⟩
   cases o with
   | none=>exact False.elim z
   | some k=>exact s.up k z
  | exc c es=>trivial
  | no=>trivial
 unfold evN
 cases e1:evV Ψ e (hideV venv) with
 | ok x =>
  rw[e1] at r1
  obtain⟨v,h',ev,p,q⟩:=r1
  exact⟨v,h',ev,p,q.1⟩
 | exc c es=>exact go
 | no=>exact go
theorem flat_rel{e:IE}(V:VOk Φ Ψ e)(s:SL venv env h U):LRel (fun x h' v=>h<+:h'/\RV (fun _=>True) h x h' v) (evE Φ e env h) (evV Ψ e (flatV venv)):=lrel_of (V (flatV venv) env (fun _=>True) h (fun _ _=>trivial) s.flat)
noncomputable def LOk(Φ:Nat->List Val->M Val)(Ψ:Nat->List Val->Pr FV)(sp:List Nat)(s:IS):Prop:=∀(venv:VEnv) (env:Env) (h:Hs) (U:UR),SL venv env h U->LRel (RL h U) (evS Φ s env h) (evLS Ψ sp s venv)
noncomputable def LOks(Φ:Nat->List Val->M Val)(Ψ:Nat->List Val->Pr FV)(sp:List Nat)(s:ISs):Prop:=∀(venv:VEnv) (env:Env) (h:Hs) (U:UR),SL venv env h U->LRel (RL h U) (evSs Φ s env h) (evLSs Ψ sp s venv)
theorem imms_set:∀{ds:List Val} {n:Nat} {d:Val},imms ds=true->imm d=true->imms (ds.set n d)=true
 | [],_,_,_,_=>rfl
 | a::r,0,d,h,k=>by
  rw[imms,Bool.and_eq_true] at h
  rw[List.set_cons_zero,imms,Bool.and_eq_true];exact⟨k,h.2⟩
 | a::r,n+1,d,h,k=>by
  rw[imms,Bool.and_eq_true] at h
  rw[List.set_cons_succ,imms,Bool.and_eq_true];exact⟨h.1,imms_set h.2 k⟩
theorem l_setI{x:Nat}{j:Int}{i v:IE}(hi:VOk Φ Ψ i)(hv:VOk Φ Ψ v):LOk Φ Ψ sp (.setI (.idx (.var x) (.cst (.int j))) i v):=fun venv env h U s=>by
 rw[evS,evLS];try dsimp only
 split
 ·rename_i d0 es hx
  refine lrel_pg fun hg=>?_
  simp only[Bool.and_eq_true,decide_eq_true_eq] at hg
  obtain⟨⟨rfl,g1⟩,g2⟩:=hg
  obtain⟨w,e2,q⟩:=s.un x _ hx
  rw[Dn] at q
  obtain⟨ws,rfl,q⟩:=q
  rw[Dns] at q
  obtain⟨u0,r0,rfl,q0,q⟩:=q
  rw[Dns] at q
  obtain⟨u1,r1,rfl,q1,q⟩:=q
  rw[Dns] at q
  subst q
  rw[Dn] at q1
  rcases q1 with ⟨_,_,n,_⟩|⟨b,vs,rfl,hb,e4,e5⟩
  ·exact False.elim n
  have e5:vs=es:=(imms_eq _ _ g2).mp e5
  subst e5
  refine lrel_bnd (flat_rel hv s) fun w h1 v' ⟨p1,q1⟩=>lrel_pg fun hw=>?_
  have ew:v'=w.2:=(imm_eq _ _ hw).mp q1.1
  subst ew
  have er:evE Φ (.idx (.var x) (.cst (.int 1))) env h1=.ok (.ref b) h1:=by
   rw[evE,bnd_ok (ev_var e2),evE]
   rfl
  rw[bnd_ok er]
  refine lrel_bnd (flat_rel hi (s.ext p1)) fun z h2 z' zz0=>?_
  obtain⟨p2,q2⟩:=zz0
  cases ek:part? z.2 with
  | none=>trivial
  | some k =>
   obtain⟨f,zz⟩:=z
   cases zz<;>first|(cases ek;done)|skip
   cases ek
   have ez:z'=.int k:=(imm_eq _ _ rfl).mp q2.1
   subst ez
   show LRel (RL h U) _ (pb (pl (ixN vs.length k)) fun n=>Pr.ok (VFl.nx (List.set venv x (some (Mk.ow,Val.tup [d0,Val.rl (vs.set n w.snd)])))))
   cases en:ixN vs.length k with
   | none=>trivial
   | some n =>
    have g4:=pre_ob (p1.trans p2) e4
    have hl:b<h2.length:=(List.getElem?_eq_some_iff.mp g4).1
    obtain⟨s2,f2⟩:=((s.ext p1).ext p2).regrow (o:=.lst (vs.set n w.2)) (dn:=.tup [d0,.rl (vs.set n w.2)]) hx e2 hb (by
     rw[Dn]
     refine⟨_,rfl,Dns.cons ((imm_eq _ _ g1).mpr ((imm_eq _ _ g1).mp q0)) (Dns.cons ?_ Dns.nil)⟩
     rw[Dn]
     refine .inr ⟨b,vs.set n w.2,rfl,hb,by rw[List.getElem?_set_self hl],(imms_eq _ _ ?_).mpr rfl⟩
     exact imms_set g2 hw)
    refine⟨.nx env,_,?_,U,s2,(KU.refl s (p1.trans p2)).trans f2⟩
    show bnd (setIM (.ref b) (.int k) w.2) (fun _=>ret (Fl.nx env)) h2=_
    unfold setIM bnd ask lft put ret
    dsimp only
    rw[g4]
    dsimp only
    rw[en]
 ·trivial
theorem l_asg{p:Pat}{e:IE}(V:VOk Φ Ψ e):LOk Φ Ψ sp (.asg p e):=fun venv env h U s=>by
 cases p with
 | one i =>
  rw[evS,evLS];try dsimp only
  split
  ·refine lrel_bnd (flat_rel V s) fun x h1 v ⟨p1,q1⟩=>lrel_pg fun hx=>?_
   obtain⟨s2,f2⟩:=s.setU p1 (i:=i) (q1.2 hx)
   exact⟨_,_,rfl,_,s2,f2⟩
  ·refine lrel_bnd (evN_rel V s) fun x h1 v zz0=>?_
   obtain⟨p1,q1⟩:=zz0
   obtain⟨s2,f2⟩:=(s.ext p1).set (i:=i) q1
   exact⟨_,_,rfl,_,s2,(KU.refl s p1).trans f2⟩
 | tup is =>
  rw[evS,evLS];try dsimp only
  refine lrel_bnd (evN_rel V s) fun x h1 v zz0=>?_
  obtain⟨p1,q1⟩:=zz0
  have s1:=s.ext p1
  refine lrel_bnd (R:=fun venv' h' env'=>∃U',SL venv' env' h' U'/\KU h1 U h' U') (lrel_lft fun venv' ev=>?_) fun venv' h2 env' hh=>?_
  ·obtain⟨env',U',b1,b2,b3⟩:=s1.bind ev q1
   exact⟨env',b1,U',b2,b3⟩
  ·obtain⟨U',b2,b3⟩:=hh
   exact lrel_ret ⟨U',b2,(KU.refl s p1).trans b3⟩
theorem l_iff{c:IE}{a b:ISs}(V:VOk Φ Ψ c)(ha:LOks Φ Ψ sp a)(hb:LOks Φ Ψ sp b):LOk Φ Ψ sp (.iff c a b):=fun venv env h U s=>by
 rw[evS,evLS]
 refine lrel_bnd (flat_rel V s) fun x h1 v zz0=>?_
 obtain⟨p1,q1⟩:=zz0
 refine lrel_bnd (R:=fun t h' t'=>h'=h1/\t'=t) (lrel_lft fun t ht=>⟨t,tru_dn (.inl q1.1) ht,rfl,rfl⟩) fun t h2 t' zz0=>?_
 obtain⟨e1,e2⟩:=zz0
 subst e1;subst e2
 have s1:=s.ext p1
 cases t' with
 | true=>rw[if_pos rfl,if_pos rfl];exact lrel_mono (ha venv env _ U s1) fun f h' g r=>r.seq (KU.refl s p1)
 | false=>rw[if_neg Bool.false_ne_true,if_neg Bool.false_ne_true];exact lrel_mono (hb venv env _ U s1) fun f h' g r=>r.seq (KU.refl s p1)
theorem l_ret{e:IE}(V:VOk Φ Ψ e):LOk Φ Ψ sp (.ret e):=fun venv env h U s=>by
 rw[evS,evLS]
 exact lrel_bnd (flat_rel V s) fun x h1 v ⟨p1,q1⟩=>lrel_ret q1.1
noncomputable def StL(h:Hs)(U:UR)(src:Src)(ws:List Val):Prop:=∀h':Hs,(∀k,k<h.length->(∀i,¬ U i k)->h'[k]?=h[k]?)->src.items h'=some ws
theorem src_L{k:Ik}{d v:Val}{xs:List Val}(q:Dn (AU U) h d v)(e:srcV k [d]=some xs):∃src ws,srcOf k [v]=some src/\Dns (AU U) h xs ws/\src.items h=some ws/\StL h U src ws:=by
 have lst:∀es,d=.rl es->(∃ws,v=.rl ws/\Dns (AU U) h es ws)\/∃a ws,v=.ref a/\h[a]?=some (.lst ws)/\Dns (AU U) h es ws/\∀h':Hs,(∀k,k<h.length->(∀i,¬ U i k)->h'[k]?=h[k]?)->h'[a]?=some (Ob.lst ws):=by
  rintro es rfl
  rw[Dn] at q
  rcases q with ⟨ws,rfl,_,q⟩|⟨a,ws,rfl,al,g,q⟩
  ·exact .inl ⟨ws,rfl,q⟩
  ·exact .inr ⟨a,ws,rfl,g,q,fun h' hk=>(hk a (List.getElem?_eq_some_iff.mp g).1 al).trans g⟩
 cases k with
 | seq =>
  cases d<;>simp only[srcV] at e<;>first|(cases e;done)|skip
  ·cases e
   rw[Dn] at q
   obtain⟨ws,rfl,q⟩:=q
   exact⟨.fix ws,ws,rfl,q,rfl,fun _ _=>rfl⟩
  ·cases e
   rcases lst _ rfl with ⟨ws,rfl,q'⟩|⟨a,ws,rfl,g,q',st⟩
   ·exact⟨.fix ws,ws,rfl,q',rfl,fun _ _=>rfl⟩
   ·exact⟨.live a,ws,rfl,q',live_items g,fun h' hk=>live_items (st h' hk)⟩
 | range =>
  cases d<;>simp only[srcV] at e<;>first|(cases e;done)|skip
  rw[Dn] at q;subst q
  split at e
  ·rename_i hn;cases e
   exact⟨.fix _,_,by simp only[srcOf];rw[if_pos hn],dns_range,rfl,fun _ _=>rfl⟩
  ·cases e
 | enum =>
  cases d<;>simp only[srcV] at e<;>first|(cases e;done)|skip
  cases e
  rcases lst _ rfl with ⟨ws,rfl,q'⟩|⟨a,ws,rfl,g,q',st⟩
  ·exact⟨.fix _,_,rfl,dns_enum 0 q',rfl,fun _ _=>rfl⟩
  ·exact⟨.enum a,_,rfl,dns_enum 0 q',enum_items g,fun h' hk=>enum_items (st h' hk)⟩
 | zip=>cases e
theorem forL_rel{src:Src}{ws:List Val}{body:Val->Env->M Fl}{bodyV:Val->VEnv->Pr VFl}(hb:∀venv env h U x v,SL venv env h U->Dn (AU U) h x v->LRel (RL h U) (body v env h) (bodyV x venv))
  {h1:Hs} {U1:UR} (st:StL h1 U1 src ws) :
  ∀(xs vs:List Val) (i:Nat) (venv:VEnv) (env:Env) (h:Hs) (U:UR),SL venv env h U->KU h1 U1 h U->ws.drop i=vs->Dns (AU U) h xs vs ->
   LRel (RL h1 U1) (forM src body vs.length i env h) (forV bodyV xs venv)
 | [],vs,i,venv,env,h,U,s,f,hd,q=>by
  rw[Dns] at q;subst q
  have hl:ws.length<=i:=List.drop_eq_nil_iff.mp hd
  have hi:=st h (fun k hk n=>(f.keep k hk n).1)
  rw[forV]
  refine⟨.nx env,h,?_,U,s,f⟩
  show forM src body 0 i env h=_
  simp only[forM]
  unfold bnd ask lft guardM;dsimp only;rw[hi];dsimp only;rw[if_pos (decide_eq_true hl)];try rfl
 | x::xs,vs,i,venv,env,h,U,s,f,hd,q=>by
  rw[Dns] at q
  obtain⟨v,r,rfl,q1,q2⟩:=q
  have hv:ws[i]?=some v:=by
   have:=congrArg (fun l=>l[0]?) hd
   simpa using this
  have hr:ws.drop (i+1)=r:=by
   have:ws.drop (i+1)=(ws.drop i).drop 1:=by rw[List.drop_drop]
   rw[this,hd];rfl
  have hi:=st h (fun k hk n=>(f.keep k hk n).1)
  have ev:forM src body (v::r).length i env h=bnd (body v env) (fun f=>match f with
   | .nx env'=>forM src body r.length (i+1) env'
   | .ct env'=>forM src body r.length (i+1) env'
   | .bk env'=>ret (.nx env')
   | .rt v=>ret (.rt v)) h:=by
   show forM src body (r.length+1) i env h=_
   simp only[forM]
   unfold bnd ask lft;dsimp only;rw[hi];dsimp only;rw[hv];try rfl
  rw[ev,forV]
  refine lrel_bnd (hb venv env h U x v s q1) fun fl h2 gl hr2=>?_
  have go:∀venv' env' U',SL venv' env' h2 U'->KU h U h2 U'->LRel (RL h1 U1) (forM src body r.length (i+1) env' h2) (forV bodyV xs venv'):=fun venv' env' U' s' f'=>by
   refine forL_rel hb st xs r (i+1) venv' env' h2 U' s' (f.trans f') hr (Dns.move (A:=AU U) (fun _=>trivial) (fun k o hk g=>?_) _ _ q2)
   have hlt:k<h.length:=(List.getElem?_eq_some_iff.mp g).1
   obtain⟨a1,a2⟩:=f'.keep k hlt hk
   exact⟨a2,a1.trans g⟩
  cases fl<;>cases gl<;>first|exact hr2.elim|skip
  ·obtain⟨U',s',f'⟩:=hr2;exact go _ _ U' s' f'
  ·exact lrel_ret hr2
  ·obtain⟨U',s',f'⟩:=hr2;exact lrel_ret ⟨U',s',f.trans f'⟩
  ·obtain⟨U',s',f'⟩:=hr2;exact go _ _ U' s' f'
theorem l_for{p:Pat}{k:Ik}{e:IE}{body:ISs}(V:VOk Φ Ψ e)(hb:LOks Φ Ψ sp body):LOk Φ Ψ sp (.for p k (.cons e .nil) body):=fun venv env h U s=>by
 rw[evLS];try dsimp only
 have hsp:spoF e p k body=none:=rfl
 rw[hsp];dsimp only
 rw[evS]
 have ev:∀(F:List Val->M Fl),bnd (evEs Φ (.cons e .nil) env) F h=bnd (evE Φ e env) (fun v=>F [v]) h:=fun F=>by
  rw[evEs,evEs,bnd_assoc'];rfl
 rw[ev]
 refine lrel_bnd (evN_rel V s) fun x h1 v zz0=>?_
 obtain⟨p1,q1⟩:=zz0
 have s1:=s.ext p1
 refine lrel_bnd (R:=fun xs h' src=>h'=h1/\∃ws,Dns (AU U) h1 xs ws/\src.items h1=some ws/\StL h1 U src ws) (lrel_lft fun xs ex=>?_) fun xs h2 src ⟨e2,ws,q2,q3,st⟩=>?_
 ·obtain⟨src,ws,a1,a2,a3,a4⟩:=src_L q1 ex
  exact⟨src,a1,rfl,ws,a2,a3,a4⟩
 ·subst e2
  have ev2:∀(F:List Val->M Fl),bnd (ask fun h=>src.items h) F h2=F ws h2:=fun F=>by unfold bnd ask lft;dsimp only;rw[q3]
  rw[ev2]
  refine lrel_mono (forL_rel (fun venv' env' h' U' x v s' qx=>?_) st xs ws 0 venv env h2 U s1 (KU.refl s1 (List.prefix_refl _)) rfl q2) fun f h' g r=>r.seq (KU.refl s p1)
  refine lrel_bnd (R:=fun venv2 h2 env2=>∃U2,SL venv2 env2 h2 U2/\KU h' U' h2 U2) (lrel_lft fun venv2 e2=>?_) fun venv2 h2 env2 hh=>?_
  ·obtain⟨env2,U2,b1,b2,b3⟩:=s'.bind e2 qx
   exact⟨env2,b1,U2,b2,b3⟩
  ·obtain⟨U2,b2,b3⟩:=hh
   exact lrel_mono (hb venv2 env2 h2 U2 b2) fun f h'' g r=>r.seq b3
theorem l_nil:LOks Φ Ψ sp .nil:=fun venv env h U s=>by rw[evSs,evLSs];exact lrel_ret ⟨U,s,KU.refl s (List.prefix_refl _)⟩
theorem l_cons{a:IS}{r:ISs}(ha:LOk Φ Ψ sp a)(hr:LOks Φ Ψ sp r):LOks Φ Ψ sp (.cons a r):=fun venv env h U s=>by
 rw[evSs,evLSs]
 refine lrel_bnd (ha venv env h U s) fun f h1 g q=>?_
 cases f<;>cases g<;>first|exact q.elim|skip
 ·obtain⟨U1,s1,f1⟩:=q
  exact lrel_mono (hr _ _ h1 U1 s1) fun f h' g r=>r.seq f1
 ·exact lrel_ret q
 ·exact lrel_ret q
 ·exact lrel_ret q
theorem l_no{s:IS}(e:∀venv,evLS Ψ sp s venv=.no):LOk Φ Ψ sp s:=fun venv env h U _=>by rw[e];trivial
theorem l_expr{e:IE}(V:∀e,okB e=true->VOk Φ Ψ e)(ho:okB e=true):LOk Φ Ψ sp (.expr e):=l_no fun venv=>by rw[evLS]
theorem l_set{o i v:IE}(hi:VOk Φ Ψ i)(hv:VOk Φ Ψ v):LOk Φ Ψ sp (.setI o i v):=by
 cases o with
 | idx r c =>
  cases r with
  | var x =>
   cases c with
   | cst d =>
    cases d with
    | int j=>exact l_setI hi hv
    | _=>exact l_no fun venv=>by rw[evLS]<;>(intros;simp_all)
   | _=>exact l_no fun venv=>by rw[evLS]<;>(intros;simp_all)
  | _=>exact l_no fun venv=>by rw[evLS]<;>(intros;simp_all)
 | _=>exact l_no fun venv=>by rw[evLS]<;>(intros;simp_all)
theorem l_all(hΦ:∀j,Imp (Φ j) (Ψ j)):∀ss,okSs ss=true->LOks Φ Ψ sp ss:=by
 have V:=(v_all hΦ).1
 intro ss
 refine ISs.rec (motive_1:=fun s=>okS s=true->LOk Φ Ψ sp s) (motive_2:=fun ss=>okSs ss=true->LOks Φ Ψ sp ss) ?_ ?_ ?_ ?_ ?_ ?_ ?_ ?_ ?_ ?_ ?_ ?_ ?_ ?_ ?_ ?_ ss
 ·intro e f;rw[okS] at f;exact l_expr V f
 ·intro p e f;rw[okS] at f;exact l_asg (V e f)
 ·intro i o e f;exact l_no fun venv=>by rw[evLS]<;>(intros;simp_all)
 ·intro o i v f
  rw[okS,Bool.and_eq_true,Bool.and_eq_true] at f
  exact l_set (V i f.1.2) (V v f.2)
 ·intro c a b ha hb f;rw[okS,Bool.and_eq_true,Bool.and_eq_true] at f;exact l_iff (V c f.1.1) (ha f.1.2) (hb f.2)
 ·intro p k it b hb f
  rw[okS,Bool.and_eq_true] at f
  cases it with
  | nil=>exact l_no fun venv=>by rw[evLS.eq_def]<;>rfl
  | cons e es =>
   cases es with
   | nil=>rw[okBs,okBs,Bool.and_eq_true] at f;exact l_for (V e f.1.1) (hb f.2)
   | cons _ _=>exact l_no fun venv=>by rw[evLS]<;>(intros;simp_all)
 ·intro n c b _ f;exact l_no fun venv=>by rw[evLS]<;>(intros;simp_all)
 ·intro e f;rw[okS] at f;exact l_ret (V e f)
 ·intro _;exact l_no fun venv=>by rw[evLS]<;>(intros;simp_all)
 ·intro _ venv env h U s;rw[evS,evLS];exact lrel_ret ⟨U,s,KU.refl s (List.prefix_refl _)⟩
 ·intro _ venv env h U s;rw[evS,evLS];exact lrel_ret ⟨U,s,KU.refl s (List.prefix_refl _)⟩
 ·intro _ venv env h U s;rw[evS,evLS];exact lrel_ret ⟨U,s,KU.refl s (List.prefix_refl _)⟩
 ·intro _;exact l_no fun venv=>by rw[evLS]<;>(intros;simp_all)
 ·intro _ _ _ _ _;exact l_no fun venv=>by rw[evLS]<;>(intros;simp_all)
 ·intro _;exact l_nil
 ·intro a r ha hr f;rw[okSs,Bool.and_eq_true] at f;exact l_cons (ha f.1) (hr f.2)
theorem law_trueL{n:Nat}{body:ISs}(hΦ:∀j,Imp (Φ j) (Ψ j))(ho:okSs body=true){ns:List Int}{f:Bool}(e:evLF Ψ n body [.rl (ns.map .int)]=.ok (f,.bl true)):∃h',evF Φ n body [.rl (ns.map .int)] []=.ok (.bl true) h':=by
 have s:SL ([(Val.rl (ns.map .int))].map (fun d=>some (.sh,d))++List.replicate (n-1) none) ([(Val.rl (ns.map .int))].map some++List.replicate (n-1) none) [] (fun _ _=>False):=by
  have rep:∀(i:Nat) (x:Option (Mk×Val)),(List.replicate (n-1) (none:Option (Mk×Val)))[i]?=some x->x=none:=fun i x e=>(List.mem_replicate.mp (List.mem_of_getElem? e)).2
  refine⟨by simp,fun i d q=>?_,fun i d q=>?_,fun _ _ z=>z.elim,fun _ _ _ z=>z.elim⟩
  ·cases i with
   | zero =>
    simp only[List.map_cons,List.map_nil,List.cons_append,List.nil_append,List.getElem?_cons_zero] at q |-
    cases q
    refine⟨_,rfl,?_⟩
    rw[Dn];exact .inl ⟨_,rfl,trivial,(imms_eq _ _ (map_int_imm ns)).mpr rfl⟩
   | succ i =>
    simp only[List.map_cons,List.map_nil,List.cons_append,List.nil_append,List.getElem?_cons_succ] at q
    have:=rep _ _ q;cases this
  ·cases i with
   | zero=>simp only[List.map_cons,List.map_nil,List.cons_append,List.nil_append,List.getElem?_cons_zero] at q;cases q
   | succ i =>
    simp only[List.map_cons,List.map_nil,List.cons_append,List.nil_append,List.getElem?_cons_succ] at q
    have:=rep _ _ q;cases this
 have r:=l_all (sp:=spoSs body) hΦ body ho _ _ [] _ s
 unfold evLF at e
 show ∃h',bnd (evSs Φ body ([(Val.rl (ns.map .int))].map some++List.replicate (n-1) none)) _ []=_
 change pb (evLSs Ψ (spoSs body) body ([(Val.rl (ns.map .int))].map (fun d=>some (.sh,d))++List.replicate (n-1) none)) _=_ at e
 cases e1:evLSs Ψ (spoSs body) body ([(Val.rl (ns.map .int))].map (fun d=>some (.sh,d))++List.replicate (n-1) none) with
 | ok fl =>
  rw[e1] at e r
  obtain⟨g,h',eg,q⟩:=r
  unfold bnd
  rw[eg]
  cases fl with
  | rt p =>
   cases g<;>first|exact q.elim|skip
   change Pr.ok p=_ at e
   cases e
   have q:Dn (fun _=>True) h' (.bl true) _:=q
   rw[Dn] at q;subst q
   exact⟨h',rfl⟩
  | nx _=>cases e
  | bk _=>cases e
  | ct _=>cases e
 | exc c es=>rw[e1] at e;cases e
 | no=>rw[e1] at e;cases e
end
end Hv
end
section
namespace K22
open PySem L2 Hv
noncomputable def top(i:Nat):Stmt:=PySem.Challenge.pw_linkorcut_k22_rank_by_trees.main.body.getD i (.Pass ⟨0,0,0,0⟩)
noncomputable def cons:List (Str×Val):=[("THOUGHT",(.int (-1)))]
noncomputable def tb:Tb:=⟨1,["net","places","ends"],[(0,"tree_rank",10),(0,"rank",11)],[],[]⟩
noncomputable def cls10(i:Nat):Stmt:=match top 10 with|.ClassDef (body:=b) ..=>b.getD i (.Pass ⟨0,0,0,0⟩)|_=>.Pass ⟨0,0,0,0⟩
noncomputable def cls11(i:Nat):Stmt:=match top 11 with|.ClassDef (body:=b) ..=>b.getD i (.Pass ⟨0,0,0,0⟩)|_=>.Pass ⟨0,0,0,0⟩
noncomputable def ir_l_cell:ISs:=(.cons (.iff (.cmp .lt (.var 1) (.blt .len (.cons (.var 0) .nil))) (.cons (.ret (.idx (.var 0) (.var 1))) .nil) .nil) (.cons (.ret (.cst (.int 0))) .nil))
noncomputable def ir_l_number:ISs:=(.cons (.asg (.one 3) (.cst (.int 1))) (.cons (.asg (.one 4) (.cst (.int 0))) (.cons (.iff (.cmp .gt (.bin .mod (.var 0) (.cst (.int 3))) (.cst (.int 0))) (.cons (.asg (.one 3) (.bin .add (.cst (.int 1)) (.bin .mod (.bin .fdiv (.var 0) (.cst (.int 3))) (.bin .pow (.cst (.int 10)) (.cst (.int 56)))))) (.cons (.asg (.one 4) (.bin .mod (.bin .fdiv (.var 1) (.cst (.int 66))) (.bin .pow (.cst (.int 10)) (.cst (.int 58))))) .nil)) .nil) (.cons (.ret (.bin .add (.bin .mul (.var 3) (.bin .mod (.bin .add (.bin .mul (.bin .add (.cst (.int 1)) (.bin .mod (.var 1) (.cst (.int 66)))) (.var 2)) (.var 0)) (.cst (.int 67)))) (.var 4))) .nil))))
noncomputable def ir_l_net:ISs:=(.cons (.asg (.one 2) (.call 0 (.cons (.var 0) (.cons (.cst (.int 0)) .nil)))) (.cons (.asg (.one 3) (.call 0 (.cons (.var 0) (.cons (.cst (.int 1)) .nil)))) (.cons (.asg (.one 4) (.call 0 (.cons (.var 0) (.cons (.cst (.int 2)) .nil)))) (.cons (.asg (.one 5) (.bin .add (.cst (.int 2)) (.bin .mod (.var 4) (.cst (.int 7))))) (.cons (.asg (.one 6) (.comp ["_law_k","_law_two","_law_one"] [none,some 3,some 2] (.one 0) .range (.cons (.var 5) .nil) .no (.call 1 (.cons (.var 1) (.cons (.var 2) (.cons (.var 0) .nil)))))) (.cons (.asg (.one 7) (.lst .nil)) (.cons (.for (.tup [8,9]) .enum (.cons (.var 1) .nil) (.cons (.asg (.one 10) (.idx (.var 6) (.bin .mod (.var 9) (.var 5)))) (.cons (.asg (.one 11) (.idx (.var 6) (.bin .mod (.bin .fdiv (.var 9) (.var 5)) (.var 5)))) (.cons (.expr (.met .append (.var 7) (.cons (.tup (.cons (.call 1 (.cons (.var 2) (.cons (.var 3) (.cons (.var 8) .nil)))) (.cons (.blt .min (.cons (.var 10) (.cons (.var 11) .nil))) (.cons (.blt .max (.cons (.var 10) (.cons (.var 11) .nil))) .nil)))) .nil))) .nil)))) (.cons (.asg (.one 12) (.blt .sorted (.cons (.lst (.cons (.idx (.var 6) (.cst (.int 0))) (.cons (.idx (.var 6) (.bin .sub (.cst (.int 1)) (.blt .int (.cons (.cmp .eq (.bin .mod (.bin .fdiv (.var 4) (.cst (.int 7))) (.cst (.int 8))) (.cst (.int 3))) .nil)))) .nil))) .nil))) (.cons (.ret (.tup (.cons (.tup (.cons (.idx (.var 12) (.cst (.int 0))) (.cons (.idx (.var 12) (.cst (.int 1))) .nil))) (.cons (.blt .sorted (.cons (.var 7) .nil)) .nil)))) .nil)))))))))
noncomputable def ir_l_ends:ISs:=(.cons (.asg (.one 1) (.dct1 (.neg (.cst (.int 1))) (.idx (.var 0) (.cst (.int 0))))) (.cons (.for (.tup [2,3,4]) .seq (.cons (.idx (.var 0) (.cst (.int 1))) .nil) (.cons (.setI (.var 1) (.var 2) (.tup (.cons (.var 3) (.cons (.var 4) .nil)))) .nil)) (.cons (.ret (.var 1)) .nil)))
noncomputable def ir_put_in_order:ISs:=(.cons (.asg (.one 2) (.lst .nil)) (.cons (.for (.tup [3,4,5]) .seq (.cons (.var 1) .nil) (.cons (.expr (.met .append (.var 2) (.cons (.tup (.cons (.var 3) (.cons (.blt .min (.cons (.var 4) (.cons (.var 5) .nil))) (.cons (.blt .max (.cons (.var 4) (.cons (.var 5) .nil))) .nil)))) .nil))) .nil)) (.cons (.ret (.tup (.cons (.tup (.cons (.blt .min (.cons (.idx (.var 0) (.cst (.int 0))) (.cons (.idx (.var 0) (.cst (.int 1))) .nil))) (.cons (.blt .max (.cons (.idx (.var 0) (.cst (.int 0))) (.cons (.idx (.var 0) (.cst (.int 1))) .nil))) .nil))) (.cons (.blt .sorted (.cons (.var 2) .nil)) .nil)))) .nil)))
noncomputable def ir_own_net:ISs:=(.cons (.ret (.call 4 (.cons (.idx (.var 0) (.cst (.int 0))) (.cons (.idx (.var 0) (.cst (.int 1))) .nil)))) .nil)
noncomputable def ir_places_of:ISs:=(.cons (.asg (.one 1) (.blt .list (.cons (.idx (.var 0) (.cst (.int 0))) .nil))) (.cons (.for (.one 2) .seq (.cons (.idx (.var 0) (.cst (.int 1))) .nil) (.cons (.expr (.met .extend (.var 1) (.cons (.slc (.var 2) (.cst (.int 1)) .no) .nil))) .nil)) (.cons (.ret (.sset (.var 1))) .nil)))
noncomputable def ir_ByTrees:ISs:=(.cons (.setF 1 (.var 0) "net" (.call 5 (.cons (.var 1) .nil))) (.cons (.setF 1 (.var 0) "places" (.call 6 (.cons (.fld 1 (.var 0) "net") .nil))) (.cons (.setF 1 (.var 0) "ends" (.dct1 (.con "THOUGHT" (.int (-1))) (.idx (.fld 1 (.var 0) "net") (.cst (.int 0))))) (.cons (.for (.tup [2,3,4]) .seq (.cons (.idx (.fld 1 (.var 0) "net") (.cst (.int 1))) .nil) (.cons (.setI (.fld 1 (.var 0) "ends") (.var 2) (.tup (.cons (.var 3) (.cons (.var 4) .nil)))) .nil)) .nil))))
noncomputable def ir_l_row:ISs:=(.cons (.asg (.one 2) (.lst .nil)) (.cons (.for (.one 3) .seq (.cons (.var 0) .nil) (.cons (.iff (.cmp .eq (.bin .mod (.var 1) (.cst (.int 2))) (.cst (.int 1))) (.cons (.expr (.met .append (.var 2) (.cons (.var 3) .nil))) .nil) .nil) (.cons (.asg (.one 1) (.bin .fdiv (.var 1) (.cst (.int 2)))) .nil))) (.cons (.ret (.var 2)) .nil)))
noncomputable def ir_firsts_by:ISs:=(.cons (.asg (.one 2) .dct0) (.cons (.for (.one 3) .seq (.cons (.var 0) .nil) (.cons (.setI (.var 2) (.var 3) (.var 3)) .nil)) (.cons (.for (.tup [4,5]) .seq (.cons (.var 1) .nil) (.cons (.asg (.one 6) (.blt .min (.cons (.idx (.var 2) (.var 4)) (.cons (.idx (.var 2) (.var 5)) .nil)))) (.cons (.asg (.one 7) (.blt .max (.cons (.idx (.var 2) (.var 4)) (.cons (.idx (.var 2) (.var 5)) .nil)))) (.cons (.for (.one 3) .seq (.cons (.var 0) .nil) (.cons (.iff (.cmp .eq (.idx (.var 2) (.var 3)) (.var 7)) (.cons (.setI (.var 2) (.var 3) (.var 6)) .nil) .nil) .nil)) .nil)))) (.cons (.ret (.var 2)) .nil))))
noncomputable def ir_Rule_tree_rank:ISs:=(.cons (.asg (.one 2) (.call 9 (.cons (.fld 1 (.var 0) "places") (.cons (.comp ["tie","self"] [none,some 0] (.one 0) .seq (.cons (.var 1) .nil) .no (.idx (.fld 1 (.var 1) "ends") (.var 0))) .nil)))) (.cons (.ret (.blt .len (.cons (.comp ["place","firsts"] [none,some 2] (.one 0) .seq (.cons (.fld 1 (.var 0) "places") .nil) (.cmp .ne (.idx (.var 1) (.var 0)) (.var 0)) (.var 0)) .nil))) .nil))
noncomputable def ir_ByTrees_rank:ISs:=(.cons (.ret (.mth (.var 0) "tree_rank" [(0,10)] (.cons (.var 1) .nil))) .nil)
noncomputable def ir_l_whole:ISs:=(.cons (.ret (.and (.blt (.isin "int") (.cons (.var 0) .nil)) (.not (.blt (.isin "bool") (.cons (.var 0) .nil))))) .nil)
noncomputable def ir_l_joined:ISs:=(.cons (.asg (.one 2) .dct0) (.cons (.asg (.one 3) (.cst (.int 0))) (.cons (.for (.one 4) .seq (.cons (.var 1) .nil) (.cons (.asg (.one 5) (.dget (.var 2) (.idx (.idx (.var 0) (.var 4)) (.cst (.int 0))) (.idx (.idx (.var 0) (.var 4)) (.cst (.int 0))))) (.cons (.asg (.one 6) (.dget (.var 2) (.idx (.idx (.var 0) (.var 4)) (.cst (.int 1))) (.idx (.idx (.var 0) (.var 4)) (.cst (.int 1))))) (.cons (.iff (.cmp .ne (.var 5) (.var 6)) (.cons (.aug 3 .add (.cst (.int 1))) (.cons (.setI (.var 2) (.idx (.idx (.var 0) (.var 4)) (.cst (.int 0))) (.var 5)) (.cons (.setI (.var 2) (.idx (.idx (.var 0) (.var 4)) (.cst (.int 1))) (.var 6)) (.cons (.for (.one 7) .seq (.cons (.lkeys (.var 2)) .nil) (.cons (.iff (.cmp .eq (.idx (.var 2) (.var 7)) (.var 6)) (.cons (.setI (.var 2) (.var 7) (.var 5)) .nil) .nil) .nil)) .nil)))) .nil) .nil)))) (.cons (.ret (.var 3)) .nil))))
noncomputable def ir_law:ISs:=(.cons (.asg (.one 1) (.call 2 (.cons (.var 0) (.cons (.slc (.var 0) (.cst (.int 3)) (.bin .add (.cst (.int 3)) (.bin .mod (.bin .fdiv (.call 0 (.cons (.var 0) (.cons (.cst (.int 2)) .nil))) (.cst (.int 56))) (.cst (.int 15))))) .nil)))) (.cons (.asg (.one 2) (.call 3 (.cons (.var 1) .nil))) (.cons (.asg (.one 3) (.call 7 (.cons (.var 1) .nil))) (.cons (.for (.one 4) .range (.cons (.blt .len (.cons (.idx (.var 1) (.cst (.int 1))) .nil)) .nil) (.cons (.setI (.idx (.var 1) (.cst (.int 1))) (.var 4) (.tup (.cons (.idx (.idx (.idx (.var 1) (.cst (.int 1))) (.var 4)) (.cst (.int 0))) (.cons (.idx (.idx (.var 1) (.cst (.int 0))) (.cst (.int 0))) (.cons (.idx (.idx (.var 1) (.cst (.int 0))) (.cst (.int 0))) .nil))))) .nil)) (.cons (.for (.one 5) .seq (.cons (.bin .add (.lst (.cons (.cst (.int 0)) .nil)) (.slc (.var 0) (.cst (.int 17)) (.cst (.int 63)))) .nil) (.cons (.asg (.one 6) (.call 8 (.cons (.skeys (.var 2)) (.cons (.bin .fdiv (.var 5) (.cst (.int 2))) .nil)))) (.cons (.iff (.cmp .eq (.bin .mod (.var 5) (.cst (.int 2))) (.cst (.int 1))) (.cons (.asg (.one 6) (.rev (.var 6) (.neg (.cst (.int 1))))) .nil) .nil) (.cons (.asg (.one 7) (.blt .list (.cons (.var 6) .nil))) (.cons (.asg (.one 8) (.mth (.var 3) "rank" [(0,11)] (.cons (.var 7) .nil))) (.cons (.iff (.or (.not (.call 12 (.cons (.var 8) .nil))) (.or (.cmp .ne (.var 8) (.call 13 (.cons (.var 2) (.cons (.var 6) .nil)))) (.cmp .ne (.var 7) (.var 6)))) (.cons (.ret (.cst (.bl false))) .nil) .nil) .nil)))))) (.cons (.ret (.cst (.bl true))) .nil))))))
noncomputable def fs0:List Row:=[]
noncomputable def f_l_cell:List Val->M Val:=evF (look fs0) 2 ir_l_cell
noncomputable def fs1:List Row:=fs0++[(("_law_cell":Str),2,f_l_cell)]
noncomputable def f_l_number:List Val->M Val:=evF (look fs1) 5 ir_l_number
noncomputable def fs2:List Row:=fs1++[(("_law_number":Str),3,f_l_number)]
noncomputable def f_l_net:List Val->M Val:=evF (look fs2) 13 ir_l_net
noncomputable def fs3:List Row:=fs2++[(("_law_net":Str),2,f_l_net)]
noncomputable def f_l_ends:List Val->M Val:=evF (look fs3) 5 ir_l_ends
noncomputable def fs4:List Row:=fs3++[(("_law_ends":Str),1,f_l_ends)]
noncomputable def f_put_in_order:List Val->M Val:=evF (look fs4) 6 ir_put_in_order
noncomputable def fs5:List Row:=fs4++[(("put_in_order":Str),2,f_put_in_order)]
noncomputable def f_own_net:List Val->M Val:=evF (look fs5) 1 ir_own_net
noncomputable def fs6:List Row:=fs5++[(("own_net":Str),1,f_own_net)]
noncomputable def f_places_of:List Val->M Val:=evF (look fs6) 3 ir_places_of
noncomputable def fs7:List Row:=fs6++[(("places_of":Str),1,f_places_of)]
noncomputable def f_ByTrees:List Val->M Val:=mkF 0 (evF (look fs7) 5 ir_ByTrees)
noncomputable def fs8:List Row:=fs7++[(("ByTrees":Str),1,f_ByTrees)]
noncomputable def f_l_row:List Val->M Val:=evF (look fs8) 4 ir_l_row
noncomputable def fs9:List Row:=fs8++[(("_law_row":Str),2,f_l_row)]
noncomputable def f_firsts_by:List Val->M Val:=evF (look fs9) 8 ir_firsts_by
noncomputable def fs10:List Row:=fs9++[(("firsts_by":Str),2,f_firsts_by)]
noncomputable def f_Rule_tree_rank:List Val->M Val:=evF (look fs10) 3 ir_Rule_tree_rank
noncomputable def fs11:List Row:=fs10++[(("Rule.tree_rank":Str),1002,f_Rule_tree_rank)]
noncomputable def f_ByTrees_rank:List Val->M Val:=evF (look fs11) 2 ir_ByTrees_rank
noncomputable def fs12:List Row:=fs11++[(("ByTrees.rank":Str),1002,f_ByTrees_rank)]
noncomputable def f_l_whole:List Val->M Val:=evF (look fs12) 1 ir_l_whole
noncomputable def fs13:List Row:=fs12++[(("_law_whole":Str),1,f_l_whole)]
noncomputable def f_l_joined:List Val->M Val:=evF (look fs13) 8 ir_l_joined
noncomputable def fs14:List Row:=fs13++[(("_law_joined":Str),2,f_l_joined)]
noncomputable def f_law:List Val->M Val:=evF (look fs14) 9 ir_law
noncomputable def fs15:List Row:=fs14++[(("law":Str),1,f_law)]
noncomputable def gs0:List RowV:=[]
noncomputable def g_l_cell:RowV:=evVF (lookV gs0) 2 ir_l_cell
noncomputable def gs1:List RowV:=gs0++[g_l_cell]
noncomputable def g_l_number:RowV:=evVF (lookV gs1) 5 ir_l_number
noncomputable def gs2:List RowV:=gs1++[g_l_number]
noncomputable def g_l_net:RowV:=evVF (lookV gs2) 13 ir_l_net
noncomputable def gs3:List RowV:=gs2++[g_l_net]
noncomputable def g_l_ends:RowV:=evVF (lookV gs3) 5 ir_l_ends
noncomputable def gs4:List RowV:=gs3++[g_l_ends]
noncomputable def g_put_in_order:RowV:=evVF (lookV gs4) 6 ir_put_in_order
noncomputable def gs5:List RowV:=gs4++[g_put_in_order]
noncomputable def g_own_net:RowV:=evVF (lookV gs5) 1 ir_own_net
noncomputable def gs6:List RowV:=gs5++[g_own_net]
noncomputable def g_places_of:RowV:=evVF (lookV gs6) 3 ir_places_of
noncomputable def gs7:List RowV:=gs6++[g_places_of]
noncomputable def g_ByTrees:RowV:=ruleG (lookV gs7) 0 5 6
noncomputable def gs8:List RowV:=gs7++[g_ByTrees]
noncomputable def g_l_row:RowV:=evVF (lookV gs8) 4 ir_l_row
noncomputable def gs9:List RowV:=gs8++[g_l_row]
noncomputable def g_firsts_by:RowV:=evVF (lookV gs9) 8 ir_firsts_by
noncomputable def gs10:List RowV:=gs9++[g_firsts_by]
noncomputable def g_Rule_tree_rank:RowV:=evVF (lookV gs10) 3 ir_Rule_tree_rank
noncomputable def gs11:List RowV:=gs10++[g_Rule_tree_rank]
noncomputable def g_ByTrees_rank:RowV:=evVF (lookV gs11) 2 ir_ByTrees_rank
noncomputable def gs12:List RowV:=gs11++[g_ByTrees_rank]
noncomputable def g_l_whole:RowV:=evVF (lookV gs12) 1 ir_l_whole
noncomputable def gs13:List RowV:=gs12++[g_l_whole]
noncomputable def g_l_joined:RowV:=evVF (lookV gs13) 8 ir_l_joined
noncomputable def gs14:List RowV:=gs13++[g_l_joined]
noncomputable def g_law:RowV:=evLF (lookV gs14) 9 ir_law
noncomputable def gs15:List RowV:=gs14++[g_law]
theorem lk_l_net_l_cell:lookV gs2 0=g_l_cell:=rfl
theorem lk_l_net_l_number:lookV gs2 1=g_l_number:=rfl
theorem lk_own_net_put_in_order:lookV gs5 4=g_put_in_order:=rfl
theorem lk_ByTrees_own_net:lookV gs7 5=g_own_net:=rfl
theorem lk_ByTrees_places_of:lookV gs7 6=g_places_of:=rfl
theorem lk_Rule_tree_rank_firsts_by:lookV gs10 9=g_firsts_by:=rfl
theorem lk_ByTrees_rank_Rule_tree_rank:lookV gs11 10=g_Rule_tree_rank:=rfl
theorem lk_law_l_cell:lookV gs14 0=g_l_cell:=rfl
theorem lk_law_l_net:lookV gs14 2=g_l_net:=rfl
theorem lk_law_l_ends:lookV gs14 3=g_l_ends:=rfl
theorem lk_law_ByTrees:lookV gs14 7=g_ByTrees:=rfl
theorem lk_law_l_row:lookV gs14 8=g_l_row:=rfl
theorem lk_law_ByTrees_rank:lookV gs14 11=g_ByTrees_rank:=rfl
theorem lk_law_l_whole:lookV gs14 12=g_l_whole:=rfl
theorem lk_law_l_joined:lookV gs14 13=g_l_joined:=rfl
theorem i0:AllI fs0 gs0:=alli_nil
theorem i_l_cell:Imp f_l_cell g_l_cell:=imp_fn (alli_look i0) (by decide +kernel)
theorem i1:AllI fs1 gs1:=alli_snoc i0 i_l_cell
theorem i_l_number:Imp f_l_number g_l_number:=imp_fn (alli_look i1) (by decide +kernel)
theorem i2:AllI fs2 gs2:=alli_snoc i1 i_l_number
theorem i_l_net:Imp f_l_net g_l_net:=imp_fn (alli_look i2) (by decide +kernel)
theorem i3:AllI fs3 gs3:=alli_snoc i2 i_l_net
theorem i_l_ends:Imp f_l_ends g_l_ends:=imp_fn (alli_look i3) (by decide +kernel)
theorem i4:AllI fs4 gs4:=alli_snoc i3 i_l_ends
theorem i_put_in_order:Imp f_put_in_order g_put_in_order:=imp_fn (alli_look i4) (by decide +kernel)
theorem i5:AllI fs5 gs5:=alli_snoc i4 i_put_in_order
theorem i_own_net:Imp f_own_net g_own_net:=imp_fn (alli_look i5) (by decide +kernel)
theorem i6:AllI fs6 gs6:=alli_snoc i5 i_own_net
theorem i_places_of:Imp f_places_of g_places_of:=imp_fn (alli_look i6) (by decide +kernel)
theorem i7:AllI fs7 gs7:=alli_snoc i6 i_places_of
theorem i_ByTrees:Imp f_ByTrees g_ByTrees:=imp_rule (n:=1) (by decide) (alli_look i7)
theorem i8:AllI fs8 gs8:=alli_snoc i7 i_ByTrees
theorem i_l_row:Imp f_l_row g_l_row:=imp_fn (alli_look i8) (by decide +kernel)
theorem i9:AllI fs9 gs9:=alli_snoc i8 i_l_row
theorem i_firsts_by:Imp f_firsts_by g_firsts_by:=imp_fn (alli_look i9) (by decide +kernel)
theorem i10:AllI fs10 gs10:=alli_snoc i9 i_firsts_by
theorem i_Rule_tree_rank:Imp f_Rule_tree_rank g_Rule_tree_rank:=imp_fn (alli_look i10) (by decide +kernel)
theorem i11:AllI fs11 gs11:=alli_snoc i10 i_Rule_tree_rank
theorem i_ByTrees_rank:Imp f_ByTrees_rank g_ByTrees_rank:=imp_fn (alli_look i11) (by decide +kernel)
theorem i12:AllI fs12 gs12:=alli_snoc i11 i_ByTrees_rank
theorem i_l_whole:Imp f_l_whole g_l_whole:=imp_fn (alli_look i12) (by decide +kernel)
theorem i13:AllI fs13 gs13:=alli_snoc i12 i_l_whole
theorem i_l_joined:Imp f_l_joined g_l_joined:=imp_fn (alli_look i13) (by decide +kernel)
theorem i14:AllI fs14 gs14:=alli_snoc i13 i_l_joined
theorem law_end{ns:List Int}{f:Bool}(e:g_law [.rl (ns.map .int)]=.ok (f,.bl true)):∃h',f_law [.rl (ns.map .int)] []=.ok (.bl true) h':=law_trueL (alli_look i14) (by decide +kernel) e
theorem c0:scopeB ["_law_script","_law_k"] ["_law_script","_law_k"] (defScope (top 13))=true:=by decide +kernel
theorem d0:chkSs ⟨["_law_script","_law_k"],defScope (top 13),fs0.map (fun r=>(r.1,r.2.1)),cons,tb⟩ ir_l_cell (defBody (top 13))=true:=by decide +kernel
theorem c1:scopeB ["_law_one","_law_two","_law_k","_law_step","_law_shift"] ["_law_one","_law_two","_law_k"] (defScope (top 14))=true:=by decide +kernel
theorem d1:chkSs ⟨["_law_one","_law_two","_law_k","_law_step","_law_shift"],defScope (top 14),fs1.map (fun r=>(r.1,r.2.1)),cons,tb⟩ ir_l_number (defBody (top 14))=true:=by decide +kernel
theorem c2:scopeB ["_law_script","_law_cells","_law_one","_law_two","_law_pick","_law_many","_law_places","_law_ties","_law_k","_law_cell_here","_law_here","_law_there","_law_poles"] ["_law_script","_law_cells"] (defScope (top 15))=true:=by decide +kernel
theorem d2:chkSs ⟨["_law_script","_law_cells","_law_one","_law_two","_law_pick","_law_many","_law_places","_law_ties","_law_k","_law_cell_here","_law_here","_law_there","_law_poles"],defScope (top 15),fs2.map (fun r=>(r.1,r.2.1)),cons,tb⟩ ir_l_net (defBody (top 15))=true:=by decide +kernel
theorem c3:scopeB ["_law_net_here","_law_ends_here","_law_name","_law_one","_law_other"] ["_law_net_here"] (defScope (top 16))=true:=by decide +kernel
theorem d3:chkSs ⟨["_law_net_here","_law_ends_here","_law_name","_law_one","_law_other"],defScope (top 16),fs3.map (fun r=>(r.1,r.2.1)),cons,tb⟩ ir_l_ends (defBody (top 16))=true:=by decide +kernel
theorem c4:scopeB ["poles","ties","named","name","one","other"] ["poles","ties"] (defScope (top 2))=true:=by decide +kernel
theorem d4:chkSs ⟨["poles","ties","named","name","one","other"],defScope (top 2),fs4.map (fun r=>(r.1,r.2.1)),cons,tb⟩ ir_put_in_order (defBody (top 2))=true:=by decide +kernel
theorem c5:scopeB ["net"] ["net"] (defScope (top 3))=true:=by decide +kernel
theorem d5:chkSs ⟨["net"],defScope (top 3),fs5.map (fun r=>(r.1,r.2.1)),cons,tb⟩ ir_own_net (defBody (top 3))=true:=by decide +kernel
theorem c6:scopeB ["net","places","tie"] ["net"] (defScope (top 4))=true:=by decide +kernel
theorem d6:chkSs ⟨["net","places","tie"],defScope (top 4),fs6.map (fun r=>(r.1,r.2.1)),cons,tb⟩ ir_places_of (defBody (top 4))=true:=by decide +kernel
theorem c7:scopeB ["self","net","name","one","other"] ["self","net"] (defScope (cls10 0))=true:=by decide +kernel
theorem d7:chkSs ⟨["self","net","name","one","other"],defScope (cls10 0),fs7.map (fun r=>(r.1,r.2.1)),cons,tb⟩ ir_ByTrees (defBody (cls10 0))=true:=by decide +kernel
theorem c8:scopeB ["_law_names","_law_cell_here","_law_row_here","_law_name"] ["_law_names","_law_cell_here"] (defScope (top 18))=true:=by decide +kernel
theorem d8:chkSs ⟨["_law_names","_law_cell_here","_law_row_here","_law_name"],defScope (top 18),fs8.map (fun r=>(r.1,r.2.1)),cons,tb⟩ ir_l_row (defBody (top 18))=true:=by decide +kernel
theorem c9:scopeB ["places","pairs","firsts","place","one","other","kept","gone"] ["places","pairs"] (defScope (top 7))=true:=by decide +kernel
theorem d9:chkSs ⟨["places","pairs","firsts","place","one","other","kept","gone"],defScope (top 7),fs9.map (fun r=>(r.1,r.2.1)),cons,tb⟩ ir_firsts_by (defBody (top 7))=true:=by decide +kernel
theorem c10:scopeB ["self","row","firsts"] ["self","row"] (defScope (cls10 7))=true:=by decide +kernel
theorem d10:chkSs ⟨["self","row","firsts"],defScope (cls10 7),fs10.map (fun r=>(r.1,r.2.1)),cons,tb⟩ ir_Rule_tree_rank (defBody (cls10 7))=true:=by decide +kernel
theorem c11:scopeB ["self","row"] ["self","row"] (defScope (cls11 1))=true:=by decide +kernel
theorem d11:chkSs ⟨["self","row"],defScope (cls11 1),fs11.map (fun r=>(r.1,r.2.1)),cons,tb⟩ ir_ByTrees_rank (defBody (cls11 1))=true:=by decide +kernel
theorem c12:scopeB ["_law_found"] ["_law_found"] (defScope (top 19))=true:=by decide +kernel
theorem d12:chkSs ⟨["_law_found"],defScope (top 19),fs12.map (fun r=>(r.1,r.2.1)),cons,tb⟩ ir_l_whole (defBody (top 19))=true:=by decide +kernel
theorem c13:scopeB ["_law_ends_here","_law_row_here","_law_part","_law_many","_law_name","_law_one","_law_other","_law_place"] ["_law_ends_here","_law_row_here"] (defScope (top 17))=true:=by decide +kernel
theorem d13:chkSs ⟨["_law_ends_here","_law_row_here","_law_part","_law_many","_law_name","_law_one","_law_other","_law_place"],defScope (top 17),fs13.map (fun r=>(r.1,r.2.1)),cons,tb⟩ ir_l_joined (defBody (top 17))=true:=by decide +kernel
theorem c14:scopeB ["_law_script","_law_net_here","_law_ends_here","_law_rule","_law_k","_law_cell_here","_law_picked","_law_handed","_law_found"] ["_law_script"] (defScope (top 20))=true:=by decide +kernel
theorem d14:chkSs ⟨["_law_script","_law_net_here","_law_ends_here","_law_rule","_law_k","_law_cell_here","_law_picked","_law_handed","_law_found"],defScope (top 20),fs14.map (fun r=>(r.1,r.2.1)),cons,tb⟩ ir_law (defBody (top 20))=true:=by decide +kernel
section
variable {P:Program} {w:World} {K:PySem.W.Frag} {mg:Str->Option Value} {base:Heap}
theorem all_mk{l:PySem.W.OpenLaw}{h:Heap}{fa:Addr}(X:K.In h)(G:h.Ns mainGlobals mg)(hfa:mg "law" = some (.ref fa))(hφ:∀ns:List Int,ns.length<=63->∃h',f_law [.rl (ns.map .int)] []=.ok (.bl true) h'){D0:Addr}{oc0 kV0 dc0 pm0 cd0 ct0:Value}{od0 an0:Option Addr}{sl0:Array (Option Value)}{a0:Addr}{oc1 kV1 dc1 pm1 cd1 ct1:Value}{od1 an1:Option Addr}{sl1:Array (Option Value)}{a1:Addr}{oc2 kV2 dc2 pm2 cd2 ct2:Value}{od2 an2:Option Addr}{sl2:Array (Option Value)}{a2:Addr}{oc3 kV3 dc3 pm3 cd3 ct3:Value}{od3 an3:Option Addr}{sl3:Array (Option Value)}{a3:Addr}{oc4 kV4 dc4 pm4 cd4 ct4:Value}{od4 an4:Option Addr}{sl4:Array (Option Value)}{a4:Addr}{oc5 kV5 dc5 pm5 cd5 ct5:Value}{od5 an5:Option Addr}{sl5:Array (Option Value)}{a5:Addr}{oc6 kV6 dc6 pm6 cd6 ct6:Value}{od6 an6:Option Addr}{sl6:Array (Option Value)}{a6:Addr}{oc7 kV7 dc7 pm7 cd7 ct7:Value}{od7 an7:Option Addr}{sl7:Array (Option Value)}{a7:Addr}{oc8 kV8 dc8 pm8 cd8 ct8:Value}{od8 an8:Option Addr}{sl8:Array (Option Value)}{a8:Addr}{oc9 kV9 dc9 pm9 cd9 ct9:Value}{od9 an9:Option Addr}{sl9:Array (Option Value)}{a9:Addr}{oc10 kV10 dc10 pm10 cd10 ct10:Value}{od10 an10:Option Addr}{sl10:Array (Option Value)}{a10:Addr}{oc11 kV11 dc11 pm11 cd11 ct11:Value}{od11 an11:Option Addr}{sl11:Array (Option Value)}{a11:Addr}{oc12 kV12 dc12 pm12 cd12 ct12:Value}{od12 an12:Option Addr}{sl12:Array (Option Value)}{a12:Addr}{oc13 kV13 dc13 pm13 cd13 ct13:Value}{od13 an13:Option Addr}{sl13:Array (Option Value)}{a13:Addr}{oc14 kV14 dc14 pm14 cd14 ct14:Value}{od14 an14:Option Addr}{sl14:Array (Option Value)}{a14:Addr}{tk0:Tok}
  (DA0:PySem.W.nsIn K mainGlobals "ByTrees" = some (some (.ref D0))) (DG0:PySem.W.plainGet K D0 Str.empty=true) (DH0:PySem.W.hasDictIn K D0=true) (DO0:PySem.W.plainOver K D0=true) (DS0:PySem.W.findIn K (.ref D0) "__setattr__" = some (some (.builtin "object.__setattr__"))) (DM0:PySem.W.makesIn K D0=true) (DK0:PySem.W.keepIn K (.ref D0)=true)
  (DN0_0:PySem.W.findIn K (.ref D0) "net" = some none)
  (DN0_1:PySem.W.findIn K (.ref D0) "places" = some none)
  (DN0_2:PySem.W.findIn K (.ref D0) "ends" = some none)
  (A0:PySem.W.nsIn K mainGlobals "_law_cell" = some (some (.ref a0)))
  (L0:K.lookup a0=some ⟨oc0,od0,.func (PySem.W.fnOf "_law_cell" "_law_cell" (defArgs (top 13)) (defBody (top 13)) (defScope (top 13)) .none kV0 dc0 pm0 an0 cd0 ct0),sl0⟩) (C0:PySem.W.codeIn K cd0 "_law_cell" = true) (Q0:PySem.W.keepIn K (.ref a0)=true)
  (A1:PySem.W.nsIn K mainGlobals "_law_number" = some (some (.ref a1)))
  (L1:K.lookup a1=some ⟨oc1,od1,.func (PySem.W.fnOf "_law_number" "_law_number" (defArgs (top 14)) (defBody (top 14)) (defScope (top 14)) .none kV1 dc1 pm1 an1 cd1 ct1),sl1⟩) (C1:PySem.W.codeIn K cd1 "_law_number" = true) (Q1:PySem.W.keepIn K (.ref a1)=true)
  (A2:PySem.W.nsIn K mainGlobals "_law_net" = some (some (.ref a2)))
  (L2:K.lookup a2=some ⟨oc2,od2,.func (PySem.W.fnOf "_law_net" "_law_net" (defArgs (top 15)) (defBody (top 15)) (defScope (top 15)) .none kV2 dc2 pm2 an2 cd2 ct2),sl2⟩) (C2:PySem.W.codeIn K cd2 "_law_net" = true) (Q2:PySem.W.keepIn K (.ref a2)=true)
  (A3:PySem.W.nsIn K mainGlobals "_law_ends" = some (some (.ref a3)))
  (L3:K.lookup a3=some ⟨oc3,od3,.func (PySem.W.fnOf "_law_ends" "_law_ends" (defArgs (top 16)) (defBody (top 16)) (defScope (top 16)) .none kV3 dc3 pm3 an3 cd3 ct3),sl3⟩) (C3:PySem.W.codeIn K cd3 "_law_ends" = true) (Q3:PySem.W.keepIn K (.ref a3)=true)
  (A4:PySem.W.nsIn K mainGlobals "put_in_order" = some (some (.ref a4)))
  (L4:K.lookup a4=some ⟨oc4,od4,.func (PySem.W.fnOf "put_in_order" "put_in_order" (defArgs (top 2)) (defBody (top 2)) (defScope (top 2)) .none kV4 dc4 pm4 an4 cd4 ct4),sl4⟩) (C4:PySem.W.codeIn K cd4 "put_in_order" = true) (Q4:PySem.W.keepIn K (.ref a4)=true)
  (A5:PySem.W.nsIn K mainGlobals "own_net" = some (some (.ref a5)))
  (L5:K.lookup a5=some ⟨oc5,od5,.func (PySem.W.fnOf "own_net" "own_net" (defArgs (top 3)) (defBody (top 3)) (defScope (top 3)) .none kV5 dc5 pm5 an5 cd5 ct5),sl5⟩) (C5:PySem.W.codeIn K cd5 "own_net" = true) (Q5:PySem.W.keepIn K (.ref a5)=true)
  (A6:PySem.W.nsIn K mainGlobals "places_of" = some (some (.ref a6)))
  (L6:K.lookup a6=some ⟨oc6,od6,.func (PySem.W.fnOf "places_of" "places_of" (defArgs (top 4)) (defBody (top 4)) (defScope (top 4)) .none kV6 dc6 pm6 an6 cd6 ct6),sl6⟩) (C6:PySem.W.codeIn K cd6 "places_of" = true) (Q6:PySem.W.keepIn K (.ref a6)=true)
  (A7:PySem.W.findIn K (.ref D0) "__init__" = some (some (.ref a7))) (I7:PySem.W.isFn K (.ref a7)=true)
  (L7:K.lookup a7=some ⟨oc7,od7,.func (PySem.W.fnOf "__init__" "Rule.__init__" (defArgs (cls10 0)) (defBody (cls10 0)) (defScope (cls10 0)) .none kV7 dc7 pm7 an7 cd7 ct7),sl7⟩) (C7:PySem.W.codeIn K cd7 "Rule.__init__" = true) (Q7:PySem.W.keepIn K (.ref a7)=true)
  (A8:PySem.W.nsIn K mainGlobals "_law_row" = some (some (.ref a8)))
  (L8:K.lookup a8=some ⟨oc8,od8,.func (PySem.W.fnOf "_law_row" "_law_row" (defArgs (top 18)) (defBody (top 18)) (defScope (top 18)) .none kV8 dc8 pm8 an8 cd8 ct8),sl8⟩) (C8:PySem.W.codeIn K cd8 "_law_row" = true) (Q8:PySem.W.keepIn K (.ref a8)=true)
  (A9:PySem.W.nsIn K mainGlobals "firsts_by" = some (some (.ref a9)))
  (L9:K.lookup a9=some ⟨oc9,od9,.func (PySem.W.fnOf "firsts_by" "firsts_by" (defArgs (top 7)) (defBody (top 7)) (defScope (top 7)) .none kV9 dc9 pm9 an9 cd9 ct9),sl9⟩) (C9:PySem.W.codeIn K cd9 "firsts_by" = true) (Q9:PySem.W.keepIn K (.ref a9)=true)
  (M0_10:PySem.W.findIn K (.ref D0) "tree_rank" = some (some (.ref a10)))
  (I10:PySem.W.isFn K (.ref a10)=true)
  (L10:K.lookup a10=some ⟨oc10,od10,.func (PySem.W.fnOf "tree_rank" "Rule.tree_rank" (defArgs (cls10 7)) (defBody (cls10 7)) (defScope (cls10 7)) .none kV10 dc10 pm10 an10 cd10 ct10),sl10⟩) (C10:PySem.W.codeIn K cd10 "Rule.tree_rank" = true) (Q10:PySem.W.keepIn K (.ref a10)=true)
  (M0_11:PySem.W.findIn K (.ref D0) "rank" = some (some (.ref a11)))
  (I11:PySem.W.isFn K (.ref a11)=true)
  (L11:K.lookup a11=some ⟨oc11,od11,.func (PySem.W.fnOf "rank" "ByTrees.rank" (defArgs (cls11 1)) (defBody (cls11 1)) (defScope (cls11 1)) .none kV11 dc11 pm11 an11 cd11 ct11),sl11⟩) (C11:PySem.W.codeIn K cd11 "ByTrees.rank" = true) (Q11:PySem.W.keepIn K (.ref a11)=true)
  (A12:PySem.W.nsIn K mainGlobals "_law_whole" = some (some (.ref a12)))
  (L12:K.lookup a12=some ⟨oc12,od12,.func (PySem.W.fnOf "_law_whole" "_law_whole" (defArgs (top 19)) (defBody (top 19)) (defScope (top 19)) .none kV12 dc12 pm12 an12 cd12 ct12),sl12⟩) (C12:PySem.W.codeIn K cd12 "_law_whole" = true) (Q12:PySem.W.keepIn K (.ref a12)=true)
  (A13:PySem.W.nsIn K mainGlobals "_law_joined" = some (some (.ref a13)))
  (L13:K.lookup a13=some ⟨oc13,od13,.func (PySem.W.fnOf "_law_joined" "_law_joined" (defArgs (top 17)) (defBody (top 17)) (defScope (top 17)) .none kV13 dc13 pm13 an13 cd13 ct13),sl13⟩) (C13:PySem.W.codeIn K cd13 "_law_joined" = true) (Q13:PySem.W.keepIn K (.ref a13)=true)
  (A14:PySem.W.nsIn K mainGlobals "law" = some (some (.ref a14)))
  (L14:K.lookup a14=some ⟨oc14,od14,.func (PySem.W.fnOf "law" "law" (defArgs (top 20)) (defBody (top 20)) (defScope (top 20)) .none kV14 dc14 pm14 an14 cd14 ct14),sl14⟩) (C14:PySem.W.codeIn K cd14 "law" = true) (Q14:PySem.W.keepIn K (.ref a14)=true)
  (Z0:PySem.W.nsIn K mainGlobals "len" = some none)
  (Z1:PySem.W.nsIn K mainGlobals "min" = some none)
  (Z2:PySem.W.nsIn K mainGlobals "max" = some none)
  (Z3:PySem.W.nsIn K mainGlobals "sorted" = some none)
  (Z4:PySem.W.nsIn K mainGlobals "list" = some none)
  (Z5:PySem.W.nsIn K mainGlobals "tuple" = some none)
  (Z6:PySem.W.nsIn K mainGlobals "str" = some none)
  (Z7:PySem.W.nsIn K mainGlobals "all" = some none)
  (Z8:PySem.W.nsIn K mainGlobals "any" = some none)
  (Z9:PySem.W.nsIn K mainGlobals "isinstance" = some none)
  (Z10:PySem.W.nsIn K mainGlobals "range" = some none)
  (Z11:PySem.W.nsIn K mainGlobals "enumerate" = some none)
  (Z12:PySem.W.nsIn K mainGlobals "int" = some none)
  (Z13:PySem.W.nsIn K mainGlobals "bool" = some none)
  (Z14:PySem.W.nsIn K mainGlobals "dict" = some none)
  (Z15:PySem.W.nsIn K mainGlobals "set" = some none)
  (Z16:PySem.W.nsIn K mainGlobals "zip" = some none)
  (V0:PySem.W.nsIn K mainGlobals "THOUGHT" = some (some (.int (-1) tk0))) :
  ∃fd:FuncData,(∀(s:Shared) (v:Value),BindsTo s fd ⟨[v],[]⟩ [("_law_script",v)])/\∀base:Heap,K.In base->base.Ns mainGlobals mg->FnOk l.prog w K mg base CX0 30 fa fd ["_law_script"] (spL K):=by
 have e:=hfa.symm.trans (PySem.W.mg_of X G A14)
 cases e
 obtain⟨cl,hcl⟩:∃cl:Nat->Addr,cl=fun n=>if n=0 then D0 else if n=1010 then a10 else if n=1011 then a11 else 0:=⟨_,rfl⟩
 have T:Base K cl mg cons tb:=by
  subst hcl
  refine⟨fun x hx=>?_,fun p hp=>?_,fun c hc=>?_,fun p hp=>?_,fun p hp=>?_,fun p hp=>?_⟩
  ·simp only[bltNames,List.mem_cons,List.not_mem_nil,or_false] at hx
   rcases hx with rfl|rfl|rfl|rfl|rfl|rfl|rfl|rfl|rfl|rfl|rfl|rfl|rfl|rfl|rfl|rfl|rfl
   ·exact PySem.W.mg_none_of X G Z0
   ·exact PySem.W.mg_none_of X G Z1
   ·exact PySem.W.mg_none_of X G Z2
   ·exact PySem.W.mg_none_of X G Z3
   ·exact PySem.W.mg_none_of X G Z4
   ·exact PySem.W.mg_none_of X G Z5
   ·exact PySem.W.mg_none_of X G Z6
   ·exact PySem.W.mg_none_of X G Z7
   ·exact PySem.W.mg_none_of X G Z8
   ·exact PySem.W.mg_none_of X G Z9
   ·exact PySem.W.mg_none_of X G Z10
   ·exact PySem.W.mg_none_of X G Z11
   ·exact PySem.W.mg_none_of X G Z12
   ·exact PySem.W.mg_none_of X G Z13
   ·exact PySem.W.mg_none_of X G Z14
   ·exact PySem.W.mg_none_of X G Z15
   ·exact PySem.W.mg_none_of X G Z16
  ·simp only[cons,List.mem_cons,List.not_mem_nil,or_false] at hp
   rcases hp with rfl
   ·exact⟨.int (-1),_,PySem.W.mg_of X G V0,⟨_,rfl⟩,fun _ _ _=>VR.int⟩
  ·have hc:c<1:=hc
   match c,hc with
   | 0,_ =>
    refine⟨⟨DG0,DH0,DO0,DS0⟩,fun x hx=>?_⟩
    simp only[tb,List.mem_cons,List.not_mem_nil,or_false] at hx
    rcases hx with rfl|rfl|rfl
    ·exact DN0_0
    ·exact DN0_1
    ·exact DN0_2
  ·simp only[tb,List.mem_cons,List.not_mem_nil,or_false] at hp
   rcases hp with rfl|rfl
   ·exact⟨M0_10,I10,Q10⟩
   ·exact⟨M0_11,I11,Q11⟩
  ·simp[tb] at hp
  ·simp[tb] at hp
 have F0:=fun_mk (st:=(top 13)) L0 C0 Q0
 have b0:=F0.binds (ps:=["_law_script","_law_k"]) fun _ _ _ _ _ _ us hl=>match us,hl with|[_,_],_=>rfl
 have F1:=fun_mk (st:=(top 14)) L1 C1 Q1
 have b1:=F1.binds (ps:=["_law_one","_law_two","_law_k"]) fun _ _ _ _ _ _ us hl=>match us,hl with|[_,_,_],_=>rfl
 have F2:=fun_mk (st:=(top 15)) L2 C2 Q2
 have b2:=F2.binds (ps:=["_law_script","_law_cells"]) fun _ _ _ _ _ _ us hl=>match us,hl with|[_,_],_=>rfl
 have F3:=fun_mk (st:=(top 16)) L3 C3 Q3
 have b3:=F3.binds (ps:=["_law_net_here"]) fun _ _ _ _ _ _ us hl=>match us,hl with|[_],_=>rfl
 have F4:=fun_mk (st:=(top 2)) L4 C4 Q4
 have b4:=F4.binds (ps:=["poles","ties"]) fun _ _ _ _ _ _ us hl=>match us,hl with|[_,_],_=>rfl
 have F5:=fun_mk (st:=(top 3)) L5 C5 Q5
 have b5:=F5.binds (ps:=["net"]) fun _ _ _ _ _ _ us hl=>match us,hl with|[_],_=>rfl
 have F6:=fun_mk (st:=(top 4)) L6 C6 Q6
 have b6:=F6.binds (ps:=["net"]) fun _ _ _ _ _ _ us hl=>match us,hl with|[_],_=>rfl
 have F7:=fun_mk (st:=(cls10 0)) L7 C7 Q7
 have b7:=F7.binds (ps:=["self","net"]) fun _ _ _ _ _ _ us hl=>match us,hl with|[_,_],_=>rfl
 have F8:=fun_mk (st:=(top 18)) L8 C8 Q8
 have b8:=F8.binds (ps:=["_law_names","_law_cell_here"]) fun _ _ _ _ _ _ us hl=>match us,hl with|[_,_],_=>rfl
 have F9:=fun_mk (st:=(top 7)) L9 C9 Q9
 have b9:=F9.binds (ps:=["places","pairs"]) fun _ _ _ _ _ _ us hl=>match us,hl with|[_,_],_=>rfl
 have F10:=fun_mk (st:=(cls10 7)) L10 C10 Q10
 have b10:=F10.binds (ps:=["self","row"]) fun _ _ _ _ _ _ us hl=>match us,hl with|[_,_],_=>rfl
 have F11:=fun_mk (st:=(cls11 1)) L11 C11 Q11
 have b11:=F11.binds (ps:=["self","row"]) fun _ _ _ _ _ _ us hl=>match us,hl with|[_,_],_=>rfl
 have F12:=fun_mk (st:=(top 19)) L12 C12 Q12
 have b12:=F12.binds (ps:=["_law_found"]) fun _ _ _ _ _ _ us hl=>match us,hl with|[_],_=>rfl
 have F13:=fun_mk (st:=(top 17)) L13 C13 Q13
 have b13:=F13.binds (ps:=["_law_ends_here","_law_row_here"]) fun _ _ _ _ _ _ us hl=>match us,hl with|[_,_],_=>rfl
 have F14:=fun_mk (st:=(top 20)) L14 C14 Q14
 refine⟨PySem.W.fnOf "law" "law" (defArgs (top 20)) (defBody (top 20)) (defScope (top 20)) .none kV14 dc14 pm14 an14 cd14 ct14,fun s v=>.of_eq rfl,fun base _ _=>?_⟩
 have G0:AllG l.prog w ⟨K,cl⟩ mg base 0 fs0:=all_nil
 have G1:AllG l.prog w ⟨K,cl⟩ mg base 2 fs1:=all_snoc (x:="_law_cell") (N:=["_law_script","_law_k"]) (ps:=["_law_script","_law_k"]) (body:=ir_l_cell) (f:=a0) T G0 F0 (PySem.W.mg_of X G A0) b0 (by decide) c0 d0
 have G2:AllG l.prog w ⟨K,cl⟩ mg base 4 fs2:=all_snoc (x:="_law_number") (N:=["_law_one","_law_two","_law_k","_law_step","_law_shift"]) (ps:=["_law_one","_law_two","_law_k"]) (body:=ir_l_number) (f:=a1) T G1 F1 (PySem.W.mg_of X G A1) b1 (by decide) c1 d1
 have G3:AllG l.prog w ⟨K,cl⟩ mg base 6 fs3:=all_snoc (x:="_law_net") (N:=["_law_script","_law_cells","_law_one","_law_two","_law_pick","_law_many","_law_places","_law_ties","_law_k","_law_cell_here","_law_here","_law_there","_law_poles"]) (ps:=["_law_script","_law_cells"]) (body:=ir_l_net) (f:=a2) T G2 F2 (PySem.W.mg_of X G A2) b2 (by decide) c2 d2
 have G4:AllG l.prog w ⟨K,cl⟩ mg base 8 fs4:=all_snoc (x:="_law_ends") (N:=["_law_net_here","_law_ends_here","_law_name","_law_one","_law_other"]) (ps:=["_law_net_here"]) (body:=ir_l_ends) (f:=a3) T G3 F3 (PySem.W.mg_of X G A3) b3 (by decide) c3 d3
 have G5:AllG l.prog w ⟨K,cl⟩ mg base 10 fs5:=all_snoc (x:="put_in_order") (N:=["poles","ties","named","name","one","other"]) (ps:=["poles","ties"]) (body:=ir_put_in_order) (f:=a4) T G4 F4 (PySem.W.mg_of X G A4) b4 (by decide) c4 d4
 have G6:AllG l.prog w ⟨K,cl⟩ mg base 12 fs6:=all_snoc (x:="own_net") (N:=["net"]) (ps:=["net"]) (body:=ir_own_net) (f:=a5) T G5 F5 (PySem.W.mg_of X G A5) b5 (by decide) c5 d5
 have G7:AllG l.prog w ⟨K,cl⟩ mg base 14 fs7:=all_snoc (x:="places_of") (N:=["net","places","tie"]) (ps:=["net"]) (body:=ir_places_of) (f:=a6) T G6 F6 (PySem.W.mg_of X G A6) b6 (by decide) c6 d6
 have G8:AllG l.prog w ⟨K,cl⟩ mg base 16 fs8:=all_class (x:="ByTrees") (N:=["self","net","name","one","other"]) (ps:=["self","net"]) (body:=ir_ByTrees) (n:=1) (f:=a7) (c:=0) T G7 F7 (by rw[hcl];exact PySem.W.mg_of X G DA0) (by rw[hcl];exact⟨DM0,A7,I7,DK0⟩) b7 rfl (by decide) c7 d7
 have G9:AllG l.prog w ⟨K,cl⟩ mg base 18 fs9:=all_snoc (x:="_law_row") (N:=["_law_names","_law_cell_here","_law_row_here","_law_name"]) (ps:=["_law_names","_law_cell_here"]) (body:=ir_l_row) (f:=a8) T G8 F8 (PySem.W.mg_of X G A8) b8 (by decide) c8 d8
 have G10:AllG l.prog w ⟨K,cl⟩ mg base 20 fs10:=all_snoc (x:="firsts_by") (N:=["places","pairs","firsts","place","one","other","kept","gone"]) (ps:=["places","pairs"]) (body:=ir_firsts_by) (f:=a9) T G9 F9 (PySem.W.mg_of X G A9) b9 (by decide) c9 d9
 have G11:AllG l.prog w ⟨K,cl⟩ mg base 22 fs11:=all_meth (y:="Rule.tree_rank") (N:=["self","row","firsts"]) (ps:=["self","row"]) (body:=ir_Rule_tree_rank) (f:=a10) T G10 F10 (by rw[hcl];rfl) b10 c10 d10
 have G12:AllG l.prog w ⟨K,cl⟩ mg base 24 fs12:=all_meth (y:="ByTrees.rank") (N:=["self","row"]) (ps:=["self","row"]) (body:=ir_ByTrees_rank) (f:=a11) T G11 F11 (by rw[hcl];rfl) b11 c11 d11
 have G13:AllG l.prog w ⟨K,cl⟩ mg base 26 fs13:=all_snoc (x:="_law_whole") (N:=["_law_found"]) (ps:=["_law_found"]) (body:=ir_l_whole) (f:=a12) T G12 F12 (PySem.W.mg_of X G A12) b12 (by decide) c12 d12
 have G14:AllG l.prog w ⟨K,cl⟩ mg base 28 fs14:=all_snoc (x:="_law_joined") (N:=["_law_ends_here","_law_row_here","_law_part","_law_many","_law_name","_law_one","_law_other","_law_place"]) (ps:=["_law_ends_here","_law_row_here"]) (body:=ir_l_joined) (f:=a13) T G13 F13 (PySem.W.mg_of X G A13) b13 (by decide) c13 d13
 exact(fn_ok T G14 F14 c14 d14).imp (spL_of hφ)
end
end K22
end
section
open PySem L2 Hv
local macro_rules | `(tactic| simp only[EV,$ls,*] $[$l:location]?)=>`(tactic| simp only[evVF,srcC_s,srcC_r,srcC_e,rd_mk,rd_sh,rd_nw,rd_ow,nw_sh,nw_nw,mk_int,mk_bl,mk_str,mk_non,mk_f,mk_rl,mk_dc,evVSs,evVS,evB,evV,evVs,evBs,evR,frz,frO,rd_fr,pb_ok,pb_ite,pl_some,pg_true,pg_dec,isVar,varB,List.getElem?_cons_zero,List.getElem?_cons_succ,List.set_cons_zero,List.set_cons_succ,List.map_cons,List.map_nil,List.length_cons,List.length_nil,List.cons_append,List.nil_append,List.replicate_succ,List.replicate_zero,Nat.reduceSub,Nat.reduceAdd,Nat.reduceLeDiff,add_i,sub_i,lt_i,le_i,gt_i,ge_i,eq_i,ne_i,isn_v,ntn_v,tru_b,tru_i,tru_l,tru_t,len_l,len_t,min_i,max_i,min_t2,max_t2,list_l,list_t,int_b,imm,imms,boolV,frT,isNo,part?,Hv.stored,List.contains_nil,List.contains_cons,List.elem_nil,List.elem_cons,Nat.reduceBEq,Nat.reduceEqDiff,BEq.rfl,List.all_cons,List.all_nil,beq_self_eq_true,srcOk,mutSs,mutS,stoSs,stoS,↓reduceIte,Bool.and_true,Bool.true_and,Bool.false_and,Bool.and_false,Bool.or_false,Bool.false_or,Bool.or_true,Bool.true_or,Bool.or_self,Nat.zero_le,Bool.not_true,Bool.not_false,Bool.false_eq_true,decide_eq_true_eq,Bool.not_eq_true',decide_eq_false_iff_not,List.append_nil,List.nil_append,reduceCtorEq,$ls,*] $[$l:location]?)
section
open PySem L2 Hv
namespace K22
noncomputable def cellAt(ns:List Int)(k:Nat):Int:=ns.getD k 0
theorem cell_at(ns:List Int)(k:Nat):g_l_cell [.rl (ns.map .int),.int k]=.ok (true,.int (cellAt ns k)):=by
 unfold g_l_cell ir_l_cell
 by_cases h:k<ns.length
 ·have e:atI (List.map Val.int ns) (k:Int)=some (.int (ns[k])):=atI_nat (by simp[h])
  have h':(k:Int)<ns.length:=by omega
  simp only[EV,idx_l e,List.length_map,h',cellAt,List.getD,List.getElem?_eq_getElem h,Option.getD_some]
 ·have h':¬ (k:Int)<ns.length:=by omega
  have e:ns[k]?=none:=by simp;omega
  simp only[EV,List.length_map,h',cellAt,List.getD,e,Option.getD_none]
noncomputable def numb(one two k:Int):Int:=(if 0<one%3 then 1+one/3%10 ^ 56 else 1)*(((1+two%66)*k+one)%67)+(if 0<one%3 then two/66%10 ^ 58 else 0)
theorem small_mul(a b:Int)(h:0<=b/\b<67):mulOk a b=true:=by
 unfold mulOk;simp only[Bool.or_eq_true,Bool.and_eq_true,decide_eq_true_eq];right;omega
theorem small_mulL(a b:Int)(h:0<=a/\a<67):mulOk a b=true:=by
 unfold mulOk;simp only[Bool.or_eq_true,Bool.and_eq_true,decide_eq_true_eq];left;omega
theorem numb_eq(one two k:Int):g_l_number [.int one,.int two,.int k]=.ok (true,.int (numb one two k)):=by
 unfold g_l_number ir_l_number numb
 have m1:mulOk (1+two%66) k=true:=small_mulL _ _ (by omega)
 have m2:∀x,mulOk x (((1+two%66)*k+one)%67)=true:=fun x=>small_mul _ _ (by omega)
 simp only[EV,mod_i (show decide ((0:Int)<3)=true by decide),mod_i (show decide ((0:Int)<66)=true by decide),mod_i (show decide ((0:Int)<67)=true by decide),fdiv_i (show dvOk 3=true by decide),fdiv_i (show dvOk 66=true by decide),pow_i (show decide ((0:Int)<=56/\(56:Int)<=1000000/\(10:Int).natAbs<2 ^ 64)=true by decide),pow_i (show decide ((0:Int)<=58/\(58:Int)<=1000000/\(10:Int).natAbs<2 ^ 64)=true by decide),mul_i m1,mul_i (m2 _),mod_i (show decide ((0:Int)<10 ^ (56:Int).toNat)=true by decide),mod_i (show decide ((0:Int)<10 ^ (58:Int).toNat)=true by decide)]
 repeat' split
 all_goals first|rfl|contradiction
theorem numb_nn(one two k:Int):0<=numb one two k:=by
 unfold numb
 generalize ((1+two%66)*k+one)=z
 have hs:∃st:Int,(if 0<one%3 then 1+one/3%10 ^ 56 else 1)=st/\1<=st:=by
  refine⟨_,rfl,?_⟩;split<;>omega
 have hf:∃sh:Int,(if 0<one%3 then two/66%10 ^ 58 else 0)=sh/\0<=sh:=by
  refine⟨_,rfl,?_⟩;split<;>omega
 obtain⟨st,e1,a1⟩:=hs
 obtain⟨sh,e2,b1⟩:=hf
 rw[e1,e2]
 have p1:0<=st*(z%67):=Int.mul_nonneg (by omega) (by omega)
 omega
theorem numb_inj(one two i j:Int)(hi:0<=i/\i<67)(hj:0<=j/\j<67)(e:numb one two i=numb one two j):i=j:=by
 unfold numb at e
 have hs:∃st:Int,(if 0<one%3 then 1+one/3%10 ^ 56 else 1)=st/\1<=st:=by
  refine⟨_,rfl,?_⟩;split<;>omega
 obtain⟨st,e1,a1⟩:=hs
 rw[e1] at e
 have e2:st*(((1+two%66)*i+one)%67)=st*(((1+two%66)*j+one)%67):=by omega
 have e3:=Int.eq_of_mul_eq_mul_left (by omega:st≠0) e2
 exact times67 (by omega) hi hj e3
theorem src_r{n:Int}(h:inR n=true):srcV .range [.int n]=some ((List.range n.toNat).map fun(i:Nat)=>Val.int (0+(i:Int))):=by
 show (if inR n=true then some (rangeV 0 n.toNat) else none)=_
 rw[if_pos h];rfl
structure NetOk (p q:Int) (ts:List T3):Prop where
 ord:p<=q
 len:ts.length<=14
 up:UpT ts
 ends:∀t∈ts,t.2.1<=t.2.2
 names:∀t∈ts,0<=t.1
theorem mem_enumV':∀(i:Nat) (ms:List Int) (pre post:List Val) (x:Val),enumV i (ms.map .int)=pre++x::post->∃c:Int,x=.tup [.int ((i+pre.length:Nat):Int),.int c]
 | _,[],pre,post,x,h=>by simp[enumV] at h
 | i,d::r,[],post,x,h=>by
  rw[List.map_cons,enumV,List.nil_append] at h
  injection h with h _
  exact⟨d,by rw[<-h];rfl⟩
 | i,d::r,y::pre,post,x,h=>by
  rw[List.map_cons,enumV,List.cons_append] at h
  injection h with _ h
  obtain⟨c,e⟩:=mem_enumV' (i+1) r pre post x h
  exact⟨c,by rw[e,List.length_cons];congr 4;omega⟩
structure TiesOk (one two:Int) (ts:List T3):Prop where
 name:∀i (h:i<ts.length),(ts[i]).1=numb one two i
 ends:∀t∈ts,t.2.1<=t.2.2
theorem TiesOk.nodup{one two:Int}{ts:List T3}(h:TiesOk one two ts)(hl:ts.length<=14):(ts.map (·.1)).Nodup:=by
 unfold List.Nodup
 rw[List.pairwise_iff_getElem]
 intro i j hi hj hij
 rw[List.length_map] at hi hj
 rw[List.getElem_map,List.getElem_map,h.name i hi,h.name j hj]
 intro e
 have:=numb_inj one two i j (by omega) (by omega) e
 omega
theorem sort2(a b:Int):∃x y,PySem.W.sortI [a,b]=[x,y]/\x<=y:=by
 have hl:(PySem.W.sortI [a,b]).length=2:=(PySem.W.sortI_perm _).length_eq
 have hs:=PySem.W.sortI_rises [a,b]
 match h:PySem.W.sortI [a,b],hl,hs with
 | [x,y],_,hs=>exact⟨x,y,rfl,by simpa using hs⟩
theorem sorted_l{xs ys:List Val}(h:sortV xs=some ys):bltV .sorted [.rl xs]=.ok (true,.rl ys):=by
 show (pb (pl (sortV xs)) (fun ys:List Val=>Pr.ok ((true,Val.rl ys):FV)):Pr FV)=_
 rw[h];rfl
theorem net_eq(ns ms:List Int)(hm:ms.length<=14):∃p q ts,g_l_net [.rl (ns.map .int),.rl (ms.map .int)]=.ok (true,netV p q ts)/\NetOk p q ts/\ts.length=ms.length:=by
 have c0:g_l_cell [.rl (ns.map .int),.int 0]=.ok (true,.int (cellAt ns 0)):=cell_at ns 0
 have c1:g_l_cell [.rl (ns.map .int),.int 1]=.ok (true,.int (cellAt ns 1)):=cell_at ns 1
 have c2:g_l_cell [.rl (ns.map .int),.int 2]=.ok (true,.int (cellAt ns 2)):=cell_at ns 2
 unfold g_l_net ir_l_net
 generalize cellAt ns 0=one at *
 generalize cellAt ns 1=two at *
 generalize cellAt ns 2=pick at *
 have hmany:2<=2+pick%7/\2+pick%7<=8:=by omega
 simp only[EV,lk_l_net_l_cell,c0,c1,c2,mod_i (show decide ((0:Int)<7)=true by decide)]
 generalize emany:2+pick%7=many at *
 have hR:inR many=true:=by unfold inR;simp only[Bool.and_eq_true,decide_eq_true_eq];omega
 have hc:many.toNat<=100000:=by omega
 simp only[EV,src_r hR,envCV,List.length_map,List.length_range,hc]
 rw[compV_mapT (fun i:Nat=>Val.int (0+(i:Int))) (fun i:Nat=>.int (numb two one (0+(i:Int)))) (List.range many.toNat) (fun i hi=>by
  simp only[EV,bind_one,lk_l_net_l_number,numb_eq])]
 have hpl:∀i:Int,0<=i->i<many->atI ((List.range many.toNat).map fun i:Nat=>Val.int (numb two one (0+(i:Int)))) i=some (.int (numb two one i)):=fun i h0 h1=>by
  obtain⟨k,rfl⟩:=Int.eq_ofNat_of_zero_le h0
  refine atI_nat ?_
  rw[List.getElem?_map,List.getElem?_range (by omega)]
  simp
 generalize ePl:((List.range many.toNat).map fun i:Nat=>Val.int (numb two one (0+(i:Int))))=Pl at *
 simp only[EV,src_e]
 repeat rw[pb_pb]
 have hx:enumV 0 (ms.map Val.int)=(enumV 0 (ms.map Val.int)).map id:=(List.map_id _).symm
 rw[hx]
 have hmp:decide (0<many)=true:=by rw[decide_eq_true_eq];omega
 have hdv:dvOk many=true:=by unfold dvOk;rw[decide_eq_true_eq];omega
 have z3:3<=sizeLine:=by decide
 have z2:2<=sizeLine:=by decide
 refine use_loopT id (fun r:Pr FV=>∃p q ts,r=.ok (true,netV p q ts)/\NetOk p q ts/\ts.length=ms.length)
  (fun done env=>∃(ts:List T3) (m6:Mk) (a b c d:Option (Mk×Val)),env=[some (.sh,.rl (ns.map .int)),some (.sh,.rl (ms.map .int)),some (.sh,.int one),some (.sh,.int two),some (.sh,.int pick),some (.sh,.int many),some (m6,.rl Pl),some (.ow,.rl (ts.map tup3)),a,b,c,d,none]/\rdM m6=true/\ts.length=done.length/\TiesOk one two ts)
  ⟨[],_,none,none,none,none,rfl,by first|rfl|exact rd_mk,rfl,⟨fun i h=>by simp at h,fun _ h=>by simp at h⟩⟩ ?_ ?_
 ·rintro pre x post env hx ⟨ts,m6,a,b,c,d,rfl,h6,hl,ok⟩
  have hpl':pre.length<14:=by
   have:=congrArg List.length hx
   rw[enumV_len,List.length_map,List.length_append,List.length_cons] at this
   omega
  obtain⟨cell,rfl⟩:=mem_enumV' _ _ _ _ _ hx
  rw[Nat.zero_add]
  have i1:=hpl (cell%many) (Int.emod_nonneg _ (by omega)) (Int.emod_lt_of_pos _ (by omega))
  have i2:=hpl (cell/many%many) (Int.emod_nonneg _ (by omega)) (Int.emod_lt_of_pos _ (by omega))
  generalize numb two one (cell%many)=n1 at *
  generalize numb two one (cell/many%many)=n2 at *
  have e3:=numb_eq one two (pre.length:Int)
  have z:ts.length<sizeLine:=by rw[hl];unfold sizeLine;omega
  have tt:Val.tup [.int (numb one two (pre.length:Int)),.int (if n2<n1 then n2 else n1),.int (if n2>n1 then n2 else n1)]=tup3 (turnT (numb one two (pre.length:Int),n1,n2)):=rfl
  refine⟨_,?_,ts++[turnT (numb one two (pre.length:Int),n1,n2)],m6,some (.sh,.int pre.length),some (.sh,.int cell),some (.sh,.int n1),some (.sh,.int n2),rfl,h6,by simp[hl],⟨fun i hi=>?_,fun t ht=>?_⟩⟩
  ·simp only[EV,id,bind_2,h6,mod_i hmp,fdiv_i hdv,idx_l i1,idx_l i2,lk_l_net_l_number,e3,z3,tt,List.length_map,z,List.map_append]
  ·rw[List.getElem_append]
   split
   ·exact ok.name i (by assumption)
   ·simp only[List.length_append,List.length_cons,List.length_nil] at hi
    have:i=pre.length:=by omega
    subst this
    simp[hl,turnT]
  ·rcases List.mem_append.mp ht with ht|ht
   ·exact ok.ends t ht
   ·rw[List.mem_singleton] at ht;subst ht
    unfold turnT;dsimp only;split<;>split<;>omega
 ·rintro env ⟨ts,m6,a,b,c,d,rfl,h6,hl,ok⟩
  have hl14:ts.length<=14:=by rw[hl,enumV_len,List.length_map];exact hm
  have j0:=hpl 0 (by omega) (by omega)
  have j1:atI Pl (1-(if pick/7%8=3 then 1 else 0))=some (.int (numb two one (1-(if pick/7%8=3 then 1 else 0)))):=hpl _ (by split<;>omega) (by split<;>omega)
  obtain⟨x,y,es,hxy⟩:=sort2 (numb two one 0) (numb two one (1-(if pick/7%8=3 then 1 else 0)))
  generalize numb two one (1-(if pick/7%8=3 then 1 else 0))=n1 at *
  have esV:bltV .sorted [.rl [.int (numb two one 0),.int n1]]=.ok (true,.rl [.int x,.int y]):=by
   refine sorted_l ?_
   show (if 2<64 then some ((PySem.W.sortI [numb two one 0,n1]).map Val.int) else none)=_
   rw[if_pos (by decide),es];rfl
  have eI:∀b:Bool,bltV .int [.bl b]=.ok (true,.int (if b=true then 1 else 0)):=fun _=>rfl
  have dI:(if decide (pick/7%8=3)=true then (1:Int) else 0)=if pick/7%8=3 then 1 else 0:=by
   by_cases c:pick/7%8=3<;>simp[c]
  refine⟨x,y,sort3 ts,?_,⟨hxy,?_,?_,?_,?_⟩,?_⟩
  ·simp only[EV,h6,idx_l j0,fdiv_i (show dvOk 7=true by decide),mod_i (show decide ((0:Int)<8)=true by decide),eI,dI,idx_l j1,z2,esV,idx_l atI0,idx_l atI1,sorted_3 (show ts.length<64 by omega)]
   rfl
  ·rw[(sort3_perm ts).length_eq];exact hl14
  ·exact sort3_up ts (ok.nodup hl14)
  ·exact fun t ht=>ok.ends t ((sort3_perm ts).mem_iff.mp ht)
  ·intro t ht
   obtain⟨i,hi,rfl⟩:=List.getElem_of_mem ((sort3_perm ts).mem_iff.mp ht)
   rw[ok.name i hi];exact numb_nn _ _ _
  ·rw[(sort3_perm ts).length_eq,hl,enumV_len,List.length_map]
end K22
end
section
open PySem L2 Hv
namespace K22
noncomputable def endsT(t:T3):Int×Int:=(t.2.1,t.2.2)
noncomputable def allPl(p q:Int)(ts:List T3):List Int:=p::q::ts.flatMap fun t=>[t.2.1,t.2.2]
noncomputable def plc(p q:Int)(ts:List T3):List Int:=setI (allPl p q ts)
theorem allPl_len(p q:Int)(ts:List T3):(allPl p q ts).length=2+2*ts.length:=by
 unfold allPl
 induction ts with
 | nil=>rfl
 | cons t r ih=>simp only[List.flatMap_cons,List.length_cons,List.length_append,List.length_nil] at *;omega
theorem len_newK:∀(ns ks:List Int),(newK ks ns).length<=ks.length+ns.length
 | [],ks=>Nat.le_refl _
 | k::r,ks=>by
  rw[newK,List.length_cons]
  have:=len_newK r (addK ks k)
  have:=addK_len ks k
  omega
theorem plc_len{p q:Int}{ts:List T3}(h:ts.length<=14):(plc p q ts).length<64:=by
 unfold plc setI
 rw[(PySem.W.sortI_perm _).length_eq]
 have:=len_newK (allPl p q ts) []
 rw[allPl_len] at this
 simp only[List.length_nil] at this
 omega
theorem mem_plc{p q x:Int}{ts:List T3}:x∈plc p q ts↔x=p\/x=q\/∃t∈ts,x=t.2.1\/x=t.2.2:=by
 unfold plc
 rw[mem_setI]
 unfold allPl
 simp only[List.mem_cons,List.mem_flatMap,List.not_mem_nil,or_false]
theorem places_eq{p q:Int}{ts:List T3}(h:ts.length<=14):g_places_of [netV p q ts]=.ok (true,.rl ((plc p q ts).map .int)):=by
 unfold g_places_of ir_places_of netV
 simp only[EV,idx_t atI0,idx_t atI1,src_l]
 rw[pb_pb]
 refine use_loopT tup3 (fun r:Pr FV=>r=.ok (true,.rl ((plc p q ts).map .int)))
  (fun done env=>∃a,env=[some (.sh,netV p q ts),some (.ow,.rl ((allPl p q done).map .int)),a])
  ⟨none,rfl⟩ ?_ ?_
 ·rintro pre t post env hx ⟨a,rfl⟩
  refine⟨[some (.sh,netV p q ts),some (.ow,.rl ((allPl p q (pre++[t])).map .int)),some (.sh,tup3 t)],?_,_,rfl⟩
  have hpl:pre.length<14:=by
   have:=congrArg List.length hx
   rw[List.length_append,List.length_cons] at this
   omega
  have z:((allPl p q pre).map Val.int).length+2<=sizeLine:=by rw[List.length_map,allPl_len];unfold sizeLine;omega
  have ea:(allPl p q (pre++[t])).map Val.int=(allPl p q pre).map Val.int++[.int t.2.1,.int t.2.2]:=by
   unfold allPl;simp
  simp only[EV,bind_one,slc_t3,z,ea]
 ·rintro env ⟨a,rfl⟩
  have hl:(allPl p q ts).length<64:=by rw[allPl_len];omega
  simp only[EV,ints_map,hl]
  rfl
end K22
end
section
open PySem L2 Hv
namespace K22
noncomputable def pairV(e:Int×Int):Val:=.tup [.int e.1,.int e.2]
theorem bind_p2{i j:Nat}{e:Int×Int}{env:VEnv}:bindV (.tup [i,j]) (pairV e) env=some ((env.set i (some (.sh,.int e.1))).set j (some (.sh,.int e.2))):=rfl
theorem firsts_eq(ps:List Int)(hn:ps.Nodup)(hl:ps.length<64)(es:List (Int×Int))(he:∀e∈es,e.1∈ps/\e.2∈ps):∃f φ,g_firsts_by [.rl (ps.map .int),.rl (es.map pairV)]=.ok (f,dcI ps fun x=>.int (φ x))/\Lab ps es φ:=by
 unfold g_firsts_by ir_firsts_by
 simp only[EV,src_l]
 rw[pb_pb]
 have hz:∀pre:List Int,pre.length<=ps.length->(pre.map (Sum.inl:Int->Key)).length<sizeLine:=fun pre h=>by rw[List.length_map];unfold sizeLine;omega
 refine use_loopT Val.int (fun r:Pr FV=>∃f φ,r=.ok (f,dcI ps fun x=>.int (φ x))/\Lab ps es φ)
  (fun done env=>∃a,env=[some (.sh,.rl (ps.map .int)),some (.sh,.rl (es.map pairV)),some (.ow,dcI done fun x=>.int x),a,none,none,none,none])
  ⟨none,rfl⟩ ?_ ?_
 ·rintro pre x post env hx ⟨a,rfl⟩
  have hxp:x∉pre:=by
   rw[hx,List.nodup_append] at hn
   exact fun h=>hn.2.2 x h x (by simp) rfl
  refine⟨[some (.sh,.rl (ps.map .int)),some (.sh,.rl (es.map pairV)),some (.ow,dcI (pre++[x]) fun x=>.int x),some (.sh,.int x),none,none,none,none],?_,_,rfl⟩
  simp only[EV,bind_one,key_i,hz pre (by rw[hx];simp),put_new hxp]
  rw[dcI_congr (g':=fun x=>Val.int x)]
  intro y _
  unfold updI
  split
  ·rename_i e;rw[e]
  ·rfl
 ·rintro env ⟨a,rfl⟩
  simp only[EV,src_l]
  rw[pb_pb]
  refine use_loopT pairV (fun r:Pr FV=>∃f φ,r=.ok (f,dcI ps fun x=>.int (φ x))/\Lab ps es φ)
   (fun done env=>∃(φ:Int->Int) (a b c d e:Option (Mk×Val)),env=[some (.sh,.rl (ps.map .int)),some (.sh,.rl (es.map pairV)),some (.ow,dcI ps fun x=>.int (φ x)),a,b,c,d,e]/\Lab ps done φ)
   ⟨id,_,_,_,_,_,rfl,Lab.start ps⟩ ?_ ?_
  ·rintro pre e post env hx ⟨φ,a,b,c,d,f,rfl,lab⟩
   obtain⟨h1,h2⟩:=he e (by rw[hx];simp)
   simp only[EV,bind_p2,idx_dc h1,idx_dc h2,src_l]
   have hk:∃kept gone:Int,(if φ e.2 < φ e.1 then φ e.2 else φ e.1)=kept/\(if φ e.2 > φ e.1 then φ e.2 else φ e.1)=gone/\((kept = φ e.1/\gone = φ e.2)\/(kept = φ e.2/\gone = φ e.1)):=by
    refine⟨_,_,rfl,rfl,?_⟩
    split<;>split<;>omega
   obtain⟨kept,gone,ek,eg,hk⟩:=hk
   rw[ek,eg]
   refine use_loopT Val.int (fun r:Pr VFl=>∃env',r=.ok (.nx env')/\∃(φ:Int->Int) (a b c d f:Option (Mk×Val)),env'=[some (.sh,.rl (ps.map .int)),some (.sh,.rl (es.map pairV)),some (.ow,dcI ps fun x=>.int (φ x)),a,b,c,d,f]/\Lab ps (pre++[e]) φ)
    (fun done env=>∃a,env=[some (.sh,.rl (ps.map .int)),some (.sh,.rl (es.map pairV)),some (.ow,dcI ps fun x=>.int (if x∈done /\ φ x=gone then kept else φ x)),a,some (.sh,.int e.1),some (.sh,.int e.2),some (.sh,.int kept),some (.sh,.int gone)])
    ⟨a,by simp⟩ ?_ ?_
   ·rintro done x post env hy ⟨a,rfl⟩
    have hxp:x∉done:=by
     rw[hy,List.nodup_append] at hn
     exact fun h=>hn.2.2 x h x (by simp) rfl
    have hxs:x∈ps:=by rw[hy];simp
    refine⟨_,?_,some (.sh,.int x),rfl⟩
    simp only[EV,bind_one,idx_dc hxs,key_i,hz ps (Nat.le_refl _),put_old hxs,hxp,false_and,if_false]
    by_cases hg:φ x=gone
    ·simp only[hg,↓reduceIte]
     rw[dcI_congr]
     intro y _
     unfold updI
     by_cases e:y=x
     ·subst e;simp[hg]
     ·simp[e]
    ·simp only[hg,↓reduceIte]
     rw[dcI_congr]
     intro y _
     by_cases e:y=x
     ·subst e;simp[hg]
     ·simp[e]
   ·rintro env ⟨a,rfl⟩
    refine⟨_,rfl,(fun x=>if φ x=gone then kept else φ x),a,some (.sh,.int e.1),some (.sh,.int e.2),some (.sh,.int kept),some (.sh,.int gone),?_,lab.step h1 h2 kept gone hk⟩
    rw[dcI_congr]
    intro y hy
    simp[hy]
  ·rintro env ⟨φ,a,b,c,d,e,rfl,lab⟩
   simp only[EV,pb_ok]
   exact⟨_,φ,rfl,lab⟩
end K22
end
section
open PySem L2 Hv
namespace K22
theorem order_eq{p q:Int}{us:List T3}(hl:us.length<=16):g_put_in_order [.tup [.int p,.int q],.rl (us.map tup3)]=.ok (true,netV (if q<p then q else p) (if q>p then q else p) (sort3 (us.map turnT))):=by
 unfold g_put_in_order ir_put_in_order
 have z0:0<=sizeLine:=by decide
 have z2:2<=sizeLine:=by decide
 have z3:3<=sizeLine:=by decide
 simp only[EV,src_l]
 rw[pb_pb]
 refine use_loopT tup3 (fun r:Pr FV=>r=.ok (true,netV (if q<p then q else p) (if q>p then q else p) (sort3 (us.map turnT))))
  (fun done env=>∃a b c,env=[some (.sh,.tup [.int p,.int q]),some (.sh,.rl (us.map tup3)),some (.ow,.rl ((done.map turnT).map tup3)),a,b,c])
  ⟨none,none,none,rfl⟩ ?_ ?_
 ·rintro pre t post env hx ⟨a,b,c,rfl⟩
  have hpl:pre.length<16:=by
   have:=congrArg List.length hx
   rw[List.length_append,List.length_cons] at this
   omega
  have z:((pre.map turnT).map tup3).length<sizeLine:=by rw[List.length_map,List.length_map];unfold sizeLine;omega
  refine⟨[some (.sh,.tup [.int p,.int q]),some (.sh,.rl (us.map tup3)),some (.ow,.rl (((pre++[t]).map turnT).map tup3)),some (.sh,.int t.1),some (.sh,.int t.2.1),some (.sh,.int t.2.2)],?_,_,_,_,rfl⟩
  have ea:((pre++[t]).map turnT).map tup3=(pre.map turnT).map tup3++[tup3 (turnT t)]:=by simp
  simp only[EV,bind_t3,z3,z,ea]
  rfl
 ·rintro env ⟨a,b,c,rfl⟩
  simp only[EV,idx_t atI0,idx_t atI1,z2,sorted_3 (show (us.map turnT).length<64 by rw[List.length_map];omega)]
  rfl
theorem ownnet_eq{p q:Int}{us:List T3}(hl:us.length<=16):g_own_net [netV p q us]=.ok (true,netV (if q<p then q else p) (if q>p then q else p) (sort3 (us.map turnT))):=by
 have e:=order_eq (p:=p) (q:=q) hl
 unfold g_own_net ir_own_net
 unfold netV at e |-
 simp only[EV,lk_own_net_put_in_order,idx_t atI0,idx_t atI1,e]
end K22
end
section
open PySem L2 Hv
namespace K22
noncomputable def nameV(t:T3):Val:=.int t.1
theorem turn_id{t:T3}(h:t.2.1<=t.2.2):turnT t=t:=by
 obtain⟨a,b,c⟩:=t
 unfold turnT
 dsimp only at h |-
 rw[Prod.mk.injEq,Prod.mk.injEq]
 refine⟨rfl,?_,?_⟩<;>split<;>omega
theorem insT_lt{x:T3}:∀{l:List T3},(∀y∈l,x.1<y.1)->insT x l=x::l
 | [],_=>rfl
 | y::r,h=>by
  rw[insT]
  have lx:HT.lexLt (l3 y) (l3 x)=decide (y.1<x.1):=by
   show HT.lexLt (y.1::_) (x.1::_)=_
   have:=h y List.mem_cons_self
   rw[HT.lexLt_cons,if_neg (by omega)]
  have:=h y List.mem_cons_self
  rw[lx,if_neg (by simp;omega)]
theorem sort3_id:∀{l:List T3},UpT l->sort3 l=l
 | [],_=>rfl
 | x::r,h=>by
  unfold UpT at h
  rw[List.pairwise_cons] at h
  rw[sort3,sort3_id h.2,insT_lt h.1]
theorem own_eq{p q:Int}{ts:List T3}(ok:NetOk p q ts):g_own_net [netV p q ts]=.ok (true,netV p q ts):=by
 have e:=ownnet_eq (p:=p) (q:=q) (us:=ts) (Nat.le_trans ok.len (by decide))
 have em:ts.map turnT=ts:=by
  rw[List.map_congr_left fun t ht=>turn_id (ok.ends t ht)];exact List.map_id _
 have ep:(if q<p then q else p)=p:=by have:=ok.ord;split<;>omega
 have eq:(if q>p then q else p)=q:=by have:=ok.ord;split<;>omega
 rw[em,sort3_id ok.up,ep,eq] at e
 exact e
theorem t3_map:∀ts:List T3,mapO t3? (ts.map tup3)=some ts
 | []=>rfl
 | t::r=>by rw[List.map_cons,mapO,show t3? (tup3 t)=some t from rfl,Option.bind_some,t3_map r];rfl
noncomputable def ruleV(p q:Int)(ts:List T3):Val:=.ob 0 ["net","places","ends"] [netV p q ts,.rl ((plc p q ts).map .int),.dc ((endsKV p q ts).map (·.1)) ((endsKV p q ts).map (·.2))]
theorem rule_eq{p q:Int}{ts:List T3}(ok:NetOk p q ts):g_ByTrees [netV p q ts]=.ok (true,ruleV p q ts):=by
 have e1:=own_eq ok
 have e2:=places_eq (p:=p) (q:=q) ok.len
 unfold g_ByTrees ruleG
 dsimp only
 rw[lk_ByTrees_own_net,e1]
 unfold netV at e2 |-
 dsimp only
 rw[t3_map,pl_some,pb_ok,lk_ByTrees_places_of]
 unfold pg
 rw[if_pos (decide_eq_true (by have:=ok.len;omega)),e2]
 rfl
noncomputable def nms(ts:List T3):List Int:=-1::ts.map (·.1)
theorem add_ll{a b:List Val}(h:a.length+b.length<=sizeLine):bopV .add (.rl a) (.rl b)=.ok (imms (a++b),.rl (a++b)):=by
 show pg _ _=_
 unfold pg
 rw[if_pos (decide_eq_true h)]
theorem fld_net{p q:Int}{ts:List T3}:fldH 1 [] (ruleV p q ts) "net" = some (netV p q ts):=by
 unfold ruleV fldH;dsimp only;rw[if_pos (by decide)];rfl
theorem mth_any{p q:Int}{ts:List T3}{m:Str}{j:Nat}(h:m ≠ "net" /\ m ≠ "places" /\ m ≠ "ends"):mthH [] (ruleV p q ts) m [(0,j)]=some j:=by
 unfold ruleV mthH;dsimp only
 have e:∀vs:List Val,vs.length=3->((["net","places","ends"]:List Str).zip vs).lookup m=none:=fun vs hv=>by
  match vs,hv with
  | [a,b,c],_ =>
   rw[List.zip_cons_cons,List.lookup_cons,beq_false_of_ne h.1,List.zip_cons_cons,List.lookup_cons,beq_false_of_ne h.2.1,List.zip_cons_cons,List.lookup_cons,beq_false_of_ne h.2.2]
   rfl
 rw[e _ rfl]
 rfl
theorem imms_map(l:List Int):imms (l.map Val.int)=true:=map_int_imm l
theorem nms_sort{p q:Int}{ts:List T3}(ok:NetOk p q ts):PySem.W.sortI (nms ts)=nms ts:=by
 refine(PySem.W.eq_sortI (List.Perm.refl _) ?_).symm
 unfold nms
 rw[List.pairwise_cons]
 refine⟨fun x hx=>?_,?_⟩
 ·obtain⟨t,ht,rfl⟩:=List.mem_map.mp hx
  have:=ok.names t ht;omega
 ·rw[List.pairwise_map]
  have:=ok.up
  unfold UpT at this
  exact this.imp fun h=>by omega
theorem nms_nodup{p q:Int}{ts:List T3}(ok:NetOk p q ts):(nms ts).Nodup:=by
 unfold nms
 rw[List.nodup_cons]
 refine⟨fun h=>?_,?_⟩
 ·obtain⟨t,ht,e⟩:=List.mem_map.mp h
  have:=ok.names t ht;omega
 ·have:=ok.up
  unfold UpT at this
  rw[List.Nodup,List.pairwise_map]
  exact this.imp fun h=>by omega
theorem tyi(t:Int):bltV (.isin "int") [.int t]=.ok (true,.bl true):=isin_true (t:="int") rfl (by decide)
theorem tyib(t:Int):bltV (.isin "bool") [.int t]=.ok (true,.bl false):=isin_false (t:="int") rfl (by decide)
theorem ne_ints(l:List Int):cop [] .ne (.rl (l.map .int)) (.rl (l.map .int))=some false:=by
 refine ne_self (toD_rl Val.int PyData.int l fun _ _=>rfl) ?_
 rw[PyData.canLay0]
 exact canLay_all _ _ fun t _=>by rw[PyData.canLay0]
theorem whole_eq(n:Int):g_l_whole [.int n]=.ok (true,.bl true):=by
 unfold g_l_whole ir_l_whole
 simp only[EV,tyi,tyib]
noncomputable def rowI:List Int->Int->List Int
 | [],_=>[]
 | x::r,c=>if c%2=1 then x::rowI r (c/2) else rowI r (c/2)
theorem rowI_sub:∀(ns:List Int) (c:Int),(rowI ns c).Sublist ns
 | [],_=>.slnil
 | x::r,c=>by
  rw[rowI]
  split
  ·exact(rowI_sub r _).cons_cons x
  ·exact(rowI_sub r _).cons x
theorem row_eq(ns:List Int)(c:Int)(h:ns.length<64):g_l_row [.rl (ns.map .int),.int c]=.ok (true,.rl ((rowI ns c).map .int)):=by
 unfold g_l_row ir_l_row
 simp only[EV,src_l,show 0<=sizeLine by decide]
 repeat rw[pb_pb]
 refine use_loopT Val.int (fun r:Pr FV=>r=.ok (true,.rl ((rowI ns c).map .int)))
  (fun done env=>∃(l:List Int) (c':Int) (a:Option (Mk×Val)),env=[some (.sh,.rl (ns.map .int)),some (.sh,.int c'),some (.ow,.rl (l.map .int)),a]/\rowI ns c=l++rowI (ns.drop done.length) c'/\l.length<=done.length)
  ⟨[],c,none,rfl,rfl,Nat.le_refl _⟩ ?_ ?_
 ·rintro pre x post env hx ⟨l,c',a,rfl,hl,hle⟩
  have hd:ns.drop pre.length=x::post:=by rw[hx];simp
  have hd2:ns.drop (pre++[x]).length=post:=by rw[hx];simp
  have hpl:pre.length<64:=by
   have:=congrArg List.length hx
   rw[List.length_append,List.length_cons] at this
   omega
  have z:(l.map Val.int).length<sizeLine:=by rw[List.length_map];unfold sizeLine;omega
  rw[hd,rowI] at hl
  simp only[EV,bind_one,mod_i (show decide ((0:Int)<2)=true by decide),fdiv_i (show dvOk 2=true by decide)]
  by_cases e:c'%2=1
  ·rw[if_pos e] at hl
   refine⟨_,?_,l++[x],c'/2,some (.sh,.int x),rfl,by rw[hd2,hl];simp,by simp;omega⟩
   simp only[EV,e,decide_true,z,List.map_append,fdiv_i (show dvOk 2=true by decide)]
  ·rw[if_neg e] at hl
   refine⟨_,?_,l,c'/2,some (.sh,.int x),rfl,by rw[hd2,hl],by simp;omega⟩
   simp only[EV,e,decide_false,fdiv_i (show dvOk 2=true by decide)]
 ·rintro env ⟨l,c',a,rfl,hl,hle⟩
  rw[List.drop_length,rowI,List.append_nil] at hl
  simp only[EV,hl,imms_map]
theorem spo_bin{o:Bop}{a b:IE}{p:Pat}{k:Ik}{body:ISs}:spoF (.bin o a b) p k body=none:=by
 first
  | (unfold spoF
     split
     ·exact absurd ‹IE.bin o a b=IE.var _› (by intro z;cases z)
     ·rfl)
  | exact Eq.trans rfl rfl
end K22
end
section
open PySem L2 Hv
namespace K22
noncomputable def endF(p q:Int)(ts:List T3)(x:Int):Int×Int:=match ts.find? (fun t=>decide (t.1=x)) with
 | some t=>(t.2.1,t.2.2)
 | none=>(p,q)
theorem find_t{t:T3}:∀{ts:List T3},(ts.map (·.1)).Nodup->t∈ts->ts.find? (fun u=>decide (u.1=t.1))=some t
 | u::r,hn,ht=>by
  rw[List.map_cons,List.nodup_cons] at hn
  rw[List.find?_cons]
  by_cases e:u.1=t.1
  ·rw[decide_eq_true e]
   rcases List.mem_cons.mp ht with rfl|ht
   ·rfl
   ·exact absurd (e▸List.mem_map_of_mem (f:=(·.1)) ht) hn.1
  ·rw[decide_eq_false e]
   rcases List.mem_cons.mp ht with rfl|ht
   ·exact absurd rfl e
   ·exact find_t hn.2 ht
theorem nd_names{p q:Int}{ts:List T3}(ok:NetOk p q ts):(ts.map (·.1)).Nodup:=(List.nodup_cons.mp (nms_nodup ok)).2
theorem endF_t{p q:Int}{ts:List T3}(ok:NetOk p q ts){t:T3}(ht:t∈ts):endF p q ts t.1=(t.2.1,t.2.2):=by
 unfold endF;rw[find_t (nd_names ok) ht]
theorem endF_m{p q:Int}{ts:List T3}(ok:NetOk p q ts):endF p q ts (-1)=(p,q):=by
 unfold endF
 rw[List.find?_eq_none.mpr fun t ht=>by have:=ok.names t ht;simp;omega]
theorem endF_in{p q:Int}{ts:List T3}(ok:NetOk p q ts){x:Int}(hx:x∈nms ts):(endF p q ts x).1∈plc p q ts/\(endF p q ts x).2∈plc p q ts:=by
 unfold nms at hx
 rcases List.mem_cons.mp hx with rfl|hx
 ·rw[endF_m ok];exact⟨mem_plc.mpr (.inl rfl),mem_plc.mpr (.inr (.inl rfl))⟩
 ·obtain⟨t,ht,rfl⟩:=List.mem_map.mp hx
  rw[endF_t ok ht]
  exact⟨mem_plc.mpr (.inr (.inr ⟨t,ht,.inl rfl⟩)),mem_plc.mpr (.inr (.inr ⟨t,ht,.inr rfl⟩))⟩
theorem ends_go(g:Int->Val):∀(us:List T3) (ks:List Int),(∀u∈us,u.1∉ks)->(us.map (·.1)).Nodup->(∀u∈us,g u.1=.tup [.int u.2.1,.int u.2.2]) ->
  us.foldl endKV (ks.map fun x=>((Sum.inl x:Key),g x))=(ks++us.map (·.1)).map fun x=>((Sum.inl x:Key),g x)
 | [],ks,_,_,_=>by simp
 | u::r,ks,h1,h2,h3=>by
  rw[List.map_cons,List.nodup_cons] at h2
  have e:endKV (ks.map fun x=>((Sum.inl x:Key),g x)) u=(ks++[u.1]).map fun x=>((Sum.inl x:Key),g x):=by
   unfold endKV putV
   rw[any_dc,if_neg (by simpa using h1 u List.mem_cons_self),List.map_append,List.map_cons,List.map_nil,h3 u List.mem_cons_self]
  rw[List.foldl_cons,e,ends_go g r (ks++[u.1]) (fun v hv z=>?_) h2.2 fun v hv=>h3 v (List.mem_cons_of_mem _ hv)]
  ·simp
  ·rcases List.mem_append.mp z with z|z
   ·exact h1 v (List.mem_cons_of_mem _ hv) z
   ·rw[List.mem_singleton] at z
    exact h2.1 (z▸List.mem_map_of_mem (f:=(·.1)) hv)
noncomputable def endG(p q:Int)(ts:List T3)(x:Int):Val:=pairV (endF p q ts x)
noncomputable def endV(p q:Int)(ts:List T3):Val:=dcI (nms ts) (endG p q ts)
theorem ends_dc{p q:Int}{ts:List T3}(ok:NetOk p q ts):Val.dc ((endsKV p q ts).map (·.1)) ((endsKV p q ts).map (·.2))=endV p q ts:=by
 have e:endsKV p q ts=(nms ts).map fun x=>((Sum.inl x:Key),endG p q ts x):=by
  have h:=ends_go (endG p q ts) ts [-1] (fun u hu z=>by
   rw[List.mem_singleton] at z
   have:=ok.names u hu;omega) (nd_names ok) fun u hu=>by unfold endG;rw[endF_t ok hu];rfl
  unfold endsKV nms
  rw[List.map_cons,List.map_nil] at h
  have e1:endG p q ts (-1)=.tup [.int p,.int q]:=by unfold endG;rw[endF_m ok];rfl
  rw[e1] at h
  exact h
 rw[e,List.map_map,List.map_map];rfl
theorem fld_places{p q:Int}{ts:List T3}:fldH 1 [] (ruleV p q ts) "places" = some (.rl ((plc p q ts).map .int)):=by
 unfold ruleV fldH;dsimp only;rw[if_pos (by decide)];rfl
theorem fld_ends{p q:Int}{ts:List T3}(ok:NetOk p q ts):fldH 1 [] (ruleV p q ts) "ends" = some (endV p q ts):=by
 rw[<-ends_dc ok];unfold ruleV fldH;dsimp only;rw[if_pos (by decide)];rfl
theorem pair_imm(e:Int×Int):imm (pairV e)=true:=rfl
theorem endG_imm(p q:Int)(ts:List T3)(x:Int):imm (endG p q ts x)=true:=rfl
theorem idx_g0{p q:Int}{ts:List T3}{x:Int}:idxH [] (endG p q ts x) (.int 0)=some (.int (endF p q ts x).1):=rfl
theorem idx_g1{p q:Int}{ts:List T3}{x:Int}:idxH [] (endG p q ts x) (.int 1)=some (.int (endF p q ts x).2):=rfl
theorem idx_end{p q:Int}{ts:List T3}{x:Int}(h:x∈nms ts):idxH [] (endV p q ts) (.int x)=some (endG p q ts x):=idx_dc h
theorem imms_g(p q:Int)(ts:List T3):∀l:List Int,imms (l.map (endG p q ts))=true
 | []=>rfl
 | x::r=>by rw[List.map_cons,imms,imms_g p q ts r];rfl
theorem nms_len{p q:Int}{ts:List T3}(ok:NetOk p q ts):(nms ts).length<=15:=by
 have:=ok.len;unfold nms;simp;omega
theorem law_ends_eq{p q:Int}{ts:List T3}(ok:NetOk p q ts):g_l_ends [netV p q ts]=.ok (true,endV p q ts):=by
 have hl:=ok.len
 unfold g_l_ends ir_l_ends netV
 have em:endG p q ts (-1)=.tup [.int p,.int q]:=by unfold endG;rw[endF_m ok];rfl
 simp only[EV,idx_t atI0,idx_t atI1,key_i,src_l,show (-(1:Int)) = -1 from rfl]
 repeat rw[pb_pb]
 refine use_loopT tup3 (fun r:Pr FV=>r=.ok (true,endV p q ts))
  (fun done env=>∃a b c,env=[some (.sh,.tup [.tup [.int p,.int q],.rl (ts.map tup3)]),some (.ow,dcI (nms done) (endG p q ts)),a,b,c])
  ⟨none,none,none,by unfold nms dcI;rw[List.map_nil,List.map_cons,List.map_cons,em];rfl⟩ ?_ ?_
 ·rintro pre t post env hx ⟨a,b,c,rfl⟩
  have hp:pre.length<=14:=by
   have:=congrArg List.length hx
   rw[List.length_append,List.length_cons] at this;omega
  have hnew:t.1∉nms pre:=fun z=>by
   unfold nms at z
   have hn:=nd_names ok
   rw[hx,List.map_append,List.map_cons,List.nodup_append] at hn
   rcases List.mem_cons.mp z with z|z
   ·have:=ok.names t (by rw[hx];simp);omega
   ·exact hn.2.2 t.1 z t.1 List.mem_cons_self rfl
  have zz:((nms pre).map (Sum.inl:Int->Key)).length<sizeLine:=by rw[List.length_map];unfold nms;simp;unfold sizeLine;omega
  have z2:2<=sizeLine:=by decide
  have bt:∀env:VEnv,bindV (.tup [2,3,4]) (tup3 t) env=some (((env.set 2 (some (.sh,.int t.1))).set 3 (some (.sh,.int t.2.1))).set 4 (some (.sh,.int t.2.2))):=fun _=>rfl
  refine⟨_,?_,some (.sh,.int t.1),some (.sh,.int t.2.1),some (.sh,.int t.2.2),rfl⟩
  simp only[EV,bt,key_i,zz,z2,put_new hnew]
  have eD:dcI (nms pre++[t.1]) (updI (endG p q ts) t.1 (.tup [.int t.2.1,.int t.2.2]))=dcI (nms (pre++[t])) (endG p q ts):=by
   rw[show nms (pre++[t])=nms pre++[t.1] by unfold nms;simp]
   refine dcI_congr fun y hy=>?_
   unfold updI
   split
   ·rename_i e;rw[e];unfold endG;rw[endF_t ok (by rw[hx];simp)];rfl
   ·rfl
  rw[eD]
 ·rintro env ⟨a,b,c,rfl⟩
  simp only[EV,imms_g]
  rfl
theorem mrank_eq{p q:Int}{ts:List T3}(ok:NetOk p q ts){P:List Int}(hP:∀x∈P,x∈nms ts)(hl:P.length<=15):∃φ,g_Rule_tree_rank [ruleV p q ts,.rl (P.map .int)]=.ok (true,.int (rk φ (plc p q ts)))/\Lab (plc p q ts) (P.map (endF p q ts)) φ:=by
 have hpl:=plc_len (p:=p) (q:=q) ok.len
 have hpn:(plc p q ts).Nodup:=nodup_setI _
 obtain⟨f,φ,ef,lab⟩:=firsts_eq (plc p q ts) hpn hpl (P.map (endF p q ts)) (fun e he=>by
  obtain⟨x,hx,rfl⟩:=List.mem_map.mp he
  exact endF_in ok (hP x hx))
 refine⟨φ,?_,lab⟩
 rw[List.map_map] at ef
 unfold g_Rule_tree_rank ir_Rule_tree_rank
 have hc:P.length<=100000:=by omega
 have hc2:(plc p q ts).length<=100000:=by omega
 simp only[EV,fld_places,fld_ends ok,src_l,envCV,List.length_map,hc]
 rw[compV_mapT Val.int (endG p q ts) P (fun x hx=>by
  simp only[EV,bind_one,fld_ends ok,idx_end (hP x hx),endG_imm])]
 have ef':g_firsts_by [.rl ((plc p q ts).map .int),.rl (P.map (endG p q ts))]=.ok (f,dcI (plc p q ts) fun x=>.int (φ x)):=ef
 simp only[EV,lk_Rule_tree_rank_firsts_by,ef',fld_places,src_l,envCV,List.length_map,hc2]
 rw[compV_filT Val.int Val.int (fun x=>!decide (φ x=x)) (plc p q ts) (fun x hx=>by
  have hi:=idx_dc (g:=fun x=>Val.int (φ x)) hx
  simp only[EV,bind_one,hi]
  by_cases c:φ x=x
  ·simp[c]
  ·simp[c])]
 simp only[EV,List.length_map]
 rfl
theorem joined_eq{p q:Int}{ts:List T3}(ok:NetOk p q ts){P:List Int}(hP:∀x∈P,x∈nms ts)(hl:P.length<=15):∃(n:Nat) (ψ:Int->Int) (ks:List Int),g_l_joined [endV p q ts,.rl (P.map .int)]=.ok (true,.int n)/\Mks (plc p q ts) ks (P.map (endF p q ts)) ψ n:=by
 have hpn:(plc p q ts).Nodup:=nodup_setI _
 unfold g_l_joined ir_l_joined
 simp only[EV,src_l]
 repeat rw[pb_pb]
 refine use_loopT Val.int (fun r:Pr FV=>∃(n:Nat) (ψ:Int->Int) (ks:List Int),r=.ok (true,.int n)/\Mks (plc p q ts) ks (P.map (endF p q ts)) ψ n)
  (fun done env=>∃(n:Nat) (ψ:Int->Int) (ks:List Int) (a b c d:Option (Mk×Val)),env=[some (.sh,endV p q ts),some (.sh,.rl (P.map .int)),some (.ow,dcI ks fun x=>.int (ψ x)),some (.sh,.int n),a,b,c,d]/\Mks (plc p q ts) ks (done.map (endF p q ts)) ψ n)
  ⟨0,id,[],none,none,none,none,rfl,Mks.start hpn⟩ ?_ ?_
 ·rintro pre x post env hx ⟨n,ψ,ks,a,b,c,d,rfl,m⟩
  have hxm:x∈P:=by rw[hx];simp
  have hxn:=hP x hxm
  obtain⟨h1,h2⟩:=endF_in ok hxn
  have hpre:pre.length<=14:=by
   have:=congrArg List.length hx
   rw[List.length_append,List.length_cons] at this;omega
  have hks:ks.length<=28:=by have:=m.len;rw[List.length_map] at this;omega
  have gd:∀y:Int,((if y∈ks then some (Val.int (ψ y)) else none).getD (.int y))=.int (ψ y):=fun y=>by
   by_cases h:y∈ks
   ·rw[if_pos h];rfl
   ·rw[if_neg h,m.off y h];rfl
  have isd:isDc [] (dcI ks fun x=>Val.int (ψ x))=some ():=rfl
  simp only[EV,bind_one,idx_end hxn,idx_g0,idx_g1,endG_imm,isd,key_i,get_dc,gd]
  have est:(pre++[x]).map (endF p q ts)=pre.map (endF p q ts)++[((endF p q ts x).1,(endF p q ts x).2)]:=by rw[List.map_append];rfl
  rw[est]
  by_cases c:ψ (endF p q ts x).1 = ψ (endF p q ts x).2
  ·refine⟨[some (.sh,endV p q ts),some (.sh,.rl (P.map .int)),some (.ow,dcI ks fun x=>.int (ψ x)),some (.sh,.int n),some (.sh,.int x),some (.sh,.int (ψ (endF p q ts x).1)),some (.sh,.int (ψ (endF p q ts x).2)),d],?_,n,ψ,ks,_,_,_,_,rfl,m.stay h1 h2 c⟩
   simp only[EV,c,not_true,decide_false]
  ·have m2:=m.join h1 h2 c
   generalize hks':addK (addK ks (endF p q ts x).1) (endF p q ts x).2=ks' at m2
   have zz:∀l:List Int,l.length<=40->(l.map (Sum.inl:Int->Key)).length<sizeLine:=fun l h=>by rw[List.length_map];unfold sizeLine;omega
   have l1:(addK ks (endF p q ts x).1).length<=40:=by have:=len_addK ks (endF p q ts x).1;omega
   have l2:ks'.length<=40:=by have:=len_addK (addK ks (endF p q ts x).1) (endF p q ts x).2;rw[hks'] at this;have:=len_addK ks (endF p q ts x).1;omega
   have pt1:=put_psi (ks:=ks) (ψ:=ψ) (a:=(endF p q ts x).1)
   have pt2:=put_psi (ks:=addK ks (endF p q ts x).1) (ψ:=ψ) (a:=(endF p q ts x).2)
   rw[hks'] at pt2
   have ky:keysH [] (dcI ks' fun x=>Val.int (ψ x))=some (ks'.map Sum.inl):=rfl
   have kv:(ks'.map (Sum.inl:Int->Key)).map keyV=ks'.map Val.int:=by rw[List.map_map];rfl
   simp only[EV,c,not_false_iff,decide_true,idx_end hxn,idx_g0,idx_g1,endG_imm,key_i,zz ks (by omega),zz _ l1,pt1,pt2,ky,kv,src_l]
   repeat rw[pb_pb]
   refine use_loopT Val.int (fun r:Pr VFl=>∃env',r=.ok (.nx env')/\∃(n:Nat) (ψ:Int->Int) (ks:List Int) (a b c d:Option (Mk×Val)),env'=[some (.sh,endV p q ts),some (.sh,.rl (P.map .int)),some (.ow,dcI ks fun x=>.int (ψ x)),some (.sh,.int n),a,b,c,d]/\Mks (plc p q ts) ks (pre.map (endF p q ts)++[((endF p q ts x).1,(endF p q ts x).2)]) ψ n)
    (fun done env=>∃a,env=[some (.sh,endV p q ts),some (.sh,.rl (P.map .int)),some (.ow,dcI ks' fun y=>.int (if y∈done /\ ψ y = ψ (endF p q ts x).2 then ψ (endF p q ts x).1 else ψ y)),some (.sh,.int ((n:Int)+1)),some (.sh,.int x),some (.sh,.int (ψ (endF p q ts x).1)),some (.sh,.int (ψ (endF p q ts x).2)),a])
    ?_ ?_ ?_
   ·exact⟨d,by simp⟩
   ·rintro done y post env hy ⟨a,rfl⟩
    have hn:=m2.nd
    have hyp:y∉done:=by
     rw[hy,List.nodup_append] at hn
     exact fun h=>hn.2.2 y h y (by simp) rfl
    have hys:y∈ks':=by rw[hy];simp
    refine⟨_,?_,some (.sh,.int y),rfl⟩
    simp only[EV,bind_one,idx_dc hys,key_i,zz ks' l2,put_old hys,hyp,false_and,if_false]
    by_cases hg:ψ y = ψ (endF p q ts x).2
    ·simp only[hg,↓reduceIte]
     rw[dcI_congr]
     intro z _
     unfold updI
     by_cases e:z=y
     ·subst e;simp[hg]
     ·simp[e]
    ·simp only[hg,↓reduceIte]
     rw[dcI_congr]
     intro z _
     by_cases e:z=y
     ·subst e;simp[hg]
     ·simp[e]
   ·rintro env ⟨a,rfl⟩
    refine⟨_,rfl,n+1,(fun y=>if ψ y = ψ (endF p q ts x).2 then ψ (endF p q ts x).1 else ψ y),ks',some (.sh,.int x),some (.sh,.int (ψ (endF p q ts x).1)),some (.sh,.int (ψ (endF p q ts x).2)),a,?_,m2⟩
    rw[dcI_congr (g':=fun y=>.int (if ψ y = ψ (endF p q ts x).2 then ψ (endF p q ts x).1 else ψ y))]
    ·rfl
    ·intro z hz
     simp[hz]
 ·rintro env ⟨n,ψ,ks,a,b,c,d,rfl,m⟩
  simp only[EV,pb_ok]
  exact⟨n,ψ,ks,rfl,m⟩
theorem rank_eq{p q:Int}{ts:List T3}(ok:NetOk p q ts){P:List Int}(hP:∀x∈P,x∈nms ts)(hl:P.length<=15):∃n:Nat,g_ByTrees_rank [ruleV p q ts,.rl (P.map .int)]=.ok (true,.int n)/\g_l_joined [endV p q ts,.rl (P.map .int)]=.ok (true,.int n):=by
 obtain⟨φ,e1,lab⟩:=mrank_eq ok hP hl
 obtain⟨n,ψ,ks,e2,m⟩:=joined_eq ok hP hl
 have en:=rk_of lab m.lab (nodup_setI _) m.num
 subst en
 refine⟨_,?_,e2⟩
 unfold g_ByTrees_rank ir_ByTrees_rank
 simp only[EV,mth_any (show ("tree_rank":Str) ≠ "net" /\ ("tree_rank":Str) ≠ "places" /\ ("tree_rank":Str) ≠ "ends" by decide),lk_ByTrees_rank_Rule_tree_rank,e1]
theorem imms_t3:∀us:List T3,imms (us.map tup3)=true
 | []=>rfl
 | u::r=>by rw[List.map_cons,imms,imms_t3 r];rfl
theorem spo_blt{o:Bl}{es:IEs}{p:Pat}{k:Ik}{body:ISs}:spoF (.blt o es) p k body=none:=by
 first
  | (unfold spoF
     split
     ·exact absurd ‹IE.blt o es=IE.var _› (by intro z;cases z)
     ·rfl)
  | exact Eq.trans rfl rfl
theorem ixN_nat{n k:Nat}(h:k<n):ixN n (k:Int)=some k:=by
 unfold ixN
 rw[if_pos (by omega),if_pos (by omega)]
 simp
noncomputable def body1:ISs:=(.cons (.setI (.idx (.var 1) (.cst (.int 1))) (.var 4) (.tup (.cons (.idx (.idx (.idx (.var 1) (.cst (.int 1))) (.var 4)) (.cst (.int 0))) (.cons (.idx (.idx (.var 1) (.cst (.int 0))) (.cst (.int 0))) (.cons (.idx (.idx (.var 1) (.cst (.int 0))) (.cst (.int 0))) .nil))))) .nil)
noncomputable def body2:ISs:=(.cons (.asg (.one 6) (.call 8 (.cons (.skeys (.var 2)) (.cons (.bin .fdiv (.var 5) (.cst (.int 2))) .nil)))) (.cons (.iff (.cmp .eq (.bin .mod (.var 5) (.cst (.int 2))) (.cst (.int 1))) (.cons (.asg (.one 6) (.rev (.var 6) (.neg (.cst (.int 1))))) .nil) .nil) (.cons (.asg (.one 7) (.blt .list (.cons (.var 6) .nil))) (.cons (.asg (.one 8) (.mth (.var 3) "rank" [(0,11)] (.cons (.var 7) .nil))) (.cons (.iff (.or (.not (.call 12 (.cons (.var 8) .nil))) (.or (.cmp .ne (.var 8) (.call 13 (.cons (.var 2) (.cons (.var 6) .nil)))) (.cmp .ne (.var 7) (.var 6)))) (.cons (.ret (.cst (.bl false))) .nil) .nil) .nil)))))
noncomputable def loop1:IS:=(.for (.one 4) .range (.cons (.blt .len (.cons (.idx (.var 1) (.cst (.int 1))) .nil)) .nil) body1)
noncomputable def loop2:IS:=(.for (.one 5) .seq (.cons (.bin .add (.lst (.cons (.cst (.int 0)) .nil)) (.slc (.var 0) (.cst (.int 17)) (.cst (.int 63)))) .nil) body2)
theorem law_ir:ir_law=(.cons (.asg (.one 1) (.call 2 (.cons (.var 0) (.cons (.slc (.var 0) (.cst (.int 3)) (.bin .add (.cst (.int 3)) (.bin .mod (.bin .fdiv (.call 0 (.cons (.var 0) (.cons (.cst (.int 2)) .nil))) (.cst (.int 56))) (.cst (.int 15))))) .nil)))) (.cons (.asg (.one 2) (.call 3 (.cons (.var 1) .nil))) (.cons (.asg (.one 3) (.call 7 (.cons (.var 1) .nil))) (.cons loop1 (.cons loop2 (.cons (.ret (.cst (.bl true))) .nil)))))):=rfl
theorem body1_eq{p q:Int}{ns:List Int}{ts us:List T3}{k:Nat}{a:Option (Mk×Val)}(hk:k<us.length):evLSs (lookV gs14) [1] body1 [some (.sh,.rl (ns.map .int)),some (.ow,netV p q us),some (.sh,endV p q ts),some (.sh,ruleV p q ts),some (.sh,.int (0+(k:Int))),none,none,none,none] =
  .ok (.nx [some (.sh,.rl (ns.map .int)),some (.ow,netV p q (us.set k (us[k].1,p,p))),some (.sh,endV p q ts),some (.sh,ruleV p q ts),some (.sh,.int (0+(k:Int))),none,none,none,none]):=by
 have e0:(0:Int)+(k:Int)=(k:Int):=by omega
 have z3:3<=sizeLine:=by decide
 have m1:∀us:List T3,idxH [] (.tup [.tup [.int p,.int q],.rl (us.map tup3)]) (.int 1)=some (.rl (us.map tup3)):=fun _=>rfl
 have m0:∀us:List T3,idxH [] (.tup [.tup [.int p,.int q],.rl (us.map tup3)]) (.int 0)=some (.tup [.int p,.int q]):=fun _=>rfl
 have m00:idxH [] (.tup [.int p,.int q]) (.int 0)=some (.int p):=rfl
 have mk:idxH [] (.rl (us.map tup3)) (.int k)=some (tup3 us[k]):=idx_l (atI_nat (by simp[hk]))
 have mt:idxH [] (tup3 us[k]) (.int 0)=some (.int us[k].1):=rfl
 have ix:ixN us.length (k:Int)=some k:=ixN_nat hk
 have hset:(us.map tup3).set k (.tup [.int us[k].1,.int p,.int p])=(us.set k (us[k].1,p,p)).map tup3:=by rw[List.map_set];rfl
 unfold body1 netV
 rw[e0]
 simp only[EV,evLSs,evLS,evN,Hv.hideV,Hv.flatV,pl_none,pb_no,m1,m0,m00,mk,mt,z3,imms_t3,List.length_map,ix,hset,decide_true]
noncomputable def lenE:IE:=(.blt .len (.cons (.idx (.var 1) (.cst (.int 1))) .nil))
theorem len_hid{a b c d e f g h:Option (Mk×Val)}{net:Val}:evV (lookV gs14) lenE (hideV [a,some (.ow,net),b,c,d,e,f,g,h])=.no:=by
 unfold lenE
 simp only[EV,Hv.hideV,pl_none,pb_no]
theorem len_flat{a b c d e f g h:Option (Mk×Val)}{p q:Int}{ts:List T3}:evV (lookV gs14) lenE (flatV [a,some (.ow,netV p q ts),b,c,d,e,f,g,h])=.ok (true,.int ts.length):=by
 have n1:idxH [] (netV p q ts) (.int 1)=some (.rl (ts.map tup3)):=rfl
 unfold lenE
 simp only[EV,Hv.flatV,pl_none,pb_no,n1,List.length_map]
theorem len_N{a b c d e f g h:Option (Mk×Val)}{p q:Int}{ts:List T3}:evN (lookV gs14) lenE [a,some (.ow,netV p q ts),b,c,d,e,f,g,h]=.ok (true,.int ts.length):=by
 unfold evN
 rw[len_hid,len_flat]
 rfl
theorem for_ln{Ψ:Nat->List Val->Pr FV}{sp:List Nat}{p:Pat}{k:Ik}{e:IE}{body:ISs}{env:VEnv}{x:FV}{xs:List Val}(hs:spoF e p k body=none)(he:evN Ψ e env=.ok x)(hx:srcV k [x.2]=some xs):evLS Ψ sp (.for p k (.cons e .nil) body) env=forV (fun x env=>pb (pl (bindV p x env)) fun env'=>evLSs Ψ sp body env') xs env:=by
 rw[evLS]
 try dsimp only
 rw[hs]
 try dsimp only
 rw[he,pb_ok,hx,pl_some,pb_ok]
theorem loop1_eq{p q:Int}{ns:List Int}{ts:List T3}(ok:NetOk p q ts):∃(us:List T3) (a:Option (Mk×Val)),evLS (lookV gs14) [1] loop1 [some (.sh,.rl (ns.map .int)),some (.ow,netV p q ts),some (.sh,endV p q ts),some (.sh,ruleV p q ts),none,none,none,none,none] =
  .ok (.nx [some (.sh,.rl (ns.map .int)),some (.ow,netV p q us),some (.sh,endV p q ts),some (.sh,ruleV p q ts),a,none,none,none,none]):=by
 have hl:=ok.len
 have hr:inR (ts.length:Int)=true:=by unfold inR;simp;omega
 have hrl:((ts.length:Int)).toNat=ts.length:=by omega
 have hsrc:=src_r hr
 rw[hrl] at hsrc
 rw[show loop1=.for (.one 4) .range (.cons lenE .nil) body1 from rfl,for_ln (e:=lenE) (p:=.one 4) (k:=.range) (body:=body1) spo_blt len_N hsrc]
 have key:=use_loopT (us:=List.range ts.length) (k:=fun f=>Pr.ok f) (body:=fun x env=>pb (pl (bindV (.one 4) x env)) fun env'=>evLSs (lookV gs14) [1] body1 env') (fun i:Nat=>Val.int (0+(i:Int))) (fun r:Pr VFl=>∃(us:List T3) (a:Option (Mk×Val)),r=.ok (.nx [some (.sh,.rl (ns.map .int)),some (.ow,netV p q us),some (.sh,endV p q ts),some (.sh,ruleV p q ts),a,none,none,none,none]))
  (env0:=[some (.sh,.rl (ns.map .int)),some (.ow,netV p q ts),some (.sh,endV p q ts),some (.sh,ruleV p q ts),none,none,none,none,none])
  (fun done env=>∃(us:List T3) (a:Option (Mk×Val)),us.length=ts.length/\env=[some (.sh,.rl (ns.map .int)),some (.ow,netV p q us),some (.sh,endV p q ts),some (.sh,ruleV p q ts),a,none,none,none,none])
  ⟨ts,none,rfl,rfl⟩ (by
   rintro pre k post env hx ⟨us,a,hu,rfl⟩
   have hk:k<us.length:=by
    have:k∈List.range ts.length:=by rw[hx];simp
    rw[hu];simpa using this
   exact⟨_,body1_eq (a:=a) hk,us.set k (us[k].1,p,p),_,by simp[hu],rfl⟩) (by
   rintro env ⟨us,a,hu,rfl⟩
   exact⟨us,a,rfl⟩)
 cases e:forV (fun x env=>pb (pl (bindV (.one 4) x env)) fun env'=>evLSs (lookV gs14) [1] body1 env') ((List.range ts.length).map fun i:Nat=>Val.int (0+(i:Int))) [some (.sh,.rl (ns.map .int)),some (.ow,netV p q ts),some (.sh,endV p q ts),some (.sh,ruleV p q ts),none,none,none,none,none] with
 | ok f=>rw[e] at key;exact key
 | exc _ _=>rw[e] at key;exact key
 | no=>rw[e] at key;exact key
theorem body2_eq{p q:Int}{ns:List Int}{ts us:List T3}(ok:NetOk p q ts){x:Int}{a c d e:Option (Mk×Val)}:∃c' d' e',evLSs (lookV gs14) [1] body2 [some (.sh,.rl (ns.map .int)),some (.ow,netV p q us),some (.sh,endV p q ts),some (.sh,ruleV p q ts),a,some (.sh,.int x),c,d,e] =
  .ok (.nx [some (.sh,.rl (ns.map .int)),some (.ow,netV p q us),some (.sh,endV p q ts),some (.sh,ruleV p q ts),a,some (.sh,.int x),c',d',e']):=by
 have hN:(nms ts).length<64:=by have:=nms_len ok;omega
 have sk:skeysH [] (endV p q ts)=some (nms ts):=by
  unfold endV;rw[skeys_dc hN,nms_sort ok]
 have rw1:=row_eq (nms ts) (x/2) hN
 have hsub:=rowI_sub (nms ts) (x/2)
 generalize rowI (nms ts) (x/2)=l at rw1 hsub
 have hl15:l.length<=15:=by have:=hsub.length_le;have:=nms_len ok;omega
 have mr:=mth_any (p:=p) (q:=q) (ts:=ts) (m:="rank") (j:=11) (by decide)
 unfold body2
 by_cases hodd:x%2=1
 ·obtain⟨n,e1,e2⟩:=rank_eq ok (P:=l.reverse) (fun y hy=>hsub.subset (List.mem_reverse.mp hy)) (by simpa using hl15)
  have e3:=ne_ints l.reverse
  have er:(l.map Val.int).reverse=l.reverse.map Val.int:=List.map_reverse.symm
  simp only[EV,evLSs,evLS,evN,Hv.hideV,Hv.flatV,pl_none,pb_no,bind_one,sk,fdiv_i (show dvOk 2=true by decide),mod_i (show decide ((0:Int)<2)=true by decide),lk_law_l_row,rw1,hodd,decide_true,er,imms_map,mr,lk_law_ByTrees_rank,e1,lk_law_l_whole,whole_eq,lk_law_l_joined,e2,e3]
  exact⟨_,_,_,rfl⟩
 ·obtain⟨n,e1,e2⟩:=rank_eq ok (P:=l) (fun y hy=>hsub.subset hy) hl15
  have e3:=ne_ints l
  simp only[EV,evLSs,evLS,evN,Hv.hideV,Hv.flatV,pl_none,pb_no,bind_one,sk,fdiv_i (show dvOk 2=true by decide),mod_i (show decide ((0:Int)<2)=true by decide),lk_law_l_row,rw1,hodd,decide_false,imms_map,mr,lk_law_ByTrees_rank,e1,lk_law_l_whole,whole_eq,lk_law_l_joined,e2,e3]
  exact⟨_,_,_,rfl⟩
noncomputable def rowsE:IE:=(.bin .add (.lst (.cons (.cst (.int 0)) .nil)) (.slc (.var 0) (.cst (.int 17)) (.cst (.int 63))))
theorem loop2_eq{p q:Int}{ns:List Int}{ts us:List T3}(hn:ns.length<=63)(ok:NetOk p q ts){a:Option (Mk×Val)}:∃b c d e,evLS (lookV gs14) [1] loop2 [some (.sh,.rl (ns.map .int)),some (.ow,netV p q us),some (.sh,endV p q ts),some (.sh,ruleV p q ts),a,none,none,none,none] =
  .ok (.nx [some (.sh,.rl (ns.map .int)),some (.ow,netV p q us),some (.sh,endV p q ts),some (.sh,ruleV p q ts),a,b,c,d,e]):=by
 have z1:1<=sizeLine:=by decide
 have hcl3:(cutL ns (some 17) (some 63)).length<=63:=by have:=cutL_len ns (some 17) (some 63);omega
 have eadd:bopV .add (.rl [.int 0]) (.rl ((cutL ns (some 17) (some 63)).map .int))=.ok (imms ((0::cutL ns (some 17) (some 63)).map .int),.rl ((0::cutL ns (some 17) (some 63)).map .int)):=by
  rw[add_ll (by rw[List.length_map];simp;unfold sizeLine;omega)];rfl
 generalize (0::cutL ns (some 17) (some 63))=Ls at eadd
 have he:evN (lookV gs14) rowsE [some (.sh,.rl (ns.map .int)),some (.ow,netV p q us),some (.sh,endV p q ts),some (.sh,ruleV p q ts),a,none,none,none,none]=.ok (imms (Ls.map .int),.rl (Ls.map .int)):=by
  have:evV (lookV gs14) rowsE (hideV [some (.sh,.rl (ns.map .int)),some (.ow,netV p q us),some (.sh,endV p q ts),some (.sh,ruleV p q ts),a,none,none,none,none])=.ok (imms (Ls.map .int),.rl (Ls.map .int)):=by
   unfold rowsE
   simp only[EV,Hv.hideV,z1,slc_l,cutL_map,eadd]
  unfold evN
  rw[this]
 rw[show loop2=.for (.one 5) .seq (.cons rowsE .nil) body2 from rfl,for_ln (e:=rowsE) (p:=.one 5) (k:=.seq) (body:=body2) spo_bin he src_l]
 have key:=use_loopT (us:=Ls) (k:=fun f=>Pr.ok f) (body:=fun x env=>pb (pl (bindV (.one 5) x env)) fun env'=>evLSs (lookV gs14) [1] body2 env') Val.int (fun r:Pr VFl=>∃b c d e,r=.ok (.nx [some (.sh,.rl (ns.map .int)),some (.ow,netV p q us),some (.sh,endV p q ts),some (.sh,ruleV p q ts),a,b,c,d,e]))
  (env0:=[some (.sh,.rl (ns.map .int)),some (.ow,netV p q us),some (.sh,endV p q ts),some (.sh,ruleV p q ts),a,none,none,none,none])
  (fun done env=>∃b c d e,env=[some (.sh,.rl (ns.map .int)),some (.ow,netV p q us),some (.sh,endV p q ts),some (.sh,ruleV p q ts),a,b,c,d,e])
  ⟨none,none,none,none,rfl⟩ (by
   rintro pre x post env hx ⟨b,c,d,e,rfl⟩
   obtain⟨c',d',e',h⟩:=body2_eq (ns:=ns) (us:=us) ok (x:=x) (a:=a) (c:=c) (d:=d) (e:=e)
   exact⟨_,h,_,c',d',e',rfl⟩) (by
   rintro env ⟨b,c,d,e,rfl⟩
   exact⟨b,c,d,e,rfl⟩)
 cases e:forV (fun x env=>pb (pl (bindV (.one 5) x env)) fun env'=>evLSs (lookV gs14) [1] body2 env') (Ls.map Val.int) [some (.sh,.rl (ns.map .int)),some (.ow,netV p q us),some (.sh,endV p q ts),some (.sh,ruleV p q ts),a,none,none,none,none] with
 | ok f=>rw[e] at key;exact key
 | exc _ _=>rw[e] at key;exact key
 | no=>rw[e] at key;exact key
theorem ls_cons{Ψ:Nat->List Val->Pr FV}{sp:List Nat}{st:IS}{r:ISs}{env env':VEnv}(h:evLS Ψ sp st env=.ok (.nx env')):evLSs Ψ sp (.cons st r) env=evLSs Ψ sp r env':=by
 rw[evLSs,h];rfl
theorem asg_sp{Ψ:Nat->List Val->Pr FV}{sp:List Nat}{i:Nat}{e:IE}{env:VEnv}{v:Val}(hi:sp.contains i=true)(h:evV Ψ e (flatV env)=.ok (true,v)):evLS Ψ sp (.asg (.one i) e) env=.ok (.nx (env.set i (some (.ow,v)))):=by
 rw[evLS]
 try dsimp only
 rw[if_pos hi,h]
 rfl
theorem asg_nf{Ψ:Nat->List Val->Pr FV}{sp:List Nat}{i:Nat}{e:IE}{env:VEnv}{x:FV}(hi:sp.contains i=false)(h:evN Ψ e env=.ok x):evLS Ψ sp (.asg (.one i) e) env=.ok (.nx (env.set i (some (.sh,x.2)))):=by
 rw[evLS]
 try dsimp only
 rw[if_neg (by rw[hi];exact Bool.false_ne_true),h]
 rfl
theorem nf_flat{Ψ:Nat->List Val->Pr FV}{e:IE}{env:VEnv}{v:Val}(h1:evV Ψ e (hideV env)=.no)(h2:evV Ψ e (flatV env)=.ok (true,v)):evN Ψ e env=.ok (true,v):=by
 unfold evN
 rw[h1,h2]
 rfl
noncomputable def netE:IE:=(.call 2 (.cons (.var 0) (.cons (.slc (.var 0) (.cst (.int 3)) (.bin .add (.cst (.int 3)) (.bin .mod (.bin .fdiv (.call 0 (.cons (.var 0) (.cons (.cst (.int 2)) .nil))) (.cst (.int 56))) (.cst (.int 15))))) .nil)))
noncomputable def endsE:IE:=(.call 3 (.cons (.var 1) .nil))
noncomputable def ruleE:IE:=(.call 7 (.cons (.var 1) .nil))
theorem law_ir2:ir_law=(.cons (.asg (.one 1) netE) (.cons (.asg (.one 2) endsE) (.cons (.asg (.one 3) ruleE) (.cons loop1 (.cons loop2 (.cons (.ret (.cst (.bl true))) .nil)))))):=rfl
theorem net_ev{ns:List Int}{p q:Int}{ts:List T3}{a b c d e f g h:Option (Mk×Val)}(en:g_l_net [.rl (ns.map .int),.rl ((cutL ns (some 3) (some (3+cellAt ns 2/56%15))).map .int)]=.ok (true,netV p q ts)):evV (lookV gs14) netE (flatV [some (.sh,.rl (ns.map .int)),a,b,c,d,e,f,g,h])=.ok (true,netV p q ts):=by
 have c2:g_l_cell [.rl (ns.map .int),.int 2]=.ok (true,.int (cellAt ns 2)):=cell_at ns 2
 unfold netE
 simp only[EV,Hv.flatV,lk_law_l_cell,c2,fdiv_i (show dvOk 56=true by decide),mod_i (show decide ((0:Int)<15)=true by decide),slc_l,cutL_map,lk_law_l_net,en]
theorem ends_hid{a b c d e f g h:Option (Mk×Val)}{net:Val}:evV (lookV gs14) endsE (hideV [a,some (.ow,net),b,c,d,e,f,g,h])=.no:=by
 unfold endsE
 simp only[EV,Hv.hideV,pl_none,pb_no]
theorem ends_flat{a b c d e f g h:Option (Mk×Val)}{p q:Int}{ts:List T3}(ee:g_l_ends [netV p q ts]=.ok (true,endV p q ts)):evV (lookV gs14) endsE (flatV [a,some (.ow,netV p q ts),b,c,d,e,f,g,h])=.ok (true,endV p q ts):=by
 unfold endsE
 simp only[EV,Hv.flatV,lk_law_l_ends,ee]
theorem rule_hid{a b c d e f g h:Option (Mk×Val)}{net:Val}:evV (lookV gs14) ruleE (hideV [a,some (.ow,net),b,c,d,e,f,g,h])=.no:=by
 unfold ruleE
 simp only[EV,Hv.hideV,pl_none,pb_no]
theorem rule_flat{a b c d e f g h:Option (Mk×Val)}{p q:Int}{ts:List T3}(ee:g_ByTrees [netV p q ts]=.ok (true,ruleV p q ts)):evV (lookV gs14) ruleE (flatV [a,some (.ow,netV p q ts),b,c,d,e,f,g,h])=.ok (true,ruleV p q ts):=by
 unfold ruleE
 simp only[EV,Hv.flatV,lk_law_ByTrees,ee]
theorem law_eq(ns:List Int)(hn:ns.length<=63):∃f,g_law [.rl (ns.map .int)]=.ok (f,.bl true):=by
 have hcl:(cutL ns (some 3) (some (3+cellAt ns 2/56%15))).length<=14:=by
  obtain⟨k,hk⟩:=Int.eq_ofNat_of_zero_le (show 0<=cellAt ns 2/56%15 by omega)
  have h:=cutL_len2 ns 3 k (by omega)
  rw[<-hk] at h
  omega
 obtain⟨p,q,ts,en,ok,_⟩:=net_eq ns (cutL ns (some 3) (some (3+cellAt ns 2/56%15))) hcl
 have er:=rule_eq ok
 have ee:=law_ends_eq ok
 obtain⟨us,a,e1⟩:=loop1_eq (ns:=ns) ok
 obtain⟨b,c,d,e,e2⟩:=loop2_eq (us:=us) hn ok (a:=a)
 have fin:evLSs (lookV gs14) [1] ir_law [some (.sh,.rl (ns.map .int)),none,none,none,none,none,none,none,none]=.ok (.rt (true,.bl true)):=by
  rw[law_ir2,ls_cons (asg_sp rfl (net_ev en))]
  simp only[List.set_cons_succ,List.set_cons_zero]
  rw[ls_cons (asg_nf (i:=2) (sp:=[1]) rfl (nf_flat ends_hid (ends_flat ee)))]
  simp only[List.set_cons_succ,List.set_cons_zero]
  rw[ls_cons (asg_nf (i:=3) (sp:=[1]) rfl (nf_flat rule_hid (rule_flat er)))]
  simp only[List.set_cons_succ,List.set_cons_zero]
  rw[ls_cons e1,ls_cons e2]
  rfl
 refine⟨true,?_⟩
 show pb (evLSs (lookV gs14) (spoSs ir_law) ir_law [some (.sh,.rl (ns.map .int)),none,none,none,none,none,none,none,none]) _=_
 rw[show spoSs ir_law=[1] from rfl,fin]
 rfl
theorem true(ns:List Int)(hn:ns.length<=63):∃h',f_law [.rl (ns.map .int)] []=.ok (.bl true) h':=by
 obtain⟨f,e⟩:=law_eq ns hn
 exact law_end e
end K22
end
end
section
noncomputable def PySem.W.Fast.tw15379863622088437375:=0
theorem PySem.W.Fast.te15379863622088437375:True:=trivial
open PySem PySem.W PyProof.Rows
set_option maxRecDepth 100000 in
set_option maxHeartbeats 0 in
theorem PySem.Challenge.cw_linkorcut_k22_rank_by_trees_holds : PySem.Challenge.rw_linkorcut_k22_rank_by_trees.Holds := by
 w_on;o_law;k_head;(case hw=>w_witness2)
 k_fill
 refine Hv.walk (l:=PySem.Challenge.rw_linkorcut_k22_rank_by_trees) (k:=30) (x:="_law_script") rfl rfl ⟨rfl,by decide,by decide⟩ (fun w h Y=>PySem.W.kIn_of Y) ?F
 case F =>
  intro w mg fa h KX G hmg
  refine' K22.all_mk KX G hmg K22.true ?DA0 ?DG0 ?DH0 ?DO0 ?DS0 ?DM0 ?DK0 ?DN0_0 ?DN0_1 ?DN0_2 ?A0 ?L0 ?C0 ?Q0 ?A1 ?L1 ?C1 ?Q1 ?A2 ?L2 ?C2 ?Q2 ?A3 ?L3 ?C3 ?Q3 ?A4 ?L4 ?C4 ?Q4 ?A5 ?L5 ?C5 ?Q5 ?A6 ?L6 ?C6 ?Q6 ?A7 ?I7 ?L7 ?C7 ?Q7 ?A8 ?L8 ?C8 ?Q8 ?A9 ?L9 ?C9 ?Q9 ?M0_10 ?I10 ?L10 ?C10 ?Q10 ?M0_11 ?I11 ?L11 ?C11 ?Q11 ?A12 ?L12 ?C12 ?Q12 ?A13 ?L13 ?C13 ?Q13 ?A14 ?L14 ?C14 ?Q14 ?Z0 ?Z1 ?Z2 ?Z3 ?Z4 ?Z5 ?Z6 ?Z7 ?Z8 ?Z9 ?Z10 ?Z11 ?Z12 ?Z13 ?Z14 ?Z15 ?Z16 ?V0
  (case DA0=>k_is)
  (case DG0=>k_is)
  (case DH0=>k_is)
  (case DO0=>k_is)
  (case DS0=>k_is)
  (case DM0=>k_is)
  (case DK0=>k_is)
  (case DN0_0=>k_is)
  (case DN0_1=>k_is)
  (case DN0_2=>k_is)
  (case A0=>k_is)
  (case L0=>k_is)
  (case C0=>k_is)
  (case Q0=>k_is)
  (case A1=>k_is)
  (case L1=>k_is)
  (case C1=>k_is)
  (case Q1=>k_is)
  (case A2=>k_is)
  (case L2=>k_is)
  (case C2=>k_is)
  (case Q2=>k_is)
  (case A3=>k_is)
  (case L3=>k_is)
  (case C3=>k_is)
  (case Q3=>k_is)
  (case A4=>k_is)
  (case L4=>k_is)
  (case C4=>k_is)
  (case Q4=>k_is)
  (case A5=>k_is)
  (case L5=>k_is)
  (case C5=>k_is)
  (case Q5=>k_is)
  (case A6=>k_is)
  (case L6=>k_is)
  (case C6=>k_is)
  (case Q6=>k_is)
  (case A7=>k_is)
  (case I7=>k_is)
  (case L7=>k_is)
  (case C7=>k_is)
  (case Q7=>k_is)
  (case A8=>k_is)
  (case L8=>k_is)
  (case C8=>k_is)
  (case Q8=>k_is)
  (case A9=>k_is)
  (case L9=>k_is)
  (case C9=>k_is)
  (case Q9=>k_is)
  (case M0_10=>k_is)
  (case I10=>k_is)
  (case L10=>k_is)
  (case C10=>k_is)
  (case Q10=>k_is)
  (case M0_11=>k_is)
  (case I11=>k_is)
  (case L11=>k_is)
  (case C11=>k_is)
  (case Q11=>k_is)
  (case A12=>k_is)
  (case L12=>k_is)
  (case C12=>k_is)
  (case Q12=>k_is)
  (case A13=>k_is)
  (case L13=>k_is)
  (case C13=>k_is)
  (case Q13=>k_is)
  (case A14=>k_is)
  (case L14=>k_is)
  (case C14=>k_is)
  (case Q14=>k_is)
  (case Z0=>k_is)
  (case Z1=>k_is)
  (case Z2=>k_is)
  (case Z3=>k_is)
  (case Z4=>k_is)
  (case Z5=>k_is)
  (case Z6=>k_is)
  (case Z7=>k_is)
  (case Z8=>k_is)
  (case Z9=>k_is)
  (case Z10=>k_is)
  (case Z11=>k_is)
  (case Z12=>k_is)
  (case Z13=>k_is)
  (case Z14=>k_is)
  (case Z15=>k_is)
  (case Z16=>k_is)
  (case V0=>k_is)
#print axioms PySem.Challenge.cw_linkorcut_k22_rank_by_trees_holds
end
