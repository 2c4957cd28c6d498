import PyProof.Rows.All
import Wide.All
import OpenK.AllK
import Wide.FinOn
import Lean
import PyProof.EqAt
import PyProof.EqKinds
import PyProof.TupleCall
import KE.KDictList
import KE.KDictLaws
import KE.KDictSum
import KE.KRevSl
import PyProof.DictWalks
import PySem.Challenge.RW_linkorcut_k23_rank_by_rest
set_option Elab.async false
set_option linter.all false
set_option maxRecDepth 100000
set_option maxHeartbeats 4000000
set_option genSizeOf false
set_option backward.eqns.nonrecursive false
set_option backward.eqns.deepRecursiveSplit false
set_option bootstrap.genMatcherCode false
section
namespace L2
open PySem PySem.Spec PyProof.Rows
noncomputable abbrev Key:=Sum Int Str
noncomputable def nM:Key->Value->Bool
 | .inl k,v=>Value.isInt k v
 | .inr x,v=>Value.isStrOf x v
noncomputable def OF(w:World):Key->Int
 | .inl k=>hashInt k
 | .inr x=>hashStr w x
theorem bE:∀{k:Key} {v:Value},nM k v=true->(∃i t,k=Sum.inl i/\v=Value.int i t)\/(∃x t,k=Sum.inr x/\v=Value.str x t)
 | .inl i,v,h=>by
  obtain⟨t,e⟩:=Value.isInt_shape (k:=i) (v:=v) h
  exact .inl ⟨i,t,rfl,e⟩
 | .inr x,v,h=>by
  obtain⟨t,e⟩:=Value.isStrOf_shape (x:=x) (v:=v) h
  exact .inr ⟨x,t,rfl,e⟩
theorem yx(i:Int)(t:Tok):nM (.inl i) (.int i t)=true:=by simp[nM,Value.isInt]
theorem yy(x:Str)(t:Tok):nM (.inr x) (.str x t)=true:=by simp[nM,Value.isStrOf]
theorem Gp(a b:Int):decide ((Sum.inl a:Key)=Sum.inl b)=(a==b):=by
 by_cases e:a=b
 ·subst e;simp
 ·have h:¬ (Sum.inl a:Key)=Sum.inl b:=fun q=>e (Sum.inl.inj q)
  rw[decide_eq_false h]
  exact(beq_eq_false_iff_ne.mpr e).symm
theorem Gq(a b:Str):decide ((Sum.inr a:Key)=Sum.inr b)=decide (a=b):=by
 by_cases e:a=b
 ·subst e;simp
 ·have h:¬ (Sum.inr a:Key)=Sum.inr b:=fun q=>e (Sum.inr.inj q)
  rw[decide_eq_false h,decide_eq_false e]
theorem Gs(a:Int)(b:Str):decide ((Sum.inl a:Key)=Sum.inr b)=false:=decide_eq_false (fun q=>nomatch q)
theorem Gu(a:Str)(b:Int):decide ((Sum.inr a:Key)=Sum.inl b)=false:=decide_eq_false (fun q=>nomatch q)
noncomputable def aO(prog:Program)(w:World):PySem.KeyKind prog w Key where
 is:=nM
 hash:=OF w
 inj:=fun v a b ha hb=>by
  rcases bE ha with ⟨i,t,rfl,rfl⟩|⟨x,t,rfl,rfl⟩
  ·rcases bE hb with ⟨j,u,rfl,e⟩|⟨y,u,rfl,e⟩
   ·injection e with e1 _;rw[e1]
   ·exact nomatch e
  ·rcases bE hb with ⟨j,u,rfl,e⟩|⟨y,u,rfl,e⟩
   ·exact nomatch e
   ·injection e with e1 _;rw[e1]
 byValue:=fun k v h=>by
  rcases bE h with ⟨i,t,rfl,rfl⟩|⟨x,t,rfl,rfl⟩<;>rfl
 pyHash:=fun hv h=>by
  rcases bE hv with ⟨i,t,rfl,rfl⟩|⟨x,t,rfl,rfl⟩
  ·exact wpAny_pyHash_int h
  ·exact wpAny_pyHash_str h
 eqBool:=fun hu hv h=>by
  rcases bE hu with ⟨i,t,rfl,rfl⟩|⟨x,t,rfl,rfl⟩
  ·rcases bE hv with ⟨j,u,rfl,rfl⟩|⟨y,u,rfl,rfl⟩
   ·rw[Gp] at h;exact wpAny_eqBool_int h
   ·rw[Gs] at h;exact SeqAt.EqAt.int_str i t y u _ _ _ _ h
  ·rcases bE hv with ⟨j,u,rfl,rfl⟩|⟨y,u,rfl,rfl⟩
   ·rw[Gu] at h;exact SeqAt.EqAt.str_int x t j u _ _ _ _ h
   ·rw[Gq] at h;exact wpAny_eqBool_str h
 «strs»:=fun k x t v h=>by
  rcases bE h with ⟨i,u,rfl,e⟩|⟨y,u,rfl,e⟩
  ·exact nomatch e
  ·injection e with e1 _
   subst e1
   cases v<;>rfl
theorem vg(prog:Program)(w:World)(k:Key)(v:Value):(aO prog w).is k v=nM k v:=rfl
theorem sQ(prog:Program)(w:World)(i:Int)(t:Tok):(aO prog w).is (.inl i) (.int i t)=true:=yx i t
theorem sS(prog:Program)(w:World)(x:Str)(t:Tok):(aO prog w).is (.inr x) (.str x t)=true:=yy x t
end L2
namespace L2
open PySem PySem.Spec PyProof.Rows
inductive V where
 | non|bl (b:Bool)|int (i:Int)|str (x:Str)|byt (b:Array UInt8)|flt (b:UInt64)|ref (a:Addr)|ty (n:String)
 deriving DecidableEq
noncomputable def RelV:V->Value->Prop
 | .non,u=>u=Value.none
 | .bl b,u=>u=Value.bool b
 | .int i,u=>∃t,u=Value.int i t
 | .str x,u=>∃t,u=Value.str x t
 | .byt b,u=>∃t,u=Value.bytes b t
 | .flt b,u=>∃t,u=Value.float b t
 | .ref a,u=>u=Value.ref a
 | .ty n,u=>u=Value.type n
noncomputable abbrev Vals:List V->List Value->Prop:=Paired RelV
theorem Vals.length{xs:List V}{us:List Value}(r:Vals xs us):xs.length=us.length:=Paired.length r
theorem Vals.get:∀{xs:List V} {us:List Value} {i:Nat} {x:V},Vals xs us->xs[i]?=some x->∃u,us[i]?=some u/\RelV x u
 | _,_,_,_,.nil,e=>by simp at e
 | _,_,0,_,.cons r _,e=>by simp at e;subst e;exact⟨_,rfl,r⟩
 | _,_,i+1,x,.cons _ t,e=>by
  obtain⟨u,h1,h2⟩:=Vals.get (i:=i) (x:=x) t (by simpa using e)
  exact⟨u,by simpa using h1,h2⟩
theorem Vals.set{x:V}{u:Value}(r:RelV x u):∀{xs:List V} {us:List Value} (i:Nat),Vals xs us->Vals (xs.set i x) (us.set i u)
 | _,_,_,.nil=>.nil
 | _,_,0,.cons _ t=>.cons r t
 | _,_,i+1,.cons q t=>.cons q (Vals.set r i t)
theorem Vals.append:∀{xs ys:List V} {us ws:List Value},Vals xs us->Vals ys ws->Vals (xs++ys) (us++ws)
 | _,_,_,_,.nil,s=>s
 | _,_,_,_,.cons r t,s=>.cons r (Vals.append t s)
theorem Vals.take:∀{xs:List V} {us:List Value} (n:Nat),Vals xs us->Vals (xs.take n) (us.take n)
 | _,_,0,_=>.nil
 | _,_,_+1,.nil=>.nil
 | _,_,n+1,.cons r t=>.cons r (Vals.take n t)
theorem Vals.drop:∀{xs:List V} {us:List Value} (n:Nat),Vals xs us->Vals (xs.drop n) (us.drop n)
 | _,_,0,r=>r
 | _,_,_+1,.nil=>.nil
 | _,_,n+1,.cons _ t=>Vals.drop n t
noncomputable def iY:Option V->Option Value->Prop
 | some v,some u=>RelV v u
 | none,none=>True
 | _,_=>False
noncomputable def KV{κ:Type}:List (κ × V)->List (κ × Value)->Prop:=Paired fun(p:κ × V) (q:κ × Value)=>p.1=q.1/\RelV p.2 q.2
noncomputable def kV:Key->V
 | .inl i=>.int i
 | .inr x=>.str x
inductive HO where
  | lst (xs:List V)
  | tup (xs:List V)
  | dK (kvs:List (Key×V))|dT (kvs:List (List Key×V))
  | set (S:Int->Bool) (n:Nat)
  | ins (C dx:Addr) (fs:List (Str×V))
  | own (x:Addr)
  | xd (fs:List (Str×V))
  | met (f x:Addr)
  | rng (lo hi:Int)
  | iZ (o:Obj) (u:HO)
  | tbl (ps:Array Value)
  | ext (φ:Heap->Prop)
noncomputable abbrev Hp:=Addr->Option HO
noncomputable def upd(H:Hp)(a:Addr)(o:HO):Hp:=fun b=>if b=a then some o else H b
theorem aM{H:Hp}{a:Addr}{o:HO}:upd H a o a=some o:=by unfold upd;rw[if_pos rfl]
theorem ak{H:Hp}{a b:Addr}{o:HO}(h:b≠a):upd H a o b=H b:=by unfold upd;rw[if_neg h]
theorem CW{H:Hp}{a:Addr}{o u:HO}:upd (upd H a o) a u=upd H a u:=by
 funext b;unfold upd;split<;>rfl
theorem KR{H:Hp}{a b:Addr}{o u:HO}(h:H a=some o)(h':H b=some u)(d:o≠u):a≠b:=by
 intro e;subst e;rw[h] at h';exact d (Option.some.inj h')
theorem aH{H:Hp}{a b:Addr}{o:HO}(h:H a=some o)(h':H b=none):a≠b:=by
 intro e;subst e;rw[h] at h';cases h'
section
variable (P:Program) (w:World)
noncomputable def bI(H:Hp)(h:Heap)(a:Addr):HO->Prop
 | .lst xs=>xs.length<=sizeLine/\∃(its:List Value) (n:Nat),Vals xs its/\h.get? a=some { cls:=.type "list",data:=.seq its.toArray n }
 | .tup xs=>xs.length<=sizeLine/\∃its:List Value,Vals xs its/\IsTup h a its.toArray
 | .dK kvs=>kvs.length<=sizeLine/\(a==sysModules)=false/\∃vs,KV kvs vs/\h.DictOf (aO P w) a vs
 | .dT kvs=>kvs.length<=sizeLine/\(a==sysModules)=false/\∃xs:List (List Key×Addr×Value),
   Paired (fun(p:List Key×V) (q:List Key×Addr×Value)=>p.1=q.1/\H q.2.1=some (.tup (p.1.map kV))/\RelV p.2 q.2.2) kvs xs /\
   ∃o es ep,h.get? a=some o/\o.ExactDict/\o.data=.dict es ep/\es.toList=xs.map (entryOfKey (tupleKind (aO P w)))/\(xs.map (·.1)).Nodup
 | .set S n=>h.SetOf (intKind P w) a S n
 | .ins C dx fs=>H dx=some (.own a)/\fs.length<=1000/\dx≠a/\h.get? a=some (PySem.W.instObj C dx) /\
   ∃mA,h.Ns1 dx mA/\(∀f,iY (fs.lookup f) (mA f))/\PySem.Within mA (fs.map (·.1))
 | .own _=>∃o,h.get? a=some o
 | .xd fs=>∃mA,h.Ns1 a mA/\∀f,iY (fs.lookup f) (mA f)
 | .rng lo hi=>∃t u v,h.get? a=some { cls:=.type "range",data:=.fields #[.int lo t,.int hi u,.int 1 v] }
 | .iZ o u=>h.get? a=some o/\bI H h a u
 | .tbl ps=>h.get? a=some { cls:=.none,data:=.fields ps }
 | .met f x=>h.get? a=some (PySem.W.methodObj (.ref f) (.ref x))
 | .ext φ=>φ h/\(∃o,h.get? a=some o)/\∀h1 h2:Heap,φ h1->(∀o,h1.get? a=some o->h2.get? a=some o) -> φ h2
noncomputable def kg(H:Hp)(h:Heap):Prop:=∀a o,H a=some o->bI P w H h a o
end
section
variable {P:Program} {w:World} {H H':Hp} {h h':Heap} {a:Addr} {o:HO}
theorem bI.lt(x:bI P w H h a o):a<h.objs.size:=by
 cases o with
 | lst xs=>obtain⟨_,_,_,_,e⟩:=x;exact Heap.lt_size e
 | tup xs=>obtain⟨_,_,_,p⟩:=x;exact p.lt
 | dK kvs=>obtain⟨_,_,_,_,o,_,_,e,_⟩:=x;exact Heap.lt_size e
 | dT kvs=>obtain⟨_,_,_,_,o,_,_,e,_⟩:=x;exact Heap.lt_size e
 | set S n=>obtain⟨o,_,_,_,e,_⟩:=x;exact Heap.lt_size e
 | ins C dx fs=>obtain⟨_,_,_,e,_⟩:=x;exact Heap.lt_size e
 | own y=>obtain⟨_,e⟩:=x;exact Heap.lt_size e
 | xd fs=>obtain⟨_,⟨_,_,_,e,_⟩,_⟩:=x;exact Heap.lt_size e
 | rng lo hi=>obtain⟨_,_,_,e⟩:=x;exact Heap.lt_size e
 | iZ ob u=>obtain⟨e,_⟩:=x;exact Heap.lt_size e
 | tbl ps=>exact Heap.lt_size (show h.get? a=some _ from x)
 | met f y=>exact Heap.lt_size (show h.get? a=some _ from x)
 | ext φ=>obtain⟨_,⟨_,e⟩,_⟩:=x;exact Heap.lt_size e
theorem Paired.Gv{α β:Type}{F G:α -> β -> Prop}:∀{l₁:List α} {l₂:List β},Paired F l₁ l₂->(∀a b,F a b->G a b)->Paired G l₁ l₂
 | _,_,.nil,_=>.nil
 | _,_,.cons r t,f=>.cons (f _ _ r) (Paired.Gv t f)
theorem bI.stay(x:bI P w H h a o)(k:∀b u,(b=a\/H b=some (.own a))->h.get? b=some u->h'.get? b=some u)
  (ho:∀b,H b=some (.own a)->H' b=some (.own a)) (ht:∀b xs,H b=some (.tup xs)->H' b=some (.tup xs)):bI P w H' h' a o:=by
 induction o with
 | lst xs=>obtain⟨z,its,n,r,e⟩:=x;exact⟨z,its,n,r,k _ _ (.inl rfl) e⟩
 | tup xs=>obtain⟨z,its,r,ob,e,c⟩:=x;exact⟨z,its,r,ob,k _ _ (.inl rfl) e,c⟩
 | dK kvs=>obtain⟨z,y,vs,r,ob,es,ep,e,c⟩:=x;exact⟨z,y,vs,r,ob,es,ep,k _ _ (.inl rfl) e,c⟩
 | dT kvs =>
  obtain⟨z,y,xs,r,ob,es,ep,e,c⟩:=x
  exact⟨z,y,xs,Paired.Gv r fun p q z=>⟨z.1,ht _ _ z.2.1,z.2.2⟩,ob,es,ep,k _ _ (.inl rfl) e,c⟩
 | set S n=>obtain⟨ob,es,ep,t,e,c⟩:=x;exact⟨ob,es,ep,t,k _ _ (.inl rfl) e,c⟩
 | ins C dx fs =>
  obtain⟨d,z,ne,e,mA,⟨od,es,ep,e2,c⟩,r⟩:=x
  exact⟨ho _ d,z,ne,k _ _ (.inl rfl) e,mA,⟨od,es,ep,k _ _ (.inr d) e2,c⟩,r⟩
 | own y=>obtain⟨ob,e⟩:=x;exact⟨ob,k _ _ (.inl rfl) e⟩
 | xd fs=>obtain⟨mA,⟨od,es,ep,e,c⟩,r⟩:=x;exact⟨mA,⟨od,es,ep,k _ _ (.inl rfl) e,c⟩,r⟩
 | rng lo hi=>obtain⟨t,u,v,e⟩:=x;exact⟨t,u,v,k _ _ (.inl rfl) e⟩
 | iZ ob u ih=>obtain⟨e,q⟩:=x;exact⟨k _ _ (.inl rfl) e,ih q⟩
 | tbl ps =>
  have e:h.get? a=some { cls:=.none,data:=.fields ps }:=x
  show h'.get? a=some { cls:=.none,data:=.fields ps }
  exact k a _ (.inl rfl) e
 | met f y =>
  have e:h.get? a=some (PySem.W.methodObj (.ref f) (.ref y)):=x
  show h'.get? a=some (PySem.W.methodObj (.ref f) (.ref y))
  exact k a _ (.inl rfl) e
 | ext φ=>obtain⟨p,⟨o,e⟩,st⟩:=x;exact⟨st _ _ p fun o q=>k _ _ (.inl rfl) q,⟨o,k _ _ (.inl rfl) e⟩,st⟩
theorem kg.lt(x:kg P w H h)(e:H a=some o):a<h.objs.size:=(x a o e).lt
theorem kg.fresh(x:kg P w H h)(e:h.objs.size<=a):H a=none:=by
 cases q:H a with
 | none=>rfl
 | some u=>exact absurd (Nat.lt_of_lt_of_le (x.lt q) e) (Nat.lt_irrefl _)
theorem kg.kept(x:kg P w H h)(k:∀b u,h.get? b=some u->h'.get? b=some u):kg P w H h':=fun a o e =>
 (x a o e).stay (fun b u _ q=>k b u q) (fun _ q=>q) fun _ _ q=>q
theorem kg.laid(x:kg P w H h)(k:∀b u,h.get? b=some u->h'.get? b=some u)(hp:h.objs.size<=a)(new:bI P w (upd H a o) h' a o):kg P w (upd H a o) h':=fun b u e=>by
 have hn:=x.fresh hp
 by_cases hb:b=a
 ·subst hb;rw[aM] at e;cases e;exact new
 ·rw[ak hb] at e
  exact(x b u e).stay (fun c v _ q=>k c v q) (fun c q=>by rw[ak (aH q hn)];exact q) fun c xs q=>by rw[ak (aH q hn)];exact q
end
noncomputable def Rd(H:Hp)(a:Addr)(u:HO):Prop:=H a=some u\/∃o,H a=some (.iZ o u)
theorem Rd.ok{P:Program}{w:World}{H:Hp}{h:Heap}{a:Addr}{u:HO}(r:Rd H a u)(x:kg P w H h):bI P w H h a u:=by
 rcases r with r|⟨o,r⟩
 ·exact x a u r
 ·obtain⟨_,q⟩:=x a _ r
  exact q
noncomputable def KS:Option HO->Prop
 | some (.lst _)=>True
 | some (.dK _)=>True
 | some (.dT _)=>True
 | some (.set _ _)=>True
 | some (.ins _ _ _)=>True
 | some (.ext _)=>True
 | _=>False
section
variable {P:Program} {w:World} {H:Hp} {h h':Heap} {x e:Addr} {o':HO}
theorem kg.write(ok:kg P w H h)(mu:KS (H x))(he:e=x\/H e=some (.own x))(k:∀b u,b≠e->h.get? b=some u->h'.get? b=some u)(Kv:∃u,h'.get? e=some u)
  (new:bI P w (upd H x o') h' x o'):kg P w (upd H x o') h':=fun b u q=>by
 have nown:∀c y,H c=some (.own y)->c≠x:=fun c y r z=>by subst z;rw[r] at mu;exact mu
 have ntup:∀c xs,H c=some (.tup xs)->c≠x:=fun c xs r z=>by subst z;rw[r] at mu;exact mu
 by_cases hb:b=x
 ·subst hb;rw[aM] at q;cases q;exact new
 ·rw[ak hb] at q
  by_cases Gx:b=e
  ·have q':H b=some (.own x):=by
    rcases he with z|z
    ·exact absurd (Gx.trans z) hb
    ·rw[Gx];exact z
   rw[q] at q';cases q'
   obtain⟨v,hv⟩:=Kv
   exact⟨v,by rw[Gx];exact hv⟩
  ·refine(ok b u q).stay (fun c v hc r=>k c v ?_ r) (fun c r=>by rw[ak (nown c b r)];exact r) fun c xs r=>by rw[ak (ntup c xs r)];exact r
   rcases hc with rfl|hc
   ·exact Gx
   ·rintro rfl
    rcases he with z|z
    ·exact nown c b hc z
    ·rw[hc] at z;cases z;exact hb rfl
end
structure Un (fs ex:List Addr) (H H':Hp) (h h':Heap):Prop where
 keep:∀b o,h.get? b=some o->H b=none->b∉fs->b∉ex->h'.get? b=some o
 slot:∀b o,h.get? b=some o->H b=none->b∈fs->b∉ex->∃sl,h'.get? b=some { o with slots:=sl }
 free:∀b o,h.get? b=some o->H b=none->b∉ex->H' b=none
 there:∀b o,h.get? b=some o->b∉ex->∃o',h'.get? b=some o'
 tups:∀b xs,H b=some (.tup xs)->H' b=some (.tup xs)
 frzs:∀b o u,H b=some (.iZ o u)->H' b=some (.iZ o u)
 pU:∀b ps,H b=some (.tbl ps)->∃more,H' b=some (.tbl (ps++more))
section
variable {fs fs' ex ex':List Addr} {H H1 H2:Hp} {h h1 h2 h':Heap} {a x e:Addr} {o:HO}
theorem Un.any(u:Un fs ex H H1 h h1){b:Addr}{ob:Obj}(q:h.get? b=some ob)(n:H b=none)(hx:b∉ex):∃sl,h1.get? b=some { ob with slots:=sl }:=by
 by_cases hb:b∈fs
 ·exact u.slot b ob q n hb hx
 ·exact⟨ob.slots,u.keep b ob q n hb hx⟩
theorem Un.kept(k:∀b u,h.get? b=some u->h'.get? b=some u):Un fs ex H H h h' :=
 ⟨fun b ob q _ _ _=>k b ob q,fun b ob q _ _ _=>⟨ob.slots,k b ob q⟩,fun _ _ _ n _=>n,fun b ob q _=>⟨ob,k b ob q⟩,fun _ _ q=>q,fun _ _ _ q=>q,fun _ ps q=>⟨#[],by rw[q];simp⟩⟩
theorem Un.refl:Un fs ex H H h h:=Un.kept fun _ _ q=>q
theorem Un.laid(k:∀b u,h.get? b=some u->h'.get? b=some u)(hp:h.objs.size<=a)(hn:H a=none):Un fs ex H (upd H a o) h h' where
 keep:=fun b u q _ _ _=>k b u q
 slot:=fun b u q _ _ _=>⟨u.slots,k b u q⟩
 free:=fun b u q n _=>by rw[ak (Nat.ne_of_lt (Nat.lt_of_lt_of_le (Heap.lt_size q) hp))];exact n
 there:=fun b u q _=>⟨u,k b u q⟩
 tups:=fun b xs q=>by rw[ak (aH q hn)];exact q
 frzs:=fun b u xs q=>by rw[ak (aH q hn)];exact q
 pU:=fun b ps q=>⟨#[],by rw[ak (aH q hn),q];simp⟩
theorem Un.write(mu:KS (H x))(he:e=x\/H e=some (.own x))(k:∀b u,b≠e->h.get? b=some u->h'.get? b=some u)(Kv:∃u,h'.get? e=some u):Un fs ex H (upd H x o) h h':=by
 have hx:∀b,H b=none->b≠x:=fun b n z=>by subst z;rw[n] at mu;exact mu
 have hb:∀b,H b=none->b≠e:=fun b n z=>by
  subst z
  rcases he with r|r
  ·exact hx b n r
  ·rw[n] at r;cases r
 have hm:∀b u,H b=some u->¬ KS (some u)->b≠x:=fun b u q nm z=>by subst z;rw[q] at mu;exact nm mu
 refine⟨fun b u q n _ _=>k b u (hb b n) q,fun b u q n _ _=>⟨u.slots,k b u (hb b n) q⟩,fun b u q n _=>by rw[ak (hx b n)];exact n,fun b u q _=>?_,
  fun b xs q=>by rw[ak (hm b _ q fun z=>z)];exact q,fun b u xs q=>by rw[ak (hm b _ q fun z=>z)];exact q,fun b ps q=>⟨#[],by rw[ak (hm b _ q fun z=>z),q];simp⟩⟩
 by_cases Gx:b=e
 ·subst Gx;exact Kv
 ·exact⟨u,k b u Gx q⟩
end
noncomputable def mF(h:Heap)(H:Hp):List Addr:=(List.range h.objs.size).filter fun a=>(H a).isSome
noncomputable def qZ(h:Heap)(H:Hp):Heap:=PySem.W.hideAll h (mF h H)
theorem yz(h:Heap)(H:Hp):(qZ h H).objs.size=h.objs.size:=PySem.W.hideAll_size _ _
theorem z6{h:Heap}{H:Hp}{b:Addr}{o:Obj}(e:h.get? b=some o)(n:H b=none):(qZ h H).get? b=some o :=
 PySem.W.hideAll_get _ e fun hm=>by
  have q:(H b).isSome=true:=(List.mem_filter.mp hm).2
  rw[n] at q;simp at q
theorem CY{h:Heap}{H:Hp}{b:Addr}{o:Obj}(e:(qZ h H).get? b=some o):h.get? b=some o/\H b=none:=by
 have e':h.get? b=some o:=PySem.W.of_hideAll (mF h H) e
 refine⟨e',?_⟩
 cases q:H b with
 | none=>rfl
 | some x =>
  have hm:b∈mF h H:=List.mem_filter.mpr ⟨List.mem_range.mpr (Heap.lt_size e'),by simp[q]⟩
  have z:(qZ h H).get? b=none:=PySem.W.hideAll_none (mF h H) hm
  rw[z] at e;cases e
noncomputable def CZ(g h:Heap)(L:Addr):List (Addr×Obj):=(List.range h.objs.size).filterMap fun a=>if a=L\/(g.get? a).isSome=true then none else (h.get? a).map fun o=>(a,o)
noncomputable def rest(g h:Heap)(L d:Addr):List (Addr×Obj):=(CZ g h L).filter fun p=>decide (p.1≠d)
end L2
namespace L2
open PySem PySem.Spec PyProof.Rows
structure Mod (K:PySem.W.Frag) (mg:Str->Option Value) (base:Heap):Prop where
 Kw:K.In base
 glob:base.Ns mainGlobals mg
 blt:∃mb,base.Ns builtinsNs mb/\∀x:Str,x ≠ "__name__" -> mb x=bootBuiltins x
 nolimit:base.NoLimit
structure Cx where
 prog:Program
 w:World
 K:PySem.W.Frag
 mg:Str->Option Value
 base:Heap
 A:Around
 N:List Str
 s₀:Shared
 H₀:Hp
 env:Env
 outer:List Env
 stack:List Env
 ex:List Addr
 fn:Str->Bool
 calm:Bool
 pn:List (Addr×Obj)
 xe:Value->Shared->Prop
noncomputable def frs(l:List Env):List Addr:=l.filterMap (·.frame)
noncomputable abbrev Cx.fs(X:Cx):List Addr:=frs X.outer
noncomputable def KW(sc:Scope)(x:Str):Prop:=sc.names.lookup x=some .local\/sc.names.lookup x=some .cell\/sc.names.lookup x=some .free
noncomputable def Loc(sc:Scope)(x:Str):Prop:=sc.names.lookup x=some .local\/sc.names.lookup x=some .cell
noncomputable def Look(env:Env)(h:Heap)(m:Str->Option Value)(x:Str)(u:Value):Prop :=
 (env.kindOf x=some .local/\m x=some u)\/((env.kindOf x=some .cell\/env.kindOf x=some .free)/\∃c,env.cells.lookup x=some c/\h.IsCell c (some u))
structure Cx.Ok (X:Cx):Prop where
 mod:Mod X.K X.mg X.base
 kind:X.env.scope.kind=.function
 glob:X.env.globals=mainGlobals
 blt:X.env.builtins=builtinsNs
 above:X.s₀.heap.objs.size<=X.env.locals
 inj:∀x y c,X.env.cells.lookup x=some c->X.env.cells.lookup y=some c->x=y
 has:∀x,(X.env.kindOf x=some .cell\/X.env.kindOf x=some .free)->∃c,X.env.cells.lookup x=some c
 KY:∀x c,X.fn x=true->X.env.cells.lookup x=some c->X.s₀.heap.objs.size<=c
 hd:X.calm=true->X.A.handled=none
 frames:X.A.frames=some X.stack
 stk:X.stack=X.outer\/(X.stack=X.env::X.outer/\X.env.frame=some X.env.locals)
 OG:∀b∈X.ex,b≠X.env.locals/\∀x c,X.env.cells.lookup x=some c->c≠b
 bs:∀b o,X.base.get? b=some o->X.s₀.heap.get? b=some o/\X.H₀ b=none
 FE:X.base.objs.size<=X.s₀.heap.objs.size
 kh:∀b o,X.base.get? b=some o->b∉X.ex
 z7:∀b∈X.ex,b∉X.fs
 mY:X.s₀.heap.FunFrames X.base X.outer
 Gy:∀b∈X.fs,X.H₀ b=none
structure Inv (X:Cx) (pins:List (Addr×Obj)) (σ:List (Option V)) (H:Hp) (s:Shared):Prop where
 ok:X.Ok
 os:s.os=X.s₀.os
 bare:AllBare s.gens
 base:Un X.fs X.ex X.H₀ H X.s₀.heap s.heap
 loc:∃m,s.heap.Ns X.env.locals m/\∀(i:Nat) (x:Str) (v:V),X.N[i]?=some x -> σ[i]?=some (some v)->KW X.env.scope x->∃u,RelV v u/\Look X.env s.heap m x u
 cell:∀x c,X.env.cells.lookup x=some c->∃v,s.heap.IsCell c v
 free:H X.env.locals=none
 gu:∀x c,X.env.cells.lookup x=some c->H c=none
 pin:∀p∈X.pn++pins,s.heap.get? p.1=some p.2/\H p.1=none/\p.1≠X.env.locals/\p.1∉X.fs/\∀v,p.2.data≠.cell v
 hok:kg X.prog X.w H s.heap
 len:σ.length=X.N.length
section
variable {X:Cx} {pins:List (Addr×Obj)} {σ:List (Option V)} {H H':Hp} {s:Shared} {h':Heap}
theorem Cx.Ok.OH(ok:X.Ok){b:Addr}{o:Obj}(e:X.base.get? b=some o):b∉X.fs:=fun hb=>by
 have:=(ok.mY.mem hb).1
 rw[e] at this;cases this
theorem Inv.bs(I:Inv X pins σ H s):∀b o,X.base.get? b=some o->s.heap.get? b=some o/\H b=none:=fun b o e =>
 ⟨I.base.keep b o (I.ok.bs b o e).1 (I.ok.bs b o e).2 (I.ok.OH e) (I.ok.kh b o e),I.base.free b o (I.ok.bs b o e).1 (I.ok.bs b o e).2 (I.ok.kh b o e)⟩
theorem Inv.bk(I:Inv X pins σ H s):∀b o,X.base.get? b=some o->s.heap.get? b=some o:=fun b o e=>(I.bs b o e).1
theorem Inv.mod(I:Inv X pins σ H s):Mod X.K X.mg X.base:=I.ok.mod
theorem Inv.lD(I:Inv X pins σ H s):X.K.In s.heap:=I.ok.mod.Kw.keeps I.bk
theorem Inv.lt(I:Inv X pins σ H s):X.env.locals<s.heap.objs.size:=let ⟨_,hn,_⟩:=I.loc;hn.lt
theorem Inv.sz(I:Inv X pins σ H s):X.s₀.heap.objs.size<=s.heap.objs.size:=Nat.le_trans I.ok.above (Nat.le_of_lt I.lt)
theorem Inv.OI(I:Inv X pins σ H s){a:Addr}(h:s.heap.objs.size<=a):a∉X.fs:=fun hb=>by
 obtain⟨_,o,ho,_⟩:=I.ok.mY.mem hb
 exact absurd (Nat.lt_of_lt_of_le (Heap.lt_size ho) (Nat.le_trans I.sz h)) (Nat.lt_irrefl _)
theorem Inv.cne(I:Inv X pins σ H s):∀x c,X.env.cells.lookup x=some c->c≠X.env.locals:=fun x c e z=>by
 obtain⟨v,o,ho,hd⟩:=I.cell x c e
 obtain⟨m,⟨o',es,ep,ho',hd',_⟩,_⟩:=I.loc
 rw[z,ho'] at ho;cases ho;rw[hd'] at hd;cases hd
theorem Inv.mY(I:Inv X pins σ H s):s.heap.FunFrames X.base X.outer:=by
 have all:∀(l:List Env),(∀b∈frs l,b∈X.fs)->X.s₀.heap.FunFrames X.base l->s.heap.FunFrames X.base l:=by
  intro l
  induction l with
  | nil=>intro _ _;trivial
  | cons env r ih =>
   intro hs hl
   obtain⟨hk,⟨L,o,hf,hn,ho,hd⟩,hr⟩:=hl
   have hL:L∈X.fs:=hs L (by unfold frs;rw[List.filterMap_cons,hf];exact List.mem_cons_self)
   obtain⟨sl,e⟩:=I.base.slot L o ho (I.ok.Gy L hL) hL fun z=>I.ok.z7 L z hL
   exact⟨hk,⟨L,_,hf,hn,e,hd⟩,ih (fun b hb=>hs b (by unfold frs;rw[List.filterMap_cons,hf];exact List.mem_cons_of_mem _ hb)) hr⟩
 exact all X.outer (fun _ hb=>hb) I.ok.mY
theorem Inv.stack(I:Inv X pins σ H s):s.heap.FunFrames X.base X.stack:=by
 rcases I.ok.stk with e|⟨e,hf⟩
 ·rw[e];exact I.mY
 ·rw[e]
  obtain⟨m,hn,_⟩:=I.loc
  refine .cons (by rw[I.ok.kind];decide) hf hn ?_ I.mY
  exact Heap.get?_none_of_le (Nat.le_trans I.ok.FE I.ok.above)
theorem Inv.vh(I:Inv X pins σ H s):∀b∈frs X.stack,b∈X.env.locals::X.fs:=fun b hb=>by
 rcases I.ok.stk with e|⟨e,hf⟩
 ·rw[e] at hb;exact List.mem_cons_of_mem _ hb
 ·rw[e] at hb
  unfold frs at hb
  rw[List.filterMap_cons,hf] at hb
  exact hb
theorem Inv.wR(I:Inv X pins σ H s):∀b∈frs X.stack,H b=none:=fun b hb=>by
 rcases List.mem_cons.mp (I.vh b hb) with e|hb
 ·rw[e];exact I.free
 ·obtain⟨_,o,ho,_⟩:=I.ok.mY.mem hb
  exact I.base.free b o ho (I.ok.Gy b hb) fun z=>I.ok.z7 b z hb
theorem Inv.step{g':Array GenState}{t':Nat}{d':Drawn}{ch:List Addr}(I:Inv X pins σ H s)
  (hch:∀b∈ch,(b∈X.ex\/X.s₀.heap.objs.size<=b)/\b≠X.env.locals/\(∀x c,X.env.cells.lookup x=some c->c≠b)/\∀p∈X.pn++pins,p.1≠b)
  (keep:∀b o,b≠X.env.locals->b∉X.fs->b∉ch->s.heap.get? b=some o->H b=none->h'.get? b=some o)
  (slot:∀b o,b≠X.env.locals->b∈X.fs->b∉ch->s.heap.get? b=some o->H b=none->∃sl,h'.get? b=some { o with slots:=sl }) (free:∀b o,b∉ch->s.heap.get? b=some o->H b=none->H' b=none)
  (there:∀b o,b∉ch->s.heap.get? b=some o->∃o',h'.get? b=some o')
  (tups:∀b xs,H b=some (.tup xs)->H' b=some (.tup xs)) (frzs:∀b o u,H b=some (.iZ o u)->H' b=some (.iZ o u)) (pU:∀b ps,H b=some (.tbl ps)->∃more,H' b=some (.tbl (ps++more)))
  (ns:∀m,s.heap.Ns X.env.locals m->h'.Ns X.env.locals m) (hok:kg X.prog X.w H' h') (hg:AllBare g') :
  Inv X pins σ H' { s with heap:=h',gens:=g',drawn:=d',toks:=t' }:=by
 have neL:∀b o,X.s₀.heap.get? b=some o->b≠X.env.locals:=fun b o e=>Nat.ne_of_lt (Nat.lt_of_lt_of_le (Heap.lt_size e) I.ok.above)
 have neC:∀b o,X.s₀.heap.get? b=some o->b∉X.ex->b∉ch:=fun b o e hx hb=>by
  rcases(hch b hb).1 with z|z
  ·exact hx z
  ·exact absurd (Nat.lt_of_lt_of_le (Heap.lt_size e) z) (Nat.lt_irrefl _)
 have cellK:∀x c,X.env.cells.lookup x=some c->∀v,s.heap.IsCell c v->h'.IsCell c v:=fun x c e v ⟨o,ho,hd⟩=>by
  have KZ:c∉ch:=fun z=>(hch c z).2.2.1 x c e rfl
  by_cases hc:c∈X.fs
  ·obtain⟨sl,q⟩:=slot c o (I.cne x c e) hc KZ ho (I.gu x c e)
   exact⟨_,q,hd⟩
  ·exact⟨o,keep c o (I.cne x c e) hc KZ ho (I.gu x c e),hd⟩
 refine⟨I.ok,I.os,hg,⟨fun b o e n hb hx=>?_,fun b o e n hb hx=>?_,fun b o e n hx=>?_,fun b o e hx=>?_,fun b xs e=>tups b xs (I.base.tups b xs e),fun b o xs e=>frzs b o xs (I.base.frzs b o xs e),fun b ps e=>?_⟩,?_,fun x c e=>?_,?_,fun x c e=>?_,fun p hp=>?_,hok,I.len⟩
 ·exact keep b o (neL b o e) hb (neC b o e hx) (I.base.keep b o e n hb hx) (I.base.free b o e n hx)
 ·obtain⟨sl,e1⟩:=I.base.slot b o e n hb hx
  obtain⟨TR,e2⟩:=slot b _ (neL b o e) hb (neC b o e hx) e1 (I.base.free b o e n hx)
  exact⟨TR,e2⟩
 ·obtain⟨o',e1⟩:=I.base.there b o e hx
  exact free b o' (neC b o e hx) e1 (I.base.free b o e n hx)
 ·obtain⟨o',e1⟩:=I.base.there b o e hx
  exact there b o' (neC b o e hx) e1
 ·obtain⟨m1,e1⟩:=I.base.pU b ps e
  obtain⟨m2,e2⟩:=pU b _ e1
  exact⟨m1++m2,by rw[e2,Array.append_assoc]⟩
 ·obtain⟨m,hn,hl⟩:=I.loc
  refine⟨m,ns m hn,fun i x v e1 e2 e3=>?_⟩
  obtain⟨u,r,l⟩:=hl i x v e1 e2 e3
  refine⟨u,r,?_⟩
  rcases l with l|⟨k,c,e,z⟩
  ·exact .inl l
  ·exact .inr ⟨k,c,e,cellK x c e _ z⟩
 ·obtain⟨v,z⟩:=I.cell x c e
  exact⟨v,cellK x c e v z⟩
 ·obtain⟨m,⟨o,_,_,ho,_⟩,_⟩:=I.loc
  exact free _ o (fun z=>(hch _ z).2.1 rfl) ho I.free
 ·obtain⟨v,o,ho,hd⟩:=I.cell x c e
  exact free c o (fun z=>(hch c z).2.2.1 x c e rfl) ho (I.gu x c e)
 ·obtain⟨e,n,ne,nf,d⟩:=I.pin p hp
  have KZ:p.1∉ch:=fun z=>(hch p.1 z).2.2.2 p hp rfl
  exact⟨keep p.1 p.2 ne nf KZ e n,free p.1 p.2 KZ e n,ne,nf,d⟩
theorem Inv.un{t':Nat}(I:Inv X pins σ H s)(u:Un X.fs [] H H' s.heap h')(hok:kg X.prog X.w H' h'):Inv X pins σ H' { s with heap:=h',toks:=t' }:=by
 obtain⟨m,⟨o,es,ep,ho,r⟩,_⟩:=id I.loc
 obtain⟨sl,hL⟩:=u.any ho I.free (by simp)
 exact I.step (g':=s.gens) (d':=s.drawn) (ch:=[]) (fun _ z=>nomatch z) (fun b o _ hb _ e n=>u.keep b o e n hb (by simp)) (fun b o _ hb _ e n=>u.slot b o e n hb (by simp)) (fun b o _ e n=>u.free b o e n (by simp)) (fun b o _ e=>u.there b o e (by simp)) u.tups u.frzs u.pU (fun m' hm=>by
  obtain⟨o',es',OJ,ho',r'⟩:=hm
  rw[ho] at ho';cases ho'
  exact⟨_,es',OJ,hL,r'⟩) hok I.bare
theorem Inv.call{g':Array GenState}{t':Nat}{d':Drawn}{ch:List Addr}(I:Inv X pins σ H s)(u:Un (frs X.stack) ch H H' s.heap h')(hok:kg X.prog X.w H' h')(hg:AllBare g')
  (hch:∀b∈ch,(b∈X.ex\/X.s₀.heap.objs.size<=b)/\b≠X.env.locals/\(∀x c,X.env.cells.lookup x=some c->c≠b)/\∀p∈X.pn++pins,p.1≠b) :
  Inv X pins σ H' { s with heap:=h',gens:=g',drawn:=d',toks:=t' }:=by
 obtain⟨m,⟨o,es,ep,ho,r⟩,_⟩:=id I.loc
 obtain⟨sl,hL⟩:=u.any ho I.free fun z=>(hch _ z).2.1 rfl
 exact I.step (ch:=ch) hch (fun b o hL hb hc e n=>u.keep b o e n (fun z=>(List.mem_cons.mp (I.vh b z)).elim hL hb) hc) (fun b o _ _ hc e n=>u.any e n hc) (fun b o hc e n=>u.free b o e n hc) (fun b o hc e=>u.there b o e hc) u.tups u.frzs u.pU (fun m' hm=>by
  obtain⟨o',es',OJ,ho',r'⟩:=hm
  rw[ho] at ho';cases ho'
  exact⟨_,es',OJ,hL,r'⟩) hok hg
theorem Inv.turned{t':Nat}{it:Addr}(I:Inv X pins σ H s)(k:∀b o,b≠it->s.heap.get? b=some o->h'.get? b=some o)(hn:H it=none)(hL:it≠X.env.locals)
  (h1:it∈X.ex\/X.s₀.heap.objs.size<=it) (h2:∀x c,X.env.cells.lookup x=some c->c≠it) (h3:∀p∈X.pn++pins,p.1≠it):Inv X pins σ H { s with heap:=h',toks:=t' }:=by
 have K0:∀b u,H b=some u->b≠it:=fun b u e z=>by rw[z,hn] at e;cases e
 refine I.step (g':=s.gens) (d':=s.drawn) (ch:=[it]) (fun b hb=>?_) (fun b o _ _ hc e _=>k b o (fun z=>hc (by simp[z])) e) (fun b o _ _ hc e _=>⟨o.slots,k b o (fun z=>hc (by simp[z])) e⟩) (fun _ _ _ _ n=>n)
  (fun b o hc e=>⟨o,k b o (fun z=>hc (by simp[z])) e⟩) (fun _ _ e=>e) (fun _ _ _ e=>e) (fun b ps e=>⟨#[],by rw[e];simp⟩) (fun m hm=>?_) (fun b u e=>?_) I.bare
 ·have e:b=it:=by simpa using hb
  subst e
  exact⟨h1,hL,h2,h3⟩
 ·obtain⟨o,es,ep,ho,r⟩:=hm
  exact⟨o,es,ep,k _ o (Ne.symm hL) ho,r⟩
 ·refine(I.hok b u e).stay (fun c v hc q=>k c v ?_ q) (fun _ q=>q) fun _ _ q=>q
  rcases hc with z|z
  ·rw[z];exact K0 b u e
  ·exact K0 c _ z
theorem Inv.tok(I:Inv X pins σ H s)(t:Nat):Inv X pins σ H { s with toks:=t }:=I.un (h':=s.heap) (t':=t) Un.refl I.hok
theorem Inv.kept{t':Nat}(I:Inv X pins σ H s)(k:∀b u,s.heap.get? b=some u->h'.get? b=some u):Inv X pins σ H { s with heap:=h',toks:=t' }:=I.un (Un.kept k) (I.hok.kept k)
theorem Inv.laid{a:Addr}{o:HO}{t':Nat}(I:Inv X pins σ H s)(k:∀b u,s.heap.get? b=some u->h'.get? b=some u)(hp:s.heap.objs.size<=a)(new:bI X.prog X.w (upd H a o) h' a o) :
  Inv X pins σ (upd H a o) { s with heap:=h',toks:=t' }:=I.un (Un.laid k hp (I.hok.fresh hp)) (I.hok.laid k hp new)
theorem Inv.write{x e:Addr}{o:HO}{t':Nat}(I:Inv X pins σ H s)(mu:KS (H x))(he:e=x\/H e=some (.own x))(k:∀b u,b≠e->s.heap.get? b=some u->h'.get? b=some u)(Kv:∃u,h'.get? e=some u)
  (new:bI X.prog X.w (upd H x o) h' x o):Inv X pins σ (upd H x o) { s with heap:=h',toks:=t' }:=I.un (Un.write mu he k Kv) (I.hok.write mu he k Kv new)
theorem Inv.wU{FF:List (Addr×Obj)}(I:Inv X pins σ H s)(h:∀p∈FF,s.heap.get? p.1=some p.2/\H p.1=none/\p.1≠X.env.locals/\p.1∉X.fs/\∀v,p.2.data≠.cell v):Inv X FF σ H s :=
 ⟨I.ok,I.os,I.bare,I.base,I.loc,I.cell,I.free,I.gu,fun p hp=>(List.mem_append.mp hp).elim (fun z=>I.pin p (List.mem_append_left _ z)) (h p),I.hok,I.len⟩
theorem sU{N:List Str}(hN:N.Nodup){i j:Nat}{x:Str}(a:N[i]?=some x)(b:N[j]?=some x):i=j:=by
 obtain⟨h1,e1⟩:=List.getElem?_eq_some_iff.mp a
 obtain⟨h2,e2⟩:=List.getElem?_eq_some_iff.mp b
 exact(List.getElem_inj hN).mp (e1.trans e2.symm)
theorem qi{M:Model}{A:Around}{E:Value->Shared->Prop}{i:Nat}{x:Str}{v:V}{u:Value}{Q:Unit->Shared->Prop}(I:Inv X pins σ H s)(hN:X.N.Nodup)(hi:X.N[i]?=some x)(hx:Loc X.env.scope x)(r:RelV v u)
  (h:∀s',Inv X pins (σ.set i (some v)) H s'->(∃a,Heap.SameBut a s.heap s'.heap/\(a=X.env.locals\/X.env.cells.lookup x=some a))->Q () s') (hf:X.fn x=true\/X.env.scope.names.lookup x=some .local:=by first|exact .inl rfl|exact .inr rfl|assumption):wpAny M A (storeName X.env x u) Q E s:=by
 obtain⟨m,hn,hl⟩:=id I.loc
 have hcls:(X.env.scope.kind==.class||(X.env.scope.kind==.module&&X.env.locals != X.env.globals))=false:=by rw[I.ok.kind];rfl
 have R5:i < σ.length:=by rw[I.len];exact(List.getElem?_eq_some_iff.mp hi).1
 have cne:=I.cne
 have tracked:∀{a:Addr} {h':Heap},(∃o,s.heap.get? a=some o/\H a=none)->Heap.SameBut a s.heap h'->kg X.prog X.w H h':=fun {a h'} ha hs b ob e=>by
  obtain⟨_,_,hfree⟩:=ha
  refine(I.hok b ob e).stay (fun c w' hc q=>(hs.2 c ?_).trans q) (fun _ q=>q) fun _ _ q=>q
  rintro rfl
  rcases hc with rfl|hc
  ·rw[hfree] at e;cases e
  ·rw[hfree] at hc;cases hc
 rcases hx with hk|hk
 ·refine wpAny_storeName_local hk hn (fun h' hn' hs=>?_) hcls
  obtain⟨oL,_,_,TU,_⟩:=id hn
  refine h _ ⟨I.ok,I.os,I.bare,⟨fun b o e n hb hx=>?_,fun b o e n hb hx=>?_,I.base.free,fun b o e hx=>?_,I.base.tups,I.base.frzs,I.base.pU⟩,⟨_,hn',fun j y v' e1 e2 e3=>?_⟩,fun y c e=>?_,I.free,I.gu,fun p hp=>?_,tracked ⟨oL,TU,I.free⟩ hs,by simpa using I.len⟩ ⟨_,hs,.inl rfl⟩
  ·exact(hs.2 b (Nat.ne_of_lt (Nat.lt_of_lt_of_le (Heap.lt_size e) I.ok.above))).trans (I.base.keep b o e n hb hx)
  ·obtain⟨sl,e1⟩:=I.base.slot b o e n hb hx
   exact⟨sl,(hs.2 b (Nat.ne_of_lt (Nat.lt_of_lt_of_le (Heap.lt_size e) I.ok.above))).trans e1⟩
  ·obtain⟨o',e1⟩:=I.base.there b o e hx
   exact⟨o',(hs.2 b (Nat.ne_of_lt (Nat.lt_of_lt_of_le (Heap.lt_size e) I.ok.above))).trans e1⟩
  ·by_cases hj:j=i
   ·subst hj
    rw[hi] at e1;cases e1
    rw[List.getElem?_set_self R5] at e2
    cases e2
    exact⟨u,r,.inl ⟨hk,by simp⟩⟩
   ·rw[List.getElem?_set_ne (Ne.symm hj)] at e2
    obtain⟨u',r',q⟩:=hl j y v' e1 e2 e3
    refine⟨u',r',?_⟩
    rcases q with ⟨k,e⟩|⟨k,c,e,z⟩
    ·refine .inl ⟨k,?_⟩
     have:y≠x:=fun e=>hj (sU hN e1 (e▸hi))
     simp[this,e]
    ·exact .inr ⟨k,c,e,z.sameBut hs (cne y c e)⟩
  ·obtain⟨w',z⟩:=I.cell y c e
   exact⟨w',z.sameBut hs (cne y c e)⟩
  ·obtain⟨e,n,ne,nf,d⟩:=I.pin p hp
   exact⟨(hs.2 p.1 ne).trans e,n,ne,nf,d⟩
 ·have hfn:X.fn x=true:=by
   rcases hf with z|z
   ·exact z
   ·rw[z] at hk;cases hk
  obtain⟨c,hc⟩:=I.ok.has x (.inl hk)
  obtain⟨w',z⟩:=I.cell x c hc
  refine wpAny_storeName_cell I.ok.kind hk hc z (fun h' hc' hs=>?_)
  obtain⟨oc,hoc,z8⟩:=id z
  refine h { s with heap:=h' } ⟨I.ok,I.os,I.bare,⟨fun b o e n hb hx=>?_,fun b o e n hb hx=>?_,I.base.free,fun b o e hx=>?_,I.base.tups,I.base.frzs,I.base.pU⟩,⟨m,hn.sameBut hs (Ne.symm (cne x c hc)),fun j y v' e1 e2 e3=>?_⟩,fun y c' e=>?_,I.free,I.gu,fun p hp=>?_,tracked ⟨oc,hoc,I.gu x c hc⟩ hs,by simpa using I.len⟩ ⟨c,hs,.inr hc⟩
  ·exact(hs.2 b (Nat.ne_of_lt (Nat.lt_of_lt_of_le (Heap.lt_size e) (I.ok.KY x c hfn hc)))).trans (I.base.keep b o e n hb hx)
  ·obtain⟨sl,e1⟩:=I.base.slot b o e n hb hx
   exact⟨sl,(hs.2 b (Nat.ne_of_lt (Nat.lt_of_lt_of_le (Heap.lt_size e) (I.ok.KY x c hfn hc)))).trans e1⟩
  ·obtain⟨o',e1⟩:=I.base.there b o e hx
   exact⟨o',(hs.2 b (Nat.ne_of_lt (Nat.lt_of_lt_of_le (Heap.lt_size e) (I.ok.KY x c hfn hc)))).trans e1⟩
  ·by_cases hj:j=i
   ·subst hj
    rw[hi] at e1;cases e1
    rw[List.getElem?_set_self R5] at e2
    cases e2
    exact⟨u,r,.inr ⟨.inl hk,c,hc,hc'⟩⟩
   ·rw[List.getElem?_set_ne (Ne.symm hj)] at e2
    obtain⟨u',r',q⟩:=hl j y v' e1 e2 e3
    refine⟨u',r',?_⟩
    rcases q with q|⟨k,c',e,z'⟩
    ·exact .inl q
    ·refine .inr ⟨k,c',e,z'.sameBut hs ?_⟩
     rintro rfl
     exact hj (sU hN e1 (I.ok.inj _ _ _ e hc▸hi))
  ·by_cases hcc:c'=c
   ·subst hcc;exact⟨_,hc'⟩
   ·obtain⟨w2,z2⟩:=I.cell y c' e
    exact⟨w2,z2.sameBut hs hcc⟩
  ·obtain⟨e,n,ne,nf,d⟩:=I.pin p hp
   refine⟨(hs.2 p.1 ?_).trans e,n,ne,nf,d⟩
   intro q
   rw[q,hoc] at e
   have q':oc=p.2:=Option.some.inj e
   exact d w' (by rw[<-q'];exact z8)
theorem nN{M:Model}{A:Around}{E:Value->Shared->Prop}{i:Nat}{x:Str}{v:V}{u:Value}{Q:Unit->Shared->Prop}(I:Inv X pins σ H s)(hN:X.N.Nodup)(hi:X.N[i]?=some x)(hx:Loc X.env.scope x)(r:RelV v u)
  (h:∀s',Inv X pins (σ.set i (some v)) H s'->Q () s') (hf:X.fn x=true\/X.env.scope.names.lookup x=some .local:=by first|exact .inl rfl|exact .inr rfl|assumption):wpAny M A (storeName X.env x u) Q E s :=
 qi I hN hi hx r (fun s' I' _=>h s' I') hf
theorem Inv.K1{s':Shared}{ch:List Addr}(I:Inv X pins σ H s)(ho:s'.os=s.os)(u:Un (frs X.stack) ch H H' s.heap s'.heap)(hok:kg X.prog X.w H' s'.heap)(hg:AllBare s'.gens)
  (hch:∀b∈ch,(b∈X.ex\/X.s₀.heap.objs.size<=b)/\b≠X.env.locals/\(∀x c,X.env.cells.lookup x=some c->c≠b)/\∀p∈X.pn++pins,p.1≠b):Inv X pins σ H' s':=by
 obtain⟨h',g',d',t',o'⟩:=s'
 have e:o'=s.os:=ho
 subst e
 exact I.call (g':=g') (t':=t') (d':=d') u hok hg hch
end
noncomputable abbrev XK:=Value->Option Addr->Hp->Prop
noncomputable abbrev St:=List (Option V)
noncomputable abbrev VK:=V->Hp->Prop
noncomputable abbrev TE:=St->Hp->VK->Prop
noncomputable abbrev TT:=St->Hp->(Bool->Hp->Prop)->Prop
noncomputable abbrev TA:=St->Hp->(List V->Hp->Prop)->Prop
structure Ends where
 nx:St->Hp->Prop
 rt:VK
 bk:St->Hp->Prop:=fun _ _=>False
 ct:St->Hp->Prop:=fun _ _=>False
noncomputable abbrev TS:=Ends->St->Hp->Prop
noncomputable def EP(X:Cx)(pins:List (Addr×Obj))(σ:St)(Q:VK)(u:Value)(s':Shared):Prop:=∃v H',Inv X pins σ H' s'/\RelV v u/\Q v H'
noncomputable def TP(X:Cx)(pins:List (Addr×Obj))(σ:St)(Q:Bool->Hp->Prop)(b:Bool)(s':Shared):Prop:=∃H',Inv X pins σ H' s'/\Q b H'
noncomputable def AP(X:Cx)(pins:List (Addr×Obj))(σ:St)(Q:List V->Hp->Prop)(us:List Value)(s':Shared):Prop:=∃vs H',Inv X pins σ H' s'/\Vals vs us/\Q vs H'
noncomputable def SP(X:Cx)(pins:List (Addr×Obj))(D:Ends)(f:Flow)(s':Shared):Prop :=
 match f with
 | .next=>∃σ' H',Inv X pins σ' H' s'/\D.nx σ' H'
 | .brk=>∃σ' H',Inv X pins σ' H' s'/\D.bk σ' H'
 | .cont=>∃σ' H',Inv X pins σ' H' s'/\D.ct σ' H'
 | .ret u=>∃v σ' H',Inv X pins σ' H' s'/\RelV v u/\D.rt v H'
noncomputable def PE(X:Cx)(e:Expr)(t:TE):Prop :=
 ∀(pins:List (Addr×Obj)) (s:Shared) (σ:St) (H:Hp) (Q:VK),Inv X pins σ H s->t σ H Q->wpAny (model X.prog X.w) X.A (eval e X.env) (EP X pins σ Q) X.xe s
noncomputable def PT(X:Cx)(e:Expr)(t:TT):Prop :=
 ∀(pins:List (Addr×Obj)) (s:Shared) (σ:St) (H:Hp) (Q:Bool->Hp->Prop),Inv X pins σ H s->t σ H Q->wpAny (model X.prog X.w) X.A (isTrue e X.env (eval e X.env)) (TP X pins σ Q) X.xe s
noncomputable def PW(X:Cx)(e:Expr)(t:TT):Prop :=
 ∀(whole:Sem Value) (pins:List (Addr×Obj)) (s:Shared) (σ:St) (H:Hp) (Q:Bool->Hp->Prop),Inv X pins σ H s->t σ H Q->wpAny (model X.prog X.w) X.A (isTrue e X.env whole) (TP X pins σ Q) X.xe s
theorem PW.pt{X:Cx}{e:Expr}{t:TT}(h:PW X e t):PT X e t:=h _
noncomputable def PA(X:Cx)(es:List Expr)(t:TA):Prop :=
 ∀(pos:Pos) (pins:List (Addr×Obj)) (s:Shared) (σ:St) (H:Hp) (Q:List V->Hp->Prop),Inv X pins σ H s->t σ H Q->wpAny (model X.prog X.w) X.A (spliced (backTo pos (starEach es X.env))) (AP X pins σ Q) X.xe s
noncomputable def PS(X:Cx)(st:Stmt)(t:TS):Prop :=
 ∀(pins:List (Addr×Obj)) (s:Shared) (σ:St) (H:Hp) (D:Ends),Inv X pins σ H s->t D σ H->wpAny (model X.prog X.w) X.A (exec st X.env) (SP X pins D) X.xe s
noncomputable def vj(X:Cx)(st:List Stmt)(t:TS):Prop :=
 ∀(pins:List (Addr×Obj)) (s:Shared) (σ:St) (H:Hp) (D:Ends),Inv X pins σ H s->t D σ H->wpAny (model X.prog X.w) X.A (execs st X.env) (SP X pins D) X.xe s
theorem bZ{α:Type}{t:Sem α}{Q Q':α -> Shared->Prop}{M:Model}{A:Around}{E:Value->Shared->Prop}{s:Shared}(h:wpAny M A t Q E s)(hQ:∀a s,Q a s->Q' a s):wpAny M A t Q' E s:=wpAny_mono h hQ fun _ _ x=>x
end L2
namespace L2
open PySem PySem.Spec PyProof.Rows
section
variable {X:Cx}
theorem bin{a b:Expr}{ta tb:TE}(ha:PE X a ta)(hb:PE X b tb){pins:List (Addr×Obj)}{s:Shared}{σ:St}{H:Hp}{R:V->V->Hp->Prop}(I:Inv X pins σ H s)(h:ta σ H fun x H1=>tb σ H1 fun y H2=>R x y H2)
  {α:Type} {Q:α -> Shared->Prop} {f:Value->Value->Sem α}
  (hf:∀v u s2 x y H2,Inv X pins σ H2 s2->RelV x v->RelV y u->R x y H2->wpAny (model X.prog X.w) X.A (f v u) Q X.xe s2) :
  wpAny (model X.prog X.w) X.A (eval a X.env) (fun v s₁=>wpAny (model X.prog X.w) X.A (eval b X.env) (fun u s₂=>wpAny (model X.prog X.w) X.A (f v u) Q X.xe s₂) X.xe s₁) X.xe s:=by
 refine bZ (ha pins s σ H _ I h) fun v s1 aC=>?_
 obtain⟨x,H1,I1,r1,q1⟩:=aC
 refine bZ (hb pins s1 σ H1 _ I1 q1) fun u s2 aC=>?_
 obtain⟨y,H2,I2,r2,q2⟩:=aC
 exact hf v u s2 x y H2 I2 r1 r2 q2
noncomputable def pV(i:Nat):TE:=fun σ H Q=>∃v,σ[i]?=some (some v)/\Q v H
noncomputable def tC(v:V):TE:=fun _ H Q=>Q v H
theorem vn{i:Nat}{x:Str}{pos:Pos}(hN:X.N[i]?=some x)(hv:KW X.env.scope x)(hd:(x==("__debug__":Str))=false:=by decide)(hcd:(x==("__classdict__":Str))=false:=by decide):PE X (.Name x pos) (pV i):=by
 intro pins s σ H Q I h
 obtain⟨v,e,h⟩:=h
 obtain⟨m,hn,hl⟩:=I.loc
 obtain⟨u,r,l⟩:=hl i x v hN e hv
 have fin:EP X pins σ Q u s:=⟨v,H,I,r,h⟩
 rcases l with ⟨hk,hm⟩|⟨hk,c,hc,hcell⟩
 ·exact wpAny_Name (wpAny_loadName_local I.ok.kind hk hn hm fin) hd
 ·rcases hk with hk|hk
  ·exact wpAny_Name (wpAny_loadName_cell I.ok.kind hk hc hcell fin) hd
  ·exact wpAny_Name (wpAny_loadName_free I.ok.kind hk hc hcell fin hcd) hd
theorem Gz{i j pos}:PE X (.Constant (.int i) j pos) (tC (.int i)):=fun _ _ _ H _ I h=>wpAny_Constant_int ⟨.int i,H,I.tok _,⟨_,rfl⟩,h⟩
theorem K2{b j pos}:PE X (.Constant (.bool b) j pos) (tC (.bl b)):=fun _ _ _ H _ I h=>Constant_bool ⟨.bl b,H,I,rfl,h⟩
theorem GA{j pos}:PE X (.Constant .none j pos) (tC .non):=fun _ _ _ H _ I h=>Constant_none ⟨.non,H,I,rfl,h⟩
theorem GB{x j pos}:PE X (.Constant (.str x) j pos) (tC (.str x)):=fun _ _ _ H _ I h=>Calls.Constant_str ⟨.str x,H,I.tok _,⟨_,rfl⟩,h⟩
noncomputable def Gl(X:Cx)(x:Str):Prop:=X.env.kindOf x=some .globalImplicit
theorem jK{E:Value->Shared->Prop}{pins:List (Addr×Obj)}{s:Shared}{σ:St}{H:Hp}{x:Str}{u:Value}{pos:Pos}{Q:Value->Shared->Prop}(I:Inv X pins σ H s)(hg:Gl X x)(hm:X.mg x=some u)(h:Q u s)
  (hd:(x==("__debug__":Str))=false:=by decide):wpAny (model X.prog X.w) X.A (eval (.Name x pos) X.env) Q E s :=
 Calls.Name_function_global I.ok.kind hg (Calls.loadGlobal_global (by rw[I.ok.glob];exact I.mod.glob.keeps I.bk) hm h) hd
theorem gC{E:Value->Shared->Prop}{pins:List (Addr×Obj)}{s:Shared}{σ:St}{H:Hp}{x:Str}{u:Value}{pos:Pos}{Q:Value->Shared->Prop}(I:Inv X pins σ H s)(hg:Gl X x)(hm:X.mg x=none)(hv:bootBuiltins x=some u)(h:Q u s)
  (hn:x ≠ "__name__":=by decide) (hd:(x==("__debug__":Str))=false:=by decide):wpAny (model X.prog X.w) X.A (eval (.Name x pos) X.env) Q E s:=by
 obtain⟨mb,h1,h2⟩:=I.mod.blt
 exact Calls.Name_function_global I.ok.kind hg (Calls.loadGlobal_builtin (by rw[I.ok.glob];exact I.mod.glob.keeps I.bk) hm (by rw[I.ok.blt];exact h1.keeps I.bk) ((h2 x hn).trans hv) h) hd
theorem Dc{x:Str}{v:V}{u:Value}{pos:Pos}(hg:Gl X x)(hm:X.mg x=some u)(r:RelV v u)(hd:(x==("__debug__":Str))=false:=by decide):PE X (.Name x pos) (tC v) :=
 fun _ _ _ H _ I h=>jK I hg hm ⟨v,H,I,r,h⟩ hd
theorem Dd{x:Str}{v:V}{u:Value}{pos:Pos}(hg:Gl X x)(hm:X.mg x=none)(hv:bootBuiltins x=some u)(r:RelV v u)(hn:x ≠ "__name__":=by decide)(hd:(x==("__debug__":Str))=false:=by decide):PE X (.Name x pos) (tC v) :=
 fun _ _ _ H _ I h=>gC I hg hm hv ⟨v,H,I,r,h⟩ hn hd
variable {a b:Expr} {ta tb:TE} {pos:Pos}
variable {tA N9:TT} {rest:List Expr}
noncomputable def OL(t u:TT):TT:=fun σ H Q=>t σ H fun c H1=>if c=true then u σ H1 Q else Q false H1
noncomputable def TV(t u:TT):TT:=fun σ H Q=>t σ H fun c H1=>if c=true then Q true H1 else u σ H1 Q
noncomputable def OM(t:TT):TT:=fun σ H Q=>t σ H fun c H1=>Q (!c) H1
theorem De(ha:PT X a tA):PW X (.BoolOp .And [a] pos) tA:=by
 intro wh pins s σ H Q I h
 refine isTrue_and (bZ (ha pins s σ H Q I h) fun c s1 e=>?_)
 cases c with
 | true=>exact isTrue_and_nil e
 | false=>exact e
theorem GC(ha:PT X a tA):PW X (.BoolOp .Or [a] pos) tA:=by
 intro wh pins s σ H Q I h
 refine isTrue_or (bZ (ha pins s σ H Q I h) fun c s1 e=>?_)
 cases c with
 | false=>exact isTrue_or_nil e
 | true=>exact e
theorem GD(ha:PT X a tA)(hb:PW X (.BoolOp .And (b::rest) pos) N9):PW X (.BoolOp .And (a::b::rest) pos) (OL tA N9):=by
 intro wh pins s σ H Q I h
 refine isTrue_and (bZ (ha pins s σ H _ I h) fun c s1 aC=>?_)
 obtain⟨H1,I1,q1⟩:=aC
 cases c with
 | true=>exact hb wh pins s1 σ H1 Q I1 q1
 | false=>exact⟨H1,I1,q1⟩
theorem K3(ha:PT X a tA)(hb:PW X (.BoolOp .Or (b::rest) pos) N9):PW X (.BoolOp .Or (a::b::rest) pos) (TV tA N9):=by
 intro wh pins s σ H Q I h
 refine isTrue_or (bZ (ha pins s σ H _ I h) fun c s1 aC=>?_)
 obtain⟨H1,I1,q1⟩:=aC
 cases c with
 | true=>exact⟨H1,I1,q1⟩
 | false=>exact hb wh pins s1 σ H1 Q I1 q1
theorem GF(ha:PT X a tA):PT X (.UnaryOp .Not a pos) (OM tA):=by
 intro pins s σ H Q I h
 exact isTrue_not (ha pins s σ H (fun c H1=>Q (!c) H1) I h)
noncomputable def K4(ta tb:TE):TE:=fun σ H Q=>ta σ H fun x H1=>∃c,x=.bl c/\if c=true then tb σ H1 Q else Q (.bl false) H1
noncomputable def ON(ta tb:TE):TE:=fun σ H Q=>ta σ H fun x H1=>∃c,x=.bl c/\if c=true then Q (.bl true) H1 else tb σ H1 Q
noncomputable def K5(ta:TE):TE:=fun σ H Q=>ta σ H fun x H1=>∃c,x=.bl c/\Q (.bl (!c)) H1
theorem z9{op}{t:TE}(h:PE X a t):PE X (.BoolOp op [a] pos) t:=fun pins s σ H Q I hw=>BoolOp_one (h pins s σ H Q I hw)
theorem GG(ha:PE X a ta)(hb:PE X (.BoolOp .And (b::rest) pos) tb):PE X (.BoolOp .And (a::b::rest) pos) (K4 ta tb):=by
 intro pins s σ H Q I h
 refine BoolOp_and (bZ (ha pins s σ H _ I h) fun v s1 aC=>?_)
 obtain⟨x,H1,I1,r1,q1⟩:=aC
 obtain⟨c,rfl,q1⟩:=q1
 cases r1
 refine wpAny_truthy_bool ?_
 cases c with
 | true=>exact hb pins s1 σ H1 Q I1 q1
 | false=>exact⟨.bl false,H1,I1,rfl,q1⟩
theorem K6(ha:PE X a ta)(hb:PE X (.BoolOp .Or (b::rest) pos) tb):PE X (.BoolOp .Or (a::b::rest) pos) (ON ta tb):=by
 intro pins s σ H Q I h
 refine BoolOp_or (bZ (ha pins s σ H _ I h) fun v s1 aC=>?_)
 obtain⟨x,H1,I1,r1,q1⟩:=aC
 obtain⟨c,rfl,q1⟩:=q1
 cases r1
 refine wpAny_truthy_bool ?_
 cases c with
 | false=>exact hb pins s1 σ H1 Q I1 q1
 | true=>exact⟨.bl true,H1,I1,rfl,q1⟩
theorem GH(ha:PE X a ta):PE X (.UnaryOp .Not a pos) (K5 ta):=by
 intro pins s σ H Q I h
 refine UnaryOp_ (bZ (ha pins s σ H _ I h) fun v s1 aC=>?_)
 obtain⟨x,H1,I1,r1,q1⟩:=aC
 obtain⟨c,rfl,q1⟩:=q1
 cases r1
 exact not_of (wpAny_truthy_bool ⟨.bl (!c),H1,I1,rfl,q1⟩)
end
end L2
namespace L2
open PySem PySem.Spec PyProof.Rows
noncomputable def fO(K:PySem.W.Frag)(H:Hp)(a:Addr)(xs:List V):Prop :=
 Rd H a (.lst xs) \/
  ∃(o:Obj) (its:Array Value) (n:Nat),K.lookup a=some o/\o.cls=.type "list" /\ o.dict=none/\o.data=.seq its n/\its.size<=sizeLine/\Vals xs its.toList
noncomputable def iI(K:PySem.W.Frag)(H:Hp)(a:Addr)(xs:List V):Prop :=
 Rd H a (.tup xs) \/
  ∃(o:Obj) (its:Array Value) (n:Nat),K.lookup a=some o/\o.cls=.type "tuple" /\ o.data=.seq its n/\its.size<=sizeLine/\Vals xs its.toList
noncomputable def OO:Value->Option V
 | .none=>some .non
 | .bool b=>some (.bl b)
 | .int i _=>some (.int i)
 | .str x _=>some (.str x)
 | .bytes b _=>some (.byt b)
 | .float b _=>some (.flt b)
 | .ref a=>some (.ref a)
 | .type n=>some (.ty n)
 | _=>none
theorem RelV.abs{x:V}{u:Value}(r:RelV x u):OO u=some x:=by
 cases x with
 | non=>cases r;rfl
 | bl _=>cases r;rfl
 | int _=>obtain⟨t,rfl⟩:=r;rfl
 | str _=>obtain⟨t,rfl⟩:=r;rfl
 | byt _=>obtain⟨t,rfl⟩:=r;rfl
 | flt _=>obtain⟨t,rfl⟩:=r;rfl
 | ref _=>cases r;rfl
 | ty _=>cases r;rfl
theorem RelV.inj{x y:V}{u:Value}(r:RelV x u)(q:RelV y u):x=y:=Option.some.inj (r.abs.symm.trans q.abs)
theorem Vals.inj:∀{xs ys:List V} {us:List Value},Vals xs us->Vals ys us->xs=ys
 | _,_,_,.nil,.nil=>rfl
 | _,_,_,.cons r t,.cons r' t'=>by rw[r.inj r',Vals.inj t t']
section
variable {X:Cx} {pins:List (Addr×Obj)} {σ:St} {H:Hp} {s:Shared} {a:Addr} {xs ys:List V}
theorem iI.of{K:PySem.W.Frag}(h:H a=some (.tup xs)):iI K H a xs:=.inl (.inl h)
theorem Inv.list(I:Inv X pins σ H s)(h:fO X.K H a xs):∃its:List Value,Vals xs its/\PlainL s.heap a its.toArray/\xs.length<=sizeLine:=by
 rcases h with h|⟨o,its,n,hk,hc,hd,hs,hz,r⟩
 ·obtain⟨z,its,n,r,e⟩:=h.ok I.hok
  exact⟨its,r,⟨_,n,e,rfl,rfl,rfl⟩,z⟩
 ·refine⟨its.toList,r,⟨o,n,I.lD a o hk,hc,hd,by simpa using hs⟩,?_⟩
  have e:=r.length
  simp only[Array.length_toList] at e
  omega
theorem Inv.tuple(I:Inv X pins σ H s)(h:iI X.K H a xs):∃its:List Value,Vals xs its/\IsTup s.heap a its.toArray/\xs.length<=sizeLine:=by
 rcases h with h|⟨o,its,n,hk,hc,hs,hz,r⟩
 ·obtain⟨z,its,r,p⟩:=h.ok I.hok
  exact⟨its,r,p,z⟩
 ·refine⟨its.toList,r,⟨o,I.lD a o hk,hc,n,by simpa using hs⟩,?_⟩
  have e:=r.length
  simp only[Array.length_toList] at e
  omega
theorem Inv.sV(I:Inv X pins σ H s)(h:fO X.K H a xs)(h':fO X.K H a ys):xs=ys:=by
 obtain⟨its,r,⟨o,n,e,_,_,d⟩,_⟩:=I.list h
 obtain⟨its',r',⟨o',n',e',_,_,d'⟩,_⟩:=I.list h'
 rw[e] at e';cases e'
 rw[d] at d'
 injection d' with d1 _
 have:its=its':=by simpa using congrArg Array.toList d1
 subst this
 exact r.inj r'
theorem Inv.yC(I:Inv X pins σ H s)(h:iI X.K H a xs)(h':iI X.K H a ys):xs=ys:=by
 obtain⟨its,r,⟨o,e,_,n,d⟩,_⟩:=I.tuple h
 obtain⟨its',r',⟨o',e',_,n',d'⟩,_⟩:=I.tuple h'
 rw[e] at e';cases e'
 rw[d] at d'
 injection d' with d1 _
 have:its=its':=by simpa using congrArg Array.toList d1
 subst this
 exact r.inj r'
end
noncomputable abbrev Cx.pW(X:Cx)(E:Value->Shared->Prop):Cx:={ X with xe:=E }
noncomputable abbrev Cx.K7(X:Cx):Cx:=X.pW fun _ _=>False
theorem Cx.Ok.pW{X:Cx}(ok:X.Ok)(E:Value->Shared->Prop):(X.pW E).Ok :=
 ⟨ok.mod,ok.kind,ok.glob,ok.blt,ok.above,ok.inj,ok.has,ok.KY,ok.hd,ok.frames,ok.stk,ok.OG,ok.bs,ok.FE,ok.kh,ok.z7,ok.mY,ok.Gy⟩
theorem Cx.Ok.je{X:Cx}{E:Value->Shared->Prop}(ok:(X.pW E).Ok):X.Ok :=
 ⟨ok.mod,ok.kind,ok.glob,ok.blt,ok.above,ok.inj,ok.has,ok.KY,ok.hd,ok.frames,ok.stk,ok.OG,ok.bs,ok.FE,ok.kh,ok.z7,ok.mY,ok.Gy⟩
section
variable {X:Cx} {pins:List (Addr×Obj)} {σ:St} {H:Hp} {s:Shared} {E:Value->Shared->Prop}
theorem Inv.pW(I:Inv X pins σ H s)(E:Value->Shared->Prop):Inv (X.pW E) pins σ H s:=⟨I.ok.pW E,I.os,I.bare,I.base,I.loc,I.cell,I.free,I.gu,I.pin,I.hok,I.len⟩
theorem Inv.je(I:Inv (X.pW E) pins σ H s):Inv X pins σ H s:=⟨I.ok.je,I.os,I.bare,I.base,I.loc,I.cell,I.free,I.gu,I.pin,I.hok,I.len⟩
theorem SP.je{D:Ends}{f:Flow}{s':Shared}(h:SP (X.pW E) pins D f s'):SP X pins D f s':=by
 cases f with
 | next=>obtain⟨σ',H',I,q⟩:=h;exact⟨σ',H',I.je,q⟩
 | brk=>obtain⟨σ',H',I,q⟩:=h;exact⟨σ',H',I.je,q⟩
 | cont=>obtain⟨σ',H',I,q⟩:=h;exact⟨σ',H',I.je,q⟩
 | ret u=>obtain⟨v,σ',H',I,r,q⟩:=h;exact⟨v,σ',H',I.je,r,q⟩
theorem vj.K7{st:List Stmt}{t:TS}(h:vj X.K7 st t):vj X st t:=fun pins s σ H D I hw =>
 wpAny_mono (h pins s σ H D (I.pW _) hw) (fun _ _ q=>q.je) fun _ _ z=>False.elim z
end
section
variable {X:Cx} {st:Stmt} {rest:List Stmt} {t u:TS} {e:Expr} {te:TE} {pos:Pos}
noncomputable def Aa:TS:=fun D σ H=>D.nx σ H
noncomputable def OP(t u:TS):TS:=fun D σ H=>t { D with nx:=u D } σ H
theorem Df:vj X [] Aa:=fun _ _ σ H _ I h=>wpAny_execs_nil ⟨σ,H,I,h⟩
theorem Ab(h1:PS X st t)(h2:vj X rest u):vj X (st::rest) (OP t u):=by
 intro pins s σ H D I h
 refine wpAny_execs_cons (bZ (h1 pins s σ H { D with nx:=u D } I h) fun f s1 q=>?_)
 cases f with
 | next =>
  obtain⟨σ',H',I',q⟩:=q
  exact h2 pins s1 σ' H' D I' q
 | ret v=>exact q
 | brk=>exact q
 | cont=>exact q
noncomputable def GI:TS:=fun D σ H=>D.bk σ H
noncomputable def K8:TS:=fun D σ H=>D.ct σ H
theorem Dg:PS X (.Pass pos) Aa:=fun _ _ σ H _ I h=>wpAny_Pass ⟨σ,H,I,h⟩
theorem Ac:PS X (.Break pos) GI:=fun _ _ σ H _ I h=>wpAny_Break ⟨σ,H,I,h⟩
theorem sW:PS X (.Continue pos) K8:=fun _ _ σ H _ I h=>wpAny_Continue ⟨σ,H,I,h⟩
theorem Inv.quiet{pins:List (Addr×Obj)}{σ:St}{H:Hp}{s:Shared}(I:Inv X pins σ H s):interactive X.env=false:=by simp[interactive,I.ok.kind]
theorem GJ{x j pos pos'}:PS X (.Expr (.Constant (.str x) j pos) pos') Aa:=fun _ s σ H _ I h=>wpAny_Expr (Calls.Constant_str (show SP X _ _ .next { s with toks:=s.toks+1 } from⟨σ,H,I.tok _,h⟩)) I.quiet
noncomputable def K9(te:TE):TS:=fun D σ H=>te σ H fun _ H1=>D.nx σ H1
theorem Dh(he:PE X e te)(hs:swapsWith e none pos.line X.env=pure false:=by rfl):PS X (.Expr e pos) (K9 te):=by
 intro pins s σ H D I h
 exact wpAny_Expr_any (bZ (he pins s σ H _ I h) fun v s1 ⟨x,H1,I1,r1,q1⟩=>⟨σ,H1,I1,q1⟩) I.quiet hs
noncomputable def OQ(te:TE):TS:=fun D σ H=>te σ H D.rt
theorem GK(he:PE X e te):PS X (.Return (some e) pos) (OQ te):=by
 intro pins s σ H D I h
 exact wpAny_Return_some (bZ (he pins s σ H _ I h) fun v s1 ⟨x,H1,I1,r1,q1⟩=>⟨x,σ,H1,I1,r1,q1⟩)
noncomputable def La:TS:=fun D _ H=>D.rt .non H
theorem Di:PS X (.Return none pos) La:=fun _ _ σ H _ I h=>wpAny_Return_none ⟨.non,σ,H,I,rfl,h⟩
noncomputable def OS(c:TT)(t u:TS):TS:=fun D σ H=>c σ H fun b H1=>if b=true then t D σ H1 else u D σ H1
theorem Lb{c:Expr}{a b:List Stmt}{tc:TT}(hc:PT X c tc)(ha:vj X a t)(hb:vj X b u):PS X (.If c a b pos) (OS tc t u):=by
 intro pins s σ H D I h
 refine wpAny_If (bZ (hc pins s σ H _ I h) fun d s1 aC=>?_)
 obtain⟨H1,I1,q1⟩:=aC
 cases d with
 | true=>exact ha pins s1 σ H1 D I1 q1
 | false=>exact hb pins s1 σ H1 D I1 q1
noncomputable def GL:TS:=fun _ _ _=>False
theorem sX:PS X st GL:=fun _ _ _ _ _ _ h=>h.elim
end
noncomputable abbrev TG:=V->St->Hp->(St->Hp->Prop)->Prop
noncomputable abbrev FG:=List V->St->Hp->(St->Hp->Prop)->Prop
noncomputable def PG(X:Cx)(target:Expr)(t:TG):Prop :=
 ∀(pins:List (Addr×Obj)) (s:Shared) (σ:St) (H:Hp) (v:V) (u:Value) (Q:St->Hp->Prop),Inv X pins σ H s->RelV v u->t v σ H Q ->
  wpAny (model X.prog X.w) X.A (assign target X.env u) (fun _ s'=>∃σ' H',Inv X pins σ' H' s'/\Q σ' H') X.xe s
noncomputable def Ky(X:Cx)(ts:List Expr)(t:FG):Prop :=
 ∀(pins:List (Addr×Obj)) (s:Shared) (σ:St) (H:Hp) (vs:List V) (us:List Value) (Q:St->Hp->Prop),Inv X pins σ H s->Vals vs us->t vs σ H Q ->
  wpAny (model X.prog X.w) X.A (assignInOrder ((assignEach ts X.env).map (·.2)) us) (fun _ s'=>∃σ' H',Inv X pins σ' H' s'/\Q σ' H') X.xe s
noncomputable abbrev Dj:=V->V->V->Hp->(Hp->Prop)->Prop
noncomputable def GN(X:Cx)(t:Dj):Prop :=
 ∀(pins:List (Addr×Obj)) (s:Shared) (σ:St) (H:Hp) (o i v:V) (ov iv u:Value) (Q:Hp->Prop),Inv X pins σ H s->RelV o ov->RelV i iv->RelV v u->t o i v H Q ->
  wpAny (model X.prog X.w) X.A (setItem ov iv u) (fun _ s'=>∃H',Inv X pins σ H' s'/\Q H') X.xe s
noncomputable abbrev OT:=V->V->Hp->VK->Prop
noncomputable def TX(X:Cx)(op:Operator)(t:OT):Prop :=
 ∀(pins:List (Addr×Obj)) (s:Shared) (σ:St) (H:Hp) (x y:V) (v u:Value) (Q:VK),Inv X pins σ H s->RelV x v->RelV y u->t x y H Q ->
  wpAny (model X.prog X.w) X.A (inplaceOp op v u) (EP X pins σ Q) X.xe s
section
variable {X:Cx} {pos:Pos}
noncomputable def mG(i:Nat):TG:=fun v σ H Q=>Q (σ.set i (some v)) H
theorem nt{i:Nat}{x:Str}(hN:X.N.Nodup)(hi:X.N[i]?=some x)(hx:Loc X.env.scope x)(hf:X.fn x=true\/X.env.scope.names.lookup x=some .local:=by first|exact .inl rfl|exact .inr rfl|assumption):PG X (.Name x pos) (mG i):=by
 intro pins s σ H v u Q I r h
 exact wpAny_assign_Name (nN I hN hi hx r (fun s' I'=>⟨_,H,I',h⟩) hf)
noncomputable def Lc:FG:=fun vs σ H Q=>vs=[]/\Q σ H
noncomputable def FH(t:TG)(u:FG):FG:=fun vs σ H Q=>∃v r,vs=v::r/\t v σ H fun σ' H'=>u r σ' H' Q
theorem wV:Ky X [] Lc:=by
 intro pins s σ H vs us Q I r h
 obtain⟨e,h⟩:=h
 subst e
 cases r
 exact assignInOrder_nil ⟨σ,H,I,h⟩
theorem sY{e:Expr}{es:List Expr}{t:TG}{u:FG}(h1:PG X e t)(h2:Ky X es u)
  (hs:(assignEach (e::es) X.env).map (·.2)=assign e X.env::(assignEach es X.env).map (·.2):=by rfl):Ky X (e::es) (FH t u):=by
 intro pins s σ H vs us Q I r h
 obtain⟨v,vr,e1,h⟩:=h
 subst e1
 cases r with
 | cons r rr =>
  rw[hs]
  refine assignInOrder_cons (bZ (h1 pins s σ H _ _ _ I r h) fun _ s1 aC=>?_)
  obtain⟨σ1,H1,I1,q1⟩:=aC
  exact h2 pins s1 σ1 H1 _ _ Q I1 rr q1
noncomputable def Ld(K:PySem.W.Frag)(n:Nat)(t:FG):TG:=fun v σ H Q=>∃a xs,v=.ref a/\iI K H a xs/\xs.length=n/\t xs σ H Q
theorem Ad{es:List Expr}{k:Nat}{t:FG}{n:Nat}(hc:X.calm=true)(h:Ky X es t)
  (hn:(assignEach es X.env).length=n:=by rfl) (hst:(assignEach es X.env).findIdx? (·.1)=none:=by rfl):PG X (.Tuple es k pos) (Ld X.K n t):=by
 intro pins s σ H v u Q I r hw
 obtain⟨a,xs,e1,hq,hl,hw⟩:=hw
 subst e1
 cases r
 obtain⟨its,rv,ht,hz⟩:=I.tuple hq
 refine assign_Tuple_tuple (I.ok.hd hc) ht (by simp[hn,<-hl,rv.length]) hst fun h' hx=>?_
 have I1:Inv X pins σ H { s with heap:=h' }:=I.kept (t':=s.toks) fun b o e=>hx b o (Nat.ne_of_lt (Heap.lt_size e)) e
 exact h pins _ σ H xs _ Q I1 (by simpa using rv) hw
noncomputable def Le(to ti:TE)(t:Dj):TG:=fun v σ H Q=>to σ H fun o H1=>ti σ H1 fun i H2=>t o i v H2 fun H3=>Q σ H3
theorem GO{o i:Expr}{to ti:TE}{t:Dj}(ho:PE X o to)(hi:PE X i ti)(hs:GN X t)
  (ha:∀v,assign (.Subscript o i pos) X.env v=(do
   let ov <-holding [v] (eval o X.env)
   let iv <-holding [v,ov] (eval i X.env)
   standAt pos
   holding [v,ov,iv] (setItem ov iv v)
   release [v,ov,iv] []):=by intro _;rfl):PG X (.Subscript o i pos) (Le to ti t):=by
 intro pins s σ H v u Q I r h
 rw[ha]
 refine wpAny_bind (wpAny_holding (bZ (ho pins s σ H _ I h) fun ov s1 aC=>?_))
 obtain⟨x,H1,I1,r1,q1⟩:=aC
 refine wpAny_bind (wpAny_holding (bZ (hi pins s1 σ H1 _ I1 q1) fun iv s2 aC=>?_))
 obtain⟨y,H2,I2,r2,q2⟩:=aC
 refine wpAny_bind (wpAny_standAt (wpAny_bind (wpAny_holding (bZ (hs pins s2 σ H2 x y v ov iv u _ I2 r1 r2 r q2) fun _ s3 aC=>?_))))
 obtain⟨H3,I3,q3⟩:=aC
 exact wpAny_release ⟨σ,H3,I3,q3⟩
noncomputable def Dk(te:TE)(g:TG):TS:=fun D σ H=>te σ H fun x H1=>g x σ H1 D.nx
theorem Ae{tg e:Expr}{te:TE}{g:TG}(he:PE X e te)(hg:PG X tg g)(hs:swapsWithSole [tg] e pos.line X.env=pure false:=by rfl)(hw:swappedStores [tg] e X.env=pure none:=by rfl)
  (h1:(assignEach [tg] X.env).map (·.2)=[assign tg X.env]:=by rfl):PS X (.Assign [tg] e pos) (Dk te g):=by
 intro pins s σ H D I h
 refine wpAny_Assign_stores (bZ (he pins s σ H _ I h) fun v s1 ⟨x,H1,I1,r1,q1⟩=>?_) hs hw
 rw[h1]
 exact bZ (hg pins s1 σ H1 x v _ I1 r1 q1) fun _ s2 q=>q
theorem Af{i:Nat}{x:Str}{e:Expr}{te:TE}{pos':Pos}(hN:X.N.Nodup)(hi:X.N[i]?=some x)(hx:Loc X.env.scope x)(he:PE X e te)(hs:swapsWith e (some (.Name x pos')) pos.line X.env=pure false:=by rfl)(hf:X.fn x=true\/X.env.scope.names.lookup x=some .local:=by first|exact .inl rfl|exact .inr rfl|assumption) :
  PS X (.Assign [.Name x pos'] e pos) (Dk te (mG i)):=by
 intro pins s σ H D I h
 refine wpAny_Assign_Name (bZ (he pins s σ H _ I h) fun v s1 ⟨y,H1,I1,r1,q1⟩=>?_) hs
 exact nN I1 hN hi hx r1 (fun s2 I2=>⟨_,H1,I2,q1⟩) hf
noncomputable def OU(i:Nat)(te:TE)(ti:OT):TS:=fun D σ H=>∃x,σ[i]?=some (some x)/\te σ H fun y H1=>ti x y H1 fun z H2=>D.nx (σ.set i (some z)) H2
theorem GP{i:Nat}{x:Str}{e:Expr}{te:TE}{op:Operator}{ti:OT}{pos':Pos}(hN:X.N.Nodup)(hi:X.N[i]?=some x)(hx:Loc X.env.scope x)(he:PE X e te)(ho:TX X op ti)(hf:X.fn x=true\/X.env.scope.names.lookup x=some .local:=by first|exact .inl rfl|exact .inr rfl|assumption) :
  PS X (.AugAssign (.Name x pos') op e pos) (OU i te ti):=by
 intro pins s σ H D I h
 obtain⟨v,e1,h⟩:=h
 obtain⟨m,hn,hl⟩:=I.loc
 have vis:KW X.env.scope x:=by rcases hx with k|k;exact .inl k;exact .inr (.inl k)
 obtain⟨u,r,l⟩:=hl i x v hi e1 vis
 refine wpAny_AugAssign_Name ?_
 have go:wpAny (model X.prog X.w) X.A (eval e X.env) (fun w s₂=>wpAny (model X.prog X.w) X.A (inplaceOp op u w) (fun r s₃=>wpAny (model X.prog X.w) X.A (storeName X.env x r) (fun _=>SP X pins D .next) X.xe s₃) X.xe s₂) X.xe s:=by
  refine bZ (he pins s σ H _ I h) fun w s1 aC=>?_
  obtain⟨y,H1,I1,r1,q1⟩:=aC
  refine bZ (ho pins s1 σ H1 v y u w _ I1 r r1 q1) fun z s2 aC=>?_
  obtain⟨zv,H2,I2,r2,q2⟩:=aC
  exact nN I2 hN hi hx r2 (fun s3 I3=>⟨_,H2,I3,q2⟩) hf
 rcases l with ⟨hk,hm⟩|⟨hk,c,hc,hcell⟩
 ·exact wpAny_loadName_local I.ok.kind hk hn hm go
 ·rcases hk with hk|hk
  ·exact wpAny_loadName_cell I.ok.kind hk hc hcell go
  ·rcases hx with k|k
   ·have:X.env.scope.names.lookup x=some .free:=hk
    rw[k] at this;cases this
   ·have:X.env.scope.names.lookup x=some .free:=hk
    rw[k] at this;cases this
end
section
variable {X:Cx} {pos:Pos}
end
structure It where
 go:Nat->Hp->Prop
 vo:Nat->Hp->V->Hp->Prop
 stop:Nat->Hp->Prop
noncomputable def mZ(X:Cx)(pins:List (Addr×Obj))(H:Hp)(b:Addr):Prop :=
 H b=none/\b≠X.env.locals/\b∉X.fs/\(b∈X.ex\/X.s₀.heap.objs.size<=b)/\(∀x c,X.env.cells.lookup x=some c->c≠b)/\∀p∈X.pn++pins,p.1≠b
theorem Inv.Ag{X:Cx}{pins:List (Addr×Obj)}{σ:St}{H H':Hp}{s:Shared}{b:Addr}(I:Inv X pins σ H s)(hb:s.heap.objs.size<=b)(hn:H' b=none):mZ X pins H' b:=by
 refine⟨hn,Nat.ne_of_gt (Nat.lt_of_lt_of_le I.lt hb),I.OI hb,.inr (Nat.le_trans I.sz hb),fun x c e z=>?_,fun p hp z=>?_⟩
 ·obtain⟨v,q⟩:=I.cell x c e
  exact absurd (Nat.lt_of_lt_of_le q.lt (by rw[z];exact hb)) (Nat.lt_irrefl _)
 ·exact absurd (Nat.lt_of_lt_of_le (Heap.lt_size (I.pin p hp).1) (by rw[z];exact hb)) (Nat.lt_irrefl _)
structure Turn (P:Program) (w:World) (K:PySem.W.Frag) (tg:Expr) (J:It) (fp:List Addr) (it:Addr) (tn:Nat->Heap->Prop):Prop where
 mem:it∈fp
 obj:∀i h,tn i h->∀b∈fp,∃o,h.get? b=some o/\∀v,o.data≠.cell v
 keep:∀i h h',tn i h->(∀b∈fp,∀o,h.get? b=some o->h'.get? b=some o)->tn i h'
 item:∀(X:Cx),X.prog=P->X.w=w->X.K=K->X.calm=true->∀(i:Nat) (pins:List (Addr×Obj)) (s:Shared) (σ:St) (H:Hp) (E:Value->Shared->Prop),Inv X pins σ H s->(∀b∈fp,mZ X pins H b)->tn i s.heap->J.go i H ->
  wpAny (model P w) X.A (pyNext (.ref it)) (fun r s1=>∃u,r=some u /\
   wpAny (model P w) X.A (letOwnedTupleGo tg (.ref it) u) (fun _ s2=>∃x H',Inv X pins σ H' s2/\RelV x u/\J.vo i H x H'/\tn (i+1) s2.heap/\∀b∈fp,H' b=none) E s1) E s
 done:∀(X:Cx),X.prog=P->X.w=w->X.K=K->X.calm=true->∀(i:Nat) (pins:List (Addr×Obj)) (s:Shared) (σ:St) (H:Hp) (E:Value->Shared->Prop),Inv X pins σ H s->(∀b∈fp,mZ X pins H b)->tn i s.heap->J.stop i H ->
  wpAny (model P w) X.A (pyNext (.ref it)) (fun r s1=>r=none/\Inv X pins σ H s1) E s
 self:∀(A:Around) (i:Nat) (s:Shared) (Q:Value->Shared->Prop) (E:Value->Shared->Prop),tn i s.heap->Q (.ref it) s->wpAny (model P w) A (pyIter (.ref it)) Q E s
noncomputable abbrev TI:=St->Hp->(It->Hp->Prop)->Prop
noncomputable def R6(X:Cx)(pins:List (Addr×Obj))(σ:St)(tg:Expr)(R:It->Hp->Prop)(itv:Value)(s2:Shared):Prop :=
 ∃(it:Addr) (fp:List Addr) (tn:Nat->Heap->Prop) (J:It) (H':Hp),itv=.ref it/\Inv X pins σ H' s2/\Turn X.prog X.w X.K tg J fp it tn/\tn 0 s2.heap/\(∀b∈fp,mZ X pins H' b)/\R J H'
noncomputable def PI(X:Cx)(tg iter:Expr)(wi:TI):Prop :=
 ∀(pins:List (Addr×Obj)) (s:Shared) (σ:St) (H:Hp) (R:It->Hp->Prop),Inv X pins σ H s->wi σ H R ->
  wpAny (model X.prog X.w) X.A (eval iter X.env) (fun v s1=>wpAny (model X.prog X.w) X.A (pyIter v) (R6 X pins σ tg R) X.xe s1) X.xe s
theorem wW{M:Model}{A:Around}{E:Value->Shared->Prop}{s:Shared}{tg:Expr}{it:Addr}{u:Value}{o:Obj}{n:String}{vs:Array Value}{Q:Unit->Shared->Prop}(ho:s.heap.get? it=some o)(hc:o.cls=.type n)(hd:o.data=.fields vs)
  (hn:["enumerate","zip","dict_itemiterator","dict_reverseitemiterator","odict_iterator","itertools.zip_longest","itertools.pairwise"].contains n=false) (hQ:Q () s):wpAny M A (letOwnedTupleGo tg (.ref it) u) Q E s:=by
 unfold letOwnedTupleGo
 cases tg<;>first
  | exact wpAny_pure hQ
  | (cases u<;>first
    | exact wpAny_pure hQ
    | (refine wpAny_bind (wpAny_load ho ?_)
       rw[hc,hd]
       show wpAny M A (if (["enumerate","zip","dict_itemiterator","dict_reverseitemiterator","odict_iterator","itertools.zip_longest","itertools.pairwise"].contains n&&vs[0]?==some (rawInt _))=true then _ else _) Q E s
       rw[if_neg (by intro h;rw[hn,Bool.false_and] at h;cases h)]
       exact wpAny_pure hQ))
noncomputable def Oa(K:PySem.W.Frag)(a:Addr):It :=
 ⟨fun i H=>∃xs x,fO K H a xs/\xs[i]?=some x,fun i H x H'=>H'=H/\∀xs,fO K H a xs->xs[i]?=some x,fun i H=>∃xs,fO K H a xs/\xs.length<=i⟩
noncomputable def OV(K:PySem.W.Frag)(a:Addr):It :=
 ⟨fun i H=>∃xs x,iI K H a xs/\xs[i]?=some x,fun i H x H'=>H'=H/\∀xs,iI K H a xs->xs[i]?=some x,fun i H=>∃xs,iI K H a xs/\xs.length<=i⟩
noncomputable def Lf(lo:Int)(n:Nat):It:=⟨fun i _=>i<n,fun i H x H'=>H'=H/\x=.int (lo+i),fun i _=>n<=i⟩
theorem yD{P:Program}{w:World}{K:PySem.W.Frag}{tg:Expr}(a it:Addr):Turn P w K tg (Oa K a) [it] it (fun i h=>h.IsListIter it a i) where
 mem:=by simp
 obj:=fun i h st b hb=>by
  have e:b=it:=by simpa using hb
  subst e
  obtain⟨o,e,c,d⟩:=st
  exact⟨o,e,fun v z=>by rw[d] at z;cases z⟩
 keep:=fun i h h' st k=>st.at fun o e=>k it (by simp) o e
 item:=by
  intro X hP hw hK hc i pins s σ H E I hf st hg
  subst hP hw hK
  obtain⟨xs,x,hq,hx⟩:=hg
  obtain⟨its,rv,p,hz⟩:=I.list hq
  obtain⟨u,hu,ru⟩:=rv.get hx
  obtain⟨f0,f1,f2,f3,f4,f5⟩:=hf it (by simp)
  refine wpAny_pyNext_list_item st p.isList (x:=u) (by simpa using hu) fun h' st' sb=>?_
  have I1:Inv X pins σ H { s with heap:=h' }:=I.turned (t':=s.toks) (fun b o hb e=>(sb.2 b hb).trans e) f0 f1 f3 f4 f5
  obtain⟨o,e,c,d⟩:=id st'
  exact⟨u,rfl,wW (s:={ s with heap:=h' }) e c d (by decide) ⟨x,H,I1,ru,⟨rfl,fun ys hy=>by rw[I.sV hy hq];exact hx⟩,st',fun b hb=>(hf b hb).1⟩⟩
 done:=by
  intro X hP hw hK hc i pins s σ H E I hf st hg
  subst hP hw hK
  obtain⟨xs,hq,hx⟩:=hg
  obtain⟨its,rv,p,hz⟩:=I.list hq
  obtain⟨f0,f1,f2,f3,f4,f5⟩:=hf it (by simp)
  have hl:=rv.length
  exact wpAny_pyNext_list_end (I.ok.hd hc) st p.isList (by simp;omega) fun h' eb=>⟨rfl,I.turned (t':=s.toks) (fun b o hb e=>eb b o hb e) f0 f1 f3 f4 f5⟩
 self:=fun _ _ _ _ _ st h=>wpAny_pyIter_listiter st h
theorem vp{P:Program}{w:World}{K:PySem.W.Frag}{tg:Expr}(a it:Addr):Turn P w K tg (OV K a) [it] it (fun i h=>h.IsTupleIter it a i) where
 mem:=by simp
 obj:=fun i h st b hb=>by
  have e:b=it:=by simpa using hb
  subst e
  obtain⟨o,e,c,d⟩:=st
  exact⟨o,e,fun v z=>by rw[d] at z;cases z⟩
 keep:=fun i h h' st k=>st.at fun o e=>k it (by simp) o e
 item:=by
  intro X hP hw hK hc i pins s σ H E I hf st hg
  subst hP hw hK
  obtain⟨xs,x,hq,hx⟩:=hg
  obtain⟨its,rv,p,hz⟩:=I.tuple hq
  obtain⟨u,hu,ru⟩:=rv.get hx
  obtain⟨f0,f1,f2,f3,f4,f5⟩:=hf it (by simp)
  refine wpAny_pyNext_tuple_item st (show s.heap.IsTuple a its.toArray from p) (x:=u) (by simpa using hu) fun h' st' sb=>?_
  have I1:Inv X pins σ H { s with heap:=h' }:=I.turned (t':=s.toks) (fun b o hb e=>(sb.2 b hb).trans e) f0 f1 f3 f4 f5
  obtain⟨o,e,c,d⟩:=id st'
  exact⟨u,rfl,wW (s:={ s with heap:=h' }) e c d (by decide) ⟨x,H,I1,ru,⟨rfl,fun ys hy=>by rw[I.yC hy hq];exact hx⟩,st',fun b hb=>(hf b hb).1⟩⟩
 done:=by
  intro X hP hw hK hc i pins s σ H E I hf st hg
  subst hP hw hK
  obtain⟨xs,hq,hx⟩:=hg
  obtain⟨its,rv,p,hz⟩:=I.tuple hq
  obtain⟨f0,f1,f2,f3,f4,f5⟩:=hf it (by simp)
  have hl:=rv.length
  exact wpAny_pyNext_tuple_end (I.ok.hd hc) st (show s.heap.IsTuple a its.toArray from p) (by simp;omega) fun h' eb=>⟨rfl,I.turned (t':=s.toks) (fun b o hb e=>eb b o hb e) f0 f1 f3 f4 f5⟩
 self:=fun _ _ _ _ _ st h=>wpAny_pyIter_tupleiter st h
theorem vq{P:Program}{w:World}{K:PySem.W.Frag}{tg:Expr}(it:Addr)(lo:Int)(n:Nat):Turn P w K tg (Lf lo n) [it] it (fun i h=>IsRangeIter h it (lo+(i:Nat)*1) ((n:Int)-(i:Nat)) 1) where
 mem:=by simp
 obj:=fun i h st b hb=>by
  have e:b=it:=by simpa using hb
  subst e
  exact⟨_,st,fun v z=>by
   have z':Data.fields _=Data.cell v:=z
   cases z'⟩
 keep:=fun i h h' st k=>k it (by simp) _ st
 item:=by
  intro X hP hw hK hc i pins s σ H E I hf st hg
  subst hP hw hK
  obtain⟨f0,f1,f2,f3,f4,f5⟩:=hf it (by simp)
  have W:=Walks.range (prog:=X.prog) (w:=X.w) (I.ok.hd hc) it lo 1 n
  refine W.item i s _ _ hg st fun v h' tk hv st' kk=>?_
  obtain⟨t,rfl⟩:=hv
  have I1:Inv X pins σ H { s with heap:=h',toks:=tk }:=I.turned (fun b o hb e=>kk b o (by simpa using hb) e) f0 f1 f3 f4 f5
  refine⟨_,rfl,wW (s:={ s with heap:=h',toks:=tk }) (n:="range_iterator") st' rfl rfl (by decide) ⟨.int (lo+i),H,I1,⟨t,?_⟩,⟨rfl,rfl⟩,st',fun b hb=>(hf b hb).1⟩⟩
  rw[Int.mul_one]
 done:=by
  intro X hP hw hK hc i pins s σ H E I hf st hg
  subst hP hw hK
  obtain⟨f0,f1,f2,f3,f4,f5⟩:=hf it (by simp)
  exact wpAny_pyNext_range_end (I.ok.hd hc) st (by have:n<=i:=hg;omega) fun h' eb=>⟨rfl,I.turned (t':=s.toks) (fun b o hb e=>eb b o hb e) f0 f1 f3 f4 f5⟩
 self:=fun _ _ _ _ _ st h=>wpAny_pyIter_rangeiter st h
end L2
namespace L2
open PySem PySem.Spec PyProof.Rows
section
variable {X:Cx} {tg:Expr}
noncomputable def Lg(K:PySem.W.Frag)(tl:TE):TI:=fun σ H R=>tl σ H fun x H1=>∃a,x=.ref a/\(∃xs,fO K H1 a xs)/\R (Oa K a) H1
noncomputable def OW(K:PySem.W.Frag)(tl:TE):TI:=fun σ H R=>tl σ H fun x H1=>∃a,x=.ref a/\(∃xs,iI K H1 a xs)/\R (OV K a) H1
theorem Dl{l:Expr}{tl:TE}(hl:PE X l tl):PI X tg l (Lg X.K tl):=by
 intro pins s σ H R I h
 refine bZ (hl pins s σ H _ I h) fun v s1 aC=>?_
 obtain⟨x,H1,I1,r1,q1⟩:=aC
 obtain⟨a,e,⟨xs,hq⟩,q⟩:=q1
 subst e
 cases r1
 obtain⟨its,rv,p,hz⟩:=I1.list hq
 refine wpAny_pyIter_list p.isList ?_
 refine⟨s1.heap.objs.size,[s1.heap.objs.size],_,_,H1,rfl,I1.kept (t':=s1.toks) fun b o e=>Heap.get?_push_of_some _ e,yD a _,⟨_,Heap.get?_push_size _ rfl,rfl,rfl⟩,fun b hb=>?_,q⟩
 have e:b=s1.heap.objs.size:=by simpa using hb
 subst e
 exact I1.Ag (Nat.le_refl _) (I1.hok.fresh (Nat.le_refl _))
theorem GQ{l:Expr}{tl:TE}(hl:PE X l tl):PI X tg l (OW X.K tl):=by
 intro pins s σ H R I h
 refine bZ (hl pins s σ H _ I h) fun v s1 aC=>?_
 obtain⟨x,H1,I1,r1,q1⟩:=aC
 obtain⟨a,e,⟨xs,hq⟩,q⟩:=q1
 subst e
 cases r1
 obtain⟨its,rv,p,hz⟩:=I1.tuple hq
 refine wpAny_pyIter_tuple (show s1.heap.IsTuple a its.toArray from p) ?_
 refine⟨s1.heap.objs.size,[s1.heap.objs.size],_,_,H1,rfl,I1.kept (t':=s1.toks) fun b o e=>Heap.get?_push_of_some _ e,vp a _,⟨_,Heap.get?_push_size _ rfl,rfl,rfl⟩,fun b hb=>?_,q⟩
 have e:b=s1.heap.objs.size:=by simpa using hb
 subst e
 exact I1.Ag (Nat.le_refl _) (I1.hok.fresh (Nat.le_refl _))
theorem sZ{pins:List (Addr×Obj)}{σ:St}{H:Hp}{s:Shared}{R:It->Hp->Prop}{E:Value->Shared->Prop}{lo hi:Int}{t u v:Tok}{tk:Nat}(I:Inv X pins σ H s)(h1:-(2 ^ 62)<=lo)(h2:lo<2 ^ 62)(h3:-(2 ^ 62)<=hi)(h4:hi<2 ^ 62)
  (q:R (Lf lo (hi-lo).toNat) H):wpAny (model X.prog X.w) X.A (pyIter (.ref s.heap.objs.size)) (R6 X pins σ tg R) E { s with heap:=s.heap.push { cls:=.type "range",data:=.fields #[.int lo t,.int hi u,.int 1 v] },toks:=tk }:=by
 refine wpAny_pyIter_range (IsRange.new ..) (small_one h1 h2 h3 h4) ?_
 have I1:Inv X pins σ H { s with heap:=s.heap.push { cls:=.type "range",data:=.fields #[.int lo t,.int hi u,.int 1 v] },toks:=tk }:=I.kept fun b o e=>Heap.get?_push_of_some _ e
 refine⟨(s.heap.push { cls:=.type "range",data:=.fields #[.int lo t,.int hi u,.int 1 v] }).objs.size,[(s.heap.push { cls:=.type "range",data:=.fields #[.int lo t,.int hi u,.int 1 v] }).objs.size],_,_,H,rfl,
  I1.kept (t':=tk) fun b o e=>Heap.get?_push_of_some _ e,vq _ lo (hi-lo).toNat,?_,fun b hb=>?_,q⟩
 ·have e1:lo+((0:Nat):Int)*1=lo:=by simp
  have e2:(((hi-lo).toNat:Nat):Int)-((0:Nat):Int)=Builtin.Range.rangeSize lo hi 1:=by rw[rangeSize_one];split<;>omega
  show IsRangeIter _ _ (lo+((0:Nat):Int)*1) ((((hi-lo).toNat:Nat):Int)-((0:Nat):Int)) 1
  rw[e1,e2]
  exact Heap.get?_push_size _ rfl
 ·have e:b=(s.heap.push { cls:=.type "range",data:=.fields #[.int lo t,.int hi u,.int 1 v] }).objs.size:=by simpa using hb
  subst e
  exact I1.Ag (Nat.le_refl _) (I1.hok.fresh (Nat.le_refl _))
noncomputable def Lh(ta:TA):TI:=fun σ H R=>ta σ H fun vs H1=>∃j:Int,vs=[.int j] /\ -(2 ^ 62)<=j/\j<2 ^ 62/\R (Lf 0 j.toNat) H1
noncomputable def Li(ta:TA):TI:=fun σ H R=>ta σ H fun vs H1=>∃i j:Int,vs=[.int i,.int j]/\(-(2 ^ 62)<=i/\i<2 ^ 62 /\ -(2 ^ 62)<=j/\j<2 ^ 62)/\R (Lf i (j-i).toNat) H1
theorem yE{a:Expr}{ta:TA}{p pos:Pos}(hg:Gl X "range")(hm:X.mg "range" = none)(ha:PA X [a] ta)(hs:starEach [a] X.env=[(false,eval a X.env)]:=by rfl):PI X tg (.Call (.Name "range" p) [a] [] pos) (Lh ta):=by
 intro pins s σ H R I h
 refine Call_ (gC I hg hm boot_range (PyProof.Rows.callWith_type1 (bZ (ha pos pins s σ H _ I h) fun us s1 aC=>?_) hs rfl))
 obtain⟨vs,H1,I1,r1,q1⟩:=aC
 obtain⟨j,e,q1,q2,q⟩:=q1
 subst e
 cases r1 with
 | cons r rr =>
  cases rr
  obtain⟨t,rfl⟩:=r
  exact call_range_1 (sZ I1 (by omega) (by omega) q1 q2 (by simpa using q))
theorem yF{a b:Expr}{ta:TA}{p pos:Pos}(hg:Gl X "range")(hm:X.mg "range" = none)(ha:PA X [a,b] ta)(hs:starEach [a,b] X.env=[(false,eval a X.env),(false,eval b X.env)]:=by rfl)(hs2:starEach [b] X.env=[(false,eval b X.env)]:=by rfl) :
  PI X tg (.Call (.Name "range" p) [a,b] [] pos) (Li ta):=by
 intro pins s σ H R I h
 refine Call_ (gC I hg hm boot_range (PyProof.Rows.callWith_type1 (bZ (ha pos pins s σ H _ I h) fun us s1 ⟨vs,H1,I1,r1,q1⟩=>?_) (by rw[hs,hs2]) (by rw[hs2];rfl)))
 obtain⟨i,j,e,⟨q1,q2,q3,q4⟩,q⟩:=q1
 subst e
 cases r1 with
 | cons r rr =>
  cases rr with
  | cons r' rr =>
   cases rr
   obtain⟨t,rfl⟩:=r
   obtain⟨t',rfl⟩:=r'
   exact call_range_2 (sZ I1 q1 q2 q3 q4 q)
noncomputable def OX(wi:TI)(g:TG)(tb:TS):TS:=fun D σ H=>wi σ H fun J H1=>∃W:Nat->Nat->St->Hp->Prop,(∃m,W 0 m σ H1)/\∀i m σ H,W i m σ H ->
 (J.stop i H/\D.nx σ H)\/(J.go i H/\∃N:St->Hp->Prop,(∀σ' H',N σ' H'->∃m',m'<m/\W (i+1) m' σ' H')/\∀x H',J.vo i H x H'->g x σ H' fun σ2 H2=>tb { D with nx:=N,ct:=N,bk:=D.nx } σ2 H2)
noncomputable def nO(fp:List Addr)(h:Heap):List (Addr×Obj):=fp.filterMap fun b=>(h.get? b).map fun o=>(b,o)
theorem iJ{fp:List Addr}{h:Heap}{b:Addr}{o:Obj}(hb:b∈fp)(e:h.get? b=some o):(b,o)∈nO fp h:=List.mem_filterMap.mpr ⟨b,hb,by rw[e];rfl⟩
theorem yG{fp:List Addr}{h:Heap}{p:Addr×Obj}(hp:p∈nO fp h):p.1∈fp/\h.get? p.1=some p.2:=by
 obtain⟨b,hb,e⟩:=List.mem_filterMap.mp hp
 cases q:h.get? b with
 | none=>rw[q] at e;cases e
 | some o =>
  rw[q] at e
  have e':(b,o)=p:=Option.some.inj e
  subst e'
  exact⟨hb,q⟩
theorem Inv.pinned{pins:List (Addr×Obj)}{σ:St}{H:Hp}{s:Shared}{fp:List Addr}(I:Inv X pins σ H s)(hf:∀b∈fp,mZ X pins H b)(ho:∀b∈fp,∃o,s.heap.get? b=some o/\∀v,o.data≠.cell v):Inv X (pins++nO fp s.heap) σ H s :=
 I.wU fun p hp=>(List.mem_append.mp hp).elim (fun z=>I.pin p (List.mem_append_right _ z)) fun z=>by
  obtain⟨hb,e⟩:=yG z
  obtain⟨f0,f1,f2,_⟩:=hf p.1 hb
  obtain⟨o,e',d⟩:=ho p.1 hb
  rw[e] at e';cases e'
  exact⟨e,f0,f1,f2,d⟩
theorem Inv.kD{pins pl:List (Addr×Obj)}{σ:St}{H:Hp}{s:Shared}(I:Inv X (pins++pl) σ H s):Inv X pins σ H s:=I.wU fun p hp=>I.pin p (List.mem_append_right _ (List.mem_append_left _ hp))
theorem GR{iter:Expr}{body:List Stmt}{wi:TI}{g:TG}{tb:TS}{pos:Pos}(hp:PassesOwn (model X.prog X.w) X.A X.env X.xe)(hc:X.calm=true)(hi:PI X tg iter wi)(hg:PG X tg g)(hb:vj X body tb)
  (hs:∀x,foldedSetIterable iter X.env x=pure x:=by intro _;rfl):PS X (.For tg iter body [] pos) (OX wi g tb):=by
 intro pins s σ H D I h
 refine wpAny_For (bZ (hi pins s σ H _ I h) fun v s1 h1=>bZ h1 fun itv s2 h2=>?_) hs
 obtain⟨it,fp,tn,J,H2,e,I2,T,st2,f2,W,⟨m0,w0⟩,turn⟩:=h2
 subst e
 have stat:∀{H':Hp},(∀b∈fp,H' b=none)->∀b∈fp,mZ X pins H' b:=fun hn b hb=>⟨hn b hb,(f2 b hb).2⟩
 refine codeAny_forLoop_any (fun n s'=>∃i σ' H',Inv X pins σ' H' s'/\tn i s'.heap/\(∀b∈fp,H' b=none)/\W i n σ' H') ?_ m0 ⟨0,σ,H2,I2,st2,fun b hb=>(f2 b hb).1,w0⟩
 rintro n s3 ⟨i,σ3,H3,I3,st3,R7,w3⟩
 rcases turn i n σ3 H3 w3 with ⟨stop,qn⟩|⟨go,N,hN,step⟩
 ·refine wpAny_passesOwn hp (bZ (T.done X rfl rfl rfl hc i pins s3 σ3 H3 X.xe I3 (stat R7) st3 stop) fun r s4 aC=>?_)
  obtain⟨hr,I4⟩:=aC
  subst hr
  exact wpAny_execs_nil ⟨σ3,H3,I4,qn⟩
 ·refine wpAny_passesOwn hp (bZ (T.item X rfl rfl rfl hc i pins s3 σ3 H3 X.xe I3 (stat R7) st3 go) fun r s4 aC=>?_)
  obtain⟨u,hr,h4⟩:=aC
  subst hr
  refine wpAny_passesOwn hp (bZ h4 fun _ s5 aC=>?_)
  obtain⟨x,H5,I5,r5,y5,Kz,Oc⟩:=aC
  have TY:=I5.pinned (stat Oc) (T.obj _ _ Kz)
  refine wpAny_passesOwn hp (bZ (hg _ s5 σ3 H5 x u _ TY r5 (step x H5 y5)) fun _ s6 aC=>?_)
  obtain⟨σ6,H6,I6,q6⟩:=aC
  refine wpAny_passesOwn hp (bZ (hb _ s6 σ6 H6 _ I6 q6) fun f s7 q7=>?_)
  have again:∀{σ7:St} {H7:Hp},Inv X (pins++nO fp s5.heap) σ7 H7 s7->N σ7 H7->∃m,m<n/\∃i σ' H',Inv X pins σ' H' s7/\tn i s7.heap/\(∀b∈fp,H' b=none)/\W i m σ' H':=fun {σ7 H7} I7 n7=>by
   obtain⟨m',hm,w7⟩:=hN σ7 H7 n7
   refine⟨m',hm,i+1,σ7,H7,I7.kD,T.keep _ _ _ Kz fun b hb o e=>(I7.pin (b,o) (List.mem_append_right _ (List.mem_append_right _ (iJ hb e)))).1,fun b hb=>?_,w7⟩
   obtain⟨o,e,d⟩:=T.obj _ _ Kz b hb
   exact(I7.pin (b,o) (List.mem_append_right _ (List.mem_append_right _ (iJ hb e)))).2.1
  cases f with
  | next=>obtain⟨σ7,H7,I7,n7⟩:=q7;exact again I7 n7
  | cont=>obtain⟨σ7,H7,I7,n7⟩:=q7;exact again I7 n7
  | brk=>obtain⟨σ7,H7,I7,q7⟩:=q7;exact⟨σ7,H7,I7.kD,q7⟩
  | ret v=>obtain⟨x7,σ7,H7,I7,r7,q7⟩:=q7;exact⟨x7,σ7,H7,I7.kD,r7,q7⟩
end
end L2
namespace L2
open PySem PySem.Spec PyProof.Rows
noncomputable abbrev R2:=V->V->Hp->VK->Prop
noncomputable def ja(X:Cx)(f:Value->Value->Sem Value)(r:R2):Prop :=
 ∀(pins:List (Addr×Obj)) (s:Shared) (σ:St) (H:Hp) (x y:V) (v u:Value) (Q:VK),Inv X pins σ H s->RelV x v->RelV y u->r x y H Q ->
  wpAny (model X.prog X.w) X.A (f v u) (EP X pins σ Q) X.xe s
noncomputable def Od(X:Cx)(f:Value->Sem Value)(r:V->Hp->VK->Prop):Prop :=
 ∀(pins:List (Addr×Obj)) (s:Shared) (σ:St) (H:Hp) (x:V) (v:Value) (Q:VK),Inv X pins σ H s->RelV x v->r x H Q ->
  wpAny (model X.prog X.w) X.A (f v) (EP X pins σ Q) X.xe s
noncomputable def cJ(X:Cx)(f:Value)(r:List V->Hp->VK->Prop):Prop :=
 ∀(pins:List (Addr×Obj)) (s:Shared) (σ:St) (H:Hp) (xs:List V) (us:List Value) (Q:VK),Inv X pins σ H s->Vals xs us->r xs H Q ->
  wpAny (model X.prog X.w) X.A (call f us) (EP X pins σ Q) X.xe s
noncomputable def OY(X:Cx)(r:V->Hp->(Bool->Hp->Prop)->Prop):Prop :=
 ∀(pins:List (Addr×Obj)) (s:Shared) (σ:St) (H:Hp) (x:V) (v:Value) (Q:Bool->Hp->Prop),Inv X pins σ H s->RelV x v->r x H Q ->
  wpAny (model X.prog X.w) X.A (truthy v) (TP X pins σ Q) X.xe s
noncomputable def KA(r:R2)(ta tb:TE):TE:=fun σ H Q=>ta σ H fun x H1=>tb σ H1 fun y H2=>r x y H2 Q
noncomputable def TZ(r:V->Hp->VK->Prop)(ta:TE):TE:=fun σ H Q=>ta σ H fun x H1=>r x H1 Q
noncomputable def rI(C:Int->Int->Prop)(g:Int->Int->V):R2:=fun x y H Q=>∃i j,x=.int i/\y=.int j/\C i j/\Q (g i j) H
noncomputable def CM(g:Int->Int->V):R2:=fun x y H Q=>∃i j,x=.int i/\y=.int j/\Q (g i j) H
noncomputable def rU(g:Int->V):V->Hp->VK->Prop:=fun x H Q=>∃i,x=.int i/\Q (g i) H
section
variable {X:Cx} {a b c:Expr} {ta tb tc:TE} {pos:Pos}
theorem GS(ha:PE X a ta)(hb:PE X b tb){pins:List (Addr×Obj)}{s:Shared}{σ:St}{H:Hp}{R:V->V->Hp->Prop}(I:Inv X pins σ H s)
  (h:ta σ H fun x H1=>tb σ H1 fun y H2=>R x y H2) {Q:Value->Shared->Prop} {f:Value->Value->Sem Value}
  (hf:∀v u s2 x y H2,Inv X pins σ H2 s2->RelV x v->RelV y u->R x y H2->wpAny (model X.prog X.w) X.A (f v u) Q X.xe s2) :
  wpAny (model X.prog X.w) X.A (eval a X.env) (fun v s₁=>wpAny (model X.prog X.w) X.A (eval b X.env) (fun u s₂=>wpAny (model X.prog X.w) X.A (f v u) Q X.xe s₂) X.xe s₁) X.xe s:=by
 refine bZ (ha pins s σ H _ I h) fun v s1 aC=>?_
 obtain⟨x,H1,I1,r1,q1⟩:=aC
 refine bZ (hb pins s1 σ H1 _ I1 q1) fun u s2 aC=>?_
 obtain⟨y,H2,I2,r2,q2⟩:=aC
 exact hf v u s2 x y H2 I2 r1 r2 q2
theorem Lj{op:Operator}{r:R2}(ho:ja X (binaryOp op) r)(ha:PE X a ta)(hb:PE X b tb):PE X (.BinOp a op b pos) (KA r ta tb):=by
 intro pins s σ H Q I h
 exact wpAny_BinOp (GS ha hb I h fun v u s2 x y H2 I2 rx ry q=>ho pins s2 σ H2 x y v u Q I2 rx ry q)
theorem Lk{op:UnaryOp}{r:V->Hp->VK->Prop}(ho:Od X (unaryOp op) r)(ha:PE X a ta):PE X (.UnaryOp op a pos) (TZ r ta):=by
 intro pins s σ H Q I h
 exact UnaryOp_ (bZ (ha pins s σ H _ I h) fun v s1 ⟨x,H1,I1,r1,q1⟩=>ho pins s1 σ H1 x v Q I1 r1 q1)
theorem GU{f:Value->Value->Sem Value}{C:Int->Int->Prop}{g:Int->Int->Int}
  (rule:∀(i j:Int) (t u:Tok) (s:Shared) (Q:Value->Shared->Prop) (E:Value->Shared->Prop),C i j->Q (.int (g i j) s.toks) { s with toks:=s.toks+1 }->wpAny (model X.prog X.w) X.A (f (.int i t) (.int j u)) Q E s) :
  ja X f (rI C fun i j=>.int (g i j)):=by
 intro pins s σ H x y v u Q I rx ry h
 obtain⟨i,j,rfl,rfl,hc,q⟩:=h
 obtain⟨t,rfl⟩:=rx
 obtain⟨t',rfl⟩:=ry
 exact rule i j t t' s _ _ hc ⟨.int (g i j),H,I.tok _,⟨_,rfl⟩,q⟩
theorem Dm{f:Value->Value->Sem Value}{g:Int->Int->Int}
  (rule:∀(i j:Int) (t u:Tok) (s:Shared) (Q:Value->Shared->Prop) (E:Value->Shared->Prop),Q (.int (g i j) s.toks) { s with toks:=s.toks+1 }->wpAny (model X.prog X.w) X.A (f (.int i t) (.int j u)) Q E s) :
  ja X f (CM fun i j=>.int (g i j)):=by
 intro pins s σ H x y v u Q I rx ry h
 obtain⟨i,j,rfl,rfl,q⟩:=h
 obtain⟨t,rfl⟩:=rx
 obtain⟨t',rfl⟩:=ry
 exact rule i j t t' s _ _ ⟨.int (g i j),H,I.tok _,⟨_,rfl⟩,q⟩
theorem Dp{f:Value->Value->Sem Value}{g:Int->Int->Bool}
  (rule:∀(i j:Int) (t u:Tok) (s:Shared) (Q:Value->Shared->Prop) (E:Value->Shared->Prop),Q (.bool (g i j)) s->wpAny (model X.prog X.w) X.A (f (.int i t) (.int j u)) Q E s) :
  ja X f (CM fun i j=>.bl (g i j)):=by
 intro pins s σ H x y v u Q I rx ry h
 obtain⟨i,j,rfl,rfl,q⟩:=h
 obtain⟨t,rfl⟩:=rx
 obtain⟨t',rfl⟩:=ry
 exact rule i j t t' s _ _ ⟨.bl (g i j),H,I,rfl,q⟩
noncomputable def OZ(i j:Int):Prop:=0<=j/\j<=1000000/\i.natAbs<2 ^ 64
noncomputable def Dq(i j:Int):Prop:=(-(2 ^ 64)<i/\i<2 ^ 64)\/(-(2 ^ 64)<j/\j<2 ^ 64)
theorem Dq.ok{i j:Int}(h:Dq i j):IntMulOk i j:=by
 rcases h with ⟨h1,h2⟩|⟨h1,h2⟩
 ·exact .of_left (intBits_le_64 h1 h2)
 ·exact .of_right (intBits_le_64 h1 h2)
theorem GV:ja X (binaryOp .Add) (CM fun i j=>.int (i+j)):=Dm fun _ _ _ _ _ _ _ q=>add_int q
theorem GW:ja X (binaryOp .Sub) (CM fun i j=>.int (i-j)):=Dm fun _ _ _ _ _ _ _ q=>sub_int q
theorem GX:ja X (binaryOp .Mult) (rI Dq fun i j=>.int (i*j)):=GU fun _ _ _ _ _ _ _ hc q=>mul_int q hc.ok
theorem GY:ja X (binaryOp .Mod) (rI (fun _ j=>0<j) fun i j=>.int (i%j)):=GU fun i j _ _ _ _ _ hc q=>by
 have h1:(0:Int)<j:=hc
 exact mod_int' (by omega) (by rw[Int.fmod_eq_emod_of_nonneg i (by omega)];exact q)
theorem GZ:ja X (binaryOp .Pow) (rI OZ fun i j=>.int (i ^ j.toNat)):=GU fun _ _ _ _ _ _ _ hc q=>pow_int_small hc.1 hc.2.1 hc.2.2 q
theorem Dr:ja X (inplaceOp .Add) (CM fun i j=>.int (i+j)):=Dm fun _ _ _ _ _ _ _ q=>iadd_int q
theorem Ds:ja X (inplaceOp .Sub) (CM fun i j=>.int (i-j)):=Dm fun _ _ _ _ _ _ _ q=>isub_int q
theorem Dt:ja X (inplaceOp .Mult) (rI Dq fun i j=>.int (i*j)):=GU fun _ _ _ _ _ _ _ hc q=>imul_int q hc.ok
theorem Du:ja X (inplaceOp .Mod) (rI (fun _ j=>0<j) fun i j=>.int (i%j)):=GU fun i j _ _ _ _ _ hc q=>by
 have h1:(0:Int)<j:=hc
 exact imod_int (by omega) (by rw[Int.fmod_eq_emod_of_nonneg i (by omega)];exact q)
theorem T4{f:Value->Sem Value}{g:Int->Int}
  (rule:∀(i:Int) (t:Tok) (s:Shared) (Q:Value->Shared->Prop) (E:Value->Shared->Prop),Q (.int (g i) s.toks) { s with toks:=s.toks+1 }->wpAny (model X.prog X.w) X.A (f (.int i t)) Q E s) :
  Od X f (rU fun i=>.int (g i)):=by
 intro pins s σ H x v Q I rx h
 obtain⟨i,rfl,q⟩:=h
 obtain⟨t,rfl⟩:=rx
 exact rule i t s _ _ ⟨.int (g i),H,I.tok _,⟨_,rfl⟩,q⟩
theorem Ah:Od X (unaryOp .USub) (rU fun i=>.int (-i)):=T4 fun _ _ _ _ _ q=>neg_int q
end
section
variable {X:Cx} {a b c:Expr} {ta tb tc:TE} {pos:Pos}
theorem lE{pins:List (Addr×Obj)}{σ:St}{H:Hp}{s:Shared}{Q:VK}{k k':Bool}(I:Inv X pins σ H s)(q:Q (.bl k) H)(e:k=k'):EP X pins σ Q (.bool k') s:=by
 subst e
 exact⟨.bl k,H,I,rfl,q⟩
theorem Ll:ja X (compareOp .Lt) (CM fun i j=>.bl (decide (i<j))):=Dp fun _ _ _ _ _ _ _ q=>lt_int q
theorem Lm:ja X (compareOp .LtE) (CM fun i j=>.bl (decide (i<=j))):=Dp fun _ _ _ _ _ _ _ q=>le_int q
theorem Lo:ja X (compareOp .Gt) (CM fun i j=>.bl (decide (j<i))):=Dp fun _ _ _ _ _ _ _ q=>gt_int q
theorem Lp:ja X (compareOp .GtE) (CM fun i j=>.bl (decide (j<=i))):=Dp fun _ _ _ _ _ _ _ q=>ge_int q
theorem yH:ja X (compareOp .In) (fun x y H Q=>∃i j,x=.str i/\y=.str j/\Q (.bl (!(Builtin.Str.occurrences j i 0 j.length 1).isEmpty)) H):=by
 intro pins s σ H x y v u Q I rx ry h
 obtain⟨i,j,rfl,rfl,q⟩:=h
 obtain⟨t,rfl⟩:=rx
 obtain⟨t',rfl⟩:=ry
 exact in_str (lE I q rfl)
theorem Hf:ja X (compareOp .Is) (fun x y H Q=>y=.non/\Q (.bl (decide (x=.non))) H):=by
 intro pins s σ H x y v u Q I rx ry h
 obtain⟨rfl,q⟩:=h
 cases ry
 refine is_none_gen (lE I q ?_)
 cases x<;>first
  | (cases rx;rfl)
  | (obtain⟨t,rfl⟩:=rx;rfl)
theorem Dv:ja X (compareOp .IsNot) (fun x y H Q=>y=.non/\Q (.bl (!decide (x=.non))) H):=by
 intro pins s σ H x y v u Q I rx ry h
 obtain⟨rfl,q⟩:=h
 cases ry
 refine isnot_none_gen (lE I q ?_)
 cases x<;>first
  | (cases rx;rfl)
  | (obtain⟨t,rfl⟩:=rx;rfl)
theorem rj:ja X (compareOp .NotIn) (fun x y H Q=>∃i j,x=.str i/\y=.str j/\Q (.bl (!(!(Builtin.Str.occurrences j i 0 j.length 1).isEmpty))) H):=by
 intro pins s σ H x y v u Q I rx ry h
 obtain⟨i,j,rfl,rfl,q⟩:=h
 obtain⟨t,rfl⟩:=rx
 obtain⟨t',rfl⟩:=ry
 exact notIn_str (lE I q rfl)
theorem O0(b:Expr){op:CmpOp}(h:op≠.In:=by decide)(h2:op≠.NotIn:=by decide):behindInMarks op b=false:=by
 have e1:(op==CmpOp.In)=false:=by cases op<;>first|rfl|exact absurd rfl h
 have e2:(op==CmpOp.NotIn)=false:=by cases op<;>first|rfl|exact absurd rfl h2
 cases b<;>simp[behindInMarks,e1,e2]
theorem Dw{op:CmpOp}{r:R2}(ho:ja X (compareOp op) r)(ha:PE X a ta)(hb:PE X b tb)(hm:behindInMarks op b=false):PE X (.Compare a [op] [b] pos) (KA r ta tb):=by
 intro pins s σ H Q I h
 exact wpAny_Compare1 (GS ha hb I h fun v u s2 x y H2 I2 rx ry q=>ho pins s2 σ H2 x y v u Q I2 rx ry q) hm
noncomputable def Ai(t:TE):TT:=fun σ H Q=>t σ H fun x H'=>∃k,x=.bl k/\Q k H'
theorem wX{op:CmpOp}{r:R2}(ho:ja X (compareOp op) r)(ha:PE X a ta)(hb:PE X b tb)(hm:behindInMarks op b=false):PT X (.Compare a [op] [b] pos) (Ai (KA r ta tb)):=by
 intro pins s σ H Q I h
 refine wpAny_isTrue_Compare1 (bZ (ha pins s σ H _ I h) fun v s1 ⟨x,H1,I1,r1,q1⟩=>bZ (hb pins s1 σ H1 _ I1 q1) fun u s2 ⟨y,H2,I2,r2,q2⟩ =>
  bZ (ho pins s2 σ H2 x y v u _ I2 r1 r2 q2) fun c s3 ⟨z,H3,I3,r3,k,e,q3⟩=>?_) hm
 subst e
 cases r3
 exact wpAny_truthy_bool ⟨H3,I3,q3⟩
noncomputable def Hg(K:PySem.W.Frag)(x:V)(H:Hp)(k:Bool):Prop :=
 match x with
 | .non=>k=false
 | .bl b=>k=b
 | .int i=>k=(i != 0)
 | .str y=>y.length<=sizeLine/\k=((y.length:Int) != 0)
 | .byt y=>y.size<=sizeLine/\k=((y.size:Int) != 0)
 | .ref p=>(∃xs,fO K H p xs/\k = !xs.isEmpty)\/(∃xs,iI K H p xs/\k = !xs.isEmpty)\/∃kvs,H p=some (.dK kvs)/\k = !kvs.isEmpty
 | _=>False
theorem vv{κ:Type}{kvs:List (κ × V)}{vs:List (κ × Value)}(r:KV kvs vs):(!vs.isEmpty) = !kvs.isEmpty:=by
 cases r<;>rfl
theorem nP{xs:List V}{its:List Value}(r:Vals xs its):(!its.toArray.isEmpty) = !xs.isEmpty:=by
 cases r<;>simp
theorem lF:(sizeLine:Nat)<2 ^ 63:=by rw[sizeLine_eq];decide
theorem Hh:OY X (fun x H Q=>∃k,Hg X.K x H k/\Q k H):=by
 intro pins s σ H x v Q I rx h
 obtain⟨k,e,q⟩:=h
 have hl:=lF
 have hs:sizeLine=16777216:=sizeLine_eq
 cases x with
 | non =>
  cases rx
  have e':k=false:=e
  subst e'
  exact truthy_none ⟨H,I,q⟩
 | bl b =>
  cases rx
  have e':k=b:=e
  subst e'
  exact wpAny_truthy_bool ⟨H,I,q⟩
 | int i =>
  obtain⟨t,rfl⟩:=rx
  have e':k=(i != 0):=e
  subst e'
  exact PySem.P.truthy_int ⟨H,I,q⟩
 | str y =>
  obtain⟨t,rfl⟩:=rx
  obtain⟨hy,e'⟩:y.length<=sizeLine/\k=((y.length:Int) != 0):=e
  subst e'
  exact PySem.P.truthy_str (by omega) ⟨H,I.tok _,q⟩
 | byt y =>
  obtain⟨t,rfl⟩:=rx
  obtain⟨hy,e'⟩:y.size<=sizeLine/\k=((y.size:Int) != 0):=e
  subst e'
  exact PySem.W.truthy_bytes (by omega) ⟨H,I.tok _,q⟩
 | ref p =>
  cases rx
  have e':(∃xs,fO X.K H p xs/\k = !xs.isEmpty)\/(∃xs,iI X.K H p xs/\k = !xs.isEmpty)\/∃kvs,H p=some (.dK kvs)/\k = !kvs.isEmpty:=e
  rcases e' with ⟨xs,hx,e'⟩|⟨xs,hx,e'⟩|⟨kvs,hx,e'⟩
  ·subst e'
   obtain⟨its,r,pl,hz⟩:=I.list hx
   have hlen:=r.length
   exact wpAny_truthy_list pl.isList (by simp only[List.size_toArray];omega) ⟨H,I.tok _,by rw[nP r];exact q⟩
  ·subst e'
   obtain⟨its,r,pl,hz⟩:=I.tuple hx
   have hlen:=r.length
   exact truthy_tuple pl (by simp only[List.size_toArray];omega) ⟨H,I.tok _,by rw[nP r];exact q⟩
  ·subst e'
   obtain⟨hz,hS,vs,r,m⟩:kvs.length<=sizeLine/\(p==sysModules)=false/\∃vs,KV kvs vs/\s.heap.DictOf (aO X.prog X.w) p vs:=I.hok p _ hx
   have hlen:kvs.length=vs.length:=Paired.length r
   exact wpAny_truthy_dict hS m (by omega) ⟨H,I.tok _,by rw[vv r];exact q⟩
 | _=>exact(show False from e).elim
theorem Aj(ha:PE X a ta)(he:∀whole,isTrue a X.env whole=(do let v <-whole;standAt a.pos;holding [v] (truthy v))) :
  PT X a (fun σ H Q=>ta σ H fun x H'=>∃k,Hg X.K x H' k/\Q k H'):=by
 intro pins s σ H Q I h
 exact isTrue_plain (bZ (ha pins s σ H _ I h) fun v s1 ⟨x,H1,I1,r1,q1⟩=>Hh pins s1 σ H1 x v Q I1 r1 q1) (he _)
theorem vz:ja X (binaryOp .Add) (fun x y H Q=>∃i j,x=.str i/\y=.str j/\i.length+j.length<=sizeLine/\Q (.str (i++j)) H):=by
 intro pins s σ H x y v u Q I rx ry h
 obtain⟨i,j,rfl,rfl,hz,q⟩:=h
 obtain⟨t,rfl⟩:=rx
 obtain⟨t',rfl⟩:=ry
 exact add_str (fun t' tk=>⟨.str (i++j),H,I.tok _,⟨_,rfl⟩,q⟩) hz
theorem vals1{x:V}{us:List Value}(r:Vals [x] us):∃u,us=[u]/\RelV x u:=by
 cases r with
 | cons r1 r2=>cases r2;exact⟨_,rfl,r1⟩
theorem vals2{x y:V}{us:List Value}(r:Vals [x,y] us):∃u w',us=[u,w']/\RelV x u/\RelV y w':=by
 cases r with
 | cons r1 r2 =>
  cases r2 with
  | cons r3 r4=>cases r4;exact⟨_,_,rfl,r1,r3⟩
theorem yI(hc:X.calm=true):cJ X (.builtin "max") (fun xs H Q=>∃i j,xs=[.int i,.int j]/\Q (.int (if j>i then j else i)) H):=by
 intro pins s σ H xs us Q I r h
 obtain⟨i,j,rfl,q⟩:=h
 obtain⟨u,w',rfl,⟨t,rfl⟩,⟨t',rfl⟩⟩:=vals2 r
 refine max_two_ints (I.ok.hd hc) fun h' tk k=>⟨_,H,I.kept k,?_,q⟩
 by_cases hj:j>i
 ·rw[if_pos hj,if_pos hj];exact⟨_,rfl⟩
 ·rw[if_neg hj,if_neg hj];exact⟨_,rfl⟩
theorem yJ(hc:X.calm=true):cJ X (.builtin "min") (fun xs H Q=>∃i j,xs=[.int i,.int j]/\Q (.int (if j<i then j else i)) H):=by
 intro pins s σ H xs us Q I r h
 obtain⟨i,j,rfl,q⟩:=h
 obtain⟨u,w',rfl,⟨t,rfl⟩,⟨t',rfl⟩⟩:=vals2 r
 refine min_two_ints (I.ok.hd hc) fun h' tk k=>⟨_,H,I.kept k,?_,q⟩
 by_cases hj:j<i
 ·rw[if_pos hj,if_pos hj];exact⟨_,rfl⟩
 ·rw[if_neg hj,if_neg hj];exact⟨_,rfl⟩
theorem qj:cJ X (.type "int") (fun xs H Q=>(∃i,xs=[.int i]/\Q (.int i) H)\/∃k,xs=[.bl k]/\Q (.int (if k then 1 else 0)) H):=by
 intro pins s σ H xs us Q I r h
 rcases h with ⟨i,rfl,q⟩|⟨k,rfl,q⟩
 ·obtain⟨u,rfl,t,rfl⟩:=vals1 r
  exact call_int_int ⟨.int i,H,I,⟨_,rfl⟩,q⟩
 ·obtain⟨u,rfl,r1⟩:=vals1 r
  cases r1
  exact call_int_bool ⟨.int (if k then 1 else 0),H,I.tok _,⟨_,rfl⟩,q⟩
noncomputable def O3(K:PySem.W.Frag)(x:V)(H:Hp)(n:Nat):Prop :=
 match x with
 | .str y=>y.length<=sizeLine/\n=y.length
 | .byt y=>y.size<=sizeLine/\n=y.size
 | .ref p=>(∃xs,fO K H p xs/\n=xs.length)\/∃xs,iI K H p xs/\n=xs.length
 | _=>False
theorem kE:cJ X (.builtin "len") (fun xs H Q=>∃x n,xs=[x]/\O3 X.K x H n/\Q (.int n) H):=by
 intro pins s σ H xs us Q I r h
 obtain⟨x,n,rfl,e,q⟩:=h
 obtain⟨u,rfl,rx⟩:=vals1 r
 have hl:=lF
 have hs:sizeLine=16777216:=sizeLine_eq
 cases x with
 | str y =>
  obtain⟨t,rfl⟩:=rx
  obtain⟨hy,e'⟩:y.length<=sizeLine/\n=y.length:=e
  subst e'
  exact len_str (by omega) ⟨.int _,H,I.tok _,⟨_,rfl⟩,q⟩
 | byt y =>
  obtain⟨t,rfl⟩:=rx
  obtain⟨hy,e'⟩:y.size<=sizeLine/\n=y.size:=e
  subst e'
  exact PySem.W.len_bytes (by omega) ⟨.int _,H,I.tok _,⟨_,rfl⟩,q⟩
 | ref p =>
  cases rx
  have e':(∃xs,fO X.K H p xs/\n=xs.length)\/∃xs,iI X.K H p xs/\n=xs.length:=e
  rcases e' with ⟨xs,hx,e'⟩|⟨xs,hx,e'⟩
  ·subst e'
   obtain⟨its,r',pl,hz⟩:=I.list hx
   have hlen:=r'.length
   exact Calls.call_len_list pl.isList (by simp only[List.size_toArray];omega) ⟨.int xs.length,H,I.tok _,⟨_,by simp only[List.size_toArray];rw[hlen]⟩,q⟩
  ·subst e'
   obtain⟨its,r',pl,hz⟩:=I.tuple hx
   have hlen:=r'.length
   exact len_tuple pl (by simp only[List.size_toArray];omega) ⟨.int xs.length,H,I.tok _,⟨_,by simp only[List.size_toArray];rw[hlen]⟩,q⟩
 | _=>exact(show False from e).elim
end
end L2
namespace L2
open PySem PySem.Spec PyProof.Rows
structure vA (h:Heap) (x dx C:Addr) (mA:Str->Option Value):Prop where
 obj:h.get? x=some (PySem.W.instObj C dx)
 ns:h.Ns1 dx mA
 ne:dx≠x
theorem yK{h:Heap}{dx:Addr}{mA:Str->Option Value}(n:h.Ns1 dx mA):∃od,h.get? dx=some od/\∀name,PySem.W.lookIn name od=some (mA name):=by
 obtain⟨o,es,ep,ho,hd,hk,_,hm⟩:=n
 refine⟨o,ho,fun name=>?_⟩
 have e:=hm name
 unfold nsFind findBy at e
 rw[<-Array.find?_toList] at e
 unfold PySem.W.lookIn
 rw[hd]
 dsimp only
 split
 ·rename_i y q
  rw[q] at e
  exact congrArg some e
 ·rename_i q
  rw[q] at e
  have a:es.toList.any (·.refKey)=false:=by
   rw[List.any_eq_false]
   intro y hy
   obtain⟨z,t,hkey⟩:=hk y (Array.mem_toList_iff.mp hy)
   simp[DictEntry.refKey,hkey]
  have a':¬ es.toList.any (·.refKey)=true:=by rw[a];exact Bool.false_ne_true
  rw[if_neg a']
  exact congrArg some e
theorem vA.look{h:Heap}{x dx C:Addr}{mA:Str->Option Value}(I:vA h x dx C mA):∃od,PySem.W.InstAt h x (PySem.W.instObj C dx) C (some od)/\∀name,PySem.W.lookIn name od=some (mA name) :=
 let ⟨od,ho,hl⟩:=yK I.ns
 ⟨od,⟨I.obj,rfl,rfl,ho⟩,hl⟩
section
variable {prog:Program} {w:World} {A:Around} {E:Value->Shared->Prop} {s:Shared} {K:PySem.W.Frag} {x dx C f:Addr} {mA:Str->Option Value} {name:Str} {v:Value}
theorem get_map{expr:Bool}{Q:Value->Shared->Prop}(X:K.In s.heap)(I:vA s.heap x dx C mA)(hg:PySem.W.plainGet K C name=true)(hh:PySem.W.hasDictIn K C=true)
  (ha:PySem.W.findIn K (.ref C) name=some none) (hv:mA name=some v) (hv':PySem.W.handedIn v=true) (h:Q v { s with toks:=s.toks+1 }) :
  wpAny (model prog w) A (getAttr (.ref x) name expr) Q E s:=by
 obtain⟨od,J,hl⟩:=I.look
 exact PySem.W.get_value X J (PySem.W.plainGet_of hg).1 (PySem.W.findObj_own hh ha rfl (by rw[hl,hv])) hv' h
theorem Ak{pl:Sem Bool}{Q:Value×List Value->Shared->Prop}(X:K.In s.heap)(I:vA s.heap x dx C mA)(hg:PySem.W.plainGet K C name=true)
  (hf:PySem.W.findIn K (.ref C) name=some (some (.ref f))) (ht:PySem.W.isFn K (.ref f)=true) (hv:mA name=none) (h:Q (.ref f,[.ref x]) s) :
  wpAny (model prog w) A (getMethod (.ref x) name pl) Q E s:=by
 obtain⟨od,J,hl⟩:=I.look
 exact PySem.W.method_fn X J (PySem.W.plainGet_of hg).1 (PySem.W.plainGet_of hg).2 hf (beq_iff_eq.mp ht) (by show (PySem.W.lookIn name od).map (·.isSome)=some false;rw[hl,hv];rfl) h
theorem Dy{ns:List Str}{Q:Unit->Shared->Prop}(X:K.In s.heap)(I:vA s.heap x dx C mA)
  (hs:PySem.W.findIn K (.ref C) "__setattr__" = some (some (.builtin "object.__setattr__"))) (hp:PySem.W.plainOver K C=true) (ht:PySem.W.takerIn K C name=some none) (hh:PySem.W.hasDictIn K C=true)
  (hw:PySem.Within mA ns) (hsz:ns.length<=sizeLine)
  (h:∀h',vA h' x dx C (fun y=>if y=name then some v else mA y)->Heap.SameBut dx s.heap h'->Q () { s with heap:=h',toks:=s.toks+2 }) :
  wpAny (model prog w) A (setAttr (.ref x) name v) Q E s:=by
 obtain⟨od,J,hl⟩:=I.look
 refine PySem.W.set_plain X J hs (PySem.W.osa_open (s:={ s with toks:=s.toks+1 }) (r:=none) X J hp ht fun b=>?_)
 obtain⟨cd,hc,hd'⟩:=PySem.W.any_some hh
 have hx:s.heap.get? x=some ⟨.ref C,some dx,.plain,#[]⟩:=I.obj
 refine wpAny_bind (wpAny_pure (wpAny_bind (wpAny_bind (wpAny_loadPart hx (wpAny_bind (PySem.W.Looks.here (s:={ s with toks:=s.toks+1 }) (PySem.W.looks_clsIn X hc) ?_))))))
 rw[hd']
 refine wpAny_pure (a:=some dx) (wpAny_bind (wpAny_pure (wpAny_bind ?_)))
 refine wpAny_nsSet1 (s:={ s with toks:=s.toks+1 }) I.ns fun h' hn2 hs2=>?_
 obtain⟨oD,esD,Xx,T5,T6,T7⟩:=hn2.count (PySem.Within.cons name v hw)
 refine wpAny_bind (wpAny_lookBehind T5 (by rw[T6];exact pastItsLine_dict (Nat.le_trans T7 (by rw[List.length_cons];omega))) ?_)
 exact wpAny_pure (h _ ⟨(hs2.2 _ (Ne.symm I.ne)).trans I.obj,hn2,I.ne⟩ hs2)
theorem Am{R:Result->Shared->Prop}{vs:List Value}{kw:List (Str×Value)}(X:K.In s.heap)(hm:PySem.W.makesIn K C=true)
  (hi:PySem.W.findIn K (.ref C) "__init__" = some (some (.ref f))) (hf:PySem.W.typeIn K (.ref f)=some (.type "function"))
  (h:codeAny (model prog w) (A.under (.builtin "type.__call__" ⟨.ref C::vs,kw⟩)) (.call (.ref f) ⟨.ref (s.heap.objs.size+1)::vs,kw⟩) (PySem.W.InitBack (s.heap.objs.size+1) R)
   { s with heap:=(s.heap.push PySem.W.emptyDict).push (PySem.W.instObj C s.heap.objs.size) }) :
  codeAny (model prog w) A (.call (.ref C) ⟨vs,kw⟩) R s:=by
 obtain⟨hh,g,d,t,os⟩:=s
 exact PySem.W.make_core (PySem.W.makes_of X hm) (PySem.W.looks_findIn X hi) (fun self=>PySem.W.bind_fn X self hf) (.inl rfl) h
end
noncomputable def iK(f:Str)(v:V):List (Str×V)->List (Str×V)
 | []=>[(f,v)]
 | (g,x)::r=>if g=f then (g,v)::r else (g,x)::iK f v r
theorem mH(f g:Str)(v:V):∀fs:List (Str×V),(iK f v fs).lookup g=if g=f then some v else fs.lookup g
 | []=>by
  show List.lookup g [(f,v)]=_
  by_cases h:g=f
  ·have hb:(g==f)=true:=beq_iff_eq.mpr h
   simp only[List.lookup,hb,if_pos h]
  ·have hb:(g==f)=false:=beq_eq_false_iff_ne.mpr h
   simp only[List.lookup,hb,if_neg h]
 | (k,x)::r=>by
  have ih:=mH f g v r
  rw[show iK f v ((k,x)::r)=(if k=f then (k,v)::r else (k,x)::iK f v r) from rfl]
  by_cases hk:k=f
  ·rw[if_pos hk]
   by_cases h:g=k
   ·have hb:(g==k)=true:=beq_iff_eq.mpr h
    simp only[List.lookup,hb,if_pos (h.trans hk)]
   ·have hb:(g==k)=false:=beq_eq_false_iff_ne.mpr h
    simp only[List.lookup,hb,if_neg (fun e:g=f=>h (e.trans hk.symm))]
  ·rw[if_neg hk]
   by_cases h:g=k
   ·have hb:(g==k)=true:=beq_iff_eq.mpr h
    simp only[List.lookup,hb,if_neg (fun e:g=f=>hk (h.symm.trans e))]
   ·have hb:(g==k)=false:=beq_eq_false_iff_ne.mpr h
    simp only[List.lookup,hb]
    exact ih
theorem lG(f:Str)(v:V):∀fs:List (Str×V),f∈(iK f v fs).map (·.1)/\∀g,g∈fs.map (·.1)->g∈(iK f v fs).map (·.1)
 | []=>⟨by simp[iK],fun g h=>by simp at h⟩
 | (k,x)::r=>by
  obtain⟨i1,i2⟩:=lG f v r
  rw[show iK f v ((k,x)::r)=(if k=f then (k,v)::r else (k,x)::iK f v r) from rfl]
  by_cases hk:k=f
  ·rw[if_pos hk]
   subst hk
   exact⟨by simp,fun g h=>by simpa using h⟩
  ·rw[if_neg hk]
   refine⟨?_,fun g h=>?_⟩
   ·rw[List.map_cons]
    exact List.mem_cons_of_mem _ i1
   ·rw[List.map_cons] at h |-
    rcases List.mem_cons.mp h with e|e
    ·exact List.mem_cons.mpr (.inl e)
    ·exact List.mem_cons_of_mem _ (i2 g e)
theorem mJ(f:Str)(v:V):∀fs:List (Str×V),(iK f v fs).length<=fs.length+1
 | []=>by simp[iK]
 | (k,x)::r=>by
  have ih:=mJ f v r
  rw[show iK f v ((k,x)::r)=(if k=f then (k,v)::r else (k,x)::iK f v r) from rfl]
  by_cases hk:k=f
  ·rw[if_pos hk,List.length_cons,List.length_cons];omega
  ·rw[if_neg hk,List.length_cons,List.length_cons];omega
theorem iY.some_of{v:V}{o:Option Value}(r:iY (some v) o):∃u,o=some u/\RelV v u:=by
 cases o with
 | none=>exact(show False from r).elim
 | some u=>exact⟨u,rfl,r⟩
theorem iY.none_of{o:Option Value}(r:iY none o):o=none:=by
 cases o with
 | none=>rfl
 | some u=>exact(show False from r).elim
theorem yL{v:V}{u:Value}(r:RelV v u):PySem.W.handedIn u=true:=by
 cases v with
 | non=>cases (show u=Value.none from r);rfl
 | bl b=>cases (show u=Value.bool b from r);rfl
 | int i=>obtain⟨t,e⟩:=(show ∃t,u=Value.int i t from r);cases e;rfl
 | str x=>obtain⟨t,e⟩:=(show ∃t,u=Value.str x t from r);cases e;rfl
 | byt b=>obtain⟨t,e⟩:=(show ∃t,u=Value.bytes b t from r);cases e;rfl
 | flt b=>obtain⟨t,e⟩:=(show ∃t,u=Value.float b t from r);cases e;rfl
 | ref a=>cases (show u=Value.ref a from r);rfl
 | ty n=>cases (show u=Value.type n from r);rfl
section
variable {P:Program} {w:World} {H H':Hp} {h h':Heap} {a C dx:Addr} {fs fs':List (Str×V)}
theorem rm(hok:kg P w H h)(e:H a=some (.ins C dx fs)):∃mA,vA h a dx C mA/\(∀f,iY (fs.lookup f) (mA f))/\PySem.Within mA (fs.map (·.1))/\fs.length<=1000/\H dx=some (.own a):=by
 obtain⟨d,z,ne,ob,mA,n,r,q⟩:=(show bI P w H h a (.ins C dx fs) from hok a _ e)
 exact⟨mA,⟨ob,n,ne⟩,r,q,z,d⟩
end
structure z4 (K:PySem.W.Frag) (C:Addr):Prop where
 pg:PySem.W.plainGet K C Str.empty=true
 hd:PySem.W.hasDictIn K C=true
 po:PySem.W.plainOver K C=true
 sa:PySem.W.findIn K (.ref C) "__setattr__" = some (some (.builtin "object.__setattr__"))
theorem z4.get{K:PySem.W.Frag}{C:Addr}(c:z4 K C)(f:Str):PySem.W.plainGet K C f=true:=c.pg
noncomputable def jf(K:PySem.W.Frag)(C:Addr)(f:Str):Prop:=PySem.W.findIn K (.ref C) f=some none
theorem jf.Lq{K:PySem.W.Frag}{C:Addr}{f:Str}(n:jf K C f):PySem.W.takerIn K C f=some none:=by
 unfold PySem.W.takerIn
 rw[show PySem.W.findIn K (.ref C) f=some none from n]
 rfl
structure Meth (K:PySem.W.Frag) (C:Addr) (m:Str) (f:Addr):Prop where
 at_:PySem.W.findIn K (.ref C) m=some (some (.ref f))
 fn:PySem.W.isFn K (.ref f)=true
 kp:PySem.W.keepIn K (.ref f)=true
section
variable {X:Cx} {pins:List (Addr×Obj)} {σ:St} {H:Hp} {s:Shared} {a C dx:Addr} {fs:List (Str×V)} {f:Str} {v:V} {A:Around} {E:Value->Shared->Prop}
theorem vB{b:Bool}{Q:Value->Shared->Prop}(I:Inv X pins σ H s)(e:H a=some (.ins C dx fs))(c:z4 X.K C)(n:jf X.K C f)(l:fs.lookup f=some v)
  (h:∀u s',Inv X pins σ H s'->RelV v u->Q u s'):wpAny (model X.prog X.w) A (getAttr (.ref a) f b) Q E s:=by
 obtain⟨mA,O,r,_,_,_⟩:=rm I.hok e
 obtain⟨u,hu,ru⟩:=iY.some_of (v:=v) (o:=mA f) (by rw[<-l];exact r f)
 exact get_map I.lD O (c.get f) c.hd n hu (yL ru) (h u _ (I.tok _) ru)
theorem nQ{m:Str}{g:Addr}{pl:Sem Bool}{Q:Value×List Value->Shared->Prop}(I:Inv X pins σ H s)(e:H a=some (.ins C dx fs))(c:z4 X.K C)(k:Meth X.K C m g)(l:fs.lookup m=none)
  (h:Q (.ref g,[.ref a]) s):wpAny (model X.prog X.w) A (getMethod (.ref a) m pl) Q E s:=by
 obtain⟨mA,O,r,_,_,_⟩:=rm I.hok e
 have hn:mA m=none:=iY.none_of (by rw[<-l];exact r m)
 exact Ak I.lD O (c.get m) k.at_ k.fn hn h
theorem vC{y:V}{u:Value}{Q:Unit->Shared->Prop}(I:Inv X pins σ H s)(e:H a=some (.ins C dx fs))(c:z4 X.K C)(n:jf X.K C f)(hl:fs.length<1000)(ry:RelV y u)
  (h:∀s',Inv X pins σ (upd H a (.ins C dx (iK f y fs))) s'->Q () s'):wpAny (model X.prog X.w) A (setAttr (.ref a) f u) Q E s:=by
 obtain⟨mA,O,r,wi,_,ho⟩:=rm I.hok e
 have hz:(fs.map (·.1)).length<=sizeLine:=by rw[List.length_map,sizeLine_eq];omega
 refine Dy I.lD O c.sa c.po n.Lq c.hd wi hz fun h' O' sb=>h _ ?_
 have hd:∃o,h'.get? dx=some o:=let ⟨o,_,_,e',_⟩:=O'.ns;⟨o,e'⟩
 refine I.write (x:=a) (e:=dx) (by rw[e];exact True.intro) (.inr ho) (fun b q hb z=>(sb.2 b hb).trans z) hd ?_
 refine⟨by rw[ak O.ne];exact ho,?_,O.ne,O'.obj,_,O'.ns,fun g=>?_,fun g hg=>?_⟩
 ·have:=mJ f y fs;omega
 ·show iY ((iK f y fs).lookup g) (if g=f then some u else mA g)
  rw[mH]
  by_cases q:g=f
  ·rw[if_pos q,if_pos q];exact ry
  ·rw[if_neg q,if_neg q];exact r g
 ·by_cases q:g=f
  ·rw[q];exact(lG f y fs).1
  ·refine(lG f y fs).2 g (wi g fun z=>hg ?_)
   show (if g=f then some u else mA g)=none
   rw[if_neg q];exact z
theorem Inv.made(I:Inv X pins σ H s):Inv X pins σ (upd (upd H s.heap.objs.size (.own (s.heap.objs.size+1))) (s.heap.objs.size+1) (.ins C s.heap.objs.size []))
  { s with heap:=(s.heap.push PySem.W.emptyDict).push (PySem.W.instObj C s.heap.objs.size) }:=by
 have e1:(s.heap.push PySem.W.emptyDict).get? s.heap.objs.size=some PySem.W.emptyDict:=Heap.get?_push_size s.heap rfl
 have e2:((s.heap.push PySem.W.emptyDict).push (PySem.W.instObj C s.heap.objs.size)).get? (s.heap.objs.size+1)=some (PySem.W.instObj C s.heap.objs.size):=by
  have:=Heap.get?_push_size (s.heap.push PySem.W.emptyDict) (o:=PySem.W.instObj C s.heap.objs.size) rfl
  rwa [Heap.size_push] at this
 have e3:(s.heap.push PySem.W.emptyDict).Ns s.heap.objs.size (fun _=>none):=⟨PySem.W.emptyDict,#[],_,e1,rfl,(fun e he=>absurd he (by simp)),fun _=>rfl⟩
 have I1:=I.laid (a:=s.heap.objs.size) (o:=.own (s.heap.objs.size+1)) (h':=s.heap.push PySem.W.emptyDict) (t':=s.toks) (fun b u q=>Heap.get?_push_of_some _ q) (Nat.le_refl _) ⟨_,e1⟩
 refine I1.laid (a:=s.heap.objs.size+1) (o:=.ins C s.heap.objs.size []) (t':=s.toks) (fun b u q=>Heap.get?_push_of_some _ q) (Nat.le_of_eq (Heap.size_push _ _)) ?_
 have ne:s.heap.objs.size≠s.heap.objs.size+1:=Nat.ne_of_lt (Nat.lt_succ_self _)
 refine⟨by rw[ak ne,aM],Nat.zero_le _,ne,e2,fun _=>none,(Heap.Ns1.of_empty e3).at fun o q=>Heap.get?_push_of_some _ q,fun _=>True.intro,fun y hy=>absurd rfl hy⟩
theorem attr_of{prog:Program}{w:World}{env:Env}{e:Expr}{f:Str}{pos:Pos}{s:Shared}{Q:Value->Shared->Prop}(hb:attributeBase e f env (eval e env)=eval e env)
  (h:wpAny (model prog w) A (eval e env) (fun o s₁=>wpAny (model prog w) A (getAttr o f true) Q E s₁) E s):wpAny (model prog w) A (eval (.Attribute e f pos) env) Q E s :=
 Attribute_any_ h (by rw[arm_eval_Attribute,hb])
end
noncomputable def tFld(K:PySem.W.Frag)(ta:TE)(f:Str):TE:=fun σ H Q=>ta σ H fun x H1=>∃a C dx fs v,x=.ref a/\H1 a=some (.ins C dx fs)/\z4 K C/\jf K C f/\fs.lookup f=some v/\Q v H1
noncomputable def O4(K:PySem.W.Frag)(ta tv:TE)(f:Str):TS:=fun D σ H=>tv σ H fun y H1=>ta σ H1 fun x H2=>∃a C dx fs,x=.ref a/\H2 a=some (.ins C dx fs)/\z4 K C/\jf K C f/\fs.length<1000 /\
 D.nx σ (upd H2 a (.ins C dx (iK f y fs)))
section
variable {X:Cx} {o e value:Expr} {f:Str} {pos pos' tpos:Pos} {ta tv:TE}
theorem pe_fld(he:PE X e ta)(hb:attributeBase e f X.env (eval e X.env)=eval e X.env):PE X (.Attribute e f pos) (tFld X.K ta f):=by
 intro pins s σ H Q I h
 refine attr_of hb (bZ (he pins s σ H _ I h) fun u s1 aC=>?_)
 obtain⟨x,H1,I1,rx,a,C,dx,fs,v,ex,ea,c,n,l,q⟩:=aC
 subst ex
 obtain rfl:u=Value.ref a:=rx
 exact vB I1 ea c n l fun u' s2 I2 ru=>⟨v,H1,I2,ru,q⟩
theorem Hi(ha:PE X o ta)(hv:PE X value tv)(hs:swapsWith value (some (.Attribute o f pos')) pos.line X.env=pure false):PS X (.Assign [.Attribute o f pos'] value pos) (O4 X.K ta tv f):=by
 intro pins s σ H D I h
 refine plainObj_wpAny_Assign_Attribute (bZ (hv pins s σ H _ I h) fun u s1 ⟨y,H1,I1,ry,q⟩=>bZ (ha pins s1 σ H1 _ I1 q) fun ov s2 ⟨x,H2,I2,rx,a,C,dx,fs,ex,ea,c,n,l,q2⟩=>?_) hs
 subst ex
 obtain rfl:ov=Value.ref a:=rx
 exact vC I2 ea c n l ry fun s3 I3=>⟨σ,_,I3,q2⟩
end
section
variable {X:Cx} {pins:List (Addr×Obj)} {σ:St} {H:Hp} {s:Shared} {A:Around} {E:Value->Shared->Prop} {Q:Value->Shared->Prop} {c:Value} {b:Bool}
end
end L2
namespace L2
open PySem PySem.Spec PyProof.Rows
structure cX (k:Nat) (A:Around):Prop where
 hd:A.handled=none
 dp:A.depth+3*k+5<recursionLimit
 un:A.units+16*k+200<cLine
theorem cX.mono{j k:Nat}{A:Around}(r:cX k A)(h:j<=k):cX j A:=⟨r.hd,by have:=r.dp;omega,by have:=r.un;omega⟩
theorem cX.deeper{k:Nat}{A:Around}(r:cX (k+1) A)(env:Env):cX k (A.deeper env) :=
 ⟨r.hd,by have:=r.dp;show A.depth+1+3*k+5<_;omega,by have:=r.un;show A.units+3+16*k+200<_;omega⟩
theorem vD{A:Around}{C:Addr}{us:List Value}{kw:List (Str×Value)}:(A.under (.builtin "type.__call__" ⟨.ref C::us,kw⟩)).depth=A.depth+1:=by
 first|rfl|simp[Around.under,Code.weight,Code.isCreation,Code.isGuard,Code.isCaller,Code.frames,Code.isFrame,guardIds]
theorem vF{A:Around}{C:Addr}{us:List Value}{kw:List (Str×Value)}:(A.under (.builtin "type.__call__" ⟨.ref C::us,kw⟩)).units=A.units+1:=by
 first|rfl|simp[Around.under,Code.cUnits,Code.frames,Code.isFrame]
theorem cX.make{k:Nat}{A:Around}(r:cX (k+1) A)(C:Addr)(us:List Value)(kw:List (Str×Value)):cX k (A.under (.builtin "type.__call__" ⟨.ref C::us,kw⟩)) :=
 ⟨r.hd,by have:=r.dp;rw[vD];omega,by have:=r.un;rw[vF];omega⟩
theorem cX.depth{k:Nat}{A:Around}(r:cX k A):A.depth<recursionLimit:=by have:=r.dp;omega
theorem cX.units{k:Nat}{A:Around}(r:cX k A):A.units+64<cLine:=by have:=r.un;omega
noncomputable def Hj:TA:=fun _ H Q=>Q [] H
noncomputable def Lr(ta:TE)(tr:TA):TA:=fun σ H Q=>ta σ H fun x H1=>tr σ H1 fun xs H2=>Q (x::xs) H2
section
variable {X:Cx} {e:Expr} {es:List Expr} {te:TE} {t:TA} {pos:Pos}
theorem An:PA X [] Hj:=fun _ _ _ _ H Q I h=>Calls.spliced_nil ⟨[],H,I,.nil,h⟩
theorem rq(ha:PE X e te)(hr:PA X es t)(hs:starEach (e::es) X.env=(false,eval e X.env)::starEach es X.env:=by rfl):PA X (e::es) (Lr te t):=by
 intro pos pins s σ H Q I h
 rw[hs]
 show wpAny _ _ (spliced ((false,eval e X.env)::backTo pos (starEach es X.env))) _ _ s
 refine Calls.spliced_cons (bZ (ha pins s σ H _ I h) fun u s1 aC=>?_)
 obtain⟨x,H1,I1,r1,q1⟩:=aC
 exact bZ (hr pos pins s1 σ H1 _ I1 q1) fun us s2 ⟨xs,H2,I2,r2,q2⟩=>⟨x::xs,H2,I2,.cons r1 r2,q2⟩
noncomputable def O5(t:TA):TE:=fun σ H Q=>t σ H fun xs H1=>xs.length<=sizeLine/\∀p,H1 p=none->Q (.ref p) (upd H1 p (.tup xs))
noncomputable def O6(t:TA):TE:=fun σ H Q=>t σ H fun xs H1=>xs.length<=sizeLine/\∀p,H1 p=none->Q (.ref p) (upd H1 p (.lst xs))
theorem Hl{x1}(h:PA X es t):PE X (.Tuple es x1 pos) (O5 t):=by
 intro pins s σ H Q I hq
 refine wpAny_Tuple_spliced (bZ (h pos pins s σ H _ I hq) fun us s1 ⟨xs,H1,I1,r,z,q⟩=>⟨by rw[<-r.length];exact z,?_⟩)
 have hf:H1 s1.heap.objs.size=none:=I1.hok.fresh (Nat.le_refl _)
 refine⟨.ref s1.heap.objs.size,upd H1 s1.heap.objs.size (.tup xs),I1.laid (t':=s1.toks) (fun b u e=>Heap.get?_push_of_some _ e) (Nat.le_refl _) ?_,rfl,q _ hf⟩
 exact⟨z,us,r,⟨_,Heap.get?_push_size _ rfl,rfl,_,rfl⟩⟩
theorem Ho(h:PA X es t):PE X (.List es pos) (O6 t):=by
 intro pins s σ H Q I hq
 refine wpAny_List_spliced (bZ (h pos pins s σ H _ I hq) fun us s1 ⟨xs,H1,I1,r,z,q⟩=>⟨by rw[<-r.length];exact z,?_⟩)
 have hf:H1 s1.heap.objs.size=none:=I1.hok.fresh (Nat.le_refl _)
 refine⟨.ref s1.heap.objs.size,upd H1 s1.heap.objs.size (.lst xs),I1.laid (t':=s1.toks) (fun b u e=>Heap.get?_push_of_some _ e) (Nat.le_refl _) ?_,rfl,q _ hf⟩
 exact⟨z,us,0,r,Heap.get?_push_size _ rfl⟩
end
noncomputable abbrev Sp:=List V->Hp->VK->XK->Prop
noncomputable abbrev yM:=List Env->Hp->Shared->XK->Value->Shared->Prop
structure vG (P:Program) (w:World) (K:PySem.W.Frag) (mg:Str->Option Value) (base:Heap) (A:Around) (outer:List Env) (s:Shared) (H:Hp):Prop where
 frames:A.frames=some outer
 mod:Mod K mg base
 bs:∀b o,base.get? b=some o->s.heap.get? b=some o/\H b=none
 FE:base.objs.size<=s.heap.objs.size
 mY:s.heap.FunFrames base outer
 Gy:∀b∈frs outer,H b=none
 hok:kg P w H s.heap
 bare:AllBare s.gens
noncomputable def CE(outer:List Env)(P:Program)(w:World)(H:Hp)(s:Shared)(Q:VK)(u:Value)(s':Shared):Prop :=
 ∃v H',s'.os=s.os/\AllBare s'.gens/\Un (frs outer) [] H H' s.heap s'.heap/\kg P w H' s'.heap/\RelV v u/\Q v H'
noncomputable def CR(CX:yM)(outer:List Env)(P:Program)(w:World)(H:Hp)(s:Shared)(Q:VK)(E:XK)(r:Result)(s':Shared):Prop :=
 match r with
 | .ok (.ret u)=>CE outer P w H s Q u s'
 | .ok _=>False
 | .error e=>CX outer H s E e s'
structure eW (P:Program) (w:World) (K:PySem.W.Frag) (mg:Str->Option Value) (base:Heap) (CX:yM) (k:Nat) (f:Addr) (fd:FuncData) (ps:List Str) (sp:Sp):Prop where
 len:∀vs H Q E,sp vs H Q E->vs.length=ps.length
 run:∀(A:Around) (outer:List Env) (s:Shared) (H:Hp) (args:Args) (us:List Value) (vs:List V) (Q:VK) (E:XK),cX k A->vG P w K mg base A outer s H->BindsTo s fd args (ps.zip us)->Vals vs us->sp vs H Q E ->
  codeAny (model P w) A (.call (.ref f) args) (CR CX outer P w H s Q E) s
theorem eW.mono{P:Program}{w:World}{K:PySem.W.Frag}{mg:Str->Option Value}{base:Heap}{CX:yM}{j k:Nat}{f:Addr}{fd:FuncData}{ps:List Str}{sp:Sp}(F:eW P w K mg base CX j f fd ps sp)(h:j<=k) :
  eW P w K mg base CX k f fd ps sp:=⟨F.len,fun A outer s H args us vs Q E hr=>F.run A outer s H args us vs Q E (hr.mono h)⟩
theorem eW.imp{P:Program}{w:World}{K:PySem.W.Frag}{mg:Str->Option Value}{base:Heap}{CX:yM}{k:Nat}{f:Addr}{fd:FuncData}{ps:List Str}{sp R8:Sp}(F:eW P w K mg base CX k f fd ps sp)
  (h:∀vs H Q E,R8 vs H Q E->sp vs H Q E):eW P w K mg base CX k f fd ps R8 :=
 ⟨fun vs H Q E q=>F.len vs H Q E (h _ _ _ _ q),fun A outer s H args us vs Q E hr he hb hv hs=>F.run A outer s H args us vs Q E hr he hb hv (h _ _ _ _ hs)⟩
theorem vG.make{P:Program}{w:World}{K:PySem.W.Frag}{mg:Str->Option Value}{base:Heap}{A:Around}{outer:List Env}{s:Shared}{H:Hp}(e:vG P w K mg base A outer s H)(C:Addr)(us:List Value)(kw:List (Str×Value)) :
  vG P w K mg base (A.under (.builtin "type.__call__" ⟨.ref C::us,kw⟩)) outer s H:=⟨by first|exact e.frames|(simpa [Around.under,Code.envs,Code.isFrame,pushEnvs] using e.frames),e.mod,e.bs,e.FE,e.mY,e.Gy,e.hok,e.bare⟩
section
variable {X:Cx} {pins:List (Addr×Obj)} {σ:St} {H:Hp} {s s':Shared}
theorem Inv.m5(I:Inv X pins σ H s):vG X.prog X.w X.K X.mg X.base X.A X.stack s H :=
 ⟨I.ok.frames,I.ok.mod,I.bs,Nat.le_trans I.ok.FE I.sz,I.stack,I.wR,I.hok,I.bare⟩
theorem Inv.after{Q:VK}{u:Value}(I:Inv X pins σ H s)(h:CE X.stack X.prog X.w H s Q u s'):EP X pins σ Q u s':=by
 obtain⟨v,H',os,bare,un,hok,r,q⟩:=h
 obtain⟨hh,g,d,t,os'⟩:=s'
 obtain rfl:os'=s.os:=os
 exact⟨v,H',I.call (h':=hh) (g':=g) (d':=d) (t':=t) (ch:=[]) un hok bare (fun b z=>absurd z (by simp)),r,q⟩
end
noncomputable def FI(sp:Sp)(pT:List V)(E:XK)(t:TA):TE:=fun σ H Q=>t σ H fun vs H1=>sp (vs++pT) H1 Q E
noncomputable def FJ(C:Addr)(sp:Sp)(pT:List V)(E:XK)(t:TA):TE:=fun σ H Q=>t σ H fun vs H1=>∀x dx,H1 x=none->H1 dx=none->dx≠x ->
 sp (.ref x::(vs++pT)) (upd (upd H1 dx (.own x)) x (.ins C dx [])) (fun v H2=>v=.non/\Q (.ref x) H2) E
noncomputable def Binds(K:PySem.W.Frag)(fd:FuncData)(ps:List Str)(ds:List Value):Prop :=
 ∀(s:Shared) (us:List Value),K.In s.heap->(us++ds).length=ps.length->BindsTo s fd ⟨us,[]⟩ (ps.zip (us++ds))
theorem Binds.all{K:PySem.W.Frag}{fd:FuncData}{ps:List Str}(h:∀us:List Value,us.length=ps.length->bindArgs fd ⟨us,[]⟩=pure (ps.zip us)):Binds K fd ps []:=fun s us _ hl=>by
 rw[List.append_nil] at hl |-
 exact .of_eq (h us hl)
noncomputable def Passes(CX:yM)(X:Cx)(E:XK):Prop:=∀(pins:List (Addr×Obj)) (σ:St) (H:Hp) (s:Shared) (e:Value) (s':Shared),Inv X pins σ H s->CX X.stack H s E e s'->X.xe e s'
section
variable {X:Cx} {CX:yM} {k:Nat} {f C:Addr} {fd:FuncData} {ps:List Str} {sp:Sp} {pT:List V} {ds:List Value} {E:XK} {x m:Str} {p pos apos:Pos} {e o:Expr} {es:List Expr} {ta:TE} {t:TA}
theorem nR{pins:List (Addr×Obj)}{σ:St}{H:Hp}{s:Shared}{Q:VK}{us:List Value}{vs:List V}(F:eW X.prog X.w X.K X.mg X.base CX k f fd ps sp)(hr:cX k X.A)(hb:Binds X.K fd ps ds)(hd:Vals pT ds)(hx:Passes CX X E)
  (I:Inv X pins σ H s) (r:Vals vs us) (h:sp (vs++pT) H Q E):wpAny (model X.prog X.w) X.A (call (.ref f) us) (EP X pins σ Q) X.xe s:=by
 have r2:Vals (vs++pT) (us++ds):=r.append hd
 have hl:(us++ds).length=ps.length:=by rw[<-r2.length];exact F.len _ _ _ _ h
 refine wpAny_call (codeAny_mono (F.run X.A X.stack s H ⟨us,[]⟩ (us++ds) (vs++pT) Q E hr I.m5 (hb s us I.lD hl) r2 h) fun r s' hq=>?_)
 cases r with
 | error e=>exact hx pins σ H s e s' I hq
 | ok fl =>
  cases fl with
  | ret u=>exact I.after hq
  | next=>exact False.elim hq
  | brk=>exact False.elim hq
  | cont=>exact False.elim hq
theorem Dz(F:eW X.prog X.w X.K X.mg X.base CX k f fd ps sp)(hr:cX k X.A)(hg:Gl X x)(hm:X.mg x=some (.ref f))(hk:PySem.W.keepIn X.K (.ref f)=true)(hb:Binds X.K fd ps ds)(hd:Vals pT ds)(hx:Passes CX X E)
  (ha:PA X (e::es) t) (hdb:(x==("__debug__":Str))=false:=by decide) (he:starEach (e::es) X.env=(false,eval e X.env)::starEach es X.env:=by rfl) (hpl:(backTo pos (starEach es X.env)).any (·.1)=false:=by rfl) :
  PE X (.Call (.Name x p) (e::es) [] pos) (FI sp pT E t):=by
 intro pins s σ H Q I h
 refine wpAny_Call_Name_kw (jK I hg hm ?_ hdb)
 refine PySem.W.callWith_K (h₀:=X.base) I.ok.mod.Kw hk (bZ (ha pos pins s σ H _ I h) fun us s1 ⟨vs,H1,I1,r,q⟩=>⟨I1.lD,?_⟩) he hpl
 exact nR F hr hb hd hx I1 r q
theorem Ao(F:eW X.prog X.w X.K X.mg X.base CX k f fd ps sp)(hr:cX k X.A)(hg:Gl X x)(hm:X.mg x=some (.ref f))(hk:PySem.W.keepIn X.K (.ref f)=true)(hb:Binds X.K fd ps ds)(hd:Vals pT ds)(hx:Passes CX X E)
  (hdb:(x==("__debug__":Str))=false:=by decide):PE X (.Call (.Name x p) [] [] pos) (FI sp pT E Hj):=by
 intro pins s σ H Q I h
 refine wpAny_Call_Name_kw (jK I hg hm ?_ hdb)
 exact PySem.W.callWith_K0 I.lD hk (nR (us:=[]) F hr hb hd hx I .nil h)
structure Mk (K:PySem.W.Frag) (C f:Addr):Prop where
 makes:PySem.W.makesIn K C=true
 init:PySem.W.findIn K (.ref C) "__init__" = some (some (.ref f))
 fn:PySem.W.isFn K (.ref f)=true
 kp:PySem.W.keepIn K (.ref C)=true
theorem tu{pins:List (Addr×Obj)}{σ:St}{H:Hp}{s:Shared}{Q:VK}{us:List Value}{vs:List V}(M:Mk X.K C f)(F:eW X.prog X.w X.K X.mg X.base CX k f fd ps sp)(hr:cX (k+1) X.A)(hb:Binds X.K fd ps ds)(hd:Vals pT ds)
  (hx:Passes CX X E) (I:Inv X pins σ H s) (r:Vals vs us)
  (h:∀x dx,H x=none->H dx=none->dx≠x->sp (.ref x::(vs++pT)) (upd (upd H dx (.own x)) x (.ins C dx [])) (fun v H2=>v=.non/\Q (.ref x) H2) E) :
  wpAny (model X.prog X.w) X.A (call (.ref C) us) (EP X pins σ Q) X.xe s:=by
 have hq:=h (s.heap.objs.size+1) s.heap.objs.size (I.hok.fresh (Nat.le_succ _)) (I.hok.fresh (Nat.le_refl _)) (Nat.ne_of_lt (Nat.lt_succ_self _))
 have I2:=Inv.made (C:=C) I
 have r2:Vals (V.ref (s.heap.objs.size+1)::(vs++pT)) (Value.ref (s.heap.objs.size+1)::(us++ds)):=.cons rfl (r.append hd)
 have hl:(Value.ref (s.heap.objs.size+1)::us++ds).length=ps.length:=by
  have e:=r2.length
  rw[F.len _ _ _ _ hq] at e
  exact e.symm
 refine wpAny_call (Am (f:=f) I.lD M.makes M.init (beq_iff_eq.mp M.fn) (codeAny_mono (F.run _ X.stack _ _ ⟨Value.ref (s.heap.objs.size+1)::us,[]⟩ (Value.ref (s.heap.objs.size+1)::(us++ds)) _ _ E (hr.make C us [])
  (I2.m5.make C us []) (hb _ (Value.ref (s.heap.objs.size+1)::us) I2.lD hl) r2 hq) fun r s' hq'=>?_))
 cases r with
 | error e=>exact hx pins σ _ _ e s' I2 hq'
 | ok fl =>
  cases fl with
  | ret u =>
   obtain⟨v,H',I3,rv,ev,q3⟩:=I2.after hq'
   subst ev
   exact⟨rv,⟨V.ref (s.heap.objs.size+1),H',I3,rfl,q3⟩⟩
  | next=>exact False.elim hq'
  | brk=>exact False.elim hq'
  | cont=>exact False.elim hq'
theorem DA(M:Mk X.K C f)(F:eW X.prog X.w X.K X.mg X.base CX k f fd ps sp)(hr:cX (k+1) X.A)(hg:Gl X x)(hm:X.mg x=some (.ref C))(hb:Binds X.K fd ps ds)(hd:Vals pT ds)(hx:Passes CX X E)
  (ha:PA X (e::es) t) (hdb:(x==("__debug__":Str))=false:=by decide) (he:starEach (e::es) X.env=(false,eval e X.env)::starEach es X.env:=by rfl) (hpl:(backTo pos (starEach es X.env)).any (·.1)=false:=by rfl) :
  PE X (.Call (.Name x p) (e::es) [] pos) (FJ C sp pT E t):=by
 intro pins s σ H Q I h
 refine wpAny_Call_Name_kw (jK I hg hm ?_ hdb)
 refine PySem.W.callWith_K (h₀:=X.base) I.ok.mod.Kw M.kp (bZ (ha pos pins s σ H _ I h) fun us s1 ⟨vs,H1,I1,r,q⟩=>⟨I1.lD,?_⟩) he hpl
 exact tu M F hr hb hd hx I1 r q
theorem Aq(M:Mk X.K C f)(F:eW X.prog X.w X.K X.mg X.base CX k f fd ps sp)(hr:cX (k+1) X.A)(hg:Gl X x)(hm:X.mg x=some (.ref C))(hb:Binds X.K fd ps ds)(hd:Vals pT ds)(hx:Passes CX X E)
  (hdb:(x==("__debug__":Str))=false:=by decide):PE X (.Call (.Name x p) [] [] pos) (FJ C sp pT E Hj):=by
 intro pins s σ H Q I h
 refine wpAny_Call_Name_kw (jK I hg hm ?_ hdb)
 exact PySem.W.callWith_K0 I.lD M.kp (tu (us:=[]) M F hr hb hd hx I .nil h)
end
section
variable {X:Cx} {CX:yM} {k:Nat} {f C:Addr} {fd:FuncData} {ps ks:List Str} {sp:Sp} {E:XK} {x m:Str} {p pos apos kpos:Pos} {e o:Expr} {es:List Expr} {kws:List Keyword} {te ta:TE} {t tk:TA} {nm:Option Str}
variable {g:List Value->List Value->List Value} {gV:List V->List V->List V}
end
structure nu (N P:List Str) (sc:Scope):Prop where
 kind:sc.kind=.function
 co:sc.isCoroutine=false
 gen:sc.isGenerator=false
 nd:N.Nodup
 pre:N.take P.length=P
 par:∀x∈P,sc.names.lookup x=some .local\/sc.names.lookup x=some .cell
 Hq:∀y∈sc.names,y.2≠.free
theorem qk{kindOf:Str->Option NameKind}{x:Str}:∀{binds:List (Str×Value)} {m:Str->Option Value},(∀v,(x,v)∉binds)->bindL kindOf binds m x=m x
 | [],_,_=>rfl
 | (n,v)::r,m,h=>by
  unfold bindL
  rw[qk fun w hw=>h w (List.mem_cons_of_mem _ hw)]
  split
  ·have:x≠n:=by rintro rfl;exact h v List.mem_cons_self
   simp[this]
  ·rfl
theorem ql{kindOf:Str->Option NameKind}{x:Str}:∀{binds:List (Str×Value)} {m:Str->Option Value},(∀v,(x,v)∉binds)->bindC kindOf binds m x=m x
 | [],_,_=>rfl
 | (n,v)::r,m,h=>by
  unfold bindC
  rw[ql fun w hw=>h w (List.mem_cons_of_mem _ hw)]
  split
  ·rfl
  ·have:x≠n:=by rintro rfl;exact h v List.mem_cons_self
   simp[this]
theorem qm{kindOf:Str->Option NameKind}{x:Str}{v:Value}:∀{P:List Str} {vs:List Value} {i:Nat} {m:Str->Option Value},P.Nodup->P[i]?=some x->vs[i]?=some v->kindOf x=some .local ->
  bindL kindOf (P.zip vs) m x=some v
 | [],_,_,_,_,h,_,_=>by simp at h
 | _::_,[],_,_,_,_,h,_=>by simp at h
 | p::P,w::vs,0,m,nd,h1,h2,hk=>by
  simp at h1 h2;subst h1;subst h2
  show bindL kindOf ((p,w)::P.zip vs) m p=_
  unfold bindL
  rw[qk fun v hv=>(List.nodup_cons.mp nd).1 (List.of_mem_zip hv).1,if_pos hk]
  simp
 | p::P,w::vs,i+1,m,nd,h1,h2,hk=>by
  show bindL kindOf ((p,w)::P.zip vs) m x=_
  unfold bindL
  exact qm (i:=i) (List.nodup_cons.mp nd).2 (by simpa using h1) (by simpa using h2) hk
theorem qo{kindOf:Str->Option NameKind}{x:Str}{v:Value}:∀{P:List Str} {vs:List Value} {i:Nat} {m:Str->Option Value},P.Nodup->P[i]?=some x->vs[i]?=some v->kindOf x≠some .local ->
  bindC kindOf (P.zip vs) m x=some v
 | [],_,_,_,_,h,_,_=>by simp at h
 | _::_,[],_,_,_,_,h,_=>by simp at h
 | p::P,w::vs,0,m,nd,h1,h2,hk=>by
  simp at h1 h2;subst h1;subst h2
  show bindC kindOf ((p,w)::P.zip vs) m p=_
  unfold bindC
  rw[ql fun v hv=>(List.nodup_cons.mp nd).1 (List.of_mem_zip hv).1,if_neg hk]
  simp
 | p::P,w::vs,i+1,m,nd,h1,h2,hk=>by
  show bindC kindOf ((p,w)::P.zip vs) m x=_
  unfold bindC
  exact qo (i:=i) (List.nodup_cons.mp nd).2 (by simpa using h1) (by simpa using h2) hk
noncomputable def start(N:List Str)(vs:List V):St:=vs.map some++List.replicate (N.length-vs.length) none
noncomputable def vH(CX:yM)(P:Program)(w:World)(K:PySem.W.Frag)(mg:Str->Option Value)(base:Heap)(N:List Str)(qual:Str)(scope:Scope)(f:Addr)(cd:Value)(A:Around)(outer:List Env)(s:Shared)(H:Hp)(E:XK):Cx where
 prog:=P
 w:=w
 K:=K
 mg:=mg
 base:=base
 A:=A.deeper (envOfC qual scope s.heap.objs.size f cd)
 N:=N
 s₀:=s
 H₀:=H
 env:=envOfC qual scope s.heap.objs.size f cd
 outer:=outer
 stack:=envOfC qual scope s.heap.objs.size f cd::outer
 ex:=[]
 calm:=true
 fn:=fun _=>true
 pn:=[]
 xe:=fun e s'=>wpAny (model P w) (A.deeper (envOfC qual scope s.heap.objs.size f cd)) (leaving (envOfC qual scope s.heap.objs.size f cd) e) (fun _ s''=>CX outer H s E e s'') (fun e' s''=>CX outer H s E e' s'') s'
theorem tw{sc:Scope}{n:Nat}{x:Str}(h:sc.names.lookup x=some .cell):∃c,(cellsFrom n sc.names []).lookup x=some c:=by
 have q:=PySem.W.cellsFrom_some sc.names n [] (.inl h)
 exact Option.isSome_iff_exists.mp q
theorem yN{CX:yM}{P:Program}{w:World}{K:PySem.W.Frag}{mg:Str->Option Value}{base:Heap}{N ps:List Str}{qual:Str}{scope:Scope}{f:Addr}{cd:Value}{A:Around}{outer:List Env}{s s1:Shared}{H:Hp}{E:XK}{us:List Value}{vs:List V}
  (S:nu N ps scope) (hd:A.handled=none) (e0:vG P w K mg base A outer s H) (hl:vs.length=ps.length) (r:Vals vs us)
  (x:InCallC s s.heap.objs.size (bindL (envOfC qual scope s.heap.objs.size f cd).kindOf (ps.zip us) fun _=>none) (cellsFrom (s.heap.objs.size+1) scope.names []) (bindC (envOfC qual scope s.heap.objs.size f cd).kindOf (ps.zip us) fun _=>none) s1) :
  Inv (vH CX P w K mg base N qual scope f cd A outer s H E) [] (start N vs) H s1:=by
 have hpl:ps.length<=N.length:=by have:=congrArg List.length S.pre;rw[List.length_take] at this;omega
 obtain⟨h1,tk,rfl,hk⟩:=x.done
 have noA:∀b:Addr,b∉(vH CX P w K mg base N qual scope f cd A outer s H E).ex:=fun b z=>absurd (show b∈([]:List Addr) from z) (by simp)
 refine⟨⟨e0.mod,S.kind,rfl,rfl,Nat.le_refl _,fun y z c h1 h2=>?_,fun y hy=>?_,fun y c _ h=>?_,fun _=>hd,Around.frames_deeper e0.frames,.inr ⟨rfl,rfl⟩,fun b z=>absurd z (noA b),e0.bs,e0.FE,fun b _ _=>noA b,fun b z=>absurd z (noA b),e0.mY,e0.Gy⟩,
  rfl,e0.bare,Un.kept hk,⟨_,x.toInCall.ns,fun i y v h1 h2 h3=>?_⟩,fun y c h=>⟨_,x.cell y c h⟩,e0.hok.fresh (Nat.le_refl _),fun y c h=>?_,fun p hp=>absurd (show p∈([]:List (Addr×Obj)) from hp) (by simp),e0.hok.kept hk,?_⟩
 ·exact name_of_addr x.apart (PySem.mem_of_lookup h1) (PySem.mem_of_lookup h2)
 ·have hy:scope.names.lookup y=some .cell\/scope.names.lookup y=some .free:=hy
  rcases hy with hy|hy
  ·exact tw hy
  ·exact absurd rfl (S.Hq _ (PySem.mem_of_lookup hy))
 ·exact Nat.le_of_lt (x.above y c (PySem.mem_of_lookup h))
 ·have hi:i<vs.length:=by
   unfold start at h2
   by_cases hi:i<vs.length
   ·exact hi
   ·rw[List.getElem?_append_right (by simpa using hi)] at h2
    rw[List.getElem?_replicate] at h2
    split at h2<;>cases h2
  have ha:vs[i]?=some v:=by
   unfold start at h2
   rw[List.getElem?_append_left (by simpa using hi),List.getElem?_map] at h2
   cases e:vs[i]? with
   | none=>rw[e] at h2;cases h2
   | some a=>rw[e] at h2;cases h2;rfl
  obtain⟨u,hu,rv⟩:=r.get ha
  have hp:ps[i]?=some y:=by
   rw[<-S.pre,List.getElem?_take_of_lt (by omega)];exact h1
  have R9:ps.Nodup:=by rw[<-S.pre];exact S.nd.sublist (List.take_sublist _ _)
  refine⟨u,rv,?_⟩
  rcases S.par y (List.mem_of_getElem? hp) with k|k
  ·exact .inl ⟨k,qm R9 hp hu k⟩
  ·obtain⟨c,e⟩:=tw (n:=s.heap.objs.size+1) k
   refine .inr ⟨.inl k,c,e,?_⟩
   have q:=x.cell y c e
   rw[qo R9 hp hu (by show scope.names.lookup y≠_;rw[k];decide)] at q
   exact q
 ·exact e0.hok.fresh (Nat.le_of_lt (x.above y c (PySem.mem_of_lookup h)))
 ·unfold start
  show _=N.length
  rw[List.length_append,List.length_map,List.length_replicate]
  omega
theorem Lu{CX:yM}{P:Program}{w:World}{K:PySem.W.Frag}{mg:Str->Option Value}{base:Heap}{k:Nat}{f:Addr}{name qual:Str}{params:Arguments}{body:List Stmt}{scope:Scope}{dV kV doc pm cdv ct oc:Value}{an od:Option Addr}
  {osl:Array (Option Value)} {N ps:List Str} {sp:Sp} (lk:K.lookup f=some ⟨oc,od,.func (PySem.W.fnOf name qual params body scope dV kV doc pm an cdv ct),osl⟩) (hcd:PySem.W.codeIn K cdv qual=true) (S:nu N ps scope)
  (len:∀vs H Q E,sp vs H Q E->vs.length=ps.length)
  (hbody:∀(A:Around) (outer:List Env) (s:Shared) (H:Hp) (vs:List V) (Q:VK) (E:XK),cX k (A.deeper (envOfC qual scope s.heap.objs.size f cdv))->sp vs H Q E ->
   ∃t,vj (vH CX P w K mg base N qual scope f cdv A outer s H E) body t/\t { nx:=fun _ H'=>Q .non H',rt:=Q } (start N vs) H) :
  eW P w K mg base CX (k+1) f (PySem.W.fnOf name qual params body scope dV kV doc pm an cdv ct) ps sp:=by
 refine⟨len,fun A outer s H args us vs Q E hr e0 hb r hsp=>?_⟩
 have hl:=len _ _ _ _ hsp
 have KX:K.In s.heap:=e0.mod.Kw.keeps fun b o e=>(e0.bs b o e).1
 have lim:s.heap.NoLimit:=e0.mod.nolimit.keeps fun b o e=>(e0.bs b o e).1
 have hkind:∀y∈ps.zip us,scope.names.lookup y.1=some .local\/(scope.names.lookup y.1=some .cell/\((cellsFrom (s.heap.objs.size+1) scope.names []).lookup y.1).isSome=true):=fun⟨n,v⟩ hy=>by
  rcases S.par n (List.of_mem_zip hy).1 with q|q
  ·exact .inl q
  ·exact .inr ⟨q,PySem.W.cellsFrom_some _ _ _ (.inl q)⟩
 refine codeAny_call_function hr.depth (KX _ _ lk) rfl S.co S.gen rfl (PySem.W.codeRec_of KX hcd) (hb _ _ _ _ ?_)
 refine wpAny_newFunctionEnv_cells S.kind hkind fun env he s1 x=>?_
 subst he
 refine⟨lim.keeps x.toInCall.keep,codeAny_func ?_⟩
 obtain⟨t,ht,hq⟩:=hbody A outer s H vs Q E (hr.deeper _) hsp
 have I:Inv (vH CX P w K mg base N qual scope f cdv A outer s H E) [] (start N vs) H s1:=yN S hr.hd e0 hl r x
 refine wpAny_mono (ht [] s1 (start N vs) H _ I hq) (fun fl s' hs=>?_) fun e s' hs=>hs
 have fin:∀{σ':St} {H':Hp} {v:V} {u:Value},Inv (vH CX P w K mg base N qual scope f cdv A outer s H E) [] σ' H' s'->RelV v u->Q v H'->CE outer P w H s Q u s' :=
  fun {σ' H' v u} J rv q=>⟨v,H',J.os,J.bare,J.base,J.hok,rv,q⟩
 cases fl with
 | ret u =>
  obtain⟨v,σ',H',J,rv,q⟩:=hs
  exact fin J rv q
 | next =>
  obtain⟨σ',H',J,q⟩:=hs
  exact fin (v:=V.non) (u:=Value.none) J rfl q
 | brk =>
  obtain⟨_,_,_,q⟩:=hs
  exact False.elim q
 | cont =>
  obtain⟨_,_,_,q⟩:=hs
  exact False.elim q
end L2
namespace L2
open PySem PySem.Spec PyProof.Rows
section
variable {X:Cx} {x:Str} {p pos:Pos} {e:Expr} {es:List Expr} {t:TA} {id T:String} {r:List V->Hp->VK->Prop}
noncomputable def Sa(r:List V->Hp->VK->Prop)(t:TA):TE:=fun σ H Q=>t σ H fun vs H1=>r vs H1 Q
theorem fX(hc:cJ X (.builtin id) r)(hg:Gl X x)(hm:X.mg x=none)(hv:bootBuiltins x=some (.builtin id))(ha:PA X (e::es) t)(hn:x ≠ "__name__":=by decide)(hdb:(x==("__debug__":Str))=false:=by decide)
  (he:starEach (e::es) X.env=(false,eval e X.env)::starEach es X.env:=by rfl) (hpl:(backTo pos (starEach es X.env)).any (·.1)=false:=by rfl):PE X (.Call (.Name x p) (e::es) [] pos) (Sa r t):=by
 intro pins s σ H Q I h
 refine wpAny_Call_Name_kw (gC I hg hm hv ?_ hn hdb)
 exact PyProof.Rows.callWith_builtin1 (bZ (ha pos pins s σ H _ I h) fun us s1 ⟨vs,H1,I1,r1,q1⟩=>hc pins s1 σ H1 vs us Q I1 r1 q1) he hpl
theorem jL(hc:cJ X (.type T) r)(hg:Gl X x)(hm:X.mg x=none)(hv:bootBuiltins x=some (.type T))(ha:PA X (e::es) t)(hn:x ≠ "__name__":=by decide)(hdb:(x==("__debug__":Str))=false:=by decide)
  (he:starEach (e::es) X.env=(false,eval e X.env)::starEach es X.env:=by rfl) (hpl:(backTo pos (starEach es X.env)).any (·.1)=false:=by rfl):PE X (.Call (.Name x p) (e::es) [] pos) (Sa r t):=by
 intro pins s σ H Q I h
 refine wpAny_Call_Name_kw (gC I hg hm hv ?_ hn hdb)
 exact PyProof.Rows.callWith_type1 (bZ (ha pos pins s σ H _ I h) fun us s1 ⟨vs,H1,I1,r1,q1⟩=>hc pins s1 σ H1 vs us Q I1 r1 q1) he hpl
end
end L2
namespace HT
open PySem PyProof.Rows
noncomputable def lexLt:List Int->List Int->Bool
 | [],[]=>false
 | [],_::_=>true
 | _::_,[]=>false
 | x::xs,y::ys=>if x=y then lexLt xs ys else decide (x<y)
theorem eX(x y:Int)(xs ys:List Int):lexLt (x::xs) (y::ys)=if x=y then lexLt xs ys else decide (x<y):=rfl
theorem pX:lexLt [] []=false:=rfl
theorem fY(y:Int)(ys:List Int):lexLt [] (y::ys)=true:=rfl
theorem dS(x:Int)(xs:List Int):lexLt (x::xs) []=false:=rfl
section
open PySem.SeqAt
open PySem.AutoSeq1 (wpAny_loadPart')
open PySem.MeetsSeq PySem.MeetsSeq2 PySem.MeetsSeq3
end
section
variable {prog:Program} {w:World} {A:Around} {E:Value->Shared->Prop} {s:Shared}
theorem DC{t b:Addr}{vs ws:List Value}{Q:Value->Shared->Prop}(ht:IsTup s.heap t vs.toArray)(hb:IsTup s.heap b ws.toArray)(hv:vs≠[])
  (h1:ws=[]->Q (.ref t) s) (h2:ws≠[]->Q (.ref s.heap.objs.size) { s with heap:=s.heap.push { cls:=.type "tuple",data:=.seq (vs++ws).toArray } })
  (hsz:vs.length+ws.length<=sizeLine):wpAny (model prog w) A (binaryOp .Add (.ref t) (.ref b)) Q E s:=by
 obtain⟨⟨cls,dd,data,sl⟩,ho,hc,n,hd⟩:=id ht
 obtain⟨⟨T8,dd2,data2,sl2⟩,ho2,hc2,n2,hd2⟩:=id hb
 simp only at hc hd hc2 hd2
 subst hc hd hc2 hd2
 have e:vs.toArray++ws.toArray=(vs++ws).toArray:=by simp
 by_cases hw:ws=[]
 ·exact concat_meets ⟨_,ho,rfl⟩ ⟨_,ho2,rfl⟩ noFill_tuple_add seq_tuple_add PySem.F.slot_tuple_add PySem.F.entry_tuple_add (PySem.F.args_tuple_add_2 _ _)
   (tuple_addW1 t b vs.toArray ws.toArray n n2 dd dd2 sl sl2 (by simpa using hv) (by simp[hw])) ⟨ho,ho2,h1 hw⟩
 ·refine concat_meets ⟨_,ho,rfl⟩ ⟨_,ho2,rfl⟩ noFill_tuple_add seq_tuple_add PySem.F.slot_tuple_add PySem.F.entry_tuple_add (PySem.F.args_tuple_add_2 _ _)
   (tuple_addW2 t b vs.toArray ws.toArray n n2 dd dd2 sl sl2 (by simpa using hv) (by simpa using hw) (by rw[List.size_toArray,List.size_toArray];exact hsz)) ⟨ho,ho2,?_⟩
  rw[e]
  exact h2 hw
noncomputable def dU(n d:Nat):Option Int->Nat
 | none=>d
 | some v=>if v<0 then (v+(n:Int)).toNat else min v.toNat n
theorem Hr(n d:Nat)(hd:d<=n)(o:Option Int):dU n d o<=n:=by
 cases o with
 | none=>exact hd
 | some v =>
  show (if v<0 then (v+(n:Int)).toNat else min v.toNat n)<=n
  by_cases hv:v<0
  ·rw[if_pos hv];omega
  ·rw[if_neg hv];exact Nat.min_le_right _ _
theorem wY(v:Int)(n d:Nat):(if v<0 then max (v+(n:Int)) 0 else min v (n:Int))=((dU n d (some v):Nat):Int):=by
 show (if v<0 then max (v+(n:Int)) 0 else min v (n:Int))=(((if v<0 then (v+(n:Int)).toNat else min v.toNat n):Nat):Int)
 by_cases hv:v<0
 ·simp only[if_pos hv];omega
 ·simp only[if_neg hv];omega
theorem vI(lo hi:Option Int)(n:Nat):Builtin.Slice.sliceAdjust lo hi 1 (n:Int)=(((dU n 0 lo:Nat):Int),((dU n n hi:Nat):Int)):=by
 have h1:¬ ((1:Int)<0):=by omega
 unfold Builtin.Slice.sliceAdjust
 simp only[h1,if_false]
 refine Prod.ext ?_ ?_
 ·cases lo with
  | none=>rfl
  | some v=>exact wY v n 0
 ·cases hi with
  | none=>rfl
  | some v=>exact wY v n n
theorem vJ(i j:Nat):Builtin.Slice.slicePlaces (i:Int) (j:Int) 1=j-i:=by
 unfold Builtin.Slice.slicePlaces
 have h1:(1:Int)>0:=by omega
 simp only[h1,if_true,Int.ediv_one]
 split<;>omega
theorem nS{v:Value}{o:Option Int}{Q:Option Int->Shared->Prop}(p:IsPart v o)(h:Q o s):wpAny (model prog w) A (Builtin.Slice.slicePartIndex v) Q E s:=by
 cases p with
 | none=>exact slicePart_none h
 | int i t=>exact slicePart_int h
theorem lH{sl:Addr}{vl vu:Value}{lo hi:Option Int}{n:Nat}{Q:Int×Int×Nat->Shared->Prop}(hs:s.heap.IsSliceOf sl vl vu .none)(pl:IsPart vl lo)(pu:IsPart vu hi)
  (h:Q (((dU n 0 lo:Nat):Int),1,dU n n hi-dU n 0 lo) s):wpAny (model prog w) A (Builtin.Slice.sliceApplied (.ref sl) (pure (n:Int))) Q E s:=by
 obtain⟨os,hos,hcs,hds⟩:=id hs
 unfold Builtin.Slice.sliceApplied Builtin.Slice.sliceFields
 refine wpAny_bind (wpAny_bind (wpAny_field hos hds (x:=vl) rfl (wpAny_bind (wpAny_field hos hds (x:=vu) rfl (wpAny_bind (wpAny_field hos hds (x:=.none) rfl (wpAny_pure ?_)))))))
 refine wpAny_bind (slicePart_none ?_)
 show wpAny _ _ (if ((1:Int)==0)=true then _ else _) _ _ s
 rw[if_neg (by decide)]
 refine wpAny_bind (nS pl (wpAny_bind (nS pu (wpAny_bind (wpAny_pure ?_)))))
 show wpAny _ _ (match Builtin.Slice.sliceAdjust lo hi 1 (n:Int) with|(lo,hi)=>pure (lo,(1:Int),Builtin.Slice.slicePlaces lo hi 1)) _ _ s
 rw[vI lo hi n]
 show wpAny _ _ (pure (((dU n 0 lo:Nat):Int),(1:Int),Builtin.Slice.slicePlaces ((dU n 0 lo:Nat):Int) ((dU n n hi:Nat):Int) 1)) _ _ s
 rw[vJ]
 exact wpAny_pure h
theorem Ar(xs:Array Value)(i k:Nat):((List.range k).filterMap fun(m:Nat)=>xs[((i:Int)+(m:Int)*1).toNat]?).toArray=((xs.toList.drop i).take k).toArray:=by
 have e:(fun(m:Nat)=>xs[((i:Int)+(m:Int)*1).toNat]?)=fun m=>xs[i+m]?:=by
  funext m
  have:((i:Int)+(m:Int)*1).toNat=i+m:=by omega
  rw[this]
 rw[e]
 have:=pick_run xs i k
 rw[List.filterMap_map] at this
 have e2:((fun x=>xs[x]?)∘fun x=>i+x)=fun m=>xs[i+m]?:=rfl
 rw[e2] at this
 rw[this]
theorem kF{t sl:Addr}{items:Array Value}{vl vu:Value}{lo hi:Option Int}{Q:Value->Shared->Prop}(ht:IsTup s.heap t items)(hs:s.heap.IsSliceOf sl vl vu .none)(pl:IsPart vl lo)(pu:IsPart vu hi)
  (hw:¬ (dU items.size 0 lo=0/\dU items.size items.size hi=items.size))
  (h:Q (.ref s.heap.objs.size) { s with heap:=s.heap.push { cls:=.type "tuple",data:=.seq ((items.toList.drop (dU items.size 0 lo)).take (dU items.size items.size hi-dU items.size 0 lo)).toArray } })
  (hsz:items.size<=sizeLine):wpAny (model prog w) A (getItem (.ref t) (.ref sl)) Q E s:=by
 have wZ:sizeOk (.seq ((items.toList.drop (dU items.size 0 lo)).take (dU items.size items.size hi-dU items.size 0 lo)).toArray):=by
  show ((items.toList.drop (dU items.size 0 lo)).take (dU items.size items.size hi-dU items.size 0 lo)).toArray.size<=sizeLine
  rw[List.size_toArray,List.length_take,List.length_drop,Array.length_toList]
  omega
 have hj:dU items.size items.size hi<=items.size:=Hr _ _ (Nat.le_refl _) hi
 obtain⟨os,hos,hcs,hds⟩:=id hs
 have O7:s.TypeIs (.ref sl) "slice":=⟨os,hos,hcs⟩
 unfold getItem
 try with_reducible refine wpAny_holding ?_
 first|refine wpAny_bind (wpAny_pure ?_)|skip
 refine wpAny_bind (wpAny_sequenceKey ht.typeIs (by decide) ?_)
 refine wpAny_bind (wpAny_callSpecial?_slot (name:=Str.ofString "__getitem__") ht.typeIs PyProof.Rows.slot_tuple_getitem
  (wpAny_call_entry PyProof.Rows.slot_tuple_getitem ht.typeIs entry_tuple_getitem ?_ (args_tuple_getitem _ _)))
 show wpAny _ _ (Builtin.Tuple.tupleItemsOf (.ref t) >>= _) _ _ s
 refine wpAny_bind (tupleItemsOf_ ht ?_)
 refine wpAny_bind (wpAny_typeOf O7 ?_)
 rw[if_pos (by decide)]
 refine wpAny_bind (lH hs pl pu ?_)
 have hno:¬ ((((dU items.size 0 lo:Nat):Int)==0&&(1:Int)==1&&(dU items.size items.size hi-dU items.size 0 lo)==items.size)=true):=by
  intro q
  rw[Bool.and_eq_true,Bool.and_eq_true] at q
  have q1:((dU items.size 0 lo:Nat):Int)=0:=eq_of_beq q.1.1
  have q2:dU items.size items.size hi-dU items.size 0 lo=items.size:=eq_of_beq q.2
  exact hw ⟨by omega,by omega⟩
 show wpAny _ _ (if (((dU items.size 0 lo:Nat):Int)==0&&(1:Int)==1&&(dU items.size items.size hi-dU items.size 0 lo)==items.size)=true then _ else _) _ _ s
 rw[if_neg hno,Ar]
 first
  | exact wpAny_bind (m:=Builtin.Tuple.tupleExact _) (wpAny_newObj_type (wpAny_pure ⟨_,rfl,wpAny_pure h⟩) wZ)
  | exact wpAny_bind (m:=Builtin.Tuple.tupleExact _) (wpAny_newObj_type (wpAny_bind (wpAny_pure (wpAny_pure ⟨_,rfl,wpAny_pure h⟩))) wZ)
  | exact wpAny_bind (wpAny_bind (m:=Builtin.Tuple.tupleExact _) (wpAny_newObj_type (wpAny_pure (wpAny_pure ⟨_,rfl,wpAny_pure h⟩)) wZ))
  | exact wpAny_bind (wpAny_bind (m:=Builtin.Tuple.tupleExact _) (wpAny_newObj_type (wpAny_pure ⟨_,rfl,wpAny_pure h⟩) wZ))
end
end HT
namespace L2
open PySem PySem.Spec PyProof.Rows
noncomputable abbrev TO:=St->Hp->(Option Int->Hp->Prop)->Prop
noncomputable def PO(X:Cx)(e:Option Expr)(t:TO):Prop :=
 ∀(pins:List (Addr×Obj)) (s:Shared) (σ:St) (H:Hp) (Q:Option Int->Hp->Prop),Inv X pins σ H s->t σ H Q ->
  wpAny (model X.prog X.w) X.A (evalPart e X.env) (fun u s'=>∃o H',Inv X pins σ H' s'/\IsPart u o/\Q o H') X.xe s
noncomputable def DE:TO:=fun _ H Q=>Q none H
noncomputable def Lv(t:TE):TO:=fun σ H Q=>t σ H fun x H1=>∃i,x=.int i/\Q (some i) H1
theorem intsAre_of{ns:List Int}:∀{us:List Value},Vals (ns.map V.int) us->IntsAre us ns:=by
 induction ns with
 | nil=>intro us r;rw[List.map_nil] at r;cases r;exact .nil
 | cons n ns ih =>
  intro us r
  rw[List.map_cons] at r
  cases r with
  | cons r1 r2 =>
   obtain⟨t,e⟩:=r1
   subst e
   exact .cons n t (ih r2)
section
variable {X:Cx} {e:Expr} {te:TE} {lo hi:Option Expr} {tl th:TO} {pos p2:Pos}
theorem DF:PO X none DE:=by
 intro pins s σ H Q I h
 rw[evalPart_none]
 exact wpAny_pure ⟨none,H,I,.none,h⟩
theorem DG(h:PE X e te):PO X (some e) (Lv te):=by
 intro pins s σ H Q I hw
 rw[evalPart_some]
 refine bZ (h pins s σ H _ I hw) fun u s1 aC=>?_
 obtain⟨x,H1,I1,r1,q1⟩:=aC
 obtain⟨i,rfl,q⟩:=q1
 obtain⟨t,rfl⟩:=r1
 exact⟨some i,H1,I1,.int i t,q⟩
noncomputable def Oe(X:Cx)(r:V->Option Int->Option Int->Hp->VK->Prop):Prop :=
 ∀(pins:List (Addr×Obj)) (s:Shared) (σ:St) (H:Hp) (x:V) (v vl vu:Value) (lo hi:Option Int) (sl:Addr) (Q:VK),Inv X pins σ H s->RelV x v->s.heap.IsSliceOf sl vl vu .none->IsPart vl lo->IsPart vu hi->r x lo hi H Q ->
  ∃T id,typeLookup (.type T) "__getitem__" = pure (some (.builtin id))/\s.TypeIs v T/\wpAny (model X.prog X.w) X.A (getItem v (.ref sl)) (EP X pins σ Q) X.xe s
noncomputable def T9(r:V->Option Int->Option Int->Hp->VK->Prop)(te:TE)(tl th:TO):TE:=fun σ H Q=>te σ H fun x H1=>tl σ H1 fun l H2=>th σ H2 fun u H3=>r x l u H3 Q
theorem As{r:V->Option Int->Option Int->Hp->VK->Prop}(hr:Oe X r)(he:PE X e te)(hl:PO X lo tl)(hu:PO X hi th):PE X (.Subscript e (.Slice lo hi none p2) pos) (T9 r te tl th):=by
 intro pins s σ H Q I h
 refine Subscript_ (bZ (he pins s σ H _ I h) fun v s1 aC=>?_)
 obtain⟨x,H1,I1,r1,q1⟩:=aC
 refine wpAny_Slice (bZ (hl pins s1 σ H1 _ I1 q1) fun vl s2 ⟨l,H2,I2,pl,q2⟩=>bZ (hu pins s2 σ H2 _ I2 q2) fun vu s3 aC=>?_)
 obtain⟨u,H3,I3,pu,q3⟩:=aC
 rw[evalPart_none]
 refine wpAny_pure ?_
 have I4:Inv X pins σ H3 { s3 with heap:=s3.heap.push { cls:=.type "slice",data:=.fields #[vl,vu,.none] } }:=I3.kept (t':=s3.toks) fun b ob q=>Heap.get?_push_of_some _ q
 obtain⟨T,id,hT,ht,hg⟩:=hr pins { s3 with heap:=s3.heap.push { cls:=.type "slice",data:=.fields #[vl,vu,.none] } } σ H3 x v vl vu l u s3.heap.objs.size Q I4 r1 (Heap.IsSliceOf.new ..) pl pu q3
 show wpAny (model X.prog X.w) X.A (subscriptTail e (.Slice lo hi none p2) v (.ref s3.heap.objs.size)) (EP X pins σ Q) X.xe { s3 with heap:=s3.heap.push { cls:=.type "slice",data:=.fields #[vl,vu,.none] } }
 exact tail_any (ops:=[.ref s3.heap.objs.size,v]) ht hT hg (by with_unfolding_all rfl)
noncomputable def tB(xs:List V)(lo hi:Option Int):List V:=(xs.drop (HT.dU xs.length 0 lo)).take (HT.dU xs.length xs.length hi-HT.dU xs.length 0 lo)
theorem mK(xs:List V)(lo hi:Option Int):(tB xs lo hi).length<=xs.length:=by
 unfold tB
 rw[List.length_take,List.length_drop]
 omega
noncomputable def O8(K:PySem.W.Frag):V->Option Int->Option Int->Hp->VK->Prop:=fun x lo hi H Q=>∃a xs,x=.ref a/\iI K H a xs /\
 ¬ (HT.dU xs.length 0 lo=0/\HT.dU xs.length xs.length hi=xs.length)/\∀p,H p=none->Q (.ref p) (upd H p (.tup (tB xs lo hi)))
theorem Ht:Oe X (O8 X.K):=by
 intro pins s σ H x v vl vu lo hi sl Q I rx hs pl pu h
 obtain⟨a,xs,rfl,hx,hw,q⟩:=h
 cases rx
 obtain⟨its,r,ht,hz⟩:=I.tuple hx
 have hlen:its.toArray.size=xs.length:=by rw[List.size_toArray];exact r.length.symm
 refine⟨"tuple",_,PyProof.Rows.slot_tuple_getitem.lookup,ht.typeIs,?_⟩
 refine HT.kF ht hs pl pu (by rw[hlen];exact hw) ?_ (by rw[hlen];exact hz)
 rw[hlen]
 refine⟨.ref s.heap.objs.size,_,I.laid (t':=s.toks) (o:=.tup (tB xs lo hi)) (fun b ob q=>Heap.get?_push_of_some _ q) (Nat.le_refl _) ?_,rfl,q _ (I.hok.fresh (Nat.le_refl _))⟩
 exact⟨Nat.le_trans (mK xs lo hi) hz,_,(r.drop (HT.dU xs.length 0 lo)).take (HT.dU xs.length xs.length hi-HT.dU xs.length 0 lo),IsTup.new _ _⟩
noncomputable def Lw(K:PySem.W.Frag):R2:=fun x y H Q=>∃a b xs ys,x=.ref a/\y=.ref b/\iI K H a xs/\iI K H b ys/\xs≠[]/\xs.length+ys.length<=sizeLine /\
 (ys=[]->Q (.ref a) H)/\(ys≠[]->∀p,H p=none->Q (.ref p) (upd H p (.tup (xs++ys))))
theorem Vals.rA{xs:List V}{us:List Value}(r:Vals xs us):us=[]↔xs=[]:=by
 cases r with
 | nil=>simp
 | cons _ _=>simp
theorem DH:ja X (binaryOp .Add) (Lw X.K):=by
 intro pins s σ H x y v u Q I rx ry h
 obtain⟨a,b,xs,ys,rfl,rfl,ha,hb,hx,hz,q1,q2⟩:=h
 cases rx
 cases ry
 obtain⟨its,r1,p1,_⟩:=I.tuple ha
 obtain⟨its2,r2,p2,_⟩:=I.tuple hb
 refine HT.DC p1 p2 (fun z=>hx (r1.rA.mp z)) (fun z=>⟨.ref a,H,I,rfl,q1 (r2.rA.mp z)⟩) (fun z=>?_) (by rw[<-r1.length,<-r2.length];exact hz)
 refine⟨.ref s.heap.objs.size,_,I.laid (t':=s.toks) (o:=.tup (xs++ys)) (fun b ob q=>Heap.get?_push_of_some _ q) (Nat.le_refl _) ?_,rfl,q2 (fun w=>z (r2.rA.mpr w)) _ (I.hok.fresh (Nat.le_refl _))⟩
 exact⟨by rw[List.length_append];exact hz,_,r1.append r2,IsTup.new _ _⟩
end
end L2
namespace L2
open PySem PySem.Spec PyProof.Rows
noncomputable def rD(n:Nat)(i:Int):Option Nat:=if 0<=i then (if i<n then some i.toNat else none) else if -(n:Int)<=i then some (i+n).toNat else none
noncomputable def jg{α:Type}(xs:List α)(i:Int):Option α:=(rD xs.length i).bind fun j=>xs[j]?
theorem xg{n:Nat}{i:Int}{j:Nat}(h:rD n i=some j):seqIndex? i n=some j/\j<n /\ -(n:Int)<=i/\i<n:=by
 unfold rD at h
 by_cases h0:0<=i
 ·rw[if_pos h0] at h
  by_cases h1:i<n
  ·rw[if_pos h1] at h
   have e:i.toNat=j:=Option.some.inj h
   exact⟨by rw[seqIndex_of h0 h1,e],by omega,by omega,h1⟩
  ·rw[if_neg h1] at h;cases h
 ·rw[if_neg h0] at h
  by_cases h1:-(n:Int)<=i
  ·rw[if_pos h1] at h
   have e:(i+n).toNat=j:=Option.some.inj h
   exact⟨by rw[seqIndex_neg (by omega) h1,e],by omega,h1,by omega⟩
  ·rw[if_neg h1] at h;cases h
theorem rE{α:Type}{xs:List α}{i:Int}{v:α}(h:jg xs i=some v):∃j,seqIndex? i xs.length=some j/\xs[j]?=some v/\j<xs.length /\ -(xs.length:Int)<=i/\i<xs.length:=by
 unfold jg at h
 cases e:rD xs.length i with
 | none=>rw[e] at h;cases h
 | some j =>
  rw[e] at h
  obtain⟨h1,h2,h3,h4⟩:=xg e
  exact⟨j,h1,h,h2,h3,h4⟩
theorem kG{α:Type}{xs:List α}{j:Nat}{v:α}(h:xs[j]?=some v):jg xs (j:Int)=some v:=by
 have hj:j<xs.length:=(List.getElem?_eq_some_iff.mp h).1
 have e:rD xs.length (j:Int)=some j:=by
  unfold rD
  rw[if_pos (by omega),if_pos (by omega)];simp
 unfold jg;rw[e];exact h
noncomputable def xh(b:Expr):Prop:=∀o i,subscripted b false o i=operate [o,i] (getItem o i)
noncomputable def KC(X:Cx)(r:R2):Prop :=
 ∀(value slice:Expr) (pins:List (Addr×Obj)) (s:Shared) (σ:St) (H:Hp) (x y:V) (v u:Value) (Q:VK),Inv X pins σ H s->RelV x v->RelV y u->r x y H Q ->
  subscripted slice false v u=operate [v,u] (getItem v u)->wpAny (model X.prog X.w) X.A (subscriptTail value slice v u) (EP X pins σ Q) X.xe s
noncomputable def Lx(X:Cx)(id:String)(r:V->List V->Hp->VK->Prop):Prop :=
 ∀(pins:List (Addr×Obj)) (s:Shared) (σ:St) (H:Hp) (x:V) (xs:List V) (v:Value) (us:List Value) (Q:VK),Inv X pins σ H s->RelV x v->Vals xs us->r x xs H Q ->
  wpAny (model X.prog X.w) X.A (call (.builtin id) (v::us)) (EP X pins σ Q) X.xe s
section
variable {X:Cx} {a b:Expr} {ta tb:TE} {pos:Pos}
theorem Ly{r:R2}(hr:KC X r)(ha:PE X a ta)(hb:PE X b tb)(hs:xh b):PE X (.Subscript a b pos) (KA r ta tb):=by
 intro pins s σ H Q I h
 exact Subscript_ (GS ha hb I h fun v u s2 x y H2 I2 rx ry q=>hr a b pins s2 σ H2 x y v u Q I2 rx ry q (hs _ _))
noncomputable def O9(K:PySem.W.Frag):R2:=fun x y H Q=>∃p xs i v,x=.ref p/\y=.int i/\fO K H p xs/\jg xs i=some v/\Q v H
noncomputable def Pa(K:PySem.W.Frag):R2:=fun x y H Q=>∃p xs i v,x=.ref p/\y=.int i/\iI K H p xs/\jg xs i=some v/\Q v H
noncomputable def Pb:R2:=fun x y H Q=>∃z i c,x=.str z/\y=.int i/\z.length<=sizeLine/\jg z.cps.toList i=some c/\Q (.str ⟨#[c]⟩) H
theorem xj:KC X (O9 X.K):=by
 intro value slice pins s σ H x y v u Q I rx ry h hs
 obtain⟨p,xs,i,z,rfl,rfl,hq,he,q⟩:=h
 cases rx
 obtain⟨t,rfl⟩:=ry
 obtain⟨its,r,pl,hz⟩:=I.list hq
 obtain⟨j,h1,h2,h3,h4,h5⟩:=rE he
 obtain⟨w,ew,rw'⟩:=r.get h2
 have hl:=r.length
 have hn:=lF
 have fin:EP X pins σ Q w s:=⟨z,H,I,rw',q⟩
 by_cases h0:0<=i
 ·have hj:i.toNat=j:=by
   rw[seqIndex_of h0 h5] at h1
   exact Option.some.inj h1
  exact item_listR pl.isList h0 (by omega) (by rw[hj];simpa using ew) fin hs
 ·have hj:(i+(its.toArray.size:Int)).toNat=j:=by
   rw[seqIndex_neg (by omega) h4] at h1
   rw[List.size_toArray,<-hl]
   exact Option.some.inj h1
  exact subscriptTail_builtinR (x:=w) pl.isList.typeIs slot_list_getitem.lookup
   (wpAny_getItem_list_neg (Q:=fun r s'=>r=w/\EP X pins σ Q r s') pl.isList (by omega) (by rw[List.size_toArray]<;>omega) (by omega) (by rw[hj];simpa using ew) ⟨rfl,fin⟩) hs
theorem Hu:KC X (Pa X.K):=by
 intro value slice pins s σ H x y v u Q I rx ry h hs
 obtain⟨p,xs,i,z,rfl,rfl,hq,he,q⟩:=h
 cases rx
 obtain⟨t,rfl⟩:=ry
 obtain⟨its,r,pl,hz⟩:=I.tuple hq
 obtain⟨j,h1,h2,h3,h4,h5⟩:=rE he
 obtain⟨w,ew,rw'⟩:=r.get h2
 have hl:=r.length
 have hn:=lF
 have fin:EP X pins σ Q w s:=⟨z,H,I,rw',q⟩
 exact subscriptTail_builtinR (x:=w) pl.typeIs slot_tuple_getitem.lookup
  (getItem_tuple (j:=j) (Q:=fun r s'=>r=w/\EP X pins σ Q r s') pl (by omega) (by omega) (by rw[List.size_toArray,<-hl];exact h1) (by simpa using ew) ⟨rfl,fin⟩) hs
theorem Hw:KC X Pb:=by
 intro value slice pins s σ H x y v u Q I rx ry h hs
 obtain⟨z,i,c,rfl,rfl,hz,he,q⟩:=h
 obtain⟨t,rfl⟩:=rx
 obtain⟨t',rfl⟩:=ry
 obtain⟨j,h1,h2,h3,h4,h5⟩:=rE he
 have hl:z.cps.toList.length=z.length:=by simp[Str.length]
 rw[hl] at h1 h4 h5
 have hn:=lF
 exact tail_any (typeIs_str s z t) slot_str_getitem.lookup (getItem_str (c:=c) (by
  have e1:decide (i < -(2 ^ 63:Int))=false:=decide_eq_false (by omega)
  have e2:decide (i≥2 ^ 63)=false:=decide_eq_false (by omega)
  rw[e1,e2,Bool.or_false]) (by rw[h1];simpa using h2) ⟨.str ⟨#[c]⟩,H,I.tok _,⟨_,rfl⟩,q⟩) hs
theorem vK(its:List Value)(n j:Nat)(u:Value):Obj.mapSeq (·.setIfInBounds j u) { cls:=.type "list",data:=.seq its.toArray n }={ cls:=.type "list",data:=.seq (its.set j u).toArray n }:=by
 simp[Obj.mapSeq]
theorem Inv.lst{pins:List (Addr×Obj)}{σ:St}{H:Hp}{s:Shared}{p:Addr}{xs:List V}(I:Inv X pins σ H s)(h:H p=some (.lst xs)) :
  ∃(its:List Value) (n:Nat),Vals xs its/\s.heap.get? p=some { cls:=.type "list",data:=.seq its.toArray n }/\xs.length<=sizeLine:=by
 obtain⟨z,its,n,r,e⟩:=I.hok p _ h
 exact⟨its,n,r,e,z⟩
theorem Inv.Hx{pins:List (Addr×Obj)}{σ:St}{H:Hp}{s:Shared}{p:Addr}{xs ys:List V}{its its':List Value}{n n':Nat}{f:Obj->Obj}(I:Inv X pins σ H s)(h:H p=some (.lst xs))
  (ho:s.heap.get? p=some { cls:=.type "list",data:=.seq its.toArray n }) (hf:f { cls:=.type "list",data:=.seq its.toArray n }={ cls:=.type "list",data:=.seq its'.toArray n' }) (r:Vals ys its') (hz:ys.length<=sizeLine) (t:Nat) :
  Inv X pins σ (upd H p (.lst ys)) { s with heap:=s.heap.update p f,toks:=t }:=by
 have e:(s.heap.update p f).get? p=some { cls:=.type "list",data:=.seq its'.toArray n' }:=by
  rw[Heap.get?_update_self f ho (by rw[hf]<;>rfl),hf]
 refine I.write (x:=p) (e:=p) (by rw[h];trivial) (.inl rfl) (fun b u hb q=>(Heap.get?_update_other _ _ (Ne.symm hb)).trans q) ⟨_,e⟩ ?_
 exact⟨hz,its',n',r,e⟩
noncomputable def Lz:V->V->V->Hp->(Hp->Prop)->Prop:=fun o i v H Q=>∃p xs k j,o=.ref p/\i=.int k/\H p=some (.lst xs)/\rD xs.length k=some j/\Q (upd H p (.lst (xs.set j v)))
theorem set_list:GN X Lz:=by
 intro pins s σ H o i v ov iv u Q I ro ri rv h
 obtain⟨p,xs,k,j,rfl,rfl,hp,hj,q⟩:=h
 cases ro
 obtain⟨t,rfl⟩:=ri
 obtain⟨its,n,r,ho,hz⟩:=I.lst hp
 obtain⟨h1,h2,h3,h4⟩:=xg hj
 have hl:=r.length
 have hn:=lF
 have I':Inv X pins σ (upd H p (.lst (xs.set j v))) { s with heap:=s.heap.update p (Obj.mapSeq (·.setIfInBounds j u)) } :=
  I.Hx hp ho (vK its n j u) (r.set rv j) (by rw[List.length_set];exact hz) s.toks
 by_cases h0:0<=k
 ·have hk:k.toNat=j:=by
   rw[seqIndex_of h0 h4] at h1
   exact Option.some.inj h1
  exact PySem.W.ki_setAt ho h0 (by omega) (by rw[List.size_toArray,<-hl];exact h4) (by rw[hk];exact⟨_,I',q⟩)
 ·have hk:(k+(its.toArray.size:Int)).toNat=j:=by
   rw[seqIndex_neg (by omega) h3] at h1
   rw[List.size_toArray,<-hl]
   exact Option.some.inj h1
  exact PySem.W.ki_setBack ho (by omega) (by rw[List.size_toArray,<-hl];exact h3) (by omega) (by rw[hk];exact⟨_,I',q⟩)
theorem rF(lo hi:Option Int)(n:Nat):(sliceBounds lo hi none n).1=((HT.dU n 0 lo:Nat):Int)/\(sliceBounds lo hi none n).2.1=((HT.dU n n hi:Nat):Int)/\(sliceBounds lo hi none n).2.2=1:=by
 refine⟨?_,?_,rfl⟩
 ·cases lo with
  | none=>simp[sliceBounds,HT.dU]
  | some i =>
   simp only[sliceBounds,HT.dU,Option.getD_none,show (1:Int)>0 by decide,if_true]
   by_cases h:i<0
   ·simp only[h,if_true]<;>omega
   ·simp only[h,if_false]<;>omega
 ·cases hi with
  | none=>simp[sliceBounds,HT.dU]
  | some i =>
   simp only[sliceBounds,HT.dU,Option.getD_none,show (1:Int)>0 by decide,if_true]
   by_cases h:i<0
   ·simp only[h,if_true]<;>omega
   ·simp only[h,if_false]<;>omega
theorem pY(its:List Value)(lo hi:Option Int):slicePick its.toArray lo hi none=((its.drop (HT.dU its.length 0 lo)).take (HT.dU its.length its.length hi-HT.dU its.length 0 lo)).toArray:=by
 obtain⟨h1,h2,h3⟩:=rF lo hi its.toArray.size
 unfold slicePick
 rw[h1,h2,h3]
 simp only[sliceRange_one,pick_run,List.size_toArray]<;>rfl
noncomputable def Pc(K:PySem.W.Frag):V->Option Int->Option Int->Hp->VK->Prop:=fun x lo hi H Q=>∃a xs,x=.ref a/\fO K H a xs/\∀p,H p=none->Q (.ref p) (upd H p (.lst (tB xs lo hi)))
theorem DI:Oe X (Pc X.K):=by
 intro pins s σ H x v vl vu lo hi sl Q I rx hs pl pu h
 obtain⟨a,xs,rfl,hx,q⟩:=h
 cases rx
 obtain⟨its,r,ht,hz⟩:=I.list hx
 have hlen:=r.length
 refine⟨"list",_,slot_list_getitem.lookup,ht.isList.typeIs,?_⟩
 refine wpAny_getItem_list_slice ht.isList hs pl pu .none (by simp) ?_ (by rw[List.size_toArray]<;>omega)
 rw[pY,<-hlen]
 refine⟨.ref s.heap.objs.size,_,I.laid (t':=s.toks) (o:=.lst (tB xs lo hi)) (fun b ob q=>Heap.get?_push_of_some _ q) (Nat.le_refl _) ?_,rfl,q _ (I.hok.fresh (Nat.le_refl _))⟩
 exact⟨Nat.le_trans (mK xs lo hi) hz,_,0,(r.drop (HT.dU xs.length 0 lo)).take (HT.dU xs.length xs.length hi-HT.dU xs.length 0 lo),Heap.get?_push_size _ rfl⟩
noncomputable def bq:V->Bool
 | .non=>true
 | .bl _=>true
 | .int _=>true
 | .str _=>true
 | _=>false
noncomputable def FL:V->V->Bool
 | .non,.non=>true
 | .bl a,.bl b=>a==b
 | .bl a,.int b=>(if a then 1 else 0)==b
 | .int a,.bl b=>a==(if b then 1 else 0)
 | .int a,.int b=>a==b
 | .str a,.str b=>a==b
 | _,_=>false
theorem Hy{A:Around}{s:Shared}{y x:V}{u v:Value}(ry:RelV y u)(rx:RelV x v)(fy:bq y=true)(fx:bq x=true):SeqAt.EqAt A s u v (FL y x):=by
 cases y with
 | non =>
  cases ry
  cases x with
  | non=>cases rx;exact SeqAt.EqAt.same _
  | bl b=>cases rx;exact SeqAt.EqAt.none_bool b
  | int b=>obtain⟨t,rfl⟩:=rx;exact SeqAt.EqAt.none_int b t
  | str b=>obtain⟨t,rfl⟩:=rx;exact SeqAt.EqAt.none_str b t
  | _=>exact absurd (show false=true from fx) Bool.false_ne_true
 | bl a =>
  cases ry
  cases x with
  | non=>cases rx;exact SeqAt.EqAt.bool_none a
  | bl b=>cases rx;exact SeqAt.EqAt.bool_bool a b
  | int b=>obtain⟨t,rfl⟩:=rx;exact SeqAt.EqAt.bool_int a b t
  | str b=>obtain⟨t,rfl⟩:=rx;exact SeqAt.EqAt.bool_str a b t
  | _=>exact absurd (show false=true from fx) Bool.false_ne_true
 | int a =>
  obtain⟨t',rfl⟩:=ry
  cases x with
  | non=>cases rx;exact SeqAt.EqAt.int_none a t'
  | bl b=>cases rx;exact SeqAt.EqAt.int_bool a t' b
  | int b=>obtain⟨t,rfl⟩:=rx;exact SeqAt.EqAt.int_int a t' b t
  | str b=>obtain⟨t,rfl⟩:=rx;exact SeqAt.EqAt.int_str a t' b t
  | _=>exact absurd (show false=true from fx) Bool.false_ne_true
 | str a =>
  obtain⟨t',rfl⟩:=ry
  cases x with
  | non=>cases rx;exact SeqAt.EqAt.str_none a t'
  | bl b=>cases rx;exact SeqAt.EqAt.str_bool a t' b
  | int b=>obtain⟨t,rfl⟩:=rx;exact SeqAt.EqAt.str_int a t' b t
  | str b=>obtain⟨t,rfl⟩:=rx;exact SeqAt.EqAt.str_str a t' b t
  | _=>exact absurd (show false=true from fx) Bool.false_ne_true
 | _=>exact absurd (show false=true from fy) Bool.false_ne_true
noncomputable def DJ(x:V)(u:Value):Bool:=match u with
 | .none=>FL .non x
 | .bool b=>FL (.bl b) x
 | .int i _=>FL (.int i) x
 | .str z _=>FL (.str z) x
 | _=>false
theorem Au{x y:V}{u:Value}(r:RelV y u)(f:bq y=true):DJ x u=FL y x:=by
 cases y with
 | non=>cases r;rfl
 | bl b=>cases r;rfl
 | int i=>obtain⟨t,rfl⟩:=r;rfl
 | str z=>obtain⟨t,rfl⟩:=r;rfl
 | _=>exact absurd (show false=true from f) Bool.false_ne_true
theorem rG{x:V}:∀{xs:List V} {us:List Value},Vals xs us->xs.all bq=true->us.any (DJ x)=xs.any fun y=>FL y x
 | _,_,.nil,_=>rfl
 | y::xs,u::us,.cons r t,f=>by
  rw[List.all_cons,Bool.and_eq_true] at f
  rw[List.any_cons,List.any_cons,Au r f.1,rG t f.2]
theorem nT{A:Around}{s:Shared}{x:V}{v:Value}(rx:RelV x v)(fx:bq x=true):∀{xs:List V} {us:List Value},Vals xs us->xs.all bq=true->∀u∈us,SeqAt.EqAt A s u v (DJ x u)
 | _,_,.nil,_=>fun u hu=>by cases hu
 | y::xs,u::us,.cons r t,f=>fun u' hu=>by
  rw[List.all_cons,Bool.and_eq_true] at f
  rcases List.mem_cons.mp hu with rfl|hu
  ·rw[Au r f.1];exact Hy r rx f.1 fx
  ·exact nT rx fx t f.2 u' hu
noncomputable def CN(x:V)(xs:List V):Bool:=xs.any fun y=>FL y x
noncomputable def Pd(K:PySem.W.Frag)(neg:Bool):R2:=fun x y H Q=>∃p xs,y=.ref p/\(fO K H p xs\/iI K H p xs)/\bq x=true/\xs.all bq=true/\Q (.bl (if neg then !CN x xs else CN x xs)) H
theorem rH:ja X (compareOp .NotIn) (Pd X.K true):=by
 intro pins s σ H x y v u Q I rx ry h
 obtain⟨p,xs,rfl,hq,fx,fs,q⟩:=h
 cases ry
 rcases hq with hq|hq
 ·obtain⟨its,r,pl,hz⟩:=I.list hq
  refine SeqAt.notIn_listAt (DJ x) pl.isList (fun w hw=>nT rx fx r fs w (by simpa using hw)) ⟨.bl _,H,I,rfl,?_⟩
  rw[show its.toArray.any (DJ x)=its.any (DJ x) by simp,rG r fs]
  exact q
 ·obtain⟨its,r,pl,hz⟩:=I.tuple hq
  refine SeqAt.notIn_tupleAt (DJ x) pl (fun w hw=>nT rx fx r fs w (by simpa using hw)) ⟨.bl _,H,I,rfl,?_⟩
  rw[show its.toArray.any (DJ x)=its.any (DJ x) by simp,rG r fs]
  exact q
theorem rJ:cJ X (.type "list") (fun xs H Q=>∃p ys,xs=[.ref p]/\(fO X.K H p ys\/iI X.K H p ys)/\∀l,H l=none->Q (.ref l) (upd H l (.lst ys))):=by
 intro pins s σ H xs us Q I r h
 obtain⟨p,ys,rfl,hq,q⟩:=h
 obtain⟨u,rfl,rx⟩:=vals1 r
 cases rx
 have fin:∀(its:List Value),Vals ys its->ys.length<=sizeLine->∀(h':Heap) (c':Nat),(∀b o',s.heap.get? b=some o'->h'.get? b=some o') ->
   h'.get? s.heap.objs.size=some { cls:=.type "list",dict:=none,data:=.seq its.toArray c',slots:=#[] }->EP X pins σ Q (.ref s.heap.objs.size) { s with heap:=h' }:=fun its r' hz h' c' kp e =>
  ⟨.ref s.heap.objs.size,_,I.laid (t':=s.toks) kp (Nat.le_refl _) (show bI X.prog X.w _ h' _ (.lst ys) from⟨hz,its,c',r',e⟩),rfl,q _ (I.hok.fresh (Nat.le_refl _))⟩
 rcases hq with hq|hq
 ·obtain⟨its,r',pl,hz⟩:=I.list hq
  have hlen:=r'.length
  obtain⟨o,ho,hc,n,hd⟩:=pl.isList
  exact call_list_seq p (.inl rfl) ho hc hd (fun h' c' kp e=>fin its r' hz h' c' kp e) (by simp only[List.size_toArray]<;>omega)
 ·obtain⟨its,r',pl,hz⟩:=I.tuple hq
  have hlen:=r'.length
  obtain⟨o,ho,hc,n,hd⟩:=pl
  exact call_list_seq p (.inr rfl) ho hc hd (fun h' c' kp e=>fin its r' hz h' c' kp e) (by simp only[List.size_toArray]<;>omega)
noncomputable def Pe(K:PySem.W.Frag)(T:String)(x:V)(H:Hp):Prop:=match x with
 | .str _=>T = "str"
 | .int _=>T = "int"
 | .ref p=>(T = "list" /\ ∃xs,fO K H p xs)\/(T = "tuple" /\ ∃o,K.lookup p=some o/\o.cls=.type "tuple" /\ o.dict=none) \/
   (T = "dict" /\ ((∃kvs,H p=some (.dK kvs))\/∃kvs,H p=some (.dT kvs)))\/(T = "set" /\ ∃S n,H p=some (.set S n))
 | _=>False
theorem Hz{pins:List (Addr×Obj)}{σ:St}{H:Hp}{s:Shared}{T:String}{x:V}{v:Value}(I:Inv X pins σ H s)(r:RelV x v)(ty:Pe X.K T x H) :
  s.TypeIs v T/\∀a,v=.ref a->∃ob,s.heap.get? a=some ob/\ob.dict=none:=by
 cases x with
 | str z =>
  obtain⟨t,rfl⟩:=r
  cases (show T = "str" from ty)
  exact⟨typeIs_str s z t,fun _ e=>nomatch e⟩
 | int i =>
  obtain⟨t,rfl⟩:=r
  cases (show T = "int" from ty)
  exact⟨typeIs_int s i t,fun _ e=>nomatch e⟩
 | ref p =>
  cases r
  rcases ty with ⟨rfl,xs,hq⟩|⟨rfl,o,hk,hc,hd⟩|⟨rfl,hk⟩|⟨rfl,S,n,hk⟩
  ·obtain⟨its,_,pl,_⟩:=I.list hq
   refine⟨pl.isList.typeIs,fun a e=>?_⟩
   cases e
   obtain⟨o,n,e,c,hd,_⟩:=pl
   exact⟨o,e,hd⟩
  ·refine⟨⟨o,I.lD p o hk,hc⟩,fun a e=>?_⟩
   cases e
   exact⟨o,I.lD _ o hk,hd⟩
  ·have z:∃o,s.heap.get? p=some o/\o.ExactDict:=by
    rcases hk with ⟨kvs,hk⟩|⟨kvs,hk⟩
    ·obtain⟨_,_,_,_,o,_,_,e,ex,_⟩:=I.hok p _ hk
     exact⟨o,e,ex⟩
    ·obtain⟨_,_,_,_,o,_,_,e,ex,_⟩:=I.hok p _ hk
     exact⟨o,e,ex⟩
   obtain⟨o,e,ex⟩:=z
   refine⟨⟨o,e,ex.1⟩,fun a e2=>?_⟩
   cases e2
   exact⟨o,e,ex.2.1⟩
  ·obtain⟨o,_,_,_,e,ex,_⟩:=I.hok p _ hk
   refine⟨⟨o,e,ex.1⟩,fun a e2=>?_⟩
   cases e2
   exact⟨o,e,ex.2.1⟩
 | _=>exact False.elim ty
noncomputable def Sb(K:PySem.W.Frag)(T:String)(r:V->List V->Hp->VK->Prop)(to:TE)(t:TA):TE:=fun σ H Q=>to σ H fun x H1=>Pe K T x H1/\t σ H1 fun xs H2=>r x xs H2 Q
variable {o e:Expr} {es:List Expr} {to:TE} {t:TA} {name:Str} {apos cpos:Pos} {T id:String} {r:V->List V->Hp->VK->Prop}
theorem Av(pa:PlainAttrs T)(slot:Slot T name id)(hty:typeOf (.builtin id)=pure (.type "method_descriptor"))(hm:Lx X id r)(ho:PE X o to)(ha:PA X (e::es) t)
  (hbase:attributeBase o name X.env (eval o X.env)=eval o X.env:=by rfl)
  (hfew:((backTo cpos (starEach (e::es) X.env)).all (fun x=>!x.1)&&(backToKw cpos (keywordEach [] X.env)).all (fun x=>x.1.isSome)
   && decide ((e::es).length+([]:List Keyword).length+(if ([]:List Keyword).isEmpty then 0 else 1)<30))=true:=by rfl)
  (hline:(apos.endLine==cpos.line)=true:=by rfl) (hs:starEach (e::es) X.env=(false,eval e X.env)::starEach es X.env:=by rfl) (hplain:(backTo cpos (starEach es X.env)).any (·.1)=false:=by rfl) :
  PE X (.Call (.Attribute o name apos) (e::es) [] cpos) (Sb X.K T r to t):=by
 intro pins s σ H Q I h
 refine wpAny_Call_method_late hbase hfew hline rfl (bZ (ho pins s σ H _ I h) fun v s1 aC=>?_)
 obtain⟨x,H1,I1,r1,ty,q1⟩:=aC
 obtain⟨h1,h2⟩:=Hz I1 r1 ty
 refine⟨T,id,pa,slot,hty,h1,h2,?_⟩
 have hA:=ha cpos pins s1 σ H1 _ I1 q1
 rw[hs] at hA |-
 refine Calls.callWith_builtin (by show (false||(backTo cpos (starEach es X.env)).any (·.1))=false;rw[hplain]<;>rfl) (Calls.evalArgs_plain ?_)
 exact bZ hA fun us s2 ⟨vs,H2,I2,r2,q2⟩=>hm pins s2 σ H2 x vs v us Q I2 r1 r2 q2
/- xs.append(e),list.index on a LA tuple .. are Lx facts of 06m -/
end
end L2
namespace L2
open PySem PySem.Spec PyProof.Rows
noncomputable def Pf(X:Cx)(id:String)(r:V->List V->Hp->VK->Prop):Prop :=
 ∀(pins:List (Addr×Obj)) (s:Shared) (σ:St) (H:Hp) (x:V) (xs:List V) (v:Value) (us:List Value) (Q:VK),Inv X pins σ H s->RelV x v->Vals xs us->r x xs H Q ->
  wpAny (model X.prog X.w) X.A (call (.builtin id) (v::us)) (EP X pins σ Q) X.xe s
theorem Vals.one:∀{x:V} {us:List Value},Vals [x] us->∃u,us=[u]/\RelV x u
 | _,_,.cons r .nil=>⟨_,rfl,r⟩
section
variable {X:Cx} {pins:List (Addr×Obj)} {σ:St} {H:Hp} {s:Shared} {l b:Addr} {xs ys zs:List V}
theorem Inv.HD{its its':List Value}{n:Nat}{f:Array Value->Array Value}{t':Nat}(I:Inv X pins σ H s)(hH:H l=some (.lst xs))
  (e:s.heap.get? l=some { cls:=.type "list",data:=.seq its.toArray n }) (hf:f its.toArray=its'.toArray) (hv:Vals ys its') (hz:ys.length<=sizeLine) :
  Inv X pins σ (upd H l (.lst ys)) { s with heap:=s.heap.update l (Obj.mapSeq f),toks:=t' }:=by
 have q:=PySem.IsL.update e f
 rw[hf] at q
 refine I.write (x:=l) (e:=l) (by rw[hH];exact trivial) (.inl rfl) (fun b' u hb hu=>(Heap.get?_update_other s.heap (Obj.mapSeq f) (Ne.symm hb)).trans hu) ⟨_,q⟩ ?_
 exact⟨hz,its',_,hv,q⟩
theorem Inv.Pg{its:List Value}{t':Nat}(I:Inv X pins σ H s)(hv:Vals ys its)(hz:ys.length<=sizeLine) :
  Inv X pins σ (upd H s.heap.objs.size (.lst ys)) { s with heap:=s.heap.push { cls:=.type "list",data:=.seq its.toArray },toks:=t' } :=
 I.laid (fun _ _ q=>Heap.get?_push_of_some _ q) (Nat.le_refl _) ⟨hz,its,0,hv,Heap.get?_push_size _ rfl⟩
theorem Inv.DK(I:Inv X pins σ H s)(hH:H l=some (.lst xs)):xs.length<=sizeLine/\∃(its:List Value) (n:Nat),Vals xs its/\xs.length=its.length/\s.heap.get? l=some { cls:=.type "list",data:=.seq its.toArray n }:=by
 obtain⟨z,its,n,r,e⟩:=I.hok l _ hH
 exact⟨z,its,n,r,r.length,e⟩
theorem tD{n:Nat}(h:n<=sizeLine):Builtin.List.listTooLong n=false:=by
 unfold Builtin.List.listTooLong
 exact decide_eq_false (by omega)
end
section
variable {X:Cx}
noncomputable def DL:V->List V->Hp->VK->Prop:=fun x vs H Q=>∃l xs y,x=.ref l/\vs=[y]/\H l=some (.lst xs)/\xs.length<sizeLine/\Q .non (upd H l (.lst (xs++[y])))
theorem qq:Pf X "list.append" DL:=by
 intro pins s σ H x vs v us Q I rx rv h
 obtain⟨l,xs,y,rfl,rfl,hH,hz,q⟩:=h
 cases rx
 obtain⟨u,rfl,ru⟩:=rv.one
 obtain⟨z,its,n,r,hl,e⟩:=I.DK hH
 refine call_meets F.slot_list_append ⟨_,e,rfl⟩ F.entry_list_append (F.args_list_append_2 _ _) (PySem.list_append l its.toArray n u (by rw[List.size_toArray];omega)) ⟨e,?_⟩
 refine⟨.non,_,I.HD (its':=its++[u]) hH e (by simp) (r.append (.cons ru .nil)) ?_,rfl,q⟩
 rw[List.length_append,List.length_singleton]
 omega
noncomputable def DM:V->List V->Hp->VK->Prop:=fun x vs H Q=>∃l b xs zs,x=.ref l/\vs=[.ref b]/\H l=some (.lst xs)/\H b=some (.lst zs)/\xs.length+zs.length<=sizeLine/\Q .non (upd H l (.lst (xs++zs)))
theorem yO:Pf X "list.extend" DM:=by
 intro pins s σ H x vs v us Q I rx rv h
 obtain⟨l,b,xs,zs,rfl,rfl,hH,hB,hz,q⟩:=h
 cases rx
 obtain⟨u,rfl,ru⟩:=rv.one
 cases ru
 obtain⟨z,its,n,r,hl,e⟩:=I.DK hH
 obtain⟨z2,its2,n2,r2,hl2,e2⟩:=I.DK hB
 have hsz:its.toArray.size+its2.toArray.size<=sizeLine:=by rw[List.size_toArray,List.size_toArray];omega
 have Aw:¬ (!its.toArray.isEmpty&&Builtin.List.listTooLong (its.toArray.size+its2.toArray.size))=true:=by
  rw[tD hsz,Bool.and_false]
  exact Bool.false_ne_true
 refine call_meets F.slot_list_extend ⟨_,e,rfl⟩ F.entry_list_extend (F.args_list_extend_2 _ _)
  (AutoSeq1.list_extend_list_list_0 l its.toArray n b its2.toArray n2 Aw (by rw[List.size_toArray];omega) (by omega)) ⟨e,e2,?_⟩
 refine⟨.non,_,I.HD (its':=its++its2) hH e (by simp) (r.append r2) ?_,rfl,q⟩
 rw[List.length_append]
 omega
end
section
variable {prog:Program} {w:World} {A:Around} {E:Value->Shared->Prop} {s:Shared}
end
section
variable {X:Cx}
end
end L2
namespace L2
open PySem PySem.Spec PyProof.Rows
section
variable {κ:Type} [DecidableEq κ]
noncomputable def gD(kvs:List (κ × V))(k:κ):Option V:=(kvs.find? fun kv=>decide (kv.1=k)).map (·.2)
noncomputable def putK(kvs:List (κ × V))(k:κ)(v:V):List (κ × V) :=
 if (kvs.any fun kv=>decide (kv.1=k))=true then kvs.map (fun kv=>if kv.1=k then (kv.1,v) else kv) else kvs++[(k,v)]
theorem nU{p:κ × V}{r:List (κ × V)}{k:κ}(e:p.1=k):gD (p::r) k=some p.2:=by simp[gD,List.find?_cons,e]
theorem nV{p:κ × V}{r:List (κ × V)}{k:κ}(e:¬ p.1=k):gD (p::r) k=gD r k:=by simp[gD,List.find?_cons,e]
theorem tE(k:κ):∀kvs:List (κ × V),(kvs.any fun kv=>decide (kv.1=k))=(gD kvs k).isSome
 | []=>rfl
 | p::r=>by
  rw[List.any_cons]
  by_cases e:p.1=k
  ·simp only[nU e,decide_eq_true e,Bool.true_or,Option.isSome_some]
  ·rw[nV e,decide_eq_false e,Bool.false_or];exact tE k r
theorem jh(kvs:List (κ × V))(k:κ)(v:V):(putK kvs k v).length<=kvs.length+1:=by
 unfold putK
 split
 ·rw[List.length_map];omega
 ·rw[List.length_append,List.length_cons,List.length_nil];omega
theorem iY.gU{o:Option V}{u:Option Value}(r:iY o u):o.isSome=u.isSome:=by
 cases o with
 | none=>cases u with
  | none=>rfl
  | some _=>exact(show False from r).elim
 | some _=>cases u with
  | none=>exact(show False from r).elim
  | some _=>rfl
theorem iY.getD{o:Option V}{u:Option Value}{d:V}{d':Value}(r:iY o u)(rd:RelV d d'):RelV (o.getD d) (u.getD d'):=by
 cases o with
 | none=>cases u with
  | none=>exact rd
  | some _=>exact(show False from r).elim
 | some _=>cases u with
  | none=>exact(show False from r).elim
  | some _=>exact r
theorem KV.val{kvs:List (κ × V)}{vs:List (κ × Value)}(r:KV kvs vs)(k:κ):iY (gD kvs k) (valueAt vs k):=by
 unfold KV at r
 induction r with
 | nil=>exact True.intro
 | @cons p q ps qs h t ih =>
  obtain⟨h1,h2⟩:=h
  by_cases e:p.1=k
  ·have e':q.1=k:=h1.symm.trans e
   have b:valueAt (q::qs) k=some q.2:=by simp[valueAt,List.find?_cons,e']
   rw[nU e,b];exact h2
  ·have e':¬ q.1=k:=fun z=>e (h1.trans z)
   have b:valueAt (q::qs) k=valueAt qs k:=by simp[valueAt,List.find?_cons,e']
   rw[nV e,b];exact ih
theorem KV.any{kvs:List (κ × V)}{vs:List (κ × Value)}(r:KV kvs vs)(k:κ):(kvs.any fun kv=>decide (kv.1=k))=vs.any fun kv=>decide (kv.1=k):=by
 unfold KV at r
 induction r with
 | nil=>rfl
 | cons h t ih=>rw[List.any_cons,List.any_cons,ih,h.1]
theorem KV.repl{kvs:List (κ × V)}{vs:List (κ × Value)}(r:KV kvs vs)(k:κ){y:V}{u:Value}(ry:RelV y u) :
  KV (kvs.map fun kv=>if kv.1=k then (kv.1,y) else kv) (vs.map fun kv=>if kv.1=k then (kv.1,u) else kv):=by
 unfold KV at r |-
 induction r with
 | nil=>exact .nil
 | @cons p q ps qs h t ih =>
  rw[List.map_cons,List.map_cons]
  refine .cons ?_ ih
  obtain⟨h1,h2⟩:=h
  by_cases e:p.1=k
  ·rw[if_pos e,if_pos (h1.symm.trans e)];exact⟨h1,ry⟩
  ·rw[if_neg e,if_neg (fun z=>e (h1.trans z))];exact⟨h1,h2⟩
theorem KV.put{kvs:List (κ × V)}{vs:List (κ × Value)}(r:KV kvs vs)(k:κ){y:V}{u:Value}(ry:RelV y u):KV (putK kvs k y) (stored vs k u):=by
 unfold putK stored
 rw[r.any k]
 by_cases e:(vs.any fun kv=>decide (kv.1=k))=true
 ·rw[if_pos e,if_pos e];exact r.repl k ry
 ·rw[if_neg e,if_neg e];exact Paired.snoc r ⟨rfl,ry⟩
theorem KV.length{kvs:List (κ × V)}{vs:List (κ × Value)}(r:KV kvs vs):kvs.length=vs.length:=Paired.length r
end
theorem nW{P:Program}{w:World}{k:Key}{u:Value}(r:RelV (kV k) u):(aO P w).is k u=true:=by
 cases k with
 | inl i=>obtain⟨t,e⟩:=(show ∃t,u=Value.int i t from r);subst e;exact sQ P w i t
 | inr x=>obtain⟨t,e⟩:=(show ∃t,u=Value.str x t from r);subst e;exact sS P w x t
theorem qt{P:Program}{w:World}:∀{ks:List Key} {us:List Value},Vals (ks.map kV) us->ItemsAre (aO P w) ks us
 | [],_,r=>by rw[List.map_nil] at r;cases r;exact .nil
 | k::ks,_,r=>by
  rw[List.map_cons] at r
  cases r with
  | cons h t=>exact .cons (nW h) (qt t)
noncomputable abbrev KT(H:Hp):List (List Key×V)->List (List Key×Addr×Value)->Prop:=Paired fun p q=>p.1=q.1/\H q.2.1=some (.tup (p.1.map kV))/\RelV p.2 q.2.2
theorem KT.val{H:Hp}{kvs:List (List Key×V)}{xs:List (List Key×Addr×Value)}(r:KT H kvs xs)(k:List Key):iY (gD kvs k) ((atKey xs k).map (·.2)):=by
 induction r with
 | nil=>exact True.intro
 | @cons p q ps qs h t ih =>
  obtain⟨h1,_,h2⟩:=h
  by_cases e:p.1=k
  ·have e':q.1=k:=h1.symm.trans e
   have b:atKey (q::qs) k=some q.2:=by simp[atKey,List.find?_cons,e']
   rw[nU e,b];exact h2
  ·have e':¬ q.1=k:=fun z=>e (h1.trans z)
   have b:atKey (q::qs) k=atKey qs k:=by simp[atKey,List.find?_cons,e']
   rw[nV e,b];exact ih
theorem KT.repl{H:Hp}{kvs:List (List Key×V)}{xs:List (List Key×Addr×Value)}(r:KT H kvs xs)(k:List Key){y:V}{u:Value}(ry:RelV y u) :
  KT H (kvs.map fun kv=>if kv.1=k then (kv.1,y) else kv) (xs.map (putAt k u)):=by
 induction r with
 | nil=>exact .nil
 | @cons p q ps qs h t ih =>
  rw[List.map_cons,List.map_cons]
  refine .cons ?_ ih
  obtain⟨h1,h2,h3⟩:=h
  unfold putAt
  by_cases e:p.1=k
  ·rw[if_pos e,if_pos (h1.symm.trans e)];exact⟨h1,h2,ry⟩
  ·rw[if_neg e,if_neg (fun z=>e (h1.trans z))];exact⟨h1,h2,h3⟩
theorem KT.put{H:Hp}{kvs:List (List Key×V)}{xs:List (List Key×Addr×Value)}(r:KT H kvs xs)(k:List Key){b:Addr}{y:V}{u:Value}(hb:H b=some (.tup (k.map kV)))(ry:RelV y u) :
  KT H (putK kvs k y) (storedH xs k b u):=by
 have e:(kvs.any fun kv=>decide (kv.1=k))=(atKey xs k).isSome:=by
  rw[tE,(r.val k).gU,Option.isSome_map]
 unfold putK storedH
 rw[e]
 by_cases q:(atKey xs k).isSome=true
 ·rw[if_pos q,if_pos q];exact r.repl k ry
 ·rw[if_neg q,if_neg q];exact Paired.snoc r ⟨rfl,hb,ry⟩
theorem KT.keeps{H H':Hp}{kvs:List (List Key×V)}{xs:List (List Key×Addr×Value)}(r:KT H kvs xs)(ht:∀b ys,H b=some (.tup ys)->H' b=some (.tup ys)):KT H' kvs xs :=
 Paired.Gv r fun _ _ z=>⟨z.1,ht _ _ z.2.1,z.2.2⟩
section
variable {P:Program} {w:World} {H:Hp} {h:Heap} {a:Addr}
theorem FN{u:HO}(ok:kg P w H h)(e:Rd H a u):bI P w H h a u:=e.ok ok
theorem mL{kvs:List (Key×V)}(ok:kg P w H h)(e:Rd H a (.dK kvs)):kvs.length<=sizeLine/\(a==sysModules)=false/\∃vs,KV kvs vs/\h.DictOf (aO P w) a vs :=
 show bI P w H h a (.dK kvs) from FN ok e
theorem tF{kvs:List (Key×V)}(ok:kg P w H h)(e:H a=some (.dK kvs)):kvs.length<=sizeLine/\(a==sysModules)=false/\∃vs,KV kvs vs/\h.DictOf (aO P w) a vs:=mL ok (.inl e)
theorem lI{ks:List Key}(ok:kg P w H h)(e:H a=some (.tup (ks.map kV))):(tupleKind (aO P w)).is h ks a:=by
 obtain⟨_,its,r,o,h1,h2,n,h3⟩:=(show bI P w H h a (.tup (ks.map kV)) from ok a _ e)
 exact⟨o,its.toArray,n,h1,h2,h3,by simpa using qt r⟩
theorem nX{kvs:List (List Key×V)}(ok:kg P w H h)(e:Rd H a (.dT kvs)):kvs.length<=sizeLine/\(a==sysModules)=false /\
  ∃xs,KT H kvs xs/\h.DictOfH (tupleKind (aO P w)) a xs:=by
 obtain⟨z,y,xs,r,o,es,ep,h1,h2,h3,h4,h5⟩:=(show bI P w H h a (.dT kvs) from FN ok e)
 refine⟨z,y,xs,r,o,es,ep,h1,h2,h3,h4,fun x hx=>?_,h5⟩
 have all:∀{l:List (List Key×V)} {m:List (List Key×Addr×Value)},KT H l m->∀x∈m,(tupleKind (aO P w)).is h x.1 x.2.1:=by
  intro l m q
  induction q with
  | nil=>intro x hx;exact nomatch hx
  | @cons p q ps qs hq t ih =>
   intro x hx
   rcases List.mem_cons.mp hx with e|hx
   ·subst e
    exact lI ok (by rw[<-hq.1];exact hq.2.1)
   ·exact ih x hx
 exact all r x hx
theorem LB{kvs:List (List Key×V)}(ok:kg P w H h)(e:H a=some (.dT kvs)):kvs.length<=sizeLine/\(a==sysModules)=false /\
  ∃xs,KT H kvs xs/\h.DictOfH (tupleKind (aO P w)) a xs:=nX ok (.inl e)
end
noncomputable def jU(H:Hp)(a:Addr)(y:V)(r:Option V):Prop :=
 (∃kvs k,Rd H a (.dK kvs)/\y=kV k/\r=gD kvs k)\/∃kvs k b,Rd H a (.dT kvs)/\y=.ref b/\H b=some (.tup (k.map kV))/\r=gD kvs k
noncomputable def DN(H:Hp)(a:Addr)(y v:V)(H':Hp):Prop :=
 (∃kvs k,H a=some (.dK kvs)/\y=kV k/\kvs.length<sizeLine/\H'=upd H a (.dK (putK kvs k v))) \/
 ∃kvs k b,H a=some (.dT kvs)/\y=.ref b/\H b=some (.tup (k.map kV))/\kvs.length<sizeLine/\H'=upd H a (.dT (putK kvs k v))
theorem jU.k{H:Hp}{a:Addr}{kvs:List (Key×V)}{k:Key}(e:H a=some (.dK kvs)):jU H a (kV k) (gD kvs k):=.inl ⟨kvs,k,.inl e,rfl,rfl⟩
theorem DN.k{H:Hp}{a:Addr}{kvs:List (Key×V)}{k:Key}{v:V}(e:H a=some (.dK kvs))(hl:kvs.length<sizeLine):DN H a (kV k) v (upd H a (.dK (putK kvs k v))):=.inl ⟨kvs,k,e,rfl,hl,rfl⟩
section
variable {X:Cx} {pins:List (Addr×Obj)} {σ:St} {H:Hp} {s:Shared} {a:Addr} {y v:V} {u r:Value} {o:Option V} {A:Around} {E:Value->Shared->Prop}
theorem Inv.big(I:Inv X pins σ H s):sysModules<s.heap.objs.size:=by
 have h:mainGlobals<s.heap.objs.size:=(I.mod.glob.keeps I.bk).lt
 exact Nat.lt_trans (by decide) h
theorem yP{Q:Value->Shared->Prop}(hu:A.units+1<cLine)(I:Inv X pins σ H s)(g:jU H a y (some v))(ry:RelV y u)(h:∀w' s',Inv X pins σ H s'->RelV v w'->Q w' s') :
  wpAny (model X.prog X.w) A (getItem (.ref a) u) Q E s:=by
 rcases g with ⟨kvs,k,e,ey,l⟩|⟨kvs,k,b,e,ey,eb,l⟩
 ·subst ey
  obtain⟨z,hd,vs,rel,dd⟩:=mL I.hok e
  obtain⟨w',hw,rw'⟩:=iY.some_of (v:=v) (o:=valueAt vs k) (by rw[l];exact rel.val k)
  exact wpAny_getItem_of (nW ry) dd.mapOf hw (h w' _ (I.tok _) rw')
 ·subst ey
  cases (show u=Value.ref b from ry)
  obtain⟨z,hd,xs,rel,dd⟩:=nX I.hok e
  obtain⟨w',hw,rw'⟩:=iY.some_of (v:=v) (o:=(atKey xs k).map (·.2)) (by rw[l];exact rel.val k)
  obtain⟨p,hp,hp2⟩:=Option.map_eq_some_iff.mp hw
  refine wpAny_getItem_heap (tupleKind_room_in1 hu) (lI I.hok eb) dd hp ?_
  rw[hp2]
  exact h w' _ (I.tok _) rw'
theorem Ph{Q:Value->Shared->Prop}(hu:A.units+1<cLine)(I:Inv X pins σ H s)(g:jU H a y o)(ry:RelV y u)(h:∀s',Inv X pins σ H s'->Q (.bool o.isSome) s') :
  wpAny (model X.prog X.w) A (compareOp .In u (.ref a)) Q E s:=by
 rcases g with ⟨kvs,k,e,ey,l⟩|⟨kvs,k,b,e,ey,eb,l⟩
 ·subst ey
  obtain⟨z,hd,vs,rel,dd⟩:=mL I.hok e
  refine wpAny_in_of (nW ry) hd dd.mapOf ?_
  rw[<-(rel.val k).gU,<-l]
  exact h _ (I.tok _)
 ·subst ey
  cases (show u=Value.ref b from ry)
  obtain⟨z,hd,xs,rel,dd⟩:=nX I.hok e
  refine wpAny_in_heap (tupleKind_room_in1 hu) (lI I.hok eb) hd dd ?_
  have q:=(rel.val k).gU
  rw[Option.isSome_map] at q
  rw[<-q,<-l]
  exact h _ (I.tok _)
theorem DO{Q:Value->Shared->Prop}(hu:A.units+1<cLine)(I:Inv X pins σ H s)(g:jU H a y o)(ry:RelV y u)(h:∀s',Inv X pins σ H s'->Q (.bool (!o.isSome)) s') :
  wpAny (model X.prog X.w) A (compareOp .NotIn u (.ref a)) Q E s:=by
 rcases g with ⟨kvs,k,e,ey,l⟩|⟨kvs,k,b,e,ey,eb,l⟩
 ·subst ey
  obtain⟨z,hd,vs,rel,dd⟩:=mL I.hok e
  refine wpAny_notIn_of (nW ry) hd dd.mapOf ?_
  rw[<-(rel.val k).gU,<-l]
  exact h _ (I.tok _)
 ·subst ey
  cases (show u=Value.ref b from ry)
  obtain⟨z,hd,xs,rel,dd⟩:=nX I.hok e
  refine wpAny_notIn_heap (tupleKind_room_in1 hu) (lI I.hok eb) hd dd ?_
  have q:=(rel.val k).gU
  rw[Option.isSome_map] at q
  rw[<-q,<-l]
  exact h _ (I.tok _)
theorem rK{h':Heap}{t':Nat}{ob:HO}(I:Inv X pins σ H s)(mu:KS (H a))(hs:Heap.SameBut a s.heap h')(he:∃q,h'.get? a=some q)(new:bI X.prog X.w (upd H a ob) h' a ob) :
  Inv X pins σ (upd H a ob) { s with heap:=h',toks:=t' } :=
 I.write (x:=a) (e:=a) mu (.inl rfl) (fun b q hb z=>(hs.2 b hb).trans z) he new
theorem Ax{P:Program}{w:World}{H':Hp}{h':Heap}{kvs:List (Key×V)}{vs:List (Key×Value)}(z:kvs.length<=sizeLine)(hd:(a==sysModules)=false)(rel:KV kvs vs)(dd:h'.DictOf (aO P w) a vs) :
  bI P w H' h' a (.dK kvs):=⟨z,hd,vs,rel,dd⟩
theorem yQ{H':Hp}{Q:Unit->Shared->Prop}(hu:A.units+1<cLine)(I:Inv X pins σ H s)(g:DN H a y v H')(ry:RelV y u)(rv:RelV v r)(h:∀s',Inv X pins σ H' s'->Q () s') :
  wpAny (model X.prog X.w) A (setItem (.ref a) u r) Q E s:=by
 rcases g with ⟨kvs,k,e,ey,l,eH⟩|⟨kvs,k,b,e,ey,eb,l,eH⟩
 ·subst ey eH
  obtain⟨z,hd,vs,rel,dd⟩:=tF I.hok e
  have hz:vs.length<=sizeLine:=by rw[<-rel.length];exact z
  have hl:(putK kvs k v).length<=sizeLine:=by have:=jh kvs k v;omega
  refine wpAny_setItem_pairs (hsz:=hz) (nW ry) dd fun h' HE hs=>h _ ?_
  have he:∃q,h'.get? a=some q:=let ⟨q,_,_,hq,_⟩:=HE;⟨q,hq⟩
  exact rK I (by rw[e];exact True.intro) hs he (Ax hl hd (rel.put k rv) HE)
 ·subst ey eH
  cases (show u=Value.ref b from ry)
  obtain⟨z,hd,xs,rel,dd⟩:=LB I.hok e
  have hz:xs.length<=sizeLine:=by rw[<-Paired.length rel];exact z
  have hl:(putK kvs k v).length<=sizeLine:=by have:=jh kvs k v;omega
  refine wpAny_setItem_heap (hsz:=hz) (tupleKind_room_in1 hu) (lI I.hok eb) dd fun h' HE hs=>h _ ?_
  obtain⟨q,es,ep,hq,h2,h3,h4,_,h5⟩:=HE
  refine rK I (by rw[e];exact True.intro) hs ⟨q,hq⟩ ⟨hl,hd,_,(rel.put k eb rv).keeps fun c ys ec=>?_,q,es,ep,hq,h2,h3,h4,h5⟩
  rw[ak (KR ec e (fun z=>nomatch z))]
  exact ec
end
section
variable {X:Cx} {pins:List (Addr×Obj)} {σ:St} {H:Hp} {s:Shared} {a:Addr} {kvs:List (Key×V)} {k:Key} {u:Value} {A:Around} {E:Value->Shared->Prop}
theorem LC{Q:Value->Shared->Prop}(I:Inv X pins σ H s)(e:Rd H a (.dK kvs))(h:∀t s',Inv X pins σ H s'->Q (.int kvs.length t) s'):wpAny (model X.prog X.w) A (call (.builtin "len") [.ref a]) Q E s:=by
 obtain⟨z,hd,vs,rel,dd⟩:=mL I.hok e
 refine call_len_dict hd dd (by rw[<-rel.length];rw[sizeLine_eq] at z;omega) ?_
 rw[<-rel.length]
 exact h _ _ (I.tok _)
end
theorem tG{X:Cx}{pins:List (Addr×Obj)}{σ:St}{H:Hp}{s:Shared}{a:Addr}{y:V}{o:Option V}(I:Inv X pins σ H s)(g:jU H a y o):s.TypeIs (.ref a) "dict":=by
 rcases g with ⟨kvs,k,e,_,_⟩|⟨kvs,k,b,e,_,_,_⟩
 ·obtain⟨_,_,vs,_,dd⟩:=mL I.hok e
  exact dd.typeIs
 ·obtain⟨_,_,xs,_,dd⟩:=nX I.hok e
  exact dd.typeIs
section
variable {X:Cx} {o i e value:Expr} {pos pos' tpos:Pos} {td ty tv:TE}
end
theorem tH{P:Program}{w:World}{H:Hp}(h:Heap)(hb:sysModules<h.objs.size):bI P w H (h.push { cls:=.type "dict",data:=.dict #[] }) h.objs.size (.dK []) :=
 ⟨Nat.zero_le _,beq_eq_false_iff_ne.mpr (Ne.symm (Nat.ne_of_lt hb)),[],.nil,Heap.DictOf.new h⟩
noncomputable def HF:TE:=fun _ H Q=>∀p,H p=none->Q (.ref p) (upd H p (.dK []))
section
variable {X:Cx} {pos:Pos}
theorem Ay:PE X (.Dict [] [] pos) HF:=fun pins s σ H Q I h =>
 wpAny_Dict_empty ⟨.ref s.heap.objs.size,_,I.laid (a:=s.heap.objs.size) (o:=.dK []) (t':=s.toks) (fun _ _ q=>Heap.get?_push_of_some _ q) (Nat.le_refl _) (tH s.heap I.big),rfl,h _ (I.hok.fresh (Nat.le_refl _))⟩
end
noncomputable def vL:List (TE×TE)->St->Hp->(List (V×V)->Hp->Prop)->Prop
 | [],_,H,Q=>Q [] H
 | (tk,tv)::r,σ,H,Q=>tk σ H fun x H1=>tv σ H1 fun y H2=>vL r σ H2 fun ps H3=>Q ((x,y)::ps) H3
noncomputable abbrev VV:List (V×V)->List (Value×Value)->Prop:=Paired fun p q=>RelV p.1 q.1/\RelV p.2 q.2
noncomputable def Of(X:Cx)(pos:Pos)(keys:List (Option Expr))(values:List Expr)(DP:List (TE×TE)):Prop :=
 ∀(pins:List (Addr×Obj)) (s:Shared) (σ:St) (H:Hp) (Q:List (V×V)->Hp->Prop),Inv X pins σ H s->vL DP σ H Q ->
  wpAny (model X.prog X.w) X.A (evalPairs (pairTrees keys values X.env pos)) (fun vs s'=>∃ps H',Inv X pins σ H' s'/\VV ps vs/\Q ps H') X.xe s
theorem DQ{X:Cx}{pos:Pos}:Of X pos [] [] []:=fun pins s σ H Q I h=>pairTrees_nil_walk ⟨[],H,I,.nil,h⟩
theorem Az{X:Cx}{pos:Pos}{k v:Expr}{ks:List (Option Expr)}{vs:List Expr}{tk tv:TE}{DP:List (TE×TE)}(hk:PE X k tk)(hv:PE X v tv)(hr:Of X pos ks vs DP) :
  Of X pos (some k::ks) (v::vs) ((tk,tv)::DP):=fun pins s σ H Q I h =>
 pairTrees_cons_walk (bZ (hk pins s σ H _ I h) fun u s1 ⟨x,H1,I1,rx,q1⟩=>bZ (hv pins s1 σ H1 _ I1 q1) fun w2 s2 ⟨y,H2,I2,ry,q2⟩ =>
  bZ (hr pins s2 σ H2 _ I2 q2) fun ws s3 ⟨ps,H3,I3,rel,q3⟩=>⟨(x,y)::ps,H3,I3,.cons ⟨rx,ry⟩ rel,q3⟩)
noncomputable def lJ(kvs more:List (Key×V)):List (Key×V):=more.foldl (fun acc kv=>putK acc kv.1 kv.2) kvs
theorem KV.merge:∀{more:List (Key×V)} {rs:List (Key×Value)} {kvs:List (Key×V)} {vs:List (Key×Value)},KV more rs->KV kvs vs->KV (lJ kvs more) (merged vs rs):=by
 intro more rs kvs vs r
 unfold KV at r
 induction r generalizing kvs vs with
 | nil=>intro q;exact q
 | @cons p q ps qs h t ih =>
  intro r0
  have e:KV (putK kvs p.1 p.2) (stored vs q.1 q.2):=by
   have:=r0.put p.1 h.2
   rw[<-h.1];exact this
  exact ih e
theorem jZ:∀(more kvs:List (Key×V)),(lJ kvs more).length<=kvs.length+more.length
 | [],kvs=>by show kvs.length<=kvs.length+0;omega
 | p::r,kvs=>by
  have h1:=jZ r (putK kvs p.1 p.2)
  have h2:=jh kvs p.1 p.2
  show (lJ (putK kvs p.1 p.2) r).length<=_
  rw[List.length_cons];omega
theorem nY{P:Program}{w:World}:∀{kvs:List (Key×V)} {ws:List (Value×Value)},VV (kvs.map fun kv=>(kV kv.1,kv.2)) ws->∃rs,Carries (aO P w) ws rs/\KV kvs rs
 | [],_,r=>by rw[List.map_nil] at r;cases r;exact⟨[],True.intro,.nil⟩
 | p::kvs,_,r=>by
  rw[List.map_cons] at r
  cases r with
  | @cons a b as bs h t =>
   obtain⟨rs,c,q⟩:=nY (P:=P) (w:=w) t
   obtain⟨b1,b2⟩:=b
   exact⟨(p.1,b2)::rs,⟨nW h.1,rfl,c⟩,.cons ⟨rfl,h.2⟩ q⟩
noncomputable def LD(DP:List (TE×TE)):TE:=fun σ H Q=>∀p,H p=none->vL DP σ (upd H p (.dK [])) fun ps H2=>H2 p=some (.dK [])/\∃kvs:List (Key×V),ps=kvs.map (fun kv=>(kV kv.1,kv.2))/\kvs.length<=15/\Q (.ref p) (upd H2 p (.dK (lJ [] kvs)))
theorem DR{X:Cx}{pos:Pos}{keys:List (Option Expr)}{values:List Expr}{DP:List (TE×TE)}(h:Of X pos keys values DP)(hall:keys.all (·.isSome)=true)(hl:keys.length=values.length)(h0:keys≠[])
  (Ua:keys.length<=15):PE X (.Dict keys values pos) (LD DP):=by
 intro pins s σ H Q I q
 have hn:=I.hok.fresh (Nat.le_refl s.heap.objs.size)
 have I1:=I.laid (a:=s.heap.objs.size) (o:=.dK []) (h':=s.heap.push { cls:=.type "dict",data:=.dict #[] }) (t':=s.toks) (fun _ _ q=>Heap.get?_push_of_some _ q) (Nat.le_refl _) (tH s.heap I.big)
 refine wpAny_Dict_walk (knd:=aO X.prog X.w) hall hl h0 Ua (bZ (h pins _ σ _ _ I1 (q _ hn)) fun ws s2 aC=>?_)
 obtain⟨ps,H2,I2,rel,e,kvs,ep,lk,q2⟩:=aC
 subst ep
 obtain⟨rs,c,rk⟩:=nY (P:=X.prog) (w:=X.w) rel
 obtain⟨z,hd,Xy,r0,dd⟩:=tF I2.hok e
 cases r0
 refine⟨rs,c,dd,fun h' HE hs=>⟨.ref s.heap.objs.size,_,?_,rfl,q2⟩⟩
 have hz:(lJ [] kvs).length<=sizeLine:=by
  have h1:=jZ kvs []
  rw[List.length_nil] at h1
  rw[sizeLine_eq];omega
 have he:∃q,h'.get? s.heap.objs.size=some q:=let ⟨q,_,_,hq,_⟩:=HE;⟨q,hq⟩
 exact rK I2 (by rw[e];exact True.intro) hs he (Ax hz hd (rk.merge .nil) HE)
structure M2 (X:Cx) (o:Expr) (m:Str) (apos:Pos) (e f:Expr) (cpos:Pos):Prop where
 base:attributeBase o m X.env (eval o X.env)=eval o X.env
 few:((backTo cpos (starEach [e,f] X.env)).all (fun x=>!x.1)&&(backToKw cpos (keywordEach [] X.env)).all (fun x=>x.1.isSome)
  && decide (([e,f]:List Expr).length+([]:List Keyword).length+(if ([]:List Keyword).isEmpty then 0 else 1)<30))=true
 line:(apos.endLine==cpos.line)=true
 trees:backTo cpos (starEach [e,f] X.env)=[(false,eval e X.env),(false,eval f X.env)]
noncomputable def Sd(H:Hp)(a:Addr):Prop:=(∃kvs,Rd H a (.dK kvs))\/∃kvs,Rd H a (.dT kvs)
theorem vM{X:Cx}{pins:List (Addr×Obj)}{σ:St}{H:Hp}{s:Shared}{a:Addr}(I:Inv X pins σ H s)(d:Sd H a) :
  s.TypeIs (.ref a) "dict" /\ (∀b,Value.ref a=.ref b->∃ob,s.heap.get? b=some ob/\ob.dict=none)/\(a==sysModules)=false:=by
 rcases d with ⟨kvs,e⟩|⟨kvs,e⟩
 ·obtain⟨_,hd,vs,_,dd⟩:=mL I.hok e
  refine⟨dd.typeIs,fun b q=>?_,hd⟩
  cases q
  obtain⟨ob,_,_,h1,h2,_⟩:=dd
  exact⟨ob,h1,h2.2.1⟩
 ·obtain⟨_,hd,xs,_,dd⟩:=nX I.hok e
  refine⟨dd.typeIs,fun b q=>?_,hd⟩
  cases q
  obtain⟨ob,_,_,h1,h2,_⟩:=dd
  exact⟨ob,h1,h2.2.1⟩
section
variable {X:Cx} {pins:List (Addr×Obj)} {σ:St} {H:Hp} {s:Shared} {a:Addr} {y d:V} {u r:Value} {o:Option V} {A:Around} {E:Value->Shared->Prop}
theorem HG{Q:Value->Shared->Prop}(hu:A.units+1<cLine)(I:Inv X pins σ H s)(g:jU H a y o)(ry:RelV y u)(rd:RelV d r)(h:∀w' s',Inv X pins σ H s'->RelV (o.getD d) w'->Q w' s') :
  wpAny (model X.prog X.w) A (call (.builtin "dict.get") [.ref a,u,r]) Q E s:=by
 rcases g with ⟨kvs,k,e,ey,l⟩|⟨kvs,k,b,e,ey,eb,l⟩
 ·subst ey
  obtain⟨z,hd,vs,rel,dd⟩:=mL I.hok e
  refine call_meetsIn PySem.F.slot_dict_get dd.typeIs PySem.F.entry_dict_get (PySem.F.args_dict_get_3 _ _ _) (meets_dict_get_default (aO X.prog X.w) a (nW ry) hd r) ⟨_,dd.mapOf,h _ _ (I.tok _) ?_⟩
  rw[l]
  exact(rel.val k).getD rd
 ·subst ey
  cases (show u=Value.ref b from ry)
  obtain⟨z,hd,xs,rel,dd⟩:=nX I.hok e
  refine call_meetsIn PySem.F.slot_dict_get dd.typeIs PySem.F.entry_dict_get (PySem.F.args_dict_get_3 _ _ _) (meetsH_dict_get_default (tupleKind (aO X.prog X.w)) a b hd r) ⟨tupleKind_room_in1 hu,k,xs,lI I.hok eb,dd,h _ _ (I.tok _) ?_⟩
  rw[l]
  exact(rel.val k).getD rd
end
noncomputable def HH(td ty tx:TE):TE:=fun σ H Q=>td σ H fun x H1=>∃a,x=.ref a/\Sd H1 a/\ty σ H1 fun y H2=>tx σ H2 fun z H3=>∃o,jU H3 a y o/\Q (o.getD z) H3
section
variable {X:Cx} {o e f:Expr} {apos cpos:Pos} {td ty tx:TE}
theorem AA(hu:X.A.units+1<cLine)(ho:PE X o td)(he:PE X e ty)(hf:PE X f tx)(m:M2 X o "get" apos e f cpos):PE X (.Call (.Attribute o "get" apos) [e,f] [] cpos) (HH td ty tx):=by
 intro pins s σ H Q I h
 refine wpAny_Call_method m.base m.few m.line PySem.F.plainAttrs_dict PySem.F.slot_dict_get PySem.F.type_dict_get (bZ (ho pins s σ H _ I h) fun u s1 aC=>?_)
 obtain⟨x,H1,I1,rx,a,ex,d,q1⟩:=aC
 subst ex
 obtain rfl:u=Value.ref a:=rx
 obtain⟨t1,t2,_⟩:=vM I1 d
 refine⟨t1,t2,?_⟩
 rw[m.trees]
 refine Calls.callWith_builtin rfl (Calls.evalArgs_plain (Calls.spliced_cons (bZ (he pins s1 σ H1 _ I1 q1) fun iv s2 ⟨y,H2,I2,ry,q2⟩ =>
  Calls.spliced_cons (bZ (hf pins s2 σ H2 _ I2 q2) fun fv s3 ⟨z,H3,I3,rz,ov,g,q3⟩=>Calls.spliced_nil ?_))))
 exact HG hu I3 g ry rz fun w' s4 I4 rw'=>⟨_,H3,I4,rw',q3⟩
end
section
variable {X:Cx} {pins:List (Addr×Obj)} {σ:St} {H:Hp} {s:Shared} {a:Addr} {kvs:List (Key×V)} {A:Around} {E:Value->Shared->Prop}
end
section
variable {X:Cx} {pins:List (Addr×Obj)} {σ:St} {H:Hp} {s:Shared} {a:Addr} {y:V} {u:Value} {A:Around} {E:Value->Shared->Prop}
end
end L2
namespace Se
open PySem PySem.W PySem.Calls PyProof.Rows
theorem m7{P:Params}{h:Heap}:∀(ns:List Int) (vs:List Value),WellAll P h vs (ns.map WData.int)->IntsAre vs ns:=by
 intro ns
 induction ns with
 | nil =>
  intro vs w
  rw[List.map_nil] at w
  cases w
  exact .nil
 | cons n ns ih =>
  intro vs w
  rw[List.map_cons] at w
  cases w with
  | cons a b =>
   cases a
   exact .cons _ _ (ih _ b)
theorem yR{l:OpenLaw}{n:Nat}(hn:l.most=some n){P:Params}{h:Heap}{args:List WData}{vals:List Value}
  (hpre:l.row.toRowW.claim.pre args=true) (hwl:WellAll P h vals args) :
  ∃a vs ns,vals=[Value.ref a]/\args=[WData.list (ns.map WData.int)]/\h.get? a=some { cls:=.type "list",data:=.seq vs.toArray }/\IntsAre vs ns/\ns.length<=n:=by
 have hsh:WShape.hasAll [] args [.list .int]=true:=(pre_splitW hpre).1
 have hc:l.pre.holds [] { args:=args }=true:=(pre_splitW hpre).2
 obtain⟨d,r,rfl,h1,h2⟩:=hasAllW_cons hsh
 obtain rfl:=hasAllW_nil h2
 obtain⟨xs,rfl,h3⟩:=hasW_list h1
 obtain⟨ns,rfl⟩:=items_int h3
 have hlen:ns.length<=n:=by
  unfold OpenLaw.pre at hc
  have h4:(WTm.not (.lt (.lit (.int (n:Int))) (.len (.arg 0)))).holds [] { args:=[.list (ns.map .int)] }=true:=by
   have h4:=(holds_andW hc).1
   rw[hn] at h4
   exact h4
  have h5:=condW_of h4 (w_not (w_lt w_lit (w_len_list (w_arg rfl))))
  rw[List.length_map] at h5
  refine Nat.le_of_not_lt fun q=>?_
  have q':(n:Int)<((ns.length:Nat):Int):=by omega
  first
   | (rw[decide_eq_true q'] at h5;exact absurd h5 (by decide))
   | (simp at h5;omega)
 cases hwl with
 | cons w1 w2 =>
  cases w2
  cases w1 with
  | list ho hall=>exact⟨_,_,ns,rfl,rfl,ho,m7 ns _ hall,hlen⟩
theorem yS(l:OpenLaw)(args:List WData):l.row.toRowW.claim.post args (.bool true) args=true :=
 postW_of (r:=l.row.toRowW) (X:=(true==true))
  (show WShape.has [] (.bool true) .bool=true by first|rfl|decide|simp[WShape.has,WShape.arms,WShape.armsAll])
  (show (WTm.eq .res (.lit (.bool true))).value [] { args:=args,res:=some (.bool true),after:=args }=some (.bool (true==true)) from w_eq_bool (w_res rfl) w_lit) rfl
theorem tK{l:OpenLaw}{n:Nat}{q:Program}{loose:List Str}{XP:(Str->Option Value)->Heap->Prop}{YP:World->Heap->Prop}{d:DefRec}
  (hn:l.most=some n) (hdf:d.params.defaults=[])
  (call:∀(w:World) (s₀ s₁:Shared) (mg mb:Str->Option Value) (fa:Addr) (o:Obj) (pm cd doc:Value) (a:Addr) (vs:List Value) (ns:List Int),
   Ground q loose [] XP w s₀ mg mb s₁.heap->YP w s₁.heap ->
   s₁.heap.get? fa=some o->o.data=.func (docDef d.name d.params d.body d.scope pm cd doc)->s₁.heap.CodeRec cd d.name->mg d.name=some (.ref fa) ->
   s₁.heap.get? a=some { cls:=.type "list",data:=.seq vs.toArray }->IntsAre vs ns->ns.length<=n->s₁.gens = #[] ->
   codeAny (model l.prog w) callerA (.call (.ref fa) ⟨[.ref a],[]⟩) (fun r s'=>r=.ok (.ret (.bool true))/\OldK s₁.heap s'.heap/\s'.os=s₁.os/\AllBare s'.gens) s₁) :
  WalkO q loose XP YP l.row.toRowW d [] (fun f vs=>PySem.call f vs):=by
 intro w s₀ s₁ mg mb G Y fa o pm cd doc dV kV ho hd hcd hD hmg hg args vals as hpre hlay hrd hwl hlo
 obtain rfl:dV=.none:=Dflts.none hD hdf
 obtain rfl:kV=.none:=Dflts.noKw hD
 obtain⟨a,vs,ns,rfl,rfl,hobj,hints,hlen⟩:=yR hn hpre hwl
 refine enter_call (codeAny_mono (call w s₀ s₁ mg mb fa o pm cd doc a vs ns G Y ho (fd_plain hd) hcd hmg hobj hints hlen hg) fun r s' hq=>?_)
 obtain⟨rfl,h2,h3,h4⟩:=hq
 exact⟨.inl ⟨.bool true,.bool true,[],rfl,fun _=>rfl,.bool true,yS l _,fun _=>⟨List.Pairwise.nil,fun _ hm=>(nomatch hm)⟩⟩,h2,h3,h4⟩
section
variable {prog:Program} {w:World} {A:Around} {E:Value->Shared->Prop} {s:Shared} {K:Frag}
noncomputable def ledger(h:Heap)(L d:Addr):List (Addr×Obj):=(List.range h.objs.size).filterMap fun a=>if a=L\/a=d then none else (h.get? a).map fun o=>(a,o)
end
end Se
namespace L2
open PySem PySem.Spec PyProof.Rows
theorem gW:∀{vs:List Value} {ns:List Int},IntsAre vs ns->Vals (ns.map V.int) vs
 | _,_,.nil=>.nil
 | _,_,.cons n t h=>.cons ⟨t,rfl⟩ (gW h)
noncomputable def AB(H:Hp):Prop:=∀b,H b=none\/∃o xs,H b=some (.iZ o (.lst xs))
theorem AD{P:Program}{w:World}{K:PySem.W.Frag}{mg mb:Str->Option Value}{CX:yM}{k:Nat}{fa a:Addr}{fd:FuncData}{x:Str}{sp:Sp}{s₁:Shared}{vs:List Value}{ns:List Int}
  (KX:K.In s₁.heap) (hns:s₁.heap.Ns mainGlobals mg) (hb:s₁.heap.Ns builtinsNs mb) (Ub:∀x:Str,x ≠ "__name__" -> mb x=bootBuiltins x) (hlim:s₁.heap.NoLimit) (hg:s₁.gens = #[])
  (ha:s₁.heap.get? a=some { cls:=.type "list",data:=.seq vs.toArray }) (hi:IntsAre vs ns) (hl:ns.length<=sizeLine) (hr:cX k callerA)
  (F:∀base:Heap,K.In base->base.Ns mainGlobals mg->eW P w K mg base CX k fa fd [x] sp) (hbind:∀(s:Shared) (u:Value),BindsTo s fd ⟨[u],[]⟩ [(x,u)])
  (hsp:∀H:Hp,AB H->fO K H a (ns.map V.int)->sp [.ref a] H (fun v _=>v=.bl true) fun _ _ _=>False)
  (hCX:∀H e s',CX [] H s₁ (fun _ _ _=>False) e s'->False) :
  codeAny (model P w) callerA (.call (.ref fa) ⟨[.ref a],[]⟩) (fun r s'=>r=.ok (.ret (.bool true))/\OldK s₁.heap s'.heap/\s'.os=s₁.os/\AllBare s'.gens) s₁:=by
 have rv:=gW hi
 have Pj:=hi.length
 have core:∀H:Hp,AB H->fO K H a (ns.map V.int)->kg P w H s₁.heap->(∀b,H b≠none->b=a)->(H a≠none->K.lookup a=none) ->
   codeAny (model P w) callerA (.call (.ref fa) ⟨[.ref a],[]⟩) (fun r s'=>r=.ok (.ret (.bool true))/\OldK s₁.heap s'.heap/\s'.os=s₁.os/\AllBare s'.gens) s₁:=by
  intro H hO hS hok hA hK
  have base_of:∀{b:Addr} {o:Obj},s₁.heap.get? b=some o->H b=none->(qZ s₁.heap H).get? b=some o:=fun e n=>z6 e n
  have noA:∀{b:Addr} {o:Obj} {es:Array DictEntry} {ep:Nat},s₁.heap.get? b=some o->o.data=.dict es ep->H b=none:=fun {b o es ep} e d=>by
   cases q:H b with
   | none=>rfl
   | some u =>
    have e':b=a:=hA b (by rw[q];simp)
    subst e'
    rw[ha] at e;cases e
    have d':Data.seq vs.toArray _=Data.dict es ep:=d
    cases d'
  have nsK:∀{b:Addr} {m:Str->Option Value},s₁.heap.Ns b m->(qZ s₁.heap H).Ns b m:=fun {b m} ⟨o,es,ep,e,d,r⟩=>⟨o,es,ep,base_of e (noA e d),d,r⟩
  have Sf:K.In (qZ s₁.heap H):=fun b o e=>base_of (KX b o e) (by
   cases q:H b with
   | none=>rfl
   | some u =>
    have e':b=a:=hA b (by rw[q];simp)
    subst e'
    rw[hK (by rw[q];simp)] at e;cases e)
  have hM:Mod K mg (qZ s₁.heap H):=⟨Sf,nsK hns,⟨mb,nsK hb,Ub⟩,let ⟨mc,h1,h2⟩:=hlim;⟨mc,nsK h1,h2⟩⟩
  have e0:vG P w K mg (qZ s₁.heap H) callerA [] s₁ H:=⟨rfl,hM,fun b o e=>CY e,Nat.le_of_eq (yz _ _),trivial,fun b hb=>absurd (show b∈([]:List Addr) from hb) (by simp),hok,.of_eq hg⟩
  refine codeAny_mono ((F _ Sf (nsK hns)).run callerA [] s₁ H ⟨[.ref a],[]⟩ [.ref a] [.ref a] _ _ hr e0 (hbind s₁ (.ref a)) (.cons rfl .nil) (hsp H hO hS)) fun r s' h=>?_
  cases r with
  | error e=>exact(hCX H e s' h).elim
  | ok fl =>
   cases fl with
   | next=>exact False.elim h
   | brk=>exact False.elim h
   | cont=>exact False.elim h
   | ret u =>
    obtain⟨v,H',os,bare,un,Pk,r',q⟩:=h
    have q':v=.bl true:=q
    subst q'
    obtain rfl:u=Value.bool true:=r'
    refine⟨rfl,OldK.of_keep fun b o e=>?_,os,bare⟩
    cases q:H b with
    | none=>exact un.keep b o e q (by intro z;exact absurd (show b∈([]:List Addr) from z) (by simp)) (by simp)
    | some u =>
     rcases hO b with z|⟨ob,xs,z⟩
     ·rw[q] at z;cases z
     ·have z2:=un.frzs b ob _ z
      obtain⟨e1,_⟩:=hok b _ z
      obtain⟨e2,_⟩:=Pk b _ z2
      rw[e] at e1;cases e1
      exact e2
 cases hk:K.lookup a with
 | some o =>
  have e:=KX a o hk
  rw[ha] at e
  cases e
  refine core (fun _=>none) (fun _=>.inl rfl) (.inr ⟨_,vs.toArray,_,hk,rfl,rfl,rfl,by rw[List.size_toArray,Pj];exact hl,by simpa using rv⟩) (fun b u z=>by have z':(none:Option HO)=some u:=z;cases z') (fun b z=>absurd rfl z) fun z=>absurd rfl z
 | none =>
  refine core (fun b=>if b=a then some (.iZ { cls:=.type "list",data:=.seq vs.toArray } (.lst (ns.map V.int))) else none) (fun b=>?_) (.inl (.inr ⟨{ cls:=.type "list",data:=.seq vs.toArray },if_pos rfl⟩)) (fun b u z=>?_) (fun b z=>?_) fun _=>hk
  ·by_cases hb:b=a
   ·exact .inr ⟨_,_,if_pos hb⟩
   ·exact .inl (if_neg hb)
  ·by_cases hb:b=a
   ·have z':=(if_pos hb).symm.trans z
    cases z'
    subst hb
    exact⟨ha,by rw[List.length_map];exact hl,vs,_,rv,ha⟩
   ·have z':=(if_neg hb).symm.trans z
    cases z'
  ·by_cases hb:b=a
   ·exact hb
   ·exact absurd (if_neg hb) z
end L2
namespace L2
open PySem PySem.Spec PyProof.Rows
theorem DS{l:PySem.W.OpenLaw}{n k:Nat}{q:Program}{loose:List Str}{XP:(Str->Option Value)->Heap->Prop}{YP:World->Heap->Prop}{d:DefRec}{K:Params->PySem.W.Frag}{CX:World->yM}{sp:World->Sp}{x:Str}
  (hn:l.most=some n) (hn2:n<=sizeLine) (hdf:d.params.defaults=[]) (hr:cX k callerA)
  (hY:∀(w:World) (h:Heap),YP w h->(K w.params).In h)
  (F:∀(w:World) (mg:Str->Option Value) (fa:Addr) (h:Heap),(K w.params).In h->h.Ns mainGlobals mg->mg d.name=some (.ref fa) ->
   ∃fd:FuncData,(∀(s:Shared) (u:Value),BindsTo s fd ⟨[u],[]⟩ [(x,u)]) /\
    ∀base:Heap,(K w.params).In base->base.Ns mainGlobals mg->eW l.prog w (K w.params) mg base (CX w) k fa fd [x] (sp w))
  (hsp:∀(w:World) (H:Hp) (a:Addr) (ns:List Int),ns.length<=n->AB H->fO (K w.params) H a (ns.map V.int)->sp w [.ref a] H (fun v _=>v=.bl true) fun _ _ _=>False)
  (hCX:∀(w:World) (H:Hp) (s:Shared) (e:Value) (s':Shared),CX w [] H s (fun _ _ _=>False) e s'->False) :
  PySem.W.WalkO q loose XP YP l.row.toRowW d [] (fun f vs=>PySem.call f vs):=by
 refine Se.tK hn hdf fun w s₀ s₁ mg mb fa o pm cd doc a vs ns G Y ho hd hcd hmg hobj hints hlen hg=>?_
 have KX:=hY w _ Y
 obtain⟨fd,hb,hF⟩:=F w mg fa _ KX G.T.g hmg
 exact AD KX G.T.g G.T.b G.T.builtins G.T.nolimit hg hobj hints (Nat.le_trans hlen hn2) hr hF hb (fun H hO hS=>hsp w H a ns hlen hO hS) fun H e s'=>hCX w H s₁ e s'
end L2
namespace L2
open PySem PySem.Spec PyProof.Rows
noncomputable def aY(s:Stmt):Arguments:=match s with
 | .FunctionDef _ a _ _ _ _ _ _ _ _=>a
 | _=>{ posonlyargs:=[],args:=[],vararg:=none,kwonlyargs:=[],kw_defaults:=[],kwarg:=none,defaults:=[] }
noncomputable def av(s:Stmt):List Stmt:=match s with
 | .FunctionDef _ _ b _ _ _ _ _ _ _=>b
 | _=>[]
noncomputable def ah(s:Stmt):Scope:=match s with
 | .FunctionDef _ _ _ _ _ _ sc _ _ _=>sc
 | _=>{ kind:=.function,names:=[],isGenerator:=false,isCoroutine:=false }
noncomputable abbrev ve:yM:=fun _ _ _ _ _ _=>False
noncomputable abbrev E0:XK:=fun _ _ _=>False
theorem nZ{X:Cx}:Passes ve X E0:=fun _ _ _ _ _ _ _ h=>h.elim
structure DT (K:PySem.W.Frag) (x qual:Str) (st:Stmt) (f:Addr) (fd:FuncData):Prop where
 ex:∃(oc:Value) (od:Option Addr) (kV doc pm:Value) (an:Option Addr) (cdv ct:Value) (osl:Array (Option Value)),
  fd=PySem.W.fnOf x qual (aY st) (av st) (ah st) .none kV doc pm an cdv ct/\K.lookup f=some ⟨oc,od,.func fd,osl⟩/\PySem.W.codeIn K cdv qual=true
 kp:PySem.W.keepIn K (.ref f)=true
section
variable {P:Program} {w:World} {K:PySem.W.Frag} {mg:Str->Option Value} {base:Heap}
theorem DT.ok{x qual:Str}{st:Stmt}{f:Addr}{fd:FuncData}{N ps:List Str}{k:Nat}{sp:Sp}(F:DT K x qual st f fd)(S:nu N ps (ah st))(len:∀vs H Q E,sp vs H Q E->vs.length=ps.length)
  (hbody:∀(cdv:Value) (A:Around) (outer:List Env) (s:Shared) (H:Hp) (vs:List V) (Q:VK) (E:XK),cX k (A.deeper (envOfC qual (ah st) s.heap.objs.size f cdv))->sp vs H Q E ->
   ∃t,vj (vH ve P w K mg base N qual (ah st) f cdv A outer s H E).K7 (av st) t/\t { nx:=fun _ H'=>Q .non H',rt:=Q } (start N vs) H):eW P w K mg base ve (k+1) f fd ps sp:=by
 obtain⟨oc,od,kV,doc,pm,an,cdv,ct,osl,rfl,lk,hcd⟩:=F.ex
 refine Lu lk hcd S len fun A outer s H vs Q E hr hsp=>?_
 obtain⟨t,h,q⟩:=hbody cdv A outer s H vs Q E hr hsp
 exact⟨t,h.K7,q⟩
theorem DT.binds{x qual:Str}{st:Stmt}{f:Addr}{fd:FuncData}{ps:List Str}(F:DT K x qual st f fd)
  (h:∀(kV doc pm:Value) (an:Option Addr) (cdv ct:Value) (us:List Value),us.length=ps.length->bindArgs (PySem.W.fnOf x qual (aY st) (av st) (ah st) .none kV doc pm an cdv ct) ⟨us,[]⟩=pure (ps.zip us)):Binds K fd ps []:=by
 obtain⟨oc,od,kV,doc,pm,an,cdv,ct,osl,rfl,lk,hcd⟩:=F.ex
 exact .all (h kV doc pm an cdv ct)
theorem cE{x qual:Str}{st:Stmt}{f:Addr}{oc:Value}{od an:Option Addr}{osl:Array (Option Value)}{kV doc pm cdv ct:Value}(l:K.lookup f=some ⟨oc,od,.func (PySem.W.fnOf x qual (aY st) (av st) (ah st) .none kV doc pm an cdv ct),osl⟩)
  (c:PySem.W.codeIn K cdv qual=true) (k:PySem.W.keepIn K (.ref f)=true):DT K x qual st f (PySem.W.fnOf x qual (aY st) (av st) (ah st) .none kV doc pm an cdv ct):=⟨⟨oc,od,kV,doc,pm,an,cdv,ct,osl,rfl,l,c⟩,k⟩
end
section
variable {X:Cx}
theorem yT:cJ X (.builtin "len") (fun xs H Q=>∃a kvs,xs=[V.ref a]/\H a=some (.dK kvs)/\Q (.int kvs.length) H):=by
 intro pins s σ H xs us Q I r h
 obtain⟨a,kvs,rfl,ha,q⟩:=h
 obtain⟨u,rfl,ru⟩:=vals1 r
 cases ru
 exact LC I (.inl ha) fun t s' I'=>⟨.int kvs.length,H,I',⟨t,rfl⟩,q⟩
end
noncomputable def vN(H H':Hp):Prop:=∀b o,H b=some o->H' b=some o
theorem vN.seq{K:PySem.W.Frag}{H H':Hp}{a:Addr}{xs:List V}(e:vN H H')(h:fO K H a xs):fO K H' a xs:=by
 rcases h with (h|⟨o,h⟩)|h
 ·exact .inl (.inl (e _ _ h))
 ·exact .inl (.inr ⟨o,e _ _ h⟩)
 ·exact .inr h
section
variable {κ:Type} [DecidableEq κ]
end
end L2
end
section
namespace L2
open PySem PySem.Spec PyProof.Rows
theorem ki(env:Env):∀(names:List (Str×NameKind)) (acc:List (Str×Addr)),(∀y∈names,y.2=.free->∃c,env.cells.lookup y.1=some c) ->
  (∀x c,acc.lookup x=some c->env.cells.lookup x=some c) ->
  ∃cl,(forIn names acc fun x r=>if (x.snd==NameKind.free)=true then do let c <-cellOf env x.fst;pure (ForInStep.yield ((x.fst,c)::r)) else pure (ForInStep.yield r))=(pure cl:Sem (List (Str×Addr))) /\
   (∀x c,cl.lookup x=some c->env.cells.lookup x=some c)/\∀x,((x,NameKind.free)∈names\/∃c,acc.lookup x=some c)->∃c,cl.lookup x=some c
 | [],acc,_,ha=>⟨acc,rfl,ha,fun x h=>h.elim (fun z=>nomatch z) fun z=>z⟩
 | (n,k)::r,acc,hn,ha=>by
  have hr:∀y∈r,y.2=NameKind.free->∃c,env.cells.lookup y.1=some c:=fun y hy=>hn y (List.mem_cons_of_mem _ hy)
  by_cases hk:k=.free
  ·subst hk
   obtain⟨c,hc⟩:=hn (n,.free) List.mem_cons_self rfl
   have ha':∀x d,((n,c)::acc).lookup x=some d->env.cells.lookup x=some d:=fun x d h=>by
    rw[List.lookup_cons] at h
    cases e:x==n with
    | true =>
     rw[e] at h
     have e':x=n:=eq_of_beq e
     cases h
     rw[e'];exact hc
    | false=>rw[e] at h;exact ha x d h
   obtain⟨cl,e1,e2,e3⟩:=ki env r ((n,c)::acc) hr ha'
   refine⟨cl,?_,e2,fun x h=>?_⟩
   ·rw[List.forIn_cons]
    have hco:cellOf env n=pure c:=by unfold cellOf;rw[hc]
    simp only[beq_self_eq_true,if_true,hco]
    exact e1
   ·by_cases hx:x=n
    ·subst hx
     exact e3 x (.inr ⟨c,by simp[List.lookup_cons]⟩)
    ·rcases h with h|⟨d,h⟩
     ·rcases List.mem_cons.mp h with z|z
      ·exact absurd (congrArg Prod.fst z) hx
      ·exact e3 x (.inl z)
     ·refine e3 x (.inr ⟨d,?_⟩)
      rw[List.lookup_cons]
      have:(x==n)=false:=beq_eq_false_iff_ne.mpr hx
      rw[this];exact h
  ·have hb:(k==NameKind.free)=false:=beq_eq_false_iff_ne.mpr hk
   obtain⟨cl,e1,e2,e3⟩:=ki env r acc hr ha
   refine⟨cl,?_,e2,fun x h=>e3 x ?_⟩
   ·rw[List.forIn_cons]
    simp only[hb,Bool.false_eq_true,if_false]
    exact e1
   ·rcases h with h|h
    ·rcases List.mem_cons.mp h with z|z
     ·cases z;exact absurd rfl hk
     ·exact .inl z
    ·exact .inr h
theorem n5{scope:Scope}{env:Env}(h:∀y∈scope.names,y.2=.free->∃c,env.cells.lookup y.1=some c) :
  ∃cl,closureFor scope env=pure cl/\(∀x c,cl.lookup x=some c->env.cells.lookup x=some c)/\∀x,(x,NameKind.free)∈scope.names->∃c,cl.lookup x=some c:=by
 obtain⟨cl,e1,e2,e3⟩:=ki env scope.names [] h (fun x c z=>by simp at z)
 refine⟨cl,?_,e2,fun x hx=>e3 x (.inl hx)⟩
 unfold closureFor
 simp only[bind_pure]
 exact e1
noncomputable def bg(X:Cx)(scope:Scope)(N':List Str)(cl:List (Str×Addr))(C:Addr)(s:Shared)(H:Hp)(fp:List Addr):Cx :=
 { prog:=X.prog,w:=X.w,K:=X.K,mg:=X.mg,base:=X.base,A:=X.A,N:=N',s₀:=s,H₀:=H,env:=compEnvC scope cl C X.env,outer:=X.stack,stack:=X.stack,ex:=fp,fn:=fun _=>false,calm:=X.calm,pn:=[],xe:=fun _ _=>False }
noncomputable def fZ(js:List (Option Nat))(σ:St):St:=js.map fun o=>match o with
 | none=>none
 | some j=>match σ[j]? with
  | some (some v)=>some v
  | _=>none
noncomputable def rL(sc:Scope)(x:Str):Bool:=sc.names.lookup x==some .cell||sc.names.lookup x==some .free
noncomputable def fR(XN:List Str)(xsc scope:Scope)(N':List Str)(js:List (Option Nat)):Bool :=
 scope.kind==.function&&(scope.names.all fun y=>y.2 != .local||scope.names.lookup y.1==some .local)&&(scope.names.all fun y=>y.2 != .cell) &&
 (scope.names.all fun y=>y.2 != .free||(rL xsc y.1&&scope.names.lookup y.1==some .free))&&js.length==N'.length &&
 ((N'.zip js).all fun p=>match p.2 with|none=>true|some j=>XN[j]?==some p.1&&scope.names.lookup p.1==some .free)
structure rM (X:Cx) (scope:Scope) (N':List Str) (js:List (Option Nat)):Prop where
 kind:scope.kind=.function
 names:∀y∈scope.names,y.2=.local->scope.names.lookup y.1=some .local
 AE:∀y∈scope.names,y.2≠.cell
 free:∀y∈scope.names,y.2=.free->rL X.env.scope y.1=true/\scope.names.lookup y.1=some .free
 len:js.length=N'.length
 src:∀(i:Nat) (x:Str) (j:Nat),N'[i]?=some x->js[i]?=some (some j)->X.N[j]?=some x/\scope.names.lookup x=some .free
theorem qu{X:Cx}{scope:Scope}{N':List Str}{js:List (Option Nat)}(h:fR X.N X.env.scope scope N' js=true):rM X scope N' js:=by
 unfold fR at h
 simp only[Bool.and_eq_true,List.all_eq_true] at h
 obtain⟨⟨⟨⟨⟨h1,h2⟩,h3⟩,h4⟩,h5⟩,h6⟩:=h
 refine⟨eq_of_beq h1,fun y hy e=>?_,fun y hy e=>?_,fun y hy e=>?_,eq_of_beq h5,fun i x j e1 e2=>?_⟩
 ·have:=h2 y hy
  rw[e] at this
  simpa using this
 ·have:=h3 y hy
  rw[e] at this
  simp at this
 ·have:=h4 y hy
  rw[e] at this
  simpa using this
 ·have hm:(x,some j)∈N'.zip js:=by
   refine List.mem_iff_getElem?.mpr ⟨i,?_⟩
   rw[List.getElem?_zip_eq_some]
   exact⟨e1,e2⟩
  have:=h6 _ hm
  simpa using this
theorem gE(js:List (Option Nat))(σ:St):(fZ js σ).length=js.length:=by unfold fZ;rw[List.length_map]
noncomputable def CO(X:Cx)(ifs:List Expr)(t:TT):Prop :=
 ∀(pins:List (Addr×Obj)) (s:Shared) (σ:St) (H:Hp) (Q:Bool->Hp->Prop),Inv X pins σ H s->t σ H Q ->
  wpAny (model X.prog X.w) X.A (forIn ifs true fun c r=>if r=true then do let ok <-isTrue c X.env (eval c X.env);pure (ForInStep.yield ok) else pure (ForInStep.yield r)) (TP X pins σ Q) X.xe s
noncomputable def tL:TT:=fun _ H Q=>Q true H
theorem DU{X:Cx}:CO X [] tL:=fun _ _ _ H _ I h=>wpAny_tests_nil ⟨H,I,h⟩
theorem xm{X:Cx}{c:Expr}{t:TT}(h:PT X c t):CO X [c] t:=fun pins s σ H Q I hw=>wpAny_tests_one (h pins s σ H Q I hw)
noncomputable def tM(wi:TI)(js:List (Option Nat))(g:TG)(tt:TT)(te:TE):TE:=fun σ H Q=>wi σ H fun J H1=>∀D,H1 D=none->∃W:Nat->Nat->St->Hp->Prop,(∃m,W 0 m (fZ js σ) (upd H1 D (.lst []))) /\
 ∀i m σ' H,W i m σ' H->(J.stop i H/\Q (.ref D) H)\/(J.go i H/\∃N:St->Hp->Prop,(∀yU H',N yU H'->∃m',m'<m/\W (i+1) m' yU H') /\
  ∀x H',J.vo i H x H'->g x σ' H' fun σ2 H2=>tt σ2 H2 fun b H3=>if b=true then te σ2 H3 fun y H4=>∃ys,H4 D=some (.lst ys)/\ys.length<sizeLine/\N σ2 (upd H4 D (.lst (ys++[y]))) else N σ2 H3)
theorem pZ{scope:Scope}{env:Env}{x:Str}(hc:∀y∈scope.names,y.2≠.cell)
  (h:(relabel scope env).names.lookup x=some .cell\/(relabel scope env).names.lookup x=some .free):(x,NameKind.free)∈scope.names:=by
 unfold relabel at h
 simp only at h
 generalize scope.names=ns at hc h
 induction ns with
 | nil=>simp at h
 | cons p r ih =>
  obtain⟨n,k⟩:=p
  have hc':∀y∈r,y.2≠.cell:=fun y hy=>hc y (List.mem_cons_of_mem _ hy)
  simp only[List.map_cons] at h
  cases hx:x==n with
  | true =>
   have e':x=n:=eq_of_beq hx
   subst e'
   by_cases hk:k=.free
   ·subst hk;exact List.mem_cons_self
   ·have hk2:=hc (x,k) List.mem_cons_self
    have hb:(k==NameKind.free)=false:=beq_eq_false_iff_ne.mpr hk
    rw[hb] at h
    simp only[Bool.false_and,Bool.false_eq_true,if_false,List.lookup_cons,beq_self_eq_true] at h
    rcases h with h|h
    ·exact absurd (Option.some.inj h) hk2
    ·exact absurd (Option.some.inj h) hk
  | false =>
   refine List.mem_cons_of_mem _ (ih hc' ?_)
   by_cases hk:(k==NameKind.free&&env.scope.kind==.function&&env.kindOf n==some .cell)=true
   ·rw[if_pos hk] at h
    simp only[List.lookup_cons,hx] at h
    exact h
   ·rw[if_neg hk] at h
    simp only[List.lookup_cons,hx] at h
    exact h
theorem rN{scope:Scope}{env:Env}{x:Str}(h:scope.names.lookup x=some .free) :
  (relabel scope env).names.lookup x=some .cell\/(relabel scope env).names.lookup x=some .free:=by
 unfold relabel
 simp only
 generalize scope.names=ns at h
 induction ns with
 | nil=>simp at h
 | cons p r ih =>
  obtain⟨n,k⟩:=p
  simp only[List.map_cons]
  cases hx:x==n with
  | true =>
   simp only[List.lookup_cons,hx] at h
   have hk:=Option.some.inj h
   subst hk
   by_cases hk:(NameKind.free==NameKind.free&&env.scope.kind==.function&&env.kindOf n==some .cell)=true
   ·rw[if_pos hk];simp[List.lookup_cons,hx]
   ·rw[if_neg hk];simp[List.lookup_cons,hx]
  | false =>
   simp only[List.lookup_cons,hx] at h
   by_cases hk:(k==NameKind.free&&env.scope.kind==.function&&env.kindOf n==some .cell)=true
   ·rw[if_pos hk];simp only[List.lookup_cons,hx];exact ih h
   ·rw[if_neg hk];simp only[List.lookup_cons,hx];exact ih h
section
variable {X:Cx} {pins:List (Addr×Obj)} {σ:St} {scope:Scope} {N':List Str} {js:List (Option Nat)}
theorem n6(ok:rM X scope N' js)(xo:X.Ok):∀y∈scope.names,y.2=.free->∃c,X.env.cells.lookup y.1=some c:=fun y hy e=>by
 have:=(ok.free y hy e).1
 unfold rL at this
 rw[Bool.or_eq_true] at this
 refine xo.has y.1 ?_
 rcases this with z|z
 ·exact .inl (eq_of_beq z)
 ·exact .inr (eq_of_beq z)
theorem vO{H:Hp}{s:Shared}{cl:List (Str×Addr)}{fp:List Addr}{h':Heap}{tk:Nat}(ok:rM X scope N' js)(I:Inv X pins σ H s)
  (hcl1:∀x c,cl.lookup x=some c->X.env.cells.lookup x=some c) (hcl2:∀x,(x,NameKind.free)∈scope.names->∃c,cl.lookup x=some c)
  (hfp:∀b∈fp,mZ X pins H b) (hlt:∀b∈fp,b<s.heap.objs.size)
  (hns:h'.Ns s.heap.objs.size (fun _=>none)) (hk:∀b o,s.heap.get? b=some o->h'.get? b=some o) :
  Inv (bg X scope N' cl s.heap.objs.size s H fp) [] (fZ js σ) H { s with heap:=h',toks:=tk }:=by
 have cellK:∀x c,cl.lookup x=some c->∃v,s.heap.IsCell c v:=fun x c e=>I.cell x c (hcl1 x c e)
 have hCf:H s.heap.objs.size=none:=I.hok.fresh (Nat.le_refl _)
 refine⟨⟨I.ok.mod,ok.kind,I.ok.glob,I.ok.blt,Nat.le_refl _,fun x y c e1 e2=>I.ok.inj x y c (hcl1 x c e1) (hcl1 y c e2),fun x hx=>hcl2 x (pZ ok.AE hx),fun x c hf _=>absurd hf (by intro z;cases z),I.ok.hd,I.ok.frames,.inl rfl,
   fun b hb=>⟨Nat.ne_of_lt (hlt b hb),fun x c e z=>?_⟩,I.bs,Nat.le_trans I.ok.FE I.sz,fun b o e hb=>?_,fun b hb hs=>?_,I.stack,I.wR⟩,rfl,I.bare,Un.kept hk,⟨_,hns,fun i x v e1 e2 e3=>?_⟩,fun x c e=>?_,hCf,fun x c e=>I.gu x c (hcl1 x c e),
   fun p hp=>absurd (show p∈([]:List (Addr×Obj)) from hp) (by simp),I.hok.kept hk,?_⟩
 ·exact(hfp b hb).2.2.2.2.1 x c (hcl1 x c e) z
 ·rcases(hfp b hb).2.2.2.1 with z|z
  ·exact I.ok.kh b o e z
  ·exact absurd (Nat.lt_of_lt_of_le (Heap.lt_size (I.ok.bs b o e).1) z) (Nat.lt_irrefl _)
 ·rcases List.mem_cons.mp (I.vh b hs) with z|z
  ·exact(hfp b hb).2.1 z
  ·exact(hfp b hb).2.2.1 z
 ·-- a name Uc has a value: one of the def around
  have CP:(fZ js σ)[i]?=some (some v):=e2
  unfold fZ at CP
  rw[List.getElem?_map] at CP
  cases hj:js[i]? with
  | none=>rw[hj] at CP;cases CP
  | some o =>
   rw[hj] at CP
   cases o with
   | none=>simp at CP
   | some j =>
    obtain⟨hN,hf⟩:=ok.src i x j e1 hj
    cases hs:σ[j]? with
    | none=>simp[hs] at CP
    | some ov =>
     cases ov with
     | none=>simp[hs] at CP
     | some v' =>
      simp[hs] at CP
      subst CP
      have hfr:=(ok.free (x,.free) (PySem.mem_of_lookup hf) rfl).1
      unfold rL at hfr
      rw[Bool.or_eq_true] at hfr
      have LF:X.env.scope.names.lookup x=some .cell\/X.env.scope.names.lookup x=some .free:=hfr.imp eq_of_beq eq_of_beq
      obtain⟨m,_,hl⟩:=I.loc
      obtain⟨u,r,l⟩:=hl j x v' hN hs (.inr LF)
      refine⟨u,r,.inr ⟨rN hf,?_⟩⟩
      rcases l with ⟨k,_⟩|⟨_,c,e,z⟩
      ·have k':X.env.scope.names.lookup x=some .local:=k
       rcases LF with q|q<;>(rw[q] at k';cases k')
      ·obtain⟨d,hd⟩:=hcl2 x (PySem.mem_of_lookup hf)
       have e':=hcl1 x d hd
       rw[e] at e';cases e'
       obtain⟨oc,hoc,z8⟩:=z
       exact⟨c,hd,oc,hk _ _ hoc,z8⟩
 ·obtain⟨v,oc,hoc,z8⟩:=cellK x c e
  exact⟨v,oc,hk _ _ hoc,z8⟩
 ·rw[gE];exact ok.len
theorem yV{H H':Hp}{s s':Shared}{cl:List (Str×Addr)}{fp:List Addr}{C:Addr}{σ':St}(I:Inv X pins σ H s)(hfp:∀b∈fp,mZ X pins H b)
  (J:Inv (bg X scope N' cl C s H fp) [] σ' H' s'):Inv X pins σ H' s' :=
 I.K1 (ch:=fp) J.os J.base J.hok J.bare fun b hb=>⟨(hfp b hb).2.2.2.1,(hfp b hb).2.1,(hfp b hb).2.2.2.2.1,(hfp b hb).2.2.2.2.2⟩
end
section
variable {X:Cx} {scope:Scope} {N':List Str} {js:List (Option Nat)} {tg elt iter:Expr} {ifs:List Expr} {pos:Pos} {wi:TI} {g:TG} {tt:TT} {te:TE}
theorem tN{pins:List (Addr×Obj)}{σ:St}{H2:Hp}{s2:Shared}{it:Addr}{fp:List Addr}{tn:Nat->Heap->Prop}{J:It}{cl:List (Str×Addr)}{E:Value->Shared->Prop}{RR:Value->Addr->Result->Shared->Prop}{Q:VK}
  (ok:rM X scope N' js) (hc:X.calm=true) (I2:Inv X pins σ H2 s2) (T:Turn X.prog X.w X.K tg J fp it tn) (st2:tn 0 s2.heap) (f2:∀b∈fp,mZ X pins H2 b)
  (hcl1:∀x c,cl.lookup x=some c->X.env.cells.lookup x=some c) (hcl2:∀x,(x,NameKind.free)∈scope.names->∃c,cl.lookup x=some c)
  (hg:∀cl C s H fp,PG (bg X scope N' cl C s H fp) tg g) (ht:∀cl C s H fp,CO (bg X scope N' cl C s H fp) ifs tt) (he:∀cl C s H fp,PE (bg X scope N' cl C s H fp) elt te)
  (rd:∀D,H2 D=none->∃W:Nat->Nat->St->Hp->Prop,(∃m,W 0 m (fZ js σ) (upd H2 D (.lst []))) /\
   ∀i m σ' H,W i m σ' H->(J.stop i H/\Q (.ref D) H)\/(J.go i H/\∃N:St->Hp->Prop,(∀yU H',N yU H'->∃m',m'<m/\W (i+1) m' yU H') /\
    ∀x H',J.vo i H x H'->g x σ' H' fun σ2 H2=>tt σ2 H2 fun b H3=>if b=true then te σ2 H3 fun y H4=>∃ys,H4 D=some (.lst ys)/\ys.length<sizeLine/\N σ2 (upd H4 D (.lst (ys++[y]))) else N σ2 H3))
  (hRR:∀(D C:Addr) (s':Shared) (H':Hp) (m:Str->Option Value),s2.heap.objs.size<=C->Inv X pins σ H' s'->H' C=none->s'.heap.Ns C m->Q (.ref D) H'->RR (.ref D) C (.ok .next) s') :
  wpAny (model X.prog X.w) X.A (newList []) (fun acc s₃=>wpAny (model X.prog X.w) X.A (newFunctionEnv scope X.env.globals cl [] X.env.qual none .none (some X.env)) (fun cenv s₄ =>
   codeAny (model X.prog X.w) X.A (.compStart (.ListComp elt [⟨tg,iter,ifs,0⟩] scope pos) 0 (.ref it) acc { cenv with scope:=relabel scope X.env }) (RR acc cenv.locals) s₄) E s₃) E s2:=by
 have hD:H2 s2.heap.objs.size=none:=I2.hok.fresh (Nat.le_refl _)
 refine wpAny_newObj_type (wpAny_newFunctionEnv ok.AE (by intro y hy;simp at hy) (fun h₁ LG LH=>?_) ok.kind)
 dsimp only at LG LH |-
 have I3:Inv X pins σ (upd H2 s2.heap.objs.size (.lst [])) { s2 with heap:=s2.heap.push { cls:=.type "list",dict:=none,data:=.seq ([]:List Value).toArray },toks:=s2.toks } :=
  I2.laid (t':=s2.toks) (fun b u e=>Heap.get?_push_of_some _ e) (Nat.le_refl _) ⟨by simp,[],0,.nil,Heap.get?_push_size _ rfl⟩
 generalize LI:({ s2 with heap:=s2.heap.push { cls:=.type "list",dict:=none,data:=.seq ([]:List Value).toArray },toks:=s2.toks }:Shared)=s3 at I3
 have hsz:s3.heap.objs.size=s2.heap.objs.size+1:=by rw[<-LI];exact Heap.size_push ..
 have eC:(s2.heap.push { cls:=.type "list",dict:=none,data:=.seq ([]:List Value).toArray }).objs.size=s3.heap.objs.size:=by rw[<-LI]
 have f3:∀b∈fp,mZ X pins (upd H2 s2.heap.objs.size (.lst [])) b:=fun b hb=>by
  obtain⟨o,e,_⟩:=T.obj _ _ st2 b hb
  refine⟨?_,(f2 b hb).2⟩
  rw[ak (Nat.ne_of_lt (Heap.lt_size e))]
  exact(f2 b hb).1
 have hlt:∀b∈fp,b<s3.heap.objs.size:=fun b hb=>by
  obtain⟨o,e,_⟩:=T.obj _ _ st2 b hb
  have hb2:b<s2.heap.objs.size:=Heap.lt_size e
  rw[hsz]
  exact Nat.lt_succ_of_lt hb2
 have keep:∀b o,s3.heap.get? b=some o->h₁.get? b=some o:=fun b o e=>by
  have e':(s2.heap.push { cls:=.type "list",dict:=none,data:=.seq ([]:List Value).toArray }).get? b=some o:=by rw[<-LI] at e;exact e
  exact LH.extBut b o (Nat.ne_of_lt (Heap.lt_size e')) (Heap.get?_push_of_some _ e')
 have I4:=vO (tk:=s2.toks+([]:List (Str×Value)).length) ok I3 hcl1 hcl2 f3 hlt (h':=h₁) (by rw[<-eC];simpa using LG) keep
 have Sg:tn 0 h₁:=T.keep _ _ _ st2 fun b hb o e=>keep b o (by rw[<-LI];exact Heap.get?_push_of_some _ e)
 obtain⟨W,⟨m0,w0⟩,turn⟩:=rd _ hD
 have stat:∀{H':Hp},(∀b∈fp,H' b=none)->∀b∈fp,mZ (bg X scope N' cl s3.heap.objs.size s3 (upd H2 s2.heap.objs.size (.lst [])) fp) [] H' b:=fun {H'} hn b hb =>
  ⟨hn b hb,Nat.ne_of_lt (hlt b hb),I4.ok.z7 b hb,.inl hb,(I4.ok.OG b hb).2,fun p hp=>absurd (show p∈([]:List (Addr×Obj)) from hp) (by simp)⟩
 have Ud:∀tk,({ s2 with heap:=h₁,toks:=tk }:Shared)={ s3 with heap:=h₁,toks:=tk }:=fun tk=>by rw[<-LI]
 have loop:codeAny (model X.prog X.w) X.A (.compLoop (.ListComp elt [⟨tg,iter,ifs,0⟩] scope pos) 0 (.ref it) (.ref s2.heap.objs.size) (compEnvC scope cl s3.heap.objs.size X.env)) (RR (.ref s2.heap.objs.size) s3.heap.objs.size)
   { s3 with heap:=h₁,toks:=s2.toks+([]:List (Str×Value)).length }:=by
  refine codeAny_loop rfl (fun n s'=>∃i σ' H',Inv (bg X scope N' cl s3.heap.objs.size s3 (upd H2 s2.heap.objs.size (.lst [])) fp) [] σ' H' s'/\tn i s'.heap/\(∀b∈fp,H' b=none)/\W i n σ' H') ?_ m0 ⟨0,_,_,I4,Sg,fun b hb=>(f3 b hb).1,w0⟩
  rintro n s5 ⟨i,σ5,H5,I5,Kz,Oc,w5⟩
  show wpAny _ X.A ((compTurn (.ListComp elt [⟨tg,iter,ifs,0⟩] scope pos) 0 (.ref it) (.ref s2.heap.objs.size) (compEnvC scope cl s3.heap.objs.size X.env)).onRaise (fun x=>do noteFrame x (compEnvC scope cl s3.heap.objs.size X.env);theTreesLotGoes x)) _ _ s5
  refine wpAny_noted ?_
  rw[compTurn_list]
  refine wpAny_bind (wpAny_standAt (wpAny_bind ?_))
  rcases turn i n σ5 H5 w5 with ⟨stop,qn⟩|⟨go,N,hN,step⟩
  ·refine wpAny_mono (T.done (bg X scope N' cl s3.heap.objs.size s3 (upd H2 s2.heap.objs.size (.lst [])) fp) rfl rfl rfl hc i [] s5 σ5 H5 (fun _ _=>False) I5 (stat Oc) Kz stop) (fun r s6 ⟨hr,I6⟩=>?_) fun _ _ z=>z.elim
   subst hr
   refine wpAny_pure ?_
   obtain⟨m,hm,_⟩:=id I6.loc
   exact hRR _ _ s6 H5 m (by rw[hsz];exact Nat.le_succ _) (yV I3 f3 I6) I6.free hm qn
  ·refine wpAny_mono (T.item (bg X scope N' cl s3.heap.objs.size s3 (upd H2 s2.heap.objs.size (.lst [])) fp) rfl rfl rfl hc i [] s5 σ5 H5 (fun _ _=>False) I5 (stat Oc) Kz go) (fun r s6 ⟨u,hr,h6⟩=>?_) fun _ _ z=>z.elim
   subst hr
   refine wpAny_bind (wpAny_mono h6 (fun _ s7 ⟨x,H7,I7,r7,y7,Pn,Ue⟩=>?_) fun _ _ z=>z.elim)
   have Ug:=I7.pinned (stat Ue) (T.obj _ _ Pn)
   refine wpAny_bind (wpAny_mono (hg _ _ _ _ _ _ s7 σ5 H7 x u _ Ug r7 (step x H7 y7)) (fun _ s8 ⟨σ8,H8,I8,q8⟩=>?_) fun _ _ z=>z.elim)
   refine wpAny_bind (wpAny_mono (ht _ _ _ _ _ _ s8 σ8 H8 _ I8 q8) (fun b s9 ⟨H9,I9,q9⟩=>?_) fun _ _ z=>z.elim)
   have AF:∀{sA:Shared} {σA:St} {HA:Hp},Inv (bg X scope N' cl s3.heap.objs.size s3 (upd H2 s2.heap.objs.size (.lst [])) fp) ([]++nO fp s7.heap) σA HA sA->N σA HA ->
     ∃m,m<n/\∃i σ' H',Inv (bg X scope N' cl s3.heap.objs.size s3 (upd H2 s2.heap.objs.size (.lst [])) fp) [] σ' H' sA/\tn i sA.heap/\(∀b∈fp,H' b=none)/\W i m σ' H':=fun {sA σA HA} IA nA=>by
    obtain⟨m',hm,wA⟩:=hN σA HA nA
    refine⟨m',hm,i+1,σA,HA,IA.kD,T.keep _ _ _ Pn fun b hb o e=>(IA.pin (b,o) (List.mem_append_right _ (List.mem_append_right _ (iJ hb e)))).1,fun b hb=>?_,wA⟩
    obtain⟨o,e,d⟩:=T.obj _ _ Pn b hb
    exact(IA.pin (b,o) (List.mem_append_right _ (List.mem_append_right _ (iJ hb e)))).2.1
   cases b with
   | false=>exact wpAny_pure ⟨rfl,AF I9 (by simpa using q9)⟩
   | true =>
    rw[if_pos rfl] at q9
    refine wpAny_bind (wpAny_bind (wpAny_mono (he _ _ _ _ _ _ s9 σ8 H9 _ I9 q9) (fun v sB ⟨y,HB,IB,rB,ys,hys,hlen,nB⟩=>?_) fun _ _ z=>z.elim))
    refine wpAny_bind (wpAny_mono (qq (X:=bg X scope N' cl s3.heap.objs.size s3 (upd H2 s2.heap.objs.size (.lst [])) fp) _ sB σ8 HB (.ref s2.heap.objs.size) [y] _ [v] (fun _ HC=>HC=upd HB s2.heap.objs.size (.lst (ys++[y]))) IB rfl (.cons rB .nil) ⟨_,ys,y,rfl,rfl,hys,hlen,rfl⟩) (fun v' sC ⟨_,HC,IC,_,Uh⟩=>?_) fun _ _ z=>z.elim)
    subst Uh
    exact wpAny_pure (wpAny_pure ⟨rfl,AF IC nB⟩)
 rw[Ud]
 have Po:({ newEnv scope (s2.heap.push { cls:=.type "list",dict:=none,data:=.seq ([]:List Value).toArray }).objs.size X.env.globals cl X.env.qual none Value.none (some X.env) builtinsNs with scope:=relabel scope X.env }:Env)=compEnvC scope cl s3.heap.objs.size X.env:=by
  rw[eC];rfl
 have Pp:(newEnv scope (s2.heap.push { cls:=.type "list",dict:=none,data:=.seq ([]:List Value).toArray }).objs.size X.env.globals cl X.env.qual none Value.none (some X.env) builtinsNs).locals=s3.heap.objs.size:=by
  rw[eC];rfl
 rw[Po,Pp]
 exact codeAny_compStart_list loop (T.self _ _ _ _ _ Sg loop)
theorem xq(hok:fR X.N X.env.scope scope N' js=true)(hc:X.calm=true)(hi:PI X tg iter wi)(hg:∀cl C s H fp,PG (bg X scope N' cl C s H fp) tg g)
  (ht:∀cl C s H fp,CO (bg X scope N' cl C s H fp) ifs tt) (he:∀cl C s H fp,PE (bg X scope N' cl C s H fp) elt te)
  (hs:∀x,foldedSetIterable iter X.env x=pure x:=by intro _;rfl):PE X (.ListComp elt [⟨tg,iter,ifs,0⟩] scope pos) (tM wi js g tt te):=by
 intro pins s σ H Q I h
 have ok:=qu hok
 obtain⟨cl,Pq,hcl1,hcl2⟩:=n5 (n6 ok I.ok)
 rw[eval_ListComp]
 refine wpAny_comprehension_free (use:=none) rfl hs Pq ok.kind ok.names (bZ (hi pins s σ H _ I h) fun xv s1 h1=>bZ h1 fun itv s2 h2=>?_)
 obtain⟨it,fp,tn,J,H2,rfl,I2,T,st2,f2,rd⟩:=h2
 refine tN (RR:=fun acc C=>compPost (model X.prog X.w) X.A X.xe none (EP X pins σ Q) acc C) ok hc I2 T st2 f2 hcl1 hcl2 hg ht he rd ?_
 intro D C s' H' m hC J' fC hm q
 refine⟨m,hm,fun h' hs'=>⟨.ref D,H',?_,rfl,q⟩⟩
 refine J'.turned (t':=s'.toks) (fun b o hb e=>hs'.extBut b o hb e) fC (Nat.ne_of_gt (Nat.lt_of_lt_of_le I2.lt hC)) (.inr (Nat.le_trans I2.sz hC)) (fun x c e z=>?_) fun p hp z=>?_
 ·obtain⟨v,q'⟩:=I2.cell x c e
  exact absurd (Nat.lt_of_lt_of_le q'.lt (by rw[z];exact hC)) (Nat.lt_irrefl _)
 ·exact absurd (Nat.lt_of_lt_of_le (Heap.lt_size (I2.pin p hp).1) (by rw[z];exact hC)) (Nat.lt_irrefl _)
theorem xr{i:Nat}{x:Str}{pos' spos:Pos}(hN:X.N.Nodup)(hx:X.N[i]?=some x)(hl:Loc X.env.scope x)(hok:fR X.N X.env.scope scope N' js=true)(hc:X.calm=true)(hi:PI X tg iter wi)(hg:∀cl C s H fp,PG (bg X scope N' cl C s H fp) tg g)
  (ht:∀cl C s H fp,CO (bg X scope N' cl C s H fp) ifs tt) (he:∀cl C s H fp,PE (bg X scope N' cl C s H fp) elt te)
  (hsw:swapsWith (.ListComp elt [⟨tg,iter,ifs,0⟩] scope pos) (some (.Name x pos')) spos.line X.env=pure true:=by rfl)
  (hf:X.fn x=true\/X.env.scope.names.lookup x=some .local:=by first|exact .inl rfl|exact .inr rfl|assumption)
  (hs:∀x,foldedSetIterable iter X.env x=pure x:=by intro _;rfl):PS X (.Assign [.Name x pos'] (.ListComp elt [⟨tg,iter,ifs,0⟩] scope pos) spos) (Dk (tM wi js g tt te) (mG i)):=by
 intro pins s σ H D I h
 have ok:=qu hok
 obtain⟨cl,Pq,hcl1,hcl2⟩:=n5 (n6 ok I.ok)
 rw[exec_Assign_Name_used _ _ _ _ hsw]
 refine wpAny_bind (wpAny_standAt (wpAny_bind ?_))
 show wpAny _ X.A (do let _ <-comprehension (.ListComp elt [⟨tg,iter,ifs,0⟩] scope pos) scope X.env _ (newList []) false (eval iter X.env) (some (assign (.Name x pos') X.env))) _ _ s
 refine wpAny_bind (wpAny_mono (wpAny_comprehension_free (use:=some (assign (.Name x pos') X.env)) (Q:=fun _ s'=>SP X pins D .next s') rfl hs Pq ok.kind ok.names
  (bZ (hi pins s σ H _ I h) fun xv s1 h1=>bZ h1 fun itv s2 h2=>?_)) (fun _ s' hq=>wpAny_pure (wpAny_pure hq)) fun _ _ e=>e)
 obtain⟨it,fp,tn,J,H2,rfl,I2,T,st2,f2,rd⟩:=h2
 refine tN (RR:=fun acc C=>compPost (model X.prog X.w) X.A X.xe (some (assign (.Name x pos') X.env)) (fun _ s'=>SP X pins D .next s') acc C) (Q:=fun x H1=>mG i x σ H1 D.nx) ok hc I2 T st2 f2 hcl1 hcl2 hg ht he rd ?_
 intro E C s' H' m hC J' fC hm q
 have Sh:C≠X.env.locals:=Nat.ne_of_gt (Nat.lt_of_lt_of_le I2.lt hC)
 have hCc:∀x c,X.env.cells.lookup x=some c->c≠C:=fun x c e z=>by
  obtain⟨v,q'⟩:=I2.cell x c e
  exact absurd (Nat.lt_of_lt_of_le q'.lt (by rw[z];exact hC)) (Nat.lt_irrefl _)
 refine bZ (show wpAny _ X.A (assign (.Name x pos') X.env (.ref E)) (fun _ s''=>(∃yU FO,Inv X pins yU FO s''/\D.nx yU FO/\FO C=none)/\∃m,s''.heap.Ns C m) X.xe s' from ?_) fun _ s'' ⟨⟨yU,FO,Pu,Ui,Pw⟩,Uj,HJ⟩=>?_
 ·refine wpAny_assign_Name (qi J' hN hx hl (show RelV (.ref E) (.ref E) from rfl) (fun s'' Pu ⟨a,Uk,ha⟩=>⟨⟨_,H',Pu,q,fC⟩,m,?_⟩) hf)
  refine hm.sameBut Uk ?_
  rcases ha with z|z
  ·rw[z];exact Sh
  ·exact fun w=>hCc _ _ z w.symm
 ·refine⟨Uj,HJ,fun h' hs'=>⟨yU,FO,?_,Ui⟩⟩
  refine Pu.turned (t':=s''.toks) (fun b o hb e=>hs'.extBut b o hb e) Pw Sh (.inr (Nat.le_trans I2.sz hC)) hCc fun p hp z=>?_
  exact absurd (Nat.lt_of_lt_of_le (Heap.lt_size (I2.pin p hp).1) (by rw[z];exact hC)) (Nat.lt_irrefl _)
end
end L2
end
section
namespace L2
open PySem PySem.Spec PyProof.Rows
theorem Inv.xu{X:Cx}{pins:List (Addr×Obj)}{σ:St}{H:Hp}{s:Shared}{h':Heap}{t':Nat}{ch:List Addr}(I:Inv X pins σ H s)(hf:∀b∈ch,mZ X pins H b)
  (k:∀b o,b∉ch->s.heap.get? b=some o->h'.get? b=some o):Inv X pins σ H { s with heap:=h',toks:=t' }:=by
 have K0:∀b u,H b=some u->b∉ch:=fun b u e z=>by rw[(hf b z).1] at e;cases e
 refine I.step (g':=s.gens) (d':=s.drawn) (ch:=ch) (fun b hb=>?_) (fun b o _ _ hc e _=>k b o hc e) (fun b o _ _ hc e _=>⟨o.slots,k b o hc e⟩) (fun _ _ _ _ n=>n)
  (fun b o hc e=>⟨o,k b o hc e⟩) (fun _ _ e=>e) (fun _ _ _ e=>e) (fun b ps e=>⟨#[],by rw[e];simp⟩) (fun m hm=>?_) (fun b u e=>?_) I.bare
 ·exact⟨(hf b hb).2.2.2.1,(hf b hb).2.1,(hf b hb).2.2.2.2.1,(hf b hb).2.2.2.2.2⟩
 ·obtain⟨o,es,ep,ho,r⟩:=hm
  exact⟨o,es,ep,k _ o (fun z=>(hf _ z).2.1 rfl) ho,r⟩
 ·refine(I.hok b u e).stay (fun c v hc q=>k c v ?_ q) (fun _ q=>q) fun _ _ q=>q
  rcases hc with z|z
  ·rw[z];exact K0 b u e
  ·exact K0 c _ z
noncomputable def LJ(K:PySem.W.Frag)(a:Addr):It :=
 ⟨fun i H=>∃xs x,fO K H a xs/\xs[i]?=some x,fun i H x H'=>∃p v,H p=none/\x=.ref p/\H'=upd H p (.tup [.int i,v])/\∀xs,fO K H a xs->xs[i]?=some v,fun i H=>∃xs,fO K H a xs/\xs.length<=i⟩
theorem yW{P:Program}{w:World}{K:PySem.W.Frag}{es:List Expr}{k:Nat}{pos:Pos}(a e it:Addr)(hne:e≠it) :
  Turn P w K (.Tuple es k pos) (LJ K a) [e,it] e (fun i h=>(∃old,IsEnum h e it i old)/\h.IsListIter it a i) where
 mem:=by simp
 obj:=fun i h st b hb=>by
  obtain⟨⟨old,he⟩,⟨o,e2,c,d⟩⟩:=st
  rcases List.mem_cons.mp hb with z|z
  ·subst z;exact⟨_,he,fun v z=>nomatch z⟩
  ·rw[List.mem_singleton.mp z];exact⟨o,e2,fun v z=>by rw[d] at z;cases z⟩
 keep:=fun i h h' st k=>⟨let ⟨old,he⟩:=st.1;⟨old,k e (by simp) _ he⟩,st.2.at fun o e=>k it (by simp) o e⟩
 item:=by
  intro X hP hw hK hc i pins s σ H E I hf st hg
  subst hP hw hK
  obtain⟨xs,x,hq,hx⟩:=hg
  obtain⟨its,rv,p,hz⟩:=I.list hq
  obtain⟨u,hu,ru⟩:=rv.get hx
  obtain⟨⟨old,he⟩,hit⟩:=st
  have hei:e<s.heap.objs.size:=Heap.lt_size he
  have Ul:it<s.heap.objs.size:=by obtain⟨_,y,_⟩:=hit;exact Heap.lt_size y
  refine wpAny_pyNext_enum_item he hit p.isList (x:=u) (by simpa using hu) hne fun h' ho Px hT hsz hk=>?_
  refine⟨_,rfl,?_⟩
  refine wpAny_letOwnedTupleGo_enum ho fun h2 Um hs2=>?_
  have hT2:h2.get? s.heap.objs.size=some { cls:=.type "tuple",data:=.seq #[.int i s.toks,u] }:=hs2.extBut _ _ (Nat.ne_of_gt hei) hT
  have I1:Inv X pins σ H { s with heap:=h2,toks:=s.toks+1 }:=I.xu (ch:=[e,it]) hf fun b o hb q=>by
   have h1:b≠e:=fun z=>hb (by simp[z])
   have h2:b≠it:=fun z=>hb (by simp[z])
   exact hs2.extBut b o h1 (hk b o h1 h2 q)
  have hn:H s.heap.objs.size=none:=I.hok.fresh (Nat.le_refl _)
  have I2:Inv X pins σ (upd H s.heap.objs.size (.tup [.int i,x])) { s with heap:=h2,toks:=s.toks+1 }:=by
   have un:Un X.fs [] H (upd H s.heap.objs.size (.tup [.int i,x])) s.heap s.heap:=Un.laid (fun b u q=>q) (Nat.le_refl _) hn
   refine⟨I1.ok,I1.os,I1.bare,?_,I1.loc,I1.cell,?_,fun y c q=>?_,fun p hp=>?_,fun b o q=>?_,I1.len⟩
   ·refine⟨I1.base.keep,I1.base.slot,fun b o q n hx=>?_,I1.base.there,fun b ys q=>?_,fun b o ys q=>?_,fun b ps q=>?_⟩
    ·have hlt:b<s.heap.objs.size:=Nat.lt_of_lt_of_le (Heap.lt_size q) I.sz
     rw[ak (Nat.ne_of_lt hlt)];exact I1.base.free b o q n hx
    ·rw[ak (aH (I1.base.tups b ys q) hn)];exact I1.base.tups b ys q
    ·rw[ak (aH (I1.base.frzs b o ys q) hn)];exact I1.base.frzs b o ys q
    ·obtain⟨more,z⟩:=I1.base.pU b ps q
     exact⟨more,by rw[ak (aH z hn)];exact z⟩
   ·rw[ak (Nat.ne_of_lt I.lt)];exact I1.free
   ·obtain⟨v,z⟩:=I.cell y c q
    rw[ak (Nat.ne_of_lt z.lt)];exact I1.gu y c q
   ·obtain⟨q1,q2,q3⟩:=I1.pin p hp
    refine⟨q1,?_,q3⟩
    rw[ak (Nat.ne_of_lt (Heap.lt_size (I.pin p hp).1))];exact q2
   ·by_cases hb:b=s.heap.objs.size
    ·subst hb
     rw[aM] at q;cases q
     exact⟨by show 2<=sizeLine;decide,[.int i s.toks,u],.cons ⟨_,rfl⟩ (.cons ru .nil),_,hT2,rfl,_,rfl⟩
    ·rw[ak hb] at q
     exact(I1.hok b o q).stay (fun c v _ z=>z) (fun c z=>by rw[ak (aH z hn)];exact z) fun c ys z=>by rw[ak (aH z hn)];exact z
  refine⟨.ref s.heap.objs.size,_,I2,rfl,⟨s.heap.objs.size,x,hn,rfl,rfl,fun ys hy=>by rw[I.sV hy hq];exact hx⟩,⟨⟨_,by simpa using Um⟩,?_⟩,fun b hb=>?_⟩
  ·exact Px.at fun o y=>(hs2.2 it hne.symm).trans y
  ·have hlt:b<s.heap.objs.size:=by
    rcases List.mem_cons.mp hb with z|z
    ·rw[z];exact hei
    ·rw[List.mem_singleton.mp z];exact Ul
   rw[ak (Nat.ne_of_lt hlt)];exact(hf b hb).1
 done:=by
  intro X hP hw hK hc i pins s σ H E I hf st hg
  subst hP hw hK
  obtain⟨xs,hq,hx⟩:=hg
  obtain⟨its,rv,p,hz⟩:=I.list hq
  obtain⟨⟨old,he⟩,hit⟩:=st
  have hl:=rv.length
  exact wpAny_pyNext_enum_end (I.ok.hd hc) he hit p.isList (by simp;omega) fun h' eb=>⟨rfl,I.xu (t':=s.toks) (ch:=[e,it]) hf fun b o hb q=>eb b o (fun z=>hb (by simp[z])) q⟩
 self:=fun _ _ _ _ _ st h=>let ⟨_,he⟩:=st.1;wpAny_pyIter_enum he h
noncomputable def LK(K:PySem.W.Frag)(ta:TA):TI:=fun σ H R=>ta σ H fun vs H1=>∃a,vs=[.ref a]/\(∃xs,fO K H1 a xs)/\R (LJ K a) H1
theorem DV{X:Cx}{es:List Expr}{k:Nat}{tpos:Pos}{a:Expr}{ta:TA}{p pos:Pos}(hg:Gl X "enumerate")(hm:X.mg "enumerate" = none)(ha:PA X [a] ta)(hs:starEach [a] X.env=[(false,eval a X.env)]:=by rfl) :
  PI X (.Tuple es k tpos) (.Call (.Name "enumerate" p) [a] [] pos) (LK X.K ta):=by
 intro pins s σ H R I h
 refine Call_ (gC I hg hm boot_enumerate (PyProof.Rows.callWith_type1 (bZ (ha pos pins s σ H _ I h) fun us s1 aC=>?_) hs rfl))
 obtain⟨vs,H1,I1,r1,q1⟩:=aC
 obtain⟨l,e,⟨xs,hq⟩,q⟩:=q1
 subst e
 cases r1 with
 | cons r rr =>
  cases rr
  cases r
  obtain⟨its,rv,pl,hz⟩:=I1.list hq
  refine call_enumerate_list pl.isList fun h' he hit hsz hk=>?_
  have I2:Inv X pins σ H1 { s1 with heap:=h' }:=I1.kept (t':=s1.toks) hk
  refine wpAny_pyIter_enum (s:={ s1 with heap:=h' }) he ?_
  refine⟨_,[s1.heap.objs.size+1,s1.heap.objs.size],_,_,H1,rfl,I2,yW l _ _ (Nat.ne_of_gt (Nat.lt_succ_self _)),⟨⟨_,by simpa using he⟩,hit⟩,fun b hb=>?_,q⟩
  have hb':s1.heap.objs.size<=b:=by
   rcases List.mem_cons.mp hb with z|z
   ·rw[z];exact Nat.le_succ _
   ·rw[List.mem_singleton.mp z];exact Nat.le_refl _
  exact I1.Ag hb' (I1.hok.fresh hb')
end L2
end
section
namespace L2
open PySem PySem.W PyProof.Rows
namespace nv
section
variable {O:KeyOrd} {key:Nat->O.α} {N:Nat} {cmp:Nat->Nat->(Bool->Shared->Prop)->Shared->Prop} {s:Shared}
noncomputable def K(O:KeyOrd)(key:Nat->O.α)(p:Array Nat)(i:Nat):O.α:=key (p.getD i 0)
noncomputable def Up(O:KeyOrd)(key:Nat->O.α)(p:Array Nat)(k:Nat):Prop:=∀i j,i<=j->j<k->O.kle (K O key p i) (K O key p j)
noncomputable def Down(O:KeyOrd)(key:Nat->O.α)(p:Array Nat)(k:Nat):Prop:=∀i j,i<=j->j<k->O.kle (K O key p j) (K O key p i)
noncomputable def DW(O:KeyOrd)(key:Nat->O.α)(N:Nat)(cmp:Nat->Nat->(Bool->Shared->Prop)->Shared->Prop)(s:Shared):Prop :=
 ∀i j (C:Bool->Shared->Prop),i<N->j<N->C (O.blt (key i) (key j)) s->cmp i j C s
noncomputable def Ent(N:Nat)(p:Array Nat):Prop:=p.size=N/\0<N/\∀x∈p.toList,x<N
theorem Ent.at{p:Array Nat}(h:Ent N p)(i:Nat):p.getD i 0<N:=by
 by_cases hi:i<p.size
 ·have e:p.getD i 0=p[i]:=by simp[Array.getD,hi]
  rw[e];exact h.2.2 _ (by simp)
 ·have e:p.getD i 0=0:=by simp[Array.getD,hi]
  rw[e];exact h.2.1
theorem Ent.perm{p q:Array Nat}(h:Ent N p)(e:q.Perm p):Ent N q :=
 ⟨e.size_eq.trans h.1,h.2.1,fun x hx=>h.2.2 x ((Array.perm_iff_toList_perm.mp e).mem_iff.mp hx)⟩
theorem K_congr{p q:Array Nat}{i j:Nat}(h:p[i]?=q[j]?):K O key p i=K O key q j:=by
 unfold K;rw[Array.getD_eq_getD_getElem?,Array.getD_eq_getD_getElem?,h]
theorem K_bubble{p:Array Nat}{src d:Nat}(hs:src<p.size)(hd:d<=src)(k:Nat) :
  K O key (bubble p src d) k=if k=src-d then K O key p src else if src-d<k/\k<=src then K O key p (k-1) else K O key p k:=by
 have e:=getElem?_bubble hs d hd k
 by_cases h1:k=src-d
 ·rw[if_pos h1] at e |-;exact K_congr e
 ·rw[if_neg h1] at e |-
  by_cases h2:src-d<k/\k<=src
  ·rw[if_pos h2] at e |-;exact K_congr e
  ·rw[if_neg h2] at e |-;exact K_congr e
theorem AG{p:Array Nat}{i j:Nat}(hj:j<=p.size)(k:Nat):K O key (kas_rev p i j) k=if i<=k/\k<j then K O key p (i+j-1-k) else K O key p k:=by
 have e:=getElem?_mirror_all (i:=i) hj k
 by_cases h1:i<=k/\k<j
 ·rw[if_pos h1] at e |-;exact K_congr e
 ·rw[if_neg h1] at e |-;exact K_congr e
theorem n8{p:Array Nat}{i j:Nat}(hj:j<=p.size)(h:∀k,i<=k->k<j->K O key p k=K O key p (j-1))(k:Nat):K O key (kas_rev p i j) k=K O key p k:=by
 rw[AG hj]
 split
 ·rw[h _ (by omega) (by omega),h k (by omega) (by omega)]
 ·rfl
theorem tO{p:Array Nat}{m:Nat}(h:∀t,1<=t->t<m->O.kle (K O key p (t-1)) (K O key p t)):Up O key p m:=by
 intro i j hij hj
 induction j with
 | zero =>
  have:i=0:=by omega
  subst this;exact KeyOrd.kle_refl _
 | succ j ih =>
  by_cases e:i=j+1
  ·subst e;exact KeyOrd.kle_refl _
  ·exact KeyOrd.kle_trans (ih (by omega) (by omega)) (h (j+1) (by omega) hj)
theorem HK(hA:DW O key N cmp s){p:Array Nat}(he:Ent N p):∀(f n:Nat) {Q:Nat->Shared->Prop},1<=n ->
  (∀m,n<=m->m<=n+f->(∀t,n<=t->t<m->O.kle (K O key p (t-1)) (K O key p t))->(m<n+f->O.klt (K O key p m) (K O key p (m-1)))->Q m s)->(kas_asc p f n).kasWp cmp Q s
 | 0,n,Q,hn,h=>h n (Nat.le_refl _) (Nat.le_refl _) (fun t h1 h2=>by omega) fun q=>by omega
 | f+1,n,Q,hn,h=>by
  show cmp _ _ _ s
  refine hA _ _ _ (he.at _) (he.at _) ?_
  cases hb:O.blt (key (p.getD n 0)) (key (p.getD (n-1) 0)) with
  | true=>exact h n (Nat.le_refl _) (by omega) (fun t h1 h2=>by omega) fun _=>hb
  | false =>
   show (kas_asc p f (n+1)).kasWp cmp Q s
   refine HK hA he f (n+1) (by omega) fun m h1 h2 h3 h4=>h m (by omega) (by omega) (fun t t1 t2=>?_) fun q=>h4 (by omega)
   by_cases e:t=n
   ·subst e;exact hb
   ·exact h3 t (by omega) t2
theorem xw(hA:DW O key N cmp s):∀(f:Nat) (p:Array Nat) (n q:Nat) {Q:Array Nat×Nat×Nat->Shared->Prop},Ent N p->1<=n->n+f<=N->q+1<=n->Down O key p n->(∀i,n-(q+1)<=i->i<n->K O key p i=K O key p (n-1)) ->
  (∀p' n' q',p'.Perm p->Ent N p'->1<=n'->n<=n'->n'<=n+f->q'+1<=n'->Down O key p' n'->(∀i,n'-(q'+1)<=i->i<n'->K O key p' i=K O key p' (n'-1))->Q (p',n',q') s)->(kas_desc f p n q).kasWp cmp Q s
 | 0,p,n,q,Q,he,hn,hN,hq,hd,hl,h=>h p n q (Array.Perm.refl _) he hn (Nat.le_refl _) (Nat.le_refl _) hq hd hl
 | f+1,p,n,q,Q,he,hn,hN,hq,hd,hl,h=>by
  show cmp _ _ _ s
  refine hA _ _ _ (he.at _) (he.at _) ?_
  cases hb:O.blt (key (p.getD n 0)) (key (p.getD (n-1) 0)) with
  | true =>
   have hlt:O.klt (K O key p n) (K O key p (n-1)):=hb
   have hd1:Down O key p (n+1):=fun i j hij hj=>by
    by_cases e:j=n
    ·subst e
     by_cases e2:i=j
     ·subst e2;exact KeyOrd.kle_refl _
     ·exact KeyOrd.kle_trans (KeyOrd.kle_of_klt hlt) (hd i (j-1) (by omega) (by omega))
    ·exact hd i j hij (by omega)
   show (if q>0 then kas_desc f (kas_rev p (n-(q+1)) n) (n+1) 0 else kas_desc f p (n+1) 0).kasWp cmp Q s
   by_cases Si:q>0
   ·rw[if_pos Si]
    have ep:(kas_rev p (n-(q+1)) n).Perm p:=mirror_perm _ _ _ _
    have eK:∀k,K O key (kas_rev p (n-(q+1)) n) k=K O key p k:=fun k=>n8 (by rw[he.1];omega) hl k
    refine xw hA f _ (n+1) 0 (he.perm ep) (by omega) (by omega) (by omega) (fun i j hij hj=>by rw[eK,eK];exact hd1 i j hij hj) (fun i h1 h2=>?_) fun p' n' q' g1 g2 g3 g4 g5 g6 g7 g8=>h p' n' q' (g1.trans ep) g2 g3 (by omega) (by omega) g6 g7 g8
    have:i=n:=by omega
    subst this;rfl
   ·rw[if_neg Si]
    refine xw hA f p (n+1) 0 he (by omega) (by omega) (by omega) hd1 (fun i h1 h2=>?_) fun p' n' q' g1 g2 g3 g4 g5 g6 g7 g8=>h p' n' q' g1 g2 g3 (by omega) (by omega) g6 g7 g8
    have:i=n:=by omega
    subst this;rfl
  | false =>
   show cmp _ _ _ s
   refine hA _ _ _ (he.at _) (he.at _) ?_
   cases hc:O.blt (key (p.getD (n-1) 0)) (key (p.getD n 0)) with
   | true=>exact h p n q (Array.Perm.refl _) he hn (Nat.le_refl _) (by omega) hq hd hl
   | false =>
    have heq:K O key p n=K O key p (n-1):=O.total _ _ hb hc
    show (kas_desc f p (n+1) (q+1)).kasWp cmp Q s
    refine xw hA f p (n+1) (q+1) he (by omega) (by omega) (by omega) (fun i j hij hj=>?_) (fun i h1 h2=>?_) fun p' n' q' g1 g2 g3 g4 g5 g6 g7 g8=>h p' n' q' g1 g2 g3 (by omega) (by omega) g6 g7 g8
    ·by_cases e:j=n
     ·subst e
      by_cases e2:i=j
      ·subst e2;exact KeyOrd.kle_refl _
      ·rw[heq];exact hd i (j-1) (by omega) (by omega)
     ·exact hd i j hij (by omega)
    ·show K O key p i=K O key p (n+1-1)
     rw[Nat.add_sub_cancel]
     by_cases e:i=n
     ·subst e;rfl
     ·rw[heq];exact hl i (by omega) (by omega)
theorem AH(hA:DW O key N cmp s){p:Array Nat}{n nrem:Nat}{Q:Nat×Array Nat->Shared->Prop}(he:Ent N p)(h1:1<=n)(hn:n<=nrem)(hr:nrem<=N)(hd:Down O key p n)
  (h:∀m p',p'.Perm p->Ent N p'->1<=m->m<=nrem->Up O key p' m->Q (m,p') s):(kas_tail3 n nrem p).kasWp cmp Q s:=by
 unfold kas_tail3
 rw[KasT.kasWp_bind]
 have ep:(kas_rev p 0 n).Perm p:=mirror_perm _ _ _ _
 have hz:n<=p.size:=by rw[he.1];omega
 refine HK hA (he.perm ep) _ _ h1 fun m a1 a2 a3 _=>h m _ ep (he.perm ep) (by omega) (by omega) (tO fun t t1 t2=>?_)
 by_cases e:t<n
 ·rw[AG hz,AG hz,if_pos (by omega),if_pos (by omega)]
  exact hd _ _ (by omega) (by omega)
 ·exact a3 t (by omega) t2
theorem qv(hA:DW O key N cmp s){p:Array Nat}{n nrem:Nat}{Q:Nat×Array Nat->Shared->Prop}(he:Ent N p)(hn:n+1<=nrem)(hr:nrem<=N)(hd:Down O key p (n+1))
  (h:∀m p',p'.Perm p->Ent N p'->1<=m->m<=nrem->Up O key p' m->Q (m,p') s):(kas_descPart n nrem p).kasWp cmp Q s:=by
 unfold kas_descPart
 rw[KasT.kasWp_bind]
 have LL:∀i,n+1-(0+1)<=i->i<n+1->K O key p i=K O key p (n+1-1):=fun i h1 h2=>by
  have e:i=n:=by omega
  subst e
  rfl
 refine xw hA (nrem-(n+1)) p (n+1) 0 he (by omega) (by omega) (by omega) hd LL fun p' n' q' g1 g2 g3 g4 g5 g6 g7 g8=>?_
 show (if q'>0 then kas_tail3 n' nrem (kas_rev p' (n'-(q'+1)) n') else kas_tail3 n' nrem p').kasWp cmp Q s
 by_cases hq:q'>0
 ·rw[if_pos hq]
  have ep:(kas_rev p' (n'-(q'+1)) n').Perm p':=mirror_perm _ _ _ _
  have eK:∀k,K O key (kas_rev p' (n'-(q'+1)) n') k=K O key p' k:=fun k=>n8 (by rw[g2.1];omega) g8 k
  exact AH hA (g2.perm ep) g3 (by omega) hr (fun i j hij hj=>by rw[eK,eK];exact g7 i j hij hj) fun m p'' a1 a2 a3 a4 a5=>h m p'' ((a1.trans ep).trans g1) a2 a3 a4 a5
 ·rw[if_neg hq]
  exact AH hA g2 g3 (by omega) hr g7 fun m p'' a1 a2 a3 a4 a5=>h m p'' (a1.trans g1) a2 a3 a4 a5
theorem HL(hA:DW O key N cmp s){p:Array Nat}{nrem:Nat}{Q:Nat×Array Nat->Shared->Prop}(he:Ent N p)(h1:1<=nrem)(hr:nrem<=N)
  (h:∀m p',p'.Perm p->Ent N p'->1<=m->m<=nrem->Up O key p' m->Q (m,p') s):(kas_count nrem p).kasWp cmp Q s:=by
 unfold kas_count
 rw[KasT.kasWp_bind]
 refine HK hA he _ _ (Nat.le_refl _) fun n a1 a2 a3 a4=>?_
 have hup:Up O key p n:=tO fun t t1 t2=>a3 t t1 t2
 by_cases e1:(n==nrem)=true
 ·rw[if_pos e1]
  exact h n p (Array.Perm.refl _) he a1 (by omega) hup
 ·rw[if_neg e1]
  have Sj:n≠nrem:=fun z=>e1 (by simp[z])
  have hlt:O.klt (K O key p n) (K O key p (n-1)):=a4 (by omega)
  by_cases e2:n>1
  ·rw[if_pos e2]
   show cmp _ _ _ s
   refine hA _ _ _ (he.at _) (he.at _) ?_
   cases hc:O.blt (key (p.getD 0 0)) (key (p.getD (n-1) 0)) with
   | true=>exact h n p (Array.Perm.refl _) he a1 (by omega) hup
   | false =>
    have hle:O.kle (K O key p (n-1)) (K O key p 0):=hc
    have ep:(kas_rev p 0 n).Perm p:=mirror_perm _ _ _ _
    have hall:∀k,0<=k->k<n->K O key p k=K O key p (n-1):=fun k _ hk =>
     KeyOrd.kle_antisymm (hup k (n-1) (by omega) (by omega)) (KeyOrd.kle_trans hle (hup 0 k (by omega) hk))
    have eK:∀k,K O key (kas_rev p 0 n) k=K O key p k:=fun k=>n8 (by rw[he.1];omega) hall k
    show (kas_descPart n nrem (kas_rev p 0 n)).kasWp cmp Q s
    refine qv hA (he.perm ep) (by omega) hr (fun i j hij hj=>?_) fun m p' b1 b2 b3 b4 b5=>h m p' (b1.trans ep) b2 b3 b4 b5
    rw[eK,eK]
    by_cases ej:j=n
    ·subst ej
     by_cases ei:i=j
     ·subst ei;exact KeyOrd.kle_refl _
     ·rw[hall i (by omega) (by omega)];exact KeyOrd.kle_of_klt hlt
    ·rw[hall i (by omega) (by omega),hall j (by omega) (by omega)];exact KeyOrd.kle_refl _
  ·rw[if_neg e2]
   have en:n=1:=by omega
   subst en
   refine qv hA he (by omega) hr (fun i j hij hj=>?_) fun m p' b1 b2 b3 b4 b5=>h m p' b1 b2 b3 b4 b5
   by_cases ei:i=j
   ·subst ei;exact KeyOrd.kle_refl _
   ·have:i=0/\j=1:=by omega
    obtain⟨rfl,rfl⟩:=this
    exact KeyOrd.kle_of_klt hlt
theorem vP(hA:DW O key N cmp s){p:Array Nat}{k:Nat}(he:Ent N p)(hs:Up O key p k):∀(f l r:Nat) {Q:Nat->Shared->Prop},l<=r->r<=k->r-l<=f ->
  (∀i,i<l->O.kle (K O key p i) (K O key p k))->(∀i,r<=i->i<k->O.klt (K O key p k) (K O key p i)) ->
  (∀l',l'<=k->(∀i,i<l'->O.kle (K O key p i) (K O key p k))->(∀i,l'<=i->i<k->O.klt (K O key p k) (K O key p i))->Q l' s)->(kas_place p k f l r).kasWp cmp Q s
 | 0,l,r,Q,hlr,hrk,hf,hlo,hhi,h=>by
  have:l=r:=by omega
  subst this
  exact h l hrk hlo hhi
 | f+1,l,r,Q,hlr,hrk,hf,hlo,hhi,h=>by
  show (if l≥r then KasT.ret l else _).kasWp cmp Q s
  by_cases hge:l≥r
  ·rw[if_pos hge]
   have:l=r:=by omega
   subst this
   exact h l hrk hlo hhi
  ·rw[if_neg hge]
   show cmp _ _ _ s
   refine hA _ _ _ (he.at _) (he.at _) ?_
   cases hb:O.blt (key (p.getD k 0)) (key (p.getD ((l+r)/2) 0)) with
   | true =>
    show (kas_place p k f l ((l+r)/2)).kasWp cmp Q s
    exact vP hA he hs f l ((l+r)/2) (by omega) (by omega) (by omega) hlo (fun i h1 h2=>KeyOrd.klt_of_klt_of_kle hb (hs _ _ h1 h2)) h
   | false =>
    show (kas_place p k f ((l+r)/2+1) r).kasWp cmp Q s
    exact vP hA he hs f ((l+r)/2+1) r (by omega) (by omega) (by omega) (fun i h1=>KeyOrd.kle_trans (hs i ((l+r)/2) (by omega) (by omega)) hb) hhi h
theorem LM(hA:DW O key N cmp s):∀(f:Nat) (p:Array Nat) (k:Nat) {Q:Array Nat->Shared->Prop},Ent N p->k+f<=N->Up O key p k->(∀p',p'.Perm p->Up O key p' (k+f)->Q p' s)->(kas_bin f p k).kasWp cmp Q s
 | 0,p,k,Q,he,hk,hs,h=>h p (Array.Perm.refl _) hs
 | f+1,p,k,Q,he,hk,hs,h=>by
  show ((kas_place p k k 0 k).bind fun l=>kas_bin f (bubble p k (k-l)) (k+1)).kasWp cmp Q s
  rw[KasT.kasWp_bind]
  refine vP hA he hs k 0 k (by omega) (by omega) (by omega) (fun i hi=>by omega) (fun i h1 h2=>by omega) fun l hl hlo hhi=>?_
  have ep:(bubble p k (k-l)).Perm p:=bubble_perm _ _ _
  have hks:k<p.size:=by rw[he.1];omega
  refine LM hA f _ (k+1) (he.perm ep) (by omega) (fun i j hij hj=>?_) fun p' a1 a2=>h p' (a1.trans ep) (by rwa [show k+(f+1)=k+1+f by omega])
  rw[K_bubble hks (by omega),K_bubble hks (by omega),show k-(k-l)=l by omega]
  repeat' split
  all_goals first
   | (exfalso;omega)
   | exact KeyOrd.kle_refl _
   | exact hlo _ (by omega)
   | exact KeyOrd.kle_of_klt (hhi _ (by omega) (by omega))
   | exact hs _ _ (by omega) (by omega)
theorem LN(hA:DW O key N cmp s){Q:Array Nat->Shared->Prop}(h1:1<=N)(h:∀p,p.Perm (List.toArray (List.range N))->Up O key p N->Q p s):(kas_sort N).kasWp cmp Q s:=by
 unfold kas_sort
 rw[KasT.kasWp_bind]
 have he:Ent N (List.toArray (List.range N)):=⟨by simp,h1,fun x hx=>by simpa using hx⟩
 refine HL hA he h1 (Nat.le_refl _) fun m p a1 a2 a3 a4 a5=>?_
 show (if m<N then kas_bin (N-max m 1) p (max m 1) else KasT.ret p).kasWp cmp Q s
 have em:max m 1=m:=by omega
 by_cases hlt:m<N
 ·rw[if_pos hlt,em]
  exact LM hA _ p m a2 (by omega) a5 fun p' b1 b2=>h p' (b1.trans a1) (by rwa [show m+(N-m)=N by omega] at b2)
 ·rw[if_neg hlt]
  have:m=N:=by omega
  subst this
  exact h p a1 a5
end
end nv
end L2
end
section
namespace L2
open PySem PySem.W PyProof.Rows
namespace nv
theorem dW{α:Type}(l:List α)(d:α):(List.range l.length).map (fun i=>l.getD i d)=l:=by
 refine List.ext_getElem (by simp) fun i h1 h2=>?_
 simp[h2]
section
variable {prog:Program} {w:World} {A:Around} {E:Value->Shared->Prop} {s:Shared}
noncomputable def qw(prog:Program)(w:World)(A:Around)(O:KeyOrd)(key:Nat->O.α)(vs:List Value)(s6:Shared):Prop :=
 wpAny (model prog w) A (keyKind' vs.toArray) (fun κ s'=>s'=s6/\DW O key vs.length (kas_ask prog w A κ vs) s6) (fun _ _=>False) s6
structure AI (O:KeyOrd) (key:Nat->O.α) (n:Nat) (p:List Nat):Prop where
 perm:p.Perm (List.range n)
 up:(p.map key).Pairwise O.kle
theorem DX{O:KeyOrd}{key:Nat->O.α}{n:Nat}{p:Array Nat}(h1:p.Perm (List.toArray (List.range n)))(h2:Up O key p n):AI O key n p.toList:=by
 have hp:p.toList.Perm (List.range n):=by simpa using Array.perm_iff_toList_perm.mp h1
 refine⟨hp,List.pairwise_iff_getElem.mpr fun i j hi hj hij=>?_⟩
 have hz:p.toList.length=n:=by rw[hp.length_eq,List.length_range]
 rw[List.length_map] at hi hj
 have q:=h2 i j (Nat.le_of_lt hij) (by omega)
 have ei:p.getD i 0=p.toList[i]:=by simp at hi;simp[Array.getD,hi]
 have ej:p.getD j 0=p.toList[j]:=by simp at hj;simp[Array.getD,hj]
 unfold K at q
 rw[ei,ej] at q
 rw[List.getElem_map,List.getElem_map]
 exact q
theorem AJ{O:KeyOrd}{key:Nat->O.α}{a:Addr}{vs:List Value}{n:Nat}{P:Fin->Shared->Prop}(ho:s.heap.get? a=some (seqObj "list" vs.toArray n))(h64:vs.length<64)
  (hk:2<=vs.length->∀h6:Heap,(∀b o,b≠a->s.heap.get? b=some o->h6.get? b=some o)->qw prog w A O key vs { s with heap:=h6 })
  (h:∀p,AI O key vs.length p->P (.done (.ret .none)) { s with heap:=sortedHeap s.heap a vs (p.map fun i=>vs.getD i Value.none).toArray }) :
  wpAny (model prog w) A (Builtin.«list.sort» ⟨[.ref a],[]⟩) P E s:=by
 have alt:a<s.heap.objs.size:=Heap.lt_size ho
 have big:vs.length<=sizeLine:=by rw[sizeLine_eq];omega
 rw[list_sort_plain]
 apply wpAny_bind;apply listItems_at ho rfl
 apply wpAny_bind;refine listUpdate_at ho rfl ?_ (by rw[List.size_toArray];exact big) (Nat.zero_le _)
 have q1:=get?_update_seq ho (fun _=>(#[]:Array Value))
 apply wpAny_bind;apply seqEpoch_at q1 rfl
 apply wpAny_bind;refine wpAny_newTuple ?_ (by show vs.length<=sizeLine;exact big)
 apply wpAny_bind;refine wpAny_newList ?_ (Nat.zero_le _)
 apply wpAny_holding
 generalize hN:((s.heap.update a (Obj.mapSeq fun _=>(#[]:Array Value))).push (seqObj "tuple" vs.toArray 0)).push (seqObj "list" #[] 0)=h6
 have LO:∀b o,b≠a->s.heap.get? b=some o->h6.get? b=some o:=fun b o hb e=>by
  rw[<-hN]
  refine Heap.get?_push_of_some _ (Heap.get?_push_of_some _ ?_)
  rw[Heap.get?_update_ne _ _ _ _ hb];exact e
 have q6:h6.get? a=some (seqObj "list" #[] (if (#[]:Array Value).size==vs.toArray.size then n else n+1)):=by
  rw[<-hN];exact Heap.get?_push_of_some _ (Heap.get?_push_of_some _ q1)
 have eS:∀out,h6.update a (Obj.mapSeq fun _=>out)=sortedHeap s.heap a vs out:=fun out=>by rw[<-hN];rfl
 show wpAny (model prog w) A _ P E { s with heap:=h6 }
 dsimp only
 by_cases h2:vs.toArray.size<2
 ·rw[if_pos h2,if_pos h2]
  apply wpAny_bind;apply wpAny_pure
  rw[StateT.run_pure]
  apply wpAny_bind;apply wpAny_pure
  dsimp only
  have eo:(arrOf (SortSt.mk' general' (vs.toArray.zip vs.toArray) #[] 7 none)).map (·.2)=vs.toArray:=by
   show (vs.toArray.zip vs.toArray).map (·.2)=vs.toArray
   apply Array.toList_inj.mp
   simp[List.map_snd_zip]
  rw[eo]
  apply wpAny_bind;apply seqEpoch_at q6 rfl
  apply wpAny_bind;refine listUpdate_at q6 rfl ?_ (Nat.zero_le _) (by show vs.toArray.size<=_;rw[List.size_toArray];omega)
  have hb:((if (#[]:Array Value).size==vs.toArray.size then n else n+1) != (if (#[]:Array Value).size==vs.toArray.size then n else n+1))=false:=by simp
  rw[eS]
  simp only[hb,Bool.false_eq_true,if_false]
  apply wpAny_pure
  have g:=h (List.range vs.length) ⟨List.Perm.refl _,?_⟩
  ·rw[dW] at g;exact g
  ·rw[List.size_toArray] at h2
   refine List.pairwise_iff_getElem.mpr fun i j hi hj hij=>?_
   simp at hi hj
   omega
 ·rw[if_neg h2,if_neg h2]
  rw[List.size_toArray] at h2
  have ask:=hk (by omega) h6 LO
  apply wpAny_bind
  refine wpAny_mono ask (fun κ s0 hκ=>?_) fun _ _ x=>x.elim
  obtain⟨rfl,Uo⟩:=hκ
  apply wpAny_bind
  refine wpAny_mono (kat_run (Q:=fun st' s'=>s'={ s with heap:=h6 }/\∃p:Array Nat,AI O key vs.length p.toList/\p.size=vs.length/\(arrOf st').map (·.2)=(p.toList.map fun i=>vs.getD i Value.none).toArray/\failedOf st'=none)
   (G:=fun p s'=>s'={ s with heap:=h6 }/\AI O key vs.length p.toList) rfl (by omega) h64 (fun p st' s' a1 a2 a3 a4=>⟨a4.1,p,a4.2,a1,kat_snds rfl a2,a3⟩)
   (LN Uo (by omega) fun p b1 b2=>⟨rfl,DX b1 b2⟩)) ?_ fun _ _ x=>x
  rintro⟨⟨⟩,st'⟩ s' ⟨rfl,p,op,pz,er,ef⟩
  dsimp only
  rw[er]
  apply wpAny_bind;apply seqEpoch_at q6 rfl
  apply wpAny_bind;refine listUpdate_at q6 rfl ?_ (Nat.zero_le _) (by show (List.toArray _).size<=_;rw[List.size_toArray,List.length_map,Array.length_toList,pz];omega)
  have hb:((if (#[]:Array Value).size==vs.toArray.size then n else n+1) != (if (#[]:Array Value).size==vs.toArray.size then n else n+1))=false:=by simp
  rw[eS,ef]
  simp only[hb,Bool.false_eq_true,if_false]
  exact wpAny_pure (h p.toList op)
theorem f6{O:KeyOrd}{x:Value}{Q:Value->Shared->Prop}
  (h:wpAny (model prog w) A.in1 (collect x) (fun vs s1=>vs.length<64/\∃key:Nat->O.α,(2<=vs.length->∀h6:Heap,(∀b o,s1.heap.get? b=some o->h6.get? b=some o)->qw prog w A.in1.in1 O key vs { s1 with heap:=h6 }) /\
   ∀p h',AI O key vs.length p->(∀b o,s1.heap.get? b=some o->h'.get? b=some o)->(∃e,h'.get? s1.heap.objs.size=some (seqObj "list" (p.map fun i=>vs.getD i Value.none).toArray e))->Q (.ref s1.heap.objs.size) { s1 with heap:=h' }) E s) :
  wpAny (model prog w) A (call (.builtin "sorted") [x]) Q E s:=by
 refine Calls.call_function_entry kind_sorted plain_sorted entry_sorted (args_sorted1 _) ?_
 unfold Builtin.«sorted»
 refine wpAny_bind (m:=checkCount "sorted" 1 1 _) (wpAny_pure ?_)
 apply wpAny_bind
 refine wpAny_mono h (fun vs s1 ⟨h64,key,hk,hq⟩=>?_) fun _ _ z=>z
 have big:vs.length<=sizeLine:=by rw[sizeLine_eq];omega
 apply wpAny_bind
 refine wpAny_newList ?_ big
 have q:(s1.heap.push (seqObj "list" vs.toArray 0)).get? s1.heap.objs.size=some (seqObj "list" vs.toArray 0):=Heap.get?_push_size _ rfl
 apply wpAny_bind
 apply wpAny_holding
 refine wpAny_call_entry (s:={ s1 with heap:=s1.heap.push (seqObj "list" vs.toArray 0) }) slot_list_sort ⟨_,q,rfl⟩ entry_list_sort ?_ (args_list_sort _)
 refine AJ (key:=key) (s:={ s1 with heap:=s1.heap.push (seqObj "list" vs.toArray 0) }) q h64 (fun h2 h6 k6=>?_) fun p op=>⟨_,rfl,wpAny_pure ⟨_,rfl,?_⟩⟩
 ·exact hk h2 h6 fun b o e=>k6 b o (Nat.ne_of_lt (Heap.lt_size e)) (Heap.get?_push_of_some _ e)
 ·refine hq p _ op (fun b o e=>?_) (sortedHeap_at q)
  rw[sortedHeap_old (Nat.ne_of_lt (Heap.lt_size e)) (by rw[size_push'];exact Nat.lt_succ_of_lt (Heap.lt_size e))]
  exact Heap.get?_push_of_some _ e
end
noncomputable def n9:KeyOrd where
 α:=Int
 blt:=fun a b=>decide (a<b)
 irrefl:=fun a=>by simp
 trans:=fun a b c h1 h2=>by simp at *;omega
 negTrans:=fun a b c h=>by simp at *;omega
 total:=fun a b h1 h2=>by simp at *;omega
theorem oh{prog:Program}{w:World}{A:Around}{s6:Shared}{vs:List Value}{ns:List Int}(hI:IntsAre vs ns)(h2:2<=vs.length):qw prog w A n9 (fun i=>ns.getD i 0) vs s6:=by
 have at_:∀i,i<vs.length->∃t,vs.getD i Value.none=.int (ns.getD i 0) t:=by
  intro i hi
  induction hI generalizing i with
  | nil=>simp at hi
  | cons z t r ih =>
   cases i with
   | zero=>exact⟨t,by simp⟩
   | succ i =>
    by_cases hr:2<=1
    ·omega
    ·simp only[List.length_cons] at hi
     have aux:∀{vs:List Value} {ns:List Int},IntsAre vs ns->∀i,i<vs.length->∃t,vs.getD i Value.none=.int (ns.getD i 0) t:=by
      intro vs ns q
      induction q with
      | nil=>intro i hi;simp at hi
      | cons z t r ih =>
       intro i hi
       cases i with
       | zero=>exact⟨t,by simp⟩
       | succ i=>simp only[List.length_cons] at hi;obtain⟨u,e⟩:=ih i (by omega);exact⟨u,by simpa using e⟩
     obtain⟨u,e⟩:=aux r i (by omega)
     exact⟨u,by simpa using e⟩
 obtain⟨v₁,v₂,rest,rfl⟩:∃v₁ v₂ rest,vs=v₁::v₂::rest:=by
  match vs,h2 with
  | v₁::v₂::rest,_=>exact⟨v₁,v₂,rest,rfl⟩
 unfold qw
 rw[keyKind_ints hI]
 refine wpAny_pure ⟨rfl,fun i j C hi hj hc=>?_⟩
 obtain⟨t,e1⟩:=at_ i hi
 obtain⟨u,e2⟩:=at_ j hj
 unfold kas_ask
 rw[e1,e2,keyLt'_oneType]
 exact oneLt_int hc
theorem iL:∀a,HT.lexLt a a=false
 | []=>rfl
 | x::xs=>by rw[HT.eX,if_pos rfl];exact iL xs
theorem gx:∀a b,HT.lexLt a b=false->HT.lexLt b a=false->a=b
 | [],[],_,_=>rfl
 | [],_::_,h,_=>by rw[HT.fY] at h;cases h
 | _::_,[],_,h=>by rw[HT.fY] at h;cases h
 | x::xs,y::ys,h1,h2=>by
  rw[HT.eX] at h1 h2
  by_cases e:x=y
  ·subst e
   rw[if_pos rfl] at h1 h2
   rw[gx xs ys h1 h2]
  ·rw[if_neg e] at h1
   rw[if_neg (fun z=>e z.symm)] at h2
   simp at h1 h2
   omega
theorem gy:∀a b c,HT.lexLt a b=true->HT.lexLt b c=true->HT.lexLt a c=true
 | [],[],c,h,_=>by rw[HT.pX] at h;cases h
 | [],_::_,[],_,h=>by rw[HT.dS] at h;cases h
 | [],_::_,_::_,_,_=>rfl
 | _::_,[],_,h,_=>by rw[HT.dS] at h;cases h
 | _::_,_::_,[],_,h=>by rw[HT.dS] at h;cases h
 | x::xs,y::ys,z::zs,h1,h2=>by
  rw[HT.eX] at h1 h2 |-
  by_cases e1:x=y
  ·subst e1
   rw[if_pos rfl] at h1
   by_cases e2:x=z
   ·subst e2
    rw[if_pos rfl] at h2 |-
    exact gy xs ys zs h1 h2
   ·rw[if_neg e2] at h2 |-;exact h2
  ·rw[if_neg e1] at h1
   by_cases e2:y=z
   ·subst e2
    rw[if_neg e1];exact h1
   ·rw[if_neg e2] at h2
    simp at h1 h2
    rw[if_neg (by omega)]
    simp;omega
theorem qy(a b c:List Int)(h:HT.lexLt a c=true):HT.lexLt a b=true\/HT.lexLt b c=true:=by
 cases h1:HT.lexLt a b with
 | true=>exact .inl rfl
 | false =>
  cases h2:HT.lexLt b c with
  | true=>exact .inr rfl
  | false =>
   cases h3:HT.lexLt b a with
   | true=>have:=gy _ _ _ h3 h;rw[h2] at this;cases this
   | false=>rw[gx _ _ h1 h3] at h;rw[h2] at h;cases h
noncomputable def lexOrd:KeyOrd where
 α:=List Int
 blt:=HT.lexLt
 irrefl:=iL
 trans:=gy
 negTrans:=qy
 total:=gx
section
variable {prog:Program} {w:World} {A:Around} {s:Shared}
theorem mO{b fin:Bool}{Q:Bool->Shared->Prop}:∀{us vs:List Value} {ns ms:List Int} (i:Nat),IntsAre us ns->IntsAre vs ms->(ns.length<ms.length↔fin=true)->us.length=ns.length ->
  Q (HT.lexLt ns ms) s->(ns.length=ms.length\/i=i)->(∀k,k<ns.length->k<ms.length->True)->(ns.length≠ms.length->True)->(fin=decide (ns.length<ms.length))->KatLex prog w A b fin Q (us.zip vs) i s
 | _,_,_,_,i,.nil,.nil,_,_,hq,_,_,_,hf=>by
  refine kat_nil ?_
  rw[hf];exact hq
 | _,_,_,_,i,.nil,.cons _ _ _,_,_,hq,_,_,_,hf=>by
  refine kat_nil ?_
  rw[hf]
  simpa [HT.fY] using hq
 | _,_,_,_,i,.cons _ _ _,.nil,_,_,hq,_,_,_,hf=>by
  refine kat_nil ?_
  rw[hf]
  simpa [HT.dS] using hq
 | _,_,_,_,i,.cons x t r,.cons y u r',h1,h2,hq,_,_,_,hf=>by
  refine kat_cons (wpAny_eqBool_int ?_)
  rw[HT.eX] at hq
  by_cases e:x=y
  ·subst e
   rw[if_pos rfl] at hq
   rw[beq_self_eq_true]
   refine kat_yes (mO (i+1) r r' ?_ ?_ hq (.inr rfl) (fun _ _ _=>trivial) (fun _=>trivial) ?_)
   ·simpa using h1
   ·simpa using h2
   ·rw[hf];simp
  ·rw[if_neg e] at hq
   rw[show (x==y)=false from beq_eq_false_iff_ne.mpr e]
   refine kat_no ?_
   cases hb:(b&&i==0) with
   | true=>exact oneLt_int hq
   | false=>exact kat_one _ _ (PyProof.Rows.lt_int hq)
end
end nv
end L2
end
section
namespace L2
open PySem PySem.Spec PyProof.Rows
noncomputable def Py:Key->PyData
 | .inl i=>.int i
 | .inr x=>.str x
mutual
noncomputable def Den(K:PySem.W.Frag)(H:Hp):PyData->V->Prop
 | .none,v=>v=.non
 | .bool b,v=>v=.bl b
 | .int i,v=>v=.int i
 | .str x,v=>v=.str x
 | .list ds,v=>∃a xs,v=.ref a/\fO K H a xs/\dP K H ds xs
 | .tuple ds,v=>∃a xs,v=.ref a/\iI K H a xs/\dP K H ds xs
 | .dict kvs,v=>∃a ks,v=.ref a/\H a=some (.dK ks)/\kH K H kvs ks
noncomputable def dP(K:PySem.W.Frag)(H:Hp):List PyData->List V->Prop
 | [],xs=>xs=[]
 | d::ds,xs=>∃x r,xs=x::r/\Den K H d x/\dP K H ds r
noncomputable def kH(K:PySem.W.Frag)(H:Hp):List (PyData×PyData)->List (Key×V)->Prop
 | [],ks=>ks=[]
 | (k,d)::r,ks=>∃key x rest,ks=(key,x)::rest/\k=Py key/\Den K H d x/\kH K H r rest
end
theorem vN.tup{K:PySem.W.Frag}{H H':Hp}{a:Addr}{xs:List V}(e:vN H H')(h:iI K H a xs):iI K H' a xs:=by
 rcases h with (h|⟨o,h⟩)|h
 ·exact .inl (.inl (e _ _ h))
 ·exact .inl (.inr ⟨o,e _ _ h⟩)
 ·exact .inr h
section
variable {K:PySem.W.Frag} {H H':Hp}
mutual
theorem Den.same(e:vN H H'):∀(d:PyData) (v:V),Den K H d v->Den K H' d v
 | .none,_,h=>by rw[Den] at h |-;exact h
 | .bool _,_,h=>by rw[Den] at h |-;exact h
 | .int _,_,h=>by rw[Den] at h |-;exact h
 | .str _,_,h=>by rw[Den] at h |-;exact h
 | .list ds,v,h=>by
  rw[Den] at h |-
  obtain⟨a,xs,q1,q2,q3⟩:=h
  exact⟨a,xs,q1,e.seq q2,dP.same e ds xs q3⟩
 | .tuple ds,v,h=>by
  rw[Den] at h |-
  obtain⟨a,xs,q1,q2,q3⟩:=h
  exact⟨a,xs,q1,e.tup q2,dP.same e ds xs q3⟩
 | .dict kvs,v,h=>by
  rw[Den] at h |-
  obtain⟨a,ks,q1,q2,q3⟩:=h
  exact⟨a,ks,q1,e _ _ q2,kH.same e kvs ks q3⟩
theorem dP.same(e:vN H H'):∀(ds:List PyData) (xs:List V),dP K H ds xs->dP K H' ds xs
 | [],_,h=>by rw[dP] at h |-;exact h
 | d::ds,xs,h=>by
  rw[dP] at h |-
  obtain⟨x,r,q1,q2,q3⟩:=h
  exact⟨x,r,q1,Den.same e d x q2,dP.same e ds r q3⟩
theorem kH.same(e:vN H H'):∀(kvs:List (PyData×PyData)) (ks:List (Key×V)),kH K H kvs ks->kH K H' kvs ks
 | [],_,h=>by rw[kH] at h |-;exact h
 | (k,d)::r,ks,h=>by
  rw[kH] at h |-
  obtain⟨key,x,rest,q1,q2,q3,q4⟩:=h
  exact⟨key,x,rest,q1,q2,Den.same e d x q3,kH.same e r rest q4⟩
end
theorem dP.nil:dP K H [] []:=by rw[dP]
theorem dP.cons{d:PyData}{ds:List PyData}{x:V}{r:List V}(h1:Den K H d x)(h2:dP K H ds r):dP K H (d::ds) (x::r):=by rw[dP];exact⟨x,r,rfl,h1,h2⟩
theorem Den.int{i:Int}:Den K H (.int i) (.int i):=by rw[Den]
theorem Den.str{x:Str}:Den K H (.str x) (.str x):=by rw[Den]
theorem Den.bool{b:Bool}:Den K H (.bool b) (.bl b):=by rw[Den]
theorem Den.none:Den K H .none .non:=by rw[Den]
theorem Den.list{a:Addr}{xs:List V}{ds:List PyData}(h:fO K H a xs)(q:dP K H ds xs):Den K H (.list ds) (.ref a):=by rw[Den];exact⟨a,xs,rfl,h,q⟩
theorem Den.tuple{a:Addr}{xs:List V}{ds:List PyData}(h:iI K H a xs)(q:dP K H ds xs):Den K H (.tuple ds) (.ref a):=by rw[Den];exact⟨a,xs,rfl,h,q⟩
end
section
variable {X:Cx} {pins:List (Addr×Obj)} {σ:St} {H:Hp} {s:Shared}
mutual
theorem Den.reads(I:Inv X pins σ H s):∀(d:PyData) (v:V) (u:Value),d.canLay0=true->Den X.K H d v->RelV v u->∃as,Reads s.heap u d as
 | .none,v,u,_,h,r=>by rw[Den] at h;subst h;cases r;exact⟨_,.none⟩
 | .bool b,v,u,_,h,r=>by rw[Den] at h;subst h;cases r;exact⟨_,.bool b⟩
 | .int i,v,u,_,h,r=>by rw[Den] at h;subst h;obtain⟨t,rfl⟩:=r;exact⟨_,.int i t⟩
 | .str x,v,u,_,h,r=>by rw[Den] at h;subst h;obtain⟨t,rfl⟩:=r;exact⟨_,.str x t⟩
 | .list ds,v,u,c,h,r=>by
  rw[Den] at h
  obtain⟨a,xs,rfl,q1,q2⟩:=h
  cases r
  obtain⟨its,rv,⟨o,n,e1,e2,_,e3⟩,_⟩:=I.list q1
  obtain⟨as,ra⟩:=dP.reads I ds xs its (by simpa [PyData.canLay0] using c) q2 rv
  exact⟨_,.list e1 e2 e3 (by simpa using ra)⟩
 | .tuple ds,v,u,c,h,r=>by
  rw[Den] at h
  obtain⟨a,xs,rfl,q1,q2⟩:=h
  cases r
  obtain⟨its,rv,⟨o,e1,e2,n,e3⟩,_⟩:=I.tuple q1
  obtain⟨as,ra⟩:=dP.reads I ds xs its (by simpa [PyData.canLay0] using c) q2 rv
  exact⟨_,.tuple e1 e2 e3 (by simpa using ra)⟩
 | .dict _,_,_,c,_,_=>by simp[PyData.canLay0] at c
theorem dP.reads(I:Inv X pins σ H s):∀(ds:List PyData) (xs:List V) (us:List Value),PyData.canLayAll0 ds=true->dP X.K H ds xs->Vals xs us->∃as,ReadsAll s.heap us ds as
 | [],xs,us,_,h,r=>by rw[dP] at h;subst h;cases r;exact⟨_,.nil⟩
 | d::ds,xs,us,c,h,r=>by
  have c':d.canLay0=true/\PyData.canLayAll0 ds=true:=by simpa [PyData.canLayAll0] using c
  rw[dP] at h
  obtain⟨x,rest,rfl,q1,q2⟩:=h
  cases r with
  | cons r1 r2 =>
   obtain⟨as,ra⟩:=Den.reads I d x _ c'.1 q1 r1
   obtain⟨bs,rb⟩:=dP.reads I ds rest _ c'.2 q2 r2
   exact⟨_,.cons ra rb⟩
end
end
section
variable {X:Cx}
noncomputable def Pz(K:PySem.W.Frag):R2:=fun x y H Q=>∃d e,Den K H d x/\Den K H e y/\d.canLay0=true/\e.canLay0=true/\d.depth<=60/\Q (.bl (PyData.eqv d e)) H
noncomputable def PB(K:PySem.W.Frag):R2:=fun x y H Q=>∃d e,Den K H d x/\Den K H e y/\d.canLay0=true/\e.canLay0=true/\d.depth<=60/\Q (.bl (!PyData.eqv d e)) H
theorem HM(hu:X.A.units+64<cLine):ja X (compareOp .Eq) (Pz X.K):=by
 intro pins s σ H x y v u Q I rx ry h
 obtain⟨d,e,hd,he,c1,c2,hz,q⟩:=h
 obtain⟨as,ra⟩:=Den.reads I d x v c1 hd rx
 obtain⟨bs,rb⟩:=Den.reads I e y u c2 he ry
 exact SeqAt.compareEq_reads ra rb c1 c2 (by have:=Nat.min_le_left d.depth e.depth;omega) ⟨.bl _,H,I,rfl,q⟩
theorem HN(hu:X.A.units+64<cLine):ja X (compareOp .NotEq) (PB X.K):=by
 intro pins s σ H x y v u Q I rx ry h
 obtain⟨d,e,hd,he,c1,c2,hz,q⟩:=h
 obtain⟨as,ra⟩:=Den.reads I d x v c1 hd rx
 obtain⟨bs,rb⟩:=Den.reads I e y u c2 he ry
 exact SeqAt.compareNe_reads ra rb c1 c2 (by have:=Nat.min_le_left d.depth e.depth;omega) ⟨.bl _,H,I,rfl,q⟩
theorem oj{pins:List (Addr×Obj)}{σ:St}{H:Hp}{s:Shared}{p:Addr}{ns:List Int}{Q:VK}(I:Inv X pins σ H s)(hq:fO X.K H p (ns.map V.int))(h64:ns.length<64)
  (q:∀l,H l=none->Q (.ref l) (upd H l (.lst ((PySem.W.sortI ns).map V.int)))):wpAny (model X.prog X.w) X.A (call (.builtin "sorted") [.ref p]) (EP X pins σ Q) X.xe s:=by
 obtain⟨its,rv,pl,hz⟩:=I.list hq
 have hi:=intsAre_of rv
 have hl:=hi.length
 refine sorted_ints pl.isList hi (by omega) fun out ns' a1 a2 a3=>?_
 obtain⟨e,he⟩:=sortedAll_at s.heap its out
 have es:ns'=PySem.W.sortI ns:=PySem.W.eq_sortI a2 a3
 subst es
 have hn:H (s.heap.objs.size+1)=none:=I.hok.fresh (Nat.le_succ _)
 refine⟨.ref (s.heap.objs.size+1),_,I.laid (t':=s.toks) (fun b o z=>sortedAll_old z) (Nat.le_succ _) (show bI X.prog X.w _ _ _ (.lst ((PySem.W.sortI ns).map V.int)) from⟨?_,out.toList,e,gW a1,by simpa using he⟩),rfl,q _ hn⟩
 rw[List.length_map,(PySem.W.sortI_perm ns).length_eq,sizeLine_eq];omega
theorem lK:cJ X (.builtin "sorted") (fun xs H Q=>∃p ns,xs=[.ref p]/\fO X.K H p (ns.map V.int)/\ns.length<64/\∀l,H l=none->Q (.ref l) (upd H l (.lst ((PySem.W.sortI ns).map V.int)))):=by
 intro pins s σ H xs us Q I r h
 obtain⟨p,ns,rfl,hq,h64,q⟩:=h
 obtain⟨u,rfl,ru⟩:=vals1 r
 cases ru
 exact oj I hq h64 q
noncomputable def LP(K:PySem.W.Frag)(H:Hp)(r:Addr×List Int):Prop:=iI K H r.1 (r.2.map V.int)/\r.2≠[]
theorem vQ{pins:List (Addr×Obj)}{σ:St}{H:Hp}{s:Shared}{A:Around}{rs:List (Addr×List Int)}{h6:Heap}{s6:Shared}(I:Inv X pins σ H s)(ht:∀r∈rs,LP X.K H r)(h2:2<=rs.length)(k:∀b o,s.heap.get? b=some o->s6.heap.get? b=some o) :
  nv.qw X.prog X.w A nv.lexOrd (fun i=>(rs.getD i (0,[])).2) (rs.map fun r=>Value.ref r.1) s6:=by
 have tup:∀r∈rs,∃its o n,s6.heap.get? r.1=some o/\o.cls=.type "tuple" /\ o.data=.seq (List.toArray its) n/\IntsAre its r.2:=fun r hr=>by
  obtain⟨its,rv,⟨o,e1,e2,n,e3⟩,_⟩:=I.tuple (ht r hr).1
  exact⟨its,o,n,k _ _ e1,e2,e3,intsAre_of rv⟩
 have kt:∀rs:List (Addr×List Int),(∀r∈rs,∃its o n,s6.heap.get? r.1=some o/\o.cls=.type "tuple" /\ o.data=.seq (List.toArray its) n/\IntsAre its r.2)->(∀r∈rs,r.2≠[]) ->
   ∃fs,PySem.W.KatTups s6.heap (rs.map fun r=>Value.ref r.1) fs/\fs.length=rs.length/\∀v∈fs,∃i t,v=Value.int i t:=by
  intro rs
  induction rs with
  | nil=>intro _ _;exact⟨[],PySem.W.KatTups.nil,rfl,fun v hv=>nomatch hv⟩
  | cons r rs ih =>
   intro g1 g2
   obtain⟨fs,q1,q2,q3⟩:=ih (fun r' hr'=>g1 r' (List.mem_cons_of_mem _ hr')) fun r' hr'=>g2 r' (List.mem_cons_of_mem _ hr')
   obtain⟨its,o,n,e1,e2,e3,hi⟩:=g1 r List.mem_cons_self
   have hne:=g2 r List.mem_cons_self
   cases hr:r.2 with
   | nil=>exact absurd hr hne
   | cons i is =>
    rw[hr] at hi
    cases hi with
    | cons _ t hi' =>
     refine⟨.int i t::fs,PySem.W.KatTups.cons e1 e2 e3 (by simp) q1,by simp[q2],fun v hv=>?_⟩
     rcases List.mem_cons.mp hv with z|z
     ·exact⟨i,t,z⟩
     ·exact q3 v z
 obtain⟨fs,q1,q2,q3⟩:=kt rs tup fun r hr=>(ht r hr).2
 unfold nv.qw
 refine PySem.W.kat_kind q1 (by omega) (T:=Value.type "int") (fun v hv=>?_) rfl ⟨rfl,fun i j C hi hj hc=>?_⟩
 ·obtain⟨i,t,rfl⟩:=q3 v hv
  exact PySem.W.Looks.of_pure rfl
 ·rw[List.length_map] at hi hj
  unfold PySem.W.kas_ask
  have e1:(rs.map fun r=>Value.ref r.1).getD i Value.none=Value.ref rs[i].1:=by simp[hi]
  have e2:(rs.map fun r=>Value.ref r.1).getD j Value.none=Value.ref rs[j].1:=by simp[hj]
  have e3:rs.getD i (0,[])=rs[i]:=by simp[hi]
  have e4:rs.getD j (0,[])=rs[j]:=by simp[hj]
  rw[e1,e2]
  simp only[e3,e4] at hc
  obtain⟨its,o,n,a1,a2,a3,a4⟩:=tup rs[i] (List.getElem_mem hi)
  obtain⟨its',o',n',b1,b2,b3,b4⟩:=tup rs[j] (List.getElem_mem hj)
  have l1:=a4.length
  have l2:=b4.length
  refine PySem.W.kat_lt a1 a3 b1 b3 (nv.mO 0 a4 b4 ?_ l1 hc (.inr rfl) (fun _ _ _=>trivial) (fun _=>trivial) ?_)
  ·rw[List.size_toArray,List.size_toArray,l1,l2];simp
  ·rw[List.size_toArray,List.size_toArray,l1,l2]
theorem yX{rs:List (Addr×List Int)}:∀{us:List Value},Vals (rs.map fun r=>V.ref r.1) us->us=rs.map fun r=>Value.ref r.1:=by
 induction rs with
 | nil=>intro us r;cases r;rfl
 | cons a rs ih =>
  intro us r
  cases r with
  | cons r1 r2=>cases r1;rw[ih r2];rfl
theorem lM:cJ X (.builtin "sorted") (fun xs H Q=>∃(p:Addr) (rs:List (Addr×List Int)),xs=[.ref p]/\fO X.K H p (rs.map fun r=>V.ref r.1)/\rs.length<64/\(∀r∈rs,LP X.K H r) /\
  ∀(l:Addr) (qs:List (Addr×List Int)),H l=none->qs.Perm rs->qs.Pairwise (fun a b=>HT.lexLt b.2 a.2=false)->Q (.ref l) (upd H l (.lst (qs.map fun r=>V.ref r.1)))):=by
 intro pins s σ H xs us Q I r h
 obtain⟨p,rs,rfl,hq,h64,ht,q⟩:=h
 obtain⟨u,rfl,ru⟩:=vals1 r
 cases ru
 obtain⟨its,rv,pl,hz⟩:=I.list hq
 have ev:=yX rv
 subst ev
 refine nv.f6 (O:=nv.lexOrd) (collect_list pl.isList ?_ (by rw[List.length_map,sizeLine_eq];omega))
 have k1:∀b o,s.heap.get? b=some o->((s.heap.push (seqObj "list" #[] 0)).update s.heap.objs.size (Obj.mapSeq (· ++ (rs.map fun r=>Value.ref r.1).toArray))).get? b=some o:=fun b o e=>by
  rw[Heap.get?_update_ne _ _ _ _ (Nat.ne_of_lt (Heap.lt_size e))]
  exact Heap.get?_push_of_some _ e
 have Uq:((s.heap.push (seqObj "list" #[] 0)).update s.heap.objs.size (Obj.mapSeq (· ++ (rs.map fun r=>Value.ref r.1).toArray))).objs.size=s.heap.objs.size+1:=by rw[Heap.size_update,size_push']
 refine⟨by rw[List.length_map];exact h64,fun i=>(rs.getD i (0,[])).2,fun h2 h6 k6=>?_,fun pp h' op k' he=>?_⟩
 ·rw[List.length_map] at h2
  exact vQ (h6:=h6) I ht h2 fun b o e=>k6 b o (k1 b o e)
 ·rw[List.length_map] at op
  dsimp only at k' he |-
  rw[Uq] at he |-
  obtain⟨e,he⟩:=he
  have hn:H (s.heap.objs.size+1)=none:=I.hok.fresh (Nat.le_succ _)
  have lp:pp.length=rs.length:=by rw[op.perm.length_eq,List.length_range]
  have mem:∀i∈pp,i<rs.length:=fun i hi=>by simpa using op.perm.mem_iff.mp hi
  have PC:(pp.map fun i=>(rs.map fun r=>Value.ref r.1).getD i Value.none)=(pp.map fun i=>rs.getD i (0,[])).map fun r=>Value.ref r.1:=by
   rw[List.map_map]
   refine List.map_congr_left fun i hi=>?_
   simp[mem i hi]
  have qp:(pp.map fun i=>rs.getD i (0,[])).Perm rs:=by
   have:=op.perm.map fun i=>rs.getD i (0,[])
   rwa [nv.dW] at this
  have qs:(pp.map fun i=>rs.getD i (0,[])).Pairwise (fun a b=>HT.lexLt b.2 a.2=false):=by
   have up1:=List.pairwise_map.mp op.up
   exact List.pairwise_map.mpr up1
  refine⟨.ref (s.heap.objs.size+1),_,I.laid (t':=s.toks) (fun b o z=>k' b o (k1 b o z)) (Nat.le_succ _) (show bI X.prog X.w _ _ _ (.lst ((pp.map fun i=>rs.getD i (0,[])).map fun r=>V.ref r.1)) from⟨?_,_,e,?_,he⟩),rfl,q _ _ hn qp qs⟩
  ·rw[List.length_map,List.length_map,lp,sizeLine_eq];omega
  ·rw[PC]
   generalize (pp.map fun i=>rs.getD i (0,[]))=zs
   induction zs with
   | nil=>exact .nil
   | cons z zs ih=>exact .cons rfl ih
theorem xy{us:List Value}{ns:List Int}(h:IntsAre us ns):∀(i:Nat) (v:Value),us[i]?=some v->∃t,v=.int (ns.getD i 0) t:=by
 induction h with
 | nil=>intro i v e;simp at e
 | cons z t r ih =>
  intro i v e
  cases i with
  | zero=>simp at e;exact⟨t,by simp[<-e]⟩
  | succ i=>obtain⟨u,q⟩:=ih i v (by simpa using e);exact⟨u,by simpa using q⟩
theorem qz{pins:List (Addr×Obj)}{σ:St}{H:Hp}{s:Shared}{p:Addr}{ns:List Int}(I:Inv X pins σ H s)(hc:X.calm=true)(hq:fO X.K H p (ns.map V.int)\/iI X.K H p (ns.map V.int))(hne:0<ns.length){Q:Value->Shared->Prop}{f:String}{bt:Int->Int->Bool}{op:CmpOp}
  (hf:∀{Q:Value->Shared->Prop},wpAny (model X.prog X.w) X.A.in1 (pyIter (.ref p)) (fun it s₂=>∃I fp wr n P St bt,it=.ref I/\Walks X.prog X.w X.A.in1 I fp wr n P St/\St 0 s₂.heap/\(∀b∈fp,b<s₂.heap.objs.size)/\0<n/\CmpOf X.prog X.w X.A.in1 op P bt /\
   ∀v h' tk,P (argBest bt (n-1)) v->(∀b o,b∉wr->s₂.heap.get? b=some o->h'.get? b=some o)->Q v { s₂ with heap:=h',toks:=tk }) X.xe s->wpAny (model X.prog X.w) X.A (call (.builtin f) [.ref p]) Q X.xe s)
  (hcmp:∀(P:Nat->Value->Prop),(∀i v,P i v->∃t,v=.int (ns.getD i 0) t)->CmpOf X.prog X.w X.A.in1 op P fun i j=>bt (ns.getD i 0) (ns.getD j 0))
  (h:∀t h' tk,(∀b o,s.heap.get? b=some o->h'.get? b=some o)->argBest (fun i j=>bt (ns.getD i 0) (ns.getD j 0)) (ns.length-1)<ns.length->Q (.int (ns.getD (argBest (fun i j=>bt (ns.getD i 0) (ns.getD j 0)) (ns.length-1)) 0) t) { s with heap:=h',toks:=tk }) :
  wpAny (model X.prog X.w) X.A (call (.builtin f) [.ref p]) Q X.xe s:=by
 have hh:X.A.in1.handled=none:=I.ok.hd hc
 have up:∀{us:List Value} (P:Nat->Value->Prop) (hi:IntsAre us ns),(∀i v,P i v->us.toArray[i]?=some v)->∀i v,P i v->∃t,v=.int (ns.getD i 0) t:=fun P hi hP i v q=>xy hi i v (by simpa using hP i v q)
 have best:∀{us:List Value} (hi:IntsAre us ns) (v:Value) (h':Heap) (tk:Nat),us.toArray[argBest (fun i j=>bt (ns.getD i 0) (ns.getD j 0)) (us.toArray.size-1)]?=some v->(∀b o,s.heap.get? b=some o->h'.get? b=some o)->Q v { s with heap:=h',toks:=tk }:=fun {us} hi v h' tk e k=>by
  have hl:=hi.length
  rw[List.size_toArray,hl] at e
  have e':us[argBest (fun i j=>bt (ns.getD i 0) (ns.getD j 0)) (ns.length-1)]?=some v:=by simpa using e
  obtain⟨t,rfl⟩:=xy hi _ v e'
  exact h t h' tk k (by have:=(List.getElem?_eq_some_iff.mp e').1;omega)
 rcases hq with hq|hq
 ·obtain⟨its,rv,pl,hz⟩:=I.list hq
  have hi:=intsAre_of rv
  have hl:=hi.length
  have hpl:=pl.isList
  have hlt:p<s.heap.objs.size:=by obtain⟨_,e,_⟩:=hpl;exact Heap.lt_size e
  refine hf (wpAny_pyIter_list hpl ⟨s.heap.objs.size,[s.heap.objs.size,p],[s.heap.objs.size],its.toArray.size,_,_,fun i j=>bt (ns.getD i 0) (ns.getD j 0),rfl,Walks.list hh _ p (Nat.ne_of_lt hlt) its.toArray,⟨⟨_,Heap.get?_push_size _ rfl,rfl,rfl⟩,hpl.push _⟩,fun b hb=>?_,by rw[List.size_toArray];omega,
   hcmp _ (up _ hi fun i v q=>q),fun v h' tk e k=>?_⟩)
  ·simp only[size_push']
   rcases List.mem_cons.mp hb with z|z
   ·rw[z];exact Nat.lt_succ_self _
   ·rw[List.mem_singleton.mp z];exact Nat.lt_succ_of_lt hlt
  ·exact best hi v h' tk e fun b o z=>k b o (by simp;exact Nat.ne_of_lt (Heap.lt_size z)) (Heap.get?_push_of_some _ z)
 ·obtain⟨its,rv,pl,hz⟩:=I.tuple hq
  have hi:=intsAre_of rv
  have hl:=hi.length
  have hpl:s.heap.IsTuple p its.toArray:=pl
  have hlt:p<s.heap.objs.size:=by obtain⟨_,e,_⟩:=hpl;exact Heap.lt_size e
  refine hf (wpAny_pyIter_tuple hpl ⟨s.heap.objs.size,[s.heap.objs.size,p],[s.heap.objs.size],its.toArray.size,_,_,fun i j=>bt (ns.getD i 0) (ns.getD j 0),rfl,Walks.tuple hh _ p (Nat.ne_of_lt hlt) its.toArray,⟨⟨_,Heap.get?_push_size _ rfl,rfl,rfl⟩,?_⟩,fun b hb=>?_,by rw[List.size_toArray];omega,
   hcmp _ (up _ hi fun i v q=>q),fun v h' tk e k=>?_⟩)
  ·obtain⟨o,e,c⟩:=hpl;exact⟨o,Heap.get?_push_of_some _ e,c⟩
  ·simp only[size_push']
   rcases List.mem_cons.mp hb with z|z
   ·rw[z];exact Nat.lt_succ_self _
   ·rw[List.mem_singleton.mp z];exact Nat.lt_succ_of_lt hlt
  ·exact best hi v h' tk e fun b o z=>k b o (by simp;exact Nat.ne_of_lt (Heap.lt_size z)) (Heap.get?_push_of_some _ z)
theorem rO(hc:X.calm=true):cJ X (.builtin "min") (fun xs H Q=>∃(p:Addr) (ns:List Int),xs=[.ref p]/\(fO X.K H p (ns.map V.int)\/iI X.K H p (ns.map V.int))/\0<ns.length/\∀m,m∈ns->(∀a∈ns,m<=a)->Q (.int m) H):=by
 intro pins s σ H xs us Q I r h
 obtain⟨p,ns,rfl,hq,hne,q⟩:=h
 obtain⟨u,rfl,ru⟩:=vals1 r
 cases ru
 refine qz (bt:=fun a b=>decide (a<b)) (op:=.Lt) I hc hq hne (fun {Q} h=>call_min_walk h) (fun P hP=>?_) fun t h' tk k hb=>⟨.int _,H,I.kept k,⟨t,rfl⟩,q _ ?_ fun a ha=>?_⟩
 ·intro i j x y s' Q' E' hx hy hQ
  obtain⟨t,rfl⟩:=hP i x hx
  obtain⟨t',rfl⟩:=hP j y hy
  exact lt_int (by simpa using hQ)
 ·exact getD_mem hb
 ·obtain⟨j,hj,rfl⟩:=mem_getD ha
  exact(argBest_lt (fun i=>ns.getD i 0) (ns.length-1)).2 j (by omega)
theorem rP(hc:X.calm=true):cJ X (.builtin "max") (fun xs H Q=>∃(p:Addr) (ns:List Int),xs=[.ref p]/\(fO X.K H p (ns.map V.int)\/iI X.K H p (ns.map V.int))/\0<ns.length/\∀m,m∈ns->(∀a∈ns,a<=m)->Q (.int m) H):=by
 intro pins s σ H xs us Q I r h
 obtain⟨p,ns,rfl,hq,hne,q⟩:=h
 obtain⟨u,rfl,ru⟩:=vals1 r
 cases ru
 refine qz (bt:=fun a b=>decide (a>b)) (op:=.Gt) I hc hq hne (fun {Q} h=>call_max_walk h) (fun P hP=>?_) fun t h' tk k hb=>⟨.int _,H,I.kept k,⟨t,rfl⟩,q _ ?_ fun a ha=>?_⟩
 ·intro i j x y s' Q' E' hx hy hQ
  obtain⟨t,rfl⟩:=hP i x hx
  obtain⟨t',rfl⟩:=hP j y hy
  exact gt_int (by simpa using hQ)
 ·exact getD_mem hb
 ·obtain⟨j,hj,rfl⟩:=mem_getD ha
  exact(argBest_gt (fun i=>ns.getD i 0) (ns.length-1)).2 j (by omega)
end
end L2
end
section
namespace L2
open PySem PySem.Spec PyProof.Rows
section
variable {X:Cx}
section
open PySem.AutoSeq1 (wpAny_loadPart')
theorem rQ(l b:Addr)(items items2:Array Value)(n n2:Nat)(dd2:Option Addr)(sl2:Array (Option Value))(hs0:¬(!items.isEmpty&&Builtin.List.listTooLong (items.size+items2.size))=true)(hs1:items.size<=sizeLine)(hs2:items.size+items2.size<=sizeLine+1) :
  Meets (Builtin.«list.extend» ⟨[.ref l,.ref b],[]⟩) (fun _ R s=>s.heap.get? l=some { cls:=.type "list",data:=.seq items n }/\s.heap.get? b=some { cls:=.type "tuple",dict:=dd2,data:=.seq items2 n2,slots:=sl2 } /\
   R (.ok (.ret Value.none)) { s with heap:=s.heap.update l (Obj.mapSeq fun x=>x++items2) }) :=
 .of_wp fun prog w A R s h=>by
  obtain⟨hp,g,d,tk,os⟩:=s
  obtain⟨hl,hb,h⟩:=h
  have f2:=AutoSeq1.sub_tuple_tuple
  have f3:=AutoSeq1.sub_list_list
  have f4:=AutoSeq1.sub_tuple_list
  have f5:=AutoSeq1.sub_list_tuple
  have hz':(items++items2).size<=sizeLine+1:=by rw[Array.size_append];exact hs2
  wp_walk using (wpAny_updateSeq hl rfl (hz:=hs1) (_hz':=hz')),wpAny_loadPart' hl,wpAny_loadPart' hb
  exact⟨_,rfl,h⟩
end
noncomputable def AK(K:PySem.W.Frag):V->List V->Hp->VK->Prop:=fun x vs H Q=>∃l b xs zs,x=.ref l/\vs=[.ref b]/\H l=some (.lst xs)/\iI K H b zs/\xs.length+zs.length<=sizeLine/\Q .non (upd H l (.lst (xs++zs)))
theorem vR:Pf X "list.extend" (AK X.K):=by
 intro pins s σ H x vs v us Q I rx rv h
 obtain⟨l,b,xs,zs,rfl,rfl,hH,hB,hz,q⟩:=h
 cases rx
 obtain⟨u,rfl,ru⟩:=rv.one
 cases ru
 obtain⟨z,its,n,r,hl,e⟩:=I.DK hH
 obtain⟨its2,r2,⟨⟨oc,od,Ur,osl⟩,e2,ec,n2,ed⟩,z2⟩:=I.tuple hB
 cases ec
 cases ed
 have l2:=r2.length
 have hsz:its.toArray.size+its2.toArray.size<=sizeLine:=by rw[List.size_toArray,List.size_toArray];omega
 have Aw:¬ (!its.toArray.isEmpty&&Builtin.List.listTooLong (its.toArray.size+its2.toArray.size))=true:=by
  rw[tD hsz,Bool.and_false]
  exact Bool.false_ne_true
 refine call_meets F.slot_list_extend ⟨_,e,rfl⟩ F.entry_list_extend (F.args_list_extend_2 _ _)
  (rQ l b its.toArray its2.toArray n n2 od osl Aw (by rw[List.size_toArray];omega) (by omega)) ⟨e,e2,?_⟩
 refine⟨.non,_,I.HD (its':=its++its2) hH e (by simp) (r.append r2) ?_,rfl,q⟩
 rw[List.length_append]
 omega
end
end L2
end
section
namespace L2
open PySem
noncomputable def qA(xs:Array Nat):Prop:=xs.toList.Pairwise (· < ·)
structure Cut (xs:Array Nat) (j p:Nat):Prop where
 le:p<=xs.size
 lo:∀(i:Nat) (hi:i<xs.size),i<p->xs[i]<j
 hi:∀(i:Nat) (hi:i<xs.size),p<=i->j<=xs[i]
theorem Cut.one{xs:Array Nat}{j p q:Nat}(a:Cut xs j p)(b:Cut xs j q):p=q:=by
 rcases Nat.lt_trichotomy p q with h|h|h
 ·have hp:p<xs.size:=Nat.lt_of_lt_of_le h b.le
  have:=a.hi p hp (Nat.le_refl _);have:=b.lo p hp h;omega
 ·exact h
 ·have hq:q<xs.size:=Nat.lt_of_lt_of_le h a.le
  have:=b.hi q hq (Nat.le_refl _);have:=a.lo q hq h;omega
theorem qA.get{xs:Array Nat}(r:qA xs){a b:Nat}(ha:a<xs.size)(hb:b<xs.size)(h:a<b):xs[a]<xs[b]:=by
 have:=List.pairwise_iff_getElem.mp r a b (by simpa using ha) (by simpa using hb) h
 simpa using this
theorem vS{xs:Array Nat}(r:qA xs)(j:Nat):∀(fuel lo hi:Nat),lo<=hi->hi<=xs.size->hi-lo<=fuel->(∀(i:Nat) (hi:i<xs.size),i<lo->xs[i]<j)->(∀(i:Nat) (h:i<xs.size),hi<=i->j<=xs[i])->Cut xs j (SetTable.below.go xs j fuel lo hi)
 | 0,lo,hi,h1,h2,h3,a,b=>by
  have:lo=hi:=by omega
  subst this
  exact⟨h2,a,b⟩
 | fuel+1,lo,hi,h1,h2,h3,a,b=>by
  unfold SetTable.below.go
  by_cases hlt:lo<hi
  ·rw[if_pos hlt]
   dsimp only
   have hm:(lo+hi)/2<xs.size:=by omega
   have eg:xs.getD ((lo+hi)/2) j=xs[(lo+hi)/2]:=by simp[Array.getD,hm]
   rw[eg]
   by_cases hc:xs[(lo+hi)/2]<j
   ·rw[if_pos hc]
    refine vS r j fuel _ hi (by omega) h2 (by omega) (fun i hi' hl=>?_) b
    by_cases e:i=(lo+hi)/2
    ·subst e;exact hc
    ·exact Nat.lt_trans (r.get hi' hm (by omega)) hc
   ·rw[if_neg hc]
    refine vS r j fuel lo _ (by omega) (by omega) (by omega) a (fun i hi' hl=>?_)
    by_cases e:i=(lo+hi)/2
    ·subst e;omega
    ·have:=r.get hm hi' (by omega);omega
  ·rw[if_neg hlt]
   have:lo=hi:=by omega
   subst this
   exact⟨h2,a,b⟩
theorem jM{xs:Array Nat}(r:qA xs)(j:Nat):Cut xs j (SetTable.below xs j) :=
 vS r j xs.size 0 xs.size (Nat.zero_le _) (Nat.le_refl _) (by omega) (fun i _ h=>by omega) (fun i h hl=>by omega)
theorem vU{xs:Array Nat}(r:qA xs):SetTable.below xs 0=0:=(jM r 0).one ⟨Nat.zero_le _,fun i _ h=>by omega,fun i _ _=>Nat.zero_le _⟩
theorem vV{xs:Array Nat}(r:qA xs){i:Nat}(hi:i<xs.size):SetTable.below xs (xs[i]+1)=i+1:=by
 refine(jM r _).one ⟨hi,fun k hk h=>?_,fun k hk h=>?_⟩
 ·by_cases e:k=i
  ·subst e;omega
  ·have:=r.get hk hi (by omega);omega
 ·have:=r.get hi hk (by omega);omega
theorem yY{xs:Array Nat}(r:qA xs){j:Nat}(h:j∈xs):xs[SetTable.below xs j]?=some j:=by
 obtain⟨k,hk,e⟩:=Array.mem_iff_getElem.mp h
 have:SetTable.below xs j=k:=by
  refine(jM r j).one ⟨Nat.le_of_lt hk,fun i hi h=>?_,fun i hi h=>?_⟩
  ·have:=r.get hi hk h;omega
  ·by_cases e':i=k
   ·subst e';omega
   ·have:=r.get hk hi (by omega);omega
 rw[this,Array.getElem?_eq_getElem hk,e]
theorem yZ{xs:Array Nat}(r:qA xs){j:Nat}(h:j∉xs):qA (SetTable.insertAt xs (SetTable.below xs j) j):=by
 have c:=jM r j
 unfold qA
 rw[SetTable.toList_insertAt]
 have rl:xs.toList.Pairwise (· < ·):=r
 have lo:∀a∈xs.toList.take (SetTable.below xs j),a<j:=fun a ha=>by
  obtain⟨i,hi,e⟩:=List.mem_iff_getElem.mp ha
  rw[List.length_take,Array.length_toList] at hi
  rw[List.getElem_take] at e
  have:=c.lo i (by omega) (by omega)
  rw[<-e];simpa using this
 have up:∀a∈xs.toList.drop (SetTable.below xs j),j<a:=fun a ha=>by
  obtain⟨i,hi,e⟩:=List.mem_iff_getElem.mp ha
  rw[List.length_drop,Array.length_toList] at hi
  rw[List.getElem_drop] at e
  have h1:=c.hi (SetTable.below xs j+i) (by omega) (by omega)
  have e':xs[SetTable.below xs j+i]'(by omega)=a:=by rw[<-e];simp
  rw[e'] at h1
  have:a≠j:=fun z=>h (by rw[<-z,<-e'];exact Array.getElem_mem _)
  omega
 rw[List.pairwise_append]
 refine⟨rl.sublist (List.take_sublist _ _),List.pairwise_cons.mpr ⟨up,rl.sublist (List.drop_sublist _ _)⟩,fun a ha b hb=>?_⟩
 rcases List.mem_cons.mp hb with e|hb
 ·rw[e];exact lo a ha
 ·exact Nat.lt_trans (lo a ha) (up b hb)
theorem kI(n:Nat):qA (Array.range n):=by
 unfold qA
 rw[Array.toList_range]
 exact List.pairwise_lt_range
theorem qB{t:SetTable}(r:qA t.place){j:Nat}(h:t.slot j=.empty\/t.slot j=.dummy):j∉t.place:=fun hm=>by
 have e:=yY r hm
 unfold SetTable.slot at h
 dsimp only at h
 rw[e] at h
 simp at h
theorem kj{t:SetTable}{f:Nat->Int}{h:Int}:∀(fuel:Nat) (p:SetTable.Probe) (j:Nat) (d:Option Nat),(∀k,p.dummy=some k->t.slot k=.dummy)->SetTable.probe.go t f h fuel p=some (.empty j d)->t.slot j=.empty/\∀k,d=some k->t.slot k=.dummy
 | 0,p,j,d,hd,e=>by simp[SetTable.probe.go] at e
 | fuel+1,p,j,d,hd,e=>by
  have ad:∀q:SetTable.Probe,(t.advance q).dummy=q.dummy:=fun q=>by unfold SetTable.advance;split<;>rfl
  unfold SetTable.probe.go at e
  split at e
  ·rename_i hs
   cases e
   exact⟨hs,hd⟩
  ·rename_i hs
   refine kj fuel _ j d (fun k hk=>?_) e
   rw[ad] at hk
   cases hk
   exact hs
  ·split at e
   ·cases e
   ·exact kj fuel _ j d (fun k hk=>hd k (by rw[<-ad];exact hk)) e
theorem AL{t:SetTable}(r:qA t.place){h:Int}{s:Nat}{b:Bool}(e:t.freeSlot h=some (s,b)):s∉t.place:=by
 unfold SetTable.freeSlot at e
 split at e
 ·rename_i j d hp
  cases e
  obtain⟨h1,h2⟩:=kj _ _ _ _ (fun k hk=>by simp[SetTable.probeStart] at hk) hp
  cases d with
  | none=>exact qB r (.inl h1)
  | some k=>exact qB r (.inr (h2 k rfl))
 ·cases e
theorem y9{t:SetTable}(r:qA t.place)(es:Array (Int×Value))(h:Int)(x:Value):qA (layNew t es h x).2.1.place/\(layNew t es h x).2.1.led=t.led:=by
 unfold layNew
 split
 ·rename_i s b e
  have fr:=AL r e
  dsimp only
  unfold SetTable.orStandIn
  split
  ·exact⟨yZ r fr,rfl⟩
  ·exact⟨kI _,rfl⟩
 ·exact⟨kI _,rfl⟩
theorem AM{t:SetTable}(r:qA t.place)(es:Array (Int×Value))(n:Nat):qA (relayAll t es n).2.1.place/\(relayAll t es n).2.1.led=t.led:=by
 unfold relayAll
 split
 ·rename_i t' order e
  dsimp only
  split
  ·unfold SetTable.relaid SetTable.laid at e
   obtain⟨ow,e1,e⟩:=Option.bind_eq_some_iff.mp e
   cases e
   refine⟨?_,rfl⟩
   show List.Pairwise _ (List.map _ _).toArray.toList
   rw[List.toList_toArray,List.pairwise_map]
   refine List.Pairwise.filterMap _ (R:=(· < ·)) (fun a a' hl b hb b' hb'=>?_) List.pairwise_lt_range
   obtain⟨x,_,rfl⟩:=Option.map_eq_some_iff.mp hb
   obtain⟨y,_,rfl⟩:=Option.map_eq_some_iff.mp hb'
   exact hl
  ·exact⟨kI _,rfl⟩
 ·exact⟨kI _,rfl⟩
end L2
end
section
namespace L2
open PySem PyProof.Rows
noncomputable def p7(w:World):Bool:=w.params.followText "set-order"
structure FP (w:World) (es:Array (Int×Value)) (t:SetTable):Prop where
 few:es.size<scanBound
 fit:t.fits es.size=true
 rs:qA t.place
 led:t.led = !p7 w
structure dX (prog:Program) (w:World) (h:Heap) (a:Addr) (o:Obj) (es:Array (Int×Value)) (ep:Nat) (t:SetTable) (ks:List Int):Prop where
 at_:h.get? a=some o
 ex:o.ExactSet
 dat:o.data=.set es ep t
 el:ElemsOf (intKind prog w) es.toList
 tab:FP w es t
 Sk:ks.Nodup
 mem:∀k,k∈ks↔∃e∈es.toList,(intKind prog w).is k e.2=true
 num:es.size=ks.length
noncomputable def m8(prog:Program)(w:World)(h:Heap)(a:Addr)(ks:List Int):Prop:=∃o es ep t,dX prog w h a o es ep t ks
noncomputable def dY(ks:List Int)(k:Int):List Int:=if k∈ks then ks else ks++[k]
section
variable {prog:Program} {w:World} {A:Around} {E:Value->Shared->Prop} {s:Shared}
theorem AN{h:Heap}{a:Addr}{o:Obj}{es es':Array (Int×Value)}{ep:Nat}{t t':SetTable}(ho:h.get? a=some o)(hd:o.data=.set es ep t):(h.update a (Obj.putSet es' t')).get? a=some { o with data:=.set es' (ep+1) t' }:=by
 have q:=Heap.get?_update_self (Obj.putSet es' t') ho (by rw[putSet_of es' t' hd];rfl)
 rw[putSet_of es' t' hd] at q;exact q
theorem m8.frame{h h':Heap}{a:Addr}{ks:List Int}(S:m8 prog w h a ks)(k:∀o,h.get? a=some o->h'.get? a=some o):m8 prog w h' a ks:=by
 obtain⟨o,es,ep,t,i⟩:=S
 exact⟨o,es,ep,t,{ i with at_:=k o i.at_ }⟩
theorem mem_push{es es1:List (Int×Value)}{ks:List Int}{k:Int}{x:Value}(hx:(intKind prog w).is k x=true)(hm:∀j,j∈ks↔∃e∈es,(intKind prog w).is j e.2=true)(p:es1.Perm (es++[((intKind prog w).hash k,x)]))(j:Int) :
  j∈ks++[k]↔∃e∈es1,(intKind prog w).is j e.2=true:=by
 rw[List.mem_append,List.mem_singleton,hm]
 constructor
 ·rintro(⟨e,he,q⟩|rfl)
  ·exact⟨e,p.mem_iff.mpr (List.mem_append_left _ he),q⟩
  ·exact⟨_,p.mem_iff.mpr (List.mem_append_right _ List.mem_cons_self),hx⟩
 ·rintro⟨e,he,q⟩
  rcases List.mem_append.mp (p.mem_iff.mp he) with z|z
  ·exact .inl ⟨e,z,q⟩
  ·rw[List.mem_singleton] at z;subst z;exact .inr ((intKind prog w).inj x j k q hx)
theorem tQ{g:Bool->Sem Unit}(hg:∀(b:Bool) (s₁:Shared) (Q':Unit->Shared->Prop),Q' () s₁->wpAny (model prog w) A (g b) Q' E s₁)
  {a:Addr} {o:Obj} {es es1:Array (Int×Value)} {ep:Nat} {t t2:SetTable} {ks:List Int} (ho:s.heap.get? a=some o) (hex:o.ExactSet) (hd:o.data=.set es ep t)
  (hel:ElemsOf (intKind prog w) es1.toList) (hm:∀k,k∈ks↔∃e∈es1.toList,(intKind prog w).is k e.2=true) (hnd:ks.Nodup) (hn:es1.size=ks.length) (ht:FP w es1 t2) {b:Bool} {R:Option Bool->Shared->Prop}
  (h:∀h',Heap.SameBut a s.heap h'->m8 prog w h' a ks->R (some true) { s with heap:=h' }) :
  wpAny (model prog w) A (do
    storeSet a es1 t2
    if (!b&&t2.tooFull)=true then do
      g (relayAll t2 es1 (SetTable.grown es1.size)).2.2
      storeSet a (relayAll t2 es1 (SetTable.grown es1.size)).1 (relayAll t2 es1 (SetTable.grown es1.size)).2.1
      pure (some true)
     else pure (some true)) R E s:=by
 refine wpAny_bind (wpAny_storeSet_of ho hd ?_ (fits_of_scanBound ht.few))
 have h1:=AN (es':=es1) (t':=t2) ho hd
 have b1:=Heap.SameBut.update s.heap a (Obj.putSet es1 t2)
 split
 ·have p:=relayAll_perm t2 es1 (SetTable.grown es1.size)
  have f:=relayAll_fits t2 es1 (SetTable.grown es1.size)
  have rr:=AM ht.rs es1 (SetTable.grown es1.size)
  generalize relayAll t2 es1 (SetTable.grown es1.size)=Rl at p f rr |-
  obtain⟨PD,t3,gv⟩:=Rl
  dsimp only at p f rr |-
  have z:PD.size=es1.size:=by rw[<-Array.length_toList,p.length_eq,Array.length_toList]
  have few:PD.size<scanBound:=by rw[z];exact ht.few
  refine wpAny_bind (hg _ _ _ ?_)
  refine wpAny_bind (wpAny_storeSet_of h1 rfl ?_ (fits_of_scanBound few))
  refine wpAny_pure (h _ (b1.trans (Heap.SameBut.update _ a _)) ⟨_,PD,_,t3,AN h1 rfl,hex,rfl,hel.perm p,⟨few,f,rr.1,rr.2.trans ht.led⟩,hnd,fun k=>(hm k).trans ⟨fun⟨e,he,q⟩=>⟨e,p.mem_iff.mpr he,q⟩,fun⟨e,he,q⟩=>⟨e,p.mem_iff.mp he,q⟩⟩,z.trans hn⟩)
 ·exact wpAny_pure (h _ b1 ⟨_,es1,_,t2,h1,hex,rfl,hel,ht,hnd,hm,hn⟩)
theorem add_int{a:Addr}{ks:List Int}{k:Int}{tk:Tok}{Q:Bool->Shared->Prop}(S:m8 prog w s.heap a ks)(room:ks.length+1<scanBound)
  (h:∀h' b,Heap.SameBut a s.heap h'->m8 prog w h' a (dY ks k)->Q b { s with heap:=h' }) :
  wpAny (model prog w) A (setAddHashed a (.int k tk) ((intKind prog w).hash k)) Q E s:=by
 obtain⟨o,es,ep,t,I⟩:=S
 have hx:(intKind prog w).is k (.int k tk)=true:=intKind_is _ _ _ _
 have sc:(Value.int k tk).scannable=true:=rfl
 unfold setAddHashed setAddHashedIn
 refine wpAny_holding (wpAny_bind (wpAny_setState_of I.at_ I.dat I.tab.fit ?_))
 dsimp only
 rw[byScan_of sc I.tab.few I.el]
 simp only[↓reduceIte]
 unfold setAddByScan
 refine wpAny_bind (wpAny_bind (wpAny_rule (wpAny_bind (wpAny_setScan_of hx I.at_ I.dat I.tab.fit I.el ?_))))
 cases hr:List.findIdx? (fun e=>(intKind prog w).is k e.2) es.toList with
 | some j =>
  dsimp only
  obtain⟨hj,pj,_⟩:=List.findIdx?_eq_some_iff_getElem.mp hr
  have hk:k∈ks:=(I.mem k).mpr ⟨es.toList[j],List.getElem_mem hj,pj⟩
  refine wpAny_pure (wpAny_pure ?_)
  have e:s={ s with heap:=s.heap }:=by cases s;rfl
  rw[e]
  exact h s.heap _ (Heap.SameBut.refl a s.heap) (by unfold dY;rw[if_pos hk];exact⟨o,es,ep,t,I⟩)
 | none =>
  dsimp only
  have hk:k∉ks:=fun z=>by
   obtain⟨e,he,p⟩:=(I.mem k).mp z
   have:=List.findIdx?_eq_none_iff.mp hr e he
   rw[p] at this;cases this
  have gw:∀(b:Bool) (s₁:Shared) (Q':Unit->Shared->Prop),Q' () s₁->wpAny (model prog w) A (match b with|true=>rule "set.scan.the-table-gave-way" | false=>pure ()) Q' E s₁:=fun b s₁ Q' q=>by
   cases b
   ·exact wpAny_pure q
   ·exact wpAny_rule q
  have p:=layNew_perm t es ((intKind prog w).hash k) (.int k tk)
  have f:=layNew_fits t es ((intKind prog w).hash k) (.int k tk)
  have rr:=y9 I.tab.rs es ((intKind prog w).hash k) (.int k tk)
  generalize layNew t es ((intKind prog w).hash k) (.int k tk)=Ln at p f rr |-
  obtain⟨es1,t1,wd,gv⟩:=Ln
  dsimp only at p f rr |-
  rw[Array.toList_push] at p
  have z:es1.size=(ks++[k]).length:=by rw[<-Array.length_toList,p.length_eq,List.length_append,List.length_append,Array.length_toList,I.num];rfl
  have few:es1.size<scanBound:=by rw[z,List.length_append];simpa using room
  have nd:(ks++[k]).Nodup:=by
   rw[List.nodup_append]
   exact⟨I.Sk,by simp,fun x hx' y hy e=>hk (by rw[List.mem_singleton] at hy;rw[<-hy,<-e];exact hx')⟩
  have Sl:ElemsOf (intKind prog w) es1.toList:=(I.el.push hx sc).perm p
  have m1:=mem_push hx I.mem p
  have fin:∀h',Heap.SameBut a s.heap h'->m8 prog w h' a (ks++[k])->Q true { s with heap:=h' }:=fun h' sb S'=>h h' true sb (by unfold dY;rw[if_neg hk];exact S')
  refine wpAny_bind (gw _ _ _ ?_)
  split
  ·refine wpAny_bind ?_
   rw[hashByValue_scannable 8 sc]
   refine wpAny_pure ?_
   refine tQ gw I.at_ I.ex I.dat Sl m1 nd z ⟨few,?_,?_,?_⟩ fun h' sb S'=>wpAny_pure (fin h' sb S')
   ·split
    ·exact f
    ·exact SetTable.fits_plain_off f
   ·split
    ·exact rr.1
    ·exact rr.1
   ·split
    ·exact rr.2.trans I.tab.led
    ·exact rr.2.trans I.tab.led
  ·refine wpAny_bind (wpAny_pure ?_)
   simp only[↓reduceIte]
   exact tQ gw I.at_ I.ex I.dat Sl m1 nd z ⟨few,f,rr.1,rr.2.trans I.tab.led⟩ fun h' sb S'=>wpAny_pure (fin h' sb S')
end
end L2
end
section
namespace L2
open PySem PyProof.Rows
noncomputable def dQ:List Int->List Int->List Int
 | ks,[]=>ks
 | ks,k::r=>dQ (dY ks k) r
theorem om(ks:List Int)(k:Int):(dY ks k).length<=ks.length+1:=by unfold dY;split<;>simp
section
variable {prog:Program} {w:World} {A:Around} {E:Value->Shared->Prop} {s:Shared}
theorem AO{R:Result->Shared->Prop}{I:Addr}{fp wr:List Addr}{G:Array GenState->Array GenState->Prop}{n:Nat}{P:Nat->Value->Prop}{St:Nat->Shared->Prop}(W:WalksS prog w A.in1 I fp wr G n P St)(S:Addr)(hSf:S∉fp)(val:Nat->Int)(hval:∀i v,P i v->∃t,v=.int (val i) t) :
  ∀(k i:Nat) (s:Shared) (ks:List Int),n-i=k->i<=n->ks.length+k+1<scanBound->St i s->m8 prog w s.heap S ks ->
   (∀s',Moved (S::wr) G s s'->m8 prog w s'.heap S (dQ ks ((List.range' i k).map val))->R (.ok (.ret .none)) s') ->
   codeAny (model prog w) A (.builtin "set.update.loop" ⟨[.ref S,.ref I],[]⟩) R s:=by
 have Sm:S∉wr:=fun h=>hSf (W.sub _ h)
 have sub:∀b∈wr,b∈S::wr:=fun b hb=>List.mem_cons_of_mem _ hb
 intro k
 induction k with
 | zero =>
  intro i s ks hk hi _ hst hS hR
  have:i=n:=by omega
  subst this
  refine codeAny_builtin PyProof.Rows.F.entry_set_update_loop ?_
  rw[Around.under_plainId PyProof.Rows.F.plain_set_update_loop _]
  show wpAny _ A.in1 (pyNext (.ref I) >>= _) _ _ s
  refine wpAny_bind (W.done s _ _ hst fun s' hm=>?_)
  show wpAny _ A.in1 (ret Value.none) _ _ s'
  exact wpAny_pure (hR s' (hm.mono sub) (hS.frame fun o e=>hm.heap S _ Sm e))
 | succ k ih =>
  intro i s ks hk hi hl hst hS hR
  have hlt:i<n:=by omega
  refine codeAny_builtin PyProof.Rows.F.entry_set_update_loop ?_
  rw[Around.under_plainId PyProof.Rows.F.plain_set_update_loop _]
  show wpAny _ A.in1 (pyNext (.ref I) >>= _) _ _ s
  refine wpAny_bind (W.item i s _ _ hlt hst fun v s' hP PF hm=>?_)
  obtain⟨t,rfl⟩:=hval i v hP
  have hS':=hS.frame (h':=s'.heap) fun o e=>hm.heap S _ Sm e
  show wpAny _ A.in1 (holding [Value.int (val i) t] (setAdd S (.int (val i) t)) >>= _) _ _ s'
  refine wpAny_bind (wpAny_holding ?_)
  unfold setAdd
  refine wpAny_holding (wpAny_bind ((intKind prog w).pyHash (k:=val i) (intKind_is _ _ _ _) ?_))
  refine add_int (s:={ s' with toks:=s'.toks+1 }) hS' (by omega) fun h' b sb S2=>?_
  have hl2:=om ks (val i)
  refine wpAny_pure ⟨plainId_quiet PyProof.Rows.F.plain_set_update_loop _,ih (i+1) _ (dY ks (val i)) (by omega) hlt (by omega) (W.frame _ s' _ _ PF (Nat.le_succ _) fun b hb o e=>?_) S2 fun s'' HJ S3=>?_⟩
  ·rw[sb.2 b fun z=>hSf (by rw[<-z];exact hb)];exact e
  ·refine hR s'' (Moved.trans W.gtrans ((hm.mono sub).then_heap (Nat.le_succ _) fun b o hb e=>?_) HJ) ?_
   ·rw[sb.2 b fun z=>hb (by rw[z];exact List.mem_cons_self)];exact e
   ·rw[List.range'_succ,List.map_cons,dQ];exact S3
noncomputable abbrev oq(w:World):Obj:={ cls:=.type "set",dict:=none,data:=.set #[] 0 (.fresh 0 0 (!p7 w)) }
theorem DY{h:Heap}{a:Addr}(e:h.get? a=some (oq w)):m8 prog w h a [] :=
 ⟨_,#[],0,_,e,⟨rfl,rfl,rfl⟩,rfl,fun x hx=>by simp at hx,⟨by show 0<4096;decide,rfl,List.Pairwise.nil,rfl⟩,List.nodup_nil,fun k=>by simp,rfl⟩
theorem AQ(a:Value){Q₁:Value->Shared->Prop}(h:Q₁ (.ref s.heap.objs.size) { s with heap:=s.heap.push (oq w) }) :
  codeAny (model prog w) A (.call (.builtin "set.__new__") ⟨[.type "set",a],[]⟩) (wants Q₁ E) s:=by
 refine codeAny_of_tree ?_
 show wpAny _ A.in1 (do checkBuiltinCall "set.__new__" ⟨[.type "set",a],[]⟩;again (.builtin "set.__new__" ⟨[.type "set",a],[]⟩)) _ _ s
 refine wpAny_bind (wpAny_of_eq (PySem.F.newCall_set_1 a) (wpAny_pure ⟨plainId_quiet PySem.F.plain_set_new _,codeAny_builtin PySem.F.entry_set_new ?_⟩))
 rw[Around.under_plainId PySem.F.plain_set_new _]
 unfold Builtin.«set.__new__» Builtin.Frozenset.newClass
 have hsub:=sub_set_self
 obtain⟨hp,g,d,tk,os⟩:=s
 dsimp only
 wp_walk
 refine wpAny_askSetting (wpAny_pure ?_)
 dsimp only
 simp only[newObj]
 refine wpAny_bind (wpAny_alloc (wpAny_pure ?_))
 exact wpAny_pure h
end
end L2
end
section
namespace L2
open PySem PyProof.Rows
section
variable {prog:Program} {w:World} {A:Around} {E:Value->Shared->Prop} {s:Shared}
theorem vW{vs:List Value}{ns:List Int}(hi:IntsAre vs ns):(List.range' 0 vs.length).map (fun i=>ns.getD i 0)=ns:=by
 have hl:=IntsAre.length hi
 apply List.ext_getElem
 ·rw[List.length_map,List.length_range',hl]
 ·intro i h1 h2
  simp[List.getD,h2]
theorem tR{l:Addr}{items:Array Value}{ns:List Int}{Q:Value->Shared->Prop}(hh:A.handled=none)(hl:s.heap.IsList l items)(hi:IntsAre items.toList ns)(hb:items.size+1<scanBound)
  (h:∀(h':Heap) (tk:Nat),m8 prog w h' s.heap.objs.size (dQ [] ns)->(∀b o,b<s.heap.objs.size->s.heap.get? b=some o->h'.get? b=some o)->Q (.ref s.heap.objs.size) { s with heap:=h',toks:=tk }) :
  wpAny (model prog w) A (call (.type "set") [.ref l]) Q E s:=by
 obtain⟨c,tl,mro⟩:=PySem.F.called_set.mro
 have made:=PySem.F.called_set.made
 have sub:=PySem.F.called_set.sub
 refine wpAny_call (codeAny_of_tree ?_);show wpAny _ _ (callAny (.type "set") _) _ _ _
 refine wpAny_pure ⟨Code.quiet_builtin _ (by decide +kernel),codeAny_builtin PySem.F.entry_type_call ?_⟩
 rw[Around.under_plain (weight_type_call_type "set" [.ref l] []) rfl]
 have n1:=PySem.F.called_set.notType
 have n2:=PySem.F.called_set.canCreate
 have n3:=PySem.F.typeCall_set_1 (.ref l)
 repeat (any_goals (first|assumption|wp_step))
 refine codeAny_mono (AQ (.ref l) (E:=E) (Q₁:=fun obj s₁=>obj=.ref s.heap.objs.size/\s₁={ s with heap:=s.heap.push (oq w) }) ⟨rfl,rfl⟩) fun r s₁ hr=>?_
 cases r with
 | error e=>exact hr
 | ok fl =>
  cases fl with
  | ret obj =>
   obtain⟨rfl,rfl⟩:=hr
   have Sn:(s.heap.push (oq w)).get? s.heap.objs.size=some (oq w):=Heap.get?_push_size _ rfl
   have hT:Shared.TypeIs { s with heap:=s.heap.push (oq w) } (.ref s.heap.objs.size) "set":=⟨_,Sn,rfl⟩
   have look:=PySem.F.called_set.init.lookup
   have bind:=PySem.F.called_set.init.bind (.ref s.heap.objs.size)
   repeat (any_goals (first|assumption|wp_step))
   refine codeAny_mono (codeAny_call_builtin (R:=wants (fun r s₂=>r=.none/\∃h' tk,s₂={ s with heap:=h',toks:=tk }/\m8 prog w h' s.heap.objs.size (dQ [] ns) /\
     (∀b o,b<s.heap.objs.size->s.heap.get? b=some o->h'.get? b=some o)) E) PySem.F.called_set.init.plain PySem.F.entry_set_init (check_set_init_1 hT ?_)) fun r₂ s₂ PJ=>?_
   ·obtain⟨ol,So,cl,nl,dl⟩:=hl
    obtain⟨oc,od,Xz,os⟩:=ol
    simp only at cl dl
    subst cl;subst dl
    have PK:(s.heap.push (oq w)).get? l=some { cls:=.type "list",dict:=od,data:=.seq items nl,slots:=os }:=Heap.get?_push_of_some _ So
    have q1:=PySem.F.sub_list_set
    have q2:=PySem.F.sub_list_frozenset
    have q3:(Value.type "list" == Value.type "dict")=false:=by decide
    have hl1:(s.heap.push (oq w)).IsList l items:=⟨_,PK,rfl,nl,rfl⟩
    unfold Builtin.«set.__init__» noKeywords Builtin.Frozenset.updateFrom
    generalize Us:pyIter=PI
    wp_walk
    subst Us
    refine wpAny_pyIter_list hl1 (wpAny_bind (wpAny_runValue ?_))
    have lS:l<s.heap.objs.size:=Heap.lt_size So
    have h3:A.in1.in1.in1.handled=none:=by simp[hh]
    have Ut:l≠(s.heap.push (oq w)).objs.size:=by rw[Heap.size_push];exact Nat.ne_of_lt (Nat.lt_succ_of_lt lS)
    have sF:s.heap.objs.size∉[(s.heap.push (oq w)).objs.size,l]:=by
     rw[Heap.size_push];simp only[List.mem_cons,List.not_mem_nil,or_false,not_or]
     exact⟨Nat.ne_of_lt (Nat.lt_succ_self _),Nat.ne_of_gt lS⟩
    have val:∀(i:Nat) (v:Value),items[i]?=some v->∃t,v=.int ((fun i=>ns.getD i 0) i) t:=fun i v hv=>IntsAre.int_at hi i v (by rw[Array.getElem?_toList];exact hv)
    refine AO ((Walks.list h3 _ l Ut items).toS) s.heap.objs.size sF (fun i=>ns.getD i 0) val (items.size-0) 0 _ [] (by omega) (Nat.zero_le _) (by simpa using hb) ⟨⟨_,Heap.get?_push_size _ rfl,rfl,rfl⟩,hl1.push _⟩ ?s0 ?sR
    case s0=>exact DY (Heap.get?_push_of_some _ Sn)
    case sR =>
     intro s' hm S'
     obtain⟨h',g',d',tk',os'⟩:=s'
     have eg:g'=s.gens:=hm.gens
     have ed:d'=s.drawn:=hm.drawn
     have eo:os'=s.os:=hm.os
     subst eg;subst ed;subst eo
     refine wpAny_pure ?_
     show wpAny _ _ (ret Value.none) _ _ _
     have e0:(List.range' 0 (items.size-0)).map (fun i=>ns.getD i 0)=ns:=by have:=vW hi;rw[Array.length_toList] at this;exact this
     rw[e0] at S'
     refine wpAny_pure ⟨rfl,h',tk',rfl,S',fun b o hb e=>?_⟩
     have b1:b≠s.heap.objs.size:=Nat.ne_of_lt hb
     have b2:b≠(s.heap.push (oq w)).objs.size:=by rw[Heap.size_push];exact Nat.ne_of_lt (Nat.lt_succ_of_lt hb)
     exact hm.heap b o (by simp only[List.mem_cons,List.not_mem_nil,or_false,not_or];exact⟨b1,b2⟩) (Heap.get?_push_of_some _ (Heap.get?_push_of_some _ e))
   ·cases r₂ with
    | error e=>exact PJ
    | ok Uu =>
     cases Uu with
     | ret r =>
      obtain⟨rfl,h',tk,rfl,S',hk⟩:=PJ
      repeat (any_goals (first|assumption|wp_step))
      exact h _ _ S' hk
     | _=>exact PJ.elim
  | _=>exact hr.elim
end
end L2
end
section
namespace L2
open PySem PyProof.Rows
namespace SI
theorem vX:entryFor table "set.__iter__" = some Builtin.«frozenset.__iter__» :=
 entryFor_alias (id':="frozenset.__iter__") (by kernel_rfl) rfl (by decide +kernel) (by kernel_rfl)
theorem owner:Manifest.owners.lookup (String.ofList ['r','o','t','a','r','e','t','i','_','t','e','s'].reverse)=some Manifest.sig_set_iterator:=by kernel_rfl
theorem slot_next:Slot "set_iterator" "__next__" "set_iterator.__next__" :=
 .of (owner:="set_iterator") (n:="__next__") (by rw[typeLookup_type,builtinLookup_eq_fast];kernel_rfl) (by decide +kernel) (by decide +kernel) (by decide +kernel) (by first|exact .inl (by decide +kernel)|exact .inr (by decide +kernel)) (by rw[isSubtype_type];kernel_rfl)
theorem entry_next:entryFor table "set_iterator.__next__" = some Builtin.«set_iterator.__next__»:=entryFor_of_tree (by kernel_rfl)
theorem args_next(a:Value):argsOk "set_iterator.__next__" ⟨[a],[]⟩:=by
 unfold argsOk;rw[signature?_of (id:="set_iterator.__next__") (n:=['_','_','t','x','e','n','_','_']) (o:=['r','o','t','a','r','e','t','i','_','t','e','s']) (by kernel_rfl) owner];kernel_rfl
theorem qC:Slot "set_iterator" "__iter__" "set_iterator.__iter__" :=
 .of (owner:="set_iterator") (n:="__iter__") (by rw[typeLookup_type,builtinLookup_eq_fast];kernel_rfl) (by decide +kernel) (by decide +kernel) (by decide +kernel) (by first|exact .inl (by decide +kernel)|exact .inr (by decide +kernel)) (by rw[isSubtype_type];kernel_rfl)
theorem entry_self:entryFor table "set_iterator.__iter__" = some Builtin.«dict_keyiterator.__iter__» :=
 entryFor_alias (id':="dict_keyiterator.__iter__") (by kernel_rfl) rfl (by decide +kernel) (by kernel_rfl)
theorem za(a:Value):argsOk "set_iterator.__iter__" ⟨[a],[]⟩:=by
 unfold argsOk;rw[signature?_of (id:="set_iterator.__iter__") (n:=['_','_','r','e','t','i','_','_']) (o:=['r','o','t','a','r','e','t','i','_','t','e','s']) (by kernel_rfl) owner];kernel_rfl
end SI
section
variable {prog:Program} {w:World} {A:Around} {E:Value->Shared->Prop} {s:Shared}
noncomputable def eY(h:Heap)(it:Addr)(f:Value)(i:Nat)(a:Addr)(n ep:Nat):Prop:=∃o,h.get? it=some o/\o.cls=.type "set_iterator" /\ o.data=.fields #[f,.int i 0,.ref a,.int n 0,.int ep 0]
theorem eY.typeIs{it:Addr}{f:Value}{i:Nat}{a:Addr}{n ep:Nat}(x:eY s.heap it f i a n ep):s.TypeIs (.ref it) "set_iterator":=let ⟨o,ho,hc,_⟩:=x;⟨o,ho,hc⟩
theorem lN{it:Addr}{f:Value}{i:Nat}{a:Addr}{n ep:Nat}{Q:Value->Shared->Prop}(x:eY s.heap it f i a n ep)(h:Q (.ref it) s):wpAny (model prog w) A (pyIter (.ref it)) Q E s:=by
 refine wpAny_pyIter_slot x.typeIs SI.qC (wpAny_call_entry SI.qC x.typeIs SI.entry_self ?_ (SI.za _))
 exact wpAny_pure ⟨_,rfl,"set_iterator",_,x.typeIs,SI.slot_next.lookup,h⟩
end
end L2
end
section
namespace L2
open PySem PyProof.Rows
section
variable {prog:Program} {w:World} {A:Around} {E:Value->Shared->Prop} {s:Shared}
theorem gF{a:Addr}{o:Obj}{es:Array (Int×Value)}{ep:Nat}{t:SetTable}{Q:Array (Int×Value)->Shared->Prop}(ho:s.heap.get? a=some o)(hd:o.data=.set es ep t)(hf:t.fits es.size=true)(h:Q es s):wpAny (model prog w) A (setEntries a) Q E s:=by
 unfold setEntries
 exact wpAny_bind (wpAny_setState_of ho hd hf (wpAny_pure h))
theorem jN{Q:Bool->Shared->Prop}(h:Q (p7 w) s):wpAny (model prog w) A setsByText Q E s:=by
 unfold setsByText
 exact wpAny_bind (wpAny_askSetting (wpAny_pure h))
theorem qD{a:Addr}{o:Obj}{es:Array (Int×Value)}{ep sl g:Nat}{t:SetTable}{ks:List Int}{Q:Option (Value×Nat)->Shared->Prop}(S:dX prog w s.heap a o es ep t ks)(hb:p7 w=false)(hp:(!t.plain&&decide (es.size>1))=false)
  (hQ:Q (match es[SetTable.below t.place sl]?,t.place[SetTable.below t.place sl]? with|some (_,x),some j=>some (x,j+1)|_,_=>none) s):wpAny (model prog w) A (setNext a sl g ep) Q E s:=by
 have led:t.led=true:=by rw[S.tab.led,hb];rfl
 unfold setNext
 refine wpAny_bind (wpAny_setState_of S.at_ S.dat S.tab.fit ?_)
 dsimp only
 refine wpAny_bind (jN ?_)
 rw[hb]
 simp only[Bool.false_eq_true,↓reduceIte]
 rw[if_neg (fun z=>by
  have z':(!t.plain&&decide (es.size>1))=true:=z
  rw[hp] at z';cases z')]
 refine wpAny_bind ?_
 show wpAny _ _ (if (!t.led && !es.isEmpty)=true then Sem.unsupported "set:maker-not-led" else pure ()) _ _ _
 rw[if_neg (by rw[led];simp)]
 exact wpAny_pure (wpAny_pure hQ)
theorem qE{a:Addr}{o:Obj}{es:Array (Int×Value)}{ep sl g:Nat}{t:SetTable}{ks:List Int}{Q:Option (Value×Nat)->Shared->Prop}(S:dX prog w s.heap a o es ep t ks)(hb:p7 w=true)
  (hQ:Q (((pickOrder (w.params.setOrder a ep) es)[g]?).map fun e=>(e.2,sl)) s):wpAny (model prog w) A (setNext a sl g ep) Q E s:=by
 unfold setNext
 refine wpAny_bind (wpAny_setState_of S.at_ S.dat S.tab.fit ?_)
 dsimp only
 refine wpAny_bind (jN ?_)
 rw[hb]
 simp only[bne_self_eq_false,Bool.false_eq_true,↓reduceIte]
 unfold setWalk
 refine wpAny_bind (wpAny_bind (wpAny_setState_of S.at_ S.dat S.tab.fit ?_))
 dsimp only
 refine wpAny_bind (jN ?_)
 rw[hb]
 simp only[↓reduceIte]
 exact wpAny_bind (wpAny_askSetting (wpAny_pure (wpAny_pure hQ)))
theorem kJ{it a:Addr}{o:Obj}{es:Array (Int×Value)}{ep:Nat}{t:SetTable}{ks:List Int}{i sl:Nat}{r:Option (Value×Nat)}{Q:Option Value->Shared->Prop}(hh:A.handled=none)(x:eY s.heap it (.int sl 0) i a es.size ep)(S:dX prog w s.heap a o es ep t ks)
  (hn:∀(A:Around) (E:Value->Shared->Prop) (Q:Option (Value×Nat)->Shared->Prop),Q r s->wpAny (model prog w) A (setNext a sl i ep) Q E s)
  (hQ:∀v nx,r=some (v,nx)->∀h',eY h' it (.int (nx:Nat) 0) (i+1) a es.size ep->Heap.SameBut it s.heap h'->Q (some v) { s with heap:=h' })
  (hE:r=none->∀h',Heap.ExtBut it s.heap h'->Q none { s with heap:=h' }):wpAny (model prog w) A (pyNext (.ref it)) Q E s:=by
 obtain⟨oi,CQ,PM,hdi⟩:=id x
 unfold pyNext
 refine wpAny_bind (wpAny_attempt (wpAny_callSpecial?_slot (name:=Str.ofString "__next__") x.typeIs SI.slot_next (wpAny_call_entry SI.slot_next x.typeIs SI.entry_next ?_ (SI.args_next _))))
 unfold Builtin.«set_iterator.__next__»
 refine wpAny_bind (wpAny_pure ?_)
 refine wpAny_bind (wpAny_fieldsOf CQ hdi ?_)
 dsimp only
 refine wpAny_bind (gF S.at_ S.dat S.tab.fit ?_)
 rw[if_neg (by simp)]
 refine wpAny_bind (hn _ _ _ ?_)
 cases r with
 | some p =>
  obtain⟨v,nx⟩:=p
  dsimp only
  refine wpAny_bind (wpAny_setField CQ hdi (by simp) ?_)
  have h1:=Heap.get?_update_self (Obj.mapFields (·.setIfInBounds 0 (rawInt nx))) CQ (Obj.isFreed_of_fields (Obj.data_mapFields hdi _))
  have d1:=Obj.data_mapFields hdi (·.setIfInBounds 0 (rawInt nx))
  refine wpAny_bind (wpAny_setField h1 d1 (by simp) ?_)
  have h2:=Heap.get?_update_self (Obj.mapFields (·.setIfInBounds 1 (rawInt ((i:Int)+1)))) h1 (Obj.isFreed_of_fields (Obj.data_mapFields d1 _))
  refine wpAny_pure ⟨_,rfl,wpAny_pure (hQ v nx rfl _ ⟨_,h2,?_,?_⟩ ((Heap.SameBut.update ..).trans (Heap.SameBut.update ..)))⟩
  ·rw[Obj.cls_mapFields,Obj.cls_mapFields];exact PM
  ·rw[Obj.data_mapFields d1];simp[rawInt]
 | none =>
  dsimp only
  refine wpAny_bind (wpAny_setField CQ hdi (by simp) ?_)
  refine wpAny_bind ?_
  simp only[newExc,newTuple]
  refine wpAny_bind (wpAny_newObj_type ?_ (by size_fits))
  refine wpAny_bind (m:=firstArgMember _ _) (wpAny_of_eq (a:=Value.none) (by first|rfl|(simp only[firstArgMember];rfl)) ?_)
  refine wpAny_newObj_type ?_ (by size_fits)
  simp only[raiseNew]
  refine wpAny_bind (wpAny_handled ?_)
  rw[show A.in1.handled=none from hh]
  refine wpAny_bind (wpAny_pure (wpAny_throw ?_))
  refine wpAny_bind (wpAny_isInstance (T:="StopIteration") (b:=true) ⟨_,Heap.get?_push_size _ rfl,rfl⟩ isSubtype_stop ?_)
  exact wpAny_pure (hE rfl _ (((Heap.SameBut.update ..).extBut.push _).push _))
end
end L2
end
section
namespace L2
open PySem PyProof.Rows
theorem ko{α:Type}:∀(l:List α) (i:Nat) (h:i<l.length),(l[i]::l.eraseIdx i).Perm l
 | x::l,0,_=>List.Perm.refl _
 | x::l,i+1,h=>by
  simp only[List.getElem_cons_succ,List.eraseIdx_cons_succ]
  exact(List.Perm.swap _ _ _).trans (List.Perm.cons x (ko l i (by simpa using h)))
section
variable {prog:Program} {w:World} {A:Around} {E:Value->Shared->Prop} {s:Shared}
theorem zb{src:Source}{n:Nat}{Q:Nat->Shared->Prop}(hn:n≠0)(h:∀i d,i<n->Q i { s with drawn:=d }):wpAny (model prog w) A (choose src n) Q E s:=fun Γ p hΓ=>by
 show Sem.wp _ _ (Sem.choose src n Sem.pure) _ _ _ _
 rw[Sem.wp]
 exact⟨hn,h _ _ (Nat.mod_lt _ (Nat.pos_of_ne_zero hn))⟩
theorem xA{α:Type}:∀(n:Nat) (xs:List α) (s:Shared) (Q:List α -> Shared->Prop),xs.length=n->(∀ys d,ys.Perm xs->Q ys { s with drawn:=d })->wpAny (model prog w) A (drawOrder n xs) Q E s
 | 0,xs,s,Q,hl,h=>by
  have:xs=[]:=List.eq_nil_of_length_eq_zero hl
  subst this
  unfold drawOrder
  exact wpAny_pure (h [] s.drawn (List.Perm.refl _))
 | n+1,[],s,Q,hl,h=>by simp at hl
 | n+1,x::xs,s,Q,hl,h=>by
  unfold drawOrder
  refine wpAny_bind (zb (by simp) fun i d hi=>?_)
  have hx:(x::xs)[i]?=some ((x::xs)[i]):=List.getElem?_eq_getElem hi
  rw[hx]
  dsimp only
  refine wpAny_bind (xA n ((x::xs).eraseIdx i) _ _ (by rw[List.length_eraseIdx,if_pos hi];simp at hl |-;omega) fun ys d' p=>wpAny_pure ?_)
  exact h _ d' (((List.Perm.cons _ p).trans (ko _ i hi)))
theorem ou{it a td:Addr}{o oT:Obj}{es:Array (Int×Value)}{ep c:Nat}{t:SetTable}{ks:List Int}{i:Nat}{ps:List Nat}{Q:Option Value->Shared->Prop}(hh:A.handled=none)(x:eY s.heap it (.ref td) i a es.size ep)(S:dX prog w s.heap a o es ep t ks)
  (hT:s.heap.get? td=some oT) (Og:oT.data=.seq (ps.map fun(j:Nat)=>rawInt j).toArray c) (hlt:∀j∈ps,j<es.size)
  (hQ:∀j e,ps[i]?=some j->es[j]?=some e->∀h',eY h' it (.ref td) (i+1) a es.size ep->Heap.SameBut it s.heap h'->Q (some e.2) { s with heap:=h' })
  (hE:ps[i]?=none->∀h',Heap.ExtBut it s.heap h'->Q none { s with heap:=h' }):wpAny (model prog w) A (pyNext (.ref it)) Q E s:=by
 obtain⟨oi,CQ,PM,hdi⟩:=id x
 unfold pyNext
 refine wpAny_bind (wpAny_attempt (wpAny_callSpecial?_slot (name:=Str.ofString "__next__") x.typeIs SI.slot_next (wpAny_call_entry SI.slot_next x.typeIs SI.entry_next ?_ (SI.args_next _))))
 unfold Builtin.«set_iterator.__next__»
 refine wpAny_bind (wpAny_pure ?_)
 refine wpAny_bind (wpAny_fieldsOf CQ hdi ?_)
 dsimp only
 refine wpAny_bind (gF S.at_ S.dat S.tab.fit ?_)
 rw[if_neg (by simp)]
 refine wpAny_bind (wpAny_seqItems hT Og ?_)
 dsimp only
 have hg:((ps.map fun(j:Nat)=>rawInt j).toArray)[((i:Nat):Int).toNat]?=(ps[i]?).map fun(j:Nat)=>rawInt j:=by simp
 rw[hg]
 cases hp:ps[i]? with
 | some j =>
  have hj:j<es.size:=hlt j (List.mem_of_getElem? hp)
  simp only[Option.map_some,rawInt]
  refine wpAny_bind ?_
  unfold setNextDrawn
  refine wpAny_bind (wpAny_setState_of S.at_ S.dat S.tab.fit ?_)
  dsimp only
  rw[if_neg (by simp)]
  have Uv:es[((j:Nat):Int).toNat]?=some es[j]:=by simp[hj]
  rw[Uv]
  refine wpAny_pure ?_
  refine wpAny_bind (wpAny_setField CQ hdi (by simp) ?_)
  have h2:=Heap.get?_update_self (Obj.mapFields (·.setIfInBounds 1 (.int ((i:Int)+1) 0))) CQ (Obj.isFreed_of_fields (Obj.data_mapFields hdi _))
  refine wpAny_pure ⟨_,rfl,wpAny_pure (hQ j _ hp (Array.getElem?_eq_getElem hj) _ ⟨_,h2,?_,?_⟩ (Heap.SameBut.update ..))⟩
  ·rw[Obj.cls_mapFields];exact PM
  ·rw[Obj.data_mapFields hdi];simp
 | none =>
  simp only[Option.map_none]
  refine wpAny_bind (wpAny_setField CQ hdi (by simp) ?_)
  have h1:=Heap.get?_update_self (Obj.mapFields (·.setIfInBounds 0 (rawInt 0))) CQ (Obj.isFreed_of_fields (Obj.data_mapFields hdi _))
  have d1:=Obj.data_mapFields hdi (·.setIfInBounds 0 (rawInt 0))
  refine wpAny_bind (wpAny_setField h1 d1 (by simp) ?_)
  refine wpAny_bind ?_
  simp only[newExc,newTuple]
  refine wpAny_bind (wpAny_newObj_type ?_ (by size_fits))
  refine wpAny_bind (m:=firstArgMember _ _) (wpAny_of_eq (a:=Value.none) (by first|rfl|(simp only[firstArgMember];rfl)) ?_)
  refine wpAny_newObj_type ?_ (by size_fits)
  simp only[raiseNew]
  refine wpAny_bind (wpAny_handled ?_)
  rw[show A.in1.handled=none from hh]
  refine wpAny_bind (wpAny_pure (wpAny_throw ?_))
  refine wpAny_bind (wpAny_isInstance (T:="StopIteration") (b:=true) ⟨_,Heap.get?_push_size _ rfl,rfl⟩ isSubtype_stop ?_)
  exact wpAny_pure (hE hp _ ((((Heap.SameBut.update ..).trans (Heap.SameBut.update ..)).extBut.push _).push _))
end
end L2
end
section
namespace L2
open PySem PyProof.Rows
theorem qF{α:Type}(f:Nat->Nat):∀(n k:Nat) (l:List α) (out:Array α),l.length=n->(pickOrder.go f n k l out).toList.Perm (out.toList++l)
 | 0,k,l,out,h=>by
  have:l=[]:=List.eq_nil_of_length_eq_zero h
  subst this
  unfold pickOrder.go
  simp
 | n+1,k,l,out,h=>by
  unfold pickOrder.go
  have hl:0<l.length:=by omega
  have hi:f k%l.length<l.length:=Nat.mod_lt _ hl
  rw[List.getElem?_eq_getElem hi]
  dsimp only
  refine(qF f n (k+1) _ _ (by rw[List.length_eraseIdx,if_pos hi];omega)).trans ?_
  rw[Array.toList_push,List.append_assoc]
  exact List.Perm.append_left _ (ko l _ hi)
theorem qG{t:SetTable}{n:Nat}(h:t.fits n=true):t.place.size=n:=by
 simp only[SetTable.fits,Bool.and_eq_true,beq_iff_eq] at h;exact h.1
noncomputable def Oh(t:SetTable):Nat->Nat
 | 0=>0
 | i+1=>t.place.getD i 0+1
theorem qH{t:SetTable}(r:qA t.place):∀i,i<=t.place.size->SetTable.below t.place (Oh t i)=i
 | 0,_=>vU r
 | i+1,h=>by
  have hi:i<t.place.size:=h
  have e:Oh t (i+1)=t.place[i]+1:=by simp[Oh,Array.getD,hi]
  rw[e];exact vV r hi
section
variable {prog:Program} {w:World} {A:Around} {E:Value->Shared->Prop} {s:Shared}
theorem dX.keep{h h':Heap}{a:Addr}{o:Obj}{es:Array (Int×Value)}{ep:Nat}{t:SetTable}{ks:List Int}(S:dX prog w h a o es ep t ks)(k:∀o,h.get? a=some o->h'.get? a=some o):dX prog w h' a o es ep t ks:={ S with at_:=k o S.at_ }
theorem eY.keep{h h':Heap}{it:Addr}{f:Value}{i:Nat}{a:Addr}{n ep:Nat}(x:eY h it f i a n ep)(k:∀o,h.get? it=some o->h'.get? it=some o):eY h' it f i a n ep:=by
 obtain⟨o,ho,r⟩:=x;exact⟨o,k o ho,r⟩
noncomputable def PL(L:List (Int×Value))(i:Nat)(v:Value):Prop:=∃e,L[i]?=some e/\v=e.2
theorem zc(hh:A.handled=none){I a:Addr}{o:Obj}{es:Array (Int×Value)}{ep:Nat}{t:SetTable}{ks:List Int}(hne:a≠I)(hb:p7 w=false)(hp:(!t.plain&&decide (es.size>1))=false) :
  Walks prog w A I [I,a] [I] es.toList.length (PL es.toList) (fun i h=>dX prog w h a o es ep t ks/\eY h I (.int (Oh t i) 0) i a es.size ep) where
 sub:=fun b hb=>by simp at hb;simp[hb]
 frame:=fun _ _ _ st hk=>⟨st.1.keep fun o e=>hk a (by simp) o e,st.2.keep fun o e=>hk I (by simp) o e⟩
 item:=fun i s Q E hi st hQ=>by
  have hi:i<es.size:=by simpa using hi
  have hz:=qG st.1.tab.fit
  have hb':=qH st.1.tab.rs i (by rw[hz];exact Nat.le_of_lt hi)
  refine kJ (r:=some (es[i].2,t.place.getD i 0+1)) hh st.2 st.1 (fun A E Q q=>qD st.1 hb hp ?_) (fun v nx e h' x' sb=>?_) (fun e=>nomatch e)
  ·rw[hb',Array.getElem?_eq_getElem hi,Array.getElem?_eq_getElem (by rw[hz];exact hi)]
   have e1:t.place[i]'(by rw[hz];exact hi)=t.place.getD i 0:=by simp[Array.getD,hz,hi]
   dsimp only
   rw[e1];exact q
  ·cases e
   exact hQ _ h' s.toks ⟨es[i],by simp[hi],rfl⟩ ⟨st.1.keep fun o e=>sb.extBut a o hne e,x'⟩ fun b o hb e=>sb.extBut b o (fun z=>hb (by simp[z])) e
 done:=fun s Q E st hQ=>by
  have hz:=qG st.1.tab.fit
  have hb':=qH st.1.tab.rs es.toList.length (by rw[hz];simp)
  refine kJ (r:=none) hh st.2 st.1 (fun A E Q q=>qD st.1 hb hp ?_) (fun v nx e=>nomatch e) (fun _ h' sb=>hQ h' s.toks fun b o hb e=>sb b o (fun z=>hb (by simp[z])) e)
  rw[hb',Array.getElem?_eq_none (by simp)]
  exact q
 self:=fun _ _ _ _ st hQ=>lN st.2 hQ
theorem zd(hh:A.handled=none){I a:Addr}{o:Obj}{es:Array (Int×Value)}{ep:Nat}{t:SetTable}{ks:List Int}(hne:a≠I)(hb:p7 w=true) :
  Walks prog w A I [I,a] [I] (pickOrder (w.params.setOrder a ep) es).toList.length (PL (pickOrder (w.params.setOrder a ep) es).toList) (fun i h=>dX prog w h a o es ep t ks/\eY h I (.int (0:Nat) 0) i a es.size ep) where
 sub:=fun b hb=>by simp at hb;simp[hb]
 frame:=fun _ _ _ st hk=>⟨st.1.keep fun o e=>hk a (by simp) o e,st.2.keep fun o e=>hk I (by simp) o e⟩
 item:=fun i s Q E hi st hQ=>by
  have hi:i<(pickOrder (w.params.setOrder a ep) es).size:=by simpa using hi
  refine kJ (r:=some ((pickOrder (w.params.setOrder a ep) es)[i].2,0)) hh st.2 st.1 (fun A E Q q=>qE st.1 hb ?_) (fun v nx e h' x' sb=>?_) (fun e=>nomatch e)
  ·rw[Array.getElem?_eq_getElem hi];exact q
  ·cases e
   exact hQ _ h' s.toks ⟨(pickOrder (w.params.setOrder a ep) es)[i],by simp[hi],rfl⟩ ⟨st.1.keep fun o e=>sb.extBut a o hne e,x'⟩ fun b o hb e=>sb.extBut b o (fun z=>hb (by simp[z])) e
 done:=fun s Q E st hQ=>by
  refine kJ (r:=none) hh st.2 st.1 (fun A E Q q=>qE st.1 hb ?_) (fun v nx e=>nomatch e) (fun _ h' sb=>hQ h' s.toks fun b o hb e=>sb b o (fun z=>hb (by simp[z])) e)
  rw[Array.getElem?_eq_none (by simp)]
  exact q
 self:=fun _ _ _ _ st hQ=>lN st.2 hQ
theorem vY(hh:A.handled=none){I a td:Addr}{o oT:Obj}{es:Array (Int×Value)}{ep c:Nat}{t:SetTable}{ks:List Int}{ps:List Nat}(hne:a≠I)(hnt:td≠I)(hlt:∀j∈ps,j<es.size)(Og:oT.data=.seq (ps.map fun(j:Nat)=>rawInt j).toArray c) :
  Walks prog w A I [I,a,td] [I] ps.length (PL (ps.map fun j=>es.getD j (0,.none))) (fun i h=>dX prog w h a o es ep t ks/\eY h I (.ref td) i a es.size ep/\h.get? td=some oT) where
 sub:=fun b hb=>by simp at hb;simp[hb]
 frame:=fun _ _ _ st hk=>⟨st.1.keep fun o e=>hk a (by simp) o e,st.2.1.keep fun o e=>hk I (by simp) o e,hk td (by simp) _ st.2.2⟩
 item:=fun i s Q E hi st hQ=>by
  refine ou hh st.2.1 st.1 st.2.2 Og hlt (fun j e hj he h' x' sb=>?_) (fun hn=>absurd hn (by rw[List.getElem?_eq_getElem hi];simp))
  refine hQ _ h' s.toks ⟨e,?_,rfl⟩ ⟨st.1.keep fun o e=>sb.extBut a o hne e,x',sb.extBut td _ hnt st.2.2⟩ fun b o hb e=>sb.extBut b o (fun z=>hb (by simp[z])) e
  rw[List.getElem?_map,hj]
  have hjl:j<es.size:=(Array.getElem?_eq_some_iff.mp he).1
  have:=(Array.getElem?_eq_some_iff.mp he).2
  simp[Array.getD,hjl,this]
 done:=fun s Q E st hQ=>ou hh st.2.1 st.1 st.2.2 Og hlt (fun j e hj=>absurd hj (by simp)) (fun _ h' sb=>hQ h' s.toks fun b o hb e=>sb b o (fun z=>hb (by simp[z])) e)
 self:=fun _ _ _ _ st hQ=>lN st.2.1 hQ
end
end L2
end
section
namespace L2
open PySem PyProof.Rows
section
variable {prog:Program} {w:World} {A:Around} {E:Value->Shared->Prop} {s:Shared}
theorem AR{a:Addr}{o:Obj}{es:Array (Int×Value)}{ep:Nat}{t:SetTable}{ks:List Int}{Q:Bool->Shared->Prop}(S:dX prog w s.heap a o es ep t ks)(h:Q (!p7 w&&(!t.plain&&decide (es.size>1))) s):wpAny (model prog w) A (setDrawn a) Q E s:=by
 unfold setDrawn
 refine wpAny_bind (wpAny_setState_of S.at_ S.dat S.tab.fit ?_)
 dsimp only
 exact wpAny_bind (jN (wpAny_pure h))
theorem tU{a:Addr}{o:Obj}{es:Array (Int×Value)}{ep:Nat}{t:SetTable}{ks:List Int}{Q:Nat->Shared->Prop}(S:dX prog w s.heap a o es ep t ks)(h:Q ep s):wpAny (model prog w) A (setEpoch a) Q E s:=wpAny_setEpoch_of S.at_ S.dat S.tab.fit h
theorem AS(hh:A.handled=none){a:Addr}{o:Obj}{es:Array (Int×Value)}{ep:Nat}{t:SetTable}{ks:List Int}(S:dX prog w s.heap a o es ep t ks){Q:Value->Shared->Prop}
  (hQ:∀(h':Heap) d (I:Addr) (fp:List Addr) (L:List (Int×Value)) (St:Nat->Heap->Prop),L.Perm es.toList->Walks prog w A I fp [I] L.length (PL L) St->St 0 h'->s.heap.objs.size<=I->I<h'.objs.size->(∀b∈fp,b=a\/s.heap.objs.size<=b)->(∀b o,s.heap.get? b=some o->h'.get? b=some o)->Q (.ref I) { s with heap:=h',drawn:=d }) :
  wpAny (model prog w) A (pyIter (.ref a)) Q E s:=by
 have hT:s.TypeIs (.ref a) "set":=⟨o,S.at_,S.ex.1⟩
 have hlt:a<s.heap.objs.size:=Heap.lt_size S.at_
 refine wpAny_pyIter_slot hT PySem.F.slot_set_iter (wpAny_call_entry PySem.F.slot_set_iter hT SI.vX ?_ (PySem.F.args_set_iter_1 _))
 unfold Builtin.«frozenset.__iter__» Builtin.Frozenset.slot0 Builtin.Frozenset.sizeOf
 refine wpAny_bind (wpAny_bind (wpAny_pure (wpAny_pure ?_)))
 refine wpAny_bind (wpAny_bind (gF S.at_ S.dat S.tab.fit (wpAny_pure ?_)))
 refine wpAny_bind (AR S ?_)
 cases hd:(!p7 w&&(!t.plain&&decide (es.size>1))) with
 | false =>
  simp only[Bool.false_eq_true,↓reduceIte]
  refine wpAny_bind (wpAny_pure ?_)
  refine wpAny_bind (tU S ?_)
  refine wpAny_bind (wpAny_newObj_type (wpAny_pure ⟨_,rfl,"set_iterator",_,⟨_,Heap.get?_push_size _ rfl,rfl⟩,SI.slot_next.lookup,?_⟩))
  have e:s={ s with drawn:=s.drawn }:=by cases s;rfl
  have Sq:∀b∈[s.heap.objs.size,a],b=a\/s.heap.objs.size<=b:=fun b hb=>by
   simp only[List.mem_cons,List.not_mem_nil,or_false] at hb
   rcases hb with rfl|rfl
   ·exact .inr (Nat.le_refl _)
   ·exact .inl rfl
  have sz:s.heap.objs.size<(s.heap.push { cls:=.type "set_iterator",data:=.fields ([rawInt 0,rawInt 0,.ref a,rawInt es.size,rawInt ep]:List Value).toArray }).objs.size:=by rw[Heap.size_push];exact Nat.lt_succ_self _
  cases hb:p7 w with
  | true =>
   exact hQ _ s.drawn _ _ _ _ (qF _ _ 0 es.toList #[] (by simp)) (zd hh (Nat.ne_of_lt hlt) hb) ⟨S.keep fun o e=>Heap.get?_push_of_some _ e,⟨_,Heap.get?_push_size _ rfl,rfl,rfl⟩⟩ (Nat.le_refl _) sz Sq fun b o e=>Heap.get?_push_of_some _ e
  | false =>
   rw[hb] at hd
   exact hQ _ s.drawn _ _ _ _ (List.Perm.refl _) (zc hh (Nat.ne_of_lt hlt) hb (by simpa using hd)) ⟨S.keep fun o e=>Heap.get?_push_of_some _ e,⟨_,Heap.get?_push_size _ rfl,rfl,rfl⟩⟩ (Nat.le_refl _) sz Sq fun b o e=>Heap.get?_push_of_some _ e
 | true =>
  simp only[↓reduceIte]
  refine wpAny_bind (xA es.size (List.range es.size) s _ (by simp) fun ps d pp=>?_)
  refine wpAny_bind ?_
  simp only[newTuple]
  refine wpAny_newObj_type ?_ (by show (List.toArray _).size<=sizeLine;rw[List.size_toArray,List.length_map,pp.length_eq,List.length_range];exact fits_of_scanBound S.tab.few)
  have S1:dX prog w (s.heap.push { cls:=.type "tuple",data:=.seq (ps.map fun(i:Nat)=>rawInt i).toArray }) a o es ep t ks:=S.keep fun o e=>Heap.get?_push_of_some _ e
  refine wpAny_bind (tU S1 ?_)
  refine wpAny_bind (wpAny_newObj_type (wpAny_pure ⟨_,rfl,"set_iterator",_,⟨_,Heap.get?_push_size _ rfl,rfl⟩,SI.slot_next.lookup,?_⟩))
  have hpl:∀j∈ps,j<es.size:=fun j hj=>by simpa using pp.mem_iff.mp hj
  have perm:(ps.map fun j=>es.getD j (0,Value.none)).Perm es.toList:=by
   have e2:(List.range es.size).map (fun j=>es.getD j (0,Value.none))=es.toList:=by
    apply List.ext_getElem
    ·simp
    ·intro i h1 h2
     have hi:i<es.size:=by simpa using h2
     simp[Array.getD,hi]
   rw[<-e2];exact pp.map _
  have z1:(s.heap.push { cls:=.type "tuple",data:=.seq (ps.map fun(i:Nat)=>rawInt i).toArray }).objs.size=s.heap.objs.size+1:=Heap.size_push _ _
  have W:=vY (prog:=prog) (w:=w) (A:=A) (o:=o) (ep:=ep) (t:=t) (ks:=ks) hh (I:=s.heap.objs.size+1) (a:=a) (td:=s.heap.objs.size) (oT:={ cls:=.type "tuple",data:=.seq (ps.map fun(i:Nat)=>rawInt i).toArray }) (es:=es) (c:=0) (ps:=ps) (Nat.ne_of_lt (Nat.lt_succ_of_lt hlt)) (Nat.ne_of_lt (Nat.lt_succ_self _)) hpl rfl
  rw[show ps.length=(ps.map fun j=>es.getD j (0,Value.none)).length by simp] at W
  rw[z1]
  refine hQ _ d _ _ _ _ perm W ⟨S1.keep fun o e=>Heap.get?_push_of_some _ e,⟨{ cls:=.type "set_iterator",data:=.fields ([.ref s.heap.objs.size,rawInt 0,.ref a,rawInt es.size,rawInt ep]:List Value).toArray },?_,rfl,rfl⟩,Heap.get?_push_of_some _ (Heap.get?_push_size _ rfl)⟩ (Nat.le_succ _) ?_ ?_ fun b o e=>Heap.get?_push_of_some _ (Heap.get?_push_of_some _ e)
  ·rw[<-z1];exact Heap.get?_push_size _ rfl
  ·rw[Heap.size_push,z1];exact Nat.lt_succ_self _
  ·intro b hb
   simp only[List.mem_cons,List.not_mem_nil,or_false] at hb
   rcases hb with rfl|rfl|rfl
   ·exact .inr (Nat.le_succ _)
   ·exact .inl rfl
   ·exact .inr (Nat.le_refl _)
end
end L2
end
section
namespace L2
open PySem PyProof.Rows
section
variable {prog:Program} {w:World} {A:Around} {E:Value->Shared->Prop} {s:Shared}
theorem AV{r:Addr}{Q:Bool->Shared->Prop}(hT:s.TypeIs (.ref r) "set")(h:Q false s):wpAny (model prog w) A (Builtin.List.listLengthHint (.ref r)) Q E s:=by
 unfold Builtin.List.listLengthHint
 refine wpAny_bind (wpAny_specialOf hT PySem.F.slot_set_len.lookup ?_)
 generalize hid:("set.__len__":String)=Uw
 wp_delta
 rw[show splitId Uw=some ("set","__len__") from by subst hid;decide +kernel]
 subst hid
 refine wpAny_bind (wpAny_isInstance (T:="set") (b:=true) hT sub_set_self ?_)
 refine wpAny_ite_split (fun z=>absurd z (by decide)) (fun _=>?_)
 refine wpAny_ite_split (fun _=>?_) (fun z=>absurd (by decide +kernel) z)
 exact wpAny_bind (wpAny_typeOf hT (wpAny_pure h))
theorem tW(hh:A.handled=none){a:Addr}{o:Obj}{es:Array (Int×Value)}{ep:Nat}{t:SetTable}{ks:List Int}(S:dX prog w s.heap a o es ep t ks){R:List Value->Shared->Prop}
  (h:∀(h':Heap) (tk:Nat) d (L:List (Int×Value)),(∀b o,s.heap.get? b=some o->h'.get? b=some o)->s.heap.objs.size<h'.objs.size->L.Perm es.toList->R (L.map (·.2)) { s with heap:=h',toks:=tk,drawn:=d }) :
  wpAny (model prog w) A (collect (.ref a)) R E s:=by
 have hlt:a<s.heap.objs.size:=Heap.lt_size S.at_
 unfold collect
 refine wpAny_bind (wpAny_runValue (codeAny_builtin entry_proto_collect' ?_))
 rw[Around.under_plainId PySem.F.plain_proto_collect _]
 show wpAny _ A.in1 (newList [] >>= fun l=>again (.builtin "list.__iadd__" ⟨[l,.ref a],[]⟩)) _ _ s
 refine wpAny_bind (wpAny_newObj_type ?_)
 refine wpAny_pure ⟨plainId_quiet PySem.F.plain_list_iadd _,codeAny_builtin entry_list_iadd' ?_⟩
 rw[Around.under_plainId PySem.F.plain_list_iadd _]
 let s1:Shared:={ s with heap:=s.heap.push { cls:=.type "list",data:=.seq ([]:List Value).toArray } }
 have l1:s1.heap.get? s.heap.objs.size=some { cls:=.type "list",data:=.seq #[] }:=Heap.get?_push_size _ rfl
 have S1:dX prog w s1.heap a o es ep t ks:=S.keep fun o e=>Heap.get?_push_of_some _ e
 have z1:s1.heap.objs.size=s.heap.objs.size+1:=Heap.size_push _ _
 have hT:s1.TypeIs (.ref a) "set":=⟨o,S1.at_,S1.ex.1⟩
 show wpAny _ A.in1 (Builtin.List.listExtendWith (.ref s.heap.objs.size) (.ref a) (.ref s.heap.objs.size)) _ _ s1
 unfold Builtin.List.listExtendWith
 refine wpAny_bind (wpAny_typeOf hT ?_)
 have n1:Builtin.List.listSameRef (.ref s.heap.objs.size) (.ref a)=false:=by simp[Builtin.List.listSameRef,Nat.ne_of_gt hlt]
 simp only[n1,show (Value.type "set" == Value.type "list")=false by decide,show (Value.type "set" == Value.type "tuple")=false by decide,Bool.or_false,Bool.false_eq_true,if_false]
 refine wpAny_bind (AS (A:=A.in1) (by simp[hh]) S1 fun h2 d I fp L St perm W st zI XA hfp k2=>?_)
 have l2:h2.get? s.heap.objs.size=some { cls:=.type "list",data:=.seq #[] }:=k2 _ _ l1
 have nfp:s.heap.objs.size∉fp:=fun z=>by
  rcases hfp _ z with e|e
  ·exact absurd e (Nat.ne_of_gt hlt)
  ·rw[z1] at e;exact absurd e (Nat.not_succ_le_self _)
 have hl:L.length<=sizeLine:=by rw[perm.length_eq,Array.length_toList];exact fits_of_scanBound S.tab.few
 have key:∀(hp:Heap) (c₁:Nat) (Rr:Result->Shared->Prop),St 0 hp->(∀b o,b≠s.heap.objs.size->h2.get? b=some o->hp.get? b=some o)->hp.get? s.heap.objs.size=some { cls:=.type "list",data:=.seq #[] c₁ } ->
   (∀(s':Shared) (acc:Array Value) (c:Nat),s'.heap.get? s.heap.objs.size=some { cls:=.type "list",dict:=none,data:=.seq acc c,slots:=#[] }->R acc.toList s'->Rr (.ok (.ret (.ref s.heap.objs.size))) s') ->
   codeAny (model prog w) A (.builtin "list.extend.loop" ⟨[.ref s.heap.objs.size,.ref I,.ref s.heap.objs.size],[]⟩) Rr { s1 with heap:=hp,drawn:=d }:=by
  intro hp c₁ Rr hst hk hS hR
  refine codeAny_extend_loopS W.toS hl s.heap.objs.size nfp (.ref s.heap.objs.size) L.length 0 _ #[] c₁ rfl (Nat.zero_le _) hst hS (ItemsOf.nil _) fun s' acc c hm hS' hacc=>?_
  refine hR s' acc c hS' ?_
  have ea:acc.toList=L.map (·.2):=by
   apply List.ext_getElem
   ·rw[Array.length_toList,hacc.1,List.length_map]
   ·intro j h1 h2
    have hj:j<acc.size:=by simpa using h1
    obtain⟨e,he,hv⟩:=hacc.2 j acc[j] (Array.getElem?_eq_getElem hj)
    rw[Array.getElem_toList,hv,List.getElem_map]
    obtain⟨hj2,e2⟩:=List.getElem?_eq_some_iff.mp he
    rw[e2]
  rw[ea,Moved.eq_with hm]
  refine h s'.heap s'.toks d L (fun b o e=>?_) (Heap.lt_size hS') perm
  have hb:b<s.heap.objs.size:=Heap.lt_size e
  refine hm.heap b o (fun z=>?_) (hk b o (Nat.ne_of_lt hb) (k2 b o (Heap.get?_push_of_some _ e)))
  rcases List.mem_cons.mp z with z|z
  ·exact absurd z (Nat.ne_of_lt hb)
  ·rw[List.mem_singleton] at z;rw[z] at hb;rw[z1] at zI;exact absurd (Nat.lt_of_lt_of_le hb (Nat.le_of_succ_le zI)) (Nat.lt_irrefl _)
 have fin:∀(s':Shared) (acc:Array Value) (c:Nat),s'.heap.get? s.heap.objs.size=some { cls:=.type "list",dict:=none,data:=.seq acc c,slots:=#[] }->R acc.toList s'->wpAny (model prog w) A (load s.heap.objs.size >>= fun ob=>(match ob.data with|.seq xs _=>pure xs.toList|_=>unsupported "internal:collect")) R E s':=fun s' acc c e q=>wpAny_bind (wpAny_load e (wpAny_pure q))
 refine wpAny_bind (wpAny_holding (AV ⟨o,k2 _ _ S1.at_,S1.ex.1⟩ ?_))
 refine wpAny_ite_split (fun _=>?_) (fun _=>wpAny_pure ⟨plainId_quiet PySem.F.plain_extend_loop _,key _ 0 _ st (fun b o _ e=>e) l2 fin⟩)
 refine wpAny_bind (wpAny_rule ?_)
 refine wpAny_bind ?_
 show wpAny _ _ (updateSeq s.heap.objs.size (·.push .none) >>= fun _=>updateSeq s.heap.objs.size (·.pop)) _ _ _
 refine wpAny_bind (wpAny_updateSeq l2 rfl ?_)
 have l3:=Heap.get?_update_self (Obj.mapSeq (·.push Value.none)) l2 rfl
 refine wpAny_updateSeq (hz:=by seq_fits) l3 rfl ?_
 have l4:=Heap.get?_update_self (Obj.mapSeq (·.pop)) l3 rfl
 have oth:∀b o,b≠s.heap.objs.size->h2.get? b=some o->((h2.update s.heap.objs.size (Obj.mapSeq (·.push Value.none))).update s.heap.objs.size (Obj.mapSeq (·.pop))).get? b=some o:=fun b o hb e=>(Heap.get?_update_other _ _ (Ne.symm hb)).trans ((Heap.get?_update_other _ _ (Ne.symm hb)).trans e)
 exact wpAny_pure ⟨plainId_quiet PySem.F.plain_extend_loop _,key _ _ _ (W.frame 0 _ _ st fun b hb o e=>oth b o (fun z=>nfp (z▸hb)) e) oth l4 fin⟩
end
end L2
end
section
namespace L2
open PySem PyProof.Rows
theorem tX:∀(ks ns:List Int),ks.Nodup->(∀k∈ks,k∈ns)->ks.length=ns.length->ks.Perm ns
 | [],ns,_,_,h=>by
  have:ns=[]:=List.eq_nil_of_length_eq_zero h.symm
  subst this;exact List.Perm.refl _
 | k::ks,ns,nd,hs,hl=>by
  have hk:=hs k List.mem_cons_self
  have Ss:=List.nodup_cons.mp nd
  have p:=List.perm_cons_erase hk
  refine(List.Perm.cons k (tX ks (ns.erase k) Ss.2 (fun x hx=>?_) ?_)).trans p.symm
  ·exact(List.mem_erase_of_ne fun z=>Ss.1 (by rw[<-z];exact hx)).mpr (hs x (List.mem_cons_of_mem _ hx))
  ·rw[List.length_erase_of_mem hk]
   simp only[List.length_cons] at hl
   omega
noncomputable def tY:Value->Int
 | .int i _=>i
 | _=>0
section
variable {prog:Program} {w:World} {A:Around} {E:Value->Shared->Prop} {s:Shared}
theorem oz:∀{L:List (Int×Value)},ElemsOf (intKind prog w) L->IntsAre (L.map (·.2)) (L.map fun e=>tY e.2)
 | [],_=>.nil
 | (h,v)::L,el=>by
  obtain⟨⟨k,hk,_⟩,_⟩:=el _ List.mem_cons_self
  obtain⟨t,e⟩:=Value.isInt_shape (k:=k) (v:=v) hk
  subst e
  exact .cons k t (oz fun x hx=>el x (List.mem_cons_of_mem _ hx))
theorem AW{h:Heap}{a:Addr}{o:Obj}{es:Array (Int×Value)}{ep:Nat}{t:SetTable}{ks:List Int}(S:dX prog w h a o es ep t ks){L:List (Int×Value)}(p:L.Perm es.toList):(L.map fun e=>tY e.2).Perm ks:=by
 refine(tX ks _ S.Sk (fun k hk=>?_) ?_).symm
 ·obtain⟨e,he,q⟩:=(S.mem k).mp hk
  obtain⟨t',ev⟩:=Value.isInt_shape (k:=k) (v:=e.2) q
  exact List.mem_map.mpr ⟨e,p.mem_iff.mpr he,by rw[ev];rfl⟩
 ·have:=S.num;rw[List.length_map,p.length_eq,Array.length_toList];exact this.symm
theorem vZ(hh:A.handled=none){a:Addr}{o:Obj}{es:Array (Int×Value)}{ep:Nat}{t:SetTable}{ks:List Int}(S:dX prog w s.heap a o es ep t ks)(h64:ks.length<64){Q:Value->Shared->Prop}
  (hQ:∀(h':Heap) (tk:Nat) d (D:Addr) (out:List Value) (e:Nat),(∀b o,s.heap.get? b=some o->h'.get? b=some o)->s.heap.objs.size<=D->h'.get? D=some (seqObj "list" out.toArray e)->IntsAre out (PySem.W.sortI ks)->Q (.ref D) { s with heap:=h',toks:=tk,drawn:=d }) :
  wpAny (model prog w) A (call (.builtin "sorted") [.ref a]) Q E s:=by
 refine nv.f6 (O:=nv.n9) (tW (A:=A.in1) (by simp[hh]) S fun h' tk d L hk hz perm=>?_)
 have el:ElemsOf (intKind prog w) L:=S.el.perm perm
 have hI:=oz el
 have pk:=AW S perm
 have hl:(L.map (·.2)).length<64:=by rw[List.length_map];have:=pk.length_eq;rw[List.length_map] at this;omega
 refine⟨hl,fun i=>(L.map fun e=>tY e.2).getD i 0,fun h2 h6 _=>nv.oh hI h2,fun p h'' outs k2 he=>?_⟩
 obtain⟨e,he⟩:=he
 have lv:(L.map (·.2)).length=(L.map fun e=>tY e.2).length:=by rw[List.length_map,List.length_map]
 have mem:∀i∈p,i<L.length:=fun i hi=>by have:=outs.perm.mem_iff.mp hi;simpa using this
 have pn:(p.map fun i=>(L.map fun e=>tY e.2).getD i 0).Perm ks:=by
  have:=outs.perm.map fun i=>(L.map fun e=>tY e.2).getD i 0
  rw[lv,nv.dW] at this
  exact this.trans pk
 have up:(p.map fun i=>(L.map fun e=>tY e.2).getD i 0).Pairwise (· <= ·):=by
  refine List.Pairwise.imp (R:=nv.n9.kle) (fun {x y:Int} hxy=>?_) outs.up
  have hxy:(decide (y<x):Bool)=false:=hxy
  exact Int.not_lt.mp (of_decide_eq_false hxy)
 have es:=PySem.W.eq_sortI pn up
 refine hQ h'' tk d h'.objs.size _ e (fun b o z=>k2 b o (hk b o z)) (Nat.le_of_lt hz) he ?_
 rw[<-es]
 clear he es up pn outs
 induction p with
 | nil=>exact .nil
 | cons i r ih =>
  have hi:=mem i List.mem_cons_self
  have hi2:i<(L.map (·.2)).length:=by simpa using hi
  obtain⟨t',ev⟩:=IntsAre.int_at hI i _ (List.getElem?_eq_getElem hi2)
  rw[List.map_cons,List.map_cons]
  have e1:(L.map (·.2)).getD i Value.none=.int ((L.map fun e=>tY e.2).getD i 0) t':=by
   rw[<-ev];simp[List.getD,List.getElem?_eq_getElem hi]
  rw[e1]
  exact .cons _ t' (ih fun j hj=>mem j (List.mem_cons_of_mem _ hj))
end
end L2
end
section
namespace L2
open PySem PySem.Spec PyProof.Rows
section
variable {X:Cx}
theorem Inv.draws{pins:List (Addr×Obj)}{σ:St}{H:Hp}{s:Shared}(I:Inv X pins σ H s)(d:Drawn):Inv X pins σ H { s with drawn:=d }:=⟨I.ok,I.os,I.bare,I.base,I.loc,I.cell,I.free,I.gu,I.pin,I.hok,I.len⟩
noncomputable def Ux(K:PySem.W.Frag)(te:TE):TE:=fun σ H Q=>te σ H fun x H1=>∃p ns,x=.ref p/\fO K H1 p (ns.map V.int)/\ns.length<64/\∀l,H1 l=none->Q (.ref l) (upd H1 l (.lst ((PySem.W.sortI (dQ [] ns)).map V.int)))
theorem tZ:∀(ns ks:List Int),(dQ ks ns).length<=ks.length+ns.length
 | [],ks=>by simp[dQ]
 | n::ns,ks=>by
  rw[dQ,List.length_cons]
  have:=tZ ns (dY ks n)
  have:=om ks n
  omega
theorem DZ{e:Expr}{te:TE}{p1 p2 pos1 pos2:Pos}(hh:X.A.handled=none)(hg:Gl X "sorted")(hm:X.mg "sorted" = none)(Uy:Gl X "set")(hm2:X.mg "set" = none)(hv:bootBuiltins "sorted" = some (.builtin "sorted"))(hv2:bootBuiltins "set" = some (.type "set"))(he:PE X e te)
  (hs:starEach [e] X.env=[(false,eval e X.env)]):PE X (.Call (.Name "sorted" p1) [.Call (.Name "set" p2) [e] [] pos2] [] pos1) (Ux X.K te):=by
 intro pins s σ H Q I h
 refine wpAny_Call_Name_kw (gC I hg hm hv ?_ (by decide) (by decide))
 refine PyProof.Rows.callWith_builtin1 ?_ rfl rfl
 show wpAny _ _ (spliced [(false,eval (.Call (.Name "set" p2) [e] [] pos2) X.env)]) _ _ s
 refine Calls.spliced_cons ?_
 refine wpAny_Call_Name_kw (gC I Uy hm2 hv2 ?_ (by decide) (by decide))
 refine PyProof.Rows.callWith_type1 ?_ hs rfl
 show wpAny _ _ (spliced (backTo pos2 (starEach [e] X.env))) _ _ s
 rw[hs]
 show wpAny _ _ (spliced [(false,eval e X.env)]) _ _ s
 refine Calls.spliced_cons (bZ (he pins s σ H _ I h) fun u s1 ⟨x,H1,I1,r1,p,ns,ex,hq,h64,q⟩=>Calls.spliced_nil ?_)
 subst ex
 cases r1
 obtain⟨its,rv,pl,hz⟩:=I1.list hq
 have hi:=intsAre_of rv
 have hl:=hi.length
 refine tR hh pl.isList (by simpa using hi) (by show its.toArray.size+1<4096;rw[List.size_toArray,hl];omega) fun h2 tk S k2=>?_
 obtain⟨o,es,ep,t,S⟩:=S
 refine Calls.spliced_nil ?_
 have hk:=tZ ns []
 have PN:(dQ [] ns).length<64:=by simp at hk;omega
 refine vZ (s:={ s1 with heap:=h2,toks:=tk }) hh S PN fun h3 Uz d D out e k3 zD eD hout=>?_
 have hD:s1.heap.objs.size<=D:=Nat.le_trans (Nat.le_of_lt (Heap.lt_size S.at_)) zD
 have hn:H1 D=none:=I1.hok.fresh hD
 refine⟨.ref D,_,(I1.draws d).laid (t':=Uz) (fun b o z=>k3 b o (k2 b o (Heap.lt_size z) z)) hD (show bI X.prog X.w _ _ _ (.lst ((PySem.W.sortI (dQ [] ns)).map V.int)) from⟨?_,out,e,gW hout,eD⟩),rfl,q _ hn⟩
 rw[List.length_map,(PySem.W.sortI_perm _).length_eq,sizeLine_eq];omega
end
end L2
end
section
namespace L2
open PySem PySem.Spec PyProof.Rows PySem.W
section
variable {X:Cx}
noncomputable def Su(to:TE):TE:=fun σ H Q=>to σ H fun x H1=>∃a kvs,x=.ref a/\H1 a=some (.dK kvs)/\∀l,H1 l=none->Q (.ref l) (upd H1 l (.lst (kvs.map fun kv=>kV kv.1)))
theorem AX{P:Program}{w:World}{k:Key}{u:Value}(e:(aO P w).is k u=true):RelV (kV k) u:=by
 rw[vg] at e
 rcases bE e with ⟨i,t,rfl,rfl⟩|⟨x,t,rfl,rfl⟩
 ·exact⟨t,rfl⟩
 ·exact⟨t,rfl⟩
theorem lO{P:Program}{w:World}:∀{kvs:List (Key×V)} {vs:List (Key×Value)} {out:List Value},KV kvs vs->out.length=vs.length->(∀(j:Nat) (v:Value),out[j]?=some v->∃(k:Key) (x:Value),vs[j]?=some (k,x)/\(aO P w).is k v=true)->Vals (kvs.map fun kv=>kV kv.1) out
 | [],vs,out,r,hl,h=>by
  cases r
  cases out with
  | nil=>exact .nil
  | cons _ _=>simp at hl
 | p::kvs,vs,out,r,hl,h=>by
  cases r with
  | @cons _ q _ qs hq t =>
   cases out with
   | nil=>simp at hl
   | cons v out =>
    obtain⟨k,x,e1,e2⟩:=h 0 v rfl
    simp at e1
    refine .cons ?_ (lO t (by simpa using hl) fun j u hu=>h (j+1) u hu)
    have:p.1=k:=by rw[hq.1,e1]
    show RelV (kV p.1) v
    rw[this]
    exact AX e2
end
end L2
end
section
namespace L2
open PySem PySem.Spec PyProof.Rows PySem.W
section
variable {X:Cx} {pins:List (Addr×Obj)} {σ:St} {H:Hp} {s:Shared} {a:Addr} {kvs:List (Key×V)} {k:Key} {u r:Value} {z:V} {A:Around} {E:Value->Shared->Prop}
end
end L2
end
section
namespace L2
open PySem PySem.Spec PyProof.Rows
section
open PySem.AutoSeq1 (wpAny_loadPart')
open PySem.MeetsSeq PySem.MeetsSeq3
end
end L2
end
section
namespace L2
open PySem PySem.Spec PyProof.Rows PySem.W
section
variable {X:Cx}
end
end L2
end
section
namespace L2
open PySem PySem.Spec PyProof.Rows PySem.W
section
variable {X:Cx}
end
end L2
end
section
namespace L2
open PySem PySem.Spec PyProof.Rows PySem.W
section
variable {X:Cx}
noncomputable def Sv(to:TE):TE:=fun σ H Q=>to σ H fun x H1=>∃(a:Addr) (kvs:List (Key×V)) (ns:List Int),x=.ref a/\H1 a=some (.dK kvs)/\kvs.map (·.1)=ns.map Sum.inl/\ns.length<64/\∀l,H1 l=none->Q (.ref l) (upd H1 l (.lst ((PySem.W.sortI ns).map V.int)))
theorem qI{vs:List Value}{ns:List Int}(hI:IntsAre vs ns):∀(p:List Nat),(∀i∈p,i<ns.length)->IntsAre (p.map fun i=>vs.getD i Value.none) (p.map fun i=>ns.getD i 0)
 | [],_=>.nil
 | i::r,mem=>by
  have hi:=mem i List.mem_cons_self
  have hi2:i<vs.length:=by rw[hI.length];exact hi
  obtain⟨t',ev⟩:=IntsAre.int_at hI i _ (List.getElem?_eq_getElem hi2)
  rw[List.map_cons,List.map_cons]
  have e1:vs.getD i Value.none=.int (ns.getD i 0) t':=by
   rw[<-ev];simp[List.getD,List.getElem?_eq_getElem hi2]
  rw[e1]
  exact .cons _ t' (qI hI r fun j hj=>mem j (List.mem_cons_of_mem _ hj))
end
end L2
end
section
namespace L2
open PySem PySem.Spec PyProof.Rows
end L2
end
section
namespace L2
open PySem PySem.Spec PyProof.Rows
section
variable {X:Cx}
theorem lP{M:Model}{A:Around}{E:Value->Shared->Prop}{s:Shared}{env:Env}{o:Expr}{m:Str}{ap cp:Pos}{args:List Expr}{Q:Value->Shared->Prop}
  (hbase:attributeBase o m env (eval o env)=eval o env)
  (hfew:((backTo cp (starEach args env)).all (fun x=>!x.1)&&(backToKw cp (keywordEach [] env)).all (fun x=>x.1.isSome)
   && decide (args.length+([]:List Keyword).length+(if ([]:List Keyword).isEmpty then 0 else 1)<30))=true) (hline:(ap.endLine==cp.line)=true)
  (h:wpAny M A (eval o env) (fun ov s₁=>∀pl,wpAny M A (getMethod ov m pl) (fun fx s₂=>wpAny M A (callWith cp fx.1 fx.2 (backTo cp (starEach args env)) (backToKw cp (keywordEach [] env))) Q E s₂) E s₁) E s) :
  wpAny M A (eval (.Call (.Attribute o m ap) args [] cp) env) Q E s:=by
 rw[arm_eval_Call,hbase]
 refine wpAny_bind (wpAny_mono h (fun ov s₁ h₁=>?_) fun _ _ e=>e)
 refine wpAny_bind (wpAny_standAt ?_)
 have LQ:methodCallForm (args.length+([]:List Keyword).length) (backTo cp (starEach args env)) (backToKw cp (keywordEach [] env))=true:=hfew
 have hpos:methodCallPos true o env ap cp=pure cp:=by unfold methodCallPos;simp[hline]
 unfold methodCall
 rw[LQ]
 refine wpAny_bind (wpAny_holding (wpAny_mono (h₁ _) (fun fx s₂ h₂=>?_) fun _ _ e=>e))
 exact wpAny_bind (wpAny_of_eq hpos h₂)
theorem pe_mthD{k:Nat}{o l:Expr}{m:Str}{ap cp:Pos}{ls:List Expr}{ta:TE}{t:TA}(he:PE X o ta)(ha:PA X (l::ls) t)(hbase:attributeBase o m X.env (eval o X.env)=eval o X.env)
  (hfew:((backTo cp (starEach (l::ls) X.env)).all (fun x=>!x.1)&&(backToKw cp (keywordEach [] X.env)).all (fun x=>x.1.isSome)
   && decide ((l::ls).length+([]:List Keyword).length+(if ([]:List Keyword).isEmpty then 0 else 1)<30))=true) (hline:(ap.endLine==cp.line)=true) (hr:cX k X.A)
  (st:starEach (l::ls) X.env=(false,eval l X.env)::starEach ls X.env) (an:(backTo cp (starEach ls X.env)).any (·.1)=false) :
  PE X (.Call (.Attribute o m ap) (l::ls) [] cp) (fun σ H Q=>ta σ H fun x H1=>∃a C dx fs f fd ps sp,x=.ref a/\H1 a=some (.ins C dx fs)/\z4 X.K C/\Meth X.K C m f/\fs.lookup m=none/\Binds X.K fd ps [] /\
   eW X.prog X.w X.K X.mg X.base ve k f fd ps sp/\t σ H1 fun vs H2=>sp (x::vs) H2 Q E0):=by
 intro pins s σ H Q I h
 refine lP hbase hfew hline (bZ (he pins s σ H _ I h) fun u s1 aC pl=>?_)
 obtain⟨x,H1,I1,rx,a,C,dx,fs,f,fd,ps,sp,ex,ea,c,hm,ln,hb,F,q⟩:=aC
 subst ex
 obtain rfl:u=Value.ref a:=rx
 refine nQ I1 ea c hm ln ?_
 refine PySem.W.callWith_K (first:=[.ref a]) (h₀:=X.base) I.ok.mod.Kw hm.kp (bZ (ha cp pins s1 σ H1 _ I1 q) fun us s2 ⟨vs,H2,I2,r,q2⟩=>⟨I2.lD,?_⟩) st an
 exact nR (us:=.ref a::us) (vs:=.ref a::vs) (pT:=[]) (ds:=[]) F hr hb .nil nZ I2 (.cons rfl r) (by rw[List.append_nil];exact q2)
theorem pe_mth0{k:Nat}{o:Expr}{m:Str}{ap cp:Pos}{ta:TE}(he:PE X o ta)(hbase:attributeBase o m X.env (eval o X.env)=eval o X.env)
  (hline:(ap.endLine==cp.line)=true) (hr:cX k X.A) :
  PE X (.Call (.Attribute o m ap) [] [] cp) (fun σ H Q=>ta σ H fun x H1=>∃a C dx fs f fd ps sp,x=.ref a/\H1 a=some (.ins C dx fs)/\z4 X.K C/\Meth X.K C m f/\fs.lookup m=none/\Binds X.K fd ps [] /\
   eW X.prog X.w X.K X.mg X.base ve k f fd ps sp/\sp [x] H1 Q E0):=by
 intro pins s σ H Q I h
 refine lP hbase rfl hline (bZ (he pins s σ H _ I h) fun u s1 aC pl=>?_)
 obtain⟨x,H1,I1,rx,a,C,dx,fs,f,fd,ps,sp,ex,ea,c,hm,ln,hb,F,q⟩:=aC
 subst ex
 obtain rfl:u=Value.ref a:=rx
 refine nQ I1 ea c hm ln ?_
 exact PySem.W.callWith_K0 (first:=[.ref a]) I1.lD hm.kp (nR (us:=[.ref a]) (vs:=[.ref a]) (pT:=[]) (ds:=[]) F hr hb .nil nZ I1 (.cons rfl .nil) q)
theorem HP:ja X (compareOp .Is) (fun x y H Q=>∃b c,x=.bl b/\y=.bl c/\Q (.bl (b==c)) H):=by
 intro pins s σ H x y v u Q I rx ry h
 obtain⟨b,c,rfl,rfl,q⟩:=h
 cases rx
 cases ry
 refine wpAny_is_plain rfl (lE I q ?_)
 cases b<;>cases c<;>rfl
theorem D3:ja X (compareOp .IsNot) (fun x y H Q=>∃b c,x=.bl b/\y=.bl c/\Q (.bl (!(b==c))) H):=by
 intro pins s σ H x y v u Q I rx ry h
 obtain⟨b,c,rfl,rfl,q⟩:=h
 cases rx
 cases ry
 refine wpAny_isNot_plain rfl (lE I q ?_)
 cases b<;>cases c<;>rfl
end
end L2
end
section
namespace L2
open PySem PySem.Spec PyProof.Rows PySem.W
section
variable {X:Cx}
theorem LR{a:Addr}{o:HO}{t':Nat}{pins:List (Addr×Obj)}{σ:St}{H:Hp}{s:Shared}{h':Heap}(I:Inv X pins σ H s)(k:∀b u,s.heap.get? b=some u->h'.get? b=some u)(hp:s.heap.get? a=none)(hn:H a=none)(new:bI X.prog X.w (upd H a o) h' a o) :
  Inv X pins σ (upd H a o) { s with heap:=h',toks:=t' }:=by
 refine I.un ⟨fun b u q _ _ _=>k b u q,fun b u q _ _ _=>⟨u.slots,k b u q⟩,fun b u q n _=>?_,fun b u q _=>⟨u,k b u q⟩,fun b xs q=>by rw[ak (aH q hn)];exact q,fun b u xs q=>by rw[ak (aH q hn)];exact q,fun b ps q=>⟨#[],by rw[ak (aH q hn),q];simp⟩⟩ fun b u e=>?_
 ·rw[ak fun z=>by rw[z,hp] at q;cases q];exact n
 ·by_cases hb:b=a
  ·subst hb;rw[aM] at e;cases e;exact new
  ·rw[ak hb] at e
   exact(I.hok b u e).stay (fun c v _ q=>k c v q) (fun c q=>by rw[ak (aH q hn)];exact q) fun c xs q=>by rw[ak (aH q hn)];exact q
noncomputable def UA(K:PySem.W.Frag)(te:TE)(ts:TO):TE:=fun σ H Q=>te σ H fun x H1=>ts σ H1 fun i H2=>i=some (-1)/\∃a xs,x=.ref a/\fO K H2 a xs/\∀p,H2 p=none->Q (.ref p) (upd H2 p (.lst xs.reverse))
theorem t6:∀{xs:List V} {its:List Value},Vals xs its->Vals xs.reverse its.reverse
 | [],_,h=>by cases h;exact .nil
 | x::r,_,h=>by
  cases h with
  | cons a t =>
   rw[List.reverse_cons,List.reverse_cons]
   exact Vals.append (t6 t) (.cons a .nil)
theorem HQ{e st:Expr}{te:TE}{ts:TO}{p2 pos:Pos}(he:PE X e te)(hs:PO X (some st) ts):PE X (.Subscript e (.Slice none none (some st) p2) pos) (UA X.K te ts):=by
 intro pins s σ H Q I h
 refine Subscript_ (bZ (he pins s σ H _ I h) fun v s1 aC=>?_)
 obtain⟨x,H1,I1,r1,q1⟩:=aC
 refine wpAny_Slice ?_
 rw[evalPart_none]
 refine wpAny_pure ?_
 refine wpAny_pure ?_
 refine bZ (hs pins s1 σ H1 _ I1 q1) fun vk s3 aC=>?_
 obtain⟨k,H3,I3,pk,q3⟩:=aC
 obtain⟨rfl,a,xs,rfl,hx,q⟩:=q3
 cases r1
 have I4:Inv X pins σ H3 { s3 with heap:=s3.heap.push { cls:=.type "slice",data:=.fields #[.none,.none,vk] } }:=I3.kept (t':=s3.toks) fun b ob q=>Heap.get?_push_of_some _ q
 obtain⟨its,r,ht,hz⟩:=I4.list hx
 have hlen:=r.length
 show wpAny (model X.prog X.w) X.A (subscriptTail e (.Slice none none (some st) p2) (.ref a) (.ref s3.heap.objs.size)) (EP X pins σ Q) X.xe { s3 with heap:=s3.heap.push { cls:=.type "slice",data:=.fields #[.none,.none,vk] } }
 refine tail_any (ops:=[.ref a,.ref s3.heap.objs.size]) ht.isList.typeIs slot_list_getitem.lookup ?_ (by with_unfolding_all rfl)
 refine wpAny_getItem_list_slice ht.isList (Heap.IsSliceOf.new ..) .none .none pk (by decide) ?_ (by rw[List.size_toArray]<;>omega)
 rw[PySem.W.krv_pick]
 refine⟨.ref _,_,I4.laid (t':=s3.toks) (o:=.lst xs.reverse) (fun b ob q=>Heap.get?_push_of_some _ q) (Nat.le_refl _) ?_,rfl,q _ (I4.hok.fresh (Nat.le_refl _))⟩
 exact⟨by rw[List.length_reverse];exact hz,_,0,t6 r,Heap.get?_push_size _ rfl⟩
theorem ze{o:Expr}{to:TE}{p pos:Pos}(hh:X.A.handled=none)(hst:starEach [o] X.env=[(false,eval o X.env)])(hg:Gl X "list")(hm:X.mg "list" = none)(hv:bootBuiltins "list" = some (.type "list"))(ho:PE X o to):PE X (.Call (.Name "list" p) [o] [] pos) (Su to):=by
 intro pins s σ H Q I h
 refine wpAny_Call_Name_kw (gC I hg hm hv ?_ (by decide) (by decide))
 refine PyProof.Rows.callWith_type1 ?_ hst rfl
 rw[hst]
 show wpAny _ _ (spliced [(false,eval o X.env)]) _ _ s
 refine Calls.spliced_cons ?_
 refine bZ (ho pins s σ H _ I h) fun u s1 aC=>?_
 obtain⟨x,H1,I1,r1,a,kvs,ex,ea,q⟩:=aC
 subst ex
 cases r1
 obtain⟨t1,t2,hd⟩:=vM I1 (.inl ⟨kvs,.inl ea⟩)
 obtain⟨hz,_,vs,rel,dd⟩:=tF I1.hok ea
 refine Calls.spliced_nil ?_
 obtain⟨ep,da⟩:=dd.dictAt
 have hlen:=rel.length
 refine kdl_call (kdl_dict (knd:=aO X.prog X.w) (kvs:=vs) (ep:=ep) (d:=a) hd) hh da (by rw[<-hlen];exact hz) fun h' tk acc c k2 eD hacc=>?_
 have hn:H1 s1.heap.objs.size=none:=I1.hok.fresh (Nat.le_refl _)
 refine⟨.ref _,_,I1.laid (t':=tk) (fun b o z=>k2 b o z) (Nat.le_refl _) (show bI X.prog X.w _ _ _ (.lst (kvs.map fun kv=>kV kv.1)) from⟨?_,acc.toList,c,?_,?_⟩),rfl,q _ hn⟩
 ·rw[List.length_map];exact hz
 ·exact lO (P:=X.prog) (w:=X.w) rel (by rw[Array.length_toList];exact hacc.1) fun j v e=>hacc.2 j v (by rw[<-Array.getElem?_toList];exact e)
 ·first|(rw[Array.toArray_toList];exact eD)|simpa using eD
theorem zf{o:Expr}{to:TE}{p pos:Pos}(hh:X.A.handled=none)(hst:starEach [o] X.env=[(false,eval o X.env)])(hg:Gl X "sorted")(hm:X.mg "sorted" = none)(hv:bootBuiltins "sorted" = some (.builtin "sorted"))(ho:PE X o to):PE X (.Call (.Name "sorted" p) [o] [] pos) (Sv to):=by
 intro pins s σ H Q I h
 refine wpAny_Call_Name_kw (gC I hg hm hv ?_ (by decide) (by decide))
 refine PyProof.Rows.callWith_builtin1 ?_ hst rfl
 rw[hst]
 show wpAny _ _ (spliced [(false,eval o X.env)]) _ _ s
 refine Calls.spliced_cons ?_
 refine bZ (ho pins s σ H _ I h) fun u s1 aC=>?_
 obtain⟨x,H1,I1,r1,a,kvs,ns,ex,ea,ens,h64,q⟩:=aC
 subst ex
 cases r1
 obtain⟨t1,t2,hd⟩:=vM I1 (.inl ⟨kvs,.inl ea⟩)
 obtain⟨hz,_,vs,rel,dd⟩:=tF I1.hok ea
 refine Calls.spliced_nil ?_
 obtain⟨ep,da⟩:=dd.dictAt
 have hlen:=rel.length
 refine nv.f6 (O:=nv.n9) (kdu_collect (A:=X.A.in1) (kdl_dict (knd:=aO X.prog X.w) (kvs:=vs) (ep:=ep) (d:=a) hd) (by simp[hh]) da (by rw[<-hlen];exact hz) fun h' tk acc k1 hacc=>?_)
 have hV:Vals (kvs.map fun kv=>kV kv.1) acc.toList:=lO (P:=X.prog) (w:=X.w) rel (by rw[Array.length_toList];exact hacc.1) fun j v e=>hacc.2 j v (by rw[<-Array.getElem?_toList];exact e)
 have hk:(kvs.map fun kv=>kV kv.1)=ns.map V.int:=by
  have:=congrArg (List.map kV) ens
  rw[List.map_map,List.map_map] at this
  exact this
 rw[hk] at hV
 have hI:=intsAre_of hV
 have lv:=hI.length
 have hN:∀b o,s1.heap.get? b=some o->b≠h'.objs.size:=fun b o e z=>by
  have q:=Heap.lt_size (k1 b o e)
  rw[z] at q
  exact Nat.lt_irrefl _ q
 refine⟨by rw[lv];exact h64,fun i=>ns.getD i 0,fun h2 h6 _=>nv.oh hI h2,fun pp h'' outs k' he=>?_⟩
 obtain⟨e,he⟩:=he
 have mem:∀i∈pp,i<ns.length:=fun i hi=>by have:=outs.perm.mem_iff.mp hi;rw[lv] at this;simpa using this
 have pn:(pp.map fun i=>ns.getD i 0).Perm ns:=by
  have:=outs.perm.map fun i=>ns.getD i 0
  rw[lv,nv.dW] at this
  exact this
 have up:(pp.map fun i=>ns.getD i 0).Pairwise (· <= ·):=by
  refine List.Pairwise.imp (R:=nv.n9.kle) (fun {x y:Int} hxy=>?_) outs.up
  have hxy:(decide (y<x):Bool)=false:=hxy
  exact Int.not_lt.mp (of_decide_eq_false hxy)
 have es:=PySem.W.eq_sortI pn up
 have hout:=qI hI pp mem
 rw[es] at hout
 dsimp only at k' he |-
 have hl:s1.heap.get? h'.objs.size=none:=by
  cases e:s1.heap.get? h'.objs.size with
  | none=>rfl
  | some o=>exact absurd rfl (hN _ o e)
 have hn:H1 h'.objs.size=none:=(kg.kept I1.hok k1).fresh (Nat.le_refl _)
 refine⟨.ref h'.objs.size,_,LR I1 (t':=tk) (fun b o z=>k' b o (k1 b o z)) hl hn (show bI X.prog X.w _ _ _ (.lst ((PySem.W.sortI ns).map V.int)) from⟨?_,_,e,gW hout,he⟩),rfl,q _ hn⟩
 rw[List.length_map,(PySem.W.sortI_perm _).length_eq,sizeLine_eq];omega
end
end L2
end
section
namespace L2
open PySem PySem.Spec PyProof.Rows PySem.W
section
variable {X:Cx}
theorem Inv.freeze{pins:List (Addr×Obj)}{σ:St}{H:Hp}{s:Shared}{a:Addr}{o:Obj}{kvs:List (Key×V)}(I:Inv X pins σ H s)(e:H a=some (.dK kvs))(ho:s.heap.get? a=some o):Inv X pins σ (upd H a (.iZ o (.dK kvs))) s :=
 I.write (x:=a) (e:=a) (o:=.iZ o (.dK kvs)) (h':=s.heap) (t':=s.toks) (by rw[e];trivial) (.inl rfl) (fun b u _ q=>q) ⟨o,ho⟩ ⟨ho,I.hok a _ e⟩
theorem Inv.LS{pins LU:List (Addr×Obj)}{σ σ0:St}{H H0:Hp}{s s0:Shared}{a:Addr}{o:Obj}{kvs k0:List (Key×V)}(I0:Inv X LU σ0 H0 s0)(e0:H0 a=some (.dK k0))(I:Inv X pins σ H s)(e:H a=some (.iZ o (.dK kvs))):Inv X pins σ (upd H a (.dK kvs)) s:=by
 have nf:∀b,H b=none->b≠a:=fun b z y=>by rw[y,e] at z;cases z
 refine⟨I.ok,I.os,I.bare,⟨I.base.keep,I.base.slot,fun b ob q n hx=>?_,I.base.there,fun b xs q=>?_,fun b ob u q=>?_,fun b ps q=>?_⟩,I.loc,I.cell,?_,fun x c q=>?_,fun p hp=>?_,fun b u q=>?_,I.len⟩
 ·have z:=I.base.free b ob q n hx
  rw[ak (nf b z)];exact z
 ·have z:=I.base.tups b xs q
  rw[ak (fun y=>by rw[y,e] at z;cases z)];exact z
 ·have z:=I.base.frzs b ob u q
  have z0:=I0.base.frzs b ob u q
  rw[ak (fun y=>by rw[y,e0] at z0;cases z0)];exact z
 ·obtain⟨more,z⟩:=I.base.pU b ps q
  exact⟨more,by rw[ak (fun y=>by rw[y,e] at z;cases z)];exact z⟩
 ·rw[ak (nf _ I.free)];exact I.free
 ·rw[ak (nf _ (I.gu x c q))];exact I.gu x c q
 ·obtain⟨q1,q2,q3⟩:=I.pin p hp
  exact⟨q1,by rw[ak (nf _ q2)];exact q2,q3⟩
 ·by_cases hb:b=a
  ·subst hb
   rw[aM] at q;cases q
   obtain⟨_,z⟩:=(show bI X.prog X.w H s.heap b (.iZ o (.dK kvs)) from I.hok b _ e)
   exact z
  ·rw[ak hb] at q
   exact(I.hok b u q).stay (fun c v _ z=>z) (fun c z=>by rw[ak (fun y=>by rw[y,e] at z;cases z)];exact z) fun c xs z=>by rw[ak (fun y=>by rw[y,e] at z;cases z)];exact z
noncomputable def AY(t:TE):TE:=fun σ H Q=>∃a kvs,H a=some (.dK kvs)/\t σ H fun v H'=>∃o,H' a=some (.iZ o (.dK kvs))/\Q v (upd H' a (.dK kvs))
theorem D4{e:Expr}{t:TE}(h:PE X e t):PE X e (AY t):=by
 intro pins s σ H Q I hh
 obtain⟨a,kvs,ea,ht⟩:=hh
 exact bZ (h pins s σ H _ I ht) fun v s1 ⟨x,H1,I1,r1,o,e1,q⟩=>⟨x,_,Inv.LS I ea I1 e1,r1,q⟩
noncomputable def LV(t:TS):TS:=fun D σ H=>∃a kvs,H a=some (.dK kvs)/\t { D with nx:=fun σ' H'=>∃o,H' a=some (.iZ o (.dK kvs))/\D.nx σ' (upd H' a (.dK kvs)) } σ H
theorem D5{st:Stmt}{t:TS}(h:PS X st t):PS X st (LV t):=by
 intro pins s σ H D I hh
 obtain⟨a,kvs,ea,ht⟩:=hh
 refine bZ (h pins s σ H _ I ht) fun f s1 q=>?_
 cases f with
 | next=>obtain⟨σ1,H1,I1,o,e1,q⟩:=q;exact⟨σ1,_,Inv.LS I ea I1 e1,q⟩
 | brk=>exact q
 | cont=>exact q
 | ret u=>exact q
noncomputable def Sw(a:Addr)(o:Obj)(kvs:List (Key×V)):It :=
 ⟨fun i H=>H a=some (.iZ o (.dK kvs))/\i<kvs.length,fun i H x H'=>H'=H/\∃kv,kvs[i]?=some kv/\x=kV kv.1,fun i H=>H a=some (.iZ o (.dK kvs))/\kvs.length<=i⟩
theorem AZ:∀{kvs:List (Key×V)} {vs:List (Key×Value)} {i:Nat} {kv:Key×V},KV kvs vs->kvs[i]?=some kv->∃v,vs[i]?=some (kv.1,v)
 | [],_,_,_,_,e=>by simp at e
 | p::kvs,_,0,kv,r,e=>by
  cases r with
  | @cons _ q _ qs hq t =>
   simp at e;subst e
   exact⟨q.2,by rw[hq.1];rfl⟩
 | p::kvs,_,i+1,kv,r,e=>by
  cases r with
  | @cons _ q _ qs hq t =>
   obtain⟨v,hv⟩:=AZ t (by simpa using e)
   exact⟨v,by simpa using hv⟩
theorem zg{P:Program}{w:World}{K:PySem.W.Frag}{tg:Expr}(a it:Addr){o:Obj}{es:Array DictEntry}{ep:Nat}{kvs:List (Key×V)}{vs:List (Key×Value)}(rel:KV kvs vs)
  (hd:o.ExactDict/\o.data=.dict es ep/\KeysOf (aO P w) es/\Pairs (aO P w) es.toList vs/\(vs.map (·.1)).Nodup) :
  Turn P w K tg (Sw a o kvs) [it] it (fun i h=>h.IsKeyIter it a i vs.length ep) where
 mem:=by simp
 obj:=fun i h st b hb=>by
  have e:b=it:=by simpa using hb
  subst e
  obtain⟨o,e,c,d⟩:=st
  exact⟨o,e,fun v z=>by rw[d] at z;cases z⟩
 keep:=fun i h h' st k=>st.at fun o e=>k it (by simp) o e
 item:=by
  intro X hP hw hK hc i pins s σ H E I hf st hg
  subst hP hw hK
  obtain⟨ha,hi⟩:=hg
  obtain⟨hob,_⟩:=(show bI X.prog X.w H s.heap a (.iZ o (.dK kvs)) from I.hok a _ ha)
  have hm:s.heap.DictAt (aO X.prog X.w) a vs ep:=⟨o,es,hob,hd⟩
  obtain⟨v,hv⟩:=AZ rel (List.getElem?_eq_getElem hi)
  obtain⟨f0,f1,f2,f3,f4,f5⟩:=hf it (by simp)
  refine wpAny_pyNext_dict_item st hm hv fun key h' hkey st' sb=>?_
  have I1:Inv X pins σ H { s with heap:=h' }:=I.turned (t':=s.toks) (fun b o hb e=>(sb.2 b hb).trans e) f0 f1 f3 f4 f5
  obtain⟨o',e,c,d⟩:=id st'
  exact⟨key,rfl,wW (s:={ s with heap:=h' }) e c d (by decide) ⟨kV kvs[i].1,H,I1,AX hkey,⟨rfl,kvs[i],List.getElem?_eq_getElem hi,rfl⟩,st',fun b hb=>(hf b hb).1⟩⟩
 done:=by
  intro X hP hw hK hc i pins s σ H E I hf st hg
  subst hP hw hK
  obtain⟨ha,hi⟩:=hg
  obtain⟨hob,_⟩:=(show bI X.prog X.w H s.heap a (.iZ o (.dK kvs)) from I.hok a _ ha)
  have hm:s.heap.DictAt (aO X.prog X.w) a vs ep:=⟨o,es,hob,hd⟩
  obtain⟨f0,f1,f2,f3,f4,f5⟩:=hf it (by simp)
  exact wpAny_pyNext_dict_end (I.ok.hd hc) st hm (List.getElem?_eq_none (by rw[<-rel.length];exact hi)) fun h' eb=>⟨rfl,I.turned (t':=s.toks) (fun b o hb e=>eb b o hb e) f0 f1 f3 f4 f5⟩
 self:=fun _ _ _ _ _ st h=>wpAny_pyIter_keyiter st h
noncomputable def A7(tl:TE):TI:=fun σ H R=>tl σ H fun x H1=>∃a kvs,x=.ref a/\H1 a=some (.dK kvs)/\∀o,R (Sw a o kvs) (upd H1 a (.iZ o (.dK kvs)))
theorem D6{tg l:Expr}{tl:TE}(hl:PE X l tl):PI X tg l (A7 tl):=by
 intro pins s σ H R I h
 refine bZ (hl pins s σ H _ I h) fun v s1 aC=>?_
 obtain⟨x,H1,I1,r1,q1⟩:=aC
 obtain⟨a,kvs,e,ea,q⟩:=q1
 subst e
 cases r1
 obtain⟨hz,hsm,vs,rel,dd⟩:=tF I1.hok ea
 obtain⟨ep,da⟩:=dd.dictAt
 obtain⟨o,es,ho,r⟩:=id da
 have I2:=I1.freeze ea ho
 refine wpAny_pyIter_dict hsm da ?_
 refine⟨s1.heap.objs.size,[s1.heap.objs.size],_,_,_,rfl,I2.kept (t':=s1.toks) fun b o e=>Heap.get?_push_of_some _ e,zg a _ rel r,⟨_,Heap.get?_push_size _ rfl,rfl,rfl⟩,fun b hb=>?_,q o⟩
 have e:b=s1.heap.objs.size:=by simpa using hb
 subst e
 exact I2.Ag (Nat.le_refl _) (I2.hok.fresh (Nat.le_refl _))
noncomputable def UB(K:PySem.W.Frag)(js:List (Option Nat))(d q:Nat):TE:=fun σ H Q=>∃a kvs b ys,σ[d]?=some (some (.ref a))/\H a=some (.dK kvs)/\kvs.length<=sizeLine/\(fZ js σ)[q]?=some (some (.ref b))/\fO K H b ys/\ys.all bq=true /\
 ∀D,H D=none->Q (.ref D) (upd H D (.lst ((kvs.map fun kv=>kV kv.1).filter fun k=>!CN k ys)))
theorem A9{K:PySem.W.Frag}{H:Hp}{a b:Addr}{ys:List V}{u:HO}(q:fO K H b ys)(h:∀v,H a=some v->(∀xs,v≠.lst xs)/\∀o xs,v≠.iZ o (.lst xs)):fO K (upd H a u) b ys:=by
 rcases q with (q|⟨o,q⟩)|q
 ·exact .inl (.inl (by rw[ak (fun y=>by subst y;exact(h _ q).1 _ rfl)];exact q))
 ·exact .inl (.inr ⟨o,by rw[ak (fun y=>by subst y;exact(h _ q).2 _ _ rfl)];exact q⟩)
 ·exact .inr q
theorem HS{K:PySem.W.Frag}{js:List (Option Nat)}{d p q:Nat}(hpq:p≠q)(hp:p<js.length){σ:St}{H:Hp}{Q:VK}(h:UB K js d q σ H Q):AY (tM (A7 (pV d)) js (mG p) (Ai (KA (Pd K true) (pV p) (pV q))) (pV p)) σ H Q:=by
 obtain⟨a,kvs,b,ys,hd,ha,hz,hb,hs,hf,hQ⟩:=h
 refine⟨a,kvs,ha,.ref a,hd,a,kvs,rfl,ha,fun o D hD=>?_⟩
 have PR:D≠a:=fun z=>by rw[z,aM] at hD;cases hD
 have UC:H D=none:=by rw[ak PR] at hD;exact hD
 have hs1:fO K (upd H a (.iZ o (.dK kvs))) b ys:=A9 hs fun v hv=>by rw[ha] at hv;cases hv;exact⟨fun _ z=>(nomatch z),fun _ _ z=>(nomatch z)⟩
 let L:Nat->List V:=fun i=>((kvs.take i).map fun kv=>kV kv.1).filter fun k=>!CN k ys
 have hlL:∀i,(L i).length<=i:=fun i=>by
  refine Nat.le_trans (List.length_filter_le _ _) ?_
  rw[List.length_map,List.length_take];omega
 refine⟨fun i m σ' H'=>i+m=kvs.length/\H'=upd (upd H a (.iZ o (.dK kvs))) D (.lst (L i)) /\ σ'.length=js.length /\ σ'[q]?=some (some (.ref b)),⟨kvs.length,by omega,rfl,gE js σ,hb⟩,?_⟩
 rintro i m σ' H' ⟨e1,rfl,e3,e4⟩
 have LW:upd (upd H a (.iZ o (.dK kvs))) D (.lst (L i)) a=some (.iZ o (.dK kvs)):=by rw[ak PR.symm,aM]
 cases m with
 | zero =>
  refine .inl ⟨⟨LW,by omega⟩,o,LW,?_⟩
  have:upd (upd (upd H a (.iZ o (.dK kvs))) D (.lst (L i))) a (.dK kvs)=upd H D (.lst (L i)):=by
   funext c
   unfold upd
   by_cases c1:c=a
   ·rw[if_pos c1,if_neg (by rw[c1];exact PR.symm),c1];exact ha.symm
   ·rw[if_neg c1]
    by_cases c2:c=D
    ·rw[if_pos c2,if_pos c2]
    ·rw[if_neg c2,if_neg c2,if_neg c1]
  rw[this]
  have:=hQ D UC
  show Q _ (upd H D (.lst (((kvs.take i).map fun kv=>kV kv.1).filter fun k=>!CN k ys)))
  rw[List.take_of_length_le (by omega)]
  exact this
 | succ m =>
  have hi:i<kvs.length:=by omega
  refine .inr ⟨⟨LW,hi⟩,_,fun yU FO w=>⟨m,Nat.lt_succ_self _,w⟩,fun x H2 hy=>?_⟩
  obtain⟨rfl,kv,hkv,rfl⟩:=hy
  have fx:bq (kV kv.1)=true:=by cases kv.1<;>rfl
  have g1:(σ'.set p (some (kV kv.1)))[p]?=some (some (kV kv.1)):=List.getElem?_set_self (by omega)
  have g2:(σ'.set p (some (kV kv.1)))[q]?=some (some (.ref b)):=by rw[List.getElem?_set_ne hpq];exact e4
  have hs2:fO K (upd (upd H a (.iZ o (.dK kvs))) D (.lst (L i))) b ys:=A9 hs1 fun v hv=>by rw[hD] at hv;cases hv
  have hL:L (i+1)=if (!CN (kV kv.1) ys)=true then L i++[kV kv.1] else L i:=by
   show ((kvs.take (i+1)).map fun kv=>kV kv.1).filter _=_
   rw[List.take_succ,hkv]
   simp only[Option.toList,List.map_append,List.filter_append,List.map_cons,List.map_nil,List.filter_cons,List.filter_nil]
   split<;>simp[L]
  refine⟨kV kv.1,g1,.ref b,g2,b,ys,rfl,.inl hs2,fx,hf,_,rfl,?_⟩
  simp only[if_true]
  by_cases hin:(!CN (kV kv.1) ys)=true
  ·rw[if_pos hin]
   refine⟨kV kv.1,g1,L i,aM,by have:=hlL i;omega,by omega,?_,by rw[List.length_set];exact e3,g2⟩
   rw[CW,hL,if_pos hin]
  ·rw[if_neg hin]
   exact⟨by omega,by rw[hL,if_neg hin],by rw[List.length_set];exact e3,g2⟩
structure HU (K:PySem.W.Frag) (C:Addr) (m:Str) (f:Addr):Prop where
 ga:PySem.W.specialIn K (.ref C) "__getattribute__" = some (some (.builtin "type.__getattribute__"))
 rd:PySem.W.readsIn K C (.type "type")=true
 at_:PySem.W.findCls K (.ref C) (.type "type") m=some (.val (.ref f))
 kp:PySem.W.keepIn K (.ref f)=true
theorem HV{k:Nat}{x:Str}{np:Pos}{l:Expr}{m:Str}{ap cp:Pos}{ls:List Expr}{t:TA}{C f:Addr}{fd:FuncData}{ps:List Str}{sp:Sp}(F:eW X.prog X.w X.K X.mg X.base ve k f fd ps sp)(hr:cX k X.A)(hg:Gl X x)(hm:X.mg x=some (.ref C))(c:HU X.K C m f)(hb:Binds X.K fd ps [])
  (ha:PA X (l::ls) t) (hd:(x==("__debug__":Str))=false)
  (hfew:((backTo cp (starEach (l::ls) X.env)).all (fun x=>!x.1)&&(backToKw cp (keywordEach [] X.env)).all (fun x=>x.1.isSome)
   && decide ((l::ls).length+([]:List Keyword).length+(if ([]:List Keyword).isEmpty then 0 else 1)<30))=true) (hline:(ap.endLine==cp.line)=true)
  (st:starEach (l::ls) X.env=(false,eval l X.env)::starEach ls X.env) (an:(backTo cp (starEach ls X.env)).any (·.1)=false) :
  PE X (.Call (.Attribute (.Name x np) m ap) (l::ls) [] cp) (fun σ H Q=>t σ H fun vs H1=>sp vs H1 Q E0):=by
 intro pins s σ H Q I h
 refine lP rfl hfew hline (jK I hg hm (fun pl=>?_) hd)
 refine PySem.W.method_cls I.lD c.ga (PySem.W.cls_value I.lD c.rd c.at_ rfl ?_)
 refine PySem.W.callWith_K (first:=[]) (h₀:=X.base) I.ok.mod.Kw c.kp (bZ (ha cp pins _ σ H _ (I.tok _) h) fun us s2 ⟨vs,H2,I2,r,q2⟩=>⟨I2.lD,?_⟩) st an
 exact nR (us:=us) (vs:=vs) (pT:=[]) (ds:=[]) F hr hb .nil nZ I2 r (by rw[List.append_nil];exact q2)
structure Sx (K:PySem.W.Frag) (C:Addr):Prop where
 ha:PySem.W.findIn K (.ref C) "__class__" = some (some (.builtin "object.__class__"))
 hn:PySem.W.specialIn K (.builtin "object.__class__") "__get__" = some (some (.builtin "getset_descriptor.__get__"))
 htk:PySem.W.takesIn K (.builtin "object.__class__")=some true
 hm:PySem.W.mroIn K C (.type "object")=some true
end
end L2
end
section
namespace Hv
open PySem L2 PyProof.Rows
inductive Val
 | non|bl (b:Bool)|int (i:Int)|str (x:Str)|tup (vs:List Val)|rl (vs:List Val)|dc (ks:List Key) (vs:List Val)|ob (c:Nat) (xs:List Str) (vs:List Val)|ref (i:Nat)
inductive Ob
 | lst (xs:List Val)|dct (kvs:List (Key×Val))|ins (c:Nat) (fs:List (Str×Val))
noncomputable abbrev Hs:=List Ob
inductive Out (α:Type)
 | ok (a:α) (h:Hs)|exc (c:Nat) (vs:List Val) (h:Hs)|no
noncomputable abbrev M(α:Type):=Hs->Out α
noncomputable def ret{α:Type}(a:α):M α:=fun h=>.ok a h
noncomputable def bnd{α β:Type}(m:M α)(f:α -> M β):M β:=fun h=>match m h with
 | .ok a h'=>f a h'
 | .exc c vs h'=>.exc c vs h'
 | .no=>.no
noncomputable def bw{α:Type}(o:Option α):M α:=fun h=>match o with
 | some a=>.ok a h
 | none=>.no
noncomputable def ask{α:Type}(f:Hs->Option α):M α:=fun h=>bw (f h) h
noncomputable def new(o:Ob):M Val:=fun h=>.ok (.ref h.length) (h++[o])
noncomputable def put(i:Nat)(o:Ob):M Unit:=fun h=>.ok () (h.set i o)
noncomputable def cg{α β:Type}(f:α -> Option β):List α -> Option (List β)
 | []=>some []
 | a::r=>(f a).bind fun b=>(cg f r).bind fun bs=>some (b::bs)
inductive rR|add|sub|mul|fdiv|mod|pow
 deriving DecidableEq
inductive xB|eq|ne|lt|le|gt|ge|isn|ntn|zh|nin
 deriving DecidableEq
inductive Bl|len|min|max|sorted|list|tuple|str|int|all|any|isin (T:String)
 deriving DecidableEq
inductive Me|join|append|extend
 deriving DecidableEq
inductive jV|one (i:Nat)|tup (is:List Nat)
 deriving DecidableEq
inductive Ik|seq|range|enum|zip
 deriving DecidableEq
mutual
inductive IE
 | var (i:Nat)|cst (d:Val)|con (x:Str) (d:Val)|no
 | bin (o:rR) (a b:IE)|neg (a:IE)|cmp (o:xB) (a b:IE)|chn (o p:xB) (a b c:IE)
 | and (a b:IE)|or (a b:IE)|not (a:IE)|ite (c a b:IE)
 | tup (es:eO)|lst (es:eO)|idx (a b:IE)|slc (a lo hi:IE)
 | call (j:Nat) (es:eO)|blt (b:Bl) (es:eO)|met (m:Me) (a:IE) (es:eO)
 | comp (N:List Str) (js:List (Option Nat)) (pat:jV) (k:Ik) (it:eO) (c elt:IE)
 | dct0
 | sset (a:IE)
 | dget (d k x:IE)
 | dct1 (k v:IE)
 | lkeys (d:IE)
 | sdef (d k x:IE)
 | svals (d:IE)
 | skeys (d:IE)
 | fld (n:Nat) (a:IE) (x:Str)
 | mth (a:IE) (m:Str) (js:List (Nat×Nat)) (es:eO)
 | rev (a s:IE)
 | dflt (N:List Str) (js:List (Option Nat)) (p q:Nat) (d w:IE)
 | isc (a:IE) (x:Str) (bs:List Bool)
inductive eO|nil|cons (e:IE) (es:eO)
end
noncomputable abbrev Env:=List (Option Val)
mutual
inductive IS
 | expr (e:IE)|asg (p:jV) (e:IE)|aug (i:Nat) (o:rR) (e:IE)|di (o i v:IE)
 | iff (c:IE) (a b:cU)|for (p:jV) (k:Ik) (it:eO) (body:cU)|whl (n:Nat) (c:IE) (body:cU)
 | ret (e:IE)|D7|brk|cnt|pass|never|setF (n:Nat) (a:IE) (x:Str) (v:IE)
inductive cU|nil|cons (s:IS) (r:cU)
end
noncomputable def aB(h:Hs):Val->Option (List Val)
 | .rl vs=>some vs
 | .ref i=>match h[i]? with
  | some (.lst xs)=>some xs
  | _=>none
 | _=>none
noncomputable def cV(h:Hs):Val->Option (List Val)
 | .tup vs=>some vs
 | v=>aB h v
noncomputable def t7(h:Hs):Val->Option (List Val)
 | .tup vs=>some vs
 | .ref i=>aB h (.ref i)
 | _=>none
noncomputable def aQ:List Val->Option (List Int):=cg fun v=>match v with
 | .int i=>some i
 | _=>none
noncomputable def strs?:List Val->Option (List Str):=cg fun v=>match v with
 | .str i=>some i
 | _=>none
noncomputable def PU:List Val->Option (List Bool):=cg fun v=>match v with
 | .bl i=>some i
 | _=>none
noncomputable def j3:List Val->Option (List (List Int)):=cg fun v=>match v with
 | .tup vs=>if vs.isEmpty then none else aQ vs
 | _=>none
noncomputable def toD:Nat->Hs->Val->Option PyData
 | 0,_,_=>none
 | _+1,_,.non=>some .none
 | _+1,_,.bl b=>some (.bool b)
 | _+1,_,.int i=>some (.int i)
 | _+1,_,.str x=>if PyData.strOk x=true then some (.str x) else none
 | n+1,h,.tup vs=>(cg (toD n h) vs).bind fun ds=>some (.tuple ds)
 | n+1,h,.rl vs=>(cg (toD n h) vs).bind fun ds=>some (.list ds)
 | _+1,_,.dc _ _=>none
 | _+1,_,.ob _ _ _=>none
 | n+1,h,.ref i=>(aB h (.ref i)).bind fun xs=>(cg (toD n h) xs).bind fun ds=>some (.list ds)
noncomputable def z5(h:Hs)(v w:Val):Option Bool:=(toD 16 h v).bind fun d=>(toD 16 h w).bind fun e=>some (PyData.eqv d e)
noncomputable def rS(x:List Int):List (List Int)->List (List Int)
 | []=>[x]
 | y::r=>if HT.lexLt y x=true then y::rS x r else x::y::r
noncomputable def kK:List (List Int)->List (List Int)
 | []=>[]
 | x::r=>rS x (kK r)
noncomputable def kL(ks:List Int):Val:=.tup (ks.map .int)
noncomputable def fq(xs:List Val):Option (List Val) :=
 if xs.length<64 then
  match aQ xs with
  | some ns=>some ((PySem.W.sortI ns).map .int)
  | none=>(j3 xs).bind fun m9=>some ((kK m9).map kL)
 else none
noncomputable def rT:List Int->Option Val
 | []=>none
 | a::r=>some (.int (r.foldl min a))
noncomputable def rV:List Int->Option Val
 | []=>none
 | a::r=>some (.int (r.foldl max a))
noncomputable def jk(i j:Int):Bool:=(decide (-(2 ^ 64)<i)&&decide (i<2 ^ 64))||(decide (-(2 ^ 64)<j)&&decide (j<2 ^ 64))
noncomputable def aD{α:Type}(c:Bool)(m:M α):M α:=fun h=>if c=true then m h else .no
noncomputable def gX(b:Int):Bool:=decide (0<b/\b<1606938044258990275541962092341162602522202993782792835301376)
noncomputable def FQ:rR->Val->Val->M Val
 | .add,.int a,.int b=>ret (.int (a+b))
 | .add,.str a,.str b=>aD (decide (a.length+b.length<=sizeLine)) (ret (.str (a++b)))
 | .add,.tup a,.tup b=>aD (!a.isEmpty&&decide (a.length+b.length<=sizeLine)) (ret (.tup (a++b)))
 | .add,v,w=>bnd (ask fun h=>aB h v) fun a=>bnd (ask fun h=>aB h w) fun b=>aD (decide (a.length+b.length<=sizeLine)) (new (.lst (a++b)))
 | .sub,.int a,.int b=>ret (.int (a-b))
 | .mul,.int a,.int b=>aD (jk a b) (ret (.int (a*b)))
 | .fdiv,.int a,.int b=>aD (gX b) (ret (.int (a/b)))
 | .mod,.int a,.int b=>aD (decide (0<b)) (ret (.int (a%b)))
 | .pow,.int a,.int b=>aD (decide (0<=b/\b<=1000000/\a.natAbs<2 ^ 64)) (ret (.int (a ^ b.toNat)))
 | _,_,_=>bw none
noncomputable def oA:Val->Bool
 | .non=>true
 | _=>false
noncomputable def bQ(kvs:List (Key×Val))(k:Key):Option Val:=(kvs.find? fun kv=>decide (kv.1=k)).map (·.2)
noncomputable def f7(kvs:List (Key×Val))(k:Key)(v:Val):List (Key×Val) :=
 if (kvs.any fun kv=>decide (kv.1=k))=true then kvs.map (fun kv=>if kv.1=k then (kv.1,v) else kv) else kvs++[(k,v)]
noncomputable def keyOf:Val->Option Key
 | .int i=>some (.inl i)
 | .str x=>some (.inr x)
 | _=>none
noncomputable def HW(f d:PyData):Option Bool:=match f with
 | .list ds=>some (ds.any fun y=>PyData.eqv y d)
 | .tuple ds=>some (ds.any fun y=>PyData.eqv y d)
 | _=>none
noncomputable def memD(h:Hs)(v w:Val):Option Bool:=(toD 16 h w).bind fun f=>(toD 16 h v).bind fun d=>HW f d
noncomputable def D8(h:Hs)(v:Val)(i:Nat):Ob->Option Bool
 | .dct kvs=>(keyOf v).bind fun k=>some (bQ kvs k).isSome
 | _=>memD h v (.ref i)
noncomputable def rW(h:Hs):Val->Val->Option Bool
 | .str a,.str b=>some (!(Builtin.Str.occurrences b a 0 b.length 1).isEmpty)
 | v,.ref i=>(h[i]?).bind (D8 h v i)
 | v,.dc ks _=>(keyOf v).bind fun k=>some (ks.any fun j=>decide (j=k))
 | v,w=>memD h v w
noncomputable def FT(v w:Val):Option Bool:=match w with
 | .non=>some (oA v)
 | .bl b=>(match v with
  | .bl a=>some (a==b)
  | _=>none)
 | _=>none
noncomputable def cop(h:Hs):xB->Val->Val->Option Bool
 | .eq,v,w=>z5 h v w
 | .ne,v,w=>(z5 h v w).map (!·)
 | .lt,.int a,.int b=>some (decide (a<b))
 | .le,.int a,.int b=>some (decide (a<=b))
 | .gt,.int a,.int b=>some (decide (b<a))
 | .ge,.int a,.int b=>some (decide (b<=a))
 | .isn,v,w=>FT v w
 | .ntn,v,w=>(FT v w).map (!·)
 | .zh,v,w=>rW h v w
 | .nin,v,w=>(rW h v w).map (!·)
 | _,_,_=>none
noncomputable def dj(h:Hs):Val->Option Bool
 | .non=>some false
 | .bl b=>some b
 | .int i=>some (i != 0)
 | .str x=>if x.length<=sizeLine then some ((x.length:Int) != 0) else none
 | .tup vs=>some (!vs.isEmpty)
 | .rl vs=>some (!vs.isEmpty)
 | .dc ks _=>some (!ks.isEmpty)
 | .ob _ _ _=>none
 | .ref i=>match h[i]? with
  | some (.lst xs)=>some (!xs.isEmpty)
  | some (.dct xs)=>some (!xs.isEmpty)
  | _=>none
noncomputable def iM(h:Hs):Val->Val->Option Val
 | .str x,.int i=>if x.length<=sizeLine then (jg x.cps.toList i).map fun c=>.str ⟨#[c]⟩ else none
 | .tup vs,.int i=>jg vs i
 | .rl vs,.int i=>jg vs i
 | .ref j,.int i=>match h[j]? with
  | some (.dct kvs)=>bQ kvs (.inl i)
  | _=>(aB h (.ref j)).bind fun xs=>jg xs i
 | .ref j,.str x=>match h[j]? with
  | some (.dct kvs)=>bQ kvs (.inr x)
  | _=>none
 | .dc ks vs,.int i=>bQ (ks.zip vs) (.inl i)
 | .dc ks vs,.str x=>bQ (ks.zip vs) (.inr x)
 | _,_=>none
noncomputable def Ba(h:Hs)(o:Val):Option Unit:=match o with
 | .ref i=>(match h[i]? with
  | some (.dct _)=>some ()
  | _=>none)
 | .dc _ _=>some ()
 | _=>none
noncomputable def v5(h:Hs)(o:Val)(k:Key):Option (Option Val):=match o with
 | .ref i=>(match h[i]? with
  | some (.dct kvs)=>some (bQ kvs k)
  | _=>none)
 | .dc ks vs=>some (bQ (ks.zip vs) k)
 | _=>none
noncomputable def kM(h:Hs)(o:Val):Option (List Key):=match o with
 | .ref i=>(match h[i]? with
  | some (.dct kvs)=>some (kvs.map (·.1))
  | _=>none)
 | .dc ks _=>some ks
 | _=>none
noncomputable def zj:Key->Val
 | .inl i=>.int i
 | .inr x=>.str x
noncomputable def Sy(o:Val)(k:Key)(z:Val):M Val:=match o with
 | .ref j=>bnd (ask fun h=>match h[j]? with|some (.dct kvs)=>some kvs|_=>none) fun kvs=>aD (decide (kvs.length<sizeLine)) (match bQ kvs k with
  | some v=>ret v
  | none=>bnd (put j (.dct (f7 kvs k z))) fun _=>ret z)
 | _=>bw none
noncomputable def oB:List Key->Option (List Int):=cg fun k=>match k with
 | .inl i=>some i
 | .inr _=>none
noncomputable def kq(h:Hs)(o:Val):Option (List Int):=(kM h o).bind fun ks=>(oB ks).bind fun ns=>if ns.length<64 then some (PySem.W.sortI ns) else none
noncomputable def oE(h:Hs)(ks:List Key)(w:Val):Option (List Int):=(oB ks).bind fun ns=>(aB h w).bind fun xs=>(aQ xs).bind fun ms=>if ns.length<=100000 then some (ns.filter fun n=>!(ms.any fun m=>m==n)) else none
noncomputable def cW{α:Type}(ds:List α)(lo hi:Option Int):List α:=(ds.drop (HT.dU ds.length 0 lo)).take (HT.dU ds.length ds.length hi-HT.dU ds.length 0 lo)
noncomputable def qa(v:Val)(lo hi:Option Int):M Val:=match v with
 | .tup vs=>aD (!(decide (HT.dU vs.length 0 lo=0)&&decide (HT.dU vs.length vs.length hi=vs.length))) (ret (.tup (cW vs lo hi)))
 | v=>bnd (ask fun h=>aB h v) fun xs=>new (.lst (cW xs lo hi))
noncomputable def t8(h:Hs):Val->Option String
 | .non=>some "NoneType" | .bl _=>some "bool" | .int _=>some "int" | .str _=>some "str" | .tup _=>some "tuple" | .rl _=>some "list" | .dc _ _=>some "dict" | .ob _ _ _=>none
 | .ref i=>match h[i]? with
  | some (.lst _)=>some "list"
  | some (.dct _)=>some "dict"
  | _=>none
noncomputable def t9(T:String)(t:String):Option Bool :=
 if ["list","tuple","str","bool","int","dict"].contains T=true then some (decide (T=t\/(T = "int" /\ t = "bool"))) else none
noncomputable def kN(h:Hs):Val->Option Nat
 | .str x=>if x.length<=sizeLine then some x.length else none
 | .tup vs=>some vs.length
 | .rl vs=>some vs.length
 | .dc ks _=>some ks.length
 | .ref i=>match h[i]? with
  | some (.lst xs)=>some xs.length
  | some (.dct xs)=>some xs.length
  | _=>none
 | _=>none
noncomputable def blt:Bl->List Val->M Val
 | .len,[v]=>bnd (ask fun h=>kN h v) fun n=>ret (.int n)
 | .min,[.int a,.int b]=>ret (.int (if b<a then b else a))
 | .max,[.int a,.int b]=>ret (.int (if b>a then b else a))
 | .min,[v]=>bnd (ask fun h=>cV h v) fun xs=>bw ((aQ xs).bind rT)
 | .max,[v]=>bnd (ask fun h=>cV h v) fun xs=>bw ((aQ xs).bind rV)
 | .sorted,[v]=>bnd (ask fun h=>aB h v) fun xs=>bnd (bw (fq xs)) fun ys=>new (.lst ys)
 | .list,[v]=>bnd (ask fun h=>cV h v) fun xs=>new (.lst xs)
 | .int,[.bl b]=>ret (.int (if b=true then 1 else 0))
 | .int,[.int i]=>ret (.int i)
 | .isin T,[v]=>bnd (ask fun h=>t8 h v) fun t=>bnd (bw (t9 T t)) fun b=>ret (.bl b)
 | _,_=>bw none
noncomputable def met:Me->Val->List Val->M Val
 | .append,.ref i,[v]=>bnd (ask fun h=>match h[i]? with|some (.lst xs)=>some xs|_=>none) fun xs=>aD (decide (xs.length<sizeLine)) (bnd (put i (.lst (xs++[v]))) fun _=>ret .non)
 | .extend,.ref i,[v]=>bnd (ask fun h=>match h[i]? with|some (.lst xs)=>some xs|_=>none) fun xs=>bnd (ask fun h=>t7 h v) fun ys=>aD (decide (xs.length+ys.length<=sizeLine)) (bnd (put i (.lst (xs++ys))) fun _=>ret .non)
 | _,_,_=>bw none
noncomputable def recv(h:Hs):Me->Val->Option Unit
 | .join,.str _=>some ()
 | .append,.ref i=>match h[i]? with|some (.lst _)=>some ()|_=>none
 | .extend,.ref i=>match h[i]? with|some (.lst _)=>some ()|_=>none
 | _,_=>none
inductive Src
 | fix (xs:List Val)|live (i:Nat)|enum (i:Nat)|zip (v w:Val)
noncomputable def cF:Nat->List Val->List Val
 | _,[]=>[]
 | i,d::r=>.tup [.int i,d]::cF (i+1) r
noncomputable def LX:List Val->List Val->List Val
 | a::r,b::t=>.tup [a,b]::LX r t
 | _,_=>[]
noncomputable def bW(lo:Int)(n:Nat):List Val:=(List.range n).map fun(i:Nat)=>Val.int (lo+(i:Int))
noncomputable def inR(i:Int):Bool:=decide (-(2 ^ 62)<=i)&&decide (i<2 ^ 62)
noncomputable def srcOf:Ik->List Val->Option Src
 | .seq,[.tup vs]=>some (.fix vs)
 | .seq,[.rl vs]=>some (.fix vs)
 | .seq,[.ref i]=>some (.live i)
 | .range,[.int n]=>if inR n then some (.fix (bW 0 n.toNat)) else none
 | .range,[.int a,.int b]=>if inR a&&inR b then some (.fix (bW a (b-a).toNat)) else none
 | .enum,[.rl vs]=>some (.fix (cF 0 vs))
 | .enum,[.ref i]=>some (.enum i)
 | .zip,[v,w]=>some (.zip v w)
 | _,_=>none
noncomputable def Src.items(h:Hs):Src->Option (List Val)
 | .fix xs=>some xs
 | .live i=>aB h (.ref i)
 | .enum i=>(aB h (.ref i)).map (cF 0)
 | .zip v w=>(aB h v).bind fun xs=>(aB h w).map fun ys=>LX xs ys
noncomputable def bindAll:List Nat->List Val->Env->Option Env
 | [],[],env=>some env
 | i::is,d::ds,env=>bindAll is ds (env.set i (some d))
 | _,_,_=>none
noncomputable def fu:jV->Val->Env->Option Env
 | .one i,d,env=>some (env.set i (some d))
 | .tup is,.tup ds,env=>bindAll is ds env
 | _,_,_=>none
noncomputable def jl(js:List (Option Nat))(env:Env):Env:=js.map fun o=>match o with
 | none=>none
 | some j=>match env[j]? with
  | some (some d)=>some d
  | _=>none
noncomputable def fz(src:Src)(f:Val->M (Option Val)):Nat->Nat->List Val->M (List Val)
 | 0,i,acc=>bnd (ask fun h=>src.items h) fun xs=>aD (decide (xs.length<=i)) (ret acc)
 | n+1,i,acc=>bnd (ask fun h=>src.items h) fun xs=>match xs[i]? with
  | none=>ret acc
  | some x=>bnd (f x) fun o=>fz src f n (i+1) (match o with|some e=>acc++[e]|none=>acc)
noncomputable def cH:IE->Bool
 | .no=>true
 | _=>false
noncomputable def fP:Val->Option Int
 | .int i=>some i
 | _=>none
noncomputable def oF:Val->M Bool
 | .bl b=>ret b
 | _=>bw none
noncomputable def gG(n:Nat)(h:Hs)(o:Val)(x:Str):Option Val:=match o with
 | .ref i=>(match h[i]? with
  | some (.ins c fs)=>if c<n then fs.lookup x else none
  | _=>none)
 | .ob c xs vs=>if c<n then (xs.zip vs).lookup x else none
 | _=>none
noncomputable def lQ(h:Hs)(o:Val)(m:Str)(js:List (Nat×Nat)):Option Nat:=match o with
 | .ref i=>(match h[i]? with
  | some (.ins c fs)=>if (fs.lookup m).isNone=true then js.lookup c else none
  | _=>none)
 | .ob c xs vs=>if ((xs.zip vs).lookup m).isNone=true then js.lookup c else none
 | _=>none
noncomputable def oG(f:Str)(v:Val):List (Str×Val)->List (Str×Val)
 | []=>[(f,v)]
 | (g,x)::r=>if g=f then (g,v)::r else (g,x)::oG f v r
noncomputable def xC(n:Nat)(o:Val)(x:Str)(v:Val):M Unit:=match o with
 | .ref i=>bnd (ask fun h=>match h[i]? with|some (.ins c fs)=>if c<n then some (c,fs) else none|_=>none) fun p=>aD (decide (p.2.length<1000)) (put i (.ins p.1 (oG x v p.2)))
 | _=>bw none
noncomputable def HX(c:Nat)(φ:List Val->M Val)(vs:List Val):M Val:=bnd (new (.ins c [])) fun o=>bnd (φ (o::vs)) fun r=>match r with
 | .non=>ret o
 | _=>bw none
mutual
noncomputable def aG(Φ:Nat->List Val->M Val):IE->Env->M Val
 | .var i,env=>bw (match env[i]? with
  | some (some d)=>some d
  | _=>none)
 | .cst d,_=>ret d
 | .con _ d,_=>ret d
 | .no,_=>bw none
 | .bin o a b,env=>bnd (aG Φ a env) fun x=>bnd (aG Φ b env) fun y=>FQ o x y
 | .neg a,env=>bnd (aG Φ a env) fun x=>match x with
  | .int i=>ret (.int (-i))
  | _=>bw none
 | .cmp o a b,env=>bnd (aG Φ a env) fun x=>bnd (aG Φ b env) fun y=>bnd (ask fun h=>cop h o x y) fun t=>ret (.bl t)
 | .chn _ _ _ _ _,_=>bw none
 | .and a b,env=>bnd (aG Φ a env) fun x=>bnd (oF x) fun t=>if t=true then bnd (aG Φ b env) fun y=>bnd (oF y) fun u=>ret (.bl u) else ret (.bl false)
 | .or a b,env=>bnd (aG Φ a env) fun x=>bnd (oF x) fun t=>if t=true then ret (.bl true) else bnd (aG Φ b env) fun y=>bnd (oF y) fun u=>ret (.bl u)
 | .not a,env=>bnd (aG Φ a env) fun x=>bnd (oF x) fun t=>ret (.bl (!t))
 | .ite _ _ _,_=>bw none
 | .tup es,env=>bnd (aR Φ es env) fun ds=>aD (decide (ds.length<=sizeLine)) (ret (.tup ds))
 | .lst es,env=>bnd (aR Φ es env) fun ds=>aD (decide (ds.length<=sizeLine)) (new (.lst ds))
 | .idx a b,env=>bnd (aG Φ a env) fun x=>bnd (aG Φ b env) fun y=>ask fun h=>iM h x y
 | .slc a lo hi,env=>bnd (aG Φ a env) fun x=>bnd (if cH lo=true then ret none else bnd (aG Φ lo env) fun v=>bnd (bw (fP v)) fun i=>ret (some i)) fun l =>
   bnd (if cH hi=true then ret none else bnd (aG Φ hi env) fun v=>bnd (bw (fP v)) fun i=>ret (some i)) fun u=>qa x l u
 | .call j es,env=>bnd (aR Φ es env) fun ds=>Φ j ds
 | .blt b es,env=>bnd (aR Φ es env) fun ds=>blt b ds
 | .met m a es,env=>bnd (aG Φ a env) fun x=>bnd (ask fun h=>recv h m x) fun _=>bnd (aR Φ es env) fun ds=>met m x ds
 | .comp _ js pat k it c elt,env=>bnd (aR Φ it env) fun its=>bnd (bw (srcOf k its)) fun src=>bnd (ask fun h=>src.items h) fun xs=>aD (decide (xs.length<=100000))
   (bnd (fz src (fun d=>bnd (bw (fu pat d (jl js env))) fun env'=>bnd (if cH c=true then ret true else bnd (aG Φ c env') fun v=>ask fun h=>dj h v) fun t =>
    if t=true then bnd (aG Φ elt env') fun e=>ret (some e) else ret none) xs.length 0 []) fun ys=>new (.lst ys))
 | .dct0,_=>new (.dct [])
 | .sset a,env=>bnd (aG Φ a env) fun v=>bnd (ask fun h=>aB h v) fun xs=>bnd (bw (aQ xs)) fun ns=>aD (decide (ns.length<64)) (new (.lst ((PySem.W.sortI (L2.dQ [] ns)).map .int)))
 | .dget d k x,env=>bnd (aG Φ d env) fun o=>bnd (ask fun h=>Ba h o) fun _=>bnd (aG Φ k env) fun i=>bnd (bw (keyOf i)) fun kk=>bnd (aG Φ x env) fun z=>bnd (ask fun h=>v5 h o kk) fun r=>ret (r.getD z)
 | .dct1 k v,env=>bnd (aG Φ k env) fun x=>bnd (bw (keyOf x)) fun kk=>bnd (aG Φ v env) fun y=>new (.dct [(kk,y)])
 | .lkeys d,env=>bnd (aG Φ d env) fun o=>bnd (ask fun h=>kM h o) fun ks=>new (.lst (ks.map zj))
 | .sdef _ _ _,_=>bw none
 | .svals _,_=>bw none
 | .skeys d,env=>bnd (aG Φ d env) fun o=>bnd (ask fun h=>kq h o) fun ns=>new (.lst (ns.map .int))
 | .fld n a x,env=>bnd (aG Φ a env) fun o=>ask fun h=>gG n h o x
 | .mth a m js es,env=>bnd (aG Φ a env) fun o=>bnd (ask fun h=>lQ h o m js) fun j=>bnd (aR Φ es env) fun ds=>Φ j (o::ds)
 | .rev a s,env=>bnd (aG Φ a env) fun x=>bnd (if cH s=true then ret none else bnd (aG Φ s env) fun v=>bnd (bw (fP v)) fun i=>ret (some i)) fun k =>
   aD (decide (k=some (-1))) (bnd (ask fun h=>aB h x) fun xs=>new (.lst xs.reverse))
 | .dflt _ _ _ _ d w,env=>bnd (aG Φ d env) fun o=>bnd (ask fun h=>kM h o) fun ks=>bnd (aG Φ w env) fun v=>bnd (ask fun h=>oE h ks v) fun ns=>new (.lst (ns.map .int))
 | .isc _ _ _,_=>bw none
noncomputable def aR(Φ:Nat->List Val->M Val):eO->Env->M (List Val)
 | .nil,_=>ret []
 | .cons e es,env=>bnd (aG Φ e env) fun d=>bnd (aR Φ es env) fun ds=>ret (d::ds)
end
inductive Fl
 | nx (env:Env)|rt (v:Val)|bk (env:Env)|ct (env:Env)
noncomputable def forM(src:Src)(body:Val->Env->M Fl):Nat->Nat->Env->M Fl
 | 0,i,env=>bnd (ask fun h=>src.items h) fun xs=>aD (decide (xs.length<=i)) (ret (.nx env))
 | n+1,i,env=>bnd (ask fun h=>src.items h) fun xs=>match xs[i]? with
  | none=>ret (.nx env)
  | some x=>bnd (body x env) fun f=>match f with
   | .nx env'=>forM src body n (i+1) env'
   | .ct env'=>forM src body n (i+1) env'
   | .bk env'=>ret (.nx env')
   | .rt v=>ret (.rt v)
noncomputable def mP(o i v:Val):M Unit:=match o with
 | .ref j=>bnd (ask fun h=>h[j]?) fun ob=>match ob,i with
  | .lst xs,.int k=>bnd (bw (rD xs.length k)) fun n=>put j (.lst (xs.set n v))
  | .dct kvs,i=>bnd (bw (keyOf i)) fun k=>aD (decide (kvs.length<sizeLine)) (put j (.dct (f7 kvs k v)))
  | _,_=>bw none
 | _=>bw none
mutual
noncomputable def dZ(Φ:Nat->List Val->M Val):IS->Env->M Fl
 | .expr e,env=>bnd (aG Φ e env) fun _=>ret (.nx env)
 | .asg p e,env=>bnd (aG Φ e env) fun v=>bnd (bw (fu p v env)) fun env'=>ret (.nx env')
 | .aug i o e,env=>bnd (bw (match env[i]? with|some (some (.int x))=>some x|_=>none)) fun x=>bnd (aG Φ e env) fun v=>bnd (bw (fP v)) fun y=>bnd (FQ o (.int x) (.int y)) fun z=>ret (.nx (env.set i (some z)))
 | .di o i v,env=>bnd (aG Φ v env) fun x=>bnd (aG Φ o env) fun y=>bnd (aG Φ i env) fun z=>bnd (mP y z x) fun _=>ret (.nx env)
 | .iff c a b,env=>bnd (aG Φ c env) fun x=>bnd (ask fun h=>dj h x) fun t=>if t=true then dm Φ a env else dm Φ b env
 | .for p k it body,env=>bnd (aR Φ it env) fun its=>bnd (bw (srcOf k its)) fun src=>bnd (ask fun h=>src.items h) fun xs =>
   forM src (fun x env=>bnd (bw (fu p x env)) fun env'=>dm Φ body env') xs.length 0 env
 | .whl _ _ _,_=>bw none
 | .ret e,env=>bnd (aG Φ e env) fun v=>ret (.rt v)
 | .D7,_=>ret (.rt .non)
 | .brk,env=>ret (.bk env)
 | .cnt,env=>ret (.ct env)
 | .pass,env=>ret (.nx env)
 | .never,_=>bw none
 | .setF n a x v,env=>bnd (aG Φ v env) fun y=>bnd (aG Φ a env) fun o=>bnd (xC n o x y) fun _=>ret (.nx env)
noncomputable def dm(Φ:Nat->List Val->M Val):cU->Env->M Fl
 | .nil,env=>ret (.nx env)
 | .cons s r,env=>bnd (dZ Φ s env) fun f=>match f with
  | .nx env'=>dm Φ r env'
  | f=>ret f
end
noncomputable def jm(Φ:Nat->List Val->M Val)(n:Nat)(body:cU)(vs:List Val):M Val :=
 bnd (dm Φ body (vs.map some++List.replicate (n-vs.length) none)) fun f=>match f with
  | .nx _=>ret .non
  | .rt v=>ret v
  | _=>bw none
theorem jn{h:Hs}{o:xB}{v w:Val}{b:Bool}(ho:o=.lt\/o=.le\/o=.gt\/o=.ge)(e:cop h o v w=some b):∃i j,v=.int i/\w=.int j:=by
 cases v with
 | int i =>
  cases w with
  | int j=>exact⟨i,j,rfl,rfl⟩
  | _=>rcases ho with rfl|rfl|rfl|rfl<;>cases e
 | _=>rcases ho with rfl|rfl|rfl|rfl<;>cases e
end Hv
end
section
namespace Hv
open PySem L2 PyProof.Rows
structure Bd where
 K:PySem.W.Frag
 cl:Nat->Addr
noncomputable def FU(K:PySem.W.Frag)(H:Hp)(a:Addr)(xs:List V):Prop :=
 (∃o,H a=some (.iZ o (.lst xs)))\/fO K (fun _=>none) a xs
theorem FU.sq{K:PySem.W.Frag}{H:Hp}{a:Addr}{xs:List V}(h:FU K H a xs):fO K H a xs:=by
 rcases h with ⟨o,h⟩|(h|⟨o,h⟩)|h
 ·exact .inl (.inr ⟨o,h⟩)
 ·cases h
 ·cases h
 ·exact .inr h
mutual
noncomputable def VR(K:PySem.W.Frag)(ρ:List Addr)(H:Hp):Val->V->Prop
 | .non,x=>x=.non
 | .bl b,x=>x=.bl b
 | .int i,x=>x=.int i
 | .str s,x=>x=.str s
 | .tup vs,x=>∃a xs,x=.ref a/\iI K H a xs/\ay K ρ H vs xs
 | .rl vs,x=>∃a xs,x=.ref a/\FU K H a xs/\ay K ρ H vs xs
 | .dc _ _,_=>False
 | .ob _ _ _,_=>False
 | .ref i,x=>∃a,x=.ref a /\ ρ[i]?=some a
noncomputable def ay(K:PySem.W.Frag)(ρ:List Addr)(H:Hp):List Val->List V->Prop
 | [],xs=>xs=[]
 | v::vs,xs=>∃x r,xs=x::r/\VR K ρ H v x/\ay K ρ H vs r
end
noncomputable def fS(K:PySem.W.Frag)(ρ:List Addr)(H:Hp):List (Key×Val)->List (Key×V)->Prop
 | [],xs=>xs=[]
 | (k,v)::vs,xs=>∃x r,xs=(k,x)::r/\VR K ρ H v x/\fS K ρ H vs r
noncomputable def kO(K:PySem.W.Frag)(ρ:List Addr)(H:Hp):List (Str×Val)->List (Str×V)->Prop
 | [],xs=>xs=[]
 | (k,v)::vs,xs=>∃x r,xs=(k,x)::r/\VR K ρ H v x/\kO K ρ H vs r
noncomputable def OR(B:Bd)(ρ:List Addr)(H:Hp)(a:Addr):Ob->Prop
 | .lst xs=>∃ys,H a=some (.lst ys)/\ay B.K ρ H xs ys
 | .dct kvs=>∃ks,H a=some (.dK ks)/\fS B.K ρ H kvs ks
 | .ins c fs=>∃dx gs,H a=some (.ins (B.cl c) dx gs)/\kO B.K ρ H fs gs
structure HR (B:Bd) (ρ:List Addr) (h:Hs) (H:Hp):Prop where
 len:ρ.length=h.length
 nd:ρ.Nodup
 ob:∀(i:Nat) (o:Ob) (a:Addr),h[i]?=some o -> ρ[i]?=some a->OR B ρ H a o
noncomputable def Mu:HO->Bool
 | .lst _=>true|.dK _=>true|.ins ..=>true
 | _=>false
structure Gw (ρ:List Addr) (H:Hp) (ρ':List Addr) (H':Hp):Prop where
 pre:ρ <+: ρ'
 firm:∀a o,H a=some o->Mu o=false->H' a=some o
structure Gr (ρ:List Addr) (H:Hp) (ρ':List Addr) (H':Hp):Prop where
 pre:ρ <+: ρ'
 keep:∀a o,H a=some o->a ∉ ρ -> H' a=some o
 firm:∀a o,H a=some o->Mu o=false->H' a=some o
 fresh:∀a,a ∈ ρ'->a ∉ ρ -> H a=none
section
variable {K:PySem.W.Frag} {B:Bd} {ρ ρ' ρ1 ρ2:List Addr} {H H' H1 H2:Hp} {h h':Hs}
theorem Gr.w(g:Gr ρ H ρ' H'):Gw ρ H ρ' H':=⟨g.pre,g.firm⟩
theorem Gr.refl:Gr ρ H ρ H:=⟨List.prefix_refl _,fun _ _ e _=>e,fun _ _ e _=>e,fun _ e n=>absurd e n⟩
theorem Gr.trans(g:Gr ρ H ρ1 H1)(k:Gr ρ1 H1 ρ2 H2):Gr ρ H ρ2 H2 where
 pre:=g.pre.trans k.pre
 keep a o e n:=k.keep a o (g.keep a o e n) fun z=>by rw[g.fresh a z n] at e;cases e
 firm a o e n:=k.firm a o (g.firm a o e n) n
 fresh a z n:=by
  by_cases hb:a ∈ ρ1
  ·exact g.fresh a hb n
  ·cases e:H a with
   | none=>rfl
   | some o =>
    have e1:=g.keep a o e n
    rw[k.fresh a z hb] at e1;cases e1
theorem nC{i:Nat}{a:Addr}(p:ρ <+: ρ')(e:ρ[i]?=some a):ρ'[i]?=some a:=by
 obtain⟨t,rfl⟩:=p
 have hi:i < ρ.length:=(List.getElem?_eq_some_iff.mp e).1
 rw[List.getElem?_append_left hi];exact e
theorem Gw.Oi{a:Addr}{xs:List V}(g:Gw ρ H ρ' H')(e:iI K H a xs):iI K H' a xs:=by
 rcases e with (e|⟨o,e⟩)|e
 ·exact .inl (.inl (g.firm _ _ e rfl))
 ·exact .inl (.inr ⟨o,g.firm _ _ e rfl⟩)
 ·exact .inr e
theorem Gw.HY{a:Addr}{xs:List V}(g:Gw ρ H ρ' H')(e:FU K H a xs):FU K H' a xs:=by
 rcases e with ⟨o,e⟩|e
 ·exact .inl ⟨o,g.firm _ _ e rfl⟩
 ·exact .inr e
mutual
theorem VR.jW(g:Gw ρ H ρ' H'):∀(v:Val) (x:V),VR K ρ H v x->VR K ρ' H' v x
 | .non,x,e=>by rw[VR] at e |-;exact e
 | .bl b,x,e=>by rw[VR] at e |-;exact e
 | .int b,x,e=>by rw[VR] at e |-;exact e
 | .str b,x,e=>by rw[VR] at e |-;exact e
 | .tup vs,x,e=>by
  rw[VR] at e |-
  obtain⟨a,xs,rfl,q1,q2⟩:=e
  exact⟨a,xs,rfl,g.Oi q1,ay.jW g vs xs q2⟩
 | .rl vs,x,e=>by
  rw[VR] at e |-
  obtain⟨a,xs,rfl,q1,q2⟩:=e
  exact⟨a,xs,rfl,g.HY q1,ay.jW g vs xs q2⟩
 | .dc _ _,x,e=>by rw[VR] at e;exact e.elim
 | .ob _ _ _,x,e=>by rw[VR] at e;exact e.elim
 | .ref i,x,e=>by
  rw[VR] at e |-
  obtain⟨a,rfl,q⟩:=e
  exact⟨a,rfl,nC g.pre q⟩
theorem ay.jW(g:Gw ρ H ρ' H'):∀(vs:List Val) (xs:List V),ay K ρ H vs xs->ay K ρ' H' vs xs
 | [],xs,e=>by rw[ay] at e |-;exact e
 | v::vs,xs,e=>by
  rw[ay] at e |-
  obtain⟨x,r,rfl,q1,q2⟩:=e
  exact⟨x,r,rfl,VR.jW g v x q1,ay.jW g vs r q2⟩
end
theorem fS.jW(g:Gw ρ H ρ' H'):∀(vs:List (Key×Val)) (xs:List (Key×V)),fS K ρ H vs xs->fS K ρ' H' vs xs
 | [],xs,e=>e
 | (k,v)::vs,xs,⟨x,r,e,q1,q2⟩=>⟨x,r,e,VR.jW g v x q1,fS.jW g vs r q2⟩
theorem kO.jW(g:Gw ρ H ρ' H'):∀(vs:List (Str×Val)) (xs:List (Str×V)),kO K ρ H vs xs->kO K ρ' H' vs xs
 | [],xs,e=>e
 | (k,v)::vs,xs,⟨x,r,e,q1,q2⟩=>⟨x,r,e,VR.jW g v x q1,kO.jW g vs r q2⟩
theorem kO.look{x:Str}:∀{vs:List (Str×Val)} {xs:List (Str×V)},kO K ρ H vs xs->(vs.lookup x=none->xs.lookup x=none)/\∀v,vs.lookup x=some v->∃y,xs.lookup x=some y/\VR K ρ H v y
 | [],xs,e=>by rw[kO] at e;subst e;exact⟨fun _=>rfl,fun v z=>by cases z⟩
 | (k,v)::vs,xs,e=>by
  rw[kO] at e
  obtain⟨y,r,rfl,q1,q2⟩:=e
  rw[List.lookup_cons,List.lookup_cons]
  cases hb:x==k with
  | true=>exact⟨fun z=>(by cases z),fun w z=>by cases z;exact⟨y,rfl,q1⟩⟩
  | false=>exact kO.look q2
theorem kO.length:∀{vs:List (Str×Val)} {xs:List (Str×V)},kO K ρ H vs xs->vs.length=xs.length
 | [],xs,e=>by rw[kO] at e;subst e;rfl
 | (k,v)::vs,xs,e=>by rw[kO] at e;obtain⟨y,r,rfl,_,q⟩:=e;simp[kO.length q]
theorem kO.put{x:Str}{w:Val}{y:V}(hw:VR K ρ H w y):∀{vs:List (Str×Val)} {xs:List (Str×V)},kO K ρ H vs xs->kO K ρ H (oG x w vs) (iK x y xs)
 | [],xs,e=>by rw[kO] at e;subst e;exact⟨y,[],rfl,hw,rfl⟩
 | (k,v)::vs,xs,e=>by
  rw[kO] at e
  obtain⟨z,r,rfl,q1,q2⟩:=e
  rw[oG,iK]
  by_cases hk:k=x
  ·rw[if_pos hk,if_pos hk];exact⟨y,r,rfl,hw,q2⟩
  ·rw[if_neg hk,if_neg hk];exact⟨z,_,rfl,q1,kO.put hw q2⟩
theorem VR.up(g:Gr ρ H ρ' H')(v:Val)(x:V)(e:VR K ρ H v x):VR K ρ' H' v x:=VR.jW g.w v x e
theorem ay.up(g:Gr ρ H ρ' H')(v:List Val)(x:List V)(e:ay K ρ H v x):ay K ρ' H' v x:=ay.jW g.w v x e
theorem fS.up(g:Gr ρ H ρ' H')(v:List (Key×Val))(x:List (Key×V))(e:fS K ρ H v x):fS K ρ' H' v x:=fS.jW g.w v x e
theorem kO.up(g:Gr ρ H ρ' H')(v:List (Str×Val))(x:List (Str×V))(e:kO K ρ H v x):kO K ρ' H' v x:=kO.jW g.w v x e
theorem ay.nil:ay K ρ H [] []:=by rw[ay]
theorem ay.cons{v:Val}{vs:List Val}{x:V}{xs:List V}(a:VR K ρ H v x)(b:ay K ρ H vs xs):ay K ρ H (v::vs) (x::xs):=by rw[ay];exact⟨x,xs,rfl,a,b⟩
theorem ay.length:∀{vs:List Val} {xs:List V},ay K ρ H vs xs->vs.length=xs.length
 | [],xs,e=>by rw[ay] at e;subst e;rfl
 | v::vs,xs,e=>by rw[ay] at e;obtain⟨x,r,rfl,_,q⟩:=e;simp[ay.length q]
theorem ay.get:∀{vs:List Val} {xs:List V} {i:Nat} {v:Val},ay K ρ H vs xs->vs[i]?=some v->∃x,xs[i]?=some x/\VR K ρ H v x
 | [],xs,i,v,e,q=>by simp at q
 | w::vs,xs,0,v,e,q=>by
  rw[ay] at e;obtain⟨x,r,rfl,a,_⟩:=e
  simp at q;subst q;exact⟨x,rfl,a⟩
 | w::vs,xs,i+1,v,e,q=>by
  rw[ay] at e;obtain⟨x,r,rfl,_,b⟩:=e
  simp at q
  obtain⟨y,q1,q2⟩:=ay.get b q
  exact⟨y,by simpa using q1,q2⟩
theorem ay.append:∀{vs ws:List Val} {xs ys:List V},ay K ρ H vs xs->ay K ρ H ws ys->ay K ρ H (vs++ws) (xs++ys)
 | [],ws,xs,ys,e,q=>by rw[ay] at e;subst e;exact q
 | w::vs,ws,xs,ys,e,q=>by
  rw[ay] at e;obtain⟨x,r,rfl,a,b⟩:=e
  exact ay.cons a (ay.append b q)
theorem ay.take:∀{vs:List Val} {xs:List V} (n:Nat),ay K ρ H vs xs->ay K ρ H (vs.take n) (xs.take n)
 | _,_,0,_=>by simp;exact ay.nil
 | [],xs,n+1,e=>by rw[ay] at e;subst e;simp;exact ay.nil
 | w::vs,xs,n+1,e=>by
  rw[ay] at e;obtain⟨x,r,rfl,a,b⟩:=e
  exact ay.cons a (ay.take n b)
theorem ay.drop:∀{vs:List Val} {xs:List V} (n:Nat),ay K ρ H vs xs->ay K ρ H (vs.drop n) (xs.drop n)
 | _,_,0,e=>by simpa using e
 | [],xs,n+1,e=>by rw[ay] at e;subst e;simp;exact ay.nil
 | w::vs,xs,n+1,e=>by
  rw[ay] at e;obtain⟨x,r,rfl,a,b⟩:=e
  exact ay.drop n b
theorem ay.cut{vs:List Val}{xs:List V}(lo hi:Option Int)(e:ay K ρ H vs xs):ay K ρ H (cW vs lo hi) (tB xs lo hi):=by
 unfold cW tB
 rw[e.length]
 exact ay.take _ (ay.drop _ e)
theorem ay.app:∀{vs ws:List Val} {xs ys:List V},ay K ρ H vs xs->ay K ρ H ws ys->ay K ρ H (vs++ws) (xs++ys)
 | [],_,xs,_,e,q=>by rw[ay] at e;subst e;exact q
 | v::vs,_,xs,_,e,q=>by
  rw[ay] at e
  obtain⟨x,r,rfl,a,b⟩:=e
  rw[List.cons_append,List.cons_append,ay]
  exact⟨x,_,rfl,a,ay.app b q⟩
theorem ay.rev:∀{vs:List Val} {xs:List V},ay K ρ H vs xs->ay K ρ H vs.reverse xs.reverse
 | [],xs,e=>by rw[ay] at e;subst e;rw[List.reverse_nil,List.reverse_nil,ay]
 | v::vs,xs,e=>by
  rw[ay] at e
  obtain⟨x,r,rfl,a,b⟩:=e
  rw[List.reverse_cons,List.reverse_cons]
  refine ay.app (ay.rev b) ?_
  rw[ay]
  exact⟨x,[],rfl,a,by rw[ay]⟩
theorem ay.jg{vs:List Val}{xs:List V}{i:Int}{v:Val}(e:ay K ρ H vs xs)(q:L2.jg vs i=some v):∃x,L2.jg xs i=some x/\VR K ρ H v x:=by
 unfold L2.jg at q |-
 rw[e.length] at q
 cases hi:L2.rD xs.length i with
 | none=>rw[hi] at q;cases q
 | some n=>rw[hi] at q;exact ay.get e q
theorem ay.set:∀{vs:List Val} {xs:List V} (n:Nat) {v:Val} {x:V},ay K ρ H vs xs->VR K ρ H v x->ay K ρ H (vs.set n v) (xs.set n x)
 | [],xs,n,v,x,e,q=>by rw[ay] at e;subst e;simp;exact ay.nil
 | w::vs,xs,0,v,x,e,q=>by
  rw[ay] at e;obtain⟨y,r,rfl,a,b⟩:=e
  exact ay.cons q b
 | w::vs,xs,n+1,v,x,e,q=>by
  rw[ay] at e;obtain⟨y,r,rfl,a,b⟩:=e
  exact ay.cons a (ay.set n b q)
theorem ay.one{v:Val}{xs:List V}(e:ay K ρ H [v] xs):∃x,xs=[x]/\VR K ρ H v x:=by
 rw[ay] at e;obtain⟨x,r,rfl,a,b⟩:=e
 rw[ay] at b;subst b;exact⟨x,rfl,a⟩
theorem ay.two{v w:Val}{xs:List V}(e:ay K ρ H [v,w] xs):∃x y,xs=[x,y]/\VR K ρ H v x/\VR K ρ H w y:=by
 rw[ay] at e;obtain⟨x,r,rfl,a,b⟩:=e
 obtain⟨y,rfl,c⟩:=ay.one b
 exact⟨x,y,rfl,a,c⟩
theorem VR.int{i:Int}:VR K ρ H (.int i) (.int i):=by rw[VR]
theorem VR.str{i:Str}:VR K ρ H (.str i) (.str i):=by rw[VR]
theorem VR.bl{i:Bool}:VR K ρ H (.bl i) (.bl i):=by rw[VR]
theorem VR.non:VR K ρ H .non .non:=by rw[VR]
theorem VR.tup{a:Addr}{vs:List Val}{xs:List V}(q:iI K H a xs)(e:ay K ρ H vs xs):VR K ρ H (.tup vs) (.ref a):=by rw[VR];exact⟨a,xs,rfl,q,e⟩
theorem VR.ref{a:Addr}{i:Nat}(q:ρ[i]?=some a):VR K ρ H (.ref i) (.ref a):=by rw[VR];exact⟨a,rfl,q⟩
theorem ay.ints:∀{ns:List Int} {xs:List V},ay K ρ H (ns.map Val.int) xs↔xs=ns.map V.int
 | [],xs=>by simp[ay]
 | n::ns,xs=>by
  simp only[List.map_cons]
  rw[ay]
  constructor
  ·rintro⟨x,r,rfl,a,b⟩
   rw[VR] at a;subst a
   rw[(ay.ints (ns:=ns)).mp b]
  ·rintro rfl
   exact⟨_,_,rfl,VR.int,(ay.ints (ns:=ns)).mpr rfl⟩
theorem ay.tups:∀{m9:List (List Int)} {xs:List V},ay K ρ H (m9.map kL) xs->∃rs:List (Addr×List Int),xs=rs.map (fun r=>V.ref r.1)/\m9=rs.map (·.2)/\∀r∈rs,iI K H r.1 (r.2.map V.int)
 | [],xs,e=>by simp only[List.map_nil] at e;rw[ay] at e;exact⟨[],e,rfl,fun _ z=>nomatch z⟩
 | ks::m9,xs,e=>by
  simp only[List.map_cons] at e
  rw[ay] at e
  obtain⟨x,r,rfl,a,b⟩:=e
  obtain⟨rs,e1,e2,e3⟩:=ay.tups b
  unfold kL at a
  rw[VR] at a
  obtain⟨p,ys,rfl,g1,g2⟩:=a
  rw[ay.ints.mp g2] at g1
  refine⟨(p,ks)::rs,by rw[e1];rfl,by rw[e2];rfl,fun r hr=>?_⟩
  rcases List.mem_cons.mp hr with z|z
  ·rw[z];exact g1
  ·exact e3 r z
theorem ay.xD:∀{rs:List (Addr×List Int)},(∀r∈rs,iI K H r.1 (r.2.map V.int))->ay K ρ H ((rs.map (·.2)).map kL) (rs.map fun r=>V.ref r.1)
 | [],_=>ay.nil
 | r::rs,e=>ay.cons (VR.tup (e r List.mem_cons_self) (ay.ints.mpr rfl)) (ay.xD fun q hq=>e q (List.mem_cons_of_mem _ hq))
theorem OR.mu{a:Addr}{o:Ob}(q:OR B ρ H a o):∃u,H a=some u/\Mu u=true:=by
 cases o with
 | lst xs=>obtain⟨ys,e,_⟩:=q;exact⟨_,e,rfl⟩
 | dct xs=>obtain⟨ys,e,_⟩:=q;exact⟨_,e,rfl⟩
 | ins c fs=>obtain⟨dx,ys,e,_⟩:=q;exact⟨_,e,rfl⟩
theorem HR.mu{a:Addr}(r:HR B ρ h H)(e:a ∈ ρ):∃u,H a=some u/\Mu u=true:=by
 obtain⟨i,hi,rfl⟩:=List.getElem_of_mem e
 have hi':i<h.length:=by rw[<-r.len];exact hi
 exact(r.ob i _ _ (List.getElem?_eq_getElem hi') (List.getElem?_eq_getElem hi)).mu
theorem HR.out{p:Addr}(r:HR B ρ h H)(e:H p=none):p ∉ ρ:=fun z=>by
 obtain⟨u,q,_⟩:=r.mu z
 rw[e] at q;cases q
theorem OR.jW{a:Addr}{o:Ob}(g:Gw ρ H ρ' H')(e:H' a=H a)(q:OR B ρ H a o):OR B ρ' H' a o:=by
 cases o with
 | lst xs=>obtain⟨ys,e1,e2⟩:=q;exact⟨ys,e.trans e1,ay.jW g _ _ e2⟩
 | dct xs=>obtain⟨ys,e1,e2⟩:=q;exact⟨ys,e.trans e1,fS.jW g _ _ e2⟩
 | ins c fs=>obtain⟨dx,ys,e1,e2⟩:=q;exact⟨dx,ys,e.trans e1,kO.jW g _ _ e2⟩
theorem OR.up{a:Addr}{o:Ob}(g:Gr ρ H ρ' H')(e:H' a=H a)(q:OR B ρ H a o):OR B ρ' H' a o:=OR.jW g.w e q
theorem Gr.side{p:Addr}{o:HO}(e:H p=none):Gr ρ H ρ (upd H p o) where
 pre:=List.prefix_refl _
 keep a u q _:=by rw[ak (aH q e)];exact q
 firm a u q _:=by rw[ak (aH q e)];exact q
 fresh a z n:=absurd z n
theorem HR.side{p:Addr}{o:HO}(r:HR B ρ h H)(e:H p=none):HR B ρ h (upd H p o) where
 len:=r.len
 nd:=r.nd
 ob i u a q1 q2:=by
  refine OR.up (Gr.side e) ?_ (r.ob i u a q1 q2)
  refine ak fun z=>?_
  subst z
  exact r.out e (List.mem_of_getElem? q2)
theorem Gw.other{p:Addr}{o u:HO}(e:H p=some u)(hm:Mu u=true):Gw ρ H ρ (upd H p o) where
 pre:=List.prefix_refl _
 firm a w q n:=by
  have:a≠p:=fun z=>by subst z;rw[e] at q;cases q;rw[hm] at n;cases n
  rw[ak this];exact q
theorem HR.other{p:Addr}{o u:HO}(r:HR B ρ h H)(hp:p ∉ ρ)(e:H p=some u)(hm:Mu u=true):HR B ρ h (upd H p o) where
 len:=r.len
 nd:=r.nd
 ob i w a q1 q2:=OR.jW (Gw.other e hm) (ak fun z=>by subst z;exact hp (List.mem_of_getElem? q2)) (r.ob i w a q1 q2)
theorem Gr.new{p:Addr}{o:HO}(e:H p=none):Gr ρ H (ρ ++ [p]) (upd H p o) where
 pre:=List.prefix_append _ _
 keep a u q _:=by rw[ak (aH q e)];exact q
 firm a u q _:=by rw[ak (aH q e)];exact q
 fresh a z n:=by
  rcases List.mem_append.mp z with z|z
  ·exact absurd z n
  ·rw[List.mem_singleton.mp z];exact e
theorem HR.new{p:Addr}{o:HO}{u:Ob}(r:HR B ρ h H)(e:H p=none)(q:OR B (ρ ++ [p]) (upd H p o) p u):HR B (ρ ++ [p]) (h++[u]) (upd H p o) where
 len:=by simp[r.len]
 nd:=by
  rw[List.nodup_append]
  refine⟨r.nd,by simp,fun a ha b hb=>?_⟩
  rw[List.mem_singleton.mp hb]
  rintro rfl
  exact r.out e ha
 ob i v a q1 q2:=by
  by_cases hi:i<h.length
  ·rw[List.getElem?_append_left hi] at q1
   rw[List.getElem?_append_left (by rw[r.len];exact hi)] at q2
   refine OR.up (Gr.new e) (ak fun z=>?_) (r.ob i v a q1 q2)
   subst z
   exact r.out e (List.mem_of_getElem? q2)
  ·rw[List.getElem?_append_right (by omega)] at q1
   rw[List.getElem?_append_right (by rw[r.len];omega)] at q2
   have hi0:i-h.length=0:=by
    have:=(List.getElem?_eq_some_iff.mp q1).1
    simp at this;omega
   rw[hi0] at q1
   rw[r.len,hi0] at q2
   simp at q1 q2
   subst q1;subst q2
   exact q
theorem xE{p:Addr}(r:HR B ρ h H):VR K (ρ ++ [p]) H' (.ref h.length) (.ref p):=VR.ref (by rw[<-r.len];simp)
theorem FW{α:Type}:∀{l:List α} {i j:Nat} {a:α},l.Nodup->l[i]?=some a->l[j]?=some a->i=j
 | [],i,j,a,_,e,_=>by simp at e
 | b::l,0,0,a,_,_,_=>rfl
 | b::l,0,j+1,a,n,e,f=>by
  simp at e f;subst e
  exact absurd (List.mem_of_getElem? f) (List.nodup_cons.mp n).1
 | b::l,i+1,0,a,n,e,f=>by
  simp at e f;subst f
  exact absurd (List.mem_of_getElem? e) (List.nodup_cons.mp n).1
 | b::l,i+1,j+1,a,n,e,f=>by
  simp at e f
  rw[FW (List.nodup_cons.mp n).2 e f]
theorem Gr.put{p:Addr}{o u:HO}(hp:p ∈ ρ)(e:H p=some u)(hm:Mu u=true):Gr ρ H ρ (upd H p o) where
 pre:=List.prefix_refl _
 keep a w q n:=by rw[ak fun z=>n (by rw[z];exact hp)];exact q
 firm a w q n:=by
  have:a≠p:=fun z=>by subst z;rw[e] at q;cases q;rw[hm] at n;cases n
  rw[ak this];exact q
 fresh a z n:=absurd z n
theorem HR.put{p:Addr}{i:Nat}{o:HO}{u w:Ob}(r:HR B ρ h H)(hi:ρ[i]?=some p)(e:h[i]?=some w)(q:OR B ρ (upd H p o) p u):HR B ρ (h.set i u) (upd H p o) where
 len:=by simp[r.len]
 nd:=r.nd
 ob j v a q1 q2:=by
  obtain⟨z,k1,k2⟩:=(r.ob i w p e hi).mu
  by_cases hj:j=i
  ·subst hj
   rw[hi] at q2;cases q2
   have hlt:j<h.length:=(List.getElem?_eq_some_iff.mp e).1
   rw[List.getElem?_set_self hlt] at q1;cases q1
   exact q
  ·rw[List.getElem?_set_ne (fun z=>hj z.symm)] at q1
   refine OR.up (Gr.put (List.mem_of_getElem? hi) k1 k2) (ak fun z=>?_) (r.ob j v a q1 q2)
   subst z
   exact hj (FW r.nd q2 hi)
theorem eB{v:Val}{x:V}{xs:List Val}(r:HR B ρ h H)(q:VR B.K ρ H v x)(e:aB h v=some xs):∃a ys,x=.ref a/\fO B.K H a ys/\ay B.K ρ H xs ys:=by
 cases v with
 | rl vs =>
  simp only[aB] at e;cases e
  rw[VR] at q
  obtain⟨a,ys,rfl,k1,k2⟩:=q
  exact⟨a,ys,rfl,k1.sq,k2⟩
 | ref i =>
  simp only[aB] at e
  split at e
  ·rename_i zs e1
   cases e
   rw[VR] at q
   obtain⟨a,rfl,k1⟩:=q
   obtain⟨ys,k2,k3⟩:=r.ob i _ a e1 k1
   exact⟨a,ys,rfl,.inl (.inl k2),k3⟩
  ·cases e
 | _=>cases e
theorem jO{i:Nat}{x:V}{xs:List Val}(r:HR B ρ h H)(q:VR B.K ρ H (.ref i) x)(e:h[i]?=some (.lst xs)):∃a ys,x=.ref a /\ ρ[i]?=some a/\H a=some (.lst ys)/\ay B.K ρ H xs ys:=by
 rw[VR] at q
 obtain⟨a,rfl,k1⟩:=q
 obtain⟨ys,k2,k3⟩:=r.ob i _ a e k1
 exact⟨a,ys,rfl,k1,k2,k3⟩
theorem v7{v:Val}{x:V}{xs:List Val}(r:HR B ρ h H)(q:VR B.K ρ H v x)(e:cV h v=some xs):∃a ys,x=.ref a/\(fO B.K H a ys\/iI B.K H a ys)/\ay B.K ρ H xs ys:=by
 cases v with
 | tup vs =>
  simp only[cV] at e;cases e
  rw[VR] at q
  obtain⟨a,ys,rfl,k1,k2⟩:=q
  exact⟨a,ys,rfl,.inr k1,k2⟩
 | rl vs=>obtain⟨a,ys,e1,k1,k2⟩:=eB r q (show aB h (.rl vs)=some xs from e);exact⟨a,ys,e1,.inl k1,k2⟩
 | ref vs=>obtain⟨a,ys,e1,k1,k2⟩:=eB r q (show aB h (.ref vs)=some xs from e);exact⟨a,ys,e1,.inl k1,k2⟩
 | _=>cases e
theorem lR(r:HR B ρ h H):∀(n:Nat) (v:Val) (x:V) (d:PyData),VR B.K ρ H v x->toD n h v=some d->Den B.K H d x/\d.canLay0=true/\d.depth<=n:=by
 intro n
 induction n with
 | zero=>intro v x d _ e;simp only[toD] at e;cases e
 | succ n ih =>
  have all:∀(vs:List Val) (xs:List V) (ds:List PyData),ay B.K ρ H vs xs->cg (toD n h) vs=some ds->dP B.K H ds xs/\PyData.canLayAll0 ds=true/\PyData.depthAll ds<=n:=by
   intro vs
   induction vs with
   | nil=>intro xs ds q e;simp only[cg] at e;cases e;rw[ay] at q;subst q;exact⟨dP.nil,rfl,by simp[PyData.depthAll]⟩
   | cons v vs UD =>
    intro xs ds q e
    simp only[cg] at e
    obtain⟨d,e1,e⟩:=Option.bind_eq_some_iff.mp e
    obtain⟨ds',e2,e⟩:=Option.bind_eq_some_iff.mp e
    cases e
    rw[ay] at q
    obtain⟨x,r,rfl,q1,q2⟩:=q
    obtain⟨a1,a2,a3⟩:=ih v x d q1 e1
    obtain⟨b1,b2,b3⟩:=UD r ds' q2 e2
    refine⟨dP.cons a1 b1,by simp[PyData.canLayAll0,a2,b2],?_⟩
    simp only[PyData.depthAll];omega
  intro v x d q e
  cases v with
  | non=>simp only[toD] at e;cases e;rw[VR] at q;subst q;exact⟨Den.none,rfl,by simp[PyData.depth]⟩
  | bl b=>simp only[toD] at e;cases e;rw[VR] at q;subst q;exact⟨Den.bool,rfl,by simp[PyData.depth]⟩
  | int b=>simp only[toD] at e;cases e;rw[VR] at q;subst q;exact⟨Den.int,rfl,by simp[PyData.depth]⟩
  | str b =>
   simp only[toD] at e
   split at e
   ·rename_i hs;cases e;rw[VR] at q;subst q;exact⟨Den.str,by simp[PyData.canLay0,hs],by simp[PyData.depth]⟩
   ·cases e
  | tup vs =>
   simp only[toD] at e
   obtain⟨ds,e1,e⟩:=Option.bind_eq_some_iff.mp e
   cases e
   rw[VR] at q
   obtain⟨a,xs,rfl,q1,q2⟩:=q
   obtain⟨b1,b2,b3⟩:=all vs xs ds q2 e1
   exact⟨Den.tuple q1 b1,by simp[PyData.canLay0,b2],by simp only[PyData.depth];omega⟩
  | rl vs =>
   simp only[toD] at e
   obtain⟨ds,e1,e⟩:=Option.bind_eq_some_iff.mp e
   cases e
   rw[VR] at q
   obtain⟨a,xs,rfl,q1,q2⟩:=q
   obtain⟨b1,b2,b3⟩:=all vs xs ds q2 e1
   exact⟨Den.list q1.sq b1,by simp[PyData.canLay0,b2],by simp only[PyData.depth];omega⟩
  | dc _ _=>rw[VR] at q;exact q.elim
  | ob _ _ _=>rw[VR] at q;exact q.elim
  | ref i =>
   simp only[toD] at e
   obtain⟨vs,e0,e⟩:=Option.bind_eq_some_iff.mp e
   obtain⟨ds,e1,e⟩:=Option.bind_eq_some_iff.mp e
   cases e
   obtain⟨a,xs,rfl,q1,q2⟩:=eB r q e0
   obtain⟨b1,b2,b3⟩:=all vs xs ds q2 e1
   exact⟨Den.list q1 b1,by simp[PyData.canLay0,b2],by simp only[PyData.depth];omega⟩
end
end Hv
end
section
namespace Hv
open PySem L2 PyProof.Rows
theorem lT(x:List Int):∀l,(rS x l).Perm (x::l)
 | []=>.refl _
 | y::r=>by
  unfold rS;split
  ·exact((lT x r).cons y).trans (.swap _ _ _)
  ·exact .refl _
theorem oH:∀l,(kK l).Perm l
 | []=>.refl _
 | x::r=>(lT x _).trans ((oH r).cons x)
theorem ua{a b c:List Int}(h1:HT.lexLt b a=false)(h2:HT.lexLt c b=false):HT.lexLt c a=false:=by
 cases e:HT.lexLt c a with
 | false=>rfl
 | true =>
  rcases nv.qy c b a e with z|z
  ·rw[h2] at z;cases z
  ·rw[h1] at z;cases z
theorem uc{a b:List Int}(h:HT.lexLt a b=true):HT.lexLt b a=false:=by
 cases e:HT.lexLt b a with
 | false=>rfl
 | true=>have:=nv.gy _ _ _ h e;rw[nv.iL] at this;cases this
theorem xF(x:List Int):∀l:List (List Int),l.Pairwise (fun a b=>HT.lexLt b a=false)->(rS x l).Pairwise (fun a b=>HT.lexLt b a=false)
 | [],_=>by simp[rS]
 | y::r,h=>by
  obtain⟨h1,h2⟩:=List.pairwise_cons.mp h
  unfold rS
  split
  ·rename_i hlt
   refine List.pairwise_cons.mpr ⟨fun z hz=>?_,xF x r h2⟩
   rcases List.mem_cons.mp ((lT x r).mem_iff.mp hz) with rfl|hz
   ·exact uc hlt
   ·exact h1 z hz
  ·rename_i hlt
   refine List.pairwise_cons.mpr ⟨fun z hz=>?_,h⟩
   have hxy:HT.lexLt y x=false:=by simpa using hlt
   rcases List.mem_cons.mp hz with rfl|hz
   ·exact hxy
   ·exact ua hxy (h1 z hz)
theorem ud:∀l,(kK l).Pairwise (fun a b=>HT.lexLt b a=false)
 | []=>.nil
 | x::r=>xF x _ (ud r)
theorem Bb{l m9:List (List Int)}(hp:l.Perm m9)(hs:l.Pairwise (fun a b=>HT.lexLt b a=false)):l=kK m9 :=
 List.Perm.eq_of_pairwise (fun a b _ _ h1 h2=>nv.gx a b h2 h1) hs (ud m9) (hp.trans (oH m9).symm)
theorem zk{ns:List Int}{m:Int}(h:m∈ns)(h2:∀a∈ns,m<=a):rT ns=some (.int m):=by
 cases ns with
 | nil=>cases h
 | cons a r =>
  have key:∀(r:List Int) (a:Int),(r.foldl min a)∈a::r/\∀b∈a::r,r.foldl min a<=b:=by
   intro r
   induction r with
   | nil=>intro a;simp
   | cons c r ih =>
    intro a
    obtain⟨q1,q2⟩:=ih (min a c)
    refine⟨?_,fun b hb=>?_⟩
    ·show List.foldl min (min a c) r∈_
     rcases List.mem_cons.mp q1 with z|z
     ·rw[z]
      rcases Int.le_total a c with hc|hc
      ·rw[Int.min_eq_left hc];exact List.mem_cons_self
      ·rw[Int.min_eq_right hc];exact List.mem_cons_of_mem _ List.mem_cons_self
     ·exact List.mem_cons_of_mem _ (List.mem_cons_of_mem _ z)
    ·show List.foldl min (min a c) r<=b
     have q3:=q2 (min a c) List.mem_cons_self
     rcases List.mem_cons.mp hb with z|z
     ·subst z;omega
     ·rcases List.mem_cons.mp z with z|z
      ·subst z;omega
      ·exact q2 b (List.mem_cons_of_mem _ z)
  obtain⟨q1,q2⟩:=key r a
  show some (Val.int (r.foldl min a))=_
  rw[Int.le_antisymm (q2 m h) (h2 _ q1)]
theorem zl{ns:List Int}{m:Int}(h:m∈ns)(h2:∀a∈ns,a<=m):rV ns=some (.int m):=by
 cases ns with
 | nil=>cases h
 | cons a r =>
  have key:∀(r:List Int) (a:Int),(r.foldl max a)∈a::r/\∀b∈a::r,b<=r.foldl max a:=by
   intro r
   induction r with
   | nil=>intro a;simp
   | cons c r ih =>
    intro a
    obtain⟨q1,q2⟩:=ih (max a c)
    refine⟨?_,fun b hb=>?_⟩
    ·show List.foldl max (max a c) r∈_
     rcases List.mem_cons.mp q1 with z|z
     ·rw[z]
      rcases Int.le_total a c with hc|hc
      ·rw[Int.max_eq_right hc];exact List.mem_cons_of_mem _ List.mem_cons_self
      ·rw[Int.max_eq_left hc];exact List.mem_cons_self
     ·exact List.mem_cons_of_mem _ (List.mem_cons_of_mem _ z)
    ·show b<=List.foldl max (max a c) r
     have q3:=q2 (max a c) List.mem_cons_self
     rcases List.mem_cons.mp hb with z|z
     ·subst z;omega
     ·rcases List.mem_cons.mp z with z|z
      ·subst z;omega
      ·exact q2 b (List.mem_cons_of_mem _ z)
  obtain⟨q1,q2⟩:=key r a
  show some (Val.int (r.foldl max a))=_
  rw[Int.le_antisymm (h2 _ q1) (q2 m h)]
noncomputable def Post(B:Bd)(EX:Nat->List V->Hp->Prop)(ρ:List Addr)(H:Hp){α:Type}(W:α -> Hs->List Addr->Hp->Prop):Out α -> Prop
 | .ok a h'=>∀ρ' H',Gr ρ H ρ' H'->HR B ρ' h' H'->W a h' ρ' H'
 | .exc c vs h'=>∀ρ' H' xs,Gr ρ H ρ' H'->HR B ρ' h' H'->ay B.K ρ' H' vs xs->EX c xs H'
 | .no=>False
noncomputable def WV(K:PySem.W.Frag)(Q:VK):Val->Hs->List Addr->Hp->Prop:=fun v _ ρ' H'=>∀x,VR K ρ' H' v x->Q x H'
section
variable {B:Bd} {EX:Nat->List V->Hp->Prop} {ρ ρ':List Addr} {H H':Hp} {α β:Type} {W:β -> Hs->List Addr->Hp->Prop} {h h':Hs} {Q:VK}
theorem Post.up{W:α -> Hs->List Addr->Hp->Prop}{o:Out α}(g:Gr ρ H ρ' H')(p:Post B EX ρ H W o):Post B EX ρ' H' W o:=by
 cases o with
 | ok a h'=>exact fun ρ2 H2 g2 r=>p ρ2 H2 (g.trans g2) r
 | exc c vs h'=>exact fun ρ2 H2 xs g2 r=>p ρ2 H2 xs (g.trans g2) r
 | no=>exact p
theorem aI{c:Bool}{m:M β}(p:Post B EX ρ H W (aD c m h)):c=true/\Post B EX ρ H W (m h):=by
 unfold aD at p
 split at p
 ·rename_i e;exact⟨e,p⟩
 ·exact p.elim
theorem aA{f:Hs->Option α}{g:α -> M β}(p:Post B EX ρ H W (bnd (ask f) g h)):∃a,f h=some a/\Post B EX ρ H W (g a h):=by
 unfold bnd ask bw at p
 cases e:f h with
 | none=>rw[e] at p;exact p.elim
 | some a=>rw[e] at p;exact⟨a,rfl,p⟩
theorem cQ{f:Hs->Option β}(r:HR B ρ h H)(p:Post B EX ρ H W (ask f h)):∃a,f h=some a/\W a h ρ H:=by
 unfold ask bw at p
 cases e:f h with
 | none=>rw[e] at p;exact p.elim
 | some a=>rw[e] at p;exact⟨a,rfl,p ρ H Gr.refl r⟩
theorem bJ{o:Option α}{g:α -> M β}(p:Post B EX ρ H W (bnd (bw o) g h)):∃a,o=some a/\Post B EX ρ H W (g a h):=by
 unfold bnd bw at p
 cases e:o with
 | none=>rw[e] at p;exact p.elim
 | some a=>rw[e] at p;exact⟨a,rfl,p⟩
theorem cC{o:Option β}(r:HR B ρ h H)(p:Post B EX ρ H W (bw o h)):∃a,o=some a/\W a h ρ H:=by
 unfold bw at p
 cases e:o with
 | none=>rw[e] at p;exact p.elim
 | some a=>rw[e] at p;exact⟨a,rfl,p ρ H Gr.refl r⟩
theorem ai{a:β}(r:HR B ρ h H)(p:Post B EX ρ H W (ret a h)):W a h ρ H:=p ρ H Gr.refl r
theorem ue{o:Ob}{O:HO}{p:Addr}(r:HR B ρ h H)(hp:H p=none)(q:OR B (ρ ++ [p]) (upd H p O) p o)(w:Post B EX ρ H (WV B.K Q) (new o h)):Q (.ref p) (upd H p O) :=
 w (ρ ++ [p]) (upd H p O) (Gr.new hp) (r.new hp q) _ (xE r)
theorem bX{xs:List Val}{ys:List V}{p:Addr}(r:HR B ρ h H)(hp:H p=none)(q:ay B.K ρ H xs ys)(w:Post B EX ρ H (WV B.K Q) (new (.lst xs) h)):Q (.ref p) (upd H p (.lst ys)) :=
 ue (o:=.lst xs) (O:=.lst ys) r hp ⟨ys,aM,ay.up (Gr.new hp) _ _ q⟩ w
theorem oJ{xs:List Val}{ys:List V}{p:Addr}(r:HR B ρ h H)(hp:H p=none)(q:ay B.K ρ H xs ys)(w:Post B EX ρ H (WV B.K Q) (ret (Val.tup xs) h)):Q (.ref p) (upd H p (.tup ys)) :=
 w ρ (upd H p (.tup ys)) (Gr.side hp) (r.side hp) _ (VR.tup (iI.of aM) (ay.up (Gr.side hp) _ _ q))
theorem au{m:M Val}{f:Val->M β}(p:Post B EX ρ H W (bnd m f h))(k:∀v h1 ρ1 x H1,Gr ρ H ρ1 H1->HR B ρ1 h1 H1->VR B.K ρ1 H1 v x->Post B EX ρ1 H1 W (f v h1)->Q x H1):Post B EX ρ H (WV B.K Q) (m h):=by
 unfold bnd at p
 cases e:m h with
 | ok v h1=>rw[e] at p;exact fun ρ1 H1 g r x q=>k v h1 ρ1 x H1 g r q (Post.up g p)
 | exc c vs h1=>rw[e] at p;exact p
 | no=>rw[e] at p;exact p
theorem bx{m:M α}{f:α -> M β}{W':α -> Hs->List Addr->Hp->Prop}(p:Post B EX ρ H W (bnd m f h))(k:∀v h1 ρ1 H1,Gr ρ H ρ1 H1->HR B ρ1 h1 H1->Post B EX ρ1 H1 W (f v h1)->W' v h1 ρ1 H1):Post B EX ρ H W' (m h):=by
 unfold bnd at p
 cases e:m h with
 | ok v h1=>rw[e] at p;exact fun ρ1 H1 g r=>k v h1 ρ1 H1 g r (Post.up g p)
 | exc c vs h1=>rw[e] at p;exact p
 | no=>rw[e] at p;exact p
end
theorem eZ:∀{ds:List Val} {ns:List Int},aQ ds=some ns->ds=ns.map .int
 | [],ns,e=>by simp only[aQ,cg] at e;cases e;rfl
 | v::r,ns,e=>by
  simp only[aQ,cg] at e
  obtain⟨i,e1,e⟩:=Option.bind_eq_some_iff.mp e
  obtain⟨is,e2,e⟩:=Option.bind_eq_some_iff.mp e
  cases e
  cases v<;>first|cases e1|skip
  rw[eZ (show aQ r=some is from e2)];rfl
theorem qJ:∀{ds:List Val} {m9:List (List Int)},j3 ds=some m9->ds=m9.map kL/\∀ks∈m9,ks≠[]
 | [],ns,e=>by simp only[j3,cg] at e;cases e;exact⟨rfl,fun _ z=>nomatch z⟩
 | v::r,ns,e=>by
  simp only[j3,cg] at e
  obtain⟨i,e1,e⟩:=Option.bind_eq_some_iff.mp e
  obtain⟨is,e2,e⟩:=Option.bind_eq_some_iff.mp e
  cases e
  cases v<;>first|cases e1|skip
  rename_i vs
  dsimp only at e1
  split at e1
  ·cases e1
  ·rename_i hne
   obtain⟨q1,q2⟩:=qJ (show j3 r=some is from e2)
   have e3:=eZ e1
   subst e3
   refine⟨by rw[q1];rfl,fun ks hk=>?_⟩
   rcases List.mem_cons.mp hk with z|z
   ·subst z;intro z;subst z;exact hne rfl
   ·exact q2 ks z
section
variable {X:Cx} {cl:Nat->Addr} {EX:Nat->List V->Hp->Prop}
noncomputable abbrev bd(X:Cx)(cl:Nat->Addr):Bd:=⟨X.K,cl⟩
theorem D9:ja X (binaryOp .Add) (fun x y H Q=>∃a b xs ys,x=.ref a/\y=.ref b/\fO X.K H a xs/\fO X.K H b ys/\xs.length+ys.length<=sizeLine/\∀p,H p=none->Q (.ref p) (upd H p (.lst (xs++ys)))):=by
 intro pins s σ H x y v u Q I rx ry h
 obtain⟨l,l',xs,ys,rfl,rfl,q1,q3,hl,q⟩:=h
 cases rx;cases ry
 obtain⟨its,r1,UE,z1⟩:=I.list q1
 obtain⟨its',r2,UG,z2⟩:=I.list q3
 have l1:=r1.length
 have l2:=r2.length
 obtain⟨⟨oc,od,Ur,osl⟩,n1,e1,e2,_,e4⟩:=UE
 obtain⟨⟨XC,od',UH,PV⟩,n2,f1,f2,_,f4⟩:=UG
 cases e2;cases e4;cases f2;cases f4
 refine concat_meets ⟨_,e1,rfl⟩ ⟨_,f1,rfl⟩ noFill_list_add seq_list_add PySem.F.slot_list_add PySem.F.entry_list_add (PySem.F.args_list_add_2 _ _) (list_addW l l' its.toArray its'.toArray n1 n2 od od' osl PV (by simp only[List.size_toArray];omega)) ⟨e1,f1,?_⟩
 have ea:its.toArray++its'.toArray=(its++its').toArray:=by simp
 rw[ea]
 have hn:H s.heap.objs.size=none:=I.hok.fresh (Nat.le_refl _)
 exact⟨.ref s.heap.objs.size,_,I.Pg (t':=s.toks) (its:=its++its') (r1.append r2) (by rw[List.length_append];omega),rfl,q _ hn⟩
noncomputable def v8:rR->Operator
 | .add=>.Add|.sub=>.Sub|.mul=>.Mult|.fdiv=>.FloorDiv|.mod=>.Mod|.pow=>.Pow
noncomputable def xG:xB->CmpOp
 | .eq=>.Eq|.ne=>.NotEq|.lt=>.Lt|.le=>.LtE|.gt=>.Gt|.ge=>.GtE|.isn=>.Is|.ntn=>.IsNot|.zh=>.In|.nin=>.NotIn
noncomputable def rB(B:Bd)(EX:Nat->List V->Hp->Prop)(o:rR):R2:=fun x y H Q=>∃ρ h v w,HR B ρ h H/\VR B.K ρ H v x/\VR B.K ρ H w y/\Post B EX ρ H (WV B.K Q) (FQ o v w h)
theorem gX.log{j:Int}(h:gX j=true):0<j/\j.natAbs.log2<9000:=by
 have h:=of_decide_eq_true h
 refine⟨h.1,(Nat.log2_lt (by omega)).mpr ?_⟩
 have e:j.natAbs<2 ^ 200:=by
  have:(2:Nat) ^ 200=1606938044258990275541962092341162602522202993782792835301376:=by decide
  omega
 exact Nat.lt_of_lt_of_le e (Nat.pow_le_pow_right (by decide) (by decide))
theorem Bc:ja X (binaryOp .FloorDiv) (rI (fun _ j=>gX j=true) fun i j=>.int (i/j)):=GU fun i j _ _ _ _ _ hc q=>by
 obtain⟨h1,h2⟩:=gX.log hc
 exact PyProof.Rows.floordiv_int (by omega) (by rw[Int.fdiv_eq_ediv_of_nonneg i (by omega)];exact q) (.inl (PyProof.noPylong_of_log2 h2))
theorem zm:ja X (inplaceOp .FloorDiv) (rI (fun _ j=>gX j=true) fun i j=>.int (i/j)):=GU fun i j _ _ _ _ _ hc q=>by
 obtain⟨h1,h2⟩:=gX.log hc
 exact PyProof.Rows.ifloordiv_int (by omega) (by rw[Int.fdiv_eq_ediv_of_nonneg i (by omega)];exact q) (.inl (PyProof.noPylong_of_log2 h2))
theorem oK{o:rR}(ho:o≠.add)(v w:Val)(h:Hs):(∃i j,v=.int i/\w=.int j)\/FQ o v w h=.no:=by
 cases v with
 | int i =>
  cases w with
  | int j=>exact .inl ⟨i,j,rfl,rfl⟩
  | _=>right;cases o<;>first|rfl|exact absurd rfl ho
 | _=>right;cases o<;>first|rfl|exact absurd rfl ho
theorem HZ(o:rR):ja X (binaryOp (v8 o)) (rB (bd X cl) EX o):=by
 intro pins s σ H x y v' u' Q I rx ry hh
 obtain⟨ρ,h,v,w,r,hv,hw,p⟩:=hh
 have lists:Post (bd X cl) EX ρ H (WV X.K Q) (bnd (ask fun h=>aB h v) (fun a=>bnd (ask fun h=>aB h w) fun b=>aD (decide (a.length+b.length<=sizeLine)) (new (.lst (a++b)))) h)->wpAny (model X.prog X.w) X.A (binaryOp .Add v' u') (EP X pins σ Q) X.xe s:=by
  intro p
  obtain⟨a,e1,p⟩:=aA p
  obtain⟨b,e2,p⟩:=aA p
  obtain⟨e3,p⟩:=aI p
  have e3:=of_decide_eq_true e3
  obtain⟨a1,LY,rfl,k1,k2⟩:=eB r hv e1
  obtain⟨a2,PX,rfl,k3,k4⟩:=eB r hw e2
  exact D9 pins s σ H _ _ v' u' Q I rx ry ⟨a1,a2,LY,PX,rfl,rfl,k1,k3,by rw[<-k2.length,<-k4.length];exact e3,fun q hq=>bX r hq (ay.append k2 k4) p⟩
 cases o with
 | add =>
  cases v<;>cases w<;>first
   | exact lists p
   | skip
  ·rename_i a b
   rw[VR] at hv hw;subst hv;subst hw
   exact GV pins s σ H _ _ _ _ Q I rx ry ⟨a,b,rfl,rfl,ai r p _ VR.int⟩
  ·rename_i a b
   rw[VR] at hv hw;subst hv;subst hw
   obtain⟨e,p⟩:=aI p
   exact vz pins s σ H _ _ _ _ Q I rx ry ⟨a,b,rfl,rfl,of_decide_eq_true e,ai r p _ VR.str⟩
  ·rename_i a b
   rw[VR] at hv hw
   obtain⟨a1,LY,rfl,k1,k2⟩:=hv
   obtain⟨a2,PX,rfl,k3,k4⟩:=hw
   obtain⟨e,p⟩:=aI p
   simp only[Bool.and_eq_true,Bool.not_eq_true',decide_eq_true_eq] at e
   refine DH pins s σ H _ _ _ _ Q I rx ry ⟨a1,a2,LY,PX,rfl,rfl,k1,k3,?_,by rw[<-k2.length,<-k4.length];exact e.2,fun z=>?_,fun _ q hq=>oJ r hq (ay.append k2 k4) p⟩
   ·intro z;subst z
    have:=k2.length
    cases a with
    | nil=>simp at e
    | cons _ _=>simp at this
   ·subst z
    have hb:b=[]:=by cases b with|nil=>rfl|cons _ _=>have:=k4.length;simp at this
    subst hb
    rw[List.append_nil] at p
    exact ai r p _ (VR.tup k1 k2)
 | sub =>
  rcases oK (o:=.sub) (by intro z;cases z) v w h with ⟨i,j,rfl,rfl⟩|z
  case inr=>rw[z] at p;exact p.elim
  rw[VR] at hv hw;subst hv;subst hw
  exact GW pins s σ H _ _ _ _ Q I rx ry ⟨_,_,rfl,rfl,ai r p _ VR.int⟩
 | mul =>
  rcases oK (o:=.mul) (by intro z;cases z) v w h with ⟨i,j,rfl,rfl⟩|z
  case inr=>rw[z] at p;exact p.elim
  rw[VR] at hv hw;subst hv;subst hw
  obtain⟨hm,p⟩:=aI p
  refine GX pins s σ H _ _ _ _ Q I rx ry ⟨_,_,rfl,rfl,?_,ai r p _ VR.int⟩
  unfold jk at hm
  simp only[Bool.or_eq_true,Bool.and_eq_true,decide_eq_true_eq] at hm
  exact hm
 | fdiv =>
  rcases oK (o:=.fdiv) (by intro z;cases z) v w h with ⟨i,j,rfl,rfl⟩|z
  case inr=>rw[z] at p;exact p.elim
  rw[VR] at hv hw;subst hv;subst hw
  obtain⟨hm,p⟩:=aI p
  exact Bc pins s σ H _ _ _ _ Q I rx ry ⟨_,_,rfl,rfl,hm,ai r p _ VR.int⟩
 | mod =>
  rcases oK (o:=.mod) (by intro z;cases z) v w h with ⟨i,j,rfl,rfl⟩|z
  case inr=>rw[z] at p;exact p.elim
  rw[VR] at hv hw;subst hv;subst hw
  obtain⟨hm,p⟩:=aI p
  exact GY pins s σ H _ _ _ _ Q I rx ry ⟨_,_,rfl,rfl,of_decide_eq_true hm,ai r p _ VR.int⟩
 | pow =>
  rcases oK (o:=.pow) (by intro z;cases z) v w h with ⟨i,j,rfl,rfl⟩|z
  case inr=>rw[z] at p;exact p.elim
  rw[VR] at hv hw;subst hv;subst hw
  obtain⟨hm,p⟩:=aI p
  have hm:=of_decide_eq_true hm
  exact GZ pins s σ H _ _ _ _ Q I rx ry ⟨_,_,rfl,rfl,hm,ai r p _ VR.int⟩
end
end Hv
end
section
namespace Hv
open PySem L2 PyProof.Rows
section
variable {X:Cx} {cl:Nat->Addr} {EX:Nat->List V->Hp->Prop}
theorem uf{h:Hs}{v w:Val}{b:Bool}(e:z5 h v w=some b):∃d f,toD 16 h v=some d/\toD 16 h w=some f/\b=PyData.eqv d f:=by
 unfold z5 at e
 obtain⟨d,e1,e⟩:=Option.bind_eq_some_iff.mp e
 obtain⟨f,e2,e⟩:=Option.bind_eq_some_iff.mp e
 exact⟨d,f,e1,e2,(Option.some.inj e).symm⟩
theorem xH{K:PySem.W.Frag}{ρ:List Addr}{H:Hp}{v:Val}{x:V}(q:VR K ρ H v x):decide (x=.non)=oA v:=by
 cases v<;>rw[VR] at q
 ·subst q;rfl
 ·subst q;rfl
 ·subst q;rfl
 ·subst q;rfl
 ·obtain⟨a,xs,rfl,_⟩:=q;rfl
 ·obtain⟨a,xs,rfl,_⟩:=q;rfl
 ·exact q.elim
 ·exact q.elim
 ·obtain⟨a,rfl,_⟩:=q;rfl
theorem Ia(hu:X.A.units+64<cLine)(neg:Bool):ja X (compareOp (if neg=true then .NotIn else .In)) (fun x y H Q=>∃d f ds,Den X.K H d x/\Den X.K H f y/\d.canLay0=true/\f.canLay0=true/\d.depth<=16/\(f=.list ds\/f=.tuple ds)/\Q (.bl (if neg=true then !(ds.any fun y=>PyData.eqv y d) else ds.any fun y=>PyData.eqv y d)) H):=by
 intro pins s σ H x y v u Q I rx ry hh
 obtain⟨d,f,ds,hd,hf,c1,c2,hz,e,q⟩:=hh
 obtain⟨as,ra⟩:=Den.reads I d x v c1 hd rx
 obtain⟨bs,rb⟩:=Den.reads I f y u c2 hf ry
 have Oj:X.A.units+1+min (PyData.depthAll ds) d.depth<cLine:=by have:=Nat.min_le_right (PyData.depthAll ds) d.depth;omega
 rcases e with rfl|rfl
 ·have c3:PyData.canLayAll0 ds=true:=by simpa [PyData.canLay0] using c2
  cases neg with
  | true=>exact SeqAt.notIn_list_reads rb ra c3 c1 Oj ⟨.bl _,H,I,rfl,q⟩
  | false=>exact SeqAt.in_list_reads rb ra c3 c1 Oj ⟨.bl _,H,I,rfl,q⟩
 ·have c3:PyData.canLayAll0 ds=true:=by simpa [PyData.canLay0] using c2
  cases neg with
  | true=>exact SeqAt.notIn_tuple_reads rb ra c3 c1 Oj ⟨.bl _,H,I,rfl,q⟩
  | false=>exact SeqAt.in_tuple_reads rb ra c3 c1 Oj ⟨.bl _,H,I,rfl,q⟩
theorem fS.val{K:PySem.W.Frag}{ρ:List Addr}{H:Hp}(k:Key):∀{kvs:List (Key×Val)} {ks:List (Key×V)},fS K ρ H kvs ks->(bQ kvs k=none->gD ks k=none)/\∀v,bQ kvs k=some v->∃x,gD ks k=some x/\VR K ρ H v x
 | [],ks,e=>by
  have:ks=[]:=e
  subst this
  exact⟨fun _=>rfl,fun v z=>by simp[bQ] at z⟩
 | (k',v')::kvs,ks,⟨x,r,e,q1,q2⟩=>by
  subst e
  obtain⟨a,b⟩:=fS.val k q2
  by_cases hk:k'=k
  ·subst hk
   refine⟨fun z=>by simp[bQ] at z,fun v z=>⟨x,by simp[gD],?_⟩⟩
   simp[bQ] at z;subst z;exact q1
  ·have e1:bQ ((k',v')::kvs) k=bQ kvs k:=by simp[bQ,hk]
   have e2:gD ((k',x)::r) k=gD r k:=by simp[gD,hk]
   rw[e1,e2];exact⟨a,b⟩
theorem fS.length{K:PySem.W.Frag}{ρ:List Addr}{H:Hp}:∀{kvs:List (Key×Val)} {ks:List (Key×V)},fS K ρ H kvs ks->kvs.length=ks.length
 | [],ks,e=>by have:ks=[]:=e;subst this;rfl
 | (k',v')::kvs,ks,⟨x,r,e,q1,q2⟩=>by subst e;simp[fS.length q2]
theorem fS.any{K:PySem.W.Frag}{ρ:List Addr}{H:Hp}(k:Key):∀{kvs:List (Key×Val)} {ks:List (Key×V)},fS K ρ H kvs ks->(kvs.any fun kv=>decide (kv.1=k))=(ks.any fun kv=>decide (kv.1=k))
 | [],ks,e=>by have:ks=[]:=e;subst this;rfl
 | (k',v')::kvs,ks,⟨x,r,e,q1,q2⟩=>by subst e;simp only[List.any_cons];rw[fS.any k q2]
theorem fS.repl{K:PySem.W.Frag}{ρ:List Addr}{H:Hp}(k:Key){v:Val}{y:V}(q:VR K ρ H v y):∀{kvs:List (Key×Val)} {ks:List (Key×V)},fS K ρ H kvs ks->fS K ρ H (kvs.map fun kv=>if kv.1=k then (kv.1,v) else kv) (ks.map fun kv=>if kv.1=k then (kv.1,y) else kv)
 | [],ks,e=>by have:ks=[]:=e;subst this;rfl
 | (k',v')::kvs,ks,⟨x,r,e,q1,q2⟩=>by
  subst e
  simp only[List.map_cons]
  by_cases hk:k'=k
  ·rw[if_pos hk,if_pos hk];exact⟨y,_,rfl,q,fS.repl k q q2⟩
  ·rw[if_neg hk,if_neg hk];exact⟨x,_,rfl,q1,fS.repl k q q2⟩
theorem fS.snoc{K:PySem.W.Frag}{ρ:List Addr}{H:Hp}(k:Key){v:Val}{y:V}(q:VR K ρ H v y):∀{kvs:List (Key×Val)} {ks:List (Key×V)},fS K ρ H kvs ks->fS K ρ H (kvs++[(k,v)]) (ks++[(k,y)])
 | [],ks,e=>by have:ks=[]:=e;subst this;exact⟨y,[],rfl,q,rfl⟩
 | (k',v')::kvs,ks,⟨x,r,e,q1,q2⟩=>by subst e;exact⟨x,_,rfl,q1,fS.snoc k q q2⟩
theorem fS.put{K:PySem.W.Frag}{ρ:List Addr}{H:Hp}(k:Key){v:Val}{y:V}(q:VR K ρ H v y){kvs:List (Key×Val)}{ks:List (Key×V)}(e:fS K ρ H kvs ks):fS K ρ H (f7 kvs k v) (putK ks k y):=by
 unfold f7 putK
 rw[fS.any k e]
 split
 ·exact fS.repl k q e
 ·exact fS.snoc k q e
theorem Be{K:PySem.W.Frag}{ρ:List Addr}{H:Hp}{v:Val}{x:V}{k:Key}(q:VR K ρ H v x)(e:keyOf v=some k):x=kV k:=by
 cases v<;>simp only[keyOf] at e<;>first|cases e|skip
 ·rw[VR] at q;exact q
 ·rw[VR] at q;exact q
theorem xJ(hu:X.A.units+64<cLine):KC X (fun x y H Q=>∃a v,x=.ref a/\jU H a y (some v)/\Q v H):=by
 intro value slice pins s σ H x y v u Q I rx ry h hs
 obtain⟨a,z,rfl,g,q⟩:=h
 cases rx
 have hT:=tG I g
 unfold subscriptTail
 refine wpAny_bind ?_
 rw[getitemInPython_of_ne hT.not_modules]
 refine wpAny_bind (wpAny_specialOf hT PySem.F.slot_dict_getitem.lookup ?_)
 have fin:wpAny (model X.prog X.w) X.A (subscripted slice false (.ref a) u) (fun r s₃=>wpAny (model X.prog X.w) X.A (letTemporaryGo value (.ref a) r >>= fun _=>pure r) (EP X pins σ Q) X.xe s₃) X.xe s:=by
  rw[hs]
  exact wpAny_operating (yP (by omega) I g ry fun w' s' I' r'=>wpAny_bind (wpAny_letTemporaryGo (wpAny_pure ⟨z,H,I',r',q⟩)))
 first
  | exact wpAny_pure (wpAny_bind fin)
  | exact wpAny_bind (wpAny_pure (wpAny_bind fin))
  | exact wpAny_bind fin
noncomputable def rC(B:Bd)(o:xB):R2:=fun x y H Q=>∃ρ h v w b,HR B ρ h H/\VR B.K ρ H v x/\VR B.K ρ H w y/\cop h o v w=some b/\Q (.bl b) H
theorem kP{h:Hs}{v w:Val}{b:Bool}(e:memD h v w=some b):∃d f ds,toD 16 h v=some d/\toD 16 h w=some f/\(f=.list ds\/f=.tuple ds)/\b=ds.any fun y=>PyData.eqv y d:=by
 unfold memD at e
 obtain⟨f,e1,e⟩:=Option.bind_eq_some_iff.mp e
 obtain⟨d,e2,e⟩:=Option.bind_eq_some_iff.mp e
 cases f<;>simp only[HW] at e<;>first|cases e|skip
 ·exact⟨d,_,_,e2,e1,.inl rfl,rfl⟩
 ·exact⟨d,_,_,e2,e1,.inr rfl,rfl⟩
theorem zo{h:Hs}{v w:Val}{b:Bool}(hw:∀ks vs,w≠.dc ks vs)(e:rW h v w=some b):(∃x y,v=.str x/\w=.str y/\b = !(Builtin.Str.occurrences y x 0 y.length 1).isEmpty)\/(∃i kvs k,w=.ref i/\h[i]?=some (.dct kvs)/\keyOf v=some k/\b=(bQ kvs k).isSome) \/
  ∃d f ds,toD 16 h v=some d/\toD 16 h w=some f/\(f=.list ds\/f=.tuple ds)/\b=ds.any fun y=>PyData.eqv y d:=by
 cases w with
 | ref i =>
  have e':(h[i]?).bind (D8 h v i)=some b:=by cases v<;>exact e
  obtain⟨ob,e1,e2⟩:=Option.bind_eq_some_iff.mp e'
  cases ob with
  | dct kvs =>
   obtain⟨k,e3,e4⟩:=Option.bind_eq_some_iff.mp (show (keyOf v).bind _=some b from e2)
   exact .inr (.inl ⟨i,kvs,k,rfl,e1,e3,(Option.some.inj e4).symm⟩)
  | lst xs=>exact .inr (.inr (kP e2))
  | ins c fs=>exact .inr (.inr (kP e2))
 | dc ks vs=>exact absurd rfl (hw ks vs)
 | str y =>
  cases v with
  | str x=>exact .inl ⟨x,y,rfl,rfl,(Option.some.inj e).symm⟩
  | _=>exact .inr (.inr (kP e))
 | _=>exact .inr (.inr (kP (by cases v<;>exact e)))
theorem Bf(hu:X.A.units+64<cLine)(o:xB):ja X (compareOp (xG o)) (rC (bd X cl) o):=by
 intro pins s σ H x y v' u' Q I rx ry hh
 obtain⟨ρ,h,v,w,b,r,hv,hw,e,q⟩:=hh
 have mem:∀(neg:Bool),rW h v w=some (if neg=true then !b else b)->wpAny (model X.prog X.w) X.A (compareOp (if neg=true then .NotIn else .In) v' u') (EP X pins σ Q) X.xe s:=by
  intro neg e
  have nd:∀ks vs,w≠.dc ks vs:=fun ks vs z=>by subst z;rw[VR] at hw;exact hw.elim
  rcases zo nd e with ⟨a,c,rfl,rfl,eb⟩|⟨i,kvs,k,rfl,e1,e2,eb⟩|⟨d,f,ds,e1,e2,e3,eb⟩
  ·rw[VR] at hv;rw[VR] at hw;subst hv;subst hw
   cases neg with
   | true =>
    refine rj pins s σ H _ _ v' u' Q I rx ry ⟨a,c,rfl,rfl,?_⟩
    rw[if_pos rfl] at eb
    rw[<-eb,Bool.not_not];exact q
   | false =>
    refine yH pins s σ H _ _ v' u' Q I rx ry ⟨a,c,rfl,rfl,?_⟩
    rw[if_neg Bool.false_ne_true] at eb
    rw[<-eb];exact q
  ·rw[VR] at hw
   obtain⟨a,rfl,k1⟩:=hw
   obtain⟨ks,k2,k3⟩:=r.ob i _ a e1 k1
   have ex:=Be hv e2
   subst ex
   have es:(gD ks k).isSome=(bQ kvs k).isSome:=by
    obtain⟨z1,z2⟩:=fS.val k k3
    cases e4:bQ kvs k with
    | none=>rw[z1 e4];rfl
    | some z=>obtain⟨x,z3,_⟩:=z2 z e4;rw[z3];rfl
   cases ry
   cases neg with
   | true =>
    refine DO (by omega) I (jU.k (k:=k) k2) rx fun s' I'=>⟨.bl _,H,I',rfl,?_⟩
    rw[if_pos rfl] at eb
    rw[es,<-eb,Bool.not_not];exact q
   | false =>
    refine Ph (by omega) I (jU.k (k:=k) k2) rx fun s' I'=>⟨.bl _,H,I',rfl,?_⟩
    rw[if_neg Bool.false_ne_true] at eb
    rw[es,<-eb];exact q
  ·obtain⟨a1,a2,a3⟩:=lR r 16 v x d hv e1
   obtain⟨b1,b2,b3⟩:=lR r 16 w y f hw e2
   refine Ia hu neg pins s σ H x y v' u' Q I rx ry ⟨d,f,ds,a1,b1,a2,b2,a3,e3,?_⟩
   cases neg with
   | true=>rw[if_pos rfl] at eb |-;rw[<-eb,Bool.not_not];exact q
   | false=>rw[if_neg Bool.false_ne_true] at eb |-;rw[<-eb];exact q
 cases o with
 | eq =>
  obtain⟨d,f,e1,e2,rfl⟩:=uf (show z5 h v w=some b by exact e)
  obtain⟨a1,a2,a3⟩:=lR r 16 v x d hv e1
  obtain⟨b1,b2,b3⟩:=lR r 16 w y f hw e2
  exact HM hu pins s σ H x y v' u' Q I rx ry ⟨d,f,a1,b1,a2,b2,by omega,q⟩
 | ne =>
  have e':(z5 h v w).map (!·)=some b:=e
  obtain⟨c,e3,rfl⟩:=Option.map_eq_some_iff.mp e'
  obtain⟨d,f,e1,e2,rfl⟩:=uf e3
  obtain⟨a1,a2,a3⟩:=lR r 16 v x d hv e1
  obtain⟨b1,b2,b3⟩:=lR r 16 w y f hw e2
  exact HN hu pins s σ H x y v' u' Q I rx ry ⟨d,f,a1,b1,a2,b2,by omega,q⟩
 | lt =>
  obtain⟨i,j,rfl,rfl⟩:=jn (.inl rfl) e
  cases e
  rw[VR] at hv;rw[VR] at hw;subst hv;subst hw
  exact Ll pins s σ H _ _ v' u' Q I rx ry ⟨_,_,rfl,rfl,q⟩
 | le =>
  obtain⟨i,j,rfl,rfl⟩:=jn (.inr (.inl rfl)) e
  cases e
  rw[VR] at hv;rw[VR] at hw;subst hv;subst hw
  exact Lm pins s σ H _ _ v' u' Q I rx ry ⟨_,_,rfl,rfl,q⟩
 | gt =>
  obtain⟨i,j,rfl,rfl⟩:=jn (.inr (.inr (.inl rfl))) e
  cases e
  rw[VR] at hv;rw[VR] at hw;subst hv;subst hw
  exact Lo pins s σ H _ _ v' u' Q I rx ry ⟨_,_,rfl,rfl,q⟩
 | ge =>
  obtain⟨i,j,rfl,rfl⟩:=jn (.inr (.inr (.inr rfl))) e
  cases e
  rw[VR] at hv;rw[VR] at hw;subst hv;subst hw
  exact Lp pins s σ H _ _ v' u' Q I rx ry ⟨_,_,rfl,rfl,q⟩
 | isn =>
  have e:FT v w=some b:=e
  cases w<;>first|(cases e;done)|skip
  ·cases e
   rw[VR] at hw;subst hw
   refine Hf pins s σ H x _ v' u' Q I rx ry ⟨rfl,?_⟩
   rw[xH hv];exact q
  ·cases v<;>first|(cases e;done)|skip
   cases e
   rw[VR] at hv;rw[VR] at hw;subst hv;subst hw
   exact HP pins s σ H _ _ v' u' Q I rx ry ⟨_,_,rfl,rfl,q⟩
 | ntn =>
  have e:(FT v w).map (!·)=some b:=e
  cases w<;>first|(cases e;done)|skip
  ·cases e
   rw[VR] at hw;subst hw
   refine Dv pins s σ H x _ v' u' Q I rx ry ⟨rfl,?_⟩
   rw[xH hv];exact q
  ·cases v<;>first|(cases e;done)|skip
   cases e
   rw[VR] at hv;rw[VR] at hw;subst hv;subst hw
   exact D3 pins s σ H _ _ v' u' Q I rx ry ⟨_,_,rfl,rfl,q⟩
 | zh=>exact mem false (by rw[if_neg Bool.false_ne_true];exact e)
 | nin =>
  have e':(rW h v w).map (!·)=some b:=e
  obtain⟨c,e3,rfl⟩:=Option.map_eq_some_iff.mp e'
  exact mem true (by rw[e3];simp)
theorem Ib{B:Bd}{ρ:List Addr}{h:Hs}{H:Hp}{v:Val}{x:V}{b:Bool}(r:HR B ρ h H)(q:VR B.K ρ H v x)(e:dj h v=some b):Hg B.K x H b:=by
 cases v with
 | non=>rw[VR] at q;subst q;exact(Option.some.inj e).symm
 | bl c=>rw[VR] at q;subst q;exact(Option.some.inj e).symm
 | int i=>rw[VR] at q;subst q;exact(Option.some.inj e).symm
 | str z =>
  rw[VR] at q;subst q
  simp only[dj] at e
  split at e
  ·rename_i hl;exact⟨hl,(Option.some.inj e).symm⟩
  ·cases e
 | tup vs =>
  rw[VR] at q
  obtain⟨a,xs,rfl,q1,q2⟩:=q
  refine .inr (.inl ⟨xs,q1,?_⟩)
  rw[<-Option.some.inj e]
  have:=q2.length
  cases vs<;>cases xs<;>simp_all
 | rl vs =>
  rw[VR] at q
  obtain⟨a,xs,rfl,q1,q2⟩:=q
  refine .inl ⟨xs,q1.sq,?_⟩
  rw[<-Option.some.inj e]
  have:=q2.length
  cases vs<;>cases xs<;>simp_all
 | dc _ _=>rw[VR] at q;exact q.elim
 | ob _ _ _=>rw[VR] at q;exact q.elim
 | ref i =>
  rw[VR] at q
  obtain⟨a,rfl,q1⟩:=q
  simp only[dj] at e
  split at e
  ·rename_i vs e1
   obtain⟨xs,k1,k2⟩:=r.ob i _ a e1 q1
   refine .inl ⟨xs,.inl (.inl k1),?_⟩
   rw[<-Option.some.inj e]
   have:=k2.length
   cases vs<;>cases xs<;>simp_all
  ·rename_i vs e1
   obtain⟨xs,k1,k2⟩:=r.ob i _ a e1 q1
   refine .inr (.inr ⟨xs,k1,?_⟩)
   rw[<-Option.some.inj e]
   have:=k2.length
   cases vs<;>cases xs<;>simp_all
  ·cases e
noncomputable def PY(B:Bd):R2:=fun x y H Q=>∃ρ h v w z,HR B ρ h H/\VR B.K ρ H v x/\VR B.K ρ H w y/\iM h v w=some z/\∀u,VR B.K ρ H z u->Q u H
theorem Ic(hu:X.A.units+64<cLine):KC X (PY (bd X cl)):=by
 intro value slice pins s σ H x y v' u' Q I rx ry hh hs
 obtain⟨ρ,h,v,w,z,r,hv,hw,e,q⟩:=hh
 cases v with
 | str t =>
  cases w<;>first|cases e|skip
  rename_i i
  change (if t.length<=sizeLine then (jg t.cps.toList i).map (fun c=>Val.str ⟨#[c]⟩) else none)=some z at e
  split at e
  ·rename_i hl
   obtain⟨c,e1,rfl⟩:=Option.map_eq_some_iff.mp e
   rw[VR] at hv;rw[VR] at hw;subst hv;subst hw
   exact Hw value slice pins s σ H _ _ v' u' Q I rx ry ⟨t,i,c,rfl,rfl,hl,e1,q _ VR.str⟩ hs
  ·cases e
 | tup vs =>
  cases w<;>first|cases e|skip
  rename_i i
  rw[VR] at hv;rw[VR] at hw;subst hw
  obtain⟨a,xs,rfl,q1,q2⟩:=hv
  obtain⟨t,e2,q3⟩:=ay.jg q2 e
  exact Hu value slice pins s σ H _ _ v' u' Q I rx ry ⟨a,xs,i,t,rfl,rfl,q1,e2,q _ q3⟩ hs
 | rl vs =>
  cases w<;>first|cases e|skip
  rename_i i
  rw[VR] at hv;rw[VR] at hw;subst hw
  obtain⟨a,xs,rfl,q1,q2⟩:=hv
  obtain⟨t,e2,q3⟩:=ay.jg q2 e
  exact xj value slice pins s σ H _ _ v' u' Q I rx ry ⟨a,xs,i,t,rfl,rfl,q1.sq,e2,q _ q3⟩ hs
 | ref j =>
  cases w with
  | int i =>
   change (match h[j]? with|some (.dct kvs)=>bQ kvs (.inl i)|_=>(aB h (.ref j)).bind fun xs=>jg xs i)=some z at e
   split at e
   ·rename_i kvs e1
    rw[VR] at hv
    obtain⟨a,rfl,q1⟩:=hv
    obtain⟨ks,k1,k2⟩:=r.ob j _ a e1 q1
    obtain⟨t,e2,q3⟩:=(fS.val (.inl i) k2).2 z e
    have g:jU H a (kV (.inl i)) (gD ks (.inl i)):=jU.k k1
    rw[e2] at g
    rw[VR] at hw;subst hw
    exact xJ hu value slice pins s σ H _ _ v' u' Q I rx ry ⟨a,t,rfl,g,q _ q3⟩ hs
   ·obtain⟨vs,e1,e⟩:=Option.bind_eq_some_iff.mp e
    obtain⟨a,xs,rfl,q1,q2⟩:=eB r hv e1
    rw[VR] at hw;subst hw
    obtain⟨t,e2,q3⟩:=ay.jg q2 e
    exact xj value slice pins s σ H _ _ v' u' Q I rx ry ⟨a,xs,i,t,rfl,rfl,q1,e2,q _ q3⟩ hs
  | str y =>
   change (match h[j]? with|some (.dct kvs)=>bQ kvs (.inr y)|_=>none)=some z at e
   split at e
   ·rename_i kvs e1
    rw[VR] at hv
    obtain⟨a,rfl,q1⟩:=hv
    obtain⟨ks,k1,k2⟩:=r.ob j _ a e1 q1
    obtain⟨t,e2,q3⟩:=(fS.val (.inr y) k2).2 z e
    have g:jU H a (kV (.inr y)) (gD ks (.inr y)):=jU.k k1
    rw[e2] at g
    rw[VR] at hw;subst hw
    exact xJ hu value slice pins s σ H _ _ v' u' Q I rx ry ⟨a,t,rfl,g,q _ q3⟩ hs
   ·cases e
  | _=>cases e
 | dc _ _=>rw[VR] at hv;exact hv.elim
 | _=>cases w<;>cases e
noncomputable def UI(B:Bd)(EX:Nat->List V->Hp->Prop):V->Option Int->Option Int->Hp->VK->Prop:=fun x lo hi H Q=>∃ρ h v,HR B ρ h H/\VR B.K ρ H v x/\Post B EX ρ H (WV B.K Q) (qa v lo hi h)
theorem Ie:Oe X (UI (bd X cl) EX):=by
 intro pins s σ H x v' vl vu lo hi sl Q I rx hs pl pu hh
 obtain⟨ρ,h,v,r,hv,p⟩:=hh
 have lists:Post (bd X cl) EX ρ H (WV X.K Q) (bnd (ask fun h=>aB h v) (fun xs=>new (.lst (cW xs lo hi))) h)->∃T id,typeLookup (.type T) "__getitem__" = pure (some (.builtin id))/\s.TypeIs v' T/\wpAny (model X.prog X.w) X.A (getItem v' (.ref sl)) (EP X pins σ Q) X.xe s:=by
  intro p
  obtain⟨a,e1,p⟩:=aA p
  obtain⟨a1,LY,rfl,k1,k2⟩:=eB r hv e1
  exact DI pins s σ H _ v' vl vu lo hi sl Q I rx hs pl pu ⟨a1,LY,rfl,k1,fun q hq=>bX r hq (ay.cut lo hi k2) p⟩
 cases v with
 | tup vs =>
  simp only[qa] at p
  rw[VR] at hv
  obtain⟨a,xs,rfl,q1,q2⟩:=hv
  obtain⟨e,p⟩:=aI p
  refine Ht pins s σ H _ v' vl vu lo hi sl Q I rx hs pl pu ⟨a,xs,rfl,q1,?_,fun q hq=>oJ r hq (ay.cut lo hi q2) p⟩
  rw[<-q2.length]
  simp only[Bool.not_eq_true',Bool.and_eq_false_iff,decide_eq_false_iff_not] at e
  rintro⟨z1,z2⟩
  exact e.elim (fun k=>k z1) fun k=>k z2
 | _=>exact lists p
end
end Hv
end
section
set_option backward.match.sparseCases false
namespace Hv
open PySem L2 PyProof.Rows
section
variable {X:Cx} {cl:Nat->Addr} {EX:Nat->List V->Hp->Prop}
noncomputable def CS(B:Bd)(EX:Nat->List V->Hp->Prop)(b:Bl):List V->Hp->VK->Prop:=fun xs H Q=>∃ρ h vs,HR B ρ h H/\ay B.K ρ H vs xs/\Post B EX ρ H (WV B.K Q) (blt b vs h)
theorem Ig:cJ X (.builtin "len") (CS (bd X cl) EX .len):=by
 intro pins s σ H xs us Q I rr hh
 obtain⟨ρ,h,vs,r,hv,p⟩:=hh
 match vs,p with
 | [v],p =>
  obtain⟨n,e,p⟩:=aA p
  obtain⟨x,rfl,hx⟩:=ay.one hv
  have fin:=ai r p _ VR.int
  cases v with
  | str z =>
   simp only[kN] at e
   split at e
   ·rename_i hl;cases e
    rw[VR] at hx;subst hx
    exact L2.kE pins s σ H _ us Q I rr ⟨_,z.length,rfl,⟨hl,rfl⟩,fin⟩
   ·cases e
  | tup vs =>
   simp only[kN] at e;cases e
   rw[VR] at hx
   obtain⟨a,ys,rfl,q1,q2⟩:=hx
   refine L2.kE pins s σ H _ us Q I rr ⟨_,ys.length,rfl,.inr ⟨ys,q1,rfl⟩,?_⟩
   rw[<-q2.length];exact fin
  | rl vs =>
   simp only[kN] at e;cases e
   rw[VR] at hx
   obtain⟨a,ys,rfl,q1,q2⟩:=hx
   refine L2.kE pins s σ H _ us Q I rr ⟨_,ys.length,rfl,.inl ⟨ys,q1.sq,rfl⟩,?_⟩
   rw[<-q2.length];exact fin
  | dc _ _=>rw[VR] at hx;exact hx.elim
  | ob _ _ _=>rw[VR] at hx;exact hx.elim
  | ref i =>
   rw[VR] at hx
   obtain⟨a,rfl,q1⟩:=hx
   simp only[kN] at e
   split at e
   ·rename_i vs e1;cases e
    obtain⟨ys,k1,k2⟩:=r.ob i _ a e1 q1
    refine L2.kE pins s σ H _ us Q I rr ⟨_,ys.length,rfl,.inl ⟨ys,.inl (.inl k1),rfl⟩,?_⟩
    rw[<-k2.length];exact fin
   ·rename_i vs e1;cases e
    obtain⟨ks,k1,k2⟩:=r.ob i _ a e1 q1
    refine yT pins s σ H _ us Q I rr ⟨a,ks,rfl,k1,?_⟩
    rw[<-k2.length];exact fin
   ·cases e
  | _=>simp only[kN] at e;cases e
theorem Ih(hc:X.calm=true):cJ X (.builtin "min") (CS (bd X cl) EX .min):=by
 intro pins s σ H xs us Q I rr hh
 obtain⟨ρ,h,vs,r,hv,p⟩:=hh
 have seq:∀v,vs=[v]->Post (bd X cl) EX ρ H (WV X.K Q) (bnd (ask fun h=>cV h v) (fun xs=>bw ((aQ xs).bind rT)) h)->wpAny (model X.prog X.w) X.A (call (.builtin "min") us) (EP X pins σ Q) X.xe s:=by
  rintro v rfl p
  obtain⟨zs,e,p⟩:=aA p
  obtain⟨x,rfl,hx⟩:=ay.one hv
  obtain⟨a,ys,rfl,q1,q2⟩:=v7 r hx e
  obtain⟨m,e1,p⟩:=cC r p
  obtain⟨ns,e2,e3⟩:=Option.bind_eq_some_iff.mp e1
  rw[eZ e2] at q2
  rw[ay.ints.mp q2] at q1
  have hne:0<ns.length:=by cases ns with|nil=>cases e3|cons _ _=>simp
  refine rO hc pins s σ H _ us Q I rr ⟨a,ns,rfl,q1,hne,fun m hm hmin=>?_⟩
  rw[zk hm hmin] at e3;cases e3
  exact p _ VR.int
 match vs,p with
 | [.int a,.int b],p =>
  obtain⟨x,y,rfl,hx,hy⟩:=ay.two hv
  rw[VR] at hx;rw[VR] at hy;subst hx;subst hy
  exact yJ hc pins s σ H _ us Q I rr ⟨a,b,rfl,ai r p _ VR.int⟩
 | [v],p=>exact seq v rfl (by cases v<;>exact p)
theorem Ii(hc:X.calm=true):cJ X (.builtin "max") (CS (bd X cl) EX .max):=by
 intro pins s σ H xs us Q I rr hh
 obtain⟨ρ,h,vs,r,hv,p⟩:=hh
 have seq:∀v,vs=[v]->Post (bd X cl) EX ρ H (WV X.K Q) (bnd (ask fun h=>cV h v) (fun xs=>bw ((aQ xs).bind rV)) h)->wpAny (model X.prog X.w) X.A (call (.builtin "max") us) (EP X pins σ Q) X.xe s:=by
  rintro v rfl p
  obtain⟨zs,e,p⟩:=aA p
  obtain⟨x,rfl,hx⟩:=ay.one hv
  obtain⟨a,ys,rfl,q1,q2⟩:=v7 r hx e
  obtain⟨m,e1,p⟩:=cC r p
  obtain⟨ns,e2,e3⟩:=Option.bind_eq_some_iff.mp e1
  rw[eZ e2] at q2
  rw[ay.ints.mp q2] at q1
  have hne:0<ns.length:=by cases ns with|nil=>cases e3|cons _ _=>simp
  refine rP hc pins s σ H _ us Q I rr ⟨a,ns,rfl,q1,hne,fun m hm hmin=>?_⟩
  rw[zl hm hmin] at e3;cases e3
  exact p _ VR.int
 match vs,p with
 | [.int a,.int b],p =>
  obtain⟨x,y,rfl,hx,hy⟩:=ay.two hv
  rw[VR] at hx;rw[VR] at hy;subst hx;subst hy
  exact yI hc pins s σ H _ us Q I rr ⟨a,b,rfl,ai r p _ VR.int⟩
 | [v],p=>exact seq v rfl (by cases v<;>exact p)
theorem zp:cJ X (.builtin "sorted") (CS (bd X cl) EX .sorted):=by
 intro pins s σ H xs us Q I rr hh
 obtain⟨ρ,h,vs,r,hv,p⟩:=hh
 match vs,p with
 | [v],p =>
  obtain⟨zs,e,p⟩:=aA p
  obtain⟨out,e1,p⟩:=bJ p
  obtain⟨x,rfl,hx⟩:=ay.one hv
  obtain⟨a,ys,rfl,q1,q2⟩:=eB r hx e
  unfold fq at e1
  split at e1
  ·rename_i h64
   cases e2:aQ zs with
   | some ns =>
    rw[e2] at e1
    cases e1
    rw[eZ e2] at q2 h64
    rw[ay.ints.mp q2] at q1
    rw[List.length_map] at h64
    exact lK pins s σ H _ us Q I rr ⟨a,ns,rfl,q1,h64,fun l hl=>bX r hl (ay.ints.mpr rfl) p⟩
   | none =>
    rw[e2] at e1
    obtain⟨m9,e3,e4⟩:=Option.bind_eq_some_iff.mp e1
    cases e4
    obtain⟨g1,g2⟩:=qJ e3
    rw[g1] at q2 h64
    obtain⟨rs,r1,r2,r3⟩:=ay.tups q2
    rw[r1] at q1
    rw[List.length_map,r2,List.length_map] at h64
    refine lM pins s σ H _ us Q I rr ⟨a,rs,rfl,q1,h64,fun p hp=>⟨r3 p hp,g2 _ (by rw[r2];exact List.mem_map_of_mem hp)⟩,fun l qs hl hp hs=>?_⟩
    have e4:qs.map (·.2)=kK m9:=Bb (by rw[r2];exact hp.map _) (List.pairwise_map.mpr hs)
    rw[<-e4] at p
    exact bX r hl (ay.xD fun z hz=>r3 z (hp.mem_iff.mp hz)) p
  ·cases e1
theorem Ea:cJ X (.type "list") (CS (bd X cl) EX .list):=by
 intro pins s σ H xs us Q I rr hh
 obtain⟨ρ,h,vs,r,hv,p⟩:=hh
 match vs,p with
 | [v],p =>
  obtain⟨zs,e,p⟩:=aA p
  obtain⟨x,rfl,hx⟩:=ay.one hv
  obtain⟨a,ys,rfl,q1,q2⟩:=v7 r hx e
  exact rJ pins s σ H _ us Q I rr ⟨a,ys,rfl,q1,fun l hl=>bX r hl q2 p⟩
theorem Bg:cJ X (.type "tuple") (CS (bd X cl) EX .tuple):=by
 intro pins s σ H xs us Q I rr hh
 obtain⟨ρ,h,vs,r,hv,p⟩:=hh
 exact(show False from p).elim
theorem Ij:cJ X (.type "str") (CS (bd X cl) EX .str):=by
 intro pins s σ H xs us Q I rr hh
 obtain⟨ρ,h,vs,r,hv,p⟩:=hh
 exact(show False from p).elim
theorem Il:cJ X (.type "int") (CS (bd X cl) EX .int):=by
 intro pins s σ H xs us Q I rr hh
 obtain⟨ρ,h,vs,r,hv,p⟩:=hh
 match vs,p with
 | [.int i],p =>
  obtain⟨x,rfl,hx⟩:=ay.one hv
  rw[VR] at hx;subst hx
  exact qj pins s σ H _ us Q I rr (.inl ⟨i,rfl,ai r p _ VR.int⟩)
 | [.bl i],p =>
  obtain⟨x,rfl,hx⟩:=ay.one hv
  rw[VR] at hx;subst hx
  exact qj pins s σ H _ us Q I rr (.inr ⟨i,rfl,ai r p _ VR.int⟩)
theorem Im(hc:X.calm=true):cJ X (.builtin "all") (CS (bd X cl) EX .all):=by
 intro pins s σ H xs us Q I rr hh
 obtain⟨ρ,h,vs,r,hv,p⟩:=hh
 exact(show False from p).elim
theorem Io(hc:X.calm=true):cJ X (.builtin "any") (CS (bd X cl) EX .any):=by
 intro pins s σ H xs us Q I rr hh
 obtain⟨ρ,h,vs,r,hv,p⟩:=hh
 exact(show False from p).elim
noncomputable def UJ(B:Bd)(EX:Nat->List V->Hp->Prop)(T:String):List V->Hp->VK->Prop:=fun xs H Q=>∃ρ h v x,xs=[x,.ty T]/\HR B ρ h H/\VR B.K ρ H v x/\Post B EX ρ H (WV B.K Q) (blt (.isin T) [v] h)
theorem Eb(K:PySem.W.Frag)(t T:String)(ht:t∈["NoneType","bool","int","str","list","tuple","dict"])(hT:T∈["list","tuple","str","bool","int","dict"]) :
  PySem.W.kitOne K (.type t) (.type T)=some (decide (T=t\/(T = "int" /\ t = "bool"))):=by
 simp only[List.mem_cons,List.not_mem_nil,or_false] at ht hT
 rcases ht with rfl|rfl|rfl|rfl|rfl|rfl|rfl<;>rcases hT with rfl|rfl|rfl|rfl|rfl|rfl<;>rfl
theorem Ec{T:String}:cJ X (.builtin "isinstance") (UJ (bd X cl) EX T):=by
 intro pins s σ H xs us Q I rr hh
 obtain⟨ρ,h,v,x,rfl,r,hx,p⟩:=hh
 obtain⟨u,w',rfl,r1,r2⟩:=vals2 rr
 cases r2
 obtain⟨t,e,p⟩:=aA p
 obtain⟨b,e1,p⟩:=bJ p
 have q:=ai r p _ VR.bl
 unfold t9 at e1
 split at e1
 ·rename_i UK
  have hT:T∈["list","tuple","str","bool","int","dict"]:=by simpa using UK
  cases e1
  have fin:∀tk,EP X pins σ Q (.bool (decide (T=t\/(T = "int" /\ t = "bool")))) { s with toks:=tk }:=fun tk=>⟨.bl _,H,I.tok _,rfl,q⟩
  have tab:=fun ht=>Eb X.K t T ht hT
  cases v with
  | non=>rw[VR] at hx;subst hx;cases r1;simp only[t8] at e;cases e;exact PySem.W.kia_one PySem.W.kitx_none I.lD True.intro (tab (by simp)) (fun z=>nomatch z) fin
  | bl c=>rw[VR] at hx;subst hx;cases r1;simp only[t8] at e;cases e;exact PySem.W.kia_one PySem.W.kitx_bool I.lD True.intro (tab (by simp)) (fun z=>nomatch z) fin
  | int i=>rw[VR] at hx;subst hx;obtain⟨t',rfl⟩:=r1;simp only[t8] at e;cases e;exact PySem.W.kia_one PySem.W.kitx_int I.lD True.intro (tab (by simp)) (fun z=>nomatch z) fin
  | str i=>rw[VR] at hx;subst hx;obtain⟨t',rfl⟩:=r1;simp only[t8] at e;cases e;exact PySem.W.kia_one PySem.W.kitx_str I.lD True.intro (tab (by simp)) (fun z=>nomatch z) fin
  | tup vs =>
   rw[VR] at hx
   obtain⟨a,ys,rfl,q1,_⟩:=hx
   cases r1
   simp only[t8] at e;cases e
   obtain⟨_,_,⟨o,e1,e2,_⟩,_⟩:=I.tuple q1
   exact PySem.W.kia_one PySem.W.kitx_tuple I.lD ⟨o,e1,e2⟩ (tab (by simp)) (fun z=>nomatch z) fin
  | rl vs =>
   rw[VR] at hx
   obtain⟨a,ys,rfl,q1,_⟩:=hx
   cases r1
   simp only[t8] at e;cases e
   obtain⟨_,_,⟨o,n,e1,e2,_⟩,_⟩:=I.list q1.sq
   exact PySem.W.kia_one PySem.W.kitx_list I.lD ⟨o,e1,e2⟩ (tab (by simp)) (fun z=>nomatch z) fin
  | dc _ _=>rw[VR] at hx;exact hx.elim
  | ob _ _ _=>rw[VR] at hx;exact hx.elim
  | ref i =>
   rw[VR] at hx
   obtain⟨a,rfl,q1⟩:=hx
   cases r1
   simp only[t8] at e
   split at e
   ·rename_i vs e1;cases e
    obtain⟨ys,k1,k2⟩:=r.ob i _ a e1 q1
    obtain⟨_,_,⟨o,n,e1,e2,_⟩,_⟩:=I.list (xs:=ys) (.inl (.inl k1))
    exact PySem.W.kia_one PySem.W.kitx_list I.lD ⟨o,e1,e2⟩ (tab (by simp)) (fun z=>nomatch z) fin
   ·rename_i vs e1;cases e
    obtain⟨ks,k1,k2⟩:=r.ob i _ a e1 q1
    obtain⟨_,_,vs,_,p⟩:=(show bI X.prog X.w H s.heap a (.dK ks) from I.hok a _ k1)
    obtain⟨o,es,ep,h1,h2,_⟩:=p
    exact PySem.W.kia_one PySem.W.kitx_dict I.lD ⟨o,h1,h2.1⟩ (tab (by simp)) (fun z=>nomatch z) fin
   ·cases e
 ·cases e1
noncomputable def Ol(B:Bd)(EX:Nat->List V->Hp->Prop)(m:Me):V->List V->Hp->VK->Prop:=fun x xs H Q=>∃ρ h v vs,HR B ρ h H/\VR B.K ρ H v x/\ay B.K ρ H vs xs/\Post B EX ρ H (WV B.K Q) (met m v vs h)
theorem Ed:Lx X "str.join" (Ol (bd X cl) EX .join):=by
 intro pins s σ H x xs u us Q I ru rr hh
 obtain⟨ρ,h,v,vs,r,hv,hvs,p⟩:=hh
 exact(show False from p).elim
theorem ug{B:Bd}{ρ:List Addr}{h:Hs}{H:Hp}{Q:VK}{i:Nat}{a:Addr}{o u:Ob}{O U:HO}(r:HR B ρ h H)(hi:ρ[i]?=some a)(e:h[i]?=some u)(eU:H a=some U)(hm:Mu U=true)(q:OR B ρ (upd H a O) a o)
  (p:Post B EX ρ H (WV B.K Q) (bnd (put i o) (fun _=>ret Val.non) h)):Q .non (upd H a O) :=
 p ρ (upd H a O) (Gr.put (List.mem_of_getElem? hi) eU hm) (r.put hi e q) _ VR.non
theorem zq:Lx X "list.append" (Ol (bd X cl) EX .append):=by
 intro pins s σ H x xs v' us Q I rx rv hh
 obtain⟨ρ,h,v,vs,r,hv,hvs,p⟩:=hh
 match v,vs,p with
 | .ref i,[w],p =>
  obtain⟨zs,e,p⟩:=aA p
  split at e
  ·rename_i zs' e1;cases e
   obtain⟨e2,p⟩:=aI p
   obtain⟨a,ys,rfl,q0,q1,q2⟩:=jO r hv e1
   obtain⟨y,rfl,hy⟩:=ay.one hvs
   refine qq pins s σ H _ _ v' us Q I rx rv ⟨a,ys,y,rfl,rfl,q1,by rw[<-q2.length];exact of_decide_eq_true e2,?_⟩
   have g:Gr ρ H ρ (upd H a (.lst (ys++[y]))):=Gr.put (List.mem_of_getElem? q0) q1 rfl
   exact ug (o:=.lst (zs++[w])) r q0 e1 q1 rfl ⟨_,aM,ay.append (ay.up g _ _ q2) (ay.up g _ _ (ay.cons hy ay.nil))⟩ p
  ·cases e
theorem zu:Lx X "list.extend" (Ol (bd X cl) EX .extend):=by
 intro pins s σ H x xs v' us Q I rx rv hh
 obtain⟨ρ,h,v,vs,r,hv,hvs,p⟩:=hh
 match v,vs,p with
 | .ref i,[w],p =>
  obtain⟨zs,e,p⟩:=aA p
  split at e
  ·rename_i zs' e1;cases e
   obtain⟨ws,e3,p⟩:=aA p
   obtain⟨e2,p⟩:=aI p
   have e2:=of_decide_eq_true e2
   obtain⟨a,ys,rfl,q0,q1,q2⟩:=jO r hv e1
   obtain⟨y,rfl,hy⟩:=ay.one hvs
   have fin:∀(bs:List V),ay X.K ρ H ws bs->Q .non (upd H a (.lst (ys++bs))):=fun bs hb=>by
    have g:Gr ρ H ρ (upd H a (.lst (ys++bs))):=Gr.put (List.mem_of_getElem? q0) q1 rfl
    exact ug (o:=.lst (zs++ws)) r q0 e1 q1 rfl ⟨_,aM,ay.append (ay.up g _ _ q2) (ay.up g _ _ hb)⟩ p
   cases w with
   | tup ts =>
    simp only[t7] at e3;cases e3
    rw[VR] at hy
    obtain⟨b,bs,rfl,k1,k2⟩:=hy
    exact vR pins s σ H _ _ v' us Q I rx rv ⟨a,b,ys,bs,rfl,rfl,q1,k1,by rw[<-q2.length,<-k2.length];exact e2,fin bs k2⟩
   | ref j =>
    simp only[t7,aB] at e3
    split at e3
    ·rename_i ts e4;cases e3
     obtain⟨b,bs,rfl,k0,k1,k2⟩:=jO r hy e4
     exact yO pins s σ H _ _ v' us Q I rx rv ⟨a,b,ys,bs,rfl,rfl,q1,k1,by rw[<-q2.length,<-k2.length];exact e2,fin bs k2⟩
    ·cases e3
   | _=>simp only[t7] at e3;cases e3
  ·cases e
end
end Hv
end
section
namespace Hv
open PySem L2 PyProof.Rows
structure Tb where
 nc:Nat
 Ef:List Str
 Eg:List (Nat×Str×Nat)
 CT:List (Str×Str×Nat)
 isc:List (Str×List Bool)
structure ng where
 N:List Str
 sc:Scope
 fns:List (Str×Nat)
 cons:List (Str×Val)
 tb:Tb
noncomputable def nh(sc:Scope)(x:Str):Bool:=(sc.names.lookup x==some .local||sc.names.lookup x==some .cell||sc.names.lookup x==some .free) && !(x==("__debug__":Str)) && !(x==("__classdict__":Str))
noncomputable def v9(sc:Scope)(x:Str):Bool:=sc.names.lookup x==some .globalImplicit && !(x==("__debug__":Str)) && !(x==("__name__":Str))
noncomputable def Bh:Const->Val->Bool
 | .none,.non=>true
 | .bool a,.bl b=>a==b
 | .int a,.int b=>a==b
 | .str a,.str b=>a==b
 | _,_=>false
noncomputable def Ip(o:rR)(op:Operator):Bool:=decide (op=v8 o)
noncomputable def LZ(o:xB)(op:CmpOp):Bool:=decide (op=xG o)
noncomputable def Ma:Bl->Str
 | .len=>"len" | .min=>"min" | .max=>"max" | .sorted=>"sorted" | .list=>"list" | .tuple=>"tuple" | .str=>"str" | .int=>"int" | .all=>"all" | .any=>"any" | .isin _=>"isinstance"
noncomputable def noStar:Expr->Bool
 | .Starred ..=>false
 | _=>true
noncomputable def nD:Expr->Bool
 | .Slice ..=>false
 | _=>true
noncomputable def Eh:Expr->Bool
 | .Name ..=>true|.Call ..=>true|.Subscript ..=>true|.List ..=>true|.Tuple ..=>true|.ListComp ..=>true|.Attribute ..=>true|.BinOp ..=>true
 | _=>false
noncomputable def superB:Expr->Bool
 | .Call (.Name _ _) [] [] _=>false
 | _=>true
noncomputable def FY(scope xsc:Scope):Scope :=
 { scope with names:=scope.names.map fun(n,k)=>if (k==.free&&xsc.kind==.function&&xsc.names.lookup n==some .cell) then (n,.cell) else (n,k) }
noncomputable def ng.rX(Γ:ng)(scope:Scope)(N':List Str):ng:={ Γ with N:=N',sc:=FY scope Γ.sc }
noncomputable def uh(Γ:ng):jV->Expr->Bool
 | .one i,.Name x _=>Γ.N[i]?==some x && Γ.sc.names.lookup x==some .local
 | .tup is,.Tuple es _ _=>es.length==is.length&&(is.zip es).all fun p=>match p.2 with
  | .Name x _=>Γ.N[p.1]?==some x && Γ.sc.names.lookup x==some .local
  | _=>false
 | _,_=>false
noncomputable def um:jV->List Nat
 | .one i=>[i]
 | .tup is=>is
noncomputable def UL:Me->Str
 | .join=>"join" | .append=>"append" | .extend=>"extend"
noncomputable def wc:Val->Val->Bool
 | .non,.non=>true
 | .bl a,.bl b=>a==b
 | .int a,.int b=>a==b
 | .str a,.str b=>a==b
 | _,_=>false
noncomputable def Mb(Γ:ng)(N':List Str)(js:List (Option Nat))(p q i j:Nat):Expr->Bool
 | .ListComp (.Name y1 _) [⟨.Name y2 yp,.Name dn _,[.Compare (.Name y3 _) [.NotIn] [.Name en ep] _],ia⟩] scope _=>ia==0&&fR Γ.N Γ.sc scope N' js&&decide (N'.Nodup)&&uh (Γ.rX scope N') (.one p) (.Name y2 yp)&&js[p]?==some none&&js[q]?==some (some j)&&p != q && !behindInMarks .NotIn (.Name en ep) &&
   (N'[p]?==some y1&&nh (Γ.rX scope N').sc y1)&&(N'[p]?==some y3&&nh (Γ.rX scope N').sc y3)&&(N'[q]?==some en&&nh (Γ.rX scope N').sc en)&&(Γ.N[i]?==some dn&&nh Γ.sc dn)
 | _=>false
mutual
noncomputable def aJ(Γ:ng):IE->Expr->Bool
 | .var i,e=>match e with
  | .Name x _=>Γ.N[i]?==some x&&nh Γ.sc x
  | _=>false
 | .cst d,e=>match e with
  | .Constant c _ _=>Bh c d
  | _=>false
 | .con x d,e=>match e with
  | .Name y _=>x==y&&v9 Γ.sc x && Γ.cons.any fun p=>p.1==x&&wc p.2 d
  | _=>false
 | .no,_=>false
 | .bin o a b,e=>match e with
  | .BinOp l op r _=>Ip o op&&aJ Γ a l&&aJ Γ b r
  | _=>false
 | .neg a,e=>match e with
  | .UnaryOp .USub l _=>aJ Γ a l
  | _=>false
 | .cmp o a b,e=>match e with
  | .Compare l [op] [r] _=>LZ o op && !behindInMarks op r&&aJ Γ a l&&aJ Γ b r
  | _=>false
 | .chn _ _ _ _ _,_=>false
 | .and a b,e=>match e with
  | .BoolOp .And (l::m::r) pos=>aJ Γ a l&&(match r with|[]=>aJ Γ b m|n::r'=>aJ Γ b (.BoolOp .And (m::n::r') pos))
  | _=>false
 | .or a b,e=>match e with
  | .BoolOp .Or (l::m::r) pos=>aJ Γ a l&&(match r with|[]=>aJ Γ b m|n::r'=>aJ Γ b (.BoolOp .Or (m::n::r') pos))
  | _=>false
 | .not a,e=>match e with
  | .UnaryOp .Not l _=>aJ Γ a l
  | _=>false
 | .ite _ _ _,_=>false
 | .tup es,e=>match e with
  | .Tuple ls _ _=>aK Γ es ls
  | _=>false
 | .lst es,e=>match e with
  | .List ls _=>aK Γ es ls
  | _=>false
 | .idx a b,e=>match e with
  | .Subscript l r _=>nD r&&aJ Γ a l&&aJ Γ b r
  | _=>false
 | .slc a lo hi,e=>match e with
  | .Subscript l (.Slice l' h' none _) _=>aJ Γ a l&&(match l' with|none=>cH lo|some e=>!cH lo&&aJ Γ lo e)&&(match h' with|none=>cH hi|some e=>!cH hi&&aJ Γ hi e)
  | _=>false
 | .call j es,e=>match e with
  | .Call (.Name x _) args [] _=>v9 Γ.sc x && Γ.fns[j]?==some (x,args.length)&&decide (args.length<1000)&&aK Γ es args
  | .Call (.Attribute (.Name x _) m ap) args [] cp=>v9 Γ.sc x && Γ.tb.CT.contains (x,m,j)&&(match Γ.fns[j]? with|some (_,n)=>n==1000+args.length|none=>false)&&decide (args.length<29)&&ap.endLine==cp.line&&aK Γ es args && !args.isEmpty
  | _=>false
 | .blt b es,e=>match e with
  | .Call (.Name x _) args [] _=>v9 Γ.sc x&&x==Ma b&&(match b with
   | .isin T=>(match args with|[a,.Name y _]=>v9 Γ.sc y&&y==(T:Str)&&["list","tuple","str","bool","int","dict"].contains T&&aK Γ es [a]|_=>false)
   | _=>!args.isEmpty&&aK Γ es args)
  | _=>false
 | .met m a es,e=>match e with
  | .Call (.Attribute o x ap) args [] cp=>x==UL m&&superB o && !args.isEmpty&&decide (args.length<29)&&ap.endLine==cp.line&&aJ Γ a o&&aK Γ es args
  | _=>false
 | .comp N' js pat k it c elt,e=>match e with
  | .ListComp e [⟨tg,iter,ifs,0⟩] scope _=>fR Γ.N Γ.sc scope N' js&&uo Γ k it iter&&decide (N'.Nodup)&&uh (Γ.rX scope N') pat tg&&((um pat).all fun i=>js[i]?==some none)&&(match k,pat with|.enum,.one _=>false|.zip,.one _=>false|_,_=>true) &&
   (match ifs with|[]=>cH c|[t]=>!cH c&&aJ (Γ.rX scope N') c t|_=>false)&&aJ (Γ.rX scope N') elt e
  | _=>false
 | .dct0,e=>match e with
  | .Dict [] [] _=>true
  | _=>false
 | .sset a,e=>match e with
  | .Call (.Name x _) [.Call (.Name y _) [l] [] _] [] _=>x==("sorted":Str)&&y==("set":Str)&&v9 Γ.sc x&&v9 Γ.sc y&&noStar l&&aJ Γ a l
  | _=>false
 | .dget d k x,e=>match e with
  | .Call (.Attribute o m ap) [a,b] [] cp=>m==("get":Str)&&superB o&&noStar a&&noStar b&&ap.endLine==cp.line&&aJ Γ d o&&aJ Γ k a&&aJ Γ x b
  | _=>false
 | .dct1 k v,e=>match e with
  | .Dict [some a] [b] _=>aJ Γ k a&&aJ Γ v b
  | _=>false
 | .lkeys d,e=>match e with
  | .Call (.Name x _) [.Name y q] [] _=>x==("list":Str)&&v9 Γ.sc x&&aJ Γ d (.Name y q)
  | _=>false
 | .sdef _ _ _,_=>false
 | .svals _,_=>false
 | .skeys d,e=>match e with
  | .Call (.Name x _) [.Name y q] [] _=>x==("sorted":Str)&&v9 Γ.sc x&&aJ Γ d (.Name y q)
  | _=>false
 | .fld n a x,e=>match e with
  | .Attribute o y _=>x==y&&superB o&&n == Γ.tb.nc && Γ.tb.Ef.contains x&&aJ Γ a o
  | _=>false
 | .rev a s,e=>match e with
  | .Subscript l (.Slice none none st _) _=>aJ Γ a l&&st.isSome&&(match st with|none=>cH s|some e=>!cH s&&aJ Γ s e)
  | _=>false
 | .dflt N' js p q d w,e=>match d,w with
  | .var i,.var j=>Mb Γ N' js p q i j e
  | _,_=>false
 | .isc _ _ _,_=>false
 | .mth a m js es,e=>match e with
  | .Call (.Attribute o x ap) args [] cp=>x==m&&superB o&&decide (args.length<29)&&ap.endLine==cp.line&&(js.all fun p=>decide (p.1 < Γ.tb.nc) && Γ.tb.Eg.contains (p.1,m,p.2)&&(match Γ.fns[p.2]? with|some (_,n)=>n==1001+args.length|none=>false))&&aJ Γ a o&&aK Γ es args
  | _=>false
noncomputable def aK(Γ:ng):eO->List Expr->Bool
 | .nil,ls=>ls.isEmpty
 | .cons e es,ls=>match ls with
  | l::ls=>noStar l&&aJ Γ e l&&aK Γ es ls
  | []=>false
noncomputable def uo(Γ:ng)(k:Ik):eO->Expr->Bool
 | .nil,_=>false
 | .cons e es,l=>match k with
  | .seq=>(match es with|.nil=>Eh l&&aJ Γ e l|_=>false)
  | .range=>(match l with|.Call (.Name x _) (a::args) [] _=>x==("range":Str)&&v9 Γ.sc x&&noStar a&&aJ Γ e a&&aK Γ es args&&decide (args.length<2)|_=>false)
  | .enum=>(match es,l with|.nil,.Call (.Name x _) [a] [] _=>x==("enumerate":Str)&&v9 Γ.sc x&&noStar a&&aJ Γ e a|_,_=>false)
  | .zip=>false
end
noncomputable abbrev Fn:=Nat->List Val->M Val
noncomputable def cR(K:PySem.W.Frag)(ρ:List Addr)(env:Env)(σ:L2.St)(H:Hp):Prop:=∀(i:Nat) (v:Val),env[i]?=some (some v)->∃x,σ[i]?=some (some x)/\VR K ρ H v x
theorem cR.jW{K:PySem.W.Frag}{ρ ρ':List Addr}{env:Env}{σ:L2.St}{H H':Hp}(e:cR K ρ env σ H)(g:Gw ρ H ρ' H'):cR K ρ' env σ H':=fun i v q=>by
 obtain⟨x,q1,q2⟩:=e i v q
 exact⟨x,q1,VR.jW g v x q2⟩
theorem cR.up{K:PySem.W.Frag}{ρ ρ':List Addr}{env:Env}{σ:L2.St}{H H':Hp}(e:cR K ρ env σ H)(g:Gr ρ H ρ' H'):cR K ρ' env σ H':=e.jW g.w
noncomputable def UM(K:PySem.W.Frag)(Q:List V->Hp->Prop):List Val->Hs->List Addr->Hp->Prop:=fun vs _ ρ' H'=>∀xs,ay K ρ' H' vs xs->Q xs H'
noncomputable def WT(Q:Bool->Hp->Prop):Bool->Hs->List Addr->Hp->Prop:=fun b _ _ H'=>Q b H'
noncomputable def KD(Φ:Fn)(ir:IE)(env:Env):M Bool:=bnd (aG Φ ir env) fun x=>ask fun h=>dj h x
noncomputable def tV(Φ:Fn)(B:Bd)(EX:Nat->List V->Hp->Prop)(ir:IE):TE:=fun σ H Q=>∃ρ env h,cR B.K ρ env σ H/\HR B ρ h H/\Post B EX ρ H (WV B.K Q) (aG Φ ir env h)
noncomputable def Sz(Φ:Fn)(B:Bd)(EX:Nat->List V->Hp->Prop)(dR:eO):TA:=fun σ H Q=>∃ρ env h,cR B.K ρ env σ H/\HR B ρ h H/\Post B EX ρ H (UM B.K Q) (aR Φ dR env h)
noncomputable def tT(Φ:Fn)(B:Bd)(EX:Nat->List V->Hp->Prop)(ir:IE):TT:=fun σ H Q=>∃ρ env h,cR B.K ρ env σ H/\HR B ρ h H/\Post B EX ρ H (WT Q) (KD Φ ir env h)
theorem _root_.L2.PE.imp{X:Cx}{e:Expr}{t t':TE}(h:PE X e t)(i:∀σ H Q,t' σ H Q->t σ H Q):PE X e t':=fun pins s σ H Q I hw=>h pins s σ H Q I (i σ H Q hw)
theorem _root_.L2.PT.imp{X:Cx}{e:Expr}{t t':TT}(h:PT X e t)(i:∀σ H Q,t' σ H Q->t σ H Q):PT X e t':=fun pins s σ H Q I hw=>h pins s σ H Q I (i σ H Q hw)
theorem _root_.L2.PA.imp{X:Cx}{es:List Expr}{t t':TA}(h:PA X es t)(i:∀σ H Q,t' σ H Q->t σ H Q):PA X es t':=fun pos pins s σ H Q I hw=>h pos pins s σ H Q I (i σ H Q hw)
theorem _root_.L2.PO.imp{X:Cx}{e:Option Expr}{t t':TO}(h:PO X e t)(i:∀σ H Q,t' σ H Q->t σ H Q):PO X e t':=fun pins s σ H Q I hw=>h pins s σ H Q I (i σ H Q hw)
theorem _root_.L2.PI.imp{X:Cx}{tg iter:Expr}{t t':TI}(h:PI X tg iter t)(i:∀σ H R,t' σ H R->t σ H R):PI X tg iter t':=fun pins s σ H R I hw=>h pins s σ H R I (i σ H R hw)
theorem aS{α β γ:Type}(m:M α)(f:α -> M β)(g:β -> M γ):bnd (bnd m f) g=bnd m fun x=>bnd (f x) g:=by
 funext h
 show (match (match m h with|.ok a h'=>f a h'|.exc c vs h'=>.exc c vs h'|.no=>.no) with|.ok a h'=>g a h'|.exc c vs h'=>.exc c vs h'|.no=>.no)=(match m h with|.ok a h'=>bnd (f a) g h'|.exc c vs h'=>.exc c vs h'|.no=>.no)
 cases m h<;>rfl
theorem cK{α β:Type}(a:α)(f:α -> M β):bnd (ret a) f=f a:=rfl
noncomputable def rY(B:Bd)(n:Nat)(φ:List Val->M Val):Sp:=fun xs H Q _=>∃ρ h vs,vs.length=n/\HR B ρ h H/\ay B.K ρ H vs xs/\Post B (fun _ _ _=>False) ρ H (WV B.K Q) (φ vs h)
noncomputable def KG(P:Program)(w:World)(B:Bd)(mg:Str->Option Value)(base:Heap)(k:Nat)(j:Nat)(x:Str)(n:Nat)(φ:List Val->M Val):Prop :=
 (n<1000/\((∃(f:Addr) (fd:FuncData) (ps:List Str),ps.length=n/\mg x=some (.ref f)/\PySem.W.keepIn B.K (.ref f)=true/\Binds B.K fd ps []/\eW P w B.K mg base ve k f fd ps (rY B n φ)) \/
  ∃(c:Nat) (f:Addr) (fd:FuncData) (ps:List Str) (φ0:List Val->M Val),φ = HX c φ0/\ps.length=n+1/\mg x=some (.ref (B.cl c))/\Mk B.K (B.cl c) f/\Binds B.K fd ps []/\eW P w B.K mg base ve k f fd ps (rY B (n+1) φ0))) \/
 (1000<=n/\∃(fd:FuncData) (ps:List Str),ps.length=n-1000/\Binds B.K fd ps []/\eW P w B.K mg base ve k (B.cl (1000+j)) fd ps (rY B (n-1000) φ))
noncomputable def f9:List Str:=["len","min","max","sorted","list","tuple","str","all","any","isinstance","range","enumerate","int","bool","dict","set","zip"]
structure Ctx (Φ:Fn) (Γ:ng) (k:Nat) (X:Cx) (cl:Nat->Addr) (EX:Nat->List V->Hp->Prop):Prop where
 N:X.N = Γ.N
 sc:X.env.scope = Γ.sc
 calm:X.calm=true
 room:cX (k+1) X.A
 kh:∀c xs H,¬ EX c xs H
 fns:∀j x n,Γ.fns[j]?=some (x,n)->KG X.prog X.w (bd X cl) X.mg X.base k j x n (Φ j)
 cls:∀c,c < Γ.tb.nc->z4 X.K (cl c)/\∀x ∈ Γ.tb.Ef,jf X.K (cl c) x
 Eg:∀p ∈ Γ.tb.Eg,Meth X.K (cl p.1) p.2.1 (cl (1000+p.2.2))
 CT:∀p ∈ Γ.tb.CT,∃C,X.mg p.1=some (.ref C)/\HU X.K C p.2.1 (cl (1000+p.2.2))
 isc:∀p ∈ Γ.tb.isc,∃C,X.mg p.1=some (.ref C)/\∀c b,p.2[c]?=some b->Sx X.K (cl c)/\PySem.W.kitOne X.K (.ref (cl c)) (.ref C)=some b
 cons:∀p ∈ Γ.cons,∃v u,X.mg p.1=some u/\RelV v u/\∀K ρ H,VR K ρ H p.2 v
 blt:∀x∈f9,X.mg x=none
section
variable {Φ:Fn} {Γ:ng} {k:Nat} {X:Cx} {cl:Nat->Addr} {EX:Nat->List V->Hp->Prop}
theorem Ctx.units(c:Ctx Φ Γ k X cl EX):X.A.units+64<cLine:=c.room.units
theorem Ctx.vis(c:Ctx Φ Γ k X cl EX){x:Str}(h:nh Γ.sc x=true):KW X.env.scope x/\(x==("__debug__":Str))=false/\(x==("__classdict__":Str))=false:=by
 unfold nh at h
 simp only[Bool.and_eq_true,Bool.or_eq_true,beq_iff_eq,Bool.not_eq_true'] at h
 obtain⟨⟨h1,h2⟩,h3⟩:=h
 refine⟨?_,h2,h3⟩
 unfold KW
 rw[c.sc]
 rcases h1 with (z|z)|z
 ·exact .inl z
 ·exact .inr (.inl z)
 ·exact .inr (.inr z)
theorem Ctx.gl(c:Ctx Φ Γ k X cl EX){x:Str}(h:v9 Γ.sc x=true):Gl X x/\(x==("__debug__":Str))=false/\x ≠ "__name__":=by
 unfold v9 at h
 simp only[Bool.and_eq_true,beq_iff_eq,Bool.not_eq_true'] at h
 obtain⟨⟨h1,h2⟩,h3⟩:=h
 refine⟨?_,h2,fun z=>by rw[z] at h3;simp at h3⟩
 show X.env.scope.names.lookup x=_
 rw[c.sc];exact h1
theorem Ctx.rX(c:Ctx Φ Γ k X cl EX)(scope:Scope)(N':List Str)(cls:List (Str×Addr))(C:Addr)(s:Shared)(H:Hp)(fp:List Addr):Ctx Φ (Γ.rX scope N') k (bg X scope N' cls C s H fp) cl EX:=by
 refine⟨rfl,?_,c.calm,c.room,c.kh,c.fns,c.cls,c.Eg,c.CT,c.isc,c.cons,c.blt⟩
 show relabel scope X.env=FY scope Γ.sc
 rw[<-c.sc];rfl
theorem aT{e:Expr}{es:List Expr}{env:PySem.Env}(h:noStar e=true):starEach (e::es) env=(false,eval e env)::starEach es env:=by
 cases e<;>first|rfl|(simp[noStar] at h)
theorem fB{pos:Pos}{env:PySem.Env}:∀{es:List Expr} {dR:eO},aK Γ dR es=true->(backTo pos (starEach es env)).any (·.1)=false
 | [],_,_=>rfl
 | e::es,.nil,h=>by simp[aK] at h
 | e::es,.cons i dR,h=>by
  simp only[aK,Bool.and_eq_true] at h
  rw[aT h.1.1]
  show (false||(backTo pos (starEach es env)).any (·.1))=false
  rw[fB (dR:=dR) h.2];rfl
theorem oM{pos:Pos}{env:PySem.Env}{es:List Expr}{dR:eO}(h:aK Γ dR es=true):(backTo pos (starEach es env)).all (fun x=>!x.1)=true:=by
 have q:=fB (pos:=pos) (env:=env) h
 rw[List.all_eq_true]
 intro x hx
 have:=List.any_eq_false.mp q x hx
 simpa using this
theorem we{e:Expr}(h:nD e=true):xh e:=by
 intro o i
 cases e<;>first|rfl|(simp[nD] at h)
theorem super_ok{e:Expr}{x:Str}{env:PySem.Env}{whole:Sem Value}(h:superB e=true):attributeBase e x env whole=whole:=by
 cases e<;>first
  | rfl
  | skip
 rename_i f args kws pos
 cases f<;>first
  | rfl
  | skip
 cases args with
 | cons a r=>rfl
 | nil =>
  cases kws with
  | cons a r=>rfl
  | nil=>simp[superB] at h
theorem cu{e:Expr}{ir:IE}(q:PE X e (tV Φ (bd X cl) EX ir))(he:∀whole,isTrue e X.env whole=(do let v <-whole;standAt e.pos;holding [v] (truthy v))):PT X e (tT Φ (bd X cl) EX ir) :=
 (Aj q he).imp fun σ H Q ⟨ρ,env,h,hE,r,p⟩=>⟨ρ,env,h,hE,r,au p fun v h1 ρ1 x H1 g1 r1 q1 p1=>by
  obtain⟨b,e,w⟩:=cQ r1 p1
  exact⟨b,Ib r1 q1 e,w⟩⟩
theorem Ah:Od X (unaryOp .USub) (fun x H Q=>∃i,x=.int i/\Q (.int (-i)) H):=by
 intro pins s σ H x v Q I rx h
 obtain⟨i,rfl,q⟩:=h
 obtain⟨t,rfl⟩:=rx
 exact neg_int ⟨.int (-i),H,I.tok _,⟨_,rfl⟩,q⟩
theorem FZ{op:BoolOp}{vs:List Expr}{pos:Pos}{t:TT}(h:PT X (.BoolOp op vs pos) t):PW X (.BoolOp op vs pos) t:=fun whole pins s σ H Q I hw=>h pins s σ H Q I hw
noncomputable def bV(Φ:Fn)(ir:IE):Prop:=∀(Γ:ng) (k:Nat) (X:Cx) (cl:Nat->Addr) (EX:Nat->List V->Hp->Prop) (e:Expr),Ctx Φ Γ k X cl EX->aJ Γ ir e=true->PE X e (tV Φ (bd X cl) EX ir)/\PT X e (tT Φ (bd X cl) EX ir)
noncomputable def jq(Φ:Fn)(dR:eO):Prop:=(∀(Γ:ng) (k:Nat) (X:Cx) (cl:Nat->Addr) (EX:Nat->List V->Hp->Prop) (es:List Expr),Ctx Φ Γ k X cl EX->aK Γ dR es=true->PA X es (Sz Φ (bd X cl) EX dR))/\match dR with
 | .nil=>True
 | .cons e r=>bV Φ e/\match r with
  | .nil=>True
  | .cons e' _=>bV Φ e'
theorem xK{o:rR}{op:Operator}(h:Ip o op=true):op=v8 o:=of_decide_eq_true h
theorem Ei{o:xB}{op:CmpOp}(h:LZ o op=true):op=xG o:=of_decide_eq_true h
theorem oN{ir:IE}(hs:∀env h,aG Φ ir env h=.no):bV Φ ir:=by
 intro Γ k X cl EX e c h
 exact⟨fun pins s σ H Q I ⟨ρ,env,h,hE,r,p⟩=>by rw[hs] at p;exact p.elim,fun pins s σ H Q I ⟨ρ,env,h,hE,r,p⟩=>by unfold KD bnd at p;rw[hs] at p;exact p.elim⟩
theorem Iq{i:Nat}:bV Φ (.var i):=by
 intro Γ k X cl EX e c h
 rw[aJ.eq_def] at h;dsimp only at h;split at h<;>first|cases h|skip
 rename_i x pos
 simp only[Bool.and_eq_true,beq_iff_eq] at h
 obtain⟨v1,v2,v3⟩:=c.vis h.2
 have q:PE X (.Name x pos) (tV Φ (bd X cl) EX (.var i)):=by
  refine(vn (by rw[c.N];exact h.1) v1 v2 v3).imp fun σ H Q aC=>?_
  obtain⟨ρ,env,h,hE,r,p⟩:=aC
  rw[aG.eq_def] at p;dsimp only at p
  obtain⟨d,e1,w⟩:=cC r p
  split at e1<;>cases e1
  rename_i e1
  obtain⟨x,e2,e3⟩:=hE i d e1
  exact⟨x,e2,w x e3⟩
 exact⟨q,cu q fun _=>rfl⟩
theorem Ir{d:Val}:bV Φ (.cst d):=by
 intro Γ k X cl EX e c h
 rw[aJ.eq_def] at h;dsimp only at h;split at h<;>first|cases h|skip
 rename_i cc j pos
 have q:PE X (.Constant cc j pos) (tV Φ (bd X cl) EX (.cst d)):=by
  unfold Bh at h
  split at h<;>first|cases h|skip
  ·refine GA.imp fun σ H Q aC=>?_
   obtain⟨ρ,env,h,hE,r,p⟩:=aC
   simp only[aG] at p
   exact ai r p _ VR.non
  ·cases eq_of_beq h
   refine K2.imp fun σ H Q aC=>?_
   obtain⟨ρ,env,h,hE,r,p⟩:=aC
   simp only[aG] at p
   exact ai r p _ VR.bl
  ·cases eq_of_beq h
   refine Gz.imp fun σ H Q aC=>?_
   obtain⟨ρ,env,h,hE,r,p⟩:=aC
   simp only[aG] at p
   exact ai r p _ VR.int
  ·cases eq_of_beq h
   refine GB.imp fun σ H Q aC=>?_
   obtain⟨ρ,env,h,hE,r,p⟩:=aC
   simp only[aG] at p
   exact ai r p _ VR.str
 exact⟨q,cu q fun _=>rfl⟩
theorem zw{a b:Val}(h:wc a b=true):a=b:=by
 unfold wc at h
 split at h<;>first|rfl|(cases eq_of_beq h;rfl)|cases h
theorem Iu{x:Str}{d:Val}:bV Φ (.con x d):=by
 intro Γ k X cl EX e c h
 rw[aJ.eq_def] at h;dsimp only at h;split at h<;>first|cases h|skip
 rename_i y pos
 simp only[Bool.and_eq_true,beq_iff_eq] at h
 obtain⟨⟨h1,h2⟩,h3⟩:=h
 subst h1
 obtain⟨g1,g2,g3⟩:=c.gl h2
 obtain⟨p,hp,h4⟩:=List.any_eq_true.mp h3
 simp only[Bool.and_eq_true,beq_iff_eq] at h4
 obtain⟨v,u,m1,m2,m3⟩:=c.cons p hp
 rw[h4.1] at m1
 have q:PE X (.Name x pos) (tV Φ (bd X cl) EX (.con x d)):=by
  refine(Dc g1 m1 m2 g2).imp fun σ H Q aC=>?_
  obtain⟨ρ,env,h,hE,r,p⟩:=aC
  simp only[aG] at p
  exact ai r p _ (by rw[<-zw h4.2];exact m3 _ _ _)
 exact⟨q,cu q fun _=>rfl⟩
theorem Mc:bV Φ .no:=by
 intro Γ k X cl EX e c h
 rw[aJ.eq_def] at h;dsimp only at h;cases h
theorem Bj:jq Φ .nil:=by
 refine⟨fun Γ k X cl EX es c h=>?_,trivial⟩
 rw[aK] at h
 cases es with
 | cons a r=>cases h
 | nil =>
  refine An.imp fun σ H Q aC=>?_
  obtain⟨ρ,env,h,hE,r,p⟩:=aC
  simp only[aR] at p
  exact ai r p _ ay.nil
theorem xM{e:IE}{es:eO}(h1:bV Φ e)(h2:jq Φ es):jq Φ (.cons e es):=by
 refine⟨fun Γ k X cl EX ls c h=>?_,h1,?_⟩
 ·rw[aK.eq_def] at h;dsimp only at h
  cases ls with
  | nil=>cases h
  | cons l ls =>
   simp only[Bool.and_eq_true] at h
   refine(rq (h1 Γ k X cl EX l c h.1.2).1 (h2.1 Γ k X cl EX ls c h.2) (aT h.1.1)).imp fun σ H Q aC=>?_
   obtain⟨ρ,env,h,hE,r,p⟩:=aC
   simp only[aR] at p
   refine⟨ρ,env,h,hE,r,au p fun v h1 ρ1 x H1 g1 r1 q1 p1=>⟨ρ1,env,h1,hE.up g1,r1,bx p1 fun vs h2 ρ2 H2 g2 r2 p2 xs q2=>?_⟩⟩
   exact ai r2 p2 _ (ay.cons (VR.up g2 _ _ q1) q2)
 ·cases es with
  | nil=>trivial
  | cons e' r=>exact h2.2.1
theorem Iv{o:rR}{a b:IE}(ha:bV Φ a)(hb:bV Φ b):bV Φ (.bin o a b):=by
 intro Γ k X cl EX e c h
 rw[aJ.eq_def] at h;dsimp only at h;split at h<;>first|cases h|skip
 rename_i l op r pos
 simp only[Bool.and_eq_true] at h
 obtain⟨⟨h1,h2⟩,h3⟩:=h
 have eo:op=v8 o:=xK h1
 subst eo
 have q:PE X (.BinOp l (v8 o) r pos) (tV Φ (bd X cl) EX (.bin o a b)):=by
  refine(Lj (HZ (cl:=cl) (EX:=EX) o) (ha Γ k X cl EX l c h2).1 (hb Γ k X cl EX r c h3).1).imp fun σ H Q aC=>?_
  obtain⟨ρ,env,h,hE,r,p⟩:=aC
  simp only[aG] at p
  exact⟨ρ,env,h,hE,r,au p fun v h1 ρ1 x H1 g1 r1 q1 p1=>⟨ρ1,env,h1,hE.up g1,r1,au p1 fun w h2 ρ2 y H2 g2 r2 q2 p2=>⟨ρ2,h2,v,w,r2,VR.up g2 _ _ q1,q2,p2⟩⟩⟩
 exact⟨q,cu q fun _=>rfl⟩
theorem Iw{a:IE}(ha:bV Φ a):bV Φ (.neg a):=by
 intro Γ k X cl EX e c h
 rw[aJ.eq_def] at h;dsimp only at h;split at h<;>first|cases h|skip
 rename_i l pos
 have q:PE X (.UnaryOp .USub l pos) (tV Φ (bd X cl) EX (.neg a)):=by
  refine(Lk Ah (ha Γ k X cl EX l c h).1).imp fun σ H Q aC=>?_
  obtain⟨ρ,env,h,hE,r,p⟩:=aC
  simp only[aG] at p
  refine⟨ρ,env,h,hE,r,au p fun v h1 ρ1 x H1 g1 r1 q1 p1=>?_⟩
  cases v<;>first|exact p1.elim|skip
  rw[VR] at q1
  exact⟨_,q1,ai r1 p1 _ VR.int⟩
 exact⟨q,cu q fun _=>rfl⟩
theorem Iz{o:xB}{a b:IE}(ha:bV Φ a)(hb:bV Φ b):bV Φ (.cmp o a b):=by
 intro Γ k X cl EX e c h
 rw[aJ.eq_def] at h;dsimp only at h;split at h<;>first|cases h|skip
 rename_i l op r pos
 simp only[Bool.and_eq_true,Bool.not_eq_true'] at h
 obtain⟨⟨⟨h1,h4⟩,h2⟩,h3⟩:=h
 have eo:op=xG o:=Ei h1
 subst eo
 refine⟨(Dw (Bf (cl:=cl) c.units o) (ha Γ k X cl EX l c h2).1 (hb Γ k X cl EX r c h3).1 h4).imp fun σ H Q ⟨ρ,env,h,hE,r,p⟩=>?_,(wX (Bf (cl:=cl) c.units o) (ha Γ k X cl EX l c h2).1 (hb Γ k X cl EX r c h3).1 h4).imp fun σ H Q ⟨ρ,env,h,hE,r,p⟩=>?_⟩
 ·simp only[aG] at p
  refine⟨ρ,env,h,hE,r,au p fun v h1 ρ1 x H1 g1 r1 q1 p1=>⟨ρ1,env,h1,hE.up g1,r1,au p1 fun w h2 ρ2 y H2 g2 r2 q2 p2=>?_⟩⟩
  obtain⟨t,e,p3⟩:=aA p2
  exact⟨ρ2,h2,v,w,t,r2,VR.up g2 _ _ q1,q2,e,ai r2 p3 _ VR.bl⟩
 ·simp only[KD,aG,aS,cK] at p
  refine⟨ρ,env,h,hE,r,au p fun v h1 ρ1 x H1 g1 r1 q1 p1=>⟨ρ1,env,h1,hE.up g1,r1,au p1 fun w h2 ρ2 y H2 g2 r2 q2 p2=>?_⟩⟩
  obtain⟨t,e,p3⟩:=aA p2
  obtain⟨t',e',w'⟩:=cQ r2 p3
  cases (show some t=some t' from e')
  exact⟨ρ2,h2,v,w,t,r2,VR.up g2 _ _ q1,q2,e,t,rfl,w'⟩
theorem ID{o o':xB}{a b d:IE}(ha:bV Φ a)(hb:bV Φ b)(hd:bV Φ d):bV Φ (.chn o o' a b d):=oN fun _ _=>rfl
end
end Hv
end
section
namespace Hv
open PySem L2 PyProof.Rows
section
variable {B:Bd} {EX:Nat->List V->Hp->Prop} {ρ:List Addr} {H:Hp} {β:Type} {W:β -> Hs->List Addr->Hp->Prop} {h:Hs}
theorem post_bool{v:Val}{f:Bool->M β}(p:Post B EX ρ H W (bnd (oF v) f h)):∃t,v=.bl t/\Post B EX ρ H W (f t h):=by
 cases v with
 | bl t=>exact⟨t,rfl,p⟩
 | _=>exact p.elim
theorem lU{m:M Val}{F:Val->M β}{Q:Bool->Hp->Prop}(p:Post B EX ρ H W (bnd m F h))(k:∀v h1,Post B EX ρ H W (F v h1)->∃t,dj h1 v=some t/\∀ρ1 H1,Gr ρ H ρ1 H1->HR B ρ1 h1 H1->Q t H1) :
  Post B EX ρ H (WT Q) (bnd m (fun x=>ask fun h=>dj h x) h):=by
 unfold bnd at p |-
 cases e:m h with
 | ok v h1 =>
  rw[e] at p
  obtain⟨t,e1,q⟩:=k v h1 p
  show Post B EX ρ H (WT Q) (ask (fun h=>dj h v) h1)
  have e2:ask (fun h=>dj h v) h1=.ok t h1:=by unfold ask bw;dsimp only;rw[e1]
  rw[e2]
  exact fun ρ1 H1 g r=>q ρ1 H1 g r
 | exc c vs h1=>rw[e] at p;exact p
 | no=>rw[e] at p;exact p
end
section
variable {Φ:Fn} {Γ:ng} {k:Nat} {X:Cx} {cl:Nat->Addr} {EX:Nat->List V->Hp->Prop}
theorem IF{a b:IE}(ha:bV Φ a)(hb:bV Φ b):bV Φ (.and a b):=by
 intro Γ k X cl EX e c h
 rw[aJ.eq_def] at h;dsimp only at h;split at h<;>first|cases h|skip
 rename_i l m r pos
 simp only[Bool.and_eq_true] at h
 obtain⟨h1,h2⟩:=h
 have hB:PE X (.BoolOp .And (m::r) pos) (tV Φ (bd X cl) EX b)/\PW X (.BoolOp .And (m::r) pos) (tT Φ (bd X cl) EX b):=by
  cases r with
  | nil=>exact⟨z9 (hb Γ k X cl EX m c h2).1,De (hb Γ k X cl EX m c h2).2⟩
  | cons n r'=>exact⟨(hb Γ k X cl EX _ c h2).1,FZ (hb Γ k X cl EX _ c h2).2⟩
 refine⟨(GG (ha Γ k X cl EX l c h1).1 hB.1).imp fun σ H Q ⟨ρ,env,h,hE,r,p⟩=>?_,(GD (ha Γ k X cl EX l c h1).2 hB.2).pt.imp fun σ H Q ⟨ρ,env,h,hE,r,p⟩=>?_⟩
 ·simp only[aG] at p
  refine⟨ρ,env,h,hE,r,au p fun v h1 ρ1 x H1 g1 r1 q1 p1=>?_⟩
  obtain⟨t,rfl,p2⟩:=post_bool p1
  rw[VR] at q1
  refine⟨t,q1,?_⟩
  cases t with
  | true =>
   rw[if_pos rfl] at p2 |-
   refine⟨ρ1,env,h1,hE.up g1,r1,au p2 fun w h2 ρ2 y H2 g2 r2 q2 p3=>?_⟩
   obtain⟨u,rfl,p4⟩:=post_bool p3
   exact ai r2 p4 _ q2
  | false =>
   rw[if_neg Bool.false_ne_true] at p2 |-
   exact ai r1 p2 _ VR.bl
 ·simp only[KD,aG,aS] at p
  refine⟨ρ,env,h,hE,r,lU p fun v h1 p1=>?_⟩
  obtain⟨t,rfl,p2⟩:=post_bool p1
  refine⟨t,rfl,fun ρ1 H1 g1 r1=>?_⟩
  have p2:=Post.up g1 p2
  cases t with
  | true =>
   rw[if_pos rfl] at p2 |-
   simp only[aS,cK] at p2
   refine⟨ρ1,env,h1,hE.up g1,r1,lU p2 fun w h2 p3=>?_⟩
   obtain⟨u,rfl,p4⟩:=post_bool p3
   exact⟨u,rfl,fun ρ2 H2 g2 r2=>by obtain⟨t',e',w'⟩:=cQ r2 (Post.up g2 p4);cases (show some u=some t' from e');exact w'⟩
  | false =>
   rw[if_neg Bool.false_ne_true] at p2 |-
   obtain⟨t',e',w'⟩:=cQ r1 (show Post _ _ ρ1 H1 _ (ask (fun h=>dj h (.bl false)) h1) from p2)
   cases (show some false=some t' from e')
   exact w'
theorem Mf{a b:IE}(ha:bV Φ a)(hb:bV Φ b):bV Φ (.or a b):=by
 intro Γ k X cl EX e c h
 rw[aJ.eq_def] at h;dsimp only at h;split at h<;>first|cases h|skip
 rename_i l m r pos
 simp only[Bool.and_eq_true] at h
 obtain⟨h1,h2⟩:=h
 have hB:PE X (.BoolOp .Or (m::r) pos) (tV Φ (bd X cl) EX b)/\PW X (.BoolOp .Or (m::r) pos) (tT Φ (bd X cl) EX b):=by
  cases r with
  | nil=>exact⟨z9 (hb Γ k X cl EX m c h2).1,GC (hb Γ k X cl EX m c h2).2⟩
  | cons n r'=>exact⟨(hb Γ k X cl EX _ c h2).1,FZ (hb Γ k X cl EX _ c h2).2⟩
 refine⟨(K6 (ha Γ k X cl EX l c h1).1 hB.1).imp fun σ H Q ⟨ρ,env,h,hE,r,p⟩=>?_,(K3 (ha Γ k X cl EX l c h1).2 hB.2).pt.imp fun σ H Q ⟨ρ,env,h,hE,r,p⟩=>?_⟩
 ·simp only[aG] at p
  refine⟨ρ,env,h,hE,r,au p fun v h1 ρ1 x H1 g1 r1 q1 p1=>?_⟩
  obtain⟨t,rfl,p2⟩:=post_bool p1
  rw[VR] at q1
  refine⟨t,q1,?_⟩
  cases t with
  | false =>
   rw[if_neg Bool.false_ne_true] at p2 |-
   refine⟨ρ1,env,h1,hE.up g1,r1,au p2 fun w h2 ρ2 y H2 g2 r2 q2 p3=>?_⟩
   obtain⟨u,rfl,p4⟩:=post_bool p3
   exact ai r2 p4 _ q2
  | true =>
   rw[if_pos rfl] at p2 |-
   exact ai r1 p2 _ VR.bl
 ·simp only[KD,aG,aS] at p
  refine⟨ρ,env,h,hE,r,lU p fun v h1 p1=>?_⟩
  obtain⟨t,rfl,p2⟩:=post_bool p1
  refine⟨t,rfl,fun ρ1 H1 g1 r1=>?_⟩
  have p2:=Post.up g1 p2
  cases t with
  | false =>
   rw[if_neg Bool.false_ne_true] at p2 |-
   simp only[aS,cK] at p2
   refine⟨ρ1,env,h1,hE.up g1,r1,lU p2 fun w h2 p3=>?_⟩
   obtain⟨u,rfl,p4⟩:=post_bool p3
   exact⟨u,rfl,fun ρ2 H2 g2 r2=>by obtain⟨t',e',w'⟩:=cQ r2 (Post.up g2 p4);cases (show some u=some t' from e');exact w'⟩
  | true =>
   rw[if_pos rfl] at p2 |-
   obtain⟨t',e',w'⟩:=cQ r1 (show Post _ _ ρ1 H1 _ (ask (fun h=>dj h (.bl true)) h1) from p2)
   cases (show some true=some t' from e')
   exact w'
theorem IG{a:IE}(ha:bV Φ a):bV Φ (.not a):=by
 intro Γ k X cl EX e c h
 rw[aJ.eq_def] at h;dsimp only at h;split at h<;>first|cases h|skip
 rename_i l pos
 refine⟨(GH (ha Γ k X cl EX l c h).1).imp fun σ H Q ⟨ρ,env,h,hE,r,p⟩=>?_,(GF (ha Γ k X cl EX l c h).2).imp fun σ H Q ⟨ρ,env,h,hE,r,p⟩=>?_⟩
 ·simp only[aG] at p
  refine⟨ρ,env,h,hE,r,au p fun v h1 ρ1 x H1 g1 r1 q1 p1=>?_⟩
  obtain⟨t,rfl,p2⟩:=post_bool p1
  rw[VR] at q1
  exact⟨t,q1,ai r1 p2 _ VR.bl⟩
 ·simp only[KD,aG,aS] at p
  refine⟨ρ,env,h,hE,r,lU p fun v h1 p1=>?_⟩
  obtain⟨t,rfl,p2⟩:=post_bool p1
  refine⟨t,rfl,fun ρ1 H1 g1 r1=>?_⟩
  obtain⟨t',e',w'⟩:=cQ r1 (show Post _ _ ρ1 H1 _ (ask (fun h=>dj h (.bl (!t))) h1) from Post.up g1 p2)
  cases (show some (!t)=some t' from e')
  exact w'
theorem II{t a b:IE}(ht:bV Φ t)(ha:bV Φ a)(hb:bV Φ b):bV Φ (.ite t a b):=oN fun _ _=>rfl
theorem IJ{es:eO}(hs:jq Φ es):bV Φ (.tup es):=by
 intro Γ k X cl EX e c h
 rw[aJ.eq_def] at h;dsimp only at h;split at h<;>first|cases h|skip
 rename_i ls x1 pos
 have q:PE X (.Tuple ls x1 pos) (tV Φ (bd X cl) EX (.tup es)):=by
  refine(Hl (hs.1 Γ k X cl EX ls c h)).imp fun σ H Q aC=>?_
  obtain⟨ρ,env,h,hE,r,p⟩:=aC
  simp only[aG] at p
  refine⟨ρ,env,h,hE,r,bx p fun vs h1 ρ1 H1 g1 r1 p1 xs q1=>?_⟩
  obtain⟨e1,p2⟩:=aI p1
  exact⟨by rw[<-q1.length];exact of_decide_eq_true e1,fun q hq=>oJ r1 hq q1 p2⟩
 exact⟨q,cu q fun _=>rfl⟩
theorem IK{es:eO}(hs:jq Φ es):bV Φ (.lst es):=by
 intro Γ k X cl EX e c h
 rw[aJ.eq_def] at h;dsimp only at h;split at h<;>first|cases h|skip
 rename_i ls pos
 have q:PE X (.List ls pos) (tV Φ (bd X cl) EX (.lst es)):=by
  refine(Ho (hs.1 Γ k X cl EX ls c h)).imp fun σ H Q aC=>?_
  obtain⟨ρ,env,h,hE,r,p⟩:=aC
  simp only[aG] at p
  refine⟨ρ,env,h,hE,r,bx p fun vs h1 ρ1 H1 g1 r1 p1 xs q1=>?_⟩
  obtain⟨e1,p2⟩:=aI p1
  exact⟨by rw[<-q1.length];exact of_decide_eq_true e1,fun q hq=>bX r1 hq q1 p2⟩
 exact⟨q,cu q fun _=>rfl⟩
theorem Ej:bV Φ .dct0:=by
 intro Γ k X cl EX e c h
 rw[aJ.eq_def] at h;dsimp only at h;split at h<;>first|cases h|skip
 rename_i pos
 have q:PE X (.Dict [] [] pos) (tV Φ (bd X cl) EX .dct0):=by
  refine(Ay (X:=X) (pos:=pos)).imp fun σ H Q aC=>?_
  obtain⟨ρ,env,h,hE,r,p⟩:=aC
  simp only[aG] at p
  exact fun a ha=>ue (o:=.dct []) (O:=.dK []) r ha ⟨[],aM,(by rw[fS])⟩ p
 exact⟨q,cu q fun _=>rfl⟩
theorem IL{a b:IE}(ha:bV Φ a)(hb:bV Φ b):bV Φ (.idx a b):=by
 intro Γ k X cl EX e c h
 rw[aJ.eq_def] at h;dsimp only at h;split at h<;>first|cases h|skip
 rename_i l r pos
 simp only[Bool.and_eq_true] at h
 have q:PE X (.Subscript l r pos) (tV Φ (bd X cl) EX (.idx a b)):=by
  refine(Ly (Ic (cl:=cl) c.units) (ha Γ k X cl EX l c h.1.2).1 (hb Γ k X cl EX r c h.2).1 (we h.1.1)).imp fun σ H Q aC=>?_
  obtain⟨ρ,env,h,hE,r,p⟩:=aC
  simp only[aG] at p
  refine⟨ρ,env,h,hE,r,au p fun v h1 ρ1 x H1 g1 r1 q1 p1=>⟨ρ1,env,h1,hE.up g1,r1,au p1 fun w h2 ρ2 y H2 g2 r2 q2 p2=>?_⟩⟩
  obtain⟨z,e,w'⟩:=cQ r2 p2
  exact⟨ρ2,h2,v,w,z,r2,VR.up g2 _ _ q1,q2,e,w'⟩
 exact⟨q,cu q fun _=>rfl⟩
noncomputable def KH(Φ:Fn)(ir:IE)(env:Env):M (Option Int):=if cH ir=true then ret none else bnd (aG Φ ir env) fun v=>bnd (bw (fP v)) fun i=>ret (some i)
noncomputable def tP(Φ:Fn)(B:Bd)(EX:Nat->List V->Hp->Prop)(ir:IE):TO:=fun σ H Q=>∃ρ env h,cR B.K ρ env σ H/\HR B ρ h H/\Post B EX ρ H (fun o _ _ H'=>Q o H') (KH Φ ir env h)
theorem qK{d:Val}{i:Int}(h:fP d=some i):d=.int i:=by cases d<;>cases h;rfl
theorem rZ{ir:IE}(hi:bV Φ ir)(c:Ctx Φ Γ k X cl EX){o:Option Expr}(h:(match o with|none=>cH ir|some e=>!cH ir&&aJ Γ ir e)=true):PO X o (tP Φ (bd X cl) EX ir):=by
 cases o with
 | none =>
  refine DF.imp fun σ H Q aC=>?_
  obtain⟨ρ,env,h',hE,r,p⟩:=aC
  unfold KH at p
  rw[if_pos h] at p
  exact ai r p
 | some e =>
  simp only[Bool.and_eq_true,Bool.not_eq_true'] at h
  refine(DG (hi Γ k X cl EX e c h.2).1).imp fun σ H Q aC=>?_
  obtain⟨ρ,env,h',hE,r,p⟩:=aC
  unfold KH at p
  rw[if_neg (by rw[h.1];exact Bool.false_ne_true)] at p
  refine⟨ρ,env,h',hE,r,au p fun v h1 ρ1 x H1 g1 r1 q1 p1=>?_⟩
  obtain⟨i,e1,p2⟩:=bJ p1
  cases qK e1
  rw[VR] at q1
  exact⟨i,q1,ai r1 p2⟩
theorem IM{a lo hi:IE}(ha:bV Φ a)(hl:bV Φ lo)(hh:bV Φ hi):bV Φ (.slc a lo hi):=by
 intro Γ k X cl EX e c h
 rw[aJ.eq_def] at h;dsimp only at h;split at h<;>first|cases h|skip
 rename_i l l' h' p2 pos
 simp only[Bool.and_eq_true] at h
 have q:PE X (.Subscript l (.Slice l' h' none p2) pos) (tV Φ (bd X cl) EX (.slc a lo hi)):=by
  refine(As (Ie (cl:=cl) (EX:=EX)) (ha Γ k X cl EX l c h.1.1).1 (rZ hl c h.1.2) (rZ hh c h.2)).imp fun σ H Q aC=>?_
  obtain⟨ρ,env,h,hE,r,p⟩:=aC
  simp only[aG] at p
  refine⟨ρ,env,h,hE,r,au p fun v h1 ρ1 x H1 g1 r1 q1 p1=>⟨ρ1,env,h1,hE.up g1,r1,bx (m:=KH Φ lo env) p1 fun lo' h2 ρ2 H2 g2 r2 p3=>⟨ρ2,env,h2,(hE.up g1).up g2,r2,bx (m:=KH Φ hi env) p3 fun hi' h3 ρ3 H3 g3 r3 p4=>?_⟩⟩⟩
  exact⟨ρ3,h3,v,r3,VR.up (g2.trans g3) _ _ q1,p4⟩
 exact⟨q,cu q fun _=>rfl⟩
theorem IP{a sx:IE}(ha:bV Φ a)(hs:bV Φ sx):bV Φ (.rev a sx):=by
 intro Γ k X cl EX e c h
 rw[aJ.eq_def] at h;dsimp only at h;split at h<;>first|cases h|skip
 rename_i l st p2 pos
 simp only[Bool.and_eq_true] at h
 obtain⟨⟨h1,h2⟩,h3⟩:=h
 obtain⟨st,rfl⟩:=Option.isSome_iff_exists.mp h2
 have q:PE X (.Subscript l (.Slice none none (some st) p2) pos) (tV Φ (bd X cl) EX (.rev a sx)):=by
  refine(HQ (ha Γ k X cl EX l c h1).1 (rZ hs c h3)).imp fun σ H Q aC=>?_
  obtain⟨ρ,env,h,hE,r,p⟩:=aC
  simp only[aG] at p
  refine⟨ρ,env,h,hE,r,au p fun v h1 ρ1 x H1 g1 r1 q1 p1=>⟨ρ1,env,h1,hE.up g1,r1,bx (m:=KH Φ sx env) p1 fun lo' h2 ρ2 H2 g2 r2 p3=>?_⟩⟩
  obtain⟨e1,p4⟩:=aI p3
  obtain⟨xs,e2,p5⟩:=aA p4
  obtain⟨ad,ys,rfl,k1,k2⟩:=eB r2 (VR.up g2 _ _ q1) e2
  exact⟨of_decide_eq_true e1,ad,ys,rfl,k1,fun q hq=>bX r2 hq (ay.rev k2) p5⟩
 exact⟨q,cu q fun _=>rfl⟩
theorem gY{env:Env}:∀{dR:eO} {ls:List Expr} {vs:List Val} {h h':Hs},aK Γ dR ls=true->aR Φ dR env h=.ok vs h'->vs.length=ls.length:=by
 intro dR
 induction dR using eO.rec (motive_1:=fun _=>True) with
 | nil =>
  intro ls ds h h' a b
  rw[aK] at a
  simp only[aR,ret] at b;cases b
  cases ls with
  | nil=>rfl
  | cons _ _=>cases a
 | cons e es _ ih =>
  intro ls ds h h' a b
  rw[aK.eq_def] at a;dsimp only at a
  cases ls with
  | nil=>cases a
  | cons l ls =>
   simp only[Bool.and_eq_true] at a
   simp only[aR,bnd] at b
   cases e1:aG Φ e env h with
   | ok v h1 =>
    rw[e1] at b
    dsimp only at b
    cases e2:aR Φ es env h1 with
    | ok vs h2 =>
     rw[e2] at b
     cases b
     simp[ih a.2 e2]
    | exc _ _ _=>rw[e2] at b;cases b
    | no=>rw[e2] at b;cases b
   | exc _ _ _=>rw[e1] at b;cases b
   | no=>rw[e1] at b;cases b
 | _=>trivial
theorem dJ{α β:Type}{B:Bd}{ρ:List Addr}{H:Hp}{W:β -> Hs->List Addr->Hp->Prop}{W':α -> Hs->List Addr->Hp->Prop}{h:Hs}{m:M α}{f:α -> M β}(p:Post B EX ρ H W (bnd m f h))(k:∀v h1 ρ1 H1,m h=.ok v h1->Gr ρ H ρ1 H1->HR B ρ1 h1 H1->Post B EX ρ1 H1 W (f v h1)->W' v h1 ρ1 H1):Post B EX ρ H W' (m h):=by
 unfold bnd at p
 cases e:m h with
 | ok v h1=>rw[e] at p;exact fun ρ1 H1 g r=>k v h1 ρ1 H1 e g r (Post.up g p)
 | exc c vs h1=>rw[e] at p;exact p
 | no=>rw[e] at p;exact p
theorem dw{α:Type}{B:Bd}{ρ:List Addr}{h:Hs}{H:Hp}{W:α -> Hs->List Addr->Hp->Prop}{o:Out α}(n:∀c xs H,¬ EX c xs H)(p:Post B EX ρ H W o):Post B (fun _ _ _=>False) ρ H W o:=by
 cases o with
 | ok a h'=>exact p
 | exc c vs h'=>exact fun ρ' H' xs g r q=>n _ _ _ (p ρ' H' xs g r q)
 | no=>exact p
theorem xN{B:Bd}{ρ:List Addr}{h:Hs}{H:Hp}{Q:VK}{E:XK}{n c:Nat}{φ0:List Val->M Val}{vs:List Val}{xs:List V}{x dx:Addr}(r:HR B ρ h H)(hv:ay B.K ρ H vs xs)(hl:vs.length=n)(p:Post B (fun _ _ _=>False) ρ H (WV B.K Q) (HX c φ0 vs h))
  (nx:H x=none) (nd:H dx=none) (ne:dx≠x):rY B (n+1) φ0 (.ref x::xs) (upd (upd H dx (.own x)) x (.ins (B.cl c) dx [])) (fun v H2=>v=.non/\Q (.ref x) H2) E:=by
 have r1:HR B ρ h (upd H dx (.own x)):=r.side nd
 have SA:(upd H dx (.own x)) x=none:=by rw[ak fun z=>ne z.symm];exact nx
 have g:Gr ρ H (ρ ++ [x]) (upd (upd H dx (.own x)) x (.ins (B.cl c) dx [])):=(Gr.side nd).trans (Gr.new SA)
 have r2:HR B (ρ ++ [x]) (h++[.ins c []]) (upd (upd H dx (.own x)) x (.ins (B.cl c) dx [])):=r1.new SA ⟨dx,[],aM,rfl⟩
 have hx:(ρ ++ [x])[h.length]?=some x:=by rw[<-r.len];simp
 refine⟨ρ ++ [x],h++[.ins c []],.ref h.length::vs,by simp[hl],r2,ay.cons (VR.ref hx) (ay.up g _ _ hv),?_⟩
 have p2:Post B (fun _ _ _=>False) (ρ ++ [x]) (upd (upd H dx (.own x)) x (.ins (B.cl c) dx [])) (WV B.K Q) (bnd (φ0 (.ref h.length::vs)) (fun r=>match r with|.non=>ret (.ref h.length)|_=>bw none) (h++[.ins c []])):=Post.up g p
 refine bx p2 fun v h1 ρ1 H1 g1 r3 p3 y hy=>?_
 cases v<;>first|exact p3.elim|skip
 rw[VR] at hy
 exact⟨hy,ai r3 p3 _ (VR.ref (nC g1.pre hx))⟩
theorem Ek{j:Nat}{es:eO}{Γ:ng}{k:Nat}{X:Cx}{cl:Nat->Addr}{EX:Nat->List V->Hp->Prop}{x:Str}{p:Pos}{args:List Expr}{pos:Pos}(hs:jq Φ es)(c:Ctx Φ Γ k X cl EX)
  (h:(v9 Γ.sc x && Γ.fns[j]?==some (x,args.length)&&decide (args.length<1000)&&aK Γ es args)=true):PE X (.Call (.Name x p) args [] pos) (tV Φ (bd X cl) EX (.call j es))/\PT X (.Call (.Name x p) args [] pos) (tT Φ (bd X cl) EX (.call j es)):=by
 simp only[Bool.and_eq_true,beq_iff_eq,decide_eq_true_eq] at h
 obtain⟨⟨⟨h1,h2⟩,h3⟩,h4⟩:=h
 obtain⟨g1,g2,g3⟩:=c.gl h1
 have room:cX k X.A:=c.room.mono (Nat.le_succ k)
 have q:PE X (.Call (.Name x p) args [] pos) (tV Φ (bd X cl) EX (.call j es)):=by
  rcases c.fns j x _ h2 with ⟨_,⟨f,fd,ps,f1,f2,f3,f4,f5⟩|⟨cc,f,fd,ps,φ0,f0,f1,f2,f3,f4,f5⟩⟩|⟨z,_⟩
  ·cases args with
   | nil =>
    cases es with
    | cons i dR=>rw[aK.eq_def] at h4;cases h4
    | nil =>
     refine(Ao f5 room g1 f2 f3 f4 .nil nZ g2).imp fun σ H Q aC=>?_
     obtain⟨ρ,env,h,hE,r,p⟩:=aC
     simp only[aG,aR,cK] at p
     exact⟨ρ,h,[],rfl,r,ay.nil,dw (h:=h) c.kh p⟩
   | cons l ls =>
    cases es with
    | nil=>rw[aK] at h4;cases h4
    | cons i dR =>
     have h5:=h4
     rw[aK.eq_def] at h5;dsimp only at h5
     simp only[Bool.and_eq_true] at h5
     refine(Dz f5 room g1 f2 f3 f4 .nil nZ (hs.1 Γ k X cl EX _ c h4) g2 (aT h5.1.1) (fB h5.2)).imp fun σ H Q aC=>?_
     obtain⟨ρ,env,h,hE,r,p⟩:=aC
     simp only[aG] at p
     refine⟨ρ,env,h,hE,r,dJ p fun vs h1 ρ1 H1 e1 g1 r1 p1 xs q1=>⟨ρ1,h1,vs,gY h4 e1,r1,by rw[List.append_nil];exact q1,dw (h:=h1) c.kh p1⟩⟩
  ·cases args with
   | nil =>
    cases es with
    | cons i dR=>rw[aK.eq_def] at h4;cases h4
    | nil =>
     refine(Aq f3 f5 c.room g1 f2 f4 .nil nZ g2).imp fun σ H Q aC=>?_
     obtain⟨ρ,env,h,hE,r,p⟩:=aC
     simp only[aG,aR,cK] at p
     intro y dy ny PZ P0
     rw[f0] at p
     exact xN (B:=bd X cl) r ay.nil rfl (dw (h:=h) c.kh p) ny PZ P0
   | cons l ls =>
    cases es with
    | nil=>rw[aK] at h4;cases h4
    | cons i dR =>
     have h5:=h4
     rw[aK.eq_def] at h5;dsimp only at h5
     simp only[Bool.and_eq_true] at h5
     refine(DA f3 f5 c.room g1 f2 f4 .nil nZ (hs.1 Γ k X cl EX _ c h4) g2 (aT h5.1.1) (fB h5.2)).imp fun σ H Q aC=>?_
     obtain⟨ρ,env,h,hE,r,p⟩:=aC
     simp only[aG] at p
     refine⟨ρ,env,h,hE,r,dJ p fun vs h1 ρ1 H1 e1 g1 r1 p1 xs q1 y dy ny PZ P0=>?_⟩
     rw[f0] at p1
     rw[List.append_nil]
     exact xN (B:=bd X cl) r1 q1 (gY h4 e1) (dw (h:=h1) c.kh p1) ny PZ P0
  ·omega
 exact⟨q,cu q fun _=>rfl⟩
theorem El{j:Nat}{es:eO}{Γ:ng}{k:Nat}{X:Cx}{cl:Nat->Addr}{EX:Nat->List V->Hp->Prop}{x m:Str}{p ap:Pos}{args:List Expr}{cp:Pos}(hs:jq Φ es)(c:Ctx Φ Γ k X cl EX)
  (h:(v9 Γ.sc x && Γ.tb.CT.contains (x,m,j)&&(match Γ.fns[j]? with|some (_,n)=>n==1000+args.length|none=>false)&&decide (args.length<29)&&ap.endLine==cp.line&&aK Γ es args && !args.isEmpty)=true) :
  PE X (.Call (.Attribute (.Name x p) m ap) args [] cp) (tV Φ (bd X cl) EX (.call j es))/\PT X (.Call (.Attribute (.Name x p) m ap) args [] cp) (tT Φ (bd X cl) EX (.call j es)):=by
 simp only[Bool.and_eq_true,beq_iff_eq,decide_eq_true_eq,List.contains_iff_mem] at h
 obtain⟨⟨⟨⟨⟨⟨h1,h2⟩,h3⟩,h4⟩,h5⟩,h6⟩,h7⟩:=h
 obtain⟨g1,g2,g3⟩:=c.gl h1
 obtain⟨C,hm,cm⟩:=c.CT _ h2
 have hf:∃xx,Γ.fns[j]?=some (xx,1000+args.length):=by
  cases ef:Γ.fns[j]? with
  | none=>rw[ef] at h3;cases h3
  | some q=>rw[ef] at h3;obtain⟨q1,q2⟩:=q;exact⟨q1,by rw[show q2=_ from eq_of_beq h3]⟩
 obtain⟨xx,hf⟩:=hf
 have room:cX k X.A:=c.room.mono (Nat.le_succ k)
 rcases c.fns j xx _ hf with ⟨z,_⟩|⟨_,fd,ps,f1,f4,f5⟩
 ·omega
 rw[show 1000+args.length-1000=args.length by omega] at f5
 have few:((backTo cp (starEach args X.env)).all (fun x=>!x.1)&&(backToKw cp (keywordEach [] X.env)).all (fun x=>x.1.isSome)
   && decide (args.length+([]:List Keyword).length+(if ([]:List Keyword).isEmpty then 0 else 1)<30))=true:=by
  rw[oM h6]
  simp only[Bool.true_and,Bool.and_eq_true]
  exact⟨rfl,decide_eq_true (by simp;omega)⟩
 have hl:(ap.endLine==cp.line)=true:=by rw[h5];exact beq_self_eq_true _
 have q:PE X (.Call (.Attribute (.Name x p) m ap) args [] cp) (tV Φ (bd X cl) EX (.call j es)):=by
  cases args with
  | nil=>exact absurd h7 (by simp)
  | cons l ls =>
   cases es with
   | nil=>rw[aK] at h6;cases h6
   | cons i dR =>
    have h8:=h6
    rw[aK.eq_def] at h8;dsimp only at h8
    simp only[Bool.and_eq_true] at h8
    refine(HV (k:=k) f5 room g1 hm cm f4 (hs.1 Γ k X cl EX _ c h6) g2 few hl (aT h8.1.1) (fB h8.2)).imp fun σ H Q aC=>?_
    obtain⟨ρ,env,h,hE,r,p⟩:=aC
    simp only[aG] at p
    refine⟨ρ,env,h,hE,r,dJ p fun vs h1 ρ1 H1 e1 g1 r1 p1 xs q1=>⟨ρ1,h1,vs,gY h6 e1,r1,q1,dw (h:=h1) c.kh p1⟩⟩
 exact⟨q,cu q fun _=>rfl⟩
theorem Em{j:Nat}{es:eO}(hs:jq Φ es):bV Φ (.call j es):=by
 intro Γ k X cl EX e c h
 rw[aJ.eq_def] at h;dsimp only at h;split at h<;>first|cases h|skip
 ·exact Ek hs c h
 ·exact El hs c h
theorem IQ{n:Nat}{a:IE}{x:Str}(ha:bV Φ a):bV Φ (.fld n a x):=by
 intro Γ k X cl EX e c h
 rw[aJ.eq_def] at h;dsimp only at h;split at h<;>first|cases h|skip
 rename_i o y pos
 simp only[Bool.and_eq_true,beq_iff_eq,List.contains_iff_mem] at h
 obtain⟨⟨⟨⟨h1,h2⟩,h3⟩,h4⟩,h5⟩:=h
 subst h1
 have q:PE X (.Attribute o x pos) (tV Φ (bd X cl) EX (.fld n a x)):=by
  refine(pe_fld (ha Γ k X cl EX o c h5).1 (super_ok h2)).imp fun σ H Q aC=>?_
  obtain⟨ρ,env,h,hE,r,p⟩:=aC
  simp only[aG] at p
  refine⟨ρ,env,h,hE,r,au p fun v h1 ρ1 y H1 g1 r1 q1 p1=>?_⟩
  obtain⟨z,e1,w⟩:=cQ r1 p1
  cases v<;>first|(cases e1;done)|(rw[VR] at q1;exact q1.elim)|skip
  rename_i i
  rw[VR] at q1
  obtain⟨ad,rfl,q1⟩:=q1
  have hx:∃c0 fs,h1[i]?=some (.ins c0 fs)/\c0<n/\fs.lookup x=some z:=by
   change (match h1[i]? with|some (.ins c fs)=>if c<n then fs.lookup x else none|_=>none)=some z at e1
   split at e1
   ·rename_i c0 fs e2
    split at e1
    ·rename_i hc;exact⟨c0,fs,e2,hc,e1⟩
    ·cases e1
   ·cases e1
  obtain⟨c0,fs,e2,hc,e3⟩:=hx
  obtain⟨dx,gs,k1,k2⟩:=r1.ob i _ ad e2 q1
  obtain⟨y,l1,l2⟩:=k2.look.2 z e3
  obtain⟨cc,nn⟩:=c.cls c0 (by omega)
  exact⟨ad,cl c0,dx,gs,y,rfl,k1,cc,nn x h4,l1,w y l2⟩
 exact⟨q,cu q fun _=>rfl⟩
theorem uq:∀{js:List (Nat×Nat)} {c j:Nat},js.lookup c=some j->(c,j)∈js
 | (a,b)::r,c,j,e=>by
  rw[List.lookup_cons] at e
  cases hb:c==a with
  | true=>rw[hb] at e;cases e;rw[eq_of_beq hb];exact List.mem_cons_self
  | false=>rw[hb] at e;exact List.mem_cons_of_mem _ (uq e)
theorem IT{a:IE}{m:Str}{js:List (Nat×Nat)}{es:eO}(ha:bV Φ a)(hs:jq Φ es):bV Φ (.mth a m js es):=by
 intro Γ k X cl EX e c h
 rw[aJ.eq_def] at h;dsimp only at h;split at h<;>first|cases h|skip
 rename_i o x ap args cp
 simp only[Bool.and_eq_true,beq_iff_eq,List.all_eq_true,decide_eq_true_eq,List.contains_iff_mem] at h
 obtain⟨⟨⟨⟨⟨⟨h1,h2⟩,h3⟩,h4⟩,h5⟩,h6⟩,h7⟩:=h
 subst h1
 have few:((backTo cp (starEach args X.env)).all (fun x=>!x.1)&&(backToKw cp (keywordEach [] X.env)).all (fun x=>x.1.isSome)
   && decide (args.length+([]:List Keyword).length+(if ([]:List Keyword).isEmpty then 0 else 1)<30))=true:=by
  rw[oM h7]
  simp only[Bool.true_and,Bool.and_eq_true]
  exact⟨rfl,decide_eq_true (by simp;omega)⟩
 have hl:(ap.endLine==cp.line)=true:=by rw[h4];exact beq_self_eq_true _
 have room:cX k X.A:=c.room.mono (Nat.le_succ k)
 have main:∀(σ:L2.St) (H:Hp) (Q:VK) (v:Val) (h1:Hs) (ρ1:List Addr) (y:V) (H1:Hp) (F:Nat->M Val),HR (bd X cl) ρ1 h1 H1->VR X.K ρ1 H1 v y->Post (bd X cl) EX ρ1 H1 (WV X.K Q) (bnd (ask fun h=>lQ h v x js) F h1) ->
   ∃j i ad c0 dx gs fd ps,v=.ref i/\y=.ref ad/\H1 ad=some (.ins (cl c0) dx gs)/\z4 X.K (cl c0)/\Meth X.K (cl c0) x (cl (1000+j))/\gs.lookup x=none/\Binds X.K fd ps [] /\
    eW X.prog X.w X.K X.mg X.base ve k (cl (1000+j)) fd ps (rY (bd X cl) (1+args.length) (Φ j))/\Post (bd X cl) EX ρ1 H1 (WV X.K Q) (F j h1):=by
  intro σ H Q v h1 ρ1 y H1 F r1 q1 p1
  obtain⟨j,e1,p2⟩:=aA p1
  cases v<;>first|(cases e1;done)|(rw[VR] at q1;exact q1.elim)|skip
  rename_i i
  rw[VR] at q1
  obtain⟨ad,rfl,q1⟩:=q1
  have hx:∃c0 fs,h1[i]?=some (.ins c0 fs)/\fs.lookup x=none/\js.lookup c0=some j:=by
   change (match h1[i]? with|some (.ins c fs)=>if (fs.lookup x).isNone=true then js.lookup c else none|_=>none)=some j at e1
   split at e1
   ·rename_i c0 fs e2
    split at e1
    ·rename_i hc;exact⟨c0,fs,e2,by simpa using hc,e1⟩
    ·cases e1
   ·cases e1
  obtain⟨c0,fs,e2,hn,e3⟩:=hx
  obtain⟨dx,gs,k1,k2⟩:=r1.ob i _ ad e2 q1
  obtain⟨⟨m1,m2⟩,m3⟩:=h5 _ (uq e3)
  dsimp only at m1 m2 m3
  have cc:=(c.cls c0 m1).1
  have mm:=c.Eg _ m2
  dsimp only at mm
  have hf:∃xx,Γ.fns[j]?=some (xx,1001+args.length):=by
   cases ef:Γ.fns[j]? with
   | none=>rw[ef] at m3;cases m3
   | some q=>rw[ef] at m3;obtain⟨q1,q2⟩:=q;exact⟨q1,by rw[show q2=_ from eq_of_beq m3]⟩
  obtain⟨xx,hf⟩:=hf
  rcases c.fns j xx _ hf with ⟨z,_⟩|⟨_,fd,ps,f1,f4,f5⟩
  ·omega
  ·rw[show 1001+args.length-1000=1+args.length by omega] at f5
   exact⟨j,i,ad,c0,dx,gs,fd,ps,rfl,rfl,k1,cc,mm,k2.look.1 hn,f4,f5,p2⟩
 have q:PE X (.Call (.Attribute o x ap) args [] cp) (tV Φ (bd X cl) EX (.mth a x js es)):=by
  cases args with
  | nil =>
   cases es with
   | cons i dR=>rw[aK.eq_def] at h7;cases h7
   | nil =>
    refine(pe_mth0 (k:=k) (ha Γ k X cl EX o c h6).1 (super_ok h2) hl room).imp fun σ H Q aC=>?_
    obtain⟨ρ,env,h,hE,r,p⟩:=aC
    simp only[aG,aR,cK] at p
    refine⟨ρ,env,h,hE,r,au p fun v h1 ρ1 y H1 g1 r1 q1 p1=>?_⟩
    obtain⟨j,i,ad,c0,dx,gs,fd,ps,rfl,rfl,k1,cc,mm,k2,f4,f5,p2⟩:=main σ H Q v h1 ρ1 y H1 _ r1 q1 p1
    exact⟨ad,cl c0,dx,gs,cl (1000+j),fd,ps,_,rfl,k1,cc,mm,k2,f4,f5,ρ1,h1,[.ref i],rfl,r1,ay.cons q1 ay.nil,dw (h:=h1) c.kh p2⟩
  | cons l ls =>
   cases es with
   | nil=>rw[aK] at h7;cases h7
   | cons i dR =>
    have h8:=h7
    rw[aK.eq_def] at h8;dsimp only at h8
    simp only[Bool.and_eq_true] at h8
    refine(pe_mthD (k:=k) (ha Γ k X cl EX o c h6).1 (hs.1 Γ k X cl EX _ c h7) (super_ok h2) few hl room (aT h8.1.1) (fB h8.2)).imp fun σ H Q aC=>?_
    obtain⟨ρ,env,h,hE,r,p⟩:=aC
    simp only[aG] at p
    refine⟨ρ,env,h,hE,r,au p fun v h1 ρ1 y H1 g1 r1 q1 p1=>?_⟩
    obtain⟨j,i,ad,c0,dx,gs,fd,ps,rfl,rfl,k1,cc,mm,k2,f4,f5,p2⟩:=main σ H Q v h1 ρ1 y H1 _ r1 q1 p1
    refine⟨ad,cl c0,dx,gs,cl (1000+j),fd,ps,_,rfl,k1,cc,mm,k2,f4,f5,ρ1,env,h1,hE.up g1,r1,dJ p2 fun vs h2 ρ2 H2 e4 g2 r2 p3 xs q2=>?_⟩
    refine⟨ρ2,h2,.ref i::vs,?_,r2,ay.cons (VR.up g2 _ _ q1) q2,dw (h:=h2) c.kh p3⟩
    rw[List.length_cons,gY h7 e4];omega
 exact⟨q,cu q fun _=>rfl⟩
end
end Hv
end
section
namespace Hv
open PySem L2 PyProof.Rows
section
variable {Φ:Fn} {Γ:ng} {k:Nat} {X:Cx} {cl:Nat->Addr} {EX:Nat->List V->Hp->Prop}
theorem IU:bootBuiltins "all" = some (.builtin "all"):=by decide +kernel
theorem IV:bootBuiltins "any" = some (.builtin "any"):=by decide +kernel
theorem lV:bootBuiltins "sorted" = some (.builtin "sorted"):=by decide +kernel
theorem IW:bootBuiltins "min" = some (.builtin "min"):=by decide +kernel
theorem IX:bootBuiltins "max" = some (.builtin "max"):=by decide +kernel
theorem r6:bootBuiltins "list" = some (.type "list"):=by decide +kernel
theorem ur:bootBuiltins "tuple" = some (.type "tuple"):=by decide +kernel
theorem Bk:bootBuiltins "str" = some (.type "str"):=by decide +kernel
theorem Bm:bootBuiltins "int" = some (.type "int"):=by decide +kernel
theorem En:bootBuiltins "bool" = some (.type "bool"):=by decide +kernel
theorem Eo:bootBuiltins "dict" = some (.type "dict"):=by decide +kernel
theorem Ep:bootBuiltins "isinstance" = some (.builtin "isinstance"):=by decide +kernel
theorem uu{e:IE}{env:Env}:aR Φ (.cons e .nil) env=bnd (aG Φ e env) fun d=>ret [d]:=by
 simp only[aR,cK]
theorem six{T:String}(h:["list","tuple","str","bool","int","dict"].contains T=true):T = "list" \/ T = "tuple" \/ T = "str" \/ T = "bool" \/ T = "int" \/ T = "dict":=by simpa using h
theorem Er{T:String}(h:["list","tuple","str","bool","int","dict"].contains T=true):(T:Str)∈f9/\bootBuiltins (T:Str)=some (.type T)/\(T:Str) ≠ "__name__" /\ ((T:Str)==("__debug__":Str))=false:=by
 rcases six h with rfl|rfl|rfl|rfl|rfl|rfl
 ·exact⟨by decide,r6,by decide,by decide⟩
 ·exact⟨by decide,ur,by decide,by decide⟩
 ·exact⟨by decide,Bk,by decide,by decide⟩
 ·exact⟨by decide,En,by decide,by decide⟩
 ·exact⟨by decide,Bm,by decide,by decide⟩
 ·exact⟨by decide,Eo,by decide,by decide⟩
theorem Es{T:String}{es:eO}(hs:jq Φ es):bV Φ (.blt (.isin T) es):=by
 intro Γ k X cl EX e c h
 rw[aJ.eq_def] at h;dsimp only at h;split at h<;>first|cases h|skip
 rename_i x p args pos
 simp only[Bool.and_eq_true,beq_iff_eq] at h
 obtain⟨⟨h1,h2⟩,h3⟩:=h
 subst h2
 obtain⟨g1,g2,g3⟩:=c.gl h1
 split at h3<;>first|cases h3|skip
 rename_i a y yp
 simp only[Bool.and_eq_true,beq_iff_eq] at h3
 obtain⟨⟨⟨k1,k2⟩,k3⟩,k4⟩:=h3
 obtain⟨b1,b2,b3,b4⟩:=Er k3
 obtain⟨y1,y2,y3⟩:=c.gl k1
 subst k2
 cases es with
 | nil=>rw[aK] at k4;cases k4
 | cons i dR =>
  rw[aK.eq_def] at k4;dsimp only at k4
  simp only[Bool.and_eq_true] at k4
  cases dR with
  | cons j dR=>have:=k4.2;rw[aK.eq_def] at this;cases this
  | nil =>
   have q:PE X (.Call (.Name (Ma (.isin T)) p) [a,.Name (T:Str) yp] [] pos) (tV Φ (bd X cl) EX (.blt (.isin T) (.cons i .nil))):=by
    refine(fX (Ec (cl:=cl) (EX:=EX) (T:=T)) g1 (c.blt _ (show ("isinstance":Str)∈f9 by decide)) Ep (rq (hs.2.1 Γ k X cl EX a c k4.1.2).1 (rq (Dd (v:=.ty T) y1 (c.blt _ b1) b2 rfl b3 b4) An) (aT k4.1.1)) g3 g2 (aT k4.1.1)).imp fun σ H Q aC=>?_
    obtain⟨ρ,env,h,hE,r,p⟩:=aC
    simp only[aG,uu,aS,cK] at p
    exact⟨ρ,env,h,hE,r,au p fun v h1 ρ1 x H1 g1 r1 q1 p1=>⟨ρ1,h1,v,x,rfl,r1,q1,p1⟩⟩
   exact⟨q,cu q fun _=>rfl⟩
theorem IY:bootBuiltins "set" = some (.type "set"):=by decide +kernel
theorem Et{a:IE}(ha:bV Φ a):bV Φ (.sset a):=by
 intro Γ k X cl EX e c h
 rw[aJ.eq_def] at h;dsimp only at h;split at h<;>first|cases h|skip
 rename_i x p1 y p2 l pos2 pos1
 simp only[Bool.and_eq_true,beq_iff_eq] at h
 obtain⟨⟨⟨⟨⟨h1,h2⟩,h3⟩,h4⟩,h5⟩,h6⟩:=h
 subst h1;subst h2
 have q:PE X (.Call (.Name "sorted" p1) [.Call (.Name "set" p2) [l] [] pos2] [] pos1) (tV Φ (bd X cl) EX (.sset a)):=by
  have qe:=(ha Γ k X cl EX l c h6).1
  intro pins s σ H Q I hh
  have hd:X.A.handled=none:=I.ok.hd c.calm
  refine((DZ hd (c.gl h3).1 (c.blt _ (by decide)) (c.gl h4).1 (c.blt _ (by decide)) lV IY qe (aT (env:=X.env) (es:=[]) h5)).imp fun σ H Q ⟨ρ,env,h,hE,r,p⟩=>?_) pins s σ H Q I hh
  simp only[aG] at p
  refine⟨ρ,env,h,hE,r,au p fun v h1 ρ1 x H1 g1 r1 q1 p1=>?_⟩
  obtain⟨zs,e,p1⟩:=aA p1
  obtain⟨ns,e1,p1⟩:=bJ p1
  obtain⟨e2,p1⟩:=aI p1
  obtain⟨b,ys,rfl,q2,q3⟩:=eB r1 q1 e
  rw[eZ e1] at q3
  rw[ay.ints.mp q3] at q2
  exact⟨b,ns,rfl,q2,of_decide_eq_true e2,fun l hl=>bX r1 hl (ay.ints.mpr rfl) p1⟩
 exact⟨q,cu q fun _=>rfl⟩
theorem Eu{d k x:IE}(hd:bV Φ d)(hk:bV Φ k)(hx:bV Φ x):bV Φ (.dget d k x):=by
 intro Γ n X cl EX e c h
 rw[aJ.eq_def] at h;dsimp only at h;split at h<;>first|cases h|skip
 rename_i o m ap a b cp
 simp only[Bool.and_eq_true,beq_iff_eq] at h
 obtain⟨⟨⟨⟨⟨⟨⟨h1,h2⟩,h3⟩,h4⟩,h5⟩,h6⟩,h7⟩,h8⟩:=h
 subst h1
 have st:starEach [a,b] X.env=[(false,eval a X.env),(false,eval b X.env)]:=by rw[aT h3,aT h4];rfl
 have m2:M2 X o "get" ap a b cp:=⟨super_ok h2,by rw[st];rfl,by rw[h5];exact beq_self_eq_true _,by rw[st];rfl⟩
 have q:PE X (.Call (.Attribute o "get" ap) [a,b] [] cp) (tV Φ (bd X cl) EX (.dget d k x)):=by
  refine(AA (by have:=c.units;omega) (hd Γ n X cl EX o c h6).1 (hk Γ n X cl EX a c h7).1 (hx Γ n X cl EX b c h8).1 m2).imp fun σ H Q aC=>?_
  obtain⟨ρ,env,h,hE,r,p⟩:=aC
  simp only[aG] at p
  refine⟨ρ,env,h,hE,r,au p fun v h1 ρ1 y H1 g1 r1 q1 p1=>?_⟩
  obtain⟨u0,e1,pA⟩:=aA p1
  clear p1
  cases v<;>first|(cases e1;done)|(rw[VR] at q1;exact q1.elim)|skip
  rename_i i
  rw[VR] at q1
  obtain⟨ad,rfl,q1⟩:=q1
  have hdc:∃kvs,h1[i]?=some (.dct kvs):=by
   change (match h1[i]? with|some (.dct _)=>some ()|_=>none)=some _ at e1
   split at e1
   ·rename_i kvs e2;exact⟨kvs,e2⟩
   ·cases e1
  obtain⟨kvs,e2⟩:=hdc
  obtain⟨ks,k1,k2⟩:=r1.ob i _ ad e2 q1
  refine⟨ad,rfl,.inl ⟨ks,.inl k1⟩,ρ1,env,h1,hE.up g1,r1,au pA fun w h2 ρ2 y2 H2 g2 r2 q2 p2=>?_⟩
  obtain⟨kk,e3,p2⟩:=bJ p2
  refine⟨ρ2,env,h2,(hE.up g1).up g2,r2,au p2 fun z h3 ρ3 y3 H3 g3 r3 q3 p3=>?_⟩
  obtain⟨rr,e4,p3⟩:=aA p3
  have q4:ρ3[i]?=some ad:=nC (g2.trans g3).pre q1
  have UN:∃kvs,h3[i]?=some (.dct kvs)/\rr=bQ kvs kk:=by
   change (match h3[i]? with|some (.dct kvs)=>some (bQ kvs kk)|_=>none)=some rr at e4
   split at e4
   ·rename_i kvs e2;cases e4;exact⟨kvs,e2,rfl⟩
   ·cases e4
  obtain⟨P1,e5,rfl⟩:=UN
  obtain⟨UO,k3,k4⟩:=r3.ob i _ ad e5 q4
  have ek:y2=kV kk:=by
   cases w<;>first|(cases e3;done)|skip
   ·cases e3;rw[VR] at q2;exact q2
   ·cases e3;rw[VR] at q2;exact q2
  refine⟨gD UO kk,by rw[ek];exact jU.k k3,?_⟩
  cases ev:bQ P1 kk with
  | none =>
   rw[ev] at p3
   rw[(fS.val kk k4).1 ev]
   exact ai r3 p3 _ q3
  | some z' =>
   obtain⟨t,e6,q6⟩:=(fS.val kk k4).2 z' ev
   rw[ev] at p3
   rw[e6]
   exact ai r3 p3 _ q6
 exact⟨q,cu q fun _=>rfl⟩
theorem xO{K:PySem.W.Frag}{ρ:List Addr}{H:Hp}:∀{kvs:List (Key×Val)} {ks:List (Key×V)},fS K ρ H kvs ks->ay K ρ H ((kvs.map (·.1)).map zj) (ks.map fun kv=>kV kv.1)
 | [],ks,q=>by rw[fS] at q;subst q;exact rfl
 | (k,v)::kvs,ks,q=>by
  rw[fS] at q
  obtain⟨x,r,rfl,_,q⟩:=q
  refine⟨kV k,_,rfl,?_,xO q⟩
  cases k with
  | inl i=>exact VR.int
  | inr s=>exact VR.str
theorem zx{d:IE}{m5:Unit}:∀(σ:L2.St) (H:Hp) (Q:VK),tV Φ (bd X cl) EX (.lkeys d) σ H Q->Su (tV Φ (bd X cl) EX d) σ H Q:=fun σ H Q ⟨ρ,env,h,hE,r,p⟩=>by
 simp only[aG] at p
 refine⟨ρ,env,h,hE,r,au p fun v h1 ρ1 y H1 g1 r1 q1 p1=>?_⟩
 obtain⟨P4,e1,pA⟩:=aA p1
 clear p1
 cases v<;>first|(cases e1;done)|(rw[VR] at q1;exact q1.elim)|skip
 rename_i i
 rw[VR] at q1
 obtain⟨ad,rfl,q1⟩:=q1
 have hdc:∃kvs,h1[i]?=some (.dct kvs)/\P4=kvs.map (·.1):=by
  change (match h1[i]? with|some (.dct kvs)=>some (kvs.map (·.1))|_=>none)=some _ at e1
  split at e1
  ·rename_i kvs e2;cases e1;exact⟨kvs,e2,rfl⟩
  ·cases e1
 obtain⟨kvs,e2,rfl⟩:=hdc
 obtain⟨ks,k1,k2⟩:=r1.ob i _ ad e2 q1
 exact⟨ad,ks,rfl,k1,fun l hl=>bX r1 hl (xO k2) pA⟩
theorem Bo{d:IE}(hd:bV Φ d):bV Φ (.lkeys d):=by
 intro Γ n X cl EX e c h
 rw[aJ.eq_def] at h;dsimp only at h;split at h<;>first|cases h|skip
 ·rename_i x p y qp pos
  simp only[Bool.and_eq_true,beq_iff_eq] at h
  obtain⟨⟨h1,h3⟩,h6⟩:=h
  subst h1
  have q:PE X (.Call (.Name "list" p) [.Name y qp] [] pos) (tV Φ (bd X cl) EX (.lkeys d)):=by
   have qe:=(hd Γ n X cl EX _ c h6).1
   intro pins s σ H Q I hh
   have hdl:X.A.handled=none:=I.ok.hd c.calm
   exact((ze hdl (aT rfl) (c.gl h3).1 (c.blt _ (by decide)) r6 qe).imp (zx (m5:=()))) pins s σ H Q I hh
  exact⟨q,cu q fun _=>rfl⟩
theorem Ew{d k x:IE}(hd:bV Φ d)(hk:bV Φ k)(hx:bV Φ x):bV Φ (.sdef d k x):=oN fun _ _=>rfl
theorem r8{K:PySem.W.Frag}{ρ:List Addr}{H:Hp}:∀{kvs:List (Key×Val)} {ks:List (Key×V)},fS K ρ H kvs ks->ks.map (·.1)=kvs.map (·.1)
 | [],ks,q=>by rw[fS] at q;subst q;rfl
 | (k,v)::kvs,ks,q=>by
  rw[fS] at q
  obtain⟨x,r,rfl,_,q⟩:=q
  rw[List.map_cons,List.map_cons,r8 q]
theorem r9:∀{ks:List Key} {ns:List Int},oB ks=some ns->ks=ns.map Sum.inl
 | [],ns,e=>by cases e;rfl
 | k::ks,ns,e=>by
  unfold oB at e
  rw[cg] at e
  obtain⟨i,e1,e⟩:=Option.bind_eq_some_iff.mp e
  obtain⟨r,e2,e⟩:=Option.bind_eq_some_iff.mp e
  cases e
  cases k with
  | inl j=>cases e1;rw[r9 e2];rfl
  | inr _=>cases e1
theorem zy{d:IE}{m5:Unit}:∀(σ:L2.St) (H:Hp) (Q:VK),tV Φ (bd X cl) EX (.skeys d) σ H Q->Sv (tV Φ (bd X cl) EX d) σ H Q:=fun σ H Q ⟨ρ,env,h,hE,r,p⟩=>by
 simp only[aG] at p
 refine⟨ρ,env,h,hE,r,au p fun v h1 ρ1 y H1 g1 r1 q1 p1=>?_⟩
 obtain⟨XD,e1,pA⟩:=aA p1
 clear p1
 unfold kq at e1
 obtain⟨P4,e5,e6⟩:=Option.bind_eq_some_iff.mp e1
 clear e1
 obtain⟨ns,e3,e4⟩:=Option.bind_eq_some_iff.mp e6
 clear e6
 have e1:=e5
 clear e5
 cases v<;>first|(cases e1;done)|(rw[VR] at q1;exact q1.elim)|skip
 rename_i i
 rw[VR] at q1
 obtain⟨ad,rfl,q1⟩:=q1
 have hdc:∃kvs,h1[i]?=some (.dct kvs)/\P4=kvs.map (·.1):=by
  change (match h1[i]? with|some (.dct kvs)=>some (kvs.map (·.1))|_=>none)=some _ at e1
  split at e1
  ·rename_i kvs e2;cases e1;exact⟨kvs,e2,rfl⟩
  ·cases e1
 obtain⟨kvs,e2,rfl⟩:=hdc
 obtain⟨ks,k1,k2⟩:=r1.ob i _ ad e2 q1
 by_cases hl:ns.length<64
 ·rw[if_pos hl] at e4
  cases e4
  exact⟨ad,ks,ns,rfl,k1,(r8 k2).trans (r9 e3),hl,fun l hl=>bX r1 hl (ay.ints.mpr rfl) pA⟩
 ·rw[if_neg hl] at e4;cases e4
theorem Bp{d:IE}(hd:bV Φ d):bV Φ (.skeys d):=by
 intro Γ n X cl EX e c h
 rw[aJ.eq_def] at h;dsimp only at h;split at h<;>first|cases h|skip
 ·rename_i x p y qp pos
  simp only[Bool.and_eq_true,beq_iff_eq] at h
  obtain⟨⟨h1,h3⟩,h6⟩:=h
  subst h1
  have q:PE X (.Call (.Name "sorted" p) [.Name y qp] [] pos) (tV Φ (bd X cl) EX (.skeys d)):=by
   have qe:=(hd Γ n X cl EX _ c h6).1
   intro pins s σ H Q I hh
   have hdl:X.A.handled=none:=I.ok.hd c.calm
   exact((zf hdl (aT rfl) (c.gl h3).1 (c.blt _ (by decide)) lV qe).imp (zy (m5:=()))) pins s σ H Q I hh
  exact⟨q,cu q fun _=>rfl⟩
theorem Bq{d:IE}(hd:bV Φ d):bV Φ (.svals d):=oN fun _ _=>rfl
theorem IZ{b:Bl}{es:eO}(hs:jq Φ es):bV Φ (.blt b es):=by
 cases b with
 | isin T=>exact Es hs
 | _ =>
  intro Γ k X cl EX e c h
  rw[aJ.eq_def] at h;dsimp only at h;split at h<;>first|cases h|skip
  rename_i x p args pos
  simp only[Bool.and_eq_true,beq_iff_eq] at h
  obtain⟨⟨h1,h2⟩,h3⟩:=h
  subst h2
  obtain⟨g1,g2,g3⟩:=c.gl h1
  cases args with
  | nil=>cases h3.1
  | cons l ls =>
   cases es with
   | nil=>have:=h3.2;rw[aK] at this;cases this
   | cons i dR =>
    have h5:=h3.2
    rw[aK.eq_def] at h5;dsimp only at h5
    simp only[Bool.and_eq_true] at h5
    have hA:=hs.1 Γ k X cl EX _ c h3.2
    have st:=aT (env:=X.env) (es:=ls) h5.1.1
    have an:=fB (pos:=pos) (env:=X.env) h5.2
    refine(fun q=>⟨q,cu q fun _=>rfl⟩) ?_
    first
     | refine(fX (Ig (cl:=cl) (EX:=EX)) g1 (c.blt _ (by decide)) PySem.boot_len hA g3 g2 st an).imp fun σ H Q ⟨ρ,env,h,hE,r,p⟩=>?_
     | refine(fX (Ih (cl:=cl) (EX:=EX) c.calm) g1 (c.blt _ (by decide)) IW hA g3 g2 st an).imp fun σ H Q ⟨ρ,env,h,hE,r,p⟩=>?_
     | refine(fX (Ii (cl:=cl) (EX:=EX) c.calm) g1 (c.blt _ (by decide)) IX hA g3 g2 st an).imp fun σ H Q ⟨ρ,env,h,hE,r,p⟩=>?_
     | refine(fX (zp (cl:=cl) (EX:=EX)) g1 (c.blt _ (by decide)) lV hA g3 g2 st an).imp fun σ H Q ⟨ρ,env,h,hE,r,p⟩=>?_
     | refine(fX (Im (cl:=cl) (EX:=EX) c.calm) g1 (c.blt _ (by decide)) IU hA g3 g2 st an).imp fun σ H Q ⟨ρ,env,h,hE,r,p⟩=>?_
     | refine(fX (Io (cl:=cl) (EX:=EX) c.calm) g1 (c.blt _ (by decide)) IV hA g3 g2 st an).imp fun σ H Q ⟨ρ,env,h,hE,r,p⟩=>?_
     | refine(jL (Ea (cl:=cl) (EX:=EX)) g1 (c.blt _ (by decide)) r6 hA g3 g2 st an).imp fun σ H Q ⟨ρ,env,h,hE,r,p⟩=>?_
     | refine(jL (Bg (cl:=cl) (EX:=EX)) g1 (c.blt _ (by decide)) ur hA g3 g2 st an).imp fun σ H Q ⟨ρ,env,h,hE,r,p⟩=>?_
     | refine(jL (Ij (cl:=cl) (EX:=EX)) g1 (c.blt _ (by decide)) Bk hA g3 g2 st an).imp fun σ H Q ⟨ρ,env,h,hE,r,p⟩=>?_
     | refine(jL (Il (cl:=cl) (EX:=EX)) g1 (c.blt _ (by decide)) Bm hA g3 g2 st an).imp fun σ H Q ⟨ρ,env,h,hE,r,p⟩=>?_
    simp only[aG] at p
    exact⟨ρ,env,h,hE,r,bx p fun vs h1 ρ1 H1 g1 r1 p1 xs q1=>⟨ρ1,h1,vs,r1,q1,p1⟩⟩
noncomputable def SD:Me->String
 | .join=>"str" | .append=>"list" | .extend=>"list"
theorem Ex{B:Bd}{ρ:List Addr}{h:Hs}{H:Hp}{m:Me}{v:Val}{x:V}(r:HR B ρ h H)(q:VR B.K ρ H v x)(e:recv h m v=some ()):Pe B.K (SD m) x H:=by
 cases m<;>cases v<;>simp only[recv] at e<;>first|cases e|skip
 ·rw[VR] at q;subst q;rfl
 ·split at e
  ·rename_i xs e1
   obtain⟨a,ys,rfl,q0,q1,q2⟩:=jO r q e1
   exact .inl ⟨rfl,ys,.inl (.inl q1)⟩
  ·cases e
 ·split at e
  ·rename_i xs e1
   obtain⟨a,ys,rfl,q0,q1,q2⟩:=jO r q e1
   exact .inl ⟨rfl,ys,.inl (.inl q1)⟩
  ·cases e
theorem Ja{m:Me}{a:IE}{es:eO}(ha:bV Φ a)(hs:jq Φ es):bV Φ (.met m a es):=by
 intro Γ k X cl EX e c h
 rw[aJ.eq_def] at h;dsimp only at h;split at h<;>first|cases h|skip
 rename_i o x ap args cp
 simp only[Bool.and_eq_true,beq_iff_eq] at h
 obtain⟨⟨⟨⟨⟨⟨h1,h2⟩,h3⟩,h4⟩,h5⟩,h6⟩,h7⟩:=h
 subst h1
 cases args with
 | nil=>cases h3
 | cons l ls =>
  have hA:=hs.1 Γ k X cl EX _ c h7
  have h8:noStar l=true/\∃dR,aK Γ dR ls=true:=by
   cases es with
   | nil=>rw[aK] at h7;cases h7
   | cons i dR=>rw[aK.eq_def] at h7;dsimp only at h7;simp only[Bool.and_eq_true] at h7;exact⟨h7.1.1,dR,h7.2⟩
  obtain⟨n1,dR,n2⟩:=h8
  have st:=aT (env:=X.env) (es:=ls) n1
  have an:=fB (pos:=cp) (env:=X.env) n2
  have few:((backTo cp (starEach (l::ls) X.env)).all (fun x=>!x.1)&&(backToKw cp (keywordEach [] X.env)).all (fun x=>x.1.isSome)
   && decide ((l::ls).length+([]:List Keyword).length+(if ([]:List Keyword).isEmpty then 0 else 1)<30))=true:=by
   rw[oM h7]
   have:(l::ls).length<29:=of_decide_eq_true h4
   simp only[Bool.true_and,Bool.and_eq_true]
   exact⟨rfl,decide_eq_true (by simp at this |-;omega)⟩
  have hl:(ap.endLine==cp.line)=true:=by rw[h5];exact beq_self_eq_true _
  refine(fun q=>⟨q,cu q fun _=>rfl⟩) ?_
  have fin:∀(T:String) (r:V->List V->Hp->VK->Prop),(∀x xs H Q,Ol (bd X cl) EX m x xs H Q->r x xs H Q)->T=SD m->∀σ H Q,tV Φ (bd X cl) EX (.met m a es) σ H Q->Sb X.K T r (tV Φ (bd X cl) EX a) (Sz Φ (bd X cl) EX es) σ H Q:=by
   rintro T rr hr rfl σ H Q ⟨ρ,env,h,hE,r,p⟩
   simp only[aG] at p
   refine⟨ρ,env,h,hE,r,au p fun v h1 ρ1 x H1 g1 r1 q1 p1=>?_⟩
   obtain⟨_,e1,p2⟩:=aA p1
   refine⟨Ex r1 q1 e1,ρ1,env,h1,hE.up g1,r1,bx p2 fun vs h2 ρ2 H2 g2 r2 p3 xs q2=>hr _ _ _ _ ⟨ρ2,h2,v,vs,r2,VR.up g2 _ _ q1,q2,p3⟩⟩
  cases m with
  | join=>exact(Av PySem.F.plainAttrs_str PySem.F.slot_str_join PySem.F.type_str_join (Ed (cl:=cl) (EX:=EX)) (ha Γ k X cl EX o c h6).1 hA (super_ok h2) few hl st an).imp (fin _ _ (fun _ _ _ _ z=>z) rfl)
  | append=>exact(Av PySem.F.plainAttrs_list PySem.F.slot_list_append PySem.F.type_list_append (zq (cl:=cl) (EX:=EX)) (ha Γ k X cl EX o c h6).1 hA (super_ok h2) few hl st an).imp (fin _ _ (fun _ _ _ _ z=>z) rfl)
  | extend=>exact(Av PySem.F.plainAttrs_list PySem.F.slot_list_extend PySem.F.type_list_extend (zu (cl:=cl) (EX:=EX)) (ha Γ k X cl EX o c h6).1 hA (super_ok h2) few hl st an).imp (fin _ _ (fun _ _ _ _ z=>z) rfl)
end
end Hv
end
section
namespace Hv
open PySem L2 PyProof.Rows
theorem _root_.L2.PI.or{X:Cx}{tg iter:Expr}{t t':TI}(h:PI X tg iter t)(h':PI X tg iter t'):PI X tg iter (fun σ H R=>t σ H R\/t' σ H R):=fun pins s σ H R I hw=>hw.elim (h pins s σ H R I) (h' pins s σ H R I)
structure Walks (B:Bd) (src:Src) (J:It) (ρ1:List Addr) (H1:Hp):Prop where
 stop:∀{ρ h H i xs},Gw ρ1 H1 ρ H->HR B ρ h H->src.items h=some xs->xs.length<=i->J.stop i H
 go:∀{ρ h H i xs v},Gw ρ1 H1 ρ H->HR B ρ h H->src.items h=some xs->xs[i]?=some v->J.go i H
 vo:∀{ρ h H i xs v y H'},Gw ρ1 H1 ρ H->HR B ρ h H->src.items h=some xs->xs[i]?=some v->J.vo i H y H'->Gr ρ H ρ H'/\HR B ρ h H'/\VR B.K ρ H' v y
section
variable {B:Bd} {ρ1:List Addr} {H1:Hp} {a:Addr}
theorem zA{vs:List Val}{xs:List V}(q:iI B.K H1 a xs)(e:ay B.K ρ1 H1 vs xs):Walks B (.fix vs) (OV B.K a) ρ1 H1 where
 stop:=fun g r hi hl=>by
  cases hi
  exact⟨xs,g.Oi q,by rw[<-e.length];exact hl⟩
 go:=fun g r hi hv=>by
  cases hi
  obtain⟨x,k1,_⟩:=e.get hv
  exact⟨xs,x,g.Oi q,k1⟩
 vo:=fun g r hi hv y=>by
  cases hi
  obtain⟨rfl,y⟩:=y
  obtain⟨x,k1,k2⟩:=e.get hv
  have:=y xs (g.Oi q)
  rw[k1] at this;cases this
  exact⟨Gr.refl,r,VR.jW g _ _ k2⟩
theorem Br{vs:List Val}{xs:List V}(q:FU B.K H1 a xs)(e:ay B.K ρ1 H1 vs xs):Walks B (.fix vs) (Oa B.K a) ρ1 H1 where
 stop:=fun g r hi hl=>by
  cases hi
  exact⟨xs,(g.HY q).sq,by rw[<-e.length];exact hl⟩
 go:=fun g r hi hv=>by
  cases hi
  obtain⟨x,k1,_⟩:=e.get hv
  exact⟨xs,x,(g.HY q).sq,k1⟩
 vo:=fun g r hi hv y=>by
  cases hi
  obtain⟨rfl,y⟩:=y
  obtain⟨x,k1,k2⟩:=e.get hv
  have:=y xs (g.HY q).sq
  rw[k1] at this;cases this
  exact⟨Gr.refl,r,VR.jW g _ _ k2⟩
theorem jP{i:Nat}{ρ:List Addr}{h:Hs}{H:Hp}{xs:List Val}(q:ρ1[i]?=some a)(g:Gw ρ1 H1 ρ H)(r:HR B ρ h H)(hi:(Src.live i).items h=some xs):∃ys,fO B.K H a ys/\ay B.K ρ H xs ys:=by
 obtain⟨b,ys,e,k1,k2⟩:=eB r (VR.ref (nC g.pre q)) (show aB h (.ref i)=some xs from hi)
 cases e
 exact⟨ys,k1,k2⟩
theorem wg{i:Nat}(q:ρ1[i]?=some a):Walks B (.live i) (Oa B.K a) ρ1 H1 where
 stop:=fun g r hi hl=>by
  obtain⟨ys,k1,k2⟩:=jP q g r hi
  exact⟨ys,k1,by rw[<-k2.length];exact hl⟩
 go:=fun g r hi hv=>by
  obtain⟨ys,k1,k2⟩:=jP q g r hi
  obtain⟨x,k3,_⟩:=k2.get hv
  exact⟨ys,x,k1,k3⟩
 vo:=fun g r hi hv y=>by
  obtain⟨ys,k1,k2⟩:=jP q g r hi
  obtain⟨rfl,y⟩:=y
  obtain⟨x,k3,k4⟩:=k2.get hv
  have:=y ys k1
  rw[k3] at this;cases this
  exact⟨Gr.refl,r,k4⟩
theorem gH(lo:Int)(n:Nat):(bW lo n).length=n:=by unfold bW;simp
theorem mQ{lo:Int}{n:Nat}:Walks B (.fix (bW lo n)) (Lf lo n) ρ1 H1 where
 stop:=fun g r hi hl=>by
  cases hi
  rw[gH] at hl;exact hl
 go:=fun g r hi hv=>by
  cases hi
  have:=(List.getElem?_eq_some_iff.mp hv).1
  rw[gH] at this;exact this
 vo:=fun {ρ h H i xs v y H'} g r hi hv y'=>by
  cases hi
  obtain⟨rfl,rfl⟩:=y'
  have hl:=(List.getElem?_eq_some_iff.mp hv).1
  rw[gH] at hl
  have e:(bW lo n)[i]?=some (.int (lo+i)):=by unfold bW;simp[hl]
  rw[e] at hv;cases hv
  exact⟨Gr.refl,r,VR.int⟩
theorem fT:∀(i:Nat) (ds:List Val),(cF i ds).length=ds.length
 | _,[]=>rfl
 | i,d::r=>by simp[cF,fT (i+1) r]
theorem qL:∀(k:Nat) (ds:List Val) (i:Nat) (d:Val),ds[i]?=some d->(cF k ds)[i]?=some (.tup [.int ((k+i:Nat):Int),d])
 | _,[],_,_,h=>by simp at h
 | k,e::r,0,d,h=>by simp at h;subst h;simp[cF]
 | k,e::r,i+1,d,h=>by
  have:=qL (k+1) r i d (by simpa using h)
  simp only[cF,List.getElem?_cons_succ]
  rw[this]
  have e1:k+1+i=k+(i+1):=by omega
  rw[e1]
theorem lW{ds:List Val}{i:Nat}{v:Val}(e:(cF 0 ds)[i]?=some v):∃d,ds[i]?=some d/\v=.tup [.int (i:Int),d]:=by
 have hl:=(List.getElem?_eq_some_iff.mp e).1
 rw[fT] at hl
 have e1:=qL 0 ds i ds[i] (List.getElem?_eq_getElem hl)
 rw[e] at e1
 cases e1
 exact⟨ds[i],List.getElem?_eq_getElem hl,by rw[Nat.zero_add]⟩
theorem uv{ρ:List Addr}{h:Hs}{H H':Hp}{i:Nat}{xs:List Val}{ys:List V}{v:Val}{y:V}(r:HR B ρ h H)(k1:fO B.K H a ys)(k2:ay B.K ρ H xs ys)(hv:(cF 0 xs)[i]?=some v)(hy:(LJ B.K a).vo i H y H'):Gr ρ H ρ H'/\HR B ρ h H'/\VR B.K ρ H' v y:=by
 obtain⟨p,w,hn,rfl,rfl,hy⟩:=hy
 obtain⟨d,e1,rfl⟩:=lW hv
 obtain⟨x,k3,k4⟩:=k2.get e1
 have:=hy ys k1
 rw[k3] at this;cases this
 exact⟨Gr.side hn,r.side hn,VR.tup (iI.of aM) (ay.cons VR.int (ay.cons (VR.up (Gr.side hn) _ _ k4) ay.nil))⟩
theorem uw{vs:List Val}{xs:List V}(q:FU B.K H1 a xs)(e:ay B.K ρ1 H1 vs xs):Walks B (.fix (cF 0 vs)) (LJ B.K a) ρ1 H1 where
 stop:=fun g r hi hl=>by
  cases hi
  rw[fT] at hl
  exact⟨xs,(g.HY q).sq,by rw[<-e.length];exact hl⟩
 go:=fun g r hi hv=>by
  cases hi
  obtain⟨d,e1,_⟩:=lW hv
  obtain⟨x,k1,_⟩:=e.get e1
  exact⟨xs,x,(g.HY q).sq,k1⟩
 vo:=fun g r hi hv y=>by
  cases hi
  exact uv r (g.HY q).sq (ay.jW g _ _ e) hv y
theorem ux{i:Nat}(q:ρ1[i]?=some a):Walks B (.enum i) (LJ B.K a) ρ1 H1 where
 stop:=fun g r hi hl=>by
  obtain⟨zs,e1,rfl⟩:=Option.map_eq_some_iff.mp hi
  obtain⟨ys,k1,k2⟩:=jP q g r e1
  rw[fT] at hl
  exact⟨ys,k1,by rw[<-k2.length];exact hl⟩
 go:=fun g r hi hv=>by
  obtain⟨zs,e1,rfl⟩:=Option.map_eq_some_iff.mp hi
  obtain⟨ys,k1,k2⟩:=jP q g r e1
  obtain⟨d,e2,_⟩:=lW hv
  obtain⟨x,k3,_⟩:=k2.get e2
  exact⟨ys,x,k1,k3⟩
 vo:=fun g r hi hv y=>by
  obtain⟨zs,e1,rfl⟩:=Option.map_eq_some_iff.mp hi
  obtain⟨ys,k1,k2⟩:=jP q g r e1
  exact uv r k1 k2 hv y
end
section
variable {Φ:Fn} {Γ:ng} {k:Nat} {X:Cx} {cl:Nat->Addr} {EX:Nat->List V->Hp->Prop}
noncomputable def KI(Φ:Fn)(ik:Ik)(it:eO)(env:Env):M Src:=bnd (aR Φ it env) fun its=>bw (srcOf ik its)
noncomputable def tI(Φ:Fn)(B:Bd)(EX:Nat->List V->Hp->Prop)(ik:Ik)(it:eO):TI:=fun σ H R=>∃ρ env h,cR B.K ρ env σ H/\HR B ρ h H /\
 Post B EX ρ H (fun src h' ρ' H'=>(∃xs,src.items h'=some xs)/\∀J,Walks B src J ρ' H'->R J H') (KI Φ ik it env h)
theorem Ga{ik:Ik}{it:eO}(hs:jq Φ it)(c:Ctx Φ Γ k X cl EX){tg iter:Expr}(h:uo Γ ik it iter=true)(ht:ik=.enum\/ik=.zip->∃es kk pos,tg=.Tuple es kk pos):PI X tg iter (tI Φ (bd X cl) EX ik it)/\∀x,foldedSetIterable iter X.env x=pure x:=by
 cases it with
 | nil=>rw[uo] at h;cases h
 | cons e es =>
  rw[uo.eq_def] at h;dsimp only at h
  cases ik with
  | seq =>
   dsimp only at h
   split at h<;>first|cases h|skip
   rename_i hs'
   simp only[Bool.and_eq_true] at h
   have q:=(hs.2.1 Γ k X cl EX iter c h.2).1
   refine⟨((Dl q).or (GQ q)).imp fun σ H R ⟨ρ,env,h,hE,r,p⟩=>?_,fun x=>?_⟩
   ·simp only[KI,uu,aS,cK] at p
    have key:∀(Q:VK),(∀v h1 ρ1 x H1,aG Φ e env h=.ok v h1->Gr ρ H ρ1 H1->HR (bd X cl) ρ1 h1 H1->VR X.K ρ1 H1 v x->Post (bd X cl) EX ρ1 H1 (fun src h' ρ' H'=>(∃xs,src.items h'=some xs)/\∀J,Walks (bd X cl) src J ρ' H'->R J H') (bw (srcOf .seq [v]) h1)->Q x H1)->tV Φ (bd X cl) EX e σ H Q:=fun Q kk =>
     ⟨ρ,env,h,hE,r,dJ p fun v h1 ρ1 H1 e1 g1 r1 p1 x q1=>kk v h1 ρ1 x H1 e1 g1 r1 q1 p1⟩
    cases ev:aG Φ e env h with
    | ok v h1 =>
     cases v with
     | tup vs =>
      refine .inr (key _ fun v h1 ρ1 x H1 e1 g1 r1 q1 p1=>?_)
      rw[ev] at e1;cases e1
      obtain⟨src,e2,w1,w2⟩:=cC r1 p1
      cases e2
      rw[VR] at q1
      obtain⟨a,xs,rfl,k1,k2⟩:=q1
      exact⟨a,rfl,⟨xs,k1⟩,w2 _ (zA k1 k2)⟩
     | rl vs =>
      refine .inl (key _ fun v h1 ρ1 x H1 e1 g1 r1 q1 p1=>?_)
      rw[ev] at e1;cases e1
      obtain⟨src,e2,w1,w2⟩:=cC r1 p1
      cases e2
      rw[VR] at q1
      obtain⟨a,xs,rfl,k1,k2⟩:=q1
      exact⟨a,rfl,⟨xs,k1.sq⟩,w2 _ (Br k1 k2)⟩
     | ref i =>
      refine .inl (key _ fun v h1 ρ1 x H1 e1 g1 r1 q1 p1=>?_)
      rw[ev] at e1;cases e1
      obtain⟨src,e2,⟨zs,w1⟩,w2⟩:=cC r1 p1
      cases e2
      have q0:=q1
      rw[VR] at q1
      obtain⟨a,rfl,k1⟩:=q1
      obtain⟨b,ys,e3,k2,k3⟩:=eB r1 q0 (show aB h1 (.ref i)=some zs from w1)
      cases e3
      exact⟨a,rfl,⟨ys,k2⟩,w2 _ (wg k1)⟩
     | _ =>
      refine .inl (key _ fun v h1 ρ1 x H1 e1 g1 r1 q1 p1=>?_)
      rw[ev] at e1;cases e1
      obtain⟨src,e2,_⟩:=cC r1 p1
      cases e2
    | exc _ _ _=>exact .inl (key _ fun v h1 ρ1 x H1 e1=>by rw[ev] at e1;cases e1)
    | no=>exact .inl (key _ fun v h1 ρ1 x H1 e1=>by rw[ev] at e1;cases e1)
   ·cases iter<;>first|rfl|(exact absurd h.1 Bool.false_ne_true)
  | range =>
   dsimp only at h
   split at h<;>first|cases h|skip
   rename_i x xp a args pos
   simp only[Bool.and_eq_true,beq_iff_eq] at h
   obtain⟨⟨⟨⟨⟨h1,h2⟩,h3⟩,h4⟩,h5⟩,h6⟩:=h
   subst h1
   obtain⟨g1,g2,g3⟩:=c.gl h2
   have hm:=c.blt _ (show ("range":Str)∈f9 by decide)
   refine⟨?_,fun x=>rfl⟩
   have hA:=hs.1 Γ k X cl EX (a::args) c (by rw[aK.eq_def];simp[h3,h4,h5])
   cases args with
   | nil =>
    cases es with
    | cons i dR=>rw[aK.eq_def] at h5;cases h5
    | nil =>
     refine(yE g1 hm hA (aT h3)).imp fun σ H R aC=>?_
     obtain⟨ρ,env,h,hE,r,p⟩:=aC
     refine⟨ρ,env,h,hE,r,dJ p fun vs h1 ρ1 H1 e1 SE r1 p1 xs q1=>?_⟩
     obtain⟨src,e2,w1,w2⟩:=cC r1 p1
     match vs,e2 with
     | [.int n],e2 =>
      change (if inR n=true then some (Src.fix (bW 0 n.toNat)) else none)=some src at e2
      split at e2
      ·rename_i hn;cases e2
       simp only[inR,Bool.and_eq_true,decide_eq_true_eq] at hn
       obtain⟨x,rfl,hx⟩:=ay.one q1
       rw[VR] at hx;subst hx
       exact⟨n,rfl,hn.1,hn.2,w2 _ mQ⟩
      ·cases e2
     | [.int _,.int _],e2=>have:=gY (Γ:=Γ) (ls:=[a]) (by rw[aK.eq_def];simp[h3,h4,aK]) e1;simp at this
   | cons b args =>
    cases args with
    | cons _ _=>have:=of_decide_eq_true h6;simp only[List.length_cons] at this;omega
    | nil =>
     have hb:noStar b=true:=by
      cases es with
      | nil=>rw[aK] at h5;cases h5
      | cons i dR=>rw[aK.eq_def] at h5;dsimp only at h5;simp only[Bool.and_eq_true] at h5;exact h5.1.1
     refine(yF g1 hm hA (by rw[aT h3,aT hb];rfl) (by rw[aT hb];rfl)).imp fun σ H R aC=>?_
     obtain⟨ρ,env,h,hE,r,p⟩:=aC
     refine⟨ρ,env,h,hE,r,dJ p fun vs h1 ρ1 H1 e1 SE r1 p1 xs q1=>?_⟩
     obtain⟨src,e2,w1,w2⟩:=cC r1 p1
     match vs,e2 with
     | [.int _],e2=>have:=gY (Γ:=Γ) (ls:=[a,b]) (by rw[aK.eq_def];simp[h3,h4,h5]) e1;simp at this
     | [.int lo,.int hi],e2 =>
      change (if (inR lo&&inR hi)=true then some (Src.fix (bW lo (hi-lo).toNat)) else none)=some src at e2
      split at e2
      ·rename_i hn;cases e2
       simp only[inR,Bool.and_eq_true,decide_eq_true_eq] at hn
       obtain⟨x,y,rfl,hx,hy⟩:=ay.two q1
       rw[VR] at hx;rw[VR] at hy;subst hx;subst hy
       exact⟨lo,hi,rfl,⟨hn.1.1,hn.1.2,hn.2.1,hn.2.2⟩,w2 _ mQ⟩
      ·cases e2
  | enum =>
   dsimp only at h
   split at h<;>first|cases h|skip
   rename_i x xp a pos
   simp only[Bool.and_eq_true,beq_iff_eq] at h
   obtain⟨⟨⟨h1,h2⟩,h3⟩,h4⟩:=h
   subst h1
   obtain⟨g1,g2,g3⟩:=c.gl h2
   have hm:=c.blt _ (show ("enumerate":Str)∈f9 by decide)
   obtain⟨XE,tk,tp,rfl⟩:=ht (.inl rfl)
   refine⟨?_,fun x=>rfl⟩
   have hA:=hs.1 Γ k X cl EX [a] c (by rw[aK.eq_def];simp[h3,h4,aK])
   refine(DV g1 hm hA (aT h3)).imp fun σ H R aC=>?_
   obtain⟨ρ,env,h,hE,r,p⟩:=aC
   refine⟨ρ,env,h,hE,r,dJ p fun vs h1 ρ1 H1 e1 SE r1 p1 xs q1=>?_⟩
   obtain⟨src,e2,⟨zs,w1⟩,w2⟩:=cC r1 p1
   match vs,e2 with
   | [.rl ws],e2 =>
    cases e2
    obtain⟨x,rfl,hx⟩:=ay.one q1
    rw[VR] at hx
    obtain⟨b,ys,rfl,k1,k2⟩:=hx
    exact⟨b,rfl,⟨ys,k1.sq⟩,w2 _ (uw k1 k2)⟩
   | [.ref i],e2 =>
    cases e2
    obtain⟨x,rfl,hx⟩:=ay.one q1
    obtain⟨us,w3,_⟩:=Option.map_eq_some_iff.mp w1
    obtain⟨b,ys,rfl,k2,k3⟩:=eB r1 hx w3
    rw[VR] at hx
    obtain⟨b',e3,k1⟩:=hx
    cases e3
    exact⟨b,rfl,⟨ys,k2⟩,w2 _ (ux k1)⟩
  | zip=>cases h
end
end Hv
end
section
namespace Hv
open PySem L2 PyProof.Rows
section
variable {Φ:Fn} {Γ:ng} {k:Nat} {X:Cx} {cl:Nat->Addr} {EX:Nat->List V->Hp->Prop}
noncomputable def oO:List Nat->FG
 | []=>Lc
 | i::is=>FH (mG i) (oO is)
noncomputable def zB(K:PySem.W.Frag):jV->TG
 | .one i=>mG i
 | .tup is=>Ld K is.length (oO is)
noncomputable def gI:List Nat->List V->L2.St->L2.St
 | i::is,v::vs,σ=>gI is vs (σ.set i (some v))
 | _,_,σ=>σ
theorem lX:∀{is:List Nat} {vs:List V} {σ:L2.St} {H:Hp} {Q:L2.St->Hp->Prop},vs.length=is.length->Q (gI is vs σ) H->oO is vs σ H Q
 | [],[],_,_,_,_,h=>⟨rfl,h⟩
 | i::is,v::vs,σ,H,Q,hl,h=>⟨v,vs,rfl,lX (by simpa using hl) h⟩
theorem qM(hnd:X.N.Nodup):∀{is:List Nat} {es:List Expr},es.length=is.length->(∀p∈is.zip es,∃x pos,p.2=.Name x pos/\X.N[p.1]?=some x/\X.env.scope.names.lookup x=some .local)->Ky X es (oO is)
 | [],[],_,_=>wV
 | i::is,e::es,hl,h=>by
  obtain⟨x,pos,rfl,h1,h2⟩:=h (i,e) (by simp)
  exact sY (nt hnd h1 (.inl h2) (.inr h2)) (qM hnd (by simpa using hl) fun p hp=>h p (by simp[hp]))
theorem gb{env:PySem.Env}:∀{es:List Expr},(∀e∈es,∃x pos,e=.Name x pos)->(assignEach es env).length=es.length/\(assignEach es env).findIdx? (·.1)=none
 | [],_=>⟨rfl,rfl⟩
 | e::es,h=>by
  obtain⟨x,pos,rfl⟩:=h e List.mem_cons_self
  obtain⟨h1,h2⟩:=gb (env:=env) (es:=es) fun e he=>h e (List.mem_cons_of_mem _ he)
  have e1:assignEach (Expr.Name x pos::es) env=(false,assign (Expr.Name x pos) env)::assignEach es env:=rfl
  rw[e1]
  refine⟨by simp[h1],?_⟩
  rw[List.findIdx?_cons,h2];rfl
theorem Bs{i:Nat}{tg:Expr}(h:uh Γ (.one i) tg=true):∃x p,tg=.Name x p:=by
 cases tg<;>first|exact⟨_,_,rfl⟩|exact absurd h Bool.false_ne_true
theorem uy{is:List Nat}{tg:Expr}(h:uh Γ (.tup is) tg=true):∃es k p,tg=.Tuple es k p:=by
 cases tg<;>first|exact⟨_,_,_,rfl⟩|exact absurd h Bool.false_ne_true
theorem Bt(c:Ctx Φ Γ k X cl EX)(hnd:X.N.Nodup){pat:jV}{tg:Expr}(h:uh Γ pat tg=true):PG X tg (zB X.K pat):=by
 cases pat with
 | one i =>
  obtain⟨x,xp,rfl⟩:=Bs h
  simp only[uh,Bool.and_eq_true,beq_iff_eq] at h
  obtain⟨h1,h2⟩:=h
  exact nt hnd (by rw[c.N];exact h1) (.inl (by rw[c.sc];exact h2)) (.inr (by rw[c.sc];exact h2))
 | tup is =>
  obtain⟨es,kk,pos,rfl⟩:=uy h
  ·
   simp only[uh,Bool.and_eq_true,beq_iff_eq,List.all_eq_true] at h
   obtain⟨h1,h2⟩:=h
   have names:∀p∈is.zip es,∃x pos,p.2=.Name x pos/\X.N[p.1]?=some x/\X.env.scope.names.lookup x=some .local:=fun p hp=>by
    have q:=h2 p hp
    cases ep:p.2<;>rw[ep] at q<;>simp at q
    rename_i x pos'
    exact⟨x,pos',rfl,by rw[c.N];exact q.1,by rw[c.sc];exact q.2⟩
   have all:∀e∈es,∃x pos,e=.Name x pos:=fun e he=>by
    obtain⟨n,hn,rfl⟩:=List.getElem_of_mem he
    have hm:(is[n]'(by omega),es[n])∈is.zip es:=List.mem_iff_getElem?.mpr ⟨n,by rw[List.getElem?_zip_eq_some];simp[hn]⟩
    obtain⟨x,pos,q,_⟩:=names _ hm
    exact⟨x,pos,q⟩
   obtain⟨l1,l2⟩:=gb (env:=X.env) all
   exact Ad c.calm (qM hnd h1 names) (by rw[l1,h1]) l2
noncomputable def uz(Γ:ng):jV->Expr->Bool
 | .one i,.Name x _=>Γ.N[i]?==some x&&(Γ.sc.names.lookup x==some .local || Γ.sc.names.lookup x==some .cell)
 | .tup is,.Tuple es _ _=>es.length==is.length&&(is.zip es).all fun p=>match p.2 with
  | .Name x _=>Γ.N[p.1]?==some x&&(Γ.sc.names.lookup x==some .local || Γ.sc.names.lookup x==some .cell)
  | _=>false
 | _,_=>false
theorem oQ(hfn:∀x,X.fn x=true)(hnd:X.N.Nodup):∀{is:List Nat} {es:List Expr},es.length=is.length->(∀p∈is.zip es,∃x pos,p.2=.Name x pos/\X.N[p.1]?=some x/\Loc X.env.scope x)->Ky X es (oO is)
 | [],[],_,_=>wV
 | i::is,e::es,hl,h=>by
  obtain⟨x,pos,rfl,h1,h2⟩:=h (i,e) (by simp)
  exact sY (nt hnd h1 h2 (.inl (hfn x))) (oQ hfn hnd (by simpa using hl) fun p hp=>h p (by simp[hp]))
theorem oR{i:Nat}{tg:Expr}(h:uz Γ (.one i) tg=true):∃x p,tg=.Name x p:=by
 cases tg<;>first|exact⟨_,_,rfl⟩|exact absurd h Bool.false_ne_true
theorem kQ{is:List Nat}{tg:Expr}(h:uz Γ (.tup is) tg=true):∃es k p,tg=.Tuple es k p:=by
 cases tg<;>first|exact⟨_,_,_,rfl⟩|exact absurd h Bool.false_ne_true
theorem xP(c:Ctx Φ Γ k X cl EX)(hfn:∀x,X.fn x=true)(hnd:X.N.Nodup){pat:jV}{tg:Expr}(h:uz Γ pat tg=true):PG X tg (zB X.K pat):=by
 have loc:∀x,(Γ.sc.names.lookup x==some .local || Γ.sc.names.lookup x==some .cell)=true->Loc X.env.scope x:=fun x e=>by
  unfold L2.Loc;rw[c.sc]
  simpa using e
 cases pat with
 | one i =>
  obtain⟨x,pos,rfl⟩:=oR h
  simp only[uz,Bool.and_eq_true,beq_iff_eq] at h
  obtain⟨h1,h2⟩:=h
  exact nt hnd (by rw[c.N];exact h1) (loc _ h2) (.inl (hfn _))
 | tup is =>
  obtain⟨es,kk,pos,rfl⟩:=kQ h
  ·
   simp only[uz,Bool.and_eq_true,beq_iff_eq,List.all_eq_true] at h
   obtain⟨h1,h2⟩:=h
   have names:∀p∈is.zip es,∃x pos,p.2=.Name x pos/\X.N[p.1]?=some x/\Loc X.env.scope x:=fun p hp=>by
    have q:=h2 p hp
    cases ep:p.2<;>rw[ep] at q<;>first|cases q|skip
    rename_i x pos'
    simp only[Bool.and_eq_true,beq_iff_eq] at q
    exact⟨x,pos',rfl,by rw[c.N];exact q.1,loc _ q.2⟩
   have all:∀e∈es,∃x pos,e=.Name x pos:=fun e he=>by
    obtain⟨n,hn,rfl⟩:=List.getElem_of_mem he
    have hm:(is[n]'(by omega),es[n])∈is.zip es:=List.mem_iff_getElem?.mpr ⟨n,by rw[List.getElem?_zip_eq_some];simp[hn]⟩
    obtain⟨x,pos,q,_⟩:=names _ hm
    exact⟨x,pos,q⟩
   obtain⟨l1,l2⟩:=gb (env:=X.env) all
   exact Ad c.calm (oQ hfn hnd h1 names) (by rw[l1,h1]) l2
theorem cR.set{K:PySem.W.Frag}{ρ:List Addr}{env:Env}{σ:L2.St}{H:Hp}{i:Nat}{v:Val}{x:V}(e:cR K ρ env σ H)(hl:env.length = σ.length)(q:VR K ρ H v x):cR K ρ (env.set i (some v)) (σ.set i (some x)) H:=fun j w hj=>by
 by_cases hij:i=j
 ·subst hij
  have hi:i<env.length:=by
   have:=(List.getElem?_eq_some_iff.mp hj).1
   simpa using this
  rw[List.getElem?_set_self hi] at hj
  cases hj
  exact⟨x,by rw[List.getElem?_set_self (by rw[<-hl];exact hi)],q⟩
 ·rw[List.getElem?_set_ne hij] at hj
  rw[List.getElem?_set_ne hij]
  exact e j w hj
theorem kr{K:PySem.W.Frag}{ρ:List Addr}{H:Hp}:∀{is:List Nat} {ds:List Val} {xs:List V} {env env':Env} {σ:L2.St},bindAll is ds env=some env'->ay K ρ H ds xs->cR K ρ env σ H->env.length = σ.length->cR K ρ env' (gI is xs σ) H/\env'.length=(gI is xs σ).length/\(gI is xs σ).length = σ.length/\xs.length=is.length
 | [],[],xs,env,env',σ,e,q,hE,hl=>by
  rw[ay] at q;subst q
  simp only[bindAll] at e;cases e
  exact⟨hE,hl,rfl,rfl⟩
 | i::is,d::ds,xs,env,env',σ,e,q,hE,hl=>by
  rw[ay] at q
  obtain⟨x,r,rfl,q1,q2⟩:=q
  simp only[bindAll] at e
  obtain⟨a1,a2,a3,a4⟩:=kr e q2 (hE.set hl q1) (by simp[hl])
  exact⟨a1,a2,by rw[show gI (i::is) (x::r) σ = gI is r (σ.set i (some x)) from rfl,a3];simp,by simp[a4]⟩
 | [],_::_,_,_,_,_,e,_,_,_=>by simp[bindAll] at e
 | _::_,[],_,_,_,_,e,_,_,_=>by simp[bindAll] at e
theorem xQ{K:PySem.W.Frag}{ρ:List Addr}{H:Hp}{pat:jV}{v:Val}{x:V}{env env':Env}{σ:L2.St}{Q:L2.St->Hp->Prop}(e:fu pat v env=some env')(q:VR K ρ H v x)(hE:cR K ρ env σ H)(hl:env.length = σ.length)
  (kk:∀σ',cR K ρ env' σ' H->env'.length = σ'.length -> σ'.length = σ.length->Q σ' H):zB K pat x σ H Q:=by
 cases pat with
 | one i =>
  simp only[fu] at e;cases e
  exact kk _ (hE.set hl q) (by simp[hl]) (by simp)
 | tup is =>
  cases v<;>simp only[fu] at e<;>first|cases e|skip
  rw[VR] at q
  obtain⟨a,xs,rfl,q1,q2⟩:=q
  obtain⟨a1,a2,a3,a4⟩:=kr e q2 hE hl
  exact⟨a,xs,rfl,q1,a4,lX a4 (kk _ a1 a2 a3)⟩
theorem jQ{α β:Type}{B:Bd}{ρ ρ':List Addr}{H H':Hp}{W:β -> Hs->List Addr->Hp->Prop}{W':α -> Hs->List Addr->Hp->Prop}{h:Hs}{m:M α}{f:α -> M β}(g:Gr ρ H ρ' H')(p:Post B EX ρ H W (bnd m f h))
  (kk:∀v h1 ρ2 H2,m h=.ok v h1->Post B EX ρ H W (f v h1)->Gr ρ' H' ρ2 H2->HR B ρ2 h1 H2->W' v h1 ρ2 H2):Post B EX ρ' H' W' (m h):=by
 unfold bnd at p
 cases e:m h with
 | ok v h1=>rw[e] at p;exact fun ρ2 H2 g2 r2=>kk v h1 ρ2 H2 e p g2 r2
 | exc c vs h1=>rw[e] at p;exact fun ρ2 H2 xs g2 r2 q=>p ρ2 H2 xs (g.trans g2) r2 q
 | no=>rw[e] at p;exact p
theorem HR.adopt{B:Bd}{ρ:List Addr}{h:Hs}{H:Hp}{D:Addr}{u:Ob}(r:HR B ρ h H)(hD:D ∉ ρ)(q:OR B (ρ ++ [D]) H D u):HR B (ρ ++ [D]) (h++[u]) H where
 len:=by simp[r.len]
 nd:=by
  rw[List.nodup_append]
  refine⟨r.nd,by simp,fun a ha b hb=>?_⟩
  rw[List.mem_singleton.mp hb]
  rintro rfl
  exact hD ha
 ob i v a q1 q2:=by
  by_cases hi:i<h.length
  ·rw[List.getElem?_append_left hi] at q1
   rw[List.getElem?_append_left (by rw[r.len];exact hi)] at q2
   exact OR.jW ⟨List.prefix_append _ _,fun _ _ e _=>e⟩ rfl (r.ob i v a q1 q2)
  ·rw[List.getElem?_append_right (by omega)] at q1
   rw[List.getElem?_append_right (by rw[r.len];omega)] at q2
   have hi0:i-h.length=0:=by
    have:=(List.getElem?_eq_some_iff.mp q1).1
    simp at this;omega
   rw[hi0] at q1
   rw[r.len,hi0] at q2
   simp at q1 q2
   subst q1;subst q2
   exact q
theorem Gr.over{ρ ρ':List Addr}{H H':Hp}{D:Addr}{o:HO}(g:Gr ρ H ρ' H')(hD:H D=none):Gr ρ H ρ' (upd H' D o) where
 pre:=g.pre
 keep a u e n:=by rw[ak (aH e hD)];exact g.keep a u e n
 firm a u e n:=by rw[ak (aH e hD)];exact g.firm a u e n
 fresh:=g.fresh
theorem Gr.adopt{ρ ρ':List Addr}{H H':Hp}{D:Addr}(g:Gr ρ H ρ' H')(hD:H D=none):Gr ρ H (ρ'++[D]) H' where
 pre:=g.pre.trans (List.prefix_append _ _)
 keep:=g.keep
 firm:=g.firm
 fresh a z n:=by
  rcases List.mem_append.mp z with z|z
  ·exact g.fresh a z n
  ·rw[List.mem_singleton.mp z];exact hD
theorem Ey{K:PySem.W.Frag}{ρ:List Addr}{env:Env}{σ:L2.St}{H:Hp}{js:List (Option Nat)}(e:cR K ρ env σ H):cR K ρ (jl js env) (fZ js σ) H:=fun i v q=>by
 unfold jl at q
 rw[List.getElem?_map] at q
 cases hj:js[i]? with
 | none=>rw[hj] at q;cases q
 | some o =>
  rw[hj] at q
  simp only[Option.map_some] at q
  cases o with
  | none=>cases q
  | some j =>
   dsimp only at q
   cases ej:env[j]? with
   | none=>rw[ej] at q;cases q
   | some w =>
    cases w with
    | none=>rw[ej] at q;cases q
    | some d =>
     rw[ej] at q
     cases q
     obtain⟨x,q1,q2⟩:=e j _ ej
     refine⟨x,?_,q2⟩
     unfold fZ
     rw[List.getElem?_map,hj]
     simp only[Option.map_some]
     rw[q1]
theorem Bu{K:PySem.W.Frag}{ρ:List Addr}{env:Env}{σ σ':L2.St}{H:Hp}{js:List (Option Nat)}{pat:jV}(hp:(um pat).all (fun i=>js[i]?==some none)=true)(e:cR K ρ (jl js env) σ H)(hs:∀i,i∉um pat -> σ'[i]? = σ[i]?):cR K ρ (jl js env) σ' H:=fun i v q=>by
 have hi:i∉um pat:=fun z=>by
  have h1:=List.all_eq_true.mp hp i z
  have h2:js[i]?=some none:=eq_of_beq h1
  unfold jl at q
  rw[List.getElem?_map,h2] at q
  cases q
 obtain⟨x,q1,q2⟩:=e i v q
 exact⟨x,(hs i hi).trans q1,q2⟩
theorem oS:∀{is:List Nat} {xs:List V} {σ:L2.St} {i:Nat},i∉is->(gI is xs σ)[i]? = σ[i]?
 | [],xs,σ,i,_=>by cases xs<;>rfl
 | j::is,[],σ,i,_=>rfl
 | j::is,x::xs,σ,i,h=>by
  rw[show gI (j::is) (x::xs) σ = gI is xs (σ.set j (some x)) from rfl,oS fun z=>h (List.mem_cons_of_mem _ z),List.getElem?_set_ne fun z=>h (by rw[z];exact List.mem_cons_self)]
theorem Bv{K:PySem.W.Frag}{ρ:List Addr}{H:Hp}{pat:jV}{v:Val}{x:V}{env env':Env}{σ:L2.St}{Q:L2.St->Hp->Prop}(e:fu pat v env=some env')(q:VR K ρ H v x)(hE:cR K ρ env σ H)(hl:env.length = σ.length)
  (kk:∀σ',cR K ρ env' σ' H -> σ'.length = σ.length->(∀i,i∉um pat -> σ'[i]? = σ[i]?)->Q σ' H):zB K pat x σ H Q:=by
 cases pat with
 | one i =>
  simp only[fu] at e;cases e
  exact kk _ (hE.set hl q) (by simp) fun j hj=>List.getElem?_set_ne fun z=>hj (by rw[z];exact List.mem_singleton.mpr rfl)
 | tup is =>
  cases v<;>simp only[fu] at e<;>first|cases e|skip
  rw[VR] at q
  obtain⟨a,xs,rfl,q1,q2⟩:=q
  obtain⟨a1,a2,a3,a4⟩:=kr e q2 hE hl
  exact⟨a,xs,rfl,q1,a4,lX a4 (kk _ a1 a3 fun j hj=>oS hj)⟩
theorem oU{N':List Str}{js:List (Option Nat)}{pat:jV}{ik:Ik}{it:eO}{t elt:IE}(hs:jq Φ it)(hc:bV Φ t)(he:bV Φ elt)(c:Ctx Φ Γ k X cl EX){e:Expr}(h:aJ Γ (.comp N' js pat ik it t elt) e=true) :
  ∃e' tg iter ifs scope pos wi g tt te,e=.ListComp e' [⟨tg,iter,ifs,0⟩] scope pos/\fR X.N X.env.scope scope N' js=true/\PI X tg iter wi/\(∀cls C s H fp,PG (bg X scope N' cls C s H fp) tg g)/\(∀cls C s H fp,CO (bg X scope N' cls C s H fp) ifs tt) /\
   (∀cls C s H fp,PE (bg X scope N' cls C s H fp) e' te)/\(∀x,foldedSetIterable iter X.env x=pure x)/\∀σ H Q,tV Φ (bd X cl) EX (.comp N' js pat ik it t elt) σ H Q->tM wi js g tt te σ H Q:=by
 rw[aJ.eq_def] at h;dsimp only at h;split at h<;>first|cases h|skip
 rename_i e' tg iter ifs scope pos
 simp only[Bool.and_eq_true] at h
 obtain⟨⟨⟨⟨⟨⟨⟨h1,h2⟩,h3⟩,h4⟩,h5⟩,h6⟩,h7⟩,h8⟩:=h
 have hnd:N'.Nodup:=of_decide_eq_true h3
 have hen:ik=.enum\/ik=.zip->∃es kk pos,tg=.Tuple es kk pos:=by
  intro hz
  cases pat with
  | one i=>rcases hz with rfl|rfl<;>cases h6
  | tup is=>exact uy h4
 obtain⟨hi,hf⟩:=Ga hs c h2 hen
 let tt:TT:=if cH t=true then tL else tT Φ (bd X cl) EX t
 have O7:∀cls C s H fp,CO (bg X scope N' cls C s H fp) ifs tt:=fun cls C s H fp=>by
  have c':=c.rX scope N' cls C s H fp
  cases ifs with
  | nil =>
   have:cH t=true:=h7
   show CO _ [] (if cH t=true then tL else tT Φ (bd X cl) EX t)
   rw[if_pos this];exact DU
  | cons a r =>
   cases r with
   | cons _ _=>cases h7
   | nil =>
    simp only[Bool.and_eq_true,Bool.not_eq_true'] at h7
    show CO _ [a] (if cH t=true then tL else tT Φ (bd X cl) EX t)
    rw[if_neg (by rw[h7.1];exact Bool.false_ne_true)]
    exact xm (hc _ _ _ _ _ _ c' h7.2).2
 refine⟨e',tg,iter,ifs,scope,pos,_,zB X.K pat,tt,tV Φ (bd X cl) EX elt,rfl,by rw[c.N,c.sc];exact h1,hi,fun cls C s H fp=>Bt (c.rX scope N' cls C s H fp) hnd h4,O7,fun cls C s H fp=>(he _ _ _ _ _ _ (c.rX scope N' cls C s H fp) h8).1,hf,fun σ H Q ⟨ρ,env,h,hE,r,p⟩=>?_⟩
 ·skip
  simp only[aG] at p
  let f:Val->M (Option Val):=fun d=>bnd (bw (fu pat d (jl js env))) fun env'=>bnd (if cH t=true then ret true else bnd (aG Φ t env') fun v=>ask fun h=>dj h v) fun t =>
    if t=true then bnd (aG Φ elt env') fun e=>ret (some e) else ret none
  have p':Post (bd X cl) EX ρ H (WV X.K Q) (bnd (KI Φ ik it env) (fun src=>bnd (ask fun h=>src.items h) fun xs=>aD (decide (xs.length<=100000)) (bnd (fz src f xs.length 0 []) fun ys=>new (.lst ys))) h):=by
   unfold KI;rw[aS];exact p
  refine⟨ρ,env,h,hE,r,bx p' fun src h1 ρ1 H1 g1 r1 p1=>?_⟩
  obtain⟨xs,e1,p2⟩:=aA p1
  obtain⟨e2,p3⟩:=aI p2
  have e2:=of_decide_eq_true e2
  refine⟨⟨xs,e1⟩,fun J wk D hD=>?_⟩
  have XF:(100000:Nat)<sizeLine:=by rw[sizeLine_eq];decide
  refine⟨fun i m σ' H'=>∃ρ' h' acc ys,Gr ρ1 H1 ρ' H'/\HR (bd X cl) ρ' h' H'/\D ∉ ρ'/\H' D=some (.lst ys)/\ay X.K ρ' H' acc ys/\cR X.K ρ' (jl js env) σ' H' /\ σ'.length=js.length/\acc.length<=i/\i+m=xs.length /\
   Post (bd X cl) EX ρ1 H1 (WV X.K Q) (bnd (fz src f m i acc) (fun ys=>new (.lst ys)) h'),⟨xs.length,ρ1,h1,[],[],Gr.side hD,r1.side hD,r1.out hD,aM,ay.nil,(Ey (hE.up g1)).up (Gr.side hD),gE js σ,Nat.le_refl _,by omega,p3⟩,?_⟩
  rintro i m σ' H' ⟨ρ',h',acc,ys,w1,w2,w3,w4,w5,w6,w7,w8,w9,sd⟩
  have fin:∀p:Post (bd X cl) EX ρ1 H1 (WV X.K Q) (new (.lst acc) h'),Q (.ref D) H':=fun p=>by
   refine p (ρ'++[D]) H' (w1.adopt hD) (w2.adopt w3 ⟨ys,w4,ay.jW ⟨List.prefix_append _ _,fun _ _ e _=>e⟩ _ _ w5⟩) _ (VR.ref (by rw[<-w2.len];simp))
  cases m with
  | zero =>
   simp only[fz,aS] at sd
   obtain⟨xs',k1,sd⟩:=aA sd
   have Mg:Post (bd X cl) EX ρ1 H1 (WV X.K Q) (bnd (aD (decide (xs'.length<=i)) (ret acc)) (fun ys=>new (.lst ys)) h'):=sd
   unfold aD at Mg
   by_cases hl:xs'.length<=i
   ·have:bnd (fun h=>if decide (xs'.length<=i)=true then ret acc h else Out.no) (fun ys=>new (.lst ys)) h'=new (.lst acc) h':=by
     unfold bnd;dsimp only;rw[if_pos (decide_eq_true hl)];rfl
    rw[this] at Mg
    exact .inl ⟨wk.stop w1.w w2 k1 hl,fin Mg⟩
   ·have:bnd (fun h=>if decide (xs'.length<=i)=true then ret acc h else Out.no) (fun ys=>new (.lst ys)) h'=Out.no:=by
     unfold bnd;dsimp only;rw[if_neg (by rw[decide_eq_false hl];exact Bool.false_ne_true)]
    rw[this] at Mg
    exact Mg.elim
  | succ m =>
   simp only[fz,aS] at sd
   obtain⟨xs',k1,sd⟩:=aA sd
   cases hx:xs'[i]? with
   | none =>
    rw[hx] at sd
    exact .inl ⟨wk.stop w1.w w2 k1 (List.getElem?_eq_none_iff.mp hx),fin sd⟩
   | some v =>
    rw[hx] at sd
    dsimp only at sd
    refine .inr ⟨wk.go w1.w w2 k1 hx,_,fun yU FO w=>⟨m,Nat.lt_succ_self _,w⟩,fun y H2 hy=>?_⟩
    obtain⟨z1,z2,z3⟩:=wk.vo w1.w w2 k1 hx hy
    simp only[aS] at sd
    simp only[f,aS] at sd
    obtain⟨env',k2,sd⟩:=bJ sd
    refine Bv k2 z3 (w6.up z1) (by rw[w7];simp[jl]) fun σ2 Om hl2 hout=>?_
    have Jb:H2 D=some (.lst ys):=z1.keep _ _ w4 w3
    have G2:Gr ρ1 H1 ρ' H2:=w1.trans z1
    have body:∀(b:Bool) (h3:Hs) (ρ3:List Addr) (H3:Hp),Gr ρ' H2 ρ3 H3->HR (bd X cl) ρ3 h3 H3->Post (bd X cl) EX ρ1 H1 (WV X.K Q) (bnd (if b=true then bnd (aG Φ elt env') fun e=>ret (some e) else ret none) (fun o=>bnd (fz src f m (i+1) (match o with|some e=>acc++[e]|none=>acc)) fun ys=>new (.lst ys)) h3) ->
      (if b=true then tV Φ (bd X cl) EX elt σ2 H3 (fun y H4=>∃ys,H4 D=some (.lst ys)/\ys.length<sizeLine/\(fun σ' H'=>∃ρ' h' acc ys,Gr ρ1 H1 ρ' H'/\HR (bd X cl) ρ' h' H'/\D ∉ ρ'/\H' D=some (.lst ys)/\ay X.K ρ' H' acc ys/\cR X.K ρ' (jl js env) σ' H' /\ σ'.length=js.length/\acc.length<=i+1/\i+1+m=xs.length /\
       Post (bd X cl) EX ρ1 H1 (WV X.K Q) (bnd (fz src f m (i+1) acc) (fun ys=>new (.lst ys)) h')) σ2 (upd H4 D (.lst (ys++[y]))))
      else (fun σ' H'=>∃ρ' h' acc ys,Gr ρ1 H1 ρ' H'/\HR (bd X cl) ρ' h' H'/\D ∉ ρ'/\H' D=some (.lst ys)/\ay X.K ρ' H' acc ys/\cR X.K ρ' (jl js env) σ' H' /\ σ'.length=js.length/\acc.length<=i+1/\i+1+m=xs.length /\
       Post (bd X cl) EX ρ1 H1 (WV X.K Q) (bnd (fz src f m (i+1) acc) (fun ys=>new (.lst ys)) h')) σ2 H3):=by
     intro b h3 ρ3 H3 g3 r3 p5
     have P5:D ∉ ρ3:=fun z=>by have:=g3.fresh D z w3;rw[Jb] at this;cases this
     have KJ:H3 D=some (.lst ys):=g3.keep _ _ Jb w3
     have E3:cR X.K ρ3 (jl js env) σ2 H3:=(Bu h5 (w6.up z1) hout).up g3
     cases b with
     | true =>
      rw[if_pos rfl] at p5 |-
      simp only[aS,cK] at p5
      refine⟨ρ3,env',h3,Om.up g3,r3,jQ (G2.trans g3) p5 fun v4 h4 ρ4 H4 _ p6 g4 r4 y4 q4=>?_⟩
      have SG:D ∉ ρ4:=fun z=>by have:=g4.fresh D z P5;rw[KJ] at this;cases this
      have Mh:H4 D=some (.lst ys):=g4.keep _ _ KJ P5
      have gw:Gw ρ4 H4 ρ4 (upd H4 D (.lst (ys++[y4]))):=Gw.other Mh rfl
      have la:=w5.length
      refine⟨ys,Mh,by omega,ρ4,h4,acc++[v4],ys++[y4],((G2.trans g3).trans g4).over hD,r4.other SG Mh rfl,SG,aM,ay.append (ay.jW gw _ _ (ay.up ((z1.trans g3).trans g4) _ _ w5)) (ay.jW gw _ _ (ay.cons q4 ay.nil)),(E3.up g4).jW gw,by rw[hl2,w7],by simp;omega,by omega,p6⟩
     | false =>
      rw[if_neg Bool.false_ne_true] at p5 |-
      exact⟨ρ3,h3,acc,ys,G2.trans g3,r3,P5,KJ,ay.up (z1.trans g3) _ _ w5,E3,by rw[hl2,w7],by omega,by omega,p5⟩
    show (if cH t=true then tL else tT Φ (bd X cl) EX t) σ2 H2 _
    by_cases hn:cH t=true
    ·rw[if_pos hn]
     rw[if_pos hn,cK] at sd
     exact body true h' ρ' H2 Gr.refl z2 sd
    ·rw[if_neg hn]
     rw[if_neg hn] at sd
     exact⟨ρ',env',h',Om,z2,jQ G2 sd fun b h3 ρ3 H3 _ p5 g3 r3=>body b h3 ρ3 H3 g3 r3 p5⟩
theorem Ez{N':List Str}{js:List (Option Nat)}{pat:jV}{ik:Ik}{it:eO}{t elt:IE}(hs:jq Φ it)(hc:bV Φ t)(he:bV Φ elt):bV Φ (.comp N' js pat ik it t elt):=by
 intro Γ k X cl EX e c h
 obtain⟨e',tg,iter,ifs,scope,pos,wi,g,tt,te,rfl,h1,h2,h3,h4,h5,h6,h7⟩:=oU hs hc he c h
 have q:=(xq (pos:=pos) h1 c.calm h2 h3 h4 h5 h6).imp h7
 exact⟨q,cu q fun _=>rfl⟩
theorem EA{k v:IE}(hk:bV Φ k)(hv:bV Φ v):bV Φ (.dct1 k v):=by
 intro Γ n X cl EX e c h
 rw[aJ.eq_def] at h;dsimp only at h;split at h<;>first|cases h|skip
 rename_i a b pos
 simp only[Bool.and_eq_true] at h
 have q:PE X (.Dict [some a] [b] pos) (tV Φ (bd X cl) EX (.dct1 k v)):=by
  refine(DR (Az (hk Γ n X cl EX a c h.1).1 (hv Γ n X cl EX b c h.2).1 DQ) rfl rfl (by simp) (by simp)).imp fun σ H Q aC=>?_
  obtain⟨ρ,env,h,hE,r,p⟩:=aC
  intro D hD
  have g0:Gr ρ H ρ (upd H D (.dK [])):=Gr.side hD
  simp only[aG] at p
  refine⟨ρ,env,h,hE.up g0,r.side hD,jQ g0 p fun x h1 ρ1 H1 _ p1 g1 r1 y1 q1=>?_⟩
  obtain⟨kk,e1,p1⟩:=bJ p1
  refine⟨ρ1,env,h1,(hE.up g0).up g1,r1,jQ (g0.trans g1) p1 fun y h2 ρ2 H2 _ p2 g2 r2 y2 q2=>?_⟩
  have SH:D ∉ ρ:=r.out hD
  have Jb:D ∉ ρ2:=fun z=>by have:=(g1.trans g2).fresh D z SH;rw[aM] at this;cases this
  have e2:H2 D=some (.dK []):=(g1.trans g2).keep D _ aM SH
  have ek:y1=kV kk:=by
   cases x<;>first|(cases e1;done)|skip
   ·cases e1;rw[VR] at q1;exact q1
   ·cases e1;rw[VR] at q1;exact q1
  refine⟨e2,[(kk,y2)],by rw[ek];rfl,by simp,?_⟩
  have gw:Gw ρ2 H2 (ρ2++[D]) (upd H2 D (.dK (lJ [] [(kk,y2)]))):=⟨List.prefix_append _ _,(Gw.other (ρ:=ρ2) e2 rfl).firm⟩
  exact p2 (ρ2++[D]) _ ((((g0.trans g1).trans g2).over hD).adopt hD) ((r2.other Jb e2 rfl).adopt Jb ⟨[(kk,y2)],aM,y2,[],rfl,VR.jW gw _ _ q2,rfl⟩) _ (xE r2)
 exact⟨q,cu q fun _=>rfl⟩
theorem Bw{ns ms:List Int}{kvs:List (Key×V)}(e:kvs.map (·.1)=ns.map Sum.inl):((kvs.map fun kv=>kV kv.1).filter fun k=>!CN k (ms.map V.int))=(ns.filter fun n=>!(ms.any fun m=>m==n)).map V.int:=by
 have hk:(kvs.map fun kv=>kV kv.1)=ns.map V.int:=by
  have:=congrArg (List.map kV) e
  rw[List.map_map,List.map_map] at this
  exact this
 rw[hk,List.filter_map]
 congr 1
 refine List.filter_congr fun n _=>?_
 show (!CN (V.int n) (ms.map V.int))=_
 unfold CN
 rw[List.any_map]
 rfl
theorem oV{N':List Str}{js:List (Option Nat)}{p q:Nat}{d w:IE}(c:Ctx Φ Γ k X cl EX){e:Expr}(h:aJ Γ (.dflt N' js p q d w) e=true) :
  ∃e' tg iter ifs scope pos wi g tt te,e=.ListComp e' [⟨tg,iter,ifs,0⟩] scope pos/\fR X.N X.env.scope scope N' js=true/\PI X tg iter wi/\(∀cls C s H fp,PG (bg X scope N' cls C s H fp) tg g)/\(∀cls C s H fp,CO (bg X scope N' cls C s H fp) ifs tt) /\
   (∀cls C s H fp,PE (bg X scope N' cls C s H fp) e' te)/\(∀x,foldedSetIterable iter X.env x=pure x)/\∀σ H Q,tV Φ (bd X cl) EX (.dflt N' js p q d w) σ H Q->AY (tM wi js g tt te) σ H Q:=by
 rw[aJ.eq_def] at h;dsimp only at h;split at h<;>first|cases h|skip
 rename_i i j
 cases e<;>first|exact absurd h Bool.false_ne_true|skip
 rename_i elt gens scope pos
 cases elt<;>first|exact absurd h Bool.false_ne_true|skip
 rename_i y1 p1
 cases gens with
 | nil=>exact absurd h Bool.false_ne_true
 | cons g r =>
 obtain⟨tg,iter,ifs,ia⟩:=g
 cases tg<;>first|exact absurd h Bool.false_ne_true|skip
 rename_i y2 yp
 cases iter<;>first|exact absurd h Bool.false_ne_true|skip
 rename_i dn dp
 cases ifs with
 | nil=>exact absurd h Bool.false_ne_true
 | cons c0 r0 =>
 cases c0<;>first|exact absurd h Bool.false_ne_true|skip
 rename_i l ops rs cp
 cases l<;>first|exact absurd h Bool.false_ne_true|skip
 rename_i y3 p3
 cases ops with
 | nil=>exact absurd h Bool.false_ne_true
 | cons op r1 =>
 cases op<;>first|exact absurd h Bool.false_ne_true|skip
 cases r1 with
 | cons _ _=>exact absurd h Bool.false_ne_true
 | nil =>
 cases rs with
 | nil=>exact absurd h Bool.false_ne_true
 | cons x0 r2 =>
 cases x0<;>first|exact absurd h Bool.false_ne_true|skip
 rename_i en ep
 cases r2 with
 | cons _ _=>exact absurd h Bool.false_ne_true
 | nil =>
 cases r0 with
 | cons _ _=>exact absurd h Bool.false_ne_true
 | nil =>
 cases r with
 | cons _ _=>exact absurd h Bool.false_ne_true
 | nil =>
 change (ia==0&&fR Γ.N Γ.sc scope N' js&&decide (N'.Nodup)&&uh (Γ.rX scope N') (.one p) (.Name y2 yp)&&js[p]?==some none&&js[q]?==some (some j)&&p != q && !behindInMarks .NotIn (.Name en ep) &&
   (N'[p]?==some y1&&nh (Γ.rX scope N').sc y1)&&(N'[p]?==some y3&&nh (Γ.rX scope N').sc y3)&&(N'[q]?==some en&&nh (Γ.rX scope N').sc en)&&(Γ.N[i]?==some dn&&nh Γ.sc dn))=true at h
 simp only[Bool.and_eq_true,beq_iff_eq,bne_iff_ne,ne_eq,Bool.not_eq_true'] at h
 obtain⟨⟨⟨⟨⟨⟨⟨⟨⟨⟨⟨h0,h1⟩,h2⟩,h3⟩,h4⟩,h5⟩,h6⟩,h7⟩,h8⟩,h9⟩,Jc⟩,h11⟩:=h
 subst h0
 have hnd:N'.Nodup:=of_decide_eq_true h2
 have nm:∀{x:Str} {i:Nat} {pos:Pos} (_:N'[i]?=some x/\nh (Γ.rX scope N').sc x=true) cls C s H fp,PE (bg X scope N' cls C s H fp) (.Name x pos) (pV i):=fun hx cls C s H fp=>by
  obtain⟨v1,v2,v3⟩:=(c.rX scope N' cls C s H fp).vis hx.2
  exact vn hx.1 v1 v2 v3
 obtain⟨v1,v2,v3⟩:=c.vis h11.2
 have hpl:p<js.length:=(List.getElem?_eq_some_iff.mp h4).1
 refine⟨_,_,_,_,_,_,A7 (pV i),mG p,Ai (KA (Pd X.K true) (pV p) (pV q)),pV p,rfl,by rw[c.N,c.sc];exact h1,D6 (vn (by rw[c.N];exact h11.1) v1 v2 v3),fun cls C s H fp=>Bt (c.rX scope N' cls C s H fp) hnd h3,
  fun cls C s H fp=>xm (wX (X:=bg X scope N' cls C s H fp) rH (nm h9 cls C s H fp) (nm Jc cls C s H fp) h7),nm h8,fun x=>rfl,fun σ H Q ⟨ρ,env,h,hE,r,pp⟩=>?_⟩
 simp only[aG] at pp
 obtain⟨o,e1,pp⟩:=bJ pp
 obtain⟨ks,e2,pp⟩:=aA pp
 obtain⟨u,e3,pp⟩:=bJ pp
 obtain⟨zs,e4,pp⟩:=aA pp
 split at e1<;>cases e1
 rename_i e1
 split at e3<;>cases e3
 rename_i e3
 obtain⟨x,s1,q1⟩:=hE i o e1
 obtain⟨y,s2,q2⟩:=hE j u e3
 cases o<;>first|(cases e2;done)|(rw[VR] at q1;exact q1.elim)|skip
 rename_i n
 rw[VR] at q1
 obtain⟨ad,rfl,q1⟩:=q1
 have hdc:∃kvs,h[n]?=some (.dct kvs)/\ks=kvs.map (·.1):=by
  change (match h[n]? with|some (.dct kvs)=>some (kvs.map (·.1))|_=>none)=some _ at e2
  split at e2
  ·rename_i kvs e5;cases e2;exact⟨kvs,e5,rfl⟩
  ·cases e2
 obtain⟨kvs,e5,rfl⟩:=hdc
 obtain⟨SJ,k1,k2⟩:=r.ob n _ ad e5 q1
 unfold oE at e4
 obtain⟨ns,e6,e4⟩:=Option.bind_eq_some_iff.mp e4
 obtain⟨xs,e7,e4⟩:=Option.bind_eq_some_iff.mp e4
 obtain⟨ms,e8,e4⟩:=Option.bind_eq_some_iff.mp e4
 obtain⟨b,ys,rfl,sq,vr⟩:=eB r q2 e7
 by_cases hl:ns.length<=100000
 ·rw[if_pos hl] at e4
  cases e4
  rw[eZ e8] at vr
  have ey:=ay.ints.mp vr
  subst ey
  have ek:=(r8 k2).trans (r9 e6)
  have el:SJ.length=ns.length:=by have:=congrArg List.length ek;simpa using this
  refine HS h6 hpl ⟨ad,SJ,b,_,s1,k1,by rw[el,sizeLine_eq];omega,?_,sq,?_,fun D hD=>?_⟩
  ·unfold fZ
   rw[List.getElem?_map,h5]
   show some (match σ[j]? with|some (some v)=>some v|_=>none)=_
   rw[s2]
  ·rw[List.all_map];exact List.all_eq_true.mpr fun _ _=>rfl
  ·rw[Bw ek]
   exact bX r hD (ay.ints.mpr rfl) pp
 ·rw[if_neg hl] at e4;cases e4
theorem EB{N':List Str}{js:List (Option Nat)}{p q:Nat}{d w:IE}:bV Φ (.dflt N' js p q d w):=by
 intro Γ k X cl EX e c h
 obtain⟨e2,P6,iter,ifs,wj,pos2,wi,g,tt,te,rfl,q1,q2,q3,q4,q5,q6,q7⟩:=oV c h
 have q:PE X (.ListComp e2 [⟨P6,iter,ifs,0⟩] wj pos2) (tV Φ (bd X cl) EX (.dflt N' js p q d w)):=(D4 (xq q1 c.calm q2 q3 q4 q5 q6)).imp q7
 exact⟨q,cu q fun _=>rfl⟩
theorem Jd{a:IE}{x:Str}{bs:List Bool}(ha:bV Φ a):bV Φ (.isc a x bs):=oN fun _ _=>rfl
theorem lY:(∀ir,bV Φ ir)/\∀dR,jq Φ dR:=by
 have one:∀ir,bV Φ ir:=by
  intro ir
  exact IE.rec (motive_1:=fun ir=>bV Φ ir) (motive_2:=fun dR=>jq Φ dR) (fun _=>Iq) (fun _=>Ir) (fun _ _=>Iu) Mc (fun _ _ _ a b=>Iv a b) (fun _ a=>Iw a) (fun _ _ _ a b=>Iz a b) (fun _ _ _ _ _ a b c=>ID a b c)
   (fun _ _ a b=>IF a b) (fun _ _ a b=>Mf a b) (fun _ a=>IG a) (fun _ _ _ a b c=>II a b c) (fun _ a=>IJ a) (fun _ a=>IK a) (fun _ _ a b=>IL a b) (fun _ _ _ a b c=>IM a b c) (fun _ _ a=>Em a) (fun _ _ a=>IZ a)
   (fun _ _ _ a b=>Ja a b) (fun _ _ _ _ _ _ _ a b c=>Ez a b c) Ej (fun _ a=>Et a) (fun _ _ _ a b c=>Eu a b c) (fun _ _ a b=>EA a b) (fun _ a=>Bo a) (fun _ _ _ a b c=>Ew a b c) (fun _ a=>Bq a) (fun _ a=>Bp a) (fun _ _ _ a=>IQ a) (fun _ _ _ _ a b=>IT a b) (fun _ _ a b=>IP a b) (fun _ _ _ _ _ _ _ _=>EB) (fun _ _ _ a=>Jd a) Bj (fun _ _ a b=>xM a b) ir
 refine⟨one,fun dR=>?_⟩
 induction dR using eO.rec (motive_1:=fun _=>True) with
 | nil=>exact Bj
 | cons e es _ ih=>exact xM (one e) ih
 | _=>trivial
end
end Hv
end
section
namespace Hv
open PySem L2 PyProof.Rows
noncomputable def lZ:Expr->Bool
 | .ListComp ..=>false|.SetComp ..=>false|.DictComp ..=>false
 | _=>true
noncomputable def Mi:Expr->Bool
 | .Tuple ..=>false
 | _=>true
noncomputable def P7:Expr->Bool
 | .SetComp ..=>false|.DictComp ..=>false
 | _=>true
mutual
noncomputable def kR(Γ:ng):IS->Stmt->Bool
 | .expr e,s=>match s with
  | .Expr x _=>lZ x&&aJ Γ e x
  | _=>false
 | .asg p e,s=>match s with
  | .Assign [tg] x _=>uz Γ p tg&&aJ Γ e x&&(match p with|.one _=>P7 x|.tup _=>lZ x&&Mi x)
  | _=>false
 | .aug i o e,s=>match s with
  | .AugAssign (.Name x _) op v _=>Γ.N[i]?==some x&&(Γ.sc.names.lookup x==some .local || Γ.sc.names.lookup x==some .cell)&&Ip o op&&(match o with|.pow=>false|_=>true)&&aJ Γ e v
  | _=>false
 | .di o i v,s=>match s with
  | .Assign [.Subscript a b _] x _=>nD b&&lZ x&&aJ Γ o a&&aJ Γ i b&&aJ Γ v x
  | _=>false
 | .iff c a b,s=>match s with
  | .If t x y _=>aJ Γ c t&&bN Γ a x&&bN Γ b y
  | _=>false
 | .for p k it body,s=>match s with
  | .For tg iter x [] _=>uz Γ p tg&&uo Γ k it iter&&(match k,p with|.enum,.one _=>false|.zip,.one _=>false|_,_=>true)&&bN Γ body x
  | _=>false
 | .whl _ c body,s=>match s with
  | .While t x [] _=>aJ Γ c t&&bN Γ body x
  | _=>false
 | .ret e,s=>match s with
  | .Return (some x) _=>aJ Γ e x
  | _=>false
 | .D7,s=>match s with
  | .Return none _=>true
  | _=>false
 | .brk,s=>match s with
  | .Break _=>true
  | _=>false
 | .cnt,s=>match s with
  | .Continue _=>true
  | _=>false
 | .pass,s=>match s with
  | .Pass _=>true
  | .Expr (.Constant (.str _) _ _) _=>true
  | _=>false
 | .never,_=>true
 | .setF n a x v,s=>match s with
  | .Assign [.Attribute o y _] e _=>x==y&&lZ e&&n == Γ.tb.nc && Γ.tb.Ef.contains x&&aJ Γ a o&&aJ Γ v e
  | _=>false
noncomputable def bN(Γ:ng):cU->List Stmt->Bool
 | .nil,ls=>ls.isEmpty
 | .cons s r,ls=>match ls with
  | l::ls=>kR Γ s l&&bN Γ r ls
  | []=>false
end
structure Je (Φ:Fn) (Γ:ng) (k:Nat) (X:Cx) (cl:Nat->Addr) (EX:Nat->List V->Hp->Prop):Prop extends Ctx Φ Γ k X cl EX where
 fn:∀x,X.fn x=true
 nd:X.N.Nodup
 kind:X.env.scope.kind=.function
 xe:PassesOwn (model X.prog X.w) X.A X.env X.xe
noncomputable def WF(K:PySem.W.Frag)(D:Ends):Fl->Hs->List Addr->Hp->Prop
 | .nx env',_,ρ',H'=>∀σ',cR K ρ' env' σ' H'->env'.length = σ'.length->D.nx σ' H'
 | .rt v,_,ρ',H'=>∀x,VR K ρ' H' v x->D.rt x H'
 | .bk env',_,ρ',H'=>∀σ',cR K ρ' env' σ' H'->env'.length = σ'.length->D.bk σ' H'
 | .ct env',_,ρ',H'=>∀σ',cR K ρ' env' σ' H'->env'.length = σ'.length->D.ct σ' H'
noncomputable def tS(Φ:Fn)(B:Bd)(EX:Nat->List V->Hp->Prop)(ir:IS):TS:=fun D σ H=>∃ρ env h,cR B.K ρ env σ H/\env.length = σ.length/\HR B ρ h H/\Post B EX ρ H (WF B.K D) (dZ Φ ir env h)
noncomputable def UP(Φ:Fn)(B:Bd)(EX:Nat->List V->Hp->Prop)(ir:cU):TS:=fun D σ H=>∃ρ env h,cR B.K ρ env σ H/\env.length = σ.length/\HR B ρ h H/\Post B EX ρ H (WF B.K D) (dm Φ ir env h)
theorem _root_.L2.PS.imp{X:Cx}{e:Stmt}{t t':TS}(h:PS X e t)(i:∀D σ H,t' D σ H->t D σ H):PS X e t':=fun pins s σ H D I hw=>h pins s σ H D I (i D σ H hw)
theorem _root_.L2.vj.imp{X:Cx}{e:List Stmt}{t t':TS}(h:vj X e t)(i:∀D σ H,t' D σ H->t D σ H):vj X e t':=fun pins s σ H D I hw=>h pins s σ H D I (i D σ H hw)
section
variable {Φ:Fn} {Γ:ng} {k:Nat} {X:Cx} {cl:Nat->Addr} {EX:Nat->List V->Hp->Prop}
noncomputable def uA(Φ:Fn)(ir:IS):Prop:=∀(Γ:ng) (k:Nat) (X:Cx) (cl:Nat->Addr) (EX:Nat->List V->Hp->Prop) (st:Stmt),Je Φ Γ k X cl EX->kR Γ ir st=true->PS X st (tS Φ (bd X cl) EX ir)
noncomputable def se(Φ:Fn)(dR:cU):Prop:=∀(Γ:ng) (k:Nat) (X:Cx) (cl:Nat->Addr) (EX:Nat->List V->Hp->Prop) (st:List Stmt),Je Φ Γ k X cl EX->bN Γ dR st=true->vj X st (UP Φ (bd X cl) EX dR)
theorem ju{e:Expr}{t:Option Expr}{n:Nat}{env:PySem.Env}(h:lZ e=true):swapsWith e t n env=pure false:=by
 cases e<;>first|rfl|(exact absurd h Bool.false_ne_true)
theorem EC(ir:IE)(c:Ctx Φ Γ k X cl EX){e:Expr}(h:aJ Γ ir e=true):PE X e (tV Φ (bd X cl) EX ir):=(lY.1 ir Γ k X cl EX e c h).1
theorem UQ(ir:IE)(c:Ctx Φ Γ k X cl EX){e:Expr}(h:aJ Γ ir e=true):PT X e (tT Φ (bd X cl) EX ir):=(lY.1 ir Γ k X cl EX e c h).2
theorem Mj{ir:IS}(hs:∀env h,dZ Φ ir env h=.no):uA Φ ir:=by
 intro Γ k X cl EX st c h
 refine sX.imp fun D σ H ⟨ρ,env,h,hE,hl,r,p⟩=>?_
 rw[hs] at p;exact p.elim
theorem Jf{e:IE}:uA Φ (.expr e):=by
 intro Γ k X cl EX st c h
 rw[kR.eq_def] at h;dsimp only at h;split at h<;>first|cases h|skip
 simp only[Bool.and_eq_true] at h
 refine(Dh (EC e c.toCtx h.2) (ju h.1)).imp fun D σ H aC=>?_
 obtain⟨ρ,env,h,hE,hl,r,p⟩:=aC
 simp only[dZ] at p
 exact⟨ρ,env,h,hE,r,au p fun v h1 ρ1 x H1 g1 r1 q1 p1=>ai r1 p1 σ (hE.up g1) hl⟩
theorem Ml{p:jV}{e:IE}:uA Φ (.asg p e):=by
 intro Γ k X cl EX st c h
 rw[kR.eq_def] at h;dsimp only at h;split at h<;>first|cases h|skip
 rename_i tg x pos
 simp only[Bool.and_eq_true] at h
 obtain⟨⟨h1,h2⟩,h3⟩:=h
 have hg:=xP c.toCtx c.fn c.nd h1
 have he:=EC e c.toCtx h2
 have fin:∀D σ H,tS Φ (bd X cl) EX (.asg p e) D σ H->Dk (tV Φ (bd X cl) EX e) (zB X.K p) D σ H:=fun D σ H ⟨ρ,env,h,hE,hl,r,pp⟩=>by
  simp only[dZ] at pp
  refine⟨ρ,env,h,hE,r,au pp fun v h1 ρ1 x H1 g1 r1 q1 p1=>?_⟩
  obtain⟨env',e1,p2⟩:=bJ p1
  exact xQ e1 q1 (hE.up g1) hl fun σ' P8 hl' _=>ai r1 p2 σ' P8 hl'
 have US:(assignEach [tg] X.env).map (·.2)=[assign tg X.env]:=by
  cases p with
  | one i=>obtain⟨t,tp,rfl⟩:=oR h1;rfl
  | tup is=>obtain⟨es,kk,tp,rfl⟩:=kQ h1;rfl
 cases p with
 | tup is =>
  simp only[Bool.and_eq_true] at h3
  refine(Ae he hg ?_ ?_ US).imp fin
  ·show swapsWith x (some tg) _ _=_
   exact ju h3.1
  ·obtain⟨es,kk,tp,rfl⟩:=kQ h1
   cases x<;>first|rfl|(exact absurd h3.2 Bool.false_ne_true)
 | one i =>
  obtain⟨t,tp,rfl⟩:=oR h1
  ·
   simp only[uz,Bool.and_eq_true,beq_iff_eq] at h1
   have loc:L2.Loc X.env.scope t:=by unfold L2.Loc;rw[c.sc];simpa using h1.2
   have pl:lZ x=true->PS X (.Assign [.Name t tp] x pos) (tS Φ (bd X cl) EX (.asg (.one i) e)):=fun hx=>(Af c.nd (by rw[c.N];exact h1.1) loc he (ju hx) (.inl (c.fn t))).imp fin
   cases x with
   | ListComp e' gens scope p2 =>
    cases hb:(X.env.kindOf t==some .local&&tp.line==p2.line && !(scope.names.any fun(n,k)=>n==t&&(k==.local||k==.cell))) with
    | false =>
     refine(Af c.nd (by rw[c.N];exact h1.1) loc he ?_ (.inl (c.fn t))).imp fin
     have bk:(X.env.blockKind==.function)=true:=by unfold Env.blockKind;rw[c.kind];rfl
     show (pure (X.env.blockKind==.function&&X.env.kindOf t==some .local&&tp.line==p2.line && !(scope.names.any fun(n,k)=>n==t&&(k==.local||k==.cell))):Sem Bool)=pure false
     rw[bk,Bool.true_and,hb]
    | true =>
     have bk:(X.env.blockKind==.function)=true:=by unfold Env.blockKind;rw[c.kind];rfl
     have hsw:swapsWith (.ListComp e' gens scope p2) (some (.Name t tp)) pos.line X.env=pure true:=by
      show (pure (X.env.blockKind==.function&&X.env.kindOf t==some .local&&tp.line==p2.line && !(scope.names.any fun(n,k)=>n==t&&(k==.local||k==.cell))):Sem Bool)=pure true
      rw[bk,Bool.true_and,hb]
     cases e with
     | comp N' js pat ik it Mm elt =>
      obtain⟨e2,P6,iter,ifs,wj,pos2,wi,g,tt,te,q0,q1,q2,q3,q4,q5,q6,q7⟩:=oU (lY.2 it) (lY.1 Mm) (lY.1 elt) c.toCtx h2
      cases q0
      refine(xr c.nd (by rw[c.N];exact h1.1) loc q1 c.calm q2 q3 q4 q5 hsw (.inl (c.fn t)) q6).imp fun D σ H hh=>?_
      exact q7 σ H _ (fin D σ H hh)
     | dflt N' js p q d w =>
      obtain⟨e2,P6,iter,ifs,wj,pos2,wi,g,tt,te,q0,q1,q2,q3,q4,q5,q6,q7⟩:=oV c.toCtx h2
      cases q0
      refine(D5 (xr c.nd (by rw[c.N];exact h1.1) loc q1 c.calm q2 q3 q4 q5 hsw (.inl (c.fn t)) q6)).imp fun D σ H hh=>?_
      exact q7 σ H _ (fin D σ H hh)
     | _=>first|exact absurd h2 Bool.false_ne_true|(rw[aJ.eq_def] at h2;cases h2)
   | SetComp _ _ _ _=>exact absurd h3 Bool.false_ne_true
   | DictComp _ _ _ _ _=>exact absurd h3 Bool.false_ne_true
   | _=>exact pl rfl
noncomputable def SK(B:Bd)(EX:Nat->List V->Hp->Prop)(o:rR):R2:=fun x y H Q=>∃ρ h i j,HR B ρ h H/\x=.int i/\y=.int j/\Post B EX ρ H (WV B.K Q) (FQ o (.int i) (.int j) h)
theorem Jg{o:rR}(ho:(match o with|.pow=>false|_=>true)=true):ja X (inplaceOp (v8 o)) (SK (bd X cl) EX o):=by
 intro pins s σ H x y v' u' Q I rx ry hh
 obtain⟨ρ,h,i,j,r,rfl,rfl,p⟩:=hh
 cases o with
 | add=>exact Dr pins s σ H _ _ _ _ Q I rx ry ⟨_,_,rfl,rfl,ai r p _ VR.int⟩
 | sub=>exact Ds pins s σ H _ _ _ _ Q I rx ry ⟨_,_,rfl,rfl,ai r p _ VR.int⟩
 | mul =>
  obtain⟨hm,p⟩:=aI p
  refine Dt pins s σ H _ _ _ _ Q I rx ry ⟨_,_,rfl,rfl,?_,ai r p _ VR.int⟩
  unfold jk at hm
  simp only[Bool.or_eq_true,Bool.and_eq_true,decide_eq_true_eq] at hm
  exact hm
 | fdiv =>
  obtain⟨hm,p⟩:=aI p
  exact zm pins s σ H _ _ _ _ Q I rx ry ⟨_,_,rfl,rfl,hm,ai r p _ VR.int⟩
 | mod =>
  obtain⟨hm,p⟩:=aI p
  have hm:=of_decide_eq_true hm
  exact Du pins s σ H _ _ _ _ Q I rx ry ⟨_,_,rfl,rfl,hm,ai r p _ VR.int⟩
 | pow=>cases ho
theorem Mn{i:Nat}{o:rR}{e:IE}:uA Φ (.aug i o e):=by
 intro Γ k X cl EX st c h
 rw[kR.eq_def] at h;dsimp only at h;split at h<;>first|cases h|skip
 rename_i x xp op v pos
 simp only[Bool.and_eq_true,beq_iff_eq] at h
 obtain⟨⟨⟨⟨h1,h2⟩,h3⟩,h4⟩,h5⟩:=h
 have eo:op=v8 o:=xK h3
 subst eo
 have loc:L2.Loc X.env.scope x:=by unfold L2.Loc;rw[c.sc];simpa using h2
 refine(GP (ti:=SK (bd X cl) EX o) c.nd (by rw[c.N];exact h1) loc (EC e c.toCtx h5) (Jg h4) (.inl (c.fn x))).imp fun D σ H aC=>?_
 obtain⟨ρ,env,h,hE,hl,r,p⟩:=aC
 simp only[dZ] at p
 obtain⟨n,e1,p⟩:=bJ p
 split at e1<;>cases e1
 rename_i e1
 obtain⟨y,k1,k2⟩:=hE i _ e1
 rw[VR] at k2;subst k2
 refine⟨_,k1,ρ,env,h,hE,r,au p fun v h1 ρ1 z H1 g1 r1 q1 p1=>?_⟩
 obtain⟨m,e2,p2⟩:=bJ p1
 cases qK e2
 rw[VR] at q1;subst q1
 refine⟨ρ1,h1,n,m,r1,rfl,rfl,au p2 fun w h2 ρ2 u H2 g2 r2 q2 p3=>?_⟩
 exact ai r2 p3 _ (((hE.up g1).up g2).set hl q2) (by simp[hl])
noncomputable def Mp(B:Bd)(EX:Nat->List V->Hp->Prop):Dj:=fun o i v H Q=>∃ρ h a b w,HR B ρ h H/\VR B.K ρ H a o/\VR B.K ρ H b i/\VR B.K ρ H w v/\Post B EX ρ H (fun _ _ _ H'=>Q H') (mP a b w h)
theorem Jh(hu:X.A.units+64<cLine):GN X (Mp (bd X cl) EX):=by
 intro pins s σ H o i v ov iv u Q I ro ri rv hh
 obtain⟨ρ,h,a,b,w,r,ha,hb,hw,p⟩:=hh
 cases a with
 | ref j =>
  simp only[mP] at p
  obtain⟨ob,e1,p⟩:=aA p
  have dict:∀kvs,ob=.dct kvs->Post (bd X cl) EX ρ H (fun _ _ _ H'=>Q H') (bnd (bw (keyOf b)) (fun k=>aD (decide (kvs.length<sizeLine)) (put j (.dct (f7 kvs k w)))) h)->wpAny (model X.prog X.w) X.A (setItem ov iv u) (fun _ s'=>∃H',L2.Inv X pins σ H' s'/\Q H') X.xe s:=by
   rintro kvs rfl p
   obtain⟨kk,e2,p⟩:=bJ p
   obtain⟨e3,p⟩:=aI p
   have e3:=of_decide_eq_true e3
   rw[VR] at ha
   obtain⟨A,rfl,k1⟩:=ha
   obtain⟨ks,k2,k3⟩:=r.ob j _ A e1 k1
   cases ro
   have ek:=Be hb e2
   subst ek
   refine yQ (by omega) I (DN.k (v:=v) k2 (by rw[<-k3.length];exact e3)) ri rv fun s' I'=>⟨_,I',?_⟩
   have g:Gr ρ H ρ (upd H A (.dK (putK ks kk v))):=Gr.put (List.mem_of_getElem? k1) k2 rfl
   exact p ρ _ g (r.put k1 e1 (u:=.dct (f7 kvs kk w)) ⟨_,aM,fS.put kk (VR.up g _ _ hw) (fS.up g _ _ k3)⟩)
  cases ob with
  | lst xs =>
   cases b<;>first|(exact p.elim)|skip
   rename_i n _
   obtain⟨jj,e2,p⟩:=bJ p
   obtain⟨A,ys,rfl,k1,k2,k3⟩:=jO r ha e1
   rw[VR] at hb;subst hb
   refine set_list pins s σ H _ _ v ov iv u Q I ro ri rv ⟨A,ys,n,jj,rfl,rfl,k2,by rw[<-k3.length];exact e2,?_⟩
   have g:Gr ρ H ρ (upd H A (.lst (ys.set jj v))):=Gr.put (List.mem_of_getElem? k1) k2 rfl
   exact p ρ _ g (r.put k1 e1 (u:=.lst (xs.set jj w)) ⟨_,aM,ay.set jj (ay.up g _ _ k3) (VR.up g _ _ hw)⟩)
  | dct kvs=>exact dict kvs rfl (by cases b<;>exact p)
  | ins c fs=>cases b<;>exact p.elim
 | _=>exact p.elim
theorem Ji{o i v:IE}:uA Φ (.di o i v):=by
 intro Γ k X cl EX st c h
 rw[kR.eq_def] at h;dsimp only at h;split at h<;>first|cases h|skip
 rename_i a b sp x pos
 simp only[Bool.and_eq_true] at h
 obtain⟨⟨⟨⟨h1,h2⟩,h3⟩,h4⟩,h5⟩:=h
 have UT:PG X (.Subscript a b sp) (Le (tV Φ (bd X cl) EX o) (tV Φ (bd X cl) EX i) (Mp (bd X cl) EX)):=GO (EC o c.toCtx h3) (EC i c.toCtx h4) (Jh c.units) (by
  intro v
  cases b<;>first|rfl|(exact absurd h1 Bool.false_ne_true))
 refine(Ae (EC v c.toCtx h5) UT (ju (t:=some (.Subscript a b sp)) (n:=pos.line) (env:=X.env) h2) (by cases x<;>rfl) rfl).imp fun D σ H aC=>?_
 obtain⟨ρ,env,h,hE,hl,r,p⟩:=aC
 simp only[dZ] at p
 refine⟨ρ,env,h,hE,r,au p fun w h1 ρ1 x1 H1 g1 r1 q1 p1=>⟨ρ1,env,h1,hE.up g1,r1,au p1 fun w2 h2 ρ2 x2 H2 g2 r2 q2 p2=>⟨ρ2,env,h2,(hE.up g1).up g2,r2,au p2 fun w3 h3 ρ3 x3 H3 g3 r3 q3 p3=>?_⟩⟩⟩
 refine⟨ρ3,h3,w2,w3,w,r3,VR.up g3 _ _ q2,q3,VR.up (g2.trans g3) _ _ q1,bx p3 fun _ h4 ρ4 H4 g4 r4 p4=>?_⟩
 exact ai r4 p4 σ (((hE.up g1).up g2).up g3 |>.up g4) hl
theorem Mq{t:IE}{a b:cU}(ha:se Φ a)(hb:se Φ b):uA Φ (.iff t a b):=by
 intro Γ k X cl EX st c h
 rw[kR.eq_def] at h;dsimp only at h;split at h<;>first|cases h|skip
 rename_i tt x y pos
 simp only[Bool.and_eq_true] at h
 refine(Lb (UQ t c.toCtx h.1.1) (ha Γ k X cl EX x c h.1.2) (hb Γ k X cl EX y c h.2)).imp fun D σ H aC=>?_
 obtain⟨ρ,env,h,hE,hl,r,p⟩:=aC
 simp only[dZ] at p
 refine⟨ρ,env,h,hE,r,lU p fun v h1 p1=>?_⟩
 obtain⟨s,e1,p2⟩:=aA p1
 refine⟨s,e1,fun ρ1 H1 g1 r1=>?_⟩
 have p2:=Post.up g1 p2
 cases s with
 | true=>rw[if_pos rfl] at p2 |-;exact⟨ρ1,env,h1,hE.up g1,hl,r1,p2⟩
 | false=>rw[if_neg Bool.false_ne_true] at p2 |-;exact⟨ρ1,env,h1,hE.up g1,hl,r1,p2⟩
theorem Mr{p:jV}{ik:Ik}{it:eO}{body:cU}(hb:se Φ body):uA Φ (.for p ik it body):=by
 intro Γ k X cl EX st c h
 rw[kR.eq_def] at h;dsimp only at h;split at h<;>first|cases h|skip
 rename_i tg iter x pos
 simp only[Bool.and_eq_true] at h
 obtain⟨⟨⟨h1,h2⟩,h3⟩,h4⟩:=h
 have hen:ik=.enum\/ik=.zip->∃es kk pos,tg=.Tuple es kk pos:=by
  intro hz
  cases p with
  | one i=>rcases hz with rfl|rfl<;>cases h3
  | tup is=>exact kQ h1
 obtain⟨hi,hf⟩:=Ga (lY.2 it) c.toCtx h2 hen
 refine(GR c.xe c.calm hi (xP c.toCtx c.fn c.nd h1) (hb Γ k X cl EX x c h4) hf).imp fun D σ H aC=>?_
 obtain⟨ρ,env,h,hE,hl,r,pp⟩:=aC
 simp only[dZ] at pp
 have p':Post (bd X cl) EX ρ H (WF X.K D) (bnd (KI Φ ik it env) (fun src=>bnd (ask fun h=>src.items h) fun xs=>forM src (fun x env=>bnd (bw (fu p x env)) fun env'=>dm Φ body env') xs.length 0 env) h):=by
  unfold KI;rw[aS];exact pp
 refine⟨ρ,env,h,hE,r,bx p' fun src h1 ρ1 H1 g1 r1 p1=>?_⟩
 obtain⟨xs,e1,p2⟩:=aA p1
 refine⟨⟨xs,e1⟩,fun J wk=>?_⟩
 refine⟨fun i m σ' H'=>∃ρ' env' h',Gr ρ1 H1 ρ' H'/\cR X.K ρ' env' σ' H'/\env'.length = σ'.length/\HR (bd X cl) ρ' h' H'/\Post (bd X cl) EX ρ' H' (WF X.K D) (forM src (fun x env=>bnd (bw (fu p x env)) fun env'=>dm Φ body env') m i env' h'),
  ⟨xs.length,ρ1,env,h1,Gr.refl,hE.up g1,hl,r1,p2⟩,?_⟩
 rintro i m σ' H' ⟨ρ',env',h',w1,w2,w3,w4,w5⟩
 cases m with
 | zero =>
  simp only[forM] at w5
  obtain⟨xs',k1,w5⟩:=aA w5
  obtain⟨k2,w5⟩:=aI w5
  exact .inl ⟨wk.stop w1.w w4 k1 (of_decide_eq_true k2),ai w4 w5 σ' w2 w3⟩
 | succ m =>
  simp only[forM] at w5
  obtain⟨xs',k1,w5⟩:=aA w5
  cases hx:xs'[i]? with
  | none =>
   rw[hx] at w5
   exact .inl ⟨wk.stop w1.w w4 k1 (List.getElem?_eq_none_iff.mp hx),ai w4 w5 σ' w2 w3⟩
  | some v =>
   rw[hx] at w5
   dsimp only at w5
   refine .inr ⟨wk.go w1.w w4 k1 hx,_,fun yU FO w=>⟨m,Nat.lt_succ_self _,w⟩,fun y H2 hy=>?_⟩
   obtain⟨z1,z2,z3⟩:=wk.vo w1.w w4 k1 hx hy
   rw[aS] at w5
   obtain⟨gJ,k2,w5⟩:=bJ w5
   refine xQ k2 z3 (w2.up z1) w3 fun σ2 Om hl2 _=>⟨ρ',gJ,h',Om,hl2,z2,bx (Post.up z1 w5) fun f h3 ρ3 H3 g3 r3 p3=>?_⟩
   cases f with
   | nx ED=>exact fun σ3 Ms hl3=>⟨ρ3,ED,h3,(w1.trans z1).trans g3,Ms,hl3,r3,p3⟩
   | ct ED=>exact fun σ3 Ms hl3=>⟨ρ3,ED,h3,(w1.trans z1).trans g3,Ms,hl3,r3,p3⟩
   | bk ED=>exact fun σ3 Ms hl3=>ai r3 p3 σ3 Ms hl3
   | rt v=>exact(ai r3 p3:WF X.K D (.rt v) h3 ρ3 H3)
theorem Mt{n:Nat}{t:IE}{body:cU}(hb:se Φ body):uA Φ (.whl n t body):=Mj fun _ _=>rfl
theorem Mv{e:IE}:uA Φ (.ret e):=by
 intro Γ k X cl EX st c h
 rw[kR.eq_def] at h;dsimp only at h;split at h<;>first|cases h|skip
 refine(GK (EC e c.toCtx h)).imp fun D σ H aC=>?_
 obtain⟨ρ,env,h,hE,hl,r,p⟩:=aC
 simp only[dZ] at p
 exact⟨ρ,env,h,hE,r,au p fun v h1 ρ1 x H1 g1 r1 q1 p1=>ai r1 p1 x q1⟩
theorem Jj:uA Φ .D7:=by
 intro Γ k X cl EX st c h
 rw[kR.eq_def] at h;dsimp only at h;split at h<;>first|cases h|skip
 refine Di.imp fun D σ H aC=>?_
 obtain⟨ρ,env,h,hE,hl,r,p⟩:=aC
 simp only[dZ] at p
 exact ai r p _ VR.non
theorem Mw:uA Φ .brk:=by
 intro Γ k X cl EX st c h
 rw[kR.eq_def] at h;dsimp only at h;split at h<;>first|cases h|skip
 refine Ac.imp fun D σ H aC=>?_
 obtain⟨ρ,env,h,hE,hl,r,p⟩:=aC
 simp only[dZ] at p
 exact ai r p σ hE hl
theorem Mx:uA Φ .cnt:=by
 intro Γ k X cl EX st c h
 rw[kR.eq_def] at h;dsimp only at h;split at h<;>first|cases h|skip
 refine sW.imp fun D σ H aC=>?_
 obtain⟨ρ,env,h,hE,hl,r,p⟩:=aC
 simp only[dZ] at p
 exact ai r p σ hE hl
theorem Jk:uA Φ .pass:=by
 intro Γ k X cl EX st c h
 rw[kR.eq_def] at h;dsimp only at h;split at h<;>first|cases h|skip
 ·refine Dg.imp fun D σ H aC=>?_
  obtain⟨ρ,env,h,hE,hl,r,p⟩:=aC
  simp only[dZ] at p
  exact ai r p σ hE hl
 ·refine GJ.imp fun D σ H aC=>?_
  obtain⟨ρ,env,h,hE,hl,r,p⟩:=aC
  simp only[dZ] at p
  exact ai r p σ hE hl
theorem EE:uA Φ .never:=by
 intro Γ k X cl EX st c h
 refine sX.imp fun D σ H aC=>?_
 obtain⟨ρ,env,h,hE,hl,r,p⟩:=aC
 simp only[dZ] at p
 exact p.elim
theorem zC{α β:Type}(c:Bool)(m:M α)(f:α -> M β):bnd (aD c m) f=aD c (bnd m f):=by
 funext h
 unfold bnd aD
 cases c<;>rfl
theorem Jl{n:Nat}{a v:IE}{x:Str}:uA Φ (.setF n a x v):=by
 intro Γ k X cl EX st c h
 rw[kR.eq_def] at h;dsimp only at h;split at h<;>first|cases h|skip
 rename_i o y ap e pos
 simp only[Bool.and_eq_true,beq_iff_eq,List.contains_iff_mem] at h
 obtain⟨⟨⟨⟨⟨h1,h2⟩,h3⟩,h4⟩,h5⟩,h6⟩:=h
 subst h1
 refine(Hi (EC a c.toCtx h5) (EC v c.toCtx h6) (ju (t:=some (.Attribute o x ap)) (n:=pos.line) (env:=X.env) h2)).imp fun D σ H aC=>?_
 obtain⟨ρ,env,h,hE,hl,r,p⟩:=aC
 simp only[dZ] at p
 refine⟨ρ,env,h,hE,r,au p fun w h1 ρ1 x1 H1 g1 r1 q1 p1=>⟨ρ1,env,h1,hE.up g1,r1,au p1 fun w2 h2 ρ2 x2 H2 g2 r2 q2 p2=>?_⟩⟩
 cases w2<;>first|exact p2.elim|skip
 rename_i i
 rw[VR] at q2
 obtain⟨ad,rfl,q2⟩:=q2
 unfold xC at p2;dsimp only at p2
 rw[aS] at p2
 obtain⟨pr,e1,p3⟩:=aA p2
 have hx:h2[i]?=some (.ins pr.1 pr.2)/\pr.1<n:=by
  split at e1
  ·rename_i c0 fs e2
   split at e1
   ·rename_i hc;cases e1;exact⟨e2,hc⟩
   ·cases e1
  ·cases e1
 obtain⟨dx,gs,k1,k2⟩:=r2.ob i _ ad hx.1 q2
 obtain⟨cc,nn⟩:=c.cls pr.1 (by omega)
 have p4:Post (bd X cl) EX ρ2 H2 (WF X.K D) (aD (decide (pr.2.length<1000)) (bnd (put i (.ins pr.1 (oG x w pr.2))) fun _=>ret (.nx env)) h2):=by
  rw[<-zC];exact p3
 obtain⟨el,p5⟩:=aI p4
 refine⟨ad,cl pr.1,dx,gs,rfl,k1,cc,nn x h4,by rw[<-k2.length];exact of_decide_eq_true el,?_⟩
 have g:Gr ρ2 H2 ρ2 (upd H2 ad (.ins (cl pr.1) dx (iK x x1 gs))):=Gr.put (List.mem_of_getElem? q2) k1 rfl
 exact p5 ρ2 _ g (r2.put q2 hx.1 (u:=.ins pr.1 (oG x w pr.2)) ⟨dx,_,aM,kO.put (VR.up (g2.trans g) _ _ q1) (kO.up g _ _ k2)⟩) σ (((hE.up g1).up g2).up g) hl
theorem Jm:se Φ .nil:=by
 intro Γ k X cl EX st c h
 rw[bN] at h
 cases st with
 | cons _ _=>cases h
 | nil =>
  refine Df.imp fun D σ H aC=>?_
  obtain⟨ρ,env,h,hE,hl,r,p⟩:=aC
  simp only[dm] at p
  exact ai r p σ hE hl
theorem EF{s:IS}{ss:cU}(h1:uA Φ s)(h2:se Φ ss):se Φ (.cons s ss):=by
 intro Γ k X cl EX st c h
 rw[bN.eq_def] at h;dsimp only at h
 cases st with
 | nil=>cases h
 | cons l ls =>
  simp only[Bool.and_eq_true] at h
  refine(Ab (h1 Γ k X cl EX l c h.1) (h2 Γ k X cl EX ls c h.2)).imp fun D σ H aC=>?_
  obtain⟨ρ,env,h,hE,hl,r,p⟩:=aC
  simp only[dm] at p
  refine⟨ρ,env,h,hE,hl,r,bx p fun f h1 ρ1 H1 g1 r1 p1=>?_⟩
  cases f with
  | nx env'=>exact fun σ' P8 hl'=>⟨ρ1,env',h1,P8,hl',r1,p1⟩
  | rt v=>exact(ai r1 p1:WF X.K D (.rt v) h1 ρ1 H1)
  | bk env'=>exact(ai r1 p1:WF X.K D (.bk env') h1 ρ1 H1)
  | ct env'=>exact(ai r1 p1:WF X.K D (.ct env') h1 ρ1 H1)
theorem Bx:∀dR,se Φ dR:=by
 intro dR
 exact cU.rec (motive_1:=fun s=>uA Φ s) (motive_2:=fun ss=>se Φ ss) (fun _=>Jf) (fun _ _=>Ml) (fun _ _ _=>Mn) (fun _ _ _=>Ji) (fun _ _ _ a b=>Mq a b) (fun _ _ _ _ a=>Mr a) (fun _ _ _ a=>Mt a) (fun _=>Mv) Jj Mw Mx Jk EE (fun _ _ _ _=>Jl)
  Jm (fun _ _ a b=>EF a b) dR
end
end Hv
end
section
namespace Hv
open PySem L2 PyProof.Rows
noncomputable abbrev Row:=Str×Nat×(List Val->M Val)
noncomputable def look(fs:List Row)(j:Nat):List Val->M Val:=match fs[j]? with
 | some r=>r.2.2
 | none=>fun _=>bw none
noncomputable def eV(P:Program)(w:World)(B:Bd)(mg:Str->Option Value)(base:Heap)(k:Nat)(fs:List Row):Prop:=∀(j:Nat) (r:Row),fs[j]?=some r->KG P w B mg base k j r.1 r.2.1 r.2.2
noncomputable def bD(N P:List Str)(sc:Scope):Bool :=
 sc.kind==.function && !sc.isCoroutine && !sc.isGenerator&&decide N.Nodup&&N.take P.length==P&&(P.all fun x=>sc.names.lookup x==some .local||sc.names.lookup x==some .cell)&&(sc.names.all fun y=>y.2 != .free)
theorem By{N P:List Str}{sc:Scope}(h:bD N P sc=true):nu N P sc:=by
 unfold bD at h
 simp only[Bool.and_eq_true,beq_iff_eq,Bool.not_eq_true',decide_eq_true_eq,List.all_eq_true,Bool.or_eq_true,bne_iff_ne] at h
 obtain⟨⟨⟨⟨⟨⟨h1,h2⟩,h3⟩,h4⟩,h5⟩,h6⟩,h7⟩:=h
 exact⟨h1,h2,h3,h4,h5,h6,h7⟩
structure Base (K:PySem.W.Frag) (cl:Nat->Addr) (mg:Str->Option Value) (cons:List (Str×Val)) (tb:Tb):Prop where
 blt:∀x∈f9,mg x=none
 cons:∀p∈cons,∃v u,mg p.1=some u/\RelV v u/\∀K ρ H,VR K ρ H p.2 v
 cls:∀c,c<tb.nc->z4 K (cl c)/\∀x∈tb.Ef,jf K (cl c) x
 Eg:∀p∈tb.Eg,Meth K (cl p.1) p.2.1 (cl (1000+p.2.2))
 CT:∀p∈tb.CT,∃C,mg p.1=some (.ref C)/\HU K C p.2.1 (cl (1000+p.2.2))
 isc:∀p∈tb.isc,∃C,mg p.1=some (.ref C)/\∀c b,p.2[c]?=some b->Sx K (cl c)/\PySem.W.kitOne K (.ref (cl c)) (.ref C)=some b
section
variable {P:Program} {w:World} {K:PySem.W.Frag} {cl:Nat->Addr} {mg:Str->Option Value} {base:Heap} {k:Nat} {fs:List Row} {cons:List (Str×Val)} {tb:Tb}
theorem xR{x qual:Str}{st:Stmt}{f:Addr}{fd:FuncData}{N ps:List Str}{body:cU}(T:Base K cl mg cons tb)(A:eV P w ⟨K,cl⟩ mg base k fs)(F:DT K x qual st f fd)(hS:bD N ps (ah st)=true)
  (hc:bN ⟨N,ah st,fs.map (fun r=>(r.1,r.2.1)),cons,tb⟩ body (av st)=true):eW P w K mg base ve (k+2) f fd ps (rY ⟨K,cl⟩ ps.length (jm (look fs) N.length body)):=by
 have S:=By hS
 refine F.ok S (fun vs H Q E h=>?_) (fun cdv A' outer s H vs Q E hr h=>?_)
 ·obtain⟨ρ,h,ws,h1,_,h2,_⟩:=h
  rw[<-h2.length,h1]
 ·obtain⟨ρ,h,ws,hl,r,hv,p⟩:=h
  have lv:=hv.length
  let X:Cx:=(vH ve P w K mg base N qual (ah st) f cdv A' outer s H E).K7
  have c:Je (look fs) ⟨N,ah st,fs.map (fun r=>(r.1,r.2.1)),cons,tb⟩ k X cl (fun _ _ _=>False):=by
   refine { N:=rfl,sc:=rfl,calm:=rfl,room:=hr,kh:=fun _ _ _ z=>z,fns:=fun j x n e=>?_,cls:=T.cls,Eg:=T.Eg,CT:=T.CT,isc:=T.isc,cons:=T.cons,blt:=T.blt,fn:=fun _=>rfl,nd:=S.nd,kind:=S.kind,xe:=PassesOwn.never }
   have e':(fs.map (fun r=>(r.1,r.2.1)))[j]?=some (x,n):=e
   rw[List.getElem?_map] at e'
   cases er:fs[j]? with
   | none=>rw[er] at e';cases e'
   | some r =>
    rw[er] at e'
    cases e'
    have:=A j r er
    unfold look
    rw[er]
    exact this
  refine⟨_,Bx body _ k X cl _ (av st) c hc,ρ,ws.map some++List.replicate (N.length-ws.length) none,h,fun i v e=>?_,?_,r,bx p fun fl h1 ρ1 H1 g1 r1 p1=>?_⟩
  ·by_cases hi:i<ws.length
   ·rw[List.getElem?_append_left (by simpa using hi)] at e
    rw[List.getElem?_map] at e
    cases ei:ws[i]? with
    | none=>rw[ei] at e;cases e
    | some w' =>
     rw[ei] at e;cases e
     obtain⟨y,q1,q2⟩:=hv.get ei
     refine⟨y,?_,q2⟩
     show (vs.map some++_)[i]?=_
     rw[List.getElem?_append_left (by rw[List.length_map,<-lv];exact hi),List.getElem?_map,q1];rfl
   ·rw[List.getElem?_append_right (by simp;omega)] at e
    have:=List.mem_of_getElem? e
    rw[List.mem_replicate] at this
    exact absurd this.2 (by simp)
  ·show _=(vs.map some++_).length
   simp[lv]
  ·cases fl with
   | nx env'=>exact fun σ' _ _=>ai r1 p1 _ VR.non
   | rt v=>exact(ai r1 p1:WV K Q v h1 ρ1 H1)
   | bk env'=>exact p1.elim
   | ct env'=>exact p1.elim
theorem _root_.Hv.KG.mono{B:Bd}{j:Nat}{x:Str}{n:Nat}{φ:List Val->M Val}(g:KG P w B mg base k j x n φ):KG P w B mg base (k+2) j x n φ:=by
 have le:k<=k+2:=Nat.le_add_right _ _
 rcases g with ⟨h,⟨f,fd,ps,q1,q2,q3,q4,q5⟩|⟨c,f,fd,ps,φ0,q0,q1,q2,q3,q4,q5⟩⟩|⟨h,fd,ps,q1,q4,q5⟩
 ·exact .inl ⟨h,.inl ⟨f,fd,ps,q1,q2,q3,q4,q5.mono le⟩⟩
 ·exact .inl ⟨h,.inr ⟨c,f,fd,ps,φ0,q0,q1,q2,q3,q4,q5.mono le⟩⟩
 ·exact .inr ⟨h,fd,ps,q1,q4,q5.mono le⟩
theorem all_nil:eV P w ⟨K,cl⟩ mg base k []:=fun j r e=>by simp at e
theorem cy{x qual:Str}{st:Stmt}{f:Addr}{fd:FuncData}{N ps:List Str}{body:cU}(T:Base K cl mg cons tb)(A:eV P w ⟨K,cl⟩ mg base k fs)(F:DT K x qual st f fd)(hm:mg x=some (.ref f))(hb:Binds K fd ps [])(BA:ps.length<1000)(hS:bD N ps (ah st)=true)
  (hc:bN ⟨N,ah st,fs.map (fun r=>(r.1,r.2.1)),cons,tb⟩ body (av st)=true):eV P w ⟨K,cl⟩ mg base (k+2) (fs++[(x,ps.length,jm (look fs) N.length body)]):=fun j r e=>by
 by_cases hj:j<fs.length
 ·rw[List.getElem?_append_left hj] at e
  exact(A j r e).mono
 ·rw[List.getElem?_append_right (by omega)] at e
  have hj0:j-fs.length=0:=by
   have:=(List.getElem?_eq_some_iff.mp e).1
   simp at this;omega
  rw[hj0] at e
  simp at e
  subst e
  exact .inl ⟨BA,.inl ⟨f,fd,ps,rfl,hm,F.kp,hb,xR T A F hS hc⟩⟩
theorem xS{r0:Row}(A:eV P w ⟨K,cl⟩ mg base k fs)(g:KG P w ⟨K,cl⟩ mg base (k+2) fs.length r0.1 r0.2.1 r0.2.2):eV P w ⟨K,cl⟩ mg base (k+2) (fs++[r0]):=fun j r e=>by
 by_cases hj:j<fs.length
 ·rw[List.getElem?_append_left hj] at e
  exact(A j r e).mono
 ·rw[List.getElem?_append_right (by omega)] at e
  have hj0:j-fs.length=0:=by
   have:=(List.getElem?_eq_some_iff.mp e).1
   simp at this;omega
  rw[hj0] at e
  simp at e
  subst e
  rw[show j=fs.length by omega]
  exact g
theorem kT{x qual y:Str}{st:Stmt}{f:Addr}{fd:FuncData}{N ps:List Str}{body:cU}(T:Base K cl mg cons tb)(A:eV P w ⟨K,cl⟩ mg base k fs)(F:DT K x qual st f fd)(hf:cl (1000+fs.length)=f)(hb:Binds K fd ps [])(hS:bD N ps (ah st)=true)
  (hc:bN ⟨N,ah st,fs.map (fun r=>(r.1,r.2.1)),cons,tb⟩ body (av st)=true):eV P w ⟨K,cl⟩ mg base (k+2) (fs++[(y,1000+ps.length,jm (look fs) N.length body)]):=by
 refine xS (r0:=(y,1000+ps.length,jm (look fs) N.length body)) A (.inr ⟨Nat.le_add_right _ _,fd,ps,?_,hb,?_⟩)
 ·show ps.length=1000+ps.length-1000
  omega
 ·show eW P w K mg base ve (k+2) (cl (1000+fs.length)) fd ps (rY ⟨K,cl⟩ (1000+ps.length-1000) _)
  rw[hf,show 1000+ps.length-1000=ps.length by omega]
  exact xR T A F hS hc
theorem all_class{x i qual:Str}{st:Stmt}{f:Addr}{fd:FuncData}{N ps:List Str}{n c:Nat}{body:cU}(T:Base K cl mg cons tb)(A:eV P w ⟨K,cl⟩ mg base k fs)(F:DT K i qual st f fd)(hm:mg x=some (.ref (cl c)))(M:Mk K (cl c) f)(hb:Binds K fd ps [])(hn:ps.length=n+1)(BA:n<1000)(hS:bD N ps (ah st)=true)
  (hc:bN ⟨N,ah st,fs.map (fun r=>(r.1,r.2.1)),cons,tb⟩ body (av st)=true):eV P w ⟨K,cl⟩ mg base (k+2) (fs++[(x,n,HX c (jm (look fs) N.length body))]):=by
 refine xS (r0:=(x,n,HX c (jm (look fs) N.length body))) A (.inl ⟨BA,.inr ⟨c,f,fd,ps,_,rfl,hn,hm,M,hb,?_⟩⟩)
 rw[<-hn]
 exact xR T A F hS hc
end
theorem qN{α:Type}:∀{us:List α},us.length=1->∃a,us=[a]
 | [a],_=>⟨a,rfl⟩
theorem j4{α:Type}:∀{us:List α},us.length=2->∃a b,us=[a,b]
 | [a,b],_=>⟨a,b,rfl⟩
theorem My{α:Type}:∀{us:List α},us.length=3->∃a b c,us=[a,b,c]
 | [a,b,c],_=>⟨a,b,c,rfl⟩
theorem Jo{K:PySem.W.Frag}{cl:Nat->Addr}{φ:List Val->M Val}{H:Hp}{a:Addr}{ns:List Int}(hO:AB H)(hS:fO K H a (ns.map V.int))(h:∃h',φ [.rl (ns.map .int)] []=.ok (.bl true) h') :
  rY ⟨K,cl⟩ 1 φ [.ref a] H (fun v _=>v=.bl true) fun _ _ _=>False:=by
 obtain⟨h',e⟩:=h
 have sr:FU K H a (ns.map V.int):=by
  rcases hS with (z|z)|z
  ·rcases hO a with y|⟨o,xs,y⟩
   ·rw[y] at z;cases z
   ·rw[y] at z;cases z
  ·exact .inl z
  ·exact .inr (.inr z)
 refine⟨[],[],[.rl (ns.map .int)],rfl,⟨rfl,List.nodup_nil,fun i o a e=>by simp at e⟩,ay.cons (by rw[VR];exact⟨a,_,rfl,sr,ay.ints.mpr rfl⟩) ay.nil,?_⟩
 rw[e]
 intro ρ' H' g r x q
 rw[VR] at q;exact q
noncomputable def Oo(K:PySem.W.Frag):Sp:=fun vs H Q _=>∃(a:Addr) (ns:List Int),vs=[.ref a]/\AB H/\fO K H a (ns.map V.int)/\ns.length<=63/\∀H',Q (.bl true) H'
theorem Jp{K:PySem.W.Frag}{cl:Nat->Addr}{φ:List Val->M Val}(hφ:∀ns:List Int,ns.length<=63->∃h',φ [.rl (ns.map .int)] []=.ok (.bl true) h')(vs:List V)(H:Hp)(Q:VK)(E:XK)(h:Oo K vs H Q E):rY ⟨K,cl⟩ 1 φ vs H Q E:=by
 obtain⟨a,ns,rfl,hO,hS,hl,hq⟩:=h
 obtain⟨ρ,h,vs,q1,q2,q3,q4⟩:=Jo (cl:=cl) hO hS (hφ ns hl)
 refine⟨ρ,h,vs,q1,q2,q3,?_⟩
 revert q4
 cases φ vs h with
 | ok v h'=>exact fun q4 ρ' H' g r x hx=>by rw[show x=_ from q4 ρ' H' g r x hx];exact hq H'
 | exc c ws h'=>exact fun q4=>q4
 | no=>exact fun q4=>q4
theorem walk{l:PySem.W.OpenLaw}{q:Program}{loose:List Str}{XP:(Str->Option Value)->Heap->Prop}{YP:World->Heap->Prop}{d:DefRec}{K:Params->PySem.W.Frag}{k:Nat}{x:Str}(hn:l.most=some 63)(hdf:d.params.defaults=[])(hr:cX k callerA)
  (hY:∀(w:World) (h:Heap),YP w h->(K w.params).In h)
  (F:∀(w:World) (mg:Str->Option Value) (fa:Addr) (h:Heap),(K w.params).In h->h.Ns mainGlobals mg->mg d.name=some (.ref fa) ->
   ∃fd:FuncData,(∀(s:Shared) (u:Value),BindsTo s fd ⟨[u],[]⟩ [(x,u)])/\∀base:Heap,(K w.params).In base->base.Ns mainGlobals mg->eW l.prog w (K w.params) mg base ve k fa fd [x] (Oo (K w.params))) :
  PySem.W.WalkO q loose XP YP l.row.toRowW d [] (fun f vs=>PySem.call f vs) :=
 L2.DS (n:=63) (k:=k) (x:=x) (CX:=fun _=>ve) (sp:=fun w=>Oo (K w.params)) hn (by decide) hdf hr hY F (fun _ _ a ns hl hO hS=>⟨a,ns,rfl,hO,hS,hl,fun _=>rfl⟩) fun _ _ _ _ _ z=>z
end Hv
end
section
namespace Hv
open PySem L2
inductive Pr (α:Type)
 | ok (a:α)|exc (c:Nat) (ds:List Val)|no
noncomputable def pb{α β:Type}(m:Pr α)(f:α -> Pr β):Pr β:=match m with
 | .ok a=>f a
 | .exc c ds=>.exc c ds
 | .no=>.no
noncomputable def pl{α:Type}(o:Option α):Pr α:=match o with
 | some a=>.ok a
 | none=>.no
noncomputable def pg{α:Type}(c:Bool)(m:Pr α):Pr α:=if c=true then m else .no
inductive Mk
 | sh|nw|ow
noncomputable def qO:Mk->Bool
 | .ow=>false
 | _=>true
noncomputable def KL:Mk->Bool
 | .nw=>true
 | _=>false
noncomputable abbrev aF:=List (Option (Mk×Val))
noncomputable abbrev FV:=Bool×Val
mutual
noncomputable def gZ:Val->Bool
 | .rl _=>false
 | .dc _ _=>false
 | .ob _ _ _=>false
 | .ref _=>false
 | .tup vs=>bz vs
 | .non=>true
 | .bl _=>true
 | .int _=>true
 | .str _=>true
noncomputable def bz:List Val->Bool
 | []=>true
 | v::vs=>gZ v&&bz vs
end
noncomputable def kU(f:Bool)(d:Val):Mk:=if (f && !gZ d)=true then .nw else .sh
noncomputable def putD(ks:List Key)(ds:List Val)(k:Key)(d:Val):Val:=.dc ((f7 (ks.zip ds) k d).map (·.1)) ((f7 (ks.zip ds) k d).map (·.2))
noncomputable def jv:rR->Val->Val->Pr FV
 | .add,.int a,.int b=>.ok (true,.int (a+b))
 | .add,.str a,.str b=>pg (decide (a.length+b.length<=sizeLine)) (.ok (true,.str (a++b)))
 | .add,.tup a,.tup b=>pg (!a.isEmpty&&decide (a.length+b.length<=sizeLine)) (.ok (bz (a++b),.tup (a++b)))
 | .add,.rl a,.rl b=>pg (decide (a.length+b.length<=sizeLine)) (.ok (bz (a++b),.rl (a++b)))
 | .sub,.int a,.int b=>.ok (true,.int (a-b))
 | .mul,.int a,.int b=>pg (jk a b) (.ok (true,.int (a*b)))
 | .fdiv,.int a,.int b=>pg (gX b) (.ok (true,.int (a/b)))
 | .mod,.int a,.int b=>pg (decide (0<b)) (.ok (true,.int (a%b)))
 | .pow,.int a,.int b=>pg (decide (0<=b/\b<=1000000/\a.natAbs<2 ^ 64)) (.ok (true,.int (a ^ b.toNat)))
 | _,_,_=>.no
noncomputable def zE(v:Val)(lo hi:Option Int):Pr FV:=match v with
 | .tup vs=>pg (!(decide (HT.dU vs.length 0 lo=0)&&decide (HT.dU vs.length vs.length hi=vs.length))) (.ok (bz (cW vs lo hi),.tup (cW vs lo hi)))
 | .rl vs=>.ok (bz (cW vs lo hi),.rl (cW vs lo hi))
 | _=>.no
noncomputable def gK:Bl->List Val->Pr FV
 | .len,[v]=>pb (pl (kN [] v)) fun n=>.ok (true,.int n)
 | .min,[.int a,.int b]=>.ok (true,.int (if b<a then b else a))
 | .max,[.int a,.int b]=>.ok (true,.int (if b>a then b else a))
 | .min,[v]=>pb (pl (cV [] v)) fun xs=>pb (pl ((aQ xs).bind rT)) fun m=>.ok (true,m)
 | .max,[v]=>pb (pl (cV [] v)) fun xs=>pb (pl ((aQ xs).bind rV)) fun m=>.ok (true,m)
 | .sorted,[.rl xs]=>pb (pl (fq xs)) fun ys=>.ok (true,.rl ys)
 | .list,[v]=>pb (pl (cV [] v)) fun xs=>.ok (bz xs,.rl xs)
 | .int,[.bl b]=>.ok (true,.int (if b=true then 1 else 0))
 | .int,[.int i]=>.ok (true,.int i)
 | .isin T,[v]=>pb (pl (t8 [] v)) fun t=>pb (pl (t9 T t)) fun b=>.ok (true,.bl b)
 | _,_=>.no
noncomputable def gc:Ik->List Val->Option (List Val)
 | .seq,[.tup vs]=>some vs
 | .seq,[.rl vs]=>some vs
 | .range,[.int n]=>if inR n then some (bW 0 n.toNat) else none
 | .range,[.int a,.int b]=>if inR a&&inR b then some (bW a (b-a).toNat) else none
 | .enum,[.rl vs]=>some (cF 0 vs)
 | _,_=>none
noncomputable def BB(k:Ik)(ds:List Val):Option (List Val):=match k with
 | .zip=>none
 | k=>gc k ds
noncomputable def bA:List Nat->List Val->aF->Option aF
 | [],[],env=>some env
 | i::is,d::ds,env=>bA is ds (env.set i (some (.sh,d)))
 | _,_,_=>none
noncomputable def cG:jV->Val->aF->Option aF
 | .one i,d,env=>some (env.set i (some (.sh,d)))
 | .tup is,.tup ds,env=>bA is ds env
 | _,_,_=>none
noncomputable def j5(js:List (Option Nat))(env:aF):aF:=js.map fun o=>match o with
 | none=>none
 | some j=>match env[j]? with
  | some (some d)=>some d
  | _=>none
noncomputable def iS(f:Val->Pr (Option FV)):List Val->Pr (Bool×List Val)
 | []=>.ok (true,[])
 | x::r=>pb (f x) fun o=>pb (iS f r) fun p=>.ok (match o with|some e=>(e.1&&p.1,e.2::p.2)|none=>p)
noncomputable def oW:Val->Pr Bool
 | .bl b=>.ok b
 | _=>.no
noncomputable def gf(env:aF):IE->Option FV
 | .var i=>match env[i]? with
  | some (some (_,d))=>some (gZ d,d)
  | _=>none
 | _=>none
noncomputable def isVar:IE->Bool
 | .var _=>true
 | _=>false
mutual
noncomputable def aX(Ψ:Nat->List Val->Pr FV):IE->aF->Pr FV
 | .var i,env=>match env[i]? with
  | some (some (m,d))=>pg (qO m) (.ok (gZ d,d))
  | _=>.no
 | .cst d,_=>.ok (gZ d,d)
 | .con _ d,_=>.ok (gZ d,d)
 | .no,_=>.no
 | .bin o a b,env=>pb (if isVar a=true then pl (gf env a) else aX Ψ a env) fun x=>pb (if isVar b=true then pl (gf env b) else aX Ψ b env) fun y=>jv o x.2 y.2
 | .neg a,env=>pb (aX Ψ a env) fun x=>match x.2 with
  | .int i=>.ok (true,.int (-i))
  | _=>.no
 | .cmp o a b,env=>pb (if isVar a=true then pl (gf env a) else aX Ψ a env) fun x=>pb (if isVar b=true then pl (gf env b) else aX Ψ b env) fun y=>pb (pl (cop [] o x.2 y.2)) fun t=>.ok (true,.bl t)
 | .chn _ _ _ _ _,_=>.no
 | .and a b,env=>pb (aX Ψ a env) fun x=>pb (oW x.2) fun t=>if t=true then pb (aX Ψ b env) fun y=>pb (oW y.2) fun u=>.ok (true,.bl u) else .ok (true,.bl false)
 | .or a b,env=>pb (aX Ψ a env) fun x=>pb (oW x.2) fun t=>if t=true then .ok (true,.bl true) else pb (aX Ψ b env) fun y=>pb (oW y.2) fun u=>.ok (true,.bl u)
 | .not a,env=>pb (aX Ψ a env) fun x=>pb (oW x.2) fun t=>.ok (true,.bl (!t))
 | .ite _ _ _,_=>.no
 | .tup es,env=>pb (sf Ψ es env) fun p=>pg (decide (p.2.length<=sizeLine)) (.ok (p.1,.tup p.2))
 | .lst es,env=>pb (sf Ψ es env) fun p=>pg (decide (p.2.length<=sizeLine)) (.ok (p.1,.rl p.2))
 | .idx a b,env=>pb (if isVar a=true then pl (gf env a) else aX Ψ a env) fun x=>pb (aX Ψ b env) fun y=>pb (pl (iM [] x.2 y.2)) fun z=>.ok (gZ z,z)
 | .slc a lo hi,env=>pb (if isVar a=true then pl (gf env a) else aX Ψ a env) fun x=>pb (if cH lo=true then .ok none else pb (aX Ψ lo env) fun v=>pb (pl (fP v.2)) fun i=>.ok (some i)) fun l =>
   pb (if cH hi=true then .ok none else pb (aX Ψ hi env) fun v=>pb (pl (fP v.2)) fun i=>.ok (some i)) fun u=>zE x.2 l u
 | .call j es,env=>pb (sf Ψ es env) fun p=>Ψ j p.2
 | .blt b es,env=>pb (gM Ψ es env) fun ds=>gK b ds
 | .met m a es,env=>match m with
  | .join=>.no
  | _=>.no
 | .comp _ js pat k it c elt,env=>pb (gM Ψ it env) fun its=>pb (pl (BB k its)) fun xs=>pg (decide (xs.length<=100000))
   (pb (iS (fun d=>pb (pl (cG pat d (j5 js env))) fun env'=>pb (if cH c=true then .ok true else pb (aX Ψ c env') fun v=>pl (dj [] v.2)) fun t =>
    if t=true then pb (aX Ψ elt env') fun e=>.ok (some e) else .ok none) xs) fun p=>.ok (p.1,.rl p.2))
 | .dct0,_=>.ok (true,.dc [] [])
 | .sset a,env=>pb (if isVar a=true then pl (gf env a) else aX Ψ a env) fun x=>match x.2 with
  | .rl xs=>pb (pl (aQ xs)) fun ns=>pg (decide (ns.length<64)) (.ok (true,.rl ((PySem.W.sortI (L2.dQ [] ns)).map .int)))
  | _=>.no
 | .dget d k x,env=>pb (if isVar d=true then pl (gf env d) else aX Ψ d env) fun o=>pb (pl (Ba [] o.2)) fun _=>pb (aX Ψ k env) fun i=>pb (pl (keyOf i.2)) fun kk=>pb (aX Ψ x env) fun z=>pb (pl (v5 [] o.2 kk)) fun r=>.ok (gZ (r.getD z.2),r.getD z.2)
 | .dct1 k v,env=>pb (aX Ψ k env) fun x=>pb (pl (keyOf x.2)) fun kk=>pb (aX Ψ v env) fun y=>.ok (y.1,.dc [kk] [y.2])
 | .lkeys d,env=>pb (if isVar d=true then pl (gf env d) else aX Ψ d env) fun o=>pb (pl (kM [] o.2)) fun ks=>.ok (true,.rl (ks.map zj))
 | .sdef ..,_=>.no
 | .svals _,_=>.no
 | .skeys d,env=>pb (if isVar d=true then pl (gf env d) else aX Ψ d env) fun o=>pb (pl (kq [] o.2)) fun ns=>.ok (true,.rl (ns.map .int))
 | .fld n a x,env=>pb (if isVar a=true then pl (gf env a) else aX Ψ a env) fun o=>pb (pl (gG n [] o.2 x)) fun z=>.ok (gZ z,z)
 | .mth a m js es,env=>pb (aX Ψ a env) fun o=>pb (pl (lQ [] o.2 m js)) fun j=>pb (sf Ψ es env) fun p=>Ψ j (o.2::p.2)
 | .rev a s,env=>pb (if isVar a=true then pl (gf env a) else aX Ψ a env) fun x=>pb (if cH s=true then .ok none else pb (aX Ψ s env) fun v=>pb (pl (fP v.2)) fun i=>.ok (some i)) fun k =>
   pg (decide (k=some (-1))) (match x.2 with
    | .rl vs=>.ok (bz vs.reverse,.rl vs.reverse)
    | _=>.no)
 | .dflt _ _ _ _ d w,env=>pb (if isVar d=true then pl (gf env d) else aX Ψ d env) fun o=>pb (pl (kM [] o.2)) fun ks=>pb (if isVar w=true then pl (gf env w) else aX Ψ w env) fun v=>pb (pl (oE [] ks v.2)) fun ns=>.ok (true,.rl (ns.map .int))
 | .isc _ _ _,_=>.no
noncomputable def sf(Ψ:Nat->List Val->Pr FV):eO->aF->Pr (Bool×List Val)
 | .nil,_=>.ok (true,[])
 | .cons e es,env=>pb (aX Ψ e env) fun d=>pb (sf Ψ es env) fun p=>.ok (d.1&&p.1,d.2::p.2)
noncomputable def gM(Ψ:Nat->List Val->Pr FV):eO->aF->Pr (List Val)
 | .nil,_=>.ok []
 | .cons e es,env=>pb (if isVar e=true then pl (gf env e) else aX Ψ e env) fun d=>pb (gM Ψ es env) fun p=>.ok (d.2::p)
end
noncomputable def SM(Ψ:Nat->List Val->Pr FV)(e:IE)(env:aF):Pr FV:=if isVar e=true then pl (gf env e) else aX Ψ e env
inductive nE
 | nx (env:aF)|rt (p:FV)|bk (env:aF)|ct (env:aF)
mutual
noncomputable def qb:IS->List Nat
 | .expr (.met .append (.var i) _)=>[i]
 | .expr (.met .extend (.var i) _)=>[i]
 | .di (.var i) _ _=>[i]
 | .iff _ a b=>ic a++ic b
 | .for _ _ _ b=>ic b
 | .whl _ _ b=>ic b
 | _=>[]
noncomputable def ic:cU->List Nat
 | .nil=>[]
 | .cons s r=>qb s++ic r
end
noncomputable def stored:jV->List Nat
 | .one i=>[i]
 | .tup is=>is
mutual
noncomputable def l0:IS->List Nat
 | .asg p _=>stored p
 | .aug i _ _=>[i]
 | .iff _ a b=>j6 a++j6 b
 | .for p _ _ b=>stored p++j6 b
 | .whl _ _ b=>j6 b
 | _=>[]
noncomputable def j6:cU->List Nat
 | .nil=>[]
 | .cons s r=>l0 s++j6 r
end
noncomputable def P9:IE->Bool
 | .lst _=>true
 | .comp ..=>true
 | .slc ..=>true
 | .blt .list _=>true
 | .blt .sorted _=>true
 | .dct0=>true
 | .dct1 ..=>true
 | _=>false
noncomputable def jb(body:Val->aF->Pr nE):List Val->aF->Pr nE
 | [],env=>.ok (.nx env)
 | x::r,env=>pb (body x env) fun f=>match f with
  | .nx env'=>jb body r env'
  | .ct env'=>jb body r env'
  | .bk env'=>.ok (.nx env')
  | .rt p=>.ok (.rt p)
noncomputable def SN:Mk->Mk
 | .ow=>.sh
 | m=>m
noncomputable def SO:Option (Mk×Val)->Option (Mk×Val)
 | none=>none
 | some (m,d)=>some (SN m,d)
noncomputable def iZ(env:aF):aF:=env.map SO
noncomputable def Oq(Ψ:Nat->List Val->Pr FV)(e:IE)(env:aF):Pr FV:=match e with
 | .var i=>match env[i]? with
  | some (some (m,d))=>if qO m=true then .ok (gZ d||KL m,d) else match d with
   | .rl ds=>.ok (bz ds,.rl ds)
   | .dc ks ds=>.ok (bz ds,.dc ks ds)
   | _=>.no
  | _=>.no
 | .call j es=>aX Ψ (.call j es) (iZ env)
 | .tup es=>aX Ψ (.tup es) (iZ env)
 | e=>aX Ψ e env
noncomputable def BC(p:jV)(it:eO)(body:cU):Bool:=match it with
 | .cons (.var i) .nil=>!(ic body).contains i && !(j6 body).contains i && !(stored p).contains i
 | _=>true
mutual
noncomputable def cS(Ψ:Nat->List Val->Pr FV)(ms:List Nat):IS->aF->Pr nE
 | .expr e,env=>match e with
  | .met .append (.var i) (.cons a .nil)=>match env[i]? with
   | some (some (.ow,.rl ds))=>pb (aX Ψ a env) fun x=>pg (decide (ds.length<sizeLine)) (.ok (.nx (env.set i (some (.ow,.rl (ds++[x.2]))))))
   | _=>.no
  | .met .extend (.var i) (.cons a .nil)=>match env[i]? with
   | some (some (.ow,.rl ds))=>pb (aX Ψ a env) fun x=>match x.2 with
    | .tup vs=>pg (decide (ds.length+vs.length<=sizeLine)) (.ok (.nx (env.set i (some (.ow,.rl (ds++vs))))))
    | _=>.no
   | _=>.no
  | e=>pb (aX Ψ e env) fun _=>.ok (.nx env)
 | .asg p e,env=>match p with
  | .one i=>if ms.contains i=true then pg (P9 e) (pb (aX Ψ e env) fun x=>match x.2 with
    | .rl ds=>.ok (.nx (env.set i (some (.ow,.rl ds))))
    | .dc ks ds=>.ok (.nx (env.set i (some (.ow,.dc ks ds))))
    | _=>.no) else pb (aX Ψ e env) fun x=>.ok (.nx (env.set i (some (kU x.1 x.2,x.2))))
  | .tup is=>pg (is.all fun i=>!ms.contains i) (pb (aX Ψ e env) fun x=>pb (pl (cG (.tup is) x.2 env)) fun env'=>.ok (.nx env'))
 | .aug i o e,env=>pg (!ms.contains i) (pb (pl (match env[i]? with|some (some (_,.int x))=>some x|_=>none)) fun x=>pb (aX Ψ e env) fun v=>pb (pl (fP v.2)) fun y=>pb (jv o (.int x) (.int y)) fun z=>.ok (.nx (env.set i (some (.sh,z.2)))))
 | .di o i v,env=>match o with
  | .var j=>pb (aX Ψ v env) fun x=>match env[j]? with
   | some (some (.ow,.rl ds))=>pb (aX Ψ i env) fun z=>pb (pl (fP z.2)) fun k=>pb (pl (rD ds.length k)) fun n=>.ok (.nx (env.set j (some (.ow,.rl (ds.set n x.2)))))
   | some (some (.ow,.dc ks ds))=>pb (aX Ψ i env) fun z=>pb (pl (keyOf z.2)) fun k=>pg (decide (ks.length<sizeLine)) (.ok (.nx (env.set j (some (.ow,putD ks ds k x.2)))))
   | _=>.no
  | _=>.no
 | .iff c a b,env=>pb (SM Ψ c env) fun x=>pb (pl (dj [] x.2)) fun t=>if t=true then j7 Ψ ms a env else j7 Ψ ms b env
 | .for p k it body,env=>pg (BC p it body&&(stored p).all fun i=>!ms.contains i) (pb (gM Ψ it env) fun its=>pb (pl (gc k its)) fun xs =>
   jb (fun x env=>pb (pl (cG p x env)) fun env'=>j7 Ψ ms body env') xs env)
 | .whl _ _ _,_=>.no
 | .ret e,env=>pb (Oq Ψ e env) fun p=>.ok (.rt p)
 | .D7,_=>.ok (.rt (true,.non))
 | .brk,env=>.ok (.bk env)
 | .cnt,env=>.ok (.ct env)
 | .pass,env=>.ok (.nx env)
 | .never,_=>.no
 | .setF _ _ _ _,_=>.no
noncomputable def j7(Ψ:Nat->List Val->Pr FV)(ms:List Nat):cU->aF->Pr nE
 | .nil,env=>.ok (.nx env)
 | .cons s r,env=>pb (cS Ψ ms s env) fun f=>match f with
  | .nx env'=>j7 Ψ ms r env'
  | f=>.ok f
end
noncomputable def jc(Ψ:Nat->List Val->Pr FV)(n:Nat)(body:cU)(ds:List Val):Pr FV :=
 pb (j7 Ψ (ic body) body (ds.map (fun d=>some (.sh,d))++List.replicate (n-ds.length) none)) fun f=>match f with
  | .nx _=>.ok (true,.non)
  | .rt p=>.ok p
  | _=>.no
end Hv
end
section
namespace Hv
open PySem L2
noncomputable abbrev AP:=Option Nat->Prop
noncomputable def Fr(n:Nat):AP:=fun o=>match o with
 | none=>False
 | some k=>n<=k
theorem Fr.le{n m:Nat}(h:n<=m):∀o,Fr m o->Fr n o
 | none,e=>e
 | some k,e=>Nat.le_trans h e
mutual
noncomputable def Dn(A:AP)(h:Hs):Val->Val->Prop
 | .non,v=>v=.non
 | .bl b,v=>v=.bl b
 | .int i,v=>v=.int i
 | .str x,v=>v=.str x
 | .tup ds,v=>∃vs,v=.tup vs/\aj A h ds vs
 | .rl ds,v=>(∃vs,v=.rl vs/\A none/\aj A h ds vs)\/∃i vs,v=.ref i/\A (some i)/\h[i]?=some (.lst vs)/\aj A h ds vs
 | .dc ks ds,v=>∃i kvs,v=.ref i/\A (some i)/\h[i]?=some (.dct kvs)/\kvs.map (·.1)=ks/\aj A h ds (kvs.map (·.2))
 | .ob c xs ds,v=>∃i fs,v=.ref i/\A (some i)/\h[i]?=some (.ins c fs)/\fs.map (·.1)=xs/\aj A h ds (fs.map (·.2))
 | .ref _,_=>False
noncomputable def aj(A:AP)(h:Hs):List Val->List Val->Prop
 | [],vs=>vs=[]
 | d::ds,vs=>∃v r,vs=v::r/\Dn A h d v/\aj A h ds r
end
section
variable {A A':AP} {h h' h1:Hs}
mutual
theorem Dn.mono(hA:∀i,A i->A' i)(hh:∀(i:Nat) (o:Ob),A (some i)->h[i]?=some o->h'[i]?=some o):∀(d v:Val),Dn A h d v->Dn A' h' d v
 | .non,v,e=>by rw[Dn] at e |-;exact e
 | .bl _,v,e=>by rw[Dn] at e |-;exact e
 | .int _,v,e=>by rw[Dn] at e |-;exact e
 | .str _,v,e=>by rw[Dn] at e |-;exact e
 | .tup ds,v,e=>by
  rw[Dn] at e |-
  obtain⟨vs,rfl,q⟩:=e
  exact⟨vs,rfl,aj.mono hA hh ds vs q⟩
 | .rl ds,v,e=>by
  rw[Dn] at e |-
  rcases e with ⟨vs,rfl,n,q⟩|⟨i,vs,rfl,a,g,q⟩
  ·exact .inl ⟨vs,rfl,hA _ n,aj.mono hA hh ds vs q⟩
  ·exact .inr ⟨i,vs,rfl,hA _ a,hh i _ a g,aj.mono hA hh ds vs q⟩
 | .dc ks ds,v,e=>by
  rw[Dn] at e |-
  obtain⟨i,kvs,rfl,a,g,k,q⟩:=e
  exact⟨i,kvs,rfl,hA _ a,hh i _ a g,k,aj.mono hA hh ds _ q⟩
 | .ob c xs ds,v,e=>by
  rw[Dn] at e |-
  obtain⟨i,kvs,rfl,a,g,k,q⟩:=e
  exact⟨i,kvs,rfl,hA _ a,hh i _ a g,k,aj.mono hA hh ds _ q⟩
 | .ref _,v,e=>by rw[Dn] at e;exact e.elim
theorem aj.mono(hA:∀i,A i->A' i)(hh:∀(i:Nat) (o:Ob),A (some i)->h[i]?=some o->h'[i]?=some o):∀(ds vs:List Val),aj A h ds vs->aj A' h' ds vs
 | [],vs,e=>by rw[aj] at e |-;exact e
 | d::ds,vs,e=>by
  rw[aj] at e |-
  obtain⟨v,r,rfl,q1,q2⟩:=e
  exact⟨v,r,rfl,Dn.mono hA hh d v q1,aj.mono hA hh ds r q2⟩
end
theorem bO{i:Nat}{o:Ob}(p:h<+:h')(e:h[i]?=some o):h'[i]?=some o:=by
 obtain⟨t,rfl⟩:=p
 have hi:i<h.length:=(List.getElem?_eq_some_iff.mp e).1
 rw[List.getElem?_append_left hi];exact e
theorem Dn.ext{d v:Val}(p:h<+:h')(e:Dn A h d v):Dn A h' d v:=Dn.mono (fun _ a=>a) (fun _ _ _ q=>bO p q) d v e
theorem aj.ext{d v:List Val}(p:h<+:h')(e:aj A h d v):aj A h' d v:=aj.mono (fun _ a=>a) (fun _ _ _ q=>bO p q) d v e
theorem Dn.fM{d v:Val}(hA:∀i,A i->A' i)(e:Dn A h d v):Dn A' h d v:=Dn.mono hA (fun _ _ _ q=>q) d v e
theorem aj.fM{d v:List Val}(hA:∀i,A i->A' i)(e:aj A h d v):aj A' h d v:=aj.mono hA (fun _ _ _ q=>q) d v e
mutual
theorem eE:∀(d v:Val),gZ d=true->(Dn A h d v↔v=d)
 | .non,v,_=>by rw[Dn]
 | .bl _,v,_=>by rw[Dn]
 | .int _,v,_=>by rw[Dn]
 | .str _,v,_=>by rw[Dn]
 | .tup ds,v,e=>by
  rw[gZ] at e
  rw[Dn]
  constructor
  ·rintro⟨vs,rfl,q⟩;rw[(aN ds vs e).mp q]
  ·rintro rfl;exact⟨ds,rfl,(aN ds ds e).mpr rfl⟩
 | .rl _,v,e=>by rw[gZ] at e;cases e
 | .dc _ _,v,e=>by rw[gZ] at e;cases e
 | .ob _ _ _,v,e=>by rw[gZ] at e;cases e
 | .ref _,v,e=>by rw[gZ] at e;cases e
theorem aN:∀(ds vs:List Val),bz ds=true->(aj A h ds vs↔vs=ds)
 | [],vs,_=>by rw[aj]
 | d::ds,vs,e=>by
  rw[bz,Bool.and_eq_true] at e
  rw[aj]
  constructor
  ·rintro⟨v,r,rfl,q1,q2⟩;rw[(eE d v e.1).mp q1,(aN ds r e.2).mp q2]
  ·rintro rfl;exact⟨d,ds,rfl,(eE d d e.1).mpr rfl,(aN ds ds e.2).mpr rfl⟩
end
theorem aj.nil:aj A h [] []:=by rw[aj]
theorem aj.cons{d v:Val}{ds vs:List Val}(a:Dn A h d v)(b:aj A h ds vs):aj A h (d::ds) (v::vs):=by rw[aj];exact⟨v,vs,rfl,a,b⟩
theorem aj.length:∀{ds vs:List Val},aj A h ds vs->ds.length=vs.length
 | [],vs,e=>by rw[aj] at e;subst e;rfl
 | d::ds,vs,e=>by rw[aj] at e;obtain⟨v,r,rfl,_,q⟩:=e;simp[aj.length q]
theorem aj.get:∀{ds vs:List Val} {i:Nat} {d:Val},aj A h ds vs->ds[i]?=some d->∃v,vs[i]?=some v/\Dn A h d v
 | [],vs,i,d,e,q=>by simp at q
 | c::ds,vs,0,d,e,q=>by
  rw[aj] at e;obtain⟨v,r,rfl,a,_⟩:=e
  simp at q;subst q;exact⟨v,rfl,a⟩
 | c::ds,vs,i+1,d,e,q=>by
  rw[aj] at e;obtain⟨v,r,rfl,_,b⟩:=e
  simp at q
  obtain⟨w,q1,q2⟩:=aj.get b q
  exact⟨w,by simpa using q1,q2⟩
theorem aj.append:∀{ds es vs ws:List Val},aj A h ds vs->aj A h es ws->aj A h (ds++es) (vs++ws)
 | [],es,vs,ws,e,q=>by rw[aj] at e;subst e;exact q
 | d::ds,es,vs,ws,e,q=>by
  rw[aj] at e;obtain⟨v,r,rfl,a,b⟩:=e
  exact aj.cons a (aj.append b q)
theorem aj.take:∀{ds vs:List Val} (n:Nat),aj A h ds vs->aj A h (ds.take n) (vs.take n)
 | _,_,0,_=>by simp;exact aj.nil
 | [],vs,n+1,e=>by rw[aj] at e;subst e;simp;exact aj.nil
 | d::ds,vs,n+1,e=>by
  rw[aj] at e;obtain⟨v,r,rfl,a,b⟩:=e
  exact aj.cons a (aj.take n b)
theorem aj.drop:∀{ds vs:List Val} (n:Nat),aj A h ds vs->aj A h (ds.drop n) (vs.drop n)
 | _,_,0,e=>by simpa using e
 | [],vs,n+1,e=>by rw[aj] at e;subst e;simp;exact aj.nil
 | d::ds,vs,n+1,e=>by
  rw[aj] at e;obtain⟨v,r,rfl,a,b⟩:=e
  exact aj.drop n b
theorem aj.cut{ds vs:List Val}(lo hi:Option Int)(e:aj A h ds vs):aj A h (cW ds lo hi) (cW vs lo hi):=by
 unfold cW
 rw[e.length]
 exact aj.take _ (aj.drop _ e)
theorem aj.app:∀{ds es vs ws:List Val},aj A h ds vs->aj A h es ws->aj A h (ds++es) (vs++ws)
 | [],_,vs,_,e,q=>by rw[aj] at e;subst e;exact q
 | d::ds,_,vs,_,e,q=>by
  rw[aj] at e
  obtain⟨v,r,rfl,a,b⟩:=e
  rw[List.cons_append,List.cons_append,aj]
  exact⟨v,_,rfl,a,aj.app b q⟩
theorem aj.rev:∀{ds vs:List Val},aj A h ds vs->aj A h ds.reverse vs.reverse
 | [],vs,e=>by rw[aj] at e;subst e;exact aj.nil
 | d::ds,vs,e=>by
  rw[aj] at e
  obtain⟨v,r,rfl,a,b⟩:=e
  rw[List.reverse_cons,List.reverse_cons]
  refine aj.app (aj.rev b) ?_
  rw[aj]
  exact⟨v,[],rfl,a,by rw[aj]⟩
theorem aj.set:∀{ds vs:List Val} (n:Nat) {d v:Val},aj A h ds vs->Dn A h d v->aj A h (ds.set n d) (vs.set n v)
 | [],vs,n,d,v,e,q=>by rw[aj] at e;subst e;simp;exact aj.nil
 | c::ds,vs,0,d,v,e,q=>by
  rw[aj] at e;obtain⟨w,r,rfl,a,b⟩:=e
  exact aj.cons q b
 | c::ds,vs,n+1,d,v,e,q=>by
  rw[aj] at e;obtain⟨w,r,rfl,a,b⟩:=e
  exact aj.cons a (aj.set n b q)
theorem aj.jg{ds vs:List Val}{i:Int}{d:Val}(e:aj A h ds vs)(q:L2.jg ds i=some d):∃v,L2.jg vs i=some v/\Dn A h d v:=by
 unfold L2.jg at q |-
 rw[e.length] at q
 cases hi:L2.rD vs.length i with
 | none=>rw[hi] at q;cases q
 | some n=>rw[hi] at q;exact aj.get e q
theorem aj.one{d:Val}{vs:List Val}(e:aj A h [d] vs):∃v,vs=[v]/\Dn A h d v:=by
 rw[aj] at e;obtain⟨v,r,rfl,a,b⟩:=e
 rw[aj] at b;subst b;exact⟨v,rfl,a⟩
noncomputable def OD(A:AP)(h:Hs)(d:Val)(a:Nat):Prop:=match d with
 | .rl ds=>∃vs,h[a]?=some (.lst vs)/\aj A h ds vs
 | .dc ks ds=>∃kvs,h[a]?=some (.dct kvs)/\kvs.map (·.1)=ks/\aj A h ds (kvs.map (·.2))
 | _=>False
theorem OD.mono{d:Val}{a:Nat}(e:OD A h d a)(ho:∀o,h[a]?=some o->h'[a]?=some o)(hq:∀ds vs,aj A h ds vs->aj A' h' ds vs):OD A' h' d a:=by
 cases d with
 | rl ds=>obtain⟨vs,g,q⟩:=e;exact⟨vs,ho _ g,hq _ _ q⟩
 | dc ks ds=>obtain⟨kvs,g,k,q⟩:=e;exact⟨kvs,ho _ g,k,hq _ _ q⟩
 | _=>exact False.elim e
theorem OD.ext{d:Val}{a:Nat}(p:h<+:h')(e:OD A h d a):OD A h' d a:=e.mono (fun _ g=>bO p g) fun _ _ q=>q.ext p
theorem OD.lt{d:Val}{a:Nat}(e:OD A h d a):a<h.length:=by
 cases d with
 | rl ds=>obtain⟨vs,g,q⟩:=e;exact(List.getElem?_eq_some_iff.mp g).1
 | dc ks ds=>obtain⟨kvs,g,k,q⟩:=e;exact(List.getElem?_eq_some_iff.mp g).1
 | _=>exact False.elim e
theorem OD.dn{d:Val}{a:Nat}(e:OD A h d a)(ha:A (.some a)):Dn A h d (.ref a):=by
 cases d with
 | rl ds=>obtain⟨vs,g,q⟩:=e;rw[Dn];exact .inr ⟨a,vs,rfl,ha,g,q⟩
 | dc ks ds=>obtain⟨kvs,g,k,q⟩:=e;rw[Dn];exact⟨a,kvs,rfl,ha,g,k,q⟩
 | _=>exact False.elim e
noncomputable def OB(A:AP)(h:Hs)(d:Val)(o:Ob):Prop:=match d with
 | .rl ds=>∃vs,o=.lst vs/\aj A h ds vs
 | .dc ks ds=>∃kvs,o=.dct kvs/\kvs.map (·.1)=ks/\aj A h ds (kvs.map (·.2))
 | _=>False
theorem OB.od{d:Val}{a:Nat}{o:Ob}(e:OB A h d o)(g:h'[a]?=.some o)(hq:∀ds vs,aj A h ds vs->aj A' h' ds vs):OD A' h' d a:=by
 cases d with
 | rl ds=>obtain⟨vs,rfl,q⟩:=e;exact⟨vs,g,hq _ _ q⟩
 | dc ks ds=>obtain⟨kvs,rfl,k,q⟩:=e;exact⟨kvs,g,k,hq _ _ q⟩
 | _=>exact False.elim e
noncomputable def DB(A:AP)(h:Hs)(d v:Val):Prop:=Dn A h d v\/∃i,v=.ref i/\OD A h d i
theorem DB.all{d v:Val}(e:DB A h d v):Dn (fun _=>True) h d v:=by
 rcases e with e|⟨i,rfl,q⟩
 ·exact e.fM fun _ _=>trivial
 ·exact(q.mono (A':=fun _=>True) (fun _ g=>g) fun _ _ z=>z.fM fun _ _=>trivial).dn trivial
theorem DB.ext{d v:Val}(p:h<+:h')(e:DB A h d v):DB A h' d v:=by
 rcases e with e|⟨i,rfl,q⟩
 ·exact .inl (e.ext p)
 ·exact .inr ⟨i,rfl,q.ext p⟩
theorem DB.dc{ks:List Key}{ds:List Val}{v:Val}(e:DB A h (.dc ks ds) v):∃i kvs,v=.ref i/\h[i]?=some (.dct kvs)/\kvs.map (·.1)=ks/\aj A h ds (kvs.map (·.2)):=by
 rcases e with e|⟨i,rfl,kvs,g,k,q⟩
 ·rw[Dn] at e;obtain⟨i,kvs,rfl,_,g,k,q⟩:=e;exact⟨i,kvs,rfl,g,k,q⟩
 ·exact⟨i,kvs,rfl,g,k,q⟩
theorem DB.lst{ds:List Val}{v:Val}(e:DB A h (.rl ds) v):∃vs,aB h v=some vs/\aj A h ds vs:=by
 rcases e with e|⟨i,rfl,vs,g,q⟩
 ·rw[Dn] at e
  rcases e with ⟨vs,rfl,_,q⟩|⟨i,vs,rfl,_,g,q⟩
  ·exact⟨vs,rfl,q⟩
  ·exact⟨vs,by simp[aB,g],q⟩
 ·exact⟨vs,by simp[aB,g],q⟩
theorem DB.seq{d v:Val}{ds:List Val}(e:DB A h d v)(q:cV [] d=some ds):∃vs,cV h v=some vs/\aj A h ds vs:=by
 cases d with
 | tup es =>
  simp only[cV] at q;cases q
  rcases e with e|⟨_,_,e1⟩
  ·rw[Dn] at e;obtain⟨vs,rfl,q⟩:=e;exact⟨vs,rfl,q⟩
  ·exact False.elim e1
 | rl es =>
  simp only[cV,aB] at q;cases q
  obtain⟨vs,q1,q2⟩:=e.lst
  refine⟨vs,?_,q2⟩
  cases v<;>first|(simp[aB] at q1;done)|exact q1
 | ref i=>simp[cV,aB] at q
 | _=>simp[cV,aB] at q
theorem DB.int{v:Val}{i:Int}(e:DB A h (.int i) v):v=.int i:=by
 rcases e with e|⟨_,_,e1⟩
 ·rw[Dn] at e;exact e
 ·exact False.elim e1
theorem DB.str{v:Val}{i:Str}(e:DB A h (.str i) v):v=.str i:=by
 rcases e with e|⟨_,_,e1⟩
 ·rw[Dn] at e;exact e
 ·exact False.elim e1
theorem DB.bl{v:Val}{i:Bool}(e:DB A h (.bl i) v):v=.bl i:=by
 rcases e with e|⟨_,_,e1⟩
 ·rw[Dn] at e;exact e
 ·exact False.elim e1
theorem DB.tup{v:Val}{ds:List Val}(e:DB A h (.tup ds) v):∃vs,v=.tup vs/\aj A h ds vs:=by
 rcases e with e|⟨_,_,e1⟩
 ·rw[Dn] at e;exact e
 ·exact False.elim e1
theorem sj:∀(n:Nat) (d v:Val) (p:PyData),Dn (fun _=>True) h d v->toD n [] d=some p->toD n h v=some p:=by
 intro n
 induction n with
 | zero=>intro d v p _ e;simp[toD] at e
 | succ n ih =>
  have all:∀(ds vs:List Val) (ps:List PyData),aj (fun _=>True) h ds vs->cg (toD n []) ds=some ps->cg (toD n h) vs=some ps:=by
   intro ds
   induction ds with
   | nil=>intro vs ps q e;rw[aj] at q;subst q;exact e
   | cons d ds UU =>
    intro vs ps q e
    rw[aj] at q
    obtain⟨v,r,rfl,q1,q2⟩:=q
    simp only[cg] at e |-
    obtain⟨x,e1,e⟩:=Option.bind_eq_some_iff.mp e
    obtain⟨xs,e2,e⟩:=Option.bind_eq_some_iff.mp e
    rw[ih d v x q1 e1,UU r xs q2 e2]
    exact e
  intro d v p q e
  cases d with
  | non=>rw[Dn] at q;subst q;exact e
  | bl b=>rw[Dn] at q;subst q;exact e
  | int b=>rw[Dn] at q;subst q;exact e
  | str b=>rw[Dn] at q;subst q;exact e
  | tup ds =>
   rw[Dn] at q
   obtain⟨vs,rfl,q⟩:=q
   simp only[toD] at e |-
   obtain⟨ps,e1,e⟩:=Option.bind_eq_some_iff.mp e
   rw[all ds vs ps q e1];exact e
  | rl ds =>
   rw[Dn] at q
   simp only[toD] at e
   obtain⟨ps,e1,e⟩:=Option.bind_eq_some_iff.mp e
   rcases q with ⟨vs,rfl,_,q⟩|⟨i,vs,rfl,_,g,q⟩
   ·simp only[toD];rw[all ds vs ps q e1];exact e
   ·simp only[toD,aB,g,Option.bind_some];rw[all ds vs ps q e1];exact e
  | dc ks ds=>simp[toD] at e
  | ob c xs ds=>simp[toD] at e
  | ref i=>rw[Dn] at q;exact q.elim
theorem Gb{d e v w:Val}{b:Bool}(a:DB A h d v)(c:DB A h e w)(q:z5 [] d e=some b):z5 h v w=some b:=by
 unfold z5 at q |-
 obtain⟨x,e1,q⟩:=Option.bind_eq_some_iff.mp q
 obtain⟨y,e2,q⟩:=Option.bind_eq_some_iff.mp q
 rw[sj 16 d v x a.all e1,sj 16 e w y c.all e2]
 exact q
theorem BD{d v:Val}(a:DB A h d v):oA v=oA d:=by
 rcases a with a|⟨i,rfl,q⟩
 ·cases d<;>rw[Dn] at a
  ·subst a;rfl
  ·subst a;rfl
  ·subst a;rfl
  ·subst a;rfl
  ·obtain⟨vs,rfl,_⟩:=a;rfl
  ·rcases a with ⟨vs,rfl,_⟩|⟨i,vs,rfl,_⟩<;>rfl
  ·obtain⟨i,kvs,rfl,_⟩:=a;rfl
  ·obtain⟨i,kvs,rfl,_⟩:=a;rfl
  ·exact a.elim
 ·cases d<;>first|exact False.elim q|rfl
theorem BE{h:Hs}{v:Val}{y:Str}{b:Bool}(q:memD h v (.str y)=some b):False:=by
 unfold memD at q
 obtain⟨x,e1,q⟩:=Option.bind_eq_some_iff.mp q
 obtain⟨z,e2,q⟩:=Option.bind_eq_some_iff.mp q
 simp only[toD] at e1
 split at e1<;>cases e1
 simp[HW] at q
theorem BF{d e v w:Val}{b:Bool}(a:DB A h d v)(c:DB A h e w)(q:rW [] d e=some b):rW h v w=some b:=by
 have data:memD [] d e=some b->memD h v w=some b:=fun q=>by
  unfold memD at q |-
  obtain⟨x,e1,q⟩:=Option.bind_eq_some_iff.mp q
  obtain⟨y,e2,q⟩:=Option.bind_eq_some_iff.mp q
  rw[sj 16 e w x c.all e1,sj 16 d v y a.all e2]
  exact q
 cases e with
 | str y =>
  have:=c.str;subst this
  cases d with
  | str x=>have:=a.str;subst this;exact q
  | _=>exact(BE (data q)).elim
 | tup es =>
  obtain⟨ws,rfl,_⟩:=c.tup
  have q':=data (by cases d<;>exact q)
  cases v<;>exact q'
 | rl es =>
  have q':=data (by cases d<;>exact q)
  rcases c with c|⟨i,rfl,vs,g,q2⟩
  ·rw[Dn] at c
   rcases c with ⟨ws,rfl,_⟩|⟨i,ws,rfl,_,g,_⟩
   ·cases v<;>exact q'
   ·cases v<;>(show (h[i]?).bind _=_;rw[g];exact q')
  ·cases v<;>(show (h[i]?).bind _=_;rw[g];exact q')
 | dc ks es =>
  obtain⟨i,kvs,rfl,g,hk,_⟩:=c.dc
  ·skip
   have q':(keyOf d).bind (fun k=>some (ks.any fun j=>decide (j=k)))=some b:=by cases d<;>exact q
   obtain⟨kk,e1,q'⟩:=Option.bind_eq_some_iff.mp q'
   have ev:keyOf v=some kk:=by
    cases d<;>simp only[keyOf] at e1<;>first|(cases e1;done)|skip
    ·have:=a.int;subst this;exact e1
    ·have:=a.str;subst this;exact e1
   have:(bQ kvs kk).isSome=(ks.any fun j=>decide (j=kk)):=by
    subst hk
    unfold bQ
    rw[Option.isSome_map,List.any_map]
    have key:∀l:List (Key×Val),(List.find? (fun kv=>decide (kv.fst=kk)) l).isSome=l.any ((fun j=>decide (j=kk))∘fun x=>x.fst):=by
     intro l
     induction l with
     | nil=>rfl
     | cons x l ih =>
      rw[List.find?_cons,List.any_cons]
      by_cases hx:x.1=kk
      ·simp[hx]
      ·simp[hx];simpa using ih
    exact key kvs
   have fin:D8 h v i (.dct kvs)=some b:=by simp only[D8,ev,Option.bind_some,this];exact q'
   cases v<;>(show (h[i]?).bind _=_;rw[g];exact fin)
 | ref i =>
  rcases c with c|⟨_,_,e1⟩
  ·rw[Dn] at c;exact c.elim
  ·exact False.elim e1
 | ob cc xs es =>
  have q':memD [] d (.ob cc xs es)=some b:=by cases d<;>exact q
  unfold memD at q'
  obtain⟨x,e1,q'⟩:=Option.bind_eq_some_iff.mp q'
  simp[toD] at e1
 | non =>
  have q':=data (by cases d<;>exact q)
  have:w=.non:=by
   rcases c with c|⟨_,_,e1⟩
   ·rw[Dn] at c;exact c
   ·exact False.elim e1
  subst this
  cases v<;>exact q'
 | bl x =>
  have q':=data (by cases d<;>exact q)
  have:w=.bl x:=by
   rcases c with c|⟨_,_,e1⟩
   ·rw[Dn] at c;exact c
   ·exact False.elim e1
  subst this
  cases v<;>exact q'
 | int x =>
  have q':=data (by cases d<;>exact q)
  have:w=.int x:=by
   rcases c with c|⟨_,_,e1⟩
   ·rw[Dn] at c;exact c
   ·exact False.elim e1
  subst this
  cases v<;>exact q'
theorem BG{d e v w:Val}{b:Bool}(a:DB A h d v)(c:DB A h e w)(q:FT d e=some b):FT v w=some b:=by
 cases e<;>first|(cases q;done)|skip
 ·have:w=.non:=by
   rcases c with c|⟨_,_,e1⟩
   ·rw[Dn] at c;exact c
   ·exact False.elim e1
  subst this
  show some (oA v)=_
  rw[BD a];exact q
 ·have:=c.bl;subst this
  cases d<;>first|(cases q;done)|skip
  have:=a.bl;subst this
  exact q
theorem Jq{o:xB}{d e v w:Val}{b:Bool}(a:DB A h d v)(c:DB A h e w)(q:cop [] o d e=some b):cop h o v w=some b:=by
 cases o with
 | eq=>exact Gb a c q
 | ne =>
  obtain⟨x,e1,e2⟩:=Option.map_eq_some_iff.mp (show (z5 [] d e).map _=some b from q)
  show (z5 h v w).map _=_
  rw[Gb a c e1];exact congrArg some e2
 | isn=>exact BG a c q
 | ntn =>
  obtain⟨x,e1,e2⟩:=Option.map_eq_some_iff.mp (show (FT d e).map _=some b from q)
  show (FT v w).map _=_
  rw[BG a c e1];exact congrArg some e2
 | zh=>exact BF a c q
 | nin =>
  obtain⟨x,e1,e2⟩:=Option.map_eq_some_iff.mp (show (rW [] d e).map _=some b from q)
  show (rW h v w).map _=_
  rw[BF a c e1];exact congrArg some e2
 | lt =>
  obtain⟨i,j,rfl,rfl⟩:=jn (.inl rfl) q
  have:=a.int;subst this
  have:=c.int;subst this
  exact q
 | le =>
  obtain⟨i,j,rfl,rfl⟩:=jn (.inr (.inl rfl)) q
  have:=a.int;subst this
  have:=c.int;subst this
  exact q
 | gt =>
  obtain⟨i,j,rfl,rfl⟩:=jn (.inr (.inr (.inl rfl))) q
  have:=a.int;subst this
  have:=c.int;subst this
  exact q
 | ge =>
  obtain⟨i,j,rfl,rfl⟩:=jn (.inr (.inr (.inr rfl))) q
  have:=a.int;subst this
  have:=c.int;subst this
  exact q
theorem su{d v:Val}{b:Bool}(a:DB A h d v)(q:dj [] d=some b):dj h v=some b:=by
 cases d with
 | rl ds =>
  obtain⟨vs,q1,q2⟩:=a.lst
  have l:=q2.length
  have e:(!ds.isEmpty) = !vs.isEmpty:=by cases ds<;>cases vs<;>simp_all
  simp only[dj] at q
  rw[e] at q
  cases v<;>simp only[aB] at q1<;>first|(cases q1;done)|skip
  ·cases q1;exact q
  ·split at q1<;>cases q1
   rename_i g
   simp only[dj,g];exact q
 | tup ds =>
  obtain⟨vs,rfl,q2⟩:=a.tup
  have l:=q2.length
  have e:(!ds.isEmpty) = !vs.isEmpty:=by cases ds<;>cases vs<;>simp_all
  simp only[dj] at q |-
  rw[<-e];exact q
 | dc ks ds =>
  obtain⟨i,kvs,rfl,g,hk,_⟩:=a.dc
  subst hk
  simp only[dj,g] at q |-
  rw[<-q];cases kvs<;>rfl
 | ob c xs ds=>cases q
 | ref i =>
  rcases a with a|⟨_,_,e1⟩
  ·rw[Dn] at a;exact a.elim
  ·exact False.elim e1
 | non =>
  rcases a with a|⟨_,_,e1⟩
  ·rw[Dn] at a;subst a;exact q
  ·exact False.elim e1
 | bl b=>have:=a.bl;subst this;exact q
 | int b=>have:=a.int;subst this;exact q
 | str b=>have:=a.str;subst this;exact q
theorem Jr{d v:Val}{n:Nat}(a:DB A h d v)(q:kN [] d=some n):kN h v=some n:=by
 cases d with
 | rl ds =>
  obtain⟨vs,q1,q2⟩:=a.lst
  have l:=q2.length
  simp only[kN] at q
  rw[l] at q
  cases v<;>simp only[aB] at q1<;>first|(cases q1;done)|skip
  ·cases q1;exact q
  ·split at q1<;>cases q1
   rename_i g
   simp only[kN,g];exact q
 | tup ds =>
  obtain⟨vs,rfl,q2⟩:=a.tup
  simp only[kN] at q |-
  rw[<-q2.length];exact q
 | dc ks ds =>
  obtain⟨i,kvs,rfl,g,hk,_⟩:=a.dc
  subst hk
  simp only[kN,g] at q |-
  rw[<-q];simp
 | str b=>have:=a.str;subst this;exact q
 | _=>simp[kN] at q
theorem Mz{d v:Val}{t:String}(a:DB A h d v)(q:t8 [] d=some t):t8 h v=some t:=by
 cases d with
 | rl ds =>
  obtain⟨vs,q1,q2⟩:=a.lst
  cases v<;>simp only[aB] at q1<;>first|(cases q1;done)|skip
  ·exact q
  ·split at q1<;>cases q1
   rename_i g
   simp only[t8,g];exact q
 | tup ds=>obtain⟨vs,rfl,q2⟩:=a.tup;exact q
 | dc ks ds =>
  obtain⟨i,kvs,rfl,g,hk,_⟩:=a.dc
  simp only[t8,g] at q |-;exact q
 | ob c xs ds=>cases q
 | ref i =>
  rcases a with a|⟨_,_,e1⟩
  ·rw[Dn] at a;exact a.elim
  ·exact False.elim e1
 | non =>
  rcases a with a|⟨_,_,e1⟩
  ·rw[Dn] at a;subst a;exact q
  ·exact False.elim e1
 | bl b=>have:=a.bl;subst this;exact q
 | int b=>have:=a.int;subst this;exact q
 | str b=>have:=a.str;subst this;exact q
theorem nF{k:Key}:∀{kvs:List (Key×Val)} {ks:List Key} {ds:List Val} {z:Val},kvs.map (·.1)=ks->aj A h ds (kvs.map (·.2))->bQ (ks.zip ds) k=some z->∃v,bQ kvs k=some v/\Dn A h z v
 | [],ks,ds,z,hk,q,e=>by subst hk;simp[bQ] at e
 | (k',v')::kvs,ks,ds,z,hk,q,e=>by
  subst hk
  have l:=q.length
  cases ds with
  | nil=>simp at l
  | cons d ds =>
   simp only[List.map_cons] at q
   rw[aj] at q
   obtain⟨v,r,e1,q1,q2⟩:=q
   cases e1
   by_cases hkk:k'=k
   ·subst hkk
    simp[bQ] at e |-
    subst e;exact q1
   ·have e':bQ ((kvs.map (·.1)).zip ds) k=some z:=by simpa [bQ,hkk] using e
    obtain⟨w,a1,a2⟩:=nF rfl q2 e'
    exact⟨w,by simpa [bQ,hkk] using a1,a2⟩
theorem DB.mR{j:Nat}{v:Val}(c:DB A h (.ref j) v):False:=by
 rcases c with c|⟨_,_,e1⟩
 ·rw[Dn] at c;exact c
 ·exact e1
theorem xT{k:Key}:∀{kvs:List (Key×Val)} {ds:List Val},aj A h ds (kvs.map (·.2))->bQ ((kvs.map (·.1)).zip ds) k=none->bQ kvs k=none
 | [],ds,q,e=>rfl
 | (k',v')::kvs,ds,q,e=>by
  cases ds with
  | nil=>rw[aj] at q;cases q
  | cons d ds =>
   rw[List.map_cons,aj] at q
   obtain⟨v,r,eq,q1,q2⟩:=q
   cases eq
   unfold bQ at e |-
   rw[List.map_cons,List.zip_cons_cons,List.find?_cons] at e
   rw[List.find?_cons]
   by_cases hk:k'=k
   ·simp[hk] at e
   ·simp only[hk,decide_false] at e |-
    exact xT q2 e
theorem wm{d v:Val}{kk:Key}(a:Dn A h d v)(e:keyOf d=some kk):keyOf v=some kk:=by
 cases d<;>first|(cases e;done)|skip
 ·rw[Dn] at a;subst a;exact e
 ·rw[Dn] at a;subst a;exact e
theorem Js{o v:Val}{k:Key}{r:Option Val}(a:DB A h o v)(e:v5 [] o k=some r):∃r',v5 h v k=some r'/\∀z z',Dn A h z z'->Dn A h (r.getD z) (r'.getD z'):=by
 cases o<;>first|(cases e;done)|(exact(DB.mR a).elim)|skip
 rename_i ks ds
 obtain⟨i,kvs,rfl,g,hk,q⟩:=a.dc
 cases e
 have eg:v5 h (.ref i) k=some (bQ kvs k):=by
  show (match h[i]? with|some (.dct kvs)=>some (bQ kvs k)|_=>none)=_
  rw[g]
 refine⟨_,eg,fun z z' hz=>?_⟩
 cases ev:bQ (ks.zip ds) k with
 | none =>
  subst hk
  rw[xT q ev];exact hz
 | some d =>
  obtain⟨u,e1,e2⟩:=nF hk q ev
  rw[e1];exact e2
theorem oX{o v:Val}{ks:List Key}(a:DB A h o v)(e:kM [] o=some ks):kM h v=some ks:=by
 cases o<;>first|(cases e;done)|(exact(DB.mR a).elim)|skip
 obtain⟨i,kvs,rfl,g,hk,q⟩:=a.dc
 cases e
 show (match h[i]? with|some (.dct kvs)=>some (kvs.map (fun kv:Key×Val=>kv.1))|_=>none)=_
 rw[g];exact congrArg some hk
theorem kW:∀ks:List Key,bz (ks.map zj)=true
 | []=>rfl
 | .inl _::ks=>by rw[List.map_cons,bz,kW ks];rfl
 | .inr _::ks=>by rw[List.map_cons,bz,kW ks];rfl
theorem EG{o v:Val}{u:Unit}(a:DB A h o v)(e:Ba [] o=some u):Ba h v=some u:=by
 cases o<;>first|(cases e;done)|(exact(DB.mR a).elim)|skip
 obtain⟨i,kvs,rfl,g,hk,q⟩:=a.dc
 show (match h[i]? with|some (.dct _)=>some ()|_=>none)=_
 rw[g]
theorem Jt{d e v w z:Val}(a:DB A h d v)(c:Dn A h e w)(q:iM [] d e=some z):∃u,iM h v w=some u/\Dn A h z u:=by
 cases e with
 | int i =>
  rw[Dn] at c;subst c
  cases d with
  | str x =>
   have:=a.str;subst this
   refine⟨z,q,?_⟩
   change (if x.length<=sizeLine then (jg x.cps.toList i).map (fun c=>Val.str ⟨#[c]⟩) else none)=some z at q
   split at q
   ·obtain⟨c,_,rfl⟩:=Option.map_eq_some_iff.mp q;rw[Dn]
   ·cases q
  | tup ds =>
   obtain⟨vs,rfl,q2⟩:=a.tup
   exact q2.jg q
  | rl ds =>
   obtain⟨vs,q1,q2⟩:=a.lst
   obtain⟨u,q3,q4⟩:=q2.jg q
   refine⟨u,?_,q4⟩
   cases v<;>simp only[aB] at q1<;>first|(cases q1;done)|skip
   ·cases q1;exact q3
   ·split at q1<;>cases q1
    rename_i g
    unfold iM;simp only[aB,g,Option.bind_some];exact q3
  | dc ks ds =>
   obtain⟨i',kvs,rfl,g,hk,q2⟩:=a.dc
   obtain⟨u,q3,q4⟩:=nF hk q2 q
   refine⟨u,?_,q4⟩
   show (match h[i']? with|some (.dct kvs)=>bQ kvs (.inl i)|_=>(aB h (.ref i')).bind fun xs=>jg xs i)=_
   rw[g];exact q3
  | ref j=>exact(DB.mR a).elim
  | _=>cases q
 | str x =>
  rw[Dn] at c;subst c
  cases d with
  | dc ks ds =>
   obtain⟨i',kvs,rfl,g,hk,q2⟩:=a.dc
   obtain⟨u,q3,q4⟩:=nF hk q2 q
   refine⟨u,?_,q4⟩
   show (match h[i']? with|some (.dct kvs)=>bQ kvs (.inr x)|_=>none)=_
   rw[g];exact q3
  | ref j=>exact(DB.mR a).elim
  | _=>cases q
 | _=>cases d<;>first|(cases q;done)|exact(DB.mR a).elim
theorem sy{x:Str}:∀{fs:List (Str×Val)} {ds:List Val},aj A h ds (fs.map (·.2))->(((fs.map (·.1)).zip ds).lookup x=none->fs.lookup x=none)/\∀z,((fs.map (·.1)).zip ds).lookup x=some z->∃u,fs.lookup x=some u/\Dn A h z u
 | [],ds,q=>⟨fun _=>rfl,fun z e=>by simp at e⟩
 | (k,v)::fs,ds,q=>by
  cases ds with
  | nil=>rw[aj] at q;cases q
  | cons d ds =>
   rw[List.map_cons,aj] at q
   obtain⟨w,r,eq,q1,q2⟩:=q
   cases eq
   rw[List.map_cons,List.zip_cons_cons,List.lookup_cons,List.lookup_cons]
   cases hb:x==k with
   | true=>exact⟨fun z=>(by cases z),fun z e=>(by cases e;exact⟨v,rfl,q1⟩)⟩
   | false=>exact sy q2
theorem DB.ob{c:Nat}{xs:List Str}{ds:List Val}{v:Val}(e:DB A h (.ob c xs ds) v):∃i fs,v=.ref i/\h[i]?=some (.ins c fs)/\fs.map (·.1)=xs/\aj A h ds (fs.map (·.2)):=by
 rcases e with e|⟨_,_,e1⟩
 ·rw[Dn] at e;obtain⟨i,fs,rfl,_,g,k,q⟩:=e;exact⟨i,fs,rfl,g,k,q⟩
 ·exact False.elim e1
theorem Ju{n:Nat}{o v z:Val}{x:Str}(a:DB A h o v)(e:gG n [] o x=some z):∃u,gG n h v x=some u/\Dn A h z u:=by
 cases o<;>first|(cases e;done)|(exact(DB.mR a).elim)|skip
 obtain⟨i,fs,rfl,g,hk,q⟩:=a.ob
 subst hk
 unfold gG at e;dsimp only at e
 split at e
 ·rename_i hc
  obtain⟨u,e1,e2⟩:=(sy q).2 z e
  refine⟨u,?_,e2⟩
  unfold gG;dsimp only;rw[g];dsimp only;rw[if_pos hc];exact e1
 ·cases e
theorem Jv{o v:Val}{m:Str}{js:List (Nat×Nat)}{j:Nat}(a:DB A h o v)(e:lQ [] o m js=some j):lQ h v m js=some j:=by
 cases o<;>first|(cases e;done)|(exact(DB.mR a).elim)|skip
 obtain⟨i,fs,rfl,g,hk,q⟩:=a.ob
 subst hk
 unfold lQ at e;dsimp only at e
 split at e
 ·rename_i hc
  have e1:=(sy q).1 (by simpa using hc)
  unfold lQ;dsimp only;rw[g];dsimp only;rw[if_pos (by rw[e1];rfl)];exact e
 ·cases e
end
end Hv
end
section
namespace Hv
open PySem L2
noncomputable def Up(A:AP)(h:Hs):Prop:=∀k,h.length<=k->A (some k)
noncomputable def Rel(A:AP)(h:Hs){α β:Type}(R:α -> Hs -> β -> Prop)(o:Out β):Pr α -> Prop
 | .ok a=>∃b h',o=.ok b h'/\h<+:h'/\R a h' b
 | .exc c es=>∃ws h',o=.exc c ws h'/\h<+:h'/\aj A h' es ws
 | .no=>True
noncomputable def RV(A:AP)(h:Hs):FV->Hs->Val->Prop:=fun x h' v=>Dn A h' x.2 v/\(x.1=true->Dn (Fr h.length) h' x.2 v)
noncomputable def UW(A:AP)(h:Hs):Bool×List Val->Hs->List Val->Prop:=fun x h' v=>aj A h' x.2 v/\(x.1=true->aj (Fr h.length) h' x.2 v)
noncomputable def Qa(A:AP):FV->Hs->Val->Prop:=fun x h' v=>DB A h' x.2 v
noncomputable def EH(A:AP)(h:Hs):List Val->List Val->Prop
 | [],vs=>vs=[]
 | d::ds,vs=>∃v r,vs=v::r/\DB A h d v/\EH A h ds r
noncomputable def ER(A:AP)(aa:aF)(env:Env)(h:Hs):Prop:=∀(i:Nat) (f:Mk) (d:Val),aa[i]?=some (some (f,d)) ->
 if qO f=false then ∃a,env[i]?=some (some (.ref a))/\OD A h d a else ∃v,env[i]?=some (some v)/\Dn A h d v
section
variable {A:AP} {h h1:Hs} {α β γ δ:Type}
theorem Up.ext(u:Up A h)(p:h<+:h1):Up A h1:=fun k hk=>u k (Nat.le_trans p.length_le hk)
theorem ER.ext{aa:aF}{env:Env}(e:ER A aa env h)(p:h<+:h1):ER A aa env h1:=fun i f d q=>by
 have:=e i f d q
 revert this
 generalize qO f=t
 intro this
 cases t with
 | false =>
  rw[if_pos rfl] at this |-
  obtain⟨a,k2,k3⟩:=this
  exact⟨a,k2,k3.ext p⟩
 | true =>
  rw[if_neg (by decide)] at this |-
  obtain⟨v,k1,k2⟩:=this
  exact⟨v,k1,k2.ext p⟩
theorem af{R:α -> Hs -> β -> Prop}{R':γ -> Hs -> δ -> Prop}{m:M β}{f:β -> M δ}{p:Pr α}{F:α -> Pr γ}(r:Rel A h R (m h) p)(k:∀a h1 b,h<+:h1->R a h1 b->Rel A h1 R' (f b h1) (F a)):Rel A h R' (bnd m f h) (pb p F):=by
 unfold bnd
 cases p with
 | ok a =>
  obtain⟨b,h1,e,q,r⟩:=r
  rw[e]
  show Rel A h R' (f b h1) (F a)
  have:=k a h1 b q r
  cases e2:F a with
  | ok c=>rw[e2] at this;obtain⟨d,h2,e3,q2,r2⟩:=this;exact⟨d,h2,e3,q.trans q2,r2⟩
  | exc c es=>rw[e2] at this;obtain⟨d,h2,e3,q2,r2⟩:=this;exact⟨d,h2,e3,q.trans q2,r2⟩
  | no=>trivial
 | exc c es =>
  obtain⟨ws,h1,e,q,r⟩:=r
  rw[e];exact⟨ws,h1,rfl,q,r⟩
 | no=>trivial
theorem az{R:α -> Hs -> β -> Prop}{a:α}{b:β}(r:R a h b):Rel A h R (ret b h) (.ok a):=⟨b,h,rfl,List.prefix_refl _,r⟩
theorem bh{R:α -> Hs -> β -> Prop}{o:Option α}{o':Option β}(r:∀a,o=some a->∃b,o'=some b/\R a h b):Rel A h R (bw o' h) (pl o):=by
 cases o with
 | none=>trivial
 | some a=>obtain⟨b,rfl,q⟩:=r a rfl;exact⟨b,h,rfl,List.prefix_refl _,q⟩
theorem bM{R:α -> Hs -> β -> Prop}{o:Option α}{f:Hs->Option β}(r:∀a,o=some a->∃b,f h=some b/\R a h b):Rel A h R (ask f h) (pl o):=bh r
theorem bG{R:α -> Hs -> β -> Prop}{c c':Bool}{m:M β}{p:Pr α}(e:c=true->c'=true)(r:c=true->Rel A h R (m h) p):Rel A h R (aD c' m h) (pg c p):=by
 unfold aD pg
 cases c with
 | true=>rw[if_pos (e rfl),if_pos rfl];exact r rfl
 | false=>rw[if_neg Bool.false_ne_true];trivial
theorem uB{R R':α -> Hs -> β -> Prop}{o:Out β}{p:Pr α}(r:Rel A h R o p)(k:∀a h' b,h<+:h'->R a h' b->R' a h' b):Rel A h R' o p:=by
 cases p with
 | ok a=>obtain⟨b,h',e,q,r⟩:=r;exact⟨b,h',e,q,k a h' b q r⟩
 | exc c es=>exact r
 | no=>trivial
theorem cY(o:Ob):h<+:h++[o]:=List.prefix_append _ _
theorem ie(o:Ob):(h++[o])[h.length]?=some o:=by simp
theorem eF{xs vs:List Val}{f:Bool}{h0:Hs}(u:Up A h)(p:h0<+:h)(q:aj A h xs vs)(g:f=true->aj (Fr h0.length) h xs vs):Rel A h (RV A h0) (new (.lst vs) h) (.ok (f,.rl xs)):=by
 refine⟨_,_,rfl,cY _,?_,fun hf=>?_⟩
 ·show Dn A _ (.rl xs) _
  rw[Dn];exact .inr ⟨_,vs,rfl,u _ (Nat.le_refl _),ie _,q.ext (cY _)⟩
 ·show Dn _ _ (.rl xs) _
  rw[Dn];exact .inr ⟨_,vs,rfl,p.length_le,ie _,(g hf).ext (cY _)⟩
theorem mh{d v:Val}{h0:Hs}(q:Dn A h d v):RV A h0 (gZ d,d) h v:=⟨q,fun hi=>(eE d v hi).mpr ((eE d v hi).mp q)⟩
theorem fD{A':AP}{h':Hs}{ds vs:List Val}(q:aj A h ds vs)(hi:bz ds=true):aj A' h' ds vs:=(aN ds vs hi).mpr ((aN ds vs hi).mp q)
theorem gO{i:Int}{h0:Hs}{f:Bool}:RV A h0 (f,.int i) h (.int i):=⟨by rw[Dn],fun _=>by rw[Dn]⟩
theorem oY{i:Bool}{h0:Hs}{f:Bool}:RV A h0 (f,.bl i) h (.bl i):=⟨by rw[Dn],fun _=>by rw[Dn]⟩
theorem Jw{i:Str}{h0:Hs}{f:Bool}:RV A h0 (f,.str i) h (.str i):=⟨by rw[Dn],fun _=>by rw[Dn]⟩
theorem RV.br{x:FV}{v:Val}{h0:Hs}(r:RV A h0 x h v):Qa A x h v:=.inl r.1
theorem EI{o:rR}(ho:o≠.add)(v w:Val):(∃i j,v=.int i/\w=.int j)\/jv o v w=.no:=by
 cases v with
 | int i =>
  cases w with
  | int j=>exact .inl ⟨i,j,rfl,rfl⟩
  | _=>right;cases o<;>first|rfl|exact absurd rfl ho
 | _=>right;cases o<;>first|rfl|exact absurd rfl ho
theorem xU{o:rR}{d e v w:Val}{h0:Hs}(u:Up A h)(p:h0<+:h)(a:DB A h d v)(c:DB A h e w):Rel A h (RV A h0) (FQ o v w h) (jv o d e):=by
 have ii:o≠.add->(∃i j,d=.int i/\e=.int j)\/jv o d e=.no:=fun ho=>EI ho d e
 cases o with
 | add =>
  cases d<;>cases e<;>first|trivial|skip
  ·have:=a.int;subst this;have:=c.int;subst this
   exact az gO
  ·have:=a.str;subst this;have:=c.str;subst this
   exact bG (fun z=>z) fun _=>az Jw
  ·rename_i xs ys
   obtain⟨vs,rfl,q1⟩:=a.tup
   obtain⟨ws,rfl,q2⟩:=c.tup
   have l1:=q1.length
   have l2:=q2.length
   refine bG (fun z=>?_) fun _=>az ⟨?_,fun hi=>?_⟩
   ·rw[l1,l2] at z
    have:xs.isEmpty=vs.isEmpty:=by cases xs<;>cases vs<;>simp_all
    rw[<-this];exact z
   ·show Dn A h (.tup _) _;rw[Dn];exact⟨_,rfl,q1.append q2⟩
   ·show Dn _ h (.tup _) _;rw[Dn];exact⟨_,rfl,fD (q1.append q2) hi⟩
  ·rename_i xs ys
   obtain⟨vs,e1,q1⟩:=a.lst
   obtain⟨ws,e2,q2⟩:=c.lst
   have eb:FQ .add v w=bnd (ask fun h=>aB h v) fun a=>bnd (ask fun h=>aB h w) fun b=>aD (decide (a.length+b.length<=sizeLine)) (new (.lst (a++b))):=by
    cases v<;>simp only[aB] at e1<;>first|(cases e1;done)|skip
    all_goals cases w<;>simp only[aB] at e2<;>first|(cases e2;done)|rfl
   have ev:FQ .add v w h=aD (decide (vs.length+ws.length<=sizeLine)) (new (.lst (vs++ws))) h:=by
    rw[eb];unfold bnd ask bw;dsimp only;rw[e1];dsimp only;rw[e2]
   rw[ev]
   refine bG (fun z=>?_) fun _=>eF u p (q1.append q2) fun hi=>fD (q1.append q2) hi
   rw[<-q1.length,<-q2.length];exact z
 | _ =>
  rcases ii (by intro z;cases z) with ⟨i,j,rfl,rfl⟩|z
  case inr=>rw[z];trivial
  have:=a.int;subst this;have:=c.int;subst this
  first
   | exact az gO
   | exact bG (fun z=>z) fun _=>az gO
theorem EJ{d v:Val}{lo hi:Option Int}{h0:Hs}(u:Up A h)(p:h0<+:h)(a:DB A h d v):Rel A h (RV A h0) (qa v lo hi h) (zE d lo hi):=by
 cases d with
 | tup ds =>
  obtain⟨vs,rfl,q⟩:=a.tup
  have l:=q.length
  simp only[zE,qa]
  refine bG (fun z=>?_) fun _=>az ⟨?_,fun hi=>?_⟩
  ·rw[l] at z;exact z
  ·show Dn A h (.tup _) _;rw[Dn];exact⟨_,rfl,q.cut lo hi⟩
  ·show Dn _ h (.tup _) _;rw[Dn];exact⟨_,rfl,fD (q.cut _ _) hi⟩
 | rl ds =>
  obtain⟨vs,e1,q⟩:=a.lst
  have ev:qa v lo hi h=new (.lst (cW vs lo hi)) h:=by
   have:qa v lo hi=bnd (ask fun h=>aB h v) fun xs=>new (.lst (cW xs lo hi)):=by
    cases v<;>simp only[aB] at e1<;>first|(cases e1;done)|rfl
   rw[this];unfold bnd ask bw;dsimp only;rw[e1]
  rw[ev]
  exact eF u p (q.cut lo hi) fun hh=>fD (q.cut lo hi) hh
 | _=>trivial
theorem EH.one{d:Val}{vs:List Val}(e:EH A h [d] vs):∃v,vs=[v]/\DB A h d v:=by
 obtain⟨v,r,rfl,a,b⟩:=e
 cases (show r=[] from b)
 exact⟨v,rfl,a⟩
theorem EK{ds vs:List Val}{ns:List Int}(q:aj A h ds vs)(e:aQ ds=some ns):vs=ds:=by
 have:bz ds=true:=by
  clear q
  induction ds generalizing ns with
  | nil=>rfl
  | cons d ds ih =>
   simp only[aQ,cg] at e
   obtain⟨i,e1,e⟩:=Option.bind_eq_some_iff.mp e
   obtain⟨is,e2,e⟩:=Option.bind_eq_some_iff.mp e
   cases d<;>first|(cases e1;done)|skip
   rw[bz,gZ,Bool.true_and];exact ih e2
 exact(aN ds vs this).mp q
theorem oZ:∀{ds:List Val} {ns:List Int},aQ ds=some ns->bz ds=true
 | [],_,_=>rfl
 | d::ds,ns,e=>by
  simp only[aQ,cg] at e
  obtain⟨i,e1,e⟩:=Option.bind_eq_some_iff.mp e
  obtain⟨is,e2,e⟩:=Option.bind_eq_some_iff.mp e
  cases d<;>first|(cases e1;done)|skip
  rw[bz,gZ,Bool.true_and];exact oZ (show aQ ds=some is from e2)
theorem uC:∀{ds:List Val} {ns:List (List Int)},j3 ds=some ns->bz ds=true
 | [],_,_=>rfl
 | d::ds,ns,e=>by
  simp only[j3,cg] at e
  obtain⟨i,e1,e⟩:=Option.bind_eq_some_iff.mp e
  obtain⟨is,e2,e⟩:=Option.bind_eq_some_iff.mp e
  cases d<;>first|(cases e1;done)|skip
  rename_i vs
  dsimp only at e1
  split at e1
  ·cases e1
  ·rw[bz,gZ,oZ e1,Bool.true_and];exact uC (show j3 ds=some is from e2)
theorem aU:∀ns:List Int,bz (ns.map .int)=true
 | []=>rfl
 | n::ns=>by rw[List.map_cons,bz,gZ,Bool.true_and];exact aU ns
theorem kX:∀m9:List (List Int),bz (m9.map kL)=true
 | []=>rfl
 | n::ns=>by rw[List.map_cons,bz,kL,gZ,aU,Bool.true_and];exact kX ns
theorem qP{xs ys:List Val}(e:fq xs=some ys):bz xs=true/\bz ys=true:=by
 unfold fq at e
 split at e
 ·cases e2:aQ xs with
  | some ns=>rw[e2] at e;cases e;exact⟨oZ e2,aU _⟩
  | none =>
   rw[e2] at e
   obtain⟨m9,e3,e4⟩:=Option.bind_eq_some_iff.mp e
   cases e4;exact⟨uC e3,kX _⟩
 ·cases e
theorem EL{b:Bl}{ds vs:List Val}{h0:Hs}(u:Up A h)(p:h0<+:h)(a:EH A h ds vs):Rel A h (RV A h0) (blt b vs h) (gK b ds):=by
 have mm:∀(f:List Int->Option Val) (d:Val),(∀ns m,f ns=some m->∃i,m=.int i)->∀v,DB A h d v->Rel A h (RV A h0) (bnd (ask fun h=>cV h v) (fun xs=>bw ((aQ xs).bind f)) h) (pb (pl (cV [] d)) fun xs=>pb (pl ((aQ xs).bind f)) fun m=>.ok (true,m)):=by
  intro f d hf v hv
  refine af (R:=fun xs h' ws=>aj A h' xs ws) (bM fun xs e=>hv.seq e) fun xs h1 ws q1 q=>?_
  have:bw ((aQ ws).bind f) h1=bnd (bw ((aQ ws).bind f)) (fun m=>ret m) h1:=by unfold bnd bw;cases (aQ ws).bind f<;>rfl
  rw[this]
  refine af (R:=fun m _ m'=>m'=m/\∃i,m=.int i) (bh fun m e=>?_) fun m h2 m' _ hm=>?_
  ·obtain⟨ns,e1,e2⟩:=Option.bind_eq_some_iff.mp e
   rw[EK q e1]
   exact⟨m,e,rfl,hf ns m e2⟩
  ·obtain⟨rfl,i,rfl⟩:=hm
   exact az gO
 have hmin:∀ns m,rT ns=some m->∃i,m=Val.int i:=fun ns m e=>by cases ns<;>simp[rT] at e;exact⟨_,e.symm⟩
 have Qc:∀ns m,rV ns=some m->∃i,m=Val.int i:=fun ns m e=>by cases ns<;>simp[rV] at e;exact⟨_,e.symm⟩
 match ds,a with
 | [],a=>cases b<;>trivial
 | [d],a =>
  obtain⟨v,rfl,hv⟩:=a.one
  cases b with
  | len =>
   exact af (R:=fun n _ m=>m=n) (bM fun n e=>⟨n,Jr hv e,rfl⟩) fun n h1 m _ e=>by subst e;exact az gO
  | min =>
   have e1:gK .min [d]=pb (pl (cV [] d)) fun xs=>pb (pl ((aQ xs).bind rT)) fun m=>.ok (true,m):=by cases d<;>rfl
   have e2:blt .min [v]=bnd (ask fun h=>cV h v) fun xs=>bw ((aQ xs).bind rT):=by cases v<;>rfl
   rw[e1,e2];exact mm rT d hmin v hv
  | max =>
   have e1:gK .max [d]=pb (pl (cV [] d)) fun xs=>pb (pl ((aQ xs).bind rV)) fun m=>.ok (true,m):=by cases d<;>rfl
   have e2:blt .max [v]=bnd (ask fun h=>cV h v) fun xs=>bw ((aQ xs).bind rV):=by cases v<;>rfl
   rw[e1,e2];exact mm rV d Qc v hv
  | sorted =>
   cases d<;>first|trivial|skip
   rename_i xs
   obtain⟨ws,e1,q⟩:=hv.lst
   have ev:bnd (ask fun h=>aB h v) (fun xs=>bnd (bw (fq xs)) fun ys=>new (.lst ys)) h=bnd (bw (fq ws)) (fun ys=>new (.lst ys)) h:=by
    unfold bnd ask bw;dsimp only;rw[e1]
   show Rel A h (RV A h0) (bnd (ask fun h=>aB h v) (fun xs=>bnd (bw (fq xs)) fun ys=>new (.lst ys)) h) _
   rw[ev]
   refine af (R:=fun ys _ zs=>zs=ys/\bz ys=true) (bh fun ys e=>?_) fun ys h1 zs q1 hz=>?_
   ·obtain⟨i1,i2⟩:=qP e
    rw[(aN xs ws i1).mp q]
    exact⟨ys,e,rfl,i2⟩
   ·obtain⟨rfl,hi⟩:=hz
    exact eF (u.ext q1) (p.trans q1) ((aN _ _ hi).mpr rfl) fun _=>(aN _ _ hi).mpr rfl
  | list =>
   refine af (R:=fun xs h' ws=>aj A h' xs ws) (bM fun xs e=>hv.seq e) fun xs h1 ws q1 q=>?_
   exact eF (u.ext q1) (p.trans q1) q fun hi=>fD q hi
  | tuple=>trivial
  | str=>trivial
  | int =>
   cases d<;>first|trivial|skip
   ·have:=hv.bl;subst this
    exact az gO
   ·have:=hv.int;subst this
    exact az gO
  | all=>trivial
  | any=>trivial
  | isin T =>
   refine af (R:=fun n _ m=>m=n) (bM fun n e=>⟨n,Mz hv e,rfl⟩) fun n h1 m _ e=>?_
   subst e
   exact af (R:=fun n _ m=>m=n) (bh fun n e=>⟨n,e,rfl⟩) fun n h1 m _ e=>by subst e;exact az oY
 | [d,e],a =>
  obtain⟨v,r,rfl,hv,hr⟩:=a
  obtain⟨w,rfl,hw⟩:=EH.one hr
  cases b<;>first|trivial|(cases d<;>trivial)|skip
  ·cases d<;>cases e<;>first|trivial|skip
   have:=hv.int;subst this;have:=hw.int;subst this
   exact az gO
  ·cases d<;>cases e<;>first|trivial|skip
   have:=hv.int;subst this;have:=hw.int;subst this
   exact az gO
 | x::y::z::t,a=>cases b<;>first|trivial|(cases x<;>trivial)|(cases x<;>cases y<;>trivial)
end
end Hv
end
section
namespace Hv
open PySem L2
noncomputable def Imp(φ:List Val->M Val)(ψ:List Val->Pr FV):Prop:=∀(A:AP) (h:Hs) (ds vs:List Val),Up A h->aj A h ds vs->Rel A h (RV A h) (φ vs h) (ψ ds)
section
variable {Φ:Nat->List Val->M Val} {Ψ:Nat->List Val->Pr FV} {A:AP} {h h1:Hs}
noncomputable def bH(Φ:Nat->List Val->M Val)(Ψ:Nat->List Val->Pr FV)(ir:IE):Prop:=∀(aa:aF) (env:Env) (A:AP) (h:Hs),Up A h->ER A aa env h->Rel A h (RV A h) (aG Φ ir env h) (aX Ψ ir aa)
noncomputable def jX(Φ:Nat->List Val->M Val)(Ψ:Nat->List Val->Pr FV)(dR:eO):Prop:=(∀(aa:aF) (env:Env) (A:AP) (h:Hs),Up A h->ER A aa env h->Rel A h (UW A h) (aR Φ dR env h) (sf Ψ dR aa)) /\
 ∀(aa:aF) (env:Env) (A:AP) (h:Hs),Up A h->ER A aa env h->Rel A h (fun ds h' vs=>EH A h' ds vs) (aR Φ dR env h) (gM Ψ dR aa)
theorem RV.up{x:FV}{v:Val}{h0 h':Hs}(p:h0<+:h)(r:RV A h x h' v):RV A h0 x h' v:=⟨r.1,fun f=>(r.2 f).fM (Fr.le p.length_le)⟩
theorem BH{x:Pr FV}{o:Out Val}{h0:Hs}(p:h0<+:h)(r:Rel A h (RV A h) o x):Rel A h (RV A h0) o x:=uB r fun _ _ _ _ q=>q.up p
theorem MA{i:Nat}{aa:aF}{env:Env}(e:ER A aa env h):Rel A h (Qa A) (aG Φ (.var i) env h) (pl (gf aa (.var i))):=by
 rw[aG]
 refine bh fun x hx=>?_
 simp only[gf] at hx
 split at hx
 ·rename_i f d hd
  cases hx
  have:=e i f d hd
  revert this
  generalize qO f=t
  intro this
  cases t with
  | false =>
   rw[if_pos rfl] at this
   obtain⟨a,k2,k3⟩:=this
   exact⟨.ref a,by rw[k2],.inr ⟨a,rfl,k3⟩⟩
  | true =>
   rw[if_neg (by decide)] at this
   obtain⟨v,k1,k2⟩:=this
   exact⟨v,by rw[k1],.inl k2⟩
 ·cases hx
theorem jw{ir:IE}(o:bH Φ Ψ ir){aa:aF}{env:Env}(u:Up A h)(e:ER A aa env h):Rel A h (Qa A) (aG Φ ir env h) (if isVar ir=true then pl (gf aa ir) else aX Ψ ir aa):=by
 by_cases hv:isVar ir=true
 ·rw[if_pos hv]
  cases ir<;>first|(cases hv;done)|exact MA e
 ·rw[if_neg hv]
  exact uB (o aa env A h u e) fun _ _ _ _ q=>q.br
theorem EM{α β:Type}{R:α -> Hs -> β -> Prop}{c:Bool}{o:Out β}{p:Pr α}(r:c=true->Rel A h R o p):Rel A h R o (pg c p):=by
 unfold pg
 cases c with
 | true=>rw[if_pos rfl];exact r rfl
 | false=>rw[if_neg Bool.false_ne_true];trivial
theorem v_var{i:Nat}:bH Φ Ψ (.var i):=fun aa env A h u e=>by
 rw[aG,aX]
 cases hv:aa[i]? with
 | none=>trivial
 | some o =>
  cases o with
  | none=>trivial
  | some fd =>
   obtain⟨f,d⟩:=fd
   refine EM fun hf=>?_
   ·have:=e i f d hv
    rw[if_neg (by simp[hf])] at this
    obtain⟨v,k1,k2⟩:=this
    rw[k1]
    exact⟨v,h,rfl,List.prefix_refl _,mh k2⟩
theorem xV{α:Type}{f:Hs->Option α}:ask f h=bnd (ask f) (fun z=>ret z) h:=by unfold bnd ask bw;cases f h<;>rfl
theorem xW{d:Val}(f:gZ d=true):Dn A h d d:=(eE d d f).mpr rfl
theorem MB{d:Val}(f:gZ d=true):bH Φ Ψ (.cst d):=fun aa env A h u e=>by rw[aG,aX];exact az (mh (xW f))
theorem MC{x:Str}{d:Val}(f:gZ d=true):bH Φ Ψ (.con x d):=fun aa env A h u e=>by rw[aG,aX];exact az (mh (xW f))
theorem Qd:bH Φ Ψ .no:=fun aa env A h u e=>by rw[aX];trivial
theorem MD{o:rR}{a b:IE}(ha:bH Φ Ψ a)(hb:bH Φ Ψ b):bH Φ Ψ (.bin o a b):=fun aa env A h u e=>by
 rw[aG,aX]
 exact af (jw ha u e) fun x h1 v p1 q1=>af (jw hb (u.ext p1) (e.ext p1)) fun y h2 w p2 q2=>xU ((u.ext p1).ext p2) (p1.trans p2) (DB.ext p2 q1) q2
theorem ME{a:IE}(ha:bH Φ Ψ a):bH Φ Ψ (.neg a):=fun aa env A h u e=>by
 rw[aG,aX]
 refine af (ha aa env A h u e) fun x h1 v p1 q1=>?_
 obtain⟨f,d⟩:=x
 have q:=q1.1
 cases d<;>dsimp only<;>first|trivial|skip
 dsimp only at q
 rw[Dn] at q;subst q
 exact az gO
theorem MF{o:xB}{a b:IE}(ha:bH Φ Ψ a)(hb:bH Φ Ψ b):bH Φ Ψ (.cmp o a b):=fun aa env A h u e=>by
 rw[aG,aX]
 exact af (jw ha u e) fun x h1 v p1 q1=>af (jw hb (u.ext p1) (e.ext p1)) fun y h2 w p2 q2 =>
  af (R:=fun t _ t'=>t'=t) (bM fun t et=>⟨t,Jq (DB.ext p2 q1) q2 et,rfl⟩) fun t h3 t' p3 et=>by subst et;exact az oY
theorem MG{o o':xB}{a b c:IE}(ha:bH Φ Ψ a)(hb:bH Φ Ψ b)(hc:bH Φ Ψ c):bH Φ Ψ (.chn o o' a b c):=fun aa env A h u e=>by rw[aX];trivial
theorem jx{d v:Val}(q:Dn A h d v):Rel A h (fun t _ t'=>t'=t) (oF v h) (oW d):=by
 cases d<;>first|trivial|skip
 rw[Dn] at q;subst q
 exact az rfl
theorem v_and{a b:IE}(ha:bH Φ Ψ a)(hb:bH Φ Ψ b):bH Φ Ψ (.and a b):=fun aa env A h u e=>by
 rw[aG,aX]
 refine af (ha aa env A h u e) fun x h1 v p1 q1=>af (jx q1.1) fun t h2 t' p2 et=>?_
 subst et
 cases t' with
 | true =>
  rw[if_pos rfl,if_pos rfl]
  exact af (hb aa env A h2 ((u.ext p1).ext p2) ((e.ext p1).ext p2)) fun y h3 w p3 q3=>af (jx q3.1) fun t h2 t' p2 et=>by subst et;exact az oY
 | false =>
  rw[if_neg Bool.false_ne_true,if_neg Bool.false_ne_true]
  exact az oY
theorem v_or{a b:IE}(ha:bH Φ Ψ a)(hb:bH Φ Ψ b):bH Φ Ψ (.or a b):=fun aa env A h u e=>by
 rw[aG,aX]
 refine af (ha aa env A h u e) fun x h1 v p1 q1=>af (jx q1.1) fun t h2 t' p2 et=>?_
 subst et
 cases t' with
 | false =>
  rw[if_neg Bool.false_ne_true,if_neg Bool.false_ne_true]
  exact af (hb aa env A h2 ((u.ext p1).ext p2) ((e.ext p1).ext p2)) fun y h3 w p3 q3=>af (jx q3.1) fun t h2 t' p2 et=>by subst et;exact az oY
 | true =>
  rw[if_pos rfl,if_pos rfl]
  exact az oY
theorem v_not{a:IE}(ha:bH Φ Ψ a):bH Φ Ψ (.not a):=fun aa env A h u e=>by
 rw[aG,aX]
 exact af (ha aa env A h u e) fun x h1 v p1 q1=>af (jx q1.1) fun t h2 t' p2 et=>by subst et;exact az oY
theorem v_ite{c a b:IE}(hc:bH Φ Ψ c)(ha:bH Φ Ψ a)(hb:bH Φ Ψ b):bH Φ Ψ (.ite c a b):=fun aa env A h u e=>by rw[aX];trivial
theorem Gd:jX Φ Ψ .nil:=⟨fun aa env A h u e=>by rw[aR,sf];exact az ⟨aj.nil,fun _=>aj.nil⟩,fun aa env A h u e=>by rw[aR,gM];exact az rfl⟩
theorem BI{e:IE}{es:eO}(he:bH Φ Ψ e)(hs:jX Φ Ψ es):jX Φ Ψ (.cons e es):=by
 refine⟨fun aa env A h u er=>?_,fun aa env A h u er=>?_⟩
 ·rw[aR,sf]
  refine af (he aa env A h u er) fun x h1 v p1 q1=>af (hs.1 aa env A h1 (u.ext p1) (er.ext p1)) fun y h2 vs p2 q2=>?_
  refine az ⟨aj.cons (q1.1.ext p2) q2.1,fun hf=>?_⟩
  have hf':x.1=true/\y.1=true:=by simpa using hf
  exact aj.cons ((q1.2 hf'.1).ext p2) ((q2.2 hf'.2).fM (Fr.le p1.length_le))
 ·rw[aR,gM]
  refine af (jw he u er) fun x h1 v p1 q1=>af (hs.2 aa env A h1 (u.ext p1) (er.ext p1)) fun y h2 vs p2 q2=>?_
  exact az ⟨v,vs,rfl,DB.ext p2 q1,q2⟩
theorem MH{es:eO}(hs:jX Φ Ψ es):bH Φ Ψ (.tup es):=fun aa env A h u e=>by
 rw[aG,aX]
 refine af (hs.1 aa env A h u e) fun x h1 vs p1 q1=>bG (fun z=>by rw[<-q1.1.length];exact z) fun _=>az ⟨?_,fun hf=>?_⟩
 ·show Dn A h1 (.tup _) _;rw[Dn];exact⟨vs,rfl,q1.1⟩
 ·show Dn _ h1 (.tup _) _;rw[Dn];exact⟨vs,rfl,q1.2 hf⟩
theorem Jx:bH Φ Ψ .dct0:=fun aa env A h u e=>by
 rw[aG,aX]
 refine⟨_,_,rfl,cY _,?_,fun hf=>?_⟩
 ·show Dn A _ (.dc [] []) _
  rw[Dn];exact⟨_,[],rfl,u _ (Nat.le_refl _),ie _,rfl,aj.nil⟩
 ·show Dn _ _ (.dc [] []) _
  rw[Dn];exact⟨_,[],rfl,Nat.le_refl _,ie _,rfl,aj.nil⟩
theorem Jy{k v:IE}(hk:bH Φ Ψ k)(hv:bH Φ Ψ v):bH Φ Ψ (.dct1 k v):=fun aa env A h u e=>by
 rw[aG,aX]
 refine af (hk aa env A h u e) fun x h1 w p1 q1=>af (R:=fun kk _ kk'=>kk'=kk) (bh fun kk ek=>⟨kk,wm q1.1 ek,rfl⟩) fun kk h2 kk' p2 hkk=>?_
 subst hkk
 refine af (hv aa env A h2 ((u.ext p1).ext p2) ((e.ext p1).ext p2)) fun y h3 z p3 q3=>?_
 have p:=(p1.trans p2).trans p3
 refine⟨_,_,rfl,cY _,?_,fun hf=>?_⟩
 ·show Dn A _ (.dc [kk'] [y.2]) _
  rw[Dn];exact⟨_,[(kk',z)],rfl,u _ p.length_le,ie _,rfl,aj.cons (q3.1.ext (cY _)) aj.nil⟩
 ·show Dn _ _ (.dc [kk'] [y.2]) _
  rw[Dn];exact⟨_,[(kk',z)],rfl,p.length_le,ie _,rfl,aj.cons (((q3.2 hf).fM (Fr.le (p1.trans p2).length_le)).ext (cY _)) aj.nil⟩
theorem Jz{d k x:IE}(hd:bH Φ Ψ d)(hk:bH Φ Ψ k)(hx:bH Φ Ψ x):bH Φ Ψ (.dget d k x):=fun aa env A h u e=>by
 rw[aG,aX]
 refine af (jw hd u e) fun o h1 v p1 q1=>af (R:=fun _ _ _=>True) (bM fun t et=>⟨t,EG q1 et,trivial⟩) fun _ h2 _ p2 _=>?_
 refine af (hk aa env A h2 ((u.ext p1).ext p2) ((e.ext p1).ext p2)) fun i h3 w p3 q3=>af (R:=fun kk _ kk'=>kk'=kk) (bh fun kk ek=>⟨kk,wm q3.1 ek,rfl⟩) fun kk h4 kk' p4 hkk=>?_
 subst hkk
 have SQ:=((p1.trans p2).trans p3).trans p4
 refine af (hx aa env A h4 (u.ext SQ) (e.ext SQ)) fun z h5 z' p5 q5=>?_
 refine af (R:=fun r h' r'=>∀a b,Dn A h5 a b->Dn A h' (r.getD a) (r'.getD b)) (bM fun r er=>?_) fun r h6 r' p6 hr=>az (mh (hr _ _ q5.1))
 obtain⟨r',e1,e2⟩:=Js (DB.ext ((p2.trans p3).trans (p4.trans p5)) q1) er
 exact⟨r',e1,e2⟩
theorem EN{d:IE}(hd:bH Φ Ψ d):bH Φ Ψ (.lkeys d):=fun aa env A h u e=>by
 rw[aG,aX]
 refine af (jw hd u e) fun o h1 v p1 q1=>af (R:=fun ks _ ks'=>ks'=ks) (bM fun ks ek=>⟨ks,oX q1 ek,rfl⟩) fun ks h2 ks' p2 hk=>?_
 subst hk
 exact eF ((u.ext p1).ext p2) (p1.trans p2) ((aN _ _ (kW ks')).mpr rfl) fun _=>(aN _ _ (kW ks')).mpr rfl
theorem EO{d:IE}(hd:bH Φ Ψ d):bH Φ Ψ (.skeys d):=fun aa env A h u e=>by
 rw[aG,aX]
 refine af (jw hd u e) fun o h1 v p1 q1=>af (R:=fun ns _ ns'=>ns'=ns) (bM fun ns en=>⟨ns,?_,rfl⟩) fun ns h2 ns' p2 hk=>?_
 ·unfold kq at en |-
  obtain⟨ks,e1,e2⟩:=Option.bind_eq_some_iff.mp en
  rw[oX q1 e1]
  exact e2
 ·subst hk
  exact eF ((u.ext p1).ext p2) (p1.trans p2) ((aN _ _ (aU ns')).mpr rfl) fun _=>(aN _ _ (aU ns')).mpr rfl
theorem kY:∀{xs:List Val} {ns:List Int},aQ xs=some ns->xs=ns.map .int
 | [],ns,e=>by cases e;rfl
 | x::xs,ns,e=>by
  unfold aQ at e
  rw[cg] at e
  obtain⟨i,e1,e⟩:=Option.bind_eq_some_iff.mp e
  obtain⟨r,e2,e⟩:=Option.bind_eq_some_iff.mp e
  cases e
  cases x<;>simp at e1
  subst e1
  rw[kY e2];rfl
theorem JA{N':List Str}{js:List (Option Nat)}{p q:Nat}{d w:IE}(hd:bH Φ Ψ d)(hw:bH Φ Ψ w):bH Φ Ψ (.dflt N' js p q d w):=fun aa env A h u e=>by
 rw[aG,aX]
 refine af (jw hd u e) fun o h1 v p1 q1=>af (R:=fun ks _ ks'=>ks'=ks) (bM fun ks ek=>⟨ks,oX q1 ek,rfl⟩) fun ks h2 ks' p2 hk=>?_
 subst hk
 refine af (jw hw ((u.ext p1).ext p2) ((e.ext p1).ext p2)) fun x h3 z p3 q3=>af (R:=fun ns _ ns'=>ns'=ns) (bM fun ns en=>⟨ns,?_,rfl⟩) fun ns h4 ns' p4 hk=>?_
 ·unfold oE at en |-
  obtain⟨XG,e1,SS⟩:=Option.bind_eq_some_iff.mp en
  obtain⟨xs,e2,SV⟩:=Option.bind_eq_some_iff.mp SS
  obtain⟨ms,e3,UX⟩:=Option.bind_eq_some_iff.mp SV
  clear en SS SV
  obtain⟨f,d⟩:=x
  cases d<;>first|(cases e2;done)|skip
  cases e2
  obtain⟨vs,e4,e5⟩:=DB.lst q3
  rw[kY e3] at e5
  rw[e1,e4,(aN _ _ (aU ms)).mp e5,<-kY e3]
  show ((aQ _).bind _)=_
  rw[e3]
  exact UX
 ·subst hk
  exact eF ((((u.ext p1).ext p2).ext p3).ext p4) (((p1.trans p2).trans p3).trans p4) ((aN _ _ (aU ns')).mpr rfl) fun _=>(aN _ _ (aU ns')).mpr rfl
theorem MI{a:IE}{x:Str}{bs:List Bool}(ha:bH Φ Ψ a):bH Φ Ψ (.isc a x bs):=fun aa env A h u e=>by rw[aX];trivial
theorem JB{a:IE}(ha:bH Φ Ψ a):bH Φ Ψ (.sset a):=fun aa env A h u e=>by
 rw[aG,aX]
 refine af (jw ha u e) fun x h1 v p1 q1=>?_
 obtain⟨f,d⟩:=x
 cases d<;>first|trivial|skip
 rename_i xs
 obtain⟨vs,e1,e2⟩:=DB.lst q1
 have ea:∀(F:List Val->M Val),bnd (ask fun h=>aB h v) F h1=F vs h1:=fun F=>by unfold bnd ask bw;dsimp only;rw[e1]
 rw[ea]
 show Rel A h1 _ _ (pb (pl (aQ xs)) _)
 refine af (R:=fun ns h' ns'=>ns'=ns) (bh fun ns en=>⟨ns,?_,rfl⟩) fun ns h2 ns' p2 en=>?_
 ·have ei:=kY en
  subst ei
  rw[(aN _ _ (aU ns)).mp e2];exact en
 ·subst en
  refine bG (fun z=>z) fun _=>?_
  have hi:∀ms:List Int,aj A h2 (ms.map Val.int) (ms.map Val.int):=fun ms=>(aN _ _ (aU ms)).mpr rfl
  exact eF ((u.ext p1).ext p2) (p1.trans p2) (hi _) fun _=>(aN _ _ (aU _)).mpr rfl
theorem MJ{es:eO}(hs:jX Φ Ψ es):bH Φ Ψ (.lst es):=fun aa env A h u e=>by
 rw[aG,aX]
 exact af (hs.1 aa env A h u e) fun x h1 vs p1 q1=>bG (fun z=>by rw[<-q1.1.length];exact z) fun _=>eF (u.ext p1) p1 q1.1 q1.2
theorem MK{a b:IE}(ha:bH Φ Ψ a)(hb:bH Φ Ψ b):bH Φ Ψ (.idx a b):=fun aa env A h u e=>by
 rw[aG,aX]
 refine af (jw ha u e) fun x h1 v p1 q1=>af (hb aa env A h1 (u.ext p1) (e.ext p1)) fun y h2 w p2 q2=>?_
 rw[xV]
 exact af (R:=fun z h' z'=>Dn A h' z z') (bM fun z ez=>Jt (DB.ext p2 q1) q2.1 ez) fun z h3 z' p3 q3=>az (mh q3)
theorem jy{ir:IE}(o:bH Φ Ψ ir){aa:aF}{env:Env}(u:Up A h)(e:ER A aa env h) :
  Rel A h (fun(t:Option Int) _ t'=>t'=t) ((if cH ir=true then ret none else bnd (aG Φ ir env) fun v=>bnd (bw (fP v)) fun i=>ret (some i)) h) (if cH ir=true then .ok none else pb (aX Ψ ir aa) fun v=>pb (pl (fP v.2)) fun i=>.ok (some i)):=by
 by_cases hn:cH ir=true
 ·rw[if_pos hn,if_pos hn];exact az rfl
 ·rw[if_neg hn,if_neg hn]
  refine af (o aa env A h u e) fun x h1 v p1 q1=>af (R:=fun t _ t'=>t'=t) (bh fun i ei=>?_) fun t h2 t' p2 et=>by subst et;exact az rfl
  obtain⟨f,d⟩:=x
  have q:=q1.1
  cases d<;>first|(cases ei;done)|skip
  dsimp only at q
  rw[Dn] at q;subst q
  exact⟨i,ei,rfl⟩
theorem ML{a lo hi:IE}(ha:bH Φ Ψ a)(hl:bH Φ Ψ lo)(hh:bH Φ Ψ hi):bH Φ Ψ (.slc a lo hi):=fun aa env A h u e=>by
 rw[aG,aX]
 refine af (jw ha u e) fun x h1 v p1 q1=>af (jy hl (u.ext p1) (e.ext p1)) fun l h2 l' p2 el=>af (jy hh ((u.ext p1).ext p2) ((e.ext p1).ext p2)) fun r h3 r' p3 er=>?_
 subst el;subst er
 exact EJ (((u.ext p1).ext p2).ext p3) ((p1.trans p2).trans p3) (DB.ext (p2.trans p3) q1)
theorem MM{a sx:IE}(ha:bH Φ Ψ a)(hs:bH Φ Ψ sx):bH Φ Ψ (.rev a sx):=fun aa env A h u e=>by
 rw[aG,aX]
 refine af (jw ha u e) fun x h1 v p1 q1=>af (jy hs (u.ext p1) (e.ext p1)) fun l h2 l' p2 el=>?_
 subst el
 refine bG (fun z=>z) fun _=>?_
 obtain⟨f,d⟩:=x
 cases d with
 | rl ds =>
  obtain⟨vs,e1,q⟩:=DB.lst (DB.ext p2 q1)
  have ev:bnd (ask fun h=>aB h v) (fun xs=>new (.lst xs.reverse)) h2=new (.lst vs.reverse) h2:=by
   unfold bnd ask bw;dsimp only;rw[e1]
  rw[ev]
  exact eF ((u.ext p1).ext p2) (p1.trans p2) (aj.rev q) fun hh=>fD (aj.rev q) hh
 | _=>trivial
theorem JC{j:Nat}{es:eO}(hΦ:∀j,Imp (Φ j) (Ψ j))(hs:jX Φ Ψ es):bH Φ Ψ (.call j es):=fun aa env A h u e=>by
 rw[aG,aX]
 exact af (hs.1 aa env A h u e) fun x h1 vs p1 q1=>BH p1 (hΦ j A h1 x.2 vs (u.ext p1) q1.1)
theorem MN{n:Nat}{a:IE}{x:Str}(ha:bH Φ Ψ a):bH Φ Ψ (.fld n a x):=fun aa env A h u e=>by
 rw[aG,aX]
 refine af (jw ha u e) fun o h1 v p1 q1=>?_
 rw[xV]
 exact af (R:=fun z h' z'=>Dn A h' z z') (bM fun z ez=>Ju q1 ez) fun z h3 z' p3 q3=>az (mh q3)
theorem MO{a:IE}{m:Str}{js:List (Nat×Nat)}{es:eO}(hΦ:∀j,Imp (Φ j) (Ψ j))(ha:bH Φ Ψ a)(hs:jX Φ Ψ es):bH Φ Ψ (.mth a m js es):=fun aa env A h u e=>by
 rw[aG,aX]
 refine af (ha aa env A h u e) fun o h1 v p1 q1=>af (R:=fun j _ j'=>j'=j) (bM fun j ej=>⟨j,Jv (.inl q1.1) ej,rfl⟩) fun j h2 j' p2 hj=>?_
 subst hj
 exact af (hs.1 aa env A h2 ((u.ext p1).ext p2) ((e.ext p1).ext p2)) fun x h3 vs p3 q3=>BH ((p1.trans p2).trans p3) (hΦ j' A h3 (o.2::x.2) (v::vs) (((u.ext p1).ext p2).ext p3) (aj.cons (q1.1.ext (p2.trans p3)) q3.1))
theorem MP{b:Bl}{es:eO}(hs:jX Φ Ψ es):bH Φ Ψ (.blt b es):=fun aa env A h u e=>by
 rw[aG,aX]
 exact af (hs.2 aa env A h u e) fun x h1 vs p1 q1=>EL (u.ext p1) p1 q1
theorem MQ{m:Me}{a:IE}{es:eO}(ha:bH Φ Ψ a)(hs:jX Φ Ψ es):bH Φ Ψ (.met m a es):=fun aa env A h u e=>by
 cases m with
 | join=>rw[aX];trivial
 | append=>rw[aX]<;>first|trivial|(intro z;cases z)
 | extend=>rw[aX]<;>first|trivial|(intro z;cases z)
noncomputable def SrcR(A:AP)(h:Hs)(xs:List Val)(src:Src):Prop:=∃ws,aj A h xs ws/\∀h',h<+:h'->src.items h'=some ws
theorem ig{lo:Int}{n:Nat}:aj A h (bW lo n) (bW lo n):=by
 unfold bW
 generalize List.range n=l
 induction l with
 | nil=>exact aj.nil
 | cons a l ih=>exact aj.cons (by rw[Dn]) ih
theorem fE:∀{xs ws:List Val} (i:Nat),aj A h xs ws->aj A h (cF i xs) (cF i ws)
 | [],ws,i,q=>by rw[aj] at q;subst q;exact aj.nil
 | x::xs,ws,i,q=>by
  rw[aj] at q
  obtain⟨w,r,rfl,a,b⟩:=q
  exact aj.cons (by rw[Dn];exact⟨_,rfl,aj.cons (by rw[Dn]) (aj.cons a aj.nil)⟩) (fE (i+1) b)
theorem xX{ds vs:List Val}{v:Val}(a:DB A h (.rl ds) v):∃ws,aj A h ds ws/\((v=.rl ws)\/∃i,v=.ref i/\∀h',h<+:h'->aB h' (.ref i)=some ws):=by
 rcases a with a|⟨i,rfl,vs,g,q⟩
 ·rw[Dn] at a
  rcases a with ⟨vs,rfl,_,q⟩|⟨i,vs,rfl,_,g,q⟩
  ·exact⟨vs,q,.inl rfl⟩
  ·exact⟨vs,q,.inr ⟨i,rfl,fun h' p=>by simp[aB,bO p g]⟩⟩
 ·exact⟨vs,q,.inr ⟨i,rfl,fun h' p=>by simp[aB,bO p g]⟩⟩
theorem xY{k:Ik}{ds vs:List Val}(a:EH A h ds vs):Rel A h (fun xs h' src=>SrcR A h' xs src) (bw (srcOf k vs) h) (pl (BB k ds)):=by
 refine bh fun xs e=>?_
 cases k with
 | seq =>
  match ds,e with
  | [.tup es],e =>
   cases e
   obtain⟨v,rfl,hv⟩:=a.one
   obtain⟨ws,rfl,q⟩:=hv.tup
   exact⟨.fix ws,rfl,ws,q,fun _ _=>rfl⟩
  | [.rl es],e =>
   cases e
   obtain⟨v,rfl,hv⟩:=a.one
   obtain⟨ws,q,rfl|⟨i,rfl,g⟩⟩:=xX (vs:=[]) hv
   ·exact⟨.fix ws,rfl,ws,q,fun _ _=>rfl⟩
   ·exact⟨.live i,rfl,ws,q,fun h' p=>g h' p⟩
 | range =>
  match ds,e with
  | [.int n],e =>
   obtain⟨v,rfl,hv⟩:=a.one
   have:=hv.int;subst this
   change (if inR n=true then some (bW 0 n.toNat) else none)=some _ at e
   split at e
   ·rename_i hn;cases e
    exact⟨.fix _,if_pos hn,_,ig,fun _ _=>rfl⟩
   ·cases e
  | [.int n,.int m],e =>
   obtain⟨v,r,rfl,hv,hr⟩:=a
   obtain⟨w,rfl,hw⟩:=EH.one hr
   have:=hv.int;subst this
   have:=hw.int;subst this
   change (if (inR n&&inR m)=true then some (bW n (m-n).toNat) else none)=some _ at e
   split at e
   ·rename_i hn;cases e
    exact⟨.fix _,if_pos hn,_,ig,fun _ _=>rfl⟩
   ·cases e
 | enum =>
  match ds,e with
  | [.rl es],e =>
   cases e
   obtain⟨v,rfl,hv⟩:=a.one
   obtain⟨ws,q,rfl|⟨i,rfl,g⟩⟩:=xX (vs:=[]) hv
   ·exact⟨.fix _,rfl,_,fE 0 q,fun _ _=>rfl⟩
   ·exact⟨.enum i,rfl,_,fE 0 q,fun h' p=>by simp[Src.items,g h' p]⟩
 | zip=>cases e
theorem xZ:∀{is:List Nat} {ds vs:List Val} {aa aq:aF} {env:Env},bA is ds aa=some aq->aj A h ds vs->ER A aa env h->(∀i∈is,i<aa.length->i<env.length)->∃env',bindAll is vs env=some env'/\ER A aq env' h
 | [],[],vs,aa,aq,env,e,q,er,_=>by
  rw[aj] at q;subst q
  simp only[bA] at e;cases e
  exact⟨env,rfl,er⟩
 | i::is,d::ds,vs,aa,aq,env,e,q,er,hl=>by
  rw[aj] at q
  obtain⟨v,r,rfl,q1,q2⟩:=q
  simp only[bA] at e
  have UY:ER A (aa.set i (some (.sh,d))) (env.set i (some v)) h:=fun j f d' hj=>by
   by_cases hij:i=j
   ·subst hij
    have hi:i<aa.length:=by have:=(List.getElem?_eq_some_iff.mp hj).1;simpa using this
    rw[List.getElem?_set_self hi] at hj
    cases hj
    rw[if_neg (by decide)]
    exact⟨v,by rw[List.getElem?_set_self (hl i List.mem_cons_self hi)],q1⟩
   ·rw[List.getElem?_set_ne hij] at hj
    rw[List.getElem?_set_ne hij]
    exact er j f d' hj
  simp only[bindAll]
  exact xZ e q2 UY fun j hj hl'=>by simpa using hl j (List.mem_cons_of_mem _ hj) (by simpa using hl')
 | [],_::_,_,_,_,_,e,_,_,_=>by simp[bA] at e
 | _::_,[],_,_,_,_,e,_,_,_=>by simp[bA] at e
theorem uD{p:jV}{d v:Val}{aa aq:aF}{env:Env}(e:cG p d aa=some aq)(q:Dn A h d v)(er:ER A aa env h)(hl:aa.length<=env.length):∃env',fu p v env=some env'/\ER A aq env' h:=by
 cases p with
 | one i =>
  simp only[cG] at e;cases e
  refine⟨_,rfl,fun j f d' hj=>?_⟩
  by_cases hij:i=j
  ·subst hij
   have hi:i<aa.length:=by have:=(List.getElem?_eq_some_iff.mp hj).1;simpa using this
   rw[List.getElem?_set_self hi] at hj
   cases hj
   rw[if_neg (by decide)]
   exact⟨v,by rw[List.getElem?_set_self (by omega)],q⟩
  ·rw[List.getElem?_set_ne hij] at hj
   rw[List.getElem?_set_ne hij]
   exact er j f d' hj
 | tup is =>
  cases d<;>simp only[cG] at e<;>first|(cases e;done)|skip
  rw[Dn] at q
  obtain⟨vs,rfl,q⟩:=q
  exact xZ e q er fun i _ hi=>by omega
theorem x6{aa:aF}{env:Env}{js:List (Option Nat)}(e:ER A aa env h):ER A (j5 js aa) (jl js env) h:=fun i f d q=>by
 unfold j5 at q
 rw[List.getElem?_map] at q
 cases hj:js[i]? with
 | none=>rw[hj] at q;cases q
 | some o =>
  rw[hj] at q
  simp only[Option.map_some] at q
  cases o with
  | none=>cases q
  | some j =>
   dsimp only at q
   cases ej:aa[j]? with
   | none=>rw[ej] at q;cases q
   | some w =>
    cases w with
    | none=>rw[ej] at q;cases q
    | some fd =>
     rw[ej] at q
     cases q
     have:=e j f d ej
     revert this
     generalize qO f=t
     intro this
     cases t with
     | false =>
      rw[if_pos rfl] at this |-
      obtain⟨a,k2,k3⟩:=this
      refine⟨a,?_,k3⟩
      unfold jl
      rw[List.getElem?_map,hj]
      simp only[Option.map_some]
      rw[k2]
     | true =>
      rw[if_neg (by decide)] at this |-
      obtain⟨v,k1,k2⟩:=this
      refine⟨v,?_,k2⟩
      unfold jl
      rw[List.getElem?_map,hj]
      simp only[Option.map_some]
      rw[k1]
theorem o4{src:Src}{ws:List Val}{f:Val->M (Option Val)}{g:Val->Pr (Option FV)}{hb:Hs} :
  ∀(xs:List Val) (vs:List Val) (i:Nat) (acc:List Val) (h:Hs),hb<+:h->Up A h->(∀h',h<+:h'->src.items h'=some ws)->ws.drop i=vs->aj A h xs vs ->
   (∀x v h',h<+:h'->Dn A h' x v->Rel A h' (fun o h'' o'=>match o,o' with|some e,some e'=>RV A hb e h'' e'|none,none=>True|_,_=>False) (f v h') (g x)) ->
   Rel A h (fun p h' ys=>∃zs,ys=acc++zs/\aj A h' p.2 zs/\(p.1=true->aj (Fr hb.length) h' p.2 zs)) (fz src f vs.length i acc h) (iS g xs)
 | [],vs,i,acc,h,SW,u,hi,hd,q,hf=>by
  rw[aj] at q;subst q
  have hl:ws.length<=i:=List.drop_eq_nil_iff.mp hd
  have ev:fz src f ([]:List Val).length i acc h=.ok acc h:=by
   show fz src f 0 i acc h=_
   simp only[fz]
   unfold bnd ask bw aD;dsimp only;rw[hi h (List.prefix_refl _)];dsimp only;rw[if_pos (decide_eq_true hl)];rfl
  rw[ev,iS]
  exact⟨acc,h,rfl,List.prefix_refl _,[],by simp,aj.nil,fun _=>aj.nil⟩
 | x::xs,vs,i,acc,h,SW,u,hi,hd,q,hf=>by
  rw[aj] at q
  obtain⟨v,r,rfl,q1,q2⟩:=q
  have hv:ws[i]?=some v:=by
   have:=congrArg (fun l=>l[0]?) hd
   simpa using this
  have hr:ws.drop (i+1)=r:=by
   have:ws.drop (i+1)=(ws.drop i).drop 1:=by rw[List.drop_drop]
   rw[this,hd];rfl
  have ev:fz src f (v::r).length i acc h=bnd (f v) (fun o=>fz src f r.length (i+1) (match o with|some e=>acc++[e]|none=>acc)) h:=by
   show fz src f (r.length+1) i acc h=_
   simp only[fz]
   unfold bnd ask bw;dsimp only;rw[hi h (List.prefix_refl _)];dsimp only;rw[hv];try rfl
  rw[ev,iS]
  refine af (hf x v h (List.prefix_refl _) q1) fun o h1 o' p1 ho=>?_
  have ih:=fun acc'=>o4 xs r (i+1) acc' h1 (SW.trans p1) (u.ext p1) (fun h' p=>hi h' (p1.trans p)) hr (q2.ext p1) fun x v h' p=>hf x v h' (p1.trans p)
  cases o' with
  | some e' =>
   cases o with
   | none=>exact ho.elim
   | some e =>
    have ih:=ih (acc++[e'])
    cases e2:iS g xs with
    | ok p =>
     rw[e2] at ih
     obtain⟨ys,h2,e3,p2,zs,rfl,z1,z2⟩:=ih
     refine⟨_,h2,e3,p2,e'::zs,by simp,aj.cons (ho.1.ext p2) z1,fun hp=>?_⟩
     have SX:e.1=true/\p.1=true:=by simpa using hp
     exact aj.cons ((ho.2 SX.1).ext p2) (z2 SX.2)
    | exc c es=>rw[e2] at ih;exact ih
    | no=>trivial
  | none =>
   cases o with
   | some e'=>exact ho.elim
   | none =>
    have ih:=ih acc
    cases e2:iS g xs with
    | ok p =>
     rw[e2] at ih
     obtain⟨ys,h2,e3,p2,zs,rfl,z1,z2⟩:=ih
     exact⟨_,h2,e3,p2,zs,rfl,z1,z2⟩
    | exc c es=>rw[e2] at ih;exact ih
    | no=>trivial
theorem JD{N:List Str}{js:List (Option Nat)}{pat:jV}{k:Ik}{it:eO}{c elt:IE}(hs:jX Φ Ψ it)(hc:bH Φ Ψ c)(he:bH Φ Ψ elt):bH Φ Ψ (.comp N js pat k it c elt):=fun aa env A h u e=>by
 rw[aG,aX]
 refine af (hs.2 aa env A h u e) fun ds h1 vs p1 q1=>af (xY q1) fun xs h2 src p2 q2=>?_
 obtain⟨ws,q3,q4⟩:=q2
 have l:=q3.length
 have ev:∀(F:List Val->M Val),bnd (ask fun h=>src.items h) F h2=F ws h2:=fun F=>by unfold bnd ask bw;dsimp only;rw[q4 h2 (List.prefix_refl _)]
 rw[ev]
 refine bG (fun z=>by rw[<-l];exact z) fun _=>?_
 have u2:=(u.ext p1).ext p2
 have e2:=(e.ext p1).ext p2
 refine af (o4 (hb:=h) xs ws 0 [] h2 (p1.trans p2) u2 q4 rfl q3 fun x v h' p' qx=>?_) fun p h3 ys p3 hp=>?_
 ·refine af (R:=fun aq _ env'=>∃_:ER A aq env' h',True) (bh fun aq ev'=>?_) fun aq h4 env' p4 he'=>?_
  ·obtain⟨env',a1,a2⟩:=uD ev' qx (x6 (e2.ext p')) (by simp[j5,jl])
   exact⟨env',a1,a2,trivial⟩
  ·obtain⟨er,_⟩:=he'
   have er:=er.ext p4
   have u4:=(u2.ext p').ext p4
   have Mm:Rel A h4 (fun t _ t'=>t'=t) ((if cH c=true then ret true else bnd (aG Φ c env') fun v=>ask fun h=>dj h v) h4) (if cH c=true then .ok true else pb (aX Ψ c aq) fun v=>pl (dj [] v.2)):=by
    by_cases hn:cH c=true
    ·rw[if_pos hn,if_pos hn];exact az rfl
    ·rw[if_neg hn,if_neg hn]
     exact af (hc aq env' A h4 u4 er) fun y h5 w p5 q5=>bM fun t et=>⟨t,su q5.br et,rfl⟩
   refine af Mm fun t h5 t' p5 et=>?_
   subst et
   cases t' with
   | true =>
    rw[if_pos rfl,if_pos rfl]
    exact af (he aq env' A h5 (u4.ext p5) (er.ext p5)) fun y h6 w p6 q6=>az (q6.up ((p1.trans p2).trans (p'.trans (p4.trans p5))))
   | false =>
    rw[if_neg Bool.false_ne_true,if_neg Bool.false_ne_true]
    exact az trivial
 ·obtain⟨zs,rfl,z1,z2⟩:=hp
  exact eF (u2.ext p3) ((p1.trans p2).trans p3) z1 z2
mutual
noncomputable def bC:IE->Bool
 | .cst d=>gZ d
 | .con _ d=>gZ d
 | .bin _ a b=>bC a&&bC b
 | .neg a=>bC a
 | .cmp _ a b=>bC a&&bC b
 | .chn _ _ a b c=>bC a&&bC b&&bC c
 | .and a b=>bC a&&bC b
 | .or a b=>bC a&&bC b
 | .not a=>bC a
 | .ite a b c=>bC a&&bC b&&bC c
 | .tup es=>gq es
 | .lst es=>gq es
 | .idx a b=>bC a&&bC b
 | .slc a b c=>bC a&&bC b&&bC c
 | .call _ es=>gq es
 | .blt _ es=>gq es
 | .met _ a es=>bC a&&gq es
 | .comp _ _ _ _ es a b=>gq es&&bC a&&bC b
 | .var _=>true
 | .no=>true
 | .dct0=>true
 | .sset a=>bC a
 | .dget a b c=>bC a&&bC b&&bC c
 | .dct1 a b=>bC a&&bC b
 | .lkeys a=>bC a
 | .sdef ..=>false
 | .svals _=>false
 | .skeys a=>bC a
 | .fld _ a _=>bC a
 | .mth a _ _ es=>bC a&&gq es
 | .rev a b=>bC a&&bC b
 | .dflt _ _ _ _ a b=>bC a&&bC b
 | .isc a _ _=>bC a
noncomputable def gq:eO->Bool
 | .nil=>true
 | .cons e es=>bC e&&gq es
end
theorem v_all(hΦ:∀j,Imp (Φ j) (Ψ j)):(∀ir,bC ir=true->bH Φ Ψ ir)/\∀dR,gq dR=true->jX Φ Ψ dR:=by
 have one:∀ir,bC ir=true->bH Φ Ψ ir:=by
  intro ir
  refine IE.rec (motive_1:=fun ir=>bC ir=true->bH Φ Ψ ir) (motive_2:=fun dR=>gq dR=true->jX Φ Ψ dR) ?_ ?_ ?_ ?_ ?_ ?_ ?_ ?_ ?_ ?_ ?_ ?_ ?_ ?_ ?_ ?_ ?_ ?_ ?_ ?_ ?_ ?_ ?_ ?_ ?_ ?_ ?_ ?_ ?_ ?_ ?_ ?_ ?_ ?_ ?_ ir
  ·exact fun _ _=>v_var
  ·exact fun _ f=>MB (by rw[bC] at f;exact f)
  ·exact fun _ _ f=>MC (by rw[bC] at f;exact f)
  ·exact fun _=>Qd
  ·intro _ _ _ a b f;rw[bC,Bool.and_eq_true] at f;exact MD (a f.1) (b f.2)
  ·intro _ a f;rw[bC] at f;exact ME (a f)
  ·intro _ _ _ a b f;rw[bC,Bool.and_eq_true] at f;exact MF (a f.1) (b f.2)
  ·intro _ _ _ _ _ a b c f;rw[bC,Bool.and_eq_true,Bool.and_eq_true] at f;exact MG (a f.1.1) (b f.1.2) (c f.2)
  ·intro _ _ a b f;rw[bC,Bool.and_eq_true] at f;exact v_and (a f.1) (b f.2)
  ·intro _ _ a b f;rw[bC,Bool.and_eq_true] at f;exact v_or (a f.1) (b f.2)
  ·intro _ a f;rw[bC] at f;exact v_not (a f)
  ·intro _ _ _ a b c f;rw[bC,Bool.and_eq_true,Bool.and_eq_true] at f;exact v_ite (a f.1.1) (b f.1.2) (c f.2)
  ·intro _ a f;rw[bC] at f;exact MH (a f)
  ·intro _ a f;rw[bC] at f;exact MJ (a f)
  ·intro _ _ a b f;rw[bC,Bool.and_eq_true] at f;exact MK (a f.1) (b f.2)
  ·intro _ _ _ a b c f;rw[bC,Bool.and_eq_true,Bool.and_eq_true] at f;exact ML (a f.1.1) (b f.1.2) (c f.2)
  ·intro _ _ a f;rw[bC] at f;exact JC hΦ (a f)
  ·intro _ _ a f;rw[bC] at f;exact MP (a f)
  ·intro _ _ _ a b f;rw[bC,Bool.and_eq_true] at f;exact MQ (a f.1) (b f.2)
  ·intro _ _ _ _ _ _ _ a b c f;rw[bC,Bool.and_eq_true,Bool.and_eq_true] at f;exact JD (a f.1.1) (b f.1.2) (c f.2)
  ·exact fun _=>Jx
  ·intro _ a f;rw[bC] at f;exact JB (a f)
  ·intro _ _ _ a b c f;rw[bC,Bool.and_eq_true,Bool.and_eq_true] at f;exact Jz (a f.1.1) (b f.1.2) (c f.2)
  ·intro _ _ a b f;rw[bC,Bool.and_eq_true] at f;exact Jy (a f.1) (b f.2)
  ·intro _ a f;rw[bC] at f;exact EN (a f)
  ·intro _ _ _ _ _ _ f;rw[bC] at f;cases f
  ·intro _ _ f;rw[bC] at f;cases f
  ·intro _ a f;rw[bC] at f;exact EO (a f)
  ·intro _ _ _ a f;rw[bC] at f;exact MN (a f)
  ·intro _ _ _ _ a b f;rw[bC,Bool.and_eq_true] at f;exact MO hΦ (a f.1) (b f.2)
  ·intro _ _ a b f;rw[bC,Bool.and_eq_true] at f;exact MM (a f.1) (b f.2)
  ·intro _ _ _ _ _ _ a b f;rw[bC,Bool.and_eq_true] at f;exact JA (a f.1) (b f.2)
  ·intro _ _ _ a f;rw[bC] at f;exact MI (a f)
  ·exact fun _=>Gd
  ·intro _ _ a b f;rw[gq,Bool.and_eq_true] at f;exact BI (a f.1) (b f.2)
 refine⟨one,fun dR=>?_⟩
 induction dR using eO.rec (motive_1:=fun _=>True) with
 | nil=>exact fun _=>Gd
 | cons e es _ ih=>exact fun f=>by rw[gq,Bool.and_eq_true] at f;exact BI (one e f.1) (ih f.2)
 | _=>trivial
end
end Hv
end
section
namespace Hv
open PySem L2
section
variable {A A':AP} {h h':Hs}
mutual
theorem Dn.move(hn:A none->A' none)(hh:∀(i:Nat) (o:Ob),A (some i)->h[i]?=some o->A' (some i)/\h'[i]?=some o):∀(d v:Val),Dn A h d v->Dn A' h' d v
 | .non,v,e=>by rw[Dn] at e |-;exact e
 | .bl _,v,e=>by rw[Dn] at e |-;exact e
 | .int _,v,e=>by rw[Dn] at e |-;exact e
 | .str _,v,e=>by rw[Dn] at e |-;exact e
 | .tup ds,v,e=>by
  rw[Dn] at e |-
  obtain⟨vs,rfl,q⟩:=e
  exact⟨vs,rfl,aj.move hn hh ds vs q⟩
 | .rl ds,v,e=>by
  rw[Dn] at e |-
  rcases e with ⟨vs,rfl,n,q⟩|⟨i,vs,rfl,a,g,q⟩
  ·exact .inl ⟨vs,rfl,hn n,aj.move hn hh ds vs q⟩
  ·exact .inr ⟨i,vs,rfl,(hh i _ a g).1,(hh i _ a g).2,aj.move hn hh ds vs q⟩
 | .dc ks ds,v,e=>by
  rw[Dn] at e |-
  obtain⟨i,kvs,rfl,a,g,k,q⟩:=e
  exact⟨i,kvs,rfl,(hh i _ a g).1,(hh i _ a g).2,k,aj.move hn hh ds _ q⟩
 | .ob c xs ds,v,e=>by
  rw[Dn] at e |-
  obtain⟨i,kvs,rfl,a,g,k,q⟩:=e
  exact⟨i,kvs,rfl,(hh i _ a g).1,(hh i _ a g).2,k,aj.move hn hh ds _ q⟩
 | .ref _,v,e=>by rw[Dn] at e;exact e.elim
theorem aj.move(hn:A none->A' none)(hh:∀(i:Nat) (o:Ob),A (some i)->h[i]?=some o->A' (some i)/\h'[i]?=some o):∀(ds vs:List Val),aj A h ds vs->aj A' h' ds vs
 | [],vs,e=>by rw[aj] at e |-;exact e
 | d::ds,vs,e=>by
  rw[aj] at e |-
  obtain⟨v,r,rfl,q1,q2⟩:=e
  exact⟨v,r,rfl,Dn.move hn hh d v q1,aj.move hn hh ds r q2⟩
end
end
noncomputable def Al(A0:AP)(O:Nat->Option Nat):AP:=fun o=>A0 o/\∀i,o.isSome=true->O i≠o
structure SR (A0:AP) (h0:Hs) (aa:aF) (env:Env) (h:Hs) (O:Nat->Option Nat):Prop where
 len:aa.length=env.length
 sh:∀(i:Nat) (m:Mk) (d:Val),aa[i]?=some (some (m,d))->qO m=true->∃v,env[i]?=some (some v)/\Dn (Al A0 O) h d v/\(KL m=true->Dn (Al (Fr h0.length) O) h d v)
 ow:∀(i:Nat) (d:Val),aa[i]?=some (some (.ow,d))->∃a,env[i]?=some (some (.ref a))/\O i=some a/\OD (Al A0 O) h d a
 own:∀i a,O i=some a->h0.length<=a/\a<h.length/\∃d,aa[i]?=some (some (.ow,d))
 inj:∀i j a,O i=some a->O j=some a->i=j
 pre:h0<+:h
 up:Up A0 h0
structure Fm (m:List Nat) (aa:aF) (env:Env) (h:Hs) (O:Nat->Option Nat) (aq:aF) (env':Env) (h':Hs) (O':Nat->Option Nat):Prop where
 le:h.length<=h'.length
 keep:∀k,k<h.length->(∀i,O i≠some k)->h'[k]?=h[k]?/\∀i,O' i≠some k
 stay:∀i,i∉m->O' i=O i/\aq[i]?=aa[i]?/\env'[i]?=env[i]?/\∀a,O i=some a->h'[a]?=h[a]?
noncomputable def RF(A0:AP)(h0:Hs)(m:List Nat)(aa:aF)(env:Env)(h:Hs)(O:Nat->Option Nat):nE->Hs->Fl->Prop
 | .nx aq,h',.nx env'=>∃O',SR A0 h0 aq env' h' O'/\Fm m aa env h O aq env' h' O'
 | .bk aq,h',.bk env'=>∃O',SR A0 h0 aq env' h' O'/\Fm m aa env h O aq env' h' O'
 | .ct aq,h',.ct env'=>∃O',SR A0 h0 aq env' h' O'/\Fm m aa env h O aq env' h' O'
 | .rt p,h',.rt v=>Dn A0 h' p.2 v/\(p.1=true->Dn (Fr h0.length) h' p.2 v)/\h0<+:h'
 | _,_,_=>False
noncomputable def gP(A0:AP)(h0:Hs){α β:Type}(R:α -> Hs -> β -> Prop)(o:Out β):Pr α -> Prop
 | .ok f=>∃g h',o=.ok g h'/\R f h' g
 | .exc c es=>∃ws h',o=.exc c ws h'/\h0<+:h'/\aj A0 h' es ws
 | .no=>True
section
variable {A0:AP} {h0:Hs} {aa:aF} {env:Env} {h h1:Hs} {O:Nat->Option Nat} {m:List Nat}
theorem SR.er(s:SR A0 h0 aa env h O):ER (Al A0 O) aa env h:=fun i f d e=>by
 cases f with
 | ow =>
  rw[if_pos (show qO .ow=false by decide)]
  obtain⟨a,k2,_,k3⟩:=s.ow i d e
  exact⟨a,k2,k3⟩
 | sh=>rw[if_neg (by decide)];obtain⟨v,k1,k2,_⟩:=s.sh i _ d e rfl;exact⟨v,k1,k2⟩
 | nw=>rw[if_neg (by decide)];obtain⟨v,k1,k2,_⟩:=s.sh i _ d e rfl;exact⟨v,k1,k2⟩
theorem SR.wo(s:SR A0 h0 aa env h O):Up (Al A0 O) h:=fun k hk=>⟨s.up k (Nat.le_trans s.pre.length_le hk),fun i _ e=>by have:=(s.own i k e).2.1;omega⟩
theorem SR.ext(s:SR A0 h0 aa env h O)(p:h<+:h1):SR A0 h0 aa env h1 O where
 len:=s.len
 sh i m d e hm:=by obtain⟨v,k1,k2,k3⟩:=s.sh i m d e hm;exact⟨v,k1,k2.ext p,fun z=>(k3 z).ext p⟩
 ow i d e:=by obtain⟨a,k2,k3,k4⟩:=s.ow i d e;exact⟨a,k2,k3,k4.ext p⟩
 own i a e:=by obtain⟨k1,k2,k3⟩:=s.own i a e;exact⟨k1,Nat.lt_of_lt_of_le k2 p.length_le,k3⟩
 inj:=s.inj
 pre:=s.pre.trans p
 up:=s.up
theorem fF(p:h<+:h1){k:Nat}(hk:k<h.length):h1[k]?=h[k]?:=by
 obtain⟨t,rfl⟩:=p
 rw[List.getElem?_append_left hk]
theorem Fm.refl(s:SR A0 h0 aa env h O)(p:h<+:h1):Fm m aa env h O aa env h1 O where
 le:=p.length_le
 keep k hk n:=⟨fF p hk,n⟩
 stay i _:=⟨rfl,rfl,rfl,fun a e=>fF p (s.own i a e).2.1⟩
theorem Fm.trans{kZ iu:aF}{fU gJ:Env}{h2:Hs}{O1 O2:Nat->Option Nat}(a:Fm m aa env h O kZ fU h1 O1)(b:Fm m kZ fU h1 O1 iu gJ h2 O2):Fm m aa env h O iu gJ h2 O2 where
 le:=Nat.le_trans a.le b.le
 keep k hk n:=by
  obtain⟨a1,a2⟩:=a.keep k hk n
  obtain⟨b1,b2⟩:=b.keep k (Nat.lt_of_lt_of_le hk a.le) a2
  exact⟨b1.trans a1,b2⟩
 stay i hi:=by
  obtain⟨a1,a2,a3,a4⟩:=a.stay i hi
  obtain⟨b1,b2,b3,b4⟩:=b.stay i hi
  exact⟨b1.trans a1,b2.trans a2,b3.trans a3,fun c e=>(b4 c (a1.trans e)).trans (a4 c e)⟩
theorem Fm.fM{m':List Nat}{aq:aF}{env':Env}{O':Nat->Option Nat}(hm:∀i∈m,i∈m')(a:Fm m aa env h O aq env' h1 O'):Fm m' aa env h O aq env' h1 O':=⟨a.le,a.keep,fun i hi=>a.stay i fun z=>hi (hm i z)⟩
theorem RF.pre{f:nE}{h':Hs}{g:Fl}(s:SR A0 h0 aa env h O)(p:h<+:h1)(r:RF A0 h0 m aa env h1 O f h' g):RF A0 h0 m aa env h O f h' g:=by
 cases f<;>cases g<;>first|exact r.elim|exact r|(obtain⟨O',a,b⟩:=r;exact⟨O',a,(Fm.refl s p).trans b⟩)
theorem RF.fM{m':List Nat}{f:nE}{h':Hs}{g:Fl}(hm:∀i∈m,i∈m')(r:RF A0 h0 m aa env h O f h' g):RF A0 h0 m' aa env h O f h' g:=by
 cases f<;>cases g<;>first|exact r.elim|exact r|(obtain⟨O',a,b⟩:=r;exact⟨O',a,b.fM hm⟩)
theorem RF.seq{kZ:aF}{fU:Env}{O1:Nat->Option Nat}{f:nE}{h':Hs}{g:Fl}(a:Fm m aa env h O kZ fU h1 O1)(r:RF A0 h0 m kZ fU h1 O1 f h' g):RF A0 h0 m aa env h O f h' g:=by
 cases f<;>cases g<;>first|exact r.elim|exact r|(obtain⟨O',b,c⟩:=r;exact⟨O',b,a.trans c⟩)
theorem aZ{α β γ δ:Type}{R:α -> Hs -> β -> Prop}{R':γ -> Hs -> δ -> Prop}{mm:M β}{f:β -> M δ}{p:Pr α}{F:α -> Pr γ}(s:SR A0 h0 aa env h O)(r:Rel (Al A0 O) h R (mm h) p)(k:∀a h1 b,h<+:h1->R a h1 b->gP A0 h0 R' (f b h1) (F a)):gP A0 h0 R' (bnd mm f h) (pb p F):=by
 unfold bnd
 cases p with
 | ok a=>obtain⟨b,h1,e,q,r⟩:=r;rw[e];exact k a h1 b q r
 | exc c es=>obtain⟨ws,h1,e,q,r⟩:=r;rw[e];exact⟨ws,h1,rfl,s.pre.trans q,r.fM fun _ z=>z.1⟩
 | no=>trivial
theorem bu{α β:Type}{R:α -> Hs -> β -> Prop}{a:α}{b:β}(r:R a h b):gP A0 h0 R (ret b h) (.ok a):=⟨b,h,rfl,r⟩
theorem iw{α β:Type}{R R':α -> Hs -> β -> Prop}{o:Out β}{p:Pr α}(r:gP A0 h0 R o p)(k:∀a h' b,R a h' b->R' a h' b):gP A0 h0 R' o p:=by
 cases p with
 | ok a=>obtain⟨b,h',e,r⟩:=r;exact⟨b,h',e,k a h' b r⟩
 | exc c es=>exact r
 | no=>trivial
theorem o5{α β γ δ:Type}{R:α -> Hs -> β -> Prop}{R':γ -> Hs -> δ -> Prop}{mm:M β}{f:β -> M δ}{p:Pr α}{F:α -> Pr γ}(r:gP A0 h0 R (mm h) p)(k:∀a h1 b,R a h1 b->gP A0 h0 R' (f b h1) (F a)):gP A0 h0 R' (bnd mm f h) (pb p F):=by
 unfold bnd
 cases p with
 | ok a=>obtain⟨b,h1,e,r⟩:=r;rw[e];exact k a h1 b r
 | exc c es=>obtain⟨ws,h1,e,q,r⟩:=r;rw[e];exact⟨ws,h1,rfl,q,r⟩
 | no=>trivial
theorem iN{α β:Type}{R:α -> Hs -> β -> Prop}{c:Bool}{o:Out β}{p:Pr α}(r:c=true->gP A0 h0 R o p):gP A0 h0 R o (pg c p):=by
 unfold pg
 cases c with
 | true=>rw[if_pos rfl];exact r rfl
 | false=>rw[if_neg Bool.false_ne_true];trivial
noncomputable def fQ(O:Nat->Option Nat)(i:Nat):Nat->Option Nat:=fun j=>if j=i then none else O j
theorem nG:Al A0 O none->Al A0 O none:=id
theorem jz{O':Nat->Option Nat}:Al A0 O none->Al A0 O' none:=fun h=>⟨h.1,fun _ z=>by cases z⟩
theorem iO{i:Nat}:∀k,Al A0 O k->Al A0 (fQ O i) k:=fun k ⟨a,b⟩=>⟨a,fun j z=>by unfold fQ;split;(cases k<;>simp_all);exact b j z⟩
theorem SR.setM(s:SR A0 h0 aa env h O){i:Nat}{mk:Mk}{d v:Val}(UZ:qO mk=true)(q:Dn (Al A0 O) h d v)(qn:KL mk=true->Dn (Al (Fr h0.length) O) h d v):SR A0 h0 (aa.set i (some (mk,d))) (env.set i (some v)) h (fQ O i)/\Fm [i] aa env h O (aa.set i (some (mk,d))) (env.set i (some v)) h (fQ O i):=by
 refine⟨⟨by simp[s.len],fun j m' d' e hm'=>?_,fun j d' e=>?_,fun j a e=>?_,fun j l a e1 e2=>?_,s.pre,s.up⟩,Nat.le_refl _,fun k hk n=>⟨rfl,fun j=>?_⟩,fun j hj=>?_⟩
 ·by_cases hij:i=j
  ·subst hij
   have hi:i<aa.length:=by have:=(List.getElem?_eq_some_iff.mp e).1;simpa using this
   rw[List.getElem?_set_self hi] at e
   cases e
   exact⟨v,by rw[List.getElem?_set_self (by rw[<-s.len];exact hi)],q.fM iO,fun z=>(qn z).fM iO⟩
  ·rw[List.getElem?_set_ne hij] at e
   rw[List.getElem?_set_ne hij]
   obtain⟨w,k1,k2,k3⟩:=s.sh j m' d' e hm'
   exact⟨w,k1,k2.fM iO,fun z=>(k3 z).fM iO⟩
 ·by_cases hij:i=j
  ·subst hij
   have hi:i<aa.length:=by have:=(List.getElem?_eq_some_iff.mp e).1;simpa using this
   rw[List.getElem?_set_self hi] at e
   cases e;cases UZ
  ·rw[List.getElem?_set_ne hij] at e
   rw[List.getElem?_set_ne hij]
   obtain⟨a,k2,k3,k4⟩:=s.ow j d' e
   exact⟨a,k2,by unfold fQ;rw[if_neg (fun z=>hij z.symm)];exact k3,k4.mono (fun _ g=>g) fun _ _ z=>z.fM iO⟩
 ·unfold fQ at e
  split at e
  ·cases e
  ·rename_i hj
   obtain⟨k1,k2,d',k3⟩:=s.own j a e
   exact⟨k1,k2,d',by rw[List.getElem?_set_ne (fun z=>hj z.symm)];exact k3⟩
 ·unfold fQ at e1 e2
  split at e1
  ·cases e1
  ·split at e2
   ·cases e2
   ·exact s.inj j l a e1 e2
 ·unfold fQ;split;simp;exact n j
 ·have hj':j≠i:=by simpa using hj
  exact⟨by unfold fQ;rw[if_neg hj'],List.getElem?_set_ne (fun z=>hj' z.symm),List.getElem?_set_ne (fun z=>hj' z.symm),fun _ _=>rfl⟩
theorem SR.set(s:SR A0 h0 aa env h O){i:Nat}{d v:Val}(q:Dn (Al A0 O) h d v):SR A0 h0 (aa.set i (some (.sh,d))) (env.set i (some v)) h (fQ O i)/\Fm [i] aa env h O (aa.set i (some (.sh,d))) (env.set i (some v)) h (fQ O i):=s.setM rfl q fun z=>nomatch z
theorem SR.binds:∀{is:List Nat} {ds vs:List Val} {aa:aF} {env:Env} {O:Nat->Option Nat} {aq:aF},SR A0 h0 aa env h O->bA is ds aa=some aq->aj (Al A0 O) h ds vs ->
  ∃env' O',bindAll is vs env=some env'/\SR A0 h0 aq env' h O'/\Fm is aa env h O aq env' h O'
 | [],[],vs,aa,env,O,aq,s,e,q=>by
  rw[aj] at q;subst q
  simp only[bA] at e;cases e
  exact⟨env,O,rfl,s,Fm.refl s (List.prefix_refl _)⟩
 | i::is,d::ds,vs,aa,env,O,aq,s,e,q=>by
  rw[aj] at q
  obtain⟨v,r,rfl,q1,q2⟩:=q
  simp only[bA] at e
  obtain⟨s1,f1⟩:=s.set (i:=i) q1
  obtain⟨env',O',b1,b2,b3⟩:=SR.binds s1 e (q2.fM iO)
  refine⟨env',O',by simp only[bindAll];exact b1,b2,(f1.fM fun j hj=>?_).trans (b3.fM fun j hj=>List.mem_cons_of_mem _ hj)⟩
  rw[List.mem_singleton.mp hj];exact List.mem_cons_self
 | [],_::_,_,_,_,_,_,_,e,_=>by simp[bA] at e
 | _::_,[],_,_,_,_,_,_,e,_=>by simp[bA] at e
theorem SR.bind(s:SR A0 h0 aa env h O){p:jV}{d v:Val}{aq:aF}(e:cG p d aa=some aq)(q:Dn (Al A0 O) h d v):∃env' O',fu p v env=some env'/\SR A0 h0 aq env' h O'/\Fm (stored p) aa env h O aq env' h O':=by
 cases p with
 | one i =>
  simp only[cG] at e;cases e
  obtain⟨s1,f1⟩:=s.set (i:=i) q
  exact⟨_,_,rfl,s1,f1⟩
 | tup is =>
  cases d<;>simp only[cG] at e<;>first|(cases e;done)|skip
  rw[Dn] at q
  obtain⟨vs,rfl,q⟩:=q
  exact s.binds e q
theorem ES{a:Nat}{o:Ob}(p:h0<+:h)(ha:h0.length<=a):h0<+:h.set a o:=by
 obtain⟨t,rfl⟩:=p
 rw[List.set_append_right _ _ ha]
 exact List.prefix_append _ _
theorem SR.put(s:SR A0 h0 aa env h O){i a:Nat}{d d1:Val}{ob:Ob}(e:aa[i]?=some (some (.ow,d)))(ha:O i=some a)(q:OB (Al A0 O) h d1 ob) :
  SR A0 h0 (aa.set i (some (.ow,d1))) env (h.set a ob) O/\Fm [i] aa env h O (aa.set i (some (.ow,d1))) env (h.set a ob) O:=by
 obtain⟨o1,o2,_⟩:=s.own i a ha
 have hi:i<aa.length:=(List.getElem?_eq_some_iff.mp e).1
 have mv:∀{A0:AP} (k:Nat) (o:Ob),Al A0 O k->h[k]?=some o->Al A0 O k/\(h.set a ob)[k]?=some o:=fun k o hk g=>⟨hk,by rw[List.getElem?_set_ne fun z=>hk.2 i rfl (by rw[<-z];exact ha)];exact g⟩
 obtain⟨a0,e2,e3,_⟩:=s.ow i d e
 refine⟨⟨by simp[s.len],fun j m' d' ej hm'=>?_,fun j d' ej=>?_,fun j b ej=>?_,s.inj,ES s.pre o1,s.up⟩,by simp,fun k hk n=>⟨?_,n⟩,fun j hj=>?_⟩
 ·by_cases hij:i=j
  ·subst hij;rw[List.getElem?_set_self hi] at ej;cases ej;cases hm'
  ·rw[List.getElem?_set_ne hij] at ej
   obtain⟨w,k1,k2,k3⟩:=s.sh j m' d' ej hm'
   exact⟨w,k1,Dn.move nG mv _ _ k2,fun z=>Dn.move nG mv _ _ (k3 z)⟩
 ·by_cases hij:i=j
  ·subst hij
   rw[List.getElem?_set_self hi] at ej;cases ej
   rw[ha] at e3;cases e3
   exact⟨a,e2,ha,q.od (by rw[List.getElem?_set_self o2]) fun _ _ z=>aj.move nG mv _ _ z⟩
  ·rw[List.getElem?_set_ne hij] at ej
   obtain⟨a1,k2,k3,k4⟩:=s.ow j d' ej
   have:a≠a1:=fun z=>hij (s.inj i j a ha (by rw[z];exact k3))
   exact⟨a1,k2,k3,k4.mono (fun _ g=>by rw[List.getElem?_set_ne this];exact g) fun _ _ z=>aj.move nG mv _ _ z⟩
 ·obtain⟨k1,k2,d',k3⟩:=s.own j b ej
  refine⟨k1,by simp[k2],?_⟩
  by_cases hij:i=j
  ·subst hij;exact⟨_,by rw[List.getElem?_set_self hi]⟩
  ·exact⟨d',by rw[List.getElem?_set_ne hij];exact k3⟩
 ·rw[List.getElem?_set_ne fun z=>n i (by rw[<-z];exact ha)]
 ·have hj':j≠i:=by simpa using hj
  exact⟨rfl,List.getElem?_set_ne (fun z=>hj' z.symm),rfl,fun b eb=>by rw[List.getElem?_set_ne fun z=>hj' (s.inj j i b eb (by rw[<-z];exact ha))]⟩
noncomputable def qc(O:Nat->Option Nat)(i a:Nat):Nat->Option Nat:=fun j=>if j=i then some a else O j
theorem SR.fresh(s:SR A0 h0 aa env h O){i:Nat}{d1:Val}{ob:Ob}{h2:Hs}(p:h<+:h2)(q:OB (Al A0 O) h2 d1 ob) :
  SR A0 h0 (aa.set i (some (.ow,d1))) (env.set i (some (.ref h2.length))) (h2++[ob]) (if i<aa.length then qc O i h2.length else fQ O i) /\
   Fm [i] aa env h O (aa.set i (some (.ow,d1))) (env.set i (some (.ref h2.length))) (h2++[ob]) (if i<aa.length then qc O i h2.length else fQ O i):=by
 have pp:h<+:h2++[ob]:=p.trans (List.prefix_append _ _)
 have s2:=s.ext p
 have mv:∀{A0:AP} (j:Nat),∀(k:Nat) (o:Ob),Al A0 O k->h2[k]?=some o->Al A0 (if i<aa.length then qc O i h2.length else fQ O i) k/\(h2++[ob])[k]?=some o:=fun {A0} j k o hk g=>by
  have hlt:k<h2.length:=(List.getElem?_eq_some_iff.mp g).1
  refine⟨?_,by rw[List.getElem?_append_left hlt];exact g⟩
  split
  ·refine⟨hk.1,fun l _=>?_⟩
   unfold qc
   split
   ·intro z;cases z;omega
   ·exact hk.2 l rfl
  ·exact iO k hk
 by_cases hi:i<aa.length
 ·rw[if_pos hi] at mv |-
  refine⟨⟨by simp[s.len],fun j m' d' ej hm'=>?_,fun j d' ej=>?_,fun j b ej=>?_,fun j l b e1 e2=>?_,s.pre.trans pp,s.up⟩,pp.length_le,fun k hk n=>⟨fF pp hk,fun l=>?_⟩,fun j hj=>?_⟩
  ·by_cases hij:i=j
   ·subst hij;rw[List.getElem?_set_self hi] at ej;cases ej;cases hm'
   ·rw[List.getElem?_set_ne hij] at ej
    rw[List.getElem?_set_ne hij]
    obtain⟨w,k1,k2,k3⟩:=s2.sh j m' d' ej hm'
    exact⟨w,k1,Dn.move jz (mv 0) _ _ k2,fun z=>Dn.move jz (mv 0) _ _ (k3 z)⟩
  ·by_cases hij:i=j
   ·subst hij
    rw[List.getElem?_set_self hi] at ej;cases ej
    exact⟨h2.length,by rw[List.getElem?_set_self (by rw[<-s.len];exact hi)],by unfold qc;rw[if_pos rfl],q.od (by simp) fun _ _ z=>aj.move jz (mv 0) _ _ z⟩
   ·rw[List.getElem?_set_ne hij] at ej
    rw[List.getElem?_set_ne hij]
    obtain⟨a1,k2,k3,k4⟩:=s2.ow j d' ej
    have hlt:a1<h2.length:=k4.lt
    exact⟨a1,k2,by unfold qc;rw[if_neg fun z=>hij z.symm];exact k3,k4.mono (fun _ g=>by rw[List.getElem?_append_left hlt];exact g) fun _ _ z=>aj.move jz (mv 0) _ _ z⟩
  ·unfold qc at ej
   split at ej
   ·rename_i hj;cases ej;subst hj
    exact⟨Nat.le_trans s.pre.length_le p.length_le,by simp,_,by rw[List.getElem?_set_self hi]⟩
   ·rename_i hj
    obtain⟨k1,k2,d',k3⟩:=s2.own j b ej
    exact⟨k1,by simp;omega,d',by rw[List.getElem?_set_ne fun z=>hj z.symm];exact k3⟩
  ·unfold qc at e1 e2
   split at e1
   ·rename_i h1;cases e1
    split at e2
    ·rename_i h3;rw[h1,h3]
    ·have:=(s2.own l _ e2).2.1;omega
   ·split at e2
    ·cases e2;have:=(s2.own j _ e1).2.1;omega
    ·exact s.inj j l b e1 e2
  ·unfold qc;split
   ·intro z;cases z;have:=p.length_le;omega
   ·exact n l
  ·have hj':j≠i:=by simpa using hj
   exact⟨by unfold qc;rw[if_neg hj'],List.getElem?_set_ne (fun z=>hj' z.symm),List.getElem?_set_ne (fun z=>hj' z.symm),fun b eb=>fF pp (s.own j b eb).2.1⟩
 ·rw[if_neg hi] at mv |-
  have e1:aa.set i (some (.ow,d1))=aa:=List.set_eq_of_length_le (by omega)
  have e2:env.set i (some (.ref h2.length))=env:=List.set_eq_of_length_le (by rw[<-s.len];omega)
  have e3:fQ O i=O:=by
   funext j;unfold fQ;split
   ·rename_i hj;subst hj
    cases e:O j with
    | none=>rfl
    | some a=>obtain⟨_,_,d,k⟩:=s.own j a e;exact absurd (List.getElem?_eq_some_iff.mp k).1 hi
   ·rfl
  rw[e1,e2,e3]
  exact⟨s.ext pp,Fm.refl s pp⟩
end
end Hv
end
section
namespace Hv
open PySem L2
section
variable {Φ:Nat->List Val->M Val} {Ψ:Nat->List Val->Pr FV} {A:AP} {h h1:Hs}
noncomputable def isRef:Val->Bool
 | .rl _=>true
 | .dc _ _=>true
 | _=>false
noncomputable def RN(A:AP)(h:Hs):FV->Hs->Val->Prop:=fun x h' v=>isRef x.2=true->∃h2 o,h'=h2++[o]/\v=.ref h2.length/\h<+:h2/\OB A h2 x.2 o
noncomputable def Ge(Φ:Nat->List Val->M Val)(Ψ:Nat->List Val->Pr FV)(ir:IE):Prop:=∀(aa:aF) (env:Env) (A:AP) (h:Hs),Up A h->ER A aa env h->Rel A h (RN A h) (aG Φ ir env h) (aX Ψ ir aa)
theorem jA{xs vs:List Val}{f:Bool}{h0:Hs}(p:h0<+:h)(q:aj A h xs vs):Rel A h (RN A h0) (new (.lst vs) h) (.ok (f,.rl xs)) :=
 ⟨_,_,rfl,cY _,fun _=>⟨h,.lst vs,rfl,rfl,p,vs,rfl,q⟩⟩
theorem JE:Ge Φ Ψ .dct0:=fun aa env A h u e=>by
 rw[aG,aX]
 exact⟨_,_,rfl,cY _,fun _=>⟨h,.dct [],rfl,rfl,List.prefix_refl _,[],rfl,rfl,aj.nil⟩⟩
theorem JF{k v:IE}(hk:bH Φ Ψ k)(hv:bH Φ Ψ v):Ge Φ Ψ (.dct1 k v):=fun aa env A h u e=>by
 rw[aG,aX]
 refine af (hk aa env A h u e) fun x h1 w p1 q1=>af (R:=fun kk _ kk'=>kk'=kk) (bh fun kk ek=>⟨kk,wm q1.1 ek,rfl⟩) fun kk h2 kk' p2 hkk=>?_
 subst hkk
 refine af (hv aa env A h2 ((u.ext p1).ext p2) ((e.ext p1).ext p2)) fun y h3 z p3 q3=>?_
 exact⟨_,_,rfl,cY _,fun _=>⟨h3,.dct [(kk',z)],rfl,rfl,(p1.trans p2).trans p3,[(kk',z)],rfl,rfl,aj.cons q3.1 aj.nil⟩⟩
theorem MR{es:eO}(hs:jX Φ Ψ es):Ge Φ Ψ (.lst es):=fun aa env A h u e=>by
 rw[aG,aX]
 exact af (hs.1 aa env A h u e) fun x h1 vs p1 q1=>bG (fun z=>by rw[<-q1.1.length];exact z) fun _=>jA p1 q1.1
theorem MS{a lo hi:IE}(ha:bH Φ Ψ a)(hl:bH Φ Ψ lo)(hh:bH Φ Ψ hi):Ge Φ Ψ (.slc a lo hi):=fun aa env A h u e=>by
 rw[aG,aX]
 refine af (jw ha u e) fun x h1 v p1 q1=>af (jy hl (u.ext p1) (e.ext p1)) fun l h2 l' p2 el=>af (jy hh ((u.ext p1).ext p2) ((e.ext p1).ext p2)) fun r h3 r' p3 er=>?_
 subst el;subst er
 have q1:=DB.ext (p2.trans p3) q1
 obtain⟨f,d⟩:=x
 cases d with
 | tup ds =>
  obtain⟨vs,rfl,q⟩:=DB.tup q1
  have l:=q.length
  simp only[zE,qa]
  exact bG (fun z=>by rw[l] at z;exact z) fun _=>az fun e=>by cases e
 | rl ds =>
  obtain⟨vs,e1,q⟩:=DB.lst q1
  have ev:qa v l' r' h3=new (.lst (cW vs l' r')) h3:=by
   have:qa v l' r'=bnd (ask fun h=>aB h v) fun xs=>new (.lst (cW xs l' r')):=by
    cases v<;>simp only[aB] at e1<;>first|(cases e1;done)|rfl
   rw[this];unfold bnd ask bw;dsimp only;rw[e1]
  rw[ev]
  exact jA ((p1.trans p2).trans p3) (q.cut l' r')
 | _=>trivial
theorem JG{es:eO}(hs:jX Φ Ψ es):Ge Φ Ψ (.blt .list es):=fun aa env A h u e=>by
 rw[aG,aX]
 refine af (hs.2 aa env A h u e) fun ds h1 vs p1 q1=>?_
 match ds,q1 with
 | [],q1=>trivial
 | [d],q1 =>
  obtain⟨v,rfl,hv⟩:=q1.one
  exact af (R:=fun xs h' ws=>aj A h' xs ws) (bM fun xs e=>hv.seq e) fun xs h2 ws p2 q=>jA (p1.trans p2) q
 | _::_::_,_=>trivial
theorem BJ{es:eO}(hs:jX Φ Ψ es):Ge Φ Ψ (.blt .sorted es):=fun aa env A h u e=>by
 rw[aG,aX]
 refine af (hs.2 aa env A h u e) fun ds h1 vs p1 q1=>?_
 match ds,q1 with
 | [],q1=>trivial
 | [d],q1 =>
  obtain⟨v,rfl,hv⟩:=q1.one
  cases d<;>first|trivial|skip
  rename_i xs
  obtain⟨ws,e1,q⟩:=hv.lst
  have ev:bnd (ask fun h=>aB h v) (fun xs=>bnd (bw (fq xs)) fun ys=>new (.lst ys)) h1=bnd (bw (fq ws)) (fun ys=>new (.lst ys)) h1:=by
   unfold bnd ask bw;dsimp only;rw[e1]
  show Rel A h1 (RN A h) (bnd (ask fun h=>aB h v) (fun xs=>bnd (bw (fq xs)) fun ys=>new (.lst ys)) h1) _
  rw[ev]
  refine af (R:=fun ys _ zs=>zs=ys/\bz ys=true) (bh fun ys e=>?_) fun ys h2 zs p2 hz=>?_
  ·obtain⟨i1,i2⟩:=qP e
   rw[(aN xs ws i1).mp q]
   exact⟨ys,e,rfl,i2⟩
  ·obtain⟨rfl,hi⟩:=hz
   exact jA (p1.trans p2) ((aN _ _ hi).mpr rfl)
 | x::_::_,_=>cases x<;>trivial
theorem JH{N:List Str}{js:List (Option Nat)}{pat:jV}{k:Ik}{it:eO}{c elt:IE}(hs:jX Φ Ψ it)(hc:bH Φ Ψ c)(he:bH Φ Ψ elt):Ge Φ Ψ (.comp N js pat k it c elt):=fun aa env A h u e=>by
 rw[aG,aX]
 refine af (hs.2 aa env A h u e) fun ds h1 vs p1 q1=>af (xY q1) fun xs h2 src p2 q2=>?_
 obtain⟨ws,q3,q4⟩:=q2
 have l:=q3.length
 have ev:∀(F:List Val->M Val),bnd (ask fun h=>src.items h) F h2=F ws h2:=fun F=>by unfold bnd ask bw;dsimp only;rw[q4 h2 (List.prefix_refl _)]
 rw[ev]
 refine bG (fun z=>by rw[<-l];exact z) fun _=>?_
 have u2:=(u.ext p1).ext p2
 have e2:=(e.ext p1).ext p2
 refine af (o4 (hb:=h) xs ws 0 [] h2 (p1.trans p2) u2 q4 rfl q3 fun x v h' p' qx=>?_) fun p h3 ys p3 hp=>?_
 ·refine af (R:=fun aq _ env'=>∃_:ER A aq env' h',True) (bh fun aq ev'=>?_) fun aq h4 env' p4 he'=>?_
  ·obtain⟨env',a1,a2⟩:=uD ev' qx (x6 (e2.ext p')) (by simp[j5,jl])
   exact⟨env',a1,a2,trivial⟩
  ·obtain⟨er,_⟩:=he'
   have er:=er.ext p4
   have u4:=(u2.ext p').ext p4
   have Mm:Rel A h4 (fun t _ t'=>t'=t) ((if cH c=true then ret true else bnd (aG Φ c env') fun v=>ask fun h=>dj h v) h4) (if cH c=true then .ok true else pb (aX Ψ c aq) fun v=>pl (dj [] v.2)):=by
    by_cases hn:cH c=true
    ·rw[if_pos hn,if_pos hn];exact az rfl
    ·rw[if_neg hn,if_neg hn]
     exact af (hc aq env' A h4 u4 er) fun y h5 w p5 q5=>bM fun t et=>⟨t,su q5.br et,rfl⟩
   refine af Mm fun t h5 t' p5 et=>?_
   subst et
   cases t' with
   | true =>
    rw[if_pos rfl,if_pos rfl]
    exact af (he aq env' A h5 (u4.ext p5) (er.ext p5)) fun y h6 w p6 q6=>az (q6.up ((p1.trans p2).trans (p'.trans (p4.trans p5))))
   | false =>
    rw[if_neg Bool.false_ne_true,if_neg Bool.false_ne_true]
    exact az trivial
 ·obtain⟨zs,rfl,z1,z2⟩:=hp
  exact jA ((p1.trans p2).trans p3) z1
theorem MT(hΦ:∀j,Imp (Φ j) (Ψ j)){e:IE}(hf:P9 e=true)(ho:bC e=true):Ge Φ Ψ e:=by
 have V:=v_all hΦ
 cases e<;>first|(cases hf;done)|skip
 ·rw[bC] at ho;exact MR (V.2 _ ho)
 ·rw[bC,Bool.and_eq_true,Bool.and_eq_true] at ho;exact MS (V.1 _ ho.1.1) (V.1 _ ho.1.2) (V.1 _ ho.2)
 ·rename_i b es
  rw[bC] at ho
  cases b<;>first|(cases hf;done)|skip
  ·exact BJ (V.2 _ ho)
  ·exact JG (V.2 _ ho)
 ·rw[bC,Bool.and_eq_true,Bool.and_eq_true] at ho;exact JH (V.2 _ ho.1.1) (V.1 _ ho.1.2) (V.1 _ ho.2)
 ·exact JE
 ·rw[bC,Bool.and_eq_true] at ho;exact JF (V.1 _ ho.1) (V.1 _ ho.2)
mutual
noncomputable def uE:IS->Bool
 | .expr e=>bC e
 | .asg _ e=>bC e
 | .aug _ _ e=>bC e
 | .di o i v=>bC o&&bC i&&bC v
 | .iff c a b=>bC c&&mj a&&mj b
 | .for _ _ it b=>gq it&&mj b
 | .whl _ c b=>bC c&&mj b
 | .ret e=>bC e
 | _=>true
noncomputable def mj:cU->Bool
 | .nil=>true
 | .cons s r=>uE s&&mj r
end
noncomputable def mS(s:IS):List Nat:=qb s++l0 s
noncomputable def ET(s:cU):List Nat:=ic s++j6 s
variable {ms:List Nat}
noncomputable def x8(Φ:Nat->List Val->M Val)(Ψ:Nat->List Val->Pr FV)(ms:List Nat)(s:IS):Prop:=∀(A0:AP) (h0:Hs) (aa:aF) (env:Env) (h:Hs) (O:Nat->Option Nat),SR A0 h0 aa env h O->gP A0 h0 (RF A0 h0 (mS s) aa env h O) (dZ Φ s env h) (cS Ψ ms s aa)
noncomputable def sD(Φ:Nat->List Val->M Val)(Ψ:Nat->List Val->Pr FV)(ms:List Nat)(s:cU):Prop:=∀(A0:AP) (h0:Hs) (aa:aF) (env:Env) (h:Hs) (O:Nat->Option Nat),SR A0 h0 aa env h O->gP A0 h0 (RF A0 h0 (ET s) aa env h O) (dm Φ s env h) (j7 Ψ ms s aa)
theorem BK{e:IE}(he:bH Φ Ψ e)(hx:∀aa,cS Ψ ms (.expr e) aa=pb (aX Ψ e aa) fun _=>.ok (.nx aa)):x8 Φ Ψ ms (.expr e):=fun A0 h0 aa env h O s=>by
 rw[dZ,hx]
 exact aZ s (he aa env _ h s.wo s.er) fun x h1 v p1 q1=>bu ⟨O,s.ext p1,Fm.refl s p1⟩
theorem bf{α β γ:Type}(m:M α)(f:α -> M β)(g:β -> M γ):bnd (bnd m f) g=bnd m fun x=>bnd (f x) g:=by
 funext h
 show (match (match m h with|.ok a h'=>f a h'|.exc c vs h'=>.exc c vs h'|.no=>.no) with|.ok a h'=>g a h'|.exc c vs h'=>.exc c vs h'|.no=>.no)=(match m h with|.ok a h'=>bnd (f a) g h'|.exc c vs h'=>.exc c vs h'|.no=>.no)
 cases m h<;>rfl
theorem ao{α β:Type}{m:M α}{f:α -> M β}{a:α}{h h1:Hs}(e:m h=.ok a h1):bnd m f h=f a h1:=by unfold bnd;rw[e]
theorem bK{i:Nat}{v:Val}{env:Env}(e:env[i]?=some (some v)):aG Φ (.var i) env h=.ok v h:=by rw[aG,e];rfl
theorem zF{i:Nat}{a:IE}(ha:bH Φ Ψ a):x8 Φ Ψ ms (.expr (.met .append (.var i) (.cons a .nil))):=fun A0 h0 aa env h O s=>by
 rw[dZ,cS];try dsimp only
 split
 ·rename_i ds hv
  obtain⟨b,e2,e3,vs,e4,e5⟩:=s.ow i _ hv
  have ev:bnd (aG Φ (.met .append (.var i) (.cons a .nil)) env) (fun _=>ret (Fl.nx env)) h=bnd (aG Φ a env) (fun v=>bnd (met .append (.ref b) [v]) fun _=>ret (Fl.nx env)) h:=by
   rw[aG,bf,ao (bK e2)]
   rw[bf,ao (a:=()) (h1:=h) (by unfold ask bw;simp[recv,e4])]
   rw[bf,aR,bf]
   congr 1
  rw[ev]
  refine aZ s (ha aa env _ h s.wo s.er) fun x h1 v p1 q1=>iN fun hg=>?_
  have s1:=s.ext p1
  obtain⟨s2,f2⟩:=s1.put (d1:=.rl (ds++[x.2])) (ob:=.lst (vs++[v])) hv e3 ⟨_,rfl,(e5.ext p1).append (aj.cons q1.1 aj.nil)⟩
  have l:=e5.length
  refine⟨.nx env,h1.set b (.lst (vs++[v])),?_,O,s2,(Fm.refl s p1).trans (f2.fM fun j hj=>?_)⟩
  ·have g:=bO p1 e4
   unfold met bnd ask bw aD put ret
   dsimp only
   rw[g];dsimp only
   rw[if_pos (by rw[<-l];exact hg)]
  ·rw[List.mem_singleton.mp hj];exact List.mem_append_left _ List.mem_cons_self
 ·trivial
theorem zG{i:Nat}{a:IE}(ha:bH Φ Ψ a):x8 Φ Ψ ms (.expr (.met .extend (.var i) (.cons a .nil))):=fun A0 h0 aa env h O s=>by
 rw[dZ,cS];try dsimp only
 split
 ·rename_i ds hv
  obtain⟨b,e2,e3,vs,e4,e5⟩:=s.ow i _ hv
  have ev:bnd (aG Φ (.met .extend (.var i) (.cons a .nil)) env) (fun _=>ret (Fl.nx env)) h=bnd (aG Φ a env) (fun v=>bnd (met .extend (.ref b) [v]) fun _=>ret (Fl.nx env)) h:=by
   rw[aG,bf,ao (bK e2)]
   rw[bf,ao (a:=()) (h1:=h) (by unfold ask bw;simp[recv,e4])]
   rw[bf,aR,bf]
   congr 1
  rw[ev]
  refine aZ s (ha aa env _ h s.wo s.er) fun x h1 v p1 q1=>?_
  obtain⟨f,d⟩:=x
  cases d<;>first|trivial|skip
  rename_i ts
  have q:=q1.1
  dsimp only at q
  rw[Dn] at q
  obtain⟨ws,rfl,q⟩:=q
  refine iN fun hg=>?_
  have s1:=s.ext p1
  obtain⟨s2,f2⟩:=s1.put (d1:=.rl (ds++ts)) (ob:=.lst (vs++ws)) hv e3 ⟨_,rfl,(e5.ext p1).append q⟩
  have l:=e5.length
  have l2:=q.length
  refine⟨.nx env,h1.set b (.lst (vs++ws)),?_,O,s2,(Fm.refl s p1).trans (f2.fM fun j hj=>?_)⟩
  ·have g:=bO p1 e4
   unfold met bnd ask bw aD put ret t7
   dsimp only
   rw[g];dsimp only
   rw[if_pos (by rw[<-l,<-l2];exact hg)]
  ·rw[List.mem_singleton.mp hj];exact List.mem_append_left _ List.mem_cons_self
 ·trivial
theorem EU{e:IE}(hΦ:∀j,Imp (Φ j) (Ψ j))(ho:bC e=true):x8 Φ Ψ ms (.expr e):=by
 have V:=v_all hΦ
 have gen:(∀aa,cS Ψ ms (.expr e) aa=pb (aX Ψ e aa) fun _=>.ok (.nx aa))->x8 Φ Ψ ms (.expr e):=fun hx=>BK (V.1 e ho) hx
 cases e with
 | met m a es =>
  cases m with
  | join=>exact gen fun aa=>by rw[cS]<;>(intros;simp_all)
  | append =>
   cases a with
   | var i =>
    cases es with
    | nil=>exact gen fun aa=>by rw[cS]<;>(intros;simp_all)
    | cons x r =>
     cases r with
     | nil=>rw[bC,gq,gq,Bool.and_eq_true,Bool.and_eq_true] at ho;exact zF (V.1 x ho.2.1)
     | cons _ _=>exact gen fun aa=>by rw[cS]<;>(intros;simp_all)
   | _=>exact gen fun aa=>by rw[cS]<;>(intros;simp_all)
  | extend =>
   cases a with
   | var i =>
    cases es with
    | nil=>exact gen fun aa=>by rw[cS]<;>(intros;simp_all)
    | cons x r =>
     cases r with
     | nil=>rw[bC,gq,gq,Bool.and_eq_true,Bool.and_eq_true] at ho;exact zG (V.1 x ho.2.1)
     | cons _ _=>exact gen fun aa=>by rw[cS]<;>(intros;simp_all)
   | _=>exact gen fun aa=>by rw[cS]<;>(intros;simp_all)
 | _=>exact gen fun aa=>by rw[cS]<;>(intros;simp_all)
end
end Hv
end
section
namespace Hv
open PySem L2
section
variable {Φ:Nat->List Val->M Val} {Ψ:Nat->List Val->Pr FV} {ms:List Nat}
theorem zH{i:Nat}{l:List Nat}(h:i∈l):∀j∈[i],j∈l:=fun j hj=>by rw[List.mem_singleton.mp hj];exact h
theorem JI{p:jV}{e:IE}(hΦ:∀j,Imp (Φ j) (Ψ j))(ho:bC e=true):x8 Φ Ψ ms (.asg p e):=fun A0 h0 aa env h O s=>by
 have V:=(v_all hΦ).1 e ho
 cases p with
 | one i =>
  rw[dZ,cS];try dsimp only
  split
  ·refine iN fun hf=>?_
   refine aZ s (MT hΦ hf ho aa env _ h s.wo s.er) fun x h1 v p1 q1=>?_
   obtain⟨f,d⟩:=x
   cases d<;>first|trivial|skip
   ·obtain⟨h2,vs,rfl,rfl,p2,q2⟩:=q1 rfl
    obtain⟨s2,f2⟩:=s.fresh (i:=i) p2 q2
    exact⟨_,_,rfl,_,s2,f2.fM (zH (by simp[mS,l0,stored]))⟩
   ·obtain⟨h2,vs,rfl,rfl,p2,q2⟩:=q1 rfl
    obtain⟨s2,f2⟩:=s.fresh (i:=i) p2 q2
    exact⟨_,_,rfl,_,s2,f2.fM (zH (by simp[mS,l0,stored]))⟩
  ·refine aZ s (V aa env _ h s.wo s.er) fun x h1 v p1 q1=>?_
   have hnw:KL (kU x.1 x.2)=true->Dn (Al (Fr h0.length) O) h1 x.2 v:=fun z=>by
    have hx:x.1=true:=by
     unfold kU at z
     split at z
     ·rename_i hh;simp only[Bool.and_eq_true] at hh;exact hh.1
     ·cases z
    refine(q1.2 hx).fM fun o ho=>?_
    cases o with
    | none=>exact ho.elim
    | some k=>exact⟨Nat.le_trans s.pre.length_le ho,fun j _ e=>by have:=(s.own j k e).2.1;have ho':h.length<=k:=ho;omega⟩
   have hrd:qO (kU x.1 x.2)=true:=by unfold kU;split<;>rfl
   obtain⟨s2,f2⟩:=(s.ext p1).setM (i:=i) hrd q1.1 hnw
   exact⟨_,_,rfl,_,s2,(Fm.refl s p1).trans (f2.fM (zH (by simp[mS,l0,stored])))⟩
 | tup is =>
  rw[dZ,cS];try dsimp only
  refine iN fun hf=>aZ s (V aa env _ h s.wo s.er) fun x h1 v p1 q1=>?_
  have s1:=s.ext p1
  refine aZ s1 (R:=fun aq h' env'=>∃O',SR A0 h0 aq env' h' O'/\Fm (stored (.tup is)) aa env h1 O aq env' h' O') (bh fun aq ev=>?_) fun aq h2 env' p2 hh=>?_
  ·obtain⟨env',O',b1,b2,b3⟩:=s1.bind ev q1.1
   exact⟨env',b1,O',b2,b3⟩
  ·obtain⟨O',b2,b3⟩:=hh
   exact bu ⟨O',b2,(Fm.refl s p1).trans (b3.fM fun j hj=>by simp only[mS,l0];exact List.mem_append_right _ hj)⟩
theorem JJ{i:Nat}{o:rR}{e:IE}(hΦ:∀j,Imp (Φ j) (Ψ j))(ho:bC e=true):x8 Φ Ψ ms (.aug i o e):=fun A0 h0 aa env h O s=>by
 have V:=(v_all hΦ).1 e ho
 rw[dZ,cS]
 refine iN fun hf=>aZ s (R:=fun x _ y=>y=x) (bh fun x hx=>?_) fun x h1 y p1 U0=>?_
 ·split at hx<;>cases hx
  rename_i f hv
  have:=s.er i f _ hv
  revert this
  generalize qO f=t
  intro this
  cases t with
  | false=>rw[if_pos rfl] at this;obtain⟨_,_,k⟩:=this;exact False.elim k
  | true =>
   rw[if_neg (by decide)] at this
   obtain⟨v,k1,k2⟩:=this
   rw[Dn] at k2;subst k2
   exact⟨x,by rw[k1],rfl⟩
 ·subst U0
  have s1:=s.ext p1
  refine aZ s1 (V aa env _ h1 s1.wo s1.er) fun z h2 v p2 q2=>?_
  have s2:=s1.ext p2
  refine aZ s2 (R:=fun x _ y=>y=x) (bh fun n en=>?_) fun n h3 n' p3 U3=>?_
  ·obtain⟨f,d⟩:=z
   have q:=q2.1
   cases d<;>first|(cases en;done)|skip
   dsimp only at q
   rw[Dn] at q;subst q
   exact⟨n,en,rfl⟩
  ·subst U3
   have s3:=s2.ext p3
   refine aZ s3 (xU (h0:=h3) s3.wo (List.prefix_refl _) (.inl (by rw[Dn])) (.inl (by rw[Dn]))) fun w h4 w' p4 q4=>?_
   obtain⟨s5,f5⟩:=(s3.ext p4).set (i:=i) q4.1
   exact bu ⟨_,s5,(Fm.refl s (((p1.trans p2).trans p3).trans p4)).trans (f5.fM (zH (by simp[mS,l0])))⟩
theorem x9(k:Key)(l:List (Key×Val)):(l.any fun kv=>decide (kv.1=k))=((l.map (·.1)).any fun x=>decide (x=k)):=by
 rw[List.any_map];rfl
theorem ya{A:AP}{h:Hs}{k:Key}{d v:Val}(e:Dn A h d v):∀{kvs:List (Key×Val)} {ds:List Val},aj A h ds (kvs.map (·.2)) ->
  aj A h ((((kvs.map (·.1)).zip ds).map fun kv=>if kv.1=k then (kv.1,d) else kv).map (·.2)) ((kvs.map fun kv=>if kv.1=k then (kv.1,v) else kv).map (·.2))
 | [],ds,q=>by simp only[List.map_nil,List.zip_nil_left];exact aj.nil
 | (k',v')::kvs,ds,q=>by
  have l:=q.length
  cases ds with
  | nil=>simp at l
  | cons d' ds =>
   simp only[List.map_cons] at q
   rw[aj] at q
   obtain⟨v1,r,e1,q1,q2⟩:=q
   cases e1
   simp only[List.map_cons,List.zip_cons_cons]
   refine aj.cons ?_ (ya e q2)
   by_cases hk:k'=k
   ·rw[if_pos hk,if_pos hk];exact e
   ·rw[if_neg hk,if_neg hk];exact q1
theorem mT(k:Key)(d:Val)(l:List (Key×Val)):(l.map fun kv=>if kv.1=k then (kv.1,d) else kv).map (·.1)=l.map (·.1):=by
 rw[List.map_map]
 refine List.map_congr_left fun x _=>?_
 show (if x.1=k then (x.1,d) else x).1=x.1
 split<;>rfl
theorem EW{A:AP}{h:Hs}{k:Key}{d v:Val}{kvs:List (Key×Val)}{ks:List Key}{ds:List Val}(hk:kvs.map (·.1)=ks)(q:aj A h ds (kvs.map (·.2)))(e:Dn A h d v) :
  (f7 kvs k v).map (·.1)=(f7 (ks.zip ds) k d).map (·.1)/\aj A h ((f7 (ks.zip ds) k d).map (·.2)) ((f7 kvs k v).map (·.2)):=by
 subst hk
 have l:=q.length
 rw[List.length_map] at l
 have z1:((kvs.map (·.1)).zip ds).map (·.1)=kvs.map (·.1):=List.map_fst_zip (by rw[List.length_map];omega)
 have z2:((kvs.map (·.1)).zip ds).map (·.2)=ds:=List.map_snd_zip (by rw[List.length_map];omega)
 unfold f7
 rw[x9,x9,z1]
 split
 ·rw[mT,mT,z1]
  exact⟨rfl,ya e q⟩
 ·rw[List.map_append,List.map_append,List.map_append,List.map_append,z1,z2]
  exact⟨rfl,q.append (aj.cons e aj.nil)⟩
theorem EY{o i v:IE}(hΦ:∀j,Imp (Φ j) (Ψ j))(ho:bC o=true)(hi:bC i=true)(hv:bC v=true):x8 Φ Ψ ms (.di o i v):=fun A0 h0 aa env h O s=>by
 have V:=(v_all hΦ).1
 cases o with
 | var j =>
  rw[dZ,cS]
  refine aZ s (V v hv aa env _ h s.wo s.er) fun x h1 w p1 q1=>?_
  have s1:=s.ext p1
  split
  ·rename_i ds hj
   obtain⟨b,e2,e3,vs,e4,e5⟩:=s1.ow j _ hj
   rw[ao (bK e2)]
   refine aZ s1 (V i hi aa env _ h1 s1.wo s1.er) fun z h2 u p2 q2=>?_
   have s2:=s1.ext p2
   obtain⟨f,d⟩:=z
   have q:=q2.1
   cases d<;>first|trivial|skip
   dsimp only at q
   rw[Dn] at q;subst q
   rename_i kk
   have g:=bO p2 e4
   have l:=e5.length
   show gP A0 h0 _ _ (pb (pl (rD ds.length kk)) _)
   cases hn:rD ds.length kk with
   | none=>trivial
   | some n =>
    obtain⟨s3,f3⟩:=s2.put (d1:=.rl (ds.set n x.2)) (ob:=.lst (vs.set n w)) hj e3 ⟨_,rfl,(e5.ext p2).set n (q1.1.ext p2)⟩
    refine⟨.nx env,h2.set b (.lst (vs.set n w)),?_,O,s3,(Fm.refl s (p1.trans p2)).trans (f3.fM (zH (by simp[mS,qb])))⟩
    rw[l] at hn
    simp only[mP]
    unfold bnd ask bw put ret
    dsimp only
    rw[g];dsimp only
    rw[hn]
  ·rename_i ks ds hj
   obtain⟨b,e2,e3,kvs,e4,ek,e5⟩:=s1.ow j _ hj
   rw[ao (bK e2)]
   refine aZ s1 (V i hi aa env _ h1 s1.wo s1.er) fun z h2 u p2 q2=>?_
   have s2:=s1.ext p2
   obtain⟨f,d⟩:=z
   have q:=q2.1
   dsimp only at q
   show gP A0 h0 _ _ (pb (pl (keyOf d)) _)
   cases hk:keyOf d with
   | none=>trivial
   | some kk =>
    have hu:keyOf u=some kk:=by
     cases d<;>simp only[keyOf] at hk<;>first|(cases hk;done)|skip
     all_goals (rw[Dn] at q;subst q;exact hk)
    show gP A0 h0 _ _ (pg _ _)
    refine iN fun hl=>?_
    have g:=bO p2 e4
    obtain⟨k1,k2⟩:=EW (k:=kk) ek (e5.ext p2) (q1.1.ext p2)
    obtain⟨s3,f3⟩:=s2.put (d1:=putD ks ds kk x.2) (ob:=.dct (f7 kvs kk w)) hj e3 ⟨_,rfl,k1,k2⟩
    refine⟨.nx env,h2.set b (.dct (f7 kvs kk w)),?_,O,s3,(Fm.refl s (p1.trans p2)).trans (f3.fM (zH (by simp[mS,qb])))⟩
    have hl':decide (kvs.length<sizeLine)=true:=by rw[<-ek,List.length_map] at hl;exact hl
    simp only[mP]
    unfold bnd ask bw put ret aD
    dsimp only
    rw[g];dsimp only
    rw[hu];dsimp only
    rw[if_pos hl']
  ·trivial
 | _=>rw[cS]<;>first|trivial|(intros;simp_all)
theorem JK{c:IE}{a b:cU}(hΦ:∀j,Imp (Φ j) (Ψ j))(hc:bC c=true)(ha:sD Φ Ψ ms a)(hb:sD Φ Ψ ms b):x8 Φ Ψ ms (.iff c a b):=fun A0 h0 aa env h O s=>by
 have V:=(v_all hΦ).1 c hc
 rw[dZ,cS]
 refine aZ s (jw V s.wo s.er) fun x h1 v p1 q1=>?_
 have s1:=s.ext p1
 refine aZ s1 (R:=fun t _ t'=>t'=t) (bM fun t et=>⟨t,su q1 et,rfl⟩) fun t h2 t' p2 et=>?_
 subst et
 have s2:=s1.ext p2
 cases t' with
 | true =>
  rw[if_pos rfl,if_pos rfl]
  refine iw (ha A0 h0 aa env h2 O s2) fun f h' g r=>(r.pre s (p1.trans p2)).fM fun i hi=>?_
  simp only[ET,mS,qb,l0,List.mem_append] at hi |-
  rcases hi with z|z
  ·exact .inl (.inl z)
  ·exact .inr (.inl z)
 | false =>
  rw[if_neg Bool.false_ne_true,if_neg Bool.false_ne_true]
  refine iw (hb A0 h0 aa env h2 O s2) fun f h' g r=>(r.pre s (p1.trans p2)).fM fun i hi=>?_
  simp only[ET,mS,qb,l0,List.mem_append] at hi |-
  rcases hi with z|z
  ·exact .inl (.inr z)
  ·exact .inr (.inr z)
noncomputable def wu(h:Hs)(O:Nat->Option Nat)(m:List Nat)(src:Src)(ws:List Val):Prop :=
 ∀h':Hs,(∀k,k<h.length->(∀i,O i≠some k)->h'[k]?=h[k]?)->(∀i,i∉m->∀a,O i=some a->h'[a]?=h[a]?)->src.items h'=some ws
theorem cj{h:Hs}{i:Nat}{ws:List Val}(e:h[i]?=some (.lst ws)):(Src.live i).items h=some ws:=by simp[Src.items,aB,e]
theorem e9{h:Hs}{i:Nat}{ws:List Val}(e:h[i]?=some (.lst ws)):(Src.enum i).items h=some (cF 0 ws):=by simp[Src.items,aB,e]
theorem uF{A0:AP}{h0:Hs}{m:List Nat}{src:Src}{ws:List Val}{body:Val->Env->M Fl}{bodyV:Val->aF->Pr nE}(hb:∀aa env h O x v,SR A0 h0 aa env h O->Dn (Al A0 O) h x v->gP A0 h0 (RF A0 h0 m aa env h O) (body v env h) (bodyV x aa))
  {kZ:aF} {fU:Env} {h1:Hs} {O1:Nat->Option Nat} (st:wu h1 O1 m src ws) :
  ∀(xs vs:List Val) (i:Nat) (aa:aF) (env:Env) (h:Hs) (O:Nat->Option Nat),SR A0 h0 aa env h O->Fm m kZ fU h1 O1 aa env h O->ws.drop i=vs->aj (Al A0 O) h xs vs ->
   gP A0 h0 (RF A0 h0 m kZ fU h1 O1) (forM src body vs.length i env h) (jb bodyV xs aa)
 | [],vs,i,aa,env,h,O,s,f,hd,q=>by
  rw[aj] at q;subst q
  have hl:ws.length<=i:=List.drop_eq_nil_iff.mp hd
  have hi:=st h (fun k hk n=>(f.keep k hk n).1) (fun j hj a e=>(f.stay j hj).2.2.2 a e)
  rw[jb]
  refine⟨.nx env,h,?_,O,s,f⟩
  show forM src body 0 i env h=_
  simp only[forM]
  unfold bnd ask bw aD;dsimp only;rw[hi];dsimp only;rw[if_pos (decide_eq_true hl)];rfl
 | x::xs,vs,i,aa,env,h,O,s,f,hd,q=>by
  rw[aj] at q
  obtain⟨v,r,rfl,q1,q2⟩:=q
  have hv:ws[i]?=some v:=by
   have:=congrArg (fun l=>l[0]?) hd
   simpa using this
  have hr:ws.drop (i+1)=r:=by
   have:ws.drop (i+1)=(ws.drop i).drop 1:=by rw[List.drop_drop]
   rw[this,hd];rfl
  have hi:=st h (fun k hk n=>(f.keep k hk n).1) (fun j hj a e=>(f.stay j hj).2.2.2 a e)
  have ev:forM src body (v::r).length i env h=bnd (body v env) (fun f=>match f with
   | .nx env'=>forM src body r.length (i+1) env'
   | .ct env'=>forM src body r.length (i+1) env'
   | .bk env'=>ret (.nx env')
   | .rt v=>ret (.rt v)) h:=by
   show forM src body (r.length+1) i env h=_
   simp only[forM]
   unfold bnd ask bw;dsimp only;rw[hi];dsimp only;rw[hv];try rfl
  rw[ev,jb]
  refine o5 (hb aa env h O x v s q1) fun fl h2 gl hr2=>?_
  have go:∀aq env' O',SR A0 h0 aq env' h2 O'->Fm m aa env h O aq env' h2 O'->gP A0 h0 (RF A0 h0 m kZ fU h1 O1) (forM src body r.length (i+1) env' h2) (jb bodyV xs aq):=fun aq env' O' s' f'=>by
   refine uF hb st xs r (i+1) aq env' h2 O' s' (f.trans f') hr (aj.move jz (fun k o hk g=>?_) _ _ q2)
   have hlt:k<h.length:=(List.getElem?_eq_some_iff.mp g).1
   obtain⟨a1,a2⟩:=f'.keep k hlt fun i=>hk.2 i rfl
   exact⟨⟨hk.1,fun i _=>a2 i⟩,a1.trans g⟩
  cases fl<;>cases gl<;>first|exact hr2.elim|skip
  ·obtain⟨O',s',f'⟩:=hr2;exact go _ _ O' s' f'
  ·exact bu hr2
  ·obtain⟨O',s',f'⟩:=hr2;exact bu ⟨O',s',f.trans f'⟩
  ·obtain⟨O',s',f'⟩:=hr2;exact go _ _ O' s' f'
theorem BL{A0:AP}{O:Nat->Option Nat}{h:Hs}{m:List Nat}{k:Ik}{d v:Val}{xs:List Val}(q:Dn (Al A0 O) h d v)(e:gc k [d]=some xs):∃src ws,srcOf k [v]=some src/\aj (Al A0 O) h xs ws/\src.items h=some ws/\wu h O m src ws:=by
 have lst:∀es,d=.rl es->(∃ws,v=.rl ws/\aj (Al A0 O) h es ws)\/∃a ws,v=.ref a/\h[a]?=some (.lst ws)/\aj (Al A0 O) h es ws/\∀h':Hs,(∀k,k<h.length->(∀i,O i≠some k)->h'[k]?=h[k]?)->h'[a]?=some (Ob.lst ws):=by
  rintro es rfl
  rw[Dn] at q
  rcases q with ⟨ws,rfl,_,q⟩|⟨a,ws,rfl,al,g,q⟩
  ·exact .inl ⟨ws,rfl,q⟩
  ·exact .inr ⟨a,ws,rfl,g,q,fun h' hk=>(hk a (List.getElem?_eq_some_iff.mp g).1 fun i=>al.2 i rfl).trans g⟩
 cases k with
 | seq =>
  cases d<;>first|(cases e;done)|skip
  ·cases e
   rw[Dn] at q
   obtain⟨ws,rfl,q⟩:=q
   exact⟨.fix ws,ws,rfl,q,rfl,fun _ _ _=>rfl⟩
  ·cases e
   rcases lst _ rfl with ⟨ws,rfl,q'⟩|⟨a,ws,rfl,g,q',st⟩
   ·exact⟨.fix ws,ws,rfl,q',rfl,fun _ _ _=>rfl⟩
   ·exact⟨.live a,ws,rfl,q',cj g,fun h' hk _=>cj (st h' hk)⟩
 | range =>
  cases d<;>first|(cases e;done)|skip
  rw[Dn] at q;subst q
  rename_i n
  change (if inR n=true then some (bW 0 n.toNat) else none)=some _ at e
  split at e
  ·rename_i hn;cases e
   exact⟨.fix _,_,if_pos hn,ig,rfl,fun _ _ _=>rfl⟩
  ·cases e
 | enum =>
  cases d<;>first|(cases e;done)|skip
  cases e
  rcases lst _ rfl with ⟨ws,rfl,q'⟩|⟨a,ws,rfl,g,q',st⟩
  ·exact⟨.fix _,_,rfl,fE 0 q',rfl,fun _ _ _=>rfl⟩
  ·exact⟨.enum a,_,rfl,fE 0 q',e9 g,fun h' hk _=>e9 (st h' hk)⟩
 | zip=>cases e
theorem BN{α β γ δ:Type}{A:AP}{h:Hs}{R:α -> Hs -> β -> Prop}{R':γ -> Hs -> δ -> Prop}{m:M β}{f:β -> M δ}{p:Pr α}{F:α -> Pr γ}(r:Rel A h R (m h) p)(k:∀a h1 b,p=.ok a->h<+:h1->R a h1 b->Rel A h1 R' (f b h1) (F a)):Rel A h R' (bnd m f h) (pb p F):=by
 unfold bnd
 cases p with
 | ok a =>
  obtain⟨b,h1,e,q,r⟩:=r
  rw[e]
  show Rel A h R' (f b h1) (F a)
  have:=k a h1 b rfl q r
  cases e2:F a with
  | ok c=>rw[e2] at this;obtain⟨d,h2,e3,q2,r2⟩:=this;exact⟨d,h2,e3,q.trans q2,r2⟩
  | exc c es=>rw[e2] at this;obtain⟨d,h2,e3,q2,r2⟩:=this;exact⟨d,h2,e3,q.trans q2,r2⟩
  | no=>trivial
 | exc c es =>
  obtain⟨ws,h1,e,q,r⟩:=r
  rw[e];exact⟨ws,h1,rfl,q,r⟩
 | no=>trivial
theorem BO{e e2:IE}{r:eO}{aa:aF}{ds:List Val}(h:gM Ψ (.cons e (.cons e2 r)) aa=.ok ds):2<=ds.length:=by
 rw[gM,gM] at h
 cases h1:(if isVar e=true then pl (gf aa e) else aX Ψ e aa) with
 | ok a =>
  rw[h1] at h
  cases h2:(if isVar e2=true then pl (gf aa e2) else aX Ψ e2 aa) with
  | ok b =>
   rw[h2] at h
   cases h3:gM Ψ r aa with
   | ok c=>rw[h3] at h;cases h;simp
   | exc _ _=>rw[h3] at h;cases h
   | no=>rw[h3] at h;cases h
  | exc _ _=>rw[h2] at h;cases h
  | no=>rw[h2] at h;cases h
 | exc _ _=>rw[h1] at h;cases h
 | no=>rw[h1] at h;cases h
theorem BP{k:Ik}{d1 d2:Val}{xs:List Val}(ex:gc k [d1,d2]=some xs):k=.range/\∃n m,d1=.int n/\d2=.int m/\(inR n&&inR m)=true/\xs=bW n (m-n).toNat:=by
 cases k with
 | seq=>cases d1<;>cases ex
 | enum=>cases d1<;>cases ex
 | zip=>cases ex
 | range =>
  cases d1<;>first|(cases ex;done)|skip
  cases d2<;>first|(cases ex;done)|skip
  rename_i n m
  change (if (inR n&&inR m)=true then some (bW n (m-n).toNat) else none)=some xs at ex
  by_cases hn:(inR n&&inR m)=true
  ·rw[if_pos hn] at ex;cases ex;exact⟨rfl,n,m,rfl,rfl,hn,rfl⟩
  ·rw[if_neg hn] at ex;cases ex
theorem wz{k:Ik}{d1 d2 d3:Val}{r:List Val}:gc k (d1::d2::d3::r)=none:=by
 cases k with
 | seq=>cases d1<;>rfl
 | enum=>cases d1<;>rfl
 | zip=>rfl
 | range=>cases d1<;>first|rfl|(cases d2<;>rfl)
theorem EZ{A0:AP}{h0:Hs}{aa:aF}{env:Env}{h:Hs}{O:Nat->Option Nat}{k:Ik}{it:eO}{m:List Nat}(hΦ:∀j,Imp (Φ j) (Ψ j))(hi:gq it=true)(s:SR A0 h0 aa env h O)(hm:∀i,it=.cons (.var i) .nil->i∉m) :
  Rel (Al A0 O) h (fun xs h' src=>∃ws,aj (Al A0 O) h' xs ws/\src.items h'=some ws/\wu h' O m src ws) (bnd (aR Φ it env) (fun its=>bw (srcOf k its)) h) (pb (gM Ψ it aa) fun its=>pl (gc k its)):=by
 have V:=v_all hΦ
 cases it with
 | nil=>rw[gM];cases k<;>trivial
 | cons e es =>
  cases es with
  | nil =>
   rw[gq,Bool.and_eq_true] at hi
   by_cases hv:isVar e=true
   ·cases e<;>first|(cases hv;done)|skip
    rename_i i
    rw[gM,gM,if_pos hv]
    simp only[gf]
    cases hx:aa[i]? with
    | none=>trivial
    | some o =>
     cases o with
     | none=>trivial
     | some fd =>
      obtain⟨f,d⟩:=fd
      show Rel _ _ _ _ (pl (gc k [d]))
      cases hf:qO f with
      | false =>
       have hf:f=.ow:=by cases f<;>first|rfl|cases hf
       subst hf
       obtain⟨a,e2,e3,e4⟩:=s.ow i d hx
       have ev:bnd (aR Φ (.cons (.var i) .nil) env) (fun its=>bw (srcOf k its)) h=bw (srcOf k [.ref a]) h:=by
        rw[aR,aR,bf,ao (bK e2)];rfl
       rw[ev]
       refine bh fun xs ex=>?_
       have hd:∃ds,d=.rl ds:=by
        cases d<;>first|exact⟨_,rfl⟩|exact False.elim e4|(cases k<;>cases ex)
       obtain⟨ds,rfl⟩:=hd
       obtain⟨vs,e4,e5⟩:=e4
       have st:∀h':Hs,(∀i,i∉m->∀a,O i=some a->h'[a]?=h[a]?)->h'[a]?=some (Ob.lst vs):=fun h' hs=>(hs i (hm i rfl) a e3).trans e4
       cases k with
       | seq=>cases ex;exact⟨.live a,rfl,vs,e5,cj e4,fun h' _ hs=>cj (st h' hs)⟩
       | range=>cases ex
       | enum=>cases ex;exact⟨.enum a,rfl,_,fE 0 e5,e9 e4,fun h' _ hs=>e9 (st h' hs)⟩
       | zip=>cases ex
      | true =>
       obtain⟨v,e1,e2,_⟩:=s.sh i f d hx hf
       have ev:bnd (aR Φ (.cons (.var i) .nil) env) (fun its=>bw (srcOf k its)) h=bw (srcOf k [v]) h:=by
        rw[aR,aR,bf,ao (bK e1)];rfl
       rw[ev]
       refine bh fun xs ex=>?_
       obtain⟨src,ws,a1,a2,a3,a4⟩:=BL (m:=m) e2 ex
       exact⟨src,a1,ws,a2,a3,a4⟩
   ·rw[gM,gM,if_neg hv]
    have ev:bnd (aR Φ (.cons e .nil) env) (fun its=>bw (srcOf k its)) h=bnd (aG Φ e env) (fun v=>bw (srcOf k [v])) h:=by
     rw[aR,aR,bf];rfl
    rw[ev]
    have ep:(pb (pb (aX Ψ e aa) fun d=>pb (Pr.ok ([]:List Val)) fun p=>Pr.ok (d.2::p)) fun its=>pl (gc k its))=pb (aX Ψ e aa) fun d=>pl (gc k [d.2]):=by
     cases aX Ψ e aa<;>rfl
    rw[ep]
    refine af (V.1 e hi.1 aa env _ h s.wo s.er) fun x h1 v p1 q1=>bh fun xs ex=>?_
    obtain⟨src,ws,a1,a2,a3,a4⟩:=BL (m:=m) q1.1 ex
    exact⟨src,a1,ws,a2,a3,a4⟩
  | cons e2 r =>
   have V2:=V.2 _ hi
   refine BN (V2.2 aa env _ h s.wo s.er) fun ds h1 vs eb p1 q1=>bh fun xs ex=>?_
   have hl:2<=ds.length:=BO eb
   match ds,q1 with
   | [],q1=>cases k<;>cases ex
   | [d],q1=>simp at hl
   | [d1,d2],q1 =>
    obtain⟨v,rr,rfl,hv,hr⟩:=q1
    obtain⟨w,rfl,hw⟩:=EH.one hr
    obtain⟨rfl,n,m',rfl,rfl,hn,rfl⟩:=BP ex
    have:=hv.int;subst this
    have:=hw.int;subst this
    exact⟨.fix _,if_pos hn,_,ig,rfl,fun _ _ _=>rfl⟩
   | d1::d2::d3::dr,q1=>rw[wz] at ex;cases ex
theorem JL{p:jV}{k:Ik}{it:eO}{body:cU}(hΦ:∀j,Imp (Φ j) (Ψ j))(hi:gq it=true)(hb:sD Φ Ψ ms body):x8 Φ Ψ ms (.for p k it body):=fun A0 h0 aa env h O s=>by
 rw[dZ,cS]
 refine iN fun hg=>?_
 rw[Bool.and_eq_true] at hg
 have hm:∀i,it=.cons (.var i) .nil->i∉mS (.for p k it body):=by
  rintro i rfl z
  simp only[BC,Bool.and_eq_true,Bool.not_eq_true',List.contains_eq_mem,decide_eq_false_iff_not] at hg
  simp only[mS,qb,l0,List.mem_append] at z
  rcases z with z|z|z
  ·exact hg.1.1.1 z
  ·exact hg.1.2 z
  ·exact hg.1.1.2 z
 have ev:∀(F:Src->M Fl),bnd (aR Φ it env) (fun its=>bnd (bw (srcOf k its)) F) h=bnd (bnd (aR Φ it env) fun its=>bw (srcOf k its)) F h:=fun F=>by rw[bf]
 have ep:∀(F:List Val->Pr nE),pb (gM Ψ it aa) (fun its=>pb (pl (gc k its)) F)=pb (pb (gM Ψ it aa) fun its=>pl (gc k its)) F:=fun F=>by cases gM Ψ it aa<;>rfl
 rw[ev,ep]
 refine aZ s (EZ (m:=mS (.for p k it body)) hΦ hi s hm) fun xs h1 src p1 hx=>?_
 obtain⟨ws,q1,q2,st⟩:=hx
 have s1:=s.ext p1
 have l:=q1.length
 have Qe:∀(F:List Val->M Fl),bnd (ask fun h=>src.items h) F h1=F ws h1:=fun F=>by unfold bnd ask bw;dsimp only;rw[q2]
 rw[Qe]
 refine iw (uF (m:=mS (.for p k it body)) (fun aq env' h' O' x v s' qx=>?_) st xs ws 0 aa env h1 O s1 (Fm.refl s1 (List.prefix_refl _)) rfl q1) fun f h' g r=>r.pre s p1
 refine aZ s' (R:=fun iu h2 gJ=>∃O2,SR A0 h0 iu gJ h2 O2/\Fm (stored p) aq env' h' O' iu gJ h2 O2) (bh fun iu e2=>?_) fun iu h2 gJ p2 hh=>?_
 ·obtain⟨gJ,O2,b1,b2,b3⟩:=s'.bind e2 qx
  exact⟨gJ,b1,O2,b2,b3⟩
 ·obtain⟨O2,b2,b3⟩:=hh
  refine iw (hb A0 h0 iu gJ h2 O2 b2) fun f h'' g r=>RF.seq (b3.fM fun i hi=>?_) (r.fM fun i hi=>?_)
  ·simp only[mS,qb,l0,List.mem_append];exact .inr (.inl hi)
  ·simp only[ET,mS,qb,l0,List.mem_append] at hi |-
   rcases hi with z|z
   ·exact .inl z
   ·exact .inr (.inr z)
theorem JM{n:Nat}{c:IE}{body:cU}(hΦ:∀j,Imp (Φ j) (Ψ j))(hc:bC c=true)(hb:sD Φ Ψ ms body):x8 Φ Ψ ms (.whl n c body):=fun A0 h0 aa env h O s=>by rw[cS];trivial
theorem Gf{m:Mk}:qO (SN m)=true:=by cases m<;>rfl
theorem SR.fr{A0:AP}{h0:Hs}{aa:aF}{env:Env}{h:Hs}{O:Nat->Option Nat}(s:SR A0 h0 aa env h O):ER A0 (iZ aa) env h:=fun i f d e=>by
 unfold iZ at e
 rw[List.getElem?_map] at e
 cases hx:aa[i]? with
 | none=>rw[hx] at e;cases e
 | some o =>
  rw[hx] at e
  cases o with
  | none=>cases e
  | some fd =>
   obtain⟨m,d'⟩:=fd
   cases e
   rw[if_neg (by rw[Gf];decide)]
   cases hm:qO m with
   | false =>
    have hm:m=.ow:=by cases m<;>first|rfl|cases hm
    subst hm
    obtain⟨a,e2,e3,e4⟩:=s.ow i d hx
    exact⟨_,e2,(e4.mono (A':=A0) (fun _ g=>g) fun _ _ z=>z.fM fun _ y=>y.1).dn (s.up a (s.own i a e3).1)⟩
   | true =>
    obtain⟨v,e1,e2,_⟩:=s.sh i m d hx hm
    exact⟨v,e1,e2.fM fun _ z=>z.1⟩
theorem qQ{A0:AP}{h0:Hs}{aa:aF}{env:Env}{h:Hs}{O:Nat->Option Nat}{α β γ δ:Type}{R:α -> Hs -> β -> Prop}{R':γ -> Hs -> δ -> Prop}{mm:M β}{f:β -> M δ}{p:Pr α}{F:α -> Pr γ}(s:SR A0 h0 aa env h O)(r:Rel A0 h R (mm h) p)(k:∀a h1 b,h<+:h1->R a h1 b->gP A0 h0 R' (f b h1) (F a)):gP A0 h0 R' (bnd mm f h) (pb p F):=by
 unfold bnd
 cases p with
 | ok a=>obtain⟨b,h1,e,q,r⟩:=r;rw[e];exact k a h1 b q r
 | exc c es=>obtain⟨ws,h1,e,q,r⟩:=r;rw[e];exact⟨ws,h1,rfl,s.pre.trans q,r⟩
 | no=>trivial
theorem JN{e:IE}(hΦ:∀j,Imp (Φ j) (Ψ j))(ho:bC e=true):x8 Φ Ψ ms (.ret e):=fun A0 h0 aa env h O s=>by
 have V:=(v_all hΦ).1 e ho
 have gen:Oq Ψ e aa=aX Ψ e aa->gP A0 h0 (RF A0 h0 (mS (.ret e)) aa env h O) (dZ Φ (.ret e) env h) (cS Ψ ms (.ret e) aa):=fun he=>by
  rw[dZ,cS,he]
  exact aZ s (V aa env _ h s.wo s.er) fun x h1 v p1 q1=>bu ⟨q1.1.fM fun _ z=>z.1,fun f=>(q1.2 f).fM (Fr.le s.pre.length_le),s.pre.trans p1⟩
 cases e with
 | var i =>
  rw[dZ,cS]
  simp only[Oq]
  cases hx:aa[i]? with
  | none=>trivial
  | some o =>
   cases o with
   | none=>trivial
   | some fd =>
    obtain⟨f,d⟩:=fd
    cases hf:qO f with
    | false =>
     have hf:f=.ow:=by cases f<;>first|rfl|cases hf
     subst hf
     obtain⟨a,e2,e3,e4⟩:=s.ow i d hx
     rw[ao (bK e2)]
     have ha:=s.own i a e3
     cases d<;>first|exact False.elim e4|skip
     ·refine⟨_,h,rfl,?_,fun hi=>?_,s.pre⟩
      ·exact(e4.mono (A':=A0) (fun _ g=>g) fun _ _ z=>z.fM fun _ y=>y.1).dn (s.up a ha.1)
      ·obtain⟨vs,e4,e5⟩:=e4
       show Dn _ h (.rl _) (.ref a)
       rw[Dn];exact .inr ⟨a,vs,rfl,ha.1,e4,fD e5 hi⟩
     ·refine⟨_,h,rfl,?_,fun hi=>?_,s.pre⟩
      ·exact(e4.mono (A':=A0) (fun _ g=>g) fun _ _ z=>z.fM fun _ y=>y.1).dn (s.up a ha.1)
      ·obtain⟨kvs,e4,ek,e5⟩:=e4
       show Dn _ h (.dc _ _) (.ref a)
       rw[Dn];exact⟨a,kvs,rfl,ha.1,e4,ek,fD e5 hi⟩
    | true =>
     obtain⟨v,e1,e2,e3⟩:=s.sh i f d hx hf
     rw[ao (bK e1)]
     dsimp only
     rw[if_pos hf]
     refine⟨_,h,rfl,e2.fM fun _ z=>z.1,fun hi=>?_,s.pre⟩
     rcases(Bool.or_eq_true _ _).mp hi with hi|hi
     ·exact(eE d v hi).mpr ((eE d v hi).mp e2)
     ·exact(e3 hi).fM fun _ z=>z.1
 | call j es =>
  rw[dZ,cS]
  exact qQ s (V (iZ aa) env A0 h (s.up.ext s.pre) s.fr) fun x h1 v p1 q1=>bu ⟨q1.1,fun f=>(q1.2 f).fM (Fr.le s.pre.length_le),s.pre.trans p1⟩
 | tup es =>
  rw[dZ,cS]
  exact qQ s (V (iZ aa) env A0 h (s.up.ext s.pre) s.fr) fun x h1 v p1 q1=>bu ⟨q1.1,fun f=>(q1.2 f).fM (Fr.le s.pre.length_le),s.pre.trans p1⟩
 | _=>exact gen rfl
theorem JO:sD Φ Ψ ms .nil:=fun A0 h0 aa env h O s=>by rw[dm,j7];exact bu ⟨O,s,Fm.refl s (List.prefix_refl _)⟩
theorem E1{a:IS}{r:cU}(ha:x8 Φ Ψ ms a)(hr:sD Φ Ψ ms r):sD Φ Ψ ms (.cons a r):=fun A0 h0 aa env h O s=>by
 rw[dm,j7]
 have w1:∀i∈mS a,i∈ET (.cons a r):=fun i hi=>by
  simp only[mS,ET,ic,j6,List.mem_append] at hi |-
  rcases hi with z|z
  ·exact .inl (.inl z)
  ·exact .inr (.inl z)
 have w2:∀i∈ET r,i∈ET (.cons a r):=fun i hi=>by
  simp only[ET,ic,j6,List.mem_append] at hi |-
  rcases hi with z|z
  ·exact .inl (.inr z)
  ·exact .inr (.inr z)
 refine o5 (ha A0 h0 aa env h O s) fun f h1 g rr=>?_
 have rr:=rr.fM w1
 cases f<;>cases g<;>first|exact rr.elim|skip
 ·obtain⟨O',s',f'⟩:=rr
  exact iw (hr A0 h0 _ _ h1 O' s') fun f h' g r'=>RF.seq f' (r'.fM w2)
 ·exact bu rr
 ·exact bu rr
 ·exact bu rr
theorem MU(hΦ:∀j,Imp (Φ j) (Ψ j)):∀ss,mj ss=true->sD Φ Ψ ms ss:=by
 intro ss
 refine cU.rec (motive_1:=fun s=>uE s=true->x8 Φ Ψ ms s) (motive_2:=fun ss=>mj ss=true->sD Φ Ψ ms ss) ?_ ?_ ?_ ?_ ?_ ?_ ?_ ?_ ?_ ?_ ?_ ?_ ?_ ?_ ?_ ?_ ss
 ·exact fun e f=>EU hΦ (by rw[uE] at f;exact f)
 ·exact fun p e f=>JI hΦ (by rw[uE] at f;exact f)
 ·exact fun i o e f=>JJ hΦ (by rw[uE] at f;exact f)
 ·intro o i v f;rw[uE,Bool.and_eq_true,Bool.and_eq_true] at f;exact EY hΦ f.1.1 f.1.2 f.2
 ·intro c a b ia ib f;rw[uE,Bool.and_eq_true,Bool.and_eq_true] at f;exact JK hΦ f.1.1 (ia f.1.2) (ib f.2)
 ·intro p k it b ib f;rw[uE,Bool.and_eq_true] at f;exact JL hΦ f.1 (ib f.2)
 ·intro n c b ib f;rw[uE,Bool.and_eq_true] at f;exact JM hΦ f.1 (ib f.2)
 ·exact fun e f=>JN hΦ (by rw[uE] at f;exact f)
 ·exact fun _ A0 h0 aa env h O s=>by rw[dZ,cS];exact bu ⟨by rw[Dn],fun _=>by rw[Dn],s.pre⟩
 ·exact fun _ A0 h0 aa env h O s=>by rw[dZ,cS];exact bu ⟨O,s,Fm.refl s (List.prefix_refl _)⟩
 ·exact fun _ A0 h0 aa env h O s=>by rw[dZ,cS];exact bu ⟨O,s,Fm.refl s (List.prefix_refl _)⟩
 ·exact fun _ A0 h0 aa env h O s=>by rw[dZ,cS];exact bu ⟨O,s,Fm.refl s (List.prefix_refl _)⟩
 ·exact fun _ A0 h0 aa env h O s=>by rw[cS];trivial
 ·exact fun _ _ _ _ _ A0 h0 aa env h O s=>by rw[cS];trivial
 ·exact fun _=>JO
 ·intro a r ia ir f;rw[mj,Bool.and_eq_true] at f;exact E1 (ia f.1) (ir f.2)
theorem MV{n:Nat}{A:AP}{h:Hs}{ds vs:List Val}(u:Up A h)(q:aj A h ds vs):SR A h (ds.map (fun d=>some (.sh,d))++List.replicate (n-ds.length) none) (vs.map some++List.replicate (n-vs.length) none) h (fun _=>none):=by
 have l:=q.length
 have al:∀k,A k->Al A (fun _=>none) k:=fun k hk=>⟨hk,fun i z e=>by subst e;cases z⟩
 have get:∀(i:Nat) (f:Mk) (d:Val),(ds.map (fun d=>some (.sh,d))++List.replicate (n-ds.length) none:aF)[i]?=some (some (f,d))->f=.sh/\ds[i]?=some d:=fun i f d e=>by
  by_cases hi:i<ds.length
  ·rw[List.getElem?_append_left (by simpa using hi),List.getElem?_map] at e
   cases ei:ds[i]? with
   | none=>rw[ei] at e;cases e
   | some d'=>rw[ei] at e;cases e;exact⟨rfl,rfl⟩
  ·rw[List.getElem?_append_right (by simp;omega)] at e
   have:=List.mem_of_getElem? e
   rw[List.mem_replicate] at this
   exact absurd this.2 (by simp)
 refine⟨by simp[l],fun i m d e hm=>?_,fun i d e=>?_,(fun i a e=>nomatch e),(fun i j a e=>nomatch e),List.prefix_refl _,u⟩
 ·obtain⟨hm',e⟩:=get i m d e
  obtain⟨v,k1,k2⟩:=q.get e
  have hi:i<vs.length:=(List.getElem?_eq_some_iff.mp k1).1
  exact⟨v,by rw[List.getElem?_append_left (by simpa using hi),List.getElem?_map,k1];rfl,k2.fM al,fun z=>by subst hm';cases z⟩
 ·obtain⟨z,_⟩:=get i .ow d e;cases z
theorem dD{n:Nat}{body:cU}(hΦ:∀j,Imp (Φ j) (Ψ j))(ho:mj body=true):Imp (jm Φ n body) (jc Ψ n body):=fun A h ds vs u q=>by
 have l:=q.length
 have s:=MV (n:=n) u q
 unfold jm jc
 have r:=o5 (R':=fun x h' v=>h<+:h'/\RV A h x h' v) (MU (ms:=ic body) hΦ body ho A h _ _ h _ s) (f:=fun f=>match f with
  | .nx _=>ret .non
  | .rt v=>ret v
  | _=>bw none) (F:=fun f=>match f with
  | .nx _=>.ok (true,.non)
  | .rt p=>.ok p
  | _=>.no) fun f h1 g rr=>by
   cases f<;>cases g<;>first|exact rr.elim|skip
   ·obtain⟨O',s',_⟩:=rr
    exact bu ⟨s'.pre,by show Dn _ _ Val.non _;rw[Dn],fun _=>by show Dn _ _ Val.non _;rw[Dn]⟩
   ·exact bu ⟨rr.2.2,rr.1,rr.2.1⟩
   ·trivial
   ·trivial
 revert r
 generalize (pb (j7 Ψ (ic body) body (ds.map (fun d=>some (.sh,d))++List.replicate (n-ds.length) none)) _)=p
 intro r
 cases p with
 | ok x=>obtain⟨v,h',e,a,b⟩:=r;exact⟨v,h',e,a,b⟩
 | exc c es=>exact r
 | no=>trivial
end
end Hv
end
section
namespace Hv
open PySem L2
noncomputable abbrev bR:=List Val->Pr FV
noncomputable def aE(gs:List bR)(j:Nat):bR:=match gs[j]? with
 | some g=>g
 | none=>fun _=>.no
noncomputable def gr(fs:List Row)(gs:List bR):Prop:=fs.length=gs.length/\∀(j:Nat) (r:Row) (g:bR),fs[j]?=some r->gs[j]?=some g->Imp r.2.2 g
theorem BQ:gr [] []:=⟨rfl,fun j r g e=>by simp at e⟩
theorem aP{fs:List Row}{gs:List bR}(a:gr fs gs)(j:Nat):Imp (look fs j) (aE gs j):=by
 unfold look aE
 cases e:fs[j]? with
 | none =>
  have:gs[j]?=none:=by
   have:=List.getElem?_eq_none_iff.mp e
   exact List.getElem?_eq_none_iff.mpr (by rw[<-a.1];exact this)
  rw[this]
  exact fun _ _ _ _ _ _=>trivial
 | some r =>
  cases e2:gs[j]? with
  | none=>exact fun _ _ _ _ _ _=>trivial
  | some g=>exact a.2 j r g e e2
theorem aV{fs:List Row}{gs:List bR}{x:Str}{k:Nat}{f:List Val->M Val}{g:bR}(a:gr fs gs)(i:Imp f g):gr (fs++[(x,k,f)]) (gs++[g]):=by
 refine⟨by simp[a.1],fun j r g' e1 e2=>?_⟩
 by_cases hj:j<fs.length
 ·rw[List.getElem?_append_left hj] at e1
  rw[List.getElem?_append_left (by rw[<-a.1];exact hj)] at e2
  exact a.2 j r g' e1 e2
 ·rw[List.getElem?_append_right (by omega)] at e1
  rw[List.getElem?_append_right (by rw[<-a.1];omega)] at e2
  have hj0:j-fs.length=0:=by
   have:=(List.getElem?_eq_some_iff.mp e1).1
   simp at this;omega
  rw[<-a.1] at e2
  rw[hj0] at e1 e2
  simp at e1 e2
  subst e1;subst e2
  exact i
end Hv
end
section
namespace Hv
open PySem L2
section
variable {α β γ:Type}
theorem gg(a:α)(f:α -> Pr β):pb (.ok a) f=f a:=rfl
theorem o6(f:α -> Pr β):pb .no f=.no:=rfl
theorem JP(c:Prop)[Decidable c](m n:Pr α)(f:α -> Pr β):pb (if c then m else n) f=if c then pb m f else pb n f:=by split<;>rfl
theorem k7(m:Pr α)(f:α -> Pr β)(g:β -> Pr γ):pb (pb m f) g=pb m fun x=>pb (f x) g:=by cases m<;>rfl
theorem k9(a:α):pl (some a)=.ok a:=rfl
theorem iP:pl (none:Option α)=.no:=rfl
theorem E2(m:Pr α):pg true m=m:=rfl
theorem JQ(c:Prop)[Decidable c](m:Pr α):pg (decide c) m=if c then m else .no:=by unfold pg;simp
theorem sE{c:Bool}(h:c=true)(m:Pr α):pg c m=m:=by rw[h];rfl
end
theorem Gg{f:Bool}{d:Val}:qO (kU f d)=true:=by unfold kU;split<;>rfl
theorem MW:qO .sh=true:=rfl
theorem MX:qO .nw=true:=rfl
theorem MY:qO .ow=false:=rfl
theorem MZ:KL .sh=false:=rfl
theorem M0:KL .nw=true:=rfl
theorem JR{f:Bool}{i:Int}:kU f (.int i)=.sh:=by cases f<;>rfl
theorem M1{f:Bool}{i:Bool}:kU f (.bl i)=.sh:=by cases f<;>rfl
theorem JS{f:Bool}{i:Str}:kU f (.str i)=.sh:=by cases f<;>rfl
theorem JT{f:Bool}:kU f .non=.sh:=by cases f<;>rfl
theorem Qf{d:Val}:kU false d=.sh:=rfl
theorem M3{ds:List Val}:kU true (.rl ds)=.nw:=rfl
theorem M4{ks:List Key}{ds:List Val}:kU true (.dc ks ds)=.nw:=rfl
section
variable {a b:Int} {x y:Str} {t:Bool} {vs ws:List Val} {v:Val}
theorem M5:jv .add (.int a) (.int b)=.ok (true,.int (a+b)):=rfl
theorem M6:jv .sub (.int a) (.int b)=.ok (true,.int (a-b)):=rfl
theorem Gh(h:jk a b=true):jv .mul (.int a) (.int b)=.ok (true,.int (a*b)):=by simp only[jv];exact sE h _
theorem gQ(h:gX b=true):jv .fdiv (.int a) (.int b)=.ok (true,.int (a/b)):=by simp only[jv];exact sE h _
theorem iT(h:decide (0<b)=true):jv .mod (.int a) (.int b)=.ok (true,.int (a%b)):=by simp only[jv];exact sE h _
theorem Gi(h:decide (0<=b/\b<=1000000/\a.natAbs<2 ^ 64)=true):jv .pow (.int a) (.int b)=.ok (true,.int (a ^ b.toNat)):=by simp only[jv];exact sE h _
theorem Qg:cop [] .lt (.int a) (.int b)=some (decide (a<b)):=rfl
theorem Qh:cop [] .le (.int a) (.int b)=some (decide (a<=b)):=rfl
theorem Qi:cop [] .gt (.int a) (.int b)=some (decide (b<a)):=rfl
theorem Qj:cop [] .ge (.int a) (.int b)=some (decide (b<=a)):=rfl
theorem Qk:cop [] .eq (.int a) (.int b)=some (decide (a=b)):=by
 show some (a==b)=_
 congr 1
theorem Ql:cop [] .ne (.int a) (.int b)=some (!decide (a=b)):=by
 show some (!(a==b))=_
 congr 1
theorem M7:cop [] .isn v .non=some (oA v):=by cases v<;>rfl
theorem M8:cop [] .ntn v .non=some (!oA v):=by cases v<;>rfl
theorem M9:dj [] (.bl t)=some t:=rfl
theorem Na:dj [] (.int a)=some (a != 0):=rfl
theorem Nb:dj [] (.rl vs)=some (!vs.isEmpty):=rfl
theorem Nc:dj [] (.tup vs)=some (!vs.isEmpty):=rfl
theorem Nd:gK .len [.rl vs]=.ok (true,.int vs.length):=rfl
theorem Nf:gK .len [.tup vs]=.ok (true,.int vs.length):=rfl
theorem Ng:gK .min [.int a,.int b]=.ok (true,.int (if b<a then b else a)):=rfl
theorem Nh:gK .max [.int a,.int b]=.ok (true,.int (if b>a then b else a)):=rfl
theorem JU:gK .min [.tup [.int a,.int b]]=.ok (true,.int (min a b)):=rfl
theorem JV:gK .max [.tup [.int a,.int b]]=.ok (true,.int (max a b)):=rfl
theorem JW:gK .list [.rl vs]=.ok (bz vs,.rl vs):=rfl
theorem JX:gK .list [.tup vs]=.ok (bz vs,.rl vs):=rfl
theorem Ni:gK .int [.bl t]=.ok (true,.int (if t=true then 1 else 0)):=rfl
theorem mU(h:jg vs a=some v):iM [] (.rl vs) (.int a)=some v:=h
theorem lg(h:jg vs a=some v):iM [] (.tup vs) (.int a)=some v:=h
end
theorem BR{v:Val}{vs:List Val}:jg (v::vs) (0:Int)=some v:=by
 have:=kG (xs:=v::vs) (j:=0) (v:=v) rfl
 exact this
theorem zJ{u v:Val}{vs:List Val}:jg (u::v::vs) (1:Int)=some v:=by
 have:=kG (xs:=u::v::vs) (j:=1) (v:=v) rfl
 exact this
theorem zK{T:String}{v:Val}{t:String}(h1:t8 [] v=some t)(h2:t9 T t=some true):gK (.isin T) [v]=.ok (true,.bl true):=by
 show pb (pl (t8 [] v)) _=_
 rw[h1,k9,gg,h2];rfl
theorem wB{T:String}{v:Val}{t:String}(h1:t8 [] v=some t)(h2:t9 T t=some false):gK (.isin T) [v]=.ok (true,.bl false):=by
 show pb (pl (t8 [] v)) _=_
 rw[h1,k9,gg,h2];rfl
theorem ne_self{d:Val}{p:PyData}(h:toD 16 [] d=some p)(hp:p.canLay0=true):cop [] .ne d d=some false:=by
 simp only[cop,z5,h,Option.bind_some]
 rw[SeqAt.eqv_refl p hp];rfl
end Hv
end
section
namespace Hv
open PySem L2
theorem gz{vs:List Val}:gc .seq [.rl vs]=some vs:=rfl
theorem JY{ds:List Val}:BB .seq ds=gc .seq ds:=rfl
theorem JZ{ds:List Val}:BB .range ds=gc .range ds:=rfl
theorem J0{ds:List Val}:BB .enum ds=gc .enum ds:=rfl
theorem Nj{vs:List Val}:gc .enum [.rl vs]=some (cF 0 vs):=rfl
theorem Gj{vs:List Val}{lo hi:Option Int}:zE (.rl vs) lo hi=.ok (bz (cW vs lo hi),.rl (cW vs lo hi)):=rfl
theorem bY{i:Nat}{d:Val}{env:aF}:cG (.one i) d env=some (env.set i (some (.sh,d))):=rfl
theorem J1{i j:Nat}{d e:Val}{env:aF}:cG (.tup [i,j]) (.tup [d,e]) env=some ((env.set i (some (.sh,d))).set j (some (.sh,e))):=rfl
theorem uG{α β:Type}(f:α -> β)(ds:List α)(lo hi:Option Int):cW (ds.map f) lo hi=(cW ds lo hi).map f:=by
 unfold cW;simp only[List.length_map,List.map_take,List.map_drop]
theorem BS{α:Type}(ds:List α)(lo hi:Option Int):(cW ds lo hi).length<=ds.length:=by
 unfold cW;simp only[List.length_take,List.length_drop];omega
theorem jR:∀(i:Nat) (ds:List Val),(cF i ds).length=ds.length
 | _,[]=>rfl
 | i,d::r=>by rw[cF,List.length_cons,jR (i+1) r,List.length_cons]
theorem lq{α β γ:Type}{f:β -> Option γ}{g:α -> β}{k:α -> γ}:∀(xs:List α),(∀x∈xs,f (g x)=some (k x))->cg f (xs.map g)=some (xs.map k)
 | [],_=>rfl
 | x::r,h=>by
  rw[List.map_cons,cg,h x List.mem_cons_self,lq r fun y hy=>h y (List.mem_cons_of_mem _ hy)];rfl
theorem ints_map(xs:List Int):aQ (xs.map .int)=some xs:=by
 have:=lq (f:=fun v=>match v with|.int i=>some i|_=>none) (g:=Val.int) (k:=id) xs fun _ _=>rfl
 rw[List.map_id] at this;exact this
theorem wC(m9:List (List Int))(h:∀k∈m9,k≠[])(hl:m9.length<64):fq (m9.map kL)=some ((kK m9).map kL):=by
 unfold fq
 rw[if_pos (by rw[List.length_map];exact hl)]
 cases m9 with
 | nil=>rfl
 | cons k r =>
  have e:aQ (List.map kL (k::r))=none:=by
   unfold aQ ;rw[List.map_cons,cg];rfl
  rw[e]
  have e2:j3 (List.map kL (k::r))=some (k::r):=by
   have:=lq (f:=fun v=>match v with|.tup vs=>if vs.isEmpty then none else aQ vs|_=>none) (g:=kL) (k:=id) (k::r) fun x hx=>by
    have hx:=h x hx
    show (if (x.map Val.int).isEmpty=true then none else aQ (x.map .int))=some x
    rw[if_neg (by simpa using hx),ints_map]
   rw[List.map_id] at this;exact this
  show (j3 (List.map kL (k::r))).bind _=_
  rw[e2];rfl
theorem BU{α:Type}{n:Nat}{h:Hs}(f:α -> Val)(g:α -> PyData)(xs:List α)(e:∀x∈xs,toD n h (f x)=some (g x)):toD (n+1) h (.rl (xs.map f))=some (.list (xs.map g)):=by
 show (cg (toD n h) _).bind _=_
 rw[lq xs e];rfl
theorem o7{α:Type}(g:α -> PyData):∀(xs:List α),(∀x∈xs,(g x).canLay0=true)->PyData.canLayAll0 (xs.map g)=true
 | [],_=>by simp[PyData.canLayAll0]
 | x::r,h=>by
  rw[List.map_cons,PyData.canLayAll0,h x List.mem_cons_self,o7 g r fun y hy=>h y (List.mem_cons_of_mem _ hy)];rfl
end Hv
end
section
namespace Hv
open PySem L2
theorem qR{α:Type}(enc:α -> Val){body:Val->aF->Pr nE}(Q:List α -> aF->Prop):∀(us done:List α) (env:aF),Q done env->(∀(pre:List α) (u:α) (post:List α) (env:aF),done++us=pre++u::post->Q pre env->∃env',body (enc u) env=.ok (.nx env')/\Q (pre++[u]) env')->∃env',jb body (us.map enc) env=.ok (.nx env')/\Q (done++us) env'
 | [],done,env,q,_=>⟨env,rfl,by rw[List.append_nil];exact q⟩
 | x::xs,done,env,q,h=>by
  obtain⟨env',e,q'⟩:=h done x xs env rfl q
  have eq:done++x::xs=done++[x]++xs:=by simp
  obtain⟨gJ,e2,q2⟩:=qR enc Q xs (done++[x]) env' q' (by rw[<-eq];exact h)
  refine⟨gJ,?_,by rw[eq];exact q2⟩
  rw[List.map_cons,jb,e,gg];exact e2
theorem bP{α:Type}(enc:α -> Val){body:Val->aF->Pr nE}{us:List α}{m5:aF}{β:Type}{k:nE->Pr β}(G:Pr β -> Prop)(Q:List α -> aF->Prop)(h0:Q [] m5)
  (step:∀(pre:List α) (u:α) (post:List α) (env:aF),us=pre++u::post->Q pre env->∃env',body (enc u) env=.ok (.nx env')/\Q (pre++[u]) env')
  (post:∀env',Q us env'->G (k (.nx env'))):G (pb (jb body (us.map enc) m5) k):=by
 obtain⟨env',e,q⟩:=qR enc Q us [] m5 h0 (fun pre x post env ep q=>step pre x post env ep q)
 rw[e,gg]
 exact post env' q
theorem fW:∀{l m:List Int},l.Nodup->(∀x∈l,x∈m)->l.length<=m.length
 | [],_,_,_=>Nat.zero_le _
 | x::r,m,h,hs=>by
  rw[List.nodup_cons] at h
  have hx:x∈m:=hs x List.mem_cons_self
  have:=fW (m:=m.erase x) h.2 fun y hy=>(List.mem_erase_of_ne (fun e:y=x=>h.1 (e▸hy))).mpr (hs y (List.mem_cons_of_mem _ hy))
  rw[List.length_erase_of_mem hx] at this
  have:=List.length_pos_of_mem hx
  rw[List.length_cons]
  omega
noncomputable abbrev j8(xs:List Int)(g:Int->Val):Val:=.dc (xs.map Sum.inl) (xs.map g)
noncomputable def mq(g:Int->Val)(x:Int)(v:Val):Int->Val:=fun y=>if y=x then v else g y
theorem sG(xs:List Int)(g:Int->Val):(xs.map (Sum.inl:Int->Key)).zip (xs.map g)=xs.map fun x=>((Sum.inl x:Key),g x):=by
 induction xs with
 | nil=>rfl
 | cons x r ih=>simp only[List.map_cons,List.zip_cons_cons,ih]
theorem mw{xs:List Int}{g:Int->Val}{x:Int}(h:x∈xs):iM [] (j8 xs g) (.int x)=some (g x):=by
 show bQ _ _=_
 rw[sG]
 unfold bQ
 induction xs with
 | nil=>simp at h
 | cons y r ih =>
  rw[List.map_cons,List.find?_cons]
  by_cases e:y=x
  ·subst e;simp
  ·have:((Sum.inl y:Key)=Sum.inl x)=False:=by simp[e]
   simp only[this,decide_false]
   exact ih (by rcases List.mem_cons.mp h with h|h;exact absurd h.symm e;exact h)
theorem wD(xs:List Int)(g:Int->Val)(x:Int):((xs.map fun x=>((Sum.inl x:Key),g x)).any fun kv=>decide (kv.1=Sum.inl x))=decide (x∈xs):=by
 induction xs with
 | nil=>rfl
 | cons y r ih =>
  rw[List.map_cons,List.any_cons,ih]
  by_cases e:y=x
  ·subst e;simp
  ·have e':¬ x=y:=fun h=>e h.symm
   simp[e,e']
theorem sH{xs:List Int}{g:Int->Val}{x:Int}{v:Val}(h:x∈xs):putD (xs.map Sum.inl) (xs.map g) (.inl x) v=j8 xs (mq g x v):=by
 unfold putD f7
 rw[sG,wD,if_pos (by simpa using h)]
 unfold j8
 rw[List.map_map,List.map_map]
 congr 1
 ·refine List.map_congr_left fun y _=>?_
  show ((if (Sum.inl y:Key)=Sum.inl x then ((Sum.inl y:Key),v) else (Sum.inl y,g y)).1)=_
  split<;>rfl
 ·rw[List.map_map,List.map_map]
  refine List.map_congr_left fun y _=>?_
  show ((if (Sum.inl y:Key)=Sum.inl x then ((Sum.inl y:Key),v) else (Sum.inl y,g y)).2)=_
  unfold mq
  by_cases e:y=x
  ·rw[if_pos (by rw[e]),if_pos e]
  ·rw[if_neg (by simpa using e),if_neg e]
theorem sI{xs:List Int}{g:Int->Val}{x:Int}{v:Val}(h:x∉xs):putD (xs.map Sum.inl) (xs.map g) (.inl x) v=j8 (xs++[x]) (mq g x v):=by
 unfold putD f7
 rw[sG,wD,if_neg (by simpa using h)]
 unfold j8
 simp only[List.map_append,List.map_map,List.map_cons,List.map_nil]
 congr 1
 congr 1
 ·refine List.map_congr_left fun y hy=>?_
  show g y=mq g x v y
  unfold mq
  rw[if_neg (fun e:y=x=>h (e▸hy))]
 ·simp[mq]
theorem cD{xs:List Int}{g g':Int->Val}(h:∀x∈xs,g x=g' x):j8 xs g=j8 xs g':=by
 unfold j8;rw[List.map_congr_left h]
theorem o8{x:Int}:keyOf (.int x)=some (.inl x):=rfl
theorem E4(a b:Int):PyData.eqv (.int a) (.int b)=decide (a=b):=by
 show (a==b)=_
 by_cases h:a=b<;>simp[h]
theorem Nk{xs:List Int}{x:Int}:cop [] .zh (.int x) (.rl (xs.map .int))=some (decide (x∈xs)):=by
 show (toD 16 [] (.rl (xs.map .int))).bind _=_
 rw[BU Val.int PyData.int xs fun _ _=>rfl]
 show some ((xs.map PyData.int).any fun y=>PyData.eqv y (.int x))=_
 congr 1
 induction xs with
 | nil=>rfl
 | cons y r ih =>
  rw[List.map_cons,List.any_cons,ih,E4]
  by_cases e:y=x
  ·subst e;simp
  ·have e':¬ x=y:=fun h=>e h.symm
   simp[e,e']
theorem J2{xs:List Int}{x:Int}:cop [] .nin (.int x) (.rl (xs.map .int))=some (!decide (x∈xs)):=by
 show (cop [] .zh (.int x) (.rl (xs.map .int))).map _=_
 rw[Nk];rfl
theorem o9(x:Int):∀(ns ks:List Int),x∈dQ ks ns↔x∈ks\/x∈ns
 | [],ks=>by simp[dQ]
 | k::r,ks=>by
  rw[dQ,o9 x r,dY]
  split
  ·rename_i h
   constructor
   ·rintro(h'|h')
    ·exact .inl h'
    ·exact .inr (List.mem_cons_of_mem _ h')
   ·rintro(h'|h')
    ·exact .inl h'
    ·rcases List.mem_cons.mp h' with h'|h'
     ·exact .inl (h'▸h)
     ·exact .inr h'
  ·simp[or_assoc]
theorem fc:∀(ns ks:List Int),ks.Nodup->(dQ ks ns).Nodup
 | [],ks,h=>h
 | k::r,ks,h=>by
  rw[dQ]
  refine fc r _ ?_
  rw[dY]
  split
  ·exact h
  ·rename_i hk
   rw[List.nodup_append]
   exact⟨h,by simp,fun a ha b hb=>by simp at hb;subst hb;exact fun e=>hk (e▸ha)⟩
noncomputable def di(ns:List Int):List Int:=PySem.W.sortI (dQ [] ns)
theorem BV(x:Int)(ns:List Int):x∈di ns↔x∈ns:=by
 unfold di
 rw[(PySem.W.sortI_perm _).mem_iff,o9];simp
theorem ku(ns:List Int):(di ns).Nodup:=by
 unfold di
 rw[(PySem.W.sortI_perm _).nodup_iff]
 exact fc ns [] List.nodup_nil
inductive Way (es:List (Int×Int)):Int->Int->Prop
 | refl (a:Int):Way es a a
 | fwd {a b c:Int}:Way es a b->(b,c)∈es->Way es a c
 | bwd {a b c:Int}:Way es a b->(c,b)∈es->Way es a c
theorem Way.trans{es:List (Int×Int)}{a b c:Int}(h:Way es a b)(k:Way es b c):Way es a c:=by
 induction k with
 | refl=>exact h
 | fwd _ m ih=>exact .fwd ih m
 | bwd _ m ih=>exact .bwd ih m
theorem Way.symm{es:List (Int×Int)}{a b:Int}(h:Way es a b):Way es b a:=by
 induction h with
 | refl=>exact .refl _
 | fwd _ m ih=>exact(Way.bwd (.refl _) m).trans ih
 | bwd _ m ih=>exact(Way.fwd (.refl _) m).trans ih
theorem Way.mono{es fs:List (Int×Int)}(hs:∀e∈es,e∈fs){a b:Int}(h:Way es a b):Way fs a b:=by
 induction h with
 | refl=>exact .refl _
 | fwd _ m ih=>exact .fwd ih (hs _ m)
 | bwd _ m ih=>exact .bwd ih (hs _ m)
theorem Way.const{es:List (Int×Int)}{α:Type}(f:Int -> α)(hf:∀e∈es,f e.1=f e.2){a b:Int}(h:Way es a b):f a=f b:=by
 induction h with
 | refl=>rfl
 | fwd _ m ih=>exact ih.trans (hf _ m)
 | bwd _ m ih=>exact ih.trans (hf _ m).symm
structure lC (ps:List Int) (es:List (Int×Int)) (f:Int->Int):Prop where
 zh:∀x∈ps,f x∈ps
 way:∀x∈ps,Way es x (f x)
 same:∀e∈es,f e.1=f e.2
theorem lC.iff{ps:List Int}{es:List (Int×Int)}{f:Int->Int}(h:lC ps es f){x y:Int}(hx:x∈ps)(hy:y∈ps):f x=f y↔Way es x y:=by
 constructor
 ·intro e
  have:=(h.way y hy).symm
  rw[<-e] at this
  exact(h.way x hx).trans this
 ·exact fun w=>w.const f h.same
theorem lC.start(ps:List Int):lC ps [] id:=⟨fun x h=>h,fun x _=>.refl x,fun e h=>by simp at h⟩
theorem lC.step{ps:List Int}{es:List (Int×Int)}{f:Int->Int}(h:lC ps es f){a b:Int}(ha:a∈ps)(hb:b∈ps)(kept gone:Int)(hk:(kept=f a/\gone=f b)\/(kept=f b/\gone=f a)):lC ps (es++[(a,b)]) (fun x=>if f x=gone then kept else f x):=by
 have up:∀{x y},Way es x y->Way (es++[(a,b)]) x y:=fun w=>w.mono fun e he=>List.mem_append_left _ he
 have ab:Way (es++[(a,b)]) a b:=.fwd (.refl _) (by simp)
 refine⟨fun x hx=>?_,fun x hx=>?_,fun e he=>?_⟩
 ·split
  ·rcases hk with ⟨k,_⟩|⟨k,_⟩<;>rw[k]<;>exact h.zh _ (by assumption)
  ·exact h.zh x hx
 ·split
  ·rename_i e
   have w1:=up (h.way x hx)
   rw[e] at w1
   refine w1.trans ?_
   rcases hk with ⟨k,g⟩|⟨k,g⟩
   ·rw[k,g];exact((up (h.way b hb)).symm.trans ab.symm).trans (up (h.way a ha))
   ·rw[k,g];exact((up (h.way a ha)).symm.trans ab).trans (up (h.way b hb))
  ·exact up (h.way x hx)
 ·rcases List.mem_append.mp he with he|he
  ·rw[h.same e he]
  ·rw[List.mem_singleton] at he
   subst he
   rcases hk with ⟨k,g⟩|⟨k,g⟩
   ·rw[k,g];rw[if_pos (rfl:f b=f b)];split<;>rfl
   ·rw[k,g];rw[if_pos (rfl:f a=f a)];split<;>rfl
end Hv
end
section
namespace Hv
open PySem L2
noncomputable abbrev T3:=Int×Int×Int
noncomputable def l3(t:T3):List Int:=[t.1,t.2.1,t.2.2]
noncomputable def ck(t:T3):Val:=.tup [.int t.1,.int t.2.1,.int t.2.2]
noncomputable def pe(x:T3):List T3->List T3
 | []=>[x]
 | y::r=>if HT.lexLt (l3 y) (l3 x)=true then y::pe x r else x::y::r
noncomputable def iU:List T3->List T3
 | []=>[]
 | x::r=>pe x (iU r)
theorem uH(x:T3):∀l:List T3,rS (l3 x) (l.map l3)=(pe x l).map l3
 | []=>rfl
 | y::r=>by
  rw[List.map_cons,rS,pe]
  split
  ·rw[List.map_cons,uH x r]
  ·rfl
theorem qS:∀l:List T3,kK (l.map l3)=(iU l).map l3
 | []=>rfl
 | x::r=>by rw[List.map_cons,kK,qS r,uH];rfl
theorem mz(x:T3):∀l:List T3,(pe x l).Perm (x::l)
 | []=>.refl _
 | y::r=>by
  rw[pe]
  split
  ·exact((mz x r).cons y).trans (List.Perm.swap ..)
  ·exact .refl _
theorem ff:∀l:List T3,(iU l).Perm l
 | []=>.refl _
 | x::r=>(mz x _).trans ((ff r).cons x)
theorem E5(ts:List T3)(hl:ts.length<64):fq (ts.map ck)=some ((iU ts).map ck):=by
 have e:∀us:List T3,us.map ck=(us.map l3).map kL:=fun us=>by rw[List.map_map];rfl
 rw[e,wC _ (fun k hk=>by obtain⟨t,_,rfl⟩:=List.mem_map.mp hk;simp[l3]) (by rw[List.length_map];exact hl),qS,e]
theorem uI{ts:List T3}(hl:ts.length<64):gK .sorted [.rl (ts.map ck)]=.ok (true,.rl ((iU ts).map ck)):=by
 show pb (pl (fq _)) _=_
 rw[E5 ts hl];rfl
noncomputable def CU(ts:List T3):Prop:=ts.Pairwise fun a b=>a.1<b.1
theorem yb(x:T3):∀l:List T3,CU l->(∀y∈l,y.1≠x.1)->CU (pe x l)
 | [],_,_=>by simp[pe,CU]
 | y::r,h,hn=>by
  unfold CU at *
  rw[List.pairwise_cons] at h
  have ny:y.1≠x.1:=hn y List.mem_cons_self
  rw[pe]
  have lx:HT.lexLt (l3 y) (l3 x)=decide (y.1<x.1):=by
   show HT.lexLt (y.1::_) (x.1::_)=_
   rw[HT.eX,if_neg ny]
  rw[lx]
  by_cases c:y.1<x.1
  ·rw[if_pos (by simpa using c),List.pairwise_cons]
   refine⟨fun z hz=>?_,yb x r h.2 fun z hz=>hn z (List.mem_cons_of_mem _ hz)⟩
   rcases List.mem_cons.mp ((mz x r).mem_iff.mp hz) with hz|hz
   ·rw[hz];exact c
   ·exact h.1 z hz
  ·rw[if_neg (by simpa using c),List.pairwise_cons,List.pairwise_cons]
   refine⟨fun z hz=>?_,h⟩
   have:x.1<y.1:=by omega
   rcases List.mem_cons.mp hz with hz|hz
   ·rw[hz];exact this
   ·have:=h.1 z hz;omega
theorem uJ:∀l:List T3,(l.map (·.1)).Nodup->CU (iU l)
 | [],_=>.nil
 | x::r,h=>by
  rw[List.map_cons,List.nodup_cons] at h
  refine yb x _ (uJ r h.2) fun y hy e=>h.1 ?_
  rw[(ff r).mem_iff] at hy
  exact List.mem_map.mpr ⟨y,hy,e⟩
noncomputable def turnT(t:T3):T3:=(t.1,if t.2.2<t.2.1 then t.2.2 else t.2.1,if t.2.2>t.2.1 then t.2.2 else t.2.1)
noncomputable def bB(p q:Int)(ts:List T3):Val:=.tup [.tup [.int p,.int q],.rl (ts.map ck)]
theorem E6{i j k:Nat}{t:T3}{env:aF}:cG (.tup [i,j,k]) (ck t) env=some (((env.set i (some (.sh,.int t.1))).set j (some (.sh,.int t.2.1))).set k (some (.sh,.int t.2.2))):=rfl
theorem zL{α:Type}(ds:List α)(lo:Int)(n:Nat)(h:0<=lo):(cW ds (some lo) (some (lo+n))).length<=n:=by
 unfold cW HT.dU
 dsimp only
 rw[if_neg (by omega),if_neg (by omega)]
 simp only[List.length_take,List.length_drop]
 omega
theorem J3{t:T3}:zE (ck t) (some 1) none=.ok (true,.tup [.int t.2.1,.int t.2.2]):=rfl
theorem pq{α:Type}(enc:α -> Val)(g:α -> FV){f:Val->Pr (Option FV)}:∀(us:List α),(∀u∈us,f (enc u)=.ok (some (g u)))->iS f (us.map enc)=.ok (us.all fun u=>(g u).1,us.map fun u=>(g u).2)
 | [],_=>rfl
 | x::xs,h=>by
  rw[List.map_cons,iS,h x List.mem_cons_self,gg,pq enc g xs fun y hy=>h y (List.mem_cons_of_mem _ hy),gg]
  rfl
theorem kB{α:Type}(enc dec:α -> Val){f:Val->Pr (Option FV)}(us:List α)(h:∀u∈us,f (enc u)=.ok (some (true,dec u))):iS f (us.map enc)=.ok (true,us.map dec):=by
 rw[pq enc (fun u=>(true,dec u)) us h];simp
theorem kC{α:Type}(enc dec:α -> Val)(t:α -> Bool){f:Val->Pr (Option FV)}:∀(us:List α),(∀u∈us,f (enc u)=.ok (if t u=true then some (true,dec u) else none))->iS f (us.map enc)=.ok (true,(us.filter t).map dec)
 | [],_=>rfl
 | x::xs,h=>by
  rw[List.map_cons,iS,h x List.mem_cons_self,gg,kC enc dec t xs fun y hy=>h y (List.mem_cons_of_mem _ hy),gg]
  by_cases hx:t x=true
  ·rw[if_pos hx,List.filter_cons_of_pos hx];rfl
  ·rw[if_neg hx,List.filter_cons_of_neg hx]
theorem E7:∀m,m<67->∀d,d<67->0<m->0<d->(m*d)%67≠0:=by decide +kernel
theorem E8{m c i j:Int}(hm:0<m/\m<67)(hi:0<=i/\i<67)(hj:0<=j/\j<67)(e:(m*i+c)%67=(m*j+c)%67):i=j:=by
 have key:∀i j:Int,0<=i->j<67->i<j->(m*i+c)%67=(m*j+c)%67->False:=by
  intro i j h0 h1 hlt e
  obtain⟨a,ha⟩:=Int.eq_ofNat_of_zero_le (show 0<=m by omega)
  obtain⟨d,hd⟩:=Int.eq_ofNat_of_zero_le (show 0<=j-i by omega)
  have p:=E7 a (by omega) d (by omega) (by omega) (by omega)
  have:m*j=m*i+m*(j-i):=by rw[Int.mul_sub];omega
  rw[this] at e
  have e2:(m*(j-i))%67=0:=by omega
  rw[ha,hd] at e2
  apply p
  have:((a*d:Nat):Int)%67=0:=by rw[Int.natCast_mul];exact e2
  omega
 rcases Int.lt_trichotomy i j with h|h|h
 ·exact(key i j hi.1 hj.2 h e).elim
 ·exact h
 ·exact(key j i hj.1 hi.2 h e.symm).elim
theorem pB{α:Type}{f:Hs->Option α}{a:α}{h:Hs}(e:f h=some a):ask f h=.ok a h:=by show (match f h with|some a=>Out.ok a h|none=>Out.no)=_;rw[e]
theorem iQ{α β:Type}{f:Hs->Option α}{g:α -> M β}{a:α}{h:Hs}(e:f h=some a):bnd (ask f) g h=g a h:=ao (pB e)
theorem nH{α β:Type}{o:Option α}{g:α -> M β}{a:α}{h:Hs}(e:o=some a):bnd (bw o) g h=g a h:=ao (by unfold bw;rw[e])
end Hv
end
section
namespace Hv
open PySem L2
noncomputable def E9:Val->Option (Int×Int×Int)
 | .tup [.int a,.int b,.int c]=>some (a,b,c)
 | _=>none
noncomputable def iy(kvs:List (Key×Val))(t:Int×Int×Int):List (Key×Val):=f7 kvs (.inl t.1) (.tup [.int t.2.1,.int t.2.2])
noncomputable def bU(p q:Int)(ts:List (Int×Int×Int)):List (Key×Val):=ts.foldl iy [(.inl (-1),.tup [.int p,.int q])]
noncomputable def pC(Ψ:Nat->List Val->Pr FV)(c jo jp:Nat)(ds:List Val):Pr FV:=match ds with
 | [net]=>(match Ψ jo [net] with
  | .ok (true,.tup [.tup [.int p,.int q],.rl ts])=>pb (pl (cg E9 ts)) fun es=>pg (decide (es.length<1000)) (match Ψ jp [.tup [.tup [.int p,.int q],.rl ts]] with
   | .ok (true,y)=>.ok (true,.ob c ["net","places","ends"] [.tup [.tup [.int p,.int q],.rl ts],y,.dc ((bU p q es).map (·.1)) ((bU p q es).map (·.2))])
   | _=>.no)
  | _=>.no)
 | _=>.no
noncomputable abbrev yc(n jo jp:Nat):cU:=.cons (.setF n (.var 0) "net" (.call jo (.cons (.var 1) .nil))) (.cons (.setF n (.var 0) "places" (.call jp (.cons (.fld n (.var 0) "net") .nil))) (.cons (.setF n (.var 0) "ends" (.dct1 (.con "THOUGHT" (.int (-1))) (.idx (.fld n (.var 0) "net") (.cst (.int 0)))))
 (.cons (.for (.tup [2,3,4]) .seq (.cons (.idx (.fld n (.var 0) "net") (.cst (.int 1))) .nil) (.cons (.di (.fld n (.var 0) "ends") (.var 2) (.tup (.cons (.var 3) (.cons (.var 4) .nil)))) .nil)) .nil)))
noncomputable def yd(t:Int×Int×Int):Val:=.tup [.int t.1,.int t.2.1,.int t.2.2]
theorem Fb{v:Val}{t:Int×Int×Int}(e:E9 v=some t):v=yd t:=by
 unfold E9 at e
 split at e
 ·cases e;rfl
 ·cases e
theorem uK:∀{vs:List Val} {ts:List (Int×Int×Int)},cg E9 vs=some ts->vs=ts.map yd
 | [],ts,e=>by cases e;rfl
 | v::vs,ts,e=>by
  rw[cg] at e
  obtain⟨t,e1,e⟩:=Option.bind_eq_some_iff.mp e
  obtain⟨r,e2,e⟩:=Option.bind_eq_some_iff.mp e
  cases e
  rw[Fb e1,uK e2];rfl
theorem sJ:∀ts:List (Int×Int×Int),bz (ts.map yd)=true
 | []=>rfl
 | t::r=>by rw[List.map_cons,bz,sJ r];rfl
theorem BW(kvs:List (Key×Val))(k:Key)(v:Val):(f7 kvs k v).length<=kvs.length+1:=by
 unfold f7
 split
 ·rw[List.length_map];omega
 ·rw[List.length_append];simp
theorem BX{k:Key}{v:Val}(hv:gZ v=true)(kvs:List (Key×Val))(h:∀kv∈kvs,gZ kv.2=true):∀kv∈f7 kvs k v,gZ kv.2=true:=by
 unfold f7
 intro kv hk
 split at hk
 ·obtain⟨z,hz,rfl⟩:=List.mem_map.mp hk
  split
  ·exact hv
  ·exact h z hz
 ·rcases List.mem_append.mp hk with hk|hk
  ·exact h kv hk
  ·rw[List.mem_singleton.mp hk];exact hv
theorem uL:∀(ts:List (Int×Int×Int)) (kvs:List (Key×Val)),(∀kv∈kvs,gZ kv.2=true)->∀kv∈ts.foldl iy kvs,gZ kv.2=true
 | [],kvs,h=>h
 | t::r,kvs,h=>uL r _ (BX rfl kvs h)
theorem uM:∀{vs:List Val},(∀v∈vs,gZ v=true)->bz vs=true
 | [],_=>rfl
 | v::vs,h=>by rw[bz,h v List.mem_cons_self,uM fun w hw=>h w (List.mem_cons_of_mem _ hw)];rfl
section
variable {Φ:Nat->List Val->M Val} {Ψ:Nat->List Val->Pr FV}
theorem qT{n c D L E:Nat}{ts:List (Int×Int×Int)}{fs:List (Str×Val)}(hc:c<n)(hf:fs.lookup ("ends":Str)=some (Val.ref E))(J4:ts.length<1000)(SY:D≠E)(Qm:L≠E) :
  ∀(m j:Nat) (kvs:List (Key×Val)) (env:Env) (h h':Hs),m+j=ts.length->kvs.length<=j+1->env[0]?=some (some (.ref D))->4<env.length->h[D]?=some (.ins c fs)->h[L]?=some (.lst (ts.map yd))->h'.length=h.length->(∀k,k≠E->h'[k]?=h[k]?)->h'[E]?=some (.dct kvs) ->
  ∃env' h2,forM (.live L) (fun x env=>bnd (bw (fu (.tup [2,3,4]) x env)) fun env'=>dm Φ (.cons (.di (.fld n (.var 0) "ends") (.var 2) (.tup (.cons (.var 3) (.cons (.var 4) .nil)))) .nil) env') m j env h'=.ok (.nx env') h2 /\
   h2.length=h.length/\(∀k,k≠E->h2[k]?=h[k]?)/\h2[E]?=some (.dct ((ts.drop j).foldl iy kvs))
 | 0,j,kvs,env,h,h',hm,hk,he,hl,hD,hL,h1,h2,h3=>by
  refine⟨env,h',?_,h1,h2,?_⟩
  ·rw[forM,iQ (a:=ts.map yd) (cj (by rw[h2 L Qm];exact hL))]
   unfold aD
   rw[if_pos (decide_eq_true (by rw[List.length_map];omega))]
   rfl
  ·rw[List.drop_of_length_le (by omega)];exact h3
 | m+1,j,kvs,env,h,h',hm,hk,he,hl,hD,hL,h1,h2,h3=>by
  have hj:j<ts.length:=by omega
  have hE:E<h'.length:=(List.getElem?_eq_some_iff.mp h3).1
  let fU:Env:=((env.set 2 (some (.int ts[j].1))).set 3 (some (.int ts[j].2.1))).set 4 (some (.int ts[j].2.2))
  have b1:fu (.tup [2,3,4]) (yd ts[j]) env=some fU:=rfl
  have g0:fU[0]?=some (some (.ref D)):=by
   show (((env.set 2 _).set 3 _).set 4 _)[0]?=_
   rw[List.getElem?_set_ne (by omega),List.getElem?_set_ne (by omega),List.getElem?_set_ne (by omega)];exact he
  have g2:fU[2]?=some (some (.int ts[j].1)):=by
   show (((env.set 2 _).set 3 _).set 4 _)[2]?=_
   rw[List.getElem?_set_ne (by omega),List.getElem?_set_ne (by omega),List.getElem?_set_self (by omega)]
  have g3:fU[3]?=some (some (.int ts[j].2.1)):=by
   show (((env.set 2 _).set 3 _).set 4 _)[3]?=_
   rw[List.getElem?_set_ne (by omega),List.getElem?_set_self (by rw[List.length_set];omega)]
  have g4:fU[4]?=some (some (.int ts[j].2.2)):=by
   show (((env.set 2 _).set 3 _).set 4 _)[4]?=_
   rw[List.getElem?_set_self (by rw[List.length_set,List.length_set];omega)]
  have U4:aG Φ (.fld n (.var 0) "ends") fU h'=.ok (.ref E) h':=by
   rw[aG,ao (bK g0)]
   refine pB (f:=fun h=>gG n h (.ref D) "ends") ?_
   unfold gG;dsimp only;rw[h2 D SY,hD];dsimp only;rw[if_pos hc];exact hf
  have U5:aG Φ (.tup (.cons (.var 3) (.cons (.var 4) .nil))) fU h'=.ok (.tup [.int ts[j].2.1,.int ts[j].2.2]) h':=by
   rw[aG,ao (a:=[.int ts[j].2.1,.int ts[j].2.2]) (h1:=h')]
   ·unfold aD;rw[if_pos (decide_eq_true (show ([Val.int ts[j].2.1,Val.int ts[j].2.2]:List Val).length<=sizeLine from(by decide:2<=sizeLine)))];rfl
   ·rw[aR,ao (bK g3),aR]
    rw[show bnd (bnd (aG Φ (.var 4) fU) fun d=>bnd (aR Φ .nil fU) fun ds=>ret (d::ds)) (fun ds=>ret (Val.int ts[j].2.1::ds)) h'=_ from ao (a:=[.int ts[j].2.2]) (h1:=h') (by rw[ao (bK g4),aR];rfl)]
    rfl
  have st:dm Φ (.cons (.di (.fld n (.var 0) "ends") (.var 2) (.tup (.cons (.var 3) (.cons (.var 4) .nil)))) .nil) fU h'=.ok (.nx fU) (h'.set E (.dct (iy kvs ts[j]))):=by
   rw[dm,ao (a:=Fl.nx fU) (h1:=h'.set E (.dct (iy kvs ts[j])))]
   ·dsimp only;rw[dm];rfl
   ·rw[dZ,ao U5,ao U4,ao (bK g2)]
    rw[ao (a:=()) (h1:=h'.set E (.dct (iy kvs ts[j])))]
    ·rfl
    ·unfold mP;dsimp only
     rw[iQ (f:=fun h=>h[E]?) h3]
     dsimp only
     rw[nH (o:=keyOf (.int ts[j].1)) (a:=.inl ts[j].1) rfl]
     unfold aD
     rw[if_pos (decide_eq_true (by unfold sizeLine;omega))]
     rfl
  have hlen:(iy kvs ts[j]).length<=j+1+1:=Nat.le_trans (BW _ _ _) (by omega)
  obtain⟨gJ,h4,r1,r2,r3,r4⟩:=qT hc hf J4 SY Qm m (j+1) (iy kvs ts[j]) fU h (h'.set E (.dct (iy kvs ts[j]))) (by omega) hlen g0 (by show 4<(((env.set 2 _).set 3 _).set 4 _).length;simp;omega) hD hL (by simp[h1])
   (fun k hk=>by rw[List.getElem?_set_ne fun z=>hk z.symm];exact h2 k hk) (List.getElem?_set_self hE)
  refine⟨gJ,h4,?_,r2,r3,?_⟩
  ·rw[forM,iQ (a:=ts.map yd) (cj (by rw[h2 L Qm];exact hL))]
   rw[show (ts.map yd)[j]?=some (yd ts[j]) by rw[List.getElem?_map,List.getElem?_eq_getElem hj];rfl]
   dsimp only
   rw[ao (a:=Fl.nx fU) (h1:=h'.set E (.dct (iy kvs ts[j])))]
   ·exact r1
   ·rw[nH b1];exact st
  ·rw[List.drop_eq_getElem_cons hj,List.foldl_cons];exact r4
theorem nI{n c i:Nat}{env:Env}{x:Str}{v:Val}{fs:List (Str×Val)}{h:Hs}(hc:c<n)(g:h[i]?=some (.ins c fs))(hl:fs.length<1000):bnd (xC n (.ref i) x v) (fun _=>ret (Fl.nx env)) h=.ok (.nx env) (h.set i (.ins c (oG x v fs))):=by
 unfold xC;dsimp only
 rw[bf,iQ (a:=(c,fs)) (by rw[g];dsimp only;rw[if_pos hc])]
 dsimp only
 unfold bnd aD
 rw[if_pos (decide_eq_true hl)]
 rfl
theorem BY{n c jo jp:Nat}(hc:c<n)(hΦ:∀j,Imp (Φ j) (Ψ j)){A:AP}{h:Hs}{net v y:Val}{p q':Int}{ts:List Val}{es:List (Int×Int×Int)}(u:Up A h)(qn:Dn A h net v)(e1:Ψ jo [net]=.ok (true,.tup [.tup [.int p,.int q'],.rl ts]))(e2:cg E9 ts=some es)(hz:es.length<1000)
  (e3:Ψ jp [.tup [.tup [.int p,.int q'],.rl ts]]=.ok (true,y)):∃(h8:Hs) (V1 v2 vE:Val),jm Φ 5 (yc n jo jp) [.ref h.length,v] (h++[Ob.ins c []])=.ok .non h8/\h<+:h8/\h8[h.length]?=some (.ins c [("net",V1),("places",v2),("ends",vE)]) /\
   ∀B:AP,(∀k,h.length+1<=k->B (some k))->aj B h8 [.tup [.tup [.int p,.int q'],.rl ts],y,.dc ((bU p q' es).map (·.1)) ((bU p q' es).map (·.2))] [V1,v2,vE]:=by
 have et:=uK e2
 have S0:h<+:h++[Ob.ins c []]:=List.prefix_append _ _
 have u1:=u.ext S0
 have R1:=hΦ jo A (h++[Ob.ins c []]) [net] [v] u1 (aj.cons (qn.ext S0) aj.nil)
 rw[e1] at R1
 obtain⟨v1,h2,f1,Qn,_,dF⟩:=R1
 have dA:=dF rfl
 clear dF
 have Jb:h2[h.length]?=some (.ins c []):=bO Qn (by simp)
 have l2:h.length+1<=h2.length:=by have:=Qn.length_le;simpa using this
 rw[Dn] at dA
 obtain⟨ws,rfl,dB⟩:=dA
 rw[aj] at dB
 obtain⟨w0,r0,rfl,d0,d1⟩:=dB
 obtain⟨w1,rfl,d5⟩:=aj.one d1
 clear d1
 have U6:w0=.tup [.int p,.int q']:=(eE _ _ (show gZ (.tup [.int p,.int q'])=true from rfl)).mp d0
 subst U6
 rw[Dn] at d5
 rcases d5 with ⟨_,_,z,_⟩|⟨L,ws,rfl,aL,gL,d6⟩
 ·exact False.elim z
 rw[et] at d6
 have U7:ws=es.map yd:=(aN _ _ (sJ es)).mp d6
 subst U7
 have hL:(h++[Ob.ins c []]).length<=L:=aL
 have hL':h.length+1<=L:=by simpa using hL
 have lL:L<h2.length:=(List.getElem?_eq_some_iff.mp gL).1
 let V1:Val:=.tup [.tup [.int p,.int q'],.ref L]
 let h3:Hs:=h2.set h.length (.ins c [("net",V1)])
 have KJ:h3[h.length]?=some (.ins c [("net",V1)]):=List.getElem?_set_self (by omega)
 have S4:h3[L]?=some (.lst (es.map yd)):=by
  show (h2.set _ _)[L]?=_
  rw[List.getElem?_set_ne (by omega)];exact gL
 have l3:h3.length=h2.length:=List.length_set
 have S5:Dn (Fr (h.length+1)) h3 (.tup [.tup [.int p,.int q'],.rl ts]) V1:=by
  rw[Dn]
  refine⟨_,rfl,aj.cons ((eE _ _ (show gZ (.tup [.int p,.int q'])=true from rfl)).mpr rfl) (aj.cons ?_ aj.nil)⟩
  rw[Dn]
  exact .inr ⟨L,_,rfl,hL',S4,by rw[et];exact(aN _ _ (sJ es)).mpr rfl⟩
 have R2:=hΦ jp (Fr (h.length+1)) h3 [.tup [.tup [.int p,.int q'],.rl ts]] [V1] (fun k hk=>by show h.length+1<=k;omega) (aj.cons S5 aj.nil)
 rw[e3] at R2
 obtain⟨v2,h4,f2,Nl,_,dG⟩:=R2
 have d2:=dG rfl
 clear dG
 have Mh:h4[h.length]?=some (.ins c [("net",V1)]):=bO Nl KJ
 have l4:h3.length<=h4.length:=Nl.length_le
 let h5:Hs:=h4.set h.length (.ins c [("net",V1),("places",v2)])
 have S6:h5[h.length]?=some (.ins c [("net",V1),("places",v2)]):=List.getElem?_set_self (by omega)
 have l5:h5.length=h4.length:=List.length_set
 let h6:Hs:=h5++[Ob.dct [(.inl (-1),.tup [.int p,.int q'])]]
 have U8:h6[h.length]?=some (.ins c [("net",V1),("places",v2)]):=bO (List.prefix_append _ _) S6
 have l6:h6.length=h5.length+1:=by show (h5++[_]).length=_;simp
 let FS:List (Str×Val):=[("net",V1),("places",v2),("ends",.ref h5.length)]
 let h7:Hs:=h6.set h.length (.ins c FS)
 have Qo:h7[h.length]?=some (.ins c FS):=List.getElem?_set_self (by omega)
 have l7:h7.length=h6.length:=List.length_set
 have U9:h7[h5.length]?=some (.dct [(.inl (-1),.tup [.int p,.int q'])]):=by
  show (h6.set _ _)[h5.length]?=_
  rw[List.getElem?_set_ne (by omega)]
  show (h5++[_])[h5.length]?=_
  simp
 have hk7:∀k,k≠h.length->k<h4.length->h7[k]?=h4[k]?:=fun k n1 n2=>by
  show (h6.set _ _)[k]?=_
  rw[List.getElem?_set_ne fun z=>n1 z.symm]
  show (h5++[_])[k]?=_
  rw[List.getElem?_append_left (by omega)]
  show (h4.set _ _)[k]?=_
  rw[List.getElem?_set_ne fun z=>n1 z.symm]
 have Va:h4[L]?=some (.lst (es.map yd)):=bO Nl S4
 have S7:h7[L]?=some (.lst (es.map yd)):=by rw[hk7 L (by omega) (by omega)];exact Va
 let env:Env:=[some (.ref h.length),some v,none,none,none]
 have k1:("ends":Str) ≠ "net":=by decide
 obtain⟨env',h8,lp,l8,k8,d8⟩:=qT (Φ:=Φ) (fs:=FS) (ts:=es) hc (by rfl) hz (by omega) (by omega) es.length 0 [(.inl (-1),.tup [.int p,.int q'])] env h7 h7 (by omega) (by simp) rfl (by decide:4<5) Qo S7 rfl (fun _ _=>rfl) U9
 have fldN:∀(g:Hs) (fs:List (Str×Val)),g[h.length]?=some (.ins c (("net",V1)::fs))->aG Φ (.fld n (.var 0) "net") env g=.ok V1 g:=fun g fs hg=>by
  rw[aG,ao (bK rfl)]
  refine pB (f:=fun h'=>gG n h' (.ref h.length) "net") ?_
  unfold gG;dsimp only;rw[hg];dsimp only;rw[if_pos hc];rfl
 have s1:dZ Φ (.setF n (.var 0) "net" (.call jo (.cons (.var 1) .nil))) env (h++[Ob.ins c []])=.ok (.nx env) h3:=by
  have e:aG Φ (.call jo (.cons (.var 1) .nil)) env (h++[Ob.ins c []])=.ok V1 h2:=by
   rw[aG,ao (a:=[v]) (h1:=h++[Ob.ins c []])]
   ·exact f1
   ·rw[aR,ao (bK rfl),aR];rfl
  rw[dZ,ao e,ao (bK rfl)]
  exact nI hc Jb (by decide)
 have s2:dZ Φ (.setF n (.var 0) "places" (.call jp (.cons (.fld n (.var 0) "net") .nil))) env h3=.ok (.nx env) h5:=by
  have e:aG Φ (.call jp (.cons (.fld n (.var 0) "net") .nil)) env h3=.ok v2 h4:=by
   rw[aG,ao (a:=[V1]) (h1:=h3)]
   ·exact f2
   ·rw[aR,ao (fldN h3 [] KJ),aR];rfl
  rw[dZ,ao e,ao (bK rfl)]
  exact nI hc Mh (by decide:1<1000)
 have s3:dZ Φ (.setF n (.var 0) "ends" (.dct1 (.con "THOUGHT" (.int (-1))) (.idx (.fld n (.var 0) "net") (.cst (.int 0))))) env h5=.ok (.nx env) h7:=by
  have e0:aG Φ (.idx (.fld n (.var 0) "net") (.cst (.int 0))) env h5=.ok (.tup [.int p,.int q']) h5:=by
   rw[aG,ao (fldN h5 _ S6),ao (a:=.int 0) (h1:=h5) (by rw[aG];rfl)]
   rfl
  have e:aG Φ (.dct1 (.con "THOUGHT" (.int (-1))) (.idx (.fld n (.var 0) "net") (.cst (.int 0)))) env h5=.ok (.ref h5.length) h6:=by
   rw[aG,ao (a:=.int (-1)) (h1:=h5) (by rw[aG];rfl),nH (o:=keyOf (.int (-1))) (a:=.inl (-1)) rfl,ao e0]
   rfl
  rw[dZ,ao e,ao (bK rfl)]
  exact nI hc U8 (by decide:2<1000)
 have s4:dZ Φ (.for (.tup [2,3,4]) .seq (.cons (.idx (.fld n (.var 0) "net") (.cst (.int 1))) .nil) (.cons (.di (.fld n (.var 0) "ends") (.var 2) (.tup (.cons (.var 3) (.cons (.var 4) .nil)))) .nil)) env h7=.ok (.nx env') h8:=by
  have e0:aG Φ (.idx (.fld n (.var 0) "net") (.cst (.int 1))) env h7=.ok (.ref L) h7:=by
   rw[aG,ao (fldN h7 _ Qo),ao (a:=.int 1) (h1:=h7) (by rw[aG];rfl)]
   rfl
  rw[dZ,ao (a:=[.ref L]) (h1:=h7)]
  ·rw[nH (o:=srcOf .seq [.ref L]) (a:=.live L) rfl,iQ (a:=es.map yd) (cj S7),List.length_map]
   exact lp
  ·rw[aR,ao e0,aR];rfl
 have run:jm Φ 5 (yc n jo jp) [.ref h.length,v] (h++[Ob.ins c []])=.ok .non h8:=by
  unfold jm
  rw[ao (a:=Fl.nx env') (h1:=h8)]
  ·rfl
  ·show dm Φ (yc n jo jp) env _=_
   rw[dm,ao s1];dsimp only
   rw[dm,ao s2];dsimp only
   rw[dm,ao s3];dsimp only
   rw[dm,ao s4];dsimp only
   rw[dm];rfl
 have Qp:∀k,k≠h.length->k<h4.length->h8[k]?=h4[k]?:=fun k n1 n2=>(k8 k (by omega)).trans (hk7 k n1 n2)
 have hpre:h<+:h8:=by
  refine List.prefix_iff_getElem?.mpr fun i hi=>?_
  have Vb:i<h4.length:=by omega
  rw[Qp i (by omega) Vb]
  have:(h2.set h.length (.ins c [("net",V1)]))[i]?=h2[i]?:=List.getElem?_set_ne (by omega)
  have Vc:h4[i]?=h3[i]?:=fF Nl (by omega)
  rw[Vc,this,fF Qn (by simp;omega),List.getElem?_append_left hi,List.getElem?_eq_getElem hi]
 refine⟨h8,V1,v2,.ref h5.length,run,hpre,by rw[k8 _ (by omega)];exact Qo,fun B hB=>aj.cons ?_ (aj.cons ?_ (aj.cons ?_ aj.nil))⟩
 ·refine Dn.mono (A:=Fr (h.length+1)) (h:=h3) (fun o z=>?_) (fun k o a g=>?_) _ _ S5
  ·cases o with
   | none=>exact False.elim z
   | some k=>exact hB k z
  ·have a:h.length+1<=k:=a
   have:=(List.getElem?_eq_some_iff.mp g).1
   rw[Qp k (by omega) (by omega)];exact bO Nl g
 ·refine Dn.mono (A:=Fr h3.length) (h:=h4) (fun o z=>?_) (fun k o a g=>?_) _ _ d2
  ·cases o with
   | none=>exact False.elim z
   | some k=>exact hB k (by have:h3.length<=k:=z;omega)
  ·have a:h3.length<=k:=a
   have:=(List.getElem?_eq_some_iff.mp g).1
   rw[Qp k (by omega) (by omega)];exact g
 ·rw[Dn]
  refine⟨h5.length,bU p q' es,rfl,hB _ (by omega),?_,rfl,?_⟩
  ·rw[List.drop_zero] at d8;exact d8
  ·refine(aN _ _ (uM fun w hw=>?_)).mpr rfl
   obtain⟨kv,hkv,rfl⟩:=List.mem_map.mp hw
   exact uL es _ (fun kv hk=>by rw[List.mem_singleton.mp hk];rfl) kv hkv
noncomputable def qU(Ψ' Ψ:Nat->List Val->Pr FV)(c jo jp jt jr:Nat)(ds:List Val):Pr FV:=match pC Ψ' c jo jp ds with
 | .ok (_,.ob c' ns vs)=>(match Ψ jt [.ob c' ns vs] with
  | .ok (_,t)=>(match Ψ jr [.ob c' ns vs,t] with
   | .ok (_,.int m)=>.ok (true,.ob c' (ns++[("whole":Str)]) (vs++[.int m]))
   | _=>.no)
  | _=>.no)
 | _=>.no
noncomputable abbrev ye(n ji:Nat)(jst jsr:List (Nat×Nat)):cU:=.cons (.expr (.call ji (.cons (.var 0) (.cons (.var 1) .nil)))) (.cons (.setF n (.var 0) "whole" (.mth (.var 0) "tree_rank" jsr (.cons (.mth (.var 0) "ties" jst .nil) .nil))) .nil)
theorem BZ{c jo jp:Nat}{ds:List Val}{fw:FV}(e:pC Ψ c jo jp ds=.ok fw):∃net p q ts es y,ds=[net] /\ Ψ jo [net]=.ok (true,.tup [.tup [.int p,.int q],.rl ts])/\cg E9 ts=some es/\es.length<1000 /\ Ψ jp [.tup [.tup [.int p,.int q],.rl ts]]=.ok (true,y) /\
  fw=(true,.ob c ["net","places","ends"] [.tup [.tup [.int p,.int q],.rl ts],y,.dc ((bU p q es).map (·.1)) ((bU p q es).map (·.2))]):=by
 unfold pC at e
 split at e
 ·rename_i net
  split at e
  ·rename_i p q ts e1
   cases e2:cg E9 ts with
   | none=>rw[e2] at e;cases e
   | some es =>
    rw[e2] at e
    change pg (decide (es.length<1000)) _=_ at e
    unfold pg at e
    by_cases hz:es.length<1000
    ·rw[if_pos (decide_eq_true hz)] at e
     split at e
     ·rename_i y e3
      cases e
      exact⟨net,p,q,ts,es,y,rfl,e1,e2,hz,e3,rfl⟩
     ·cases e
    ·rw[if_neg (by simpa using hz)] at e;cases e
  ·cases e
 ·cases e
theorem B0{Ψ':Nat->List Val->Pr FV}{c c' jo jp jt jr:Nat}{ds vs:List Val}{ns:List Str}{f f1 f2:Bool}{t:Val}{m:Int}(e0:pC Ψ' c jo jp ds=.ok (f,.ob c' ns vs))(e1:Ψ jt [.ob c' ns vs]=.ok (f1,t))(e2:Ψ jr [.ob c' ns vs,t]=.ok (f2,.int m)):qU Ψ' Ψ c jo jp jt jr ds=.ok (true,.ob c' (ns++[("whole":Str)]) (vs++[.int m])):=by
 unfold qU
 rw[e0];dsimp only
 rw[e1];dsimp only
 rw[e2]
theorem B3{φ:List Val->M Val}:Imp φ (fun _=>.no):=fun _ _ _ _ _ _=>trivial
theorem B4{Φ':Nat->List Val->M Val}{Ψ':Nat->List Val->Pr FV}{n c ji jo jp jt jr:Nat}{jst jsr:List (Nat×Nat)}(hc:c<n)(Vd:∀j,Imp (Φ' j) (Ψ' j))(hΦ:∀j,Imp (Φ j) (Ψ j))(hji:Φ ji=jm Φ' 5 (yc n jo jp))(ht:jst.lookup c=some jt)(hr:jsr.lookup c=some jr) :
  Imp (HX c (jm Φ 2 (ye n ji jst jsr))) (qU Ψ' Ψ c jo jp jt jr):=fun A h ds vs u q=>by
 unfold qU
 cases e0:pC Ψ' c jo jp ds with
 | no=>trivial
 | exc _ _=>trivial
 | ok fw =>
  obtain⟨net,p,q',ts,es,y,rfl,e1,e2,hz,e3,rfl⟩:=BZ e0
  dsimp only
  obtain⟨v,rfl,qn⟩:=aj.one q
  obtain⟨h8,V1,v2,vE,r1,p8,g8,d8⟩:=BY (Φ:=Φ') (Ψ:=Ψ') hc Vd u qn e1 e2 hz e3
  have l8:=p8.length_le
  have b8:h.length<h8.length:=(List.getElem?_eq_some_iff.mp g8).1
  have dO:∀h',h8<+:h'->Dn (Fr h.length) h' (.ob c ["net","places","ends"] [.tup [.tup [.int p,.int q'],.rl ts],y,.dc ((bU p q' es).map (·.1)) ((bU p q' es).map (·.2))]) (.ref h.length):=fun h' p'=>by
   rw[Dn]
   exact⟨h.length,_,rfl,Nat.le_refl _,bO p' g8,rfl,aj.mono (fun _ a=>a) (fun _ _ _ g=>bO p' g) _ _ (d8 (Fr h.length) fun k hk=>show h.length<=k by omega)⟩
  have R1:=hΦ jt (Fr h.length) h8 _ _ (fun k hk=>show h.length<=k by omega) (aj.cons (dO h8 (List.prefix_refl _)) aj.nil)
  generalize hob:Val.ob c ["net","places","ends"] [.tup [.tup [.int p,.int q'],.rl ts],y,.dc ((bU p q' es).map (·.1)) ((bU p q' es).map (·.2))]=ob at R1 dO
  cases e4:Ψ jt [ob] with
  | no=>trivial
  | exc _ _=>trivial
  | ok ft =>
   obtain⟨f1,t⟩:=ft
   dsimp only
   rw[e4] at R1
   obtain⟨vt,h9,x1,p9,d9,_⟩:=R1
   have l9:=p9.length_le
   have R2:=hΦ jr (Fr h.length) h9 _ _ (fun k hk=>show h.length<=k by omega) (aj.cons (dO h9 p9) (aj.cons d9 aj.nil))
   cases e5:Ψ jr [ob,t] with
   | no=>trivial
   | exc _ _=>trivial
   | ok fm =>
    obtain⟨f2,m⟩:=fm
    rw[e5] at R2
    obtain⟨vm,Jc,x2,Ot,KN,dz⟩:=R2
    clear dz
    cases m<;>first|trivial|skip
    rename_i m
    have KN:Dn (Fr h.length) Jc (.int m) vm:=KN
    rw[Dn] at KN
    subst KN
    subst hob
    dsimp only
    have Ve:=bO (p9.trans Ot) g8
    have g9:=bO p9 g8
    have XH:=Ot.length_le
    let h11:Hs:=Jc.set h.length (.ins c [("net",V1),("places",v2),("ends",vE),("whole",.int m)])
    let env:Env:=[some (.ref h.length),some v]
    have mt:∀(g:Hs) (x:Str) (js:List (Nat×Nat)) (jj:Nat),g[h.length]?=some (.ins c [("net",V1),("places",v2),("ends",vE)])->("net":Str)≠x->("places":Str)≠x->("ends":Str)≠x->js.lookup c=some jj->lQ g (.ref h.length) x js=some jj:=fun g x js jj hg n1 n2 n3 hj=>by
     unfold lQ;dsimp only;rw[hg];dsimp only
     rw[if_pos]
     ·exact hj
     ·rw[List.lookup_cons,List.lookup_cons,List.lookup_cons,List.lookup_nil]
      rw[beq_eq_false_iff_ne.mpr n1.symm,beq_eq_false_iff_ne.mpr n2.symm,beq_eq_false_iff_ne.mpr n3.symm]
      rfl
    have s1:dZ Φ (.expr (.call ji (.cons (.var 0) (.cons (.var 1) .nil)))) env (h++[Ob.ins c []])=.ok (.nx env) h8:=by
     rw[dZ,ao (a:=.non) (h1:=h8)]
     ·rfl
     ·rw[aG,ao (a:=[.ref h.length,v]) (h1:=h++[Ob.ins c []])]
      ·rw[hji];exact r1
      ·rw[aR,ao (bK rfl),aR]
       rw[show bnd (bnd (aG Φ (.var 1) env) fun d=>bnd (aR Φ .nil env) fun ds=>ret (d::ds)) (fun ds=>ret (Val.ref h.length::ds)) (h++[Ob.ins c []])=_ from ao (a:=[v]) (h1:=h++[Ob.ins c []]) (by rw[ao (bK rfl),aR];rfl)]
       rfl
    have eT:aG Φ (.mth (.var 0) "ties" jst .nil) env h8=.ok vt h9:=by
     rw[aG,ao (bK rfl),iQ (a:=jt) (mt h8 _ _ _ g8 (by decide) (by decide) (by decide) ht),aR]
     exact x1
    have s2:dZ Φ (.setF n (.var 0) "whole" (.mth (.var 0) "tree_rank" jsr (.cons (.mth (.var 0) "ties" jst .nil) .nil))) env h8=.ok (.nx env) h11:=by
     have e:aG Φ (.mth (.var 0) "tree_rank" jsr (.cons (.mth (.var 0) "ties" jst .nil) .nil)) env h8=.ok (.int m) Jc:=by
      rw[aG,ao (bK rfl),iQ (a:=jr) (mt h8 _ _ _ g8 (by decide) (by decide) (by decide) hr),aR]
      rw[ao (a:=[vt]) (h1:=h9)]
      ·exact x2
      ·rw[ao eT,aR];rfl
     rw[dZ,ao e,ao (bK rfl)]
     exact nI hc Ve (by decide:3<1000)
    have run:HX c (jm Φ 2 (ye n ji jst jsr)) [v] h=.ok (.ref h.length) h11:=by
     show bnd (jm Φ 2 (ye n ji jst jsr) [.ref h.length,v]) _ (h++[Ob.ins c []])=_
     rw[ao (a:=.non) (h1:=h11)]
     ·rfl
     ·unfold jm
      rw[ao (a:=Fl.nx env) (h1:=h11)]
      ·rfl
      ·show dm Φ (ye n ji jst jsr) env _=_
       rw[dm,ao s1];dsimp only
       rw[dm,ao s2];dsimp only
       rw[dm];rfl
    have hpre:h<+:h11:=by
     refine List.prefix_iff_getElem?.mpr fun i hi=>?_
     show (Jc.set _ _)[i]?=_
     rw[List.getElem?_set_ne (by omega)]
     exact List.prefix_iff_getElem?.mp ((p8.trans p9).trans Ot) i hi
    have Vf:h11[h.length]?=some (.ins c [("net",V1),("places",v2),("ends",vE),("whole",.int m)]):=List.getElem?_set_self (by omega)
    have dn:∀B:AP,(∀k,h.length<=k->B (some k))->Dn B h11 (.ob c ((["net","places","ends"]:List Str)++[("whole":Str)]) ([.tup [.tup [.int p,.int q'],.rl ts],y,.dc ((bU p q' es).map (·.1)) ((bU p q' es).map (·.2))]++[.int m])) (.ref h.length):=fun B hB=>by
     rw[Dn]
     refine⟨h.length,_,rfl,hB _ (Nat.le_refl _),Vf,rfl,?_⟩
     have dd:=aj.mono (A':=B) (h':=h11) (fun o z=>?_) (fun k o a g=>?_) _ _ (d8 (Fr (h.length+1)) fun k hk=>hk)
     ·exact aj.app dd (aj.cons ((eE _ _ rfl).mpr rfl) aj.nil)
     ·cases o with
      | none=>exact False.elim z
      | some k=>exact hB k (by have:h.length+1<=k:=z;omega)
     ·have a:h.length+1<=k:=a
      show (Jc.set _ _)[k]?=_
      rw[List.getElem?_set_ne (by omega)]
      exact bO (p9.trans Ot) g
    exact⟨_,h11,run,hpre,dn A fun k hk=>u k hk,fun _=>dn _ fun k hk=>hk⟩
end
end Hv
end
section
namespace Hv
open PySem L2
noncomputable def cnt(φ:Int->Int)(ps:List Int):Nat:=(dQ [] (ps.map φ)).length
theorem fk{φ:Int->Int}{ps:List Int}{v:Int}:v∈dQ [] (ps.map φ)↔∃x∈ps,φ x=v:=by
 rw[o9];simp
theorem B5{f g:Int->Int}{ps:List Int}(h:∀x∈ps,∀y∈ps,g x=g y->f x=f y):cnt f ps<=cnt g ps:=by
 classical
 let r:Int->Int:=fun v=>if hv:∃x∈ps,f x=v then g (Classical.choose hv) else 0
 have hr:∀v∈dQ [] (ps.map f),∃x∈ps,f x=v/\r v=g x:=fun v hv=>by
  have e:=fk.mp hv
  refine⟨Classical.choose e,(Classical.choose_spec e).1,(Classical.choose_spec e).2,?_⟩
  show (if hv:∃x∈ps,f x=v then g (Classical.choose hv) else 0)=_
  rw[dif_pos e]
 have nd:((dQ [] (ps.map f)).map r).Nodup:=by
  have n0:=fc (ps.map f) [] List.nodup_nil
  revert hr n0
  generalize dQ [] (ps.map f)=l
  intro hr n0
  induction l with
  | nil=>exact List.nodup_nil
  | cons v l ih =>
   rw[List.nodup_cons] at n0
   rw[List.map_cons,List.nodup_cons]
   refine⟨fun hm=>?_,ih (fun w hw=>hr w (List.mem_cons_of_mem _ hw)) n0.2⟩
   obtain⟨w,hw,e⟩:=List.mem_map.mp hm
   obtain⟨x,hx,e1,e2⟩:=hr v (List.mem_cons_self ..)
   obtain⟨y,hy,e3,e4⟩:=hr w (List.mem_cons_of_mem _ hw)
   have:f x=f y:=h x hx y hy (by rw[<-e2,<-e4,e])
   exact n0.1 (by rw[<-e1,this,e3];exact hw)
 have:=fW nd (m:=dQ [] (ps.map g)) fun z hz=>by
  obtain⟨v,hv,rfl⟩:=List.mem_map.mp hz
  obtain⟨x,hx,_,e2⟩:=hr v hv
  rw[e2]
  exact fk.mpr ⟨x,hx,rfl⟩
 rw[List.length_map] at this
 exact this
theorem J5{f g:Int->Int}{ps:List Int}(h:∀x∈ps,∀y∈ps,f x=f y↔g x=g y):cnt f ps=cnt g ps :=
 Nat.le_antisymm (B5 fun x hx y hy=>(h x hx y hy).mpr) (B5 fun x hx y hy=>(h x hx y hy).mp)
theorem cnt_join{ψ:Int->Int}{ps:List Int}{a b:Int}(ha:a∈ps)(hb:b∈ps)(ne:ψ a ≠ ψ b):cnt (fun x=>if ψ x = ψ b then ψ a else ψ x) ps+1=cnt ψ ps:=by
 have m1:ψ b∈dQ [] (ps.map ψ):=fk.mpr ⟨b,hb,rfl⟩
 have n1:=fc (ps.map ψ) [] List.nodup_nil
 have n2:=fc (ps.map fun x=>if ψ x = ψ b then ψ a else ψ x) [] List.nodup_nil
 have Vg:=fW n2 (m:=(dQ [] (ps.map ψ)).erase (ψ b)) fun v hv=>by
  obtain⟨x,hx,e⟩:=fk.mp hv
  rw[List.Nodup.mem_erase_iff n1]
  by_cases c:ψ x = ψ b
  ·rw[if_pos c] at e;subst e;exact⟨ne,fk.mpr ⟨a,ha,rfl⟩⟩
  ·rw[if_neg c] at e;subst e;exact⟨c,fk.mpr ⟨x,hx,rfl⟩⟩
 have Vh:=fW (n1.erase (ψ b)) (m:=dQ [] (ps.map fun x=>if ψ x = ψ b then ψ a else ψ x)) fun v hv=>by
  rw[List.Nodup.mem_erase_iff n1] at hv
  obtain⟨x,hx,e⟩:=fk.mp hv.2
  subst e
  exact fk.mpr ⟨x,hx,by rw[if_neg hv.1]⟩
 rw[List.length_erase_of_mem m1] at Vg Vh
 have:=List.length_pos_of_mem m1
 unfold cnt
 omega
end Hv
end
section
namespace Hv
open PySem L2
theorem lC.fix{ps:List Int}{es:List (Int×Int)}{φ:Int->Int}(h:lC ps es φ){x:Int}(hx:x∈ps):φ (φ x) = φ x:=((h.way x hx).const φ h.same).symm
noncomputable def rk(φ:Int->Int)(ps:List Int):Nat:=(ps.filter fun x=>!decide (φ x=x)).length
theorem yf(t:Int->Bool):∀ps:List Int,(ps.filter t).length+(ps.filter fun x=>!t x).length=ps.length
 | []=>rfl
 | x::r=>by
  have ih:=yf t r
  cases h:t x with
  | true=>rw[List.filter_cons_of_pos h,List.filter_cons_of_neg (by simp[h]),List.length_cons,List.length_cons];omega
  | false=>rw[List.filter_cons_of_neg (by simp[h]),List.filter_cons_of_pos (by simp[h]),List.length_cons,List.length_cons];omega
theorem wF{ps:List Int}{es:List (Int×Int)}{φ:Int->Int}(h:lC ps es φ)(hn:ps.Nodup):rk φ ps+cnt φ ps=ps.length:=by
 have e:cnt φ ps=(ps.filter fun x=>decide (φ x=x)).length:=by
  unfold cnt
  refine Nat.le_antisymm (fW (fc _ [] List.nodup_nil) fun v hv=>?_) (fW (hn.filter _) fun v hv=>?_)
  ·obtain⟨x,hx,rfl⟩:=fk.mp hv
   exact List.mem_filter.mpr ⟨h.zh x hx,decide_eq_true (h.fix hx)⟩
  ·obtain⟨a,b⟩:=List.mem_filter.mp hv
   exact fk.mpr ⟨v,a,of_decide_eq_true b⟩
 rw[e]
 have:=yf (fun x=>decide (φ x=x)) ps
 unfold rk
 omega
theorem J6{ps:List Int}(hn:ps.Nodup):cnt id ps=ps.length:=by
 have h:=wF (lC.start ps) hn
 have:rk id ps=0:=by
  unfold rk
  rw[List.filter_eq_nil_iff.mpr fun x _=>by simp];rfl
 omega
theorem Gk{ps:List Int}{es:List (Int×Int)}{φ ψ:Int->Int}{n:Nat}(h1:lC ps es φ)(h2:lC ps es ψ)(hn:ps.Nodup)(e:n+cnt ψ ps=ps.length):n=rk φ ps:=by
 have c:cnt φ ps=cnt ψ ps:=J5 fun x hx y hy=>by rw[h1.iff hx hy,h2.iff hx hy]
 have:=wF h1 hn
 omega
theorem lC.zM{ps:List Int}{es:List (Int×Int)}{f:Int->Int}(h:lC ps es f){a b:Int}(ha:a∈ps)(hb:b∈ps)(e:f a=f b):lC ps (es++[(a,b)]) f:=by
 have:=h.step ha hb (f a) (f b) (.inl ⟨rfl,rfl⟩)
 have ef:(fun x=>if f x=f b then f a else f x)=f:=funext fun x=>by
  split
  ·rename_i c;rw[c,e]
  ·rfl
 rwa [ef] at this
theorem J7{xs:List Int}{g:Int->Val}{x:Int}:v5 [] (j8 xs g) (.inl x)=some (if x∈xs then some (g x) else none):=by
 unfold v5 j8
 dsimp only
 rw[sG]
 congr 1
 unfold bQ
 induction xs with
 | nil=>simp
 | cons y r ih =>
  rw[List.map_cons,List.find?_cons]
  by_cases e:y=x
  ·subst e;simp
  ·have:((Sum.inl y:Key)=Sum.inl x)=False:=by simp[e]
   have e':¬ x=y:=fun h=>e h.symm
   simp only[this,decide_false]
   rw[ih]
   simp[e']
theorem yg{ks:List Int}{ψ:Int->Int}{a:Int}:putD (ks.map Sum.inl) (ks.map fun x=>Val.int (ψ x)) (.inl a) (.int (ψ a))=j8 (dY ks a) fun x=>.int (ψ x):=by
 have eu:∀y,mq (fun x=>Val.int (ψ x)) a (.int (ψ a)) y=.int (ψ y):=fun y=>by
  unfold mq
  split
  ·rename_i e;rw[e]
  ·rfl
 unfold dY
 by_cases h:a∈ks
 ·rw[sH h,if_pos h];exact cD fun y _=>eu y
 ·rw[sI h,if_neg h];exact cD fun y _=>eu y
theorem iz{ks:List Int}{a x:Int}:x∈dY ks a↔x∈ks\/x=a:=by
 unfold dY
 split
 ·rename_i h
  exact⟨.inl,fun k=>k.elim id fun e=>e▸h⟩
 ·simp
theorem yh{ks:List Int}{a:Int}(h:ks.Nodup):(dY ks a).Nodup:=by
 unfold dY
 split
 ·exact h
 ·rename_i n
  rw[List.nodup_append]
  exact⟨h,by simp,fun x hx y hy e=>n (by rw[List.mem_singleton] at hy;rw[<-hy,<-e];exact hx)⟩
theorem jB(ks:List Int)(a:Int):(dY ks a).length<=ks.length+1:=by
 unfold dY
 split
 ·omega
 ·simp
theorem pD:∀ks:List Int,oB (ks.map Sum.inl)=some ks
 | []=>rfl
 | x::r=>by
  have ih:=pD r
  unfold oB at ih |-
  rw[List.map_cons,cg,ih];rfl
theorem B6{ks:List Int}{g:Int->Val}(h:ks.length<64):kq [] (j8 ks g)=some (PySem.W.sortI ks):=by
 unfold kq
 show (oB (ks.map Sum.inl)).bind _=_
 rw[pD]
 show (if ks.length<64 then some (PySem.W.sortI ks) else none)=_
 rw[if_pos h]
structure zN (ps ks:List Int) (es:List (Int×Int)) (ψ:Int->Int) (n:Nat):Prop where
 Fc:lC ps es ψ
 nd:ks.Nodup
 off:∀x,x∉ks -> ψ x=x
 zh:∀x∈ks,ψ x∈ks
 num:n+cnt ψ ps=ps.length
 len:ks.length<=2*es.length
theorem zN.start{ps:List Int}(hn:ps.Nodup):zN ps [] [] id 0:=⟨lC.start ps,List.nodup_nil,fun _ _=>rfl,fun x h=>by simp at h,by rw[J6 hn];omega,Nat.le_refl _⟩
theorem zN.stay{ps ks:List Int}{es:List (Int×Int)}{ψ:Int->Int}{n:Nat}(m:zN ps ks es ψ n){a b:Int}(ha:a∈ps)(hb:b∈ps)(e:ψ a = ψ b):zN ps ks (es++[(a,b)]) ψ n :=
 ⟨m.Fc.zM ha hb e,m.nd,m.off,m.zh,m.num,by have:=m.len;simp;omega⟩
theorem zN.join{ps ks:List Int}{es:List (Int×Int)}{ψ:Int->Int}{n:Nat}(m:zN ps ks es ψ n){a b:Int}(ha:a∈ps)(hb:b∈ps)(ne:ψ a ≠ ψ b):zN ps (dY (dY ks a) b) (es++[(a,b)]) (fun x=>if ψ x = ψ b then ψ a else ψ x) (n+1):=by
 have key:∀x,x∈ks\/x=a\/x=b -> ψ x∈dY (dY ks a) b:=fun x hx=>by
  rw[iz,iz]
  by_cases h:x∈ks
  ·exact .inl (.inl (m.zh x h))
  ·rw[m.off x h]
   rcases hx with hx|hx|hx
   ·exact absurd hx h
   ·exact .inl (.inr hx)
   ·exact .inr hx
 refine⟨m.Fc.step ha hb (ψ a) (ψ b) (.inl ⟨rfl,rfl⟩),yh (yh m.nd),fun x hx=>?_,fun x hx=>?_,?_,?_⟩
 ·have hx':x∉ks:=fun h=>hx (iz.mpr (.inl (iz.mpr (.inl h))))
  rw[m.off x hx']
  rw[if_neg]
  intro e
  exact hx (by rw[e];exact key b (.inr (.inr rfl)))
 ·split
  ·exact key a (.inr (.inl rfl))
  ·refine key x ?_
   rcases iz.mp hx with h|h
   ·rcases iz.mp h with h|h
    ·exact .inl h
    ·exact .inr (.inl h)
   ·exact .inr (.inr h)
 ·have:=cnt_join ha hb ne
  have:=m.num
  omega
 ·have h1:=jB (dY ks a) b
  have h2:=jB ks a
  have:=m.len
  simp;omega
end Hv
end
section
namespace Hv
open PySem L2
noncomputable def Vi(ps:List Int)(es:List (Int×Int)):Prop:=∀e∈es,e.1∈ps/\e.2∈ps
open Classical in
noncomputable def tr(ps:List Int)(es:List (Int×Int)):Nat:=if h:∃φ,lC ps es φ then rk (Classical.choose h) ps else 0
theorem Gm{ps:List Int}{es:List (Int×Int)}{φ:Int->Int}(h:lC ps es φ)(hn:ps.Nodup):tr ps es=rk φ ps:=by
 unfold tr
 have h':∃φ,lC ps es φ:=⟨φ,h⟩
 rw[dif_pos h']
 have h2:=Classical.choose_spec h'
 exact Gk h h2 hn (wF h2 hn)
theorem J8{ps:List Int}{es:List (Int×Int)}{ψ:Int->Int}{n:Nat}(h:lC ps es ψ)(hn:ps.Nodup)(e:n+cnt ψ ps=ps.length):n=tr ps es:=by
 rw[Gm h hn];exact Gk h h hn e
end Hv
end
section
namespace Hv
open PySem L2
noncomputable def bq(aa:aF):aF:=aa.map fun o=>match o with
 | some (.nw,_)=>none
 | some (_,d)=>some (.sh,d)
 | none=>none
noncomputable def fG(aa:aF):aF:=aa.map fun o=>match o with
 | some (.sh,d)=>some (.sh,d)
 | _=>none
noncomputable def vf(Ψ:Nat->List Val->Pr FV)(e:IE)(env:aF):Pr FV:=match aX Ψ e (fG env) with
 | .ok x=>.ok x
 | _=>pb (aX Ψ e (bq env)) fun x=>pg x.1 (.ok x)
noncomputable def uN(_:IE)(_:jV)(_:Ik)(_:cU):Option (Nat×Nat):=none
noncomputable def Nm:List Val->Option (List (List Int)):=cg fun v=>match v with
 | .rl es=>aQ es
 | _=>none
noncomputable def Qq(env:aF)(iq:Nat×Nat):Pr nE:=match env[iq.1]? with
 | some (some (.ow,.rl ds))=>pb (pl (Nm ds)) fun ls=>pg ((ls.all fun l=>decide (l.length+ls.length<sizeLine))&&decide (iq.2<env.length)) (.ok (.nx ((env.set iq.1 none).set iq.2 none)))
 | _=>.no
mutual
noncomputable def cI(Ψ:Nat->List Val->Pr FV)(sp:List Nat):IS->aF->Pr nE
 | .expr _,_=>.no
 | .asg p e,env=>match p with
  | .one i=>if sp.contains i=true then pb (aX Ψ e (bq env)) fun x=>pg x.1 (.ok (.nx (env.set i (some (.ow,x.2)))))
    else pb (vf Ψ e env) fun x=>.ok (.nx (env.set i (some (.sh,x.2))))
  | .tup is=>pb (vf Ψ e env) fun x=>pb (pl (cG (.tup is) x.2 env)) fun env'=>.ok (.nx env')
 | .di o i v,env=>match o with
  | .idx (.var x) (.cst (.int j))=>match env[x]? with
   | some (some (.ow,.tup [d0,.rl es]))=>pg (decide (j=1)&&gZ d0&&bz es) (pb (aX Ψ v (bq env)) fun w=>pg (gZ w.2) (pb (aX Ψ i (bq env)) fun z=>pb (pl (fP z.2)) fun k=>pb (pl (rD es.length k)) fun n=>.ok (.nx (env.set x (some (.ow,.tup [d0,.rl (es.set n w.2)]))))))
   | _=>.no
  | _=>.no
 | .iff c a b,env=>pb (aX Ψ c (bq env)) fun x=>pb (pl (dj [] x.2)) fun t=>if t=true then cz Ψ sp a env else cz Ψ sp b env
 | .for p k it body,env=>match it with
  | .cons e .nil=>match uN e p k body with
   | some iq=>Qq env iq
   | none=>pb (vf Ψ e env) fun x=>pb (pl (gc k [x.2])) fun xs=>jb (fun x env=>pb (pl (cG p x env)) fun env'=>cz Ψ sp body env') xs env
  | _=>.no
 | .ret e,env=>pb (aX Ψ e (bq env)) fun p=>.ok (.rt p)
 | .brk,env=>.ok (.bk env)
 | .cnt,env=>.ok (.ct env)
 | .pass,env=>.ok (.nx env)
 | _,_=>.no
noncomputable def cz(Ψ:Nat->List Val->Pr FV)(sp:List Nat):cU->aF->Pr nE
 | .nil,env=>.ok (.nx env)
 | .cons s r,env=>pb (cI Ψ sp s env) fun f=>match f with
  | .nx env'=>cz Ψ sp r env'
  | f=>.ok f
end
mutual
noncomputable def Qs:IS->List Nat
 | .expr (.met .append (.var i) _)=>[i]
 | .expr (.met .append (.idx (.var i) _) _)=>[i]
 | .di (.idx (.var i) _) _ _=>[i]
 | .iff _ a b=>jC a++jC b
 | .for p k it b=>match it with
  | .cons e .nil=>match uN e p k b with
   | some iq=>[iq.1]
   | none=>jC b
  | _=>jC b
 | _=>[]
noncomputable def jC:cU->List Nat
 | .nil=>[]
 | .cons s r=>Qs s++jC r
end
noncomputable def J9(Ψ:Nat->List Val->Pr FV)(n:Nat)(body:cU)(ds:List Val):Pr FV :=
 pb (cz Ψ (jC body) body (ds.map (fun d=>some (.sh,d))++List.replicate (n-ds.length) none)) fun f=>match f with
  | .nx _=>.ok (true,.non)
  | .rt p=>.ok p
  | _=>.no
noncomputable abbrev UR:=Nat->Nat->Prop
noncomputable def AU(U:UR):AP:=fun o=>match o with
 | none=>True
 | some k=>∀i,¬ U i k
noncomputable def RU(U:UR)(i:Nat):AP:=fun o=>match o with
 | none=>False
 | some k=>U i k
structure SL (aa:aF) (env:Env) (h:Hs) (U:UR):Prop where
 len:aa.length=env.length
 sh:∀(i:Nat) (d:Val),aa[i]?=some (some (.sh,d))->∃v,env[i]?=some (some v)/\Dn (AU U) h d v
 un:∀(i:Nat) (d:Val),aa[i]?=some (some (.ow,d))->∃v,env[i]?=some (some v)/\Dn (RU U i) h d v
 ub:∀i k,U i k->k<h.length
 KO:∀i j k,U i k->U j k->i=j
structure KU (h:Hs) (U:UR) (h':Hs) (U':UR):Prop where
 le:h.length<=h'.length
 keep:∀k,k<h.length->(∀i,¬ U i k)->h'[k]?=h[k]?/\∀i,¬ U' i k
noncomputable def Ou(U:UR)(i:Nat):UR:=fun j k=>j≠i/\U j k
noncomputable def B7(U:UR)(i n m:Nat):UR:=fun j k=>if j=i then n<=k/\k<m else U j k
noncomputable def iA{α β:Type}(R:α -> Hs -> β -> Prop)(o:Out β):Pr α -> Prop
 | .ok a=>∃b h',o=.ok b h'/\R a h' b
 | _=>True
noncomputable def RL(h:Hs)(U:UR):nE->Hs->Fl->Prop
 | .nx aq,h',.nx env'=>∃U',SL aq env' h' U'/\KU h U h' U'
 | .bk aq,h',.bk env'=>∃U',SL aq env' h' U'/\KU h U h' U'
 | .ct aq,h',.ct env'=>∃U',SL aq env' h' U'/\KU h U h' U'
 | .rt p,h',.rt v=>Dn (fun _=>True) h' p.2 v
 | _,_,_=>False
section
variable {α β γ δ:Type} {h h1 h2:Hs} {U U1 U2:UR} {aa:aF} {env:Env}
theorem bS{R:α -> Hs -> β -> Prop}{R':γ -> Hs -> δ -> Prop}{m:M β}{f:β -> M δ}{p:Pr α}{F:α -> Pr γ}(r:iA R (m h) p)(k:∀a h1 b,R a h1 b->iA R' (f b h1) (F a)):iA R' (bnd m f h) (pb p F):=by
 unfold bnd
 cases p with
 | ok a=>obtain⟨b,h1,e,q⟩:=r;rw[e];exact k a h1 b q
 | exc c es=>trivial
 | no=>trivial
theorem Fd{A:AP}{R:α -> Hs -> β -> Prop}{o:Out β}{p:Pr α}(r:Rel A h R o p):iA (fun a h' b=>h<+:h'/\R a h' b) o p:=by
 cases p with
 | ok a=>exact r
 | exc c es=>trivial
 | no=>trivial
theorem cL{R:α -> Hs -> β -> Prop}{a:α}{b:β}(r:R a h b):iA R (ret b h) (.ok a):=⟨b,h,rfl,r⟩
theorem lu{R:α -> Hs -> β -> Prop}{o:Option α}{o':Option β}(r:∀a,o=some a->∃b,o'=some b/\R a h b):iA R (bw o' h) (pl o):=by
 cases o with
 | none=>trivial
 | some a=>obtain⟨b,rfl,q⟩:=r a rfl;exact⟨b,h,rfl,q⟩
theorem nJ{R:α -> Hs -> β -> Prop}{c:Bool}{o:Out β}{p:Pr α}(r:c=true->iA R o p):iA R o (pg c p):=by
 unfold pg
 cases c with
 | true=>rw[if_pos rfl];exact r rfl
 | false=>rw[if_neg Bool.false_ne_true];trivial
theorem iB{R R':α -> Hs -> β -> Prop}{o:Out β}{p:Pr α}(r:iA R o p)(k:∀a h' b,R a h' b->R' a h' b):iA R' o p:=by
 cases p with
 | ok a=>obtain⟨b,h',e,r⟩:=r;exact⟨b,h',e,k a h' b r⟩
 | exc c es=>trivial
 | no=>trivial
theorem KU.refl(s:SL aa env h U)(p:h<+:h1):KU h U h1 U:=⟨p.length_le,fun k hk n=>⟨fF p hk,n⟩⟩
theorem KU.trans(a:KU h U h1 U1)(b:KU h1 U1 h2 U2):KU h U h2 U2 where
 le:=Nat.le_trans a.le b.le
 keep k hk n:=by
  obtain⟨a1,a2⟩:=a.keep k hk n
  obtain⟨b1,b2⟩:=b.keep k (Nat.lt_of_lt_of_le hk a.le) a2
  exact⟨b1.trans a1,b2⟩
theorem RL.seq{f:nE}{h':Hs}{g:Fl}(a:KU h U h1 U1)(r:RL h1 U1 f h' g):RL h U f h' g:=by
 cases f<;>cases g<;>first|exact r.elim|exact r|(obtain⟨O',b,c⟩:=r;exact⟨O',b,a.trans c⟩)
theorem SL.ext(s:SL aa env h U)(p:h<+:h1):SL aa env h1 U where
 len:=s.len
 sh i d e:=by obtain⟨v,k1,k2⟩:=s.sh i d e;exact⟨v,k1,k2.ext p⟩
 un i d e:=by obtain⟨v,k1,k2⟩:=s.un i d e;exact⟨v,k1,k2.ext p⟩
 ub i k e:=Nat.lt_of_lt_of_le (s.ub i k e) p.length_le
 KO:=s.KO
theorem SL.flat(s:SL aa env h U):ER (fun _=>True) (bq aa) env h:=fun i f d q=>by
 unfold bq at q
 rw[List.getElem?_map] at q
 cases e:aa[i]? with
 | none=>rw[e] at q;cases q
 | some o =>
  rw[e] at q
  cases o with
  | none=>cases q
  | some fd =>
   obtain⟨g,d'⟩:=fd
   cases g with
   | nw=>cases q
   | ow=>cases q;rw[if_neg (by decide)];obtain⟨v,k1,k2⟩:=s.un i _ e;exact⟨v,k1,k2.fM fun _ _=>trivial⟩
   | sh=>cases q;rw[if_neg (by decide)];obtain⟨v,k1,k2⟩:=s.sh i _ e;exact⟨v,k1,k2.fM fun _ _=>trivial⟩
theorem SL.hide(s:SL aa env h U):ER (AU U) (fG aa) env h:=fun i f d q=>by
 unfold fG at q
 rw[List.getElem?_map] at q
 cases e:aa[i]? with
 | none=>rw[e] at q;cases q
 | some o =>
  rw[e] at q
  cases o with
  | none=>cases q
  | some fd =>
   obtain⟨g,d'⟩:=fd
   cases g with
   | ow=>cases q
   | nw=>cases q
   | sh =>
    cases q
    rw[if_neg (by decide)]
    exact s.sh i _ e
theorem SL.up(s:SL aa env h U):Up (AU U) h:=fun k hk i z=>by have:=s.ub i k z;omega
theorem wG{i:Nat}:∀o,AU U o->AU (Ou U i) o
 | none,_=>trivial
 | some k,n=>fun j z=>n j z.2
theorem Ka{i j:Nat}(hj:j≠i):∀o,RU U j o->RU (Ou U i) j o
 | none,e=>e
 | some k,e=>⟨hj,e⟩
theorem SL.set(s:SL aa env h U){i:Nat}{d v:Val}(q:Dn (AU U) h d v):SL (aa.set i (some (.sh,d))) (env.set i (some v)) h (Ou U i)/\KU h U h (Ou U i):=by
 refine⟨⟨by simp[s.len],fun j d' e=>?_,fun j d' e=>?_,fun j k e=>s.ub j k e.2,fun j l k e1 e2=>s.KO j l k e1.2 e2.2⟩,Nat.le_refl _,fun k hk n=>⟨rfl,fun j z=>n j z.2⟩⟩
 ·by_cases hij:i=j
  ·subst hij
   have hi:i<aa.length:=by have:=(List.getElem?_eq_some_iff.mp e).1;simpa using this
   rw[List.getElem?_set_self hi] at e
   cases e
   exact⟨v,by rw[List.getElem?_set_self (by rw[<-s.len];exact hi)],q.fM wG⟩
  ·rw[List.getElem?_set_ne hij] at e
   rw[List.getElem?_set_ne hij]
   obtain⟨w,k1,k2⟩:=s.sh j d' e
   exact⟨w,k1,k2.fM wG⟩
 ·by_cases hij:i=j
  ·subst hij
   have hi:i<aa.length:=by have:=(List.getElem?_eq_some_iff.mp e).1;simpa using this
   rw[List.getElem?_set_self hi] at e
   cases e
  ·rw[List.getElem?_set_ne hij] at e
   rw[List.getElem?_set_ne hij]
   obtain⟨w,k1,k2⟩:=s.un j d' e
   exact⟨w,k1,k2.fM (Ka fun z=>hij z.symm)⟩
theorem SL.Qt(s:SL aa env h U)(p:h<+:h1){i:Nat}{d v:Val}(q:Dn (Fr h.length) h1 d v):SL (aa.set i (some (.ow,d))) (env.set i (some v)) h1 (B7 U i h.length h1.length)/\KU h U h1 (B7 U i h.length h1.length):=by
 have no:∀k j,k<h.length->¬ U j k->¬ B7 U i h.length h1.length j k:=fun k j hk n z=>by
  unfold B7 at z
  split at z
  ·omega
  ·exact n z
 have Vj:∀(k:Nat) (o:Ob),AU U (some k)->h[k]?=some o->AU (B7 U i h.length h1.length) (some k)/\h1[k]?=some o:=fun k o a g=>⟨fun j=>no k j (List.getElem?_eq_some_iff.mp g).1 (a j),bO p g⟩
 refine⟨⟨by simp[s.len],fun j d' e=>?_,fun j d' e=>?_,fun j k e=>?_,fun j l k e1 e2=>?_⟩,p.length_le,fun k hk n=>⟨fF p hk,fun j=>no k j hk (n j)⟩⟩
 ·by_cases hij:i=j
  ·subst hij
   have hi:i<aa.length:=by have:=(List.getElem?_eq_some_iff.mp e).1;simpa using this
   rw[List.getElem?_set_self hi] at e
   cases e
  ·rw[List.getElem?_set_ne hij] at e
   rw[List.getElem?_set_ne hij]
   obtain⟨w,k1,k2⟩:=s.sh j d' e
   exact⟨w,k1,Dn.move (fun _=>trivial) Vj _ _ k2⟩
 ·by_cases hij:i=j
  ·subst hij
   have hi:i<aa.length:=by have:=(List.getElem?_eq_some_iff.mp e).1;simpa using this
   rw[List.getElem?_set_self hi] at e
   cases e
   refine⟨v,by rw[List.getElem?_set_self (by rw[<-s.len];exact hi)],Dn.move (A:=Fr h.length) (fun z=>False.elim z) (fun k o a g=>⟨?_,g⟩) _ _ q⟩
   show B7 U i h.length h1.length i k
   unfold B7;rw[if_pos rfl]
   exact⟨a,(List.getElem?_eq_some_iff.mp g).1⟩
  ·rw[List.getElem?_set_ne hij] at e
   rw[List.getElem?_set_ne hij]
   obtain⟨w,k1,k2⟩:=s.un j d' e
   refine⟨w,k1,Dn.move (A:=RU U j) (fun z=>False.elim z) (fun k o a g=>⟨?_,bO p g⟩) _ _ k2⟩
   show B7 U i h.length h1.length j k
   unfold B7;rw[if_neg fun z=>hij z.symm];exact a
 ·unfold B7 at e
  split at e
  ·exact e.2
  ·exact Nat.lt_of_lt_of_le (s.ub j k e) p.length_le
 ·unfold B7 at e1 e2
  split at e1<;>split at e2
  ·rename_i a b;rw[a,b]
  ·have:=s.ub l k e2;omega
  ·have:=s.ub j k e1;omega
  ·exact s.KO j l k e1 e2
theorem SL.binds:∀{is:List Nat} {ds vs:List Val} {aa:aF} {env:Env} {U:UR} {aq:aF},SL aa env h U->bA is ds aa=some aq->aj (AU U) h ds vs ->
  ∃env' U',bindAll is vs env=some env'/\SL aq env' h U'/\KU h U h U'
 | [],[],vs,aa,env,U,aq,s,e,q=>by
  rw[aj] at q;subst q
  simp only[bA] at e;cases e
  exact⟨env,U,rfl,s,KU.refl s (List.prefix_refl _)⟩
 | i::is,d::ds,vs,aa,env,U,aq,s,e,q=>by
  rw[aj] at q
  obtain⟨v,r,rfl,q1,q2⟩:=q
  simp only[bA] at e
  obtain⟨s1,f1⟩:=s.set (i:=i) q1
  obtain⟨env',U',b1,b2,b3⟩:=SL.binds s1 e (q2.fM wG)
  exact⟨env',U',by simp only[bindAll];exact b1,b2,f1.trans b3⟩
 | [],_::_,_,_,_,_,_,_,e,_=>by simp[bA] at e
 | _::_,[],_,_,_,_,_,_,e,_=>by simp[bA] at e
theorem SL.bind(s:SL aa env h U){p:jV}{d v:Val}{aq:aF}(e:cG p d aa=some aq)(q:Dn (AU U) h d v):∃env' U',fu p v env=some env'/\SL aq env' h U'/\KU h U h U':=by
 cases p with
 | one i =>
  simp only[cG] at e;cases e
  obtain⟨s1,f1⟩:=s.set (i:=i) q
  exact⟨_,_,rfl,s1,f1⟩
 | tup is =>
  cases d<;>simp only[cG] at e<;>first|(cases e;done)|skip
  rw[Dn] at q
  obtain⟨vs,rfl,q⟩:=q
  exact s.binds e q
theorem SL.regrow(s:SL aa env h U){i b:Nat}{d dn w:Val}{o:Ob}(e:aa[i]?=some (some (.ow,d)))(ee:env[i]?=some (some w))(hb:U i b)(nw:Dn (RU U i) (h.set b o) dn w) :
  SL (aa.set i (some (.ow,dn))) env (h.set b o) U/\KU h U (h.set b o) U:=by
 have hlt:i<aa.length:=(List.getElem?_eq_some_iff.mp e).1
 refine⟨⟨by simp[s.len],fun j d' ej=>?_,fun j d' ej=>?_,fun j k ek=>by rw[List.length_set];exact s.ub j k ek,s.KO⟩,by simp,fun k hk n=>⟨?_,n⟩⟩
 ·by_cases hij:i=j
  ·subst hij;rw[List.getElem?_set_self hlt] at ej;cases ej
  ·rw[List.getElem?_set_ne hij] at ej
   obtain⟨w,k1,k2⟩:=s.sh j d' ej
   refine⟨w,k1,Dn.move (fun _=>trivial) (fun k o' a g=>⟨a,?_⟩) _ _ k2⟩
   rw[List.getElem?_set_ne fun z=>a i (by rw[<-z];exact hb)];exact g
 ·by_cases hij:i=j
  ·subst hij;rw[List.getElem?_set_self hlt] at ej;cases ej
   exact⟨w,ee,nw⟩
  ·rw[List.getElem?_set_ne hij] at ej
   obtain⟨w,k1,k2⟩:=s.un j d' ej
   refine⟨w,k1,Dn.move (A:=RU U j) (fun z=>False.elim z) (fun k o' a g=>⟨a,?_⟩) _ _ k2⟩
   rw[List.getElem?_set_ne fun z=>hij (s.KO i j k (by rw[<-z];exact hb) a)];exact g
 ·rw[List.getElem?_set_ne fun z=>n i (by rw[<-z];exact hb)]
end
end Hv
end
section
namespace Hv
open PySem L2
section
variable {Φ:Nat->List Val->M Val} {Ψ:Nat->List Val->Pr FV} {sp:List Nat} {aa:aF} {env:Env} {h:Hs} {U:UR}
theorem sL{e:IE}(V:bH Φ Ψ e)(s:SL aa env h U):iA (fun x h' v=>h<+:h'/\Dn (AU U) h' x.2 v) (aG Φ e env h) (vf Ψ e aa):=by
 have r1:=V (fG aa) env (AU U) h s.up s.hide
 have r2:=V (bq aa) env (fun _=>True) h (fun _ _=>trivial) s.flat
 have go:iA (fun x h' v=>h<+:h'/\Dn (AU U) h' x.2 v) (aG Φ e env h) (pb (aX Ψ e (bq aa)) fun x=>pg x.1 (.ok x)):=by
  cases e2:aX Ψ e (bq aa) with
  | ok x =>
   rw[e2] at r2
   obtain⟨v,h',ev,p,q⟩:=r2
   show iA _ _ (pg x.1 (.ok x))
   refine nJ fun hx=>⟨v,h',ev,p,(q.2 hx).fM fun o z=>?_⟩
   cases o with
   | none=>exact False.elim z
   | some k=>exact s.up k z
  | exc c es=>trivial
  | no=>trivial
 unfold vf
 cases e1:aX Ψ e (fG aa) with
 | ok x =>
  rw[e1] at r1
  obtain⟨v,h',ev,p,q⟩:=r1
  exact⟨v,h',ev,p,q.1⟩
 | exc c es=>exact go
 | no=>exact go
theorem jD{e:IE}(V:bH Φ Ψ e)(s:SL aa env h U):iA (fun x h' v=>h<+:h'/\RV (fun _=>True) h x h' v) (aG Φ e env h) (aX Ψ e (bq aa)):=Fd (V (bq aa) env (fun _=>True) h (fun _ _=>trivial) s.flat)
noncomputable def CV(Φ:Nat->List Val->M Val)(Ψ:Nat->List Val->Pr FV)(sp:List Nat)(s:IS):Prop:=∀(aa:aF) (env:Env) (h:Hs) (U:UR),SL aa env h U->iA (RL h U) (dZ Φ s env h) (cI Ψ sp s aa)
noncomputable def uO(Φ:Nat->List Val->M Val)(Ψ:Nat->List Val->Pr FV)(sp:List Nat)(s:cU):Prop:=∀(aa:aF) (env:Env) (h:Hs) (U:UR),SL aa env h U->iA (RL h U) (dm Φ s env h) (cz Ψ sp s aa)
theorem uP:∀{ds:List Val} {n:Nat} {d:Val},bz ds=true->gZ d=true->bz (ds.set n d)=true
 | [],_,_,_,_=>rfl
 | a::r,0,d,h,k=>by
  rw[bz,Bool.and_eq_true] at h
  rw[List.set_cons_zero,bz,Bool.and_eq_true];exact⟨k,h.2⟩
 | a::r,n+1,d,h,k=>by
  rw[bz,Bool.and_eq_true] at h
  rw[List.set_cons_succ,bz,Bool.and_eq_true];exact⟨h.1,uP h.2 k⟩
theorem Kc{x:Nat}{j:Int}{i v:IE}(hi:bH Φ Ψ i)(hv:bH Φ Ψ v):CV Φ Ψ sp (.di (.idx (.var x) (.cst (.int j))) i v):=fun aa env h U s=>by
 rw[dZ,cI];try dsimp only
 split
 ·rename_i d0 es hx
  refine nJ fun hg=>?_
  simp only[Bool.and_eq_true,decide_eq_true_eq] at hg
  obtain⟨⟨rfl,g1⟩,g2⟩:=hg
  obtain⟨w,e2,q⟩:=s.un x _ hx
  rw[Dn] at q
  obtain⟨ws,rfl,q⟩:=q
  rw[aj] at q
  obtain⟨u0,r0,rfl,q0,q⟩:=q
  rw[aj] at q
  obtain⟨u1,r1,rfl,q1,q⟩:=q
  rw[aj] at q
  subst q
  rw[Dn] at q1
  rcases q1 with ⟨_,_,n,_⟩|⟨b,vs,rfl,hb,e4,e5⟩
  ·exact False.elim n
  have e5:vs=es:=(aN _ _ g2).mp e5
  subst e5
  refine bS (jD hv s) fun w h1 v' ⟨p1,q1⟩=>nJ fun hw=>?_
  have ew:v'=w.2:=(eE _ _ hw).mp q1.1
  subst ew
  have er:aG Φ (.idx (.var x) (.cst (.int 1))) env h1=.ok (.ref b) h1:=by
   rw[aG,ao (bK e2),aG]
   rfl
  rw[ao er]
  refine bS (jD hi (s.ext p1)) fun z h2 z' aC=>?_
  obtain⟨p2,q2⟩:=aC
  cases ek:fP z.2 with
  | none=>trivial
  | some k =>
   obtain⟨f,zz⟩:=z
   cases zz<;>first|(cases ek;done)|skip
   cases ek
   have ez:z'=.int k:=(eE _ _ rfl).mp q2.1
   subst ez
   show iA (RL h U) _ (pb (pl (rD vs.length k)) fun n=>Pr.ok (nE.nx (List.set aa x (some (Mk.ow,Val.tup [d0,Val.rl (vs.set n w.snd)])))))
   cases en:rD vs.length k with
   | none=>trivial
   | some n =>
    have g4:=bO (p1.trans p2) e4
    have hl:b<h2.length:=(List.getElem?_eq_some_iff.mp g4).1
    obtain⟨s2,f2⟩:=((s.ext p1).ext p2).regrow (o:=.lst (vs.set n w.2)) (dn:=.tup [d0,.rl (vs.set n w.2)]) hx e2 hb (by
     rw[Dn]
     refine⟨_,rfl,aj.cons ((eE _ _ g1).mpr ((eE _ _ g1).mp q0)) (aj.cons ?_ aj.nil)⟩
     rw[Dn]
     refine .inr ⟨b,vs.set n w.2,rfl,hb,by rw[List.getElem?_set_self hl],(aN _ _ ?_).mpr rfl⟩
     exact uP g2 hw)
    refine⟨.nx env,_,?_,U,s2,(KU.refl s (p1.trans p2)).trans f2⟩
    show bnd (mP (.ref b) (.int k) w.2) (fun _=>ret (Fl.nx env)) h2=_
    unfold mP bnd ask bw put ret
    dsimp only
    rw[g4]
    dsimp only
    rw[en]
 ·trivial
theorem Nn{p:jV}{e:IE}(V:bH Φ Ψ e):CV Φ Ψ sp (.asg p e):=fun aa env h U s=>by
 cases p with
 | one i =>
  rw[dZ,cI];try dsimp only
  split
  ·refine bS (jD V s) fun x h1 v ⟨p1,q1⟩=>nJ fun hx=>?_
   obtain⟨s2,f2⟩:=s.Qt p1 (i:=i) (q1.2 hx)
   exact⟨_,_,rfl,_,s2,f2⟩
  ·refine bS (sL V s) fun x h1 v aC=>?_
   obtain⟨p1,q1⟩:=aC
   obtain⟨s2,f2⟩:=(s.ext p1).set (i:=i) q1
   exact⟨_,_,rfl,_,s2,(KU.refl s p1).trans f2⟩
 | tup is =>
  rw[dZ,cI];try dsimp only
  refine bS (sL V s) fun x h1 v aC=>?_
  obtain⟨p1,q1⟩:=aC
  have s1:=s.ext p1
  refine bS (R:=fun aq h' env'=>∃U',SL aq env' h' U'/\KU h1 U h' U') (lu fun aq ev=>?_) fun aq h2 env' hh=>?_
  ·obtain⟨env',U',b1,b2,b3⟩:=s1.bind ev q1
   exact⟨env',b1,U',b2,b3⟩
  ·obtain⟨U',b2,b3⟩:=hh
   exact cL ⟨U',b2,(KU.refl s p1).trans b3⟩
theorem Np{c:IE}{a b:cU}(V:bH Φ Ψ c)(ha:uO Φ Ψ sp a)(hb:uO Φ Ψ sp b):CV Φ Ψ sp (.iff c a b):=fun aa env h U s=>by
 rw[dZ,cI]
 refine bS (jD V s) fun x h1 v aC=>?_
 obtain⟨p1,q1⟩:=aC
 refine bS (R:=fun t h' t'=>h'=h1/\t'=t) (lu fun t ht=>⟨t,su (.inl q1.1) ht,rfl,rfl⟩) fun t h2 t' aC=>?_
 obtain⟨e1,e2⟩:=aC
 subst e1;subst e2
 have s1:=s.ext p1
 cases t' with
 | true=>rw[if_pos rfl,if_pos rfl];exact iB (ha aa env _ U s1) fun f h' g r=>r.seq (KU.refl s p1)
 | false=>rw[if_neg Bool.false_ne_true,if_neg Bool.false_ne_true];exact iB (hb aa env _ U s1) fun f h' g r=>r.seq (KU.refl s p1)
theorem Nq{e:IE}(V:bH Φ Ψ e):CV Φ Ψ sp (.ret e):=fun aa env h U s=>by
 rw[dZ,cI]
 exact bS (jD V s) fun x h1 v ⟨p1,q1⟩=>cL q1.1
noncomputable def Qu(h:Hs)(U:UR)(src:Src)(ws:List Val):Prop:=∀h':Hs,(∀k,k<h.length->(∀i,¬ U i k)->h'[k]?=h[k]?)->src.items h'=some ws
theorem Nr{k:Ik}{d v:Val}{xs:List Val}(q:Dn (AU U) h d v)(e:gc k [d]=some xs):∃src ws,srcOf k [v]=some src/\aj (AU U) h xs ws/\src.items h=some ws/\Qu h U src ws:=by
 have lst:∀es,d=.rl es->(∃ws,v=.rl ws/\aj (AU U) h es ws)\/∃a ws,v=.ref a/\h[a]?=some (.lst ws)/\aj (AU U) h es ws/\∀h':Hs,(∀k,k<h.length->(∀i,¬ U i k)->h'[k]?=h[k]?)->h'[a]?=some (Ob.lst ws):=by
  rintro es rfl
  rw[Dn] at q
  rcases q with ⟨ws,rfl,_,q⟩|⟨a,ws,rfl,al,g,q⟩
  ·exact .inl ⟨ws,rfl,q⟩
  ·exact .inr ⟨a,ws,rfl,g,q,fun h' hk=>(hk a (List.getElem?_eq_some_iff.mp g).1 al).trans g⟩
 cases k with
 | seq =>
  cases d<;>simp only[gc] at e<;>first|(cases e;done)|skip
  ·cases e
   rw[Dn] at q
   obtain⟨ws,rfl,q⟩:=q
   exact⟨.fix ws,ws,rfl,q,rfl,fun _ _=>rfl⟩
  ·cases e
   rcases lst _ rfl with ⟨ws,rfl,q'⟩|⟨a,ws,rfl,g,q',st⟩
   ·exact⟨.fix ws,ws,rfl,q',rfl,fun _ _=>rfl⟩
   ·exact⟨.live a,ws,rfl,q',cj g,fun h' hk=>cj (st h' hk)⟩
 | range =>
  cases d<;>simp only[gc] at e<;>first|(cases e;done)|skip
  rw[Dn] at q;subst q
  split at e
  ·rename_i hn;cases e
   exact⟨.fix _,_,by simp only[srcOf];rw[if_pos hn],ig,rfl,fun _ _=>rfl⟩
  ·cases e
 | enum =>
  cases d<;>simp only[gc] at e<;>first|(cases e;done)|skip
  cases e
  rcases lst _ rfl with ⟨ws,rfl,q'⟩|⟨a,ws,rfl,g,q',st⟩
  ·exact⟨.fix _,_,rfl,fE 0 q',rfl,fun _ _=>rfl⟩
  ·exact⟨.enum a,_,rfl,fE 0 q',e9 g,fun h' hk=>e9 (st h' hk)⟩
 | zip=>cases e
theorem uQ{src:Src}{ws:List Val}{body:Val->Env->M Fl}{bodyV:Val->aF->Pr nE}(hb:∀aa env h U x v,SL aa env h U->Dn (AU U) h x v->iA (RL h U) (body v env h) (bodyV x aa))
  {h1:Hs} {U1:UR} (st:Qu h1 U1 src ws) :
  ∀(xs vs:List Val) (i:Nat) (aa:aF) (env:Env) (h:Hs) (U:UR),SL aa env h U->KU h1 U1 h U->ws.drop i=vs->aj (AU U) h xs vs ->
   iA (RL h1 U1) (forM src body vs.length i env h) (jb bodyV xs aa)
 | [],vs,i,aa,env,h,U,s,f,hd,q=>by
  rw[aj] at q;subst q
  have hl:ws.length<=i:=List.drop_eq_nil_iff.mp hd
  have hi:=st h (fun k hk n=>(f.keep k hk n).1)
  rw[jb]
  refine⟨.nx env,h,?_,U,s,f⟩
  show forM src body 0 i env h=_
  simp only[forM]
  unfold bnd ask bw aD;dsimp only;rw[hi];dsimp only;rw[if_pos (decide_eq_true hl)];try rfl
 | x::xs,vs,i,aa,env,h,U,s,f,hd,q=>by
  rw[aj] at q
  obtain⟨v,r,rfl,q1,q2⟩:=q
  have hv:ws[i]?=some v:=by
   have:=congrArg (fun l=>l[0]?) hd
   simpa using this
  have hr:ws.drop (i+1)=r:=by
   have:ws.drop (i+1)=(ws.drop i).drop 1:=by rw[List.drop_drop]
   rw[this,hd];rfl
  have hi:=st h (fun k hk n=>(f.keep k hk n).1)
  have ev:forM src body (v::r).length i env h=bnd (body v env) (fun f=>match f with
   | .nx env'=>forM src body r.length (i+1) env'
   | .ct env'=>forM src body r.length (i+1) env'
   | .bk env'=>ret (.nx env')
   | .rt v=>ret (.rt v)) h:=by
   show forM src body (r.length+1) i env h=_
   simp only[forM]
   unfold bnd ask bw;dsimp only;rw[hi];dsimp only;rw[hv];try rfl
  rw[ev,jb]
  refine bS (hb aa env h U x v s q1) fun fl h2 gl hr2=>?_
  have go:∀aq env' U',SL aq env' h2 U'->KU h U h2 U'->iA (RL h1 U1) (forM src body r.length (i+1) env' h2) (jb bodyV xs aq):=fun aq env' U' s' f'=>by
   refine uQ hb st xs r (i+1) aq env' h2 U' s' (f.trans f') hr (aj.move (A:=AU U) (fun _=>trivial) (fun k o hk g=>?_) _ _ q2)
   have hlt:k<h.length:=(List.getElem?_eq_some_iff.mp g).1
   obtain⟨a1,a2⟩:=f'.keep k hlt hk
   exact⟨a2,a1.trans g⟩
  cases fl<;>cases gl<;>first|exact hr2.elim|skip
  ·obtain⟨U',s',f'⟩:=hr2;exact go _ _ U' s' f'
  ·exact cL hr2
  ·obtain⟨U',s',f'⟩:=hr2;exact cL ⟨U',s',f.trans f'⟩
  ·obtain⟨U',s',f'⟩:=hr2;exact go _ _ U' s' f'
theorem Nt{p:jV}{k:Ik}{e:IE}{body:cU}(V:bH Φ Ψ e)(hb:uO Φ Ψ sp body):CV Φ Ψ sp (.for p k (.cons e .nil) body):=fun aa env h U s=>by
 rw[cI];try dsimp only
 have hsp:uN e p k body=none:=rfl
 rw[hsp];dsimp only
 rw[dZ]
 have ev:∀(F:List Val->M Fl),bnd (aR Φ (.cons e .nil) env) F h=bnd (aG Φ e env) (fun v=>F [v]) h:=fun F=>by
  rw[aR,aR,bf];rfl
 rw[ev]
 refine bS (sL V s) fun x h1 v aC=>?_
 obtain⟨p1,q1⟩:=aC
 have s1:=s.ext p1
 refine bS (R:=fun xs h' src=>h'=h1/\∃ws,aj (AU U) h1 xs ws/\src.items h1=some ws/\Qu h1 U src ws) (lu fun xs ex=>?_) fun xs h2 src ⟨e2,ws,q2,q3,st⟩=>?_
 ·obtain⟨src,ws,a1,a2,a3,a4⟩:=Nr q1 ex
  exact⟨src,a1,rfl,ws,a2,a3,a4⟩
 ·subst e2
  have Qe:∀(F:List Val->M Fl),bnd (ask fun h=>src.items h) F h2=F ws h2:=fun F=>by unfold bnd ask bw;dsimp only;rw[q3]
  rw[Qe]
  refine iB (uQ (fun aq env' h' U' x v s' qx=>?_) st xs ws 0 aa env h2 U s1 (KU.refl s1 (List.prefix_refl _)) rfl q2) fun f h' g r=>r.seq (KU.refl s p1)
  refine bS (R:=fun iu h2 gJ=>∃U2,SL iu gJ h2 U2/\KU h' U' h2 U2) (lu fun iu e2=>?_) fun iu h2 gJ hh=>?_
  ·obtain⟨gJ,U2,b1,b2,b3⟩:=s'.bind e2 qx
   exact⟨gJ,b1,U2,b2,b3⟩
  ·obtain⟨U2,b2,b3⟩:=hh
   exact iB (hb iu gJ h2 U2 b2) fun f h'' g r=>r.seq b3
theorem Nu:uO Φ Ψ sp .nil:=fun aa env h U s=>by rw[dm,cz];exact cL ⟨U,s,KU.refl s (List.prefix_refl _)⟩
theorem Kd{a:IS}{r:cU}(ha:CV Φ Ψ sp a)(hr:uO Φ Ψ sp r):uO Φ Ψ sp (.cons a r):=fun aa env h U s=>by
 rw[dm,cz]
 refine bS (ha aa env h U s) fun f h1 g q=>?_
 cases f<;>cases g<;>first|exact q.elim|skip
 ·obtain⟨U1,s1,f1⟩:=q
  exact iB (hr _ _ h1 U1 s1) fun f h' g r=>r.seq f1
 ·exact cL q
 ·exact cL q
 ·exact cL q
theorem ni{s:IS}(e:∀aa,cI Ψ sp s aa=.no):CV Φ Ψ sp s:=fun aa env h U _=>by rw[e];trivial
theorem Ke{e:IE}(V:∀e,bC e=true->bH Φ Ψ e)(ho:bC e=true):CV Φ Ψ sp (.expr e):=ni fun aa=>by rw[cI]
theorem Nv{o i v:IE}(hi:bH Φ Ψ i)(hv:bH Φ Ψ v):CV Φ Ψ sp (.di o i v):=by
 cases o with
 | idx r c =>
  cases r with
  | var x =>
   cases c with
   | cst d =>
    cases d with
    | int j=>exact Kc hi hv
    | _=>exact ni fun aa=>by rw[cI]<;>(intros;simp_all)
   | _=>exact ni fun aa=>by rw[cI]<;>(intros;simp_all)
  | _=>exact ni fun aa=>by rw[cI]<;>(intros;simp_all)
 | _=>exact ni fun aa=>by rw[cI]<;>(intros;simp_all)
theorem Nx(hΦ:∀j,Imp (Φ j) (Ψ j)):∀ss,mj ss=true->uO Φ Ψ sp ss:=by
 have V:=(v_all hΦ).1
 intro ss
 refine cU.rec (motive_1:=fun s=>uE s=true->CV Φ Ψ sp s) (motive_2:=fun ss=>mj ss=true->uO Φ Ψ sp ss) ?_ ?_ ?_ ?_ ?_ ?_ ?_ ?_ ?_ ?_ ?_ ?_ ?_ ?_ ?_ ?_ ss
 ·intro e f;rw[uE] at f;exact Ke V f
 ·intro p e f;rw[uE] at f;exact Nn (V e f)
 ·intro i o e f;exact ni fun aa=>by rw[cI]<;>(intros;simp_all)
 ·intro o i v f
  rw[uE,Bool.and_eq_true,Bool.and_eq_true] at f
  exact Nv (V i f.1.2) (V v f.2)
 ·intro c a b ha hb f;rw[uE,Bool.and_eq_true,Bool.and_eq_true] at f;exact Np (V c f.1.1) (ha f.1.2) (hb f.2)
 ·intro p k it b hb f
  rw[uE,Bool.and_eq_true] at f
  cases it with
  | nil=>exact ni fun aa=>by rw[cI.eq_def]<;>rfl
  | cons e es =>
   cases es with
   | nil=>rw[gq,gq,Bool.and_eq_true] at f;exact Nt (V e f.1.1) (hb f.2)
   | cons _ _=>exact ni fun aa=>by rw[cI]<;>(intros;simp_all)
 ·intro n c b _ f;exact ni fun aa=>by rw[cI]<;>(intros;simp_all)
 ·intro e f;rw[uE] at f;exact Nq (V e f)
 ·intro _;exact ni fun aa=>by rw[cI]<;>(intros;simp_all)
 ·intro _ aa env h U s;rw[dZ,cI];exact cL ⟨U,s,KU.refl s (List.prefix_refl _)⟩
 ·intro _ aa env h U s;rw[dZ,cI];exact cL ⟨U,s,KU.refl s (List.prefix_refl _)⟩
 ·intro _ aa env h U s;rw[dZ,cI];exact cL ⟨U,s,KU.refl s (List.prefix_refl _)⟩
 ·intro _;exact ni fun aa=>by rw[cI]<;>(intros;simp_all)
 ·intro _ _ _ _ _;exact ni fun aa=>by rw[cI]<;>(intros;simp_all)
 ·intro _;exact Nu
 ·intro a r ha hr f;rw[mj,Bool.and_eq_true] at f;exact Kd (ha f.1) (hr f.2)
theorem zO{n:Nat}{body:cU}(hΦ:∀j,Imp (Φ j) (Ψ j))(ho:mj body=true){ns:List Int}{f:Bool}(e:J9 Ψ n body [.rl (ns.map .int)]=.ok (f,.bl true)):∃h',jm Φ n body [.rl (ns.map .int)] []=.ok (.bl true) h':=by
 have s:SL ([(Val.rl (ns.map .int))].map (fun d=>some (.sh,d))++List.replicate (n-1) none) ([(Val.rl (ns.map .int))].map some++List.replicate (n-1) none) [] (fun _ _=>False):=by
  have rep:∀(i:Nat) (x:Option (Mk×Val)),(List.replicate (n-1) (none:Option (Mk×Val)))[i]?=some x->x=none:=fun i x e=>(List.mem_replicate.mp (List.mem_of_getElem? e)).2
  refine⟨by simp,fun i d q=>?_,fun i d q=>?_,fun _ _ z=>z.elim,fun _ _ _ z=>z.elim⟩
  ·cases i with
   | zero =>
    simp only[List.map_cons,List.map_nil,List.cons_append,List.nil_append,List.getElem?_cons_zero] at q |-
    cases q
    refine⟨_,rfl,?_⟩
    rw[Dn];exact .inl ⟨_,rfl,trivial,(aN _ _ (aU ns)).mpr rfl⟩
   | succ i =>
    simp only[List.map_cons,List.map_nil,List.cons_append,List.nil_append,List.getElem?_cons_succ] at q
    have:=rep _ _ q;cases this
  ·cases i with
   | zero=>simp only[List.map_cons,List.map_nil,List.cons_append,List.nil_append,List.getElem?_cons_zero] at q;cases q
   | succ i =>
    simp only[List.map_cons,List.map_nil,List.cons_append,List.nil_append,List.getElem?_cons_succ] at q
    have:=rep _ _ q;cases this
 have r:=Nx (sp:=jC body) hΦ body ho _ _ [] _ s
 unfold J9 at e
 show ∃h',bnd (dm Φ body ([(Val.rl (ns.map .int))].map some++List.replicate (n-1) none)) _ []=_
 change pb (cz Ψ (jC body) body ([(Val.rl (ns.map .int))].map (fun d=>some (.sh,d))++List.replicate (n-1) none)) _=_ at e
 cases e1:cz Ψ (jC body) body ([(Val.rl (ns.map .int))].map (fun d=>some (.sh,d))++List.replicate (n-1) none) with
 | ok fl =>
  rw[e1] at e r
  obtain⟨g,h',eg,q⟩:=r
  unfold bnd
  rw[eg]
  cases fl with
  | rt p =>
   cases g<;>first|exact q.elim|skip
   change Pr.ok p=_ at e
   cases e
   have q:Dn (fun _=>True) h' (.bl true) _:=q
   rw[Dn] at q;subst q
   exact⟨h',rfl⟩
  | nx _=>cases e
  | bk _=>cases e
  | ct _=>cases e
 | exc c es=>rw[e1] at e;cases e
 | no=>rw[e1] at e;cases e
end
end Hv
end
section
namespace K23
open PySem L2 Hv
noncomputable def top(i:Nat):Stmt:=PySem.Challenge.pw_linkorcut_k23_rank_by_rest.main.body.getD i (.Pass ⟨0,0,0,0⟩)
noncomputable def cons:List (Str×Val):=[("THOUGHT",(.int (-1)))]
noncomputable def tb:Tb:=⟨1,["net","places","ends","whole"],[(0,"tree_rank",9),(0,"ties",11),(0,"rank",14)],[("Rule","__init__",7)],[]⟩
noncomputable def cZ(i:Nat):Stmt:=match top 10 with|.ClassDef (body:=b) ..=>b.getD i (.Pass ⟨0,0,0,0⟩)|_=>.Pass ⟨0,0,0,0⟩
noncomputable def gA(i:Nat):Stmt:=match top 11 with|.ClassDef (body:=b) ..=>b.getD i (.Pass ⟨0,0,0,0⟩)|_=>.Pass ⟨0,0,0,0⟩
noncomputable def iC:cU:=(.cons (.iff (.cmp .lt (.var 1) (.blt .len (.cons (.var 0) .nil))) (.cons (.ret (.idx (.var 0) (.var 1))) .nil) .nil) (.cons (.ret (.cst (.int 0))) .nil))
noncomputable def fH:cU:=(.cons (.asg (.one 3) (.cst (.int 1))) (.cons (.asg (.one 4) (.cst (.int 0))) (.cons (.iff (.cmp .gt (.bin .mod (.var 0) (.cst (.int 3))) (.cst (.int 0))) (.cons (.asg (.one 3) (.bin .add (.cst (.int 1)) (.bin .mod (.bin .fdiv (.var 0) (.cst (.int 3))) (.bin .pow (.cst (.int 10)) (.cst (.int 56)))))) (.cons (.asg (.one 4) (.bin .mod (.bin .fdiv (.var 1) (.cst (.int 66))) (.bin .pow (.cst (.int 10)) (.cst (.int 58))))) .nil)) .nil) (.cons (.ret (.bin .add (.bin .mul (.var 3) (.bin .mod (.bin .add (.bin .mul (.bin .add (.cst (.int 1)) (.bin .mod (.var 1) (.cst (.int 66)))) (.var 2)) (.var 0)) (.cst (.int 67)))) (.var 4))) .nil))))
noncomputable def jE:cU:=(.cons (.asg (.one 2) (.call 0 (.cons (.var 0) (.cons (.cst (.int 0)) .nil)))) (.cons (.asg (.one 3) (.call 0 (.cons (.var 0) (.cons (.cst (.int 1)) .nil)))) (.cons (.asg (.one 4) (.call 0 (.cons (.var 0) (.cons (.cst (.int 2)) .nil)))) (.cons (.asg (.one 5) (.bin .add (.cst (.int 2)) (.bin .mod (.var 4) (.cst (.int 7))))) (.cons (.asg (.one 6) (.comp ["_law_k","_law_two","_law_one"] [none,some 3,some 2] (.one 0) .range (.cons (.var 5) .nil) .no (.call 1 (.cons (.var 1) (.cons (.var 2) (.cons (.var 0) .nil)))))) (.cons (.asg (.one 7) (.lst .nil)) (.cons (.for (.tup [8,9]) .enum (.cons (.var 1) .nil) (.cons (.asg (.one 10) (.idx (.var 6) (.bin .mod (.var 9) (.var 5)))) (.cons (.asg (.one 11) (.idx (.var 6) (.bin .mod (.bin .fdiv (.var 9) (.var 5)) (.var 5)))) (.cons (.expr (.met .append (.var 7) (.cons (.tup (.cons (.call 1 (.cons (.var 2) (.cons (.var 3) (.cons (.var 8) .nil)))) (.cons (.blt .min (.cons (.var 10) (.cons (.var 11) .nil))) (.cons (.blt .max (.cons (.var 10) (.cons (.var 11) .nil))) .nil)))) .nil))) .nil)))) (.cons (.asg (.one 12) (.blt .sorted (.cons (.lst (.cons (.idx (.var 6) (.cst (.int 0))) (.cons (.idx (.var 6) (.bin .sub (.cst (.int 1)) (.blt .int (.cons (.cmp .eq (.bin .mod (.bin .fdiv (.var 4) (.cst (.int 7))) (.cst (.int 8))) (.cst (.int 3))) .nil)))) .nil))) .nil))) (.cons (.ret (.tup (.cons (.tup (.cons (.idx (.var 12) (.cst (.int 0))) (.cons (.idx (.var 12) (.cst (.int 1))) .nil))) (.cons (.blt .sorted (.cons (.var 7) .nil)) .nil)))) .nil)))))))))
noncomputable def iD:cU:=(.cons (.asg (.one 1) (.dct1 (.neg (.cst (.int 1))) (.idx (.var 0) (.cst (.int 0))))) (.cons (.for (.tup [2,3,4]) .seq (.cons (.idx (.var 0) (.cst (.int 1))) .nil) (.cons (.di (.var 1) (.var 2) (.tup (.cons (.var 3) (.cons (.var 4) .nil)))) .nil)) (.cons (.ret (.var 1)) .nil)))
noncomputable def cA:cU:=(.cons (.asg (.one 2) (.lst .nil)) (.cons (.for (.tup [3,4,5]) .seq (.cons (.var 1) .nil) (.cons (.expr (.met .append (.var 2) (.cons (.tup (.cons (.var 3) (.cons (.blt .min (.cons (.var 4) (.cons (.var 5) .nil))) (.cons (.blt .max (.cons (.var 4) (.cons (.var 5) .nil))) .nil)))) .nil))) .nil)) (.cons (.ret (.tup (.cons (.tup (.cons (.blt .min (.cons (.idx (.var 0) (.cst (.int 0))) (.cons (.idx (.var 0) (.cst (.int 1))) .nil))) (.cons (.blt .max (.cons (.idx (.var 0) (.cst (.int 0))) (.cons (.idx (.var 0) (.cst (.int 1))) .nil))) .nil))) (.cons (.blt .sorted (.cons (.var 2) .nil)) .nil)))) .nil)))
noncomputable def gh:cU:=(.cons (.ret (.call 4 (.cons (.idx (.var 0) (.cst (.int 0))) (.cons (.idx (.var 0) (.cst (.int 1))) .nil)))) .nil)
noncomputable def eG:cU:=(.cons (.asg (.one 1) (.blt .list (.cons (.idx (.var 0) (.cst (.int 0))) .nil))) (.cons (.for (.one 2) .seq (.cons (.idx (.var 0) (.cst (.int 1))) .nil) (.cons (.expr (.met .extend (.var 1) (.cons (.slc (.var 2) (.cst (.int 1)) .no) .nil))) .nil)) (.cons (.ret (.sset (.var 1))) .nil)))
noncomputable def fh:cU:=(.cons (.setF 1 (.var 0) "net" (.call 5 (.cons (.var 1) .nil))) (.cons (.setF 1 (.var 0) "places" (.call 6 (.cons (.fld 1 (.var 0) "net") .nil))) (.cons (.setF 1 (.var 0) "ends" (.dct1 (.con "THOUGHT" (.int (-1))) (.idx (.fld 1 (.var 0) "net") (.cst (.int 0))))) (.cons (.for (.tup [2,3,4]) .seq (.cons (.idx (.fld 1 (.var 0) "net") (.cst (.int 1))) .nil) (.cons (.di (.fld 1 (.var 0) "ends") (.var 2) (.tup (.cons (.var 3) (.cons (.var 4) .nil)))) .nil)) .nil))))
noncomputable def eL:cU:=(.cons (.asg (.one 2) .dct0) (.cons (.for (.one 3) .seq (.cons (.var 0) .nil) (.cons (.di (.var 2) (.var 3) (.var 3)) .nil)) (.cons (.for (.tup [4,5]) .seq (.cons (.var 1) .nil) (.cons (.asg (.one 6) (.blt .min (.cons (.idx (.var 2) (.var 4)) (.cons (.idx (.var 2) (.var 5)) .nil)))) (.cons (.asg (.one 7) (.blt .max (.cons (.idx (.var 2) (.var 4)) (.cons (.idx (.var 2) (.var 5)) .nil)))) (.cons (.for (.one 3) .seq (.cons (.var 0) .nil) (.cons (.iff (.cmp .eq (.idx (.var 2) (.var 3)) (.var 7)) (.cons (.di (.var 2) (.var 3) (.var 6)) .nil) .nil) .nil)) .nil)))) (.cons (.ret (.var 2)) .nil))))
noncomputable def bT:cU:=(.cons (.asg (.one 2) (.call 8 (.cons (.fld 1 (.var 0) "places") (.cons (.comp ["tie","self"] [none,some 0] (.one 0) .seq (.cons (.var 1) .nil) .no (.idx (.fld 1 (.var 1) "ends") (.var 0))) .nil)))) (.cons (.ret (.blt .len (.cons (.comp ["place","firsts"] [none,some 2] (.one 0) .seq (.cons (.fld 1 (.var 0) "places") .nil) (.cmp .ne (.idx (.var 1) (.var 0)) (.var 0)) (.var 0)) .nil))) .nil))
noncomputable def fJ:cU:=(.cons (.ret (.comp ["tie"] [none] (.one 0) .seq (.cons (.idx (.var 0) (.cst (.int 1))) .nil) .no (.idx (.var 0) (.cst (.int 0))))) .nil)
noncomputable def eN:cU:=(.cons (.ret (.bin .add (.lst (.cons (.con "THOUGHT" (.int (-1))) .nil)) (.call 10 (.cons (.fld 1 (.var 0) "net") .nil)))) .nil)
noncomputable def mC:cU:=(.cons (.expr (.call 7 (.cons (.var 0) (.cons (.var 1) .nil)))) (.cons (.setF 1 (.var 0) "whole" (.mth (.var 0) "tree_rank" [(0,9)] (.cons (.mth (.var 0) "ties" [(0,11)] .nil) .nil))) .nil))
noncomputable def jF:cU:=(.cons (.asg (.one 2) (.lst .nil)) (.cons (.for (.one 3) .seq (.cons (.var 0) .nil) (.cons (.iff (.cmp .eq (.bin .mod (.var 1) (.cst (.int 2))) (.cst (.int 1))) (.cons (.expr (.met .append (.var 2) (.cons (.var 3) .nil))) .nil) .nil) (.cons (.asg (.one 1) (.bin .fdiv (.var 1) (.cst (.int 2)))) .nil))) (.cons (.ret (.var 2)) .nil)))
noncomputable def cM:cU:=(.cons (.asg (.one 2) (.comp ["tie","row"] [none,some 1] (.one 0) .seq (.cons (.mth (.var 0) "ties" [(0,11)] .nil) .nil) (.cmp .nin (.var 0) (.var 1)) (.var 0))) (.cons (.ret (.bin .add (.bin .sub (.blt .len (.cons (.var 1) .nil)) (.fld 1 (.var 0) "whole")) (.mth (.var 0) "tree_rank" [(0,9)] (.cons (.var 2) .nil)))) .nil))
noncomputable def fK:cU:=(.cons (.asg (.one 2) .dct0) (.cons (.asg (.one 3) (.cst (.int 0))) (.cons (.for (.one 4) .seq (.cons (.var 1) .nil) (.cons (.asg (.one 5) (.dget (.var 2) (.idx (.idx (.var 0) (.var 4)) (.cst (.int 0))) (.idx (.idx (.var 0) (.var 4)) (.cst (.int 0))))) (.cons (.asg (.one 6) (.dget (.var 2) (.idx (.idx (.var 0) (.var 4)) (.cst (.int 1))) (.idx (.idx (.var 0) (.var 4)) (.cst (.int 1))))) (.cons (.iff (.cmp .ne (.var 5) (.var 6)) (.cons (.aug 3 .add (.cst (.int 1))) (.cons (.di (.var 2) (.idx (.idx (.var 0) (.var 4)) (.cst (.int 0))) (.var 5)) (.cons (.di (.var 2) (.idx (.idx (.var 0) (.var 4)) (.cst (.int 1))) (.var 6)) (.cons (.for (.one 7) .seq (.cons (.lkeys (.var 2)) .nil) (.cons (.iff (.cmp .eq (.idx (.var 2) (.var 7)) (.var 6)) (.cons (.di (.var 2) (.var 7) (.var 5)) .nil) .nil) .nil)) .nil)))) .nil) .nil)))) (.cons (.ret (.var 3)) .nil))))
noncomputable def gi:cU:=(.cons (.ret (.and (.blt (.isin "int") (.cons (.var 0) .nil)) (.not (.blt (.isin "bool") (.cons (.var 0) .nil))))) .nil)
noncomputable def jG:cU:=(.cons (.asg (.one 1) (.call 2 (.cons (.var 0) (.cons (.slc (.var 0) (.cst (.int 3)) (.bin .add (.cst (.int 3)) (.bin .mod (.bin .fdiv (.call 0 (.cons (.var 0) (.cons (.cst (.int 2)) .nil))) (.cst (.int 56))) (.cst (.int 15))))) .nil)))) (.cons (.asg (.one 2) (.call 3 (.cons (.var 1) .nil))) (.cons (.asg (.one 3) (.call 12 (.cons (.var 1) .nil))) (.cons (.for (.one 4) .range (.cons (.blt .len (.cons (.idx (.var 1) (.cst (.int 1))) .nil)) .nil) (.cons (.di (.idx (.var 1) (.cst (.int 1))) (.var 4) (.tup (.cons (.idx (.idx (.idx (.var 1) (.cst (.int 1))) (.var 4)) (.cst (.int 0))) (.cons (.idx (.idx (.var 1) (.cst (.int 0))) (.cst (.int 0))) (.cons (.idx (.idx (.var 1) (.cst (.int 0))) (.cst (.int 0))) .nil))))) .nil)) (.cons (.for (.one 5) .seq (.cons (.bin .add (.lst (.cons (.cst (.int 0)) .nil)) (.slc (.var 0) (.cst (.int 17)) (.cst (.int 63)))) .nil) (.cons (.asg (.one 6) (.call 13 (.cons (.skeys (.var 2)) (.cons (.bin .fdiv (.var 5) (.cst (.int 2))) .nil)))) (.cons (.iff (.cmp .eq (.bin .mod (.var 5) (.cst (.int 2))) (.cst (.int 1))) (.cons (.asg (.one 6) (.rev (.var 6) (.neg (.cst (.int 1))))) .nil) .nil) (.cons (.asg (.one 7) (.blt .list (.cons (.var 6) .nil))) (.cons (.asg (.one 8) (.mth (.var 3) "rank" [(0,14)] (.cons (.var 7) .nil))) (.cons (.asg (.one 9) (.dflt ["_law_name","_law_picked"] [none,some 6] 0 1 (.var 2) (.var 6))) (.cons (.asg (.one 10) (.bin .add (.bin .sub (.blt .len (.cons (.var 6) .nil)) (.call 15 (.cons (.var 2) (.cons (.lkeys (.var 2)) .nil)))) (.call 15 (.cons (.var 2) (.cons (.var 9) .nil))))) (.cons (.iff (.or (.not (.call 16 (.cons (.var 8) .nil))) (.or (.cmp .ne (.var 8) (.var 10)) (.cmp .ne (.var 7) (.var 6)))) (.cons (.ret (.cst (.bl false))) .nil) .nil) .nil)))))))) (.cons (.ret (.cst (.bl true))) .nil))))))
noncomputable def Ny:List Row:=[]
noncomputable def uR:List Val->M Val:=jm (look Ny) 2 iC
noncomputable def Nz:List Row:=Ny++[(("_law_cell":Str),2,uR)]
noncomputable def pF:List Val->M Val:=jm (look Nz) 5 fH
noncomputable def NB:List Row:=Nz++[(("_law_number":Str),3,pF)]
noncomputable def yi:List Val->M Val:=jm (look NB) 13 jE
noncomputable def NC:List Row:=NB++[(("_law_net":Str),2,yi)]
noncomputable def uS:List Val->M Val:=jm (look NC) 5 iD
noncomputable def ND:List Row:=NC++[(("_law_ends":Str),1,uS)]
noncomputable def jH:List Val->M Val:=jm (look ND) 6 cA
noncomputable def NF:List Row:=ND++[(("put_in_order":Str),2,jH)]
noncomputable def qV:List Val->M Val:=jm (look NF) 1 gh
noncomputable def NG:List Row:=NF++[(("own_net":Str),1,qV)]
noncomputable def mV:List Val->M Val:=jm (look NG) 3 eG
noncomputable def NH:List Row:=NG++[(("places_of":Str),1,mV)]
noncomputable def iV:List Val->M Val:=jm (look NH) 5 fh
noncomputable def NI:List Row:=NH++[(("Rule.__init__":Str),1002,iV)]
noncomputable def mW:List Val->M Val:=jm (look NI) 8 eL
noncomputable def NJ:List Row:=NI++[(("firsts_by":Str),2,mW)]
noncomputable def iE:List Val->M Val:=jm (look NJ) 3 bT
noncomputable def B8:List Row:=NJ++[(("Rule.tree_rank":Str),1002,iE)]
noncomputable def pG:List Val->M Val:=jm (look B8) 1 fJ
noncomputable def B9:List Row:=B8++[(("names_of":Str),1,pG)]
noncomputable def mX:List Val->M Val:=jm (look B9) 1 eN
noncomputable def Ca:List Row:=B9++[(("Rule.ties":Str),1001,mX)]
noncomputable def uT:List Val->M Val:=HX 0 (jm (look Ca) 2 mC)
noncomputable def Cb:List Row:=Ca++[(("ByRest":Str),1,uT)]
noncomputable def yj:List Val->M Val:=jm (look Cb) 4 jF
noncomputable def Cc:List Row:=Cb++[(("_law_row":Str),2,yj)]
noncomputable def j9:List Val->M Val:=jm (look Cc) 3 cM
noncomputable def Cd:List Row:=Cc++[(("ByRest.rank":Str),1002,j9)]
noncomputable def pH:List Val->M Val:=jm (look Cd) 8 fK
noncomputable def Ce:List Row:=Cd++[(("_law_joined":Str),2,pH)]
noncomputable def qW:List Val->M Val:=jm (look Ce) 1 gi
noncomputable def Cf:List Row:=Ce++[(("_law_whole":Str),1,qW)]
noncomputable def yk:List Val->M Val:=jm (look Cf) 11 jG
noncomputable def Vk:List Row:=Cf++[(("law":Str),1,yk)]
noncomputable def Qv:List bR:=[]
noncomputable def dg:bR:=jc (aE Qv) 2 iC
noncomputable def Qw:List bR:=Qv++[dg]
noncomputable def gj:bR:=jc (aE Qw) 5 fH
noncomputable def NK:List bR:=Qw++[gj]
noncomputable def jS:bR:=jc (aE NK) 13 jE
noncomputable def Qx:List bR:=NK++[jS]
noncomputable def iF:bR:=jc (aE Qx) 5 iD
noncomputable def Qy:List bR:=Qx++[iF]
noncomputable def cN:bR:=jc (aE Qy) 6 cA
noncomputable def Ov:List bR:=Qy++[cN]
noncomputable def dM:bR:=jc (aE Ov) 1 gh
noncomputable def Qz:List bR:=Ov++[dM]
noncomputable def cO:bR:=jc (aE Qz) 3 eG
noncomputable def NL:List bR:=Qz++[cO]
noncomputable def fN:bR:=fun _=>.no
noncomputable def QA:List bR:=NL++[fN]
noncomputable def dN:bR:=jc (aE QA) 8 eL
noncomputable def Ow:List bR:=QA++[dN]
noncomputable def aW:bR:=jc (aE Ow) 3 bT
noncomputable def Kf:List bR:=Ow++[aW]
noncomputable def gk:bR:=jc (aE Kf) 1 fJ
noncomputable def Fe:List bR:=Kf++[gk]
noncomputable def cP:bR:=jc (aE Fe) 1 eN
noncomputable def zP:List bR:=Fe++[cP]
noncomputable def jI:bR:=qU (aE NL) (aE zP) 0 5 6 11 9
noncomputable def Kg:List bR:=zP++[jI]
noncomputable def ly:bR:=jc (aE Kg) 4 jF
noncomputable def Cg:List bR:=Kg++[ly]
noncomputable def dh:bR:=jc (aE Cg) 3 cM
noncomputable def Kh:List bR:=Cg++[dh]
noncomputable def fj:bR:=jc (aE Kh) 8 fK
noncomputable def Kl:List bR:=Kh++[fj]
noncomputable def iG:bR:=jc (aE Kl) 1 gi
noncomputable def dH:List bR:=Kl++[iG]
noncomputable def Ci:bR:=J9 (aE dH) 11 jG
noncomputable def Vl:List bR:=dH++[Ci]
theorem nj:aE NK 0=dg:=rfl
theorem gB:aE NK 1=gj:=rfl
theorem iH:aE Ov 4=cN:=rfl
theorem gR:aE NL 5=dM:=rfl
theorem gm:aE NL 6=cO:=rfl
theorem fV:aE Ow 8=dN:=rfl
theorem jd:aE Fe 10=gk:=rfl
theorem qX:aE zP 7=fN:=rfl
theorem gS:aE zP 9=aW:=rfl
theorem jY:aE zP 11=cP:=rfl
theorem fL:aE Cg 9=aW:=rfl
theorem gT:aE Cg 11=cP:=rfl
theorem qd:aE dH 0=dg:=rfl
theorem sM:aE dH 2=jS:=rfl
theorem qf:aE dH 3=iF:=rfl
theorem qg:aE dH 12=jI:=rfl
theorem lz:aE dH 13=ly:=rfl
theorem gn:aE dH 14=dh:=rfl
theorem iW:aE dH 15=fj:=rfl
theorem jJ:aE dH 16=iG:=rfl
theorem i0:gr Ny Qv:=BQ
theorem Cj:Imp uR dg:=dD (aP i0) (by decide +kernel)
theorem i1:gr Nz Qw:=aV i0 Cj
theorem wH:Imp pF gj:=dD (aP i1) (by decide +kernel)
theorem i2:gr NB NK:=aV i1 wH
theorem Ff:Imp yi jS:=dD (aP i2) (by decide +kernel)
theorem i3:gr NC Qx:=aV i2 Ff
theorem Ck:Imp uS iF:=dD (aP i3) (by decide +kernel)
theorem i4:gr ND Qy:=aV i3 Ck
theorem pI:Imp jH cN:=dD (aP i4) (by decide +kernel)
theorem i5:gr NF Ov:=aV i4 pI
theorem zQ:Imp qV dM:=dD (aP i5) (by decide +kernel)
theorem i6:gr NG Qz:=aV i5 zQ
theorem uU:Imp mV cO:=dD (aP i6) (by decide +kernel)
theorem i7:gr NH NL:=aV i6 uU
theorem nk:Imp iV fN:=B3
theorem i8:gr NI QA:=aV i7 nk
theorem uV:Imp mW dN:=dD (aP i8) (by decide +kernel)
theorem i9:gr NJ Ow:=aV i8 uV
theorem mD:Imp iE aW:=dD (aP i9) (by decide +kernel)
theorem S8:gr B8 Kf:=aV i9 mD
theorem wI:Imp pG gk:=dD (aP S8) (by decide +kernel)
theorem S9:gr B9 Fe:=aV S8 wI
theorem uW:Imp mX cP:=dD (aP S9) (by decide +kernel)
theorem i12:gr Ca zP:=aV S9 uW
theorem Cm:Imp uT jI:=B4 (n:=1) (ji:=7) (by decide) (aP i7) (aP i12) rfl rfl rfl
theorem Tc:gr Cb Kg:=aV i12 Cm
theorem Fg:Imp yj ly:=dD (aP Tc) (by decide +kernel)
theorem Td:gr Cc Cg:=aV Tc Fg
theorem qh:Imp j9 dh:=dD (aP Td) (by decide +kernel)
theorem Te:gr Cd Kh:=aV Td qh
theorem wJ:Imp pH fj:=dD (aP Te) (by decide +kernel)
theorem Tf:gr Ce Kl:=aV Te wJ
theorem zR:Imp qW iG:=dD (aP Tf) (by decide +kernel)
theorem Vm:gr Cf dH:=aV Tf zR
theorem Fi{ns:List Int}{f:Bool}(e:Ci [.rl (ns.map .int)]=.ok (f,.bl true)):∃h',yk [.rl (ns.map .int)] []=.ok (.bl true) h':=zO (aP Vm) (by decide +kernel) e
theorem c0:bD ["_law_script","_law_k"] ["_law_script","_law_k"] (ah (top 13))=true:=by decide +kernel
theorem d0:bN ⟨["_law_script","_law_k"],ah (top 13),Ny.map (fun r=>(r.1,r.2.1)),cons,tb⟩ iC (av (top 13))=true:=by decide +kernel
theorem c1:bD ["_law_one","_law_two","_law_k","_law_step","_law_shift"] ["_law_one","_law_two","_law_k"] (ah (top 14))=true:=by decide +kernel
theorem d1:bN ⟨["_law_one","_law_two","_law_k","_law_step","_law_shift"],ah (top 14),Nz.map (fun r=>(r.1,r.2.1)),cons,tb⟩ fH (av (top 14))=true:=by decide +kernel
theorem c2:bD ["_law_script","_law_cells","_law_one","_law_two","_law_pick","_law_many","_law_places","_law_ties","_law_k","_law_cell_here","_law_here","_law_there","_law_poles"] ["_law_script","_law_cells"] (ah (top 15))=true:=by decide +kernel
theorem d2:bN ⟨["_law_script","_law_cells","_law_one","_law_two","_law_pick","_law_many","_law_places","_law_ties","_law_k","_law_cell_here","_law_here","_law_there","_law_poles"],ah (top 15),NB.map (fun r=>(r.1,r.2.1)),cons,tb⟩ jE (av (top 15))=true:=by decide +kernel
theorem c3:bD ["_law_net_here","_law_ends_here","_law_name","_law_one","_law_other"] ["_law_net_here"] (ah (top 16))=true:=by decide +kernel
theorem d3:bN ⟨["_law_net_here","_law_ends_here","_law_name","_law_one","_law_other"],ah (top 16),NC.map (fun r=>(r.1,r.2.1)),cons,tb⟩ iD (av (top 16))=true:=by decide +kernel
theorem c4:bD ["poles","ties","named","name","one","other"] ["poles","ties"] (ah (top 2))=true:=by decide +kernel
theorem d4:bN ⟨["poles","ties","named","name","one","other"],ah (top 2),ND.map (fun r=>(r.1,r.2.1)),cons,tb⟩ cA (av (top 2))=true:=by decide +kernel
theorem c5:bD ["net"] ["net"] (ah (top 3))=true:=by decide +kernel
theorem d5:bN ⟨["net"],ah (top 3),NF.map (fun r=>(r.1,r.2.1)),cons,tb⟩ gh (av (top 3))=true:=by decide +kernel
theorem c6:bD ["net","places","tie"] ["net"] (ah (top 4))=true:=by decide +kernel
theorem d6:bN ⟨["net","places","tie"],ah (top 4),NG.map (fun r=>(r.1,r.2.1)),cons,tb⟩ eG (av (top 4))=true:=by decide +kernel
theorem c7:bD ["self","net","name","one","other"] ["self","net"] (ah (cZ 0))=true:=by decide +kernel
theorem d7:bN ⟨["self","net","name","one","other"],ah (cZ 0),NH.map (fun r=>(r.1,r.2.1)),cons,tb⟩ fh (av (cZ 0))=true:=by decide +kernel
theorem c8:bD ["places","pairs","firsts","place","one","other","kept","gone"] ["places","pairs"] (ah (top 7))=true:=by decide +kernel
theorem d8:bN ⟨["places","pairs","firsts","place","one","other","kept","gone"],ah (top 7),NI.map (fun r=>(r.1,r.2.1)),cons,tb⟩ eL (av (top 7))=true:=by decide +kernel
theorem c9:bD ["self","row","firsts"] ["self","row"] (ah (cZ 7))=true:=by decide +kernel
theorem d9:bN ⟨["self","row","firsts"],ah (cZ 7),NJ.map (fun r=>(r.1,r.2.1)),cons,tb⟩ bT (av (cZ 7))=true:=by decide +kernel
theorem Vn:bD ["net"] ["net"] (ah (top 5))=true:=by decide +kernel
theorem KN:bN ⟨["net"],ah (top 5),B8.map (fun r=>(r.1,r.2.1)),cons,tb⟩ fJ (av (top 5))=true:=by decide +kernel
theorem Vo:bD ["self"] ["self"] (ah (cZ 3))=true:=by decide +kernel
theorem Vp:bN ⟨["self"],ah (cZ 3),B9.map (fun r=>(r.1,r.2.1)),cons,tb⟩ eN (av (cZ 3))=true:=by decide +kernel
theorem c12:bD ["self","net"] ["self","net"] (ah (gA 0))=true:=by decide +kernel
theorem Vq:bN ⟨["self","net"],ah (gA 0),Ca.map (fun r=>(r.1,r.2.1)),cons,tb⟩ mC (av (gA 0))=true:=by decide +kernel
theorem Vr:bD ["_law_names","_law_cell_here","_law_row_here","_law_name"] ["_law_names","_law_cell_here"] (ah (top 18))=true:=by decide +kernel
theorem Vs:bN ⟨["_law_names","_law_cell_here","_law_row_here","_law_name"],ah (top 18),Cb.map (fun r=>(r.1,r.2.1)),cons,tb⟩ jF (av (top 18))=true:=by decide +kernel
theorem Vt:bD ["self","row","rest"] ["self","row"] (ah (gA 2))=true:=by decide +kernel
theorem Vu:bN ⟨["self","row","rest"],ah (gA 2),Cc.map (fun r=>(r.1,r.2.1)),cons,tb⟩ cM (av (gA 2))=true:=by decide +kernel
theorem Vv:bD ["_law_ends_here","_law_row_here","_law_part","_law_many","_law_name","_law_one","_law_other","_law_place"] ["_law_ends_here","_law_row_here"] (ah (top 17))=true:=by decide +kernel
theorem Vw:bN ⟨["_law_ends_here","_law_row_here","_law_part","_law_many","_law_name","_law_one","_law_other","_law_place"],ah (top 17),Cd.map (fun r=>(r.1,r.2.1)),cons,tb⟩ fK (av (top 17))=true:=by decide +kernel
theorem Vx:bD ["_law_found"] ["_law_found"] (ah (top 19))=true:=by decide +kernel
theorem Vy:bN ⟨["_law_found"],ah (top 19),Ce.map (fun r=>(r.1,r.2.1)),cons,tb⟩ gi (av (top 19))=true:=by decide +kernel
theorem Vz:bD ["_law_script","_law_net_here","_law_ends_here","_law_rule","_law_k","_law_cell_here","_law_picked","_law_handed","_law_found","_law_rest","_law_due"] ["_law_script"] (ah (top 20))=true:=by decide +kernel
theorem VA:bN ⟨["_law_script","_law_net_here","_law_ends_here","_law_rule","_law_k","_law_cell_here","_law_picked","_law_handed","_law_found","_law_rest","_law_due"],ah (top 20),Cf.map (fun r=>(r.1,r.2.1)),cons,tb⟩ jG (av (top 20))=true:=by decide +kernel
section
variable {P:Program} {w:World} {K:PySem.W.Frag} {mg:Str->Option Value} {base:Heap}
theorem all_mk{l:PySem.W.OpenLaw}{h:Heap}{fa:Addr}(X:K.In h)(G:h.Ns mainGlobals mg)(LW:mg "law" = some (.ref fa))(hφ:∀ns:List Int,ns.length<=63->∃h',yk [.rl (ns.map .int)] []=.ok (.bl true) h'){D0:Addr}{E0:Addr}{VB VC VD VE Tg VF:Value}{VG VH:Option Addr}{VI:Array (Option Value)}{a0:Addr}{VJ VL VM VN Th VO:Value}{VP VQ:Option Addr}{VS:Array (Option Value)}{a1:Addr}{VT VU VW VX Ti VY:Value}{VZ V3:Option Addr}{sl2:Array (Option Value)}{a2:Addr}{V4 V5 V6 V7 Tj V8:Value}{V9 Wa:Option Addr}{Wb:Array (Option Value)}{a3:Addr}{Wc Wd We Wf Tn Wg:Value}{Wh Wi:Option Addr}{Wj:Array (Option Value)}{a4:Addr}{Wk Wl Wm Wn To Wo:Value}{Wq Wr:Option Addr}{Ws:Array (Option Value)}{a5:Addr}{Wt Wu Wv Ww Tp Wx:Value}{Wy Wz:Option Addr}{WA:Array (Option Value)}{a6:Addr}{WB WC WD WE Tq WG:Value}{WH WI:Option Addr}{WJ:Array (Option Value)}{a7:Addr}{WK WL WM WN Tr WO:Value}{WQ WR:Option Addr}{WS:Array (Option Value)}{a8:Addr}{WU WW WX WY Tt WZ:Value}{W0 W2:Option Addr}{W3:Array (Option Value)}{a9:Addr}{QB QC QD QE NN QF:Value}{QG QH:Option Addr}{QI:Array (Option Value)}{Ox:Addr}{QJ QK QL QM NO QN:Value}{QO QS:Option Addr}{QT:Array (Option Value)}{KP:Addr}{QU QV QW QX NP QY:Value}{QZ Ra:Option Addr}{Rb:Array (Option Value)}{NQ:Addr}{Rc Rf Rg Rh NR Ri:Value}{Rj Rk:Option Addr}{Rm:Array (Option Value)}{Oz:Addr}{Rn Ro Rp Rq NS Rt:Value}{Ru Rv:Option Addr}{Rw:Array (Option Value)}{KQ:Addr}{Rx Ry Rz RA NT RB:Value}{RC RD:Option Addr}{RE:Array (Option Value)}{OA:Addr}{RG RH RI RJ NU RK:Value}{RM RO:Option Addr}{RP:Array (Option Value)}{OC:Addr}{RQ NV NW NX Km NY:Value}{RS NZ:Option Addr}{RT:Array (Option Value)}{RW:Addr}{tk0:Tok}
  (DA0:PySem.W.nsIn K mainGlobals "ByRest" = some (some (.ref D0))) (DG0:PySem.W.plainGet K D0 Str.empty=true) (DH0:PySem.W.hasDictIn K D0=true) (DO0:PySem.W.plainOver K D0=true) (DS0:PySem.W.findIn K (.ref D0) "__setattr__" = some (some (.builtin "object.__setattr__"))) (DM0:PySem.W.makesIn K D0=true) (DK0:PySem.W.keepIn K (.ref D0)=true)
  (DN0_0:PySem.W.findIn K (.ref D0) "net" = some none)
  (DN0_1:PySem.W.findIn K (.ref D0) "places" = some none)
  (DN0_2:PySem.W.findIn K (.ref D0) "ends" = some none)
  (DN0_3:PySem.W.findIn K (.ref D0) "whole" = some none)
  (EA0:PySem.W.nsIn K mainGlobals "Rule" = some (some (.ref E0)))
  (EG0:PySem.W.specialIn K (.ref E0) "__getattribute__" = some (some (.builtin "type.__getattribute__"))) (ER0:PySem.W.readsIn K E0 (.type "type")=true)
  (A0:PySem.W.nsIn K mainGlobals "_law_cell" = some (some (.ref a0)))
  (L0:K.lookup a0=some ⟨VB,VG,.func (PySem.W.fnOf "_law_cell" "_law_cell" (aY (top 13)) (av (top 13)) (ah (top 13)) .none VC VD VE VH Tg VF),VI⟩) (C0:PySem.W.codeIn K Tg "_law_cell" = true) (Q0:PySem.W.keepIn K (.ref a0)=true)
  (A1:PySem.W.nsIn K mainGlobals "_law_number" = some (some (.ref a1)))
  (L1:K.lookup a1=some ⟨VJ,VP,.func (PySem.W.fnOf "_law_number" "_law_number" (aY (top 14)) (av (top 14)) (ah (top 14)) .none VL VM VN VQ Th VO),VS⟩) (C1:PySem.W.codeIn K Th "_law_number" = true) (Q1:PySem.W.keepIn K (.ref a1)=true)
  (A2:PySem.W.nsIn K mainGlobals "_law_net" = some (some (.ref a2)))
  (L2:K.lookup a2=some ⟨VT,VZ,.func (PySem.W.fnOf "_law_net" "_law_net" (aY (top 15)) (av (top 15)) (ah (top 15)) .none VU VW VX V3 Ti VY),sl2⟩) (C2:PySem.W.codeIn K Ti "_law_net" = true) (Q2:PySem.W.keepIn K (.ref a2)=true)
  (A3:PySem.W.nsIn K mainGlobals "_law_ends" = some (some (.ref a3)))
  (L3:K.lookup a3=some ⟨V4,V9,.func (PySem.W.fnOf "_law_ends" "_law_ends" (aY (top 16)) (av (top 16)) (ah (top 16)) .none V5 V6 V7 Wa Tj V8),Wb⟩) (C3:PySem.W.codeIn K Tj "_law_ends" = true) (Q3:PySem.W.keepIn K (.ref a3)=true)
  (A4:PySem.W.nsIn K mainGlobals "put_in_order" = some (some (.ref a4)))
  (L4:K.lookup a4=some ⟨Wc,Wh,.func (PySem.W.fnOf "put_in_order" "put_in_order" (aY (top 2)) (av (top 2)) (ah (top 2)) .none Wd We Wf Wi Tn Wg),Wj⟩) (C4:PySem.W.codeIn K Tn "put_in_order" = true) (Q4:PySem.W.keepIn K (.ref a4)=true)
  (A5:PySem.W.nsIn K mainGlobals "own_net" = some (some (.ref a5)))
  (L5:K.lookup a5=some ⟨Wk,Wq,.func (PySem.W.fnOf "own_net" "own_net" (aY (top 3)) (av (top 3)) (ah (top 3)) .none Wl Wm Wn Wr To Wo),Ws⟩) (C5:PySem.W.codeIn K To "own_net" = true) (Q5:PySem.W.keepIn K (.ref a5)=true)
  (A6:PySem.W.nsIn K mainGlobals "places_of" = some (some (.ref a6)))
  (L6:K.lookup a6=some ⟨Wt,Wy,.func (PySem.W.fnOf "places_of" "places_of" (aY (top 4)) (av (top 4)) (ah (top 4)) .none Wu Wv Ww Wz Tp Wx),WA⟩) (C6:PySem.W.codeIn K Tp "places_of" = true) (Q6:PySem.W.keepIn K (.ref a6)=true)
  (EF0_7:PySem.W.findCls K (.ref E0) (.type "type") "__init__" = some (.val (.ref a7)))
  (I7:PySem.W.isFn K (.ref a7)=true)
  (L7:K.lookup a7=some ⟨WB,WH,.func (PySem.W.fnOf "__init__" "Rule.__init__" (aY (cZ 0)) (av (cZ 0)) (ah (cZ 0)) .none WC WD WE WI Tq WG),WJ⟩) (C7:PySem.W.codeIn K Tq "Rule.__init__" = true) (Q7:PySem.W.keepIn K (.ref a7)=true)
  (A8:PySem.W.nsIn K mainGlobals "firsts_by" = some (some (.ref a8)))
  (L8:K.lookup a8=some ⟨WK,WQ,.func (PySem.W.fnOf "firsts_by" "firsts_by" (aY (top 7)) (av (top 7)) (ah (top 7)) .none WL WM WN WR Tr WO),WS⟩) (C8:PySem.W.codeIn K Tr "firsts_by" = true) (Q8:PySem.W.keepIn K (.ref a8)=true)
  (M0_9:PySem.W.findIn K (.ref D0) "tree_rank" = some (some (.ref a9)))
  (I9:PySem.W.isFn K (.ref a9)=true)
  (L9:K.lookup a9=some ⟨WU,W0,.func (PySem.W.fnOf "tree_rank" "Rule.tree_rank" (aY (cZ 7)) (av (cZ 7)) (ah (cZ 7)) .none WW WX WY W2 Tt WZ),W3⟩) (C9:PySem.W.codeIn K Tt "Rule.tree_rank" = true) (Q9:PySem.W.keepIn K (.ref a9)=true)
  (A10:PySem.W.nsIn K mainGlobals "names_of" = some (some (.ref Ox)))
  (L10:K.lookup Ox=some ⟨QB,QG,.func (PySem.W.fnOf "names_of" "names_of" (aY (top 5)) (av (top 5)) (ah (top 5)) .none QC QD QE QH NN QF),QI⟩) (C10:PySem.W.codeIn K NN "names_of" = true) (Q10:PySem.W.keepIn K (.ref Ox)=true)
  (M0_11:PySem.W.findIn K (.ref D0) "ties" = some (some (.ref KP)))
  (I11:PySem.W.isFn K (.ref KP)=true)
  (L11:K.lookup KP=some ⟨QJ,QO,.func (PySem.W.fnOf "ties" "Rule.ties" (aY (cZ 3)) (av (cZ 3)) (ah (cZ 3)) .none QK QL QM QS NO QN),QT⟩) (C11:PySem.W.codeIn K NO "Rule.ties" = true) (Q11:PySem.W.keepIn K (.ref KP)=true)
  (A12:PySem.W.findIn K (.ref D0) "__init__" = some (some (.ref NQ))) (I12:PySem.W.isFn K (.ref NQ)=true)
  (L12:K.lookup NQ=some ⟨QU,QZ,.func (PySem.W.fnOf "__init__" "ByRest.__init__" (aY (gA 0)) (av (gA 0)) (ah (gA 0)) .none QV QW QX Ra NP QY),Rb⟩) (C12:PySem.W.codeIn K NP "ByRest.__init__" = true) (Q12:PySem.W.keepIn K (.ref NQ)=true)
  (A13:PySem.W.nsIn K mainGlobals "_law_row" = some (some (.ref Oz)))
  (L13:K.lookup Oz=some ⟨Rc,Rj,.func (PySem.W.fnOf "_law_row" "_law_row" (aY (top 18)) (av (top 18)) (ah (top 18)) .none Rf Rg Rh Rk NR Ri),Rm⟩) (C13:PySem.W.codeIn K NR "_law_row" = true) (Q13:PySem.W.keepIn K (.ref Oz)=true)
  (M0_14:PySem.W.findIn K (.ref D0) "rank" = some (some (.ref KQ)))
  (I14:PySem.W.isFn K (.ref KQ)=true)
  (L14:K.lookup KQ=some ⟨Rn,Ru,.func (PySem.W.fnOf "rank" "ByRest.rank" (aY (gA 2)) (av (gA 2)) (ah (gA 2)) .none Ro Rp Rq Rv NS Rt),Rw⟩) (C14:PySem.W.codeIn K NS "ByRest.rank" = true) (Q14:PySem.W.keepIn K (.ref KQ)=true)
  (A15:PySem.W.nsIn K mainGlobals "_law_joined" = some (some (.ref OA)))
  (L15:K.lookup OA=some ⟨Rx,RC,.func (PySem.W.fnOf "_law_joined" "_law_joined" (aY (top 17)) (av (top 17)) (ah (top 17)) .none Ry Rz RA RD NT RB),RE⟩) (C15:PySem.W.codeIn K NT "_law_joined" = true) (Q15:PySem.W.keepIn K (.ref OA)=true)
  (A16:PySem.W.nsIn K mainGlobals "_law_whole" = some (some (.ref OC)))
  (L16:K.lookup OC=some ⟨RG,RM,.func (PySem.W.fnOf "_law_whole" "_law_whole" (aY (top 19)) (av (top 19)) (ah (top 19)) .none RH RI RJ RO NU RK),RP⟩) (C16:PySem.W.codeIn K NU "_law_whole" = true) (Q16:PySem.W.keepIn K (.ref OC)=true)
  (A17:PySem.W.nsIn K mainGlobals "law" = some (some (.ref RW)))
  (L17:K.lookup RW=some ⟨RQ,RS,.func (PySem.W.fnOf "law" "law" (aY (top 20)) (av (top 20)) (ah (top 20)) .none NV NW NX NZ Km NY),RT⟩) (C17:PySem.W.codeIn K Km "law" = true) (Q17:PySem.W.keepIn K (.ref RW)=true)
  (Z0:PySem.W.nsIn K mainGlobals "len" = some none)
  (Z1:PySem.W.nsIn K mainGlobals "min" = some none)
  (Z2:PySem.W.nsIn K mainGlobals "max" = some none)
  (Z3:PySem.W.nsIn K mainGlobals "sorted" = some none)
  (Z4:PySem.W.nsIn K mainGlobals "list" = some none)
  (Z5:PySem.W.nsIn K mainGlobals "tuple" = some none)
  (Z6:PySem.W.nsIn K mainGlobals "str" = some none)
  (Z7:PySem.W.nsIn K mainGlobals "all" = some none)
  (Z8:PySem.W.nsIn K mainGlobals "any" = some none)
  (Z9:PySem.W.nsIn K mainGlobals "isinstance" = some none)
  (Z10:PySem.W.nsIn K mainGlobals "range" = some none)
  (Z11:PySem.W.nsIn K mainGlobals "enumerate" = some none)
  (Z12:PySem.W.nsIn K mainGlobals "int" = some none)
  (Z13:PySem.W.nsIn K mainGlobals "bool" = some none)
  (Z14:PySem.W.nsIn K mainGlobals "dict" = some none)
  (Z15:PySem.W.nsIn K mainGlobals "set" = some none)
  (Z16:PySem.W.nsIn K mainGlobals "zip" = some none)
  (V0:PySem.W.nsIn K mainGlobals "THOUGHT" = some (some (.int (-1) tk0))) :
  ∃fd:FuncData,(∀(s:Shared) (v:Value),BindsTo s fd ⟨[v],[]⟩ [("_law_script",v)])/\∀base:Heap,K.In base->base.Ns mainGlobals mg->eW l.prog w K mg base ve 36 fa fd ["_law_script"] (Oo K):=by
 have e:=LW.symm.trans (PySem.W.mg_of X G A17)
 cases e
 obtain⟨cl,hcl⟩:∃cl:Nat->Addr,cl=fun n=>if n=0 then D0 else if n=1007 then a7 else if n=1009 then a9 else if n=1011 then KP else if n=1014 then KQ else 0:=⟨_,rfl⟩
 have T:Base K cl mg cons tb:=by
  subst hcl
  refine⟨fun x hx=>?_,fun p hp=>?_,fun c hc=>?_,fun p hp=>?_,fun p hp=>?_,fun p hp=>?_⟩
  ·simp only[f9,List.mem_cons,List.not_mem_nil,or_false] at hx
   rcases hx with rfl|rfl|rfl|rfl|rfl|rfl|rfl|rfl|rfl|rfl|rfl|rfl|rfl|rfl|rfl|rfl|rfl
   ·exact PySem.W.mg_none_of X G Z0
   ·exact PySem.W.mg_none_of X G Z1
   ·exact PySem.W.mg_none_of X G Z2
   ·exact PySem.W.mg_none_of X G Z3
   ·exact PySem.W.mg_none_of X G Z4
   ·exact PySem.W.mg_none_of X G Z5
   ·exact PySem.W.mg_none_of X G Z6
   ·exact PySem.W.mg_none_of X G Z7
   ·exact PySem.W.mg_none_of X G Z8
   ·exact PySem.W.mg_none_of X G Z9
   ·exact PySem.W.mg_none_of X G Z10
   ·exact PySem.W.mg_none_of X G Z11
   ·exact PySem.W.mg_none_of X G Z12
   ·exact PySem.W.mg_none_of X G Z13
   ·exact PySem.W.mg_none_of X G Z14
   ·exact PySem.W.mg_none_of X G Z15
   ·exact PySem.W.mg_none_of X G Z16
  ·simp only[cons,List.mem_cons,List.not_mem_nil,or_false] at hp
   rcases hp with rfl
   ·exact⟨.int (-1),_,PySem.W.mg_of X G V0,⟨_,rfl⟩,fun _ _ _=>VR.int⟩
  ·have hc:c<1:=hc
   match c,hc with
   | 0,_ =>
    refine⟨⟨DG0,DH0,DO0,DS0⟩,fun x hx=>?_⟩
    simp only[tb,List.mem_cons,List.not_mem_nil,or_false] at hx
    rcases hx with rfl|rfl|rfl|rfl
    ·exact DN0_0
    ·exact DN0_1
    ·exact DN0_2
    ·exact DN0_3
  ·simp only[tb,List.mem_cons,List.not_mem_nil,or_false] at hp
   rcases hp with rfl|rfl|rfl
   ·exact⟨M0_9,I9,Q9⟩
   ·exact⟨M0_11,I11,Q11⟩
   ·exact⟨M0_14,I14,Q14⟩
  ·simp only[tb,List.mem_cons,List.not_mem_nil,or_false] at hp
   rcases hp with rfl
   ·exact⟨E0,PySem.W.mg_of X G EA0,⟨EG0,ER0,EF0_7,Q7⟩⟩
  ·simp[tb] at hp
 have F0:=cE (st:=(top 13)) L0 C0 Q0
 have b0:=F0.binds (ps:=["_law_script","_law_k"]) fun _ _ _ _ _ _ us hl=>by obtain⟨_,_,rfl⟩:=j4 hl;exact rfl
 have F1:=cE (st:=(top 14)) L1 C1 Q1
 have b1:=F1.binds (ps:=["_law_one","_law_two","_law_k"]) fun _ _ _ _ _ _ us hl=>by obtain⟨_,_,_,rfl⟩:=My hl;exact rfl
 have F2:=cE (st:=(top 15)) L2 C2 Q2
 have b2:=F2.binds (ps:=["_law_script","_law_cells"]) fun _ _ _ _ _ _ us hl=>by obtain⟨_,_,rfl⟩:=j4 hl;exact rfl
 have F3:=cE (st:=(top 16)) L3 C3 Q3
 have b3:=F3.binds (ps:=["_law_net_here"]) fun _ _ _ _ _ _ us hl=>by obtain⟨_,rfl⟩:=qN hl;exact rfl
 have F4:=cE (st:=(top 2)) L4 C4 Q4
 have b4:=F4.binds (ps:=["poles","ties"]) fun _ _ _ _ _ _ us hl=>by obtain⟨_,_,rfl⟩:=j4 hl;exact rfl
 have F5:=cE (st:=(top 3)) L5 C5 Q5
 have b5:=F5.binds (ps:=["net"]) fun _ _ _ _ _ _ us hl=>by obtain⟨_,rfl⟩:=qN hl;exact rfl
 have F6:=cE (st:=(top 4)) L6 C6 Q6
 have b6:=F6.binds (ps:=["net"]) fun _ _ _ _ _ _ us hl=>by obtain⟨_,rfl⟩:=qN hl;exact rfl
 have F7:=cE (st:=(cZ 0)) L7 C7 Q7
 have b7:=F7.binds (ps:=["self","net"]) fun _ _ _ _ _ _ us hl=>by obtain⟨_,_,rfl⟩:=j4 hl;exact rfl
 have F8:=cE (st:=(top 7)) L8 C8 Q8
 have b8:=F8.binds (ps:=["places","pairs"]) fun _ _ _ _ _ _ us hl=>by obtain⟨_,_,rfl⟩:=j4 hl;exact rfl
 have F9:=cE (st:=(cZ 7)) L9 C9 Q9
 have b9:=F9.binds (ps:=["self","row"]) fun _ _ _ _ _ _ us hl=>by obtain⟨_,_,rfl⟩:=j4 hl;exact rfl
 have Tu:=cE (st:=(top 5)) L10 C10 Q10
 have W4:=Tu.binds (ps:=["net"]) fun _ _ _ _ _ _ us hl=>by obtain⟨_,rfl⟩:=qN hl;exact rfl
 have Tv:=cE (st:=(cZ 3)) L11 C11 Q11
 have W5:=Tv.binds (ps:=["self"]) fun _ _ _ _ _ _ us hl=>by obtain⟨_,rfl⟩:=qN hl;exact rfl
 have Tw:=cE (st:=(gA 0)) L12 C12 Q12
 have W6:=Tw.binds (ps:=["self","net"]) fun _ _ _ _ _ _ us hl=>by obtain⟨_,_,rfl⟩:=j4 hl;exact rfl
 have Tz:=cE (st:=(top 18)) L13 C13 Q13
 have W7:=Tz.binds (ps:=["_law_names","_law_cell_here"]) fun _ _ _ _ _ _ us hl=>by obtain⟨_,_,rfl⟩:=j4 hl;exact rfl
 have TF:=cE (st:=(gA 2)) L14 C14 Q14
 have W8:=TF.binds (ps:=["self","row"]) fun _ _ _ _ _ _ us hl=>by obtain⟨_,_,rfl⟩:=j4 hl;exact rfl
 have TH:=cE (st:=(top 17)) L15 C15 Q15
 have W9:=TH.binds (ps:=["_law_ends_here","_law_row_here"]) fun _ _ _ _ _ _ us hl=>by obtain⟨_,_,rfl⟩:=j4 hl;exact rfl
 have TJ:=cE (st:=(top 19)) L16 C16 Q16
 have Xa:=TJ.binds (ps:=["_law_found"]) fun _ _ _ _ _ _ us hl=>by obtain⟨_,rfl⟩:=qN hl;exact rfl
 have Xb:=cE (st:=(top 20)) L17 C17 Q17
 refine⟨PySem.W.fnOf "law" "law" (aY (top 20)) (av (top 20)) (ah (top 20)) .none NV NW NX NZ Km NY,fun s v=>.of_eq rfl,fun base _ _=>?_⟩
 have G0:eV l.prog w ⟨K,cl⟩ mg base 0 Ny:=all_nil
 have G1:eV l.prog w ⟨K,cl⟩ mg base 2 Nz:=cy (x:="_law_cell") (N:=["_law_script","_law_k"]) (ps:=["_law_script","_law_k"]) (body:=iC) (f:=a0) T G0 F0 (PySem.W.mg_of X G A0) b0 (by decide) c0 d0
 have G2:eV l.prog w ⟨K,cl⟩ mg base 4 NB:=cy (x:="_law_number") (N:=["_law_one","_law_two","_law_k","_law_step","_law_shift"]) (ps:=["_law_one","_law_two","_law_k"]) (body:=fH) (f:=a1) T G1 F1 (PySem.W.mg_of X G A1) b1 (by decide) c1 d1
 have G3:eV l.prog w ⟨K,cl⟩ mg base 6 NC:=cy (x:="_law_net") (N:=["_law_script","_law_cells","_law_one","_law_two","_law_pick","_law_many","_law_places","_law_ties","_law_k","_law_cell_here","_law_here","_law_there","_law_poles"]) (ps:=["_law_script","_law_cells"]) (body:=jE) (f:=a2) T G2 F2 (PySem.W.mg_of X G A2) b2 (by decide) c2 d2
 have G4:eV l.prog w ⟨K,cl⟩ mg base 8 ND:=cy (x:="_law_ends") (N:=["_law_net_here","_law_ends_here","_law_name","_law_one","_law_other"]) (ps:=["_law_net_here"]) (body:=iD) (f:=a3) T G3 F3 (PySem.W.mg_of X G A3) b3 (by decide) c3 d3
 have G5:eV l.prog w ⟨K,cl⟩ mg base 10 NF:=cy (x:="put_in_order") (N:=["poles","ties","named","name","one","other"]) (ps:=["poles","ties"]) (body:=cA) (f:=a4) T G4 F4 (PySem.W.mg_of X G A4) b4 (by decide) c4 d4
 have G6:eV l.prog w ⟨K,cl⟩ mg base 12 NG:=cy (x:="own_net") (N:=["net"]) (ps:=["net"]) (body:=gh) (f:=a5) T G5 F5 (PySem.W.mg_of X G A5) b5 (by decide) c5 d5
 have G7:eV l.prog w ⟨K,cl⟩ mg base 14 NH:=cy (x:="places_of") (N:=["net","places","tie"]) (ps:=["net"]) (body:=eG) (f:=a6) T G6 F6 (PySem.W.mg_of X G A6) b6 (by decide) c6 d6
 have G8:eV l.prog w ⟨K,cl⟩ mg base 16 NI:=kT (y:="Rule.__init__") (N:=["self","net","name","one","other"]) (ps:=["self","net"]) (body:=fh) (f:=a7) T G7 F7 (by rw[hcl];rfl) b7 c7 d7
 have G9:eV l.prog w ⟨K,cl⟩ mg base 18 NJ:=cy (x:="firsts_by") (N:=["places","pairs","firsts","place","one","other","kept","gone"]) (ps:=["places","pairs"]) (body:=eL) (f:=a8) T G8 F8 (PySem.W.mg_of X G A8) b8 (by decide) c8 d8
 have Xc:eV l.prog w ⟨K,cl⟩ mg base 20 B8:=kT (y:="Rule.tree_rank") (N:=["self","row","firsts"]) (ps:=["self","row"]) (body:=bT) (f:=a9) T G9 F9 (by rw[hcl];rfl) b9 c9 d9
 have Xd:eV l.prog w ⟨K,cl⟩ mg base 22 B9:=cy (x:="names_of") (N:=["net"]) (ps:=["net"]) (body:=fJ) (f:=Ox) T Xc Tu (PySem.W.mg_of X G A10) W4 (by decide) Vn KN
 have Xe:eV l.prog w ⟨K,cl⟩ mg base 24 Ca:=kT (y:="Rule.ties") (N:=["self"]) (ps:=["self"]) (body:=eN) (f:=KP) T Xd Tv (by rw[hcl];rfl) W5 Vo Vp
 have Xf:eV l.prog w ⟨K,cl⟩ mg base 26 Cb:=all_class (x:="ByRest") (N:=["self","net"]) (ps:=["self","net"]) (body:=mC) (n:=1) (f:=NQ) (c:=0) T Xe Tw (by rw[hcl];exact PySem.W.mg_of X G DA0) (by rw[hcl];exact⟨DM0,A12,I12,DK0⟩) W6 rfl (by decide) c12 Vq
 have Xg:eV l.prog w ⟨K,cl⟩ mg base 28 Cc:=cy (x:="_law_row") (N:=["_law_names","_law_cell_here","_law_row_here","_law_name"]) (ps:=["_law_names","_law_cell_here"]) (body:=jF) (f:=Oz) T Xf Tz (PySem.W.mg_of X G A13) W7 (by decide) Vr Vs
 have Xh:eV l.prog w ⟨K,cl⟩ mg base 30 Cd:=kT (y:="ByRest.rank") (N:=["self","row","rest"]) (ps:=["self","row"]) (body:=cM) (f:=KQ) T Xg TF (by rw[hcl];rfl) W8 Vt Vu
 have Xi:eV l.prog w ⟨K,cl⟩ mg base 32 Ce:=cy (x:="_law_joined") (N:=["_law_ends_here","_law_row_here","_law_part","_law_many","_law_name","_law_one","_law_other","_law_place"]) (ps:=["_law_ends_here","_law_row_here"]) (body:=fK) (f:=OA) T Xh TH (PySem.W.mg_of X G A15) W9 (by decide) Vv Vw
 have Xj:eV l.prog w ⟨K,cl⟩ mg base 34 Cf:=cy (x:="_law_whole") (N:=["_law_found"]) (ps:=["_law_found"]) (body:=gi) (f:=OC) T Xi TJ (PySem.W.mg_of X G A16) Xa (by decide) Vx Vy
 exact(xR T Xj Xb Vz VA).imp (Jp hφ)
end
end K23
end
section
open PySem L2 Hv
local macro_rules | `(tactic| simp only[EV,$ls,*] $[$l:location]?)=>`(tactic| simp only[jc,JY,JZ,J0,Gg,MW,MX,MY,MZ,M0,JR,M1,JS,JT,Qf,M3,M4,j7,cS,SM,aX,sf,gM,Oq,iZ,SO,Gf,gg,JP,k9,E2,JQ,isVar,gf,List.getElem?_cons_zero,List.getElem?_cons_succ,List.set_cons_zero,List.set_cons_succ,List.map_cons,List.map_nil,List.length_cons,List.length_nil,List.cons_append,List.nil_append,List.replicate_succ,List.replicate_zero,Nat.reduceSub,Nat.reduceAdd,Nat.reduceLeDiff,M5,M6,Qg,Qh,Qi,Qj,Qk,Ql,M7,M8,M9,Na,Nb,Nc,Nd,Nf,Ng,Nh,JU,JV,JW,JX,Ni,gZ,bz,oW,P9,cH,fP,Hv.stored,List.contains_nil,List.contains_cons,List.elem_nil,List.elem_cons,Nat.reduceBEq,Nat.reduceEqDiff,BEq.rfl,List.all_cons,List.all_nil,beq_self_eq_true,BC,ic,qb,j6,l0,↓reduceIte,Bool.and_true,Bool.true_and,Bool.false_and,Bool.and_false,Bool.or_false,Bool.false_or,Bool.or_true,Bool.true_or,Bool.or_self,Nat.zero_le,Bool.not_true,Bool.not_false,Bool.false_eq_true,decide_eq_true_eq,Bool.not_eq_true',decide_eq_false_iff_not,List.append_nil,List.nil_append,reduceCtorEq,$ls,*] $[$l:location]?)
section
open PySem L2 Hv
namespace K23
noncomputable def cellAt(ns:List Int)(k:Nat):Int:=ns.getD k 0
theorem nK(ns:List Int)(k:Nat):dg [.rl (ns.map .int),.int k]=.ok (true,.int (cellAt ns k)):=by
 unfold dg iC
 by_cases h:k<ns.length
 ·have e:jg (List.map Val.int ns) (k:Int)=some (.int (ns[k])):=kG (by simp[h])
  have h':(k:Int)<ns.length:=by omega
  simp only[EV,mU e,List.length_map,h',cellAt,List.getD,List.getElem?_eq_getElem h,Option.getD_some]
 ·have h':¬ (k:Int)<ns.length:=by omega
  have e:ns[k]?=none:=by simp;omega
  simp only[EV,List.length_map,h',cellAt,List.getD,e,Option.getD_none]
noncomputable def gp(one two k:Int):Int:=(if 0<one%3 then 1+one/3%10 ^ 56 else 1)*(((1+two%66)*k+one)%67)+(if 0<one%3 then two/66%10 ^ 58 else 0)
theorem zS(a b:Int)(h:0<=b/\b<67):jk a b=true:=by
 unfold jk;simp only[Bool.or_eq_true,Bool.and_eq_true,decide_eq_true_eq];right;omega
theorem wK(a b:Int)(h:0<=a/\a<67):jk a b=true:=by
 unfold jk;simp only[Bool.or_eq_true,Bool.and_eq_true,decide_eq_true_eq];left;omega
theorem yl(one two k:Int):gj [.int one,.int two,.int k]=.ok (true,.int (gp one two k)):=by
 unfold gj fH gp
 have m1:jk (1+two%66) k=true:=wK _ _ (by omega)
 have m2:∀x,jk x (((1+two%66)*k+one)%67)=true:=fun x=>zS _ _ (by omega)
 simp only[EV,iT (show decide ((0:Int)<3)=true by decide),iT (show decide ((0:Int)<66)=true by decide),iT (show decide ((0:Int)<67)=true by decide),gQ (show gX 3=true by decide),gQ (show gX 66=true by decide),Gi (show decide ((0:Int)<=56/\(56:Int)<=1000000/\(10:Int).natAbs<2 ^ 64)=true by decide),Gi (show decide ((0:Int)<=58/\(58:Int)<=1000000/\(10:Int).natAbs<2 ^ 64)=true by decide),Gh m1,Gh (m2 _),iT (show decide ((0:Int)<10 ^ (56:Int).toNat)=true by decide),iT (show decide ((0:Int)<10 ^ (58:Int).toNat)=true by decide)]
 repeat' split
 all_goals first|rfl|contradiction
theorem Fj(one two k:Int):0<=gp one two k:=by
 unfold gp
 generalize ((1+two%66)*k+one)=z
 have hs:∃st:Int,(if 0<one%3 then 1+one/3%10 ^ 56 else 1)=st/\1<=st:=by
  refine⟨_,rfl,?_⟩;split<;>omega
 have hf:∃sh:Int,(if 0<one%3 then two/66%10 ^ 58 else 0)=sh/\0<=sh:=by
  refine⟨_,rfl,?_⟩;split<;>omega
 obtain⟨st,e1,a1⟩:=hs
 obtain⟨sh,e2,b1⟩:=hf
 rw[e1,e2]
 have p1:0<=st*(z%67):=Int.mul_nonneg (by omega) (by omega)
 omega
theorem Cn(one two i j:Int)(hi:0<=i/\i<67)(hj:0<=j/\j<67)(e:gp one two i=gp one two j):i=j:=by
 unfold gp at e
 have hs:∃st:Int,(if 0<one%3 then 1+one/3%10 ^ 56 else 1)=st/\1<=st:=by
  refine⟨_,rfl,?_⟩;split<;>omega
 obtain⟨st,e1,a1⟩:=hs
 rw[e1] at e
 have e2:st*(((1+two%66)*i+one)%67)=st*(((1+two%66)*j+one)%67):=by omega
 have e3:=Int.eq_of_mul_eq_mul_left (by omega:st≠0) e2
 exact E8 (by omega) hi hj e3
theorem Gn{n:Int}(h:inR n=true):gc .range [.int n]=some ((List.range n.toNat).map fun(i:Nat)=>Val.int (0+(i:Int))):=by
 show (if inR n=true then some (bW 0 n.toNat) else none)=_
 rw[if_pos h];rfl
structure cB (p q:Int) (ts:List T3):Prop where
 ord:p<=q
 len:ts.length<=14
 up:CU ts
 ends:∀t∈ts,t.2.1<=t.2.2
 names:∀t∈ts,0<=t.1
theorem pJ:∀(i:Nat) (ms:List Int) (pre post:List Val) (x:Val),cF i (ms.map .int)=pre++x::post->∃c:Int,x=.tup [.int ((i+pre.length:Nat):Int),.int c]
 | _,[],pre,post,x,h=>by simp[cF] at h
 | i,d::r,[],post,x,h=>by
  rw[List.map_cons,cF,List.nil_append] at h
  injection h with h _
  exact⟨d,by rw[<-h];rfl⟩
 | i,d::r,y::pre,post,x,h=>by
  rw[List.map_cons,cF,List.cons_append] at h
  injection h with _ h
  obtain⟨c,e⟩:=pJ (i+1) r pre post x h
  exact⟨c,by rw[e,List.length_cons];congr 4;omega⟩
structure wL (one two:Int) (ts:List T3):Prop where
 name:∀i (h:i<ts.length),(ts[i]).1=gp one two i
 ends:∀t∈ts,t.2.1<=t.2.2
theorem wL.nodup{one two:Int}{ts:List T3}(h:wL one two ts)(hl:ts.length<=14):(ts.map (·.1)).Nodup:=by
 unfold List.Nodup
 rw[List.pairwise_iff_getElem]
 intro i j hi hj hij
 rw[List.length_map] at hi hj
 rw[List.getElem_map,List.getElem_map,h.name i hi,h.name j hj]
 intro e
 have:=Cn one two i j (by omega) (by omega) e
 omega
theorem N1(a b:Int):∃x y,PySem.W.sortI [a,b]=[x,y]/\x<=y:=by
 have hl:(PySem.W.sortI [a,b]).length=2:=(PySem.W.sortI_perm _).length_eq
 have hs:=PySem.W.sortI_rises [a,b]
 match h:PySem.W.sortI [a,b],hl,hs with
 | [x,y],_,hs=>exact⟨x,y,rfl,by simpa using hs⟩
theorem Co{xs ys:List Val}(h:fq xs=some ys):gK .sorted [.rl xs]=.ok (true,.rl ys):=by
 show (pb (pl (fq xs)) (fun ys:List Val=>Pr.ok ((true,Val.rl ys):FV)):Pr FV)=_
 rw[h];rfl
theorem Kn(ns ms:List Int)(hm:ms.length<=14):∃p q ts,jS [.rl (ns.map .int),.rl (ms.map .int)]=.ok (true,bB p q ts)/\cB p q ts/\ts.length=ms.length:=by
 have c0:dg [.rl (ns.map .int),.int 0]=.ok (true,.int (cellAt ns 0)):=nK ns 0
 have c1:dg [.rl (ns.map .int),.int 1]=.ok (true,.int (cellAt ns 1)):=nK ns 1
 have c2:dg [.rl (ns.map .int),.int 2]=.ok (true,.int (cellAt ns 2)):=nK ns 2
 unfold jS jE
 generalize cellAt ns 0=one at *
 generalize cellAt ns 1=two at *
 generalize cellAt ns 2=pick at *
 have TL:2<=2+pick%7/\2+pick%7<=8:=by omega
 simp only[EV,nj,c0,c1,c2,iT (show decide ((0:Int)<7)=true by decide)]
 generalize TM:2+pick%7=many at *
 have hR:inR many=true:=by unfold inR;simp only[Bool.and_eq_true,decide_eq_true_eq];omega
 have hc:many.toNat<=100000:=by omega
 simp only[EV,Gn hR,j5,List.length_map,List.length_range,hc]
 rw[kB (fun i:Nat=>Val.int (0+(i:Int))) (fun i:Nat=>.int (gp two one (0+(i:Int)))) (List.range many.toNat) (fun i hi=>by
  simp only[EV,bY,gB,yl])]
 have hpl:∀i:Int,0<=i->i<many->jg ((List.range many.toNat).map fun i:Nat=>Val.int (gp two one (0+(i:Int)))) i=some (.int (gp two one i)):=fun i h0 h1=>by
  obtain⟨k,rfl⟩:=Int.eq_ofNat_of_zero_le h0
  refine kG ?_
  rw[List.getElem?_map,List.getElem?_range (by omega)]
  simp
 generalize XI:((List.range many.toNat).map fun i:Nat=>Val.int (gp two one (0+(i:Int))))=Pl at *
 simp only[EV,Nj]
 repeat rw[k7]
 have hx:cF 0 (ms.map Val.int)=(cF 0 (ms.map Val.int)).map id:=(List.map_id _).symm
 rw[hx]
 have hmp:decide (0<many)=true:=by rw[decide_eq_true_eq];omega
 have Xk:gX many=true:=by unfold gX;rw[decide_eq_true_eq];omega
 have z3:3<=sizeLine:=by decide
 have z2:2<=sizeLine:=by decide
 refine bP id (fun r:Pr FV=>∃p q ts,r=.ok (true,bB p q ts)/\cB p q ts/\ts.length=ms.length)
  (fun done env=>∃(ts:List T3) (m6:Mk) (a b c d:Option (Mk×Val)),env=[some (.sh,.rl (ns.map .int)),some (.sh,.rl (ms.map .int)),some (.sh,.int one),some (.sh,.int two),some (.sh,.int pick),some (.sh,.int many),some (m6,.rl Pl),some (.ow,.rl (ts.map ck)),a,b,c,d,none]/\qO m6=true/\ts.length=done.length/\wL one two ts)
  ⟨[],_,none,none,none,none,rfl,by first|rfl|exact Gg,rfl,⟨fun i h=>by simp at h,fun _ h=>by simp at h⟩⟩ ?_ ?_
 ·rintro pre x post env hx ⟨ts,m6,a,b,c,d,rfl,h6,hl,ok⟩
  have Xl:pre.length<14:=by
   have:=congrArg List.length hx
   rw[jR,List.length_map,List.length_append,List.length_cons] at this
   omega
  obtain⟨cell,rfl⟩:=pJ _ _ _ _ _ hx
  rw[Nat.zero_add]
  have i1:=hpl (cell%many) (Int.emod_nonneg _ (by omega)) (Int.emod_lt_of_pos _ (by omega))
  have i2:=hpl (cell/many%many) (Int.emod_nonneg _ (by omega)) (Int.emod_lt_of_pos _ (by omega))
  generalize gp two one (cell%many)=n1 at *
  generalize gp two one (cell/many%many)=n2 at *
  have e3:=yl one two (pre.length:Int)
  have z:ts.length<sizeLine:=by rw[hl];unfold sizeLine;omega
  have tt:Val.tup [.int (gp one two (pre.length:Int)),.int (if n2<n1 then n2 else n1),.int (if n2>n1 then n2 else n1)]=ck (turnT (gp one two (pre.length:Int),n1,n2)):=rfl
  refine⟨_,?_,ts++[turnT (gp one two (pre.length:Int),n1,n2)],m6,some (.sh,.int pre.length),some (.sh,.int cell),some (.sh,.int n1),some (.sh,.int n2),rfl,h6,by simp[hl],⟨fun i hi=>?_,fun t ht=>?_⟩⟩
  ·simp only[EV,id,J1,h6,iT hmp,gQ Xk,mU i1,mU i2,gB,e3,z3,tt,List.length_map,z,List.map_append]
  ·rw[List.getElem_append]
   split
   ·exact ok.name i (by assumption)
   ·simp only[List.length_append,List.length_cons,List.length_nil] at hi
    have:i=pre.length:=by omega
    subst this
    simp[hl,turnT]
  ·rcases List.mem_append.mp ht with ht|ht
   ·exact ok.ends t ht
   ·rw[List.mem_singleton] at ht;subst ht
    unfold turnT;dsimp only;split<;>split<;>omega
 ·rintro env ⟨ts,m6,a,b,c,d,rfl,h6,hl,ok⟩
  have N2:ts.length<=14:=by rw[hl,jR,List.length_map];exact hm
  have j0:=hpl 0 (by omega) (by omega)
  have j1:jg Pl (1-(if pick/7%8=3 then 1 else 0))=some (.int (gp two one (1-(if pick/7%8=3 then 1 else 0)))):=hpl _ (by split<;>omega) (by split<;>omega)
  obtain⟨x,y,es,hxy⟩:=N1 (gp two one 0) (gp two one (1-(if pick/7%8=3 then 1 else 0)))
  generalize gp two one (1-(if pick/7%8=3 then 1 else 0))=n1 at *
  have Xm:gK .sorted [.rl [.int (gp two one 0),.int n1]]=.ok (true,.rl [.int x,.int y]):=by
   refine Co ?_
   show (if 2<64 then some ((PySem.W.sortI [gp two one 0,n1]).map Val.int) else none)=_
   rw[if_pos (by decide),es];rfl
  have eI:∀b:Bool,gK .int [.bl b]=.ok (true,.int (if b=true then 1 else 0)):=fun _=>rfl
  have dI:(if decide (pick/7%8=3)=true then (1:Int) else 0)=if pick/7%8=3 then 1 else 0:=by
   by_cases c:pick/7%8=3<;>simp[c]
  refine⟨x,y,iU ts,?_,⟨hxy,?_,?_,?_,?_⟩,?_⟩
  ·simp only[EV,h6,mU j0,gQ (show gX 7=true by decide),iT (show decide ((0:Int)<8)=true by decide),eI,dI,mU j1,z2,Xm,mU BR,mU zJ,uI (show ts.length<64 by omega)]
   rfl
  ·rw[(ff ts).length_eq];exact N2
  ·exact uJ ts (ok.nodup N2)
  ·exact fun t ht=>ok.ends t ((ff ts).mem_iff.mp ht)
  ·intro t ht
   obtain⟨i,hi,rfl⟩:=List.getElem_of_mem ((ff ts).mem_iff.mp ht)
   rw[ok.name i hi];exact Fj _ _ _
  ·rw[(ff ts).length_eq,hl,jR,List.length_map]
end K23
end
section
open PySem L2 Hv
namespace K23
noncomputable def TN(t:T3):Int×Int:=(t.2.1,t.2.2)
noncomputable def iX(p q:Int)(ts:List T3):List Int:=p::q::ts.flatMap fun t=>[t.2.1,t.2.2]
noncomputable def nq(p q:Int)(ts:List T3):List Int:=di (iX p q ts)
theorem mE(p q:Int)(ts:List T3):(iX p q ts).length=2+2*ts.length:=by
 unfold iX
 induction ts with
 | nil=>rfl
 | cons t r ih=>simp only[List.flatMap_cons,List.length_cons,List.length_append,List.length_nil] at *;omega
theorem uX:∀(ns ks:List Int),(dQ ks ns).length<=ks.length+ns.length
 | [],ks=>Nat.le_refl _
 | k::r,ks=>by
  rw[dQ,List.length_cons]
  have:=uX r (dY ks k)
  have:=om ks k
  omega
theorem Fo{p q:Int}{ts:List T3}(h:ts.length<=14):(nq p q ts).length<64:=by
 unfold nq di
 rw[(PySem.W.sortI_perm _).length_eq]
 have:=uX (iX p q ts) []
 rw[mE] at this
 simp only[List.length_nil] at this
 omega
theorem nL{p q x:Int}{ts:List T3}:x∈nq p q ts↔x=p\/x=q\/∃t∈ts,x=t.2.1\/x=t.2.2:=by
 unfold nq
 rw[BV]
 unfold iX
 simp only[List.mem_cons,List.mem_flatMap,List.not_mem_nil,or_false]
theorem places_eq{p q:Int}{ts:List T3}(h:ts.length<=14):cO [bB p q ts]=.ok (true,.rl ((nq p q ts).map .int)):=by
 unfold cO eG bB
 simp only[EV,lg BR,lg zJ,gz]
 rw[k7]
 refine bP ck (fun r:Pr FV=>r=.ok (true,.rl ((nq p q ts).map .int)))
  (fun done env=>∃a,env=[some (.sh,bB p q ts),some (.ow,.rl ((iX p q done).map .int)),a])
  ⟨none,rfl⟩ ?_ ?_
 ·rintro pre t post env hx ⟨a,rfl⟩
  refine⟨[some (.sh,bB p q ts),some (.ow,.rl ((iX p q (pre++[t])).map .int)),some (.sh,ck t)],?_,_,rfl⟩
  have hpl:pre.length<14:=by
   have:=congrArg List.length hx
   rw[List.length_append,List.length_cons] at this
   omega
  have z:((iX p q pre).map Val.int).length+2<=sizeLine:=by rw[List.length_map,mE];unfold sizeLine;omega
  have ea:(iX p q (pre++[t])).map Val.int=(iX p q pre).map Val.int++[.int t.2.1,.int t.2.2]:=by
   unfold iX;simp
  simp only[EV,bY,J3,z,ea]
 ·rintro env ⟨a,rfl⟩
  have hl:(iX p q ts).length<64:=by rw[mE];omega
  simp only[EV,ints_map,hl]
  rfl
end K23
end
section
open PySem L2 Hv
namespace K23
noncomputable def kc(e:Int×Int):Val:=.tup [.int e.1,.int e.2]
theorem Fp{i j:Nat}{e:Int×Int}{env:aF}:cG (.tup [i,j]) (kc e) env=some ((env.set i (some (.sh,.int e.1))).set j (some (.sh,.int e.2))):=rfl
theorem zT(ps:List Int)(hn:ps.Nodup)(hl:ps.length<64)(es:List (Int×Int))(he:∀e∈es,e.1∈ps/\e.2∈ps):∃f φ,dN [.rl (ps.map .int),.rl (es.map kc)]=.ok (f,j8 ps fun x=>.int (φ x))/\lC ps es φ:=by
 unfold dN eL
 simp only[EV,gz]
 rw[k7]
 have hz:∀pre:List Int,pre.length<=ps.length->(pre.map (Sum.inl:Int->Key)).length<sizeLine:=fun pre h=>by rw[List.length_map];unfold sizeLine;omega
 refine bP Val.int (fun r:Pr FV=>∃f φ,r=.ok (f,j8 ps fun x=>.int (φ x))/\lC ps es φ)
  (fun done env=>∃a,env=[some (.sh,.rl (ps.map .int)),some (.sh,.rl (es.map kc)),some (.ow,j8 done fun x=>.int x),a,none,none,none,none])
  ⟨none,rfl⟩ ?_ ?_
 ·rintro pre x post env hx ⟨a,rfl⟩
  have RX:x∉pre:=by
   rw[hx,List.nodup_append] at hn
   exact fun h=>hn.2.2 x h x (by simp) rfl
  refine⟨[some (.sh,.rl (ps.map .int)),some (.sh,.rl (es.map kc)),some (.ow,j8 (pre++[x]) fun x=>.int x),some (.sh,.int x),none,none,none,none],?_,_,rfl⟩
  simp only[EV,bY,o8,hz pre (by rw[hx];simp),sI RX]
  rw[cD (g':=fun x=>Val.int x)]
  intro y _
  unfold mq
  split
  ·rename_i e;rw[e]
  ·rfl
 ·rintro env ⟨a,rfl⟩
  simp only[EV,gz]
  rw[k7]
  refine bP kc (fun r:Pr FV=>∃f φ,r=.ok (f,j8 ps fun x=>.int (φ x))/\lC ps es φ)
   (fun done env=>∃(φ:Int->Int) (a b c d e:Option (Mk×Val)),env=[some (.sh,.rl (ps.map .int)),some (.sh,.rl (es.map kc)),some (.ow,j8 ps fun x=>.int (φ x)),a,b,c,d,e]/\lC ps done φ)
   ⟨id,_,_,_,_,_,rfl,lC.start ps⟩ ?_ ?_
  ·rintro pre e post env hx ⟨φ,a,b,c,d,f,rfl,Fc⟩
   obtain⟨h1,h2⟩:=he e (by rw[hx];simp)
   simp only[EV,Fp,mw h1,mw h2,gz]
   have hk:∃kept gone:Int,(if φ e.2 < φ e.1 then φ e.2 else φ e.1)=kept/\(if φ e.2 > φ e.1 then φ e.2 else φ e.1)=gone/\((kept = φ e.1/\gone = φ e.2)\/(kept = φ e.2/\gone = φ e.1)):=by
    refine⟨_,_,rfl,rfl,?_⟩
    split<;>split<;>omega
   obtain⟨kept,gone,ek,eg,hk⟩:=hk
   rw[ek,eg]
   refine bP Val.int (fun r:Pr nE=>∃env',r=.ok (.nx env')/\∃(φ:Int->Int) (a b c d f:Option (Mk×Val)),env'=[some (.sh,.rl (ps.map .int)),some (.sh,.rl (es.map kc)),some (.ow,j8 ps fun x=>.int (φ x)),a,b,c,d,f]/\lC ps (pre++[e]) φ)
    (fun done env=>∃a,env=[some (.sh,.rl (ps.map .int)),some (.sh,.rl (es.map kc)),some (.ow,j8 ps fun x=>.int (if x∈done /\ φ x=gone then kept else φ x)),a,some (.sh,.int e.1),some (.sh,.int e.2),some (.sh,.int kept),some (.sh,.int gone)])
    ⟨a,by simp⟩ ?_ ?_
   ·rintro done x post env hy ⟨a,rfl⟩
    have RX:x∉done:=by
     rw[hy,List.nodup_append] at hn
     exact fun h=>hn.2.2 x h x (by simp) rfl
    have hxs:x∈ps:=by rw[hy];simp
    refine⟨_,?_,some (.sh,.int x),rfl⟩
    simp only[EV,bY,mw hxs,o8,hz ps (Nat.le_refl _),sH hxs,RX,false_and,if_false]
    by_cases hg:φ x=gone
    ·simp only[hg,↓reduceIte]
     rw[cD]
     intro y _
     unfold mq
     by_cases e:y=x
     ·subst e;simp[hg]
     ·simp[e]
    ·simp only[hg,↓reduceIte]
     rw[cD]
     intro y _
     by_cases e:y=x
     ·subst e;simp[hg]
     ·simp[e]
   ·rintro env ⟨a,rfl⟩
    refine⟨_,rfl,(fun x=>if φ x=gone then kept else φ x),a,some (.sh,.int e.1),some (.sh,.int e.2),some (.sh,.int kept),some (.sh,.int gone),?_,Fc.step h1 h2 kept gone hk⟩
    rw[cD]
    intro y hy
    simp[hy]
  ·rintro env ⟨φ,a,b,c,d,e,rfl,Fc⟩
   simp only[EV,gg]
   exact⟨_,φ,rfl,Fc⟩
end K23
end
section
open PySem L2 Hv
namespace K23
theorem order_eq{p q:Int}{us:List T3}(hl:us.length<=16):cN [.tup [.int p,.int q],.rl (us.map ck)]=.ok (true,bB (if q<p then q else p) (if q>p then q else p) (iU (us.map turnT))):=by
 unfold cN cA
 have z0:0<=sizeLine:=by decide
 have z2:2<=sizeLine:=by decide
 have z3:3<=sizeLine:=by decide
 simp only[EV,gz]
 rw[k7]
 refine bP ck (fun r:Pr FV=>r=.ok (true,bB (if q<p then q else p) (if q>p then q else p) (iU (us.map turnT))))
  (fun done env=>∃a b c,env=[some (.sh,.tup [.int p,.int q]),some (.sh,.rl (us.map ck)),some (.ow,.rl ((done.map turnT).map ck)),a,b,c])
  ⟨none,none,none,rfl⟩ ?_ ?_
 ·rintro pre t post env hx ⟨a,b,c,rfl⟩
  have hpl:pre.length<16:=by
   have:=congrArg List.length hx
   rw[List.length_append,List.length_cons] at this
   omega
  have z:((pre.map turnT).map ck).length<sizeLine:=by rw[List.length_map,List.length_map];unfold sizeLine;omega
  refine⟨[some (.sh,.tup [.int p,.int q]),some (.sh,.rl (us.map ck)),some (.ow,.rl (((pre++[t]).map turnT).map ck)),some (.sh,.int t.1),some (.sh,.int t.2.1),some (.sh,.int t.2.2)],?_,_,_,_,rfl⟩
  have ea:((pre++[t]).map turnT).map ck=(pre.map turnT).map ck++[ck (turnT t)]:=by simp
  simp only[EV,E6,z3,z,ea]
  rfl
 ·rintro env ⟨a,b,c,rfl⟩
  simp only[EV,lg BR,lg zJ,z2,uI (show (us.map turnT).length<64 by rw[List.length_map];omega)]
  rfl
theorem zU{p q:Int}{us:List T3}(hl:us.length<=16):dM [bB p q us]=.ok (true,bB (if q<p then q else p) (if q>p then q else p) (iU (us.map turnT))):=by
 have e:=order_eq (p:=p) (q:=q) hl
 unfold dM gh
 unfold bB at e |-
 simp only[EV,iH,lg BR,lg zJ,e]
end K23
end
section
open PySem L2 Hv
namespace K23
noncomputable def nameV(t:T3):Val:=.int t.1
theorem Fq{t:T3}(h:t.2.1<=t.2.2):turnT t=t:=by
 obtain⟨a,b,c⟩:=t
 unfold turnT
 dsimp only at h |-
 rw[Prod.mk.injEq,Prod.mk.injEq]
 refine⟨rfl,?_,?_⟩<;>split<;>omega
theorem Ft{x:T3}:∀{l:List T3},(∀y∈l,x.1<y.1)->pe x l=x::l
 | [],_=>rfl
 | y::r,h=>by
  rw[pe]
  have lx:HT.lexLt (l3 y) (l3 x)=decide (y.1<x.1):=by
   show HT.lexLt (y.1::_) (x.1::_)=_
   have:=h y List.mem_cons_self
   rw[HT.eX,if_neg (by omega)]
  have:=h y List.mem_cons_self
  rw[lx,if_neg (by simp;omega)]
theorem uY:∀{l:List T3},CU l->iU l=l
 | [],_=>rfl
 | x::r,h=>by
  unfold CU at h
  rw[List.pairwise_cons] at h
  rw[iU,uY h.2,Ft h.1]
theorem Ko{p q:Int}{ts:List T3}(ok:cB p q ts):dM [bB p q ts]=.ok (true,bB p q ts):=by
 have e:=zU (p:=p) (q:=q) (us:=ts) (Nat.le_trans ok.len (by decide))
 have em:ts.map turnT=ts:=by
  rw[List.map_congr_left fun t ht=>Fq (ok.ends t ht)];exact List.map_id _
 have ep:(if q<p then q else p)=p:=by have:=ok.ord;split<;>omega
 have eq:(if q>p then q else p)=q:=by have:=ok.ord;split<;>omega
 rw[em,uY ok.up,ep,eq] at e
 exact e
theorem Cp:∀ts:List T3,cg E9 (ts.map ck)=some ts
 | []=>rfl
 | t::r=>by rw[List.map_cons,cg,show E9 (ck t)=some t from rfl,Option.bind_some,Cp r];rfl
noncomputable def pK(c:Nat)(p q:Int)(ts:List T3):Val:=.ob c ["net","places","ends"] [bB p q ts,.rl ((nq p q ts).map .int),.dc ((bU p q ts).map (·.1)) ((bU p q ts).map (·.2))]
noncomputable def bF(c:Nat)(p q:Int)(ts:List T3)(w:Int):Val:=.ob c ["net","places","ends","whole"] [bB p q ts,.rl ((nq p q ts).map .int),.dc ((bU p q ts).map (·.1)) ((bU p q ts).map (·.2)),.int w]
theorem Cq{Ψ:Nat->List Val->Pr FV}{c jo jp:Nat}{p q:Int}{ts:List T3}(h1:Ψ jo=dM)(h2:Ψ jp=cO)(ok:cB p q ts):pC Ψ c jo jp [bB p q ts]=.ok (true,pK c p q ts):=by
 have e1:=Ko ok
 have e2:=places_eq (p:=p) (q:=q) ok.len
 unfold pC
 dsimp only
 rw[h1,e1]
 unfold bB at e2 |-
 dsimp only
 rw[Cp,k9,gg,h2]
 unfold pg
 rw[if_pos (decide_eq_true (by have:=ok.len;omega)),e2]
 rfl
noncomputable def nms(ts:List T3):List Int:=-1::ts.map (·.1)
theorem Cr{a b:List Val}(h:a.length+b.length<=sizeLine):jv .add (.rl a) (.rl b)=.ok (bz (a++b),.rl (a++b)):=by
 show pg _ _=_
 unfold pg
 rw[if_pos (decide_eq_true h)]
theorem N3{c:Nat}{p q:Int}{ts:List T3}{m:Str}{js:List (Nat×Nat)}{j:Nat}(hj:js.lookup c=some j)(h:m ≠ "net" /\ m ≠ "places" /\ m ≠ "ends" /\ m ≠ "whole"):lQ [] (pK c p q ts) m js=some j:=by
 unfold pK lQ;dsimp only
 have e:∀vs:List Val,vs.length=3->((["net","places","ends"]:List Str).zip vs).lookup m=none:=fun vs hv=>by
  match vs,hv with
  | [a,b,c],_ =>
   rw[List.zip_cons_cons,List.lookup_cons,beq_false_of_ne h.1,List.zip_cons_cons,List.lookup_cons,beq_false_of_ne h.2.1,List.zip_cons_cons,List.lookup_cons,beq_false_of_ne h.2.2.1]
   rfl
 rw[e _ rfl]
 exact hj
theorem pL{c:Nat}{p q w:Int}{ts:List T3}{m:Str}{js:List (Nat×Nat)}{j:Nat}(hj:js.lookup c=some j)(h:m ≠ "net" /\ m ≠ "places" /\ m ≠ "ends" /\ m ≠ "whole"):lQ [] (bF c p q ts w) m js=some j:=by
 unfold bF lQ;dsimp only
 have e:∀vs:List Val,vs.length=4->((["net","places","ends","whole"]:List Str).zip vs).lookup m=none:=fun vs hv=>by
  match vs,hv with
  | [a,b,c,d],_ =>
   rw[List.zip_cons_cons,List.lookup_cons,beq_false_of_ne h.1,List.zip_cons_cons,List.lookup_cons,beq_false_of_ne h.2.1,List.zip_cons_cons,List.lookup_cons,beq_false_of_ne h.2.2.1,List.zip_cons_cons,List.lookup_cons,beq_false_of_ne h.2.2.2]
   rfl
 rw[e _ rfl]
 exact hj
theorem zV{c:Nat}(hc:c<1){p q w:Int}{ts:List T3}:gG 1 [] (bF c p q ts w) "whole" = some (.int w):=by
 unfold bF gG;dsimp only;rw[if_pos hc];rfl
theorem lA(l:List Int):bz (l.map Val.int)=true:=aU l
theorem Cs{p q:Int}{ts:List T3}(ok:cB p q ts):PySem.W.sortI (nms ts)=nms ts:=by
 refine(PySem.W.eq_sortI (List.Perm.refl _) ?_).symm
 unfold nms
 rw[List.pairwise_cons]
 refine⟨fun x hx=>?_,?_⟩
 ·obtain⟨t,ht,rfl⟩:=List.mem_map.mp hx
  have:=ok.names t ht;omega
 ·rw[List.pairwise_map]
  have:=ok.up
  unfold CU at this
  exact this.imp fun h=>by omega
theorem zW{p q:Int}{ts:List T3}(ok:cB p q ts):(nms ts).Nodup:=by
 unfold nms
 rw[List.nodup_cons]
 refine⟨fun h=>?_,?_⟩
 ·obtain⟨t,ht,e⟩:=List.mem_map.mp h
  have:=ok.names t ht;omega
 ·have:=ok.up
  unfold CU at this
  rw[List.Nodup,List.pairwise_map]
  exact this.imp fun h=>by omega
theorem Xn(t:Int):gK (.isin "int") [.int t]=.ok (true,.bl true):=zK (t:="int") rfl (by decide)
theorem RY(t:Int):gK (.isin "bool") [.int t]=.ok (true,.bl false):=wB (t:="int") rfl (by decide)
theorem ym(l:List Int):cop [] .ne (.rl (l.map .int)) (.rl (l.map .int))=some false:=by
 refine ne_self (BU Val.int PyData.int l fun _ _=>rfl) ?_
 rw[PyData.canLay0]
 exact o7 _ _ fun t _=>by rw[PyData.canLay0]
noncomputable def pM:List Int->Int->List Int
 | [],_=>[]
 | x::r,c=>if c%2=1 then x::pM r (c/2) else pM r (c/2)
theorem pN:∀(ns:List Int) (c:Int),(pM ns c).Sublist ns
 | [],_=>.slnil
 | x::r,c=>by
  rw[pM]
  split
  ·exact(pN r _).cons_cons x
  ·exact(pN r _).cons x
theorem Kp(ns:List Int)(c:Int)(h:ns.length<64):ly [.rl (ns.map .int),.int c]=.ok (true,.rl ((pM ns c).map .int)):=by
 unfold ly jF
 simp only[EV,gz,show 0<=sizeLine by decide]
 repeat rw[k7]
 refine bP Val.int (fun r:Pr FV=>r=.ok (true,.rl ((pM ns c).map .int)))
  (fun done env=>∃(l:List Int) (c':Int) (a:Option (Mk×Val)),env=[some (.sh,.rl (ns.map .int)),some (.sh,.int c'),some (.ow,.rl (l.map .int)),a]/\pM ns c=l++pM (ns.drop done.length) c'/\l.length<=done.length)
  ⟨[],c,none,rfl,rfl,Nat.le_refl _⟩ ?_ ?_
 ·rintro pre x post env hx ⟨l,c',a,rfl,hl,hle⟩
  have hd:ns.drop pre.length=x::post:=by rw[hx];simp
  have hd2:ns.drop (pre++[x]).length=post:=by rw[hx];simp
  have hpl:pre.length<64:=by
   have:=congrArg List.length hx
   rw[List.length_append,List.length_cons] at this
   omega
  have z:(l.map Val.int).length<sizeLine:=by rw[List.length_map];unfold sizeLine;omega
  rw[hd,pM] at hl
  simp only[EV,bY,iT (show decide ((0:Int)<2)=true by decide),gQ (show gX 2=true by decide)]
  by_cases e:c'%2=1
  ·rw[if_pos e] at hl
   refine⟨_,?_,l++[x],c'/2,some (.sh,.int x),rfl,by rw[hd2,hl];simp,by simp;omega⟩
   simp only[EV,e,decide_true,z,List.map_append,gQ (show gX 2=true by decide)]
  ·rw[if_neg e] at hl
   refine⟨_,?_,l,c'/2,some (.sh,.int x),rfl,by rw[hd2,hl],by simp;omega⟩
   simp only[EV,e,decide_false,gQ (show gX 2=true by decide)]
 ·rintro env ⟨l,c',a,rfl,hl,hle⟩
  rw[List.drop_length,pM,List.append_nil] at hl
  simp only[EV,hl,lA]
noncomputable def bL(p q:Int)(ts:List T3)(x:Int):Int×Int:=match ts.find? (fun t=>decide (t.1=x)) with
 | some t=>(t.2.1,t.2.2)
 | none=>(p,q)
theorem Ct{t:T3}:∀{ts:List T3},(ts.map (·.1)).Nodup->t∈ts->ts.find? (fun u=>decide (u.1=t.1))=some t
 | u::r,hn,ht=>by
  rw[List.map_cons,List.nodup_cons] at hn
  rw[List.find?_cons]
  by_cases e:u.1=t.1
  ·rw[decide_eq_true e]
   rcases List.mem_cons.mp ht with rfl|ht
   ·rfl
   ·exact absurd (e▸List.mem_map_of_mem (f:=(·.1)) ht) hn.1
  ·rw[decide_eq_false e]
   rcases List.mem_cons.mp ht with rfl|ht
   ·exact absurd rfl e
   ·exact Ct hn.2 ht
theorem pO{p q:Int}{ts:List T3}(ok:cB p q ts):(ts.map (·.1)).Nodup:=(List.nodup_cons.mp (zW ok)).2
theorem wM{p q:Int}{ts:List T3}(ok:cB p q ts){t:T3}(ht:t∈ts):bL p q ts t.1=(t.2.1,t.2.2):=by
 unfold bL;rw[Ct (pO ok) ht]
theorem wN{p q:Int}{ts:List T3}(ok:cB p q ts):bL p q ts (-1)=(p,q):=by
 unfold bL
 rw[List.find?_eq_none.mpr fun t ht=>by have:=ok.names t ht;simp;omega]
theorem sN{p q:Int}{ts:List T3}(ok:cB p q ts){x:Int}(hx:x∈nms ts):(bL p q ts x).1∈nq p q ts/\(bL p q ts x).2∈nq p q ts:=by
 unfold nms at hx
 rcases List.mem_cons.mp hx with rfl|hx
 ·rw[wN ok];exact⟨nL.mpr (.inl rfl),nL.mpr (.inr (.inl rfl))⟩
 ·obtain⟨t,ht,rfl⟩:=List.mem_map.mp hx
  rw[wM ok ht]
  exact⟨nL.mpr (.inr (.inr ⟨t,ht,.inl rfl⟩)),nL.mpr (.inr (.inr ⟨t,ht,.inr rfl⟩))⟩
theorem yo(g:Int->Val):∀(us:List T3) (ks:List Int),(∀u∈us,u.1∉ks)->(us.map (·.1)).Nodup->(∀u∈us,g u.1=.tup [.int u.2.1,.int u.2.2]) ->
  us.foldl iy (ks.map fun x=>((Sum.inl x:Key),g x))=(ks++us.map (·.1)).map fun x=>((Sum.inl x:Key),g x)
 | [],ks,_,_,_=>by simp
 | u::r,ks,h1,h2,h3=>by
  rw[List.map_cons,List.nodup_cons] at h2
  have e:iy (ks.map fun x=>((Sum.inl x:Key),g x)) u=(ks++[u.1]).map fun x=>((Sum.inl x:Key),g x):=by
   unfold iy f7
   rw[wD,if_neg (by simpa using h1 u List.mem_cons_self),List.map_append,List.map_cons,List.map_nil,h3 u List.mem_cons_self]
  rw[List.foldl_cons,e,yo g r (ks++[u.1]) (fun v hv z=>?_) h2.2 fun v hv=>h3 v (List.mem_cons_of_mem _ hv)]
  ·simp
  ·rcases List.mem_append.mp z with z|z
   ·exact h1 v (List.mem_cons_of_mem _ hv) z
   ·rw[List.mem_singleton] at z
    exact h2.1 (z▸List.mem_map_of_mem (f:=(·.1)) hv)
noncomputable def iR(p q:Int)(ts:List T3)(x:Int):Val:=kc (bL p q ts x)
noncomputable def cT(p q:Int)(ts:List T3):Val:=j8 (nms ts) (iR p q ts)
theorem yq{p q:Int}{ts:List T3}(ok:cB p q ts):Val.dc ((bU p q ts).map (·.1)) ((bU p q ts).map (·.2))=cT p q ts:=by
 have e:bU p q ts=(nms ts).map fun x=>((Sum.inl x:Key),iR p q ts x):=by
  have h:=yo (iR p q ts) ts [-1] (fun u hu z=>by
   rw[List.mem_singleton] at z
   have:=ok.names u hu;omega) (pO ok) fun u hu=>by unfold iR;rw[wM ok hu];rfl
  unfold bU nms
  rw[List.map_cons,List.map_nil] at h
  have e1:iR p q ts (-1)=.tup [.int p,.int q]:=by unfold iR;rw[wN ok];rfl
  rw[e1] at h
  exact h
 rw[e,List.map_map,List.map_map];rfl
structure Fv (o:Val) (p q:Int) (ts:List T3):Prop where
 net:gG 1 [] o "net" = some (bB p q ts)
 places:gG 1 [] o "places" = some (.rl ((nq p q ts).map .int))
 ends:gG 1 [] o "ends" = some (cT p q ts)
theorem yr{c:Nat}(hc:c<1){p q:Int}{ts:List T3}(ok:cB p q ts):Fv (pK c p q ts) p q ts:=by
 refine⟨?_,?_,?_⟩
 ·unfold pK gG;dsimp only;rw[if_pos hc];rfl
 ·unfold pK gG;dsimp only;rw[if_pos hc];rfl
 ·rw[<-yq ok];unfold pK gG;dsimp only;rw[if_pos hc];rfl
theorem yt{c:Nat}(hc:c<1){p q w:Int}{ts:List T3}(ok:cB p q ts):Fv (bF c p q ts w) p q ts:=by
 refine⟨?_,?_,?_⟩
 ·unfold bF gG;dsimp only;rw[if_pos hc];rfl
 ·unfold bF gG;dsimp only;rw[if_pos hc];rfl
 ·rw[<-yq ok];unfold bF gG;dsimp only;rw[if_pos hc];rfl
theorem Cu{p q:Int}{ts:List T3}(h:ts.length<=14):gk [bB p q ts]=.ok (true,.rl (ts.map nameV)):=by
 unfold gk fJ bB
 have hc:ts.length<=100000:=by omega
 simp only[EV,lg zJ,gz,j5,List.length_map,hc]
 rw[kB ck nameV ts (fun t ht=>by
  have i0:iM [] (ck t) (.int 0)=some (.int t.1):=rfl
  simp only[EV,bY,i0,nameV])]
 simp only[EV,gg]
theorem yu{o:Val}{p q:Int}{ts:List T3}(ro:Fv o p q ts)(h:ts.length<=14):cP [o]=.ok (true,.rl ((nms ts).map .int)):=by
 have e1:=Cu (p:=p) (q:=q) h
 unfold cP eN
 have z1:1<=sizeLine:=by decide
 have z:([.int (-1)]:List Val).length+(ts.map nameV).length<=sizeLine:=by rw[List.length_map];simp;unfold sizeLine;omega
 simp only[EV,ro.net,jd,e1,z1,Cr z]
 have em:[Val.int (-1)]++ts.map nameV=(nms ts).map .int:=by unfold nms;rw[List.map_cons,List.map_map];rfl
 have en:bz (ts.map nameV)=true:=by rw[show ts.map nameV=(ts.map (·.1)).map Val.int by rw[List.map_map];rfl];exact lA _
 rw[show Val.int (-1)::ts.map nameV=(nms ts).map .int from em,en]
theorem N4(e:Int×Int):gZ (kc e)=true:=rfl
theorem pP(p q:Int)(ts:List T3)(x:Int):gZ (iR p q ts x)=true:=rfl
theorem Cv{p q:Int}{ts:List T3}{x:Int}:iM [] (iR p q ts x) (.int 0)=some (.int (bL p q ts x).1):=rfl
theorem Cw{p q:Int}{ts:List T3}{x:Int}:iM [] (iR p q ts x) (.int 1)=some (.int (bL p q ts x).2):=rfl
theorem sO{p q:Int}{ts:List T3}{x:Int}(h:x∈nms ts):iM [] (cT p q ts) (.int x)=some (iR p q ts x):=mw h
theorem Cy(p q:Int)(ts:List T3):∀l:List Int,bz (l.map (iR p q ts))=true
 | []=>rfl
 | x::r=>by rw[List.map_cons,bz,Cy p q ts r];rfl
theorem jT{p q:Int}{ts:List T3}(ok:cB p q ts):(nms ts).length<=15:=by
 have:=ok.len;unfold nms;simp;omega
noncomputable def mF(p q:Int)(ts:List T3)(P:List Int):Nat:=tr (nq p q ts) (P.map (bL p q ts))
theorem RZ{p q:Int}{ts:List T3}(ok:cB p q ts){P:List Int}(hP:∀x∈P,x∈nms ts):Vi (nq p q ts) (P.map (bL p q ts)):=fun e he=>by
 obtain⟨x,hx,rfl⟩:=List.mem_map.mp he
 exact sN ok (hP x hx)
theorem uZ{o:Val}{p q:Int}{ts:List T3}(ok:cB p q ts)(ro:Fv o p q ts){P:List Int}(hP:∀x∈P,x∈nms ts)(hl:P.length<=15):aW [o,.rl (P.map .int)]=.ok (true,.int (mF p q ts P)):=by
 have hpl:=Fo (p:=p) (q:=q) ok.len
 have OE:(nq p q ts).Nodup:=ku _
 obtain⟨f,φ,ef,Fc⟩:=zT (nq p q ts) OE hpl (P.map (bL p q ts)) (fun e he=>by
  obtain⟨x,hx,rfl⟩:=List.mem_map.mp he
  exact sN ok (hP x hx))
 have et:mF p q ts P=rk φ (nq p q ts):=Gm Fc OE
 rw[et]
 rw[List.map_map] at ef
 unfold aW bT
 have hc:P.length<=100000:=by omega
 have hc2:(nq p q ts).length<=100000:=by omega
 simp only[EV,ro.places,ro.ends,gz,j5,List.length_map,hc]
 rw[kB Val.int (iR p q ts) P (fun x hx=>by
  simp only[EV,bY,ro.ends,sO (hP x hx),pP])]
 have Xo:dN [.rl ((nq p q ts).map .int),.rl (P.map (iR p q ts))]=.ok (f,j8 (nq p q ts) fun x=>.int (φ x)):=ef
 simp only[EV,fV,Xo,ro.places,gz,j5,List.length_map,hc2]
 rw[kC Val.int Val.int (fun x=>!decide (φ x=x)) (nq p q ts) (fun x hx=>by
  have hi:=mw (g:=fun x=>Val.int (φ x)) hx
  simp only[EV,bY,hi]
  by_cases c:φ x=x
  ·simp[c]
  ·simp[c])]
 simp only[EV,List.length_map]
 rfl
theorem yv:∀us:List T3,bz (us.map ck)=true
 | []=>rfl
 | u::r=>by rw[List.map_cons,bz,yv r];rfl
theorem Cz{Ψ' Ψ:Nat->List Val->Pr FV}{c jo jp jt jr:Nat}(hc:c<1){p q:Int}{ts:List T3}(h1:Ψ' jo=dM)(h2:Ψ' jp=cO)(h3:Ψ jt=cP)(h4:Ψ jr=aW)(ok:cB p q ts) :
  qU Ψ' Ψ c jo jp jt jr [bB p q ts]=.ok (true,bF c p q ts (mF p q ts (nms ts))):=by
 have e3:=yu (yr hc ok) ok.len
 have e1:=uZ ok (yr hc ok) (P:=nms ts) (fun _ h=>h) (jT ok)
 rw[<-h3] at e3
 rw[<-h4] at e1
 exact B0 (Cq h1 h2 ok) e3 e1
noncomputable def others(ts:List T3)(P:List Int):List Int:=(nms ts).filter fun x=>!decide (x∈P)
theorem wO{ts:List T3}{P:List Int}:∀x∈others ts P,x∈nms ts:=fun x hx=>(List.mem_filter.mp hx).1
theorem sP{p q:Int}{ts:List T3}(ok:cB p q ts){P:List Int}:(others ts P).length<=15:=Nat.le_trans (List.length_filter_le _ _) (jT ok)
theorem u5{c:Nat}(hc:c<1)(jt:([(0,11)]:List (Nat×Nat)).lookup c=some 11)(jr:([(0,9)]:List (Nat×Nat)).lookup c=some 9){p q w:Int}{ts:List T3}(ok:cB p q ts){P:List Int}:dh [bF c p q ts w,.rl (P.map .int)]=.ok (true,.int ((P.length:Int)-w+mF p q ts (others ts P))):=by
 have e1:=uZ ok (yt (w:=w) hc ok) (P:=others ts P) wO (sP ok)
 have e3:=yu (yt (w:=w) hc ok) ok.len
 have hl:(nms ts).length<=100000:=by have:=jT ok;omega
 have m1:=pL (p:=p) (q:=q) (w:=w) (ts:=ts) (m:="ties") jt (by decide)
 have m2:=pL (p:=p) (q:=q) (w:=w) (ts:=ts) (m:="tree_rank") jr (by decide)
 unfold dh cM
 simp only[EV,m1,gT,e3,gz,j5,List.length_map,hl]
 rw[kC Val.int Val.int (fun x=>!decide (x∈P)) (nms ts) (fun x hx=>by
  simp only[EV,bY,J2]
  by_cases c:x∈P
  ·simp[c]
  ·simp[c])]
 have Sj:aW [bF c p q ts w,.rl (((nms ts).filter fun x=>!decide (x∈P)).map .int)]=.ok (true,.int (mF p q ts (others ts P))):=e1
 simp only[EV,m2,fL,Sj,zV hc,List.length_map]
theorem qY:∀ks:List Int,aQ (ks.map Val.int)=some ks
 | []=>rfl
 | k::r=>by
  have:=qY r
  unfold aQ at this |-
  rw[List.map_cons,cg,this];rfl
theorem Fw{ks ms:List Int}(h:ks.length<=100000):oE [] (ks.map Sum.inl) (.rl (ms.map .int))=some (ks.filter fun x=>!decide (x∈ms)):=by
 unfold oE
 rw[pD,Option.bind_some,show aB [] (.rl (ms.map .int))=some (ms.map .int) from rfl,Option.bind_some,qY,Option.bind_some,if_pos h]
 congr 1
 refine List.filter_congr fun x _=>?_
 congr 1
 rw[Bool.eq_iff_iff,List.any_eq_true,decide_eq_true_eq]
 constructor
 ·rintro⟨m,hm,e⟩
  rw[<-eq_of_beq e];exact hm
 ·exact fun hm=>⟨x,hm,beq_self_eq_true _⟩
end K23
end
section
open PySem L2 Hv
namespace K23
theorem u6{p q:Int}{ts:List T3}(ok:cB p q ts):iF [bB p q ts]=.ok (true,cT p q ts):=by
 have hl:=ok.len
 unfold iF iD bB
 have em:iR p q ts (-1)=.tup [.int p,.int q]:=by unfold iR;rw[wN ok];rfl
 simp only[EV,lg BR,lg zJ,o8,gz,show (-(1:Int)) = -1 from rfl]
 repeat rw[k7]
 refine bP ck (fun r:Pr FV=>r=.ok (true,cT p q ts))
  (fun done env=>∃a b c,env=[some (.sh,.tup [.tup [.int p,.int q],.rl (ts.map ck)]),some (.ow,j8 (nms done) (iR p q ts)),a,b,c])
  ⟨none,none,none,by unfold nms j8;rw[List.map_nil,List.map_cons,List.map_cons,em];rfl⟩ ?_ ?_
 ·rintro pre t post env hx ⟨a,b,c,rfl⟩
  have hp:pre.length<=14:=by
   have:=congrArg List.length hx
   rw[List.length_append,List.length_cons] at this;omega
  have hnew:t.1∉nms pre:=fun z=>by
   unfold nms at z
   have hn:=pO ok
   rw[hx,List.map_append,List.map_cons,List.nodup_append] at hn
   rcases List.mem_cons.mp z with z|z
   ·have:=ok.names t (by rw[hx];simp);omega
   ·exact hn.2.2 t.1 z t.1 List.mem_cons_self rfl
  have zz:((nms pre).map (Sum.inl:Int->Key)).length<sizeLine:=by rw[List.length_map];unfold nms;simp;unfold sizeLine;omega
  have z2:2<=sizeLine:=by decide
  have bt:∀env:aF,cG (.tup [2,3,4]) (ck t) env=some (((env.set 2 (some (.sh,.int t.1))).set 3 (some (.sh,.int t.2.1))).set 4 (some (.sh,.int t.2.2))):=fun _=>rfl
  refine⟨_,?_,some (.sh,.int t.1),some (.sh,.int t.2.1),some (.sh,.int t.2.2),rfl⟩
  simp only[EV,bt,o8,zz,z2,sI hnew]
  have eD:j8 (nms pre++[t.1]) (mq (iR p q ts) t.1 (.tup [.int t.2.1,.int t.2.2]))=j8 (nms (pre++[t])) (iR p q ts):=by
   rw[show nms (pre++[t])=nms pre++[t.1] by unfold nms;simp]
   refine cD fun y hy=>?_
   unfold mq
   split
   ·rename_i e;rw[e];unfold iR;rw[wM ok (by rw[hx];simp)];rfl
   ·rfl
  rw[eD]
 ·rintro env ⟨a,b,c,rfl⟩
  simp only[EV,Cy]
  rfl
theorem zX{p q:Int}{ts:List T3}(ok:cB p q ts){P:List Int}(hP:∀x∈P,x∈nms ts)(hl:P.length<=15):∃(n:Nat) (ψ:Int->Int) (ks:List Int),fj [cT p q ts,.rl (P.map .int)]=.ok (true,.int n)/\zN (nq p q ts) ks (P.map (bL p q ts)) ψ n:=by
 have OE:(nq p q ts).Nodup:=ku _
 unfold fj fK
 simp only[EV,gz]
 repeat rw[k7]
 refine bP Val.int (fun r:Pr FV=>∃(n:Nat) (ψ:Int->Int) (ks:List Int),r=.ok (true,.int n)/\zN (nq p q ts) ks (P.map (bL p q ts)) ψ n)
  (fun done env=>∃(n:Nat) (ψ:Int->Int) (ks:List Int) (a b c d:Option (Mk×Val)),env=[some (.sh,cT p q ts),some (.sh,.rl (P.map .int)),some (.ow,j8 ks fun x=>.int (ψ x)),some (.sh,.int n),a,b,c,d]/\zN (nq p q ts) ks (done.map (bL p q ts)) ψ n)
  ⟨0,id,[],none,none,none,none,rfl,zN.start OE⟩ ?_ ?_
 ·rintro pre x post env hx ⟨n,ψ,ks,a,b,c,d,rfl,m⟩
  have Xp:x∈P:=by rw[hx];simp
  have hxn:=hP x Xp
  obtain⟨h1,h2⟩:=sN ok hxn
  have hpre:pre.length<=14:=by
   have:=congrArg List.length hx
   rw[List.length_append,List.length_cons] at this;omega
  have hks:ks.length<=28:=by have:=m.len;rw[List.length_map] at this;omega
  have gd:∀y:Int,((if y∈ks then some (Val.int (ψ y)) else none).getD (.int y))=.int (ψ y):=fun y=>by
   by_cases h:y∈ks
   ·rw[if_pos h];rfl
   ·rw[if_neg h,m.off y h];rfl
  have Xq:Ba [] (j8 ks fun x=>Val.int (ψ x))=some ():=rfl
  simp only[EV,bY,sO hxn,Cv,Cw,pP,Xq,o8,J7,gd]
  have Xr:(pre++[x]).map (bL p q ts)=pre.map (bL p q ts)++[((bL p q ts x).1,(bL p q ts x).2)]:=by rw[List.map_append];rfl
  rw[Xr]
  by_cases c:ψ (bL p q ts x).1 = ψ (bL p q ts x).2
  ·refine⟨[some (.sh,cT p q ts),some (.sh,.rl (P.map .int)),some (.ow,j8 ks fun x=>.int (ψ x)),some (.sh,.int n),some (.sh,.int x),some (.sh,.int (ψ (bL p q ts x).1)),some (.sh,.int (ψ (bL p q ts x).2)),d],?_,n,ψ,ks,_,_,_,_,rfl,m.stay h1 h2 c⟩
   simp only[EV,c,not_true,decide_false]
  ·have m2:=m.join h1 h2 c
   generalize N5:dY (dY ks (bL p q ts x).1) (bL p q ts x).2=ks' at m2
   have zz:∀l:List Int,l.length<=40->(l.map (Sum.inl:Int->Key)).length<sizeLine:=fun l h=>by rw[List.length_map];unfold sizeLine;omega
   have l1:(dY ks (bL p q ts x).1).length<=40:=by have:=jB ks (bL p q ts x).1;omega
   have l2:ks'.length<=40:=by have:=jB (dY ks (bL p q ts x).1) (bL p q ts x).2;rw[N5] at this;have:=jB ks (bL p q ts x).1;omega
   have Xs:=yg (ks:=ks) (ψ:=ψ) (a:=(bL p q ts x).1)
   have TQ:=yg (ks:=dY ks (bL p q ts x).1) (ψ:=ψ) (a:=(bL p q ts x).2)
   rw[N5] at TQ
   have ky:kM [] (j8 ks' fun x=>Val.int (ψ x))=some (ks'.map Sum.inl):=rfl
   have kv:(ks'.map (Sum.inl:Int->Key)).map zj=ks'.map Val.int:=by rw[List.map_map];rfl
   simp only[EV,c,not_false_iff,decide_true,sO hxn,Cv,Cw,pP,o8,zz ks (by omega),zz _ l1,Xs,TQ,ky,kv,gz]
   repeat rw[k7]
   refine bP Val.int (fun r:Pr nE=>∃env',r=.ok (.nx env')/\∃(n:Nat) (ψ:Int->Int) (ks:List Int) (a b c d:Option (Mk×Val)),env'=[some (.sh,cT p q ts),some (.sh,.rl (P.map .int)),some (.ow,j8 ks fun x=>.int (ψ x)),some (.sh,.int n),a,b,c,d]/\zN (nq p q ts) ks (pre.map (bL p q ts)++[((bL p q ts x).1,(bL p q ts x).2)]) ψ n)
    (fun done env=>∃a,env=[some (.sh,cT p q ts),some (.sh,.rl (P.map .int)),some (.ow,j8 ks' fun y=>.int (if y∈done /\ ψ y = ψ (bL p q ts x).2 then ψ (bL p q ts x).1 else ψ y)),some (.sh,.int ((n:Int)+1)),some (.sh,.int x),some (.sh,.int (ψ (bL p q ts x).1)),some (.sh,.int (ψ (bL p q ts x).2)),a])
    ?_ ?_ ?_
   ·exact⟨d,by simp⟩
   ·rintro done y post env hy ⟨a,rfl⟩
    have hn:=m2.nd
    have hyp:y∉done:=by
     rw[hy,List.nodup_append] at hn
     exact fun h=>hn.2.2 y h y (by simp) rfl
    have hys:y∈ks':=by rw[hy];simp
    refine⟨_,?_,some (.sh,.int y),rfl⟩
    simp only[EV,bY,mw hys,o8,zz ks' l2,sH hys,hyp,false_and,if_false]
    by_cases hg:ψ y = ψ (bL p q ts x).2
    ·simp only[hg,↓reduceIte]
     rw[cD]
     intro z _
     unfold mq
     by_cases e:z=y
     ·subst e;simp[hg]
     ·simp[e]
    ·simp only[hg,↓reduceIte]
     rw[cD]
     intro z _
     by_cases e:z=y
     ·subst e;simp[hg]
     ·simp[e]
   ·rintro env ⟨a,rfl⟩
    refine⟨_,rfl,n+1,(fun y=>if ψ y = ψ (bL p q ts x).2 then ψ (bL p q ts x).1 else ψ y),ks',some (.sh,.int x),some (.sh,.int (ψ (bL p q ts x).1)),some (.sh,.int (ψ (bL p q ts x).2)),a,?_,m2⟩
    rw[cD (g':=fun y=>.int (if ψ y = ψ (bL p q ts x).2 then ψ (bL p q ts x).1 else ψ y))]
    ·rfl
    ·intro z hz
     simp[hz]
 ·rintro env ⟨n,ψ,ks,a,b,c,d,rfl,m⟩
  simp only[EV,gg]
  exact⟨n,ψ,ks,rfl,m⟩
theorem pQ{p q:Int}{ts:List T3}(ok:cB p q ts){P:List Int}(hP:∀x∈P,x∈nms ts)(hl:P.length<=15):fj [cT p q ts,.rl (P.map .int)]=.ok (true,.int (mF p q ts P)):=by
 obtain⟨n,ψ,ks,e,m⟩:=zX ok hP hl
 rw[e,J8 m.Fc (ku _) m.num]
 rfl
end K23
end
section
open PySem L2 Hv
namespace K23
theorem u7(n:Int):iG [.int n]=.ok (true,.bl true):=by
 unfold iG gi
 simp only[EV,Xn,RY]
theorem Fx{o:rR}{a b:IE}{p:jV}{k:Ik}{body:cU}:uN (.bin o a b) p k body=none:=by
 first
  | (unfold uN
     split
     ·exact absurd ‹IE.bin o a b=IE.var _› (by intro z;cases z)
     ·rfl)
  | exact Eq.trans rfl rfl
theorem Fy{o:Bl}{es:eO}{p:jV}{k:Ik}{body:cU}:uN (.blt o es) p k body=none:=by
 first
  | (unfold uN
     split
     ·exact absurd ‹IE.blt o es=IE.var _› (by intro z;cases z)
     ·rfl)
  | exact Eq.trans rfl rfl
theorem Fz{n k:Nat}(h:k<n):rD n (k:Int)=some k:=by
 unfold rD
 rw[if_pos (by omega),if_pos (by omega)]
 simp
noncomputable def pR:cU:=(.cons (.di (.idx (.var 1) (.cst (.int 1))) (.var 4) (.tup (.cons (.idx (.idx (.idx (.var 1) (.cst (.int 1))) (.var 4)) (.cst (.int 0))) (.cons (.idx (.idx (.var 1) (.cst (.int 0))) (.cst (.int 0))) (.cons (.idx (.idx (.var 1) (.cst (.int 0))) (.cst (.int 0))) .nil))))) .nil)
noncomputable def pS:cU:=(.cons (.asg (.one 6) (.call 13 (.cons (.skeys (.var 2)) (.cons (.bin .fdiv (.var 5) (.cst (.int 2))) .nil)))) (.cons (.iff (.cmp .eq (.bin .mod (.var 5) (.cst (.int 2))) (.cst (.int 1))) (.cons (.asg (.one 6) (.rev (.var 6) (.neg (.cst (.int 1))))) .nil) .nil) (.cons (.asg (.one 7) (.blt .list (.cons (.var 6) .nil))) (.cons (.asg (.one 8) (.mth (.var 3) "rank" [(0,14)] (.cons (.var 7) .nil))) (.cons (.asg (.one 9) (.dflt ["_law_name","_law_picked"] [none,some 6] 0 1 (.var 2) (.var 6))) (.cons (.asg (.one 10) (.bin .add (.bin .sub (.blt .len (.cons (.var 6) .nil)) (.call 15 (.cons (.var 2) (.cons (.lkeys (.var 2)) .nil)))) (.call 15 (.cons (.var 2) (.cons (.var 9) .nil))))) (.cons (.iff (.or (.not (.call 16 (.cons (.var 8) .nil))) (.or (.cmp .ne (.var 8) (.var 10)) (.cmp .ne (.var 7) (.var 6)))) (.cons (.ret (.cst (.bl false))) .nil) .nil) .nil)))))))
noncomputable def CA:IS:=(.for (.one 4) .range (.cons (.blt .len (.cons (.idx (.var 1) (.cst (.int 1))) .nil)) .nil) pR)
noncomputable def CB:IS:=(.for (.one 5) .seq (.cons (.bin .add (.lst (.cons (.cst (.int 0)) .nil)) (.slc (.var 0) (.cst (.int 17)) (.cst (.int 63)))) .nil) pS)
theorem CC{p q w:Int}{ns:List Int}{ts us:List T3}{k:Nat}{a:Option (Mk×Val)}(hk:k<us.length):cz (aE dH) [1] pR [some (.sh,.rl (ns.map .int)),some (.ow,bB p q us),some (.sh,cT p q ts),some (.sh,bF 0 p q ts w),some (.sh,.int (0+(k:Int))),none,none,none,none,none,none] =
  .ok (.nx [some (.sh,.rl (ns.map .int)),some (.ow,bB p q (us.set k (us[k].1,p,p))),some (.sh,cT p q ts),some (.sh,bF 0 p q ts w),some (.sh,.int (0+(k:Int))),none,none,none,none,none,none]):=by
 have e0:(0:Int)+(k:Int)=(k:Int):=by omega
 have z3:3<=sizeLine:=by decide
 have m1:∀us:List T3,iM [] (.tup [.tup [.int p,.int q],.rl (us.map ck)]) (.int 1)=some (.rl (us.map ck)):=fun _=>rfl
 have m0:∀us:List T3,iM [] (.tup [.tup [.int p,.int q],.rl (us.map ck)]) (.int 0)=some (.tup [.int p,.int q]):=fun _=>rfl
 have Xu:iM [] (.tup [.int p,.int q]) (.int 0)=some (.int p):=rfl
 have mk:iM [] (.rl (us.map ck)) (.int k)=some (ck us[k]):=mU (kG (by simp[hk]))
 have mt:iM [] (ck us[k]) (.int 0)=some (.int us[k].1):=rfl
 have ix:rD us.length (k:Int)=some k:=Fz hk
 have R0:(us.map ck).set k (.tup [.int us[k].1,.int p,.int p])=(us.set k (us[k].1,p,p)).map ck:=by rw[List.map_set];rfl
 unfold pR bB
 rw[e0]
 simp only[EV,cz,cI,vf,Hv.fG,Hv.bq,iP,o6,m1,m0,Xu,mk,mt,z3,yv,List.length_map,ix,R0,decide_true]
noncomputable def wQ:IE:=(.blt .len (.cons (.idx (.var 1) (.cst (.int 1))) .nil))
theorem FA{a b c d e f g h i j:Option (Mk×Val)}{net:Val}:aX (aE dH) wQ (fG [a,some (.ow,net),b,c,d,e,f,g,h,i,j])=.no:=by
 unfold wQ
 simp only[EV,Hv.fG,iP,o6]
theorem CD{a b c d e f g h i j:Option (Mk×Val)}{p q:Int}{ts:List T3}:aX (aE dH) wQ (bq [a,some (.ow,bB p q ts),b,c,d,e,f,g,h,i,j])=.ok (true,.int ts.length):=by
 have n1:iM [] (bB p q ts) (.int 1)=some (.rl (ts.map ck)):=rfl
 unfold wQ
 simp only[EV,Hv.bq,iP,o6,n1,List.length_map]
theorem N6{a b c d e f g h i j:Option (Mk×Val)}{p q:Int}{ts:List T3}:vf (aE dH) wQ [a,some (.ow,bB p q ts),b,c,d,e,f,g,h,i,j]=.ok (true,.int ts.length):=by
 unfold vf
 rw[FA,CD]
 rfl
theorem CF{Ψ:Nat->List Val->Pr FV}{sp:List Nat}{p:jV}{k:Ik}{e:IE}{body:cU}{env:aF}{x:FV}{xs:List Val}(hs:uN e p k body=none)(he:vf Ψ e env=.ok x)(hx:gc k [x.2]=some xs):cI Ψ sp (.for p k (.cons e .nil) body) env=jb (fun x env=>pb (pl (cG p x env)) fun env'=>cz Ψ sp body env') xs env:=by
 rw[cI]
 try dsimp only
 rw[hs]
 try dsimp only
 rw[he,gg,hx,k9,gg]
theorem CG{p q w:Int}{ns:List Int}{ts:List T3}(ok:cB p q ts):∃(us:List T3) (a:Option (Mk×Val)),cI (aE dH) [1] CA [some (.sh,.rl (ns.map .int)),some (.ow,bB p q ts),some (.sh,cT p q ts),some (.sh,bF 0 p q ts w),none,none,none,none,none,none,none] =
  .ok (.nx [some (.sh,.rl (ns.map .int)),some (.ow,bB p q us),some (.sh,cT p q ts),some (.sh,bF 0 p q ts w),a,none,none,none,none,none,none]):=by
 have hl:=ok.len
 have hr:inR (ts.length:Int)=true:=by unfold inR;simp;omega
 have hrl:((ts.length:Int)).toNat=ts.length:=by omega
 have N7:=Gn hr
 rw[hrl] at N7
 rw[show CA=.for (.one 4) .range (.cons wQ .nil) pR from rfl,CF (e:=wQ) (p:=.one 4) (k:=.range) (body:=pR) Fy N6 N7]
 have key:=bP (us:=List.range ts.length) (k:=fun f=>Pr.ok f) (body:=fun x env=>pb (pl (cG (.one 4) x env)) fun env'=>cz (aE dH) [1] pR env') (fun i:Nat=>Val.int (0+(i:Int))) (fun r:Pr nE=>∃(us:List T3) (a:Option (Mk×Val)),r=.ok (.nx [some (.sh,.rl (ns.map .int)),some (.ow,bB p q us),some (.sh,cT p q ts),some (.sh,bF 0 p q ts w),a,none,none,none,none,none,none]))
  (m5:=[some (.sh,.rl (ns.map .int)),some (.ow,bB p q ts),some (.sh,cT p q ts),some (.sh,bF 0 p q ts w),none,none,none,none,none,none,none])
  (fun done env=>∃(us:List T3) (a:Option (Mk×Val)),us.length=ts.length/\env=[some (.sh,.rl (ns.map .int)),some (.ow,bB p q us),some (.sh,cT p q ts),some (.sh,bF 0 p q ts w),a,none,none,none,none,none,none])
  ⟨ts,none,rfl,rfl⟩ (by
   rintro pre k post env hx ⟨us,a,hu,rfl⟩
   have hk:k<us.length:=by
    have:k∈List.range ts.length:=by rw[hx];simp
    rw[hu];simpa using this
   exact⟨_,CC (a:=a) hk,us.set k (us[k].1,p,p),_,by simp[hu],rfl⟩) (by
   rintro env ⟨us,a,hu,rfl⟩
   exact⟨us,a,rfl⟩)
 cases e:jb (fun x env=>pb (pl (cG (.one 4) x env)) fun env'=>cz (aE dH) [1] pR env') ((List.range ts.length).map fun i:Nat=>Val.int (0+(i:Int))) [some (.sh,.rl (ns.map .int)),some (.ow,bB p q ts),some (.sh,cT p q ts),some (.sh,bF 0 p q ts w),none,none,none,none,none,none,none] with
 | ok f=>rw[e] at key;exact key
 | exc _ _=>rw[e] at key;exact key
 | no=>rw[e] at key;exact key
theorem CH{p q:Int}{ns:List Int}{ts us:List T3}(ok:cB p q ts){x:Int}{a c d e f g:Option (Mk×Val)}:∃c' d' e' f' g',cz (aE dH) [1] pS [some (.sh,.rl (ns.map .int)),some (.ow,bB p q us),some (.sh,cT p q ts),some (.sh,bF 0 p q ts (mF p q ts (nms ts))),a,some (.sh,.int x),c,d,e,f,g] =
  .ok (.nx [some (.sh,.rl (ns.map .int)),some (.ow,bB p q us),some (.sh,cT p q ts),some (.sh,bF 0 p q ts (mF p q ts (nms ts))),a,some (.sh,.int x),c',d',e',f',g']):=by
 have hN:(nms ts).length<64:=by have:=jT ok;omega
 have sk:kq [] (cT p q ts)=some (nms ts):=by
  unfold cT;rw[B6 hN,Cs ok]
 have R3:=Kp (nms ts) (x/2) hN
 have hsub:=pN (nms ts) (x/2)
 generalize pM (nms ts) (x/2)=l at R3 hsub
 have Xv:l.length<=15:=by have:=hsub.length_le;have:=jT ok;omega
 have mr:=pL (c:=0) (p:=p) (q:=q) (ts:=ts) (w:=mF p q ts (nms ts)) (m:="rank") (js:=[(0,14)]) (j:=14) rfl (by decide)
 have ew:=pQ ok (P:=nms ts) (fun _ h=>h) (jT ok)
 have ky:kM [] (cT p q ts)=some ((nms ts).map Sum.inl):=rfl
 have kv:((nms ts).map (Sum.inl:Int->Key)).map zj=(nms ts).map Val.int:=by rw[List.map_map];rfl
 have df:∀P:List Int,oE [] ((nms ts).map Sum.inl) (.rl (P.map .int))=some (others ts P):=fun P=>Fw (by omega)
 unfold pS
 by_cases hodd:x%2=1
 ·have e1:=u5 (c:=0) (by decide) rfl rfl (w:=mF p q ts (nms ts)) ok (P:=l.reverse)
  have e2:=pQ ok (P:=others ts l.reverse) wO (sP ok)
  have e3:=ym l.reverse
  have er:(l.map Val.int).reverse=l.reverse.map Val.int:=List.map_reverse.symm
  have R4:=df l.reverse
  simp only[EV,cz,cI,vf,Hv.fG,Hv.bq,iP,o6,bY,sk,gQ (show gX 2=true by decide),iT (show decide ((0:Int)<2)=true by decide),lz,R3,hodd,decide_true,er,lA,mr,gn,e1,ky,kv,R4,List.length_map,jJ,u7,iW,ew,e2,e3,not_true,decide_false]
  exact⟨_,_,_,_,_,rfl⟩
 ·have e1:=u5 (c:=0) (by decide) rfl rfl (w:=mF p q ts (nms ts)) ok (P:=l)
  have e2:=pQ ok (P:=others ts l) wO (sP ok)
  have e3:=ym l
  have R4:=df l
  simp only[EV,cz,cI,vf,Hv.fG,Hv.bq,iP,o6,bY,sk,gQ (show gX 2=true by decide),iT (show decide ((0:Int)<2)=true by decide),lz,R3,hodd,decide_false,lA,mr,gn,e1,ky,kv,R4,List.length_map,jJ,u7,iW,ew,e2,e3,not_true]
  exact⟨_,_,_,_,_,rfl⟩
noncomputable def u9:IE:=(.bin .add (.lst (.cons (.cst (.int 0)) .nil)) (.slc (.var 0) (.cst (.int 17)) (.cst (.int 63))))
theorem CI{p q:Int}{ns:List Int}{ts us:List T3}(hn:ns.length<=63)(ok:cB p q ts){a:Option (Mk×Val)}:∃b c d e f g,cI (aE dH) [1] CB [some (.sh,.rl (ns.map .int)),some (.ow,bB p q us),some (.sh,cT p q ts),some (.sh,bF 0 p q ts (mF p q ts (nms ts))),a,none,none,none,none,none,none] =
  .ok (.nx [some (.sh,.rl (ns.map .int)),some (.ow,bB p q us),some (.sh,cT p q ts),some (.sh,bF 0 p q ts (mF p q ts (nms ts))),a,b,c,d,e,f,g]):=by
 have z1:1<=sizeLine:=by decide
 have Xw:(cW ns (some 17) (some 63)).length<=63:=by have:=BS ns (some 17) (some 63);omega
 have N8:jv .add (.rl [.int 0]) (.rl ((cW ns (some 17) (some 63)).map .int))=.ok (bz ((0::cW ns (some 17) (some 63)).map .int),.rl ((0::cW ns (some 17) (some 63)).map .int)):=by
  rw[Cr (by rw[List.length_map];simp;unfold sizeLine;omega)];rfl
 generalize (0::cW ns (some 17) (some 63))=Ls at N8
 have he:vf (aE dH) u9 [some (.sh,.rl (ns.map .int)),some (.ow,bB p q us),some (.sh,cT p q ts),some (.sh,bF 0 p q ts (mF p q ts (nms ts))),a,none,none,none,none,none,none]=.ok (bz (Ls.map .int),.rl (Ls.map .int)):=by
  have:aX (aE dH) u9 (fG [some (.sh,.rl (ns.map .int)),some (.ow,bB p q us),some (.sh,cT p q ts),some (.sh,bF 0 p q ts (mF p q ts (nms ts))),a,none,none,none,none,none,none])=.ok (bz (Ls.map .int),.rl (Ls.map .int)):=by
   unfold u9
   simp only[EV,Hv.fG,z1,Gj,uG,N8]
  unfold vf
  rw[this]
 rw[show CB=.for (.one 5) .seq (.cons u9 .nil) pS from rfl,CF (e:=u9) (p:=.one 5) (k:=.seq) (body:=pS) Fx he gz]
 have key:=bP (us:=Ls) (k:=fun f=>Pr.ok f) (body:=fun x env=>pb (pl (cG (.one 5) x env)) fun env'=>cz (aE dH) [1] pS env') Val.int (fun r:Pr nE=>∃b c d e f g,r=.ok (.nx [some (.sh,.rl (ns.map .int)),some (.ow,bB p q us),some (.sh,cT p q ts),some (.sh,bF 0 p q ts (mF p q ts (nms ts))),a,b,c,d,e,f,g]))
  (m5:=[some (.sh,.rl (ns.map .int)),some (.ow,bB p q us),some (.sh,cT p q ts),some (.sh,bF 0 p q ts (mF p q ts (nms ts))),a,none,none,none,none,none,none])
  (fun done env=>∃b c d e f g,env=[some (.sh,.rl (ns.map .int)),some (.ow,bB p q us),some (.sh,cT p q ts),some (.sh,bF 0 p q ts (mF p q ts (nms ts))),a,b,c,d,e,f,g])
  ⟨none,none,none,none,none,none,rfl⟩ (by
   rintro pre x post env hx ⟨b,c,d,e,f,g,rfl⟩
   obtain⟨c',d',e',f',g',h⟩:=CH (ns:=ns) (us:=us) ok (x:=x) (a:=a) (c:=c) (d:=d) (e:=e) (f:=f) (g:=g)
   exact⟨_,h,_,c',d',e',f',g',rfl⟩) (by
   rintro env ⟨b,c,d,e,f,g,rfl⟩
   exact⟨b,c,d,e,f,g,rfl⟩)
 cases e:jb (fun x env=>pb (pl (cG (.one 5) x env)) fun env'=>cz (aE dH) [1] pS env') (Ls.map Val.int) [some (.sh,.rl (ns.map .int)),some (.ow,bB p q us),some (.sh,cT p q ts),some (.sh,bF 0 p q ts (mF p q ts (nms ts))),a,none,none,none,none,none,none] with
 | ok f=>rw[e] at key;exact key
 | exc _ _=>rw[e] at key;exact key
 | no=>rw[e] at key;exact key
theorem lB{Ψ:Nat->List Val->Pr FV}{sp:List Nat}{st:IS}{r:cU}{env env':aF}(h:cI Ψ sp st env=.ok (.nx env')):cz Ψ sp (.cons st r) env=cz Ψ sp r env':=by
 rw[cz,h];rfl
theorem Kq{Ψ:Nat->List Val->Pr FV}{sp:List Nat}{i:Nat}{e:IE}{env:aF}{v:Val}(hi:sp.contains i=true)(h:aX Ψ e (bq env)=.ok (true,v)):cI Ψ sp (.asg (.one i) e) env=.ok (.nx (env.set i (some (.ow,v)))):=by
 rw[cI]
 try dsimp only
 rw[if_pos hi,h]
 rfl
theorem CJ{Ψ:Nat->List Val->Pr FV}{sp:List Nat}{i:Nat}{e:IE}{env:aF}{x:FV}(hi:sp.contains i=false)(h:vf Ψ e env=.ok x):cI Ψ sp (.asg (.one i) e) env=.ok (.nx (env.set i (some (.sh,x.2)))):=by
 rw[cI]
 try dsimp only
 rw[if_neg (by rw[hi];exact Bool.false_ne_true),h]
 rfl
theorem yw{Ψ:Nat->List Val->Pr FV}{e:IE}{env:aF}{v:Val}(h1:aX Ψ e (fG env)=.no)(h2:aX Ψ e (bq env)=.ok (true,v)):vf Ψ e env=.ok (true,v):=by
 unfold vf
 rw[h1,h2]
 rfl
noncomputable def Kr:IE:=(.call 2 (.cons (.var 0) (.cons (.slc (.var 0) (.cst (.int 3)) (.bin .add (.cst (.int 3)) (.bin .mod (.bin .fdiv (.call 0 (.cons (.var 0) (.cons (.cst (.int 2)) .nil))) (.cst (.int 56))) (.cst (.int 15))))) .nil)))
noncomputable def vc:IE:=(.call 3 (.cons (.var 1) .nil))
noncomputable def vd:IE:=(.call 12 (.cons (.var 1) .nil))
theorem FD:jG=(.cons (.asg (.one 1) Kr) (.cons (.asg (.one 2) vc) (.cons (.asg (.one 3) vd) (.cons CA (.cons CB (.cons (.ret (.cst (.bl true))) .nil)))))):=rfl
theorem Ks{ns:List Int}{p q:Int}{ts:List T3}{a b c d e f g h i j:Option (Mk×Val)}(en:jS [.rl (ns.map .int),.rl ((cW ns (some 3) (some (3+cellAt ns 2/56%15))).map .int)]=.ok (true,bB p q ts)):aX (aE dH) Kr (bq [some (.sh,.rl (ns.map .int)),a,b,c,d,e,f,g,h,i,j])=.ok (true,bB p q ts):=by
 have c2:dg [.rl (ns.map .int),.int 2]=.ok (true,.int (cellAt ns 2)):=nK ns 2
 unfold Kr
 simp only[EV,Hv.bq,qd,c2,gQ (show gX 56=true by decide),iT (show decide ((0:Int)<15)=true by decide),Gj,uG,sM,en]
theorem CK{a b c d e f g h i j:Option (Mk×Val)}{net:Val}:aX (aE dH) vc (fG [a,some (.ow,net),b,c,d,e,f,g,h,i,j])=.no:=by
 unfold vc
 simp only[EV,Hv.fG,iP,o6]
theorem zY{a b c d e f g h i j:Option (Mk×Val)}{p q:Int}{ts:List T3}(ee:iF [bB p q ts]=.ok (true,cT p q ts)):aX (aE dH) vc (bq [a,some (.ow,bB p q ts),b,c,d,e,f,g,h,i,j])=.ok (true,cT p q ts):=by
 unfold vc
 simp only[EV,Hv.bq,qf,ee]
theorem CL{a b c d e f g h i j:Option (Mk×Val)}{net:Val}:aX (aE dH) vd (fG [a,some (.ow,net),b,c,d,e,f,g,h,i,j])=.no:=by
 unfold vd
 simp only[EV,Hv.fG,iP,o6]
theorem zZ{a b c d e f g h i j:Option (Mk×Val)}{p q w:Int}{ts:List T3}(ee:jI [bB p q ts]=.ok (true,bF 0 p q ts w)):aX (aE dH) vd (bq [a,some (.ow,bB p q ts),b,c,d,e,f,g,h,i,j])=.ok (true,bF 0 p q ts w):=by
 unfold vd
 simp only[EV,Hv.bq,qg,ee]
theorem Ku(ns:List Int)(hn:ns.length<=63):∃f,Ci [.rl (ns.map .int)]=.ok (f,.bl true):=by
 have hcl:(cW ns (some 3) (some (3+cellAt ns 2/56%15))).length<=14:=by
  obtain⟨k,hk⟩:=Int.eq_ofNat_of_zero_le (show 0<=cellAt ns 2/56%15 by omega)
  have h:=zL ns 3 k (by omega)
  rw[<-hk] at h
  omega
 obtain⟨p,q,ts,en,ok,_⟩:=Kn ns (cW ns (some 3) (some (3+cellAt ns 2/56%15))) hcl
 have er:jI [bB p q ts]=.ok (true,bF 0 p q ts (mF p q ts (nms ts))):=Cz (by decide) gR gm jY gS ok
 have ee:=u6 ok
 obtain⟨us,a,e1⟩:=CG (w:=mF p q ts (nms ts)) (ns:=ns) ok
 obtain⟨b,c,d,e,f,g,e2⟩:=CI (us:=us) hn ok (a:=a)
 have fin:cz (aE dH) [1] jG [some (.sh,.rl (ns.map .int)),none,none,none,none,none,none,none,none,none,none]=.ok (.rt (true,.bl true)):=by
  rw[FD,lB (Kq rfl (Ks en))]
  simp only[List.set_cons_succ,List.set_cons_zero]
  rw[lB (CJ (i:=2) (sp:=[1]) rfl (yw CK (zY ee)))]
  simp only[List.set_cons_succ,List.set_cons_zero]
  rw[lB (CJ (i:=3) (sp:=[1]) rfl (yw CL (zZ er)))]
  simp only[List.set_cons_succ,List.set_cons_zero]
  rw[lB e1,lB e2]
  rfl
 refine⟨true,?_⟩
 show pb (cz (aE dH) (jC jG) jG [some (.sh,.rl (ns.map .int)),none,none,none,none,none,none,none,none,none,none]) _=_
 rw[show jC jG=[1] from rfl,fin]
 rfl
theorem true(ns:List Int)(hn:ns.length<=63):∃h',yk [.rl (ns.map .int)] []=.ok (.bl true) h':=by
 obtain⟨f,e⟩:=Ku ns hn
 exact Fi e
end K23
end
end
section
noncomputable def PySem.W.Fast.tw9498439835809187506:=0
theorem PySem.W.Fast.te9498439835809187506:True:=trivial
noncomputable def PySem.W.Fast.tw14218239417819981041:=0
theorem PySem.W.Fast.te14218239417819981041:True:=trivial
open PySem PySem.W PyProof.Rows
set_option maxRecDepth 100000 in
set_option maxHeartbeats 0 in
theorem PySem.Challenge.cw_linkorcut_k23_rank_by_rest_holds : PySem.Challenge.rw_linkorcut_k23_rank_by_rest.Holds := by
 w_on;o_law;k_head;(case hw=>w_witness2)
 k_fill
 refine Hv.walk (l:=PySem.Challenge.rw_linkorcut_k23_rank_by_rest) (k:=36) (x:="_law_script") rfl rfl ⟨rfl,by decide,by decide⟩ (fun w h Y=>PySem.W.kIn_of Y) ?F
 case F =>
  intro w mg fa h KX G hmg
  refine' K23.all_mk KX G hmg K23.true ?DA0 ?DG0 ?DH0 ?DO0 ?DS0 ?DM0 ?DK0 ?DN0_0 ?DN0_1 ?DN0_2 ?DN0_3 ?EA0 ?EG0 ?ER0 ?A0 ?L0 ?C0 ?Q0 ?A1 ?L1 ?C1 ?Q1 ?A2 ?L2 ?C2 ?Q2 ?A3 ?L3 ?C3 ?Q3 ?A4 ?L4 ?C4 ?Q4 ?A5 ?L5 ?C5 ?Q5 ?A6 ?L6 ?C6 ?Q6 ?EF0_7 ?I7 ?L7 ?C7 ?Q7 ?A8 ?L8 ?C8 ?Q8 ?M0_9 ?I9 ?L9 ?C9 ?Q9 ?A10 ?L10 ?C10 ?Q10 ?M0_11 ?I11 ?L11 ?C11 ?Q11 ?A12 ?I12 ?L12 ?C12 ?Q12 ?A13 ?L13 ?C13 ?Q13 ?M0_14 ?I14 ?L14 ?C14 ?Q14 ?A15 ?L15 ?C15 ?Q15 ?A16 ?L16 ?C16 ?Q16 ?A17 ?L17 ?C17 ?Q17 ?Z0 ?Z1 ?Z2 ?Z3 ?Z4 ?Z5 ?Z6 ?Z7 ?Z8 ?Z9 ?Z10 ?Z11 ?Z12 ?Z13 ?Z14 ?Z15 ?Z16 ?V0
  (case DA0=>k_is)
  (case DG0=>k_is)
  (case DH0=>k_is)
  (case DO0=>k_is)
  (case DS0=>k_is)
  (case DM0=>k_is)
  (case DK0=>k_is)
  (case DN0_0=>k_is)
  (case DN0_1=>k_is)
  (case DN0_2=>k_is)
  (case DN0_3=>k_is)
  (case EA0=>k_is)
  (case EG0=>k_is)
  (case ER0=>k_is)
  (case A0=>k_is)
  (case L0=>k_is)
  (case C0=>k_is)
  (case Q0=>k_is)
  (case A1=>k_is)
  (case L1=>k_is)
  (case C1=>k_is)
  (case Q1=>k_is)
  (case A2=>k_is)
  (case L2=>k_is)
  (case C2=>k_is)
  (case Q2=>k_is)
  (case A3=>k_is)
  (case L3=>k_is)
  (case C3=>k_is)
  (case Q3=>k_is)
  (case A4=>k_is)
  (case L4=>k_is)
  (case C4=>k_is)
  (case Q4=>k_is)
  (case A5=>k_is)
  (case L5=>k_is)
  (case C5=>k_is)
  (case Q5=>k_is)
  (case A6=>k_is)
  (case L6=>k_is)
  (case C6=>k_is)
  (case Q6=>k_is)
  (case EF0_7=>k_is)
  (case I7=>k_is)
  (case L7=>k_is)
  (case C7=>k_is)
  (case Q7=>k_is)
  (case A8=>k_is)
  (case L8=>k_is)
  (case C8=>k_is)
  (case Q8=>k_is)
  (case M0_9=>k_is)
  (case I9=>k_is)
  (case L9=>k_is)
  (case C9=>k_is)
  (case Q9=>k_is)
  (case A10=>k_is)
  (case L10=>k_is)
  (case C10=>k_is)
  (case Q10=>k_is)
  (case M0_11=>k_is)
  (case I11=>k_is)
  (case L11=>k_is)
  (case C11=>k_is)
  (case Q11=>k_is)
  (case A12=>k_is)
  (case I12=>k_is)
  (case L12=>k_is)
  (case C12=>k_is)
  (case Q12=>k_is)
  (case A13=>k_is)
  (case L13=>k_is)
  (case C13=>k_is)
  (case Q13=>k_is)
  (case M0_14=>k_is)
  (case I14=>k_is)
  (case L14=>k_is)
  (case C14=>k_is)
  (case Q14=>k_is)
  (case A15=>k_is)
  (case L15=>k_is)
  (case C15=>k_is)
  (case Q15=>k_is)
  (case A16=>k_is)
  (case L16=>k_is)
  (case C16=>k_is)
  (case Q16=>k_is)
  (case A17=>k_is)
  (case L17=>k_is)
  (case C17=>k_is)
  (case Q17=>k_is)
  (case Z0=>k_is)
  (case Z1=>k_is)
  (case Z2=>k_is)
  (case Z3=>k_is)
  (case Z4=>k_is)
  (case Z5=>k_is)
  (case Z6=>k_is)
  (case Z7=>k_is)
  (case Z8=>k_is)
  (case Z9=>k_is)
  (case Z10=>k_is)
  (case Z11=>k_is)
  (case Z12=>k_is)
  (case Z13=>k_is)
  (case Z14=>k_is)
  (case Z15=>k_is)
  (case Z16=>k_is)
  (case V0=>k_is)
#print axioms PySem.Challenge.cw_linkorcut_k23_rank_by_rest_holds
end
