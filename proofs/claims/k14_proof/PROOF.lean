import PyProof.Rows.All
import Wide.All
import OpenK.AllK
import Wide.FinOn
import Lean
import PyProof.EqAt
import PyProof.EqKinds
import PyProof.TupleCall
import KE.KDictList
import KE.KDictLaws
import KE.KDictSum
import KE.KRevSl
import PyProof.DictWalks
import PyProof.ExcInit
import PyProof.ExcClass2
import PyProof.StationsW
import PyProof.InstStore
import PyProof.InstStoreFacts
import PyProof.ExcBaseAll.ValueError
import PyProof.RulesAs
import PyProof.NsDelKeeps
import PyProof.ExcAttrAll.ValueError
import KE.KIsAll
import PySem.Challenge.RW_linkorcut_k14_a_tie_taken
set_option Elab.async false
set_option compiler.extract_closed false
set_option linter.all false
set_option maxRecDepth 100000
set_option maxHeartbeats 4000000
set_option genSizeOf false
set_option backward.eqns.nonrecursive false
set_option backward.eqns.deepRecursiveSplit false
set_option bootstrap.genMatcherCode false
set_option hygiene false
local macro_rules
|`(def $n:declId $s:optDeclSig $v:declVal)=>`(noncomputable def $n:declId $s:optDeclSig $v:declVal)
|`(abbrev $n:declId $s:optDeclSig $v:declVal)=>`(noncomputable abbrev $n:declId $s:optDeclSig $v:declVal)
local macro_rules
|`(#[$a])=>`(.cons $a .nil)
|`(#[$a,$as,*])=>`(.cons $a #[$as,*])
local macro_rules
|`(!$n:num)=>`(.var $n)
local macro_rules
|`(¬$n:num)=>`(.cst (.int $n))
set_option hygiene true
open Array(toList)
open Bool(and_eq_true false_eq_true not_eq_true' or_eq_true)
open List(all_eq_true find?_cons length length_append length_cons length_map length_nil lookup_cons map_cons map_nil mem_append mem_cons not_mem_nil range' replicate set_cons_succ set_cons_zero set_set size_toArray toArray)
open Nat(lt_trans mod_lt)
open Option(bind_some getD_none map_some)
open PySem.W(cellsFrom_some codeIn eq_sortI findIn findObj handedIn hasDictIn hideAll kat_lt keepIn kitAny kitOne kitx_list lookIn looks_clsIn looks_find looks_mroIn methodObj notCls osa_eq sortI_perm specialIn takesIn typeIn)
def VZ:=@PySem.wpAny_bind
def V0:=@Option.bind_eq_some_iff
def V1:=@Bool.false_ne_true
def V3:=@PySem.Heap.get?_push_of_some
def V4:=@List.getElem?_eq_some_iff
def V5:=@List.mem_cons_of_mem
def V6:=@PySem.wpAny_pure
def V7:=@List.getElem?_set_ne
def V8:=@List.mem_cons_self
def V9:=@List.length_map
def Wa:=@PySem.Heap.lt_size
def Wb:=@Nat.le_refl
def Wc:=@Nat.lt_of_lt_of_le
def Wd:=@List.size_toArray
def We:=@if_neg
def Wf:=@List.mem_cons
def Wg:=@if_pos
def Wh:=@List.getElem?_set_self
def Wi:=@List.getElem?_append_left
def Wj:=@Nat.ne_of_lt
def Wk:=@PySem.Heap.get?_push_size
def Wl:=@List.prefix_refl
def Wm:=@List.map_cons
def Wn:=@List.mem_of_getElem?
def Wo:=@List.mem_singleton
def Wq:=@PySem.W.mg_of
def Wr:=@Option.some.inj
def Ws:=@List.getElem?_map
def Wt:=@of_decide_eq_true
def Wu:=@Option.map_eq_some_iff
def Wv:=@List.getElem?_append_right
def Ww:=@List.getElem?_eq_getElem
def Wx:=@Nat.le_trans
def Wy:=@List.mem_append_right
def Wz:=@List.length_append
def WA:=@PySem.wpAny_mono
def WB:=@PySem.Heap.get?_update_self
def WC:=@Array.length_toList
def WD:=@PySem.wpAny_newObj_type
def WE:=@Array.getElem?_eq_getElem
def WG:=@PySem.Obj.data_mapFields
def WH:=@List.nodup_cons
def WI:=@PySem.wpAny_holding
def WJ:=@List.length_cons
def WK:=@List.pairwise_cons
def WL:=@Nat.lt_irrefl
def WM:=@PySem.Heap.SameBut.update
def WN:=@PySem.wpAny_Call_Name_kw
def WO:=@List.prefix_append
def WQ:=@PySem.W.hideAll_none
def WR:=@Nat.le_succ
def WS:=@Nat.lt_succ_self
def WU:=@PyProof.Rows.callWith_type1
def WW:=@PySem.Heap.get?_update_other
def WX:=@beq_eq_false_iff_ne
def WY:=@PySem.W.hideAll_get
def WZ:=@PySem.mem_of_lookup
def W0:=@PySem.sizeLine_eq
def W2:=@PySem.W.kia_one
def W3:=@Classical.choose_spec
def W4:=@List.mem_map
def W5:=@Nat.lt_succ_of_lt
def W6:=@PySem.wpAny_setState_of
def W7:=@List.mem_append
def W8:=@List.append_nil
def W9:=@PyProof.Rows.KeyOrd.kle_refl
def Xa:=@List.filterMap_cons
def Xb:=@congrArg
def Xc:=@PyProof.Rows.F.plain_set_update_loop
def Xd:=@PySem.wpAny_standAt
def Xe:=@True.intro
def Xf:=@PySem.Heap.size_push
def Xg:=@Array.getElem?_eq_some_iff
def Xh:=@PySem.Obj.isFreed_of_fields
def Xi:=@List.pairwise_iff_getElem
def Xj:=@List.getElem?_eq_none_iff
def Xk:=@Nat.le_of_lt
def Xl:=@List.mem_append_left
def Xm:=@PySem.wpAny_truthy_bool
def Xn:=@Nat.zero_le
def Xo:=@PySem.Around.under_plainId
def Xp:=@Bool.true_and
def Xq:=@PySem.wpAny_call_entry
def Xr:=@List.eq_nil_of_length_eq_zero
def Xs:=@Nat.ne_of_gt
def Xu:=@PySem.Calls.spliced_cons
def Xv:=@PySem.codeAny_mono
def Xw:=@PySem.codeAny_builtin
def Xx:=@List.pairwise_map
def Xy:=@PySem.wpAny_loadPart_at
def Xz:=@List.mem_iff_getElem
def XA:=@PySem.wpAny_setField
def XD:=@PySem.W.looks_findIn
def XE:=@Bool.and_eq_true
def XF:=@List.getElem_map
def XH:=@List.getElem_mem
def XI:=@List.getElem?_zip_eq_some
def XJ:=@PySem.Heap.get?_update_ne
def XM:=@PySem.wpAny_execs_nil
def XO:=@PySem.wpAny_passesOwn
def XQ:=@Array.Perm.refl
def XR:=@PySem.W.KasT.kasWp_bind
def XS:=@PySem.W.of_hideAll
def XT:=@Int.emod_lt_of_pos
def XU:=@PySem.wpAny_callSpecial?_slot
def XW:=@PySem.F.plainAttrs_list
def XX:=@List.filter_cons_of_pos
def XY:=@List.filter_cons_of_neg
def XZ:=@Int.eq_ofNat_of_zero_le
def X0:=@PySem.wpAny_pyIter_list
def X6:=@PySem.Calls.spliced_nil
def X7:=@List.map_nil
def X8:=@PyProof.Rows.KeyOrd.kle_of_klt
def Yb:=@List.Perm.refl
def Yc:=@PySem.fits_of_scanBound
def Yd:=@PySem.F.slot_dict_get
def Ye:=@List.mem_iff_getElem?
def Yg:=@PySem.wpAny_call
def Yh:=@List.length_take
def Yi:=@PyProof.Rows.KeyOrd.kle_trans
def Yj:=@List.ext_getElem
def Yk:=@PySem.plainId_quiet
def Yl:=@PySem.Heap.get?_none_of_le
def Ym:=@PySem.codeAny_call_builtin
def Yn:=@List.drop_eq_nil_iff
def Yo:=@List.map_append
def Yp:=@Int.emod_nonneg
def Yq:=@List.map_congr_left
def Yr:=@List.getElem_of_mem
def Ys:=@List.mem_map_of_mem
def Yt:=@List.map_map
def Yu:=@PySem.W.callWith_K
def Yv:=@PySem.tupleKind_room_in1
def Yw:=@PySem.Code.quiet_builtin
def Yx:=@List.mem_replicate
def Yy:=@PySem.W.mg_none_of
def Yz:=@PySem.Value.isInt_shape
def YA:=@List.length_range
def YB:=@List.nodup_append
def YC:=@PySem.Obj.cls_mapFields
def YD:=@PySem.Paired.length
def YE:=@List.any_cons
def YF:=@PySem.wpAny_attempt
def YG:=@List.length_drop
def YH:=@beq_self_eq_true
def YI:=@PySem.W.any_some
def YJ:=@List.all_eq_true
def YK:=@List.mem_filter
def YL:=@List.of_mem_zip
def YM:=@List.length_set
def YN:=@List.length_nil
def YO:=@Bool.or_eq_true
def YQ:=@List.nil_append
def YR:=@List.Perm.cons
def YS:=@List.drop_drop
def YT:=@List.map_id
open PySem.W(Frag sortI nsIn fnOf isFn)
section
namespace L2
open PySem PySem.Spec PyProof.Rows
abbrev Key:=Sum Int Str
def o9:Key->Value->Bool
 |.inl k,v=>Value.isInt k v
 |.inr x,v=>Value.isStrOf x v
def PU(w:World):Key->Int
 |.inl k=>hashInt k
 |.inr x=>hashStr w x
theorem bE:∀{k:Key} {v:Value},o9 k v=true->(∃i t,k=Sum.inl i/\v=Value.int i t)\/(∃x t,k=Sum.inr x/\v=Value.str x t)
 | .inl i,v,h=>by
  obtain⟨t,e⟩:=Yz (k:=i) (v:=v) h;exact .inl ⟨i,t,rfl,e⟩
 | .inr x,v,h=>by
  obtain⟨t,e⟩:=Value.isStrOf_shape (x:=x) (v:=v) h;exact .inr ⟨x,t,rfl,e⟩
theorem yc(i:Int)(t:Tok):o9 (.inl i) (.int i t)=true:=by simp[o9,Value.isInt]
theorem yd(x:Str)(t:Tok):o9 (.inr x) (.str x t)=true:=by simp[o9,Value.isStrOf]
theorem GV(a b:Int):decide ((Sum.inl a:Key)=Sum.inl b)=(a==b):=by
 by_cases e:a=b
 ·subst e;simp
 ·have h:¬ (Sum.inl a:Key)=Sum.inl b:=λq=>e (Sum.inl.inj q);rw[decide_eq_false h];exact(WX.mpr e).symm
theorem GW(a b:Str):decide ((Sum.inr a:Key)=Sum.inr b)=decide (a=b):=by
 by_cases e:a=b
 ·subst e;simp
 ·have h:¬ (Sum.inr a:Key)=Sum.inr b:=λq=>e (Sum.inr.inj q);rw[decide_eq_false h,decide_eq_false e]
theorem GX(a:Int)(b:Str):decide ((Sum.inl a:Key)=Sum.inr b)=false:=decide_eq_false (λq=>nomatch q)
theorem GY(a:Str)(b:Int):decide ((Sum.inr a:Key)=Sum.inl b)=false:=decide_eq_false (λq=>nomatch q)
def bB(prog:Program)(w:World):PySem.KeyKind prog w Key where
 is:=o9
 hash:=PU w
 inj:=λv a b ha hb=>by
  rcases bE ha with ⟨i,t,rfl,rfl⟩|⟨x,t,rfl,rfl⟩
  ·rcases bE hb with ⟨j,u,rfl,e⟩|⟨y,u,rfl,e⟩
   ·injection e with e1 _;rw[e1]
   ·exact nomatch e
  ·rcases bE hb with ⟨j,u,rfl,e⟩|⟨y,u,rfl,e⟩
   ·exact nomatch e
   ·injection e with e1 _;rw[e1]
 byValue:=λk v h=>by
  rcases bE h with ⟨i,t,rfl,rfl⟩|⟨x,t,rfl,rfl⟩<;>rfl
 pyHash:=λhv h=>by
  rcases bE hv with ⟨i,t,rfl,rfl⟩|⟨x,t,rfl,rfl⟩
  ·exact wpAny_pyHash_int h
  ·exact wpAny_pyHash_str h
 eqBool:=λhu hv h=>by
  rcases bE hu with ⟨i,t,rfl,rfl⟩|⟨x,t,rfl,rfl⟩
  ·rcases bE hv with ⟨j,u,rfl,rfl⟩|⟨y,u,rfl,rfl⟩
   ·rw[GV]at h;exact wpAny_eqBool_int h
   ·rw[GX]at h;exact SeqAt.EqAt.int_str i t y u _ _ _ _ h
  ·rcases bE hv with ⟨j,u,rfl,rfl⟩|⟨y,u,rfl,rfl⟩
   ·rw[GY]at h;exact SeqAt.EqAt.str_int x t j u _ _ _ _ h
   ·rw[GW]at h;exact wpAny_eqBool_str h
 «strs»:=λk x t v h=>by
  rcases bE h with ⟨i,u,rfl,e⟩|⟨y,u,rfl,e⟩
  ·exact nomatch e
  ·injection e with e1 _
   subst e1;cases v<;>rfl
theorem rN(prog:Program)(w:World)(i:Int)(t:Tok):(bB prog w).is (.inl i) (.int i t)=true:=yc i t
theorem rO(prog:Program)(w:World)(x:Str)(t:Tok):(bB prog w).is (.inr x) (.str x t)=true:=yd x t
inductive V where
 |non|bl (b:Bool)|int (i:Int)|str (x:Str)|byt (b:Array UInt8)|flt (b:UInt64)|ref (a:Addr)|ty (n:String)
 deriving DecidableEq
def RelV:V->Value->Prop
 |.non,u=>u=Value.none
 |.bl b,u=>u=Value.bool b
 |.int i,u=>∃t,u=Value.int i t
 |.str x,u=>∃t,u=Value.str x t
 |.byt b,u=>∃t,u=Value.bytes b t
 |.flt b,u=>∃t,u=Value.float b t
 |.ref a,u=>u=Value.ref a
 |.ty n,u=>u=Value.type n
abbrev Vals:List V->List Value->Prop:=Paired RelV
theorem Vals.length(r:Vals xs us):xs.length=us.length:=YD r
theorem Vals.get:∀{xs:List V} {us:List Value} {i:Nat} {x:V},Vals xs us->xs[i]?=some x->∃u,us[i]?=some u/\RelV x u
 |_,_,_,_,.nil,e=>by simp at e
 |_,_,0,_,.cons r _,e=>by simp at e;subst e;exact⟨_,rfl,r⟩
 | _,_,i+1,x,.cons _ t,e=>by
  obtain⟨u,h1,h2⟩:=Vals.get (i:=i) (x:=x) t (by simpa using e);exact⟨u,by simpa using h1,h2⟩
theorem Vals.set(r:RelV x u):∀{xs:List V} {us:List Value} (i:Nat),Vals xs us->Vals (xs.set i x) (us.set i u)
 |_,_,_,.nil=>.nil
 |_,_,0,.cons _ t=>.cons r t
 |_,_,i+1,.cons q t=>.cons q (Vals.set r i t)
theorem Vals.append:∀{xs ys:List V} {us ws:List Value},Vals xs us->Vals ys ws->Vals (xs++ys) (us++ws)
 |_,_,_,_,.nil,s=>s
 |_,_,_,_,.cons r t,s=>.cons r (Vals.append t s)
theorem Vals.take:∀{xs:List V} {us:List Value} (n:Nat),Vals xs us->Vals (xs.take n) (us.take n)
 |_,_,0,_=>.nil
 |_,_,_+1,.nil=>.nil
 |_,_,n+1,.cons r t=>.cons r (Vals.take n t)
theorem Vals.drop:∀{xs:List V} {us:List Value} (n:Nat),Vals xs us->Vals (xs.drop n) (us.drop n)
 |_,_,0,r=>r
 |_,_,_+1,.nil=>.nil
 |_,_,n+1,.cons _ t=>Vals.drop n t
def jZ:Option V->Option Value->Prop
 |some v,some u=>RelV v u
 |none,none=>True
 |_,_=>False
def KV{κ:Type}:List (κ × V)->List (κ × Value)->Prop:=Paired λ(p:κ × V) (q:κ × Value)=>p.1=q.1/\RelV p.2 q.2
def kV:Key->V
 |.inl i=>.int i
 |.inr x=>.str x
inductive HO where
  |lst (xs:List V)
  |tup (xs:List V)
  |dK (kvs:List (Key×V))|dT (kvs:List (List Key×V))
  |set (S:Int->Bool) (n:Nat)
  |ins (C dx:Addr) (fs:List (Str×V))
  |own (x:Addr)
  |xd (fs:List (Str×V))
  |met (f x:Addr)
  |rng (lo hi:Int)
  |pq (o:Obj) (u:HO)
  |tbl (ps:Array Value)
  |ext (φ:Heap->Prop)
abbrev Hp:=Addr->Option HO
def upd(H:Hp)(a:Addr)(o:HO):Hp:=λb=>if b=a then some o else H b
theorem az:upd H a o a=some o:=by unfold upd;rw[Wg rfl]
theorem ao(h:b≠a):upd H a o b=H b:=by unfold upd;rw[We h]
theorem LJ{H:Hp}{a b:Addr}{o u:HO}(h:H a=some o)(h':H b=some u)(d:o≠u):a≠b:=by
 intro e;subst e;rw[h]at h';exact d (Wr h')
theorem aG{H:Hp}{a b:Addr}{o:HO}(h:H a=some o)(h':H b=none):a≠b:=by
 intro e;subst e;rw[h]at h';cases h'
section
variable (P:Program) (w:World)
def bx(H:Hp)(h:Heap)(a:Addr):HO->Prop
 |.lst xs=>xs.length<=sizeLine/\∃(its:List Value) (n:Nat),Vals xs its/\h.get? a=some { cls:=.type "list",data:=.seq its.toArray n }
 |.tup xs=>xs.length<=sizeLine/\∃its:List Value,Vals xs its/\IsTup h a its.toArray
 |.dK kvs=>kvs.length<=sizeLine/\(a==sysModules)=false/\∃vs,KV kvs vs/\h.DictOf (bB P w) a vs
 | .dT kvs=>kvs.length<=sizeLine/\(a==sysModules)=false/\∃xs:List (List Key×Addr×Value),
   Paired (λ(p:List Key×V) (q:List Key×Addr×Value)=>p.1=q.1/\H q.2.1=some (.tup (p.1.map kV))/\RelV p.2 q.2.2) kvs xs /\
   ∃o es ep,h.get? a=some o/\o.ExactDict/\o.data=.dict es ep/\es.toList=xs.map (entryOfKey (tupleKind (bB P w)))/\(xs.map (·.1)).Nodup
 |.set S n=>h.SetOf (intKind P w) a S n
 | .ins C dx fs=>H dx=some (.own a)/\fs.length<=1000/\dx≠a/\h.get? a=some (PySem.W.instObj C dx) /\
   ∃mA,h.Ns1 dx mA/\(∀f,jZ (fs.lookup f) (mA f))/\PySem.Within mA (fs.map (·.1))
 |.own _=>∃o,h.get? a=some o
 |.xd fs=>∃mA,h.Ns1 a mA/\∀f,jZ (fs.lookup f) (mA f)
 |.rng lo hi=>∃t u v,h.get? a=some { cls:=.type "range",data:=.fields [.int lo t,.int hi u,.int 1 v].toArray }
 |.pq o u=>h.get? a=some o/\bx H h a u
 |.tbl ps=>h.get? a=some { cls:=.none,data:=.fields ps }
 |.met f x=>h.get? a=some (methodObj (.ref f) (.ref x))
 |.ext φ=>φ h/\(∃o,h.get? a=some o)/\∀h1 h2:Heap,φ h1->(∀o,h1.get? a=some o->h2.get? a=some o) -> φ h2
def iw(H:Hp)(h:Heap):Prop:=∀a o,H a=some o->bx P w H h a o
end
section
variable {P:Program} {w:World} {H H':Hp} {h h':Heap} {a:Addr} {o:HO}
theorem bx.lt(x:bx P w H h a o):a<h.objs.size:=by
 cases o with
 |lst xs=>obtain⟨_,_,_,_,e⟩:=x;exact Wa e
 |tup xs=>obtain⟨_,_,_,p⟩:=x;exact p.lt
 |dK kvs=>obtain⟨_,_,_,_,o,_,_,e,_⟩:=x;exact Wa e
 |dT kvs=>obtain⟨_,_,_,_,o,_,_,e,_⟩:=x;exact Wa e
 |set S n=>obtain⟨o,_,_,_,e,_⟩:=x;exact Wa e
 |ins C dx fs=>obtain⟨_,_,_,e,_⟩:=x;exact Wa e
 |own y=>obtain⟨_,e⟩:=x;exact Wa e
 |xd fs=>obtain⟨_,⟨_,_,_,e,_⟩,_⟩:=x;exact Wa e
 |rng lo hi=>obtain⟨_,_,_,e⟩:=x;exact Wa e
 |pq ob u=>obtain⟨e,_⟩:=x;exact Wa e
 |tbl ps=>exact Wa (show h.get? a=some _ from x)
 |met f y=>exact Wa (show h.get? a=some _ from x)
 |ext φ=>obtain⟨_,⟨_,e⟩,_⟩:=x;exact Wa e
theorem Paired.GZ{α β:Type}{F G:α -> β -> Prop}:∀{l₁:List α} {l₂:List β},Paired F l₁ l₂->(∀a b,F a b->G a b)->Paired G l₁ l₂
 |_,_,.nil,_=>.nil
 |_,_,.cons r t,f=>.cons (f _ _ r) (Paired.GZ t f)
theorem bx.stay(x:bx P w H h a o)(k:∀b u,(b=a\/H b=some (.own a))->h.get? b=some u->h'.get? b=some u)
  (ho:∀b,H b=some (.own a)->H' b=some (.own a)) (ht:∀b xs,H b=some (.tup xs)->H' b=some (.tup xs)):bx P w H' h' a o:=by
 induction o with
 |lst xs=>obtain⟨z,its,n,r,e⟩:=x;exact⟨z,its,n,r,k _ _ (.inl rfl) e⟩
 |tup xs=>obtain⟨z,its,r,ob,e,c⟩:=x;exact⟨z,its,r,ob,k _ _ (.inl rfl) e,c⟩
 |dK kvs=>obtain⟨z,y,vs,r,ob,es,ep,e,c⟩:=x;exact⟨z,y,vs,r,ob,es,ep,k _ _ (.inl rfl) e,c⟩
 |dT kvs=>obtain⟨z,y,xs,r,ob,es,ep,e,c⟩:=x;exact⟨z,y,xs,Paired.GZ r λp q z=>⟨z.1,ht _ _ z.2.1,z.2.2⟩,ob,es,ep,k _ _ (.inl rfl) e,c⟩
 |set S n=>obtain⟨ob,es,ep,t,e,c⟩:=x;exact⟨ob,es,ep,t,k _ _ (.inl rfl) e,c⟩
 |ins C dx fs=>obtain⟨d,z,ne,e,mA,⟨od,es,ep,e2,c⟩,r⟩:=x;exact⟨ho _ d,z,ne,k _ _ (.inl rfl) e,mA,⟨od,es,ep,k _ _ (.inr d) e2,c⟩,r⟩
 |own y=>obtain⟨ob,e⟩:=x;exact⟨ob,k _ _ (.inl rfl) e⟩
 |xd fs=>obtain⟨mA,⟨od,es,ep,e,c⟩,r⟩:=x;exact⟨mA,⟨od,es,ep,k _ _ (.inl rfl) e,c⟩,r⟩
 |rng lo hi=>obtain⟨t,u,v,e⟩:=x;exact⟨t,u,v,k _ _ (.inl rfl) e⟩
 |pq ob u ih=>obtain⟨e,q⟩:=x;exact⟨k _ _ (.inl rfl) e,ih q⟩
 |tbl ps=>have e:h.get? a=some { cls:=.none,data:=.fields ps }:=x;show h'.get? a=some { cls:=.none,data:=.fields ps };exact k a _ (.inl rfl) e
 |met f y=>have e:h.get? a=some (methodObj (.ref f) (.ref y)):=x;show h'.get? a=some (methodObj (.ref f) (.ref y));exact k a _ (.inl rfl) e
 |ext φ=>obtain⟨p,⟨o,e⟩,st⟩:=x;exact⟨st _ _ p λo q=>k _ _ (.inl rfl) q,⟨o,k _ _ (.inl rfl) e⟩,st⟩
theorem iw.lt(x:iw P w H h)(e:H a=some o):a<h.objs.size:=(x a o e).lt
theorem iw.fresh(x:iw P w H h)(e:h.objs.size<=a):H a=none:=by
 cases q:H a with
 |none=>rfl
 |some u=>exact absurd (Wc (x.lt q) e) (WL _)
theorem iw.kept(x:iw P w H h)(k:∀b u,h.get? b=some u->h'.get? b=some u):iw P w H h':=λa o e=>
 (x a o e).stay (λb u _ q=>k b u q) (λ_ q=>q) λ_ _ q=>q
theorem iw.laid(x:iw P w H h)(k:∀b u,h.get? b=some u->h'.get? b=some u)(hp:h.objs.size<=a)(new:bx P w (upd H a o) h' a o):iw P w (upd H a o) h':=λb u e=>by
 have hn:=x.fresh hp
 by_cases hb:b=a
 ·subst hb;rw[az]at e;cases e;exact new
 ·rw[ao hb]at e;exact(x b u e).stay (λc v _ q=>k c v q) (λc q=>by rw[ao (aG q hn)];exact q) λc xs q=>by rw[ao (aG q hn)];exact q
end
def Rd(H:Hp)(a:Addr)(u:HO):Prop:=H a=some u\/∃o,H a=some (.pq o u)
theorem Rd.ok(r:Rd H a u)(x:iw P w H h):bx P w H h a u:=by
 rcases r with r|⟨o,r⟩
 ·exact x a u r
 ·obtain⟨_,q⟩:=x a _ r;exact q
def LK:Option HO->Prop
 |some (.lst _)=>True
 |some (.dK _)=>True
 |some (.dT _)=>True
 |some (.set _ _)=>True
 |some (.ins _ _ _)=>True
 |some (.ext _)=>True
 |_=>False
section
variable {P:Program} {w:World} {H:Hp} {h h':Heap} {x e:Addr} {o':HO}
theorem iw.write(ok:iw P w H h)(mu:LK (H x))(he:e=x\/H e=some (.own x))(k:∀b u,b≠e->h.get? b=some u->h'.get? b=some u)(Lq:∃u,h'.get? e=some u)
  (new:bx P w (upd H x o') h' x o'):iw P w (upd H x o') h':=λb u q=>by
 have nown:∀c y,H c=some (.own y)->c≠x:=λc y r z=>by subst z;rw[r]at mu;exact mu
 have ntup:∀c xs,H c=some (.tup xs)->c≠x:=λc xs r z=>by subst z;rw[r]at mu;exact mu
 by_cases hb:b=x
 ·subst hb;rw[az]at q;cases q;exact new
 ·rw[ao hb]at q
  by_cases Hf:b=e
  ·have q':H b=some (.own x):=by
    rcases he with z|z
    ·exact absurd (Hf.trans z) hb
    ·rw[Hf];exact z
   rw[q]at q';cases q';obtain⟨v,hv⟩:=Lq;exact⟨v,by rw[Hf];exact hv⟩
  ·refine(ok b u q).stay (λc v hc r=>k c v ?_ r) (λc r=>by rw[ao (nown c b r)];exact r) λc xs r=>by rw[ao (ntup c xs r)];exact r
   rcases hc with rfl|hc
   ·exact Hf
   ·rintro rfl
    rcases he with z|z
    ·exact nown c b hc z
    ·rw[hc]at z;cases z;exact hb rfl
end
structure Un (fs ex:List Addr) (H H':Hp) (h h':Heap):Prop where
 keep:∀b o,h.get? b=some o->H b=none->b∉fs->b∉ex->h'.get? b=some o
 slot:∀b o,h.get? b=some o->H b=none->b∈fs->b∉ex->∃sl,h'.get? b=some { o with slots:=sl }
 free:∀b o,h.get? b=some o->H b=none->b∉ex->H' b=none
 there:∀b o,h.get? b=some o->b∉ex->∃o',h'.get? b=some o'
 tups:∀b xs,H b=some (.tup xs)->H' b=some (.tup xs)
 frzs:∀b o u,H b=some (.pq o u)->H' b=some (.pq o u)
 j0:∀b ps,H b=some (.tbl ps)->∃more,H' b=some (.tbl (ps++more))
section
variable {fs fs' ex ex':List Addr} {H H1 H2:Hp} {h h1 h2 h':Heap} {a x e:Addr} {o:HO}
theorem Un.any(u:Un fs ex H H1 h h1)(q:h.get? b=some ob)(n:H b=none)(hx:b∉ex):∃sl,h1.get? b=some { ob with slots:=sl }:=by
 by_cases hb:b∈fs
 ·exact u.slot b ob q n hb hx
 ·exact⟨ob.slots,u.keep b ob q n hb hx⟩
theorem Un.kept(k:∀b u,h.get? b=some u->h'.get? b=some u):Un fs ex H H h h' :=
 ⟨λb ob q _ _ _=>k b ob q,λb ob q _ _ _=>⟨ob.slots,k b ob q⟩,λ_ _ _ n _=>n,λb ob q _=>⟨ob,k b ob q⟩,λ_ _ q=>q,λ_ _ _ q=>q,λ_ ps q=>⟨#[],by rw[q];simp⟩⟩
theorem Un.refl:Un fs ex H H h h:=Un.kept λ_ _ q=>q
theorem Un.laid(k:∀b u,h.get? b=some u->h'.get? b=some u)(hp:h.objs.size<=a)(hn:H a=none):Un fs ex H (upd H a o) h h' where
 keep:=λb u q _ _ _=>k b u q
 slot:=λb u q _ _ _=>⟨u.slots,k b u q⟩
 free:=λb u q n _=>by rw[ao (Wj (Wc (Wa q) hp))];exact n
 there:=λb u q _=>⟨u,k b u q⟩
 tups:=λb xs q=>by rw[ao (aG q hn)];exact q
 frzs:=λb u xs q=>by rw[ao (aG q hn)];exact q
 j0:=λb ps q=>⟨#[],by rw[ao (aG q hn),q];simp⟩
theorem Un.write(mu:LK (H x))(he:e=x\/H e=some (.own x))(k:∀b u,b≠e->h.get? b=some u->h'.get? b=some u)(Lq:∃u,h'.get? e=some u):Un fs ex H (upd H x o) h h':=by
 have hx:∀b,H b=none->b≠x:=λb n z=>by subst z;rw[n]at mu;exact mu
 have hb:∀b,H b=none->b≠e:=λb n z=>by
  subst z
  rcases he with r|r
  ·exact hx b n r
  ·rw[n]at r;cases r
 have hm:∀b u,H b=some u->¬ LK (some u)->b≠x:=λb u q nm z=>by subst z;rw[q]at mu;exact nm mu
 refine⟨λb u q n _ _=>k b u (hb b n) q,λb u q n _ _=>⟨u.slots,k b u (hb b n) q⟩,λb u q n _=>by rw[ao (hx b n)];exact n,λb u q _=>?_,
  λb xs q=>by rw[ao (hm b _ q λz=>z)];exact q,λb u xs q=>by rw[ao (hm b _ q λz=>z)];exact q,λb ps q=>⟨#[],by rw[ao (hm b _ q λz=>z),q];simp⟩⟩
 by_cases Hf:b=e
 ·subst Hf;exact Lq
 ·exact⟨u,k b u Hf q⟩
end
def O9(h:Heap)(H:Hp):List Addr:=(List.range h.objs.size).filter λa=>(H a).isSome
def qA(h:Heap)(H:Hp):Heap:=hideAll h (O9 h H)
theorem ye(h:Heap)(H:Hp):(qA h H).objs.size=h.objs.size:=PySem.W.hideAll_size _ _
theorem zG(e:h.get? b=some o)(n:H b=none):(qA h H).get? b=some o :=
 WY _ e λhm=>by
  have q:(H b).isSome=true:=(YK.mp hm).2;rw[n]at q;simp at q
theorem CY(e:(qA h H).get? b=some o):h.get? b=some o/\H b=none:=by
 have e':h.get? b=some o:=XS (O9 h H) e;refine⟨e',?_⟩;cases q:H b with
 |none=>rfl
 |some x=>have hm:b∈O9 h H:=YK.mpr ⟨List.mem_range.mpr (Wa e'),by simp[q]⟩;have z:(qA h H).get? b=none:=WQ (O9 h H) hm;rw[z]at e;cases e
def CZ(g h:Heap)(L:Addr):List (Addr×Obj):=(List.range h.objs.size).filterMap λa=>if a=L\/(g.get? a).isSome=true then none else (h.get? a).map λo=>(a,o)
def rest(g h:Heap)(L d:Addr):List (Addr×Obj):=(CZ g h L).filter λp=>decide (p.1≠d)
structure Mod (K:Frag) (mg:Str->Option Value) (base:Heap):Prop where
 LL:K.In base
 glob:base.Ns mainGlobals mg
 blt:∃mb,base.Ns builtinsNs mb/\∀x:Str,x ≠ "__name__" -> mb x=bootBuiltins x
 nolimit:base.NoLimit
structure Cx where
 prog:Program
 w:World
 K:Frag
 mg:Str->Option Value
 base:Heap
 A:Around
 N:List Str
 s₀:Shared
 H₀:Hp
 env:Env
 outer:List Env
 stack:List Env
 ex:List Addr
 fn:Str->Bool
 calm:Bool
 pn:List (Addr×Obj)
 xe:Value->Shared->Prop
def frs(l:List Env):List Addr:=l.filterMap (·.frame)
abbrev Cx.fs(X:Cx):List Addr:=frs X.outer
def Pa(sc:Scope)(x:Str):Prop:=sc.names.lookup x=some .local\/sc.names.lookup x=some .cell\/sc.names.lookup x=some .free
def Loc(sc:Scope)(x:Str):Prop:=sc.names.lookup x=some .local\/sc.names.lookup x=some .cell
def Look(env:Env)(h:Heap)(m:Str->Option Value)(x:Str)(u:Value):Prop :=
 (env.kindOf x=some .local/\m x=some u)\/((env.kindOf x=some .cell\/env.kindOf x=some .free)/\∃c,env.cells.lookup x=some c/\h.IsCell c (some u))
structure Cx.Ok (X:Cx):Prop where
 mod:Mod X.K X.mg X.base
 kind:X.env.scope.kind=.function
 glob:X.env.globals=mainGlobals
 blt:X.env.builtins=builtinsNs
 above:X.s₀.heap.objs.size<=X.env.locals
 inj:∀x y c,X.env.cells.lookup x=some c->X.env.cells.lookup y=some c->x=y
 has:∀x,(X.env.kindOf x=some .cell\/X.env.kindOf x=some .free)->∃c,X.env.cells.lookup x=some c
 Lr:∀x c,X.fn x=true->X.env.cells.lookup x=some c->X.s₀.heap.objs.size<=c
 hd:X.calm=true->X.A.handled=none
 frames:X.A.frames=some X.stack
 stk:X.stack=X.outer\/(X.stack=X.env::X.outer/\X.env.frame=some X.env.locals)
 Pb:∀b∈X.ex,b≠X.env.locals/\∀x c,X.env.cells.lookup x=some c->c≠b
 bs:∀b o,X.base.get? b=some o->X.s₀.heap.get? b=some o/\X.H₀ b=none
 C0:X.base.objs.size<=X.s₀.heap.objs.size
 yf:∀b o,X.base.get? b=some o->b∉X.ex
 yg:∀b∈X.ex,b∉X.fs
 kX:X.s₀.heap.FunFrames X.base X.outer
 FQ:∀b∈X.fs,X.H₀ b=none
structure Inv (X:Cx) (pins:List (Addr×Obj)) (σ:List (Option V)) (H:Hp) (s:Shared):Prop where
 ok:X.Ok
 os:s.os=X.s₀.os
 bare:AllBare s.gens
 base:Un X.fs X.ex X.H₀ H X.s₀.heap s.heap
 loc:∃m,s.heap.Ns X.env.locals m/\∀(i:Nat) (x:Str) (v:V),X.N[i]?=some x -> σ[i]?=some (some v)->Pa X.env.scope x->∃u,RelV v u/\Look X.env s.heap m x u
 cell:∀x c,X.env.cells.lookup x=some c->∃v,s.heap.IsCell c v
 free:H X.env.locals=none
 fu:∀x c,X.env.cells.lookup x=some c->H c=none
 pin:∀p∈X.pn++pins,s.heap.get? p.1=some p.2/\H p.1=none/\p.1≠X.env.locals/\p.1∉X.fs/\∀v,p.2.data≠.cell v
 hok:iw X.prog X.w H s.heap
 len:σ.length=X.N.length
section
variable {X:Cx} {pins:List (Addr×Obj)} {σ:List (Option V)} {H H':Hp} {s:Shared} {h':Heap}
theorem Cx.Ok.PV(ok:X.Ok)(e:X.base.get? b=some o):b∉X.fs:=λhb=>by
 have:=(ok.kX.mem hb).1;rw[e]at this;cases this
theorem Inv.bs(I:Inv X pins σ H s):∀b o,X.base.get? b=some o->s.heap.get? b=some o/\H b=none:=λb o e=>
 ⟨I.base.keep b o (I.ok.bs b o e).1 (I.ok.bs b o e).2 (I.ok.PV e) (I.ok.yf b o e),I.base.free b o (I.ok.bs b o e).1 (I.ok.bs b o e).2 (I.ok.yf b o e)⟩
theorem Inv.bk(I:Inv X pins σ H s):∀b o,X.base.get? b=some o->s.heap.get? b=some o:=λb o e=>(I.bs b o e).1
theorem Inv.mod(I:Inv X pins σ H s):Mod X.K X.mg X.base:=I.ok.mod
theorem Inv.kT(I:Inv X pins σ H s):X.K.In s.heap:=I.ok.mod.LL.keeps I.bk
theorem Inv.lt(I:Inv X pins σ H s):X.env.locals<s.heap.objs.size:=let ⟨_,hn,_⟩:=I.loc;hn.lt
theorem Inv.sz(I:Inv X pins σ H s):X.s₀.heap.objs.size<=s.heap.objs.size:=Wx I.ok.above (Xk I.lt)
theorem Inv.PX(I:Inv X pins σ H s)(h:s.heap.objs.size<=a):a∉X.fs:=λhb=>by
 obtain⟨_,o,ho,_⟩:=I.ok.kX.mem hb;exact absurd (Wc (Wa ho) (Wx I.sz h)) (WL _)
theorem Inv.cne(I:Inv X pins σ H s):∀x c,X.env.cells.lookup x=some c->c≠X.env.locals:=λx c e z=>by
 obtain⟨v,o,ho,hd⟩:=I.cell x c e;obtain⟨m,⟨o',es,ep,ho',hd',_⟩,_⟩:=I.loc;rw[z,ho']at ho;cases ho;rw[hd']at hd;cases hd
theorem Inv.kX(I:Inv X pins σ H s):s.heap.FunFrames X.base X.outer:=by
 have all:∀(l:List Env),(∀b∈frs l,b∈X.fs)->X.s₀.heap.FunFrames X.base l->s.heap.FunFrames X.base l:=by
  intro l
  induction l with
  |nil=>intro _ _;trivial
  |cons env r ih=>intro hs hl;obtain⟨hk,⟨L,o,hf,hn,ho,hd⟩,hr⟩:=hl;have hL:L∈X.fs:=hs L (by unfold frs;rw[Xa,hf];exact V8);obtain⟨sl,e⟩:=I.base.slot L o ho (I.ok.FQ L hL) hL λz=>I.ok.yg L z hL;exact⟨hk,⟨L,_,hf,hn,e,hd⟩,ih (λb hb=>hs b (by unfold frs;rw[Xa,hf];exact V5 _ hb)) hr⟩
 exact all X.outer (λ_ hb=>hb) I.ok.kX
theorem Inv.stack(I:Inv X pins σ H s):s.heap.FunFrames X.base X.stack:=by
 rcases I.ok.stk with e|⟨e,hf⟩
 ·rw[e];exact I.kX
 ·rw[e];obtain⟨m,hn,_⟩:=I.loc;refine .cons (by rw[I.ok.kind];decide) hf hn ?_ I.kX;exact Yl (Wx I.ok.C0 I.ok.above)
theorem Inv.uK(I:Inv X pins σ H s):∀b∈frs X.stack,b∈X.env.locals::X.fs:=λb hb=>by
 rcases I.ok.stk with e|⟨e,hf⟩
 ·rw[e]at hb;exact V5 _ hb
 ·rw[e]at hb;unfold frs at hb;rw[Xa,hf]at hb;exact hb
theorem Inv.j3(I:Inv X pins σ H s):∀b∈frs X.stack,H b=none:=λb hb=>by
 rcases Wf.mp (I.uK b hb) with e|hb
 ·rw[e];exact I.free
 ·obtain⟨_,o,ho,_⟩:=I.ok.kX.mem hb;exact I.base.free b o ho (I.ok.FQ b hb) λz=>I.ok.yg b z hb
theorem Inv.step{g':Array GenState}{t':Nat}{d':Drawn}{ch:List Addr}(I:Inv X pins σ H s)
  (hch:∀b∈ch,(b∈X.ex\/X.s₀.heap.objs.size<=b)/\b≠X.env.locals/\(∀x c,X.env.cells.lookup x=some c->c≠b)/\∀p∈X.pn++pins,p.1≠b)
  (keep:∀b o,b≠X.env.locals->b∉X.fs->b∉ch->s.heap.get? b=some o->H b=none->h'.get? b=some o)
  (slot:∀b o,b≠X.env.locals->b∈X.fs->b∉ch->s.heap.get? b=some o->H b=none->∃sl,h'.get? b=some { o with slots:=sl }) (free:∀b o,b∉ch->s.heap.get? b=some o->H b=none->H' b=none)
  (there:∀b o,b∉ch->s.heap.get? b=some o->∃o',h'.get? b=some o')
  (tups:∀b xs,H b=some (.tup xs)->H' b=some (.tup xs)) (frzs:∀b o u,H b=some (.pq o u)->H' b=some (.pq o u)) (j0:∀b ps,H b=some (.tbl ps)->∃more,H' b=some (.tbl (ps++more)))
  (ns:∀m,s.heap.Ns X.env.locals m->h'.Ns X.env.locals m) (hok:iw X.prog X.w H' h') (hg:AllBare g') :
  Inv X pins σ H' { s with heap:=h',gens:=g',drawn:=d',toks:=t' }:=by
 have neL:∀b o,X.s₀.heap.get? b=some o->b≠X.env.locals:=λb o e=>Wj (Wc (Wa e) I.ok.above);have neC:∀b o,X.s₀.heap.get? b=some o->b∉X.ex->b∉ch:=λb o e hx hb=>by
  rcases(hch b hb).1 with z|z
  ·exact hx z
  ·exact absurd (Wc (Wa e) z) (WL _)
 have cellK:∀x c,X.env.cells.lookup x=some c->∀v,s.heap.IsCell c v->h'.IsCell c v:=λx c e v ⟨o,ho,hd⟩=>by
  have LM:c∉ch:=λz=>(hch c z).2.2.1 x c e rfl
  by_cases hc:c∈X.fs
  ·obtain⟨sl,q⟩:=slot c o (I.cne x c e) hc LM ho (I.fu x c e);exact⟨_,q,hd⟩
  ·exact⟨o,keep c o (I.cne x c e) hc LM ho (I.fu x c e),hd⟩
 refine⟨I.ok,I.os,hg,⟨λb o e n hb hx=>?_,λb o e n hb hx=>?_,λb o e n hx=>?_,λb o e hx=>?_,λb xs e=>tups b xs (I.base.tups b xs e),λb o xs e=>frzs b o xs (I.base.frzs b o xs e),λb ps e=>?_⟩,?_,λx c e=>?_,?_,λx c e=>?_,λp hp=>?_,hok,I.len⟩
 ·exact keep b o (neL b o e) hb (neC b o e hx) (I.base.keep b o e n hb hx) (I.base.free b o e n hx)
 ·obtain⟨sl,e1⟩:=I.base.slot b o e n hb hx;obtain⟨LN,e2⟩:=slot b _ (neL b o e) hb (neC b o e hx) e1 (I.base.free b o e n hx);exact⟨LN,e2⟩
 ·obtain⟨o',e1⟩:=I.base.there b o e hx;exact free b o' (neC b o e hx) e1 (I.base.free b o e n hx)
 ·obtain⟨o',e1⟩:=I.base.there b o e hx;exact there b o' (neC b o e hx) e1
 ·obtain⟨m1,e1⟩:=I.base.j0 b ps e;obtain⟨m2,e2⟩:=j0 b _ e1;exact⟨m1++m2,by rw[e2,Array.append_assoc]⟩
 ·obtain⟨m,hn,hl⟩:=I.loc
  refine⟨m,ns m hn,λi x v e1 e2 e3=>?_⟩;obtain⟨u,r,l⟩:=hl i x v e1 e2 e3;refine⟨u,r,?_⟩
  rcases l with l|⟨k,c,e,z⟩
  ·exact .inl l
  ·exact .inr ⟨k,c,e,cellK x c e _ z⟩
 ·obtain⟨v,z⟩:=I.cell x c e;exact⟨v,cellK x c e v z⟩
 ·obtain⟨m,⟨o,_,_,ho,_⟩,_⟩:=I.loc;exact free _ o (λz=>(hch _ z).2.1 rfl) ho I.free
 ·obtain⟨v,o,ho,hd⟩:=I.cell x c e;exact free c o (λz=>(hch c z).2.2.1 x c e rfl) ho (I.fu x c e)
 ·obtain⟨e,n,ne,nf,d⟩:=I.pin p hp;have LM:p.1∉ch:=λz=>(hch p.1 z).2.2.2 p hp rfl;exact⟨keep p.1 p.2 ne nf LM e n,free p.1 p.2 LM e n,ne,nf,d⟩
theorem Inv.un{t':Nat}(I:Inv X pins σ H s)(u:Un X.fs [] H H' s.heap h')(hok:iw X.prog X.w H' h'):Inv X pins σ H' { s with heap:=h',toks:=t' }:=by
 obtain⟨m,⟨o,es,ep,ho,r⟩,_⟩:=id I.loc;obtain⟨sl,hL⟩:=u.any ho I.free (by simp);exact I.step (g':=s.gens) (d':=s.drawn) (ch:=[]) (λ_ z=>nomatch z) (λb o _ hb _ e n=>u.keep b o e n hb (by simp)) (λb o _ hb _ e n=>u.slot b o e n hb (by simp)) (λb o _ e n=>u.free b o e n (by simp)) (λb o _ e=>u.there b o e (by simp)) u.tups u.frzs u.j0 (λm' hm=>by
  obtain⟨o',es',PY,ho',r'⟩:=hm;rw[ho]at ho';cases ho';exact⟨_,es',PY,hL,r'⟩) hok I.bare
theorem Inv.call{t':Nat}(I:Inv X pins σ H s)(u:Un (frs X.stack) ch H H' s.heap h')(hok:iw X.prog X.w H' h')(hg:AllBare g')
  (hch:∀b∈ch,(b∈X.ex\/X.s₀.heap.objs.size<=b)/\b≠X.env.locals/\(∀x c,X.env.cells.lookup x=some c->c≠b)/\∀p∈X.pn++pins,p.1≠b) :
  Inv X pins σ H' { s with heap:=h',gens:=g',drawn:=d',toks:=t' }:=by
 obtain⟨m,⟨o,es,ep,ho,r⟩,_⟩:=id I.loc;obtain⟨sl,hL⟩:=u.any ho I.free λz=>(hch _ z).2.1 rfl;exact I.step (ch:=ch) hch (λb o hL hb hc e n=>u.keep b o e n (λz=>(Wf.mp (I.uK b z)).elim hL hb) hc) (λb o _ _ hc e n=>u.any e n hc) (λb o hc e n=>u.free b o e n hc) (λb o hc e=>u.there b o e hc) u.tups u.frzs u.j0 (λm' hm=>by
  obtain⟨o',es',PY,ho',r'⟩:=hm;rw[ho]at ho';cases ho';exact⟨_,es',PY,hL,r'⟩) hok hg
theorem Inv.turned{t':Nat}(I:Inv X pins σ H s)(k:∀b o,b≠it->s.heap.get? b=some o->h'.get? b=some o)(hn:H it=none)(hL:it≠X.env.locals)
  (h1:it∈X.ex\/X.s₀.heap.objs.size<=it) (h2:∀x c,X.env.cells.lookup x=some c->c≠it) (h3:∀p∈X.pn++pins,p.1≠it):Inv X pins σ H { s with heap:=h',toks:=t' }:=by
 have LO:∀b u,H b=some u->b≠it:=λb u e z=>by rw[z,hn]at e;cases e
 refine I.step (g':=s.gens) (d':=s.drawn) (ch:=[it]) (λb hb=>?_) (λb o _ _ hc e _=>k b o (λz=>hc (by simp[z])) e) (λb o _ _ hc e _=>⟨o.slots,k b o (λz=>hc (by simp[z])) e⟩) (λ_ _ _ _ n=>n)
  (λb o hc e=>⟨o,k b o (λz=>hc (by simp[z])) e⟩) (λ_ _ e=>e) (λ_ _ _ e=>e) (λb ps e=>⟨#[],by rw[e];simp⟩) (λm hm=>?_) (λb u e=>?_) I.bare
 ·have e:b=it:=by simpa using hb
  subst e;exact⟨h1,hL,h2,h3⟩
 ·obtain⟨o,es,ep,ho,r⟩:=hm;exact⟨o,es,ep,k _ o (Ne.symm hL) ho,r⟩
 ·refine(I.hok b u e).stay (λc v hc q=>k c v ?_ q) (λ_ q=>q) λ_ _ q=>q
  rcases hc with z|z
  ·rw[z];exact LO b u e
  ·exact LO c _ z
theorem Inv.tok(I:Inv X pins σ H s)(t:Nat):Inv X pins σ H { s with toks:=t }:=I.un (h':=s.heap) (t':=t) Un.refl I.hok
theorem Inv.kept{t':Nat}(I:Inv X pins σ H s)(k:∀b u,s.heap.get? b=some u->h'.get? b=some u):Inv X pins σ H { s with heap:=h',toks:=t' }:=I.un (Un.kept k) (I.hok.kept k)
theorem Inv.laid{t':Nat}(I:Inv X pins σ H s)(k:∀b u,s.heap.get? b=some u->h'.get? b=some u)(hp:s.heap.objs.size<=a)(new:bx X.prog X.w (upd H a o) h' a o) :
  Inv X pins σ (upd H a o) { s with heap:=h',toks:=t' }:=I.un (Un.laid k hp (I.hok.fresh hp)) (I.hok.laid k hp new)
theorem Inv.write{t':Nat}(I:Inv X pins σ H s)(mu:LK (H x))(he:e=x\/H e=some (.own x))(k:∀b u,b≠e->s.heap.get? b=some u->h'.get? b=some u)(Lq:∃u,h'.get? e=some u)
  (new:bx X.prog X.w (upd H x o) h' x o):Inv X pins σ (upd H x o) { s with heap:=h',toks:=t' }:=I.un (Un.write mu he k Lq) (I.hok.write mu he k Lq new)
theorem Inv.v7(I:Inv X pins σ H s)(h:∀p∈LP,s.heap.get? p.1=some p.2/\H p.1=none/\p.1≠X.env.locals/\p.1∉X.fs/\∀v,p.2.data≠.cell v):Inv X LP σ H s :=
 ⟨I.ok,I.os,I.bare,I.base,I.loc,I.cell,I.free,I.fu,λp hp=>(W7.mp hp).elim (λz=>I.pin p (Xl _ z)) (h p),I.hok,I.len⟩
theorem mX{N:List Str}(hN:N.Nodup){i j:Nat}{x:Str}(a:N[i]?=some x)(b:N[j]?=some x):i=j:=by
 obtain⟨h1,e1⟩:=V4.mp a;obtain⟨h2,e2⟩:=V4.mp b;exact(List.getElem_inj hN).mp (e1.trans e2.symm)
theorem pB{i:Nat}(I:Inv X pins σ H s)(hN:X.N.Nodup)(hi:X.N[i]?=some x)(hx:Loc X.env.scope x)(r:RelV v u)
  (h:∀s',Inv X pins (σ.set i (some v)) H s'->(∃a,Heap.SameBut a s.heap s'.heap/\(a=X.env.locals\/X.env.cells.lookup x=some a))->Q () s') (hf:X.fn x=true\/X.env.scope.names.lookup x=some .local):wpAny M A (storeName X.env x u) Q E s:=by
 obtain⟨m,hn,hl⟩:=id I.loc;have hcls:(X.env.scope.kind==.class||(X.env.scope.kind==.module&&X.env.locals != X.env.globals))=false:=by rw[I.ok.kind];rfl
 have Pc:i < σ.length:=by rw[I.len];exact(V4.mp hi).1
 have cne:=I.cne;have tracked:∀{a:Addr} {h':Heap},(∃o,s.heap.get? a=some o/\H a=none)->Heap.SameBut a s.heap h'->iw X.prog X.w H h':=λ{a h'} ha hs b ob e=>by
  obtain⟨_,_,hfree⟩:=ha;refine(I.hok b ob e).stay (λc w' hc q=>(hs.2 c ?_).trans q) (λ_ q=>q) λ_ _ q=>q;rintro rfl
  rcases hc with rfl|hc
  ·rw[hfree]at e;cases e
  ·rw[hfree]at hc;cases hc
 rcases hx with hk|hk
 ·refine wpAny_storeName_local hk hn (λh' hn' hs=>?_) hcls
  obtain⟨oL,_,_,R8,_⟩:=id hn;refine h _ ⟨I.ok,I.os,I.bare,⟨λb o e n hb hx=>?_,λb o e n hb hx=>?_,I.base.free,λb o e hx=>?_,I.base.tups,I.base.frzs,I.base.j0⟩,⟨_,hn',λj y v' e1 e2 e3=>?_⟩,λy c e=>?_,I.free,I.fu,λp hp=>?_,tracked ⟨oL,R8,I.free⟩ hs,by simpa using I.len⟩ ⟨_,hs,.inl rfl⟩
  ·exact(hs.2 b (Wj (Wc (Wa e) I.ok.above))).trans (I.base.keep b o e n hb hx)
  ·obtain⟨sl,e1⟩:=I.base.slot b o e n hb hx;exact⟨sl,(hs.2 b (Wj (Wc (Wa e) I.ok.above))).trans e1⟩
  ·obtain⟨o',e1⟩:=I.base.there b o e hx;exact⟨o',(hs.2 b (Wj (Wc (Wa e) I.ok.above))).trans e1⟩
  ·by_cases hj:j=i
   ·subst hj;rw[hi]at e1;cases e1;rw[Wh Pc]at e2;cases e2;exact⟨u,r,.inl ⟨hk,by simp⟩⟩
   ·rw[V7 (Ne.symm hj)]at e2
    obtain⟨u',r',q⟩:=hl j y v' e1 e2 e3;refine⟨u',r',?_⟩
    rcases q with ⟨k,e⟩|⟨k,c,e,z⟩
    ·refine .inl ⟨k,?_⟩;have:y≠x:=λe=>hj (mX hN e1 (e▸hi));simp[this,e]
    ·exact .inr ⟨k,c,e,z.sameBut hs (cne y c e)⟩
  ·obtain⟨w',z⟩:=I.cell y c e;exact⟨w',z.sameBut hs (cne y c e)⟩
  ·obtain⟨e,n,ne,nf,d⟩:=I.pin p hp;exact⟨(hs.2 p.1 ne).trans e,n,ne,nf,d⟩
 ·have hfn:X.fn x=true:=by
   rcases hf with z|z
   ·exact z
   ·rw[z]at hk;cases hk
  obtain⟨c,hc⟩:=I.ok.has x (.inl hk);obtain⟨w',z⟩:=I.cell x c hc;refine wpAny_storeName_cell I.ok.kind hk hc z (λh' hc' hs=>?_);obtain⟨oc,hoc,zH⟩:=id z;refine h { s with heap:=h' } ⟨I.ok,I.os,I.bare,⟨λb o e n hb hx=>?_,λb o e n hb hx=>?_,I.base.free,λb o e hx=>?_,I.base.tups,I.base.frzs,I.base.j0⟩,⟨m,hn.sameBut hs (Ne.symm (cne x c hc)),λj y v' e1 e2 e3=>?_⟩,λy c' e=>?_,I.free,I.fu,λp hp=>?_,tracked ⟨oc,hoc,I.fu x c hc⟩ hs,by simpa using I.len⟩ ⟨c,hs,.inr hc⟩
  ·exact(hs.2 b (Wj (Wc (Wa e) (I.ok.Lr x c hfn hc)))).trans (I.base.keep b o e n hb hx)
  ·obtain⟨sl,e1⟩:=I.base.slot b o e n hb hx;exact⟨sl,(hs.2 b (Wj (Wc (Wa e) (I.ok.Lr x c hfn hc)))).trans e1⟩
  ·obtain⟨o',e1⟩:=I.base.there b o e hx;exact⟨o',(hs.2 b (Wj (Wc (Wa e) (I.ok.Lr x c hfn hc)))).trans e1⟩
  ·by_cases hj:j=i
   ·subst hj;rw[hi]at e1;cases e1;rw[Wh Pc]at e2;cases e2;exact⟨u,r,.inr ⟨.inl hk,c,hc,hc'⟩⟩
   ·rw[V7 (Ne.symm hj)]at e2
    obtain⟨u',r',q⟩:=hl j y v' e1 e2 e3;refine⟨u',r',?_⟩
    rcases q with q|⟨k,c',e,z'⟩
    ·exact .inl q
    ·refine .inr ⟨k,c',e,z'.sameBut hs ?_⟩;rintro rfl;exact hj (mX hN e1 (I.ok.inj _ _ _ e hc▸hi))
  ·by_cases hcc:c'=c
   ·subst hcc;exact⟨_,hc'⟩
   ·obtain⟨w2,z2⟩:=I.cell y c' e;exact⟨w2,z2.sameBut hs hcc⟩
  ·obtain⟨e,n,ne,nf,d⟩:=I.pin p hp;refine⟨(hs.2 p.1 ?_).trans e,n,ne,nf,d⟩;intro q;rw[q,hoc]at e;have q':oc=p.2:=Wr e;exact d w' (by rw[<-q'];exact zH)
theorem mY{i:Nat}(I:Inv X pins σ H s)(hN:X.N.Nodup)(hi:X.N[i]?=some x)(hx:Loc X.env.scope x)(r:RelV v u)
  (h:∀s',Inv X pins (σ.set i (some v)) H s'->Q () s') (hf:X.fn x=true\/X.env.scope.names.lookup x=some .local):wpAny M A (storeName X.env x u) Q E s :=
 pB I hN hi hx r (λs' I' _=>h s' I') hf
theorem Inv.FT(I:Inv X pins σ H s)(ho:s'.os=s.os)(u:Un (frs X.stack) ch H H' s.heap s'.heap)(hok:iw X.prog X.w H' s'.heap)(hg:AllBare s'.gens)
  (hch:∀b∈ch,(b∈X.ex\/X.s₀.heap.objs.size<=b)/\b≠X.env.locals/\(∀x c,X.env.cells.lookup x=some c->c≠b)/\∀p∈X.pn++pins,p.1≠b):Inv X pins σ H' s':=by
 obtain⟨h',g',d',t',o'⟩:=s';have e:o'=s.os:=ho;subst e;exact I.call (g':=g') (t':=t') (d':=d') u hok hg hch
end
abbrev XK:=Value->Option Addr->Hp->Prop
abbrev St:=List (Option V)
abbrev VK:=V->Hp->Prop
abbrev TE:=St->Hp->VK->Prop
abbrev TT:=St->Hp->(Bool->Hp->Prop)->Prop
abbrev TA:=St->Hp->(List V->Hp->Prop)->Prop
structure Ends where
 nx:St->Hp->Prop
 rt:VK
 bk:St->Hp->Prop:=λ_ _=>False
 ct:St->Hp->Prop:=λ_ _=>False
abbrev TS:=Ends->St->Hp->Prop
def EP(X:Cx)(pins:List (Addr×Obj))(σ:St)(Q:VK)(u:Value)(s':Shared):Prop:=∃v H',Inv X pins σ H' s'/\RelV v u/\Q v H'
def TP(X:Cx)(pins:List (Addr×Obj))(σ:St)(Q:Bool->Hp->Prop)(b:Bool)(s':Shared):Prop:=∃H',Inv X pins σ H' s'/\Q b H'
def AP(X:Cx)(pins:List (Addr×Obj))(σ:St)(Q:List V->Hp->Prop)(us:List Value)(s':Shared):Prop:=∃vs H',Inv X pins σ H' s'/\Vals vs us/\Q vs H'
def SP(X:Cx)(pins:List (Addr×Obj))(D:Ends)(f:Flow)(s':Shared):Prop :=
 match f with
 |.next=>∃σ' H',Inv X pins σ' H' s'/\D.nx σ' H'
 |.brk=>∃σ' H',Inv X pins σ' H' s'/\D.bk σ' H'
 |.cont=>∃σ' H',Inv X pins σ' H' s'/\D.ct σ' H'
 |.ret u=>∃v σ' H',Inv X pins σ' H' s'/\RelV v u/\D.rt v H'
def PE(X:Cx)(e:Expr)(t:TE):Prop :=
 ∀(pins:List (Addr×Obj)) (s:Shared) (σ:St) (H:Hp) (Q:VK),Inv X pins σ H s->t σ H Q->wpAny (model X.prog X.w) X.A (eval e X.env) (EP X pins σ Q) X.xe s
def PT(X:Cx)(e:Expr)(t:TT):Prop :=
 ∀(pins:List (Addr×Obj)) (s:Shared) (σ:St) (H:Hp) (Q:Bool->Hp->Prop),Inv X pins σ H s->t σ H Q->wpAny (model X.prog X.w) X.A (isTrue e X.env (eval e X.env)) (TP X pins σ Q) X.xe s
def PW(X:Cx)(e:Expr)(t:TT):Prop :=
 ∀(whole:Sem Value) (pins:List (Addr×Obj)) (s:Shared) (σ:St) (H:Hp) (Q:Bool->Hp->Prop),Inv X pins σ H s->t σ H Q->wpAny (model X.prog X.w) X.A (isTrue e X.env whole) (TP X pins σ Q) X.xe s
theorem PW.pt(h:PW X e t):PT X e t:=h _
def PA(X:Cx)(es:List Expr)(t:TA):Prop :=
 ∀(pos:Pos) (pins:List (Addr×Obj)) (s:Shared) (σ:St) (H:Hp) (Q:List V->Hp->Prop),Inv X pins σ H s->t σ H Q->wpAny (model X.prog X.w) X.A (spliced (backTo pos (starEach es X.env))) (AP X pins σ Q) X.xe s
def PS(X:Cx)(st:Stmt)(t:TS):Prop :=
 ∀(pins:List (Addr×Obj)) (s:Shared) (σ:St) (H:Hp) (D:Ends),Inv X pins σ H s->t D σ H->wpAny (model X.prog X.w) X.A (exec st X.env) (SP X pins D) X.xe s
def oM(X:Cx)(st:List Stmt)(t:TS):Prop :=
 ∀(pins:List (Addr×Obj)) (s:Shared) (σ:St) (H:Hp) (D:Ends),Inv X pins σ H s->t D σ H->wpAny (model X.prog X.w) X.A (execs st X.env) (SP X pins D) X.xe s
theorem cu{α:Type}{t:Sem α}{Q Q':α -> Shared->Prop}(h:wpAny M A t Q E s)(hQ:∀a s,Q a s->Q' a s):wpAny M A t Q' E s:=WA h hQ λ_ _ x=>x
section
variable {X:Cx}
theorem bin{a b:Expr}{ta tb:TE}(ha:PE X a ta)(hb:PE X b tb){pins:List (Addr×Obj)}{s:Shared}{σ:St}{H:Hp}{R:V->V->Hp->Prop}(I:Inv X pins σ H s)(h:ta σ H λx H1=>tb σ H1 λy H2=>R x y H2)
  {α:Type} {Q:α -> Shared->Prop} {f:Value->Value->Sem α}
  (hf:∀v u s2 x y H2,Inv X pins σ H2 s2->RelV x v->RelV y u->R x y H2->wpAny (model X.prog X.w) X.A (f v u) Q X.xe s2) :
  wpAny (model X.prog X.w) X.A (eval a X.env) (λv s₁=>wpAny (model X.prog X.w) X.A (eval b X.env) (λu s₂=>wpAny (model X.prog X.w) X.A (f v u) Q X.xe s₂) X.xe s₁) X.xe s:=by
 refine cu (ha pins s σ H _ I h) λv s1 aJ=>?_;obtain⟨x,H1,I1,r1,q1⟩:=aJ;refine cu (hb pins s1 σ H1 _ I1 q1) λu s2 aJ=>?_;obtain⟨y,H2,I2,r2,q2⟩:=aJ;exact hf v u s2 x y H2 I2 r1 r2 q2
def LQ(i:Nat):TE:=λσ H Q=>∃v,σ[i]?=some (some v)/\Q v H
def tC(v:V):TE:=λ_ H Q=>Q v H
theorem iG{i:Nat}(hN:X.N[i]?=some x)(hv:Pa X.env.scope x)(hd:(x==("__debug__":Str))=false)(hcd:(x==("__classdict__":Str))=false):PE X (.Name x pos) (LQ i):=by
 intro pins s σ H Q I h;obtain⟨v,e,h⟩:=h;obtain⟨m,hn,hl⟩:=I.loc;obtain⟨u,r,l⟩:=hl i x v hN e hv;have fin:EP X pins σ Q u s:=⟨v,H,I,r,h⟩
 rcases l with ⟨hk,hm⟩|⟨hk,c,hc,hcell⟩
 ·exact wpAny_Name (wpAny_loadName_local I.ok.kind hk hn hm fin) hd
 ·rcases hk with hk|hk
  ·exact wpAny_Name (wpAny_loadName_cell I.ok.kind hk hc hcell fin) hd
  ·exact wpAny_Name (wpAny_loadName_free I.ok.kind hk hc hcell fin hcd) hd
theorem Hg{i j pos}:PE X (.Constant (.int i) j pos) (tC (.int i)):=λ_ _ _ H _ I h=>wpAny_Constant_int ⟨.int i,H,I.tok _,⟨_,rfl⟩,h⟩
theorem FU{b j pos}:PE X (.Constant (.bool b) j pos) (tC (.bl b)):=λ_ _ _ H _ I h=>Constant_bool ⟨.bl b,H,I,rfl,h⟩
theorem zJ{j pos}:PE X (.Constant .none j pos) (tC .non):=λ_ _ _ H _ I h=>Constant_none ⟨.non,H,I,rfl,h⟩
theorem Hh{x j pos}:PE X (.Constant (.str x) j pos) (tC (.str x)):=λ_ _ _ H _ I h=>Calls.Constant_str ⟨.str x,H,I.tok _,⟨_,rfl⟩,h⟩
def Gl(X:Cx)(x:Str):Prop:=X.env.kindOf x=some .globalImplicit
theorem ji(I:Inv X pins σ H s)(hg:Gl X x)(hm:X.mg x=some u)(h:Q u s)
  (hd:(x==("__debug__":Str))=false):wpAny (model X.prog X.w) X.A (eval (.Name x pos) X.env) Q E s :=
 Calls.Name_function_global I.ok.kind hg (Calls.loadGlobal_global (by rw[I.ok.glob];exact I.mod.glob.keeps I.bk) hm h) hd
theorem iH(I:Inv X pins σ H s)(hg:Gl X x)(hm:X.mg x=none)(hv:bootBuiltins x=some u)(h:Q u s)
  (hn:x ≠ "__name__":=by decide) (hd:(x==("__debug__":Str))=false:=by decide):wpAny (model X.prog X.w) X.A (eval (.Name x pos) X.env) Q E s:=by
 obtain⟨mb,h1,h2⟩:=I.mod.blt;exact Calls.Name_function_global I.ok.kind hg (Calls.loadGlobal_builtin (by rw[I.ok.glob];exact I.mod.glob.keeps I.bk) hm (by rw[I.ok.blt];exact h1.keeps I.bk) ((h2 x hn).trans hv) h) hd
theorem jk(hg:Gl X x)(hm:X.mg x=some u)(r:RelV v u)(hd:(x==("__debug__":Str))=false):PE X (.Name x pos) (tC v) :=
 λ_ _ _ H _ I h=>ji I hg hm ⟨v,H,I,r,h⟩ hd
theorem v8(hg:Gl X x)(hm:X.mg x=none)(hv:bootBuiltins x=some u)(r:RelV v u)(hn:x ≠ "__name__")(hd:(x==("__debug__":Str))=false):PE X (.Name x pos) (tC v) :=
 λ_ _ _ H _ I h=>iH I hg hm hv ⟨v,H,I,r,h⟩ hn hd
variable {a b:Expr} {ta tb:TE} {pos:Pos}
variable {tA Pd:TT} {rest:List Expr}
def PZ(t u:TT):TT:=λσ H Q=>t σ H λc H1=>if c=true then u σ H1 Q else Q false H1
def Tz(t u:TT):TT:=λσ H Q=>t σ H λc H1=>if c=true then Q true H1 else u σ H1 Q
def P0(t:TT):TT:=λσ H Q=>t σ H λc H1=>Q (!c) H1
theorem C5(ha:PT X a tA):PW X (.BoolOp .And [a] pos) tA:=by
 intro wh pins s σ H Q I h;refine isTrue_and (cu (ha pins s σ H Q I h) λc s1 e=>?_);cases c with
 |true=>exact isTrue_and_nil e
 |false=>exact e
theorem Hi(ha:PT X a tA):PW X (.BoolOp .Or [a] pos) tA:=by
 intro wh pins s σ H Q I h;refine isTrue_or (cu (ha pins s σ H Q I h) λc s1 e=>?_);cases c with
 |false=>exact isTrue_or_nil e
 |true=>exact e
theorem Hj(ha:PT X a tA)(hb:PW X (.BoolOp .And (b::rest) pos) Pd):PW X (.BoolOp .And (a::b::rest) pos) (PZ tA Pd):=by
 intro wh pins s σ H Q I h;refine isTrue_and (cu (ha pins s σ H _ I h) λc s1 aJ=>?_);obtain⟨H1,I1,q1⟩:=aJ;cases c with
 |true=>exact hb wh pins s1 σ H1 Q I1 q1
 |false=>exact⟨H1,I1,q1⟩
theorem LR(ha:PT X a tA)(hb:PW X (.BoolOp .Or (b::rest) pos) Pd):PW X (.BoolOp .Or (a::b::rest) pos) (Tz tA Pd):=by
 intro wh pins s σ H Q I h;refine isTrue_or (cu (ha pins s σ H _ I h) λc s1 aJ=>?_);obtain⟨H1,I1,q1⟩:=aJ;cases c with
 |true=>exact⟨H1,I1,q1⟩
 |false=>exact hb wh pins s1 σ H1 Q I1 q1
theorem Hl(ha:PT X a tA):PT X (.UnaryOp .Not a pos) (P0 tA):=by
 intro pins s σ H Q I h;exact isTrue_not (ha pins s σ H (λc H1=>Q (!c) H1) I h)
def LS(ta tb:TE):TE:=λσ H Q=>ta σ H λx H1=>∃c,x=.bl c/\if c=true then tb σ H1 Q else Q (.bl false) H1
def P1(ta tb:TE):TE:=λσ H Q=>ta σ H λx H1=>∃c,x=.bl c/\if c=true then Q (.bl true) H1 else tb σ H1 Q
def LU(ta:TE):TE:=λσ H Q=>ta σ H λx H1=>∃c,x=.bl c/\Q (.bl (!c)) H1
theorem qB{op}(h:PE X a t):PE X (.BoolOp op [a] pos) t:=λpins s σ H Q I hw=>BoolOp_one (h pins s σ H Q I hw)
theorem uL(ha:PE X a ta)(hb:PE X (.BoolOp .And (b::rest) pos) tb):PE X (.BoolOp .And (a::b::rest) pos) (LS ta tb):=by
 intro pins s σ H Q I h;refine BoolOp_and (cu (ha pins s σ H _ I h) λv s1 aJ=>?_);obtain⟨x,H1,I1,r1,q1⟩:=aJ;obtain⟨c,rfl,q1⟩:=q1;cases r1;refine Xm ?_;cases c with
 |true=>exact hb pins s1 σ H1 Q I1 q1
 |false=>exact⟨.bl false,H1,I1,rfl,q1⟩
theorem LV(ha:PE X a ta)(hb:PE X (.BoolOp .Or (b::rest) pos) tb):PE X (.BoolOp .Or (a::b::rest) pos) (P1 ta tb):=by
 intro pins s σ H Q I h;refine BoolOp_or (cu (ha pins s σ H _ I h) λv s1 aJ=>?_);obtain⟨x,H1,I1,r1,q1⟩:=aJ;obtain⟨c,rfl,q1⟩:=q1;cases r1;refine Xm ?_;cases c with
 |false=>exact hb pins s1 σ H1 Q I1 q1
 |true=>exact⟨.bl true,H1,I1,rfl,q1⟩
theorem zK(ha:PE X a ta):PE X (.UnaryOp .Not a pos) (LU ta):=by
 intro pins s σ H Q I h;refine UnaryOp_ (cu (ha pins s σ H _ I h) λv s1 aJ=>?_);obtain⟨x,H1,I1,r1,q1⟩:=aJ;obtain⟨c,rfl,q1⟩:=q1;cases r1;exact not_of (Xm ⟨.bl (!c),H1,I1,rfl,q1⟩)
end
def fQ(K:Frag)(H:Hp)(a:Addr)(xs:List V):Prop :=
 Rd H a (.lst xs) \/
  ∃(o:Obj) (its:Array Value) (n:Nat),K.lookup a=some o/\o.cls=.type "list" /\ o.dict=none/\o.data=.seq its n/\its.size<=sizeLine/\Vals xs its.toList
def iy(K:Frag)(H:Hp)(a:Addr)(xs:List V):Prop :=
 Rd H a (.tup xs) \/
  ∃(o:Obj) (its:Array Value) (n:Nat),K.lookup a=some o/\o.cls=.type "tuple" /\ o.data=.seq its n/\its.size<=sizeLine/\Vals xs its.toList
def P4:Value->Option V
 |.none=>some .non
 |.bool b=>some (.bl b)
 |.int i _=>some (.int i)
 |.str x _=>some (.str x)
 |.bytes b _=>some (.byt b)
 |.float b _=>some (.flt b)
 |.ref a=>some (.ref a)
 |.type n=>some (.ty n)
 |_=>none
theorem RelV.abs(r:RelV x u):P4 u=some x:=by
 cases x with
 |non=>cases r;rfl
 |bl _=>cases r;rfl
 |int _=>obtain⟨t,rfl⟩:=r;rfl
 |str _=>obtain⟨t,rfl⟩:=r;rfl
 |byt _=>obtain⟨t,rfl⟩:=r;rfl
 |flt _=>obtain⟨t,rfl⟩:=r;rfl
 |ref _=>cases r;rfl
 |ty _=>cases r;rfl
theorem RelV.inj(r:RelV x u)(q:RelV y u):x=y:=Wr (r.abs.symm.trans q.abs)
theorem Vals.inj:∀{xs ys:List V} {us:List Value},Vals xs us->Vals ys us->xs=ys
 |_,_,_,.nil,.nil=>rfl
 |_,_,_,.cons r t,.cons r' t'=>by rw[r.inj r',Vals.inj t t']
section
variable {X:Cx} {pins:List (Addr×Obj)} {σ:St} {H:Hp} {s:Shared} {a:Addr} {xs ys:List V}
theorem iy.of{K:Frag}(h:H a=some (.tup xs)):iy K H a xs:=.inl (.inl h)
theorem Inv.list(I:Inv X pins σ H s)(h:fQ X.K H a xs):∃its:List Value,Vals xs its/\PlainL s.heap a its.toArray/\xs.length<=sizeLine:=by
 rcases h with h|⟨o,its,n,hk,hc,hd,hs,hz,r⟩
 ·obtain⟨z,its,n,r,e⟩:=h.ok I.hok;exact⟨its,r,⟨_,n,e,rfl,rfl,rfl⟩,z⟩
 ·refine⟨its.toList,r,⟨o,n,I.kT a o hk,hc,hd,by simpa using hs⟩,?_⟩;have e:=r.length;simp only[Array.length_toList]at e;omega
theorem Inv.tuple(I:Inv X pins σ H s)(h:iy X.K H a xs):∃its:List Value,Vals xs its/\IsTup s.heap a its.toArray/\xs.length<=sizeLine:=by
 rcases h with h|⟨o,its,n,hk,hc,hs,hz,r⟩
 ·obtain⟨z,its,r,p⟩:=h.ok I.hok;exact⟨its,r,p,z⟩
 ·refine⟨its.toList,r,⟨o,I.kT a o hk,hc,n,by simpa using hs⟩,?_⟩;have e:=r.length;simp only[Array.length_toList]at e;omega
theorem Inv.rP(I:Inv X pins σ H s)(h:fQ X.K H a xs)(h':fQ X.K H a ys):xs=ys:=by
 obtain⟨its,r,⟨o,n,e,_,_,d⟩,_⟩:=I.list h;obtain⟨its',r',⟨o',n',e',_,_,d'⟩,_⟩:=I.list h';rw[e]at e';cases e';rw[d]at d';injection d' with d1 _
 have:its=its':=by simpa using Xb toList d1
 subst this;exact r.inj r'
theorem Inv.yh(I:Inv X pins σ H s)(h:iy X.K H a xs)(h':iy X.K H a ys):xs=ys:=by
 obtain⟨its,r,⟨o,e,_,n,d⟩,_⟩:=I.tuple h;obtain⟨its',r',⟨o',e',_,n',d'⟩,_⟩:=I.tuple h';rw[e]at e';cases e';rw[d]at d';injection d' with d1 _
 have:its=its':=by simpa using Xb toList d1
 subst this;exact r.inj r'
end
abbrev Cx.l8(X:Cx)(E:Value->Shared->Prop):Cx:={ X with xe:=E }
abbrev Cx.CO(X:Cx):Cx:=X.l8 λ_ _=>False
theorem Cx.Ok.l8{X:Cx}(ok:X.Ok)(E:Value->Shared->Prop):(X.l8 E).Ok :=
 ⟨ok.mod,ok.kind,ok.glob,ok.blt,ok.above,ok.inj,ok.has,ok.Lr,ok.hd,ok.frames,ok.stk,ok.Pb,ok.bs,ok.C0,ok.yf,ok.yg,ok.kX,ok.FQ⟩
theorem Cx.Ok.fZ{X:Cx}{E:Value->Shared->Prop}(ok:(X.l8 E).Ok):X.Ok :=
 ⟨ok.mod,ok.kind,ok.glob,ok.blt,ok.above,ok.inj,ok.has,ok.Lr,ok.hd,ok.frames,ok.stk,ok.Pb,ok.bs,ok.C0,ok.yf,ok.yg,ok.kX,ok.FQ⟩
section
variable {X:Cx} {pins:List (Addr×Obj)} {σ:St} {H:Hp} {s:Shared} {E:Value->Shared->Prop}
theorem Inv.l8(I:Inv X pins σ H s)(E:Value->Shared->Prop):Inv (X.l8 E) pins σ H s:=⟨I.ok.l8 E,I.os,I.bare,I.base,I.loc,I.cell,I.free,I.fu,I.pin,I.hok,I.len⟩
theorem Inv.fZ(I:Inv (X.l8 E) pins σ H s):Inv X pins σ H s:=⟨I.ok.fZ,I.os,I.bare,I.base,I.loc,I.cell,I.free,I.fu,I.pin,I.hok,I.len⟩
theorem SP.fZ(h:SP (X.l8 E) pins D f s'):SP X pins D f s':=by
 cases f with
 |next=>obtain⟨σ',H',I,q⟩:=h;exact⟨σ',H',I.fZ,q⟩
 |brk=>obtain⟨σ',H',I,q⟩:=h;exact⟨σ',H',I.fZ,q⟩
 |cont=>obtain⟨σ',H',I,q⟩:=h;exact⟨σ',H',I.fZ,q⟩
 |ret u=>obtain⟨v,σ',H',I,r,q⟩:=h;exact⟨v,σ',H',I.fZ,r,q⟩
theorem oM.CO{st:List Stmt}{t:TS}(h:oM X.CO st t):oM X st t:=λpins s σ H D I hw=>
 WA (h pins s σ H D (I.l8 _) hw) (λ_ _ q=>q.fZ) λ_ _ z=>False.elim z
end
section
variable {X:Cx} {st:Stmt} {rest:List Stmt} {t u:TS} {e:Expr} {te:TE} {pos:Pos}
def zL:TS:=λD σ H=>D.nx σ H
def P5(t u:TS):TS:=λD σ H=>t { D with nx:=u D } σ H
theorem C6:oM X [] zL:=λ_ _ σ H _ I h=>XM ⟨σ,H,I,h⟩
theorem gk(h1:PS X st t)(h2:oM X rest u):oM X (st::rest) (P5 t u):=by
 intro pins s σ H D I h;refine wpAny_execs_cons (cu (h1 pins s σ H { D with nx:=u D } I h) λf s1 q=>?_);cases f with
 |next=>obtain⟨σ',H',I',q⟩:=q;exact h2 pins s1 σ' H' D I' q
 |ret v=>exact q
 |brk=>exact q
 |cont=>exact q
theorem qC(h1:PS X st t):oM X [st] t:=by
 intro pins s σ H D I h;refine wpAny_execs_cons (cu (h1 pins s σ H D I h) λf s1 q=>?_);cases f with
 |next=>exact XM q
 |ret v=>exact q
 |brk=>exact q
 |cont=>exact q
def Ho:TS:=λD σ H=>D.bk σ H
def LW:TS:=λD σ H=>D.ct σ H
theorem C7:PS X (.Pass pos) zL:=λ_ _ σ H _ I h=>wpAny_Pass ⟨σ,H,I,h⟩
theorem zM:PS X (.Break pos) Ho:=λ_ _ σ H _ I h=>wpAny_Break ⟨σ,H,I,h⟩
theorem rQ:PS X (.Continue pos) LW:=λ_ _ σ H _ I h=>wpAny_Continue ⟨σ,H,I,h⟩
theorem Inv.quiet(I:Inv X pins σ H s):interactive X.env=false:=by simp[interactive,I.ok.kind]
theorem Hq{x j pos pos'}:PS X (.Expr (.Constant (.str x) j pos) pos') zL:=λ_ s σ H _ I h=>wpAny_Expr (Calls.Constant_str (show SP X _ _ .next { s with toks:=s.toks+1 } from⟨σ,H,I.tok _,h⟩)) I.quiet
def LX(te:TE):TS:=λD σ H=>te σ H λ_ H1=>D.nx σ H1
theorem C8(he:PE X e te)(hs:swapsWith e none pos.line X.env=pure false):PS X (.Expr e pos) (LX te):=by
 intro pins s σ H D I h;exact wpAny_Expr_any (cu (he pins s σ H _ I h) λv s1 ⟨x,H1,I1,r1,q1⟩=>⟨σ,H1,I1,q1⟩) I.quiet hs
def P6(te:TE):TS:=λD σ H=>te σ H D.rt
theorem Hr(he:PE X e te):PS X (.Return (some e) pos) (P6 te):=by
 intro pins s σ H D I h;exact wpAny_Return_some (cu (he pins s σ H _ I h) λv s1 ⟨x,H1,I1,r1,q1⟩=>⟨x,σ,H1,I1,r1,q1⟩)
def LY:TS:=λD _ H=>D.rt .non H
theorem C9:PS X (.Return none pos) LY:=λ_ _ σ H _ I h=>wpAny_Return_none ⟨.non,σ,H,I,rfl,h⟩
def P7(c:TT)(t u:TS):TS:=λD σ H=>c σ H λb H1=>if b=true then t D σ H1 else u D σ H1
theorem LZ(hc:PT X c tc)(ha:oM X a t)(hb:oM X b u):PS X (.If c a b pos) (P7 tc t u):=by
 intro pins s σ H D I h;refine wpAny_If (cu (hc pins s σ H _ I h) λd s1 aJ=>?_);obtain⟨H1,I1,q1⟩:=aJ;cases d with
 |true=>exact ha pins s1 σ H1 D I1 q1
 |false=>exact hb pins s1 σ H1 D I1 q1
def Ht:TS:=λ_ _ _=>False
theorem mZ:PS X st Ht:=λ_ _ _ _ _ _ h=>h.elim
end
abbrev TG:=V->St->Hp->(St->Hp->Prop)->Prop
abbrev Ls:=List V->St->Hp->(St->Hp->Prop)->Prop
def PG(X:Cx)(target:Expr)(t:TG):Prop :=
 ∀(pins:List (Addr×Obj)) (s:Shared) (σ:St) (H:Hp) (v:V) (u:Value) (Q:St->Hp->Prop),Inv X pins σ H s->RelV v u->t v σ H Q ->
  wpAny (model X.prog X.w) X.A (assign target X.env u) (λ_ s'=>∃σ' H',Inv X pins σ' H' s'/\Q σ' H') X.xe s
def Lu(X:Cx)(ts:List Expr)(t:Ls):Prop :=
 ∀(pins:List (Addr×Obj)) (s:Shared) (σ:St) (H:Hp) (vs:List V) (us:List Value) (Q:St->Hp->Prop),Inv X pins σ H s->Vals vs us->t vs σ H Q ->
  wpAny (model X.prog X.w) X.A (assignInOrder ((assignEach ts X.env).map (·.2)) us) (λ_ s'=>∃σ' H',Inv X pins σ' H' s'/\Q σ' H') X.xe s
abbrev Hu:=V->V->V->Hp->(Hp->Prop)->Prop
def Hw(X:Cx)(t:Hu):Prop :=
 ∀(pins:List (Addr×Obj)) (s:Shared) (σ:St) (H:Hp) (o i v:V) (ov iv u:Value) (Q:Hp->Prop),Inv X pins σ H s->RelV o ov->RelV i iv->RelV v u->t o i v H Q ->
  wpAny (model X.prog X.w) X.A (setItem ov iv u) (λ_ s'=>∃H',Inv X pins σ H' s'/\Q H') X.xe s
section
variable {X:Cx} {pos:Pos}
def pC(i:Nat):TG:=λv σ H Q=>Q (σ.set i (some v)) H
theorem fc{i:Nat}(hN:X.N.Nodup)(hi:X.N[i]?=some x)(hx:Loc X.env.scope x)(hf:X.fn x=true\/X.env.scope.names.lookup x=some .local):PG X (.Name x pos) (pC i):=by
 intro pins s σ H v u Q I r h;exact wpAny_assign_Name (mY I hN hi hx r (λs' I'=>⟨_,H,I',h⟩) hf)
def L3:Ls:=λvs σ H Q=>vs=[]/\Q σ H
def FW(t:TG)(u:Ls):Ls:=λvs σ H Q=>∃v r,vs=v::r/\t v σ H λσ' H'=>u r σ' H' Q
theorem v9:Lu X [] L3:=by
 intro pins s σ H vs us Q I r h;obtain⟨e,h⟩:=h;subst e;cases r;exact assignInOrder_nil ⟨σ,H,I,h⟩
theorem rR(h1:PG X e t)(h2:Lu X es u)
  (hs:(assignEach (e::es) X.env).map (·.2)=assign e X.env::(assignEach es X.env).map (·.2):=by rfl):Lu X (e::es) (FW t u):=by
 intro pins s σ H vs us Q I r h;obtain⟨v,vr,e1,h⟩:=h;subst e1;cases r with
 |cons r rr=>rw[hs];refine assignInOrder_cons (cu (h1 pins s σ H _ _ _ I r h) λ_ s1 aJ=>?_);obtain⟨σ1,H1,I1,q1⟩:=aJ;exact h2 pins s1 σ1 H1 _ _ Q I1 rr q1
def L4(K:Frag)(n:Nat)(t:Ls):TG:=λv σ H Q=>∃a xs,v=.ref a/\iy K H a xs/\xs.length=n/\t xs σ H Q
theorem zN{k:Nat}{n:Nat}(hc:X.calm=true)(h:Lu X es t)
  (hn:(assignEach es X.env).length=n) (hst:(assignEach es X.env).findIdx? (·.1)=none):PG X (.Tuple es k pos) (L4 X.K n t):=by
 intro pins s σ H v u Q I r hw;obtain⟨a,xs,e1,hq,hl,hw⟩:=hw;subst e1;cases r;obtain⟨its,rv,ht,hz⟩:=I.tuple hq;refine assign_Tuple_tuple (I.ok.hd hc) ht (by simp[hn,<-hl,rv.length]) hst λh' hx=>?_;have I1:Inv X pins σ H { s with heap:=h' }:=I.kept (t':=s.toks) λb o e=>hx b o (Wj (Wa e)) e;exact h pins _ σ H xs _ Q I1 (by simpa using rv) hw
def L5(to ti:TE)(t:Hu):TG:=λv σ H Q=>to σ H λo H1=>ti σ H1 λi H2=>t o i v H2 λH3=>Q σ H3
theorem Hx(ho:PE X o to)(hi:PE X i ti)(hs:Hw X t)
  (ha:∀v,assign (.Subscript o i pos) X.env v=(do
   let ov <-holding [v] (eval o X.env)
   let iv <-holding [v,ov] (eval i X.env)
   standAt pos
   holding [v,ov,iv] (setItem ov iv v)
   release [v,ov,iv] [])):PG X (.Subscript o i pos) (L5 to ti t):=by
 intro pins s σ H v u Q I r h;rw[ha];refine VZ (WI (cu (ho pins s σ H _ I h) λov s1 aJ=>?_));obtain⟨x,H1,I1,r1,q1⟩:=aJ;refine VZ (WI (cu (hi pins s1 σ H1 _ I1 q1) λiv s2 aJ=>?_));obtain⟨y,H2,I2,r2,q2⟩:=aJ;refine VZ (Xd (VZ (WI (cu (hs pins s2 σ H2 x y v ov iv u _ I2 r1 r2 r q2) λ_ s3 aJ=>?_))));obtain⟨H3,I3,q3⟩:=aJ;exact wpAny_release ⟨σ,H3,I3,q3⟩
def Dc(te:TE)(g:TG):TS:=λD σ H=>te σ H λx H1=>g x σ H1 D.nx
theorem jM(he:PE X e te)(hg:PG X tg g)(hs:swapsWithSole [tg] e pos.line X.env=pure false)(hw:swappedStores [tg] e X.env=pure none)
  (h1:(assignEach [tg] X.env).map (·.2)=[assign tg X.env]):PS X (.Assign [tg] e pos) (Dc te g):=by
 intro pins s σ H D I h;refine wpAny_Assign_stores (cu (he pins s σ H _ I h) λv s1 ⟨x,H1,I1,r1,q1⟩=>?_) hs hw;rw[h1];exact cu (hg pins s1 σ H1 x v _ I1 r1 q1) λ_ s2 q=>q
theorem zO{i:Nat}(hN:X.N.Nodup)(hi:X.N[i]?=some x)(hx:Loc X.env.scope x)(he:PE X e te)(hs:swapsWith e (some (.Name x pos')) pos.line X.env=pure false)(hf:X.fn x=true\/X.env.scope.names.lookup x=some .local) :
  PS X (.Assign [.Name x pos'] e pos) (Dc te (pC i)):=by
 intro pins s σ H D I h;refine wpAny_Assign_Name (cu (he pins s σ H _ I h) λv s1 ⟨y,H1,I1,r1,q1⟩=>?_) hs;exact mY I1 hN hi hx r1 (λs2 I2=>⟨_,H1,I2,q1⟩) hf
end
structure It where
 go:Nat->Hp->Prop
 uM:Nat->Hp->V->Hp->Prop
 stop:Nat->Hp->Prop
def l9(X:Cx)(pins:List (Addr×Obj))(H:Hp)(b:Addr):Prop :=
 H b=none/\b≠X.env.locals/\b∉X.fs/\(b∈X.ex\/X.s₀.heap.objs.size<=b)/\(∀x c,X.env.cells.lookup x=some c->c≠b)/\∀p∈X.pn++pins,p.1≠b
theorem Inv.Dd(I:Inv X pins σ H s)(hb:s.heap.objs.size<=b)(hn:H' b=none):l9 X pins H' b:=by
 refine⟨hn,Xs (Wc I.lt hb),I.PX hb,.inr (Wx I.sz hb),λx c e z=>?_,λp hp z=>?_⟩
 ·obtain⟨v,q⟩:=I.cell x c e;exact absurd (Wc q.lt (by rw[z];exact hb)) (WL _)
 ·exact absurd (Wc (Wa (I.pin p hp).1) (by rw[z];exact hb)) (WL _)
structure Turn (P:Program) (w:World) (K:Frag) (tg:Expr) (J:It) (fp:List Addr) (it:Addr) (tn:Nat->Heap->Prop):Prop where
 mem:it∈fp
 obj:∀i h,tn i h->∀b∈fp,∃o,h.get? b=some o/\∀v,o.data≠.cell v
 keep:∀i h h',tn i h->(∀b∈fp,∀o,h.get? b=some o->h'.get? b=some o)->tn i h'
 item:∀(X:Cx),X.prog=P->X.w=w->X.K=K->X.calm=true->∀(i:Nat) (pins:List (Addr×Obj)) (s:Shared) (σ:St) (H:Hp) (E:Value->Shared->Prop),Inv X pins σ H s->(∀b∈fp,l9 X pins H b)->tn i s.heap->J.go i H ->
  wpAny (model P w) X.A (pyNext (.ref it)) (λr s1=>∃u,r=some u /\
   wpAny (model P w) X.A (letOwnedTupleGo tg (.ref it) u) (λ_ s2=>∃x H',Inv X pins σ H' s2/\RelV x u/\J.uM i H x H'/\tn (i+1) s2.heap/\∀b∈fp,H' b=none) E s1) E s
 done:∀(X:Cx),X.prog=P->X.w=w->X.K=K->X.calm=true->∀(i:Nat) (pins:List (Addr×Obj)) (s:Shared) (σ:St) (H:Hp) (E:Value->Shared->Prop),Inv X pins σ H s->(∀b∈fp,l9 X pins H b)->tn i s.heap->J.stop i H ->
  wpAny (model P w) X.A (pyNext (.ref it)) (λr s1=>r=none/\Inv X pins σ H s1) E s
 self:∀(A:Around) (i:Nat) (s:Shared) (Q:Value->Shared->Prop) (E:Value->Shared->Prop),tn i s.heap->Q (.ref it) s->wpAny (model P w) A (pyIter (.ref it)) Q E s
abbrev TI:=St->Hp->(It->Hp->Prop)->Prop
def R9(X:Cx)(pins:List (Addr×Obj))(σ:St)(tg:Expr)(R:It->Hp->Prop)(itv:Value)(s2:Shared):Prop :=
 ∃(it:Addr) (fp:List Addr) (tn:Nat->Heap->Prop) (J:It) (H':Hp),itv=.ref it/\Inv X pins σ H' s2/\Turn X.prog X.w X.K tg J fp it tn/\tn 0 s2.heap/\(∀b∈fp,l9 X pins H' b)/\R J H'
def PI(X:Cx)(tg iter:Expr)(wi:TI):Prop :=
 ∀(pins:List (Addr×Obj)) (s:Shared) (σ:St) (H:Hp) (R:It->Hp->Prop),Inv X pins σ H s->wi σ H R ->
  wpAny (model X.prog X.w) X.A (eval iter X.env) (λv s1=>wpAny (model X.prog X.w) X.A (pyIter v) (R9 X pins σ tg R) X.xe s1) X.xe s
theorem zP{n:String}(ho:s.heap.get? it=some o)(hc:o.cls=.type n)(hd:o.data=.fields vs)
  (hn:["enumerate","zip","dict_itemiterator","dict_reverseitemiterator","odict_iterator","itertools.zip_longest","itertools.pairwise"].contains n=false) (hQ:Q () s):wpAny M A (letOwnedTupleGo tg (.ref it) u) Q E s:=by
 unfold letOwnedTupleGo;cases tg<;>first
  |exact V6 hQ
  | (cases u<;>first
    |exact V6 hQ
    | (refine VZ (wpAny_load ho ?_)
       rw[hc,hd];show wpAny M A (if (["enumerate","zip","dict_itemiterator","dict_reverseitemiterator","odict_iterator","itertools.zip_longest","itertools.pairwise"].contains n&&vs[0]?==some (rawInt _))=true then _ else _) Q E s;rw[We (by intro h;rw[hn,Bool.false_and]at h;cases h)];exact V6 hQ))
def Pe(K:Frag)(a:Addr):It :=
 ⟨λi H=>∃xs x,fQ K H a xs/\xs[i]?=some x,λi H x H'=>H'=H/\∀xs,fQ K H a xs->xs[i]?=some x,λi H=>∃xs,fQ K H a xs/\xs.length<=i⟩
def P8(K:Frag)(a:Addr):It :=
 ⟨λi H=>∃xs x,iy K H a xs/\xs[i]?=some x,λi H x H'=>H'=H/\∀xs,iy K H a xs->xs[i]?=some x,λi H=>∃xs,iy K H a xs/\xs.length<=i⟩
def L6(lo:Int)(n:Nat):It:=⟨λi _=>i<n,λi H x H'=>H'=H/\x=.int (lo+i),λi _=>n<=i⟩
theorem yi{P:Program}{w:World}{K:Frag}{tg:Expr}(a it:Addr):Turn P w K tg (Pe K a) [it] it (λi h=>h.IsListIter it a i) where
 mem:=by simp
 obj:=λi h st b hb=>by
  have e:b=it:=by simpa using hb
  subst e;obtain⟨o,e,c,d⟩:=st;exact⟨o,e,λv z=>by rw[d]at z;cases z⟩
 keep:=λi h h' st k=>st.at λo e=>k it (by simp) o e
 item:=by intro X hP hw hK hc i pins s σ H E I hf st hg;subst hP hw hK;obtain⟨xs,x,hq,hx⟩:=hg;obtain⟨its,rv,p,hz⟩:=I.list hq;obtain⟨u,hu,ru⟩:=rv.get hx;obtain⟨f0,f1,f2,f3,f4,f5⟩:=hf it (by simp);refine wpAny_pyNext_list_item st p.isList (x:=u) (by simpa using hu) λh' st' sb=>?_;have I1:Inv X pins σ H { s with heap:=h' }:=I.turned (t':=s.toks) (λb o hb e=>(sb.2 b hb).trans e) f0 f1 f3 f4 f5;obtain⟨o,e,c,d⟩:=id st';exact⟨u,rfl,zP (s:={ s with heap:=h' }) e c d (by decide) ⟨x,H,I1,ru,⟨rfl,λys hy=>by rw[I.rP hy hq];exact hx⟩,st',λb hb=>(hf b hb).1⟩⟩
 done:=by intro X hP hw hK hc i pins s σ H E I hf st hg;subst hP hw hK;obtain⟨xs,hq,hx⟩:=hg;obtain⟨its,rv,p,hz⟩:=I.list hq;obtain⟨f0,f1,f2,f3,f4,f5⟩:=hf it (by simp);have hl:=rv.length;exact wpAny_pyNext_list_end (I.ok.hd hc) st p.isList (by simp;omega) λh' eb=>⟨rfl,I.turned (t':=s.toks) (λb o hb e=>eb b o hb e) f0 f1 f3 f4 f5⟩
 self:=λ_ _ _ _ _ st h=>wpAny_pyIter_listiter st h
theorem uN{P:Program}{w:World}{K:Frag}{tg:Expr}(a it:Addr):Turn P w K tg (P8 K a) [it] it (λi h=>h.IsTupleIter it a i) where
 mem:=by simp
 obj:=λi h st b hb=>by
  have e:b=it:=by simpa using hb
  subst e;obtain⟨o,e,c,d⟩:=st;exact⟨o,e,λv z=>by rw[d]at z;cases z⟩
 keep:=λi h h' st k=>st.at λo e=>k it (by simp) o e
 item:=by intro X hP hw hK hc i pins s σ H E I hf st hg;subst hP hw hK;obtain⟨xs,x,hq,hx⟩:=hg;obtain⟨its,rv,p,hz⟩:=I.tuple hq;obtain⟨u,hu,ru⟩:=rv.get hx;obtain⟨f0,f1,f2,f3,f4,f5⟩:=hf it (by simp);refine wpAny_pyNext_tuple_item st (show s.heap.IsTuple a its.toArray from p) (x:=u) (by simpa using hu) λh' st' sb=>?_;have I1:Inv X pins σ H { s with heap:=h' }:=I.turned (t':=s.toks) (λb o hb e=>(sb.2 b hb).trans e) f0 f1 f3 f4 f5;obtain⟨o,e,c,d⟩:=id st';exact⟨u,rfl,zP (s:={ s with heap:=h' }) e c d (by decide) ⟨x,H,I1,ru,⟨rfl,λys hy=>by rw[I.yh hy hq];exact hx⟩,st',λb hb=>(hf b hb).1⟩⟩
 done:=by intro X hP hw hK hc i pins s σ H E I hf st hg;subst hP hw hK;obtain⟨xs,hq,hx⟩:=hg;obtain⟨its,rv,p,hz⟩:=I.tuple hq;obtain⟨f0,f1,f2,f3,f4,f5⟩:=hf it (by simp);have hl:=rv.length;exact wpAny_pyNext_tuple_end (I.ok.hd hc) st (show s.heap.IsTuple a its.toArray from p) (by simp;omega) λh' eb=>⟨rfl,I.turned (t':=s.toks) (λb o hb e=>eb b o hb e) f0 f1 f3 f4 f5⟩
 self:=λ_ _ _ _ _ st h=>wpAny_pyIter_tupleiter st h
theorem uO{P:Program}{w:World}{K:Frag}{tg:Expr}(it:Addr)(lo:Int)(n:Nat):Turn P w K tg (L6 lo n) [it] it (λi h=>IsRangeIter h it (lo+(i:Nat)*1) ((n:Int)-(i:Nat)) 1) where
 mem:=by simp
 obj:=λi h st b hb=>by
  have e:b=it:=by simpa using hb
  subst e;exact⟨_,st,λv z=>by
   have z':Data.fields _=Data.cell v:=z;cases z'⟩
 keep:=λi h h' st k=>k it (by simp) _ st
 item:=by intro X hP hw hK hc i pins s σ H E I hf st hg;subst hP hw hK;obtain⟨f0,f1,f2,f3,f4,f5⟩:=hf it (by simp);have W:=Walks.range (prog:=X.prog) (w:=X.w) (I.ok.hd hc) it lo 1 n;refine W.item i s _ _ hg st λv h' tk hv st' kk=>?_;obtain⟨t,rfl⟩:=hv;have I1:Inv X pins σ H { s with heap:=h',toks:=tk }:=I.turned (λb o hb e=>kk b o (by simpa using hb) e) f0 f1 f3 f4 f5;refine⟨_,rfl,zP (s:={ s with heap:=h',toks:=tk }) (n:="range_iterator") st' rfl rfl (by decide) ⟨.int (lo+i),H,I1,⟨t,?_⟩,⟨rfl,rfl⟩,st',λb hb=>(hf b hb).1⟩⟩;rw[Int.mul_one]
 done:=by intro X hP hw hK hc i pins s σ H E I hf st hg;subst hP hw hK;obtain⟨f0,f1,f2,f3,f4,f5⟩:=hf it (by simp);exact wpAny_pyNext_range_end (I.ok.hd hc) st (by have:n<=i:=hg;omega) λh' eb=>⟨rfl,I.turned (t':=s.toks) (λb o hb e=>eb b o hb e) f0 f1 f3 f4 f5⟩
 self:=λ_ _ _ _ _ st h=>wpAny_pyIter_rangeiter st h
section
variable {X:Cx} {tg:Expr}
def L7(K:Frag)(tl:TE):TI:=λσ H R=>tl σ H λx H1=>∃a,x=.ref a/\(∃xs,fQ K H1 a xs)/\R (Pe K a) H1
def P9(K:Frag)(tl:TE):TI:=λσ H R=>tl σ H λx H1=>∃a,x=.ref a/\(∃xs,iy K H1 a xs)/\R (P8 K a) H1
theorem De(hl:PE X l tl):PI X tg l (L7 X.K tl):=by
 intro pins s σ H R I h;refine cu (hl pins s σ H _ I h) λv s1 aJ=>?_;obtain⟨x,H1,I1,r1,q1⟩:=aJ;obtain⟨a,e,⟨xs,hq⟩,q⟩:=q1;subst e;cases r1;obtain⟨its,rv,p,hz⟩:=I1.list hq;refine X0 p.isList ?_;refine⟨s1.heap.objs.size,[s1.heap.objs.size],_,_,H1,rfl,I1.kept (t':=s1.toks) λb o e=>V3 _ e,yi a _,⟨_,Wk _ rfl,rfl,rfl⟩,λb hb=>?_,q⟩;have e:b=s1.heap.objs.size:=by simpa using hb
 subst e;exact I1.Dd (Wb _) (I1.hok.fresh (Wb _))
theorem Hy(hl:PE X l tl):PI X tg l (P9 X.K tl):=by
 intro pins s σ H R I h;refine cu (hl pins s σ H _ I h) λv s1 aJ=>?_;obtain⟨x,H1,I1,r1,q1⟩:=aJ;obtain⟨a,e,⟨xs,hq⟩,q⟩:=q1;subst e;cases r1;obtain⟨its,rv,p,hz⟩:=I1.tuple hq;refine wpAny_pyIter_tuple (show s1.heap.IsTuple a its.toArray from p) ?_;refine⟨s1.heap.objs.size,[s1.heap.objs.size],_,_,H1,rfl,I1.kept (t':=s1.toks) λb o e=>V3 _ e,uN a _,⟨_,Wk _ rfl,rfl,rfl⟩,λb hb=>?_,q⟩;have e:b=s1.heap.objs.size:=by simpa using hb
 subst e;exact I1.Dd (Wb _) (I1.hok.fresh (Wb _))
theorem rS{lo hi:Int}{tk:Nat}(I:Inv X pins σ H s)(h1:-(2 ^ 62)<=lo)(h2:lo<2 ^ 62)(h3:-(2 ^ 62)<=hi)(h4:hi<2 ^ 62)
  (q:R (L6 lo (hi-lo).toNat) H):wpAny (model X.prog X.w) X.A (pyIter (.ref s.heap.objs.size)) (R9 X pins σ tg R) E { s with heap:=s.heap.push { cls:=.type "range",data:=.fields [.int lo t,.int hi u,.int 1 v].toArray },toks:=tk }:=by
 refine wpAny_pyIter_range (IsRange.new ..) (small_one h1 h2 h3 h4) ?_;have I1:Inv X pins σ H { s with heap:=s.heap.push { cls:=.type "range",data:=.fields [.int lo t,.int hi u,.int 1 v].toArray },toks:=tk }:=I.kept λb o e=>V3 _ e;refine⟨(s.heap.push { cls:=.type "range",data:=.fields [.int lo t,.int hi u,.int 1 v].toArray }).objs.size,[(s.heap.push { cls:=.type "range",data:=.fields [.int lo t,.int hi u,.int 1 v].toArray }).objs.size],_,_,H,rfl,
  I1.kept (t':=tk) λb o e=>V3 _ e,uO _ lo (hi-lo).toNat,?_,λb hb=>?_,q⟩
 ·have e1:lo+((0:Nat):Int)*1=lo:=by simp
  have e2:(((hi-lo).toNat:Nat):Int)-((0:Nat):Int)=Builtin.Range.rangeSize lo hi 1:=by rw[rangeSize_one];split<;>omega
  show IsRangeIter _ _ (lo+((0:Nat):Int)*1) ((((hi-lo).toNat:Nat):Int)-((0:Nat):Int)) 1;rw[e1,e2];exact Wk _ rfl
 ·have e:b=(s.heap.push { cls:=.type "range",data:=.fields [.int lo t,.int hi u,.int 1 v].toArray }).objs.size:=by simpa using hb
  subst e;exact I1.Dd (Wb _) (I1.hok.fresh (Wb _))
def L8(ta:TA):TI:=λσ H R=>ta σ H λvs H1=>∃j:Int,vs=[.int j] /\ -(2 ^ 62)<=j/\j<2 ^ 62/\R (L6 0 j.toNat) H1
def Ma(ta:TA):TI:=λσ H R=>ta σ H λvs H1=>∃i j:Int,vs=[.int i,.int j]/\(-(2 ^ 62)<=i/\i<2 ^ 62 /\ -(2 ^ 62)<=j/\j<2 ^ 62)/\R (L6 i (j-i).toNat) H1
theorem yj(hg:Gl X "range")(hm:X.mg "range" = none)(ha:PA X [a] ta)(hs:starEach [a] X.env=[(false,eval a X.env)]):PI X tg (.Call (.Name "range" p) [a] [] pos) (L8 ta):=by
 intro pins s σ H R I h;refine Call_ (iH I hg hm boot_range (WU (cu (ha pos pins s σ H _ I h) λus s1 aJ=>?_) hs rfl));obtain⟨vs,H1,I1,r1,q1⟩:=aJ;obtain⟨j,e,q1,q2,q⟩:=q1;subst e;cases r1 with
 |cons r rr=>cases rr;obtain⟨t,rfl⟩:=r;exact call_range_1 (rS I1 (by omega) (by omega) q1 q2 (by simpa using q))
theorem yk(hg:Gl X "range")(hm:X.mg "range" = none)(ha:PA X [a,b] ta)(hs:starEach [a,b] X.env=[(false,eval a X.env),(false,eval b X.env)])(hs2:starEach [b] X.env=[(false,eval b X.env)]) :
  PI X tg (.Call (.Name "range" p) [a,b] [] pos) (Ma ta):=by
 intro pins s σ H R I h;refine Call_ (iH I hg hm boot_range (WU (cu (ha pos pins s σ H _ I h) λus s1 ⟨vs,H1,I1,r1,q1⟩=>?_) (by rw[hs,hs2]) (by rw[hs2];rfl)));obtain⟨i,j,e,⟨q1,q2,q3,q4⟩,q⟩:=q1;subst e;cases r1 with
 |cons r rr=>
  cases rr with
  |cons r' rr=>cases rr;obtain⟨t,rfl⟩:=r;obtain⟨t',rfl⟩:=r';exact call_range_2 (rS I1 q1 q2 q3 q4 q)
def Qa(wi:TI)(g:TG)(tb:TS):TS:=λD σ H=>wi σ H λJ H1=>∃W:Nat->Nat->St->Hp->Prop,(∃m,W 0 m σ H1)/\∀i m σ H,W i m σ H ->
 (J.stop i H/\D.nx σ H)\/(J.go i H/\∃N:St->Hp->Prop,(∀σ' H',N σ' H'->∃m',m'<m/\W (i+1) m' σ' H')/\∀x H',J.uM i H x H'->g x σ H' λσ2 H2=>tb { D with nx:=N,ct:=N,bk:=D.nx } σ2 H2)
def m5(fp:List Addr)(h:Heap):List (Addr×Obj):=fp.filterMap λb=>(h.get? b).map λo=>(b,o)
theorem gM(hb:b∈fp)(e:h.get? b=some o):(b,o)∈m5 fp h:=List.mem_filterMap.mpr ⟨b,hb,by rw[e];rfl⟩
theorem yl(hp:p∈m5 fp h):p.1∈fp/\h.get? p.1=some p.2:=by
 obtain⟨b,hb,e⟩:=List.mem_filterMap.mp hp;cases q:h.get? b with
 |none=>rw[q]at e;cases e
 |some o=>rw[q]at e;have e':(b,o)=p:=Wr e;subst e';exact⟨hb,q⟩
theorem Inv.pinned(I:Inv X pins σ H s)(hf:∀b∈fp,l9 X pins H b)(ho:∀b∈fp,∃o,s.heap.get? b=some o/\∀v,o.data≠.cell v):Inv X (pins++m5 fp s.heap) σ H s :=
 I.v7 λp hp=>(W7.mp hp).elim (λz=>I.pin p (Wy _ z)) λz=>by
  obtain⟨hb,e⟩:=yl z;obtain⟨f0,f1,f2,_⟩:=hf p.1 hb;obtain⟨o,e',d⟩:=ho p.1 hb;rw[e]at e';cases e';exact⟨e,f0,f1,f2,d⟩
theorem Inv.j4(I:Inv X (pins++pl) σ H s):Inv X pins σ H s:=I.v7 λp hp=>I.pin p (Wy _ (Xl _ hp))
theorem Hz(hp:PassesOwn (model X.prog X.w) X.A X.env X.xe)(hc:X.calm=true)(hi:PI X tg iter wi)(hg:PG X tg g)(hb:oM X body tb)
  (hs:∀x,foldedSetIterable iter X.env x=pure x):PS X (.For tg iter body [] pos) (Qa wi g tb):=by
 intro pins s σ H D I h;refine wpAny_For (cu (hi pins s σ H _ I h) λv s1 h1=>cu h1 λitv s2 h2=>?_) hs;obtain⟨it,fp,tn,J,H2,e,I2,T,st2,f2,W,⟨m0,w0⟩,turn⟩:=h2;subst e;have stat:∀{H':Hp},(∀b∈fp,H' b=none)->∀b∈fp,l9 X pins H' b:=λhn b hb=>⟨hn b hb,(f2 b hb).2⟩;refine codeAny_forLoop_any (λn s'=>∃i σ' H',Inv X pins σ' H' s'/\tn i s'.heap/\(∀b∈fp,H' b=none)/\W i n σ' H') ?_ m0 ⟨0,σ,H2,I2,st2,λb hb=>(f2 b hb).1,w0⟩;rintro n s3 ⟨i,σ3,H3,I3,st3,Sa,w3⟩
 rcases turn i n σ3 H3 w3 with ⟨stop,qn⟩|⟨go,N,hN,step⟩
 ·refine XO hp (cu (T.done X rfl rfl rfl hc i pins s3 σ3 H3 X.xe I3 (stat Sa) st3 stop) λr s4 aJ=>?_);obtain⟨hr,I4⟩:=aJ;subst hr;exact XM ⟨σ3,H3,I4,qn⟩
 ·refine XO hp (cu (T.item X rfl rfl rfl hc i pins s3 σ3 H3 X.xe I3 (stat Sa) st3 go) λr s4 aJ=>?_)
  obtain⟨u,hr,h4⟩:=aJ;subst hr;refine XO hp (cu h4 λ_ s5 aJ=>?_);obtain⟨x,H5,I5,r5,y5,Lw,Pf⟩:=aJ;have TF:=I5.pinned (stat Pf) (T.obj _ _ Lw);refine XO hp (cu (hg _ s5 σ3 H5 x u _ TF r5 (step x H5 y5)) λ_ s6 aJ=>?_);obtain⟨σ6,H6,I6,q6⟩:=aJ;refine XO hp (cu (hb _ s6 σ6 H6 _ I6 q6) λf s7 q7=>?_);have again:∀{σ7:St} {H7:Hp},Inv X (pins++m5 fp s5.heap) σ7 H7 s7->N σ7 H7->∃m,m<n/\∃i σ' H',Inv X pins σ' H' s7/\tn i s7.heap/\(∀b∈fp,H' b=none)/\W i m σ' H':=λ{σ7 H7} I7 n7=>by
   obtain⟨m',hm,w7⟩:=hN σ7 H7 n7;refine⟨m',hm,i+1,σ7,H7,I7.j4,T.keep _ _ _ Lw λb hb o e=>(I7.pin (b,o) (Wy _ (Wy _ (gM hb e)))).1,λb hb=>?_,w7⟩;obtain⟨o,e,d⟩:=T.obj _ _ Lw b hb;exact(I7.pin (b,o) (Wy _ (Wy _ (gM hb e)))).2.1
  cases f with
  |next=>obtain⟨σ7,H7,I7,n7⟩:=q7;exact again I7 n7
  |cont=>obtain⟨σ7,H7,I7,n7⟩:=q7;exact again I7 n7
  |brk=>obtain⟨σ7,H7,I7,q7⟩:=q7;exact⟨σ7,H7,I7.j4,q7⟩
  |ret v=>obtain⟨x7,σ7,H7,I7,r7,q7⟩:=q7;exact⟨x7,σ7,H7,I7.j4,r7,q7⟩
end
abbrev R2:=V->V->Hp->VK->Prop
def kU(X:Cx)(f:Value->Value->Sem Value)(r:R2):Prop :=
 ∀(pins:List (Addr×Obj)) (s:Shared) (σ:St) (H:Hp) (x y:V) (v u:Value) (Q:VK),Inv X pins σ H s->RelV x v->RelV y u->r x y H Q ->
  wpAny (model X.prog X.w) X.A (f v u) (EP X pins σ Q) X.xe s
def Pg(X:Cx)(f:Value->Sem Value)(r:V->Hp->VK->Prop):Prop :=
 ∀(pins:List (Addr×Obj)) (s:Shared) (σ:St) (H:Hp) (x:V) (v:Value) (Q:VK),Inv X pins σ H s->RelV x v->r x H Q ->
  wpAny (model X.prog X.w) X.A (f v) (EP X pins σ Q) X.xe s
def bN(X:Cx)(f:Value)(r:List V->Hp->VK->Prop):Prop :=
 ∀(pins:List (Addr×Obj)) (s:Shared) (σ:St) (H:Hp) (xs:List V) (us:List Value) (Q:VK),Inv X pins σ H s->Vals xs us->r xs H Q ->
  wpAny (model X.prog X.w) X.A (call f us) (EP X pins σ Q) X.xe s
def Qc(X:Cx)(r:V->Hp->(Bool->Hp->Prop)->Prop):Prop :=
 ∀(pins:List (Addr×Obj)) (s:Shared) (σ:St) (H:Hp) (x:V) (v:Value) (Q:Bool->Hp->Prop),Inv X pins σ H s->RelV x v->r x H Q ->
  wpAny (model X.prog X.w) X.A (truthy v) (TP X pins σ Q) X.xe s
def Ph(r:R2)(ta tb:TE):TE:=λσ H Q=>ta σ H λx H1=>tb σ H1 λy H2=>r x y H2 Q
def TH(r:V->Hp->VK->Prop)(ta:TE):TE:=λσ H Q=>ta σ H λx H1=>r x H1 Q
def rI(C:Int->Int->Prop)(g:Int->Int->V):R2:=λx y H Q=>∃i j,x=.int i/\y=.int j/\C i j/\Q (g i j) H
def FY(g:Int->Int->V):R2:=λx y H Q=>∃i j,x=.int i/\y=.int j/\Q (g i j) H
def rU(g:Int->V):V->Hp->VK->Prop:=λx H Q=>∃i,x=.int i/\Q (g i) H
section
variable {X:Cx} {a b c:Expr} {ta tb tc:TE} {pos:Pos}
theorem HD(ha:PE X a ta)(hb:PE X b tb){pins:List (Addr×Obj)}{s:Shared}{σ:St}{H:Hp}{R:V->V->Hp->Prop}(I:Inv X pins σ H s)
  (h:ta σ H λx H1=>tb σ H1 λy H2=>R x y H2) {Q:Value->Shared->Prop} {f:Value->Value->Sem Value}
  (hf:∀v u s2 x y H2,Inv X pins σ H2 s2->RelV x v->RelV y u->R x y H2->wpAny (model X.prog X.w) X.A (f v u) Q X.xe s2) :
  wpAny (model X.prog X.w) X.A (eval a X.env) (λv s₁=>wpAny (model X.prog X.w) X.A (eval b X.env) (λu s₂=>wpAny (model X.prog X.w) X.A (f v u) Q X.xe s₂) X.xe s₁) X.xe s:=by
 refine cu (ha pins s σ H _ I h) λv s1 aJ=>?_;obtain⟨x,H1,I1,r1,q1⟩:=aJ;refine cu (hb pins s1 σ H1 _ I1 q1) λu s2 aJ=>?_;obtain⟨y,H2,I2,r2,q2⟩:=aJ;exact hf v u s2 x y H2 I2 r1 r2 q2
theorem Mb(ho:kU X (binaryOp op) r)(ha:PE X a ta)(hb:PE X b tb):PE X (.BinOp a op b pos) (Ph r ta tb):=by
 intro pins s σ H Q I h;exact wpAny_BinOp (HD ha hb I h λv u s2 x y H2 I2 rx ry q=>ho pins s2 σ H2 x y v u Q I2 rx ry q)
theorem Mc(ho:Pg X (unaryOp op) r)(ha:PE X a ta):PE X (.UnaryOp op a pos) (TH r ta):=by
 intro pins s σ H Q I h;exact UnaryOp_ (cu (ha pins s σ H _ I h) λv s1 ⟨x,H1,I1,r1,q1⟩=>ho pins s1 σ H1 x v Q I1 r1 q1)
theorem Pj{f:Value->Value->Sem Value}{C:Int->Int->Prop}{g:Int->Int->Int}
  (rule:∀(i j:Int) (t u:Tok) (s:Shared) (Q:Value->Shared->Prop) (E:Value->Shared->Prop),C i j->Q (.int (g i j) s.toks) { s with toks:=s.toks+1 }->wpAny (model X.prog X.w) X.A (f (.int i t) (.int j u)) Q E s) :
  kU X f (rI C λi j=>.int (g i j)):=by
 intro pins s σ H x y v u Q I rx ry h;obtain⟨i,j,rfl,rfl,hc,q⟩:=h;obtain⟨t,rfl⟩:=rx;obtain⟨t',rfl⟩:=ry;exact rule i j t t' s _ _ hc ⟨.int (g i j),H,I.tok _,⟨_,rfl⟩,q⟩
theorem Mf{f:Value->Value->Sem Value}{g:Int->Int->Int}
  (rule:∀(i j:Int) (t u:Tok) (s:Shared) (Q:Value->Shared->Prop) (E:Value->Shared->Prop),Q (.int (g i j) s.toks) { s with toks:=s.toks+1 }->wpAny (model X.prog X.w) X.A (f (.int i t) (.int j u)) Q E s) :
  kU X f (FY λi j=>.int (g i j)):=by
 intro pins s σ H x y v u Q I rx ry h;obtain⟨i,j,rfl,rfl,q⟩:=h;obtain⟨t,rfl⟩:=rx;obtain⟨t',rfl⟩:=ry;exact rule i j t t' s _ _ ⟨.int (g i j),H,I.tok _,⟨_,rfl⟩,q⟩
theorem Df{f:Value->Value->Sem Value}{g:Int->Int->Bool}
  (rule:∀(i j:Int) (t u:Tok) (s:Shared) (Q:Value->Shared->Prop) (E:Value->Shared->Prop),Q (.bool (g i j)) s->wpAny (model X.prog X.w) X.A (f (.int i t) (.int j u)) Q E s) :
  kU X f (FY λi j=>.bl (g i j)):=by
 intro pins s σ H x y v u Q I rx ry h;obtain⟨i,j,rfl,rfl,q⟩:=h;obtain⟨t,rfl⟩:=rx;obtain⟨t',rfl⟩:=ry;exact rule i j t t' s _ _ ⟨.bl (g i j),H,I,rfl,q⟩
def Qd(i j:Int):Prop:=0<=j/\j<=1000000/\i.natAbs<2 ^ 64
def HE(i j:Int):Prop:=(-(2 ^ 64)<i/\i<2 ^ 64)\/(-(2 ^ 64)<j/\j<2 ^ 64)
theorem HE.ok{i j:Int}(h:HE i j):IntMulOk i j:=by
 rcases h with ⟨h1,h2⟩|⟨h1,h2⟩
 ·exact .of_left (intBits_le_64 h1 h2)
 ·exact .of_right (intBits_le_64 h1 h2)
theorem HF:kU X (binaryOp .Add) (FY λi j=>.int (i+j)):=Mf λ_ _ _ _ _ _ _ q=>add_int q
theorem HG:kU X (binaryOp .Sub) (FY λi j=>.int (i-j)):=Mf λ_ _ _ _ _ _ _ q=>sub_int q
theorem HH:kU X (binaryOp .Mult) (rI HE λi j=>.int (i*j)):=Pj λ_ _ _ _ _ _ _ hc q=>mul_int q hc.ok
theorem HJ:kU X (binaryOp .Mod) (rI (λ_ j=>0<j) λi j=>.int (i%j)):=Pj λi j _ _ _ _ _ hc q=>by
 have h1:(0:Int)<j:=hc;exact mod_int' (by omega) (by rw[Int.fmod_eq_emod_of_nonneg i (by omega)];exact q)
theorem HK:kU X (binaryOp .Pow) (rI Qd λi j=>.int (i ^ j.toNat)):=Pj λ_ _ _ _ _ _ _ hc q=>pow_int_small hc.1 hc.2.1 hc.2.2 q
theorem TJ{f:Value->Sem Value}{g:Int->Int}
  (rule:∀(i:Int) (t:Tok) (s:Shared) (Q:Value->Shared->Prop) (E:Value->Shared->Prop),Q (.int (g i) s.toks) { s with toks:=s.toks+1 }->wpAny (model X.prog X.w) X.A (f (.int i t)) Q E s) :
  Pg X f (rU λi=>.int (g i)):=by
 intro pins s σ H x v Q I rx h;obtain⟨i,rfl,q⟩:=h;obtain⟨t,rfl⟩:=rx;exact rule i t s _ _ ⟨.int (g i),H,I.tok _,⟨_,rfl⟩,q⟩
theorem zQ:Pg X (unaryOp .USub) (rU λi=>.int (-i)):=TJ λ_ _ _ _ _ q=>neg_int q
end
section
variable {X:Cx} {a b c:Expr} {ta tb tc:TE} {pos:Pos}
theorem qD{k k':Bool}(I:Inv X pins σ H s)(q:Q (.bl k) H)(e:k=k'):EP X pins σ Q (.bool k') s:=by
 subst e;exact⟨.bl k,H,I,rfl,q⟩
theorem Mg:kU X (compareOp .Lt) (FY λi j=>.bl (decide (i<j))):=Df λ_ _ _ _ _ _ _ q=>lt_int q
theorem Mh:kU X (compareOp .LtE) (FY λi j=>.bl (decide (i<=j))):=Df λ_ _ _ _ _ _ _ q=>le_int q
theorem Mi:kU X (compareOp .Gt) (FY λi j=>.bl (decide (j<i))):=Df λ_ _ _ _ _ _ _ q=>gt_int q
theorem Mj:kU X (compareOp .GtE) (FY λi j=>.bl (decide (j<=i))):=Df λ_ _ _ _ _ _ _ q=>ge_int q
theorem HL:kU X (compareOp .Is) (λx y H Q=>y=.non/\Q (.bl (decide (x=.non))) H):=by
 intro pins s σ H x y v u Q I rx ry h;obtain⟨rfl,q⟩:=h;cases ry;refine is_none_gen (qD I q ?_);cases x<;>first
  |(cases rx;rfl)
  |(obtain⟨t,rfl⟩:=rx;rfl)
theorem Dg:kU X (compareOp .IsNot) (λx y H Q=>y=.non/\Q (.bl (!decide (x=.non))) H):=by
 intro pins s σ H x y v u Q I rx ry h;obtain⟨rfl,q⟩:=h;cases ry;refine isnot_none_gen (qD I q ?_);cases x<;>first
  |(cases rx;rfl)
  |(obtain⟨t,rfl⟩:=rx;rfl)
theorem Dh(ho:kU X (compareOp op) r)(ha:PE X a ta)(hb:PE X b tb)(hm:behindInMarks op b=false):PE X (.Compare a [op] [b] pos) (Ph r ta tb):=by
 intro pins s σ H Q I h;exact wpAny_Compare1 (HD ha hb I h λv u s2 x y H2 I2 rx ry q=>ho pins s2 σ H2 x y v u Q I2 rx ry q) hm
def Ml(t:TE):TT:=λσ H Q=>t σ H λx H'=>∃k,x=.bl k/\Q k H'
theorem Di(ho:kU X (compareOp op) r)(ha:PE X a ta)(hb:PE X b tb)(hm:behindInMarks op b=false):PT X (.Compare a [op] [b] pos) (Ml (Ph r ta tb)):=by
 intro pins s σ H Q I h;refine wpAny_isTrue_Compare1 (cu (ha pins s σ H _ I h) λv s1 ⟨x,H1,I1,r1,q1⟩=>cu (hb pins s1 σ H1 _ I1 q1) λu s2 ⟨y,H2,I2,r2,q2⟩=>
  cu (ho pins s2 σ H2 x y v u _ I2 r1 r2 q2) λc s3 ⟨z,H3,I3,r3,k,e,q3⟩=>?_) hm
 subst e;cases r3;exact Xm ⟨H3,I3,q3⟩
def HM(K:Frag)(x:V)(H:Hp)(k:Bool):Prop :=
 match x with
 |.non=>k=false
 |.bl b=>k=b
 |.int i=>k=(i != 0)
 |.str y=>y.length<=sizeLine/\k=((y.length:Int) != 0)
 |.byt y=>y.size<=sizeLine/\k=((y.size:Int) != 0)
 |.ref p=>(∃xs,fQ K H p xs/\k = !xs.isEmpty)\/(∃xs,iy K H p xs/\k = !xs.isEmpty)\/∃kvs,H p=some (.dK kvs)/\k = !kvs.isEmpty
 |_=>False
theorem uP{κ:Type}{kvs:List (κ × V)}{vs:List (κ × Value)}(r:KV kvs vs):(!vs.isEmpty) = !kvs.isEmpty:=by
 cases r<;>rfl
theorem m6(r:Vals xs its):(!its.toArray.isEmpty) = !xs.isEmpty:=by
 cases r<;>simp
theorem kY:(sizeLine:Nat)<2 ^ 63:=by rw[W0];decide
theorem HN:Qc X (λx H Q=>∃k,HM X.K x H k/\Q k H):=by
 intro pins s σ H x v Q I rx h;obtain⟨k,e,q⟩:=h;have hl:=kY;have hs:sizeLine=16777216:=W0;cases x with
 |non=>cases rx;have e':k=false:=e;subst e';exact truthy_none ⟨H,I,q⟩
 |bl b=>cases rx;have e':k=b:=e;subst e';exact Xm ⟨H,I,q⟩
 |int i=>obtain⟨t,rfl⟩:=rx;have e':k=(i != 0):=e;subst e';exact PySem.P.truthy_int ⟨H,I,q⟩
 |str y=>obtain⟨t,rfl⟩:=rx;obtain⟨hy,e'⟩:y.length<=sizeLine/\k=((y.length:Int) != 0):=e;subst e';exact PySem.P.truthy_str (by omega) ⟨H,I.tok _,q⟩
 |byt y=>obtain⟨t,rfl⟩:=rx;obtain⟨hy,e'⟩:y.size<=sizeLine/\k=((y.size:Int) != 0):=e;subst e';exact PySem.W.truthy_bytes (by omega) ⟨H,I.tok _,q⟩
 |ref p=>
  cases rx;have e':(∃xs,fQ X.K H p xs/\k = !xs.isEmpty)\/(∃xs,iy X.K H p xs/\k = !xs.isEmpty)\/∃kvs,H p=some (.dK kvs)/\k = !kvs.isEmpty:=e
  rcases e' with ⟨xs,hx,e'⟩|⟨xs,hx,e'⟩|⟨kvs,hx,e'⟩
  ·subst e';obtain⟨its,r,pl,hz⟩:=I.list hx;have hlen:=r.length;exact wpAny_truthy_list pl.isList (by simp only[size_toArray];omega) ⟨H,I.tok _,by rw[m6 r];exact q⟩
  ·subst e';obtain⟨its,r,pl,hz⟩:=I.tuple hx;have hlen:=r.length;exact truthy_tuple pl (by simp only[size_toArray];omega) ⟨H,I.tok _,by rw[m6 r];exact q⟩
  ·subst e';obtain⟨hz,hS,vs,r,m⟩:kvs.length<=sizeLine/\(p==sysModules)=false/\∃vs,KV kvs vs/\s.heap.DictOf (bB X.prog X.w) p vs:=I.hok p _ hx;have hlen:kvs.length=vs.length:=YD r;exact wpAny_truthy_dict hS m (by omega) ⟨H,I.tok _,by rw[uP r];exact q⟩
 |_=>exact(show False from e).elim
theorem zR(ha:PE X a ta)(he:∀whole,isTrue a X.env whole=(do let v <-whole;standAt a.pos;holding [v] (truthy v))) :
  PT X a (λσ H Q=>ta σ H λx H'=>∃k,HM X.K x H' k/\Q k H'):=by
 intro pins s σ H Q I h;exact isTrue_plain (cu (ha pins s σ H _ I h) λv s1 ⟨x,H1,I1,r1,q1⟩=>HN pins s1 σ H1 x v Q I1 r1 q1) (he _)
theorem uQ:kU X (binaryOp .Add) (λx y H Q=>∃i j,x=.str i/\y=.str j/\i.length+j.length<=sizeLine/\Q (.str (i++j)) H):=by
 intro pins s σ H x y v u Q I rx ry h;obtain⟨i,j,rfl,rfl,hz,q⟩:=h;obtain⟨t,rfl⟩:=rx;obtain⟨t',rfl⟩:=ry;exact add_str (λt' tk=>⟨.str (i++j),H,I.tok _,⟨_,rfl⟩,q⟩) hz
theorem vals1(r:Vals [x] us):∃u,us=[u]/\RelV x u:=by
 cases r with
 |cons r1 r2=>cases r2;exact⟨_,rfl,r1⟩
theorem vals2(r:Vals [x,y] us):∃u w',us=[u,w']/\RelV x u/\RelV y w':=by
 cases r with
 |cons r1 r2=>
  cases r2 with
  |cons r3 r4=>cases r4;exact⟨_,_,rfl,r1,r3⟩
theorem ym(hc:X.calm=true):bN X (.builtin "max") (λxs H Q=>∃i j,xs=[.int i,.int j]/\Q (.int (if j>i then j else i)) H):=by
 intro pins s σ H xs us Q I r h;obtain⟨i,j,rfl,q⟩:=h;obtain⟨u,w',rfl,⟨t,rfl⟩,⟨t',rfl⟩⟩:=vals2 r;refine max_two_ints (I.ok.hd hc) λh' tk k=>⟨_,H,I.kept k,?_,q⟩
 by_cases hj:j>i
 ·rw[Wg hj,Wg hj];exact⟨_,rfl⟩
 ·rw[We hj,We hj];exact⟨_,rfl⟩
theorem yo(hc:X.calm=true):bN X (.builtin "min") (λxs H Q=>∃i j,xs=[.int i,.int j]/\Q (.int (if j<i then j else i)) H):=by
 intro pins s σ H xs us Q I r h;obtain⟨i,j,rfl,q⟩:=h;obtain⟨u,w',rfl,⟨t,rfl⟩,⟨t',rfl⟩⟩:=vals2 r;refine min_two_ints (I.ok.hd hc) λh' tk k=>⟨_,H,I.kept k,?_,q⟩
 by_cases hj:j<i
 ·rw[Wg hj,Wg hj];exact⟨_,rfl⟩
 ·rw[We hj,We hj];exact⟨_,rfl⟩
theorem pD:bN X (.type "int") (λxs H Q=>(∃i,xs=[.int i]/\Q (.int i) H)\/∃k,xs=[.bl k]/\Q (.int (if k then 1 else 0)) H):=by
 intro pins s σ H xs us Q I r h
 rcases h with ⟨i,rfl,q⟩|⟨k,rfl,q⟩
 ·obtain⟨u,rfl,t,rfl⟩:=vals1 r;exact call_int_int ⟨.int i,H,I,⟨_,rfl⟩,q⟩
 ·obtain⟨u,rfl,r1⟩:=vals1 r;cases r1;exact call_int_bool ⟨.int (if k then 1 else 0),H,I.tok _,⟨_,rfl⟩,q⟩
def Qe(K:Frag)(x:V)(H:Hp)(n:Nat):Prop :=
 match x with
 |.str y=>y.length<=sizeLine/\n=y.length
 |.byt y=>y.size<=sizeLine/\n=y.size
 |.ref p=>(∃xs,fQ K H p xs/\n=xs.length)\/∃xs,iy K H p xs/\n=xs.length
 |_=>False
theorem j5:bN X (.builtin "len") (λxs H Q=>∃x n,xs=[x]/\Qe X.K x H n/\Q (.int n) H):=by
 intro pins s σ H xs us Q I r h;obtain⟨x,n,rfl,e,q⟩:=h;obtain⟨u,rfl,rx⟩:=vals1 r;have hl:=kY;have hs:sizeLine=16777216:=W0;cases x with
 |str y=>obtain⟨t,rfl⟩:=rx;obtain⟨hy,e'⟩:y.length<=sizeLine/\n=y.length:=e;subst e';exact len_str (by omega) ⟨.int _,H,I.tok _,⟨_,rfl⟩,q⟩
 |byt y=>obtain⟨t,rfl⟩:=rx;obtain⟨hy,e'⟩:y.size<=sizeLine/\n=y.size:=e;subst e';exact PySem.W.len_bytes (by omega) ⟨.int _,H,I.tok _,⟨_,rfl⟩,q⟩
 |ref p=>
  cases rx;have e':(∃xs,fQ X.K H p xs/\n=xs.length)\/∃xs,iy X.K H p xs/\n=xs.length:=e
  rcases e' with ⟨xs,hx,e'⟩|⟨xs,hx,e'⟩
  ·subst e';obtain⟨its,r',pl,hz⟩:=I.list hx;have hlen:=r'.length;exact Calls.call_len_list pl.isList (by simp only[size_toArray];omega) ⟨.int xs.length,H,I.tok _,⟨_,by simp only[size_toArray];rw[hlen]⟩,q⟩
  ·subst e';obtain⟨its,r',pl,hz⟩:=I.tuple hx;have hlen:=r'.length;exact len_tuple pl (by simp only[size_toArray];omega) ⟨.int xs.length,H,I.tok _,⟨_,by simp only[size_toArray];rw[hlen]⟩,q⟩
 |_=>exact(show False from e).elim
end
theorem yq{h:Heap}{dx:Addr}{mA:Str->Option Value}(n:h.Ns1 dx mA):∃od,h.get? dx=some od/\∀name,lookIn name od=some (mA name):=by
 obtain⟨o,es,ep,ho,hd,hk,_,hm⟩:=n;refine⟨o,ho,λname=>?_⟩;have e:=hm name;unfold nsFind findBy at e;rw[<-Array.find?_toList]at e;unfold lookIn;rw[hd];dsimp only
 split
 ·rename_i y q;rw[q]at e;exact Xb some e
 ·rename_i q
  rw[q]at e;have a:es.toList.any (·.refKey)=false:=by rw[List.any_eq_false];intro y hy;obtain⟨z,t,hkey⟩:=hk y (Array.mem_toList_iff.mp hy);simp[DictEntry.refKey,hkey]
  have a':¬ es.toList.any (·.refKey)=true:=by rw[a];exact V1
  rw[We a'];exact Xb some e
theorem jZ.some_of(r:jZ (some v) o):∃u,o=some u/\RelV v u:=by
 cases o with
 |none=>exact(show False from r).elim
 |some u=>exact⟨u,rfl,r⟩
theorem yr(r:RelV v u):handedIn u=true:=by
 cases v with
 |non=>cases (show u=Value.none from r);rfl
 |bl b=>cases (show u=Value.bool b from r);rfl
 |int i=>obtain⟨t,e⟩:=(show ∃t,u=Value.int i t from r);cases e;rfl
 |str x=>obtain⟨t,e⟩:=(show ∃t,u=Value.str x t from r);cases e;rfl
 |byt b=>obtain⟨t,e⟩:=(show ∃t,u=Value.bytes b t from r);cases e;rfl
 |flt b=>obtain⟨t,e⟩:=(show ∃t,u=Value.float b t from r);cases e;rfl
 |ref a=>cases (show u=Value.ref a from r);rfl
 |ty n=>cases (show u=Value.type n from r);rfl
structure Sb (K:Frag) (C:Addr):Prop where
 pg:PySem.W.plainGet K C Str.empty=true
 hd:hasDictIn K C=true
 po:PySem.W.plainOver K C=true
 sa:findIn K (.ref C) "__setattr__" = some (some (.builtin "object.__setattr__"))
def zS(K:Frag)(C:Addr)(f:Str):Prop:=findIn K (.ref C) f=some none
structure Meth (K:Frag) (C:Addr) (m:Str) (f:Addr):Prop where
 at_:findIn K (.ref C) m=some (some (.ref f))
 fn:isFn K (.ref f)=true
 kp:keepIn K (.ref f)=true
section
variable {X:Cx} {pins:List (Addr×Obj)} {σ:St} {H:Hp} {s:Shared} {a C dx:Addr} {fs:List (Str×V)} {f:Str} {v:V} {A:Around} {E:Value->Shared->Prop}
theorem attr_of(hb:attributeBase e f env (eval e env)=eval e env)
  (h:wpAny (model prog w) A (eval e env) (λo s₁=>wpAny (model prog w) A (getAttr o f true) Q E s₁) E s):wpAny (model prog w) A (eval (.Attribute e f pos) env) Q E s :=
 Attribute_any_ h (by rw[arm_eval_Attribute,hb])
end
structure cY (k:Nat) (A:Around):Prop where
 hd:A.handled=none
 dp:A.depth+3*k+5<recursionLimit
 un:A.units+16*k+200<cLine
theorem cY.mono{j k:Nat}(r:cY k A)(h:j<=k):cY j A:=⟨r.hd,by have:=r.dp;omega,by have:=r.un;omega⟩
theorem cY.deeper{k:Nat}(r:cY (k+1) A)(env:Env):cY k (A.deeper env) :=
 ⟨r.hd,by have:=r.dp;show A.depth+1+3*k+5<_;omega,by have:=r.un;show A.units+3+16*k+200<_;omega⟩
theorem uR{A:Around}{C:Addr}{us:List Value}{kw:List (Str×Value)}:(A.under (.builtin "type.__call__" ⟨.ref C::us,kw⟩)).depth=A.depth+1:=by
 first|rfl|simp[Around.under,Code.weight,Code.isCreation,Code.isGuard,Code.isCaller,Code.frames,Code.isFrame,guardIds]
theorem uS{A:Around}{C:Addr}{us:List Value}{kw:List (Str×Value)}:(A.under (.builtin "type.__call__" ⟨.ref C::us,kw⟩)).units=A.units+1:=by
 first|rfl|simp[Around.under,Code.cUnits,Code.frames,Code.isFrame]
theorem cY.make{k:Nat}(r:cY (k+1) A)(C:Addr)(us:List Value)(kw:List (Str×Value)):cY k (A.under (.builtin "type.__call__" ⟨.ref C::us,kw⟩)) :=
 ⟨r.hd,by have:=r.dp;rw[uR];omega,by have:=r.un;rw[uS];omega⟩
theorem cY.depth{k:Nat}(r:cY k A):A.depth<recursionLimit:=by have:=r.dp;omega
theorem cY.units{k:Nat}(r:cY k A):A.units+64<cLine:=by have:=r.un;omega
def Mm:TA:=λ_ H Q=>Q [] H
def Mn(ta:TE)(tr:TA):TA:=λσ H Q=>ta σ H λx H1=>tr σ H1 λxs H2=>Q (x::xs) H2
section
variable {X:Cx} {e:Expr} {es:List Expr} {te:TE} {t:TA} {pos:Pos}
theorem jN:PA X [] Mm:=λ_ _ _ _ H Q I h=>X6 ⟨[],H,I,.nil,h⟩
theorem bI(ha:PE X e te)(hr:PA X es t)(hs:starEach (e::es) X.env=(false,eval e X.env)::starEach es X.env:=by rfl):PA X (e::es) (Mn te t):=by
 intro pos pins s σ H Q I h;rw[hs];show wpAny _ _ (spliced ((false,eval e X.env)::backTo pos (starEach es X.env))) _ _ s;refine Xu (cu (ha pins s σ H _ I h) λu s1 aJ=>?_);obtain⟨x,H1,I1,r1,q1⟩:=aJ;exact cu (hr pos pins s1 σ H1 _ I1 q1) λus s2 ⟨xs,H2,I2,r2,q2⟩=>⟨x::xs,H2,I2,.cons r1 r2,q2⟩
def Qf(t:TA):TE:=λσ H Q=>t σ H λxs H1=>xs.length<=sizeLine/\∀p,H1 p=none->Q (.ref p) (upd H1 p (.tup xs))
def Qg(t:TA):TE:=λσ H Q=>t σ H λxs H1=>xs.length<=sizeLine/\∀p,H1 p=none->Q (.ref p) (upd H1 p (.lst xs))
theorem zT{x1}(h:PA X es t):PE X (.Tuple es x1 pos) (Qf t):=by
 intro pins s σ H Q I hq;refine wpAny_Tuple_spliced (cu (h pos pins s σ H _ I hq) λus s1 ⟨xs,H1,I1,r,z,q⟩=>⟨by rw[<-r.length];exact z,?_⟩);have hf:H1 s1.heap.objs.size=none:=I1.hok.fresh (Wb _);refine⟨.ref s1.heap.objs.size,upd H1 s1.heap.objs.size (.tup xs),I1.laid (t':=s1.toks) (λb u e=>V3 _ e) (Wb _) ?_,rfl,q _ hf⟩;exact⟨z,us,r,⟨_,Wk _ rfl,rfl,_,rfl⟩⟩
theorem HP(h:PA X es t):PE X (.List es pos) (Qg t):=by
 intro pins s σ H Q I hq;refine wpAny_List_spliced (cu (h pos pins s σ H _ I hq) λus s1 ⟨xs,H1,I1,r,z,q⟩=>⟨by rw[<-r.length];exact z,?_⟩);have hf:H1 s1.heap.objs.size=none:=I1.hok.fresh (Wb _);refine⟨.ref s1.heap.objs.size,upd H1 s1.heap.objs.size (.lst xs),I1.laid (t':=s1.toks) (λb u e=>V3 _ e) (Wb _) ?_,rfl,q _ hf⟩;exact⟨z,us,0,r,Wk _ rfl⟩
end
abbrev Sp:=List V->Hp->VK->XK->Prop
abbrev uT:=List Env->Hp->Shared->XK->Value->Shared->Prop
structure uU (P:Program) (w:World) (K:Frag) (mg:Str->Option Value) (base:Heap) (A:Around) (outer:List Env) (s:Shared) (H:Hp):Prop where
 frames:A.frames=some outer
 mod:Mod K mg base
 bs:∀b o,base.get? b=some o->s.heap.get? b=some o/\H b=none
 C0:base.objs.size<=s.heap.objs.size
 kX:s.heap.FunFrames base outer
 FQ:∀b∈frs outer,H b=none
 hok:iw P w H s.heap
 bare:AllBare s.gens
def CE(outer:List Env)(P:Program)(w:World)(H:Hp)(s:Shared)(Q:VK)(u:Value)(s':Shared):Prop :=
 ∃v H',s'.os=s.os/\AllBare s'.gens/\Un (frs outer) [] H H' s.heap s'.heap/\iw P w H' s'.heap/\RelV v u/\Q v H'
def CR(CX:uT)(outer:List Env)(P:Program)(w:World)(H:Hp)(s:Shared)(Q:VK)(E:XK)(r:Result)(s':Shared):Prop :=
 match r with
 |.ok (.ret u)=>CE outer P w H s Q u s'
 |.ok _=>False
 |.error e=>CX outer H s E e s'
structure dJ (P:Program) (w:World) (K:Frag) (mg:Str->Option Value) (base:Heap) (CX:uT) (k:Nat) (f:Addr) (fd:FuncData) (ps:List Str) (sp:Sp):Prop where
 len:∀vs H Q E,sp vs H Q E->vs.length=ps.length
 run:∀(A:Around) (outer:List Env) (s:Shared) (H:Hp) (args:Args) (us:List Value) (vs:List V) (Q:VK) (E:XK),cY k A->uU P w K mg base A outer s H->BindsTo s fd args (ps.zip us)->Vals vs us->sp vs H Q E ->
  codeAny (model P w) A (.call (.ref f) args) (CR CX outer P w H s Q E) s
theorem dJ.mono{P:Program}{w:World}{K:Frag}{mg:Str->Option Value}{base:Heap}{CX:uT}{j k:Nat}{f:Addr}{fd:FuncData}{ps:List Str}{sp:Sp}(F:dJ P w K mg base CX j f fd ps sp)(h:j<=k) :
  dJ P w K mg base CX k f fd ps sp:=⟨F.len,λA outer s H args us vs Q E hr=>F.run A outer s H args us vs Q E (hr.mono h)⟩
theorem dJ.imp{P:Program}{w:World}{K:Frag}{mg:Str->Option Value}{base:Heap}{CX:uT}{k:Nat}{f:Addr}{fd:FuncData}{ps:List Str}{sp Sd:Sp}(F:dJ P w K mg base CX k f fd ps sp)
  (h:∀vs H Q E,Sd vs H Q E->sp vs H Q E):dJ P w K mg base CX k f fd ps Sd :=
 ⟨λvs H Q E q=>F.len vs H Q E (h _ _ _ _ q),λA outer s H args us vs Q E hr he hb hv hs=>F.run A outer s H args us vs Q E hr he hb hv (h _ _ _ _ hs)⟩
theorem uU.make{P:Program}{w:World}{K:Frag}{mg:Str->Option Value}{base:Heap}{A:Around}{outer:List Env}{s:Shared}{H:Hp}(e:uU P w K mg base A outer s H)(C:Addr)(us:List Value)(kw:List (Str×Value)) :
  uU P w K mg base (A.under (.builtin "type.__call__" ⟨.ref C::us,kw⟩)) outer s H:=⟨by first|exact e.frames|(simpa [Around.under,Code.envs,Code.isFrame,pushEnvs] using e.frames),e.mod,e.bs,e.C0,e.kX,e.FQ,e.hok,e.bare⟩
section
variable {X:Cx} {pins:List (Addr×Obj)} {σ:St} {H:Hp} {s s':Shared}
theorem Inv.m7(I:Inv X pins σ H s):uU X.prog X.w X.K X.mg X.base X.A X.stack s H :=
 ⟨I.ok.frames,I.ok.mod,I.bs,Wx I.ok.C0 I.sz,I.stack,I.j3,I.hok,I.bare⟩
theorem Inv.after(I:Inv X pins σ H s)(h:CE X.stack X.prog X.w H s Q u s'):EP X pins σ Q u s':=by
 obtain⟨v,H',os,bare,un,hok,r,q⟩:=h;obtain⟨hh,g,d,t,os'⟩:=s';obtain rfl:os'=s.os:=os;exact⟨v,H',I.call (h':=hh) (g':=g) (d':=d) (t':=t) (ch:=[]) un hok bare (λb z=>absurd z (by simp)),r,q⟩
end
def FZ(sp:Sp)(CP:List V)(E:XK)(t:TA):TE:=λσ H Q=>t σ H λvs H1=>sp (vs++CP) H1 Q E
def Binds(K:Frag)(fd:FuncData)(ps:List Str)(ds:List Value):Prop :=
 ∀(s:Shared) (us:List Value),K.In s.heap->(us++ds).length=ps.length->BindsTo s fd ⟨us,[]⟩ (ps.zip (us++ds))
theorem Binds.all{K:Frag}{fd:FuncData}{ps:List Str}(h:∀us:List Value,us.length=ps.length->bindArgs fd ⟨us,[]⟩=pure (ps.zip us)):Binds K fd ps []:=λs us _ hl=>by
 rw[W8]at hl |-;exact .of_eq (h us hl)
def Passes(CX:uT)(X:Cx)(E:XK):Prop:=∀(pins:List (Addr×Obj)) (σ:St) (H:Hp) (s:Shared) (e:Value) (s':Shared),Inv X pins σ H s->CX X.stack H s E e s'->X.xe e s'
section
variable {X:Cx} {CX:uT} {k:Nat} {f C:Addr} {fd:FuncData} {ps:List Str} {sp:Sp} {CP:List V} {ds:List Value} {E:XK} {x m:Str} {p pos apos:Pos} {e o:Expr} {es:List Expr} {ta:TE} {t:TA}
theorem zU(F:dJ X.prog X.w X.K X.mg X.base CX k f fd ps sp)(hr:cY k X.A)(hb:Binds X.K fd ps ds)(hd:Vals CP ds)(hx:Passes CX X E)
  (I:Inv X pins σ H s) (r:Vals vs us) (h:sp (vs++CP) H Q E):wpAny (model X.prog X.w) X.A (call (.ref f) us) (EP X pins σ Q) X.xe s:=by
 have r2:Vals (vs++CP) (us++ds):=r.append hd;have hl:(us++ds).length=ps.length:=by rw[<-r2.length];exact F.len _ _ _ _ h
 refine Yg (Xv (F.run X.A X.stack s H ⟨us,[]⟩ (us++ds) (vs++CP) Q E hr I.m7 (hb s us I.kT hl) r2 h) λr s' hq=>?_);cases r with
 |error e=>exact hx pins σ H s e s' I hq
 |ok fl=>
  cases fl with
  |ret u=>exact I.after hq
  |next=>exact False.elim hq
  |brk=>exact False.elim hq
  |cont=>exact False.elim hq
theorem Dj(F:dJ X.prog X.w X.K X.mg X.base CX k f fd ps sp)(hr:cY k X.A)(hg:Gl X x)(hm:X.mg x=some (.ref f))(hk:keepIn X.K (.ref f)=true)(hb:Binds X.K fd ps ds)(hd:Vals CP ds)(hx:Passes CX X E)
  (ha:PA X (e::es) t) (hdb:(x==("__debug__":Str))=false) (he:starEach (e::es) X.env=(false,eval e X.env)::starEach es X.env) (hpl:(backTo pos (starEach es X.env)).any (·.1)=false) :
  PE X (.Call (.Name x p) (e::es) [] pos) (FZ sp CP E t):=by
 intro pins s σ H Q I h;refine WN (ji I hg hm ?_ hdb);refine Yu (h₀:=X.base) I.ok.mod.LL hk (cu (ha pos pins s σ H _ I h) λus s1 ⟨vs,H1,I1,r,q⟩=>⟨I1.kT,?_⟩) he hpl;exact zU F hr hb hd hx I1 r q
theorem zV(F:dJ X.prog X.w X.K X.mg X.base CX k f fd ps sp)(hr:cY k X.A)(hg:Gl X x)(hm:X.mg x=some (.ref f))(hk:keepIn X.K (.ref f)=true)(hb:Binds X.K fd ps ds)(hd:Vals CP ds)(hx:Passes CX X E)
  (hdb:(x==("__debug__":Str))=false):PE X (.Call (.Name x p) [] [] pos) (FZ sp CP E Mm):=by
 intro pins s σ H Q I h;refine WN (ji I hg hm ?_ hdb);exact PySem.W.callWith_K0 I.kT hk (zU (us:=[]) F hr hb hd hx I .nil h)
structure Mk (K:Frag) (C f:Addr):Prop where
 makes:PySem.W.makesIn K C=true
 init:findIn K (.ref C) "__init__" = some (some (.ref f))
 fn:isFn K (.ref f)=true
 kp:keepIn K (.ref C)=true
end
structure j6 (N P:List Str) (sc:Scope):Prop where
 kind:sc.kind=.function
 co:sc.isCoroutine=false
 gen:sc.isGenerator=false
 nd:N.Nodup
 pre:N.take P.length=P
 par:∀x∈P,sc.names.lookup x=some .local\/sc.names.lookup x=some .cell
 HQ:∀y∈sc.names,y.2≠.free
theorem pF{kindOf:Str->Option NameKind}{x:Str}:∀{binds:List (Str×Value)} {m:Str->Option Value},(∀v,(x,v)∉binds)->bindL kindOf binds m x=m x
 |[],_,_=>rfl
 | (n,v)::r,m,h=>by
  unfold bindL;rw[pF λw hw=>h w (V5 _ hw)]
  split
  ·have:x≠n:=by rintro rfl;exact h v V8
   simp[this]
  ·rfl
theorem pG{kindOf:Str->Option NameKind}{x:Str}:∀{binds:List (Str×Value)} {m:Str->Option Value},(∀v,(x,v)∉binds)->bindC kindOf binds m x=m x
 |[],_,_=>rfl
 | (n,v)::r,m,h=>by
  unfold bindC;rw[pG λw hw=>h w (V5 _ hw)]
  split
  ·rfl
  ·have:x≠n:=by rintro rfl;exact h v V8
   simp[this]
theorem pH{kindOf:Str->Option NameKind}{x:Str}{v:Value}:∀{P:List Str} {vs:List Value} {i:Nat} {m:Str->Option Value},P.Nodup->P[i]?=some x->vs[i]?=some v->kindOf x=some .local ->
  bindL kindOf (P.zip vs) m x=some v
 |[],_,_,_,_,h,_,_=>by simp at h
 |_::_,[],_,_,_,_,h,_=>by simp at h
 | p::P,w::vs,0,m,nd,h1,h2,hk=>by
  simp at h1 h2;subst h1;subst h2;show bindL kindOf ((p,w)::P.zip vs) m p=_;unfold bindL;rw[pF λv hv=>(WH.mp nd).1 (YL hv).1,Wg hk];simp
 | p::P,w::vs,i+1,m,nd,h1,h2,hk=>by
  show bindL kindOf ((p,w)::P.zip vs) m x=_;unfold bindL;exact pH (i:=i) (WH.mp nd).2 (by simpa using h1) (by simpa using h2) hk
theorem pI{kindOf:Str->Option NameKind}{x:Str}{v:Value}:∀{P:List Str} {vs:List Value} {i:Nat} {m:Str->Option Value},P.Nodup->P[i]?=some x->vs[i]?=some v->kindOf x≠some .local ->
  bindC kindOf (P.zip vs) m x=some v
 |[],_,_,_,_,h,_,_=>by simp at h
 |_::_,[],_,_,_,_,h,_=>by simp at h
 | p::P,w::vs,0,m,nd,h1,h2,hk=>by
  simp at h1 h2;subst h1;subst h2;show bindC kindOf ((p,w)::P.zip vs) m p=_;unfold bindC;rw[pG λv hv=>(WH.mp nd).1 (YL hv).1,We hk];simp
 | p::P,w::vs,i+1,m,nd,h1,h2,hk=>by
  show bindC kindOf ((p,w)::P.zip vs) m x=_;unfold bindC;exact pI (i:=i) (WH.mp nd).2 (by simpa using h1) (by simpa using h2) hk
def start(N:List Str)(vs:List V):St:=vs.map some++replicate (N.length-vs.length) none
def gO(CX:uT)(P:Program)(w:World)(K:Frag)(mg:Str->Option Value)(base:Heap)(N:List Str)(qual:Str)(scope:Scope)(f:Addr)(cd:Value)(A:Around)(outer:List Env)(s:Shared)(H:Hp)(E:XK):Cx where
 prog:=P
 w:=w
 K:=K
 mg:=mg
 base:=base
 A:=A.deeper (envOfC qual scope s.heap.objs.size f cd)
 N:=N
 s₀:=s
 H₀:=H
 env:=envOfC qual scope s.heap.objs.size f cd
 outer:=outer
 stack:=envOfC qual scope s.heap.objs.size f cd::outer
 ex:=[]
 calm:=true
 fn:=λ_=>true
 pn:=[]
 xe:=λe s'=>wpAny (model P w) (A.deeper (envOfC qual scope s.heap.objs.size f cd)) (leaving (envOfC qual scope s.heap.objs.size f cd) e) (λ_ s''=>CX outer H s E e s'') (λe' s''=>CX outer H s E e' s'') s'
theorem rT{sc:Scope}{n:Nat}{x:Str}(h:sc.names.lookup x=some .cell):∃c,(cellsFrom n sc.names []).lookup x=some c:=by
 have q:=cellsFrom_some sc.names n [] (.inl h);exact Option.isSome_iff_exists.mp q
theorem yt{CX:uT}{P:Program}{w:World}{K:Frag}{mg:Str->Option Value}{base:Heap}{N ps:List Str}{qual:Str}{scope:Scope}{f:Addr}{cd:Value}{A:Around}{outer:List Env}{s s1:Shared}{H:Hp}{E:XK}{us:List Value}{vs:List V}
  (S:j6 N ps scope) (hd:A.handled=none) (e0:uU P w K mg base A outer s H) (hl:vs.length=ps.length) (r:Vals vs us)
  (x:InCallC s s.heap.objs.size (bindL (envOfC qual scope s.heap.objs.size f cd).kindOf (ps.zip us) λ_=>none) (cellsFrom (s.heap.objs.size+1) scope.names []) (bindC (envOfC qual scope s.heap.objs.size f cd).kindOf (ps.zip us) λ_=>none) s1) :
  Inv (gO CX P w K mg base N qual scope f cd A outer s H E) [] (start N vs) H s1:=by
 have hpl:ps.length<=N.length:=by have:=Xb length S.pre;rw[Yh]at this;omega
 obtain⟨h1,tk,rfl,hk⟩:=x.done;have noA:∀b:Addr,b∉(gO CX P w K mg base N qual scope f cd A outer s H E).ex:=λb z=>absurd (show b∈([]:List Addr) from z) (by simp);refine⟨⟨e0.mod,S.kind,rfl,rfl,Wb _,λy z c h1 h2=>?_,λy hy=>?_,λy c _ h=>?_,λ_=>hd,Around.frames_deeper e0.frames,.inr ⟨rfl,rfl⟩,λb z=>absurd z (noA b),e0.bs,e0.C0,λb _ _=>noA b,λb z=>absurd z (noA b),e0.kX,e0.FQ⟩,
  rfl,e0.bare,Un.kept hk,⟨_,x.toInCall.ns,λi y v h1 h2 h3=>?_⟩,λy c h=>⟨_,x.cell y c h⟩,e0.hok.fresh (Wb _),λy c h=>?_,λp hp=>absurd (show p∈([]:List (Addr×Obj)) from hp) (by simp),e0.hok.kept hk,?_⟩
 ·exact name_of_addr x.apart (WZ h1) (WZ h2)
 ·have hy:scope.names.lookup y=some .cell\/scope.names.lookup y=some .free:=hy
  rcases hy with hy|hy
  ·exact rT hy
  ·exact absurd rfl (S.HQ _ (WZ hy))
 ·exact Xk (x.above y c (WZ h))
 ·have hi:i<vs.length:=by
   unfold start at h2
   by_cases hi:i<vs.length
   ·exact hi
   ·rw[Wv (by simpa using hi)]at h2;rw[List.getElem?_replicate]at h2;split at h2<;>cases h2
  have ha:vs[i]?=some v:=by
   unfold start at h2;rw[Wi (by simpa using hi),Ws]at h2;cases e:vs[i]? with
   |none=>rw[e]at h2;cases h2
   |some a=>rw[e]at h2;cases h2;rfl
  obtain⟨u,hu,rv⟩:=r.get ha;have hp:ps[i]?=some y:=by rw[<-S.pre,List.getElem?_take_of_lt (by omega)];exact h1
  have Se:ps.Nodup:=by rw[<-S.pre];exact S.nd.sublist (List.take_sublist _ _)
  refine⟨u,rv,?_⟩
  rcases S.par y (Wn hp) with k|k
  ·exact .inl ⟨k,pH Se hp hu k⟩
  ·obtain⟨c,e⟩:=rT (n:=s.heap.objs.size+1) k;refine .inr ⟨.inl k,c,e,?_⟩;have q:=x.cell y c e;rw[pI Se hp hu (by show scope.names.lookup y≠_;rw[k];decide)]at q;exact q
 ·exact e0.hok.fresh (Xk (x.above y c (WZ h)))
 ·unfold start;show _=N.length;rw[Wz,V9,List.length_replicate];omega
theorem zW{CX:uT}{P:Program}{w:World}{K:Frag}{mg:Str->Option Value}{base:Heap}{k:Nat}{f:Addr}{name qual:Str}{params:Arguments}{body:List Stmt}{scope:Scope}{dV kV doc pm cdv ct oc:Value}{an od:Option Addr}
  {osl:Array (Option Value)} {N ps:List Str} {sp:Sp} (lk:K.lookup f=some ⟨oc,od,.func (fnOf name qual params body scope dV kV doc pm an cdv ct),osl⟩) (hcd:codeIn K cdv qual=true) (S:j6 N ps scope)
  (len:∀vs H Q E,sp vs H Q E->vs.length=ps.length)
  (hbody:∀(A:Around) (outer:List Env) (s:Shared) (H:Hp) (vs:List V) (Q:VK) (E:XK),cY k (A.deeper (envOfC qual scope s.heap.objs.size f cdv))->sp vs H Q E ->
   ∃t,oM (gO CX P w K mg base N qual scope f cdv A outer s H E) body t/\t { nx:=λ_ H'=>Q .non H',rt:=Q } (start N vs) H) :
  dJ P w K mg base CX (k+1) f (fnOf name qual params body scope dV kV doc pm an cdv ct) ps sp:=by
 refine⟨len,λA outer s H args us vs Q E hr e0 hb r hsp=>?_⟩;have hl:=len _ _ _ _ hsp;have KX:K.In s.heap:=e0.mod.LL.keeps λb o e=>(e0.bs b o e).1;have lim:s.heap.NoLimit:=e0.mod.nolimit.keeps λb o e=>(e0.bs b o e).1;have hkind:∀y∈ps.zip us,scope.names.lookup y.1=some .local\/(scope.names.lookup y.1=some .cell/\((cellsFrom (s.heap.objs.size+1) scope.names []).lookup y.1).isSome=true):=λ⟨n,v⟩ hy=>by
  rcases S.par n (YL hy).1 with q|q
  ·exact .inl q
  ·exact .inr ⟨q,cellsFrom_some _ _ _ (.inl q)⟩
 refine codeAny_call_function hr.depth (KX _ _ lk) rfl S.co S.gen rfl (PySem.W.codeRec_of KX hcd) (hb _ _ _ _ ?_);refine wpAny_newFunctionEnv_cells S.kind hkind λenv he s1 x=>?_;subst he;refine⟨lim.keeps x.toInCall.keep,codeAny_func ?_⟩;obtain⟨t,ht,hq⟩:=hbody A outer s H vs Q E (hr.deeper _) hsp;have I:Inv (gO CX P w K mg base N qual scope f cdv A outer s H E) [] (start N vs) H s1:=yt S hr.hd e0 hl r x;refine WA (ht [] s1 (start N vs) H _ I hq) (λfl s' hs=>?_) λe s' hs=>hs;have fin:∀{σ':St} {H':Hp} {v:V} {u:Value},Inv (gO CX P w K mg base N qual scope f cdv A outer s H E) [] σ' H' s'->RelV v u->Q v H'->CE outer P w H s Q u s' :=
  λ{σ' H' v u} J rv q=>⟨v,H',J.os,J.bare,J.base,J.hok,rv,q⟩
 cases fl with
 |ret u=>obtain⟨v,σ',H',J,rv,q⟩:=hs;exact fin J rv q
 |next=>obtain⟨σ',H',J,q⟩:=hs;exact fin (v:=V.non) (u:=Value.none) J rfl q
 |brk=>obtain⟨_,_,_,q⟩:=hs;exact False.elim q
 |cont=>obtain⟨_,_,_,q⟩:=hs;exact False.elim q
section
variable {X:Cx} {x:Str} {p pos:Pos} {e:Expr} {es:List Expr} {t:TA} {id T:String} {r:List V->Hp->VK->Prop}
def Sf(r:List V->Hp->VK->Prop)(t:TA):TE:=λσ H Q=>t σ H λvs H1=>r vs H1 Q
theorem cE(hc:bN X (.builtin id) r)(hg:Gl X x)(hm:X.mg x=none)(hv:bootBuiltins x=some (.builtin id))(ha:PA X (e::es) t)(hn:x ≠ "__name__":=by decide)(hdb:(x==("__debug__":Str))=false:=by decide)
  (he:starEach (e::es) X.env=(false,eval e X.env)::starEach es X.env:=by rfl) (hpl:(backTo pos (starEach es X.env)).any (·.1)=false:=by rfl):PE X (.Call (.Name x p) (e::es) [] pos) (Sf r t):=by
 intro pins s σ H Q I h;refine WN (iH I hg hm hv ?_ hn hdb);exact PyProof.Rows.callWith_builtin1 (cu (ha pos pins s σ H _ I h) λus s1 ⟨vs,H1,I1,r1,q1⟩=>hc pins s1 σ H1 vs us Q I1 r1 q1) he hpl
theorem jl(hc:bN X (.type T) r)(hg:Gl X x)(hm:X.mg x=none)(hv:bootBuiltins x=some (.type T))(ha:PA X (e::es) t)(hn:x ≠ "__name__")(hdb:(x==("__debug__":Str))=false)
  (he:starEach (e::es) X.env=(false,eval e X.env)::starEach es X.env) (hpl:(backTo pos (starEach es X.env)).any (·.1)=false):PE X (.Call (.Name x p) (e::es) [] pos) (Sf r t):=by
 intro pins s σ H Q I h;refine WN (iH I hg hm hv ?_ hn hdb);exact WU (cu (ha pos pins s σ H _ I h) λus s1 ⟨vs,H1,I1,r1,q1⟩=>hc pins s1 σ H1 vs us Q I1 r1 q1) he hpl
end
end L2
namespace HT
open PySem PyProof.Rows
def lexLt:List Int->List Int->Bool
 |[],[]=>false
 |[],_::_=>true
 |_::_,[]=>false
 |x::xs,y::ys=>if x=y then lexLt xs ys else decide (x<y)
theorem dM(x y:Int)(xs ys:List Int):lexLt (x::xs) (y::ys)=if x=y then lexLt xs ys else decide (x<y):=rfl
theorem oN:lexLt [] []=false:=rfl
theorem fy(y:Int)(ys:List Int):lexLt [] (y::ys)=true:=rfl
theorem cZ(x:Int)(xs:List Int):lexLt (x::xs) []=false:=rfl
section
variable {prog:Program} {w:World} {A:Around} {E:Value->Shared->Prop} {s:Shared}
theorem Dk(ht:IsTup s.heap t vs.toArray)(hb:IsTup s.heap b ws.toArray)(hv:vs≠[])
  (h1:ws=[]->Q (.ref t) s) (h2:ws≠[]->Q (.ref s.heap.objs.size) { s with heap:=s.heap.push { cls:=.type "tuple",data:=.seq (vs++ws).toArray } })
  (hsz:vs.length+ws.length<=sizeLine):wpAny (model prog w) A (binaryOp .Add (.ref t) (.ref b)) Q E s:=by
 obtain⟨⟨cls,dd,data,sl⟩,ho,hc,n,hd⟩:=id ht;obtain⟨⟨TL,dd2,data2,sl2⟩,ho2,hc2,n2,hd2⟩:=id hb;simp only at hc hd hc2 hd2;subst hc hd hc2 hd2;have e:vs.toArray++ws.toArray=(vs++ws).toArray:=by simp
 by_cases hw:ws=[]
 ·exact concat_meets ⟨_,ho,rfl⟩ ⟨_,ho2,rfl⟩ noFill_tuple_add seq_tuple_add PySem.F.slot_tuple_add PySem.F.entry_tuple_add (PySem.F.args_tuple_add_2 _ _)
   (tuple_addW1 t b vs.toArray ws.toArray n n2 dd dd2 sl sl2 (by simpa using hv) (by simp[hw])) ⟨ho,ho2,h1 hw⟩
 ·refine concat_meets ⟨_,ho,rfl⟩ ⟨_,ho2,rfl⟩ noFill_tuple_add seq_tuple_add PySem.F.slot_tuple_add PySem.F.entry_tuple_add (PySem.F.args_tuple_add_2 _ _)
   (tuple_addW2 t b vs.toArray ws.toArray n n2 dd dd2 sl sl2 (by simpa using hv) (by simpa using hw) (by rw[Wd,Wd];exact hsz)) ⟨ho,ho2,?_⟩
  rw[e];exact h2 hw
def dg(n d:Nat):Option Int->Nat
 |none=>d
 |some v=>if v<0 then (v+(n:Int)).toNat else min v.toNat n
theorem HS(n d:Nat)(hd:d<=n)(o:Option Int):dg n d o<=n:=by
 cases o with
 |none=>exact hd
 |some v=>
  show (if v<0 then (v+(n:Int)).toNat else min v.toNat n)<=n
  by_cases hv:v<0
  ·rw[Wg hv];omega
  ·rw[We hv];exact Nat.min_le_right _ _
theorem wc(v:Int)(n d:Nat):(if v<0 then max (v+(n:Int)) 0 else min v (n:Int))=((dg n d (some v):Nat):Int):=by
 show (if v<0 then max (v+(n:Int)) 0 else min v (n:Int))=(((if v<0 then (v+(n:Int)).toNat else min v.toNat n):Nat):Int)
 by_cases hv:v<0
 ·simp only[if_pos hv];omega
 ·simp only[if_neg hv];omega
theorem uV(lo hi:Option Int)(n:Nat):Builtin.Slice.sliceAdjust lo hi 1 (n:Int)=(((dg n 0 lo:Nat):Int),((dg n n hi:Nat):Int)):=by
 have h1:¬ ((1:Int)<0):=by omega
 unfold Builtin.Slice.sliceAdjust;simp only[h1,if_false];refine Prod.ext ?_ ?_
 ·cases lo with
  |none=>rfl
  |some v=>exact wc v n 0
 ·cases hi with
  |none=>rfl
  |some v=>exact wc v n n
theorem uW(i j:Nat):Builtin.Slice.slicePlaces (i:Int) (j:Int) 1=j-i:=by
 unfold Builtin.Slice.slicePlaces;have h1:(1:Int)>0:=by omega
 simp only[h1,if_true,Int.ediv_one]
 split<;>omega
theorem m8{o:Option Int}(p:IsPart v o)(h:Q o s):wpAny (model prog w) A (Builtin.Slice.slicePartIndex v) Q E s:=by
 cases p with
 |none=>exact slicePart_none h
 |int i t=>exact slicePart_int h
theorem kZ{lo hi:Option Int}{n:Nat}(hs:s.heap.IsSliceOf sl vl vu .none)(pl:IsPart vl lo)(pu:IsPart vu hi)
  (h:Q (((dg n 0 lo:Nat):Int),1,dg n n hi-dg n 0 lo) s):wpAny (model prog w) A (Builtin.Slice.sliceApplied (.ref sl) (pure (n:Int))) Q E s:=by
 obtain⟨os,hos,hcs,hds⟩:=id hs;unfold Builtin.Slice.sliceApplied Builtin.Slice.sliceFields;refine VZ (VZ (wpAny_field hos hds (x:=vl) rfl (VZ (wpAny_field hos hds (x:=vu) rfl (VZ (wpAny_field hos hds (x:=.none) rfl (V6 ?_)))))));refine VZ (slicePart_none ?_);show wpAny _ _ (if ((1:Int)==0)=true then _ else _) _ _ s;rw[We (by decide)];refine VZ (m8 pl (VZ (m8 pu (VZ (V6 ?_)))));show wpAny _ _ (match Builtin.Slice.sliceAdjust lo hi 1 (n:Int) with|(lo,hi)=>pure (lo,(1:Int),Builtin.Slice.slicePlaces lo hi 1)) _ _ s;rw[uV lo hi n];show wpAny _ _ (pure (((dg n 0 lo:Nat):Int),(1:Int),Builtin.Slice.slicePlaces ((dg n 0 lo:Nat):Int) ((dg n n hi:Nat):Int) 1)) _ _ s;rw[uW];exact V6 h
theorem zX(xs:Array Value)(i k:Nat):((List.range k).filterMap λ(m:Nat)=>xs[((i:Int)+(m:Int)*1).toNat]?).toArray=((xs.toList.drop i).take k).toArray:=by
 have e:(λ(m:Nat)=>xs[((i:Int)+(m:Int)*1).toNat]?)=λm=>xs[i+m]?:=by
  funext m;have:((i:Int)+(m:Int)*1).toNat=i+m:=by omega
  rw[this]
 rw[e];have:=pick_run xs i k;rw[List.filterMap_map]at this;have e2:((λx=>xs[x]?)∘λx=>i+x)=λm=>xs[i+m]?:=rfl;rw[e2]at this;rw[this]
theorem j7{lo hi:Option Int}(ht:IsTup s.heap t items)(hs:s.heap.IsSliceOf sl vl vu .none)(pl:IsPart vl lo)(pu:IsPart vu hi)
  (hw:¬ (dg items.size 0 lo=0/\dg items.size items.size hi=items.size))
  (h:Q (.ref s.heap.objs.size) { s with heap:=s.heap.push { cls:=.type "tuple",data:=.seq ((items.toList.drop (dg items.size 0 lo)).take (dg items.size items.size hi-dg items.size 0 lo)).toArray } })
  (hsz:items.size<=sizeLine):wpAny (model prog w) A (getItem (.ref t) (.ref sl)) Q E s:=by
 have we:sizeOk (.seq ((items.toList.drop (dg items.size 0 lo)).take (dg items.size items.size hi-dg items.size 0 lo)).toArray):=by show ((items.toList.drop (dg items.size 0 lo)).take (dg items.size items.size hi-dg items.size 0 lo)).toArray.size<=sizeLine;rw[Wd,Yh,YG,WC];omega
 have hj:dg items.size items.size hi<=items.size:=HS _ _ (Wb _) hi;obtain⟨os,hos,hcs,hds⟩:=id hs;have Qh:s.TypeIs (.ref sl) "slice":=⟨os,hos,hcs⟩;unfold getItem
 try with_reducible refine WI ?_
 first|refine VZ (V6 ?_)|skip
 refine VZ (wpAny_sequenceKey ht.typeIs (by decide) ?_);refine VZ (XU (name:=Str.ofString "__getitem__") ht.typeIs PyProof.Rows.slot_tuple_getitem
  (Xq PyProof.Rows.slot_tuple_getitem ht.typeIs entry_tuple_getitem ?_ (args_tuple_getitem _ _)))
 show wpAny _ _ (Builtin.Tuple.tupleItemsOf (.ref t) >>= _) _ _ s;refine VZ (tupleItemsOf_ ht ?_);refine VZ (wpAny_typeOf Qh ?_);rw[Wg (by decide)];refine VZ (kZ hs pl pu ?_);have hno:¬ ((((dg items.size 0 lo:Nat):Int)==0&&(1:Int)==1&&(dg items.size items.size hi-dg items.size 0 lo)==items.size)=true):=by intro q;rw[XE,XE]at q;have q1:((dg items.size 0 lo:Nat):Int)=0:=eq_of_beq q.1.1;have q2:dg items.size items.size hi-dg items.size 0 lo=items.size:=eq_of_beq q.2;exact hw ⟨by omega,by omega⟩
 show wpAny _ _ (if (((dg items.size 0 lo:Nat):Int)==0&&(1:Int)==1&&(dg items.size items.size hi-dg items.size 0 lo)==items.size)=true then _ else _) _ _ s;rw[We hno,zX]
 first
  |exact VZ (m:=Builtin.Tuple.tupleExact _) (WD (V6 ⟨_,rfl,V6 h⟩) we)
  |exact VZ (m:=Builtin.Tuple.tupleExact _) (WD (VZ (V6 (V6 ⟨_,rfl,V6 h⟩))) we)
  |exact VZ (VZ (m:=Builtin.Tuple.tupleExact _) (WD (V6 (V6 ⟨_,rfl,V6 h⟩)) we))
  |exact VZ (VZ (m:=Builtin.Tuple.tupleExact _) (WD (V6 ⟨_,rfl,V6 h⟩) we))
end
end HT
namespace L2
open PySem PySem.Spec PyProof.Rows
abbrev TO:=St->Hp->(Option Int->Hp->Prop)->Prop
def PO(X:Cx)(e:Option Expr)(t:TO):Prop :=
 ∀(pins:List (Addr×Obj)) (s:Shared) (σ:St) (H:Hp) (Q:Option Int->Hp->Prop),Inv X pins σ H s->t σ H Q ->
  wpAny (model X.prog X.w) X.A (evalPart e X.env) (λu s'=>∃o H',Inv X pins σ H' s'/\IsPart u o/\Q o H') X.xe s
def Dl:TO:=λ_ H Q=>Q none H
def Mp(t:TE):TO:=λσ H Q=>t σ H λx H1=>∃i,x=.int i/\Q (some i) H1
theorem intsAre_of{ns:List Int}:∀{us:List Value},Vals (ns.map V.int) us->IntsAre us ns:=by
 induction ns with
 |nil=>intro us r;rw[X7]at r;cases r;exact .nil
 |cons n ns ih=>
  intro us r;rw[Wm]at r;cases r with
  |cons r1 r2=>obtain⟨t,e⟩:=r1;subst e;exact .cons n t (ih r2)
section
variable {X:Cx} {e:Expr} {te:TE} {lo hi:Option Expr} {tl th:TO} {pos p2:Pos}
theorem Dm:PO X none Dl:=by
 intro pins s σ H Q I h;rw[evalPart_none];exact V6 ⟨none,H,I,.none,h⟩
theorem Dp(h:PE X e te):PO X (some e) (Mp te):=by
 intro pins s σ H Q I hw;rw[evalPart_some];refine cu (h pins s σ H _ I hw) λu s1 aJ=>?_;obtain⟨x,H1,I1,r1,q1⟩:=aJ;obtain⟨i,rfl,q⟩:=q1;obtain⟨t,rfl⟩:=r1;exact⟨some i,H1,I1,.int i t,q⟩
def Pk(X:Cx)(r:V->Option Int->Option Int->Hp->VK->Prop):Prop :=
 ∀(pins:List (Addr×Obj)) (s:Shared) (σ:St) (H:Hp) (x:V) (v vl vu:Value) (lo hi:Option Int) (sl:Addr) (Q:VK),Inv X pins σ H s->RelV x v->s.heap.IsSliceOf sl vl vu .none->IsPart vl lo->IsPart vu hi->r x lo hi H Q ->
  ∃T id,typeLookup (.type T) "__getitem__" = pure (some (.builtin id))/\s.TypeIs v T/\wpAny (model X.prog X.w) X.A (getItem v (.ref sl)) (EP X pins σ Q) X.xe s
def TM(r:V->Option Int->Option Int->Hp->VK->Prop)(te:TE)(tl th:TO):TE:=λσ H Q=>te σ H λx H1=>tl σ H1 λl H2=>th σ H2 λu H3=>r x l u H3 Q
theorem zY(hr:Pk X r)(he:PE X e te)(hl:PO X lo tl)(hu:PO X hi th):PE X (.Subscript e (.Slice lo hi none p2) pos) (TM r te tl th):=by
 intro pins s σ H Q I h;refine Subscript_ (cu (he pins s σ H _ I h) λv s1 aJ=>?_);obtain⟨x,H1,I1,r1,q1⟩:=aJ;refine wpAny_Slice (cu (hl pins s1 σ H1 _ I1 q1) λvl s2 ⟨l,H2,I2,pl,q2⟩=>cu (hu pins s2 σ H2 _ I2 q2) λvu s3 aJ=>?_);obtain⟨u,H3,I3,pu,q3⟩:=aJ;rw[evalPart_none];refine V6 ?_;have I4:Inv X pins σ H3 { s3 with heap:=s3.heap.push { cls:=.type "slice",data:=.fields [vl,vu,.none].toArray } }:=I3.kept (t':=s3.toks) λb ob q=>V3 _ q;obtain⟨T,id,hT,ht,hg⟩:=hr pins { s3 with heap:=s3.heap.push { cls:=.type "slice",data:=.fields [vl,vu,.none].toArray } } σ H3 x v vl vu l u s3.heap.objs.size Q I4 r1 (Heap.IsSliceOf.new ..) pl pu q3;show wpAny (model X.prog X.w) X.A (subscriptTail e (.Slice lo hi none p2) v (.ref s3.heap.objs.size)) (EP X pins σ Q) X.xe { s3 with heap:=s3.heap.push { cls:=.type "slice",data:=.fields [vl,vu,.none].toArray } };exact tail_any (ops:=[.ref s3.heap.objs.size,v]) ht hT hg (by with_unfolding_all rfl)
def rV(xs:List V)(lo hi:Option Int):List V:=(xs.drop (HT.dg xs.length 0 lo)).take (HT.dg xs.length xs.length hi-HT.dg xs.length 0 lo)
theorem lQ(xs:List V)(lo hi:Option Int):(rV xs lo hi).length<=xs.length:=by
 unfold rV;rw[Yh,YG];omega
def Qi(K:Frag):V->Option Int->Option Int->Hp->VK->Prop:=λx lo hi H Q=>∃a xs,x=.ref a/\iy K H a xs /\
 ¬ (HT.dg xs.length 0 lo=0/\HT.dg xs.length xs.length hi=xs.length)/\∀p,H p=none->Q (.ref p) (upd H p (.tup (rV xs lo hi)))
theorem HU:Pk X (Qi X.K):=by
 intro pins s σ H x v vl vu lo hi sl Q I rx hs pl pu h;obtain⟨a,xs,rfl,hx,hw,q⟩:=h;cases rx;obtain⟨its,r,ht,hz⟩:=I.tuple hx;have hlen:its.toArray.size=xs.length:=by rw[Wd];exact r.length.symm
 refine⟨"tuple",_,PyProof.Rows.slot_tuple_getitem.lookup,ht.typeIs,?_⟩;refine HT.j7 ht hs pl pu (by rw[hlen];exact hw) ?_ (by rw[hlen];exact hz);rw[hlen];refine⟨.ref s.heap.objs.size,_,I.laid (t':=s.toks) (o:=.tup (rV xs lo hi)) (λb ob q=>V3 _ q) (Wb _) ?_,rfl,q _ (I.hok.fresh (Wb _))⟩;exact⟨Wx (lQ xs lo hi) hz,_,(r.drop (HT.dg xs.length 0 lo)).take (HT.dg xs.length xs.length hi-HT.dg xs.length 0 lo),IsTup.new _ _⟩
def Mq(K:Frag):R2:=λx y H Q=>∃a b xs ys,x=.ref a/\y=.ref b/\iy K H a xs/\iy K H b ys/\xs≠[]/\xs.length+ys.length<=sizeLine /\
 (ys=[]->Q (.ref a) H)/\(ys≠[]->∀p,H p=none->Q (.ref p) (upd H p (.tup (xs++ys))))
theorem Vals.qE(r:Vals xs us):us=[]↔xs=[]:=by
 cases r with
 |nil=>simp
 |cons _ _=>simp
theorem Dq:kU X (binaryOp .Add) (Mq X.K):=by
 intro pins s σ H x y v u Q I rx ry h;obtain⟨a,b,xs,ys,rfl,rfl,ha,hb,hx,hz,q1,q2⟩:=h;cases rx;cases ry;obtain⟨its,r1,p1,_⟩:=I.tuple ha;obtain⟨its2,r2,p2,_⟩:=I.tuple hb;refine HT.Dk p1 p2 (λz=>hx (r1.qE.mp z)) (λz=>⟨.ref a,H,I,rfl,q1 (r2.qE.mp z)⟩) (λz=>?_) (by rw[<-r1.length,<-r2.length];exact hz);refine⟨.ref s.heap.objs.size,_,I.laid (t':=s.toks) (o:=.tup (xs++ys)) (λb ob q=>V3 _ q) (Wb _) ?_,rfl,q2 (λw=>z (r2.qE.mpr w)) _ (I.hok.fresh (Wb _))⟩;exact⟨by rw[Wz];exact hz,_,r1.append r2,IsTup.new _ _⟩
end
def wg(n:Nat)(i:Int):Option Nat:=if 0<=i then (if i<n then some i.toNat else none) else if -(n:Int)<=i then some (i+n).toNat else none
def gJ{α:Type}(xs:List α)(i:Int):Option α:=(wg xs.length i).bind λj=>xs[j]?
theorem wj{n:Nat}{i:Int}{j:Nat}(h:wg n i=some j):seqIndex? i n=some j/\j<n /\ -(n:Int)<=i/\i<n:=by
 unfold wg at h
 by_cases h0:0<=i
 ·rw[Wg h0]at h
  by_cases h1:i<n
  ·rw[Wg h1]at h;have e:i.toNat=j:=Wr h;exact⟨by rw[seqIndex_of h0 h1,e],by omega,by omega,h1⟩
  ·rw[We h1]at h;cases h
 ·rw[We h0]at h
  by_cases h1:-(n:Int)<=i
  ·rw[Wg h1]at h;have e:(i+n).toNat=j:=Wr h;exact⟨by rw[seqIndex_neg (by omega) h1,e],by omega,h1,by omega⟩
  ·rw[We h1]at h;cases h
theorem qF{α:Type}{xs:List α}{i:Int}{v:α}(h:gJ xs i=some v):∃j,seqIndex? i xs.length=some j/\xs[j]?=some v/\j<xs.length /\ -(xs.length:Int)<=i/\i<xs.length:=by
 unfold gJ at h;cases e:wg xs.length i with
 |none=>rw[e]at h;cases h
 |some j=>rw[e]at h;obtain⟨h1,h2,h3,h4⟩:=wj e;exact⟨j,h1,h,h2,h3,h4⟩
theorem mJ{α:Type}{xs:List α}{j:Nat}{v:α}(h:xs[j]?=some v):gJ xs (j:Int)=some v:=by
 have hj:j<xs.length:=(V4.mp h).1;have e:wg xs.length (j:Int)=some j:=by unfold wg;rw[Wg (by omega),Wg (by omega)];simp
 unfold gJ;rw[e];exact h
def wm(b:Expr):Prop:=∀o i,subscripted b false o i=operate [o,i] (getItem o i)
def Lx(X:Cx)(r:R2):Prop :=
 ∀(value slice:Expr) (pins:List (Addr×Obj)) (s:Shared) (σ:St) (H:Hp) (x y:V) (v u:Value) (Q:VK),Inv X pins σ H s->RelV x v->RelV y u->r x y H Q ->
  subscripted slice false v u=operate [v,u] (getItem v u)->wpAny (model X.prog X.w) X.A (subscriptTail value slice v u) (EP X pins σ Q) X.xe s
def Ly(X:Cx)(id:String)(r:V->List V->Hp->VK->Prop):Prop :=
 ∀(pins:List (Addr×Obj)) (s:Shared) (σ:St) (H:Hp) (x:V) (xs:List V) (v:Value) (us:List Value) (Q:VK),Inv X pins σ H s->RelV x v->Vals xs us->r x xs H Q ->
  wpAny (model X.prog X.w) X.A (call (.builtin id) (v::us)) (EP X pins σ Q) X.xe s
section
variable {X:Cx} {a b:Expr} {ta tb:TE} {pos:Pos}
theorem Mr(hr:Lx X r)(ha:PE X a ta)(hb:PE X b tb)(hs:wm b):PE X (.Subscript a b pos) (Ph r ta tb):=by
 intro pins s σ H Q I h;exact Subscript_ (HD ha hb I h λv u s2 x y H2 I2 rx ry q=>hr a b pins s2 σ H2 x y v u Q I2 rx ry q (hs _ _))
def Qj(K:Frag):R2:=λx y H Q=>∃p xs i v,x=.ref p/\y=.int i/\fQ K H p xs/\gJ xs i=some v/\Q v H
def Qk(K:Frag):R2:=λx y H Q=>∃p xs i v,x=.ref p/\y=.int i/\iy K H p xs/\gJ xs i=some v/\Q v H
def Ql:R2:=λx y H Q=>∃z i c,x=.str z/\y=.int i/\z.length<=sizeLine/\gJ z.cps.toList i=some c/\Q (.str ⟨[c].toArray⟩) H
theorem wo:Lx X (Qj X.K):=by
 intro value slice pins s σ H x y v u Q I rx ry h hs;obtain⟨p,xs,i,z,rfl,rfl,hq,he,q⟩:=h;cases rx;obtain⟨t,rfl⟩:=ry;obtain⟨its,r,pl,hz⟩:=I.list hq;obtain⟨j,h1,h2,h3,h4,h5⟩:=qF he;obtain⟨w,ew,rw'⟩:=r.get h2;have hl:=r.length;have hn:=kY;have fin:EP X pins σ Q w s:=⟨z,H,I,rw',q⟩
 by_cases h0:0<=i
 ·have hj:i.toNat=j:=by
   rw[seqIndex_of h0 h5]at h1;exact Wr h1
  exact item_listR pl.isList h0 (by omega) (by rw[hj];simpa using ew) fin hs
 ·have hj:(i+(its.toArray.size:Int)).toNat=j:=by
   rw[seqIndex_neg (by omega) h4]at h1;rw[Wd,<-hl];exact Wr h1
  exact subscriptTail_builtinR (x:=w) pl.isList.typeIs slot_list_getitem.lookup
   (wpAny_getItem_list_neg (Q:=λr s'=>r=w/\EP X pins σ Q r s') pl.isList (by omega) (by rw[Wd]<;>omega) (by omega) (by rw[hj];simpa using ew) ⟨rfl,fin⟩) hs
theorem HV:Lx X (Qk X.K):=by
 intro value slice pins s σ H x y v u Q I rx ry h hs;obtain⟨p,xs,i,z,rfl,rfl,hq,he,q⟩:=h;cases rx;obtain⟨t,rfl⟩:=ry;obtain⟨its,r,pl,hz⟩:=I.tuple hq;obtain⟨j,h1,h2,h3,h4,h5⟩:=qF he;obtain⟨w,ew,rw'⟩:=r.get h2;have hl:=r.length;have hn:=kY;have fin:EP X pins σ Q w s:=⟨z,H,I,rw',q⟩;exact subscriptTail_builtinR (x:=w) pl.typeIs slot_tuple_getitem.lookup
  (getItem_tuple (j:=j) (Q:=λr s'=>r=w/\EP X pins σ Q r s') pl (by omega) (by omega) (by rw[Wd,<-hl];exact h1) (by simpa using ew) ⟨rfl,fin⟩) hs
theorem HW:Lx X Ql:=by
 intro value slice pins s σ H x y v u Q I rx ry h hs;obtain⟨z,i,c,rfl,rfl,hz,he,q⟩:=h;obtain⟨t,rfl⟩:=rx;obtain⟨t',rfl⟩:=ry;obtain⟨j,h1,h2,h3,h4,h5⟩:=qF he;have hl:z.cps.toList.length=z.length:=by simp[Str.length]
 rw[hl]at h1 h4 h5;have hn:=kY;exact tail_any (typeIs_str s z t) slot_str_getitem.lookup (getItem_str (c:=c) (by
  have e1:decide (i < -(2 ^ 63:Int))=false:=decide_eq_false (by omega);have e2:decide (i≥2 ^ 63)=false:=decide_eq_false (by omega);rw[e1,e2,Bool.or_false]) (by rw[h1];simpa using h2) ⟨.str ⟨[c].toArray⟩,H,I.tok _,⟨_,rfl⟩,q⟩) hs
theorem uX(its:List Value)(n j:Nat)(u:Value):Obj.mapSeq (·.setIfInBounds j u) { cls:=.type "list",data:=.seq its.toArray n }={ cls:=.type "list",data:=.seq (its.set j u).toArray n }:=by
 simp[Obj.mapSeq]
theorem Inv.lst(I:Inv X pins σ H s)(h:H p=some (.lst xs)) :
  ∃(its:List Value) (n:Nat),Vals xs its/\s.heap.get? p=some { cls:=.type "list",data:=.seq its.toArray n }/\xs.length<=sizeLine:=by
 obtain⟨z,its,n,r,e⟩:=I.hok p _ h;exact⟨its,n,r,e,z⟩
theorem Inv.HX{pins:List (Addr×Obj)}{σ:St}{H:Hp}{s:Shared}{p:Addr}{xs ys:List V}{its its':List Value}{n n':Nat}{f:Obj->Obj}(I:Inv X pins σ H s)(h:H p=some (.lst xs))
  (ho:s.heap.get? p=some { cls:=.type "list",data:=.seq its.toArray n }) (hf:f { cls:=.type "list",data:=.seq its.toArray n }={ cls:=.type "list",data:=.seq its'.toArray n' }) (r:Vals ys its') (hz:ys.length<=sizeLine) (t:Nat) :
  Inv X pins σ (upd H p (.lst ys)) { s with heap:=s.heap.update p f,toks:=t }:=by
 have e:(s.heap.update p f).get? p=some { cls:=.type "list",data:=.seq its'.toArray n' }:=by rw[WB f ho (by rw[hf]<;>rfl),hf]
 refine I.write (x:=p) (e:=p) (by rw[h];trivial) (.inl rfl) (λb u hb q=>(WW _ _ (Ne.symm hb)).trans q) ⟨_,e⟩ ?_;exact⟨hz,its',n',r,e⟩
def Ms:V->V->V->Hp->(Hp->Prop)->Prop:=λo i v H Q=>∃p xs k j,o=.ref p/\i=.int k/\H p=some (.lst xs)/\wg xs.length k=some j/\Q (upd H p (.lst (xs.set j v)))
theorem set_list:Hw X Ms:=by
 intro pins s σ H o i v ov iv u Q I ro ri rv h;obtain⟨p,xs,k,j,rfl,rfl,hp,hj,q⟩:=h;cases ro;obtain⟨t,rfl⟩:=ri;obtain⟨its,n,r,ho,hz⟩:=I.lst hp;obtain⟨h1,h2,h3,h4⟩:=wj hj;have hl:=r.length;have hn:=kY;have I':Inv X pins σ (upd H p (.lst (xs.set j v))) { s with heap:=s.heap.update p (Obj.mapSeq (·.setIfInBounds j u)) } :=
  I.HX hp ho (uX its n j u) (r.set rv j) (by rw[YM];exact hz) s.toks
 by_cases h0:0<=k
 ·have hk:k.toNat=j:=by
   rw[seqIndex_of h0 h4]at h1;exact Wr h1
  exact PySem.W.ki_setAt ho h0 (by omega) (by rw[Wd,<-hl];exact h4) (by rw[hk];exact⟨_,I',q⟩)
 ·have hk:(k+(its.toArray.size:Int)).toNat=j:=by
   rw[seqIndex_neg (by omega) h3]at h1;rw[Wd,<-hl];exact Wr h1
  exact PySem.W.ki_setBack ho (by omega) (by rw[Wd,<-hl];exact h3) (by omega) (by rw[hk];exact⟨_,I',q⟩)
theorem qG(lo hi:Option Int)(n:Nat):(sliceBounds lo hi none n).1=((HT.dg n 0 lo:Nat):Int)/\(sliceBounds lo hi none n).2.1=((HT.dg n n hi:Nat):Int)/\(sliceBounds lo hi none n).2.2=1:=by
 refine⟨?_,?_,rfl⟩
 ·cases lo with
  |none=>simp[sliceBounds,HT.dg]
  |some i=>
   simp only[sliceBounds,HT.dg,getD_none,show (1:Int)>0 by decide,if_true]
   by_cases h:i<0
   ·simp only[h,if_true]<;>omega
   ·simp only[h,if_false]<;>omega
 ·cases hi with
  |none=>simp[sliceBounds,HT.dg]
  |some i=>
   simp only[sliceBounds,HT.dg,getD_none,show (1:Int)>0 by decide,if_true]
   by_cases h:i<0
   ·simp only[h,if_true]<;>omega
   ·simp only[h,if_false]<;>omega
theorem oO(its:List Value)(lo hi:Option Int):slicePick its.toArray lo hi none=((its.drop (HT.dg its.length 0 lo)).take (HT.dg its.length its.length hi-HT.dg its.length 0 lo)).toArray:=by
 obtain⟨h1,h2,h3⟩:=qG lo hi its.toArray.size;unfold slicePick;rw[h1,h2,h3];simp only[sliceRange_one,pick_run,size_toArray]<;>rfl
def Qm(K:Frag):V->Option Int->Option Int->Hp->VK->Prop:=λx lo hi H Q=>∃a xs,x=.ref a/\fQ K H a xs/\∀p,H p=none->Q (.ref p) (upd H p (.lst (rV xs lo hi)))
theorem Dr:Pk X (Qm X.K):=by
 intro pins s σ H x v vl vu lo hi sl Q I rx hs pl pu h;obtain⟨a,xs,rfl,hx,q⟩:=h;cases rx;obtain⟨its,r,ht,hz⟩:=I.list hx;have hlen:=r.length;refine⟨"list",_,slot_list_getitem.lookup,ht.isList.typeIs,?_⟩;refine wpAny_getItem_list_slice ht.isList hs pl pu .none (by simp) ?_ (by rw[Wd]<;>omega);rw[oO,<-hlen];refine⟨.ref s.heap.objs.size,_,I.laid (t':=s.toks) (o:=.lst (rV xs lo hi)) (λb ob q=>V3 _ q) (Wb _) ?_,rfl,q _ (I.hok.fresh (Wb _))⟩;exact⟨Wx (lQ xs lo hi) hz,_,0,(r.drop (HT.dg xs.length 0 lo)).take (HT.dg xs.length xs.length hi-HT.dg xs.length 0 lo),Wk _ rfl⟩
def cF:V->Bool
 |.non=>true
 |.bl _=>true
 |.int _=>true
 |.str _=>true
 |_=>false
theorem qH:bN X (.type "list") (λxs H Q=>∃p ys,xs=[.ref p]/\(fQ X.K H p ys\/iy X.K H p ys)/\∀l,H l=none->Q (.ref l) (upd H l (.lst ys))):=by
 intro pins s σ H xs us Q I r h;obtain⟨p,ys,rfl,hq,q⟩:=h;obtain⟨u,rfl,rx⟩:=vals1 r;cases rx;have fin:∀(its:List Value),Vals ys its->ys.length<=sizeLine->∀(h':Heap) (c':Nat),(∀b o',s.heap.get? b=some o'->h'.get? b=some o') ->
   h'.get? s.heap.objs.size=some { cls:=.type "list",dict:=none,data:=.seq its.toArray c',slots:=#[] }->EP X pins σ Q (.ref s.heap.objs.size) { s with heap:=h' }:=λits r' hz h' c' kp e=>
  ⟨.ref s.heap.objs.size,_,I.laid (t':=s.toks) kp (Wb _) (show bx X.prog X.w _ h' _ (.lst ys) from⟨hz,its,c',r',e⟩),rfl,q _ (I.hok.fresh (Wb _))⟩
 rcases hq with hq|hq
 ·obtain⟨its,r',pl,hz⟩:=I.list hq;have hlen:=r'.length;obtain⟨o,ho,hc,n,hd⟩:=pl.isList;exact call_list_seq p (.inl rfl) ho hc hd (λh' c' kp e=>fin its r' hz h' c' kp e) (by simp only[size_toArray]<;>omega)
 ·obtain⟨its,r',pl,hz⟩:=I.tuple hq;have hlen:=r'.length;obtain⟨o,ho,hc,n,hd⟩:=pl;exact call_list_seq p (.inr rfl) ho hc hd (λh' c' kp e=>fin its r' hz h' c' kp e) (by simp only[size_toArray]<;>omega)
def Qn(K:Frag)(T:String)(x:V)(H:Hp):Prop:=match x with
 |.str _=>T = "str"
 |.int _=>T = "int"
 | .ref p=>(T = "list" /\ ∃xs,fQ K H p xs)\/(T = "tuple" /\ ∃o,K.lookup p=some o/\o.cls=.type "tuple" /\ o.dict=none) \/
   (T = "dict" /\ ((∃kvs,H p=some (.dK kvs))\/∃kvs,H p=some (.dT kvs)))\/(T = "set" /\ ∃S n,H p=some (.set S n))
 |_=>False
theorem HY{T:String}(I:Inv X pins σ H s)(r:RelV x v)(ty:Qn X.K T x H) :
  s.TypeIs v T/\∀a,v=.ref a->∃ob,s.heap.get? a=some ob/\ob.dict=none:=by
 cases x with
 |str z=>obtain⟨t,rfl⟩:=r;cases (show T = "str" from ty);exact⟨typeIs_str s z t,λ_ e=>nomatch e⟩
 |int i=>obtain⟨t,rfl⟩:=r;cases (show T = "int" from ty);exact⟨typeIs_int s i t,λ_ e=>nomatch e⟩
 |ref p=>
  cases r
  rcases ty with ⟨rfl,xs,hq⟩|⟨rfl,o,hk,hc,hd⟩|⟨rfl,hk⟩|⟨rfl,S,n,hk⟩
  ·obtain⟨its,_,pl,_⟩:=I.list hq;refine⟨pl.isList.typeIs,λa e=>?_⟩;cases e;obtain⟨o,n,e,c,hd,_⟩:=pl;exact⟨o,e,hd⟩
  ·refine⟨⟨o,I.kT p o hk,hc⟩,λa e=>?_⟩;cases e;exact⟨o,I.kT _ o hk,hd⟩
  ·have z:∃o,s.heap.get? p=some o/\o.ExactDict:=by
    rcases hk with ⟨kvs,hk⟩|⟨kvs,hk⟩
    ·obtain⟨_,_,_,_,o,_,_,e,ex,_⟩:=I.hok p _ hk;exact⟨o,e,ex⟩
    ·obtain⟨_,_,_,_,o,_,_,e,ex,_⟩:=I.hok p _ hk;exact⟨o,e,ex⟩
   obtain⟨o,e,ex⟩:=z;refine⟨⟨o,e,ex.1⟩,λa e2=>?_⟩;cases e2;exact⟨o,e,ex.2.1⟩
  ·obtain⟨o,_,_,_,e,ex,_⟩:=I.hok p _ hk;refine⟨⟨o,e,ex.1⟩,λa e2=>?_⟩;cases e2;exact⟨o,e,ex.2.1⟩
 |_=>exact False.elim ty
def Sg(K:Frag)(T:String)(r:V->List V->Hp->VK->Prop)(to:TE)(t:TA):TE:=λσ H Q=>to σ H λx H1=>Qn K T x H1/\t σ H1 λxs H2=>r x xs H2 Q
variable {o e:Expr} {es:List Expr} {to:TE} {t:TA} {name:Str} {apos cpos:Pos} {T id:String} {r:V->List V->Hp->VK->Prop}
theorem wu(pa:PlainAttrs T)(slot:Slot T name id)(hty:typeOf (.builtin id)=pure (.type "method_descriptor"))(hm:Ly X id r)(ho:PE X o to)(ha:PA X (e::es) t)
  (hbase:attributeBase o name X.env (eval o X.env)=eval o X.env)
  (hfew:((backTo cpos (starEach (e::es) X.env)).all (λx=>!x.1)&&(backToKw cpos (keywordEach [] X.env)).all (λx=>x.1.isSome)
   && decide ((e::es).length+([]:List Keyword).length+(if ([]:List Keyword).isEmpty then 0 else 1)<30))=true)
  (hline:(apos.endLine==cpos.line)=true) (hs:starEach (e::es) X.env=(false,eval e X.env)::starEach es X.env) (hplain:(backTo cpos (starEach es X.env)).any (·.1)=false) :
  PE X (.Call (.Attribute o name apos) (e::es) [] cpos) (Sg X.K T r to t):=by
 intro pins s σ H Q I h;refine wpAny_Call_method_late hbase hfew hline rfl (cu (ho pins s σ H _ I h) λv s1 aJ=>?_);obtain⟨x,H1,I1,r1,ty,q1⟩:=aJ;obtain⟨h1,h2⟩:=HY I1 r1 ty;refine⟨T,id,pa,slot,hty,h1,h2,?_⟩;have hA:=ha cpos pins s1 σ H1 _ I1 q1;rw[hs]at hA |-;refine Calls.callWith_builtin (by show (false||(backTo cpos (starEach es X.env)).any (·.1))=false;rw[hplain]<;>rfl) (Calls.evalArgs_plain ?_);exact cu hA λus s2 ⟨vs,H2,I2,r2,q2⟩=>hm pins s2 σ H2 x vs v us Q I2 r1 r2 q2
/- xs.append(e),list.index on a Mt tuple .. are Ly facts of 06m -/
end
def Pn(X:Cx)(id:String)(r:V->List V->Hp->VK->Prop):Prop :=
 ∀(pins:List (Addr×Obj)) (s:Shared) (σ:St) (H:Hp) (x:V) (xs:List V) (v:Value) (us:List Value) (Q:VK),Inv X pins σ H s->RelV x v->Vals xs us->r x xs H Q ->
  wpAny (model X.prog X.w) X.A (call (.builtin id) (v::us)) (EP X pins σ Q) X.xe s
theorem Vals.one:∀{x:V} {us:List Value},Vals [x] us->∃u,us=[u]/\RelV x u
 |_,_,.cons r .nil=>⟨_,rfl,r⟩
theorem Vals.eraseIdx:∀{xs:List V} {us:List Value} (i:Nat),Vals xs us->Vals (xs.eraseIdx i) (us.eraseIdx i)
 |_,_,_,.nil=>.nil
 |_,_,0,.cons _ t=>t
 |_,_,i+1,.cons r t=>.cons r (Vals.eraseIdx i t)
theorem pJ{α:Type}:∀(l:List α) (i:Nat),(l.eraseIdx i).length<=l.length
 |[],_=>Wb _
 |_::_,0=>WR _
 |_::r,i+1=>Nat.succ_le_succ (pJ r i)
section
variable {X:Cx} {pins:List (Addr×Obj)} {σ:St} {H:Hp} {s:Shared} {l b:Addr} {xs ys zs:List V}
theorem Inv.Ds{its its':List Value}{n:Nat}{f:Array Value->Array Value}{t':Nat}(I:Inv X pins σ H s)(hH:H l=some (.lst xs))
  (e:s.heap.get? l=some { cls:=.type "list",data:=.seq its.toArray n }) (hf:f its.toArray=its'.toArray) (hv:Vals ys its') (hz:ys.length<=sizeLine) :
  Inv X pins σ (upd H l (.lst ys)) { s with heap:=s.heap.update l (Obj.mapSeq f),toks:=t' }:=by
 have q:=PySem.IsL.update e f;rw[hf]at q;refine I.write (x:=l) (e:=l) (by rw[hH];exact trivial) (.inl rfl) (λb' u hb hu=>(WW s.heap (Obj.mapSeq f) (Ne.symm hb)).trans hu) ⟨_,q⟩ ?_;exact⟨hz,its',_,hv,q⟩
theorem Inv.Qo{t':Nat}(I:Inv X pins σ H s)(hv:Vals ys its)(hz:ys.length<=sizeLine) :
  Inv X pins σ (upd H s.heap.objs.size (.lst ys)) { s with heap:=s.heap.push { cls:=.type "list",data:=.seq its.toArray },toks:=t' } :=
 I.laid (λ_ _ q=>V3 _ q) (Wb _) ⟨hz,its,0,hv,Wk _ rfl⟩
theorem Inv.zZ(I:Inv X pins σ H s)(hH:H l=some (.lst xs)):xs.length<=sizeLine/\∃(its:List Value) (n:Nat),Vals xs its/\xs.length=its.length/\s.heap.get? l=some { cls:=.type "list",data:=.seq its.toArray n }:=by
 obtain⟨z,its,n,r,e⟩:=I.hok l _ hH;exact⟨z,its,n,r,r.length,e⟩
theorem rW{n:Nat}(h:n<=sizeLine):Builtin.List.listTooLong n=false:=by
 unfold Builtin.List.listTooLong;exact decide_eq_false (by omega)
end
section
variable {X:Cx}
def Dt:V->List V->Hp->VK->Prop:=λx vs H Q=>∃l xs y,x=.ref l/\vs=[y]/\H l=some (.lst xs)/\xs.length<sizeLine/\Q .non (upd H l (.lst (xs++[y])))
theorem pK:Pn X "list.append" Dt:=by
 intro pins s σ H x vs v us Q I rx rv h;obtain⟨l,xs,y,rfl,rfl,hH,hz,q⟩:=h;cases rx;obtain⟨u,rfl,ru⟩:=rv.one;obtain⟨z,its,n,r,hl,e⟩:=I.zZ hH;refine call_meets F.slot_list_append ⟨_,e,rfl⟩ F.entry_list_append (F.args_list_append_2 _ _) (PySem.list_append l its.toArray n u (by rw[Wd];omega)) ⟨e,?_⟩;refine⟨.non,_,I.Ds (its':=its++[u]) hH e (by simp) (r.append #[ru]) ?_,rfl,q⟩;rw[Wz,List.length_singleton];omega
def Du:V->List V->Hp->VK->Prop:=λx vs H Q=>∃l b xs zs,x=.ref l/\vs=[.ref b]/\H l=some (.lst xs)/\H b=some (.lst zs)/\xs.length+zs.length<=sizeLine/\Q .non (upd H l (.lst (xs++zs)))
theorem yu:Pn X "list.extend" Du:=by
 intro pins s σ H x vs v us Q I rx rv h;obtain⟨l,b,xs,zs,rfl,rfl,hH,hB,hz,q⟩:=h;cases rx;obtain⟨u,rfl,ru⟩:=rv.one;cases ru;obtain⟨z,its,n,r,hl,e⟩:=I.zZ hH;obtain⟨z2,its2,n2,r2,hl2,e2⟩:=I.zZ hB;have hsz:its.toArray.size+its2.toArray.size<=sizeLine:=by rw[Wd,Wd];omega
 have z5:¬ (!its.toArray.isEmpty&&Builtin.List.listTooLong (its.toArray.size+its2.toArray.size))=true:=by rw[rW hsz,Bool.and_false];exact V1
 refine call_meets F.slot_list_extend ⟨_,e,rfl⟩ F.entry_list_extend (F.args_list_extend_2 _ _)
  (AutoSeq1.list_extend_list_list_0 l its.toArray n b its2.toArray n2 z5 (by rw[Wd];omega) (by omega)) ⟨e,e2,?_⟩
 refine⟨.non,_,I.Ds (its':=its++its2) hH e (by simp) (r.append r2) ?_,rfl,q⟩;rw[Wz];omega
end
section
variable {κ:Type} [DecidableEq κ]
def gm(kvs:List (κ × V))(k:κ):Option V:=(kvs.find? λkv=>decide (kv.1=k)).map (·.2)
def putK(kvs:List (κ × V))(k:κ)(v:V):List (κ × V) :=
 if (kvs.any λkv=>decide (kv.1=k))=true then kvs.map (λkv=>if kv.1=k then (kv.1,v) else kv) else kvs++[(k,v)]
theorem m9{p:κ × V}{r:List (κ × V)}{k:κ}(e:p.1=k):gm (p::r) k=some p.2:=by simp[gm,find?_cons,e]
theorem ng{p:κ × V}{r:List (κ × V)}{k:κ}(e:¬ p.1=k):gm (p::r) k=gm r k:=by simp[gm,find?_cons,e]
theorem rX(k:κ):∀kvs:List (κ × V),(kvs.any λkv=>decide (kv.1=k))=(gm kvs k).isSome
 |[]=>rfl
 | p::r=>by
  rw[YE]
  by_cases e:p.1=k
  ·simp only[m9 e,decide_eq_true e,Bool.true_or,Option.isSome_some]
  ·rw[ng e,decide_eq_false e,Bool.false_or];exact rX k r
theorem iI(kvs:List (κ × V))(k:κ)(v:V):(putK kvs k v).length<=kvs.length+1:=by
 unfold putK
 split
 ·rw[V9];omega
 ·rw[Wz,WJ,YN];omega
theorem jZ.yv(r:jZ o u):o.isSome=u.isSome:=by
 cases o with
 | none=>cases u with
  |none=>rfl
  |some _=>exact(show False from r).elim
 | some _=>cases u with
  |none=>exact(show False from r).elim
  |some _=>rfl
theorem jZ.getD(r:jZ o u)(rd:RelV d d'):RelV (o.getD d) (u.getD d'):=by
 cases o with
 | none=>cases u with
  |none=>exact rd
  |some _=>exact(show False from r).elim
 | some _=>cases u with
  |none=>exact(show False from r).elim
  |some _=>exact r
theorem KV.val(r:KV kvs vs)(k:κ):jZ (gm kvs k) (valueAt vs k):=by
 unfold KV at r
 induction r with
 |nil=>exact Xe
 |@cons p q ps qs h t ih=>
  obtain⟨h1,h2⟩:=h
  by_cases e:p.1=k
  ·have e':q.1=k:=h1.symm.trans e
   have b:valueAt (q::qs) k=some q.2:=by simp[valueAt,find?_cons,e']
   rw[m9 e,b];exact h2
  ·have e':¬ q.1=k:=λz=>e (h1.trans z)
   have b:valueAt (q::qs) k=valueAt qs k:=by simp[valueAt,find?_cons,e']
   rw[ng e,b];exact ih
theorem KV.any(r:KV kvs vs)(k:κ):(kvs.any λkv=>decide (kv.1=k))=vs.any λkv=>decide (kv.1=k):=by
 unfold KV at r
 induction r with
 |nil=>rfl
 |cons h t ih=>rw[YE,YE,ih,h.1]
theorem KV.repl(r:KV kvs vs)(k:κ)(ry:RelV y u) :
  KV (kvs.map λkv=>if kv.1=k then (kv.1,y) else kv) (vs.map λkv=>if kv.1=k then (kv.1,u) else kv):=by
 unfold KV at r |-
 induction r with
 |nil=>exact .nil
 |@cons p q ps qs h t ih=>
  rw[Wm,Wm];refine .cons ?_ ih;obtain⟨h1,h2⟩:=h
  by_cases e:p.1=k
  ·rw[Wg e,Wg (h1.symm.trans e)];exact⟨h1,ry⟩
  ·rw[We e,We (λz=>e (h1.trans z))];exact⟨h1,h2⟩
theorem KV.put(r:KV kvs vs)(k:κ)(ry:RelV y u):KV (putK kvs k y) (stored vs k u):=by
 unfold putK stored;rw[r.any k]
 by_cases e:(vs.any λkv=>decide (kv.1=k))=true
 ·rw[Wg e,Wg e];exact r.repl k ry
 ·rw[We e,We e];exact Paired.snoc r ⟨rfl,ry⟩
theorem KV.length(r:KV kvs vs):kvs.length=vs.length:=YD r
end
theorem rY(r:RelV (kV k) u):(bB P w).is k u=true:=by
 cases k with
 |inl i=>obtain⟨t,e⟩:=(show ∃t,u=Value.int i t from r);subst e;exact rN P w i t
 |inr x=>obtain⟨t,e⟩:=(show ∃t,u=Value.str x t from r);subst e;exact rO P w x t
theorem pL:∀{ks:List Key} {us:List Value},Vals (ks.map kV) us->ItemsAre (bB P w) ks us
 |[],_,r=>by rw[X7]at r;cases r;exact .nil
 | k::ks,_,r=>by
  rw[Wm]at r;cases r with
  |cons h t=>exact .cons (rY h) (pL t)
abbrev KT(H:Hp):List (List Key×V)->List (List Key×Addr×Value)->Prop:=Paired λp q=>p.1=q.1/\H q.2.1=some (.tup (p.1.map kV))/\RelV p.2 q.2.2
theorem KT.val(r:KT H kvs xs)(k:List Key):jZ (gm kvs k) ((atKey xs k).map (·.2)):=by
 induction r with
 |nil=>exact Xe
 |@cons p q ps qs h t ih=>
  obtain⟨h1,_,h2⟩:=h
  by_cases e:p.1=k
  ·have e':q.1=k:=h1.symm.trans e
   have b:atKey (q::qs) k=some q.2:=by simp[atKey,find?_cons,e']
   rw[m9 e,b];exact h2
  ·have e':¬ q.1=k:=λz=>e (h1.trans z)
   have b:atKey (q::qs) k=atKey qs k:=by simp[atKey,find?_cons,e']
   rw[ng e,b];exact ih
theorem KT.repl(r:KT H kvs xs)(k:List Key)(ry:RelV y u) :
  KT H (kvs.map λkv=>if kv.1=k then (kv.1,y) else kv) (xs.map (putAt k u)):=by
 induction r with
 |nil=>exact .nil
 |@cons p q ps qs h t ih=>
  rw[Wm,Wm];refine .cons ?_ ih;obtain⟨h1,h2,h3⟩:=h;unfold putAt
  by_cases e:p.1=k
  ·rw[Wg e,Wg (h1.symm.trans e)];exact⟨h1,h2,ry⟩
  ·rw[We e,We (λz=>e (h1.trans z))];exact⟨h1,h2,h3⟩
theorem KT.put(r:KT H kvs xs)(k:List Key)(hb:H b=some (.tup (k.map kV)))(ry:RelV y u) :
  KT H (putK kvs k y) (storedH xs k b u):=by
 have e:(kvs.any λkv=>decide (kv.1=k))=(atKey xs k).isSome:=by rw[rX,(r.val k).yv,Option.isSome_map]
 unfold putK storedH;rw[e]
 by_cases q:(atKey xs k).isSome=true
 ·rw[Wg q,Wg q];exact r.repl k ry
 ·rw[We q,We q];exact Paired.snoc r ⟨rfl,hb,ry⟩
theorem KT.keeps(r:KT H kvs xs)(ht:∀b ys,H b=some (.tup ys)->H' b=some (.tup ys)):KT H' kvs xs :=
 Paired.GZ r λ_ _ z=>⟨z.1,ht _ _ z.2.1,z.2.2⟩
section
variable {P:Program} {w:World} {H:Hp} {h:Heap} {a:Addr}
theorem F8(ok:iw P w H h)(e:Rd H a u):bx P w H h a u:=e.ok ok
theorem pM(ok:iw P w H h)(e:Rd H a (.dK kvs)):kvs.length<=sizeLine/\(a==sysModules)=false/\∃vs,KV kvs vs/\h.DictOf (bB P w) a vs :=
 show bx P w H h a (.dK kvs) from F8 ok e
theorem Ga(ok:iw P w H h)(e:H a=some (.dK kvs)):kvs.length<=sizeLine/\(a==sysModules)=false/\∃vs,KV kvs vs/\h.DictOf (bB P w) a vs:=pM ok (.inl e)
theorem qI(ok:iw P w H h)(e:H a=some (.tup (ks.map kV))):(tupleKind (bB P w)).is h ks a:=by
 obtain⟨_,its,r,o,h1,h2,n,h3⟩:=(show bx P w H h a (.tup (ks.map kV)) from ok a _ e);exact⟨o,its.toArray,n,h1,h2,h3,by simpa using pL r⟩
theorem rZ(ok:iw P w H h)(e:Rd H a (.dT kvs)):kvs.length<=sizeLine/\(a==sysModules)=false /\
  ∃xs,KT H kvs xs/\h.DictOfH (tupleKind (bB P w)) a xs:=by
 obtain⟨z,y,xs,r,o,es,ep,h1,h2,h3,h4,h5⟩:=(show bx P w H h a (.dT kvs) from F8 ok e);refine⟨z,y,xs,r,o,es,ep,h1,h2,h3,h4,λx hx=>?_,h5⟩;have all:∀{l:List (List Key×V)} {m:List (List Key×Addr×Value)},KT H l m->∀x∈m,(tupleKind (bB P w)).is h x.1 x.2.1:=by
  intro l m q
  induction q with
  |nil=>intro x hx;exact nomatch hx
  |@cons p q ps qs hq t ih=>
   intro x hx
   rcases Wf.mp hx with e|hx
   ·subst e;exact qI ok (by rw[<-hq.1];exact hq.2.1)
   ·exact ih x hx
 exact all r x hx
theorem Mv(ok:iw P w H h)(e:H a=some (.dT kvs)):kvs.length<=sizeLine/\(a==sysModules)=false /\
  ∃xs,KT H kvs xs/\h.DictOfH (tupleKind (bB P w)) a xs:=rZ ok (.inl e)
end
def mh(H:Hp)(a:Addr)(y:V)(r:Option V):Prop :=
 (∃kvs k,Rd H a (.dK kvs)/\y=kV k/\r=gm kvs k)\/∃kvs k b,Rd H a (.dT kvs)/\y=.ref b/\H b=some (.tup (k.map kV))/\r=gm kvs k
def Dv(H:Hp)(a:Addr)(y v:V)(H':Hp):Prop :=
 (∃kvs k,H a=some (.dK kvs)/\y=kV k/\kvs.length<sizeLine/\H'=upd H a (.dK (putK kvs k v))) \/
 ∃kvs k b,H a=some (.dT kvs)/\y=.ref b/\H b=some (.tup (k.map kV))/\kvs.length<sizeLine/\H'=upd H a (.dT (putK kvs k v))
theorem mh.k{H:Hp}{a:Addr}{kvs:List (Key×V)}{k:Key}(e:H a=some (.dK kvs)):mh H a (kV k) (gm kvs k):=.inl ⟨kvs,k,.inl e,rfl,rfl⟩
theorem Dv.k{H:Hp}{a:Addr}{kvs:List (Key×V)}{k:Key}{v:V}(e:H a=some (.dK kvs))(hl:kvs.length<sizeLine):Dv H a (kV k) v (upd H a (.dK (putK kvs k v))):=.inl ⟨kvs,k,e,rfl,hl,rfl⟩
section
variable {X:Cx} {pins:List (Addr×Obj)} {σ:St} {H:Hp} {s:Shared} {a:Addr} {y v:V} {u r:Value} {o:Option V} {A:Around} {E:Value->Shared->Prop}
theorem Inv.big(I:Inv X pins σ H s):sysModules<s.heap.objs.size:=by
 have h:mainGlobals<s.heap.objs.size:=(I.mod.glob.keeps I.bk).lt;exact lt_trans (by decide) h
theorem yw(hu:A.units+1<cLine)(I:Inv X pins σ H s)(g:mh H a y (some v))(ry:RelV y u)(h:∀w' s',Inv X pins σ H s'->RelV v w'->Q w' s') :
  wpAny (model X.prog X.w) A (getItem (.ref a) u) Q E s:=by
 rcases g with ⟨kvs,k,e,ey,l⟩|⟨kvs,k,b,e,ey,eb,l⟩
 ·subst ey;obtain⟨z,hd,vs,rel,dd⟩:=pM I.hok e;obtain⟨w',hw,rw'⟩:=jZ.some_of (v:=v) (o:=valueAt vs k) (by rw[l];exact rel.val k);exact wpAny_getItem_of (rY ry) dd.mapOf hw (h w' _ (I.tok _) rw')
 ·subst ey;cases (show u=Value.ref b from ry);obtain⟨z,hd,xs,rel,dd⟩:=rZ I.hok e;obtain⟨w',hw,rw'⟩:=jZ.some_of (v:=v) (o:=(atKey xs k).map (·.2)) (by rw[l];exact rel.val k);obtain⟨p,hp,hp2⟩:=Wu.mp hw;refine wpAny_getItem_heap (Yv hu) (qI I.hok eb) dd hp ?_;rw[hp2];exact h w' _ (I.tok _) rw'
theorem qJ{t':Nat}(I:Inv X pins σ H s)(mu:LK (H a))(hs:Heap.SameBut a s.heap h')(he:∃q,h'.get? a=some q)(new:bx X.prog X.w (upd H a ob) h' a ob) :
  Inv X pins σ (upd H a ob) { s with heap:=h',toks:=t' } :=
 I.write (x:=a) (e:=a) mu (.inl rfl) (λb q hb z=>(hs.2 b hb).trans z) he new
theorem z6(z:kvs.length<=sizeLine)(hd:(a==sysModules)=false)(rel:KV kvs vs)(dd:h'.DictOf (bB P w) a vs) :
  bx P w H' h' a (.dK kvs):=⟨z,hd,vs,rel,dd⟩
theorem yx(hu:A.units+1<cLine)(I:Inv X pins σ H s)(g:Dv H a y v H')(ry:RelV y u)(rv:RelV v r)(h:∀s',Inv X pins σ H' s'->Q () s') :
  wpAny (model X.prog X.w) A (setItem (.ref a) u r) Q E s:=by
 rcases g with ⟨kvs,k,e,ey,l,eH⟩|⟨kvs,k,b,e,ey,eb,l,eH⟩
 ·subst ey eH
  obtain⟨z,hd,vs,rel,dd⟩:=Ga I.hok e;have hz:vs.length<=sizeLine:=by rw[<-rel.length];exact z
  have hl:(putK kvs k v).length<=sizeLine:=by have:=iI kvs k v;omega
  refine wpAny_setItem_pairs (hsz:=hz) (rY ry) dd λh' HZ hs=>h _ ?_;have he:∃q,h'.get? a=some q:=let ⟨q,_,_,hq,_⟩:=HZ;⟨q,hq⟩
  exact qJ I (by rw[e];exact Xe) hs he (z6 hl hd (rel.put k rv) HZ)
 ·subst ey eH
  cases (show u=Value.ref b from ry);obtain⟨z,hd,xs,rel,dd⟩:=Mv I.hok e;have hz:xs.length<=sizeLine:=by rw[<-YD rel];exact z
  have hl:(putK kvs k v).length<=sizeLine:=by have:=iI kvs k v;omega
  refine wpAny_setItem_heap (hsz:=hz) (Yv hu) (qI I.hok eb) dd λh' HZ hs=>h _ ?_;obtain⟨q,es,ep,hq,h2,h3,h4,_,h5⟩:=HZ;refine qJ I (by rw[e];exact Xe) hs ⟨q,hq⟩ ⟨hl,hd,_,(rel.put k eb rv).keeps λc ys ec=>?_,q,es,ep,hq,h2,h3,h4,h5⟩;rw[ao (LJ ec e (λz=>nomatch z))];exact ec
end
section
variable {X:Cx} {pins:List (Addr×Obj)} {σ:St} {H:Hp} {s:Shared} {a:Addr} {kvs:List (Key×V)} {k:Key} {u:Value} {A:Around} {E:Value->Shared->Prop}
theorem Mw(I:Inv X pins σ H s)(e:Rd H a (.dK kvs))(h:∀t s',Inv X pins σ H s'->Q (.int kvs.length t) s'):wpAny (model X.prog X.w) A (call (.builtin "len") [.ref a]) Q E s:=by
 obtain⟨z,hd,vs,rel,dd⟩:=pM I.hok e;refine call_len_dict hd dd (by rw[<-rel.length];rw[W0]at z;omega) ?_;rw[<-rel.length];exact h _ _ (I.tok _)
end
theorem r6(I:Inv X pins σ H s)(g:mh H a y o):s.TypeIs (.ref a) "dict":=by
 rcases g with ⟨kvs,k,e,_,_⟩|⟨kvs,k,b,e,_,_,_⟩
 ·obtain⟨_,_,vs,_,dd⟩:=pM I.hok e;exact dd.typeIs
 ·obtain⟨_,_,xs,_,dd⟩:=rZ I.hok e;exact dd.typeIs
theorem r8(h:Heap)(hb:sysModules<h.objs.size):bx P w H (h.push { cls:=.type "dict",data:=.dict #[] }) h.objs.size (.dK []) :=
 ⟨Xn _,WX.mpr (Ne.symm (Wj hb)),[],.nil,Heap.DictOf.new h⟩
def Ia:TE:=λ_ H Q=>∀p,H p=none->Q (.ref p) (upd H p (.dK []))
section
variable {X:Cx} {pos:Pos}
theorem z7:PE X (.Dict [] [] pos) Ia:=λpins s σ H Q I h=>
 wpAny_Dict_empty ⟨.ref s.heap.objs.size,_,I.laid (a:=s.heap.objs.size) (o:=.dK []) (t':=s.toks) (λ_ _ q=>V3 _ q) (Wb _) (r8 s.heap I.big),rfl,h _ (I.hok.fresh (Wb _))⟩
end
def uY:List (TE×TE)->St->Hp->(List (V×V)->Hp->Prop)->Prop
 |[],_,H,Q=>Q [] H
 |(tk,tv)::r,σ,H,Q=>tk σ H λx H1=>tv σ H1 λy H2=>uY r σ H2 λps H3=>Q ((x,y)::ps) H3
abbrev VV:List (V×V)->List (Value×Value)->Prop:=Paired λp q=>RelV p.1 q.1/\RelV p.2 q.2
def Po(X:Cx)(pos:Pos)(keys:List (Option Expr))(values:List Expr)(Ib:List (TE×TE)):Prop :=
 ∀(pins:List (Addr×Obj)) (s:Shared) (σ:St) (H:Hp) (Q:List (V×V)->Hp->Prop),Inv X pins σ H s->uY Ib σ H Q ->
  wpAny (model X.prog X.w) X.A (evalPairs (pairTrees keys values X.env pos)) (λvs s'=>∃ps H',Inv X pins σ H' s'/\VV ps vs/\Q ps H') X.xe s
theorem Dw:Po X pos [] [] []:=λpins s σ H Q I h=>pairTrees_nil_walk ⟨[],H,I,.nil,h⟩
theorem z8(hk:PE X k tk)(hv:PE X v tv)(hr:Po X pos ks vs Ib) :
  Po X pos (some k::ks) (v::vs) ((tk,tv)::Ib):=λpins s σ H Q I h=>
 pairTrees_cons_walk (cu (hk pins s σ H _ I h) λu s1 ⟨x,H1,I1,rx,q1⟩=>cu (hv pins s1 σ H1 _ I1 q1) λw2 s2 ⟨y,H2,I2,ry,q2⟩=>
  cu (hr pins s2 σ H2 _ I2 q2) λws s3 ⟨ps,H3,I3,rel,q3⟩=>⟨(x,y)::ps,H3,I3,.cons ⟨rx,ry⟩ rel,q3⟩)
def k7(kvs more:List (Key×V)):List (Key×V):=more.foldl (λacc kv=>putK acc kv.1 kv.2) kvs
theorem KV.merge:∀{more:List (Key×V)} {rs:List (Key×Value)} {kvs:List (Key×V)} {vs:List (Key×Value)},KV more rs->KV kvs vs->KV (k7 kvs more) (merged vs rs):=by
 intro more rs kvs vs r;unfold KV at r
 induction r generalizing kvs vs with
 |nil=>intro q;exact q
 |@cons p q ps qs h t ih=>
  intro r0;have e:KV (putK kvs p.1 p.2) (stored vs q.1 q.2):=by have:=r0.put p.1 h.2;rw[<-h.1];exact this
  exact ih e
theorem jH:∀(more kvs:List (Key×V)),(k7 kvs more).length<=kvs.length+more.length
 |[],kvs=>by show kvs.length<=kvs.length+0;omega
 | p::r,kvs=>by
  have h1:=jH r (putK kvs p.1 p.2);have h2:=iI kvs p.1 p.2;show (k7 (putK kvs p.1 p.2) r).length<=_;rw[WJ];omega
theorem nh:∀{kvs:List (Key×V)} {ws:List (Value×Value)},VV (kvs.map λkv=>(kV kv.1,kv.2)) ws->∃rs,Carries (bB P w) ws rs/\KV kvs rs
 |[],_,r=>by rw[X7]at r;cases r;exact⟨[],Xe,.nil⟩
 | p::kvs,_,r=>by
  rw[Wm]at r;cases r with
  |@cons a b as bs h t=>obtain⟨rs,c,q⟩:=nh (P:=P) (w:=w) t;obtain⟨b1,b2⟩:=b;exact⟨(p.1,b2)::rs,⟨rY h.1,rfl,c⟩,.cons ⟨rfl,h.2⟩ q⟩
def Mx(Ib:List (TE×TE)):TE:=λσ H Q=>∀p,H p=none->uY Ib σ (upd H p (.dK [])) λps H2=>H2 p=some (.dK [])/\∃kvs:List (Key×V),ps=kvs.map (λkv=>(kV kv.1,kv.2))/\kvs.length<=15/\Q (.ref p) (upd H2 p (.dK (k7 [] kvs)))
theorem Dy(h:Po X pos keys values Ib)(hall:keys.all (·.isSome)=true)(hl:keys.length=values.length)(h0:keys≠[])
  (TN:keys.length<=15):PE X (.Dict keys values pos) (Mx Ib):=by
 intro pins s σ H Q I q;have hn:=I.hok.fresh (Wb s.heap.objs.size);have I1:=I.laid (a:=s.heap.objs.size) (o:=.dK []) (h':=s.heap.push { cls:=.type "dict",data:=.dict #[] }) (t':=s.toks) (λ_ _ q=>V3 _ q) (Wb _) (r8 s.heap I.big);refine wpAny_Dict_walk (knd:=bB X.prog X.w) hall hl h0 TN (cu (h pins _ σ _ _ I1 (q _ hn)) λws s2 aJ=>?_);obtain⟨ps,H2,I2,rel,e,kvs,ep,lk,q2⟩:=aJ;subst ep;obtain⟨rs,c,rk⟩:=nh (P:=X.prog) (w:=X.w) rel;obtain⟨z,hd,VN,r0,dd⟩:=Ga I2.hok e;cases r0;refine⟨rs,c,dd,λh' HZ hs=>⟨.ref s.heap.objs.size,_,?_,rfl,q2⟩⟩;have hz:(k7 [] kvs).length<=sizeLine:=by have h1:=jH kvs [];rw[YN]at h1;rw[W0];omega
 have he:∃q,h'.get? s.heap.objs.size=some q:=let ⟨q,_,_,hq,_⟩:=HZ;⟨q,hq⟩
 exact qJ I2 (by rw[e];exact Xe) hs he (z6 hz hd (rk.merge .nil) HZ)
structure M2 (X:Cx) (o:Expr) (m:Str) (apos:Pos) (e f:Expr) (cpos:Pos):Prop where
 base:attributeBase o m X.env (eval o X.env)=eval o X.env
 few:((backTo cpos (starEach [e,f] X.env)).all (λx=>!x.1)&&(backToKw cpos (keywordEach [] X.env)).all (λx=>x.1.isSome)
  && decide (([e,f]:List Expr).length+([]:List Keyword).length+(if ([]:List Keyword).isEmpty then 0 else 1)<30))=true
 line:(apos.endLine==cpos.line)=true
 trees:backTo cpos (starEach [e,f] X.env)=[(false,eval e X.env),(false,eval f X.env)]
def Sh(H:Hp)(a:Addr):Prop:=(∃kvs,Rd H a (.dK kvs))\/∃kvs,Rd H a (.dT kvs)
theorem Ic(I:Inv X pins σ H s)(d:Sh H a) :
  s.TypeIs (.ref a) "dict" /\ (∀b,Value.ref a=.ref b->∃ob,s.heap.get? b=some ob/\ob.dict=none)/\(a==sysModules)=false:=by
 rcases d with ⟨kvs,e⟩|⟨kvs,e⟩
 ·obtain⟨_,hd,vs,_,dd⟩:=pM I.hok e;refine⟨dd.typeIs,λb q=>?_,hd⟩;cases q;obtain⟨ob,_,_,h1,h2,_⟩:=dd;exact⟨ob,h1,h2.2.1⟩
 ·obtain⟨_,hd,xs,_,dd⟩:=rZ I.hok e;refine⟨dd.typeIs,λb q=>?_,hd⟩;cases q;obtain⟨ob,_,_,h1,h2,_⟩:=dd;exact⟨ob,h1,h2.2.1⟩
section
variable {X:Cx} {pins:List (Addr×Obj)} {σ:St} {H:Hp} {s:Shared} {a:Addr} {y d:V} {u r:Value} {o:Option V} {A:Around} {E:Value->Shared->Prop}
theorem Ie(hu:A.units+1<cLine)(I:Inv X pins σ H s)(g:mh H a y o)(ry:RelV y u)(rd:RelV d r)(h:∀w' s',Inv X pins σ H s'->RelV (o.getD d) w'->Q w' s') :
  wpAny (model X.prog X.w) A (call (.builtin "dict.get") [.ref a,u,r]) Q E s:=by
 rcases g with ⟨kvs,k,e,ey,l⟩|⟨kvs,k,b,e,ey,eb,l⟩
 ·subst ey;obtain⟨z,hd,vs,rel,dd⟩:=pM I.hok e;refine call_meetsIn Yd dd.typeIs PySem.F.entry_dict_get (PySem.F.args_dict_get_3 _ _ _) (meets_dict_get_default (bB X.prog X.w) a (rY ry) hd r) ⟨_,dd.mapOf,h _ _ (I.tok _) ?_⟩;rw[l];exact(rel.val k).getD rd
 ·subst ey;cases (show u=Value.ref b from ry);obtain⟨z,hd,xs,rel,dd⟩:=rZ I.hok e;refine call_meetsIn Yd dd.typeIs PySem.F.entry_dict_get (PySem.F.args_dict_get_3 _ _ _) (meetsH_dict_get_default (tupleKind (bB X.prog X.w)) a b hd r) ⟨Yv hu,k,xs,qI I.hok eb,dd,h _ _ (I.tok _) ?_⟩;rw[l];exact(rel.val k).getD rd
end
def Ig(td ty tx:TE):TE:=λσ H Q=>td σ H λx H1=>∃a,x=.ref a/\Sh H1 a/\ty σ H1 λy H2=>tx σ H2 λz H3=>∃o,mh H3 a y o/\Q (o.getD z) H3
section
variable {X:Cx} {o e f:Expr} {apos cpos:Pos} {td ty tx:TE}
theorem z9(hu:X.A.units+1<cLine)(ho:PE X o td)(he:PE X e ty)(hf:PE X f tx)(m:M2 X o "get" apos e f cpos):PE X (.Call (.Attribute o "get" apos) [e,f] [] cpos) (Ig td ty tx):=by
 intro pins s σ H Q I h;refine wpAny_Call_method m.base m.few m.line PySem.F.plainAttrs_dict Yd PySem.F.type_dict_get (cu (ho pins s σ H _ I h) λu s1 aJ=>?_);obtain⟨x,H1,I1,rx,a,ex,d,q1⟩:=aJ;subst ex;obtain rfl:u=Value.ref a:=rx;obtain⟨t1,t2,_⟩:=Ic I1 d;refine⟨t1,t2,?_⟩;rw[m.trees];refine Calls.callWith_builtin rfl (Calls.evalArgs_plain (Xu (cu (he pins s1 σ H1 _ I1 q1) λiv s2 ⟨y,H2,I2,ry,q2⟩=>
  Xu (cu (hf pins s2 σ H2 _ I2 q2) λfv s3 ⟨z,H3,I3,rz,ov,g,q3⟩=>X6 ?_))))
 exact Ie hu I3 g ry rz λw' s4 I4 rw'=>⟨_,H3,I4,rw',q3⟩
end
end L2
namespace Si
open PySem PySem.W PySem.Calls PyProof.Rows
theorem mj:∀(ns:List Int) (vs:List Value),WellAll P h vs (ns.map WData.int)->IntsAre vs ns:=by
 intro ns
 induction ns with
 |nil=>intro vs w;rw[X7]at w;cases w;exact .nil
 |cons n ns ih=>
  intro vs w;rw[Wm]at w;cases w with
  |cons a b=>cases a;exact .cons _ _ (ih _ b)
theorem yy{l:OpenLaw}{n:Nat}(hn:l.most=some n){P:Params}{h:Heap}{args:List WData}{vals:List Value}
  (hpre:l.row.toRowW.claim.pre args=true) (hwl:WellAll P h vals args) :
  ∃a vs ns,vals=[Value.ref a]/\args=[WData.list (ns.map WData.int)]/\h.get? a=some { cls:=.type "list",data:=.seq vs.toArray }/\IntsAre vs ns/\ns.length<=n:=by
 have hsh:WShape.hasAll [] args [.list .int]=true:=(pre_splitW hpre).1;have hc:l.pre.holds [] { args:=args }=true:=(pre_splitW hpre).2;obtain⟨d,r,rfl,h1,h2⟩:=hasAllW_cons hsh;obtain rfl:=hasAllW_nil h2;obtain⟨xs,rfl,h3⟩:=hasW_list h1;obtain⟨ns,rfl⟩:=items_int h3;have hlen:ns.length<=n:=by
  unfold OpenLaw.pre at hc;have h4:(WTm.not (.lt (.lit (.int (n:Int))) (.len (.arg 0)))).holds [] { args:=[.list (ns.map .int)] }=true:=by have h4:=(holds_andW hc).1;rw[hn]at h4;exact h4
  have h5:=condW_of h4 (w_not (w_lt w_lit (w_len_list (w_arg rfl))));rw[V9]at h5;refine Nat.le_of_not_lt λq=>?_;have q':(n:Int)<((ns.length:Nat):Int):=by omega
  first
   |(rw[decide_eq_true q']at h5;exact absurd h5 (by decide))
   |(simp at h5;omega)
 cases hwl with
 |cons w1 w2=>
  cases w2;cases w1 with
  |list ho hall=>exact⟨_,_,ns,rfl,rfl,ho,mj ns _ hall,hlen⟩
theorem yz(l:OpenLaw)(args:List WData):l.row.toRowW.claim.post args (.bool true) args=true :=
 postW_of (r:=l.row.toRowW) (X:=(true==true))
  (show WShape.has [] (.bool true) .bool=true by first|rfl|decide|simp[WShape.has,WShape.arms,WShape.armsAll])
  (show (WTm.eq .res (.lit (.bool true))).value [] { args:=args,res:=some (.bool true),after:=args }=some (.bool (true==true)) from w_eq_bool (w_res rfl) w_lit) rfl
theorem r9{l:OpenLaw}{n:Nat}{q:Program}{loose:List Str}{XP:(Str->Option Value)->Heap->Prop}{YP:World->Heap->Prop}{d:DefRec}
  (hn:l.most=some n) (hdf:d.params.defaults=[])
  (call:∀(w:World) (s₀ s₁:Shared) (mg mb:Str->Option Value) (fa:Addr) (o:Obj) (pm cd doc:Value) (a:Addr) (vs:List Value) (ns:List Int),
   Ground q loose [] XP w s₀ mg mb s₁.heap->YP w s₁.heap ->
   s₁.heap.get? fa=some o->o.data=.func (docDef d.name d.params d.body d.scope pm cd doc)->s₁.heap.CodeRec cd d.name->mg d.name=some (.ref fa) ->
   s₁.heap.get? a=some { cls:=.type "list",data:=.seq vs.toArray }->IntsAre vs ns->ns.length<=n->s₁.gens = #[] ->
   codeAny (model l.prog w) callerA (.call (.ref fa) ⟨[.ref a],[]⟩) (λr s'=>r=.ok (.ret (.bool true))/\OldK s₁.heap s'.heap/\s'.os=s₁.os/\AllBare s'.gens) s₁) :
  WalkO q loose XP YP l.row.toRowW d [] (λf vs=>PySem.call f vs):=by
 intro w s₀ s₁ mg mb G Y fa o pm cd doc dV kV ho hd hcd hD hmg hg args vals as hpre hlay hrd hwl hlo;obtain rfl:dV=.none:=Dflts.none hD hdf;obtain rfl:kV=.none:=Dflts.noKw hD;obtain⟨a,vs,ns,rfl,rfl,hobj,hints,hlen⟩:=yy hn hpre hwl;refine enter_call (Xv (call w s₀ s₁ mg mb fa o pm cd doc a vs ns G Y ho (fd_plain hd) hcd hmg hobj hints hlen hg) λr s' hq=>?_);obtain⟨rfl,h2,h3,h4⟩:=hq;exact⟨.inl ⟨.bool true,.bool true,[],rfl,λ_=>rfl,.bool true,yz l _,λ_=>⟨List.Pairwise.nil,λ_ hm=>(nomatch hm)⟩⟩,h2,h3,h4⟩
end Si
namespace L2
open PySem PySem.Spec PyProof.Rows
theorem jm:∀{vs:List Value} {ns:List Int},IntsAre vs ns->Vals (ns.map V.int) vs
 |_,_,.nil=>.nil
 |_,_,.cons n t h=>.cons ⟨t,rfl⟩ (jm h)
def Aa(H:Hp):Prop:=∀b,H b=none\/∃o xs,H b=some (.pq o (.lst xs))
theorem Ab{P:Program}{w:World}{K:Frag}{mg mb:Str->Option Value}{CX:uT}{k:Nat}{fa a:Addr}{fd:FuncData}{x:Str}{sp:Sp}{s₁:Shared}{vs:List Value}{ns:List Int}
  (KX:K.In s₁.heap) (hns:s₁.heap.Ns mainGlobals mg) (hb:s₁.heap.Ns builtinsNs mb) (Pp:∀x:Str,x ≠ "__name__" -> mb x=bootBuiltins x) (hlim:s₁.heap.NoLimit) (hg:s₁.gens = #[])
  (ha:s₁.heap.get? a=some { cls:=.type "list",data:=.seq vs.toArray }) (hi:IntsAre vs ns) (hl:ns.length<=sizeLine) (hr:cY k callerA)
  (F:∀base:Heap,K.In base->base.Ns mainGlobals mg->dJ P w K mg base CX k fa fd [x] sp) (hbind:∀(s:Shared) (u:Value),BindsTo s fd ⟨[u],[]⟩ [(x,u)])
  (hsp:∀H:Hp,Aa H->fQ K H a (ns.map V.int)->sp [.ref a] H (λv _=>v=.bl true) λ_ _ _=>False)
  (hCX:∀H e s',CX [] H s₁ (λ_ _ _=>False) e s'->False) :
  codeAny (model P w) callerA (.call (.ref fa) ⟨[.ref a],[]⟩) (λr s'=>r=.ok (.ret (.bool true))/\OldK s₁.heap s'.heap/\s'.os=s₁.os/\AllBare s'.gens) s₁:=by
 have rv:=jm hi;have Qp:=hi.length;have core:∀H:Hp,Aa H->fQ K H a (ns.map V.int)->iw P w H s₁.heap->(∀b,H b≠none->b=a)->(H a≠none->K.lookup a=none) ->
   codeAny (model P w) callerA (.call (.ref fa) ⟨[.ref a],[]⟩) (λr s'=>r=.ok (.ret (.bool true))/\OldK s₁.heap s'.heap/\s'.os=s₁.os/\AllBare s'.gens) s₁:=by
  intro H hO hS hok hA hK;have base_of:∀{b:Addr} {o:Obj},s₁.heap.get? b=some o->H b=none->(qA s₁.heap H).get? b=some o:=λe n=>zG e n;have noA:∀{b:Addr} {o:Obj} {es:Array DictEntry} {ep:Nat},s₁.heap.get? b=some o->o.data=.dict es ep->H b=none:=λ{b o es ep} e d=>by
   cases q:H b with
   |none=>rfl
   |some u=>have e':b=a:=hA b (by rw[q];simp);subst e';rw[ha]at e;cases e;have d':Data.seq vs.toArray _=Data.dict es ep:=d;cases d'
  have nsK:∀{b:Addr} {m:Str->Option Value},s₁.heap.Ns b m->(qA s₁.heap H).Ns b m:=λ{b m} ⟨o,es,ep,e,d,r⟩=>⟨o,es,ep,base_of e (noA e d),d,r⟩;have Sj:K.In (qA s₁.heap H):=λb o e=>base_of (KX b o e) (by
   cases q:H b with
   |none=>rfl
   |some u=>have e':b=a:=hA b (by rw[q];simp);subst e';rw[hK (by rw[q];simp)]at e;cases e)
  have hM:Mod K mg (qA s₁.heap H):=⟨Sj,nsK hns,⟨mb,nsK hb,Pp⟩,let ⟨mc,h1,h2⟩:=hlim;⟨mc,nsK h1,h2⟩⟩;have e0:uU P w K mg (qA s₁.heap H) callerA [] s₁ H:=⟨rfl,hM,λb o e=>CY e,Nat.le_of_eq (ye _ _),trivial,λb hb=>absurd (show b∈([]:List Addr) from hb) (by simp),hok,.of_eq hg⟩;refine Xv ((F _ Sj (nsK hns)).run callerA [] s₁ H ⟨[.ref a],[]⟩ [.ref a] [.ref a] _ _ hr e0 (hbind s₁ (.ref a)) #[rfl] (hsp H hO hS)) λr s' h=>?_;cases r with
  |error e=>exact(hCX H e s' h).elim
  |ok fl=>
   cases fl with
   |next=>exact False.elim h
   |brk=>exact False.elim h
   |cont=>exact False.elim h
   |ret u=>
    obtain⟨v,H',os,bare,un,Qq,r',q⟩:=h;have q':v=.bl true:=q;subst q';obtain rfl:u=Value.bool true:=r';refine⟨rfl,OldK.of_keep λb o e=>?_,os,bare⟩;cases q:H b with
    |none=>exact un.keep b o e q (by intro z;exact absurd (show b∈([]:List Addr) from z) (by simp)) (by simp)
    |some u=>
     rcases hO b with z|⟨ob,xs,z⟩
     ·rw[q]at z;cases z
     ·have z2:=un.frzs b ob _ z;obtain⟨e1,_⟩:=hok b _ z;obtain⟨e2,_⟩:=Qq b _ z2;rw[e]at e1;cases e1;exact e2
 cases hk:K.lookup a with
 |some o=>have e:=KX a o hk;rw[ha]at e;cases e;refine core (λ_=>none) (λ_=>.inl rfl) (.inr ⟨_,vs.toArray,_,hk,rfl,rfl,rfl,by rw[Wd,Qp];exact hl,by simpa using rv⟩) (λb u z=>by have z':(none:Option HO)=some u:=z;cases z') (λb z=>absurd rfl z) λz=>absurd rfl z
 |none=>
  refine core (λb=>if b=a then some (.pq { cls:=.type "list",data:=.seq vs.toArray } (.lst (ns.map V.int))) else none) (λb=>?_) (.inl (.inr ⟨{ cls:=.type "list",data:=.seq vs.toArray },Wg rfl⟩)) (λb u z=>?_) (λb z=>?_) λ_=>hk
  ·by_cases hb:b=a
   ·exact .inr ⟨_,_,Wg hb⟩
   ·exact .inl (We hb)
  ·by_cases hb:b=a
   ·have z':=(Wg hb).symm.trans z;cases z';subst hb;exact⟨ha,by rw[V9];exact hl,vs,_,rv,ha⟩
   ·have z':=(We hb).symm.trans z;cases z'
  ·by_cases hb:b=a
   ·exact hb
   ·exact absurd (We hb) z
theorem Dz{l:PySem.W.OpenLaw}{n k:Nat}{q:Program}{loose:List Str}{XP:(Str->Option Value)->Heap->Prop}{YP:World->Heap->Prop}{d:DefRec}{K:Params->Frag}{CX:World->uT}{sp:World->Sp}{x:Str}
  (hn:l.most=some n) (hn2:n<=sizeLine) (hdf:d.params.defaults=[]) (hr:cY k callerA)
  (hY:∀(w:World) (h:Heap),YP w h->(K w.params).In h)
  (F:∀(w:World) (mg:Str->Option Value) (fa:Addr) (h:Heap),(K w.params).In h->h.Ns mainGlobals mg->mg d.name=some (.ref fa) ->
   ∃fd:FuncData,(∀(s:Shared) (u:Value),BindsTo s fd ⟨[u],[]⟩ [(x,u)]) /\
    ∀base:Heap,(K w.params).In base->base.Ns mainGlobals mg->dJ l.prog w (K w.params) mg base (CX w) k fa fd [x] (sp w))
  (hsp:∀(w:World) (H:Hp) (a:Addr) (ns:List Int),ns.length<=n->Aa H->fQ (K w.params) H a (ns.map V.int)->sp w [.ref a] H (λv _=>v=.bl true) λ_ _ _=>False)
  (hCX:∀(w:World) (H:Hp) (s:Shared) (e:Value) (s':Shared),CX w [] H s (λ_ _ _=>False) e s'->False) :
  PySem.W.WalkO q loose XP YP l.row.toRowW d [] (λf vs=>PySem.call f vs):=by
 refine Si.r9 hn hdf λw s₀ s₁ mg mb fa o pm cd doc a vs ns G Y ho hd hcd hmg hobj hints hlen hg=>?_;have KX:=hY w _ Y;obtain⟨fd,hb,hF⟩:=F w mg fa _ KX G.T.g hmg;exact Ab KX G.T.g G.T.b G.T.builtins G.T.nolimit hg hobj hints (Wx hlen hn2) hr hF hb (λH hO hS=>hsp w H a ns hlen hO hS) λH e s'=>hCX w H s₁ e s'
def j8(s:Stmt):Arguments:=match s with
 |.FunctionDef _ a _ _ _ _ _ _ _ _=>a
 |_=>{ posonlyargs:=[],args:=[],vararg:=none,kwonlyargs:=[],kw_defaults:=[],kwarg:=none,defaults:=[] }
def aA(s:Stmt):List Stmt:=match s with
 |.FunctionDef _ _ b _ _ _ _ _ _ _=>b
 |_=>[]
def af(s:Stmt):Scope:=match s with
 |.FunctionDef _ _ _ _ _ _ sc _ _ _=>sc
 |_=>{ kind:=.function,names:=[],isGenerator:=false,isCoroutine:=false }
abbrev CQ:uT:=λ_ _ _ _ _ _=>False
abbrev E0:XK:=λ_ _ _=>False
theorem My:Passes CQ X E0:=λ_ _ _ _ _ _ _ h=>h.elim
structure CS (K:Frag) (x qual:Str) (st:Stmt) (f:Addr) (fd:FuncData):Prop where
 ex:∃(oc:Value) (od:Option Addr) (kV doc pm:Value) (an:Option Addr) (cdv ct:Value) (osl:Array (Option Value)),
  fd=fnOf x qual (j8 st) (aA st) (af st) .none kV doc pm an cdv ct/\K.lookup f=some ⟨oc,od,.func fd,osl⟩/\codeIn K cdv qual=true
 kp:keepIn K (.ref f)=true
section
variable {P:Program} {w:World} {K:Frag} {mg:Str->Option Value} {base:Heap}
theorem CS.ok{x qual:Str}{st:Stmt}{f:Addr}{fd:FuncData}{N ps:List Str}{k:Nat}{sp:Sp}(F:CS K x qual st f fd)(S:j6 N ps (af st))(len:∀vs H Q E,sp vs H Q E->vs.length=ps.length)
  (hbody:∀(cdv:Value) (A:Around) (outer:List Env) (s:Shared) (H:Hp) (vs:List V) (Q:VK) (E:XK),cY k (A.deeper (envOfC qual (af st) s.heap.objs.size f cdv))->sp vs H Q E ->
   ∃t,oM (gO CQ P w K mg base N qual (af st) f cdv A outer s H E).CO (aA st) t/\t { nx:=λ_ H'=>Q .non H',rt:=Q } (start N vs) H):dJ P w K mg base CQ (k+1) f fd ps sp:=by
 obtain⟨oc,od,kV,doc,pm,an,cdv,ct,osl,rfl,lk,hcd⟩:=F.ex;refine zW lk hcd S len λA outer s H vs Q E hr hsp=>?_;obtain⟨t,h,q⟩:=hbody cdv A outer s H vs Q E hr hsp;exact⟨t,h.CO,q⟩
theorem CS.binds{x qual:Str}{st:Stmt}{f:Addr}{fd:FuncData}{ps:List Str}(F:CS K x qual st f fd)
  (h:∀(kV doc pm:Value) (an:Option Addr) (cdv ct:Value) (us:List Value),us.length=ps.length->bindArgs (fnOf x qual (j8 st) (aA st) (af st) .none kV doc pm an cdv ct) ⟨us,[]⟩=pure (ps.zip us)):Binds K fd ps []:=by
 obtain⟨oc,od,kV,doc,pm,an,cdv,ct,osl,rfl,lk,hcd⟩:=F.ex;exact .all (h kV doc pm an cdv ct)
theorem fun_mk{x qual:Str}{st:Stmt}{f:Addr}{oc:Value}{od an:Option Addr}{osl:Array (Option Value)}{kV doc pm cdv ct:Value}(l:K.lookup f=some ⟨oc,od,.func (fnOf x qual (j8 st) (aA st) (af st) .none kV doc pm an cdv ct),osl⟩)
  (c:codeIn K cdv qual=true) (k:keepIn K (.ref f)=true):CS K x qual st f (fnOf x qual (j8 st) (aA st) (af st) .none kV doc pm an cdv ct):=⟨⟨oc,od,kV,doc,pm,an,cdv,ct,osl,rfl,l,c⟩,k⟩
end
section
variable {X:Cx}
theorem yC:bN X (.builtin "len") (λxs H Q=>∃a kvs,xs=[V.ref a]/\H a=some (.dK kvs)/\Q (.int kvs.length) H):=by
 intro pins s σ H xs us Q I r h;obtain⟨a,kvs,rfl,ha,q⟩:=h;obtain⟨u,rfl,ru⟩:=vals1 r;cases ru;exact Mw I (.inl ha) λt s' I'=>⟨.int kvs.length,H,I',⟨t,rfl⟩,q⟩
end
def uZ(H H':Hp):Prop:=∀b o,H b=some o->H' b=some o
theorem uZ.seq{K:Frag}{H H':Hp}{a:Addr}{xs:List V}(e:uZ H H')(h:fQ K H a xs):fQ K H' a xs:=by
 rcases h with (h|⟨o,h⟩)|h
 ·exact .inl (.inl (e _ _ h))
 ·exact .inl (.inr ⟨o,e _ _ h⟩)
 ·exact .inr h
theorem jO(env:Env):∀(names:List (Str×NameKind)) (acc:List (Str×Addr)),(∀y∈names,y.2=.free->∃c,env.cells.lookup y.1=some c) ->
  (∀x c,acc.lookup x=some c->env.cells.lookup x=some c) ->
  ∃cl,(forIn names acc λx r=>if (x.snd==NameKind.free)=true then do let c <-cellOf env x.fst;pure (ForInStep.yield ((x.fst,c)::r)) else pure (ForInStep.yield r))=(pure cl:Sem (List (Str×Addr))) /\
   (∀x c,cl.lookup x=some c->env.cells.lookup x=some c)/\∀x,((x,NameKind.free)∈names\/∃c,acc.lookup x=some c)->∃c,cl.lookup x=some c
 |[],acc,_,ha=>⟨acc,rfl,ha,λx h=>h.elim (λz=>nomatch z) λz=>z⟩
 | (n,k)::r,acc,hn,ha=>by
  have hr:∀y∈r,y.2=NameKind.free->∃c,env.cells.lookup y.1=some c:=λy hy=>hn y (V5 _ hy)
  by_cases hk:k=.free
  ·subst hk
   obtain⟨c,hc⟩:=hn (n,.free) V8 rfl;have ha':∀x d,((n,c)::acc).lookup x=some d->env.cells.lookup x=some d:=λx d h=>by
    rw[lookup_cons]at h;cases e:x==n with
    |true=>rw[e]at h;have e':x=n:=eq_of_beq e;cases h;rw[e'];exact hc
    |false=>rw[e]at h;exact ha x d h
   obtain⟨cl,e1,e2,e3⟩:=jO env r ((n,c)::acc) hr ha';refine⟨cl,?_,e2,λx h=>?_⟩
   ·rw[List.forIn_cons]
    have hco:cellOf env n=pure c:=by unfold cellOf;rw[hc]
    simp only[beq_self_eq_true,if_true,hco];exact e1
   ·by_cases hx:x=n
    ·subst hx;exact e3 x (.inr ⟨c,by simp[lookup_cons]⟩)
    ·rcases h with h|⟨d,h⟩
     ·rcases Wf.mp h with z|z
      ·exact absurd (Xb Prod.fst z) hx
      ·exact e3 x (.inl z)
     ·refine e3 x (.inr ⟨d,?_⟩);rw[lookup_cons];have:(x==n)=false:=WX.mpr hx;rw[this];exact h
  ·have hb:(k==NameKind.free)=false:=WX.mpr hk
   obtain⟨cl,e1,e2,e3⟩:=jO env r acc hr ha;refine⟨cl,?_,e2,λx h=>e3 x ?_⟩
   ·rw[List.forIn_cons];simp only[hb,false_eq_true,if_false];exact e1
   ·rcases h with h|h
    ·rcases Wf.mp h with z|z
     ·cases z;exact absurd rfl hk
     ·exact .inl z
    ·exact .inr h
theorem nj(h:∀y∈scope.names,y.2=.free->∃c,env.cells.lookup y.1=some c) :
  ∃cl,closureFor scope env=pure cl/\(∀x c,cl.lookup x=some c->env.cells.lookup x=some c)/\∀x,(x,NameKind.free)∈scope.names->∃c,cl.lookup x=some c:=by
 obtain⟨cl,e1,e2,e3⟩:=jO env scope.names [] h (λx c z=>by simp at z);refine⟨cl,?_,e2,λx hx=>e3 x (.inl hx)⟩;unfold closureFor;simp only[bind_pure];exact e1
def bz(X:Cx)(scope:Scope)(N':List Str)(cl:List (Str×Addr))(C:Addr)(s:Shared)(H:Hp)(fp:List Addr):Cx :=
 { prog:=X.prog,w:=X.w,K:=X.K,mg:=X.mg,base:=X.base,A:=X.A,N:=N',s₀:=s,H₀:=H,env:=compEnvC scope cl C X.env,outer:=X.stack,stack:=X.stack,ex:=fp,fn:=λ_=>false,calm:=X.calm,pn:=[],xe:=λ_ _=>False }
def gP(js:List (Option Nat))(σ:St):St:=js.map λo=>match o with
 |none=>none
 | some j=>match σ[j]? with
  |some (some v)=>some v
  |_=>none
def qK(sc:Scope)(x:Str):Bool:=sc.names.lookup x==some .cell||sc.names.lookup x==some .free
def jn(XN:List Str)(xsc scope:Scope)(N':List Str)(js:List (Option Nat)):Bool :=
 scope.kind==.function&&(scope.names.all λy=>y.2 != .local||scope.names.lookup y.1==some .local)&&(scope.names.all λy=>y.2 != .cell) &&
 (scope.names.all λy=>y.2 != .free||(qK xsc y.1&&scope.names.lookup y.1==some .free))&&js.length==N'.length &&
 ((N'.zip js).all λp=>match p.2 with|none=>true|some j=>XN[j]?==some p.1&&scope.names.lookup p.1==some .free)
structure qL (X:Cx) (scope:Scope) (N':List Str) (js:List (Option Nat)):Prop where
 kind:scope.kind=.function
 names:∀y∈scope.names,y.2=.local->scope.names.lookup y.1=some .local
 Ac:∀y∈scope.names,y.2≠.cell
 free:∀y∈scope.names,y.2=.free->qK X.env.scope y.1=true/\scope.names.lookup y.1=some .free
 len:js.length=N'.length
 src:∀(i:Nat) (x:Str) (j:Nat),N'[i]?=some x->js[i]?=some (some j)->X.N[j]?=some x/\scope.names.lookup x=some .free
theorem pN(h:jn X.N X.env.scope scope N' js=true):qL X scope N' js:=by
 unfold jn at h;simp only[and_eq_true,all_eq_true]at h;obtain⟨⟨⟨⟨⟨h1,h2⟩,h3⟩,h4⟩,h5⟩,h6⟩:=h;refine⟨eq_of_beq h1,λy hy e=>?_,λy hy e=>?_,λy hy e=>?_,eq_of_beq h5,λi x j e1 e2=>?_⟩
 ·have:=h2 y hy;rw[e]at this;simpa using this
 ·have:=h3 y hy;rw[e]at this;simp at this
 ·have:=h4 y hy;rw[e]at this;simpa using this
 ·have hm:(x,some j)∈N'.zip js:=by
   refine Ye.mpr ⟨i,?_⟩;rw[XI];exact⟨e1,e2⟩
  have:=h6 _ hm;simpa using this
theorem jI(js:List (Option Nat))(σ:St):(gP js σ).length=js.length:=by unfold gP;rw[V9]
def DA(X:Cx)(ifs:List Expr)(t:TT):Prop :=
 ∀(pins:List (Addr×Obj)) (s:Shared) (σ:St) (H:Hp) (Q:Bool->Hp->Prop),Inv X pins σ H s->t σ H Q ->
  wpAny (model X.prog X.w) X.A (forIn ifs true λc r=>if r=true then do let ok <-isTrue c X.env (eval c X.env);pure (ForInStep.yield ok) else pure (ForInStep.yield r)) (TP X pins σ Q) X.xe s
def sd:TT:=λ_ H Q=>Q true H
theorem DC:DA X [] sd:=λ_ _ _ H _ I h=>wpAny_tests_nil ⟨H,I,h⟩
theorem DE(h:PT X c t):DA X [c] t:=λpins s σ H Q I hw=>wpAny_tests_one (h pins s σ H Q I hw)
def Ad(wi:TI)(js:List (Option Nat))(g:TG)(tt:TT)(te:TE):TE:=λσ H Q=>wi σ H λJ H1=>∀D,H1 D=none->∃W:Nat->Nat->St->Hp->Prop,(∃m,W 0 m (gP js σ) (upd H1 D (.lst []))) /\
 ∀i m σ' H,W i m σ' H->(J.stop i H/\Q (.ref D) H)\/(J.go i H/\∃N:St->Hp->Prop,(∀zC H',N zC H'->∃m',m'<m/\W (i+1) m' zC H') /\
  ∀x H',J.uM i H x H'->g x σ' H' λσ2 H2=>tt σ2 H2 λb H3=>if b=true then te σ2 H3 λy H4=>∃ys,H4 D=some (.lst ys)/\ys.length<sizeLine/\N σ2 (upd H4 D (.lst (ys++[y]))) else N σ2 H3)
theorem oQ(hc:∀y∈scope.names,y.2≠.cell)
  (h:(relabel scope env).names.lookup x=some .cell\/(relabel scope env).names.lookup x=some .free):(x,NameKind.free)∈scope.names:=by
 unfold relabel at h;simp only at h;generalize scope.names=ns at hc h
 induction ns with
 |nil=>simp at h
 |cons p r ih=>
  obtain⟨n,k⟩:=p;have hc':∀y∈r,y.2≠.cell:=λy hy=>hc y (V5 _ hy);simp only[map_cons]at h;cases hx:x==n with
  |true=>
   have e':x=n:=eq_of_beq hx;subst e'
   by_cases hk:k=.free
   ·subst hk;exact V8
   ·have hk2:=hc (x,k) V8
    have hb:(k==NameKind.free)=false:=WX.mpr hk;rw[hb]at h;simp only[Bool.false_and,false_eq_true,if_false,lookup_cons,beq_self_eq_true]at h
    rcases h with h|h
    ·exact absurd (Wr h) hk2
    ·exact absurd (Wr h) hk
  |false=>
   refine V5 _ (ih hc' ?_)
   by_cases hk:(k==NameKind.free&&env.scope.kind==.function&&env.kindOf n==some .cell)=true
   ·rw[Wg hk]at h;simp only[lookup_cons,hx]at h;exact h
   ·rw[We hk]at h;simp only[lookup_cons,hx]at h;exact h
theorem qM(h:scope.names.lookup x=some .free) :
  (relabel scope env).names.lookup x=some .cell\/(relabel scope env).names.lookup x=some .free:=by
 unfold relabel;simp only;generalize scope.names=ns at h
 induction ns with
 |nil=>simp at h
 |cons p r ih=>
  obtain⟨n,k⟩:=p;simp only[map_cons];cases hx:x==n with
  |true=>
   simp only[lookup_cons,hx]at h;have hk:=Wr h;subst hk
   by_cases hk:(NameKind.free==NameKind.free&&env.scope.kind==.function&&env.kindOf n==some .cell)=true
   ·rw[Wg hk];simp[lookup_cons,hx]
   ·rw[We hk];simp[lookup_cons,hx]
  |false=>
   simp only[lookup_cons,hx]at h
   by_cases hk:(k==NameKind.free&&env.scope.kind==.function&&env.kindOf n==some .cell)=true
   ·rw[Wg hk];simp only[lookup_cons,hx];exact ih h
   ·rw[We hk];simp only[lookup_cons,hx];exact ih h
section
variable {X:Cx} {pins:List (Addr×Obj)} {σ:St} {scope:Scope} {N':List Str} {js:List (Option Nat)}
theorem nk(ok:qL X scope N' js)(xo:X.Ok):∀y∈scope.names,y.2=.free->∃c,X.env.cells.lookup y.1=some c:=λy hy e=>by
 have:=(ok.free y hy e).1;unfold qK at this;rw[YO]at this;refine xo.has y.1 ?_
 rcases this with z|z
 ·exact .inl (eq_of_beq z)
 ·exact .inr (eq_of_beq z)
theorem u5{tk:Nat}(ok:qL X scope N' js)(I:Inv X pins σ H s)
  (hcl1:∀x c,cl.lookup x=some c->X.env.cells.lookup x=some c) (hcl2:∀x,(x,NameKind.free)∈scope.names->∃c,cl.lookup x=some c)
  (hfp:∀b∈fp,l9 X pins H b) (hlt:∀b∈fp,b<s.heap.objs.size)
  (hns:h'.Ns s.heap.objs.size (λ_=>none)) (hk:∀b o,s.heap.get? b=some o->h'.get? b=some o) :
  Inv (bz X scope N' cl s.heap.objs.size s H fp) [] (gP js σ) H { s with heap:=h',toks:=tk }:=by
 have cellK:∀x c,cl.lookup x=some c->∃v,s.heap.IsCell c v:=λx c e=>I.cell x c (hcl1 x c e);have hCf:H s.heap.objs.size=none:=I.hok.fresh (Wb _);refine⟨⟨I.ok.mod,ok.kind,I.ok.glob,I.ok.blt,Wb _,λx y c e1 e2=>I.ok.inj x y c (hcl1 x c e1) (hcl1 y c e2),λx hx=>hcl2 x (oQ ok.Ac hx),λx c hf _=>absurd hf (by intro z;cases z),I.ok.hd,I.ok.frames,.inl rfl,
   λb hb=>⟨Wj (hlt b hb),λx c e z=>?_⟩,I.bs,Wx I.ok.C0 I.sz,λb o e hb=>?_,λb hb hs=>?_,I.stack,I.j3⟩,rfl,I.bare,Un.kept hk,⟨_,hns,λi x v e1 e2 e3=>?_⟩,λx c e=>?_,hCf,λx c e=>I.fu x c (hcl1 x c e),
   λp hp=>absurd (show p∈([]:List (Addr×Obj)) from hp) (by simp),I.hok.kept hk,?_⟩
 ·exact(hfp b hb).2.2.2.2.1 x c (hcl1 x c e) z
 ·rcases(hfp b hb).2.2.2.1 with z|z
  ·exact I.ok.yf b o e z
  ·exact absurd (Wc (Wa (I.ok.bs b o e).1) z) (WL _)
 ·rcases Wf.mp (I.uK b hs) with z|z
  ·exact(hfp b hb).2.1 z
  ·exact(hfp b hb).2.2.1 z
 ·-- a name TQ has a value: one of the def around
  have CT:(gP js σ)[i]?=some (some v):=e2;unfold gP at CT;rw[Ws] at CT;cases hj:js[i]? with
  |none=>rw[hj] at CT;cases CT
  |some o=>
   rw[hj] at CT;cases o with
   |none=>simp at CT
   |some j=>
    obtain⟨hN,hf⟩:=ok.src i x j e1 hj;cases hs:σ[j]? with
    |none=>simp[hs] at CT
    |some ov=>
     cases ov with
     |none=>simp[hs] at CT
     |some v'=>
      simp[hs] at CT;subst CT;have hfr:=(ok.free (x,.free) (WZ hf) rfl).1;unfold qK at hfr;rw[YO]at hfr;have Mz:X.env.scope.names.lookup x=some .cell\/X.env.scope.names.lookup x=some .free:=hfr.imp eq_of_beq eq_of_beq;obtain⟨m,_,hl⟩:=I.loc;obtain⟨u,r,l⟩:=hl j x v' hN hs (.inr Mz);refine⟨u,r,.inr ⟨qM hf,?_⟩⟩
      rcases l with ⟨k,_⟩|⟨_,c,e,z⟩
      ·have k':X.env.scope.names.lookup x=some .local:=k
       rcases Mz with q|q<;>(rw[q]at k';cases k')
      ·obtain⟨d,hd⟩:=hcl2 x (WZ hf);have e':=hcl1 x d hd;rw[e]at e';cases e';obtain⟨oc,hoc,zH⟩:=z;exact⟨c,hd,oc,hk _ _ hoc,zH⟩
 ·obtain⟨v,oc,hoc,zH⟩:=cellK x c e;exact⟨v,oc,hk _ _ hoc,zH⟩
 ·rw[jI];exact ok.len
theorem yD(I:Inv X pins σ H s)(hfp:∀b∈fp,l9 X pins H b)
  (J:Inv (bz X scope N' cl C s H fp) [] σ' H' s'):Inv X pins σ H' s' :=
 I.FT (ch:=fp) J.os J.base J.hok J.bare λb hb=>⟨(hfp b hb).2.2.2.1,(hfp b hb).2.1,(hfp b hb).2.2.2.2.1,(hfp b hb).2.2.2.2.2⟩
end
section
variable {X:Cx} {scope:Scope} {N':List Str} {js:List (Option Nat)} {tg elt iter:Expr} {ifs:List Expr} {pos:Pos} {wi:TI} {g:TG} {tt:TT} {te:TE}
theorem se{pins:List (Addr×Obj)}{σ:St}{H2:Hp}{s2:Shared}{it:Addr}{fp:List Addr}{tn:Nat->Heap->Prop}{J:It}{cl:List (Str×Addr)}{E:Value->Shared->Prop}{RR:Value->Addr->Result->Shared->Prop}{Q:VK}
  (ok:qL X scope N' js) (hc:X.calm=true) (I2:Inv X pins σ H2 s2) (T:Turn X.prog X.w X.K tg J fp it tn) (st2:tn 0 s2.heap) (f2:∀b∈fp,l9 X pins H2 b)
  (hcl1:∀x c,cl.lookup x=some c->X.env.cells.lookup x=some c) (hcl2:∀x,(x,NameKind.free)∈scope.names->∃c,cl.lookup x=some c)
  (hg:∀cl C s H fp,PG (bz X scope N' cl C s H fp) tg g) (ht:∀cl C s H fp,DA (bz X scope N' cl C s H fp) ifs tt) (he:∀cl C s H fp,PE (bz X scope N' cl C s H fp) elt te)
  (rd:∀D,H2 D=none->∃W:Nat->Nat->St->Hp->Prop,(∃m,W 0 m (gP js σ) (upd H2 D (.lst []))) /\
   ∀i m σ' H,W i m σ' H->(J.stop i H/\Q (.ref D) H)\/(J.go i H/\∃N:St->Hp->Prop,(∀zC H',N zC H'->∃m',m'<m/\W (i+1) m' zC H') /\
    ∀x H',J.uM i H x H'->g x σ' H' λσ2 H2=>tt σ2 H2 λb H3=>if b=true then te σ2 H3 λy H4=>∃ys,H4 D=some (.lst ys)/\ys.length<sizeLine/\N σ2 (upd H4 D (.lst (ys++[y]))) else N σ2 H3))
  (hRR:∀(D C:Addr) (s':Shared) (H':Hp) (m:Str->Option Value),s2.heap.objs.size<=C->Inv X pins σ H' s'->H' C=none->s'.heap.Ns C m->Q (.ref D) H'->RR (.ref D) C (.ok .next) s') :
  wpAny (model X.prog X.w) X.A (newList []) (λacc s₃=>wpAny (model X.prog X.w) X.A (newFunctionEnv scope X.env.globals cl [] X.env.qual none .none (some X.env)) (λcenv s₄=>
   codeAny (model X.prog X.w) X.A (.compStart (.ListComp elt [⟨tg,iter,ifs,0⟩] scope pos) 0 (.ref it) acc { cenv with scope:=relabel scope X.env }) (RR acc cenv.locals) s₄) E s₃) E s2:=by
 have hD:H2 s2.heap.objs.size=none:=I2.hok.fresh (Wb _);refine WD (wpAny_newFunctionEnv ok.Ac (by intro y hy;simp at hy) (λh₁ MA MB=>?_) ok.kind);dsimp only at MA MB |-;have I3:Inv X pins σ (upd H2 s2.heap.objs.size (.lst [])) { s2 with heap:=s2.heap.push { cls:=.type "list",dict:=none,data:=.seq ([]:List Value).toArray },toks:=s2.toks } :=
  I2.laid (t':=s2.toks) (λb u e=>V3 _ e) (Wb _) ⟨by simp,[],0,.nil,Wk _ rfl⟩
 generalize MC:({ s2 with heap:=s2.heap.push { cls:=.type "list",dict:=none,data:=.seq ([]:List Value).toArray },toks:=s2.toks }:Shared)=s3 at I3;have hsz:s3.heap.objs.size=s2.heap.objs.size+1:=by rw[<-MC];exact Xf ..
 have eC:(s2.heap.push { cls:=.type "list",dict:=none,data:=.seq ([]:List Value).toArray }).objs.size=s3.heap.objs.size:=by rw[<-MC]
 have f3:∀b∈fp,l9 X pins (upd H2 s2.heap.objs.size (.lst [])) b:=λb hb=>by
  obtain⟨o,e,_⟩:=T.obj _ _ st2 b hb;refine⟨?_,(f2 b hb).2⟩;rw[ao (Wj (Wa e))];exact(f2 b hb).1
 have hlt:∀b∈fp,b<s3.heap.objs.size:=λb hb=>by
  obtain⟨o,e,_⟩:=T.obj _ _ st2 b hb;have hb2:b<s2.heap.objs.size:=Wa e;rw[hsz];exact W5 hb2
 have keep:∀b o,s3.heap.get? b=some o->h₁.get? b=some o:=λb o e=>by
  have e':(s2.heap.push { cls:=.type "list",dict:=none,data:=.seq ([]:List Value).toArray }).get? b=some o:=by rw[<-MC]at e;exact e
  exact MB.extBut b o (Wj (Wa e')) (V3 _ e')
 have I4:=u5 (tk:=s2.toks+([]:List (Str×Value)).length) ok I3 hcl1 hcl2 f3 hlt (h':=h₁) (by rw[<-eC];simpa using MA) keep;have Sk:tn 0 h₁:=T.keep _ _ _ st2 λb hb o e=>keep b o (by rw[<-MC];exact V3 _ e);obtain⟨W,⟨m0,w0⟩,turn⟩:=rd _ hD;have stat:∀{H':Hp},(∀b∈fp,H' b=none)->∀b∈fp,l9 (bz X scope N' cl s3.heap.objs.size s3 (upd H2 s2.heap.objs.size (.lst [])) fp) [] H' b:=λ{H'} hn b hb=>
  ⟨hn b hb,Wj (hlt b hb),I4.ok.yg b hb,.inl hb,(I4.ok.Pb b hb).2,λp hp=>absurd (show p∈([]:List (Addr×Obj)) from hp) (by simp)⟩
 have TR:∀tk,({ s2 with heap:=h₁,toks:=tk }:Shared)={ s3 with heap:=h₁,toks:=tk }:=λtk=>by rw[<-MC]
 have loop:codeAny (model X.prog X.w) X.A (.compLoop (.ListComp elt [⟨tg,iter,ifs,0⟩] scope pos) 0 (.ref it) (.ref s2.heap.objs.size) (compEnvC scope cl s3.heap.objs.size X.env)) (RR (.ref s2.heap.objs.size) s3.heap.objs.size)
   { s3 with heap:=h₁,toks:=s2.toks+([]:List (Str×Value)).length }:=by
  refine codeAny_loop rfl (λn s'=>∃i σ' H',Inv (bz X scope N' cl s3.heap.objs.size s3 (upd H2 s2.heap.objs.size (.lst [])) fp) [] σ' H' s'/\tn i s'.heap/\(∀b∈fp,H' b=none)/\W i n σ' H') ?_ m0 ⟨0,_,_,I4,Sk,λb hb=>(f3 b hb).1,w0⟩;rintro n s5 ⟨i,σ5,H5,I5,Lw,Pf,w5⟩;show wpAny _ X.A ((compTurn (.ListComp elt [⟨tg,iter,ifs,0⟩] scope pos) 0 (.ref it) (.ref s2.heap.objs.size) (compEnvC scope cl s3.heap.objs.size X.env)).onRaise (λx=>do noteFrame x (compEnvC scope cl s3.heap.objs.size X.env);theTreesLotGoes x)) _ _ s5;refine wpAny_noted ?_;rw[compTurn_list];refine VZ (Xd (VZ ?_))
  rcases turn i n σ5 H5 w5 with ⟨stop,qn⟩|⟨go,N,hN,step⟩
  ·refine WA (T.done (bz X scope N' cl s3.heap.objs.size s3 (upd H2 s2.heap.objs.size (.lst [])) fp) rfl rfl rfl hc i [] s5 σ5 H5 (λ_ _=>False) I5 (stat Pf) Lw stop) (λr s6 ⟨hr,I6⟩=>?_) λ_ _ z=>z.elim;subst hr;refine V6 ?_;obtain⟨m,hm,_⟩:=id I6.loc;exact hRR _ _ s6 H5 m (by rw[hsz];exact WR _) (yD I3 f3 I6) I6.free hm qn
  ·refine WA (T.item (bz X scope N' cl s3.heap.objs.size s3 (upd H2 s2.heap.objs.size (.lst [])) fp) rfl rfl rfl hc i [] s5 σ5 H5 (λ_ _=>False) I5 (stat Pf) Lw go) (λr s6 ⟨u,hr,h6⟩=>?_) λ_ _ z=>z.elim
   subst hr;refine VZ (WA h6 (λ_ s7 ⟨x,H7,I7,r7,y7,Qs,TU⟩=>?_) λ_ _ z=>z.elim);have TV:=I7.pinned (stat TU) (T.obj _ _ Qs);refine VZ (WA (hg _ _ _ _ _ _ s7 σ5 H7 x u _ TV r7 (step x H7 y7)) (λ_ s8 ⟨σ8,H8,I8,q8⟩=>?_) λ_ _ z=>z.elim);refine VZ (WA (ht _ _ _ _ _ _ s8 σ8 H8 _ I8 q8) (λb s9 ⟨H9,I9,q9⟩=>?_) λ_ _ z=>z.elim);have Ae:∀{sA:Shared} {σA:St} {HA:Hp},Inv (bz X scope N' cl s3.heap.objs.size s3 (upd H2 s2.heap.objs.size (.lst [])) fp) ([]++m5 fp s7.heap) σA HA sA->N σA HA ->
     ∃m,m<n/\∃i σ' H',Inv (bz X scope N' cl s3.heap.objs.size s3 (upd H2 s2.heap.objs.size (.lst [])) fp) [] σ' H' sA/\tn i sA.heap/\(∀b∈fp,H' b=none)/\W i m σ' H':=λ{sA σA HA} IA nA=>by
    obtain⟨m',hm,wA⟩:=hN σA HA nA;refine⟨m',hm,i+1,σA,HA,IA.j4,T.keep _ _ _ Qs λb hb o e=>(IA.pin (b,o) (Wy _ (Wy _ (gM hb e)))).1,λb hb=>?_,wA⟩;obtain⟨o,e,d⟩:=T.obj _ _ Qs b hb;exact(IA.pin (b,o) (Wy _ (Wy _ (gM hb e)))).2.1
   cases b with
   |false=>exact V6 ⟨rfl,Ae I9 (by simpa using q9)⟩
   |true=>rw[Wg rfl]at q9;refine VZ (VZ (WA (he _ _ _ _ _ _ s9 σ8 H9 _ I9 q9) (λv sB ⟨y,HB,IB,rB,ys,hys,hlen,nB⟩=>?_) λ_ _ z=>z.elim));refine VZ (WA (pK (X:=bz X scope N' cl s3.heap.objs.size s3 (upd H2 s2.heap.objs.size (.lst [])) fp) _ sB σ8 HB (.ref s2.heap.objs.size) [y] _ [v] (λ_ HC=>HC=upd HB s2.heap.objs.size (.lst (ys++[y]))) IB rfl #[rB] ⟨_,ys,y,rfl,rfl,hys,hlen,rfl⟩) (λv' sC ⟨_,HC,IC,_,TX⟩=>?_) λ_ _ z=>z.elim);subst TX;exact V6 (V6 ⟨rfl,Ae IC nB⟩)
 rw[TR];have Qt:({ newEnv scope (s2.heap.push { cls:=.type "list",dict:=none,data:=.seq ([]:List Value).toArray }).objs.size X.env.globals cl X.env.qual none Value.none (some X.env) builtinsNs with scope:=relabel scope X.env }:Env)=compEnvC scope cl s3.heap.objs.size X.env:=by rw[eC];rfl
 have Qu:(newEnv scope (s2.heap.push { cls:=.type "list",dict:=none,data:=.seq ([]:List Value).toArray }).objs.size X.env.globals cl X.env.qual none Value.none (some X.env) builtinsNs).locals=s3.heap.objs.size:=by rw[eC];rfl
 rw[Qt,Qu];exact codeAny_compStart_list loop (T.self _ _ _ _ _ Sk loop)
theorem DF(hok:jn X.N X.env.scope scope N' js=true)(hc:X.calm=true)(hi:PI X tg iter wi)(hg:∀cl C s H fp,PG (bz X scope N' cl C s H fp) tg g)
  (ht:∀cl C s H fp,DA (bz X scope N' cl C s H fp) ifs tt) (he:∀cl C s H fp,PE (bz X scope N' cl C s H fp) elt te)
  (hs:∀x,foldedSetIterable iter X.env x=pure x):PE X (.ListComp elt [⟨tg,iter,ifs,0⟩] scope pos) (Ad wi js g tt te):=by
 intro pins s σ H Q I h;have ok:=pN hok;obtain⟨cl,Qv,hcl1,hcl2⟩:=nj (nk ok I.ok);rw[eval_ListComp];refine wpAny_comprehension_free (use:=none) rfl hs Qv ok.kind ok.names (cu (hi pins s σ H _ I h) λxv s1 h1=>cu h1 λitv s2 h2=>?_);obtain⟨it,fp,tn,J,H2,rfl,I2,T,st2,f2,rd⟩:=h2;refine se (RR:=λacc C=>compPost (model X.prog X.w) X.A X.xe none (EP X pins σ Q) acc C) ok hc I2 T st2 f2 hcl1 hcl2 hg ht he rd ?_;intro D C s' H' m hC J' fC hm q;refine⟨m,hm,λh' hs'=>⟨.ref D,H',?_,rfl,q⟩⟩;refine J'.turned (t':=s'.toks) (λb o hb e=>hs'.extBut b o hb e) fC (Xs (Wc I2.lt hC)) (.inr (Wx I2.sz hC)) (λx c e z=>?_) λp hp z=>?_
 ·obtain⟨v,q'⟩:=I2.cell x c e;exact absurd (Wc q'.lt (by rw[z];exact hC)) (WL _)
 ·exact absurd (Wc (Wa (I2.pin p hp).1) (by rw[z];exact hC)) (WL _)
theorem DG{i:Nat}(hN:X.N.Nodup)(hx:X.N[i]?=some x)(hl:Loc X.env.scope x)(hok:jn X.N X.env.scope scope N' js=true)(hc:X.calm=true)(hi:PI X tg iter wi)(hg:∀cl C s H fp,PG (bz X scope N' cl C s H fp) tg g)
  (ht:∀cl C s H fp,DA (bz X scope N' cl C s H fp) ifs tt) (he:∀cl C s H fp,PE (bz X scope N' cl C s H fp) elt te)
  (hsw:swapsWith (.ListComp elt [⟨tg,iter,ifs,0⟩] scope pos) (some (.Name x pos')) spos.line X.env=pure true)
  (hf:X.fn x=true\/X.env.scope.names.lookup x=some .local)
  (hs:∀x,foldedSetIterable iter X.env x=pure x):PS X (.Assign [.Name x pos'] (.ListComp elt [⟨tg,iter,ifs,0⟩] scope pos) spos) (Dc (Ad wi js g tt te) (pC i)):=by
 intro pins s σ H D I h;have ok:=pN hok;obtain⟨cl,Qv,hcl1,hcl2⟩:=nj (nk ok I.ok);rw[exec_Assign_Name_used _ _ _ _ hsw];refine VZ (Xd (VZ ?_));show wpAny _ X.A (do let _ <-comprehension (.ListComp elt [⟨tg,iter,ifs,0⟩] scope pos) scope X.env _ (newList []) false (eval iter X.env) (some (assign (.Name x pos') X.env))) _ _ s;refine VZ (WA (wpAny_comprehension_free (use:=some (assign (.Name x pos') X.env)) (Q:=λ_ s'=>SP X pins D .next s') rfl hs Qv ok.kind ok.names
  (cu (hi pins s σ H _ I h) λxv s1 h1=>cu h1 λitv s2 h2=>?_)) (λ_ s' hq=>V6 (V6 hq)) λ_ _ e=>e)
 obtain⟨it,fp,tn,J,H2,rfl,I2,T,st2,f2,rd⟩:=h2;refine se (RR:=λacc C=>compPost (model X.prog X.w) X.A X.xe (some (assign (.Name x pos') X.env)) (λ_ s'=>SP X pins D .next s') acc C) (Q:=λx H1=>pC i x σ H1 D.nx) ok hc I2 T st2 f2 hcl1 hcl2 hg ht he rd ?_;intro E C s' H' m hC J' fC hm q;have Sl:C≠X.env.locals:=Xs (Wc I2.lt hC);have hCc:∀x c,X.env.cells.lookup x=some c->c≠C:=λx c e z=>by
  obtain⟨v,q'⟩:=I2.cell x c e;exact absurd (Wc q'.lt (by rw[z];exact hC)) (WL _)
 refine cu (show wpAny _ X.A (assign (.Name x pos') X.env (.ref E)) (λ_ s''=>(∃zC Ih,Inv X pins zC Ih s''/\D.nx zC Ih/\Ih C=none)/\∃m,s''.heap.Ns C m) X.xe s' from ?_) λ_ s'' ⟨⟨zC,Ih,Qw,TY,Qx⟩,TZ,Ii⟩=>?_
 ·refine wpAny_assign_Name (pB J' hN hx hl (show RelV (.ref E) (.ref E) from rfl) (λs'' Qw ⟨a,T4,ha⟩=>⟨⟨_,H',Qw,q,fC⟩,m,?_⟩) hf)
  refine hm.sameBut T4 ?_
  rcases ha with z|z
  ·rw[z];exact Sl
  ·exact λw=>hCc _ _ z w.symm
 ·refine⟨TZ,Ii,λh' hs'=>⟨zC,Ih,?_,TY⟩⟩;refine Qw.turned (t':=s''.toks) (λb o hb e=>hs'.extBut b o hb e) Qx Sl (.inr (Wx I2.sz hC)) hCc λp hp z=>?_;exact absurd (Wc (Wa (I2.pin p hp).1) (by rw[z];exact hC)) (WL _)
end
theorem Inv.wz{X:Cx}{pins:List (Addr×Obj)}{σ:St}{H:Hp}{s:Shared}{h':Heap}{t':Nat}{ch:List Addr}(I:Inv X pins σ H s)(hf:∀b∈ch,l9 X pins H b)
  (k:∀b o,b∉ch->s.heap.get? b=some o->h'.get? b=some o):Inv X pins σ H { s with heap:=h',toks:=t' }:=by
 have LO:∀b u,H b=some u->b∉ch:=λb u e z=>by rw[(hf b z).1]at e;cases e
 refine I.step (g':=s.gens) (d':=s.drawn) (ch:=ch) (λb hb=>?_) (λb o _ _ hc e _=>k b o hc e) (λb o _ _ hc e _=>⟨o.slots,k b o hc e⟩) (λ_ _ _ _ n=>n)
  (λb o hc e=>⟨o,k b o hc e⟩) (λ_ _ e=>e) (λ_ _ _ e=>e) (λb ps e=>⟨#[],by rw[e];simp⟩) (λm hm=>?_) (λb u e=>?_) I.bare
 ·exact⟨(hf b hb).2.2.2.1,(hf b hb).2.1,(hf b hb).2.2.2.2.1,(hf b hb).2.2.2.2.2⟩
 ·obtain⟨o,es,ep,ho,r⟩:=hm;exact⟨o,es,ep,k _ o (λz=>(hf _ z).2.1 rfl) ho,r⟩
 ·refine(I.hok b u e).stay (λc v hc q=>k c v ?_ q) (λ_ q=>q) λ_ _ q=>q
  rcases hc with z|z
  ·rw[z];exact LO b u e
  ·exact LO c _ z
def MD(K:Frag)(a:Addr):It :=
 ⟨λi H=>∃xs x,fQ K H a xs/\xs[i]?=some x,λi H x H'=>∃p v,H p=none/\x=.ref p/\H'=upd H p (.tup [.int i,v])/\∀xs,fQ K H a xs->xs[i]?=some v,λi H=>∃xs,fQ K H a xs/\xs.length<=i⟩
theorem yE{P:Program}{w:World}{K:Frag}{es:List Expr}{k:Nat}{pos:Pos}(a e it:Addr)(hne:e≠it) :
  Turn P w K (.Tuple es k pos) (MD K a) [e,it] e (λi h=>(∃old,IsEnum h e it i old)/\h.IsListIter it a i) where
 mem:=by simp
 obj:=λi h st b hb=>by
  obtain⟨⟨old,he⟩,⟨o,e2,c,d⟩⟩:=st
  rcases Wf.mp hb with z|z
  ·subst z;exact⟨_,he,λv z=>nomatch z⟩
  ·rw[Wo.mp z];exact⟨o,e2,λv z=>by rw[d]at z;cases z⟩
 keep:=λi h h' st k=>⟨let ⟨old,he⟩:=st.1;⟨old,k e (by simp) _ he⟩,st.2.at λo e=>k it (by simp) o e⟩
 item:=by
  intro X hP hw hK hc i pins s σ H E I hf st hg;subst hP hw hK;obtain⟨xs,x,hq,hx⟩:=hg;obtain⟨its,rv,p,hz⟩:=I.list hq;obtain⟨u,hu,ru⟩:=rv.get hx;obtain⟨⟨old,he⟩,hit⟩:=st;have hei:e<s.heap.objs.size:=Wa he;have T5:it<s.heap.objs.size:=by obtain⟨_,y,_⟩:=hit;exact Wa y
  refine wpAny_pyNext_enum_item he hit p.isList (x:=u) (by simpa using hu) hne λh' ho Qy hT hsz hk=>?_;refine⟨_,rfl,?_⟩;refine wpAny_letOwnedTupleGo_enum ho λh2 T6 hs2=>?_;have hT2:h2.get? s.heap.objs.size=some { cls:=.type "tuple",data:=.seq [.int i s.toks,u].toArray }:=hs2.extBut _ _ (Xs hei) hT;have I1:Inv X pins σ H { s with heap:=h2,toks:=s.toks+1 }:=I.wz (ch:=[e,it]) hf λb o hb q=>by
   have h1:b≠e:=λz=>hb (by simp[z]);have h2:b≠it:=λz=>hb (by simp[z]);exact hs2.extBut b o h1 (hk b o h1 h2 q)
  have hn:H s.heap.objs.size=none:=I.hok.fresh (Wb _);have I2:Inv X pins σ (upd H s.heap.objs.size (.tup [.int i,x])) { s with heap:=h2,toks:=s.toks+1 }:=by
   have un:Un X.fs [] H (upd H s.heap.objs.size (.tup [.int i,x])) s.heap s.heap:=Un.laid (λb u q=>q) (Wb _) hn;refine⟨I1.ok,I1.os,I1.bare,?_,I1.loc,I1.cell,?_,λy c q=>?_,λp hp=>?_,λb o q=>?_,I1.len⟩
   ·refine⟨I1.base.keep,I1.base.slot,λb o q n hx=>?_,I1.base.there,λb ys q=>?_,λb o ys q=>?_,λb ps q=>?_⟩
    ·have hlt:b<s.heap.objs.size:=Wc (Wa q) I.sz;rw[ao (Wj hlt)];exact I1.base.free b o q n hx
    ·rw[ao (aG (I1.base.tups b ys q) hn)];exact I1.base.tups b ys q
    ·rw[ao (aG (I1.base.frzs b o ys q) hn)];exact I1.base.frzs b o ys q
    ·obtain⟨more,z⟩:=I1.base.j0 b ps q;exact⟨more,by rw[ao (aG z hn)];exact z⟩
   ·rw[ao (Wj I.lt)];exact I1.free
   ·obtain⟨v,z⟩:=I.cell y c q;rw[ao (Wj z.lt)];exact I1.fu y c q
   ·obtain⟨q1,q2,q3⟩:=I1.pin p hp;refine⟨q1,?_,q3⟩;rw[ao (Wj (Wa (I.pin p hp).1))];exact q2
   ·by_cases hb:b=s.heap.objs.size
    ·subst hb;rw[az]at q;cases q;exact⟨by show 2<=sizeLine;decide,[.int i s.toks,u],.cons ⟨_,rfl⟩ #[ru],_,hT2,rfl,_,rfl⟩
    ·rw[ao hb]at q;exact(I1.hok b o q).stay (λc v _ z=>z) (λc z=>by rw[ao (aG z hn)];exact z) λc ys z=>by rw[ao (aG z hn)];exact z
  refine⟨.ref s.heap.objs.size,_,I2,rfl,⟨s.heap.objs.size,x,hn,rfl,rfl,λys hy=>by rw[I.rP hy hq];exact hx⟩,⟨⟨_,by simpa using T6⟩,?_⟩,λb hb=>?_⟩
  ·exact Qy.at λo y=>(hs2.2 it hne.symm).trans y
  ·have hlt:b<s.heap.objs.size:=by
    rcases Wf.mp hb with z|z
    ·rw[z];exact hei
    ·rw[Wo.mp z];exact T5
   rw[ao (Wj hlt)];exact(hf b hb).1
 done:=by intro X hP hw hK hc i pins s σ H E I hf st hg;subst hP hw hK;obtain⟨xs,hq,hx⟩:=hg;obtain⟨its,rv,p,hz⟩:=I.list hq;obtain⟨⟨old,he⟩,hit⟩:=st;have hl:=rv.length;exact wpAny_pyNext_enum_end (I.ok.hd hc) he hit p.isList (by simp;omega) λh' eb=>⟨rfl,I.wz (t':=s.toks) (ch:=[e,it]) hf λb o hb q=>eb b o (λz=>hb (by simp[z])) q⟩
 self:=λ_ _ _ _ _ st h=>let ⟨_,he⟩:=st.1;wpAny_pyIter_enum he h
def ME(K:Frag)(ta:TA):TI:=λσ H R=>ta σ H λvs H1=>∃a,vs=[.ref a]/\(∃xs,fQ K H1 a xs)/\R (MD K a) H1
theorem DH{k:Nat}(hg:Gl X "enumerate")(hm:X.mg "enumerate" = none)(ha:PA X [a] ta)(hs:starEach [a] X.env=[(false,eval a X.env)]) :
  PI X (.Tuple es k tpos) (.Call (.Name "enumerate" p) [a] [] pos) (ME X.K ta):=by
 intro pins s σ H R I h;refine Call_ (iH I hg hm boot_enumerate (WU (cu (ha pos pins s σ H _ I h) λus s1 aJ=>?_) hs rfl));obtain⟨vs,H1,I1,r1,q1⟩:=aJ;obtain⟨l,e,⟨xs,hq⟩,q⟩:=q1;subst e;cases r1 with
 |cons r rr=>
  cases rr;cases r;obtain⟨its,rv,pl,hz⟩:=I1.list hq;refine call_enumerate_list pl.isList λh' he hit hsz hk=>?_;have I2:Inv X pins σ H1 { s1 with heap:=h' }:=I1.kept (t':=s1.toks) hk;refine wpAny_pyIter_enum (s:={ s1 with heap:=h' }) he ?_;refine⟨_,[s1.heap.objs.size+1,s1.heap.objs.size],_,_,H1,rfl,I2,yE l _ _ (Xs (WS _)),⟨⟨_,by simpa using he⟩,hit⟩,λb hb=>?_,q⟩;have hb':s1.heap.objs.size<=b:=by
   rcases Wf.mp hb with z|z
   ·rw[z];exact WR _
   ·rw[Wo.mp z];exact Wb _
  exact I1.Dd hb' (I1.hok.fresh hb')
end L2
end
section
namespace L2
open PySem PySem.W PyProof.Rows
namespace pO
section
variable {O:KeyOrd} {key:Nat->O.α} {N:Nat} {cmp:Nat->Nat->(Bool->Shared->Prop)->Shared->Prop} {s:Shared}
def K(O:KeyOrd)(key:Nat->O.α)(p:Array Nat)(i:Nat):O.α:=key (p.getD i 0)
def Up(O:KeyOrd)(key:Nat->O.α)(p:Array Nat)(k:Nat):Prop:=∀i j,i<=j->j<k->O.kle (K O key p i) (K O key p j)
def Down(O:KeyOrd)(key:Nat->O.α)(p:Array Nat)(k:Nat):Prop:=∀i j,i<=j->j<k->O.kle (K O key p j) (K O key p i)
def DI(O:KeyOrd)(key:Nat->O.α)(N:Nat)(cmp:Nat->Nat->(Bool->Shared->Prop)->Shared->Prop)(s:Shared):Prop :=
 ∀i j (C:Bool->Shared->Prop),i<N->j<N->C (O.blt (key i) (key j)) s->cmp i j C s
def Ent(N:Nat)(p:Array Nat):Prop:=p.size=N/\0<N/\∀x∈p.toList,x<N
theorem Ent.at{p:Array Nat}(h:Ent N p)(i:Nat):p.getD i 0<N:=by
 by_cases hi:i<p.size
 ·have e:p.getD i 0=p[i]:=by simp[Array.getD,hi]
  rw[e];exact h.2.2 _ (by simp)
 ·have e:p.getD i 0=0:=by simp[Array.getD,hi]
  rw[e];exact h.2.1
theorem Ent.perm{p q:Array Nat}(h:Ent N p)(e:q.Perm p):Ent N q :=
 ⟨e.size_eq.trans h.1,h.2.1,λx hx=>h.2.2 x ((Array.perm_iff_toList_perm.mp e).mem_iff.mp hx)⟩
theorem K_congr{p q:Array Nat}{i j:Nat}(h:p[i]?=q[j]?):K O key p i=K O key q j:=by
 unfold K;rw[Array.getD_eq_getD_getElem?,Array.getD_eq_getD_getElem?,h]
theorem K_bubble{p:Array Nat}{src d:Nat}(hs:src<p.size)(hd:d<=src)(k:Nat) :
  K O key (bubble p src d) k=if k=src-d then K O key p src else if src-d<k/\k<=src then K O key p (k-1) else K O key p k:=by
 have e:=getElem?_bubble hs d hd k
 by_cases h1:k=src-d
 ·rw[Wg h1]at e |-;exact K_congr e
 ·rw[We h1]at e |-
  by_cases h2:src-d<k/\k<=src
  ·rw[Wg h2]at e |-;exact K_congr e
  ·rw[We h2]at e |-;exact K_congr e
theorem Af{p:Array Nat}{i j:Nat}(hj:j<=p.size)(k:Nat):K O key (kas_rev p i j) k=if i<=k/\k<j then K O key p (i+j-1-k) else K O key p k:=by
 have e:=getElem?_mirror_all (i:=i) hj k
 by_cases h1:i<=k/\k<j
 ·rw[Wg h1]at e |-;exact K_congr e
 ·rw[We h1]at e |-;exact K_congr e
theorem nq{p:Array Nat}{i j:Nat}(hj:j<=p.size)(h:∀k,i<=k->k<j->K O key p k=K O key p (j-1))(k:Nat):K O key (kas_rev p i j) k=K O key p k:=by
 rw[Af hj]
 split
 ·rw[h _ (by omega) (by omega),h k (by omega) (by omega)]
 ·rfl
theorem sf{p:Array Nat}{m:Nat}(h:∀t,1<=t->t<m->O.kle (K O key p (t-1)) (K O key p t)):Up O key p m:=by
 intro i j hij hj
 induction j with
 |zero=>
  have:i=0:=by omega
  subst this;exact W9 _
 |succ j ih=>
  by_cases e:i=j+1
  ·subst e;exact W9 _
  ·exact Yi (ih (by omega) (by omega)) (h (j+1) (by omega) hj)
theorem Ij(hA:DI O key N cmp s){p:Array Nat}(he:Ent N p):∀(f n:Nat) {Q:Nat->Shared->Prop},1<=n ->
  (∀m,n<=m->m<=n+f->(∀t,n<=t->t<m->O.kle (K O key p (t-1)) (K O key p t))->(m<n+f->O.klt (K O key p m) (K O key p (m-1)))->Q m s)->(kas_asc p f n).kasWp cmp Q s
 |0,n,Q,hn,h=>h n (Wb _) (Wb _) (λt h1 h2=>by omega) λq=>by omega
 | f+1,n,Q,hn,h=>by
  show cmp _ _ _ s;refine hA _ _ _ (he.at _) (he.at _) ?_;cases hb:O.blt (key (p.getD n 0)) (key (p.getD (n-1) 0)) with
  |true=>exact h n (Wb _) (by omega) (λt h1 h2=>by omega) λ_=>hb
  |false=>
   show (kas_asc p f (n+1)).kasWp cmp Q s;refine Ij hA he f (n+1) (by omega) λm h1 h2 h3 h4=>h m (by omega) (by omega) (λt t1 t2=>?_) λq=>h4 (by omega)
   by_cases e:t=n
   ·subst e;exact hb
   ·exact h3 t (by omega) t2
theorem wB(hA:DI O key N cmp s):∀(f:Nat) (p:Array Nat) (n q:Nat) {Q:Array Nat×Nat×Nat->Shared->Prop},Ent N p->1<=n->n+f<=N->q+1<=n->Down O key p n->(∀i,n-(q+1)<=i->i<n->K O key p i=K O key p (n-1)) ->
  (∀p' n' q',p'.Perm p->Ent N p'->1<=n'->n<=n'->n'<=n+f->q'+1<=n'->Down O key p' n'->(∀i,n'-(q'+1)<=i->i<n'->K O key p' i=K O key p' (n'-1))->Q (p',n',q') s)->(kas_desc f p n q).kasWp cmp Q s
 |0,p,n,q,Q,he,hn,hN,hq,hd,hl,h=>h p n q (XQ _) he hn (Wb _) (Wb _) hq hd hl
 | f+1,p,n,q,Q,he,hn,hN,hq,hd,hl,h=>by
  show cmp _ _ _ s;refine hA _ _ _ (he.at _) (he.at _) ?_;cases hb:O.blt (key (p.getD n 0)) (key (p.getD (n-1) 0)) with
  |true=>
   have hlt:O.klt (K O key p n) (K O key p (n-1)):=hb;have hd1:Down O key p (n+1):=λi j hij hj=>by
    by_cases e:j=n
    ·subst e
     by_cases e2:i=j
     ·subst e2;exact W9 _
     ·exact Yi (X8 hlt) (hd i (j-1) (by omega) (by omega))
    ·exact hd i j hij (by omega)
   show (if q>0 then kas_desc f (kas_rev p (n-(q+1)) n) (n+1) 0 else kas_desc f p (n+1) 0).kasWp cmp Q s
   by_cases Sn:q>0
   ·rw[Wg Sn]
    have ep:(kas_rev p (n-(q+1)) n).Perm p:=mirror_perm _ _ _ _;have eK:∀k,K O key (kas_rev p (n-(q+1)) n) k=K O key p k:=λk=>nq (by rw[he.1];omega) hl k;refine wB hA f _ (n+1) 0 (he.perm ep) (by omega) (by omega) (by omega) (λi j hij hj=>by rw[eK,eK];exact hd1 i j hij hj) (λi h1 h2=>?_) λp' n' q' g1 g2 g3 g4 g5 g6 g7 g8=>h p' n' q' (g1.trans ep) g2 g3 (by omega) (by omega) g6 g7 g8;have:i=n:=by omega
    subst this;rfl
   ·rw[We Sn]
    refine wB hA f p (n+1) 0 he (by omega) (by omega) (by omega) hd1 (λi h1 h2=>?_) λp' n' q' g1 g2 g3 g4 g5 g6 g7 g8=>h p' n' q' g1 g2 g3 (by omega) (by omega) g6 g7 g8;have:i=n:=by omega
    subst this;rfl
  |false=>
   show cmp _ _ _ s;refine hA _ _ _ (he.at _) (he.at _) ?_;cases hc:O.blt (key (p.getD (n-1) 0)) (key (p.getD n 0)) with
   |true=>exact h p n q (XQ _) he hn (Wb _) (by omega) hq hd hl
   |false=>
    have heq:K O key p n=K O key p (n-1):=O.total _ _ hb hc;show (kas_desc f p (n+1) (q+1)).kasWp cmp Q s;refine wB hA f p (n+1) (q+1) he (by omega) (by omega) (by omega) (λi j hij hj=>?_) (λi h1 h2=>?_) λp' n' q' g1 g2 g3 g4 g5 g6 g7 g8=>h p' n' q' g1 g2 g3 (by omega) (by omega) g6 g7 g8
    ·by_cases e:j=n
     ·subst e
      by_cases e2:i=j
      ·subst e2;exact W9 _
      ·rw[heq];exact hd i (j-1) (by omega) (by omega)
     ·exact hd i j hij (by omega)
    ·show K O key p i=K O key p (n+1-1)
     rw[Nat.add_sub_cancel]
     by_cases e:i=n
     ·subst e;rfl
     ·rw[heq];exact hl i (by omega) (by omega)
theorem Ag(hA:DI O key N cmp s){p:Array Nat}{n nrem:Nat}(he:Ent N p)(h1:1<=n)(hn:n<=nrem)(hr:nrem<=N)(hd:Down O key p n)
  (h:∀m p',p'.Perm p->Ent N p'->1<=m->m<=nrem->Up O key p' m->Q (m,p') s):(kas_tail3 n nrem p).kasWp cmp Q s:=by
 unfold kas_tail3;rw[XR];have ep:(kas_rev p 0 n).Perm p:=mirror_perm _ _ _ _;have hz:n<=p.size:=by rw[he.1];omega
 refine Ij hA (he.perm ep) _ _ h1 λm a1 a2 a3 _=>h m _ ep (he.perm ep) (by omega) (by omega) (sf λt t1 t2=>?_)
 by_cases e:t<n
 ·rw[Af hz,Af hz,Wg (by omega),Wg (by omega)];exact hd _ _ (by omega) (by omega)
 ·exact a3 t (by omega) t2
theorem pP(hA:DI O key N cmp s){p:Array Nat}{n nrem:Nat}(he:Ent N p)(hn:n+1<=nrem)(hr:nrem<=N)(hd:Down O key p (n+1))
  (h:∀m p',p'.Perm p->Ent N p'->1<=m->m<=nrem->Up O key p' m->Q (m,p') s):(kas_descPart n nrem p).kasWp cmp Q s:=by
 unfold kas_descPart;rw[XR];have MF:∀i,n+1-(0+1)<=i->i<n+1->K O key p i=K O key p (n+1-1):=λi h1 h2=>by
  have e:i=n:=by omega
  subst e;rfl
 refine wB hA (nrem-(n+1)) p (n+1) 0 he (by omega) (by omega) (by omega) hd MF λp' n' q' g1 g2 g3 g4 g5 g6 g7 g8=>?_;show (if q'>0 then kas_tail3 n' nrem (kas_rev p' (n'-(q'+1)) n') else kas_tail3 n' nrem p').kasWp cmp Q s
 by_cases hq:q'>0
 ·rw[Wg hq];have ep:(kas_rev p' (n'-(q'+1)) n').Perm p':=mirror_perm _ _ _ _;have eK:∀k,K O key (kas_rev p' (n'-(q'+1)) n') k=K O key p' k:=λk=>nq (by rw[g2.1];omega) g8 k;exact Ag hA (g2.perm ep) g3 (by omega) hr (λi j hij hj=>by rw[eK,eK];exact g7 i j hij hj) λm p'' a1 a2 a3 a4 a5=>h m p'' ((a1.trans ep).trans g1) a2 a3 a4 a5
 ·rw[We hq];exact Ag hA g2 g3 (by omega) hr g7 λm p'' a1 a2 a3 a4 a5=>h m p'' (a1.trans g1) a2 a3 a4 a5
theorem Il(hA:DI O key N cmp s){p:Array Nat}{nrem:Nat}(he:Ent N p)(h1:1<=nrem)(hr:nrem<=N)
  (h:∀m p',p'.Perm p->Ent N p'->1<=m->m<=nrem->Up O key p' m->Q (m,p') s):(kas_count nrem p).kasWp cmp Q s:=by
 unfold kas_count;rw[XR];refine Ij hA he _ _ (Wb _) λn a1 a2 a3 a4=>?_;have hup:Up O key p n:=sf λt t1 t2=>a3 t t1 t2
 by_cases e1:(n==nrem)=true
 ·rw[Wg e1];exact h n p (XQ _) he a1 (by omega) hup
 ·rw[We e1]
  have VO:n≠nrem:=λz=>e1 (by simp[z]);have hlt:O.klt (K O key p n) (K O key p (n-1)):=a4 (by omega)
  by_cases e2:n>1
  ·rw[Wg e2]
   show cmp _ _ _ s;refine hA _ _ _ (he.at _) (he.at _) ?_;cases hc:O.blt (key (p.getD 0 0)) (key (p.getD (n-1) 0)) with
   |true=>exact h n p (XQ _) he a1 (by omega) hup
   |false=>
    have hle:O.kle (K O key p (n-1)) (K O key p 0):=hc;have ep:(kas_rev p 0 n).Perm p:=mirror_perm _ _ _ _;have hall:∀k,0<=k->k<n->K O key p k=K O key p (n-1):=λk _ hk=>
     KeyOrd.kle_antisymm (hup k (n-1) (by omega) (by omega)) (Yi hle (hup 0 k (by omega) hk))
    have eK:∀k,K O key (kas_rev p 0 n) k=K O key p k:=λk=>nq (by rw[he.1];omega) hall k;show (kas_descPart n nrem (kas_rev p 0 n)).kasWp cmp Q s;refine pP hA (he.perm ep) (by omega) hr (λi j hij hj=>?_) λm p' b1 b2 b3 b4 b5=>h m p' (b1.trans ep) b2 b3 b4 b5;rw[eK,eK]
    by_cases ej:j=n
    ·subst ej
     by_cases ei:i=j
     ·subst ei;exact W9 _
     ·rw[hall i (by omega) (by omega)];exact X8 hlt
    ·rw[hall i (by omega) (by omega),hall j (by omega) (by omega)];exact W9 _
  ·rw[We e2]
   have en:n=1:=by omega
   subst en;refine pP hA he (by omega) hr (λi j hij hj=>?_) λm p' b1 b2 b3 b4 b5=>h m p' b1 b2 b3 b4 b5
   by_cases ei:i=j
   ·subst ei;exact W9 _
   ·have:i=0/\j=1:=by omega
    obtain⟨rfl,rfl⟩:=this;exact X8 hlt
theorem u6(hA:DI O key N cmp s){p:Array Nat}{k:Nat}(he:Ent N p)(hs:Up O key p k):∀(f l r:Nat) {Q:Nat->Shared->Prop},l<=r->r<=k->r-l<=f ->
  (∀i,i<l->O.kle (K O key p i) (K O key p k))->(∀i,r<=i->i<k->O.klt (K O key p k) (K O key p i)) ->
  (∀l',l'<=k->(∀i,i<l'->O.kle (K O key p i) (K O key p k))->(∀i,l'<=i->i<k->O.klt (K O key p k) (K O key p i))->Q l' s)->(kas_place p k f l r).kasWp cmp Q s
 | 0,l,r,Q,hlr,hrk,hf,hlo,hhi,h=>by
  have:l=r:=by omega
  subst this;exact h l hrk hlo hhi
 | f+1,l,r,Q,hlr,hrk,hf,hlo,hhi,h=>by
  show (if l≥r then KasT.ret l else _).kasWp cmp Q s
  by_cases hge:l≥r
  ·rw[Wg hge]
   have:l=r:=by omega
   subst this;exact h l hrk hlo hhi
  ·rw[We hge]
   show cmp _ _ _ s;refine hA _ _ _ (he.at _) (he.at _) ?_;cases hb:O.blt (key (p.getD k 0)) (key (p.getD ((l+r)/2) 0)) with
   |true=>show (kas_place p k f l ((l+r)/2)).kasWp cmp Q s;exact u6 hA he hs f l ((l+r)/2) (by omega) (by omega) (by omega) hlo (λi h1 h2=>KeyOrd.klt_of_klt_of_kle hb (hs _ _ h1 h2)) h
   |false=>show (kas_place p k f ((l+r)/2+1) r).kasWp cmp Q s;exact u6 hA he hs f ((l+r)/2+1) r (by omega) (by omega) (by omega) (λi h1=>Yi (hs i ((l+r)/2) (by omega) (by omega)) hb) hhi h
theorem MG(hA:DI O key N cmp s):∀(f:Nat) (p:Array Nat) (k:Nat) {Q:Array Nat->Shared->Prop},Ent N p->k+f<=N->Up O key p k->(∀p',p'.Perm p->Up O key p' (k+f)->Q p' s)->(kas_bin f p k).kasWp cmp Q s
 |0,p,k,Q,he,hk,hs,h=>h p (XQ _) hs
 | f+1,p,k,Q,he,hk,hs,h=>by
  show ((kas_place p k k 0 k).bind λl=>kas_bin f (bubble p k (k-l)) (k+1)).kasWp cmp Q s;rw[XR];refine u6 hA he hs k 0 k (by omega) (by omega) (by omega) (λi hi=>by omega) (λi h1 h2=>by omega) λl hl hlo hhi=>?_;have ep:(bubble p k (k-l)).Perm p:=bubble_perm _ _ _;have hks:k<p.size:=by rw[he.1];omega
  refine MG hA f _ (k+1) (he.perm ep) (by omega) (λi j hij hj=>?_) λp' a1 a2=>h p' (a1.trans ep) (by rwa [show k+(f+1)=k+1+f by omega]);rw[K_bubble hks (by omega),K_bubble hks (by omega),show k-(k-l)=l by omega]
  repeat' split
  all_goals first
   |(exfalso;omega)
   |exact W9 _
   |exact hlo _ (by omega)
   |exact X8 (hhi _ (by omega) (by omega))
   |exact hs _ _ (by omega) (by omega)
theorem MH(hA:DI O key N cmp s)(h1:1<=N)(h:∀p,p.Perm (toArray (List.range N))->Up O key p N->Q p s):(kas_sort N).kasWp cmp Q s:=by
 unfold kas_sort;rw[XR];have he:Ent N (toArray (List.range N)):=⟨by simp,h1,λx hx=>by simpa using hx⟩;refine Il hA he h1 (Wb _) λm p a1 a2 a3 a4 a5=>?_;show (if m<N then kas_bin (N-max m 1) p (max m 1) else KasT.ret p).kasWp cmp Q s;have em:max m 1=m:=by omega
 by_cases hlt:m<N
 ·rw[Wg hlt,em];exact MG hA _ p m a2 (by omega) a5 λp' b1 b2=>h p' (b1.trans a1) (by rwa [show m+(N-m)=N by omega]at b2)
 ·rw[We hlt]
  have:m=N:=by omega
  subst this;exact h p a1 a5
end
end pO
namespace pO
theorem dh{α:Type}(l:List α)(d:α):(List.range l.length).map (λi=>l.getD i d)=l:=by
 refine Yj (by simp) λi h1 h2=>?_;simp[h2]
section
variable {prog:Program} {w:World} {A:Around} {E:Value->Shared->Prop} {s:Shared}
def pQ(prog:Program)(w:World)(A:Around)(O:KeyOrd)(key:Nat->O.α)(vs:List Value)(s6:Shared):Prop :=
 wpAny (model prog w) A (keyKind' vs.toArray) (λκ s'=>s'=s6/\DI O key vs.length (kas_ask prog w A κ vs) s6) (λ_ _=>False) s6
structure Ah (O:KeyOrd) (key:Nat->O.α) (n:Nat) (p:List Nat):Prop where
 perm:p.Perm (List.range n)
 up:(p.map key).Pairwise O.kle
theorem DJ{n:Nat}{p:Array Nat}(h1:p.Perm (toArray (List.range n)))(h2:Up O key p n):Ah O key n p.toList:=by
 have hp:p.toList.Perm (List.range n):=by simpa using Array.perm_iff_toList_perm.mp h1
 refine⟨hp,Xi.mpr λi j hi hj hij=>?_⟩;have hz:p.toList.length=n:=by rw[hp.length_eq,YA]
 rw[V9]at hi hj;have q:=h2 i j (Xk hij) (by omega);have ei:p.getD i 0=p.toList[i]:=by simp at hi;simp[Array.getD,hi]
 have ej:p.getD j 0=p.toList[j]:=by simp at hj;simp[Array.getD,hj]
 unfold K at q;rw[ei,ej]at q;rw[XF,XF];exact q
theorem Ai{n:Nat}(ho:s.heap.get? a=some (seqObj "list" vs.toArray n))(h64:vs.length<64)
  (hk:2<=vs.length->∀h6:Heap,(∀b o,b≠a->s.heap.get? b=some o->h6.get? b=some o)->pQ prog w A O key vs { s with heap:=h6 })
  (h:∀p,Ah O key vs.length p->P (.done (.ret .none)) { s with heap:=sortedHeap s.heap a vs (p.map λi=>vs.getD i Value.none).toArray }) :
  wpAny (model prog w) A (Builtin.«list.sort» ⟨[.ref a],[]⟩) P E s:=by
 have alt:a<s.heap.objs.size:=Wa ho;have big:vs.length<=sizeLine:=by rw[W0];omega
 rw[list_sort_plain];apply VZ;apply listItems_at ho rfl;apply VZ;refine listUpdate_at ho rfl ?_ (by rw[Wd];exact big) (Xn _);have q1:=get?_update_seq ho (λ_=>(#[]:Array Value));apply VZ;apply seqEpoch_at q1 rfl;apply VZ;refine wpAny_newTuple ?_ (by show vs.length<=sizeLine;exact big);apply VZ;refine wpAny_newList ?_ (Xn _);apply WI;generalize hN:((s.heap.update a (Obj.mapSeq λ_=>(#[]:Array Value))).push (seqObj "tuple" vs.toArray 0)).push (seqObj "list" #[] 0)=h6;have MI:∀b o,b≠a->s.heap.get? b=some o->h6.get? b=some o:=λb o hb e=>by
  rw[<-hN];refine V3 _ (V3 _ ?_);rw[XJ _ _ _ _ hb];exact e
 have q6:h6.get? a=some (seqObj "list" #[] (if (#[]:Array Value).size==vs.toArray.size then n else n+1)):=by rw[<-hN];exact V3 _ (V3 _ q1)
 have eS:∀out,h6.update a (Obj.mapSeq λ_=>out)=sortedHeap s.heap a vs out:=λout=>by rw[<-hN];rfl
 show wpAny (model prog w) A _ P E { s with heap:=h6 };dsimp only
 by_cases h2:vs.toArray.size<2
 ·rw[Wg h2,Wg h2]
  apply VZ;apply V6;rw[StateT.run_pure];apply VZ;apply V6;dsimp only;have eo:(arrOf (SortSt.mk' general' (vs.toArray.zip vs.toArray) #[] 7 none)).map (·.2)=vs.toArray:=by show (vs.toArray.zip vs.toArray).map (·.2)=vs.toArray;apply Array.toList_inj.mp;simp[List.map_snd_zip]
  rw[eo];apply VZ;apply seqEpoch_at q6 rfl;apply VZ;refine listUpdate_at q6 rfl ?_ (Xn _) (by show vs.toArray.size<=_;rw[Wd];omega);have hb:((if (#[]:Array Value).size==vs.toArray.size then n else n+1) != (if (#[]:Array Value).size==vs.toArray.size then n else n+1))=false:=by simp
  rw[eS];simp only[hb,false_eq_true,if_false];apply V6;have g:=h (List.range vs.length) ⟨Yb _,?_⟩
  ·rw[dh]at g;exact g
  ·rw[Wd]at h2;refine Xi.mpr λi j hi hj hij=>?_;simp at hi hj;omega
 ·rw[We h2,We h2]
  rw[Wd]at h2;have ask:=hk (by omega) h6 MI;apply VZ;refine WA ask (λκ s0 hκ=>?_) λ_ _ x=>x.elim;obtain⟨rfl,T7⟩:=hκ;apply VZ;refine WA (kat_run (Q:=λst' s'=>s'={ s with heap:=h6 }/\∃p:Array Nat,Ah O key vs.length p.toList/\p.size=vs.length/\(arrOf st').map (·.2)=(p.toList.map λi=>vs.getD i Value.none).toArray/\failedOf st'=none)
   (G:=λp s'=>s'={ s with heap:=h6 }/\Ah O key vs.length p.toList) rfl (by omega) h64 (λp st' s' a1 a2 a3 a4=>⟨a4.1,p,a4.2,a1,kat_snds rfl a2,a3⟩)
   (MH T7 (by omega) λp b1 b2=>⟨rfl,DJ b1 b2⟩)) ?_ λ_ _ x=>x
  rintro⟨⟨⟩,st'⟩ s' ⟨rfl,p,op,pz,er,ef⟩;dsimp only;rw[er];apply VZ;apply seqEpoch_at q6 rfl;apply VZ;refine listUpdate_at q6 rfl ?_ (Xn _) (by show (toArray _).size<=_;rw[Wd,V9,WC,pz];omega);have hb:((if (#[]:Array Value).size==vs.toArray.size then n else n+1) != (if (#[]:Array Value).size==vs.toArray.size then n else n+1))=false:=by simp
  rw[eS,ef];simp only[hb,false_eq_true,if_false];exact V6 (h p.toList op)
theorem iJ
  (h:wpAny (model prog w) A.in1 (collect x) (λvs s1=>vs.length<64/\∃key:Nat->O.α,(2<=vs.length->∀h6:Heap,(∀b o,s1.heap.get? b=some o->h6.get? b=some o)->pQ prog w A.in1.in1 O key vs { s1 with heap:=h6 }) /\
   ∀p h',Ah O key vs.length p->(∀b o,s1.heap.get? b=some o->h'.get? b=some o)->(∃e,h'.get? s1.heap.objs.size=some (seqObj "list" (p.map λi=>vs.getD i Value.none).toArray e))->Q (.ref s1.heap.objs.size) { s1 with heap:=h' }) E s) :
  wpAny (model prog w) A (call (.builtin "sorted") [x]) Q E s:=by
 refine Calls.call_function_entry kind_sorted plain_sorted entry_sorted (args_sorted1 _) ?_;unfold Builtin.«sorted»;refine VZ (m:=checkCount "sorted" 1 1 _) (V6 ?_);apply VZ;refine WA h (λvs s1 ⟨h64,key,hk,hq⟩=>?_) λ_ _ z=>z;have big:vs.length<=sizeLine:=by rw[W0];omega
 apply VZ;refine wpAny_newList ?_ big;have q:(s1.heap.push (seqObj "list" vs.toArray 0)).get? s1.heap.objs.size=some (seqObj "list" vs.toArray 0):=Wk _ rfl;apply VZ;apply WI;refine Xq (s:={ s1 with heap:=s1.heap.push (seqObj "list" vs.toArray 0) }) slot_list_sort ⟨_,q,rfl⟩ entry_list_sort ?_ (args_list_sort _);refine Ai (key:=key) (s:={ s1 with heap:=s1.heap.push (seqObj "list" vs.toArray 0) }) q h64 (λh2 h6 k6=>?_) λp op=>⟨_,rfl,V6 ⟨_,rfl,?_⟩⟩
 ·exact hk h2 h6 λb o e=>k6 b o (Wj (Wa e)) (V3 _ e)
 ·refine hq p _ op (λb o e=>?_) (sortedHeap_at q);rw[sortedHeap_old (Wj (Wa e)) (by rw[size_push'];exact W5 (Wa e))];exact V3 _ e
end
def u7:KeyOrd where
 α:=Int
 blt:=λa b=>decide (a<b)
 irrefl:=λa=>by simp
 trans:=λa b c h1 h2=>by simp at *;omega
 negTrans:=λa b c h=>by simp at *;omega
 total:=λa b h1 h2=>by simp at *;omega
theorem u9{s6:Shared}{ns:List Int}(hI:IntsAre vs ns)(h2:2<=vs.length):pQ prog w A u7 (λi=>ns.getD i 0) vs s6:=by
 have at_:∀i,i<vs.length->∃t,vs.getD i Value.none=.int (ns.getD i 0) t:=by
  intro i hi
  induction hI generalizing i with
  |nil=>simp at hi
  |cons z t r ih=>
   cases i with
   |zero=>exact⟨t,by simp⟩
   |succ i=>
    by_cases hr:2<=1
    ·omega
    ·simp only[length_cons]at hi
     have aux:∀{vs:List Value} {ns:List Int},IntsAre vs ns->∀i,i<vs.length->∃t,vs.getD i Value.none=.int (ns.getD i 0) t:=by
      intro vs ns q
      induction q with
      |nil=>intro i hi;simp at hi
      |cons z t r ih=>
       intro i hi;cases i with
       |zero=>exact⟨t,by simp⟩
       |succ i=>simp only[length_cons]at hi;obtain⟨u,e⟩:=ih i (by omega);exact⟨u,by simpa using e⟩
     obtain⟨u,e⟩:=aux r i (by omega);exact⟨u,by simpa using e⟩
 obtain⟨v₁,v₂,rest,rfl⟩:∃v₁ v₂ rest,vs=v₁::v₂::rest:=by
  match vs,h2 with
  |v₁::v₂::rest,_=>exact⟨v₁,v₂,rest,rfl⟩
 unfold pQ;rw[keyKind_ints hI];refine V6 ⟨rfl,λi j C hi hj hc=>?_⟩;obtain⟨t,e1⟩:=at_ i hi;obtain⟨u,e2⟩:=at_ j hj;unfold kas_ask;rw[e1,e2,keyLt'_oneType];exact oneLt_int hc
theorem gQ:∀a,HT.lexLt a a=false
 |[]=>rfl
 |x::xs=>by rw[HT.dM,Wg rfl];exact gQ xs
theorem fR:∀a b,HT.lexLt a b=false->HT.lexLt b a=false->a=b
 |[],[],_,_=>rfl
 |[],_::_,h,_=>by rw[HT.fy]at h;cases h
 |_::_,[],_,h=>by rw[HT.fy]at h;cases h
 | x::xs,y::ys,h1,h2=>by
  rw[HT.dM]at h1 h2
  by_cases e:x=y
  ·subst e;rw[Wg rfl]at h1 h2;rw[fR xs ys h1 h2]
  ·rw[We e]at h1;rw[We (λz=>e z.symm)]at h2;simp at h1 h2;omega
theorem fS:∀a b c,HT.lexLt a b=true->HT.lexLt b c=true->HT.lexLt a c=true
 |[],[],c,h,_=>by rw[HT.oN]at h;cases h
 |[],_::_,[],_,h=>by rw[HT.cZ]at h;cases h
 |[],_::_,_::_,_,_=>rfl
 |_::_,[],_,h,_=>by rw[HT.cZ]at h;cases h
 |_::_,_::_,[],_,h=>by rw[HT.cZ]at h;cases h
 | x::xs,y::ys,z::zs,h1,h2=>by
  rw[HT.dM]at h1 h2 |-
  by_cases e1:x=y
  ·subst e1
   rw[Wg rfl]at h1
   by_cases e2:x=z
   ·subst e2;rw[Wg rfl]at h2 |-;exact fS xs ys zs h1 h2
   ·rw[We e2]at h2 |-;exact h2
  ·rw[We e1]at h1
   by_cases e2:y=z
   ·subst e2;rw[We e1];exact h1
   ·rw[We e2]at h2;simp at h1 h2;rw[We (by omega)];simp;omega
theorem pR(a b c:List Int)(h:HT.lexLt a c=true):HT.lexLt a b=true\/HT.lexLt b c=true:=by
 cases h1:HT.lexLt a b with
 |true=>exact .inl rfl
 |false=>
  cases h2:HT.lexLt b c with
  |true=>exact .inr rfl
  |false=>
   cases h3:HT.lexLt b a with
   |true=>have:=fS _ _ _ h3 h;rw[h2]at this;cases this
   |false=>rw[fR _ _ h1 h3]at h;rw[h2]at h;cases h
def lexOrd:KeyOrd where
 α:=List Int
 blt:=HT.lexLt
 irrefl:=gQ
 trans:=fS
 negTrans:=pR
 total:=fR
section
variable {prog:Program} {w:World} {A:Around} {s:Shared}
theorem lR{b fin:Bool}:∀{us vs:List Value} {ns ms:List Int} (i:Nat),IntsAre us ns->IntsAre vs ms->(ns.length<ms.length↔fin=true)->us.length=ns.length ->
  Q (HT.lexLt ns ms) s->(ns.length=ms.length\/i=i)->(∀k,k<ns.length->k<ms.length->True)->(ns.length≠ms.length->True)->(fin=decide (ns.length<ms.length))->KatLex prog w A b fin Q (us.zip vs) i s
 | _,_,_,_,i,.nil,.nil,_,_,hq,_,_,_,hf=>by
  refine kat_nil ?_;rw[hf];exact hq
 | _,_,_,_,i,.nil,.cons _ _ _,_,_,hq,_,_,_,hf=>by
  refine kat_nil ?_;rw[hf];simpa [HT.fy] using hq
 | _,_,_,_,i,.cons _ _ _,.nil,_,_,hq,_,_,_,hf=>by
  refine kat_nil ?_;rw[hf];simpa [HT.cZ] using hq
 | _,_,_,_,i,.cons x t r,.cons y u r',h1,h2,hq,_,_,_,hf=>by
  refine kat_cons (wpAny_eqBool_int ?_);rw[HT.dM]at hq
  by_cases e:x=y
  ·subst e
   rw[Wg rfl]at hq;rw[YH];refine kat_yes (lR (i+1) r r' ?_ ?_ hq (.inr rfl) (λ_ _ _=>trivial) (λ_=>trivial) ?_)
   ·simpa using h1
   ·simpa using h2
   ·rw[hf];simp
  ·rw[We e]at hq
   rw[show (x==y)=false from WX.mpr e];refine kat_no ?_;cases hb:(b&&i==0) with
   |true=>exact oneLt_int hq
   |false=>exact kat_one _ _ (PyProof.Rows.lt_int hq)
end
end pO
end L2
end
section
namespace L2
open PySem PySem.Spec PyProof.Rows
def Qz:Key->PyData
 |.inl i=>.int i
 |.inr x=>.str x
mutual
noncomputable def Den(K:Frag)(H:Hp):PyData->V->Prop
 |.none,v=>v=.non
 |.bool b,v=>v=.bl b
 |.int i,v=>v=.int i
 |.str x,v=>v=.str x
 |.list ds,v=>∃a xs,v=.ref a/\fQ K H a xs/\cX K H ds xs
 |.tuple ds,v=>∃a xs,v=.ref a/\iy K H a xs/\cX K H ds xs
 |.dict kvs,v=>∃a ks,v=.ref a/\H a=some (.dK ks)/\j9 K H kvs ks
noncomputable def cX(K:Frag)(H:Hp):List PyData->List V->Prop
 |[],xs=>xs=[]
 |d::ds,xs=>∃x r,xs=x::r/\Den K H d x/\cX K H ds r
noncomputable def j9(K:Frag)(H:Hp):List (PyData×PyData)->List (Key×V)->Prop
 |[],ks=>ks=[]
 |(k,d)::r,ks=>∃key x rest,ks=(key,x)::rest/\k=Qz key/\Den K H d x/\j9 K H r rest
end
theorem uZ.tup{K:Frag}{H H':Hp}{a:Addr}{xs:List V}(e:uZ H H')(h:iy K H a xs):iy K H' a xs:=by
 rcases h with (h|⟨o,h⟩)|h
 ·exact .inl (.inl (e _ _ h))
 ·exact .inl (.inr ⟨o,e _ _ h⟩)
 ·exact .inr h
section
variable {K:Frag} {H H':Hp}
mutual
theorem Den.same(e:uZ H H'):∀(d:PyData) (v:V),Den K H d v->Den K H' d v
 |.none,_,h=>by rw[Den]at h |-;exact h
 |.bool _,_,h=>by rw[Den]at h |-;exact h
 |.int _,_,h=>by rw[Den]at h |-;exact h
 |.str _,_,h=>by rw[Den]at h |-;exact h
 | .list ds,v,h=>by
  rw[Den]at h |-;obtain⟨a,xs,q1,q2,q3⟩:=h;exact⟨a,xs,q1,e.seq q2,cX.same e ds xs q3⟩
 | .tuple ds,v,h=>by
  rw[Den]at h |-;obtain⟨a,xs,q1,q2,q3⟩:=h;exact⟨a,xs,q1,e.tup q2,cX.same e ds xs q3⟩
 | .dict kvs,v,h=>by
  rw[Den]at h |-;obtain⟨a,ks,q1,q2,q3⟩:=h;exact⟨a,ks,q1,e _ _ q2,j9.same e kvs ks q3⟩
theorem cX.same(e:uZ H H'):∀(ds:List PyData) (xs:List V),cX K H ds xs->cX K H' ds xs
 |[],_,h=>by rw[cX]at h |-;exact h
 | d::ds,xs,h=>by
  rw[cX]at h |-;obtain⟨x,r,q1,q2,q3⟩:=h;exact⟨x,r,q1,Den.same e d x q2,cX.same e ds r q3⟩
theorem j9.same(e:uZ H H'):∀(kvs:List (PyData×PyData)) (ks:List (Key×V)),j9 K H kvs ks->j9 K H' kvs ks
 |[],_,h=>by rw[j9]at h |-;exact h
 | (k,d)::r,ks,h=>by
  rw[j9]at h |-;obtain⟨key,x,rest,q1,q2,q3,q4⟩:=h;exact⟨key,x,rest,q1,q2,Den.same e d x q3,j9.same e r rest q4⟩
end
theorem cX.nil:cX K H [] []:=by rw[cX]
theorem cX.cons{d:PyData}{ds:List PyData}{x:V}{r:List V}(h1:Den K H d x)(h2:cX K H ds r):cX K H (d::ds) (x::r):=by rw[cX];exact⟨x,r,rfl,h1,h2⟩
theorem Den.int{i:Int}:Den K H (.int i) (.int i):=by rw[Den]
theorem Den.str:Den K H (.str x) (.str x):=by rw[Den]
theorem Den.bool{b:Bool}:Den K H (.bool b) (.bl b):=by rw[Den]
theorem Den.none:Den K H .none .non:=by rw[Den]
theorem Den.list(h:fQ K H a xs)(q:cX K H ds xs):Den K H (.list ds) (.ref a):=by rw[Den];exact⟨a,xs,rfl,h,q⟩
theorem Den.tuple(h:iy K H a xs)(q:cX K H ds xs):Den K H (.tuple ds) (.ref a):=by rw[Den];exact⟨a,xs,rfl,h,q⟩
end
section
variable {X:Cx} {pins:List (Addr×Obj)} {σ:St} {H:Hp} {s:Shared}
mutual
theorem Den.reads(I:Inv X pins σ H s):∀(d:PyData) (v:V) (u:Value),d.canLay0=true->Den X.K H d v->RelV v u->∃as,Reads s.heap u d as
 |.none,v,u,_,h,r=>by rw[Den]at h;subst h;cases r;exact⟨_,.none⟩
 |.bool b,v,u,_,h,r=>by rw[Den]at h;subst h;cases r;exact⟨_,.bool b⟩
 |.int i,v,u,_,h,r=>by rw[Den]at h;subst h;obtain⟨t,rfl⟩:=r;exact⟨_,.int i t⟩
 |.str x,v,u,_,h,r=>by rw[Den]at h;subst h;obtain⟨t,rfl⟩:=r;exact⟨_,.str x t⟩
 | .list ds,v,u,c,h,r=>by
  rw[Den]at h;obtain⟨a,xs,rfl,q1,q2⟩:=h;cases r;obtain⟨its,rv,⟨o,n,e1,e2,_,e3⟩,_⟩:=I.list q1;obtain⟨as,ra⟩:=cX.reads I ds xs its (by simpa [PyData.canLay0] using c) q2 rv;exact⟨_,.list e1 e2 e3 (by simpa using ra)⟩
 | .tuple ds,v,u,c,h,r=>by
  rw[Den]at h;obtain⟨a,xs,rfl,q1,q2⟩:=h;cases r;obtain⟨its,rv,⟨o,e1,e2,n,e3⟩,_⟩:=I.tuple q1;obtain⟨as,ra⟩:=cX.reads I ds xs its (by simpa [PyData.canLay0] using c) q2 rv;exact⟨_,.tuple e1 e2 e3 (by simpa using ra)⟩
 |.dict _,_,_,c,_,_=>by simp[PyData.canLay0]at c
theorem cX.reads(I:Inv X pins σ H s):∀(ds:List PyData) (xs:List V) (us:List Value),PyData.canLayAll0 ds=true->cX X.K H ds xs->Vals xs us->∃as,ReadsAll s.heap us ds as
 |[],xs,us,_,h,r=>by rw[cX]at h;subst h;cases r;exact⟨_,.nil⟩
 | d::ds,xs,us,c,h,r=>by
  have c':d.canLay0=true/\PyData.canLayAll0 ds=true:=by simpa [PyData.canLayAll0] using c
  rw[cX]at h;obtain⟨x,rest,rfl,q1,q2⟩:=h;cases r with
  |cons r1 r2=>obtain⟨as,ra⟩:=Den.reads I d x _ c'.1 q1 r1;obtain⟨bs,rb⟩:=cX.reads I ds rest _ c'.2 q2 r2;exact⟨_,.cons ra rb⟩
end
end
section
variable {X:Cx}
def QA(K:Frag):R2:=λx y H Q=>∃d e,Den K H d x/\Den K H e y/\d.canLay0=true/\e.canLay0=true/\d.depth<=60/\Q (.bl (PyData.eqv d e)) H
def QB(K:Frag):R2:=λx y H Q=>∃d e,Den K H d x/\Den K H e y/\d.canLay0=true/\e.canLay0=true/\d.depth<=60/\Q (.bl (!PyData.eqv d e)) H
theorem Im(hu:X.A.units+64<cLine):kU X (compareOp .Eq) (QA X.K):=by
 intro pins s σ H x y v u Q I rx ry h;obtain⟨d,e,hd,he,c1,c2,hz,q⟩:=h;obtain⟨as,ra⟩:=Den.reads I d x v c1 hd rx;obtain⟨bs,rb⟩:=Den.reads I e y u c2 he ry;exact SeqAt.compareEq_reads ra rb c1 c2 (by have:=Nat.min_le_left d.depth e.depth;omega) ⟨.bl _,H,I,rfl,q⟩
theorem Io(hu:X.A.units+64<cLine):kU X (compareOp .NotEq) (QB X.K):=by
 intro pins s σ H x y v u Q I rx ry h;obtain⟨d,e,hd,he,c1,c2,hz,q⟩:=h;obtain⟨as,ra⟩:=Den.reads I d x v c1 hd rx;obtain⟨bs,rb⟩:=Den.reads I e y u c2 he ry;exact SeqAt.compareNe_reads ra rb c1 c2 (by have:=Nat.min_le_left d.depth e.depth;omega) ⟨.bl _,H,I,rfl,q⟩
theorem nt{ns:List Int}(I:Inv X pins σ H s)(hq:fQ X.K H p (ns.map V.int))(h64:ns.length<64)
  (q:∀l,H l=none->Q (.ref l) (upd H l (.lst ((sortI ns).map V.int)))):wpAny (model X.prog X.w) X.A (call (.builtin "sorted") [.ref p]) (EP X pins σ Q) X.xe s:=by
 obtain⟨its,rv,pl,hz⟩:=I.list hq;have hi:=intsAre_of rv;have hl:=hi.length;refine sorted_ints pl.isList hi (by omega) λout ns' a1 a2 a3=>?_;obtain⟨e,he⟩:=sortedAll_at s.heap its out;have es:ns'=sortI ns:=eq_sortI a2 a3;subst es;have hn:H (s.heap.objs.size+1)=none:=I.hok.fresh (WR _);refine⟨.ref (s.heap.objs.size+1),_,I.laid (t':=s.toks) (λb o z=>sortedAll_old z) (WR _) (show bx X.prog X.w _ _ _ (.lst ((sortI ns).map V.int)) from⟨?_,out.toList,e,jm a1,by simpa using he⟩),rfl,q _ hn⟩;rw[V9,(sortI_perm ns).length_eq,W0];omega
theorem k8:bN X (.builtin "sorted") (λxs H Q=>∃p ns,xs=[.ref p]/\fQ X.K H p (ns.map V.int)/\ns.length<64/\∀l,H l=none->Q (.ref l) (upd H l (.lst ((sortI ns).map V.int)))):=by
 intro pins s σ H xs us Q I r h;obtain⟨p,ns,rfl,hq,h64,q⟩:=h;obtain⟨u,rfl,ru⟩:=vals1 r;cases ru;exact nt I hq h64 q
def MJ(K:Frag)(H:Hp)(r:Addr×List Int):Prop:=iy K H r.1 (r.2.map V.int)/\r.2≠[]
theorem vc{pins:List (Addr×Obj)}{σ:St}{H:Hp}{s:Shared}{A:Around}{rs:List (Addr×List Int)}{h6:Heap}{s6:Shared}(I:Inv X pins σ H s)(ht:∀r∈rs,MJ X.K H r)(h2:2<=rs.length)(k:∀b o,s.heap.get? b=some o->s6.heap.get? b=some o) :
  pO.pQ X.prog X.w A pO.lexOrd (λi=>(rs.getD i (0,[])).2) (rs.map λr=>Value.ref r.1) s6:=by
 have tup:∀r∈rs,∃its o n,s6.heap.get? r.1=some o/\o.cls=.type "tuple" /\ o.data=.seq (toArray its) n/\IntsAre its r.2:=λr hr=>by
  obtain⟨its,rv,⟨o,e1,e2,n,e3⟩,_⟩:=I.tuple (ht r hr).1;exact⟨its,o,n,k _ _ e1,e2,e3,intsAre_of rv⟩
 have kt:∀rs:List (Addr×List Int),(∀r∈rs,∃its o n,s6.heap.get? r.1=some o/\o.cls=.type "tuple" /\ o.data=.seq (toArray its) n/\IntsAre its r.2)->(∀r∈rs,r.2≠[]) ->
   ∃fs,PySem.W.KatTups s6.heap (rs.map λr=>Value.ref r.1) fs/\fs.length=rs.length/\∀v∈fs,∃i t,v=Value.int i t:=by
  intro rs
  induction rs with
  |nil=>intro _ _;exact⟨[],PySem.W.KatTups.nil,rfl,λv hv=>nomatch hv⟩
  |cons r rs ih=>
   intro g1 g2;obtain⟨fs,q1,q2,q3⟩:=ih (λr' hr'=>g1 r' (V5 _ hr')) λr' hr'=>g2 r' (V5 _ hr');obtain⟨its,o,n,e1,e2,e3,hi⟩:=g1 r V8;have hne:=g2 r V8;cases hr:r.2 with
   |nil=>exact absurd hr hne
   |cons i is=>
    rw[hr]at hi;cases hi with
    |cons _ t hi'=>
     refine⟨.int i t::fs,PySem.W.KatTups.cons e1 e2 e3 (by simp) q1,by simp[q2],λv hv=>?_⟩
     rcases Wf.mp hv with z|z
     ·exact⟨i,t,z⟩
     ·exact q3 v z
 obtain⟨fs,q1,q2,q3⟩:=kt rs tup λr hr=>(ht r hr).2;unfold pO.pQ;refine PySem.W.kat_kind q1 (by omega) (T:=Value.type "int") (λv hv=>?_) rfl ⟨rfl,λi j C hi hj hc=>?_⟩
 ·obtain⟨i,t,rfl⟩:=q3 v hv;exact PySem.W.Looks.of_pure rfl
 ·rw[V9]at hi hj
  unfold PySem.W.kas_ask;have e1:(rs.map λr=>Value.ref r.1).getD i Value.none=Value.ref rs[i].1:=by simp[hi]
  have e2:(rs.map λr=>Value.ref r.1).getD j Value.none=Value.ref rs[j].1:=by simp[hj]
  have e3:rs.getD i (0,[])=rs[i]:=by simp[hi]
  have e4:rs.getD j (0,[])=rs[j]:=by simp[hj]
  rw[e1,e2];simp only[e3,e4]at hc;obtain⟨its,o,n,a1,a2,a3,a4⟩:=tup rs[i] (XH hi);obtain⟨its',o',n',b1,b2,b3,b4⟩:=tup rs[j] (XH hj);have l1:=a4.length;have l2:=b4.length;refine kat_lt a1 a3 b1 b3 (pO.lR 0 a4 b4 ?_ l1 hc (.inr rfl) (λ_ _ _=>trivial) (λ_=>trivial) ?_)
  ·rw[Wd,Wd,l1,l2];simp
  ·rw[Wd,Wd,l1,l2]
theorem yF{rs:List (Addr×List Int)}:∀{us:List Value},Vals (rs.map λr=>V.ref r.1) us->us=rs.map λr=>Value.ref r.1:=by
 induction rs with
 |nil=>intro us r;cases r;rfl
 |cons a rs ih=>
  intro us r;cases r with
  |cons r1 r2=>cases r1;rw[ih r2];rfl
theorem k9:bN X (.builtin "sorted") (λxs H Q=>∃(p:Addr) (rs:List (Addr×List Int)),xs=[.ref p]/\fQ X.K H p (rs.map λr=>V.ref r.1)/\rs.length<64/\(∀r∈rs,MJ X.K H r) /\
  ∀(l:Addr) (qs:List (Addr×List Int)),H l=none->qs.Perm rs->qs.Pairwise (λa b=>HT.lexLt b.2 a.2=false)->Q (.ref l) (upd H l (.lst (qs.map λr=>V.ref r.1)))):=by
 intro pins s σ H xs us Q I r h;obtain⟨p,rs,rfl,hq,h64,ht,q⟩:=h;obtain⟨u,rfl,ru⟩:=vals1 r;cases ru;obtain⟨its,rv,pl,hz⟩:=I.list hq;have ev:=yF rv;subst ev;refine pO.iJ (O:=pO.lexOrd) (collect_list pl.isList ?_ (by rw[V9,W0];omega));have k1:∀b o,s.heap.get? b=some o->((s.heap.push (seqObj "list" #[] 0)).update s.heap.objs.size (Obj.mapSeq (· ++ (rs.map λr=>Value.ref r.1).toArray))).get? b=some o:=λb o e=>by
  rw[XJ _ _ _ _ (Wj (Wa e))];exact V3 _ e
 have T8:((s.heap.push (seqObj "list" #[] 0)).update s.heap.objs.size (Obj.mapSeq (· ++ (rs.map λr=>Value.ref r.1).toArray))).objs.size=s.heap.objs.size+1:=by rw[Heap.size_update,size_push']
 refine⟨by rw[V9];exact h64,λi=>(rs.getD i (0,[])).2,λh2 h6 k6=>?_,λpp h' op k' he=>?_⟩
 ·rw[V9]at h2;exact vc (h6:=h6) I ht h2 λb o e=>k6 b o (k1 b o e)
 ·rw[V9]at op
  dsimp only at k' he |-;rw[T8]at he |-;obtain⟨e,he⟩:=he;have hn:H (s.heap.objs.size+1)=none:=I.hok.fresh (WR _);have lp:pp.length=rs.length:=by rw[op.perm.length_eq,YA]
  have mem:∀i∈pp,i<rs.length:=λi hi=>by simpa using op.perm.mem_iff.mp hi
  have QC:(pp.map λi=>(rs.map λr=>Value.ref r.1).getD i Value.none)=(pp.map λi=>rs.getD i (0,[])).map λr=>Value.ref r.1:=by rw[Yt];refine Yq λi hi=>?_;simp[mem i hi]
  have qp:(pp.map λi=>rs.getD i (0,[])).Perm rs:=by have:=op.perm.map λi=>rs.getD i (0,[]);rwa [pO.dh]at this
  have qs:(pp.map λi=>rs.getD i (0,[])).Pairwise (λa b=>HT.lexLt b.2 a.2=false):=by have up1:=Xx.mp op.up;exact Xx.mpr up1
  refine⟨.ref (s.heap.objs.size+1),_,I.laid (t':=s.toks) (λb o z=>k' b o (k1 b o z)) (WR _) (show bx X.prog X.w _ _ _ (.lst ((pp.map λi=>rs.getD i (0,[])).map λr=>V.ref r.1)) from⟨?_,_,e,?_,he⟩),rfl,q _ _ hn qp qs⟩
  ·rw[V9,V9,lp,W0];omega
  ·rw[QC]
   generalize (pp.map λi=>rs.getD i (0,[]))=zs
   induction zs with
   |nil=>exact .nil
   |cons z zs ih=>exact .cons rfl ih
theorem wC{ns:List Int}(h:IntsAre us ns):∀(i:Nat) (v:Value),us[i]?=some v->∃t,v=.int (ns.getD i 0) t:=by
 induction h with
 |nil=>intro i v e;simp at e
 |cons z t r ih=>
  intro i v e;cases i with
  |zero=>simp at e;exact⟨t,by simp[<-e]⟩
  |succ i=>obtain⟨u,q⟩:=ih i v (by simpa using e);exact⟨u,by simpa using q⟩
theorem pS{pins:List (Addr×Obj)}{σ:St}{H:Hp}{s:Shared}{p:Addr}{ns:List Int}(I:Inv X pins σ H s)(hc:X.calm=true)(hq:fQ X.K H p (ns.map V.int)\/iy X.K H p (ns.map V.int))(hne:0<ns.length){Q:Value->Shared->Prop}{f:String}{bt:Int->Int->Bool}{op:CmpOp}
  (hf:∀{Q:Value->Shared->Prop},wpAny (model X.prog X.w) X.A.in1 (pyIter (.ref p)) (λit s₂=>∃I fp wr n P St bt,it=.ref I/\Walks X.prog X.w X.A.in1 I fp wr n P St/\St 0 s₂.heap/\(∀b∈fp,b<s₂.heap.objs.size)/\0<n/\CmpOf X.prog X.w X.A.in1 op P bt /\
   ∀v h' tk,P (argBest bt (n-1)) v->(∀b o,b∉wr->s₂.heap.get? b=some o->h'.get? b=some o)->Q v { s₂ with heap:=h',toks:=tk }) X.xe s->wpAny (model X.prog X.w) X.A (call (.builtin f) [.ref p]) Q X.xe s)
  (hcmp:∀(P:Nat->Value->Prop),(∀i v,P i v->∃t,v=.int (ns.getD i 0) t)->CmpOf X.prog X.w X.A.in1 op P λi j=>bt (ns.getD i 0) (ns.getD j 0))
  (h:∀t h' tk,(∀b o,s.heap.get? b=some o->h'.get? b=some o)->argBest (λi j=>bt (ns.getD i 0) (ns.getD j 0)) (ns.length-1)<ns.length->Q (.int (ns.getD (argBest (λi j=>bt (ns.getD i 0) (ns.getD j 0)) (ns.length-1)) 0) t) { s with heap:=h',toks:=tk }) :
  wpAny (model X.prog X.w) X.A (call (.builtin f) [.ref p]) Q X.xe s:=by
 have hh:X.A.in1.handled=none:=I.ok.hd hc;have up:∀{us:List Value} (P:Nat->Value->Prop) (hi:IntsAre us ns),(∀i v,P i v->us.toArray[i]?=some v)->∀i v,P i v->∃t,v=.int (ns.getD i 0) t:=λP hi hP i v q=>wC hi i v (by simpa using hP i v q);have best:∀{us:List Value} (hi:IntsAre us ns) (v:Value) (h':Heap) (tk:Nat),us.toArray[argBest (λi j=>bt (ns.getD i 0) (ns.getD j 0)) (us.toArray.size-1)]?=some v->(∀b o,s.heap.get? b=some o->h'.get? b=some o)->Q v { s with heap:=h',toks:=tk }:=λ{us} hi v h' tk e k=>by
  have hl:=hi.length;rw[Wd,hl]at e;have e':us[argBest (λi j=>bt (ns.getD i 0) (ns.getD j 0)) (ns.length-1)]?=some v:=by simpa using e
  obtain⟨t,rfl⟩:=wC hi _ v e';exact h t h' tk k (by have:=(V4.mp e').1;omega)
 rcases hq with hq|hq
 ·obtain⟨its,rv,pl,hz⟩:=I.list hq
  have hi:=intsAre_of rv;have hl:=hi.length;have hpl:=pl.isList;have hlt:p<s.heap.objs.size:=by obtain⟨_,e,_⟩:=hpl;exact Wa e
  refine hf (X0 hpl ⟨s.heap.objs.size,[s.heap.objs.size,p],[s.heap.objs.size],its.toArray.size,_,_,λi j=>bt (ns.getD i 0) (ns.getD j 0),rfl,Walks.list hh _ p (Wj hlt) its.toArray,⟨⟨_,Wk _ rfl,rfl,rfl⟩,hpl.push _⟩,λb hb=>?_,by rw[Wd];omega,
   hcmp _ (up _ hi λi v q=>q),λv h' tk e k=>?_⟩)
  ·simp only[size_push']
   rcases Wf.mp hb with z|z
   ·rw[z];exact WS _
   ·rw[Wo.mp z];exact W5 hlt
  ·exact best hi v h' tk e λb o z=>k b o (by simp;exact Wj (Wa z)) (V3 _ z)
 ·obtain⟨its,rv,pl,hz⟩:=I.tuple hq
  have hi:=intsAre_of rv;have hl:=hi.length;have hpl:s.heap.IsTuple p its.toArray:=pl;have hlt:p<s.heap.objs.size:=by obtain⟨_,e,_⟩:=hpl;exact Wa e
  refine hf (wpAny_pyIter_tuple hpl ⟨s.heap.objs.size,[s.heap.objs.size,p],[s.heap.objs.size],its.toArray.size,_,_,λi j=>bt (ns.getD i 0) (ns.getD j 0),rfl,Walks.tuple hh _ p (Wj hlt) its.toArray,⟨⟨_,Wk _ rfl,rfl,rfl⟩,?_⟩,λb hb=>?_,by rw[Wd];omega,
   hcmp _ (up _ hi λi v q=>q),λv h' tk e k=>?_⟩)
  ·obtain⟨o,e,c⟩:=hpl;exact⟨o,V3 _ e,c⟩
  ·simp only[size_push']
   rcases Wf.mp hb with z|z
   ·rw[z];exact WS _
   ·rw[Wo.mp z];exact W5 hlt
  ·exact best hi v h' tk e λb o z=>k b o (by simp;exact Wj (Wa z)) (V3 _ z)
theorem qN(hc:X.calm=true):bN X (.builtin "min") (λxs H Q=>∃(p:Addr) (ns:List Int),xs=[.ref p]/\(fQ X.K H p (ns.map V.int)\/iy X.K H p (ns.map V.int))/\0<ns.length/\∀m,m∈ns->(∀a∈ns,m<=a)->Q (.int m) H):=by
 intro pins s σ H xs us Q I r h;obtain⟨p,ns,rfl,hq,hne,q⟩:=h;obtain⟨u,rfl,ru⟩:=vals1 r;cases ru;refine pS (bt:=λa b=>decide (a<b)) (op:=.Lt) I hc hq hne (λ{Q} h=>call_min_walk h) (λP hP=>?_) λt h' tk k hb=>⟨.int _,H,I.kept k,⟨t,rfl⟩,q _ ?_ λa ha=>?_⟩
 ·intro i j x y s' Q' E' hx hy hQ;obtain⟨t,rfl⟩:=hP i x hx;obtain⟨t',rfl⟩:=hP j y hy;exact lt_int (by simpa using hQ)
 ·exact getD_mem hb
 ·obtain⟨j,hj,rfl⟩:=mem_getD ha;exact(argBest_lt (λi=>ns.getD i 0) (ns.length-1)).2 j (by omega)
theorem qO(hc:X.calm=true):bN X (.builtin "max") (λxs H Q=>∃(p:Addr) (ns:List Int),xs=[.ref p]/\(fQ X.K H p (ns.map V.int)\/iy X.K H p (ns.map V.int))/\0<ns.length/\∀m,m∈ns->(∀a∈ns,a<=m)->Q (.int m) H):=by
 intro pins s σ H xs us Q I r h;obtain⟨p,ns,rfl,hq,hne,q⟩:=h;obtain⟨u,rfl,ru⟩:=vals1 r;cases ru;refine pS (bt:=λa b=>decide (a>b)) (op:=.Gt) I hc hq hne (λ{Q} h=>call_max_walk h) (λP hP=>?_) λt h' tk k hb=>⟨.int _,H,I.kept k,⟨t,rfl⟩,q _ ?_ λa ha=>?_⟩
 ·intro i j x y s' Q' E' hx hy hQ;obtain⟨t,rfl⟩:=hP i x hx;obtain⟨t',rfl⟩:=hP j y hy;exact gt_int (by simpa using hQ)
 ·exact getD_mem hb
 ·obtain⟨j,hj,rfl⟩:=mem_getD ha;exact(argBest_gt (λi=>ns.getD i 0) (ns.length-1)).2 j (by omega)
end
section
variable {X:Cx}
theorem vd{bs:List Bool}:∀{us:List Value},Vals (bs.map V.bl) us->us=bs.map Value.bool:=by
 induction bs with
 |nil=>intro us r;cases r;rfl
 |cons a bs ih=>
  intro us r;cases r with
  |cons r1 r2=>cases r1;rw[ih r2];rfl
theorem nu(bs:List Bool):((List.range bs.length).all λi=>bs.getD i true)=bs.all id:=by
 conv=>rhs;rw[<-pO.dh bs true]
 rw[List.all_map];rfl
theorem oR(hc:X.calm=true):bN X (.builtin "all") (λxs H Q=>∃(p:Addr) (bs:List Bool),xs=[.ref p]/\fQ X.K H p (bs.map V.bl)/\Q (.bl (bs.all id)) H):=by
 intro pins s σ H xs us Q I r h;obtain⟨p,bs,rfl,hq,q⟩:=h;obtain⟨u,rfl,ru⟩:=vals1 r;cases ru;obtain⟨its,rv,pl,hz⟩:=I.list hq;have ev:=vd rv;subst ev;have hpl:=pl.isList;have hlt:p<s.heap.objs.size:=by obtain⟨_,e,_⟩:=hpl;exact Wa e
 refine call_all_walk (X0 hpl ⟨s.heap.objs.size,[s.heap.objs.size,p],[s.heap.objs.size],_,_,_,λi=>bs.getD i true,rfl,Walks.list (A:=X.A.in1) (I.ok.hd hc) _ p (Wj hlt) (bs.map Value.bool).toArray,
  ⟨⟨_,Wk _ rfl,rfl,rfl⟩,hpl.push _⟩,λi v s' Q' E' hP hQ=>?_,λh' tk hk=>?_⟩)
 ·have hi:i<bs.length:=by simpa using (Xg.mp hP).1
  have e:v=Value.bool (bs.getD i true):=by
   have:(bs.map Value.bool)[i]?=some v:=by simpa using hP
   simp[hi]at this;simp[hi,this]
  subst e;exact Xm hQ
 ·have e:((List.range (bs.map Value.bool).toArray.size).all λi=>bs.getD i true)=bs.all id:=by rw[Wd,V9];exact nu bs
  rw[e];exact⟨.bl _,H,I.kept λb o z=>hk b o (by simp;exact Wj (Wa z)) (V3 _ z),rfl,q⟩
section
open PySem.AutoSeq1 (wpAny_loadPart')
theorem qP(l b:Addr)(items items2:Array Value)(n n2:Nat)(dd2:Option Addr)(sl2:Array (Option Value))(hs0:¬(!items.isEmpty&&Builtin.List.listTooLong (items.size+items2.size))=true)(hs1:items.size<=sizeLine)(hs2:items.size+items2.size<=sizeLine+1) :
  Meets (Builtin.«list.extend» ⟨[.ref l,.ref b],[]⟩) (λ_ R s=>s.heap.get? l=some { cls:=.type "list",data:=.seq items n }/\s.heap.get? b=some { cls:=.type "tuple",dict:=dd2,data:=.seq items2 n2,slots:=sl2 } /\
   R (.ok (.ret Value.none)) { s with heap:=s.heap.update l (Obj.mapSeq λx=>x++items2) }) :=
 .of_wp λprog w A R s h=>by
  obtain⟨hp,g,d,tk,os⟩:=s;obtain⟨hl,hb,h⟩:=h;have f2:=AutoSeq1.sub_tuple_tuple;have f3:=AutoSeq1.sub_list_list;have f4:=AutoSeq1.sub_tuple_list;have f5:=AutoSeq1.sub_list_tuple;have hz':(items++items2).size<=sizeLine+1:=by rw[Array.size_append];exact hs2
  wp_walk using (wpAny_updateSeq hl rfl (hz:=hs1) (_hz':=hz')),wpAny_loadPart' hl,wpAny_loadPart' hb
  exact⟨_,rfl,h⟩
end
def Aj(K:Frag):V->List V->Hp->VK->Prop:=λx vs H Q=>∃l b xs zs,x=.ref l/\vs=[.ref b]/\H l=some (.lst xs)/\iy K H b zs/\xs.length+zs.length<=sizeLine/\Q .non (upd H l (.lst (xs++zs)))
theorem ve:Pn X "list.extend" (Aj X.K):=by
 intro pins s σ H x vs v us Q I rx rv h;obtain⟨l,b,xs,zs,rfl,rfl,hH,hB,hz,q⟩:=h;cases rx;obtain⟨u,rfl,ru⟩:=rv.one;cases ru;obtain⟨z,its,n,r,hl,e⟩:=I.zZ hH;obtain⟨its2,r2,⟨⟨oc,od,Pq,osl⟩,e2,ec,n2,ed⟩,z2⟩:=I.tuple hB;cases ec;cases ed;have l2:=r2.length;have hsz:its.toArray.size+its2.toArray.size<=sizeLine:=by rw[Wd,Wd];omega
 have z5:¬ (!its.toArray.isEmpty&&Builtin.List.listTooLong (its.toArray.size+its2.toArray.size))=true:=by rw[rW hsz,Bool.and_false];exact V1
 refine call_meets F.slot_list_extend ⟨_,e,rfl⟩ F.entry_list_extend (F.args_list_extend_2 _ _)
  (qP l b its.toArray its2.toArray n n2 od osl z5 (by rw[Wd];omega) (by omega)) ⟨e,e2,?_⟩
 refine⟨.non,_,I.Ds (its':=its++its2) hH e (by simp) (r.append r2) ?_,rfl,q⟩;rw[Wz];omega
end
end L2
end
section
namespace L2
open PySem
def pT(xs:Array Nat):Prop:=xs.toList.Pairwise (· < ·)
structure Cut (xs:Array Nat) (j p:Nat):Prop where
 le:p<=xs.size
 lo:∀(i:Nat) (hi:i<xs.size),i<p->xs[i]<j
 hi:∀(i:Nat) (hi:i<xs.size),p<=i->j<=xs[i]
theorem Cut.one{xs:Array Nat}{j p q:Nat}(a:Cut xs j p)(b:Cut xs j q):p=q:=by
 rcases Nat.lt_trichotomy p q with h|h|h
 ·have hp:p<xs.size:=Wc h b.le;have:=a.hi p hp (Wb _);have:=b.lo p hp h;omega
 ·exact h
 ·have hq:q<xs.size:=Wc h a.le;have:=b.hi q hq (Wb _);have:=a.lo q hq h;omega
theorem pT.get{xs:Array Nat}(r:pT xs){a b:Nat}(ha:a<xs.size)(hb:b<xs.size)(h:a<b):xs[a]<xs[b]:=by
 have:=Xi.mp r a b (by simpa using ha) (by simpa using hb) h;simpa using this
theorem vf{xs:Array Nat}(r:pT xs)(j:Nat):∀(fuel lo hi:Nat),lo<=hi->hi<=xs.size->hi-lo<=fuel->(∀(i:Nat) (hi:i<xs.size),i<lo->xs[i]<j)->(∀(i:Nat) (h:i<xs.size),hi<=i->j<=xs[i])->Cut xs j (SetTable.below.go xs j fuel lo hi)
 | 0,lo,hi,h1,h2,h3,a,b=>by
  have:lo=hi:=by omega
  subst this;exact⟨h2,a,b⟩
 | fuel+1,lo,hi,h1,h2,h3,a,b=>by
  unfold SetTable.below.go
  by_cases hlt:lo<hi
  ·rw[Wg hlt]
   dsimp only;have hm:(lo+hi)/2<xs.size:=by omega
   have eg:xs.getD ((lo+hi)/2) j=xs[(lo+hi)/2]:=by simp[Array.getD,hm]
   rw[eg]
   by_cases hc:xs[(lo+hi)/2]<j
   ·rw[Wg hc]
    refine vf r j fuel _ hi (by omega) h2 (by omega) (λi hi' hl=>?_) b
    by_cases e:i=(lo+hi)/2
    ·subst e;exact hc
    ·exact lt_trans (r.get hi' hm (by omega)) hc
   ·rw[We hc]
    refine vf r j fuel lo _ (by omega) (by omega) (by omega) a (λi hi' hl=>?_)
    by_cases e:i=(lo+hi)/2
    ·subst e;omega
    ·have:=r.get hm hi' (by omega);omega
  ·rw[We hlt]
   have:lo=hi:=by omega
   subst this;exact⟨h2,a,b⟩
theorem jo{xs:Array Nat}(r:pT xs)(j:Nat):Cut xs j (SetTable.below xs j) :=
 vf r j xs.size 0 xs.size (Xn _) (Wb _) (by omega) (λi _ h=>by omega) (λi h hl=>by omega)
theorem vg{xs:Array Nat}(r:pT xs):SetTable.below xs 0=0:=(jo r 0).one ⟨Xn _,λi _ h=>by omega,λi _ _=>Xn _⟩
theorem vh{xs:Array Nat}(r:pT xs){i:Nat}(hi:i<xs.size):SetTable.below xs (xs[i]+1)=i+1:=by
 refine(jo r _).one ⟨hi,λk hk h=>?_,λk hk h=>?_⟩
 ·by_cases e:k=i
  ·subst e;omega
  ·have:=r.get hk hi (by omega);omega
 ·have:=r.get hi hk (by omega);omega
theorem yG{xs:Array Nat}(r:pT xs){j:Nat}(h:j∈xs):xs[SetTable.below xs j]?=some j:=by
 obtain⟨k,hk,e⟩:=Array.mem_iff_getElem.mp h;have:SetTable.below xs j=k:=by
  refine(jo r j).one ⟨Xk hk,λi hi h=>?_,λi hi h=>?_⟩
  ·have:=r.get hi hk h;omega
  ·by_cases e':i=k
   ·subst e';omega
   ·have:=r.get hk hi (by omega);omega
 rw[this,WE hk,e]
theorem yH{xs:Array Nat}(r:pT xs){j:Nat}(h:j∉xs):pT (SetTable.insertAt xs (SetTable.below xs j) j):=by
 have c:=jo r j;unfold pT;rw[SetTable.toList_insertAt];have rl:xs.toList.Pairwise (· < ·):=r;have lo:∀a∈xs.toList.take (SetTable.below xs j),a<j:=λa ha=>by
  obtain⟨i,hi,e⟩:=Xz.mp ha;rw[Yh,WC]at hi;rw[List.getElem_take]at e;have:=c.lo i (by omega) (by omega);rw[<-e];simpa using this
 have up:∀a∈xs.toList.drop (SetTable.below xs j),j<a:=λa ha=>by
  obtain⟨i,hi,e⟩:=Xz.mp ha;rw[YG,WC]at hi;rw[List.getElem_drop]at e;have h1:=c.hi (SetTable.below xs j+i) (by omega) (by omega);have e':xs[SetTable.below xs j+i]'(by omega)=a:=by rw[<-e];simp
  rw[e']at h1;have:a≠j:=λz=>h (by rw[<-z,<-e'];exact Array.getElem_mem _);omega
 rw[List.pairwise_append];refine⟨rl.sublist (List.take_sublist _ _),WK.mpr ⟨up,rl.sublist (List.drop_sublist _ _)⟩,λa ha b hb=>?_⟩
 rcases Wf.mp hb with e|hb
 ·rw[e];exact lo a ha
 ·exact lt_trans (lo a ha) (up b hb)
theorem kc(n:Nat):pT (Array.range n):=by
 unfold pT;rw[Array.toList_range];exact List.pairwise_lt_range
theorem pU{t:SetTable}(r:pT t.place){j:Nat}(h:t.slot j=.empty\/t.slot j=.dummy):j∉t.place:=λhm=>by
 have e:=yG r hm;unfold SetTable.slot at h;dsimp only at h;rw[e]at h;simp at h
theorem jP{h:Int}:∀(fuel:Nat) (p:SetTable.Probe) (j:Nat) (d:Option Nat),(∀k,p.dummy=some k->t.slot k=.dummy)->SetTable.probe.go t f h fuel p=some (.empty j d)->t.slot j=.empty/\∀k,d=some k->t.slot k=.dummy
 |0,p,j,d,hd,e=>by simp[SetTable.probe.go]at e
 | fuel+1,p,j,d,hd,e=>by
  have ad:∀q:SetTable.Probe,(t.advance q).dummy=q.dummy:=λq=>by unfold SetTable.advance;split<;>rfl
  unfold SetTable.probe.go at e;split at e
  ·rename_i hs;cases e;exact⟨hs,hd⟩
  ·rename_i hs;refine jP fuel _ j d (λk hk=>?_) e;rw[ad]at hk;cases hk;exact hs
  ·split at e
   ·cases e
   ·exact jP fuel _ j d (λk hk=>hd k (by rw[<-ad];exact hk)) e
theorem Ak{t:SetTable}(r:pT t.place){h:Int}{s:Nat}{b:Bool}(e:t.freeSlot h=some (s,b)):s∉t.place:=by
 unfold SetTable.freeSlot at e;split at e
 ·rename_i j d hp
  cases e;obtain⟨h1,h2⟩:=jP _ _ _ _ (λk hk=>by simp[SetTable.probeStart]at hk) hp;cases d with
  |none=>exact pU r (.inl h1)
  |some k=>exact pU r (.inr (h2 k rfl))
 ·cases e
theorem yI(r:pT t.place)(es:Array (Int×Value))(h:Int)(x:Value):pT (layNew t es h x).2.1.place/\(layNew t es h x).2.1.led=t.led:=by
 unfold layNew
 split
 ·rename_i s b e
  have fr:=Ak r e;dsimp only;unfold SetTable.orStandIn
  split
  ·exact⟨yH r fr,rfl⟩
  ·exact⟨kc _,rfl⟩
 ·exact⟨kc _,rfl⟩
theorem Am(r:pT t.place)(es:Array (Int×Value))(n:Nat):pT (relayAll t es n).2.1.place/\(relayAll t es n).2.1.led=t.led:=by
 unfold relayAll
 split
 ·rename_i t' order e
  dsimp only
  split
  ·unfold SetTable.relaid SetTable.laid at e;obtain⟨ow,e1,e⟩:=V0.mp e;cases e;refine⟨?_,rfl⟩;show List.Pairwise _ (List.map _ _).toArray.toList;rw[List.toList_toArray,Xx];refine List.Pairwise.filterMap _ (R:=(· < ·)) (λa a' hl b hb b' hb'=>?_) List.pairwise_lt_range;obtain⟨x,_,rfl⟩:=Wu.mp hb;obtain⟨y,_,rfl⟩:=Wu.mp hb';exact hl
  ·exact⟨kc _,rfl⟩
 ·exact⟨kc _,rfl⟩
end L2
end
section
namespace L2
open PySem PyProof.Rows
def oS(w:World):Bool:=w.params.followText "set-order"
structure Gb (w:World) (es:Array (Int×Value)) (t:SetTable):Prop where
 few:es.size<scanBound
 fit:t.fits es.size=true
 rs:pT t.place
 led:t.led = !oS w
structure di (prog:Program) (w:World) (h:Heap) (a:Addr) (o:Obj) (es:Array (Int×Value)) (ep:Nat) (t:SetTable) (ks:List Int):Prop where
 at_:h.get? a=some o
 ex:o.ExactSet
 dat:o.data=.set es ep t
 el:ElemsOf (intKind prog w) es.toList
 tab:Gb w es t
 So:ks.Nodup
 mem:∀k,k∈ks↔∃e∈es.toList,(intKind prog w).is k e.2=true
 num:es.size=ks.length
def mq(prog:Program)(w:World)(h:Heap)(a:Addr)(ks:List Int):Prop:=∃o es ep t,di prog w h a o es ep t ks
def sj(ks:List Int)(k:Int):List Int:=if k∈ks then ks else ks++[k]
section
variable {prog:Program} {w:World} {A:Around} {E:Value->Shared->Prop} {s:Shared}
theorem An{h:Heap}{a:Addr}{o:Obj}{es es':Array (Int×Value)}{ep:Nat}{t t':SetTable}(ho:h.get? a=some o)(hd:o.data=.set es ep t):(h.update a (Obj.putSet es' t')).get? a=some { o with data:=.set es' (ep+1) t' }:=by
 have q:=WB (Obj.putSet es' t') ho (by rw[putSet_of es' t' hd];rfl);rw[putSet_of es' t' hd]at q;exact q
theorem mq.frame{ks:List Int}(S:mq prog w h a ks)(k:∀o,h.get? a=some o->h'.get? a=some o):mq prog w h' a ks:=by
 obtain⟨o,es,ep,t,i⟩:=S;exact⟨o,es,ep,t,{ i with at_:=k o i.at_ }⟩
theorem mem_push{es es1:List (Int×Value)}{ks:List Int}{k:Int}(hx:(intKind prog w).is k x=true)(hm:∀j,j∈ks↔∃e∈es,(intKind prog w).is j e.2=true)(p:es1.Perm (es++[((intKind prog w).hash k,x)]))(j:Int) :
  j∈ks++[k]↔∃e∈es1,(intKind prog w).is j e.2=true:=by
 rw[W7,Wo,hm];constructor
 ·rintro(⟨e,he,q⟩|rfl)
  ·exact⟨e,p.mem_iff.mpr (Xl _ he),q⟩
  ·exact⟨_,p.mem_iff.mpr (Wy _ V8),hx⟩
 ·rintro⟨e,he,q⟩
  rcases W7.mp (p.mem_iff.mp he) with z|z
  ·exact .inl ⟨e,z,q⟩
  ·rw[Wo]at z;subst z;exact .inr ((intKind prog w).inj x j k q hx)
theorem su{g:Bool->Sem Unit}(hg:∀(b:Bool) (s₁:Shared) (Q':Unit->Shared->Prop),Q' () s₁->wpAny (model prog w) A (g b) Q' E s₁)
  {a:Addr} {o:Obj} {es es1:Array (Int×Value)} {ep:Nat} {t t2:SetTable} {ks:List Int} (ho:s.heap.get? a=some o) (hex:o.ExactSet) (hd:o.data=.set es ep t)
  (hel:ElemsOf (intKind prog w) es1.toList) (hm:∀k,k∈ks↔∃e∈es1.toList,(intKind prog w).is k e.2=true) (hnd:ks.Nodup) (hn:es1.size=ks.length) (ht:Gb w es1 t2) {b:Bool} {R:Option Bool->Shared->Prop}
  (h:∀h',Heap.SameBut a s.heap h'->mq prog w h' a ks->R (some true) { s with heap:=h' }) :
  wpAny (model prog w) A (do
    storeSet a es1 t2
    if (!b&&t2.tooFull)=true then do
      g (relayAll t2 es1 (SetTable.grown es1.size)).2.2
      storeSet a (relayAll t2 es1 (SetTable.grown es1.size)).1 (relayAll t2 es1 (SetTable.grown es1.size)).2.1
      pure (some true)
     else pure (some true)) R E s:=by
 refine VZ (wpAny_storeSet_of ho hd ?_ (Yc ht.few));have h1:=An (es':=es1) (t':=t2) ho hd;have b1:=WM s.heap a (Obj.putSet es1 t2)
 split
 ·have p:=relayAll_perm t2 es1 (SetTable.grown es1.size)
  have f:=relayAll_fits t2 es1 (SetTable.grown es1.size);have rr:=Am ht.rs es1 (SetTable.grown es1.size);generalize relayAll t2 es1 (SetTable.grown es1.size)=Rl at p f rr |-;obtain⟨QD,t3,gv⟩:=Rl;dsimp only at p f rr |-;have z:QD.size=es1.size:=by rw[<-WC,p.length_eq,WC]
  have few:QD.size<scanBound:=by rw[z];exact ht.few
  refine VZ (hg _ _ _ ?_);refine VZ (wpAny_storeSet_of h1 rfl ?_ (Yc few));refine V6 (h _ (b1.trans (WM _ a _)) ⟨_,QD,_,t3,An h1 rfl,hex,rfl,hel.perm p,⟨few,f,rr.1,rr.2.trans ht.led⟩,hnd,λk=>(hm k).trans ⟨λ⟨e,he,q⟩=>⟨e,p.mem_iff.mpr he,q⟩,λ⟨e,he,q⟩=>⟨e,p.mem_iff.mp he,q⟩⟩,z.trans hn⟩)
 ·exact V6 (h _ b1 ⟨_,es1,_,t2,h1,hex,rfl,hel,ht,hnd,hm,hn⟩)
theorem add_int{ks:List Int}{k:Int}(S:mq prog w s.heap a ks)(room:ks.length+1<scanBound)
  (h:∀h' b,Heap.SameBut a s.heap h'->mq prog w h' a (sj ks k)->Q b { s with heap:=h' }) :
  wpAny (model prog w) A (setAddHashed a (.int k tk) ((intKind prog w).hash k)) Q E s:=by
 obtain⟨o,es,ep,t,I⟩:=S;have hx:(intKind prog w).is k (.int k tk)=true:=intKind_is _ _ _ _;have sc:(Value.int k tk).scannable=true:=rfl;unfold setAddHashed setAddHashedIn;refine WI (VZ (W6 I.at_ I.dat I.tab.fit ?_));dsimp only;rw[byScan_of sc I.tab.few I.el];simp only[↓reduceIte];unfold setAddByScan;refine VZ (VZ (wpAny_rule (VZ (wpAny_setScan_of hx I.at_ I.dat I.tab.fit I.el ?_))));cases hr:List.findIdx? (λe=>(intKind prog w).is k e.2) es.toList with
 |some j=>
  dsimp only;obtain⟨hj,pj,_⟩:=List.findIdx?_eq_some_iff_getElem.mp hr;have hk:k∈ks:=(I.mem k).mpr ⟨es.toList[j],XH hj,pj⟩;refine V6 (V6 ?_);have e:s={ s with heap:=s.heap }:=by cases s;rfl
  rw[e];exact h s.heap _ (Heap.SameBut.refl a s.heap) (by unfold sj;rw[Wg hk];exact⟨o,es,ep,t,I⟩)
 |none=>
  dsimp only;have hk:k∉ks:=λz=>by
   obtain⟨e,he,p⟩:=(I.mem k).mp z;have:=List.findIdx?_eq_none_iff.mp hr e he;rw[p]at this;cases this
  have gw:∀(b:Bool) (s₁:Shared) (Q':Unit->Shared->Prop),Q' () s₁->wpAny (model prog w) A (match b with|true=>rule "set.scan.the-table-gave-way" | false=>pure ()) Q' E s₁:=λb s₁ Q' q=>by
   cases b
   ·exact V6 q
   ·exact wpAny_rule q
  have p:=layNew_perm t es ((intKind prog w).hash k) (.int k tk);have f:=layNew_fits t es ((intKind prog w).hash k) (.int k tk);have rr:=yI I.tab.rs es ((intKind prog w).hash k) (.int k tk);generalize layNew t es ((intKind prog w).hash k) (.int k tk)=Ln at p f rr |-;obtain⟨es1,t1,wd,gv⟩:=Ln;dsimp only at p f rr |-;rw[Array.toList_push]at p;have z:es1.size=(ks++[k]).length:=by rw[<-WC,p.length_eq,Wz,Wz,WC,I.num];rfl
  have few:es1.size<scanBound:=by rw[z,Wz];simpa using room
  have nd:(ks++[k]).Nodup:=by rw[YB];exact⟨I.So,by simp,λx hx' y hy e=>hk (by rw[Wo]at hy;rw[<-hy,<-e];exact hx')⟩
  have Sq:ElemsOf (intKind prog w) es1.toList:=(I.el.push hx sc).perm p;have m1:=mem_push hx I.mem p;have fin:∀h',Heap.SameBut a s.heap h'->mq prog w h' a (ks++[k])->Q true { s with heap:=h' }:=λh' sb S'=>h h' true sb (by unfold sj;rw[We hk];exact S');refine VZ (gw _ _ _ ?_)
  split
  ·refine VZ ?_
   rw[hashByValue_scannable 8 sc];refine V6 ?_;refine su gw I.at_ I.ex I.dat Sq m1 nd z ⟨few,?_,?_,?_⟩ λh' sb S'=>V6 (fin h' sb S')
   ·split
    ·exact f
    ·exact SetTable.fits_plain_off f
   ·split
    ·exact rr.1
    ·exact rr.1
   ·split
    ·exact rr.2.trans I.tab.led
    ·exact rr.2.trans I.tab.led
  ·refine VZ (V6 ?_);simp only[↓reduceIte];exact su gw I.at_ I.ex I.dat Sq m1 nd z ⟨few,f,rr.1,rr.2.trans I.tab.led⟩ λh' sb S'=>V6 (fin h' sb S')
end
def kg:List Int->List Int->List Int
 |ks,[]=>ks
 |ks,k::r=>kg (sj ks k) r
theorem sy(ks:List Int)(k:Int):(sj ks k).length<=ks.length+1:=by unfold sj;split<;>simp
section
variable {prog:Program} {w:World} {A:Around} {E:Value->Shared->Prop} {s:Shared}
theorem Ao{R:Result->Shared->Prop}{I:Addr}{fp wr:List Addr}{G:Array GenState->Array GenState->Prop}{n:Nat}{P:Nat->Value->Prop}{St:Nat->Shared->Prop}(W:WalksS prog w A.in1 I fp wr G n P St)(S:Addr)(hSf:S∉fp)(val:Nat->Int)(hval:∀i v,P i v->∃t,v=.int (val i) t) :
  ∀(k i:Nat) (s:Shared) (ks:List Int),n-i=k->i<=n->ks.length+k+1<scanBound->St i s->mq prog w s.heap S ks ->
   (∀s',Moved (S::wr) G s s'->mq prog w s'.heap S (kg ks ((range' i k).map val))->R (.ok (.ret .none)) s') ->
   codeAny (model prog w) A (.builtin "set.update.loop" ⟨[.ref S,.ref I],[]⟩) R s:=by
 have Ss:S∉wr:=λh=>hSf (W.sub _ h);have sub:∀b∈wr,b∈S::wr:=λb hb=>V5 _ hb;intro k
 induction k with
 |zero=>
  intro i s ks hk hi _ hst hS hR;have:i=n:=by omega
  subst this;refine Xw PyProof.Rows.F.entry_set_update_loop ?_;rw[Xo Xc _];show wpAny _ A.in1 (pyNext (.ref I) >>= _) _ _ s;refine VZ (W.done s _ _ hst λs' hm=>?_);show wpAny _ A.in1 (ret Value.none) _ _ s';exact V6 (hR s' (hm.mono sub) (hS.frame λo e=>hm.heap S _ Ss e))
 |succ k ih=>
  intro i s ks hk hi hl hst hS hR;have hlt:i<n:=by omega
  refine Xw PyProof.Rows.F.entry_set_update_loop ?_;rw[Xo Xc _];show wpAny _ A.in1 (pyNext (.ref I) >>= _) _ _ s;refine VZ (W.item i s _ _ hlt hst λv s' hP QE hm=>?_);obtain⟨t,rfl⟩:=hval i v hP;have hS':=hS.frame (h':=s'.heap) λo e=>hm.heap S _ Ss e;show wpAny _ A.in1 (holding [Value.int (val i) t] (setAdd S (.int (val i) t)) >>= _) _ _ s';refine VZ (WI ?_);unfold setAdd;refine WI (VZ ((intKind prog w).pyHash (k:=val i) (intKind_is _ _ _ _) ?_));refine add_int (s:={ s' with toks:=s'.toks+1 }) hS' (by omega) λh' b sb S2=>?_;have hl2:=sy ks (val i);refine V6 ⟨Yk Xc _,ih (i+1) _ (sj ks (val i)) (by omega) hlt (by omega) (W.frame _ s' _ _ QE (WR _) λb hb o e=>?_) S2 λs'' Ii S3=>?_⟩
  ·rw[sb.2 b λz=>hSf (by rw[<-z];exact hb)];exact e
  ·refine hR s'' (Moved.trans W.gtrans ((hm.mono sub).then_heap (WR _) λb o hb e=>?_) Ii) ?_
   ·rw[sb.2 b λz=>hb (by rw[z];exact V8)];exact e
   ·rw[List.range'_succ,Wm,kg];exact S3
abbrev nv(w:World):Obj:={ cls:=.type "set",dict:=none,data:=.set #[] 0 (.fresh 0 0 (!oS w)) }
theorem DK(e:h.get? a=some (nv w)):mq prog w h a [] :=
 ⟨_,#[],0,_,e,⟨rfl,rfl,rfl⟩,rfl,λx hx=>by simp at hx,⟨by show 0<4096;decide,rfl,List.Pairwise.nil,rfl⟩,List.nodup_nil,λk=>by simp,rfl⟩
theorem Aq(a:Value)(h:Q₁ (.ref s.heap.objs.size) { s with heap:=s.heap.push (nv w) }) :
  codeAny (model prog w) A (.call (.builtin "set.__new__") ⟨[.type "set",a],[]⟩) (wants Q₁ E) s:=by
 refine codeAny_of_tree ?_;show wpAny _ A.in1 (do checkBuiltinCall "set.__new__" ⟨[.type "set",a],[]⟩;again (.builtin "set.__new__" ⟨[.type "set",a],[]⟩)) _ _ s;refine VZ (wpAny_of_eq (PySem.F.newCall_set_1 a) (V6 ⟨Yk PySem.F.plain_set_new _,Xw PySem.F.entry_set_new ?_⟩));rw[Xo PySem.F.plain_set_new _];unfold Builtin.«set.__new__» Builtin.Frozenset.newClass;have hsub:=sub_set_self;obtain⟨hp,g,d,tk,os⟩:=s;dsimp only
 wp_walk
 refine wpAny_askSetting (V6 ?_);dsimp only;simp only[newObj];refine VZ (wpAny_alloc (V6 ?_));exact V6 h
end
section
variable {prog:Program} {w:World} {A:Around} {E:Value->Shared->Prop} {s:Shared}
theorem vj{ns:List Int}(hi:IntsAre vs ns):(range' 0 vs.length).map (λi=>ns.getD i 0)=ns:=by
 have hl:=IntsAre.length hi;apply Yj
 ·rw[V9,List.length_range',hl]
 ·intro i h1 h2;simp[List.getD,h2]
theorem sD{ns:List Int}(hh:A.handled=none)(hl:s.heap.IsList l items)(hi:IntsAre items.toList ns)(hb:items.size+1<scanBound)
  (h:∀(h':Heap) (tk:Nat),mq prog w h' s.heap.objs.size (kg [] ns)->(∀b o,b<s.heap.objs.size->s.heap.get? b=some o->h'.get? b=some o)->Q (.ref s.heap.objs.size) { s with heap:=h',toks:=tk }) :
  wpAny (model prog w) A (call (.type "set") [.ref l]) Q E s:=by
 obtain⟨c,tl,mro⟩:=PySem.F.called_set.mro;have made:=PySem.F.called_set.made;have sub:=PySem.F.called_set.sub;refine Yg (codeAny_of_tree ?_);show wpAny _ _ (callAny (.type "set") _) _ _ _;refine V6 ⟨Yw _ (by decide +kernel),Xw PySem.F.entry_type_call ?_⟩;rw[Around.under_plain (weight_type_call_type "set" [.ref l] []) rfl];have n1:=PySem.F.called_set.notType;have n2:=PySem.F.called_set.canCreate;have n3:=PySem.F.typeCall_set_1 (.ref l)
 repeat (any_goals (first|assumption|wp_step))
 refine Xv (Aq (.ref l) (E:=E) (Q₁:=λobj s₁=>obj=.ref s.heap.objs.size/\s₁={ s with heap:=s.heap.push (nv w) }) ⟨rfl,rfl⟩) λr s₁ hr=>?_;cases r with
 |error e=>exact hr
 |ok fl=>
  cases fl with
  |ret obj=>
   obtain⟨rfl,rfl⟩:=hr;have Su:(s.heap.push (nv w)).get? s.heap.objs.size=some (nv w):=Wk _ rfl;have hT:Shared.TypeIs { s with heap:=s.heap.push (nv w) } (.ref s.heap.objs.size) "set":=⟨_,Su,rfl⟩;have look:=PySem.F.called_set.init.lookup;have bind:=PySem.F.called_set.init.bind (.ref s.heap.objs.size)
   repeat (any_goals (first|assumption|wp_step))
   refine Xv (Ym (R:=wants (λr s₂=>r=.none/\∃h' tk,s₂={ s with heap:=h',toks:=tk }/\mq prog w h' s.heap.objs.size (kg [] ns) /\
     (∀b o,b<s.heap.objs.size->s.heap.get? b=some o->h'.get? b=some o)) E) PySem.F.called_set.init.plain PySem.F.entry_set_init (check_set_init_1 hT ?_)) λr₂ s₂ QF=>?_
   ·obtain⟨ol,Sv,cl,nl,dl⟩:=hl
    obtain⟨oc,od,VP,os⟩:=ol;simp only at cl dl;subst cl;subst dl;have QG:(s.heap.push (nv w)).get? l=some { cls:=.type "list",dict:=od,data:=.seq items nl,slots:=os }:=V3 _ Sv;have q1:=PySem.F.sub_list_set;have q2:=PySem.F.sub_list_frozenset;have q3:(Value.type "list" == Value.type "dict")=false:=by decide
    have hl1:(s.heap.push (nv w)).IsList l items:=⟨_,QG,rfl,nl,rfl⟩;unfold Builtin.«set.__init__» noKeywords Builtin.Frozenset.updateFrom;generalize T9:pyIter=PI
    wp_walk
    subst T9;refine X0 hl1 (VZ (wpAny_runValue ?_));have lS:l<s.heap.objs.size:=Wa Sv;have h3:A.in1.in1.in1.handled=none:=by simp[hh]
    have Ua:l≠(s.heap.push (nv w)).objs.size:=by rw[Xf];exact Wj (W5 lS)
    have sF:s.heap.objs.size∉[(s.heap.push (nv w)).objs.size,l]:=by rw[Xf];simp only[mem_cons,not_mem_nil,or_false,not_or];exact⟨Wj (WS _),Xs lS⟩
    have val:∀(i:Nat) (v:Value),items[i]?=some v->∃t,v=.int ((λi=>ns.getD i 0) i) t:=λi v hv=>IntsAre.int_at hi i v (by rw[Array.getElem?_toList];exact hv);refine Ao ((Walks.list h3 _ l Ua items).toS) s.heap.objs.size sF (λi=>ns.getD i 0) val (items.size-0) 0 _ [] (by omega) (Xn _) (by simpa using hb) ⟨⟨_,Wk _ rfl,rfl,rfl⟩,hl1.push _⟩ ?s0 ?sR
    case s0=>exact DK (V3 _ Su)
    case sR=>
     intro s' hm S';obtain⟨h',g',d',tk',os'⟩:=s';have eg:g'=s.gens:=hm.gens;have ed:d'=s.drawn:=hm.drawn;have eo:os'=s.os:=hm.os;subst eg;subst ed;subst eo;refine V6 ?_;show wpAny _ _ (ret Value.none) _ _ _;have e0:(range' 0 (items.size-0)).map (λi=>ns.getD i 0)=ns:=by have:=vj hi;rw[WC]at this;exact this
     rw[e0] at S';refine V6 ⟨rfl,h',tk',rfl,S',λb o hb e=>?_⟩;have b1:b≠s.heap.objs.size:=Wj hb;have b2:b≠(s.heap.push (nv w)).objs.size:=by rw[Xf];exact Wj (W5 hb)
     exact hm.heap b o (by simp only[mem_cons,not_mem_nil,or_false,not_or];exact⟨b1,b2⟩) (V3 _ (V3 _ e))
   ·cases r₂ with
    |error e=>exact QF
    |ok Ub=>
     cases Ub with
     |ret r=>
      obtain⟨rfl,h',tk,rfl,S',hk⟩:=QF
      repeat (any_goals (first|assumption|wp_step))
      exact h _ _ S' hk
     |_=>exact QF.elim
  |_=>exact hr.elim
end
namespace SI
theorem vm:entryFor table "set.__iter__" = some Builtin.«frozenset.__iter__» :=
 entryFor_alias (id':="frozenset.__iter__") (by kernel_rfl) rfl (by decide +kernel) (by kernel_rfl)
theorem owner:Manifest.owners.lookup (String.ofList ['r','o','t','a','r','e','t','i','_','t','e','s'].reverse)=some Manifest.sig_set_iterator:=by kernel_rfl
theorem slot_next:Slot "set_iterator" "__next__" "set_iterator.__next__" :=
 .of (owner:="set_iterator") (n:="__next__") (by rw[typeLookup_type,builtinLookup_eq_fast];kernel_rfl) (by decide +kernel) (by decide +kernel) (by decide +kernel) (by first|exact .inl (by decide +kernel)|exact .inr (by decide +kernel)) (by rw[isSubtype_type];kernel_rfl)
theorem entry_next:entryFor table "set_iterator.__next__" = some Builtin.«set_iterator.__next__»:=entryFor_of_tree (by kernel_rfl)
theorem args_next(a:Value):argsOk "set_iterator.__next__" ⟨[a],[]⟩:=by
 unfold argsOk;rw[signature?_of (id:="set_iterator.__next__") (n:=['_','_','t','x','e','n','_','_']) (o:=['r','o','t','a','r','e','t','i','_','t','e','s']) (by kernel_rfl) owner];kernel_rfl
theorem pV:Slot "set_iterator" "__iter__" "set_iterator.__iter__" :=
 .of (owner:="set_iterator") (n:="__iter__") (by rw[typeLookup_type,builtinLookup_eq_fast];kernel_rfl) (by decide +kernel) (by decide +kernel) (by decide +kernel) (by first|exact .inl (by decide +kernel)|exact .inr (by decide +kernel)) (by rw[isSubtype_type];kernel_rfl)
theorem entry_self:entryFor table "set_iterator.__iter__" = some Builtin.«dict_keyiterator.__iter__» :=
 entryFor_alias (id':="dict_keyiterator.__iter__") (by kernel_rfl) rfl (by decide +kernel) (by kernel_rfl)
theorem yJ(a:Value):argsOk "set_iterator.__iter__" ⟨[a],[]⟩:=by
 unfold argsOk;rw[signature?_of (id:="set_iterator.__iter__") (n:=['_','_','r','e','t','i','_','_']) (o:=['r','o','t','a','r','e','t','i','_','t','e','s']) (by kernel_rfl) owner];kernel_rfl
end SI
section
variable {prog:Program} {w:World} {A:Around} {E:Value->Shared->Prop} {s:Shared}
def dN(h:Heap)(it:Addr)(f:Value)(i:Nat)(a:Addr)(n ep:Nat):Prop:=∃o,h.get? it=some o/\o.cls=.type "set_iterator" /\ o.data=.fields [f,.int i 0,.ref a,.int n 0,.int ep 0].toArray
theorem dN.typeIs{i:Nat}{n ep:Nat}(x:dN s.heap it f i a n ep):s.TypeIs (.ref it) "set_iterator":=let ⟨o,ho,hc,_⟩:=x;⟨o,ho,hc⟩
theorem lg{i:Nat}{n ep:Nat}(x:dN s.heap it f i a n ep)(h:Q (.ref it) s):wpAny (model prog w) A (pyIter (.ref it)) Q E s:=by
 refine wpAny_pyIter_slot x.typeIs SI.pV (Xq SI.pV x.typeIs SI.entry_self ?_ (SI.yJ _));exact V6 ⟨_,rfl,"set_iterator",_,x.typeIs,SI.slot_next.lookup,h⟩
end
section
variable {prog:Program} {w:World} {A:Around} {E:Value->Shared->Prop} {s:Shared}
theorem f6{ep:Nat}(ho:s.heap.get? a=some o)(hd:o.data=.set es ep t)(hf:t.fits es.size=true)(h:Q es s):wpAny (model prog w) A (setEntries a) Q E s:=by
 unfold setEntries;exact VZ (W6 ho hd hf (V6 h))
theorem jq(h:Q (oS w) s):wpAny (model prog w) A setsByText Q E s:=by
 unfold setsByText;exact VZ (wpAny_askSetting (V6 h))
theorem pW{ep sl g:Nat}{ks:List Int}(S:di prog w s.heap a o es ep t ks)(hb:oS w=false)(hp:(!t.plain&&decide (es.size>1))=false)
  (hQ:Q (match es[SetTable.below t.place sl]?,t.place[SetTable.below t.place sl]? with|some (_,x),some j=>some (x,j+1)|_,_=>none) s):wpAny (model prog w) A (setNext a sl g ep) Q E s:=by
 have led:t.led=true:=by rw[S.tab.led,hb];rfl
 unfold setNext;refine VZ (W6 S.at_ S.dat S.tab.fit ?_);dsimp only;refine VZ (jq ?_);rw[hb];simp only[false_eq_true,↓reduceIte];rw[We (λz=>by
  have z':(!t.plain&&decide (es.size>1))=true:=z;rw[hp]at z';cases z')]
 refine VZ ?_;show wpAny _ _ (if (!t.led && !es.isEmpty)=true then Sem.unsupported "set:maker-not-led" else pure ()) _ _ _;rw[We (by rw[led];simp)];exact V6 (V6 hQ)
theorem pX{ep sl g:Nat}{ks:List Int}(S:di prog w s.heap a o es ep t ks)(hb:oS w=true)
  (hQ:Q (((pickOrder (w.params.setOrder a ep) es)[g]?).map λe=>(e.2,sl)) s):wpAny (model prog w) A (setNext a sl g ep) Q E s:=by
 unfold setNext;refine VZ (W6 S.at_ S.dat S.tab.fit ?_);dsimp only;refine VZ (jq ?_);rw[hb];simp only[bne_self_eq_false,false_eq_true,↓reduceIte];unfold setWalk;refine VZ (VZ (W6 S.at_ S.dat S.tab.fit ?_));dsimp only;refine VZ (jq ?_);rw[hb];simp only[↓reduceIte];exact VZ (wpAny_askSetting (V6 (V6 hQ)))
theorem kh{ep:Nat}{ks:List Int}{i sl:Nat}(hh:A.handled=none)(x:dN s.heap it (.int sl 0) i a es.size ep)(S:di prog w s.heap a o es ep t ks)
  (hn:∀(A:Around) (E:Value->Shared->Prop) (Q:Option (Value×Nat)->Shared->Prop),Q r s->wpAny (model prog w) A (setNext a sl i ep) Q E s)
  (hQ:∀v nx,r=some (v,nx)->∀h',dN h' it (.int (nx:Nat) 0) (i+1) a es.size ep->Heap.SameBut it s.heap h'->Q (some v) { s with heap:=h' })
  (hE:r=none->∀h',Heap.ExtBut it s.heap h'->Q none { s with heap:=h' }):wpAny (model prog w) A (pyNext (.ref it)) Q E s:=by
 obtain⟨oi,CU,QH,hdi⟩:=id x;unfold pyNext;refine VZ (YF (XU (name:=Str.ofString "__next__") x.typeIs SI.slot_next (Xq SI.slot_next x.typeIs SI.entry_next ?_ (SI.args_next _))));unfold Builtin.«set_iterator.__next__»;refine VZ (V6 ?_);refine VZ (wpAny_fieldsOf CU hdi ?_);dsimp only;refine VZ (f6 S.at_ S.dat S.tab.fit ?_);rw[We (by simp)];refine VZ (hn _ _ _ ?_);cases r with
 |some p=>
  obtain⟨v,nx⟩:=p;dsimp only;refine VZ (XA CU hdi (by simp) ?_);have h1:=WB (Obj.mapFields (·.setIfInBounds 0 (rawInt nx))) CU (Xh (WG hdi _));have d1:=WG hdi (·.setIfInBounds 0 (rawInt nx));refine VZ (XA h1 d1 (by simp) ?_);have h2:=WB (Obj.mapFields (·.setIfInBounds 1 (rawInt ((i:Int)+1)))) h1 (Xh (WG d1 _));refine V6 ⟨_,rfl,V6 (hQ v nx rfl _ ⟨_,h2,?_,?_⟩ ((WM ..).trans (WM ..)))⟩
  ·rw[YC,YC];exact QH
  ·rw[WG d1];simp[rawInt]
 |none=>dsimp only;refine VZ (XA CU hdi (by simp) ?_);refine VZ ?_;simp only[newExc,newTuple];refine VZ (WD ?_ (by size_fits));refine VZ (m:=firstArgMember _ _) (wpAny_of_eq (a:=Value.none) (by first|rfl|(simp only[firstArgMember];rfl)) ?_);refine WD ?_ (by size_fits);simp only[raiseNew];refine VZ (wpAny_handled ?_);rw[show A.in1.handled=none from hh];refine VZ (V6 (wpAny_throw ?_));refine VZ (wpAny_isInstance (T:="StopIteration") (b:=true) ⟨_,Wk _ rfl,rfl⟩ isSubtype_stop ?_);exact V6 (hE rfl _ (((WM ..).extBut.push _).push _))
end
theorem jQ{α:Type}:∀(l:List α) (i:Nat) (h:i<l.length),(l[i]::l.eraseIdx i).Perm l
 |x::l,0,_=>Yb _
 | x::l,i+1,h=>by
  simp only[List.getElem_cons_succ,List.eraseIdx_cons_succ];exact(List.Perm.swap _ _ _).trans (YR x (jQ l i (by simpa using h)))
section
variable {prog:Program} {w:World} {A:Around} {E:Value->Shared->Prop} {s:Shared}
theorem yK{n:Nat}(hn:n≠0)(h:∀i d,i<n->Q i { s with drawn:=d }):wpAny (model prog w) A (choose src n) Q E s:=fun Γ p hΓ=>by
 show Sem.wp _ _ (Sem.choose src n Sem.pure) _ _ _ _;rw[Sem.wp];exact⟨hn,h _ _ (mod_lt _ (Nat.pos_of_ne_zero hn))⟩
theorem wD{α:Type}:∀(n:Nat) (xs:List α) (s:Shared) (Q:List α -> Shared->Prop),xs.length=n->(∀ys d,ys.Perm xs->Q ys { s with drawn:=d })->wpAny (model prog w) A (drawOrder n xs) Q E s
 | 0,xs,s,Q,hl,h=>by
  have:xs=[]:=Xr hl;subst this;unfold drawOrder;exact V6 (h [] s.drawn (Yb _))
 |n+1,[],s,Q,hl,h=>by simp at hl
 | n+1,x::xs,s,Q,hl,h=>by
  unfold drawOrder;refine VZ (yK (by simp) λi d hi=>?_);have hx:(x::xs)[i]?=some ((x::xs)[i]):=Ww hi;rw[hx];dsimp only;refine VZ (wD n ((x::xs).eraseIdx i) _ _ (by rw[List.length_eraseIdx,Wg hi];simp at hl |-;omega) λys d' p=>V6 ?_);exact h _ d' (((YR _ p).trans (jQ _ i hi)))
theorem nC{ep c:Nat}{ks:List Int}{i:Nat}{ps:List Nat}(hh:A.handled=none)(x:dN s.heap it (.ref td) i a es.size ep)(S:di prog w s.heap a o es ep t ks)
  (hT:s.heap.get? td=some oT) (Pu:oT.data=.seq (ps.map λ(j:Nat)=>rawInt j).toArray c) (hlt:∀j∈ps,j<es.size)
  (hQ:∀j e,ps[i]?=some j->es[j]?=some e->∀h',dN h' it (.ref td) (i+1) a es.size ep->Heap.SameBut it s.heap h'->Q (some e.2) { s with heap:=h' })
  (hE:ps[i]?=none->∀h',Heap.ExtBut it s.heap h'->Q none { s with heap:=h' }):wpAny (model prog w) A (pyNext (.ref it)) Q E s:=by
 obtain⟨oi,CU,QH,hdi⟩:=id x;unfold pyNext;refine VZ (YF (XU (name:=Str.ofString "__next__") x.typeIs SI.slot_next (Xq SI.slot_next x.typeIs SI.entry_next ?_ (SI.args_next _))));unfold Builtin.«set_iterator.__next__»;refine VZ (V6 ?_);refine VZ (wpAny_fieldsOf CU hdi ?_);dsimp only;refine VZ (f6 S.at_ S.dat S.tab.fit ?_);rw[We (by simp)];refine VZ (wpAny_seqItems hT Pu ?_);dsimp only;have hg:((ps.map λ(j:Nat)=>rawInt j).toArray)[((i:Nat):Int).toNat]?=(ps[i]?).map λ(j:Nat)=>rawInt j:=by simp
 rw[hg];cases hp:ps[i]? with
 |some j=>
  have hj:j<es.size:=hlt j (Wn hp);simp only[map_some,rawInt];refine VZ ?_;unfold setNextDrawn;refine VZ (W6 S.at_ S.dat S.tab.fit ?_);dsimp only;rw[We (by simp)];have Uc:es[((j:Nat):Int).toNat]?=some es[j]:=by simp[hj]
  rw[Uc];refine V6 ?_;refine VZ (XA CU hdi (by simp) ?_);have h2:=WB (Obj.mapFields (·.setIfInBounds 1 (.int ((i:Int)+1) 0))) CU (Xh (WG hdi _));refine V6 ⟨_,rfl,V6 (hQ j _ hp (WE hj) _ ⟨_,h2,?_,?_⟩ (WM ..))⟩
  ·rw[YC];exact QH
  ·rw[WG hdi];simp
 |none=>simp only[Option.map_none];refine VZ (XA CU hdi (by simp) ?_);have h1:=WB (Obj.mapFields (·.setIfInBounds 0 (rawInt 0))) CU (Xh (WG hdi _));have d1:=WG hdi (·.setIfInBounds 0 (rawInt 0));refine VZ (XA h1 d1 (by simp) ?_);refine VZ ?_;simp only[newExc,newTuple];refine VZ (WD ?_ (by size_fits));refine VZ (m:=firstArgMember _ _) (wpAny_of_eq (a:=Value.none) (by first|rfl|(simp only[firstArgMember];rfl)) ?_);refine WD ?_ (by size_fits);simp only[raiseNew];refine VZ (wpAny_handled ?_);rw[show A.in1.handled=none from hh];refine VZ (V6 (wpAny_throw ?_));refine VZ (wpAny_isInstance (T:="StopIteration") (b:=true) ⟨_,Wk _ rfl,rfl⟩ isSubtype_stop ?_);exact V6 (hE hp _ ((((WM ..).trans (WM ..)).extBut.push _).push _))
end
theorem pY{α:Type}(f:Nat->Nat):∀(n k:Nat) (l:List α) (out:Array α),l.length=n->(pickOrder.go f n k l out).toList.Perm (out.toList++l)
 | 0,k,l,out,h=>by
  have:l=[]:=Xr h;subst this;unfold pickOrder.go;simp
 | n+1,k,l,out,h=>by
  unfold pickOrder.go;have hl:0<l.length:=by omega
  have hi:f k%l.length<l.length:=mod_lt _ hl;rw[Ww hi];dsimp only;refine(pY f n (k+1) _ _ (by rw[List.length_eraseIdx,Wg hi];omega)).trans ?_;rw[Array.toList_push,List.append_assoc];exact List.Perm.append_left _ (jQ l _ hi)
theorem pZ{t:SetTable}{n:Nat}(h:t.fits n=true):t.place.size=n:=by
 simp only[SetTable.fits,and_eq_true,beq_iff_eq]at h;exact h.1
def Pw(t:SetTable):Nat->Nat
 |0=>0
 |i+1=>t.place.getD i 0+1
theorem p7(r:pT t.place):∀i,i<=t.place.size->SetTable.below t.place (Pw t i)=i
 |0,_=>vg r
 | i+1,h=>by
  have hi:i<t.place.size:=h;have e:Pw t (i+1)=t.place[i]+1:=by simp[Pw,Array.getD,hi]
  rw[e];exact vh r hi
section
variable {prog:Program} {w:World} {A:Around} {E:Value->Shared->Prop} {s:Shared}
theorem di.keep{ep:Nat}{ks:List Int}(S:di prog w h a o es ep t ks)(k:∀o,h.get? a=some o->h'.get? a=some o):di prog w h' a o es ep t ks:={ S with at_:=k o S.at_ }
theorem dN.keep{i:Nat}{n ep:Nat}(x:dN h it f i a n ep)(k:∀o,h.get? it=some o->h'.get? it=some o):dN h' it f i a n ep:=by
 obtain⟨o,ho,r⟩:=x;exact⟨o,k o ho,r⟩
def PL(L:List (Int×Value))(i:Nat)(v:Value):Prop:=∃e,L[i]?=some e/\v=e.2
theorem yL(hh:A.handled=none){ep:Nat}{ks:List Int}(hne:a≠I)(hb:oS w=false)(hp:(!t.plain&&decide (es.size>1))=false) :
  Walks prog w A I [I,a] [I] es.toList.length (PL es.toList) (λi h=>di prog w h a o es ep t ks/\dN h I (.int (Pw t i) 0) i a es.size ep) where
 sub:=λb hb=>by simp at hb;simp[hb]
 frame:=λ_ _ _ st hk=>⟨st.1.keep λo e=>hk a (by simp) o e,st.2.keep λo e=>hk I (by simp) o e⟩
 item:=λi s Q E hi st hQ=>by
  have hi:i<es.size:=by simpa using hi
  have hz:=pZ st.1.tab.fit;have hb':=p7 st.1.tab.rs i (by rw[hz];exact Xk hi);refine kh (r:=some (es[i].2,t.place.getD i 0+1)) hh st.2 st.1 (λA E Q q=>pW st.1 hb hp ?_) (λv nx e h' x' sb=>?_) (λe=>nomatch e)
  ·rw[hb',WE hi,WE (by rw[hz];exact hi)]
   have e1:t.place[i]'(by rw[hz];exact hi)=t.place.getD i 0:=by simp[Array.getD,hz,hi]
   dsimp only;rw[e1];exact q
  ·cases e;exact hQ _ h' s.toks ⟨es[i],by simp[hi],rfl⟩ ⟨st.1.keep λo e=>sb.extBut a o hne e,x'⟩ λb o hb e=>sb.extBut b o (λz=>hb (by simp[z])) e
 done:=λs Q E st hQ=>by
  have hz:=pZ st.1.tab.fit;have hb':=p7 st.1.tab.rs es.toList.length (by rw[hz];simp);refine kh (r:=none) hh st.2 st.1 (λA E Q q=>pW st.1 hb hp ?_) (λv nx e=>nomatch e) (λ_ h' sb=>hQ h' s.toks λb o hb e=>sb b o (λz=>hb (by simp[z])) e);rw[hb',Array.getElem?_eq_none (by simp)];exact q
 self:=λ_ _ _ _ st hQ=>lg st.2 hQ
theorem yM(hh:A.handled=none){ep:Nat}{ks:List Int}(hne:a≠I)(hb:oS w=true) :
  Walks prog w A I [I,a] [I] (pickOrder (w.params.setOrder a ep) es).toList.length (PL (pickOrder (w.params.setOrder a ep) es).toList) (λi h=>di prog w h a o es ep t ks/\dN h I (.int (0:Nat) 0) i a es.size ep) where
 sub:=λb hb=>by simp at hb;simp[hb]
 frame:=λ_ _ _ st hk=>⟨st.1.keep λo e=>hk a (by simp) o e,st.2.keep λo e=>hk I (by simp) o e⟩
 item:=λi s Q E hi st hQ=>by
  have hi:i<(pickOrder (w.params.setOrder a ep) es).size:=by simpa using hi
  refine kh (r:=some ((pickOrder (w.params.setOrder a ep) es)[i].2,0)) hh st.2 st.1 (λA E Q q=>pX st.1 hb ?_) (λv nx e h' x' sb=>?_) (λe=>nomatch e)
  ·rw[WE hi];exact q
  ·cases e;exact hQ _ h' s.toks ⟨(pickOrder (w.params.setOrder a ep) es)[i],by simp[hi],rfl⟩ ⟨st.1.keep λo e=>sb.extBut a o hne e,x'⟩ λb o hb e=>sb.extBut b o (λz=>hb (by simp[z])) e
 done:=λs Q E st hQ=>by
  refine kh (r:=none) hh st.2 st.1 (λA E Q q=>pX st.1 hb ?_) (λv nx e=>nomatch e) (λ_ h' sb=>hQ h' s.toks λb o hb e=>sb b o (λz=>hb (by simp[z])) e);rw[Array.getElem?_eq_none (by simp)];exact q
 self:=λ_ _ _ _ st hQ=>lg st.2 hQ
theorem vn(hh:A.handled=none){ep c:Nat}{ks:List Int}{ps:List Nat}(hne:a≠I)(hnt:td≠I)(hlt:∀j∈ps,j<es.size)(Pu:oT.data=.seq (ps.map λ(j:Nat)=>rawInt j).toArray c) :
  Walks prog w A I [I,a,td] [I] ps.length (PL (ps.map λj=>es.getD j (0,.none))) (λi h=>di prog w h a o es ep t ks/\dN h I (.ref td) i a es.size ep/\h.get? td=some oT) where
 sub:=λb hb=>by simp at hb;simp[hb]
 frame:=λ_ _ _ st hk=>⟨st.1.keep λo e=>hk a (by simp) o e,st.2.1.keep λo e=>hk I (by simp) o e,hk td (by simp) _ st.2.2⟩
 item:=λi s Q E hi st hQ=>by
  refine nC hh st.2.1 st.1 st.2.2 Pu hlt (λj e hj he h' x' sb=>?_) (λhn=>absurd hn (by rw[Ww hi];simp));refine hQ _ h' s.toks ⟨e,?_,rfl⟩ ⟨st.1.keep λo e=>sb.extBut a o hne e,x',sb.extBut td _ hnt st.2.2⟩ λb o hb e=>sb.extBut b o (λz=>hb (by simp[z])) e;rw[Ws,hj];have hjl:j<es.size:=(Xg.mp he).1;have:=(Xg.mp he).2;simp[Array.getD,hjl,this]
 done:=λs Q E st hQ=>nC hh st.2.1 st.1 st.2.2 Pu hlt (λj e hj=>absurd hj (by simp)) (λ_ h' sb=>hQ h' s.toks λb o hb e=>sb b o (λz=>hb (by simp[z])) e)
 self:=λ_ _ _ _ st hQ=>lg st.2.1 hQ
end
section
variable {prog:Program} {w:World} {A:Around} {E:Value->Shared->Prop} {s:Shared}
theorem Ar{ep:Nat}{ks:List Int}(S:di prog w s.heap a o es ep t ks)(h:Q (!oS w&&(!t.plain&&decide (es.size>1))) s):wpAny (model prog w) A (setDrawn a) Q E s:=by
 unfold setDrawn;refine VZ (W6 S.at_ S.dat S.tab.fit ?_);dsimp only;exact VZ (jq (V6 h))
theorem sE{ep:Nat}{ks:List Int}(S:di prog w s.heap a o es ep t ks)(h:Q ep s):wpAny (model prog w) A (setEpoch a) Q E s:=wpAny_setEpoch_of S.at_ S.dat S.tab.fit h
theorem As(hh:A.handled=none){ep:Nat}{ks:List Int}(S:di prog w s.heap a o es ep t ks)
  (hQ:∀(h':Heap) d (I:Addr) (fp:List Addr) (L:List (Int×Value)) (St:Nat->Heap->Prop),L.Perm es.toList->Walks prog w A I fp [I] L.length (PL L) St->St 0 h'->s.heap.objs.size<=I->I<h'.objs.size->(∀b∈fp,b=a\/s.heap.objs.size<=b)->(∀b o,s.heap.get? b=some o->h'.get? b=some o)->Q (.ref I) { s with heap:=h',drawn:=d }) :
  wpAny (model prog w) A (pyIter (.ref a)) Q E s:=by
 have hT:s.TypeIs (.ref a) "set":=⟨o,S.at_,S.ex.1⟩;have hlt:a<s.heap.objs.size:=Wa S.at_;refine wpAny_pyIter_slot hT PySem.F.slot_set_iter (Xq PySem.F.slot_set_iter hT SI.vm ?_ (PySem.F.args_set_iter_1 _));unfold Builtin.«frozenset.__iter__» Builtin.Frozenset.slot0 Builtin.Frozenset.sizeOf;refine VZ (VZ (V6 (V6 ?_)));refine VZ (VZ (f6 S.at_ S.dat S.tab.fit (V6 ?_)));refine VZ (Ar S ?_);cases hd:(!oS w&&(!t.plain&&decide (es.size>1))) with
 |false=>
  simp only[false_eq_true,↓reduceIte];refine VZ (V6 ?_);refine VZ (sE S ?_);refine VZ (WD (V6 ⟨_,rfl,"set_iterator",_,⟨_,Wk _ rfl,rfl⟩,SI.slot_next.lookup,?_⟩));have e:s={ s with drawn:=s.drawn }:=by cases s;rfl
  have Sw:∀b∈[s.heap.objs.size,a],b=a\/s.heap.objs.size<=b:=λb hb=>by
   simp only[mem_cons,not_mem_nil,or_false]at hb
   rcases hb with rfl|rfl
   ·exact .inr (Wb _)
   ·exact .inl rfl
  have sz:s.heap.objs.size<(s.heap.push { cls:=.type "set_iterator",data:=.fields ([rawInt 0,rawInt 0,.ref a,rawInt es.size,rawInt ep]:List Value).toArray }).objs.size:=by rw[Xf];exact WS _
  cases hb:oS w with
  |true=>exact hQ _ s.drawn _ _ _ _ (pY _ _ 0 es.toList #[] (by simp)) (yM hh (Wj hlt) hb) ⟨S.keep λo e=>V3 _ e,⟨_,Wk _ rfl,rfl,rfl⟩⟩ (Wb _) sz Sw λb o e=>V3 _ e
  |false=>rw[hb]at hd;exact hQ _ s.drawn _ _ _ _ (Yb _) (yL hh (Wj hlt) hb (by simpa using hd)) ⟨S.keep λo e=>V3 _ e,⟨_,Wk _ rfl,rfl,rfl⟩⟩ (Wb _) sz Sw λb o e=>V3 _ e
 |true=>
  simp only[↓reduceIte];refine VZ (wD es.size (List.range es.size) s _ (by simp) λps d pp=>?_);refine VZ ?_;simp only[newTuple];refine WD ?_ (by show (toArray _).size<=sizeLine;rw[Wd,V9,pp.length_eq,YA];exact Yc S.tab.few);have S1:di prog w (s.heap.push { cls:=.type "tuple",data:=.seq (ps.map λ(i:Nat)=>rawInt i).toArray }) a o es ep t ks:=S.keep λo e=>V3 _ e;refine VZ (sE S1 ?_);refine VZ (WD (V6 ⟨_,rfl,"set_iterator",_,⟨_,Wk _ rfl,rfl⟩,SI.slot_next.lookup,?_⟩));have hpl:∀j∈ps,j<es.size:=λj hj=>by simpa using pp.mem_iff.mp hj
  have perm:(ps.map λj=>es.getD j (0,Value.none)).Perm es.toList:=by
   have e2:(List.range es.size).map (λj=>es.getD j (0,Value.none))=es.toList:=by
    apply Yj
    ·simp
    ·intro i h1 h2
     have hi:i<es.size:=by simpa using h2
     simp[Array.getD,hi]
   rw[<-e2];exact pp.map _
  have z1:(s.heap.push { cls:=.type "tuple",data:=.seq (ps.map λ(i:Nat)=>rawInt i).toArray }).objs.size=s.heap.objs.size+1:=Xf _ _;have W:=vn (prog:=prog) (w:=w) (A:=A) (o:=o) (ep:=ep) (t:=t) (ks:=ks) hh (I:=s.heap.objs.size+1) (a:=a) (td:=s.heap.objs.size) (oT:={ cls:=.type "tuple",data:=.seq (ps.map λ(i:Nat)=>rawInt i).toArray }) (es:=es) (c:=0) (ps:=ps) (Wj (W5 hlt)) (Wj (WS _)) hpl rfl;rw[show ps.length=(ps.map λj=>es.getD j (0,Value.none)).length by simp] at W;rw[z1];refine hQ _ d _ _ _ _ perm W ⟨S1.keep λo e=>V3 _ e,⟨{ cls:=.type "set_iterator",data:=.fields ([.ref s.heap.objs.size,rawInt 0,.ref a,rawInt es.size,rawInt ep]:List Value).toArray },?_,rfl,rfl⟩,V3 _ (Wk _ rfl)⟩ (WR _) ?_ ?_ λb o e=>V3 _ (V3 _ e)
  ·rw[<-z1];exact Wk _ rfl
  ·rw[Xf,z1];exact WS _
  ·intro b hb
   simp only[mem_cons,not_mem_nil,or_false]at hb
   rcases hb with rfl|rfl|rfl
   ·exact .inr (WR _)
   ·exact .inl rfl
   ·exact .inr (Wb _)
end
section
variable {prog:Program} {w:World} {A:Around} {E:Value->Shared->Prop} {s:Shared}
theorem Au(hT:s.TypeIs (.ref r) "set")(h:Q false s):wpAny (model prog w) A (Builtin.List.listLengthHint (.ref r)) Q E s:=by
 unfold Builtin.List.listLengthHint;refine VZ (wpAny_specialOf hT PySem.F.slot_set_len.lookup ?_);generalize hid:("set.__len__":String)=Ud
 wp_delta
 rw[show splitId Ud=some ("set","__len__") from by subst hid;decide +kernel];subst hid;refine VZ (wpAny_isInstance (T:="set") (b:=true) hT sub_set_self ?_);refine wpAny_ite_split (λz=>absurd z (by decide)) (λ_=>?_);refine wpAny_ite_split (λ_=>?_) (λz=>absurd (by decide +kernel) z);exact VZ (wpAny_typeOf hT (V6 h))
theorem sG(hh:A.handled=none){ep:Nat}{ks:List Int}(S:di prog w s.heap a o es ep t ks)
  (h:∀(h':Heap) (tk:Nat) d (L:List (Int×Value)),(∀b o,s.heap.get? b=some o->h'.get? b=some o)->s.heap.objs.size<h'.objs.size->L.Perm es.toList->R (L.map (·.2)) { s with heap:=h',toks:=tk,drawn:=d }) :
  wpAny (model prog w) A (collect (.ref a)) R E s:=by
 have hlt:a<s.heap.objs.size:=Wa S.at_;unfold collect;refine VZ (wpAny_runValue (Xw entry_proto_collect' ?_));rw[Xo PySem.F.plain_proto_collect _];show wpAny _ A.in1 (newList [] >>= λl=>again (.builtin "list.__iadd__" ⟨[l,.ref a],[]⟩)) _ _ s;refine VZ (WD ?_);refine V6 ⟨Yk PySem.F.plain_list_iadd _,Xw entry_list_iadd' ?_⟩;rw[Xo PySem.F.plain_list_iadd _]
 let s1:Shared:={ s with heap:=s.heap.push { cls:=.type "list",data:=.seq ([]:List Value).toArray } }
 have l1:s1.heap.get? s.heap.objs.size=some { cls:=.type "list",data:=.seq #[] }:=Wk _ rfl;have S1:di prog w s1.heap a o es ep t ks:=S.keep λo e=>V3 _ e;have z1:s1.heap.objs.size=s.heap.objs.size+1:=Xf _ _;have hT:s1.TypeIs (.ref a) "set":=⟨o,S1.at_,S1.ex.1⟩;show wpAny _ A.in1 (Builtin.List.listExtendWith (.ref s.heap.objs.size) (.ref a) (.ref s.heap.objs.size)) _ _ s1;unfold Builtin.List.listExtendWith;refine VZ (wpAny_typeOf hT ?_);have n1:Builtin.List.listSameRef (.ref s.heap.objs.size) (.ref a)=false:=by simp[Builtin.List.listSameRef,Nat.ne_of_gt hlt]
 simp only[n1,show (Value.type "set" == Value.type "list")=false by decide,show (Value.type "set" == Value.type "tuple")=false by decide,Bool.or_false,false_eq_true,if_false];refine VZ (As (A:=A.in1) (by simp[hh]) S1 λh2 d I fp L St perm W st zI VQ hfp k2=>?_);have l2:h2.get? s.heap.objs.size=some { cls:=.type "list",data:=.seq #[] }:=k2 _ _ l1;have nfp:s.heap.objs.size∉fp:=λz=>by
  rcases hfp _ z with e|e
  ·exact absurd e (Xs hlt)
  ·rw[z1]at e;exact absurd e (Nat.not_succ_le_self _)
 have hl:L.length<=sizeLine:=by rw[perm.length_eq,WC];exact Yc S.tab.few
 have key:∀(hp:Heap) (c₁:Nat) (Rr:Result->Shared->Prop),St 0 hp->(∀b o,b≠s.heap.objs.size->h2.get? b=some o->hp.get? b=some o)->hp.get? s.heap.objs.size=some { cls:=.type "list",data:=.seq #[] c₁ } ->
   (∀(s':Shared) (acc:Array Value) (c:Nat),s'.heap.get? s.heap.objs.size=some { cls:=.type "list",dict:=none,data:=.seq acc c,slots:=#[] }->R acc.toList s'->Rr (.ok (.ret (.ref s.heap.objs.size))) s') ->
   codeAny (model prog w) A (.builtin "list.extend.loop" ⟨[.ref s.heap.objs.size,.ref I,.ref s.heap.objs.size],[]⟩) Rr { s1 with heap:=hp,drawn:=d }:=by
  intro hp c₁ Rr hst hk hS hR;refine codeAny_extend_loopS W.toS hl s.heap.objs.size nfp (.ref s.heap.objs.size) L.length 0 _ #[] c₁ rfl (Xn _) hst hS (ItemsOf.nil _) λs' acc c hm hS' hacc=>?_;refine hR s' acc c hS' ?_;have ea:acc.toList=L.map (·.2):=by
   apply Yj
   ·rw[WC,hacc.1,V9]
   ·intro j h1 h2
    have hj:j<acc.size:=by simpa using h1
    obtain⟨e,he,hv⟩:=hacc.2 j acc[j] (WE hj);rw[Array.getElem_toList,hv,XF];obtain⟨hj2,e2⟩:=V4.mp he;rw[e2]
  rw[ea,Moved.eq_with hm];refine h s'.heap s'.toks d L (λb o e=>?_) (Wa hS') perm;have hb:b<s.heap.objs.size:=Wa e;refine hm.heap b o (λz=>?_) (hk b o (Wj hb) (k2 b o (V3 _ e)))
  rcases Wf.mp z with z|z
  ·exact absurd z (Wj hb)
  ·rw[Wo]at z;rw[z]at hb;rw[z1]at zI;exact absurd (Wc hb (Nat.le_of_succ_le zI)) (WL _)
 have fin:∀(s':Shared) (acc:Array Value) (c:Nat),s'.heap.get? s.heap.objs.size=some { cls:=.type "list",dict:=none,data:=.seq acc c,slots:=#[] }->R acc.toList s'->wpAny (model prog w) A (load s.heap.objs.size >>= λob=>(match ob.data with|.seq xs _=>pure xs.toList|_=>unsupported "internal:collect")) R E s':=λs' acc c e q=>VZ (wpAny_load e (V6 q));refine VZ (WI (Au ⟨o,k2 _ _ S1.at_,S1.ex.1⟩ ?_));refine wpAny_ite_split (λ_=>?_) (λ_=>V6 ⟨Yk PySem.F.plain_extend_loop _,key _ 0 _ st (λb o _ e=>e) l2 fin⟩);refine VZ (wpAny_rule ?_);refine VZ ?_;show wpAny _ _ (updateSeq s.heap.objs.size (·.push .none) >>= λ_=>updateSeq s.heap.objs.size (·.pop)) _ _ _;refine VZ (wpAny_updateSeq l2 rfl ?_);have l3:=WB (Obj.mapSeq (·.push Value.none)) l2 rfl;refine wpAny_updateSeq (hz:=by seq_fits) l3 rfl ?_;have l4:=WB (Obj.mapSeq (·.pop)) l3 rfl;have oth:∀b o,b≠s.heap.objs.size->h2.get? b=some o->((h2.update s.heap.objs.size (Obj.mapSeq (·.push Value.none))).update s.heap.objs.size (Obj.mapSeq (·.pop))).get? b=some o:=λb o hb e=>(WW _ _ (Ne.symm hb)).trans ((WW _ _ (Ne.symm hb)).trans e);exact V6 ⟨Yk PySem.F.plain_extend_loop _,key _ _ _ (W.frame 0 _ _ st λb hb o e=>oth b o (λz=>nfp (z▸hb)) e) oth l4 fin⟩
end
theorem sH:∀(ks ns:List Int),ks.Nodup->(∀k∈ks,k∈ns)->ks.length=ns.length->ks.Perm ns
 | [],ns,_,_,h=>by
  have:ns=[]:=Xr h.symm;subst this;exact Yb _
 | k::ks,ns,nd,hs,hl=>by
  have hk:=hs k V8;have Sx:=WH.mp nd;have p:=List.perm_cons_erase hk;refine(YR k (sH ks (ns.erase k) Sx.2 (λx hx=>?_) ?_)).trans p.symm
  ·exact(List.mem_erase_of_ne λz=>Sx.1 (by rw[<-z];exact hx)).mpr (hs x (V5 _ hx))
  ·rw[List.length_erase_of_mem hk];simp only[length_cons]at hl;omega
def sI:Value->Int
 |.int i _=>i
 |_=>0
section
variable {prog:Program} {w:World} {A:Around} {E:Value->Shared->Prop} {s:Shared}
theorem nD:∀{L:List (Int×Value)},ElemsOf (intKind prog w) L->IntsAre (L.map (·.2)) (L.map λe=>sI e.2)
 |[],_=>.nil
 | (h,v)::L,el=>by
  obtain⟨⟨k,hk,_⟩,_⟩:=el _ V8;obtain⟨t,e⟩:=Yz (k:=k) (v:=v) hk;subst e;exact .cons k t (nD λx hx=>el x (V5 _ hx))
theorem Av{h:Heap}{a:Addr}{o:Obj}{es:Array (Int×Value)}{ep:Nat}{t:SetTable}{ks:List Int}(S:di prog w h a o es ep t ks){L:List (Int×Value)}(p:L.Perm es.toList):(L.map λe=>sI e.2).Perm ks:=by
 refine(sH ks _ S.So (λk hk=>?_) ?_).symm
 ·obtain⟨e,he,q⟩:=(S.mem k).mp hk;obtain⟨t',ev⟩:=Yz (k:=k) (v:=e.2) q;exact W4.mpr ⟨e,p.mem_iff.mpr he,by rw[ev];rfl⟩
 ·have:=S.num;rw[V9,p.length_eq,WC];exact this.symm
theorem vo(hh:A.handled=none){ep:Nat}{ks:List Int}(S:di prog w s.heap a o es ep t ks)(h64:ks.length<64)
  (hQ:∀(h':Heap) (tk:Nat) d (D:Addr) (out:List Value) (e:Nat),(∀b o,s.heap.get? b=some o->h'.get? b=some o)->s.heap.objs.size<=D->h'.get? D=some (seqObj "list" out.toArray e)->IntsAre out (sortI ks)->Q (.ref D) { s with heap:=h',toks:=tk,drawn:=d }) :
  wpAny (model prog w) A (call (.builtin "sorted") [.ref a]) Q E s:=by
 refine pO.iJ (O:=pO.u7) (sG (A:=A.in1) (by simp[hh]) S λh' tk d L hk hz perm=>?_);have el:ElemsOf (intKind prog w) L:=S.el.perm perm;have hI:=nD el;have pk:=Av S perm;have hl:(L.map (·.2)).length<64:=by rw[V9];have:=pk.length_eq;rw[V9]at this;omega
 refine⟨hl,λi=>(L.map λe=>sI e.2).getD i 0,λh2 h6 _=>pO.u9 hI h2,λp h'' outs k2 he=>?_⟩;obtain⟨e,he⟩:=he;have lv:(L.map (·.2)).length=(L.map λe=>sI e.2).length:=by rw[V9,V9]
 have mem:∀i∈p,i<L.length:=λi hi=>by have:=outs.perm.mem_iff.mp hi;simpa using this
 have pn:(p.map λi=>(L.map λe=>sI e.2).getD i 0).Perm ks:=by have:=outs.perm.map λi=>(L.map λe=>sI e.2).getD i 0;rw[lv,pO.dh]at this;exact this.trans pk
 have up:(p.map λi=>(L.map λe=>sI e.2).getD i 0).Pairwise (· <= ·):=by refine List.Pairwise.imp (R:=pO.u7.kle) (λ{x y:Int} hxy=>?_) outs.up;have hxy:(decide (y<x):Bool)=false:=hxy;exact Int.not_lt.mp (of_decide_eq_false hxy)
 have es:=eq_sortI pn up;refine hQ h'' tk d h'.objs.size _ e (λb o z=>k2 b o (hk b o z)) (Xk hz) he ?_;rw[<-es];clear he es up pn outs
 induction p with
 |nil=>exact .nil
 |cons i r ih=>
  have hi:=mem i V8;have hi2:i<(L.map (·.2)).length:=by simpa using hi
  obtain⟨t',ev⟩:=IntsAre.int_at hI i _ (Ww hi2);rw[Wm,Wm];have e1:(L.map (·.2)).getD i Value.none=.int ((L.map λe=>sI e.2).getD i 0) t':=by rw[<-ev];simp[List.getD,List.getElem?_eq_getElem hi]
  rw[e1];exact .cons _ t' (ih λj hj=>mem j (V5 _ hj))
end
end L2
end
section
namespace L2
open PySem PySem.Spec PyProof.Rows
section
variable {X:Cx}
theorem Inv.draws(I:Inv X pins σ H s)(d:Drawn):Inv X pins σ H { s with drawn:=d }:=⟨I.ok,I.os,I.bare,I.base,I.loc,I.cell,I.free,I.fu,I.pin,I.hok,I.len⟩
def Ue(K:Frag)(te:TE):TE:=λσ H Q=>te σ H λx H1=>∃p ns,x=.ref p/\fQ K H1 p (ns.map V.int)/\ns.length<64/\∀l,H1 l=none->Q (.ref l) (upd H1 l (.lst ((sortI (kg [] ns)).map V.int)))
theorem sJ:∀(ns ks:List Int),(kg ks ns).length<=ks.length+ns.length
 |[],ks=>by simp[kg]
 | n::ns,ks=>by
  rw[kg,WJ];have:=sJ ns (sj ks n);have:=sy ks n;omega
theorem DL{p1 p2 pos1 pos2:Pos}(hh:X.A.handled=none)(hg:Gl X "sorted")(hm:X.mg "sorted" = none)(Ug:Gl X "set")(hm2:X.mg "set" = none)(hv:bootBuiltins "sorted" = some (.builtin "sorted"))(hv2:bootBuiltins "set" = some (.type "set"))(he:PE X e te)
  (hs:starEach [e] X.env=[(false,eval e X.env)]):PE X (.Call (.Name "sorted" p1) [.Call (.Name "set" p2) [e] [] pos2] [] pos1) (Ue X.K te):=by
 intro pins s σ H Q I h;refine WN (iH I hg hm hv ?_ (by decide) (by decide));refine PyProof.Rows.callWith_builtin1 ?_ rfl rfl;show wpAny _ _ (spliced [(false,eval (.Call (.Name "set" p2) [e] [] pos2) X.env)]) _ _ s;refine Xu ?_;refine WN (iH I Ug hm2 hv2 ?_ (by decide) (by decide));refine WU ?_ hs rfl;show wpAny _ _ (spliced (backTo pos2 (starEach [e] X.env))) _ _ s;rw[hs];show wpAny _ _ (spliced [(false,eval e X.env)]) _ _ s;refine Xu (cu (he pins s σ H _ I h) λu s1 ⟨x,H1,I1,r1,p,ns,ex,hq,h64,q⟩=>X6 ?_);subst ex;cases r1;obtain⟨its,rv,pl,hz⟩:=I1.list hq;have hi:=intsAre_of rv;have hl:=hi.length;refine sD hh pl.isList (by simpa using hi) (by show its.toArray.size+1<4096;rw[Wd,hl];omega) λh2 tk S k2=>?_;obtain⟨o,es,ep,t,S⟩:=S;refine X6 ?_;have hk:=sJ ns [];have QI:(kg [] ns).length<64:=by simp at hk;omega
 refine vo (s:={ s1 with heap:=h2,toks:=tk }) hh S QI λh3 Uh d D out e k3 zD eD hout=>?_;have hD:s1.heap.objs.size<=D:=Wx (Xk (Wa S.at_)) zD;have hn:H1 D=none:=I1.hok.fresh hD;refine⟨.ref D,_,(I1.draws d).laid (t':=Uh) (λb o z=>k3 b o (k2 b o (Wa z) z)) hD (show bx X.prog X.w _ _ _ (.lst ((sortI (kg [] ns)).map V.int)) from⟨?_,out,e,jm hout,eD⟩),rfl,q _ hn⟩;rw[V9,(sortI_perm _).length_eq,W0];omega
end
end L2
end
section
namespace L2
open PySem PySem.Spec PyProof.Rows PySem.W
end L2
end
section
namespace L2
open PySem PySem.Spec PyProof.Rows
end L2
end
section
namespace L2
open PySem PySem.Spec PyProof.Rows PySem.W
end L2
end
section
namespace L2
open PySem PySem.Spec PyProof.Rows
section
variable {X:Cx}
theorem Ip:kU X (compareOp .Is) (λx y H Q=>∃b c,x=.bl b/\y=.bl c/\Q (.bl (b==c)) H):=by
 intro pins s σ H x y v u Q I rx ry h;obtain⟨b,c,rfl,rfl,q⟩:=h;cases rx;cases ry;refine wpAny_is_plain rfl (qD I q ?_);cases b<;>cases c<;>rfl
theorem DM:kU X (compareOp .IsNot) (λx y H Q=>∃b c,x=.bl b/\y=.bl c/\Q (.bl (!(b==c))) H):=by
 intro pins s σ H x y v u Q I rx ry h;obtain⟨b,c,rfl,rfl,q⟩:=h;cases rx;cases ry;refine wpAny_isNot_plain rfl (qD I q ?_);cases b<;>cases c<;>rfl
end
end L2
end
section
namespace L2
open PySem PySem.Spec PyProof.Rows PySem.W
section
variable {X:Cx}
structure MK (K:Frag) (C:Addr) (m:Str) (f:Addr):Prop where
 ga:specialIn K (.ref C) "__getattribute__" = some (some (.builtin "type.__getattribute__"))
 rd:PySem.W.readsIn K C (.type "type")=true
 at_:PySem.W.findCls K (.ref C) (.type "type") m=some (.val (.ref f))
 kp:keepIn K (.ref f)=true
structure Sy (K:Frag) (C:Addr):Prop where
 ha:findIn K (.ref C) "__class__" = some (some (.builtin "object.__class__"))
 hn:specialIn K (.builtin "object.__class__") "__get__" = some (some (.builtin "getset_descriptor.__get__"))
 htk:takesIn K (.builtin "object.__class__")=some true
 hm:PySem.W.mroIn K C (.type "object")=some true
end
end L2
end
section
namespace L2
open PySem PySem.Spec PyProof.Rows
section
variable {X:Cx}
def Sz(k:Int):Value->Bool
 |.int a _=>a==k
 |_=>false
def DN:V->List V->Hp->VK->Prop:=λx vs H Q=>∃(l:Addr) (ks:List Int) (i:Int),x=.ref l/\vs=[.int i]/\H l=some (.lst (ks.map V.int))/\i∈ks/\Q .non (upd H l (.lst ((ks.map V.int).eraseIdx (ks.idxOf i))))
theorem yN:Pn X "list.remove" DN:=by
 intro pins s σ H x vs v us Q I rx rv h;obtain⟨l,ks,i,rfl,rfl,hH,hi,q⟩:=h;cases rx;obtain⟨u,rfl,ru⟩:=rv.one;obtain⟨t,rfl⟩:=ru;obtain⟨z,its,n,r,hl,e⟩:=I.zZ hH;have hk:ks.length=its.length:=by rw[<-hl,V9]
 have at':∀m (hm:m<ks.length),∃t,its[m]?=some (.int ks[m] t):=λm hm=>by
  obtain⟨w,hw,t,rfl⟩:=r.get (i:=m) (x:=V.int ks[m]) (by rw[Ws,Ww hm];rfl);exact⟨t,hw⟩
 have hj:ks.idxOf i<ks.length:=List.idxOf_lt_length_of_mem hi;have sz:its.toArray.size=ks.length:=by rw[Wd,hk]
 have val:∀m (hm:m<its.toArray.size),Sz i its.toArray[m]=(ks[m]'(sz▸hm)==i):=λm hm=>by
  obtain⟨t,q⟩:=at' m (sz▸hm);have q2:its.toArray[m]=.int (ks[m]'(sz▸hm)) t:=by have:=WE hm;rw[List.getElem?_toArray,q]at this;exact(Wr this).symm
  rw[q2];rfl
 refine call_meets F.slot_list_remove ⟨_,e,rfl⟩ F.entry_list_remove (F.args_list_remove_2 _ _)
  (MeetsSeq.list_remove l its.toArray n (.int i t) (Sz i) (λy hy=>?_) (ks.idxOf i) (by rw[sz];exact hj) ?_ ?_ (by rw[Wd];omega)) ⟨e,?_⟩
 ·obtain⟨m,hm,rfl⟩:=Xz.mp (List.mem_toArray.mp hy);obtain⟨t',q⟩:=at' m (by omega);rw[Ww hm]at q;rw[Wr q];exact MeetsSeq.EqGives.int _ _ _ _
 ·rw[val];exact beq_iff_eq.mpr (List.getElem_idxOf hj)
 ·intro m hm h2
  rw[val];exact WX.mpr λe=>by
   have:=List.not_of_lt_findIdx (p:=(· == i)) (xs:=ks) (i:=m) h2;exact nomatch this.symm.trans (beq_iff_eq.mpr e)
 refine⟨.non,_,I.Ds (its':=its.eraseIdx (ks.idxOf i)) hH e ?_ (r.eraseIdx _) ?_,rfl,q⟩
 ·show its.toArray.eraseIdxIfInBounds _=(its.eraseIdx _).toArray;rw[List.eraseIdxIfInBounds_toArray]
 ·have:=pJ (ks.map V.int) (ks.idxOf i);omega
end
def KD(h h':Heap):Prop:=∀b o,h.get? b=some o->∃o',h'.get? b=some o'/\o'.dict=o.dict
theorem KD.refl:KD h h:=λ_ o e=>⟨o,e,rfl⟩
theorem KD.trans{h h1 h2:Heap}(a:KD h h1)(b:KD h1 h2):KD h h2:=λx o e=>by
 obtain⟨o1,e1,d1⟩:=a x o e;obtain⟨o2,e2,d2⟩:=b x o1 e1;exact⟨o2,e2,d2.trans d1⟩
theorem KD.push(o:Obj):KD h (h.push o):=λb ob e=>⟨ob,V3 _ e,rfl⟩
def KF(f:Obj->Obj):Prop:=∀o,o.isFreed=false->(f o).dict=o.dict/\(f o).isFreed=false
theorem KD.update(hf:KF f):KD h (h.update a f):=λb o e=>by
 by_cases c:a=b
 ·subst c;have fr:=(Heap.get?_some_iff.mp e).2;exact⟨f o,WB f e (hf o fr).2,(hf o fr).1⟩
 ·exact⟨o,(WW _ _ c).trans e,rfl⟩
def Tame{α:Type}:Sem α -> Prop
 |.pure _=>True
 |.raise _=>True
 |.unsupported _=>True
 |.finish _=>True
 |.rule _ k=>Tame (k ())
 |.at _ k=>Tame (k ())
 |.load _ _ k=>∀o,Tame (k o)
 |.update _ _ f k=>KF f/\Tame (k ())
 |.loadIfAlive _ k=>∀o,Tame (k o)
 |.point _ k=>Tame (k ())
 |.register _ k=>Tame (k ())
 |.alloc _ k=>∀a,Tame (k a)
 |.fresh k=>∀a,Tame (k a)
 |.ask k=>∀a,Tame (k a)
 |.stack k=>∀a,Tame (k a)
 |.handled _ k=>∀a,Tame (k a)
 |_=>False
theorem DO{α:Type}{Q:α -> Pos->Shared->Prop}(h0:Heap):∀(t:Sem α) (p:Pos) (s:Shared),Tame t->KD h0 s.heap->Sem.wp M Γ t Q E p s->Sem.wp M Γ t (λa p' s'=>Q a p' s'/\KD h0 s'.heap) (λe p' s'=>E e p' s'/\KD h0 s'.heap) p s:=by
 intro t
 induction t with
 |pure a=>intro p s _ k h;rw[Sem.wp]at h |-;exact⟨h,k⟩
 |raise e=>intro p s _ k h;rw[Sem.wp]at h |-;exact⟨h,k⟩
 |unsupported w=>intro p s _ k h;rw[Sem.wp]at h;exact h.elim
 |finish w=>intro p s _ k h;rw[Sem.wp]at h;exact h.elim
 |rule _ k ih=>intro p s t kd h;rw[Sem.wp]at h |-;exact ih () p s t kd h
 |«at» _ k ih=>intro p s t kd h;rw[Sem.wp]at h |-;exact ih () _ s t kd h
 |load a _ k ih=>intro p s t kd h;rw[Sem.wp]at h |-;obtain⟨o,e,h⟩:=h;exact⟨o,e,ih o p s (t o) kd h⟩
 |update a _ f k ih=>intro p s t kd h;rw[Sem.wp]at h |-;exact⟨h.1,ih () p _ t.2 (kd.trans (KD.update t.1)) h.2⟩
 |loadIfAlive a k ih=>intro p s t kd h;rw[Sem.wp]at h |-;exact ih _ p s (t _) kd h
 |point _ k ih=>intro p s t kd h;rw[Sem.wp]at h |-;exact ih () p s t kd h
 |register _ k ih=>intro p s t kd h;rw[Sem.wp]at h;exact h.elim
 |alloc o k ih=>intro p s t kd h;rw[Sem.wp]at h |-;exact ih _ p _ (t _) (kd.trans (KD.push o)) h
 |fresh k ih=>intro p s t kd h;rw[Sem.wp]at h |-;exact ih _ p _ (t _) kd h
 |ask k ih=>intro p s t kd h;rw[Sem.wp]at h |-;exact ih _ p s (t _) kd h
 |stack k ih=>intro p s t kd h;rw[Sem.wp]at h |-;exact ih _ p s (t _) kd h
 |handled _ k ih=>intro p s t kd h;rw[Sem.wp]at h |-;exact ih _ p s (t _) kd h
 |choose|os|call|genState|newGen|resume|yield|fork|thread|await=>intro p s t;exact t.elim
theorem Tame.bind{α β:Type}{m:Sem α}{f:α -> Sem β}(hm:Tame m)(hf:∀a,Tame (f a)):Tame (m.bind f):=by
 induction m with
 |pure a=>exact hf a
 |raise e=>trivial
 |unsupported w=>trivial
 |finish w=>trivial
 |rule _ k ih=>exact ih () hm
 |«at» _ k ih=>exact ih () hm
 |load a _ k ih=>exact λo=>ih o (hm o)
 |update a _ f k ih=>exact⟨hm.1,ih () hm.2⟩
 |loadIfAlive a k ih=>exact λo=>ih o (hm o)
 |point _ k ih=>exact ih () hm
 |register _ k ih=>exact ih () hm
 |alloc o k ih=>exact λa=>ih a (hm a)
 |fresh k ih=>exact λa=>ih a (hm a)
 |ask k ih=>exact λa=>ih a (hm a)
 |stack k ih=>exact λa=>ih a (hm a)
 |handled _ k ih=>exact λa=>ih a (hm a)
 |choose|os|call|genState|newGen|resume|yield|fork|thread|await=>exact hm.elim
theorem mK{α:Type}{t:Sem α}{Q:α -> Shared->Prop}(ht:Tame t)(h:wpAny M A t Q E s):wpAny M A t (λa s'=>Q a s'/\KD s.heap s'.heap) (λe s'=>E e s'/\KD s.heap s'.heap) s :=
 fun Γ p hΓ=>DO s.heap t p s ht KD.refl (h Γ p hΓ)
theorem Tame.bind'{α β:Type}{m:Sem α}{f:α -> Sem β}(hm:Tame m)(hf:∀a,Tame (f a)):Tame (m >>= f):=Tame.bind hm hf
theorem lq(a:Addr):Tame (load a):=by
 unfold load
 first|exact λo=>trivial|trivial
theorem oU(v:Value):Tame (fieldsOf v):=by
 unfold fieldsOf
 split
 ·refine Tame.bind' (lq _) λo=>?_
  split<;>trivial
 ·trivial
theorem gR(v:Value)(i:Nat):Tame (field v i):=by
 unfold field;refine Tame.bind' (oU v) λvs=>?_
 split<;>trivial
theorem lT(hf:KF f):Tame (update a f):=⟨hf,trivial⟩
theorem Iq(g:Array Value->Array Value):KF (Obj.mapFields g):=λo ho=>by
 obtain⟨c,d,dt,sl⟩:=o;cases dt<;>first|exact⟨rfl,rfl⟩|exact⟨rfl,ho⟩
theorem f7(v:Value)(i:Nat)(x:Value):Tame (setField v i x):=by
 unfold setField
 split
 ·unfold updateField
  refine Tame.bind' (lq _) λo=>?_
  split
  ·split
   ·exact lT (Iq _)
   ·trivial
  ·trivial
 ·trivial
theorem iK(e:Value)(f:Option Addr):Tame (setFlight e f):=by
 unfold setFlight;refine Tame.bind' (gR _ _) λtb=>?_
 split
 ·exact f7 _ _ _
 ·trivial
theorem mw(f:Addr)(b:Bool):Tame (entryPlaceOf f b):=by
 unfold entryPlaceOf;refine Tame.bind' (by unfold stack;exact λ_=>trivial) λacts=>?_
 split<;>trivial
theorem sL(n:String)(d:Data)(x:Option Addr):Tame (newObj (.type n) d x):=by
 have as:Tame (newObjAsIs (.type n) d x):=by unfold newObjAsIs;exact Tame.bind' (by unfold alloc;exact λ_=>trivial) λ_=>trivial
 unfold newObj;dsimp only
 split<;>first
  |exact as
  |(split<;>first|exact as|trivial)
theorem oV(a b c d e:Value)(pl:List Value):Tame (EntryCells.newEntry a b c d e pl):=by
 unfold EntryCells.newEntry newFields;exact sL _ _ _
theorem nE:∀l:List Env,Tame (readyFrames l)
 |[]=>trivial
 | env::outer=>by
  unfold readyFrames
  split
  ·refine Tame.bind' (lq _) λo=>?_
   split
   ·trivial
   ·refine Tame.bind' ?_ λim=>Tame.bind' ?_ λback=>Tame.bind' (lT λo ho=>?_) λ_=>nE outer
    ·unfold behindIsImport
     split
     ·trivial
     ·split
      ·trivial
      ·exact Tame.bind' (gR _ _) λ_=>trivial
    ·unfold keptBack
     split
     ·split
      ·trivial
      ·refine Tame.bind' ?_ λ_=>trivial;unfold underTheClaimsCaller;exact Tame.bind' (by unfold stack;exact λ_=>trivial) λ_=>trivial
     ·trivial
    ·obtain⟨c,d,dt,sl⟩:=o;cases dt<;>exact⟨rfl,ho⟩
  ·trivial
theorem qQ(env:Env):Tame (PySem.frameOf env):=by
 unfold PySem.frameOf;refine Tame.bind' ?_ λenvs=>Tame.bind' ?_ λf=>?_
 ·unfold frameEnvs;exact Tame.bind' (by unfold stack;exact λ_=>trivial) λ_=>trivial
 ·unfold frameObject
  split
  ·trivial
  ·exact Tame.bind' (nE _) λ_=>trivial
 ·split<;>trivial
theorem p8(e:Value)(env:Env):Tame (noteFrame e env):=by
 unfold noteFrame
 split
 ·refine Tame.bind' (gR _ _) λhead=>?_
  have jp:∀f:Addr,Tame (do
    let a <-PySem.frameOf env
    let pl <-entryPlaceOf f (head != Value.none)
    let b <-EntryCells.newEntry head a Value.none (rawInt f) Value.none pl
    setField e 1 b):=λf=>Tame.bind' (qQ env) λ_=>Tame.bind' (mw _ _) λ_=>Tame.bind' (oV _ _ _ _ _ _) λ_=>f7 _ _ _
  dsimp only
  split
  ·refine Tame.bind' (gR _ _) λx=>?_
   split
   ·trivial
   ·exact Tame.bind' (f7 _ _ _) λ_=>jp _
  ·exact jp _
 ·trivial
theorem ki(env:Env)(e:Value):Tame (leaving env e):=by
 unfold leaving;exact Tame.bind' (p8 _ _) λ_=>iK _ _
section
variable {K:Frag} {prog:Program} {w:World} {A:Around} {E:Value->Shared->Prop} {h:Heap} {g:Array GenState} {d:Drawn} {t:Nat} {os:OsState}
variable {nm q:Str} {C N:Addr} {bs bm bmB:List Value} {hdct:Bool} {sn:List Str} {sub:List Value} {ab:Bool} {col:Option Bool} {dd:Option Addr} {k0 k1 k2 k3 k5:Option Value} {B newId initId:String}
theorem nF(F:ExcBaseFacts B newId initId bmB)(T:OwnTail h bmB bm){rest:List Value}{fI:Addr}{Q:Fin->Shared->Prop}
  (hC:h.get? C=some (excClassObj nm q C N bs bm hdct sn sub ab col dd k0 k1 k2 k3 k5 newId)) (X:K.In h) (hi:findIn K (.ref C) "__init__" = some (some (.ref fI))) (hf:typeIn K (.ref fI)=some (.type "function"))
  (hq:∀h' e,Heap.MadeExcOf h h' e (.ref C) rest->h.objs.size<=e->wpAny (model prog w) A (call (.ref fI) (.ref e::rest)) (λr s'=>r=.none/\Q (.done (.ret (.ref e))) s') E ⟨h',g,d,t,os⟩) (hrest:rest.length<=sizeLine) :
  wpAny (model prog w) A (Builtin.«type.__call__» ⟨.ref C::rest,[]⟩) Q E ⟨h,g,d,t,os⟩:=by
 repeat (first|with_reducible refine Xy hC ?_|with_reducible refine wpAny_madeBy_exc hC ?_|wp_step)
 refine codeAny_call_builtin_code (Yw _ F.quiet) (wpAny_check_new_subT F T hC ?_);refine codeAny_exc_new_subT F T hC ?_ hrest;show wpAny _ _ _ _ _ _;have kp:∀b o,h.get? b=some o->((h.push { cls:=.type "tuple",data:=.seq rest.toArray }).push { cls:=.ref C,data:=.fields [.ref h.objs.size,.none,.none,.none,.bool false,.none].toArray }).get? b=some o:=λb o e=>V3 _ (V3 _ e);have hget:((h.push { cls:=.type "tuple",data:=.seq rest.toArray }).push { cls:=.ref C,data:=.fields [.ref h.objs.size,.none,.none,.none,.bool false,.none].toArray }).get? (h.objs.size+1)=some { cls:=.ref C,data:=.fields [.ref h.objs.size,.none,.none,.none,.bool false,.none].toArray }:=by heap_get
 have hcC:(Value.ref C::bm).contains (.ref C)=true:=by simp
 have Ui:=kp _ _ hC;unfold isInstance
 repeat (first|with_reducible refine Xy hget ?_|(with_reducible refine wpAny_isSubtype_exc Ui ?_;rw[hcC])|wp_step)
 show wpAny _ _ (typeLookup (.ref C) _) _ _ _;refine XD (X.keeps kp) hi _ _ _ _ (λ_ _ e=>e) ?_;refine WI (VZ ?_);refine PySem.W.bind_fn (X.keeps kp) (.ref (h.objs.size+1)) hf _ _ _ _ (λ_ _ e=>e) ?_;refine VZ (WA (hq _ (h.objs.size+1) ⟨kp,Yl (WR _),h.objs.size,hget,Yl (Wb _),?_⟩ (WR _)) (λr s' hr=>?_) λ_ _ x=>x)
 ·exact V3 _ (Heap.get?_push_at rfl rfl)
 ·obtain⟨rfl,hQ⟩:=hr
  wp_walk
  exact hQ
theorem yO(F:ExcBaseFacts B newId initId bmB)(T:OwnTail h bmB bm){rest:List Value}{fI:Addr}{Q:Value->Shared->Prop}
  (hC:h.get? C=some (excClassObj nm q C N bs bm hdct sn sub ab col dd k0 k1 k2 k3 k5 newId)) (X:K.In h) (hi:findIn K (.ref C) "__init__" = some (some (.ref fI))) (hf:typeIn K (.ref fI)=some (.type "function"))
  (hq:∀h' e,Heap.MadeExcOf h h' e (.ref C) rest->h.objs.size<=e->wpAny (model prog w) (A.under (.builtin "type.__call__" ⟨.ref C::rest,[]⟩)) (call (.ref fI) (.ref e::rest)) (λr s'=>r=.none/\Q (.ref e) s') E ⟨h',g,d,t,os⟩) (hrest:rest.length<=sizeLine) :
  wpAny (model prog w) A (call (.ref C) rest) Q E ⟨h,g,d,t,os⟩:=by
 have f1:=tc_lookup;have f2:=tc_bind (.ref C);have hT:(⟨h,g,d,t,os⟩:Shared).TypeIs (.ref C) "type":=⟨_,hC,rfl⟩;refine Yg (codeAny_of_tree ?_);show wpAny _ _ (callAny (.ref C) _) _ _ _
 repeat (any_goals (first|assumption|with_reducible refine Xy hC ?_|wp_step))
 refine⟨rfl,?_⟩;exact codeAny_call_builtin_at (Yw _ (by decide +kernel)) entry_typeCall (wpAny_check_type_call_sub hC (nF F T hC X hi hf hq hrest))
end
structure Aw (K:Frag) (C D:Addr) (cd:ClassData):Prop where
 cls:PySem.W.clsIn K C=some cd
 mro:cd.mro=[.ref C,.ref D,.type "ValueError",.type "Exception",.type "BaseException",.type "object"]
 hd:cd.hasDict=true
 sa:findIn K (.ref C) "__setattr__" = some (some (.builtin "object.__setattr__"))
 ob:PySem.W.mroIn K C (.type "object")=some true
section
variable {prog:Program} {w:World} {A:Around} {E:Value->Shared->Prop} {s:Shared} {K:Frag} {C D x:Addr} {cd:ClassData} {ox:Obj} {name:Str} {v:Value}
theorem DP(X:K.In s.heap)(c:Aw K C D cd)(hn:findIn K (.ref C) name=some none)(hx:s.heap.get? x=some ox)(hcl:ox.cls=.ref C)(hdn:ox.dict=none)(hdat:∃vs,ox.data=.fields vs)
  (h:∀h' tk,h'.get? x=some { ox with dict:=some s.heap.objs.size }->h'.Ns1 s.heap.objs.size (λy=>if y=name then some v else none)->(∀b o,b≠x->s.heap.get? b=some o->h'.get? b=some o)->Q () { s with heap:=h',toks:=tk }) :
  wpAny (model prog w) A (setAttr (.ref x) name v) Q E s:=by
 obtain⟨vs,hdat⟩:=hdat
 have I:PySem.W.InstAt s.heap x ox C none:=⟨hx,hcl,by unfold notCls;rw[hdat],by rw[hdn];trivial⟩;have SF:=PySem.F.store_ValueError;have sub:PySem.W.Looks (model prog w) s.heap (isInstance (.ref x) (.type "object")) true:=I.type.andThen (looks_mroIn X c.ob);have hmL:PySem.W.Looks (model prog w) s.heap (mroOf (.ref C)) cd.mro:=(looks_clsIn X c.cls).andThen .now;refine PySem.W.set_plain X I c.sa ?_;refine Ym SF.slot.plain SF.entry (@PySem.W.check_slot (model prog w) _ _ _ "object.__setattr__" "object" "__setattr__" (.ref x) [.str name s.toks,v] [] _ SF.kind SF.split sub (SF.args (.ref x) (.str name s.toks) v) ?_);rw[osa_eq,refuse_eq];refine VZ (VZ (I.type _ _ _ _ (λ_ _ e=>e) (VZ (hmL _ _ _ _ (λ_ _ e=>e) ?_))));rw[c.mro,refuseLoop_ref,refuseLoop_ref,SF.passes];refine V6 (VZ (I.type _ _ _ _ (λ_ _ e=>e) (VZ (XD X hn _ _ _ _ (λ_ _ e=>e) (VZ ?_)))));refine V6 ?_;dsimp only;have hxs:x≠s.heap.objs.size:=Wj (Wa hx);have hx1:(s.heap.push { cls:=.type "dict",data:=.dict #[] }).get? x=some ox:=V3 _ hx;refine VZ (V6 (VZ (VZ (wpAny_loadPart hx ?_))));rw[hcl];refine VZ (looks_clsIn X c.cls _ _ _ _ (λ_ _ e=>e) ?_);rw[c.hd,hdn,hdat];refine VZ (wpAny_alloc' ?_);refine VZ (wpAny_update' hx1 ?_);refine V6 ?_;have hgd:((s.heap.push { cls:=.type "dict",data:=.dict #[] }).update x λo=>{ o with dict:=some s.heap.objs.size }).get? s.heap.objs.size=some { cls:=.type "dict",data:=.dict #[] } :=
  (XJ _ _ _ _ hxs.symm).trans (Heap.get?_push_at rfl rfl)
 have hnd:((s.heap.push { cls:=.type "dict",data:=.dict #[] }).update x λo=>{ o with dict:=some s.heap.objs.size }).Ns s.heap.objs.size (λ_=>none) :=
  ⟨_,#[],_,hgd,rfl,λe he=>absurd he (by simp),λ_=>rfl⟩
 show wpAny _ _ (Builtin.ObjectAttr.storeInDict s.heap.objs.size (.str name _) name v) _ _ _;refine VZ (V6 (VZ (wpAny_nsSet1 (Heap.Ns1.of_empty hnd) λh' hn' hs=>?_)));obtain⟨oD,esD,VS,Uj,Uk,DQ⟩:=hn'.count (Within.cons name v Within.nil);refine VZ (wpAny_lookBehind Uj (by rw[Uk];exact pastItsLine_dict (Wx DQ (by rw[WJ,YN,W0];omega))) ?_);refine V6 ?_;have hx':h'.get? x=some { ox with dict:=some s.heap.objs.size }:=by refine(hs.2 x hxs).trans (WB _ hx1 ?_);obtain⟨oc,od,Pq,osl⟩:=ox;cases hdat;rfl
 refine h h' _ hx' hn' λb o hb e=>?_;exact(hs.2 b (Wj (Wa e))).trans ((XJ _ _ _ _ hb).trans (V3 _ e))
end
abbrev Ax(C t:Addr)(d:Option Addr):Obj:={ cls:=.ref C,dict:=d,data:=.fields [.ref t,.none,.none,.none,.bool false,.none].toArray }
def ExcAt(e C t:Addr)(d:Option Addr):Heap->Prop:=λh=>h.get? e=some (Ax C t d)
theorem Ay(q:ExcAt e C t d h):bx P w H h e (.ext (ExcAt e C t d)) :=
 ⟨q,⟨_,q⟩,λh1 h2 a k=>k _ a⟩
section
variable {X:Cx} {o value:Expr} {f:Str} {pos pos':Pos} {ta tv:TE} {pins:List (Addr×Obj)} {σ:St} {H:Hp} {s:Shared} {e C D t dx:Addr} {cd:ClassData} {y:V} {u:Value}
def QJ(K:Frag)(ta tv:TE)(f:Str):TS:=λEn σ H=>tv σ H λy H1=>ta σ H1 λx H2=>∃e C D t cd,x=.ref e/\H2 e=some (.ext (ExcAt e C t none))/\Aw K C D cd/\findIn K (.ref C) f=some none /\
 ∀dx,H2 dx=none->dx≠e->En.nx σ (upd (upd H2 dx (.xd [(f,y)])) e (.ext (ExcAt e C t (some dx))))
theorem DR(I:Inv X pins σ H s)(he:H e=some (.ext (ExcAt e C t none)))(c:Aw X.K C D cd)(hn:findIn X.K (.ref C) f=some none)(ry:RelV y u)
  (h:∀dx s',H dx=none->dx≠e->Inv X pins σ (upd (upd H dx (.xd [(f,y)])) e (.ext (ExcAt e C t (some dx)))) s'->Q () s'):wpAny (model X.prog X.w) A (setAttr (.ref e) f u) Q E s:=by
 have q:s.heap.get? e=some (Ax C t none):=(I.hok e _ he).1;refine DP I.kT c hn q rfl rfl ⟨_,rfl⟩ λh' tk hx hns hk=>?_;have nd:H s.heap.objs.size=none:=I.hok.fresh (Wb _);have ne:s.heap.objs.size≠e:=Xs (Wa q);obtain⟨od,es,ep,hod,r⟩:=id hns;have fr:od.isFreed=false:=(Heap.get?_some_iff.mp hod).2;have p1:(s.heap.push od).get? s.heap.objs.size=some od:=Wk s.heap fr;have I1:=I.laid (a:=s.heap.objs.size) (o:=.xd [(f,y)]) (h':=s.heap.push od) (t':=s.toks) (λb ob z=>V3 _ z) (Wb _) (by
  refine⟨_,hns.at λo z=>?_,λg=>?_⟩
  ·rw[hod]at z;cases z;exact p1
  ·show jZ (List.lookup g [(f,y)]) (if g=f then some u else none)
   by_cases c:g=f
   ·subst c;rw[Wg rfl];simp only[List.lookup,beq_self_eq_true];exact ry
   ·rw[We c]
    have:(g==f)=false:=by simpa using c
    simp only[List.lookup,this];trivial)
 have I2:=I1.write (x:=e) (e:=e) (o:=.ext (ExcAt e C t (some s.heap.objs.size))) (h':=h') (t':=tk) (by rw[ao (Ne.symm ne),he];exact Xe) (.inl rfl) (λb ob hb z=>by
  by_cases cb:b=s.heap.objs.size
  ·subst cb;have z:(s.heap.push od).get? s.heap.objs.size=some ob:=z;rw[p1]at z;cases z;exact hod
  ·exact hk b ob hb (by
    have z:(s.heap.push od).get? b=some ob:=z;exact(Heap.get?_push_cases z).resolve_left λw=>cb w.1)) ⟨_,hx⟩ (Ay hx)
 exact h _ _ nd ne I2
theorem Ir(ha:PE X o ta)(hv:PE X value tv)(hs:swapsWith value (some (.Attribute o f pos')) pos.line X.env=pure false):PS X (.Assign [.Attribute o f pos'] value pos) (QJ X.K ta tv f):=by
 intro pins s σ H D I h;refine plainObj_wpAny_Assign_Attribute (cu (hv pins s σ H _ I h) λu s1 ⟨y,H1,I1,ry,q⟩=>cu (ha pins s1 σ H1 _ I1 q) λov s2 ⟨x,H2,I2,rx,e,C,D',t,cd,ex,ee,c,n,q2⟩=>?_) hs;subst ex;obtain rfl:ov=Value.ref e:=rx;exact DR I2 ee c n ry λdx s3 nd ne I3=>⟨σ,_,I3,q2 dx nd ne⟩
end
theorem bx.there(x:bx P w H h a o):∃ob,h.get? a=some ob:=by
 cases o with
 |lst xs=>obtain⟨_,_,_,_,e⟩:=x;exact⟨_,e⟩
 |tup xs=>obtain⟨_,_,_,_,e,_⟩:=x;exact⟨_,e⟩
 |dK kvs=>obtain⟨_,_,_,_,o,_,_,e,_⟩:=x;exact⟨_,e⟩
 |dT kvs=>obtain⟨_,_,_,_,o,_,_,e,_⟩:=x;exact⟨_,e⟩
 |set S n=>obtain⟨o,_,_,_,e,_⟩:=x;exact⟨_,e⟩
 |ins C dx fs=>obtain⟨_,_,_,e,_⟩:=x;exact⟨_,e⟩
 |own y=>obtain⟨_,e⟩:=x;exact⟨_,e⟩
 |xd fs=>obtain⟨_,⟨_,_,_,e,_⟩,_⟩:=x;exact⟨_,e⟩
 |rng lo hi=>obtain⟨_,_,_,e⟩:=x;exact⟨_,e⟩
 |pq ob u=>obtain⟨e,_⟩:=x;exact⟨_,e⟩
 |tbl ps=>exact⟨_,(show h.get? a=some _ from x)⟩
 |met f y=>exact⟨_,(show h.get? a=some _ from x)⟩
 |ext φ=>obtain⟨_,⟨_,e⟩,_⟩:=x;exact⟨_,e⟩
theorem vp(x:iw P w H h)(e:h.get? a=none):H a=none:=by
 cases q:H a with
 |none=>rfl
 |some u=>obtain⟨o,z⟩:=bx.there (x a u q);rw[e]at z;cases z
structure Lz (H:Hp) (h:Heap) (a dx C T:Addr):Prop where
 ob:∃oe vs a0,h.get? a=some oe/\oe.cls=.ref C/\oe.dict=some dx/\oe.data=.fields vs/\vs[0]?=some a0/\vs[1]?=some (.ref T)
 tb:∃oT ts,h.get? T=some oT/\oT.data=.fields ts/\ts[3]?=some .none
 ne:T≠a
 fa:H a=none
 fT:H T=none
structure Lv (fs:List Addr) (a:Addr) (h h':Heap):Prop where
 keep:∀b o,b≠a->b∉fs->h.get? b=some o->h'.get? b=some o
 slot:∀b o,b∈fs->h.get? b=some o->∃sl,h'.get? b=some { o with slots:=sl }
 there:∀b o,h.get? b=some o->∃o',h'.get? b=some o'
section
variable {P:Program} {w:World} {M:Model} {A:Around} {E:Value->Shared->Prop} {s:Shared} {H:Hp} {base:Heap} {env:Env} {outer:List Env} {L a dx C T:Addr}
theorem bP{h:Heap}:∀{l:List Env},h.FunFrames base l->∀b∈frs l,∃o,h.get? b=some o/\∀vs,o.data≠.fields vs
 |[],_,b,hb=>by simp[frs]at hb
 | env::r,⟨_,⟨L,o,hf,_,ho,hd⟩,hr⟩,b,hb=>by
  unfold frs at hb;rw[Xa,hf]at hb
  rcases Wf.mp hb with rfl|hb
  ·exact⟨o,ho,hd⟩
  ·exact bP hr b hb
theorem fU{h:Heap}{as:List Addr}:∀{l:List Env},h.FunFrames base l->(∀b∈frs l,b∈as)->h.FunFrames (hideAll h as) l
 |[],_,_=>trivial
 | env::r,⟨hk,⟨L,o,hf,_,ho,hd⟩,hr⟩,hin=>by
  have e:frs (env::r)=L::frs r:=by unfold frs;rw[Xa,hf]
  exact⟨hk,⟨L,o,hf,WQ _ (hin L (by rw[e];exact V8)),ho,hd⟩,fU hr λb hb=>hin b (by rw[e];exact V5 _ hb)⟩
theorem yP(hok:iw P w H s.heap)(hfr:A.frames=some (env::outer))(hl:s.heap.FunFrames base (env::outer))(hf:env.frame=some L){a0:Value}(he:s.heap.get? a=some oe)(hc:oe.cls=.ref C)(hdx:oe.dict=some dx)(hd:oe.data=.fields vs)(h0:vs[0]?=some a0)(h1:vs[1]?=some .none)(ha:H a=none)
  (h:∀h' T,Lz H h' a dx C T->s.heap.get? T=none->Lv (frs (env::outer)) a s.heap h'->Q () { s with heap:=h' }):wpAny M A (leaving env (.ref a)) Q E s:=by
 have hin:∀b∈frs (env::outer),b∈a::frs (env::outer):=λb hb=>V5 _ hb;have key:=wpAny_leaving_firstW (M:=M) (A:=A) (E:=E) (base:=hideAll s.heap (a::frs (env::outer))) (Q:=λ_ s'=>∃h',s'={ s with heap:=h' }/\Heap.LeftW (hideAll s.heap (a::frs (env::outer))) (env::outer) a oe.cls a0 s.heap h') hfr (fU hl hin) hf he (λb o e=>XS _ e) (WQ _ V8) hd h1 h0 λh' z=>⟨h',rfl,z⟩;refine WA (mK (ki env (.ref a)) key) (λ_ s' zz=>?_) λ_ _ zz=>zz.1;obtain⟨⟨h',rfl,st,ff,⟨ML,vs',T,oT,ts,e1,⟨e2,e3⟩,e4,e5,e6,e7,e8,e9,MM⟩,up⟩,kd⟩:=zz;have Gd:s.heap.get? T=none:=by
  cases q:s.heap.get? T with
  |none=>rfl
  |some o=>
   by_cases c:T∈a::frs (env::outer)
   ·rcases Wf.mp c with c|c
    ·exact absurd c e7
    ·obtain⟨o',oW,h2'⟩:=bP hl T c;rw[q]at oW;cases oW;obtain⟨sl,hs⟩:=up T o q h2';rw[e8]at hs;cases hs;exact absurd e9 (h2' ts)
   ·have:=WY _ q c;rw[e6]at this;cases this
 have hT:H T=none:=vp hok Gd;refine h h' T ⟨⟨ML,vs',a0,e1,e2.trans hc,?_,e4,e3,e5⟩,⟨oT,ts,e8,e9,MM⟩,e7,ha,hT⟩ Gd ⟨λb o hb hn e=>?_,λb o hb e=>?_,λb o e=>?_⟩
 ·obtain⟨o',z1,z2⟩:=kd a oe he;have z1:h'.get? a=some o':=z1;rw[e1]at z1;cases z1;rw[z2,hdx]
 ·exact st b o (WY _ e λz=>(Wf.mp z).elim hb hn)
 ·obtain⟨o',oW,h2'⟩:=bP hl b hb;rw[e]at oW;cases oW;exact up b o e h2'
 ·obtain⟨o',z,_⟩:=kd b o e;exact⟨o',z⟩
theorem Az(hok:iw P w H s.heap)(hfr:A.frames=some (env::outer))(hl:s.heap.FunFrames base (env::outer))(hf:env.frame=some L)(F:Lz H s.heap a dx C T)
  (h:∀h' T',Lz H h' a dx C T'->(T'=T\/s.heap.get? T'=none)->(∀b o,b≠T->b≠a->b∉frs (env::outer)->s.heap.get? b=some o->h'.get? b=some o)->(∀b o,b∈frs (env::outer)->s.heap.get? b=some o->∃sl,h'.get? b=some { o with slots:=sl })->(∀b o,s.heap.get? b=some o->∃o',h'.get? b=some o')->Q () { s with heap:=h' }):wpAny M A (leaving env (.ref a)) Q E s:=by
 obtain⟨⟨oe,vs,a0,he,hc,hdx,hd,h0,h1⟩,⟨oT,ts,g1,g2,g3⟩,ne,fa,fT⟩:=F;have hin:∀b∈frs (env::outer),b∈T::a::frs (env::outer):=λb hb=>V5 _ (V5 _ hb);have key:=wpAny_leaving_nextW (M:=M) (A:=A) (E:=E) (base:=hideAll s.heap (T::a::frs (env::outer))) (cls:=.ref C) (a0:=a0) (Q:=λ_ s'=>∃h',s'={ s with heap:=h' }/\Heap.LeftW (hideAll s.heap (T::a::frs (env::outer))) (env::outer) a (.ref C) a0 s.heap h') hfr (fU hl hin) hf
  ⟨oe,vs,T,oT,ts,he,⟨hc,h0⟩,hd,h1,WQ _ V8,ne,g1,g2,g3⟩ (λb o e=>XS _ e) (WQ _ (V5 _ V8)) λh' z=>⟨h',rfl,z⟩
 refine WA (mK (ki env (.ref a)) key) (λ_ s' zz=>?_) λ_ _ zz=>zz.1;obtain⟨⟨h',rfl,st,ff,⟨ML,vs',T',QK,ts',e1,⟨e2,e3⟩,e4,e5,e6,e7,e8,e9,MM⟩,up⟩,kd⟩:=zz;have Gd:T'=T\/s.heap.get? T'=none:=by
  cases q:s.heap.get? T' with
  |none=>exact .inr rfl
  |some o=>
   by_cases c:T'∈T::a::frs (env::outer)
   ·rcases Wf.mp c with c|c
    ·exact .inl c
    rcases Wf.mp c with c|c
    ·exact absurd c e7
    ·obtain⟨o',oW,h2'⟩:=bP hl T' c;rw[q]at oW;cases oW;obtain⟨sl,hs⟩:=up T' o q h2';rw[e8]at hs;cases hs;exact absurd e9 (h2' ts')
   ·have:=WY _ q c;rw[e6]at this;cases this
 have hT:H T'=none:=by
  rcases Gd with z|z
  ·rw[z];exact fT
  ·exact vp hok z
 refine h h' T' ⟨⟨ML,vs',a0,e1,e2,?_,e4,e3,e5⟩,⟨QK,ts',e8,e9,MM⟩,e7,fa,hT⟩ Gd (λb o QL hb hn e=>?_) (λb o hb e=>?_) λb o e=>?_
 ·obtain⟨o',z1,z2⟩:=kd a oe he;have z1:h'.get? a=some o':=z1;rw[e1]at z1;cases z1;rw[z2,hdx]
 ·exact st b o (WY _ e λz=>(Wf.mp z).elim QL λz=>(Wf.mp z).elim hb hn)
 ·obtain⟨o',oW,h2'⟩:=bP hl b hb;rw[e]at oW;cases oW;exact up b o e h2'
 ·obtain⟨o',z,_⟩:=kd b o e;exact⟨o',z⟩
end
abbrev VB:List Value:=[.type "ValueError",.type "Exception",.type "BaseException",.type "object"]
structure yQ (K:Frag) (C D f:Addr) (cd:ClassData):Prop where
 c:Aw K C D cd
 ob:∃nm q N bs hdct sn sub ab col dd k0 k1 k2 k3 k5,K.lookup C=some (excClassObj nm q C N bs (.ref D::VB) hdct sn sub ab col dd k0 k1 k2 k3 k5 "ValueError.__new__")
 up:∃c0 dd cdD sl c1 d1 es ep DS,K.lookup D=some ⟨c0,dd,.cls cdD,sl⟩/\K.lookup cdD.ns=some ⟨c1,d1,.dict es ep,DS⟩/\StrKeys es/\nsFind es "__init__" = none
 init:findIn K (.ref C) "__init__" = some (some (.ref f))
 fn:typeIn K (.ref f)=some (.type "function")
 kp:keepIn K (.ref C)=true
theorem yQ.tail{K:Frag}{C D f:Addr}{cd:ClassData}{h:Heap}(M:yQ K C D f cd)(X:K.In h):OwnTail h VB (.ref D::VB):=by
 obtain⟨c0,dd,cdD,sl,c1,d1,es,ep,DS,l1,l2,sk,ni⟩:=M.up;exact .own (X _ _ l1) ⟨_,es,ep,X _ _ l2,rfl,sk,λ_=>rfl⟩ ni .base
def wF(K:Frag)(f:Str):Sp:=λvs H Q _=>∃e y C D t cd,vs=[.ref e,y]/\H e=some (.ext (ExcAt e C t none))/\Aw K C D cd/\findIn K (.ref C) f=some none /\
 ∀dx,H dx=none->dx≠e->Q .non (upd (upd H dx (.xd [(f,y)])) e (.ext (ExcAt e C t (some dx))))
section
variable {X:Cx} {CX:uT} {k:Nat} {f C D:Addr} {fd:FuncData} {ps:List Str} {cd:ClassData} {E:XK} {x g:Str} {pins:List (Addr×Obj)} {σ:St} {H:Hp} {s:Shared}
theorem DT(M:yQ X.K C D f cd)(F:dJ X.prog X.w X.K X.mg X.base CX k f fd ps (wF X.K g))(hr:cY (k+1) X.A)(hb:Binds X.K fd ps [])(hl:ps.length=2)(hx:Passes CX X E)(hn:findIn X.K (.ref C) g=some none)
  (I:Inv X pins σ H s) (ry:RelV y u)
  (h:∀e t dx s',H e=none->H dx=none->dx≠e->s.heap.get? e=none->Inv X pins σ (upd (upd (upd H e (.ext (ExcAt e C t none))) dx (.xd [(g,y)])) e (.ext (ExcAt e C t (some dx)))) s'->Q (.ref e) s') :
  wpAny (model X.prog X.w) X.A (call (.ref C) [u]) Q X.xe s:=by
 obtain⟨nm,q,N,bs,hdct,sn,sub,ab,col,dd,k0,k1,k2,k3,k5,lc⟩:=M.ob;obtain⟨hh,gn,dr,tk,os⟩:=s;refine yO (K:=X.K) PySem.F.excBase_ValueError (M.tail I.kT) (I.kT _ _ lc) I.kT M.init M.fn (λh' e me le=>?_) (by show 1<=sizeLine;decide);obtain⟨t,ht,_,_⟩:=me.there;have I2:Inv X pins σ (upd H e (.ext (ExcAt e C t none))) ⟨h',gn,dr,tk,os⟩:=I.laid (a:=e) (o:=.ext (ExcAt e C t none)) (h':=h') (t':=tk) me.keeps le (Ay ht);have ne:H e=none:=I.hok.fresh le;refine Yg (Xv (F.run _ X.stack _ _ ⟨[.ref e,u],[]⟩ [.ref e,u] [.ref e,y] (λv H2=>v=.non/\∃dx,H dx=none/\dx≠e/\H2=upd (upd (upd H e (.ext (ExcAt e C t none))) dx (.xd [(g,y)])) e (.ext (ExcAt e C t (some dx)))) E (hr.make C [u] []) (I2.m7.make C [u] []) ?_ #[rfl,ry] ?_) λr s' hq=>?_)
 ·have:=hb _ [.ref e,u] I2.kT (by rw[hl];rfl);rw[W8]at this;exact this
 ·refine⟨e,y,C,D,t,cd,rfl,az,M.c,hn,λdx nd nx=>⟨rfl,dx,?_,nx,rfl⟩⟩;rw[ao nx]at nd;exact nd
 ·cases r with
  |error e'=>exact hx pins σ _ _ e' s' I2 hq
  |ok fl=>
   cases fl with
   |ret u'=>obtain⟨v,H',I3,rv,ev,dx,nd,nx,eH⟩:=I2.after hq;subst ev;subst eH;exact⟨rv,h e t dx s' ne nd nx me.new I3⟩
   |next=>exact False.elim hq
   |brk=>exact False.elim hq
   |cont=>exact False.elim hq
end
section
variable {M:Model} {A:Around} {E:Value->Shared->Prop} {env:Env} {nm q:Str} {C N:Addr} {bs bm:List Value} {hdct:Bool} {sn:List Str} {sub:List Value} {ab:Bool} {col:Option Bool} {dd:Option Addr} {k0 k1 k2 k3 k5:Option Value} {newId:String}
theorem vq(hbase:bm.contains (.type "BaseException")=true)(hh:A.handled=none)
  (h:wpAny M A x (λv s₁=>∃e t d,v=.ref e/\s₁.heap.get? C=some (excClassObj nm q C N bs bm hdct sn sub ab col dd k0 k1 k2 k3 k5 newId)/\s₁.heap.get? e=some (Ax C t d)/\E (.ref e) s₁) E s) :
  wpAny M A (raiseStmt env (some x) none) Q E s:=by
 have Ul:(Value.ref C::bm).contains (.type "BaseException")=true:=by rw[List.contains_cons,hbase,Bool.or_true]
 unfold raiseStmt;refine VZ (WA h (λv s₁ h₁=>?_) λ_ _ x=>x);obtain⟨e,t,d,rfl,hC,he,hE⟩:=h₁;obtain⟨hp,g,dr,tk,os⟩:=s₁
 repeat (first|with_reducible refine Xy he ?_|with_reducible refine Xy hC ?_|(with_reducible refine wpAny_isSubtype_exc hC ?_;rw[Ul])|wp_step)
 exact wpAny_raiseNew_none hh hE
theorem Iu(hbase:bm.contains (.type "BaseException")=true)(hh:A.handled=none)
  (h:wpAny M A (eval x env) (λv s₁=>∃e t d,v=.ref e/\s₁.heap.get? C=some (excClassObj nm q C N bs bm hdct sn sub ab col dd k0 k1 k2 k3 k5 newId)/\s₁.heap.get? e=some (Ax C t d)/\E (.ref e) s₁) E s) :
  wpAny M A (exec (.Raise (some x) none pos) env) Q E s:=by
 rw[arm_exec_Raise]
 first
  |exact VZ (Xd (vq hbase hh (VZ (WA h (λv s₁ h₁=>VZ (Xd (V6 h₁))) λ_ _ x=>x))))
  |(simp only[evalOpt,Option.map];exact VZ (Xd (vq hbase hh (VZ (WA h (λv s₁ h₁=>VZ (Xd (V6 h₁))) λ_ _ x=>x)))))
  |(show wpAny M A (do standAt pos;raiseStmt env (some (do let v <-eval x env;standAt pos;pure v)) none) Q E s;exact VZ (Xd (vq hbase hh (VZ (WA h (λv s₁ h₁=>VZ (Xd (V6 h₁))) λ_ _ x=>x)))))
end
def CV(H:Hp)(a:Addr):Hp:=λb=>if b=a then none else H b
theorem gS(h:b≠a):CV H a b=H b:=by unfold CV;rw[We h]
theorem kj:CV H a a=none:=by unfold CV;rw[Wg rfl]
theorem wG(x:iw P w H h)(e:H a=some (.ext φ)):iw P w (CV H a) h:=λb o q=>by
 have nb:b≠a:=λz=>by rw[z,kj]at q;cases q
 rw[gS nb]at q;refine(x b o q).stay (λ_ _ _ z=>z) (λc z=>?_) λc xs z=>?_
 ·rw[gS λy=>by rw[y,e]at z;cases z];exact z
 ·rw[gS λy=>by rw[y,e]at z;cases z];exact z
def mL(P:Program)(w:World):uT:=λouter H s E e s'=>∃a dx C T H',e=.ref a/\s'.os=s.os/\AllBare s'.gens/\Un (frs outer) [] H H' s.heap s'.heap/\iw P w H' s'.heap/\Lz H' s'.heap a dx C T/\s.heap.get? a=none/\s.heap.get? T=none/\E (.ref C) (some dx) H'
section
variable {P:Program} {w:World} {K:Frag} {mg:Str->Option Value} {base:Heap} {N:List Str} {qual:Str} {scope:Scope} {f:Addr} {cd:Value} {A:Around} {outer:List Env} {s:Shared} {H:Hp} {E:XK} {pins:List (Addr×Obj)} {σ:St} {H3:Hp} {s3:Shared} {e C t dx:Addr}
theorem DU(I:Inv (gO (mL P w) P w K mg base N qual scope f cd A outer s H E) pins σ H3 s3)(he:H3 e=some (.ext (ExcAt e C t (some dx))))(hn:s.heap.get? e=none)(q:E (.ref C) (some dx) (CV H3 e)) :
  (gO (mL P w) P w K mg base N qual scope f cd A outer s H E).xe (.ref e) s3:=by
 have ho:s3.heap.get? e=some (Ax C t (some dx)):=(I.hok e _ he).1;have st:s3.heap.FunFrames base (envOfC qual scope s.heap.objs.size f cd::outer):=I.stack;refine yP (P:=P) (w:=w) (H:=CV H3 e) (a0:=.ref t) (wG I.hok he) I.ok.frames st rfl ho rfl rfl rfl rfl rfl kj λh' T F nT L=>?_;have un:Un (frs outer) [] H H3 s.heap s3.heap:=I.base;have ne:∀b o,s.heap.get? b=some o->b≠e:=λb o z y=>by rw[y,hn]at z;cases z
 have nl:∀b o,s.heap.get? b=some o->b∉frs outer->b∉frs (envOfC qual scope s.heap.objs.size f cd::outer):=λb o z nb y=>by
  have y:b∈s.heap.objs.size::frs outer:=y
  rcases Wf.mp y with y|y
  ·have:=Wa z;rw[y]at this;exact absurd this (WL _)
  ·exact nb y
 have sT:s.heap.get? T=none:=by
  cases q:s.heap.get? T with
  |none=>rfl
  |some o=>obtain⟨o',z⟩:=un.there T o q (by simp);rw[nT]at z;cases z
 refine⟨e,dx,C,T,CV H3 e,rfl,I.os,I.bare,⟨λb o z nb nf _=>?_,λb o z nb nf _=>?_,λb o z nb _=>?_,λb o z _=>?_,λb xs z=>?_,λb o u z=>?_,λb ps z=>?_⟩,?_,F,hn,sT,q⟩
 ·exact L.keep b o (ne b o z) (nl b o z nf) (un.keep b o z nb nf (by simp))
 ·obtain⟨sl,z2⟩:=un.slot b o z nb nf (by simp);obtain⟨LN,z3⟩:=L.slot b _ (V5 _ nf) z2;exact⟨LN,z3⟩
 ·rw[gS (ne b o z)];exact un.free b o z nb (by simp)
 ·obtain⟨o',z2⟩:=un.there b o z (by simp);exact L.there b o' z2
 ·have:=un.tups b xs z;rw[gS λy=>by rw[y,he]at this;cases this];exact this
 ·have:=un.frzs b o u z;rw[gS λy=>by rw[y,he]at this;cases this];exact this
 ·obtain⟨more,this⟩:=un.j0 b ps z;exact⟨more,by rw[gS λy=>by rw[y,he]at this;cases this];exact this⟩
 ·have kp:∀c u ob,CV H3 e c=some u->s3.heap.get? c=some ob->h'.get? c=some ob:=λc u ob z z2=>by
   have nc:c≠e:=λy=>by rw[y,kj]at z;cases z
   rw[gS nc]at z;refine L.keep c ob nc (λy=>?_) z2;have:=I.j3 c y;rw[this]at z;cases z
  exact λb o z=>(wG I.hok he b o z).stay (λc u y z2=>by
   rcases y with rfl|y
   ·exact kp _ _ _ z z2
   ·exact kp _ _ _ y z2) (λ_ y=>y) λ_ _ y=>y
theorem iL(un:Un fs [] H H' h h'):∀{l:List Env},(∀b∈frs l,H b=none)->h.FunFrames base l->h'.FunFrames base l
 |[],_,_=>trivial
 | env::r,hf,⟨hk,⟨L,o,e1,e2,e3,e4⟩,hr⟩=>by
  have e:frs (env::r)=L::frs r:=by unfold frs;rw[Xa,e1]
  obtain⟨sl,z⟩:=un.any e3 (hf L (by rw[e];exact V8)) (by simp);exact⟨hk,⟨L,_,e1,e2,z,e4⟩,iL un (λb hb=>hf b (by rw[e];exact V5 _ hb)) hr⟩
theorem DV:Passes (mL P w) (gO (mL P w) P w K mg base N qual scope f cd A outer s H E) E:=by
 rintro pins σ H1 s1 e' s' I ⟨a,dx,C,T,H',rfl,hos,hbare,un,hok,F,na,nT,q⟩;have st:s1.heap.FunFrames base (envOfC qual scope s.heap.objs.size f cd::outer):=I.stack;have un:Un (frs (envOfC qual scope s.heap.objs.size f cd::outer)) [] H1 H' s1.heap s'.heap:=un;have fre:∀b∈frs (envOfC qual scope s.heap.objs.size f cd::outer),H1 b=none:=I.j3;have u0:Un (frs outer) [] H H1 s.heap s1.heap:=I.base;have ne:∀b o,s1.heap.get? b=some o->b≠a/\b≠T:=λb o z=>⟨(λy=>by rw[y,na]at z;cases z),(λy=>by rw[y,nT]at z;cases z)⟩;have nl:∀b o,s.heap.get? b=some o->b∉frs outer->b∉frs (envOfC qual scope s.heap.objs.size f cd::outer):=λb o z nb y=>by
  have y:b∈s.heap.objs.size::frs outer:=y
  rcases Wf.mp y with y|y
  ·have:=Wa z;rw[y]at this;exact absurd this (WL _)
  ·exact nb y
 refine Az (P:=P) (w:=w) (H:=H') hok I.ok.frames (iL un fre st) rfl F λh' T' F' QM kp sl th=>?_;have sn:∀b,s1.heap.get? b=none->s.heap.get? b=none:=λb z=>by
  cases q:s.heap.get? b with
  |none=>rfl
  |some o=>obtain⟨o',y⟩:=u0.there b o q (by simp);rw[z]at y;cases y
 have sT:s.heap.get? T'=none:=by
  rcases QM with y|y
  ·rw[y];exact sn T nT
  ·refine sn T' ?_
   cases q:s1.heap.get? T' with
   |none=>rfl
   |some o=>obtain⟨o',z⟩:=un.there T' o q (by simp);rw[y]at z;cases z
 refine⟨a,dx,C,T',H',rfl,hos.trans I.os,hbare,⟨λb o z nb nf _=>?_,λb o z nb nf _=>?_,λb o z nb _=>?_,λb o z _=>?_,λb xs z=>un.tups b xs (u0.tups b xs z),λb o u z=>un.frzs b o u (u0.frzs b o u z),λb ps z=>?_⟩,?_,F',sn a na,sT,q⟩
 ·have z1:=u0.keep b o z nb nf (by simp);have z2:=un.keep b o z1 (u0.free b o z nb (by simp)) (nl b o z nf) (by simp);exact kp b o (ne b o z1).2 (ne b o z1).1 (nl b o z nf) z2
 ·obtain⟨DS,z1⟩:=u0.slot b o z nb nf (by simp);obtain⟨sl2,z2⟩:=un.slot b _ z1 (u0.free b o z nb (by simp)) (V5 _ nf) (by simp);obtain⟨Um,z3⟩:=sl b _ (V5 _ nf) z2;exact⟨Um,z3⟩
 ·obtain⟨o1,z1⟩:=u0.there b o z (by simp);exact un.free b o1 z1 (u0.free b o z nb (by simp)) (by simp)
 ·obtain⟨o1,z1⟩:=u0.there b o z (by simp);obtain⟨o2,z2⟩:=un.there b o1 z1 (by simp);exact th b o2 z2
 ·obtain⟨m1,z1⟩:=u0.j0 b ps z;obtain⟨m2,z2⟩:=un.j0 b _ z1;exact⟨m1++m2,by rw[z2,Array.append_assoc]⟩
 ·have nf:∀b u,H' b=some u->b∉frs (envOfC qual scope s.heap.objs.size f cd::outer):=λb u z y=>by
   obtain⟨o,z1,_⟩:=bP st b y;have:=un.free b o z1 (fre b y) (by simp);rw[this]at z;cases z
  have kk:∀c u ob,H' c=some u->s'.heap.get? c=some ob->h'.get? c=some ob:=λc u ob z z2=>
   kp c ob (λy=>by rw[y,F.fT]at z;cases z) (λy=>by rw[y,F.fa]at z;cases z) (nf c u z) z2
  exact λb o z=>(hok b o z).stay (λc u y z2=>by
   rcases y with rfl|y
   ·exact kk _ _ _ z z2
   ·exact kk _ _ _ y z2) (λ_ y=>y) λ_ _ y=>y
end
def Iv(E:XK)(C:Addr)(g:Str)(t:TA):TS:=λ_ σ H=>t σ H λvs H1=>∃y,vs=[y]/\∀dx,H1 dx=none->E (.ref C) (some dx) (upd H1 dx (.xd [(g,y)]))
section
variable {P:Program} {w:World} {K:Frag} {mg:Str->Option Value} {base:Heap} {N:List Str} {qual:Str} {scope:Scope} {f:Addr} {cdv:Value} {A:Around} {outer:List Env} {s:Shared} {H:Hp} {E:XK} {k:Nat} {fI C D:Addr} {fd:FuncData} {ps:List Str} {cd:ClassData} {x g:Str} {arg:Expr} {p cpos pos:Pos} {t:TA}
theorem AA(M:yQ K C D fI cd)(F:dJ P w K mg base CQ k fI fd ps (wF K g))(hr:cY (k+1) (A.deeper (envOfC qual scope s.heap.objs.size f cdv)))(hb:Binds K fd ps [])(hl:ps.length=2)(hn:findIn K (.ref C) g=some none)
  (hg:Gl (gO (mL P w) P w K mg base N qual scope f cdv A outer s H E) x) (hm:mg x=some (.ref C)) (ha:PA (gO (mL P w) P w K mg base N qual scope f cdv A outer s H E) [arg] t) (hdb:(x==("__debug__":Str))=false)
  (he:starEach [arg] (gO (mL P w) P w K mg base N qual scope f cdv A outer s H E).env=(false,eval arg (gO (mL P w) P w K mg base N qual scope f cdv A outer s H E).env)::starEach [] (gO (mL P w) P w K mg base N qual scope f cdv A outer s H E).env) :
  PS (gO (mL P w) P w K mg base N qual scope f cdv A outer s H E) (.Raise (some (.Call (.Name x p) [arg] [] cpos)) none pos) (Iv E C g t):=by
 intro pins s1 σ H1 En I h;obtain⟨nm,q,N',bs,hdct,sn,sub,ab,col,dd,k0,k1,k2,k3,k5,lc⟩:=M.ob;refine Iu (C:=C) (nm:=nm) (q:=q) (N:=N') (bs:=bs) (bm:=.ref D::VB) (hdct:=hdct) (sn:=sn) (sub:=sub) (ab:=ab) (col:=col) (dd:=dd) (k0:=k0) (k1:=k1) (k2:=k2) (k3:=k3) (k5:=k5) (newId:="ValueError.__new__") rfl (I.ok.hd rfl) ?_;refine WN (ji I hg hm ?_ hdb);refine Yu (h₀:=base) I.ok.mod.LL M.kp (cu (ha cpos pins s1 σ H1 _ I h) λus s2 ⟨vs,H2,I2,r,y,ev,qq⟩=>⟨I2.kT,?_⟩) he rfl;subst ev;obtain⟨u,rfl,ru⟩:=vals1 r;refine DT (X:=gO (mL P w) P w K mg base N qual scope f cdv A outer s H E) M F hr hb hl My hn I2 ru λe t dx s3 ne nd nx Uo I3=>?_;have eH:CV (upd (upd (upd H2 e (.ext (ExcAt e C t none))) dx (.xd [(g,y)])) e (.ext (ExcAt e C t (some dx)))) e=upd H2 dx (.xd [(g,y)]):=by
  funext b
  by_cases c:b=e
  ·subst c;rw[kj,ao (Ne.symm nx),ne]
  ·rw[gS c,ao c]
   by_cases c2:b=dx
   ·subst c2;rw[az,az]
   ·rw[ao c2,ao c2,ao c]
 have sn:s.heap.get? e=none:=by
  cases z:s.heap.get? e with
  |none=>rfl
  |some o=>have un:Un (frs outer) [] H H2 s.heap s2.heap:=I2.base;obtain⟨o',z2⟩:=un.there e o z (by simp);rw[Uo]at z2;cases z2
 exact⟨e,t,some dx,rfl,I3.kT _ _ lc,(I3.hok e _ az).1,DU I3 az sn (by rw[eH];exact qq dx nd)⟩
end
section
variable {P:Program} {w:World} {M:Model} {A:Around} {E:Value->Shared->Prop} {s:Shared} {H:Hp} {base:Heap} {env:Env} {outer:List Env} {L a dx C T:Addr}
theorem AB(hok:iw P w H s.heap)(hfr:A.frames=some (env::outer))(hl:s.heap.FunFrames base (env::outer))(hf:env.frame=some L)(F:Lz H s.heap a dx C T)
  (h:∀h' T',Lz H h' a dx C T'->(T'=T\/s.heap.get? T'=none)->(∀b o,b≠T->b≠a->b∉frs (env::outer)->s.heap.get? b=some o->h'.get? b=some o)->(∀b o,b∈frs (env::outer)->s.heap.get? b=some o->∃sl,h'.get? b=some { o with slots:=sl })->(∀b o,s.heap.get? b=some o->∃o',h'.get? b=some o')->Q () { s with heap:=h' }) :
  wpAny M A (noteFrame (.ref a) env) (λ_ s2=>wpAny M A (setFlight (.ref a) none) Q E s2) E s:=by
 obtain⟨⟨oe,vs,a0,he,hc,hdx,hd,h0,h1⟩,⟨oT,ts,g1,g2,g3⟩,ne,fa,fT⟩:=F;have hin:∀b∈frs (env::outer),b∈T::a::frs (env::outer):=λb hb=>V5 _ (V5 _ hb);have hB:hideAll s.heap (T::a::frs (env::outer)) |>.StaysIn s.heap:=λb o e=>XS _ e;have key:=wpAny_noteFrame_onW (M:=M) (A:=A) (E:=E) (base:=hideAll s.heap (T::a::frs (env::outer))) (cls:=.ref C) (a0:=a0) (Q:=λ_ s'=>∃h',s'={ s with heap:=h' }/\Heap.NotedW (hideAll s.heap (T::a::frs (env::outer))) (env::outer) a (.ref C) a0 (rawInt L) s.heap h') hfr (fU hl hin) hf
  ⟨oe,vs,T,oT,ts,he,⟨hc,h0⟩,hd,h1,WQ _ V8,ne,g1,g2,g3⟩ hB (WQ _ (V5 _ V8)) λh' z=>⟨h',rfl,z⟩
 refine WA (mK (p8 (.ref a) env) key) (λ_ s' zz=>?_) λ_ _ zz=>zz.1;obtain⟨⟨oW,rfl,st,ff,tr,up⟩,kd⟩:=zz;have QN:=wpAny_setFlight_noneW (M:=M) (A:=A) (E:=E) (s:={ s with heap:=oW }) (base:=hideAll s.heap (T::a::frs (env::outer))) (cls:=.ref C) (a0:=a0) (Q:=λ_ s'=>∃h',s'={ s with heap:=h' }/\Heap.LeftW (hideAll s.heap (T::a::frs (env::outer))) (env::outer) a (.ref C) a0 s.heap h') st ff tr λh' z1 z2 z3 z4=>⟨h',rfl,z1,z2,z3,λb o e hn=>by
  obtain⟨sl,e1⟩:=up b o e hn;exact⟨sl,z4 b _ e1 hn⟩⟩
 refine WA (mK (iK (.ref a) none) QN) (λ_ s' zz=>?_) λ_ _ zz=>zz.1;obtain⟨⟨h',rfl,st,ff,⟨ML,vs',T',QK,ts',e1,⟨e2,e3⟩,e4,e5,e6,e7,e8,e9,MM⟩,up⟩,Uq⟩:=zz;have kd:KD s.heap h':=KD.trans kd Uq;have Gd:T'=T\/s.heap.get? T'=none:=by
  cases q:s.heap.get? T' with
  |none=>exact .inr rfl
  |some o=>
   by_cases c:T'∈T::a::frs (env::outer)
   ·rcases Wf.mp c with c|c
    ·exact .inl c
    rcases Wf.mp c with c|c
    ·exact absurd c e7
    ·obtain⟨o',oW,h2'⟩:=bP hl T' c;rw[q]at oW;cases oW;obtain⟨sl,hs⟩:=up T' o q h2';rw[e8]at hs;cases hs;exact absurd e9 (h2' ts')
   ·have:=WY _ q c;rw[e6]at this;cases this
 have hT:H T'=none:=by
  rcases Gd with z|z
  ·rw[z];exact fT
  ·exact vp hok z
 refine h h' T' ⟨⟨ML,vs',a0,e1,e2,?_,e4,e3,e5⟩,⟨QK,ts',e8,e9,MM⟩,e7,fa,hT⟩ Gd (λb o QL hb hn e=>?_) (λb o hb e=>?_) λb o e=>?_
 ·obtain⟨o',z1,z2⟩:=kd a oe he;rw[e1]at z1;cases z1;rw[z2,hdx]
 ·exact st b o (WY _ e λz=>(Wf.mp z).elim QL λz=>(Wf.mp z).elim hb hn)
 ·obtain⟨o',oW,h2'⟩:=bP hl b hb;rw[e]at oW;cases oW;exact up b o e h2'
 ·obtain⟨o',z,_⟩:=kd b o e;exact⟨o',z⟩
end
def sM(a C T dx:Addr):Heap->Prop:=λh=>∃oe vs,h.get? a=some oe/\oe.cls=.ref C/\oe.dict=some dx/\oe.data=.fields vs/\vs[1]?=some (.ref T)
def yR(T:Addr):Heap->Prop:=λh=>∃oT ts,h.get? T=some oT/\oT.data=.fields ts/\3<ts.size
theorem MN(q:sM a C T dx h):bx P w H h a (.ext (sM a C T dx)) :=
 ⟨q,(let ⟨oe,_,e,_⟩:=q;⟨oe,e⟩),λh1 h2 ⟨oe,vs,e,r⟩ k=>⟨oe,vs,k _ e,r⟩⟩
theorem Ge(q:yR T h):bx P w H h T (.ext (yR T)) :=
 ⟨q,(let ⟨oe,_,e,_⟩:=q;⟨oe,e⟩),λh1 h2 ⟨oe,vs,e,r⟩ k=>⟨oe,vs,k _ e,r⟩⟩
def oX(H:Hp)(a C T dx:Addr):Hp:=upd (upd H a (.ext (sM a C T dx))) T (.ext (yR T))
abbrev Cx.held(X:Cx)(v:Value):Cx:={ X with A:=X.A.mark (some v),calm:=false }
theorem Cx.Ok.held{X:Cx}(ok:X.Ok)(v:Value):(X.held v).Ok :=
 ⟨ok.mod,ok.kind,ok.glob,ok.blt,ok.above,ok.inj,ok.has,ok.Lr,(λz=>by cases z),ok.frames,ok.stk,ok.Pb,ok.bs,ok.C0,ok.yf,ok.yg,ok.kX,ok.FQ⟩
section
variable {X:Cx} {pins:List (Addr×Obj)} {σ:St} {H:Hp} {s:Shared} {v:Value}
theorem Inv.held(I:Inv X pins σ H s)(v:Value):Inv (X.held v) pins σ H s:=⟨I.ok.held v,I.os,I.bare,I.base,I.loc,I.cell,I.free,I.fu,I.pin,I.hok,I.len⟩
theorem Inv.Iw(ok:X.Ok)(I:Inv (X.held v) pins σ H s):Inv X pins σ H s:=⟨ok,I.os,I.bare,I.base,I.loc,I.cell,I.free,I.fu,I.pin,I.hok,I.len⟩
end
theorem mO(h1:b≠a)(h2:b≠T):oX H a C T dx b=H b:=by unfold oX;rw[ao h2,ao h1]
theorem wH:oX H a C T dx T=some (.ext (yR T)):=by unfold oX;exact az
theorem wI(h:T≠a):oX H a C T dx a=some (.ext (sM a C T dx)):=by unfold oX;rw[ao (Ne.symm h),az]
section
variable {X:Cx} {pins:List (Addr×Obj)} {σ:St} {H:Hp} {s s':Shared} {E:XK} {M:Model} {Ex:Value->Shared->Prop}
theorem Iz{e:Value}{Q:Value->Shared->Prop}(hst:X.stack=X.env::X.outer)(hfm:X.env.frame=some X.env.locals)(I:Inv X pins σ H s)(c:mL X.prog X.w X.stack H s E e s')
  (h:∀a C T dx H' s3,E (.ref C) (some dx) H'->H' a=none->H' T=none->T≠a->Inv X pins σ (oX H' a C T dx) s3->Q (.ref a) s3) :
  wpAny M X.A (noteFrame e X.env) (λ_ s2=>wpAny M X.A (setFlight e none) (λ_ s3=>Q e s3) Ex s2) Ex s':=by
 obtain⟨a,dx,C,T,H',rfl,hos,hbare,un,hok,F,na,nT,q⟩:=c;have st:s.heap.FunFrames X.base (X.env::X.outer):=by rw[<-hst];exact I.stack
 have un':Un (frs (X.env::X.outer)) [] H H' s.heap s'.heap:=by rw[<-hst];exact un
 have fre:∀b∈frs (X.env::X.outer),H b=none:=by rw[<-hst];exact I.j3
 have ne:∀b o,s.heap.get? b=some o->b≠a/\b≠T:=λb o z=>⟨(λy=>by rw[y,na]at z;cases z),(λy=>by rw[y,nT]at z;cases z)⟩;refine AB (P:=X.prog) (w:=X.w) (H:=H') hok (by rw[I.ok.frames,hst]) (iL un' fre st) hfm F λh' T' F' QM kp sl th=>?_;have neT:∀b o,s.heap.get? b=some o->b≠T':=λb o z y=>by
  rcases QM with w|w
  ·exact(ne b o z).2 (y.trans w)
  ·obtain⟨o',z2⟩:=un'.there b o z (by simp);rw[y,w]at z2;cases z2
 have out:∀b u,H' b=some u->oX H' a C T' dx b=some u:=λb u z=>by
  rw[mO (λy=>by rw[y,F'.fa]at z;cases z) λy=>by rw[y,F'.fT]at z;cases z];exact z
 have nf:∀b u,H' b=some u->b∉frs (X.env::X.outer):=λb u z y=>by
  obtain⟨o,z1,_⟩:=bP st b y;have:=un'.free b o z1 (fre b y) (by simp);rw[this]at z;cases z
 have kk:∀c u ob,H' c=some u->s'.heap.get? c=some ob->h'.get? c=some ob:=λc u ob z z2=>
  kp c ob (λy=>by rw[y,F.fT]at z;cases z) (λy=>by rw[y,F.fa]at z;cases z) (nf c u z) z2
 have QO:iw X.prog X.w (oX H' a C T' dx) h':=λb o z=>by
  by_cases cT:b=T'
  ·subst cT;rw[wH]at z;cases z;obtain⟨oT,ts,g1,g2,g3⟩:=F'.tb;exact Ge ⟨oT,ts,g1,g2,(Xg.mp g3).1⟩
  by_cases ca:b=a
  ·subst ca;rw[wI F'.ne]at z;cases z;obtain⟨oe,vs,a0,e1,e2,e3,e4,e5,e6⟩:=F'.ob;exact MN ⟨oe,vs,e1,e2,e3,e4,e6⟩
  rw[mO ca cT]at z;exact(hok b o z).stay (λc u y z2=>by
   rcases y with rfl|y
   ·exact kk _ _ _ z z2
   ·exact kk _ _ _ y z2) (λ_ y=>out _ _ y) λ_ _ y=>out _ _ y
 refine h a C T' dx H' _ q F'.fa F'.fT F'.ne (I.FT (ch:=[]) (s':={ s' with heap:=h' }) hos ?_ QO hbare λb z=>absurd z (by simp));rw[hst];refine⟨λb o z nb nf _=>?_,λb o z nb nf _=>?_,λb o z nb _=>?_,λb o z _=>?_,λb xs z=>out _ _ (un'.tups b xs z),λb o u z=>out _ _ (un'.frzs b o u z),λb ps z=>?_⟩
 ·exact kp b o (ne b o z).2 (ne b o z).1 nf (un'.keep b o z nb nf (by simp))
 ·obtain⟨DS,z1⟩:=un'.slot b o z nb nf (by simp);obtain⟨sl2,z2⟩:=sl b _ nf z1;exact⟨sl2,z2⟩
 ·rw[mO (ne b o z).1 (neT b o z)];exact un'.free b o z nb (by simp)
 ·obtain⟨o1,z1⟩:=un'.there b o z (by simp);exact th b o1 z1
 ·obtain⟨m1,z1⟩:=un'.j0 b ps z;exact⟨m1,out _ _ z1⟩
theorem again(ne:T≠a)(I:Inv X pins σ (oX H a C T dx) s)(h:∀s',Inv X pins σ (oX H a C T dx) s'->Q () s'):wpAny M A (setFlight (.ref a) none) Q Ex s:=by
 obtain⟨⟨oe,vs,e1,e2,e3,e4,e5⟩,_⟩:=I.hok a _ (wI ne);obtain⟨⟨oT,ts,g1,g2,g3⟩,_⟩:=I.hok T _ wH;refine wpAny_setFlight_none e1 e4 e5 g1 g2 g3 (h _ ?_);have gT:=WB (Obj.mapFields (·.setIfInBounds 3 Value.none)) g1 (Xh (WG g2 (·.setIfInBounds 3 Value.none)));have same:upd (oX H a C T dx) T (.ext (yR T))=oX H a C T dx:=by
  funext b
  by_cases c:b=T
  ·subst c;rw[az,wH]
  ·rw[ao c]
 have:=I.write (x:=T) (e:=T) (o:=.ext (yR T)) (h':=s.heap.update T (Obj.mapFields (·.setIfInBounds 3 Value.none))) (t':=s.toks) (by rw[wH];exact Xe) (.inl rfl) (λb u hb z=>(WW _ _ (Ne.symm hb)).trans z) ⟨_,gT⟩
  (Ge ⟨_,_,gT,WG g2 _,by rw[Array.size_setIfInBounds];exact g3⟩)
 rw[same]at this;exact this
theorem goes{i:Nat}(hN:X.N.Nodup)(hi:X.N[i]?=some n)(hk:X.env.scope.names.lookup n=some .local)(I:Inv X pins σ H s)(h:∀s',Inv X pins (σ.set i none) H s'->Q () s') :
  wpAny M A (do bindName X.env n .none;unbindBehindTheSuite X.env n pos) Q Ex s:=by
 obtain⟨m,hn,hl⟩:=id I.loc;have hcls:(X.env.scope.kind==.class||(X.env.scope.kind==.module&&X.env.locals != X.env.globals))=false:=by rw[I.ok.kind];rfl
 have Pc:i < σ.length:=by rw[I.len];exact(V4.mp hi).1
 have cne:=I.cne;refine wpAny_nameGoes_keeps hk hn hcls λh' v hn' hs=>?_;obtain⟨oL,_,_,R8,_⟩:=id hn;have tracked:iw X.prog X.w H h':=λb ob e=>by
  refine(I.hok b ob e).stay (λc w' hc q=>(hs.2 c ?_).trans q) (λ_ q=>q) λ_ _ q=>q;rintro rfl
  rcases hc with hc|hc
  ·rw[<-hc,I.free]at e;cases e
  ·rw[I.free]at hc;cases hc
 refine h _ ⟨I.ok,I.os,I.bare,⟨λb o e n hb hx=>?_,λb o e n hb hx=>?_,I.base.free,λb o e hx=>?_,I.base.tups,I.base.frzs,I.base.j0⟩,⟨_,hn',λj y v' e1 e2 e3=>?_⟩,λy c e=>?_,I.free,I.fu,λp hp=>?_,tracked,by simpa using I.len⟩
 ·exact(hs.2 b (Wj (Wc (Wa e) I.ok.above))).trans (I.base.keep b o e n hb hx)
 ·obtain⟨sl,e1⟩:=I.base.slot b o e n hb hx;exact⟨sl,(hs.2 b (Wj (Wc (Wa e) I.ok.above))).trans e1⟩
 ·obtain⟨o',e1⟩:=I.base.there b o e hx;exact⟨o',(hs.2 b (Wj (Wc (Wa e) I.ok.above))).trans e1⟩
 ·by_cases hj:j=i
  ·subst hj;rw[Wh Pc]at e2;cases e2
  ·rw[V7 (Ne.symm hj)]at e2
   obtain⟨u',r',q⟩:=hl j y v' e1 e2 e3;refine⟨u',r',?_⟩
   rcases q with ⟨k,e⟩|⟨k,c,e,z⟩
   ·refine .inl ⟨k,?_⟩;have:y≠n:=λe=>hj (mX hN e1 (e▸hi));simp[this,e]
   ·exact .inr ⟨k,c,e,z.sameBut hs (cne y c e)⟩
 ·obtain⟨w',z⟩:=I.cell y c e;exact⟨w',z.sameBut hs (cne y c e)⟩
 ·obtain⟨e,n,ne,nf,d⟩:=I.pin p hp;exact⟨(hs.2 p.1 ne).trans e,n,ne,nf,d⟩
end
def DW(K:Frag)(C:Addr):Prop:=∃nm q N bs bm hdct sn sub ab col dd k0 k1 k2 k3 k5 newId,K.lookup C=some (excClassObj nm q C N bs bm hdct sn sub ab col dd k0 k1 k2 k3 k5 newId)/\bm.contains (.type "BaseException")=true
def QS(sp:Sp)(C:Addr)(i:Nat)(t:TA)(u:TS):TS:=λD σ H=>t σ H λvs H1=>sp vs H1 (λ_ H2=>D.nx σ H2) λc d H'=>∃dx,c=.ref C/\d=some dx /\
 ∀a T,H' a=none->H' T=none->T≠a->u { nx:=λσ' H2=>D.nx (σ'.set i none) H2,rt:=λ_ _=>False } (σ.set i (some (.ref a))) (oX H' a C T dx)
section
variable {X:Cx} {k:Nat} {f C:Addr} {fd:FuncData} {ps:List Str} {sp:Sp} {x cx n:Str} {p cpos epos cp hp pos:Pos} {e0:Expr} {es:List Expr} {t:TA} {u:TS} {i:Nat} {b0:Stmt} {suite:List Stmt}
theorem ID(hst:X.stack=X.env::X.outer)(hfm:X.env.frame=some X.env.locals)(F:dJ X.prog X.w X.K X.mg X.base (mL X.prog X.w) k f fd ps sp)(hr:cY k X.A)(hg:Gl X x)(hm:X.mg x=some (.ref f))(hk:keepIn X.K (.ref f)=true)(hb:Binds X.K fd ps [])
  (ha:PA X.CO (e0::es) t) (hdb:(x==("__debug__":Str))=false) (he:starEach (e0::es) X.env=(false,eval e0 X.env)::starEach es X.env) (hpl:(backTo cpos (starEach es X.env)).any (·.1)=false)
  (hs:swapsWith (.Call (.Name x p) (e0::es) [] cpos) none epos.line X.env=pure false)
  (Ur:Gl X cx) (Us:X.mg cx=some (.ref C)) (hdc:(cx==("__debug__":Str))=false) (hC:DW X.K C)
  (hN:X.N.Nodup) (hi:X.N[i]?=some n) (hn:X.env.scope.names.lookup n=some .local)
  (hu:∀a,oM (X.held (.ref a)).CO (b0::suite) u) :
  PS X (.Try [.Expr (.Call (.Name x p) (e0::es) [] cpos) epos] [.ExceptHandler (some (.Name cx cp)) (some n) (b0::suite) hp] [] [] pos) (QS sp C i t u):=by
 intro pins s σ H D I h;refine wpAny_Try_except (wpAny_execs_cons (wpAny_Expr_any ?_ I.quiet hs));refine WN (ji I hg hm ?_ hdb);refine Yu (h₀:=X.base) I.ok.mod.LL hk (WA (ha cpos pins s σ H _ (I.l8 _) h) (λus s1 ⟨vs,H1,I1,r,q⟩=>⟨I1.kT,?_⟩) λ_ _ z=>False.elim z) he hpl;have I1:=I1.fZ;have hl:us.length=ps.length:=by rw[<-r.length];exact F.len _ _ _ _ q
 have Pp:=hb s1 us I1.kT (by rw[W8];exact hl);rw[W8] at Pp;refine Yg (Xv (F.run X.A X.stack s1 H1 ⟨us,[]⟩ us vs _ _ hr I1.m7 Pp r q) λrr s' hq=>?_);cases rr with
 |ok fl=>
  cases fl with
  |ret v=>obtain⟨y,H2,I2,_,q2⟩:=I1.after hq;exact XM (XM ⟨σ,H2,I2,q2⟩)
  |next=>exact False.elim hq
  |brk=>exact False.elim hq
  |cont=>exact False.elim hq
 |error ev=>
  unfold CR at hq;dsimp only at hq;refine Iz (Q:=λev s3=>wpAny (model X.prog X.w) X.A (handleBy ev X.env [.ExceptHandler (some (.Name cx cp)) (some n) (b0::suite) hp]) (SP X pins D) X.xe s3) hst hfm I1 hq ?_;rintro a C' T dx H' s3 ⟨VT,ec,ed,q3⟩ fa fT ne I3;cases ec;cases ed;have q3:=q3 a T fa fT ne;obtain⟨nm,q,N,bs,bm,hdct,sn,sub,ab,col,dd,k0,k1,k2,k3,k5,newId,lc,hbase⟩:=hC;have J3:=I3.held (.ref a);refine wpAny_handleBy_cons (codeAny_handlers_test (ji J3 Ur Us ?_ hdc)) (by intro q;cases q);obtain⟨⟨oe,vs',e1,e2,e3,e4,e5⟩,_⟩:=I3.hok a _ (wI ne);obtain⟨hh,g,d,tk,os⟩:=s3;refine wpAny_excMatches_sub_self (I3.kT _ _ lc) e1 e2 hbase (codeAny_handlers_suite_as ?_);refine again ne J3 λs4 J4=>?_;refine mY (X:=X.held (.ref a)) J4 hN hi (.inl hn) (show RelV (.ref a) (.ref a) from rfl) (λs5 J5=>?_) (.inr hn);refine WA (hu a pins s5 _ _ _ (J5.l8 _) q3) (λfl s6 z=>?_) λ_ _ z=>False.elim z;cases fl with
  |next=>obtain⟨σ',H2,I6,q6⟩:=z;have I6:Inv X pins σ' H2 s6:=Inv.Iw I.ok I6.fZ;exact goes hN hi hn I6 λs7 I7=>⟨_,H2,I7,q6⟩
  |ret v=>obtain⟨_,_,_,_,_,z⟩:=z;exact False.elim z
  |brk=>obtain⟨_,_,_,z⟩:=z;exact False.elim z
  |cont=>obtain⟨_,_,_,z⟩:=z;exact False.elim z
end
def gaOf(x:Addr)(name:Str)(tk:Tok):Sem Fin:=PySem.Builtin.«object.__getattribute__» (Args.mk [.ref x,.str name tk] [])
def wJ(P:Value->Shared->Prop)(fin:Fin)(s:Shared):Prop:=match fin with|.done (.ret v)=>P v s|_=>False
section
variable {prog:Program} {w:World} {A:Around} {E:Value->Shared->Prop} {s:Shared} {K:Frag} {x C:Addr} {ox:Obj} {od:Option Obj} {name:Str}
theorem getx_by{fill expr:Bool}(X:K.In s.heap)(I:PySem.W.InstAt s.heap x ox C od)(hga:findIn K (.ref C) "__getattribute__" = some (some (.builtin "BaseException.__getattribute__")))
  (Ut:findIn K (.ref C) "__getattr__" = some none) (hm:PySem.W.mroIn K C (.type "BaseException")=some true)
  (h:∀A',wpAny (model prog w) A' (gaOf x name tk) (wJ λv s'=>wpAny (model prog w) A (handedOut v) Q E s') (λ_ _=>False) s) :
  wpAny (model prog w) A (getAttrBy (.ref x) (.str name tk) fill expr) Q E s:=by
 obtain⟨hh,g,d,t,os⟩:=s;have L0:=I.type (M:=model prog w);have L1:=XD (M:=model prog w) X hga;have L2:=XD (M:=model prog w) X Ut;have sub:PySem.W.Looks (model prog w) hh (isInstance (.ref x) (.type "BaseException")) true:=I.type.andThen (looks_mroIn X hm);have hx2:(Value.builtin "BaseException.__getattribute__" == Value.builtin "object.__getattribute__")=false:=by decide +kernel
 have hx1:¬ ((onTheHeap (Value.ref C)&&Value.builtin "BaseException.__getattribute__" == Value.builtin "object.__getattribute__")=true):=by rw[hx2];simp
 have hx0:¬ ((expr&&onTheHeap (Value.builtin "BaseException.__getattribute__"))=true):=by cases expr<;>simp[onTheHeap]
 have f3:=(PySem.F.attr_ValueError).ga.bind (.ref x);unfold getAttrBy;refine WI (VZ (L0.at (VZ (L1.at ?_))));dsimp only;rw[We hx1];unfold getAttrByItsOwn hookBefore;refine VZ ?_;show wpAny _ _ (typeLookup (.ref C) "__getattr__") _ _ _;refine L2.at (VZ (YF (WI ?_)));unfold callGetattribute;rw[We hx0];unfold boundAndCalled;rw[f3];refine VZ (V6 (Yg ?_));have hk:builtinKind "BaseException.__getattribute__" = some .slot:=by decide +kernel
 have hsp:splitId "BaseException.__getattribute__" = some ("BaseException","__getattribute__"):=by decide +kernel
 refine Ym (PySem.F.attr_ValueError).ga.plain F.entry_bexc_ga (@PySem.W.check_slot (model prog w) _ _ _ "BaseException.__getattribute__" "BaseException" "__getattribute__" (.ref x) [.str name tk] [] _ hk hsp sub (F.args_bexc_ga _ _) ?_);refine WA (show wpAny _ _ (PySem.Builtin.«object.__getattribute__» (Args.mk [.ref x,.str name tk] [])) _ _ _ from h _) (λfin s' z=>?_) λ_ _ z=>z.elim;unfold wJ at z
 rcases fin with (_|_|_|_)|_<;>first|exact z|exact z.elim
theorem AD(X:K.In s.heap)(I:PySem.W.InstAt s.heap x ox C od)(hf:findObj K C od name=some (.value v))(h:P v s):wpAny (model prog w) A' (gaOf x name tk) (wJ P) E s:=by
 obtain⟨hh,g,d,t,os⟩:=s;have L0:=I.type (M:=model prog w);have L1:=looks_find (M:=model prog w) X I hf;unfold gaOf Builtin.«object.__getattribute__»;refine VZ (V6 ?_);refine VZ (V6 ?_);refine VZ (L0.at (VZ (L1.at ?_)));exact V6 h
theorem DX{g0 a0:Value}(X:K.In s.heap)(I:PySem.W.InstAt s.heap x ox C od)(hf:findObj K C od name=some (.bind g0 a0))(h:wpAny (model prog w) A' (call g0 [a0,.ref x,.ref C]) P E s):wpAny (model prog w) A' (gaOf x name tk) (wJ P) E s:=by
 obtain⟨hh,g,d,t,os⟩:=s;have L0:=I.type (M:=model prog w);have L1:=looks_find (M:=model prog w) X I hf;unfold gaOf Builtin.«object.__getattribute__»;refine VZ (V6 ?_);refine VZ (V6 ?_);refine VZ (L0.at (VZ (L1.at ?_)));show wpAny _ _ (holding [a0] (call g0 [a0,.ref x,.ref C]) >>= ret) _ _ _;exact VZ (WI (WA h (λv s' z=>V6 z) λ_ _ z=>z))
end
structure vt (K:Frag) (C:Addr):Prop where
 ga:findIn K (.ref C) "__getattribute__" = some (some (.builtin "BaseException.__getattribute__"))
 gn:findIn K (.ref C) "__getattr__" = some none
 mb:PySem.W.mroIn K C (.type "BaseException")=some true
 hd:hasDictIn K C=true
 ha:findIn K (.ref C) "__class__" = some (some (.builtin "object.__class__"))
 hn:specialIn K (.builtin "object.__class__") "__get__" = some (some (.builtin "getset_descriptor.__get__"))
 htk:takesIn K (.builtin "object.__class__")=some true
 hm:PySem.W.mroIn K C (.type "object")=some true
section
variable {prog:Program} {w:World} {A:Around} {E:Value->Shared->Prop} {s:Shared} {K:Frag} {x C:Addr} {ox od:Obj} {name:Str}
theorem QT{expr:Bool}(X:K.In s.heap)(I:PySem.W.InstAt s.heap x ox C (some od))(G:vt K C)(hn:findIn K (.ref C) name=some none)(hl:lookIn name od=some (some v))(hv:handedIn v=true)(h:Q v { s with toks:=s.toks+1 }) :
  wpAny (model prog w) A (getAttr (.ref x) name expr) Q E s:=by
 obtain⟨hh,g,d,t,os⟩:=s;unfold getAttr;refine VZ (wpAny_mkText (getx_by (K:=K) X I G.ga G.gn G.mb λA'=>AD X I (PySem.W.findObj_own G.hd hn rfl hl) ?_));rw[PySem.W.handedOut_of hv];exact V6 h
theorem AE(X:K.In s.heap)(I:PySem.W.InstAt s.heap x ox C (some od))(G:vt K C)(h:Q (some (.ref C)) { s with toks:=s.toks+1 }) :
  wpAny (model prog w) A (getAttr? (.ref x) "__class__") Q E s:=by
 have hf:findObj K C (some od) "__class__" = some (.bind (.builtin "getset_descriptor.__get__") (.builtin "object.__class__")):=PySem.W.findObj_data (by obtain⟨cd,hc,_⟩:=YI G.hd;rw[hc];rfl) G.ha G.hn G.htk;obtain⟨hh,g,d,t,os⟩:=s;unfold getAttr? getAttrBy?;refine VZ (wpAny_mkText (VZ (YF (getx_by (K:=K) X I G.ga G.gn G.mb λA'=>DX X I hf ?_))));refine Yg (PySem.W.class_get (ox:=ox) (od:=some od) X I G.hm ?_);refine V6 ?_;exact V6 h
theorem sO(G:vt K C):PySem.W.KitX K (.ref x) (.ref C) (λh=>∃ox od,PySem.W.InstAt h x ox C (some od)) where
 ty:=λ_ _ _ ⟨_,_,I⟩=>I.type
 it:=λ_ _ X _=>by
  obtain⟨cdD,DQ,_⟩:=YI G.hd;unfold PySem.W.clsIn at DQ;split at DQ
  ·rename_i c' d' Uu LN ho;intro A' Q' E' s' k q;unfold isType loadHead;exact VZ (wpAny_loadPart (k _ _ (X _ _ ho)) (V6 q))
  ·cases DQ
 ne:=λh tp dd its n sl X htp=>by
  obtain⟨cdD,DQ,_⟩:=YI G.hd;refine Bool.eq_false_iff.mpr λq=>?_;have e:C=tp:=Value.ref.inj (beq_iff_eq.mp q);subst e;unfold PySem.W.clsIn at DQ;split at DQ
  ·rename_i c' d' Uu LN ho;have z:=(X _ _ ho).symm.trans htp;cases z
  ·cases DQ
 ca:=λX ⟨_,_,I⟩ k=>AE X I G k
end
section
variable {X:Cx} {pins:List (Addr×Obj)} {σ:St} {H:Hp} {s:Shared} {A:Around} {E:Value->Shared->Prop} {e:Expr} {f:Str} {pos:Pos} {ta:TE}
theorem qR(I:Inv X pins σ H s)(ha:H a=some (.ext (sM a C T dx)))(hd:H dx=some (.xd fs)) :
  ∃ox od,PySem.W.InstAt s.heap a ox C (some od)/\∀f v,fs.lookup f=some v->∃u,RelV v u/\lookIn f od=some (some u):=by
 obtain⟨⟨oe,vs,e1,e2,e3,e4,e5⟩,_⟩:=I.hok a _ ha;obtain⟨mA,n,r⟩:=I.hok dx _ hd;obtain⟨od,ho,hl⟩:=yq n;refine⟨oe,od,⟨e1,e2,by unfold notCls;rw[e4],by rw[e3];exact ho⟩,λf v z=>?_⟩;obtain⟨u,hu,ru⟩:=jZ.some_of (v:=v) (o:=mA f) (by rw[<-z];exact r f);exact⟨u,ru,by rw[hl,hu]⟩
def tXf(K:Frag)(ta:TE)(f:Str):TE:=λσ H Q=>ta σ H λx H1=>∃a C T dx fs v,x=.ref a/\H1 a=some (.ext (sM a C T dx))/\H1 dx=some (.xd fs)/\vt K C/\findIn K (.ref C) f=some none/\fs.lookup f=some v/\Q v H1
theorem pe_xf(he:PE X e ta)(hb:attributeBase e f X.env (eval e X.env)=eval e X.env):PE X (.Attribute e f pos) (tXf X.K ta f):=by
 intro pins s σ H Q I h;refine attr_of hb (cu (he pins s σ H _ I h) λu s1 aJ=>?_);obtain⟨x,H1,I1,rx,a,C,T,dx,fs,v,ex,ea,ed,G,n,l,q⟩:=aJ;subst ex;obtain rfl:u=Value.ref a:=rx;obtain⟨ox,od,J,hv⟩:=qR I1 ea ed;obtain⟨u',ru,hl⟩:=hv f v l;exact QT I1.kT J G n hl (yr ru) ⟨v,H1,I1.tok _,ru,q⟩
theorem sP:∀{cs:List Addr} {its:List Value},Vals (cs.map V.ref) its->its=cs.map Value.ref
 |[],_,.nil=>rfl
 |_::_,_,.cons a b=>by rw[sP b];cases (show _=Value.ref _ from a);rfl
def QU(K:Frag)(H:Hp)(x:V)(C:Addr):Prop:=∃a T dx fs,x=.ref a/\H a=some (.ext (sM a C T dx))/\H dx=some (.xd fs)/\vt K C
theorem sQ:bN X (.builtin "isinstance") (λxs H Q=>∃(x c:V) (cv:Value) (C:Addr) (b:Bool),xs=[x,c]/\(∀u,RelV c u->u=cv)/\QU X.K H x C/\kitOne X.K (.ref C) cv=some b/\Q (.bl b) H):=by
 intro pins s σ H xs us Q I r h;obtain⟨x,c,cv,C,b,rfl,hc,⟨a,T,dx,fs,rfl,ea,ed,G⟩,e,q⟩:=h;obtain⟨u,w',rfl,r1,r2⟩:=vals2 r;obtain rfl:u=Value.ref a:=r1;obtain rfl:=hc _ r2;obtain⟨ox,od,J,_⟩:=qR I ea ed;exact W2 (sO G) I.kT ⟨ox,od,J⟩ e (λz=>nomatch z) λtk=>⟨.bl b,H,I.tok _,rfl,q⟩
theorem AF:bN X (.builtin "isinstance") (λxs H Q=>∃(x:V) (tp:Addr) (cs:List Addr) (C:Addr) (b:Bool),xs=[x,.ref tp]/\H tp=some (.tup (cs.map V.ref))/\QU X.K H x C/\kitAny X.K (.ref C) (cs.map Value.ref)=some b/\Q (.bl b) H):=by
 intro pins s σ H xs us Q I r h;obtain⟨x,tp,cs,C,b,rfl,et,⟨a,T,dx,fs,rfl,ea,ed,G⟩,e,q⟩:=h;obtain⟨u,w',rfl,r1,r2⟩:=vals2 r;obtain rfl:u=Value.ref a:=r1;obtain rfl:w'=Value.ref tp:=r2;obtain⟨ox,od,J,_⟩:=qR I ea ed;obtain⟨_,its,hi,o,h1,h2,n,h3⟩:=(show bx X.prog X.w H s.heap tp (.tup (cs.map V.ref)) from I.hok tp _ et);have ei:=sP hi;subst ei;obtain⟨oc,odd,Pq,osl⟩:=o;obtain rfl:oc=_:=h2;obtain rfl:Pq=_:=h3;exact PySem.W.kia_tup (sO G) I.kT ⟨ox,od,J⟩ h1 e (λz=>nomatch z) λtk=>⟨.bl b,H,I.tok _,rfl,q⟩
end
section
variable {K:Frag} {C D:Addr} {o:Obj} {nm q:Str} {N:Addr} {bs bm:List Value} {hdct:Bool} {sn:List Str} {sub:List Value} {ab:Bool} {col:Option Bool} {dd:Option Addr} {k0 k1 k2 k3 k5:Option Value} {newId:String}
theorem excOb(h:K.lookup C=some o)(e:o=excClassObj nm q C N bs (.ref D::VB) hdct sn sub ab col dd k0 k1 k2 k3 k5 "ValueError.__new__"):∃nm q N bs hdct sn sub ab col dd k0 k1 k2 k3 k5,K.lookup C=some (excClassObj nm q C N bs (.ref D::VB) hdct sn sub ab col dd k0 k1 k2 k3 k5 "ValueError.__new__") :=
 ⟨nm,q,N,bs,hdct,sn,sub,ab,col,dd,k0,k1,k2,k3,k5,by rw[h,e]⟩
theorem excNe(h:K.lookup C=some o)(e:o=excClassObj nm q C N bs bm hdct sn sub ab col dd k0 k1 k2 k3 k5 newId)(b:bm.contains (.type "BaseException")=true):DW K C :=
 ⟨nm,q,N,bs,bm,hdct,sn,sub,ab,col,dd,k0,k1,k2,k3,k5,newId,by rw[h,e],b⟩
def MO(es:Array DictEntry):Bool:=es.toList.all λe=>match e.key with|.str _ _=>true|_=>false
theorem excUp{c0 c1:Value}{d0 d1:Option Addr}{sl DS:Array (Option Value)}{ep:Nat}{o1 o2:Obj}(h1:K.lookup D=some o1)(e1:o1=⟨c0,d0,.cls cdD,sl⟩)(h2:K.lookup cdD.ns=some o2)(e2:o2=⟨c1,d1,.dict es ep,DS⟩)(h3:MO es=true)(h4:nsFind es "__init__" = none) :
  ∃c0 dd cdD sl c1 d1 es ep DS,K.lookup D=some ⟨c0,dd,.cls cdD,sl⟩/\K.lookup cdD.ns=some ⟨c1,d1,.dict es ep,DS⟩/\StrKeys es/\nsFind es "__init__" = none:=by
 refine⟨c0,d0,cdD,sl,c1,d1,es,ep,DS,by rw[h1,e1],by rw[h2,e2],λe he=>?_,h4⟩;unfold MO at h3;rw[YJ]at h3;have:=h3 e (by simpa using he);split at this
 ·rename_i x t hk;first|exact⟨x,t,hk⟩|exact⟨x,hk⟩|(rw[hk];rfl)|simp[hk]
 ·cases this
end
end L2
end
section
namespace Hv
open PySem L2 PyProof.Rows
inductive Val
 |non|bl (b:Bool)|int (i:Int)|str (x:Str)|tup (vs:List Val)|rl (vs:List Val)|dc (ks:List Key) (vs:List Val)|ob (c:Nat) (xs:List Str) (vs:List Val)|ref (i:Nat)
inductive Ob
 |lst (xs:List Val)|dct (kvs:List (Key×Val))|ins (c:Nat) (fs:List (Str×Val))
abbrev Hs:=List Ob
inductive Out (α:Type)
 |ok (a:α) (h:Hs)|exc (c:Nat) (vs:List Val) (h:Hs)|no
abbrev M(α:Type):=Hs->Out α
def ret{α:Type}(a:α):M α:=λh=>.ok a h
def bnd{α β:Type}(m:M α)(f:α -> M β):M β:=λh=>match m h with
 |.ok a h'=>f a h'
 |.exc c vs h'=>.exc c vs h'
 |.no=>.no
def aT{α:Type}(o:Option α):M α:=λh=>match o with
 |some a=>.ok a h
 |none=>.no
def ask{α:Type}(f:Hs->Option α):M α:=λh=>aT (f h) h
def new(o:Ob):M Val:=λh=>.ok (.ref h.length) (h++[o])
def put(i:Nat)(o:Ob):M Unit:=λh=>.ok () (h.set i o)
def bX{α β:Type}(f:α -> Option β):List α -> Option (List β)
 |[]=>some []
 |a::r=>(f a).bind λb=>(bX f r).bind λbs=>some (b::bs)
inductive Gf|add|sub|mul|fdiv|mod|pow
 deriving DecidableEq
inductive IF|eq|ne|lt|le|gt|ge|isn|ntn|LA|nin
 deriving DecidableEq
inductive Bl|len|min|max|sorted|list|tuple|str|int|all|any|isin (T:String)
 deriving DecidableEq
inductive Me|join|append|extend|remove
 deriving DecidableEq
inductive uJ|one (i:Nat)|tup (is:List Nat)
 deriving DecidableEq
inductive Ik|seq|range|enum|zip
 deriving DecidableEq
mutual
inductive IE
 |var (i:Nat)|cst (d:Val)|con (x:Str) (d:Val)|no
 |bin (o:Gf) (a b:IE)|neg (a:IE)|cmp (o:IF) (a b:IE)|chn (o p:IF) (a b c:IE)
 |and (a b:IE)|or (a b:IE)|not (a:IE)|ite (c a b:IE)
 |tup (es:jz)|lst (es:jz)|idx (a b:IE)|slc (a lo hi:IE)
 |call (j:Nat) (es:jz)|blt (b:Bl) (es:jz)|met (m:Me) (a:IE) (es:jz)
 |comp (N:List Str) (js:List (Option Nat)) (pat:uJ) (k:Ik) (it:jz) (c elt:IE)
 |dct0
 |sset (a:IE)
 |dget (d k x:IE)
 |dct1 (k v:IE)
 |lkeys (d:IE)
 |sdef (d k x:IE)
 |svals (d:IE)
 |skeys (d:IE)
 |fld (n:Nat) (a:IE) (x:Str)
 |mth (a:IE) (m:Str) (js:List (Nat×Nat)) (es:jz)
 |rev (a s:IE)
 |dflt (N:List Str) (js:List (Option Nat)) (p q:Nat) (d w:IE)
 |isc (a:IE) (x:Str) (bs:List Bool)
inductive jz|nil|cons (e:IE) (es:jz)
end
abbrev Env:=List (Option Val)
mutual
inductive IS
 |expr (e:IE)|asg (p:uJ) (e:IE)|aug (i:Nat) (o:Gf) (e:IE)|mz (o i v:IE)
 |iff (c:IE) (a b:eT)|for (p:uJ) (k:Ik) (it:jz) (body:eT)|whl (n:Nat) (c:IE) (body:eT)
 |ret (e:IE)|AG|brk|cnt|pass|never|setF (n:Nat) (a:IE) (x:Str) (v:IE)
inductive eT|nil|cons (s:IS) (r:eT)
end
def ay(h:Hs):Val->Option (List Val)
 |.rl vs=>some vs
 | .ref i=>match h[i]? with
  |some (.lst xs)=>some xs
  |_=>none
 |_=>none
def cC(h:Hs):Val->Option (List Val)
 |.tup vs=>some vs
 |v=>ay h v
def sS(h:Hs):Val->Option (List Val)
 |.tup vs=>some vs
 |.ref i=>ay h (.ref i)
 |_=>none
def aS:List Val->Option (List Int):=bX λv=>match v with
 |.int i=>some i
 |_=>none
def dO:List Val->Option (List Bool):=bX λv=>match v with
 |.bl i=>some i
 |_=>none
def jJ:List Val->Option (List (List Int)):=bX λv=>match v with
 |.tup vs=>if vs.isEmpty then none else aS vs
 |_=>none
def toD:Nat->Hs->Val->Option PyData
 |0,_,_=>none
 |_+1,_,.non=>some .none
 |_+1,_,.bl b=>some (.bool b)
 |_+1,_,.int i=>some (.int i)
 |_+1,_,.str x=>if PyData.strOk x=true then some (.str x) else none
 |n+1,h,.tup vs=>(bX (toD n h) vs).bind λds=>some (.tuple ds)
 |n+1,h,.rl vs=>(bX (toD n h) vs).bind λds=>some (.list ds)
 |_+1,_,.dc _ _=>none
 |_+1,_,.ob _ _ _=>none
 |n+1,h,.ref i=>(ay h (.ref i)).bind λxs=>(bX (toD n h) xs).bind λds=>some (.list ds)
def zE(h:Hs)(v w:Val):Option Bool:=(toD 16 h v).bind λd=>(toD 16 h w).bind λe=>some (PyData.eqv d e)
def qS(x:List Int):List (List Int)->List (List Int)
 |[]=>[x]
 |y::r=>if HT.lexLt y x=true then y::qS x r else x::y::r
def ko:List (List Int)->List (List Int)
 |[]=>[]
 |x::r=>qS x (ko r)
def jR(ks:List Int):Val:=.tup (ks.map .int)
def fz(xs:List Val):Option (List Val) :=
 if xs.length<64 then
  match aS xs with
  |some ns=>some ((sortI ns).map .int)
  |none=>(jJ xs).bind λmP=>some ((ko mP).map jR)
 else none
def qT:List Int->Option Val
 |[]=>none
 |a::r=>some (.int (r.foldl min a))
def qU:List Int->Option Val
 |[]=>none
 |a::r=>some (.int (r.foldl max a))
def fV(i j:Int):Bool:=(decide (-(2 ^ 64)<i)&&decide (i<2 ^ 64))||(decide (-(2 ^ 64)<j)&&decide (j<2 ^ 64))
def aK{α:Type}(c:Bool)(m:M α):M α:=λh=>if c=true then m h else .no
def oY(b:Int):Bool:=decide (0<b/\b<1606938044258990275541962092341162602522202993782792835301376)
def LB:Gf->Val->Val->M Val
 |.add,.int a,.int b=>ret (.int (a+b))
 |.add,.str a,.str b=>aK (decide (a.length+b.length<=sizeLine)) (ret (.str (a++b)))
 |.add,.tup a,.tup b=>aK (!a.isEmpty&&decide (a.length+b.length<=sizeLine)) (ret (.tup (a++b)))
 |.add,v,w=>bnd (ask λh=>ay h v) λa=>bnd (ask λh=>ay h w) λb=>aK (decide (a.length+b.length<=sizeLine)) (new (.lst (a++b)))
 |.sub,.int a,.int b=>ret (.int (a-b))
 |.mul,.int a,.int b=>aK (fV a b) (ret (.int (a*b)))
 |.fdiv,.int a,.int b=>aK (oY b) (ret (.int (a/b)))
 |.mod,.int a,.int b=>aK (decide (0<b)) (ret (.int (a%b)))
 |.pow,.int a,.int b=>aK (decide (0<=b/\b<=1000000/\a.natAbs<2 ^ 64)) (ret (.int (a ^ b.toNat)))
 |_,_,_=>aT none
def nG:Val->Bool
 |.non=>true
 |_=>false
def bY(kvs:List (Key×Val))(k:Key):Option Val:=(kvs.find? λkv=>decide (kv.1=k)).map (·.2)
def kq(kvs:List (Key×Val))(k:Key)(v:Val):List (Key×Val) :=
 if (kvs.any λkv=>decide (kv.1=k))=true then kvs.map (λkv=>if kv.1=k then (kv.1,v) else kv) else kvs++[(k,v)]
def keyOf:Val->Option Key
 |.int i=>some (.inl i)
 |.str x=>some (.inr x)
 |_=>none
def MP(f d:PyData):Option Bool:=match f with
 |.list ds=>some (ds.any λy=>PyData.eqv y d)
 |.tuple ds=>some (ds.any λy=>PyData.eqv y d)
 |_=>none
def memD(h:Hs)(v w:Val):Option Bool:=(toD 16 h w).bind λf=>(toD 16 h v).bind λd=>MP f d
def sU(h:Hs)(v w:Val):Option Bool:=memD h v w
def Gg(v w:Val):Option Bool:=match w with
 |.non=>some (nG v)
 | .bl b=>(match v with
  |.bl a=>some (a==b)
  |_=>none)
 |_=>none
def cop(h:Hs):IF->Val->Val->Option Bool
 |.eq,v,w=>zE h v w
 |.ne,v,w=>(zE h v w).map (!·)
 |.lt,.int a,.int b=>some (decide (a<b))
 |.le,.int a,.int b=>some (decide (a<=b))
 |.gt,.int a,.int b=>some (decide (b<a))
 |.ge,.int a,.int b=>some (decide (b<=a))
 |.isn,v,w=>Gg v w
 |.ntn,v,w=>(Gg v w).map (!·)
 |.LA,v,w=>sU h v w
 |.nin,v,w=>(sU h v w).map (!·)
 |_,_,_=>none
def cG(h:Hs):Val->Option Bool
 |.non=>some false
 |.bl b=>some b
 |.int i=>some (i != 0)
 |.str x=>if x.length<=sizeLine then some ((x.length:Int) != 0) else none
 |.tup vs=>some (!vs.isEmpty)
 |.rl vs=>some (!vs.isEmpty)
 |.dc ks _=>some (!ks.isEmpty)
 |.ob _ _ _=>none
 | .ref i=>match h[i]? with
  |some (.lst xs)=>some (!xs.isEmpty)
  |some (.dct xs)=>some (!xs.isEmpty)
  |_=>none
def iM(h:Hs):Val->Val->Option Val
 |.str x,.int i=>if x.length<=sizeLine then (gJ x.cps.toList i).map λc=>.str ⟨[c].toArray⟩ else none
 |.tup vs,.int i=>gJ vs i
 |.rl vs,.int i=>gJ vs i
 | .ref j,.int i=>match h[j]? with
  |some (.dct kvs)=>bY kvs (.inl i)
  |_=>(ay h (.ref j)).bind λxs=>gJ xs i
 | .ref j,.str x=>match h[j]? with
  |some (.dct kvs)=>bY kvs (.inr x)
  |_=>none
 |.dc ks vs,.int i=>bY (ks.zip vs) (.inl i)
 |.dc ks vs,.str x=>bY (ks.zip vs) (.inr x)
 |_,_=>none
def AH(h:Hs)(o:Val):Option Unit:=match o with
 | .ref i=>(match h[i]? with
  |some (.dct _)=>some ()
  |_=>none)
 |.dc _ _=>some ()
 |_=>none
def yS(h:Hs)(o:Val)(k:Key):Option (Option Val):=match o with
 | .ref i=>(match h[i]? with
  |some (.dct kvs)=>some (bY kvs k)
  |_=>none)
 |.dc ks vs=>some (bY (ks.zip vs) k)
 |_=>none
def fh{α:Type}(ds:List α)(lo hi:Option Int):List α:=(ds.drop (HT.dg ds.length 0 lo)).take (HT.dg ds.length ds.length hi-HT.dg ds.length 0 lo)
def oZ(v:Val)(lo hi:Option Int):M Val:=match v with
 |.tup vs=>aK (!(decide (HT.dg vs.length 0 lo=0)&&decide (HT.dg vs.length vs.length hi=vs.length))) (ret (.tup (fh vs lo hi)))
 |v=>bnd (ask λh=>ay h v) λxs=>new (.lst (fh xs lo hi))
def sW(h:Hs):Val->Option String
 |.non=>some "NoneType" | .bl _=>some "bool" | .int _=>some "int" | .str _=>some "str" | .tup _=>some "tuple" | .rl _=>some "list" | .dc _ _=>some "dict" | .ob _ _ _=>none
 | .ref i=>match h[i]? with
  |some (.lst _)=>some "list"
  |some (.dct _)=>some "dict"
  |_=>none
def sX(T:String)(t:String):Option Bool :=
 if ["list","tuple","str","bool","int","dict"].contains T=true then some (decide (T=t\/(T = "int" /\ t = "bool"))) else none
def kr(h:Hs):Val->Option Nat
 |.str x=>if x.length<=sizeLine then some x.length else none
 |.tup vs=>some vs.length
 |.rl vs=>some vs.length
 |.dc ks _=>some ks.length
 | .ref i=>match h[i]? with
  |some (.lst xs)=>some xs.length
  |some (.dct xs)=>some xs.length
  |_=>none
 |_=>none
def blt:Bl->List Val->M Val
 |.len,[v]=>bnd (ask λh=>kr h v) λn=>ret (.int n)
 |.min,[.int a,.int b]=>ret (.int (if b<a then b else a))
 |.max,[.int a,.int b]=>ret (.int (if b>a then b else a))
 |.min,[v]=>bnd (ask λh=>cC h v) λxs=>aT ((aS xs).bind qT)
 |.max,[v]=>bnd (ask λh=>cC h v) λxs=>aT ((aS xs).bind qU)
 |.sorted,[v]=>bnd (ask λh=>ay h v) λxs=>bnd (aT (fz xs)) λys=>new (.lst ys)
 |.list,[v]=>bnd (ask λh=>cC h v) λxs=>new (.lst xs)
 |.int,[.bl b]=>ret (.int (if b=true then 1 else 0))
 |.int,[.int i]=>ret (.int i)
 |.all,[v]=>bnd (ask λh=>ay h v) λxs=>bnd (aT (dO xs)) λbs=>ret (.bl (bs.all id))
 |.isin T,[v]=>bnd (ask λh=>sW h v) λt=>bnd (aT (sX T t)) λb=>ret (.bl b)
 |_,_=>aT none
def met:Me->Val->List Val->M Val
 |.append,.ref i,[v]=>bnd (ask λh=>match h[i]? with|some (.lst xs)=>some xs|_=>none) λxs=>aK (decide (xs.length<sizeLine)) (bnd (put i (.lst (xs++[v]))) λ_=>ret .non)
 |.extend,.ref i,[v]=>bnd (ask λh=>match h[i]? with|some (.lst xs)=>some xs|_=>none) λxs=>bnd (ask λh=>sS h v) λys=>aK (decide (xs.length+ys.length<=sizeLine)) (bnd (put i (.lst (xs++ys))) λ_=>ret .non)
 |.remove,.ref i,[.int k]=>bnd (ask λh=>match h[i]? with|some (.lst xs)=>some xs|_=>none) λxs=>bnd (aT (aS xs)) λks=>aK (decide (k∈ks)) (bnd (put i (.lst (xs.eraseIdx (ks.idxOf k)))) λ_=>ret .non)
 |_,_,_=>aT none
def recv(h:Hs):Me->Val->Option Unit
 |.join,.str _=>some ()
 |.append,.ref i=>match h[i]? with|some (.lst _)=>some ()|_=>none
 |.extend,.ref i=>match h[i]? with|some (.lst _)=>some ()|_=>none
 |.remove,.ref i=>match h[i]? with|some (.lst _)=>some ()|_=>none
 |_,_=>none
inductive Src
 |fix (xs:List Val)|live (i:Nat)|enum (i:Nat)|zip (v w:Val)
def bJ:Nat->List Val->List Val
 |_,[]=>[]
 |i,d::r=>.tup [.int i,d]::bJ (i+1) r
def MQ:List Val->List Val->List Val
 |a::r,b::t=>.tup [a,b]::MQ r t
 |_,_=>[]
def bQ(lo:Int)(n:Nat):List Val:=(List.range n).map λ(i:Nat)=>Val.int (lo+(i:Int))
def inR(i:Int):Bool:=decide (-(2 ^ 62)<=i)&&decide (i<2 ^ 62)
def srcOf:Ik->List Val->Option Src
 |.seq,[.tup vs]=>some (.fix vs)
 |.seq,[.rl vs]=>some (.fix vs)
 |.seq,[.ref i]=>some (.live i)
 |.range,[.int n]=>if inR n then some (.fix (bQ 0 n.toNat)) else none
 |.range,[.int a,.int b]=>if inR a&&inR b then some (.fix (bQ a (b-a).toNat)) else none
 |.enum,[.rl vs]=>some (.fix (bJ 0 vs))
 |.enum,[.ref i]=>some (.enum i)
 |.zip,[v,w]=>some (.zip v w)
 |_,_=>none
def Src.items(h:Hs):Src->Option (List Val)
 |.fix xs=>some xs
 |.live i=>ay h (.ref i)
 |.enum i=>(ay h (.ref i)).map (bJ 0)
 |.zip v w=>(ay h v).bind λxs=>(ay h w).map λys=>MQ xs ys
def bindAll:List Nat->List Val->Env->Option Env
 |[],[],env=>some env
 |i::is,d::ds,env=>bindAll is ds (env.set i (some d))
 |_,_,_=>none
def fB:uJ->Val->Env->Option Env
 |.one i,d,env=>some (env.set i (some d))
 |.tup is,.tup ds,env=>bindAll is ds env
 |_,_,_=>none
def iN(js:List (Option Nat))(env:Env):Env:=js.map λo=>match o with
 |none=>none
 | some j=>match env[j]? with
  |some (some d)=>some d
  |_=>none
def eu(src:Src)(f:Val->M (Option Val)):Nat->Nat->List Val->M (List Val)
 |0,i,acc=>bnd (ask λh=>src.items h) λxs=>aK (decide (xs.length<=i)) (ret acc)
 | n+1,i,acc=>bnd (ask λh=>src.items h) λxs=>match xs[i]? with
  |none=>ret acc
  |some x=>bnd (f x) λo=>eu src f n (i+1) (match o with|some e=>acc++[e]|none=>acc)
def cH:IE->Bool
 |.no=>true
 |_=>false
def iO:Val->Option Int
 |.int i=>some i
 |_=>none
def lU:Val->M Bool
 |.bl b=>ret b
 |_=>aT none
def calm{α:Type}(m:M α):M α:=λh=>match m h with
 |.ok a h'=>.ok a h'
 |.exc _ _ _=>.no
 |.no=>.no
def vv(c:Nat)(g:Str)(vs:List Val):M Val:=λh=>match vs with
 |[.int i]=>.exc c [.str g,.int i] h
 |_=>.no
mutual
noncomputable def aE(Φ:Nat->List Val->M Val):IE->Env->M Val
 | .var i,env=>aT (match env[i]? with
  |some (some d)=>some d
  |_=>none)
 |.cst d,_=>ret d
 |.con _ d,_=>ret d
 |.no,_=>aT none
 |.bin o a b,env=>bnd (aE Φ a env) λx=>bnd (aE Φ b env) λy=>LB o x y
 | .neg a,env=>bnd (aE Φ a env) λx=>match x with
  |.int i=>ret (.int (-i))
  |_=>aT none
 |.cmp o a b,env=>bnd (aE Φ a env) λx=>bnd (aE Φ b env) λy=>bnd (ask λh=>cop h o x y) λt=>ret (.bl t)
 |.chn _ _ _ _ _,_=>aT none
 |.and a b,env=>bnd (aE Φ a env) λx=>bnd (lU x) λt=>if t=true then bnd (aE Φ b env) λy=>bnd (lU y) λu=>ret (.bl u) else ret (.bl false)
 |.or a b,env=>bnd (aE Φ a env) λx=>bnd (lU x) λt=>if t=true then ret (.bl true) else bnd (aE Φ b env) λy=>bnd (lU y) λu=>ret (.bl u)
 |.not a,env=>bnd (aE Φ a env) λx=>bnd (lU x) λt=>ret (.bl (!t))
 |.ite _ _ _,_=>aT none
 |.tup es,env=>bnd (bg Φ es env) λds=>aK (decide (ds.length<=sizeLine)) (ret (.tup ds))
 |.lst es,env=>bnd (bg Φ es env) λds=>aK (decide (ds.length<=sizeLine)) (new (.lst ds))
 |.idx a b,env=>bnd (aE Φ a env) λx=>bnd (aE Φ b env) λy=>ask λh=>iM h x y
 |.slc a lo hi,env=>bnd (aE Φ a env) λx=>bnd (if cH lo=true then ret none else bnd (aE Φ lo env) λv=>bnd (aT (iO v)) λi=>ret (some i)) λl=>
   bnd (if cH hi=true then ret none else bnd (aE Φ hi env) λv=>bnd (aT (iO v)) λi=>ret (some i)) λu=>oZ x l u
 |.call j es,env=>bnd (bg Φ es env) λds=>Φ j ds
 |.blt b es,env=>bnd (bg Φ es env) λds=>blt b ds
 |.met m a es,env=>bnd (aE Φ a env) λx=>bnd (ask λh=>recv h m x) λ_=>bnd (bg Φ es env) λds=>met m x ds
 | .comp _ js pat k it c elt,env=>calm (bnd (bg Φ it env) λits=>bnd (aT (srcOf k its)) λsrc=>bnd (ask λh=>src.items h) λxs=>aK (decide (xs.length<=100000))
   (bnd (eu src (λd=>bnd (aT (fB pat d (iN js env))) λenv'=>bnd (if cH c=true then ret true else bnd (aE Φ c env') λv=>ask λh=>cG h v) λt=>
    if t=true then bnd (aE Φ elt env') λe=>ret (some e) else ret none) xs.length 0 []) λys=>new (.lst ys)))
 |.dct0,_=>new (.dct [])
 |.sset a,env=>bnd (aE Φ a env) λv=>bnd (ask λh=>ay h v) λxs=>bnd (aT (aS xs)) λns=>aK (decide (ns.length<64)) (new (.lst ((sortI (L2.kg [] ns)).map .int)))
 |.dget d k x,env=>bnd (aE Φ d env) λo=>bnd (ask λh=>AH h o) λ_=>bnd (aE Φ k env) λi=>bnd (aT (keyOf i)) λkk=>bnd (aE Φ x env) λz=>bnd (ask λh=>yS h o kk) λr=>ret (r.getD z)
 |.dct1 k v,env=>bnd (aE Φ k env) λx=>bnd (aT (keyOf x)) λkk=>bnd (aE Φ v env) λy=>new (.dct [(kk,y)])
 |.lkeys _,_=>aT none
 |.sdef _ _ _,_=>aT none
 |.svals _,_=>aT none
 |.skeys _,_=>aT none
 |.fld _ _ _,_=>aT none
 |.mth _ _ _ _,_=>aT none
 |.rev _ _,_=>aT none
 |.dflt _ _ _ _ _ _,_=>aT none
 |.isc _ _ _,_=>aT none
noncomputable def bg(Φ:Nat->List Val->M Val):jz->Env->M (List Val)
 |.nil,_=>ret []
 |.cons e es,env=>bnd (aE Φ e env) λd=>bnd (bg Φ es env) λds=>ret (d::ds)
end
inductive Fl
 |nx (env:Env)|rt (v:Val)|bk (env:Env)|ct (env:Env)
def forM(src:Src)(body:Val->Env->M Fl):Nat->Nat->Env->M Fl
 |0,i,env=>bnd (ask λh=>src.items h) λxs=>aK (decide (xs.length<=i)) (ret (.nx env))
 | n+1,i,env=>bnd (ask λh=>src.items h) λxs=>match xs[i]? with
  |none=>ret (.nx env)
  | some x=>bnd (body x env) λf=>match f with
   |.nx env'=>forM src body n (i+1) env'
   |.ct env'=>forM src body n (i+1) env'
   |.bk env'=>ret (.nx env')
   |.rt v=>ret (.rt v)
def sY(o i v:Val):M Unit:=match o with
 | .ref j=>bnd (ask λh=>h[j]?) λob=>match ob,i with
  |.lst xs,.int k=>bnd (aT (wg xs.length k)) λn=>put j (.lst (xs.set n v))
  |.dct kvs,i=>bnd (aT (keyOf i)) λk=>aK (decide (kvs.length<sizeLine)) (put j (.dct (kq kvs k v)))
  |_,_=>aT none
 |_=>aT none
mutual
noncomputable def eV(Φ:Nat->List Val->M Val):IS->Env->M Fl
 |.expr e,env=>bnd (aE Φ e env) λ_=>ret (.nx env)
 |.asg p e,env=>bnd (aE Φ e env) λv=>bnd (aT (fB p v env)) λenv'=>ret (.nx env')
 |.aug _ _ _,_=>aT none
 |.mz o i v,env=>bnd (aE Φ v env) λx=>bnd (aE Φ o env) λy=>bnd (aE Φ i env) λz=>bnd (sY y z x) λ_=>ret (.nx env)
 |.iff c a b,env=>bnd (aE Φ c env) λx=>bnd (ask λh=>cG h x) λt=>if t=true then jA Φ a env else jA Φ b env
 |.for p k it body,env=>bnd (bg Φ it env) λits=>bnd (aT (srcOf k its)) λsrc=>bnd (ask λh=>src.items h) λxs=>
   forM src (λx env=>bnd (aT (fB p x env)) λenv'=>jA Φ body env') xs.length 0 env
 |.whl _ _ _,_=>aT none
 |.ret e,env=>bnd (aE Φ e env) λv=>ret (.rt v)
 |.AG,_=>ret (.rt .non)
 |.brk,env=>ret (.bk env)
 |.cnt,env=>ret (.ct env)
 |.pass,env=>ret (.nx env)
 |.never,_=>aT none
 |.setF _ a _ _,env=>bnd (aE Φ a env) λ_=>aT none
noncomputable def jA(Φ:Nat->List Val->M Val):eT->Env->M Fl
 |.nil,env=>ret (.nx env)
 | .cons s r,env=>bnd (eV Φ s env) λf=>match f with
  |.nx env'=>jA Φ r env'
  |f=>ret f
end
def kW(Φ:Nat->List Val->M Val)(n:Nat)(body:eT)(vs:List Val):M Val :=
 bnd (jA Φ body (vs.map some++replicate (n-vs.length) none)) λf=>match f with
  |.nx _=>ret .non
  |.rt v=>ret v
  |_=>aT none
theorem iP{b:Bool}(ho:o=.lt\/o=.le\/o=.gt\/o=.ge)(e:cop h o v w=some b):∃i j,v=.int i/\w=.int j:=by
 cases v with
 |int i=>
  cases w with
  |int j=>exact⟨i,j,rfl,rfl⟩
  |_=>rcases ho with rfl|rfl|rfl|rfl<;>cases e
 |_=>rcases ho with rfl|rfl|rfl|rfl<;>cases e
structure Bd where
 K:Frag
 cl:Nat->Addr
def Gh(K:Frag)(H:Hp)(a:Addr)(xs:List V):Prop :=
 (∃o,H a=some (.pq o (.lst xs)))\/fQ K (λ_=>none) a xs
theorem Gh.sq{K:Frag}{H:Hp}{a:Addr}{xs:List V}(h:Gh K H a xs):fQ K H a xs:=by
 rcases h with ⟨o,h⟩|(h|⟨o,h⟩)|h
 ·exact .inl (.inr ⟨o,h⟩)
 ·cases h
 ·cases h
 ·exact .inr h
mutual
noncomputable def VR(K:Frag)(ρ:List Addr)(H:Hp):Val->V->Prop
 |.non,x=>x=.non
 |.bl b,x=>x=.bl b
 |.int i,x=>x=.int i
 |.str s,x=>x=.str s
 |.tup vs,x=>∃a xs,x=.ref a/\iy K H a xs/\aq K ρ H vs xs
 |.rl vs,x=>∃a xs,x=.ref a/\Gh K H a xs/\aq K ρ H vs xs
 |.dc _ _,_=>False
 |.ob _ _ _,_=>False
 |.ref i,x=>∃a,x=.ref a /\ ρ[i]?=some a
noncomputable def aq(K:Frag)(ρ:List Addr)(H:Hp):List Val->List V->Prop
 |[],xs=>xs=[]
 |v::vs,xs=>∃x r,xs=x::r/\VR K ρ H v x/\aq K ρ H vs r
end
def gj(K:Frag)(ρ:List Addr)(H:Hp):List (Key×Val)->List (Key×V)->Prop
 |[],xs=>xs=[]
 |(k,v)::vs,xs=>∃x r,xs=(k,x)::r/\VR K ρ H v x/\gj K ρ H vs r
def IG(K:Frag)(ρ:List Addr)(H:Hp):List (Str×Val)->List (Str×V)->Prop
 |[],xs=>xs=[]
 |(k,v)::vs,xs=>∃x r,xs=(k,x)::r/\VR K ρ H v x/\IG K ρ H vs r
def OR(B:Bd)(ρ:List Addr)(H:Hp)(a:Addr):Ob->Prop
 |.lst xs=>∃ys,H a=some (.lst ys)/\aq B.K ρ H xs ys
 |.dct kvs=>∃ks,H a=some (.dK ks)/\gj B.K ρ H kvs ks
 |.ins c fs=>∃dx gs,H a=some (.ins (B.cl c) dx gs)/\IG B.K ρ H fs gs
structure HR (B:Bd) (ρ:List Addr) (h:Hs) (H:Hp):Prop where
 len:ρ.length=h.length
 nd:ρ.Nodup
 ob:∀(i:Nat) (o:Ob) (a:Addr),h[i]?=some o -> ρ[i]?=some a->OR B ρ H a o
def Mu:HO->Bool
 |.lst _=>true|.dK _=>true|.ins ..=>true
 |_=>false
structure Gw (ρ:List Addr) (H:Hp) (ρ':List Addr) (H':Hp):Prop where
 pre:ρ <+: ρ'
 firm:∀a o,H a=some o->Mu o=false->H' a=some o
structure Gr (ρ:List Addr) (H:Hp) (ρ':List Addr) (H':Hp):Prop where
 pre:ρ <+: ρ'
 keep:∀a o,H a=some o->a ∉ ρ -> H' a=some o
 firm:∀a o,H a=some o->Mu o=false->H' a=some o
 fresh:∀a,a ∈ ρ'->a ∉ ρ -> H a=none
section
variable {K:Frag} {B:Bd} {ρ ρ' ρ1 ρ2:List Addr} {H H' H1 H2:Hp} {h h':Hs}
theorem Gr.w(g:Gr ρ H ρ' H'):Gw ρ H ρ' H':=⟨g.pre,g.firm⟩
theorem Gr.refl:Gr ρ H ρ H:=⟨Wl _,λ_ _ e _=>e,λ_ _ e _=>e,λ_ e n=>absurd e n⟩
theorem Gr.trans(g:Gr ρ H ρ1 H1)(k:Gr ρ1 H1 ρ2 H2):Gr ρ H ρ2 H2 where
 pre:=g.pre.trans k.pre
 keep a o e n:=k.keep a o (g.keep a o e n) λz=>by rw[g.fresh a z n]at e;cases e
 firm a o e n:=k.firm a o (g.firm a o e n) n
 fresh a z n:=by
  by_cases hb:a ∈ ρ1
  ·exact g.fresh a hb n
  ·cases e:H a with
   |none=>rfl
   |some o=>have e1:=g.keep a o e n;rw[k.fresh a z hb]at e1;cases e1
theorem qV{i:Nat}(p:ρ <+: ρ')(e:ρ[i]?=some a):ρ'[i]?=some a:=by
 obtain⟨t,rfl⟩:=p;have hi:i < ρ.length:=(V4.mp e).1;rw[Wi hi];exact e
theorem Gw.Px(g:Gw ρ H ρ' H')(e:iy K H a xs):iy K H' a xs:=by
 rcases e with (e|⟨o,e⟩)|e
 ·exact .inl (.inl (g.firm _ _ e rfl))
 ·exact .inl (.inr ⟨o,g.firm _ _ e rfl⟩)
 ·exact .inr e
theorem Gw.II(g:Gw ρ H ρ' H')(e:Gh K H a xs):Gh K H' a xs:=by
 rcases e with ⟨o,e⟩|e
 ·exact .inl ⟨o,g.firm _ _ e rfl⟩
 ·exact .inr e
mutual
theorem VR.jr(g:Gw ρ H ρ' H'):∀(v:Val) (x:V),VR K ρ H v x->VR K ρ' H' v x
 |.non,x,e=>by rw[VR]at e |-;exact e
 |.bl b,x,e=>by rw[VR]at e |-;exact e
 |.int b,x,e=>by rw[VR]at e |-;exact e
 |.str b,x,e=>by rw[VR]at e |-;exact e
 | .tup vs,x,e=>by
  rw[VR]at e |-;obtain⟨a,xs,rfl,q1,q2⟩:=e;exact⟨a,xs,rfl,g.Px q1,aq.jr g vs xs q2⟩
 | .rl vs,x,e=>by
  rw[VR]at e |-;obtain⟨a,xs,rfl,q1,q2⟩:=e;exact⟨a,xs,rfl,g.II q1,aq.jr g vs xs q2⟩
 |.dc _ _,x,e=>by rw[VR]at e;exact e.elim
 |.ob _ _ _,x,e=>by rw[VR]at e;exact e.elim
 | .ref i,x,e=>by
  rw[VR]at e |-;obtain⟨a,rfl,q⟩:=e;exact⟨a,rfl,qV g.pre q⟩
theorem aq.jr(g:Gw ρ H ρ' H'):∀(vs:List Val) (xs:List V),aq K ρ H vs xs->aq K ρ' H' vs xs
 |[],xs,e=>by rw[aq]at e |-;exact e
 | v::vs,xs,e=>by
  rw[aq]at e |-;obtain⟨x,r,rfl,q1,q2⟩:=e;exact⟨x,r,rfl,VR.jr g v x q1,aq.jr g vs r q2⟩
end
theorem gj.jr(g:Gw ρ H ρ' H'):∀(vs:List (Key×Val)) (xs:List (Key×V)),gj K ρ H vs xs->gj K ρ' H' vs xs
 |[],xs,e=>e
 |(k,v)::vs,xs,⟨x,r,e,q1,q2⟩=>⟨x,r,e,VR.jr g v x q1,gj.jr g vs r q2⟩
theorem IG.jr(g:Gw ρ H ρ' H'):∀(vs:List (Str×Val)) (xs:List (Str×V)),IG K ρ H vs xs->IG K ρ' H' vs xs
 |[],xs,e=>e
 |(k,v)::vs,xs,⟨x,r,e,q1,q2⟩=>⟨x,r,e,VR.jr g v x q1,IG.jr g vs r q2⟩
theorem VR.up(g:Gr ρ H ρ' H')(v:Val)(x:V)(e:VR K ρ H v x):VR K ρ' H' v x:=VR.jr g.w v x e
theorem aq.up(g:Gr ρ H ρ' H')(v:List Val)(x:List V)(e:aq K ρ H v x):aq K ρ' H' v x:=aq.jr g.w v x e
theorem gj.up(g:Gr ρ H ρ' H')(v:List (Key×Val))(x:List (Key×V))(e:gj K ρ H v x):gj K ρ' H' v x:=gj.jr g.w v x e
theorem aq.nil:aq K ρ H [] []:=by rw[aq]
theorem aq.cons{v:Val}{vs:List Val}{x:V}{xs:List V}(a:VR K ρ H v x)(b:aq K ρ H vs xs):aq K ρ H (v::vs) (x::xs):=by rw[aq];exact⟨x,xs,rfl,a,b⟩
theorem aq.length:∀{vs:List Val} {xs:List V},aq K ρ H vs xs->vs.length=xs.length
 |[],xs,e=>by rw[aq]at e;subst e;rfl
 |v::vs,xs,e=>by rw[aq]at e;obtain⟨x,r,rfl,_,q⟩:=e;simp[aq.length q]
theorem aq.get:∀{vs:List Val} {xs:List V} {i:Nat} {v:Val},aq K ρ H vs xs->vs[i]?=some v->∃x,xs[i]?=some x/\VR K ρ H v x
 |[],xs,i,v,e,q=>by simp at q
 | w::vs,xs,0,v,e,q=>by
  rw[aq]at e;obtain⟨x,r,rfl,a,_⟩:=e;simp at q;subst q;exact⟨x,rfl,a⟩
 | w::vs,xs,i+1,v,e,q=>by
  rw[aq]at e;obtain⟨x,r,rfl,_,b⟩:=e;simp at q;obtain⟨y,q1,q2⟩:=aq.get b q;exact⟨y,by simpa using q1,q2⟩
theorem aq.append:∀{vs ws:List Val} {xs ys:List V},aq K ρ H vs xs->aq K ρ H ws ys->aq K ρ H (vs++ws) (xs++ys)
 |[],ws,xs,ys,e,q=>by rw[aq]at e;subst e;exact q
 | w::vs,ws,xs,ys,e,q=>by
  rw[aq]at e;obtain⟨x,r,rfl,a,b⟩:=e;exact aq.cons a (aq.append b q)
theorem aq.take:∀{vs:List Val} {xs:List V} (n:Nat),aq K ρ H vs xs->aq K ρ H (vs.take n) (xs.take n)
 |_,_,0,_=>by simp;exact aq.nil
 |[],xs,n+1,e=>by rw[aq]at e;subst e;simp;exact aq.nil
 | w::vs,xs,n+1,e=>by
  rw[aq]at e;obtain⟨x,r,rfl,a,b⟩:=e;exact aq.cons a (aq.take n b)
theorem aq.drop:∀{vs:List Val} {xs:List V} (n:Nat),aq K ρ H vs xs->aq K ρ H (vs.drop n) (xs.drop n)
 |_,_,0,e=>by simpa using e
 |[],xs,n+1,e=>by rw[aq]at e;subst e;simp;exact aq.nil
 | w::vs,xs,n+1,e=>by
  rw[aq]at e;obtain⟨x,r,rfl,a,b⟩:=e;exact aq.drop n b
theorem aq.cut(lo hi:Option Int)(e:aq K ρ H vs xs):aq K ρ H (fh vs lo hi) (rV xs lo hi):=by
 unfold fh rV;rw[e.length];exact aq.take _ (aq.drop _ e)
theorem aq.gJ{i:Int}(e:aq K ρ H vs xs)(q:L2.gJ vs i=some v):∃x,L2.gJ xs i=some x/\VR K ρ H v x:=by
 unfold L2.gJ at q |-;rw[e.length]at q;cases hi:L2.wg xs.length i with
 |none=>rw[hi]at q;cases q
 |some n=>rw[hi]at q;exact aq.get e q
theorem aq.set:∀{vs:List Val} {xs:List V} (n:Nat) {v:Val} {x:V},aq K ρ H vs xs->VR K ρ H v x->aq K ρ H (vs.set n v) (xs.set n x)
 |[],xs,n,v,x,e,q=>by rw[aq]at e;subst e;simp;exact aq.nil
 | w::vs,xs,0,v,x,e,q=>by
  rw[aq]at e;obtain⟨y,r,rfl,a,b⟩:=e;exact aq.cons q b
 | w::vs,xs,n+1,v,x,e,q=>by
  rw[aq]at e;obtain⟨y,r,rfl,a,b⟩:=e;exact aq.cons a (aq.set n b q)
theorem aq.one(e:aq K ρ H [v] xs):∃x,xs=[x]/\VR K ρ H v x:=by
 rw[aq]at e;obtain⟨x,r,rfl,a,b⟩:=e;rw[aq]at b;subst b;exact⟨x,rfl,a⟩
theorem aq.two(e:aq K ρ H [v,w] xs):∃x y,xs=[x,y]/\VR K ρ H v x/\VR K ρ H w y:=by
 rw[aq]at e;obtain⟨x,r,rfl,a,b⟩:=e;obtain⟨y,rfl,c⟩:=aq.one b;exact⟨x,y,rfl,a,c⟩
theorem VR.int{i:Int}:VR K ρ H (.int i) (.int i):=by rw[VR]
theorem VR.str:VR K ρ H (.str i) (.str i):=by rw[VR]
theorem VR.bl{i:Bool}:VR K ρ H (.bl i) (.bl i):=by rw[VR]
theorem VR.non:VR K ρ H .non .non:=by rw[VR]
theorem VR.tup(q:iy K H a xs)(e:aq K ρ H vs xs):VR K ρ H (.tup vs) (.ref a):=by rw[VR];exact⟨a,xs,rfl,q,e⟩
theorem VR.ref{i:Nat}(q:ρ[i]?=some a):VR K ρ H (.ref i) (.ref a):=by rw[VR];exact⟨a,rfl,q⟩
theorem aq.ints:∀{ns:List Int} {xs:List V},aq K ρ H (ns.map Val.int) xs↔xs=ns.map V.int
 |[],xs=>by simp[aq]
 | n::ns,xs=>by
  simp only[map_cons];rw[aq];constructor
  ·rintro⟨x,r,rfl,a,b⟩;rw[VR]at a;subst a;rw[(aq.ints (ns:=ns)).mp b]
  ·rintro rfl;exact⟨_,_,rfl,VR.int,(aq.ints (ns:=ns)).mpr rfl⟩
theorem aq.bools:∀{ns:List Bool} {xs:List V},aq K ρ H (ns.map Val.bl) xs↔xs=ns.map V.bl
 |[],xs=>by simp[aq]
 | n::ns,xs=>by
  simp only[map_cons];rw[aq];constructor
  ·rintro⟨x,r,rfl,a,b⟩;rw[VR]at a;subst a;rw[(aq.bools (ns:=ns)).mp b]
  ·rintro rfl;exact⟨_,_,rfl,VR.bl,(aq.bools (ns:=ns)).mpr rfl⟩
theorem aq.tups:∀{mP:List (List Int)} {xs:List V},aq K ρ H (mP.map jR) xs->∃rs:List (Addr×List Int),xs=rs.map (λr=>V.ref r.1)/\mP=rs.map (·.2)/\∀r∈rs,iy K H r.1 (r.2.map V.int)
 |[],xs,e=>by simp only[map_nil]at e;rw[aq]at e;exact⟨[],e,rfl,λ_ z=>nomatch z⟩
 | ks::mP,xs,e=>by
  simp only[map_cons]at e;rw[aq]at e;obtain⟨x,r,rfl,a,b⟩:=e;obtain⟨rs,e1,e2,e3⟩:=aq.tups b;unfold jR at a;rw[VR]at a;obtain⟨p,ys,rfl,g1,g2⟩:=a;rw[aq.ints.mp g2]at g1;refine⟨(p,ks)::rs,by rw[e1];rfl,by rw[e2];rfl,λr hr=>?_⟩
  rcases Wf.mp hr with z|z
  ·rw[z];exact g1
  ·exact e3 r z
theorem aq.wK:∀{rs:List (Addr×List Int)},(∀r∈rs,iy K H r.1 (r.2.map V.int))->aq K ρ H ((rs.map (·.2)).map jR) (rs.map λr=>V.ref r.1)
 |[],_=>aq.nil
 |r::rs,e=>aq.cons (VR.tup (e r V8) (aq.ints.mpr rfl)) (aq.wK λq hq=>e q (V5 _ hq))
theorem OR.mu(q:OR B ρ H a o):∃u,H a=some u/\Mu u=true:=by
 cases o with
 |lst xs=>obtain⟨ys,e,_⟩:=q;exact⟨_,e,rfl⟩
 |dct xs=>obtain⟨ys,e,_⟩:=q;exact⟨_,e,rfl⟩
 |ins c fs=>obtain⟨dx,ys,e,_⟩:=q;exact⟨_,e,rfl⟩
theorem HR.mu(r:HR B ρ h H)(e:a ∈ ρ):∃u,H a=some u/\Mu u=true:=by
 obtain⟨i,hi,rfl⟩:=Yr e;have hi':i<h.length:=by rw[<-r.len];exact hi
 exact(r.ob i _ _ (Ww hi') (Ww hi)).mu
theorem HR.out(r:HR B ρ h H)(e:H p=none):p ∉ ρ:=λz=>by
 obtain⟨u,q,_⟩:=r.mu z;rw[e]at q;cases q
theorem OR.jr(g:Gw ρ H ρ' H')(e:H' a=H a)(q:OR B ρ H a o):OR B ρ' H' a o:=by
 cases o with
 |lst xs=>obtain⟨ys,e1,e2⟩:=q;exact⟨ys,e.trans e1,aq.jr g _ _ e2⟩
 |dct xs=>obtain⟨ys,e1,e2⟩:=q;exact⟨ys,e.trans e1,gj.jr g _ _ e2⟩
 |ins c fs=>obtain⟨dx,ys,e1,e2⟩:=q;exact⟨dx,ys,e.trans e1,IG.jr g _ _ e2⟩
theorem OR.up(g:Gr ρ H ρ' H')(e:H' a=H a)(q:OR B ρ H a o):OR B ρ' H' a o:=OR.jr g.w e q
theorem Gr.side(e:H p=none):Gr ρ H ρ (upd H p o) where
 pre:=Wl _
 keep a u q _:=by rw[ao (aG q e)];exact q
 firm a u q _:=by rw[ao (aG q e)];exact q
 fresh a z n:=absurd z n
theorem HR.side(r:HR B ρ h H)(e:H p=none):HR B ρ h (upd H p o) where
 len:=r.len
 nd:=r.nd
 ob i u a q1 q2:=by refine OR.up (Gr.side e) ?_ (r.ob i u a q1 q2);refine ao λz=>?_;subst z;exact r.out e (Wn q2)
theorem Gw.other(e:H p=some u)(hm:Mu u=true):Gw ρ H ρ (upd H p o) where
 pre:=Wl _
 firm a w q n:=by
  have:a≠p:=λz=>by subst z;rw[e]at q;cases q;rw[hm]at n;cases n
  rw[ao this];exact q
theorem HR.other(r:HR B ρ h H)(hp:p ∉ ρ)(e:H p=some u)(hm:Mu u=true):HR B ρ h (upd H p o) where
 len:=r.len
 nd:=r.nd
 ob i w a q1 q2:=OR.jr (Gw.other e hm) (ao λz=>by subst z;exact hp (Wn q2)) (r.ob i w a q1 q2)
theorem Gr.new(e:H p=none):Gr ρ H (ρ ++ [p]) (upd H p o) where
 pre:=WO _ _
 keep a u q _:=by rw[ao (aG q e)];exact q
 firm a u q _:=by rw[ao (aG q e)];exact q
 fresh a z n:=by
  rcases W7.mp z with z|z
  ·exact absurd z n
  ·rw[Wo.mp z];exact e
theorem HR.new(r:HR B ρ h H)(e:H p=none)(q:OR B (ρ ++ [p]) (upd H p o) p u):HR B (ρ ++ [p]) (h++[u]) (upd H p o) where
 len:=by simp[r.len]
 nd:=by rw[YB];refine⟨r.nd,by simp,λa ha b hb=>?_⟩;rw[Wo.mp hb];rintro rfl;exact r.out e ha
 ob i v a q1 q2:=by
  by_cases hi:i<h.length
  ·rw[Wi hi]at q1;rw[Wi (by rw[r.len];exact hi)]at q2;refine OR.up (Gr.new e) (ao λz=>?_) (r.ob i v a q1 q2);subst z;exact r.out e (Wn q2)
  ·rw[Wv (by omega)]at q1
   rw[Wv (by rw[r.len];omega)]at q2;have hi0:i-h.length=0:=by have:=(V4.mp q1).1;simp at this;omega
   rw[hi0]at q1;rw[r.len,hi0]at q2;simp at q1 q2;subst q1;subst q2;exact q
theorem wL(r:HR B ρ h H):VR K (ρ ++ [p]) H' (.ref h.length) (.ref p):=VR.ref (by rw[<-r.len];simp)
theorem Gi{α:Type}:∀{l:List α} {i j:Nat} {a:α},l.Nodup->l[i]?=some a->l[j]?=some a->i=j
 |[],i,j,a,_,e,_=>by simp at e
 |b::l,0,0,a,_,_,_=>rfl
 | b::l,0,j+1,a,n,e,f=>by
  simp at e f;subst e;exact absurd (Wn f) (WH.mp n).1
 | b::l,i+1,0,a,n,e,f=>by
  simp at e f;subst f;exact absurd (Wn e) (WH.mp n).1
 | b::l,i+1,j+1,a,n,e,f=>by
  simp at e f;rw[Gi (WH.mp n).2 e f]
theorem Gr.put(hp:p ∈ ρ)(e:H p=some u)(hm:Mu u=true):Gr ρ H ρ (upd H p o) where
 pre:=Wl _
 keep a w q n:=by rw[ao λz=>n (by rw[z];exact hp)];exact q
 firm a w q n:=by
  have:a≠p:=λz=>by subst z;rw[e]at q;cases q;rw[hm]at n;cases n
  rw[ao this];exact q
 fresh a z n:=absurd z n
theorem HR.put{i:Nat}(r:HR B ρ h H)(hi:ρ[i]?=some p)(e:h[i]?=some w)(q:OR B ρ (upd H p o) p u):HR B ρ (h.set i u) (upd H p o) where
 len:=by simp[r.len]
 nd:=r.nd
 ob j v a q1 q2:=by
  obtain⟨z,k1,k2⟩:=(r.ob i w p e hi).mu
  by_cases hj:j=i
  ·subst hj;rw[hi]at q2;cases q2;have hlt:j<h.length:=(V4.mp e).1;rw[Wh hlt]at q1;cases q1;exact q
  ·rw[V7 (λz=>hj z.symm)]at q1;refine OR.up (Gr.put (Wn hi) k1 k2) (ao λz=>?_) (r.ob j v a q1 q2);subst z;exact hj (Gi r.nd q2 hi)
theorem dP(r:HR B ρ h H)(q:VR B.K ρ H v x)(e:ay h v=some xs):∃a ys,x=.ref a/\fQ B.K H a ys/\aq B.K ρ H xs ys:=by
 cases v with
 |rl vs=>simp only[ay]at e;cases e;rw[VR]at q;obtain⟨a,ys,rfl,k1,k2⟩:=q;exact⟨a,ys,rfl,k1.sq,k2⟩
 |ref i=>
  simp only[ay]at e;split at e
  ·rename_i zs e1;cases e;rw[VR]at q;obtain⟨a,rfl,k1⟩:=q;obtain⟨ys,k2,k3⟩:=r.ob i _ a e1 k1;exact⟨a,ys,rfl,.inl (.inl k2),k3⟩
  ·cases e
 |_=>cases e
theorem jt{i:Nat}(r:HR B ρ h H)(q:VR B.K ρ H (.ref i) x)(e:h[i]?=some (.lst xs)):∃a ys,x=.ref a /\ ρ[i]?=some a/\H a=some (.lst ys)/\aq B.K ρ H xs ys:=by
 rw[VR]at q;obtain⟨a,rfl,k1⟩:=q;obtain⟨ys,k2,k3⟩:=r.ob i _ a e k1;exact⟨a,ys,rfl,k1,k2,k3⟩
theorem vz(r:HR B ρ h H)(q:VR B.K ρ H v x)(e:cC h v=some xs):∃a ys,x=.ref a/\(fQ B.K H a ys\/iy B.K H a ys)/\aq B.K ρ H xs ys:=by
 cases v with
 |tup vs=>simp only[cC]at e;cases e;rw[VR]at q;obtain⟨a,ys,rfl,k1,k2⟩:=q;exact⟨a,ys,rfl,.inr k1,k2⟩
 |rl vs=>obtain⟨a,ys,e1,k1,k2⟩:=dP r q (show ay h (.rl vs)=some xs from e);exact⟨a,ys,e1,.inl k1,k2⟩
 |ref vs=>obtain⟨a,ys,e1,k1,k2⟩:=dP r q (show ay h (.ref vs)=some xs from e);exact⟨a,ys,e1,.inl k1,k2⟩
 |_=>cases e
theorem lu(r:HR B ρ h H):∀(n:Nat) (v:Val) (x:V) (d:PyData),VR B.K ρ H v x->toD n h v=some d->Den B.K H d x/\d.canLay0=true/\d.depth<=n:=by
 intro n
 induction n with
 |zero=>intro v x d _ e;simp only[toD]at e;cases e
 |succ n ih=>
  have all:∀(vs:List Val) (xs:List V) (ds:List PyData),aq B.K ρ H vs xs->bX (toD n h) vs=some ds->cX B.K H ds xs/\PyData.canLayAll0 ds=true/\PyData.depthAll ds<=n:=by
   intro vs
   induction vs with
   |nil=>intro xs ds q e;simp only[bX]at e;cases e;rw[aq]at q;subst q;exact⟨cX.nil,rfl,by simp[PyData.depthAll]⟩
   |cons v vs Uv=>intro xs ds q e;simp only[bX]at e;obtain⟨d,e1,e⟩:=V0.mp e;obtain⟨ds',e2,e⟩:=V0.mp e;cases e;rw[aq]at q;obtain⟨x,r,rfl,q1,q2⟩:=q;obtain⟨a1,a2,a3⟩:=ih v x d q1 e1;obtain⟨b1,b2,b3⟩:=Uv r ds' q2 e2;refine⟨cX.cons a1 b1,by simp[PyData.canLayAll0,a2,b2],?_⟩;simp only[PyData.depthAll];omega
  intro v x d q e;cases v with
  |non=>simp only[toD]at e;cases e;rw[VR]at q;subst q;exact⟨Den.none,rfl,by simp[PyData.depth]⟩
  |bl b=>simp only[toD]at e;cases e;rw[VR]at q;subst q;exact⟨Den.bool,rfl,by simp[PyData.depth]⟩
  |int b=>simp only[toD]at e;cases e;rw[VR]at q;subst q;exact⟨Den.int,rfl,by simp[PyData.depth]⟩
  |str b=>
   simp only[toD]at e;split at e
   ·rename_i hs;cases e;rw[VR]at q;subst q;exact⟨Den.str,by simp[PyData.canLay0,hs],by simp[PyData.depth]⟩
   ·cases e
  |tup vs=>simp only[toD]at e;obtain⟨ds,e1,e⟩:=V0.mp e;cases e;rw[VR]at q;obtain⟨a,xs,rfl,q1,q2⟩:=q;obtain⟨b1,b2,b3⟩:=all vs xs ds q2 e1;exact⟨Den.tuple q1 b1,by simp[PyData.canLay0,b2],by simp only[PyData.depth];omega⟩
  |rl vs=>simp only[toD]at e;obtain⟨ds,e1,e⟩:=V0.mp e;cases e;rw[VR]at q;obtain⟨a,xs,rfl,q1,q2⟩:=q;obtain⟨b1,b2,b3⟩:=all vs xs ds q2 e1;exact⟨Den.list q1.sq b1,by simp[PyData.canLay0,b2],by simp only[PyData.depth];omega⟩
  |dc _ _=>rw[VR]at q;exact q.elim
  |ob _ _ _=>rw[VR]at q;exact q.elim
  |ref i=>simp only[toD]at e;obtain⟨vs,e0,e⟩:=V0.mp e;obtain⟨ds,e1,e⟩:=V0.mp e;cases e;obtain⟨a,xs,rfl,q1,q2⟩:=dP r q e0;obtain⟨b1,b2,b3⟩:=all vs xs ds q2 e1;exact⟨Den.list q1 b1,by simp[PyData.canLay0,b2],by simp only[PyData.depth];omega⟩
end
theorem ly(x:List Int):∀l,(qS x l).Perm (x::l)
 |[]=>.refl _
 | y::r=>by
  unfold qS;split
  ·exact((ly x r).cons y).trans (.swap _ _ _)
  ·exact .refl _
theorem nH:∀l,(ko l).Perm l
 |[]=>.refl _
 |x::r=>(ly x _).trans ((nH r).cons x)
theorem sZ{a b c:List Int}(h1:HT.lexLt b a=false)(h2:HT.lexLt c b=false):HT.lexLt c a=false:=by
 cases e:HT.lexLt c a with
 |false=>rfl
 |true=>
  rcases pO.pR c b a e with z|z
  ·rw[h2]at z;cases z
  ·rw[h1]at z;cases z
theorem tu{a b:List Int}(h:HT.lexLt a b=true):HT.lexLt b a=false:=by
 cases e:HT.lexLt b a with
 |false=>rfl
 |true=>have:=pO.fS _ _ _ h e;rw[pO.gQ]at this;cases this
theorem wM(x:List Int):∀l:List (List Int),l.Pairwise (λa b=>HT.lexLt b a=false)->(qS x l).Pairwise (λa b=>HT.lexLt b a=false)
 |[],_=>by simp[qS]
 | y::r,h=>by
  obtain⟨h1,h2⟩:=WK.mp h;unfold qS
  split
  ·rename_i hlt
   refine WK.mpr ⟨λz hz=>?_,wM x r h2⟩
   rcases Wf.mp ((ly x r).mem_iff.mp hz) with rfl|hz
   ·exact tu hlt
   ·exact h1 z hz
  ·rename_i hlt
   refine WK.mpr ⟨λz hz=>?_,h⟩;have hxy:HT.lexLt y x=false:=by simpa using hlt
   rcases Wf.mp hz with rfl|hz
   ·exact hxy
   ·exact sZ hxy (h1 z hz)
theorem tw:∀l,(ko l).Pairwise (λa b=>HT.lexLt b a=false)
 |[]=>.nil
 |x::r=>wM x _ (tw r)
theorem AI(hp:l.Perm mP)(hs:l.Pairwise (λa b=>HT.lexLt b a=false)):l=ko mP :=
 List.Perm.eq_of_pairwise (λa b _ _ h1 h2=>pO.fR a b h2 h1) hs (tw mP) (hp.trans (nH mP).symm)
theorem yT{ns:List Int}{m:Int}(h:m∈ns)(h2:∀a∈ns,m<=a):qT ns=some (.int m):=by
 cases ns with
 |nil=>cases h
 |cons a r=>
  have key:∀(r:List Int) (a:Int),(r.foldl min a)∈a::r/\∀b∈a::r,r.foldl min a<=b:=by
   intro r
   induction r with
   |nil=>intro a;simp
   |cons c r ih=>
    intro a;obtain⟨q1,q2⟩:=ih (min a c);refine⟨?_,λb hb=>?_⟩
    ·show List.foldl min (min a c) r∈_
     rcases Wf.mp q1 with z|z
     ·rw[z]
      rcases Int.le_total a c with hc|hc
      ·rw[Int.min_eq_left hc];exact V8
      ·rw[Int.min_eq_right hc];exact V5 _ V8
     ·exact V5 _ (V5 _ z)
    ·show List.foldl min (min a c) r<=b
     have q3:=q2 (min a c) V8
     rcases Wf.mp hb with z|z
     ·subst z;omega
     ·rcases Wf.mp z with z|z
      ·subst z;omega
      ·exact q2 b (V5 _ z)
  obtain⟨q1,q2⟩:=key r a;show some (Val.int (r.foldl min a))=_;rw[Int.le_antisymm (q2 m h) (h2 _ q1)]
theorem yU{ns:List Int}{m:Int}(h:m∈ns)(h2:∀a∈ns,a<=m):qU ns=some (.int m):=by
 cases ns with
 |nil=>cases h
 |cons a r=>
  have key:∀(r:List Int) (a:Int),(r.foldl max a)∈a::r/\∀b∈a::r,b<=r.foldl max a:=by
   intro r
   induction r with
   |nil=>intro a;simp
   |cons c r ih=>
    intro a;obtain⟨q1,q2⟩:=ih (max a c);refine⟨?_,λb hb=>?_⟩
    ·show List.foldl max (max a c) r∈_
     rcases Wf.mp q1 with z|z
     ·rw[z]
      rcases Int.le_total a c with hc|hc
      ·rw[Int.max_eq_right hc];exact V5 _ V8
      ·rw[Int.max_eq_left hc];exact V8
     ·exact V5 _ (V5 _ z)
    ·show b<=List.foldl max (max a c) r
     have q3:=q2 (max a c) V8
     rcases Wf.mp hb with z|z
     ·subst z;omega
     ·rcases Wf.mp z with z|z
      ·subst z;omega
      ·exact q2 b (V5 _ z)
  obtain⟨q1,q2⟩:=key r a;show some (Val.int (r.foldl max a))=_;rw[Int.le_antisymm (h2 _ q1) (q2 m h)]
def Post(B:Bd)(EX:Nat->List V->Hp->Prop)(ρ:List Addr)(H:Hp){α:Type}(W:α -> Hs->List Addr->Hp->Prop):Out α -> Prop
 |.ok a h'=>∀ρ' H',Gr ρ H ρ' H'->HR B ρ' h' H'->W a h' ρ' H'
 |.exc c vs h'=>∀ρ' H' xs,Gr ρ H ρ' H'->HR B ρ' h' H'->aq B.K ρ' H' vs xs->EX c xs H'
 |.no=>False
def WV(K:Frag)(Q:VK):Val->Hs->List Addr->Hp->Prop:=λv _ ρ' H'=>∀x,VR K ρ' H' v x->Q x H'
section
variable {B:Bd} {EX:Nat->List V->Hp->Prop} {ρ ρ':List Addr} {H H':Hp} {α β:Type} {W:β -> Hs->List Addr->Hp->Prop} {h h':Hs} {Q:VK}
theorem Post.up(g:Gr ρ H ρ' H')(p:Post B EX ρ H W o):Post B EX ρ' H' W o:=by
 cases o with
 |ok a h'=>exact λρ2 H2 g2 r=>p ρ2 H2 (g.trans g2) r
 |exc c vs h'=>exact λρ2 H2 xs g2 r=>p ρ2 H2 xs (g.trans g2) r
 |no=>exact p
theorem aM{c:Bool}(p:Post B EX ρ H W (aK c m h)):c=true/\Post B EX ρ H W (m h):=by
 unfold aK at p;split at p
 ·rename_i e;exact⟨e,p⟩
 ·exact p.elim
theorem aD(p:Post B EX ρ H W (bnd (ask f) g h)):∃a,f h=some a/\Post B EX ρ H W (g a h):=by
 unfold bnd ask aT at p;cases e:f h with
 |none=>rw[e]at p;exact p.elim
 |some a=>rw[e]at p;exact⟨a,rfl,p⟩
theorem cQ(r:HR B ρ h H)(p:Post B EX ρ H W (ask f h)):∃a,f h=some a/\W a h ρ H:=by
 unfold ask aT at p;cases e:f h with
 |none=>rw[e]at p;exact p.elim
 |some a=>rw[e]at p;exact⟨a,rfl,p ρ H Gr.refl r⟩
theorem bK(p:Post B EX ρ H W (bnd (aT o) g h)):∃a,o=some a/\Post B EX ρ H W (g a h):=by
 unfold bnd aT at p;cases e:o with
 |none=>rw[e]at p;exact p.elim
 |some a=>rw[e]at p;exact⟨a,rfl,p⟩
theorem bT(r:HR B ρ h H)(p:Post B EX ρ H W (aT o h)):∃a,o=some a/\W a h ρ H:=by
 unfold aT at p;cases e:o with
 |none=>rw[e]at p;exact p.elim
 |some a=>rw[e]at p;exact⟨a,rfl,p ρ H Gr.refl r⟩
theorem ai(r:HR B ρ h H)(p:Post B EX ρ H W (ret a h)):W a h ρ H:=p ρ H Gr.refl r
theorem tB(r:HR B ρ h H)(hp:H p=none)(q:OR B (ρ ++ [p]) (upd H p O) p o)(w:Post B EX ρ H (WV B.K Q) (new o h)):Q (.ref p) (upd H p O) :=
 w (ρ ++ [p]) (upd H p O) (Gr.new hp) (r.new hp q) _ (wL r)
theorem dQ(r:HR B ρ h H)(hp:H p=none)(q:aq B.K ρ H xs ys)(w:Post B EX ρ H (WV B.K Q) (new (.lst xs) h)):Q (.ref p) (upd H p (.lst ys)) :=
 tB (o:=.lst xs) (O:=.lst ys) r hp ⟨ys,az,aq.up (Gr.new hp) _ _ q⟩ w
theorem nI(r:HR B ρ h H)(hp:H p=none)(q:aq B.K ρ H xs ys)(w:Post B EX ρ H (WV B.K Q) (ret (Val.tup xs) h)):Q (.ref p) (upd H p (.tup ys)) :=
 w ρ (upd H p (.tup ys)) (Gr.side hp) (r.side hp) _ (VR.tup (iy.of az) (aq.up (Gr.side hp) _ _ q))
theorem av(p:Post B EX ρ H W (bnd m f h))(k:∀v h1 ρ1 x H1,Gr ρ H ρ1 H1->HR B ρ1 h1 H1->VR B.K ρ1 H1 v x->Post B EX ρ1 H1 W (f v h1)->Q x H1):Post B EX ρ H (WV B.K Q) (m h):=by
 unfold bnd at p;cases e:m h with
 |ok v h1=>rw[e]at p;exact λρ1 H1 g r x q=>k v h1 ρ1 x H1 g r q (Post.up g p)
 |exc c vs h1=>rw[e]at p;exact p
 |no=>rw[e]at p;exact p
theorem bu(p:Post B EX ρ H W (bnd m f h))(k:∀v h1 ρ1 H1,Gr ρ H ρ1 H1->HR B ρ1 h1 H1->Post B EX ρ1 H1 W (f v h1)->W' v h1 ρ1 H1):Post B EX ρ H W' (m h):=by
 unfold bnd at p;cases e:m h with
 |ok v h1=>rw[e]at p;exact λρ1 H1 g r=>k v h1 ρ1 H1 g r (Post.up g p)
 |exc c vs h1=>rw[e]at p;exact p
 |no=>rw[e]at p;exact p
end
theorem cR:∀{ds:List Val} {ns:List Int},aS ds=some ns->ds=ns.map .int
 |[],ns,e=>by simp only[aS,bX]at e;cases e;rfl
 | v::r,ns,e=>by
  simp only[aS,bX]at e;obtain⟨i,e1,e⟩:=V0.mp e;obtain⟨is,e2,e⟩:=V0.mp e;cases e;cases v<;>first|cases e1|skip
  rw[cR (show aS r=some is from e2)];rfl
theorem nJ:∀{ds:List Val} {ns:List Bool},dO ds=some ns->ds=ns.map .bl
 |[],ns,e=>by simp only[dO,bX]at e;cases e;rfl
 | v::r,ns,e=>by
  simp only[dO,bX]at e;obtain⟨i,e1,e⟩:=V0.mp e;obtain⟨is,e2,e⟩:=V0.mp e;cases e;cases v<;>first|cases e1|skip
  rw[nJ (show dO r=some is from e2)];rfl
theorem qa:∀{ds:List Val} {mP:List (List Int)},jJ ds=some mP->ds=mP.map jR/\∀ks∈mP,ks≠[]
 |[],ns,e=>by simp only[jJ,bX]at e;cases e;exact⟨rfl,λ_ z=>nomatch z⟩
 | v::r,ns,e=>by
  simp only[jJ,bX]at e;obtain⟨i,e1,e⟩:=V0.mp e;obtain⟨is,e2,e⟩:=V0.mp e;cases e;cases v<;>first|cases e1|skip
  rename_i vs;dsimp only at e1;split at e1
  ·cases e1
  ·rename_i hne
   obtain⟨q1,q2⟩:=qa (show jJ r=some is from e2);have e3:=cR e1;subst e3;refine⟨by rw[q1];rfl,λks hk=>?_⟩
   rcases Wf.mp hk with z|z
   ·subst z;intro z;subst z;exact hne rfl
   ·exact q2 ks z
section
variable {X:Cx} {cl:Nat->Addr} {EX:Nat->List V->Hp->Prop}
abbrev bd(X:Cx)(cl:Nat->Addr):Bd:=⟨X.K,cl⟩
theorem DY:kU X (binaryOp .Add) (λx y H Q=>∃a b xs ys,x=.ref a/\y=.ref b/\fQ X.K H a xs/\fQ X.K H b ys/\xs.length+ys.length<=sizeLine/\∀p,H p=none->Q (.ref p) (upd H p (.lst (xs++ys)))):=by
 intro pins s σ H x y v u Q I rx ry h;obtain⟨l,l',xs,ys,rfl,rfl,q1,q3,hl,q⟩:=h;cases rx;cases ry;obtain⟨its,r1,Uw,z1⟩:=I.list q1;obtain⟨its',r2,Ux,z2⟩:=I.list q3;have l1:=r1.length;have l2:=r2.length;obtain⟨⟨oc,od,Pq,osl⟩,n1,e1,e2,_,e4⟩:=Uw;obtain⟨⟨VU,od',Uy,QV⟩,n2,f1,f2,_,f4⟩:=Ux;cases e2;cases e4;cases f2;cases f4;refine concat_meets ⟨_,e1,rfl⟩ ⟨_,f1,rfl⟩ noFill_list_add seq_list_add PySem.F.slot_list_add PySem.F.entry_list_add (PySem.F.args_list_add_2 _ _) (list_addW l l' its.toArray its'.toArray n1 n2 od od' osl QV (by simp only[size_toArray];omega)) ⟨e1,f1,?_⟩;have ea:its.toArray++its'.toArray=(its++its').toArray:=by simp
 rw[ea];have hn:H s.heap.objs.size=none:=I.hok.fresh (Wb _);exact⟨.ref s.heap.objs.size,_,I.Qo (t':=s.toks) (its:=its++its') (r1.append r2) (by rw[Wz];omega),rfl,q _ hn⟩
def AJ:Gf->Operator
 |.add=>.Add|.sub=>.Sub|.mul=>.Mult|.fdiv=>.FloorDiv|.mod=>.Mod|.pow=>.Pow
def wN:IF->CmpOp
 |.eq=>.Eq|.ne=>.NotEq|.lt=>.Lt|.le=>.LtE|.gt=>.Gt|.ge=>.GtE|.isn=>.Is|.ntn=>.IsNot|.LA=>.In|.nin=>.NotIn
def rB(B:Bd)(EX:Nat->List V->Hp->Prop)(o:Gf):R2:=λx y H Q=>∃ρ h v w,HR B ρ h H/\VR B.K ρ H v x/\VR B.K ρ H w y/\Post B EX ρ H (WV B.K Q) (LB o v w h)
theorem oY.log{j:Int}(h:oY j=true):0<j/\j.natAbs.log2<9000:=by
 have h:=Wt h;refine⟨h.1,(Nat.log2_lt (by omega)).mpr ?_⟩;have e:j.natAbs<2 ^ 200:=by
  have:(2:Nat) ^ 200=1606938044258990275541962092341162602522202993782792835301376:=by decide
  omega
 exact Wc e (Nat.pow_le_pow_right (by decide) (by decide))
theorem AK:kU X (binaryOp .FloorDiv) (rI (λ_ j=>oY j=true) λi j=>.int (i/j)):=Pj λi j _ _ _ _ _ hc q=>by
 obtain⟨h1,h2⟩:=oY.log hc;exact PyProof.Rows.floordiv_int (by omega) (by rw[Int.fdiv_eq_ediv_of_nonneg i (by omega)];exact q) (.inl (PyProof.noPylong_of_log2 h2))
theorem nK(ho:o≠.add)(v w:Val)(h:Hs):(∃i j,v=.int i/\w=.int j)\/LB o v w h=.no:=by
 cases v with
 |int i=>
  cases w with
  |int j=>exact .inl ⟨i,j,rfl,rfl⟩
  |_=>right;cases o<;>first|rfl|exact absurd rfl ho
 |_=>right;cases o<;>first|rfl|exact absurd rfl ho
theorem IJ(o:Gf):kU X (binaryOp (AJ o)) (rB (bd X cl) EX o):=by
 intro pins s σ H x y v' u' Q I rx ry hh;obtain⟨ρ,h,v,w,r,hv,hw,p⟩:=hh;have lists:Post (bd X cl) EX ρ H (WV X.K Q) (bnd (ask λh=>ay h v) (λa=>bnd (ask λh=>ay h w) λb=>aK (decide (a.length+b.length<=sizeLine)) (new (.lst (a++b)))) h)->wpAny (model X.prog X.w) X.A (binaryOp .Add v' u') (EP X pins σ Q) X.xe s:=by intro p;obtain⟨a,e1,p⟩:=aD p;obtain⟨b,e2,p⟩:=aD p;obtain⟨e3,p⟩:=aM p;have e3:=Wt e3;obtain⟨a1,MR,rfl,k1,k2⟩:=dP r hv e1;obtain⟨a2,QW,rfl,k3,k4⟩:=dP r hw e2;exact DY pins s σ H _ _ v' u' Q I rx ry ⟨a1,a2,MR,QW,rfl,rfl,k1,k3,by rw[<-k2.length,<-k4.length];exact e3,λq hq=>dQ r hq (aq.append k2 k4) p⟩
 cases o with
 |add=>
  cases v<;>cases w<;>first
   |exact lists p
   |skip
  ·rename_i a b;rw[VR]at hv hw;subst hv;subst hw;exact HF pins s σ H _ _ _ _ Q I rx ry ⟨a,b,rfl,rfl,ai r p _ VR.int⟩
  ·rename_i a b;rw[VR]at hv hw;subst hv;subst hw;obtain⟨e,p⟩:=aM p;exact uQ pins s σ H _ _ _ _ Q I rx ry ⟨a,b,rfl,rfl,Wt e,ai r p _ VR.str⟩
  ·rename_i a b
   rw[VR]at hv hw;obtain⟨a1,MR,rfl,k1,k2⟩:=hv;obtain⟨a2,QW,rfl,k3,k4⟩:=hw;obtain⟨e,p⟩:=aM p;simp only[and_eq_true,not_eq_true',decide_eq_true_eq]at e;refine Dq pins s σ H _ _ _ _ Q I rx ry ⟨a1,a2,MR,QW,rfl,rfl,k1,k3,?_,by rw[<-k2.length,<-k4.length];exact e.2,λz=>?_,λ_ q hq=>nI r hq (aq.append k2 k4) p⟩
   ·intro z;subst z
    have:=k2.length;cases a with
    |nil=>simp at e
    |cons _ _=>simp at this
   ·subst z
    have hb:b=[]:=by cases b with|nil=>rfl|cons _ _=>have:=k4.length;simp at this
    subst hb;rw[W8]at p;exact ai r p _ (VR.tup k1 k2)
 |sub=>
  rcases nK (o:=.sub) (by intro z;cases z) v w h with ⟨i,j,rfl,rfl⟩|z
  case inr=>rw[z]at p;exact p.elim
  rw[VR]at hv hw;subst hv;subst hw;exact HG pins s σ H _ _ _ _ Q I rx ry ⟨_,_,rfl,rfl,ai r p _ VR.int⟩
 |mul=>
  rcases nK (o:=.mul) (by intro z;cases z) v w h with ⟨i,j,rfl,rfl⟩|z
  case inr=>rw[z]at p;exact p.elim
  rw[VR]at hv hw;subst hv;subst hw;obtain⟨hm,p⟩:=aM p;refine HH pins s σ H _ _ _ _ Q I rx ry ⟨_,_,rfl,rfl,?_,ai r p _ VR.int⟩;unfold fV at hm;simp only[or_eq_true,and_eq_true,decide_eq_true_eq]at hm;exact hm
 |fdiv=>
  rcases nK (o:=.fdiv) (by intro z;cases z) v w h with ⟨i,j,rfl,rfl⟩|z
  case inr=>rw[z]at p;exact p.elim
  rw[VR]at hv hw;subst hv;subst hw;obtain⟨hm,p⟩:=aM p;exact AK pins s σ H _ _ _ _ Q I rx ry ⟨_,_,rfl,rfl,hm,ai r p _ VR.int⟩
 |mod=>
  rcases nK (o:=.mod) (by intro z;cases z) v w h with ⟨i,j,rfl,rfl⟩|z
  case inr=>rw[z]at p;exact p.elim
  rw[VR]at hv hw;subst hv;subst hw;obtain⟨hm,p⟩:=aM p;exact HJ pins s σ H _ _ _ _ Q I rx ry ⟨_,_,rfl,rfl,Wt hm,ai r p _ VR.int⟩
 |pow=>
  rcases nK (o:=.pow) (by intro z;cases z) v w h with ⟨i,j,rfl,rfl⟩|z
  case inr=>rw[z]at p;exact p.elim
  rw[VR]at hv hw;subst hv;subst hw;obtain⟨hm,p⟩:=aM p;have hm:=Wt hm;exact HK pins s σ H _ _ _ _ Q I rx ry ⟨_,_,rfl,rfl,hm,ai r p _ VR.int⟩
end
section
variable {X:Cx} {cl:Nat->Addr} {EX:Nat->List V->Hp->Prop}
theorem tD{b:Bool}(e:zE h v w=some b):∃d f,toD 16 h v=some d/\toD 16 h w=some f/\b=PyData.eqv d f:=by
 unfold zE at e;obtain⟨d,e1,e⟩:=V0.mp e;obtain⟨f,e2,e⟩:=V0.mp e;exact⟨d,f,e1,e2,(Wr e).symm⟩
theorem wO{K:Frag}{ρ:List Addr}{H:Hp}{v:Val}{x:V}(q:VR K ρ H v x):decide (x=.non)=nG v:=by
 cases v<;>rw[VR]at q
 ·subst q;rfl
 ·subst q;rfl
 ·subst q;rfl
 ·subst q;rfl
 ·obtain⟨a,xs,rfl,_⟩:=q;rfl
 ·obtain⟨a,xs,rfl,_⟩:=q;rfl
 ·exact q.elim
 ·exact q.elim
 ·obtain⟨a,rfl,_⟩:=q;rfl
theorem IK(hu:X.A.units+64<cLine)(neg:Bool):kU X (compareOp (if neg=true then .NotIn else .In)) (λx y H Q=>∃d f ds,Den X.K H d x/\Den X.K H f y/\d.canLay0=true/\f.canLay0=true/\d.depth<=16/\(f=.list ds\/f=.tuple ds)/\Q (.bl (if neg=true then !(ds.any λy=>PyData.eqv y d) else ds.any λy=>PyData.eqv y d)) H):=by
 intro pins s σ H x y v u Q I rx ry hh;obtain⟨d,f,ds,hd,hf,c1,c2,hz,e,q⟩:=hh;obtain⟨as,ra⟩:=Den.reads I d x v c1 hd rx;obtain⟨bs,rb⟩:=Den.reads I f y u c2 hf ry;have Py:X.A.units+1+min (PyData.depthAll ds) d.depth<cLine:=by have:=Nat.min_le_right (PyData.depthAll ds) d.depth;omega
 rcases e with rfl|rfl
 ·have c3:PyData.canLayAll0 ds=true:=by simpa [PyData.canLay0] using c2
  cases neg with
  |true=>exact SeqAt.notIn_list_reads rb ra c3 c1 Py ⟨.bl _,H,I,rfl,q⟩
  |false=>exact SeqAt.in_list_reads rb ra c3 c1 Py ⟨.bl _,H,I,rfl,q⟩
 ·have c3:PyData.canLayAll0 ds=true:=by simpa [PyData.canLay0] using c2
  cases neg with
  |true=>exact SeqAt.notIn_tuple_reads rb ra c3 c1 Py ⟨.bl _,H,I,rfl,q⟩
  |false=>exact SeqAt.in_tuple_reads rb ra c3 c1 Py ⟨.bl _,H,I,rfl,q⟩
theorem gj.val{K:Frag}{ρ:List Addr}{H:Hp}(k:Key):∀{kvs:List (Key×Val)} {ks:List (Key×V)},gj K ρ H kvs ks->(bY kvs k=none->gm ks k=none)/\∀v,bY kvs k=some v->∃x,gm ks k=some x/\VR K ρ H v x
 | [],ks,e=>by
  have:ks=[]:=e;subst this;exact⟨λ_=>rfl,λv z=>by simp[bY]at z⟩
 | (k',v')::kvs,ks,⟨x,r,e,q1,q2⟩=>by
  subst e;obtain⟨a,b⟩:=gj.val k q2
  by_cases hk:k'=k
  ·subst hk;refine⟨λz=>by simp[bY]at z,λv z=>⟨x,by simp[gm],?_⟩⟩;simp[bY]at z;subst z;exact q1
  ·have e1:bY ((k',v')::kvs) k=bY kvs k:=by simp[bY,hk]
   have e2:gm ((k',x)::r) k=gm r k:=by simp[gm,hk]
   rw[e1,e2];exact⟨a,b⟩
theorem gj.length{K:Frag}{ρ:List Addr}{H:Hp}:∀{kvs:List (Key×Val)} {ks:List (Key×V)},gj K ρ H kvs ks->kvs.length=ks.length
 |[],ks,e=>by have:ks=[]:=e;subst this;rfl
 |(k',v')::kvs,ks,⟨x,r,e,q1,q2⟩=>by subst e;simp[gj.length q2]
theorem gj.any{K:Frag}{ρ:List Addr}{H:Hp}(k:Key):∀{kvs:List (Key×Val)} {ks:List (Key×V)},gj K ρ H kvs ks->(kvs.any λkv=>decide (kv.1=k))=(ks.any λkv=>decide (kv.1=k))
 |[],ks,e=>by have:ks=[]:=e;subst this;rfl
 |(k',v')::kvs,ks,⟨x,r,e,q1,q2⟩=>by subst e;simp only[List.any_cons];rw[gj.any k q2]
theorem gj.repl{K:Frag}{ρ:List Addr}{H:Hp}(k:Key){v:Val}{y:V}(q:VR K ρ H v y):∀{kvs:List (Key×Val)} {ks:List (Key×V)},gj K ρ H kvs ks->gj K ρ H (kvs.map λkv=>if kv.1=k then (kv.1,v) else kv) (ks.map λkv=>if kv.1=k then (kv.1,y) else kv)
 |[],ks,e=>by have:ks=[]:=e;subst this;rfl
 | (k',v')::kvs,ks,⟨x,r,e,q1,q2⟩=>by
  subst e;simp only[map_cons]
  by_cases hk:k'=k
  ·rw[Wg hk,Wg hk];exact⟨y,_,rfl,q,gj.repl k q q2⟩
  ·rw[We hk,We hk];exact⟨x,_,rfl,q1,gj.repl k q q2⟩
theorem gj.snoc{K:Frag}{ρ:List Addr}{H:Hp}(k:Key){v:Val}{y:V}(q:VR K ρ H v y):∀{kvs:List (Key×Val)} {ks:List (Key×V)},gj K ρ H kvs ks->gj K ρ H (kvs++[(k,v)]) (ks++[(k,y)])
 |[],ks,e=>by have:ks=[]:=e;subst this;exact⟨y,[],rfl,q,rfl⟩
 |(k',v')::kvs,ks,⟨x,r,e,q1,q2⟩=>by subst e;exact⟨x,_,rfl,q1,gj.snoc k q q2⟩
theorem gj.put{K:Frag}{ρ:List Addr}{H:Hp}(k:Key){v:Val}{y:V}(q:VR K ρ H v y){kvs:List (Key×Val)}{ks:List (Key×V)}(e:gj K ρ H kvs ks):gj K ρ H (kq kvs k v) (putK ks k y):=by
 unfold kq putK;rw[gj.any k e]
 split
 ·exact gj.repl k q e
 ·exact gj.snoc k q e
theorem IL{K:Frag}{ρ:List Addr}{H:Hp}{v:Val}{x:V}{k:Key}(q:VR K ρ H v x)(e:keyOf v=some k):x=kV k:=by
 cases v<;>simp only[keyOf]at e<;>first|cases e|skip
 ·rw[VR]at q;exact q
 ·rw[VR]at q;exact q
theorem wQ(hu:X.A.units+64<cLine):Lx X (λx y H Q=>∃a v,x=.ref a/\mh H a y (some v)/\Q v H):=by
 intro value slice pins s σ H x y v u Q I rx ry h hs;obtain⟨a,z,rfl,g,q⟩:=h;cases rx;have hT:=r6 I g;unfold subscriptTail;refine VZ ?_;rw[getitemInPython_of_ne hT.not_modules];refine VZ (wpAny_specialOf hT PySem.F.slot_dict_getitem.lookup ?_);have fin:wpAny (model X.prog X.w) X.A (subscripted slice false (.ref a) u) (λr s₃=>wpAny (model X.prog X.w) X.A (letTemporaryGo value (.ref a) r >>= λ_=>pure r) (EP X pins σ Q) X.xe s₃) X.xe s:=by rw[hs];exact wpAny_operating (yw (by omega) I g ry λw' s' I' r'=>VZ (wpAny_letTemporaryGo (V6 ⟨z,H,I',r',q⟩)))
 first
  |exact V6 (VZ fin)
  |exact VZ (V6 (VZ fin))
  |exact VZ fin
def rC(B:Bd)(o:IF):R2:=λx y H Q=>∃ρ h v w b,HR B ρ h H/\VR B.K ρ H v x/\VR B.K ρ H w y/\cop h o v w=some b/\Q (.bl b) H
theorem AL{b:Bool}(e:memD h v w=some b):∃d f ds,toD 16 h v=some d/\toD 16 h w=some f/\(f=.list ds\/f=.tuple ds)/\b=ds.any λy=>PyData.eqv y d:=by
 unfold memD at e;obtain⟨f,e1,e⟩:=V0.mp e;obtain⟨d,e2,e⟩:=V0.mp e;cases f<;>simp only[MP]at e<;>first|cases e|skip
 ·exact⟨d,_,_,e2,e1,.inl rfl,rfl⟩
 ·exact⟨d,_,_,e2,e1,.inr rfl,rfl⟩
theorem AM(hu:X.A.units+64<cLine)(o:IF):kU X (compareOp (wN o)) (rC (bd X cl) o):=by
 intro pins s σ H x y v' u' Q I rx ry hh;obtain⟨ρ,h,v,w,b,r,hv,hw,e,q⟩:=hh;have mem:∀(neg:Bool),sU h v w=some (if neg=true then !b else b)->wpAny (model X.prog X.w) X.A (compareOp (if neg=true then .NotIn else .In) v' u') (EP X pins σ Q) X.xe s:=by
  intro neg e;obtain⟨d,f,ds,e1,e2,e3,eb⟩:=AL e
  ·obtain⟨a1,a2,a3⟩:=lu r 16 v x d hv e1
   obtain⟨b1,b2,b3⟩:=lu r 16 w y f hw e2;refine IK hu neg pins s σ H x y v' u' Q I rx ry ⟨d,f,ds,a1,b1,a2,b2,a3,e3,?_⟩;cases neg with
   |true=>rw[Wg rfl]at eb |-;rw[<-eb,Bool.not_not];exact q
   |false=>rw[We V1]at eb |-;rw[<-eb];exact q
 cases o with
 |eq=>obtain⟨d,f,e1,e2,rfl⟩:=tD (show zE h v w=some b by exact e);obtain⟨a1,a2,a3⟩:=lu r 16 v x d hv e1;obtain⟨b1,b2,b3⟩:=lu r 16 w y f hw e2;exact Im hu pins s σ H x y v' u' Q I rx ry ⟨d,f,a1,b1,a2,b2,by omega,q⟩
 |ne=>have e':(zE h v w).map (!·)=some b:=e;obtain⟨c,e3,rfl⟩:=Wu.mp e';obtain⟨d,f,e1,e2,rfl⟩:=tD e3;obtain⟨a1,a2,a3⟩:=lu r 16 v x d hv e1;obtain⟨b1,b2,b3⟩:=lu r 16 w y f hw e2;exact Io hu pins s σ H x y v' u' Q I rx ry ⟨d,f,a1,b1,a2,b2,by omega,q⟩
 |lt=>obtain⟨i,j,rfl,rfl⟩:=iP (.inl rfl) e;cases e;rw[VR]at hv;rw[VR]at hw;subst hv;subst hw;exact Mg pins s σ H _ _ v' u' Q I rx ry ⟨_,_,rfl,rfl,q⟩
 |le=>obtain⟨i,j,rfl,rfl⟩:=iP (.inr (.inl rfl)) e;cases e;rw[VR]at hv;rw[VR]at hw;subst hv;subst hw;exact Mh pins s σ H _ _ v' u' Q I rx ry ⟨_,_,rfl,rfl,q⟩
 |gt=>obtain⟨i,j,rfl,rfl⟩:=iP (.inr (.inr (.inl rfl))) e;cases e;rw[VR]at hv;rw[VR]at hw;subst hv;subst hw;exact Mi pins s σ H _ _ v' u' Q I rx ry ⟨_,_,rfl,rfl,q⟩
 |ge=>obtain⟨i,j,rfl,rfl⟩:=iP (.inr (.inr (.inr rfl))) e;cases e;rw[VR]at hv;rw[VR]at hw;subst hv;subst hw;exact Mj pins s σ H _ _ v' u' Q I rx ry ⟨_,_,rfl,rfl,q⟩
 |isn=>
  have e:Gg v w=some b:=e;cases w<;>first|(cases e;done)|skip
  ·cases e;rw[VR]at hw;subst hw;refine HL pins s σ H x _ v' u' Q I rx ry ⟨rfl,?_⟩;rw[wO hv];exact q
  ·cases v<;>first|(cases e;done)|skip
   cases e;rw[VR]at hv;rw[VR]at hw;subst hv;subst hw;exact Ip pins s σ H _ _ v' u' Q I rx ry ⟨_,_,rfl,rfl,q⟩
 |ntn=>
  have e:(Gg v w).map (!·)=some b:=e;cases w<;>first|(cases e;done)|skip
  ·cases e;rw[VR]at hw;subst hw;refine Dg pins s σ H x _ v' u' Q I rx ry ⟨rfl,?_⟩;rw[wO hv];exact q
  ·cases v<;>first|(cases e;done)|skip
   cases e;rw[VR]at hv;rw[VR]at hw;subst hv;subst hw;exact DM pins s σ H _ _ v' u' Q I rx ry ⟨_,_,rfl,rfl,q⟩
 |LA=>exact mem false (by rw[We V1];exact e)
 |nin=>have e':(sU h v w).map (!·)=some b:=e;obtain⟨c,e3,rfl⟩:=Wu.mp e';exact mem true (by rw[e3];simp)
theorem IM{b:Bool}(r:HR B ρ h H)(q:VR B.K ρ H v x)(e:cG h v=some b):HM B.K x H b:=by
 cases v with
 |non=>rw[VR]at q;subst q;exact(Wr e).symm
 |bl c=>rw[VR]at q;subst q;exact(Wr e).symm
 |int i=>rw[VR]at q;subst q;exact(Wr e).symm
 |str z=>
  rw[VR]at q;subst q;simp only[cG]at e;split at e
  ·rename_i hl;exact⟨hl,(Wr e).symm⟩
  ·cases e
 |tup vs=>rw[VR]at q;obtain⟨a,xs,rfl,q1,q2⟩:=q;refine .inr (.inl ⟨xs,q1,?_⟩);rw[<-Wr e];have:=q2.length;cases vs<;>cases xs<;>simp_all
 |rl vs=>rw[VR]at q;obtain⟨a,xs,rfl,q1,q2⟩:=q;refine .inl ⟨xs,q1.sq,?_⟩;rw[<-Wr e];have:=q2.length;cases vs<;>cases xs<;>simp_all
 |dc _ _=>rw[VR]at q;exact q.elim
 |ob _ _ _=>rw[VR]at q;exact q.elim
 |ref i=>
  rw[VR]at q;obtain⟨a,rfl,q1⟩:=q;simp only[cG]at e;split at e
  ·rename_i vs e1;obtain⟨xs,k1,k2⟩:=r.ob i _ a e1 q1;refine .inl ⟨xs,.inl (.inl k1),?_⟩;rw[<-Wr e];have:=k2.length;cases vs<;>cases xs<;>simp_all
  ·rename_i vs e1;obtain⟨xs,k1,k2⟩:=r.ob i _ a e1 q1;refine .inr (.inr ⟨xs,k1,?_⟩);rw[<-Wr e];have:=k2.length;cases vs<;>cases xs<;>simp_all
  ·cases e
def QX(B:Bd):R2:=λx y H Q=>∃ρ h v w z,HR B ρ h H/\VR B.K ρ H v x/\VR B.K ρ H w y/\iM h v w=some z/\∀u,VR B.K ρ H z u->Q u H
theorem IP(hu:X.A.units+64<cLine):Lx X (QX (bd X cl)):=by
 intro value slice pins s σ H x y v' u' Q I rx ry hh hs;obtain⟨ρ,h,v,w,z,r,hv,hw,e,q⟩:=hh;cases v with
 |str t=>
  cases w<;>first|cases e|skip
  rename_i i;change (if t.length<=sizeLine then (gJ t.cps.toList i).map (λc=>Val.str ⟨[c].toArray⟩) else none)=some z at e;split at e
  ·rename_i hl;obtain⟨c,e1,rfl⟩:=Wu.mp e;rw[VR]at hv;rw[VR]at hw;subst hv;subst hw;exact HW value slice pins s σ H _ _ v' u' Q I rx ry ⟨t,i,c,rfl,rfl,hl,e1,q _ VR.str⟩ hs
  ·cases e
 |tup vs=>
  cases w<;>first|cases e|skip
  rename_i i;rw[VR]at hv;rw[VR]at hw;subst hw;obtain⟨a,xs,rfl,q1,q2⟩:=hv;obtain⟨t,e2,q3⟩:=aq.gJ q2 e;exact HV value slice pins s σ H _ _ v' u' Q I rx ry ⟨a,xs,i,t,rfl,rfl,q1,e2,q _ q3⟩ hs
 |rl vs=>
  cases w<;>first|cases e|skip
  rename_i i;rw[VR]at hv;rw[VR]at hw;subst hw;obtain⟨a,xs,rfl,q1,q2⟩:=hv;obtain⟨t,e2,q3⟩:=aq.gJ q2 e;exact wo value slice pins s σ H _ _ v' u' Q I rx ry ⟨a,xs,i,t,rfl,rfl,q1.sq,e2,q _ q3⟩ hs
 |ref j=>
  cases w with
  |int i=>
   change (match h[j]? with|some (.dct kvs)=>bY kvs (.inl i)|_=>(ay h (.ref j)).bind λxs=>gJ xs i)=some z at e;split at e
   ·rename_i kvs e1;rw[VR]at hv;obtain⟨a,rfl,q1⟩:=hv;obtain⟨ks,k1,k2⟩:=r.ob j _ a e1 q1;obtain⟨t,e2,q3⟩:=(gj.val (.inl i) k2).2 z e;have g:mh H a (kV (.inl i)) (gm ks (.inl i)):=mh.k k1;rw[e2]at g;rw[VR]at hw;subst hw;exact wQ hu value slice pins s σ H _ _ v' u' Q I rx ry ⟨a,t,rfl,g,q _ q3⟩ hs
   ·obtain⟨vs,e1,e⟩:=V0.mp e;obtain⟨a,xs,rfl,q1,q2⟩:=dP r hv e1;rw[VR]at hw;subst hw;obtain⟨t,e2,q3⟩:=aq.gJ q2 e;exact wo value slice pins s σ H _ _ v' u' Q I rx ry ⟨a,xs,i,t,rfl,rfl,q1,e2,q _ q3⟩ hs
  |str y=>
   change (match h[j]? with|some (.dct kvs)=>bY kvs (.inr y)|_=>none)=some z at e;split at e
   ·rename_i kvs e1;rw[VR]at hv;obtain⟨a,rfl,q1⟩:=hv;obtain⟨ks,k1,k2⟩:=r.ob j _ a e1 q1;obtain⟨t,e2,q3⟩:=(gj.val (.inr y) k2).2 z e;have g:mh H a (kV (.inr y)) (gm ks (.inr y)):=mh.k k1;rw[e2]at g;rw[VR]at hw;subst hw;exact wQ hu value slice pins s σ H _ _ v' u' Q I rx ry ⟨a,t,rfl,g,q _ q3⟩ hs
   ·cases e
  |_=>cases e
 |dc _ _=>rw[VR]at hv;exact hv.elim
 |_=>cases w<;>cases e
def Uz(B:Bd)(EX:Nat->List V->Hp->Prop):V->Option Int->Option Int->Hp->VK->Prop:=λx lo hi H Q=>∃ρ h v,HR B ρ h H/\VR B.K ρ H v x/\Post B EX ρ H (WV B.K Q) (oZ v lo hi h)
theorem IQ:Pk X (Uz (bd X cl) EX):=by
 intro pins s σ H x v' vl vu lo hi sl Q I rx hs pl pu hh;obtain⟨ρ,h,v,r,hv,p⟩:=hh;have lists:Post (bd X cl) EX ρ H (WV X.K Q) (bnd (ask λh=>ay h v) (λxs=>new (.lst (fh xs lo hi))) h)->∃T id,typeLookup (.type T) "__getitem__" = pure (some (.builtin id))/\s.TypeIs v' T/\wpAny (model X.prog X.w) X.A (getItem v' (.ref sl)) (EP X pins σ Q) X.xe s:=by intro p;obtain⟨a,e1,p⟩:=aD p;obtain⟨a1,MR,rfl,k1,k2⟩:=dP r hv e1;exact Dr pins s σ H _ v' vl vu lo hi sl Q I rx hs pl pu ⟨a1,MR,rfl,k1,λq hq=>dQ r hq (aq.cut lo hi k2) p⟩
 cases v with
 |tup vs=>simp only[oZ]at p;rw[VR]at hv;obtain⟨a,xs,rfl,q1,q2⟩:=hv;obtain⟨e,p⟩:=aM p;refine HU pins s σ H _ v' vl vu lo hi sl Q I rx hs pl pu ⟨a,xs,rfl,q1,?_,λq hq=>nI r hq (aq.cut lo hi q2) p⟩;rw[<-q2.length];simp only[not_eq_true',Bool.and_eq_false_iff,decide_eq_false_iff_not]at e;rintro⟨z1,z2⟩;exact e.elim (λk=>k z1) λk=>k z2
 |_=>exact lists p
end
end Hv
end
section
set_option backward.match.sparseCases false
namespace Hv
open PySem L2 PyProof.Rows
section
variable {X:Cx} {cl:Nat->Addr} {EX:Nat->List V->Hp->Prop}
def CW(B:Bd)(EX:Nat->List V->Hp->Prop)(b:Bl):List V->Hp->VK->Prop:=λxs H Q=>∃ρ h vs,HR B ρ h H/\aq B.K ρ H vs xs/\Post B EX ρ H (WV B.K Q) (blt b vs h)
theorem IT:bN X (.builtin "len") (CW (bd X cl) EX .len):=by
 intro pins s σ H xs us Q I rr hh;obtain⟨ρ,h,vs,r,hv,p⟩:=hh
 match vs,p with
 |[v],p=>
  obtain⟨n,e,p⟩:=aD p;obtain⟨x,rfl,hx⟩:=aq.one hv;have fin:=ai r p _ VR.int;cases v with
  |str z=>
   simp only[kr]at e;split at e
   ·rename_i hl;cases e;rw[VR]at hx;subst hx;exact L2.j5 pins s σ H _ us Q I rr ⟨_,z.length,rfl,⟨hl,rfl⟩,fin⟩
   ·cases e
  |tup vs=>simp only[kr]at e;cases e;rw[VR]at hx;obtain⟨a,ys,rfl,q1,q2⟩:=hx;refine L2.j5 pins s σ H _ us Q I rr ⟨_,ys.length,rfl,.inr ⟨ys,q1,rfl⟩,?_⟩;rw[<-q2.length];exact fin
  |rl vs=>simp only[kr]at e;cases e;rw[VR]at hx;obtain⟨a,ys,rfl,q1,q2⟩:=hx;refine L2.j5 pins s σ H _ us Q I rr ⟨_,ys.length,rfl,.inl ⟨ys,q1.sq,rfl⟩,?_⟩;rw[<-q2.length];exact fin
  |dc _ _=>rw[VR]at hx;exact hx.elim
  |ob _ _ _=>rw[VR]at hx;exact hx.elim
  |ref i=>
   rw[VR]at hx;obtain⟨a,rfl,q1⟩:=hx;simp only[kr]at e;split at e
   ·rename_i vs e1;cases e;obtain⟨ys,k1,k2⟩:=r.ob i _ a e1 q1;refine L2.j5 pins s σ H _ us Q I rr ⟨_,ys.length,rfl,.inl ⟨ys,.inl (.inl k1),rfl⟩,?_⟩;rw[<-k2.length];exact fin
   ·rename_i vs e1;cases e;obtain⟨ks,k1,k2⟩:=r.ob i _ a e1 q1;refine yC pins s σ H _ us Q I rr ⟨a,ks,rfl,k1,?_⟩;rw[<-k2.length];exact fin
   ·cases e
  |_=>simp only[kr]at e;cases e
theorem IU(hc:X.calm=true):bN X (.builtin "min") (CW (bd X cl) EX .min):=by
 intro pins s σ H xs us Q I rr hh;obtain⟨ρ,h,vs,r,hv,p⟩:=hh;have seq:∀v,vs=[v]->Post (bd X cl) EX ρ H (WV X.K Q) (bnd (ask λh=>cC h v) (λxs=>aT ((aS xs).bind qT)) h)->wpAny (model X.prog X.w) X.A (call (.builtin "min") us) (EP X pins σ Q) X.xe s:=by
  rintro v rfl p;obtain⟨zs,e,p⟩:=aD p;obtain⟨x,rfl,hx⟩:=aq.one hv;obtain⟨a,ys,rfl,q1,q2⟩:=vz r hx e;obtain⟨m,e1,p⟩:=bT r p;obtain⟨ns,e2,e3⟩:=V0.mp e1;rw[cR e2]at q2;rw[aq.ints.mp q2]at q1;have hne:0<ns.length:=by cases ns with|nil=>cases e3|cons _ _=>simp
  refine qN hc pins s σ H _ us Q I rr ⟨a,ns,rfl,q1,hne,λm hm hmin=>?_⟩;rw[yT hm hmin]at e3;cases e3;exact p _ VR.int
 match vs,p with
 |[.int a,.int b],p=>obtain⟨x,y,rfl,hx,hy⟩:=aq.two hv;rw[VR]at hx;rw[VR]at hy;subst hx;subst hy;exact yo hc pins s σ H _ us Q I rr ⟨a,b,rfl,ai r p _ VR.int⟩
 |[v],p=>exact seq v rfl (by cases v<;>exact p)
theorem IV(hc:X.calm=true):bN X (.builtin "max") (CW (bd X cl) EX .max):=by
 intro pins s σ H xs us Q I rr hh;obtain⟨ρ,h,vs,r,hv,p⟩:=hh;have seq:∀v,vs=[v]->Post (bd X cl) EX ρ H (WV X.K Q) (bnd (ask λh=>cC h v) (λxs=>aT ((aS xs).bind qU)) h)->wpAny (model X.prog X.w) X.A (call (.builtin "max") us) (EP X pins σ Q) X.xe s:=by
  rintro v rfl p;obtain⟨zs,e,p⟩:=aD p;obtain⟨x,rfl,hx⟩:=aq.one hv;obtain⟨a,ys,rfl,q1,q2⟩:=vz r hx e;obtain⟨m,e1,p⟩:=bT r p;obtain⟨ns,e2,e3⟩:=V0.mp e1;rw[cR e2]at q2;rw[aq.ints.mp q2]at q1;have hne:0<ns.length:=by cases ns with|nil=>cases e3|cons _ _=>simp
  refine qO hc pins s σ H _ us Q I rr ⟨a,ns,rfl,q1,hne,λm hm hmin=>?_⟩;rw[yU hm hmin]at e3;cases e3;exact p _ VR.int
 match vs,p with
 |[.int a,.int b],p=>obtain⟨x,y,rfl,hx,hy⟩:=aq.two hv;rw[VR]at hx;rw[VR]at hy;subst hx;subst hy;exact ym hc pins s σ H _ us Q I rr ⟨a,b,rfl,ai r p _ VR.int⟩
 |[v],p=>exact seq v rfl (by cases v<;>exact p)
theorem yV:bN X (.builtin "sorted") (CW (bd X cl) EX .sorted):=by
 intro pins s σ H xs us Q I rr hh;obtain⟨ρ,h,vs,r,hv,p⟩:=hh
 match vs,p with
 |[v],p=>
  obtain⟨zs,e,p⟩:=aD p;obtain⟨out,e1,p⟩:=bK p;obtain⟨x,rfl,hx⟩:=aq.one hv;obtain⟨a,ys,rfl,q1,q2⟩:=dP r hx e;unfold fz at e1;split at e1
  ·rename_i h64
   cases e2:aS zs with
   |some ns=>rw[e2]at e1;cases e1;rw[cR e2]at q2 h64;rw[aq.ints.mp q2]at q1;rw[V9]at h64;exact k8 pins s σ H _ us Q I rr ⟨a,ns,rfl,q1,h64,λl hl=>dQ r hl (aq.ints.mpr rfl) p⟩
   |none=>rw[e2]at e1;obtain⟨mP,e3,e4⟩:=V0.mp e1;cases e4;obtain⟨g1,g2⟩:=qa e3;rw[g1]at q2 h64;obtain⟨rs,r1,r2,r3⟩:=aq.tups q2;rw[r1]at q1;rw[V9,r2,V9]at h64;refine k9 pins s σ H _ us Q I rr ⟨a,rs,rfl,q1,h64,λp hp=>⟨r3 p hp,g2 _ (by rw[r2];exact Ys hp)⟩,λl qs hl hp hs=>?_⟩;have e4:qs.map (·.2)=ko mP:=AI (by rw[r2];exact hp.map _) (Xx.mpr hs);rw[<-e4]at p;exact dQ r hl (aq.wK λz hz=>r3 z (hp.mem_iff.mp hz)) p
  ·cases e1
theorem DZ:bN X (.type "list") (CW (bd X cl) EX .list):=by
 intro pins s σ H xs us Q I rr hh;obtain⟨ρ,h,vs,r,hv,p⟩:=hh
 match vs,p with
 |[v],p=>obtain⟨zs,e,p⟩:=aD p;obtain⟨x,rfl,hx⟩:=aq.one hv;obtain⟨a,ys,rfl,q1,q2⟩:=vz r hx e;exact qH pins s σ H _ us Q I rr ⟨a,ys,rfl,q1,λl hl=>dQ r hl q2 p⟩
theorem AN:bN X (.type "tuple") (CW (bd X cl) EX .tuple):=by
 intro pins s σ H xs us Q I rr hh;obtain⟨ρ,h,vs,r,hv,p⟩:=hh;exact(show False from p).elim
theorem IW:bN X (.type "str") (CW (bd X cl) EX .str):=by
 intro pins s σ H xs us Q I rr hh;obtain⟨ρ,h,vs,r,hv,p⟩:=hh;exact(show False from p).elim
theorem IX:bN X (.type "int") (CW (bd X cl) EX .int):=by
 intro pins s σ H xs us Q I rr hh;obtain⟨ρ,h,vs,r,hv,p⟩:=hh
 match vs,p with
 |[.int i],p=>obtain⟨x,rfl,hx⟩:=aq.one hv;rw[VR]at hx;subst hx;exact pD pins s σ H _ us Q I rr (.inl ⟨i,rfl,ai r p _ VR.int⟩)
 |[.bl i],p=>obtain⟨x,rfl,hx⟩:=aq.one hv;rw[VR]at hx;subst hx;exact pD pins s σ H _ us Q I rr (.inr ⟨i,rfl,ai r p _ VR.int⟩)
theorem IY(hc:X.calm=true):bN X (.builtin "all") (CW (bd X cl) EX .all):=by
 intro pins s σ H xs us Q I rr hh;obtain⟨ρ,h,vs,r,hv,p⟩:=hh
 match vs,p with
 |[v],p=>obtain⟨zs,e,p⟩:=aD p;obtain⟨bs,e1,p⟩:=bK p;obtain⟨x,rfl,hx⟩:=aq.one hv;obtain⟨a,ys,rfl,q1,q2⟩:=dP r hx e;rw[nJ e1]at q2;rw[aq.bools.mp q2]at q1;exact oR hc pins s σ H _ us Q I rr ⟨a,bs,rfl,q1,ai r p _ VR.bl⟩
theorem IZ(hc:X.calm=true):bN X (.builtin "any") (CW (bd X cl) EX .any):=by
 intro pins s σ H xs us Q I rr hh;obtain⟨ρ,h,vs,r,hv,p⟩:=hh;exact(show False from p).elim
def UA(B:Bd)(EX:Nat->List V->Hp->Prop)(T:String):List V->Hp->VK->Prop:=λxs H Q=>∃ρ h v x,xs=[x,.ty T]/\HR B ρ h H/\VR B.K ρ H v x/\Post B EX ρ H (WV B.K Q) (blt (.isin T) [v] h)
theorem D0(K:Frag)(t T:String)(ht:t∈["NoneType","bool","int","str","list","tuple","dict"])(hT:T∈["list","tuple","str","bool","int","dict"]) :
  kitOne K (.type t) (.type T)=some (decide (T=t\/(T = "int" /\ t = "bool"))):=by
 simp only[mem_cons,not_mem_nil,or_false]at ht hT
 rcases ht with rfl|rfl|rfl|rfl|rfl|rfl|rfl<;>rcases hT with rfl|rfl|rfl|rfl|rfl|rfl<;>rfl
theorem D3{T:String}:bN X (.builtin "isinstance") (UA (bd X cl) EX T):=by
 intro pins s σ H xs us Q I rr hh;obtain⟨ρ,h,v,x,rfl,r,hx,p⟩:=hh;obtain⟨u,w',rfl,r1,r2⟩:=vals2 rr;cases r2;obtain⟨t,e,p⟩:=aD p;obtain⟨b,e1,p⟩:=bK p;have q:=ai r p _ VR.bl;unfold sX at e1;split at e1
 ·rename_i UB
  have hT:T∈["list","tuple","str","bool","int","dict"]:=by simpa using UB
  cases e1;have fin:∀tk,EP X pins σ Q (.bool (decide (T=t\/(T = "int" /\ t = "bool")))) { s with toks:=tk }:=λtk=>⟨.bl _,H,I.tok _,rfl,q⟩;have tab:=λht=>D0 X.K t T ht hT;cases v with
  |non=>rw[VR]at hx;subst hx;cases r1;simp only[sW]at e;cases e;exact W2 PySem.W.kitx_none I.kT Xe (tab (by simp)) (λz=>nomatch z) fin
  |bl c=>rw[VR]at hx;subst hx;cases r1;simp only[sW]at e;cases e;exact W2 PySem.W.kitx_bool I.kT Xe (tab (by simp)) (λz=>nomatch z) fin
  |int i=>rw[VR]at hx;subst hx;obtain⟨t',rfl⟩:=r1;simp only[sW]at e;cases e;exact W2 PySem.W.kitx_int I.kT Xe (tab (by simp)) (λz=>nomatch z) fin
  |str i=>rw[VR]at hx;subst hx;obtain⟨t',rfl⟩:=r1;simp only[sW]at e;cases e;exact W2 PySem.W.kitx_str I.kT Xe (tab (by simp)) (λz=>nomatch z) fin
  |tup vs=>rw[VR]at hx;obtain⟨a,ys,rfl,q1,_⟩:=hx;cases r1;simp only[sW]at e;cases e;obtain⟨_,_,⟨o,e1,e2,_⟩,_⟩:=I.tuple q1;exact W2 PySem.W.kitx_tuple I.kT ⟨o,e1,e2⟩ (tab (by simp)) (λz=>nomatch z) fin
  |rl vs=>rw[VR]at hx;obtain⟨a,ys,rfl,q1,_⟩:=hx;cases r1;simp only[sW]at e;cases e;obtain⟨_,_,⟨o,n,e1,e2,_⟩,_⟩:=I.list q1.sq;exact W2 kitx_list I.kT ⟨o,e1,e2⟩ (tab (by simp)) (λz=>nomatch z) fin
  |dc _ _=>rw[VR]at hx;exact hx.elim
  |ob _ _ _=>rw[VR]at hx;exact hx.elim
  |ref i=>
   rw[VR]at hx;obtain⟨a,rfl,q1⟩:=hx;cases r1;simp only[sW]at e;split at e
   ·rename_i vs e1;cases e;obtain⟨ys,k1,k2⟩:=r.ob i _ a e1 q1;obtain⟨_,_,⟨o,n,e1,e2,_⟩,_⟩:=I.list (xs:=ys) (.inl (.inl k1));exact W2 kitx_list I.kT ⟨o,e1,e2⟩ (tab (by simp)) (λz=>nomatch z) fin
   ·rename_i vs e1;cases e;obtain⟨ks,k1,k2⟩:=r.ob i _ a e1 q1;obtain⟨_,_,vs,_,p⟩:=(show bx X.prog X.w H s.heap a (.dK ks) from I.hok a _ k1);obtain⟨o,es,ep,h1,h2,_⟩:=p;exact W2 PySem.W.kitx_dict I.kT ⟨o,h1,h2.1⟩ (tab (by simp)) (λz=>nomatch z) fin
   ·cases e
 ·cases e1
def MS(B:Bd)(EX:Nat->List V->Hp->Prop)(m:Me):V->List V->Hp->VK->Prop:=λx xs H Q=>∃ρ h v vs,HR B ρ h H/\VR B.K ρ H v x/\aq B.K ρ H vs xs/\Post B EX ρ H (WV B.K Q) (met m v vs h)
theorem D4:Ly X "str.join" (MS (bd X cl) EX .join):=by
 intro pins s σ H x xs u us Q I ru rr hh;obtain⟨ρ,h,v,vs,r,hv,hvs,p⟩:=hh;exact(show False from p).elim
theorem nL{i:Nat}(r:HR B ρ h H)(hi:ρ[i]?=some a)(e:h[i]?=some u)(eU:H a=some U)(hm:Mu U=true)(q:OR B ρ (upd H a O) a o)
  (p:Post B EX ρ H (WV B.K Q) (bnd (put i o) (λ_=>ret Val.non) h)):Q .non (upd H a O) :=
 p ρ (upd H a O) (Gr.put (Wn hi) eU hm) (r.put hi e q) _ VR.non
theorem yW:Ly X "list.append" (MS (bd X cl) EX .append):=by
 intro pins s σ H x xs v' us Q I rx rv hh;obtain⟨ρ,h,v,vs,r,hv,hvs,p⟩:=hh
 match v,vs,p with
 |.ref i,[w],p=>
  obtain⟨zs,e,p⟩:=aD p;split at e
  ·rename_i zs' e1;cases e;obtain⟨e2,p⟩:=aM p;obtain⟨a,ys,rfl,q0,q1,q2⟩:=jt r hv e1;obtain⟨y,rfl,hy⟩:=aq.one hvs;refine pK pins s σ H _ _ v' us Q I rx rv ⟨a,ys,y,rfl,rfl,q1,by rw[<-q2.length];exact Wt e2,?_⟩;have g:Gr ρ H ρ (upd H a (.lst (ys++[y]))):=Gr.put (Wn q0) q1 rfl;exact nL (o:=.lst (zs++[w])) r q0 e1 q1 rfl ⟨_,az,aq.append (aq.up g _ _ q2) (aq.up g _ _ (aq.cons hy aq.nil))⟩ p
  ·cases e
theorem yX:Ly X "list.extend" (MS (bd X cl) EX .extend):=by
 intro pins s σ H x xs v' us Q I rx rv hh;obtain⟨ρ,h,v,vs,r,hv,hvs,p⟩:=hh
 match v,vs,p with
 |.ref i,[w],p=>
  obtain⟨zs,e,p⟩:=aD p;split at e
  ·rename_i zs' e1;cases e
   obtain⟨ws,e3,p⟩:=aD p;obtain⟨e2,p⟩:=aM p;have e2:=Wt e2;obtain⟨a,ys,rfl,q0,q1,q2⟩:=jt r hv e1;obtain⟨y,rfl,hy⟩:=aq.one hvs;have fin:∀(bs:List V),aq X.K ρ H ws bs->Q .non (upd H a (.lst (ys++bs))):=λbs hb=>by
    have g:Gr ρ H ρ (upd H a (.lst (ys++bs))):=Gr.put (Wn q0) q1 rfl;exact nL (o:=.lst (zs++ws)) r q0 e1 q1 rfl ⟨_,az,aq.append (aq.up g _ _ q2) (aq.up g _ _ hb)⟩ p
   cases w with
   |tup ts=>simp only[sS]at e3;cases e3;rw[VR]at hy;obtain⟨b,bs,rfl,k1,k2⟩:=hy;exact ve pins s σ H _ _ v' us Q I rx rv ⟨a,b,ys,bs,rfl,rfl,q1,k1,by rw[<-q2.length,<-k2.length];exact e2,fin bs k2⟩
   |ref j=>
    simp only[sS,ay]at e3;split at e3
    ·rename_i ts e4;cases e3;obtain⟨b,bs,rfl,k0,k1,k2⟩:=jt r hy e4;exact yu pins s σ H _ _ v' us Q I rx rv ⟨a,b,ys,bs,rfl,rfl,q1,k1,by rw[<-q2.length,<-k2.length];exact e2,fin bs k2⟩
    ·cases e3
   |_=>simp only[sS]at e3;cases e3
  ·cases e
theorem aq.era{K:Frag}{ρ:List Addr}{H:Hp}:∀{vs:List Val} {xs:List V} (n:Nat),aq K ρ H vs xs->aq K ρ H (vs.eraseIdx n) (xs.eraseIdx n)
 |[],_,n,e=>by rw[aq]at e;subst e;exact aq.nil
 | _::_,_,n,e=>by
  rw[aq]at e;obtain⟨x,r,rfl,e1,e2⟩:=e;cases n with
  |zero=>exact e2
  |succ n=>exact aq.cons e1 (aq.era n e2)
theorem yY:Ly X "list.remove" (MS (bd X cl) EX .remove):=by
 intro pins s σ H x xs v' us Q I rx rv hh;obtain⟨ρ,h,v,vs,r,hv,hvs,p⟩:=hh
 match v,vs,p with
 |.ref i,[.int k],p=>
  obtain⟨zs,e,p⟩:=aD p;split at e
  ·rename_i zs' e1;cases e;obtain⟨ks,e3,p⟩:=bK p;obtain⟨e2,p⟩:=aM p;have e3:=cR e3;subst e3;obtain⟨a,ys,rfl,q0,q1,q2⟩:=jt r hv e1;have hys:=aq.ints.mp q2;subst hys;obtain⟨y,rfl,hy⟩:=aq.one hvs;rw[VR]at hy;subst hy;refine yN pins s σ H _ _ v' us Q I rx rv ⟨a,ks,k,rfl,rfl,q1,Wt e2,?_⟩;have g:Gr ρ H ρ (upd H a (.lst ((ks.map V.int).eraseIdx (ks.idxOf k)))):=Gr.put (Wn q0) q1 rfl;exact nL (o:=.lst ((ks.map Val.int).eraseIdx (ks.idxOf k))) r q0 e1 q1 rfl ⟨_,az,aq.era _ (aq.up g _ _ q2)⟩ p
  ·cases e
end
def nM(f:Str->Pos->Bool):Expr->Bool
 |.Name a b=>f a b
 |_=>false
theorem qW{f:Str->Pos->Bool}{P:Expr->Prop}{e:Expr}(h:nM f e=true)(H:∀a b,f a b=true->P (.Name a b)):P e:=by
 cases e<;>first|exact H _ _ h|exact(V1 h).elim
def vA(f:Const->Nat->Pos->Bool):Expr->Bool
 |.Constant a b c=>f a b c
 |_=>false
theorem tE{f:Const->Nat->Pos->Bool}{P:Expr->Prop}{e:Expr}(h:vA f e=true)(H:∀a b c,f a b c=true->P (.Constant a b c)):P e:=by
 cases e<;>first|exact H _ _ _ h|exact(V1 h).elim
def MT(f:Expr->Operator->Expr->Pos->Bool):Expr->Bool
 |.BinOp a b c d=>f a b c d
 |_=>false
theorem I0{f:Expr->Operator->Expr->Pos->Bool}{P:Expr->Prop}{e:Expr}(h:MT f e=true)(H:∀a b c d,f a b c d=true->P (.BinOp a b c d)):P e:=by
 cases e<;>first|exact H _ _ _ _ h|exact(V1 h).elim
def QY(f:UnaryOp->Expr->Pos->Bool):Expr->Bool
 |.UnaryOp a b c=>f a b c
 |_=>false
theorem Gj{f:UnaryOp->Expr->Pos->Bool}{P:Expr->Prop}{e:Expr}(h:QY f e=true)(H:∀a b c,f a b c=true->P (.UnaryOp a b c)):P e:=by
 cases e<;>first|exact H _ _ _ h|exact(V1 h).elim
def MU(f:Expr->List CmpOp->List Expr->Pos->Bool):Expr->Bool
 |.Compare a b c d=>f a b c d
 |_=>false
theorem Ja{f:Expr->List CmpOp->List Expr->Pos->Bool}{P:Expr->Prop}{e:Expr}(h:MU f e=true)(H:∀a b c d,f a b c d=true->P (.Compare a b c d)):P e:=by
 cases e<;>first|exact H _ _ _ _ h|exact(V1 h).elim
def qX(f:BoolOp->List Expr->Pos->Bool):Expr->Bool
 |.BoolOp a b c=>f a b c
 |_=>false
theorem qb{f:BoolOp->List Expr->Pos->Bool}{P:Expr->Prop}{e:Expr}(h:qX f e=true)(H:∀a b c,f a b c=true->P (.BoolOp a b c)):P e:=by
 cases e<;>first|exact H _ _ _ h|exact(V1 h).elim
def MV(f:List Expr->Nat->Pos->Bool):Expr->Bool
 |.Tuple a b c=>f a b c
 |_=>false
theorem Jb{f:List Expr->Nat->Pos->Bool}{P:Expr->Prop}{e:Expr}(h:MV f e=true)(H:∀a b c,f a b c=true->P (.Tuple a b c)):P e:=by
 cases e<;>first|exact H _ _ _ h|exact(V1 h).elim
def MW(f:List Expr->Pos->Bool):Expr->Bool
 |.List a b=>f a b
 |_=>false
theorem Jc{f:List Expr->Pos->Bool}{P:Expr->Prop}{e:Expr}(h:MW f e=true)(H:∀a b,f a b=true->P (.List a b)):P e:=by
 cases e<;>first|exact H _ _ h|exact(V1 h).elim
def D5(f:Expr->Expr->Pos->Bool):Expr->Bool
 |.Subscript a b c=>f a b c
 |_=>false
theorem vB{f:Expr->Expr->Pos->Bool}{P:Expr->Prop}{e:Expr}(h:D5 f e=true)(H:∀a b c,f a b c=true->P (.Subscript a b c)):P e:=by
 cases e<;>first|exact H _ _ _ h|exact(V1 h).elim
def MX(f:Option Expr->Option Expr->Option Expr->Pos->Bool):Expr->Bool
 |.Slice a b c d=>f a b c d
 |_=>false
theorem Jd{f:Option Expr->Option Expr->Option Expr->Pos->Bool}{P:Expr->Prop}{e:Expr}(h:MX f e=true)(H:∀a b c d,f a b c d=true->P (.Slice a b c d)):P e:=by
 cases e<;>first|exact H _ _ _ _ h|exact(V1 h).elim
def AO(f:Expr->List Expr->List Keyword->Pos->Bool):Expr->Bool
 |.Call a b c d=>f a b c d
 |_=>false
theorem wR{f:Expr->List Expr->List Keyword->Pos->Bool}{P:Expr->Prop}{e:Expr}(h:AO f e=true)(H:∀a b c d,f a b c d=true->P (.Call a b c d)):P e:=by
 cases e<;>first|exact H _ _ _ _ h|exact(V1 h).elim
def Gk(f:Expr->Str->Pos->Bool):Expr->Bool
 |.Attribute a b c=>f a b c
 |_=>false
theorem D6{f:Expr->Str->Pos->Bool}{P:Expr->Prop}{e:Expr}(h:Gk f e=true)(H:∀a b c,f a b c=true->P (.Attribute a b c)):P e:=by
 cases e<;>first|exact H _ _ _ h|exact(V1 h).elim
def Gm(f:Expr->List Comprehension->Scope->Pos->Bool):Expr->Bool
 |.ListComp a b c d=>f a b c d
 |_=>false
theorem D7{f:Expr->List Comprehension->Scope->Pos->Bool}{P:Expr->Prop}{e:Expr}(h:Gm f e=true)(H:∀a b c d,f a b c d=true->P (.ListComp a b c d)):P e:=by
 cases e<;>first|exact H _ _ _ _ h|exact(V1 h).elim
def AQ(f:List (Option Expr)->List Expr->Pos->Bool):Expr->Bool
 |.Dict a b c=>f a b c
 |_=>false
theorem wU{f:List (Option Expr)->List Expr->Pos->Bool}{P:Expr->Prop}{e:Expr}(h:AQ f e=true)(H:∀a b c,f a b c=true->P (.Dict a b c)):P e:=by
 cases e<;>first|exact H _ _ _ h|exact(V1 h).elim
section
variable {α:Type} {f:α -> Bool} {g:α -> List α -> Bool} {P:List α -> Prop} {Q:Option α -> Prop} {l:List α} {b:Bool} {o:Option α}
def o4(l:List α)(b:Bool):Bool:=l.isEmpty&&b
theorem lz(h:o4 l b=true)(H:b=true->P []):P l:=by
 cases l with
 |nil=>exact H h
 |cons _ _=>cases h
def kC(f:α -> List α -> Bool):List α -> Bool
 |a::r=>f a r
 |[]=>false
theorem vC(h:kC g l=true)(H:∀a r,g a r=true->P (a::r)):P l:=by
 cases l with
 |nil=>cases h
 |cons a r=>exact H a r h
def k1(f:α -> Bool):List α -> Bool:=kC λa r=>o4 r (f a)
theorem mC(h:k1 f l=true)(H:∀a,f a=true->P [a]):P l:=by
 apply vC h;intro a r h;apply lz h;intro h;exact H a h
def k2(f:α -> α -> Bool):List α -> Bool:=kC λa r=>k1 (f a) r
theorem QZ{f:α -> α -> Bool}(h:k2 f l=true)(H:∀a b,f a b=true->P [a,b]):P l:=by
 apply vC h;intro a r h;apply mC h;intro b h;exact H a b h
def AR(l:Option α)(b:Bool):Bool:=l.isNone&&b
theorem wV(h:AR o b=true)(H:b=true->Q none):Q o:=by
 cases o with
 |none=>exact H h
 |some _=>cases h
def AS(f:α -> Bool)(l:Option α):Bool:=l.any f
theorem wW(h:AS f o=true)(H:∀a,f a=true->Q (some a)):Q o:=by
 cases o with
 |none=>cases h
 |some a=>exact H a h
def Je[DecidableEq α](a b:α)(c:Bool):Bool:=decide (a=b)&&c
theorem tF[DecidableEq α]{P:α -> Prop}{a d:α}(h:Je a d b=true)(H:b=true->P d):P a:=by
 rw[Je,XE,decide_eq_true_eq]at h;rw[h.1];exact H h.2
end
def AV(f:Str->Pos->List Expr->Pos->Bool):Expr->Bool:=AO λg l k p=>nM (λx q=>o4 k (f x q l p)) g
theorem nN{f:Str->Pos->List Expr->Pos->Bool}{P:Expr->Prop}{e:Expr}(h:AV f e=true)(H:∀x q l p,f x q l p=true->P (.Call (.Name x q) l [] p)):P e:=by
 apply wR h;intro g l k p h;apply qW h;intro x q h;apply lz h;intro h;exact H x q l p h
def MY(f:Expr->Str->Pos->List Expr->Pos->Bool):Expr->Bool:=AO λg l k p=>Gk (λo x q=>o4 k (f o x q l p)) g
theorem Gn{f:Expr->Str->Pos->List Expr->Pos->Bool}{P:Expr->Prop}{e:Expr}(h:MY f e=true)(H:∀o x q l p,f o x q l p=true->P (.Call (.Attribute o x q) l [] p)):P e:=by
 apply wR h;intro g l k p h;apply D6 h;intro o x q h;apply lz h;intro h;exact H o x q l p h
def MZ(f:Expr->Expr->List Expr->Int->Bool)(c:Comprehension):Bool:=f c.target c.iter c.ifs c.is_async
theorem Jf{f:Expr->Expr->List Expr->Int->Bool}{P:Comprehension->Prop}{c:Comprehension}(h:MZ f c=true)(H:∀a b d i,f a b d i=true->P ⟨a,b,d,i⟩):P c:=by
 cases c;exact H _ _ _ _ h
def M0(f:Str->Bool):Const->Bool
 |.str s=>f s
 |_=>false
theorem Jg{f:Str->Bool}{P:Const->Prop}{e:Const}(h:M0 f e=true)(H:∀s,f s=true->P (.str s)):P e:=by
 cases e<;>first|exact H _ h|exact(V1 h).elim
theorem UC{a b:Bool}(h:(a||b)=true):a=true\/b=true:=by
 cases a with
 |true=>exact .inl rfl
 |false=>exact .inr h
def AW(f:Expr->Pos->Bool):Stmt->Bool
 |.Expr a b=>f a b
 |_=>false
theorem wX{f:Expr->Pos->Bool}{P:Stmt->Prop}{e:Stmt}(h:AW f e=true)(H:∀a b,f a b=true->P (.Expr a b)):P e:=by
 cases e<;>first|exact H _ _ h|exact(V1 h).elim
def Jh(f:List Expr->Expr->Pos->Bool):Stmt->Bool
 |.Assign a b c=>f a b c
 |_=>false
theorem AX{f:List Expr->Expr->Pos->Bool}{P:Stmt->Prop}{e:Stmt}(h:Jh f e=true)(H:∀a b c,f a b c=true->P (.Assign a b c)):P e:=by
 cases e<;>first|exact H _ _ _ h|exact(V1 h).elim
def Q0(f:Expr->Operator->Expr->Pos->Bool):Stmt->Bool
 |.AugAssign a b c d=>f a b c d
 |_=>false
def SA(f:Expr->List Stmt->List Stmt->Pos->Bool):Stmt->Bool
 |.If a b c d=>f a b c d
 |_=>false
theorem M1{f:Expr->List Stmt->List Stmt->Pos->Bool}{P:Stmt->Prop}{e:Stmt}(h:SA f e=true)(H:∀a b c d,f a b c d=true->P (.If a b c d)):P e:=by
 cases e<;>first|exact H _ _ _ _ h|exact(V1 h).elim
def M3(f:Expr->Expr->List Stmt->List Stmt->Pos->Bool):Stmt->Bool
 |.For a b c d i=>f a b c d i
 |_=>false
theorem Ji{f:Expr->Expr->List Stmt->List Stmt->Pos->Bool}{P:Stmt->Prop}{e:Stmt}(h:M3 f e=true)(H:∀a b c d i,f a b c d i=true->P (.For a b c d i)):P e:=by
 cases e<;>first|exact H _ _ _ _ _ h|exact(V1 h).elim
def Jj(f:Expr->List Stmt->List Stmt->Pos->Bool):Stmt->Bool
 |.While a b c d=>f a b c d
 |_=>false
def Jk(f:Option Expr->Pos->Bool):Stmt->Bool
 |.Return a b=>f a b
 |_=>false
theorem AY{f:Option Expr->Pos->Bool}{P:Stmt->Prop}{e:Stmt}(h:Jk f e=true)(H:∀a b,f a b=true->P (.Return a b)):P e:=by
 cases e<;>first|exact H _ _ h|exact(V1 h).elim
def D8(f:Str->List Expr->Bool):Stmt->Bool
 |.Raise (some (.Call (.Name x _) es [] _)) none _=>f x es
 |_=>false
theorem Jl{f:Str->List Expr->Bool}{P:Stmt->Prop}{e:Stmt}(h:D8 f e=true)(H:∀x p es cp pos,f x es=true->P (.Raise (some (.Call (.Name x p) es [] cp)) none pos)):P e:=by
 unfold D8 at h;split at h
 ·exact H _ _ _ _ _ h
 ·cases h
def Q2(f:Nat->jz->Bool):IE->Bool
 |.call j es=>f j es
 |_=>false
def M4(f:Pos->Bool):Stmt->Bool
 |.Break a=>f a
 |_=>false
theorem Jm{f:Pos->Bool}{P:Stmt->Prop}{e:Stmt}(h:M4 f e=true)(H:∀a,f a=true->P (.Break a)):P e:=by
 cases e<;>first|exact H _ h|exact(V1 h).elim
def M5(f:Pos->Bool):Stmt->Bool
 |.Continue a=>f a
 |_=>false
theorem Jo{f:Pos->Bool}{P:Stmt->Prop}{e:Stmt}(h:M5 f e=true)(H:∀a,f a=true->P (.Continue a)):P e:=by
 cases e<;>first|exact H _ h|exact(V1 h).elim
def Gp(f:Pos->Bool):Stmt->Bool
 |.Pass a=>f a
 |_=>false
theorem D9{f:Pos->Bool}{P:Stmt->Prop}{e:Stmt}(h:Gp f e=true)(H:∀a,f a=true->P (.Pass a)):P e:=by
 cases e<;>first|exact H _ h|exact(V1 h).elim
end Hv
end
section
namespace Hv
open PySem L2 PyProof.Rows
structure Tb where
 nc:Nat
 M6:List Str
 Ea:List (Nat×Str×Nat)
 Eb:List (Str×Str×Nat)
 isc:List (Str×List Bool)
structure oK where
 N:List Str
 sc:Scope
 fns:List (Str×Nat)
 cons:List (Str×Val)
 tb:Tb
def Jp(sc:Scope)(x:Str):Bool:=(sc.names.lookup x==some .local||sc.names.lookup x==some .cell||sc.names.lookup x==some .free) && !(x==("__debug__":Str)) && !(x==("__classdict__":Str))
def tG(sc:Scope)(x:Str):Bool:=sc.names.lookup x==some .globalImplicit && !(x==("__debug__":Str)) && !(x==("__name__":Str))
def AZ:Const->Val->Bool
 |.none,.non=>true
 |.bool a,.bl b=>a==b
 |.int a,.int b=>a==b
 |.str a,.str b=>a==b
 |_,_=>false
def Jq(o:Gf)(op:Operator):Bool:=decide (op=AJ o)
def M7(o:IF)(op:CmpOp):Bool:=decide (op=wN o)
def M8:Bl->Str
 |.len=>"len" | .min=>"min" | .max=>"max" | .sorted=>"sorted" | .list=>"list" | .tuple=>"tuple" | .str=>"str" | .int=>"int" | .all=>"all" | .any=>"any" | .isin _=>"isinstance"
def noStar:Expr->Bool
 |.Starred ..=>false
 |_=>true
def mQ:Expr->Bool
 |.Slice ..=>false
 |_=>true
def Ec:Expr->Bool
 |.Name ..=>true|.Call ..=>true|.Subscript ..=>true|.List ..=>true|.Tuple ..=>true|.ListComp ..=>true|.Attribute ..=>true|.BinOp ..=>true
 |_=>false
def superB:Expr->Bool
 |.Call (.Name _ _) [] [] _=>false
 |_=>true
def Gq(scope xsc:Scope):Scope :=
 { scope with names:=scope.names.map λ(n,k)=>if (k==.free&&xsc.kind==.function&&xsc.names.lookup n==some .cell) then (n,.cell) else (n,k) }
def oK.Gs(Γ:oK)(scope:Scope)(N':List Str):oK:={ Γ with N:=N',sc:=Gq scope Γ.sc }
def yZ(Γ:oK):uJ->Expr->Bool
 |.one i,.Name x _=>Γ.N[i]?==some x && Γ.sc.names.lookup x==some .local
 | .tup is,.Tuple es _ _=>es.length==is.length&&(is.zip es).all λp=>match p.2 with
  |.Name x _=>Γ.N[p.1]?==some x && Γ.sc.names.lookup x==some .local
  |_=>false
 |_,_=>false
def tH:uJ->List Nat
 |.one i=>[i]
 |.tup is=>is
def UD:Me->Str
 |.join=>"join" | .append=>"append" | .extend=>"extend" | .remove=>"remove"
def vD:Val->Val->Bool
 |.non,.non=>true
 |.bl a,.bl b=>a==b
 |.int a,.int b=>a==b
 |.str a,.str b=>a==b
 |_,_=>false
def Jr:jz->Bool
 |.nil=>true
 |.cons ..=>false
theorem Ba{b:Bool}(h:(Jr es&&b)=true):es=.nil/\b=true:=by
 cases es with
 |nil=>exact⟨rfl,h⟩
 |cons _ _=>cases h
mutual
noncomputable def bq(Γ:oK):IE->Expr->Bool
 |.var i,e=>nM (λx _=>Γ.N[i]?==some x&&Jp Γ.sc x) e
 |.cst d,e=>vA (λc _ _=>AZ c d) e
 |.con x d,e=>nM (λy _=>x==y&&tG Γ.sc x && Γ.cons.any λp=>p.1==x&&vD p.2 d) e
 |.no,_=>false
 |.bin o a b,e=>MT (λl op r _=>Jq o op&&bq Γ a l&&bq Γ b r) e
 |.neg a,e=>QY (λq1 l _=>Je q1 .USub (bq Γ a l)) e
 |.cmp o a b,e=>MU (λl q1 q2 _=>k1 (λop=>k1 (λr=>M7 o op && !behindInMarks op r&&bq Γ a l&&bq Γ b r) q2) q1) e
 |.chn _ _ _ _ _,_=>false
 |.and a b,e=>qX (λq1 q2 pos=>Je q1 .And (kC (λl q3=>kC (λm r=>bq Γ a l&&(match r with|[]=>bq Γ b m|n::r'=>bq Γ b (.BoolOp .And (m::n::r') pos))) q3) q2)) e
 |.or a b,e=>qX (λq1 q2 pos=>Je q1 .Or (kC (λl q3=>kC (λm r=>bq Γ a l&&(match r with|[]=>bq Γ b m|n::r'=>bq Γ b (.BoolOp .Or (m::n::r') pos))) q3) q2)) e
 |.not a,e=>QY (λq1 l _=>Je q1 .Not (bq Γ a l)) e
 |.ite _ _ _,_=>false
 |.tup es,e=>MV (λls _ _=>aP Γ es ls) e
 |.lst es,e=>MW (λls _=>aP Γ es ls) e
 |.idx a b,e=>D5 (λl r _=>mQ r&&bq Γ a l&&bq Γ b r) e
 |.slc a lo hi,e=>D5 (λl q1 _=>MX (λl' h' q2 _=>AR q2 (bq Γ a l&&(match l' with|none=>cH lo|some e=>!cH lo&&bq Γ lo e)&&(match h' with|none=>cH hi|some e=>!cH hi&&bq Γ hi e))) q1) e
 |.call j es,e=>AV (λx _ args _=>tG Γ.sc x && Γ.fns[j]?==some (x,args.length)&&decide (args.length<1000)&&aP Γ es args) e
 | .blt b es,e=>AV (λx _ args _=>tG Γ.sc x&&x==M8 b&&(match b with
   |.isin T=>(match args with|[a,.Name y _]=>tG Γ.sc y&&y==(T:Str)&&["list","tuple","str","bool","int","dict"].contains T&&aP Γ es [a]|_=>false)
   |_=>!args.isEmpty&&aP Γ es args)) e
 |.met m a es,e=>MY (λo x ap args cp=>x==UD m&&superB o && !args.isEmpty&&decide (args.length<29)&&ap.endLine==cp.line&&bq Γ a o&&aP Γ es args) e
 | .comp N' js pat k it c elt,e=>Gm (λe q1 scope _=>k1 (λq2=>MZ (λtg iter ifs q3=>Je q3 0 (jn Γ.N Γ.sc scope N' js&&wY Γ k it iter&&decide (N'.Nodup)&&yZ (Γ.Gs scope N') pat tg&&((tH pat).all λi=>js[i]?==some none)&&(match k,pat with|.enum,.one _=>false|.zip,.one _=>false|_,_=>true) &&
   (match ifs with|[]=>cH c|[t]=>!cH c&&bq (Γ.Gs scope N') c t|_=>false)&&bq (Γ.Gs scope N') elt e)) q2) q1) e
 |.dct0,e=>AQ (λq1 q2 _=>o4 q1 (o4 q2 (true))) e
 |.sset a,e=>AV (λx _ q1 _=>k1 (λq2=>AV (λy _ q3 _=>k1 (λl=>x==("sorted":Str)&&y==("set":Str)&&tG Γ.sc x&&tG Γ.sc y&&noStar l&&bq Γ a l) q3) q2) q1) e
 |.dget d k x,e=>MY (λo m ap q1 cp=>k2 (λa b=>m==("get":Str)&&superB o&&noStar a&&noStar b&&ap.endLine==cp.line&&bq Γ d o&&bq Γ k a&&bq Γ x b) q1) e
 |.dct1 k v,e=>AQ (λq1 q2 _=>k1 (λq3=>AS (λa=>k1 (λb=>bq Γ k a&&bq Γ v b) q2) q3) q1) e
 |.lkeys d,e=>AV (λx _ q1 _=>k1 (λq2=>MY (λo m ap q3 cp=>o4 q3 (x==("list":Str)&&m==("keys":Str)&&tG Γ.sc x&&superB o&&ap.endLine==cp.line&&bq Γ d o)) q2) q1) e||AV (λx _ q1 _=>k1 (λq2=>nM (λy q=>x==("list":Str)&&tG Γ.sc x&&bq Γ d (.Name y q)) q2) q1) e
 |.sdef _ _ _,_=>false
 |.svals _,_=>false
 |.skeys d,e=>AV (λx _ q1 _=>k1 (λq2=>MY (λo m ap q3 cp=>o4 q3 (x==("sorted":Str)&&m==("keys":Str)&&tG Γ.sc x&&superB o&&ap.endLine==cp.line&&bq Γ d o)) q2) q1) e||AV (λx _ q1 _=>k1 (λq2=>nM (λy q=>x==("sorted":Str)&&tG Γ.sc x&&bq Γ d (.Name y q)) q2) q1) e
 |.fld _ _ _,_=>false
 |.rev _ _,_=>false
 |.dflt _ _ _ _ _ _,_=>false
 |.isc _ _ _,_=>false
 |.mth _ _ _ _,_=>false
noncomputable def aP(Γ:oK):jz->List Expr->Bool
 |.nil,ls=>ls.isEmpty
 | .cons e es,ls=>match ls with
  |l::ls=>noStar l&&bq Γ e l&&aP Γ es ls
  |[]=>false
noncomputable def wY(Γ:oK)(k:Ik):jz->Expr->Bool
 |.nil,_=>false
 | .cons e es,l=>match k with
  |.seq=>Jr es&&(Ec l&&bq Γ e l)
  |.range=>AV (λx _ as _=>kC (λa args=>x==("range":Str)&&tG Γ.sc x&&noStar a&&bq Γ e a&&aP Γ es args&&decide (args.length<2)) as) l
  |.enum=>Jr es&&AV (λx _ as _=>k1 (λa=>x==("enumerate":Str)&&tG Γ.sc x&&noStar a&&bq Γ e a) as) l
  |.zip=>false
end
abbrev Fn:=Nat->List Val->M Val
def bZ(K:Frag)(ρ:List Addr)(env:Env)(σ:L2.St)(H:Hp):Prop:=∀(i:Nat) (v:Val),env[i]?=some (some v)->∃x,σ[i]?=some (some x)/\VR K ρ H v x
theorem bZ.jr{K:Frag}{ρ ρ':List Addr}{env:Env}{σ:L2.St}{H H':Hp}(e:bZ K ρ env σ H)(g:Gw ρ H ρ' H'):bZ K ρ' env σ H':=λi v q=>by
 obtain⟨x,q1,q2⟩:=e i v q;exact⟨x,q1,VR.jr g v x q2⟩
theorem bZ.up{K:Frag}{ρ ρ':List Addr}{env:Env}{σ:L2.St}{H H':Hp}(e:bZ K ρ env σ H)(g:Gr ρ H ρ' H'):bZ K ρ' env σ H':=e.jr g.w
def UE(K:Frag)(Q:List V->Hp->Prop):List Val->Hs->List Addr->Hp->Prop:=λvs _ ρ' H'=>∀xs,aq K ρ' H' vs xs->Q xs H'
def WT(Q:Bool->Hp->Prop):Bool->Hs->List Addr->Hp->Prop:=λb _ _ H'=>Q b H'
def Js(Φ:Fn)(ir:IE)(env:Env):M Bool:=bnd (aE Φ ir env) λx=>ask λh=>cG h x
def tV(Φ:Fn)(B:Bd)(EX:Nat->List V->Hp->Prop)(ir:IE):TE:=λσ H Q=>∃ρ env h,bZ B.K ρ env σ H/\HR B ρ h H/\Post B EX ρ H (WV B.K Q) (aE Φ ir env h)
def SD(Φ:Fn)(B:Bd)(EX:Nat->List V->Hp->Prop)(dR:jz):TA:=λσ H Q=>∃ρ env h,bZ B.K ρ env σ H/\HR B ρ h H/\Post B EX ρ H (UE B.K Q) (bg Φ dR env h)
def tT(Φ:Fn)(B:Bd)(EX:Nat->List V->Hp->Prop)(ir:IE):TT:=λσ H Q=>∃ρ env h,bZ B.K ρ env σ H/\HR B ρ h H/\Post B EX ρ H (WT Q) (Js Φ ir env h)
theorem _root_.L2.PE.imp(h:PE X e t)(i:∀σ H Q,t' σ H Q->t σ H Q):PE X e t':=λpins s σ H Q I hw=>h pins s σ H Q I (i σ H Q hw)
theorem _root_.L2.PT.imp(h:PT X e t)(i:∀σ H Q,t' σ H Q->t σ H Q):PT X e t':=λpins s σ H Q I hw=>h pins s σ H Q I (i σ H Q hw)
theorem _root_.L2.PA.imp(h:PA X es t)(i:∀σ H Q,t' σ H Q->t σ H Q):PA X es t':=λpos pins s σ H Q I hw=>h pos pins s σ H Q I (i σ H Q hw)
theorem _root_.L2.PO.imp(h:PO X e t)(i:∀σ H Q,t' σ H Q->t σ H Q):PO X e t':=λpins s σ H Q I hw=>h pins s σ H Q I (i σ H Q hw)
theorem _root_.L2.PI.imp(h:PI X tg iter t)(i:∀σ H R,t' σ H R->t σ H R):PI X tg iter t':=λpins s σ H R I hw=>h pins s σ H R I (i σ H R hw)
theorem aQ{α β γ:Type}(m:M α)(f:α -> M β)(g:β -> M γ):bnd (bnd m f) g=bnd m λx=>bnd (f x) g:=by
 funext h;show (match (match m h with|.ok a h'=>f a h'|.exc c vs h'=>.exc c vs h'|.no=>.no) with|.ok a h'=>g a h'|.exc c vs h'=>.exc c vs h'|.no=>.no)=(match m h with|.ok a h'=>bnd (f a) g h'|.exc c vs h'=>.exc c vs h'|.no=>.no);cases m h<;>rfl
theorem dj{α β:Type}(a:α)(f:α -> M β):bnd (ret a) f=f a:=rfl
def NX:Nat->List V->Hp->Prop:=λ_ _ _=>False
def y9(cl:Nat->Addr)(E:XK):Nat->List V->Hp->Prop:=λc xs H=>∃g y,xs=[.str g,y]/\∀dx,H dx=none->E (.ref (cl (1000+c))) (some dx) (upd H dx (.xd [(g,y)]))
def za(B:Bd)(n:Nat)(φ:List Val->M Val):Sp:=λxs H Q E=>∃ρ h vs,vs.length=n/\HR B ρ h H/\aq B.K ρ H vs xs/\Post B (y9 B.cl E) ρ H (WV B.K Q) (φ vs h)
def Jt(P:Program)(w:World)(B:Bd)(mg:Str->Option Value)(base:Heap)(k:Nat)(x:Str)(C:Addr)(g:Str):Prop:=mg x=some (.ref C)/\∃(D fI:Addr) (cd:ClassData) (fd:FuncData) (ps:List Str),yQ B.K C D fI cd/\dJ P w B.K mg base CQ k fI fd ps (wF B.K g)/\Binds B.K fd ps []/\ps.length=2/\findIn B.K (.ref C) g=some none
def LC(P:Program)(w:World)(B:Bd)(mg:Str->Option Value)(base:Heap)(k:Nat)(j:Nat)(x:Str)(n:Nat)(φ:List Val->M Val):Prop :=
 (n<1000/\∃(f:Addr) (fd:FuncData) (ps:List Str),ps.length=n/\mg x=some (.ref f)/\keepIn B.K (.ref f)=true/\Binds B.K fd ps []/\dJ P w B.K mg base (mL P w) k f fd ps (za B n φ)) \/
 (2000<=n/\∃g,φ = vv j g/\Jt P w B mg base k x (B.cl (1000+j)) g)
def bltNames:List Str:=["len","min","max","sorted","list","tuple","str","all","any","isinstance","range","enumerate","int","bool","dict","set","zip"]
structure Ctx (Φ:Fn) (Γ:oK) (k:Nat) (X:Cx) (cl:Nat->Addr) (EX:Nat->List V->Hp->Prop):Prop where
 N:X.N = Γ.N
 sc:X.env.scope = Γ.sc
 calm:X.calm=true
 room:cY (k+1) X.A
 Q3:∃E:XK,Passes (mL X.prog X.w) X E/\∀c xs H,EX c xs H->y9 cl E c xs H
 fns:∀j x n,Γ.fns[j]?=some (x,n)->LC X.prog X.w (bd X cl) X.mg X.base k j x n (Φ j)
 cls:∀c,c < Γ.tb.nc->Sb X.K (cl c)/\∀x ∈ Γ.tb.M6,zS X.K (cl c) x
 Ea:∀p ∈ Γ.tb.Ea,Meth X.K (cl p.1) p.2.1 (cl (1000+p.2.2))
 Eb:∀p ∈ Γ.tb.Eb,∃C,X.mg p.1=some (.ref C)/\MK X.K C p.2.1 (cl (1000+p.2.2))
 isc:∀p ∈ Γ.tb.isc,∃C,X.mg p.1=some (.ref C)/\∀c b,p.2[c]?=some b->Sy X.K (cl c)/\kitOne X.K (.ref (cl c)) (.ref C)=some b
 cons:∀p ∈ Γ.cons,∃v u,X.mg p.1=some u/\RelV v u/\∀K ρ H,VR K ρ H p.2 v
 blt:∀x∈bltNames,X.mg x=none
section
variable {Φ:Fn} {Γ:oK} {k:Nat} {X:Cx} {cl:Nat->Addr} {EX:Nat->List V->Hp->Prop}
theorem Ctx.units(c:Ctx Φ Γ k X cl EX):X.A.units+64<cLine:=c.room.units
theorem Ctx.vis(c:Ctx Φ Γ k X cl EX)(h:Jp Γ.sc x=true):Pa X.env.scope x/\(x==("__debug__":Str))=false/\(x==("__classdict__":Str))=false:=by
 unfold Jp at h;simp only[and_eq_true,or_eq_true,beq_iff_eq,not_eq_true']at h;obtain⟨⟨h1,h2⟩,h3⟩:=h;refine⟨?_,h2,h3⟩;unfold Pa;rw[c.sc]
 rcases h1 with (z|z)|z
 ·exact .inl z
 ·exact .inr (.inl z)
 ·exact .inr (.inr z)
theorem Ctx.gl(c:Ctx Φ Γ k X cl EX)(h:tG Γ.sc x=true):Gl X x/\(x==("__debug__":Str))=false/\x ≠ "__name__":=by
 unfold tG at h;simp only[and_eq_true,beq_iff_eq,not_eq_true']at h;obtain⟨⟨h1,h2⟩,h3⟩:=h;refine⟨?_,h2,λz=>by rw[z]at h3;simp at h3⟩;show X.env.scope.names.lookup x=_;rw[c.sc];exact h1
theorem wZ:Passes (mL X.prog X.w) X (λ_ _ _=>False):=λpins σ H s e s' I h=>by
 obtain⟨_,_,_,_,_,_,_,_,_,_,_,_,_,z⟩:=h;exact z.elim
theorem Ctx.no(c:Ctx Φ Γ k X cl EX):Ctx Φ Γ k X cl NX :=
 { N:=c.N,sc:=c.sc,calm:=c.calm,room:=c.room,Q3:=⟨_,wZ,λ_ _ _ z=>False.elim z⟩,fns:=c.fns,cls:=c.cls,Ea:=c.Ea,Eb:=c.Eb,isc:=c.isc,cons:=c.cons,blt:=c.blt }
theorem Ctx.Gs(c:Ctx Φ Γ k X cl EX)(scope:Scope)(N':List Str)(cls:List (Str×Addr))(C:Addr)(s:Shared)(H:Hp)(fp:List Addr):Ctx Φ (Γ.Gs scope N') k (bz X scope N' cls C s H fp) cl NX:=by
 refine⟨rfl,?_,c.calm,c.room,⟨_,wZ,λ_ _ _ z=>False.elim z⟩,c.fns,c.cls,c.Ea,c.Eb,c.isc,c.cons,c.blt⟩;show relabel scope X.env=Gq scope Γ.sc;rw[<-c.sc];rfl
theorem aN(h:noStar e=true):starEach (e::es) env=(false,eval e env)::starEach es env:=by
 cases e<;>first|rfl|(simp[noStar]at h)
theorem iQ:∀{es:List Expr} {dR:jz},aP Γ dR es=true->(backTo pos (starEach es env)).any (·.1)=false
 |[],_,_=>rfl
 |e::es,.nil,h=>by simp[aP]at h
 | e::es,.cons i dR,h=>by
  simp only[aP,and_eq_true]at h;rw[aN h.1.1];show (false||(backTo pos (starEach es env)).any (·.1))=false;rw[iQ (dR:=dR) h.2];rfl
theorem Bb(h:aP Γ dR es=true):(backTo pos (starEach es env)).all (λx=>!x.1)=true:=by
 have q:=iQ (pos:=pos) (env:=env) h;rw[YJ];intro x hx;have:=List.any_eq_false.mp q x hx;simpa using this
theorem vE(h:mQ e=true):wm e:=by
 intro o i;cases e<;>first|rfl|(simp[mQ]at h)
theorem super_ok(h:superB e=true):attributeBase e x env whole=whole:=by
 cases e<;>first
  |rfl
  |skip
 rename_i f args kws pos;cases f<;>first
  |rfl
  |skip
 cases args with
 |cons a r=>rfl
 |nil=>
  cases kws with
  |cons a r=>rfl
  |nil=>simp[superB]at h
theorem dG(q:PE X e (tV Φ (bd X cl) EX ir))(he:∀whole,isTrue e X.env whole=(do let v <-whole;standAt e.pos;holding [v] (truthy v))):PT X e (tT Φ (bd X cl) EX ir) :=
 (zR q he).imp λσ H Q ⟨ρ,env,h,hE,r,p⟩=>⟨ρ,env,h,hE,r,av p λv h1 ρ1 x H1 g1 r1 q1 p1=>by
  obtain⟨b,e,w⟩:=cQ r1 p1;exact⟨b,IM r1 q1 e,w⟩⟩
theorem zQ:Pg X (unaryOp .USub) (λx H Q=>∃i,x=.int i/\Q (.int (-i)) H):=by
 intro pins s σ H x v Q I rx h;obtain⟨i,rfl,q⟩:=h;obtain⟨t,rfl⟩:=rx;exact neg_int ⟨.int (-i),H,I.tok _,⟨_,rfl⟩,q⟩
theorem Gu(h:PT X (.BoolOp op vs pos) t):PW X (.BoolOp op vs pos) t:=λwhole pins s σ H Q I hw=>h pins s σ H Q I hw
def bH(Φ:Fn)(ir:IE):Prop:=∀(Γ:oK) (k:Nat) (X:Cx) (cl:Nat->Addr) (EX:Nat->List V->Hp->Prop) (e:Expr),Ctx Φ Γ k X cl EX->bq Γ ir e=true->PE X e (tV Φ (bd X cl) EX ir)/\PT X e (tT Φ (bd X cl) EX ir)
def jB(Φ:Fn)(dR:jz):Prop:=(∀(Γ:oK) (k:Nat) (X:Cx) (cl:Nat->Addr) (EX:Nat->List V->Hp->Prop) (es:List Expr),Ctx Φ Γ k X cl EX->aP Γ dR es=true->PA X es (SD Φ (bd X cl) EX dR))/\match dR with
 |.nil=>True
 | .cons e r=>bH Φ e/\match r with
  |.nil=>True
  |.cons e' _=>bH Φ e'
theorem Ed(h:Jq o op=true):op=AJ o:=Wt h
theorem Ef(h:M7 o op=true):op=wN o:=Wt h
theorem xg(hs:∀env h,aE Φ ir env h=.no):bH Φ ir:=by
 intro Γ k X cl EX e c h;exact⟨λpins s σ H Q I ⟨ρ,env,h,hE,r,p⟩=>by rw[hs]at p;exact p.elim,λpins s σ H Q I ⟨ρ,env,h,hE,r,p⟩=>by unfold Js bnd at p;rw[hs]at p;exact p.elim⟩
theorem gU(hs:∀env h,aE Φ ir env h=.no):bH Φ ir:=by
 intro Γ k X cl EX e c h;exact⟨λpins s σ H Q I ⟨ρ,env,h,hE,r,p⟩=>by rw[hs]at p;exact p.elim,λpins s σ H Q I ⟨ρ,env,h,hE,r,p⟩=>by unfold Js bnd at p;rw[hs]at p;exact p.elim⟩
theorem Ju{i:Nat}:bH Φ (.var i):=by
 intro Γ k X cl EX e c h;apply qW h;intro x pos h;simp only[and_eq_true,beq_iff_eq]at h;obtain⟨v1,v2,v3⟩:=c.vis h.2;have q:PE X (.Name x pos) (tV Φ (bd X cl) EX (.var i)):=by refine(iG (by rw[c.N];exact h.1) v1 v2 v3).imp λσ H Q aJ=>?_;obtain⟨ρ,env,h,hE,r,p⟩:=aJ;rw[aE.eq_def]at p;dsimp only at p;obtain⟨d,e1,w⟩:=bT r p;split at e1<;>cases e1;rename_i e1;obtain⟨x,e2,e3⟩:=hE i d e1;exact⟨x,e2,w x e3⟩
 exact⟨q,dG q λ_=>rfl⟩
theorem Jv:bH Φ (.cst d):=by
 intro Γ k X cl EX e c h;apply tE h;intro cc j pos h;have q:PE X (.Constant cc j pos) (tV Φ (bd X cl) EX (.cst d)):=by
  unfold AZ at h;split at h<;>first|cases h|skip
  ·refine zJ.imp λσ H Q aJ=>?_;obtain⟨ρ,env,h,hE,r,p⟩:=aJ;simp only[aE]at p;exact ai r p _ VR.non
  ·cases eq_of_beq h;refine FU.imp λσ H Q aJ=>?_;obtain⟨ρ,env,h,hE,r,p⟩:=aJ;simp only[aE]at p;exact ai r p _ VR.bl
  ·cases eq_of_beq h;refine Hg.imp λσ H Q aJ=>?_;obtain⟨ρ,env,h,hE,r,p⟩:=aJ;simp only[aE]at p;exact ai r p _ VR.int
  ·cases eq_of_beq h;refine Hh.imp λσ H Q aJ=>?_;obtain⟨ρ,env,h,hE,r,p⟩:=aJ;simp only[aE]at p;exact ai r p _ VR.str
 exact⟨q,dG q λ_=>rfl⟩
theorem zb(h:vD a b=true):a=b:=by
 unfold vD at h;split at h<;>first|rfl|(cases eq_of_beq h;rfl)|cases h
theorem Jw:bH Φ (.con x d):=by
 intro Γ k X cl EX e c h;apply qW h;intro y pos h;simp only[and_eq_true,beq_iff_eq]at h;obtain⟨⟨h1,h2⟩,h3⟩:=h;subst h1;obtain⟨g1,g2,g3⟩:=c.gl h2;obtain⟨p,hp,h4⟩:=List.any_eq_true.mp h3;simp only[and_eq_true,beq_iff_eq]at h4;obtain⟨v,u,m1,m2,m3⟩:=c.cons p hp;rw[h4.1]at m1;have q:PE X (.Name x pos) (tV Φ (bd X cl) EX (.con x d)):=by refine(jk g1 m1 m2 g2).imp λσ H Q aJ=>?_;obtain⟨ρ,env,h,hE,r,p⟩:=aJ;simp only[aE]at p;exact ai r p _ (by rw[<-zb h4.2];exact m3 _ _ _)
 exact⟨q,dG q λ_=>rfl⟩
theorem M9:bH Φ .no:=by
 intro Γ k X cl EX e c h
 (conv at h=>lhs;whnf);cases h
theorem Bc:jB Φ .nil:=by
 refine⟨fun Γ k X cl EX es c h=>?_,trivial⟩;rw[aP]at h;cases es with
 |cons a r=>cases h
 |nil=>refine jN.imp λσ H Q aJ=>?_;obtain⟨ρ,env,h,hE,r,p⟩:=aJ;simp only[bg]at p;exact ai r p _ aq.nil
theorem xh(h1:bH Φ e)(h2:jB Φ es):jB Φ (.cons e es):=by
 refine⟨fun Γ k X cl EX ls c h=>?_,h1,?_⟩
 ·rw[aP.eq_def]at h;dsimp only at h
  cases ls with
  |nil=>cases h
  |cons l ls=>simp only[and_eq_true]at h;refine(bI (h1 Γ k X cl EX l c h.1.2).1 (h2.1 Γ k X cl EX ls c h.2) (aN h.1.1)).imp λσ H Q aJ=>?_;obtain⟨ρ,env,h,hE,r,p⟩:=aJ;simp only[bg]at p;refine⟨ρ,env,h,hE,r,av p λv h1 ρ1 x H1 g1 r1 q1 p1=>⟨ρ1,env,h1,hE.up g1,r1,bu p1 λvs h2 ρ2 H2 g2 r2 p2 xs q2=>?_⟩⟩;exact ai r2 p2 _ (aq.cons (VR.up g2 _ _ q1) q2)
 ·cases es with
  |nil=>trivial
  |cons e' r=>exact h2.2.1
theorem Jx(ha:bH Φ a)(hb:bH Φ b):bH Φ (.bin o a b):=by
 intro Γ k X cl EX e c h;apply I0 h;intro l op r pos h;simp only[and_eq_true]at h;obtain⟨⟨h1,h2⟩,h3⟩:=h;have eo:op=AJ o:=Ed h1;subst eo;have q:PE X (.BinOp l (AJ o) r pos) (tV Φ (bd X cl) EX (.bin o a b)):=by refine(Mb (IJ (cl:=cl) (EX:=EX) o) (ha Γ k X cl EX l c h2).1 (hb Γ k X cl EX r c h3).1).imp λσ H Q aJ=>?_;obtain⟨ρ,env,h,hE,r,p⟩:=aJ;simp only[aE]at p;exact⟨ρ,env,h,hE,r,av p λv h1 ρ1 x H1 g1 r1 q1 p1=>⟨ρ1,env,h1,hE.up g1,r1,av p1 λw h2 ρ2 y H2 g2 r2 q2 p2=>⟨ρ2,h2,v,w,r2,VR.up g2 _ _ q1,q2,p2⟩⟩⟩
 exact⟨q,dG q λ_=>rfl⟩
theorem Jy(ha:bH Φ a):bH Φ (.neg a):=by
 intro Γ k X cl EX e c h;apply Gj h;intro q1 l pos h;apply tF h;intro h;have q:PE X (.UnaryOp .USub l pos) (tV Φ (bd X cl) EX (.neg a)):=by
  refine(Mc zQ (ha Γ k X cl EX l c h).1).imp λσ H Q aJ=>?_;obtain⟨ρ,env,h,hE,r,p⟩:=aJ;simp only[aE]at p;refine⟨ρ,env,h,hE,r,av p λv h1 ρ1 x H1 g1 r1 q1 p1=>?_⟩;cases v<;>first|exact p1.elim|skip
  rw[VR]at q1;exact⟨_,q1,ai r1 p1 _ VR.int⟩
 exact⟨q,dG q λ_=>rfl⟩
theorem Jz(ha:bH Φ a)(hb:bH Φ b):bH Φ (.cmp o a b):=by
 intro Γ k X cl EX e c h;apply Ja h;intro l q1 q2 pos h;apply mC h;intro op h;apply mC h;intro r h;simp only[and_eq_true,not_eq_true']at h;obtain⟨⟨⟨h1,h4⟩,h2⟩,h3⟩:=h;have eo:op=wN o:=Ef h1;subst eo;refine⟨(Dh (AM (cl:=cl) c.units o) (ha Γ k X cl EX l c h2).1 (hb Γ k X cl EX r c h3).1 h4).imp λσ H Q ⟨ρ,env,h,hE,r,p⟩=>?_,(Di (AM (cl:=cl) c.units o) (ha Γ k X cl EX l c h2).1 (hb Γ k X cl EX r c h3).1 h4).imp λσ H Q ⟨ρ,env,h,hE,r,p⟩=>?_⟩
 ·simp only[aE]at p;refine⟨ρ,env,h,hE,r,av p λv h1 ρ1 x H1 g1 r1 q1 p1=>⟨ρ1,env,h1,hE.up g1,r1,av p1 λw h2 ρ2 y H2 g2 r2 q2 p2=>?_⟩⟩;obtain⟨t,e,p3⟩:=aD p2;exact⟨ρ2,h2,v,w,t,r2,VR.up g2 _ _ q1,q2,e,ai r2 p3 _ VR.bl⟩
 ·simp only[Js,aE,aQ,dj]at p;refine⟨ρ,env,h,hE,r,av p λv h1 ρ1 x H1 g1 r1 q1 p1=>⟨ρ1,env,h1,hE.up g1,r1,av p1 λw h2 ρ2 y H2 g2 r2 q2 p2=>?_⟩⟩;obtain⟨t,e,p3⟩:=aD p2;obtain⟨t',e',w'⟩:=cQ r2 p3;cases (show some t=some t' from e');exact⟨ρ2,h2,v,w,t,r2,VR.up g2 _ _ q1,q2,e,t,rfl,w'⟩
theorem JA(ha:bH Φ a)(hb:bH Φ b)(hd:bH Φ d):bH Φ (.chn o o' a b d):=gU λ_ _=>rfl
end
section
variable {B:Bd} {EX:Nat->List V->Hp->Prop} {ρ:List Addr} {H:Hp} {β:Type} {W:β -> Hs->List Addr->Hp->Prop} {h:Hs}
theorem post_bool(p:Post B EX ρ H W (bnd (lU v) f h)):∃t,v=.bl t/\Post B EX ρ H W (f t h):=by
 cases v with
 |bl t=>exact⟨t,rfl,p⟩
 |_=>exact p.elim
theorem lA(p:Post B EX ρ H W (bnd m F h))(k:∀v h1,Post B EX ρ H W (F v h1)->∃t,cG h1 v=some t/\∀ρ1 H1,Gr ρ H ρ1 H1->HR B ρ1 h1 H1->Q t H1) :
  Post B EX ρ H (WT Q) (bnd m (λx=>ask λh=>cG h x) h):=by
 unfold bnd at p |-;cases e:m h with
 |ok v h1=>
  rw[e]at p;obtain⟨t,e1,q⟩:=k v h1 p;show Post B EX ρ H (WT Q) (ask (λh=>cG h v) h1);have e2:ask (λh=>cG h v) h1=.ok t h1:=by unfold ask aT;dsimp only;rw[e1]
  rw[e2];exact λρ1 H1 g r=>q ρ1 H1 g r
 |exc c vs h1=>rw[e]at p;exact p
 |no=>rw[e]at p;exact p
end
section
variable {Φ:Fn} {Γ:oK} {k:Nat} {X:Cx} {cl:Nat->Addr} {EX:Nat->List V->Hp->Prop}
theorem JB(ha:bH Φ a)(hb:bH Φ b):bH Φ (.and a b):=by
 intro Γ k X cl EX e c h;apply qb h;intro q1 q2 pos h;apply tF h;intro h;apply vC h;intro l q3 h;apply vC h;intro m r h;simp only[and_eq_true]at h;obtain⟨h1,h2⟩:=h;have hB:PE X (.BoolOp .And (m::r) pos) (tV Φ (bd X cl) EX b)/\PW X (.BoolOp .And (m::r) pos) (tT Φ (bd X cl) EX b):=by
  cases r with
  |nil=>exact⟨qB (hb Γ k X cl EX m c h2).1,C5 (hb Γ k X cl EX m c h2).2⟩
  |cons n r'=>exact⟨(hb Γ k X cl EX _ c h2).1,Gu (hb Γ k X cl EX _ c h2).2⟩
 refine⟨(uL (ha Γ k X cl EX l c h1).1 hB.1).imp λσ H Q ⟨ρ,env,h,hE,r,p⟩=>?_,(Hj (ha Γ k X cl EX l c h1).2 hB.2).pt.imp λσ H Q ⟨ρ,env,h,hE,r,p⟩=>?_⟩
 ·simp only[aE]at p
  refine⟨ρ,env,h,hE,r,av p λv h1 ρ1 x H1 g1 r1 q1 p1=>?_⟩;obtain⟨t,rfl,p2⟩:=post_bool p1;rw[VR]at q1;refine⟨t,q1,?_⟩;cases t with
  |true=>rw[Wg rfl]at p2 |-;refine⟨ρ1,env,h1,hE.up g1,r1,av p2 λw h2 ρ2 y H2 g2 r2 q2 p3=>?_⟩;obtain⟨u,rfl,p4⟩:=post_bool p3;exact ai r2 p4 _ q2
  |false=>rw[We V1]at p2 |-;exact ai r1 p2 _ VR.bl
 ·simp only[Js,aE,aQ]at p
  refine⟨ρ,env,h,hE,r,lA p λv h1 p1=>?_⟩;obtain⟨t,rfl,p2⟩:=post_bool p1;refine⟨t,rfl,λρ1 H1 g1 r1=>?_⟩;have p2:=Post.up g1 p2;cases t with
  |true=>rw[Wg rfl]at p2 |-;simp only[aQ,dj]at p2;refine⟨ρ1,env,h1,hE.up g1,r1,lA p2 λw h2 p3=>?_⟩;obtain⟨u,rfl,p4⟩:=post_bool p3;exact⟨u,rfl,λρ2 H2 g2 r2=>by obtain⟨t',e',w'⟩:=cQ r2 (Post.up g2 p4);cases (show some u=some t' from e');exact w'⟩
  |false=>rw[We V1]at p2 |-;obtain⟨t',e',w'⟩:=cQ r1 (show Post _ _ ρ1 H1 _ (ask (λh=>cG h (.bl false)) h1) from p2);cases (show some false=some t' from e');exact w'
theorem Na(ha:bH Φ a)(hb:bH Φ b):bH Φ (.or a b):=by
 intro Γ k X cl EX e c h;apply qb h;intro q1 q2 pos h;apply tF h;intro h;apply vC h;intro l q3 h;apply vC h;intro m r h;simp only[and_eq_true]at h;obtain⟨h1,h2⟩:=h;have hB:PE X (.BoolOp .Or (m::r) pos) (tV Φ (bd X cl) EX b)/\PW X (.BoolOp .Or (m::r) pos) (tT Φ (bd X cl) EX b):=by
  cases r with
  |nil=>exact⟨qB (hb Γ k X cl EX m c h2).1,Hi (hb Γ k X cl EX m c h2).2⟩
  |cons n r'=>exact⟨(hb Γ k X cl EX _ c h2).1,Gu (hb Γ k X cl EX _ c h2).2⟩
 refine⟨(LV (ha Γ k X cl EX l c h1).1 hB.1).imp λσ H Q ⟨ρ,env,h,hE,r,p⟩=>?_,(LR (ha Γ k X cl EX l c h1).2 hB.2).pt.imp λσ H Q ⟨ρ,env,h,hE,r,p⟩=>?_⟩
 ·simp only[aE]at p
  refine⟨ρ,env,h,hE,r,av p λv h1 ρ1 x H1 g1 r1 q1 p1=>?_⟩;obtain⟨t,rfl,p2⟩:=post_bool p1;rw[VR]at q1;refine⟨t,q1,?_⟩;cases t with
  |false=>rw[We V1]at p2 |-;refine⟨ρ1,env,h1,hE.up g1,r1,av p2 λw h2 ρ2 y H2 g2 r2 q2 p3=>?_⟩;obtain⟨u,rfl,p4⟩:=post_bool p3;exact ai r2 p4 _ q2
  |true=>rw[Wg rfl]at p2 |-;exact ai r1 p2 _ VR.bl
 ·simp only[Js,aE,aQ]at p
  refine⟨ρ,env,h,hE,r,lA p λv h1 p1=>?_⟩;obtain⟨t,rfl,p2⟩:=post_bool p1;refine⟨t,rfl,λρ1 H1 g1 r1=>?_⟩;have p2:=Post.up g1 p2;cases t with
  |false=>rw[We V1]at p2 |-;simp only[aQ,dj]at p2;refine⟨ρ1,env,h1,hE.up g1,r1,lA p2 λw h2 p3=>?_⟩;obtain⟨u,rfl,p4⟩:=post_bool p3;exact⟨u,rfl,λρ2 H2 g2 r2=>by obtain⟨t',e',w'⟩:=cQ r2 (Post.up g2 p4);cases (show some u=some t' from e');exact w'⟩
  |true=>rw[Wg rfl]at p2 |-;obtain⟨t',e',w'⟩:=cQ r1 (show Post _ _ ρ1 H1 _ (ask (λh=>cG h (.bl true)) h1) from p2);cases (show some true=some t' from e');exact w'
theorem JC(ha:bH Φ a):bH Φ (.not a):=by
 intro Γ k X cl EX e c h;apply Gj h;intro q1 l pos h;apply tF h;intro h;refine⟨(zK (ha Γ k X cl EX l c h).1).imp λσ H Q ⟨ρ,env,h,hE,r,p⟩=>?_,(Hl (ha Γ k X cl EX l c h).2).imp λσ H Q ⟨ρ,env,h,hE,r,p⟩=>?_⟩
 ·simp only[aE]at p;refine⟨ρ,env,h,hE,r,av p λv h1 ρ1 x H1 g1 r1 q1 p1=>?_⟩;obtain⟨t,rfl,p2⟩:=post_bool p1;rw[VR]at q1;exact⟨t,q1,ai r1 p2 _ VR.bl⟩
 ·simp only[Js,aE,aQ]at p;refine⟨ρ,env,h,hE,r,lA p λv h1 p1=>?_⟩;obtain⟨t,rfl,p2⟩:=post_bool p1;refine⟨t,rfl,λρ1 H1 g1 r1=>?_⟩;obtain⟨t',e',w'⟩:=cQ r1 (show Post _ _ ρ1 H1 _ (ask (λh=>cG h (.bl (!t))) h1) from Post.up g1 p2);cases (show some (!t)=some t' from e');exact w'
theorem JD(ht:bH Φ t)(ha:bH Φ a)(hb:bH Φ b):bH Φ (.ite t a b):=gU λ_ _=>rfl
theorem JE(hs:jB Φ es):bH Φ (.tup es):=by
 intro Γ k X cl EX e c h;apply Jb h;intro ls x1 pos h;have q:PE X (.Tuple ls x1 pos) (tV Φ (bd X cl) EX (.tup es)):=by refine(zT (hs.1 Γ k X cl EX ls c h)).imp λσ H Q aJ=>?_;obtain⟨ρ,env,h,hE,r,p⟩:=aJ;simp only[aE]at p;refine⟨ρ,env,h,hE,r,bu p λvs h1 ρ1 H1 g1 r1 p1 xs q1=>?_⟩;obtain⟨e1,p2⟩:=aM p1;exact⟨by rw[<-q1.length];exact Wt e1,λq hq=>nI r1 hq q1 p2⟩
 exact⟨q,dG q λ_=>rfl⟩
theorem JF(hs:jB Φ es):bH Φ (.lst es):=by
 intro Γ k X cl EX e c h;apply Jc h;intro ls pos h;have q:PE X (.List ls pos) (tV Φ (bd X cl) EX (.lst es)):=by refine(HP (hs.1 Γ k X cl EX ls c h)).imp λσ H Q aJ=>?_;obtain⟨ρ,env,h,hE,r,p⟩:=aJ;simp only[aE]at p;refine⟨ρ,env,h,hE,r,bu p λvs h1 ρ1 H1 g1 r1 p1 xs q1=>?_⟩;obtain⟨e1,p2⟩:=aM p1;exact⟨by rw[<-q1.length];exact Wt e1,λq hq=>dQ r1 hq q1 p2⟩
 exact⟨q,dG q λ_=>rfl⟩
theorem Eg:bH Φ .dct0:=by
 intro Γ k X cl EX e c h;apply wU h;intro q1 q2 pos h;apply lz h;intro h;apply lz h;intro h;have q:PE X (.Dict [] [] pos) (tV Φ (bd X cl) EX .dct0):=by refine(z7 (X:=X) (pos:=pos)).imp λσ H Q aJ=>?_;obtain⟨ρ,env,h,hE,r,p⟩:=aJ;simp only[aE]at p;exact λa ha=>tB (o:=.dct []) (O:=.dK []) r ha ⟨[],az,(by rw[gj])⟩ p
 exact⟨q,dG q λ_=>rfl⟩
theorem JG(ha:bH Φ a)(hb:bH Φ b):bH Φ (.idx a b):=by
 intro Γ k X cl EX e c h;apply vB h;intro l r pos h;simp only[and_eq_true]at h;have q:PE X (.Subscript l r pos) (tV Φ (bd X cl) EX (.idx a b)):=by refine(Mr (IP (cl:=cl) c.units) (ha Γ k X cl EX l c h.1.2).1 (hb Γ k X cl EX r c h.2).1 (vE h.1.1)).imp λσ H Q aJ=>?_;obtain⟨ρ,env,h,hE,r,p⟩:=aJ;simp only[aE]at p;refine⟨ρ,env,h,hE,r,av p λv h1 ρ1 x H1 g1 r1 q1 p1=>⟨ρ1,env,h1,hE.up g1,r1,av p1 λw h2 ρ2 y H2 g2 r2 q2 p2=>?_⟩⟩;obtain⟨z,e,w'⟩:=cQ r2 p2;exact⟨ρ2,h2,v,w,z,r2,VR.up g2 _ _ q1,q2,e,w'⟩
 exact⟨q,dG q λ_=>rfl⟩
def Nb(Φ:Fn)(ir:IE)(env:Env):M (Option Int):=if cH ir=true then ret none else bnd (aE Φ ir env) λv=>bnd (aT (iO v)) λi=>ret (some i)
def tP(Φ:Fn)(B:Bd)(EX:Nat->List V->Hp->Prop)(ir:IE):TO:=λσ H Q=>∃ρ env h,bZ B.K ρ env σ H/\HR B ρ h H/\Post B EX ρ H (λo _ _ H'=>Q o H') (Nb Φ ir env h)
theorem zc{i:Int}(h:iO d=some i):d=.int i:=by cases d<;>cases h;rfl
theorem xj(hi:bH Φ ir)(c:Ctx Φ Γ k X cl EX)(h:(match o with|none=>cH ir|some e=>!cH ir&&bq Γ ir e)=true):PO X o (tP Φ (bd X cl) EX ir):=by
 cases o with
 |none=>refine Dm.imp λσ H Q aJ=>?_;obtain⟨ρ,env,h',hE,r,p⟩:=aJ;unfold Nb at p;rw[Wg h]at p;exact ai r p
 |some e=>simp only[and_eq_true,not_eq_true']at h;refine(Dp (hi Γ k X cl EX e c h.2).1).imp λσ H Q aJ=>?_;obtain⟨ρ,env,h',hE,r,p⟩:=aJ;unfold Nb at p;rw[We (by rw[h.1];exact V1)]at p;refine⟨ρ,env,h',hE,r,av p λv h1 ρ1 x H1 g1 r1 q1 p1=>?_⟩;obtain⟨i,e1,p2⟩:=bK p1;cases zc e1;rw[VR]at q1;exact⟨i,q1,ai r1 p2⟩
theorem JH{a lo hi:IE}(ha:bH Φ a)(hl:bH Φ lo)(hh:bH Φ hi):bH Φ (.slc a lo hi):=by
 intro Γ k X cl EX e c h;apply vB h;intro l q1 pos h;apply Jd h;intro l' h' q2 p2 h;apply wV h;intro h;simp only[and_eq_true]at h;have q:PE X (.Subscript l (.Slice l' h' none p2) pos) (tV Φ (bd X cl) EX (.slc a lo hi)):=by refine(zY (IQ (cl:=cl) (EX:=EX)) (ha Γ k X cl EX l c h.1.1).1 (xj hl c h.1.2) (xj hh c h.2)).imp λσ H Q aJ=>?_;obtain⟨ρ,env,h,hE,r,p⟩:=aJ;simp only[aE]at p;refine⟨ρ,env,h,hE,r,av p λv h1 ρ1 x H1 g1 r1 q1 p1=>⟨ρ1,env,h1,hE.up g1,r1,bu (m:=Nb Φ lo env) p1 λlo' h2 ρ2 H2 g2 r2 p3=>⟨ρ2,env,h2,(hE.up g1).up g2,r2,bu (m:=Nb Φ hi env) p3 λhi' h3 ρ3 H3 g3 r3 p4=>?_⟩⟩⟩;exact⟨ρ3,h3,v,r3,VR.up (g2.trans g3) _ _ q1,p4⟩
 exact⟨q,dG q λ_=>rfl⟩
theorem JI(ha:bH Φ a)(hs:bH Φ sx):bH Φ (.rev a sx):=gU λ_ _=>rfl
theorem nO:∀{dR:jz} {ls:List Expr} {vs:List Val} {h h':Hs},aP Γ dR ls=true->bg Φ dR env h=.ok vs h'->vs.length=ls.length:=by
 intro dR
 induction dR using jz.rec (motive_1:=λ_=>True) with
 |nil=>
  intro ls ds h h' a b;rw[aP]at a;simp only[bg,ret]at b;cases b;cases ls with
  |nil=>rfl
  |cons _ _=>cases a
 |cons e es _ ih=>
  intro ls ds h h' a b;rw[aP.eq_def]at a;dsimp only at a;cases ls with
  |nil=>cases a
  |cons l ls=>
   simp only[and_eq_true]at a;simp only[bg,bnd]at b;cases e1:aE Φ e env h with
   |ok v h1=>
    rw[e1]at b;dsimp only at b;cases e2:bg Φ es env h1 with
    |ok vs h2=>rw[e2]at b;cases b;simp[ih a.2 e2]
    |exc _ _ _=>rw[e2]at b;cases b
    |no=>rw[e2]at b;cases b
   |exc _ _ _=>rw[e1]at b;cases b
   |no=>rw[e1]at b;cases b
 |_=>trivial
theorem fk{α β:Type}{W:β -> Hs->List Addr->Hp->Prop}{W':α -> Hs->List Addr->Hp->Prop}{m:M α}{f:α -> M β}(p:Post B EX ρ H W (bnd m f h))(k:∀v h1 ρ1 H1,m h=.ok v h1->Gr ρ H ρ1 H1->HR B ρ1 h1 H1->Post B EX ρ1 H1 W (f v h1)->W' v h1 ρ1 H1):Post B EX ρ H W' (m h):=by
 unfold bnd at p;cases e:m h with
 |ok v h1=>rw[e]at p;exact λρ1 H1 g r=>k v h1 ρ1 H1 e g r (Post.up g p)
 |exc c vs h1=>rw[e]at p;exact p
 |no=>rw[e]at p;exact p
theorem qc{α:Type}{W:α -> Hs->List Addr->Hp->Prop}{o:Out α}(n:∀c xs H,EX c xs H->UG c xs H)(p:Post B EX ρ H W o):Post B UG ρ H W o:=by
 cases o with
 |ok a h'=>exact p
 |exc c vs h'=>exact λρ' H' xs g r q=>n _ _ _ (p ρ' H' xs g r q)
 |no=>exact p
theorem zd{α:Type}{W:α -> Hs->List Addr->Hp->Prop}{m:M α}(p:Post B EX ρ H W (calm m h)):Post B NX ρ H W (m h):=by
 unfold calm at p;cases e:m h with
 |ok a h'=>rw[e]at p;exact p
 |exc c vs h'=>rw[e]at p;exact p.elim
 |no=>rw[e]at p;exact p.elim
theorem Eh{j:Nat}{k:Nat}(hs:jB Φ es)(c:Ctx Φ Γ k X cl EX)
  (h:(tG Γ.sc x && Γ.fns[j]?==some (x,args.length)&&decide (args.length<1000)&&aP Γ es args)=true):PE X (.Call (.Name x p) args [] pos) (tV Φ (bd X cl) EX (.call j es))/\PT X (.Call (.Name x p) args [] pos) (tT Φ (bd X cl) EX (.call j es)):=by
 simp only[and_eq_true,beq_iff_eq,decide_eq_true_eq]at h;obtain⟨⟨⟨h1,h2⟩,h3⟩,h4⟩:=h;obtain⟨g1,g2,g3⟩:=c.gl h1;have room:cY k X.A:=c.room.mono (WR k);have q:PE X (.Call (.Name x p) args [] pos) (tV Φ (bd X cl) EX (.call j es)):=by
  obtain⟨E,hx,hX⟩:=c.Q3
  rcases c.fns j x _ h2 with ⟨_,f,fd,ps,f1,f2,f3,f4,f5⟩|⟨z,_⟩
  ·cases args with
   |nil=>
    cases es with
    |cons i dR=>rw[aP.eq_def]at h4;cases h4
    |nil=>refine(zV f5 room g1 f2 f3 f4 .nil hx g2).imp λσ H Q aJ=>?_;obtain⟨ρ,env,h,hE,r,p⟩:=aJ;simp only[aE,bg,dj]at p;exact⟨ρ,h,[],rfl,r,aq.nil,qc hX p⟩
   |cons l ls=>
    cases es with
    |nil=>rw[aP]at h4;cases h4
    |cons i dR=>have h5:=h4;rw[aP.eq_def]at h5;dsimp only at h5;simp only[and_eq_true]at h5;refine(Dj f5 room g1 f2 f3 f4 .nil hx (hs.1 Γ k X cl EX _ c h4) g2 (aN h5.1.1) (iQ h5.2)).imp λσ H Q aJ=>?_;obtain⟨ρ,env,h,hE,r,p⟩:=aJ;simp only[aE]at p;refine⟨ρ,env,h,hE,r,fk p λvs h1 ρ1 H1 e1 g1 r1 p1 xs q1=>⟨ρ1,h1,vs,nO h4 e1,r1,by rw[W8];exact q1,qc hX p1⟩⟩
  ·omega
 exact⟨q,dG q λ_=>rfl⟩
theorem Ei{j:Nat}(hs:jB Φ es):bH Φ (.call j es):=by
 intro Γ k X cl EX e c h;apply nN h;intro x _ args _ h;exact Eh hs c h
theorem JJ{n:Nat}(ha:bH Φ a):bH Φ (.fld n a x):=xg λ_ _=>rfl
theorem JK(ha:bH Φ a)(hs:jB Φ es):bH Φ (.mth a m js es):=xg λ_ _=>rfl
end
section
variable {Φ:Fn} {Γ:oK} {k:Nat} {X:Cx} {cl:Nat->Addr} {EX:Nat->List V->Hp->Prop}
theorem JL:bootBuiltins "all" = some (.builtin "all"):=by decide +kernel
theorem JM:bootBuiltins "any" = some (.builtin "any"):=by decide +kernel
theorem qd:bootBuiltins "sorted" = some (.builtin "sorted"):=by decide +kernel
theorem JN:bootBuiltins "min" = some (.builtin "min"):=by decide +kernel
theorem JO:bootBuiltins "max" = some (.builtin "max"):=by decide +kernel
theorem xm:bootBuiltins "list" = some (.type "list"):=by decide +kernel
theorem tK:bootBuiltins "tuple" = some (.type "tuple"):=by decide +kernel
theorem Be:bootBuiltins "str" = some (.type "str"):=by decide +kernel
theorem Bf:bootBuiltins "int" = some (.type "int"):=by decide +kernel
theorem Ej:bootBuiltins "bool" = some (.type "bool"):=by decide +kernel
theorem Ek:bootBuiltins "dict" = some (.type "dict"):=by decide +kernel
theorem El:bootBuiltins "isinstance" = some (.builtin "isinstance"):=by decide +kernel
theorem tL:bg Φ #[e] env=bnd (aE Φ e env) λd=>ret [d]:=by
 simp only[bg,dj]
theorem six{T:String}(h:["list","tuple","str","bool","int","dict"].contains T=true):T = "list" \/ T = "tuple" \/ T = "str" \/ T = "bool" \/ T = "int" \/ T = "dict":=by simpa using h
theorem Em{T:String}(h:["list","tuple","str","bool","int","dict"].contains T=true):(T:Str)∈bltNames/\bootBuiltins (T:Str)=some (.type T)/\(T:Str) ≠ "__name__" /\ ((T:Str)==("__debug__":Str))=false:=by
 rcases six h with rfl|rfl|rfl|rfl|rfl|rfl
 ·exact⟨by decide,xm,by decide,by decide⟩
 ·exact⟨by decide,tK,by decide,by decide⟩
 ·exact⟨by decide,Be,by decide,by decide⟩
 ·exact⟨by decide,Ej,by decide,by decide⟩
 ·exact⟨by decide,Bf,by decide,by decide⟩
 ·exact⟨by decide,Ek,by decide,by decide⟩
theorem Eo{T:String}(hs:jB Φ es):bH Φ (.blt (.isin T) es):=by
 intro Γ k X cl EX e c h;apply nN h;intro x p args pos h;simp only[and_eq_true,beq_iff_eq]at h;obtain⟨⟨h1,h2⟩,h3⟩:=h;subst h2;obtain⟨g1,g2,g3⟩:=c.gl h1;split at h3<;>first|cases h3|skip
 rename_i a y yp;simp only[and_eq_true,beq_iff_eq]at h3;obtain⟨⟨⟨k1,k2⟩,k3⟩,k4⟩:=h3;obtain⟨b1,b2,b3,b4⟩:=Em k3;obtain⟨y1,y2,y3⟩:=c.gl k1;subst k2;cases es with
 |nil=>rw[aP]at k4;cases k4
 |cons i dR=>
  rw[aP.eq_def]at k4;dsimp only at k4;simp only[and_eq_true]at k4;cases dR with
  |cons j dR=>have:=k4.2;rw[aP.eq_def]at this;cases this
  |nil=>
   have q:PE X (.Call (.Name (M8 (.isin T)) p) [a,.Name (T:Str) yp] [] pos) (tV Φ (bd X cl) EX (.blt (.isin T) #[i])):=by refine(cE (D3 (cl:=cl) (EX:=EX) (T:=T)) g1 (c.blt _ (show ("isinstance":Str)∈bltNames by decide)) El (bI (hs.2.1 Γ k X cl EX a c k4.1.2).1 (bI (v8 (v:=.ty T) y1 (c.blt _ b1) b2 rfl b3 b4) jN) (aN k4.1.1)) g3 g2 (aN k4.1.1)).imp λσ H Q aJ=>?_;obtain⟨ρ,env,h,hE,r,p⟩:=aJ;simp only[aE,tL,aQ,dj]at p;exact⟨ρ,env,h,hE,r,av p λv h1 ρ1 x H1 g1 r1 q1 p1=>⟨ρ1,h1,v,x,rfl,r1,q1,p1⟩⟩
   exact⟨q,dG q λ_=>rfl⟩
theorem JP:bootBuiltins "set" = some (.type "set"):=by decide +kernel
theorem Ep(ha:bH Φ a):bH Φ (.sset a):=by
 intro Γ k X cl EX e c h;apply nN h;intro x p1 q1 pos1 h;apply mC h;intro q2 h;apply nN h;intro y p2 q3 pos2 h;apply mC h;intro l h;simp only[and_eq_true,beq_iff_eq]at h;obtain⟨⟨⟨⟨⟨h1,h2⟩,h3⟩,h4⟩,h5⟩,h6⟩:=h;subst h1;subst h2;have q:PE X (.Call (.Name "sorted" p1) [.Call (.Name "set" p2) [l] [] pos2] [] pos1) (tV Φ (bd X cl) EX (.sset a)):=by have qe:=(ha Γ k X cl EX l c h6).1;intro pins s σ H Q I hh;have hd:X.A.handled=none:=I.ok.hd c.calm;refine((DL hd (c.gl h3).1 (c.blt _ (by decide)) (c.gl h4).1 (c.blt _ (by decide)) qd JP qe (aN (env:=X.env) (es:=[]) h5)).imp λσ H Q ⟨ρ,env,h,hE,r,p⟩=>?_) pins s σ H Q I hh;simp only[aE]at p;refine⟨ρ,env,h,hE,r,av p λv h1 ρ1 x H1 g1 r1 q1 p1=>?_⟩;obtain⟨zs,e,p1⟩:=aD p1;obtain⟨ns,e1,p1⟩:=bK p1;obtain⟨e2,p1⟩:=aM p1;obtain⟨b,ys,rfl,q2,q3⟩:=dP r1 q1 e;rw[cR e1]at q3;rw[aq.ints.mp q3]at q2;exact⟨b,ns,rfl,q2,Wt e2,λl hl=>dQ r1 hl (aq.ints.mpr rfl) p1⟩
 exact⟨q,dG q λ_=>rfl⟩
theorem Er{d k x:IE}(hd:bH Φ d)(hk:bH Φ k)(hx:bH Φ x):bH Φ (.dget d k x):=by
 intro Γ n X cl EX e c h;apply Gn h;intro o m ap q1 cp h;apply QZ h;intro a b h;simp only[and_eq_true,beq_iff_eq]at h;obtain⟨⟨⟨⟨⟨⟨⟨h1,h2⟩,h3⟩,h4⟩,h5⟩,h6⟩,h7⟩,h8⟩:=h;subst h1;have st:starEach [a,b] X.env=[(false,eval a X.env),(false,eval b X.env)]:=by rw[aN h3,aN h4];rfl
 have m2:M2 X o "get" ap a b cp:=⟨super_ok h2,by rw[st];rfl,by rw[h5];exact YH _,by rw[st];rfl⟩;have q:PE X (.Call (.Attribute o "get" ap) [a,b] [] cp) (tV Φ (bd X cl) EX (.dget d k x)):=by
  refine(z9 (by have:=c.units;omega) (hd Γ n X cl EX o c h6).1 (hk Γ n X cl EX a c h7).1 (hx Γ n X cl EX b c h8).1 m2).imp λσ H Q aJ=>?_;obtain⟨ρ,env,h,hE,r,p⟩:=aJ;simp only[aE]at p;refine⟨ρ,env,h,hE,r,av p λv h1 ρ1 y H1 g1 r1 q1 p1=>?_⟩;obtain⟨u0,e1,pA⟩:=aD p1;clear p1;cases v<;>first|(cases e1;done)|(rw[VR]at q1;exact q1.elim)|skip
  rename_i i;rw[VR]at q1;obtain⟨ad,rfl,q1⟩:=q1;have hdc:∃kvs,h1[i]?=some (.dct kvs):=by
   change (match h1[i]? with|some (.dct _)=>some ()|_=>none)=some _ at e1;split at e1
   ·rename_i kvs e2;exact⟨kvs,e2⟩
   ·cases e1
  obtain⟨kvs,e2⟩:=hdc;obtain⟨ks,k1,k2⟩:=r1.ob i _ ad e2 q1;refine⟨ad,rfl,.inl ⟨ks,.inl k1⟩,ρ1,env,h1,hE.up g1,r1,av pA λw h2 ρ2 y2 H2 g2 r2 q2 p2=>?_⟩;obtain⟨kk,e3,p2⟩:=bK p2;refine⟨ρ2,env,h2,(hE.up g1).up g2,r2,av p2 λz h3 ρ3 y3 H3 g3 r3 q3 p3=>?_⟩;obtain⟨rr,e4,p3⟩:=aD p3;have q4:ρ3[i]?=some ad:=qV (g2.trans g3).pre q1;have UH:∃kvs,h3[i]?=some (.dct kvs)/\rr=bY kvs kk:=by
   change (match h3[i]? with|some (.dct kvs)=>some (bY kvs kk)|_=>none)=some rr at e4;split at e4
   ·rename_i kvs e2;cases e4;exact⟨kvs,e2,rfl⟩
   ·cases e4
  obtain⟨Q4,e5,rfl⟩:=UH;obtain⟨UI,k3,k4⟩:=r3.ob i _ ad e5 q4;have ek:y2=kV kk:=by
   cases w<;>first|(cases e3;done)|skip
   ·cases e3;rw[VR]at q2;exact q2
   ·cases e3;rw[VR]at q2;exact q2
  refine⟨gm UI kk,by rw[ek];exact mh.k k3,?_⟩;cases ev:bY Q4 kk with
  |none=>rw[ev]at p3;rw[(gj.val kk k4).1 ev];exact ai r3 p3 _ q3
  |some z'=>obtain⟨t,e6,q6⟩:=(gj.val kk k4).2 z' ev;rw[ev]at p3;rw[e6];exact ai r3 p3 _ q6
 exact⟨q,dG q λ_=>rfl⟩
theorem Bg(hd:bH Φ d):bH Φ (.lkeys d):=gU λ_ _=>rfl
theorem Es{d k x:IE}(hd:bH Φ d)(hk:bH Φ k)(hx:bH Φ x):bH Φ (.sdef d k x):=gU λ_ _=>rfl
theorem qY{α β:Type}{f:α -> β}:∀{l:List α},(l.map f).Nodup->∀a∈l,∀b∈l,f a=f b->a=b
 | x::l,h,a,ha,b,hb,e=>by
  rw[Wm,WH]at h
  rcases Wf.mp ha with e1|ha2
  ·rcases Wf.mp hb with e2|hb2
   ·rw[e1,e2]
   ·rw[e1]at e;exact(h.1 (e▸Ys hb2)).elim
  ·rcases Wf.mp hb with e2|hb2
   ·rw[e2]at e;exact(h.1 (e▸Ys ha2)).elim
   ·exact qY h.2 a ha2 b hb2 e
theorem Bh(hd:bH Φ d):bH Φ (.skeys d):=gU λ_ _=>rfl
theorem Bj(hd:bH Φ d):bH Φ (.svals d):=gU λ_ _=>rfl
theorem JQ(hs:jB Φ es):bH Φ (.blt b es):=by
 cases b with
 |isin T=>exact Eo hs
 |_=>
  intro Γ k X cl EX e c h;apply nN h;intro x p args pos h;simp only[and_eq_true,beq_iff_eq]at h;obtain⟨⟨h1,h2⟩,h3⟩:=h;subst h2;obtain⟨g1,g2,g3⟩:=c.gl h1;cases args with
  |nil=>cases h3.1
  |cons l ls=>
   cases es with
   |nil=>have:=h3.2;rw[aP]at this;cases this
   |cons i dR=>
    have h5:=h3.2;rw[aP.eq_def]at h5;dsimp only at h5;simp only[and_eq_true]at h5;have hA:=hs.1 Γ k X cl EX _ c h3.2;have st:=aN (env:=X.env) (es:=ls) h5.1.1;have an:=iQ (pos:=pos) (env:=X.env) h5.2;refine(λq=>⟨q,dG q λ_=>rfl⟩) ?_
    first
     |refine(cE (IT (cl:=cl) (EX:=EX)) g1 (c.blt _ (by decide)) PySem.boot_len hA g3 g2 st an).imp λσ H Q ⟨ρ,env,h,hE,r,p⟩=>?_
     |refine(cE (IU (cl:=cl) (EX:=EX) c.calm) g1 (c.blt _ (by decide)) JN hA g3 g2 st an).imp λσ H Q ⟨ρ,env,h,hE,r,p⟩=>?_
     |refine(cE (IV (cl:=cl) (EX:=EX) c.calm) g1 (c.blt _ (by decide)) JO hA g3 g2 st an).imp λσ H Q ⟨ρ,env,h,hE,r,p⟩=>?_
     |refine(cE (yV (cl:=cl) (EX:=EX)) g1 (c.blt _ (by decide)) qd hA g3 g2 st an).imp λσ H Q ⟨ρ,env,h,hE,r,p⟩=>?_
     |refine(cE (IY (cl:=cl) (EX:=EX) c.calm) g1 (c.blt _ (by decide)) JL hA g3 g2 st an).imp λσ H Q ⟨ρ,env,h,hE,r,p⟩=>?_
     |refine(cE (IZ (cl:=cl) (EX:=EX) c.calm) g1 (c.blt _ (by decide)) JM hA g3 g2 st an).imp λσ H Q ⟨ρ,env,h,hE,r,p⟩=>?_
     |refine(jl (DZ (cl:=cl) (EX:=EX)) g1 (c.blt _ (by decide)) xm hA g3 g2 st an).imp λσ H Q ⟨ρ,env,h,hE,r,p⟩=>?_
     |refine(jl (AN (cl:=cl) (EX:=EX)) g1 (c.blt _ (by decide)) tK hA g3 g2 st an).imp λσ H Q ⟨ρ,env,h,hE,r,p⟩=>?_
     |refine(jl (IW (cl:=cl) (EX:=EX)) g1 (c.blt _ (by decide)) Be hA g3 g2 st an).imp λσ H Q ⟨ρ,env,h,hE,r,p⟩=>?_
     |refine(jl (IX (cl:=cl) (EX:=EX)) g1 (c.blt _ (by decide)) Bf hA g3 g2 st an).imp λσ H Q ⟨ρ,env,h,hE,r,p⟩=>?_
    simp only[aE]at p;exact⟨ρ,env,h,hE,r,bu p λvs h1 ρ1 H1 g1 r1 p1 xs q1=>⟨ρ1,h1,vs,r1,q1,p1⟩⟩
def SE:Me->String
 |.join=>"str" | .append=>"list" | .extend=>"list" | .remove=>"list"
theorem Et(r:HR B ρ h H)(q:VR B.K ρ H v x)(e:recv h m v=some ()):Qn B.K (SE m) x H:=by
 cases m<;>cases v<;>simp only[recv]at e<;>first|cases e|skip
 ·rw[VR]at q;subst q;rfl
 all_goals
  split at e
  ·rename_i xs e1;obtain⟨a,ys,rfl,q0,q1,q2⟩:=jt r q e1;exact .inl ⟨rfl,ys,.inl (.inl q1)⟩
  ·cases e
theorem JR(ha:bH Φ a)(hs:jB Φ es):bH Φ (.met m a es):=by
 intro Γ k X cl EX e c h;apply Gn h;intro o x ap args cp h;simp only[and_eq_true,beq_iff_eq]at h;obtain⟨⟨⟨⟨⟨⟨h1,h2⟩,h3⟩,h4⟩,h5⟩,h6⟩,h7⟩:=h;subst h1;cases args with
 |nil=>cases h3
 |cons l ls=>
  have hA:=hs.1 Γ k X cl EX _ c h7;have h8:noStar l=true/\∃dR,aP Γ dR ls=true:=by
   cases es with
   |nil=>rw[aP]at h7;cases h7
   |cons i dR=>rw[aP.eq_def]at h7;dsimp only at h7;simp only[and_eq_true]at h7;exact⟨h7.1.1,dR,h7.2⟩
  obtain⟨n1,dR,n2⟩:=h8;have st:=aN (env:=X.env) (es:=ls) n1;have an:=iQ (pos:=cp) (env:=X.env) n2;have few:((backTo cp (starEach (l::ls) X.env)).all (λx=>!x.1)&&(backToKw cp (keywordEach [] X.env)).all (λx=>x.1.isSome)
   && decide ((l::ls).length+([]:List Keyword).length+(if ([]:List Keyword).isEmpty then 0 else 1)<30))=true:=by
   rw[Bb h7];have:(l::ls).length<29:=Wt h4;simp only[Bool.true_and,and_eq_true];exact⟨rfl,decide_eq_true (by simp at this |-;omega)⟩
  have hl:(ap.endLine==cp.line)=true:=by rw[h5];exact YH _
  refine(λq=>⟨q,dG q λ_=>rfl⟩) ?_;have fin:∀(T:String) (r:V->List V->Hp->VK->Prop),(∀x xs H Q,MS (bd X cl) EX m x xs H Q->r x xs H Q)->T=SE m->∀σ H Q,tV Φ (bd X cl) EX (.met m a es) σ H Q->Sg X.K T r (tV Φ (bd X cl) EX a) (SD Φ (bd X cl) EX es) σ H Q:=by rintro T rr hr rfl σ H Q ⟨ρ,env,h,hE,r,p⟩;simp only[aE]at p;refine⟨ρ,env,h,hE,r,av p λv h1 ρ1 x H1 g1 r1 q1 p1=>?_⟩;obtain⟨_,e1,p2⟩:=aD p1;refine⟨Et r1 q1 e1,ρ1,env,h1,hE.up g1,r1,bu p2 λvs h2 ρ2 H2 g2 r2 p3 xs q2=>hr _ _ _ _ ⟨ρ2,h2,v,vs,r2,VR.up g2 _ _ q1,q2,p3⟩⟩
  cases m with
  |join=>exact(wu PySem.F.plainAttrs_str PySem.F.slot_str_join PySem.F.type_str_join (D4 (cl:=cl) (EX:=EX)) (ha Γ k X cl EX o c h6).1 hA (super_ok h2) few hl st an).imp (fin _ _ (λ_ _ _ _ z=>z) rfl)
  |append=>exact(wu XW PySem.F.slot_list_append PySem.F.type_list_append (yW (cl:=cl) (EX:=EX)) (ha Γ k X cl EX o c h6).1 hA (super_ok h2) few hl st an).imp (fin _ _ (λ_ _ _ _ z=>z) rfl)
  |extend=>exact(wu XW PySem.F.slot_list_extend PySem.F.type_list_extend (yX (cl:=cl) (EX:=EX)) (ha Γ k X cl EX o c h6).1 hA (super_ok h2) few hl st an).imp (fin _ _ (λ_ _ _ _ z=>z) rfl)
  |remove=>exact(wu XW PySem.F.slot_list_remove PySem.F.type_list_remove (yY (cl:=cl) (EX:=EX)) (ha Γ k X cl EX o c h6).1 hA (super_ok h2) few hl st an).imp (fin _ _ (λ_ _ _ _ z=>z) rfl)
end
theorem _root_.L2.PI.or(h:PI X tg iter t)(h':PI X tg iter t'):PI X tg iter (λσ H R=>t σ H R\/t' σ H R):=λpins s σ H R I hw=>hw.elim (h pins s σ H R I) (h' pins s σ H R I)
structure Walks (B:Bd) (src:Src) (J:It) (ρ1:List Addr) (H1:Hp):Prop where
 stop:∀{ρ h H i xs},Gw ρ1 H1 ρ H->HR B ρ h H->src.items h=some xs->xs.length<=i->J.stop i H
 go:∀{ρ h H i xs v},Gw ρ1 H1 ρ H->HR B ρ h H->src.items h=some xs->xs[i]?=some v->J.go i H
 uM:∀{ρ h H i xs v y H'},Gw ρ1 H1 ρ H->HR B ρ h H->src.items h=some xs->xs[i]?=some v->J.uM i H y H'->Gr ρ H ρ H'/\HR B ρ h H'/\VR B.K ρ H' v y
section
variable {B:Bd} {ρ1:List Addr} {H1:Hp} {a:Addr}
theorem ze(q:iy B.K H1 a xs)(e:aq B.K ρ1 H1 vs xs):Walks B (.fix vs) (P8 B.K a) ρ1 H1 where
 stop:=λg r hi hl=>by
  cases hi;exact⟨xs,g.Px q,by rw[<-e.length];exact hl⟩
 go:=λg r hi hv=>by
  cases hi;obtain⟨x,k1,_⟩:=e.get hv;exact⟨xs,x,g.Px q,k1⟩
 uM:=λg r hi hv y=>by
  cases hi;obtain⟨rfl,y⟩:=y;obtain⟨x,k1,k2⟩:=e.get hv;have:=y xs (g.Px q);rw[k1]at this;cases this;exact⟨Gr.refl,r,VR.jr g _ _ k2⟩
theorem Bk(q:Gh B.K H1 a xs)(e:aq B.K ρ1 H1 vs xs):Walks B (.fix vs) (Pe B.K a) ρ1 H1 where
 stop:=λg r hi hl=>by
  cases hi;exact⟨xs,(g.II q).sq,by rw[<-e.length];exact hl⟩
 go:=λg r hi hv=>by
  cases hi;obtain⟨x,k1,_⟩:=e.get hv;exact⟨xs,x,(g.II q).sq,k1⟩
 uM:=λg r hi hv y=>by
  cases hi;obtain⟨rfl,y⟩:=y;obtain⟨x,k1,k2⟩:=e.get hv;have:=y xs (g.II q).sq;rw[k1]at this;cases this;exact⟨Gr.refl,r,VR.jr g _ _ k2⟩
theorem ju{i:Nat}(q:ρ1[i]?=some a)(g:Gw ρ1 H1 ρ H)(r:HR B ρ h H)(hi:(Src.live i).items h=some xs):∃ys,fQ B.K H a ys/\aq B.K ρ H xs ys:=by
 obtain⟨b,ys,e,k1,k2⟩:=dP r (VR.ref (qV g.pre q)) (show ay h (.ref i)=some xs from hi);cases e;exact⟨ys,k1,k2⟩
theorem vF{i:Nat}(q:ρ1[i]?=some a):Walks B (.live i) (Pe B.K a) ρ1 H1 where
 stop:=λg r hi hl=>by
  obtain⟨ys,k1,k2⟩:=ju q g r hi;exact⟨ys,k1,by rw[<-k2.length];exact hl⟩
 go:=λg r hi hv=>by
  obtain⟨ys,k1,k2⟩:=ju q g r hi;obtain⟨x,k3,_⟩:=k2.get hv;exact⟨ys,x,k1,k3⟩
 uM:=λg r hi hv y=>by
  obtain⟨ys,k1,k2⟩:=ju q g r hi;obtain⟨rfl,y⟩:=y;obtain⟨x,k3,k4⟩:=k2.get hv;have:=y ys k1;rw[k3]at this;cases this;exact⟨Gr.refl,r,k4⟩
theorem f9(lo:Int)(n:Nat):(bQ lo n).length=n:=by unfold bQ;simp
theorem lV{lo:Int}{n:Nat}:Walks B (.fix (bQ lo n)) (L6 lo n) ρ1 H1 where
 stop:=λg r hi hl=>by
  cases hi;rw[f9]at hl;exact hl
 go:=λg r hi hv=>by
  cases hi;have:=(V4.mp hv).1;rw[f9]at this;exact this
 uM:=λ{ρ h H i xs v y H'} g r hi hv y'=>by
  cases hi;obtain⟨rfl,rfl⟩:=y';have hl:=(V4.mp hv).1;rw[f9]at hl;have e:(bQ lo n)[i]?=some (.int (lo+i)):=by unfold bQ;simp[hl]
  rw[e]at hv;cases hv;exact⟨Gr.refl,r,VR.int⟩
theorem fj:∀(i:Nat) (ds:List Val),(bJ i ds).length=ds.length
 |_,[]=>rfl
 |i,d::r=>by simp[bJ,fj (i+1) r]
theorem qf:∀(k:Nat) (ds:List Val) (i:Nat) (d:Val),ds[i]?=some d->(bJ k ds)[i]?=some (.tup [.int ((k+i:Nat):Int),d])
 |_,[],_,_,h=>by simp at h
 |k,e::r,0,d,h=>by simp at h;subst h;simp[bJ]
 | k,e::r,i+1,d,h=>by
  have:=qf (k+1) r i d (by simpa using h);simp only[bJ,List.getElem?_cons_succ];rw[this];have e1:k+1+i=k+(i+1):=by omega
  rw[e1]
theorem lB{i:Nat}(e:(bJ 0 ds)[i]?=some v):∃d,ds[i]?=some d/\v=.tup [.int (i:Int),d]:=by
 have hl:=(V4.mp e).1;rw[fj]at hl;have e1:=qf 0 ds i ds[i] (Ww hl);rw[e]at e1;cases e1;exact⟨ds[i],Ww hl,by rw[Nat.zero_add]⟩
theorem tM{i:Nat}(r:HR B ρ h H)(k1:fQ B.K H a ys)(k2:aq B.K ρ H xs ys)(hv:(bJ 0 xs)[i]?=some v)(hy:(MD B.K a).uM i H y H'):Gr ρ H ρ H'/\HR B ρ h H'/\VR B.K ρ H' v y:=by
 obtain⟨p,w,hn,rfl,rfl,hy⟩:=hy;obtain⟨d,e1,rfl⟩:=lB hv;obtain⟨x,k3,k4⟩:=k2.get e1;have:=hy ys k1;rw[k3]at this;cases this;exact⟨Gr.side hn,r.side hn,VR.tup (iy.of az) (aq.cons VR.int (aq.cons (VR.up (Gr.side hn) _ _ k4) aq.nil))⟩
theorem tN(q:Gh B.K H1 a xs)(e:aq B.K ρ1 H1 vs xs):Walks B (.fix (bJ 0 vs)) (MD B.K a) ρ1 H1 where
 stop:=λg r hi hl=>by
  cases hi;rw[fj]at hl;exact⟨xs,(g.II q).sq,by rw[<-e.length];exact hl⟩
 go:=λg r hi hv=>by
  cases hi;obtain⟨d,e1,_⟩:=lB hv;obtain⟨x,k1,_⟩:=e.get e1;exact⟨xs,x,(g.II q).sq,k1⟩
 uM:=λg r hi hv y=>by
  cases hi;exact tM r (g.II q).sq (aq.jr g _ _ e) hv y
theorem tO{i:Nat}(q:ρ1[i]?=some a):Walks B (.enum i) (MD B.K a) ρ1 H1 where
 stop:=λg r hi hl=>by
  obtain⟨zs,e1,rfl⟩:=Wu.mp hi;obtain⟨ys,k1,k2⟩:=ju q g r e1;rw[fj]at hl;exact⟨ys,k1,by rw[<-k2.length];exact hl⟩
 go:=λg r hi hv=>by
  obtain⟨zs,e1,rfl⟩:=Wu.mp hi;obtain⟨ys,k1,k2⟩:=ju q g r e1;obtain⟨d,e2,_⟩:=lB hv;obtain⟨x,k3,_⟩:=k2.get e2;exact⟨ys,x,k1,k3⟩
 uM:=λg r hi hv y=>by
  obtain⟨zs,e1,rfl⟩:=Wu.mp hi;obtain⟨ys,k1,k2⟩:=ju q g r e1;exact tM r k1 k2 hv y
end
section
variable {Φ:Fn} {Γ:oK} {k:Nat} {X:Cx} {cl:Nat->Addr} {EX:Nat->List V->Hp->Prop}
def LD(Φ:Fn)(ik:Ik)(it:jz)(env:Env):M Src:=bnd (bg Φ it env) λits=>aT (srcOf ik its)
def tI(Φ:Fn)(B:Bd)(EX:Nat->List V->Hp->Prop)(ik:Ik)(it:jz):TI:=λσ H R=>∃ρ env h,bZ B.K ρ env σ H/\HR B ρ h H /\
 Post B EX ρ H (λsrc h' ρ' H'=>(∃xs,src.items h'=some xs)/\∀J,Walks B src J ρ' H'->R J H') (LD Φ ik it env h)
theorem Gv(hs:jB Φ it)(c:Ctx Φ Γ k X cl EX)(h:wY Γ ik it iter=true)(ht:ik=.enum\/ik=.zip->∃es kk pos,tg=.Tuple es kk pos):PI X tg iter (tI Φ (bd X cl) EX ik it)/\∀x,foldedSetIterable iter X.env x=pure x:=by
 cases it with
 |nil=>rw[wY]at h;cases h
 |cons e es=>
  cases ik with
  |seq=>
   replace h:=Ba h;obtain⟨rfl,h⟩:=h;simp only[and_eq_true]at h;have q:=(hs.2.1 Γ k X cl EX iter c h.2).1;refine⟨((De q).or (Hy q)).imp λσ H R ⟨ρ,env,h,hE,r,p⟩=>?_,λx=>?_⟩
   ·simp only[LD,tL,aQ,dj]at p
    have key:∀(Q:VK),(∀v h1 ρ1 x H1,aE Φ e env h=.ok v h1->Gr ρ H ρ1 H1->HR (bd X cl) ρ1 h1 H1->VR X.K ρ1 H1 v x->Post (bd X cl) EX ρ1 H1 (λsrc h' ρ' H'=>(∃xs,src.items h'=some xs)/\∀J,Walks (bd X cl) src J ρ' H'->R J H') (aT (srcOf .seq [v]) h1)->Q x H1)->tV Φ (bd X cl) EX e σ H Q:=λQ kk=>
     ⟨ρ,env,h,hE,r,fk p λv h1 ρ1 H1 e1 g1 r1 p1 x q1=>kk v h1 ρ1 x H1 e1 g1 r1 q1 p1⟩
    cases ev:aE Φ e env h with
    |ok v h1=>
     cases v with
     |tup vs=>refine .inr (key _ λv h1 ρ1 x H1 e1 g1 r1 q1 p1=>?_);rw[ev]at e1;cases e1;obtain⟨src,e2,w1,w2⟩:=bT r1 p1;cases e2;rw[VR]at q1;obtain⟨a,xs,rfl,k1,k2⟩:=q1;exact⟨a,rfl,⟨xs,k1⟩,w2 _ (ze k1 k2)⟩
     |rl vs=>refine .inl (key _ λv h1 ρ1 x H1 e1 g1 r1 q1 p1=>?_);rw[ev]at e1;cases e1;obtain⟨src,e2,w1,w2⟩:=bT r1 p1;cases e2;rw[VR]at q1;obtain⟨a,xs,rfl,k1,k2⟩:=q1;exact⟨a,rfl,⟨xs,k1.sq⟩,w2 _ (Bk k1 k2)⟩
     |ref i=>refine .inl (key _ λv h1 ρ1 x H1 e1 g1 r1 q1 p1=>?_);rw[ev]at e1;cases e1;obtain⟨src,e2,⟨zs,w1⟩,w2⟩:=bT r1 p1;cases e2;have q0:=q1;rw[VR]at q1;obtain⟨a,rfl,k1⟩:=q1;obtain⟨b,ys,e3,k2,k3⟩:=dP r1 q0 (show ay h1 (.ref i)=some zs from w1);cases e3;exact⟨a,rfl,⟨ys,k2⟩,w2 _ (vF k1)⟩
     |_=>refine .inl (key _ λv h1 ρ1 x H1 e1 g1 r1 q1 p1=>?_);rw[ev]at e1;cases e1;obtain⟨src,e2,_⟩:=bT r1 p1;cases e2
    |exc _ _ _=>exact .inl (key _ λv h1 ρ1 x H1 e1=>by rw[ev]at e1;cases e1)
    |no=>exact .inl (key _ λv h1 ρ1 x H1 e1=>by rw[ev]at e1;cases e1)
   ·cases iter<;>first|rfl|(exact absurd h.1 V1)
  |range=>
   apply nN h;intro x xp q1 pos h;apply vC h;intro a args h;simp only[and_eq_true,beq_iff_eq]at h;obtain⟨⟨⟨⟨⟨h1,h2⟩,h3⟩,h4⟩,h5⟩,h6⟩:=h;subst h1;obtain⟨g1,g2,g3⟩:=c.gl h2;have hm:=c.blt _ (show ("range":Str)∈bltNames by decide);refine⟨?_,λx=>rfl⟩;have hA:=hs.1 Γ k X cl EX (a::args) c (by rw[aP.eq_def];simp[h3,h4,h5]);cases args with
   |nil=>
    cases es with
    |cons i dR=>rw[aP.eq_def]at h5;cases h5
    |nil=>
     refine(yj g1 hm hA (aN h3)).imp λσ H R aJ=>?_;obtain⟨ρ,env,h,hE,r,p⟩:=aJ;refine⟨ρ,env,h,hE,r,fk p λvs h1 ρ1 H1 e1 SG r1 p1 xs q1=>?_⟩;obtain⟨src,e2,w1,w2⟩:=bT r1 p1
     match vs,e2 with
     |[.int n],e2=>
      change (if inR n=true then some (Src.fix (bQ 0 n.toNat)) else none)=some src at e2;split at e2
      ·rename_i hn;cases e2;simp only[inR,and_eq_true,decide_eq_true_eq]at hn;obtain⟨x,rfl,hx⟩:=aq.one q1;rw[VR]at hx;subst hx;exact⟨n,rfl,hn.1,hn.2,w2 _ lV⟩
      ·cases e2
     |[.int _,.int _],e2=>have:=nO (Γ:=Γ) (ls:=[a]) (by rw[aP.eq_def];simp[h3,h4,aP]) e1;simp at this
   |cons b args=>
    cases args with
    |cons _ _=>have:=Wt h6;simp only[length_cons]at this;omega
    |nil=>
     have hb:noStar b=true:=by
      cases es with
      |nil=>rw[aP]at h5;cases h5
      |cons i dR=>rw[aP.eq_def]at h5;dsimp only at h5;simp only[and_eq_true]at h5;exact h5.1.1
     refine(yk g1 hm hA (by rw[aN h3,aN hb];rfl) (by rw[aN hb];rfl)).imp λσ H R aJ=>?_;obtain⟨ρ,env,h,hE,r,p⟩:=aJ;refine⟨ρ,env,h,hE,r,fk p λvs h1 ρ1 H1 e1 SG r1 p1 xs q1=>?_⟩;obtain⟨src,e2,w1,w2⟩:=bT r1 p1
     match vs,e2 with
     |[.int _],e2=>have:=nO (Γ:=Γ) (ls:=[a,b]) (by rw[aP.eq_def];simp[h3,h4,h5]) e1;simp at this
     |[.int lo,.int hi],e2=>
      change (if (inR lo&&inR hi)=true then some (Src.fix (bQ lo (hi-lo).toNat)) else none)=some src at e2;split at e2
      ·rename_i hn;cases e2;simp only[inR,and_eq_true,decide_eq_true_eq]at hn;obtain⟨x,y,rfl,hx,hy⟩:=aq.two q1;rw[VR]at hx;rw[VR]at hy;subst hx;subst hy;exact⟨lo,hi,rfl,⟨hn.1.1,hn.1.2,hn.2.1,hn.2.2⟩,w2 _ lV⟩
      ·cases e2
  |enum=>
   replace h:=Ba h;obtain⟨rfl,h⟩:=h;apply nN h;intro x xp q1 pos h;apply mC h;intro a h;simp only[and_eq_true,beq_iff_eq]at h;obtain⟨⟨⟨h1,h2⟩,h3⟩,h4⟩:=h;subst h1;obtain⟨g1,g2,g3⟩:=c.gl h2;have hm:=c.blt _ (show ("enumerate":Str)∈bltNames by decide);obtain⟨VW,tk,tp,rfl⟩:=ht (.inl rfl);refine⟨?_,λx=>rfl⟩;have hA:=hs.1 Γ k X cl EX [a] c (by rw[aP.eq_def];simp[h3,h4,aP]);refine(DH g1 hm hA (aN h3)).imp λσ H R aJ=>?_;obtain⟨ρ,env,h,hE,r,p⟩:=aJ;refine⟨ρ,env,h,hE,r,fk p λvs h1 ρ1 H1 e1 SG r1 p1 xs q1=>?_⟩;obtain⟨src,e2,⟨zs,w1⟩,w2⟩:=bT r1 p1
   match vs,e2 with
   |[.rl ws],e2=>cases e2;obtain⟨x,rfl,hx⟩:=aq.one q1;rw[VR]at hx;obtain⟨b,ys,rfl,k1,k2⟩:=hx;exact⟨b,rfl,⟨ys,k1.sq⟩,w2 _ (tN k1 k2)⟩
   |[.ref i],e2=>cases e2;obtain⟨x,rfl,hx⟩:=aq.one q1;obtain⟨us,w3,_⟩:=Wu.mp w1;obtain⟨b,ys,rfl,k2,k3⟩:=dP r1 hx w3;rw[VR]at hx;obtain⟨b',e3,k1⟩:=hx;cases e3;exact⟨b,rfl,⟨ys,k2⟩,w2 _ (tO k1)⟩
  |zip=>cases h
end
section
variable {Φ:Fn} {Γ:oK} {k:Nat} {X:Cx} {cl:Nat->Addr} {EX:Nat->List V->Hp->Prop}
def nP:List Nat->Ls
 |[]=>L3
 |i::is=>FW (pC i) (nP is)
def zf(K:Frag):uJ->TG
 |.one i=>pC i
 |.tup is=>L4 K is.length (nP is)
def gb:List Nat->List V->L2.St->L2.St
 |i::is,v::vs,σ=>gb is vs (σ.set i (some v))
 |_,_,σ=>σ
theorem lC:∀{is:List Nat} {vs:List V} {σ:L2.St} {H:Hp} {Q:L2.St->Hp->Prop},vs.length=is.length->Q (gb is vs σ) H->nP is vs σ H Q
 |[],[],_,_,_,_,h=>⟨rfl,h⟩
 |i::is,v::vs,σ,H,Q,hl,h=>⟨v,vs,rfl,lC (by simpa using hl) h⟩
theorem qg(hnd:X.N.Nodup):∀{is:List Nat} {es:List Expr},es.length=is.length->(∀p∈is.zip es,∃x pos,p.2=.Name x pos/\X.N[p.1]?=some x/\X.env.scope.names.lookup x=some .local)->Lu X es (nP is)
 |[],[],_,_=>v9
 | i::is,e::es,hl,h=>by
  obtain⟨x,pos,rfl,h1,h2⟩:=h (i,e) (by simp);exact rR (fc hnd h1 (.inl h2) (.inr h2)) (qg hnd (by simpa using hl) λp hp=>h p (by simp[hp]))
theorem fD:∀{es:List Expr},(∀e∈es,∃x pos,e=.Name x pos)->(assignEach es env).length=es.length/\(assignEach es env).findIdx? (·.1)=none
 |[],_=>⟨rfl,rfl⟩
 | e::es,h=>by
  obtain⟨x,pos,rfl⟩:=h e V8;obtain⟨h1,h2⟩:=fD (env:=env) (es:=es) λe he=>h e (V5 _ he);have e1:assignEach (Expr.Name x pos::es) env=(false,assign (Expr.Name x pos) env)::assignEach es env:=rfl;rw[e1];refine⟨by simp[h1],?_⟩;rw[List.findIdx?_cons,h2];rfl
theorem Bm{i:Nat}(h:yZ Γ (.one i) tg=true):∃x p,tg=.Name x p:=by
 cases tg<;>first|exact⟨_,_,rfl⟩|exact absurd h V1
theorem tQ{is:List Nat}(h:yZ Γ (.tup is) tg=true):∃es k p,tg=.Tuple es k p:=by
 cases tg<;>first|exact⟨_,_,_,rfl⟩|exact absurd h V1
theorem JS(c:Ctx Φ Γ k X cl EX)(hnd:X.N.Nodup)(h:yZ Γ pat tg=true):PG X tg (zf X.K pat):=by
 cases pat with
 |one i=>obtain⟨x,xp,rfl⟩:=Bm h;simp only[yZ,and_eq_true,beq_iff_eq]at h;obtain⟨h1,h2⟩:=h;exact fc hnd (by rw[c.N];exact h1) (.inl (by rw[c.sc];exact h2)) (.inr (by rw[c.sc];exact h2))
 |tup is=>
  obtain⟨es,kk,pos,rfl⟩:=tQ h
  ·
   simp only[yZ,and_eq_true,beq_iff_eq,all_eq_true]at h;obtain⟨h1,h2⟩:=h;have names:∀p∈is.zip es,∃x pos,p.2=.Name x pos/\X.N[p.1]?=some x/\X.env.scope.names.lookup x=some .local:=λp hp=>by
    have q:=h2 p hp;cases ep:p.2<;>rw[ep]at q<;>simp at q;rename_i x pos';exact⟨x,pos',rfl,by rw[c.N];exact q.1,by rw[c.sc];exact q.2⟩
   have all:∀e∈es,∃x pos,e=.Name x pos:=λe he=>by
    obtain⟨n,hn,rfl⟩:=Yr he;have hm:(is[n]'(by omega),es[n])∈is.zip es:=Ye.mpr ⟨n,by rw[XI];simp[hn]⟩;obtain⟨x,pos,q,_⟩:=names _ hm;exact⟨x,pos,q⟩
   obtain⟨l1,l2⟩:=fD (env:=X.env) all;exact zN c.calm (qg hnd h1 names) (by rw[l1,h1]) l2
def tR(Γ:oK):uJ->Expr->Bool
 |.one i,.Name x _=>Γ.N[i]?==some x&&(Γ.sc.names.lookup x==some .local || Γ.sc.names.lookup x==some .cell)
 | .tup is,.Tuple es _ _=>es.length==is.length&&(is.zip es).all λp=>match p.2 with
  |.Name x _=>Γ.N[p.1]?==some x&&(Γ.sc.names.lookup x==some .local || Γ.sc.names.lookup x==some .cell)
  |_=>false
 |_,_=>false
theorem nQ(hfn:∀x,X.fn x=true)(hnd:X.N.Nodup):∀{is:List Nat} {es:List Expr},es.length=is.length->(∀p∈is.zip es,∃x pos,p.2=.Name x pos/\X.N[p.1]?=some x/\Loc X.env.scope x)->Lu X es (nP is)
 |[],[],_,_=>v9
 | i::is,e::es,hl,h=>by
  obtain⟨x,pos,rfl,h1,h2⟩:=h (i,e) (by simp);exact rR (fc hnd h1 h2 (.inl (hfn x))) (nQ hfn hnd (by simpa using hl) λp hp=>h p (by simp[hp]))
theorem nR{i:Nat}(h:tR Γ (.one i) tg=true):∃x p,tg=.Name x p:=by
 cases tg<;>first|exact⟨_,_,rfl⟩|exact absurd h V1
theorem ku{is:List Nat}(h:tR Γ (.tup is) tg=true):∃es k p,tg=.Tuple es k p:=by
 cases tg<;>first|exact⟨_,_,_,rfl⟩|exact absurd h V1
theorem xq(c:Ctx Φ Γ k X cl EX)(hfn:∀x,X.fn x=true)(hnd:X.N.Nodup)(h:tR Γ pat tg=true):PG X tg (zf X.K pat):=by
 have loc:∀x,(Γ.sc.names.lookup x==some .local || Γ.sc.names.lookup x==some .cell)=true->Loc X.env.scope x:=λx e=>by
  unfold L2.Loc;rw[c.sc];simpa using e
 cases pat with
 |one i=>obtain⟨x,pos,rfl⟩:=nR h;simp only[tR,and_eq_true,beq_iff_eq]at h;obtain⟨h1,h2⟩:=h;exact fc hnd (by rw[c.N];exact h1) (loc _ h2) (.inl (hfn _))
 |tup is=>
  obtain⟨es,kk,pos,rfl⟩:=ku h
  ·
   simp only[tR,and_eq_true,beq_iff_eq,all_eq_true]at h;obtain⟨h1,h2⟩:=h;have names:∀p∈is.zip es,∃x pos,p.2=.Name x pos/\X.N[p.1]?=some x/\Loc X.env.scope x:=λp hp=>by
    have q:=h2 p hp;cases ep:p.2<;>rw[ep]at q<;>first|cases q|skip
    rename_i x pos';simp only[and_eq_true,beq_iff_eq]at q;exact⟨x,pos',rfl,by rw[c.N];exact q.1,loc _ q.2⟩
   have all:∀e∈es,∃x pos,e=.Name x pos:=λe he=>by
    obtain⟨n,hn,rfl⟩:=Yr he;have hm:(is[n]'(by omega),es[n])∈is.zip es:=Ye.mpr ⟨n,by rw[XI];simp[hn]⟩;obtain⟨x,pos,q,_⟩:=names _ hm;exact⟨x,pos,q⟩
   obtain⟨l1,l2⟩:=fD (env:=X.env) all;exact zN c.calm (nQ hfn hnd h1 names) (by rw[l1,h1]) l2
theorem bZ.set{K:Frag}{ρ:List Addr}{env:Env}{σ:L2.St}{H:Hp}{i:Nat}{v:Val}{x:V}(e:bZ K ρ env σ H)(hl:env.length = σ.length)(q:VR K ρ H v x):bZ K ρ (env.set i (some v)) (σ.set i (some x)) H:=λj w hj=>by
 by_cases hij:i=j
 ·subst hij
  have hi:i<env.length:=by have:=(V4.mp hj).1;simpa using this
  rw[Wh hi]at hj;cases hj;exact⟨x,by rw[Wh (by rw[<-hl];exact hi)],q⟩
 ·rw[V7 hij]at hj;rw[V7 hij];exact e j w hj
theorem jS{K:Frag}{ρ:List Addr}{H:Hp}:∀{is:List Nat} {ds:List Val} {xs:List V} {env env':Env} {σ:L2.St},bindAll is ds env=some env'->aq K ρ H ds xs->bZ K ρ env σ H->env.length = σ.length->bZ K ρ env' (gb is xs σ) H/\env'.length=(gb is xs σ).length/\(gb is xs σ).length = σ.length/\xs.length=is.length
 | [],[],xs,env,env',σ,e,q,hE,hl=>by
  rw[aq]at q;subst q;simp only[bindAll]at e;cases e;exact⟨hE,hl,rfl,rfl⟩
 | i::is,d::ds,xs,env,env',σ,e,q,hE,hl=>by
  rw[aq]at q;obtain⟨x,r,rfl,q1,q2⟩:=q;simp only[bindAll]at e;obtain⟨a1,a2,a3,a4⟩:=jS e q2 (hE.set hl q1) (by simp[hl]);exact⟨a1,a2,by rw[show gb (i::is) (x::r) σ = gb is r (σ.set i (some x)) from rfl,a3];simp,by simp[a4]⟩
 |[],_::_,_,_,_,_,e,_,_,_=>by simp[bindAll]at e
 |_::_,[],_,_,_,_,e,_,_,_=>by simp[bindAll]at e
theorem xr{K:Frag}{ρ:List Addr}{H:Hp}{pat:uJ}{v:Val}{x:V}{env env':Env}{σ:L2.St}{Q:L2.St->Hp->Prop}(e:fB pat v env=some env')(q:VR K ρ H v x)(hE:bZ K ρ env σ H)(hl:env.length = σ.length)
  (kk:∀σ',bZ K ρ env' σ' H->env'.length = σ'.length -> σ'.length = σ.length->Q σ' H):zf K pat x σ H Q:=by
 cases pat with
 |one i=>simp only[fB]at e;cases e;exact kk _ (hE.set hl q) (by simp[hl]) (by simp)
 |tup is=>
  cases v<;>simp only[fB]at e<;>first|cases e|skip
  rw[VR]at q;obtain⟨a,xs,rfl,q1,q2⟩:=q;obtain⟨a1,a2,a3,a4⟩:=jS e q2 hE hl;exact⟨a,xs,rfl,q1,a4,lC a4 (kk _ a1 a2 a3)⟩
theorem jv{α β:Type}{W:β -> Hs->List Addr->Hp->Prop}{W':α -> Hs->List Addr->Hp->Prop}{m:M α}{f:α -> M β}(g:Gr ρ H ρ' H')(p:Post B EX ρ H W (bnd m f h))
  (kk:∀v h1 ρ2 H2,m h=.ok v h1->Post B EX ρ H W (f v h1)->Gr ρ' H' ρ2 H2->HR B ρ2 h1 H2->W' v h1 ρ2 H2):Post B EX ρ' H' W' (m h):=by
 unfold bnd at p;cases e:m h with
 |ok v h1=>rw[e]at p;exact λρ2 H2 g2 r2=>kk v h1 ρ2 H2 e p g2 r2
 |exc c vs h1=>rw[e]at p;exact λρ2 H2 xs g2 r2 q=>p ρ2 H2 xs (g.trans g2) r2 q
 |no=>rw[e]at p;exact p
theorem HR.adopt(r:HR B ρ h H)(hD:D ∉ ρ)(q:OR B (ρ ++ [D]) H D u):HR B (ρ ++ [D]) (h++[u]) H where
 len:=by simp[r.len]
 nd:=by rw[YB];refine⟨r.nd,by simp,λa ha b hb=>?_⟩;rw[Wo.mp hb];rintro rfl;exact hD ha
 ob i v a q1 q2:=by
  by_cases hi:i<h.length
  ·rw[Wi hi]at q1;rw[Wi (by rw[r.len];exact hi)]at q2;exact OR.jr ⟨WO _ _,λ_ _ e _=>e⟩ rfl (r.ob i v a q1 q2)
  ·rw[Wv (by omega)]at q1
   rw[Wv (by rw[r.len];omega)]at q2;have hi0:i-h.length=0:=by have:=(V4.mp q1).1;simp at this;omega
   rw[hi0]at q1;rw[r.len,hi0]at q2;simp at q1 q2;subst q1;subst q2;exact q
theorem Gr.over(g:Gr ρ H ρ' H')(hD:H D=none):Gr ρ H ρ' (upd H' D o) where
 pre:=g.pre
 keep a u e n:=by rw[ao (aG e hD)];exact g.keep a u e n
 firm a u e n:=by rw[ao (aG e hD)];exact g.firm a u e n
 fresh:=g.fresh
theorem Gr.adopt(g:Gr ρ H ρ' H')(hD:H D=none):Gr ρ H (ρ'++[D]) H' where
 pre:=g.pre.trans (WO _ _)
 keep:=g.keep
 firm:=g.firm
 fresh a z n:=by
  rcases W7.mp z with z|z
  ·exact g.fresh a z n
  ·rw[Wo.mp z];exact hD
theorem Eu{K:Frag}{ρ:List Addr}{env:Env}{σ:L2.St}{H:Hp}{js:List (Option Nat)}(e:bZ K ρ env σ H):bZ K ρ (iN js env) (gP js σ) H:=λi v q=>by
 unfold iN at q;rw[Ws]at q;cases hj:js[i]? with
 |none=>rw[hj]at q;cases q
 |some o=>
  rw[hj]at q;simp only[map_some]at q;cases o with
  |none=>cases q
  |some j=>
   dsimp only at q;cases ej:env[j]? with
   |none=>rw[ej]at q;cases q
   |some w=>
    cases w with
    |none=>rw[ej]at q;cases q
    |some d=>rw[ej]at q;cases q;obtain⟨x,q1,q2⟩:=e j _ ej;refine⟨x,?_,q2⟩;unfold gP;rw[Ws,hj];simp only[map_some];rw[q1]
theorem Bo{K:Frag}{ρ:List Addr}{env:Env}{σ σ':L2.St}{H:Hp}{js:List (Option Nat)}{pat:uJ}(hp:(tH pat).all (λi=>js[i]?==some none)=true)(e:bZ K ρ (iN js env) σ H)(hs:∀i,i∉tH pat -> σ'[i]? = σ[i]?):bZ K ρ (iN js env) σ' H:=λi v q=>by
 have hi:i∉tH pat:=λz=>by
  have h1:=YJ.mp hp i z;have h2:js[i]?=some none:=eq_of_beq h1;unfold iN at q;rw[Ws,h2]at q;cases q
 obtain⟨x,q1,q2⟩:=e i v q;exact⟨x,(hs i hi).trans q1,q2⟩
theorem nS:∀{is:List Nat} {xs:List V} {σ:L2.St} {i:Nat},i∉is->(gb is xs σ)[i]? = σ[i]?
 |[],xs,σ,i,_=>by cases xs<;>rfl
 |j::is,[],σ,i,_=>rfl
 | j::is,x::xs,σ,i,h=>by
  rw[show gb (j::is) (x::xs) σ = gb is xs (σ.set j (some x)) from rfl,nS λz=>h (V5 _ z),V7 λz=>h (by rw[z];exact V8)]
theorem Bp{K:Frag}{ρ:List Addr}{H:Hp}{pat:uJ}{v:Val}{x:V}{env env':Env}{σ:L2.St}{Q:L2.St->Hp->Prop}(e:fB pat v env=some env')(q:VR K ρ H v x)(hE:bZ K ρ env σ H)(hl:env.length = σ.length)
  (kk:∀σ',bZ K ρ env' σ' H -> σ'.length = σ.length->(∀i,i∉tH pat -> σ'[i]? = σ[i]?)->Q σ' H):zf K pat x σ H Q:=by
 cases pat with
 |one i=>simp only[fB]at e;cases e;exact kk _ (hE.set hl q) (by simp) λj hj=>V7 λz=>hj (by rw[z];exact Wo.mpr rfl)
 |tup is=>
  cases v<;>simp only[fB]at e<;>first|cases e|skip
  rw[VR]at q;obtain⟨a,xs,rfl,q1,q2⟩:=q;obtain⟨a1,a2,a3,a4⟩:=jS e q2 hE hl;exact⟨a,xs,rfl,q1,a4,lC a4 (kk _ a1 a3 λj hj=>nS hj)⟩
theorem nU(hs:jB Φ it)(hc:bH Φ t)(he:bH Φ elt)(c:Ctx Φ Γ k X cl EX)(h:bq Γ (.comp N' js pat ik it t elt) e=true) :
  ∃e' tg iter ifs scope pos wi g tt te,e=.ListComp e' [⟨tg,iter,ifs,0⟩] scope pos/\jn X.N X.env.scope scope N' js=true/\PI X tg iter wi/\(∀cls C s H fp,PG (bz X scope N' cls C s H fp) tg g)/\(∀cls C s H fp,DA (bz X scope N' cls C s H fp) ifs tt) /\
   (∀cls C s H fp,PE (bz X scope N' cls C s H fp) e' te)/\(∀x,foldedSetIterable iter X.env x=pure x)/\∀σ H Q,tV Φ (bd X cl) EX (.comp N' js pat ik it t elt) σ H Q->Ad wi js g tt te σ H Q:=by
 apply D7 h;intro e' q1 scope pos h;apply mC h;intro q2 h;apply Jf h;intro tg iter ifs q3 h;apply tF h;intro h;simp only[and_eq_true]at h;obtain⟨⟨⟨⟨⟨⟨⟨h1,h2⟩,h3⟩,h4⟩,h5⟩,h6⟩,h7⟩,h8⟩:=h;have hnd:N'.Nodup:=Wt h3;have hen:ik=.enum\/ik=.zip->∃es kk pos,tg=.Tuple es kk pos:=by
  intro hz;cases pat with
  |one i=>rcases hz with rfl|rfl<;>cases h6
  |tup is=>exact tQ h4
 obtain⟨hi,hf⟩:=Gv hs c.no h2 hen
 let tt:TT:=if cH t=true then sd else tT Φ (bd X cl) NX t
 have Qh:∀cls C s H fp,DA (bz X scope N' cls C s H fp) ifs tt:=λcls C s H fp=>by
  have c':=c.Gs scope N' cls C s H fp;cases ifs with
  |nil=>have:cH t=true:=h7;show DA _ [] (if cH t=true then sd else tT Φ (bd X cl) NX t);rw[Wg this];exact DC
  |cons a r=>
   cases r with
   |cons _ _=>cases h7
   |nil=>simp only[and_eq_true,not_eq_true']at h7;show DA _ [a] (if cH t=true then sd else tT Φ (bd X cl) NX t);rw[We (by rw[h7.1];exact V1)];exact DE (hc _ _ _ _ _ _ c' h7.2).2
 refine⟨e',tg,iter,ifs,scope,pos,_,zf X.K pat,tt,tV Φ (bd X cl) NX elt,rfl,by rw[c.N,c.sc];exact h1,hi,λcls C s H fp=>JS (c.Gs scope N' cls C s H fp) hnd h4,Qh,λcls C s H fp=>(he _ _ _ _ _ _ (c.Gs scope N' cls C s H fp) h8).1,hf,λσ H Q ⟨ρ,env,h,hE,r,p⟩=>?_⟩
 ·skip
  simp only[aE]at p;have p:=zd p
  let f:Val->M (Option Val):=λd=>bnd (aT (fB pat d (iN js env))) λenv'=>bnd (if cH t=true then ret true else bnd (aE Φ t env') λv=>ask λh=>cG h v) λt=>
    if t=true then bnd (aE Φ elt env') λe=>ret (some e) else ret none
  have p':Post (bd X cl) NX ρ H (WV X.K Q) (bnd (LD Φ ik it env) (λsrc=>bnd (ask λh=>src.items h) λxs=>aK (decide (xs.length<=100000)) (bnd (eu src f xs.length 0 []) λys=>new (.lst ys))) h):=by unfold LD;rw[aQ];exact p
  refine⟨ρ,env,h,hE,r,bu p' λsrc h1 ρ1 H1 g1 r1 p1=>?_⟩;obtain⟨xs,e1,p2⟩:=aD p1;obtain⟨e2,p3⟩:=aM p2;have e2:=Wt e2;refine⟨⟨xs,e1⟩,λJ wk D hD=>?_⟩;have VX:(100000:Nat)<sizeLine:=by rw[W0];decide
  refine⟨λi m σ' H'=>∃ρ' h' acc ys,Gr ρ1 H1 ρ' H'/\HR (bd X cl) ρ' h' H'/\D ∉ ρ'/\H' D=some (.lst ys)/\aq X.K ρ' H' acc ys/\bZ X.K ρ' (iN js env) σ' H' /\ σ'.length=js.length/\acc.length<=i/\i+m=xs.length /\
   Post (bd X cl) NX ρ1 H1 (WV X.K Q) (bnd (eu src f m i acc) (λys=>new (.lst ys)) h'),⟨xs.length,ρ1,h1,[],[],Gr.side hD,r1.side hD,r1.out hD,az,aq.nil,(Eu (hE.up g1)).up (Gr.side hD),jI js σ,Wb _,by omega,p3⟩,?_⟩
  rintro i m σ' H' ⟨ρ',h',acc,ys,w1,w2,w3,w4,w5,w6,w7,w8,w9,qZ⟩;have fin:∀p:Post (bd X cl) NX ρ1 H1 (WV X.K Q) (new (.lst acc) h'),Q (.ref D) H':=λp=>by
   refine p (ρ'++[D]) H' (w1.adopt hD) (w2.adopt w3 ⟨ys,w4,aq.jr ⟨WO _ _,λ_ _ e _=>e⟩ _ _ w5⟩) _ (VR.ref (by rw[<-w2.len];simp))
  cases m with
  |zero=>
   simp only[eu,aQ]at qZ;obtain⟨xs',k1,qZ⟩:=aD qZ;have Nc:Post (bd X cl) NX ρ1 H1 (WV X.K Q) (bnd (aK (decide (xs'.length<=i)) (ret acc)) (λys=>new (.lst ys)) h'):=qZ;unfold aK at Nc
   by_cases hl:xs'.length<=i
   ·have:bnd (λh=>if decide (xs'.length<=i)=true then ret acc h else Out.no) (λys=>new (.lst ys)) h'=new (.lst acc) h':=by
     unfold bnd;dsimp only;rw[Wg (decide_eq_true hl)];rfl
    rw[this] at Nc;exact .inl ⟨wk.stop w1.w w2 k1 hl,fin Nc⟩
   ·have:bnd (λh=>if decide (xs'.length<=i)=true then ret acc h else Out.no) (λys=>new (.lst ys)) h'=Out.no:=by
     unfold bnd;dsimp only;rw[We (by rw[decide_eq_false hl];exact V1)]
    rw[this] at Nc;exact Nc.elim
  |succ m=>
   simp only[eu,aQ]at qZ;obtain⟨xs',k1,qZ⟩:=aD qZ;cases hx:xs'[i]? with
   |none=>rw[hx]at qZ;exact .inl ⟨wk.stop w1.w w2 k1 (Xj.mp hx),fin qZ⟩
   |some v=>
    rw[hx]at qZ;dsimp only at qZ;refine .inr ⟨wk.go w1.w w2 k1 hx,_,λzC Ih w=>⟨m,WS _,w⟩,λy H2 hy=>?_⟩;obtain⟨z1,z2,z3⟩:=wk.uM w1.w w2 k1 hx hy;simp only[aQ]at qZ;simp only[f,aQ]at qZ;obtain⟨env',k2,qZ⟩:=bK qZ;refine Bp k2 z3 (w6.up z1) (by rw[w7];simp[iN]) λσ2 Pz hl2 hout=>?_;have Nd:H2 D=some (.lst ys):=z1.keep _ _ w4 w3;have G2:Gr ρ1 H1 ρ' H2:=w1.trans z1;have body:∀(b:Bool) (h3:Hs) (ρ3:List Addr) (H3:Hp),Gr ρ' H2 ρ3 H3->HR (bd X cl) ρ3 h3 H3->Post (bd X cl) NX ρ1 H1 (WV X.K Q) (bnd (if b=true then bnd (aE Φ elt env') λe=>ret (some e) else ret none) (λo=>bnd (eu src f m (i+1) (match o with|some e=>acc++[e]|none=>acc)) λys=>new (.lst ys)) h3) ->
      (if b=true then tV Φ (bd X cl) NX elt σ2 H3 (λy H4=>∃ys,H4 D=some (.lst ys)/\ys.length<sizeLine/\(λσ' H'=>∃ρ' h' acc ys,Gr ρ1 H1 ρ' H'/\HR (bd X cl) ρ' h' H'/\D ∉ ρ'/\H' D=some (.lst ys)/\aq X.K ρ' H' acc ys/\bZ X.K ρ' (iN js env) σ' H' /\ σ'.length=js.length/\acc.length<=i+1/\i+1+m=xs.length /\
       Post (bd X cl) NX ρ1 H1 (WV X.K Q) (bnd (eu src f m (i+1) acc) (λys=>new (.lst ys)) h')) σ2 (upd H4 D (.lst (ys++[y]))))
      else (λσ' H'=>∃ρ' h' acc ys,Gr ρ1 H1 ρ' H'/\HR (bd X cl) ρ' h' H'/\D ∉ ρ'/\H' D=some (.lst ys)/\aq X.K ρ' H' acc ys/\bZ X.K ρ' (iN js env) σ' H' /\ σ'.length=js.length/\acc.length<=i+1/\i+1+m=xs.length /\
       Post (bd X cl) NX ρ1 H1 (WV X.K Q) (bnd (eu src f m (i+1) acc) (λys=>new (.lst ys)) h')) σ2 H3):=by
     intro b h3 ρ3 H3 g3 r3 p5;have Q5:D ∉ ρ3:=λz=>by have:=g3.fresh D z w3;rw[Nd]at this;cases this
     have Q6:H3 D=some (.lst ys):=g3.keep _ _ Nd w3;have E3:bZ X.K ρ3 (iN js env) σ2 H3:=(Bo h5 (w6.up z1) hout).up g3;cases b with
     |true=>
      rw[Wg rfl]at p5 |-;simp only[aQ,dj]at p5;refine⟨ρ3,env',h3,Pz.up g3,r3,jv (G2.trans g3) p5 λv4 h4 ρ4 H4 _ p6 g4 r4 y4 q4=>?_⟩;have SH:D ∉ ρ4:=λz=>by have:=g4.fresh D z Q5;rw[Q6]at this;cases this
      have Q7:H4 D=some (.lst ys):=g4.keep _ _ Q6 Q5;have gw:Gw ρ4 H4 ρ4 (upd H4 D (.lst (ys++[y4]))):=Gw.other Q7 rfl;have la:=w5.length;refine⟨ys,Q7,by omega,ρ4,h4,acc++[v4],ys++[y4],((G2.trans g3).trans g4).over hD,r4.other SH Q7 rfl,SH,az,aq.append (aq.jr gw _ _ (aq.up ((z1.trans g3).trans g4) _ _ w5)) (aq.jr gw _ _ (aq.cons q4 aq.nil)),(E3.up g4).jr gw,by rw[hl2,w7],by simp;omega,by omega,p6⟩
     |false=>rw[We V1]at p5 |-;exact⟨ρ3,h3,acc,ys,G2.trans g3,r3,Q5,Q6,aq.up (z1.trans g3) _ _ w5,E3,by rw[hl2,w7],by omega,by omega,p5⟩
    show (if cH t=true then sd else tT Φ (bd X cl) NX t) σ2 H2 _
    by_cases hn:cH t=true
    ·rw[Wg hn];rw[Wg hn,dj]at qZ;exact body true h' ρ' H2 Gr.refl z2 qZ
    ·rw[We hn];rw[We hn]at qZ;exact⟨ρ',env',h',Pz,z2,jv G2 qZ λb h3 ρ3 H3 _ p5 g3 r3=>body b h3 ρ3 H3 g3 r3 p5⟩
theorem Ew(hs:jB Φ it)(hc:bH Φ t)(he:bH Φ elt):bH Φ (.comp N' js pat ik it t elt):=by
 intro Γ k X cl EX e c h;obtain⟨e',tg,iter,ifs,scope,pos,wi,g,tt,te,rfl,h1,h2,h3,h4,h5,h6,h7⟩:=nU hs hc he c h;have q:=(DF (pos:=pos) h1 c.calm h2 h3 h4 h5 h6).imp h7;exact⟨q,dG q λ_=>rfl⟩
theorem Ey{k v:IE}(hk:bH Φ k)(hv:bH Φ v):bH Φ (.dct1 k v):=by
 intro Γ n X cl EX e c h;apply wU h;intro q1 q2 pos h;apply mC h;intro q3 h;apply wW h;intro a h;apply mC h;intro b h;simp only[and_eq_true]at h;have q:PE X (.Dict [some a] [b] pos) (tV Φ (bd X cl) EX (.dct1 k v)):=by
  refine(Dy (z8 (hk Γ n X cl EX a c h.1).1 (hv Γ n X cl EX b c h.2).1 Dw) rfl rfl (by simp) (by simp)).imp λσ H Q aJ=>?_;obtain⟨ρ,env,h,hE,r,p⟩:=aJ;intro D hD;have g0:Gr ρ H ρ (upd H D (.dK [])):=Gr.side hD;simp only[aE]at p;refine⟨ρ,env,h,hE.up g0,r.side hD,jv g0 p λx h1 ρ1 H1 _ p1 g1 r1 y1 q1=>?_⟩;obtain⟨kk,e1,p1⟩:=bK p1;refine⟨ρ1,env,h1,(hE.up g0).up g1,r1,jv (g0.trans g1) p1 λy h2 ρ2 H2 _ p2 g2 r2 y2 q2=>?_⟩;have SJ:D ∉ ρ:=r.out hD;have Nd:D ∉ ρ2:=λz=>by have:=(g1.trans g2).fresh D z SJ;rw[az]at this;cases this
  have e2:H2 D=some (.dK []):=(g1.trans g2).keep D _ az SJ;have ek:y1=kV kk:=by
   cases x<;>first|(cases e1;done)|skip
   ·cases e1;rw[VR]at q1;exact q1
   ·cases e1;rw[VR]at q1;exact q1
  refine⟨e2,[(kk,y2)],by rw[ek];rfl,by simp,?_⟩;have gw:Gw ρ2 H2 (ρ2++[D]) (upd H2 D (.dK (k7 [] [(kk,y2)]))):=⟨WO _ _,(Gw.other (ρ:=ρ2) e2 rfl).firm⟩;exact p2 (ρ2++[D]) _ ((((g0.trans g1).trans g2).over hD).adopt hD) ((r2.other Nd e2 rfl).adopt Nd ⟨[(kk,y2)],az,y2,[],rfl,VR.jr gw _ _ q2,rfl⟩) _ (wL r2)
 exact⟨q,dG q λ_=>rfl⟩
theorem Ez{p q:Nat}:bH Φ (.dflt N' js p q d w):=gU λ_ _=>rfl
theorem JT(ha:bH Φ a):bH Φ (.isc a x bs):=gU λ_ _=>rfl
theorem jT:(∀ir,bH Φ ir)/\∀dR,jB Φ dR:=by
 have one:∀ir,bH Φ ir:=by
  intro ir;exact IE.rec (motive_1:=λir=>bH Φ ir) (motive_2:=λdR=>jB Φ dR) (λ_=>Ju) (λ_=>Jv) (λ_ _=>Jw) M9 (λ_ _ _ a b=>Jx a b) (λ_ a=>Jy a) (λ_ _ _ a b=>Jz a b) (λ_ _ _ _ _ a b c=>JA a b c)
   (λ_ _ a b=>JB a b) (λ_ _ a b=>Na a b) (λ_ a=>JC a) (λ_ _ _ a b c=>JD a b c) (λ_ a=>JE a) (λ_ a=>JF a) (λ_ _ a b=>JG a b) (λ_ _ _ a b c=>JH a b c) (λ_ _ a=>Ei a) (λ_ _ a=>JQ a)
   (λ_ _ _ a b=>JR a b) (λ_ _ _ _ _ _ _ a b c=>Ew a b c) Eg (λ_ a=>Ep a) (λ_ _ _ a b c=>Er a b c) (λ_ _ a b=>Ey a b) (λ_ a=>Bg a) (λ_ _ _ a b c=>Es a b c) (λ_ a=>Bj a) (λ_ a=>Bh a) (λ_ _ _ a=>JJ a) (λ_ _ _ _ a b=>JK a b) (λ_ _ a b=>JI a b) (λ_ _ _ _ _ _ _ _=>Ez) (λ_ _ _ a=>JT a) Bc (λ_ _ a b=>xh a b) ir
 refine⟨one,λdR=>?_⟩
 induction dR using jz.rec (motive_1:=λ_=>True) with
 |nil=>exact Bc
 |cons e es _ ih=>exact xh (one e) ih
 |_=>trivial
end
def nV:Expr->Bool
 |.ListComp ..=>false|.SetComp ..=>false|.DictComp ..=>false
 |_=>true
def Nf:Expr->Bool
 |.Tuple ..=>false
 |_=>true
def Q8:Expr->Bool
 |.SetComp ..=>false|.DictComp ..=>false
 |_=>true
mutual
noncomputable def zg(Γ:oK):IS->Stmt->Bool
 |.expr e,s=>AW (λx _=>nV x&&bq Γ e x) s
 |.asg p e,s=>Jh (λq1 x _=>k1 (λtg=>tR Γ p tg&&bq Γ e x&&(match p with|.one _=>Q8 x|.tup _=>nV x&&Nf x)) q1) s
 |.aug i o e,s=>Q0 (λq1 op v _=>nM (λx _=>Γ.N[i]?==some x&&(Γ.sc.names.lookup x==some .local || Γ.sc.names.lookup x==some .cell)&&Jq o op&&(match o with|.pow=>false|_=>true)&&bq Γ e v) q1) s
 |.mz o i v,s=>Jh (λq1 x _=>k1 (λq2=>D5 (λa b _=>mQ b&&nV x&&bq Γ o a&&bq Γ i b&&bq Γ v x) q2) q1) s
 |.iff c a b,s=>SA (λt x y _=>bq Γ c t&&bA Γ a x&&bA Γ b y) s
 |.for p k it body,s=>M3 (λtg iter x q1 _=>o4 q1 (tR Γ p tg&&wY Γ k it iter&&(match k,p with|.enum,.one _=>false|.zip,.one _=>false|_,_=>true)&&bA Γ body x)) s
 |.whl _ c body,s=>Jj (λt x q1 _=>o4 q1 (bq Γ c t&&bA Γ body x)) s
 |.ret e,s=>Jk (λq1 _=>AS (λx=>bq Γ e x) q1) s
 |.AG,s=>Jk (λq1 _=>AR q1 (true)) s
 |.brk,s=>M4 (λ_=>true) s
 |.cnt,s=>M5 (λ_=>true) s
 |.pass,s=>Gp (λ_=>true) s||AW (λq1 _=>vA (λq2 _ _=>M0 (λ_=>true) q2) q1) s
 |.never,_=>true
 |.setF _ a _ _,s=>Q2 (λj es=>D8 (λx ls=>k1 (λl=>tG Γ.sc x && Γ.fns[j]?==some (x,2001)&&noStar l&&aP Γ es [l]) ls) s) a
noncomputable def bA(Γ:oK):eT->List Stmt->Bool
 |.nil,ls=>ls.isEmpty
 | .cons s r,ls=>match ls with
  |l::ls=>zg Γ s l&&bA Γ r ls
  |[]=>false
end
structure EA (Φ:Fn) (Γ:oK) (k:Nat) (X:Cx) (cl:Nat->Addr) (EX:Nat->List V->Hp->Prop):Prop extends Ctx Φ Γ k X cl EX where
 fn:∀x,X.fn x=true
 nd:X.N.Nodup
 kind:X.env.scope.kind=.function
 xe:PassesOwn (model X.prog X.w) X.A X.env X.xe
 rs:∀(j:Nat) (x g:Str) (arg:Expr) (p cp pos:Pos) (t:TA),Jt X.prog X.w (bd X cl) X.mg X.base k x (cl (1000+j)) g->Gl X x->(x==("__debug__":Str))=false->PA X [arg] t->starEach [arg] X.env=(false,eval arg X.env)::starEach [] X.env ->
  PS X (.Raise (some (.Call (.Name x p) [arg] [] cp)) none pos) λ_ σ H=>t σ H λvs H1=>∃y,vs=[y]/\EX j [.str g,y] H1
def WF(K:Frag)(D:Ends):Fl->Hs->List Addr->Hp->Prop
 |.nx env',_,ρ',H'=>∀σ',bZ K ρ' env' σ' H'->env'.length = σ'.length->D.nx σ' H'
 |.rt v,_,ρ',H'=>∀x,VR K ρ' H' v x->D.rt x H'
 |.bk env',_,ρ',H'=>∀σ',bZ K ρ' env' σ' H'->env'.length = σ'.length->D.bk σ' H'
 |.ct env',_,ρ',H'=>∀σ',bZ K ρ' env' σ' H'->env'.length = σ'.length->D.ct σ' H'
def tS(Φ:Fn)(B:Bd)(EX:Nat->List V->Hp->Prop)(ir:IS):TS:=λD σ H=>∃ρ env h,bZ B.K ρ env σ H/\env.length = σ.length/\HR B ρ h H/\Post B EX ρ H (WF B.K D) (eV Φ ir env h)
def UJ(Φ:Fn)(B:Bd)(EX:Nat->List V->Hp->Prop)(ir:eT):TS:=λD σ H=>∃ρ env h,bZ B.K ρ env σ H/\env.length = σ.length/\HR B ρ h H/\Post B EX ρ H (WF B.K D) (jA Φ ir env h)
theorem _root_.L2.PS.imp(h:PS X e t)(i:∀D σ H,t' D σ H->t D σ H):PS X e t':=λpins s σ H D I hw=>h pins s σ H D I (i D σ H hw)
theorem _root_.L2.oM.imp(h:oM X e t)(i:∀D σ H,t' D σ H->t D σ H):oM X e t':=λpins s σ H D I hw=>h pins s σ H D I (i D σ H hw)
section
variable {Φ:Fn} {Γ:oK} {k:Nat} {X:Cx} {cl:Nat->Addr} {EX:Nat->List V->Hp->Prop}
def rj(Φ:Fn)(ir:IS):Prop:=∀(Γ:oK) (k:Nat) (X:Cx) (cl:Nat->Addr) (EX:Nat->List V->Hp->Prop) (st:Stmt),EA Φ Γ k X cl EX->zg Γ ir st=true->PS X st (tS Φ (bd X cl) EX ir)
def o5(Φ:Fn)(dR:eT):Prop:=∀(Γ:oK) (k:Nat) (X:Cx) (cl:Nat->Addr) (EX:Nat->List V->Hp->Prop) (st:List Stmt),EA Φ Γ k X cl EX->bA Γ dR st=true->oM X st (UJ Φ (bd X cl) EX dR)
theorem iR{n:Nat}(h:nV e=true):swapsWith e t n env=pure false:=by
 cases e<;>first|rfl|(exact absurd h V1)
theorem LF(ir:IE)(c:Ctx Φ Γ k X cl EX)(h:bq Γ ir e=true):PE X e (tV Φ (bd X cl) EX ir):=(jT.1 ir Γ k X cl EX e c h).1
theorem UK(ir:IE)(c:Ctx Φ Γ k X cl EX)(h:bq Γ ir e=true):PT X e (tT Φ (bd X cl) EX ir):=(jT.1 ir Γ k X cl EX e c h).2
theorem Gx(hs:∀env h,eV Φ ir env h=.no):rj Φ ir:=by
 intro Γ k X cl EX st c h;refine mZ.imp λD σ H ⟨ρ,env,h,hE,hl,r,p⟩=>?_;rw[hs]at p;exact p.elim
theorem Bq:rj Φ (.expr e):=by
 intro Γ k X cl EX st c h;apply wX h;intro x _ h;simp only[and_eq_true]at h;refine(C8 (LF e c.toCtx h.2) (iR h.1)).imp λD σ H aJ=>?_;obtain⟨ρ,env,h,hE,hl,r,p⟩:=aJ;simp only[eV]at p;exact⟨ρ,env,h,hE,r,av p λv h1 ρ1 x H1 g1 r1 q1 p1=>ai r1 p1 σ (hE.up g1) hl⟩
theorem Gy:rj Φ (.asg p e):=by
 intro Γ k X cl EX st c h;apply AX h;intro q1 x pos h;apply mC h;intro tg h;simp only[and_eq_true]at h;obtain⟨⟨h1,h2⟩,h3⟩:=h;have hg:=xq c.toCtx c.fn c.nd h1;have he:=LF e c.toCtx h2;have fin:∀D σ H,tS Φ (bd X cl) EX (.asg p e) D σ H->Dc (tV Φ (bd X cl) EX e) (zf X.K p) D σ H:=λD σ H ⟨ρ,env,h,hE,hl,r,pp⟩=>by
  simp only[eV]at pp;refine⟨ρ,env,h,hE,r,av pp λv h1 ρ1 x H1 g1 r1 q1 p1=>?_⟩;obtain⟨env',e1,p2⟩:=bK p1;exact xr e1 q1 (hE.up g1) hl λσ' Q9 hl' _=>ai r1 p2 σ' Q9 hl'
 have oW:(assignEach [tg] X.env).map (·.2)=[assign tg X.env]:=by
  cases p with
  |one i=>obtain⟨t,tp,rfl⟩:=nR h1;rfl
  |tup is=>obtain⟨es,kk,tp,rfl⟩:=ku h1;rfl
 cases p with
 |tup is=>
  simp only[and_eq_true]at h3;refine(jM he hg ?_ ?_ oW).imp fin
  ·show swapsWith x (some tg) _ _=_;exact iR h3.1
  ·obtain⟨es,kk,tp,rfl⟩:=ku h1;cases x<;>first|rfl|(exact absurd h3.2 V1)
 |one i=>
  obtain⟨t,tp,rfl⟩:=nR h1
  ·
   simp only[tR,and_eq_true,beq_iff_eq]at h1;have loc:L2.Loc X.env.scope t:=by unfold L2.Loc;rw[c.sc];simpa using h1.2
   have pl:nV x=true->PS X (.Assign [.Name t tp] x pos) (tS Φ (bd X cl) EX (.asg (.one i) e)):=λhx=>(zO c.nd (by rw[c.N];exact h1.1) loc he (iR hx) (.inl (c.fn t))).imp fin;cases x with
   |ListComp e' gens scope p2=>
    cases hb:(X.env.kindOf t==some .local&&tp.line==p2.line && !(scope.names.any λ(n,k)=>n==t&&(k==.local||k==.cell))) with
    |false=>
     refine(zO c.nd (by rw[c.N];exact h1.1) loc he ?_ (.inl (c.fn t))).imp fin;have bk:(X.env.blockKind==.function)=true:=by unfold Env.blockKind;rw[c.kind];rfl
     show (pure (X.env.blockKind==.function&&X.env.kindOf t==some .local&&tp.line==p2.line && !(scope.names.any λ(n,k)=>n==t&&(k==.local||k==.cell))):Sem Bool)=pure false;rw[bk,Xp,hb]
    |true=>
     have bk:(X.env.blockKind==.function)=true:=by unfold Env.blockKind;rw[c.kind];rfl
     have hsw:swapsWith (.ListComp e' gens scope p2) (some (.Name t tp)) pos.line X.env=pure true:=by show (pure (X.env.blockKind==.function&&X.env.kindOf t==some .local&&tp.line==p2.line && !(scope.names.any λ(n,k)=>n==t&&(k==.local||k==.cell))):Sem Bool)=pure true;rw[bk,Xp,hb]
     cases e with
     |comp N' js pat ik it Ng elt=>obtain⟨e2,VY,iter,ifs,Ra,pos2,wi,g,tt,te,q0,q1,q2,q3,q4,q5,q6,q7⟩:=nU (jT.2 it) (jT.1 Ng) (jT.1 elt) c.toCtx h2;cases q0;refine(DG c.nd (by rw[c.N];exact h1.1) loc q1 c.calm q2 q3 q4 q5 hsw (.inl (c.fn t)) q6).imp λD σ H hh=>?_;exact q7 σ H _ (fin D σ H hh)
     |dflt N' js p q d w=>refine mZ.imp λD σ H hh=>?_;obtain⟨ρ,env,h,hE,hl,r,pp⟩:=hh;simp only[eV,aE]at pp;exact pp.elim
     |_=>first|exact absurd h2 V1|(rw[bq.eq_def]at h2;cases h2)
   |SetComp _ _ _ _=>exact absurd h3 V1
   |DictComp _ _ _ _ _=>exact absurd h3 V1
   |_=>exact pl rfl
theorem Gz{i:Nat}:rj Φ (.aug i o e):=Gx λ_ _=>rfl
def Nh(B:Bd)(EX:Nat->List V->Hp->Prop):Hu:=λo i v H Q=>∃ρ h a b w,HR B ρ h H/\VR B.K ρ H a o/\VR B.K ρ H b i/\VR B.K ρ H w v/\Post B EX ρ H (λ_ _ _ H'=>Q H') (sY a b w h)
theorem JU(hu:X.A.units+64<cLine):Hw X (Nh (bd X cl) EX):=by
 intro pins s σ H o i v ov iv u Q I ro ri rv hh;obtain⟨ρ,h,a,b,w,r,ha,hb,hw,p⟩:=hh;cases a with
 |ref j=>
  simp only[sY]at p;obtain⟨ob,e1,p⟩:=aD p;have dict:∀kvs,ob=.dct kvs->Post (bd X cl) EX ρ H (λ_ _ _ H'=>Q H') (bnd (aT (keyOf b)) (λk=>aK (decide (kvs.length<sizeLine)) (put j (.dct (kq kvs k w)))) h)->wpAny (model X.prog X.w) X.A (setItem ov iv u) (λ_ s'=>∃H',L2.Inv X pins σ H' s'/\Q H') X.xe s:=by rintro kvs rfl p;obtain⟨kk,e2,p⟩:=bK p;obtain⟨e3,p⟩:=aM p;have e3:=Wt e3;rw[VR]at ha;obtain⟨A,rfl,k1⟩:=ha;obtain⟨ks,k2,k3⟩:=r.ob j _ A e1 k1;cases ro;have ek:=IL hb e2;subst ek;refine yx (by omega) I (Dv.k (v:=v) k2 (by rw[<-k3.length];exact e3)) ri rv λs' I'=>⟨_,I',?_⟩;have g:Gr ρ H ρ (upd H A (.dK (putK ks kk v))):=Gr.put (Wn k1) k2 rfl;exact p ρ _ g (r.put k1 e1 (u:=.dct (kq kvs kk w)) ⟨_,az,gj.put kk (VR.up g _ _ hw) (gj.up g _ _ k3)⟩)
  cases ob with
  |lst xs=>
   cases b<;>first|(exact p.elim)|skip
   rename_i n _;obtain⟨jj,e2,p⟩:=bK p;obtain⟨A,ys,rfl,k1,k2,k3⟩:=jt r ha e1;rw[VR]at hb;subst hb;refine set_list pins s σ H _ _ v ov iv u Q I ro ri rv ⟨A,ys,n,jj,rfl,rfl,k2,by rw[<-k3.length];exact e2,?_⟩;have g:Gr ρ H ρ (upd H A (.lst (ys.set jj v))):=Gr.put (Wn k1) k2 rfl;exact p ρ _ g (r.put k1 e1 (u:=.lst (xs.set jj w)) ⟨_,az,aq.set jj (aq.up g _ _ k3) (VR.up g _ _ hw)⟩)
  |dct kvs=>exact dict kvs rfl (by cases b<;>exact p)
  |ins c fs=>cases b<;>exact p.elim
 |_=>exact p.elim
theorem Br:rj Φ (.mz o i v):=by
 intro Γ k X cl EX st c h;apply AX h;intro q1 x pos h;apply mC h;intro q2 h;apply vB h;intro a b sp h;simp only[and_eq_true]at h;obtain⟨⟨⟨⟨h1,h2⟩,h3⟩,h4⟩,h5⟩:=h;have UL:PG X (.Subscript a b sp) (L5 (tV Φ (bd X cl) EX o) (tV Φ (bd X cl) EX i) (Nh (bd X cl) EX)):=Hx (LF o c.toCtx h3) (LF i c.toCtx h4) (JU c.units) (by
  intro v;cases b<;>first|rfl|(exact absurd h1 V1))
 refine(jM (LF v c.toCtx h5) UL (iR (t:=some (.Subscript a b sp)) (n:=pos.line) (env:=X.env) h2) (by cases x<;>rfl) rfl).imp λD σ H aJ=>?_;obtain⟨ρ,env,h,hE,hl,r,p⟩:=aJ;simp only[eV]at p;refine⟨ρ,env,h,hE,r,av p λw h1 ρ1 x1 H1 g1 r1 q1 p1=>⟨ρ1,env,h1,hE.up g1,r1,av p1 λw2 h2 ρ2 x2 H2 g2 r2 q2 p2=>⟨ρ2,env,h2,(hE.up g1).up g2,r2,av p2 λw3 h3 ρ3 x3 H3 g3 r3 q3 p3=>?_⟩⟩⟩;refine⟨ρ3,h3,w2,w3,w,r3,VR.up g3 _ _ q2,q3,VR.up (g2.trans g3) _ _ q1,bu p3 λ_ h4 ρ4 H4 g4 r4 p4=>?_⟩;exact ai r4 p4 σ (((hE.up g1).up g2).up g3 |>.up g4) hl
theorem GA(ha:o5 Φ a)(hb:o5 Φ b):rj Φ (.iff t a b):=by
 intro Γ k X cl EX st c h;apply M1 h;intro tt x y pos h;simp only[and_eq_true]at h;refine(LZ (UK t c.toCtx h.1.1) (ha Γ k X cl EX x c h.1.2) (hb Γ k X cl EX y c h.2)).imp λD σ H aJ=>?_;obtain⟨ρ,env,h,hE,hl,r,p⟩:=aJ;simp only[eV]at p;refine⟨ρ,env,h,hE,r,lA p λv h1 p1=>?_⟩;obtain⟨s,e1,p2⟩:=aD p1;refine⟨s,e1,λρ1 H1 g1 r1=>?_⟩;have p2:=Post.up g1 p2;cases s with
 |true=>rw[Wg rfl]at p2 |-;exact⟨ρ1,env,h1,hE.up g1,hl,r1,p2⟩
 |false=>rw[We V1]at p2 |-;exact⟨ρ1,env,h1,hE.up g1,hl,r1,p2⟩
theorem GB(hb:o5 Φ body):rj Φ (.for p ik it body):=by
 intro Γ k X cl EX st c h;apply Ji h;intro tg iter x q1 pos h;apply lz h;intro h;simp only[and_eq_true]at h;obtain⟨⟨⟨h1,h2⟩,h3⟩,h4⟩:=h;have hen:ik=.enum\/ik=.zip->∃es kk pos,tg=.Tuple es kk pos:=by
  intro hz;cases p with
  |one i=>rcases hz with rfl|rfl<;>cases h3
  |tup is=>exact ku h1
 obtain⟨hi,hf⟩:=Gv (jT.2 it) c.toCtx h2 hen;refine(Hz c.xe c.calm hi (xq c.toCtx c.fn c.nd h1) (hb Γ k X cl EX x c h4) hf).imp λD σ H aJ=>?_;obtain⟨ρ,env,h,hE,hl,r,pp⟩:=aJ;simp only[eV]at pp;have p':Post (bd X cl) EX ρ H (WF X.K D) (bnd (LD Φ ik it env) (λsrc=>bnd (ask λh=>src.items h) λxs=>forM src (λx env=>bnd (aT (fB p x env)) λenv'=>jA Φ body env') xs.length 0 env) h):=by unfold LD;rw[aQ];exact pp
 refine⟨ρ,env,h,hE,r,bu p' λsrc h1 ρ1 H1 g1 r1 p1=>?_⟩;obtain⟨xs,e1,p2⟩:=aD p1;refine⟨⟨xs,e1⟩,λJ wk=>?_⟩;refine⟨λi m σ' H'=>∃ρ' env' h',Gr ρ1 H1 ρ' H'/\bZ X.K ρ' env' σ' H'/\env'.length = σ'.length/\HR (bd X cl) ρ' h' H'/\Post (bd X cl) EX ρ' H' (WF X.K D) (forM src (λx env=>bnd (aT (fB p x env)) λenv'=>jA Φ body env') m i env' h'),
  ⟨xs.length,ρ1,env,h1,Gr.refl,hE.up g1,hl,r1,p2⟩,?_⟩
 rintro i m σ' H' ⟨ρ',env',h',w1,w2,w3,w4,w5⟩;cases m with
 |zero=>simp only[forM]at w5;obtain⟨xs',k1,w5⟩:=aD w5;obtain⟨k2,w5⟩:=aM w5;exact .inl ⟨wk.stop w1.w w4 k1 (Wt k2),ai w4 w5 σ' w2 w3⟩
 |succ m=>
  simp only[forM]at w5;obtain⟨xs',k1,w5⟩:=aD w5;cases hx:xs'[i]? with
  |none=>rw[hx]at w5;exact .inl ⟨wk.stop w1.w w4 k1 (Xj.mp hx),ai w4 w5 σ' w2 w3⟩
  |some v=>
   rw[hx]at w5;dsimp only at w5;refine .inr ⟨wk.go w1.w w4 k1 hx,_,λzC Ih w=>⟨m,WS _,w⟩,λy H2 hy=>?_⟩;obtain⟨z1,z2,z3⟩:=wk.uM w1.w w4 k1 hx hy;rw[aQ]at w5;obtain⟨gc,k2,w5⟩:=bK w5;refine xr k2 z3 (w2.up z1) w3 λσ2 Pz hl2 _=>⟨ρ',gc,h',Pz,hl2,z2,bu (Post.up z1 w5) λf h3 ρ3 H3 g3 r3 p3=>?_⟩;cases f with
   |nx EB=>exact λσ3 Ni hl3=>⟨ρ3,EB,h3,(w1.trans z1).trans g3,Ni,hl3,r3,p3⟩
   |ct EB=>exact λσ3 Ni hl3=>⟨ρ3,EB,h3,(w1.trans z1).trans g3,Ni,hl3,r3,p3⟩
   |bk EB=>exact λσ3 Ni hl3=>ai r3 p3 σ3 Ni hl3
   |rt v=>exact(ai r3 p3:WF X.K D (.rt v) h3 ρ3 H3)
theorem GC{n:Nat}(hb:o5 Φ body):rj Φ (.whl n t body):=Gx λ_ _=>rfl
theorem GD:rj Φ (.ret e):=by
 intro Γ k X cl EX st c h;apply AY h;intro q1 _ h;apply wW h;intro x h;refine(Hr (LF e c.toCtx h)).imp λD σ H aJ=>?_;obtain⟨ρ,env,h,hE,hl,r,p⟩:=aJ;simp only[eV]at p;exact⟨ρ,env,h,hE,r,av p λv h1 ρ1 x H1 g1 r1 q1 p1=>ai r1 p1 x q1⟩
theorem Bs:rj Φ .AG:=by
 intro Γ k X cl EX st c h;apply AY h;intro q1 _ h;apply wV h;intro h;refine C9.imp λD σ H aJ=>?_;obtain⟨ρ,env,h,hE,hl,r,p⟩:=aJ;simp only[eV]at p;exact ai r p _ VR.non
theorem GF:rj Φ .brk:=by
 intro Γ k X cl EX st c h;apply Jm h;intro _ h;refine zM.imp λD σ H aJ=>?_;obtain⟨ρ,env,h,hE,hl,r,p⟩:=aJ;simp only[eV]at p;exact ai r p σ hE hl
theorem GG:rj Φ .cnt:=by
 intro Γ k X cl EX st c h;apply Jo h;intro _ h;refine rQ.imp λD σ H aJ=>?_;obtain⟨ρ,env,h,hE,hl,r,p⟩:=aJ;simp only[eV]at p;exact ai r p σ hE hl
theorem Bt:rj Φ .pass:=by
 intro Γ k X cl EX st c h
 rcases UC h with h|h
 ·apply D9 h;intro _ h;refine C7.imp λD σ H aJ=>?_;obtain⟨ρ,env,h,hE,hl,r,p⟩:=aJ;simp only[eV]at p;exact ai r p σ hE hl
 ·apply wX h;intro q1 _ h;apply tE h;intro q2 _ _ h;apply Jg h;intro _ h;refine Hq.imp λD σ H aJ=>?_;obtain⟨ρ,env,h,hE,hl,r,p⟩:=aJ;simp only[eV]at p;exact ai r p σ hE hl
theorem xu:rj Φ .never:=by
 intro Γ k X cl EX st c h;refine mZ.imp λD σ H aJ=>?_;obtain⟨ρ,env,h,hE,hl,r,p⟩:=aJ;simp only[eV]at p;exact p.elim
theorem Bu{n:Nat}:rj Φ (.setF n a x v):=by
 intro Γ k X cl EX st c h;revert h;change zg Γ (.setF n a x v) st=true->PS X st λD σ H=>∃ρ env h,bZ X.K ρ env σ H/\env.length = σ.length/\HR (bd X cl) ρ h H/\Post (bd X cl) EX ρ H (WF X.K D) (eV Φ (.setF n a x v) env h);intro h;rw[zg.eq_def]at h;dsimp only at h;revert h;cases a<;>first|(intro h;exact(V1 h).elim)|skip
 rename_i j es;intro h;apply Jl (show D8 (λx ls=>k1 (λl=>tG Γ.sc x && Γ.fns[j]?==some (x,2001)&&noStar l&&aP Γ es [l]) ls) st=true from h);intro x p ls cp pos h;apply mC h;intro l h;simp only[and_eq_true,beq_iff_eq]at h;obtain⟨⟨⟨h1,h2⟩,h3⟩,h4⟩:=h;obtain⟨g1,g2,g3⟩:=c.gl h1
 rcases c.fns j x _ h2 with ⟨z,_⟩|⟨_,g,e0,R⟩
 ·omega
 refine(c.rs j x g l p cp pos _ R g1 g2 ((jT.2 es).1 Γ k X cl EX _ c.toCtx h4) (aN h3)).imp λD σ H aJ=>?_;obtain⟨ρ,env,h,hE,hl,r,p⟩:=aJ;simp only[eV,aE,aQ]at p;refine⟨ρ,env,h,hE,r,fk p λvs h1 ρ1 H1 e1 g1 r1 p1 xs q1=>?_⟩;rw[e0]at p1;have p2:Post (bd X cl) EX ρ1 H1 (WF X.K D) (bnd (vv j g vs) (λ_=>aT none) h1):=p1
 match vs,q1,p2 with
 |[.int i],q1,p2=>have ex:xs=[V.int i]:=(aq.ints (ns:=[i])).mp q1;exact⟨_,ex,p2 ρ1 H1 [.str g,.int i] Gr.refl r1 (aq.cons VR.str (aq.cons (by rw[VR]) aq.nil))⟩
 |[],_,p2=>exact p2.elim
 |[.bl _],_,p2=>exact p2.elim
 |[.str _],_,p2=>exact p2.elim
 |[.non],_,p2=>exact p2.elim
 |[.tup _],_,p2=>exact p2.elim
 |[.rl _],_,p2=>exact p2.elim
 |[.ref _],_,p2=>exact p2.elim
 |[.dc _ _],_,p2=>exact p2.elim
 |[.ob _ _ _],_,p2=>exact p2.elim
 |a::b::r,_,p2=>
  have e:bnd (vv j g (a::b::r)) (λ_=>aT (none:Option Fl)) h1=.no:=by cases a<;>rfl
  rw[e]at p2;exact p2.elim
theorem Bv:o5 Φ .nil:=by
 intro Γ k X cl EX st c h;rw[bA]at h;cases st with
 |cons _ _=>cases h
 |nil=>refine C6.imp λD σ H aJ=>?_;obtain⟨ρ,env,h,hE,hl,r,p⟩:=aJ;simp only[jA]at p;exact ai r p σ hE hl
theorem xw(h1:rj Φ s)(h2:o5 Φ ss):o5 Φ (.cons s ss):=by
 intro Γ k X cl EX st c h;rw[bA.eq_def]at h;dsimp only at h;cases st with
 |nil=>cases h
 |cons l ls=>
  simp only[and_eq_true]at h;refine(gk (h1 Γ k X cl EX l c h.1) (h2 Γ k X cl EX ls c h.2)).imp λD σ H aJ=>?_;obtain⟨ρ,env,h,hE,hl,r,p⟩:=aJ;simp only[jA]at p;refine⟨ρ,env,h,hE,hl,r,bu p λf h1 ρ1 H1 g1 r1 p1=>?_⟩;cases f with
  |nx env'=>exact λσ' Q9 hl'=>⟨ρ1,env',h1,Q9,hl',r1,p1⟩
  |rt v=>exact(ai r1 p1:WF X.K D (.rt v) h1 ρ1 H1)
  |bk env'=>exact(ai r1 p1:WF X.K D (.bk env') h1 ρ1 H1)
  |ct env'=>exact(ai r1 p1:WF X.K D (.ct env') h1 ρ1 H1)
theorem Bw:∀dR,o5 Φ dR:=by
 intro dR;exact eT.rec (motive_1:=λs=>rj Φ s) (motive_2:=λss=>o5 Φ ss) (λ_=>Bq) (λ_ _=>Gy) (λ_ _ _=>Gz) (λ_ _ _=>Br) (λ_ _ _ a b=>GA a b) (λ_ _ _ _ a=>GB a) (λ_ _ _ a=>GC a) (λ_=>GD) Bs GF GG Bt xu (λ_ _ _ _=>Bu)
  Bv (λ_ _ a b=>xw a b) dR
end
abbrev Row:=Str×Nat×(List Val->M Val)
def look(fs:List Row)(j:Nat):List Val->M Val:=match fs[j]? with
 |some r=>r.2.2
 |none=>λ_=>aT none
def cy(P:Program)(w:World)(B:Bd)(mg:Str->Option Value)(base:Heap)(k:Nat)(fs:List Row):Prop:=∀(j:Nat) (r:Row),fs[j]?=some r->LC P w B mg base k j r.1 r.2.1 r.2.2
def aU(N P:List Str)(sc:Scope):Bool :=
 sc.kind==.function && !sc.isCoroutine && !sc.isGenerator&&decide N.Nodup&&N.take P.length==P&&(P.all λx=>sc.names.lookup x==some .local||sc.names.lookup x==some .cell)&&(sc.names.all λy=>y.2 != .free)
theorem nW(h:aU N P sc=true):j6 N P sc:=by
 unfold aU at h;simp only[and_eq_true,beq_iff_eq,not_eq_true',decide_eq_true_eq,all_eq_true,or_eq_true,bne_iff_ne]at h;obtain⟨⟨⟨⟨⟨⟨h1,h2⟩,h3⟩,h4⟩,h5⟩,h6⟩,h7⟩:=h;exact⟨h1,h2,h3,h4,h5,h6,h7⟩
structure Base (K:Frag) (cl:Nat->Addr) (mg:Str->Option Value) (cons:List (Str×Val)) (tb:Tb):Prop where
 blt:∀x∈bltNames,mg x=none
 cons:∀p∈cons,∃v u,mg p.1=some u/\RelV v u/\∀K ρ H,VR K ρ H p.2 v
 cls:∀c,c<tb.nc->Sb K (cl c)/\∀x∈tb.M6,zS K (cl c) x
 Ea:∀p∈tb.Ea,Meth K (cl p.1) p.2.1 (cl (1000+p.2.2))
 Eb:∀p∈tb.Eb,∃C,mg p.1=some (.ref C)/\MK K C p.2.1 (cl (1000+p.2.2))
 isc:∀p∈tb.isc,∃C,mg p.1=some (.ref C)/\∀c b,p.2[c]?=some b->Sy K (cl c)/\kitOne K (.ref (cl c)) (.ref C)=some b
section
variable {P:Program} {w:World} {K:Frag} {cl:Nat->Addr} {mg:Str->Option Value} {base:Heap} {k:Nat} {fs:List Row} {cons:List (Str×Val)} {tb:Tb}
theorem xx(T:Base K cl mg cons tb)(A:cy P w ⟨K,cl⟩ mg base k fs)(S:j6 N ps sc)(hr:cY (k+1) (A'.deeper (envOfC qual sc s.heap.objs.size f cdv))) :
  EA (look fs) ⟨N,sc,fs.map (λr=>(r.1,r.2.1)),cons,tb⟩ k (gO (mL P w) P w K mg base N qual sc f cdv A' outer s H E) cl (y9 cl E):=by
 refine { N:=rfl,sc:=rfl,calm:=rfl,room:=hr,Q3:=⟨E,DV,λ_ _ _ z=>z⟩,fns:=λj x n e=>?_,cls:=T.cls,Ea:=T.Ea,Eb:=T.Eb,isc:=T.isc,cons:=T.cons,blt:=T.blt,fn:=λ_=>rfl,nd:=S.nd,kind:=S.kind,xe:=PassesOwn.leaving,rs:=λj x g arg p cp pos t R hg hd ha he=>?_ }
 ·have e':(fs.map (λr=>(r.1,r.2.1)))[j]?=some (x,n):=e
  rw[Ws]at e';cases er:fs[j]? with
  |none=>rw[er]at e';cases e'
  |some r=>rw[er]at e';cases e';have:=A j r er;unfold look;rw[er];exact this
 ·obtain⟨hm,D,fI,cd,fd,ps,M,F,hb,hl,hn⟩:=R
  refine(AA (g:=g) M F hr hb hl hn hg hm ha hd he).imp λD σ H q=>?_;have e:(λvs H1=>∃y,vs=[y]/\y9 cl E j [.str g,y] H1)=λ(vs:List V) H1=>∃y,vs=[y]/\∀dx,H1 dx=none->E (.ref (cl (1000+j))) (some dx) (upd H1 dx (.xd [(g,y)])):=by funext vs H1;refine propext ⟨λ⟨y,e1,g',y',e2,z⟩=>?_,λ⟨y,e1,z⟩=>⟨y,e1,g,y,rfl,z⟩⟩;cases e2;exact⟨y,e1,z⟩
  rw[e]at q;exact q
theorem Bx{x qual:Str}{st:Stmt}{f:Addr}{fd:FuncData}{N ps:List Str}{body:eT}(T:Base K cl mg cons tb)(A:cy P w ⟨K,cl⟩ mg base k fs)(F:CS K x qual st f fd)(hS:aU N ps (af st)=true)
  (hc:bA ⟨N,af st,fs.map (λr=>(r.1,r.2.1)),cons,tb⟩ body (aA st)=true):dJ P w K mg base (mL P w) (k+2) f fd ps (za ⟨K,cl⟩ ps.length (kW (look fs) N.length body)):=by
 have S:=nW hS;obtain⟨oc,od,kV,doc,pm,an,cdv,ct,osl,rfl,lk,hcd⟩:=F.ex;refine zW lk hcd S (λvs H Q E h=>?_) λA' outer s H vs Q E hr h=>?_
 ·obtain⟨ρ,h,ws,h1,_,h2,_⟩:=h;rw[<-h2.length,h1]
 ·obtain⟨ρ,h,ws,hl,r,hv,p⟩:=h
  have lv:=hv.length
  let X:Cx:=gO (mL P w) P w K mg base N qual (af st) f cdv A' outer s H E
  have c:EA (look fs) ⟨N,af st,fs.map (λr=>(r.1,r.2.1)),cons,tb⟩ k X cl (y9 cl E):=xx T A S hr;refine⟨_,Bw body _ k X cl _ (aA st) c hc,ρ,ws.map some++replicate (N.length-ws.length) none,h,λi v e=>?_,?_,r,bu p λfl h1 ρ1 H1 g1 r1 p1=>?_⟩
  ·by_cases hi:i<ws.length
   ·rw[Wi (by simpa using hi)]at e
    rw[Ws]at e;cases ei:ws[i]? with
    |none=>rw[ei]at e;cases e
    |some w'=>rw[ei]at e;cases e;obtain⟨y,q1,q2⟩:=hv.get ei;refine⟨y,?_,q2⟩;show (vs.map some++_)[i]?=_;rw[Wi (by rw[V9,<-lv];exact hi),Ws,q1];rfl
   ·rw[Wv (by simp;omega)]at e;have:=Wn e;rw[Yx]at this;exact absurd this.2 (by simp)
  ·show _=(vs.map some++_).length;simp[lv]
  ·cases fl with
   |nx env'=>exact λσ' _ _=>ai r1 p1 _ VR.non
   |rt v=>exact(ai r1 p1:WV K Q v h1 ρ1 H1)
   |bk env'=>exact p1.elim
   |ct env'=>exact p1.elim
theorem _root_.Hv.LC.mono{j:Nat}{n:Nat}(g:LC P w B mg base k j x n φ):LC P w B mg base (k+2) j x n φ:=by
 have le:k<=k+2:=Nat.le_add_right _ _
 rcases g with ⟨h,f,fd,ps,q1,q2,q3,q4,q5⟩|⟨h,g,e,m,D,fI,cd,fd,ps,q1,q2,q3⟩
 ·exact .inl ⟨h,f,fd,ps,q1,q2,q3,q4,q5.mono le⟩
 ·exact .inr ⟨h,g,e,m,D,fI,cd,fd,ps,q1,q2.mono le,q3⟩
theorem all_nil:cy P w ⟨K,cl⟩ mg base k []:=λj r e=>by simp at e
theorem rm{r0:Row}(A:cy P w ⟨K,cl⟩ mg base k fs)(g:LC P w ⟨K,cl⟩ mg base (k+2) fs.length r0.1 r0.2.1 r0.2.2):cy P w ⟨K,cl⟩ mg base (k+2) (fs++[r0]):=λj r e=>by
 by_cases hj:j<fs.length
 ·rw[Wi hj]at e;exact(A j r e).mono
 ·rw[Wv (by omega)]at e
  have hj0:j-fs.length=0:=by have:=(V4.mp e).1;simp at this;omega
  rw[hj0]at e;simp at e;subst e;rw[show j=fs.length by omega];exact g
theorem By{x qual:Str}{st:Stmt}{f:Addr}{fd:FuncData}{N ps:List Str}{body:eT}(T:Base K cl mg cons tb)(A:cy P w ⟨K,cl⟩ mg base k fs)(F:CS K x qual st f fd)(hm:mg x=some (.ref f))(hb:Binds K fd ps [])(BA:ps.length<1000)(hS:aU N ps (af st)=true)
  (hc:bA ⟨N,af st,fs.map (λr=>(r.1,r.2.1)),cons,tb⟩ body (aA st)=true):cy P w ⟨K,cl⟩ mg base (k+2) (fs++[(x,ps.length,kW (look fs) N.length body)]) :=
 rm (r0:=(x,ps.length,kW (look fs) N.length body)) A (.inl ⟨BA,f,fd,ps,rfl,hm,F.kp,hb,Bx T A F hS hc⟩)
theorem EC(A:cy P w ⟨K,cl⟩ mg base k fs)(R:Jt P w ⟨K,cl⟩ mg base (k+2) x (cl (1000+fs.length)) g):cy P w ⟨K,cl⟩ mg base (k+2) (fs++[(x,2001,vv fs.length g)]) :=
 rm (r0:=(x,2001,vv fs.length g)) A (.inr ⟨show 2000<=2001 by decide,g,rfl,R⟩)
theorem ED(F:dJ P w K mg base (mL P w) k f fd ps sp):dJ P w K mg base CQ k f fd ps λvs H Q _=>sp vs H Q λ_ _ _=>False :=
 ⟨λvs H Q _ h=>F.len vs H Q _ h,λA outer s H args us vs Q E hr e0 hb r h=>Xv (F.run A outer s H args us vs Q _ hr e0 hb r h) λrr s' hq=>by
  cases rr with
  |ok fl=>cases fl<;>exact hq
  |error e=>obtain⟨_,_,_,_,_,_,_,_,_,_,_,_,_,z⟩:=hq;exact z.elim⟩
end
def mD(K:Frag)(x qual:Str)(st:Stmt)(f:Addr):Prop:=∃fd,CS K x qual st f fd
theorem mD.kp{K:Frag}{x qual:Str}{st:Stmt}{f:Addr}(F:mD K x qual st f):keepIn K (.ref f)=true:=F.elim λ_ F=>F.kp
section
variable {α:Type} {p:List α -> Prop}
theorem UM:∀{us:List α},us.length=1->(∀a,p [a])->p us
 |[a],_,h=>h a
theorem ln2:∀{us:List α},us.length=2->(∀a b,p [a,b])->p us
 |[a,b],_,h=>h a b
theorem LG:∀{us:List α},us.length=3->(∀a b c,p [a,b,c])->p us
 |[a,b,c],_,h=>h a b c
theorem UN:∀{us:List α},us.length=4->(∀a b c d,p [a,b,c,d])->p us
 |[a,b,c,d],_,h=>h a b c d
end
def UO(x qual:Str)(st:Stmt)(ps:List Str):Prop:=∀(kV doc pm:Value) (an:Option Addr) (cdv ct:Value) (us:List Value),us.length=ps.length->bindArgs (fnOf x qual (j8 st) (aA st) (af st) .none kV doc pm an cdv ct) ⟨us,[]⟩=pure (ps.zip us)
section
variable {P:Program} {w:World} {K:Frag} {cl:Nat->Addr} {mg:Str->Option Value} {base:Heap} {k:Nat} {fs:List Row} {cons:List (Str×Val)} {tb:Tb} {x i y qual:Str} {st:Stmt} {f:Addr} {N ps:List Str} {body:eT} (T:Base K cl mg cons tb) (A:cy P w ⟨K,cl⟩ mg base k fs)
include T A
theorem dm(F:mD K x qual st f)(hm:mg x=some (.ref f))(hS:aU N ps (af st)=true)
  (hc:bA ⟨N,af st,fs.map (λr=>(r.1,r.2.1)),cons,tb⟩ body (aA st)=true) (BA:ps.length<1000) (hb:UO x qual st ps):cy P w ⟨K,cl⟩ mg base (k+2) (fs++[(x,ps.length,kW (look fs) N.length body)]):=F.elim λ_ F=>By T A F hm (F.binds hb) BA hS hc
end
theorem JV{K:Frag}{cl:Nat->Addr}{φ:List Val->M Val}{H:Hp}{a:Addr}{ns:List Int}(hO:Aa H)(hS:fQ K H a (ns.map V.int))(h:∃h',φ [.rl (ns.map .int)] []=.ok (.bl true) h') :
  za ⟨K,cl⟩ 1 φ [.ref a] H (λv _=>v=.bl true) λ_ _ _=>False:=by
 obtain⟨h',e⟩:=h;have sr:Gh K H a (ns.map V.int):=by
  rcases hS with (z|z)|z
  ·rcases hO a with y|⟨o,xs,y⟩
   ·rw[y]at z;cases z
   ·rw[y]at z;cases z
  ·exact .inl z
  ·exact .inr (.inr z)
 refine⟨[],[],[.rl (ns.map .int)],rfl,⟨rfl,List.nodup_nil,λi o a e=>by simp at e⟩,aq.cons (by rw[VR];exact⟨a,_,rfl,sr,aq.ints.mpr rfl⟩) aq.nil,?_⟩;rw[e];intro ρ' H' g r x q;rw[VR]at q;exact q
def PB(K:Frag):Sp:=λvs H Q _=>∃(a:Addr) (ns:List Int),vs=[.ref a]/\Aa H/\fQ K H a (ns.map V.int)/\ns.length<=63/\∀H',Q (.bl true) H'
theorem JW{K:Frag}{cl:Nat->Addr}{φ:List Val->M Val}(hφ:∀ns:List Int,ns.length<=63->∃h',φ [.rl (ns.map .int)] []=.ok (.bl true) h')(vs:List V)(H:Hp)(Q:VK)(E:XK)(h:PB K vs H Q E):za ⟨K,cl⟩ 1 φ vs H Q λ_ _ _=>False:=by
 obtain⟨a,ns,rfl,hO,hS,hl,hq⟩:=h;obtain⟨ρ,h,vs,q1,q2,q3,q4⟩:=JV (cl:=cl) hO hS (hφ ns hl);refine⟨ρ,h,vs,q1,q2,q3,?_⟩;revert q4;cases φ vs h with
 |ok v h'=>exact λq4 ρ' H' g r x hx=>by rw[show x=_ from q4 ρ' H' g r x hx];exact hq H'
 |exc c ws h'=>exact λq4=>q4
 |no=>exact λq4=>q4
theorem walk{l:PySem.W.OpenLaw}{q:Program}{loose:List Str}{XP:(Str->Option Value)->Heap->Prop}{YP:World->Heap->Prop}{d:DefRec}{K:Params->Frag}{k:Nat}{x:Str}(hn:l.most=some 63)(hdf:d.params.defaults=[])(hr:cY k callerA)
  (hY:∀(w:World) (h:Heap),YP w h->(K w.params).In h)
  (F:∀(w:World) (mg:Str->Option Value) (fa:Addr) (h:Heap),(K w.params).In h->h.Ns mainGlobals mg->mg d.name=some (.ref fa) ->
   ∃fd:FuncData,(∀(s:Shared) (u:Value),BindsTo s fd ⟨[u],[]⟩ [(x,u)])/\∀base:Heap,(K w.params).In base->base.Ns mainGlobals mg->dJ l.prog w (K w.params) mg base CQ k fa fd [x] (PB (K w.params))) :
  PySem.W.WalkO q loose XP YP l.row.toRowW d [] (λf vs=>PySem.call f vs) :=
 L2.Dz (n:=63) (k:=k) (x:=x) (CX:=λ_=>CQ) (sp:=λw=>PB (K w.params)) hn (by decide) hdf hr hY F (λ_ _ a ns hl hO hS=>⟨a,ns,rfl,hO,hS,hl,λ_=>rfl⟩) λ_ _ _ _ _ z=>z
end Hv
end
section
namespace Hv
open PySem L2
inductive Pr (α:Type)
 |ok (a:α)|exc (c:Nat) (ds:List Val)|no
def pb{α β:Type}(m:Pr α)(f:α -> Pr β):Pr β:=match m with
 |.ok a=>f a
 |.exc c ds=>.exc c ds
 |.no=>.no
def pl{α:Type}(o:Option α):Pr α:=match o with
 |some a=>.ok a
 |none=>.no
def pg{α:Type}(c:Bool)(m:Pr α):Pr α:=if c=true then m else .no
inductive Mk
 |sh|nw|ow
def rM:Mk->Bool
 |.ow=>false
 |_=>true
def LH:Mk->Bool
 |.nw=>true
 |_=>false
abbrev aH:=List (Option (Mk×Val))
abbrev FV:=Bool×Val
mutual
noncomputable def kB:Val->Bool
 |.rl _=>false
 |.dc _ _=>false
 |.ob _ _ _=>false
 |.ref _=>false
 |.tup vs=>cI vs
 |.non=>true
 |.bl _=>true
 |.int _=>true
 |.str _=>true
noncomputable def cI:List Val->Bool
 |[]=>true
 |v::vs=>kB v&&cI vs
end
def jU(f:Bool)(d:Val):Mk:=if (f && !kB d)=true then .nw else .sh
def putD(ks:List Key)(ds:List Val)(k:Key)(d:Val):Val:=.dc ((kq (ks.zip ds) k d).map (·.1)) ((kq (ks.zip ds) k d).map (·.2))
def kD:Gf->Val->Val->Pr FV
 |.add,.int a,.int b=>.ok (true,.int (a+b))
 |.add,.str a,.str b=>pg (decide (a.length+b.length<=sizeLine)) (.ok (true,.str (a++b)))
 |.add,.tup a,.tup b=>pg (!a.isEmpty&&decide (a.length+b.length<=sizeLine)) (.ok (cI (a++b),.tup (a++b)))
 |.add,.rl a,.rl b=>pg (decide (a.length+b.length<=sizeLine)) (.ok (cI (a++b),.rl (a++b)))
 |.sub,.int a,.int b=>.ok (true,.int (a-b))
 |.mul,.int a,.int b=>pg (fV a b) (.ok (true,.int (a*b)))
 |.fdiv,.int a,.int b=>pg (oY b) (.ok (true,.int (a/b)))
 |.mod,.int a,.int b=>pg (decide (0<b)) (.ok (true,.int (a%b)))
 |.pow,.int a,.int b=>pg (decide (0<=b/\b<=1000000/\a.natAbs<2 ^ 64)) (.ok (true,.int (a ^ b.toNat)))
 |_,_,_=>.no
def BB(v:Val)(lo hi:Option Int):Pr FV:=match v with
 |.tup vs=>pg (!(decide (HT.dg vs.length 0 lo=0)&&decide (HT.dg vs.length vs.length hi=vs.length))) (.ok (cI (fh vs lo hi),.tup (fh vs lo hi)))
 |.rl vs=>.ok (cI (fh vs lo hi),.rl (fh vs lo hi))
 |_=>.no
def gf:Bl->List Val->Pr FV
 |.len,[v]=>pb (pl (kr [] v)) λn=>.ok (true,.int n)
 |.min,[.int a,.int b]=>.ok (true,.int (if b<a then b else a))
 |.max,[.int a,.int b]=>.ok (true,.int (if b>a then b else a))
 |.min,[v]=>pb (pl (cC [] v)) λxs=>pb (pl ((aS xs).bind qT)) λm=>.ok (true,m)
 |.max,[v]=>pb (pl (cC [] v)) λxs=>pb (pl ((aS xs).bind qU)) λm=>.ok (true,m)
 |.sorted,[.rl xs]=>pb (pl (fz xs)) λys=>.ok (true,.rl ys)
 |.list,[v]=>pb (pl (cC [] v)) λxs=>.ok (cI xs,.rl xs)
 |.int,[.bl b]=>.ok (true,.int (if b=true then 1 else 0))
 |.int,[.int i]=>.ok (true,.int i)
 |.all,[.rl xs]=>pb (pl (dO xs)) λbs=>.ok (true,.bl (bs.all id))
 |.isin T,[v]=>pb (pl (sW [] v)) λt=>pb (pl (sX T t)) λb=>.ok (true,.bl b)
 |_,_=>.no
def fF:Ik->List Val->Option (List Val)
 |.seq,[.tup vs]=>some vs
 |.seq,[.rl vs]=>some vs
 |.range,[.int n]=>if inR n then some (bQ 0 n.toNat) else none
 |.range,[.int a,.int b]=>if inR a&&inR b then some (bQ a (b-a).toNat) else none
 |.enum,[.rl vs]=>some (bJ 0 vs)
 |_,_=>none
def BC(k:Ik)(ds:List Val):Option (List Val):=match k with
 |.zip=>none
 |k=>fF k ds
def aY:List Nat->List Val->aH->Option aH
 |[],[],env=>some env
 |i::is,d::ds,env=>aY is ds (env.set i (some (.sh,d)))
 |_,_,_=>none
def eB:uJ->Val->aH->Option aH
 |.one i,d,env=>some (env.set i (some (.sh,d)))
 |.tup is,.tup ds,env=>aY is ds env
 |_,_,_=>none
def iz(js:List (Option Nat))(env:aH):aH:=js.map λo=>match o with
 |none=>none
 | some j=>match env[j]? with
  |some (some d)=>some d
  |_=>none
def iA(f:Val->Pr (Option FV)):List Val->Pr (Bool×List Val)
 |[]=>.ok (true,[])
 |x::r=>pb (f x) λo=>pb (iA f r) λp=>.ok (match o with|some e=>(e.1&&p.1,e.2::p.2)|none=>p)
def nX:Val->Pr Bool
 |.bl b=>.ok b
 |_=>.no
def iS(env:aH):IE->Option FV
 | .var i=>match env[i]? with
  |some (some (_,d))=>some (kB d,d)
  |_=>none
 |_=>none
def isVar:IE->Bool
 |.var _=>true
 |_=>false
def BD{α:Type}:Pr α -> Pr α
 |.ok a=>.ok a
 |.exc _ _=>.no
 |.no=>.no
theorem BE{α:Type}{a:α}:BD (.ok a)=.ok a:=rfl
def Nj(c:Nat)(g:Str):List Val->Pr FV
 |[.int i]=>.exc c [.str g,.int i]
 |_=>.no
mutual
noncomputable def aW(Ψ:Nat->List Val->Pr FV):IE->aH->Pr FV
 | .var i,env=>match env[i]? with
  |some (some (m,d))=>pg (rM m) (.ok (kB d,d))
  |_=>.no
 |.cst d,_=>.ok (kB d,d)
 |.con _ d,_=>.ok (kB d,d)
 |.no,_=>.no
 |.bin o a b,env=>pb (if isVar a=true then pl (iS env a) else aW Ψ a env) λx=>pb (if isVar b=true then pl (iS env b) else aW Ψ b env) λy=>kD o x.2 y.2
 | .neg a,env=>pb (aW Ψ a env) λx=>match x.2 with
  |.int i=>.ok (true,.int (-i))
  |_=>.no
 |.cmp o a b,env=>pb (if isVar a=true then pl (iS env a) else aW Ψ a env) λx=>pb (if isVar b=true then pl (iS env b) else aW Ψ b env) λy=>pb (pl (cop [] o x.2 y.2)) λt=>.ok (true,.bl t)
 |.chn _ _ _ _ _,_=>.no
 |.and a b,env=>pb (aW Ψ a env) λx=>pb (nX x.2) λt=>if t=true then pb (aW Ψ b env) λy=>pb (nX y.2) λu=>.ok (true,.bl u) else .ok (true,.bl false)
 |.or a b,env=>pb (aW Ψ a env) λx=>pb (nX x.2) λt=>if t=true then .ok (true,.bl true) else pb (aW Ψ b env) λy=>pb (nX y.2) λu=>.ok (true,.bl u)
 |.not a,env=>pb (aW Ψ a env) λx=>pb (nX x.2) λt=>.ok (true,.bl (!t))
 |.ite _ _ _,_=>.no
 |.tup es,env=>pb (tU Ψ es env) λp=>pg (decide (p.2.length<=sizeLine)) (.ok (p.1,.tup p.2))
 |.lst es,env=>pb (tU Ψ es env) λp=>pg (decide (p.2.length<=sizeLine)) (.ok (p.1,.rl p.2))
 |.idx a b,env=>pb (if isVar a=true then pl (iS env a) else aW Ψ a env) λx=>pb (aW Ψ b env) λy=>pb (pl (iM [] x.2 y.2)) λz=>.ok (kB z,z)
 |.slc a lo hi,env=>pb (if isVar a=true then pl (iS env a) else aW Ψ a env) λx=>pb (if cH lo=true then .ok none else pb (aW Ψ lo env) λv=>pb (pl (iO v.2)) λi=>.ok (some i)) λl=>
   pb (if cH hi=true then .ok none else pb (aW Ψ hi env) λv=>pb (pl (iO v.2)) λi=>.ok (some i)) λu=>BB x.2 l u
 |.call j es,env=>pb (tU Ψ es env) λp=>Ψ j p.2
 |.blt b es,env=>pb (gg Ψ es env) λds=>gf b ds
 | .met m a es,env=>match m with
  |.join=>.no
  |_=>.no
 | .comp _ js pat k it c elt,env=>BD (pb (gg Ψ it env) λits=>pb (pl (BC k its)) λxs=>pg (decide (xs.length<=100000))
   (pb (iA (λd=>pb (pl (eB pat d (iz js env))) λenv'=>pb (if cH c=true then .ok true else pb (aW Ψ c env') λv=>pl (cG [] v.2)) λt=>
    if t=true then pb (aW Ψ elt env') λe=>.ok (some e) else .ok none) xs) λp=>.ok (p.1,.rl p.2)))
 |.dct0,_=>.ok (true,.dc [] [])
 | .sset a,env=>pb (if isVar a=true then pl (iS env a) else aW Ψ a env) λx=>match x.2 with
  |.rl xs=>pb (pl (aS xs)) λns=>pg (decide (ns.length<64)) (.ok (true,.rl ((sortI (L2.kg [] ns)).map .int)))
  |_=>.no
 |.dget d k x,env=>pb (if isVar d=true then pl (iS env d) else aW Ψ d env) λo=>pb (pl (AH [] o.2)) λ_=>pb (aW Ψ k env) λi=>pb (pl (keyOf i.2)) λkk=>pb (aW Ψ x env) λz=>pb (pl (yS [] o.2 kk)) λr=>.ok (kB (r.getD z.2),r.getD z.2)
 |.dct1 k v,env=>pb (aW Ψ k env) λx=>pb (pl (keyOf x.2)) λkk=>pb (aW Ψ v env) λy=>.ok (y.1,.dc [kk] [y.2])
 |.lkeys _,_=>.no
 |.sdef ..,_=>.no
 |.svals _,_=>.no
 |.skeys _,_=>.no
 |.fld _ _ _,_=>.no
 |.mth _ _ _ _,_=>.no
 |.rev _ _,_=>.no
 |.dflt _ _ _ _ _ _,_=>.no
 |.isc _ _ _,_=>.no
noncomputable def tU(Ψ:Nat->List Val->Pr FV):jz->aH->Pr (Bool×List Val)
 |.nil,_=>.ok (true,[])
 |.cons e es,env=>pb (aW Ψ e env) λd=>pb (tU Ψ es env) λp=>.ok (d.1&&p.1,d.2::p.2)
noncomputable def gg(Ψ:Nat->List Val->Pr FV):jz->aH->Pr (List Val)
 |.nil,_=>.ok []
 |.cons e es,env=>pb (if isVar e=true then pl (iS env e) else aW Ψ e env) λd=>pb (gg Ψ es env) λp=>.ok (d.2::p)
end
def PC(Ψ:Nat->List Val->Pr FV)(e:IE)(env:aH):Pr FV:=if isVar e=true then pl (iS env e) else aW Ψ e env
inductive vG
 |nx (env:aH)|rt (p:FV)|bk (env:aH)|ct (env:aH)
mutual
noncomputable def o6:IS->List Nat
 |.expr (.met .append (.var i) _)=>[i]
 |.expr (.met .extend (.var i) _)=>[i]
 |.mz (.var i) _ _=>[i]
 |.iff _ a b=>fW a++fW b
 |.for _ _ _ b=>fW b
 |.whl _ _ b=>fW b
 |_=>[]
noncomputable def fW:eT->List Nat
 |.nil=>[]
 |.cons s r=>o6 s++fW r
end
def stored:uJ->List Nat
 |.one i=>[i]
 |.tup is=>is
mutual
noncomputable def mE:IS->List Nat
 |.asg p _=>stored p
 |.aug i _ _=>[i]
 |.iff _ a b=>jK a++jK b
 |.for p _ _ b=>stored p++jK b
 |.whl _ _ b=>jK b
 |_=>[]
noncomputable def jK:eT->List Nat
 |.nil=>[]
 |.cons s r=>mE s++jK r
end
def Rb:IE->Bool
 |.lst _=>true
 |.comp ..=>true
 |.slc ..=>true
 |.blt .list _=>true
 |.blt .sorted _=>true
 |.dct0=>true
 |.dct1 ..=>true
 |_=>false
def gp(body:Val->aH->Pr vG):List Val->aH->Pr vG
 |[],env=>.ok (.nx env)
 | x::r,env=>pb (body x env) λf=>match f with
  |.nx env'=>gp body r env'
  |.ct env'=>gp body r env'
  |.bk env'=>.ok (.nx env')
  |.rt p=>.ok (.rt p)
def SK:Mk->Mk
 |.ow=>.sh
 |m=>m
def SM:Option (Mk×Val)->Option (Mk×Val)
 |none=>none
 |some (m,d)=>some (SK m,d)
def pq(env:aH):aH:=env.map SM
def EE(env:aH):jz->Option (Val×Val)
 | .cons (.var i) #[.var j]=>match env[i]?,env[j]? with
  |some (some (.nw,d)),some (some (.nw,e))=>some (d,e)
  |_,_=>none
 |_=>none
def EF(Ψ:Nat->List Val->Pr FV)(es:jz)(env:aH):Pr FV:=match EE env es with
 |some p=>.ok (true,.tup [p.1,p.2])
 |none=>aW Ψ (.tup es) (pq env)
def PD(Ψ:Nat->List Val->Pr FV)(e:IE)(env:aH):Pr FV:=match e with
 | .var i=>match env[i]? with
  | some (some (m,d))=>if rM m=true then .ok (kB d||LH m,d) else match d with
   |.rl ds=>.ok (cI ds,.rl ds)
   |.dc ks ds=>.ok (cI ds,.dc ks ds)
   |_=>.no
  |_=>.no
 |.call j es=>aW Ψ (.call j es) (pq env)
 |.tup es=>EF Ψ es env
 |e=>aW Ψ e env
def BF(p:uJ)(it:jz)(body:eT):Bool:=match it with
 |.cons (.var i) .nil=>!(fW body).contains i && !(jK body).contains i && !(stored p).contains i
 |_=>true
mutual
noncomputable def bM(Ψ:Nat->List Val->Pr FV)(ms:List Nat):IS->aH->Pr vG
 | .expr e,env=>match e with
  | .met .append (.var i) #[a]=>match env[i]? with
   |some (some (.ow,.rl ds))=>pb (aW Ψ a env) λx=>pg (decide (ds.length<sizeLine)) (.ok (.nx (env.set i (some (.ow,.rl (ds++[x.2]))))))
   |_=>.no
  | .met .extend (.var i) #[a]=>match env[i]? with
   | some (some (.ow,.rl ds))=>pb (aW Ψ a env) λx=>match x.2 with
    |.tup vs=>pg (decide (ds.length+vs.length<=sizeLine)) (.ok (.nx (env.set i (some (.ow,.rl (ds++vs))))))
    |_=>.no
   |_=>.no
  |e=>pb (aW Ψ e env) λ_=>.ok (.nx env)
 | .asg p e,env=>match p with
  | .one i=>if ms.contains i=true then pg (Rb e) (pb (aW Ψ e env) λx=>match x.2 with
    |.rl ds=>.ok (.nx (env.set i (some (.ow,.rl ds))))
    |.dc ks ds=>.ok (.nx (env.set i (some (.ow,.dc ks ds))))
    |_=>.no) else pb (aW Ψ e env) λx=>.ok (.nx (env.set i (some (jU x.1 x.2,x.2))))
  |.tup is=>pg (is.all λi=>!ms.contains i) (pb (aW Ψ e env) λx=>pb (pl (eB (.tup is) x.2 env)) λenv'=>.ok (.nx env'))
 |.aug _ _ _,_=>.no
 | .mz o i v,env=>match o with
  | .var j=>pb (aW Ψ v env) λx=>match env[j]? with
   |some (some (.ow,.rl ds))=>pb (aW Ψ i env) λz=>pb (pl (iO z.2)) λk=>pb (pl (wg ds.length k)) λn=>.ok (.nx (env.set j (some (.ow,.rl (ds.set n x.2)))))
   |some (some (.ow,.dc ks ds))=>pb (aW Ψ i env) λz=>pb (pl (keyOf z.2)) λk=>pg (decide (ks.length<sizeLine)) (.ok (.nx (env.set j (some (.ow,putD ks ds k x.2)))))
   |_=>.no
  |_=>.no
 |.iff c a b,env=>pb (PC Ψ c env) λx=>pb (pl (cG [] x.2)) λt=>if t=true then dw Ψ ms a env else dw Ψ ms b env
 |.for p k it body,env=>pg (BF p it body&&(stored p).all λi=>!ms.contains i) (pb (gg Ψ it env) λits=>pb (pl (fF k its)) λxs=>
   gp (λx env=>pb (pl (eB p x env)) λenv'=>dw Ψ ms body env') xs env)
 |.whl _ _ _,_=>.no
 |.ret e,env=>pb (PD Ψ e env) λp=>.ok (.rt p)
 |.AG,_=>.ok (.rt (true,.non))
 |.brk,env=>.ok (.bk env)
 |.cnt,env=>.ok (.ct env)
 |.pass,env=>.ok (.nx env)
 |.never,_=>.no
 |.setF _ a _ _,env=>pb (aW Ψ a env) λ_=>.no
noncomputable def dw(Ψ:Nat->List Val->Pr FV)(ms:List Nat):eT->aH->Pr vG
 |.nil,env=>.ok (.nx env)
 | .cons s r,env=>pb (bM Ψ ms s env) λf=>match f with
  |.nx env'=>dw Ψ ms r env'
  |f=>.ok f
end
def fG(Ψ:Nat->List Val->Pr FV)(n:Nat)(body:eT)(ds:List Val):Pr FV :=
 pb (dw Ψ (fW body) body (ds.map (λd=>some (.sh,d))++replicate (n-ds.length) none)) λf=>match f with
  |.nx _=>.ok (true,.non)
  |.rt p=>.ok p
  |_=>.no
abbrev AP:=Option Nat->Prop
def Fr(n:Nat):AP:=λo=>match o with
 |none=>False
 |some k=>n<=k
theorem Fr.le{n m:Nat}(h:n<=m):∀o,Fr m o->Fr n o
 |none,e=>e
 |some k,e=>Wx h e
mutual
noncomputable def Dn(A:AP)(h:Hs):Val->Val->Prop
 |.non,v=>v=.non
 |.bl b,v=>v=.bl b
 |.int i,v=>v=.int i
 |.str x,v=>v=.str x
 |.tup ds,v=>∃vs,v=.tup vs/\ak A h ds vs
 |.rl ds,v=>(∃vs,v=.rl vs/\A none/\ak A h ds vs)\/∃i vs,v=.ref i/\A (some i)/\h[i]?=some (.lst vs)/\ak A h ds vs
 |.dc ks ds,v=>∃i kvs,v=.ref i/\A (some i)/\h[i]?=some (.dct kvs)/\kvs.map (·.1)=ks/\ak A h ds (kvs.map (·.2))
 |.ob c xs ds,v=>∃i fs,v=.ref i/\A (some i)/\h[i]?=some (.ins c fs)/\fs.map (·.1)=xs/\ak A h ds (fs.map (·.2))
 |.ref _,_=>False
noncomputable def ak(A:AP)(h:Hs):List Val->List Val->Prop
 |[],vs=>vs=[]
 |d::ds,vs=>∃v r,vs=v::r/\Dn A h d v/\ak A h ds r
end
section
variable {A A':AP} {h h' h1:Hs}
mutual
theorem Dn.mono(hA:∀i,A i->A' i)(hh:∀(i:Nat) (o:Ob),A (some i)->h[i]?=some o->h'[i]?=some o):∀(d v:Val),Dn A h d v->Dn A' h' d v
 |.non,v,e=>by rw[Dn]at e |-;exact e
 |.bl _,v,e=>by rw[Dn]at e |-;exact e
 |.int _,v,e=>by rw[Dn]at e |-;exact e
 |.str _,v,e=>by rw[Dn]at e |-;exact e
 | .tup ds,v,e=>by
  rw[Dn]at e |-;obtain⟨vs,rfl,q⟩:=e;exact⟨vs,rfl,ak.mono hA hh ds vs q⟩
 | .rl ds,v,e=>by
  rw[Dn]at e |-
  rcases e with ⟨vs,rfl,n,q⟩|⟨i,vs,rfl,a,g,q⟩
  ·exact .inl ⟨vs,rfl,hA _ n,ak.mono hA hh ds vs q⟩
  ·exact .inr ⟨i,vs,rfl,hA _ a,hh i _ a g,ak.mono hA hh ds vs q⟩
 | .dc ks ds,v,e=>by
  rw[Dn]at e |-;obtain⟨i,kvs,rfl,a,g,k,q⟩:=e;exact⟨i,kvs,rfl,hA _ a,hh i _ a g,k,ak.mono hA hh ds _ q⟩
 | .ob c xs ds,v,e=>by
  rw[Dn]at e |-;obtain⟨i,kvs,rfl,a,g,k,q⟩:=e;exact⟨i,kvs,rfl,hA _ a,hh i _ a g,k,ak.mono hA hh ds _ q⟩
 |.ref _,v,e=>by rw[Dn]at e;exact e.elim
theorem ak.mono(hA:∀i,A i->A' i)(hh:∀(i:Nat) (o:Ob),A (some i)->h[i]?=some o->h'[i]?=some o):∀(ds vs:List Val),ak A h ds vs->ak A' h' ds vs
 |[],vs,e=>by rw[ak]at e |-;exact e
 | d::ds,vs,e=>by
  rw[ak]at e |-;obtain⟨v,r,rfl,q1,q2⟩:=e;exact⟨v,r,rfl,Dn.mono hA hh d v q1,ak.mono hA hh ds r q2⟩
end
theorem cN{i:Nat}(p:h<+:h')(e:h[i]?=some o):h'[i]?=some o:=by
 obtain⟨t,rfl⟩:=p;have hi:i<h.length:=(V4.mp e).1;rw[Wi hi];exact e
theorem Dn.ext(p:h<+:h')(e:Dn A h d v):Dn A h' d v:=Dn.mono (λ_ a=>a) (λ_ _ _ q=>cN p q) d v e
theorem ak.ext(p:h<+:h')(e:ak A h d v):ak A h' d v:=ak.mono (λ_ a=>a) (λ_ _ _ q=>cN p q) d v e
theorem Dn.dH(hA:∀i,A i->A' i)(e:Dn A h d v):Dn A' h d v:=Dn.mono hA (λ_ _ _ q=>q) d v e
theorem ak.dH(hA:∀i,A i->A' i)(e:ak A h d v):ak A' h d v:=ak.mono hA (λ_ _ _ q=>q) d v e
mutual
theorem jV:∀(d v:Val),kB d=true->(Dn A h d v↔v=d)
 |.non,v,_=>by rw[Dn]
 |.bl _,v,_=>by rw[Dn]
 |.int _,v,_=>by rw[Dn]
 |.str _,v,_=>by rw[Dn]
 | .tup ds,v,e=>by
  rw[kB]at e;rw[Dn];constructor
  ·rintro⟨vs,rfl,q⟩;rw[(bC ds vs e).mp q]
  ·rintro rfl;exact⟨ds,rfl,(bC ds ds e).mpr rfl⟩
 |.rl _,v,e=>by rw[kB]at e;cases e
 |.dc _ _,v,e=>by rw[kB]at e;cases e
 |.ob _ _ _,v,e=>by rw[kB]at e;cases e
 |.ref _,v,e=>by rw[kB]at e;cases e
theorem bC:∀(ds vs:List Val),cI ds=true->(ak A h ds vs↔vs=ds)
 |[],vs,_=>by rw[ak]
 | d::ds,vs,e=>by
  rw[cI,XE]at e;rw[ak];constructor
  ·rintro⟨v,r,rfl,q1,q2⟩;rw[(jV d v e.1).mp q1,(bC ds r e.2).mp q2]
  ·rintro rfl;exact⟨d,ds,rfl,(jV d d e.1).mpr rfl,(bC ds ds e.2).mpr rfl⟩
end
theorem ak.nil:ak A h [] []:=by rw[ak]
theorem ak.cons{d v:Val}{ds vs:List Val}(a:Dn A h d v)(b:ak A h ds vs):ak A h (d::ds) (v::vs):=by rw[ak];exact⟨v,vs,rfl,a,b⟩
theorem ak.length:∀{ds vs:List Val},ak A h ds vs->ds.length=vs.length
 |[],vs,e=>by rw[ak]at e;subst e;rfl
 |d::ds,vs,e=>by rw[ak]at e;obtain⟨v,r,rfl,_,q⟩:=e;simp[ak.length q]
theorem ak.get:∀{ds vs:List Val} {i:Nat} {d:Val},ak A h ds vs->ds[i]?=some d->∃v,vs[i]?=some v/\Dn A h d v
 |[],vs,i,d,e,q=>by simp at q
 | c::ds,vs,0,d,e,q=>by
  rw[ak]at e;obtain⟨v,r,rfl,a,_⟩:=e;simp at q;subst q;exact⟨v,rfl,a⟩
 | c::ds,vs,i+1,d,e,q=>by
  rw[ak]at e;obtain⟨v,r,rfl,_,b⟩:=e;simp at q;obtain⟨w,q1,q2⟩:=ak.get b q;exact⟨w,by simpa using q1,q2⟩
theorem ak.append:∀{ds es vs ws:List Val},ak A h ds vs->ak A h es ws->ak A h (ds++es) (vs++ws)
 |[],es,vs,ws,e,q=>by rw[ak]at e;subst e;exact q
 | d::ds,es,vs,ws,e,q=>by
  rw[ak]at e;obtain⟨v,r,rfl,a,b⟩:=e;exact ak.cons a (ak.append b q)
theorem ak.take:∀{ds vs:List Val} (n:Nat),ak A h ds vs->ak A h (ds.take n) (vs.take n)
 |_,_,0,_=>by simp;exact ak.nil
 |[],vs,n+1,e=>by rw[ak]at e;subst e;simp;exact ak.nil
 | d::ds,vs,n+1,e=>by
  rw[ak]at e;obtain⟨v,r,rfl,a,b⟩:=e;exact ak.cons a (ak.take n b)
theorem ak.drop:∀{ds vs:List Val} (n:Nat),ak A h ds vs->ak A h (ds.drop n) (vs.drop n)
 |_,_,0,e=>by simpa using e
 |[],vs,n+1,e=>by rw[ak]at e;subst e;simp;exact ak.nil
 | d::ds,vs,n+1,e=>by
  rw[ak]at e;obtain⟨v,r,rfl,a,b⟩:=e;exact ak.drop n b
theorem ak.cut(lo hi:Option Int)(e:ak A h ds vs):ak A h (fh ds lo hi) (fh vs lo hi):=by
 unfold fh;rw[e.length];exact ak.take _ (ak.drop _ e)
theorem ak.set:∀{ds vs:List Val} (n:Nat) {d v:Val},ak A h ds vs->Dn A h d v->ak A h (ds.set n d) (vs.set n v)
 |[],vs,n,d,v,e,q=>by rw[ak]at e;subst e;simp;exact ak.nil
 | c::ds,vs,0,d,v,e,q=>by
  rw[ak]at e;obtain⟨w,r,rfl,a,b⟩:=e;exact ak.cons q b
 | c::ds,vs,n+1,d,v,e,q=>by
  rw[ak]at e;obtain⟨w,r,rfl,a,b⟩:=e;exact ak.cons a (ak.set n b q)
theorem ak.gJ{i:Int}(e:ak A h ds vs)(q:L2.gJ ds i=some d):∃v,L2.gJ vs i=some v/\Dn A h d v:=by
 unfold L2.gJ at q |-;rw[e.length]at q;cases hi:L2.wg vs.length i with
 |none=>rw[hi]at q;cases q
 |some n=>rw[hi]at q;exact ak.get e q
def OD(A:AP)(h:Hs)(d:Val)(a:Nat):Prop:=match d with
 |.rl ds=>∃vs,h[a]?=some (.lst vs)/\ak A h ds vs
 |.dc ks ds=>∃kvs,h[a]?=some (.dct kvs)/\kvs.map (·.1)=ks/\ak A h ds (kvs.map (·.2))
 |_=>False
theorem OD.mono{a:Nat}(e:OD A h d a)(ho:∀o,h[a]?=some o->h'[a]?=some o)(hq:∀ds vs,ak A h ds vs->ak A' h' ds vs):OD A' h' d a:=by
 cases d with
 |rl ds=>obtain⟨vs,g,q⟩:=e;exact⟨vs,ho _ g,hq _ _ q⟩
 |dc ks ds=>obtain⟨kvs,g,k,q⟩:=e;exact⟨kvs,ho _ g,k,hq _ _ q⟩
 |_=>exact False.elim e
theorem OD.ext{a:Nat}(p:h<+:h')(e:OD A h d a):OD A h' d a:=e.mono (λ_ g=>cN p g) λ_ _ q=>q.ext p
theorem OD.lt{a:Nat}(e:OD A h d a):a<h.length:=by
 cases d with
 |rl ds=>obtain⟨vs,g,q⟩:=e;exact(V4.mp g).1
 |dc ks ds=>obtain⟨kvs,g,k,q⟩:=e;exact(V4.mp g).1
 |_=>exact False.elim e
theorem OD.dn{a:Nat}(e:OD A h d a)(ha:A (.some a)):Dn A h d (.ref a):=by
 cases d with
 |rl ds=>obtain⟨vs,g,q⟩:=e;rw[Dn];exact .inr ⟨a,vs,rfl,ha,g,q⟩
 |dc ks ds=>obtain⟨kvs,g,k,q⟩:=e;rw[Dn];exact⟨a,kvs,rfl,ha,g,k,q⟩
 |_=>exact False.elim e
def OB(A:AP)(h:Hs)(d:Val)(o:Ob):Prop:=match d with
 |.rl ds=>∃vs,o=.lst vs/\ak A h ds vs
 |.dc ks ds=>∃kvs,o=.dct kvs/\kvs.map (·.1)=ks/\ak A h ds (kvs.map (·.2))
 |_=>False
theorem OB.od{a:Nat}(e:OB A h d o)(g:h'[a]?=.some o)(hq:∀ds vs,ak A h ds vs->ak A' h' ds vs):OD A' h' d a:=by
 cases d with
 |rl ds=>obtain⟨vs,rfl,q⟩:=e;exact⟨vs,g,hq _ _ q⟩
 |dc ks ds=>obtain⟨kvs,rfl,k,q⟩:=e;exact⟨kvs,g,k,hq _ _ q⟩
 |_=>exact False.elim e
def DB(A:AP)(h:Hs)(d v:Val):Prop:=Dn A h d v\/∃i,v=.ref i/\OD A h d i
theorem DB.all(e:DB A h d v):Dn (λ_=>True) h d v:=by
 rcases e with e|⟨i,rfl,q⟩
 ·exact e.dH λ_ _=>trivial
 ·exact(q.mono (A':=λ_=>True) (λ_ g=>g) λ_ _ z=>z.dH λ_ _=>trivial).dn trivial
theorem DB.ext(p:h<+:h')(e:DB A h d v):DB A h' d v:=by
 rcases e with e|⟨i,rfl,q⟩
 ·exact .inl (e.ext p)
 ·exact .inr ⟨i,rfl,q.ext p⟩
theorem DB.dc(e:DB A h (.dc ks ds) v):∃i kvs,v=.ref i/\h[i]?=some (.dct kvs)/\kvs.map (·.1)=ks/\ak A h ds (kvs.map (·.2)):=by
 rcases e with e|⟨i,rfl,kvs,g,k,q⟩
 ·rw[Dn]at e;obtain⟨i,kvs,rfl,_,g,k,q⟩:=e;exact⟨i,kvs,rfl,g,k,q⟩
 ·exact⟨i,kvs,rfl,g,k,q⟩
theorem DB.lst(e:DB A h (.rl ds) v):∃vs,ay h v=some vs/\ak A h ds vs:=by
 rcases e with e|⟨i,rfl,vs,g,q⟩
 ·rw[Dn]at e
  rcases e with ⟨vs,rfl,_,q⟩|⟨i,vs,rfl,_,g,q⟩
  ·exact⟨vs,rfl,q⟩
  ·exact⟨vs,by simp[ay,g],q⟩
 ·exact⟨vs,by simp[ay,g],q⟩
theorem DB.seq(e:DB A h d v)(q:cC [] d=some ds):∃vs,cC h v=some vs/\ak A h ds vs:=by
 cases d with
 |tup es=>
  simp only[cC]at q;cases q
  rcases e with e|⟨_,_,e1⟩
  ·rw[Dn]at e;obtain⟨vs,rfl,q⟩:=e;exact⟨vs,rfl,q⟩
  ·exact False.elim e1
 |rl es=>simp only[cC,ay]at q;cases q;obtain⟨vs,q1,q2⟩:=e.lst;refine⟨vs,?_,q2⟩;cases v<;>first|(simp[ay]at q1;done)|exact q1
 |ref i=>simp[cC,ay]at q
 |_=>simp[cC,ay]at q
theorem DB.int{i:Int}(e:DB A h (.int i) v):v=.int i:=by
 rcases e with e|⟨_,_,e1⟩
 ·rw[Dn]at e;exact e
 ·exact False.elim e1
theorem DB.str(e:DB A h (.str i) v):v=.str i:=by
 rcases e with e|⟨_,_,e1⟩
 ·rw[Dn]at e;exact e
 ·exact False.elim e1
theorem DB.bl{i:Bool}(e:DB A h (.bl i) v):v=.bl i:=by
 rcases e with e|⟨_,_,e1⟩
 ·rw[Dn]at e;exact e
 ·exact False.elim e1
theorem DB.tup(e:DB A h (.tup ds) v):∃vs,v=.tup vs/\ak A h ds vs:=by
 rcases e with e|⟨_,_,e1⟩
 ·rw[Dn]at e;exact e
 ·exact False.elim e1
theorem rq:∀(n:Nat) (d v:Val) (p:PyData),Dn (λ_=>True) h d v->toD n [] d=some p->toD n h v=some p:=by
 intro n
 induction n with
 |zero=>intro d v p _ e;simp[toD]at e
 |succ n ih=>
  have all:∀(ds vs:List Val) (ps:List PyData),ak (λ_=>True) h ds vs->bX (toD n []) ds=some ps->bX (toD n h) vs=some ps:=by
   intro ds
   induction ds with
   |nil=>intro vs ps q e;rw[ak]at q;subst q;exact e
   |cons d ds UP=>intro vs ps q e;rw[ak]at q;obtain⟨v,r,rfl,q1,q2⟩:=q;simp only[bX]at e |-;obtain⟨x,e1,e⟩:=V0.mp e;obtain⟨xs,e2,e⟩:=V0.mp e;rw[ih d v x q1 e1,UP r xs q2 e2];exact e
  intro d v p q e;cases d with
  |non=>rw[Dn]at q;subst q;exact e
  |bl b=>rw[Dn]at q;subst q;exact e
  |int b=>rw[Dn]at q;subst q;exact e
  |str b=>rw[Dn]at q;subst q;exact e
  |tup ds=>rw[Dn]at q;obtain⟨vs,rfl,q⟩:=q;simp only[toD]at e |-;obtain⟨ps,e1,e⟩:=V0.mp e;rw[all ds vs ps q e1];exact e
  |rl ds=>
   rw[Dn]at q;simp only[toD]at e;obtain⟨ps,e1,e⟩:=V0.mp e
   rcases q with ⟨vs,rfl,_,q⟩|⟨i,vs,rfl,_,g,q⟩
   ·simp only[toD];rw[all ds vs ps q e1];exact e
   ·simp only[toD,ay,g,bind_some];rw[all ds vs ps q e1];exact e
  |dc ks ds=>simp[toD]at e
  |ob c xs ds=>simp[toD]at e
  |ref i=>rw[Dn]at q;exact q.elim
theorem GH{b:Bool}(a:DB A h d v)(c:DB A h e w)(q:zE [] d e=some b):zE h v w=some b:=by
 unfold zE at q |-;obtain⟨x,e1,q⟩:=V0.mp q;obtain⟨y,e2,q⟩:=V0.mp q;rw[rq 16 d v x a.all e1,rq 16 e w y c.all e2];exact q
theorem BG(a:DB A h d v):nG v=nG d:=by
 rcases a with a|⟨i,rfl,q⟩
 ·cases d<;>rw[Dn]at a
  ·subst a;rfl
  ·subst a;rfl
  ·subst a;rfl
  ·subst a;rfl
  ·obtain⟨vs,rfl,_⟩:=a;rfl
  ·rcases a with ⟨vs,rfl,_⟩|⟨i,vs,rfl,_⟩<;>rfl
  ·obtain⟨i,kvs,rfl,_⟩:=a;rfl
  ·obtain⟨i,kvs,rfl,_⟩:=a;rfl
  ·exact a.elim
 ·cases d<;>first|exact False.elim q|rfl
theorem BH{b:Bool}(a:DB A h d v)(c:DB A h e w)(q:sU [] d e=some b):sU h v w=some b:=by
 have data:memD [] d e=some b->memD h v w=some b:=λq=>by
  unfold memD at q |-;obtain⟨x,e1,q⟩:=V0.mp q;obtain⟨y,e2,q⟩:=V0.mp q;rw[rq 16 e w x c.all e1,rq 16 d v y a.all e2];exact q
 exact data q
theorem BI{b:Bool}(a:DB A h d v)(c:DB A h e w)(q:Gg d e=some b):Gg v w=some b:=by
 cases e<;>first|(cases q;done)|skip
 ·have:w=.non:=by
   rcases c with c|⟨_,_,e1⟩
   ·rw[Dn]at c;exact c
   ·exact False.elim e1
  subst this;show some (nG v)=_;rw[BG a];exact q
 ·have:=c.bl;subst this
  cases d<;>first|(cases q;done)|skip
  have:=a.bl;subst this;exact q
theorem JX{b:Bool}(a:DB A h d v)(c:DB A h e w)(q:cop [] o d e=some b):cop h o v w=some b:=by
 cases o with
 |eq=>exact GH a c q
 |ne=>obtain⟨x,e1,e2⟩:=Wu.mp (show (zE [] d e).map _=some b from q);show (zE h v w).map _=_;rw[GH a c e1];exact Xb some e2
 |isn=>exact BI a c q
 |ntn=>obtain⟨x,e1,e2⟩:=Wu.mp (show (Gg d e).map _=some b from q);show (Gg v w).map _=_;rw[BI a c e1];exact Xb some e2
 |LA=>exact BH a c q
 |nin=>obtain⟨x,e1,e2⟩:=Wu.mp (show (sU [] d e).map _=some b from q);show (sU h v w).map _=_;rw[BH a c e1];exact Xb some e2
 |lt=>obtain⟨i,j,rfl,rfl⟩:=iP (.inl rfl) q;have:=a.int;subst this;have:=c.int;subst this;exact q
 |le=>obtain⟨i,j,rfl,rfl⟩:=iP (.inr (.inl rfl)) q;have:=a.int;subst this;have:=c.int;subst this;exact q
 |gt=>obtain⟨i,j,rfl,rfl⟩:=iP (.inr (.inr (.inl rfl))) q;have:=a.int;subst this;have:=c.int;subst this;exact q
 |ge=>obtain⟨i,j,rfl,rfl⟩:=iP (.inr (.inr (.inr rfl))) q;have:=a.int;subst this;have:=c.int;subst this;exact q
theorem rA{b:Bool}(a:DB A h d v)(q:cG [] d=some b):cG h v=some b:=by
 cases d with
 |rl ds=>
  obtain⟨vs,q1,q2⟩:=a.lst;have l:=q2.length;have e:(!ds.isEmpty) = !vs.isEmpty:=by cases ds<;>cases vs<;>simp_all
  simp only[cG]at q;rw[e]at q;cases v<;>simp only[ay]at q1<;>first|(cases q1;done)|skip
  ·cases q1;exact q
  ·split at q1<;>cases q1;rename_i g;simp only[cG,g];exact q
 |tup ds=>
  obtain⟨vs,rfl,q2⟩:=a.tup;have l:=q2.length;have e:(!ds.isEmpty) = !vs.isEmpty:=by cases ds<;>cases vs<;>simp_all
  simp only[cG]at q |-;rw[<-e];exact q
 |dc ks ds=>obtain⟨i,kvs,rfl,g,hk,_⟩:=a.dc;subst hk;simp only[cG,g]at q |-;rw[<-q];cases kvs<;>rfl
 |ob c xs ds=>cases q
 |ref i=>
  rcases a with a|⟨_,_,e1⟩
  ·rw[Dn]at a;exact a.elim
  ·exact False.elim e1
 |non=>
  rcases a with a|⟨_,_,e1⟩
  ·rw[Dn]at a;subst a;exact q
  ·exact False.elim e1
 |bl b=>have:=a.bl;subst this;exact q
 |int b=>have:=a.int;subst this;exact q
 |str b=>have:=a.str;subst this;exact q
theorem JY{n:Nat}(a:DB A h d v)(q:kr [] d=some n):kr h v=some n:=by
 cases d with
 |rl ds=>
  obtain⟨vs,q1,q2⟩:=a.lst;have l:=q2.length;simp only[kr]at q;rw[l]at q;cases v<;>simp only[ay]at q1<;>first|(cases q1;done)|skip
  ·cases q1;exact q
  ·split at q1<;>cases q1;rename_i g;simp only[kr,g];exact q
 |tup ds=>obtain⟨vs,rfl,q2⟩:=a.tup;simp only[kr]at q |-;rw[<-q2.length];exact q
 |dc ks ds=>obtain⟨i,kvs,rfl,g,hk,_⟩:=a.dc;subst hk;simp only[kr,g]at q |-;rw[<-q];simp
 |str b=>have:=a.str;subst this;exact q
 |_=>simp[kr]at q
theorem Nk{t:String}(a:DB A h d v)(q:sW [] d=some t):sW h v=some t:=by
 cases d with
 |rl ds=>
  obtain⟨vs,q1,q2⟩:=a.lst;cases v<;>simp only[ay]at q1<;>first|(cases q1;done)|skip
  ·exact q
  ·split at q1<;>cases q1;rename_i g;simp only[sW,g];exact q
 |tup ds=>obtain⟨vs,rfl,q2⟩:=a.tup;exact q
 |dc ks ds=>obtain⟨i,kvs,rfl,g,hk,_⟩:=a.dc;simp only[sW,g]at q |-;exact q
 |ob c xs ds=>cases q
 |ref i=>
  rcases a with a|⟨_,_,e1⟩
  ·rw[Dn]at a;exact a.elim
  ·exact False.elim e1
 |non=>
  rcases a with a|⟨_,_,e1⟩
  ·rw[Dn]at a;subst a;exact q
  ·exact False.elim e1
 |bl b=>have:=a.bl;subst this;exact q
 |int b=>have:=a.int;subst this;exact q
 |str b=>have:=a.str;subst this;exact q
theorem mT:∀{kvs:List (Key×Val)} {ks:List Key} {ds:List Val} {z:Val},kvs.map (·.1)=ks->ak A h ds (kvs.map (·.2))->bY (ks.zip ds) k=some z->∃v,bY kvs k=some v/\Dn A h z v
 |[],ks,ds,z,hk,q,e=>by subst hk;simp[bY]at e
 | (k',v')::kvs,ks,ds,z,hk,q,e=>by
  subst hk;have l:=q.length;cases ds with
  |nil=>simp at l
  |cons d ds=>
   simp only[map_cons]at q;rw[ak]at q;obtain⟨v,r,e1,q1,q2⟩:=q;cases e1
   by_cases hkk:k'=k
   ·subst hkk;simp[bY]at e |-;subst e;exact q1
   ·have e':bY ((kvs.map (·.1)).zip ds) k=some z:=by simpa [bY,hkk] using e
    obtain⟨w,a1,a2⟩:=mT rfl q2 e';exact⟨w,by simpa [bY,hkk] using a1,a2⟩
theorem DB.tW{j:Nat}(c:DB A h (.ref j) v):False:=by
 rcases c with c|⟨_,_,e1⟩
 ·rw[Dn]at c;exact c
 ·exact e1
theorem xy:∀{kvs:List (Key×Val)} {ds:List Val},ak A h ds (kvs.map (·.2))->bY ((kvs.map (·.1)).zip ds) k=none->bY kvs k=none
 |[],ds,q,e=>rfl
 | (k',v')::kvs,ds,q,e=>by
  cases ds with
  |nil=>rw[ak]at q;cases q
  |cons d ds=>
   rw[Wm,ak]at q;obtain⟨v,r,eq,q1,q2⟩:=q;cases eq;unfold bY at e |-;rw[Wm,List.zip_cons_cons,find?_cons]at e;rw[find?_cons]
   by_cases hk:k'=k
   ·simp[hk]at e
   ·simp only[hk,decide_false]at e |-;exact xy q2 e
theorem vH(a:Dn A h d v)(e:keyOf d=some kk):keyOf v=some kk:=by
 cases d<;>first|(cases e;done)|skip
 ·rw[Dn]at a;subst a;exact e
 ·rw[Dn]at a;subst a;exact e
theorem JZ(a:DB A h o v)(e:yS [] o k=some r):∃r',yS h v k=some r'/\∀z z',Dn A h z z'->Dn A h (r.getD z) (r'.getD z'):=by
 cases o<;>first|(cases e;done)|(exact(DB.tW a).elim)|skip
 rename_i ks ds;obtain⟨i,kvs,rfl,g,hk,q⟩:=a.dc;cases e;have eg:yS h (.ref i) k=some (bY kvs k):=by show (match h[i]? with|some (.dct kvs)=>some (bY kvs k)|_=>none)=_;rw[g]
 refine⟨_,eg,λz z' hz=>?_⟩;cases ev:bY (ks.zip ds) k with
 |none=>subst hk;rw[xy q ev];exact hz
 |some d=>obtain⟨u,e1,e2⟩:=mT hk q ev;rw[e1];exact e2
theorem EG{u:Unit}(a:DB A h o v)(e:AH [] o=some u):AH h v=some u:=by
 cases o<;>first|(cases e;done)|(exact(DB.tW a).elim)|skip
 obtain⟨i,kvs,rfl,g,hk,q⟩:=a.dc;show (match h[i]? with|some (.dct _)=>some ()|_=>none)=_;rw[g]
theorem J0(a:DB A h d v)(c:Dn A h e w)(q:iM [] d e=some z):∃u,iM h v w=some u/\Dn A h z u:=by
 cases e with
 |int i=>
  rw[Dn]at c;subst c;cases d with
  |str x=>
   have:=a.str;subst this;refine⟨z,q,?_⟩;change (if x.length<=sizeLine then (gJ x.cps.toList i).map (λc=>Val.str ⟨[c].toArray⟩) else none)=some z at q;split at q
   ·obtain⟨c,_,rfl⟩:=Wu.mp q;rw[Dn]
   ·cases q
  |tup ds=>obtain⟨vs,rfl,q2⟩:=a.tup;exact q2.gJ q
  |rl ds=>
   obtain⟨vs,q1,q2⟩:=a.lst;obtain⟨u,q3,q4⟩:=q2.gJ q;refine⟨u,?_,q4⟩;cases v<;>simp only[ay]at q1<;>first|(cases q1;done)|skip
   ·cases q1;exact q3
   ·split at q1<;>cases q1;rename_i g;unfold iM;simp only[ay,g,bind_some];exact q3
  |dc ks ds=>obtain⟨i',kvs,rfl,g,hk,q2⟩:=a.dc;obtain⟨u,q3,q4⟩:=mT hk q2 q;refine⟨u,?_,q4⟩;show (match h[i']? with|some (.dct kvs)=>bY kvs (.inl i)|_=>(ay h (.ref i')).bind λxs=>gJ xs i)=_;rw[g];exact q3
  |ref j=>exact(DB.tW a).elim
  |_=>cases q
 |str x=>
  rw[Dn]at c;subst c;cases d with
  |dc ks ds=>obtain⟨i',kvs,rfl,g,hk,q2⟩:=a.dc;obtain⟨u,q3,q4⟩:=mT hk q2 q;refine⟨u,?_,q4⟩;show (match h[i']? with|some (.dct kvs)=>bY kvs (.inr x)|_=>none)=_;rw[g];exact q3
  |ref j=>exact(DB.tW a).elim
  |_=>cases q
 |_=>cases d<;>first|(cases q;done)|exact(DB.tW a).elim
end
def Up(A:AP)(h:Hs):Prop:=∀k,h.length<=k->A (some k)
def Rel(A:AP)(h:Hs){α β:Type}(R:α -> Hs -> β -> Prop)(o:Out β):Pr α -> Prop
 |.ok a=>∃b h',o=.ok b h'/\h<+:h'/\R a h' b
 |.exc c es=>∃ws h',o=.exc c ws h'/\h<+:h'/\ak A h' es ws
 |.no=>True
def RV(A:AP)(h:Hs):FV->Hs->Val->Prop:=λx h' v=>Dn A h' x.2 v/\(x.1=true->Dn (Fr h.length) h' x.2 v)
def UQ(A:AP)(h:Hs):Bool×List Val->Hs->List Val->Prop:=λx h' v=>ak A h' x.2 v/\(x.1=true->ak (Fr h.length) h' x.2 v)
def Rc(A:AP):FV->Hs->Val->Prop:=λx h' v=>DB A h' x.2 v
def EH(A:AP)(h:Hs):List Val->List Val->Prop
 |[],vs=>vs=[]
 |d::ds,vs=>∃v r,vs=v::r/\DB A h d v/\EH A h ds r
def ER(A:AP)(aa:aH)(env:Env)(h:Hs):Prop:=∀(i:Nat) (f:Mk) (d:Val),aa[i]?=some (some (f,d)) ->
 if rM f=false then ∃a,env[i]?=some (some (.ref a))/\OD A h d a else ∃v,env[i]?=some (some v)/\Dn A h d v
section
variable {A:AP} {h h1:Hs} {α β γ δ:Type}
theorem Up.ext(u:Up A h)(p:h<+:h1):Up A h1:=λk hk=>u k (Wx p.length_le hk)
theorem ER.ext(e:ER A aa env h)(p:h<+:h1):ER A aa env h1:=λi f d q=>by
 have:=e i f d q;revert this;generalize rM f=t;intro this;cases t with
 |false=>rw[Wg rfl]at this |-;obtain⟨a,k2,k3⟩:=this;exact⟨a,k2,k3.ext p⟩
 |true=>rw[We (by decide)]at this |-;obtain⟨v,k1,k2⟩:=this;exact⟨v,k1,k2.ext p⟩
theorem ah(r:Rel A h R (m h) p)(k:∀a h1 b,h<+:h1->R a h1 b->Rel A h1 R' (f b h1) (F a)):Rel A h R' (bnd m f h) (pb p F):=by
 unfold bnd;cases p with
 |ok a=>
  obtain⟨b,h1,e,q,r⟩:=r;rw[e];show Rel A h R' (f b h1) (F a);have:=k a h1 b q r;cases e2:F a with
  |ok c=>rw[e2]at this;obtain⟨d,h2,e3,q2,r2⟩:=this;exact⟨d,h2,e3,q.trans q2,r2⟩
  |exc c es=>rw[e2]at this;obtain⟨d,h2,e3,q2,r2⟩:=this;exact⟨d,h2,e3,q.trans q2,r2⟩
  |no=>trivial
 |exc c es=>obtain⟨ws,h1,e,q,r⟩:=r;rw[e];exact⟨ws,h1,rfl,q,r⟩
 |no=>trivial
theorem au(r:R a h b):Rel A h R (ret b h) (.ok a):=⟨b,h,rfl,Wl _,r⟩
theorem aX(r:∀a,o=some a->∃b,o'=some b/\R a h b):Rel A h R (aT o' h) (pl o):=by
 cases o with
 |none=>trivial
 |some a=>obtain⟨b,rfl,q⟩:=r a rfl;exact⟨b,h,rfl,Wl _,q⟩
theorem cM(r:∀a,o=some a->∃b,f h=some b/\R a h b):Rel A h R (ask f h) (pl o):=aX r
theorem bD{c c':Bool}(e:c=true->c'=true)(r:c=true->Rel A h R (m h) p):Rel A h R (aK c' m h) (pg c p):=by
 unfold aK pg;cases c with
 |true=>rw[Wg (e rfl),Wg rfl];exact r rfl
 |false=>rw[We V1];trivial
theorem tX(r:Rel A h R o p)(k:∀a h' b,h<+:h'->R a h' b->R' a h' b):Rel A h R' o p:=by
 cases p with
 |ok a=>obtain⟨b,h',e,q,r⟩:=r;exact⟨b,h',e,q,k a h' b q r⟩
 |exc c es=>exact r
 |no=>trivial
theorem cJ(o:Ob):h<+:h++[o]:=WO _ _
theorem gq(o:Ob):(h++[o])[h.length]?=some o:=by simp
theorem gW{f:Bool}{h0:Hs}(u:Up A h)(p:h0<+:h)(q:ak A h xs vs)(g:f=true->ak (Fr h0.length) h xs vs):Rel A h (RV A h0) (new (.lst vs) h) (.ok (f,.rl xs)):=by
 refine⟨_,_,rfl,cJ _,?_,λhf=>?_⟩
 ·show Dn A _ (.rl xs) _;rw[Dn];exact .inr ⟨_,vs,rfl,u _ (Wb _),gq _,q.ext (cJ _)⟩
 ·show Dn _ _ (.rl xs) _;rw[Dn];exact .inr ⟨_,vs,rfl,p.length_le,gq _,(g hf).ext (cJ _)⟩
theorem nY{h0:Hs}(q:Dn A h d v):RV A h0 (kB d,d) h v:=⟨q,λhi=>(jV d v hi).mpr ((jV d v hi).mp q)⟩
theorem fH(q:ak A h ds vs)(hi:cI ds=true):ak A' h' ds vs:=(bC ds vs hi).mpr ((bC ds vs hi).mp q)
theorem gh{i:Int}{h0:Hs}{f:Bool}:RV A h0 (f,.int i) h (.int i):=⟨by rw[Dn],λ_=>by rw[Dn]⟩
theorem lW{i:Bool}{h0:Hs}{f:Bool}:RV A h0 (f,.bl i) h (.bl i):=⟨by rw[Dn],λ_=>by rw[Dn]⟩
theorem J1{h0:Hs}{f:Bool}:RV A h0 (f,.str i) h (.str i):=⟨by rw[Dn],λ_=>by rw[Dn]⟩
theorem RV.br{h0:Hs}(r:RV A h0 x h v):Rc A x h v:=.inl r.1
theorem EI(ho:o≠.add)(v w:Val):(∃i j,v=.int i/\w=.int j)\/kD o v w=.no:=by
 cases v with
 |int i=>
  cases w with
  |int j=>exact .inl ⟨i,j,rfl,rfl⟩
  |_=>right;cases o<;>first|rfl|exact absurd rfl ho
 |_=>right;cases o<;>first|rfl|exact absurd rfl ho
theorem EJ{h0:Hs}(u:Up A h)(p:h0<+:h)(a:DB A h d v)(c:DB A h e w):Rel A h (RV A h0) (LB o v w h) (kD o d e):=by
 have ii:o≠.add->(∃i j,d=.int i/\e=.int j)\/kD o d e=.no:=λho=>EI ho d e;cases o with
 |add=>
  cases d<;>cases e<;>first|trivial|skip
  ·have:=a.int;subst this;have:=c.int;subst this;exact au gh
  ·have:=a.str;subst this;have:=c.str;subst this;exact bD (λz=>z) λ_=>au J1
  ·rename_i xs ys
   obtain⟨vs,rfl,q1⟩:=a.tup;obtain⟨ws,rfl,q2⟩:=c.tup;have l1:=q1.length;have l2:=q2.length;refine bD (λz=>?_) λ_=>au ⟨?_,λhi=>?_⟩
   ·rw[l1,l2]at z
    have:xs.isEmpty=vs.isEmpty:=by cases xs<;>cases vs<;>simp_all
    rw[<-this];exact z
   ·show Dn A h (.tup _) _;rw[Dn];exact⟨_,rfl,q1.append q2⟩
   ·show Dn _ h (.tup _) _;rw[Dn];exact⟨_,rfl,fH (q1.append q2) hi⟩
  ·rename_i xs ys
   obtain⟨vs,e1,q1⟩:=a.lst;obtain⟨ws,e2,q2⟩:=c.lst;have eb:LB .add v w=bnd (ask λh=>ay h v) λa=>bnd (ask λh=>ay h w) λb=>aK (decide (a.length+b.length<=sizeLine)) (new (.lst (a++b))):=by
    cases v<;>simp only[ay]at e1<;>first|(cases e1;done)|skip
    all_goals cases w<;>simp only[ay]at e2<;>first|(cases e2;done)|rfl
   have ev:LB .add v w h=aK (decide (vs.length+ws.length<=sizeLine)) (new (.lst (vs++ws))) h:=by rw[eb];unfold bnd ask aT;dsimp only;rw[e1];dsimp only;rw[e2]
   rw[ev];refine bD (λz=>?_) λ_=>gW u p (q1.append q2) λhi=>fH (q1.append q2) hi;rw[<-q1.length,<-q2.length];exact z
 |_=>
  rcases ii (by intro z;cases z) with ⟨i,j,rfl,rfl⟩|z
  case inr=>rw[z];trivial
  have:=a.int;subst this;have:=c.int;subst this
  first
   |exact au gh
   |exact bD (λz=>z) λ_=>au gh
theorem EK{lo hi:Option Int}{h0:Hs}(u:Up A h)(p:h0<+:h)(a:DB A h d v):Rel A h (RV A h0) (oZ v lo hi h) (BB d lo hi):=by
 cases d with
 |tup ds=>
  obtain⟨vs,rfl,q⟩:=a.tup;have l:=q.length;simp only[BB,oZ];refine bD (λz=>?_) λ_=>au ⟨?_,λhi=>?_⟩
  ·rw[l]at z;exact z
  ·show Dn A h (.tup _) _;rw[Dn];exact⟨_,rfl,q.cut lo hi⟩
  ·show Dn _ h (.tup _) _;rw[Dn];exact⟨_,rfl,fH (q.cut _ _) hi⟩
 |rl ds=>
  obtain⟨vs,e1,q⟩:=a.lst;have ev:oZ v lo hi h=new (.lst (fh vs lo hi)) h:=by
   have:oZ v lo hi=bnd (ask λh=>ay h v) λxs=>new (.lst (fh xs lo hi)):=by cases v<;>simp only[ay]at e1<;>first|(cases e1;done)|rfl
   rw[this];unfold bnd ask aT;dsimp only;rw[e1]
  rw[ev];exact gW u p (q.cut lo hi) λhh=>fH (q.cut lo hi) hh
 |_=>trivial
theorem EH.one(e:EH A h [d] vs):∃v,vs=[v]/\DB A h d v:=by
 obtain⟨v,r,rfl,a,b⟩:=e;cases (show r=[] from b);exact⟨v,rfl,a⟩
theorem EL{ns:List Int}(q:ak A h ds vs)(e:aS ds=some ns):vs=ds:=by
 have:cI ds=true:=by
  clear q
  induction ds generalizing ns with
  |nil=>rfl
  |cons d ds ih=>
   simp only[aS,bX]at e;obtain⟨i,e1,e⟩:=V0.mp e;obtain⟨is,e2,e⟩:=V0.mp e;cases d<;>first|(cases e1;done)|skip
   rw[cI,kB,Xp];exact ih e2
 exact(bC ds vs this).mp q
theorem BJ(q:ak A h ds vs)(e:dO ds=some ns):vs=ds:=by
 have:cI ds=true:=by
  clear q
  induction ds generalizing ns with
  |nil=>rfl
  |cons d ds ih=>
   simp only[dO,bX]at e;obtain⟨i,e1,e⟩:=V0.mp e;obtain⟨is,e2,e⟩:=V0.mp e;cases d<;>first|(cases e1;done)|skip
   rw[cI,kB,Xp];exact ih e2
 exact(bC ds vs this).mp q
theorem nZ:∀{ds:List Val} {ns:List Int},aS ds=some ns->cI ds=true
 |[],_,_=>rfl
 | d::ds,ns,e=>by
  simp only[aS,bX]at e;obtain⟨i,e1,e⟩:=V0.mp e;obtain⟨is,e2,e⟩:=V0.mp e;cases d<;>first|(cases e1;done)|skip
  rw[cI,kB,Xp];exact nZ (show aS ds=some is from e2)
theorem tY:∀{ds:List Val} {ns:List (List Int)},jJ ds=some ns->cI ds=true
 |[],_,_=>rfl
 | d::ds,ns,e=>by
  simp only[jJ,bX]at e;obtain⟨i,e1,e⟩:=V0.mp e;obtain⟨is,e2,e⟩:=V0.mp e;cases d<;>first|(cases e1;done)|skip
  rename_i vs;dsimp only at e1;split at e1
  ·cases e1
  ·rw[cI,kB,nZ e1,Xp];exact tY (show jJ ds=some is from e2)
theorem bO:∀ns:List Int,cI (ns.map .int)=true
 |[]=>rfl
 |n::ns=>by rw[Wm,cI,kB,Xp];exact bO ns
theorem kE:∀mP:List (List Int),cI (mP.map jR)=true
 |[]=>rfl
 |n::ns=>by rw[Wm,cI,jR,kB,bO,Xp];exact kE ns
theorem qh(e:fz xs=some ys):cI xs=true/\cI ys=true:=by
 unfold fz at e;split at e
 ·cases e2:aS xs with
  |some ns=>rw[e2]at e;cases e;exact⟨nZ e2,bO _⟩
  |none=>rw[e2]at e;obtain⟨mP,e3,e4⟩:=V0.mp e;cases e4;exact⟨tY e3,kE _⟩
 ·cases e
theorem EM{h0:Hs}(u:Up A h)(p:h0<+:h)(a:EH A h ds vs):Rel A h (RV A h0) (blt b vs h) (gf b ds):=by
 have mm:∀(f:List Int->Option Val) (d:Val),(∀ns m,f ns=some m->∃i,m=.int i)->∀v,DB A h d v->Rel A h (RV A h0) (bnd (ask λh=>cC h v) (λxs=>aT ((aS xs).bind f)) h) (pb (pl (cC [] d)) λxs=>pb (pl ((aS xs).bind f)) λm=>.ok (true,m)):=by
  intro f d hf v hv;refine ah (R:=λxs h' ws=>ak A h' xs ws) (cM λxs e=>hv.seq e) λxs h1 ws q1 q=>?_;have:aT ((aS ws).bind f) h1=bnd (aT ((aS ws).bind f)) (λm=>ret m) h1:=by unfold bnd aT;cases (aS ws).bind f<;>rfl
  rw[this];refine ah (R:=λm _ m'=>m'=m/\∃i,m=.int i) (aX λm e=>?_) λm h2 m' _ hm=>?_
  ·obtain⟨ns,e1,e2⟩:=V0.mp e;rw[EL q e1];exact⟨m,e,rfl,hf ns m e2⟩
  ·obtain⟨rfl,i,rfl⟩:=hm;exact au gh
 have hmin:∀ns m,qT ns=some m->∃i,m=Val.int i:=λns m e=>by cases ns<;>simp[qT]at e;exact⟨_,e.symm⟩
 have Rf:∀ns m,qU ns=some m->∃i,m=Val.int i:=λns m e=>by cases ns<;>simp[qU]at e;exact⟨_,e.symm⟩
 match ds,a with
 |[],a=>cases b<;>trivial
 |[d],a=>
  obtain⟨v,rfl,hv⟩:=a.one;cases b with
  |len=>exact ah (R:=λn _ m=>m=n) (cM λn e=>⟨n,JY hv e,rfl⟩) λn h1 m _ e=>by subst e;exact au gh
  |min=>
   have e1:gf .min [d]=pb (pl (cC [] d)) λxs=>pb (pl ((aS xs).bind qT)) λm=>.ok (true,m):=by cases d<;>rfl
   have e2:blt .min [v]=bnd (ask λh=>cC h v) λxs=>aT ((aS xs).bind qT):=by cases v<;>rfl
   rw[e1,e2];exact mm qT d hmin v hv
  |max=>
   have e1:gf .max [d]=pb (pl (cC [] d)) λxs=>pb (pl ((aS xs).bind qU)) λm=>.ok (true,m):=by cases d<;>rfl
   have e2:blt .max [v]=bnd (ask λh=>cC h v) λxs=>aT ((aS xs).bind qU):=by cases v<;>rfl
   rw[e1,e2];exact mm qU d Rf v hv
  |sorted=>
   cases d<;>first|trivial|skip
   rename_i xs;obtain⟨ws,e1,q⟩:=hv.lst;have ev:bnd (ask λh=>ay h v) (λxs=>bnd (aT (fz xs)) λys=>new (.lst ys)) h=bnd (aT (fz ws)) (λys=>new (.lst ys)) h:=by unfold bnd ask aT;dsimp only;rw[e1]
   show Rel A h (RV A h0) (bnd (ask λh=>ay h v) (λxs=>bnd (aT (fz xs)) λys=>new (.lst ys)) h) _;rw[ev];refine ah (R:=λys _ zs=>zs=ys/\cI ys=true) (aX λys e=>?_) λys h1 zs q1 hz=>?_
   ·obtain⟨i1,i2⟩:=qh e;rw[(bC xs ws i1).mp q];exact⟨ys,e,rfl,i2⟩
   ·obtain⟨rfl,hi⟩:=hz;exact gW (u.ext q1) (p.trans q1) ((bC _ _ hi).mpr rfl) λ_=>(bC _ _ hi).mpr rfl
  |list=>refine ah (R:=λxs h' ws=>ak A h' xs ws) (cM λxs e=>hv.seq e) λxs h1 ws q1 q=>?_;exact gW (u.ext q1) (p.trans q1) q λhi=>fH q hi
  |tuple=>trivial
  |str=>trivial
  |int=>
   cases d<;>first|trivial|skip
   ·have:=hv.bl;subst this;exact au gh
   ·have:=hv.int;subst this;exact au gh
  |all=>
   cases d<;>first|trivial|skip
   rename_i xs;obtain⟨ws,e1,q⟩:=hv.lst;have ev:bnd (ask λh=>ay h v) (λxs=>bnd (aT (dO xs)) λbs=>ret (Val.bl (bs.all id))) h=bnd (aT (dO ws)) (λbs=>ret (Val.bl (bs.all id))) h:=by unfold bnd ask aT;dsimp only;rw[e1]
   show Rel A h (RV A h0) (bnd (ask λh=>ay h v) (λxs=>bnd (aT (dO xs)) λbs=>ret (Val.bl (bs.all id))) h) _;rw[ev];exact ah (R:=λys _ zs=>zs=ys) (aX λys e=>⟨ys,by rw[BJ q e];exact e,rfl⟩) λys h1 zs q1 hz=>by subst hz;exact au lW
  |any=>trivial
  |isin T=>refine ah (R:=λn _ m=>m=n) (cM λn e=>⟨n,Nk hv e,rfl⟩) λn h1 m _ e=>?_;subst e;exact ah (R:=λn _ m=>m=n) (aX λn e=>⟨n,e,rfl⟩) λn h1 m _ e=>by subst e;exact au lW
 |[d,e],a=>
  obtain⟨v,r,rfl,hv,hr⟩:=a;obtain⟨w,rfl,hw⟩:=EH.one hr;cases b<;>first|trivial|(cases d<;>trivial)|skip
  ·cases d<;>cases e<;>first|trivial|skip
   have:=hv.int;subst this;have:=hw.int;subst this;exact au gh
  ·cases d<;>cases e<;>first|trivial|skip
   have:=hv.int;subst this;have:=hw.int;subst this;exact au gh
 |x::y::z::t,a=>cases b<;>first|trivial|(cases x<;>trivial)|(cases x<;>cases y<;>trivial)
end
def Imp(φ:List Val->M Val)(ψ:List Val->Pr FV):Prop:=∀(A:AP) (h:Hs) (ds vs:List Val),Up A h->ak A h ds vs->Rel A h (RV A h) (φ vs h) (ψ ds)
section
variable {Φ:Nat->List Val->M Val} {Ψ:Nat->List Val->Pr FV} {A:AP} {h h1:Hs}
theorem bU{x y:Bool}(f:(x&&y)=true):x=true/\y=true:=Bool.and_eq_true_iff.mp f
theorem n5{x y z:Bool}(f:(x&&y&&z)=true):(x=true/\y=true)/\z=true:=⟨bU (bU f).1,(bU f).2⟩
def bf(Φ:Nat->List Val->M Val)(Ψ:Nat->List Val->Pr FV)(ir:IE):Prop:=∀(aa:aH) (env:Env) (A:AP) (h:Hs),Up A h->ER A aa env h->Rel A h (RV A h) (aE Φ ir env h) (aW Ψ ir aa)
def jC(Φ:Nat->List Val->M Val)(Ψ:Nat->List Val->Pr FV)(dR:jz):Prop:=(∀(aa:aH) (env:Env) (A:AP) (h:Hs),Up A h->ER A aa env h->Rel A h (UQ A h) (bg Φ dR env h) (tU Ψ dR aa)) /\
 ∀(aa:aH) (env:Env) (A:AP) (h:Hs),Up A h->ER A aa env h->Rel A h (λds h' vs=>EH A h' ds vs) (bg Φ dR env h) (gg Ψ dR aa)
theorem RV.up{h0 h':Hs}(p:h0<+:h)(r:RV A h x h' v):RV A h0 x h' v:=⟨r.1,λf=>(r.2 f).dH (Fr.le p.length_le)⟩
theorem J2{h0:Hs}(p:h0<+:h)(r:Rel A h (RV A h) o x):Rel A h (RV A h0) o x:=tX r λ_ _ _ _ q=>q.up p
theorem Nl{i:Nat}(e:ER A aa env h):Rel A h (Rc A) (aE Φ (.var i) env h) (pl (iS aa (.var i))):=by
 rw[aE];refine aX λx hx=>?_;simp only[iS]at hx;split at hx
 ·rename_i f d hd
  cases hx;have:=e i f d hd;revert this;generalize rM f=t;intro this;cases t with
  |false=>rw[Wg rfl]at this;obtain⟨a,k2,k3⟩:=this;exact⟨.ref a,by rw[k2],.inr ⟨a,rfl,k3⟩⟩
  |true=>rw[We (by decide)]at this;obtain⟨v,k1,k2⟩:=this;exact⟨v,by rw[k1],.inl k2⟩
 ·cases hx
theorem n6(o:bf Φ Ψ ir)(u:Up A h)(e:ER A aa env h):Rel A h (Rc A) (aE Φ ir env h) (if isVar ir=true then pl (iS aa ir) else aW Ψ ir aa):=by
 by_cases hv:isVar ir=true
 ·rw[Wg hv];cases ir<;>first|(cases hv;done)|exact Nl e
 ·rw[We hv];exact tX (o aa env A h u e) λ_ _ _ _ q=>q.br
theorem EN{α β:Type}{R:α -> Hs -> β -> Prop}{c:Bool}{o:Out β}{p:Pr α}(r:c=true->Rel A h R o p):Rel A h R o (pg c p):=by
 unfold pg;cases c with
 |true=>rw[Wg rfl];exact r rfl
 |false=>rw[We V1];trivial
theorem v_var{i:Nat}:bf Φ Ψ (.var i):=λaa env A h u e=>by
 rw[aE,aW];cases hv:aa[i]? with
 |none=>trivial
 |some o=>
  cases o with
  |none=>trivial
  |some fd=>
   obtain⟨f,d⟩:=fd;refine EN λhf=>?_
   ·have:=e i f d hv;rw[We (by simp[hf])]at this;obtain⟨v,k1,k2⟩:=this;rw[k1];exact⟨v,h,rfl,Wl _,nY k2⟩
theorem EO{α:Type}{f:Hs->Option α}:ask f h=bnd (ask f) (λz=>ret z) h:=by unfold bnd ask aT;cases f h<;>rfl
theorem xA(f:kB d=true):Dn A h d d:=(jV d d f).mpr rfl
theorem Nm(f:kB d=true):bf Φ Ψ (.cst d):=λaa env A h u e=>by rw[aE,aW];exact au (nY (xA f))
theorem Nn(f:kB d=true):bf Φ Ψ (.con x d):=λaa env A h u e=>by rw[aE,aW];exact au (nY (xA f))
theorem Rg:bf Φ Ψ .no:=λaa env A h u e=>by rw[aW];trivial
theorem Np(ha:bf Φ Ψ a)(hb:bf Φ Ψ b):bf Φ Ψ (.bin o a b):=λaa env A h u e=>by
 rw[aE,aW];exact ah (n6 ha u e) λx h1 v p1 q1=>ah (n6 hb (u.ext p1) (e.ext p1)) λy h2 w p2 q2=>EJ ((u.ext p1).ext p2) (p1.trans p2) (DB.ext p2 q1) q2
theorem Nq(ha:bf Φ Ψ a):bf Φ Ψ (.neg a):=λaa env A h u e=>by
 rw[aE,aW];refine ah (ha aa env A h u e) λx h1 v p1 q1=>?_;obtain⟨f,d⟩:=x;have q:=q1.1;cases d<;>dsimp only<;>first|trivial|skip
 dsimp only at q;rw[Dn]at q;subst q;exact au gh
theorem Nr(ha:bf Φ Ψ a)(hb:bf Φ Ψ b):bf Φ Ψ (.cmp o a b):=λaa env A h u e=>by
 rw[aE,aW];exact ah (n6 ha u e) λx h1 v p1 q1=>ah (n6 hb (u.ext p1) (e.ext p1)) λy h2 w p2 q2=>
  ah (R:=λt _ t'=>t'=t) (cM λt et=>⟨t,JX (DB.ext p2 q1) q2 et,rfl⟩) λt h3 t' p3 et=>by subst et;exact au lW
theorem Nt(ha:bf Φ Ψ a)(hb:bf Φ Ψ b)(hc:bf Φ Ψ c):bf Φ Ψ (.chn o o' a b c):=λaa env A h u e=>by rw[aW];trivial
theorem iT(q:Dn A h d v):Rel A h (λt _ t'=>t'=t) (lU v h) (nX d):=by
 cases d<;>first|trivial|skip
 rw[Dn]at q;subst q;exact au rfl
theorem v_and(ha:bf Φ Ψ a)(hb:bf Φ Ψ b):bf Φ Ψ (.and a b):=λaa env A h u e=>by
 rw[aE,aW];refine ah (ha aa env A h u e) λx h1 v p1 q1=>ah (iT q1.1) λt h2 t' p2 et=>?_;subst et;cases t' with
 |true=>rw[Wg rfl,Wg rfl];exact ah (hb aa env A h2 ((u.ext p1).ext p2) ((e.ext p1).ext p2)) λy h3 w p3 q3=>ah (iT q3.1) λt h2 t' p2 et=>by subst et;exact au lW
 |false=>rw[We V1,We V1];exact au lW
theorem v_or(ha:bf Φ Ψ a)(hb:bf Φ Ψ b):bf Φ Ψ (.or a b):=λaa env A h u e=>by
 rw[aE,aW];refine ah (ha aa env A h u e) λx h1 v p1 q1=>ah (iT q1.1) λt h2 t' p2 et=>?_;subst et;cases t' with
 |false=>rw[We V1,We V1];exact ah (hb aa env A h2 ((u.ext p1).ext p2) ((e.ext p1).ext p2)) λy h3 w p3 q3=>ah (iT q3.1) λt h2 t' p2 et=>by subst et;exact au lW
 |true=>rw[Wg rfl,Wg rfl];exact au lW
theorem v_not(ha:bf Φ Ψ a):bf Φ Ψ (.not a):=λaa env A h u e=>by
 rw[aE,aW];exact ah (ha aa env A h u e) λx h1 v p1 q1=>ah (iT q1.1) λt h2 t' p2 et=>by subst et;exact au lW
theorem v_ite(hc:bf Φ Ψ c)(ha:bf Φ Ψ a)(hb:bf Φ Ψ b):bf Φ Ψ (.ite c a b):=λaa env A h u e=>by rw[aW];trivial
theorem GI:jC Φ Ψ .nil:=⟨λaa env A h u e=>by rw[bg,tU];exact au ⟨ak.nil,λ_=>ak.nil⟩,λaa env A h u e=>by rw[bg,gg];exact au rfl⟩
theorem BK(he:bf Φ Ψ e)(hs:jC Φ Ψ es):jC Φ Ψ (.cons e es):=by
 refine⟨λaa env A h u er=>?_,λaa env A h u er=>?_⟩
 ·rw[bg,tU]
  refine ah (he aa env A h u er) λx h1 v p1 q1=>ah (hs.1 aa env A h1 (u.ext p1) (er.ext p1)) λy h2 vs p2 q2=>?_;refine au ⟨ak.cons (q1.1.ext p2) q2.1,λhf=>?_⟩;have hf':x.1=true/\y.1=true:=by simpa using hf
  exact ak.cons ((q1.2 hf'.1).ext p2) ((q2.2 hf'.2).dH (Fr.le p1.length_le))
 ·rw[bg,gg];refine ah (n6 he u er) λx h1 v p1 q1=>ah (hs.2 aa env A h1 (u.ext p1) (er.ext p1)) λy h2 vs p2 q2=>?_;exact au ⟨v,vs,rfl,DB.ext p2 q1,q2⟩
theorem Nu(hs:jC Φ Ψ es):bf Φ Ψ (.tup es):=λaa env A h u e=>by
 rw[aE,aW];refine ah (hs.1 aa env A h u e) λx h1 vs p1 q1=>bD (λz=>by rw[<-q1.1.length];exact z) λ_=>au ⟨?_,λhf=>?_⟩
 ·show Dn A h1 (.tup _) _;rw[Dn];exact⟨vs,rfl,q1.1⟩
 ·show Dn _ h1 (.tup _) _;rw[Dn];exact⟨vs,rfl,q1.2 hf⟩
theorem J6:bf Φ Ψ .dct0:=λaa env A h u e=>by
 rw[aE,aW];refine⟨_,_,rfl,cJ _,?_,λhf=>?_⟩
 ·show Dn A _ (.dc [] []) _;rw[Dn];exact⟨_,[],rfl,u _ (Wb _),gq _,rfl,ak.nil⟩
 ·show Dn _ _ (.dc [] []) _;rw[Dn];exact⟨_,[],rfl,Wb _,gq _,rfl,ak.nil⟩
theorem J7(hk:bf Φ Ψ k)(hv:bf Φ Ψ v):bf Φ Ψ (.dct1 k v):=λaa env A h u e=>by
 rw[aE,aW];refine ah (hk aa env A h u e) λx h1 w p1 q1=>ah (R:=λkk _ kk'=>kk'=kk) (aX λkk ek=>⟨kk,vH q1.1 ek,rfl⟩) λkk h2 kk' p2 hkk=>?_;subst hkk;refine ah (hv aa env A h2 ((u.ext p1).ext p2) ((e.ext p1).ext p2)) λy h3 z p3 q3=>?_;have p:=(p1.trans p2).trans p3;refine⟨_,_,rfl,cJ _,?_,λhf=>?_⟩
 ·show Dn A _ (.dc [kk'] [y.2]) _;rw[Dn];exact⟨_,[(kk',z)],rfl,u _ p.length_le,gq _,rfl,ak.cons (q3.1.ext (cJ _)) ak.nil⟩
 ·show Dn _ _ (.dc [kk'] [y.2]) _;rw[Dn];exact⟨_,[(kk',z)],rfl,p.length_le,gq _,rfl,ak.cons (((q3.2 hf).dH (Fr.le (p1.trans p2).length_le)).ext (cJ _)) ak.nil⟩
theorem J8(hd:bf Φ Ψ d)(hk:bf Φ Ψ k)(hx:bf Φ Ψ x):bf Φ Ψ (.dget d k x):=λaa env A h u e=>by
 rw[aE,aW];refine ah (n6 hd u e) λo h1 v p1 q1=>ah (R:=λ_ _ _=>True) (cM λt et=>⟨t,EG q1 et,trivial⟩) λ_ h2 _ p2 _=>?_;refine ah (hk aa env A h2 ((u.ext p1).ext p2) ((e.ext p1).ext p2)) λi h3 w p3 q3=>ah (R:=λkk _ kk'=>kk'=kk) (aX λkk ek=>⟨kk,vH q3.1 ek,rfl⟩) λkk h4 kk' p4 hkk=>?_;subst hkk;have SN:=((p1.trans p2).trans p3).trans p4;refine ah (hx aa env A h4 (u.ext SN) (e.ext SN)) λz h5 z' p5 q5=>?_;refine ah (R:=λr h' r'=>∀a b,Dn A h5 a b->Dn A h' (r.getD a) (r'.getD b)) (cM λr er=>?_) λr h6 r' p6 hr=>au (nY (hr _ _ q5.1));obtain⟨r',e1,e2⟩:=JZ (DB.ext ((p2.trans p3).trans (p4.trans p5)) q1) er;exact⟨r',e1,e2⟩
theorem ES(hd:bf Φ Ψ d):bf Φ Ψ (.lkeys d):=λaa env A h u e=>by rw[aW];trivial
theorem ET(hd:bf Φ Ψ d):bf Φ Ψ (.skeys d):=λaa env A h u e=>by rw[aW];trivial
theorem tZ:∀{xs:List Val} {ns:List Int},aS xs=some ns->xs=ns.map .int
 |[],ns,e=>by cases e;rfl
 | x::xs,ns,e=>by
  unfold aS at e;rw[bX]at e;obtain⟨i,e1,e⟩:=V0.mp e;obtain⟨r,e2,e⟩:=V0.mp e;cases e;cases x<;>simp at e1;subst e1;rw[tZ e2];rfl
theorem J9{p q:Nat}(hd:bf Φ Ψ d)(hw:bf Φ Ψ w):bf Φ Ψ (.dflt N' js p q d w):=λaa env A h u e=>by rw[aW];trivial
theorem Nv(ha:bf Φ Ψ a):bf Φ Ψ (.isc a x bs):=λaa env A h u e=>by rw[aW];trivial
theorem Ka(ha:bf Φ Ψ a):bf Φ Ψ (.sset a):=λaa env A h u e=>by
 rw[aE,aW];refine ah (n6 ha u e) λx h1 v p1 q1=>?_;obtain⟨f,d⟩:=x;cases d<;>first|trivial|skip
 rename_i xs;obtain⟨vs,e1,e2⟩:=DB.lst q1;have ea:∀(F:List Val->M Val),bnd (ask λh=>ay h v) F h1=F vs h1:=λF=>by unfold bnd ask aT;dsimp only;rw[e1]
 rw[ea];show Rel A h1 _ _ (pb (pl (aS xs)) _);refine ah (R:=λns h' ns'=>ns'=ns) (aX λns en=>⟨ns,?_,rfl⟩) λns h2 ns' p2 en=>?_
 ·have ei:=tZ en;subst ei;rw[(bC _ _ (bO ns)).mp e2];exact en
 ·subst en;refine bD (λz=>z) λ_=>?_;have hi:∀ms:List Int,ak A h2 (ms.map Val.int) (ms.map Val.int):=λms=>(bC _ _ (bO ms)).mpr rfl;exact gW ((u.ext p1).ext p2) (p1.trans p2) (hi _) λ_=>(bC _ _ (bO _)).mpr rfl
theorem Nx(hs:jC Φ Ψ es):bf Φ Ψ (.lst es):=λaa env A h u e=>by
 rw[aE,aW];exact ah (hs.1 aa env A h u e) λx h1 vs p1 q1=>bD (λz=>by rw[<-q1.1.length];exact z) λ_=>gW (u.ext p1) p1 q1.1 q1.2
theorem Ny(ha:bf Φ Ψ a)(hb:bf Φ Ψ b):bf Φ Ψ (.idx a b):=λaa env A h u e=>by
 rw[aE,aW];refine ah (n6 ha u e) λx h1 v p1 q1=>ah (hb aa env A h1 (u.ext p1) (e.ext p1)) λy h2 w p2 q2=>?_;rw[EO];exact ah (R:=λz h' z'=>Dn A h' z z') (cM λz ez=>J0 (DB.ext p2 q1) q2.1 ez) λz h3 z' p3 q3=>au (nY q3)
theorem kF(o:bf Φ Ψ ir)(u:Up A h)(e:ER A aa env h) :
  Rel A h (λ(t:Option Int) _ t'=>t'=t) ((if cH ir=true then ret none else bnd (aE Φ ir env) λv=>bnd (aT (iO v)) λi=>ret (some i)) h) (if cH ir=true then .ok none else pb (aW Ψ ir aa) λv=>pb (pl (iO v.2)) λi=>.ok (some i)):=by
 by_cases hn:cH ir=true
 ·rw[Wg hn,Wg hn];exact au rfl
 ·rw[We hn,We hn]
  refine ah (o aa env A h u e) λx h1 v p1 q1=>ah (R:=λt _ t'=>t'=t) (aX λi ei=>?_) λt h2 t' p2 et=>by subst et;exact au rfl
  obtain⟨f,d⟩:=x;have q:=q1.1;cases d<;>first|(cases ei;done)|skip
  dsimp only at q;rw[Dn]at q;subst q;exact⟨i,ei,rfl⟩
theorem Nz(ha:bf Φ Ψ a)(hl:bf Φ Ψ lo)(hh:bf Φ Ψ hi):bf Φ Ψ (.slc a lo hi):=λaa env A h u e=>by
 rw[aE,aW];refine ah (n6 ha u e) λx h1 v p1 q1=>ah (kF hl (u.ext p1) (e.ext p1)) λl h2 l' p2 el=>ah (kF hh ((u.ext p1).ext p2) ((e.ext p1).ext p2)) λr h3 r' p3 er=>?_;subst el;subst er;exact EK (((u.ext p1).ext p2).ext p3) ((p1.trans p2).trans p3) (DB.ext (p2.trans p3) q1)
theorem NB(ha:bf Φ Ψ a)(hs:bf Φ Ψ sx):bf Φ Ψ (.rev a sx):=λaa env A h u e=>by rw[aW];trivial
theorem Kc{j:Nat}(hΦ:∀j,Imp (Φ j) (Ψ j))(hs:jC Φ Ψ es):bf Φ Ψ (.call j es):=λaa env A h u e=>by
 rw[aE,aW];exact ah (hs.1 aa env A h u e) λx h1 vs p1 q1=>J2 p1 (hΦ j A h1 x.2 vs (u.ext p1) q1.1)
theorem NC{n:Nat}(ha:bf Φ Ψ a):bf Φ Ψ (.fld n a x):=λaa env A h u e=>by rw[aW];trivial
theorem ND(hΦ:∀j,Imp (Φ j) (Ψ j))(ha:bf Φ Ψ a)(hs:jC Φ Ψ es):bf Φ Ψ (.mth a m js es):=λaa env A h u e=>by rw[aW];trivial
theorem NF(hs:jC Φ Ψ es):bf Φ Ψ (.blt b es):=λaa env A h u e=>by
 rw[aE,aW];exact ah (hs.2 aa env A h u e) λx h1 vs p1 q1=>EM (u.ext p1) p1 q1
theorem NG(ha:bf Φ Ψ a)(hs:jC Φ Ψ es):bf Φ Ψ (.met m a es):=λaa env A h u e=>by
 cases m with
 |join=>rw[aW];trivial
 |_=>rw[aW]<;>first|trivial|(intro z;cases z)
def SrcR(A:AP)(h:Hs)(xs:List Val)(src:Src):Prop:=∃ws,ak A h xs ws/\∀h',h<+:h'->src.items h'=some ws
theorem gr{lo:Int}{n:Nat}:ak A h (bQ lo n) (bQ lo n):=by
 unfold bQ;generalize List.range n=l
 induction l with
 |nil=>exact ak.nil
 |cons a l ih=>exact ak.cons (by rw[Dn]) ih
theorem eE:∀{xs ws:List Val} (i:Nat),ak A h xs ws->ak A h (bJ i xs) (bJ i ws)
 |[],ws,i,q=>by rw[ak]at q;subst q;exact ak.nil
 | x::xs,ws,i,q=>by
  rw[ak]at q;obtain⟨w,r,rfl,a,b⟩:=q;exact ak.cons (by rw[Dn];exact⟨_,rfl,ak.cons (by rw[Dn]) (ak.cons a ak.nil)⟩) (eE (i+1) b)
theorem xB{ds vs:List Val}(a:DB A h (.rl ds) v):∃ws,ak A h ds ws/\((v=.rl ws)\/∃i,v=.ref i/\∀h',h<+:h'->ay h' (.ref i)=some ws):=by
 rcases a with a|⟨i,rfl,vs,g,q⟩
 ·rw[Dn]at a
  rcases a with ⟨vs,rfl,_,q⟩|⟨i,vs,rfl,_,g,q⟩
  ·exact⟨vs,q,.inl rfl⟩
  ·exact⟨vs,q,.inr ⟨i,rfl,λh' p=>by simp[ay,cN p g]⟩⟩
 ·exact⟨vs,q,.inr ⟨i,rfl,λh' p=>by simp[ay,cN p g]⟩⟩
theorem xC(a:EH A h ds vs):Rel A h (λxs h' src=>SrcR A h' xs src) (aT (srcOf k vs) h) (pl (BC k ds)):=by
 refine aX λxs e=>?_;cases k with
 |seq=>
  match ds,e with
  |[.tup es],e=>cases e;obtain⟨v,rfl,hv⟩:=a.one;obtain⟨ws,rfl,q⟩:=hv.tup;exact⟨.fix ws,rfl,ws,q,λ_ _=>rfl⟩
  |[.rl es],e=>
   cases e;obtain⟨v,rfl,hv⟩:=a.one;obtain⟨ws,q,rfl|⟨i,rfl,g⟩⟩:=xB (vs:=[]) hv
   ·exact⟨.fix ws,rfl,ws,q,λ_ _=>rfl⟩
   ·exact⟨.live i,rfl,ws,q,λh' p=>g h' p⟩
 |range=>
  match ds,e with
  |[.int n],e=>
   obtain⟨v,rfl,hv⟩:=a.one;have:=hv.int;subst this;change (if inR n=true then some (bQ 0 n.toNat) else none)=some _ at e;split at e
   ·rename_i hn;cases e;exact⟨.fix _,Wg hn,_,gr,λ_ _=>rfl⟩
   ·cases e
  |[.int n,.int m],e=>
   obtain⟨v,r,rfl,hv,hr⟩:=a;obtain⟨w,rfl,hw⟩:=EH.one hr;have:=hv.int;subst this;have:=hw.int;subst this;change (if (inR n&&inR m)=true then some (bQ n (m-n).toNat) else none)=some _ at e;split at e
   ·rename_i hn;cases e;exact⟨.fix _,Wg hn,_,gr,λ_ _=>rfl⟩
   ·cases e
 |enum=>
  match ds,e with
  |[.rl es],e=>
   cases e;obtain⟨v,rfl,hv⟩:=a.one;obtain⟨ws,q,rfl|⟨i,rfl,g⟩⟩:=xB (vs:=[]) hv
   ·exact⟨.fix _,rfl,_,eE 0 q,λ_ _=>rfl⟩
   ·exact⟨.enum i,rfl,_,eE 0 q,λh' p=>by simp[Src.items,g h' p]⟩
 |zip=>cases e
theorem xD:∀{is:List Nat} {ds vs:List Val} {aa aj:aH} {env:Env},aY is ds aa=some aj->ak A h ds vs->ER A aa env h->(∀i∈is,i<aa.length->i<env.length)->∃env',bindAll is vs env=some env'/\ER A aj env' h
 | [],[],vs,aa,aj,env,e,q,er,_=>by
  rw[ak]at q;subst q;simp only[aY]at e;cases e;exact⟨env,rfl,er⟩
 | i::is,d::ds,vs,aa,aj,env,e,q,er,hl=>by
  rw[ak]at q;obtain⟨v,r,rfl,q1,q2⟩:=q;simp only[aY]at e;have US:ER A (aa.set i (some (.sh,d))) (env.set i (some v)) h:=λj f d' hj=>by
   by_cases hij:i=j
   ·subst hij
    have hi:i<aa.length:=by have:=(V4.mp hj).1;simpa using this
    rw[Wh hi]at hj;cases hj;rw[We (by decide)];exact⟨v,by rw[Wh (hl i V8 hi)],q1⟩
   ·rw[V7 hij]at hj;rw[V7 hij];exact er j f d' hj
  simp only[bindAll];exact xD e q2 US λj hj hl'=>by simpa using hl j (V5 _ hj) (by simpa using hl')
 |[],_::_,_,_,_,_,e,_,_,_=>by simp[aY]at e
 |_::_,[],_,_,_,_,e,_,_,_=>by simp[aY]at e
theorem t6(e:eB p d aa=some aj)(q:Dn A h d v)(er:ER A aa env h)(hl:aa.length<=env.length):∃env',fB p v env=some env'/\ER A aj env' h:=by
 cases p with
 |one i=>
  simp only[eB]at e;cases e;refine⟨_,rfl,λj f d' hj=>?_⟩
  by_cases hij:i=j
  ·subst hij
   have hi:i<aa.length:=by have:=(V4.mp hj).1;simpa using this
   rw[Wh hi]at hj;cases hj;rw[We (by decide)];exact⟨v,by rw[Wh (by omega)],q⟩
  ·rw[V7 hij]at hj;rw[V7 hij];exact er j f d' hj
 |tup is=>
  cases d<;>simp only[eB]at e<;>first|(cases e;done)|skip
  rw[Dn]at q;obtain⟨vs,rfl,q⟩:=q;exact xD e q er λi _ hi=>by omega
theorem xE(e:ER A aa env h):ER A (iz js aa) (iN js env) h:=λi f d q=>by
 unfold iz at q;rw[Ws]at q;cases hj:js[i]? with
 |none=>rw[hj]at q;cases q
 |some o=>
  rw[hj]at q;simp only[map_some]at q;cases o with
  |none=>cases q
  |some j=>
   dsimp only at q;cases ej:aa[j]? with
   |none=>rw[ej]at q;cases q
   |some w=>
    cases w with
    |none=>rw[ej]at q;cases q
    |some fd=>
     rw[ej]at q;cases q;have:=e j f d ej;revert this;generalize rM f=t;intro this;cases t with
     |false=>rw[Wg rfl]at this |-;obtain⟨a,k2,k3⟩:=this;refine⟨a,?_,k3⟩;unfold iN;rw[Ws,hj];simp only[map_some];rw[k2]
     |true=>rw[We (by decide)]at this |-;obtain⟨v,k1,k2⟩:=this;refine⟨v,?_,k2⟩;unfold iN;rw[Ws,hj];simp only[map_some];rw[k1]
theorem n8 :
  ∀(xs:List Val) (vs:List Val) (i:Nat) (acc:List Val) (h:Hs),hb<+:h->Up A h->(∀h',h<+:h'->src.items h'=some ws)->ws.drop i=vs->ak A h xs vs ->
   (∀x v h',h<+:h'->Dn A h' x v->Rel A h' (λo h'' o'=>match o,o' with|some e,some e'=>RV A hb e h'' e'|none,none=>True|_,_=>False) (f v h') (g x)) ->
   Rel A h (λp h' ys=>∃zs,ys=acc++zs/\ak A h' p.2 zs/\(p.1=true->ak (Fr hb.length) h' p.2 zs)) (eu src f vs.length i acc h) (iA g xs)
 | [],vs,i,acc,h,SO,u,hi,hd,q,hf=>by
  rw[ak]at q;subst q;have hl:ws.length<=i:=Yn.mp hd;have ev:eu src f ([]:List Val).length i acc h=.ok acc h:=by show eu src f 0 i acc h=_;simp only[eu];unfold bnd ask aT aK;dsimp only;rw[hi h (Wl _)];dsimp only;rw[Wg (decide_eq_true hl)];rfl
  rw[ev,iA];exact⟨acc,h,rfl,Wl _,[],by simp,ak.nil,λ_=>ak.nil⟩
 | x::xs,vs,i,acc,h,SO,u,hi,hd,q,hf=>by
  rw[ak]at q;obtain⟨v,r,rfl,q1,q2⟩:=q;have hv:ws[i]?=some v:=by have:=Xb (λl=>l[0]?) hd;simpa using this
  have hr:ws.drop (i+1)=r:=by
   have:ws.drop (i+1)=(ws.drop i).drop 1:=by rw[YS]
   rw[this,hd];rfl
  have ev:eu src f (v::r).length i acc h=bnd (f v) (λo=>eu src f r.length (i+1) (match o with|some e=>acc++[e]|none=>acc)) h:=by show eu src f (r.length+1) i acc h=_;simp only[eu];unfold bnd ask aT;dsimp only;rw[hi h (Wl _)];dsimp only;rw[hv];try rfl
  rw[ev,iA];refine ah (hf x v h (Wl _) q1) λo h1 o' p1 ho=>?_;have ih:=λacc'=>n8 xs r (i+1) acc' h1 (SO.trans p1) (u.ext p1) (λh' p=>hi h' (p1.trans p)) hr (q2.ext p1) λx v h' p=>hf x v h' (p1.trans p);cases o' with
  |some e'=>
   cases o with
   |none=>exact ho.elim
   |some e=>
    have ih:=ih (acc++[e']);cases e2:iA g xs with
    |ok p=>
     rw[e2]at ih;obtain⟨ys,h2,e3,p2,zs,rfl,z1,z2⟩:=ih;refine⟨_,h2,e3,p2,e'::zs,by simp,ak.cons (ho.1.ext p2) z1,λhp=>?_⟩;have NH:e.1=true/\p.1=true:=by simpa using hp
     exact ak.cons ((ho.2 NH.1).ext p2) (z2 NH.2)
    |exc c es=>rw[e2]at ih;exact ih
    |no=>trivial
  |none=>
   cases o with
   |some e'=>exact ho.elim
   |none=>
    have ih:=ih acc;cases e2:iA g xs with
    |ok p=>rw[e2]at ih;obtain⟨ys,h2,e3,p2,zs,rfl,z1,z2⟩:=ih;exact⟨_,h2,e3,p2,zs,rfl,z1,z2⟩
    |exc c es=>rw[e2]at ih;exact ih
    |no=>trivial
theorem t7{α β:Type}{R:α -> Hs -> β -> Prop}{m:M β}{p:Pr α}(r:Rel A h R (m h) p):Rel A h R (calm m h) (BD p):=by
 cases p with
 |ok a=>obtain⟨b,h1,e,q⟩:=r;unfold calm;rw[e];exact⟨b,h1,rfl,q⟩
 |exc c es=>trivial
 |no=>trivial
theorem EU{c:Nat}:Imp (vv c g) (Nj c g):=λA h ds vs u q=>by
 have l:=q.length
 match ds,vs,l,q with
 |[],_,_,_=>trivial
 |a::b::r,_,_,_=>cases a<;>trivial
 |[d],[v],_,q=>
  cases d with
  |int i=>
   have e:v=.int i:=by obtain⟨y,r,z,q2,_⟩:=q;cases z;rw[Dn]at q2;exact q2
   subst e;have d1:Dn A h (.str g) (.str g):=by rw[Dn]
   have d2:Dn A h (.int i) (.int i):=by rw[Dn]
   exact⟨[.str g,.int i],h,rfl,Wl _,⟨_,_,rfl,d1,⟨_,_,rfl,d2,rfl⟩⟩⟩
  |_=>trivial
theorem Kd(hs:jC Φ Ψ it)(hc:bf Φ Ψ c)(he:bf Φ Ψ elt):bf Φ Ψ (.comp N js pat k it c elt):=λaa env A h u e=>by
 rw[aE,aW];refine t7 ?_;refine ah (hs.2 aa env A h u e) λds h1 vs p1 q1=>ah (xC q1) λxs h2 src p2 q2=>?_;obtain⟨ws,q3,q4⟩:=q2;have l:=q3.length;have ev:∀(F:List Val->M Val),bnd (ask λh=>src.items h) F h2=F ws h2:=λF=>by unfold bnd ask aT;dsimp only;rw[q4 h2 (Wl _)]
 rw[ev];refine bD (λz=>by rw[<-l];exact z) λ_=>?_;have u2:=(u.ext p1).ext p2;have e2:=(e.ext p1).ext p2;refine ah (n8 (hb:=h) xs ws 0 [] h2 (p1.trans p2) u2 q4 rfl q3 λx v h' p' qx=>?_) λp h3 ys p3 hp=>?_
 ·refine ah (R:=λaj _ env'=>∃_:ER A aj env' h',True) (aX λaj ev'=>?_) λaj h4 env' p4 he'=>?_
  ·obtain⟨env',a1,a2⟩:=t6 ev' qx (xE (e2.ext p')) (by simp[iz,iN]);exact⟨env',a1,a2,trivial⟩
  ·obtain⟨er,_⟩:=he'
   have er:=er.ext p4;have u4:=(u2.ext p').ext p4;have Ng:Rel A h4 (λt _ t'=>t'=t) ((if cH c=true then ret true else bnd (aE Φ c env') λv=>ask λh=>cG h v) h4) (if cH c=true then .ok true else pb (aW Ψ c aj) λv=>pl (cG [] v.2)):=by
    by_cases hn:cH c=true
    ·rw[Wg hn,Wg hn];exact au rfl
    ·rw[We hn,We hn];exact ah (hc aj env' A h4 u4 er) λy h5 w p5 q5=>cM λt et=>⟨t,rA q5.br et,rfl⟩
   refine ah Ng λt h5 t' p5 et=>?_;subst et;cases t' with
   |true=>rw[Wg rfl,Wg rfl];exact ah (he aj env' A h5 (u4.ext p5) (er.ext p5)) λy h6 w p6 q6=>au (q6.up ((p1.trans p2).trans (p'.trans (p4.trans p5))))
   |false=>rw[We V1,We V1];exact au trivial
 ·obtain⟨zs,rfl,z1,z2⟩:=hp;exact gW (u2.ext p3) ((p1.trans p2).trans p3) z1 z2
mutual
noncomputable def cD:IE->Bool
 |.cst d=>kB d
 |.con _ d=>kB d
 |.bin _ a b=>cD a&&cD b
 |.neg a=>cD a
 |.cmp _ a b=>cD a&&cD b
 |.chn _ _ a b c=>cD a&&cD b&&cD c
 |.and a b=>cD a&&cD b
 |.or a b=>cD a&&cD b
 |.not a=>cD a
 |.ite a b c=>cD a&&cD b&&cD c
 |.tup es=>kG es
 |.lst es=>kG es
 |.idx a b=>cD a&&cD b
 |.slc a b c=>cD a&&cD b&&cD c
 |.call _ es=>kG es
 |.blt _ es=>kG es
 |.met _ a es=>cD a&&kG es
 |.comp _ _ _ _ es a b=>kG es&&cD a&&cD b
 |.var _=>true
 |.no=>true
 |.dct0=>true
 |.sset a=>cD a
 |.dget a b c=>cD a&&cD b&&cD c
 |.dct1 a b=>cD a&&cD b
 |.lkeys a=>cD a
 |.sdef ..=>false
 |.svals _=>false
 |.skeys a=>cD a
 |.fld _ a _=>cD a
 |.mth a _ _ es=>cD a&&kG es
 |.rev a b=>cD a&&cD b
 |.dflt _ _ _ _ a b=>cD a&&cD b
 |.isc a _ _=>cD a
noncomputable def kG:jz->Bool
 |.nil=>true
 |.cons e es=>cD e&&kG es
end
theorem v_all(hΦ:∀j,Imp (Φ j) (Ψ j)):(∀ir,cD ir=true->bf Φ Ψ ir)/\∀dR,kG dR=true->jC Φ Ψ dR:=by
 have one:∀ir,cD ir=true->bf Φ Ψ ir:=by
  intro ir;refine IE.rec (motive_1:=λir=>cD ir=true->bf Φ Ψ ir) (motive_2:=λdR=>kG dR=true->jC Φ Ψ dR) ?_ ?_ ?_ ?_ ?_ ?_ ?_ ?_ ?_ ?_ ?_ ?_ ?_ ?_ ?_ ?_ ?_ ?_ ?_ ?_ ?_ ?_ ?_ ?_ ?_ ?_ ?_ ?_ ?_ ?_ ?_ ?_ ?_ ?_ ?_ ir
  ·exact λ_ _=>v_var
  ·exact λ_ f=>Nm f
  ·exact λ_ _ f=>Nn f
  ·exact λ_=>Rg
  ·intro _ _ _ a b f;have f:=bU f;exact Np (a f.1) (b f.2)
  ·intro _ a f;exact Nq (a f)
  ·intro _ _ _ a b f;have f:=bU f;exact Nr (a f.1) (b f.2)
  ·intro _ _ _ _ _ a b c f;have f:=n5 f;exact Nt (a f.1.1) (b f.1.2) (c f.2)
  ·intro _ _ a b f;have f:=bU f;exact v_and (a f.1) (b f.2)
  ·intro _ _ a b f;have f:=bU f;exact v_or (a f.1) (b f.2)
  ·intro _ a f;exact v_not (a f)
  ·intro _ _ _ a b c f;have f:=n5 f;exact v_ite (a f.1.1) (b f.1.2) (c f.2)
  ·intro _ a f;exact Nu (a f)
  ·intro _ a f;exact Nx (a f)
  ·intro _ _ a b f;have f:=bU f;exact Ny (a f.1) (b f.2)
  ·intro _ _ _ a b c f;have f:=n5 f;exact Nz (a f.1.1) (b f.1.2) (c f.2)
  ·intro _ _ a f;exact Kc hΦ (a f)
  ·intro _ _ a f;exact NF (a f)
  ·intro _ _ _ a b f;have f:=bU f;exact NG (a f.1) (b f.2)
  ·intro _ _ _ _ _ _ _ a b c f;have f:=n5 f;exact Kd (a f.1.1) (b f.1.2) (c f.2)
  ·exact λ_=>J6
  ·intro _ a f;exact Ka (a f)
  ·intro _ _ _ a b c f;have f:=n5 f;exact J8 (a f.1.1) (b f.1.2) (c f.2)
  ·intro _ _ a b f;have f:=bU f;exact J7 (a f.1) (b f.2)
  ·intro _ a f;exact ES (a f)
  ·intro _ _ _ _ _ _ f;exact nomatch (show false=true from f)
  ·intro _ _ f;exact nomatch (show false=true from f)
  ·intro _ a f;exact ET (a f)
  ·intro _ _ _ a f;exact NC (a f)
  ·intro _ _ _ _ a b f;have f:=bU f;exact ND hΦ (a f.1) (b f.2)
  ·intro _ _ a b f;have f:=bU f;exact NB (a f.1) (b f.2)
  ·intro _ _ _ _ _ _ a b f;have f:=bU f;exact J9 (a f.1) (b f.2)
  ·intro _ _ _ a f;exact Nv (a f)
  ·exact λ_=>GI
  ·intro _ _ a b f;have f:=bU f;exact BK (a f.1) (b f.2)
 refine⟨one,λdR=>?_⟩
 induction dR using jz.rec (motive_1:=λ_=>True) with
 |nil=>exact λ_=>GI
 |cons e es _ ih=>exact λf=>by have f:=bU f;exact BK (one e f.1) (ih f.2)
 |_=>trivial
end
section
variable {A A':AP} {h h':Hs}
mutual
theorem Dn.move(hn:A none->A' none)(hh:∀(i:Nat) (o:Ob),A (some i)->h[i]?=some o->A' (some i)/\h'[i]?=some o):∀(d v:Val),Dn A h d v->Dn A' h' d v
 |.non,v,e=>by rw[Dn]at e |-;exact e
 |.bl _,v,e=>by rw[Dn]at e |-;exact e
 |.int _,v,e=>by rw[Dn]at e |-;exact e
 |.str _,v,e=>by rw[Dn]at e |-;exact e
 | .tup ds,v,e=>by
  rw[Dn]at e |-;obtain⟨vs,rfl,q⟩:=e;exact⟨vs,rfl,ak.move hn hh ds vs q⟩
 | .rl ds,v,e=>by
  rw[Dn]at e |-
  rcases e with ⟨vs,rfl,n,q⟩|⟨i,vs,rfl,a,g,q⟩
  ·exact .inl ⟨vs,rfl,hn n,ak.move hn hh ds vs q⟩
  ·exact .inr ⟨i,vs,rfl,(hh i _ a g).1,(hh i _ a g).2,ak.move hn hh ds vs q⟩
 | .dc ks ds,v,e=>by
  rw[Dn]at e |-;obtain⟨i,kvs,rfl,a,g,k,q⟩:=e;exact⟨i,kvs,rfl,(hh i _ a g).1,(hh i _ a g).2,k,ak.move hn hh ds _ q⟩
 | .ob c xs ds,v,e=>by
  rw[Dn]at e |-;obtain⟨i,kvs,rfl,a,g,k,q⟩:=e;exact⟨i,kvs,rfl,(hh i _ a g).1,(hh i _ a g).2,k,ak.move hn hh ds _ q⟩
 |.ref _,v,e=>by rw[Dn]at e;exact e.elim
theorem ak.move(hn:A none->A' none)(hh:∀(i:Nat) (o:Ob),A (some i)->h[i]?=some o->A' (some i)/\h'[i]?=some o):∀(ds vs:List Val),ak A h ds vs->ak A' h' ds vs
 |[],vs,e=>by rw[ak]at e |-;exact e
 | d::ds,vs,e=>by
  rw[ak]at e |-;obtain⟨v,r,rfl,q1,q2⟩:=e;exact⟨v,r,rfl,Dn.move hn hh d v q1,ak.move hn hh ds r q2⟩
end
end
def Al(A0:AP)(O:Nat->Option Nat):AP:=λo=>A0 o/\∀i,o.isSome=true->O i≠o
structure SR (A0:AP) (h0:Hs) (aa:aH) (env:Env) (h:Hs) (O:Nat->Option Nat):Prop where
 len:aa.length=env.length
 sh:∀(i:Nat) (m:Mk) (d:Val),aa[i]?=some (some (m,d))->rM m=true->∃v,env[i]?=some (some v)/\Dn (Al A0 O) h d v/\(LH m=true->Dn (Al (Fr h0.length) O) h d v)
 ow:∀(i:Nat) (d:Val),aa[i]?=some (some (.ow,d))->∃a,env[i]?=some (some (.ref a))/\O i=some a/\OD (Al A0 O) h d a
 own:∀i a,O i=some a->h0.length<=a/\a<h.length/\∃d,aa[i]?=some (some (.ow,d))
 inj:∀i j a,O i=some a->O j=some a->i=j
 pre:h0<+:h
 up:Up A0 h0
structure Fm (m:List Nat) (aa:aH) (env:Env) (h:Hs) (O:Nat->Option Nat) (aj:aH) (env':Env) (h':Hs) (O':Nat->Option Nat):Prop where
 le:h.length<=h'.length
 keep:∀k,k<h.length->(∀i,O i≠some k)->h'[k]?=h[k]?/\∀i,O' i≠some k
 stay:∀i,i∉m->O' i=O i/\aj[i]?=aa[i]?/\env'[i]?=env[i]?/\∀a,O i=some a->h'[a]?=h[a]?
def RF(A0:AP)(h0:Hs)(m:List Nat)(aa:aH)(env:Env)(h:Hs)(O:Nat->Option Nat):vG->Hs->Fl->Prop
 |.nx aj,h',.nx env'=>∃O',SR A0 h0 aj env' h' O'/\Fm m aa env h O aj env' h' O'
 |.bk aj,h',.bk env'=>∃O',SR A0 h0 aj env' h' O'/\Fm m aa env h O aj env' h' O'
 |.ct aj,h',.ct env'=>∃O',SR A0 h0 aj env' h' O'/\Fm m aa env h O aj env' h' O'
 |.rt p,h',.rt v=>Dn A0 h' p.2 v/\(p.1=true->Dn (Fr h0.length) h' p.2 v)/\h0<+:h'
 |_,_,_=>False
def fO(A0:AP)(h0:Hs){α β:Type}(R:α -> Hs -> β -> Prop)(o:Out β):Pr α -> Prop
 |.ok f=>∃g h',o=.ok g h'/\R f h' g
 |.exc c es=>∃ws h',o=.exc c ws h'/\h0<+:h'/\ak A0 h' es ws
 |.no=>True
section
variable {A0:AP} {h0:Hs} {aa:aH} {env:Env} {h h1:Hs} {O:Nat->Option Nat} {m:List Nat}
theorem SR.er(s:SR A0 h0 aa env h O):ER (Al A0 O) aa env h:=λi f d e=>by
 cases f with
 |ow=>rw[Wg (show rM .ow=false by decide)];obtain⟨a,k2,_,k3⟩:=s.ow i d e;exact⟨a,k2,k3⟩
 |sh=>rw[We (by decide)];obtain⟨v,k1,k2,_⟩:=s.sh i _ d e rfl;exact⟨v,k1,k2⟩
 |nw=>rw[We (by decide)];obtain⟨v,k1,k2,_⟩:=s.sh i _ d e rfl;exact⟨v,k1,k2⟩
theorem SR.xF(s:SR A0 h0 aa env h O):Up (Al A0 O) h:=λk hk=>⟨s.up k (Wx s.pre.length_le hk),λi _ e=>by have:=(s.own i k e).2.1;omega⟩
theorem SR.ext(s:SR A0 h0 aa env h O)(p:h<+:h1):SR A0 h0 aa env h1 O where
 len:=s.len
 sh i m d e hm:=by obtain⟨v,k1,k2,k3⟩:=s.sh i m d e hm;exact⟨v,k1,k2.ext p,λz=>(k3 z).ext p⟩
 ow i d e:=by obtain⟨a,k2,k3,k4⟩:=s.ow i d e;exact⟨a,k2,k3,k4.ext p⟩
 own i a e:=by obtain⟨k1,k2,k3⟩:=s.own i a e;exact⟨k1,Wc k2 p.length_le,k3⟩
 inj:=s.inj
 pre:=s.pre.trans p
 up:=s.up
theorem gu(p:h<+:h1){k:Nat}(hk:k<h.length):h1[k]?=h[k]?:=by
 obtain⟨t,rfl⟩:=p;rw[Wi hk]
theorem Fm.refl(s:SR A0 h0 aa env h O)(p:h<+:h1):Fm m aa env h O aa env h1 O where
 le:=p.length_le
 keep k hk n:=⟨gu p hk,n⟩
 stay i _:=⟨rfl,rfl,rfl,λa e=>gu p (s.own i a e).2.1⟩
theorem Fm.trans{kH gx:aH}{rD gc:Env}{h2:Hs}{O1 O2:Nat->Option Nat}(a:Fm m aa env h O kH rD h1 O1)(b:Fm m kH rD h1 O1 gx gc h2 O2):Fm m aa env h O gx gc h2 O2 where
 le:=Wx a.le b.le
 keep k hk n:=by obtain⟨a1,a2⟩:=a.keep k hk n;obtain⟨b1,b2⟩:=b.keep k (Wc hk a.le) a2;exact⟨b1.trans a1,b2⟩
 stay i hi:=by obtain⟨a1,a2,a3,a4⟩:=a.stay i hi;obtain⟨b1,b2,b3,b4⟩:=b.stay i hi;exact⟨b1.trans a1,b2.trans a2,b3.trans a3,λc e=>(b4 c (a1.trans e)).trans (a4 c e)⟩
theorem Fm.dH{m':List Nat}(hm:∀i∈m,i∈m')(a:Fm m aa env h O aj env' h1 O'):Fm m' aa env h O aj env' h1 O':=⟨a.le,a.keep,λi hi=>a.stay i λz=>hi (hm i z)⟩
theorem RF.pre(s:SR A0 h0 aa env h O)(p:h<+:h1)(r:RF A0 h0 m aa env h1 O f h' g):RF A0 h0 m aa env h O f h' g:=by
 cases f<;>cases g<;>first|exact r.elim|exact r|(obtain⟨O',a,b⟩:=r;exact⟨O',a,(Fm.refl s p).trans b⟩)
theorem RF.dH{m':List Nat}(hm:∀i∈m,i∈m')(r:RF A0 h0 m aa env h O f h' g):RF A0 h0 m' aa env h O f h' g:=by
 cases f<;>cases g<;>first|exact r.elim|exact r|(obtain⟨O',a,b⟩:=r;exact⟨O',a,b.dH hm⟩)
theorem RF.seq{kH:aH}{rD:Env}{O1:Nat->Option Nat}(a:Fm m aa env h O kH rD h1 O1)(r:RF A0 h0 m kH rD h1 O1 f h' g):RF A0 h0 m aa env h O f h' g:=by
 cases f<;>cases g<;>first|exact r.elim|exact r|(obtain⟨O',b,c⟩:=r;exact⟨O',b,a.trans c⟩)
theorem bh{α β γ δ:Type}{R:α -> Hs -> β -> Prop}{R':γ -> Hs -> δ -> Prop}{mm:M β}{f:β -> M δ}{p:Pr α}{F:α -> Pr γ}(s:SR A0 h0 aa env h O)(r:Rel (Al A0 O) h R (mm h) p)(k:∀a h1 b,h<+:h1->R a h1 b->fO A0 h0 R' (f b h1) (F a)):fO A0 h0 R' (bnd mm f h) (pb p F):=by
 unfold bnd;cases p with
 |ok a=>obtain⟨b,h1,e,q,r⟩:=r;rw[e];exact k a h1 b q r
 |exc c es=>obtain⟨ws,h1,e,q,r⟩:=r;rw[e];exact⟨ws,h1,rfl,s.pre.trans q,r.dH λ_ z=>z.1⟩
 |no=>trivial
theorem aZ{α β:Type}{R:α -> Hs -> β -> Prop}{a:α}{b:β}(r:R a h b):fO A0 h0 R (ret b h) (.ok a):=⟨b,h,rfl,r⟩
theorem gy{α β:Type}{R R':α -> Hs -> β -> Prop}{o:Out β}{p:Pr α}(r:fO A0 h0 R o p)(k:∀a h' b,R a h' b->R' a h' b):fO A0 h0 R' o p:=by
 cases p with
 |ok a=>obtain⟨b,h',e,r⟩:=r;exact⟨b,h',e,k a h' b r⟩
 |exc c es=>exact r
 |no=>trivial
theorem n9{α β γ δ:Type}{R:α -> Hs -> β -> Prop}{R':γ -> Hs -> δ -> Prop}{mm:M β}{f:β -> M δ}{p:Pr α}{F:α -> Pr γ}(r:fO A0 h0 R (mm h) p)(k:∀a h1 b,R a h1 b->fO A0 h0 R' (f b h1) (F a)):fO A0 h0 R' (bnd mm f h) (pb p F):=by
 unfold bnd;cases p with
 |ok a=>obtain⟨b,h1,e,r⟩:=r;rw[e];exact k a h1 b r
 |exc c es=>obtain⟨ws,h1,e,q,r⟩:=r;rw[e];exact⟨ws,h1,rfl,q,r⟩
 |no=>trivial
theorem jw{α β:Type}{R:α -> Hs -> β -> Prop}{c:Bool}{o:Out β}{p:Pr α}(r:c=true->fO A0 h0 R o p):fO A0 h0 R o (pg c p):=by
 unfold pg;cases c with
 |true=>rw[Wg rfl];exact r rfl
 |false=>rw[We V1];trivial
def eX(O:Nat->Option Nat)(i:Nat):Nat->Option Nat:=λj=>if j=i then none else O j
theorem mU:Al A0 O none->Al A0 O none:=id
theorem iU:Al A0 O none->Al A0 O' none:=λh=>⟨h.1,λ_ z=>by cases z⟩
theorem gX{i:Nat}:∀k,Al A0 O k->Al A0 (eX O i) k:=λk ⟨a,b⟩=>⟨a,λj z=>by unfold eX;split;(cases k<;>simp_all);exact b j z⟩
theorem SR.setM(s:SR A0 h0 aa env h O){i:Nat}{mk:Mk}{d v:Val}(UT:rM mk=true)(q:Dn (Al A0 O) h d v)(qn:LH mk=true->Dn (Al (Fr h0.length) O) h d v):SR A0 h0 (aa.set i (some (mk,d))) (env.set i (some v)) h (eX O i)/\Fm [i] aa env h O (aa.set i (some (mk,d))) (env.set i (some v)) h (eX O i):=by
 refine⟨⟨by simp[s.len],λj m' d' e hm'=>?_,λj d' e=>?_,λj a e=>?_,λj l a e1 e2=>?_,s.pre,s.up⟩,Wb _,λk hk n=>⟨rfl,λj=>?_⟩,λj hj=>?_⟩
 ·by_cases hij:i=j
  ·subst hij
   have hi:i<aa.length:=by have:=(V4.mp e).1;simpa using this
   rw[Wh hi]at e;cases e;exact⟨v,by rw[Wh (by rw[<-s.len];exact hi)],q.dH gX,λz=>(qn z).dH gX⟩
  ·rw[V7 hij]at e;rw[V7 hij];obtain⟨w,k1,k2,k3⟩:=s.sh j m' d' e hm';exact⟨w,k1,k2.dH gX,λz=>(k3 z).dH gX⟩
 ·by_cases hij:i=j
  ·subst hij
   have hi:i<aa.length:=by have:=(V4.mp e).1;simpa using this
   rw[Wh hi]at e;cases e;cases UT
  ·rw[V7 hij]at e;rw[V7 hij];obtain⟨a,k2,k3,k4⟩:=s.ow j d' e;exact⟨a,k2,by unfold eX;rw[We (λz=>hij z.symm)];exact k3,k4.mono (λ_ g=>g) λ_ _ z=>z.dH gX⟩
 ·unfold eX at e
  split at e
  ·cases e
  ·rename_i hj;obtain⟨k1,k2,d',k3⟩:=s.own j a e;exact⟨k1,k2,d',by rw[V7 (λz=>hj z.symm)];exact k3⟩
 ·unfold eX at e1 e2
  split at e1
  ·cases e1
  ·split at e2
   ·cases e2
   ·exact s.inj j l a e1 e2
 ·unfold eX;split;simp;exact n j
 ·have hj':j≠i:=by simpa using hj
  exact⟨by unfold eX;rw[We hj'],V7 (λz=>hj' z.symm),V7 (λz=>hj' z.symm),λ_ _=>rfl⟩
theorem SR.set(s:SR A0 h0 aa env h O){i:Nat}(q:Dn (Al A0 O) h d v):SR A0 h0 (aa.set i (some (.sh,d))) (env.set i (some v)) h (eX O i)/\Fm [i] aa env h O (aa.set i (some (.sh,d))) (env.set i (some v)) h (eX O i):=s.setM rfl q λz=>nomatch z
theorem SR.binds:∀{is:List Nat} {ds vs:List Val} {aa:aH} {env:Env} {O:Nat->Option Nat} {aj:aH},SR A0 h0 aa env h O->aY is ds aa=some aj->ak (Al A0 O) h ds vs ->
  ∃env' O',bindAll is vs env=some env'/\SR A0 h0 aj env' h O'/\Fm is aa env h O aj env' h O'
 | [],[],vs,aa,env,O,aj,s,e,q=>by
  rw[ak]at q;subst q;simp only[aY]at e;cases e;exact⟨env,O,rfl,s,Fm.refl s (Wl _)⟩
 | i::is,d::ds,vs,aa,env,O,aj,s,e,q=>by
  rw[ak]at q;obtain⟨v,r,rfl,q1,q2⟩:=q;simp only[aY]at e;obtain⟨s1,f1⟩:=s.set (i:=i) q1;obtain⟨env',O',b1,b2,b3⟩:=SR.binds s1 e (q2.dH gX);refine⟨env',O',by simp only[bindAll];exact b1,b2,(f1.dH λj hj=>?_).trans (b3.dH λj hj=>V5 _ hj)⟩;rw[Wo.mp hj];exact V8
 |[],_::_,_,_,_,_,_,_,e,_=>by simp[aY]at e
 |_::_,[],_,_,_,_,_,_,e,_=>by simp[aY]at e
theorem SR.bind(s:SR A0 h0 aa env h O)(e:eB p d aa=some aj)(q:Dn (Al A0 O) h d v):∃env' O',fB p v env=some env'/\SR A0 h0 aj env' h O'/\Fm (stored p) aa env h O aj env' h O':=by
 cases p with
 |one i=>simp only[eB]at e;cases e;obtain⟨s1,f1⟩:=s.set (i:=i) q;exact⟨_,_,rfl,s1,f1⟩
 |tup is=>
  cases d<;>simp only[eB]at e<;>first|(cases e;done)|skip
  rw[Dn]at q;obtain⟨vs,rfl,q⟩:=q;exact s.binds e q
theorem EW{a:Nat}(p:h0<+:h)(ha:h0.length<=a):h0<+:h.set a o:=by
 obtain⟨t,rfl⟩:=p;rw[List.set_append_right _ _ ha];exact WO _ _
theorem SR.put(s:SR A0 h0 aa env h O){i a:Nat}{d d1:Val}(e:aa[i]?=some (some (.ow,d)))(ha:O i=some a)(q:OB (Al A0 O) h d1 ob) :
  SR A0 h0 (aa.set i (some (.ow,d1))) env (h.set a ob) O/\Fm [i] aa env h O (aa.set i (some (.ow,d1))) env (h.set a ob) O:=by
 obtain⟨o1,o2,_⟩:=s.own i a ha;have hi:i<aa.length:=(V4.mp e).1;have mv:∀{A0:AP} (k:Nat) (o:Ob),Al A0 O k->h[k]?=some o->Al A0 O k/\(h.set a ob)[k]?=some o:=λk o hk g=>⟨hk,by rw[V7 λz=>hk.2 i rfl (by rw[<-z];exact ha)];exact g⟩;obtain⟨a0,e2,e3,_⟩:=s.ow i d e;refine⟨⟨by simp[s.len],λj m' d' ej hm'=>?_,λj d' ej=>?_,λj b ej=>?_,s.inj,EW s.pre o1,s.up⟩,by simp,λk hk n=>⟨?_,n⟩,λj hj=>?_⟩
 ·by_cases hij:i=j
  ·subst hij;rw[Wh hi]at ej;cases ej;cases hm'
  ·rw[V7 hij]at ej;obtain⟨w,k1,k2,k3⟩:=s.sh j m' d' ej hm';exact⟨w,k1,Dn.move mU mv _ _ k2,λz=>Dn.move mU mv _ _ (k3 z)⟩
 ·by_cases hij:i=j
  ·subst hij;rw[Wh hi]at ej;cases ej;rw[ha]at e3;cases e3;exact⟨a,e2,ha,q.od (by rw[Wh o2]) λ_ _ z=>ak.move mU mv _ _ z⟩
  ·rw[V7 hij]at ej;obtain⟨a1,k2,k3,k4⟩:=s.ow j d' ej;have:a≠a1:=λz=>hij (s.inj i j a ha (by rw[z];exact k3));exact⟨a1,k2,k3,k4.mono (λ_ g=>by rw[V7 this];exact g) λ_ _ z=>ak.move mU mv _ _ z⟩
 ·obtain⟨k1,k2,d',k3⟩:=s.own j b ej
  refine⟨k1,by simp[k2],?_⟩
  by_cases hij:i=j
  ·subst hij;exact⟨_,by rw[Wh hi]⟩
  ·exact⟨d',by rw[V7 hij];exact k3⟩
 ·rw[V7 λz=>n i (by rw[<-z];exact ha)]
 ·have hj':j≠i:=by simpa using hj
  exact⟨rfl,V7 (λz=>hj' z.symm),rfl,λb eb=>by rw[V7 λz=>hj' (s.inj j i b eb (by rw[<-z];exact ha))]⟩
def o7(O:Nat->Option Nat)(i a:Nat):Nat->Option Nat:=λj=>if j=i then some a else O j
theorem SR.fresh(s:SR A0 h0 aa env h O){i:Nat}{d1:Val}{h2:Hs}(p:h<+:h2)(q:OB (Al A0 O) h2 d1 ob) :
  SR A0 h0 (aa.set i (some (.ow,d1))) (env.set i (some (.ref h2.length))) (h2++[ob]) (if i<aa.length then o7 O i h2.length else eX O i) /\
   Fm [i] aa env h O (aa.set i (some (.ow,d1))) (env.set i (some (.ref h2.length))) (h2++[ob]) (if i<aa.length then o7 O i h2.length else eX O i):=by
 have pp:h<+:h2++[ob]:=p.trans (WO _ _);have s2:=s.ext p;have mv:∀{A0:AP} (j:Nat),∀(k:Nat) (o:Ob),Al A0 O k->h2[k]?=some o->Al A0 (if i<aa.length then o7 O i h2.length else eX O i) k/\(h2++[ob])[k]?=some o:=λ{A0} j k o hk g=>by
  have hlt:k<h2.length:=(V4.mp g).1;refine⟨?_,by rw[Wi hlt];exact g⟩
  split
  ·refine⟨hk.1,λl _=>?_⟩
   unfold o7
   split
   ·intro z;cases z;omega
   ·exact hk.2 l rfl
  ·exact gX k hk
 by_cases hi:i<aa.length
 ·rw[Wg hi]at mv |-
  refine⟨⟨by simp[s.len],λj m' d' ej hm'=>?_,λj d' ej=>?_,λj b ej=>?_,λj l b e1 e2=>?_,s.pre.trans pp,s.up⟩,pp.length_le,λk hk n=>⟨gu pp hk,λl=>?_⟩,λj hj=>?_⟩
  ·by_cases hij:i=j
   ·subst hij;rw[Wh hi]at ej;cases ej;cases hm'
   ·rw[V7 hij]at ej;rw[V7 hij];obtain⟨w,k1,k2,k3⟩:=s2.sh j m' d' ej hm';exact⟨w,k1,Dn.move iU (mv 0) _ _ k2,λz=>Dn.move iU (mv 0) _ _ (k3 z)⟩
  ·by_cases hij:i=j
   ·subst hij;rw[Wh hi]at ej;cases ej;exact⟨h2.length,by rw[Wh (by rw[<-s.len];exact hi)],by unfold o7;rw[Wg rfl],q.od (by simp) λ_ _ z=>ak.move iU (mv 0) _ _ z⟩
   ·rw[V7 hij]at ej;rw[V7 hij];obtain⟨a1,k2,k3,k4⟩:=s2.ow j d' ej;have hlt:a1<h2.length:=k4.lt;exact⟨a1,k2,by unfold o7;rw[We λz=>hij z.symm];exact k3,k4.mono (λ_ g=>by rw[Wi hlt];exact g) λ_ _ z=>ak.move iU (mv 0) _ _ z⟩
  ·unfold o7 at ej
   split at ej
   ·rename_i hj;cases ej;subst hj;exact⟨Wx s.pre.length_le p.length_le,by simp,_,by rw[Wh hi]⟩
   ·rename_i hj;obtain⟨k1,k2,d',k3⟩:=s2.own j b ej;exact⟨k1,by simp;omega,d',by rw[V7 λz=>hj z.symm];exact k3⟩
  ·unfold o7 at e1 e2
   split at e1
   ·rename_i h1;cases e1
    split at e2
    ·rename_i h3;rw[h1,h3]
    ·have:=(s2.own l _ e2).2.1;omega
   ·split at e2
    ·cases e2;have:=(s2.own j _ e1).2.1;omega
    ·exact s.inj j l b e1 e2
  ·unfold o7;split
   ·intro z;cases z;have:=p.length_le;omega
   ·exact n l
  ·have hj':j≠i:=by simpa using hj
   exact⟨by unfold o7;rw[We hj'],V7 (λz=>hj' z.symm),V7 (λz=>hj' z.symm),λb eb=>gu pp (s.own j b eb).2.1⟩
 ·rw[We hi]at mv |-
  have e1:aa.set i (some (.ow,d1))=aa:=List.set_eq_of_length_le (by omega);have e2:env.set i (some (.ref h2.length))=env:=List.set_eq_of_length_le (by rw[<-s.len];omega);have e3:eX O i=O:=by
   funext j;unfold eX;split
   ·rename_i hj;subst hj
    cases e:O j with
    |none=>rfl
    |some a=>obtain⟨_,_,d,k⟩:=s.own j a e;exact absurd (V4.mp k).1 hi
   ·rfl
  rw[e1,e2,e3];exact⟨s.ext pp,Fm.refl s pp⟩
end
section
variable {Φ:Nat->List Val->M Val} {Ψ:Nat->List Val->Pr FV} {A:AP} {h h1:Hs}
def isRef:Val->Bool
 |.rl _=>true
 |.dc _ _=>true
 |_=>false
def RN(A:AP)(h:Hs):FV->Hs->Val->Prop:=λx h' v=>isRef x.2=true->∃h2 o,h'=h2++[o]/\v=.ref h2.length/\h<+:h2/\OB A h2 x.2 o
def GJ(Φ:Nat->List Val->M Val)(Ψ:Nat->List Val->Pr FV)(ir:IE):Prop:=∀(aa:aH) (env:Env) (A:AP) (h:Hs),Up A h->ER A aa env h->Rel A h (RN A h) (aE Φ ir env h) (aW Ψ ir aa)
theorem iV{f:Bool}{h0:Hs}(p:h0<+:h)(q:ak A h xs vs):Rel A h (RN A h0) (new (.lst vs) h) (.ok (f,.rl xs)) :=
 ⟨_,_,rfl,cJ _,λ_=>⟨h,.lst vs,rfl,rfl,p,vs,rfl,q⟩⟩
theorem Ke:GJ Φ Ψ .dct0:=λaa env A h u e=>by
 rw[aE,aW];exact⟨_,_,rfl,cJ _,λ_=>⟨h,.dct [],rfl,rfl,Wl _,[],rfl,rfl,ak.nil⟩⟩
theorem Kf(hk:bf Φ Ψ k)(hv:bf Φ Ψ v):GJ Φ Ψ (.dct1 k v):=λaa env A h u e=>by
 rw[aE,aW];refine ah (hk aa env A h u e) λx h1 w p1 q1=>ah (R:=λkk _ kk'=>kk'=kk) (aX λkk ek=>⟨kk,vH q1.1 ek,rfl⟩) λkk h2 kk' p2 hkk=>?_;subst hkk;refine ah (hv aa env A h2 ((u.ext p1).ext p2) ((e.ext p1).ext p2)) λy h3 z p3 q3=>?_;exact⟨_,_,rfl,cJ _,λ_=>⟨h3,.dct [(kk',z)],rfl,rfl,(p1.trans p2).trans p3,[(kk',z)],rfl,rfl,ak.cons q3.1 ak.nil⟩⟩
theorem NI(hs:jC Φ Ψ es):GJ Φ Ψ (.lst es):=λaa env A h u e=>by
 rw[aE,aW];exact ah (hs.1 aa env A h u e) λx h1 vs p1 q1=>bD (λz=>by rw[<-q1.1.length];exact z) λ_=>iV p1 q1.1
theorem NJ(ha:bf Φ Ψ a)(hl:bf Φ Ψ lo)(hh:bf Φ Ψ hi):GJ Φ Ψ (.slc a lo hi):=λaa env A h u e=>by
 rw[aE,aW];refine ah (n6 ha u e) λx h1 v p1 q1=>ah (kF hl (u.ext p1) (e.ext p1)) λl h2 l' p2 el=>ah (kF hh ((u.ext p1).ext p2) ((e.ext p1).ext p2)) λr h3 r' p3 er=>?_;subst el;subst er;have q1:=DB.ext (p2.trans p3) q1;obtain⟨f,d⟩:=x;cases d with
 |tup ds=>obtain⟨vs,rfl,q⟩:=DB.tup q1;have l:=q.length;simp only[BB,oZ];exact bD (λz=>by rw[l]at z;exact z) λ_=>au λe=>by cases e
 |rl ds=>
  obtain⟨vs,e1,q⟩:=DB.lst q1;have ev:oZ v l' r' h3=new (.lst (fh vs l' r')) h3:=by
   have:oZ v l' r'=bnd (ask λh=>ay h v) λxs=>new (.lst (fh xs l' r')):=by cases v<;>simp only[ay]at e1<;>first|(cases e1;done)|rfl
   rw[this];unfold bnd ask aT;dsimp only;rw[e1]
  rw[ev];exact iV ((p1.trans p2).trans p3) (q.cut l' r')
 |_=>trivial
theorem Kg(hs:jC Φ Ψ es):GJ Φ Ψ (.blt .list es):=λaa env A h u e=>by
 rw[aE,aW];refine ah (hs.2 aa env A h u e) λds h1 vs p1 q1=>?_
 match ds,q1 with
 |[],q1=>trivial
 |[d],q1=>obtain⟨v,rfl,hv⟩:=q1.one;exact ah (R:=λxs h' ws=>ak A h' xs ws) (cM λxs e=>hv.seq e) λxs h2 ws p2 q=>iV (p1.trans p2) q
 |_::_::_,_=>trivial
theorem BL(hs:jC Φ Ψ es):GJ Φ Ψ (.blt .sorted es):=λaa env A h u e=>by
 rw[aE,aW];refine ah (hs.2 aa env A h u e) λds h1 vs p1 q1=>?_
 match ds,q1 with
 |[],q1=>trivial
 |[d],q1=>
  obtain⟨v,rfl,hv⟩:=q1.one;cases d<;>first|trivial|skip
  rename_i xs;obtain⟨ws,e1,q⟩:=hv.lst;have ev:bnd (ask λh=>ay h v) (λxs=>bnd (aT (fz xs)) λys=>new (.lst ys)) h1=bnd (aT (fz ws)) (λys=>new (.lst ys)) h1:=by unfold bnd ask aT;dsimp only;rw[e1]
  show Rel A h1 (RN A h) (bnd (ask λh=>ay h v) (λxs=>bnd (aT (fz xs)) λys=>new (.lst ys)) h1) _;rw[ev];refine ah (R:=λys _ zs=>zs=ys/\cI ys=true) (aX λys e=>?_) λys h2 zs p2 hz=>?_
  ·obtain⟨i1,i2⟩:=qh e;rw[(bC xs ws i1).mp q];exact⟨ys,e,rfl,i2⟩
  ·obtain⟨rfl,hi⟩:=hz;exact iV (p1.trans p2) ((bC _ _ hi).mpr rfl)
 |x::_::_,_=>cases x<;>trivial
theorem Kh(hs:jC Φ Ψ it)(hc:bf Φ Ψ c)(he:bf Φ Ψ elt):GJ Φ Ψ (.comp N js pat k it c elt):=λaa env A h u e=>by
 rw[aE,aW];refine t7 ?_;refine ah (hs.2 aa env A h u e) λds h1 vs p1 q1=>ah (xC q1) λxs h2 src p2 q2=>?_;obtain⟨ws,q3,q4⟩:=q2;have l:=q3.length;have ev:∀(F:List Val->M Val),bnd (ask λh=>src.items h) F h2=F ws h2:=λF=>by unfold bnd ask aT;dsimp only;rw[q4 h2 (Wl _)]
 rw[ev];refine bD (λz=>by rw[<-l];exact z) λ_=>?_;have u2:=(u.ext p1).ext p2;have e2:=(e.ext p1).ext p2;refine ah (n8 (hb:=h) xs ws 0 [] h2 (p1.trans p2) u2 q4 rfl q3 λx v h' p' qx=>?_) λp h3 ys p3 hp=>?_
 ·refine ah (R:=λaj _ env'=>∃_:ER A aj env' h',True) (aX λaj ev'=>?_) λaj h4 env' p4 he'=>?_
  ·obtain⟨env',a1,a2⟩:=t6 ev' qx (xE (e2.ext p')) (by simp[iz,iN]);exact⟨env',a1,a2,trivial⟩
  ·obtain⟨er,_⟩:=he'
   have er:=er.ext p4;have u4:=(u2.ext p').ext p4;have Ng:Rel A h4 (λt _ t'=>t'=t) ((if cH c=true then ret true else bnd (aE Φ c env') λv=>ask λh=>cG h v) h4) (if cH c=true then .ok true else pb (aW Ψ c aj) λv=>pl (cG [] v.2)):=by
    by_cases hn:cH c=true
    ·rw[Wg hn,Wg hn];exact au rfl
    ·rw[We hn,We hn];exact ah (hc aj env' A h4 u4 er) λy h5 w p5 q5=>cM λt et=>⟨t,rA q5.br et,rfl⟩
   refine ah Ng λt h5 t' p5 et=>?_;subst et;cases t' with
   |true=>rw[Wg rfl,Wg rfl];exact ah (he aj env' A h5 (u4.ext p5) (er.ext p5)) λy h6 w p6 q6=>au (q6.up ((p1.trans p2).trans (p'.trans (p4.trans p5))))
   |false=>rw[We V1,We V1];exact au trivial
 ·obtain⟨zs,rfl,z1,z2⟩:=hp;exact iV ((p1.trans p2).trans p3) z1
theorem NK(hΦ:∀j,Imp (Φ j) (Ψ j))(hf:Rb e=true)(ho:cD e=true):GJ Φ Ψ e:=by
 have V:=v_all hΦ;cases e<;>first|(cases hf;done)|skip
 ·exact NI (V.2 _ ho)
 ·have ho:=n5 ho;exact NJ (V.1 _ ho.1.1) (V.1 _ ho.1.2) (V.1 _ ho.2)
 ·rename_i b es
  change kG _=true at ho;cases b<;>first|(cases hf;done)|skip
  ·exact BL (V.2 _ ho)
  ·exact Kg (V.2 _ ho)
 ·have ho:=n5 ho;exact Kh (V.2 _ ho.1.1) (V.1 _ ho.1.2) (V.1 _ ho.2)
 ·exact Ke
 ·have ho:=bU ho;exact Kf (V.1 _ ho.1) (V.1 _ ho.2)
mutual
noncomputable def Rh:IS->Bool
 |.expr e=>cD e
 |.asg _ e=>cD e
 |.aug _ _ e=>cD e
 |.mz o i v=>cD o&&cD i&&cD v
 |.iff c a b=>cD c&&oh a&&oh b
 |.for _ _ it b=>kG it&&oh b
 |.whl _ c b=>cD c&&oh b
 |.ret e=>cD e
 |.setF _ a _ _=>cD a
 |_=>true
noncomputable def oh:eT->Bool
 |.nil=>true
 |.cons s r=>Rh s&&oh r
end
def mS(s:IS):List Nat:=o6 s++mE s
def EY(s:eT):List Nat:=fW s++jK s
variable {ms:List Nat}
def xG(Φ:Nat->List Val->M Val)(Ψ:Nat->List Val->Pr FV)(ms:List Nat)(s:IS):Prop:=∀(A0:AP) (h0:Hs) (aa:aH) (env:Env) (h:Hs) (O:Nat->Option Nat),SR A0 h0 aa env h O->fO A0 h0 (RF A0 h0 (mS s) aa env h O) (eV Φ s env h) (bM Ψ ms s aa)
def rE(Φ:Nat->List Val->M Val)(Ψ:Nat->List Val->Pr FV)(ms:List Nat)(s:eT):Prop:=∀(A0:AP) (h0:Hs) (aa:aH) (env:Env) (h:Hs) (O:Nat->Option Nat),SR A0 h0 aa env h O->fO A0 h0 (RF A0 h0 (EY s) aa env h O) (jA Φ s env h) (dw Ψ ms s aa)
theorem BN(he:bf Φ Ψ e)(hx:∀aa,bM Ψ ms (.expr e) aa=pb (aW Ψ e aa) λ_=>.ok (.nx aa)):xG Φ Ψ ms (.expr e):=λA0 h0 aa env h O s=>by
 rw[eV,hx];exact bh s (he aa env _ h s.xF s.er) λx h1 v p1 q1=>aZ ⟨O,s.ext p1,Fm.refl s p1⟩
theorem aC{α β γ:Type}(m:M α)(f:α -> M β)(g:β -> M γ):bnd (bnd m f) g=bnd m λx=>bnd (f x) g:=by
 funext h;show (match (match m h with|.ok a h'=>f a h'|.exc c vs h'=>.exc c vs h'|.no=>.no) with|.ok a h'=>g a h'|.exc c vs h'=>.exc c vs h'|.no=>.no)=(match m h with|.ok a h'=>bnd (f a) g h'|.exc c vs h'=>.exc c vs h'|.no=>.no);cases m h<;>rfl
theorem bG{α β:Type}{m:M α}{f:α -> M β}{a:α}{h h1:Hs}(e:m h=.ok a h1):bnd m f h=f a h1:=by unfold bnd;rw[e]
theorem eW{i:Nat}(e:env[i]?=some (some v)):aE Φ (.var i) env h=.ok v h:=by rw[aE,e];rfl
theorem zh{i:Nat}(ha:bf Φ Ψ a):xG Φ Ψ ms (.expr (.met .append (.var i) #[a])):=λA0 h0 aa env h O s=>by
 rw[eV,bM];try dsimp only
 split
 ·rename_i ds hv
  obtain⟨b,e2,e3,vs,e4,e5⟩:=s.ow i _ hv;have ev:bnd (aE Φ (.met .append (.var i) #[a]) env) (λ_=>ret (Fl.nx env)) h=bnd (aE Φ a env) (λv=>bnd (met .append (.ref b) [v]) λ_=>ret (Fl.nx env)) h:=by
   rw[aE,aC,bG (eW e2)];rw[aC,bG (a:=()) (h1:=h) (by unfold ask aT;simp[recv,e4])];rw[aC,bg,aC]
   congr 1
  rw[ev];refine bh s (ha aa env _ h s.xF s.er) λx h1 v p1 q1=>jw λhg=>?_;have s1:=s.ext p1;obtain⟨s2,f2⟩:=s1.put (d1:=.rl (ds++[x.2])) (ob:=.lst (vs++[v])) hv e3 ⟨_,rfl,(e5.ext p1).append (ak.cons q1.1 ak.nil)⟩;have l:=e5.length;refine⟨.nx env,h1.set b (.lst (vs++[v])),?_,O,s2,(Fm.refl s p1).trans (f2.dH λj hj=>?_)⟩
  ·have g:=cN p1 e4;unfold met bnd ask aT aK put ret;dsimp only;rw[g];dsimp only;rw[Wg (by rw[<-l];exact hg)]
  ·rw[Wo.mp hj];exact Xl _ V8
 ·trivial
theorem zj{i:Nat}(ha:bf Φ Ψ a):xG Φ Ψ ms (.expr (.met .extend (.var i) #[a])):=λA0 h0 aa env h O s=>by
 rw[eV,bM];try dsimp only
 split
 ·rename_i ds hv
  obtain⟨b,e2,e3,vs,e4,e5⟩:=s.ow i _ hv;have ev:bnd (aE Φ (.met .extend (.var i) #[a]) env) (λ_=>ret (Fl.nx env)) h=bnd (aE Φ a env) (λv=>bnd (met .extend (.ref b) [v]) λ_=>ret (Fl.nx env)) h:=by
   rw[aE,aC,bG (eW e2)];rw[aC,bG (a:=()) (h1:=h) (by unfold ask aT;simp[recv,e4])];rw[aC,bg,aC]
   congr 1
  rw[ev];refine bh s (ha aa env _ h s.xF s.er) λx h1 v p1 q1=>?_;obtain⟨f,d⟩:=x;cases d<;>first|trivial|skip
  rename_i ts;have q:=q1.1;dsimp only at q;rw[Dn]at q;obtain⟨ws,rfl,q⟩:=q;refine jw λhg=>?_;have s1:=s.ext p1;obtain⟨s2,f2⟩:=s1.put (d1:=.rl (ds++ts)) (ob:=.lst (vs++ws)) hv e3 ⟨_,rfl,(e5.ext p1).append q⟩;have l:=e5.length;have l2:=q.length;refine⟨.nx env,h1.set b (.lst (vs++ws)),?_,O,s2,(Fm.refl s p1).trans (f2.dH λj hj=>?_)⟩
  ·have g:=cN p1 e4;unfold met bnd ask aT aK put ret sS;dsimp only;rw[g];dsimp only;rw[Wg (by rw[<-l,<-l2];exact hg)]
  ·rw[Wo.mp hj];exact Xl _ V8
 ·trivial
theorem EZ(hΦ:∀j,Imp (Φ j) (Ψ j))(ho:cD e=true):xG Φ Ψ ms (.expr e):=by
 have V:=v_all hΦ;have gen:(∀aa,bM Ψ ms (.expr e) aa=pb (aW Ψ e aa) λ_=>.ok (.nx aa))->xG Φ Ψ ms (.expr e):=λhx=>BN (V.1 e ho) hx;cases e with
 |met m a es=>
  cases m with
  |join=>exact gen λaa=>by rw[bM]<;>(intros;simp_all)
  |append=>
   cases a with
   |var i=>
    cases es with
    |nil=>exact gen λaa=>by rw[bM]<;>(intros;simp_all)
    |cons x r=>
     cases r with
     |nil=>exact zh (V.1 x (bU (bU ho).2).1)
     |cons _ _=>exact gen λaa=>by rw[bM]<;>(intros;simp_all)
   |_=>exact gen λaa=>by rw[bM]<;>(intros;simp_all)
  |extend=>
   cases a with
   |var i=>
    cases es with
    |nil=>exact gen λaa=>by rw[bM]<;>(intros;simp_all)
    |cons x r=>
     cases r with
     |nil=>exact zj (V.1 x (bU (bU ho).2).1)
     |cons _ _=>exact gen λaa=>by rw[bM]<;>(intros;simp_all)
   |_=>exact gen λaa=>by rw[bM]<;>(intros;simp_all)
  |remove=>exact gen λaa=>by rw[bM]<;>(intros;simp_all)
 |_=>exact gen λaa=>by rw[bM]<;>(intros;simp_all)
end
section
variable {Φ:Nat->List Val->M Val} {Ψ:Nat->List Val->Pr FV} {ms:List Nat}
theorem BO{i:Nat}{l:List Nat}(h:i∈l):∀j∈[i],j∈l:=λj hj=>by rw[Wo.mp hj];exact h
theorem Kl(hΦ:∀j,Imp (Φ j) (Ψ j))(ho:cD e=true):xG Φ Ψ ms (.asg p e):=λA0 h0 aa env h O s=>by
 have V:=(v_all hΦ).1 e ho;cases p with
 |one i=>
  rw[eV,bM];try dsimp only
  split
  ·refine jw λhf=>?_
   refine bh s (NK hΦ hf ho aa env _ h s.xF s.er) λx h1 v p1 q1=>?_;obtain⟨f,d⟩:=x;cases d<;>first|trivial|skip
   ·obtain⟨h2,vs,rfl,rfl,p2,q2⟩:=q1 rfl;obtain⟨s2,f2⟩:=s.fresh (i:=i) p2 q2;exact⟨_,_,rfl,_,s2,f2.dH (BO (by simp[mS,mE,stored]))⟩
   ·obtain⟨h2,vs,rfl,rfl,p2,q2⟩:=q1 rfl;obtain⟨s2,f2⟩:=s.fresh (i:=i) p2 q2;exact⟨_,_,rfl,_,s2,f2.dH (BO (by simp[mS,mE,stored]))⟩
  ·refine bh s (V aa env _ h s.xF s.er) λx h1 v p1 q1=>?_
   have hnw:LH (jU x.1 x.2)=true->Dn (Al (Fr h0.length) O) h1 x.2 v:=λz=>by
    have hx:x.1=true:=by
     unfold jU at z;split at z
     ·rename_i hh;simp only[and_eq_true]at hh;exact hh.1
     ·cases z
    refine(q1.2 hx).dH λo ho=>?_;cases o with
    |none=>exact ho.elim
    |some k=>exact⟨Wx s.pre.length_le ho,λj _ e=>by have:=(s.own j k e).2.1;have ho':h.length<=k:=ho;omega⟩
   have hrd:rM (jU x.1 x.2)=true:=by unfold jU;split<;>rfl
   obtain⟨s2,f2⟩:=(s.ext p1).setM (i:=i) hrd q1.1 hnw;exact⟨_,_,rfl,_,s2,(Fm.refl s p1).trans (f2.dH (BO (by simp[mS,mE,stored])))⟩
 |tup is=>
  rw[eV,bM];try dsimp only
  refine jw λhf=>bh s (V aa env _ h s.xF s.er) λx h1 v p1 q1=>?_;have s1:=s.ext p1;refine bh s1 (R:=λaj h' env'=>∃O',SR A0 h0 aj env' h' O'/\Fm (stored (.tup is)) aa env h1 O aj env' h' O') (aX λaj ev=>?_) λaj h2 env' p2 hh=>?_
  ·obtain⟨env',O',b1,b2,b3⟩:=s1.bind ev q1.1;exact⟨env',b1,O',b2,b3⟩
  ·obtain⟨O',b2,b3⟩:=hh;exact aZ ⟨O',b2,(Fm.refl s p1).trans (b3.dH λj hj=>by simp only[mS,mE];exact Wy _ hj)⟩
theorem Km{i:Nat}(hΦ:∀j,Imp (Φ j) (Ψ j))(ho:cD e=true):xG Φ Ψ ms (.aug i o e):=λA0 h0 aa env h O s=>by rw[bM];trivial
theorem xH(k:Key)(l:List (Key×Val)):(l.any λkv=>decide (kv.1=k))=((l.map (·.1)).any λx=>decide (x=k)):=by
 rw[List.any_map];rfl
theorem xK(e:Dn A h d v):∀{kvs:List (Key×Val)} {ds:List Val},ak A h ds (kvs.map (·.2)) ->
  ak A h ((((kvs.map (·.1)).zip ds).map λkv=>if kv.1=k then (kv.1,d) else kv).map (·.2)) ((kvs.map λkv=>if kv.1=k then (kv.1,v) else kv).map (·.2))
 |[],ds,q=>by simp only[map_nil,List.zip_nil_left];exact ak.nil
 | (k',v')::kvs,ds,q=>by
  have l:=q.length;cases ds with
  |nil=>simp at l
  |cons d' ds=>
   simp only[map_cons]at q;rw[ak]at q;obtain⟨v1,r,e1,q1,q2⟩:=q;cases e1;simp only[map_cons,List.zip_cons_cons];refine ak.cons ?_ (xK e q2)
   by_cases hk:k'=k
   ·rw[Wg hk,Wg hk];exact e
   ·rw[We hk,We hk];exact q1
theorem lX(k:Key)(d:Val)(l:List (Key×Val)):(l.map λkv=>if kv.1=k then (kv.1,d) else kv).map (·.1)=l.map (·.1):=by
 rw[Yt];refine Yq λx _=>?_;show (if x.1=k then (x.1,d) else x).1=x.1
 split<;>rfl
theorem E1(hk:kvs.map (·.1)=ks)(q:ak A h ds (kvs.map (·.2)))(e:Dn A h d v) :
  (kq kvs k v).map (·.1)=(kq (ks.zip ds) k d).map (·.1)/\ak A h ((kq (ks.zip ds) k d).map (·.2)) ((kq kvs k v).map (·.2)):=by
 subst hk;have l:=q.length;rw[V9]at l;have z1:((kvs.map (·.1)).zip ds).map (·.1)=kvs.map (·.1):=List.map_fst_zip (by rw[V9];omega);have z2:((kvs.map (·.1)).zip ds).map (·.2)=ds:=List.map_snd_zip (by rw[V9];omega);unfold kq;rw[xH,xH,z1]
 split
 ·rw[lX,lX,z1];exact⟨rfl,xK e q⟩
 ·rw[Yo,Yo,Yo,Yo,z1,z2];exact⟨rfl,q.append (ak.cons e ak.nil)⟩
theorem E2(hΦ:∀j,Imp (Φ j) (Ψ j))(ho:cD o=true)(hi:cD i=true)(hv:cD v=true):xG Φ Ψ ms (.mz o i v):=λA0 h0 aa env h O s=>by
 have V:=(v_all hΦ).1;cases o with
 |var j=>
  rw[eV,bM];refine bh s (V v hv aa env _ h s.xF s.er) λx h1 w p1 q1=>?_;have s1:=s.ext p1
  split
  ·rename_i ds hj
   obtain⟨b,e2,e3,vs,e4,e5⟩:=s1.ow j _ hj;rw[bG (eW e2)];refine bh s1 (V i hi aa env _ h1 s1.xF s1.er) λz h2 u p2 q2=>?_;have s2:=s1.ext p2;obtain⟨f,d⟩:=z;have q:=q2.1;cases d<;>first|trivial|skip
   dsimp only at q;rw[Dn]at q;subst q;rename_i kk;have g:=cN p2 e4;have l:=e5.length;show fO A0 h0 _ _ (pb (pl (wg ds.length kk)) _);cases hn:wg ds.length kk with
   |none=>trivial
   |some n=>obtain⟨s3,f3⟩:=s2.put (d1:=.rl (ds.set n x.2)) (ob:=.lst (vs.set n w)) hj e3 ⟨_,rfl,(e5.ext p2).set n (q1.1.ext p2)⟩;refine⟨.nx env,h2.set b (.lst (vs.set n w)),?_,O,s3,(Fm.refl s (p1.trans p2)).trans (f3.dH (BO (by simp[mS,o6])))⟩;rw[l]at hn;simp only[sY];unfold bnd ask aT put ret;dsimp only;rw[g];dsimp only;rw[hn]
  ·rename_i ks ds hj
   obtain⟨b,e2,e3,kvs,e4,ek,e5⟩:=s1.ow j _ hj;rw[bG (eW e2)];refine bh s1 (V i hi aa env _ h1 s1.xF s1.er) λz h2 u p2 q2=>?_;have s2:=s1.ext p2;obtain⟨f,d⟩:=z;have q:=q2.1;dsimp only at q;show fO A0 h0 _ _ (pb (pl (keyOf d)) _);cases hk:keyOf d with
   |none=>trivial
   |some kk=>
    have hu:keyOf u=some kk:=by
     cases d<;>simp only[keyOf]at hk<;>first|(cases hk;done)|skip
     all_goals (rw[Dn]at q;subst q;exact hk)
    show fO A0 h0 _ _ (pg _ _);refine jw λhl=>?_;have g:=cN p2 e4;obtain⟨k1,k2⟩:=E1 (k:=kk) ek (e5.ext p2) (q1.1.ext p2);obtain⟨s3,f3⟩:=s2.put (d1:=putD ks ds kk x.2) (ob:=.dct (kq kvs kk w)) hj e3 ⟨_,rfl,k1,k2⟩;refine⟨.nx env,h2.set b (.dct (kq kvs kk w)),?_,O,s3,(Fm.refl s (p1.trans p2)).trans (f3.dH (BO (by simp[mS,o6])))⟩;have hl':decide (kvs.length<sizeLine)=true:=by rw[<-ek,V9]at hl;exact hl
    simp only[sY];unfold bnd ask aT put ret aK;dsimp only;rw[g];dsimp only;rw[hu];dsimp only;rw[Wg hl']
  ·trivial
 |_=>rw[bM]<;>first|trivial|(intros;simp_all)
theorem Kn(hΦ:∀j,Imp (Φ j) (Ψ j))(hc:cD c=true)(ha:rE Φ Ψ ms a)(hb:rE Φ Ψ ms b):xG Φ Ψ ms (.iff c a b):=λA0 h0 aa env h O s=>by
 have V:=(v_all hΦ).1 c hc;rw[eV,bM];refine bh s (n6 V s.xF s.er) λx h1 v p1 q1=>?_;have s1:=s.ext p1;refine bh s1 (R:=λt _ t'=>t'=t) (cM λt et=>⟨t,rA q1 et,rfl⟩) λt h2 t' p2 et=>?_;subst et;have s2:=s1.ext p2;cases t' with
 |true=>
  rw[Wg rfl,Wg rfl];refine gy (ha A0 h0 aa env h2 O s2) λf h' g r=>(r.pre s (p1.trans p2)).dH λi hi=>?_;simp only[EY,mS,o6,mE,mem_append]at hi |-
  rcases hi with z|z
  ·exact .inl (.inl z)
  ·exact .inr (.inl z)
 |false=>
  rw[We V1,We V1];refine gy (hb A0 h0 aa env h2 O s2) λf h' g r=>(r.pre s (p1.trans p2)).dH λi hi=>?_;simp only[EY,mS,o6,mE,mem_append]at hi |-
  rcases hi with z|z
  ·exact .inl (.inr z)
  ·exact .inr (.inr z)
def vI(h:Hs)(O:Nat->Option Nat)(m:List Nat)(src:Src)(ws:List Val):Prop :=
 ∀h':Hs,(∀k,k<h.length->(∀i,O i≠some k)->h'[k]?=h[k]?)->(∀i,i∉m->∀a,O i=some a->h'[a]?=h[a]?)->src.items h'=some ws
theorem dS{i:Nat}(e:h[i]?=some (.lst ws)):(Src.live i).items h=some ws:=by simp[Src.items,ay,e]
theorem dU{i:Nat}(e:h[i]?=some (.lst ws)):(Src.enum i).items h=some (bJ 0 ws):=by simp[Src.items,ay,e]
theorem t8{A0:AP}{h0:Hs}{m:List Nat}(hb:∀aa env h O x v,SR A0 h0 aa env h O->Dn (Al A0 O) h x v->fO A0 h0 (RF A0 h0 m aa env h O) (body v env h) (bodyV x aa))
  {kH:aH} {rD:Env} {h1:Hs} {O1:Nat->Option Nat} (st:vI h1 O1 m src ws) :
  ∀(xs vs:List Val) (i:Nat) (aa:aH) (env:Env) (h:Hs) (O:Nat->Option Nat),SR A0 h0 aa env h O->Fm m kH rD h1 O1 aa env h O->ws.drop i=vs->ak (Al A0 O) h xs vs ->
   fO A0 h0 (RF A0 h0 m kH rD h1 O1) (forM src body vs.length i env h) (gp bodyV xs aa)
 | [],vs,i,aa,env,h,O,s,f,hd,q=>by
  rw[ak]at q;subst q;have hl:ws.length<=i:=Yn.mp hd;have hi:=st h (λk hk n=>(f.keep k hk n).1) (λj hj a e=>(f.stay j hj).2.2.2 a e);rw[gp];refine⟨.nx env,h,?_,O,s,f⟩;show forM src body 0 i env h=_;simp only[forM];unfold bnd ask aT aK;dsimp only;rw[hi];dsimp only;rw[Wg (decide_eq_true hl)];rfl
 | x::xs,vs,i,aa,env,h,O,s,f,hd,q=>by
  rw[ak]at q;obtain⟨v,r,rfl,q1,q2⟩:=q;have hv:ws[i]?=some v:=by have:=Xb (λl=>l[0]?) hd;simpa using this
  have hr:ws.drop (i+1)=r:=by
   have:ws.drop (i+1)=(ws.drop i).drop 1:=by rw[YS]
   rw[this,hd];rfl
  have hi:=st h (λk hk n=>(f.keep k hk n).1) (λj hj a e=>(f.stay j hj).2.2.2 a e);have ev:forM src body (v::r).length i env h=bnd (body v env) (λf=>match f with
   |.nx env'=>forM src body r.length (i+1) env'
   |.ct env'=>forM src body r.length (i+1) env'
   |.bk env'=>ret (.nx env')
   |.rt v=>ret (.rt v)) h:=by
   show forM src body (r.length+1) i env h=_;simp only[forM];unfold bnd ask aT;dsimp only;rw[hi];dsimp only;rw[hv];try rfl
  rw[ev,gp];refine n9 (hb aa env h O x v s q1) λfl h2 gl hr2=>?_;have go:∀aj env' O',SR A0 h0 aj env' h2 O'->Fm m aa env h O aj env' h2 O'->fO A0 h0 (RF A0 h0 m kH rD h1 O1) (forM src body r.length (i+1) env' h2) (gp bodyV xs aj):=λaj env' O' s' f'=>by
   refine t8 hb st xs r (i+1) aj env' h2 O' s' (f.trans f') hr (ak.move iU (λk o hk g=>?_) _ _ q2);have hlt:k<h.length:=(V4.mp g).1;obtain⟨a1,a2⟩:=f'.keep k hlt λi=>hk.2 i rfl;exact⟨⟨hk.1,λi _=>a2 i⟩,a1.trans g⟩
  cases fl<;>cases gl<;>first|exact hr2.elim|skip
  ·obtain⟨O',s',f'⟩:=hr2;exact go _ _ O' s' f'
  ·exact aZ hr2
  ·obtain⟨O',s',f'⟩:=hr2;exact aZ ⟨O',s',f.trans f'⟩
  ·obtain⟨O',s',f'⟩:=hr2;exact go _ _ O' s' f'
theorem BP{A0:AP}{m:List Nat}(q:Dn (Al A0 O) h d v)(e:fF k [d]=some xs):∃src ws,srcOf k [v]=some src/\ak (Al A0 O) h xs ws/\src.items h=some ws/\vI h O m src ws:=by
 have lst:∀es,d=.rl es->(∃ws,v=.rl ws/\ak (Al A0 O) h es ws)\/∃a ws,v=.ref a/\h[a]?=some (.lst ws)/\ak (Al A0 O) h es ws/\∀h':Hs,(∀k,k<h.length->(∀i,O i≠some k)->h'[k]?=h[k]?)->h'[a]?=some (Ob.lst ws):=by
  rintro es rfl;rw[Dn]at q
  rcases q with ⟨ws,rfl,_,q⟩|⟨a,ws,rfl,al,g,q⟩
  ·exact .inl ⟨ws,rfl,q⟩
  ·exact .inr ⟨a,ws,rfl,g,q,λh' hk=>(hk a (V4.mp g).1 λi=>al.2 i rfl).trans g⟩
 cases k with
 |seq=>
  cases d<;>first|(cases e;done)|skip
  ·cases e;rw[Dn]at q;obtain⟨ws,rfl,q⟩:=q;exact⟨.fix ws,ws,rfl,q,rfl,λ_ _ _=>rfl⟩
  ·cases e
   rcases lst _ rfl with ⟨ws,rfl,q'⟩|⟨a,ws,rfl,g,q',st⟩
   ·exact⟨.fix ws,ws,rfl,q',rfl,λ_ _ _=>rfl⟩
   ·exact⟨.live a,ws,rfl,q',dS g,λh' hk _=>dS (st h' hk)⟩
 |range=>
  cases d<;>first|(cases e;done)|skip
  rw[Dn]at q;subst q;rename_i n;change (if inR n=true then some (bQ 0 n.toNat) else none)=some _ at e;split at e
  ·rename_i hn;cases e;exact⟨.fix _,_,Wg hn,gr,rfl,λ_ _ _=>rfl⟩
  ·cases e
 |enum=>
  cases d<;>first|(cases e;done)|skip
  cases e
  rcases lst _ rfl with ⟨ws,rfl,q'⟩|⟨a,ws,rfl,g,q',st⟩
  ·exact⟨.fix _,_,rfl,eE 0 q',rfl,λ_ _ _=>rfl⟩
  ·exact⟨.enum a,_,rfl,eE 0 q',dU g,λh' hk _=>dU (st h' hk)⟩
 |zip=>cases e
theorem BQ{α β γ δ:Type}{R:α -> Hs -> β -> Prop}{R':γ -> Hs -> δ -> Prop}{m:M β}{f:β -> M δ}{p:Pr α}{F:α -> Pr γ}(r:Rel A h R (m h) p)(k:∀a h1 b,p=.ok a->h<+:h1->R a h1 b->Rel A h1 R' (f b h1) (F a)):Rel A h R' (bnd m f h) (pb p F):=by
 unfold bnd;cases p with
 |ok a=>
  obtain⟨b,h1,e,q,r⟩:=r;rw[e];show Rel A h R' (f b h1) (F a);have:=k a h1 b rfl q r;cases e2:F a with
  |ok c=>rw[e2]at this;obtain⟨d,h2,e3,q2,r2⟩:=this;exact⟨d,h2,e3,q.trans q2,r2⟩
  |exc c es=>rw[e2]at this;obtain⟨d,h2,e3,q2,r2⟩:=this;exact⟨d,h2,e3,q.trans q2,r2⟩
  |no=>trivial
 |exc c es=>obtain⟨ws,h1,e,q,r⟩:=r;rw[e];exact⟨ws,h1,rfl,q,r⟩
 |no=>trivial
theorem BR{e e2:IE}(h:gg Ψ (.cons e (.cons e2 r)) aa=.ok ds):2<=ds.length:=by
 rw[gg,gg]at h;cases h1:(if isVar e=true then pl (iS aa e) else aW Ψ e aa) with
 |ok a=>
  rw[h1]at h;cases h2:(if isVar e2=true then pl (iS aa e2) else aW Ψ e2 aa) with
  |ok b=>
   rw[h2]at h;cases h3:gg Ψ r aa with
   |ok c=>rw[h3]at h;cases h;simp
   |exc _ _=>rw[h3]at h;cases h
   |no=>rw[h3]at h;cases h
  |exc _ _=>rw[h2]at h;cases h
  |no=>rw[h2]at h;cases h
 |exc _ _=>rw[h1]at h;cases h
 |no=>rw[h1]at h;cases h
theorem BS{d1 d2:Val}(ex:fF k [d1,d2]=some xs):k=.range/\∃n m,d1=.int n/\d2=.int m/\(inR n&&inR m)=true/\xs=bQ n (m-n).toNat:=by
 cases k with
 |seq=>cases d1<;>cases ex
 |enum=>cases d1<;>cases ex
 |zip=>cases ex
 |range=>
  cases d1<;>first|(cases ex;done)|skip
  cases d2<;>first|(cases ex;done)|skip
  rename_i n m;change (if (inR n&&inR m)=true then some (bQ n (m-n).toNat) else none)=some xs at ex
  by_cases hn:(inR n&&inR m)=true
  ·rw[Wg hn]at ex;cases ex;exact⟨rfl,n,m,rfl,rfl,hn,rfl⟩
  ·rw[We hn]at ex;cases ex
theorem vJ{d1 d2 d3:Val}:fF k (d1::d2::d3::r)=none:=by
 cases k with
 |seq=>cases d1<;>rfl
 |enum=>cases d1<;>rfl
 |zip=>rfl
 |range=>cases d1<;>first|rfl|(cases d2<;>rfl)
theorem E4{A0:AP}{h0:Hs}{m:List Nat}(hΦ:∀j,Imp (Φ j) (Ψ j))(hi:kG it=true)(s:SR A0 h0 aa env h O)(hm:∀i,it=.cons (.var i) .nil->i∉m) :
  Rel (Al A0 O) h (λxs h' src=>∃ws,ak (Al A0 O) h' xs ws/\src.items h'=some ws/\vI h' O m src ws) (bnd (bg Φ it env) (λits=>aT (srcOf k its)) h) (pb (gg Ψ it aa) λits=>pl (fF k its)):=by
 have V:=v_all hΦ;cases it with
 |nil=>rw[gg];cases k<;>trivial
 |cons e es=>
  cases es with
  |nil=>
   replace hi:=bU hi
   by_cases hv:isVar e=true
   ·cases e<;>first|(cases hv;done)|skip
    rename_i i;rw[gg,gg,Wg hv];simp only[iS];cases hx:aa[i]? with
    |none=>trivial
    |some o=>
     cases o with
     |none=>trivial
     |some fd=>
      obtain⟨f,d⟩:=fd;show Rel _ _ _ _ (pl (fF k [d]));cases hf:rM f with
      |false=>
       have hf:f=.ow:=by cases f<;>first|rfl|cases hf
       subst hf;obtain⟨a,e2,e3,e4⟩:=s.ow i d hx;have ev:bnd (bg Φ #[.var i] env) (λits=>aT (srcOf k its)) h=aT (srcOf k [.ref a]) h:=by rw[bg,bg,aC,bG (eW e2)];rfl
       rw[ev];refine aX λxs ex=>?_;have hd:∃ds,d=.rl ds:=by cases d<;>first|exact⟨_,rfl⟩|exact False.elim e4|(cases k<;>cases ex)
       obtain⟨ds,rfl⟩:=hd;obtain⟨vs,e4,e5⟩:=e4;have st:∀h':Hs,(∀i,i∉m->∀a,O i=some a->h'[a]?=h[a]?)->h'[a]?=some (Ob.lst vs):=λh' hs=>(hs i (hm i rfl) a e3).trans e4;cases k with
       |seq=>cases ex;exact⟨.live a,rfl,vs,e5,dS e4,λh' _ hs=>dS (st h' hs)⟩
       |range=>cases ex
       |enum=>cases ex;exact⟨.enum a,rfl,_,eE 0 e5,dU e4,λh' _ hs=>dU (st h' hs)⟩
       |zip=>cases ex
      |true=>
       obtain⟨v,e1,e2,_⟩:=s.sh i f d hx hf;have ev:bnd (bg Φ #[.var i] env) (λits=>aT (srcOf k its)) h=aT (srcOf k [v]) h:=by rw[bg,bg,aC,bG (eW e1)];rfl
       rw[ev];refine aX λxs ex=>?_;obtain⟨src,ws,a1,a2,a3,a4⟩:=BP (m:=m) e2 ex;exact⟨src,a1,ws,a2,a3,a4⟩
   ·rw[gg,gg,We hv]
    have ev:bnd (bg Φ #[e] env) (λits=>aT (srcOf k its)) h=bnd (aE Φ e env) (λv=>aT (srcOf k [v])) h:=by rw[bg,bg,aC];rfl
    rw[ev];have ep:(pb (pb (aW Ψ e aa) λd=>pb (Pr.ok ([]:List Val)) λp=>Pr.ok (d.2::p)) λits=>pl (fF k its))=pb (aW Ψ e aa) λd=>pl (fF k [d.2]):=by cases aW Ψ e aa<;>rfl
    rw[ep];refine ah (V.1 e hi.1 aa env _ h s.xF s.er) λx h1 v p1 q1=>aX λxs ex=>?_;obtain⟨src,ws,a1,a2,a3,a4⟩:=BP (m:=m) q1.1 ex;exact⟨src,a1,ws,a2,a3,a4⟩
  |cons e2 r=>
   have V2:=V.2 _ hi;refine BQ (V2.2 aa env _ h s.xF s.er) λds h1 vs eb p1 q1=>aX λxs ex=>?_;have hl:2<=ds.length:=BR eb
   match ds,q1 with
   |[],q1=>cases k<;>cases ex
   |[d],q1=>simp at hl
   |[d1,d2],q1=>obtain⟨v,rr,rfl,hv,hr⟩:=q1;obtain⟨w,rfl,hw⟩:=EH.one hr;obtain⟨rfl,n,m',rfl,rfl,hn,rfl⟩:=BS ex;have:=hv.int;subst this;have:=hw.int;subst this;exact⟨.fix _,Wg hn,_,gr,rfl,λ_ _ _=>rfl⟩
   |d1::d2::d3::dr,q1=>rw[vJ]at ex;cases ex
theorem Ko(hΦ:∀j,Imp (Φ j) (Ψ j))(hi:kG it=true)(hb:rE Φ Ψ ms body):xG Φ Ψ ms (.for p k it body):=λA0 h0 aa env h O s=>by
 rw[eV,bM];refine jw λhg=>?_;rw[XE]at hg;have hm:∀i,it=.cons (.var i) .nil->i∉mS (.for p k it body):=by
  rintro i rfl z;simp only[BF,and_eq_true,not_eq_true',List.contains_eq_mem,decide_eq_false_iff_not]at hg;simp only[mS,o6,mE,mem_append]at z
  rcases z with z|z|z
  ·exact hg.1.1.1 z
  ·exact hg.1.2 z
  ·exact hg.1.1.2 z
 have ev:∀(F:Src->M Fl),bnd (bg Φ it env) (λits=>bnd (aT (srcOf k its)) F) h=bnd (bnd (bg Φ it env) λits=>aT (srcOf k its)) F h:=λF=>by rw[aC]
 have ep:∀(F:List Val->Pr vG),pb (gg Ψ it aa) (λits=>pb (pl (fF k its)) F)=pb (pb (gg Ψ it aa) λits=>pl (fF k its)) F:=λF=>by cases gg Ψ it aa<;>rfl
 rw[ev,ep];refine bh s (E4 (m:=mS (.for p k it body)) hΦ hi s hm) λxs h1 src p1 hx=>?_;obtain⟨ws,q1,q2,st⟩:=hx;have s1:=s.ext p1;have l:=q1.length;have Ri:∀(F:List Val->M Fl),bnd (ask λh=>src.items h) F h1=F ws h1:=λF=>by unfold bnd ask aT;dsimp only;rw[q2]
 rw[Ri];refine gy (t8 (m:=mS (.for p k it body)) (λaj env' h' O' x v s' qx=>?_) st xs ws 0 aa env h1 O s1 (Fm.refl s1 (Wl _)) rfl q1) λf h' g r=>r.pre s p1;refine bh s' (R:=λgx h2 gc=>∃O2,SR A0 h0 gx gc h2 O2/\Fm (stored p) aj env' h' O' gx gc h2 O2) (aX λgx e2=>?_) λgx h2 gc p2 hh=>?_
 ·obtain⟨gc,O2,b1,b2,b3⟩:=s'.bind e2 qx;exact⟨gc,b1,O2,b2,b3⟩
 ·obtain⟨O2,b2,b3⟩:=hh
  refine gy (hb A0 h0 gx gc h2 O2 b2) λf h'' g r=>RF.seq (b3.dH λi hi=>?_) (r.dH λi hi=>?_)
  ·simp only[mS,o6,mE,mem_append];exact .inr (.inl hi)
  ·simp only[EY,mS,o6,mE,mem_append]at hi |-
   rcases hi with z|z
   ·exact .inl z
   ·exact .inr (.inr z)
theorem Kp{n:Nat}(hΦ:∀j,Imp (Φ j) (Ψ j))(hc:cD c=true)(hb:rE Φ Ψ ms body):xG Φ Ψ ms (.whl n c body):=λA0 h0 aa env h O s=>by rw[bM];trivial
theorem GK:rM (SK m)=true:=by cases m<;>rfl
theorem SR.fr{A0:AP}{h0:Hs}(s:SR A0 h0 aa env h O):ER A0 (pq aa) env h:=λi f d e=>by
 unfold pq at e;rw[Ws]at e;cases hx:aa[i]? with
 |none=>rw[hx]at e;cases e
 |some o=>
  rw[hx]at e;cases o with
  |none=>cases e
  |some fd=>
   obtain⟨m,d'⟩:=fd;cases e;rw[We (by rw[GK];decide)];cases hm:rM m with
   |false=>
    have hm:m=.ow:=by cases m<;>first|rfl|cases hm
    subst hm;obtain⟨a,e2,e3,e4⟩:=s.ow i d hx;exact⟨_,e2,(e4.mono (A':=A0) (λ_ g=>g) λ_ _ z=>z.dH λ_ y=>y.1).dn (s.up a (s.own i a e3).1)⟩
   |true=>obtain⟨v,e1,e2,_⟩:=s.sh i m d hx hm;exact⟨v,e1,e2.dH λ_ z=>z.1⟩
theorem qi{A0:AP}{h0:Hs}{α β γ δ:Type}{R:α -> Hs -> β -> Prop}{R':γ -> Hs -> δ -> Prop}{mm:M β}{f:β -> M δ}{p:Pr α}{F:α -> Pr γ}(s:SR A0 h0 aa env h O)(r:Rel A0 h R (mm h) p)(k:∀a h1 b,h<+:h1->R a h1 b->fO A0 h0 R' (f b h1) (F a)):fO A0 h0 R' (bnd mm f h) (pb p F):=by
 unfold bnd;cases p with
 |ok a=>obtain⟨b,h1,e,q,r⟩:=r;rw[e];exact k a h1 b q r
 |exc c es=>obtain⟨ws,h1,e,q,r⟩:=r;rw[e];exact⟨ws,h1,rfl,s.pre.trans q,r⟩
 |no=>trivial
theorem zk(h:EE env es=some p):∃i j,es=.cons (.var i) #[.var j]/\env[i]?=some (some (.nw,p.1))/\env[j]?=some (some (.nw,p.2)):=by
 unfold EE at h;split at h
 ·split at h
  ·rename_i a b;cases h;exact⟨_,_,rfl,a,b⟩
  ·cases h
 ·cases h
theorem Kq(hΦ:∀j,Imp (Φ j) (Ψ j))(ho:cD e=true):xG Φ Ψ ms (.ret e):=λA0 h0 aa env h O s=>by
 have V:=(v_all hΦ).1 e ho;have gen:PD Ψ e aa=aW Ψ e aa->fO A0 h0 (RF A0 h0 (mS (.ret e)) aa env h O) (eV Φ (.ret e) env h) (bM Ψ ms (.ret e) aa):=λhe=>by
  rw[eV,bM,he];exact bh s (V aa env _ h s.xF s.er) λx h1 v p1 q1=>aZ ⟨q1.1.dH λ_ z=>z.1,λf=>(q1.2 f).dH (Fr.le s.pre.length_le),s.pre.trans p1⟩
 cases e with
 |var i=>
  rw[eV,bM];simp only[PD];cases hx:aa[i]? with
  |none=>trivial
  |some o=>
   cases o with
   |none=>trivial
   |some fd=>
    obtain⟨f,d⟩:=fd;cases hf:rM f with
    |false=>
     have hf:f=.ow:=by cases f<;>first|rfl|cases hf
     subst hf;obtain⟨a,e2,e3,e4⟩:=s.ow i d hx;rw[bG (eW e2)];have ha:=s.own i a e3;cases d<;>first|exact False.elim e4|skip
     ·refine⟨_,h,rfl,?_,λhi=>?_,s.pre⟩
      ·exact(e4.mono (A':=A0) (λ_ g=>g) λ_ _ z=>z.dH λ_ y=>y.1).dn (s.up a ha.1)
      ·obtain⟨vs,e4,e5⟩:=e4;show Dn _ h (.rl _) (.ref a);rw[Dn];exact .inr ⟨a,vs,rfl,ha.1,e4,fH e5 hi⟩
     ·refine⟨_,h,rfl,?_,λhi=>?_,s.pre⟩
      ·exact(e4.mono (A':=A0) (λ_ g=>g) λ_ _ z=>z.dH λ_ y=>y.1).dn (s.up a ha.1)
      ·obtain⟨kvs,e4,ek,e5⟩:=e4;show Dn _ h (.dc _ _) (.ref a);rw[Dn];exact⟨a,kvs,rfl,ha.1,e4,ek,fH e5 hi⟩
    |true=>
     obtain⟨v,e1,e2,e3⟩:=s.sh i f d hx hf;rw[bG (eW e1)];dsimp only;rw[Wg hf];refine⟨_,h,rfl,e2.dH λ_ z=>z.1,λhi=>?_,s.pre⟩
     rcases(YO _ _).mp hi with hi|hi
     ·exact(jV d v hi).mpr ((jV d v hi).mp e2)
     ·exact(e3 hi).dH λ_ z=>z.1
 |call j es=>rw[eV,bM];exact qi s (V (pq aa) env A0 h (s.up.ext s.pre) s.fr) λx h1 v p1 q1=>aZ ⟨q1.1,λf=>(q1.2 f).dH (Fr.le s.pre.length_le),s.pre.trans p1⟩
 |tup es=>
  rw[eV,bM];change fO A0 h0 _ _ (pb (EF Ψ es aa) _);unfold EF
  split
  ·rename_i pp hp
   obtain⟨i,j,he,hi,hj⟩:=zk hp;subst he;obtain⟨v,e1,e2,e3⟩:=s.sh i .nw _ hi rfl;obtain⟨w,k1,k2,k3⟩:=s.sh j .nw _ hj rfl;have ev:aE Φ (.tup #[.var i,.var j]) env h=.ok (.tup [v,w]) h:=by rw[aE,bg,bg,bg];rw[bG (a:=[v,w]) (h1:=h) (by rw[bG (eW e1),bG (a:=[w]) (h1:=h) (by rw[bG (eW k1)];rfl)];rfl)];rfl
   rw[bG ev];refine⟨_,h,rfl,?_,λ_=>?_,s.pre⟩
   ·show Dn A0 h (.tup _) _;rw[Dn];exact⟨_,rfl,ak.cons (e2.dH λ_ z=>z.1) (ak.cons (k2.dH λ_ z=>z.1) ak.nil)⟩
   ·show Dn (Fr h0.length) h (.tup _) _;rw[Dn];exact⟨_,rfl,ak.cons ((e3 rfl).dH λ_ z=>z.1) (ak.cons ((k3 rfl).dH λ_ z=>z.1) ak.nil)⟩
  exact qi s (V (pq aa) env A0 h (s.up.ext s.pre) s.fr) λx h1 v p1 q1=>aZ ⟨q1.1,λf=>(q1.2 f).dH (Fr.le s.pre.length_le),s.pre.trans p1⟩
 |_=>exact gen rfl
theorem Kr:rE Φ Ψ ms .nil:=λA0 h0 aa env h O s=>by rw[jA,dw];exact aZ ⟨O,s,Fm.refl s (Wl _)⟩
theorem E5(ha:xG Φ Ψ ms a)(hr:rE Φ Ψ ms r):rE Φ Ψ ms (.cons a r):=λA0 h0 aa env h O s=>by
 rw[jA,dw];have w1:∀i∈mS a,i∈EY (.cons a r):=λi hi=>by
  simp only[mS,EY,fW,jK,mem_append]at hi |-
  rcases hi with z|z
  ·exact .inl (.inl z)
  ·exact .inr (.inl z)
 have w2:∀i∈EY r,i∈EY (.cons a r):=λi hi=>by
  simp only[EY,fW,jK,mem_append]at hi |-
  rcases hi with z|z
  ·exact .inl (.inr z)
  ·exact .inr (.inr z)
 refine n9 (ha A0 h0 aa env h O s) λf h1 g rr=>?_;have rr:=rr.dH w1;cases f<;>cases g<;>first|exact rr.elim|skip
 ·obtain⟨O',s',f'⟩:=rr;exact gy (hr A0 h0 _ _ h1 O' s') λf h' g r'=>RF.seq f' (r'.dH w2)
 ·exact aZ rr
 ·exact aZ rr
 ·exact aZ rr
theorem NL(hΦ:∀j,Imp (Φ j) (Ψ j)):∀ss,oh ss=true->rE Φ Ψ ms ss:=by
 intro ss;refine eT.rec (motive_1:=λs=>Rh s=true->xG Φ Ψ ms s) (motive_2:=λss=>oh ss=true->rE Φ Ψ ms ss) ?_ ?_ ?_ ?_ ?_ ?_ ?_ ?_ ?_ ?_ ?_ ?_ ?_ ?_ ?_ ?_ ss
 ·exact λe f=>EZ hΦ f
 ·exact λp e f=>Kl hΦ f
 ·exact λi o e f=>Km hΦ f
 ·intro o i v f;have f:=n5 f;exact E2 hΦ f.1.1 f.1.2 f.2
 ·intro c a b ia ib f;have f:=n5 f;exact Kn hΦ f.1.1 (ia f.1.2) (ib f.2)
 ·intro p k it b ib f;have f:=bU f;exact Ko hΦ f.1 (ib f.2)
 ·intro n c b ib f;have f:=bU f;exact Kp hΦ f.1 (ib f.2)
 ·exact λe f=>Kq hΦ f
 ·exact λ_ A0 h0 aa env h O s=>by rw[eV,bM];exact aZ ⟨by rw[Dn],λ_=>by rw[Dn],s.pre⟩
 ·exact λ_ A0 h0 aa env h O s=>by rw[eV,bM];exact aZ ⟨O,s,Fm.refl s (Wl _)⟩
 ·exact λ_ A0 h0 aa env h O s=>by rw[eV,bM];exact aZ ⟨O,s,Fm.refl s (Wl _)⟩
 ·exact λ_ A0 h0 aa env h O s=>by rw[eV,bM];exact aZ ⟨O,s,Fm.refl s (Wl _)⟩
 ·exact λ_ A0 h0 aa env h O s=>by rw[bM];trivial
 ·exact λ_ e _ _ f A0 h0 aa env h O s=>by rw[eV,bM];exact bh s (((v_all hΦ).1 e f) aa env _ h s.xF s.er) λx h1 v p1 q1=>trivial
 ·exact λ_=>Kr
 ·intro a r ia ir f;have f:=bU f;exact E5 (ia f.1) (ir f.2)
theorem NO{n:Nat}(u:Up A h)(q:ak A h ds vs):SR A h (ds.map (λd=>some (.sh,d))++replicate (n-ds.length) none) (vs.map some++replicate (n-vs.length) none) h (λ_=>none):=by
 have l:=q.length;have al:∀k,A k->Al A (λ_=>none) k:=λk hk=>⟨hk,λi z e=>by subst e;cases z⟩;have get:∀(i:Nat) (f:Mk) (d:Val),(ds.map (λd=>some (.sh,d))++replicate (n-ds.length) none:aH)[i]?=some (some (f,d))->f=.sh/\ds[i]?=some d:=λi f d e=>by
  by_cases hi:i<ds.length
  ·rw[Wi (by simpa using hi),Ws]at e
   cases ei:ds[i]? with
   |none=>rw[ei]at e;cases e
   |some d'=>rw[ei]at e;cases e;exact⟨rfl,rfl⟩
  ·rw[Wv (by simp;omega)]at e;have:=Wn e;rw[Yx]at this;exact absurd this.2 (by simp)
 refine⟨by simp[l],λi m d e hm=>?_,λi d e=>?_,(λi a e=>nomatch e),(λi j a e=>nomatch e),Wl _,u⟩
 ·obtain⟨hm',e⟩:=get i m d e;obtain⟨v,k1,k2⟩:=q.get e;have hi:i<vs.length:=(V4.mp k1).1;exact⟨v,by rw[Wi (by simpa using hi),Ws,k1];rfl,k2.dH al,λz=>by subst hm';cases z⟩
 ·obtain⟨z,_⟩:=get i .ow d e;cases z
theorem bR{n:Nat}(hΦ:∀j,Imp (Φ j) (Ψ j))(ho:oh body=true):Imp (kW Φ n body) (fG Ψ n body):=λA h ds vs u q=>by
 have l:=q.length;have s:=NO (n:=n) u q;unfold kW fG;have r:=n9 (R':=λx h' v=>h<+:h'/\RV A h x h' v) (NL (ms:=fW body) hΦ body ho A h _ _ h _ s) (f:=λf=>match f with
  |.nx _=>ret .non
  |.rt v=>ret v
  |_=>aT none) (F:=λf=>match f with
  |.nx _=>.ok (true,.non)
  |.rt p=>.ok p
  | _=>.no) λf h1 g rr=>by
   cases f<;>cases g<;>first|exact rr.elim|skip
   ·obtain⟨O',s',_⟩:=rr;exact aZ ⟨s'.pre,by show Dn _ _ Val.non _;rw[Dn],λ_=>by show Dn _ _ Val.non _;rw[Dn]⟩
   ·exact aZ ⟨rr.2.2,rr.1,rr.2.1⟩
   ·trivial
   ·trivial
 revert r;generalize (pb (dw Ψ (fW body) body (ds.map (λd=>some (.sh,d))++replicate (n-ds.length) none)) _)=p;intro r;cases p with
 |ok x=>obtain⟨v,h',e,a,b⟩:=r;exact⟨v,h',e,a,b⟩
 |exc c es=>exact r
 |no=>trivial
end
abbrev bw:=List Val->Pr FV
def aB(gs:List bw)(j:Nat):bw:=match gs[j]? with
 |some g=>g
 |none=>λ_=>.no
def eF(fs:List Row)(gs:List bw):Prop:=fs.length=gs.length/\∀(j:Nat) (r:Row) (g:bw),fs[j]?=some r->gs[j]?=some g->Imp r.2.2 g
theorem BU:eF [] []:=⟨rfl,λj r g e=>by simp at e⟩
theorem aL(a:eF fs gs)(j:Nat):Imp (look fs j) (aB gs j):=by
 unfold look aB;cases e:fs[j]? with
 |none=>
  have:gs[j]?=none:=by have:=Xj.mp e;exact Xj.mpr (by rw[<-a.1];exact this)
  rw[this];exact λ_ _ _ _ _ _=>trivial
 |some r=>
  cases e2:gs[j]? with
  |none=>exact λ_ _ _ _ _ _=>trivial
  |some g=>exact a.2 j r g e e2
theorem aF{k:Nat}(a:eF fs gs)(i:Imp f g):eF (fs++[(x,k,f)]) (gs++[g]):=by
 refine⟨by simp[a.1],λj r g' e1 e2=>?_⟩
 by_cases hj:j<fs.length
 ·rw[Wi hj]at e1;rw[Wi (by rw[<-a.1];exact hj)]at e2;exact a.2 j r g' e1 e2
 ·rw[Wv (by omega)]at e1
  rw[Wv (by rw[<-a.1];omega)]at e2;have hj0:j-fs.length=0:=by have:=(V4.mp e1).1;simp at this;omega
  rw[<-a.1]at e2;rw[hj0]at e1 e2;simp at e1 e2;subst e1;subst e2;exact i
theorem BV(i:Imp φ ψ){ns:List Int}{f:Bool}(e:ψ [.rl (ns.map .int)]=.ok (f,.bl true)):∃h',φ [.rl (ns.map .int)] []=.ok (.bl true) h':=by
 have r:=i (λ_=>True) [] [.rl (ns.map .int)] [.rl (ns.map .int)] (λ_ _=>trivial) (ak.cons (by rw[Dn];exact .inl ⟨_,rfl,trivial,(bC _ _ (bO ns)).mpr rfl⟩) ak.nil);rw[e]at r;obtain⟨v,h',e1,_,q⟩:=r;have q:=q.1;dsimp only at q;rw[Dn]at q;subst q;exact⟨h',e1⟩
section
variable {α β γ:Type}
theorem cg(a:α)(f:α -> Pr β):pb (.ok a) f=f a:=rfl
theorem rF(c:Nat)(ds:List Val)(f:α -> Pr β):pb (.exc c ds) f=.exc c ds:=rfl
theorem Ks(c:Prop)[Decidable c](m n:Pr α)(f:α -> Pr β):pb (if c then m else n) f=if c then pb m f else pb n f:=by split<;>rfl
theorem lY(m:Pr α)(f:α -> Pr β)(g:β -> Pr γ):pb (pb m f) g=pb m λx=>pb (f x) g:=by cases m<;>rfl
theorem gY(a:α):pl (some a)=.ok a:=rfl
theorem E6(m:Pr α):pg true m=m:=rfl
theorem Ku(c:Prop)[Decidable c](m:Pr α):pg (decide c) m=if c then m else .no:=by unfold pg;simp
theorem rG{c:Bool}(h:c=true)(m:Pr α):pg c m=m:=by rw[h];rfl
end
theorem NP{f:Bool}:rM (jU f d)=true:=by unfold jU;split<;>rfl
theorem NR:rM .sh=true:=rfl
theorem NS:rM .nw=true:=rfl
theorem NU:rM .ow=false:=rfl
theorem NV:LH .sh=false:=rfl
theorem NW:LH .nw=true:=rfl
theorem Kv{f:Bool}{i:Int}:jU f (.int i)=.sh:=by cases f<;>rfl
theorem NY{f:Bool}{i:Bool}:jU f (.bl i)=.sh:=by cases f<;>rfl
theorem Kw{f:Bool}:jU f (.str i)=.sh:=by cases f<;>rfl
theorem Ky{f:Bool}:jU f .non=.sh:=by cases f<;>rfl
theorem Rj:jU false d=.sh:=rfl
theorem NZ:jU true (.rl ds)=.nw:=rfl
theorem N1:jU true (.dc ks ds)=.nw:=rfl
theorem t9(Q:List Val->aH->Prop):∀(xs done:List Val) (env:aH),Q done env->(∀(pre:List Val) (x:Val) (post:List Val) (env:aH),done++xs=pre++x::post->Q pre env->∃env',(body x env=.ok (.nx env')\/body x env=.ok (.ct env'))/\Q (pre++[x]) env')->∃env',gp body xs env=.ok (.nx env')/\Q (done++xs) env'
 |[],done,env,q,_=>⟨env,rfl,by rw[W8];exact q⟩
 | x::xs,done,env,q,h=>by
  obtain⟨env',e,q'⟩:=h done x xs env rfl q;have eq:done++x::xs=done++[x]++xs:=by simp
  obtain⟨gc,e2,q2⟩:=t9 Q xs (done++[x]) env' q' (by rw[<-eq];exact h);refine⟨gc,?_,by rw[eq];exact q2⟩;rw[gp]
  rcases e with e|e<;>(rw[e,cg];exact e2)
section
variable {a b:Int} {x y:Str} {t:Bool} {vs ws:List Val} {v:Val}
theorem N2:kD .add (.int a) (.int b)=.ok (true,.int (a+b)):=rfl
theorem N3:kD .sub (.int a) (.int b)=.ok (true,.int (a-b)):=rfl
theorem xN(h:fV a b=true):kD .mul (.int a) (.int b)=.ok (true,.int (a*b)):=by simp only[kD];exact rG h _
theorem vK(h:oY b=true):kD .fdiv (.int a) (.int b)=.ok (true,.int (a/b)):=by simp only[kD];exact rG h _
theorem eY(h:decide (0<b)=true):kD .mod (.int a) (.int b)=.ok (true,.int (a%b)):=by simp only[kD];exact rG h _
theorem BW(h:decide (0<=b/\b<=1000000/\a.natAbs<2 ^ 64)=true):kD .pow (.int a) (.int b)=.ok (true,.int (a ^ b.toNat)):=by simp only[kD];exact rG h _
theorem Rk:cop [] .lt (.int a) (.int b)=some (decide (a<b)):=rfl
theorem Rm:cop [] .le (.int a) (.int b)=some (decide (a<=b)):=rfl
theorem Rn:cop [] .gt (.int a) (.int b)=some (decide (b<a)):=rfl
theorem Ro:cop [] .ge (.int a) (.int b)=some (decide (b<=a)):=rfl
theorem Rp:cop [] .eq (.int a) (.int b)=some (decide (a=b)):=by
 show some (a==b)=_
 congr 1
theorem Rq:cop [] .ne (.int a) (.int b)=some (!decide (a=b)):=by
 show some (!(a==b))=_
 congr 1
theorem N4:cop [] .isn v .non=some (nG v):=by cases v<;>rfl
theorem N5:cop [] .ntn v .non=some (!nG v):=by cases v<;>rfl
theorem GL:cG [] (.bl t)=some t:=rfl
theorem N6:cG [] (.int a)=some (a != 0):=rfl
theorem N7:cG [] (.rl vs)=some (!vs.isEmpty):=rfl
theorem N8:cG [] (.tup vs)=some (!vs.isEmpty):=rfl
theorem N9:gf .len [.rl vs]=.ok (true,.int vs.length):=rfl
theorem Oa:gf .len [.tup vs]=.ok (true,.int vs.length):=rfl
theorem Oc:gf .min [.int a,.int b]=.ok (true,.int (if b<a then b else a)):=rfl
theorem Od:gf .max [.int a,.int b]=.ok (true,.int (if b>a then b else a)):=rfl
theorem Kz:gf .min [.tup [.int a,.int b]]=.ok (true,.int (min a b)):=rfl
theorem KA:gf .max [.tup [.int a,.int b]]=.ok (true,.int (max a b)):=rfl
theorem KC:gf .list [.rl vs]=.ok (cI vs,.rl vs):=rfl
theorem KG:gf .list [.tup vs]=.ok (cI vs,.rl vs):=rfl
theorem Oe:gf .int [.bl t]=.ok (true,.int (if t=true then 1 else 0)):=rfl
theorem qj(h:gJ vs a=some v):iM [] (.rl vs) (.int a)=some v:=h
theorem bV(h:gJ vs a=some v):iM [] (.tup vs) (.int a)=some v:=h
end
theorem kI:gJ (v::vs) (0:Int)=some v:=by
 have:=mJ (xs:=v::vs) (j:=0) (v:=v) rfl;exact this
theorem lD:gJ (u::v::vs) (1:Int)=some v:=by
 have:=mJ (xs:=u::v::vs) (j:=1) (v:=v) rfl;exact this
theorem lE{T:String}{t:String}(h1:sW [] v=some t)(h2:sX T t=some true):gf (.isin T) [v]=.ok (true,.bl true):=by
 show pb (pl (sW [] v)) _=_;rw[h1,gY,cg,h2];rfl
theorem vL{T:String}{t:String}(h1:sW [] v=some t)(h2:sX T t=some false):gf (.isin T) [v]=.ok (true,.bl false):=by
 show pb (pl (sW [] v)) _=_;rw[h1,gY,cg,h2];rfl
theorem ne_self(h:toD 16 [] d=some p)(hp:p.canLay0=true):cop [] .ne d d=some false:=by
 simp only[cop,zE,h,bind_some];rw[SeqAt.eqv_refl p hp];rfl
theorem Of:fF .seq [.tup vs]=some vs:=rfl
theorem iB:fF .seq [.rl vs]=some vs:=rfl
theorem KH:BC .seq ds=fF .seq ds:=rfl
theorem KI:BC .range ds=fF .range ds:=rfl
theorem KJ:BC .enum ds=fF .enum ds:=rfl
theorem GN:fF .enum [.rl vs]=some (bJ 0 vs):=rfl
theorem Og{lo hi:Option Int}:BB (.rl vs) lo hi=.ok (cI (fh vs lo hi),.rl (fh vs lo hi)):=rfl
theorem cj{i:Nat}:eB (.one i) d env=some (env.set i (some (.sh,d))):=rfl
theorem BX{i j:Nat}:eB (.tup [i,j]) (.tup [d,e]) env=some ((env.set i (some (.sh,d))).set j (some (.sh,e))):=rfl
theorem BY{α β:Type}(f:α -> β)(ds:List α)(lo hi:Option Int):fh (ds.map f) lo hi=(fh ds lo hi).map f:=by
 unfold fh;simp only[length_map,List.map_take,List.map_drop]
theorem lF:∀(i:Nat) (ds:List Val),(bJ i ds).length=ds.length
 |_,[]=>rfl
 |i,d::r=>by rw[bJ,WJ,lF (i+1) r,WJ]
theorem gz{α β γ:Type}{f:β -> Option γ}{g:α -> β}{k:α -> γ}:∀(xs:List α),(∀x∈xs,f (g x)=some (k x))->bX f (xs.map g)=some (xs.map k)
 |[],_=>rfl
 | x::r,h=>by
  rw[Wm,bX,h x V8,gz r λy hy=>h y (V5 _ hy)];rfl
theorem ints_map(xs:List Int):aS (xs.map .int)=some xs:=by
 have:=gz (f:=λv=>match v with|.int i=>some i|_=>none) (g:=Val.int) (k:=id) xs λ_ _=>rfl;rw[YT]at this;exact this
theorem vM(mP:List (List Int))(h:∀k∈mP,k≠[])(hl:mP.length<64):fz (mP.map jR)=some ((ko mP).map jR):=by
 unfold fz;rw[Wg (by rw[V9];exact hl)];cases mP with
 |nil=>rfl
 |cons k r=>
  have e:aS (List.map jR (k::r))=none:=by unfold aS ;rw[Wm,bX];rfl
  rw[e];have e2:jJ (List.map jR (k::r))=some (k::r):=by
   have:=gz (f:=λv=>match v with|.tup vs=>if vs.isEmpty then none else aS vs|_=>none) (g:=jR) (k:=id) (k::r) λx hx=>by
    have hx:=h x hx;show (if (x.map Val.int).isEmpty=true then none else aS (x.map .int))=some x;rw[We (by simpa using hx),ints_map]
   rw[YT]at this;exact this
  show (jJ (List.map jR (k::r))).bind _=_;rw[e2];rfl
theorem vN{α:Type}(xs:List α):dO (xs.map λ_=>Val.bl true)=some (xs.map λ_=>true):=gz (g:=λ_=>Val.bl true) (k:=λ_=>true) xs λ_ _=>rfl
theorem all_true{α:Type}(xs:List α):gf .all [.rl (xs.map λ_=>Val.bl true)]=.ok (true,.bl true):=by
 show pb (pl (dO _)) _=_;rw[vN,gY,cg]
 congr 3
 simp
theorem BZ{m7:aH}{β:Type}{k:vG->Pr β}(G:Pr β -> Prop)(Q:List Val->aH->Prop)(h0:Q [] m7)
  (step:∀(pre:List Val) (x:Val) (env:aH),x∈xs->pre.length<xs.length->Q pre env->∃env',body x env=.ok (.nx env')/\Q (pre++[x]) env')
  (post:∀env',Q xs env'->G (k (.nx env'))):G (pb (gp body xs m7) k):=by
 obtain⟨env',e,q⟩:=t9 Q xs [] m7 h0 (λpre x post env ep q=>by
  rw[YQ]at ep;obtain⟨env',e,q'⟩:=step pre x env (by rw[ep];simp) (by rw[ep];simp) q;exact⟨env',.inl e,q'⟩)
 rw[e,cg];exact post env' (by rw[YQ]at q;exact q)
theorem B0{α:Type}{n:Nat}(f:α -> Val)(g:α -> PyData)(xs:List α)(e:∀x∈xs,toD n h (f x)=some (g x)):toD (n+1) h (.rl (xs.map f))=some (.list (xs.map g)):=by
 show (bX (toD n h) _).bind _=_;rw[gz xs e];rfl
theorem E7{α:Type}{n:Nat}(f:α -> Val)(g:α -> PyData)(xs:List α)(e:∀x∈xs,toD n h (f x)=some (g x)):toD (n+1) h (.tup (xs.map f))=some (.tuple (xs.map g)):=by
 show (bX (toD n h) _).bind _=_;rw[gz xs e];rfl
theorem B3{n:Nat}(ks:List Int):toD (n+2) h (jR ks)=some (.tuple (ks.map .int)):=E7 _ _ ks λ_ _=>rfl
theorem jW{α:Type}(g:α -> PyData):∀(xs:List α),(∀x∈xs,(g x).canLay0=true)->PyData.canLayAll0 (xs.map g)=true
 |[],_=>by simp[PyData.canLayAll0]
 | x::r,h=>by
  rw[Wm,PyData.canLayAll0,h x V8,jW g r λy hy=>h y (V5 _ hy)];rfl
theorem qk{α:Type}(enc:α -> Val)(Q:List α -> aH->Prop):∀(us done:List α) (env:aH),Q done env->(∀(pre:List α) (u:α) (post:List α) (env:aH),done++us=pre++u::post->Q pre env->∃env',body (enc u) env=.ok (.nx env')/\Q (pre++[u]) env')->∃env',gp body (us.map enc) env=.ok (.nx env')/\Q (done++us) env'
 |[],done,env,q,_=>⟨env,rfl,by rw[W8];exact q⟩
 | x::xs,done,env,q,h=>by
  obtain⟨env',e,q'⟩:=h done x xs env rfl q;have eq:done++x::xs=done++[x]++xs:=by simp
  obtain⟨gc,e2,q2⟩:=qk enc Q xs (done++[x]) env' q' (by rw[<-eq];exact h);refine⟨gc,?_,by rw[eq];exact q2⟩;rw[Wm,gp,e,cg];exact e2
theorem cS{α:Type}(enc:α -> Val){us:List α}{m7:aH}{β:Type}{k:vG->Pr β}(G:Pr β -> Prop)(Q:List α -> aH->Prop)(h0:Q [] m7)
  (step:∀(pre:List α) (u:α) (post:List α) (env:aH),us=pre++u::post->Q pre env->∃env',body (enc u) env=.ok (.nx env')/\Q (pre++[u]) env')
  (post:∀env',Q us env'->G (k (.nx env'))):G (pb (gp body (us.map enc) m7) k):=by
 obtain⟨env',e,q⟩:=qk enc Q us [] m7 h0 (λpre x post env ep q=>step pre x post env ep q);rw[e,cg];exact post env' q
theorem GO{x:Int}:keyOf (.int x)=some (.inl x):=rfl
theorem E8(a b:Int):PyData.eqv (.int a) (.int b)=decide (a=b):=by
 show (a==b)=_
 by_cases h:a=b<;>simp[h]
theorem Oh{xs:List Int}{x:Int}:cop [] .LA (.int x) (.rl (xs.map .int))=some (decide (x∈xs)):=by
 show (toD 16 [] (.rl (xs.map .int))).bind _=_;rw[B0 Val.int PyData.int xs λ_ _=>rfl];show some ((xs.map PyData.int).any λy=>PyData.eqv y (.int x))=_
 congr 1
 induction xs with
 |nil=>rfl
 |cons y r ih=>
  rw[Wm,YE,ih,E8]
  by_cases e:y=x
  ·subst e;simp
  ·have e':¬ x=y:=λh=>e h.symm;simp[e,e']
theorem B4{xs:List Int}{x:Int}:cop [] .nin (.int x) (.rl (xs.map .int))=some (!decide (x∈xs)):=by
 show (cop [] .LA (.int x) (.rl (xs.map .int))).map _=_;rw[Oh];rfl
def mz(ns:List Int):List Int:=sortI (kg [] ns)
abbrev T3:=Int×Int×Int
def l3(t:T3):List Int:=[t.1,t.2.1,t.2.2]
def aI(t:T3):Val:=.tup [.int t.1,.int t.2.1,.int t.2.2]
def oj(x:T3):List T3->List T3
 |[]=>[x]
 |y::r=>if HT.lexLt (l3 y) (l3 x)=true then y::oj x r else x::y::r
def cU:List T3->List T3
 |[]=>[]
 |x::r=>oj x (cU r)
theorem ua(x:T3):∀l:List T3,qS (l3 x) (l.map l3)=(oj x l).map l3
 |[]=>rfl
 | y::r=>by
  rw[Wm,qS,oj]
  split
  ·rw[Wm,ua x r]
  ·rfl
theorem ql:∀l:List T3,ko (l.map l3)=(cU l).map l3
 |[]=>rfl
 |x::r=>by rw[Wm,ko,ql r,ua];rfl
theorem lG(x:T3):∀l:List T3,(oj x l).Perm (x::l)
 |[]=>.refl _
 | y::r=>by
  rw[oj]
  split
  ·exact((lG x r).cons y).trans (List.Perm.swap ..)
  ·exact .refl _
theorem gZ:∀l:List T3,(cU l).Perm l
 |[]=>.refl _
 |x::r=>(lG x _).trans ((gZ r).cons x)
theorem E9(ts:List T3)(hl:ts.length<64):fz (ts.map aI)=some ((cU ts).map aI):=by
 have e:∀us:List T3,us.map aI=(us.map l3).map jR:=λus=>by rw[Yt];rfl
 rw[e,vM _ (λk hk=>by obtain⟨t,_,rfl⟩:=W4.mp hk;simp[l3]) (by rw[V9];exact hl),ql,e]
theorem uc(hl:ts.length<64):gf .sorted [.rl (ts.map aI)]=.ok (true,.rl ((cU ts).map aI)):=by
 show pb (pl (fz _)) _=_;rw[E9 ts hl];rfl
def zF(ts:List T3):Prop:=ts.Pairwise λa b=>a.1<b.1
theorem xP(x:T3):∀l:List T3,zF l->(∀y∈l,y.1≠x.1)->zF (oj x l)
 |[],_,_=>by simp[oj,zF]
 | y::r,h,hn=>by
  unfold zF at *;rw[WK]at h;have ny:y.1≠x.1:=hn y V8;rw[oj];have lx:HT.lexLt (l3 y) (l3 x)=decide (y.1<x.1):=by show HT.lexLt (y.1::_) (x.1::_)=_;rw[HT.dM,We ny]
  rw[lx]
  by_cases c:y.1<x.1
  ·rw[Wg (by simpa using c),WK]
   refine⟨λz hz=>?_,xP x r h.2 λz hz=>hn z (V5 _ hz)⟩
   rcases Wf.mp ((lG x r).mem_iff.mp hz) with hz|hz
   ·rw[hz];exact c
   ·exact h.1 z hz
  ·rw[We (by simpa using c),WK,WK]
   refine⟨λz hz=>?_,h⟩;have:x.1<y.1:=by omega
   rcases Wf.mp hz with hz|hz
   ·rw[hz];exact this
   ·have:=h.1 z hz;omega
theorem ud:∀l:List T3,(l.map (·.1)).Nodup->zF (cU l)
 |[],_=>.nil
 | x::r,h=>by
  rw[Wm,WH]at h;refine xP x _ (ud r h.2) λy hy e=>h.1 ?_;rw[(gZ r).mem_iff]at hy;exact W4.mpr ⟨y,hy,e⟩
def turnT(t:T3):T3:=(t.1,if t.2.2<t.2.1 then t.2.2 else t.2.1,if t.2.2>t.2.1 then t.2.2 else t.2.1)
def aR(p q:Int)(ts:List T3):Val:=.tup [.tup [.int p,.int q],.rl (ts.map aI)]
theorem xQ(p q:Int)(ts:List T3):cop [] .ne (aR p q ts) (aR p q ts)=some false:=by
 have h1:toD 15 [] (.tup [.int p,.int q])=some (.tuple [.int p,.int q]):=rfl;have h2:toD 15 [] (.rl (ts.map aI))=some (.list (ts.map λt=>.tuple ((l3 t).map .int))):=B0 aI _ ts λt _=>B3 (l3 t);have h:toD 16 [] (aR p q ts)=some (.tuple [.tuple [.int p,.int q],.list (ts.map λt=>.tuple ((l3 t).map .int))]):=by show (bX (toD 15 []) _).bind _=_;rw[bX,h1,bX,h2,bX];rfl
 refine ne_self h ?_;have hi:∀xs:List Int,PyData.canLayAll0 (xs.map PyData.int)=true:=λxs=>jW _ _ λ_ _=>by rw[PyData.canLay0]
 have h3:PyData.canLayAll0 (ts.map λt=>.tuple ((l3 t).map .int))=true:=jW _ _ λt _=>by rw[PyData.canLay0];exact hi _
 have h4:=hi [p,q];simp only[map_cons,map_nil]at h4;rw[PyData.canLay0,PyData.canLayAll0,PyData.canLay0,h4,PyData.canLayAll0,PyData.canLay0,h3,PyData.canLayAll0];rfl
theorem fX{i j k:Nat}:eB (.tup [i,j,k]) (aI t) env=some (((env.set i (some (.sh,.int t.1))).set j (some (.sh,.int t.2.1))).set k (some (.sh,.int t.2.2))):=rfl
theorem zm{α:Type}(ds:List α)(lo:Int)(n:Nat)(h:0<=lo):(fh ds (some lo) (some (lo+n))).length<=n:=by
 unfold fh HT.dg;dsimp only;rw[We (by omega),We (by omega)];simp only[List.length_take,List.length_drop];omega
theorem om{α:Type}(enc:α -> Val)(g:α -> FV):∀(us:List α),(∀u∈us,f (enc u)=.ok (some (g u)))->iA f (us.map enc)=.ok (us.all λu=>(g u).1,us.map λu=>(g u).2)
 |[],_=>rfl
 | x::xs,h=>by
  rw[Wm,iA,h x V8,cg,om enc g xs λy hy=>h y (V5 _ hy),cg];rfl
theorem g9{α:Type}(enc dec:α -> Val)(us:List α)(h:∀u∈us,f (enc u)=.ok (some (true,dec u))):iA f (us.map enc)=.ok (true,us.map dec):=by
 rw[om enc (λu=>(true,dec u)) us h];simp
theorem ic{α:Type}(enc dec:α -> Val)(t:α -> Bool):∀(us:List α),(∀u∈us,f (enc u)=.ok (if t u=true then some (true,dec u) else none))->iA f (us.map enc)=.ok (true,(us.filter t).map dec)
 |[],_=>rfl
 | x::xs,h=>by
  rw[Wm,iA,h x V8,cg,ic enc dec t xs λy hy=>h y (V5 _ hy),cg]
  by_cases hx:t x=true
  ·rw[Wg hx,XX hx];rfl
  ·rw[We hx,XY hx]
theorem Fb:∀m,m<67->∀d,d<67->0<m->0<d->(m*d)%67≠0:=by decide +kernel
theorem Fc{m c i j:Int}(hm:0<m/\m<67)(hi:0<=i/\i<67)(hj:0<=j/\j<67)(e:(m*i+c)%67=(m*j+c)%67):i=j:=by
 have key:∀i j:Int,0<=i->j<67->i<j->(m*i+c)%67=(m*j+c)%67->False:=by
  intro i j h0 h1 hlt e;obtain⟨a,ha⟩:=XZ (show 0<=m by omega);obtain⟨d,hd⟩:=XZ (show 0<=j-i by omega);have p:=Fb a (by omega) d (by omega) (by omega) (by omega);have:m*j=m*i+m*(j-i):=by rw[Int.mul_sub];omega
  rw[this]at e;have e2:(m*(j-i))%67=0:=by omega
  rw[ha,hd]at e2;apply p;have:((a*d:Nat):Int)%67=0:=by rw[Int.natCast_mul];exact e2
  omega
 rcases Int.lt_trichotomy i j with h|h|h
 ·exact(key i j hi.1 hj.2 h e).elim
 ·exact h
 ·exact(key j i hj.1 hi.2 h e.symm).elim
end Hv
end
section
namespace Hv
open PySem L2 PyProof.Rows
def Oi(b:List Stmt)(g:Str):Prop:=∃p1 p2 p3 p4,b=[.Assign [.Attribute (.Name "self" p1) g p2] (.Name g p3) p4]
theorem Fd:∀ir,rj Φ ir:=by
 intro ir;exact IS.rec (motive_1:=λs=>rj Φ s) (motive_2:=λss=>o5 Φ ss) (λ_=>Bq) (λ_ _=>Gy) (λ_ _ _=>Gz) (λ_ _ _=>Br) (λ_ _ _ a b=>GA a b) (λ_ _ _ _ a=>GB a) (λ_ _ _ a=>GC a) (λ_=>GD) Bs GF GG Bt xu (λ_ _ _ _=>Bu)
  Bv (λ_ _ a b=>xw a b) ir
section
variable {P:Program} {w:World} {K:Frag} {cl:Nat->Addr} {mg:Str->Option Value} {base:Heap} {k:Nat} {fs:List Row} {cons:List (Str×Val)} {tb:Tb}
theorem KL{x qual g:Str}{st:Stmt}{f:Addr}{fd:FuncData}(F:CS K x qual st f fd)(hS:aU ["self",g] ["self",g] (af st)=true)(hg:g ≠ "self")(hb:Oi (aA st) g)(hd:(g==("__debug__":Str))=false)(hcd:(g==("__classdict__":Str))=false):dJ P w K mg base CQ (k+1) f fd ["self",g] (wF K g):=by
 have S:=nW hS;obtain⟨p1,p2,p3,p4,hb⟩:=hb;refine F.ok S (λvs H Q E h=>?_) (λcdv A' outer s H vs Q E hr h=>?_)
 ·obtain⟨e,y,C,D,t,cd,rfl,_⟩:=h;rfl
 ·rw[hb]
  refine⟨_,qC (Ir (iG (i:=0) rfl ?_ (by decide) (by decide)) (iG (i:=1) rfl ?_ hd hcd) rfl),?_⟩
  ·rcases S.par "self" (by simp) with z|z
   ·exact .inl z
   ·exact .inr (.inl z)
  ·rcases S.par g (by simp) with z|z
   ·exact .inl z
   ·exact .inr (.inl z)
  ·obtain⟨e,y,C,D,t,cd,rfl,he,c,n,q⟩:=h;exact⟨y,rfl,.ref e,rfl,e,C,D,t,cd,rfl,he,c,n,q⟩
end
abbrev GP:List Str:=["_law_which","_law_net_here","_law_number_here","_law_what","_law_plain","e"]
abbrev glE:List Str:=["isinstance","NetError","ValueError","NoNumber","Twice","Over","OtherTurn"]
def KN(b:List Stmt)(s4:Stmt)(fx cx g n0 n1 n2:Str):Prop:=∃(a0 a1 a2 a3 a4 a5 a6 a7 a8 a9 LI b0 b1 b2 b3 b4 b5 b6 b7 b8 b9 c0 c1 c2 c3 c4 c5 c6 c7 c8 c9 d0 d1 d2 d3 d4 d5 d6 d7 e0 e1 e2 e3 e4:Pos) (k0 k1 k2:Nat),b =
 [.Assign [.Name "_law_what" a0] (.Constant .none k0 a1) a2,.Assign [.Name "_law_plain" a3] (.Constant (.bool false) k1 a4) a5,
   .Try [.Expr (.Call (.Name fx a6) [.Name n0 a7,.Name n1 a8,.Name n2 a9] [] LI) b0]
  [.ExceptHandler (some (.Name cx b1)) (some "e")
   [.Assign [.Name "_law_what" b2] (.Attribute (.Name "e" b3) g b4) b5,
     .Assign [.Name "_law_plain" b6] (.BoolOp .And [.Call (.Name "isinstance" b7) [.Name "e" b8,.Name "NetError" b9] [] c0,.Call (.Name "isinstance" c1) [.Name "e" c2,.Name "ValueError" c3] [] c4] d3) d4,
     .Assign [.Name "_law_plain" e0] (.BoolOp .And [.Name "_law_plain" e1,.UnaryOp .Not (.Call (.Name "isinstance" c5) [.Name "e" c6,.Tuple [.Name "NoNumber" c7,.Name "Twice" c8,.Name "Over" c9,.Name "OtherTurn" d7] k2 d0] [] d1) d2] e2) e3] d5] [] [] d6,s4]
structure KO (K:Frag) (mg:Str->Option Value) (cx g:Str) (C D C1 C2 C3 C4:Addr):Prop where
 G:vt K C
 N:DW K C
 at_:findIn K (.ref C) g=some none
 mc:mg cx=some (.ref C)
 md:mg "NetError" = some (.ref D)
 m1:mg "NoNumber" = some (.ref C1)
 m2:mg "Twice" = some (.ref C2)
 m3:mg "Over" = some (.ref C3)
 m4:mg "OtherTurn" = some (.ref C4)
 mv:mg "ValueError" = none
 mi:mg "isinstance" = none
 kd:kitOne K (.ref C) (.ref D)=some true
 kv:kitOne K (.ref C) (.type "ValueError")=some true
 kt:kitAny K (.ref C) [.ref C1,.ref C2,.ref C3,.ref C4]=some false
section
variable {X:Cx} {C D C1 C2 C3 C4:Addr} {cx g:Str}
def SQ(g:Str)(C C1 C2 C3 C4:Addr):TS:=λEn σ H=>∃a T dx v,σ[5]?=some (some (.ref a))/\H a=some (.ext (sM a C T dx))/\H dx=some (.xd [(g,v)])/\6 <= σ.length /\
 ∀p,H p=none->En.nx ((σ.set 3 (some v)).set 4 (some (.bl true))) (upd H p (.tup [.ref C1,.ref C2,.ref C3,.ref C4]))
theorem vO:bootBuiltins "isinstance" = some (.builtin "isinstance"):=by decide +kernel
theorem KP:bootBuiltins "ValueError" = some (.type "ValueError"):=by decide +kernel
theorem Oj(Kx:KO X.K X.mg cx g C D C1 C2 C3 C4)(hN:X.N=GP)(hl:∀x∈X.N,X.env.scope.names.lookup x=some .local)
  (hgl:∀x∈glE,X.env.scope.names.lookup x=some .globalImplicit) {b2 b3 b4 b5 b6 b7 b8 b9 c0 c1 c2 c3 c4 c5 c6 c7 c8 c9 d0 d1 d2 d3 d4 d7 e0 e1 e2 e3:Pos} {k2:Nat} (hb:∀p,attributeBase (.Name "e" p) g X.env (eval (.Name "e" p) X.env)=eval (.Name "e" p) X.env) :
  oM X [.Assign [.Name "_law_what" b2] (.Attribute (.Name "e" b3) g b4) b5,
     .Assign [.Name "_law_plain" b6] (.BoolOp .And [.Call (.Name "isinstance" b7) [.Name "e" b8,.Name "NetError" b9] [] c0,.Call (.Name "isinstance" c1) [.Name "e" c2,.Name "ValueError" c3] [] c4] d3) d4,
     .Assign [.Name "_law_plain" e0] (.BoolOp .And [.Name "_law_plain" e1,.UnaryOp .Not (.Call (.Name "isinstance" c5) [.Name "e" c6,.Tuple [.Name "NoNumber" c7,.Name "Twice" c8,.Name "Over" c9,.Name "OtherTurn" d7] k2 d0] [] d1) d2] e2) e3] (SQ g C C1 C2 C3 C4):=by
 have nd:X.N.Nodup:=by rw[hN];decide
 have i3:X.N[3]?=some ("_law_what":Str):=by rw[hN];rfl
 have i4:X.N[4]?=some ("_law_plain":Str):=by rw[hN];rfl
 have i5:X.N[5]?=some ("e":Str):=by rw[hN];rfl
 have l3:=hl _ (Wn i3);have l4:=hl _ (Wn i4);have l5:=hl _ (Wn i5);have ev:∀p,PE X (.Name "e" p) (LQ 5):=λp=>iG i5 (.inl l5) (by decide) (by decide);have h:=gk (jM (pos:=b5) (pe_xf (pos:=b4) (ev b3) (hb b3)) (fc (pos:=b2) nd i3 (.inl l3) (.inr l3)) rfl rfl rfl)
  (gk (jM (pos:=d4) (uL (pos:=d3) (cE (pos:=c0) (p:=b7) sQ (hgl _ (by simp)) Kx.mi vO (bI (ev b8) (bI (jk (pos:=b9) (v:=.ref D) (hgl _ (by simp)) Kx.md rfl (by decide)) jN rfl) rfl) (by decide) (by decide) rfl rfl)
   (qB (cE (pos:=c4) (p:=c1) sQ (hgl _ (by simp)) Kx.mi vO (bI (ev c2) (bI (v8 (pos:=c3) (v:=.ty "ValueError") (hgl _ (by simp)) Kx.mv KP rfl (by decide) (by decide)) jN rfl) rfl) (by decide) (by decide) rfl rfl)))
   (fc (pos:=b6) nd i4 (.inl l4) (.inr l4)) rfl rfl rfl)
  (qC (jM (pos:=e3) (uL (pos:=e2) (iG (pos:=e1) i4 (.inl l4) (by decide) (by decide))
    (qB (zK (pos:=d2) (cE (pos:=d1) (p:=c5) AF (hgl _ (by simp)) Kx.mi vO (bI (ev c6) (bI (zT (pos:=d0) (x1:=k2) (bI (jk (pos:=c7) (v:=.ref C1) (hgl _ (by simp)) Kx.m1 rfl (by decide)) (bI (jk (pos:=c8) (v:=.ref C2) (hgl _ (by simp)) Kx.m2 rfl (by decide)) (bI (jk (pos:=c9) (v:=.ref C3) (hgl _ (by simp)) Kx.m3 rfl (by decide)) (bI (jk (pos:=d7) (v:=.ref C4) (hgl _ (by simp)) Kx.m4 rfl (by decide)) jN rfl) rfl) rfl) rfl)) jN rfl) rfl) (by decide) (by decide) rfl rfl))))
   (fc (pos:=e0) nd i4 (.inl l4) (.inr l4)) rfl rfl rfl)))
 refine oM.imp h λEn σ H q=>?_;obtain⟨a,T,dx,v,e5,ea,ed,l6,q⟩:=q;have e5':(σ.set 3 (some v))[5]?=some (some (.ref a)):=by rw[V7 (by decide)];exact e5
 have Rt:((σ.set 3 (some v)).set 4 (some (.bl true)))[5]?=some (some (.ref a)):=by rw[V7 (by decide)];exact e5'
 have Ru:((σ.set 3 (some v)).set 4 (some (.bl true)))[4]?=some (some (.bl true)):=by rw[Wh (by rw[YM];omega)]
 have ty:QU X.K H (.ref a) C:=⟨a,T,dx,[(g,v)],rfl,ea,ed,Kx.G⟩;refine⟨_,e5,a,C,T,dx,[(g,v)],v,rfl,ea,ed,Kx.G,Kx.at_,by simp,?_⟩;refine⟨_,e5',_,.ref D,.ref D,C,true,rfl,λu z=>z,ty,Kx.kd,true,rfl,?_⟩;rw[Wg rfl];refine⟨_,e5',_,.ty "ValueError",.type "ValueError",C,true,rfl,λu z=>z,ty,Kx.kv,?_⟩;refine⟨_,Ru,true,rfl,?_⟩;rw[Wg rfl];refine⟨_,Rt,⟨by show 4<=_;decide,λp hp=>?_⟩⟩;have na:a≠p:=aG ea hp;have nx:dx≠p:=aG ed hp;refine⟨.ref a,p,[C1,C2,C3,C4],C,false,rfl,az,⟨a,T,dx,[(g,v)],rfl,by rw[ao na];exact ea,by rw[ao nx];exact ed,Kx.G⟩,Kx.kt,false,rfl,?_⟩;show En.nx (((σ.set 3 (some v)).set 4 (some (.bl true))).set 4 (some (.bl true))) _;rw[set_set];exact q p hp
end
def xR(jc:Nat)(g:Str)(i:Int):Out Val->Out Val
 |.exc c [.str x,.int j] h'=>if c=jc/\x=g/\j=i then .ok (.bl true) h' else .no
 |_=>.no
def Fe(φ:List Val->M Val)(jc:Nat)(g:Str):List Val->M Val
 |[v0,v1,.int i]=>λh=>xR jc g i (φ [v0,v1,.int i] h)
 |_=>λ_=>.no
theorem Ff{jc:Nat}{g:Str}{i:Int}{o:Out Val}{P:Out Val->Prop}(h0:P .no->False)(h:P (xR jc g i o)):∃h',o=.exc jc [.str g,.int i] h'/\P (.ok (.bl true) h'):=by
 unfold xR at h;split at h
 ·split at h
  ·rename_i q;obtain⟨rfl,rfl,rfl⟩:=q;exact⟨_,rfl,h⟩
  ·exact(h0 h).elim
 ·exact(h0 h).elim
theorem three{α:Type}{l:List α}(h:l.length=3):∃a b c,l=[a,b,c]:=by
 match l,h with
 |[a,b,c],_=>exact⟨a,b,c,rfl⟩
theorem KQ{φ:List Val->M Val}{jc:Nat}{g:Str}{v0 v1 v2:Val}{h:Hs}{P:Out Val->Prop}(h0:P .no->False)(p:P (Fe φ jc g [v0,v1,v2] h)):∃i h',v2=.int i /\ φ [v0,v1,.int i] h=.exc jc [.str g,.int i] h'/\P (.ok (.bl true) h'):=by
 cases v2 with
 |int i=>obtain⟨h',e,p⟩:=Ff (P:=P) h0 p;exact⟨i,h',rfl,e,p⟩
 |_=>exact(h0 p).elim
section
variable {P:Program} {w:World} {K:Frag} {cl:Nat->Addr} {mg:Str->Option Value} {base:Heap} {k:Nat} {fs:List Row} {cons:List (Str×Val)} {tb:Tb}
theorem Rv(h1:H a=none)(h2:H T=none)(ne:T≠a):Gr ρ H ρ (oX H a C T dx):=by
 unfold oX;exact(Gr.side h1).trans (Gr.side (by rw[ao ne];exact h2))
theorem Rw(r:HR B ρ h H)(h1:H a=none)(h2:H T=none)(ne:T≠a):HR B ρ h (oX H a C T dx):=by
 unfold oX;exact(r.side h1).side (by rw[ao ne];exact h2)
theorem KR{s4:Stmt}{fE C D C1 C2 C3 C4:Addr}{t4:TS}{k:Nat}(hN:X.N=GP)(hkd:X.fn=λ_=>true)(hst:X.stack=X.env::X.outer)(hfm:X.env.frame=some X.env.locals)
  (hb:KN b s4 fx cx g "_law_which" "_law_net_here" "_law_number_here") (Rx:PS X s4 t4)
  (hl:∀x∈GP,X.env.scope.names.lookup x=some .local) (hgl:∀x∈fx::cx::glE,X.env.scope.names.lookup x=some .globalImplicit)
  (Kx:KO X.K X.mg cx g C D C1 C2 C3 C4) (FE:dJ X.prog X.w X.K X.mg X.base (mL X.prog X.w) k fE Ry Rz sp) (hr:cY k X.A) (RA:Binds X.K Ry Rz []) (RB:X.mg fx=some (.ref fE)) (RC:keepIn X.K (.ref fE)=true)
  (hfd:(fx==("__debug__":Str))=false) (hcd:(cx==("__debug__":Str))=false) :
  ∃t,oM X b t/\∀(En:Ends) (H:Hp) (x0 x1 x2:V),sp [x0,x1,x2] H (λ_ H2=>t4 En ((([some x0,some x1,some x2,none,none,none]:L2.St).set 3 (some V.non)).set 4 (some (V.bl false))) H2) (λc d H'=>∃dx,c=.ref C/\d=some dx/\∀a T,H' a=none->H' T=none->T≠a->SQ g C C1 C2 C3 C4 { nx:=λσ' H2=>t4 En (σ'.set 5 none) H2,rt:=λ_ _=>False } (((([some x0,some x1,some x2,none,none,none]:L2.St).set 3 (some V.non)).set 4 (some (V.bl false))).set 5 (some (.ref a))) (oX H' a C T dx))->t En [some x0,some x1,some x2,none,none,none] H:=by
 obtain⟨a0,a1,a2,a3,a4,a5,a6,a7,a8,a9,LI,b0,b1,b2,b3,b4,b5,b6,b7,b8,b9,c0,c1,c2,c3,c4,c5,c6,c7,c8,c9,d0,d1,d2,d3,d4,d5,d6,d7,e0,e1,e2,e3,e4,k0,k1,k2,rfl⟩:=hb;have nd:X.N.Nodup:=by rw[hN];decide
 have i0:X.N[0]?=some ("_law_which":Str):=by rw[hN];rfl
 have i1:X.N[1]?=some ("_law_net_here":Str):=by rw[hN];rfl
 have i2:X.N[2]?=some ("_law_number_here":Str):=by rw[hN];rfl
 have i3:X.N[3]?=some ("_law_what":Str):=by rw[hN];rfl
 have i4:X.N[4]?=some ("_law_plain":Str):=by rw[hN];rfl
 have i5:X.N[5]?=some ("e":Str):=by rw[hN];rfl
 have l0:=hl ("_law_which":Str) (by simp);have l1:=hl ("_law_net_here":Str) (by simp);have l2:=hl ("_law_number_here":Str) (by simp);have l3:=hl ("_law_what":Str) (by simp);have l4:=hl ("_law_plain":Str) (by simp);have l5:=hl ("e":Str) (by simp);have s1:=jM (X:=X) (pos:=a2) (zJ (X:=X) (j:=k0) (pos:=a1)) (fc (pos:=a0) nd i3 (.inl l3) (.inr l3)) rfl rfl rfl;have s2:=jM (X:=X) (pos:=a5) (FU (X:=X) (b:=false) (j:=k1) (pos:=a4)) (fc (pos:=a3) nd i4 (.inl l4) (.inr l4)) rfl rfl rfl;have ha:PA X.CO [.Name "_law_which" a7,.Name "_law_net_here" a8,.Name "_law_number_here" a9] _:=bI (iG (X:=X.CO) i0 (.inl l0) (by decide) (by decide)) (bI (iG i1 (.inl l1) (by decide) (by decide)) (bI (iG i2 (.inl l2) (by decide) (by decide)) jN (aN rfl)) (aN rfl)) (aN rfl);have hu:∀a,oM (X.held (.ref a)).CO _ _:=λa=>Oj (X:=(X.held (.ref a)).CO) (b2:=b2) (b3:=b3) (b4:=b4) (b5:=b5) (b6:=b6) (b7:=b7) (b8:=b8) (b9:=b9) (c0:=c0) (c1:=c1) (c2:=c2) (c3:=c3) (c4:=c4) (c5:=c5) (c6:=c6) (c7:=c7) (c8:=c8) (c9:=c9) (d0:=d0) (d1:=d1) (d2:=d2) (d3:=d3) (d4:=d4) (d7:=d7) (e0:=e0) (e1:=e1) (e2:=e2) (e3:=e3) (k2:=k2) Kx hN (by intro x hx;exact hl x (by rw[<-hN];exact hx)) (λx hx=>hgl x (V5 _ (V5 _ hx))) λp=>rfl;have s3:=ID (X:=X) (p:=a6) (cpos:=LI) (epos:=b0) (cp:=b1) (hp:=d5) (pos:=d6) hst hfm FE hr (hgl _ (by simp)) RB RC RA ha hfd (aN rfl) (by rw[aN rfl,aN rfl];rfl) (iR rfl) (hgl _ (by simp)) Kx.mc hcd Kx.N nd i5 l5 hu;refine⟨_,gk s1 (gk s2 (gk s3 (qC Rx))),λEn H x0 x1 x2 h=>?_⟩;exact⟨x0,rfl,x1,rfl,x2,rfl,h⟩
theorem KS{st s4:Stmt}{f fE D C1 C2 C3 C4:Addr}{jc:Nat}(T:Base K cl mg cons tb)(A:cy P w ⟨K,cl⟩ mg base k fs)(F:CS K x qual st f fd)
  (hS:aU GP ["_law_which","_law_net_here","_law_number_here"] (af st)=true)
  (hb:KN (aA st) s4 fx cx g "_law_which" "_law_net_here" "_law_number_here") (hc:zg ⟨GP,af st,fs.map (λr=>(r.1,r.2.1)),cons,tb⟩ SS s4=true)
  (hR:∀v0 v1 i h,eV (look fs) SS [some v0,some v1,some (.int i),some (.int i),some (.bl true),none] h=.ok (.rt (.bl true)) h)
  (hl:∀x∈GP,(af st).names.lookup x=some .local) (hgl:∀x∈fx::cx::glE,(af st).names.lookup x=some .globalImplicit)
  (Kx:KO K mg cx g (cl (1000+jc)) D C1 C2 C3 C4) (FE:dJ P w K mg base (mL P w) (k+1) fE Ry Rz (za ⟨K,cl⟩ 3 φ)) (RA:Binds K Ry Rz []) (RB:mg fx=some (.ref fE)) (RC:keepIn K (.ref fE)=true)
  (hfd:(fx==("__debug__":Str))=false) (hcd:(cx==("__debug__":Str))=false) :
  dJ P w K mg base (mL P w) (k+2) f fd ["_law_which","_law_net_here","_law_number_here"] (za ⟨K,cl⟩ 3 (Fe φ jc g)):=by
 have S:=nW hS;obtain⟨oc,od,kV,doc,pm,an,cdv,ct,osl,rfl,lk,RD⟩:=F.ex;refine zW lk RD S (λvs H Q E h=>?_) λA' outer s H vs Q E hr h=>?_
 ·obtain⟨ρ,h,ws,h1,_,h2,_⟩:=h;rw[<-h2.length,h1];rfl
 ·have c:=xx (outer:=outer) (H:=H) (E:=E) T A S hr
  have Rx:=Fd SS _ k _ cl _ s4 c hc;obtain⟨t,ht,hq⟩:=KR (X:=gO (mL P w) P w K mg base GP qual (af st) f cdv A' outer s H E) rfl rfl rfl rfl hb Rx hl hgl Kx FE hr RA RB RC hfd hcd;refine⟨t,ht,?_⟩;obtain⟨ρ,h,ws,lw,r,hv,p⟩:=h;have lv:=hv.length;obtain⟨v0,v1,v2,rfl⟩:=three lw;obtain⟨x0,x1,x2,rfl⟩:=three lv.symm;obtain⟨i,h',e2,e0,p9⟩:=KQ (P:=Post ⟨K,cl⟩ (y9 cl E) ρ H (WV K Q)) (λz=>z) p;subst e2;obtain⟨y0,q0,r0⟩:=hv.get (i:=0) rfl;obtain⟨y1,q1,r1⟩:=hv.get (i:=1) rfl;obtain⟨y2,q2,r2⟩:=hv.get (i:=2) rfl;cases q0;cases q1;cases q2;have r2:x2=.int i:=r2;subst r2;refine hq _ H x0 x1 (.int i) ⟨ρ,h,[v0,v1,.int i],rfl,r,hv,?_⟩;rw[e0];intro ρ1 H1 xs g1 hr1 hxs;have exs:xs=[.str g,.int i]:=by
   obtain⟨u0,z0,w0⟩:=hxs.get (i:=0) rfl;obtain⟨u1,z1,w1⟩:=hxs.get (i:=1) rfl;have l:=hxs.length
   match xs,l with
   |[m0,m1],_=>cases z0;cases z1;rw[show _=_ from w0,show _=_ from w1]
  refine⟨g,.int i,exs,λdx nd=>⟨dx,rfl,rfl,λa T na nT ne=>?_⟩⟩;have UU:dx≠a:=λz=>by rw[<-z,az]at na;cases na
  have UW:dx≠T:=λz=>by rw[<-z,az]at nT;cases nT
  have g2:Gr ρ1 H1 ρ1 (oX (upd H1 dx (.xd [(g,.int i)])) a (cl (1000+jc)) T dx):=(Gr.side nd).trans (Rv na nT ne);have hr2:HR ⟨K,cl⟩ ρ1 h' (oX (upd H1 dx (.xd [(g,.int i)])) a (cl (1000+jc)) T dx):=Rw (hr1.side nd) na nT ne;refine⟨a,T,dx,.int i,rfl,wI ne,by rw[mO UU UW];exact az,Wb 6,λp' np=>?_⟩;have g3:=g2.trans (Gr.side (ρ:=ρ1) (o:=.tup [.ref C1,.ref C2,.ref C3,.ref C4]) np);have UX:=hr2.side (o:=.tup [.ref C1,.ref C2,.ref C3,.ref C4]) np;refine⟨ρ1,[some v0,some v1,some (.int i),some (.int i),some (.bl true),none],h',λj v e=>?_,rfl,UX,?_⟩
  ·match j,e with
   |0,e=>cases e;exact⟨x0,rfl,VR.jr (g1.trans g3).w _ _ r0⟩
   |1,e=>cases e;exact⟨x1,rfl,VR.jr (g1.trans g3).w _ _ r1⟩
   |2,e=>cases e;exact⟨.int i,rfl,rfl⟩
   |3,e=>cases e;exact⟨.int i,rfl,rfl⟩
   |4,e=>cases e;exact⟨.bl true,rfl,rfl⟩
   |5,e=>cases e
   |j+6,e=>simp at e
  ·rw[hR];intro ρ4 H4 g4 r4 y hy;exact p9 ρ4 H4 ((g1.trans g3).trans g4) r4 y hy
end
def xS(jc:Nat)(g:Str)(i:Int):Pr FV->Pr FV
 |.exc c [.str x,.int j]=>if c=jc/\x=g/\j=i then .ok (true,.bl true) else .no
 |_=>.no
def KW(ψ:List Val->Pr FV)(jc:Nat)(g:Str):List Val->Pr FV
 |[d0,d1,.int i]=>xS jc g i (ψ [d0,d1,.int i])
 |_=>.no
theorem Fg{jc:Nat}(hi:Imp φ ψ):Imp (Fe φ jc g) (KW ψ jc g):=λA h ds vs u q=>by
 have l:=q.length;unfold KW
 split
 ·rename_i d0 d1 i
  match vs,l,q with
  |[v0,v1,v2],_,q=>
   have e2:v2=.int i:=by obtain⟨_,_,z,_,_,_,z1,_,_,_,z2,q2,_⟩:=q;cases z;cases z1;cases z2;rw[Dn]at q2;exact q2
   subst e2;have r:=hi A h _ _ u q;show Rel A h (RV A h) (xR jc g i (φ [v0,v1,.int i] h)) (xS jc g i (ψ [d0,d1,.int i]));revert r;generalize ψ [d0,d1,.int i]=pp;intro r;unfold xS
   split
   ·rename_i c x j
    split
    ·rename_i hq
     obtain⟨rfl,rfl,rfl⟩:=hq;obtain⟨ws,h',e,p,dn⟩:=r;have ew:ws=[.str x,.int j]:=by obtain⟨_,_,z,q1,_,_,z1,q2,z3⟩:=dn;cases z;cases z1;rw[show _=_ from q1,show _=_ from q2,show _=_ from z3]
     rw[e,ew];refine⟨.bl true,h',by show (if c=c/\x=x/\j=j then Out.ok (Val.bl true) h' else Out.no)=_;rw[Wg ⟨rfl,rfl,rfl⟩],p,by show Dn _ _ (Val.bl true) _;rw[Dn],λ_=>by show Dn _ _ (Val.bl true) _;rw[Dn]⟩
    ·trivial
   ·trivial
 ·trivial
section
variable {Φ:Fn} {a b:IE} {env:Env} {h:Hs} {u:Bool}
theorem vP(e1:aE Φ a env h=.ok (.bl true) h)(e2:aE Φ b env h=.ok (.bl u) h):aE Φ (.and a b) env h=.ok (.bl u) h:=by
 rw[aE];simp only[bnd,e1,lU,ret,if_true,e2]
end
abbrev Ol:IS:=.ret (.and (!4) (.and (.blt (.isin "int") #[!3]) (.and (.not (.blt (.isin "bool") #[!3])) (.cmp .eq (!3) (!2)))))
theorem KY(v0 v1:Val)(i:Int)(h:Hs):eV Φ Ol [some v0,some v1,some (.int i),some (.int i),some (.bl true),none] h=.ok (.rt (.bl true)) h:=by
 have b0:aE Φ (!4) [some v0,some v1,some (.int i),some (.int i),some (.bl true),none] h=.ok (.bl true) h:=by rw[aE];rfl
 have v2:bg Φ #[!3] [some v0,some v1,some (.int i),some (.int i),some (.bl true),none] h=.ok [.int i] h:=by rw[bg,aE,bg];rfl
 have b1:aE Φ (.blt (.isin "int") #[!3]) [some v0,some v1,some (.int i),some (.int i),some (.bl true),none] h=.ok (.bl true) h:=by rw[aE];unfold bnd;rw[v2];rfl
 have b2:aE Φ (.not (.blt (.isin "bool") #[!3])) [some v0,some v1,some (.int i),some (.int i),some (.bl true),none] h=.ok (.bl true) h:=by rw[aE,aE];unfold bnd;rw[v2];rfl
 have b3:aE Φ (.cmp .eq (!3) (!2)) [some v0,some v1,some (.int i),some (.int i),some (.bl true),none] h=.ok (.bl true) h:=by rw[aE,aE,aE];show Out.ok (Val.bl (PyData.eqv (.int i) (.int i))) h=_;rw[show PyData.eqv (.int i) (.int i)=true by simp[PyData.eqv]]
 rw[eV];unfold bnd;rw[vP b0 (vP b1 (vP b2 b3))];rfl
end Hv
end
section
namespace Hv
open PySem L2
def cF(aa:aH):aH:=aa.map λo=>match o with
 |some (.nw,.tup _)=>none
 |some (_,d)=>some (.sh,d)
 |none=>none
def kJ(aa:aH):aH:=aa.map λo=>match o with
 |some (.sh,d)=>some (.sh,d)
 |_=>none
def Fi(Ψ:Nat->List Val->Pr FV)(e:IE)(env:aH):Pr FV:=match aW Ψ e (kJ env) with
 |.ok x=>.ok x
 |_=>pb (aW Ψ e (cF env)) λx=>pg x.1 (.ok x)
def Fj(_:IE)(_:uJ)(_:Ik)(_:eT):Option (Nat×Nat):=none
def oq:List Val->Option (List (List Int)):=bX λv=>match v with
 |.rl es=>aS es
 |_=>none
def RE(env:aH)(iq:Nat×Nat):Pr vG:=match env[iq.1]? with
 |some (some (.ow,.rl ds))=>pb (pl (oq ds)) λls=>pg ((ls.all λl=>decide (l.length+ls.length<sizeLine))&&decide (iq.2<env.length)) (.ok (.nx ((env.set iq.1 none).set iq.2 none)))
 |_=>.no
def new2(_:IE):Option (IE×IE):=none
def B5:List Val->Option Nat
 |[]=>some 0
 |.rl es::r=>(B5 r).bind λn=>some (max es.length n)
 |_=>none
def KZ(ds:List Val):Option (Mk×Val):=match B5 ds with
 |some n=>some (.nw,.tup [.int ((n+1:Nat):Int),.int ds.length])
 |none=>none
def K0:List Val->Int->Option Int
 |[.int n,.int l],j=>if 0<=j/\j<l then some n else none
 |_,_=>none
inductive XK
 |app (i:Nat) (a:IE)
 |apI (i:Nat) (j:Int) (a:IE)
 |ext (i:Nat) (a:IE)
 |rem (i:Nat) (j a:IE)
def XK.ie:XK->IE
 |.app i a=>.met .append (.var i) #[a]
 |.apI i j a=>.met .append (.idx (.var i) (.cst (.int j))) #[a]
 |.ext i a=>.met .extend (.var i) #[a]
 |.rem i j a=>.met .remove (.idx (.var i) j) #[a]
def XK.at:XK->Nat
 |.app i _=>i
 |.apI i _ _=>i
 |.ext i _=>i
 |.rem i _ _=>i
def xV:IE->Option Nat
 |.var i=>some i
 |_=>none
def xX:IE->Option (IE×IE)
 |.idx a b=>some (a,b)
 |_=>none
def xI:IE->Option Val
 |.cst d=>some d
 |_=>none
def xM:IE->Option (Me×IE×jz)
 |.met m a es=>some (m,a,es)
 |_=>none
def xO:jz->Option IE
 |.cons a .nil=>some a
 |_=>none
def xJ(o:IE):Option (Nat×Int):=(xX o).bind λy=>(xV y.1).bind λx=>(xI y.2).bind λd=>(iO d).bind λj=>some (x,j)
def UY:Me->IE->IE->Option XK
 |.append,a,x=>(match xV a with|some i=>some (.app i x)|none=>(xJ a).bind λy=>some (.apI y.1 y.2 x))
 |.extend,a,x=>(xV a).bind λi=>some (.ext i x)
 |.remove,a,x=>(xX a).bind λy=>(xV y.1).bind λi=>some (.rem i y.2 x)
 |_,_,_=>none
def Om(e:IE):Option XK:=(xM e).bind λm=>(xO m.2.2).bind λx=>UY m.1 m.2.1 x
section
variable {e:IE}
theorem Fo{i:Nat}(h:xV e=some i):e=.var i:=by
 cases e<;>first|(cases h;rfl)|exact nomatch (show none=some _ from h)
theorem Oo(h:xX e=some y):e=.idx y.1 y.2:=by
 cases e<;>first|(cases h;rfl)|exact nomatch (show none=some _ from h)
theorem RG(h:xI e=some d):e=.cst d:=by
 cases e<;>first|(cases h;rfl)|exact nomatch (show none=some _ from h)
theorem RH(h:xM e=some y):e=.met y.1 y.2.1 y.2.2:=by
 cases e<;>first|(cases h;rfl)|exact nomatch (show none=some _ from h)
theorem RI(h:xO es=some e):es=.cons e .nil:=by
 cases es with
 |nil=>cases h
 |cons a r=>
  cases r with
  |nil=>cases h;rfl
  |cons _ _=>cases h
theorem Oq(h:xJ e=some y):e=.idx (.var y.1) (.cst (.int y.2)):=by
 obtain⟨z,h1,h⟩:=V0.mp h;obtain⟨x,h2,h⟩:=V0.mp h;obtain⟨d,h3,h⟩:=V0.mp h;obtain⟨j,h4,h⟩:=V0.mp h;cases h;rw[Oo h1,Fo h2,RG h3];cases d<;>first|(cases h4;rfl)|cases h4
theorem Ot(h:Om e=some k):e=k.ie:=by
 obtain⟨⟨m,a,es⟩,h1,h⟩:=V0.mp h;obtain⟨x,h2,h⟩:=V0.mp h;rw[RH h1,RI h2];clear h1 h2;cases m with
 |append=>
  cases h3:xV a with
  |some i=>change (match xV a with|some i=>some (XK.app i x)|none=>(xJ a).bind λy=>some (XK.apI y.1 y.2 x))=some k at h;rw[h3]at h;cases h;rw[Fo h3];rfl
  |none=>change (match xV a with|some i=>some (XK.app i x)|none=>(xJ a).bind λy=>some (XK.apI y.1 y.2 x))=some k at h;rw[h3]at h;obtain⟨y,h4,h⟩:=V0.mp h;cases h;rw[Oq h4];rfl
 |extend=>obtain⟨i,h3,h⟩:=V0.mp h;cases h;rw[Fo h3];rfl
 |remove=>obtain⟨y,h3,h⟩:=V0.mp h;obtain⟨i,h4,h⟩:=V0.mp h;cases h;rw[Oo h3,Fo h4];rfl
 |_=>cases h
end
def Ou(Ψ:Nat->List Val->Pr FV):XK->aH->Pr vG
 |.app _ _,_=>.no
 | .apI i j a,env=>match env[i]? with
  | some (some (.ow,.tup ds))=>match gJ ds j with
   |some (.rl es)=>pb (aW Ψ a (cF env)) λx=>pg (decide (es.length<sizeLine)) (.ok (.nx (env.set i (KZ ds))))
   |_=>.no
  |some (some (.nw,.tup ds))=>pb (pl (K0 ds j)) λn=>pb (aW Ψ a (cF env)) λx=>pg (decide (n<sizeLine)) (.ok (.nx (env.set i none)))
  |_=>.no
 |.ext ..,_=>.no
 |.rem ..,_=>.no
def UZ(_:Nat->List Val->Pr FV)(x:Nat)(j:Int)(i v:IE)(_:aH):Pr vG:=.no
mutual
noncomputable def dz(Ψ:Nat->List Val->Pr FV)(sp:List Nat):IS->aH->Pr vG
 | .expr e,env=>match Om e with
  |some k=>Ou Ψ k env
  |none=>.no
 | .asg p e,env=>match p with
  | .one i=>if sp.contains i=true then (match new2 e with
    |some ab=>pb (aW Ψ ab.1 (cF env)) λx=>pb (aW Ψ ab.2 (cF env)) λy=>pb (pl (oq [x.2,y.2])) λ_=>pg (x.1&&y.1) (.ok (.nx (env.set i (some (.nw,.rl [x.2,y.2])))))
    |none=>pb (aW Ψ e (cF env)) λx=>pg x.1 (.ok (.nx (env.set i (some (.ow,x.2))))))
    else pb (Fi Ψ e env) λx=>.ok (.nx (env.set i (some (.sh,x.2))))
  |.tup is=>pb (Fi Ψ e env) λx=>pb (pl (eB (.tup is) x.2 env)) λenv'=>.ok (.nx env')
 | .mz o i v,env=>match xJ o with
  |some y=>UZ Ψ y.1 y.2 i v env
  |none=>.no
 |.iff c a b,env=>pb (aW Ψ c (cF env)) λx=>pb (pl (cG [] x.2)) λt=>if t=true then gA Ψ sp a env else gA Ψ sp b env
 | .for p k it body,env=>match it with
  | .cons e .nil=>match Fj e p k body with
   |some iq=>RE env iq
   |none=>pb (Fi Ψ e env) λx=>pb (pl (fF k [x.2])) λxs=>gp (λx env=>pb (pl (eB p x env)) λenv'=>gA Ψ sp body env') xs env
  |_=>.no
 |.ret e,env=>pb (aW Ψ e (cF env)) λp=>.ok (.rt p)
 |.brk,env=>.ok (.bk env)
 |.cnt,env=>.ok (.ct env)
 |.pass,env=>.ok (.nx env)
 |.aug ..,_=>.no
 |.whl ..,_=>.no
 |.AG,_=>.no
 |.never,_=>.no
 |.setF ..,_=>.no
noncomputable def gA(Ψ:Nat->List Val->Pr FV)(sp:List Nat):eT->aH->Pr vG
 |.nil,env=>.ok (.nx env)
 | .cons s r,env=>pb (dz Ψ sp s env) λf=>match f with
  |.nx env'=>gA Ψ sp r env'
  |f=>.ok f
end
mutual
noncomputable def RJ:IS->List Nat
 |.expr e=>(match Om e with|some k=>[k.at]|none=>[])
 |.mz o _ _=>(match xJ o with|some y=>[y.1]|none=>[])
 |.iff _ a b=>kK a++kK b
 | .for p k it b=>match it with
  | .cons e .nil=>match Fj e p k b with
   |some iq=>[iq.1]
   |none=>kK b
  |_=>kK b
 |_=>[]
noncomputable def kK:eT->List Nat
 |.nil=>[]
 |.cons s r=>RJ s++kK r
end
def K1(Ψ:Nat->List Val->Pr FV)(n:Nat)(body:eT)(ds:List Val):Pr FV :=
 pb (gA Ψ (kK body) body (ds.map (λd=>some (.sh,d))++replicate (n-ds.length) none)) λf=>match f with
  |.nx _=>.ok (true,.non)
  |.rt p=>.ok p
  |_=>.no
abbrev UR:=Nat->Nat->Prop
def AU(U:UR):AP:=λo=>match o with
 |none=>True
 |some k=>∀i,¬ U i k
def RU(U:UR)(i:Nat):AP:=λo=>match o with
 |none=>False
 |some k=>U i k
def NN(U:UR)(i:Nat)(h:Hs)(d v:Val):Prop:=∃(b:Nat) (bs:List Nat) (ds:List Val) (ls:List (List Int)),v=.ref b/\d=.rl ds/\oq ds=some ls/\U i b/\h[b]?=some (.lst (bs.map .ref))/\bs.length=ls.length/\(b::bs).Nodup /\
 ∀(k c:Nat) (l:List Int),bs[k]?=some c->ls[k]?=some l->U i c/\h[c]?=some (.lst (l.map .int))
theorem NN.move{i:Nat}(q:NN U i h d v)(m:∀(c:Nat) (o:Ob),U i c->h[c]?=some o->U' i c/\h'[c]?=some o):NN U' i h' d v:=by
 obtain⟨b,bs,ds,ls,e1,e2,e3,e4,e5,e6,e7,e8⟩:=q;exact⟨b,bs,ds,ls,e1,e2,e3,(m b _ e4 e5).1,(m b _ e4 e5).2,e6,e7,λk c l a z=>m c _ (e8 k c l a z).1 (e8 k c l a z).2⟩
theorem ue:∀{ds:List Val} {ls:List (List Int)},oq ds=some ls->ds=ls.map λl=>.rl (l.map .int)
 |[],ls,e=>by simp only[oq,bX]at e;cases e;rfl
 | d::ds,ls,e=>by
  simp only[oq,bX]at e;obtain⟨x,e1,e⟩:=V0.mp e;obtain⟨y,e2,e⟩:=V0.mp e;cases e;rw[ue (show oq ds=some y from e2)];cases d<;>first|(cases e1;done)|skip
  rw[cR e1];rfl
theorem NN.dn{i:Nat}(q:NN U i h d v)(hA:∀k,U i k->A (some k)):Dn A h d v:=by
 obtain⟨b,bs,ds,ls,rfl,rfl,e3,e4,e5,e6,e7,e8⟩:=q;rw[ue e3,Dn];refine .inr ⟨b,_,rfl,hA _ e4,e5,?_⟩;clear e5 e7 e3 e4
 induction ls generalizing bs with
 | nil=>cases bs with
  |nil=>rw[X7,X7,ak]
  |cons _ _=>cases e6
 |cons l ls ih=>
  cases bs with
  |nil=>cases e6
  |cons c bs=>refine ak.cons ?_ (ih bs (Nat.succ.inj e6) λk c l a z=>e8 (k+1) c l a z);rw[Dn];exact .inr ⟨c,_,rfl,hA _ (e8 0 c l rfl rfl).1,(e8 0 c l rfl rfl).2,(bC _ _ (bO l)).mpr rfl⟩
def NT(U:UR)(i:Nat)(h:Hs)(d v:Val):Prop:=∃(n:Int) (ws:List Val),d=.tup [.int n,.int ws.length]/\v=.tup ws/\∀w∈ws,∃(b:Nat) (xs:List Val),w=.ref b/\U i b/\h[b]?=some (.lst xs)/\(xs.length:Int)<=n
def NQ(U:UR)(i:Nat)(h:Hs)(d v:Val):Prop:=NN U i h d v\/NT U i h d v
theorem NQ.move{i:Nat}(q:NQ U i h d v)(m:∀(c:Nat) (o:Ob),U i c->h[c]?=some o->U' i c/\h'[c]?=some o):NQ U' i h' d v:=by
 rcases q with q|⟨n,ws,e1,e2,e3⟩
 ·exact .inl (q.move m)
 ·refine .inr ⟨n,ws,e1,e2,λw hw=>?_⟩;obtain⟨b,xs,k1,k2,k3,k4⟩:=e3 w hw;exact⟨b,xs,k1,(m b _ k2 k3).1,(m b _ k2 k3).2,k4⟩
theorem NQ.dn{i:Nat}(q:NQ U i h d v)(n:∀ds,d≠.tup ds)(hA:∀k,U i k->A (some k)):Dn A h d v:=by
 rcases q with q|⟨_,_,e1,_⟩
 ·exact q.dn hA
 ·exact(n _ e1).elim
structure SL (aa:aH) (env:Env) (h:Hs) (U:UR):Prop where
 len:aa.length=env.length
 sh:∀(i:Nat) (d:Val),aa[i]?=some (some (.sh,d))->∃v,env[i]?=some (some v)/\Dn (AU U) h d v
 un:∀(i:Nat) (d:Val),aa[i]?=some (some (.ow,d))->∃v,env[i]?=some (some v)/\Dn (RU U i) h d v
 nn:∀(i:Nat) (d:Val),aa[i]?=some (some (.nw,d))->∃v,env[i]?=some (some v)/\NQ U i h d v
 ub:∀i k,U i k->k<h.length
 Fp:∀i j k,U i k->U j k->i=j
structure KU (h:Hs) (U:UR) (h':Hs) (U':UR):Prop where
 le:h.length<=h'.length
 keep:∀k,k<h.length->(∀i,¬ U i k)->h'[k]?=h[k]?/\∀i,¬ U' i k
def RK(U:UR)(i:Nat):UR:=λj k=>j≠i/\U j k
def Fq(U:UR)(i n m:Nat):UR:=λj k=>if j=i then n<=k/\k<m else U j k
def gi{α β:Type}(R:α -> Hs -> β -> Prop)(o:Out β):Pr α -> Prop
 |.ok a=>∃b h',o=.ok b h'/\R a h' b
 |_=>True
def RL(h:Hs)(U:UR):vG->Hs->Fl->Prop
 |.nx aj,h',.nx env'=>∃U',SL aj env' h' U'/\KU h U h' U'
 |.bk aj,h',.bk env'=>∃U',SL aj env' h' U'/\KU h U h' U'
 |.ct aj,h',.ct env'=>∃U',SL aj env' h' U'/\KU h U h' U'
 |.rt p,h',.rt v=>RV (λ_=>True) h p h' v/\∃U',KU h U h' U'
 |_,_,_=>False
section
variable {α β γ δ:Type} {h h1 h2:Hs} {U U1 U2:UR} {aa:aH} {env:Env}
theorem bF(r:gi R (m h) p)(k:∀a h1 b,R a h1 b->gi R' (f b h1) (F a)):gi R' (bnd m f h) (pb p F):=by
 unfold bnd;cases p with
 |ok a=>obtain⟨b,h1,e,q⟩:=r;rw[e];exact k a h1 b q
 |exc c es=>trivial
 |no=>trivial
theorem Ft(r:Rel A h R o p):gi (λa h' b=>h<+:h'/\R a h' b) o p:=by
 cases p with
 |ok a=>exact r
 |exc c es=>trivial
 |no=>trivial
theorem ck(r:R a h b):gi R (ret b h) (.ok a):=⟨b,h,rfl,r⟩
theorem kL(r:∀a,o=some a->∃b,o'=some b/\R a h b):gi R (aT o' h) (pl o):=by
 cases o with
 |none=>trivial
 |some a=>obtain⟨b,rfl,q⟩:=r a rfl;exact⟨b,h,rfl,q⟩
theorem mV{c:Bool}(r:c=true->gi R o p):gi R o (pg c p):=by
 unfold pg;cases c with
 |true=>rw[Wg rfl];exact r rfl
 |false=>rw[We V1];trivial
theorem gB(r:gi R o p)(k:∀a h' b,R a h' b->R' a h' b):gi R' o p:=by
 cases p with
 |ok a=>obtain⟨b,h',e,r⟩:=r;exact⟨b,h',e,k a h' b r⟩
 |exc c es=>trivial
 |no=>trivial
theorem KU.refl(s:SL aa env h U)(p:h<+:h1):KU h U h1 U:=⟨p.length_le,λk hk n=>⟨gu p hk,n⟩⟩
theorem KU.trans(a:KU h U h1 U1)(b:KU h1 U1 h2 U2):KU h U h2 U2 where
 le:=Wx a.le b.le
 keep k hk n:=by obtain⟨a1,a2⟩:=a.keep k hk n;obtain⟨b1,b2⟩:=b.keep k (Wc hk a.le) a2;exact⟨b1.trans a1,b2⟩
theorem RL.seq(a:KU h U h1 U1)(r:RL h1 U1 f h' g):RL h U f h' g:=by
 cases f<;>cases g<;>first|exact r.elim|(obtain⟨O',b,c⟩:=r;exact⟨O',b,a.trans c⟩)|(obtain⟨⟨b,c⟩,O',d⟩:=r;exact⟨⟨b,λz=>(c z).dH (Fr.le a.le)⟩,O',a.trans d⟩)
theorem SL.ext(s:SL aa env h U)(p:h<+:h1):SL aa env h1 U where
 len:=s.len
 sh i d e:=by obtain⟨v,k1,k2⟩:=s.sh i d e;exact⟨v,k1,k2.ext p⟩
 un i d e:=by obtain⟨v,k1,k2⟩:=s.un i d e;exact⟨v,k1,k2.ext p⟩
 nn i d e:=by obtain⟨v,k1,k2⟩:=s.nn i d e;exact⟨v,k1,k2.move λ_ _ a g=>⟨a,cN p g⟩⟩
 ub i k e:=Wc (s.ub i k e) p.length_le
 Fp:=s.Fp
theorem SL.flat(s:SL aa env h U):ER (λ_=>True) (cF aa) env h:=λi f d q=>by
 unfold cF at q;rw[Ws]at q;cases e:aa[i]? with
 |none=>rw[e]at q;cases q
 |some o=>
  rw[e]at q;cases o with
  |none=>cases q
  |some fd=>
   obtain⟨g,d'⟩:=fd;cases g with
   |nw=>cases d'<;>first|(cases q;done)|(cases q;rw[We (by decide)];obtain⟨v,k1,k2⟩:=s.nn i _ e;exact⟨v,k1,k2.dn (λ_ z=>nomatch z) λ_ _=>trivial⟩)
   |ow=>cases q;rw[We (by decide)];obtain⟨v,k1,k2⟩:=s.un i _ e;exact⟨v,k1,k2.dH λ_ _=>trivial⟩
   |sh=>cases q;rw[We (by decide)];obtain⟨v,k1,k2⟩:=s.sh i _ e;exact⟨v,k1,k2.dH λ_ _=>trivial⟩
theorem SL.hide(s:SL aa env h U):ER (AU U) (kJ aa) env h:=λi f d q=>by
 unfold kJ at q;rw[Ws]at q;cases e:aa[i]? with
 |none=>rw[e]at q;cases q
 |some o=>
  rw[e]at q;cases o with
  |none=>cases q
  |some fd=>
   obtain⟨g,d'⟩:=fd;cases g with
   |ow=>cases q
   |nw=>cases q
   |sh=>cases q;rw[We (by decide)];exact s.sh i _ e
theorem SL.up(s:SL aa env h U):Up (AU U) h:=λk hk i z=>by have:=s.ub i k z;omega
theorem vQ{i:Nat}:∀o,AU U o->AU (RK U i) o
 |none,_=>trivial
 |some k,n=>λj z=>n j z.2
theorem SL.gen(s:SL aa env h U){i:Nat}(hl:env'.length=env.length)(he:∀j,j≠i->env'[j]?=env[j]?)
  (mA:∀(k:Nat) (b:Ob),AU U (some k)->h[k]?=some b->AU U' (some k)/\h'[k]?=some b) (mR:∀j,j≠i->∀(k:Nat) (b:Ob),U j k->h[k]?=some b->U' j k/\h'[k]?=some b)
  (ub:∀j k,U' j k->k<h'.length) (Fp:∀j l k,U' j k->U' l k->j=l)
  (at':∀m d,i<aa.length->o=some (m,d)->∃v,env'[i]?=some (some v)/\match m with
   |.sh=>Dn (AU U') h' d v
   |.ow=>Dn (RU U' i) h' d v
   |.nw=>NQ U' i h' d v):SL (aa.set i o) env' h' U':=by
 have off:∀(j:Nat) (m:Mk) (d:Val),(aa.set i o)[j]?=some (some (m,d))->(j=i/\i<aa.length/\o=some (m,d))\/(j≠i/\aa[j]?=some (some (m,d))):=λj m d e=>by
  by_cases hij:i=j
  ·subst hij
   have hi:i<aa.length:=by have:=(V4.mp e).1;simpa using this
   rw[Wh hi]at e;cases e;exact .inl ⟨rfl,hi,rfl⟩
  ·rw[V7 hij]at e;exact .inr ⟨λz=>hij z.symm,e⟩
 refine⟨by simp[s.len,hl],λj d e=>?_,λj d e=>?_,λj d e=>?_,ub,Fp⟩
 ·rcases off j _ _ e with ⟨rfl,a,b⟩|⟨n,e⟩
  ·exact at' _ _ a b
  ·obtain⟨w,k1,k2⟩:=s.sh j d e;exact⟨w,(he j n).trans k1,Dn.move (λ_=>trivial) mA _ _ k2⟩
 ·rcases off j _ _ e with ⟨rfl,a,b⟩|⟨n,e⟩
  ·exact at' _ _ a b
  ·obtain⟨w,k1,k2⟩:=s.un j d e;exact⟨w,(he j n).trans k1,Dn.move (A:=RU U j) (A':=RU U' j) (λz=>False.elim z) (λk b a g=>mR j n k b a g) _ _ k2⟩
 ·rcases off j _ _ e with ⟨rfl,a,b⟩|⟨n,e⟩
  ·exact at' _ _ a b
  ·obtain⟨w,k1,k2⟩:=s.nn j d e;exact⟨w,(he j n).trans k1,k2.move λk b=>mR j n k b⟩
theorem xT{i:Nat}:∀j,j≠i->(env.set i v)[j]?=env[j]?:=λj n=>V7 λz=>n z.symm
theorem SL.at_(s:SL aa env h U){i:Nat}(hi:i<aa.length):(env.set i (some v))[i]?=some (some v):=Wh (by rw[<-s.len];exact hi)
theorem SL.set(s:SL aa env h U){i:Nat}(q:Dn (AU U) h d v):SL (aa.set i (some (.sh,d))) (env.set i (some v)) h (RK U i)/\KU h U h (RK U i) :=
 ⟨s.gen (by simp) xT (λk b a g=>⟨vQ _ a,g⟩) (λj n k b a g=>⟨⟨n,a⟩,g⟩) (λj k e=>s.ub j k e.2) (λj l k a b=>s.Fp j l k a.2 b.2) (λm d' hi e=>by cases e;exact⟨v,s.at_ hi,q.dH vQ⟩),Wb _,λk hk n=>⟨rfl,λj z=>n j z.2⟩⟩
theorem SL.RM(s:SL aa env h U)(p:h<+:h1){i:Nat}(q:Dn (Fr h.length) h1 d v):SL (aa.set i (some (.ow,d))) (env.set i (some v)) h1 (Fq U i h.length h1.length)/\KU h U h1 (Fq U i h.length h1.length):=by
 have no:∀k j,k<h.length->¬ U j k->¬ Fq U i h.length h1.length j k:=λk j hk n z=>by
  unfold Fq at z;split at z
  ·omega
  ·exact n z
 refine⟨s.gen (by simp) xT (λk o a g=>⟨λj=>no k j (V4.mp g).1 (a j),cN p g⟩) (λj n k b a g=>⟨?_,cN p g⟩) (λj k e=>?_) (λj l k e1 e2=>?_) (λm d' hi e=>?_),p.length_le,λk hk n=>⟨gu p hk,λj=>no k j hk (n j)⟩⟩
 ·unfold Fq;rw[We n];exact a
 ·unfold Fq at e
  split at e
  ·exact e.2
  ·exact Wc (s.ub j k e) p.length_le
 ·unfold Fq at e1 e2
  split at e1<;>split at e2
  ·rename_i a b;rw[a,b]
  ·have:=s.ub l k e2;omega
  ·have:=s.ub j k e1;omega
  ·exact s.Fp j l k e1 e2
 ·cases e;refine⟨v,s.at_ hi,Dn.move (A:=Fr h.length) (λz=>False.elim z) (λk o a g=>⟨?_,g⟩) _ _ q⟩;show Fq U i h.length h1.length i k;unfold Fq;rw[Wg rfl];exact⟨a,(V4.mp g).1⟩
theorem SL.binds:∀{is:List Nat} {ds vs:List Val} {aa:aH} {env:Env} {U:UR} {aj:aH},SL aa env h U->aY is ds aa=some aj->ak (AU U) h ds vs ->
  ∃env' U',bindAll is vs env=some env'/\SL aj env' h U'/\KU h U h U'
 | [],[],vs,aa,env,U,aj,s,e,q=>by
  rw[ak]at q;subst q;simp only[aY]at e;cases e;exact⟨env,U,rfl,s,KU.refl s (Wl _)⟩
 | i::is,d::ds,vs,aa,env,U,aj,s,e,q=>by
  rw[ak]at q;obtain⟨v,r,rfl,q1,q2⟩:=q;simp only[aY]at e;obtain⟨s1,f1⟩:=s.set (i:=i) q1;obtain⟨env',U',b1,b2,b3⟩:=SL.binds s1 e (q2.dH vQ);exact⟨env',U',by simp only[bindAll];exact b1,b2,f1.trans b3⟩
 |[],_::_,_,_,_,_,_,_,e,_=>by simp[aY]at e
 |_::_,[],_,_,_,_,_,_,e,_=>by simp[aY]at e
theorem SL.bind(s:SL aa env h U)(e:eB p d aa=some aj)(q:Dn (AU U) h d v):∃env' U',fB p v env=some env'/\SL aj env' h U'/\KU h U h U':=by
 cases p with
 |one i=>simp only[eB]at e;cases e;obtain⟨s1,f1⟩:=s.set (i:=i) q;exact⟨_,_,rfl,s1,f1⟩
 |tup is=>
  cases d<;>simp only[eB]at e<;>first|(cases e;done)|skip
  rw[Dn]at q;obtain⟨vs,rfl,q⟩:=q;exact s.binds e q
theorem SL.RO(s:SL aa env h U){i b:Nat}(hb:U i b) (at':∀m d,i<aa.length->x=some (m,d)->∃v,env[i]?=some (some v)/\match m with
   |.sh=>Dn (AU U) (h.set b o) d v
   |.ow=>Dn (RU U i) (h.set b o) d v
   |.nw=>NQ U i (h.set b o) d v):SL (aa.set i x) env (h.set b o) U/\KU h U (h.set b o) U :=
 ⟨s.gen rfl (λ_ _=>rfl) (λk b' a g=>⟨a,by rw[V7 λz=>a i (by rw[<-z];exact hb)];exact g⟩) (λj n k b' a g=>⟨a,by rw[V7 λz=>n (s.Fp j i k a (by rw[<-z];exact hb))];exact g⟩)
  (λj k e=>by rw[YM];exact s.ub j k e) s.Fp at',by simp,λk hk n=>⟨by rw[V7 λz=>n i (by rw[<-z];exact hb)],n⟩⟩
theorem SL.Ov(s:SL aa env h U){i b:Nat}(hb:U i b):SL (aa.set i none) env (h.set b o) U/\KU h U (h.set b o) U:=s.RO hb λ_ _ _ e=>nomatch e
theorem SL.GQ(s:SL aa env h U){i b:Nat}(hb:U i b):SL (aa.set i none) env (h.set b o) U/\KU h U (h.set b o) U:=s.Ov hb
theorem SL.toN(s:SL aa env h U){i:Nat}(hlt:i<aa.length)(ee:env[i]?=some (some w))(q:NQ U i h d w):SL (aa.set i (some (.nw,d))) env h U :=
 s.gen rfl (λ_ _=>rfl) (λ_ _ a g=>⟨a,g⟩) (λ_ _ _ _ a g=>⟨a,g⟩) s.ub s.Fp λ_ _ _ e=>by cases e;exact⟨w,ee,q⟩
end
section
variable {Φ:Nat->List Val->M Val} {Ψ:Nat->List Val->Pr FV} {sp:List Nat} {aa:aH} {env:Env} {h:Hs} {U:UR}
theorem rH(V:bf Φ Ψ e)(s:SL aa env h U):gi (λx h' v=>h<+:h'/\Dn (AU U) h' x.2 v) (aE Φ e env h) (Fi Ψ e aa):=by
 have r1:=V (kJ aa) env (AU U) h s.up s.hide;have r2:=V (cF aa) env (λ_=>True) h (λ_ _=>trivial) s.flat
 have go:gi (λx h' v=>h<+:h'/\Dn (AU U) h' x.2 v) (aE Φ e env h) (pb (aW Ψ e (cF aa)) λx=>pg x.1 (.ok x)):=by
  cases e2:aW Ψ e (cF aa) with
  |ok x=>
   rw[e2]at r2;obtain⟨v,h',ev,p,q⟩:=r2;show gi _ _ (pg x.1 (.ok x));refine mV λhx=>⟨v,h',ev,p,(q.2 hx).dH λo z=>?_⟩;cases o with
   |none=>exact False.elim z
   |some k=>exact s.up k z
  |exc c es=>trivial
  |no=>trivial
 unfold Fi;cases e1:aW Ψ e (kJ aa) with
 |ok x=>rw[e1]at r1;obtain⟨v,h',ev,p,q⟩:=r1;exact⟨v,h',ev,p,q.1⟩
 |exc c es=>exact go
 |no=>exact go
theorem iW(V:bf Φ Ψ e)(s:SL aa env h U):gi (λx h' v=>h<+:h'/\RV (λ_=>True) h x h' v) (aE Φ e env h) (aW Ψ e (cF aa)):=Ft (V (cF aa) env (λ_=>True) h (λ_ _=>trivial) s.flat)
def xU(Φ:Nat->List Val->M Val)(Ψ:Nat->List Val->Pr FV)(sp:List Nat)(s:IS):Prop:=∀(aa:aH) (env:Env) (h:Hs) (U:UR),SL aa env h U->gi (RL h U) (eV Φ s env h) (dz Ψ sp s aa)
def uf(Φ:Nat->List Val->M Val)(Ψ:Nat->List Val->Pr FV)(sp:List Nat)(s:eT):Prop:=∀(aa:aH) (env:Env) (h:Hs) (U:UR),SL aa env h U->gi (RL h U) (jA Φ s env h) (gA Ψ sp s aa)
theorem xW{b:Nat}{h1:Hs}(g:h1[b]?=some (.lst vs))(hl:decide (vs.length<sizeLine)=true):bnd (met .append (.ref b) [v]) (λ_=>ret (Fl.nx env)) h1=.ok (.nx env) (h1.set b (.lst (vs++[v]))):=by
 simp only[met];unfold bnd ask aT aK put ret;dsimp only;rw[g];dsimp only;rw[Wg hl]
theorem ug{i:Nat}:∀{ds vs:List Val} {m:Nat},B5 ds=some m->ak (RU U i) h ds vs->∀w∈vs,∃(b:Nat) (xs:List Val),w=.ref b/\U i b/\h[b]?=some (.lst xs)/\xs.length<=m
 |[],vs,m,e,q,w,hw=>by rw[ak]at q;subst q;cases hw
 | d::ds,vs,m,e,q,w,hw=>by
  rw[ak]at q;obtain⟨v,r,rfl,q1,q2⟩:=q;cases d<;>first|(cases e;done)|skip
  rename_i es;simp only[B5]at e;obtain⟨n,e1,e⟩:=V0.mp e;cases e
  rcases Wf.mp hw with rfl|hw
  ·rw[Dn]at q1
   rcases q1 with ⟨_,_,n,_⟩|⟨b,xs,rfl,hb,e4,e5⟩
   ·exact False.elim n
   exact⟨b,xs,rfl,hb,e4,by rw[<-e5.length];exact Nat.le_max_left _ _⟩
  ·obtain⟨b,xs,k1,k2,k3,k4⟩:=ug e1 q2 w hw;exact⟨b,xs,k1,k2,k3,Wx k4 (Nat.le_max_right _ _)⟩
theorem zo{i:Nat}{j:Int}(ha:bf Φ Ψ a):xU Φ Ψ sp (.expr (.met .append (.idx (.var i) (.cst (.int j))) #[a])):=λaa env h U s=>by
 rw[eV,dz];try dsimp only
 change gi (RL h U) _ (Ou Ψ (.apI i j a) aa);unfold Ou;try dsimp only
 split
 ·rename_i ds hv
  split
  ·rename_i es hj
   obtain⟨w,e2,q⟩:=s.un i _ hv;rw[Dn]at q;obtain⟨ws,rfl,q⟩:=q;have qq:=q;obtain⟨u,hu,q⟩:=q.gJ hj;rw[Dn]at q
   rcases q with ⟨_,_,n,_⟩|⟨b,vs,rfl,hb,e4,e5⟩
   ·exact False.elim n
   have er:aE Φ (.idx (.var i) (.cst (.int j))) env h=.ok (.ref b) h:=by rw[aE,bG (eW e2),aE];unfold bnd ask aT ret;dsimp only;rw[show iM h (.tup ws) (.int j)=some (.ref b) from hu]
   have ev:bnd (aE Φ (.met .append (.idx (.var i) (.cst (.int j))) #[a]) env) (λ_=>ret (Fl.nx env)) h=bnd (aE Φ a env) (λv=>bnd (met .append (.ref b) [v]) λ_=>ret (Fl.nx env)) h:=by
    rw[aE,aC,bG er];rw[aC,bG (a:=()) (h1:=h) (by unfold ask aT;simp[recv,e4])];rw[aC,bg,aC]
    congr 1
   rw[ev];refine bF (iW ha s) λx h1 v ⟨p1,q1⟩=>mV λhg=>?_;have s1:=s.ext p1;have l:=e5.length;have run:=xW (env:=env) (v:=v) (cN p1 e4) (by rw[<-l];exact hg);unfold KZ;cases em:B5 ds with
   |none=>obtain⟨s2,f2⟩:=s1.GQ (o:=.lst (vs++[v])) hb;exact⟨_,_,run,_,s2,(KU.refl s p1).trans f2⟩
   |some m=>
    obtain⟨s2,f2⟩:=s1.Ov (i:=i) (o:=.lst (vs++[v])) hb;have hlt:i<aa.length:=(V4.mp hv).1;have U0:b<h1.length:=s1.ub i b hb;have s3:=s2.toN (i:=i) (d:=.tup [.int ((m+1:Nat):Int),.int ds.length]) (by simpa using hlt) e2 (.inr ⟨_,ws,by rw[qq.length],rfl,λw hw=>by
     obtain⟨c,xs,k1,k2,k3,k4⟩:=ug em qq w hw
     by_cases hcb:b=c
     ·subst hcb;refine⟨b,vs++[v],k1,k2,by rw[Wh U0],?_⟩;rw[k3]at e4;cases e4;simp only[length_append,List.length_singleton];omega
     ·exact⟨c,xs,k1,k2,by rw[V7 hcb];exact cN p1 k3,by omega⟩⟩)
    rw[set_set]at s3;exact⟨_,_,run,_,s3,(KU.refl s p1).trans f2⟩
  ·trivial
 ·rename_i ds hv
  obtain⟨w,e2,q⟩:=s.nn i _ hv
  rcases q with ⟨b,bs,ds',ls,rfl,ed,_⟩|⟨n,ws,ed,rfl,q⟩
  ·cases ed
  cases ed
  by_cases hj:0<=j/\j<(ws.length:Int)
  ·have en:K0 [.int n,.int ws.length] j=some n:=Wg hj
   rw[en];show gi (RL h U) _ (pb (aW Ψ a (cF aa)) _);have hj':j.toNat<ws.length:=by omega
   have hu:gJ ws j=some ws[j.toNat]:=by unfold gJ wg;rw[Wg hj.1,Wg hj.2];simp[hj']
   obtain⟨b,xs,eb,hb,e4,e5⟩:=q _ (XH hj');rw[eb]at hu;have er:aE Φ (.idx (.var i) (.cst (.int j))) env h=.ok (.ref b) h:=by rw[aE,bG (eW e2),aE];unfold bnd ask aT ret;dsimp only;rw[show iM h (.tup ws) (.int j)=some (.ref b) from hu]
   have ev:bnd (aE Φ (.met .append (.idx (.var i) (.cst (.int j))) #[a]) env) (λ_=>ret (Fl.nx env)) h=bnd (aE Φ a env) (λv=>bnd (met .append (.ref b) [v]) λ_=>ret (Fl.nx env)) h:=by
    rw[aE,aC,bG er];rw[aC,bG (a:=()) (h1:=h) (by unfold ask aT;simp[recv,e4])];rw[aC,bg,aC]
    congr 1
   rw[ev];refine bF (iW ha s) λx h1 v ⟨p1,q1⟩=>mV λhg=>?_;have s1:=s.ext p1;have hg:=Wt hg;have run:=xW (env:=env) (v:=v) (cN p1 e4) (decide_eq_true (by omega));obtain⟨s2,f2⟩:=s1.GQ (o:=.lst (xs++[v])) hb;exact⟨_,_,run,_,s2,(KU.refl s p1).trans f2⟩
  ·have en:K0 [.int n,.int ws.length] j=none:=We hj;rw[en];trivial
 ·trivial
theorem Ow(V:bf Φ Ψ e)(V2:∀ab,new2 e=some ab->bf Φ Ψ ab.1/\bf Φ Ψ ab.2):xU Φ Ψ sp (.asg p e):=λaa env h U s=>by
 cases p with
 |one i=>
  rw[eV,dz];try dsimp only
  split
  ·split
   ·rename_i ab hab;cases hab
   ·refine bF (iW V s) λx h1 v ⟨p1,q1⟩=>mV λhx=>?_;obtain⟨s2,f2⟩:=s.RM p1 (i:=i) (q1.2 hx);exact⟨_,_,rfl,_,s2,f2⟩
  ·refine bF (rH V s) λx h1 v aJ=>?_;obtain⟨p1,q1⟩:=aJ;obtain⟨s2,f2⟩:=(s.ext p1).set (i:=i) q1;exact⟨_,_,rfl,_,s2,(KU.refl s p1).trans f2⟩
 |tup is=>
  rw[eV,dz];try dsimp only
  refine bF (rH V s) λx h1 v aJ=>?_;obtain⟨p1,q1⟩:=aJ;have s1:=s.ext p1;refine bF (R:=λaj h' env'=>∃U',SL aj env' h' U'/\KU h1 U h' U') (kL λaj ev=>?_) λaj h2 env' hh=>?_
  ·obtain⟨env',U',b1,b2,b3⟩:=s1.bind ev q1;exact⟨env',b1,U',b2,b3⟩
  ·obtain⟨U',b2,b3⟩:=hh;exact ck ⟨U',b2,(KU.refl s p1).trans b3⟩
theorem Ox(V:bf Φ Ψ c)(ha:uf Φ Ψ sp a)(hb:uf Φ Ψ sp b):xU Φ Ψ sp (.iff c a b):=λaa env h U s=>by
 rw[eV,dz];refine bF (iW V s) λx h1 v aJ=>?_;obtain⟨p1,q1⟩:=aJ;refine bF (R:=λt h' t'=>h'=h1/\t'=t) (kL λt ht=>⟨t,rA (.inl q1.1) ht,rfl,rfl⟩) λt h2 t' aJ=>?_;obtain⟨e1,e2⟩:=aJ;subst e1;subst e2;have s1:=s.ext p1;cases t' with
 |true=>rw[Wg rfl,Wg rfl];exact gB (ha aa env _ U s1) λf h' g r=>r.seq (KU.refl s p1)
 |false=>rw[We V1,We V1];exact gB (hb aa env _ U s1) λf h' g r=>r.seq (KU.refl s p1)
theorem Oz(V:bf Φ Ψ e):xU Φ Ψ sp (.ret e):=λaa env h U s=>by
 rw[eV,dz];exact bF (iW V s) λx h1 v ⟨p1,q1⟩=>ck ⟨q1,U,KU.refl s p1⟩
def RP(h:Hs)(U:UR)(src:Src)(ws:List Val):Prop:=∀h':Hs,(∀k,k<h.length->(∀i,¬ U i k)->h'[k]?=h[k]?)->src.items h'=some ws
theorem OA(q:Dn (AU U) h d v)(e:fF k [d]=some xs):∃src ws,srcOf k [v]=some src/\ak (AU U) h xs ws/\src.items h=some ws/\RP h U src ws:=by
 have lst:∀es,d=.rl es->(∃ws,v=.rl ws/\ak (AU U) h es ws)\/∃a ws,v=.ref a/\h[a]?=some (.lst ws)/\ak (AU U) h es ws/\∀h':Hs,(∀k,k<h.length->(∀i,¬ U i k)->h'[k]?=h[k]?)->h'[a]?=some (Ob.lst ws):=by
  rintro es rfl;rw[Dn]at q
  rcases q with ⟨ws,rfl,_,q⟩|⟨a,ws,rfl,al,g,q⟩
  ·exact .inl ⟨ws,rfl,q⟩
  ·exact .inr ⟨a,ws,rfl,g,q,λh' hk=>(hk a (V4.mp g).1 al).trans g⟩
 cases k with
 |seq=>
  cases d<;>simp only[fF]at e<;>first|(cases e;done)|skip
  ·cases e;rw[Dn]at q;obtain⟨ws,rfl,q⟩:=q;exact⟨.fix ws,ws,rfl,q,rfl,λ_ _=>rfl⟩
  ·cases e
   rcases lst _ rfl with ⟨ws,rfl,q'⟩|⟨a,ws,rfl,g,q',st⟩
   ·exact⟨.fix ws,ws,rfl,q',rfl,λ_ _=>rfl⟩
   ·exact⟨.live a,ws,rfl,q',dS g,λh' hk=>dS (st h' hk)⟩
 |range=>
  cases d<;>simp only[fF]at e<;>first|(cases e;done)|skip
  rw[Dn]at q;subst q;split at e
  ·rename_i hn;cases e;exact⟨.fix _,_,by simp only[srcOf];rw[Wg hn],gr,rfl,λ_ _=>rfl⟩
  ·cases e
 |enum=>
  cases d<;>simp only[fF]at e<;>first|(cases e;done)|skip
  cases e
  rcases lst _ rfl with ⟨ws,rfl,q'⟩|⟨a,ws,rfl,g,q',st⟩
  ·exact⟨.fix _,_,rfl,eE 0 q',rfl,λ_ _=>rfl⟩
  ·exact⟨.enum a,_,rfl,eE 0 q',dU g,λh' hk=>dU (st h' hk)⟩
 |zip=>cases e
theorem uh(hb:∀aa env h U x v,SL aa env h U->Dn (AU U) h x v->gi (RL h U) (body v env h) (bodyV x aa))
  {h1:Hs} {U1:UR} (st:RP h1 U1 src ws) :
  ∀(xs vs:List Val) (i:Nat) (aa:aH) (env:Env) (h:Hs) (U:UR),SL aa env h U->KU h1 U1 h U->ws.drop i=vs->ak (AU U) h xs vs ->
   gi (RL h1 U1) (forM src body vs.length i env h) (gp bodyV xs aa)
 | [],vs,i,aa,env,h,U,s,f,hd,q=>by
  rw[ak]at q;subst q;have hl:ws.length<=i:=Yn.mp hd;have hi:=st h (λk hk n=>(f.keep k hk n).1);rw[gp];refine⟨.nx env,h,?_,U,s,f⟩;show forM src body 0 i env h=_;simp only[forM];unfold bnd ask aT aK;dsimp only;rw[hi];dsimp only;rw[Wg (decide_eq_true hl)];try rfl
 | x::xs,vs,i,aa,env,h,U,s,f,hd,q=>by
  rw[ak]at q;obtain⟨v,r,rfl,q1,q2⟩:=q;have hv:ws[i]?=some v:=by have:=Xb (λl=>l[0]?) hd;simpa using this
  have hr:ws.drop (i+1)=r:=by
   have:ws.drop (i+1)=(ws.drop i).drop 1:=by rw[YS]
   rw[this,hd];rfl
  have hi:=st h (λk hk n=>(f.keep k hk n).1);have ev:forM src body (v::r).length i env h=bnd (body v env) (λf=>match f with
   |.nx env'=>forM src body r.length (i+1) env'
   |.ct env'=>forM src body r.length (i+1) env'
   |.bk env'=>ret (.nx env')
   |.rt v=>ret (.rt v)) h:=by
   show forM src body (r.length+1) i env h=_;simp only[forM];unfold bnd ask aT;dsimp only;rw[hi];dsimp only;rw[hv];try rfl
  rw[ev,gp];refine bF (hb aa env h U x v s q1) λfl h2 gl hr2=>?_;have go:∀aj env' U',SL aj env' h2 U'->KU h U h2 U'->gi (RL h1 U1) (forM src body r.length (i+1) env' h2) (gp bodyV xs aj):=λaj env' U' s' f'=>by
   refine uh hb st xs r (i+1) aj env' h2 U' s' (f.trans f') hr (ak.move (A:=AU U) (λ_=>trivial) (λk o hk g=>?_) _ _ q2);have hlt:k<h.length:=(V4.mp g).1;obtain⟨a1,a2⟩:=f'.keep k hlt hk;exact⟨a2,a1.trans g⟩
  cases fl<;>cases gl<;>first|exact hr2.elim|skip
  ·obtain⟨U',s',f'⟩:=hr2;exact go _ _ U' s' f'
  ·exact ck (RL.seq (f:=.rt _) (g:=.rt _) f hr2)
  ·obtain⟨U',s',f'⟩:=hr2;exact ck ⟨U',s',f.trans f'⟩
  ·obtain⟨U',s',f'⟩:=hr2;exact go _ _ U' s' f'
theorem OC(V:bf Φ Ψ e)(hb:uf Φ Ψ sp body):xU Φ Ψ sp (.for p k #[e] body):=λaa env h U s=>by
 rw[dz];try dsimp only
 have hsp:Fj e p k body=none:=rfl;rw[hsp];dsimp only;rw[eV];have ev:∀(F:List Val->M Fl),bnd (bg Φ #[e] env) F h=bnd (aE Φ e env) (λv=>F [v]) h:=λF=>by
  rw[bg,bg,aC];rfl
 rw[ev];refine bF (rH V s) λx h1 v aJ=>?_;obtain⟨p1,q1⟩:=aJ;have s1:=s.ext p1;refine bF (R:=λxs h' src=>h'=h1/\∃ws,ak (AU U) h1 xs ws/\src.items h1=some ws/\RP h1 U src ws) (kL λxs ex=>?_) λxs h2 src ⟨e2,ws,q2,q3,st⟩=>?_
 ·obtain⟨src,ws,a1,a2,a3,a4⟩:=OA q1 ex;exact⟨src,a1,rfl,ws,a2,a3,a4⟩
 ·subst e2
  have Ri:∀(F:List Val->M Fl),bnd (ask λh=>src.items h) F h2=F ws h2:=λF=>by unfold bnd ask aT;dsimp only;rw[q3]
  rw[Ri];refine gB (uh (λaj env' h' U' x v s' qx=>?_) st xs ws 0 aa env h2 U s1 (KU.refl s1 (Wl _)) rfl q2) λf h' g r=>r.seq (KU.refl s p1);refine bF (R:=λgx h2 gc=>∃U2,SL gx gc h2 U2/\KU h' U' h2 U2) (kL λgx e2=>?_) λgx h2 gc hh=>?_
  ·obtain⟨gc,U2,b1,b2,b3⟩:=s'.bind e2 qx;exact⟨gc,b1,U2,b2,b3⟩
  ·obtain⟨U2,b2,b3⟩:=hh;exact gB (hb gx gc h2 U2 b2) λf h'' g r=>r.seq b3
theorem OE:uf Φ Ψ sp .nil:=λaa env h U s=>by rw[jA,gA];exact ck ⟨U,s,KU.refl s (Wl _)⟩
theorem K2(ha:xU Φ Ψ sp a)(hr:uf Φ Ψ sp r):uf Φ Ψ sp (.cons a r):=λaa env h U s=>by
 rw[jA,gA];refine bF (ha aa env h U s) λf h1 g q=>?_;cases f<;>cases g<;>first|exact q.elim|skip
 ·obtain⟨U1,s1,f1⟩:=q;exact gB (hr _ _ h1 U1 s1) λf h' g r=>r.seq f1
 ·exact ck q
 ·exact ck q
 ·exact ck q
theorem lH(e:∀aa,dz Ψ sp s aa=.no):xU Φ Ψ sp s:=λaa env h U _=>by rw[e];trivial
theorem B6{i:Nat}:xU Φ Ψ sp (.expr (.met .append (.var i) #[a])):=lH λaa=>by rw[dz];rfl
theorem B7{i:Nat}(ha:bf Φ Ψ a):xU Φ Ψ sp (.expr (.met .extend (.var i) #[a])):=lH λaa=>by rw[dz];rfl
theorem B8{i:Nat}(hj:bf Φ Ψ j)(ha:bf Φ Ψ a):xU Φ Ψ sp (.expr (.met .remove (.idx (.var i) j) #[a])):=lH λaa=>by rw[dz];rfl
theorem K3(V:∀e,cD e=true->bf Φ Ψ e)(ho:cD e=true):xU Φ Ψ sp (.expr e):=by
 cases hk:Om e with
 |none=>exact lH λaa=>by rw[dz,hk]
 |some k=>
  cases Ot hk;cases k with
  |app i a=>exact B6
  |apI i j a=>exact zo (V a (bU (bU ho).2).1)
  |ext i a=>exact B7 (V a (bU (bU ho).2).1)
  |rem i j a=>exact B8 (V j (bU (bU ho).1).2) (V a (bU (bU ho).2).1)
theorem K4{x:Nat}{j:Int}(hi:bf Φ Ψ i)(hv:bf Φ Ψ v):xU Φ Ψ sp (.mz (.idx (.var x) (.cst (.int j))) i v):=lH λaa=>by rw[dz];rfl
theorem OF(hi:bf Φ Ψ i)(hv:bf Φ Ψ v):xU Φ Ψ sp (.mz o i v):=by
 cases hk:xJ o with
 |none=>exact lH λaa=>by rw[dz,hk]
 |some y=>cases Oq hk;exact K4 hi hv
theorem OG(hΦ:∀j,Imp (Φ j) (Ψ j)):∀ss,oh ss=true->uf Φ Ψ sp ss:=by
 have V:=(v_all hΦ).1;intro ss;refine eT.rec (motive_1:=λs=>Rh s=true->xU Φ Ψ sp s) (motive_2:=λss=>oh ss=true->uf Φ Ψ sp ss) ?_ ?_ ?_ ?_ ?_ ?_ ?_ ?_ ?_ ?_ ?_ ?_ ?_ ?_ ?_ ?_ ss
 ·intro e f;exact K3 V f
 ·intro p e f;exact Ow (V e f) λab hab=>by
   have ee:e=.lst #[ab.1,ab.2]:=by cases hab
   subst ee;have f:(cD ab.1&&(cD ab.2&&true))=true:=f;have f:=bU f;exact⟨V _ f.1,V _ (bU f.2).1⟩
 ·intro i o e f;exact lH λaa=>by rw[dz]
 ·intro o i v f;have f:=n5 f;exact OF (V i f.1.2) (V v f.2)
 ·intro c a b ha hb f;have f:=n5 f;exact Ox (V c f.1.1) (ha f.1.2) (hb f.2)
 ·intro p k it b hb f
  have f:=bU f;cases it with
  |nil=>exact lH λaa=>by rw[dz.eq_def]<;>rfl
  |cons e es=>
   cases es with
   |nil=>exact OC (V e (bU f.1).1) (hb f.2)
   |cons _ _=>exact lH λaa=>by rw[dz];intro _ z;cases z
 ·intro n c b _ f;exact lH λaa=>by rw[dz]
 ·intro e f;exact Oz (V e f)
 ·intro _;exact lH λaa=>by rw[dz]
 ·intro _ aa env h U s;rw[eV,dz];exact ck ⟨U,s,KU.refl s (Wl _)⟩
 ·intro _ aa env h U s;rw[eV,dz];exact ck ⟨U,s,KU.refl s (Wl _)⟩
 ·intro _ aa env h U s;rw[eV,dz];exact ck ⟨U,s,KU.refl s (Wl _)⟩
 ·intro _;exact lH λaa=>by rw[dz]
 ·intro _ _ _ _ _;exact lH λaa=>by rw[dz]
 ·intro _;exact OE
 ·intro a r ha hr f;have f:=bU f;exact K2 (ha f.1) (hr f.2)
theorem ak.at:∀{ds vs:List Val} {i:Nat} {d:Val},ak A h ds vs->ds[i]?=some d->∃v,vs[i]?=some v/\Dn A h d v
 |[],vs,i,d,q,e=>by cases e
 | d::ds,vs,0,d',q,e=>by
  rw[ak]at q;obtain⟨v,r,rfl,q1,q2⟩:=q;cases e;exact⟨v,rfl,q1⟩
 | d::ds,vs,i+1,d',q,e=>by
  rw[ak]at q;obtain⟨v,r,rfl,q1,q2⟩:=q;exact ak.at (i:=i) q2 e
theorem OH{n:Nat}(q:ak A h ds vs):SL (ds.map (λd=>some (.sh,d))++replicate (n-ds.length) none) (vs.map some++replicate (n-vs.length) none) h (λ_ _=>False):=by
 have l:=q.length;have here:∀(i:Nat) (m:Mk) (d:Val),(ds.map (λd=>some (Mk.sh,d))++replicate (n-ds.length) none)[i]?=some (some (m,d))->m=.sh/\ds[i]?=some d:=λi m d e=>by
  by_cases hi:i<ds.length
  ·rw[Wi (by simpa using hi),Ws,Ww hi]at e;cases e;exact⟨rfl,Ww hi⟩
  ·rw[Wv (by simpa using hi)]at e;cases (Yx.mp (Wn e)).2
 refine⟨by simp[l],λi d e=>?_,λi d e=>?_,λi d e=>?_,λ_ _ z=>z.elim,λ_ _ _ z=>z.elim⟩
 ·obtain⟨_,e⟩:=here i _ d e;obtain⟨v,e2,q2⟩:=q.at e;refine⟨v,?_,q2.dH λo _=>by cases o<;>first|trivial|exact λ_ z=>z⟩;have hi:=(V4.mp e2).1;rw[Wi (by simpa using hi),Ws,e2];rfl
 ·cases (here i _ d e).1
 ·cases (here i _ d e).1
def Fv(Ψ:Nat->List Val->Pr FV)(n:Nat)(body:eT)(ds:List Val):Pr FV:=match K1 Ψ n body ds with
 |.ok x=>pg x.1 (.ok x)
 |_=>.no
theorem B9(k:KU h (λ_ _=>False) h' U'):h<+:h':=by
 refine List.prefix_iff_eq_take.mpr (List.ext_getElem? λi=>?_);rw[List.getElem?_take]
 by_cases hi:i<h.length
 ·rw[Wg hi];exact(k.keep i hi λ_ z=>z).1.symm
 ·rw[We hi];exact List.getElem?_eq_none (by omega)
theorem Fw{n:Nat}(hΦ:∀j,Imp (Φ j) (Ψ j))(ho:oh body=true):Imp (kW Φ n body) (Fv Ψ n body):=λA h ds vs u q=>by
 have r:=OG (sp:=kK body) hΦ body ho _ _ h _ (OH (n:=n) q);have up:∀o,Fr h.length o->A o:=λo z=>by
  cases o with
  |none=>exact z.elim
  |some k=>exact u k z
 unfold Fv K1 kW;cases e1:gA Ψ (kK body) body (ds.map (λd=>some (.sh,d))++replicate (n-ds.length) none) with
 |ok fl=>
  rw[e1]at r;obtain⟨g,h',eg,q⟩:=r;unfold bnd;rw[eg];cases fl with
  |rt p=>
   cases g<;>first|exact q.elim|skip
   obtain⟨⟨_,b⟩,U',k⟩:=q;show Rel A h _ _ (pg p.1 (.ok p));cases hp:p.1 with
   |true=>exact⟨_,h',rfl,B9 k,(b hp).dH up,λ_=>b hp⟩
   |false=>trivial
  |nx _=>
   cases g<;>first|exact q.elim|skip
   obtain⟨U',_,k⟩:=q;exact⟨_,h',rfl,B9 k,by show Dn _ _ Val.non _;rw[Dn],λ_=>by show Dn _ _ Val.non _;rw[Dn]⟩
  |bk _=>trivial
  |ct _=>trivial
 |exc c es=>trivial
 |no=>trivial
end
end Hv
end
section
namespace K14
open PySem L2 Hv
abbrev Ca:List PySem.Str:=["_law_script","_law_k"]
abbrev K5:List PySem.Str:=["_law_poles_here","_law_ties_here","_law_rows"]
abbrev K6:List PySem.Str:=["_law_script","_law_seat","_law_k","_law_one","_law_two","_law_step","_law_shift","_law_number_here"]
abbrev K7:List PySem.Str:=["_law_script","_law_many","_law_one"]
abbrev K8:List PySem.Str:=["_law_script","_law_start","_law_most","_law_many","_law_ties_here","_law_k","_law_cell","_law_one","_law_other"]
abbrev OI:List PySem.Str:=["_law_script","_law_start","_law_most","_law_many"]
abbrev K9:List PySem.Str:=["_law_script","_law_many","_law_nets_here","_law_start"]
abbrev rJ:List PySem.Str:=["_law_net_here","_law_tie"]
abbrev La:List PySem.Str:=["poles","ties","named","name","one","other"]
abbrev Lb:List PySem.Str:=["net","tie","name","one","other"]
abbrev fY:List PySem.Str:=["net","tie"]
abbrev Cb:List PySem.Str:=["net","tie","ends","places","poles","ties","name","one","other"]
abbrev um:List PySem.Str:=["net","side","tie"]
abbrev uo:List PySem.Str:=["_law_which","_law_net_here","_law_tie"]
abbrev uq:List PySem.Str:=["_law_place","_law_high","_law_low"]
abbrev Cc:List PySem.Str:=["_law_net_here","_law_tie","_law_ends","_law_low","_law_high","_law_rows","_law_name","_law_one","_law_other"]
abbrev ur:List PySem.Str:=["_law_found","_law_many"]
abbrev uu:List PySem.Str:=["_law_found","_law_due"]
abbrev Cd:List PySem.Str:=["_law_net_here","_law_tie","_law_handed","_law_which","_law_due","_law_found"]
abbrev GR:List PySem.Str:=["_law_script","_law_k","_law_net_here","_law_cell","_law_names","_law_strange","_law_which"]
def top(i:Nat):Stmt:=PySem.Challenge.pw_linkorcut_k14_a_tie_taken.main.body.getD i (.Pass ⟨0,0,0,0⟩)
def cons:List (Str×Val):=[]
def tb:Tb:=⟨0,[],[],[],[]⟩
def dB:eT:=#[.iff (.cmp .lt (!1) (.blt .len #[!0])) #[.ret (.idx (!0) (!1))] .nil,.ret (¬0)]
def iX:eT:=#[.asg (.one 2) (.comp ["_law_name","_law_one","_law_other"] [none,none,none] (.tup [0,1,2]) .seq #[!1] .no (.tup #[!0,.blt .min #[!1,!2],.blt .max #[!1,!2]])),.ret (.tup #[.tup #[.blt .min #[!0],.blt .max #[!0]],.blt .sorted #[!2]])]
def eG:eT:=#[.asg (.one 3) (.call 0 #[!0,!1]),.asg (.one 4) (.call 0 #[!0,.bin .add (!1) (¬1)]),.asg (.one 5) (¬1),.asg (.one 6) (¬0),.iff (.cmp .gt (.bin .mod (!3) (¬3)) (¬0)) #[.asg (.one 5) (.bin .add (.bin .mod (!3) (.bin .pow (¬10) (¬57))) (¬1))] .nil,.iff (.cmp .gt (.bin .mod (!4) (¬3)) (¬0)) #[.asg (.one 6) (.bin .mod (!4) (.bin .pow (¬10) (¬57)))] .nil,.asg (.one 7) (.bin .add (.bin .mul (!5) (.bin .mod (.bin .add (.bin .mul (.bin .add (¬1) (.bin .mod (.bin .fdiv (!4) (¬3)) (¬66))) (!2)) (.bin .mod (.bin .fdiv (!3) (¬3)) (¬67))) (¬67))) (!6)),.iff (.cmp .eq (.bin .mod (!4) (¬7)) (¬3)) #[.ret (.bin .sub (.bin .sub (.bin .pow (¬10) (¬60)) (¬1)) (!7))] .nil,.ret (!7)]
def fJ:eT:=#[.asg (.one 2) (.call 2 #[!0,¬2,¬0]),.iff (.or (.cmp .eq (!1) (¬1)) (.cmp .eq (.bin .mod (.bin .fdiv (.call 0 #[!0,¬4]) (¬8)) (¬5)) (¬4))) #[.ret (.tup #[!2,!2])] .nil,.ret (.tup #[!2,.call 2 #[!0,¬2,¬1]])]
def gC:eT:=#[.asg (.one 4) (.lst .nil),.for (.tup [5,6]) .enum #[.slc (!0) (!1) (.bin .add (!1) (!2))] #[.asg (.one 7) (.call 2 #[!0,¬2,.bin .mod (.bin .mod (.bin .mul (!6) (¬48271)) (¬10007)) (!3)]),.asg (.one 8) (.call 2 #[!0,¬2,.bin .mod (.bin .mod (.bin .mul (!6) (¬16807)) (¬10009)) (!3)]),.expr (.met .append (!4) #[.tup #[.call 2 #[!0,¬0,!5],!7,!8]])],.ret (!4)]
def gD:eT:=#[.asg (.one 1) (.bin .add (¬1) (.bin .mod (.call 0 #[!0,¬4]) (¬8))),.asg (.one 2) (.lst .nil),.for (.one 3) .seq #[.lst #[¬5,¬19,¬33,¬47]] #[.iff (.or (.cmp .eq (!3) (¬5)) (.cmp .lt (!3) (.blt .len #[!0]))) #[.expr (.met .append (!2) #[.call 1 #[.call 3 #[!0,!1],.call 4 #[!0,!3,¬14,!1]]])] .nil],.ret (!2)]
def iY:eT:=#[.ret (.tup #[.idx (!0) (¬0),.comp ["_law_row","_law_tie"] [none,some 1] (.one 0) .seq #[.idx (!0) (¬1)] (.cmp .ne (.idx (!0) (¬0)) (!1)) (!0)])]
def bS:eT:=#[.asg (.one 2) (.lst .nil),.for (.tup [3,4,5]) .seq #[!1] #[.expr (.met .append (!2) #[.tup #[!3,.blt .min #[!4,!5],.blt .max #[!4,!5]]])],.ret (.tup #[.tup #[.blt .min #[.idx (!0) (¬0),.idx (!0) (¬1)],.blt .max #[.idx (!0) (¬0),.idx (!0) (¬1)]],.blt .sorted #[!2]])]
def dW:eT:=#[.for (.tup [2,3,4]) .seq #[.idx (!0) (¬1)] #[.iff (.cmp .eq (!2) (!1)) #[.ret (.tup #[!3,!4])] .nil],.setF 0 (.call 8 #[!1]) "" .no]
def dX:eT:=#[.expr (.call 9 #[!0,!1]),.ret (.comp ["each","tie"] [none,some 1] (.one 0) .seq #[.idx (!0) (¬1)] (.cmp .ne (.idx (!0) (¬0)) (!1)) (!0))]
def cz:eT:=#[.ret (.call 7 #[.idx (!0) (¬0),.call 10 #[!0,!1]])]
def gE:eT:=#[.asg (.one 2) (.call 9 #[!0,!1]),.asg (.one 3) (.dct1 (.idx (!2) (¬1)) (.idx (!2) (¬0))),.asg (.one 4) (.tup #[.dget (!3) (.idx (.idx (!0) (¬0)) (¬0)) (.idx (.idx (!0) (¬0)) (¬0)),.dget (!3) (.idx (.idx (!0) (¬0)) (¬1)) (.idx (.idx (!0) (¬0)) (¬1))]),.asg (.one 5) (.lst .nil),.for (.tup [6,7,8]) .seq #[.call 10 #[!0,!1]] #[.expr (.met .append (!5) #[.tup #[!6,.dget (!3) (!7) (!7),.dget (!3) (!8) (!8)]])],.ret (.call 7 #[!4,!5])]
def dY:eT:=#[.iff (.cmp .eq (!1) (.cst (.str "linker"))) #[.ret (.call 12 #[!0,!2])] .nil,.ret (.call 11 #[!0,!2])]
def fK:eT:=#[.iff (.cmp .eq (!0) (¬0)) #[.ret (.call 11 #[!1,!2])] .nil,.iff (.cmp .eq (!0) (¬1)) #[.ret (.call 12 #[!1,!2])] .nil,.ret (.call 13 #[!1,.idx (.lst #[.cst (.str "cutter"),.cst (.str "linker")]) (.bin .sub (!0) (¬2)),!2])]
def iZ:eT:=#[.iff (.cmp .eq (!0) (!1)) #[.ret (!2)] .nil,.ret (!0)]
def cK:eT:=#[.asg (.one 2) (.idx (.comp ["_law_row","_law_tie"] [none,some 1] (.one 0) .seq #[.idx (!0) (¬1)] (.cmp .eq (.idx (!0) (¬0)) (!1)) (.tup #[.idx (!0) (¬1),.idx (!0) (¬2)])) (¬0)),.asg (.one 3) (.blt .min #[!2]),.asg (.one 4) (.blt .max #[!2]),.asg (.one 5) (.lst .nil),.for (.tup [6,7,8]) .seq #[.idx (!0) (¬1)] #[.iff (.cmp .ne (!6) (!1)) #[.expr (.met .append (!5) #[.tup #[!6,.call 15 #[!7,!4,!3],.call 15 #[!8,!4,!3]]])] .nil],.ret (.call 1 #[.tup #[.call 15 #[.idx (.idx (!0) (¬0)) (¬0),!4,!3],.call 15 #[.idx (.idx (!0) (¬0)) (¬1),!4,!3]],!5])]
def eL:eT:=#[.iff (.or (.not (.blt (.isin "tuple") #[!0])) (.cmp .ne (.blt .len #[!0]) (!1))) #[.ret (.cst (.bl false))] .nil,.ret (.blt .all #[.comp ["_law_one"] [none] (.one 0) .seq #[!0] .no (.and (.blt (.isin "int") #[!0]) (.not (.blt (.isin "bool") #[!0])))])]
def cL:eT:=#[.iff (.or (.not (.blt (.isin "tuple") #[!0])) (.or (.cmp .ne (.blt .len #[!0]) (¬2)) (.not (.call 17 #[.idx (!0) (¬0),¬2])))) #[.ret (.cst (.bl false))] .nil,.iff (.or (.not (.blt (.isin "list") #[.idx (!0) (¬1)])) (.not (.blt .all #[.comp ["_law_tie"] [none] (.one 0) .seq #[.idx (!0) (¬1)] .no (.call 17 #[!0,¬3])]))) #[.ret (.cst (.bl false))] .nil,.ret (.cmp .eq (!0) (!1))]
def dZ:eT:=#[.asg (.one 2) (.tup #[.idx (!0) (¬0),.blt .list #[.idx (!0) (¬1)]]),.for (.one 3) .range #[¬4] #[.asg (.one 4) (.call 6 #[!0,!1]),.iff (.cmp .eq (.bin .mod (!3) (¬2)) (¬1)) #[.asg (.one 4) (.call 16 #[!0,!1])] .nil,.asg (.one 5) (.call 14 #[!3,!2,!1]),.iff (.or (.not (.call 18 #[!5,!4])) (.cmp .ne (!2) (!0))) #[.ret (.cst (.bl false))] .nil,.expr (.met .append (.idx (!5) (¬1)) #[.tup #[¬7,¬0,¬0]]),.iff (.or (.cmp .ne (!2) (!0)) (.not (.call 18 #[.call 14 #[!3,!2,!1],!4]))) #[.ret (.cst (.bl false))] .nil],.ret (.cst (.bl true))]
def ou:eT:=#[.for (.tup [1,2]) .enum #[.call 5 #[!0]] #[.asg (.one 3) (.call 0 #[!0,.bin .add (¬5) (!1)]),.asg (.one 4) (.comp ["_law_tie"] [none] (.one 0) .seq #[.idx (!2) (¬1)] .no (.idx (!0) (¬0))),.iff (.and (.cmp .gt (.blt .len #[!4]) (¬0)) (.not (.call 19 #[!2,.idx (!4) (.bin .mod (.bin .fdiv (!3) (¬3)) (.blt .len #[!4]))]))) #[.ret (.cst (.bl false))] .nil,.asg (.one 5) (.idx (.lst #[.bin .mod (!3) (.bin .pow (¬10) (¬60)),.call 2 #[!0,¬0,.bin .add (¬20) (.bin .mod (!3) (¬9))],.neg (¬1)]) (.bin .mod (!3) (¬3))),.for (.one 6) .range #[¬4] #[.iff (.and (.cmp .nin (!5) (!4)) (.not (.call 20 #[!6,!2,!5]))) #[.ret (.cst (.bl false))] .nil]],.ret (.cst (.bl true))]
def OJ:List Row:=[]
def lZ:List Val->M Val:=kW (look OJ) 2 dB
def OL:List Row:=OJ++[(("_law_cell_at":Str),2,lZ)]
def xY:List Val->M Val:=kW (look OL) 3 iX
def OM:List Row:=OL++[(("_law_net":Str),2,xY)]
def oz:List Val->M Val:=kW (look OM) 8 eG
def ON:List Row:=OM++[(("_law_number":Str),3,oz)]
def qm:List Val->M Val:=kW (look ON) 3 fJ
def OO:List Row:=ON++[(("_law_poles":Str),2,qm)]
def uv:List Val->M Val:=kW (look OO) 9 gC
def OP:List Row:=OO++[(("_law_ties":Str),4,uv)]
def uw:List Val->M Val:=kW (look OP) 4 gD
def OQ:List Row:=OP++[(("_law_nets":Str),1,uw)]
def xZ:List Val->M Val:=kW (look OQ) 2 iY
def OS:List Row:=OQ++[(("_law_out":Str),2,xZ)]
def ja:List Val->M Val:=kW (look OS) 6 bS
def PF:List Row:=OS++[(("put_in_order":Str),2,ja)]
def oA:List Val->M Val:=vv 8 "tie"
def OT:List Row:=PF++[(("NotThere":Str),2001,oA)]
def qo:List Val->M Val:=kW (look OT) 5 dW
def Ce:List Row:=OT++[(("ends_of":Str),2,qo)]
def qt:List Val->M Val:=kW (look Ce) 2 dX
def Cf:List Row:=Ce++[(("without":Str),2,qt)]
def l7:List Val->M Val:=kW (look Cf) 2 cz
def Cg:List Row:=Cf++[(("taken_out":Str),2,l7)]
def x6:List Val->M Val:=kW (look Cg) 9 gE
def Ci:List Row:=Cg++[(("drawn":Str),2,x6)]
def qu:List Val->M Val:=kW (look Ci) 3 dY
def Cj:List Row:=Ci++[(("done_by":Str),3,qu)]
def lI:List Val->M Val:=kW (look Cj) 3 fK
def Ck:List Row:=Cj++[(("_law_asked":Str),3,lI)]
def x8:List Val->M Val:=kW (look Ck) 3 iZ
def Cm:List Row:=Ck++[(("_law_put":Str),3,x8)]
def kM:List Val->M Val:=kW (look Cm) 9 cK
def Cn:List Row:=Cm++[(("_law_together":Str),2,kM)]
def oB:List Val->M Val:=kW (look Cn) 2 eL
def Co:List Row:=Cn++[(("_law_wholes":Str),2,oB)]
def kN:List Val->M Val:=kW (look Co) 2 cL
def Cp:List Row:=Co++[(("_law_same_net":Str),2,kN)]
def qv:List Val->M Val:=kW (look Cp) 6 dZ
def Cq:List Row:=Cp++[(("_law_right":Str),2,qv)]
def jL:IS:=(.ret (.and (!4) (.and (.blt (.isin "int") #[!3]) (.and (.not (.blt (.isin "bool") #[!3])) (.cmp .eq (!3) (!2))))))
def kO:Stmt:=(aA (top 28)).getD 3 (.Pass ⟨0,0,0,0⟩)
def jb:List Val->M Val:=Fe lI 8 "tie"
def Fx:List Row:=Cq++[(("_law_refused":Str),3,jb)]
def Cr:List Val->M Val:=kW (look Fx) 7 ou
def RQ:List bw:=[]
def aV:bw:=fG (aB RQ) 2 dB
def RS:List bw:=RQ++[aV]
def jx:bw:=fG (aB RS) 3 iX
def PJ:List bw:=RS++[jx]
def cO:bw:=fG (aB PJ) 8 eG
def OU:List bw:=PJ++[cO]
def gF:bw:=fG (aB OU) 3 fJ
def PK:List bw:=OU++[gF]
def jd:bw:=fG (aB PK) 9 gC
def Lc:List bw:=PK++[jd]
def je:bw:=fG (aB Lc) 4 gD
def RT:List bw:=Lc++[je]
def ig:bw:=fG (aB RT) 2 iY
def RW:List bw:=RT++[ig]
def bL:bw:=fG (aB RW) 6 bS
def SV:List bw:=RW++[bL]
def iu:bw:=Nj 8 "tie"
def PM:List bw:=SV++[iu]
def cV:bw:=fG (aB PM) 5 dW
def Fy:List bw:=PM++[cV]
def cW:bw:=fG (aB Fy) 2 dX
def Cs:List bw:=Fy++[cW]
def aO:bw:=fG (aB Cs) 2 cz
def zp:List bw:=Cs++[aO]
def bW:bw:=fG (aB zp) 9 gE
def Ct:List bw:=zp++[bW]
def d8:bw:=fG (aB Ct) 3 dY
def zq:List bw:=Ct++[d8]
def cA:bw:=fG (aB zq) 3 fK
def Ld:List bw:=zq++[cA]
def jy:bw:=fG (aB Ld) 3 iZ
def Cu:List bw:=Ld++[jy]
def cB:bw:=fG (aB Cu) 9 cK
def Le:List bw:=Cu++[cB]
def cP:bw:=fG (aB Le) 2 eL
def Fz:List bw:=Le++[cP]
def dD:bw:=fG (aB Fz) 2 cL
def vR:List bw:=Fz++[dD]
def fm:bw:=Fv (aB vR) 6 dZ
def OV:List bw:=vR++[fm]
def eN:bw:=KW cA 8 "tie"
def mF:List bw:=OV++[eN]
def Cv:bw:=fG (aB mF) 7 ou
theorem iC:aB PJ 0=aV:=rfl
theorem jf:aB OU 0=aV:=rfl
theorem jD:aB OU 2=cO:=rfl
theorem jX:aB PK 2=cO:=rfl
theorem jE:aB Lc 0=aV:=rfl
theorem mG:aB Lc 1=jx:=rfl
theorem kP:aB Lc 3=gF:=rfl
theorem lJ:aB Lc 4=jd:=rfl
theorem jF:aB PM 8=iu:=rfl
theorem fL:aB Fy 9=cV:=rfl
theorem fP:aB Cs 7=bL:=rfl
theorem eO:aB Cs 10=cW:=rfl
theorem iD:aB zp 7=bL:=rfl
theorem gG:aB zp 9=cV:=rfl
theorem lK:aB zp 10=cW:=rfl
theorem jg:aB Ct 11=aO:=rfl
theorem lM:aB Ct 12=bW:=rfl
theorem jh:aB zq 11=aO:=rfl
theorem lN:aB zq 12=bW:=rfl
theorem fM:aB zq 13=d8:=rfl
theorem jG:aB Cu 1=jx:=rfl
theorem eZ:aB Cu 15=jy:=rfl
theorem dF:aB Fz 17=cP:=rfl
theorem gH:aB vR 6=ig:=rfl
theorem fN:aB vR 14=cA:=rfl
theorem iE:aB vR 16=cB:=rfl
theorem dI:aB vR 18=dD:=rfl
theorem lO:aB mF 0=aV:=rfl
theorem mH:aB mF 2=cO:=rfl
theorem o8:aB mF 5=je:=rfl
theorem oE:aB mF 19=fm:=rfl
theorem lP:aB mF 20=eN:=rfl
theorem i0:eF OJ RQ:=BU
theorem ux:Imp lZ aV:=bR (aL i0) (by decide +kernel)
theorem i1:eF OL RS:=aF i0 ux
theorem FA:Imp xY jx:=bR (aL i1) (by decide +kernel)
theorem i2:eF OM PJ:=aF i1 FA
theorem vS:Imp oz cO:=bR (aL i2) (by decide +kernel)
theorem i3:eF ON OU:=aF i2 vS
theorem zu:Imp qm gF:=bR (aL i3) (by decide +kernel)
theorem i4:eF OO PK:=aF i3 zu
theorem Cw:Imp uv jd:=bR (aL i4) (by decide +kernel)
theorem i5:eF OP Lc:=aF i4 Cw
theorem Cy:Imp uw je:=bR (aL i5) (by decide +kernel)
theorem i6:eF OQ RT:=aF i5 Cy
theorem FD:Imp xZ ig:=bR (aL i6) (by decide +kernel)
theorem i7:eF OS RW:=aF i6 FD
theorem oF:Imp ja bL:=bR (aL i7) (by decide +kernel)
theorem i8:eF PF SV:=aF i7 oF
theorem vU:Imp oA iu:=EU
theorem i9:eF OT PM:=aF i8 vU
theorem zv:Imp qo cV:=bR (aL i9) (by decide +kernel)
theorem SW:eF Ce Fy:=aF i9 zv
theorem zw:Imp qt cW:=bR (aL SW) (by decide +kernel)
theorem SX:eF Cf Cs:=aF SW zw
theorem uy:Imp l7 aO:=bR (aL SX) (by decide +kernel)
theorem i12:eF Cg zp:=aF SX uy
theorem FF:Imp x6 bW:=bR (aL i12) (by decide +kernel)
theorem SY:eF Ci Ct:=aF i12 FF
theorem zx:Imp qu d8:=bR (aL SY) (by decide +kernel)
theorem S0:eF Cj zq:=aF SY zx
theorem qw:Imp lI cA:=bR (aL S0) (by decide +kernel)
theorem S4:eF Ck Ld:=aF S0 qw
theorem FG:Imp x8 jy:=bR (aL S4) (by decide +kernel)
theorem S5:eF Cm Cu:=aF S4 FG
theorem rK:Imp kM cB:=bR (aL S5) (by decide +kernel)
theorem S6:eF Cn Le:=aF S5 rK
theorem vV:Imp oB cP:=bR (aL S6) (by decide +kernel)
theorem S7:eF Co Fz:=aF S6 vV
theorem rL:Imp kN dD:=bR (aL S7) (by decide +kernel)
theorem S8:eF Cp vR:=aF S7 rL
theorem zy:Imp qv fm:=Fw (aL S8) (by decide +kernel)
theorem U3:eF Cq OV:=aF S8 zy
theorem uz:Imp jb eN:=Fg qw
theorem U4:eF Fx mF:=aF U3 uz
theorem FH{ns:List Int}{f:Bool}(e:Cv [.rl (ns.map .int)]=.ok (f,.bl true)):∃h',Cr [.rl (ns.map .int)] []=.ok (.bl true) h':=BV (bR (aL U4) (by decide +kernel)) e
theorem c0:aU Ca Ca (af (top 16))=true:=by decide +kernel
theorem d0:bA ⟨Ca,af (top 16),OJ.map (λr=>(r.1,r.2.1)),cons,tb⟩ dB (aA (top 16))=true:=by decide +kernel
theorem c1:aU K5 ["_law_poles_here","_law_ties_here"] (af (top 20))=true:=by decide +kernel
theorem d1:bA ⟨K5,af (top 20),OL.map (λr=>(r.1,r.2.1)),cons,tb⟩ iX (aA (top 20))=true:=by decide +kernel
theorem c2:aU K6 ["_law_script","_law_seat","_law_k"] (af (top 17))=true:=by decide +kernel
theorem d2:bA ⟨K6,af (top 17),OM.map (λr=>(r.1,r.2.1)),cons,tb⟩ eG (aA (top 17))=true:=by decide +kernel
theorem c3:aU K7 ["_law_script","_law_many"] (af (top 19))=true:=by decide +kernel
theorem d3:bA ⟨K7,af (top 19),ON.map (λr=>(r.1,r.2.1)),cons,tb⟩ fJ (aA (top 19))=true:=by decide +kernel
theorem c4:aU K8 OI (af (top 18))=true:=by decide +kernel
theorem d4:bA ⟨K8,af (top 18),OO.map (λr=>(r.1,r.2.1)),cons,tb⟩ gC (aA (top 18))=true:=by decide +kernel
theorem c5:aU K9 ["_law_script"] (af (top 21))=true:=by decide +kernel
theorem d5:bA ⟨K9,af (top 21),OP.map (λr=>(r.1,r.2.1)),cons,tb⟩ gD (aA (top 21))=true:=by decide +kernel
theorem c6:aU rJ rJ (af (top 24))=true:=by decide +kernel
theorem d6:bA ⟨rJ,af (top 24),OQ.map (λr=>(r.1,r.2.1)),cons,tb⟩ iY (aA (top 24))=true:=by decide +kernel
theorem c7:aU La ["poles","ties"] (af (top 8))=true:=by decide +kernel
theorem d7:bA ⟨La,af (top 8),OS.map (λr=>(r.1,r.2.1)),cons,tb⟩ bS (aA (top 8))=true:=by decide +kernel
def Lf:Stmt:=(match top 4 with|.ClassDef (body:=b) ..=>b.getD 0 (.Pass ⟨0,0,0,0⟩)|_=>.Pass ⟨0,0,0,0⟩)
theorem RX:Oi (aA Lf) "tie":=⟨_,_,_,_,rfl⟩
theorem U5:aU ["self","tie"] ["self","tie"] (af Lf)=true:=by decide +kernel
theorem c9:aU Lb fY (af (top 9))=true:=by decide +kernel
theorem d9:bA ⟨Lb,af (top 9),OT.map (λr=>(r.1,r.2.1)),cons,tb⟩ dW (aA (top 9))=true:=by decide +kernel
theorem U6:aU fY fY (af (top 11))=true:=by decide +kernel
theorem U7:bA ⟨fY,af (top 11),Ce.map (λr=>(r.1,r.2.1)),cons,tb⟩ dX (aA (top 11))=true:=by decide +kernel
theorem U8:aU fY fY (af (top 12))=true:=by decide +kernel
theorem U9:bA ⟨fY,af (top 12),Cf.map (λr=>(r.1,r.2.1)),cons,tb⟩ cz (aA (top 12))=true:=by decide +kernel
theorem c12:aU Cb fY (af (top 13))=true:=by decide +kernel
theorem Va:bA ⟨Cb,af (top 13),Cg.map (λr=>(r.1,r.2.1)),cons,tb⟩ gE (aA (top 13))=true:=by decide +kernel
theorem Vb:aU um um (af (top 14))=true:=by decide +kernel
theorem Vc:bA ⟨um,af (top 14),Ci.map (λr=>(r.1,r.2.1)),cons,tb⟩ dY (aA (top 14))=true:=by decide +kernel
theorem S9:aU uo uo (af (top 27))=true:=by decide +kernel
theorem Tc:bA ⟨uo,af (top 27),Cj.map (λr=>(r.1,r.2.1)),cons,tb⟩ fK (aA (top 27))=true:=by decide +kernel
theorem Vd:aU uq uq (af (top 25))=true:=by decide +kernel
theorem Ve:bA ⟨uq,af (top 25),Ck.map (λr=>(r.1,r.2.1)),cons,tb⟩ iZ (aA (top 25))=true:=by decide +kernel
theorem Vf:aU Cc rJ (af (top 26))=true:=by decide +kernel
theorem Vg:bA ⟨Cc,af (top 26),Cm.map (λr=>(r.1,r.2.1)),cons,tb⟩ cK (aA (top 26))=true:=by decide +kernel
theorem Vh:aU ur ur (af (top 22))=true:=by decide +kernel
theorem Vi:bA ⟨ur,af (top 22),Cn.map (λr=>(r.1,r.2.1)),cons,tb⟩ eL (aA (top 22))=true:=by decide +kernel
theorem Vj:aU uu uu (af (top 23))=true:=by decide +kernel
theorem Vk:bA ⟨uu,af (top 23),Co.map (λr=>(r.1,r.2.1)),cons,tb⟩ cL (aA (top 23))=true:=by decide +kernel
theorem Vl:aU Cd rJ (af (top 29))=true:=by decide +kernel
theorem Vm:bA ⟨Cd,af (top 29),Cp.map (λr=>(r.1,r.2.1)),cons,tb⟩ dZ (aA (top 29))=true:=by decide +kernel
theorem Vn:aU ["_law_which","_law_net_here","_law_number_here","_law_what","_law_plain","e"] ["_law_which","_law_net_here","_law_number_here"] (af (top 28))=true:=by decide +kernel
theorem Vo:zg ⟨["_law_which","_law_net_here","_law_number_here","_law_what","_law_plain","e"],af (top 28),Cq.map (λr=>(r.1,r.2.1)),cons,tb⟩ jL kO=true:=by decide +kernel
theorem Vp:KN (aA (top 28)) kO "_law_asked" "NotThere" "tie" "_law_which" "_law_net_here" "_law_number_here":=⟨_,_,_,_,_,_,_,_,_,_,_,_,_,_,_,_,_,_,_,_,_,_,_,_,_,_,_,_,_,_,_,_,_,_,_,_,_,_,_,_,_,_,_,⟨0,0,0,0⟩,_,_,_,rfl⟩
theorem Vq:∀x∈GP,(af (top 28)).names.lookup x=some .local:=by decide +kernel
theorem Vr:∀x∈("_law_asked":Str)::("NotThere":Str)::glE,(af (top 28)).names.lookup x=some .globalImplicit:=by decide +kernel
theorem Vs:∀v0 v1 i h,eV (look Cq) jL [some v0,some v1,some (.int i),some (.int i),some (.bl true),none] h=.ok (.rt (.bl true)) h:=λv0 v1 i h=>KY v0 v1 i h
theorem Vt:aU GR ["_law_script"] (af (top 30))=true:=by decide +kernel
theorem Vu:bA ⟨GR,af (top 30),Fx.map (λr=>(r.1,r.2.1)),cons,tb⟩ ou (aA (top 30))=true:=by decide +kernel
section
variable {P:Program} {w:World} {K:Frag} {mg:Str->Option Value} {base:Heap}
theorem all_mk{l:PySem.W.OpenLaw}{h:Heap}{fa:Addr}(X:K.In h)(G:h.Ns mainGlobals mg)(Vv:mg "law" = some (.ref fa))(hφ:∀ns:List Int,ns.length<=63->∃h',Cr [.rl (ns.map .int)] []=.ok (.bl true) h'){X1 X2 X3 X4 X5:Addr}{a0:Addr}{a1:Addr}{a2:Addr}{a3:Addr}{a4:Addr}{a5:Addr}{a6:Addr}{a7:Addr}{a8:Addr}{b8:Addr}{OW:ClassData}{a9:Addr}{LI:Addr}{Td:Addr}{Te:Addr}{Tf:Addr}{Tg:Addr}{Th:Addr}{Ti:Addr}{Tj:Addr}{Tn:Addr}{To:Addr}{RY:Addr}{Tp:Addr}
  (A0:nsIn K mainGlobals "_law_cell_at" = some (some (.ref a0)))
  (F0:mD K "_law_cell_at" "_law_cell_at" (top 16) a0)
  (A1:nsIn K mainGlobals "_law_net" = some (some (.ref a1)))
  (F1:mD K "_law_net" "_law_net" (top 20) a1)
  (A2:nsIn K mainGlobals "_law_number" = some (some (.ref a2)))
  (F2:mD K "_law_number" "_law_number" (top 17) a2)
  (A3:nsIn K mainGlobals "_law_poles" = some (some (.ref a3)))
  (F3:mD K "_law_poles" "_law_poles" (top 19) a3)
  (A4:nsIn K mainGlobals "_law_ties" = some (some (.ref a4)))
  (F4:mD K "_law_ties" "_law_ties" (top 18) a4)
  (A5:nsIn K mainGlobals "_law_nets" = some (some (.ref a5)))
  (F5:mD K "_law_nets" "_law_nets" (top 21) a5)
  (A6:nsIn K mainGlobals "_law_out" = some (some (.ref a6)))
  (F6:mD K "_law_out" "_law_out" (top 24) a6)
  (A7:nsIn K mainGlobals "put_in_order" = some (some (.ref a7)))
  (F7:mD K "put_in_order" "put_in_order" (top 8) a7)
  (A8:nsIn K mainGlobals "NotThere" = some (some (.ref a8))) (XI8:findIn K (.ref a8) "__init__" = some (some (.ref b8))) (XT8:mD K "__init__" "NotThere.__init__" Lf b8) (XM8:L2.yQ K a8 X1 b8 OW) (XQ8:findIn K (.ref a8) "tie" = some none)
  (A9:nsIn K mainGlobals "ends_of" = some (some (.ref a9)))
  (F9:mD K "ends_of" "ends_of" (top 9) a9)
  (A10:nsIn K mainGlobals "without" = some (some (.ref LI)))
  (F10:mD K "without" "without" (top 11) LI)
  (A11:nsIn K mainGlobals "taken_out" = some (some (.ref Td)))
  (F11:mD K "taken_out" "taken_out" (top 12) Td)
  (A12:nsIn K mainGlobals "drawn" = some (some (.ref Te)))
  (F12:mD K "drawn" "drawn" (top 13) Te)
  (A13:nsIn K mainGlobals "done_by" = some (some (.ref Tf)))
  (F13:mD K "done_by" "done_by" (top 14) Tf)
  (A14:nsIn K mainGlobals "_law_asked" = some (some (.ref Tg)))
  (F14:mD K "_law_asked" "_law_asked" (top 27) Tg)
  (A15:nsIn K mainGlobals "_law_put" = some (some (.ref Th)))
  (F15:mD K "_law_put" "_law_put" (top 25) Th)
  (A16:nsIn K mainGlobals "_law_together" = some (some (.ref Ti)))
  (F16:mD K "_law_together" "_law_together" (top 26) Ti)
  (A17:nsIn K mainGlobals "_law_wholes" = some (some (.ref Tj)))
  (F17:mD K "_law_wholes" "_law_wholes" (top 22) Tj)
  (A18:nsIn K mainGlobals "_law_same_net" = some (some (.ref Tn)))
  (F18:mD K "_law_same_net" "_law_same_net" (top 23) Tn)
  (A19:nsIn K mainGlobals "_law_right" = some (some (.ref To)))
  (F19:mD K "_law_right" "_law_right" (top 29) To)
  (A20:nsIn K mainGlobals "_law_refused" = some (some (.ref RY)))
  (F20:mD K "_law_refused" "_law_refused" (top 28) RY)
  (A21:nsIn K mainGlobals "law" = some (some (.ref Tp)))
  (F21:mD K "law" "law" (top 30) Tp)
  (Z:∀x∈bltNames,nsIn K mainGlobals x=some none)
  (XA1:nsIn K mainGlobals "NetError" = some (some (.ref X1)))
  (XA2:nsIn K mainGlobals "NoNumber" = some (some (.ref X2)))
  (XA3:nsIn K mainGlobals "Twice" = some (some (.ref X3)))
  (XA4:nsIn K mainGlobals "Over" = some (some (.ref X4)))
  (XA5:nsIn K mainGlobals "OtherTurn" = some (some (.ref X5)))
  (XV:nsIn K mainGlobals "ValueError" = some none) (XG:L2.vt K a8) (XN:L2.DW K a8)
  (XK0:kitOne K (.ref a8) (.ref X1)=some true) (XK1:kitOne K (.ref a8) (.type "ValueError")=some true) (XK2:kitAny K (.ref a8) [.ref X2,.ref X3,.ref X4,.ref X5]=some false) :
  ∃fd:FuncData,(∀(s:Shared) (v:Value),BindsTo s fd ⟨[v],[]⟩ [("_law_script",v)])/\∀base:Heap,K.In base->base.Ns mainGlobals mg->dJ l.prog w K mg base CQ 44 fa fd ["_law_script"] (PB K):=by
 have e:=Vv.symm.trans (Wq X G A21);cases e;obtain⟨cl,hcl⟩:∃cl:Nat->Addr,cl=λn=>if n=1008 then a8 else 0:=⟨_,rfl⟩
 have T:Base K cl mg cons tb:=by
  subst hcl;refine⟨λx hx=>?_,λp hp=>?_,λc hc=>?_,λp hp=>?_,λp hp=>?_,λp hp=>?_⟩
  ·exact Yy X G (Z x hx)
  ·simp[cons]at hp
  ·exact absurd hc (Nat.not_lt_zero _)
  ·simp[tb]at hp
  ·simp[tb]at hp
  ·simp[tb]at hp
 obtain⟨fd,F⟩:=F21;obtain⟨_,_,_,_,_,_,_,_,_,e,_⟩:=F.ex;refine⟨fd,λs v=>by rw[e];exact .of_eq rfl,λbase _ _=>?_⟩;have G0:cy l.prog w ⟨K,cl⟩ mg base 0 OJ:=all_nil;have G1:cy l.prog w ⟨K,cl⟩ mg base 2 OL:=dm (x:="_law_cell_at") (N:=Ca) (ps:=Ca) (body:=dB) T G0 F0 (Wq X G A0) c0 d0 (by decide) (by intro _ _ _ _ _ _ _ l;apply ln2 l;intros;rfl);have G2:cy l.prog w ⟨K,cl⟩ mg base 4 OM:=dm (x:="_law_net") (N:=K5) (ps:=["_law_poles_here","_law_ties_here"]) (body:=iX) T G1 F1 (Wq X G A1) c1 d1 (by decide) (by intro _ _ _ _ _ _ _ l;apply ln2 l;intros;rfl);have G3:cy l.prog w ⟨K,cl⟩ mg base 6 ON:=dm (x:="_law_number") (N:=K6) (ps:=["_law_script","_law_seat","_law_k"]) (body:=eG) T G2 F2 (Wq X G A2) c2 d2 (by decide) (by intro _ _ _ _ _ _ _ l;apply LG l;intros;rfl);have G4:cy l.prog w ⟨K,cl⟩ mg base 8 OO:=dm (x:="_law_poles") (N:=K7) (ps:=["_law_script","_law_many"]) (body:=fJ) T G3 F3 (Wq X G A3) c3 d3 (by decide) (by intro _ _ _ _ _ _ _ l;apply ln2 l;intros;rfl);have G5:cy l.prog w ⟨K,cl⟩ mg base 10 OP:=dm (x:="_law_ties") (N:=K8) (ps:=OI) (body:=gC) T G4 F4 (Wq X G A4) c4 d4 (by decide) (by intro _ _ _ _ _ _ _ l;apply UN l;intros;rfl);have G6:cy l.prog w ⟨K,cl⟩ mg base 12 OQ:=dm (x:="_law_nets") (N:=K9) (ps:=["_law_script"]) (body:=gD) T G5 F5 (Wq X G A5) c5 d5 (by decide) (by intro _ _ _ _ _ _ _ l;apply UM l;intros;rfl);have G7:cy l.prog w ⟨K,cl⟩ mg base 14 OS:=dm (x:="_law_out") (N:=rJ) (ps:=rJ) (body:=iY) T G6 F6 (Wq X G A6) c6 d6 (by decide) (by intro _ _ _ _ _ _ _ l;apply ln2 l;intros;rfl);have G8:cy l.prog w ⟨K,cl⟩ mg base 16 PF:=dm (x:="put_in_order") (N:=La) (ps:=["poles","ties"]) (body:=bS) T G7 F7 (Wq X G A7) c7 d7 (by decide) (by intro _ _ _ _ _ _ _ l;apply ln2 l;intros;rfl);have G9:cy l.prog w ⟨K,cl⟩ mg base 18 OT:=EC (x:="NotThere") (g:="tie") G8 (by rw[show cl (1000+PF.length)=a8 by rw[hcl];rfl];exact⟨Wq X G A8,X1,b8,OW,_,["self","tie"],XM8,KL (k:=17) (W3 XT8) U5 (by decide) RX rfl rfl,(W3 XT8).binds (by intro _ _ _ _ _ _ _ l;apply ln2 l;intros;rfl),rfl,XQ8⟩);have Vw:cy l.prog w ⟨K,cl⟩ mg base 20 Ce:=dm (x:="ends_of") (N:=Lb) (ps:=fY) (body:=dW) T G9 F9 (Wq X G A9) c9 d9 (by decide) (by intro _ _ _ _ _ _ _ l;apply ln2 l;intros;rfl);have Vx:cy l.prog w ⟨K,cl⟩ mg base 22 Cf:=dm (x:="without") (N:=fY) (ps:=fY) (body:=dX) T Vw F10 (Wq X G A10) U6 U7 (by decide) (by intro _ _ _ _ _ _ _ l;apply ln2 l;intros;rfl);have Vy:cy l.prog w ⟨K,cl⟩ mg base 24 Cg:=dm (x:="taken_out") (N:=fY) (ps:=fY) (body:=cz) T Vx F11 (Wq X G A11) U8 U9 (by decide) (by intro _ _ _ _ _ _ _ l;apply ln2 l;intros;rfl);have Vz:cy l.prog w ⟨K,cl⟩ mg base 26 Ci:=dm (x:="drawn") (N:=Cb) (ps:=fY) (body:=gE) T Vy F12 (Wq X G A12) c12 Va (by decide) (by intro _ _ _ _ _ _ _ l;apply ln2 l;intros;rfl);have Tq:cy l.prog w ⟨K,cl⟩ mg base 28 Cj:=dm (x:="done_by") (N:=um) (ps:=um) (body:=dY) T Vz F13 (Wq X G A13) Vb Vc (by decide) (by intro _ _ _ _ _ _ _ l;apply LG l;intros;rfl);have VA:cy l.prog w ⟨K,cl⟩ mg base 30 Ck:=dm (x:="_law_asked") (N:=uo) (ps:=uo) (body:=fK) T Tq F14 (Wq X G A14) S9 Tc (by decide) (by intro _ _ _ _ _ _ _ l;apply LG l;intros;rfl);have VC:cy l.prog w ⟨K,cl⟩ mg base 32 Cm:=dm (x:="_law_put") (N:=uq) (ps:=uq) (body:=iZ) T VA F15 (Wq X G A15) Vd Ve (by decide) (by intro _ _ _ _ _ _ _ l;apply LG l;intros;rfl);have VD:cy l.prog w ⟨K,cl⟩ mg base 34 Cn:=dm (x:="_law_together") (N:=Cc) (ps:=rJ) (body:=cK) T VC F16 (Wq X G A16) Vf Vg (by decide) (by intro _ _ _ _ _ _ _ l;apply ln2 l;intros;rfl);have VE:cy l.prog w ⟨K,cl⟩ mg base 36 Co:=dm (x:="_law_wholes") (N:=ur) (ps:=ur) (body:=eL) T VD F17 (Wq X G A17) Vh Vi (by decide) (by intro _ _ _ _ _ _ _ l;apply ln2 l;intros;rfl);have VF:cy l.prog w ⟨K,cl⟩ mg base 38 Cp:=dm (x:="_law_same_net") (N:=uu) (ps:=uu) (body:=cL) T VE F18 (Wq X G A18) Vj Vk (by decide) (by intro _ _ _ _ _ _ _ l;apply ln2 l;intros;rfl);have Tr:cy l.prog w ⟨K,cl⟩ mg base 40 Cq:=dm (x:="_law_right") (N:=Cd) (ps:=rJ) (body:=dZ) T VF F19 (Wq X G A19) Vl Vm (by decide) (by intro _ _ _ _ _ _ _ l;apply ln2 l;intros;rfl);have XC:cl (1000+8)=a8:=by rw[hcl];rfl
 have VG:cy l.prog w ⟨K,cl⟩ mg base 42 Fx:=rm (r0:=("_law_refused",3,jb)) Tr (.inl ⟨by decide,RY,_,["_law_which","_law_net_here","_law_number_here"],rfl,Wq X G A20,F20.kp,(W3 F20).binds (by intro _ _ _ _ _ _ _ l;apply LG l;intros;rfl),KS (fx:="_law_asked") (cx:="NotThere") (g:="tie") (jc:=8) (D:=X1) (C1:=X2) (C2:=X3) (C3:=X4) (C4:=X5) T Tr (W3 F20) Vn Vp Vo Vs Vq Vr (by rw[XC];exact⟨XG,XN,XQ8,Wq X G A8,Wq X G XA1,Wq X G XA2,Wq X G XA3,Wq X G XA4,Wq X G XA5,Yy X G XV,Yy X G (Z _ (by decide)),XK0,XK1,XK2⟩) ((Bx T Tq (W3 F14) S9 Tc).mono (by decide)) ((W3 F14).binds (by intro _ _ _ _ _ _ _ l;apply LG l;intros;rfl)) (Wq X G A14) F14.kp rfl rfl⟩);exact(ED (Bx T VG F Vt Vu)).imp (JW hφ)
end
end K14
end
section
open PySem L2 Hv
set_option hygiene false
local macro_rules | `(tactic| simp only[EV,$ls,*] $[$l:location]?)=>`(tactic| simp only[fG,BE,KH,KI,KJ,NP,NR,NS,NU,NV,NW,Kv,NY,Kw,Ky,Rj,NZ,N1,dw,bM,PC,aW,tU,gg,PD,EF,EE,pq,SM,GK,cg,Ks,gY,E6,Ku,isVar,iS,List.getElem?_cons_zero,List.getElem?_cons_succ,set_cons_zero,set_cons_succ,map_cons,map_nil,length_cons,length_nil,List.cons_append,List.nil_append,List.replicate_succ,List.replicate_zero,Nat.reduceSub,Nat.reduceAdd,Nat.reduceLeDiff,N2,N3,Rk,Rm,Rn,Ro,Rp,Rq,N4,N5,GL,N6,N7,N8,N9,Oa,Oc,Od,Kz,KA,KC,KG,Oe,kB,cI,nX,Rb,cH,iO,Hv.stored,List.contains_nil,List.contains_cons,List.elem_nil,List.elem_cons,Nat.reduceBEq,Nat.reduceEqDiff,BEq.rfl,List.all_cons,List.all_nil,beq_self_eq_true,BF,fW,o6,jK,mE,↓reduceIte,Bool.and_true,Bool.true_and,Bool.false_and,Bool.and_false,Bool.or_false,Bool.false_or,Bool.or_true,Bool.true_or,Bool.or_self,Nat.zero_le,Bool.not_true,Bool.not_false,false_eq_true,decide_eq_true_eq,not_eq_true',decide_eq_false_iff_not,List.append_nil,List.nil_append,reduceCtorEq,$ls,*] $[$l:location]?)
section
open PySem L2 Hv
namespace K14
def cellAt(ns:List Int)(k:Nat):Int:=ns.getD k 0
theorem kQ(ns:List Int)(k:Nat):aV [.rl (ns.map .int),.int k]=.ok (true,.int (cellAt ns k)):=by
 unfold aV dB
 by_cases h:k<ns.length
 ·have e:gJ (List.map Val.int ns) (k:Int)=some (.int (ns[k])):=mJ (by simp[h])
  have h':(k:Int)<ns.length:=by omega
  simp only[EV,qj e,length_map,h',cellAt,List.getD,List.getElem?_eq_getElem h,Option.getD_some]
 ·have h':¬ (k:Int)<ns.length:=by omega
  have e:ns[k]?=none:=by simp;omega
  simp only[EV,length_map,h',cellAt,List.getD,e,getD_none]
def number(ns:List Int)(gI:Nat)(k:Int):Int :=
 let one:=cellAt ns gI
 let two:=cellAt ns (gI+1)
 let step:=if 0<one%3 then one%10 ^ 57+1 else 1
 let shift:=if 0<two%3 then two%10 ^ 57 else 0
 let here:=step*(((1+two/3%66)*k+one/3%67)%67)+shift
 if two%7=3 then 10 ^ 60-1-here else here
theorem zA(a b:Int)(h:0<=b/\b<67):fV a b=true:=by
 unfold fV;simp only[or_eq_true,and_eq_true,decide_eq_true_eq];right;omega
theorem vW(a b:Int)(h:0<=a/\a<67):fV a b=true:=by
 unfold fV;simp only[or_eq_true,and_eq_true,decide_eq_true_eq];left;omega
theorem fq(ns:List Int)(gI:Nat)(k:Int):cO [.rl (ns.map .int),.int gI,.int k]=.ok (true,.int (number ns gI k)):=by
 have c1:=kQ ns gI;have c2:aV [.rl (ns.map .int),.int ((gI:Int)+1)]=.ok (true,.int (cellAt ns (gI+1))):=kQ ns (gI+1);unfold cO eG number;generalize h1:cellAt ns gI=one at *;generalize h2:cellAt ns (gI+1)=two at *;have m1:fV (1+two/3%66) k=true:=vW _ _ (by omega);have m2:∀x,fV x (((1+two/3%66)*k+one/3%67)%67)=true:=λx=>zA _ _ (by omega);simp only[EV,iC,c1,c2,eY (show decide ((0:Int)<3)=true by decide),eY (show decide ((0:Int)<7)=true by decide),eY (show decide ((0:Int)<66)=true by decide),eY (show decide ((0:Int)<67)=true by decide),vK (show oY 3=true by decide),BW (show decide ((0:Int)<=57/\(57:Int)<=1000000/\(10:Int).natAbs<2 ^ 64)=true by decide),BW (show decide ((0:Int)<=60/\(60:Int)<=1000000/\(10:Int).natAbs<2 ^ 64)=true by decide),xN m1,xN (m2 _),eY (show decide ((0:Int)<10 ^ (57:Int).toNat)=true by decide)]
 repeat' split
 all_goals first|rfl|contradiction
def Sm(i:Int):Prop:=0<=i/\i<10 ^ 60
theorem zB(ns:List Int)(gI:Nat)(k:Int):Sm (number ns gI k):=by
 unfold number Sm;dsimp only;generalize cellAt ns gI=one;generalize cellAt ns (gI+1)=two;generalize ((1+two/3%66)*k+one/3%67)=z;have hs:∃st:Int,(if 0<one%3 then one%10 ^ 57+1 else 1)=st/\1<=st/\st<=10 ^ 57:=by refine⟨_,rfl,?_,?_⟩<;>split<;>omega
 have hf:∃st:Int,(if 0<two%3 then two%10 ^ 57 else 0)=st/\0<=st/\st<=10 ^ 57:=by refine⟨_,rfl,?_,?_⟩<;>split<;>omega
 obtain⟨st,e1,a1,a2⟩:=hs;obtain⟨sh,e2,b1,b2⟩:=hf;rw[e1,e2];have r1:0<=z%67:=by omega
 have r2:z%67<=66:=by omega
 have p1:0<=st*(z%67):=Int.mul_nonneg (by omega) r1;have p2:st*(z%67)<=10 ^ 57*66:=Int.mul_le_mul a2 r2 r1 (by decide);generalize st*(z%67)=y at *
 split<;>omega
theorem vX(ns:List Int)(gI:Nat)(i j:Int)(hi:0<=i/\i<67)(hj:0<=j/\j<67)(e:number ns gI i=number ns gI j):i=j:=by
 unfold number at e;dsimp only at e;generalize cellAt ns gI=one at *;generalize cellAt ns (gI+1)=two at *;have hs:∃st:Int,(if 0<one%3 then one%10 ^ 57+1 else 1)=st/\1<=st:=by refine⟨_,rfl,?_⟩;split<;>omega
 obtain⟨st,e1,a1⟩:=hs;rw[e1]at e;have e2:st*(((1+two/3%66)*i+one/3%67)%67)=st*(((1+two/3%66)*j+one/3%67)%67):=by split at e<;>omega
 have e3:=Int.eq_of_mul_eq_mul_left (by omega:st≠0) e2;exact Fc (by omega) hi hj e3
structure oG (ns:List Int) (many:Int) (ts:List T3):Prop where
 len:ts.length<=14
 name:∀i (h:i<ts.length),(ts[i]).1=number ns 0 i
 ends:∀t∈ts,(∃j,0<=j/\j<many/\t.2.1=number ns 2 j)/\∃j,0<=j/\j<many/\t.2.2=number ns 2 j
theorem oG.nodup{ns:List Int}{many:Int}(h:oG ns many ts):(ts.map (·.1)).Nodup:=by
 unfold List.Nodup;rw[Xi];intro i j hi hj hij;rw[V9]at hi hj;rw[XF,XF,h.name i hi,h.name j hj];intro e;have:=h.len;have:=vX ns 0 i j (by omega) (by omega) e;omega
theorem oH:∀(i:Nat) (ms:List Int) (pre post:List Val) (x:Val),bJ i (ms.map .int)=pre++x::post->∃c:Int,x=.tup [.int ((i+pre.length:Nat):Int),.int c]
 |_,[],pre,post,x,h=>by simp[bJ]at h
 | i,d::r,[],post,x,h=>by
  rw[Wm,bJ,YQ]at h;injection h with h _
  exact⟨d,by rw[<-h];rfl⟩
 | i,d::r,y::pre,post,x,h=>by
  rw[Wm,bJ,List.cons_append]at h;injection h with _ h
  obtain⟨c,e⟩:=oH (i+1) r pre post x h;exact⟨c,by rw[e,WJ];congr 4;omega⟩
theorem FI(ns:List Int)(start many:Int)(h0:0<=start)(hm:decide (0<many)=true):∃f ts,jd [.rl (ns.map .int),.int start,.int 14,.int many]=.ok (f,.rl (ts.map aI))/\oG ns many ts:=by
 unfold jd gC;simp only[EV,Og,GN,BY];rw[lY];have hlen:=zm ns start 14 h0;have VH:((14:Nat):Int)=14:=rfl;rw[VH]at hlen;generalize fh ns (some start) (some (start+14))=cs at *;have hx:bJ 0 (cs.map Val.int)=(bJ 0 (cs.map Val.int)).map id:=(YT _).symm;rw[hx];refine cS id (λr:Pr FV=>∃(f:Bool) (ts:List T3),r=.ok (f,.rl (ts.map aI))/\oG ns many ts)
  (λdone env=>∃ts a b c d,env=[some (.sh,.rl (ns.map .int)),some (.sh,.int start),some (.sh,.int 14),some (.sh,.int many),some (.ow,.rl (ts.map aI)),a,b,c,d]/\ts.length=done.length/\(ts.length<=14->oG ns many ts))
  ⟨[],none,none,none,none,rfl,rfl,λ_=>⟨by simp,λi h=>by simp at h,λ_ h=>by simp at h⟩⟩ ?_ ?_
 ·rintro pre x post env hx ⟨ts,a,b,c,d,rfl,hl,hg⟩
  have hpl:pre.length<14:=by have:=Xb length hx;rw[lF,V9,Wz,WJ]at this;omega
  obtain⟨cell,rfl⟩:=oH _ _ _ _ _ hx;rw[Nat.zero_add];have hg:=hg (by omega);have hm':0<many:=by simpa using hm
  have b1:=Yp (cell*48271%10007) (show many≠0 by omega);have b2:=XT (cell*48271%10007) hm';have b3:=Yp (cell*16807%10009) (show many≠0 by omega);have b4:=XT (cell*16807%10009) hm';have e1:=fq ns 2 (cell*48271%10007%many);have e2:=fq ns 2 (cell*16807%10009%many);have e3:=fq ns 0 (pre.length:Int);rw[show ((2:Nat):Int)=2 from rfl]at e1 e2;rw[show ((0:Nat):Int)=0 from rfl]at e3;generalize PN:number ns 2 (cell*48271%10007%many)=n1 at *;generalize PR:number ns 2 (cell*16807%10009%many)=n2 at *;generalize VI:number ns 0 (pre.length:Int)=n3 at *;refine⟨[some (.sh,.rl (ns.map .int)),some (.sh,.int start),some (.sh,.int 14),some (.sh,.int many),some (.ow,.rl ((ts++[(n3,n1,n2)]).map aI)),some (.sh,.int pre.length),some (.sh,.int cell),some (.sh,.int n1),some (.sh,.int n2)],?_,⟨ts++[(n3,n1,n2)],_,_,_,_,rfl,by simp[hl],λRZ=>⟨RZ,λi hi=>?_,λt ht=>?_⟩⟩⟩
  rotate_left
  ·rw[List.getElem_append]
   split
   ·exact hg.name i (by assumption)
   ·simp only[length_append,length_cons,length_nil]at hi
    have:i=pre.length:=by omega
    subst this;simp[hl,VI]
  ·rcases W7.mp ht with ht|ht
   ·exact hg.ends t ht
   ·rw[Wo]at ht;subst ht;exact⟨⟨_,b1,b2,PN.symm⟩,⟨_,b3,b4,PR.symm⟩⟩
  have m1:∀x:Int,fV x 48271=true:=λx=>by unfold fV;simp
  have m2:∀x:Int,fV x 16807=true:=λx=>by unfold fV;simp
  have z:ts.length<sizeLine:=by rw[hl];unfold sizeLine;omega
  simp only[EV,id,BX,jX,xN (m1 _),xN (m2 _),eY hm,eY (show decide ((0:Int)<10007)=true by decide),eY (show decide ((0:Int)<10009)=true by decide),e1,e2,e3,length_map,z,List.map_append,aI];rfl
 ·rintro env ⟨ts,a,b,c,d,rfl,hl,hg⟩;refine⟨_,ts,by simp only[EV,cg];rfl,hg ?_⟩;rw[hl,lF,V9];exact hlen
theorem Cz(ns:List Int)(many:Int)(hm:0<many):∃f i j,gF [.rl (ns.map .int),.int many]=.ok (f,.tup [.int (number ns 2 i),.int (number ns 2 j)])/\(0<=i/\i<many)/\(0<=j/\j<many):=by
 have e1:=fq ns 2 0;have e2:=fq ns 2 1;rw[show ((2:Nat):Int)=2 from rfl]at e1 e2;have c1:aV [.rl (ns.map .int),.int 4]=.ok (true,.int (cellAt ns 4)):=kQ ns 4;have z:2<=sizeLine:=by decide
 unfold gF fJ;simp only[EV,jf,jD,e1,e2,c1,vK (show oY 8=true by decide),eY (show decide ((0:Int)<5)=true by decide)];simp(config:={decide:=false}) only [z,if_true]
 by_cases h1:many=1
 ·refine⟨true,0,0,?_,by omega,by omega⟩;simp[h1]
 ·by_cases h2:cellAt ns 4/8%5=4
  ·refine⟨true,0,0,?_,by omega,by omega⟩;simp[h1,h2]
  ·refine⟨true,0,1,?_,by omega,by omega⟩;simp[h1,h2]
theorem CA{p q:Int}{ts:List T3}(hl:ts.length<=63):jx [.tup [.int p,.int q],.rl (ts.map aI)]=.ok (true,aR (min p q) (max p q) (cU (ts.map turnT))):=by
 unfold jx iX;have z:2<=sizeLine:=by decide
 have z3:3<=sizeLine:=by decide
 have hc:ts.length<=100000:=by omega
 simp only[EV,iB,length_map,hc,iz];rw[g9 aI (λt=>aI (turnT t)) ts (λt ht=>by
  simp only[EV,fX,z3];rfl)]
 have em:ts.map (λt=>aI (turnT t))=(ts.map turnT).map aI:=by rw[Yt];rfl
 rw[em];simp only[EV,z,uc (show (ts.map turnT).length<64 by rw[length_map];omega)];rfl
structure kR (ns:List Int) (n:Int×Int×List T3):Prop where
 ord:n.1<=n.2.1
 len:n.2.2.length<=14
 up:zF n.2.2
 ends:∀t∈n.2.2,t.2.1<=t.2.2
 names:∀t∈n.2.2,Sm t.1
 many:∃m:Int,0<m/\m<=8/\∀x,(x=n.1\/x=n.2.1\/∃t∈n.2.2,x=t.2.1\/x=t.2.2)->∃j,0<=j/\j<m/\x=number ns 2 j
def uA(n:Int×Int×List T3):Val:=aR n.1 n.2.1 n.2.2
theorem FJ(ns:List Int):∃(f:Bool) (iF:List (Int×Int×List T3)),je [.rl (ns.map .int)]=.ok (f,.rl (iF.map uA))/\∀n∈iF,kR ns n:=by
 have c1:aV [.rl (ns.map .int),.int 4]=.ok (true,.int (cellAt ns 4)):=kQ ns 4;unfold je gD;have z4:4<=sizeLine:=by decide
 simp only[EV,jE,c1,eY (show decide ((0:Int)<8)=true by decide),z4,iB];rw[lY];have x9:0<1+cellAt ns 4%8/\1+cellAt ns 4%8<=8:=by omega
 generalize 1+cellAt ns 4%8=many at *;have hmd:decide (0<many)=true:=by simpa using x9.1
 have hx:[Val.int 5,Val.int 19,Val.int 33,Val.int 47]=[5,19,33,47].map Val.int:=rfl;rw[hx];refine cS Val.int (λr:Pr FV=>∃(f:Bool) (iF:List (Int×Int×List T3)),r=.ok (f,.rl (iF.map uA))/\∀n∈iF,kR ns n)
  (λdone env=>∃(iF:List (Int×Int×List T3)) (a:Option (Mk×Val)),env=[some (.sh,.rl (ns.map .int)),some (.sh,.int many),some (.ow,.rl (iF.map uA)),a]/\iF.length<=done.length/\∀n∈iF,kR ns n)
  ⟨[],none,rfl,Wb _,λ_ h=>by simp at h⟩ ?_ ?_
 ·rintro pre j post env hx ⟨iF,a,rfl,hl,hg⟩
  have hj:j∈[5,19,33,47]:=by rw[hx];simp
  have hj0:0<=j:=by simp at hj;omega
  have hlen:pre.length<4:=by have:=Xb length hx;simp only[length_cons,length_nil,length_append]at this;omega
  obtain⟨f1,i1,i2,e1,hi1,hi2⟩:=Cz ns many x9.1;obtain⟨f2,ts,e2,ht⟩:=FI ns j many hj0 hmd;generalize PN:number ns 2 i1=p at *;generalize PR:number ns 2 i2=q at *;have e3:=CA (p:=p) (q:=q) (ts:=ts) (by have:=ht.len;omega);have z:iF.length<sizeLine:=by unfold sizeLine;omega
  have ok:kR ns (min p q,max p q,cU (ts.map turnT)):=by
   have pm:=gZ (ts.map turnT);refine⟨by dsimp only;omega,?_,?_,?_,?_,many,x9.1,x9.2,?_⟩
   ·dsimp only;rw[pm.length_eq,V9];exact ht.len
   ·refine ud _ ?_;rw[Yt];exact ht.nodup
   ·intro t h
    obtain⟨u,hu,rfl⟩:=W4.mp (pm.mem_iff.mp h);unfold turnT;dsimp only
    split<;>split<;>omega
   ·intro t h;obtain⟨u,hu,rfl⟩:=W4.mp (pm.mem_iff.mp h);obtain⟨i,hi,rfl⟩:=Xz.mp hu;show Sm (ts[i]).1;rw[ht.name i hi];exact zB _ _ _
   ·intro x hx
    dsimp only at hx
    rcases hx with h|h|⟨t,h,h'⟩
    ·rcases(show x=p\/x=q by omega) with h|h
     ·exact⟨i1,hi1.1,hi1.2,by rw[h,PN]⟩
     ·exact⟨i2,hi2.1,hi2.2,by rw[h,PR]⟩
    ·rcases(show x=p\/x=q by omega) with h|h
     ·exact⟨i1,hi1.1,hi1.2,by rw[h,PN]⟩
     ·exact⟨i2,hi2.1,hi2.2,by rw[h,PR]⟩
    ·obtain⟨u,hu,rfl⟩:=W4.mp (pm.mem_iff.mp h)
     obtain⟨⟨j1,a1,a2,a3⟩,⟨j2,b1,b2,b3⟩⟩:=ht.ends u hu;have:x=u.2.1\/x=u.2.2:=by
      unfold turnT at h';dsimp only at h'
      rcases h' with h'|h'<;>split at h'<;>omega
     rcases this with h|h
     ·exact⟨j1,a1,a2,by rw[h,a3]⟩
     ·exact⟨j2,b1,b2,by rw[h,b3]⟩
  by_cases hc:j=5\/j<(ns.length:Int)
  ·refine⟨[some (.sh,.rl (ns.map .int)),some (.sh,.int many),some (.ow,.rl ((iF++[(min p q,max p q,cU (ts.map turnT))]).map uA)),some (.sh,.int j)],?_,⟨iF++[(min p q,max p q,cU (ts.map turnT))],_,rfl,by simp;omega,?_⟩⟩
   ·simp only[EV,cj,kP,lJ,mG,e1,e2,e3,z,length_map,List.map_append,uA]
    rcases hc with hc|hc
    ·simp only[hc,if_true,decide_true]
    ·simp only[hc,if_true,decide_true]
     split<;>rfl
   ·intro u hu
    rcases W7.mp hu with hu|hu
    ·exact hg u hu
    ·rw[Wo]at hu;rw[hu];exact ok
  ·refine⟨[some (.sh,.rl (ns.map .int)),some (.sh,.int many),some (.ow,.rl (iF.map uA)),some (.sh,.int j)],?_,⟨iF,_,rfl,by simp;omega,hg⟩⟩;have h1:¬ j=5:=λh=>hc (.inl h);have h2:¬ j<(ns.length:Int):=λh=>hc (.inr h);simp only[EV,cj,length_map,h1,h2,if_false,decide_false]
 ·rintro env ⟨iF,a,rfl,hl,hg⟩;exact⟨_,iF,by simp only[EV,cg];rfl,hg⟩
end K14
end
section
open PySem L2 Hv
namespace K14
theorem VJ(t:Int):gf (.isin "int") [.int t]=.ok (true,.bl true):=lE (t:="int") rfl (by decide)
theorem R0(t:Int):gf (.isin "bool") [.int t]=.ok (true,.bl false):=vL (t:="int") rfl (by decide)
theorem Tt(vs:List Val):gf (.isin "tuple") [.tup vs]=.ok (true,.bl true):=lE (t:="tuple") rfl (by decide)
theorem VL(vs:List Val):gf (.isin "list") [.rl vs]=.ok (true,.bl true):=lE (t:="list") rfl (by decide)
theorem qy(xs:List Int)(hl:xs.length<=100000):cP [.tup (xs.map .int),.int xs.length]=.ok (true,.bl true):=by
 unfold cP eL;simp only[EV,Tt,length_map,decide_true,Of,hl,iz];rw[g9 Val.int (λ_=>Val.bl true) xs (λx hx=>by
  simp only[EV,cj,VJ,R0])]
 simp only[EV,all_true]
theorem uB{p q:Int}(hl:ts.length<=14):dD [aR p q ts,aR p q ts]=.ok (true,.bl true):=by
 have w2:cP [.tup [.int p,.int q],.int 2]=.ok (true,.bl true):=qy [p,q] (by simp);have w3:∀t:T3,cP [aI t,.int 3]=.ok (true,.bl true):=λt=>qy (l3 t) (by simp[l3]);have Tu:cop [] .eq (aR p q ts) (aR p q ts)=some true:=by
  have:=xQ p q ts;change (cop [] .eq (aR p q ts) (aR p q ts)).map _=_ at this;cases h:cop [] .eq (aR p q ts) (aR p q ts) with
  |none=>rw[h]at this;cases this
  |some b=>rw[h]at this;cases b<;>simp_all
 unfold dD cL;have hc:ts.length<=100000:=by omega
 have ed:aR p q ts=.tup [.tup [.int p,.int q],.rl (ts.map aI)]:=rfl;rw[ed] at Tu;rw[ed];simp only[EV,Tt,VL,bV kI,bV lD,dF,w2,decide_true,iB,show ((2:Nat):Int)=2 from rfl,length_map,hc,iz];rw[g9 aI (λ_=>Val.bl true) ts (λt ht=>by
  simp only[EV,cj,dF,w3])]
 simp only[EV,all_true,Tu]
theorem qz:∀(i:Nat) (ms:List (Int×Int×List T3)) (x:Val),x∈bJ i (ms.map uA)->∃(j:Nat) (c:Int×Int×List T3),c∈ms/\x=.tup [.int j,uA c]
 |_,[],x,h=>by simp[bJ]at h
 | i,d::r,x,h=>by
  rw[Wm,bJ,Wf]at h
  rcases h with h|h
  ·exact⟨i,d,V8,h⟩
  ·obtain⟨j,c,hc,e⟩:=qz (i+1) r x h;exact⟨j,c,V5 _ hc,e⟩
def uC(t:T3):Int×Int:=(t.2.1,t.2.2)
def uD(e:Int×Int):Val:=.tup [.int e.1,.int e.2]
theorem order_eq{p q:Int}{us:List T3}(hl:us.length<=16):bL [.tup [.int p,.int q],.rl (us.map aI)]=.ok (true,aR (if q<p then q else p) (if q>p then q else p) (cU (us.map turnT))):=by
 unfold bL bS;have z0:0<=sizeLine:=by decide
 have z2:2<=sizeLine:=by decide
 have z3:3<=sizeLine:=by decide
 simp only[EV,iB];rw[lY];refine cS aI (λr:Pr FV=>r=.ok (true,aR (if q<p then q else p) (if q>p then q else p) (cU (us.map turnT))))
  (λdone env=>∃a b c,env=[some (.sh,.tup [.int p,.int q]),some (.sh,.rl (us.map aI)),some (.ow,.rl ((done.map turnT).map aI)),a,b,c])
  ⟨none,none,none,rfl⟩ ?_ ?_
 ·rintro pre t post env hx ⟨a,b,c,rfl⟩
  have hpl:pre.length<16:=by have:=Xb length hx;rw[Wz,WJ]at this;omega
  have z:((pre.map turnT).map aI).length<sizeLine:=by rw[V9,V9];unfold sizeLine;omega
  refine⟨[some (.sh,.tup [.int p,.int q]),some (.sh,.rl (us.map aI)),some (.ow,.rl (((pre++[t]).map turnT).map aI)),some (.sh,.int t.1),some (.sh,.int t.2.1),some (.sh,.int t.2.2)],?_,_,_,_,rfl⟩;have ea:((pre++[t]).map turnT).map aI=(pre.map turnT).map aI++[aI (turnT t)]:=by simp
  simp only[EV,fX,z3,z,ea];rfl
 ·rintro env ⟨a,b,c,rfl⟩;simp only[EV,bV kI,bV lD,z2,uc (show (us.map turnT).length<64 by rw[length_map];omega)];rfl
theorem uE{α:Type}(enc:α -> Val)(Q:aH->Prop)(x:α)(res:FV):∀(us:List α) (env:aH),Q env->x∈us ->
  (∀u∈us,∀env,Q env->(body (enc u) env=.ok (.rt res))\/(u≠x/\∃env',body (enc u) env=.ok (.nx env')/\Q env'))->gp body (us.map enc) env=.ok (.rt res)
 | u::us,env,q,hx,h=>by
  rw[Wm,gp]
  rcases h u (V8 ..) env q with e|⟨ne,env',e,q'⟩
  ·rw[e,cg]
  ·rw[e,cg]
   rcases Wf.mp hx with hx|hx
   ·exact(ne hx.symm).elim
   ·exact uE enc Q x res us env' q' hx λv hv=>h v (V5 _ hv)
theorem qY{ts:List T3}(hn:(ts.map (·.1)).Nodup):∀u∈ts,∀t∈ts,u.1=t.1->u=t:=by
 induction ts with
 |nil=>intro u hu;cases hu
 |cons x r ih=>
  rw[Wm,WH]at hn;intro u hu t ht e
  rcases Wf.mp hu with a|a<;>rcases Wf.mp ht with b|b
  ·rw[a,b]
  ·exact(hn.1 (W4.mpr ⟨t,b,by rw[<-e,a]⟩)).elim
  ·exact(hn.1 (W4.mpr ⟨u,a,by rw[e,b]⟩)).elim
  ·exact ih hn.2 u a t b e
theorem ya{p q:Int}(hn:(ts.map (·.1)).Nodup)(ht:t∈ts):cV [aR p q ts,.int t.1]=.ok (true,uD (uC t)):=by
 unfold cV dW aR;simp only[EV,bV kI,bV lD,iB];rw[uE aI (λenv=>∃a b c,env=[some (.sh,.tup [.tup [.int p,.int q],.rl (ts.map aI)]),some (.sh,.int t.1),a,b,c]) t (true,uD (uC t)) ts _ ⟨none,none,none,rfl⟩ ht]
 ·rfl
 ·rintro u hu env ⟨a,b,c,rfl⟩
  by_cases e:u.1=t.1
  ·left
   have:=qY hn u hu t ht e;subst this;simp only[EV,fX,decide_true,↓reduceIte];rfl
  ·right
   refine⟨λz=>e (by rw[z]),[some (.sh,.tup [.tup [.int p,.int q],.rl (ts.map aI)]),some (.sh,.int t.1),some (.sh,.int u.1),some (.sh,.int u.2.1),some (.sh,.int u.2.2)],?_,_,_,_,rfl⟩;simp only[EV,fX];simp[e]
def others(ts:List T3)(t:T3):List T3:=ts.filter λu=>!decide (u.1=t.1)
def gK(a b x:Int):Int:=if x=b then a else x
theorem vY:u∈others ts t↔u∈ts/\u.1≠t.1:=by
 unfold others;rw[YK];simp
theorem jY{n:Nat}(h:ts.length<=n):(others ts t).length<=n:=Wx (List.length_filter_le ..) h
def uF(g:Int->Int)(t:T3):T3:=(t.1,g t.2.1,g t.2.2)
theorem CB:kB (aI t)=true:=rfl
theorem oJ{p q:Int}(h:ts.length<=14)(hn:(ts.map (·.1)).Nodup)(ht:t∈ts):cW [aR p q ts,.int t.1]=.ok (true,.rl ((others ts t).map aI)):=by
 have e1:=ya (p:=p) (q:=q) hn ht;unfold cW dX;have hc:ts.length<=100000:=by omega
 unfold aR at *;simp only[EV,fL,e1,bV lD,iB,iz,length_map,hc];rw[ic aI aI (λu=>!decide (u.1=t.1)) ts (λu hu=>by
  have i0:iM [] (aI u) (.int 0)=some (.int u.1):=rfl;simp only[EV,cj,i0,CB]
  by_cases c:u.1=t.1<;>simp[c])]
 rfl
theorem CC{p q:Int}(h:ts.length<=14)(hn:(ts.map (·.1)).Nodup)(ht:t∈ts):aO [aR p q ts,.int t.1]=.ok (true,aR (if q<p then q else p) (if q>p then q else p) (cU ((others ts t).map turnT))):=by
 have e1:=oJ (p:=p) (q:=q) h hn ht;have e2:=order_eq (p:=p) (q:=q) (us:=others ts t) (Wx (jY h) (by decide));unfold aO cz;unfold aR at e1 |-;simp only[EV,eO,fP,e1,bV kI,e2];rfl
theorem OX{a b x:Int}:yS [] (.dc [Sum.inl b] [.int a]) (.inl x)=some (if x=b then some (.int a) else none):=by
 show some (bY [((Sum.inl b:Key),Val.int a)] (.inl x))=_;unfold bY
 by_cases c:x=b
 ·subst c;simp
 ·have c':¬ b=x:=λz=>c z.symm;simp[c,c']
theorem GS{a b x:Int}:(if x=b then some (Val.int a) else none).getD (.int x)=.int (gK a b x):=by
 unfold gK;split<;>rfl
theorem GU:AH [] (.dc ks vs)=some ():=rfl
theorem Lg:iM [] (uD e) (.int 0)=some (.int e.1):=rfl
theorem Lh:iM [] (uD e) (.int 1)=some (.int e.2):=rfl
theorem CD{p q:Int}(h:ts.length<=14)(hn:(ts.map (·.1)).Nodup)(ht:t∈ts):bW [aR p q ts,.int t.1]=.ok (true,aR (turnT (0,gK t.2.1 t.2.2 p,gK t.2.1 t.2.2 q)).2.1 (turnT (0,gK t.2.1 t.2.2 p,gK t.2.1 t.2.2 q)).2.2 (cU (((others ts t).map (uF (gK t.2.1 t.2.2))).map turnT))):=by
 have e1:=oJ (p:=p) (q:=q) h hn ht;have e0:=ya (p:=p) (q:=q) hn ht;have e2:=order_eq (p:=gK t.2.1 t.2.2 p) (q:=gK t.2.1 t.2.2 q) (us:=(others ts t).map (uF (gK t.2.1 t.2.2))) (by rw[V9];exact Wx (jY h) (by decide));have z2:2<=sizeLine:=by decide
 have z3:3<=sizeLine:=by decide
 have z0:0<=sizeLine:=by decide
 unfold bW gE;unfold aR at e1 e0 |-;have ee:∀t:T3,(uC t).1=t.2.1/\(uC t).2=t.2.2:=λ_=>⟨rfl,rfl⟩;simp only[EV,gG,lK,e0,e1,Lg,Lh,ee,bV kI,bV lD,GO,GU,OX,GS,iB,z0,z2]
 repeat rw[lY]
 refine cS aI (λr:Pr FV=>r=.ok (true,.tup [.tup [.int (turnT (0,gK t.2.1 t.2.2 p,gK t.2.1 t.2.2 q)).2.1,.int (turnT (0,gK t.2.1 t.2.2 p,gK t.2.1 t.2.2 q)).2.2],.rl ((cU (((others ts t).map (uF (gK t.2.1 t.2.2))).map turnT)).map aI)]))
  (λdone env=>∃m1 m2 a b c,env=[some (.sh,.tup [.tup [.int p,.int q],.rl (ts.map aI)]),some (.sh,.int t.1),some (m1,uD (uC t)),some (.nw,.dc [Sum.inl t.2.2] [.int t.2.1]),some (m2,.tup [.int (gK t.2.1 t.2.2 p),.int (gK t.2.1 t.2.2 q)]),some (.ow,.rl ((done.map (uF (gK t.2.1 t.2.2))).map aI)),a,b,c])
  ⟨_,_,none,none,none,rfl⟩ ?_ ?_
 ·rintro pre u post env hx ⟨m1,m2,a,b,c,rfl⟩
  have hpl:pre.length<14:=by have:=Xb length hx;rw[Wz,WJ]at this;have:=jY (t:=t) h;omega
  have z:((pre.map (uF (gK t.2.1 t.2.2))).map aI).length<sizeLine:=by rw[V9,V9];unfold sizeLine;omega
  have ea:((pre++[u]).map (uF (gK t.2.1 t.2.2))).map aI=(pre.map (uF (gK t.2.1 t.2.2))).map aI++[aI (uF (gK t.2.1 t.2.2) u)]:=by simp
  refine⟨_,?_,m1,m2,some (.sh,.int u.1),some (.sh,.int u.2.1),some (.sh,.int u.2.2),rfl⟩;simp only[EV,fX,GO,GU,OX,GS,z3,z,ea];rfl
 ·rintro env ⟨m1,m2,a,b,c,rfl⟩;simp only[EV,iD,e2];rfl
theorem FL(h:t.2.1<=t.2.2):turnT t=t:=by
 obtain⟨a,b,c⟩:=t;unfold turnT;dsimp only at h |-;rw[Prod.mk.injEq,Prod.mk.injEq];refine⟨rfl,?_,?_⟩<;>split<;>omega
theorem FN:∀{l:List T3},(∀y∈l,x.1<y.1)->oj x l=x::l
 |[],_=>rfl
 | y::r,h=>by
  rw[oj];have lx:HT.lexLt (l3 y) (l3 x)=decide (y.1<x.1):=by show HT.lexLt (y.1::_) (x.1::_)=_;have:=h y V8;rw[HT.dM,We (by omega)]
  have:=h y V8;rw[lx,We (by simp;omega)]
theorem uG:∀{l:List T3},zF l->cU l=l
 |[],_=>rfl
 | x::r,h=>by
  unfold zF at h;rw[WK]at h;rw[cU,uG h.2,FN h.1]
theorem Li{i:Int}:iu [.int i]=.exc 8 [.str "tie",.int i]:=rfl
theorem yb{p q i:Int}(hn:i∉ts.map (·.1)):cV [aR p q ts,.int i]=.exc 8 [.str "tie",.int i]:=by
 unfold cV dW aR;simp only[EV,bV kI,bV lD,iB]
 repeat rw[lY]
 refine cS aI (λr:Pr FV=>r=.exc 8 [.str "tie",.int i])
  (λdone env=>∃a b c,env=[some (.sh,.tup [.tup [.int p,.int q],.rl (ts.map aI)]),some (.sh,.int i),a,b,c])
  ⟨none,none,none,rfl⟩ ?_ ?_
 ·rintro pre t post env hx ⟨a,b,c,rfl⟩;have e:¬ t.1=i:=λe=>hn (W4.mpr ⟨t,by rw[hx];simp,e⟩);refine⟨[some (.sh,.tup [.tup [.int p,.int q],.rl (ts.map aI)]),some (.sh,.int i),some (.sh,.int t.1),some (.sh,.int t.2.1),some (.sh,.int t.2.2)],?_,_,_,_,rfl⟩;simp only[EV,fX];simp[e]
 ·rintro env ⟨a,b,c,rfl⟩;simp only[EV,jF,Li];rfl
theorem rF{α β:Type}{c:Nat}{f:α -> Pr β}:pb (.exc c ds) f=.exc c ds:=rfl
theorem vZ{p q i:Int}(hn:i∉ts.map (·.1)):cW [aR p q ts,.int i]=.exc 8 [.str "tie",.int i]:=by
 have e:=yb (p:=p) (q:=q) hn;unfold cW dX;unfold aR at *;simp only[EV,fL,e,rF]
theorem CF{p q i:Int}(hn:i∉ts.map (·.1)):aO [aR p q ts,.int i]=.exc 8 [.str "tie",.int i]:=by
 have e:=vZ (p:=p) (q:=q) hn;unfold aO cz;unfold aR at *;simp only[EV,eO,bV kI,e,rF]
theorem CG{p q i:Int}(hn:i∉ts.map (·.1)):bW [aR p q ts,.int i]=.exc 8 [.str "tie",.int i]:=by
 have e:=yb (p:=p) (q:=q) hn;unfold bW gE;unfold aR at *;simp only[EV,gG,e,rF]
end K14
end
section
open PySem L2 Hv
namespace K14
theorem Lj(n i:Val):d8 [n,.str "linker",i]=bW [n,i]:=by
 unfold d8 dY;have e:cop [] .eq (.str "linker") (.str "linker")=some true:=by decide +kernel
 simp only[EV,e,lM];cases bW [n,i]<;>rfl
theorem Lk(n i:Val):d8 [n,.str "cutter",i]=aO [n,i]:=by
 unfold d8 dY;have e:cop [] .eq (.str "cutter") (.str "linker")=some false:=by decide +kernel
 simp only[EV,e,jg];cases aO [n,i]<;>rfl
theorem uH(w:Nat)(h:w<4)(n i:Val):cA [.int w,n,i]=if w%2=0 then aO [n,i] else bW [n,i]:=by
 unfold cA fK;have z2:2<=sizeLine:=by decide
 rcases(show w=0\/w=1\/w=2\/w=3 by omega) with rfl|rfl|rfl|rfl
 ·simp only[EV,show ((0:Nat):Int)=0 from rfl,decide_true,jh];cases aO [n,i]<;>rfl
 ·simp only[EV,show ((1:Nat):Int)=1 from rfl,show decide ((1:Int)=0)=false by decide,decide_true,lN];cases bW [n,i]<;>rfl
 ·simp only[EV,show ((2:Nat):Int)=2 from rfl,show decide ((2:Int)=0)=false by decide,show decide ((2:Int)=1)=false by decide,show (2:Int)-2=0 from rfl,z2,qj kI,fM,Lk];cases aO [n,i]<;>rfl
 ·simp only[EV,show ((3:Nat):Int)=3 from rfl,show decide ((3:Int)=0)=false by decide,show decide ((3:Int)=1)=false by decide,show (3:Int)-2=1 from rfl,z2,qj lD,fM,Lj];cases bW [n,i]<;>rfl
theorem Ll(x h l:Int):jy [.int x,.int h,.int l]=.ok (true,.int (gK l h x)):=by
 unfold jy iZ gK;simp only[EV,cg]
 by_cases c:x=h
 ·simp[c]
 ·simp[c]
theorem CH{p q:Int}(h:ts.length<=14)(t:T3):∃f,ig [aR p q ts,.int t.1]=.ok (f,aR p q (others ts t)):=by
 unfold ig iY;have hc:ts.length<=100000:=by omega
 have z2:2<=sizeLine:=by decide
 unfold aR;simp only[EV,bV kI,bV lD,iB,iz,length_map,hc];rw[ic aI aI (λu=>!decide (u.1=t.1)) ts (λu hu=>by
  have i0:iM [] (aI u) (.int 0)=some (.int u.1):=rfl;simp only[EV,cj,i0,CB]
  by_cases c:u.1=t.1<;>simp[c])]
 simp only[EV,z2];exact⟨_,rfl⟩
theorem FO{ts:List T3}(hn:(ts.map (·.1)).Nodup){t:T3}(ht:t∈ts):ts.filter (λu=>decide (u.1=t.1))=[t]:=by
 induction ts with
 |nil=>cases ht
 |cons x r ih=>
  rw[Wm,WH]at hn
  rcases Wf.mp ht with e|e
  ·subst e
   rw[XX (by simp)]
   congr 1
   rw[List.filter_eq_nil_iff];intro u hu z;exact hn.1 (W4.mpr ⟨u,hu,by simpa using z⟩)
  ·have ne:¬ x.1=t.1:=λz=>hn.1 (W4.mpr ⟨t,e,z.symm⟩);rw[XY (by simpa using ne)];exact ih hn.2 e
theorem CI:others (pre++[u]) t=if u.1=t.1 then others pre t else others pre t++[u]:=by
 unfold others;rw[List.filter_append]
 by_cases c:u.1=t.1
 ·rw[Wg c,XY (by simp[c])];simp
 ·rw[We c,XX (by simp[c])];simp
theorem uI{p q:Int}(h:ts.length<=14)(hn:(ts.map (·.1)).Nodup)(ht:t∈ts)(ho:t.2.1<=t.2.2):cB [aR p q ts,.int t.1]=.ok (true,aR (min (gK t.2.1 t.2.2 p) (gK t.2.1 t.2.2 q)) (max (gK t.2.1 t.2.2 p) (gK t.2.1 t.2.2 q)) (cU (((others ts t).map (uF (gK t.2.1 t.2.2))).map turnT))):=by
 have e2:=CA (p:=gK t.2.1 t.2.2 p) (q:=gK t.2.1 t.2.2 q) (ts:=(others ts t).map (uF (gK t.2.1 t.2.2))) (by rw[V9];have:=jY (t:=t) h;omega);unfold cB cK;have hc:ts.length<=100000:=by omega
 have z2:2<=sizeLine:=by decide
 have z3:3<=sizeLine:=by decide
 unfold aR at *;simp only[EV,bV kI,bV lD,iB,iz,length_map,hc];rw[ic aI (λu=>Val.tup [.int u.2.1,.int u.2.2]) (λu=>decide (u.1=t.1)) ts (λu hu=>by
  have i0:iM [] (aI u) (.int 0)=some (.int u.1):=rfl;have i1:iM [] (aI u) (.int 1)=some (.int u.2.1):=rfl;have i2:iM [] (aI u) (.int 2)=some (.int u.2.2):=rfl;simp only[EV,cj,i0,i1,i2,z2]
  by_cases c:u.1=t.1<;>simp[c])]
 rw[FO hn ht];have m1:min t.2.1 t.2.2=t.2.1:=by omega
 have m2:max t.2.1 t.2.2=t.2.2:=by omega
 simp only[EV,qj kI,bV kI,bV lD,m1,m2,iB]
 repeat rw[lY]
 generalize hg:gK t.2.1 t.2.2=g at *;have pe:∀x,jy [.int x,.int t.2.2,.int t.2.1]=.ok (true,.int (g x)):=λx=>by rw[Ll,hg]
 refine cS aI (λr:Pr FV=>r=.ok (true,.tup [.tup [.int (min (g p) (g q)),.int (max (g p) (g q))],.rl ((cU (((others ts t).map (uF g)).map turnT)).map aI)]))
  (λdone env=>∃m a b c,env=[some (.sh,.tup [.tup [.int p,.int q],.rl (ts.map aI)]),some (.sh,.int t.1),some (m,.tup [.int t.2.1,.int t.2.2]),some (.sh,.int t.2.1),some (.sh,.int t.2.2),some (.ow,.rl (((others done t).map (uF g)).map aI)),a,b,c])
  ⟨_,none,none,none,rfl⟩ ?_ ?_
 ·rintro pre u post env hx ⟨m,a,b,c,rfl⟩
  have hpl:pre.length<14:=by have:=Xb length hx;rw[Wz,WJ]at this;omega
  have z:(((others pre t).map (uF g)).map aI).length<sizeLine:=by rw[V9,V9];have:=jY (t:=t) (Xk hpl);unfold sizeLine;omega
  refine⟨_,?_,m,some (.sh,.int u.1),some (.sh,.int u.2.1),some (.sh,.int u.2.2),rfl⟩;rw[CI]
  by_cases e:u.1=t.1
  ·simp only[EV,fX,e,if_true,decide_true]
  ·have ea:((others pre t++[u]).map (uF g)).map aI=((others pre t).map (uF g)).map aI++[aI (uF g u)]:=by simp
   simp only[EV,fX,e,if_false,decide_false,eZ,pe,z3,z,ea];rfl
 ·rintro env ⟨m,a,b,c,rfl⟩;simp only[EV,bV kI,bV lD,eZ,jG,pe,z2,e2]
end K14
end
section
open PySem L2 Hv
namespace K14
theorem FP(h:zF ts):zF (others ts t):=List.Pairwise.sublist List.filter_sublist h
theorem CJ(h:zF l):(l.map (·.1)).Nodup:=by
 unfold zF at h;rw[List.nodup_iff_pairwise_ne,Xx];exact h.imp λa b=>by omega
section
variable {ns:List Int} {p q:Int} {ts:List T3} {t:T3}
theorem CK(ok:kR ns (p,q,ts))(ht:t∈ts):aO [aR p q ts,.int t.1]=.ok (true,aR p q (others ts t)):=by
 rw[CC ok.len (CJ ok.up) ht];have e1:(others ts t).map turnT=others ts t:=(Yq λu hu=>FL (ok.ends u (vY.mp hu).1)).trans (YT _);have o:p<=q:=ok.ord;rw[e1,uG (FP ok.up),We (by omega)];have:(if q>p then q else p)=q:=by split<;>omega
 rw[this]
theorem CL(ok:kR ns (p,q,ts))(ht:t∈ts):bW [aR p q ts,.int t.1]=.ok (true,aR (min (gK t.2.1 t.2.2 p) (gK t.2.1 t.2.2 q)) (max (gK t.2.1 t.2.2 p) (gK t.2.1 t.2.2 q)) (cU (((others ts t).map (uF (gK t.2.1 t.2.2))).map turnT))):=by
 rw[CD ok.len (CJ ok.up) ht];generalize gK t.2.1 t.2.2 p=a;generalize gK t.2.1 t.2.2 q=b;have e1:(turnT (0,a,b)).2.1=min a b:=by
  show (if b<a then b else a)=_
  split<;>omega
 have e2:(turnT (0,a,b)).2.2=max a b:=by
  show (if b>a then b else a)=_
  split<;>omega
 rw[e1,e2]
theorem Lm(ok:kR ns (p,q,ts))(ht:t∈ts)(w:Nat)(hw:w<4):∃P Q us,us.length<=14/\cA [.int w,aR p q ts,.int t.1]=.ok (true,aR P Q us) /\
  ((w%2=0/\∃f,ig [aR p q ts,.int t.1]=.ok (f,aR P Q us))\/(w%2=1/\cB [aR p q ts,.int t.1]=.ok (true,aR P Q us))):=by
 rw[uH w hw]
 rcases(show w%2=0\/w%2=1 by omega) with e|e
 ·rw[Wg e];exact⟨p,q,others ts t,jY ok.len,CK ok ht,.inl ⟨e,CH ok.len t⟩⟩
 ·rw[We (by omega)];refine⟨_,_,_,?_,CL ok ht,.inr ⟨e,uI ok.len (CJ ok.up) ht (ok.ends t ht)⟩⟩;rw[(gZ _).length_eq,V9,V9];exact jY ok.len
end
theorem v5{p q i:Int}(hn:i∉ts.map (·.1))(w:Nat)(hw:w<4):eN [.int w,aR p q ts,.int i]=.ok (true,.bl true):=by
 unfold eN;show xS 8 "tie" i (cA [.int w,aR p q ts,.int i])=_;have e:cA [.int w,aR p q ts,.int i]=.exc 8 [.str "tie",.int i]:=by
  rw[uH w hw]
  split
  ·exact CF hn
  ·exact CG hn
 rw[e];show (if 8=8/\("tie":Str) = "tie" /\ i=i then (Pr.ok (true,Val.bl true):Pr FV) else .no)=_;rw[Wg ⟨rfl,rfl,rfl⟩]
def R4:List Val:=[0,1,2,3].map λn:Nat=>Val.int n
theorem OY:fF .range [.int 4]=some R4:=rfl
theorem OZ(d:Val)(p:uJ)(k:Ik)(b:eT):Fj (.cst d) p k b=none:=rfl
theorem Tv(j:Nat)(es:jz):new2 (.call j es)=none:=rfl
theorem O0(i:Nat)(a:IE):Om (.met .append (.idx (.var i) (¬1)) #[a])=some (.apI i 1 a):=rfl
theorem CM{ns:List Int}{p q:Int}(ok:kR ns (p,q,ts))(ht:t∈ts):fm [aR p q ts,.int t.1]=.ok (true,.bl true):=by
 have n3:=xQ p q ts;have da:=λw hw=>Lm ok ht w hw;have o1:=CH (p:=p) (q:=q) ok.len t;have z2:2<=sizeLine:=by decide
 have z3:3<=sizeLine:=by decide
 unfold fm Fv K1;rw[show kK dZ=[5] by decide +kernel];unfold dZ;unfold aR at n3 da o1 |-;obtain⟨f1,o1⟩:=o1;have o1:ig [.tup [.tup [.int p,.int q],.rl (ts.map aI)],.int t.1]=.ok (f1,.tup [.tup [.int p,.int q],.rl ((others ts t).map aI)]):=o1;simp only[EV,gA,dz,Fi,Hv.kJ,Hv.cF,bV kI,bV lD,z2,OY,OZ]
 repeat rw[lY]
 unfold R4;refine cS (λn:Nat=>Val.int n) (λr:Pr FV=>(match r with|.ok x=>pg x.1 (.ok x)|_=>.no)=.ok (true,.bl true))
  (λdone env=>∃a b c,env=[some (.sh,.tup [.tup [.int p,.int q],.rl (ts.map aI)]),some (.sh,.int t.1),some (.sh,.tup [.tup [.int p,.int q],.rl (ts.map aI)]),a,b,c])
  ⟨none,none,none,rfl⟩ ?_ ?_
 ·rintro pre w post env hx ⟨a,b,c,rfl⟩
  have hw:w<4:=by
   have:w∈[0,1,2,3]:=by rw[hx];simp
   simp at this;omega
  obtain⟨P,Q,us,hu,ea,due⟩:=da w hw;have sn:=uB (p:=P) (q:=Q) hu;unfold aR at sn;have zl:us.length<sizeLine:=by unfold sizeLine;omega
  have ei:gJ [Val.tup [.int P,.int Q],.rl (us.map aI)] 1=some (.rl (us.map aI)):=rfl;refine⟨_,?_,some (.sh,.int w),some (.sh,.tup [.tup [.int P,.int Q],.rl (us.map aI)]),KZ [.tup [.int P,.int Q],.rl (us.map aI)],rfl⟩
  rcases due with ⟨e,f,due⟩|⟨e,due⟩
  ·have em:¬ ((w:Int)%2=1):=by omega
   simp only[EV,gA,dz,Fi,Hv.kJ,Hv.cF,cj,Tv,O0,Ou,gH,fN,dI,due,ea,sn,n3,ei,z3,zl,length_map,eY (show decide ((0:Int)<2)=true by decide),em,decide_false]
  ·have em:(w:Int)%2=1:=by omega
   simp only[EV,gA,dz,Fi,Hv.kJ,Hv.cF,cj,Tv,O0,Ou,gH,iE,fN,dI,o1,due,ea,sn,n3,ei,z3,zl,length_map,eY (show decide ((0:Int)<2)=true by decide),em,decide_true]
 ·rintro env ⟨a,b,c,rfl⟩;simp only[EV,gA,dz,Fi,Hv.kJ,Hv.cF]
end K14
end
section
open PySem L2 Hv
namespace K14
theorem VM(a b c:Int)(k:Int):∃n,gJ [Val.int a,.int b,.int c] (k%3)=some (.int n):=by
 have h0:=Yp k (show (3:Int)≠0 by decide);have h1:=XT k (show (0:Int)<3 by decide)
 rcases(show k%3=0\/k%3=1\/k%3=2 by omega) with e|e|e<;>rw[e]
 ·exact⟨a,rfl⟩
 ·exact⟨b,rfl⟩
 ·exact⟨c,rfl⟩
theorem mW{ms:List Nat}(h:bM Ψ ms st env=.ok (.nx env')):dw Ψ ms (.cons st r) env=dw Ψ ms r env':=by
 rw[dw,h];rfl
theorem CN{i:Nat}{f:Bool}(h:aW Ψ e env=.ok (f,v)):bM Ψ [] (.asg (.one i) e) env=.ok (.nx (env.set i (some (jU f v,v)))):=by
 rw[bM]
 try dsimp only
 rw[h];rfl
theorem O3{ms:List Nat}{f:Bool}(h:PC Ψ c env=.ok (f,.bl false)):bM Ψ ms (.iff c a .nil) env=.ok (.nx env):=by
 rw[bM,h,cg];show pb (pl (cG [] (.bl false))) _=_;rw[GL,gY,cg,We V1,dw]
def R1:IE:=(.call 0 #[!0,.bin .add (¬5) (!1)])
def R3:IE:=(.comp ["_law_tie"] [none] (.one 0) .seq #[.idx (!2) (¬1)] .no (.idx (!0) (¬0)))
def R5:IE:=(.and (.cmp .gt (.blt .len #[!4]) (¬0)) (.not (.call 19 #[!2,.idx (!4) (.bin .mod (.bin .fdiv (!3) (¬3)) (.blt .len #[!4]))])))
def R6:IE:=(.idx (.lst #[.bin .mod (!3) (.bin .pow (¬10) (¬60)),.call 2 #[!0,¬0,.bin .add (¬20) (.bin .mod (!3) (¬9))],.neg (¬1)]) (.bin .mod (!3) (¬3)))
def R7:eT:=#[.iff (.and (.cmp .nin (!5) (!4)) (.not (.call 20 #[!6,!2,!5]))) #[.ret (.cst (.bl false))] .nil]
def Tw:eT:=.cons (.asg (.one 3) R1) #[.asg (.one 4) R3,.iff R5 #[.ret (.cst (.bl false))] .nil,.asg (.one 5) R6,.for (.one 6) .range #[¬4] R7]
theorem Lo:ou=.cons (.for (.tup [1,2]) .enum #[.call 5 #[!0]] Tw) #[.ret (.cst (.bl true))]:=rfl
section
variable {ns:List Int} {p q:Int} {ts:List T3} {j:Nat} {cell n:Int} {a b c d:Option (Hv.Mk×Val)}
abbrev sN(ns:List Int):Option (Hv.Mk×Val):=some (.sh,.rl (ns.map .int))
abbrev sV(p q:Int)(ts:List T3):Option (Hv.Mk×Val):=some (.sh,aR p q ts)
theorem O4:aW (aB mF) R1 [sN ns,some (.sh,.int j),sV p q ts,a,b,c,d]=.ok (true,.int (cellAt ns (5+j))):=by
 have c1:aV [.rl (ns.map .int),.int (5+(j:Int))]=.ok (true,.int (cellAt ns (5+j))):=by have:=kQ ns (5+j);rwa [show ((5+j:Nat):Int)=5+(j:Int) by omega]at this
 unfold R1;simp only[EV,lO,c1]
theorem O5(h:ts.length<=14):aW (aB mF) R3 [sN ns,some (.sh,.int j),sV p q ts,some (.sh,.int cell),b,c,d]=.ok (true,.rl ((ts.map (·.1)).map .int)):=by
 have hc:ts.length<=100000:=by omega
 unfold R3 sV aR;simp only[EV,bV lD,iB,iz,length_map,hc];rw[g9 aI (λt=>.int t.1) ts (λt ht=>by
  simp only[EV,cj];rfl)]
 simp only[EV,List.map_map];rfl
theorem O6(ok:kR ns (p,q,ts)):PC (aB mF) R5 [sN ns,some (.sh,.int j),sV p q ts,some (.sh,.int cell),some (.nw,.rl ((ts.map (·.1)).map .int)),c,d]=.ok (true,.bl false):=by
 have rt:∀t∈ts,fm [aR p q ts,.int t.1]=.ok (true,.bl true):=λt ht=>CM ok ht;unfold R5
 by_cases h0:ts=[]
 ·subst h0;simp only[EV,cg];rfl
 ·have hp:0<ts.length:=List.length_pos_iff.mpr h0
  have NH:(0:Int)<((ts.length:Nat):Int):=by omega
  obtain⟨t,ht,et⟩:∃t∈ts,gJ ((ts.map (·.1)).map Val.int) (cell/3%((ts.length:Nat):Int))=some (.int t.1):=by
   have k0:=Yp (cell/3) (show ((ts.length:Nat):Int)≠0 by omega);have k1:=XT (cell/3) NH;generalize cell/3%((ts.length:Nat):Int)=k at *;obtain⟨m,rfl⟩:=XZ k0;have hm:m<ts.length:=by omega
   exact⟨ts[m],XH hm,mJ (by simp[hm])⟩
  have rr:=rt t ht;unfold aR at rr;unfold sV aR;have hg:(((ts.length:Nat):Int)>0)=True:=by simp;omega
  simp only[EV,length_map,hg,decide_true,vK (show oY 3=true by decide),eY (show decide ((0:Int)<((ts.length:Nat):Int))=true from decide_eq_true NH),qj et,oE,rr]
theorem O7:∃n,aW (aB mF) R6 [sN ns,some (.sh,.int j),sV p q ts,some (.sh,.int cell),some (.nw,.rl ((ts.map (·.1)).map .int)),c,d]=.ok (true,.int n):=by
 have c2:=fq ns 0 (20+cell%9);rw[show ((0:Nat):Int)=0 from rfl]at c2;generalize number ns 0 (20+cell%9)=num at c2;obtain⟨n,en⟩:=VM (cell%10 ^ (60:Int).toNat) num (-1) cell;have z3:3<=sizeLine:=by decide
 refine⟨n,?_⟩;unfold R6;simp only[EV,mH,c2,z3,BW (show decide ((0:Int)<=60/\(60:Int)<=1000000/\(10:Int).natAbs<2 ^ 64)=true by decide),eY (show decide ((0:Int)<10 ^ (60:Int).toNat)=true by decide),eY (show decide ((0:Int)<3)=true by decide),eY (show decide ((0:Int)<9)=true by decide),qj en]
theorem O8(w:Nat)(hw:w<4):dw (aB mF) [] R7 [sN ns,some (.sh,.int j),sV p q ts,some (.sh,.int cell),some (.nw,.rl ((ts.map (·.1)).map .int)),some (.sh,.int n),some (.sh,.int w)]=.ok (.nx [sN ns,some (.sh,.int j),sV p q ts,some (.sh,.int cell),some (.nw,.rl ((ts.map (·.1)).map .int)),some (.sh,.int n),some (.sh,.int w)]):=by
 unfold R7
 by_cases z:n∈ts.map (·.1)
 ·simp only[EV,B4,z,decide_true]
 ·have:=v5 (p:=p) (q:=q) z w hw;simp only[EV,B4,z,decide_false,lP,this]
end
theorem Lp(ns:List Int)(hn:ns.length<=63):∃f,Cv [.rl (ns.map .int)]=.ok (f,.bl true):=by
 unfold Cv fG;rw[show fW ou=[] by decide +kernel,Lo];obtain⟨f0,iF,e0,hv⟩:=FJ ns;simp only[EV,o8,e0,GN];rw[lY];refine BZ (λr:Pr FV=>∃f:Bool,r=.ok (f,.bl true))
  (λdone env=>∃a b c d e f,env=[some (.sh,.rl (ns.map .int)),a,b,c,d,e,f])
  ⟨none,none,none,none,none,none,rfl⟩ ?_ ?_
 ·rintro pre x env hx hlen ⟨a,b,c,d,e,f,rfl⟩
  obtain⟨j,⟨p,q,ts⟩,hc,rfl⟩:=qz _ _ _ hx;have ok:=hv (p,q,ts) hc;have hl:ts.length<=14:=ok.len;simp only[BX,gY,cg,set_cons_zero,set_cons_succ];unfold Tw;show ∃env',dw _ _ _ [sN ns,some (.sh,.int j),sV p q ts,c,d,e,f]=.ok (.nx env')/\_;rw[mW (CN (O4 (p:=p) (q:=q) (ts:=ts)))];generalize cellAt ns (5+j)=cell;show ∃env',dw _ _ _ [sN ns,some (.sh,.int j),sV p q ts,some (.sh,.int cell),d,e,f]=.ok (.nx env')/\_;rw[mW (CN (O5 hl))];show ∃env',dw _ _ _ [sN ns,some (.sh,.int j),sV p q ts,some (.sh,.int cell),some (.nw,.rl ((ts.map (·.1)).map .int)),e,f]=.ok (.nx env')/\_;rw[mW (O3 (O6 ok))];obtain⟨n,en⟩:=O7 (ns:=ns) (p:=p) (q:=q) (ts:=ts) (j:=j) (cell:=cell) (c:=e) (d:=f);rw[mW (CN en)];show ∃env',dw _ _ _ [sN ns,some (.sh,.int j),sV p q ts,some (.sh,.int cell),some (.nw,.rl ((ts.map (·.1)).map .int)),some (.sh,.int n),f]=.ok (.nx env')/\_;simp only[EV,OY];unfold R4;refine cS (λn:Nat=>Val.int n) (λr:Pr vG=>∃env',r=.ok (.nx env')/\∃a b c d e f,env'=[some (.sh,.rl (ns.map .int)),a,b,c,d,e,f])
   (λdone env=>∃x,env=[sN ns,some (.sh,.int j),sV p q ts,some (.sh,.int cell),some (.nw,.rl ((ts.map (·.1)).map .int)),some (.sh,.int n),x])
   ⟨_,rfl⟩ ?_ ?_
  ·rintro pre w post env hx ⟨x,rfl⟩
   have hw:w<4:=by
    have:w∈[0,1,2,3]:=by rw[hx];simp
    simp at this;omega
   refine⟨_,?_,some (.sh,.int w),rfl⟩;simp only[cj,gY,cg,set_cons_zero,set_cons_succ,O8 w hw]
  ·rintro env ⟨x,rfl⟩;exact⟨_,rfl,_,_,_,_,_,_,rfl⟩
 ·rintro env ⟨a,b,c,d,e,f,rfl⟩;simp only[EV,cg];exact⟨_,rfl⟩
theorem true(ns:List Int)(hn:ns.length<=63):∃h',Cr [.rl (ns.map .int)] []=.ok (.bl true) h':=by
 obtain⟨f,e⟩:=Lp ns hn;exact FH e
end K14
end
end
section
namespace PySem.W.Fast
theorem tw17767192748079767060:True:=trivial
theorem tw5914101704499882358:True:=trivial
theorem tw17139306541758157549:True:=trivial
theorem tw4224017134742747172:True:=trivial
theorem tw11258835599753580181:True:=trivial
theorem tw17757583299548571626:True:=trivial
theorem tw5186687847573002406:True:=trivial
theorem tw3665370404120184763:True:=trivial
theorem tw7936008711790204169:True:=trivial
theorem tw10506384746386033434:True:=trivial
theorem tw8845438399182782779:True:=trivial
theorem tw3825705774371855725:True:=trivial
theorem tw3210015208446170003:True:=trivial
theorem tw2216126614463205026:True:=trivial
theorem tw10189655321042490279:True:=trivial
theorem tw4009235308009498223:True:=trivial
theorem tw5035810127600085876:True:=trivial
theorem tw16624702613230812064:True:=trivial
theorem tw8377558249712004956:True:=trivial
theorem tw9492065580401319278:True:=trivial
theorem tw4865998096180362712:True:=trivial
theorem tw15178595641158569898:True:=trivial
theorem tw12641529197160377906:True:=trivial
theorem tw18067373385251462867:True:=trivial
theorem tw13456264800091910803:True:=trivial
theorem tw4199115967313034909:True:=trivial
theorem tw17131325031295634975:True:=trivial
theorem tw5097815808697503712:True:=trivial
theorem tw9145197138310920385:True:=trivial
theorem tw3944613916956811516:True:=trivial
theorem tw14874002797765243403:True:=trivial
theorem tw10155371825764648738:True:=trivial
theorem tw15248821570107052952:True:=trivial
theorem tw618221346485961478:True:=trivial
theorem tw6029263768366777138:True:=trivial
theorem tw9583585658336017857:True:=trivial
theorem tw8634310847882785990:True:=trivial
theorem tw776426699921168724:True:=trivial
theorem tw18004024430806811774:True:=trivial
theorem tw12209106223060588234:True:=trivial
theorem tw8288486184796949518:True:=trivial
theorem tw14098295820047213439:True:=trivial
theorem tw127278854795484700:True:=trivial
theorem tw15295949504968275173:True:=trivial
theorem tw6171926004231234750:True:=trivial
theorem tw12085508085069348902:True:=trivial
theorem tw11536613804017833560:True:=trivial
theorem tw16596304650425861607:True:=trivial
theorem tw12662153278711290070:True:=trivial
theorem tw10311781412551425318:True:=trivial
theorem tw2097251912949212233:True:=trivial
theorem tw11757937574583748913:True:=trivial
theorem tw16911608491267523325:True:=trivial
theorem tw8890826461396918790:True:=trivial
theorem tw1754687567456583967:True:=trivial
theorem tw7282736771664251007:True:=trivial
theorem tw865788605238527161:True:=trivial
theorem tw2733305686672286806:True:=trivial
theorem tw14130605022020353791:True:=trivial
theorem tw3470917326487785363:True:=trivial
theorem tw8856355270479543862:True:=trivial
theorem tw6603822338770040951:True:=trivial
theorem tw5956477881648430605:True:=trivial
theorem tw15416967259888749437:True:=trivial
theorem tw18225884638648102164:True:=trivial
theorem tw4140706383698710484:True:=trivial
theorem tw10180383483358603723:True:=trivial
theorem tw13040571264277924556:True:=trivial
theorem tw2067883615028667776:True:=trivial
theorem tw14769355990951432505:True:=trivial
theorem tw5659992406335035667:True:=trivial
theorem tw6926601502623660256:True:=trivial
theorem tw474800019251213374:True:=trivial
theorem tw14777320379090858840:True:=trivial
theorem tw7337385650241052519:True:=trivial
theorem tw6688396506839223696:True:=trivial
theorem tw4813459103203817380:True:=trivial
theorem tw16284649637825353599:True:=trivial
theorem tw8130740564195592059:True:=trivial
theorem tw8633170714807393715:True:=trivial
theorem tw10480256460750608053:True:=trivial
theorem tw3342575121416993294:True:=trivial
theorem tw17640552516075498808:True:=trivial
theorem tw5222181305842578951:True:=trivial
theorem tw4046470844411517262:True:=trivial
theorem tw5602452550022443103:True:=trivial
theorem tw6300048427628393202:True:=trivial
theorem tw12021204511667713621:True:=trivial
theorem tw9275668986320711386:True:=trivial
theorem tw5669503592150263902:True:=trivial
theorem tw14064623321113904031:True:=trivial
theorem tw16150012305163632226:True:=trivial
theorem tw1045887861628281338:True:=trivial
theorem tw8116543508202299732:True:=trivial
end PySem.W.Fast
open PySem PySem.W PyProof.Rows
set_option maxRecDepth 100000 in
set_option maxHeartbeats 0 in
theorem PySem.Challenge.cw_linkorcut_k14_a_tie_taken_holds : PySem.Challenge.rw_linkorcut_k14_a_tie_taken.Holds := by
 w_on;o_law;k_head;(case hw=>w_witness2)
 k_fill
 refine Hv.walk (l:=PySem.Challenge.rw_linkorcut_k14_a_tie_taken) (k:=44) (x:="_law_script") rfl rfl ⟨rfl,by decide,by decide⟩ (λw h Y=>PySem.W.kIn_of Y) ?F
 case F=>
  intro w mg fa h KX G hmg;refine' K14.all_mk KX G hmg K14.true ?_ ?_ ?_ ?_ ?_ ?_ ?_ ?_ ?_ ?_ ?_ ?_ ?_ ?_ ?_ ?_ ?_ ?_ ?_ ?_ ?_ ?_ ?_ ?_ ?_ ?_ ?_ ?_ ?_ ?_ ?_ ?_ ?_ ?_ ?_ ?_ ?_ ?_ ?_ ?_ ?_ ?_ ?_ ?_ ?_ ?_ ?_ ?_ ?_ ?_ ?_ ?_ ?_ ?_ ?_ ?_ ?_ ?_ ?_
  all_goals try first|k_is|kit_is|(exact⟨_,L2.fun_mk (by k_is) (by k_is) (by k_is)⟩)|(exact⟨⟨by k_is,by rfl,by rfl,by k_is,by k_is⟩,L2.excOb (by k_is) (by rfl),L2.excUp (by k_is) (by rfl) (by k_is) (by rfl) (by rfl) (by rfl),by k_is,by k_is,by k_is⟩)|(exact⟨by k_is,by k_is,by k_is,by k_is,by k_is,by k_is,by k_is,by k_is⟩)|(exact L2.excNe (by k_is) (by rfl) (by rfl))|(intro x hx;simp only[Hv.bltNames,List.mem_cons,List.not_mem_nil,or_false]at hx;rcases hx with rfl|rfl|rfl|rfl|rfl|rfl|rfl|rfl|rfl|rfl|rfl|rfl|rfl|rfl|rfl|rfl|rfl<;>k_is)
#print axioms PySem.Challenge.cw_linkorcut_k14_a_tie_taken_holds
end
