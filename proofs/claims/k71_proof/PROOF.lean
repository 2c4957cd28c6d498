import PyProof.Rows.All
import Wide.All
import OpenK.AllK
import Wide.FinOn
import Lean
import PyProof.EqAt
import PyProof.EqKinds
import PyProof.TupleCall
import KE.KDictList
import KE.KDictLaws
import KE.KDictSum
import KE.KRevSl
import PyProof.DictWalks
import PySem.Challenge.RW_linkorcut_k71_small_plays
set_option Elab.async false
set_option compiler.extract_closed false
set_option linter.all false
set_option maxRecDepth 100000
set_option maxHeartbeats 4000000
set_option genSizeOf false
set_option backward.eqns.nonrecursive false
set_option backward.eqns.deepRecursiveSplit false
set_option bootstrap.genMatcherCode false
set_option hygiene false
local macro_rules
|`(def $n:declId $s:optDeclSig $v:declVal)=>`(noncomputable def $n:declId $s:optDeclSig $v:declVal)
|`(abbrev $n:declId $s:optDeclSig $v:declVal)=>`(noncomputable abbrev $n:declId $s:optDeclSig $v:declVal)
local macro_rules
|`(#[$a])=>`(.cons $a .nil)
|`(#[$a,$as,*])=>`(.cons $a #[$as,*])
local macro_rules
|`(!$n:num)=>`(.var $n)
local macro_rules
|`(¬$n:num)=>`(.cst (.int $n))
set_option hygiene true
open Array(toList)
open Bool(and_eq_true false_eq_true not_eq_true' or_eq_true)
open List(all_eq_true cons_append find?_cons length length_append length_cons length_map length_nil lookup_cons map_append map_cons map_nil mem_append mem_cons not_mem_nil range' replicate set_cons_succ set_cons_zero set_set size_toArray toArray zip_cons_cons)
open Nat(add_zero lt_trans mod_lt)
open Option(bind_some getD_none map_some)
open PySem.W(callWith_K callWith_K0 cellsFrom_some codeIn emptyDict eq_sortI findIn instObj kat_lt keepIn kitOne kitx_list makesIn methodObj specialIn typeIn)
def Wl:=@PySem.wpAny_bind
def Wm:=@Bool.false_ne_true
def Wn:=@Option.bind_eq_some_iff
def Wo:=@List.getElem?_eq_some_iff
def Wq:=@PySem.Heap.get?_push_of_some
def Wr:=@List.length_map
def Ws:=@List.getElem?_set_ne
def Wt:=@if_neg
def Wu:=@if_pos
def Wv:=@PySem.wpAny_pure
def Ww:=@List.mem_cons_of_mem
def Wx:=@List.mem_cons_self
def Wy:=@Nat.le_refl
def Wz:=@List.getElem?_set_self
def WA:=@List.size_toArray
def WB:=@PySem.Heap.lt_size
def WC:=@Nat.lt_of_lt_of_le
def WD:=@List.mem_singleton
def WE:=@List.getElem?_append_left
def WG:=@PySem.Heap.get?_push_size
def WH:=@List.mem_cons
def WI:=@List.map_cons
def WJ:=@Nat.ne_of_lt
def WK:=@List.prefix_refl
def WL:=@PySem.W.mg_of
def WM:=@List.mem_of_getElem?
def WN:=@List.length_append
def WO:=@List.getElem?_map
def WQ:=@of_decide_eq_true
def WR:=@Option.some.inj
def WS:=@List.getElem?_eq_getElem
def WU:=@List.mem_append_right
def WW:=@Option.map_eq_some_iff
def WX:=@List.getElem?_append_right
def WY:=@Array.length_toList
def WZ:=@Nat.le_trans
def W0:=@List.mem_append_left
def W2:=@PySem.wpAny_newObj_type
def W3:=@List.mem_append
def W4:=@List.map_map
def W5:=@PyProof.Rows.callWith_type1
def W6:=@List.nodup_cons
def W7:=@List.length_cons
def W8:=@Array.getElem?_eq_getElem
def W9:=@PySem.wpAny_Call_Name_kw
def Xa:=@Nat.lt_succ_self
def Xb:=@List.getElem_map
def Xc:=@List.map_congr_left
def Xd:=@List.mem_map_of_mem
def Xe:=@PySem.Heap.get?_update_self
def Xf:=@congrArg
def Xg:=@PySem.Calls.spliced_cons
def Xh:=@List.pairwise_cons
def Xi:=@List.prefix_append
def Xj:=@beq_eq_false_iff_ne
def Xk:=@PySem.Heap.SameBut.update
def Xl:=@PySem.Heap.size_push
def Xm:=@List.mem_map
def Xn:=@PySem.Obj.data_mapFields
def Xo:=@Nat.le_succ
def Xp:=@Nat.lt_irrefl
def Xq:=@List.nodup_append
def Xr:=@PySem.mem_of_lookup
def Xs:=@List.pairwise_iff_getElem
def Xu:=@PySem.wpAny_mono
def Xv:=@beq_self_eq_true
def Xw:=@List.getElem_mem
def Xx:=@PySem.wpAny_holding
def Xy:=@PySem.sizeLine_eq
def Xz:=@Nat.zero_le
def XA:=@PySem.Calls.spliced_nil
def XC:=@Nat.lt_succ_of_lt
def XD:=@PySem.wpAny_setState_of
def XE:=@List.append_nil
def XF:=@PyProof.Rows.KeyOrd.kle_refl
def XG:=@PySem.W.kia_one
def XH:=@PyProof.Rows.F.plain_set_update_loop
def XI:=@True.intro
def XJ:=@List.getElem?_eq_none_iff
def XM:=@List.map_append
def XO:=@PySem.Around.under_plainId
def XQ:=@PySem.wpAny_call_entry
def XR:=@List.eq_nil_of_length_eq_zero
def XS:=@Nat.le_of_lt
def XT:=@List.map_nil
def XU:=@PySem.Heap.get?_update_other
def XW:=@PySem.Calls.callWith_builtin
def XX:=@PySem.W.sortI_perm
def XY:=@PySem.codeAny_builtin
def XZ:=@Bool.true_and
def X0:=@List.length_singleton
def X3:=@PySem.Obj.isFreed_of_fields
def X4:=@PySem.wpAny_truthy_bool
def X5:=@List.pairwise_map
def X6:=@PySem.wpAny_setField
def X7:=@Nat.ne_of_gt
def X8:=@Bool.and_eq_true
def Yb:=@List.getElem?_zip_eq_some
def Yc:=@List.getElem_of_mem
def Yd:=@List.set_eq_of_length_le
def Ye:=@List.cons.inj
def Yg:=@Prod.mk.injEq
def Yh:=@PySem.wpAny_passesOwn
def Yi:=@Array.Perm.refl
def Yj:=@PySem.W.KasT.kasWp_bind
def Yk:=@PySem.wpAny_callSpecial?_slot
def Yl:=@PySem.F.plainAttrs_dict
def Ym:=@PySem.F.plainAttrs_list
def Yn:=@Int.eq_ofNat_of_zero_le
def Yo:=@List.eraseIdx_cons_succ
def Yp:=@PySem.codeAny_mono
def Yq:=@PyProof.Rows.KeyOrd.kle_of_klt
def Yr:=@List.Perm.refl
def Ys:=@PySem.fits_of_scanBound
def Yt:=@decide_eq_true_eq
def Yu:=@List.take_of_length_le
def Yv:=@PySem.F.slot_dict_get
def Yw:=@List.mem_iff_getElem?
def Yx:=@Array.getElem?_toList
def Yy:=@List.length_take
def Yz:=@List.length_drop
def YA:=@PyProof.Rows.KeyOrd.kle_trans
def YB:=@List.ext_getElem
def YC:=@PySem.plainId_quiet
def YD:=@PySem.Calls.evalArgs_plain
def YE:=@List.mem_iff_getElem
def YF:=@List.drop_eq_nil_iff
def YG:=@List.nil_append
def YH:=@List.filterMap_cons
def YI:=@PySem.tupleKind_room_in1
def YJ:=@List.nodup_nil
def YK:=@List.mem_replicate
def YL:=@PySem.Value.isInt_shape
def YM:=@PySem.wpAny_pyIter_list
def YN:=@List.length_range
def YO:=@PySem.Obj.cls_mapFields
def YQ:=@List.map_id
def YR:=@PySem.Paired.length
def YS:=@List.any_cons
def YT:=@List.all_eq_true
def YU:=@beq_iff_eq
def YV:=@PySem.call_meetsIn
def YW:=@List.of_mem_zip
def YX:=@List.length_set
def YY:=@Bool.or_eq_true
def YZ:=@List.find?_cons
def Y0:=@List.mem_range
def Y3:=@List.Perm.cons
def Y4:=@List.drop_drop
open PySem.W(Frag sortI nsIn fnOf isFn)
section
namespace L2
open PySem PySem.Spec PyProof.Rows
abbrev Key:=Sum Int Str
def nS:Key->Value->Bool
 |.inl k,v=>Value.isInt k v
 |.inr x,v=>Value.isStrOf x v
def P7(w:World):Key->Int
 |.inl k=>hashInt k
 |.inr x=>hashStr w x
theorem bN:∀{k:Key} {v:Value},nS k v=true->(∃i t,k=Sum.inl i/\v=Value.int i t)\/(∃x t,k=Sum.inr x/\v=Value.str x t)
 | .inl i,v,h=>by
  obtain⟨t,e⟩:=YL (k:=i) (v:=v) h;exact .inl ⟨i,t,rfl,e⟩
 | .inr x,v,h=>by
  obtain⟨t,e⟩:=Value.isStrOf_shape (x:=x) (v:=v) h;exact .inr ⟨x,t,rfl,e⟩
theorem yN(i:Int)(t:Tok):nS (.inl i) (.int i t)=true:=by simp[nS,Value.isInt]
theorem yO(x:Str)(t:Tok):nS (.inr x) (.str x t)=true:=by simp[nS,Value.isStrOf]
theorem Hi(a b:Int):decide ((Sum.inl a:Key)=Sum.inl b)=(a==b):=by
 by_cases e:a=b
 ·subst e;simp
 ·have h:¬ (Sum.inl a:Key)=Sum.inl b:=λq=>e (Sum.inl.inj q);rw[decide_eq_false h];exact(Xj.mpr e).symm
theorem Hj(a b:Str):decide ((Sum.inr a:Key)=Sum.inr b)=decide (a=b):=by
 by_cases e:a=b
 ·subst e;simp
 ·have h:¬ (Sum.inr a:Key)=Sum.inr b:=λq=>e (Sum.inr.inj q);rw[decide_eq_false h,decide_eq_false e]
theorem Hl(a:Int)(b:Str):decide ((Sum.inl a:Key)=Sum.inr b)=false:=decide_eq_false (λq=>nomatch q)
theorem Ho(a:Str)(b:Int):decide ((Sum.inr a:Key)=Sum.inl b)=false:=decide_eq_false (λq=>nomatch q)
def aV(prog:Program)(w:World):PySem.KeyKind prog w Key where
 is:=nS
 hash:=P7 w
 inj:=λv a b ha hb=>by
  rcases bN ha with ⟨i,t,rfl,rfl⟩|⟨x,t,rfl,rfl⟩
  ·rcases bN hb with ⟨j,u,rfl,e⟩|⟨y,u,rfl,e⟩
   ·injection e with e1 _;rw[e1]
   ·exact nomatch e
  ·rcases bN hb with ⟨j,u,rfl,e⟩|⟨y,u,rfl,e⟩
   ·exact nomatch e
   ·injection e with e1 _;rw[e1]
 byValue:=λk v h=>by
  rcases bN h with ⟨i,t,rfl,rfl⟩|⟨x,t,rfl,rfl⟩<;>rfl
 pyHash:=λhv h=>by
  rcases bN hv with ⟨i,t,rfl,rfl⟩|⟨x,t,rfl,rfl⟩
  ·exact wpAny_pyHash_int h
  ·exact wpAny_pyHash_str h
 eqBool:=λhu hv h=>by
  rcases bN hu with ⟨i,t,rfl,rfl⟩|⟨x,t,rfl,rfl⟩
  ·rcases bN hv with ⟨j,u,rfl,rfl⟩|⟨y,u,rfl,rfl⟩
   ·rw[Hi]at h;exact wpAny_eqBool_int h
   ·rw[Hl]at h;exact SeqAt.EqAt.int_str i t y u _ _ _ _ h
  ·rcases bN hv with ⟨j,u,rfl,rfl⟩|⟨y,u,rfl,rfl⟩
   ·rw[Ho]at h;exact SeqAt.EqAt.str_int x t j u _ _ _ _ h
   ·rw[Hj]at h;exact wpAny_eqBool_str h
 «strs»:=λk x t v h=>by
  rcases bN h with ⟨i,u,rfl,e⟩|⟨y,u,rfl,e⟩
  ·exact nomatch e
  ·injection e with e1 _
   subst e1;cases v<;>rfl
theorem vt(prog:Program)(w:World)(k:Key)(v:Value):(aV prog w).is k v=nS k v:=rfl
theorem sV(prog:Program)(w:World)(i:Int)(t:Tok):(aV prog w).is (.inl i) (.int i t)=true:=yN i t
theorem sW(prog:Program)(w:World)(x:Str)(t:Tok):(aV prog w).is (.inr x) (.str x t)=true:=yO x t
inductive V where
 |non|bl (b:Bool)|int (i:Int)|str (x:Str)|byt (b:Array UInt8)|flt (b:UInt64)|ref (a:Addr)|ty (n:String)
 deriving DecidableEq
def RelV:V->Value->Prop
 |.non,u=>u=Value.none
 |.bl b,u=>u=Value.bool b
 |.int i,u=>∃t,u=Value.int i t
 |.str x,u=>∃t,u=Value.str x t
 |.byt b,u=>∃t,u=Value.bytes b t
 |.flt b,u=>∃t,u=Value.float b t
 |.ref a,u=>u=Value.ref a
 |.ty n,u=>u=Value.type n
abbrev Vals:List V->List Value->Prop:=Paired RelV
theorem Vals.length(r:Vals xs us):xs.length=us.length:=YR r
theorem Vals.get:∀{xs:List V} {us:List Value} {i:Nat} {x:V},Vals xs us->xs[i]?=some x->∃u,us[i]?=some u/\RelV x u
 |_,_,_,_,.nil,e=>by simp at e
 |_,_,0,_,.cons r _,e=>by simp at e;subst e;exact⟨_,rfl,r⟩
 | _,_,i+1,x,.cons _ t,e=>by
  obtain⟨u,h1,h2⟩:=Vals.get (i:=i) (x:=x) t (by simpa using e);exact⟨u,by simpa using h1,h2⟩
theorem Vals.set(r:RelV x u):∀{xs:List V} {us:List Value} (i:Nat),Vals xs us->Vals (xs.set i x) (us.set i u)
 |_,_,_,.nil=>.nil
 |_,_,0,.cons _ t=>.cons r t
 |_,_,i+1,.cons q t=>.cons q (Vals.set r i t)
theorem Vals.append:∀{xs ys:List V} {us ws:List Value},Vals xs us->Vals ys ws->Vals (xs++ys) (us++ws)
 |_,_,_,_,.nil,s=>s
 |_,_,_,_,.cons r t,s=>.cons r (Vals.append t s)
theorem Vals.take:∀{xs:List V} {us:List Value} (n:Nat),Vals xs us->Vals (xs.take n) (us.take n)
 |_,_,0,_=>.nil
 |_,_,_+1,.nil=>.nil
 |_,_,n+1,.cons r t=>.cons r (Vals.take n t)
theorem Vals.drop:∀{xs:List V} {us:List Value} (n:Nat),Vals xs us->Vals (xs.drop n) (us.drop n)
 |_,_,0,r=>r
 |_,_,_+1,.nil=>.nil
 |_,_,n+1,.cons _ t=>Vals.drop n t
def ja:Option V->Option Value->Prop
 |some v,some u=>RelV v u
 |none,none=>True
 |_,_=>False
def KV{κ:Type}:List (κ × V)->List (κ × Value)->Prop:=Paired λ(p:κ × V) (q:κ × Value)=>p.1=q.1/\RelV p.2 q.2
def kV:Key->V
 |.inl i=>.int i
 |.inr x=>.str x
inductive HO where
  |lst (xs:List V)
  |tup (xs:List V)
  |dK (kvs:List (Key×V))|dT (kvs:List (List Key×V))
  |set (S:Int->Bool) (n:Nat)
  |ins (C dx:Addr) (fs:List (Str×V))
  |own (x:Addr)
  |xd (fs:List (Str×V))
  |met (f x:Addr)
  |rng (lo hi:Int)
  |qZ (o:Obj) (u:HO)
  |tbl (ps:Array Value)
  |ext (φ:Heap->Prop)
abbrev Hp:=Addr->Option HO
def upd(H:Hp)(a:Addr)(o:HO):Hp:=λb=>if b=a then some o else H b
theorem aZ:upd H a o a=some o:=by unfold upd;rw[Wu rfl]
theorem aG(h:b≠a):upd H a o b=H b:=by unfold upd;rw[Wt h]
theorem LV{H:Hp}{a b:Addr}{o u:HO}(h:H a=some o)(h':H b=some u)(d:o≠u):a≠b:=by
 intro e;subst e;rw[h]at h';exact d (WR h')
theorem aR{H:Hp}{a b:Addr}{o:HO}(h:H a=some o)(h':H b=none):a≠b:=by
 intro e;subst e;rw[h]at h';cases h'
section
variable (P:Program) (w:World)
def cg(H:Hp)(h:Heap)(a:Addr):HO->Prop
 |.lst xs=>xs.length<=sizeLine/\∃(its:List Value) (n:Nat),Vals xs its/\h.get? a=some { cls:=.type "list",data:=.seq its.toArray n }
 |.tup xs=>xs.length<=sizeLine/\∃its:List Value,Vals xs its/\IsTup h a its.toArray
 |.dK kvs=>kvs.length<=sizeLine/\(a==sysModules)=false/\∃vs,KV kvs vs/\h.DictOf (aV P w) a vs
 | .dT kvs=>kvs.length<=sizeLine/\(a==sysModules)=false/\∃xs:List (List Key×Addr×Value),
   Paired (λ(p:List Key×V) (q:List Key×Addr×Value)=>p.1=q.1/\H q.2.1=some (.tup (p.1.map kV))/\RelV p.2 q.2.2) kvs xs /\
   ∃o es ep,h.get? a=some o/\o.ExactDict/\o.data=.dict es ep/\es.toList=xs.map (entryOfKey (tupleKind (aV P w)))/\(xs.map (·.1)).Nodup
 |.set S n=>h.SetOf (intKind P w) a S n
 | .ins C dx fs=>H dx=some (.own a)/\fs.length<=1000/\dx≠a/\h.get? a=some (instObj C dx) /\
   ∃mA,h.Ns1 dx mA/\(∀f,ja (fs.lookup f) (mA f))/\PySem.Within mA (fs.map (·.1))
 |.own _=>∃o,h.get? a=some o
 |.xd fs=>∃mA,h.Ns1 a mA/\∀f,ja (fs.lookup f) (mA f)
 |.rng lo hi=>∃t u v,h.get? a=some { cls:=.type "range",data:=.fields [.int lo t,.int hi u,.int 1 v].toArray }
 |.qZ o u=>h.get? a=some o/\cg H h a u
 |.tbl ps=>h.get? a=some { cls:=.none,data:=.fields ps }
 |.met f x=>h.get? a=some (methodObj (.ref f) (.ref x))
 |.ext φ=>φ h/\(∃o,h.get? a=some o)/\∀h1 h2:Heap,φ h1->(∀o,h1.get? a=some o->h2.get? a=some o) -> φ h2
def kN(H:Hp)(h:Heap):Prop:=∀a o,H a=some o->cg P w H h a o
end
section
variable {P:Program} {w:World} {H H':Hp} {h h':Heap} {a:Addr} {o:HO}
theorem cg.lt(x:cg P w H h a o):a<h.objs.size:=by
 cases o with
 |lst xs=>obtain⟨_,_,_,_,e⟩:=x;exact WB e
 |tup xs=>obtain⟨_,_,_,p⟩:=x;exact p.lt
 |dK kvs=>obtain⟨_,_,_,_,o,_,_,e,_⟩:=x;exact WB e
 |dT kvs=>obtain⟨_,_,_,_,o,_,_,e,_⟩:=x;exact WB e
 |set S n=>obtain⟨o,_,_,_,e,_⟩:=x;exact WB e
 |ins C dx fs=>obtain⟨_,_,_,e,_⟩:=x;exact WB e
 |own y=>obtain⟨_,e⟩:=x;exact WB e
 |xd fs=>obtain⟨_,⟨_,_,_,e,_⟩,_⟩:=x;exact WB e
 |rng lo hi=>obtain⟨_,_,_,e⟩:=x;exact WB e
 |qZ ob u=>obtain⟨e,_⟩:=x;exact WB e
 |tbl ps=>exact WB (show h.get? a=some _ from x)
 |met f y=>exact WB (show h.get? a=some _ from x)
 |ext φ=>obtain⟨_,⟨_,e⟩,_⟩:=x;exact WB e
theorem Paired.Hq{α β:Type}{F G:α -> β -> Prop}:∀{l₁:List α} {l₂:List β},Paired F l₁ l₂->(∀a b,F a b->G a b)->Paired G l₁ l₂
 |_,_,.nil,_=>.nil
 |_,_,.cons r t,f=>.cons (f _ _ r) (Paired.Hq t f)
theorem cg.stay(x:cg P w H h a o)(k:∀b u,(b=a\/H b=some (.own a))->h.get? b=some u->h'.get? b=some u)
  (ho:∀b,H b=some (.own a)->H' b=some (.own a)) (ht:∀b xs,H b=some (.tup xs)->H' b=some (.tup xs)):cg P w H' h' a o:=by
 induction o with
 |lst xs=>obtain⟨z,its,n,r,e⟩:=x;exact⟨z,its,n,r,k _ _ (.inl rfl) e⟩
 |tup xs=>obtain⟨z,its,r,ob,e,c⟩:=x;exact⟨z,its,r,ob,k _ _ (.inl rfl) e,c⟩
 |dK kvs=>obtain⟨z,y,vs,r,ob,es,ep,e,c⟩:=x;exact⟨z,y,vs,r,ob,es,ep,k _ _ (.inl rfl) e,c⟩
 |dT kvs=>obtain⟨z,y,xs,r,ob,es,ep,e,c⟩:=x;exact⟨z,y,xs,Paired.Hq r λp q z=>⟨z.1,ht _ _ z.2.1,z.2.2⟩,ob,es,ep,k _ _ (.inl rfl) e,c⟩
 |set S n=>obtain⟨ob,es,ep,t,e,c⟩:=x;exact⟨ob,es,ep,t,k _ _ (.inl rfl) e,c⟩
 |ins C dx fs=>obtain⟨d,z,ne,e,mA,⟨od,es,ep,e2,c⟩,r⟩:=x;exact⟨ho _ d,z,ne,k _ _ (.inl rfl) e,mA,⟨od,es,ep,k _ _ (.inr d) e2,c⟩,r⟩
 |own y=>obtain⟨ob,e⟩:=x;exact⟨ob,k _ _ (.inl rfl) e⟩
 |xd fs=>obtain⟨mA,⟨od,es,ep,e,c⟩,r⟩:=x;exact⟨mA,⟨od,es,ep,k _ _ (.inl rfl) e,c⟩,r⟩
 |rng lo hi=>obtain⟨t,u,v,e⟩:=x;exact⟨t,u,v,k _ _ (.inl rfl) e⟩
 |qZ ob u ih=>obtain⟨e,q⟩:=x;exact⟨k _ _ (.inl rfl) e,ih q⟩
 |tbl ps=>have e:h.get? a=some { cls:=.none,data:=.fields ps }:=x;show h'.get? a=some { cls:=.none,data:=.fields ps };exact k a _ (.inl rfl) e
 |met f y=>have e:h.get? a=some (methodObj (.ref f) (.ref y)):=x;show h'.get? a=some (methodObj (.ref f) (.ref y));exact k a _ (.inl rfl) e
 |ext φ=>obtain⟨p,⟨o,e⟩,st⟩:=x;exact⟨st _ _ p λo q=>k _ _ (.inl rfl) q,⟨o,k _ _ (.inl rfl) e⟩,st⟩
theorem kN.lt(x:kN P w H h)(e:H a=some o):a<h.objs.size:=(x a o e).lt
theorem kN.fresh(x:kN P w H h)(e:h.objs.size<=a):H a=none:=by
 cases q:H a with
 |none=>rfl
 |some u=>exact absurd (WC (x.lt q) e) (Xp _)
theorem kN.kept(x:kN P w H h)(k:∀b u,h.get? b=some u->h'.get? b=some u):kN P w H h':=λa o e=>
 (x a o e).stay (λb u _ q=>k b u q) (λ_ q=>q) λ_ _ q=>q
theorem kN.laid(x:kN P w H h)(k:∀b u,h.get? b=some u->h'.get? b=some u)(hp:h.objs.size<=a)(new:cg P w (upd H a o) h' a o):kN P w (upd H a o) h':=λb u e=>by
 have hn:=x.fresh hp
 by_cases hb:b=a
 ·subst hb;rw[aZ]at e;cases e;exact new
 ·rw[aG hb]at e;exact(x b u e).stay (λc v _ q=>k c v q) (λc q=>by rw[aG (aR q hn)];exact q) λc xs q=>by rw[aG (aR q hn)];exact q
end
def Rd(H:Hp)(a:Addr)(u:HO):Prop:=H a=some u\/∃o,H a=some (.qZ o u)
theorem Rd.ok(r:Rd H a u)(x:kN P w H h):cg P w H h a u:=by
 rcases r with r|⟨o,r⟩
 ·exact x a u r
 ·obtain⟨_,q⟩:=x a _ r;exact q
def LW:Option HO->Prop
 |some (.lst _)=>True
 |some (.dK _)=>True
 |some (.dT _)=>True
 |some (.set _ _)=>True
 |some (.ins _ _ _)=>True
 |some (.ext _)=>True
 |_=>False
section
variable {P:Program} {w:World} {H:Hp} {h h':Heap} {x e:Addr} {o':HO}
theorem kN.write(ok:kN P w H h)(mu:LW (H x))(he:e=x\/H e=some (.own x))(k:∀b u,b≠e->h.get? b=some u->h'.get? b=some u)(LF:∃u,h'.get? e=some u)
  (new:cg P w (upd H x o') h' x o'):kN P w (upd H x o') h':=λb u q=>by
 have nown:∀c y,H c=some (.own y)->c≠x:=λc y r z=>by subst z;rw[r]at mu;exact mu
 have ntup:∀c xs,H c=some (.tup xs)->c≠x:=λc xs r z=>by subst z;rw[r]at mu;exact mu
 by_cases hb:b=x
 ·subst hb;rw[aZ]at q;cases q;exact new
 ·rw[aG hb]at q
  by_cases Hr:b=e
  ·have q':H b=some (.own x):=by
    rcases he with z|z
    ·exact absurd (Hr.trans z) hb
    ·rw[Hr];exact z
   rw[q]at q';cases q';obtain⟨v,hv⟩:=LF;exact⟨v,by rw[Hr];exact hv⟩
  ·refine(ok b u q).stay (λc v hc r=>k c v ?_ r) (λc r=>by rw[aG (nown c b r)];exact r) λc xs r=>by rw[aG (ntup c xs r)];exact r
   rcases hc with rfl|hc
   ·exact Hr
   ·rintro rfl
    rcases he with z|z
    ·exact nown c b hc z
    ·rw[hc]at z;cases z;exact hb rfl
end
structure Un (fs ex:List Addr) (H H':Hp) (h h':Heap):Prop where
 keep:∀b o,h.get? b=some o->H b=none->b∉fs->b∉ex->h'.get? b=some o
 slot:∀b o,h.get? b=some o->H b=none->b∈fs->b∉ex->∃sl,h'.get? b=some { o with slots:=sl }
 free:∀b o,h.get? b=some o->H b=none->b∉ex->H' b=none
 there:∀b o,h.get? b=some o->b∉ex->∃o',h'.get? b=some o'
 tups:∀b xs,H b=some (.tup xs)->H' b=some (.tup xs)
 frzs:∀b o u,H b=some (.qZ o u)->H' b=some (.qZ o u)
 rj:∀b ps,H b=some (.tbl ps)->∃more,H' b=some (.tbl (ps++more))
section
variable {fs fs' ex ex':List Addr} {H H1 H2:Hp} {h h1 h2 h':Heap} {a x e:Addr} {o:HO}
theorem Un.any(u:Un fs ex H H1 h h1)(q:h.get? b=some ob)(n:H b=none)(hx:b∉ex):∃sl,h1.get? b=some { ob with slots:=sl }:=by
 by_cases hb:b∈fs
 ·exact u.slot b ob q n hb hx
 ·exact⟨ob.slots,u.keep b ob q n hb hx⟩
theorem Un.kept(k:∀b u,h.get? b=some u->h'.get? b=some u):Un fs ex H H h h' :=
 ⟨λb ob q _ _ _=>k b ob q,λb ob q _ _ _=>⟨ob.slots,k b ob q⟩,λ_ _ _ n _=>n,λb ob q _=>⟨ob,k b ob q⟩,λ_ _ q=>q,λ_ _ _ q=>q,λ_ ps q=>⟨#[],by rw[q];simp⟩⟩
theorem Un.refl:Un fs ex H H h h:=Un.kept λ_ _ q=>q
theorem Un.laid(k:∀b u,h.get? b=some u->h'.get? b=some u)(hp:h.objs.size<=a)(hn:H a=none):Un fs ex H (upd H a o) h h' where
 keep:=λb u q _ _ _=>k b u q
 slot:=λb u q _ _ _=>⟨u.slots,k b u q⟩
 free:=λb u q n _=>by rw[aG (WJ (WC (WB q) hp))];exact n
 there:=λb u q _=>⟨u,k b u q⟩
 tups:=λb xs q=>by rw[aG (aR q hn)];exact q
 frzs:=λb u xs q=>by rw[aG (aR q hn)];exact q
 rj:=λb ps q=>⟨#[],by rw[aG (aR q hn),q];simp⟩
theorem Un.write(mu:LW (H x))(he:e=x\/H e=some (.own x))(k:∀b u,b≠e->h.get? b=some u->h'.get? b=some u)(LF:∃u,h'.get? e=some u):Un fs ex H (upd H x o) h h':=by
 have hx:∀b,H b=none->b≠x:=λb n z=>by subst z;rw[n]at mu;exact mu
 have hb:∀b,H b=none->b≠e:=λb n z=>by
  subst z
  rcases he with r|r
  ·exact hx b n r
  ·rw[n]at r;cases r
 have hm:∀b u,H b=some u->¬ LW (some u)->b≠x:=λb u q nm z=>by subst z;rw[q]at mu;exact nm mu
 refine⟨λb u q n _ _=>k b u (hb b n) q,λb u q n _ _=>⟨u.slots,k b u (hb b n) q⟩,λb u q n _=>by rw[aG (hx b n)];exact n,λb u q _=>?_,
  λb xs q=>by rw[aG (hm b _ q λz=>z)];exact q,λb u xs q=>by rw[aG (hm b _ q λz=>z)];exact q,λb ps q=>⟨#[],by rw[aG (hm b _ q λz=>z),q];simp⟩⟩
 by_cases Hr:b=e
 ·subst Hr;exact LF
 ·exact⟨u,k b u Hr q⟩
end
def Pn(h:Heap)(H:Hp):List Addr:=(List.range h.objs.size).filter λa=>(H a).isSome
def rm(h:Heap)(H:Hp):Heap:=PySem.W.hideAll h (Pn h H)
theorem yP(h:Heap)(H:Hp):(rm h H).objs.size=h.objs.size:=PySem.W.hideAll_size _ _
theorem Ai(e:h.get? b=some o)(n:H b=none):(rm h H).get? b=some o :=
 PySem.W.hideAll_get _ e λhm=>by
  have q:(H b).isSome=true:=(List.mem_filter.mp hm).2;rw[n]at q;simp at q
theorem Dr(e:(rm h H).get? b=some o):h.get? b=some o/\H b=none:=by
 have e':h.get? b=some o:=PySem.W.of_hideAll (Pn h H) e;refine⟨e',?_⟩;cases q:H b with
 |none=>rfl
 |some x=>have hm:b∈Pn h H:=List.mem_filter.mpr ⟨Y0.mpr (WB e'),by simp[q]⟩;have z:(rm h H).get? b=none:=PySem.W.hideAll_none (Pn h H) hm;rw[z]at e;cases e
def Ds(g h:Heap)(L:Addr):List (Addr×Obj):=(List.range h.objs.size).filterMap λa=>if a=L\/(g.get? a).isSome=true then none else (h.get? a).map λo=>(a,o)
def rest(g h:Heap)(L d:Addr):List (Addr×Obj):=(Ds g h L).filter λp=>decide (p.1≠d)
structure Mod (K:Frag) (mg:Str->Option Value) (base:Heap):Prop where
 Po:K.In base
 glob:base.Ns mainGlobals mg
 blt:∃mb,base.Ns builtinsNs mb/\∀x:Str,x ≠ "__name__" -> mb x=bootBuiltins x
 nolimit:base.NoLimit
structure Cx where
 prog:Program
 w:World
 K:Frag
 mg:Str->Option Value
 base:Heap
 A:Around
 N:List Str
 s₀:Shared
 H₀:Hp
 env:Env
 outer:List Env
 stack:List Env
 ex:List Addr
 fn:Str->Bool
 calm:Bool
 pn:List (Addr×Obj)
 xe:Value->Shared->Prop
def frs(l:List Env):List Addr:=l.filterMap (·.frame)
abbrev Cx.fs(X:Cx):List Addr:=frs X.outer
def LX(sc:Scope)(x:Str):Prop:=sc.names.lookup x=some .local\/sc.names.lookup x=some .cell\/sc.names.lookup x=some .free
def Loc(sc:Scope)(x:Str):Prop:=sc.names.lookup x=some .local\/sc.names.lookup x=some .cell
def Look(env:Env)(h:Heap)(m:Str->Option Value)(x:Str)(u:Value):Prop :=
 (env.kindOf x=some .local/\m x=some u)\/((env.kindOf x=some .cell\/env.kindOf x=some .free)/\∃c,env.cells.lookup x=some c/\h.IsCell c (some u))
structure Cx.Ok (X:Cx):Prop where
 mod:Mod X.K X.mg X.base
 kind:X.env.scope.kind=.function
 glob:X.env.globals=mainGlobals
 blt:X.env.builtins=builtinsNs
 above:X.s₀.heap.objs.size<=X.env.locals
 inj:∀x y c,X.env.cells.lookup x=some c->X.env.cells.lookup y=some c->x=y
 has:∀x,(X.env.kindOf x=some .cell\/X.env.kindOf x=some .free)->∃c,X.env.cells.lookup x=some c
 LY:∀x c,X.fn x=true->X.env.cells.lookup x=some c->X.s₀.heap.objs.size<=c
 hd:X.calm=true->X.A.handled=none
 frames:X.A.frames=some X.stack
 stk:X.stack=X.outer\/(X.stack=X.env::X.outer/\X.env.frame=some X.env.locals)
 P8:∀b∈X.ex,b≠X.env.locals/\∀x c,X.env.cells.lookup x=some c->c≠b
 bs:∀b o,X.base.get? b=some o->X.s₀.heap.get? b=some o/\X.H₀ b=none
 Gi:X.base.objs.size<=X.s₀.heap.objs.size
 nj:∀b o,X.base.get? b=some o->b∉X.ex
 Aj:∀b∈X.ex,b∉X.fs
 nk:X.s₀.heap.FunFrames X.base X.outer
 Ht:∀b∈X.fs,X.H₀ b=none
structure Inv (X:Cx) (pins:List (Addr×Obj)) (σ:List (Option V)) (H:Hp) (s:Shared):Prop where
 ok:X.Ok
 os:s.os=X.s₀.os
 bare:AllBare s.gens
 base:Un X.fs X.ex X.H₀ H X.s₀.heap s.heap
 loc:∃m,s.heap.Ns X.env.locals m/\∀(i:Nat) (x:Str) (v:V),X.N[i]?=some x -> σ[i]?=some (some v)->LX X.env.scope x->∃u,RelV v u/\Look X.env s.heap m x u
 cell:∀x c,X.env.cells.lookup x=some c->∃v,s.heap.IsCell c v
 free:H X.env.locals=none
 iU:∀x c,X.env.cells.lookup x=some c->H c=none
 pin:∀p∈X.pn++pins,s.heap.get? p.1=some p.2/\H p.1=none/\p.1≠X.env.locals/\p.1∉X.fs/\∀v,p.2.data≠.cell v
 hok:kN X.prog X.w H s.heap
 len:σ.length=X.N.length
section
variable {X:Cx} {pins:List (Addr×Obj)} {σ:List (Option V)} {H H':Hp} {s:Shared} {h':Heap}
theorem Cx.Ok.P9(ok:X.Ok)(e:X.base.get? b=some o):b∉X.fs:=λhb=>by
 have:=(ok.nk.mem hb).1;rw[e]at this;cases this
theorem Inv.bs(I:Inv X pins σ H s):∀b o,X.base.get? b=some o->s.heap.get? b=some o/\H b=none:=λb o e=>
 ⟨I.base.keep b o (I.ok.bs b o e).1 (I.ok.bs b o e).2 (I.ok.P9 e) (I.ok.nj b o e),I.base.free b o (I.ok.bs b o e).1 (I.ok.bs b o e).2 (I.ok.nj b o e)⟩
theorem Inv.bk(I:Inv X pins σ H s):∀b o,X.base.get? b=some o->s.heap.get? b=some o:=λb o e=>(I.bs b o e).1
theorem Inv.mod(I:Inv X pins σ H s):Mod X.K X.mg X.base:=I.ok.mod
theorem Inv.rq(I:Inv X pins σ H s):X.K.In s.heap:=I.ok.mod.Po.keeps I.bk
theorem Inv.lt(I:Inv X pins σ H s):X.env.locals<s.heap.objs.size:=let ⟨_,hn,_⟩:=I.loc;hn.lt
theorem Inv.sz(I:Inv X pins σ H s):X.s₀.heap.objs.size<=s.heap.objs.size:=WZ I.ok.above (XS I.lt)
theorem Inv.Qa(I:Inv X pins σ H s)(h:s.heap.objs.size<=a):a∉X.fs:=λhb=>by
 obtain⟨_,o,ho,_⟩:=I.ok.nk.mem hb;exact absurd (WC (WB ho) (WZ I.sz h)) (Xp _)
theorem Inv.cne(I:Inv X pins σ H s):∀x c,X.env.cells.lookup x=some c->c≠X.env.locals:=λx c e z=>by
 obtain⟨v,o,ho,hd⟩:=I.cell x c e;obtain⟨m,⟨o',es,ep,ho',hd',_⟩,_⟩:=I.loc;rw[z,ho']at ho;cases ho;rw[hd']at hd;cases hd
theorem Inv.nk(I:Inv X pins σ H s):s.heap.FunFrames X.base X.outer:=by
 have all:∀(l:List Env),(∀b∈frs l,b∈X.fs)->X.s₀.heap.FunFrames X.base l->s.heap.FunFrames X.base l:=by
  intro l
  induction l with
  |nil=>intro _ _;trivial
  |cons env r ih=>intro hs hl;obtain⟨hk,⟨L,o,hf,hn,ho,hd⟩,hr⟩:=hl;have hL:L∈X.fs:=hs L (by unfold frs;rw[YH,hf];exact Wx);obtain⟨sl,e⟩:=I.base.slot L o ho (I.ok.Ht L hL) hL λz=>I.ok.Aj L z hL;exact⟨hk,⟨L,_,hf,hn,e,hd⟩,ih (λb hb=>hs b (by unfold frs;rw[YH,hf];exact Ww _ hb)) hr⟩
 exact all X.outer (λ_ hb=>hb) I.ok.nk
theorem Inv.stack(I:Inv X pins σ H s):s.heap.FunFrames X.base X.stack:=by
 rcases I.ok.stk with e|⟨e,hf⟩
 ·rw[e];exact I.nk
 ·rw[e];obtain⟨m,hn,_⟩:=I.loc;refine .cons (by rw[I.ok.kind];decide) hf hn ?_ I.nk;exact Heap.get?_none_of_le (WZ I.ok.Gi I.ok.above)
theorem Inv.vv(I:Inv X pins σ H s):∀b∈frs X.stack,b∈X.env.locals::X.fs:=λb hb=>by
 rcases I.ok.stk with e|⟨e,hf⟩
 ·rw[e]at hb;exact Ww _ hb
 ·rw[e]at hb;unfold frs at hb;rw[YH,hf]at hb;exact hb
theorem Inv.xq(I:Inv X pins σ H s):∀b∈frs X.stack,H b=none:=λb hb=>by
 rcases WH.mp (I.vv b hb) with e|hb
 ·rw[e];exact I.free
 ·obtain⟨_,o,ho,_⟩:=I.ok.nk.mem hb;exact I.base.free b o ho (I.ok.Ht b hb) λz=>I.ok.Aj b z hb
theorem Inv.step{g':Array GenState}{t':Nat}{d':Drawn}{ch:List Addr}(I:Inv X pins σ H s)
  (hch:∀b∈ch,(b∈X.ex\/X.s₀.heap.objs.size<=b)/\b≠X.env.locals/\(∀x c,X.env.cells.lookup x=some c->c≠b)/\∀p∈X.pn++pins,p.1≠b)
  (keep:∀b o,b≠X.env.locals->b∉X.fs->b∉ch->s.heap.get? b=some o->H b=none->h'.get? b=some o)
  (slot:∀b o,b≠X.env.locals->b∈X.fs->b∉ch->s.heap.get? b=some o->H b=none->∃sl,h'.get? b=some { o with slots:=sl }) (free:∀b o,b∉ch->s.heap.get? b=some o->H b=none->H' b=none)
  (there:∀b o,b∉ch->s.heap.get? b=some o->∃o',h'.get? b=some o')
  (tups:∀b xs,H b=some (.tup xs)->H' b=some (.tup xs)) (frzs:∀b o u,H b=some (.qZ o u)->H' b=some (.qZ o u)) (rj:∀b ps,H b=some (.tbl ps)->∃more,H' b=some (.tbl (ps++more)))
  (ns:∀m,s.heap.Ns X.env.locals m->h'.Ns X.env.locals m) (hok:kN X.prog X.w H' h') (hg:AllBare g') :
  Inv X pins σ H' { s with heap:=h',gens:=g',drawn:=d',toks:=t' }:=by
 have neL:∀b o,X.s₀.heap.get? b=some o->b≠X.env.locals:=λb o e=>WJ (WC (WB e) I.ok.above);have neC:∀b o,X.s₀.heap.get? b=some o->b∉X.ex->b∉ch:=λb o e hx hb=>by
  rcases(hch b hb).1 with z|z
  ·exact hx z
  ·exact absurd (WC (WB e) z) (Xp _)
 have cellK:∀x c,X.env.cells.lookup x=some c->∀v,s.heap.IsCell c v->h'.IsCell c v:=λx c e v ⟨o,ho,hd⟩=>by
  have LZ:c∉ch:=λz=>(hch c z).2.2.1 x c e rfl
  by_cases hc:c∈X.fs
  ·obtain⟨sl,q⟩:=slot c o (I.cne x c e) hc LZ ho (I.iU x c e);exact⟨_,q,hd⟩
  ·exact⟨o,keep c o (I.cne x c e) hc LZ ho (I.iU x c e),hd⟩
 refine⟨I.ok,I.os,hg,⟨λb o e n hb hx=>?_,λb o e n hb hx=>?_,λb o e n hx=>?_,λb o e hx=>?_,λb xs e=>tups b xs (I.base.tups b xs e),λb o xs e=>frzs b o xs (I.base.frzs b o xs e),λb ps e=>?_⟩,?_,λx c e=>?_,?_,λx c e=>?_,λp hp=>?_,hok,I.len⟩
 ·exact keep b o (neL b o e) hb (neC b o e hx) (I.base.keep b o e n hb hx) (I.base.free b o e n hx)
 ·obtain⟨sl,e1⟩:=I.base.slot b o e n hb hx;obtain⟨TF,e2⟩:=slot b _ (neL b o e) hb (neC b o e hx) e1 (I.base.free b o e n hx);exact⟨TF,e2⟩
 ·obtain⟨o',e1⟩:=I.base.there b o e hx;exact free b o' (neC b o e hx) e1 (I.base.free b o e n hx)
 ·obtain⟨o',e1⟩:=I.base.there b o e hx;exact there b o' (neC b o e hx) e1
 ·obtain⟨m1,e1⟩:=I.base.rj b ps e;obtain⟨m2,e2⟩:=rj b _ e1;exact⟨m1++m2,by rw[e2,Array.append_assoc]⟩
 ·obtain⟨m,hn,hl⟩:=I.loc
  refine⟨m,ns m hn,λi x v e1 e2 e3=>?_⟩;obtain⟨u,r,l⟩:=hl i x v e1 e2 e3;refine⟨u,r,?_⟩
  rcases l with l|⟨k,c,e,z⟩
  ·exact .inl l
  ·exact .inr ⟨k,c,e,cellK x c e _ z⟩
 ·obtain⟨v,z⟩:=I.cell x c e;exact⟨v,cellK x c e v z⟩
 ·obtain⟨m,⟨o,_,_,ho,_⟩,_⟩:=I.loc;exact free _ o (λz=>(hch _ z).2.1 rfl) ho I.free
 ·obtain⟨v,o,ho,hd⟩:=I.cell x c e;exact free c o (λz=>(hch c z).2.2.1 x c e rfl) ho (I.iU x c e)
 ·obtain⟨e,n,ne,nf,d⟩:=I.pin p hp;have LZ:p.1∉ch:=λz=>(hch p.1 z).2.2.2 p hp rfl;exact⟨keep p.1 p.2 ne nf LZ e n,free p.1 p.2 LZ e n,ne,nf,d⟩
theorem Inv.un{t':Nat}(I:Inv X pins σ H s)(u:Un X.fs [] H H' s.heap h')(hok:kN X.prog X.w H' h'):Inv X pins σ H' { s with heap:=h',toks:=t' }:=by
 obtain⟨m,⟨o,es,ep,ho,r⟩,_⟩:=id I.loc;obtain⟨sl,hL⟩:=u.any ho I.free (by simp);exact I.step (g':=s.gens) (d':=s.drawn) (ch:=[]) (λ_ z=>nomatch z) (λb o _ hb _ e n=>u.keep b o e n hb (by simp)) (λb o _ hb _ e n=>u.slot b o e n hb (by simp)) (λb o _ e n=>u.free b o e n (by simp)) (λb o _ e=>u.there b o e (by simp)) u.tups u.frzs u.rj (λm' hm=>by
  obtain⟨o',es',Qc,ho',r'⟩:=hm;rw[ho]at ho';cases ho';exact⟨_,es',Qc,hL,r'⟩) hok I.bare
theorem Inv.call{t':Nat}(I:Inv X pins σ H s)(u:Un (frs X.stack) ch H H' s.heap h')(hok:kN X.prog X.w H' h')(hg:AllBare g')
  (hch:∀b∈ch,(b∈X.ex\/X.s₀.heap.objs.size<=b)/\b≠X.env.locals/\(∀x c,X.env.cells.lookup x=some c->c≠b)/\∀p∈X.pn++pins,p.1≠b) :
  Inv X pins σ H' { s with heap:=h',gens:=g',drawn:=d',toks:=t' }:=by
 obtain⟨m,⟨o,es,ep,ho,r⟩,_⟩:=id I.loc;obtain⟨sl,hL⟩:=u.any ho I.free λz=>(hch _ z).2.1 rfl;exact I.step (ch:=ch) hch (λb o hL hb hc e n=>u.keep b o e n (λz=>(WH.mp (I.vv b z)).elim hL hb) hc) (λb o _ _ hc e n=>u.any e n hc) (λb o hc e n=>u.free b o e n hc) (λb o hc e=>u.there b o e hc) u.tups u.frzs u.rj (λm' hm=>by
  obtain⟨o',es',Qc,ho',r'⟩:=hm;rw[ho]at ho';cases ho';exact⟨_,es',Qc,hL,r'⟩) hok hg
theorem Inv.turned{t':Nat}(I:Inv X pins σ H s)(k:∀b o,b≠it->s.heap.get? b=some o->h'.get? b=some o)(hn:H it=none)(hL:it≠X.env.locals)
  (h1:it∈X.ex\/X.s₀.heap.objs.size<=it) (h2:∀x c,X.env.cells.lookup x=some c->c≠it) (h3:∀p∈X.pn++pins,p.1≠it):Inv X pins σ H { s with heap:=h',toks:=t' }:=by
 have L0:∀b u,H b=some u->b≠it:=λb u e z=>by rw[z,hn]at e;cases e
 refine I.step (g':=s.gens) (d':=s.drawn) (ch:=[it]) (λb hb=>?_) (λb o _ _ hc e _=>k b o (λz=>hc (by simp[z])) e) (λb o _ _ hc e _=>⟨o.slots,k b o (λz=>hc (by simp[z])) e⟩) (λ_ _ _ _ n=>n)
  (λb o hc e=>⟨o,k b o (λz=>hc (by simp[z])) e⟩) (λ_ _ e=>e) (λ_ _ _ e=>e) (λb ps e=>⟨#[],by rw[e];simp⟩) (λm hm=>?_) (λb u e=>?_) I.bare
 ·have e:b=it:=by simpa using hb
  subst e;exact⟨h1,hL,h2,h3⟩
 ·obtain⟨o,es,ep,ho,r⟩:=hm;exact⟨o,es,ep,k _ o (Ne.symm hL) ho,r⟩
 ·refine(I.hok b u e).stay (λc v hc q=>k c v ?_ q) (λ_ q=>q) λ_ _ q=>q
  rcases hc with z|z
  ·rw[z];exact L0 b u e
  ·exact L0 c _ z
theorem Inv.tok(I:Inv X pins σ H s)(t:Nat):Inv X pins σ H { s with toks:=t }:=I.un (h':=s.heap) (t':=t) Un.refl I.hok
theorem Inv.kept{t':Nat}(I:Inv X pins σ H s)(k:∀b u,s.heap.get? b=some u->h'.get? b=some u):Inv X pins σ H { s with heap:=h',toks:=t' }:=I.un (Un.kept k) (I.hok.kept k)
theorem Inv.laid{t':Nat}(I:Inv X pins σ H s)(k:∀b u,s.heap.get? b=some u->h'.get? b=some u)(hp:s.heap.objs.size<=a)(new:cg X.prog X.w (upd H a o) h' a o) :
  Inv X pins σ (upd H a o) { s with heap:=h',toks:=t' }:=I.un (Un.laid k hp (I.hok.fresh hp)) (I.hok.laid k hp new)
theorem Inv.write{t':Nat}(I:Inv X pins σ H s)(mu:LW (H x))(he:e=x\/H e=some (.own x))(k:∀b u,b≠e->s.heap.get? b=some u->h'.get? b=some u)(LF:∃u,h'.get? e=some u)
  (new:cg X.prog X.w (upd H x o) h' x o):Inv X pins σ (upd H x o) { s with heap:=h',toks:=t' }:=I.un (Un.write mu he k LF) (I.hok.write mu he k LF new)
theorem Inv.xr(I:Inv X pins σ H s)(h:∀p∈L1,s.heap.get? p.1=some p.2/\H p.1=none/\p.1≠X.env.locals/\p.1∉X.fs/\∀v,p.2.data≠.cell v):Inv X L1 σ H s :=
 ⟨I.ok,I.os,I.bare,I.base,I.loc,I.cell,I.free,I.iU,λp hp=>(W3.mp hp).elim (λz=>I.pin p (W0 _ z)) (h p),I.hok,I.len⟩
theorem sX{N:List Str}(hN:N.Nodup){i j:Nat}{x:Str}(a:N[i]?=some x)(b:N[j]?=some x):i=j:=by
 obtain⟨h1,e1⟩:=Wo.mp a;obtain⟨h2,e2⟩:=Wo.mp b;exact(List.getElem_inj hN).mp (e1.trans e2.symm)
theorem p9{i:Nat}(I:Inv X pins σ H s)(hN:X.N.Nodup)(hi:X.N[i]?=some x)(hx:Loc X.env.scope x)(r:RelV v u)
  (h:∀s',Inv X pins (σ.set i (some v)) H s'->(∃a,Heap.SameBut a s.heap s'.heap/\(a=X.env.locals\/X.env.cells.lookup x=some a))->Q () s') (hf:X.fn x=true\/X.env.scope.names.lookup x=some .local):wpAny M A (storeName X.env x u) Q E s:=by
 obtain⟨m,hn,hl⟩:=id I.loc;have hcls:(X.env.scope.kind==.class||(X.env.scope.kind==.module&&X.env.locals != X.env.globals))=false:=by rw[I.ok.kind];rfl
 have RH:i < σ.length:=by rw[I.len];exact(Wo.mp hi).1
 have cne:=I.cne;have tracked:∀{a:Addr} {h':Heap},(∃o,s.heap.get? a=some o/\H a=none)->Heap.SameBut a s.heap h'->kN X.prog X.w H h':=λ{a h'} ha hs b ob e=>by
  obtain⟨_,_,hfree⟩:=ha;refine(I.hok b ob e).stay (λc w' hc q=>(hs.2 c ?_).trans q) (λ_ q=>q) λ_ _ q=>q;rintro rfl
  rcases hc with rfl|hc
  ·rw[hfree]at e;cases e
  ·rw[hfree]at hc;cases hc
 rcases hx with hk|hk
 ·refine wpAny_storeName_local hk hn (λh' hn' hs=>?_) hcls
  obtain⟨oL,_,_,TH,_⟩:=id hn;refine h _ ⟨I.ok,I.os,I.bare,⟨λb o e n hb hx=>?_,λb o e n hb hx=>?_,I.base.free,λb o e hx=>?_,I.base.tups,I.base.frzs,I.base.rj⟩,⟨_,hn',λj y v' e1 e2 e3=>?_⟩,λy c e=>?_,I.free,I.iU,λp hp=>?_,tracked ⟨oL,TH,I.free⟩ hs,by simpa using I.len⟩ ⟨_,hs,.inl rfl⟩
  ·exact(hs.2 b (WJ (WC (WB e) I.ok.above))).trans (I.base.keep b o e n hb hx)
  ·obtain⟨sl,e1⟩:=I.base.slot b o e n hb hx;exact⟨sl,(hs.2 b (WJ (WC (WB e) I.ok.above))).trans e1⟩
  ·obtain⟨o',e1⟩:=I.base.there b o e hx;exact⟨o',(hs.2 b (WJ (WC (WB e) I.ok.above))).trans e1⟩
  ·by_cases hj:j=i
   ·subst hj;rw[hi]at e1;cases e1;rw[Wz RH]at e2;cases e2;exact⟨u,r,.inl ⟨hk,by simp⟩⟩
   ·rw[Ws (Ne.symm hj)]at e2
    obtain⟨u',r',q⟩:=hl j y v' e1 e2 e3;refine⟨u',r',?_⟩
    rcases q with ⟨k,e⟩|⟨k,c,e,z⟩
    ·refine .inl ⟨k,?_⟩;have:y≠x:=λe=>hj (sX hN e1 (e▸hi));simp[this,e]
    ·exact .inr ⟨k,c,e,z.sameBut hs (cne y c e)⟩
  ·obtain⟨w',z⟩:=I.cell y c e;exact⟨w',z.sameBut hs (cne y c e)⟩
  ·obtain⟨e,n,ne,nf,d⟩:=I.pin p hp;exact⟨(hs.2 p.1 ne).trans e,n,ne,nf,d⟩
 ·have hfn:X.fn x=true:=by
   rcases hf with z|z
   ·exact z
   ·rw[z]at hk;cases hk
  obtain⟨c,hc⟩:=I.ok.has x (.inl hk);obtain⟨w',z⟩:=I.cell x c hc;refine wpAny_storeName_cell I.ok.kind hk hc z (λh' hc' hs=>?_);obtain⟨oc,hoc,Ak⟩:=id z;refine h { s with heap:=h' } ⟨I.ok,I.os,I.bare,⟨λb o e n hb hx=>?_,λb o e n hb hx=>?_,I.base.free,λb o e hx=>?_,I.base.tups,I.base.frzs,I.base.rj⟩,⟨m,hn.sameBut hs (Ne.symm (cne x c hc)),λj y v' e1 e2 e3=>?_⟩,λy c' e=>?_,I.free,I.iU,λp hp=>?_,tracked ⟨oc,hoc,I.iU x c hc⟩ hs,by simpa using I.len⟩ ⟨c,hs,.inr hc⟩
  ·exact(hs.2 b (WJ (WC (WB e) (I.ok.LY x c hfn hc)))).trans (I.base.keep b o e n hb hx)
  ·obtain⟨sl,e1⟩:=I.base.slot b o e n hb hx;exact⟨sl,(hs.2 b (WJ (WC (WB e) (I.ok.LY x c hfn hc)))).trans e1⟩
  ·obtain⟨o',e1⟩:=I.base.there b o e hx;exact⟨o',(hs.2 b (WJ (WC (WB e) (I.ok.LY x c hfn hc)))).trans e1⟩
  ·by_cases hj:j=i
   ·subst hj;rw[hi]at e1;cases e1;rw[Wz RH]at e2;cases e2;exact⟨u,r,.inr ⟨.inl hk,c,hc,hc'⟩⟩
   ·rw[Ws (Ne.symm hj)]at e2
    obtain⟨u',r',q⟩:=hl j y v' e1 e2 e3;refine⟨u',r',?_⟩
    rcases q with q|⟨k,c',e,z'⟩
    ·exact .inl q
    ·refine .inr ⟨k,c',e,z'.sameBut hs ?_⟩;rintro rfl;exact hj (sX hN e1 (I.ok.inj _ _ _ e hc▸hi))
  ·by_cases hcc:c'=c
   ·subst hcc;exact⟨_,hc'⟩
   ·obtain⟨w2,z2⟩:=I.cell y c' e;exact⟨w2,z2.sameBut hs hcc⟩
  ·obtain⟨e,n,ne,nf,d⟩:=I.pin p hp;refine⟨(hs.2 p.1 ?_).trans e,n,ne,nf,d⟩;intro q;rw[q,hoc]at e;have q':oc=p.2:=WR e;exact d w' (by rw[<-q'];exact Ak)
theorem sY{i:Nat}(I:Inv X pins σ H s)(hN:X.N.Nodup)(hi:X.N[i]?=some x)(hx:Loc X.env.scope x)(r:RelV v u)
  (h:∀s',Inv X pins (σ.set i (some v)) H s'->Q () s') (hf:X.fn x=true\/X.env.scope.names.lookup x=some .local):wpAny M A (storeName X.env x u) Q E s :=
 p9 I hN hi hx r (λs' I' _=>h s' I') hf
theorem Inv.L3(I:Inv X pins σ H s)(ho:s'.os=s.os)(u:Un (frs X.stack) ch H H' s.heap s'.heap)(hok:kN X.prog X.w H' s'.heap)(hg:AllBare s'.gens)
  (hch:∀b∈ch,(b∈X.ex\/X.s₀.heap.objs.size<=b)/\b≠X.env.locals/\(∀x c,X.env.cells.lookup x=some c->c≠b)/\∀p∈X.pn++pins,p.1≠b):Inv X pins σ H' s':=by
 obtain⟨h',g',d',t',o'⟩:=s';have e:o'=s.os:=ho;subst e;exact I.call (g':=g') (t':=t') (d':=d') u hok hg hch
end
abbrev XK:=Value->Option Addr->Hp->Prop
abbrev St:=List (Option V)
abbrev VK:=V->Hp->Prop
abbrev TE:=St->Hp->VK->Prop
abbrev TT:=St->Hp->(Bool->Hp->Prop)->Prop
abbrev TA:=St->Hp->(List V->Hp->Prop)->Prop
structure Ends where
 nx:St->Hp->Prop
 rt:VK
 bk:St->Hp->Prop:=λ_ _=>False
 ct:St->Hp->Prop:=λ_ _=>False
abbrev TS:=Ends->St->Hp->Prop
def EP(X:Cx)(pins:List (Addr×Obj))(σ:St)(Q:VK)(u:Value)(s':Shared):Prop:=∃v H',Inv X pins σ H' s'/\RelV v u/\Q v H'
def TP(X:Cx)(pins:List (Addr×Obj))(σ:St)(Q:Bool->Hp->Prop)(b:Bool)(s':Shared):Prop:=∃H',Inv X pins σ H' s'/\Q b H'
def AP(X:Cx)(pins:List (Addr×Obj))(σ:St)(Q:List V->Hp->Prop)(us:List Value)(s':Shared):Prop:=∃vs H',Inv X pins σ H' s'/\Vals vs us/\Q vs H'
def SP(X:Cx)(pins:List (Addr×Obj))(D:Ends)(f:Flow)(s':Shared):Prop :=
 match f with
 |.next=>∃σ' H',Inv X pins σ' H' s'/\D.nx σ' H'
 |.brk=>∃σ' H',Inv X pins σ' H' s'/\D.bk σ' H'
 |.cont=>∃σ' H',Inv X pins σ' H' s'/\D.ct σ' H'
 |.ret u=>∃v σ' H',Inv X pins σ' H' s'/\RelV v u/\D.rt v H'
def PE(X:Cx)(e:Expr)(t:TE):Prop :=
 ∀(pins:List (Addr×Obj)) (s:Shared) (σ:St) (H:Hp) (Q:VK),Inv X pins σ H s->t σ H Q->wpAny (model X.prog X.w) X.A (eval e X.env) (EP X pins σ Q) X.xe s
def PT(X:Cx)(e:Expr)(t:TT):Prop :=
 ∀(pins:List (Addr×Obj)) (s:Shared) (σ:St) (H:Hp) (Q:Bool->Hp->Prop),Inv X pins σ H s->t σ H Q->wpAny (model X.prog X.w) X.A (isTrue e X.env (eval e X.env)) (TP X pins σ Q) X.xe s
def PW(X:Cx)(e:Expr)(t:TT):Prop :=
 ∀(whole:Sem Value) (pins:List (Addr×Obj)) (s:Shared) (σ:St) (H:Hp) (Q:Bool->Hp->Prop),Inv X pins σ H s->t σ H Q->wpAny (model X.prog X.w) X.A (isTrue e X.env whole) (TP X pins σ Q) X.xe s
theorem PW.pt(h:PW X e t):PT X e t:=h _
def PA(X:Cx)(es:List Expr)(t:TA):Prop :=
 ∀(pos:Pos) (pins:List (Addr×Obj)) (s:Shared) (σ:St) (H:Hp) (Q:List V->Hp->Prop),Inv X pins σ H s->t σ H Q->wpAny (model X.prog X.w) X.A (spliced (backTo pos (starEach es X.env))) (AP X pins σ Q) X.xe s
def PS(X:Cx)(st:Stmt)(t:TS):Prop :=
 ∀(pins:List (Addr×Obj)) (s:Shared) (σ:St) (H:Hp) (D:Ends),Inv X pins σ H s->t D σ H->wpAny (model X.prog X.w) X.A (exec st X.env) (SP X pins D) X.xe s
def vz(X:Cx)(st:List Stmt)(t:TS):Prop :=
 ∀(pins:List (Addr×Obj)) (s:Shared) (σ:St) (H:Hp) (D:Ends),Inv X pins σ H s->t D σ H->wpAny (model X.prog X.w) X.A (execs st X.env) (SP X pins D) X.xe s
theorem cH{α:Type}{t:Sem α}{Q Q':α -> Shared->Prop}(h:wpAny M A t Q E s)(hQ:∀a s,Q a s->Q' a s):wpAny M A t Q' E s:=Xu h hQ λ_ _ x=>x
section
variable {X:Cx}
theorem bin{a b:Expr}{ta tb:TE}(ha:PE X a ta)(hb:PE X b tb){pins:List (Addr×Obj)}{s:Shared}{σ:St}{H:Hp}{R:V->V->Hp->Prop}(I:Inv X pins σ H s)(h:ta σ H λx H1=>tb σ H1 λy H2=>R x y H2)
  {α:Type} {Q:α -> Shared->Prop} {f:Value->Value->Sem α}
  (hf:∀v u s2 x y H2,Inv X pins σ H2 s2->RelV x v->RelV y u->R x y H2->wpAny (model X.prog X.w) X.A (f v u) Q X.xe s2) :
  wpAny (model X.prog X.w) X.A (eval a X.env) (λv s₁=>wpAny (model X.prog X.w) X.A (eval b X.env) (λu s₂=>wpAny (model X.prog X.w) X.A (f v u) Q X.xe s₂) X.xe s₁) X.xe s:=by
 refine cH (ha pins s σ H _ I h) λv s1 aL=>?_;obtain⟨x,H1,I1,r1,q1⟩:=aL;refine cH (hb pins s1 σ H1 _ I1 q1) λu s2 aL=>?_;obtain⟨y,H2,I2,r2,q2⟩:=aL;exact hf v u s2 x y H2 I2 r1 r2 q2
def L4(i:Nat):TE:=λσ H Q=>∃v,σ[i]?=some (some v)/\Q v H
def tC(v:V):TE:=λ_ H Q=>Q v H
theorem Am{i:Nat}(hN:X.N[i]?=some x)(hv:LX X.env.scope x)(hd:(x==("__debug__":Str))=false)(hcd:(x==("__classdict__":Str))=false):PE X (.Name x pos) (L4 i):=by
 intro pins s σ H Q I h;obtain⟨v,e,h⟩:=h;obtain⟨m,hn,hl⟩:=I.loc;obtain⟨u,r,l⟩:=hl i x v hN e hv;have fin:EP X pins σ Q u s:=⟨v,H,I,r,h⟩
 rcases l with ⟨hk,hm⟩|⟨hk,c,hc,hcell⟩
 ·exact wpAny_Name (wpAny_loadName_local I.ok.kind hk hn hm fin) hd
 ·rcases hk with hk|hk
  ·exact wpAny_Name (wpAny_loadName_cell I.ok.kind hk hc hcell fin) hd
  ·exact wpAny_Name (wpAny_loadName_free I.ok.kind hk hc hcell fin hcd) hd
theorem Hu{i j pos}:PE X (.Constant (.int i) j pos) (tC (.int i)):=λ_ _ _ H _ I h=>wpAny_Constant_int ⟨.int i,H,I.tok _,⟨_,rfl⟩,h⟩
theorem L5{b j pos}:PE X (.Constant (.bool b) j pos) (tC (.bl b)):=λ_ _ _ H _ I h=>Constant_bool ⟨.bl b,H,I,rfl,h⟩
theorem Hw{j pos}:PE X (.Constant .none j pos) (tC .non):=λ_ _ _ H _ I h=>Constant_none ⟨.non,H,I,rfl,h⟩
theorem Hx{x j pos}:PE X (.Constant (.str x) j pos) (tC (.str x)):=λ_ _ _ H _ I h=>Calls.Constant_str ⟨.str x,H,I.tok _,⟨_,rfl⟩,h⟩
def Gl(X:Cx)(x:Str):Prop:=X.env.kindOf x=some .globalImplicit
theorem kO(I:Inv X pins σ H s)(hg:Gl X x)(hm:X.mg x=some u)(h:Q u s)
  (hd:(x==("__debug__":Str))=false):wpAny (model X.prog X.w) X.A (eval (.Name x pos) X.env) Q E s :=
 Calls.Name_function_global I.ok.kind hg (Calls.loadGlobal_global (by rw[I.ok.glob];exact I.mod.glob.keeps I.bk) hm h) hd
theorem gQ(I:Inv X pins σ H s)(hg:Gl X x)(hm:X.mg x=none)(hv:bootBuiltins x=some u)(h:Q u s)
  (hn:x ≠ "__name__":=by decide) (hd:(x==("__debug__":Str))=false:=by decide):wpAny (model X.prog X.w) X.A (eval (.Name x pos) X.env) Q E s:=by
 obtain⟨mb,h1,h2⟩:=I.mod.blt;exact Calls.Name_function_global I.ok.kind hg (Calls.loadGlobal_builtin (by rw[I.ok.glob];exact I.mod.glob.keeps I.bk) hm (by rw[I.ok.blt];exact h1.keeps I.bk) ((h2 x hn).trans hv) h) hd
theorem Dt(hg:Gl X x)(hm:X.mg x=some u)(r:RelV v u)(hd:(x==("__debug__":Str))=false):PE X (.Name x pos) (tC v) :=
 λ_ _ _ H _ I h=>kO I hg hm ⟨v,H,I,r,h⟩ hd
theorem Du(hg:Gl X x)(hm:X.mg x=none)(hv:bootBuiltins x=some u)(r:RelV v u)(hn:x ≠ "__name__")(hd:(x==("__debug__":Str))=false):PE X (.Name x pos) (tC v) :=
 λ_ _ _ H _ I h=>gQ I hg hm hv ⟨v,H,I,r,h⟩ hn hd
variable {a b:Expr} {ta tb:TE} {pos:Pos}
variable {tA Pp:TT} {rest:List Expr}
def Qd(t u:TT):TT:=λσ H Q=>t σ H λc H1=>if c=true then u σ H1 Q else Q false H1
def TJ(t u:TT):TT:=λσ H Q=>t σ H λc H1=>if c=true then Q true H1 else u σ H1 Q
def Qe(t:TT):TT:=λσ H Q=>t σ H λc H1=>Q (!c) H1
theorem Dv(ha:PT X a tA):PW X (.BoolOp .And [a] pos) tA:=by
 intro wh pins s σ H Q I h;refine isTrue_and (cH (ha pins s σ H Q I h) λc s1 e=>?_);cases c with
 |true=>exact isTrue_and_nil e
 |false=>exact e
theorem Hy(ha:PT X a tA):PW X (.BoolOp .Or [a] pos) tA:=by
 intro wh pins s σ H Q I h;refine isTrue_or (cH (ha pins s σ H Q I h) λc s1 e=>?_);cases c with
 |false=>exact isTrue_or_nil e
 |true=>exact e
theorem Hz(ha:PT X a tA)(hb:PW X (.BoolOp .And (b::rest) pos) Pp):PW X (.BoolOp .And (a::b::rest) pos) (Qd tA Pp):=by
 intro wh pins s σ H Q I h;refine isTrue_and (cH (ha pins s σ H _ I h) λc s1 aL=>?_);obtain⟨H1,I1,q1⟩:=aL;cases c with
 |true=>exact hb wh pins s1 σ H1 Q I1 q1
 |false=>exact⟨H1,I1,q1⟩
theorem L6(ha:PT X a tA)(hb:PW X (.BoolOp .Or (b::rest) pos) Pp):PW X (.BoolOp .Or (a::b::rest) pos) (TJ tA Pp):=by
 intro wh pins s σ H Q I h;refine isTrue_or (cH (ha pins s σ H _ I h) λc s1 aL=>?_);obtain⟨H1,I1,q1⟩:=aL;cases c with
 |true=>exact⟨H1,I1,q1⟩
 |false=>exact hb wh pins s1 σ H1 Q I1 q1
theorem HD(ha:PT X a tA):PT X (.UnaryOp .Not a pos) (Qe tA):=by
 intro pins s σ H Q I h;exact isTrue_not (ha pins s σ H (λc H1=>Q (!c) H1) I h)
def L7(ta tb:TE):TE:=λσ H Q=>ta σ H λx H1=>∃c,x=.bl c/\if c=true then tb σ H1 Q else Q (.bl false) H1
def Qf(ta tb:TE):TE:=λσ H Q=>ta σ H λx H1=>∃c,x=.bl c/\if c=true then Q (.bl true) H1 else tb σ H1 Q
def L8(ta:TE):TE:=λσ H Q=>ta σ H λx H1=>∃c,x=.bl c/\Q (.bl (!c)) H1
theorem An{op}(h:PE X a t):PE X (.BoolOp op [a] pos) t:=λpins s σ H Q I hw=>BoolOp_one (h pins s σ H Q I hw)
theorem HE(ha:PE X a ta)(hb:PE X (.BoolOp .And (b::rest) pos) tb):PE X (.BoolOp .And (a::b::rest) pos) (L7 ta tb):=by
 intro pins s σ H Q I h;refine BoolOp_and (cH (ha pins s σ H _ I h) λv s1 aL=>?_);obtain⟨x,H1,I1,r1,q1⟩:=aL;obtain⟨c,rfl,q1⟩:=q1;cases r1;refine X4 ?_;cases c with
 |true=>exact hb pins s1 σ H1 Q I1 q1
 |false=>exact⟨.bl false,H1,I1,rfl,q1⟩
theorem Ma(ha:PE X a ta)(hb:PE X (.BoolOp .Or (b::rest) pos) tb):PE X (.BoolOp .Or (a::b::rest) pos) (Qf ta tb):=by
 intro pins s σ H Q I h;refine BoolOp_or (cH (ha pins s σ H _ I h) λv s1 aL=>?_);obtain⟨x,H1,I1,r1,q1⟩:=aL;obtain⟨c,rfl,q1⟩:=q1;cases r1;refine X4 ?_;cases c with
 |false=>exact hb pins s1 σ H1 Q I1 q1
 |true=>exact⟨.bl true,H1,I1,rfl,q1⟩
theorem HF(ha:PE X a ta):PE X (.UnaryOp .Not a pos) (L8 ta):=by
 intro pins s σ H Q I h;refine UnaryOp_ (cH (ha pins s σ H _ I h) λv s1 aL=>?_);obtain⟨x,H1,I1,r1,q1⟩:=aL;obtain⟨c,rfl,q1⟩:=q1;cases r1;exact not_of (X4 ⟨.bl (!c),H1,I1,rfl,q1⟩)
end
def gR(K:Frag)(H:Hp)(a:Addr)(xs:List V):Prop :=
 Rd H a (.lst xs) \/
  ∃(o:Obj) (its:Array Value) (n:Nat),K.lookup a=some o/\o.cls=.type "list" /\ o.dict=none/\o.data=.seq its n/\its.size<=sizeLine/\Vals xs its.toList
def iV(K:Frag)(H:Hp)(a:Addr)(xs:List V):Prop :=
 Rd H a (.tup xs) \/
  ∃(o:Obj) (its:Array Value) (n:Nat),K.lookup a=some o/\o.cls=.type "tuple" /\ o.data=.seq its n/\its.size<=sizeLine/\Vals xs its.toList
def Qg:Value->Option V
 |.none=>some .non
 |.bool b=>some (.bl b)
 |.int i _=>some (.int i)
 |.str x _=>some (.str x)
 |.bytes b _=>some (.byt b)
 |.float b _=>some (.flt b)
 |.ref a=>some (.ref a)
 |.type n=>some (.ty n)
 |_=>none
theorem RelV.abs(r:RelV x u):Qg u=some x:=by
 cases x with
 |non=>cases r;rfl
 |bl _=>cases r;rfl
 |int _=>obtain⟨t,rfl⟩:=r;rfl
 |str _=>obtain⟨t,rfl⟩:=r;rfl
 |byt _=>obtain⟨t,rfl⟩:=r;rfl
 |flt _=>obtain⟨t,rfl⟩:=r;rfl
 |ref _=>cases r;rfl
 |ty _=>cases r;rfl
theorem RelV.inj(r:RelV x u)(q:RelV y u):x=y:=WR (r.abs.symm.trans q.abs)
theorem Vals.inj:∀{xs ys:List V} {us:List Value},Vals xs us->Vals ys us->xs=ys
 |_,_,_,.nil,.nil=>rfl
 |_,_,_,.cons r t,.cons r' t'=>by rw[r.inj r',Vals.inj t t']
section
variable {X:Cx} {pins:List (Addr×Obj)} {σ:St} {H:Hp} {s:Shared} {a:Addr} {xs ys:List V}
theorem iV.of{K:Frag}(h:H a=some (.tup xs)):iV K H a xs:=.inl (.inl h)
theorem Inv.list(I:Inv X pins σ H s)(h:gR X.K H a xs):∃its:List Value,Vals xs its/\PlainL s.heap a its.toArray/\xs.length<=sizeLine:=by
 rcases h with h|⟨o,its,n,hk,hc,hd,hs,hz,r⟩
 ·obtain⟨z,its,n,r,e⟩:=h.ok I.hok;exact⟨its,r,⟨_,n,e,rfl,rfl,rfl⟩,z⟩
 ·refine⟨its.toList,r,⟨o,n,I.rq a o hk,hc,hd,by simpa using hs⟩,?_⟩;have e:=r.length;simp only[Array.length_toList]at e;omega
theorem Inv.tuple(I:Inv X pins σ H s)(h:iV X.K H a xs):∃its:List Value,Vals xs its/\IsTup s.heap a its.toArray/\xs.length<=sizeLine:=by
 rcases h with h|⟨o,its,n,hk,hc,hs,hz,r⟩
 ·obtain⟨z,its,r,p⟩:=h.ok I.hok;exact⟨its,r,p,z⟩
 ·refine⟨its.toList,r,⟨o,I.rq a o hk,hc,n,by simpa using hs⟩,?_⟩;have e:=r.length;simp only[Array.length_toList]at e;omega
theorem Inv.sZ(I:Inv X pins σ H s)(h:gR X.K H a xs)(h':gR X.K H a ys):xs=ys:=by
 obtain⟨its,r,⟨o,n,e,_,_,d⟩,_⟩:=I.list h;obtain⟨its',r',⟨o',n',e',_,_,d'⟩,_⟩:=I.list h';rw[e]at e';cases e';rw[d]at d';injection d' with d1 _
 have:its=its':=by simpa using Xf toList d1
 subst this;exact r.inj r'
theorem Inv.yQ(I:Inv X pins σ H s)(h:iV X.K H a xs)(h':iV X.K H a ys):xs=ys:=by
 obtain⟨its,r,⟨o,e,_,n,d⟩,_⟩:=I.tuple h;obtain⟨its',r',⟨o',e',_,n',d'⟩,_⟩:=I.tuple h';rw[e]at e';cases e';rw[d]at d';injection d' with d1 _
 have:its=its':=by simpa using Xf toList d1
 subst this;exact r.inj r'
end
abbrev Cx.pQ(X:Cx)(E:Value->Shared->Prop):Cx:={ X with xe:=E }
abbrev Cx.Mb(X:Cx):Cx:=X.pQ λ_ _=>False
theorem Cx.Ok.pQ{X:Cx}(ok:X.Ok)(E:Value->Shared->Prop):(X.pQ E).Ok :=
 ⟨ok.mod,ok.kind,ok.glob,ok.blt,ok.above,ok.inj,ok.has,ok.LY,ok.hd,ok.frames,ok.stk,ok.P8,ok.bs,ok.Gi,ok.nj,ok.Aj,ok.nk,ok.Ht⟩
theorem Cx.Ok.jd{X:Cx}{E:Value->Shared->Prop}(ok:(X.pQ E).Ok):X.Ok :=
 ⟨ok.mod,ok.kind,ok.glob,ok.blt,ok.above,ok.inj,ok.has,ok.LY,ok.hd,ok.frames,ok.stk,ok.P8,ok.bs,ok.Gi,ok.nj,ok.Aj,ok.nk,ok.Ht⟩
section
variable {X:Cx} {pins:List (Addr×Obj)} {σ:St} {H:Hp} {s:Shared} {E:Value->Shared->Prop}
theorem Inv.pQ(I:Inv X pins σ H s)(E:Value->Shared->Prop):Inv (X.pQ E) pins σ H s:=⟨I.ok.pQ E,I.os,I.bare,I.base,I.loc,I.cell,I.free,I.iU,I.pin,I.hok,I.len⟩
theorem Inv.jd(I:Inv (X.pQ E) pins σ H s):Inv X pins σ H s:=⟨I.ok.jd,I.os,I.bare,I.base,I.loc,I.cell,I.free,I.iU,I.pin,I.hok,I.len⟩
theorem SP.jd(h:SP (X.pQ E) pins D f s'):SP X pins D f s':=by
 cases f with
 |next=>obtain⟨σ',H',I,q⟩:=h;exact⟨σ',H',I.jd,q⟩
 |brk=>obtain⟨σ',H',I,q⟩:=h;exact⟨σ',H',I.jd,q⟩
 |cont=>obtain⟨σ',H',I,q⟩:=h;exact⟨σ',H',I.jd,q⟩
 |ret u=>obtain⟨v,σ',H',I,r,q⟩:=h;exact⟨v,σ',H',I.jd,r,q⟩
theorem vz.Mb{st:List Stmt}{t:TS}(h:vz X.Mb st t):vz X st t:=λpins s σ H D I hw=>
 Xu (h pins s σ H D (I.pQ _) hw) (λ_ _ q=>q.jd) λ_ _ z=>False.elim z
end
section
variable {X:Cx} {st:Stmt} {rest:List Stmt} {t u:TS} {e:Expr} {te:TE} {pos:Pos}
def Ao:TS:=λD σ H=>D.nx σ H
def Qh(t u:TS):TS:=λD σ H=>t { D with nx:=u D } σ H
theorem Dw:vz X [] Ao:=λ_ _ σ H _ I h=>wpAny_execs_nil ⟨σ,H,I,h⟩
theorem Aq(h1:PS X st t)(h2:vz X rest u):vz X (st::rest) (Qh t u):=by
 intro pins s σ H D I h;refine wpAny_execs_cons (cH (h1 pins s σ H { D with nx:=u D } I h) λf s1 q=>?_);cases f with
 |next=>obtain⟨σ',H',I',q⟩:=q;exact h2 pins s1 σ' H' D I' q
 |ret v=>exact q
 |brk=>exact q
 |cont=>exact q
def HG:TS:=λD σ H=>D.bk σ H
def Mc:TS:=λD σ H=>D.ct σ H
theorem Dy:PS X (.Pass pos) Ao:=λ_ _ σ H _ I h=>wpAny_Pass ⟨σ,H,I,h⟩
theorem Ar:PS X (.Break pos) HG:=λ_ _ σ H _ I h=>wpAny_Break ⟨σ,H,I,h⟩
theorem tu:PS X (.Continue pos) Mc:=λ_ _ σ H _ I h=>wpAny_Continue ⟨σ,H,I,h⟩
theorem Inv.quiet(I:Inv X pins σ H s):interactive X.env=false:=by simp[interactive,I.ok.kind]
theorem HH{x j pos pos'}:PS X (.Expr (.Constant (.str x) j pos) pos') Ao:=λ_ s σ H _ I h=>wpAny_Expr (Calls.Constant_str (show SP X _ _ .next { s with toks:=s.toks+1 } from⟨σ,H,I.tok _,h⟩)) I.quiet
def Mf(te:TE):TS:=λD σ H=>te σ H λ_ H1=>D.nx σ H1
theorem Dz(he:PE X e te)(hs:swapsWith e none pos.line X.env=pure false):PS X (.Expr e pos) (Mf te):=by
 intro pins s σ H D I h;exact wpAny_Expr_any (cH (he pins s σ H _ I h) λv s1 ⟨x,H1,I1,r1,q1⟩=>⟨σ,H1,I1,q1⟩) I.quiet hs
def Qi(te:TE):TS:=λD σ H=>te σ H D.rt
theorem HJ(he:PE X e te):PS X (.Return (some e) pos) (Qi te):=by
 intro pins s σ H D I h;exact wpAny_Return_some (cH (he pins s σ H _ I h) λv s1 ⟨x,H1,I1,r1,q1⟩=>⟨x,σ,H1,I1,r1,q1⟩)
def Mg:TS:=λD _ H=>D.rt .non H
theorem DA:PS X (.Return none pos) Mg:=λ_ _ σ H _ I h=>wpAny_Return_none ⟨.non,σ,H,I,rfl,h⟩
def Qj(c:TT)(t u:TS):TS:=λD σ H=>c σ H λb H1=>if b=true then t D σ H1 else u D σ H1
theorem Mh(hc:PT X c tc)(ha:vz X a t)(hb:vz X b u):PS X (.If c a b pos) (Qj tc t u):=by
 intro pins s σ H D I h;refine wpAny_If (cH (hc pins s σ H _ I h) λd s1 aL=>?_);obtain⟨H1,I1,q1⟩:=aL;cases d with
 |true=>exact ha pins s1 σ H1 D I1 q1
 |false=>exact hb pins s1 σ H1 D I1 q1
def HK:TS:=λ_ _ _=>False
theorem nT:PS X st HK:=λ_ _ _ _ _ _ h=>h.elim
end
abbrev TG:=V->St->Hp->(St->Hp->Prop)->Prop
abbrev LG:=List V->St->Hp->(St->Hp->Prop)->Prop
def PG(X:Cx)(target:Expr)(t:TG):Prop :=
 ∀(pins:List (Addr×Obj)) (s:Shared) (σ:St) (H:Hp) (v:V) (u:Value) (Q:St->Hp->Prop),Inv X pins σ H s->RelV v u->t v σ H Q ->
  wpAny (model X.prog X.w) X.A (assign target X.env u) (λ_ s'=>∃σ' H',Inv X pins σ' H' s'/\Q σ' H') X.xe s
def LH(X:Cx)(ts:List Expr)(t:LG):Prop :=
 ∀(pins:List (Addr×Obj)) (s:Shared) (σ:St) (H:Hp) (vs:List V) (us:List Value) (Q:St->Hp->Prop),Inv X pins σ H s->Vals vs us->t vs σ H Q ->
  wpAny (model X.prog X.w) X.A (assignInOrder ((assignEach ts X.env).map (·.2)) us) (λ_ s'=>∃σ' H',Inv X pins σ' H' s'/\Q σ' H') X.xe s
abbrev HL:=V->V->V->Hp->(Hp->Prop)->Prop
def HM(X:Cx)(t:HL):Prop :=
 ∀(pins:List (Addr×Obj)) (s:Shared) (σ:St) (H:Hp) (o i v:V) (ov iv u:Value) (Q:Hp->Prop),Inv X pins σ H s->RelV o ov->RelV i iv->RelV v u->t o i v H Q ->
  wpAny (model X.prog X.w) X.A (setItem ov iv u) (λ_ s'=>∃H',Inv X pins σ H' s'/\Q H') X.xe s
section
variable {X:Cx} {pos:Pos}
def qa(i:Nat):TG:=λv σ H Q=>Q (σ.set i (some v)) H
theorem nH{i:Nat}(hN:X.N.Nodup)(hi:X.N[i]?=some x)(hx:Loc X.env.scope x)(hf:X.fn x=true\/X.env.scope.names.lookup x=some .local):PG X (.Name x pos) (qa i):=by
 intro pins s σ H v u Q I r h;exact wpAny_assign_Name (sY I hN hi hx r (λs' I'=>⟨_,H,I',h⟩) hf)
def Mi:LG:=λvs σ H Q=>vs=[]/\Q σ H
def Gj(t:TG)(u:LG):LG:=λvs σ H Q=>∃v r,vs=v::r/\t v σ H λσ' H'=>u r σ' H' Q
theorem xu:LH X [] Mi:=by
 intro pins s σ H vs us Q I r h;obtain⟨e,h⟩:=h;subst e;cases r;exact assignInOrder_nil ⟨σ,H,I,h⟩
theorem tw(h1:PG X e t)(h2:LH X es u)
  (hs:(assignEach (e::es) X.env).map (·.2)=assign e X.env::(assignEach es X.env).map (·.2):=by rfl):LH X (e::es) (Gj t u):=by
 intro pins s σ H vs us Q I r h;obtain⟨v,vr,e1,h⟩:=h;subst e1;cases r with
 |cons r rr=>rw[hs];refine assignInOrder_cons (cH (h1 pins s σ H _ _ _ I r h) λ_ s1 aL=>?_);obtain⟨σ1,H1,I1,q1⟩:=aL;exact h2 pins s1 σ1 H1 _ _ Q I1 rr q1
def Mj(K:Frag)(n:Nat)(t:LG):TG:=λv σ H Q=>∃a xs,v=.ref a/\iV K H a xs/\xs.length=n/\t xs σ H Q
theorem As{k:Nat}{n:Nat}(hc:X.calm=true)(h:LH X es t)
  (hn:(assignEach es X.env).length=n) (hst:(assignEach es X.env).findIdx? (·.1)=none):PG X (.Tuple es k pos) (Mj X.K n t):=by
 intro pins s σ H v u Q I r hw;obtain⟨a,xs,e1,hq,hl,hw⟩:=hw;subst e1;cases r;obtain⟨its,rv,ht,hz⟩:=I.tuple hq;refine assign_Tuple_tuple (I.ok.hd hc) ht (by simp[hn,<-hl,rv.length]) hst λh' hx=>?_;have I1:Inv X pins σ H { s with heap:=h' }:=I.kept (t':=s.toks) λb o e=>hx b o (WJ (WB e)) e;exact h pins _ σ H xs _ Q I1 (by simpa using rv) hw
def Ml(to ti:TE)(t:HL):TG:=λv σ H Q=>to σ H λo H1=>ti σ H1 λi H2=>t o i v H2 λH3=>Q σ H3
theorem HN(ho:PE X o to)(hi:PE X i ti)(hs:HM X t)
  (ha:∀v,assign (.Subscript o i pos) X.env v=(do
   let ov <-holding [v] (eval o X.env)
   let iv <-holding [v,ov] (eval i X.env)
   standAt pos
   holding [v,ov,iv] (setItem ov iv v)
   release [v,ov,iv] [])):PG X (.Subscript o i pos) (Ml to ti t):=by
 intro pins s σ H v u Q I r h;rw[ha];refine Wl (Xx (cH (ho pins s σ H _ I h) λov s1 aL=>?_));obtain⟨x,H1,I1,r1,q1⟩:=aL;refine Wl (Xx (cH (hi pins s1 σ H1 _ I1 q1) λiv s2 aL=>?_));obtain⟨y,H2,I2,r2,q2⟩:=aL;refine Wl (wpAny_standAt (Wl (Xx (cH (hs pins s2 σ H2 x y v ov iv u _ I2 r1 r2 r q2) λ_ s3 aL=>?_))));obtain⟨H3,I3,q3⟩:=aL;exact wpAny_release ⟨σ,H3,I3,q3⟩
def DC(te:TE)(g:TG):TS:=λD σ H=>te σ H λx H1=>g x σ H1 D.nx
theorem Au(he:PE X e te)(hg:PG X tg g)(hs:swapsWithSole [tg] e pos.line X.env=pure false)(hw:swappedStores [tg] e X.env=pure none)
  (h1:(assignEach [tg] X.env).map (·.2)=[assign tg X.env]):PS X (.Assign [tg] e pos) (DC te g):=by
 intro pins s σ H D I h;refine wpAny_Assign_stores (cH (he pins s σ H _ I h) λv s1 ⟨x,H1,I1,r1,q1⟩=>?_) hs hw;rw[h1];exact cH (hg pins s1 σ H1 x v _ I1 r1 q1) λ_ s2 q=>q
theorem Av{i:Nat}(hN:X.N.Nodup)(hi:X.N[i]?=some x)(hx:Loc X.env.scope x)(he:PE X e te)(hs:swapsWith e (some (.Name x pos')) pos.line X.env=pure false)(hf:X.fn x=true\/X.env.scope.names.lookup x=some .local) :
  PS X (.Assign [.Name x pos'] e pos) (DC te (qa i)):=by
 intro pins s σ H D I h;refine wpAny_Assign_Name (cH (he pins s σ H _ I h) λv s1 ⟨y,H1,I1,r1,q1⟩=>?_) hs;exact sY I1 hN hi hx r1 (λs2 I2=>⟨_,H1,I2,q1⟩) hf
end
structure It where
 go:Nat->Hp->Prop
 vA:Nat->Hp->V->Hp->Prop
 stop:Nat->Hp->Prop
def nq(X:Cx)(pins:List (Addr×Obj))(H:Hp)(b:Addr):Prop :=
 H b=none/\b≠X.env.locals/\b∉X.fs/\(b∈X.ex\/X.s₀.heap.objs.size<=b)/\(∀x c,X.env.cells.lookup x=some c->c≠b)/\∀p∈X.pn++pins,p.1≠b
theorem Inv.DE(I:Inv X pins σ H s)(hb:s.heap.objs.size<=b)(hn:H' b=none):nq X pins H' b:=by
 refine⟨hn,X7 (WC I.lt hb),I.Qa hb,.inr (WZ I.sz hb),λx c e z=>?_,λp hp z=>?_⟩
 ·obtain⟨v,q⟩:=I.cell x c e;exact absurd (WC q.lt (by rw[z];exact hb)) (Xp _)
 ·exact absurd (WC (WB (I.pin p hp).1) (by rw[z];exact hb)) (Xp _)
structure Turn (P:Program) (w:World) (K:Frag) (tg:Expr) (J:It) (fp:List Addr) (it:Addr) (tn:Nat->Heap->Prop):Prop where
 mem:it∈fp
 obj:∀i h,tn i h->∀b∈fp,∃o,h.get? b=some o/\∀v,o.data≠.cell v
 keep:∀i h h',tn i h->(∀b∈fp,∀o,h.get? b=some o->h'.get? b=some o)->tn i h'
 item:∀(X:Cx),X.prog=P->X.w=w->X.K=K->X.calm=true->∀(i:Nat) (pins:List (Addr×Obj)) (s:Shared) (σ:St) (H:Hp) (E:Value->Shared->Prop),Inv X pins σ H s->(∀b∈fp,nq X pins H b)->tn i s.heap->J.go i H ->
  wpAny (model P w) X.A (pyNext (.ref it)) (λr s1=>∃u,r=some u /\
   wpAny (model P w) X.A (letOwnedTupleGo tg (.ref it) u) (λ_ s2=>∃x H',Inv X pins σ H' s2/\RelV x u/\J.vA i H x H'/\tn (i+1) s2.heap/\∀b∈fp,H' b=none) E s1) E s
 done:∀(X:Cx),X.prog=P->X.w=w->X.K=K->X.calm=true->∀(i:Nat) (pins:List (Addr×Obj)) (s:Shared) (σ:St) (H:Hp) (E:Value->Shared->Prop),Inv X pins σ H s->(∀b∈fp,nq X pins H b)->tn i s.heap->J.stop i H ->
  wpAny (model P w) X.A (pyNext (.ref it)) (λr s1=>r=none/\Inv X pins σ H s1) E s
 self:∀(A:Around) (i:Nat) (s:Shared) (Q:Value->Shared->Prop) (E:Value->Shared->Prop),tn i s.heap->Q (.ref it) s->wpAny (model P w) A (pyIter (.ref it)) Q E s
abbrev TI:=St->Hp->(It->Hp->Prop)->Prop
def RI(X:Cx)(pins:List (Addr×Obj))(σ:St)(tg:Expr)(R:It->Hp->Prop)(itv:Value)(s2:Shared):Prop :=
 ∃(it:Addr) (fp:List Addr) (tn:Nat->Heap->Prop) (J:It) (H':Hp),itv=.ref it/\Inv X pins σ H' s2/\Turn X.prog X.w X.K tg J fp it tn/\tn 0 s2.heap/\(∀b∈fp,nq X pins H' b)/\R J H'
def PI(X:Cx)(tg iter:Expr)(wi:TI):Prop :=
 ∀(pins:List (Addr×Obj)) (s:Shared) (σ:St) (H:Hp) (R:It->Hp->Prop),Inv X pins σ H s->wi σ H R ->
  wpAny (model X.prog X.w) X.A (eval iter X.env) (λv s1=>wpAny (model X.prog X.w) X.A (pyIter v) (RI X pins σ tg R) X.xe s1) X.xe s
theorem Aw{n:String}(ho:s.heap.get? it=some o)(hc:o.cls=.type n)(hd:o.data=.fields vs)
  (hn:["enumerate","zip","dict_itemiterator","dict_reverseitemiterator","odict_iterator","itertools.zip_longest","itertools.pairwise"].contains n=false) (hQ:Q () s):wpAny M A (letOwnedTupleGo tg (.ref it) u) Q E s:=by
 unfold letOwnedTupleGo;cases tg<;>first
  |exact Wv hQ
  | (cases u<;>first
    |exact Wv hQ
    | (refine Wl (wpAny_load ho ?_)
       rw[hc,hd];show wpAny M A (if (["enumerate","zip","dict_itemiterator","dict_reverseitemiterator","odict_iterator","itertools.zip_longest","itertools.pairwise"].contains n&&vs[0]?==some (rawInt _))=true then _ else _) Q E s;rw[Wt (by intro h;rw[hn,Bool.false_and]at h;cases h)];exact Wv hQ))
def Pq(K:Frag)(a:Addr):It :=
 ⟨λi H=>∃xs x,gR K H a xs/\xs[i]?=some x,λi H x H'=>H'=H/\∀xs,gR K H a xs->xs[i]?=some x,λi H=>∃xs,gR K H a xs/\xs.length<=i⟩
def Qk(K:Frag)(a:Addr):It :=
 ⟨λi H=>∃xs x,iV K H a xs/\xs[i]?=some x,λi H x H'=>H'=H/\∀xs,iV K H a xs->xs[i]?=some x,λi H=>∃xs,iV K H a xs/\xs.length<=i⟩
def Mm(lo:Int)(n:Nat):It:=⟨λi _=>i<n,λi H x H'=>H'=H/\x=.int (lo+i),λi _=>n<=i⟩
theorem yR{P:Program}{w:World}{K:Frag}{tg:Expr}(a it:Addr):Turn P w K tg (Pq K a) [it] it (λi h=>h.IsListIter it a i) where
 mem:=by simp
 obj:=λi h st b hb=>by
  have e:b=it:=by simpa using hb
  subst e;obtain⟨o,e,c,d⟩:=st;exact⟨o,e,λv z=>by rw[d]at z;cases z⟩
 keep:=λi h h' st k=>st.at λo e=>k it (by simp) o e
 item:=by intro X hP hw hK hc i pins s σ H E I hf st hg;subst hP hw hK;obtain⟨xs,x,hq,hx⟩:=hg;obtain⟨its,rv,p,hz⟩:=I.list hq;obtain⟨u,hu,ru⟩:=rv.get hx;obtain⟨f0,f1,f2,f3,f4,f5⟩:=hf it (by simp);refine wpAny_pyNext_list_item st p.isList (x:=u) (by simpa using hu) λh' st' sb=>?_;have I1:Inv X pins σ H { s with heap:=h' }:=I.turned (t':=s.toks) (λb o hb e=>(sb.2 b hb).trans e) f0 f1 f3 f4 f5;obtain⟨o,e,c,d⟩:=id st';exact⟨u,rfl,Aw (s:={ s with heap:=h' }) e c d (by decide) ⟨x,H,I1,ru,⟨rfl,λys hy=>by rw[I.sZ hy hq];exact hx⟩,st',λb hb=>(hf b hb).1⟩⟩
 done:=by intro X hP hw hK hc i pins s σ H E I hf st hg;subst hP hw hK;obtain⟨xs,hq,hx⟩:=hg;obtain⟨its,rv,p,hz⟩:=I.list hq;obtain⟨f0,f1,f2,f3,f4,f5⟩:=hf it (by simp);have hl:=rv.length;exact wpAny_pyNext_list_end (I.ok.hd hc) st p.isList (by simp;omega) λh' eb=>⟨rfl,I.turned (t':=s.toks) (λb o hb e=>eb b o hb e) f0 f1 f3 f4 f5⟩
 self:=λ_ _ _ _ _ st h=>wpAny_pyIter_listiter st h
theorem vB{P:Program}{w:World}{K:Frag}{tg:Expr}(a it:Addr):Turn P w K tg (Qk K a) [it] it (λi h=>h.IsTupleIter it a i) where
 mem:=by simp
 obj:=λi h st b hb=>by
  have e:b=it:=by simpa using hb
  subst e;obtain⟨o,e,c,d⟩:=st;exact⟨o,e,λv z=>by rw[d]at z;cases z⟩
 keep:=λi h h' st k=>st.at λo e=>k it (by simp) o e
 item:=by intro X hP hw hK hc i pins s σ H E I hf st hg;subst hP hw hK;obtain⟨xs,x,hq,hx⟩:=hg;obtain⟨its,rv,p,hz⟩:=I.tuple hq;obtain⟨u,hu,ru⟩:=rv.get hx;obtain⟨f0,f1,f2,f3,f4,f5⟩:=hf it (by simp);refine wpAny_pyNext_tuple_item st (show s.heap.IsTuple a its.toArray from p) (x:=u) (by simpa using hu) λh' st' sb=>?_;have I1:Inv X pins σ H { s with heap:=h' }:=I.turned (t':=s.toks) (λb o hb e=>(sb.2 b hb).trans e) f0 f1 f3 f4 f5;obtain⟨o,e,c,d⟩:=id st';exact⟨u,rfl,Aw (s:={ s with heap:=h' }) e c d (by decide) ⟨x,H,I1,ru,⟨rfl,λys hy=>by rw[I.yQ hy hq];exact hx⟩,st',λb hb=>(hf b hb).1⟩⟩
 done:=by intro X hP hw hK hc i pins s σ H E I hf st hg;subst hP hw hK;obtain⟨xs,hq,hx⟩:=hg;obtain⟨its,rv,p,hz⟩:=I.tuple hq;obtain⟨f0,f1,f2,f3,f4,f5⟩:=hf it (by simp);have hl:=rv.length;exact wpAny_pyNext_tuple_end (I.ok.hd hc) st (show s.heap.IsTuple a its.toArray from p) (by simp;omega) λh' eb=>⟨rfl,I.turned (t':=s.toks) (λb o hb e=>eb b o hb e) f0 f1 f3 f4 f5⟩
 self:=λ_ _ _ _ _ st h=>wpAny_pyIter_tupleiter st h
theorem vC{P:Program}{w:World}{K:Frag}{tg:Expr}(it:Addr)(lo:Int)(n:Nat):Turn P w K tg (Mm lo n) [it] it (λi h=>IsRangeIter h it (lo+(i:Nat)*1) ((n:Int)-(i:Nat)) 1) where
 mem:=by simp
 obj:=λi h st b hb=>by
  have e:b=it:=by simpa using hb
  subst e;exact⟨_,st,λv z=>by
   have z':Data.fields _=Data.cell v:=z;cases z'⟩
 keep:=λi h h' st k=>k it (by simp) _ st
 item:=by intro X hP hw hK hc i pins s σ H E I hf st hg;subst hP hw hK;obtain⟨f0,f1,f2,f3,f4,f5⟩:=hf it (by simp);have W:=Walks.range (prog:=X.prog) (w:=X.w) (I.ok.hd hc) it lo 1 n;refine W.item i s _ _ hg st λv h' tk hv st' kk=>?_;obtain⟨t,rfl⟩:=hv;have I1:Inv X pins σ H { s with heap:=h',toks:=tk }:=I.turned (λb o hb e=>kk b o (by simpa using hb) e) f0 f1 f3 f4 f5;refine⟨_,rfl,Aw (s:={ s with heap:=h',toks:=tk }) (n:="range_iterator") st' rfl rfl (by decide) ⟨.int (lo+i),H,I1,⟨t,?_⟩,⟨rfl,rfl⟩,st',λb hb=>(hf b hb).1⟩⟩;rw[Int.mul_one]
 done:=by intro X hP hw hK hc i pins s σ H E I hf st hg;subst hP hw hK;obtain⟨f0,f1,f2,f3,f4,f5⟩:=hf it (by simp);exact wpAny_pyNext_range_end (I.ok.hd hc) st (by have:n<=i:=hg;omega) λh' eb=>⟨rfl,I.turned (t':=s.toks) (λb o hb e=>eb b o hb e) f0 f1 f3 f4 f5⟩
 self:=λ_ _ _ _ _ st h=>wpAny_pyIter_rangeiter st h
section
variable {X:Cx} {tg:Expr}
def Mn(K:Frag)(tl:TE):TI:=λσ H R=>tl σ H λx H1=>∃a,x=.ref a/\(∃xs,gR K H1 a xs)/\R (Pq K a) H1
def Ql(K:Frag)(tl:TE):TI:=λσ H R=>tl σ H λx H1=>∃a,x=.ref a/\(∃xs,iV K H1 a xs)/\R (Qk K a) H1
theorem DF(hl:PE X l tl):PI X tg l (Mn X.K tl):=by
 intro pins s σ H R I h;refine cH (hl pins s σ H _ I h) λv s1 aL=>?_;obtain⟨x,H1,I1,r1,q1⟩:=aL;obtain⟨a,e,⟨xs,hq⟩,q⟩:=q1;subst e;cases r1;obtain⟨its,rv,p,hz⟩:=I1.list hq;refine YM p.isList ?_;refine⟨s1.heap.objs.size,[s1.heap.objs.size],_,_,H1,rfl,I1.kept (t':=s1.toks) λb o e=>Wq _ e,yR a _,⟨_,WG _ rfl,rfl,rfl⟩,λb hb=>?_,q⟩;have e:b=s1.heap.objs.size:=by simpa using hb
 subst e;exact I1.DE (Wy _) (I1.hok.fresh (Wy _))
theorem HP(hl:PE X l tl):PI X tg l (Ql X.K tl):=by
 intro pins s σ H R I h;refine cH (hl pins s σ H _ I h) λv s1 aL=>?_;obtain⟨x,H1,I1,r1,q1⟩:=aL;obtain⟨a,e,⟨xs,hq⟩,q⟩:=q1;subst e;cases r1;obtain⟨its,rv,p,hz⟩:=I1.tuple hq;refine wpAny_pyIter_tuple (show s1.heap.IsTuple a its.toArray from p) ?_;refine⟨s1.heap.objs.size,[s1.heap.objs.size],_,_,H1,rfl,I1.kept (t':=s1.toks) λb o e=>Wq _ e,vB a _,⟨_,WG _ rfl,rfl,rfl⟩,λb hb=>?_,q⟩;have e:b=s1.heap.objs.size:=by simpa using hb
 subst e;exact I1.DE (Wy _) (I1.hok.fresh (Wy _))
theorem tB{lo hi:Int}{tk:Nat}(I:Inv X pins σ H s)(h1:-(2 ^ 62)<=lo)(h2:lo<2 ^ 62)(h3:-(2 ^ 62)<=hi)(h4:hi<2 ^ 62)
  (q:R (Mm lo (hi-lo).toNat) H):wpAny (model X.prog X.w) X.A (pyIter (.ref s.heap.objs.size)) (RI X pins σ tg R) E { s with heap:=s.heap.push { cls:=.type "range",data:=.fields [.int lo t,.int hi u,.int 1 v].toArray },toks:=tk }:=by
 refine wpAny_pyIter_range (IsRange.new ..) (small_one h1 h2 h3 h4) ?_;have I1:Inv X pins σ H { s with heap:=s.heap.push { cls:=.type "range",data:=.fields [.int lo t,.int hi u,.int 1 v].toArray },toks:=tk }:=I.kept λb o e=>Wq _ e;refine⟨(s.heap.push { cls:=.type "range",data:=.fields [.int lo t,.int hi u,.int 1 v].toArray }).objs.size,[(s.heap.push { cls:=.type "range",data:=.fields [.int lo t,.int hi u,.int 1 v].toArray }).objs.size],_,_,H,rfl,
  I1.kept (t':=tk) λb o e=>Wq _ e,vC _ lo (hi-lo).toNat,?_,λb hb=>?_,q⟩
 ·have e1:lo+((0:Nat):Int)*1=lo:=by simp
  have e2:(((hi-lo).toNat:Nat):Int)-((0:Nat):Int)=Builtin.Range.rangeSize lo hi 1:=by rw[rangeSize_one];split<;>omega
  show IsRangeIter _ _ (lo+((0:Nat):Int)*1) ((((hi-lo).toNat:Nat):Int)-((0:Nat):Int)) 1;rw[e1,e2];exact WG _ rfl
 ·have e:b=(s.heap.push { cls:=.type "range",data:=.fields [.int lo t,.int hi u,.int 1 v].toArray }).objs.size:=by simpa using hb
  subst e;exact I1.DE (Wy _) (I1.hok.fresh (Wy _))
def Mp(ta:TA):TI:=λσ H R=>ta σ H λvs H1=>∃j:Int,vs=[.int j] /\ -(2 ^ 62)<=j/\j<2 ^ 62/\R (Mm 0 j.toNat) H1
def Mq(ta:TA):TI:=λσ H R=>ta σ H λvs H1=>∃i j:Int,vs=[.int i,.int j]/\(-(2 ^ 62)<=i/\i<2 ^ 62 /\ -(2 ^ 62)<=j/\j<2 ^ 62)/\R (Mm i (j-i).toNat) H1
theorem yS(hg:Gl X "range")(hm:X.mg "range" = none)(ha:PA X [a] ta)(hs:starEach [a] X.env=[(false,eval a X.env)]):PI X tg (.Call (.Name "range" p) [a] [] pos) (Mp ta):=by
 intro pins s σ H R I h;refine Call_ (gQ I hg hm boot_range (W5 (cH (ha pos pins s σ H _ I h) λus s1 aL=>?_) hs rfl));obtain⟨vs,H1,I1,r1,q1⟩:=aL;obtain⟨j,e,q1,q2,q⟩:=q1;subst e;cases r1 with
 |cons r rr=>cases rr;obtain⟨t,rfl⟩:=r;exact call_range_1 (tB I1 (by omega) (by omega) q1 q2 (by simpa using q))
theorem yT(hg:Gl X "range")(hm:X.mg "range" = none)(ha:PA X [a,b] ta)(hs:starEach [a,b] X.env=[(false,eval a X.env),(false,eval b X.env)])(hs2:starEach [b] X.env=[(false,eval b X.env)]) :
  PI X tg (.Call (.Name "range" p) [a,b] [] pos) (Mq ta):=by
 intro pins s σ H R I h;refine Call_ (gQ I hg hm boot_range (W5 (cH (ha pos pins s σ H _ I h) λus s1 ⟨vs,H1,I1,r1,q1⟩=>?_) (by rw[hs,hs2]) (by rw[hs2];rfl)));obtain⟨i,j,e,⟨q1,q2,q3,q4⟩,q⟩:=q1;subst e;cases r1 with
 |cons r rr=>
  cases rr with
  |cons r' rr=>cases rr;obtain⟨t,rfl⟩:=r;obtain⟨t',rfl⟩:=r';exact call_range_2 (tB I1 q1 q2 q3 q4 q)
def Qm(wi:TI)(g:TG)(tb:TS):TS:=λD σ H=>wi σ H λJ H1=>∃W:Nat->Nat->St->Hp->Prop,(∃m,W 0 m σ H1)/\∀i m σ H,W i m σ H ->
 (J.stop i H/\D.nx σ H)\/(J.go i H/\∃N:St->Hp->Prop,(∀σ' H',N σ' H'->∃m',m'<m/\W (i+1) m' σ' H')/\∀x H',J.vA i H x H'->g x σ H' λσ2 H2=>tb { D with nx:=N,ct:=N,bk:=D.nx } σ2 H2)
def nU(fp:List Addr)(h:Heap):List (Addr×Obj):=fp.filterMap λb=>(h.get? b).map λo=>(b,o)
theorem iJ(hb:b∈fp)(e:h.get? b=some o):(b,o)∈nU fp h:=List.mem_filterMap.mpr ⟨b,hb,by rw[e];rfl⟩
theorem yU(hp:p∈nU fp h):p.1∈fp/\h.get? p.1=some p.2:=by
 obtain⟨b,hb,e⟩:=List.mem_filterMap.mp hp;cases q:h.get? b with
 |none=>rw[q]at e;cases e
 |some o=>rw[q]at e;have e':(b,o)=p:=WR e;subst e';exact⟨hb,q⟩
theorem Inv.pinned(I:Inv X pins σ H s)(hf:∀b∈fp,nq X pins H b)(ho:∀b∈fp,∃o,s.heap.get? b=some o/\∀v,o.data≠.cell v):Inv X (pins++nU fp s.heap) σ H s :=
 I.xr λp hp=>(W3.mp hp).elim (λz=>I.pin p (WU _ z)) λz=>by
  obtain⟨hb,e⟩:=yU z;obtain⟨f0,f1,f2,_⟩:=hf p.1 hb;obtain⟨o,e',d⟩:=ho p.1 hb;rw[e]at e';cases e';exact⟨e,f0,f1,f2,d⟩
theorem Inv.kP(I:Inv X (pins++pl) σ H s):Inv X pins σ H s:=I.xr λp hp=>I.pin p (WU _ (W0 _ hp))
theorem HQ(hp:PassesOwn (model X.prog X.w) X.A X.env X.xe)(hc:X.calm=true)(hi:PI X tg iter wi)(hg:PG X tg g)(hb:vz X body tb)
  (hs:∀x,foldedSetIterable iter X.env x=pure x):PS X (.For tg iter body [] pos) (Qm wi g tb):=by
 intro pins s σ H D I h;refine wpAny_For (cH (hi pins s σ H _ I h) λv s1 h1=>cH h1 λitv s2 h2=>?_) hs;obtain⟨it,fp,tn,J,H2,e,I2,T,st2,f2,W,⟨m0,w0⟩,turn⟩:=h2;subst e;have stat:∀{H':Hp},(∀b∈fp,H' b=none)->∀b∈fp,nq X pins H' b:=λhn b hb=>⟨hn b hb,(f2 b hb).2⟩;refine codeAny_forLoop_any (λn s'=>∃i σ' H',Inv X pins σ' H' s'/\tn i s'.heap/\(∀b∈fp,H' b=none)/\W i n σ' H') ?_ m0 ⟨0,σ,H2,I2,st2,λb hb=>(f2 b hb).1,w0⟩;rintro n s3 ⟨i,σ3,H3,I3,st3,RJ,w3⟩
 rcases turn i n σ3 H3 w3 with ⟨stop,qn⟩|⟨go,N,hN,step⟩
 ·refine Yh hp (cH (T.done X rfl rfl rfl hc i pins s3 σ3 H3 X.xe I3 (stat RJ) st3 stop) λr s4 aL=>?_);obtain⟨hr,I4⟩:=aL;subst hr;exact wpAny_execs_nil ⟨σ3,H3,I4,qn⟩
 ·refine Yh hp (cH (T.item X rfl rfl rfl hc i pins s3 σ3 H3 X.xe I3 (stat RJ) st3 go) λr s4 aL=>?_)
  obtain⟨u,hr,h4⟩:=aL;subst hr;refine Yh hp (cH h4 λ_ s5 aL=>?_);obtain⟨x,H5,I5,r5,y5,LI,Pu⟩:=aL;have TL:=I5.pinned (stat Pu) (T.obj _ _ LI);refine Yh hp (cH (hg _ s5 σ3 H5 x u _ TL r5 (step x H5 y5)) λ_ s6 aL=>?_);obtain⟨σ6,H6,I6,q6⟩:=aL;refine Yh hp (cH (hb _ s6 σ6 H6 _ I6 q6) λf s7 q7=>?_);have again:∀{σ7:St} {H7:Hp},Inv X (pins++nU fp s5.heap) σ7 H7 s7->N σ7 H7->∃m,m<n/\∃i σ' H',Inv X pins σ' H' s7/\tn i s7.heap/\(∀b∈fp,H' b=none)/\W i m σ' H':=λ{σ7 H7} I7 n7=>by
   obtain⟨m',hm,w7⟩:=hN σ7 H7 n7;refine⟨m',hm,i+1,σ7,H7,I7.kP,T.keep _ _ _ LI λb hb o e=>(I7.pin (b,o) (WU _ (WU _ (iJ hb e)))).1,λb hb=>?_,w7⟩;obtain⟨o,e,d⟩:=T.obj _ _ LI b hb;exact(I7.pin (b,o) (WU _ (WU _ (iJ hb e)))).2.1
  cases f with
  |next=>obtain⟨σ7,H7,I7,n7⟩:=q7;exact again I7 n7
  |cont=>obtain⟨σ7,H7,I7,n7⟩:=q7;exact again I7 n7
  |brk=>obtain⟨σ7,H7,I7,q7⟩:=q7;exact⟨σ7,H7,I7.kP,q7⟩
  |ret v=>obtain⟨x7,σ7,H7,I7,r7,q7⟩:=q7;exact⟨x7,σ7,H7,I7.kP,r7,q7⟩
end
abbrev R2:=V->V->Hp->VK->Prop
def lT(X:Cx)(f:Value->Value->Sem Value)(r:R2):Prop :=
 ∀(pins:List (Addr×Obj)) (s:Shared) (σ:St) (H:Hp) (x y:V) (v u:Value) (Q:VK),Inv X pins σ H s->RelV x v->RelV y u->r x y H Q ->
  wpAny (model X.prog X.w) X.A (f v u) (EP X pins σ Q) X.xe s
def Pw(X:Cx)(f:Value->Sem Value)(r:V->Hp->VK->Prop):Prop :=
 ∀(pins:List (Addr×Obj)) (s:Shared) (σ:St) (H:Hp) (x:V) (v:Value) (Q:VK),Inv X pins σ H s->RelV x v->r x H Q ->
  wpAny (model X.prog X.w) X.A (f v) (EP X pins σ Q) X.xe s
def cI(X:Cx)(f:Value)(r:List V->Hp->VK->Prop):Prop :=
 ∀(pins:List (Addr×Obj)) (s:Shared) (σ:St) (H:Hp) (xs:List V) (us:List Value) (Q:VK),Inv X pins σ H s->Vals xs us->r xs H Q ->
  wpAny (model X.prog X.w) X.A (call f us) (EP X pins σ Q) X.xe s
def Qn(X:Cx)(r:V->Hp->(Bool->Hp->Prop)->Prop):Prop :=
 ∀(pins:List (Addr×Obj)) (s:Shared) (σ:St) (H:Hp) (x:V) (v:Value) (Q:Bool->Hp->Prop),Inv X pins σ H s->RelV x v->r x H Q ->
  wpAny (model X.prog X.w) X.A (truthy v) (TP X pins σ Q) X.xe s
def Px(r:R2)(ta tb:TE):TE:=λσ H Q=>ta σ H λx H1=>tb σ H1 λy H2=>r x y H2 Q
def TM(r:V->Hp->VK->Prop)(ta:TE):TE:=λσ H Q=>ta σ H λx H1=>r x H1 Q
def rI(C:Int->Int->Prop)(g:Int->Int->V):R2:=λx y H Q=>∃i j,x=.int i/\y=.int j/\C i j/\Q (g i j) H
def Gk(g:Int->Int->V):R2:=λx y H Q=>∃i j,x=.int i/\y=.int j/\Q (g i j) H
def rU(g:Int->V):V->Hp->VK->Prop:=λx H Q=>∃i,x=.int i/\Q (g i) H
section
variable {X:Cx} {a b c:Expr} {ta tb tc:TE} {pos:Pos}
theorem HS(ha:PE X a ta)(hb:PE X b tb){pins:List (Addr×Obj)}{s:Shared}{σ:St}{H:Hp}{R:V->V->Hp->Prop}(I:Inv X pins σ H s)
  (h:ta σ H λx H1=>tb σ H1 λy H2=>R x y H2) {Q:Value->Shared->Prop} {f:Value->Value->Sem Value}
  (hf:∀v u s2 x y H2,Inv X pins σ H2 s2->RelV x v->RelV y u->R x y H2->wpAny (model X.prog X.w) X.A (f v u) Q X.xe s2) :
  wpAny (model X.prog X.w) X.A (eval a X.env) (λv s₁=>wpAny (model X.prog X.w) X.A (eval b X.env) (λu s₂=>wpAny (model X.prog X.w) X.A (f v u) Q X.xe s₂) X.xe s₁) X.xe s:=by
 refine cH (ha pins s σ H _ I h) λv s1 aL=>?_;obtain⟨x,H1,I1,r1,q1⟩:=aL;refine cH (hb pins s1 σ H1 _ I1 q1) λu s2 aL=>?_;obtain⟨y,H2,I2,r2,q2⟩:=aL;exact hf v u s2 x y H2 I2 r1 r2 q2
theorem Mr(ho:lT X (binaryOp op) r)(ha:PE X a ta)(hb:PE X b tb):PE X (.BinOp a op b pos) (Px r ta tb):=by
 intro pins s σ H Q I h;exact wpAny_BinOp (HS ha hb I h λv u s2 x y H2 I2 rx ry q=>ho pins s2 σ H2 x y v u Q I2 rx ry q)
theorem Ms(ho:Pw X (unaryOp op) r)(ha:PE X a ta):PE X (.UnaryOp op a pos) (TM r ta):=by
 intro pins s σ H Q I h;exact UnaryOp_ (cH (ha pins s σ H _ I h) λv s1 ⟨x,H1,I1,r1,q1⟩=>ho pins s1 σ H1 x v Q I1 r1 q1)
theorem Py{f:Value->Value->Sem Value}{C:Int->Int->Prop}{g:Int->Int->Int}
  (rule:∀(i j:Int) (t u:Tok) (s:Shared) (Q:Value->Shared->Prop) (E:Value->Shared->Prop),C i j->Q (.int (g i j) s.toks) { s with toks:=s.toks+1 }->wpAny (model X.prog X.w) X.A (f (.int i t) (.int j u)) Q E s) :
  lT X f (rI C λi j=>.int (g i j)):=by
 intro pins s σ H x y v u Q I rx ry h;obtain⟨i,j,rfl,rfl,hc,q⟩:=h;obtain⟨t,rfl⟩:=rx;obtain⟨t',rfl⟩:=ry;exact rule i j t t' s _ _ hc ⟨.int (g i j),H,I.tok _,⟨_,rfl⟩,q⟩
theorem Mt{f:Value->Value->Sem Value}{g:Int->Int->Int}
  (rule:∀(i j:Int) (t u:Tok) (s:Shared) (Q:Value->Shared->Prop) (E:Value->Shared->Prop),Q (.int (g i j) s.toks) { s with toks:=s.toks+1 }->wpAny (model X.prog X.w) X.A (f (.int i t) (.int j u)) Q E s) :
  lT X f (Gk λi j=>.int (g i j)):=by
 intro pins s σ H x y v u Q I rx ry h;obtain⟨i,j,rfl,rfl,q⟩:=h;obtain⟨t,rfl⟩:=rx;obtain⟨t',rfl⟩:=ry;exact rule i j t t' s _ _ ⟨.int (g i j),H,I.tok _,⟨_,rfl⟩,q⟩
theorem DG{f:Value->Value->Sem Value}{g:Int->Int->Bool}
  (rule:∀(i j:Int) (t u:Tok) (s:Shared) (Q:Value->Shared->Prop) (E:Value->Shared->Prop),Q (.bool (g i j)) s->wpAny (model X.prog X.w) X.A (f (.int i t) (.int j u)) Q E s) :
  lT X f (Gk λi j=>.bl (g i j)):=by
 intro pins s σ H x y v u Q I rx ry h;obtain⟨i,j,rfl,rfl,q⟩:=h;obtain⟨t,rfl⟩:=rx;obtain⟨t',rfl⟩:=ry;exact rule i j t t' s _ _ ⟨.bl (g i j),H,I,rfl,q⟩
def Qo(i j:Int):Prop:=0<=j/\j<=1000000/\i.natAbs<2 ^ 64
def HU(i j:Int):Prop:=(-(2 ^ 64)<i/\i<2 ^ 64)\/(-(2 ^ 64)<j/\j<2 ^ 64)
theorem HU.ok{i j:Int}(h:HU i j):IntMulOk i j:=by
 rcases h with ⟨h1,h2⟩|⟨h1,h2⟩
 ·exact .of_left (intBits_le_64 h1 h2)
 ·exact .of_right (intBits_le_64 h1 h2)
theorem HV:lT X (binaryOp .Add) (Gk λi j=>.int (i+j)):=Mt λ_ _ _ _ _ _ _ q=>add_int q
theorem HW:lT X (binaryOp .Sub) (Gk λi j=>.int (i-j)):=Mt λ_ _ _ _ _ _ _ q=>sub_int q
theorem HX:lT X (binaryOp .Mult) (rI HU λi j=>.int (i*j)):=Py λ_ _ _ _ _ _ _ hc q=>mul_int q hc.ok
theorem HY:lT X (binaryOp .Mod) (rI (λ_ j=>0<j) λi j=>.int (i%j)):=Py λi j _ _ _ _ _ hc q=>by
 have h1:(0:Int)<j:=hc;exact mod_int' (by omega) (by rw[Int.fmod_eq_emod_of_nonneg i (by omega)];exact q)
theorem HZ:lT X (binaryOp .Pow) (rI Qo λi j=>.int (i ^ j.toNat)):=Py λ_ _ _ _ _ _ _ hc q=>pow_int_small hc.1 hc.2.1 hc.2.2 q
theorem TN{f:Value->Sem Value}{g:Int->Int}
  (rule:∀(i:Int) (t:Tok) (s:Shared) (Q:Value->Shared->Prop) (E:Value->Shared->Prop),Q (.int (g i) s.toks) { s with toks:=s.toks+1 }->wpAny (model X.prog X.w) X.A (f (.int i t)) Q E s) :
  Pw X f (rU λi=>.int (g i)):=by
 intro pins s σ H x v Q I rx h;obtain⟨i,rfl,q⟩:=h;obtain⟨t,rfl⟩:=rx;exact rule i t s _ _ ⟨.int (g i),H,I.tok _,⟨_,rfl⟩,q⟩
theorem Ax:Pw X (unaryOp .USub) (rU λi=>.int (-i)):=TN λ_ _ _ _ _ q=>neg_int q
end
section
variable {X:Cx} {a b c:Expr} {ta tb tc:TE} {pos:Pos}
theorem rA{k k':Bool}(I:Inv X pins σ H s)(q:Q (.bl k) H)(e:k=k'):EP X pins σ Q (.bool k') s:=by
 subst e;exact⟨.bl k,H,I,rfl,q⟩
theorem Mv:lT X (compareOp .Lt) (Gk λi j=>.bl (decide (i<j))):=DG λ_ _ _ _ _ _ _ q=>lt_int q
theorem Mw:lT X (compareOp .LtE) (Gk λi j=>.bl (decide (i<=j))):=DG λ_ _ _ _ _ _ _ q=>le_int q
theorem Mx:lT X (compareOp .Gt) (Gk λi j=>.bl (decide (j<i))):=DG λ_ _ _ _ _ _ _ q=>gt_int q
theorem My:lT X (compareOp .GtE) (Gk λi j=>.bl (decide (j<=i))):=DG λ_ _ _ _ _ _ _ q=>ge_int q
theorem Ia:lT X (compareOp .Is) (λx y H Q=>y=.non/\Q (.bl (decide (x=.non))) H):=by
 intro pins s σ H x y v u Q I rx ry h;obtain⟨rfl,q⟩:=h;cases ry;refine is_none_gen (rA I q ?_);cases x<;>first
  |(cases rx;rfl)
  |(obtain⟨t,rfl⟩:=rx;rfl)
theorem DH:lT X (compareOp .IsNot) (λx y H Q=>y=.non/\Q (.bl (!decide (x=.non))) H):=by
 intro pins s σ H x y v u Q I rx ry h;obtain⟨rfl,q⟩:=h;cases ry;refine isnot_none_gen (rA I q ?_);cases x<;>first
  |(cases rx;rfl)
  |(obtain⟨t,rfl⟩:=rx;rfl)
theorem DI(ho:lT X (compareOp op) r)(ha:PE X a ta)(hb:PE X b tb)(hm:behindInMarks op b=false):PE X (.Compare a [op] [b] pos) (Px r ta tb):=by
 intro pins s σ H Q I h;exact wpAny_Compare1 (HS ha hb I h λv u s2 x y H2 I2 rx ry q=>ho pins s2 σ H2 x y v u Q I2 rx ry q) hm
def Mz(t:TE):TT:=λσ H Q=>t σ H λx H'=>∃k,x=.bl k/\Q k H'
theorem DJ(ho:lT X (compareOp op) r)(ha:PE X a ta)(hb:PE X b tb)(hm:behindInMarks op b=false):PT X (.Compare a [op] [b] pos) (Mz (Px r ta tb)):=by
 intro pins s σ H Q I h;refine wpAny_isTrue_Compare1 (cH (ha pins s σ H _ I h) λv s1 ⟨x,H1,I1,r1,q1⟩=>cH (hb pins s1 σ H1 _ I1 q1) λu s2 ⟨y,H2,I2,r2,q2⟩=>
  cH (ho pins s2 σ H2 x y v u _ I2 r1 r2 q2) λc s3 ⟨z,H3,I3,r3,k,e,q3⟩=>?_) hm
 subst e;cases r3;exact X4 ⟨H3,I3,q3⟩
def Ib(K:Frag)(x:V)(H:Hp)(k:Bool):Prop :=
 match x with
 |.non=>k=false
 |.bl b=>k=b
 |.int i=>k=(i != 0)
 |.str y=>y.length<=sizeLine/\k=((y.length:Int) != 0)
 |.byt y=>y.size<=sizeLine/\k=((y.size:Int) != 0)
 |.ref p=>(∃xs,gR K H p xs/\k = !xs.isEmpty)\/(∃xs,iV K H p xs/\k = !xs.isEmpty)\/∃kvs,H p=some (.dK kvs)/\k = !kvs.isEmpty
 |_=>False
theorem vD{κ:Type}{kvs:List (κ × V)}{vs:List (κ × Value)}(r:KV kvs vs):(!vs.isEmpty) = !kvs.isEmpty:=by
 cases r<;>rfl
theorem nV(r:Vals xs its):(!its.toArray.isEmpty) = !xs.isEmpty:=by
 cases r<;>simp
theorem lV:(sizeLine:Nat)<2 ^ 63:=by rw[Xy];decide
theorem Ic:Qn X (λx H Q=>∃k,Ib X.K x H k/\Q k H):=by
 intro pins s σ H x v Q I rx h;obtain⟨k,e,q⟩:=h;have hl:=lV;have hs:sizeLine=16777216:=Xy;cases x with
 |non=>cases rx;have e':k=false:=e;subst e';exact truthy_none ⟨H,I,q⟩
 |bl b=>cases rx;have e':k=b:=e;subst e';exact X4 ⟨H,I,q⟩
 |int i=>obtain⟨t,rfl⟩:=rx;have e':k=(i != 0):=e;subst e';exact PySem.P.truthy_int ⟨H,I,q⟩
 |str y=>obtain⟨t,rfl⟩:=rx;obtain⟨hy,e'⟩:y.length<=sizeLine/\k=((y.length:Int) != 0):=e;subst e';exact PySem.P.truthy_str (by omega) ⟨H,I.tok _,q⟩
 |byt y=>obtain⟨t,rfl⟩:=rx;obtain⟨hy,e'⟩:y.size<=sizeLine/\k=((y.size:Int) != 0):=e;subst e';exact PySem.W.truthy_bytes (by omega) ⟨H,I.tok _,q⟩
 |ref p=>
  cases rx;have e':(∃xs,gR X.K H p xs/\k = !xs.isEmpty)\/(∃xs,iV X.K H p xs/\k = !xs.isEmpty)\/∃kvs,H p=some (.dK kvs)/\k = !kvs.isEmpty:=e
  rcases e' with ⟨xs,hx,e'⟩|⟨xs,hx,e'⟩|⟨kvs,hx,e'⟩
  ·subst e';obtain⟨its,r,pl,hz⟩:=I.list hx;have hlen:=r.length;exact wpAny_truthy_list pl.isList (by simp only[size_toArray];omega) ⟨H,I.tok _,by rw[nV r];exact q⟩
  ·subst e';obtain⟨its,r,pl,hz⟩:=I.tuple hx;have hlen:=r.length;exact truthy_tuple pl (by simp only[size_toArray];omega) ⟨H,I.tok _,by rw[nV r];exact q⟩
  ·subst e';obtain⟨hz,hS,vs,r,m⟩:kvs.length<=sizeLine/\(p==sysModules)=false/\∃vs,KV kvs vs/\s.heap.DictOf (aV X.prog X.w) p vs:=I.hok p _ hx;have hlen:kvs.length=vs.length:=YR r;exact wpAny_truthy_dict hS m (by omega) ⟨H,I.tok _,by rw[vD r];exact q⟩
 |_=>exact(show False from e).elim
theorem Ay(ha:PE X a ta)(he:∀whole,isTrue a X.env whole=(do let v <-whole;standAt a.pos;holding [v] (truthy v))) :
  PT X a (λσ H Q=>ta σ H λx H'=>∃k,Ib X.K x H' k/\Q k H'):=by
 intro pins s σ H Q I h;exact isTrue_plain (cH (ha pins s σ H _ I h) λv s1 ⟨x,H1,I1,r1,q1⟩=>Ic pins s1 σ H1 x v Q I1 r1 q1) (he _)
theorem vE:lT X (binaryOp .Add) (λx y H Q=>∃i j,x=.str i/\y=.str j/\i.length+j.length<=sizeLine/\Q (.str (i++j)) H):=by
 intro pins s σ H x y v u Q I rx ry h;obtain⟨i,j,rfl,rfl,hz,q⟩:=h;obtain⟨t,rfl⟩:=rx;obtain⟨t',rfl⟩:=ry;exact add_str (λt' tk=>⟨.str (i++j),H,I.tok _,⟨_,rfl⟩,q⟩) hz
theorem vals1(r:Vals [x] us):∃u,us=[u]/\RelV x u:=by
 cases r with
 |cons r1 r2=>cases r2;exact⟨_,rfl,r1⟩
theorem vals2(r:Vals [x,y] us):∃u w',us=[u,w']/\RelV x u/\RelV y w':=by
 cases r with
 |cons r1 r2=>
  cases r2 with
  |cons r3 r4=>cases r4;exact⟨_,_,rfl,r1,r3⟩
theorem yV(hc:X.calm=true):cI X (.builtin "max") (λxs H Q=>∃i j,xs=[.int i,.int j]/\Q (.int (if j>i then j else i)) H):=by
 intro pins s σ H xs us Q I r h;obtain⟨i,j,rfl,q⟩:=h;obtain⟨u,w',rfl,⟨t,rfl⟩,⟨t',rfl⟩⟩:=vals2 r;refine max_two_ints (I.ok.hd hc) λh' tk k=>⟨_,H,I.kept k,?_,q⟩
 by_cases hj:j>i
 ·rw[Wu hj,Wu hj];exact⟨_,rfl⟩
 ·rw[Wt hj,Wt hj];exact⟨_,rfl⟩
theorem yW(hc:X.calm=true):cI X (.builtin "min") (λxs H Q=>∃i j,xs=[.int i,.int j]/\Q (.int (if j<i then j else i)) H):=by
 intro pins s σ H xs us Q I r h;obtain⟨i,j,rfl,q⟩:=h;obtain⟨u,w',rfl,⟨t,rfl⟩,⟨t',rfl⟩⟩:=vals2 r;refine min_two_ints (I.ok.hd hc) λh' tk k=>⟨_,H,I.kept k,?_,q⟩
 by_cases hj:j<i
 ·rw[Wu hj,Wu hj];exact⟨_,rfl⟩
 ·rw[Wt hj,Wt hj];exact⟨_,rfl⟩
theorem qb:cI X (.type "int") (λxs H Q=>(∃i,xs=[.int i]/\Q (.int i) H)\/∃k,xs=[.bl k]/\Q (.int (if k then 1 else 0)) H):=by
 intro pins s σ H xs us Q I r h
 rcases h with ⟨i,rfl,q⟩|⟨k,rfl,q⟩
 ·obtain⟨u,rfl,t,rfl⟩:=vals1 r;exact call_int_int ⟨.int i,H,I,⟨_,rfl⟩,q⟩
 ·obtain⟨u,rfl,r1⟩:=vals1 r;cases r1;exact call_int_bool ⟨.int (if k then 1 else 0),H,I.tok _,⟨_,rfl⟩,q⟩
def Qp(K:Frag)(x:V)(H:Hp)(n:Nat):Prop :=
 match x with
 |.str y=>y.length<=sizeLine/\n=y.length
 |.byt y=>y.size<=sizeLine/\n=y.size
 |.ref p=>(∃xs,gR K H p xs/\n=xs.length)\/∃xs,iV K H p xs/\n=xs.length
 |_=>False
theorem kQ:cI X (.builtin "len") (λxs H Q=>∃x n,xs=[x]/\Qp X.K x H n/\Q (.int n) H):=by
 intro pins s σ H xs us Q I r h;obtain⟨x,n,rfl,e,q⟩:=h;obtain⟨u,rfl,rx⟩:=vals1 r;have hl:=lV;have hs:sizeLine=16777216:=Xy;cases x with
 |str y=>obtain⟨t,rfl⟩:=rx;obtain⟨hy,e'⟩:y.length<=sizeLine/\n=y.length:=e;subst e';exact len_str (by omega) ⟨.int _,H,I.tok _,⟨_,rfl⟩,q⟩
 |byt y=>obtain⟨t,rfl⟩:=rx;obtain⟨hy,e'⟩:y.size<=sizeLine/\n=y.size:=e;subst e';exact PySem.W.len_bytes (by omega) ⟨.int _,H,I.tok _,⟨_,rfl⟩,q⟩
 |ref p=>
  cases rx;have e':(∃xs,gR X.K H p xs/\n=xs.length)\/∃xs,iV X.K H p xs/\n=xs.length:=e
  rcases e' with ⟨xs,hx,e'⟩|⟨xs,hx,e'⟩
  ·subst e';obtain⟨its,r',pl,hz⟩:=I.list hx;have hlen:=r'.length;exact Calls.call_len_list pl.isList (by simp only[size_toArray];omega) ⟨.int xs.length,H,I.tok _,⟨_,by simp only[size_toArray];rw[hlen]⟩,q⟩
  ·subst e';obtain⟨its,r',pl,hz⟩:=I.tuple hx;have hlen:=r'.length;exact len_tuple pl (by simp only[size_toArray];omega) ⟨.int xs.length,H,I.tok _,⟨_,by simp only[size_toArray];rw[hlen]⟩,q⟩
 |_=>exact(show False from e).elim
end
section
variable {prog:Program} {w:World} {A:Around} {E:Value->Shared->Prop} {s:Shared} {K:Frag} {x dx C f:Addr} {mA:Str->Option Value} {name:Str} {v:Value}
theorem Az(X:K.In s.heap)(hm:makesIn K C=true)
  (hi:findIn K (.ref C) "__init__" = some (some (.ref f))) (hf:typeIn K (.ref f)=some (.type "function"))
  (h:codeAny (model prog w) (A.under (.builtin "type.__call__" ⟨.ref C::vs,kw⟩)) (.call (.ref f) ⟨.ref (s.heap.objs.size+1)::vs,kw⟩) (PySem.W.InitBack (s.heap.objs.size+1) R)
   { s with heap:=(s.heap.push emptyDict).push (instObj C s.heap.objs.size) }) :
  codeAny (model prog w) A (.call (.ref C) ⟨vs,kw⟩) R s:=by
 obtain⟨hh,g,d,t,os⟩:=s;exact PySem.W.make_core (PySem.W.makes_of X hm) (PySem.W.looks_findIn X hi) (λself=>PySem.W.bind_fn X self hf) (.inl rfl) h
end
theorem ja.some_of(r:ja (some v) o):∃u,o=some u/\RelV v u:=by
 cases o with
 |none=>exact(show False from r).elim
 |some u=>exact⟨u,rfl,r⟩
theorem ja.none_of(r:ja none o):o=none:=by
 cases o with
 |none=>rfl
 |some u=>exact(show False from r).elim
structure RK (K:Frag) (C:Addr):Prop where
 pg:PySem.W.plainGet K C Str.empty=true
 hd:PySem.W.hasDictIn K C=true
 po:PySem.W.plainOver K C=true
 sa:findIn K (.ref C) "__setattr__" = some (some (.builtin "object.__setattr__"))
def AA(K:Frag)(C:Addr)(f:Str):Prop:=findIn K (.ref C) f=some none
structure Meth (K:Frag) (C:Addr) (m:Str) (f:Addr):Prop where
 at_:findIn K (.ref C) m=some (some (.ref f))
 fn:isFn K (.ref f)=true
 kp:keepIn K (.ref f)=true
section
variable {X:Cx} {pins:List (Addr×Obj)} {σ:St} {H:Hp} {s:Shared} {a C dx:Addr} {fs:List (Str×V)} {f:Str} {v:V} {A:Around} {E:Value->Shared->Prop}
theorem Inv.made(I:Inv X pins σ H s):Inv X pins σ (upd (upd H s.heap.objs.size (.own (s.heap.objs.size+1))) (s.heap.objs.size+1) (.ins C s.heap.objs.size []))
  { s with heap:=(s.heap.push emptyDict).push (instObj C s.heap.objs.size) }:=by
 have e1:(s.heap.push emptyDict).get? s.heap.objs.size=some emptyDict:=WG s.heap rfl;have e2:((s.heap.push emptyDict).push (instObj C s.heap.objs.size)).get? (s.heap.objs.size+1)=some (instObj C s.heap.objs.size):=by have:=WG (s.heap.push emptyDict) (o:=instObj C s.heap.objs.size) rfl;rwa [Xl]at this
 have e3:(s.heap.push emptyDict).Ns s.heap.objs.size (λ_=>none):=⟨emptyDict,#[],_,e1,rfl,(λe he=>absurd he (by simp)),λ_=>rfl⟩;have I1:=I.laid (a:=s.heap.objs.size) (o:=.own (s.heap.objs.size+1)) (h':=s.heap.push emptyDict) (t':=s.toks) (λb u q=>Wq _ q) (Wy _) ⟨_,e1⟩;refine I1.laid (a:=s.heap.objs.size+1) (o:=.ins C s.heap.objs.size []) (t':=s.toks) (λb u q=>Wq _ q) (Nat.le_of_eq (Xl _ _)) ?_;have ne:s.heap.objs.size≠s.heap.objs.size+1:=WJ (Xa _);refine⟨by rw[aG ne,aZ],Xz _,ne,e2,λ_=>none,(Heap.Ns1.of_empty e3).at λo q=>Wq _ q,λ_=>XI,λy hy=>absurd rfl hy⟩
end
structure eE (k:Nat) (A:Around):Prop where
 hd:A.handled=none
 dp:A.depth+3*k+5<recursionLimit
 un:A.units+16*k+200<cLine
theorem eE.mono{j k:Nat}(r:eE k A)(h:j<=k):eE j A:=⟨r.hd,by have:=r.dp;omega,by have:=r.un;omega⟩
theorem eE.deeper{k:Nat}(r:eE (k+1) A)(env:Env):eE k (A.deeper env) :=
 ⟨r.hd,by have:=r.dp;show A.depth+1+3*k+5<_;omega,by have:=r.un;show A.units+3+16*k+200<_;omega⟩
theorem vF{A:Around}{C:Addr}{us:List Value}{kw:List (Str×Value)}:(A.under (.builtin "type.__call__" ⟨.ref C::us,kw⟩)).depth=A.depth+1:=by
 first|rfl|simp[Around.under,Code.weight,Code.isCreation,Code.isGuard,Code.isCaller,Code.frames,Code.isFrame,guardIds]
theorem vG{A:Around}{C:Addr}{us:List Value}{kw:List (Str×Value)}:(A.under (.builtin "type.__call__" ⟨.ref C::us,kw⟩)).units=A.units+1:=by
 first|rfl|simp[Around.under,Code.cUnits,Code.frames,Code.isFrame]
theorem eE.make{k:Nat}(r:eE (k+1) A)(C:Addr)(us:List Value)(kw:List (Str×Value)):eE k (A.under (.builtin "type.__call__" ⟨.ref C::us,kw⟩)) :=
 ⟨r.hd,by have:=r.dp;rw[vF];omega,by have:=r.un;rw[vG];omega⟩
theorem eE.depth{k:Nat}(r:eE k A):A.depth<recursionLimit:=by have:=r.dp;omega
theorem eE.units{k:Nat}(r:eE k A):A.units+64<cLine:=by have:=r.un;omega
def Ie:TA:=λ_ H Q=>Q [] H
def MA(ta:TE)(tr:TA):TA:=λσ H Q=>ta σ H λx H1=>tr σ H1 λxs H2=>Q (x::xs) H2
section
variable {X:Cx} {e:Expr} {es:List Expr} {te:TE} {t:TA} {pos:Pos}
theorem AB:PA X [] Ie:=λ_ _ _ _ H Q I h=>XA ⟨[],H,I,.nil,h⟩
theorem rD(ha:PE X e te)(hr:PA X es t)(hs:starEach (e::es) X.env=(false,eval e X.env)::starEach es X.env:=by rfl):PA X (e::es) (MA te t):=by
 intro pos pins s σ H Q I h;rw[hs];show wpAny _ _ (spliced ((false,eval e X.env)::backTo pos (starEach es X.env))) _ _ s;refine Xg (cH (ha pins s σ H _ I h) λu s1 aL=>?_);obtain⟨x,H1,I1,r1,q1⟩:=aL;exact cH (hr pos pins s1 σ H1 _ I1 q1) λus s2 ⟨xs,H2,I2,r2,q2⟩=>⟨x::xs,H2,I2,.cons r1 r2,q2⟩
def Qq(t:TA):TE:=λσ H Q=>t σ H λxs H1=>xs.length<=sizeLine/\∀p,H1 p=none->Q (.ref p) (upd H1 p (.tup xs))
def Qs(t:TA):TE:=λσ H Q=>t σ H λxs H1=>xs.length<=sizeLine/\∀p,H1 p=none->Q (.ref p) (upd H1 p (.lst xs))
theorem Ig{x1}(h:PA X es t):PE X (.Tuple es x1 pos) (Qq t):=by
 intro pins s σ H Q I hq;refine wpAny_Tuple_spliced (cH (h pos pins s σ H _ I hq) λus s1 ⟨xs,H1,I1,r,z,q⟩=>⟨by rw[<-r.length];exact z,?_⟩);have hf:H1 s1.heap.objs.size=none:=I1.hok.fresh (Wy _);refine⟨.ref s1.heap.objs.size,upd H1 s1.heap.objs.size (.tup xs),I1.laid (t':=s1.toks) (λb u e=>Wq _ e) (Wy _) ?_,rfl,q _ hf⟩;exact⟨z,us,r,⟨_,WG _ rfl,rfl,_,rfl⟩⟩
theorem Ih(h:PA X es t):PE X (.List es pos) (Qs t):=by
 intro pins s σ H Q I hq;refine wpAny_List_spliced (cH (h pos pins s σ H _ I hq) λus s1 ⟨xs,H1,I1,r,z,q⟩=>⟨by rw[<-r.length];exact z,?_⟩);have hf:H1 s1.heap.objs.size=none:=I1.hok.fresh (Wy _);refine⟨.ref s1.heap.objs.size,upd H1 s1.heap.objs.size (.lst xs),I1.laid (t':=s1.toks) (λb u e=>Wq _ e) (Wy _) ?_,rfl,q _ hf⟩;exact⟨z,us,0,r,WG _ rfl⟩
end
abbrev Sp:=List V->Hp->VK->XK->Prop
abbrev yX:=List Env->Hp->Shared->XK->Value->Shared->Prop
structure vH (P:Program) (w:World) (K:Frag) (mg:Str->Option Value) (base:Heap) (A:Around) (outer:List Env) (s:Shared) (H:Hp):Prop where
 frames:A.frames=some outer
 mod:Mod K mg base
 bs:∀b o,base.get? b=some o->s.heap.get? b=some o/\H b=none
 Gi:base.objs.size<=s.heap.objs.size
 nk:s.heap.FunFrames base outer
 Ht:∀b∈frs outer,H b=none
 hok:kN P w H s.heap
 bare:AllBare s.gens
def CE(outer:List Env)(P:Program)(w:World)(H:Hp)(s:Shared)(Q:VK)(u:Value)(s':Shared):Prop :=
 ∃v H',s'.os=s.os/\AllBare s'.gens/\Un (frs outer) [] H H' s.heap s'.heap/\kN P w H' s'.heap/\RelV v u/\Q v H'
def CR(CX:yX)(outer:List Env)(P:Program)(w:World)(H:Hp)(s:Shared)(Q:VK)(E:XK)(r:Result)(s':Shared):Prop :=
 match r with
 |.ok (.ret u)=>CE outer P w H s Q u s'
 |.ok _=>False
 |.error e=>CX outer H s E e s'
structure gu (P:Program) (w:World) (K:Frag) (mg:Str->Option Value) (base:Heap) (CX:yX) (k:Nat) (f:Addr) (fd:FuncData) (ps:List Str) (sp:Sp):Prop where
 len:∀vs H Q E,sp vs H Q E->vs.length=ps.length
 run:∀(A:Around) (outer:List Env) (s:Shared) (H:Hp) (args:Args) (us:List Value) (vs:List V) (Q:VK) (E:XK),eE k A->vH P w K mg base A outer s H->BindsTo s fd args (ps.zip us)->Vals vs us->sp vs H Q E ->
  codeAny (model P w) A (.call (.ref f) args) (CR CX outer P w H s Q E) s
theorem gu.mono{P:Program}{w:World}{K:Frag}{mg:Str->Option Value}{base:Heap}{CX:yX}{j k:Nat}{f:Addr}{fd:FuncData}{ps:List Str}{sp:Sp}(F:gu P w K mg base CX j f fd ps sp)(h:j<=k) :
  gu P w K mg base CX k f fd ps sp:=⟨F.len,λA outer s H args us vs Q E hr=>F.run A outer s H args us vs Q E (hr.mono h)⟩
theorem gu.imp{P:Program}{w:World}{K:Frag}{mg:Str->Option Value}{base:Heap}{CX:yX}{k:Nat}{f:Addr}{fd:FuncData}{ps:List Str}{sp RM:Sp}(F:gu P w K mg base CX k f fd ps sp)
  (h:∀vs H Q E,RM vs H Q E->sp vs H Q E):gu P w K mg base CX k f fd ps RM :=
 ⟨λvs H Q E q=>F.len vs H Q E (h _ _ _ _ q),λA outer s H args us vs Q E hr he hb hv hs=>F.run A outer s H args us vs Q E hr he hb hv (h _ _ _ _ hs)⟩
theorem vH.make{P:Program}{w:World}{K:Frag}{mg:Str->Option Value}{base:Heap}{A:Around}{outer:List Env}{s:Shared}{H:Hp}(e:vH P w K mg base A outer s H)(C:Addr)(us:List Value)(kw:List (Str×Value)) :
  vH P w K mg base (A.under (.builtin "type.__call__" ⟨.ref C::us,kw⟩)) outer s H:=⟨by first|exact e.frames|(simpa [Around.under,Code.envs,Code.isFrame,pushEnvs] using e.frames),e.mod,e.bs,e.Gi,e.nk,e.Ht,e.hok,e.bare⟩
section
variable {X:Cx} {pins:List (Addr×Obj)} {σ:St} {H:Hp} {s s':Shared}
theorem Inv.rE(I:Inv X pins σ H s):vH X.prog X.w X.K X.mg X.base X.A X.stack s H :=
 ⟨I.ok.frames,I.ok.mod,I.bs,WZ I.ok.Gi I.sz,I.stack,I.xq,I.hok,I.bare⟩
theorem Inv.after(I:Inv X pins σ H s)(h:CE X.stack X.prog X.w H s Q u s'):EP X pins σ Q u s':=by
 obtain⟨v,H',os,bare,un,hok,r,q⟩:=h;obtain⟨hh,g,d,t,os'⟩:=s';obtain rfl:os'=s.os:=os;exact⟨v,H',I.call (h':=hh) (g':=g) (d':=d) (t':=t) (ch:=[]) un hok bare (λb z=>absurd z (by simp)),r,q⟩
end
def Gm(sp:Sp)(rF:List V)(E:XK)(t:TA):TE:=λσ H Q=>t σ H λvs H1=>sp (vs++rF) H1 Q E
def Gn(C:Addr)(sp:Sp)(rF:List V)(E:XK)(t:TA):TE:=λσ H Q=>t σ H λvs H1=>∀x dx,H1 x=none->H1 dx=none->dx≠x ->
 sp (.ref x::(vs++rF)) (upd (upd H1 dx (.own x)) x (.ins C dx [])) (λv H2=>v=.non/\Q (.ref x) H2) E
def Binds(K:Frag)(fd:FuncData)(ps:List Str)(ds:List Value):Prop :=
 ∀(s:Shared) (us:List Value),K.In s.heap->(us++ds).length=ps.length->BindsTo s fd ⟨us,[]⟩ (ps.zip (us++ds))
theorem Binds.all{K:Frag}{fd:FuncData}{ps:List Str}(h:∀us:List Value,us.length=ps.length->bindArgs fd ⟨us,[]⟩=pure (ps.zip us)):Binds K fd ps []:=λs us _ hl=>by
 rw[XE]at hl |-;exact .of_eq (h us hl)
def Passes(CX:yX)(X:Cx)(E:XK):Prop:=∀(pins:List (Addr×Obj)) (σ:St) (H:Hp) (s:Shared) (e:Value) (s':Shared),Inv X pins σ H s->CX X.stack H s E e s'->X.xe e s'
section
variable {X:Cx} {CX:yX} {k:Nat} {f C:Addr} {fd:FuncData} {ps:List Str} {sp:Sp} {rF:List V} {ds:List Value} {E:XK} {x m:Str} {p pos apos:Pos} {e o:Expr} {es:List Expr} {ta:TE} {t:TA}
theorem AD(F:gu X.prog X.w X.K X.mg X.base CX k f fd ps sp)(hr:eE k X.A)(hb:Binds X.K fd ps ds)(hd:Vals rF ds)(hx:Passes CX X E)
  (I:Inv X pins σ H s) (r:Vals vs us) (h:sp (vs++rF) H Q E):wpAny (model X.prog X.w) X.A (call (.ref f) us) (EP X pins σ Q) X.xe s:=by
 have r2:Vals (vs++rF) (us++ds):=r.append hd;have hl:(us++ds).length=ps.length:=by rw[<-r2.length];exact F.len _ _ _ _ h
 refine wpAny_call (Yp (F.run X.A X.stack s H ⟨us,[]⟩ (us++ds) (vs++rF) Q E hr I.rE (hb s us I.rq hl) r2 h) λr s' hq=>?_);cases r with
 |error e=>exact hx pins σ H s e s' I hq
 |ok fl=>
  cases fl with
  |ret u=>exact I.after hq
  |next=>exact False.elim hq
  |brk=>exact False.elim hq
  |cont=>exact False.elim hq
theorem DK(F:gu X.prog X.w X.K X.mg X.base CX k f fd ps sp)(hr:eE k X.A)(hg:Gl X x)(hm:X.mg x=some (.ref f))(hk:keepIn X.K (.ref f)=true)(hb:Binds X.K fd ps ds)(hd:Vals rF ds)(hx:Passes CX X E)
  (ha:PA X (e::es) t) (hdb:(x==("__debug__":Str))=false) (he:starEach (e::es) X.env=(false,eval e X.env)::starEach es X.env) (hpl:(backTo pos (starEach es X.env)).any (·.1)=false) :
  PE X (.Call (.Name x p) (e::es) [] pos) (Gm sp rF E t):=by
 intro pins s σ H Q I h;refine W9 (kO I hg hm ?_ hdb);refine callWith_K (h₀:=X.base) I.ok.mod.Po hk (cH (ha pos pins s σ H _ I h) λus s1 ⟨vs,H1,I1,r,q⟩=>⟨I1.rq,?_⟩) he hpl;exact AD F hr hb hd hx I1 r q
theorem AE(F:gu X.prog X.w X.K X.mg X.base CX k f fd ps sp)(hr:eE k X.A)(hg:Gl X x)(hm:X.mg x=some (.ref f))(hk:keepIn X.K (.ref f)=true)(hb:Binds X.K fd ps ds)(hd:Vals rF ds)(hx:Passes CX X E)
  (hdb:(x==("__debug__":Str))=false):PE X (.Call (.Name x p) [] [] pos) (Gm sp rF E Ie):=by
 intro pins s σ H Q I h;refine W9 (kO I hg hm ?_ hdb);exact callWith_K0 I.rq hk (AD (us:=[]) F hr hb hd hx I .nil h)
structure Mk (K:Frag) (C f:Addr):Prop where
 makes:makesIn K C=true
 init:findIn K (.ref C) "__init__" = some (some (.ref f))
 fn:isFn K (.ref f)=true
 kp:keepIn K (.ref C)=true
theorem tD(M:Mk X.K C f)(F:gu X.prog X.w X.K X.mg X.base CX k f fd ps sp)(hr:eE (k+1) X.A)(hb:Binds X.K fd ps ds)(hd:Vals rF ds)
  (hx:Passes CX X E) (I:Inv X pins σ H s) (r:Vals vs us)
  (h:∀x dx,H x=none->H dx=none->dx≠x->sp (.ref x::(vs++rF)) (upd (upd H dx (.own x)) x (.ins C dx [])) (λv H2=>v=.non/\Q (.ref x) H2) E) :
  wpAny (model X.prog X.w) X.A (call (.ref C) us) (EP X pins σ Q) X.xe s:=by
 have hq:=h (s.heap.objs.size+1) s.heap.objs.size (I.hok.fresh (Xo _)) (I.hok.fresh (Wy _)) (WJ (Xa _));have I2:=Inv.made (C:=C) I;have r2:Vals (V.ref (s.heap.objs.size+1)::(vs++rF)) (Value.ref (s.heap.objs.size+1)::(us++ds)):=.cons rfl (r.append hd);have hl:(Value.ref (s.heap.objs.size+1)::us++ds).length=ps.length:=by have e:=r2.length;rw[F.len _ _ _ _ hq]at e;exact e.symm
 refine wpAny_call (Az (f:=f) I.rq M.makes M.init (YU.mp M.fn) (Yp (F.run _ X.stack _ _ ⟨Value.ref (s.heap.objs.size+1)::us,[]⟩ (Value.ref (s.heap.objs.size+1)::(us++ds)) _ _ E (hr.make C us [])
  (I2.rE.make C us []) (hb _ (Value.ref (s.heap.objs.size+1)::us) I2.rq hl) r2 hq) λr s' hq'=>?_))
 cases r with
 |error e=>exact hx pins σ _ _ e s' I2 hq'
 |ok fl=>
  cases fl with
  |ret u=>obtain⟨v,H',I3,rv,ev,q3⟩:=I2.after hq';subst ev;exact⟨rv,⟨V.ref (s.heap.objs.size+1),H',I3,rfl,q3⟩⟩
  |next=>exact False.elim hq'
  |brk=>exact False.elim hq'
  |cont=>exact False.elim hq'
theorem DL(M:Mk X.K C f)(F:gu X.prog X.w X.K X.mg X.base CX k f fd ps sp)(hr:eE (k+1) X.A)(hg:Gl X x)(hm:X.mg x=some (.ref C))(hb:Binds X.K fd ps ds)(hd:Vals rF ds)(hx:Passes CX X E)
  (ha:PA X (e::es) t) (hdb:(x==("__debug__":Str))=false) (he:starEach (e::es) X.env=(false,eval e X.env)::starEach es X.env) (hpl:(backTo pos (starEach es X.env)).any (·.1)=false) :
  PE X (.Call (.Name x p) (e::es) [] pos) (Gn C sp rF E t):=by
 intro pins s σ H Q I h;refine W9 (kO I hg hm ?_ hdb);refine callWith_K (h₀:=X.base) I.ok.mod.Po M.kp (cH (ha pos pins s σ H _ I h) λus s1 ⟨vs,H1,I1,r,q⟩=>⟨I1.rq,?_⟩) he hpl;exact tD M F hr hb hd hx I1 r q
theorem AF(M:Mk X.K C f)(F:gu X.prog X.w X.K X.mg X.base CX k f fd ps sp)(hr:eE (k+1) X.A)(hg:Gl X x)(hm:X.mg x=some (.ref C))(hb:Binds X.K fd ps ds)(hd:Vals rF ds)(hx:Passes CX X E)
  (hdb:(x==("__debug__":Str))=false):PE X (.Call (.Name x p) [] [] pos) (Gn C sp rF E Ie):=by
 intro pins s σ H Q I h;refine W9 (kO I hg hm ?_ hdb);exact callWith_K0 I.rq M.kp (tD (us:=[]) M F hr hb hd hx I .nil h)
end
structure nI (N P:List Str) (sc:Scope):Prop where
 kind:sc.kind=.function
 co:sc.isCoroutine=false
 gen:sc.isGenerator=false
 nd:N.Nodup
 pre:N.take P.length=P
 par:∀x∈P,sc.names.lookup x=some .local\/sc.names.lookup x=some .cell
 Ii:∀y∈sc.names,y.2≠.free
theorem qc{kindOf:Str->Option NameKind}{x:Str}:∀{binds:List (Str×Value)} {m:Str->Option Value},(∀v,(x,v)∉binds)->bindL kindOf binds m x=m x
 |[],_,_=>rfl
 | (n,v)::r,m,h=>by
  unfold bindL;rw[qc λw hw=>h w (Ww _ hw)]
  split
  ·have:x≠n:=by rintro rfl;exact h v Wx
   simp[this]
  ·rfl
theorem qd{kindOf:Str->Option NameKind}{x:Str}:∀{binds:List (Str×Value)} {m:Str->Option Value},(∀v,(x,v)∉binds)->bindC kindOf binds m x=m x
 |[],_,_=>rfl
 | (n,v)::r,m,h=>by
  unfold bindC;rw[qd λw hw=>h w (Ww _ hw)]
  split
  ·rfl
  ·have:x≠n:=by rintro rfl;exact h v Wx
   simp[this]
theorem qf{kindOf:Str->Option NameKind}{x:Str}{v:Value}:∀{P:List Str} {vs:List Value} {i:Nat} {m:Str->Option Value},P.Nodup->P[i]?=some x->vs[i]?=some v->kindOf x=some .local ->
  bindL kindOf (P.zip vs) m x=some v
 |[],_,_,_,_,h,_,_=>by simp at h
 |_::_,[],_,_,_,_,h,_=>by simp at h
 | p::P,w::vs,0,m,nd,h1,h2,hk=>by
  simp at h1 h2;subst h1;subst h2;show bindL kindOf ((p,w)::P.zip vs) m p=_;unfold bindL;rw[qc λv hv=>(W6.mp nd).1 (YW hv).1,Wu hk];simp
 | p::P,w::vs,i+1,m,nd,h1,h2,hk=>by
  show bindL kindOf ((p,w)::P.zip vs) m x=_;unfold bindL;exact qf (i:=i) (W6.mp nd).2 (by simpa using h1) (by simpa using h2) hk
theorem qg{kindOf:Str->Option NameKind}{x:Str}{v:Value}:∀{P:List Str} {vs:List Value} {i:Nat} {m:Str->Option Value},P.Nodup->P[i]?=some x->vs[i]?=some v->kindOf x≠some .local ->
  bindC kindOf (P.zip vs) m x=some v
 |[],_,_,_,_,h,_,_=>by simp at h
 |_::_,[],_,_,_,_,h,_=>by simp at h
 | p::P,w::vs,0,m,nd,h1,h2,hk=>by
  simp at h1 h2;subst h1;subst h2;show bindC kindOf ((p,w)::P.zip vs) m p=_;unfold bindC;rw[qd λv hv=>(W6.mp nd).1 (YW hv).1,Wt hk];simp
 | p::P,w::vs,i+1,m,nd,h1,h2,hk=>by
  show bindC kindOf ((p,w)::P.zip vs) m x=_;unfold bindC;exact qg (i:=i) (W6.mp nd).2 (by simpa using h1) (by simpa using h2) hk
def start(N:List Str)(vs:List V):St:=vs.map some++replicate (N.length-vs.length) none
def vI(CX:yX)(P:Program)(w:World)(K:Frag)(mg:Str->Option Value)(base:Heap)(N:List Str)(qual:Str)(scope:Scope)(f:Addr)(cd:Value)(A:Around)(outer:List Env)(s:Shared)(H:Hp)(E:XK):Cx where
 prog:=P
 w:=w
 K:=K
 mg:=mg
 base:=base
 A:=A.deeper (envOfC qual scope s.heap.objs.size f cd)
 N:=N
 s₀:=s
 H₀:=H
 env:=envOfC qual scope s.heap.objs.size f cd
 outer:=outer
 stack:=envOfC qual scope s.heap.objs.size f cd::outer
 ex:=[]
 calm:=true
 fn:=λ_=>true
 pn:=[]
 xe:=λe s'=>wpAny (model P w) (A.deeper (envOfC qual scope s.heap.objs.size f cd)) (leaving (envOfC qual scope s.heap.objs.size f cd) e) (λ_ s''=>CX outer H s E e s'') (λe' s''=>CX outer H s E e' s'') s'
theorem tE{sc:Scope}{n:Nat}{x:Str}(h:sc.names.lookup x=some .cell):∃c,(cellsFrom n sc.names []).lookup x=some c:=by
 have q:=cellsFrom_some sc.names n [] (.inl h);exact Option.isSome_iff_exists.mp q
theorem yY{CX:yX}{P:Program}{w:World}{K:Frag}{mg:Str->Option Value}{base:Heap}{N ps:List Str}{qual:Str}{scope:Scope}{f:Addr}{cd:Value}{A:Around}{outer:List Env}{s s1:Shared}{H:Hp}{E:XK}{us:List Value}{vs:List V}
  (S:nI N ps scope) (hd:A.handled=none) (e0:vH P w K mg base A outer s H) (hl:vs.length=ps.length) (r:Vals vs us)
  (x:InCallC s s.heap.objs.size (bindL (envOfC qual scope s.heap.objs.size f cd).kindOf (ps.zip us) λ_=>none) (cellsFrom (s.heap.objs.size+1) scope.names []) (bindC (envOfC qual scope s.heap.objs.size f cd).kindOf (ps.zip us) λ_=>none) s1) :
  Inv (vI CX P w K mg base N qual scope f cd A outer s H E) [] (start N vs) H s1:=by
 have hpl:ps.length<=N.length:=by have:=Xf length S.pre;rw[Yy]at this;omega
 obtain⟨h1,tk,rfl,hk⟩:=x.done;have noA:∀b:Addr,b∉(vI CX P w K mg base N qual scope f cd A outer s H E).ex:=λb z=>absurd (show b∈([]:List Addr) from z) (by simp);refine⟨⟨e0.mod,S.kind,rfl,rfl,Wy _,λy z c h1 h2=>?_,λy hy=>?_,λy c _ h=>?_,λ_=>hd,Around.frames_deeper e0.frames,.inr ⟨rfl,rfl⟩,λb z=>absurd z (noA b),e0.bs,e0.Gi,λb _ _=>noA b,λb z=>absurd z (noA b),e0.nk,e0.Ht⟩,
  rfl,e0.bare,Un.kept hk,⟨_,x.toInCall.ns,λi y v h1 h2 h3=>?_⟩,λy c h=>⟨_,x.cell y c h⟩,e0.hok.fresh (Wy _),λy c h=>?_,λp hp=>absurd (show p∈([]:List (Addr×Obj)) from hp) (by simp),e0.hok.kept hk,?_⟩
 ·exact name_of_addr x.apart (Xr h1) (Xr h2)
 ·have hy:scope.names.lookup y=some .cell\/scope.names.lookup y=some .free:=hy
  rcases hy with hy|hy
  ·exact tE hy
  ·exact absurd rfl (S.Ii _ (Xr hy))
 ·exact XS (x.above y c (Xr h))
 ·have hi:i<vs.length:=by
   unfold start at h2
   by_cases hi:i<vs.length
   ·exact hi
   ·rw[WX (by simpa using hi)]at h2;rw[List.getElem?_replicate]at h2;split at h2<;>cases h2
  have ha:vs[i]?=some v:=by
   unfold start at h2;rw[WE (by simpa using hi),WO]at h2;cases e:vs[i]? with
   |none=>rw[e]at h2;cases h2
   |some a=>rw[e]at h2;cases h2;rfl
  obtain⟨u,hu,rv⟩:=r.get ha;have hp:ps[i]?=some y:=by rw[<-S.pre,List.getElem?_take_of_lt (by omega)];exact h1
  have RO:ps.Nodup:=by rw[<-S.pre];exact S.nd.sublist (List.take_sublist _ _)
  refine⟨u,rv,?_⟩
  rcases S.par y (WM hp) with k|k
  ·exact .inl ⟨k,qf RO hp hu k⟩
  ·obtain⟨c,e⟩:=tE (n:=s.heap.objs.size+1) k;refine .inr ⟨.inl k,c,e,?_⟩;have q:=x.cell y c e;rw[qg RO hp hu (by show scope.names.lookup y≠_;rw[k];decide)]at q;exact q
 ·exact e0.hok.fresh (XS (x.above y c (Xr h)))
 ·unfold start;show _=N.length;rw[WN,Wr,List.length_replicate];omega
theorem MB{CX:yX}{P:Program}{w:World}{K:Frag}{mg:Str->Option Value}{base:Heap}{k:Nat}{f:Addr}{name qual:Str}{params:Arguments}{body:List Stmt}{scope:Scope}{dV kV doc pm cdv ct oc:Value}{an od:Option Addr}
  {osl:Array (Option Value)} {N ps:List Str} {sp:Sp} (lk:K.lookup f=some ⟨oc,od,.func (fnOf name qual params body scope dV kV doc pm an cdv ct),osl⟩) (hcd:codeIn K cdv qual=true) (S:nI N ps scope)
  (len:∀vs H Q E,sp vs H Q E->vs.length=ps.length)
  (hbody:∀(A:Around) (outer:List Env) (s:Shared) (H:Hp) (vs:List V) (Q:VK) (E:XK),eE k (A.deeper (envOfC qual scope s.heap.objs.size f cdv))->sp vs H Q E ->
   ∃t,vz (vI CX P w K mg base N qual scope f cdv A outer s H E) body t/\t { nx:=λ_ H'=>Q .non H',rt:=Q } (start N vs) H) :
  gu P w K mg base CX (k+1) f (fnOf name qual params body scope dV kV doc pm an cdv ct) ps sp:=by
 refine⟨len,λA outer s H args us vs Q E hr e0 hb r hsp=>?_⟩;have hl:=len _ _ _ _ hsp;have KX:K.In s.heap:=e0.mod.Po.keeps λb o e=>(e0.bs b o e).1;have lim:s.heap.NoLimit:=e0.mod.nolimit.keeps λb o e=>(e0.bs b o e).1;have hkind:∀y∈ps.zip us,scope.names.lookup y.1=some .local\/(scope.names.lookup y.1=some .cell/\((cellsFrom (s.heap.objs.size+1) scope.names []).lookup y.1).isSome=true):=λ⟨n,v⟩ hy=>by
  rcases S.par n (YW hy).1 with q|q
  ·exact .inl q
  ·exact .inr ⟨q,cellsFrom_some _ _ _ (.inl q)⟩
 refine codeAny_call_function hr.depth (KX _ _ lk) rfl S.co S.gen rfl (PySem.W.codeRec_of KX hcd) (hb _ _ _ _ ?_);refine wpAny_newFunctionEnv_cells S.kind hkind λenv he s1 x=>?_;subst he;refine⟨lim.keeps x.toInCall.keep,codeAny_func ?_⟩;obtain⟨t,ht,hq⟩:=hbody A outer s H vs Q E (hr.deeper _) hsp;have I:Inv (vI CX P w K mg base N qual scope f cdv A outer s H E) [] (start N vs) H s1:=yY S hr.hd e0 hl r x;refine Xu (ht [] s1 (start N vs) H _ I hq) (λfl s' hs=>?_) λe s' hs=>hs;have fin:∀{σ':St} {H':Hp} {v:V} {u:Value},Inv (vI CX P w K mg base N qual scope f cdv A outer s H E) [] σ' H' s'->RelV v u->Q v H'->CE outer P w H s Q u s' :=
  λ{σ' H' v u} J rv q=>⟨v,H',J.os,J.bare,J.base,J.hok,rv,q⟩
 cases fl with
 |ret u=>obtain⟨v,σ',H',J,rv,q⟩:=hs;exact fin J rv q
 |next=>obtain⟨σ',H',J,q⟩:=hs;exact fin (v:=V.non) (u:=Value.none) J rfl q
 |brk=>obtain⟨_,_,_,q⟩:=hs;exact False.elim q
 |cont=>obtain⟨_,_,_,q⟩:=hs;exact False.elim q
section
variable {X:Cx} {x:Str} {p pos:Pos} {e:Expr} {es:List Expr} {t:TA} {id T:String} {r:List V->Hp->VK->Prop}
def RP(r:List V->Hp->VK->Prop)(t:TA):TE:=λσ H Q=>t σ H λvs H1=>r vs H1 Q
theorem f7(hc:cI X (.builtin id) r)(hg:Gl X x)(hm:X.mg x=none)(hv:bootBuiltins x=some (.builtin id))(ha:PA X (e::es) t)(hn:x ≠ "__name__":=by decide)(hdb:(x==("__debug__":Str))=false:=by decide)
  (he:starEach (e::es) X.env=(false,eval e X.env)::starEach es X.env:=by rfl) (hpl:(backTo pos (starEach es X.env)).any (·.1)=false:=by rfl):PE X (.Call (.Name x p) (e::es) [] pos) (RP r t):=by
 intro pins s σ H Q I h;refine W9 (gQ I hg hm hv ?_ hn hdb);exact PyProof.Rows.callWith_builtin1 (cH (ha pos pins s σ H _ I h) λus s1 ⟨vs,H1,I1,r1,q1⟩=>hc pins s1 σ H1 vs us Q I1 r1 q1) he hpl
theorem jH(hc:cI X (.type T) r)(hg:Gl X x)(hm:X.mg x=none)(hv:bootBuiltins x=some (.type T))(ha:PA X (e::es) t)(hn:x ≠ "__name__")(hdb:(x==("__debug__":Str))=false)
  (he:starEach (e::es) X.env=(false,eval e X.env)::starEach es X.env) (hpl:(backTo pos (starEach es X.env)).any (·.1)=false):PE X (.Call (.Name x p) (e::es) [] pos) (RP r t):=by
 intro pins s σ H Q I h;refine W9 (gQ I hg hm hv ?_ hn hdb);exact W5 (cH (ha pos pins s σ H _ I h) λus s1 ⟨vs,H1,I1,r1,q1⟩=>hc pins s1 σ H1 vs us Q I1 r1 q1) he hpl
end
end L2
namespace HT
open PySem PyProof.Rows
def lexLt:List Int->List Int->Bool
 |[],[]=>false
 |[],_::_=>true
 |_::_,[]=>false
 |x::xs,y::ys=>if x=y then lexLt xs ys else decide (x<y)
theorem f9(x y:Int)(xs ys:List Int):lexLt (x::xs) (y::ys)=if x=y then lexLt xs ys else decide (x<y):=rfl
theorem pR:lexLt [] []=false:=rfl
theorem gb(y:Int)(ys:List Int):lexLt [] (y::ys)=true:=rfl
theorem dI(x:Int)(xs:List Int):lexLt (x::xs) []=false:=rfl
section
variable {prog:Program} {w:World} {A:Around} {E:Value->Shared->Prop} {s:Shared}
theorem DM(ht:IsTup s.heap t vs.toArray)(hb:IsTup s.heap b ws.toArray)(hv:vs≠[])
  (h1:ws=[]->Q (.ref t) s) (h2:ws≠[]->Q (.ref s.heap.objs.size) { s with heap:=s.heap.push { cls:=.type "tuple",data:=.seq (vs++ws).toArray } })
  (hsz:vs.length+ws.length<=sizeLine):wpAny (model prog w) A (binaryOp .Add (.ref t) (.ref b)) Q E s:=by
 obtain⟨⟨cls,dd,data,sl⟩,ho,hc,n,hd⟩:=id ht;obtain⟨⟨TQ,dd2,data2,sl2⟩,ho2,hc2,n2,hd2⟩:=id hb;simp only at hc hd hc2 hd2;subst hc hd hc2 hd2;have e:vs.toArray++ws.toArray=(vs++ws).toArray:=by simp
 by_cases hw:ws=[]
 ·exact concat_meets ⟨_,ho,rfl⟩ ⟨_,ho2,rfl⟩ noFill_tuple_add seq_tuple_add PySem.F.slot_tuple_add PySem.F.entry_tuple_add (PySem.F.args_tuple_add_2 _ _)
   (tuple_addW1 t b vs.toArray ws.toArray n n2 dd dd2 sl sl2 (by simpa using hv) (by simp[hw])) ⟨ho,ho2,h1 hw⟩
 ·refine concat_meets ⟨_,ho,rfl⟩ ⟨_,ho2,rfl⟩ noFill_tuple_add seq_tuple_add PySem.F.slot_tuple_add PySem.F.entry_tuple_add (PySem.F.args_tuple_add_2 _ _)
   (tuple_addW2 t b vs.toArray ws.toArray n n2 dd dd2 sl sl2 (by simpa using hv) (by simpa using hw) (by rw[WA,WA];exact hsz)) ⟨ho,ho2,?_⟩
  rw[e];exact h2 hw
def dF(n d:Nat):Option Int->Nat
 |none=>d
 |some v=>if v<0 then (v+(n:Int)).toNat else min v.toNat n
theorem tF(n d:Nat):dF n d none=d:=rfl
theorem xw(n d k:Nat):dF n d (some (k:Int))=min k n:=by
 show (if (k:Int)<0 then ((k:Int)+(n:Int)).toNat else min (k:Int).toNat n)=min k n;rw[Wt (by omega),Int.toNat_natCast]
theorem Ij(n d:Nat)(hd:d<=n)(o:Option Int):dF n d o<=n:=by
 cases o with
 |none=>exact hd
 |some v=>
  show (if v<0 then (v+(n:Int)).toNat else min v.toNat n)<=n
  by_cases hv:v<0
  ·rw[Wu hv];omega
  ·rw[Wt hv];exact Nat.min_le_right _ _
theorem xy(v:Int)(n d:Nat):(if v<0 then max (v+(n:Int)) 0 else min v (n:Int))=((dF n d (some v):Nat):Int):=by
 show (if v<0 then max (v+(n:Int)) 0 else min v (n:Int))=(((if v<0 then (v+(n:Int)).toNat else min v.toNat n):Nat):Int)
 by_cases hv:v<0
 ·simp only[if_pos hv];omega
 ·simp only[if_neg hv];omega
theorem vJ(lo hi:Option Int)(n:Nat):Builtin.Slice.sliceAdjust lo hi 1 (n:Int)=(((dF n 0 lo:Nat):Int),((dF n n hi:Nat):Int)):=by
 have h1:¬ ((1:Int)<0):=by omega
 unfold Builtin.Slice.sliceAdjust;simp only[h1,if_false];refine Prod.ext ?_ ?_
 ·cases lo with
  |none=>rfl
  |some v=>exact xy v n 0
 ·cases hi with
  |none=>rfl
  |some v=>exact xy v n n
theorem vK(i j:Nat):Builtin.Slice.slicePlaces (i:Int) (j:Int) 1=j-i:=by
 unfold Builtin.Slice.slicePlaces;have h1:(1:Int)>0:=by omega
 simp only[h1,if_true,Int.ediv_one]
 split<;>omega
theorem nW{o:Option Int}(p:IsPart v o)(h:Q o s):wpAny (model prog w) A (Builtin.Slice.slicePartIndex v) Q E s:=by
 cases p with
 |none=>exact slicePart_none h
 |int i t=>exact slicePart_int h
theorem lW{lo hi:Option Int}{n:Nat}(hs:s.heap.IsSliceOf sl vl vu .none)(pl:IsPart vl lo)(pu:IsPart vu hi)
  (h:Q (((dF n 0 lo:Nat):Int),1,dF n n hi-dF n 0 lo) s):wpAny (model prog w) A (Builtin.Slice.sliceApplied (.ref sl) (pure (n:Int))) Q E s:=by
 obtain⟨os,hos,hcs,hds⟩:=id hs;unfold Builtin.Slice.sliceApplied Builtin.Slice.sliceFields;refine Wl (Wl (wpAny_field hos hds (x:=vl) rfl (Wl (wpAny_field hos hds (x:=vu) rfl (Wl (wpAny_field hos hds (x:=.none) rfl (Wv ?_)))))));refine Wl (slicePart_none ?_);show wpAny _ _ (if ((1:Int)==0)=true then _ else _) _ _ s;rw[Wt (by decide)];refine Wl (nW pl (Wl (nW pu (Wl (Wv ?_)))));show wpAny _ _ (match Builtin.Slice.sliceAdjust lo hi 1 (n:Int) with|(lo,hi)=>pure (lo,(1:Int),Builtin.Slice.slicePlaces lo hi 1)) _ _ s;rw[vJ lo hi n];show wpAny _ _ (pure (((dF n 0 lo:Nat):Int),(1:Int),Builtin.Slice.slicePlaces ((dF n 0 lo:Nat):Int) ((dF n n hi:Nat):Int) 1)) _ _ s;rw[vK];exact Wv h
theorem AG(xs:Array Value)(i k:Nat):((List.range k).filterMap λ(m:Nat)=>xs[((i:Int)+(m:Int)*1).toNat]?).toArray=((xs.toList.drop i).take k).toArray:=by
 have e:(λ(m:Nat)=>xs[((i:Int)+(m:Int)*1).toNat]?)=λm=>xs[i+m]?:=by
  funext m;have:((i:Int)+(m:Int)*1).toNat=i+m:=by omega
  rw[this]
 rw[e];have:=pick_run xs i k;rw[List.filterMap_map]at this;have e2:((λx=>xs[x]?)∘λx=>i+x)=λm=>xs[i+m]?:=rfl;rw[e2]at this;rw[this]
theorem kR{lo hi:Option Int}(ht:IsTup s.heap t items)(hs:s.heap.IsSliceOf sl vl vu .none)(pl:IsPart vl lo)(pu:IsPart vu hi)
  (hw:¬ (dF items.size 0 lo=0/\dF items.size items.size hi=items.size))
  (h:Q (.ref s.heap.objs.size) { s with heap:=s.heap.push { cls:=.type "tuple",data:=.seq ((items.toList.drop (dF items.size 0 lo)).take (dF items.size items.size hi-dF items.size 0 lo)).toArray } })
  (hsz:items.size<=sizeLine):wpAny (model prog w) A (getItem (.ref t) (.ref sl)) Q E s:=by
 have xA:sizeOk (.seq ((items.toList.drop (dF items.size 0 lo)).take (dF items.size items.size hi-dF items.size 0 lo)).toArray):=by show ((items.toList.drop (dF items.size 0 lo)).take (dF items.size items.size hi-dF items.size 0 lo)).toArray.size<=sizeLine;rw[WA,Yy,Yz,WY];omega
 have hj:dF items.size items.size hi<=items.size:=Ij _ _ (Wy _) hi;obtain⟨os,hos,hcs,hds⟩:=id hs;have Qt:s.TypeIs (.ref sl) "slice":=⟨os,hos,hcs⟩;unfold getItem
 try with_reducible refine Xx ?_
 first|refine Wl (Wv ?_)|skip
 refine Wl (wpAny_sequenceKey ht.typeIs (by decide) ?_);refine Wl (Yk (name:=Str.ofString "__getitem__") ht.typeIs PyProof.Rows.slot_tuple_getitem
  (XQ PyProof.Rows.slot_tuple_getitem ht.typeIs entry_tuple_getitem ?_ (args_tuple_getitem _ _)))
 show wpAny _ _ (Builtin.Tuple.tupleItemsOf (.ref t) >>= _) _ _ s;refine Wl (tupleItemsOf_ ht ?_);refine Wl (wpAny_typeOf Qt ?_);rw[Wu (by decide)];refine Wl (lW hs pl pu ?_);have hno:¬ ((((dF items.size 0 lo:Nat):Int)==0&&(1:Int)==1&&(dF items.size items.size hi-dF items.size 0 lo)==items.size)=true):=by intro q;rw[X8,X8]at q;have q1:((dF items.size 0 lo:Nat):Int)=0:=eq_of_beq q.1.1;have q2:dF items.size items.size hi-dF items.size 0 lo=items.size:=eq_of_beq q.2;exact hw ⟨by omega,by omega⟩
 show wpAny _ _ (if (((dF items.size 0 lo:Nat):Int)==0&&(1:Int)==1&&(dF items.size items.size hi-dF items.size 0 lo)==items.size)=true then _ else _) _ _ s;rw[Wt hno,AG]
 first
  |exact Wl (m:=Builtin.Tuple.tupleExact _) (W2 (Wv ⟨_,rfl,Wv h⟩) xA)
  |exact Wl (m:=Builtin.Tuple.tupleExact _) (W2 (Wl (Wv (Wv ⟨_,rfl,Wv h⟩))) xA)
  |exact Wl (Wl (m:=Builtin.Tuple.tupleExact _) (W2 (Wv (Wv ⟨_,rfl,Wv h⟩)) xA))
  |exact Wl (Wl (m:=Builtin.Tuple.tupleExact _) (W2 (Wv ⟨_,rfl,Wv h⟩) xA))
end
end HT
namespace L2
open PySem PySem.Spec PyProof.Rows
abbrev TO:=St->Hp->(Option Int->Hp->Prop)->Prop
def PO(X:Cx)(e:Option Expr)(t:TO):Prop :=
 ∀(pins:List (Addr×Obj)) (s:Shared) (σ:St) (H:Hp) (Q:Option Int->Hp->Prop),Inv X pins σ H s->t σ H Q ->
  wpAny (model X.prog X.w) X.A (evalPart e X.env) (λu s'=>∃o H',Inv X pins σ H' s'/\IsPart u o/\Q o H') X.xe s
def DN:TO:=λ_ H Q=>Q none H
def MC(t:TE):TO:=λσ H Q=>t σ H λx H1=>∃i,x=.int i/\Q (some i) H1
theorem intsAre_of{ns:List Int}:∀{us:List Value},Vals (ns.map V.int) us->IntsAre us ns:=by
 induction ns with
 |nil=>intro us r;rw[XT]at r;cases r;exact .nil
 |cons n ns ih=>
  intro us r;rw[WI]at r;cases r with
  |cons r1 r2=>obtain⟨t,e⟩:=r1;subst e;exact .cons n t (ih r2)
section
variable {X:Cx} {e:Expr} {te:TE} {lo hi:Option Expr} {tl th:TO} {pos p2:Pos}
theorem DO:PO X none DN:=by
 intro pins s σ H Q I h;rw[evalPart_none];exact Wv ⟨none,H,I,.none,h⟩
theorem DP(h:PE X e te):PO X (some e) (MC te):=by
 intro pins s σ H Q I hw;rw[evalPart_some];refine cH (h pins s σ H _ I hw) λu s1 aL=>?_;obtain⟨x,H1,I1,r1,q1⟩:=aL;obtain⟨i,rfl,q⟩:=q1;obtain⟨t,rfl⟩:=r1;exact⟨some i,H1,I1,.int i t,q⟩
def Pz(X:Cx)(r:V->Option Int->Option Int->Hp->VK->Prop):Prop :=
 ∀(pins:List (Addr×Obj)) (s:Shared) (σ:St) (H:Hp) (x:V) (v vl vu:Value) (lo hi:Option Int) (sl:Addr) (Q:VK),Inv X pins σ H s->RelV x v->s.heap.IsSliceOf sl vl vu .none->IsPart vl lo->IsPart vu hi->r x lo hi H Q ->
  ∃T id,typeLookup (.type T) "__getitem__" = pure (some (.builtin id))/\s.TypeIs v T/\wpAny (model X.prog X.w) X.A (getItem v (.ref sl)) (EP X pins σ Q) X.xe s
def TR(r:V->Option Int->Option Int->Hp->VK->Prop)(te:TE)(tl th:TO):TE:=λσ H Q=>te σ H λx H1=>tl σ H1 λl H2=>th σ H2 λu H3=>r x l u H3 Q
theorem AH(hr:Pz X r)(he:PE X e te)(hl:PO X lo tl)(hu:PO X hi th):PE X (.Subscript e (.Slice lo hi none p2) pos) (TR r te tl th):=by
 intro pins s σ H Q I h;refine Subscript_ (cH (he pins s σ H _ I h) λv s1 aL=>?_);obtain⟨x,H1,I1,r1,q1⟩:=aL;refine wpAny_Slice (cH (hl pins s1 σ H1 _ I1 q1) λvl s2 ⟨l,H2,I2,pl,q2⟩=>cH (hu pins s2 σ H2 _ I2 q2) λvu s3 aL=>?_);obtain⟨u,H3,I3,pu,q3⟩:=aL;rw[evalPart_none];refine Wv ?_;have I4:Inv X pins σ H3 { s3 with heap:=s3.heap.push { cls:=.type "slice",data:=.fields [vl,vu,.none].toArray } }:=I3.kept (t':=s3.toks) λb ob q=>Wq _ q;obtain⟨T,id,hT,ht,hg⟩:=hr pins { s3 with heap:=s3.heap.push { cls:=.type "slice",data:=.fields [vl,vu,.none].toArray } } σ H3 x v vl vu l u s3.heap.objs.size Q I4 r1 (Heap.IsSliceOf.new ..) pl pu q3;show wpAny (model X.prog X.w) X.A (subscriptTail e (.Slice lo hi none p2) v (.ref s3.heap.objs.size)) (EP X pins σ Q) X.xe { s3 with heap:=s3.heap.push { cls:=.type "slice",data:=.fields [vl,vu,.none].toArray } };exact tail_any (ops:=[.ref s3.heap.objs.size,v]) ht hT hg (by with_unfolding_all rfl)
def tG(xs:List V)(lo hi:Option Int):List V:=(xs.drop (HT.dF xs.length 0 lo)).take (HT.dF xs.length xs.length hi-HT.dF xs.length 0 lo)
theorem mL(xs:List V)(lo hi:Option Int):(tG xs lo hi).length<=xs.length:=by
 unfold tG;rw[Yy,Yz];omega
def Qu(K:Frag):V->Option Int->Option Int->Hp->VK->Prop:=λx lo hi H Q=>∃a xs,x=.ref a/\iV K H a xs /\
 ¬ (HT.dF xs.length 0 lo=0/\HT.dF xs.length xs.length hi=xs.length)/\∀p,H p=none->Q (.ref p) (upd H p (.tup (tG xs lo hi)))
theorem Il:Pz X (Qu X.K):=by
 intro pins s σ H x v vl vu lo hi sl Q I rx hs pl pu h;obtain⟨a,xs,rfl,hx,hw,q⟩:=h;cases rx;obtain⟨its,r,ht,hz⟩:=I.tuple hx;have hlen:its.toArray.size=xs.length:=by rw[WA];exact r.length.symm
 refine⟨"tuple",_,PyProof.Rows.slot_tuple_getitem.lookup,ht.typeIs,?_⟩;refine HT.kR ht hs pl pu (by rw[hlen];exact hw) ?_ (by rw[hlen];exact hz);rw[hlen];refine⟨.ref s.heap.objs.size,_,I.laid (t':=s.toks) (o:=.tup (tG xs lo hi)) (λb ob q=>Wq _ q) (Wy _) ?_,rfl,q _ (I.hok.fresh (Wy _))⟩;exact⟨WZ (mL xs lo hi) hz,_,(r.drop (HT.dF xs.length 0 lo)).take (HT.dF xs.length xs.length hi-HT.dF xs.length 0 lo),IsTup.new _ _⟩
def MD(K:Frag):R2:=λx y H Q=>∃a b xs ys,x=.ref a/\y=.ref b/\iV K H a xs/\iV K H b ys/\xs≠[]/\xs.length+ys.length<=sizeLine /\
 (ys=[]->Q (.ref a) H)/\(ys≠[]->∀p,H p=none->Q (.ref p) (upd H p (.tup (xs++ys))))
theorem Vals.rG(r:Vals xs us):us=[]↔xs=[]:=by
 cases r with
 |nil=>simp
 |cons _ _=>simp
theorem DQ:lT X (binaryOp .Add) (MD X.K):=by
 intro pins s σ H x y v u Q I rx ry h;obtain⟨a,b,xs,ys,rfl,rfl,ha,hb,hx,hz,q1,q2⟩:=h;cases rx;cases ry;obtain⟨its,r1,p1,_⟩:=I.tuple ha;obtain⟨its2,r2,p2,_⟩:=I.tuple hb;refine HT.DM p1 p2 (λz=>hx (r1.rG.mp z)) (λz=>⟨.ref a,H,I,rfl,q1 (r2.rG.mp z)⟩) (λz=>?_) (by rw[<-r1.length,<-r2.length];exact hz);refine⟨.ref s.heap.objs.size,_,I.laid (t':=s.toks) (o:=.tup (xs++ys)) (λb ob q=>Wq _ q) (Wy _) ?_,rfl,q2 (λw=>z (r2.rG.mpr w)) _ (I.hok.fresh (Wy _))⟩;exact⟨by rw[WN];exact hz,_,r1.append r2,IsTup.new _ _⟩
end
def tH(n:Nat)(i:Int):Option Nat:=if 0<=i then (if i<n then some i.toNat else none) else if -(n:Int)<=i then some (i+n).toNat else none
def gA{α:Type}(xs:List α)(i:Int):Option α:=(tH xs.length i).bind λj=>xs[j]?
theorem xB{n:Nat}{i:Int}{j:Nat}(h:tH n i=some j):seqIndex? i n=some j/\j<n /\ -(n:Int)<=i/\i<n:=by
 unfold tH at h
 by_cases h0:0<=i
 ·rw[Wu h0]at h
  by_cases h1:i<n
  ·rw[Wu h1]at h;have e:i.toNat=j:=WR h;exact⟨by rw[seqIndex_of h0 h1,e],by omega,by omega,h1⟩
  ·rw[Wt h1]at h;cases h
 ·rw[Wt h0]at h
  by_cases h1:-(n:Int)<=i
  ·rw[Wu h1]at h;have e:(i+n).toNat=j:=WR h;exact⟨by rw[seqIndex_neg (by omega) h1,e],by omega,h1,by omega⟩
  ·rw[Wt h1]at h;cases h
theorem rH{α:Type}{xs:List α}{i:Int}{v:α}(h:gA xs i=some v):∃j,seqIndex? i xs.length=some j/\xs[j]?=some v/\j<xs.length /\ -(xs.length:Int)<=i/\i<xs.length:=by
 unfold gA at h;cases e:tH xs.length i with
 |none=>rw[e]at h;cases h
 |some j=>rw[e]at h;obtain⟨h1,h2,h3,h4⟩:=xB e;exact⟨j,h1,h,h2,h3,h4⟩
theorem kT{α:Type}{xs:List α}{j:Nat}{v:α}(h:xs[j]?=some v):gA xs (j:Int)=some v:=by
 have hj:j<xs.length:=(Wo.mp h).1;have e:tH xs.length (j:Int)=some j:=by unfold tH;rw[Wu (by omega),Wu (by omega)];simp
 unfold gA;rw[e];exact h
def xC(b:Expr):Prop:=∀o i,subscripted b false o i=operate [o,i] (getItem o i)
def LJ(X:Cx)(r:R2):Prop :=
 ∀(value slice:Expr) (pins:List (Addr×Obj)) (s:Shared) (σ:St) (H:Hp) (x y:V) (v u:Value) (Q:VK),Inv X pins σ H s->RelV x v->RelV y u->r x y H Q ->
  subscripted slice false v u=operate [v,u] (getItem v u)->wpAny (model X.prog X.w) X.A (subscriptTail value slice v u) (EP X pins σ Q) X.xe s
def LK(X:Cx)(id:String)(r:V->List V->Hp->VK->Prop):Prop :=
 ∀(pins:List (Addr×Obj)) (s:Shared) (σ:St) (H:Hp) (x:V) (xs:List V) (v:Value) (us:List Value) (Q:VK),Inv X pins σ H s->RelV x v->Vals xs us->r x xs H Q ->
  wpAny (model X.prog X.w) X.A (call (.builtin id) (v::us)) (EP X pins σ Q) X.xe s
section
variable {X:Cx} {a b:Expr} {ta tb:TE} {pos:Pos}
theorem ME(hr:LJ X r)(ha:PE X a ta)(hb:PE X b tb)(hs:xC b):PE X (.Subscript a b pos) (Px r ta tb):=by
 intro pins s σ H Q I h;exact Subscript_ (HS ha hb I h λv u s2 x y H2 I2 rx ry q=>hr a b pins s2 σ H2 x y v u Q I2 rx ry q (hs _ _))
def Qv(K:Frag):R2:=λx y H Q=>∃p xs i v,x=.ref p/\y=.int i/\gR K H p xs/\gA xs i=some v/\Q v H
def Qw(K:Frag):R2:=λx y H Q=>∃p xs i v,x=.ref p/\y=.int i/\iV K H p xs/\gA xs i=some v/\Q v H
def Qx:R2:=λx y H Q=>∃z i c,x=.str z/\y=.int i/\z.length<=sizeLine/\gA z.cps.toList i=some c/\Q (.str ⟨[c].toArray⟩) H
theorem xD:LJ X (Qv X.K):=by
 intro value slice pins s σ H x y v u Q I rx ry h hs;obtain⟨p,xs,i,z,rfl,rfl,hq,he,q⟩:=h;cases rx;obtain⟨t,rfl⟩:=ry;obtain⟨its,r,pl,hz⟩:=I.list hq;obtain⟨j,h1,h2,h3,h4,h5⟩:=rH he;obtain⟨w,ew,rw'⟩:=r.get h2;have hl:=r.length;have hn:=lV;have fin:EP X pins σ Q w s:=⟨z,H,I,rw',q⟩
 by_cases h0:0<=i
 ·have hj:i.toNat=j:=by
   rw[seqIndex_of h0 h5]at h1;exact WR h1
  exact item_listR pl.isList h0 (by omega) (by rw[hj];simpa using ew) fin hs
 ·have hj:(i+(its.toArray.size:Int)).toNat=j:=by
   rw[seqIndex_neg (by omega) h4]at h1;rw[WA,<-hl];exact WR h1
  exact subscriptTail_builtinR (x:=w) pl.isList.typeIs slot_list_getitem.lookup
   (wpAny_getItem_list_neg (Q:=λr s'=>r=w/\EP X pins σ Q r s') pl.isList (by omega) (by rw[WA]<;>omega) (by omega) (by rw[hj];simpa using ew) ⟨rfl,fin⟩) hs
theorem Im:LJ X (Qw X.K):=by
 intro value slice pins s σ H x y v u Q I rx ry h hs;obtain⟨p,xs,i,z,rfl,rfl,hq,he,q⟩:=h;cases rx;obtain⟨t,rfl⟩:=ry;obtain⟨its,r,pl,hz⟩:=I.tuple hq;obtain⟨j,h1,h2,h3,h4,h5⟩:=rH he;obtain⟨w,ew,rw'⟩:=r.get h2;have hl:=r.length;have hn:=lV;have fin:EP X pins σ Q w s:=⟨z,H,I,rw',q⟩;exact subscriptTail_builtinR (x:=w) pl.typeIs slot_tuple_getitem.lookup
  (getItem_tuple (j:=j) (Q:=λr s'=>r=w/\EP X pins σ Q r s') pl (by omega) (by omega) (by rw[WA,<-hl];exact h1) (by simpa using ew) ⟨rfl,fin⟩) hs
theorem Io:LJ X Qx:=by
 intro value slice pins s σ H x y v u Q I rx ry h hs;obtain⟨z,i,c,rfl,rfl,hz,he,q⟩:=h;obtain⟨t,rfl⟩:=rx;obtain⟨t',rfl⟩:=ry;obtain⟨j,h1,h2,h3,h4,h5⟩:=rH he;have hl:z.cps.toList.length=z.length:=by simp[Str.length]
 rw[hl]at h1 h4 h5;have hn:=lV;exact tail_any (typeIs_str s z t) slot_str_getitem.lookup (getItem_str (c:=c) (by
  have e1:decide (i < -(2 ^ 63:Int))=false:=decide_eq_false (by omega);have e2:decide (i≥2 ^ 63)=false:=decide_eq_false (by omega);rw[e1,e2,Bool.or_false]) (by rw[h1];simpa using h2) ⟨.str ⟨[c].toArray⟩,H,I.tok _,⟨_,rfl⟩,q⟩) hs
theorem vL(its:List Value)(n j:Nat)(u:Value):Obj.mapSeq (·.setIfInBounds j u) { cls:=.type "list",data:=.seq its.toArray n }={ cls:=.type "list",data:=.seq (its.set j u).toArray n }:=by
 simp[Obj.mapSeq]
theorem Inv.lst(I:Inv X pins σ H s)(h:H p=some (.lst xs)) :
  ∃(its:List Value) (n:Nat),Vals xs its/\s.heap.get? p=some { cls:=.type "list",data:=.seq its.toArray n }/\xs.length<=sizeLine:=by
 obtain⟨z,its,n,r,e⟩:=I.hok p _ h;exact⟨its,n,r,e,z⟩
theorem Inv.Ip{pins:List (Addr×Obj)}{σ:St}{H:Hp}{s:Shared}{p:Addr}{xs ys:List V}{its its':List Value}{n n':Nat}{f:Obj->Obj}(I:Inv X pins σ H s)(h:H p=some (.lst xs))
  (ho:s.heap.get? p=some { cls:=.type "list",data:=.seq its.toArray n }) (hf:f { cls:=.type "list",data:=.seq its.toArray n }={ cls:=.type "list",data:=.seq its'.toArray n' }) (r:Vals ys its') (hz:ys.length<=sizeLine) (t:Nat) :
  Inv X pins σ (upd H p (.lst ys)) { s with heap:=s.heap.update p f,toks:=t }:=by
 have e:(s.heap.update p f).get? p=some { cls:=.type "list",data:=.seq its'.toArray n' }:=by rw[Xe f ho (by rw[hf]<;>rfl),hf]
 refine I.write (x:=p) (e:=p) (by rw[h];trivial) (.inl rfl) (λb u hb q=>(XU _ _ (Ne.symm hb)).trans q) ⟨_,e⟩ ?_;exact⟨hz,its',n',r,e⟩
def MF:V->V->V->Hp->(Hp->Prop)->Prop:=λo i v H Q=>∃p xs k j,o=.ref p/\i=.int k/\H p=some (.lst xs)/\tH xs.length k=some j/\Q (upd H p (.lst (xs.set j v)))
theorem set_list:HM X MF:=by
 intro pins s σ H o i v ov iv u Q I ro ri rv h;obtain⟨p,xs,k,j,rfl,rfl,hp,hj,q⟩:=h;cases ro;obtain⟨t,rfl⟩:=ri;obtain⟨its,n,r,ho,hz⟩:=I.lst hp;obtain⟨h1,h2,h3,h4⟩:=xB hj;have hl:=r.length;have hn:=lV;have I':Inv X pins σ (upd H p (.lst (xs.set j v))) { s with heap:=s.heap.update p (Obj.mapSeq (·.setIfInBounds j u)) } :=
  I.Ip hp ho (vL its n j u) (r.set rv j) (by rw[YX];exact hz) s.toks
 by_cases h0:0<=k
 ·have hk:k.toNat=j:=by
   rw[seqIndex_of h0 h4]at h1;exact WR h1
  exact PySem.W.ki_setAt ho h0 (by omega) (by rw[WA,<-hl];exact h4) (by rw[hk];exact⟨_,I',q⟩)
 ·have hk:(k+(its.toArray.size:Int)).toNat=j:=by
   rw[seqIndex_neg (by omega) h3]at h1;rw[WA,<-hl];exact WR h1
  exact PySem.W.ki_setBack ho (by omega) (by rw[WA,<-hl];exact h3) (by omega) (by rw[hk];exact⟨_,I',q⟩)
theorem rJ(lo hi:Option Int)(n:Nat):(sliceBounds lo hi none n).1=((HT.dF n 0 lo:Nat):Int)/\(sliceBounds lo hi none n).2.1=((HT.dF n n hi:Nat):Int)/\(sliceBounds lo hi none n).2.2=1:=by
 refine⟨?_,?_,rfl⟩
 ·cases lo with
  |none=>simp[sliceBounds,HT.dF]
  |some i=>
   simp only[sliceBounds,HT.dF,getD_none,show (1:Int)>0 by decide,if_true]
   by_cases h:i<0
   ·simp only[h,if_true]<;>omega
   ·simp only[h,if_false]<;>omega
 ·cases hi with
  |none=>simp[sliceBounds,HT.dF]
  |some i=>
   simp only[sliceBounds,HT.dF,getD_none,show (1:Int)>0 by decide,if_true]
   by_cases h:i<0
   ·simp only[h,if_true]<;>omega
   ·simp only[h,if_false]<;>omega
theorem pS(its:List Value)(lo hi:Option Int):slicePick its.toArray lo hi none=((its.drop (HT.dF its.length 0 lo)).take (HT.dF its.length its.length hi-HT.dF its.length 0 lo)).toArray:=by
 obtain⟨h1,h2,h3⟩:=rJ lo hi its.toArray.size;unfold slicePick;rw[h1,h2,h3];simp only[sliceRange_one,pick_run,size_toArray]<;>rfl
def Qy(K:Frag):V->Option Int->Option Int->Hp->VK->Prop:=λx lo hi H Q=>∃a xs,x=.ref a/\gR K H a xs/\∀p,H p=none->Q (.ref p) (upd H p (.lst (tG xs lo hi)))
theorem DR:Pz X (Qy X.K):=by
 intro pins s σ H x v vl vu lo hi sl Q I rx hs pl pu h;obtain⟨a,xs,rfl,hx,q⟩:=h;cases rx;obtain⟨its,r,ht,hz⟩:=I.list hx;have hlen:=r.length;refine⟨"list",_,slot_list_getitem.lookup,ht.isList.typeIs,?_⟩;refine wpAny_getItem_list_slice ht.isList hs pl pu .none (by simp) ?_ (by rw[WA]<;>omega);rw[pS,<-hlen];refine⟨.ref s.heap.objs.size,_,I.laid (t':=s.toks) (o:=.lst (tG xs lo hi)) (λb ob q=>Wq _ q) (Wy _) ?_,rfl,q _ (I.hok.fresh (Wy _))⟩;exact⟨WZ (mL xs lo hi) hz,_,0,(r.drop (HT.dF xs.length 0 lo)).take (HT.dF xs.length xs.length hi-HT.dF xs.length 0 lo),WG _ rfl⟩
def bz:V->Bool
 |.non=>true
 |.bl _=>true
 |.int _=>true
 |.str _=>true
 |_=>false
theorem rK:cI X (.type "list") (λxs H Q=>∃p ys,xs=[.ref p]/\(gR X.K H p ys\/iV X.K H p ys)/\∀l,H l=none->Q (.ref l) (upd H l (.lst ys))):=by
 intro pins s σ H xs us Q I r h;obtain⟨p,ys,rfl,hq,q⟩:=h;obtain⟨u,rfl,rx⟩:=vals1 r;cases rx;have fin:∀(its:List Value),Vals ys its->ys.length<=sizeLine->∀(h':Heap) (c':Nat),(∀b o',s.heap.get? b=some o'->h'.get? b=some o') ->
   h'.get? s.heap.objs.size=some { cls:=.type "list",dict:=none,data:=.seq its.toArray c',slots:=#[] }->EP X pins σ Q (.ref s.heap.objs.size) { s with heap:=h' }:=λits r' hz h' c' kp e=>
  ⟨.ref s.heap.objs.size,_,I.laid (t':=s.toks) kp (Wy _) (show cg X.prog X.w _ h' _ (.lst ys) from⟨hz,its,c',r',e⟩),rfl,q _ (I.hok.fresh (Wy _))⟩
 rcases hq with hq|hq
 ·obtain⟨its,r',pl,hz⟩:=I.list hq;have hlen:=r'.length;obtain⟨o,ho,hc,n,hd⟩:=pl.isList;exact call_list_seq p (.inl rfl) ho hc hd (λh' c' kp e=>fin its r' hz h' c' kp e) (by simp only[size_toArray]<;>omega)
 ·obtain⟨its,r',pl,hz⟩:=I.tuple hq;have hlen:=r'.length;obtain⟨o,ho,hc,n,hd⟩:=pl;exact call_list_seq p (.inr rfl) ho hc hd (λh' c' kp e=>fin its r' hz h' c' kp e) (by simp only[size_toArray]<;>omega)
def Qz(K:Frag)(T:String)(x:V)(H:Hp):Prop:=match x with
 |.str _=>T = "str"
 |.int _=>T = "int"
 | .ref p=>(T = "list" /\ ∃xs,gR K H p xs)\/(T = "tuple" /\ ∃o,K.lookup p=some o/\o.cls=.type "tuple" /\ o.dict=none) \/
   (T = "dict" /\ ((∃kvs,H p=some (.dK kvs))\/∃kvs,H p=some (.dT kvs)))\/(T = "set" /\ ∃S n,H p=some (.set S n))
 |_=>False
theorem Iq{T:String}(I:Inv X pins σ H s)(r:RelV x v)(ty:Qz X.K T x H) :
  s.TypeIs v T/\∀a,v=.ref a->∃ob,s.heap.get? a=some ob/\ob.dict=none:=by
 cases x with
 |str z=>obtain⟨t,rfl⟩:=r;cases (show T = "str" from ty);exact⟨typeIs_str s z t,λ_ e=>nomatch e⟩
 |int i=>obtain⟨t,rfl⟩:=r;cases (show T = "int" from ty);exact⟨typeIs_int s i t,λ_ e=>nomatch e⟩
 |ref p=>
  cases r
  rcases ty with ⟨rfl,xs,hq⟩|⟨rfl,o,hk,hc,hd⟩|⟨rfl,hk⟩|⟨rfl,S,n,hk⟩
  ·obtain⟨its,_,pl,_⟩:=I.list hq;refine⟨pl.isList.typeIs,λa e=>?_⟩;cases e;obtain⟨o,n,e,c,hd,_⟩:=pl;exact⟨o,e,hd⟩
  ·refine⟨⟨o,I.rq p o hk,hc⟩,λa e=>?_⟩;cases e;exact⟨o,I.rq _ o hk,hd⟩
  ·have z:∃o,s.heap.get? p=some o/\o.ExactDict:=by
    rcases hk with ⟨kvs,hk⟩|⟨kvs,hk⟩
    ·obtain⟨_,_,_,_,o,_,_,e,ex,_⟩:=I.hok p _ hk;exact⟨o,e,ex⟩
    ·obtain⟨_,_,_,_,o,_,_,e,ex,_⟩:=I.hok p _ hk;exact⟨o,e,ex⟩
   obtain⟨o,e,ex⟩:=z;refine⟨⟨o,e,ex.1⟩,λa e2=>?_⟩;cases e2;exact⟨o,e,ex.2.1⟩
  ·obtain⟨o,_,_,_,e,ex,_⟩:=I.hok p _ hk;refine⟨⟨o,e,ex.1⟩,λa e2=>?_⟩;cases e2;exact⟨o,e,ex.2.1⟩
 |_=>exact False.elim ty
def RQ(K:Frag)(T:String)(r:V->List V->Hp->VK->Prop)(to:TE)(t:TA):TE:=λσ H Q=>to σ H λx H1=>Qz K T x H1/\t σ H1 λxs H2=>r x xs H2 Q
variable {o e:Expr} {es:List Expr} {to:TE} {t:TA} {name:Str} {apos cpos:Pos} {T id:String} {r:V->List V->Hp->VK->Prop}
theorem xE(pa:PlainAttrs T)(slot:Slot T name id)(hty:typeOf (.builtin id)=pure (.type "method_descriptor"))(hm:LK X id r)(ho:PE X o to)(ha:PA X (e::es) t)
  (hbase:attributeBase o name X.env (eval o X.env)=eval o X.env)
  (hfew:((backTo cpos (starEach (e::es) X.env)).all (λx=>!x.1)&&(backToKw cpos (keywordEach [] X.env)).all (λx=>x.1.isSome)
   && decide ((e::es).length+([]:List Keyword).length+(if ([]:List Keyword).isEmpty then 0 else 1)<30))=true)
  (hline:(apos.endLine==cpos.line)=true) (hs:starEach (e::es) X.env=(false,eval e X.env)::starEach es X.env) (hplain:(backTo cpos (starEach es X.env)).any (·.1)=false) :
  PE X (.Call (.Attribute o name apos) (e::es) [] cpos) (RQ X.K T r to t):=by
 intro pins s σ H Q I h;refine wpAny_Call_method_late hbase hfew hline rfl (cH (ho pins s σ H _ I h) λv s1 aL=>?_);obtain⟨x,H1,I1,r1,ty,q1⟩:=aL;obtain⟨h1,h2⟩:=Iq I1 r1 ty;refine⟨T,id,pa,slot,hty,h1,h2,?_⟩;have hA:=ha cpos pins s1 σ H1 _ I1 q1;rw[hs]at hA |-;refine XW (by show (false||(backTo cpos (starEach es X.env)).any (·.1))=false;rw[hplain]<;>rfl) (YD ?_);exact cH hA λus s2 ⟨vs,H2,I2,r2,q2⟩=>hm pins s2 σ H2 x vs v us Q I2 r1 r2 q2
/- xs.append(e),list.index on a MG tuple .. are LK facts of 06m -/
end
def PB(X:Cx)(id:String)(r:V->List V->Hp->VK->Prop):Prop :=
 ∀(pins:List (Addr×Obj)) (s:Shared) (σ:St) (H:Hp) (x:V) (xs:List V) (v:Value) (us:List Value) (Q:VK),Inv X pins σ H s->RelV x v->Vals xs us->r x xs H Q ->
  wpAny (model X.prog X.w) X.A (call (.builtin id) (v::us)) (EP X pins σ Q) X.xe s
theorem Vals.one:∀{x:V} {us:List Value},Vals [x] us->∃u,us=[u]/\RelV x u
 |_,_,.cons r .nil=>⟨_,rfl,r⟩
theorem Vals.eraseIdx:∀{xs:List V} {us:List Value} (i:Nat),Vals xs us->Vals (xs.eraseIdx i) (us.eraseIdx i)
 |_,_,_,.nil=>.nil
 |_,_,0,.cons _ t=>t
 |_,_,i+1,.cons r t=>.cons r (Vals.eraseIdx i t)
theorem qh{α:Type}:∀(l:List α) (i:Nat),(l.eraseIdx i).length<=l.length
 |[],_=>Wy _
 |_::_,0=>Xo _
 |_::r,i+1=>Nat.succ_le_succ (qh r i)
section
variable {X:Cx} {pins:List (Addr×Obj)} {σ:St} {H:Hp} {s:Shared} {l b:Addr} {xs ys zs:List V}
theorem Inv.DS{its its':List Value}{n:Nat}{f:Array Value->Array Value}{t':Nat}(I:Inv X pins σ H s)(hH:H l=some (.lst xs))
  (e:s.heap.get? l=some { cls:=.type "list",data:=.seq its.toArray n }) (hf:f its.toArray=its'.toArray) (hv:Vals ys its') (hz:ys.length<=sizeLine) :
  Inv X pins σ (upd H l (.lst ys)) { s with heap:=s.heap.update l (Obj.mapSeq f),toks:=t' }:=by
 have q:=PySem.IsL.update e f;rw[hf]at q;refine I.write (x:=l) (e:=l) (by rw[hH];exact trivial) (.inl rfl) (λb' u hb hu=>(XU s.heap (Obj.mapSeq f) (Ne.symm hb)).trans hu) ⟨_,q⟩ ?_;exact⟨hz,its',_,hv,q⟩
theorem Inv.QA{t':Nat}(I:Inv X pins σ H s)(hv:Vals ys its)(hz:ys.length<=sizeLine) :
  Inv X pins σ (upd H s.heap.objs.size (.lst ys)) { s with heap:=s.heap.push { cls:=.type "list",data:=.seq its.toArray },toks:=t' } :=
 I.laid (λ_ _ q=>Wq _ q) (Wy _) ⟨hz,its,0,hv,WG _ rfl⟩
theorem Inv.AI(I:Inv X pins σ H s)(hH:H l=some (.lst xs)):xs.length<=sizeLine/\∃(its:List Value) (n:Nat),Vals xs its/\xs.length=its.length/\s.heap.get? l=some { cls:=.type "list",data:=.seq its.toArray n }:=by
 obtain⟨z,its,n,r,e⟩:=I.hok l _ hH;exact⟨z,its,n,r,r.length,e⟩
theorem tK{n:Nat}(h:n<=sizeLine):Builtin.List.listTooLong n=false:=by
 unfold Builtin.List.listTooLong;exact decide_eq_false (by omega)
end
section
variable {X:Cx}
def DT:V->List V->Hp->VK->Prop:=λx vs H Q=>∃l xs y,x=.ref l/\vs=[y]/\H l=some (.lst xs)/\xs.length<sizeLine/\Q .non (upd H l (.lst (xs++[y])))
theorem qj:PB X "list.append" DT:=by
 intro pins s σ H x vs v us Q I rx rv h;obtain⟨l,xs,y,rfl,rfl,hH,hz,q⟩:=h;cases rx;obtain⟨u,rfl,ru⟩:=rv.one;obtain⟨z,its,n,r,hl,e⟩:=I.AI hH;refine call_meets F.slot_list_append ⟨_,e,rfl⟩ F.entry_list_append (F.args_list_append_2 _ _) (PySem.list_append l its.toArray n u (by rw[WA];omega)) ⟨e,?_⟩;refine⟨.non,_,I.DS (its':=its++[u]) hH e (by simp) (r.append #[ru]) ?_,rfl,q⟩;rw[WN,X0];omega
def DU:V->List V->Hp->VK->Prop:=λx vs H Q=>∃l b xs zs,x=.ref l/\vs=[.ref b]/\H l=some (.lst xs)/\H b=some (.lst zs)/\xs.length+zs.length<=sizeLine/\Q .non (upd H l (.lst (xs++zs)))
theorem yZ:PB X "list.extend" DU:=by
 intro pins s σ H x vs v us Q I rx rv h;obtain⟨l,b,xs,zs,rfl,rfl,hH,hB,hz,q⟩:=h;cases rx;obtain⟨u,rfl,ru⟩:=rv.one;cases ru;obtain⟨z,its,n,r,hl,e⟩:=I.AI hH;obtain⟨z2,its2,n2,r2,hl2,e2⟩:=I.AI hB;have hsz:its.toArray.size+its2.toArray.size<=sizeLine:=by rw[WA,WA];omega
 have AJ:¬ (!its.toArray.isEmpty&&Builtin.List.listTooLong (its.toArray.size+its2.toArray.size))=true:=by rw[tK hsz,Bool.and_false];exact Wm
 refine call_meets F.slot_list_extend ⟨_,e,rfl⟩ F.entry_list_extend (F.args_list_extend_2 _ _)
  (AutoSeq1.list_extend_list_list_0 l its.toArray n b its2.toArray n2 AJ (by rw[WA];omega) (by omega)) ⟨e,e2,?_⟩
 refine⟨.non,_,I.DS (its':=its++its2) hH e (by simp) (r.append r2) ?_,rfl,q⟩;rw[WN];omega
end
section
variable {κ:Type} [DecidableEq κ]
def eF(kvs:List (κ × V))(k:κ):Option V:=(kvs.find? λkv=>decide (kv.1=k)).map (·.2)
def putK(kvs:List (κ × V))(k:κ)(v:V):List (κ × V) :=
 if (kvs.any λkv=>decide (kv.1=k))=true then kvs.map (λkv=>if kv.1=k then (kv.1,v) else kv) else kvs++[(k,v)]
theorem nX{p:κ × V}{r:List (κ × V)}{k:κ}(e:p.1=k):eF (p::r) k=some p.2:=by simp[eF,find?_cons,e]
theorem nY{p:κ × V}{r:List (κ × V)}{k:κ}(e:¬ p.1=k):eF (p::r) k=eF r k:=by simp[eF,find?_cons,e]
theorem tL(k:κ):∀kvs:List (κ × V),(kvs.any λkv=>decide (kv.1=k))=(eF kvs k).isSome
 |[]=>rfl
 | p::r=>by
  rw[YS]
  by_cases e:p.1=k
  ·simp only[nX e,decide_eq_true e,Bool.true_or,Option.isSome_some]
  ·rw[nY e,decide_eq_false e,Bool.false_or];exact tL k r
theorem gB(kvs:List (κ × V))(k:κ)(v:V):(putK kvs k v).length<=kvs.length+1:=by
 unfold putK
 split
 ·rw[Wr];omega
 ·rw[WN,W7,length_nil];omega
theorem ja.y9(r:ja o u):o.isSome=u.isSome:=by
 cases o with
 | none=>cases u with
  |none=>rfl
  |some _=>exact(show False from r).elim
 | some _=>cases u with
  |none=>exact(show False from r).elim
  |some _=>rfl
theorem ja.getD(r:ja o u)(rd:RelV d d'):RelV (o.getD d) (u.getD d'):=by
 cases o with
 | none=>cases u with
  |none=>exact rd
  |some _=>exact(show False from r).elim
 | some _=>cases u with
  |none=>exact(show False from r).elim
  |some _=>exact r
theorem KV.val(r:KV kvs vs)(k:κ):ja (eF kvs k) (valueAt vs k):=by
 unfold KV at r
 induction r with
 |nil=>exact XI
 |@cons p q ps qs h t ih=>
  obtain⟨h1,h2⟩:=h
  by_cases e:p.1=k
  ·have e':q.1=k:=h1.symm.trans e
   have b:valueAt (q::qs) k=some q.2:=by simp[valueAt,find?_cons,e']
   rw[nX e,b];exact h2
  ·have e':¬ q.1=k:=λz=>e (h1.trans z)
   have b:valueAt (q::qs) k=valueAt qs k:=by simp[valueAt,find?_cons,e']
   rw[nY e,b];exact ih
theorem KV.any(r:KV kvs vs)(k:κ):(kvs.any λkv=>decide (kv.1=k))=vs.any λkv=>decide (kv.1=k):=by
 unfold KV at r
 induction r with
 |nil=>rfl
 |cons h t ih=>rw[YS,YS,ih,h.1]
theorem KV.repl(r:KV kvs vs)(k:κ)(ry:RelV y u) :
  KV (kvs.map λkv=>if kv.1=k then (kv.1,y) else kv) (vs.map λkv=>if kv.1=k then (kv.1,u) else kv):=by
 unfold KV at r |-
 induction r with
 |nil=>exact .nil
 |@cons p q ps qs h t ih=>
  rw[WI,WI];refine .cons ?_ ih;obtain⟨h1,h2⟩:=h
  by_cases e:p.1=k
  ·rw[Wu e,Wu (h1.symm.trans e)];exact⟨h1,ry⟩
  ·rw[Wt e,Wt (λz=>e (h1.trans z))];exact⟨h1,h2⟩
theorem KV.put(r:KV kvs vs)(k:κ)(ry:RelV y u):KV (putK kvs k y) (stored vs k u):=by
 unfold putK stored;rw[r.any k]
 by_cases e:(vs.any λkv=>decide (kv.1=k))=true
 ·rw[Wu e,Wu e];exact r.repl k ry
 ·rw[Wt e,Wt e];exact Paired.snoc r ⟨rfl,ry⟩
theorem KV.length(r:KV kvs vs):kvs.length=vs.length:=YR r
end
theorem qk(r:RelV (kV k) u):(aV P w).is k u=true:=by
 cases k with
 |inl i=>obtain⟨t,e⟩:=(show ∃t,u=Value.int i t from r);subst e;exact sV P w i t
 |inr x=>obtain⟨t,e⟩:=(show ∃t,u=Value.str x t from r);subst e;exact sW P w x t
theorem ql:∀{ks:List Key} {us:List Value},Vals (ks.map kV) us->ItemsAre (aV P w) ks us
 |[],_,r=>by rw[XT]at r;cases r;exact .nil
 | k::ks,_,r=>by
  rw[WI]at r;cases r with
  |cons h t=>exact .cons (qk h) (ql t)
abbrev KT(H:Hp):List (List Key×V)->List (List Key×Addr×Value)->Prop:=Paired λp q=>p.1=q.1/\H q.2.1=some (.tup (p.1.map kV))/\RelV p.2 q.2.2
theorem KT.val(r:KT H kvs xs)(k:List Key):ja (eF kvs k) ((atKey xs k).map (·.2)):=by
 induction r with
 |nil=>exact XI
 |@cons p q ps qs h t ih=>
  obtain⟨h1,_,h2⟩:=h
  by_cases e:p.1=k
  ·have e':q.1=k:=h1.symm.trans e
   have b:atKey (q::qs) k=some q.2:=by simp[atKey,find?_cons,e']
   rw[nX e,b];exact h2
  ·have e':¬ q.1=k:=λz=>e (h1.trans z)
   have b:atKey (q::qs) k=atKey qs k:=by simp[atKey,find?_cons,e']
   rw[nY e,b];exact ih
theorem KT.repl(r:KT H kvs xs)(k:List Key)(ry:RelV y u) :
  KT H (kvs.map λkv=>if kv.1=k then (kv.1,y) else kv) (xs.map (putAt k u)):=by
 induction r with
 |nil=>exact .nil
 |@cons p q ps qs h t ih=>
  rw[WI,WI];refine .cons ?_ ih;obtain⟨h1,h2,h3⟩:=h;unfold putAt
  by_cases e:p.1=k
  ·rw[Wu e,Wu (h1.symm.trans e)];exact⟨h1,h2,ry⟩
  ·rw[Wt e,Wt (λz=>e (h1.trans z))];exact⟨h1,h2,h3⟩
theorem KT.put(r:KT H kvs xs)(k:List Key)(hb:H b=some (.tup (k.map kV)))(ry:RelV y u) :
  KT H (putK kvs k y) (storedH xs k b u):=by
 have e:(kvs.any λkv=>decide (kv.1=k))=(atKey xs k).isSome:=by rw[tL,(r.val k).y9,Option.isSome_map]
 unfold putK storedH;rw[e]
 by_cases q:(atKey xs k).isSome=true
 ·rw[Wu q,Wu q];exact r.repl k ry
 ·rw[Wt q,Wt q];exact Paired.snoc r ⟨rfl,hb,ry⟩
theorem KT.keeps(r:KT H kvs xs)(ht:∀b ys,H b=some (.tup ys)->H' b=some (.tup ys)):KT H' kvs xs :=
 Paired.Hq r λ_ _ z=>⟨z.1,ht _ _ z.2.1,z.2.2⟩
section
variable {P:Program} {w:World} {H:Hp} {h:Heap} {a:Addr}
theorem Gp(ok:kN P w H h)(e:Rd H a u):cg P w H h a u:=e.ok ok
theorem qm(ok:kN P w H h)(e:Rd H a (.dK kvs)):kvs.length<=sizeLine/\(a==sysModules)=false/\∃vs,KV kvs vs/\h.DictOf (aV P w) a vs :=
 show cg P w H h a (.dK kvs) from Gp ok e
theorem tM(ok:kN P w H h)(e:H a=some (.dK kvs)):kvs.length<=sizeLine/\(a==sysModules)=false/\∃vs,KV kvs vs/\h.DictOf (aV P w) a vs:=qm ok (.inl e)
theorem rL(ok:kN P w H h)(e:H a=some (.tup (ks.map kV))):(tupleKind (aV P w)).is h ks a:=by
 obtain⟨_,its,r,o,h1,h2,n,h3⟩:=(show cg P w H h a (.tup (ks.map kV)) from ok a _ e);exact⟨o,its.toArray,n,h1,h2,h3,by simpa using ql r⟩
theorem tN(ok:kN P w H h)(e:Rd H a (.dT kvs)):kvs.length<=sizeLine/\(a==sysModules)=false /\
  ∃xs,KT H kvs xs/\h.DictOfH (tupleKind (aV P w)) a xs:=by
 obtain⟨z,y,xs,r,o,es,ep,h1,h2,h3,h4,h5⟩:=(show cg P w H h a (.dT kvs) from Gp ok e);refine⟨z,y,xs,r,o,es,ep,h1,h2,h3,h4,λx hx=>?_,h5⟩;have all:∀{l:List (List Key×V)} {m:List (List Key×Addr×Value)},KT H l m->∀x∈m,(tupleKind (aV P w)).is h x.1 x.2.1:=by
  intro l m q
  induction q with
  |nil=>intro x hx;exact nomatch hx
  |@cons p q ps qs hq t ih=>
   intro x hx
   rcases WH.mp hx with e|hx
   ·subst e;exact rL ok (by rw[<-hq.1];exact hq.2.1)
   ·exact ih x hx
 exact all r x hx
theorem MH(ok:kN P w H h)(e:H a=some (.dT kvs)):kvs.length<=sizeLine/\(a==sysModules)=false /\
  ∃xs,KT H kvs xs/\h.DictOfH (tupleKind (aV P w)) a xs:=tN ok (.inl e)
end
def nt(H:Hp)(a:Addr)(y:V)(r:Option V):Prop :=
 (∃kvs k,Rd H a (.dK kvs)/\y=kV k/\r=eF kvs k)\/∃kvs k b,Rd H a (.dT kvs)/\y=.ref b/\H b=some (.tup (k.map kV))/\r=eF kvs k
def DV(H:Hp)(a:Addr)(y v:V)(H':Hp):Prop :=
 (∃kvs k,H a=some (.dK kvs)/\y=kV k/\kvs.length<sizeLine/\H'=upd H a (.dK (putK kvs k v))) \/
 ∃kvs k b,H a=some (.dT kvs)/\y=.ref b/\H b=some (.tup (k.map kV))/\kvs.length<sizeLine/\H'=upd H a (.dT (putK kvs k v))
theorem nt.k{H:Hp}{a:Addr}{kvs:List (Key×V)}{k:Key}(e:H a=some (.dK kvs)):nt H a (kV k) (eF kvs k):=.inl ⟨kvs,k,.inl e,rfl,rfl⟩
theorem DV.k{H:Hp}{a:Addr}{kvs:List (Key×V)}{k:Key}{v:V}(e:H a=some (.dK kvs))(hl:kvs.length<sizeLine):DV H a (kV k) v (upd H a (.dK (putK kvs k v))):=.inl ⟨kvs,k,e,rfl,hl,rfl⟩
section
variable {X:Cx} {pins:List (Addr×Obj)} {σ:St} {H:Hp} {s:Shared} {a:Addr} {y v:V} {u r:Value} {o:Option V} {A:Around} {E:Value->Shared->Prop}
theorem Inv.big(I:Inv X pins σ H s):sysModules<s.heap.objs.size:=by
 have h:mainGlobals<s.heap.objs.size:=(I.mod.glob.keeps I.bk).lt;exact lt_trans (by decide) h
theorem zb(hu:A.units+1<cLine)(I:Inv X pins σ H s)(g:nt H a y (some v))(ry:RelV y u)(h:∀w' s',Inv X pins σ H s'->RelV v w'->Q w' s') :
  wpAny (model X.prog X.w) A (getItem (.ref a) u) Q E s:=by
 rcases g with ⟨kvs,k,e,ey,l⟩|⟨kvs,k,b,e,ey,eb,l⟩
 ·subst ey;obtain⟨z,hd,vs,rel,dd⟩:=qm I.hok e;obtain⟨w',hw,rw'⟩:=ja.some_of (v:=v) (o:=valueAt vs k) (by rw[l];exact rel.val k);exact wpAny_getItem_of (qk ry) dd.mapOf hw (h w' _ (I.tok _) rw')
 ·subst ey;cases (show u=Value.ref b from ry);obtain⟨z,hd,xs,rel,dd⟩:=tN I.hok e;obtain⟨w',hw,rw'⟩:=ja.some_of (v:=v) (o:=(atKey xs k).map (·.2)) (by rw[l];exact rel.val k);obtain⟨p,hp,hp2⟩:=WW.mp hw;refine wpAny_getItem_heap (YI hu) (rL I.hok eb) dd hp ?_;rw[hp2];exact h w' _ (I.tok _) rw'
theorem nJ{t':Nat}(I:Inv X pins σ H s)(mu:LW (H a))(hs:Heap.SameBut a s.heap h')(he:∃q,h'.get? a=some q)(new:cg X.prog X.w (upd H a ob) h' a ob) :
  Inv X pins σ (upd H a ob) { s with heap:=h',toks:=t' } :=
 I.write (x:=a) (e:=a) mu (.inl rfl) (λb q hb z=>(hs.2 b hb).trans z) he new
theorem vM(z:kvs.length<=sizeLine)(hd:(a==sysModules)=false)(rel:KV kvs vs)(dd:h'.DictOf (aV P w) a vs) :
  cg P w H' h' a (.dK kvs):=⟨z,hd,vs,rel,dd⟩
theorem zc(hu:A.units+1<cLine)(I:Inv X pins σ H s)(g:DV H a y v H')(ry:RelV y u)(rv:RelV v r)(h:∀s',Inv X pins σ H' s'->Q () s') :
  wpAny (model X.prog X.w) A (setItem (.ref a) u r) Q E s:=by
 rcases g with ⟨kvs,k,e,ey,l,eH⟩|⟨kvs,k,b,e,ey,eb,l,eH⟩
 ·subst ey eH
  obtain⟨z,hd,vs,rel,dd⟩:=tM I.hok e;have hz:vs.length<=sizeLine:=by rw[<-rel.length];exact z
  have hl:(putK kvs k v).length<=sizeLine:=by have:=gB kvs k v;omega
  refine wpAny_setItem_pairs (hsz:=hz) (qk ry) dd λh' Dl hs=>h _ ?_;have he:∃q,h'.get? a=some q:=let ⟨q,_,_,hq,_⟩:=Dl;⟨q,hq⟩
  exact nJ I (by rw[e];exact XI) hs he (vM hl hd (rel.put k rv) Dl)
 ·subst ey eH
  cases (show u=Value.ref b from ry);obtain⟨z,hd,xs,rel,dd⟩:=MH I.hok e;have hz:xs.length<=sizeLine:=by rw[<-YR rel];exact z
  have hl:(putK kvs k v).length<=sizeLine:=by have:=gB kvs k v;omega
  refine wpAny_setItem_heap (hsz:=hz) (YI hu) (rL I.hok eb) dd λh' Dl hs=>h _ ?_;obtain⟨q,es,ep,hq,h2,h3,h4,_,h5⟩:=Dl;refine nJ I (by rw[e];exact XI) hs ⟨q,hq⟩ ⟨hl,hd,_,(rel.put k eb rv).keeps λc ys ec=>?_,q,es,ep,hq,h2,h3,h4,h5⟩;rw[aG (LV ec e (λz=>nomatch z))];exact ec
end
section
variable {X:Cx} {pins:List (Addr×Obj)} {σ:St} {H:Hp} {s:Shared} {a:Addr} {kvs:List (Key×V)} {k:Key} {u:Value} {A:Around} {E:Value->Shared->Prop}
theorem MI(I:Inv X pins σ H s)(e:Rd H a (.dK kvs))(h:∀t s',Inv X pins σ H s'->Q (.int kvs.length t) s'):wpAny (model X.prog X.w) A (call (.builtin "len") [.ref a]) Q E s:=by
 obtain⟨z,hd,vs,rel,dd⟩:=qm I.hok e;refine call_len_dict hd dd (by rw[<-rel.length];rw[Xy]at z;omega) ?_;rw[<-rel.length];exact h _ _ (I.tok _)
end
theorem tO(I:Inv X pins σ H s)(g:nt H a y o):s.TypeIs (.ref a) "dict":=by
 rcases g with ⟨kvs,k,e,_,_⟩|⟨kvs,k,b,e,_,_,_⟩
 ·obtain⟨_,_,vs,_,dd⟩:=qm I.hok e;exact dd.typeIs
 ·obtain⟨_,_,xs,_,dd⟩:=tN I.hok e;exact dd.typeIs
theorem tQ(h:Heap)(hb:sysModules<h.objs.size):cg P w H (h.push { cls:=.type "dict",data:=.dict #[] }) h.objs.size (.dK []) :=
 ⟨Xz _,Xj.mpr (Ne.symm (WJ hb)),[],.nil,Heap.DictOf.new h⟩
def Ir:TE:=λ_ H Q=>∀p,H p=none->Q (.ref p) (upd H p (.dK []))
section
variable {X:Cx} {pos:Pos}
theorem AK:PE X (.Dict [] [] pos) Ir:=λpins s σ H Q I h=>
 wpAny_Dict_empty ⟨.ref s.heap.objs.size,_,I.laid (a:=s.heap.objs.size) (o:=.dK []) (t':=s.toks) (λ_ _ q=>Wq _ q) (Wy _) (tQ s.heap I.big),rfl,h _ (I.hok.fresh (Wy _))⟩
end
def vN:List (TE×TE)->St->Hp->(List (V×V)->Hp->Prop)->Prop
 |[],_,H,Q=>Q [] H
 |(tk,tv)::r,σ,H,Q=>tk σ H λx H1=>tv σ H1 λy H2=>vN r σ H2 λps H3=>Q ((x,y)::ps) H3
abbrev VV:List (V×V)->List (Value×Value)->Prop:=Paired λp q=>RelV p.1 q.1/\RelV p.2 q.2
def PC(X:Cx)(pos:Pos)(keys:List (Option Expr))(values:List Expr)(Iu:List (TE×TE)):Prop :=
 ∀(pins:List (Addr×Obj)) (s:Shared) (σ:St) (H:Hp) (Q:List (V×V)->Hp->Prop),Inv X pins σ H s->vN Iu σ H Q ->
  wpAny (model X.prog X.w) X.A (evalPairs (pairTrees keys values X.env pos)) (λvs s'=>∃ps H',Inv X pins σ H' s'/\VV ps vs/\Q ps H') X.xe s
theorem DW:PC X pos [] [] []:=λpins s σ H Q I h=>pairTrees_nil_walk ⟨[],H,I,.nil,h⟩
theorem AL(hk:PE X k tk)(hv:PE X v tv)(hr:PC X pos ks vs Iu) :
  PC X pos (some k::ks) (v::vs) ((tk,tv)::Iu):=λpins s σ H Q I h=>
 pairTrees_cons_walk (cH (hk pins s σ H _ I h) λu s1 ⟨x,H1,I1,rx,q1⟩=>cH (hv pins s1 σ H1 _ I1 q1) λw2 s2 ⟨y,H2,I2,ry,q2⟩=>
  cH (hr pins s2 σ H2 _ I2 q2) λws s3 ⟨ps,H3,I3,rel,q3⟩=>⟨(x,y)::ps,H3,I3,.cons ⟨rx,ry⟩ rel,q3⟩)
def lX(kvs more:List (Key×V)):List (Key×V):=more.foldl (λacc kv=>putK acc kv.1 kv.2) kvs
theorem KV.merge:∀{more:List (Key×V)} {rs:List (Key×Value)} {kvs:List (Key×V)} {vs:List (Key×Value)},KV more rs->KV kvs vs->KV (lX kvs more) (merged vs rs):=by
 intro more rs kvs vs r;unfold KV at r
 induction r generalizing kvs vs with
 |nil=>intro q;exact q
 |@cons p q ps qs h t ih=>
  intro r0;have e:KV (putK kvs p.1 p.2) (stored vs q.1 q.2):=by have:=r0.put p.1 h.2;rw[<-h.1];exact this
  exact ih e
theorem jX:∀(more kvs:List (Key×V)),(lX kvs more).length<=kvs.length+more.length
 |[],kvs=>by show kvs.length<=kvs.length+0;omega
 | p::r,kvs=>by
  have h1:=jX r (putK kvs p.1 p.2);have h2:=gB kvs p.1 p.2;show (lX (putK kvs p.1 p.2) r).length<=_;rw[W7];omega
theorem nZ:∀{kvs:List (Key×V)} {ws:List (Value×Value)},VV (kvs.map λkv=>(kV kv.1,kv.2)) ws->∃rs,Carries (aV P w) ws rs/\KV kvs rs
 |[],_,r=>by rw[XT]at r;cases r;exact⟨[],XI,.nil⟩
 | p::kvs,_,r=>by
  rw[WI]at r;cases r with
  |@cons a b as bs h t=>obtain⟨rs,c,q⟩:=nZ (P:=P) (w:=w) t;obtain⟨b1,b2⟩:=b;exact⟨(p.1,b2)::rs,⟨qk h.1,rfl,c⟩,.cons ⟨rfl,h.2⟩ q⟩
def MJ(Iu:List (TE×TE)):TE:=λσ H Q=>∀p,H p=none->vN Iu σ (upd H p (.dK [])) λps H2=>H2 p=some (.dK [])/\∃kvs:List (Key×V),ps=kvs.map (λkv=>(kV kv.1,kv.2))/\kvs.length<=15/\Q (.ref p) (upd H2 p (.dK (lX [] kvs)))
theorem DX(h:PC X pos keys values Iu)(hall:keys.all (·.isSome)=true)(hl:keys.length=values.length)(h0:keys≠[])
  (Iv:keys.length<=15):PE X (.Dict keys values pos) (MJ Iu):=by
 intro pins s σ H Q I q;have hn:=I.hok.fresh (Wy s.heap.objs.size);have I1:=I.laid (a:=s.heap.objs.size) (o:=.dK []) (h':=s.heap.push { cls:=.type "dict",data:=.dict #[] }) (t':=s.toks) (λ_ _ q=>Wq _ q) (Wy _) (tQ s.heap I.big);refine wpAny_Dict_walk (knd:=aV X.prog X.w) hall hl h0 Iv (cH (h pins _ σ _ _ I1 (q _ hn)) λws s2 aL=>?_);obtain⟨ps,H2,I2,rel,e,kvs,ep,lk,q2⟩:=aL;subst ep;obtain⟨rs,c,rk⟩:=nZ (P:=X.prog) (w:=X.w) rel;obtain⟨z,hd,V8,r0,dd⟩:=tM I2.hok e;cases r0;refine⟨rs,c,dd,λh' Dl hs=>⟨.ref s.heap.objs.size,_,?_,rfl,q2⟩⟩;have hz:(lX [] kvs).length<=sizeLine:=by have h1:=jX kvs [];rw[length_nil]at h1;rw[Xy];omega
 have he:∃q,h'.get? s.heap.objs.size=some q:=let ⟨q,_,_,hq,_⟩:=Dl;⟨q,hq⟩
 exact nJ I2 (by rw[e];exact XI) hs he (vM hz hd (rk.merge .nil) Dl)
structure M2 (X:Cx) (o:Expr) (m:Str) (apos:Pos) (e f:Expr) (cpos:Pos):Prop where
 base:attributeBase o m X.env (eval o X.env)=eval o X.env
 few:((backTo cpos (starEach [e,f] X.env)).all (λx=>!x.1)&&(backToKw cpos (keywordEach [] X.env)).all (λx=>x.1.isSome)
  && decide (([e,f]:List Expr).length+([]:List Keyword).length+(if ([]:List Keyword).isEmpty then 0 else 1)<30))=true
 line:(apos.endLine==cpos.line)=true
 trees:backTo cpos (starEach [e,f] X.env)=[(false,eval e X.env),(false,eval f X.env)]
def QB(H:Hp)(a:Addr):Prop:=(∃kvs,Rd H a (.dK kvs))\/∃kvs,Rd H a (.dT kvs)
theorem rM(I:Inv X pins σ H s)(d:QB H a) :
  s.TypeIs (.ref a) "dict" /\ (∀b,Value.ref a=.ref b->∃ob,s.heap.get? b=some ob/\ob.dict=none)/\(a==sysModules)=false:=by
 rcases d with ⟨kvs,e⟩|⟨kvs,e⟩
 ·obtain⟨_,hd,vs,_,dd⟩:=qm I.hok e;refine⟨dd.typeIs,λb q=>?_,hd⟩;cases q;obtain⟨ob,_,_,h1,h2,_⟩:=dd;exact⟨ob,h1,h2.2.1⟩
 ·obtain⟨_,hd,xs,_,dd⟩:=tN I.hok e;refine⟨dd.typeIs,λb q=>?_,hd⟩;cases q;obtain⟨ob,_,_,h1,h2,_⟩:=dd;exact⟨ob,h1,h2.2.1⟩
section
variable {X:Cx} {pins:List (Addr×Obj)} {σ:St} {H:Hp} {s:Shared} {a:Addr} {y d:V} {u r:Value} {o:Option V} {A:Around} {E:Value->Shared->Prop}
theorem Iw(hu:A.units+1<cLine)(I:Inv X pins σ H s)(g:nt H a y o)(ry:RelV y u)(rd:RelV d r)(h:∀w' s',Inv X pins σ H s'->RelV (o.getD d) w'->Q w' s') :
  wpAny (model X.prog X.w) A (call (.builtin "dict.get") [.ref a,u,r]) Q E s:=by
 rcases g with ⟨kvs,k,e,ey,l⟩|⟨kvs,k,b,e,ey,eb,l⟩
 ·subst ey;obtain⟨z,hd,vs,rel,dd⟩:=qm I.hok e;refine YV Yv dd.typeIs PySem.F.entry_dict_get (PySem.F.args_dict_get_3 _ _ _) (meets_dict_get_default (aV X.prog X.w) a (qk ry) hd r) ⟨_,dd.mapOf,h _ _ (I.tok _) ?_⟩;rw[l];exact(rel.val k).getD rd
 ·subst ey;cases (show u=Value.ref b from ry);obtain⟨z,hd,xs,rel,dd⟩:=tN I.hok e;refine YV Yv dd.typeIs PySem.F.entry_dict_get (PySem.F.args_dict_get_3 _ _ _) (meetsH_dict_get_default (tupleKind (aV X.prog X.w)) a b hd r) ⟨YI hu,k,xs,rL I.hok eb,dd,h _ _ (I.tok _) ?_⟩;rw[l];exact(rel.val k).getD rd
end
def Iz(td ty tx:TE):TE:=λσ H Q=>td σ H λx H1=>∃a,x=.ref a/\QB H1 a/\ty σ H1 λy H2=>tx σ H2 λz H3=>∃o,nt H3 a y o/\Q (o.getD z) H3
section
variable {X:Cx} {o e f:Expr} {apos cpos:Pos} {td ty tx:TE}
theorem AM(hu:X.A.units+1<cLine)(ho:PE X o td)(he:PE X e ty)(hf:PE X f tx)(m:M2 X o "get" apos e f cpos):PE X (.Call (.Attribute o "get" apos) [e,f] [] cpos) (Iz td ty tx):=by
 intro pins s σ H Q I h;refine wpAny_Call_method m.base m.few m.line Yl Yv PySem.F.type_dict_get (cH (ho pins s σ H _ I h) λu s1 aL=>?_);obtain⟨x,H1,I1,rx,a,ex,d,q1⟩:=aL;subst ex;obtain rfl:u=Value.ref a:=rx;obtain⟨t1,t2,_⟩:=rM I1 d;refine⟨t1,t2,?_⟩;rw[m.trees];refine XW rfl (YD (Xg (cH (he pins s1 σ H1 _ I1 q1) λiv s2 ⟨y,H2,I2,ry,q2⟩=>
  Xg (cH (hf pins s2 σ H2 _ I2 q2) λfv s3 ⟨z,H3,I3,rz,ov,g,q3⟩=>XA ?_))))
 exact Iw hu I3 g ry rz λw' s4 I4 rw'=>⟨_,H3,I4,rw',q3⟩
end
end L2
namespace RS
open PySem PySem.W PySem.Calls PyProof.Rows
theorem nu:∀(ns:List Int) (vs:List Value),WellAll P h vs (ns.map WData.int)->IntsAre vs ns:=by
 intro ns
 induction ns with
 |nil=>intro vs w;rw[XT]at w;cases w;exact .nil
 |cons n ns ih=>
  intro vs w;rw[WI]at w;cases w with
  |cons a b=>cases a;exact .cons _ _ (ih _ b)
theorem zd{l:OpenLaw}{n:Nat}(hn:l.most=some n){P:Params}{h:Heap}{args:List WData}{vals:List Value}
  (hpre:l.row.toRowW.claim.pre args=true) (hwl:WellAll P h vals args) :
  ∃a vs ns,vals=[Value.ref a]/\args=[WData.list (ns.map WData.int)]/\h.get? a=some { cls:=.type "list",data:=.seq vs.toArray }/\IntsAre vs ns/\ns.length<=n:=by
 have hsh:WShape.hasAll [] args [.list .int]=true:=(pre_splitW hpre).1;have hc:l.pre.holds [] { args:=args }=true:=(pre_splitW hpre).2;obtain⟨d,r,rfl,h1,h2⟩:=hasAllW_cons hsh;obtain rfl:=hasAllW_nil h2;obtain⟨xs,rfl,h3⟩:=hasW_list h1;obtain⟨ns,rfl⟩:=items_int h3;have hlen:ns.length<=n:=by
  unfold OpenLaw.pre at hc;have h4:(WTm.not (.lt (.lit (.int (n:Int))) (.len (.arg 0)))).holds [] { args:=[.list (ns.map .int)] }=true:=by have h4:=(holds_andW hc).1;rw[hn]at h4;exact h4
  have h5:=condW_of h4 (w_not (w_lt w_lit (w_len_list (w_arg rfl))));rw[Wr]at h5;refine Nat.le_of_not_lt λq=>?_;have q':(n:Int)<((ns.length:Nat):Int):=by omega
  first
   |(rw[decide_eq_true q']at h5;exact absurd h5 (by decide))
   |(simp at h5;omega)
 cases hwl with
 |cons w1 w2=>
  cases w2;cases w1 with
  |list ho hall=>exact⟨_,_,ns,rfl,rfl,ho,nu ns _ hall,hlen⟩
theorem ze(l:OpenLaw)(args:List WData):l.row.toRowW.claim.post args (.bool true) args=true :=
 postW_of (r:=l.row.toRowW) (X:=(true==true))
  (show WShape.has [] (.bool true) .bool=true by first|rfl|decide|simp[WShape.has,WShape.arms,WShape.armsAll])
  (show (WTm.eq .res (.lit (.bool true))).value [] { args:=args,res:=some (.bool true),after:=args }=some (.bool (true==true)) from w_eq_bool (w_res rfl) w_lit) rfl
theorem tR{l:OpenLaw}{n:Nat}{q:Program}{loose:List Str}{XP:(Str->Option Value)->Heap->Prop}{YP:World->Heap->Prop}{d:DefRec}
  (hn:l.most=some n) (hdf:d.params.defaults=[])
  (call:∀(w:World) (s₀ s₁:Shared) (mg mb:Str->Option Value) (fa:Addr) (o:Obj) (pm cd doc:Value) (a:Addr) (vs:List Value) (ns:List Int),
   Ground q loose [] XP w s₀ mg mb s₁.heap->YP w s₁.heap ->
   s₁.heap.get? fa=some o->o.data=.func (docDef d.name d.params d.body d.scope pm cd doc)->s₁.heap.CodeRec cd d.name->mg d.name=some (.ref fa) ->
   s₁.heap.get? a=some { cls:=.type "list",data:=.seq vs.toArray }->IntsAre vs ns->ns.length<=n->s₁.gens = #[] ->
   codeAny (model l.prog w) callerA (.call (.ref fa) ⟨[.ref a],[]⟩) (λr s'=>r=.ok (.ret (.bool true))/\OldK s₁.heap s'.heap/\s'.os=s₁.os/\AllBare s'.gens) s₁) :
  WalkO q loose XP YP l.row.toRowW d [] (λf vs=>PySem.call f vs):=by
 intro w s₀ s₁ mg mb G Y fa o pm cd doc dV kV ho hd hcd hD hmg hg args vals as hpre hlay hrd hwl hlo;obtain rfl:dV=.none:=Dflts.none hD hdf;obtain rfl:kV=.none:=Dflts.noKw hD;obtain⟨a,vs,ns,rfl,rfl,hobj,hints,hlen⟩:=zd hn hpre hwl;refine enter_call (Yp (call w s₀ s₁ mg mb fa o pm cd doc a vs ns G Y ho (fd_plain hd) hcd hmg hobj hints hlen hg) λr s' hq=>?_);obtain⟨rfl,h2,h3,h4⟩:=hq;exact⟨.inl ⟨.bool true,.bool true,[],rfl,λ_=>rfl,.bool true,ze l _,λ_=>⟨List.Pairwise.nil,λ_ hm=>(nomatch hm)⟩⟩,h2,h3,h4⟩
end RS
namespace L2
open PySem PySem.Spec PyProof.Rows
theorem jI:∀{vs:List Value} {ns:List Int},IntsAre vs ns->Vals (ns.map V.int) vs
 |_,_,.nil=>.nil
 |_,_,.cons n t h=>.cons ⟨t,rfl⟩ (jI h)
def AN(H:Hp):Prop:=∀b,H b=none\/∃o xs,H b=some (.qZ o (.lst xs))
theorem AO{P:Program}{w:World}{K:Frag}{mg mb:Str->Option Value}{CX:yX}{k:Nat}{fa a:Addr}{fd:FuncData}{x:Str}{sp:Sp}{s₁:Shared}{vs:List Value}{ns:List Int}
  (KX:K.In s₁.heap) (hns:s₁.heap.Ns mainGlobals mg) (hb:s₁.heap.Ns builtinsNs mb) (TU:∀x:Str,x ≠ "__name__" -> mb x=bootBuiltins x) (hlim:s₁.heap.NoLimit) (hg:s₁.gens = #[])
  (ha:s₁.heap.get? a=some { cls:=.type "list",data:=.seq vs.toArray }) (hi:IntsAre vs ns) (hl:ns.length<=sizeLine) (hr:eE k callerA)
  (F:∀base:Heap,K.In base->base.Ns mainGlobals mg->gu P w K mg base CX k fa fd [x] sp) (hbind:∀(s:Shared) (u:Value),BindsTo s fd ⟨[u],[]⟩ [(x,u)])
  (hsp:∀H:Hp,AN H->gR K H a (ns.map V.int)->sp [.ref a] H (λv _=>v=.bl true) λ_ _ _=>False)
  (hCX:∀H e s',CX [] H s₁ (λ_ _ _=>False) e s'->False) :
  codeAny (model P w) callerA (.call (.ref fa) ⟨[.ref a],[]⟩) (λr s'=>r=.ok (.ret (.bool true))/\OldK s₁.heap s'.heap/\s'.os=s₁.os/\AllBare s'.gens) s₁:=by
 have rv:=jI hi;have QC:=hi.length;have core:∀H:Hp,AN H->gR K H a (ns.map V.int)->kN P w H s₁.heap->(∀b,H b≠none->b=a)->(H a≠none->K.lookup a=none) ->
   codeAny (model P w) callerA (.call (.ref fa) ⟨[.ref a],[]⟩) (λr s'=>r=.ok (.ret (.bool true))/\OldK s₁.heap s'.heap/\s'.os=s₁.os/\AllBare s'.gens) s₁:=by
  intro H hO hS hok hA hK;have base_of:∀{b:Addr} {o:Obj},s₁.heap.get? b=some o->H b=none->(rm s₁.heap H).get? b=some o:=λe n=>Ai e n;have noA:∀{b:Addr} {o:Obj} {es:Array DictEntry} {ep:Nat},s₁.heap.get? b=some o->o.data=.dict es ep->H b=none:=λ{b o es ep} e d=>by
   cases q:H b with
   |none=>rfl
   |some u=>have e':b=a:=hA b (by rw[q];simp);subst e';rw[ha]at e;cases e;have d':Data.seq vs.toArray _=Data.dict es ep:=d;cases d'
  have nsK:∀{b:Addr} {m:Str->Option Value},s₁.heap.Ns b m->(rm s₁.heap H).Ns b m:=λ{b m} ⟨o,es,ep,e,d,r⟩=>⟨o,es,ep,base_of e (noA e d),d,r⟩;have RT:K.In (rm s₁.heap H):=λb o e=>base_of (KX b o e) (by
   cases q:H b with
   |none=>rfl
   |some u=>have e':b=a:=hA b (by rw[q];simp);subst e';rw[hK (by rw[q];simp)]at e;cases e)
  have hM:Mod K mg (rm s₁.heap H):=⟨RT,nsK hns,⟨mb,nsK hb,TU⟩,let ⟨mc,h1,h2⟩:=hlim;⟨mc,nsK h1,h2⟩⟩;have e0:vH P w K mg (rm s₁.heap H) callerA [] s₁ H:=⟨rfl,hM,λb o e=>Dr e,Nat.le_of_eq (yP _ _),trivial,λb hb=>absurd (show b∈([]:List Addr) from hb) (by simp),hok,.of_eq hg⟩;refine Yp ((F _ RT (nsK hns)).run callerA [] s₁ H ⟨[.ref a],[]⟩ [.ref a] [.ref a] _ _ hr e0 (hbind s₁ (.ref a)) #[rfl] (hsp H hO hS)) λr s' h=>?_;cases r with
  |error e=>exact(hCX H e s' h).elim
  |ok fl=>
   cases fl with
   |next=>exact False.elim h
   |brk=>exact False.elim h
   |cont=>exact False.elim h
   |ret u=>
    obtain⟨v,H',os,bare,un,QD,r',q⟩:=h;have q':v=.bl true:=q;subst q';obtain rfl:u=Value.bool true:=r';refine⟨rfl,OldK.of_keep λb o e=>?_,os,bare⟩;cases q:H b with
    |none=>exact un.keep b o e q (by intro z;exact absurd (show b∈([]:List Addr) from z) (by simp)) (by simp)
    |some u=>
     rcases hO b with z|⟨ob,xs,z⟩
     ·rw[q]at z;cases z
     ·have z2:=un.frzs b ob _ z;obtain⟨e1,_⟩:=hok b _ z;obtain⟨e2,_⟩:=QD b _ z2;rw[e]at e1;cases e1;exact e2
 cases hk:K.lookup a with
 |some o=>have e:=KX a o hk;rw[ha]at e;cases e;refine core (λ_=>none) (λ_=>.inl rfl) (.inr ⟨_,vs.toArray,_,hk,rfl,rfl,rfl,by rw[WA,QC];exact hl,by simpa using rv⟩) (λb u z=>by have z':(none:Option HO)=some u:=z;cases z') (λb z=>absurd rfl z) λz=>absurd rfl z
 |none=>
  refine core (λb=>if b=a then some (.qZ { cls:=.type "list",data:=.seq vs.toArray } (.lst (ns.map V.int))) else none) (λb=>?_) (.inl (.inr ⟨{ cls:=.type "list",data:=.seq vs.toArray },Wu rfl⟩)) (λb u z=>?_) (λb z=>?_) λ_=>hk
  ·by_cases hb:b=a
   ·exact .inr ⟨_,_,Wu hb⟩
   ·exact .inl (Wt hb)
  ·by_cases hb:b=a
   ·have z':=(Wu hb).symm.trans z;cases z';subst hb;exact⟨ha,by rw[Wr];exact hl,vs,_,rv,ha⟩
   ·have z':=(Wt hb).symm.trans z;cases z'
  ·by_cases hb:b=a
   ·exact hb
   ·exact absurd (Wt hb) z
theorem DY{l:PySem.W.OpenLaw}{n k:Nat}{q:Program}{loose:List Str}{XP:(Str->Option Value)->Heap->Prop}{YP:World->Heap->Prop}{d:DefRec}{K:Params->Frag}{CX:World->yX}{sp:World->Sp}{x:Str}
  (hn:l.most=some n) (hn2:n<=sizeLine) (hdf:d.params.defaults=[]) (hr:eE k callerA)
  (hY:∀(w:World) (h:Heap),YP w h->(K w.params).In h)
  (F:∀(w:World) (mg:Str->Option Value) (fa:Addr) (h:Heap),(K w.params).In h->h.Ns mainGlobals mg->mg d.name=some (.ref fa) ->
   ∃fd:FuncData,(∀(s:Shared) (u:Value),BindsTo s fd ⟨[u],[]⟩ [(x,u)]) /\
    ∀base:Heap,(K w.params).In base->base.Ns mainGlobals mg->gu l.prog w (K w.params) mg base (CX w) k fa fd [x] (sp w))
  (hsp:∀(w:World) (H:Hp) (a:Addr) (ns:List Int),ns.length<=n->AN H->gR (K w.params) H a (ns.map V.int)->sp w [.ref a] H (λv _=>v=.bl true) λ_ _ _=>False)
  (hCX:∀(w:World) (H:Hp) (s:Shared) (e:Value) (s':Shared),CX w [] H s (λ_ _ _=>False) e s'->False) :
  PySem.W.WalkO q loose XP YP l.row.toRowW d [] (λf vs=>PySem.call f vs):=by
 refine RS.tR hn hdf λw s₀ s₁ mg mb fa o pm cd doc a vs ns G Y ho hd hcd hmg hobj hints hlen hg=>?_;have KX:=hY w _ Y;obtain⟨fd,hb,hF⟩:=F w mg fa _ KX G.T.g hmg;exact AO KX G.T.g G.T.b G.T.builtins G.T.nolimit hg hobj hints (WZ hlen hn2) hr hF hb (λH hO hS=>hsp w H a ns hlen hO hS) λH e s'=>hCX w H s₁ e s'
def kU(s:Stmt):Arguments:=match s with
 |.FunctionDef _ a _ _ _ _ _ _ _ _=>a
 |_=>{ posonlyargs:=[],args:=[],vararg:=none,kwonlyargs:=[],kw_defaults:=[],kwarg:=none,defaults:=[] }
def aA(s:Stmt):List Stmt:=match s with
 |.FunctionDef _ _ b _ _ _ _ _ _ _=>b
 |_=>[]
def af(s:Stmt):Scope:=match s with
 |.FunctionDef _ _ _ _ _ _ sc _ _ _=>sc
 |_=>{ kind:=.function,names:=[],isGenerator:=false,isCoroutine:=false }
abbrev AQ:yX:=λ_ _ _ _ _ _=>False
abbrev E0:XK:=λ_ _ _=>False
theorem xF:Passes AQ X E0:=λ_ _ _ _ _ _ _ h=>h.elim
structure Gq (K:Frag) (x qual:Str) (st:Stmt) (f:Addr) (fd:FuncData):Prop where
 ex:∃(oc:Value) (od:Option Addr) (kV doc pm:Value) (an:Option Addr) (cdv ct:Value) (osl:Array (Option Value)),
  fd=fnOf x qual (kU st) (aA st) (af st) .none kV doc pm an cdv ct/\K.lookup f=some ⟨oc,od,.func fd,osl⟩/\codeIn K cdv qual=true
 kp:keepIn K (.ref f)=true
section
variable {P:Program} {w:World} {K:Frag} {mg:Str->Option Value} {base:Heap}
theorem Gq.ok{x qual:Str}{st:Stmt}{f:Addr}{fd:FuncData}{N ps:List Str}{k:Nat}{sp:Sp}(F:Gq K x qual st f fd)(S:nI N ps (af st))(len:∀vs H Q E,sp vs H Q E->vs.length=ps.length)
  (hbody:∀(cdv:Value) (A:Around) (outer:List Env) (s:Shared) (H:Hp) (vs:List V) (Q:VK) (E:XK),eE k (A.deeper (envOfC qual (af st) s.heap.objs.size f cdv))->sp vs H Q E ->
   ∃t,vz (vI AQ P w K mg base N qual (af st) f cdv A outer s H E).Mb (aA st) t/\t { nx:=λ_ H'=>Q .non H',rt:=Q } (start N vs) H):gu P w K mg base AQ (k+1) f fd ps sp:=by
 obtain⟨oc,od,kV,doc,pm,an,cdv,ct,osl,rfl,lk,hcd⟩:=F.ex;refine MB lk hcd S len λA outer s H vs Q E hr hsp=>?_;obtain⟨t,h,q⟩:=hbody cdv A outer s H vs Q E hr hsp;exact⟨t,h.Mb,q⟩
theorem Gq.binds{x qual:Str}{st:Stmt}{f:Addr}{fd:FuncData}{ps:List Str}(F:Gq K x qual st f fd)
  (h:∀(kV doc pm:Value) (an:Option Addr) (cdv ct:Value) (us:List Value),us.length=ps.length->bindArgs (fnOf x qual (kU st) (aA st) (af st) .none kV doc pm an cdv ct) ⟨us,[]⟩=pure (ps.zip us)):Binds K fd ps []:=by
 obtain⟨oc,od,kV,doc,pm,an,cdv,ct,osl,rfl,lk,hcd⟩:=F.ex;exact .all (h kV doc pm an cdv ct)
theorem fun_mk{x qual:Str}{st:Stmt}{f:Addr}{oc:Value}{od an:Option Addr}{osl:Array (Option Value)}{kV doc pm cdv ct:Value}(l:K.lookup f=some ⟨oc,od,.func (fnOf x qual (kU st) (aA st) (af st) .none kV doc pm an cdv ct),osl⟩)
  (c:codeIn K cdv qual=true) (k:keepIn K (.ref f)=true):Gq K x qual st f (fnOf x qual (kU st) (aA st) (af st) .none kV doc pm an cdv ct):=⟨⟨oc,od,kV,doc,pm,an,cdv,ct,osl,rfl,l,c⟩,k⟩
end
section
variable {X:Cx}
theorem pv(i:Nat)(hN:X.N[i]?=some x)(hv:LX X.env.scope x)(hd:(x==("__debug__":Str))=false)
  (hcd:(x==("__classdict__":Str))=false):PE X (.Name x pos) (L4 i):=Am hN hv hd hcd
theorem zf:cI X (.builtin "len") (λxs H Q=>∃a kvs,xs=[V.ref a]/\H a=some (.dK kvs)/\Q (.int kvs.length) H):=by
 intro pins s σ H xs us Q I r h;obtain⟨a,kvs,rfl,ha,q⟩:=h;obtain⟨u,rfl,ru⟩:=vals1 r;cases ru;exact MI I (.inl ha) λt s' I'=>⟨.int kvs.length,H,I',⟨t,rfl⟩,q⟩
end
def vO(H H':Hp):Prop:=∀b o,H b=some o->H' b=some o
theorem vO.seq{K:Frag}{H H':Hp}{a:Addr}{xs:List V}(e:vO H H')(h:gR K H a xs):gR K H' a xs:=by
 rcases h with (h|⟨o,h⟩)|h
 ·exact .inl (.inl (e _ _ h))
 ·exact .inl (.inr ⟨o,e _ _ h⟩)
 ·exact .inr h
theorem j8(env:Env):∀(names:List (Str×NameKind)) (acc:List (Str×Addr)),(∀y∈names,y.2=.free->∃c,env.cells.lookup y.1=some c) ->
  (∀x c,acc.lookup x=some c->env.cells.lookup x=some c) ->
  ∃cl,(forIn names acc λx r=>if (x.snd==NameKind.free)=true then do let c <-cellOf env x.fst;pure (ForInStep.yield ((x.fst,c)::r)) else pure (ForInStep.yield r))=(pure cl:Sem (List (Str×Addr))) /\
   (∀x c,cl.lookup x=some c->env.cells.lookup x=some c)/\∀x,((x,NameKind.free)∈names\/∃c,acc.lookup x=some c)->∃c,cl.lookup x=some c
 |[],acc,_,ha=>⟨acc,rfl,ha,λx h=>h.elim (λz=>nomatch z) λz=>z⟩
 | (n,k)::r,acc,hn,ha=>by
  have hr:∀y∈r,y.2=NameKind.free->∃c,env.cells.lookup y.1=some c:=λy hy=>hn y (Ww _ hy)
  by_cases hk:k=.free
  ·subst hk
   obtain⟨c,hc⟩:=hn (n,.free) Wx rfl;have ha':∀x d,((n,c)::acc).lookup x=some d->env.cells.lookup x=some d:=λx d h=>by
    rw[lookup_cons]at h;cases e:x==n with
    |true=>rw[e]at h;have e':x=n:=eq_of_beq e;cases h;rw[e'];exact hc
    |false=>rw[e]at h;exact ha x d h
   obtain⟨cl,e1,e2,e3⟩:=j8 env r ((n,c)::acc) hr ha';refine⟨cl,?_,e2,λx h=>?_⟩
   ·rw[List.forIn_cons]
    have hco:cellOf env n=pure c:=by unfold cellOf;rw[hc]
    simp only[beq_self_eq_true,if_true,hco];exact e1
   ·by_cases hx:x=n
    ·subst hx;exact e3 x (.inr ⟨c,by simp[lookup_cons]⟩)
    ·rcases h with h|⟨d,h⟩
     ·rcases WH.mp h with z|z
      ·exact absurd (Xf Prod.fst z) hx
      ·exact e3 x (.inl z)
     ·refine e3 x (.inr ⟨d,?_⟩);rw[lookup_cons];have:(x==n)=false:=Xj.mpr hx;rw[this];exact h
  ·have hb:(k==NameKind.free)=false:=Xj.mpr hk
   obtain⟨cl,e1,e2,e3⟩:=j8 env r acc hr ha;refine⟨cl,?_,e2,λx h=>e3 x ?_⟩
   ·rw[List.forIn_cons];simp only[hb,false_eq_true,if_false];exact e1
   ·rcases h with h|h
    ·rcases WH.mp h with z|z
     ·cases z;exact absurd rfl hk
     ·exact .inl z
    ·exact .inr h
theorem n5(h:∀y∈scope.names,y.2=.free->∃c,env.cells.lookup y.1=some c) :
  ∃cl,closureFor scope env=pure cl/\(∀x c,cl.lookup x=some c->env.cells.lookup x=some c)/\∀x,(x,NameKind.free)∈scope.names->∃c,cl.lookup x=some c:=by
 obtain⟨cl,e1,e2,e3⟩:=j8 env scope.names [] h (λx c z=>by simp at z);refine⟨cl,?_,e2,λx hx=>e3 x (.inl hx)⟩;unfold closureFor;simp only[bind_pure];exact e1
def bO(X:Cx)(scope:Scope)(N':List Str)(cl:List (Str×Addr))(C:Addr)(s:Shared)(H:Hp)(fp:List Addr):Cx :=
 { prog:=X.prog,w:=X.w,K:=X.K,mg:=X.mg,base:=X.base,A:=X.A,N:=N',s₀:=s,H₀:=H,env:=compEnvC scope cl C X.env,outer:=X.stack,stack:=X.stack,ex:=fp,fn:=λ_=>false,calm:=X.calm,pn:=[],xe:=λ_ _=>False }
def iK(js:List (Option Nat))(σ:St):St:=js.map λo=>match o with
 |none=>none
 | some j=>match σ[j]? with
  |some (some v)=>some v
  |_=>none
def rN(sc:Scope)(x:Str):Bool:=sc.names.lookup x==some .cell||sc.names.lookup x==some .free
def jJ(XN:List Str)(xsc scope:Scope)(N':List Str)(js:List (Option Nat)):Bool :=
 scope.kind==.function&&(scope.names.all λy=>y.2 != .local||scope.names.lookup y.1==some .local)&&(scope.names.all λy=>y.2 != .cell) &&
 (scope.names.all λy=>y.2 != .free||(rN xsc y.1&&scope.names.lookup y.1==some .free))&&js.length==N'.length &&
 ((N'.zip js).all λp=>match p.2 with|none=>true|some j=>XN[j]?==some p.1&&scope.names.lookup p.1==some .free)
structure rO (X:Cx) (scope:Scope) (N':List Str) (js:List (Option Nat)):Prop where
 kind:scope.kind=.function
 names:∀y∈scope.names,y.2=.local->scope.names.lookup y.1=some .local
 AR:∀y∈scope.names,y.2≠.cell
 free:∀y∈scope.names,y.2=.free->rN X.env.scope y.1=true/\scope.names.lookup y.1=some .free
 len:js.length=N'.length
 src:∀(i:Nat) (x:Str) (j:Nat),N'[i]?=some x->js[i]?=some (some j)->X.N[j]?=some x/\scope.names.lookup x=some .free
theorem qo(h:jJ X.N X.env.scope scope N' js=true):rO X scope N' js:=by
 unfold jJ at h;simp only[and_eq_true,all_eq_true]at h;obtain⟨⟨⟨⟨⟨h1,h2⟩,h3⟩,h4⟩,h5⟩,h6⟩:=h;refine⟨eq_of_beq h1,λy hy e=>?_,λy hy e=>?_,λy hy e=>?_,eq_of_beq h5,λi x j e1 e2=>?_⟩
 ·have:=h2 y hy;rw[e]at this;simpa using this
 ·have:=h3 y hy;rw[e]at this;simp at this
 ·have:=h4 y hy;rw[e]at this;simpa using this
 ·have hm:(x,some j)∈N'.zip js:=by
   refine Yw.mpr ⟨i,?_⟩;rw[Yb];exact⟨e1,e2⟩
  have:=h6 _ hm;simpa using this
theorem jY(js:List (Option Nat))(σ:St):(iK js σ).length=js.length:=by unfold iK;rw[Wr]
def DZ(X:Cx)(ifs:List Expr)(t:TT):Prop :=
 ∀(pins:List (Addr×Obj)) (s:Shared) (σ:St) (H:Hp) (Q:Bool->Hp->Prop),Inv X pins σ H s->t σ H Q ->
  wpAny (model X.prog X.w) X.A (forIn ifs true λc r=>if r=true then do let ok <-isTrue c X.env (eval c X.env);pure (ForInStep.yield ok) else pure (ForInStep.yield r)) (TP X pins σ Q) X.xe s
def tU:TT:=λ_ H Q=>Q true H
theorem D0:DZ X [] tU:=λ_ _ _ H _ I h=>wpAny_tests_nil ⟨H,I,h⟩
theorem D3(h:PT X c t):DZ X [c] t:=λpins s σ H Q I hw=>wpAny_tests_one (h pins s σ H Q I hw)
def AS(wi:TI)(js:List (Option Nat))(g:TG)(tt:TT)(te:TE):TE:=λσ H Q=>wi σ H λJ H1=>∀D,H1 D=none->∃W:Nat->Nat->St->Hp->Prop,(∃m,W 0 m (iK js σ) (upd H1 D (.lst []))) /\
 ∀i m σ' H,W i m σ' H->(J.stop i H/\Q (.ref D) H)\/(J.go i H/\∃N:St->Hp->Prop,(∀Ah H',N Ah H'->∃m',m'<m/\W (i+1) m' Ah H') /\
  ∀x H',J.vA i H x H'->g x σ' H' λσ2 H2=>tt σ2 H2 λb H3=>if b=true then te σ2 H3 λy H4=>∃ys,H4 D=some (.lst ys)/\ys.length<sizeLine/\N σ2 (upd H4 D (.lst (ys++[y]))) else N σ2 H3)
theorem pT(hc:∀y∈scope.names,y.2≠.cell)
  (h:(relabel scope env).names.lookup x=some .cell\/(relabel scope env).names.lookup x=some .free):(x,NameKind.free)∈scope.names:=by
 unfold relabel at h;simp only at h;generalize scope.names=ns at hc h
 induction ns with
 |nil=>simp at h
 |cons p r ih=>
  obtain⟨n,k⟩:=p;have hc':∀y∈r,y.2≠.cell:=λy hy=>hc y (Ww _ hy);simp only[map_cons]at h;cases hx:x==n with
  |true=>
   have e':x=n:=eq_of_beq hx;subst e'
   by_cases hk:k=.free
   ·subst hk;exact Wx
   ·have hk2:=hc (x,k) Wx
    have hb:(k==NameKind.free)=false:=Xj.mpr hk;rw[hb]at h;simp only[Bool.false_and,false_eq_true,if_false,lookup_cons,beq_self_eq_true]at h
    rcases h with h|h
    ·exact absurd (WR h) hk2
    ·exact absurd (WR h) hk
  |false=>
   refine Ww _ (ih hc' ?_)
   by_cases hk:(k==NameKind.free&&env.scope.kind==.function&&env.kindOf n==some .cell)=true
   ·rw[Wu hk]at h;simp only[lookup_cons,hx]at h;exact h
   ·rw[Wt hk]at h;simp only[lookup_cons,hx]at h;exact h
theorem rP(h:scope.names.lookup x=some .free) :
  (relabel scope env).names.lookup x=some .cell\/(relabel scope env).names.lookup x=some .free:=by
 unfold relabel;simp only;generalize scope.names=ns at h
 induction ns with
 |nil=>simp at h
 |cons p r ih=>
  obtain⟨n,k⟩:=p;simp only[map_cons];cases hx:x==n with
  |true=>
   simp only[lookup_cons,hx]at h;have hk:=WR h;subst hk
   by_cases hk:(NameKind.free==NameKind.free&&env.scope.kind==.function&&env.kindOf n==some .cell)=true
   ·rw[Wu hk];simp[lookup_cons,hx]
   ·rw[Wt hk];simp[lookup_cons,hx]
  |false=>
   simp only[lookup_cons,hx]at h
   by_cases hk:(k==NameKind.free&&env.scope.kind==.function&&env.kindOf n==some .cell)=true
   ·rw[Wu hk];simp only[lookup_cons,hx];exact ih h
   ·rw[Wt hk];simp only[lookup_cons,hx];exact ih h
section
variable {X:Cx} {pins:List (Addr×Obj)} {σ:St} {scope:Scope} {N':List Str} {js:List (Option Nat)}
theorem n6(ok:rO X scope N' js)(xo:X.Ok):∀y∈scope.names,y.2=.free->∃c,X.env.cells.lookup y.1=some c:=λy hy e=>by
 have:=(ok.free y hy e).1;unfold rN at this;rw[YY]at this;refine xo.has y.1 ?_
 rcases this with z|z
 ·exact .inl (eq_of_beq z)
 ·exact .inr (eq_of_beq z)
theorem vP{tk:Nat}(ok:rO X scope N' js)(I:Inv X pins σ H s)
  (hcl1:∀x c,cl.lookup x=some c->X.env.cells.lookup x=some c) (hcl2:∀x,(x,NameKind.free)∈scope.names->∃c,cl.lookup x=some c)
  (hfp:∀b∈fp,nq X pins H b) (hlt:∀b∈fp,b<s.heap.objs.size)
  (hns:h'.Ns s.heap.objs.size (λ_=>none)) (hk:∀b o,s.heap.get? b=some o->h'.get? b=some o) :
  Inv (bO X scope N' cl s.heap.objs.size s H fp) [] (iK js σ) H { s with heap:=h',toks:=tk }:=by
 have cellK:∀x c,cl.lookup x=some c->∃v,s.heap.IsCell c v:=λx c e=>I.cell x c (hcl1 x c e);have hCf:H s.heap.objs.size=none:=I.hok.fresh (Wy _);refine⟨⟨I.ok.mod,ok.kind,I.ok.glob,I.ok.blt,Wy _,λx y c e1 e2=>I.ok.inj x y c (hcl1 x c e1) (hcl1 y c e2),λx hx=>hcl2 x (pT ok.AR hx),λx c hf _=>absurd hf (by intro z;cases z),I.ok.hd,I.ok.frames,.inl rfl,
   λb hb=>⟨WJ (hlt b hb),λx c e z=>?_⟩,I.bs,WZ I.ok.Gi I.sz,λb o e hb=>?_,λb hb hs=>?_,I.stack,I.xq⟩,rfl,I.bare,Un.kept hk,⟨_,hns,λi x v e1 e2 e3=>?_⟩,λx c e=>?_,hCf,λx c e=>I.iU x c (hcl1 x c e),
   λp hp=>absurd (show p∈([]:List (Addr×Obj)) from hp) (by simp),I.hok.kept hk,?_⟩
 ·exact(hfp b hb).2.2.2.2.1 x c (hcl1 x c e) z
 ·rcases(hfp b hb).2.2.2.1 with z|z
  ·exact I.ok.nj b o e z
  ·exact absurd (WC (WB (I.ok.bs b o e).1) z) (Xp _)
 ·rcases WH.mp (I.vv b hs) with z|z
  ·exact(hfp b hb).2.1 z
  ·exact(hfp b hb).2.2.1 z
 ·-- a name TV has a value: one of the def around
  have Dm:(iK js σ)[i]?=some (some v):=e2;unfold iK at Dm;rw[WO] at Dm;cases hj:js[i]? with
  |none=>rw[hj] at Dm;cases Dm
  |some o=>
   rw[hj] at Dm;cases o with
   |none=>simp at Dm
   |some j=>
    obtain⟨hN,hf⟩:=ok.src i x j e1 hj;cases hs:σ[j]? with
    |none=>simp[hs] at Dm
    |some ov=>
     cases ov with
     |none=>simp[hs] at Dm
     |some v'=>
      simp[hs] at Dm;subst Dm;have hfr:=(ok.free (x,.free) (Xr hf) rfl).1;unfold rN at hfr;rw[YY]at hfr;have MK:X.env.scope.names.lookup x=some .cell\/X.env.scope.names.lookup x=some .free:=hfr.imp eq_of_beq eq_of_beq;obtain⟨m,_,hl⟩:=I.loc;obtain⟨u,r,l⟩:=hl j x v' hN hs (.inr MK);refine⟨u,r,.inr ⟨rP hf,?_⟩⟩
      rcases l with ⟨k,_⟩|⟨_,c,e,z⟩
      ·have k':X.env.scope.names.lookup x=some .local:=k
       rcases MK with q|q<;>(rw[q]at k';cases k')
      ·obtain⟨d,hd⟩:=hcl2 x (Xr hf);have e':=hcl1 x d hd;rw[e]at e';cases e';obtain⟨oc,hoc,Ak⟩:=z;exact⟨c,hd,oc,hk _ _ hoc,Ak⟩
 ·obtain⟨v,oc,hoc,Ak⟩:=cellK x c e;exact⟨v,oc,hk _ _ hoc,Ak⟩
 ·rw[jY];exact ok.len
theorem zg(I:Inv X pins σ H s)(hfp:∀b∈fp,nq X pins H b)
  (J:Inv (bO X scope N' cl C s H fp) [] σ' H' s'):Inv X pins σ H' s' :=
 I.L3 (ch:=fp) J.os J.base J.hok J.bare λb hb=>⟨(hfp b hb).2.2.2.1,(hfp b hb).2.1,(hfp b hb).2.2.2.2.1,(hfp b hb).2.2.2.2.2⟩
end
section
variable {X:Cx} {scope:Scope} {N':List Str} {js:List (Option Nat)} {tg elt iter:Expr} {ifs:List Expr} {pos:Pos} {wi:TI} {g:TG} {tt:TT} {te:TE}
theorem tW{pins:List (Addr×Obj)}{σ:St}{H2:Hp}{s2:Shared}{it:Addr}{fp:List Addr}{tn:Nat->Heap->Prop}{J:It}{cl:List (Str×Addr)}{E:Value->Shared->Prop}{RR:Value->Addr->Result->Shared->Prop}{Q:VK}
  (ok:rO X scope N' js) (hc:X.calm=true) (I2:Inv X pins σ H2 s2) (T:Turn X.prog X.w X.K tg J fp it tn) (st2:tn 0 s2.heap) (f2:∀b∈fp,nq X pins H2 b)
  (hcl1:∀x c,cl.lookup x=some c->X.env.cells.lookup x=some c) (hcl2:∀x,(x,NameKind.free)∈scope.names->∃c,cl.lookup x=some c)
  (hg:∀cl C s H fp,PG (bO X scope N' cl C s H fp) tg g) (ht:∀cl C s H fp,DZ (bO X scope N' cl C s H fp) ifs tt) (he:∀cl C s H fp,PE (bO X scope N' cl C s H fp) elt te)
  (rd:∀D,H2 D=none->∃W:Nat->Nat->St->Hp->Prop,(∃m,W 0 m (iK js σ) (upd H2 D (.lst []))) /\
   ∀i m σ' H,W i m σ' H->(J.stop i H/\Q (.ref D) H)\/(J.go i H/\∃N:St->Hp->Prop,(∀Ah H',N Ah H'->∃m',m'<m/\W (i+1) m' Ah H') /\
    ∀x H',J.vA i H x H'->g x σ' H' λσ2 H2=>tt σ2 H2 λb H3=>if b=true then te σ2 H3 λy H4=>∃ys,H4 D=some (.lst ys)/\ys.length<sizeLine/\N σ2 (upd H4 D (.lst (ys++[y]))) else N σ2 H3))
  (hRR:∀(D C:Addr) (s':Shared) (H':Hp) (m:Str->Option Value),s2.heap.objs.size<=C->Inv X pins σ H' s'->H' C=none->s'.heap.Ns C m->Q (.ref D) H'->RR (.ref D) C (.ok .next) s') :
  wpAny (model X.prog X.w) X.A (newList []) (λacc s₃=>wpAny (model X.prog X.w) X.A (newFunctionEnv scope X.env.globals cl [] X.env.qual none .none (some X.env)) (λcenv s₄=>
   codeAny (model X.prog X.w) X.A (.compStart (.ListComp elt [⟨tg,iter,ifs,0⟩] scope pos) 0 (.ref it) acc { cenv with scope:=relabel scope X.env }) (RR acc cenv.locals) s₄) E s₃) E s2:=by
 have hD:H2 s2.heap.objs.size=none:=I2.hok.fresh (Wy _);refine W2 (wpAny_newFunctionEnv ok.AR (by intro y hy;simp at hy) (λh₁ ML MM=>?_) ok.kind);dsimp only at ML MM |-;have I3:Inv X pins σ (upd H2 s2.heap.objs.size (.lst [])) { s2 with heap:=s2.heap.push { cls:=.type "list",dict:=none,data:=.seq ([]:List Value).toArray },toks:=s2.toks } :=
  I2.laid (t':=s2.toks) (λb u e=>Wq _ e) (Wy _) ⟨by simp,[],0,.nil,WG _ rfl⟩
 generalize MN:({ s2 with heap:=s2.heap.push { cls:=.type "list",dict:=none,data:=.seq ([]:List Value).toArray },toks:=s2.toks }:Shared)=s3 at I3;have hsz:s3.heap.objs.size=s2.heap.objs.size+1:=by rw[<-MN];exact Xl ..
 have eC:(s2.heap.push { cls:=.type "list",dict:=none,data:=.seq ([]:List Value).toArray }).objs.size=s3.heap.objs.size:=by rw[<-MN]
 have f3:∀b∈fp,nq X pins (upd H2 s2.heap.objs.size (.lst [])) b:=λb hb=>by
  obtain⟨o,e,_⟩:=T.obj _ _ st2 b hb;refine⟨?_,(f2 b hb).2⟩;rw[aG (WJ (WB e))];exact(f2 b hb).1
 have hlt:∀b∈fp,b<s3.heap.objs.size:=λb hb=>by
  obtain⟨o,e,_⟩:=T.obj _ _ st2 b hb;have hb2:b<s2.heap.objs.size:=WB e;rw[hsz];exact XC hb2
 have keep:∀b o,s3.heap.get? b=some o->h₁.get? b=some o:=λb o e=>by
  have e':(s2.heap.push { cls:=.type "list",dict:=none,data:=.seq ([]:List Value).toArray }).get? b=some o:=by rw[<-MN]at e;exact e
  exact MM.extBut b o (WJ (WB e')) (Wq _ e')
 have I4:=vP (tk:=s2.toks+([]:List (Str×Value)).length) ok I3 hcl1 hcl2 f3 hlt (h':=h₁) (by rw[<-eC];simpa using ML) keep;have RW:tn 0 h₁:=T.keep _ _ _ st2 λb hb o e=>keep b o (by rw[<-MN];exact Wq _ e);obtain⟨W,⟨m0,w0⟩,turn⟩:=rd _ hD;have stat:∀{H':Hp},(∀b∈fp,H' b=none)->∀b∈fp,nq (bO X scope N' cl s3.heap.objs.size s3 (upd H2 s2.heap.objs.size (.lst [])) fp) [] H' b:=λ{H'} hn b hb=>
  ⟨hn b hb,WJ (hlt b hb),I4.ok.Aj b hb,.inl hb,(I4.ok.P8 b hb).2,λp hp=>absurd (show p∈([]:List (Addr×Obj)) from hp) (by simp)⟩
 have TX:∀tk,({ s2 with heap:=h₁,toks:=tk }:Shared)={ s3 with heap:=h₁,toks:=tk }:=λtk=>by rw[<-MN]
 have loop:codeAny (model X.prog X.w) X.A (.compLoop (.ListComp elt [⟨tg,iter,ifs,0⟩] scope pos) 0 (.ref it) (.ref s2.heap.objs.size) (compEnvC scope cl s3.heap.objs.size X.env)) (RR (.ref s2.heap.objs.size) s3.heap.objs.size)
   { s3 with heap:=h₁,toks:=s2.toks+([]:List (Str×Value)).length }:=by
  refine codeAny_loop rfl (λn s'=>∃i σ' H',Inv (bO X scope N' cl s3.heap.objs.size s3 (upd H2 s2.heap.objs.size (.lst [])) fp) [] σ' H' s'/\tn i s'.heap/\(∀b∈fp,H' b=none)/\W i n σ' H') ?_ m0 ⟨0,_,_,I4,RW,λb hb=>(f3 b hb).1,w0⟩;rintro n s5 ⟨i,σ5,H5,I5,LI,Pu,w5⟩;show wpAny _ X.A ((compTurn (.ListComp elt [⟨tg,iter,ifs,0⟩] scope pos) 0 (.ref it) (.ref s2.heap.objs.size) (compEnvC scope cl s3.heap.objs.size X.env)).onRaise (λx=>do noteFrame x (compEnvC scope cl s3.heap.objs.size X.env);theTreesLotGoes x)) _ _ s5;refine wpAny_noted ?_;rw[compTurn_list];refine Wl (wpAny_standAt (Wl ?_))
  rcases turn i n σ5 H5 w5 with ⟨stop,qn⟩|⟨go,N,hN,step⟩
  ·refine Xu (T.done (bO X scope N' cl s3.heap.objs.size s3 (upd H2 s2.heap.objs.size (.lst [])) fp) rfl rfl rfl hc i [] s5 σ5 H5 (λ_ _=>False) I5 (stat Pu) LI stop) (λr s6 ⟨hr,I6⟩=>?_) λ_ _ z=>z.elim;subst hr;refine Wv ?_;obtain⟨m,hm,_⟩:=id I6.loc;exact hRR _ _ s6 H5 m (by rw[hsz];exact Xo _) (zg I3 f3 I6) I6.free hm qn
  ·refine Xu (T.item (bO X scope N' cl s3.heap.objs.size s3 (upd H2 s2.heap.objs.size (.lst [])) fp) rfl rfl rfl hc i [] s5 σ5 H5 (λ_ _=>False) I5 (stat Pu) LI go) (λr s6 ⟨u,hr,h6⟩=>?_) λ_ _ z=>z.elim
   subst hr;refine Wl (Xu h6 (λ_ s7 ⟨x,H7,I7,r7,y7,QE,TY⟩=>?_) λ_ _ z=>z.elim);have TZ:=I7.pinned (stat TY) (T.obj _ _ QE);refine Wl (Xu (hg _ _ _ _ _ _ s7 σ5 H7 x u _ TZ r7 (step x H7 y7)) (λ_ s8 ⟨σ8,H8,I8,q8⟩=>?_) λ_ _ z=>z.elim);refine Wl (Xu (ht _ _ _ _ _ _ s8 σ8 H8 _ I8 q8) (λb s9 ⟨H9,I9,q9⟩=>?_) λ_ _ z=>z.elim);have AV:∀{sA:Shared} {σA:St} {HA:Hp},Inv (bO X scope N' cl s3.heap.objs.size s3 (upd H2 s2.heap.objs.size (.lst [])) fp) ([]++nU fp s7.heap) σA HA sA->N σA HA ->
     ∃m,m<n/\∃i σ' H',Inv (bO X scope N' cl s3.heap.objs.size s3 (upd H2 s2.heap.objs.size (.lst [])) fp) [] σ' H' sA/\tn i sA.heap/\(∀b∈fp,H' b=none)/\W i m σ' H':=λ{sA σA HA} IA nA=>by
    obtain⟨m',hm,wA⟩:=hN σA HA nA;refine⟨m',hm,i+1,σA,HA,IA.kP,T.keep _ _ _ QE λb hb o e=>(IA.pin (b,o) (WU _ (WU _ (iJ hb e)))).1,λb hb=>?_,wA⟩;obtain⟨o,e,d⟩:=T.obj _ _ QE b hb;exact(IA.pin (b,o) (WU _ (WU _ (iJ hb e)))).2.1
   cases b with
   |false=>exact Wv ⟨rfl,AV I9 (by simpa using q9)⟩
   |true=>rw[Wu rfl]at q9;refine Wl (Wl (Xu (he _ _ _ _ _ _ s9 σ8 H9 _ I9 q9) (λv sB ⟨y,HB,IB,rB,ys,hys,hlen,nB⟩=>?_) λ_ _ z=>z.elim));refine Wl (Xu (qj (X:=bO X scope N' cl s3.heap.objs.size s3 (upd H2 s2.heap.objs.size (.lst [])) fp) _ sB σ8 HB (.ref s2.heap.objs.size) [y] _ [v] (λ_ HC=>HC=upd HB s2.heap.objs.size (.lst (ys++[y]))) IB rfl #[rB] ⟨_,ys,y,rfl,rfl,hys,hlen,rfl⟩) (λv' sC ⟨_,HC,IC,_,T4⟩=>?_) λ_ _ z=>z.elim);subst T4;exact Wv (Wv ⟨rfl,AV IC nB⟩)
 rw[TX];have QF:({ newEnv scope (s2.heap.push { cls:=.type "list",dict:=none,data:=.seq ([]:List Value).toArray }).objs.size X.env.globals cl X.env.qual none Value.none (some X.env) builtinsNs with scope:=relabel scope X.env }:Env)=compEnvC scope cl s3.heap.objs.size X.env:=by rw[eC];rfl
 have QG:(newEnv scope (s2.heap.push { cls:=.type "list",dict:=none,data:=.seq ([]:List Value).toArray }).objs.size X.env.globals cl X.env.qual none Value.none (some X.env) builtinsNs).locals=s3.heap.objs.size:=by rw[eC];rfl
 rw[QF,QG];exact codeAny_compStart_list loop (T.self _ _ _ _ _ RW loop)
theorem D4(hok:jJ X.N X.env.scope scope N' js=true)(hc:X.calm=true)(hi:PI X tg iter wi)(hg:∀cl C s H fp,PG (bO X scope N' cl C s H fp) tg g)
  (ht:∀cl C s H fp,DZ (bO X scope N' cl C s H fp) ifs tt) (he:∀cl C s H fp,PE (bO X scope N' cl C s H fp) elt te)
  (hs:∀x,foldedSetIterable iter X.env x=pure x):PE X (.ListComp elt [⟨tg,iter,ifs,0⟩] scope pos) (AS wi js g tt te):=by
 intro pins s σ H Q I h;have ok:=qo hok;obtain⟨cl,QH,hcl1,hcl2⟩:=n5 (n6 ok I.ok);rw[eval_ListComp];refine wpAny_comprehension_free (use:=none) rfl hs QH ok.kind ok.names (cH (hi pins s σ H _ I h) λxv s1 h1=>cH h1 λitv s2 h2=>?_);obtain⟨it,fp,tn,J,H2,rfl,I2,T,st2,f2,rd⟩:=h2;refine tW (RR:=λacc C=>compPost (model X.prog X.w) X.A X.xe none (EP X pins σ Q) acc C) ok hc I2 T st2 f2 hcl1 hcl2 hg ht he rd ?_;intro D C s' H' m hC J' fC hm q;refine⟨m,hm,λh' hs'=>⟨.ref D,H',?_,rfl,q⟩⟩;refine J'.turned (t':=s'.toks) (λb o hb e=>hs'.extBut b o hb e) fC (X7 (WC I2.lt hC)) (.inr (WZ I2.sz hC)) (λx c e z=>?_) λp hp z=>?_
 ·obtain⟨v,q'⟩:=I2.cell x c e;exact absurd (WC q'.lt (by rw[z];exact hC)) (Xp _)
 ·exact absurd (WC (WB (I2.pin p hp).1) (by rw[z];exact hC)) (Xp _)
theorem D5{i:Nat}(hN:X.N.Nodup)(hx:X.N[i]?=some x)(hl:Loc X.env.scope x)(hok:jJ X.N X.env.scope scope N' js=true)(hc:X.calm=true)(hi:PI X tg iter wi)(hg:∀cl C s H fp,PG (bO X scope N' cl C s H fp) tg g)
  (ht:∀cl C s H fp,DZ (bO X scope N' cl C s H fp) ifs tt) (he:∀cl C s H fp,PE (bO X scope N' cl C s H fp) elt te)
  (hsw:swapsWith (.ListComp elt [⟨tg,iter,ifs,0⟩] scope pos) (some (.Name x pos')) spos.line X.env=pure true)
  (hf:X.fn x=true\/X.env.scope.names.lookup x=some .local)
  (hs:∀x,foldedSetIterable iter X.env x=pure x):PS X (.Assign [.Name x pos'] (.ListComp elt [⟨tg,iter,ifs,0⟩] scope pos) spos) (DC (AS wi js g tt te) (qa i)):=by
 intro pins s σ H D I h;have ok:=qo hok;obtain⟨cl,QH,hcl1,hcl2⟩:=n5 (n6 ok I.ok);rw[exec_Assign_Name_used _ _ _ _ hsw];refine Wl (wpAny_standAt (Wl ?_));show wpAny _ X.A (do let _ <-comprehension (.ListComp elt [⟨tg,iter,ifs,0⟩] scope pos) scope X.env _ (newList []) false (eval iter X.env) (some (assign (.Name x pos') X.env))) _ _ s;refine Wl (Xu (wpAny_comprehension_free (use:=some (assign (.Name x pos') X.env)) (Q:=λ_ s'=>SP X pins D .next s') rfl hs QH ok.kind ok.names
  (cH (hi pins s σ H _ I h) λxv s1 h1=>cH h1 λitv s2 h2=>?_)) (λ_ s' hq=>Wv (Wv hq)) λ_ _ e=>e)
 obtain⟨it,fp,tn,J,H2,rfl,I2,T,st2,f2,rd⟩:=h2;refine tW (RR:=λacc C=>compPost (model X.prog X.w) X.A X.xe (some (assign (.Name x pos') X.env)) (λ_ s'=>SP X pins D .next s') acc C) (Q:=λx H1=>qa i x σ H1 D.nx) ok hc I2 T st2 f2 hcl1 hcl2 hg ht he rd ?_;intro E C s' H' m hC J' fC hm q;have RX:C≠X.env.locals:=X7 (WC I2.lt hC);have hCc:∀x c,X.env.cells.lookup x=some c->c≠C:=λx c e z=>by
  obtain⟨v,q'⟩:=I2.cell x c e;exact absurd (WC q'.lt (by rw[z];exact hC)) (Xp _)
 refine cH (show wpAny _ X.A (assign (.Name x pos') X.env (.ref E)) (λ_ s''=>(∃Ah ID,Inv X pins Ah ID s''/\D.nx Ah ID/\ID C=none)/\∃m,s''.heap.Ns C m) X.xe s' from ?_) λ_ s'' ⟨⟨Ah,ID,QI,T5,QJ⟩,T6,IF⟩=>?_
 ·refine wpAny_assign_Name (p9 J' hN hx hl (show RelV (.ref E) (.ref E) from rfl) (λs'' QI ⟨a,T7,ha⟩=>⟨⟨_,H',QI,q,fC⟩,m,?_⟩) hf)
  refine hm.sameBut T7 ?_
  rcases ha with z|z
  ·rw[z];exact RX
  ·exact λw=>hCc _ _ z w.symm
 ·refine⟨T6,IF,λh' hs'=>⟨Ah,ID,?_,T5⟩⟩;refine QI.turned (t':=s''.toks) (λb o hb e=>hs'.extBut b o hb e) QJ RX (.inr (WZ I2.sz hC)) hCc λp hp z=>?_;exact absurd (WC (WB (I2.pin p hp).1) (by rw[z];exact hC)) (Xp _)
end
theorem Inv.xG{X:Cx}{pins:List (Addr×Obj)}{σ:St}{H:Hp}{s:Shared}{h':Heap}{t':Nat}{ch:List Addr}(I:Inv X pins σ H s)(hf:∀b∈ch,nq X pins H b)
  (k:∀b o,b∉ch->s.heap.get? b=some o->h'.get? b=some o):Inv X pins σ H { s with heap:=h',toks:=t' }:=by
 have L0:∀b u,H b=some u->b∉ch:=λb u e z=>by rw[(hf b z).1]at e;cases e
 refine I.step (g':=s.gens) (d':=s.drawn) (ch:=ch) (λb hb=>?_) (λb o _ _ hc e _=>k b o hc e) (λb o _ _ hc e _=>⟨o.slots,k b o hc e⟩) (λ_ _ _ _ n=>n)
  (λb o hc e=>⟨o,k b o hc e⟩) (λ_ _ e=>e) (λ_ _ _ e=>e) (λb ps e=>⟨#[],by rw[e];simp⟩) (λm hm=>?_) (λb u e=>?_) I.bare
 ·exact⟨(hf b hb).2.2.2.1,(hf b hb).2.1,(hf b hb).2.2.2.2.1,(hf b hb).2.2.2.2.2⟩
 ·obtain⟨o,es,ep,ho,r⟩:=hm;exact⟨o,es,ep,k _ o (λz=>(hf _ z).2.1 rfl) ho,r⟩
 ·refine(I.hok b u e).stay (λc v hc q=>k c v ?_ q) (λ_ q=>q) λ_ _ q=>q
  rcases hc with z|z
  ·rw[z];exact L0 b u e
  ·exact L0 c _ z
def MO(K:Frag)(a:Addr):It :=
 ⟨λi H=>∃xs x,gR K H a xs/\xs[i]?=some x,λi H x H'=>∃p v,H p=none/\x=.ref p/\H'=upd H p (.tup [.int i,v])/\∀xs,gR K H a xs->xs[i]?=some v,λi H=>∃xs,gR K H a xs/\xs.length<=i⟩
theorem zh{P:Program}{w:World}{K:Frag}{es:List Expr}{k:Nat}{pos:Pos}(a e it:Addr)(hne:e≠it) :
  Turn P w K (.Tuple es k pos) (MO K a) [e,it] e (λi h=>(∃old,IsEnum h e it i old)/\h.IsListIter it a i) where
 mem:=by simp
 obj:=λi h st b hb=>by
  obtain⟨⟨old,he⟩,⟨o,e2,c,d⟩⟩:=st
  rcases WH.mp hb with z|z
  ·subst z;exact⟨_,he,λv z=>nomatch z⟩
  ·rw[WD.mp z];exact⟨o,e2,λv z=>by rw[d]at z;cases z⟩
 keep:=λi h h' st k=>⟨let ⟨old,he⟩:=st.1;⟨old,k e (by simp) _ he⟩,st.2.at λo e=>k it (by simp) o e⟩
 item:=by
  intro X hP hw hK hc i pins s σ H E I hf st hg;subst hP hw hK;obtain⟨xs,x,hq,hx⟩:=hg;obtain⟨its,rv,p,hz⟩:=I.list hq;obtain⟨u,hu,ru⟩:=rv.get hx;obtain⟨⟨old,he⟩,hit⟩:=st;have hei:e<s.heap.objs.size:=WB he;have T8:it<s.heap.objs.size:=by obtain⟨_,y,_⟩:=hit;exact WB y
  refine wpAny_pyNext_enum_item he hit p.isList (x:=u) (by simpa using hu) hne λh' ho QK hT hsz hk=>?_;refine⟨_,rfl,?_⟩;refine wpAny_letOwnedTupleGo_enum ho λh2 T9 hs2=>?_;have hT2:h2.get? s.heap.objs.size=some { cls:=.type "tuple",data:=.seq [.int i s.toks,u].toArray }:=hs2.extBut _ _ (X7 hei) hT;have I1:Inv X pins σ H { s with heap:=h2,toks:=s.toks+1 }:=I.xG (ch:=[e,it]) hf λb o hb q=>by
   have h1:b≠e:=λz=>hb (by simp[z]);have h2:b≠it:=λz=>hb (by simp[z]);exact hs2.extBut b o h1 (hk b o h1 h2 q)
  have hn:H s.heap.objs.size=none:=I.hok.fresh (Wy _);have I2:Inv X pins σ (upd H s.heap.objs.size (.tup [.int i,x])) { s with heap:=h2,toks:=s.toks+1 }:=by
   have un:Un X.fs [] H (upd H s.heap.objs.size (.tup [.int i,x])) s.heap s.heap:=Un.laid (λb u q=>q) (Wy _) hn;refine⟨I1.ok,I1.os,I1.bare,?_,I1.loc,I1.cell,?_,λy c q=>?_,λp hp=>?_,λb o q=>?_,I1.len⟩
   ·refine⟨I1.base.keep,I1.base.slot,λb o q n hx=>?_,I1.base.there,λb ys q=>?_,λb o ys q=>?_,λb ps q=>?_⟩
    ·have hlt:b<s.heap.objs.size:=WC (WB q) I.sz;rw[aG (WJ hlt)];exact I1.base.free b o q n hx
    ·rw[aG (aR (I1.base.tups b ys q) hn)];exact I1.base.tups b ys q
    ·rw[aG (aR (I1.base.frzs b o ys q) hn)];exact I1.base.frzs b o ys q
    ·obtain⟨more,z⟩:=I1.base.rj b ps q;exact⟨more,by rw[aG (aR z hn)];exact z⟩
   ·rw[aG (WJ I.lt)];exact I1.free
   ·obtain⟨v,z⟩:=I.cell y c q;rw[aG (WJ z.lt)];exact I1.iU y c q
   ·obtain⟨q1,q2,q3⟩:=I1.pin p hp;refine⟨q1,?_,q3⟩;rw[aG (WJ (WB (I.pin p hp).1))];exact q2
   ·by_cases hb:b=s.heap.objs.size
    ·subst hb;rw[aZ]at q;cases q;exact⟨by show 2<=sizeLine;decide,[.int i s.toks,u],.cons ⟨_,rfl⟩ #[ru],_,hT2,rfl,_,rfl⟩
    ·rw[aG hb]at q;exact(I1.hok b o q).stay (λc v _ z=>z) (λc z=>by rw[aG (aR z hn)];exact z) λc ys z=>by rw[aG (aR z hn)];exact z
  refine⟨.ref s.heap.objs.size,_,I2,rfl,⟨s.heap.objs.size,x,hn,rfl,rfl,λys hy=>by rw[I.sZ hy hq];exact hx⟩,⟨⟨_,by simpa using T9⟩,?_⟩,λb hb=>?_⟩
  ·exact QK.at λo y=>(hs2.2 it hne.symm).trans y
  ·have hlt:b<s.heap.objs.size:=by
    rcases WH.mp hb with z|z
    ·rw[z];exact hei
    ·rw[WD.mp z];exact T8
   rw[aG (WJ hlt)];exact(hf b hb).1
 done:=by intro X hP hw hK hc i pins s σ H E I hf st hg;subst hP hw hK;obtain⟨xs,hq,hx⟩:=hg;obtain⟨its,rv,p,hz⟩:=I.list hq;obtain⟨⟨old,he⟩,hit⟩:=st;have hl:=rv.length;exact wpAny_pyNext_enum_end (I.ok.hd hc) he hit p.isList (by simp;omega) λh' eb=>⟨rfl,I.xG (t':=s.toks) (ch:=[e,it]) hf λb o hb q=>eb b o (λz=>hb (by simp[z])) q⟩
 self:=λ_ _ _ _ _ st h=>let ⟨_,he⟩:=st.1;wpAny_pyIter_enum he h
def MP(K:Frag)(ta:TA):TI:=λσ H R=>ta σ H λvs H1=>∃a,vs=[.ref a]/\(∃xs,gR K H1 a xs)/\R (MO K a) H1
theorem D6{k:Nat}(hg:Gl X "enumerate")(hm:X.mg "enumerate" = none)(ha:PA X [a] ta)(hs:starEach [a] X.env=[(false,eval a X.env)]) :
  PI X (.Tuple es k tpos) (.Call (.Name "enumerate" p) [a] [] pos) (MP X.K ta):=by
 intro pins s σ H R I h;refine Call_ (gQ I hg hm boot_enumerate (W5 (cH (ha pos pins s σ H _ I h) λus s1 aL=>?_) hs rfl));obtain⟨vs,H1,I1,r1,q1⟩:=aL;obtain⟨l,e,⟨xs,hq⟩,q⟩:=q1;subst e;cases r1 with
 |cons r rr=>
  cases rr;cases r;obtain⟨its,rv,pl,hz⟩:=I1.list hq;refine call_enumerate_list pl.isList λh' he hit hsz hk=>?_;have I2:Inv X pins σ H1 { s1 with heap:=h' }:=I1.kept (t':=s1.toks) hk;refine wpAny_pyIter_enum (s:={ s1 with heap:=h' }) he ?_;refine⟨_,[s1.heap.objs.size+1,s1.heap.objs.size],_,_,H1,rfl,I2,zh l _ _ (X7 (Xa _)),⟨⟨_,by simpa using he⟩,hit⟩,λb hb=>?_,q⟩;have hb':s1.heap.objs.size<=b:=by
   rcases WH.mp hb with z|z
   ·rw[z];exact Xo _
   ·rw[WD.mp z];exact Wy _
  exact I1.DE hb' (I1.hok.fresh hb')
end L2
end
section
namespace L2
open PySem PySem.W PyProof.Rows
namespace rQ
section
variable {O:KeyOrd} {key:Nat->O.α} {N:Nat} {cmp:Nat->Nat->(Bool->Shared->Prop)->Shared->Prop} {s:Shared}
def K(O:KeyOrd)(key:Nat->O.α)(p:Array Nat)(i:Nat):O.α:=key (p.getD i 0)
def Up(O:KeyOrd)(key:Nat->O.α)(p:Array Nat)(k:Nat):Prop:=∀i j,i<=j->j<k->O.kle (K O key p i) (K O key p j)
def Down(O:KeyOrd)(key:Nat->O.α)(p:Array Nat)(k:Nat):Prop:=∀i j,i<=j->j<k->O.kle (K O key p j) (K O key p i)
def D7(O:KeyOrd)(key:Nat->O.α)(N:Nat)(cmp:Nat->Nat->(Bool->Shared->Prop)->Shared->Prop)(s:Shared):Prop :=
 ∀i j (C:Bool->Shared->Prop),i<N->j<N->C (O.blt (key i) (key j)) s->cmp i j C s
def Ent(N:Nat)(p:Array Nat):Prop:=p.size=N/\0<N/\∀x∈p.toList,x<N
theorem Ent.at{p:Array Nat}(h:Ent N p)(i:Nat):p.getD i 0<N:=by
 by_cases hi:i<p.size
 ·have e:p.getD i 0=p[i]:=by simp[Array.getD,hi]
  rw[e];exact h.2.2 _ (by simp)
 ·have e:p.getD i 0=0:=by simp[Array.getD,hi]
  rw[e];exact h.2.1
theorem Ent.perm{p q:Array Nat}(h:Ent N p)(e:q.Perm p):Ent N q :=
 ⟨e.size_eq.trans h.1,h.2.1,λx hx=>h.2.2 x ((Array.perm_iff_toList_perm.mp e).mem_iff.mp hx)⟩
theorem K_congr{p q:Array Nat}{i j:Nat}(h:p[i]?=q[j]?):K O key p i=K O key q j:=by
 unfold K;rw[Array.getD_eq_getD_getElem?,Array.getD_eq_getD_getElem?,h]
theorem K_bubble{p:Array Nat}{src d:Nat}(hs:src<p.size)(hd:d<=src)(k:Nat) :
  K O key (bubble p src d) k=if k=src-d then K O key p src else if src-d<k/\k<=src then K O key p (k-1) else K O key p k:=by
 have e:=getElem?_bubble hs d hd k
 by_cases h1:k=src-d
 ·rw[Wu h1]at e |-;exact K_congr e
 ·rw[Wt h1]at e |-
  by_cases h2:src-d<k/\k<=src
  ·rw[Wu h2]at e |-;exact K_congr e
  ·rw[Wt h2]at e |-;exact K_congr e
theorem AW{p:Array Nat}{i j:Nat}(hj:j<=p.size)(k:Nat):K O key (kas_rev p i j) k=if i<=k/\k<j then K O key p (i+j-1-k) else K O key p k:=by
 have e:=getElem?_mirror_all (i:=i) hj k
 by_cases h1:i<=k/\k<j
 ·rw[Wu h1]at e |-;exact K_congr e
 ·rw[Wt h1]at e |-;exact K_congr e
theorem n8{p:Array Nat}{i j:Nat}(hj:j<=p.size)(h:∀k,i<=k->k<j->K O key p k=K O key p (j-1))(k:Nat):K O key (kas_rev p i j) k=K O key p k:=by
 rw[AW hj]
 split
 ·rw[h _ (by omega) (by omega),h k (by omega) (by omega)]
 ·rfl
theorem tX{p:Array Nat}{m:Nat}(h:∀t,1<=t->t<m->O.kle (K O key p (t-1)) (K O key p t)):Up O key p m:=by
 intro i j hij hj
 induction j with
 |zero=>
  have:i=0:=by omega
  subst this;exact XF _
 |succ j ih=>
  by_cases e:i=j+1
  ·subst e;exact XF _
  ·exact YA (ih (by omega) (by omega)) (h (j+1) (by omega) hj)
theorem IG(hA:D7 O key N cmp s){p:Array Nat}(he:Ent N p):∀(f n:Nat) {Q:Nat->Shared->Prop},1<=n ->
  (∀m,n<=m->m<=n+f->(∀t,n<=t->t<m->O.kle (K O key p (t-1)) (K O key p t))->(m<n+f->O.klt (K O key p m) (K O key p (m-1)))->Q m s)->(kas_asc p f n).kasWp cmp Q s
 |0,n,Q,hn,h=>h n (Wy _) (Wy _) (λt h1 h2=>by omega) λq=>by omega
 | f+1,n,Q,hn,h=>by
  show cmp _ _ _ s;refine hA _ _ _ (he.at _) (he.at _) ?_;cases hb:O.blt (key (p.getD n 0)) (key (p.getD (n-1) 0)) with
  |true=>exact h n (Wy _) (by omega) (λt h1 h2=>by omega) λ_=>hb
  |false=>
   show (kas_asc p f (n+1)).kasWp cmp Q s;refine IG hA he f (n+1) (by omega) λm h1 h2 h3 h4=>h m (by omega) (by omega) (λt t1 t2=>?_) λq=>h4 (by omega)
   by_cases e:t=n
   ·subst e;exact hb
   ·exact h3 t (by omega) t2
theorem xH(hA:D7 O key N cmp s):∀(f:Nat) (p:Array Nat) (n q:Nat) {Q:Array Nat×Nat×Nat->Shared->Prop},Ent N p->1<=n->n+f<=N->q+1<=n->Down O key p n->(∀i,n-(q+1)<=i->i<n->K O key p i=K O key p (n-1)) ->
  (∀p' n' q',p'.Perm p->Ent N p'->1<=n'->n<=n'->n'<=n+f->q'+1<=n'->Down O key p' n'->(∀i,n'-(q'+1)<=i->i<n'->K O key p' i=K O key p' (n'-1))->Q (p',n',q') s)->(kas_desc f p n q).kasWp cmp Q s
 |0,p,n,q,Q,he,hn,hN,hq,hd,hl,h=>h p n q (Yi _) he hn (Wy _) (Wy _) hq hd hl
 | f+1,p,n,q,Q,he,hn,hN,hq,hd,hl,h=>by
  show cmp _ _ _ s;refine hA _ _ _ (he.at _) (he.at _) ?_;cases hb:O.blt (key (p.getD n 0)) (key (p.getD (n-1) 0)) with
  |true=>
   have hlt:O.klt (K O key p n) (K O key p (n-1)):=hb;have hd1:Down O key p (n+1):=λi j hij hj=>by
    by_cases e:j=n
    ·subst e
     by_cases e2:i=j
     ·subst e2;exact XF _
     ·exact YA (Yq hlt) (hd i (j-1) (by omega) (by omega))
    ·exact hd i j hij (by omega)
   show (if q>0 then kas_desc f (kas_rev p (n-(q+1)) n) (n+1) 0 else kas_desc f p (n+1) 0).kasWp cmp Q s
   by_cases RY:q>0
   ·rw[Wu RY]
    have ep:(kas_rev p (n-(q+1)) n).Perm p:=mirror_perm _ _ _ _;have eK:∀k,K O key (kas_rev p (n-(q+1)) n) k=K O key p k:=λk=>n8 (by rw[he.1];omega) hl k;refine xH hA f _ (n+1) 0 (he.perm ep) (by omega) (by omega) (by omega) (λi j hij hj=>by rw[eK,eK];exact hd1 i j hij hj) (λi h1 h2=>?_) λp' n' q' g1 g2 g3 g4 g5 g6 g7 g8=>h p' n' q' (g1.trans ep) g2 g3 (by omega) (by omega) g6 g7 g8;have:i=n:=by omega
    subst this;rfl
   ·rw[Wt RY]
    refine xH hA f p (n+1) 0 he (by omega) (by omega) (by omega) hd1 (λi h1 h2=>?_) λp' n' q' g1 g2 g3 g4 g5 g6 g7 g8=>h p' n' q' g1 g2 g3 (by omega) (by omega) g6 g7 g8;have:i=n:=by omega
    subst this;rfl
  |false=>
   show cmp _ _ _ s;refine hA _ _ _ (he.at _) (he.at _) ?_;cases hc:O.blt (key (p.getD (n-1) 0)) (key (p.getD n 0)) with
   |true=>exact h p n q (Yi _) he hn (Wy _) (by omega) hq hd hl
   |false=>
    have heq:K O key p n=K O key p (n-1):=O.total _ _ hb hc;show (kas_desc f p (n+1) (q+1)).kasWp cmp Q s;refine xH hA f p (n+1) (q+1) he (by omega) (by omega) (by omega) (λi j hij hj=>?_) (λi h1 h2=>?_) λp' n' q' g1 g2 g3 g4 g5 g6 g7 g8=>h p' n' q' g1 g2 g3 (by omega) (by omega) g6 g7 g8
    ·by_cases e:j=n
     ·subst e
      by_cases e2:i=j
      ·subst e2;exact XF _
      ·rw[heq];exact hd i (j-1) (by omega) (by omega)
     ·exact hd i j hij (by omega)
    ·show K O key p i=K O key p (n+1-1)
     rw[Nat.add_sub_cancel]
     by_cases e:i=n
     ·subst e;rfl
     ·rw[heq];exact hl i (by omega) (by omega)
theorem AX(hA:D7 O key N cmp s){p:Array Nat}{n nrem:Nat}(he:Ent N p)(h1:1<=n)(hn:n<=nrem)(hr:nrem<=N)(hd:Down O key p n)
  (h:∀m p',p'.Perm p->Ent N p'->1<=m->m<=nrem->Up O key p' m->Q (m,p') s):(kas_tail3 n nrem p).kasWp cmp Q s:=by
 unfold kas_tail3;rw[Yj];have ep:(kas_rev p 0 n).Perm p:=mirror_perm _ _ _ _;have hz:n<=p.size:=by rw[he.1];omega
 refine IG hA (he.perm ep) _ _ h1 λm a1 a2 a3 _=>h m _ ep (he.perm ep) (by omega) (by omega) (tX λt t1 t2=>?_)
 by_cases e:t<n
 ·rw[AW hz,AW hz,Wu (by omega),Wu (by omega)];exact hd _ _ (by omega) (by omega)
 ·exact a3 t (by omega) t2
theorem qt(hA:D7 O key N cmp s){p:Array Nat}{n nrem:Nat}(he:Ent N p)(hn:n+1<=nrem)(hr:nrem<=N)(hd:Down O key p (n+1))
  (h:∀m p',p'.Perm p->Ent N p'->1<=m->m<=nrem->Up O key p' m->Q (m,p') s):(kas_descPart n nrem p).kasWp cmp Q s:=by
 unfold kas_descPart;rw[Yj];have MQ:∀i,n+1-(0+1)<=i->i<n+1->K O key p i=K O key p (n+1-1):=λi h1 h2=>by
  have e:i=n:=by omega
  subst e;rfl
 refine xH hA (nrem-(n+1)) p (n+1) 0 he (by omega) (by omega) (by omega) hd MQ λp' n' q' g1 g2 g3 g4 g5 g6 g7 g8=>?_;show (if q'>0 then kas_tail3 n' nrem (kas_rev p' (n'-(q'+1)) n') else kas_tail3 n' nrem p').kasWp cmp Q s
 by_cases hq:q'>0
 ·rw[Wu hq];have ep:(kas_rev p' (n'-(q'+1)) n').Perm p':=mirror_perm _ _ _ _;have eK:∀k,K O key (kas_rev p' (n'-(q'+1)) n') k=K O key p' k:=λk=>n8 (by rw[g2.1];omega) g8 k;exact AX hA (g2.perm ep) g3 (by omega) hr (λi j hij hj=>by rw[eK,eK];exact g7 i j hij hj) λm p'' a1 a2 a3 a4 a5=>h m p'' ((a1.trans ep).trans g1) a2 a3 a4 a5
 ·rw[Wt hq];exact AX hA g2 g3 (by omega) hr g7 λm p'' a1 a2 a3 a4 a5=>h m p'' (a1.trans g1) a2 a3 a4 a5
theorem II(hA:D7 O key N cmp s){p:Array Nat}{nrem:Nat}(he:Ent N p)(h1:1<=nrem)(hr:nrem<=N)
  (h:∀m p',p'.Perm p->Ent N p'->1<=m->m<=nrem->Up O key p' m->Q (m,p') s):(kas_count nrem p).kasWp cmp Q s:=by
 unfold kas_count;rw[Yj];refine IG hA he _ _ (Wy _) λn a1 a2 a3 a4=>?_;have hup:Up O key p n:=tX λt t1 t2=>a3 t t1 t2
 by_cases e1:(n==nrem)=true
 ·rw[Wu e1];exact h n p (Yi _) he a1 (by omega) hup
 ·rw[Wt e1]
  have V9:n≠nrem:=λz=>e1 (by simp[z]);have hlt:O.klt (K O key p n) (K O key p (n-1)):=a4 (by omega)
  by_cases e2:n>1
  ·rw[Wu e2]
   show cmp _ _ _ s;refine hA _ _ _ (he.at _) (he.at _) ?_;cases hc:O.blt (key (p.getD 0 0)) (key (p.getD (n-1) 0)) with
   |true=>exact h n p (Yi _) he a1 (by omega) hup
   |false=>
    have hle:O.kle (K O key p (n-1)) (K O key p 0):=hc;have ep:(kas_rev p 0 n).Perm p:=mirror_perm _ _ _ _;have hall:∀k,0<=k->k<n->K O key p k=K O key p (n-1):=λk _ hk=>
     KeyOrd.kle_antisymm (hup k (n-1) (by omega) (by omega)) (YA hle (hup 0 k (by omega) hk))
    have eK:∀k,K O key (kas_rev p 0 n) k=K O key p k:=λk=>n8 (by rw[he.1];omega) hall k;show (kas_descPart n nrem (kas_rev p 0 n)).kasWp cmp Q s;refine qt hA (he.perm ep) (by omega) hr (λi j hij hj=>?_) λm p' b1 b2 b3 b4 b5=>h m p' (b1.trans ep) b2 b3 b4 b5;rw[eK,eK]
    by_cases ej:j=n
    ·subst ej
     by_cases ei:i=j
     ·subst ei;exact XF _
     ·rw[hall i (by omega) (by omega)];exact Yq hlt
    ·rw[hall i (by omega) (by omega),hall j (by omega) (by omega)];exact XF _
  ·rw[Wt e2]
   have en:n=1:=by omega
   subst en;refine qt hA he (by omega) hr (λi j hij hj=>?_) λm p' b1 b2 b3 b4 b5=>h m p' b1 b2 b3 b4 b5
   by_cases ei:i=j
   ·subst ei;exact XF _
   ·have:i=0/\j=1:=by omega
    obtain⟨rfl,rfl⟩:=this;exact Yq hlt
theorem vQ(hA:D7 O key N cmp s){p:Array Nat}{k:Nat}(he:Ent N p)(hs:Up O key p k):∀(f l r:Nat) {Q:Nat->Shared->Prop},l<=r->r<=k->r-l<=f ->
  (∀i,i<l->O.kle (K O key p i) (K O key p k))->(∀i,r<=i->i<k->O.klt (K O key p k) (K O key p i)) ->
  (∀l',l'<=k->(∀i,i<l'->O.kle (K O key p i) (K O key p k))->(∀i,l'<=i->i<k->O.klt (K O key p k) (K O key p i))->Q l' s)->(kas_place p k f l r).kasWp cmp Q s
 | 0,l,r,Q,hlr,hrk,hf,hlo,hhi,h=>by
  have:l=r:=by omega
  subst this;exact h l hrk hlo hhi
 | f+1,l,r,Q,hlr,hrk,hf,hlo,hhi,h=>by
  show (if l≥r then KasT.ret l else _).kasWp cmp Q s
  by_cases hge:l≥r
  ·rw[Wu hge]
   have:l=r:=by omega
   subst this;exact h l hrk hlo hhi
  ·rw[Wt hge]
   show cmp _ _ _ s;refine hA _ _ _ (he.at _) (he.at _) ?_;cases hb:O.blt (key (p.getD k 0)) (key (p.getD ((l+r)/2) 0)) with
   |true=>show (kas_place p k f l ((l+r)/2)).kasWp cmp Q s;exact vQ hA he hs f l ((l+r)/2) (by omega) (by omega) (by omega) hlo (λi h1 h2=>KeyOrd.klt_of_klt_of_kle hb (hs _ _ h1 h2)) h
   |false=>show (kas_place p k f ((l+r)/2+1) r).kasWp cmp Q s;exact vQ hA he hs f ((l+r)/2+1) r (by omega) (by omega) (by omega) (λi h1=>YA (hs i ((l+r)/2) (by omega) (by omega)) hb) hhi h
theorem MR(hA:D7 O key N cmp s):∀(f:Nat) (p:Array Nat) (k:Nat) {Q:Array Nat->Shared->Prop},Ent N p->k+f<=N->Up O key p k->(∀p',p'.Perm p->Up O key p' (k+f)->Q p' s)->(kas_bin f p k).kasWp cmp Q s
 |0,p,k,Q,he,hk,hs,h=>h p (Yi _) hs
 | f+1,p,k,Q,he,hk,hs,h=>by
  show ((kas_place p k k 0 k).bind λl=>kas_bin f (bubble p k (k-l)) (k+1)).kasWp cmp Q s;rw[Yj];refine vQ hA he hs k 0 k (by omega) (by omega) (by omega) (λi hi=>by omega) (λi h1 h2=>by omega) λl hl hlo hhi=>?_;have ep:(bubble p k (k-l)).Perm p:=bubble_perm _ _ _;have hks:k<p.size:=by rw[he.1];omega
  refine MR hA f _ (k+1) (he.perm ep) (by omega) (λi j hij hj=>?_) λp' a1 a2=>h p' (a1.trans ep) (by rwa [show k+(f+1)=k+1+f by omega]);rw[K_bubble hks (by omega),K_bubble hks (by omega),show k-(k-l)=l by omega]
  repeat' split
  all_goals first
   |(exfalso;omega)
   |exact XF _
   |exact hlo _ (by omega)
   |exact Yq (hhi _ (by omega) (by omega))
   |exact hs _ _ (by omega) (by omega)
theorem MS(hA:D7 O key N cmp s)(h1:1<=N)(h:∀p,p.Perm (toArray (List.range N))->Up O key p N->Q p s):(kas_sort N).kasWp cmp Q s:=by
 unfold kas_sort;rw[Yj];have he:Ent N (toArray (List.range N)):=⟨by simp,h1,λx hx=>by simpa using hx⟩;refine II hA he h1 (Wy _) λm p a1 a2 a3 a4 a5=>?_;show (if m<N then kas_bin (N-max m 1) p (max m 1) else KasT.ret p).kasWp cmp Q s;have em:max m 1=m:=by omega
 by_cases hlt:m<N
 ·rw[Wu hlt,em];exact MR hA _ p m a2 (by omega) a5 λp' b1 b2=>h p' (b1.trans a1) (by rwa [show m+(N-m)=N by omega]at b2)
 ·rw[Wt hlt]
  have:m=N:=by omega
  subst this;exact h p a1 a5
end
end rQ
namespace rQ
theorem gf{α:Type}(l:List α)(d:α):(List.range l.length).map (λi=>l.getD i d)=l:=by
 refine YB (by simp) λi h1 h2=>?_;simp[h2]
section
variable {prog:Program} {w:World} {A:Around} {E:Value->Shared->Prop} {s:Shared}
def qu(prog:Program)(w:World)(A:Around)(O:KeyOrd)(key:Nat->O.α)(vs:List Value)(s6:Shared):Prop :=
 wpAny (model prog w) A (keyKind' vs.toArray) (λκ s'=>s'=s6/\D7 O key vs.length (kas_ask prog w A κ vs) s6) (λ_ _=>False) s6
structure AY (O:KeyOrd) (key:Nat->O.α) (n:Nat) (p:List Nat):Prop where
 perm:p.Perm (List.range n)
 up:(p.map key).Pairwise O.kle
theorem D8{n:Nat}{p:Array Nat}(h1:p.Perm (toArray (List.range n)))(h2:Up O key p n):AY O key n p.toList:=by
 have hp:p.toList.Perm (List.range n):=by simpa using Array.perm_iff_toList_perm.mp h1
 refine⟨hp,Xs.mpr λi j hi hj hij=>?_⟩;have hz:p.toList.length=n:=by rw[hp.length_eq,YN]
 rw[Wr]at hi hj;have q:=h2 i j (XS hij) (by omega);have ei:p.getD i 0=p.toList[i]:=by simp at hi;simp[Array.getD,hi]
 have ej:p.getD j 0=p.toList[j]:=by simp at hj;simp[Array.getD,hj]
 unfold K at q;rw[ei,ej]at q;rw[Xb,Xb];exact q
theorem AZ{n:Nat}(ho:s.heap.get? a=some (seqObj "list" vs.toArray n))(h64:vs.length<64)
  (hk:2<=vs.length->∀h6:Heap,(∀b o,b≠a->s.heap.get? b=some o->h6.get? b=some o)->qu prog w A O key vs { s with heap:=h6 })
  (h:∀p,AY O key vs.length p->P (.done (.ret .none)) { s with heap:=sortedHeap s.heap a vs (p.map λi=>vs.getD i Value.none).toArray }) :
  wpAny (model prog w) A (Builtin.«list.sort» ⟨[.ref a],[]⟩) P E s:=by
 have alt:a<s.heap.objs.size:=WB ho;have big:vs.length<=sizeLine:=by rw[Xy];omega
 rw[list_sort_plain];apply Wl;apply listItems_at ho rfl;apply Wl;refine listUpdate_at ho rfl ?_ (by rw[WA];exact big) (Xz _);have q1:=get?_update_seq ho (λ_=>(#[]:Array Value));apply Wl;apply seqEpoch_at q1 rfl;apply Wl;refine wpAny_newTuple ?_ (by show vs.length<=sizeLine;exact big);apply Wl;refine wpAny_newList ?_ (Xz _);apply Xx;generalize hN:((s.heap.update a (Obj.mapSeq λ_=>(#[]:Array Value))).push (seqObj "tuple" vs.toArray 0)).push (seqObj "list" #[] 0)=h6;have MT:∀b o,b≠a->s.heap.get? b=some o->h6.get? b=some o:=λb o hb e=>by
  rw[<-hN];refine Wq _ (Wq _ ?_);rw[Heap.get?_update_ne _ _ _ _ hb];exact e
 have q6:h6.get? a=some (seqObj "list" #[] (if (#[]:Array Value).size==vs.toArray.size then n else n+1)):=by rw[<-hN];exact Wq _ (Wq _ q1)
 have eS:∀out,h6.update a (Obj.mapSeq λ_=>out)=sortedHeap s.heap a vs out:=λout=>by rw[<-hN];rfl
 show wpAny (model prog w) A _ P E { s with heap:=h6 };dsimp only
 by_cases h2:vs.toArray.size<2
 ·rw[Wu h2,Wu h2]
  apply Wl;apply Wv;rw[StateT.run_pure];apply Wl;apply Wv;dsimp only;have eo:(arrOf (SortSt.mk' general' (vs.toArray.zip vs.toArray) #[] 7 none)).map (·.2)=vs.toArray:=by show (vs.toArray.zip vs.toArray).map (·.2)=vs.toArray;apply Array.toList_inj.mp;simp[List.map_snd_zip]
  rw[eo];apply Wl;apply seqEpoch_at q6 rfl;apply Wl;refine listUpdate_at q6 rfl ?_ (Xz _) (by show vs.toArray.size<=_;rw[WA];omega);have hb:((if (#[]:Array Value).size==vs.toArray.size then n else n+1) != (if (#[]:Array Value).size==vs.toArray.size then n else n+1))=false:=by simp
  rw[eS];simp only[hb,false_eq_true,if_false];apply Wv;have g:=h (List.range vs.length) ⟨Yr _,?_⟩
  ·rw[gf]at g;exact g
  ·rw[WA]at h2;refine Xs.mpr λi j hi hj hij=>?_;simp at hi hj;omega
 ·rw[Wt h2,Wt h2]
  rw[WA]at h2;have ask:=hk (by omega) h6 MT;apply Wl;refine Xu ask (λκ s0 hκ=>?_) λ_ _ x=>x.elim;obtain⟨rfl,Ua⟩:=hκ;apply Wl;refine Xu (kat_run (Q:=λst' s'=>s'={ s with heap:=h6 }/\∃p:Array Nat,AY O key vs.length p.toList/\p.size=vs.length/\(arrOf st').map (·.2)=(p.toList.map λi=>vs.getD i Value.none).toArray/\failedOf st'=none)
   (G:=λp s'=>s'={ s with heap:=h6 }/\AY O key vs.length p.toList) rfl (by omega) h64 (λp st' s' a1 a2 a3 a4=>⟨a4.1,p,a4.2,a1,kat_snds rfl a2,a3⟩)
   (MS Ua (by omega) λp b1 b2=>⟨rfl,D8 b1 b2⟩)) ?_ λ_ _ x=>x
  rintro⟨⟨⟩,st'⟩ s' ⟨rfl,p,op,pz,er,ef⟩;dsimp only;rw[er];apply Wl;apply seqEpoch_at q6 rfl;apply Wl;refine listUpdate_at q6 rfl ?_ (Xz _) (by show (toArray _).size<=_;rw[WA,Wr,WY,pz];omega);have hb:((if (#[]:Array Value).size==vs.toArray.size then n else n+1) != (if (#[]:Array Value).size==vs.toArray.size then n else n+1))=false:=by simp
  rw[eS,ef];simp only[hb,false_eq_true,if_false];exact Wv (h p.toList op)
theorem je
  (h:wpAny (model prog w) A.in1 (collect x) (λvs s1=>vs.length<64/\∃key:Nat->O.α,(2<=vs.length->∀h6:Heap,(∀b o,s1.heap.get? b=some o->h6.get? b=some o)->qu prog w A.in1.in1 O key vs { s1 with heap:=h6 }) /\
   ∀p h',AY O key vs.length p->(∀b o,s1.heap.get? b=some o->h'.get? b=some o)->(∃e,h'.get? s1.heap.objs.size=some (seqObj "list" (p.map λi=>vs.getD i Value.none).toArray e))->Q (.ref s1.heap.objs.size) { s1 with heap:=h' }) E s) :
  wpAny (model prog w) A (call (.builtin "sorted") [x]) Q E s:=by
 refine Calls.call_function_entry kind_sorted plain_sorted entry_sorted (args_sorted1 _) ?_;unfold Builtin.«sorted»;refine Wl (m:=checkCount "sorted" 1 1 _) (Wv ?_);apply Wl;refine Xu h (λvs s1 ⟨h64,key,hk,hq⟩=>?_) λ_ _ z=>z;have big:vs.length<=sizeLine:=by rw[Xy];omega
 apply Wl;refine wpAny_newList ?_ big;have q:(s1.heap.push (seqObj "list" vs.toArray 0)).get? s1.heap.objs.size=some (seqObj "list" vs.toArray 0):=WG _ rfl;apply Wl;apply Xx;refine XQ (s:={ s1 with heap:=s1.heap.push (seqObj "list" vs.toArray 0) }) slot_list_sort ⟨_,q,rfl⟩ entry_list_sort ?_ (args_list_sort _);refine AZ (key:=key) (s:={ s1 with heap:=s1.heap.push (seqObj "list" vs.toArray 0) }) q h64 (λh2 h6 k6=>?_) λp op=>⟨_,rfl,Wv ⟨_,rfl,?_⟩⟩
 ·exact hk h2 h6 λb o e=>k6 b o (WJ (WB e)) (Wq _ e)
 ·refine hq p _ op (λb o e=>?_) (sortedHeap_at q);rw[sortedHeap_old (WJ (WB e)) (by rw[size_push'];exact XC (WB e))];exact Wq _ e
end
def vR:KeyOrd where
 α:=Int
 blt:=λa b=>decide (a<b)
 irrefl:=λa=>by simp
 trans:=λa b c h1 h2=>by simp at *;omega
 negTrans:=λa b c h=>by simp at *;omega
 total:=λa b h1 h2=>by simp at *;omega
theorem vS{s6:Shared}{ns:List Int}(hI:IntsAre vs ns)(h2:2<=vs.length):qu prog w A vR (λi=>ns.getD i 0) vs s6:=by
 have at_:∀i,i<vs.length->∃t,vs.getD i Value.none=.int (ns.getD i 0) t:=by
  intro i hi
  induction hI generalizing i with
  |nil=>simp at hi
  |cons z t r ih=>
   cases i with
   |zero=>exact⟨t,by simp⟩
   |succ i=>
    by_cases hr:2<=1
    ·omega
    ·simp only[length_cons]at hi
     have aux:∀{vs:List Value} {ns:List Int},IntsAre vs ns->∀i,i<vs.length->∃t,vs.getD i Value.none=.int (ns.getD i 0) t:=by
      intro vs ns q
      induction q with
      |nil=>intro i hi;simp at hi
      |cons z t r ih=>
       intro i hi;cases i with
       |zero=>exact⟨t,by simp⟩
       |succ i=>simp only[length_cons]at hi;obtain⟨u,e⟩:=ih i (by omega);exact⟨u,by simpa using e⟩
     obtain⟨u,e⟩:=aux r i (by omega);exact⟨u,by simpa using e⟩
 obtain⟨v₁,v₂,rest,rfl⟩:∃v₁ v₂ rest,vs=v₁::v₂::rest:=by
  match vs,h2 with
  |v₁::v₂::rest,_=>exact⟨v₁,v₂,rest,rfl⟩
 unfold qu;rw[keyKind_ints hI];refine Wv ⟨rfl,λi j C hi hj hc=>?_⟩;obtain⟨t,e1⟩:=at_ i hi;obtain⟨u,e2⟩:=at_ j hj;unfold kas_ask;rw[e1,e2,keyLt'_oneType];exact oneLt_int hc
theorem iL:∀a,HT.lexLt a a=false
 |[]=>rfl
 |x::xs=>by rw[HT.f9,Wu rfl];exact iL xs
theorem gC:∀a b,HT.lexLt a b=false->HT.lexLt b a=false->a=b
 |[],[],_,_=>rfl
 |[],_::_,h,_=>by rw[HT.gb]at h;cases h
 |_::_,[],_,h=>by rw[HT.gb]at h;cases h
 | x::xs,y::ys,h1,h2=>by
  rw[HT.f9]at h1 h2
  by_cases e:x=y
  ·subst e;rw[Wu rfl]at h1 h2;rw[gC xs ys h1 h2]
  ·rw[Wt e]at h1;rw[Wt (λz=>e z.symm)]at h2;simp at h1 h2;omega
theorem gD:∀a b c,HT.lexLt a b=true->HT.lexLt b c=true->HT.lexLt a c=true
 |[],[],c,h,_=>by rw[HT.pR]at h;cases h
 |[],_::_,[],_,h=>by rw[HT.dI]at h;cases h
 |[],_::_,_::_,_,_=>rfl
 |_::_,[],_,h,_=>by rw[HT.dI]at h;cases h
 |_::_,_::_,[],_,h=>by rw[HT.dI]at h;cases h
 | x::xs,y::ys,z::zs,h1,h2=>by
  rw[HT.f9]at h1 h2 |-
  by_cases e1:x=y
  ·subst e1
   rw[Wu rfl]at h1
   by_cases e2:x=z
   ·subst e2;rw[Wu rfl]at h2 |-;exact gD xs ys zs h1 h2
   ·rw[Wt e2]at h2 |-;exact h2
  ·rw[Wt e1]at h1
   by_cases e2:y=z
   ·subst e2;rw[Wt e1];exact h1
   ·rw[Wt e2]at h2;simp at h1 h2;rw[Wt (by omega)];simp;omega
theorem qv(a b c:List Int)(h:HT.lexLt a c=true):HT.lexLt a b=true\/HT.lexLt b c=true:=by
 cases h1:HT.lexLt a b with
 |true=>exact .inl rfl
 |false=>
  cases h2:HT.lexLt b c with
  |true=>exact .inr rfl
  |false=>
   cases h3:HT.lexLt b a with
   |true=>have:=gD _ _ _ h3 h;rw[h2]at this;cases this
   |false=>rw[gC _ _ h1 h3]at h;rw[h2]at h;cases h
def lexOrd:KeyOrd where
 α:=List Int
 blt:=HT.lexLt
 irrefl:=iL
 trans:=gD
 negTrans:=qv
 total:=gC
section
variable {prog:Program} {w:World} {A:Around} {s:Shared}
theorem mO{b fin:Bool}:∀{us vs:List Value} {ns ms:List Int} (i:Nat),IntsAre us ns->IntsAre vs ms->(ns.length<ms.length↔fin=true)->us.length=ns.length ->
  Q (HT.lexLt ns ms) s->(ns.length=ms.length\/i=i)->(∀k,k<ns.length->k<ms.length->True)->(ns.length≠ms.length->True)->(fin=decide (ns.length<ms.length))->KatLex prog w A b fin Q (us.zip vs) i s
 | _,_,_,_,i,.nil,.nil,_,_,hq,_,_,_,hf=>by
  refine kat_nil ?_;rw[hf];exact hq
 | _,_,_,_,i,.nil,.cons _ _ _,_,_,hq,_,_,_,hf=>by
  refine kat_nil ?_;rw[hf];simpa [HT.gb] using hq
 | _,_,_,_,i,.cons _ _ _,.nil,_,_,hq,_,_,_,hf=>by
  refine kat_nil ?_;rw[hf];simpa [HT.dI] using hq
 | _,_,_,_,i,.cons x t r,.cons y u r',h1,h2,hq,_,_,_,hf=>by
  refine kat_cons (wpAny_eqBool_int ?_);rw[HT.f9]at hq
  by_cases e:x=y
  ·subst e
   rw[Wu rfl]at hq;rw[Xv];refine kat_yes (mO (i+1) r r' ?_ ?_ hq (.inr rfl) (λ_ _ _=>trivial) (λ_=>trivial) ?_)
   ·simpa using h1
   ·simpa using h2
   ·rw[hf];simp
  ·rw[Wt e]at hq
   rw[show (x==y)=false from Xj.mpr e];refine kat_no ?_;cases hb:(b&&i==0) with
   |true=>exact oneLt_int hq
   |false=>exact kat_one _ _ (PyProof.Rows.lt_int hq)
end
end rQ
end L2
end
section
namespace L2
open PySem PySem.Spec PyProof.Rows
def QL:Key->PyData
 |.inl i=>.int i
 |.inr x=>.str x
mutual
noncomputable def Den(K:Frag)(H:Hp):PyData->V->Prop
 |.none,v=>v=.non
 |.bool b,v=>v=.bl b
 |.int i,v=>v=.int i
 |.str x,v=>v=.str x
 |.list ds,v=>∃a xs,v=.ref a/\gR K H a xs/\dG K H ds xs
 |.tuple ds,v=>∃a xs,v=.ref a/\iV K H a xs/\dG K H ds xs
 |.dict kvs,v=>∃a ks,v=.ref a/\H a=some (.dK ks)/\kW K H kvs ks
noncomputable def dG(K:Frag)(H:Hp):List PyData->List V->Prop
 |[],xs=>xs=[]
 |d::ds,xs=>∃x r,xs=x::r/\Den K H d x/\dG K H ds r
noncomputable def kW(K:Frag)(H:Hp):List (PyData×PyData)->List (Key×V)->Prop
 |[],ks=>ks=[]
 |(k,d)::r,ks=>∃key x rest,ks=(key,x)::rest/\k=QL key/\Den K H d x/\kW K H r rest
end
theorem vO.tup{K:Frag}{H H':Hp}{a:Addr}{xs:List V}(e:vO H H')(h:iV K H a xs):iV K H' a xs:=by
 rcases h with (h|⟨o,h⟩)|h
 ·exact .inl (.inl (e _ _ h))
 ·exact .inl (.inr ⟨o,e _ _ h⟩)
 ·exact .inr h
section
variable {K:Frag} {H H':Hp}
mutual
theorem Den.same(e:vO H H'):∀(d:PyData) (v:V),Den K H d v->Den K H' d v
 |.none,_,h=>by rw[Den]at h |-;exact h
 |.bool _,_,h=>by rw[Den]at h |-;exact h
 |.int _,_,h=>by rw[Den]at h |-;exact h
 |.str _,_,h=>by rw[Den]at h |-;exact h
 | .list ds,v,h=>by
  rw[Den]at h |-;obtain⟨a,xs,q1,q2,q3⟩:=h;exact⟨a,xs,q1,e.seq q2,dG.same e ds xs q3⟩
 | .tuple ds,v,h=>by
  rw[Den]at h |-;obtain⟨a,xs,q1,q2,q3⟩:=h;exact⟨a,xs,q1,e.tup q2,dG.same e ds xs q3⟩
 | .dict kvs,v,h=>by
  rw[Den]at h |-;obtain⟨a,ks,q1,q2,q3⟩:=h;exact⟨a,ks,q1,e _ _ q2,kW.same e kvs ks q3⟩
theorem dG.same(e:vO H H'):∀(ds:List PyData) (xs:List V),dG K H ds xs->dG K H' ds xs
 |[],_,h=>by rw[dG]at h |-;exact h
 | d::ds,xs,h=>by
  rw[dG]at h |-;obtain⟨x,r,q1,q2,q3⟩:=h;exact⟨x,r,q1,Den.same e d x q2,dG.same e ds r q3⟩
theorem kW.same(e:vO H H'):∀(kvs:List (PyData×PyData)) (ks:List (Key×V)),kW K H kvs ks->kW K H' kvs ks
 |[],_,h=>by rw[kW]at h |-;exact h
 | (k,d)::r,ks,h=>by
  rw[kW]at h |-;obtain⟨key,x,rest,q1,q2,q3,q4⟩:=h;exact⟨key,x,rest,q1,q2,Den.same e d x q3,kW.same e r rest q4⟩
end
theorem dG.nil:dG K H [] []:=by rw[dG]
theorem dG.cons{d:PyData}{ds:List PyData}{x:V}{r:List V}(h1:Den K H d x)(h2:dG K H ds r):dG K H (d::ds) (x::r):=by rw[dG];exact⟨x,r,rfl,h1,h2⟩
theorem Den.int{i:Int}:Den K H (.int i) (.int i):=by rw[Den]
theorem Den.str:Den K H (.str x) (.str x):=by rw[Den]
theorem Den.bool{b:Bool}:Den K H (.bool b) (.bl b):=by rw[Den]
theorem Den.none:Den K H .none .non:=by rw[Den]
theorem Den.list(h:gR K H a xs)(q:dG K H ds xs):Den K H (.list ds) (.ref a):=by rw[Den];exact⟨a,xs,rfl,h,q⟩
theorem Den.tuple(h:iV K H a xs)(q:dG K H ds xs):Den K H (.tuple ds) (.ref a):=by rw[Den];exact⟨a,xs,rfl,h,q⟩
end
section
variable {X:Cx} {pins:List (Addr×Obj)} {σ:St} {H:Hp} {s:Shared}
mutual
theorem Den.reads(I:Inv X pins σ H s):∀(d:PyData) (v:V) (u:Value),d.canLay0=true->Den X.K H d v->RelV v u->∃as,Reads s.heap u d as
 |.none,v,u,_,h,r=>by rw[Den]at h;subst h;cases r;exact⟨_,.none⟩
 |.bool b,v,u,_,h,r=>by rw[Den]at h;subst h;cases r;exact⟨_,.bool b⟩
 |.int i,v,u,_,h,r=>by rw[Den]at h;subst h;obtain⟨t,rfl⟩:=r;exact⟨_,.int i t⟩
 |.str x,v,u,_,h,r=>by rw[Den]at h;subst h;obtain⟨t,rfl⟩:=r;exact⟨_,.str x t⟩
 | .list ds,v,u,c,h,r=>by
  rw[Den]at h;obtain⟨a,xs,rfl,q1,q2⟩:=h;cases r;obtain⟨its,rv,⟨o,n,e1,e2,_,e3⟩,_⟩:=I.list q1;obtain⟨as,ra⟩:=dG.reads I ds xs its (by simpa [PyData.canLay0] using c) q2 rv;exact⟨_,.list e1 e2 e3 (by simpa using ra)⟩
 | .tuple ds,v,u,c,h,r=>by
  rw[Den]at h;obtain⟨a,xs,rfl,q1,q2⟩:=h;cases r;obtain⟨its,rv,⟨o,e1,e2,n,e3⟩,_⟩:=I.tuple q1;obtain⟨as,ra⟩:=dG.reads I ds xs its (by simpa [PyData.canLay0] using c) q2 rv;exact⟨_,.tuple e1 e2 e3 (by simpa using ra)⟩
 |.dict _,_,_,c,_,_=>by simp[PyData.canLay0]at c
theorem dG.reads(I:Inv X pins σ H s):∀(ds:List PyData) (xs:List V) (us:List Value),PyData.canLayAll0 ds=true->dG X.K H ds xs->Vals xs us->∃as,ReadsAll s.heap us ds as
 |[],xs,us,_,h,r=>by rw[dG]at h;subst h;cases r;exact⟨_,.nil⟩
 | d::ds,xs,us,c,h,r=>by
  have c':d.canLay0=true/\PyData.canLayAll0 ds=true:=by simpa [PyData.canLayAll0] using c
  rw[dG]at h;obtain⟨x,rest,rfl,q1,q2⟩:=h;cases r with
  |cons r1 r2=>obtain⟨as,ra⟩:=Den.reads I d x _ c'.1 q1 r1;obtain⟨bs,rb⟩:=dG.reads I ds rest _ c'.2 q2 r2;exact⟨_,.cons ra rb⟩
end
end
section
variable {X:Cx}
def QM(K:Frag):R2:=λx y H Q=>∃d e,Den K H d x/\Den K H e y/\d.canLay0=true/\e.canLay0=true/\d.depth<=60/\Q (.bl (PyData.eqv d e)) H
def QN(K:Frag):R2:=λx y H Q=>∃d e,Den K H d x/\Den K H e y/\d.canLay0=true/\e.canLay0=true/\d.depth<=60/\Q (.bl (!PyData.eqv d e)) H
theorem IJ(hu:X.A.units+64<cLine):lT X (compareOp .Eq) (QM X.K):=by
 intro pins s σ H x y v u Q I rx ry h;obtain⟨d,e,hd,he,c1,c2,hz,q⟩:=h;obtain⟨as,ra⟩:=Den.reads I d x v c1 hd rx;obtain⟨bs,rb⟩:=Den.reads I e y u c2 he ry;exact SeqAt.compareEq_reads ra rb c1 c2 (by have:=Nat.min_le_left d.depth e.depth;omega) ⟨.bl _,H,I,rfl,q⟩
theorem IK(hu:X.A.units+64<cLine):lT X (compareOp .NotEq) (QN X.K):=by
 intro pins s σ H x y v u Q I rx ry h;obtain⟨d,e,hd,he,c1,c2,hz,q⟩:=h;obtain⟨as,ra⟩:=Den.reads I d x v c1 hd rx;obtain⟨bs,rb⟩:=Den.reads I e y u c2 he ry;exact SeqAt.compareNe_reads ra rb c1 c2 (by have:=Nat.min_le_left d.depth e.depth;omega) ⟨.bl _,H,I,rfl,q⟩
theorem n9{ns:List Int}(I:Inv X pins σ H s)(hq:gR X.K H p (ns.map V.int))(h64:ns.length<64)
  (q:∀l,H l=none->Q (.ref l) (upd H l (.lst ((sortI ns).map V.int)))):wpAny (model X.prog X.w) X.A (call (.builtin "sorted") [.ref p]) (EP X pins σ Q) X.xe s:=by
 obtain⟨its,rv,pl,hz⟩:=I.list hq;have hi:=intsAre_of rv;have hl:=hi.length;refine sorted_ints pl.isList hi (by omega) λout ns' a1 a2 a3=>?_;obtain⟨e,he⟩:=sortedAll_at s.heap its out;have es:ns'=sortI ns:=eq_sortI a2 a3;subst es;have hn:H (s.heap.objs.size+1)=none:=I.hok.fresh (Xo _);refine⟨.ref (s.heap.objs.size+1),_,I.laid (t':=s.toks) (λb o z=>sortedAll_old z) (Xo _) (show cg X.prog X.w _ _ _ (.lst ((sortI ns).map V.int)) from⟨?_,out.toList,e,jI a1,by simpa using he⟩),rfl,q _ hn⟩;rw[Wr,(XX ns).length_eq,Xy];omega
theorem lY:cI X (.builtin "sorted") (λxs H Q=>∃p ns,xs=[.ref p]/\gR X.K H p (ns.map V.int)/\ns.length<64/\∀l,H l=none->Q (.ref l) (upd H l (.lst ((sortI ns).map V.int)))):=by
 intro pins s σ H xs us Q I r h;obtain⟨p,ns,rfl,hq,h64,q⟩:=h;obtain⟨u,rfl,ru⟩:=vals1 r;cases ru;exact n9 I hq h64 q
def MU(K:Frag)(H:Hp)(r:Addr×List Int):Prop:=iV K H r.1 (r.2.map V.int)/\r.2≠[]
theorem vU{pins:List (Addr×Obj)}{σ:St}{H:Hp}{s:Shared}{A:Around}{rs:List (Addr×List Int)}{h6:Heap}{s6:Shared}(I:Inv X pins σ H s)(ht:∀r∈rs,MU X.K H r)(h2:2<=rs.length)(k:∀b o,s.heap.get? b=some o->s6.heap.get? b=some o) :
  rQ.qu X.prog X.w A rQ.lexOrd (λi=>(rs.getD i (0,[])).2) (rs.map λr=>Value.ref r.1) s6:=by
 have tup:∀r∈rs,∃its o n,s6.heap.get? r.1=some o/\o.cls=.type "tuple" /\ o.data=.seq (toArray its) n/\IntsAre its r.2:=λr hr=>by
  obtain⟨its,rv,⟨o,e1,e2,n,e3⟩,_⟩:=I.tuple (ht r hr).1;exact⟨its,o,n,k _ _ e1,e2,e3,intsAre_of rv⟩
 have kt:∀rs:List (Addr×List Int),(∀r∈rs,∃its o n,s6.heap.get? r.1=some o/\o.cls=.type "tuple" /\ o.data=.seq (toArray its) n/\IntsAre its r.2)->(∀r∈rs,r.2≠[]) ->
   ∃fs,PySem.W.KatTups s6.heap (rs.map λr=>Value.ref r.1) fs/\fs.length=rs.length/\∀v∈fs,∃i t,v=Value.int i t:=by
  intro rs
  induction rs with
  |nil=>intro _ _;exact⟨[],PySem.W.KatTups.nil,rfl,λv hv=>nomatch hv⟩
  |cons r rs ih=>
   intro g1 g2;obtain⟨fs,q1,q2,q3⟩:=ih (λr' hr'=>g1 r' (Ww _ hr')) λr' hr'=>g2 r' (Ww _ hr');obtain⟨its,o,n,e1,e2,e3,hi⟩:=g1 r Wx;have hne:=g2 r Wx;cases hr:r.2 with
   |nil=>exact absurd hr hne
   |cons i is=>
    rw[hr]at hi;cases hi with
    |cons _ t hi'=>
     refine⟨.int i t::fs,PySem.W.KatTups.cons e1 e2 e3 (by simp) q1,by simp[q2],λv hv=>?_⟩
     rcases WH.mp hv with z|z
     ·exact⟨i,t,z⟩
     ·exact q3 v z
 obtain⟨fs,q1,q2,q3⟩:=kt rs tup λr hr=>(ht r hr).2;unfold rQ.qu;refine PySem.W.kat_kind q1 (by omega) (T:=Value.type "int") (λv hv=>?_) rfl ⟨rfl,λi j C hi hj hc=>?_⟩
 ·obtain⟨i,t,rfl⟩:=q3 v hv;exact PySem.W.Looks.of_pure rfl
 ·rw[Wr]at hi hj
  unfold PySem.W.kas_ask;have e1:(rs.map λr=>Value.ref r.1).getD i Value.none=Value.ref rs[i].1:=by simp[hi]
  have e2:(rs.map λr=>Value.ref r.1).getD j Value.none=Value.ref rs[j].1:=by simp[hj]
  have e3:rs.getD i (0,[])=rs[i]:=by simp[hi]
  have e4:rs.getD j (0,[])=rs[j]:=by simp[hj]
  rw[e1,e2];simp only[e3,e4]at hc;obtain⟨its,o,n,a1,a2,a3,a4⟩:=tup rs[i] (Xw hi);obtain⟨its',o',n',b1,b2,b3,b4⟩:=tup rs[j] (Xw hj);have l1:=a4.length;have l2:=b4.length;refine kat_lt a1 a3 b1 b3 (rQ.mO 0 a4 b4 ?_ l1 hc (.inr rfl) (λ_ _ _=>trivial) (λ_=>trivial) ?_)
  ·rw[WA,WA,l1,l2];simp
  ·rw[WA,WA,l1,l2]
theorem zj{rs:List (Addr×List Int)}:∀{us:List Value},Vals (rs.map λr=>V.ref r.1) us->us=rs.map λr=>Value.ref r.1:=by
 induction rs with
 |nil=>intro us r;cases r;rfl
 |cons a rs ih=>
  intro us r;cases r with
  |cons r1 r2=>cases r1;rw[ih r2];rfl
theorem lZ:cI X (.builtin "sorted") (λxs H Q=>∃(p:Addr) (rs:List (Addr×List Int)),xs=[.ref p]/\gR X.K H p (rs.map λr=>V.ref r.1)/\rs.length<64/\(∀r∈rs,MU X.K H r) /\
  ∀(l:Addr) (qs:List (Addr×List Int)),H l=none->qs.Perm rs->qs.Pairwise (λa b=>HT.lexLt b.2 a.2=false)->Q (.ref l) (upd H l (.lst (qs.map λr=>V.ref r.1)))):=by
 intro pins s σ H xs us Q I r h;obtain⟨p,rs,rfl,hq,h64,ht,q⟩:=h;obtain⟨u,rfl,ru⟩:=vals1 r;cases ru;obtain⟨its,rv,pl,hz⟩:=I.list hq;have ev:=zj rv;subst ev;refine rQ.je (O:=rQ.lexOrd) (collect_list pl.isList ?_ (by rw[Wr,Xy];omega));have k1:∀b o,s.heap.get? b=some o->((s.heap.push (seqObj "list" #[] 0)).update s.heap.objs.size (Obj.mapSeq (· ++ (rs.map λr=>Value.ref r.1).toArray))).get? b=some o:=λb o e=>by
  rw[Heap.get?_update_ne _ _ _ _ (WJ (WB e))];exact Wq _ e
 have Ub:((s.heap.push (seqObj "list" #[] 0)).update s.heap.objs.size (Obj.mapSeq (· ++ (rs.map λr=>Value.ref r.1).toArray))).objs.size=s.heap.objs.size+1:=by rw[Heap.size_update,size_push']
 refine⟨by rw[Wr];exact h64,λi=>(rs.getD i (0,[])).2,λh2 h6 k6=>?_,λpp h' op k' he=>?_⟩
 ·rw[Wr]at h2;exact vU (h6:=h6) I ht h2 λb o e=>k6 b o (k1 b o e)
 ·rw[Wr]at op
  dsimp only at k' he |-;rw[Ub]at he |-;obtain⟨e,he⟩:=he;have hn:H (s.heap.objs.size+1)=none:=I.hok.fresh (Xo _);have lp:pp.length=rs.length:=by rw[op.perm.length_eq,YN]
  have mem:∀i∈pp,i<rs.length:=λi hi=>by simpa using op.perm.mem_iff.mp hi
  have QO:(pp.map λi=>(rs.map λr=>Value.ref r.1).getD i Value.none)=(pp.map λi=>rs.getD i (0,[])).map λr=>Value.ref r.1:=by rw[W4];refine Xc λi hi=>?_;simp[mem i hi]
  have qp:(pp.map λi=>rs.getD i (0,[])).Perm rs:=by have:=op.perm.map λi=>rs.getD i (0,[]);rwa [rQ.gf]at this
  have qs:(pp.map λi=>rs.getD i (0,[])).Pairwise (λa b=>HT.lexLt b.2 a.2=false):=by have up1:=X5.mp op.up;exact X5.mpr up1
  refine⟨.ref (s.heap.objs.size+1),_,I.laid (t':=s.toks) (λb o z=>k' b o (k1 b o z)) (Xo _) (show cg X.prog X.w _ _ _ (.lst ((pp.map λi=>rs.getD i (0,[])).map λr=>V.ref r.1)) from⟨?_,_,e,?_,he⟩),rfl,q _ _ hn qp qs⟩
  ·rw[Wr,Wr,lp,Xy];omega
  ·rw[QO]
   generalize (pp.map λi=>rs.getD i (0,[]))=zs
   induction zs with
   |nil=>exact .nil
   |cons z zs ih=>exact .cons rfl ih
theorem xK{ns:List Int}(h:IntsAre us ns):∀(i:Nat) (v:Value),us[i]?=some v->∃t,v=.int (ns.getD i 0) t:=by
 induction h with
 |nil=>intro i v e;simp at e
 |cons z t r ih=>
  intro i v e;cases i with
  |zero=>simp at e;exact⟨t,by simp[<-e]⟩
  |succ i=>obtain⟨u,q⟩:=ih i v (by simpa using e);exact⟨u,by simpa using q⟩
theorem qw{pins:List (Addr×Obj)}{σ:St}{H:Hp}{s:Shared}{p:Addr}{ns:List Int}(I:Inv X pins σ H s)(hc:X.calm=true)(hq:gR X.K H p (ns.map V.int)\/iV X.K H p (ns.map V.int))(hne:0<ns.length){Q:Value->Shared->Prop}{f:String}{bt:Int->Int->Bool}{op:CmpOp}
  (hf:∀{Q:Value->Shared->Prop},wpAny (model X.prog X.w) X.A.in1 (pyIter (.ref p)) (λit s₂=>∃I fp wr n P St bt,it=.ref I/\Walks X.prog X.w X.A.in1 I fp wr n P St/\St 0 s₂.heap/\(∀b∈fp,b<s₂.heap.objs.size)/\0<n/\CmpOf X.prog X.w X.A.in1 op P bt /\
   ∀v h' tk,P (argBest bt (n-1)) v->(∀b o,b∉wr->s₂.heap.get? b=some o->h'.get? b=some o)->Q v { s₂ with heap:=h',toks:=tk }) X.xe s->wpAny (model X.prog X.w) X.A (call (.builtin f) [.ref p]) Q X.xe s)
  (hcmp:∀(P:Nat->Value->Prop),(∀i v,P i v->∃t,v=.int (ns.getD i 0) t)->CmpOf X.prog X.w X.A.in1 op P λi j=>bt (ns.getD i 0) (ns.getD j 0))
  (h:∀t h' tk,(∀b o,s.heap.get? b=some o->h'.get? b=some o)->argBest (λi j=>bt (ns.getD i 0) (ns.getD j 0)) (ns.length-1)<ns.length->Q (.int (ns.getD (argBest (λi j=>bt (ns.getD i 0) (ns.getD j 0)) (ns.length-1)) 0) t) { s with heap:=h',toks:=tk }) :
  wpAny (model X.prog X.w) X.A (call (.builtin f) [.ref p]) Q X.xe s:=by
 have hh:X.A.in1.handled=none:=I.ok.hd hc;have up:∀{us:List Value} (P:Nat->Value->Prop) (hi:IntsAre us ns),(∀i v,P i v->us.toArray[i]?=some v)->∀i v,P i v->∃t,v=.int (ns.getD i 0) t:=λP hi hP i v q=>xK hi i v (by simpa using hP i v q);have best:∀{us:List Value} (hi:IntsAre us ns) (v:Value) (h':Heap) (tk:Nat),us.toArray[argBest (λi j=>bt (ns.getD i 0) (ns.getD j 0)) (us.toArray.size-1)]?=some v->(∀b o,s.heap.get? b=some o->h'.get? b=some o)->Q v { s with heap:=h',toks:=tk }:=λ{us} hi v h' tk e k=>by
  have hl:=hi.length;rw[WA,hl]at e;have e':us[argBest (λi j=>bt (ns.getD i 0) (ns.getD j 0)) (ns.length-1)]?=some v:=by simpa using e
  obtain⟨t,rfl⟩:=xK hi _ v e';exact h t h' tk k (by have:=(Wo.mp e').1;omega)
 rcases hq with hq|hq
 ·obtain⟨its,rv,pl,hz⟩:=I.list hq
  have hi:=intsAre_of rv;have hl:=hi.length;have hpl:=pl.isList;have hlt:p<s.heap.objs.size:=by obtain⟨_,e,_⟩:=hpl;exact WB e
  refine hf (YM hpl ⟨s.heap.objs.size,[s.heap.objs.size,p],[s.heap.objs.size],its.toArray.size,_,_,λi j=>bt (ns.getD i 0) (ns.getD j 0),rfl,Walks.list hh _ p (WJ hlt) its.toArray,⟨⟨_,WG _ rfl,rfl,rfl⟩,hpl.push _⟩,λb hb=>?_,by rw[WA];omega,
   hcmp _ (up _ hi λi v q=>q),λv h' tk e k=>?_⟩)
  ·simp only[size_push']
   rcases WH.mp hb with z|z
   ·rw[z];exact Xa _
   ·rw[WD.mp z];exact XC hlt
  ·exact best hi v h' tk e λb o z=>k b o (by simp;exact WJ (WB z)) (Wq _ z)
 ·obtain⟨its,rv,pl,hz⟩:=I.tuple hq
  have hi:=intsAre_of rv;have hl:=hi.length;have hpl:s.heap.IsTuple p its.toArray:=pl;have hlt:p<s.heap.objs.size:=by obtain⟨_,e,_⟩:=hpl;exact WB e
  refine hf (wpAny_pyIter_tuple hpl ⟨s.heap.objs.size,[s.heap.objs.size,p],[s.heap.objs.size],its.toArray.size,_,_,λi j=>bt (ns.getD i 0) (ns.getD j 0),rfl,Walks.tuple hh _ p (WJ hlt) its.toArray,⟨⟨_,WG _ rfl,rfl,rfl⟩,?_⟩,λb hb=>?_,by rw[WA];omega,
   hcmp _ (up _ hi λi v q=>q),λv h' tk e k=>?_⟩)
  ·obtain⟨o,e,c⟩:=hpl;exact⟨o,Wq _ e,c⟩
  ·simp only[size_push']
   rcases WH.mp hb with z|z
   ·rw[z];exact Xa _
   ·rw[WD.mp z];exact XC hlt
  ·exact best hi v h' tk e λb o z=>k b o (by simp;exact WJ (WB z)) (Wq _ z)
theorem rR(hc:X.calm=true):cI X (.builtin "min") (λxs H Q=>∃(p:Addr) (ns:List Int),xs=[.ref p]/\(gR X.K H p (ns.map V.int)\/iV X.K H p (ns.map V.int))/\0<ns.length/\∀m,m∈ns->(∀a∈ns,m<=a)->Q (.int m) H):=by
 intro pins s σ H xs us Q I r h;obtain⟨p,ns,rfl,hq,hne,q⟩:=h;obtain⟨u,rfl,ru⟩:=vals1 r;cases ru;refine qw (bt:=λa b=>decide (a<b)) (op:=.Lt) I hc hq hne (λ{Q} h=>call_min_walk h) (λP hP=>?_) λt h' tk k hb=>⟨.int _,H,I.kept k,⟨t,rfl⟩,q _ ?_ λa ha=>?_⟩
 ·intro i j x y s' Q' E' hx hy hQ;obtain⟨t,rfl⟩:=hP i x hx;obtain⟨t',rfl⟩:=hP j y hy;exact lt_int (by simpa using hQ)
 ·exact getD_mem hb
 ·obtain⟨j,hj,rfl⟩:=mem_getD ha;exact(argBest_lt (λi=>ns.getD i 0) (ns.length-1)).2 j (by omega)
theorem rS(hc:X.calm=true):cI X (.builtin "max") (λxs H Q=>∃(p:Addr) (ns:List Int),xs=[.ref p]/\(gR X.K H p (ns.map V.int)\/iV X.K H p (ns.map V.int))/\0<ns.length/\∀m,m∈ns->(∀a∈ns,a<=m)->Q (.int m) H):=by
 intro pins s σ H xs us Q I r h;obtain⟨p,ns,rfl,hq,hne,q⟩:=h;obtain⟨u,rfl,ru⟩:=vals1 r;cases ru;refine qw (bt:=λa b=>decide (a>b)) (op:=.Gt) I hc hq hne (λ{Q} h=>call_max_walk h) (λP hP=>?_) λt h' tk k hb=>⟨.int _,H,I.kept k,⟨t,rfl⟩,q _ ?_ λa ha=>?_⟩
 ·intro i j x y s' Q' E' hx hy hQ;obtain⟨t,rfl⟩:=hP i x hx;obtain⟨t',rfl⟩:=hP j y hy;exact gt_int (by simpa using hQ)
 ·exact getD_mem hb
 ·obtain⟨j,hj,rfl⟩:=mem_getD ha;exact(argBest_gt (λi=>ns.getD i 0) (ns.length-1)).2 j (by omega)
end
section
variable {X:Cx}
section
open PySem.AutoSeq1 (wpAny_loadPart')
theorem rT(l b:Addr)(items items2:Array Value)(n n2:Nat)(dd2:Option Addr)(sl2:Array (Option Value))(hs0:¬(!items.isEmpty&&Builtin.List.listTooLong (items.size+items2.size))=true)(hs1:items.size<=sizeLine)(hs2:items.size+items2.size<=sizeLine+1) :
  Meets (Builtin.«list.extend» ⟨[.ref l,.ref b],[]⟩) (λ_ R s=>s.heap.get? l=some { cls:=.type "list",data:=.seq items n }/\s.heap.get? b=some { cls:=.type "tuple",dict:=dd2,data:=.seq items2 n2,slots:=sl2 } /\
   R (.ok (.ret Value.none)) { s with heap:=s.heap.update l (Obj.mapSeq λx=>x++items2) }) :=
 .of_wp λprog w A R s h=>by
  obtain⟨hp,g,d,tk,os⟩:=s;obtain⟨hl,hb,h⟩:=h;have f2:=AutoSeq1.sub_tuple_tuple;have f3:=AutoSeq1.sub_list_list;have f4:=AutoSeq1.sub_tuple_list;have f5:=AutoSeq1.sub_list_tuple;have hz':(items++items2).size<=sizeLine+1:=by rw[Array.size_append];exact hs2
  wp_walk using (wpAny_updateSeq hl rfl (hz:=hs1) (_hz':=hz')),wpAny_loadPart' hl,wpAny_loadPart' hb
  exact⟨_,rfl,h⟩
end
def Ba(K:Frag):V->List V->Hp->VK->Prop:=λx vs H Q=>∃l b xs zs,x=.ref l/\vs=[.ref b]/\H l=some (.lst xs)/\iV K H b zs/\xs.length+zs.length<=sizeLine/\Q .non (upd H l (.lst (xs++zs)))
theorem vV:PB X "list.extend" (Ba X.K):=by
 intro pins s σ H x vs v us Q I rx rv h;obtain⟨l,b,xs,zs,rfl,rfl,hH,hB,hz,q⟩:=h;cases rx;obtain⟨u,rfl,ru⟩:=rv.one;cases ru;obtain⟨z,its,n,r,hl,e⟩:=I.AI hH;obtain⟨its2,r2,⟨⟨oc,od,Uc,osl⟩,e2,ec,n2,ed⟩,z2⟩:=I.tuple hB;cases ec;cases ed;have l2:=r2.length;have hsz:its.toArray.size+its2.toArray.size<=sizeLine:=by rw[WA,WA];omega
 have AJ:¬ (!its.toArray.isEmpty&&Builtin.List.listTooLong (its.toArray.size+its2.toArray.size))=true:=by rw[tK hsz,Bool.and_false];exact Wm
 refine call_meets F.slot_list_extend ⟨_,e,rfl⟩ F.entry_list_extend (F.args_list_extend_2 _ _)
  (rT l b its.toArray its2.toArray n n2 od osl AJ (by rw[WA];omega) (by omega)) ⟨e,e2,?_⟩
 refine⟨.non,_,I.DS (its':=its++its2) hH e (by simp) (r.append r2) ?_,rfl,q⟩;rw[WN];omega
end
end L2
end
section
namespace L2
open PySem
def qy(xs:Array Nat):Prop:=xs.toList.Pairwise (· < ·)
structure Cut (xs:Array Nat) (j p:Nat):Prop where
 le:p<=xs.size
 lo:∀(i:Nat) (hi:i<xs.size),i<p->xs[i]<j
 hi:∀(i:Nat) (hi:i<xs.size),p<=i->j<=xs[i]
theorem Cut.one{xs:Array Nat}{j p q:Nat}(a:Cut xs j p)(b:Cut xs j q):p=q:=by
 rcases Nat.lt_trichotomy p q with h|h|h
 ·have hp:p<xs.size:=WC h b.le;have:=a.hi p hp (Wy _);have:=b.lo p hp h;omega
 ·exact h
 ·have hq:q<xs.size:=WC h a.le;have:=b.hi q hq (Wy _);have:=a.lo q hq h;omega
theorem qy.get{xs:Array Nat}(r:qy xs){a b:Nat}(ha:a<xs.size)(hb:b<xs.size)(h:a<b):xs[a]<xs[b]:=by
 have:=Xs.mp r a b (by simpa using ha) (by simpa using hb) h;simpa using this
theorem vW{xs:Array Nat}(r:qy xs)(j:Nat):∀(fuel lo hi:Nat),lo<=hi->hi<=xs.size->hi-lo<=fuel->(∀(i:Nat) (hi:i<xs.size),i<lo->xs[i]<j)->(∀(i:Nat) (h:i<xs.size),hi<=i->j<=xs[i])->Cut xs j (SetTable.below.go xs j fuel lo hi)
 | 0,lo,hi,h1,h2,h3,a,b=>by
  have:lo=hi:=by omega
  subst this;exact⟨h2,a,b⟩
 | fuel+1,lo,hi,h1,h2,h3,a,b=>by
  unfold SetTable.below.go
  by_cases hlt:lo<hi
  ·rw[Wu hlt]
   dsimp only;have hm:(lo+hi)/2<xs.size:=by omega
   have eg:xs.getD ((lo+hi)/2) j=xs[(lo+hi)/2]:=by simp[Array.getD,hm]
   rw[eg]
   by_cases hc:xs[(lo+hi)/2]<j
   ·rw[Wu hc]
    refine vW r j fuel _ hi (by omega) h2 (by omega) (λi hi' hl=>?_) b
    by_cases e:i=(lo+hi)/2
    ·subst e;exact hc
    ·exact lt_trans (r.get hi' hm (by omega)) hc
   ·rw[Wt hc]
    refine vW r j fuel lo _ (by omega) (by omega) (by omega) a (λi hi' hl=>?_)
    by_cases e:i=(lo+hi)/2
    ·subst e;omega
    ·have:=r.get hm hi' (by omega);omega
  ·rw[Wt hlt]
   have:lo=hi:=by omega
   subst this;exact⟨h2,a,b⟩
theorem jK{xs:Array Nat}(r:qy xs)(j:Nat):Cut xs j (SetTable.below xs j) :=
 vW r j xs.size 0 xs.size (Xz _) (Wy _) (by omega) (λi _ h=>by omega) (λi h hl=>by omega)
theorem vX{xs:Array Nat}(r:qy xs):SetTable.below xs 0=0:=(jK r 0).one ⟨Xz _,λi _ h=>by omega,λi _ _=>Xz _⟩
theorem vY{xs:Array Nat}(r:qy xs){i:Nat}(hi:i<xs.size):SetTable.below xs (xs[i]+1)=i+1:=by
 refine(jK r _).one ⟨hi,λk hk h=>?_,λk hk h=>?_⟩
 ·by_cases e:k=i
  ·subst e;omega
  ·have:=r.get hk hi (by omega);omega
 ·have:=r.get hi hk (by omega);omega
theorem zk{xs:Array Nat}(r:qy xs){j:Nat}(h:j∈xs):xs[SetTable.below xs j]?=some j:=by
 obtain⟨k,hk,e⟩:=Array.mem_iff_getElem.mp h;have:SetTable.below xs j=k:=by
  refine(jK r j).one ⟨XS hk,λi hi h=>?_,λi hi h=>?_⟩
  ·have:=r.get hi hk h;omega
  ·by_cases e':i=k
   ·subst e';omega
   ·have:=r.get hk hi (by omega);omega
 rw[this,W8 hk,e]
theorem zl{xs:Array Nat}(r:qy xs){j:Nat}(h:j∉xs):qy (SetTable.insertAt xs (SetTable.below xs j) j):=by
 have c:=jK r j;unfold qy;rw[SetTable.toList_insertAt];have rl:xs.toList.Pairwise (· < ·):=r;have lo:∀a∈xs.toList.take (SetTable.below xs j),a<j:=λa ha=>by
  obtain⟨i,hi,e⟩:=YE.mp ha;rw[Yy,WY]at hi;rw[List.getElem_take]at e;have:=c.lo i (by omega) (by omega);rw[<-e];simpa using this
 have up:∀a∈xs.toList.drop (SetTable.below xs j),j<a:=λa ha=>by
  obtain⟨i,hi,e⟩:=YE.mp ha;rw[Yz,WY]at hi;rw[List.getElem_drop]at e;have h1:=c.hi (SetTable.below xs j+i) (by omega) (by omega);have e':xs[SetTable.below xs j+i]'(by omega)=a:=by rw[<-e];simp
  rw[e']at h1;have:a≠j:=λz=>h (by rw[<-z,<-e'];exact Array.getElem_mem _);omega
 rw[List.pairwise_append];refine⟨rl.sublist (List.take_sublist _ _),Xh.mpr ⟨up,rl.sublist (List.drop_sublist _ _)⟩,λa ha b hb=>?_⟩
 rcases WH.mp hb with e|hb
 ·rw[e];exact lo a ha
 ·exact lt_trans (lo a ha) (up b hb)
theorem kX(n:Nat):qy (Array.range n):=by
 unfold qy;rw[Array.toList_range];exact List.pairwise_lt_range
theorem qz{t:SetTable}(r:qy t.place){j:Nat}(h:t.slot j=.empty\/t.slot j=.dummy):j∉t.place:=λhm=>by
 have e:=zk r hm;unfold SetTable.slot at h;dsimp only at h;rw[e]at h;simp at h
theorem j9{h:Int}:∀(fuel:Nat) (p:SetTable.Probe) (j:Nat) (d:Option Nat),(∀k,p.dummy=some k->t.slot k=.dummy)->SetTable.probe.go t f h fuel p=some (.empty j d)->t.slot j=.empty/\∀k,d=some k->t.slot k=.dummy
 |0,p,j,d,hd,e=>by simp[SetTable.probe.go]at e
 | fuel+1,p,j,d,hd,e=>by
  have ad:∀q:SetTable.Probe,(t.advance q).dummy=q.dummy:=λq=>by unfold SetTable.advance;split<;>rfl
  unfold SetTable.probe.go at e;split at e
  ·rename_i hs;cases e;exact⟨hs,hd⟩
  ·rename_i hs;refine j9 fuel _ j d (λk hk=>?_) e;rw[ad]at hk;cases hk;exact hs
  ·split at e
   ·cases e
   ·exact j9 fuel _ j d (λk hk=>hd k (by rw[<-ad];exact hk)) e
theorem Bb{t:SetTable}(r:qy t.place){h:Int}{s:Nat}{b:Bool}(e:t.freeSlot h=some (s,b)):s∉t.place:=by
 unfold SetTable.freeSlot at e;split at e
 ·rename_i j d hp
  cases e;obtain⟨h1,h2⟩:=j9 _ _ _ _ (λk hk=>by simp[SetTable.probeStart]at hk) hp;cases d with
  |none=>exact qz r (.inl h1)
  |some k=>exact qz r (.inr (h2 k rfl))
 ·cases e
theorem zm(r:qy t.place)(es:Array (Int×Value))(h:Int)(x:Value):qy (layNew t es h x).2.1.place/\(layNew t es h x).2.1.led=t.led:=by
 unfold layNew
 split
 ·rename_i s b e
  have fr:=Bb r e;dsimp only;unfold SetTable.orStandIn
  split
  ·exact⟨zl r fr,rfl⟩
  ·exact⟨kX _,rfl⟩
 ·exact⟨kX _,rfl⟩
theorem Bc(r:qy t.place)(es:Array (Int×Value))(n:Nat):qy (relayAll t es n).2.1.place/\(relayAll t es n).2.1.led=t.led:=by
 unfold relayAll
 split
 ·rename_i t' order e
  dsimp only
  split
  ·unfold SetTable.relaid SetTable.laid at e;obtain⟨ow,e1,e⟩:=Wn.mp e;cases e;refine⟨?_,rfl⟩;show List.Pairwise _ (List.map _ _).toArray.toList;rw[List.toList_toArray,X5];refine List.Pairwise.filterMap _ (R:=(· < ·)) (λa a' hl b hb b' hb'=>?_) List.pairwise_lt_range;obtain⟨x,_,rfl⟩:=WW.mp hb;obtain⟨y,_,rfl⟩:=WW.mp hb';exact hl
  ·exact⟨kX _,rfl⟩
 ·exact⟨kX _,rfl⟩
end L2
end
section
namespace L2
open PySem PyProof.Rows
def pU(w:World):Bool:=w.params.followText "set-order"
structure Gs (w:World) (es:Array (Int×Value)) (t:SetTable):Prop where
 few:es.size<scanBound
 fit:t.fits es.size=true
 rs:qy t.place
 led:t.led = !pU w
structure dJ (prog:Program) (w:World) (h:Heap) (a:Addr) (o:Obj) (es:Array (Int×Value)) (ep:Nat) (t:SetTable) (ks:List Int):Prop where
 at_:h.get? a=some o
 ex:o.ExactSet
 dat:o.data=.set es ep t
 el:ElemsOf (intKind prog w) es.toList
 tab:Gs w es t
 RZ:ks.Nodup
 mem:∀k,k∈ks↔∃e∈es.toList,(intKind prog w).is k e.2=true
 num:es.size=ks.length
def nv(prog:Program)(w:World)(h:Heap)(a:Addr)(ks:List Int):Prop:=∃o es ep t,dJ prog w h a o es ep t ks
def bS(ks:List Int)(k:Int):List Int:=if k∈ks then ks else ks++[k]
section
variable {prog:Program} {w:World} {A:Around} {E:Value->Shared->Prop} {s:Shared}
theorem Be{h:Heap}{a:Addr}{o:Obj}{es es':Array (Int×Value)}{ep:Nat}{t t':SetTable}(ho:h.get? a=some o)(hd:o.data=.set es ep t):(h.update a (Obj.putSet es' t')).get? a=some { o with data:=.set es' (ep+1) t' }:=by
 have q:=Xe (Obj.putSet es' t') ho (by rw[putSet_of es' t' hd];rfl);rw[putSet_of es' t' hd]at q;exact q
theorem nv.frame{ks:List Int}(S:nv prog w h a ks)(k:∀o,h.get? a=some o->h'.get? a=some o):nv prog w h' a ks:=by
 obtain⟨o,es,ep,t,i⟩:=S;exact⟨o,es,ep,t,{ i with at_:=k o i.at_ }⟩
theorem mem_push{es es1:List (Int×Value)}{ks:List Int}{k:Int}(hx:(intKind prog w).is k x=true)(hm:∀j,j∈ks↔∃e∈es,(intKind prog w).is j e.2=true)(p:es1.Perm (es++[((intKind prog w).hash k,x)]))(j:Int) :
  j∈ks++[k]↔∃e∈es1,(intKind prog w).is j e.2=true:=by
 rw[W3,WD,hm];constructor
 ·rintro(⟨e,he,q⟩|rfl)
  ·exact⟨e,p.mem_iff.mpr (W0 _ he),q⟩
  ·exact⟨_,p.mem_iff.mpr (WU _ Wx),hx⟩
 ·rintro⟨e,he,q⟩
  rcases W3.mp (p.mem_iff.mp he) with z|z
  ·exact .inl ⟨e,z,q⟩
  ·rw[WD]at z;subst z;exact .inr ((intKind prog w).inj x j k q hx)
theorem tY{g:Bool->Sem Unit}(hg:∀(b:Bool) (s₁:Shared) (Q':Unit->Shared->Prop),Q' () s₁->wpAny (model prog w) A (g b) Q' E s₁)
  {a:Addr} {o:Obj} {es es1:Array (Int×Value)} {ep:Nat} {t t2:SetTable} {ks:List Int} (ho:s.heap.get? a=some o) (hex:o.ExactSet) (hd:o.data=.set es ep t)
  (hel:ElemsOf (intKind prog w) es1.toList) (hm:∀k,k∈ks↔∃e∈es1.toList,(intKind prog w).is k e.2=true) (hnd:ks.Nodup) (hn:es1.size=ks.length) (ht:Gs w es1 t2) {b:Bool} {R:Option Bool->Shared->Prop}
  (h:∀h',Heap.SameBut a s.heap h'->nv prog w h' a ks->R (some true) { s with heap:=h' }) :
  wpAny (model prog w) A (do
    storeSet a es1 t2
    if (!b&&t2.tooFull)=true then do
      g (relayAll t2 es1 (SetTable.grown es1.size)).2.2
      storeSet a (relayAll t2 es1 (SetTable.grown es1.size)).1 (relayAll t2 es1 (SetTable.grown es1.size)).2.1
      pure (some true)
     else pure (some true)) R E s:=by
 refine Wl (wpAny_storeSet_of ho hd ?_ (Ys ht.few));have h1:=Be (es':=es1) (t':=t2) ho hd;have b1:=Xk s.heap a (Obj.putSet es1 t2)
 split
 ·have p:=relayAll_perm t2 es1 (SetTable.grown es1.size)
  have f:=relayAll_fits t2 es1 (SetTable.grown es1.size);have rr:=Bc ht.rs es1 (SetTable.grown es1.size);generalize relayAll t2 es1 (SetTable.grown es1.size)=Rl at p f rr |-;obtain⟨QS,t3,gv⟩:=Rl;dsimp only at p f rr |-;have z:QS.size=es1.size:=by rw[<-WY,p.length_eq,WY]
  have few:QS.size<scanBound:=by rw[z];exact ht.few
  refine Wl (hg _ _ _ ?_);refine Wl (wpAny_storeSet_of h1 rfl ?_ (Ys few));refine Wv (h _ (b1.trans (Xk _ a _)) ⟨_,QS,_,t3,Be h1 rfl,hex,rfl,hel.perm p,⟨few,f,rr.1,rr.2.trans ht.led⟩,hnd,λk=>(hm k).trans ⟨λ⟨e,he,q⟩=>⟨e,p.mem_iff.mpr he,q⟩,λ⟨e,he,q⟩=>⟨e,p.mem_iff.mp he,q⟩⟩,z.trans hn⟩)
 ·exact Wv (h _ b1 ⟨_,es1,_,t2,h1,hex,rfl,hel,ht,hnd,hm,hn⟩)
theorem add_int{ks:List Int}{k:Int}(S:nv prog w s.heap a ks)(room:ks.length+1<scanBound)
  (h:∀h' b,Heap.SameBut a s.heap h'->nv prog w h' a (bS ks k)->Q b { s with heap:=h' }) :
  wpAny (model prog w) A (setAddHashed a (.int k tk) ((intKind prog w).hash k)) Q E s:=by
 obtain⟨o,es,ep,t,I⟩:=S;have hx:(intKind prog w).is k (.int k tk)=true:=intKind_is _ _ _ _;have sc:(Value.int k tk).scannable=true:=rfl;unfold setAddHashed setAddHashedIn;refine Xx (Wl (XD I.at_ I.dat I.tab.fit ?_));dsimp only;rw[byScan_of sc I.tab.few I.el];simp only[↓reduceIte];unfold setAddByScan;refine Wl (Wl (wpAny_rule (Wl (wpAny_setScan_of hx I.at_ I.dat I.tab.fit I.el ?_))));cases hr:List.findIdx? (λe=>(intKind prog w).is k e.2) es.toList with
 |some j=>
  dsimp only;obtain⟨hj,pj,_⟩:=List.findIdx?_eq_some_iff_getElem.mp hr;have hk:k∈ks:=(I.mem k).mpr ⟨es.toList[j],Xw hj,pj⟩;refine Wv (Wv ?_);have e:s={ s with heap:=s.heap }:=by cases s;rfl
  rw[e];exact h s.heap _ (Heap.SameBut.refl a s.heap) (by unfold bS;rw[Wu hk];exact⟨o,es,ep,t,I⟩)
 |none=>
  dsimp only;have hk:k∉ks:=λz=>by
   obtain⟨e,he,p⟩:=(I.mem k).mp z;have:=List.findIdx?_eq_none_iff.mp hr e he;rw[p]at this;cases this
  have gw:∀(b:Bool) (s₁:Shared) (Q':Unit->Shared->Prop),Q' () s₁->wpAny (model prog w) A (match b with|true=>rule "set.scan.the-table-gave-way" | false=>pure ()) Q' E s₁:=λb s₁ Q' q=>by
   cases b
   ·exact Wv q
   ·exact wpAny_rule q
  have p:=layNew_perm t es ((intKind prog w).hash k) (.int k tk);have f:=layNew_fits t es ((intKind prog w).hash k) (.int k tk);have rr:=zm I.tab.rs es ((intKind prog w).hash k) (.int k tk);generalize layNew t es ((intKind prog w).hash k) (.int k tk)=Ln at p f rr |-;obtain⟨es1,t1,wd,gv⟩:=Ln;dsimp only at p f rr |-;rw[Array.toList_push]at p;have z:es1.size=(ks++[k]).length:=by rw[<-WY,p.length_eq,WN,WN,WY,I.num];rfl
  have few:es1.size<scanBound:=by rw[z,WN];simpa using room
  have nd:(ks++[k]).Nodup:=by rw[Xq];exact⟨I.RZ,by simp,λx hx' y hy e=>hk (by rw[WD]at hy;rw[<-hy,<-e];exact hx')⟩
  have R0:ElemsOf (intKind prog w) es1.toList:=(I.el.push hx sc).perm p;have m1:=mem_push hx I.mem p;have fin:∀h',Heap.SameBut a s.heap h'->nv prog w h' a (ks++[k])->Q true { s with heap:=h' }:=λh' sb S'=>h h' true sb (by unfold bS;rw[Wt hk];exact S');refine Wl (gw _ _ _ ?_)
  split
  ·refine Wl ?_
   rw[hashByValue_scannable 8 sc];refine Wv ?_;refine tY gw I.at_ I.ex I.dat R0 m1 nd z ⟨few,?_,?_,?_⟩ λh' sb S'=>Wv (fin h' sb S')
   ·split
    ·exact f
    ·exact SetTable.fits_plain_off f
   ·split
    ·exact rr.1
    ·exact rr.1
   ·split
    ·exact rr.2.trans I.tab.led
    ·exact rr.2.trans I.tab.led
  ·refine Wl (Wv ?_);simp only[↓reduceIte];exact tY gw I.at_ I.ex I.dat R0 m1 nd z ⟨few,f,rr.1,rr.2.trans I.tab.led⟩ λh' sb S'=>Wv (fin h' sb S')
end
def gS:List Int->List Int->List Int
 |ks,[]=>ks
 |ks,k::r=>gS (bS ks k) r
theorem oh(ks:List Int)(k:Int):(bS ks k).length<=ks.length+1:=by unfold bS;split<;>simp
section
variable {prog:Program} {w:World} {A:Around} {E:Value->Shared->Prop} {s:Shared}
theorem Bf{R:Result->Shared->Prop}{I:Addr}{fp wr:List Addr}{G:Array GenState->Array GenState->Prop}{n:Nat}{P:Nat->Value->Prop}{St:Nat->Shared->Prop}(W:WalksS prog w A.in1 I fp wr G n P St)(S:Addr)(hSf:S∉fp)(val:Nat->Int)(hval:∀i v,P i v->∃t,v=.int (val i) t) :
  ∀(k i:Nat) (s:Shared) (ks:List Int),n-i=k->i<=n->ks.length+k+1<scanBound->St i s->nv prog w s.heap S ks ->
   (∀s',Moved (S::wr) G s s'->nv prog w s'.heap S (gS ks ((range' i k).map val))->R (.ok (.ret .none)) s') ->
   codeAny (model prog w) A (.builtin "set.update.loop" ⟨[.ref S,.ref I],[]⟩) R s:=by
 have R1:S∉wr:=λh=>hSf (W.sub _ h);have sub:∀b∈wr,b∈S::wr:=λb hb=>Ww _ hb;intro k
 induction k with
 |zero=>
  intro i s ks hk hi _ hst hS hR;have:i=n:=by omega
  subst this;refine XY PyProof.Rows.F.entry_set_update_loop ?_;rw[XO XH _];show wpAny _ A.in1 (pyNext (.ref I) >>= _) _ _ s;refine Wl (W.done s _ _ hst λs' hm=>?_);show wpAny _ A.in1 (ret Value.none) _ _ s';exact Wv (hR s' (hm.mono sub) (hS.frame λo e=>hm.heap S _ R1 e))
 |succ k ih=>
  intro i s ks hk hi hl hst hS hR;have hlt:i<n:=by omega
  refine XY PyProof.Rows.F.entry_set_update_loop ?_;rw[XO XH _];show wpAny _ A.in1 (pyNext (.ref I) >>= _) _ _ s;refine Wl (W.item i s _ _ hlt hst λv s' hP QT hm=>?_);obtain⟨t,rfl⟩:=hval i v hP;have hS':=hS.frame (h':=s'.heap) λo e=>hm.heap S _ R1 e;show wpAny _ A.in1 (holding [Value.int (val i) t] (setAdd S (.int (val i) t)) >>= _) _ _ s';refine Wl (Xx ?_);unfold setAdd;refine Xx (Wl ((intKind prog w).pyHash (k:=val i) (intKind_is _ _ _ _) ?_));refine add_int (s:={ s' with toks:=s'.toks+1 }) hS' (by omega) λh' b sb S2=>?_;have hl2:=oh ks (val i);refine Wv ⟨YC XH _,ih (i+1) _ (bS ks (val i)) (by omega) hlt (by omega) (W.frame _ s' _ _ QT (Xo _) λb hb o e=>?_) S2 λs'' IF S3=>?_⟩
  ·rw[sb.2 b λz=>hSf (by rw[<-z];exact hb)];exact e
  ·refine hR s'' (Moved.trans W.gtrans ((hm.mono sub).then_heap (Xo _) λb o hb e=>?_) IF) ?_
   ·rw[sb.2 b λz=>hb (by rw[z];exact Wx)];exact e
   ·rw[List.range'_succ,WI,gS];exact S3
abbrev oj(w:World):Obj:={ cls:=.type "set",dict:=none,data:=.set #[] 0 (.fresh 0 0 (!pU w)) }
theorem D9(e:h.get? a=some (oj w)):nv prog w h a [] :=
 ⟨_,#[],0,_,e,⟨rfl,rfl,rfl⟩,rfl,λx hx=>by simp at hx,⟨by show 0<4096;decide,rfl,List.Pairwise.nil,rfl⟩,YJ,λk=>by simp,rfl⟩
theorem Bg(a:Value)(h:Q₁ (.ref s.heap.objs.size) { s with heap:=s.heap.push (oj w) }) :
  codeAny (model prog w) A (.call (.builtin "set.__new__") ⟨[.type "set",a],[]⟩) (wants Q₁ E) s:=by
 refine codeAny_of_tree ?_;show wpAny _ A.in1 (do checkBuiltinCall "set.__new__" ⟨[.type "set",a],[]⟩;again (.builtin "set.__new__" ⟨[.type "set",a],[]⟩)) _ _ s;refine Wl (wpAny_of_eq (PySem.F.newCall_set_1 a) (Wv ⟨YC PySem.F.plain_set_new _,XY PySem.F.entry_set_new ?_⟩));rw[XO PySem.F.plain_set_new _];unfold Builtin.«set.__new__» Builtin.Frozenset.newClass;have hsub:=sub_set_self;obtain⟨hp,g,d,tk,os⟩:=s;dsimp only
 wp_walk
 refine wpAny_askSetting (Wv ?_);dsimp only;simp only[newObj];refine Wl (wpAny_alloc (Wv ?_));exact Wv h
end
section
variable {prog:Program} {w:World} {A:Around} {E:Value->Shared->Prop} {s:Shared}
theorem vZ{ns:List Int}(hi:IntsAre vs ns):(range' 0 vs.length).map (λi=>ns.getD i 0)=ns:=by
 have hl:=IntsAre.length hi;apply YB
 ·rw[Wr,List.length_range',hl]
 ·intro i h1 h2;simp[List.getD,h2]
theorem tZ{ns:List Int}(hh:A.handled=none)(hl:s.heap.IsList l items)(hi:IntsAre items.toList ns)(hb:items.size+1<scanBound)
  (h:∀(h':Heap) (tk:Nat),nv prog w h' s.heap.objs.size (gS [] ns)->(∀b o,b<s.heap.objs.size->s.heap.get? b=some o->h'.get? b=some o)->Q (.ref s.heap.objs.size) { s with heap:=h',toks:=tk }) :
  wpAny (model prog w) A (call (.type "set") [.ref l]) Q E s:=by
 obtain⟨c,tl,mro⟩:=PySem.F.called_set.mro;have made:=PySem.F.called_set.made;have sub:=PySem.F.called_set.sub;refine wpAny_call (codeAny_of_tree ?_);show wpAny _ _ (callAny (.type "set") _) _ _ _;refine Wv ⟨Code.quiet_builtin _ (by decide +kernel),XY PySem.F.entry_type_call ?_⟩;rw[Around.under_plain (weight_type_call_type "set" [.ref l] []) rfl];have n1:=PySem.F.called_set.notType;have n2:=PySem.F.called_set.canCreate;have n3:=PySem.F.typeCall_set_1 (.ref l)
 repeat (any_goals (first|assumption|wp_step))
 refine Yp (Bg (.ref l) (E:=E) (Q₁:=λobj s₁=>obj=.ref s.heap.objs.size/\s₁={ s with heap:=s.heap.push (oj w) }) ⟨rfl,rfl⟩) λr s₁ hr=>?_;cases r with
 |error e=>exact hr
 |ok fl=>
  cases fl with
  |ret obj=>
   obtain⟨rfl,rfl⟩:=hr;have R3:(s.heap.push (oj w)).get? s.heap.objs.size=some (oj w):=WG _ rfl;have hT:Shared.TypeIs { s with heap:=s.heap.push (oj w) } (.ref s.heap.objs.size) "set":=⟨_,R3,rfl⟩;have look:=PySem.F.called_set.init.lookup;have bind:=PySem.F.called_set.init.bind (.ref s.heap.objs.size)
   repeat (any_goals (first|assumption|wp_step))
   refine Yp (codeAny_call_builtin (R:=wants (λr s₂=>r=.none/\∃h' tk,s₂={ s with heap:=h',toks:=tk }/\nv prog w h' s.heap.objs.size (gS [] ns) /\
     (∀b o,b<s.heap.objs.size->s.heap.get? b=some o->h'.get? b=some o)) E) PySem.F.called_set.init.plain PySem.F.entry_set_init (check_set_init_1 hT ?_)) λr₂ s₂ QU=>?_
   ·obtain⟨ol,R4,cl,nl,dl⟩:=hl
    obtain⟨oc,od,Wa,os⟩:=ol;simp only at cl dl;subst cl;subst dl;have QV:(s.heap.push (oj w)).get? l=some { cls:=.type "list",dict:=od,data:=.seq items nl,slots:=os }:=Wq _ R4;have q1:=PySem.F.sub_list_set;have q2:=PySem.F.sub_list_frozenset;have q3:(Value.type "list" == Value.type "dict")=false:=by decide
    have hl1:(s.heap.push (oj w)).IsList l items:=⟨_,QV,rfl,nl,rfl⟩;unfold Builtin.«set.__init__» noKeywords Builtin.Frozenset.updateFrom;generalize Ud:pyIter=PI
    wp_walk
    subst Ud;refine YM hl1 (Wl (wpAny_runValue ?_));have lS:l<s.heap.objs.size:=WB R4;have h3:A.in1.in1.in1.handled=none:=by simp[hh]
    have Ue:l≠(s.heap.push (oj w)).objs.size:=by rw[Xl];exact WJ (XC lS)
    have sF:s.heap.objs.size∉[(s.heap.push (oj w)).objs.size,l]:=by rw[Xl];simp only[mem_cons,not_mem_nil,or_false,not_or];exact⟨WJ (Xa _),X7 lS⟩
    have val:∀(i:Nat) (v:Value),items[i]?=some v->∃t,v=.int ((λi=>ns.getD i 0) i) t:=λi v hv=>IntsAre.int_at hi i v (by rw[Yx];exact hv);refine Bf ((Walks.list h3 _ l Ue items).toS) s.heap.objs.size sF (λi=>ns.getD i 0) val (items.size-0) 0 _ [] (by omega) (Xz _) (by simpa using hb) ⟨⟨_,WG _ rfl,rfl,rfl⟩,hl1.push _⟩ ?s0 ?sR
    case s0=>exact D9 (Wq _ R3)
    case sR=>
     intro s' hm S';obtain⟨h',g',d',tk',os'⟩:=s';have eg:g'=s.gens:=hm.gens;have ed:d'=s.drawn:=hm.drawn;have eo:os'=s.os:=hm.os;subst eg;subst ed;subst eo;refine Wv ?_;show wpAny _ _ (ret Value.none) _ _ _;have e0:(range' 0 (items.size-0)).map (λi=>ns.getD i 0)=ns:=by have:=vZ hi;rw[WY]at this;exact this
     rw[e0] at S';refine Wv ⟨rfl,h',tk',rfl,S',λb o hb e=>?_⟩;have b1:b≠s.heap.objs.size:=WJ hb;have b2:b≠(s.heap.push (oj w)).objs.size:=by rw[Xl];exact WJ (XC hb)
     exact hm.heap b o (by simp only[mem_cons,not_mem_nil,or_false,not_or];exact⟨b1,b2⟩) (Wq _ (Wq _ e))
   ·cases r₂ with
    |error e=>exact QU
    |ok Ug=>
     cases Ug with
     |ret r=>
      obtain⟨rfl,h',tk,rfl,S',hk⟩:=QU
      repeat (any_goals (first|assumption|wp_step))
      exact h _ _ S' hk
     |_=>exact QU.elim
  |_=>exact hr.elim
end
namespace SI
theorem v5:entryFor table "set.__iter__" = some Builtin.«frozenset.__iter__» :=
 entryFor_alias (id':="frozenset.__iter__") (by kernel_rfl) rfl (by decide +kernel) (by kernel_rfl)
theorem owner:Manifest.owners.lookup (String.ofList ['r','o','t','a','r','e','t','i','_','t','e','s'].reverse)=some Manifest.sig_set_iterator:=by kernel_rfl
theorem slot_next:Slot "set_iterator" "__next__" "set_iterator.__next__" :=
 .of (owner:="set_iterator") (n:="__next__") (by rw[typeLookup_type,builtinLookup_eq_fast];kernel_rfl) (by decide +kernel) (by decide +kernel) (by decide +kernel) (by first|exact .inl (by decide +kernel)|exact .inr (by decide +kernel)) (by rw[isSubtype_type];kernel_rfl)
theorem entry_next:entryFor table "set_iterator.__next__" = some Builtin.«set_iterator.__next__»:=entryFor_of_tree (by kernel_rfl)
theorem args_next(a:Value):argsOk "set_iterator.__next__" ⟨[a],[]⟩:=by
 unfold argsOk;rw[signature?_of (id:="set_iterator.__next__") (n:=['_','_','t','x','e','n','_','_']) (o:=['r','o','t','a','r','e','t','i','_','t','e','s']) (by kernel_rfl) owner];kernel_rfl
theorem qA:Slot "set_iterator" "__iter__" "set_iterator.__iter__" :=
 .of (owner:="set_iterator") (n:="__iter__") (by rw[typeLookup_type,builtinLookup_eq_fast];kernel_rfl) (by decide +kernel) (by decide +kernel) (by decide +kernel) (by first|exact .inl (by decide +kernel)|exact .inr (by decide +kernel)) (by rw[isSubtype_type];kernel_rfl)
theorem entry_self:entryFor table "set_iterator.__iter__" = some Builtin.«dict_keyiterator.__iter__» :=
 entryFor_alias (id':="dict_keyiterator.__iter__") (by kernel_rfl) rfl (by decide +kernel) (by kernel_rfl)
theorem zo(a:Value):argsOk "set_iterator.__iter__" ⟨[a],[]⟩:=by
 unfold argsOk;rw[signature?_of (id:="set_iterator.__iter__") (n:=['_','_','r','e','t','i','_','_']) (o:=['r','o','t','a','r','e','t','i','_','t','e','s']) (by kernel_rfl) owner];kernel_rfl
end SI
section
variable {prog:Program} {w:World} {A:Around} {E:Value->Shared->Prop} {s:Shared}
def eG(h:Heap)(it:Addr)(f:Value)(i:Nat)(a:Addr)(n ep:Nat):Prop:=∃o,h.get? it=some o/\o.cls=.type "set_iterator" /\ o.data=.fields [f,.int i 0,.ref a,.int n 0,.int ep 0].toArray
theorem eG.typeIs{i:Nat}{n ep:Nat}(x:eG s.heap it f i a n ep):s.TypeIs (.ref it) "set_iterator":=let ⟨o,ho,hc,_⟩:=x;⟨o,ho,hc⟩
theorem l0{i:Nat}{n ep:Nat}(x:eG s.heap it f i a n ep)(h:Q (.ref it) s):wpAny (model prog w) A (pyIter (.ref it)) Q E s:=by
 refine wpAny_pyIter_slot x.typeIs SI.qA (XQ SI.qA x.typeIs SI.entry_self ?_ (SI.zo _));exact Wv ⟨_,rfl,"set_iterator",_,x.typeIs,SI.slot_next.lookup,h⟩
end
section
variable {prog:Program} {w:World} {A:Around} {E:Value->Shared->Prop} {s:Shared}
theorem gT{ep:Nat}(ho:s.heap.get? a=some o)(hd:o.data=.set es ep t)(hf:t.fits es.size=true)(h:Q es s):wpAny (model prog w) A (setEntries a) Q E s:=by
 unfold setEntries;exact Wl (XD ho hd hf (Wv h))
theorem jL(h:Q (pU w) s):wpAny (model prog w) A setsByText Q E s:=by
 unfold setsByText;exact Wl (wpAny_askSetting (Wv h))
theorem qB{ep sl g:Nat}{ks:List Int}(S:dJ prog w s.heap a o es ep t ks)(hb:pU w=false)(hp:(!t.plain&&decide (es.size>1))=false)
  (hQ:Q (match es[SetTable.below t.place sl]?,t.place[SetTable.below t.place sl]? with|some (_,x),some j=>some (x,j+1)|_,_=>none) s):wpAny (model prog w) A (setNext a sl g ep) Q E s:=by
 have led:t.led=true:=by rw[S.tab.led,hb];rfl
 unfold setNext;refine Wl (XD S.at_ S.dat S.tab.fit ?_);dsimp only;refine Wl (jL ?_);rw[hb];simp only[false_eq_true,↓reduceIte];rw[Wt (λz=>by
  have z':(!t.plain&&decide (es.size>1))=true:=z;rw[hp]at z';cases z')]
 refine Wl ?_;show wpAny _ _ (if (!t.led && !es.isEmpty)=true then Sem.unsupported "set:maker-not-led" else pure ()) _ _ _;rw[Wt (by rw[led];simp)];exact Wv (Wv hQ)
theorem qC{ep sl g:Nat}{ks:List Int}(S:dJ prog w s.heap a o es ep t ks)(hb:pU w=true)
  (hQ:Q (((pickOrder (w.params.setOrder a ep) es)[g]?).map λe=>(e.2,sl)) s):wpAny (model prog w) A (setNext a sl g ep) Q E s:=by
 unfold setNext;refine Wl (XD S.at_ S.dat S.tab.fit ?_);dsimp only;refine Wl (jL ?_);rw[hb];simp only[bne_self_eq_false,false_eq_true,↓reduceIte];unfold setWalk;refine Wl (Wl (XD S.at_ S.dat S.tab.fit ?_));dsimp only;refine Wl (jL ?_);rw[hb];simp only[↓reduceIte];exact Wl (wpAny_askSetting (Wv (Wv hQ)))
theorem kY{ep:Nat}{ks:List Int}{i sl:Nat}(hh:A.handled=none)(x:eG s.heap it (.int sl 0) i a es.size ep)(S:dJ prog w s.heap a o es ep t ks)
  (hn:∀(A:Around) (E:Value->Shared->Prop) (Q:Option (Value×Nat)->Shared->Prop),Q r s->wpAny (model prog w) A (setNext a sl i ep) Q E s)
  (hQ:∀v nx,r=some (v,nx)->∀h',eG h' it (.int (nx:Nat) 0) (i+1) a es.size ep->Heap.SameBut it s.heap h'->Q (some v) { s with heap:=h' })
  (hE:r=none->∀h',Heap.ExtBut it s.heap h'->Q none { s with heap:=h' }):wpAny (model prog w) A (pyNext (.ref it)) Q E s:=by
 obtain⟨oi,Dp,QW,hdi⟩:=id x;unfold pyNext;refine Wl (wpAny_attempt (Yk (name:=Str.ofString "__next__") x.typeIs SI.slot_next (XQ SI.slot_next x.typeIs SI.entry_next ?_ (SI.args_next _))));unfold Builtin.«set_iterator.__next__»;refine Wl (Wv ?_);refine Wl (wpAny_fieldsOf Dp hdi ?_);dsimp only;refine Wl (gT S.at_ S.dat S.tab.fit ?_);rw[Wt (by simp)];refine Wl (hn _ _ _ ?_);cases r with
 |some p=>
  obtain⟨v,nx⟩:=p;dsimp only;refine Wl (X6 Dp hdi (by simp) ?_);have h1:=Xe (Obj.mapFields (·.setIfInBounds 0 (rawInt nx))) Dp (X3 (Xn hdi _));have d1:=Xn hdi (·.setIfInBounds 0 (rawInt nx));refine Wl (X6 h1 d1 (by simp) ?_);have h2:=Xe (Obj.mapFields (·.setIfInBounds 1 (rawInt ((i:Int)+1)))) h1 (X3 (Xn d1 _));refine Wv ⟨_,rfl,Wv (hQ v nx rfl _ ⟨_,h2,?_,?_⟩ ((Xk ..).trans (Xk ..)))⟩
  ·rw[YO,YO];exact QW
  ·rw[Xn d1];simp[rawInt]
 |none=>dsimp only;refine Wl (X6 Dp hdi (by simp) ?_);refine Wl ?_;simp only[newExc,newTuple];refine Wl (W2 ?_ (by size_fits));refine Wl (m:=firstArgMember _ _) (wpAny_of_eq (a:=Value.none) (by first|rfl|(simp only[firstArgMember];rfl)) ?_);refine W2 ?_ (by size_fits);simp only[raiseNew];refine Wl (wpAny_handled ?_);rw[show A.in1.handled=none from hh];refine Wl (Wv (wpAny_throw ?_));refine Wl (wpAny_isInstance (T:="StopIteration") (b:=true) ⟨_,WG _ rfl,rfl⟩ isSubtype_stop ?_);exact Wv (hE rfl _ (((Xk ..).extBut.push _).push _))
end
theorem kc{α:Type}:∀(l:List α) (i:Nat) (h:i<l.length),(l[i]::l.eraseIdx i).Perm l
 |x::l,0,_=>Yr _
 | x::l,i+1,h=>by
  simp only[List.getElem_cons_succ,List.eraseIdx_cons_succ];exact(List.Perm.swap _ _ _).trans (Y3 x (kc l i (by simpa using h)))
section
variable {prog:Program} {w:World} {A:Around} {E:Value->Shared->Prop} {s:Shared}
theorem zp{n:Nat}(hn:n≠0)(h:∀i d,i<n->Q i { s with drawn:=d }):wpAny (model prog w) A (choose src n) Q E s:=fun Γ p hΓ=>by
 show Sem.wp _ _ (Sem.choose src n Sem.pure) _ _ _ _;rw[Sem.wp];exact⟨hn,h _ _ (mod_lt _ (Nat.pos_of_ne_zero hn))⟩
theorem xN{α:Type}:∀(n:Nat) (xs:List α) (s:Shared) (Q:List α -> Shared->Prop),xs.length=n->(∀ys d,ys.Perm xs->Q ys { s with drawn:=d })->wpAny (model prog w) A (drawOrder n xs) Q E s
 | 0,xs,s,Q,hl,h=>by
  have:xs=[]:=XR hl;subst this;unfold drawOrder;exact Wv (h [] s.drawn (Yr _))
 |n+1,[],s,Q,hl,h=>by simp at hl
 | n+1,x::xs,s,Q,hl,h=>by
  unfold drawOrder;refine Wl (zp (by simp) λi d hi=>?_);have hx:(x::xs)[i]?=some ((x::xs)[i]):=WS hi;rw[hx];dsimp only;refine Wl (xN n ((x::xs).eraseIdx i) _ _ (by rw[List.length_eraseIdx,Wu hi];simp at hl |-;omega) λys d' p=>Wv ?_);exact h _ d' (((Y3 _ p).trans (kc _ i hi)))
theorem om{ep c:Nat}{ks:List Int}{i:Nat}{ps:List Nat}(hh:A.handled=none)(x:eG s.heap it (.ref td) i a es.size ep)(S:dJ prog w s.heap a o es ep t ks)
  (hT:s.heap.get? td=some oT) (PD:oT.data=.seq (ps.map λ(j:Nat)=>rawInt j).toArray c) (hlt:∀j∈ps,j<es.size)
  (hQ:∀j e,ps[i]?=some j->es[j]?=some e->∀h',eG h' it (.ref td) (i+1) a es.size ep->Heap.SameBut it s.heap h'->Q (some e.2) { s with heap:=h' })
  (hE:ps[i]?=none->∀h',Heap.ExtBut it s.heap h'->Q none { s with heap:=h' }):wpAny (model prog w) A (pyNext (.ref it)) Q E s:=by
 obtain⟨oi,Dp,QW,hdi⟩:=id x;unfold pyNext;refine Wl (wpAny_attempt (Yk (name:=Str.ofString "__next__") x.typeIs SI.slot_next (XQ SI.slot_next x.typeIs SI.entry_next ?_ (SI.args_next _))));unfold Builtin.«set_iterator.__next__»;refine Wl (Wv ?_);refine Wl (wpAny_fieldsOf Dp hdi ?_);dsimp only;refine Wl (gT S.at_ S.dat S.tab.fit ?_);rw[Wt (by simp)];refine Wl (wpAny_seqItems hT PD ?_);dsimp only;have hg:((ps.map λ(j:Nat)=>rawInt j).toArray)[((i:Nat):Int).toNat]?=(ps[i]?).map λ(j:Nat)=>rawInt j:=by simp
 rw[hg];cases hp:ps[i]? with
 |some j=>
  have hj:j<es.size:=hlt j (WM hp);simp only[map_some,rawInt];refine Wl ?_;unfold setNextDrawn;refine Wl (XD S.at_ S.dat S.tab.fit ?_);dsimp only;rw[Wt (by simp)];have Uh:es[((j:Nat):Int).toNat]?=some es[j]:=by simp[hj]
  rw[Uh];refine Wv ?_;refine Wl (X6 Dp hdi (by simp) ?_);have h2:=Xe (Obj.mapFields (·.setIfInBounds 1 (.int ((i:Int)+1) 0))) Dp (X3 (Xn hdi _));refine Wv ⟨_,rfl,Wv (hQ j _ hp (W8 hj) _ ⟨_,h2,?_,?_⟩ (Xk ..))⟩
  ·rw[YO];exact QW
  ·rw[Xn hdi];simp
 |none=>simp only[Option.map_none];refine Wl (X6 Dp hdi (by simp) ?_);have h1:=Xe (Obj.mapFields (·.setIfInBounds 0 (rawInt 0))) Dp (X3 (Xn hdi _));have d1:=Xn hdi (·.setIfInBounds 0 (rawInt 0));refine Wl (X6 h1 d1 (by simp) ?_);refine Wl ?_;simp only[newExc,newTuple];refine Wl (W2 ?_ (by size_fits));refine Wl (m:=firstArgMember _ _) (wpAny_of_eq (a:=Value.none) (by first|rfl|(simp only[firstArgMember];rfl)) ?_);refine W2 ?_ (by size_fits);simp only[raiseNew];refine Wl (wpAny_handled ?_);rw[show A.in1.handled=none from hh];refine Wl (Wv (wpAny_throw ?_));refine Wl (wpAny_isInstance (T:="StopIteration") (b:=true) ⟨_,WG _ rfl,rfl⟩ isSubtype_stop ?_);exact Wv (hE hp _ ((((Xk ..).trans (Xk ..)).extBut.push _).push _))
end
theorem qD{α:Type}(f:Nat->Nat):∀(n k:Nat) (l:List α) (out:Array α),l.length=n->(pickOrder.go f n k l out).toList.Perm (out.toList++l)
 | 0,k,l,out,h=>by
  have:l=[]:=XR h;subst this;unfold pickOrder.go;simp
 | n+1,k,l,out,h=>by
  unfold pickOrder.go;have hl:0<l.length:=by omega
  have hi:f k%l.length<l.length:=mod_lt _ hl;rw[WS hi];dsimp only;refine(qD f n (k+1) _ _ (by rw[List.length_eraseIdx,Wu hi];omega)).trans ?_;rw[Array.toList_push,List.append_assoc];exact List.Perm.append_left _ (kc l _ hi)
theorem qE{t:SetTable}{n:Nat}(h:t.fits n=true):t.place.size=n:=by
 simp only[SetTable.fits,and_eq_true,beq_iff_eq]at h;exact h.1
def PF(t:SetTable):Nat->Nat
 |0=>0
 |i+1=>t.place.getD i 0+1
theorem qF(r:qy t.place):∀i,i<=t.place.size->SetTable.below t.place (PF t i)=i
 |0,_=>vX r
 | i+1,h=>by
  have hi:i<t.place.size:=h;have e:PF t (i+1)=t.place[i]+1:=by simp[PF,Array.getD,hi]
  rw[e];exact vY r hi
section
variable {prog:Program} {w:World} {A:Around} {E:Value->Shared->Prop} {s:Shared}
theorem dJ.keep{ep:Nat}{ks:List Int}(S:dJ prog w h a o es ep t ks)(k:∀o,h.get? a=some o->h'.get? a=some o):dJ prog w h' a o es ep t ks:={ S with at_:=k o S.at_ }
theorem eG.keep{i:Nat}{n ep:Nat}(x:eG h it f i a n ep)(k:∀o,h.get? it=some o->h'.get? it=some o):eG h' it f i a n ep:=by
 obtain⟨o,ho,r⟩:=x;exact⟨o,k o ho,r⟩
def PL(L:List (Int×Value))(i:Nat)(v:Value):Prop:=∃e,L[i]?=some e/\v=e.2
theorem zq(hh:A.handled=none){ep:Nat}{ks:List Int}(hne:a≠I)(hb:pU w=false)(hp:(!t.plain&&decide (es.size>1))=false) :
  Walks prog w A I [I,a] [I] es.toList.length (PL es.toList) (λi h=>dJ prog w h a o es ep t ks/\eG h I (.int (PF t i) 0) i a es.size ep) where
 sub:=λb hb=>by simp at hb;simp[hb]
 frame:=λ_ _ _ st hk=>⟨st.1.keep λo e=>hk a (by simp) o e,st.2.keep λo e=>hk I (by simp) o e⟩
 item:=λi s Q E hi st hQ=>by
  have hi:i<es.size:=by simpa using hi
  have hz:=qE st.1.tab.fit;have hb':=qF st.1.tab.rs i (by rw[hz];exact XS hi);refine kY (r:=some (es[i].2,t.place.getD i 0+1)) hh st.2 st.1 (λA E Q q=>qB st.1 hb hp ?_) (λv nx e h' x' sb=>?_) (λe=>nomatch e)
  ·rw[hb',W8 hi,W8 (by rw[hz];exact hi)]
   have e1:t.place[i]'(by rw[hz];exact hi)=t.place.getD i 0:=by simp[Array.getD,hz,hi]
   dsimp only;rw[e1];exact q
  ·cases e;exact hQ _ h' s.toks ⟨es[i],by simp[hi],rfl⟩ ⟨st.1.keep λo e=>sb.extBut a o hne e,x'⟩ λb o hb e=>sb.extBut b o (λz=>hb (by simp[z])) e
 done:=λs Q E st hQ=>by
  have hz:=qE st.1.tab.fit;have hb':=qF st.1.tab.rs es.toList.length (by rw[hz];simp);refine kY (r:=none) hh st.2 st.1 (λA E Q q=>qB st.1 hb hp ?_) (λv nx e=>nomatch e) (λ_ h' sb=>hQ h' s.toks λb o hb e=>sb b o (λz=>hb (by simp[z])) e);rw[hb',Array.getElem?_eq_none (by simp)];exact q
 self:=λ_ _ _ _ st hQ=>l0 st.2 hQ
theorem zu(hh:A.handled=none){ep:Nat}{ks:List Int}(hne:a≠I)(hb:pU w=true) :
  Walks prog w A I [I,a] [I] (pickOrder (w.params.setOrder a ep) es).toList.length (PL (pickOrder (w.params.setOrder a ep) es).toList) (λi h=>dJ prog w h a o es ep t ks/\eG h I (.int (0:Nat) 0) i a es.size ep) where
 sub:=λb hb=>by simp at hb;simp[hb]
 frame:=λ_ _ _ st hk=>⟨st.1.keep λo e=>hk a (by simp) o e,st.2.keep λo e=>hk I (by simp) o e⟩
 item:=λi s Q E hi st hQ=>by
  have hi:i<(pickOrder (w.params.setOrder a ep) es).size:=by simpa using hi
  refine kY (r:=some ((pickOrder (w.params.setOrder a ep) es)[i].2,0)) hh st.2 st.1 (λA E Q q=>qC st.1 hb ?_) (λv nx e h' x' sb=>?_) (λe=>nomatch e)
  ·rw[W8 hi];exact q
  ·cases e;exact hQ _ h' s.toks ⟨(pickOrder (w.params.setOrder a ep) es)[i],by simp[hi],rfl⟩ ⟨st.1.keep λo e=>sb.extBut a o hne e,x'⟩ λb o hb e=>sb.extBut b o (λz=>hb (by simp[z])) e
 done:=λs Q E st hQ=>by
  refine kY (r:=none) hh st.2 st.1 (λA E Q q=>qC st.1 hb ?_) (λv nx e=>nomatch e) (λ_ h' sb=>hQ h' s.toks λb o hb e=>sb b o (λz=>hb (by simp[z])) e);rw[Array.getElem?_eq_none (by simp)];exact q
 self:=λ_ _ _ _ st hQ=>l0 st.2 hQ
theorem v7(hh:A.handled=none){ep c:Nat}{ks:List Int}{ps:List Nat}(hne:a≠I)(hnt:td≠I)(hlt:∀j∈ps,j<es.size)(PD:oT.data=.seq (ps.map λ(j:Nat)=>rawInt j).toArray c) :
  Walks prog w A I [I,a,td] [I] ps.length (PL (ps.map λj=>es.getD j (0,.none))) (λi h=>dJ prog w h a o es ep t ks/\eG h I (.ref td) i a es.size ep/\h.get? td=some oT) where
 sub:=λb hb=>by simp at hb;simp[hb]
 frame:=λ_ _ _ st hk=>⟨st.1.keep λo e=>hk a (by simp) o e,st.2.1.keep λo e=>hk I (by simp) o e,hk td (by simp) _ st.2.2⟩
 item:=λi s Q E hi st hQ=>by
  refine om hh st.2.1 st.1 st.2.2 PD hlt (λj e hj he h' x' sb=>?_) (λhn=>absurd hn (by rw[WS hi];simp));refine hQ _ h' s.toks ⟨e,?_,rfl⟩ ⟨st.1.keep λo e=>sb.extBut a o hne e,x',sb.extBut td _ hnt st.2.2⟩ λb o hb e=>sb.extBut b o (λz=>hb (by simp[z])) e;rw[WO,hj];have hjl:j<es.size:=(Array.getElem?_eq_some_iff.mp he).1;have:=(Array.getElem?_eq_some_iff.mp he).2;simp[Array.getD,hjl,this]
 done:=λs Q E st hQ=>om hh st.2.1 st.1 st.2.2 PD hlt (λj e hj=>absurd hj (by simp)) (λ_ h' sb=>hQ h' s.toks λb o hb e=>sb b o (λz=>hb (by simp[z])) e)
 self:=λ_ _ _ _ st hQ=>l0 st.2.1 hQ
end
section
variable {prog:Program} {w:World} {A:Around} {E:Value->Shared->Prop} {s:Shared}
theorem Bh{ep:Nat}{ks:List Int}(S:dJ prog w s.heap a o es ep t ks)(h:Q (!pU w&&(!t.plain&&decide (es.size>1))) s):wpAny (model prog w) A (setDrawn a) Q E s:=by
 unfold setDrawn;refine Wl (XD S.at_ S.dat S.tab.fit ?_);dsimp only;exact Wl (jL (Wv h))
theorem t6{ep:Nat}{ks:List Int}(S:dJ prog w s.heap a o es ep t ks)(h:Q ep s):wpAny (model prog w) A (setEpoch a) Q E s:=wpAny_setEpoch_of S.at_ S.dat S.tab.fit h
theorem Bj(hh:A.handled=none){ep:Nat}{ks:List Int}(S:dJ prog w s.heap a o es ep t ks)
  (hQ:∀(h':Heap) d (I:Addr) (fp:List Addr) (L:List (Int×Value)) (St:Nat->Heap->Prop),L.Perm es.toList->Walks prog w A I fp [I] L.length (PL L) St->St 0 h'->s.heap.objs.size<=I->I<h'.objs.size->(∀b∈fp,b=a\/s.heap.objs.size<=b)->(∀b o,s.heap.get? b=some o->h'.get? b=some o)->Q (.ref I) { s with heap:=h',drawn:=d }) :
  wpAny (model prog w) A (pyIter (.ref a)) Q E s:=by
 have hT:s.TypeIs (.ref a) "set":=⟨o,S.at_,S.ex.1⟩;have hlt:a<s.heap.objs.size:=WB S.at_;refine wpAny_pyIter_slot hT PySem.F.slot_set_iter (XQ PySem.F.slot_set_iter hT SI.v5 ?_ (PySem.F.args_set_iter_1 _));unfold Builtin.«frozenset.__iter__» Builtin.Frozenset.slot0 Builtin.Frozenset.sizeOf;refine Wl (Wl (Wv (Wv ?_)));refine Wl (Wl (gT S.at_ S.dat S.tab.fit (Wv ?_)));refine Wl (Bh S ?_);cases hd:(!pU w&&(!t.plain&&decide (es.size>1))) with
 |false=>
  simp only[false_eq_true,↓reduceIte];refine Wl (Wv ?_);refine Wl (t6 S ?_);refine Wl (W2 (Wv ⟨_,rfl,"set_iterator",_,⟨_,WG _ rfl,rfl⟩,SI.slot_next.lookup,?_⟩));have e:s={ s with drawn:=s.drawn }:=by cases s;rfl
  have R5:∀b∈[s.heap.objs.size,a],b=a\/s.heap.objs.size<=b:=λb hb=>by
   simp only[mem_cons,not_mem_nil,or_false]at hb
   rcases hb with rfl|rfl
   ·exact .inr (Wy _)
   ·exact .inl rfl
  have sz:s.heap.objs.size<(s.heap.push { cls:=.type "set_iterator",data:=.fields ([rawInt 0,rawInt 0,.ref a,rawInt es.size,rawInt ep]:List Value).toArray }).objs.size:=by rw[Xl];exact Xa _
  cases hb:pU w with
  |true=>exact hQ _ s.drawn _ _ _ _ (qD _ _ 0 es.toList #[] (by simp)) (zu hh (WJ hlt) hb) ⟨S.keep λo e=>Wq _ e,⟨_,WG _ rfl,rfl,rfl⟩⟩ (Wy _) sz R5 λb o e=>Wq _ e
  |false=>rw[hb]at hd;exact hQ _ s.drawn _ _ _ _ (Yr _) (zq hh (WJ hlt) hb (by simpa using hd)) ⟨S.keep λo e=>Wq _ e,⟨_,WG _ rfl,rfl,rfl⟩⟩ (Wy _) sz R5 λb o e=>Wq _ e
 |true=>
  simp only[↓reduceIte];refine Wl (xN es.size (List.range es.size) s _ (by simp) λps d pp=>?_);refine Wl ?_;simp only[newTuple];refine W2 ?_ (by show (toArray _).size<=sizeLine;rw[WA,Wr,pp.length_eq,YN];exact Ys S.tab.few);have S1:dJ prog w (s.heap.push { cls:=.type "tuple",data:=.seq (ps.map λ(i:Nat)=>rawInt i).toArray }) a o es ep t ks:=S.keep λo e=>Wq _ e;refine Wl (t6 S1 ?_);refine Wl (W2 (Wv ⟨_,rfl,"set_iterator",_,⟨_,WG _ rfl,rfl⟩,SI.slot_next.lookup,?_⟩));have hpl:∀j∈ps,j<es.size:=λj hj=>by simpa using pp.mem_iff.mp hj
  have perm:(ps.map λj=>es.getD j (0,Value.none)).Perm es.toList:=by
   have e2:(List.range es.size).map (λj=>es.getD j (0,Value.none))=es.toList:=by
    apply YB
    ·simp
    ·intro i h1 h2
     have hi:i<es.size:=by simpa using h2
     simp[Array.getD,hi]
   rw[<-e2];exact pp.map _
  have z1:(s.heap.push { cls:=.type "tuple",data:=.seq (ps.map λ(i:Nat)=>rawInt i).toArray }).objs.size=s.heap.objs.size+1:=Xl _ _;have W:=v7 (prog:=prog) (w:=w) (A:=A) (o:=o) (ep:=ep) (t:=t) (ks:=ks) hh (I:=s.heap.objs.size+1) (a:=a) (td:=s.heap.objs.size) (oT:={ cls:=.type "tuple",data:=.seq (ps.map λ(i:Nat)=>rawInt i).toArray }) (es:=es) (c:=0) (ps:=ps) (WJ (XC hlt)) (WJ (Xa _)) hpl rfl;rw[show ps.length=(ps.map λj=>es.getD j (0,Value.none)).length by simp] at W;rw[z1];refine hQ _ d _ _ _ _ perm W ⟨S1.keep λo e=>Wq _ e,⟨{ cls:=.type "set_iterator",data:=.fields ([.ref s.heap.objs.size,rawInt 0,.ref a,rawInt es.size,rawInt ep]:List Value).toArray },?_,rfl,rfl⟩,Wq _ (WG _ rfl)⟩ (Xo _) ?_ ?_ λb o e=>Wq _ (Wq _ e)
  ·rw[<-z1];exact WG _ rfl
  ·rw[Xl,z1];exact Xa _
  ·intro b hb
   simp only[mem_cons,not_mem_nil,or_false]at hb
   rcases hb with rfl|rfl|rfl
   ·exact .inr (Xo _)
   ·exact .inl rfl
   ·exact .inr (Wy _)
end
section
variable {prog:Program} {w:World} {A:Around} {E:Value->Shared->Prop} {s:Shared}
theorem Bk(hT:s.TypeIs (.ref r) "set")(h:Q false s):wpAny (model prog w) A (Builtin.List.listLengthHint (.ref r)) Q E s:=by
 unfold Builtin.List.listLengthHint;refine Wl (wpAny_specialOf hT PySem.F.slot_set_len.lookup ?_);generalize hid:("set.__len__":String)=Ui
 wp_delta
 rw[show splitId Ui=some ("set","__len__") from by subst hid;decide +kernel];subst hid;refine Wl (wpAny_isInstance (T:="set") (b:=true) hT sub_set_self ?_);refine wpAny_ite_split (λz=>absurd z (by decide)) (λ_=>?_);refine wpAny_ite_split (λ_=>?_) (λz=>absurd (by decide +kernel) z);exact Wl (wpAny_typeOf hT (Wv h))
theorem t7(hh:A.handled=none){ep:Nat}{ks:List Int}(S:dJ prog w s.heap a o es ep t ks)
  (h:∀(h':Heap) (tk:Nat) d (L:List (Int×Value)),(∀b o,s.heap.get? b=some o->h'.get? b=some o)->s.heap.objs.size<h'.objs.size->L.Perm es.toList->R (L.map (·.2)) { s with heap:=h',toks:=tk,drawn:=d }) :
  wpAny (model prog w) A (collect (.ref a)) R E s:=by
 have hlt:a<s.heap.objs.size:=WB S.at_;unfold collect;refine Wl (wpAny_runValue (XY entry_proto_collect' ?_));rw[XO PySem.F.plain_proto_collect _];show wpAny _ A.in1 (newList [] >>= λl=>again (.builtin "list.__iadd__" ⟨[l,.ref a],[]⟩)) _ _ s;refine Wl (W2 ?_);refine Wv ⟨YC PySem.F.plain_list_iadd _,XY entry_list_iadd' ?_⟩;rw[XO PySem.F.plain_list_iadd _]
 let s1:Shared:={ s with heap:=s.heap.push { cls:=.type "list",data:=.seq ([]:List Value).toArray } }
 have l1:s1.heap.get? s.heap.objs.size=some { cls:=.type "list",data:=.seq #[] }:=WG _ rfl;have S1:dJ prog w s1.heap a o es ep t ks:=S.keep λo e=>Wq _ e;have z1:s1.heap.objs.size=s.heap.objs.size+1:=Xl _ _;have hT:s1.TypeIs (.ref a) "set":=⟨o,S1.at_,S1.ex.1⟩;show wpAny _ A.in1 (Builtin.List.listExtendWith (.ref s.heap.objs.size) (.ref a) (.ref s.heap.objs.size)) _ _ s1;unfold Builtin.List.listExtendWith;refine Wl (wpAny_typeOf hT ?_);have n1:Builtin.List.listSameRef (.ref s.heap.objs.size) (.ref a)=false:=by simp[Builtin.List.listSameRef,Nat.ne_of_gt hlt]
 simp only[n1,show (Value.type "set" == Value.type "list")=false by decide,show (Value.type "set" == Value.type "tuple")=false by decide,Bool.or_false,false_eq_true,if_false];refine Wl (Bj (A:=A.in1) (by simp[hh]) S1 λh2 d I fp L St perm W st zI Wb hfp k2=>?_);have l2:h2.get? s.heap.objs.size=some { cls:=.type "list",data:=.seq #[] }:=k2 _ _ l1;have nfp:s.heap.objs.size∉fp:=λz=>by
  rcases hfp _ z with e|e
  ·exact absurd e (X7 hlt)
  ·rw[z1]at e;exact absurd e (Nat.not_succ_le_self _)
 have hl:L.length<=sizeLine:=by rw[perm.length_eq,WY];exact Ys S.tab.few
 have key:∀(hp:Heap) (c₁:Nat) (Rr:Result->Shared->Prop),St 0 hp->(∀b o,b≠s.heap.objs.size->h2.get? b=some o->hp.get? b=some o)->hp.get? s.heap.objs.size=some { cls:=.type "list",data:=.seq #[] c₁ } ->
   (∀(s':Shared) (acc:Array Value) (c:Nat),s'.heap.get? s.heap.objs.size=some { cls:=.type "list",dict:=none,data:=.seq acc c,slots:=#[] }->R acc.toList s'->Rr (.ok (.ret (.ref s.heap.objs.size))) s') ->
   codeAny (model prog w) A (.builtin "list.extend.loop" ⟨[.ref s.heap.objs.size,.ref I,.ref s.heap.objs.size],[]⟩) Rr { s1 with heap:=hp,drawn:=d }:=by
  intro hp c₁ Rr hst hk hS hR;refine codeAny_extend_loopS W.toS hl s.heap.objs.size nfp (.ref s.heap.objs.size) L.length 0 _ #[] c₁ rfl (Xz _) hst hS (ItemsOf.nil _) λs' acc c hm hS' hacc=>?_;refine hR s' acc c hS' ?_;have ea:acc.toList=L.map (·.2):=by
   apply YB
   ·rw[WY,hacc.1,Wr]
   ·intro j h1 h2
    have hj:j<acc.size:=by simpa using h1
    obtain⟨e,he,hv⟩:=hacc.2 j acc[j] (W8 hj);rw[Array.getElem_toList,hv,Xb];obtain⟨hj2,e2⟩:=Wo.mp he;rw[e2]
  rw[ea,Moved.eq_with hm];refine h s'.heap s'.toks d L (λb o e=>?_) (WB hS') perm;have hb:b<s.heap.objs.size:=WB e;refine hm.heap b o (λz=>?_) (hk b o (WJ hb) (k2 b o (Wq _ e)))
  rcases WH.mp z with z|z
  ·exact absurd z (WJ hb)
  ·rw[WD]at z;rw[z]at hb;rw[z1]at zI;exact absurd (WC hb (Nat.le_of_succ_le zI)) (Xp _)
 have fin:∀(s':Shared) (acc:Array Value) (c:Nat),s'.heap.get? s.heap.objs.size=some { cls:=.type "list",dict:=none,data:=.seq acc c,slots:=#[] }->R acc.toList s'->wpAny (model prog w) A (load s.heap.objs.size >>= λob=>(match ob.data with|.seq xs _=>pure xs.toList|_=>unsupported "internal:collect")) R E s':=λs' acc c e q=>Wl (wpAny_load e (Wv q));refine Wl (Xx (Bk ⟨o,k2 _ _ S1.at_,S1.ex.1⟩ ?_));refine wpAny_ite_split (λ_=>?_) (λ_=>Wv ⟨YC PySem.F.plain_extend_loop _,key _ 0 _ st (λb o _ e=>e) l2 fin⟩);refine Wl (wpAny_rule ?_);refine Wl ?_;show wpAny _ _ (updateSeq s.heap.objs.size (·.push .none) >>= λ_=>updateSeq s.heap.objs.size (·.pop)) _ _ _;refine Wl (wpAny_updateSeq l2 rfl ?_);have l3:=Xe (Obj.mapSeq (·.push Value.none)) l2 rfl;refine wpAny_updateSeq (hz:=by seq_fits) l3 rfl ?_;have l4:=Xe (Obj.mapSeq (·.pop)) l3 rfl;have oth:∀b o,b≠s.heap.objs.size->h2.get? b=some o->((h2.update s.heap.objs.size (Obj.mapSeq (·.push Value.none))).update s.heap.objs.size (Obj.mapSeq (·.pop))).get? b=some o:=λb o hb e=>(XU _ _ (Ne.symm hb)).trans ((XU _ _ (Ne.symm hb)).trans e);exact Wv ⟨YC PySem.F.plain_extend_loop _,key _ _ _ (W.frame 0 _ _ st λb hb o e=>oth b o (λz=>nfp (z▸hb)) e) oth l4 fin⟩
end
theorem t8:∀(ks ns:List Int),ks.Nodup->(∀k∈ks,k∈ns)->ks.length=ns.length->ks.Perm ns
 | [],ns,_,_,h=>by
  have:ns=[]:=XR h.symm;subst this;exact Yr _
 | k::ks,ns,nd,hs,hl=>by
  have hk:=hs k Wx;have R6:=W6.mp nd;have p:=List.perm_cons_erase hk;refine(Y3 k (t8 ks (ns.erase k) R6.2 (λx hx=>?_) ?_)).trans p.symm
  ·exact(List.mem_erase_of_ne λz=>R6.1 (by rw[<-z];exact hx)).mpr (hs x (Ww _ hx))
  ·rw[List.length_erase_of_mem hk];simp only[length_cons]at hl;omega
def t9:Value->Int
 |.int i _=>i
 |_=>0
section
variable {prog:Program} {w:World} {A:Around} {E:Value->Shared->Prop} {s:Shared}
theorem oq:∀{L:List (Int×Value)},ElemsOf (intKind prog w) L->IntsAre (L.map (·.2)) (L.map λe=>t9 e.2)
 |[],_=>.nil
 | (h,v)::L,el=>by
  obtain⟨⟨k,hk,_⟩,_⟩:=el _ Wx;obtain⟨t,e⟩:=YL (k:=k) (v:=v) hk;subst e;exact .cons k t (oq λx hx=>el x (Ww _ hx))
theorem Bm{h:Heap}{a:Addr}{o:Obj}{es:Array (Int×Value)}{ep:Nat}{t:SetTable}{ks:List Int}(S:dJ prog w h a o es ep t ks){L:List (Int×Value)}(p:L.Perm es.toList):(L.map λe=>t9 e.2).Perm ks:=by
 refine(t8 ks _ S.RZ (λk hk=>?_) ?_).symm
 ·obtain⟨e,he,q⟩:=(S.mem k).mp hk;obtain⟨t',ev⟩:=YL (k:=k) (v:=e.2) q;exact Xm.mpr ⟨e,p.mem_iff.mpr he,by rw[ev];rfl⟩
 ·have:=S.num;rw[Wr,p.length_eq,WY];exact this.symm
theorem v8(hh:A.handled=none){ep:Nat}{ks:List Int}(S:dJ prog w s.heap a o es ep t ks)(h64:ks.length<64)
  (hQ:∀(h':Heap) (tk:Nat) d (D:Addr) (out:List Value) (e:Nat),(∀b o,s.heap.get? b=some o->h'.get? b=some o)->s.heap.objs.size<=D->h'.get? D=some (seqObj "list" out.toArray e)->IntsAre out (sortI ks)->Q (.ref D) { s with heap:=h',toks:=tk,drawn:=d }) :
  wpAny (model prog w) A (call (.builtin "sorted") [.ref a]) Q E s:=by
 refine rQ.je (O:=rQ.vR) (t7 (A:=A.in1) (by simp[hh]) S λh' tk d L hk hz perm=>?_);have el:ElemsOf (intKind prog w) L:=S.el.perm perm;have hI:=oq el;have pk:=Bm S perm;have hl:(L.map (·.2)).length<64:=by rw[Wr];have:=pk.length_eq;rw[Wr]at this;omega
 refine⟨hl,λi=>(L.map λe=>t9 e.2).getD i 0,λh2 h6 _=>rQ.vS hI h2,λp h'' outs k2 he=>?_⟩;obtain⟨e,he⟩:=he;have lv:(L.map (·.2)).length=(L.map λe=>t9 e.2).length:=by rw[Wr,Wr]
 have mem:∀i∈p,i<L.length:=λi hi=>by have:=outs.perm.mem_iff.mp hi;simpa using this
 have pn:(p.map λi=>(L.map λe=>t9 e.2).getD i 0).Perm ks:=by have:=outs.perm.map λi=>(L.map λe=>t9 e.2).getD i 0;rw[lv,rQ.gf]at this;exact this.trans pk
 have up:(p.map λi=>(L.map λe=>t9 e.2).getD i 0).Pairwise (· <= ·):=by refine List.Pairwise.imp (R:=rQ.vR.kle) (λ{x y:Int} hxy=>?_) outs.up;have hxy:(decide (y<x):Bool)=false:=hxy;exact Int.not_lt.mp (of_decide_eq_false hxy)
 have es:=eq_sortI pn up;refine hQ h'' tk d h'.objs.size _ e (λb o z=>k2 b o (hk b o z)) (XS hz) he ?_;rw[<-es];clear he es up pn outs
 induction p with
 |nil=>exact .nil
 |cons i r ih=>
  have hi:=mem i Wx;have hi2:i<(L.map (·.2)).length:=by simpa using hi
  obtain⟨t',ev⟩:=IntsAre.int_at hI i _ (WS hi2);rw[WI,WI];have e1:(L.map (·.2)).getD i Value.none=.int ((L.map λe=>t9 e.2).getD i 0) t':=by rw[<-ev];simp[List.getD,List.getElem?_eq_getElem hi]
  rw[e1];exact .cons _ t' (ih λj hj=>mem j (Ww _ hj))
end
end L2
end
section
namespace L2
open PySem PySem.Spec PyProof.Rows
section
variable {X:Cx}
theorem Inv.draws(I:Inv X pins σ H s)(d:Drawn):Inv X pins σ H { s with drawn:=d }:=⟨I.ok,I.os,I.bare,I.base,I.loc,I.cell,I.free,I.iU,I.pin,I.hok,I.len⟩
def Uj(K:Frag)(te:TE):TE:=λσ H Q=>te σ H λx H1=>∃p ns,x=.ref p/\gR K H1 p (ns.map V.int)/\ns.length<64/\∀l,H1 l=none->Q (.ref l) (upd H1 l (.lst ((sortI (gS [] ns)).map V.int)))
theorem ua:∀(ns ks:List Int),(gS ks ns).length<=ks.length+ns.length
 |[],ks=>by simp[gS]
 | n::ns,ks=>by
  rw[gS,W7];have:=ua ns (bS ks n);have:=oh ks n;omega
theorem Ea{p1 p2 pos1 pos2:Pos}(hh:X.A.handled=none)(hg:Gl X "sorted")(hm:X.mg "sorted" = none)(Uk:Gl X "set")(hm2:X.mg "set" = none)(hv:bootBuiltins "sorted" = some (.builtin "sorted"))(hv2:bootBuiltins "set" = some (.type "set"))(he:PE X e te)
  (hs:starEach [e] X.env=[(false,eval e X.env)]):PE X (.Call (.Name "sorted" p1) [.Call (.Name "set" p2) [e] [] pos2] [] pos1) (Uj X.K te):=by
 intro pins s σ H Q I h;refine W9 (gQ I hg hm hv ?_ (by decide) (by decide));refine PyProof.Rows.callWith_builtin1 ?_ rfl rfl;show wpAny _ _ (spliced [(false,eval (.Call (.Name "set" p2) [e] [] pos2) X.env)]) _ _ s;refine Xg ?_;refine W9 (gQ I Uk hm2 hv2 ?_ (by decide) (by decide));refine W5 ?_ hs rfl;show wpAny _ _ (spliced (backTo pos2 (starEach [e] X.env))) _ _ s;rw[hs];show wpAny _ _ (spliced [(false,eval e X.env)]) _ _ s;refine Xg (cH (he pins s σ H _ I h) λu s1 ⟨x,H1,I1,r1,p,ns,ex,hq,h64,q⟩=>XA ?_);subst ex;cases r1;obtain⟨its,rv,pl,hz⟩:=I1.list hq;have hi:=intsAre_of rv;have hl:=hi.length;refine tZ hh pl.isList (by simpa using hi) (by show its.toArray.size+1<4096;rw[WA,hl];omega) λh2 tk S k2=>?_;obtain⟨o,es,ep,t,S⟩:=S;refine XA ?_;have hk:=ua ns [];have QX:(gS [] ns).length<64:=by simp at hk;omega
 refine v8 (s:={ s1 with heap:=h2,toks:=tk }) hh S QX λh3 Ul d D out e k3 zD eD hout=>?_;have hD:s1.heap.objs.size<=D:=WZ (XS (WB S.at_)) zD;have hn:H1 D=none:=I1.hok.fresh hD;refine⟨.ref D,_,(I1.draws d).laid (t':=Ul) (λb o z=>k3 b o (k2 b o (WB z) z)) hD (show cg X.prog X.w _ _ _ (.lst ((sortI (gS [] ns)).map V.int)) from⟨?_,out,e,jI hout,eD⟩),rfl,q _ hn⟩;rw[Wr,(XX _).length_eq,Xy];omega
end
end L2
end
section
namespace L2
open PySem PySem.Spec PyProof.Rows PySem.W
section
variable {X:Cx}
def tLK(to:TE):TE:=λσ H Q=>to σ H λx H1=>∃a kvs,x=.ref a/\H1 a=some (.dK kvs)/\∀l,H1 l=none->Q (.ref l) (upd H1 l (.lst (kvs.map λkv=>kV kv.1)))
theorem IL(e:(aV P w).is k u=true):RelV (kV k) u:=by
 rw[vt]at e
 rcases bN e with ⟨i,t,rfl,rfl⟩|⟨x,t,rfl,rfl⟩
 ·exact⟨t,rfl⟩
 ·exact⟨t,rfl⟩
theorem l5:∀{kvs:List (Key×V)} {vs:List (Key×Value)} {out:List Value},KV kvs vs->out.length=vs.length->(∀(j:Nat) (v:Value),out[j]?=some v->∃(k:Key) (x:Value),vs[j]?=some (k,x)/\(aV P w).is k v=true)->Vals (kvs.map λkv=>kV kv.1) out
 | [],vs,out,r,hl,h=>by
  cases r;cases out with
  |nil=>exact .nil
  |cons _ _=>simp at hl
 | p::kvs,vs,out,r,hl,h=>by
  cases r with
  |@cons _ q _ qs hq t=>
   cases out with
   |nil=>simp at hl
   |cons v out=>
    obtain⟨k,x,e1,e2⟩:=h 0 v rfl;simp at e1;refine .cons ?_ (l5 t (by simpa using hl) λj u hu=>h (j+1) u hu);have:p.1=k:=by rw[hq.1,e1]
    show RelV (kV p.1) v;rw[this];exact IL e2
theorem Bo(hh:X.A.handled=none)(hg:Gl X "list")(hm:X.mg "list" = none)(hv:bootBuiltins "list" = some (.type "list"))(ho:PE X o to)
  (hbase:attributeBase o "keys" X.env (eval o X.env)=eval o X.env) (hline:(ap.endLine==cp.line)=true):PE X (.Call (.Name "list" p) [.Call (.Attribute o "keys" ap) [] [] cp] [] pos) (tLK to):=by
 intro pins s σ H Q I h;refine W9 (gQ I hg hm hv ?_ (by decide) (by decide));refine W5 ?_ rfl rfl;show wpAny _ _ (spliced [(false,eval (.Call (.Attribute o "keys" ap) [] [] cp) X.env)]) _ _ s;refine Xg ?_;refine wpAny_Call_method0_late hbase hline (cH (ho pins s σ H _ I h) λu s1 aL=>?_);obtain⟨x,H1,I1,r1,a,kvs,ex,ea,q⟩:=aL;subst ex;cases r1;obtain⟨t1,t2,hd⟩:=rM I1 (.inl ⟨kvs,.inl ea⟩);obtain⟨hz,_,vs,rel,dd⟩:=tM I1.hok ea;refine⟨"dict","dict.keys",Yl,PySem.F.slot_dict_keys,PySem.F.type_dict_keys,t1,t2,XW rfl (PySem.evalArgs_none ?_)⟩;refine YV PySem.F.slot_dict_keys dd.typeIs PySem.F.entry_dict_keys (PySem.F.args_dict_keys_1 _) (kdl_meets_keys (aV X.prog X.w) a hd) ⟨⟨vs,dd⟩,?_⟩;refine XA ?_;obtain⟨ep,da⟩:=dd.dictAt;have hlen:=rel.length;refine kdl_call (kdl_keys (knd:=aV X.prog X.w) (kvs:=vs) (ep:=ep) (d:=a) (r:=s1.heap.objs.size)) hh ⟨⟨_,WG _ rfl,rfl,rfl⟩,da.push _⟩ (by rw[<-hlen];exact hz) λh' tk acc c k2 eD hacc=>?_;have hD:s1.heap.objs.size<=(s1.heap.push { cls:=.type "dict_keys",data:=.fields [.ref a].toArray }).objs.size:=by rw[Xl];exact Xo _
 have hn:H1 (s1.heap.push { cls:=.type "dict_keys",data:=.fields [.ref a].toArray }).objs.size=none:=I1.hok.fresh hD;refine⟨.ref _,_,I1.laid (t':=tk) (λb o z=>k2 b o (Wq _ z)) hD (show cg X.prog X.w _ _ _ (.lst (kvs.map λkv=>kV kv.1)) from⟨?_,acc.toList,c,?_,?_⟩),rfl,q _ hn⟩
 ·rw[Wr];exact hz
 ·exact l5 (P:=X.prog) (w:=X.w) rel (by rw[WY];exact hacc.1) λj v e=>hacc.2 j v (by rw[<-Yx];exact e)
 ·first|(rw[Array.toArray_toList];exact eD)|simpa using eD
end
section
variable {X:Cx} {pins:List (Addr×Obj)} {σ:St} {H:Hp} {s:Shared} {a:Addr} {kvs:List (Key×V)} {k:Key} {u r:Value} {z:V} {A:Around} {E:Value->Shared->Prop}
theorem IM(I:Inv X pins σ H s)(e:H a=some (.dK kvs))(ry:RelV (kV k) u)(rz:RelV z r)(hl:kvs.length<sizeLine)
  (h1:∀v w' s',eF kvs k=some v->Inv X pins σ H s'->RelV v w'->Q w' s') (h2:eF kvs k=none->∀s',Inv X pins σ (upd H a (.dK (putK kvs k z))) s'->Q r s') :
  wpAny (model X.prog X.w) A (call (.builtin "dict.setdefault") [.ref a,u,r]) Q E s:=by
 obtain⟨hz,hd,vs,rel,dd⟩:=tM I.hok e;refine YV PySem.F.slot_dict_setdefault dd.typeIs PySem.F.entry_dict_setdefault (PySem.F.args_dict_setdefault_3 _ _ _) (kt_meets_setdefault (aV X.prog X.w) a (qk ry) hd r)
  ⟨vs,dd,by rw[<-rel.length];exact hz,λw' hw=>?_,λhn h' Dl hs=>?_⟩
 ·cases l:eF kvs k with
  |none=>have:=ja.none_of (by rw[<-l];exact rel.val k:ja none (valueAt vs k));rw[this]at hw;cases hw
  |some v=>obtain⟨w2,MV,Um⟩:=ja.some_of (v:=v) (o:=valueAt vs k) (by rw[<-l];exact rel.val k);rw[hw] at MV;cases MV;exact h1 v w' _ l (I.tok _) Um
 ·have l:eF kvs k=none:=by
   cases l:eF kvs k with
   |none=>rfl
   |some v=>obtain⟨w2,MV,_⟩:=ja.some_of (v:=v) (o:=valueAt vs k) (by rw[<-l];exact rel.val k);rw[hn] at MV;cases MV
  have he:∃q,h'.get? a=some q:=let ⟨q,_,_,hq,_⟩:=Dl;⟨q,hq⟩
  have hp:(putK kvs k z).length<=sizeLine:=by have:=gB kvs k z;omega
  exact h2 l _ (nJ I (by rw[e];exact XI) hs he (vM hp hd (rel.put k rz) Dl))
end
def MW(td ty tx:TE):TE:=λσ H Q=>td σ H λx H1=>∃a,x=.ref a/\QB H1 a/\ty σ H1 λy H2=>tx σ H2 λz H3=>∃kvs k,H3 a=some (.dK kvs)/\y=kV k/\kvs.length<sizeLine /\
 (∀v,eF kvs k=some v->Q v H3)/\(eF kvs k=none->Q z (upd H3 a (.dK (putK kvs k z))))
theorem Eb(ho:PE X o td)(he:PE X e ty)(hf:PE X f tx)(m:M2 X o "setdefault" apos e f cpos):PE X (.Call (.Attribute o "setdefault" apos) [e,f] [] cpos) (MW td ty tx):=by
 intro pins s σ H Q I h;refine wpAny_Call_method m.base m.few m.line Yl PySem.F.slot_dict_setdefault PySem.F.type_dict_setdefault (cH (ho pins s σ H _ I h) λu s1 aL=>?_);obtain⟨x,H1,I1,rx,a,ex,d,q1⟩:=aL;subst ex;obtain rfl:u=Value.ref a:=rx;obtain⟨t1,t2,_⟩:=rM I1 d;refine⟨t1,t2,?_⟩;rw[m.trees];refine XW rfl (YD (Xg (cH (he pins s1 σ H1 _ I1 q1) λiv s2 ⟨y,H2,I2,ry,q2⟩=>
  Xg (cH (hf pins s2 σ H2 _ I2 q2) λfv s3 ⟨z,H3,I3,rz,kvs,k,ea,ey,hl,q3,q4⟩=>XA ?_))))
 subst ey;exact IM I3 ea ry rz hl (λv w' s4 l I4 rv=>⟨v,H3,I4,rv,q3 v l⟩) λl s4 I4=>⟨z,_,I4,rz,q4 l⟩
end L2
end
section
namespace L2
open PySem PySem.Spec PyProof.Rows
end L2
end
section
namespace L2
open PySem PySem.Spec PyProof.Rows PySem.W
end L2
end
section
namespace L2
open PySem PySem.Spec PyProof.Rows
section
variable {X:Cx}
theorem IP:lT X (compareOp .Is) (λx y H Q=>∃b c,x=.bl b/\y=.bl c/\Q (.bl (b==c)) H):=by
 intro pins s σ H x y v u Q I rx ry h;obtain⟨b,c,rfl,rfl,q⟩:=h;cases rx;cases ry;refine wpAny_is_plain rfl (rA I q ?_);cases b<;>cases c<;>rfl
theorem Ec:lT X (compareOp .IsNot) (λx y H Q=>∃b c,x=.bl b/\y=.bl c/\Q (.bl (!(b==c))) H):=by
 intro pins s σ H x y v u Q I rx ry h;obtain⟨b,c,rfl,rfl,q⟩:=h;cases rx;cases ry;refine wpAny_isNot_plain rfl (rA I q ?_);cases b<;>cases c<;>rfl
end
end L2
end
section
namespace L2
open PySem PySem.Spec PyProof.Rows PySem.W
section
variable {X:Cx}
theorem zv(hh:X.A.handled=none)(hst:starEach [o] X.env=[(false,eval o X.env)])(hg:Gl X "list")(hm:X.mg "list" = none)(hv:bootBuiltins "list" = some (.type "list"))(ho:PE X o to):PE X (.Call (.Name "list" p) [o] [] pos) (tLK to):=by
 intro pins s σ H Q I h;refine W9 (gQ I hg hm hv ?_ (by decide) (by decide));refine W5 ?_ hst rfl;rw[hst];show wpAny _ _ (spliced [(false,eval o X.env)]) _ _ s;refine Xg ?_;refine cH (ho pins s σ H _ I h) λu s1 aL=>?_;obtain⟨x,H1,I1,r1,a,kvs,ex,ea,q⟩:=aL;subst ex;cases r1;obtain⟨t1,t2,hd⟩:=rM I1 (.inl ⟨kvs,.inl ea⟩);obtain⟨hz,_,vs,rel,dd⟩:=tM I1.hok ea;refine XA ?_;obtain⟨ep,da⟩:=dd.dictAt;have hlen:=rel.length;refine kdl_call (kdl_dict (knd:=aV X.prog X.w) (kvs:=vs) (ep:=ep) (d:=a) hd) hh da (by rw[<-hlen];exact hz) λh' tk acc c k2 eD hacc=>?_;have hn:H1 s1.heap.objs.size=none:=I1.hok.fresh (Wy _);refine⟨.ref _,_,I1.laid (t':=tk) (λb o z=>k2 b o z) (Wy _) (show cg X.prog X.w _ _ _ (.lst (kvs.map λkv=>kV kv.1)) from⟨?_,acc.toList,c,?_,?_⟩),rfl,q _ hn⟩
 ·rw[Wr];exact hz
 ·exact l5 (P:=X.prog) (w:=X.w) rel (by rw[WY];exact hacc.1) λj v e=>hacc.2 j v (by rw[<-Yx];exact e)
 ·first|(rw[Array.toArray_toList];exact eD)|simpa using eD
end
section
variable {X:Cx}
structure MX (K:Frag) (C:Addr) (m:Str) (f:Addr):Prop where
 ga:specialIn K (.ref C) "__getattribute__" = some (some (.builtin "type.__getattribute__"))
 rd:PySem.W.readsIn K C (.type "type")=true
 at_:PySem.W.findCls K (.ref C) (.type "type") m=some (.val (.ref f))
 kp:keepIn K (.ref f)=true
structure R7 (K:Frag) (C:Addr):Prop where
 ha:findIn K (.ref C) "__class__" = some (some (.builtin "object.__class__"))
 hn:specialIn K (.builtin "object.__class__") "__get__" = some (some (.builtin "getset_descriptor.__get__"))
 htk:PySem.W.takesIn K (.builtin "object.__class__")=some true
 hm:PySem.W.mroIn K C (.type "object")=some true
end
end L2
end
section
namespace L2
open PySem PySem.Spec PyProof.Rows
section
variable {X:Cx}
def R8(k:Int):Value->Bool
 |.int a _=>a==k
 |_=>false
def Ed:V->List V->Hp->VK->Prop:=λx vs H Q=>∃(l:Addr) (ks:List Int) (i:Int),x=.ref l/\vs=[.int i]/\H l=some (.lst (ks.map V.int))/\i∈ks/\Q .non (upd H l (.lst ((ks.map V.int).eraseIdx (ks.idxOf i))))
theorem zw:PB X "list.remove" Ed:=by
 intro pins s σ H x vs v us Q I rx rv h;obtain⟨l,ks,i,rfl,rfl,hH,hi,q⟩:=h;cases rx;obtain⟨u,rfl,ru⟩:=rv.one;obtain⟨t,rfl⟩:=ru;obtain⟨z,its,n,r,hl,e⟩:=I.AI hH;have hk:ks.length=its.length:=by rw[<-hl,Wr]
 have at':∀m (hm:m<ks.length),∃t,its[m]?=some (.int ks[m] t):=λm hm=>by
  obtain⟨w,hw,t,rfl⟩:=r.get (i:=m) (x:=V.int ks[m]) (by rw[WO,WS hm];rfl);exact⟨t,hw⟩
 have hj:ks.idxOf i<ks.length:=List.idxOf_lt_length_of_mem hi;have sz:its.toArray.size=ks.length:=by rw[WA,hk]
 have val:∀m (hm:m<its.toArray.size),R8 i its.toArray[m]=(ks[m]'(sz▸hm)==i):=λm hm=>by
  obtain⟨t,q⟩:=at' m (sz▸hm);have q2:its.toArray[m]=.int (ks[m]'(sz▸hm)) t:=by have:=W8 hm;rw[List.getElem?_toArray,q]at this;exact(WR this).symm
  rw[q2];rfl
 refine call_meets F.slot_list_remove ⟨_,e,rfl⟩ F.entry_list_remove (F.args_list_remove_2 _ _)
  (MeetsSeq.list_remove l its.toArray n (.int i t) (R8 i) (λy hy=>?_) (ks.idxOf i) (by rw[sz];exact hj) ?_ ?_ (by rw[WA];omega)) ⟨e,?_⟩
 ·obtain⟨m,hm,rfl⟩:=YE.mp (List.mem_toArray.mp hy);obtain⟨t',q⟩:=at' m (by omega);rw[WS hm]at q;rw[WR q];exact MeetsSeq.EqGives.int _ _ _ _
 ·rw[val];exact YU.mpr (List.getElem_idxOf hj)
 ·intro m hm h2
  rw[val];exact Xj.mpr λe=>by
   have:=List.not_of_lt_findIdx (p:=(· == i)) (xs:=ks) (i:=m) h2;exact nomatch this.symm.trans (YU.mpr e)
 refine⟨.non,_,I.DS (its':=its.eraseIdx (ks.idxOf i)) hH e ?_ (r.eraseIdx _) ?_,rfl,q⟩
 ·show its.toArray.eraseIdxIfInBounds _=(its.eraseIdx _).toArray;rw[List.eraseIdxIfInBounds_toArray]
 ·have:=qh (ks.map V.int) (ks.idxOf i);omega
end
end L2
end
section
namespace Hv
open PySem L2 PyProof.Rows
inductive Val
 |non|bl (b:Bool)|int (i:Int)|str (x:Str)|tup (vs:List Val)|rl (vs:List Val)|dc (ks:List Key) (vs:List Val)|ob (c:Nat) (xs:List Str) (vs:List Val)|ref (i:Nat)
inductive Ob
 |lst (xs:List Val)|dct (kvs:List (Key×Val))|ins (c:Nat) (fs:List (Str×Val))
abbrev Hs:=List Ob
inductive Out (α:Type)
 |ok (a:α) (h:Hs)|exc (c:Nat) (vs:List Val) (h:Hs)|no
abbrev M(α:Type):=Hs->Out α
def ret{α:Type}(a:α):M α:=λh=>.ok a h
def bnd{α β:Type}(m:M α)(f:α -> M β):M β:=λh=>match m h with
 |.ok a h'=>f a h'
 |.exc c vs h'=>.exc c vs h'
 |.no=>.no
def bf{α:Type}(o:Option α):M α:=λh=>match o with
 |some a=>.ok a h
 |none=>.no
def ask{α:Type}(f:Hs->Option α):M α:=λh=>bf (f h) h
def new(o:Ob):M Val:=λh=>.ok (.ref h.length) (h++[o])
def put(i:Nat)(o:Ob):M Unit:=λh=>.ok () (h.set i o)
def cJ{α β:Type}(f:α -> Option β):List α -> Option (List β)
 |[]=>some []
 |a::r=>(f a).bind λb=>(cJ f r).bind λbs=>some (b::bs)
inductive Gu|add|sub|mul|fdiv|mod|pow
 deriving DecidableEq
inductive IQ|eq|ne|lt|le|gt|ge|isn|ntn|IT|nin
 deriving DecidableEq
inductive Bl|len|min|max|sorted|list|tuple|str|int|all|any|isin (T:String)
 deriving DecidableEq
inductive Me|join|append|extend|remove
 deriving DecidableEq
inductive v9|one (i:Nat)|tup (is:List Nat)
 deriving DecidableEq
inductive Ik|seq|range|enum|zip
 deriving DecidableEq
mutual
inductive IE
 |var (i:Nat)|cst (d:Val)|con (x:Str) (d:Val)|no
 |bin (o:Gu) (a b:IE)|neg (a:IE)|cmp (o:IQ) (a b:IE)|chn (o p:IQ) (a b c:IE)
 |and (a b:IE)|or (a b:IE)|not (a:IE)|ite (c a b:IE)
 |tup (es:kg)|lst (es:kg)|idx (a b:IE)|slc (a lo hi:IE)
 |call (j:Nat) (es:kg)|blt (b:Bl) (es:kg)|met (m:Me) (a:IE) (es:kg)
 |comp (N:List Str) (js:List (Option Nat)) (pat:v9) (k:Ik) (it:kg) (c elt:IE)
 |dct0
 |sset (a:IE)
 |dget (d k x:IE)
 |dct1 (k v:IE)
 |lkeys (d:IE)
 |sdef (d k x:IE)
 |svals (d:IE)
 |skeys (d:IE)
 |fld (n:Nat) (a:IE) (x:Str)
 |mth (a:IE) (m:Str) (js:List (Nat×Nat)) (es:kg)
 |rev (a s:IE)
 |dflt (N:List Str) (js:List (Option Nat)) (p q:Nat) (d w:IE)
 |isc (a:IE) (x:Str) (bs:List Bool)
inductive kg|nil|cons (e:IE) (es:kg)
end
abbrev Env:=List (Option Val)
mutual
inductive IS
 |expr (e:IE)|asg (p:v9) (e:IE)|aug (i:Nat) (o:Gu) (e:IE)|g9 (o i v:IE)
 |iff (c:IE) (a b:cE)|for (p:v9) (k:Ik) (it:kg) (body:cE)|whl (n:Nat) (c:IE) (body:cE)
 |ret (e:IE)|Bp|brk|cnt|pass|never|setF (n:Nat) (a:IE) (x:Str) (v:IE)
inductive cE|nil|cons (s:IS) (r:cE)
end
def aF(h:Hs):Val->Option (List Val)
 |.rl vs=>some vs
 | .ref i=>match h[i]? with
  |some (.lst xs)=>some xs
  |_=>none
 |_=>none
def cP(h:Hs):Val->Option (List Val)
 |.tup vs=>some vs
 |v=>aF h v
def qG(h:Hs):Val->Option (List Val)
 |.tup vs=>some vs
 |.ref i=>aF h (.ref i)
 |_=>none
def aS:List Val->Option (List Int):=cJ λv=>match v with
 |.int i=>some i
 |_=>none
def jZ:List Val->Option (List (List Int)):=cJ λv=>match v with
 |.tup vs=>if vs.isEmpty then none else aS vs
 |_=>none
def toD:Nat->Hs->Val->Option PyData
 |0,_,_=>none
 |_+1,_,.non=>some .none
 |_+1,_,.bl b=>some (.bool b)
 |_+1,_,.int i=>some (.int i)
 |_+1,_,.str x=>if PyData.strOk x=true then some (.str x) else none
 |n+1,h,.tup vs=>(cJ (toD n h) vs).bind λds=>some (.tuple ds)
 |n+1,h,.rl vs=>(cJ (toD n h) vs).bind λds=>some (.list ds)
 |_+1,_,.dc _ _=>none
 |_+1,_,.ob _ _ _=>none
 |n+1,h,.ref i=>(aF h (.ref i)).bind λxs=>(cJ (toD n h) xs).bind λds=>some (.list ds)
def xP(h:Hs)(v w:Val):Option Bool:=(toD 16 h v).bind λd=>(toD 16 h w).bind λe=>some (PyData.eqv d e)
def rV(x:List Int):List (List Int)->List (List Int)
 |[]=>[x]
 |y::r=>if HT.lexLt y x=true then y::rV x r else x::y::r
def kZ:List (List Int)->List (List Int)
 |[]=>[]
 |x::r=>rV x (kZ r)
def kh(ks:List Int):Val:=.tup (ks.map .int)
def gg(xs:List Val):Option (List Val) :=
 if xs.length<64 then
  match aS xs with
  |some ns=>some ((sortI ns).map .int)
  |none=>(jZ xs).bind λnK=>some ((kZ nK).map kh)
 else none
def rW:List Int->Option Val
 |[]=>none
 |a::r=>some (.int (r.foldl min a))
def rX:List Int->Option Val
 |[]=>none
 |a::r=>some (.int (r.foldl max a))
def j3(i j:Int):Bool:=(decide (-(2 ^ 64)<i)&&decide (i<2 ^ 64))||(decide (-(2 ^ 64)<j)&&decide (j<2 ^ 64))
def aH{α:Type}(c:Bool)(m:M α):M α:=λh=>if c=true then m h else .no
def ki(b:Int):Bool:=decide (0<b/\b<1606938044258990275541962092341162602522202993782792835301376)
def LL:Gu->Val->Val->M Val
 |.add,.int a,.int b=>ret (.int (a+b))
 |.add,.str a,.str b=>aH (decide (a.length+b.length<=sizeLine)) (ret (.str (a++b)))
 |.add,.tup a,.tup b=>aH (!a.isEmpty&&decide (a.length+b.length<=sizeLine)) (ret (.tup (a++b)))
 |.add,v,w=>bnd (ask λh=>aF h v) λa=>bnd (ask λh=>aF h w) λb=>aH (decide (a.length+b.length<=sizeLine)) (new (.lst (a++b)))
 |.sub,.int a,.int b=>ret (.int (a-b))
 |.mul,.int a,.int b=>aH (j3 a b) (ret (.int (a*b)))
 |.fdiv,.int a,.int b=>aH (ki b) (ret (.int (a/b)))
 |.mod,.int a,.int b=>aH (decide (0<b)) (ret (.int (a%b)))
 |.pow,.int a,.int b=>aH (decide (0<=b/\b<=1000000/\a.natAbs<2 ^ 64)) (ret (.int (a ^ b.toNat)))
 |_,_,_=>bf none
def k7:Val->Bool
 |.non=>true
 |_=>false
def bP(kvs:List (Key×Val))(k:Key):Option Val:=(kvs.find? λkv=>decide (kv.1=k)).map (·.2)
def gU(kvs:List (Key×Val))(k:Key)(v:Val):List (Key×Val) :=
 if (kvs.any λkv=>decide (kv.1=k))=true then kvs.map (λkv=>if kv.1=k then (kv.1,v) else kv) else kvs++[(k,v)]
def keyOf:Val->Option Key
 |.int i=>some (.inl i)
 |.str x=>some (.inr x)
 |_=>none
def MY(f d:PyData):Option Bool:=match f with
 |.list ds=>some (ds.any λy=>PyData.eqv y d)
 |.tuple ds=>some (ds.any λy=>PyData.eqv y d)
 |_=>none
def memD(h:Hs)(v w:Val):Option Bool:=(toD 16 h w).bind λf=>(toD 16 h v).bind λd=>MY f d
def uc(h:Hs)(v w:Val):Option Bool:=memD h v w
def Gv(v w:Val):Option Bool:=match w with
 |.non=>some (k7 v)
 | .bl b=>(match v with
  |.bl a=>some (a==b)
  |_=>none)
 |_=>none
def cop(h:Hs):IQ->Val->Val->Option Bool
 |.eq,v,w=>xP h v w
 |.ne,v,w=>(xP h v w).map (!·)
 |.lt,.int a,.int b=>some (decide (a<b))
 |.le,.int a,.int b=>some (decide (a<=b))
 |.gt,.int a,.int b=>some (decide (b<a))
 |.ge,.int a,.int b=>some (decide (b<=a))
 |.isn,v,w=>Gv v w
 |.ntn,v,w=>(Gv v w).map (!·)
 |.IT,v,w=>uc h v w
 |.nin,v,w=>(uc h v w).map (!·)
 |_,_,_=>none
def cC(h:Hs):Val->Option Bool
 |.non=>some false
 |.bl b=>some b
 |.int i=>some (i != 0)
 |.str x=>if x.length<=sizeLine then some ((x.length:Int) != 0) else none
 |.tup vs=>some (!vs.isEmpty)
 |.rl vs=>some (!vs.isEmpty)
 |.dc ks _=>some (!ks.isEmpty)
 |.ob _ _ _=>none
 | .ref i=>match h[i]? with
  |some (.lst xs)=>some (!xs.isEmpty)
  |some (.dct xs)=>some (!xs.isEmpty)
  |_=>none
def jf(h:Hs):Val->Val->Option Val
 |.str x,.int i=>if x.length<=sizeLine then (gA x.cps.toList i).map λc=>.str ⟨[c].toArray⟩ else none
 |.tup vs,.int i=>gA vs i
 |.rl vs,.int i=>gA vs i
 | .ref j,.int i=>match h[j]? with
  |some (.dct kvs)=>bP kvs (.inl i)
  |_=>(aF h (.ref j)).bind λxs=>gA xs i
 | .ref j,.str x=>match h[j]? with
  |some (.dct kvs)=>bP kvs (.inr x)
  |_=>none
 |.dc ks vs,.int i=>bP (ks.zip vs) (.inl i)
 |.dc ks vs,.str x=>bP (ks.zip vs) (.inr x)
 |_,_=>none
def rY(h:Hs)(o:Val):Option Unit:=match o with
 | .ref i=>(match h[i]? with
  |some (.dct _)=>some ()
  |_=>none)
 |.dc _ _=>some ()
 |_=>none
def zx(h:Hs)(o:Val)(k:Key):Option (Option Val):=match o with
 | .ref i=>(match h[i]? with
  |some (.dct kvs)=>some (bP kvs k)
  |_=>none)
 |.dc ks vs=>some (bP (ks.zip vs) k)
 |_=>none
def ud(h:Hs)(o:Val):Option (List Key):=match o with
 | .ref i=>(match h[i]? with
  |some (.dct kvs)=>some (kvs.map (·.1))
  |_=>none)
 |.dc ks _=>some ks
 |_=>none
def Bq:Key->Val
 |.inl i=>.int i
 |.inr x=>.str x
def Br(o:Val)(k:Key)(z:Val):M Val:=match o with
 | .ref j=>bnd (ask λh=>match h[j]? with|some (.dct kvs)=>some kvs|_=>none) λkvs=>aH (decide (kvs.length<sizeLine)) (match bP kvs k with
  |some v=>ret v
  |none=>bnd (put j (.dct (gU kvs k z))) λ_=>ret z)
 |_=>bf none
def cU{α:Type}(ds:List α)(lo hi:Option Int):List α:=(ds.drop (HT.dF ds.length 0 lo)).take (HT.dF ds.length ds.length hi-HT.dF ds.length 0 lo)
def pV(v:Val)(lo hi:Option Int):M Val:=match v with
 |.tup vs=>aH (!(decide (HT.dF vs.length 0 lo=0)&&decide (HT.dF vs.length vs.length hi=vs.length))) (ret (.tup (cU vs lo hi)))
 |v=>bnd (ask λh=>aF h v) λxs=>new (.lst (cU xs lo hi))
def zy(h:Hs):Val->Option String
 |.non=>some "NoneType" | .bl _=>some "bool" | .int _=>some "int" | .str _=>some "str" | .tup _=>some "tuple" | .rl _=>some "list" | .dc _ _=>some "dict" | .ob _ _ _=>none
 | .ref i=>match h[i]? with
  |some (.lst _)=>some "list"
  |some (.dct _)=>some "dict"
  |_=>none
def Bs(T:String)(t:String):Option Bool :=
 if ["list","tuple","str","bool","int","dict"].contains T=true then some (decide (T=t\/(T = "int" /\ t = "bool"))) else none
def k8(h:Hs):Val->Option Nat
 |.str x=>if x.length<=sizeLine then some x.length else none
 |.tup vs=>some vs.length
 |.rl vs=>some vs.length
 |.dc ks _=>some ks.length
 | .ref i=>match h[i]? with
  |some (.lst xs)=>some xs.length
  |some (.dct xs)=>some xs.length
  |_=>none
 |_=>none
def blt:Bl->List Val->M Val
 |.len,[v]=>bnd (ask λh=>k8 h v) λn=>ret (.int n)
 |.min,[.int a,.int b]=>ret (.int (if b<a then b else a))
 |.max,[.int a,.int b]=>ret (.int (if b>a then b else a))
 |.min,[v]=>bnd (ask λh=>cP h v) λxs=>bf ((aS xs).bind rW)
 |.max,[v]=>bnd (ask λh=>cP h v) λxs=>bf ((aS xs).bind rX)
 |.sorted,[v]=>bnd (ask λh=>aF h v) λxs=>bnd (bf (gg xs)) λys=>new (.lst ys)
 |.list,[v]=>bnd (ask λh=>cP h v) λxs=>new (.lst xs)
 |.int,[.bl b]=>ret (.int (if b=true then 1 else 0))
 |.int,[.int i]=>ret (.int i)
 |.isin T,[v]=>bnd (ask λh=>zy h v) λt=>bnd (bf (Bs T t)) λb=>ret (.bl b)
 |_,_=>bf none
def met:Me->Val->List Val->M Val
 |.append,.ref i,[v]=>bnd (ask λh=>match h[i]? with|some (.lst xs)=>some xs|_=>none) λxs=>aH (decide (xs.length<sizeLine)) (bnd (put i (.lst (xs++[v]))) λ_=>ret .non)
 |.extend,.ref i,[v]=>bnd (ask λh=>match h[i]? with|some (.lst xs)=>some xs|_=>none) λxs=>bnd (ask λh=>qG h v) λys=>aH (decide (xs.length+ys.length<=sizeLine)) (bnd (put i (.lst (xs++ys))) λ_=>ret .non)
 |.remove,.ref i,[.int k]=>bnd (ask λh=>match h[i]? with|some (.lst xs)=>some xs|_=>none) λxs=>bnd (bf (aS xs)) λks=>aH (decide (k∈ks)) (bnd (put i (.lst (xs.eraseIdx (ks.idxOf k)))) λ_=>ret .non)
 |_,_,_=>bf none
def recv(h:Hs):Me->Val->Option Unit
 |.join,.str _=>some ()
 |.append,.ref i=>match h[i]? with|some (.lst _)=>some ()|_=>none
 |.extend,.ref i=>match h[i]? with|some (.lst _)=>some ()|_=>none
 |.remove,.ref i=>match h[i]? with|some (.lst _)=>some ()|_=>none
 |_,_=>none
inductive Src
 |fix (xs:List Val)|live (i:Nat)|enum (i:Nat)|zip (v w:Val)
def cD:Nat->List Val->List Val
 |_,[]=>[]
 |i,d::r=>.tup [.int i,d]::cD (i+1) r
def MZ:List Val->List Val->List Val
 |a::r,b::t=>.tup [a,b]::MZ r t
 |_,_=>[]
def bZ(lo:Int)(n:Nat):List Val:=(List.range n).map λ(i:Nat)=>Val.int (lo+(i:Int))
def inR(i:Int):Bool:=decide (-(2 ^ 62)<=i)&&decide (i<2 ^ 62)
def srcOf:Ik->List Val->Option Src
 |.seq,[.tup vs]=>some (.fix vs)
 |.seq,[.rl vs]=>some (.fix vs)
 |.seq,[.ref i]=>some (.live i)
 |.range,[.int n]=>if inR n then some (.fix (bZ 0 n.toNat)) else none
 |.range,[.int a,.int b]=>if inR a&&inR b then some (.fix (bZ a (b-a).toNat)) else none
 |.enum,[.rl vs]=>some (.fix (cD 0 vs))
 |.enum,[.ref i]=>some (.enum i)
 |.zip,[v,w]=>some (.zip v w)
 |_,_=>none
def Src.items(h:Hs):Src->Option (List Val)
 |.fix xs=>some xs
 |.live i=>aF h (.ref i)
 |.enum i=>(aF h (.ref i)).map (cD 0)
 |.zip v w=>(aF h v).bind λxs=>(aF h w).map λys=>MZ xs ys
def bindAll:List Nat->List Val->Env->Option Env
 |[],[],env=>some env
 |i::is,d::ds,env=>bindAll is ds (env.set i (some d))
 |_,_,_=>none
def eZ:v9->Val->Env->Option Env
 |.one i,d,env=>some (env.set i (some d))
 |.tup is,.tup ds,env=>bindAll is ds env
 |_,_,_=>none
def jg(js:List (Option Nat))(env:Env):Env:=js.map λo=>match o with
 |none=>none
 | some j=>match env[j]? with
  |some (some d)=>some d
  |_=>none
def e9(src:Src)(f:Val->M (Option Val)):Nat->Nat->List Val->M (List Val)
 |0,i,acc=>bnd (ask λh=>src.items h) λxs=>aH (decide (xs.length<=i)) (ret acc)
 | n+1,i,acc=>bnd (ask λh=>src.items h) λxs=>match xs[i]? with
  |none=>ret acc
  |some x=>bnd (f x) λo=>e9 src f n (i+1) (match o with|some e=>acc++[e]|none=>acc)
def cV:IE->Bool
 |.no=>true
 |_=>false
def gh:Val->Option Int
 |.int i=>some i
 |_=>none
def ou:Val->M Bool
 |.bl b=>ret b
 |_=>bf none
def R9(c:Nat)(φ:List Val->M Val)(vs:List Val):M Val:=bnd (new (.ins c [])) λo=>bnd (φ (o::vs)) λr=>match r with
 |.non=>ret o
 |_=>bf none
mutual
noncomputable def aJ(Φ:Nat->List Val->M Val):IE->Env->M Val
 | .var i,env=>bf (match env[i]? with
  |some (some d)=>some d
  |_=>none)
 |.cst d,_=>ret d
 |.con _ d,_=>ret d
 |.no,_=>bf none
 |.bin o a b,env=>bnd (aJ Φ a env) λx=>bnd (aJ Φ b env) λy=>LL o x y
 | .neg a,env=>bnd (aJ Φ a env) λx=>match x with
  |.int i=>ret (.int (-i))
  |_=>bf none
 |.cmp o a b,env=>bnd (aJ Φ a env) λx=>bnd (aJ Φ b env) λy=>bnd (ask λh=>cop h o x y) λt=>ret (.bl t)
 |.chn _ _ _ _ _,_=>bf none
 |.and a b,env=>bnd (aJ Φ a env) λx=>bnd (ou x) λt=>if t=true then bnd (aJ Φ b env) λy=>bnd (ou y) λu=>ret (.bl u) else ret (.bl false)
 |.or a b,env=>bnd (aJ Φ a env) λx=>bnd (ou x) λt=>if t=true then ret (.bl true) else bnd (aJ Φ b env) λy=>bnd (ou y) λu=>ret (.bl u)
 |.not a,env=>bnd (aJ Φ a env) λx=>bnd (ou x) λt=>ret (.bl (!t))
 |.ite _ _ _,_=>bf none
 |.tup es,env=>bnd (bC Φ es env) λds=>aH (decide (ds.length<=sizeLine)) (ret (.tup ds))
 |.lst es,env=>bnd (bC Φ es env) λds=>aH (decide (ds.length<=sizeLine)) (new (.lst ds))
 |.idx a b,env=>bnd (aJ Φ a env) λx=>bnd (aJ Φ b env) λy=>ask λh=>jf h x y
 |.slc a lo hi,env=>bnd (aJ Φ a env) λx=>bnd (if cV lo=true then ret none else bnd (aJ Φ lo env) λv=>bnd (bf (gh v)) λi=>ret (some i)) λl=>
   bnd (if cV hi=true then ret none else bnd (aJ Φ hi env) λv=>bnd (bf (gh v)) λi=>ret (some i)) λu=>pV x l u
 |.call j es,env=>bnd (bC Φ es env) λds=>Φ j ds
 |.blt b es,env=>bnd (bC Φ es env) λds=>blt b ds
 |.met m a es,env=>bnd (aJ Φ a env) λx=>bnd (ask λh=>recv h m x) λ_=>bnd (bC Φ es env) λds=>met m x ds
 | .comp _ js pat k it c elt,env=>bnd (bC Φ it env) λits=>bnd (bf (srcOf k its)) λsrc=>bnd (ask λh=>src.items h) λxs=>aH (decide (xs.length<=100000))
   (bnd (e9 src (λd=>bnd (bf (eZ pat d (jg js env))) λenv'=>bnd (if cV c=true then ret true else bnd (aJ Φ c env') λv=>ask λh=>cC h v) λt=>
    if t=true then bnd (aJ Φ elt env') λe=>ret (some e) else ret none) xs.length 0 []) λys=>new (.lst ys))
 |.dct0,_=>new (.dct [])
 |.sset a,env=>bnd (aJ Φ a env) λv=>bnd (ask λh=>aF h v) λxs=>bnd (bf (aS xs)) λns=>aH (decide (ns.length<64)) (new (.lst ((sortI (L2.gS [] ns)).map .int)))
 |.dget d k x,env=>bnd (aJ Φ d env) λo=>bnd (ask λh=>rY h o) λ_=>bnd (aJ Φ k env) λi=>bnd (bf (keyOf i)) λkk=>bnd (aJ Φ x env) λz=>bnd (ask λh=>zx h o kk) λr=>ret (r.getD z)
 |.dct1 k v,env=>bnd (aJ Φ k env) λx=>bnd (bf (keyOf x)) λkk=>bnd (aJ Φ v env) λy=>new (.dct [(kk,y)])
 |.lkeys d,env=>bnd (aJ Φ d env) λo=>bnd (ask λh=>ud h o) λks=>new (.lst (ks.map Bq))
 |.sdef d k x,env=>bnd (aJ Φ d env) λo=>bnd (ask λh=>rY h o) λ_=>bnd (aJ Φ k env) λi=>bnd (bf (keyOf i)) λkk=>bnd (aJ Φ x env) λz=>Br o kk z
 |.svals _,_=>bf none
 |.skeys _,_=>bf none
 |.fld _ _ _,_=>bf none
 |.mth _ _ _ _,_=>bf none
 |.rev _ _,_=>bf none
 |.dflt _ _ _ _ _ _,_=>bf none
 |.isc _ _ _,_=>bf none
noncomputable def bC(Φ:Nat->List Val->M Val):kg->Env->M (List Val)
 |.nil,_=>ret []
 |.cons e es,env=>bnd (aJ Φ e env) λd=>bnd (bC Φ es env) λds=>ret (d::ds)
end
inductive Fl
 |nx (env:Env)|rt (v:Val)|bk (env:Env)|ct (env:Env)
def forM(src:Src)(body:Val->Env->M Fl):Nat->Nat->Env->M Fl
 |0,i,env=>bnd (ask λh=>src.items h) λxs=>aH (decide (xs.length<=i)) (ret (.nx env))
 | n+1,i,env=>bnd (ask λh=>src.items h) λxs=>match xs[i]? with
  |none=>ret (.nx env)
  | some x=>bnd (body x env) λf=>match f with
   |.nx env'=>forM src body n (i+1) env'
   |.ct env'=>forM src body n (i+1) env'
   |.bk env'=>ret (.nx env')
   |.rt v=>ret (.rt v)
def ue(o i v:Val):M Unit:=match o with
 | .ref j=>bnd (ask λh=>h[j]?) λob=>match ob,i with
  |.lst xs,.int k=>bnd (bf (tH xs.length k)) λn=>put j (.lst (xs.set n v))
  |.dct kvs,i=>bnd (bf (keyOf i)) λk=>aH (decide (kvs.length<sizeLine)) (put j (.dct (gU kvs k v)))
  |_,_=>bf none
 |_=>bf none
mutual
noncomputable def fW(Φ:Nat->List Val->M Val):IS->Env->M Fl
 |.expr e,env=>bnd (aJ Φ e env) λ_=>ret (.nx env)
 |.asg p e,env=>bnd (aJ Φ e env) λv=>bnd (bf (eZ p v env)) λenv'=>ret (.nx env')
 |.aug _ _ _,_=>bf none
 |.g9 o i v,env=>bnd (aJ Φ v env) λx=>bnd (aJ Φ o env) λy=>bnd (aJ Φ i env) λz=>bnd (ue y z x) λ_=>ret (.nx env)
 |.iff c a b,env=>bnd (aJ Φ c env) λx=>bnd (ask λh=>cC h x) λt=>if t=true then jh Φ a env else jh Φ b env
 |.for p k it body,env=>bnd (bC Φ it env) λits=>bnd (bf (srcOf k its)) λsrc=>bnd (ask λh=>src.items h) λxs=>
   forM src (λx env=>bnd (bf (eZ p x env)) λenv'=>jh Φ body env') xs.length 0 env
 |.whl _ _ _,_=>bf none
 |.ret e,env=>bnd (aJ Φ e env) λv=>ret (.rt v)
 |.Bp,_=>ret (.rt .non)
 |.brk,env=>ret (.bk env)
 |.cnt,env=>ret (.ct env)
 |.pass,env=>ret (.nx env)
 |.never,_=>bf none
 |.setF n a _ _,env=>bnd (aJ Φ a env) λv=>bnd (bf (eZ (.one n) v env)) λenv'=>ret (.nx env')
noncomputable def jh(Φ:Nat->List Val->M Val):cE->Env->M Fl
 |.nil,env=>ret (.nx env)
 | .cons s r,env=>bnd (fW Φ s env) λf=>match f with
  |.nx env'=>jh Φ r env'
  |f=>ret f
end
def iM(Φ:Nat->List Val->M Val)(n:Nat)(body:cE)(vs:List Val):M Val :=
 bnd (jh Φ body (vs.map some++replicate (n-vs.length) none)) λf=>match f with
  |.nx _=>ret .non
  |.rt v=>ret v
  |_=>bf none
theorem ji{b:Bool}(ho:o=.lt\/o=.le\/o=.gt\/o=.ge)(e:cop h o v w=some b):∃i j,v=.int i/\w=.int j:=by
 cases v with
 |int i=>
  cases w with
  |int j=>exact⟨i,j,rfl,rfl⟩
  |_=>rcases ho with rfl|rfl|rfl|rfl<;>cases e
 |_=>rcases ho with rfl|rfl|rfl|rfl<;>cases e
structure Bd where
 K:Frag
 cl:Nat->Addr
def Gx(K:Frag)(H:Hp)(a:Addr)(xs:List V):Prop :=
 (∃o,H a=some (.qZ o (.lst xs)))\/gR K (λ_=>none) a xs
theorem Gx.sq{K:Frag}{H:Hp}{a:Addr}{xs:List V}(h:Gx K H a xs):gR K H a xs:=by
 rcases h with ⟨o,h⟩|(h|⟨o,h⟩)|h
 ·exact .inl (.inr ⟨o,h⟩)
 ·cases h
 ·cases h
 ·exact .inr h
mutual
noncomputable def VR(K:Frag)(ρ:List Addr)(H:Hp):Val->V->Prop
 |.non,x=>x=.non
 |.bl b,x=>x=.bl b
 |.int i,x=>x=.int i
 |.str s,x=>x=.str s
 |.tup vs,x=>∃a xs,x=.ref a/\iV K H a xs/\aC K ρ H vs xs
 |.rl vs,x=>∃a xs,x=.ref a/\Gx K H a xs/\aC K ρ H vs xs
 |.dc _ _,_=>False
 |.ob _ _ _,_=>False
 |.ref i,x=>∃a,x=.ref a /\ ρ[i]?=some a
noncomputable def aC(K:Frag)(ρ:List Addr)(H:Hp):List Val->List V->Prop
 |[],xs=>xs=[]
 |v::vs,xs=>∃x r,xs=x::r/\VR K ρ H v x/\aC K ρ H vs r
end
def fJ(K:Frag)(ρ:List Addr)(H:Hp):List (Key×Val)->List (Key×V)->Prop
 |[],xs=>xs=[]
 |(k,v)::vs,xs=>∃x r,xs=(k,x)::r/\VR K ρ H v x/\fJ K ρ H vs r
def IU(K:Frag)(ρ:List Addr)(H:Hp):List (Str×Val)->List (Str×V)->Prop
 |[],xs=>xs=[]
 |(k,v)::vs,xs=>∃x r,xs=(k,x)::r/\VR K ρ H v x/\IU K ρ H vs r
def OR(B:Bd)(ρ:List Addr)(H:Hp)(a:Addr):Ob->Prop
 |.lst xs=>∃ys,H a=some (.lst ys)/\aC B.K ρ H xs ys
 |.dct kvs=>∃ks,H a=some (.dK ks)/\fJ B.K ρ H kvs ks
 |.ins c fs=>∃dx gs,H a=some (.ins (B.cl c) dx gs)/\IU B.K ρ H fs gs
structure HR (B:Bd) (ρ:List Addr) (h:Hs) (H:Hp):Prop where
 len:ρ.length=h.length
 nd:ρ.Nodup
 ob:∀(i:Nat) (o:Ob) (a:Addr),h[i]?=some o -> ρ[i]?=some a->OR B ρ H a o
def Mu:HO->Bool
 |.lst _=>true|.dK _=>true|.ins ..=>true
 |_=>false
structure Gw (ρ:List Addr) (H:Hp) (ρ':List Addr) (H':Hp):Prop where
 pre:ρ <+: ρ'
 firm:∀a o,H a=some o->Mu o=false->H' a=some o
structure Gr (ρ:List Addr) (H:Hp) (ρ':List Addr) (H':Hp):Prop where
 pre:ρ <+: ρ'
 keep:∀a o,H a=some o->a ∉ ρ -> H' a=some o
 firm:∀a o,H a=some o->Mu o=false->H' a=some o
 fresh:∀a,a ∈ ρ'->a ∉ ρ -> H a=none
section
variable {K:Frag} {B:Bd} {ρ ρ' ρ1 ρ2:List Addr} {H H' H1 H2:Hp} {h h':Hs}
theorem Gr.w(g:Gr ρ H ρ' H'):Gw ρ H ρ' H':=⟨g.pre,g.firm⟩
theorem Gr.refl:Gr ρ H ρ H:=⟨WK _,λ_ _ e _=>e,λ_ _ e _=>e,λ_ e n=>absurd e n⟩
theorem Gr.trans(g:Gr ρ H ρ1 H1)(k:Gr ρ1 H1 ρ2 H2):Gr ρ H ρ2 H2 where
 pre:=g.pre.trans k.pre
 keep a o e n:=k.keep a o (g.keep a o e n) λz=>by rw[g.fresh a z n]at e;cases e
 firm a o e n:=k.firm a o (g.firm a o e n) n
 fresh a z n:=by
  by_cases hb:a ∈ ρ1
  ·exact g.fresh a hb n
  ·cases e:H a with
   |none=>rfl
   |some o=>have e1:=g.keep a o e n;rw[k.fresh a z hb]at e1;cases e1
theorem k9{i:Nat}(p:ρ <+: ρ')(e:ρ[i]?=some a):ρ'[i]?=some a:=by
 obtain⟨t,rfl⟩:=p;have hi:i < ρ.length:=(Wo.mp e).1;rw[WE hi];exact e
theorem Gw.PJ(g:Gw ρ H ρ' H')(e:iV K H a xs):iV K H' a xs:=by
 rcases e with (e|⟨o,e⟩)|e
 ·exact .inl (.inl (g.firm _ _ e rfl))
 ·exact .inl (.inr ⟨o,g.firm _ _ e rfl⟩)
 ·exact .inr e
theorem Gw.IV(g:Gw ρ H ρ' H')(e:Gx K H a xs):Gx K H' a xs:=by
 rcases e with ⟨o,e⟩|e
 ·exact .inl ⟨o,g.firm _ _ e rfl⟩
 ·exact .inr e
mutual
theorem VR.j4(g:Gw ρ H ρ' H'):∀(v:Val) (x:V),VR K ρ H v x->VR K ρ' H' v x
 |.non,x,e=>by rw[VR]at e |-;exact e
 |.bl b,x,e=>by rw[VR]at e |-;exact e
 |.int b,x,e=>by rw[VR]at e |-;exact e
 |.str b,x,e=>by rw[VR]at e |-;exact e
 | .tup vs,x,e=>by
  rw[VR]at e |-;obtain⟨a,xs,rfl,q1,q2⟩:=e;exact⟨a,xs,rfl,g.PJ q1,aC.j4 g vs xs q2⟩
 | .rl vs,x,e=>by
  rw[VR]at e |-;obtain⟨a,xs,rfl,q1,q2⟩:=e;exact⟨a,xs,rfl,g.IV q1,aC.j4 g vs xs q2⟩
 |.dc _ _,x,e=>by rw[VR]at e;exact e.elim
 |.ob _ _ _,x,e=>by rw[VR]at e;exact e.elim
 | .ref i,x,e=>by
  rw[VR]at e |-;obtain⟨a,rfl,q⟩:=e;exact⟨a,rfl,k9 g.pre q⟩
theorem aC.j4(g:Gw ρ H ρ' H'):∀(vs:List Val) (xs:List V),aC K ρ H vs xs->aC K ρ' H' vs xs
 |[],xs,e=>by rw[aC]at e |-;exact e
 | v::vs,xs,e=>by
  rw[aC]at e |-;obtain⟨x,r,rfl,q1,q2⟩:=e;exact⟨x,r,rfl,VR.j4 g v x q1,aC.j4 g vs r q2⟩
end
theorem fJ.j4(g:Gw ρ H ρ' H'):∀(vs:List (Key×Val)) (xs:List (Key×V)),fJ K ρ H vs xs->fJ K ρ' H' vs xs
 |[],xs,e=>e
 |(k,v)::vs,xs,⟨x,r,e,q1,q2⟩=>⟨x,r,e,VR.j4 g v x q1,fJ.j4 g vs r q2⟩
theorem IU.j4(g:Gw ρ H ρ' H'):∀(vs:List (Str×Val)) (xs:List (Str×V)),IU K ρ H vs xs->IU K ρ' H' vs xs
 |[],xs,e=>e
 |(k,v)::vs,xs,⟨x,r,e,q1,q2⟩=>⟨x,r,e,VR.j4 g v x q1,IU.j4 g vs r q2⟩
theorem VR.up(g:Gr ρ H ρ' H')(v:Val)(x:V)(e:VR K ρ H v x):VR K ρ' H' v x:=VR.j4 g.w v x e
theorem aC.up(g:Gr ρ H ρ' H')(v:List Val)(x:List V)(e:aC K ρ H v x):aC K ρ' H' v x:=aC.j4 g.w v x e
theorem fJ.up(g:Gr ρ H ρ' H')(v:List (Key×Val))(x:List (Key×V))(e:fJ K ρ H v x):fJ K ρ' H' v x:=fJ.j4 g.w v x e
theorem aC.nil:aC K ρ H [] []:=by rw[aC]
theorem aC.cons{v:Val}{vs:List Val}{x:V}{xs:List V}(a:VR K ρ H v x)(b:aC K ρ H vs xs):aC K ρ H (v::vs) (x::xs):=by rw[aC];exact⟨x,xs,rfl,a,b⟩
theorem aC.length:∀{vs:List Val} {xs:List V},aC K ρ H vs xs->vs.length=xs.length
 |[],xs,e=>by rw[aC]at e;subst e;rfl
 |v::vs,xs,e=>by rw[aC]at e;obtain⟨x,r,rfl,_,q⟩:=e;simp[aC.length q]
theorem aC.get:∀{vs:List Val} {xs:List V} {i:Nat} {v:Val},aC K ρ H vs xs->vs[i]?=some v->∃x,xs[i]?=some x/\VR K ρ H v x
 |[],xs,i,v,e,q=>by simp at q
 | w::vs,xs,0,v,e,q=>by
  rw[aC]at e;obtain⟨x,r,rfl,a,_⟩:=e;simp at q;subst q;exact⟨x,rfl,a⟩
 | w::vs,xs,i+1,v,e,q=>by
  rw[aC]at e;obtain⟨x,r,rfl,_,b⟩:=e;simp at q;obtain⟨y,q1,q2⟩:=aC.get b q;exact⟨y,by simpa using q1,q2⟩
theorem aC.append:∀{vs ws:List Val} {xs ys:List V},aC K ρ H vs xs->aC K ρ H ws ys->aC K ρ H (vs++ws) (xs++ys)
 |[],ws,xs,ys,e,q=>by rw[aC]at e;subst e;exact q
 | w::vs,ws,xs,ys,e,q=>by
  rw[aC]at e;obtain⟨x,r,rfl,a,b⟩:=e;exact aC.cons a (aC.append b q)
theorem aC.take:∀{vs:List Val} {xs:List V} (n:Nat),aC K ρ H vs xs->aC K ρ H (vs.take n) (xs.take n)
 |_,_,0,_=>by simp;exact aC.nil
 |[],xs,n+1,e=>by rw[aC]at e;subst e;simp;exact aC.nil
 | w::vs,xs,n+1,e=>by
  rw[aC]at e;obtain⟨x,r,rfl,a,b⟩:=e;exact aC.cons a (aC.take n b)
theorem aC.drop:∀{vs:List Val} {xs:List V} (n:Nat),aC K ρ H vs xs->aC K ρ H (vs.drop n) (xs.drop n)
 |_,_,0,e=>by simpa using e
 |[],xs,n+1,e=>by rw[aC]at e;subst e;simp;exact aC.nil
 | w::vs,xs,n+1,e=>by
  rw[aC]at e;obtain⟨x,r,rfl,a,b⟩:=e;exact aC.drop n b
theorem aC.cut(lo hi:Option Int)(e:aC K ρ H vs xs):aC K ρ H (cU vs lo hi) (tG xs lo hi):=by
 unfold cU tG;rw[e.length];exact aC.take _ (aC.drop _ e)
theorem aC.gA{i:Int}(e:aC K ρ H vs xs)(q:L2.gA vs i=some v):∃x,L2.gA xs i=some x/\VR K ρ H v x:=by
 unfold L2.gA at q |-;rw[e.length]at q;cases hi:L2.tH xs.length i with
 |none=>rw[hi]at q;cases q
 |some n=>rw[hi]at q;exact aC.get e q
theorem aC.set:∀{vs:List Val} {xs:List V} (n:Nat) {v:Val} {x:V},aC K ρ H vs xs->VR K ρ H v x->aC K ρ H (vs.set n v) (xs.set n x)
 |[],xs,n,v,x,e,q=>by rw[aC]at e;subst e;simp;exact aC.nil
 | w::vs,xs,0,v,x,e,q=>by
  rw[aC]at e;obtain⟨y,r,rfl,a,b⟩:=e;exact aC.cons q b
 | w::vs,xs,n+1,v,x,e,q=>by
  rw[aC]at e;obtain⟨y,r,rfl,a,b⟩:=e;exact aC.cons a (aC.set n b q)
theorem aC.one(e:aC K ρ H [v] xs):∃x,xs=[x]/\VR K ρ H v x:=by
 rw[aC]at e;obtain⟨x,r,rfl,a,b⟩:=e;rw[aC]at b;subst b;exact⟨x,rfl,a⟩
theorem aC.two(e:aC K ρ H [v,w] xs):∃x y,xs=[x,y]/\VR K ρ H v x/\VR K ρ H w y:=by
 rw[aC]at e;obtain⟨x,r,rfl,a,b⟩:=e;obtain⟨y,rfl,c⟩:=aC.one b;exact⟨x,y,rfl,a,c⟩
theorem VR.int{i:Int}:VR K ρ H (.int i) (.int i):=by rw[VR]
theorem VR.str:VR K ρ H (.str i) (.str i):=by rw[VR]
theorem VR.bl{i:Bool}:VR K ρ H (.bl i) (.bl i):=by rw[VR]
theorem VR.non:VR K ρ H .non .non:=by rw[VR]
theorem VR.tup(q:iV K H a xs)(e:aC K ρ H vs xs):VR K ρ H (.tup vs) (.ref a):=by rw[VR];exact⟨a,xs,rfl,q,e⟩
theorem VR.ref{i:Nat}(q:ρ[i]?=some a):VR K ρ H (.ref i) (.ref a):=by rw[VR];exact⟨a,rfl,q⟩
theorem aC.ints:∀{ns:List Int} {xs:List V},aC K ρ H (ns.map Val.int) xs↔xs=ns.map V.int
 |[],xs=>by simp[aC]
 | n::ns,xs=>by
  simp only[map_cons];rw[aC];constructor
  ·rintro⟨x,r,rfl,a,b⟩;rw[VR]at a;subst a;rw[(aC.ints (ns:=ns)).mp b]
  ·rintro rfl;exact⟨_,_,rfl,VR.int,(aC.ints (ns:=ns)).mpr rfl⟩
theorem aC.tups:∀{nK:List (List Int)} {xs:List V},aC K ρ H (nK.map kh) xs->∃rs:List (Addr×List Int),xs=rs.map (λr=>V.ref r.1)/\nK=rs.map (·.2)/\∀r∈rs,iV K H r.1 (r.2.map V.int)
 |[],xs,e=>by simp only[map_nil]at e;rw[aC]at e;exact⟨[],e,rfl,λ_ z=>nomatch z⟩
 | ks::nK,xs,e=>by
  simp only[map_cons]at e;rw[aC]at e;obtain⟨x,r,rfl,a,b⟩:=e;obtain⟨rs,e1,e2,e3⟩:=aC.tups b;unfold kh at a;rw[VR]at a;obtain⟨p,ys,rfl,g1,g2⟩:=a;rw[aC.ints.mp g2]at g1;refine⟨(p,ks)::rs,by rw[e1];rfl,by rw[e2];rfl,λr hr=>?_⟩
  rcases WH.mp hr with z|z
  ·rw[z];exact g1
  ·exact e3 r z
theorem aC.xQ:∀{rs:List (Addr×List Int)},(∀r∈rs,iV K H r.1 (r.2.map V.int))->aC K ρ H ((rs.map (·.2)).map kh) (rs.map λr=>V.ref r.1)
 |[],_=>aC.nil
 |r::rs,e=>aC.cons (VR.tup (e r Wx) (aC.ints.mpr rfl)) (aC.xQ λq hq=>e q (Ww _ hq))
theorem OR.mu(q:OR B ρ H a o):∃u,H a=some u/\Mu u=true:=by
 cases o with
 |lst xs=>obtain⟨ys,e,_⟩:=q;exact⟨_,e,rfl⟩
 |dct xs=>obtain⟨ys,e,_⟩:=q;exact⟨_,e,rfl⟩
 |ins c fs=>obtain⟨dx,ys,e,_⟩:=q;exact⟨_,e,rfl⟩
theorem HR.mu(r:HR B ρ h H)(e:a ∈ ρ):∃u,H a=some u/\Mu u=true:=by
 obtain⟨i,hi,rfl⟩:=Yc e;have hi':i<h.length:=by rw[<-r.len];exact hi
 exact(r.ob i _ _ (WS hi') (WS hi)).mu
theorem HR.out(r:HR B ρ h H)(e:H p=none):p ∉ ρ:=λz=>by
 obtain⟨u,q,_⟩:=r.mu z;rw[e]at q;cases q
theorem OR.j4(g:Gw ρ H ρ' H')(e:H' a=H a)(q:OR B ρ H a o):OR B ρ' H' a o:=by
 cases o with
 |lst xs=>obtain⟨ys,e1,e2⟩:=q;exact⟨ys,e.trans e1,aC.j4 g _ _ e2⟩
 |dct xs=>obtain⟨ys,e1,e2⟩:=q;exact⟨ys,e.trans e1,fJ.j4 g _ _ e2⟩
 |ins c fs=>obtain⟨dx,ys,e1,e2⟩:=q;exact⟨dx,ys,e.trans e1,IU.j4 g _ _ e2⟩
theorem OR.up(g:Gr ρ H ρ' H')(e:H' a=H a)(q:OR B ρ H a o):OR B ρ' H' a o:=OR.j4 g.w e q
theorem Gr.side(e:H p=none):Gr ρ H ρ (upd H p o) where
 pre:=WK _
 keep a u q _:=by rw[aG (aR q e)];exact q
 firm a u q _:=by rw[aG (aR q e)];exact q
 fresh a z n:=absurd z n
theorem HR.side(r:HR B ρ h H)(e:H p=none):HR B ρ h (upd H p o) where
 len:=r.len
 nd:=r.nd
 ob i u a q1 q2:=by refine OR.up (Gr.side e) ?_ (r.ob i u a q1 q2);refine aG λz=>?_;subst z;exact r.out e (WM q2)
theorem Gw.other(e:H p=some u)(hm:Mu u=true):Gw ρ H ρ (upd H p o) where
 pre:=WK _
 firm a w q n:=by
  have:a≠p:=λz=>by subst z;rw[e]at q;cases q;rw[hm]at n;cases n
  rw[aG this];exact q
theorem HR.other(r:HR B ρ h H)(hp:p ∉ ρ)(e:H p=some u)(hm:Mu u=true):HR B ρ h (upd H p o) where
 len:=r.len
 nd:=r.nd
 ob i w a q1 q2:=OR.j4 (Gw.other e hm) (aG λz=>by subst z;exact hp (WM q2)) (r.ob i w a q1 q2)
theorem Gr.new(e:H p=none):Gr ρ H (ρ ++ [p]) (upd H p o) where
 pre:=Xi _ _
 keep a u q _:=by rw[aG (aR q e)];exact q
 firm a u q _:=by rw[aG (aR q e)];exact q
 fresh a z n:=by
  rcases W3.mp z with z|z
  ·exact absurd z n
  ·rw[WD.mp z];exact e
theorem HR.new(r:HR B ρ h H)(e:H p=none)(q:OR B (ρ ++ [p]) (upd H p o) p u):HR B (ρ ++ [p]) (h++[u]) (upd H p o) where
 len:=by simp[r.len]
 nd:=by rw[Xq];refine⟨r.nd,by simp,λa ha b hb=>?_⟩;rw[WD.mp hb];rintro rfl;exact r.out e ha
 ob i v a q1 q2:=by
  by_cases hi:i<h.length
  ·rw[WE hi]at q1;rw[WE (by rw[r.len];exact hi)]at q2;refine OR.up (Gr.new e) (aG λz=>?_) (r.ob i v a q1 q2);subst z;exact r.out e (WM q2)
  ·rw[WX (by omega)]at q1
   rw[WX (by rw[r.len];omega)]at q2;have hi0:i-h.length=0:=by have:=(Wo.mp q1).1;simp at this;omega
   rw[hi0]at q1;rw[r.len,hi0]at q2;simp at q1 q2;subst q1;subst q2;exact q
theorem xR(r:HR B ρ h H):VR K (ρ ++ [p]) H' (.ref h.length) (.ref p):=VR.ref (by rw[<-r.len];simp)
theorem Gy{α:Type}:∀{l:List α} {i j:Nat} {a:α},l.Nodup->l[i]?=some a->l[j]?=some a->i=j
 |[],i,j,a,_,e,_=>by simp at e
 |b::l,0,0,a,_,_,_=>rfl
 | b::l,0,j+1,a,n,e,f=>by
  simp at e f;subst e;exact absurd (WM f) (W6.mp n).1
 | b::l,i+1,0,a,n,e,f=>by
  simp at e f;subst f;exact absurd (WM e) (W6.mp n).1
 | b::l,i+1,j+1,a,n,e,f=>by
  simp at e f;rw[Gy (W6.mp n).2 e f]
theorem Gr.put(hp:p ∈ ρ)(e:H p=some u)(hm:Mu u=true):Gr ρ H ρ (upd H p o) where
 pre:=WK _
 keep a w q n:=by rw[aG λz=>n (by rw[z];exact hp)];exact q
 firm a w q n:=by
  have:a≠p:=λz=>by subst z;rw[e]at q;cases q;rw[hm]at n;cases n
  rw[aG this];exact q
 fresh a z n:=absurd z n
theorem HR.put{i:Nat}(r:HR B ρ h H)(hi:ρ[i]?=some p)(e:h[i]?=some w)(q:OR B ρ (upd H p o) p u):HR B ρ (h.set i u) (upd H p o) where
 len:=by simp[r.len]
 nd:=r.nd
 ob j v a q1 q2:=by
  obtain⟨z,k1,k2⟩:=(r.ob i w p e hi).mu
  by_cases hj:j=i
  ·subst hj;rw[hi]at q2;cases q2;have hlt:j<h.length:=(Wo.mp e).1;rw[Wz hlt]at q1;cases q1;exact q
  ·rw[Ws (λz=>hj z.symm)]at q1;refine OR.up (Gr.put (WM hi) k1 k2) (aG λz=>?_) (r.ob j v a q1 q2);subst z;exact hj (Gy r.nd q2 hi)
theorem fG(r:HR B ρ h H)(q:VR B.K ρ H v x)(e:aF h v=some xs):∃a ys,x=.ref a/\gR B.K H a ys/\aC B.K ρ H xs ys:=by
 cases v with
 |rl vs=>simp only[aF]at e;cases e;rw[VR]at q;obtain⟨a,ys,rfl,k1,k2⟩:=q;exact⟨a,ys,rfl,k1.sq,k2⟩
 |ref i=>
  simp only[aF]at e;split at e
  ·rename_i zs e1;cases e;rw[VR]at q;obtain⟨a,rfl,k1⟩:=q;obtain⟨ys,k2,k3⟩:=r.ob i _ a e1 k1;exact⟨a,ys,rfl,.inl (.inl k2),k3⟩
  ·cases e
 |_=>cases e
theorem jM{i:Nat}(r:HR B ρ h H)(q:VR B.K ρ H (.ref i) x)(e:h[i]?=some (.lst xs)):∃a ys,x=.ref a /\ ρ[i]?=some a/\H a=some (.lst ys)/\aC B.K ρ H xs ys:=by
 rw[VR]at q;obtain⟨a,rfl,k1⟩:=q;obtain⟨ys,k2,k3⟩:=r.ob i _ a e k1;exact⟨a,ys,rfl,k1,k2,k3⟩
theorem wc(r:HR B ρ h H)(q:VR B.K ρ H v x)(e:cP h v=some xs):∃a ys,x=.ref a/\(gR B.K H a ys\/iV B.K H a ys)/\aC B.K ρ H xs ys:=by
 cases v with
 |tup vs=>simp only[cP]at e;cases e;rw[VR]at q;obtain⟨a,ys,rfl,k1,k2⟩:=q;exact⟨a,ys,rfl,.inr k1,k2⟩
 |rl vs=>obtain⟨a,ys,e1,k1,k2⟩:=fG r q (show aF h (.rl vs)=some xs from e);exact⟨a,ys,e1,.inl k1,k2⟩
 |ref vs=>obtain⟨a,ys,e1,k1,k2⟩:=fG r q (show aF h (.ref vs)=some xs from e);exact⟨a,ys,e1,.inl k1,k2⟩
 |_=>cases e
theorem l6(r:HR B ρ h H):∀(n:Nat) (v:Val) (x:V) (d:PyData),VR B.K ρ H v x->toD n h v=some d->Den B.K H d x/\d.canLay0=true/\d.depth<=n:=by
 intro n
 induction n with
 |zero=>intro v x d _ e;simp only[toD]at e;cases e
 |succ n ih=>
  have all:∀(vs:List Val) (xs:List V) (ds:List PyData),aC B.K ρ H vs xs->cJ (toD n h) vs=some ds->dG B.K H ds xs/\PyData.canLayAll0 ds=true/\PyData.depthAll ds<=n:=by
   intro vs
   induction vs with
   |nil=>intro xs ds q e;simp only[cJ]at e;cases e;rw[aC]at q;subst q;exact⟨dG.nil,rfl,by simp[PyData.depthAll]⟩
   |cons v vs Uo=>intro xs ds q e;simp only[cJ]at e;obtain⟨d,e1,e⟩:=Wn.mp e;obtain⟨ds',e2,e⟩:=Wn.mp e;cases e;rw[aC]at q;obtain⟨x,r,rfl,q1,q2⟩:=q;obtain⟨a1,a2,a3⟩:=ih v x d q1 e1;obtain⟨b1,b2,b3⟩:=Uo r ds' q2 e2;refine⟨dG.cons a1 b1,by simp[PyData.canLayAll0,a2,b2],?_⟩;simp only[PyData.depthAll];omega
  intro v x d q e;cases v with
  |non=>simp only[toD]at e;cases e;rw[VR]at q;subst q;exact⟨Den.none,rfl,by simp[PyData.depth]⟩
  |bl b=>simp only[toD]at e;cases e;rw[VR]at q;subst q;exact⟨Den.bool,rfl,by simp[PyData.depth]⟩
  |int b=>simp only[toD]at e;cases e;rw[VR]at q;subst q;exact⟨Den.int,rfl,by simp[PyData.depth]⟩
  |str b=>
   simp only[toD]at e;split at e
   ·rename_i hs;cases e;rw[VR]at q;subst q;exact⟨Den.str,by simp[PyData.canLay0,hs],by simp[PyData.depth]⟩
   ·cases e
  |tup vs=>simp only[toD]at e;obtain⟨ds,e1,e⟩:=Wn.mp e;cases e;rw[VR]at q;obtain⟨a,xs,rfl,q1,q2⟩:=q;obtain⟨b1,b2,b3⟩:=all vs xs ds q2 e1;exact⟨Den.tuple q1 b1,by simp[PyData.canLay0,b2],by simp only[PyData.depth];omega⟩
  |rl vs=>simp only[toD]at e;obtain⟨ds,e1,e⟩:=Wn.mp e;cases e;rw[VR]at q;obtain⟨a,xs,rfl,q1,q2⟩:=q;obtain⟨b1,b2,b3⟩:=all vs xs ds q2 e1;exact⟨Den.list q1.sq b1,by simp[PyData.canLay0,b2],by simp only[PyData.depth];omega⟩
  |dc _ _=>rw[VR]at q;exact q.elim
  |ob _ _ _=>rw[VR]at q;exact q.elim
  |ref i=>simp only[toD]at e;obtain⟨vs,e0,e⟩:=Wn.mp e;obtain⟨ds,e1,e⟩:=Wn.mp e;cases e;obtain⟨a,xs,rfl,q1,q2⟩:=fG r q e0;obtain⟨b1,b2,b3⟩:=all vs xs ds q2 e1;exact⟨Den.list q1 b1,by simp[PyData.canLay0,b2],by simp only[PyData.depth];omega⟩
end
theorem l7(x:List Int):∀l,(rV x l).Perm (x::l)
 |[]=>.refl _
 | y::r=>by
  unfold rV;split
  ·exact((l7 x r).cons y).trans (.swap _ _ _)
  ·exact .refl _
theorem oz:∀l,(kZ l).Perm l
 |[]=>.refl _
 |x::r=>(l7 x _).trans ((oz r).cons x)
theorem uf{a b c:List Int}(h1:HT.lexLt b a=false)(h2:HT.lexLt c b=false):HT.lexLt c a=false:=by
 cases e:HT.lexLt c a with
 |false=>rfl
 |true=>
  rcases rQ.qv c b a e with z|z
  ·rw[h2]at z;cases z
  ·rw[h1]at z;cases z
theorem ug{a b:List Int}(h:HT.lexLt a b=true):HT.lexLt b a=false:=by
 cases e:HT.lexLt b a with
 |false=>rfl
 |true=>have:=rQ.gD _ _ _ h e;rw[rQ.iL]at this;cases this
theorem xS(x:List Int):∀l:List (List Int),l.Pairwise (λa b=>HT.lexLt b a=false)->(rV x l).Pairwise (λa b=>HT.lexLt b a=false)
 |[],_=>by simp[rV]
 | y::r,h=>by
  obtain⟨h1,h2⟩:=Xh.mp h;unfold rV
  split
  ·rename_i hlt
   refine Xh.mpr ⟨λz hz=>?_,xS x r h2⟩
   rcases WH.mp ((l7 x r).mem_iff.mp hz) with rfl|hz
   ·exact ug hlt
   ·exact h1 z hz
  ·rename_i hlt
   refine Xh.mpr ⟨λz hz=>?_,h⟩;have hxy:HT.lexLt y x=false:=by simpa using hlt
   rcases WH.mp hz with rfl|hz
   ·exact hxy
   ·exact uf hxy (h1 z hz)
theorem uh:∀l,(kZ l).Pairwise (λa b=>HT.lexLt b a=false)
 |[]=>.nil
 |x::r=>xS x _ (uh r)
theorem Bt(hp:l.Perm nK)(hs:l.Pairwise (λa b=>HT.lexLt b a=false)):l=kZ nK :=
 List.Perm.eq_of_pairwise (λa b _ _ h1 h2=>rQ.gC a b h2 h1) hs (uh nK) (hp.trans (oz nK).symm)
theorem zA{ns:List Int}{m:Int}(h:m∈ns)(h2:∀a∈ns,m<=a):rW ns=some (.int m):=by
 cases ns with
 |nil=>cases h
 |cons a r=>
  have key:∀(r:List Int) (a:Int),(r.foldl min a)∈a::r/\∀b∈a::r,r.foldl min a<=b:=by
   intro r
   induction r with
   |nil=>intro a;simp
   |cons c r ih=>
    intro a;obtain⟨q1,q2⟩:=ih (min a c);refine⟨?_,λb hb=>?_⟩
    ·show List.foldl min (min a c) r∈_
     rcases WH.mp q1 with z|z
     ·rw[z]
      rcases Int.le_total a c with hc|hc
      ·rw[Int.min_eq_left hc];exact Wx
      ·rw[Int.min_eq_right hc];exact Ww _ Wx
     ·exact Ww _ (Ww _ z)
    ·show List.foldl min (min a c) r<=b
     have q3:=q2 (min a c) Wx
     rcases WH.mp hb with z|z
     ·subst z;omega
     ·rcases WH.mp z with z|z
      ·subst z;omega
      ·exact q2 b (Ww _ z)
  obtain⟨q1,q2⟩:=key r a;show some (Val.int (r.foldl min a))=_;rw[Int.le_antisymm (q2 m h) (h2 _ q1)]
theorem zB{ns:List Int}{m:Int}(h:m∈ns)(h2:∀a∈ns,a<=m):rX ns=some (.int m):=by
 cases ns with
 |nil=>cases h
 |cons a r=>
  have key:∀(r:List Int) (a:Int),(r.foldl max a)∈a::r/\∀b∈a::r,b<=r.foldl max a:=by
   intro r
   induction r with
   |nil=>intro a;simp
   |cons c r ih=>
    intro a;obtain⟨q1,q2⟩:=ih (max a c);refine⟨?_,λb hb=>?_⟩
    ·show List.foldl max (max a c) r∈_
     rcases WH.mp q1 with z|z
     ·rw[z]
      rcases Int.le_total a c with hc|hc
      ·rw[Int.max_eq_right hc];exact Ww _ Wx
      ·rw[Int.max_eq_left hc];exact Wx
     ·exact Ww _ (Ww _ z)
    ·show b<=List.foldl max (max a c) r
     have q3:=q2 (max a c) Wx
     rcases WH.mp hb with z|z
     ·subst z;omega
     ·rcases WH.mp z with z|z
      ·subst z;omega
      ·exact q2 b (Ww _ z)
  obtain⟨q1,q2⟩:=key r a;show some (Val.int (r.foldl max a))=_;rw[Int.le_antisymm (h2 _ q1) (q2 m h)]
def Post(B:Bd)(EX:Nat->List V->Hp->Prop)(ρ:List Addr)(H:Hp){α:Type}(W:α -> Hs->List Addr->Hp->Prop):Out α -> Prop
 |.ok a h'=>∀ρ' H',Gr ρ H ρ' H'->HR B ρ' h' H'->W a h' ρ' H'
 |.exc c vs h'=>∀ρ' H' xs,Gr ρ H ρ' H'->HR B ρ' h' H'->aC B.K ρ' H' vs xs->EX c xs H'
 |.no=>False
def WV(K:Frag)(Q:VK):Val->Hs->List Addr->Hp->Prop:=λv _ ρ' H'=>∀x,VR K ρ' H' v x->Q x H'
section
variable {B:Bd} {EX:Nat->List V->Hp->Prop} {ρ ρ':List Addr} {H H':Hp} {α β:Type} {W:β -> Hs->List Addr->Hp->Prop} {h h':Hs} {Q:VK}
theorem Post.up(g:Gr ρ H ρ' H')(p:Post B EX ρ H W o):Post B EX ρ' H' W o:=by
 cases o with
 |ok a h'=>exact λρ2 H2 g2 r=>p ρ2 H2 (g.trans g2) r
 |exc c vs h'=>exact λρ2 H2 xs g2 r=>p ρ2 H2 xs (g.trans g2) r
 |no=>exact p
theorem aN{c:Bool}(p:Post B EX ρ H W (aH c m h)):c=true/\Post B EX ρ H W (m h):=by
 unfold aH at p;split at p
 ·rename_i e;exact⟨e,p⟩
 ·exact p.elim
theorem aE(p:Post B EX ρ H W (bnd (ask f) g h)):∃a,f h=some a/\Post B EX ρ H W (g a h):=by
 unfold bnd ask bf at p;cases e:f h with
 |none=>rw[e]at p;exact p.elim
 |some a=>rw[e]at p;exact⟨a,rfl,p⟩
theorem dj(r:HR B ρ h H)(p:Post B EX ρ H W (ask f h)):∃a,f h=some a/\W a h ρ H:=by
 unfold ask bf at p;cases e:f h with
 |none=>rw[e]at p;exact p.elim
 |some a=>rw[e]at p;exact⟨a,rfl,p ρ H Gr.refl r⟩
theorem b6(p:Post B EX ρ H W (bnd (bf o) g h)):∃a,o=some a/\Post B EX ρ H W (g a h):=by
 unfold bnd bf at p;cases e:o with
 |none=>rw[e]at p;exact p.elim
 |some a=>rw[e]at p;exact⟨a,rfl,p⟩
theorem cB(r:HR B ρ h H)(p:Post B EX ρ H W (bf o h)):∃a,o=some a/\W a h ρ H:=by
 unfold bf at p;cases e:o with
 |none=>rw[e]at p;exact p.elim
 |some a=>rw[e]at p;exact⟨a,rfl,p ρ H Gr.refl r⟩
theorem aj(r:HR B ρ h H)(p:Post B EX ρ H W (ret a h)):W a h ρ H:=p ρ H Gr.refl r
theorem um(r:HR B ρ h H)(hp:H p=none)(q:OR B (ρ ++ [p]) (upd H p O) p o)(w:Post B EX ρ H (WV B.K Q) (new o h)):Q (.ref p) (upd H p O) :=
 w (ρ ++ [p]) (upd H p O) (Gr.new hp) (r.new hp q) _ (xR r)
theorem dm(r:HR B ρ h H)(hp:H p=none)(q:aC B.K ρ H xs ys)(w:Post B EX ρ H (WV B.K Q) (new (.lst xs) h)):Q (.ref p) (upd H p (.lst ys)) :=
 um (o:=.lst xs) (O:=.lst ys) r hp ⟨ys,aZ,aC.up (Gr.new hp) _ _ q⟩ w
theorem oA(r:HR B ρ h H)(hp:H p=none)(q:aC B.K ρ H xs ys)(w:Post B EX ρ H (WV B.K Q) (ret (Val.tup xs) h)):Q (.ref p) (upd H p (.tup ys)) :=
 w ρ (upd H p (.tup ys)) (Gr.side hp) (r.side hp) _ (VR.tup (iV.of aZ) (aC.up (Gr.side hp) _ _ q))
theorem aB(p:Post B EX ρ H W (bnd m f h))(k:∀v h1 ρ1 x H1,Gr ρ H ρ1 H1->HR B ρ1 h1 H1->VR B.K ρ1 H1 v x->Post B EX ρ1 H1 W (f v h1)->Q x H1):Post B EX ρ H (WV B.K Q) (m h):=by
 unfold bnd at p;cases e:m h with
 |ok v h1=>rw[e]at p;exact λρ1 H1 g r x q=>k v h1 ρ1 x H1 g r q (Post.up g p)
 |exc c vs h1=>rw[e]at p;exact p
 |no=>rw[e]at p;exact p
theorem bI(p:Post B EX ρ H W (bnd m f h))(k:∀v h1 ρ1 H1,Gr ρ H ρ1 H1->HR B ρ1 h1 H1->Post B EX ρ1 H1 W (f v h1)->W' v h1 ρ1 H1):Post B EX ρ H W' (m h):=by
 unfold bnd at p;cases e:m h with
 |ok v h1=>rw[e]at p;exact λρ1 H1 g r=>k v h1 ρ1 H1 g r (Post.up g p)
 |exc c vs h1=>rw[e]at p;exact p
 |no=>rw[e]at p;exact p
end
theorem dw:∀{ds:List Val} {ns:List Int},aS ds=some ns->ds=ns.map .int
 |[],ns,e=>by simp only[aS,cJ]at e;cases e;rfl
 | v::r,ns,e=>by
  simp only[aS,cJ]at e;obtain⟨i,e1,e⟩:=Wn.mp e;obtain⟨is,e2,e⟩:=Wn.mp e;cases e;cases v<;>first|cases e1|skip
  rw[dw (show aS r=some is from e2)];rfl
theorem qH:∀{ds:List Val} {nK:List (List Int)},jZ ds=some nK->ds=nK.map kh/\∀ks∈nK,ks≠[]
 |[],ns,e=>by simp only[jZ,cJ]at e;cases e;exact⟨rfl,λ_ z=>nomatch z⟩
 | v::r,ns,e=>by
  simp only[jZ,cJ]at e;obtain⟨i,e1,e⟩:=Wn.mp e;obtain⟨is,e2,e⟩:=Wn.mp e;cases e;cases v<;>first|cases e1|skip
  rename_i vs;dsimp only at e1;split at e1
  ·cases e1
  ·rename_i hne
   obtain⟨q1,q2⟩:=qH (show jZ r=some is from e2);have e3:=dw e1;subst e3;refine⟨by rw[q1];rfl,λks hk=>?_⟩
   rcases WH.mp hk with z|z
   ·subst z;intro z;subst z;exact hne rfl
   ·exact q2 ks z
section
variable {X:Cx} {cl:Nat->Addr} {EX:Nat->List V->Hp->Prop}
abbrev bd(X:Cx)(cl:Nat->Addr):Bd:=⟨X.K,cl⟩
theorem Ef:lT X (binaryOp .Add) (λx y H Q=>∃a b xs ys,x=.ref a/\y=.ref b/\gR X.K H a xs/\gR X.K H b ys/\xs.length+ys.length<=sizeLine/\∀p,H p=none->Q (.ref p) (upd H p (.lst (xs++ys)))):=by
 intro pins s σ H x y v u Q I rx ry h;obtain⟨l,l',xs,ys,rfl,rfl,q1,q3,hl,q⟩:=h;cases rx;cases ry;obtain⟨its,r1,Uq,z1⟩:=I.list q1;obtain⟨its',r2,Ur,z2⟩:=I.list q3;have l1:=r1.length;have l2:=r2.length;obtain⟨⟨oc,od,Uc,osl⟩,n1,e1,e2,_,e4⟩:=Uq;obtain⟨⟨Wc,od',Us,QY⟩,n2,f1,f2,_,f4⟩:=Ur;cases e2;cases e4;cases f2;cases f4;refine concat_meets ⟨_,e1,rfl⟩ ⟨_,f1,rfl⟩ noFill_list_add seq_list_add PySem.F.slot_list_add PySem.F.entry_list_add (PySem.F.args_list_add_2 _ _) (list_addW l l' its.toArray its'.toArray n1 n2 od od' osl QY (by simp only[size_toArray];omega)) ⟨e1,f1,?_⟩;have ea:its.toArray++its'.toArray=(its++its').toArray:=by simp
 rw[ea];have hn:H s.heap.objs.size=none:=I.hok.fresh (Wy _);exact⟨.ref s.heap.objs.size,_,I.QA (t':=s.toks) (its:=its++its') (r1.append r2) (by rw[WN];omega),rfl,q _ hn⟩
def Bu:Gu->Operator
 |.add=>.Add|.sub=>.Sub|.mul=>.Mult|.fdiv=>.FloorDiv|.mod=>.Mod|.pow=>.Pow
def xT:IQ->CmpOp
 |.eq=>.Eq|.ne=>.NotEq|.lt=>.Lt|.le=>.LtE|.gt=>.Gt|.ge=>.GtE|.isn=>.Is|.ntn=>.IsNot|.IT=>.In|.nin=>.NotIn
def rB(B:Bd)(EX:Nat->List V->Hp->Prop)(o:Gu):R2:=λx y H Q=>∃ρ h v w,HR B ρ h H/\VR B.K ρ H v x/\VR B.K ρ H w y/\Post B EX ρ H (WV B.K Q) (LL o v w h)
theorem ki.log{j:Int}(h:ki j=true):0<j/\j.natAbs.log2<9000:=by
 have h:=WQ h;refine⟨h.1,(Nat.log2_lt (by omega)).mpr ?_⟩;have e:j.natAbs<2 ^ 200:=by
  have:(2:Nat) ^ 200=1606938044258990275541962092341162602522202993782792835301376:=by decide
  omega
 exact WC e (Nat.pow_le_pow_right (by decide) (by decide))
theorem Bv:lT X (binaryOp .FloorDiv) (rI (λ_ j=>ki j=true) λi j=>.int (i/j)):=Py λi j _ _ _ _ _ hc q=>by
 obtain⟨h1,h2⟩:=ki.log hc;exact PyProof.Rows.floordiv_int (by omega) (by rw[Int.fdiv_eq_ediv_of_nonneg i (by omega)];exact q) (.inl (PyProof.noPylong_of_log2 h2))
theorem oB(ho:o≠.add)(v w:Val)(h:Hs):(∃i j,v=.int i/\w=.int j)\/LL o v w h=.no:=by
 cases v with
 |int i=>
  cases w with
  |int j=>exact .inl ⟨i,j,rfl,rfl⟩
  |_=>right;cases o<;>first|rfl|exact absurd rfl ho
 |_=>right;cases o<;>first|rfl|exact absurd rfl ho
theorem IW(o:Gu):lT X (binaryOp (Bu o)) (rB (bd X cl) EX o):=by
 intro pins s σ H x y v' u' Q I rx ry hh;obtain⟨ρ,h,v,w,r,hv,hw,p⟩:=hh;have lists:Post (bd X cl) EX ρ H (WV X.K Q) (bnd (ask λh=>aF h v) (λa=>bnd (ask λh=>aF h w) λb=>aH (decide (a.length+b.length<=sizeLine)) (new (.lst (a++b)))) h)->wpAny (model X.prog X.w) X.A (binaryOp .Add v' u') (EP X pins σ Q) X.xe s:=by intro p;obtain⟨a,e1,p⟩:=aE p;obtain⟨b,e2,p⟩:=aE p;obtain⟨e3,p⟩:=aN p;have e3:=WQ e3;obtain⟨a1,M0,rfl,k1,k2⟩:=fG r hv e1;obtain⟨a2,QZ,rfl,k3,k4⟩:=fG r hw e2;exact Ef pins s σ H _ _ v' u' Q I rx ry ⟨a1,a2,M0,QZ,rfl,rfl,k1,k3,by rw[<-k2.length,<-k4.length];exact e3,λq hq=>dm r hq (aC.append k2 k4) p⟩
 cases o with
 |add=>
  cases v<;>cases w<;>first
   |exact lists p
   |skip
  ·rename_i a b;rw[VR]at hv hw;subst hv;subst hw;exact HV pins s σ H _ _ _ _ Q I rx ry ⟨a,b,rfl,rfl,aj r p _ VR.int⟩
  ·rename_i a b;rw[VR]at hv hw;subst hv;subst hw;obtain⟨e,p⟩:=aN p;exact vE pins s σ H _ _ _ _ Q I rx ry ⟨a,b,rfl,rfl,WQ e,aj r p _ VR.str⟩
  ·rename_i a b
   rw[VR]at hv hw;obtain⟨a1,M0,rfl,k1,k2⟩:=hv;obtain⟨a2,QZ,rfl,k3,k4⟩:=hw;obtain⟨e,p⟩:=aN p;simp only[and_eq_true,not_eq_true',decide_eq_true_eq]at e;refine DQ pins s σ H _ _ _ _ Q I rx ry ⟨a1,a2,M0,QZ,rfl,rfl,k1,k3,?_,by rw[<-k2.length,<-k4.length];exact e.2,λz=>?_,λ_ q hq=>oA r hq (aC.append k2 k4) p⟩
   ·intro z;subst z
    have:=k2.length;cases a with
    |nil=>simp at e
    |cons _ _=>simp at this
   ·subst z
    have hb:b=[]:=by cases b with|nil=>rfl|cons _ _=>have:=k4.length;simp at this
    subst hb;rw[XE]at p;exact aj r p _ (VR.tup k1 k2)
 |sub=>
  rcases oB (o:=.sub) (by intro z;cases z) v w h with ⟨i,j,rfl,rfl⟩|z
  case inr=>rw[z]at p;exact p.elim
  rw[VR]at hv hw;subst hv;subst hw;exact HW pins s σ H _ _ _ _ Q I rx ry ⟨_,_,rfl,rfl,aj r p _ VR.int⟩
 |mul=>
  rcases oB (o:=.mul) (by intro z;cases z) v w h with ⟨i,j,rfl,rfl⟩|z
  case inr=>rw[z]at p;exact p.elim
  rw[VR]at hv hw;subst hv;subst hw;obtain⟨hm,p⟩:=aN p;refine HX pins s σ H _ _ _ _ Q I rx ry ⟨_,_,rfl,rfl,?_,aj r p _ VR.int⟩;unfold j3 at hm;simp only[or_eq_true,and_eq_true,decide_eq_true_eq]at hm;exact hm
 |fdiv=>
  rcases oB (o:=.fdiv) (by intro z;cases z) v w h with ⟨i,j,rfl,rfl⟩|z
  case inr=>rw[z]at p;exact p.elim
  rw[VR]at hv hw;subst hv;subst hw;obtain⟨hm,p⟩:=aN p;exact Bv pins s σ H _ _ _ _ Q I rx ry ⟨_,_,rfl,rfl,hm,aj r p _ VR.int⟩
 |mod=>
  rcases oB (o:=.mod) (by intro z;cases z) v w h with ⟨i,j,rfl,rfl⟩|z
  case inr=>rw[z]at p;exact p.elim
  rw[VR]at hv hw;subst hv;subst hw;obtain⟨hm,p⟩:=aN p;exact HY pins s σ H _ _ _ _ Q I rx ry ⟨_,_,rfl,rfl,WQ hm,aj r p _ VR.int⟩
 |pow=>
  rcases oB (o:=.pow) (by intro z;cases z) v w h with ⟨i,j,rfl,rfl⟩|z
  case inr=>rw[z]at p;exact p.elim
  rw[VR]at hv hw;subst hv;subst hw;obtain⟨hm,p⟩:=aN p;have hm:=WQ hm;exact HZ pins s σ H _ _ _ _ Q I rx ry ⟨_,_,rfl,rfl,hm,aj r p _ VR.int⟩
end
section
variable {X:Cx} {cl:Nat->Addr} {EX:Nat->List V->Hp->Prop}
theorem uo{b:Bool}(e:xP h v w=some b):∃d f,toD 16 h v=some d/\toD 16 h w=some f/\b=PyData.eqv d f:=by
 unfold xP at e;obtain⟨d,e1,e⟩:=Wn.mp e;obtain⟨f,e2,e⟩:=Wn.mp e;exact⟨d,f,e1,e2,(WR e).symm⟩
theorem xU{K:Frag}{ρ:List Addr}{H:Hp}{v:Val}{x:V}(q:VR K ρ H v x):decide (x=.non)=k7 v:=by
 cases v<;>rw[VR]at q
 ·subst q;rfl
 ·subst q;rfl
 ·subst q;rfl
 ·subst q;rfl
 ·obtain⟨a,xs,rfl,_⟩:=q;rfl
 ·obtain⟨a,xs,rfl,_⟩:=q;rfl
 ·exact q.elim
 ·exact q.elim
 ·obtain⟨a,rfl,_⟩:=q;rfl
theorem IX(hu:X.A.units+64<cLine)(neg:Bool):lT X (compareOp (if neg=true then .NotIn else .In)) (λx y H Q=>∃d f ds,Den X.K H d x/\Den X.K H f y/\d.canLay0=true/\f.canLay0=true/\d.depth<=16/\(f=.list ds\/f=.tuple ds)/\Q (.bl (if neg=true then !(ds.any λy=>PyData.eqv y d) else ds.any λy=>PyData.eqv y d)) H):=by
 intro pins s σ H x y v u Q I rx ry hh;obtain⟨d,f,ds,hd,hf,c1,c2,hz,e,q⟩:=hh;obtain⟨as,ra⟩:=Den.reads I d x v c1 hd rx;obtain⟨bs,rb⟩:=Den.reads I f y u c2 hf ry;have PK:X.A.units+1+min (PyData.depthAll ds) d.depth<cLine:=by have:=Nat.min_le_right (PyData.depthAll ds) d.depth;omega
 rcases e with rfl|rfl
 ·have c3:PyData.canLayAll0 ds=true:=by simpa [PyData.canLay0] using c2
  cases neg with
  |true=>exact SeqAt.notIn_list_reads rb ra c3 c1 PK ⟨.bl _,H,I,rfl,q⟩
  |false=>exact SeqAt.in_list_reads rb ra c3 c1 PK ⟨.bl _,H,I,rfl,q⟩
 ·have c3:PyData.canLayAll0 ds=true:=by simpa [PyData.canLay0] using c2
  cases neg with
  |true=>exact SeqAt.notIn_tuple_reads rb ra c3 c1 PK ⟨.bl _,H,I,rfl,q⟩
  |false=>exact SeqAt.in_tuple_reads rb ra c3 c1 PK ⟨.bl _,H,I,rfl,q⟩
theorem fJ.val{K:Frag}{ρ:List Addr}{H:Hp}(k:Key):∀{kvs:List (Key×Val)} {ks:List (Key×V)},fJ K ρ H kvs ks->(bP kvs k=none->eF ks k=none)/\∀v,bP kvs k=some v->∃x,eF ks k=some x/\VR K ρ H v x
 | [],ks,e=>by
  have:ks=[]:=e;subst this;exact⟨λ_=>rfl,λv z=>by simp[bP]at z⟩
 | (k',v')::kvs,ks,⟨x,r,e,q1,q2⟩=>by
  subst e;obtain⟨a,b⟩:=fJ.val k q2
  by_cases hk:k'=k
  ·subst hk;refine⟨λz=>by simp[bP]at z,λv z=>⟨x,by simp[eF],?_⟩⟩;simp[bP]at z;subst z;exact q1
  ·have e1:bP ((k',v')::kvs) k=bP kvs k:=by simp[bP,hk]
   have e2:eF ((k',x)::r) k=eF r k:=by simp[eF,hk]
   rw[e1,e2];exact⟨a,b⟩
theorem fJ.length{K:Frag}{ρ:List Addr}{H:Hp}:∀{kvs:List (Key×Val)} {ks:List (Key×V)},fJ K ρ H kvs ks->kvs.length=ks.length
 |[],ks,e=>by have:ks=[]:=e;subst this;rfl
 |(k',v')::kvs,ks,⟨x,r,e,q1,q2⟩=>by subst e;simp[fJ.length q2]
theorem fJ.any{K:Frag}{ρ:List Addr}{H:Hp}(k:Key):∀{kvs:List (Key×Val)} {ks:List (Key×V)},fJ K ρ H kvs ks->(kvs.any λkv=>decide (kv.1=k))=(ks.any λkv=>decide (kv.1=k))
 |[],ks,e=>by have:ks=[]:=e;subst this;rfl
 |(k',v')::kvs,ks,⟨x,r,e,q1,q2⟩=>by subst e;simp only[List.any_cons];rw[fJ.any k q2]
theorem fJ.repl{K:Frag}{ρ:List Addr}{H:Hp}(k:Key){v:Val}{y:V}(q:VR K ρ H v y):∀{kvs:List (Key×Val)} {ks:List (Key×V)},fJ K ρ H kvs ks->fJ K ρ H (kvs.map λkv=>if kv.1=k then (kv.1,v) else kv) (ks.map λkv=>if kv.1=k then (kv.1,y) else kv)
 |[],ks,e=>by have:ks=[]:=e;subst this;rfl
 | (k',v')::kvs,ks,⟨x,r,e,q1,q2⟩=>by
  subst e;simp only[map_cons]
  by_cases hk:k'=k
  ·rw[Wu hk,Wu hk];exact⟨y,_,rfl,q,fJ.repl k q q2⟩
  ·rw[Wt hk,Wt hk];exact⟨x,_,rfl,q1,fJ.repl k q q2⟩
theorem fJ.snoc{K:Frag}{ρ:List Addr}{H:Hp}(k:Key){v:Val}{y:V}(q:VR K ρ H v y):∀{kvs:List (Key×Val)} {ks:List (Key×V)},fJ K ρ H kvs ks->fJ K ρ H (kvs++[(k,v)]) (ks++[(k,y)])
 |[],ks,e=>by have:ks=[]:=e;subst this;exact⟨y,[],rfl,q,rfl⟩
 |(k',v')::kvs,ks,⟨x,r,e,q1,q2⟩=>by subst e;exact⟨x,_,rfl,q1,fJ.snoc k q q2⟩
theorem fJ.put{K:Frag}{ρ:List Addr}{H:Hp}(k:Key){v:Val}{y:V}(q:VR K ρ H v y){kvs:List (Key×Val)}{ks:List (Key×V)}(e:fJ K ρ H kvs ks):fJ K ρ H (gU kvs k v) (putK ks k y):=by
 unfold gU putK;rw[fJ.any k e]
 split
 ·exact fJ.repl k q e
 ·exact fJ.snoc k q e
theorem IY{K:Frag}{ρ:List Addr}{H:Hp}{v:Val}{x:V}{k:Key}(q:VR K ρ H v x)(e:keyOf v=some k):x=kV k:=by
 cases v<;>simp only[keyOf]at e<;>first|cases e|skip
 ·rw[VR]at q;exact q
 ·rw[VR]at q;exact q
theorem xW(hu:X.A.units+64<cLine):LJ X (λx y H Q=>∃a v,x=.ref a/\nt H a y (some v)/\Q v H):=by
 intro value slice pins s σ H x y v u Q I rx ry h hs;obtain⟨a,z,rfl,g,q⟩:=h;cases rx;have hT:=tO I g;unfold subscriptTail;refine Wl ?_;rw[getitemInPython_of_ne hT.not_modules];refine Wl (wpAny_specialOf hT PySem.F.slot_dict_getitem.lookup ?_);have fin:wpAny (model X.prog X.w) X.A (subscripted slice false (.ref a) u) (λr s₃=>wpAny (model X.prog X.w) X.A (letTemporaryGo value (.ref a) r >>= λ_=>pure r) (EP X pins σ Q) X.xe s₃) X.xe s:=by rw[hs];exact wpAny_operating (zb (by omega) I g ry λw' s' I' r'=>Wl (wpAny_letTemporaryGo (Wv ⟨z,H,I',r',q⟩)))
 first
  |exact Wv (Wl fin)
  |exact Wl (Wv (Wl fin))
  |exact Wl fin
def rC(B:Bd)(o:IQ):R2:=λx y H Q=>∃ρ h v w b,HR B ρ h H/\VR B.K ρ H v x/\VR B.K ρ H w y/\cop h o v w=some b/\Q (.bl b) H
theorem Bw{b:Bool}(e:memD h v w=some b):∃d f ds,toD 16 h v=some d/\toD 16 h w=some f/\(f=.list ds\/f=.tuple ds)/\b=ds.any λy=>PyData.eqv y d:=by
 unfold memD at e;obtain⟨f,e1,e⟩:=Wn.mp e;obtain⟨d,e2,e⟩:=Wn.mp e;cases f<;>simp only[MY]at e<;>first|cases e|skip
 ·exact⟨d,_,_,e2,e1,.inl rfl,rfl⟩
 ·exact⟨d,_,_,e2,e1,.inr rfl,rfl⟩
theorem Bx(hu:X.A.units+64<cLine)(o:IQ):lT X (compareOp (xT o)) (rC (bd X cl) o):=by
 intro pins s σ H x y v' u' Q I rx ry hh;obtain⟨ρ,h,v,w,b,r,hv,hw,e,q⟩:=hh;have mem:∀(neg:Bool),uc h v w=some (if neg=true then !b else b)->wpAny (model X.prog X.w) X.A (compareOp (if neg=true then .NotIn else .In) v' u') (EP X pins σ Q) X.xe s:=by
  intro neg e;obtain⟨d,f,ds,e1,e2,e3,eb⟩:=Bw e
  ·obtain⟨a1,a2,a3⟩:=l6 r 16 v x d hv e1
   obtain⟨b1,b2,b3⟩:=l6 r 16 w y f hw e2;refine IX hu neg pins s σ H x y v' u' Q I rx ry ⟨d,f,ds,a1,b1,a2,b2,a3,e3,?_⟩;cases neg with
   |true=>rw[Wu rfl]at eb |-;rw[<-eb,Bool.not_not];exact q
   |false=>rw[Wt Wm]at eb |-;rw[<-eb];exact q
 cases o with
 |eq=>obtain⟨d,f,e1,e2,rfl⟩:=uo (show xP h v w=some b by exact e);obtain⟨a1,a2,a3⟩:=l6 r 16 v x d hv e1;obtain⟨b1,b2,b3⟩:=l6 r 16 w y f hw e2;exact IJ hu pins s σ H x y v' u' Q I rx ry ⟨d,f,a1,b1,a2,b2,by omega,q⟩
 |ne=>have e':(xP h v w).map (!·)=some b:=e;obtain⟨c,e3,rfl⟩:=WW.mp e';obtain⟨d,f,e1,e2,rfl⟩:=uo e3;obtain⟨a1,a2,a3⟩:=l6 r 16 v x d hv e1;obtain⟨b1,b2,b3⟩:=l6 r 16 w y f hw e2;exact IK hu pins s σ H x y v' u' Q I rx ry ⟨d,f,a1,b1,a2,b2,by omega,q⟩
 |lt=>obtain⟨i,j,rfl,rfl⟩:=ji (.inl rfl) e;cases e;rw[VR]at hv;rw[VR]at hw;subst hv;subst hw;exact Mv pins s σ H _ _ v' u' Q I rx ry ⟨_,_,rfl,rfl,q⟩
 |le=>obtain⟨i,j,rfl,rfl⟩:=ji (.inr (.inl rfl)) e;cases e;rw[VR]at hv;rw[VR]at hw;subst hv;subst hw;exact Mw pins s σ H _ _ v' u' Q I rx ry ⟨_,_,rfl,rfl,q⟩
 |gt=>obtain⟨i,j,rfl,rfl⟩:=ji (.inr (.inr (.inl rfl))) e;cases e;rw[VR]at hv;rw[VR]at hw;subst hv;subst hw;exact Mx pins s σ H _ _ v' u' Q I rx ry ⟨_,_,rfl,rfl,q⟩
 |ge=>obtain⟨i,j,rfl,rfl⟩:=ji (.inr (.inr (.inr rfl))) e;cases e;rw[VR]at hv;rw[VR]at hw;subst hv;subst hw;exact My pins s σ H _ _ v' u' Q I rx ry ⟨_,_,rfl,rfl,q⟩
 |isn=>
  have e:Gv v w=some b:=e;cases w<;>first|(cases e;done)|skip
  ·cases e;rw[VR]at hw;subst hw;refine Ia pins s σ H x _ v' u' Q I rx ry ⟨rfl,?_⟩;rw[xU hv];exact q
  ·cases v<;>first|(cases e;done)|skip
   cases e;rw[VR]at hv;rw[VR]at hw;subst hv;subst hw;exact IP pins s σ H _ _ v' u' Q I rx ry ⟨_,_,rfl,rfl,q⟩
 |ntn=>
  have e:(Gv v w).map (!·)=some b:=e;cases w<;>first|(cases e;done)|skip
  ·cases e;rw[VR]at hw;subst hw;refine DH pins s σ H x _ v' u' Q I rx ry ⟨rfl,?_⟩;rw[xU hv];exact q
  ·cases v<;>first|(cases e;done)|skip
   cases e;rw[VR]at hv;rw[VR]at hw;subst hv;subst hw;exact Ec pins s σ H _ _ v' u' Q I rx ry ⟨_,_,rfl,rfl,q⟩
 |IT=>exact mem false (by rw[Wt Wm];exact e)
 |nin=>have e':(uc h v w).map (!·)=some b:=e;obtain⟨c,e3,rfl⟩:=WW.mp e';exact mem true (by rw[e3];simp)
theorem IZ{b:Bool}(r:HR B ρ h H)(q:VR B.K ρ H v x)(e:cC h v=some b):Ib B.K x H b:=by
 cases v with
 |non=>rw[VR]at q;subst q;exact(WR e).symm
 |bl c=>rw[VR]at q;subst q;exact(WR e).symm
 |int i=>rw[VR]at q;subst q;exact(WR e).symm
 |str z=>
  rw[VR]at q;subst q;simp only[cC]at e;split at e
  ·rename_i hl;exact⟨hl,(WR e).symm⟩
  ·cases e
 |tup vs=>rw[VR]at q;obtain⟨a,xs,rfl,q1,q2⟩:=q;refine .inr (.inl ⟨xs,q1,?_⟩);rw[<-WR e];have:=q2.length;cases vs<;>cases xs<;>simp_all
 |rl vs=>rw[VR]at q;obtain⟨a,xs,rfl,q1,q2⟩:=q;refine .inl ⟨xs,q1.sq,?_⟩;rw[<-WR e];have:=q2.length;cases vs<;>cases xs<;>simp_all
 |dc _ _=>rw[VR]at q;exact q.elim
 |ob _ _ _=>rw[VR]at q;exact q.elim
 |ref i=>
  rw[VR]at q;obtain⟨a,rfl,q1⟩:=q;simp only[cC]at e;split at e
  ·rename_i vs e1;obtain⟨xs,k1,k2⟩:=r.ob i _ a e1 q1;refine .inl ⟨xs,.inl (.inl k1),?_⟩;rw[<-WR e];have:=k2.length;cases vs<;>cases xs<;>simp_all
  ·rename_i vs e1;obtain⟨xs,k1,k2⟩:=r.ob i _ a e1 q1;refine .inr (.inr ⟨xs,k1,?_⟩);rw[<-WR e];have:=k2.length;cases vs<;>cases xs<;>simp_all
  ·cases e
def Q0(B:Bd):R2:=λx y H Q=>∃ρ h v w z,HR B ρ h H/\VR B.K ρ H v x/\VR B.K ρ H w y/\jf h v w=some z/\∀u,VR B.K ρ H z u->Q u H
theorem I0(hu:X.A.units+64<cLine):LJ X (Q0 (bd X cl)):=by
 intro value slice pins s σ H x y v' u' Q I rx ry hh hs;obtain⟨ρ,h,v,w,z,r,hv,hw,e,q⟩:=hh;cases v with
 |str t=>
  cases w<;>first|cases e|skip
  rename_i i;change (if t.length<=sizeLine then (gA t.cps.toList i).map (λc=>Val.str ⟨[c].toArray⟩) else none)=some z at e;split at e
  ·rename_i hl;obtain⟨c,e1,rfl⟩:=WW.mp e;rw[VR]at hv;rw[VR]at hw;subst hv;subst hw;exact Io value slice pins s σ H _ _ v' u' Q I rx ry ⟨t,i,c,rfl,rfl,hl,e1,q _ VR.str⟩ hs
  ·cases e
 |tup vs=>
  cases w<;>first|cases e|skip
  rename_i i;rw[VR]at hv;rw[VR]at hw;subst hw;obtain⟨a,xs,rfl,q1,q2⟩:=hv;obtain⟨t,e2,q3⟩:=aC.gA q2 e;exact Im value slice pins s σ H _ _ v' u' Q I rx ry ⟨a,xs,i,t,rfl,rfl,q1,e2,q _ q3⟩ hs
 |rl vs=>
  cases w<;>first|cases e|skip
  rename_i i;rw[VR]at hv;rw[VR]at hw;subst hw;obtain⟨a,xs,rfl,q1,q2⟩:=hv;obtain⟨t,e2,q3⟩:=aC.gA q2 e;exact xD value slice pins s σ H _ _ v' u' Q I rx ry ⟨a,xs,i,t,rfl,rfl,q1.sq,e2,q _ q3⟩ hs
 |ref j=>
  cases w with
  |int i=>
   change (match h[j]? with|some (.dct kvs)=>bP kvs (.inl i)|_=>(aF h (.ref j)).bind λxs=>gA xs i)=some z at e;split at e
   ·rename_i kvs e1;rw[VR]at hv;obtain⟨a,rfl,q1⟩:=hv;obtain⟨ks,k1,k2⟩:=r.ob j _ a e1 q1;obtain⟨t,e2,q3⟩:=(fJ.val (.inl i) k2).2 z e;have g:nt H a (kV (.inl i)) (eF ks (.inl i)):=nt.k k1;rw[e2]at g;rw[VR]at hw;subst hw;exact xW hu value slice pins s σ H _ _ v' u' Q I rx ry ⟨a,t,rfl,g,q _ q3⟩ hs
   ·obtain⟨vs,e1,e⟩:=Wn.mp e;obtain⟨a,xs,rfl,q1,q2⟩:=fG r hv e1;rw[VR]at hw;subst hw;obtain⟨t,e2,q3⟩:=aC.gA q2 e;exact xD value slice pins s σ H _ _ v' u' Q I rx ry ⟨a,xs,i,t,rfl,rfl,q1,e2,q _ q3⟩ hs
  |str y=>
   change (match h[j]? with|some (.dct kvs)=>bP kvs (.inr y)|_=>none)=some z at e;split at e
   ·rename_i kvs e1;rw[VR]at hv;obtain⟨a,rfl,q1⟩:=hv;obtain⟨ks,k1,k2⟩:=r.ob j _ a e1 q1;obtain⟨t,e2,q3⟩:=(fJ.val (.inr y) k2).2 z e;have g:nt H a (kV (.inr y)) (eF ks (.inr y)):=nt.k k1;rw[e2]at g;rw[VR]at hw;subst hw;exact xW hu value slice pins s σ H _ _ v' u' Q I rx ry ⟨a,t,rfl,g,q _ q3⟩ hs
   ·cases e
  |_=>cases e
 |dc _ _=>rw[VR]at hv;exact hv.elim
 |_=>cases w<;>cases e
def Ut(B:Bd)(EX:Nat->List V->Hp->Prop):V->Option Int->Option Int->Hp->VK->Prop:=λx lo hi H Q=>∃ρ h v,HR B ρ h H/\VR B.K ρ H v x/\Post B EX ρ H (WV B.K Q) (pV v lo hi h)
theorem Ja:Pz X (Ut (bd X cl) EX):=by
 intro pins s σ H x v' vl vu lo hi sl Q I rx hs pl pu hh;obtain⟨ρ,h,v,r,hv,p⟩:=hh;have lists:Post (bd X cl) EX ρ H (WV X.K Q) (bnd (ask λh=>aF h v) (λxs=>new (.lst (cU xs lo hi))) h)->∃T id,typeLookup (.type T) "__getitem__" = pure (some (.builtin id))/\s.TypeIs v' T/\wpAny (model X.prog X.w) X.A (getItem v' (.ref sl)) (EP X pins σ Q) X.xe s:=by intro p;obtain⟨a,e1,p⟩:=aE p;obtain⟨a1,M0,rfl,k1,k2⟩:=fG r hv e1;exact DR pins s σ H _ v' vl vu lo hi sl Q I rx hs pl pu ⟨a1,M0,rfl,k1,λq hq=>dm r hq (aC.cut lo hi k2) p⟩
 cases v with
 |tup vs=>simp only[pV]at p;rw[VR]at hv;obtain⟨a,xs,rfl,q1,q2⟩:=hv;obtain⟨e,p⟩:=aN p;refine Il pins s σ H _ v' vl vu lo hi sl Q I rx hs pl pu ⟨a,xs,rfl,q1,?_,λq hq=>oA r hq (aC.cut lo hi q2) p⟩;rw[<-q2.length];simp only[not_eq_true',Bool.and_eq_false_iff,decide_eq_false_iff_not]at e;rintro⟨z1,z2⟩;exact e.elim (λk=>k z1) λk=>k z2
 |_=>exact lists p
end
end Hv
end
section
set_option backward.match.sparseCases false
namespace Hv
open PySem L2 PyProof.Rows
section
variable {X:Cx} {cl:Nat->Addr} {EX:Nat->List V->Hp->Prop}
def Dq(B:Bd)(EX:Nat->List V->Hp->Prop)(b:Bl):List V->Hp->VK->Prop:=λxs H Q=>∃ρ h vs,HR B ρ h H/\aC B.K ρ H vs xs/\Post B EX ρ H (WV B.K Q) (blt b vs h)
theorem Jb:cI X (.builtin "len") (Dq (bd X cl) EX .len):=by
 intro pins s σ H xs us Q I rr hh;obtain⟨ρ,h,vs,r,hv,p⟩:=hh
 match vs,p with
 |[v],p=>
  obtain⟨n,e,p⟩:=aE p;obtain⟨x,rfl,hx⟩:=aC.one hv;have fin:=aj r p _ VR.int;cases v with
  |str z=>
   simp only[k8]at e;split at e
   ·rename_i hl;cases e;rw[VR]at hx;subst hx;exact L2.kQ pins s σ H _ us Q I rr ⟨_,z.length,rfl,⟨hl,rfl⟩,fin⟩
   ·cases e
  |tup vs=>simp only[k8]at e;cases e;rw[VR]at hx;obtain⟨a,ys,rfl,q1,q2⟩:=hx;refine L2.kQ pins s σ H _ us Q I rr ⟨_,ys.length,rfl,.inr ⟨ys,q1,rfl⟩,?_⟩;rw[<-q2.length];exact fin
  |rl vs=>simp only[k8]at e;cases e;rw[VR]at hx;obtain⟨a,ys,rfl,q1,q2⟩:=hx;refine L2.kQ pins s σ H _ us Q I rr ⟨_,ys.length,rfl,.inl ⟨ys,q1.sq,rfl⟩,?_⟩;rw[<-q2.length];exact fin
  |dc _ _=>rw[VR]at hx;exact hx.elim
  |ob _ _ _=>rw[VR]at hx;exact hx.elim
  |ref i=>
   rw[VR]at hx;obtain⟨a,rfl,q1⟩:=hx;simp only[k8]at e;split at e
   ·rename_i vs e1;cases e;obtain⟨ys,k1,k2⟩:=r.ob i _ a e1 q1;refine L2.kQ pins s σ H _ us Q I rr ⟨_,ys.length,rfl,.inl ⟨ys,.inl (.inl k1),rfl⟩,?_⟩;rw[<-k2.length];exact fin
   ·rename_i vs e1;cases e;obtain⟨ks,k1,k2⟩:=r.ob i _ a e1 q1;refine zf pins s σ H _ us Q I rr ⟨a,ks,rfl,k1,?_⟩;rw[<-k2.length];exact fin
   ·cases e
  |_=>simp only[k8]at e;cases e
theorem Jc(hc:X.calm=true):cI X (.builtin "min") (Dq (bd X cl) EX .min):=by
 intro pins s σ H xs us Q I rr hh;obtain⟨ρ,h,vs,r,hv,p⟩:=hh;have seq:∀v,vs=[v]->Post (bd X cl) EX ρ H (WV X.K Q) (bnd (ask λh=>cP h v) (λxs=>bf ((aS xs).bind rW)) h)->wpAny (model X.prog X.w) X.A (call (.builtin "min") us) (EP X pins σ Q) X.xe s:=by
  rintro v rfl p;obtain⟨zs,e,p⟩:=aE p;obtain⟨x,rfl,hx⟩:=aC.one hv;obtain⟨a,ys,rfl,q1,q2⟩:=wc r hx e;obtain⟨m,e1,p⟩:=cB r p;obtain⟨ns,e2,e3⟩:=Wn.mp e1;rw[dw e2]at q2;rw[aC.ints.mp q2]at q1;have hne:0<ns.length:=by cases ns with|nil=>cases e3|cons _ _=>simp
  refine rR hc pins s σ H _ us Q I rr ⟨a,ns,rfl,q1,hne,λm hm hmin=>?_⟩;rw[zA hm hmin]at e3;cases e3;exact p _ VR.int
 match vs,p with
 |[.int a,.int b],p=>obtain⟨x,y,rfl,hx,hy⟩:=aC.two hv;rw[VR]at hx;rw[VR]at hy;subst hx;subst hy;exact yW hc pins s σ H _ us Q I rr ⟨a,b,rfl,aj r p _ VR.int⟩
 |[v],p=>exact seq v rfl (by cases v<;>exact p)
theorem Jd(hc:X.calm=true):cI X (.builtin "max") (Dq (bd X cl) EX .max):=by
 intro pins s σ H xs us Q I rr hh;obtain⟨ρ,h,vs,r,hv,p⟩:=hh;have seq:∀v,vs=[v]->Post (bd X cl) EX ρ H (WV X.K Q) (bnd (ask λh=>cP h v) (λxs=>bf ((aS xs).bind rX)) h)->wpAny (model X.prog X.w) X.A (call (.builtin "max") us) (EP X pins σ Q) X.xe s:=by
  rintro v rfl p;obtain⟨zs,e,p⟩:=aE p;obtain⟨x,rfl,hx⟩:=aC.one hv;obtain⟨a,ys,rfl,q1,q2⟩:=wc r hx e;obtain⟨m,e1,p⟩:=cB r p;obtain⟨ns,e2,e3⟩:=Wn.mp e1;rw[dw e2]at q2;rw[aC.ints.mp q2]at q1;have hne:0<ns.length:=by cases ns with|nil=>cases e3|cons _ _=>simp
  refine rS hc pins s σ H _ us Q I rr ⟨a,ns,rfl,q1,hne,λm hm hmin=>?_⟩;rw[zB hm hmin]at e3;cases e3;exact p _ VR.int
 match vs,p with
 |[.int a,.int b],p=>obtain⟨x,y,rfl,hx,hy⟩:=aC.two hv;rw[VR]at hx;rw[VR]at hy;subst hx;subst hy;exact yV hc pins s σ H _ us Q I rr ⟨a,b,rfl,aj r p _ VR.int⟩
 |[v],p=>exact seq v rfl (by cases v<;>exact p)
theorem zC:cI X (.builtin "sorted") (Dq (bd X cl) EX .sorted):=by
 intro pins s σ H xs us Q I rr hh;obtain⟨ρ,h,vs,r,hv,p⟩:=hh
 match vs,p with
 |[v],p=>
  obtain⟨zs,e,p⟩:=aE p;obtain⟨out,e1,p⟩:=b6 p;obtain⟨x,rfl,hx⟩:=aC.one hv;obtain⟨a,ys,rfl,q1,q2⟩:=fG r hx e;unfold gg at e1;split at e1
  ·rename_i h64
   cases e2:aS zs with
   |some ns=>rw[e2]at e1;cases e1;rw[dw e2]at q2 h64;rw[aC.ints.mp q2]at q1;rw[Wr]at h64;exact lY pins s σ H _ us Q I rr ⟨a,ns,rfl,q1,h64,λl hl=>dm r hl (aC.ints.mpr rfl) p⟩
   |none=>rw[e2]at e1;obtain⟨nK,e3,e4⟩:=Wn.mp e1;cases e4;obtain⟨g1,g2⟩:=qH e3;rw[g1]at q2 h64;obtain⟨rs,r1,r2,r3⟩:=aC.tups q2;rw[r1]at q1;rw[Wr,r2,Wr]at h64;refine lZ pins s σ H _ us Q I rr ⟨a,rs,rfl,q1,h64,λp hp=>⟨r3 p hp,g2 _ (by rw[r2];exact Xd hp)⟩,λl qs hl hp hs=>?_⟩;have e4:qs.map (·.2)=kZ nK:=Bt (by rw[r2];exact hp.map _) (X5.mpr hs);rw[<-e4]at p;exact dm r hl (aC.xQ λz hz=>r3 z (hp.mem_iff.mp hz)) p
  ·cases e1
theorem Eg:cI X (.type "list") (Dq (bd X cl) EX .list):=by
 intro pins s σ H xs us Q I rr hh;obtain⟨ρ,h,vs,r,hv,p⟩:=hh
 match vs,p with
 |[v],p=>obtain⟨zs,e,p⟩:=aE p;obtain⟨x,rfl,hx⟩:=aC.one hv;obtain⟨a,ys,rfl,q1,q2⟩:=wc r hx e;exact rK pins s σ H _ us Q I rr ⟨a,ys,rfl,q1,λl hl=>dm r hl q2 p⟩
theorem By:cI X (.type "tuple") (Dq (bd X cl) EX .tuple):=by
 intro pins s σ H xs us Q I rr hh;obtain⟨ρ,h,vs,r,hv,p⟩:=hh;exact(show False from p).elim
theorem Je:cI X (.type "str") (Dq (bd X cl) EX .str):=by
 intro pins s σ H xs us Q I rr hh;obtain⟨ρ,h,vs,r,hv,p⟩:=hh;exact(show False from p).elim
theorem Jf:cI X (.type "int") (Dq (bd X cl) EX .int):=by
 intro pins s σ H xs us Q I rr hh;obtain⟨ρ,h,vs,r,hv,p⟩:=hh
 match vs,p with
 |[.int i],p=>obtain⟨x,rfl,hx⟩:=aC.one hv;rw[VR]at hx;subst hx;exact qb pins s σ H _ us Q I rr (.inl ⟨i,rfl,aj r p _ VR.int⟩)
 |[.bl i],p=>obtain⟨x,rfl,hx⟩:=aC.one hv;rw[VR]at hx;subst hx;exact qb pins s σ H _ us Q I rr (.inr ⟨i,rfl,aj r p _ VR.int⟩)
theorem Jg(hc:X.calm=true):cI X (.builtin "all") (Dq (bd X cl) EX .all):=by
 intro pins s σ H xs us Q I rr hh;obtain⟨ρ,h,vs,r,hv,p⟩:=hh;exact(show False from p).elim
theorem Jh(hc:X.calm=true):cI X (.builtin "any") (Dq (bd X cl) EX .any):=by
 intro pins s σ H xs us Q I rr hh;obtain⟨ρ,h,vs,r,hv,p⟩:=hh;exact(show False from p).elim
def Uu(B:Bd)(EX:Nat->List V->Hp->Prop)(T:String):List V->Hp->VK->Prop:=λxs H Q=>∃ρ h v x,xs=[x,.ty T]/\HR B ρ h H/\VR B.K ρ H v x/\Post B EX ρ H (WV B.K Q) (blt (.isin T) [v] h)
theorem Eh(K:Frag)(t T:String)(ht:t∈["NoneType","bool","int","str","list","tuple","dict"])(hT:T∈["list","tuple","str","bool","int","dict"]) :
  kitOne K (.type t) (.type T)=some (decide (T=t\/(T = "int" /\ t = "bool"))):=by
 simp only[mem_cons,not_mem_nil,or_false]at ht hT
 rcases ht with rfl|rfl|rfl|rfl|rfl|rfl|rfl<;>rcases hT with rfl|rfl|rfl|rfl|rfl|rfl<;>rfl
theorem Ei{T:String}:cI X (.builtin "isinstance") (Uu (bd X cl) EX T):=by
 intro pins s σ H xs us Q I rr hh;obtain⟨ρ,h,v,x,rfl,r,hx,p⟩:=hh;obtain⟨u,w',rfl,r1,r2⟩:=vals2 rr;cases r2;obtain⟨t,e,p⟩:=aE p;obtain⟨b,e1,p⟩:=b6 p;have q:=aj r p _ VR.bl;unfold Bs at e1;split at e1
 ·rename_i Uv
  have hT:T∈["list","tuple","str","bool","int","dict"]:=by simpa using Uv
  cases e1;have fin:∀tk,EP X pins σ Q (.bool (decide (T=t\/(T = "int" /\ t = "bool")))) { s with toks:=tk }:=λtk=>⟨.bl _,H,I.tok _,rfl,q⟩;have tab:=λht=>Eh X.K t T ht hT;cases v with
  |non=>rw[VR]at hx;subst hx;cases r1;simp only[zy]at e;cases e;exact XG PySem.W.kitx_none I.rq XI (tab (by simp)) (λz=>nomatch z) fin
  |bl c=>rw[VR]at hx;subst hx;cases r1;simp only[zy]at e;cases e;exact XG PySem.W.kitx_bool I.rq XI (tab (by simp)) (λz=>nomatch z) fin
  |int i=>rw[VR]at hx;subst hx;obtain⟨t',rfl⟩:=r1;simp only[zy]at e;cases e;exact XG PySem.W.kitx_int I.rq XI (tab (by simp)) (λz=>nomatch z) fin
  |str i=>rw[VR]at hx;subst hx;obtain⟨t',rfl⟩:=r1;simp only[zy]at e;cases e;exact XG PySem.W.kitx_str I.rq XI (tab (by simp)) (λz=>nomatch z) fin
  |tup vs=>rw[VR]at hx;obtain⟨a,ys,rfl,q1,_⟩:=hx;cases r1;simp only[zy]at e;cases e;obtain⟨_,_,⟨o,e1,e2,_⟩,_⟩:=I.tuple q1;exact XG PySem.W.kitx_tuple I.rq ⟨o,e1,e2⟩ (tab (by simp)) (λz=>nomatch z) fin
  |rl vs=>rw[VR]at hx;obtain⟨a,ys,rfl,q1,_⟩:=hx;cases r1;simp only[zy]at e;cases e;obtain⟨_,_,⟨o,n,e1,e2,_⟩,_⟩:=I.list q1.sq;exact XG kitx_list I.rq ⟨o,e1,e2⟩ (tab (by simp)) (λz=>nomatch z) fin
  |dc _ _=>rw[VR]at hx;exact hx.elim
  |ob _ _ _=>rw[VR]at hx;exact hx.elim
  |ref i=>
   rw[VR]at hx;obtain⟨a,rfl,q1⟩:=hx;cases r1;simp only[zy]at e;split at e
   ·rename_i vs e1;cases e;obtain⟨ys,k1,k2⟩:=r.ob i _ a e1 q1;obtain⟨_,_,⟨o,n,e1,e2,_⟩,_⟩:=I.list (xs:=ys) (.inl (.inl k1));exact XG kitx_list I.rq ⟨o,e1,e2⟩ (tab (by simp)) (λz=>nomatch z) fin
   ·rename_i vs e1;cases e;obtain⟨ks,k1,k2⟩:=r.ob i _ a e1 q1;obtain⟨_,_,vs,_,p⟩:=(show cg X.prog X.w H s.heap a (.dK ks) from I.hok a _ k1);obtain⟨o,es,ep,h1,h2,_⟩:=p;exact XG PySem.W.kitx_dict I.rq ⟨o,h1,h2.1⟩ (tab (by simp)) (λz=>nomatch z) fin
   ·cases e
 ·cases e1
def M1(B:Bd)(EX:Nat->List V->Hp->Prop)(m:Me):V->List V->Hp->VK->Prop:=λx xs H Q=>∃ρ h v vs,HR B ρ h H/\VR B.K ρ H v x/\aC B.K ρ H vs xs/\Post B EX ρ H (WV B.K Q) (met m v vs h)
theorem Ej:LK X "str.join" (M1 (bd X cl) EX .join):=by
 intro pins s σ H x xs u us Q I ru rr hh;obtain⟨ρ,h,v,vs,r,hv,hvs,p⟩:=hh;exact(show False from p).elim
theorem oE{i:Nat}(r:HR B ρ h H)(hi:ρ[i]?=some a)(e:h[i]?=some u)(eU:H a=some U)(hm:Mu U=true)(q:OR B ρ (upd H a O) a o)
  (p:Post B EX ρ H (WV B.K Q) (bnd (put i o) (λ_=>ret Val.non) h)):Q .non (upd H a O) :=
 p ρ (upd H a O) (Gr.put (WM hi) eU hm) (r.put hi e q) _ VR.non
theorem zE:LK X "list.append" (M1 (bd X cl) EX .append):=by
 intro pins s σ H x xs v' us Q I rx rv hh;obtain⟨ρ,h,v,vs,r,hv,hvs,p⟩:=hh
 match v,vs,p with
 |.ref i,[w],p=>
  obtain⟨zs,e,p⟩:=aE p;split at e
  ·rename_i zs' e1;cases e;obtain⟨e2,p⟩:=aN p;obtain⟨a,ys,rfl,q0,q1,q2⟩:=jM r hv e1;obtain⟨y,rfl,hy⟩:=aC.one hvs;refine qj pins s σ H _ _ v' us Q I rx rv ⟨a,ys,y,rfl,rfl,q1,by rw[<-q2.length];exact WQ e2,?_⟩;have g:Gr ρ H ρ (upd H a (.lst (ys++[y]))):=Gr.put (WM q0) q1 rfl;exact oE (o:=.lst (zs++[w])) r q0 e1 q1 rfl ⟨_,aZ,aC.append (aC.up g _ _ q2) (aC.up g _ _ (aC.cons hy aC.nil))⟩ p
  ·cases e
theorem zF:LK X "list.extend" (M1 (bd X cl) EX .extend):=by
 intro pins s σ H x xs v' us Q I rx rv hh;obtain⟨ρ,h,v,vs,r,hv,hvs,p⟩:=hh
 match v,vs,p with
 |.ref i,[w],p=>
  obtain⟨zs,e,p⟩:=aE p;split at e
  ·rename_i zs' e1;cases e
   obtain⟨ws,e3,p⟩:=aE p;obtain⟨e2,p⟩:=aN p;have e2:=WQ e2;obtain⟨a,ys,rfl,q0,q1,q2⟩:=jM r hv e1;obtain⟨y,rfl,hy⟩:=aC.one hvs;have fin:∀(bs:List V),aC X.K ρ H ws bs->Q .non (upd H a (.lst (ys++bs))):=λbs hb=>by
    have g:Gr ρ H ρ (upd H a (.lst (ys++bs))):=Gr.put (WM q0) q1 rfl;exact oE (o:=.lst (zs++ws)) r q0 e1 q1 rfl ⟨_,aZ,aC.append (aC.up g _ _ q2) (aC.up g _ _ hb)⟩ p
   cases w with
   |tup ts=>simp only[qG]at e3;cases e3;rw[VR]at hy;obtain⟨b,bs,rfl,k1,k2⟩:=hy;exact vV pins s σ H _ _ v' us Q I rx rv ⟨a,b,ys,bs,rfl,rfl,q1,k1,by rw[<-q2.length,<-k2.length];exact e2,fin bs k2⟩
   |ref j=>
    simp only[qG,aF]at e3;split at e3
    ·rename_i ts e4;cases e3;obtain⟨b,bs,rfl,k0,k1,k2⟩:=jM r hy e4;exact yZ pins s σ H _ _ v' us Q I rx rv ⟨a,b,ys,bs,rfl,rfl,q1,k1,by rw[<-q2.length,<-k2.length];exact e2,fin bs k2⟩
    ·cases e3
   |_=>simp only[qG]at e3;cases e3
  ·cases e
theorem aC.era{K:Frag}{ρ:List Addr}{H:Hp}:∀{vs:List Val} {xs:List V} (n:Nat),aC K ρ H vs xs->aC K ρ H (vs.eraseIdx n) (xs.eraseIdx n)
 |[],_,n,e=>by rw[aC]at e;subst e;exact aC.nil
 | _::_,_,n,e=>by
  rw[aC]at e;obtain⟨x,r,rfl,e1,e2⟩:=e;cases n with
  |zero=>exact e2
  |succ n=>exact aC.cons e1 (aC.era n e2)
theorem zG:LK X "list.remove" (M1 (bd X cl) EX .remove):=by
 intro pins s σ H x xs v' us Q I rx rv hh;obtain⟨ρ,h,v,vs,r,hv,hvs,p⟩:=hh
 match v,vs,p with
 |.ref i,[.int k],p=>
  obtain⟨zs,e,p⟩:=aE p;split at e
  ·rename_i zs' e1;cases e;obtain⟨ks,e3,p⟩:=b6 p;obtain⟨e2,p⟩:=aN p;have e3:=dw e3;subst e3;obtain⟨a,ys,rfl,q0,q1,q2⟩:=jM r hv e1;have hys:=aC.ints.mp q2;subst hys;obtain⟨y,rfl,hy⟩:=aC.one hvs;rw[VR]at hy;subst hy;refine zw pins s σ H _ _ v' us Q I rx rv ⟨a,ks,k,rfl,rfl,q1,WQ e2,?_⟩;have g:Gr ρ H ρ (upd H a (.lst ((ks.map V.int).eraseIdx (ks.idxOf k)))):=Gr.put (WM q0) q1 rfl;exact oE (o:=.lst ((ks.map Val.int).eraseIdx (ks.idxOf k))) r q0 e1 q1 rfl ⟨_,aZ,aC.era _ (aC.up g _ _ q2)⟩ p
  ·cases e
end
def oF(f:Str->Pos->Bool):Expr->Bool
 |.Name a b=>f a b
 |_=>false
theorem nL{f:Str->Pos->Bool}{P:Expr->Prop}{e:Expr}(h:oF f e=true)(H:∀a b,f a b=true->P (.Name a b)):P e:=by
 cases e<;>first|exact H _ _ h|exact(Wm h).elim
def we(f:Const->Nat->Pos->Bool):Expr->Bool
 |.Constant a b c=>f a b c
 |_=>false
theorem uq{f:Const->Nat->Pos->Bool}{P:Expr->Prop}{e:Expr}(h:we f e=true)(H:∀a b c,f a b c=true->P (.Constant a b c)):P e:=by
 cases e<;>first|exact H _ _ _ h|exact(Wm h).elim
def M3(f:Expr->Operator->Expr->Pos->Bool):Expr->Bool
 |.BinOp a b c d=>f a b c d
 |_=>false
theorem Ji{f:Expr->Operator->Expr->Pos->Bool}{P:Expr->Prop}{e:Expr}(h:M3 f e=true)(H:∀a b c d,f a b c d=true->P (.BinOp a b c d)):P e:=by
 cases e<;>first|exact H _ _ _ _ h|exact(Wm h).elim
def Q2(f:UnaryOp->Expr->Pos->Bool):Expr->Bool
 |.UnaryOp a b c=>f a b c
 |_=>false
theorem Gz{f:UnaryOp->Expr->Pos->Bool}{P:Expr->Prop}{e:Expr}(h:Q2 f e=true)(H:∀a b c,f a b c=true->P (.UnaryOp a b c)):P e:=by
 cases e<;>first|exact H _ _ _ h|exact(Wm h).elim
def M4(f:Expr->List CmpOp->List Expr->Pos->Bool):Expr->Bool
 |.Compare a b c d=>f a b c d
 |_=>false
theorem Jj{f:Expr->List CmpOp->List Expr->Pos->Bool}{P:Expr->Prop}{e:Expr}(h:M4 f e=true)(H:∀a b c d,f a b c d=true->P (.Compare a b c d)):P e:=by
 cases e<;>first|exact H _ _ _ _ h|exact(Wm h).elim
def rZ(f:BoolOp->List Expr->Pos->Bool):Expr->Bool
 |.BoolOp a b c=>f a b c
 |_=>false
theorem qI{f:BoolOp->List Expr->Pos->Bool}{P:Expr->Prop}{e:Expr}(h:rZ f e=true)(H:∀a b c,f a b c=true->P (.BoolOp a b c)):P e:=by
 cases e<;>first|exact H _ _ _ h|exact(Wm h).elim
def M5(f:List Expr->Nat->Pos->Bool):Expr->Bool
 |.Tuple a b c=>f a b c
 |_=>false
theorem Jk{f:List Expr->Nat->Pos->Bool}{P:Expr->Prop}{e:Expr}(h:M5 f e=true)(H:∀a b c,f a b c=true->P (.Tuple a b c)):P e:=by
 cases e<;>first|exact H _ _ _ h|exact(Wm h).elim
def M6(f:List Expr->Pos->Bool):Expr->Bool
 |.List a b=>f a b
 |_=>false
theorem Jl{f:List Expr->Pos->Bool}{P:Expr->Prop}{e:Expr}(h:M6 f e=true)(H:∀a b,f a b=true->P (.List a b)):P e:=by
 cases e<;>first|exact H _ _ h|exact(Wm h).elim
def Ek(f:Expr->Expr->Pos->Bool):Expr->Bool
 |.Subscript a b c=>f a b c
 |_=>false
theorem wg{f:Expr->Expr->Pos->Bool}{P:Expr->Prop}{e:Expr}(h:Ek f e=true)(H:∀a b c,f a b c=true->P (.Subscript a b c)):P e:=by
 cases e<;>first|exact H _ _ _ h|exact(Wm h).elim
def M7(f:Option Expr->Option Expr->Option Expr->Pos->Bool):Expr->Bool
 |.Slice a b c d=>f a b c d
 |_=>false
theorem Jm{f:Option Expr->Option Expr->Option Expr->Pos->Bool}{P:Expr->Prop}{e:Expr}(h:M7 f e=true)(H:∀a b c d,f a b c d=true->P (.Slice a b c d)):P e:=by
 cases e<;>first|exact H _ _ _ _ h|exact(Wm h).elim
def BA(f:Expr->List Expr->List Keyword->Pos->Bool):Expr->Bool
 |.Call a b c d=>f a b c d
 |_=>false
theorem xY{f:Expr->List Expr->List Keyword->Pos->Bool}{P:Expr->Prop}{e:Expr}(h:BA f e=true)(H:∀a b c d,f a b c d=true->P (.Call a b c d)):P e:=by
 cases e<;>first|exact H _ _ _ _ h|exact(Wm h).elim
def GA(f:Expr->Str->Pos->Bool):Expr->Bool
 |.Attribute a b c=>f a b c
 |_=>false
theorem El{f:Expr->Str->Pos->Bool}{P:Expr->Prop}{e:Expr}(h:GA f e=true)(H:∀a b c,f a b c=true->P (.Attribute a b c)):P e:=by
 cases e<;>first|exact H _ _ _ h|exact(Wm h).elim
def GB(f:Expr->List Comprehension->Scope->Pos->Bool):Expr->Bool
 |.ListComp a b c d=>f a b c d
 |_=>false
theorem Em{f:Expr->List Comprehension->Scope->Pos->Bool}{P:Expr->Prop}{e:Expr}(h:GB f e=true)(H:∀a b c d,f a b c d=true->P (.ListComp a b c d)):P e:=by
 cases e<;>first|exact H _ _ _ _ h|exact(Wm h).elim
def BB(f:List (Option Expr)->List Expr->Pos->Bool):Expr->Bool
 |.Dict a b c=>f a b c
 |_=>false
theorem xZ{f:List (Option Expr)->List Expr->Pos->Bool}{P:Expr->Prop}{e:Expr}(h:BB f e=true)(H:∀a b c,f a b c=true->P (.Dict a b c)):P e:=by
 cases e<;>first|exact H _ _ _ h|exact(Wm h).elim
section
variable {α:Type} {f:α -> Bool} {g:α -> List α -> Bool} {P:List α -> Prop} {Q:Option α -> Prop} {l:List α} {b:Bool} {o:Option α}
def pW(l:List α)(b:Bool):Bool:=l.isEmpty&&b
theorem kj(h:pW l b=true)(H:b=true->P []):P l:=by
 cases l with
 |nil=>exact H h
 |cons _ _=>cases h
def kC(f:α -> List α -> Bool):List α -> Bool
 |a::r=>f a r
 |[]=>false
theorem wj(h:kC g l=true)(H:∀a r,g a r=true->P (a::r)):P l:=by
 cases l with
 |nil=>cases h
 |cons a r=>exact H a r h
def k1(f:α -> Bool):List α -> Bool:=kC λa r=>pW r (f a)
theorem l8(h:k1 f l=true)(H:∀a,f a=true->P [a]):P l:=by
 apply wj h;intro a r h;apply kj h;intro h;exact H a h
def k2(f:α -> α -> Bool):List α -> Bool:=kC λa r=>k1 (f a) r
theorem M8{f:α -> α -> Bool}(h:k2 f l=true)(H:∀a b,f a b=true->P [a,b]):P l:=by
 apply wj h;intro a r h;apply l8 h;intro b h;exact H a b h
def BC(l:Option α)(b:Bool):Bool:=l.isNone&&b
theorem x6(h:BC o b=true)(H:b=true->Q none):Q o:=by
 cases o with
 |none=>exact H h
 |some _=>cases h
def BD(f:α -> Bool)(l:Option α):Bool:=l.any f
theorem x8(h:BD f o=true)(H:∀a,f a=true->Q (some a)):Q o:=by
 cases o with
 |none=>cases h
 |some a=>exact H a h
def Jo[DecidableEq α](a b:α)(c:Bool):Bool:=decide (a=b)&&c
theorem ur[DecidableEq α]{P:α -> Prop}{a d:α}(h:Jo a d b=true)(H:b=true->P d):P a:=by
 rw[Jo,X8,Yt]at h;rw[h.1];exact H h.2
end
def BE(f:Str->Pos->List Expr->Pos->Bool):Expr->Bool:=BA λg l k p=>oF (λx q=>pW k (f x q l p)) g
theorem lg{f:Str->Pos->List Expr->Pos->Bool}{P:Expr->Prop}{e:Expr}(h:BE f e=true)(H:∀x q l p,f x q l p=true->P (.Call (.Name x q) l [] p)):P e:=by
 apply xY h;intro g l k p h;apply nL h;intro x q h;apply kj h;intro h;exact H x q l p h
def LM(f:Expr->Str->Pos->List Expr->Pos->Bool):Expr->Bool:=BA λg l k p=>GA (λo x q=>pW k (f o x q l p)) g
theorem x9{f:Expr->Str->Pos->List Expr->Pos->Bool}{P:Expr->Prop}{e:Expr}(h:LM f e=true)(H:∀o x q l p,f o x q l p=true->P (.Call (.Attribute o x q) l [] p)):P e:=by
 apply xY h;intro g l k p h;apply El h;intro o x q h;apply kj h;intro h;exact H o x q l p h
def M9(f:Expr->Expr->List Expr->Int->Bool)(c:Comprehension):Bool:=f c.target c.iter c.ifs c.is_async
theorem Jp{f:Expr->Expr->List Expr->Int->Bool}{P:Comprehension->Prop}{c:Comprehension}(h:M9 f c=true)(H:∀a b d i,f a b d i=true->P ⟨a,b,d,i⟩):P c:=by
 cases c;exact H _ _ _ _ h
def Na(f:Str->Bool):Const->Bool
 |.str s=>f s
 |_=>false
theorem Jq{f:Str->Bool}{P:Const->Prop}{e:Const}(h:Na f e=true)(H:∀s,f s=true->P (.str s)):P e:=by
 cases e<;>first|exact H _ h|exact(Wm h).elim
theorem Sa{a b:Bool}(h:(a||b)=true):a=true\/b=true:=by
 cases a with
 |true=>exact .inl rfl
 |false=>exact .inr h
def BF(f:Expr->Pos->Bool):Stmt->Bool
 |.Expr a b=>f a b
 |_=>false
theorem ya{f:Expr->Pos->Bool}{P:Stmt->Prop}{e:Stmt}(h:BF f e=true)(H:∀a b,f a b=true->P (.Expr a b)):P e:=by
 cases e<;>first|exact H _ _ h|exact(Wm h).elim
def En(f:List Expr->Expr->Pos->Bool):Stmt->Bool
 |.Assign a b c=>f a b c
 |_=>false
theorem BG{f:List Expr->Expr->Pos->Bool}{P:Stmt->Prop}{e:Stmt}(h:En f e=true)(H:∀a b c,f a b c=true->P (.Assign a b c)):P e:=by
 cases e<;>first|exact H _ _ _ h|exact(Wm h).elim
def Q3(f:Expr->Operator->Expr->Pos->Bool):Stmt->Bool
 |.AugAssign a b c d=>f a b c d
 |_=>false
def Sb(f:Expr->List Stmt->List Stmt->Pos->Bool):Stmt->Bool
 |.If a b c d=>f a b c d
 |_=>false
theorem Nb{f:Expr->List Stmt->List Stmt->Pos->Bool}{P:Stmt->Prop}{e:Stmt}(h:Sb f e=true)(H:∀a b c d,f a b c d=true->P (.If a b c d)):P e:=by
 cases e<;>first|exact H _ _ _ _ h|exact(Wm h).elim
def Nc(f:Expr->Expr->List Stmt->List Stmt->Pos->Bool):Stmt->Bool
 |.For a b c d i=>f a b c d i
 |_=>false
theorem Jr{f:Expr->Expr->List Stmt->List Stmt->Pos->Bool}{P:Stmt->Prop}{e:Stmt}(h:Nc f e=true)(H:∀a b c d i,f a b c d i=true->P (.For a b c d i)):P e:=by
 cases e<;>first|exact H _ _ _ _ _ h|exact(Wm h).elim
def Js(f:Expr->List Stmt->List Stmt->Pos->Bool):Stmt->Bool
 |.While a b c d=>f a b c d
 |_=>false
def Jt(f:Option Expr->Pos->Bool):Stmt->Bool
 |.Return a b=>f a b
 |_=>false
theorem BH{f:Option Expr->Pos->Bool}{P:Stmt->Prop}{e:Stmt}(h:Jt f e=true)(H:∀a b,f a b=true->P (.Return a b)):P e:=by
 cases e<;>first|exact H _ _ h|exact(Wm h).elim
def Nd(f:Pos->Bool):Stmt->Bool
 |.Break a=>f a
 |_=>false
theorem Ju{f:Pos->Bool}{P:Stmt->Prop}{e:Stmt}(h:Nd f e=true)(H:∀a,f a=true->P (.Break a)):P e:=by
 cases e<;>first|exact H _ h|exact(Wm h).elim
def Nf(f:Pos->Bool):Stmt->Bool
 |.Continue a=>f a
 |_=>false
theorem Jv{f:Pos->Bool}{P:Stmt->Prop}{e:Stmt}(h:Nf f e=true)(H:∀a,f a=true->P (.Continue a)):P e:=by
 cases e<;>first|exact H _ h|exact(Wm h).elim
def GC(f:Pos->Bool):Stmt->Bool
 |.Pass a=>f a
 |_=>false
theorem Eo{f:Pos->Bool}{P:Stmt->Prop}{e:Stmt}(h:GC f e=true)(H:∀a,f a=true->P (.Pass a)):P e:=by
 cases e<;>first|exact H _ h|exact(Wm h).elim
end Hv
end
section
namespace Hv
open PySem L2 PyProof.Rows
structure Tb where
 nc:Nat
 Ng:List Str
 Jw:List (Nat×Str×Nat)
 Jx:List (Str×Str×Nat)
 isc:List (Str×List Bool)
structure pP where
 N:List Str
 sc:Scope
 fns:List (Str×Nat)
 cons:List (Str×Val)
 tb:Tb
def Jy(sc:Scope)(x:Str):Bool:=(sc.names.lookup x==some .local||sc.names.lookup x==some .cell||sc.names.lookup x==some .free) && !(x==("__debug__":Str)) && !(x==("__classdict__":Str))
def wm(sc:Scope)(x:Str):Bool:=sc.names.lookup x==some .globalImplicit && !(x==("__debug__":Str)) && !(x==("__name__":Str))
def BI:Const->Val->Bool
 |.none,.non=>true
 |.bool a,.bl b=>a==b
 |.int a,.int b=>a==b
 |.str a,.str b=>a==b
 |_,_=>false
def Jz(o:Gu)(op:Operator):Bool:=decide (op=Bu o)
def Nh(o:IQ)(op:CmpOp):Bool:=decide (op=xT o)
def Ni:Bl->Str
 |.len=>"len" | .min=>"min" | .max=>"max" | .sorted=>"sorted" | .list=>"list" | .tuple=>"tuple" | .str=>"str" | .int=>"int" | .all=>"all" | .any=>"any" | .isin _=>"isinstance"
def noStar:Expr->Bool
 |.Starred ..=>false
 |_=>true
def nM:Expr->Bool
 |.Slice ..=>false
 |_=>true
def Ep:Expr->Bool
 |.Name ..=>true|.Call ..=>true|.Subscript ..=>true|.List ..=>true|.Tuple ..=>true|.ListComp ..=>true|.Attribute ..=>true|.BinOp ..=>true
 |_=>false
def superB:Expr->Bool
 |.Call (.Name _ _) [] [] _=>false
 |_=>true
def GD(scope xsc:Scope):Scope :=
 { scope with names:=scope.names.map λ(n,k)=>if (k==.free&&xsc.kind==.function&&xsc.names.lookup n==some .cell) then (n,.cell) else (n,k) }
def pP.GF(Γ:pP)(scope:Scope)(N':List Str):pP:={ Γ with N:=N',sc:=GD scope Γ.sc }
def zH(Γ:pP):v9->Expr->Bool
 |.one i,.Name x _=>Γ.N[i]?==some x && Γ.sc.names.lookup x==some .local
 | .tup is,.Tuple es _ _=>es.length==is.length&&(is.zip es).all λp=>match p.2 with
  |.Name x _=>Γ.N[p.1]?==some x && Γ.sc.names.lookup x==some .local
  |_=>false
 |_,_=>false
def uu:v9->List Nat
 |.one i=>[i]
 |.tup is=>is
def Uw:Me->Str
 |.join=>"join" | .append=>"append" | .extend=>"extend" | .remove=>"remove"
def wo:Val->Val->Bool
 |.non,.non=>true
 |.bl a,.bl b=>a==b
 |.int a,.int b=>a==b
 |.str a,.str b=>a==b
 |_,_=>false
def JA:kg->Bool
 |.nil=>true
 |.cons ..=>false
theorem BJ{b:Bool}(h:(JA es&&b)=true):es=.nil/\b=true:=by
 cases es with
 |nil=>exact⟨rfl,h⟩
 |cons _ _=>cases h
mutual
noncomputable def bD(Γ:pP):IE->Expr->Bool
 |.var i,e=>oF (λx _=>Γ.N[i]?==some x&&Jy Γ.sc x) e
 |.cst d,e=>we (λc _ _=>BI c d) e
 |.con x d,e=>oF (λy _=>x==y&&wm Γ.sc x && Γ.cons.any λp=>p.1==x&&wo p.2 d) e
 |.no,_=>false
 |.bin o a b,e=>M3 (λl op r _=>Jz o op&&bD Γ a l&&bD Γ b r) e
 |.neg a,e=>Q2 (λq1 l _=>Jo q1 .USub (bD Γ a l)) e
 |.cmp o a b,e=>M4 (λl q1 q2 _=>k1 (λop=>k1 (λr=>Nh o op && !behindInMarks op r&&bD Γ a l&&bD Γ b r) q2) q1) e
 |.chn _ _ _ _ _,_=>false
 |.and a b,e=>rZ (λq1 q2 pos=>Jo q1 .And (kC (λl q3=>kC (λm r=>bD Γ a l&&(match r with|[]=>bD Γ b m|n::r'=>bD Γ b (.BoolOp .And (m::n::r') pos))) q3) q2)) e
 |.or a b,e=>rZ (λq1 q2 pos=>Jo q1 .Or (kC (λl q3=>kC (λm r=>bD Γ a l&&(match r with|[]=>bD Γ b m|n::r'=>bD Γ b (.BoolOp .Or (m::n::r') pos))) q3) q2)) e
 |.not a,e=>Q2 (λq1 l _=>Jo q1 .Not (bD Γ a l)) e
 |.ite _ _ _,_=>false
 |.tup es,e=>M5 (λls _ _=>aW Γ es ls) e
 |.lst es,e=>M6 (λls _=>aW Γ es ls) e
 |.idx a b,e=>Ek (λl r _=>nM r&&bD Γ a l&&bD Γ b r) e
 |.slc a lo hi,e=>Ek (λl q1 _=>M7 (λl' h' q2 _=>BC q2 (bD Γ a l&&(match l' with|none=>cV lo|some e=>!cV lo&&bD Γ lo e)&&(match h' with|none=>cV hi|some e=>!cV hi&&bD Γ hi e))) q1) e
 |.call j es,e=>BE (λx _ args _=>wm Γ.sc x && Γ.fns[j]?==some (x,args.length)&&decide (args.length<1000)&&aW Γ es args) e
 | .blt b es,e=>BE (λx _ args _=>wm Γ.sc x&&x==Ni b&&(match b with
   |.isin T=>(match args with|[a,.Name y _]=>wm Γ.sc y&&y==(T:Str)&&["list","tuple","str","bool","int","dict"].contains T&&aW Γ es [a]|_=>false)
   |_=>!args.isEmpty&&aW Γ es args)) e
 |.met m a es,e=>LM (λo x ap args cp=>x==Uw m&&superB o && !args.isEmpty&&decide (args.length<29)&&ap.endLine==cp.line&&bD Γ a o&&aW Γ es args) e
 | .comp N' js pat k it c elt,e=>GB (λe q1 scope _=>k1 (λq2=>M9 (λtg iter ifs q3=>Jo q3 0 (jJ Γ.N Γ.sc scope N' js&&yb Γ k it iter&&decide (N'.Nodup)&&zH (Γ.GF scope N') pat tg&&((uu pat).all λi=>js[i]?==some none)&&(match k,pat with|.enum,.one _=>false|.zip,.one _=>false|_,_=>true) &&
   (match ifs with|[]=>cV c|[t]=>!cV c&&bD (Γ.GF scope N') c t|_=>false)&&bD (Γ.GF scope N') elt e)) q2) q1) e
 |.dct0,e=>BB (λq1 q2 _=>pW q1 (pW q2 (true))) e
 |.sset a,e=>BE (λx _ q1 _=>k1 (λq2=>BE (λy _ q3 _=>k1 (λl=>x==("sorted":Str)&&y==("set":Str)&&wm Γ.sc x&&wm Γ.sc y&&noStar l&&bD Γ a l) q3) q2) q1) e
 |.dget d k x,e=>LM (λo m ap q1 cp=>k2 (λa b=>m==("get":Str)&&superB o&&noStar a&&noStar b&&ap.endLine==cp.line&&bD Γ d o&&bD Γ k a&&bD Γ x b) q1) e
 |.dct1 k v,e=>BB (λq1 q2 _=>k1 (λq3=>BD (λa=>k1 (λb=>bD Γ k a&&bD Γ v b) q2) q3) q1) e
 |.lkeys d,e=>BE (λx _ q1 _=>k1 (λq2=>LM (λo m ap q3 cp=>pW q3 (x==("list":Str)&&m==("keys":Str)&&wm Γ.sc x&&superB o&&ap.endLine==cp.line&&bD Γ d o)) q2) q1) e||BE (λx _ q1 _=>k1 (λq2=>oF (λy q=>x==("list":Str)&&wm Γ.sc x&&bD Γ d (.Name y q)) q2) q1) e
 |.sdef d k x,e=>LM (λo m ap q1 cp=>k2 (λa b=>m==("setdefault":Str)&&superB o&&noStar a&&noStar b&&ap.endLine==cp.line&&bD Γ d o&&bD Γ k a&&bD Γ x b) q1) e
 |.svals _,_=>false
 |.skeys d,e=>BE (λx _ q1 _=>k1 (λq2=>LM (λo m ap q3 cp=>pW q3 (x==("sorted":Str)&&m==("keys":Str)&&wm Γ.sc x&&superB o&&ap.endLine==cp.line&&bD Γ d o)) q2) q1) e||BE (λx _ q1 _=>k1 (λq2=>oF (λy q=>x==("sorted":Str)&&wm Γ.sc x&&bD Γ d (.Name y q)) q2) q1) e
 |.fld _ _ _,_=>false
 |.rev _ _,_=>false
 |.dflt _ _ _ _ _ _,_=>false
 |.isc _ _ _,_=>false
 |.mth _ _ _ _,_=>false
noncomputable def aW(Γ:pP):kg->List Expr->Bool
 |.nil,ls=>ls.isEmpty
 | .cons e es,ls=>match ls with
  |l::ls=>noStar l&&bD Γ e l&&aW Γ es ls
  |[]=>false
noncomputable def yb(Γ:pP)(k:Ik):kg->Expr->Bool
 |.nil,_=>false
 | .cons e es,l=>match k with
  |.seq=>JA es&&(Ep l&&bD Γ e l)
  |.range=>BE (λx _ as _=>kC (λa args=>x==("range":Str)&&wm Γ.sc x&&noStar a&&bD Γ e a&&aW Γ es args&&decide (args.length<2)) as) l
  |.enum=>JA es&&BE (λx _ as _=>k1 (λa=>x==("enumerate":Str)&&wm Γ.sc x&&noStar a&&bD Γ e a) as) l
  |.zip=>false
end
abbrev Fn:=Nat->List Val->M Val
def cM(K:Frag)(ρ:List Addr)(env:Env)(σ:L2.St)(H:Hp):Prop:=∀(i:Nat) (v:Val),env[i]?=some (some v)->∃x,σ[i]?=some (some x)/\VR K ρ H v x
theorem cM.j4{K:Frag}{ρ ρ':List Addr}{env:Env}{σ:L2.St}{H H':Hp}(e:cM K ρ env σ H)(g:Gw ρ H ρ' H'):cM K ρ' env σ H':=λi v q=>by
 obtain⟨x,q1,q2⟩:=e i v q;exact⟨x,q1,VR.j4 g v x q2⟩
theorem cM.up{K:Frag}{ρ ρ':List Addr}{env:Env}{σ:L2.St}{H H':Hp}(e:cM K ρ env σ H)(g:Gr ρ H ρ' H'):cM K ρ' env σ H':=e.j4 g.w
def Ux(K:Frag)(Q:List V->Hp->Prop):List Val->Hs->List Addr->Hp->Prop:=λvs _ ρ' H'=>∀xs,aC K ρ' H' vs xs->Q xs H'
def WT(Q:Bool->Hp->Prop):Bool->Hs->List Addr->Hp->Prop:=λb _ _ H'=>Q b H'
def LN(Φ:Fn)(ir:IE)(env:Env):M Bool:=bnd (aJ Φ ir env) λx=>ask λh=>cC h x
def tV(Φ:Fn)(B:Bd)(EX:Nat->List V->Hp->Prop)(ir:IE):TE:=λσ H Q=>∃ρ env h,cM B.K ρ env σ H/\HR B ρ h H/\Post B EX ρ H (WV B.K Q) (aJ Φ ir env h)
def Sd(Φ:Fn)(B:Bd)(EX:Nat->List V->Hp->Prop)(eu:kg):TA:=λσ H Q=>∃ρ env h,cM B.K ρ env σ H/\HR B ρ h H/\Post B EX ρ H (Ux B.K Q) (bC Φ eu env h)
def tT(Φ:Fn)(B:Bd)(EX:Nat->List V->Hp->Prop)(ir:IE):TT:=λσ H Q=>∃ρ env h,cM B.K ρ env σ H/\HR B ρ h H/\Post B EX ρ H (WT Q) (LN Φ ir env h)
theorem _root_.L2.PE.imp(h:PE X e t)(i:∀σ H Q,t' σ H Q->t σ H Q):PE X e t':=λpins s σ H Q I hw=>h pins s σ H Q I (i σ H Q hw)
theorem _root_.L2.PT.imp(h:PT X e t)(i:∀σ H Q,t' σ H Q->t σ H Q):PT X e t':=λpins s σ H Q I hw=>h pins s σ H Q I (i σ H Q hw)
theorem _root_.L2.PA.imp(h:PA X es t)(i:∀σ H Q,t' σ H Q->t σ H Q):PA X es t':=λpos pins s σ H Q I hw=>h pos pins s σ H Q I (i σ H Q hw)
theorem _root_.L2.PO.imp(h:PO X e t)(i:∀σ H Q,t' σ H Q->t σ H Q):PO X e t':=λpins s σ H Q I hw=>h pins s σ H Q I (i σ H Q hw)
theorem _root_.L2.PI.imp(h:PI X tg iter t)(i:∀σ H R,t' σ H R->t σ H R):PI X tg iter t':=λpins s σ H R I hw=>h pins s σ H R I (i σ H R hw)
theorem bw{α β γ:Type}(m:M α)(f:α -> M β)(g:β -> M γ):bnd (bnd m f) g=bnd m λx=>bnd (f x) g:=by
 funext h;show (match (match m h with|.ok a h'=>f a h'|.exc c vs h'=>.exc c vs h'|.no=>.no) with|.ok a h'=>g a h'|.exc c vs h'=>.exc c vs h'|.no=>.no)=(match m h with|.ok a h'=>bnd (f a) g h'|.exc c vs h'=>.exc c vs h'|.no=>.no);cases m h<;>rfl
theorem cW{α β:Type}(a:α)(f:α -> M β):bnd (ret a) f=f a:=rfl
def wu(B:Bd)(n:Nat)(φ:List Val->M Val):Sp:=λxs H Q _=>∃ρ h vs,vs.length=n/\HR B ρ h H/\aC B.K ρ H vs xs/\Post B (λ_ _ _=>False) ρ H (WV B.K Q) (φ vs h)
def LO(P:Program)(w:World)(B:Bd)(mg:Str->Option Value)(base:Heap)(k:Nat)(j:Nat)(x:Str)(n:Nat)(φ:List Val->M Val):Prop :=
 (n<1000/\((∃(f:Addr) (fd:FuncData) (ps:List Str),ps.length=n/\mg x=some (.ref f)/\keepIn B.K (.ref f)=true/\Binds B.K fd ps []/\gu P w B.K mg base AQ k f fd ps (wu B n φ)) \/
  ∃(c:Nat) (f:Addr) (fd:FuncData) (ps:List Str) (φ0:List Val->M Val),φ = R9 c φ0/\ps.length=n+1/\mg x=some (.ref (B.cl c))/\Mk B.K (B.cl c) f/\Binds B.K fd ps []/\gu P w B.K mg base AQ k f fd ps (wu B (n+1) φ0))) \/
 (1000<=n/\∃(fd:FuncData) (ps:List Str),ps.length=n-1000/\Binds B.K fd ps []/\gu P w B.K mg base AQ k (B.cl (1000+j)) fd ps (wu B (n-1000) φ))
def bltNames:List Str:=["len","min","max","sorted","list","tuple","str","all","any","isinstance","range","enumerate","int","bool","dict","set","zip"]
structure Ctx (Φ:Fn) (Γ:pP) (k:Nat) (X:Cx) (cl:Nat->Addr) (EX:Nat->List V->Hp->Prop):Prop where
 N:X.N = Γ.N
 sc:X.env.scope = Γ.sc
 calm:X.calm=true
 room:eE (k+1) X.A
 nj:∀c xs H,¬ EX c xs H
 fns:∀j x n,Γ.fns[j]?=some (x,n)->LO X.prog X.w (bd X cl) X.mg X.base k j x n (Φ j)
 cls:∀c,c < Γ.tb.nc->RK X.K (cl c)/\∀x ∈ Γ.tb.Ng,AA X.K (cl c) x
 Jw:∀p ∈ Γ.tb.Jw,Meth X.K (cl p.1) p.2.1 (cl (1000+p.2.2))
 Jx:∀p ∈ Γ.tb.Jx,∃C,X.mg p.1=some (.ref C)/\MX X.K C p.2.1 (cl (1000+p.2.2))
 isc:∀p ∈ Γ.tb.isc,∃C,X.mg p.1=some (.ref C)/\∀c b,p.2[c]?=some b->R7 X.K (cl c)/\kitOne X.K (.ref (cl c)) (.ref C)=some b
 cons:∀p ∈ Γ.cons,∃v u,X.mg p.1=some u/\RelV v u/\∀K ρ H,VR K ρ H p.2 v
 blt:∀x∈bltNames,X.mg x=none
section
variable {Φ:Fn} {Γ:pP} {k:Nat} {X:Cx} {cl:Nat->Addr} {EX:Nat->List V->Hp->Prop}
theorem Ctx.units(c:Ctx Φ Γ k X cl EX):X.A.units+64<cLine:=c.room.units
theorem Ctx.vis(c:Ctx Φ Γ k X cl EX)(h:Jy Γ.sc x=true):LX X.env.scope x/\(x==("__debug__":Str))=false/\(x==("__classdict__":Str))=false:=by
 unfold Jy at h;simp only[and_eq_true,or_eq_true,beq_iff_eq,not_eq_true']at h;obtain⟨⟨h1,h2⟩,h3⟩:=h;refine⟨?_,h2,h3⟩;unfold LX;rw[c.sc]
 rcases h1 with (z|z)|z
 ·exact .inl z
 ·exact .inr (.inl z)
 ·exact .inr (.inr z)
theorem Ctx.gl(c:Ctx Φ Γ k X cl EX)(h:wm Γ.sc x=true):Gl X x/\(x==("__debug__":Str))=false/\x ≠ "__name__":=by
 unfold wm at h;simp only[and_eq_true,beq_iff_eq,not_eq_true']at h;obtain⟨⟨h1,h2⟩,h3⟩:=h;refine⟨?_,h2,λz=>by rw[z]at h3;simp at h3⟩;show X.env.scope.names.lookup x=_;rw[c.sc];exact h1
theorem Ctx.GF(c:Ctx Φ Γ k X cl EX)(scope:Scope)(N':List Str)(cls:List (Str×Addr))(C:Addr)(s:Shared)(H:Hp)(fp:List Addr):Ctx Φ (Γ.GF scope N') k (bO X scope N' cls C s H fp) cl EX:=by
 refine⟨rfl,?_,c.calm,c.room,c.nj,c.fns,c.cls,c.Jw,c.Jx,c.isc,c.cons,c.blt⟩;show relabel scope X.env=GD scope Γ.sc;rw[<-c.sc];rfl
theorem bh(h:noStar e=true):starEach (e::es) env=(false,eval e env)::starEach es env:=by
 cases e<;>first|rfl|(simp[noStar]at h)
theorem ic:∀{es:List Expr} {eu:kg},aW Γ eu es=true->(backTo pos (starEach es env)).any (·.1)=false
 |[],_,_=>rfl
 |e::es,.nil,h=>by simp[aW]at h
 | e::es,.cons i eu,h=>by
  simp only[aW,and_eq_true]at h;rw[bh h.1.1];show (false||(backTo pos (starEach es env)).any (·.1))=false;rw[ic (eu:=eu) h.2];rfl
theorem BK(h:aW Γ eu es=true):(backTo pos (starEach es env)).all (λx=>!x.1)=true:=by
 have q:=ic (pos:=pos) (env:=env) h;rw[YT];intro x hx;have:=List.any_eq_false.mp q x hx;simpa using this
theorem wz(h:nM e=true):xC e:=by
 intro o i;cases e<;>first|rfl|(simp[nM]at h)
theorem super_ok(h:superB e=true):attributeBase e x env whole=whole:=by
 cases e<;>first
  |rfl
  |skip
 rename_i f args kws pos;cases f<;>first
  |rfl
  |skip
 cases args with
 |cons a r=>rfl
 |nil=>
  cases kws with
  |cons a r=>rfl
  |nil=>simp[superB]at h
theorem cX(q:PE X e (tV Φ (bd X cl) EX ir))(he:∀whole,isTrue e X.env whole=(do let v <-whole;standAt e.pos;holding [v] (truthy v))):PT X e (tT Φ (bd X cl) EX ir) :=
 (Ay q he).imp λσ H Q ⟨ρ,env,h,hE,r,p⟩=>⟨ρ,env,h,hE,r,aB p λv h1 ρ1 x H1 g1 r1 q1 p1=>by
  obtain⟨b,e,w⟩:=dj r1 p1;exact⟨b,IZ r1 q1 e,w⟩⟩
theorem Ax:Pw X (unaryOp .USub) (λx H Q=>∃i,x=.int i/\Q (.int (-i)) H):=by
 intro pins s σ H x v Q I rx h;obtain⟨i,rfl,q⟩:=h;obtain⟨t,rfl⟩:=rx;exact neg_int ⟨.int (-i),H,I.tok _,⟨_,rfl⟩,q⟩
theorem GG(h:PT X (.BoolOp op vs pos) t):PW X (.BoolOp op vs pos) t:=λwhole pins s σ H Q I hw=>h pins s σ H Q I hw
def bX(Φ:Fn)(ir:IE):Prop:=∀(Γ:pP) (k:Nat) (X:Cx) (cl:Nat->Addr) (EX:Nat->List V->Hp->Prop) (e:Expr),Ctx Φ Γ k X cl EX->bD Γ ir e=true->PE X e (tV Φ (bd X cl) EX ir)/\PT X e (tT Φ (bd X cl) EX ir)
def jS(Φ:Fn)(eu:kg):Prop:=(∀(Γ:pP) (k:Nat) (X:Cx) (cl:Nat->Addr) (EX:Nat->List V->Hp->Prop) (es:List Expr),Ctx Φ Γ k X cl EX->aW Γ eu es=true->PA X es (Sd Φ (bd X cl) EX eu))/\match eu with
 |.nil=>True
 | .cons e r=>bX Φ e/\match r with
  |.nil=>True
  |.cons e' _=>bX Φ e'
theorem Er(h:Jz o op=true):op=Bu o:=WQ h
theorem Es(h:Nh o op=true):op=xT o:=WQ h
theorem iN(hs:∀env h,aJ Φ ir env h=.no):bX Φ ir:=by
 intro Γ k X cl EX e c h;exact⟨λpins s σ H Q I ⟨ρ,env,h,hE,r,p⟩=>by rw[hs]at p;exact p.elim,λpins s σ H Q I ⟨ρ,env,h,hE,r,p⟩=>by unfold LN bnd at p;rw[hs]at p;exact p.elim⟩
theorem JB{i:Nat}:bX Φ (.var i):=by
 intro Γ k X cl EX e c h;apply nL h;intro x pos h;simp only[and_eq_true,beq_iff_eq]at h;obtain⟨v1,v2,v3⟩:=c.vis h.2;have q:PE X (.Name x pos) (tV Φ (bd X cl) EX (.var i)):=by refine(Am (by rw[c.N];exact h.1) v1 v2 v3).imp λσ H Q aL=>?_;obtain⟨ρ,env,h,hE,r,p⟩:=aL;rw[aJ.eq_def]at p;dsimp only at p;obtain⟨d,e1,w⟩:=cB r p;split at e1<;>cases e1;rename_i e1;obtain⟨x,e2,e3⟩:=hE i d e1;exact⟨x,e2,w x e3⟩
 exact⟨q,cX q λ_=>rfl⟩
theorem JC:bX Φ (.cst d):=by
 intro Γ k X cl EX e c h;apply uq h;intro cc j pos h;have q:PE X (.Constant cc j pos) (tV Φ (bd X cl) EX (.cst d)):=by
  unfold BI at h;split at h<;>first|cases h|skip
  ·refine Hw.imp λσ H Q aL=>?_;obtain⟨ρ,env,h,hE,r,p⟩:=aL;simp only[aJ]at p;exact aj r p _ VR.non
  ·cases eq_of_beq h;refine L5.imp λσ H Q aL=>?_;obtain⟨ρ,env,h,hE,r,p⟩:=aL;simp only[aJ]at p;exact aj r p _ VR.bl
  ·cases eq_of_beq h;refine Hu.imp λσ H Q aL=>?_;obtain⟨ρ,env,h,hE,r,p⟩:=aL;simp only[aJ]at p;exact aj r p _ VR.int
  ·cases eq_of_beq h;refine Hx.imp λσ H Q aL=>?_;obtain⟨ρ,env,h,hE,r,p⟩:=aL;simp only[aJ]at p;exact aj r p _ VR.str
 exact⟨q,cX q λ_=>rfl⟩
theorem zJ(h:wo a b=true):a=b:=by
 unfold wo at h;split at h<;>first|rfl|(cases eq_of_beq h;rfl)|cases h
theorem JD:bX Φ (.con x d):=by
 intro Γ k X cl EX e c h;apply nL h;intro y pos h;simp only[and_eq_true,beq_iff_eq]at h;obtain⟨⟨h1,h2⟩,h3⟩:=h;subst h1;obtain⟨g1,g2,g3⟩:=c.gl h2;obtain⟨p,hp,h4⟩:=List.any_eq_true.mp h3;simp only[and_eq_true,beq_iff_eq]at h4;obtain⟨v,u,m1,m2,m3⟩:=c.cons p hp;rw[h4.1]at m1;have q:PE X (.Name x pos) (tV Φ (bd X cl) EX (.con x d)):=by refine(Dt g1 m1 m2 g2).imp λσ H Q aL=>?_;obtain⟨ρ,env,h,hE,r,p⟩:=aL;simp only[aJ]at p;exact aj r p _ (by rw[<-zJ h4.2];exact m3 _ _ _)
 exact⟨q,cX q λ_=>rfl⟩
theorem Nj:bX Φ .no:=by
 intro Γ k X cl EX e c h
 (conv at h=>lhs;whnf);cases h
theorem BL:jS Φ .nil:=by
 refine⟨fun Γ k X cl EX es c h=>?_,trivial⟩;rw[aW]at h;cases es with
 |cons a r=>cases h
 |nil=>refine AB.imp λσ H Q aL=>?_;obtain⟨ρ,env,h,hE,r,p⟩:=aL;simp only[bC]at p;exact aj r p _ aC.nil
theorem yc(h1:bX Φ e)(h2:jS Φ es):jS Φ (.cons e es):=by
 refine⟨fun Γ k X cl EX ls c h=>?_,h1,?_⟩
 ·rw[aW.eq_def]at h;dsimp only at h
  cases ls with
  |nil=>cases h
  |cons l ls=>simp only[and_eq_true]at h;refine(rD (h1 Γ k X cl EX l c h.1.2).1 (h2.1 Γ k X cl EX ls c h.2) (bh h.1.1)).imp λσ H Q aL=>?_;obtain⟨ρ,env,h,hE,r,p⟩:=aL;simp only[bC]at p;refine⟨ρ,env,h,hE,r,aB p λv h1 ρ1 x H1 g1 r1 q1 p1=>⟨ρ1,env,h1,hE.up g1,r1,bI p1 λvs h2 ρ2 H2 g2 r2 p2 xs q2=>?_⟩⟩;exact aj r2 p2 _ (aC.cons (VR.up g2 _ _ q1) q2)
 ·cases es with
  |nil=>trivial
  |cons e' r=>exact h2.2.1
theorem JE(ha:bX Φ a)(hb:bX Φ b):bX Φ (.bin o a b):=by
 intro Γ k X cl EX e c h;apply Ji h;intro l op r pos h;simp only[and_eq_true]at h;obtain⟨⟨h1,h2⟩,h3⟩:=h;have eo:op=Bu o:=Er h1;subst eo;have q:PE X (.BinOp l (Bu o) r pos) (tV Φ (bd X cl) EX (.bin o a b)):=by refine(Mr (IW (cl:=cl) (EX:=EX) o) (ha Γ k X cl EX l c h2).1 (hb Γ k X cl EX r c h3).1).imp λσ H Q aL=>?_;obtain⟨ρ,env,h,hE,r,p⟩:=aL;simp only[aJ]at p;exact⟨ρ,env,h,hE,r,aB p λv h1 ρ1 x H1 g1 r1 q1 p1=>⟨ρ1,env,h1,hE.up g1,r1,aB p1 λw h2 ρ2 y H2 g2 r2 q2 p2=>⟨ρ2,h2,v,w,r2,VR.up g2 _ _ q1,q2,p2⟩⟩⟩
 exact⟨q,cX q λ_=>rfl⟩
theorem JF(ha:bX Φ a):bX Φ (.neg a):=by
 intro Γ k X cl EX e c h;apply Gz h;intro q1 l pos h;apply ur h;intro h;have q:PE X (.UnaryOp .USub l pos) (tV Φ (bd X cl) EX (.neg a)):=by
  refine(Ms Ax (ha Γ k X cl EX l c h).1).imp λσ H Q aL=>?_;obtain⟨ρ,env,h,hE,r,p⟩:=aL;simp only[aJ]at p;refine⟨ρ,env,h,hE,r,aB p λv h1 ρ1 x H1 g1 r1 q1 p1=>?_⟩;cases v<;>first|exact p1.elim|skip
  rw[VR]at q1;exact⟨_,q1,aj r1 p1 _ VR.int⟩
 exact⟨q,cX q λ_=>rfl⟩
theorem JG(ha:bX Φ a)(hb:bX Φ b):bX Φ (.cmp o a b):=by
 intro Γ k X cl EX e c h;apply Jj h;intro l q1 q2 pos h;apply l8 h;intro op h;apply l8 h;intro r h;simp only[and_eq_true,not_eq_true']at h;obtain⟨⟨⟨h1,h4⟩,h2⟩,h3⟩:=h;have eo:op=xT o:=Es h1;subst eo;refine⟨(DI (Bx (cl:=cl) c.units o) (ha Γ k X cl EX l c h2).1 (hb Γ k X cl EX r c h3).1 h4).imp λσ H Q ⟨ρ,env,h,hE,r,p⟩=>?_,(DJ (Bx (cl:=cl) c.units o) (ha Γ k X cl EX l c h2).1 (hb Γ k X cl EX r c h3).1 h4).imp λσ H Q ⟨ρ,env,h,hE,r,p⟩=>?_⟩
 ·simp only[aJ]at p;refine⟨ρ,env,h,hE,r,aB p λv h1 ρ1 x H1 g1 r1 q1 p1=>⟨ρ1,env,h1,hE.up g1,r1,aB p1 λw h2 ρ2 y H2 g2 r2 q2 p2=>?_⟩⟩;obtain⟨t,e,p3⟩:=aE p2;exact⟨ρ2,h2,v,w,t,r2,VR.up g2 _ _ q1,q2,e,aj r2 p3 _ VR.bl⟩
 ·simp only[LN,aJ,bw,cW]at p;refine⟨ρ,env,h,hE,r,aB p λv h1 ρ1 x H1 g1 r1 q1 p1=>⟨ρ1,env,h1,hE.up g1,r1,aB p1 λw h2 ρ2 y H2 g2 r2 q2 p2=>?_⟩⟩;obtain⟨t,e,p3⟩:=aE p2;obtain⟨t',e',w'⟩:=dj r2 p3;cases (show some t=some t' from e');exact⟨ρ2,h2,v,w,t,r2,VR.up g2 _ _ q1,q2,e,t,rfl,w'⟩
theorem JH(ha:bX Φ a)(hb:bX Φ b)(hd:bX Φ d):bX Φ (.chn o o' a b d):=iN λ_ _=>rfl
end
section
variable {B:Bd} {EX:Nat->List V->Hp->Prop} {ρ:List Addr} {H:Hp} {β:Type} {W:β -> Hs->List Addr->Hp->Prop} {h:Hs}
theorem post_bool(p:Post B EX ρ H W (bnd (ou v) f h)):∃t,v=.bl t/\Post B EX ρ H W (f t h):=by
 cases v with
 |bl t=>exact⟨t,rfl,p⟩
 |_=>exact p.elim
theorem l9(p:Post B EX ρ H W (bnd m F h))(k:∀v h1,Post B EX ρ H W (F v h1)->∃t,cC h1 v=some t/\∀ρ1 H1,Gr ρ H ρ1 H1->HR B ρ1 h1 H1->Q t H1) :
  Post B EX ρ H (WT Q) (bnd m (λx=>ask λh=>cC h x) h):=by
 unfold bnd at p |-;cases e:m h with
 |ok v h1=>
  rw[e]at p;obtain⟨t,e1,q⟩:=k v h1 p;show Post B EX ρ H (WT Q) (ask (λh=>cC h v) h1);have e2:ask (λh=>cC h v) h1=.ok t h1:=by unfold ask bf;dsimp only;rw[e1]
  rw[e2];exact λρ1 H1 g r=>q ρ1 H1 g r
 |exc c vs h1=>rw[e]at p;exact p
 |no=>rw[e]at p;exact p
end
section
variable {Φ:Fn} {Γ:pP} {k:Nat} {X:Cx} {cl:Nat->Addr} {EX:Nat->List V->Hp->Prop}
theorem JI(ha:bX Φ a)(hb:bX Φ b):bX Φ (.and a b):=by
 intro Γ k X cl EX e c h;apply qI h;intro q1 q2 pos h;apply ur h;intro h;apply wj h;intro l q3 h;apply wj h;intro m r h;simp only[and_eq_true]at h;obtain⟨h1,h2⟩:=h;have hB:PE X (.BoolOp .And (m::r) pos) (tV Φ (bd X cl) EX b)/\PW X (.BoolOp .And (m::r) pos) (tT Φ (bd X cl) EX b):=by
  cases r with
  |nil=>exact⟨An (hb Γ k X cl EX m c h2).1,Dv (hb Γ k X cl EX m c h2).2⟩
  |cons n r'=>exact⟨(hb Γ k X cl EX _ c h2).1,GG (hb Γ k X cl EX _ c h2).2⟩
 refine⟨(HE (ha Γ k X cl EX l c h1).1 hB.1).imp λσ H Q ⟨ρ,env,h,hE,r,p⟩=>?_,(Hz (ha Γ k X cl EX l c h1).2 hB.2).pt.imp λσ H Q ⟨ρ,env,h,hE,r,p⟩=>?_⟩
 ·simp only[aJ]at p
  refine⟨ρ,env,h,hE,r,aB p λv h1 ρ1 x H1 g1 r1 q1 p1=>?_⟩;obtain⟨t,rfl,p2⟩:=post_bool p1;rw[VR]at q1;refine⟨t,q1,?_⟩;cases t with
  |true=>rw[Wu rfl]at p2 |-;refine⟨ρ1,env,h1,hE.up g1,r1,aB p2 λw h2 ρ2 y H2 g2 r2 q2 p3=>?_⟩;obtain⟨u,rfl,p4⟩:=post_bool p3;exact aj r2 p4 _ q2
  |false=>rw[Wt Wm]at p2 |-;exact aj r1 p2 _ VR.bl
 ·simp only[LN,aJ,bw]at p
  refine⟨ρ,env,h,hE,r,l9 p λv h1 p1=>?_⟩;obtain⟨t,rfl,p2⟩:=post_bool p1;refine⟨t,rfl,λρ1 H1 g1 r1=>?_⟩;have p2:=Post.up g1 p2;cases t with
  |true=>rw[Wu rfl]at p2 |-;simp only[bw,cW]at p2;refine⟨ρ1,env,h1,hE.up g1,r1,l9 p2 λw h2 p3=>?_⟩;obtain⟨u,rfl,p4⟩:=post_bool p3;exact⟨u,rfl,λρ2 H2 g2 r2=>by obtain⟨t',e',w'⟩:=dj r2 (Post.up g2 p4);cases (show some u=some t' from e');exact w'⟩
  |false=>rw[Wt Wm]at p2 |-;obtain⟨t',e',w'⟩:=dj r1 (show Post _ _ ρ1 H1 _ (ask (λh=>cC h (.bl false)) h1) from p2);cases (show some false=some t' from e');exact w'
theorem Nk(ha:bX Φ a)(hb:bX Φ b):bX Φ (.or a b):=by
 intro Γ k X cl EX e c h;apply qI h;intro q1 q2 pos h;apply ur h;intro h;apply wj h;intro l q3 h;apply wj h;intro m r h;simp only[and_eq_true]at h;obtain⟨h1,h2⟩:=h;have hB:PE X (.BoolOp .Or (m::r) pos) (tV Φ (bd X cl) EX b)/\PW X (.BoolOp .Or (m::r) pos) (tT Φ (bd X cl) EX b):=by
  cases r with
  |nil=>exact⟨An (hb Γ k X cl EX m c h2).1,Hy (hb Γ k X cl EX m c h2).2⟩
  |cons n r'=>exact⟨(hb Γ k X cl EX _ c h2).1,GG (hb Γ k X cl EX _ c h2).2⟩
 refine⟨(Ma (ha Γ k X cl EX l c h1).1 hB.1).imp λσ H Q ⟨ρ,env,h,hE,r,p⟩=>?_,(L6 (ha Γ k X cl EX l c h1).2 hB.2).pt.imp λσ H Q ⟨ρ,env,h,hE,r,p⟩=>?_⟩
 ·simp only[aJ]at p
  refine⟨ρ,env,h,hE,r,aB p λv h1 ρ1 x H1 g1 r1 q1 p1=>?_⟩;obtain⟨t,rfl,p2⟩:=post_bool p1;rw[VR]at q1;refine⟨t,q1,?_⟩;cases t with
  |false=>rw[Wt Wm]at p2 |-;refine⟨ρ1,env,h1,hE.up g1,r1,aB p2 λw h2 ρ2 y H2 g2 r2 q2 p3=>?_⟩;obtain⟨u,rfl,p4⟩:=post_bool p3;exact aj r2 p4 _ q2
  |true=>rw[Wu rfl]at p2 |-;exact aj r1 p2 _ VR.bl
 ·simp only[LN,aJ,bw]at p
  refine⟨ρ,env,h,hE,r,l9 p λv h1 p1=>?_⟩;obtain⟨t,rfl,p2⟩:=post_bool p1;refine⟨t,rfl,λρ1 H1 g1 r1=>?_⟩;have p2:=Post.up g1 p2;cases t with
  |false=>rw[Wt Wm]at p2 |-;simp only[bw,cW]at p2;refine⟨ρ1,env,h1,hE.up g1,r1,l9 p2 λw h2 p3=>?_⟩;obtain⟨u,rfl,p4⟩:=post_bool p3;exact⟨u,rfl,λρ2 H2 g2 r2=>by obtain⟨t',e',w'⟩:=dj r2 (Post.up g2 p4);cases (show some u=some t' from e');exact w'⟩
  |true=>rw[Wu rfl]at p2 |-;obtain⟨t',e',w'⟩:=dj r1 (show Post _ _ ρ1 H1 _ (ask (λh=>cC h (.bl true)) h1) from p2);cases (show some true=some t' from e');exact w'
theorem JJ(ha:bX Φ a):bX Φ (.not a):=by
 intro Γ k X cl EX e c h;apply Gz h;intro q1 l pos h;apply ur h;intro h;refine⟨(HF (ha Γ k X cl EX l c h).1).imp λσ H Q ⟨ρ,env,h,hE,r,p⟩=>?_,(HD (ha Γ k X cl EX l c h).2).imp λσ H Q ⟨ρ,env,h,hE,r,p⟩=>?_⟩
 ·simp only[aJ]at p;refine⟨ρ,env,h,hE,r,aB p λv h1 ρ1 x H1 g1 r1 q1 p1=>?_⟩;obtain⟨t,rfl,p2⟩:=post_bool p1;rw[VR]at q1;exact⟨t,q1,aj r1 p2 _ VR.bl⟩
 ·simp only[LN,aJ,bw]at p;refine⟨ρ,env,h,hE,r,l9 p λv h1 p1=>?_⟩;obtain⟨t,rfl,p2⟩:=post_bool p1;refine⟨t,rfl,λρ1 H1 g1 r1=>?_⟩;obtain⟨t',e',w'⟩:=dj r1 (show Post _ _ ρ1 H1 _ (ask (λh=>cC h (.bl (!t))) h1) from Post.up g1 p2);cases (show some (!t)=some t' from e');exact w'
theorem JK(ht:bX Φ t)(ha:bX Φ a)(hb:bX Φ b):bX Φ (.ite t a b):=iN λ_ _=>rfl
theorem JL(hs:jS Φ es):bX Φ (.tup es):=by
 intro Γ k X cl EX e c h;apply Jk h;intro ls x1 pos h;have q:PE X (.Tuple ls x1 pos) (tV Φ (bd X cl) EX (.tup es)):=by refine(Ig (hs.1 Γ k X cl EX ls c h)).imp λσ H Q aL=>?_;obtain⟨ρ,env,h,hE,r,p⟩:=aL;simp only[aJ]at p;refine⟨ρ,env,h,hE,r,bI p λvs h1 ρ1 H1 g1 r1 p1 xs q1=>?_⟩;obtain⟨e1,p2⟩:=aN p1;exact⟨by rw[<-q1.length];exact WQ e1,λq hq=>oA r1 hq q1 p2⟩
 exact⟨q,cX q λ_=>rfl⟩
theorem JM(hs:jS Φ es):bX Φ (.lst es):=by
 intro Γ k X cl EX e c h;apply Jl h;intro ls pos h;have q:PE X (.List ls pos) (tV Φ (bd X cl) EX (.lst es)):=by refine(Ih (hs.1 Γ k X cl EX ls c h)).imp λσ H Q aL=>?_;obtain⟨ρ,env,h,hE,r,p⟩:=aL;simp only[aJ]at p;refine⟨ρ,env,h,hE,r,bI p λvs h1 ρ1 H1 g1 r1 p1 xs q1=>?_⟩;obtain⟨e1,p2⟩:=aN p1;exact⟨by rw[<-q1.length];exact WQ e1,λq hq=>dm r1 hq q1 p2⟩
 exact⟨q,cX q λ_=>rfl⟩
theorem Et:bX Φ .dct0:=by
 intro Γ k X cl EX e c h;apply xZ h;intro q1 q2 pos h;apply kj h;intro h;apply kj h;intro h;have q:PE X (.Dict [] [] pos) (tV Φ (bd X cl) EX .dct0):=by refine(AK (X:=X) (pos:=pos)).imp λσ H Q aL=>?_;obtain⟨ρ,env,h,hE,r,p⟩:=aL;simp only[aJ]at p;exact λa ha=>um (o:=.dct []) (O:=.dK []) r ha ⟨[],aZ,(by rw[fJ])⟩ p
 exact⟨q,cX q λ_=>rfl⟩
theorem JN(ha:bX Φ a)(hb:bX Φ b):bX Φ (.idx a b):=by
 intro Γ k X cl EX e c h;apply wg h;intro l r pos h;simp only[and_eq_true]at h;have q:PE X (.Subscript l r pos) (tV Φ (bd X cl) EX (.idx a b)):=by refine(ME (I0 (cl:=cl) c.units) (ha Γ k X cl EX l c h.1.2).1 (hb Γ k X cl EX r c h.2).1 (wz h.1.1)).imp λσ H Q aL=>?_;obtain⟨ρ,env,h,hE,r,p⟩:=aL;simp only[aJ]at p;refine⟨ρ,env,h,hE,r,aB p λv h1 ρ1 x H1 g1 r1 q1 p1=>⟨ρ1,env,h1,hE.up g1,r1,aB p1 λw h2 ρ2 y H2 g2 r2 q2 p2=>?_⟩⟩;obtain⟨z,e,w'⟩:=dj r2 p2;exact⟨ρ2,h2,v,w,z,r2,VR.up g2 _ _ q1,q2,e,w'⟩
 exact⟨q,cX q λ_=>rfl⟩
def Nl(Φ:Fn)(ir:IE)(env:Env):M (Option Int):=if cV ir=true then ret none else bnd (aJ Φ ir env) λv=>bnd (bf (gh v)) λi=>ret (some i)
def tP(Φ:Fn)(B:Bd)(EX:Nat->List V->Hp->Prop)(ir:IE):TO:=λσ H Q=>∃ρ env h,cM B.K ρ env σ H/\HR B ρ h H/\Post B EX ρ H (λo _ _ H'=>Q o H') (Nl Φ ir env h)
theorem zK{i:Int}(h:gh d=some i):d=.int i:=by cases d<;>cases h;rfl
theorem yd(hi:bX Φ ir)(c:Ctx Φ Γ k X cl EX)(h:(match o with|none=>cV ir|some e=>!cV ir&&bD Γ ir e)=true):PO X o (tP Φ (bd X cl) EX ir):=by
 cases o with
 |none=>refine DO.imp λσ H Q aL=>?_;obtain⟨ρ,env,h',hE,r,p⟩:=aL;unfold Nl at p;rw[Wu h]at p;exact aj r p
 |some e=>simp only[and_eq_true,not_eq_true']at h;refine(DP (hi Γ k X cl EX e c h.2).1).imp λσ H Q aL=>?_;obtain⟨ρ,env,h',hE,r,p⟩:=aL;unfold Nl at p;rw[Wt (by rw[h.1];exact Wm)]at p;refine⟨ρ,env,h',hE,r,aB p λv h1 ρ1 x H1 g1 r1 q1 p1=>?_⟩;obtain⟨i,e1,p2⟩:=b6 p1;cases zK e1;rw[VR]at q1;exact⟨i,q1,aj r1 p2⟩
theorem JO{a lo hi:IE}(ha:bX Φ a)(hl:bX Φ lo)(hh:bX Φ hi):bX Φ (.slc a lo hi):=by
 intro Γ k X cl EX e c h;apply wg h;intro l q1 pos h;apply Jm h;intro l' h' q2 p2 h;apply x6 h;intro h;simp only[and_eq_true]at h;have q:PE X (.Subscript l (.Slice l' h' none p2) pos) (tV Φ (bd X cl) EX (.slc a lo hi)):=by refine(AH (Ja (cl:=cl) (EX:=EX)) (ha Γ k X cl EX l c h.1.1).1 (yd hl c h.1.2) (yd hh c h.2)).imp λσ H Q aL=>?_;obtain⟨ρ,env,h,hE,r,p⟩:=aL;simp only[aJ]at p;refine⟨ρ,env,h,hE,r,aB p λv h1 ρ1 x H1 g1 r1 q1 p1=>⟨ρ1,env,h1,hE.up g1,r1,bI (m:=Nl Φ lo env) p1 λlo' h2 ρ2 H2 g2 r2 p3=>⟨ρ2,env,h2,(hE.up g1).up g2,r2,bI (m:=Nl Φ hi env) p3 λhi' h3 ρ3 H3 g3 r3 p4=>?_⟩⟩⟩;exact⟨ρ3,h3,v,r3,VR.up (g2.trans g3) _ _ q1,p4⟩
 exact⟨q,cX q λ_=>rfl⟩
theorem JP(ha:bX Φ a)(hs:bX Φ sx):bX Φ (.rev a sx):=iN λ_ _=>rfl
theorem lq:∀{eu:kg} {ls:List Expr} {vs:List Val} {h h':Hs},aW Γ eu ls=true->bC Φ eu env h=.ok vs h'->vs.length=ls.length:=by
 intro eu
 induction eu using kg.rec (motive_1:=λ_=>True) with
 |nil=>
  intro ls ds h h' a b;rw[aW]at a;simp only[bC,ret]at b;cases b;cases ls with
  |nil=>rfl
  |cons _ _=>cases a
 |cons e es _ ih=>
  intro ls ds h h' a b;rw[aW.eq_def]at a;dsimp only at a;cases ls with
  |nil=>cases a
  |cons l ls=>
   simp only[and_eq_true]at a;simp only[bC,bnd]at b;cases e1:aJ Φ e env h with
   |ok v h1=>
    rw[e1]at b;dsimp only at b;cases e2:bC Φ es env h1 with
    |ok vs h2=>rw[e2]at b;cases b;simp[ih a.2 e2]
    |exc _ _ _=>rw[e2]at b;cases b
    |no=>rw[e2]at b;cases b
   |exc _ _ _=>rw[e1]at b;cases b
   |no=>rw[e1]at b;cases b
 |_=>trivial
theorem fX{α β:Type}{W:β -> Hs->List Addr->Hp->Prop}{W':α -> Hs->List Addr->Hp->Prop}{m:M α}{f:α -> M β}(p:Post B EX ρ H W (bnd m f h))(k:∀v h1 ρ1 H1,m h=.ok v h1->Gr ρ H ρ1 H1->HR B ρ1 h1 H1->Post B EX ρ1 H1 W (f v h1)->W' v h1 ρ1 H1):Post B EX ρ H W' (m h):=by
 unfold bnd at p;cases e:m h with
 |ok v h1=>rw[e]at p;exact λρ1 H1 g r=>k v h1 ρ1 H1 e g r (Post.up g p)
 |exc c vs h1=>rw[e]at p;exact p
 |no=>rw[e]at p;exact p
theorem iO{α:Type}{h:Hs}{W:α -> Hs->List Addr->Hp->Prop}{o:Out α}(n:∀c xs H,¬ EX c xs H)(p:Post B EX ρ H W o):Post B (λ_ _ _=>False) ρ H W o:=by
 cases o with
 |ok a h'=>exact p
 |exc c vs h'=>exact λρ' H' xs g r q=>n _ _ _ (p ρ' H' xs g r q)
 |no=>exact p
theorem ye{n c:Nat}{φ0:List Val->M Val}(r:HR B ρ h H)(hv:aC B.K ρ H vs xs)(hl:vs.length=n)(p:Post B (λ_ _ _=>False) ρ H (WV B.K Q) (R9 c φ0 vs h))
  (nx:H x=none) (nd:H dx=none) (ne:dx≠x):wu B (n+1) φ0 (.ref x::xs) (upd (upd H dx (.own x)) x (.ins (B.cl c) dx [])) (λv H2=>v=.non/\Q (.ref x) H2) E:=by
 have r1:HR B ρ h (upd H dx (.own x)):=r.side nd;have Se:(upd H dx (.own x)) x=none:=by rw[aG λz=>ne z.symm];exact nx
 have g:Gr ρ H (ρ ++ [x]) (upd (upd H dx (.own x)) x (.ins (B.cl c) dx [])):=(Gr.side nd).trans (Gr.new Se);have r2:HR B (ρ ++ [x]) (h++[.ins c []]) (upd (upd H dx (.own x)) x (.ins (B.cl c) dx [])):=r1.new Se ⟨dx,[],aZ,rfl⟩;have hx:(ρ ++ [x])[h.length]?=some x:=by rw[<-r.len];simp
 refine⟨ρ ++ [x],h++[.ins c []],.ref h.length::vs,by simp[hl],r2,aC.cons (VR.ref hx) (aC.up g _ _ hv),?_⟩;have p2:Post B (λ_ _ _=>False) (ρ ++ [x]) (upd (upd H dx (.own x)) x (.ins (B.cl c) dx [])) (WV B.K Q) (bnd (φ0 (.ref h.length::vs)) (λr=>match r with|.non=>ret (.ref h.length)|_=>bf none) (h++[.ins c []])):=Post.up g p;refine bI p2 λv h1 ρ1 H1 g1 r3 p3 y hy=>?_;cases v<;>first|exact p3.elim|skip
 rw[VR]at hy;exact⟨hy,aj r3 p3 _ (VR.ref (k9 g1.pre hx))⟩
theorem Eu{j:Nat}{k:Nat}(hs:jS Φ es)(c:Ctx Φ Γ k X cl EX)
  (h:(wm Γ.sc x && Γ.fns[j]?==some (x,args.length)&&decide (args.length<1000)&&aW Γ es args)=true):PE X (.Call (.Name x p) args [] pos) (tV Φ (bd X cl) EX (.call j es))/\PT X (.Call (.Name x p) args [] pos) (tT Φ (bd X cl) EX (.call j es)):=by
 simp only[and_eq_true,beq_iff_eq,decide_eq_true_eq]at h;obtain⟨⟨⟨h1,h2⟩,h3⟩,h4⟩:=h;obtain⟨g1,g2,g3⟩:=c.gl h1;have room:eE k X.A:=c.room.mono (Xo k);have q:PE X (.Call (.Name x p) args [] pos) (tV Φ (bd X cl) EX (.call j es)):=by
  rcases c.fns j x _ h2 with ⟨_,⟨f,fd,ps,f1,f2,f3,f4,f5⟩|⟨cc,f,fd,ps,φ0,f0,f1,f2,f3,f4,f5⟩⟩|⟨z,_⟩
  ·cases args with
   |nil=>
    cases es with
    |cons i eu=>rw[aW.eq_def]at h4;cases h4
    |nil=>refine(AE f5 room g1 f2 f3 f4 .nil xF g2).imp λσ H Q aL=>?_;obtain⟨ρ,env,h,hE,r,p⟩:=aL;simp only[aJ,bC,cW]at p;exact⟨ρ,h,[],rfl,r,aC.nil,iO (h:=h) c.nj p⟩
   |cons l ls=>
    cases es with
    |nil=>rw[aW]at h4;cases h4
    |cons i eu=>have h5:=h4;rw[aW.eq_def]at h5;dsimp only at h5;simp only[and_eq_true]at h5;refine(DK f5 room g1 f2 f3 f4 .nil xF (hs.1 Γ k X cl EX _ c h4) g2 (bh h5.1.1) (ic h5.2)).imp λσ H Q aL=>?_;obtain⟨ρ,env,h,hE,r,p⟩:=aL;simp only[aJ]at p;refine⟨ρ,env,h,hE,r,fX p λvs h1 ρ1 H1 e1 g1 r1 p1 xs q1=>⟨ρ1,h1,vs,lq h4 e1,r1,by rw[XE];exact q1,iO (h:=h1) c.nj p1⟩⟩
  ·cases args with
   |nil=>
    cases es with
    |cons i eu=>rw[aW.eq_def]at h4;cases h4
    |nil=>refine(AF f3 f5 c.room g1 f2 f4 .nil xF g2).imp λσ H Q aL=>?_;obtain⟨ρ,env,h,hE,r,p⟩:=aL;simp only[aJ,bC,cW]at p;intro y dy ny Q4 Q5;rw[f0]at p;exact ye (B:=bd X cl) r aC.nil rfl (iO (h:=h) c.nj p) ny Q4 Q5
   |cons l ls=>
    cases es with
    |nil=>rw[aW]at h4;cases h4
    |cons i eu=>have h5:=h4;rw[aW.eq_def]at h5;dsimp only at h5;simp only[and_eq_true]at h5;refine(DL f3 f5 c.room g1 f2 f4 .nil xF (hs.1 Γ k X cl EX _ c h4) g2 (bh h5.1.1) (ic h5.2)).imp λσ H Q aL=>?_;obtain⟨ρ,env,h,hE,r,p⟩:=aL;simp only[aJ]at p;refine⟨ρ,env,h,hE,r,fX p λvs h1 ρ1 H1 e1 g1 r1 p1 xs q1 y dy ny Q4 Q5=>?_⟩;rw[f0]at p1;rw[XE];exact ye (B:=bd X cl) r1 q1 (lq h4 e1) (iO (h:=h1) c.nj p1) ny Q4 Q5
  ·omega
 exact⟨q,cX q λ_=>rfl⟩
theorem Ew{j:Nat}(hs:jS Φ es):bX Φ (.call j es):=by
 intro Γ k X cl EX e c h;apply lg h;intro x _ args _ h;exact Eu hs c h
theorem JQ{n:Nat}(ha:bX Φ a):bX Φ (.fld n a x):=iN λ_ _=>rfl
theorem JR(ha:bX Φ a)(hs:jS Φ es):bX Φ (.mth a m js es):=iN λ_ _=>rfl
end
section
variable {Φ:Fn} {Γ:pP} {k:Nat} {X:Cx} {cl:Nat->Addr} {EX:Nat->List V->Hp->Prop}
theorem JS:bootBuiltins "all" = some (.builtin "all"):=by decide +kernel
theorem JT:bootBuiltins "any" = some (.builtin "any"):=by decide +kernel
theorem qJ:bootBuiltins "sorted" = some (.builtin "sorted"):=by decide +kernel
theorem JU:bootBuiltins "min" = some (.builtin "min"):=by decide +kernel
theorem JV:bootBuiltins "max" = some (.builtin "max"):=by decide +kernel
theorem nN:bootBuiltins "list" = some (.type "list"):=by decide +kernel
theorem uv:bootBuiltins "tuple" = some (.type "tuple"):=by decide +kernel
theorem BN:bootBuiltins "str" = some (.type "str"):=by decide +kernel
theorem BO:bootBuiltins "int" = some (.type "int"):=by decide +kernel
theorem Ex:bootBuiltins "bool" = some (.type "bool"):=by decide +kernel
theorem Ey:bootBuiltins "dict" = some (.type "dict"):=by decide +kernel
theorem Ez:bootBuiltins "isinstance" = some (.builtin "isinstance"):=by decide +kernel
theorem uw:bC Φ #[e] env=bnd (aJ Φ e env) λd=>ret [d]:=by
 simp only[bC,cW]
theorem six{T:String}(h:["list","tuple","str","bool","int","dict"].contains T=true):T = "list" \/ T = "tuple" \/ T = "str" \/ T = "bool" \/ T = "int" \/ T = "dict":=by simpa using h
theorem EA{T:String}(h:["list","tuple","str","bool","int","dict"].contains T=true):(T:Str)∈bltNames/\bootBuiltins (T:Str)=some (.type T)/\(T:Str) ≠ "__name__" /\ ((T:Str)==("__debug__":Str))=false:=by
 rcases six h with rfl|rfl|rfl|rfl|rfl|rfl
 ·exact⟨by decide,nN,by decide,by decide⟩
 ·exact⟨by decide,uv,by decide,by decide⟩
 ·exact⟨by decide,BN,by decide,by decide⟩
 ·exact⟨by decide,Ex,by decide,by decide⟩
 ·exact⟨by decide,BO,by decide,by decide⟩
 ·exact⟨by decide,Ey,by decide,by decide⟩
theorem EB{T:String}(hs:jS Φ es):bX Φ (.blt (.isin T) es):=by
 intro Γ k X cl EX e c h;apply lg h;intro x p args pos h;simp only[and_eq_true,beq_iff_eq]at h;obtain⟨⟨h1,h2⟩,h3⟩:=h;subst h2;obtain⟨g1,g2,g3⟩:=c.gl h1;split at h3<;>first|cases h3|skip
 rename_i a y yp;simp only[and_eq_true,beq_iff_eq]at h3;obtain⟨⟨⟨k1,k2⟩,k3⟩,k4⟩:=h3;obtain⟨b1,b2,b3,b4⟩:=EA k3;obtain⟨y1,y2,y3⟩:=c.gl k1;subst k2;cases es with
 |nil=>rw[aW]at k4;cases k4
 |cons i eu=>
  rw[aW.eq_def]at k4;dsimp only at k4;simp only[and_eq_true]at k4;cases eu with
  |cons j eu=>have:=k4.2;rw[aW.eq_def]at this;cases this
  |nil=>
   have q:PE X (.Call (.Name (Ni (.isin T)) p) [a,.Name (T:Str) yp] [] pos) (tV Φ (bd X cl) EX (.blt (.isin T) #[i])):=by refine(f7 (Ei (cl:=cl) (EX:=EX) (T:=T)) g1 (c.blt _ (show ("isinstance":Str)∈bltNames by decide)) Ez (rD (hs.2.1 Γ k X cl EX a c k4.1.2).1 (rD (Du (v:=.ty T) y1 (c.blt _ b1) b2 rfl b3 b4) AB) (bh k4.1.1)) g3 g2 (bh k4.1.1)).imp λσ H Q aL=>?_;obtain⟨ρ,env,h,hE,r,p⟩:=aL;simp only[aJ,uw,bw,cW]at p;exact⟨ρ,env,h,hE,r,aB p λv h1 ρ1 x H1 g1 r1 q1 p1=>⟨ρ1,h1,v,x,rfl,r1,q1,p1⟩⟩
   exact⟨q,cX q λ_=>rfl⟩
theorem JW:bootBuiltins "set" = some (.type "set"):=by decide +kernel
theorem EC(ha:bX Φ a):bX Φ (.sset a):=by
 intro Γ k X cl EX e c h;apply lg h;intro x p1 q1 pos1 h;apply l8 h;intro q2 h;apply lg h;intro y p2 q3 pos2 h;apply l8 h;intro l h;simp only[and_eq_true,beq_iff_eq]at h;obtain⟨⟨⟨⟨⟨h1,h2⟩,h3⟩,h4⟩,h5⟩,h6⟩:=h;subst h1;subst h2;have q:PE X (.Call (.Name "sorted" p1) [.Call (.Name "set" p2) [l] [] pos2] [] pos1) (tV Φ (bd X cl) EX (.sset a)):=by have qe:=(ha Γ k X cl EX l c h6).1;intro pins s σ H Q I hh;have hd:X.A.handled=none:=I.ok.hd c.calm;refine((Ea hd (c.gl h3).1 (c.blt _ (by decide)) (c.gl h4).1 (c.blt _ (by decide)) qJ JW qe (bh (env:=X.env) (es:=[]) h5)).imp λσ H Q ⟨ρ,env,h,hE,r,p⟩=>?_) pins s σ H Q I hh;simp only[aJ]at p;refine⟨ρ,env,h,hE,r,aB p λv h1 ρ1 x H1 g1 r1 q1 p1=>?_⟩;obtain⟨zs,e,p1⟩:=aE p1;obtain⟨ns,e1,p1⟩:=b6 p1;obtain⟨e2,p1⟩:=aN p1;obtain⟨b,ys,rfl,q2,q3⟩:=fG r1 q1 e;rw[dw e1]at q3;rw[aC.ints.mp q3]at q2;exact⟨b,ns,rfl,q2,WQ e2,λl hl=>dm r1 hl (aC.ints.mpr rfl) p1⟩
 exact⟨q,cX q λ_=>rfl⟩
theorem ED{d k x:IE}(hd:bX Φ d)(hk:bX Φ k)(hx:bX Φ x):bX Φ (.dget d k x):=by
 intro Γ n X cl EX e c h;apply x9 h;intro o m ap q1 cp h;apply M8 h;intro a b h;simp only[and_eq_true,beq_iff_eq]at h;obtain⟨⟨⟨⟨⟨⟨⟨h1,h2⟩,h3⟩,h4⟩,h5⟩,h6⟩,h7⟩,h8⟩:=h;subst h1;have st:starEach [a,b] X.env=[(false,eval a X.env),(false,eval b X.env)]:=by rw[bh h3,bh h4];rfl
 have m2:M2 X o "get" ap a b cp:=⟨super_ok h2,by rw[st];rfl,by rw[h5];exact Xv _,by rw[st];rfl⟩;have q:PE X (.Call (.Attribute o "get" ap) [a,b] [] cp) (tV Φ (bd X cl) EX (.dget d k x)):=by
  refine(AM (by have:=c.units;omega) (hd Γ n X cl EX o c h6).1 (hk Γ n X cl EX a c h7).1 (hx Γ n X cl EX b c h8).1 m2).imp λσ H Q aL=>?_;obtain⟨ρ,env,h,hE,r,p⟩:=aL;simp only[aJ]at p;refine⟨ρ,env,h,hE,r,aB p λv h1 ρ1 y H1 g1 r1 q1 p1=>?_⟩;obtain⟨u0,e1,pA⟩:=aE p1;clear p1;cases v<;>first|(cases e1;done)|(rw[VR]at q1;exact q1.elim)|skip
  rename_i i;rw[VR]at q1;obtain⟨ad,rfl,q1⟩:=q1;have hdc:∃kvs,h1[i]?=some (.dct kvs):=by
   change (match h1[i]? with|some (.dct _)=>some ()|_=>none)=some _ at e1;split at e1
   ·rename_i kvs e2;exact⟨kvs,e2⟩
   ·cases e1
  obtain⟨kvs,e2⟩:=hdc;obtain⟨ks,k1,k2⟩:=r1.ob i _ ad e2 q1;refine⟨ad,rfl,.inl ⟨ks,.inl k1⟩,ρ1,env,h1,hE.up g1,r1,aB pA λw h2 ρ2 y2 H2 g2 r2 q2 p2=>?_⟩;obtain⟨kk,e3,p2⟩:=b6 p2;refine⟨ρ2,env,h2,(hE.up g1).up g2,r2,aB p2 λz h3 ρ3 y3 H3 g3 r3 q3 p3=>?_⟩;obtain⟨rr,e4,p3⟩:=aE p3;have q4:ρ3[i]?=some ad:=k9 (g2.trans g3).pre q1;have Uy:∃kvs,h3[i]?=some (.dct kvs)/\rr=bP kvs kk:=by
   change (match h3[i]? with|some (.dct kvs)=>some (bP kvs kk)|_=>none)=some rr at e4;split at e4
   ·rename_i kvs e2;cases e4;exact⟨kvs,e2,rfl⟩
   ·cases e4
  obtain⟨zL,e5,rfl⟩:=Uy;obtain⟨PM,k3,k4⟩:=r3.ob i _ ad e5 q4;have ek:y2=kV kk:=by
   cases w<;>first|(cases e3;done)|skip
   ·cases e3;rw[VR]at q2;exact q2
   ·cases e3;rw[VR]at q2;exact q2
  refine⟨eF PM kk,by rw[ek];exact nt.k k3,?_⟩;cases ev:bP zL kk with
  |none=>rw[ev]at p3;rw[(fJ.val kk k4).1 ev];exact aj r3 p3 _ q3
  |some z'=>obtain⟨t,e6,q6⟩:=(fJ.val kk k4).2 z' ev;rw[ev]at p3;rw[e6];exact aj r3 p3 _ q6
 exact⟨q,cX q λ_=>rfl⟩
theorem yf{K:Frag}{ρ:List Addr}{H:Hp}:∀{kvs:List (Key×Val)} {ks:List (Key×V)},fJ K ρ H kvs ks->aC K ρ H ((kvs.map (·.1)).map Bq) (ks.map λkv=>kV kv.1)
 |[],ks,q=>by rw[fJ]at q;subst q;exact rfl
 | (k,v)::kvs,ks,q=>by
  rw[fJ]at q;obtain⟨x,r,rfl,_,q⟩:=q;refine⟨kV k,_,rfl,?_,yf q⟩;cases k with
  |inl i=>exact VR.int
  |inr s=>exact VR.str
theorem qK{rE:Unit}:∀(σ:L2.St) (H:Hp) (Q:VK),tV Φ (bd X cl) EX (.lkeys d) σ H Q->tLK (tV Φ (bd X cl) EX d) σ H Q:=λσ H Q ⟨ρ,env,h,hE,r,p⟩=>by
 simp only[aJ]at p;refine⟨ρ,env,h,hE,r,aB p λv h1 ρ1 y H1 g1 r1 q1 p1=>?_⟩;obtain⟨Uz,e1,pA⟩:=aE p1;clear p1;cases v<;>first|(cases e1;done)|(rw[VR]at q1;exact q1.elim)|skip
 rename_i i;rw[VR]at q1;obtain⟨ad,rfl,q1⟩:=q1;have hdc:∃kvs,h1[i]?=some (.dct kvs)/\Uz=kvs.map (·.1):=by
  change (match h1[i]? with|some (.dct kvs)=>some (kvs.map (·.1))|_=>none)=some _ at e1;split at e1
  ·rename_i kvs e2;cases e1;exact⟨kvs,e2,rfl⟩
  ·cases e1
 obtain⟨kvs,e2,rfl⟩:=hdc;obtain⟨ks,k1,k2⟩:=r1.ob i _ ad e2 q1;exact⟨ad,ks,rfl,k1,λl hl=>dm r1 hl (yf k2) pA⟩
theorem BP(hd:bX Φ d):bX Φ (.lkeys d):=by
 intro Γ n X cl EX e c h
 rcases Sa h with h|h
 ·apply lg h;intro x p q1 pos h
  apply l8 h;intro q2 h;apply x9 h;intro o m ap q3 cp h;apply kj h;intro h;simp only[and_eq_true,beq_iff_eq]at h;obtain⟨⟨⟨⟨⟨h1,h2⟩,h3⟩,h4⟩,h5⟩,h6⟩:=h;subst h1;subst h2;have q:PE X (.Call (.Name "list" p) [.Call (.Attribute o "keys" ap) [] [] cp] [] pos) (tV Φ (bd X cl) EX (.lkeys d)):=by have qe:=(hd Γ n X cl EX o c h6).1;intro pins s σ H Q I hh;have hdl:X.A.handled=none:=I.ok.hd c.calm;exact((Bo hdl (c.gl h3).1 (c.blt _ (by decide)) nN qe (super_ok h4) (by rw[h5];exact Xv _)).imp (qK (rE:=()))) pins s σ H Q I hh
  exact⟨q,cX q λ_=>rfl⟩
 ·apply lg h;intro x p q1 pos h
  apply l8 h;intro q2 h;apply nL h;intro y qp h;simp only[and_eq_true,beq_iff_eq]at h;obtain⟨⟨h1,h3⟩,h6⟩:=h;subst h1;have q:PE X (.Call (.Name "list" p) [.Name y qp] [] pos) (tV Φ (bd X cl) EX (.lkeys d)):=by have qe:=(hd Γ n X cl EX _ c h6).1;intro pins s σ H Q I hh;have hdl:X.A.handled=none:=I.ok.hd c.calm;exact((zv hdl (bh rfl) (c.gl h3).1 (c.blt _ (by decide)) nN qe).imp (qK (rE:=()))) pins s σ H Q I hh
  exact⟨q,cX q λ_=>rfl⟩
theorem EE{d k x:IE}(hd:bX Φ d)(hk:bX Φ k)(hx:bX Φ x):bX Φ (.sdef d k x):=by
 intro Γ n X cl EX e c h;apply x9 h;intro o m ap q1 cp h;apply M8 h;intro a b h;simp only[and_eq_true,beq_iff_eq]at h;obtain⟨⟨⟨⟨⟨⟨⟨h1,h2⟩,h3⟩,h4⟩,h5⟩,h6⟩,h7⟩,h8⟩:=h;subst h1;have st:starEach [a,b] X.env=[(false,eval a X.env),(false,eval b X.env)]:=by rw[bh h3,bh h4];rfl
 have m2:M2 X o "setdefault" ap a b cp:=⟨super_ok h2,by rw[st];rfl,by rw[h5];exact Xv _,by rw[st];rfl⟩;have q:PE X (.Call (.Attribute o "setdefault" ap) [a,b] [] cp) (tV Φ (bd X cl) EX (.sdef d k x)):=by
  refine(Eb (hd Γ n X cl EX o c h6).1 (hk Γ n X cl EX a c h7).1 (hx Γ n X cl EX b c h8).1 m2).imp λσ H Q aL=>?_;obtain⟨ρ,env,h,hE,r,p⟩:=aL;simp only[aJ]at p;refine⟨ρ,env,h,hE,r,aB p λv h1 ρ1 y H1 g1 r1 q1 p1=>?_⟩;obtain⟨u0,e1,pA⟩:=aE p1;clear p1;cases v<;>first|(cases e1;done)|(rw[VR]at q1;exact q1.elim)|skip
  rename_i i;rw[VR]at q1;obtain⟨ad,rfl,q1⟩:=q1;have hdc:∃kvs,h1[i]?=some (.dct kvs):=by
   change (match h1[i]? with|some (.dct _)=>some ()|_=>none)=some _ at e1;split at e1
   ·rename_i kvs e2;exact⟨kvs,e2⟩
   ·cases e1
  obtain⟨kvs,e2⟩:=hdc;obtain⟨ks,k1,k2⟩:=r1.ob i _ ad e2 q1;refine⟨ad,rfl,.inl ⟨ks,.inl k1⟩,ρ1,env,h1,hE.up g1,r1,aB pA λw h2 ρ2 y2 H2 g2 r2 q2 p2=>?_⟩;obtain⟨kk,e3,p2⟩:=b6 p2;refine⟨ρ2,env,h2,(hE.up g1).up g2,r2,aB p2 λz h3 ρ3 y3 H3 g3 r3 q3 p3=>?_⟩;change Post _ _ _ _ _ (bnd (ask λh=>match h[i]? with|some (.dct kvs)=>some kvs|_=>none) (λkvs=>aH (decide (kvs.length<sizeLine)) (match bP kvs kk with
   |some v=>Hv.ret v
   |none=>bnd (put i (.dct (gU kvs kk z))) λ_=>Hv.ret z)) h3)at p3
  obtain⟨zL,e4,p3⟩:=aE p3;obtain⟨el,p3⟩:=aN p3;have q4:ρ3[i]?=some ad:=k9 (g2.trans g3).pre q1;have e5:h3[i]?=some (.dct zL):=by
   split at e4
   ·rename_i kvs e2;cases e4;exact e2
   ·cases e4
  obtain⟨PM,k3,k4⟩:=r3.ob i _ ad e5 q4;have ek:y2=kV kk:=by
   cases w<;>first|(cases e3;done)|skip
   ·cases e3;rw[VR]at q2;exact q2
   ·cases e3;rw[VR]at q2;exact q2
  refine⟨PM,kk,k3,ek,by rw[<-k4.length];exact WQ el,λt e6=>?_,λe6=>?_⟩
  ·cases ev:bP zL kk with
   |none=>rw[(fJ.val kk k4).1 ev]at e6;cases e6
   |some z'=>obtain⟨t',e7,q6⟩:=(fJ.val kk k4).2 z' ev;rw[ev]at p3;rw[e7]at e6;cases e6;exact aj r3 p3 _ q6
  ·cases ev:bP zL kk with
   |some z'=>obtain⟨t',e7,q6⟩:=(fJ.val kk k4).2 z' ev;rw[e7]at e6;cases e6
   |none=>rw[ev]at p3;have g:Gr ρ3 H3 ρ3 (upd H3 ad (.dK (putK PM kk y3))):=Gr.put (WM q4) k3 rfl;exact p3 ρ3 _ g (r3.put q4 e5 (u:=.dct (gU zL kk z)) ⟨_,aZ,fJ.put kk (VR.up g _ _ q3) (fJ.up g _ _ k4)⟩) _ (VR.up g _ _ q3)
 exact⟨q,cX q λ_=>rfl⟩
theorem yg{α β:Type}{f:α -> β}:∀{l:List α},(l.map f).Nodup->∀a∈l,∀b∈l,f a=f b->a=b
 | x::l,h,a,ha,b,hb,e=>by
  rw[WI,W6]at h
  rcases WH.mp ha with e1|ha2
  ·rcases WH.mp hb with e2|hb2
   ·rw[e1,e2]
   ·rw[e1]at e;exact(h.1 (e▸Xd hb2)).elim
  ·rcases WH.mp hb with e2|hb2
   ·rw[e2]at e;exact(h.1 (e▸Xd ha2)).elim
   ·exact yg h.2 a ha2 b hb2 e
theorem BQ(hd:bX Φ d):bX Φ (.skeys d):=iN λ_ _=>rfl
theorem BR(hd:bX Φ d):bX Φ (.svals d):=iN λ_ _=>rfl
theorem JX(hs:jS Φ es):bX Φ (.blt b es):=by
 cases b with
 |isin T=>exact EB hs
 |_=>
  intro Γ k X cl EX e c h;apply lg h;intro x p args pos h;simp only[and_eq_true,beq_iff_eq]at h;obtain⟨⟨h1,h2⟩,h3⟩:=h;subst h2;obtain⟨g1,g2,g3⟩:=c.gl h1;cases args with
  |nil=>cases h3.1
  |cons l ls=>
   cases es with
   |nil=>have:=h3.2;rw[aW]at this;cases this
   |cons i eu=>
    have h5:=h3.2;rw[aW.eq_def]at h5;dsimp only at h5;simp only[and_eq_true]at h5;have hA:=hs.1 Γ k X cl EX _ c h3.2;have st:=bh (env:=X.env) (es:=ls) h5.1.1;have an:=ic (pos:=pos) (env:=X.env) h5.2;refine(λq=>⟨q,cX q λ_=>rfl⟩) ?_
    first
     |refine(f7 (Jb (cl:=cl) (EX:=EX)) g1 (c.blt _ (by decide)) PySem.boot_len hA g3 g2 st an).imp λσ H Q ⟨ρ,env,h,hE,r,p⟩=>?_
     |refine(f7 (Jc (cl:=cl) (EX:=EX) c.calm) g1 (c.blt _ (by decide)) JU hA g3 g2 st an).imp λσ H Q ⟨ρ,env,h,hE,r,p⟩=>?_
     |refine(f7 (Jd (cl:=cl) (EX:=EX) c.calm) g1 (c.blt _ (by decide)) JV hA g3 g2 st an).imp λσ H Q ⟨ρ,env,h,hE,r,p⟩=>?_
     |refine(f7 (zC (cl:=cl) (EX:=EX)) g1 (c.blt _ (by decide)) qJ hA g3 g2 st an).imp λσ H Q ⟨ρ,env,h,hE,r,p⟩=>?_
     |refine(f7 (Jg (cl:=cl) (EX:=EX) c.calm) g1 (c.blt _ (by decide)) JS hA g3 g2 st an).imp λσ H Q ⟨ρ,env,h,hE,r,p⟩=>?_
     |refine(f7 (Jh (cl:=cl) (EX:=EX) c.calm) g1 (c.blt _ (by decide)) JT hA g3 g2 st an).imp λσ H Q ⟨ρ,env,h,hE,r,p⟩=>?_
     |refine(jH (Eg (cl:=cl) (EX:=EX)) g1 (c.blt _ (by decide)) nN hA g3 g2 st an).imp λσ H Q ⟨ρ,env,h,hE,r,p⟩=>?_
     |refine(jH (By (cl:=cl) (EX:=EX)) g1 (c.blt _ (by decide)) uv hA g3 g2 st an).imp λσ H Q ⟨ρ,env,h,hE,r,p⟩=>?_
     |refine(jH (Je (cl:=cl) (EX:=EX)) g1 (c.blt _ (by decide)) BN hA g3 g2 st an).imp λσ H Q ⟨ρ,env,h,hE,r,p⟩=>?_
     |refine(jH (Jf (cl:=cl) (EX:=EX)) g1 (c.blt _ (by decide)) BO hA g3 g2 st an).imp λσ H Q ⟨ρ,env,h,hE,r,p⟩=>?_
    simp only[aJ]at p;exact⟨ρ,env,h,hE,r,bI p λvs h1 ρ1 H1 g1 r1 p1 xs q1=>⟨ρ1,h1,vs,r1,q1,p1⟩⟩
def Sf:Me->String
 |.join=>"str" | .append=>"list" | .extend=>"list" | .remove=>"list"
theorem EF(r:HR B ρ h H)(q:VR B.K ρ H v x)(e:recv h m v=some ()):Qz B.K (Sf m) x H:=by
 cases m<;>cases v<;>simp only[recv]at e<;>first|cases e|skip
 ·rw[VR]at q;subst q;rfl
 all_goals
  split at e
  ·rename_i xs e1;obtain⟨a,ys,rfl,q0,q1,q2⟩:=jM r q e1;exact .inl ⟨rfl,ys,.inl (.inl q1)⟩
  ·cases e
theorem JY(ha:bX Φ a)(hs:jS Φ es):bX Φ (.met m a es):=by
 intro Γ k X cl EX e c h;apply x9 h;intro o x ap args cp h;simp only[and_eq_true,beq_iff_eq]at h;obtain⟨⟨⟨⟨⟨⟨h1,h2⟩,h3⟩,h4⟩,h5⟩,h6⟩,h7⟩:=h;subst h1;cases args with
 |nil=>cases h3
 |cons l ls=>
  have hA:=hs.1 Γ k X cl EX _ c h7;have h8:noStar l=true/\∃eu,aW Γ eu ls=true:=by
   cases es with
   |nil=>rw[aW]at h7;cases h7
   |cons i eu=>rw[aW.eq_def]at h7;dsimp only at h7;simp only[and_eq_true]at h7;exact⟨h7.1.1,eu,h7.2⟩
  obtain⟨n1,eu,n2⟩:=h8;have st:=bh (env:=X.env) (es:=ls) n1;have an:=ic (pos:=cp) (env:=X.env) n2;have few:((backTo cp (starEach (l::ls) X.env)).all (λx=>!x.1)&&(backToKw cp (keywordEach [] X.env)).all (λx=>x.1.isSome)
   && decide ((l::ls).length+([]:List Keyword).length+(if ([]:List Keyword).isEmpty then 0 else 1)<30))=true:=by
   rw[BK h7];have:(l::ls).length<29:=WQ h4;simp only[Bool.true_and,and_eq_true];exact⟨rfl,decide_eq_true (by simp at this |-;omega)⟩
  have hl:(ap.endLine==cp.line)=true:=by rw[h5];exact Xv _
  refine(λq=>⟨q,cX q λ_=>rfl⟩) ?_;have fin:∀(T:String) (r:V->List V->Hp->VK->Prop),(∀x xs H Q,M1 (bd X cl) EX m x xs H Q->r x xs H Q)->T=Sf m->∀σ H Q,tV Φ (bd X cl) EX (.met m a es) σ H Q->RQ X.K T r (tV Φ (bd X cl) EX a) (Sd Φ (bd X cl) EX es) σ H Q:=by rintro T rr hr rfl σ H Q ⟨ρ,env,h,hE,r,p⟩;simp only[aJ]at p;refine⟨ρ,env,h,hE,r,aB p λv h1 ρ1 x H1 g1 r1 q1 p1=>?_⟩;obtain⟨_,e1,p2⟩:=aE p1;refine⟨EF r1 q1 e1,ρ1,env,h1,hE.up g1,r1,bI p2 λvs h2 ρ2 H2 g2 r2 p3 xs q2=>hr _ _ _ _ ⟨ρ2,h2,v,vs,r2,VR.up g2 _ _ q1,q2,p3⟩⟩
  cases m with
  |join=>exact(xE PySem.F.plainAttrs_str PySem.F.slot_str_join PySem.F.type_str_join (Ej (cl:=cl) (EX:=EX)) (ha Γ k X cl EX o c h6).1 hA (super_ok h2) few hl st an).imp (fin _ _ (λ_ _ _ _ z=>z) rfl)
  |append=>exact(xE Ym PySem.F.slot_list_append PySem.F.type_list_append (zE (cl:=cl) (EX:=EX)) (ha Γ k X cl EX o c h6).1 hA (super_ok h2) few hl st an).imp (fin _ _ (λ_ _ _ _ z=>z) rfl)
  |extend=>exact(xE Ym PySem.F.slot_list_extend PySem.F.type_list_extend (zF (cl:=cl) (EX:=EX)) (ha Γ k X cl EX o c h6).1 hA (super_ok h2) few hl st an).imp (fin _ _ (λ_ _ _ _ z=>z) rfl)
  |remove=>exact(xE Ym PySem.F.slot_list_remove PySem.F.type_list_remove (zG (cl:=cl) (EX:=EX)) (ha Γ k X cl EX o c h6).1 hA (super_ok h2) few hl st an).imp (fin _ _ (λ_ _ _ _ z=>z) rfl)
end
theorem _root_.L2.PI.or(h:PI X tg iter t)(h':PI X tg iter t'):PI X tg iter (λσ H R=>t σ H R\/t' σ H R):=λpins s σ H R I hw=>hw.elim (h pins s σ H R I) (h' pins s σ H R I)
structure Walks (B:Bd) (src:Src) (J:It) (ρ1:List Addr) (H1:Hp):Prop where
 stop:∀{ρ h H i xs},Gw ρ1 H1 ρ H->HR B ρ h H->src.items h=some xs->xs.length<=i->J.stop i H
 go:∀{ρ h H i xs v},Gw ρ1 H1 ρ H->HR B ρ h H->src.items h=some xs->xs[i]?=some v->J.go i H
 vA:∀{ρ h H i xs v y H'},Gw ρ1 H1 ρ H->HR B ρ h H->src.items h=some xs->xs[i]?=some v->J.vA i H y H'->Gr ρ H ρ H'/\HR B ρ h H'/\VR B.K ρ H' v y
section
variable {B:Bd} {ρ1:List Addr} {H1:Hp} {a:Addr}
theorem zM(q:iV B.K H1 a xs)(e:aC B.K ρ1 H1 vs xs):Walks B (.fix vs) (Qk B.K a) ρ1 H1 where
 stop:=λg r hi hl=>by
  cases hi;exact⟨xs,g.PJ q,by rw[<-e.length];exact hl⟩
 go:=λg r hi hv=>by
  cases hi;obtain⟨x,k1,_⟩:=e.get hv;exact⟨xs,x,g.PJ q,k1⟩
 vA:=λg r hi hv y=>by
  cases hi;obtain⟨rfl,y⟩:=y;obtain⟨x,k1,k2⟩:=e.get hv;have:=y xs (g.PJ q);rw[k1]at this;cases this;exact⟨Gr.refl,r,VR.j4 g _ _ k2⟩
theorem BS(q:Gx B.K H1 a xs)(e:aC B.K ρ1 H1 vs xs):Walks B (.fix vs) (Pq B.K a) ρ1 H1 where
 stop:=λg r hi hl=>by
  cases hi;exact⟨xs,(g.IV q).sq,by rw[<-e.length];exact hl⟩
 go:=λg r hi hv=>by
  cases hi;obtain⟨x,k1,_⟩:=e.get hv;exact⟨xs,x,(g.IV q).sq,k1⟩
 vA:=λg r hi hv y=>by
  cases hi;obtain⟨rfl,y⟩:=y;obtain⟨x,k1,k2⟩:=e.get hv;have:=y xs (g.IV q).sq;rw[k1]at this;cases this;exact⟨Gr.refl,r,VR.j4 g _ _ k2⟩
theorem jN{i:Nat}(q:ρ1[i]?=some a)(g:Gw ρ1 H1 ρ H)(r:HR B ρ h H)(hi:(Src.live i).items h=some xs):∃ys,gR B.K H a ys/\aC B.K ρ H xs ys:=by
 obtain⟨b,ys,e,k1,k2⟩:=fG r (VR.ref (k9 g.pre q)) (show aF h (.ref i)=some xs from hi);cases e;exact⟨ys,k1,k2⟩
theorem wC{i:Nat}(q:ρ1[i]?=some a):Walks B (.live i) (Pq B.K a) ρ1 H1 where
 stop:=λg r hi hl=>by
  obtain⟨ys,k1,k2⟩:=jN q g r hi;exact⟨ys,k1,by rw[<-k2.length];exact hl⟩
 go:=λg r hi hv=>by
  obtain⟨ys,k1,k2⟩:=jN q g r hi;obtain⟨x,k3,_⟩:=k2.get hv;exact⟨ys,x,k1,k3⟩
 vA:=λg r hi hv y=>by
  obtain⟨ys,k1,k2⟩:=jN q g r hi;obtain⟨rfl,y⟩:=y;obtain⟨x,k3,k4⟩:=k2.get hv;have:=y ys k1;rw[k3]at this;cases this;exact⟨Gr.refl,r,k4⟩
theorem gW(lo:Int)(n:Nat):(bZ lo n).length=n:=by unfold bZ;simp
theorem mP{lo:Int}{n:Nat}:Walks B (.fix (bZ lo n)) (Mm lo n) ρ1 H1 where
 stop:=λg r hi hl=>by
  cases hi;rw[gW]at hl;exact hl
 go:=λg r hi hv=>by
  cases hi;have:=(Wo.mp hv).1;rw[gW]at this;exact this
 vA:=λ{ρ h H i xs v y H'} g r hi hv y'=>by
  cases hi;obtain⟨rfl,rfl⟩:=y';have hl:=(Wo.mp hv).1;rw[gW]at hl;have e:(bZ lo n)[i]?=some (.int (lo+i)):=by unfold bZ;simp[hl]
  rw[e]at hv;cases hv;exact⟨Gr.refl,r,VR.int⟩
theorem fM:∀(i:Nat) (ds:List Val),(cD i ds).length=ds.length
 |_,[]=>rfl
 |i,d::r=>by simp[cD,fM (i+1) r]
theorem qL:∀(k:Nat) (ds:List Val) (i:Nat) (d:Val),ds[i]?=some d->(cD k ds)[i]?=some (.tup [.int ((k+i:Nat):Int),d])
 |_,[],_,_,h=>by simp at h
 |k,e::r,0,d,h=>by simp at h;subst h;simp[cD]
 | k,e::r,i+1,d,h=>by
  have:=qL (k+1) r i d (by simpa using h);simp only[cD,List.getElem?_cons_succ];rw[this];have e1:k+1+i=k+(i+1):=by omega
  rw[e1]
theorem mh{i:Nat}(e:(cD 0 ds)[i]?=some v):∃d,ds[i]?=some d/\v=.tup [.int (i:Int),d]:=by
 have hl:=(Wo.mp e).1;rw[fM]at hl;have e1:=qL 0 ds i ds[i] (WS hl);rw[e]at e1;cases e1;exact⟨ds[i],WS hl,by rw[Nat.zero_add]⟩
theorem ux{i:Nat}(r:HR B ρ h H)(k1:gR B.K H a ys)(k2:aC B.K ρ H xs ys)(hv:(cD 0 xs)[i]?=some v)(hy:(MO B.K a).vA i H y H'):Gr ρ H ρ H'/\HR B ρ h H'/\VR B.K ρ H' v y:=by
 obtain⟨p,w,hn,rfl,rfl,hy⟩:=hy;obtain⟨d,e1,rfl⟩:=mh hv;obtain⟨x,k3,k4⟩:=k2.get e1;have:=hy ys k1;rw[k3]at this;cases this;exact⟨Gr.side hn,r.side hn,VR.tup (iV.of aZ) (aC.cons VR.int (aC.cons (VR.up (Gr.side hn) _ _ k4) aC.nil))⟩
theorem uy(q:Gx B.K H1 a xs)(e:aC B.K ρ1 H1 vs xs):Walks B (.fix (cD 0 vs)) (MO B.K a) ρ1 H1 where
 stop:=λg r hi hl=>by
  cases hi;rw[fM]at hl;exact⟨xs,(g.IV q).sq,by rw[<-e.length];exact hl⟩
 go:=λg r hi hv=>by
  cases hi;obtain⟨d,e1,_⟩:=mh hv;obtain⟨x,k1,_⟩:=e.get e1;exact⟨xs,x,(g.IV q).sq,k1⟩
 vA:=λg r hi hv y=>by
  cases hi;exact ux r (g.IV q).sq (aC.j4 g _ _ e) hv y
theorem uz{i:Nat}(q:ρ1[i]?=some a):Walks B (.enum i) (MO B.K a) ρ1 H1 where
 stop:=λg r hi hl=>by
  obtain⟨zs,e1,rfl⟩:=WW.mp hi;obtain⟨ys,k1,k2⟩:=jN q g r e1;rw[fM]at hl;exact⟨ys,k1,by rw[<-k2.length];exact hl⟩
 go:=λg r hi hv=>by
  obtain⟨zs,e1,rfl⟩:=WW.mp hi;obtain⟨ys,k1,k2⟩:=jN q g r e1;obtain⟨d,e2,_⟩:=mh hv;obtain⟨x,k3,_⟩:=k2.get e2;exact⟨ys,x,k1,k3⟩
 vA:=λg r hi hv y=>by
  obtain⟨zs,e1,rfl⟩:=WW.mp hi;obtain⟨ys,k1,k2⟩:=jN q g r e1;exact ux r k1 k2 hv y
end
section
variable {Φ:Fn} {Γ:pP} {k:Nat} {X:Cx} {cl:Nat->Addr} {EX:Nat->List V->Hp->Prop}
def LP(Φ:Fn)(ik:Ik)(it:kg)(env:Env):M Src:=bnd (bC Φ it env) λits=>bf (srcOf ik its)
def tI(Φ:Fn)(B:Bd)(EX:Nat->List V->Hp->Prop)(ik:Ik)(it:kg):TI:=λσ H R=>∃ρ env h,cM B.K ρ env σ H/\HR B ρ h H /\
 Post B EX ρ H (λsrc h' ρ' H'=>(∃xs,src.items h'=some xs)/\∀J,Walks B src J ρ' H'->R J H') (LP Φ ik it env h)
theorem GH(hs:jS Φ it)(c:Ctx Φ Γ k X cl EX)(h:yb Γ ik it iter=true)(ht:ik=.enum\/ik=.zip->∃es kk pos,tg=.Tuple es kk pos):PI X tg iter (tI Φ (bd X cl) EX ik it)/\∀x,foldedSetIterable iter X.env x=pure x:=by
 cases it with
 |nil=>rw[yb]at h;cases h
 |cons e es=>
  cases ik with
  |seq=>
   replace h:=BJ h;obtain⟨rfl,h⟩:=h;simp only[and_eq_true]at h;have q:=(hs.2.1 Γ k X cl EX iter c h.2).1;refine⟨((DF q).or (HP q)).imp λσ H R ⟨ρ,env,h,hE,r,p⟩=>?_,λx=>?_⟩
   ·simp only[LP,uw,bw,cW]at p
    have key:∀(Q:VK),(∀v h1 ρ1 x H1,aJ Φ e env h=.ok v h1->Gr ρ H ρ1 H1->HR (bd X cl) ρ1 h1 H1->VR X.K ρ1 H1 v x->Post (bd X cl) EX ρ1 H1 (λsrc h' ρ' H'=>(∃xs,src.items h'=some xs)/\∀J,Walks (bd X cl) src J ρ' H'->R J H') (bf (srcOf .seq [v]) h1)->Q x H1)->tV Φ (bd X cl) EX e σ H Q:=λQ kk=>
     ⟨ρ,env,h,hE,r,fX p λv h1 ρ1 H1 e1 g1 r1 p1 x q1=>kk v h1 ρ1 x H1 e1 g1 r1 q1 p1⟩
    cases ev:aJ Φ e env h with
    |ok v h1=>
     cases v with
     |tup vs=>refine .inr (key _ λv h1 ρ1 x H1 e1 g1 r1 q1 p1=>?_);rw[ev]at e1;cases e1;obtain⟨src,e2,w1,w2⟩:=cB r1 p1;cases e2;rw[VR]at q1;obtain⟨a,xs,rfl,k1,k2⟩:=q1;exact⟨a,rfl,⟨xs,k1⟩,w2 _ (zM k1 k2)⟩
     |rl vs=>refine .inl (key _ λv h1 ρ1 x H1 e1 g1 r1 q1 p1=>?_);rw[ev]at e1;cases e1;obtain⟨src,e2,w1,w2⟩:=cB r1 p1;cases e2;rw[VR]at q1;obtain⟨a,xs,rfl,k1,k2⟩:=q1;exact⟨a,rfl,⟨xs,k1.sq⟩,w2 _ (BS k1 k2)⟩
     |ref i=>refine .inl (key _ λv h1 ρ1 x H1 e1 g1 r1 q1 p1=>?_);rw[ev]at e1;cases e1;obtain⟨src,e2,⟨zs,w1⟩,w2⟩:=cB r1 p1;cases e2;have q0:=q1;rw[VR]at q1;obtain⟨a,rfl,k1⟩:=q1;obtain⟨b,ys,e3,k2,k3⟩:=fG r1 q0 (show aF h1 (.ref i)=some zs from w1);cases e3;exact⟨a,rfl,⟨ys,k2⟩,w2 _ (wC k1)⟩
     |_=>refine .inl (key _ λv h1 ρ1 x H1 e1 g1 r1 q1 p1=>?_);rw[ev]at e1;cases e1;obtain⟨src,e2,_⟩:=cB r1 p1;cases e2
    |exc _ _ _=>exact .inl (key _ λv h1 ρ1 x H1 e1=>by rw[ev]at e1;cases e1)
    |no=>exact .inl (key _ λv h1 ρ1 x H1 e1=>by rw[ev]at e1;cases e1)
   ·cases iter<;>first|rfl|(exact absurd h.1 Wm)
  |range=>
   apply lg h;intro x xp q1 pos h;apply wj h;intro a args h;simp only[and_eq_true,beq_iff_eq]at h;obtain⟨⟨⟨⟨⟨h1,h2⟩,h3⟩,h4⟩,h5⟩,h6⟩:=h;subst h1;obtain⟨g1,g2,g3⟩:=c.gl h2;have hm:=c.blt _ (show ("range":Str)∈bltNames by decide);refine⟨?_,λx=>rfl⟩;have hA:=hs.1 Γ k X cl EX (a::args) c (by rw[aW.eq_def];simp[h3,h4,h5]);cases args with
   |nil=>
    cases es with
    |cons i eu=>rw[aW.eq_def]at h5;cases h5
    |nil=>
     refine(yS g1 hm hA (bh h3)).imp λσ H R aL=>?_;obtain⟨ρ,env,h,hE,r,p⟩:=aL;refine⟨ρ,env,h,hE,r,fX p λvs h1 ρ1 H1 e1 Sg r1 p1 xs q1=>?_⟩;obtain⟨src,e2,w1,w2⟩:=cB r1 p1
     match vs,e2 with
     |[.int n],e2=>
      change (if inR n=true then some (Src.fix (bZ 0 n.toNat)) else none)=some src at e2;split at e2
      ·rename_i hn;cases e2;simp only[inR,and_eq_true,decide_eq_true_eq]at hn;obtain⟨x,rfl,hx⟩:=aC.one q1;rw[VR]at hx;subst hx;exact⟨n,rfl,hn.1,hn.2,w2 _ mP⟩
      ·cases e2
     |[.int _,.int _],e2=>have:=lq (Γ:=Γ) (ls:=[a]) (by rw[aW.eq_def];simp[h3,h4,aW]) e1;simp at this
   |cons b args=>
    cases args with
    |cons _ _=>have:=WQ h6;simp only[length_cons]at this;omega
    |nil=>
     have hb:noStar b=true:=by
      cases es with
      |nil=>rw[aW]at h5;cases h5
      |cons i eu=>rw[aW.eq_def]at h5;dsimp only at h5;simp only[and_eq_true]at h5;exact h5.1.1
     refine(yT g1 hm hA (by rw[bh h3,bh hb];rfl) (by rw[bh hb];rfl)).imp λσ H R aL=>?_;obtain⟨ρ,env,h,hE,r,p⟩:=aL;refine⟨ρ,env,h,hE,r,fX p λvs h1 ρ1 H1 e1 Sg r1 p1 xs q1=>?_⟩;obtain⟨src,e2,w1,w2⟩:=cB r1 p1
     match vs,e2 with
     |[.int _],e2=>have:=lq (Γ:=Γ) (ls:=[a,b]) (by rw[aW.eq_def];simp[h3,h4,h5]) e1;simp at this
     |[.int lo,.int hi],e2=>
      change (if (inR lo&&inR hi)=true then some (Src.fix (bZ lo (hi-lo).toNat)) else none)=some src at e2;split at e2
      ·rename_i hn;cases e2;simp only[inR,and_eq_true,decide_eq_true_eq]at hn;obtain⟨x,y,rfl,hx,hy⟩:=aC.two q1;rw[VR]at hx;rw[VR]at hy;subst hx;subst hy;exact⟨lo,hi,rfl,⟨hn.1.1,hn.1.2,hn.2.1,hn.2.2⟩,w2 _ mP⟩
      ·cases e2
  |enum=>
   replace h:=BJ h;obtain⟨rfl,h⟩:=h;apply lg h;intro x xp q1 pos h;apply l8 h;intro a h;simp only[and_eq_true,beq_iff_eq]at h;obtain⟨⟨⟨h1,h2⟩,h3⟩,h4⟩:=h;subst h1;obtain⟨g1,g2,g3⟩:=c.gl h2;have hm:=c.blt _ (show ("enumerate":Str)∈bltNames by decide);obtain⟨Wd,tk,tp,rfl⟩:=ht (.inl rfl);refine⟨?_,λx=>rfl⟩;have hA:=hs.1 Γ k X cl EX [a] c (by rw[aW.eq_def];simp[h3,h4,aW]);refine(D6 g1 hm hA (bh h3)).imp λσ H R aL=>?_;obtain⟨ρ,env,h,hE,r,p⟩:=aL;refine⟨ρ,env,h,hE,r,fX p λvs h1 ρ1 H1 e1 Sg r1 p1 xs q1=>?_⟩;obtain⟨src,e2,⟨zs,w1⟩,w2⟩:=cB r1 p1
   match vs,e2 with
   |[.rl ws],e2=>cases e2;obtain⟨x,rfl,hx⟩:=aC.one q1;rw[VR]at hx;obtain⟨b,ys,rfl,k1,k2⟩:=hx;exact⟨b,rfl,⟨ys,k1.sq⟩,w2 _ (uy k1 k2)⟩
   |[.ref i],e2=>cases e2;obtain⟨x,rfl,hx⟩:=aC.one q1;obtain⟨us,w3,_⟩:=WW.mp w1;obtain⟨b,ys,rfl,k2,k3⟩:=fG r1 hx w3;rw[VR]at hx;obtain⟨b',e3,k1⟩:=hx;cases e3;exact⟨b,rfl,⟨ys,k2⟩,w2 _ (uz k1)⟩
  |zip=>cases h
end
section
variable {Φ:Fn} {Γ:pP} {k:Nat} {X:Cx} {cl:Nat->Addr} {EX:Nat->List V->Hp->Prop}
def oG:List Nat->LG
 |[]=>Mi
 |i::is=>Gj (qa i) (oG is)
def zN(K:Frag):v9->TG
 |.one i=>qa i
 |.tup is=>Mj K is.length (oG is)
def gX:List Nat->List V->L2.St->L2.St
 |i::is,v::vs,σ=>gX is vs (σ.set i (some v))
 |_,_,σ=>σ
theorem mj:∀{is:List Nat} {vs:List V} {σ:L2.St} {H:Hp} {Q:L2.St->Hp->Prop},vs.length=is.length->Q (gX is vs σ) H->oG is vs σ H Q
 |[],[],_,_,_,_,h=>⟨rfl,h⟩
 |i::is,v::vs,σ,H,Q,hl,h=>⟨v,vs,rfl,mj (by simpa using hl) h⟩
theorem qM(hnd:X.N.Nodup):∀{is:List Nat} {es:List Expr},es.length=is.length->(∀p∈is.zip es,∃x pos,p.2=.Name x pos/\X.N[p.1]?=some x/\X.env.scope.names.lookup x=some .local)->LH X es (oG is)
 |[],[],_,_=>xu
 | i::is,e::es,hl,h=>by
  obtain⟨x,pos,rfl,h1,h2⟩:=h (i,e) (by simp);exact tw (nH hnd h1 (.inl h2) (.inr h2)) (qM hnd (by simpa using hl) λp hp=>h p (by simp[hp]))
theorem gi:∀{es:List Expr},(∀e∈es,∃x pos,e=.Name x pos)->(assignEach es env).length=es.length/\(assignEach es env).findIdx? (·.1)=none
 |[],_=>⟨rfl,rfl⟩
 | e::es,h=>by
  obtain⟨x,pos,rfl⟩:=h e Wx;obtain⟨h1,h2⟩:=gi (env:=env) (es:=es) λe he=>h e (Ww _ he);have e1:assignEach (Expr.Name x pos::es) env=(false,assign (Expr.Name x pos) env)::assignEach es env:=rfl;rw[e1];refine⟨by simp[h1],?_⟩;rw[List.findIdx?_cons,h2];rfl
theorem BU{i:Nat}(h:zH Γ (.one i) tg=true):∃x p,tg=.Name x p:=by
 cases tg<;>first|exact⟨_,_,rfl⟩|exact absurd h Wm
theorem uA{is:List Nat}(h:zH Γ (.tup is) tg=true):∃es k p,tg=.Tuple es k p:=by
 cases tg<;>first|exact⟨_,_,_,rfl⟩|exact absurd h Wm
theorem JZ(c:Ctx Φ Γ k X cl EX)(hnd:X.N.Nodup)(h:zH Γ pat tg=true):PG X tg (zN X.K pat):=by
 cases pat with
 |one i=>obtain⟨x,xp,rfl⟩:=BU h;simp only[zH,and_eq_true,beq_iff_eq]at h;obtain⟨h1,h2⟩:=h;exact nH hnd (by rw[c.N];exact h1) (.inl (by rw[c.sc];exact h2)) (.inr (by rw[c.sc];exact h2))
 |tup is=>
  obtain⟨es,kk,pos,rfl⟩:=uA h
  ·
   simp only[zH,and_eq_true,beq_iff_eq,all_eq_true]at h;obtain⟨h1,h2⟩:=h;have names:∀p∈is.zip es,∃x pos,p.2=.Name x pos/\X.N[p.1]?=some x/\X.env.scope.names.lookup x=some .local:=λp hp=>by
    have q:=h2 p hp;cases ep:p.2<;>rw[ep]at q<;>simp at q;rename_i x pos';exact⟨x,pos',rfl,by rw[c.N];exact q.1,by rw[c.sc];exact q.2⟩
   have all:∀e∈es,∃x pos,e=.Name x pos:=λe he=>by
    obtain⟨n,hn,rfl⟩:=Yc he;have hm:(is[n]'(by omega),es[n])∈is.zip es:=Yw.mpr ⟨n,by rw[Yb];simp[hn]⟩;obtain⟨x,pos,q,_⟩:=names _ hm;exact⟨x,pos,q⟩
   obtain⟨l1,l2⟩:=gi (env:=X.env) all;exact As c.calm (qM hnd h1 names) (by rw[l1,h1]) l2
def r6(Γ:pP):v9->Expr->Bool
 |.one i,.Name x _=>Γ.N[i]?==some x&&(Γ.sc.names.lookup x==some .local || Γ.sc.names.lookup x==some .cell)
 | .tup is,.Tuple es _ _=>es.length==is.length&&(is.zip es).all λp=>match p.2 with
  |.Name x _=>Γ.N[p.1]?==some x&&(Γ.sc.names.lookup x==some .local || Γ.sc.names.lookup x==some .cell)
  |_=>false
 |_,_=>false
theorem oH(hfn:∀x,X.fn x=true)(hnd:X.N.Nodup):∀{is:List Nat} {es:List Expr},es.length=is.length->(∀p∈is.zip es,∃x pos,p.2=.Name x pos/\X.N[p.1]?=some x/\Loc X.env.scope x)->LH X es (oG is)
 |[],[],_,_=>xu
 | i::is,e::es,hl,h=>by
  obtain⟨x,pos,rfl,h1,h2⟩:=h (i,e) (by simp);exact tw (nH hnd h1 h2 (.inl (hfn x))) (oH hfn hnd (by simpa using hl) λp hp=>h p (by simp[hp]))
theorem oJ{i:Nat}(h:r6 Γ (.one i) tg=true):∃x p,tg=.Name x p:=by
 cases tg<;>first|exact⟨_,_,rfl⟩|exact absurd h Wm
theorem lu{is:List Nat}(h:r6 Γ (.tup is) tg=true):∃es k p,tg=.Tuple es k p:=by
 cases tg<;>first|exact⟨_,_,_,rfl⟩|exact absurd h Wm
theorem yh(c:Ctx Φ Γ k X cl EX)(hfn:∀x,X.fn x=true)(hnd:X.N.Nodup)(h:r6 Γ pat tg=true):PG X tg (zN X.K pat):=by
 have loc:∀x,(Γ.sc.names.lookup x==some .local || Γ.sc.names.lookup x==some .cell)=true->Loc X.env.scope x:=λx e=>by
  unfold L2.Loc;rw[c.sc];simpa using e
 cases pat with
 |one i=>obtain⟨x,pos,rfl⟩:=oJ h;simp only[r6,and_eq_true,beq_iff_eq]at h;obtain⟨h1,h2⟩:=h;exact nH hnd (by rw[c.N];exact h1) (loc _ h2) (.inl (hfn _))
 |tup is=>
  obtain⟨es,kk,pos,rfl⟩:=lu h
  ·
   simp only[r6,and_eq_true,beq_iff_eq,all_eq_true]at h;obtain⟨h1,h2⟩:=h;have names:∀p∈is.zip es,∃x pos,p.2=.Name x pos/\X.N[p.1]?=some x/\Loc X.env.scope x:=λp hp=>by
    have q:=h2 p hp;cases ep:p.2<;>rw[ep]at q<;>first|cases q|skip
    rename_i x pos';simp only[and_eq_true,beq_iff_eq]at q;exact⟨x,pos',rfl,by rw[c.N];exact q.1,loc _ q.2⟩
   have all:∀e∈es,∃x pos,e=.Name x pos:=λe he=>by
    obtain⟨n,hn,rfl⟩:=Yc he;have hm:(is[n]'(by omega),es[n])∈is.zip es:=Yw.mpr ⟨n,by rw[Yb];simp[hn]⟩;obtain⟨x,pos,q,_⟩:=names _ hm;exact⟨x,pos,q⟩
   obtain⟨l1,l2⟩:=gi (env:=X.env) all;exact As c.calm (oH hfn hnd h1 names) (by rw[l1,h1]) l2
theorem cM.set{K:Frag}{ρ:List Addr}{env:Env}{σ:L2.St}{H:Hp}{i:Nat}{v:Val}{x:V}(e:cM K ρ env σ H)(hl:env.length = σ.length)(q:VR K ρ H v x):cM K ρ (env.set i (some v)) (σ.set i (some x)) H:=λj w hj=>by
 by_cases hij:i=j
 ·subst hij
  have hi:i<env.length:=by have:=(Wo.mp hj).1;simpa using this
  rw[Wz hi]at hj;cases hj;exact⟨x,by rw[Wz (by rw[<-hl];exact hi)],q⟩
 ·rw[Ws hij]at hj;rw[Ws hij];exact e j w hj
theorem ko{K:Frag}{ρ:List Addr}{H:Hp}:∀{is:List Nat} {ds:List Val} {xs:List V} {env env':Env} {σ:L2.St},bindAll is ds env=some env'->aC K ρ H ds xs->cM K ρ env σ H->env.length = σ.length->cM K ρ env' (gX is xs σ) H/\env'.length=(gX is xs σ).length/\(gX is xs σ).length = σ.length/\xs.length=is.length
 | [],[],xs,env,env',σ,e,q,hE,hl=>by
  rw[aC]at q;subst q;simp only[bindAll]at e;cases e;exact⟨hE,hl,rfl,rfl⟩
 | i::is,d::ds,xs,env,env',σ,e,q,hE,hl=>by
  rw[aC]at q;obtain⟨x,r,rfl,q1,q2⟩:=q;simp only[bindAll]at e;obtain⟨a1,a2,a3,a4⟩:=ko e q2 (hE.set hl q1) (by simp[hl]);exact⟨a1,a2,by rw[show gX (i::is) (x::r) σ = gX is r (σ.set i (some x)) from rfl,a3];simp,by simp[a4]⟩
 |[],_::_,_,_,_,_,e,_,_,_=>by simp[bindAll]at e
 |_::_,[],_,_,_,_,e,_,_,_=>by simp[bindAll]at e
theorem yi{K:Frag}{ρ:List Addr}{H:Hp}{pat:v9}{v:Val}{x:V}{env env':Env}{σ:L2.St}{Q:L2.St->Hp->Prop}(e:eZ pat v env=some env')(q:VR K ρ H v x)(hE:cM K ρ env σ H)(hl:env.length = σ.length)
  (kk:∀σ',cM K ρ env' σ' H->env'.length = σ'.length -> σ'.length = σ.length->Q σ' H):zN K pat x σ H Q:=by
 cases pat with
 |one i=>simp only[eZ]at e;cases e;exact kk _ (hE.set hl q) (by simp[hl]) (by simp)
 |tup is=>
  cases v<;>simp only[eZ]at e<;>first|cases e|skip
  rw[VR]at q;obtain⟨a,xs,rfl,q1,q2⟩:=q;obtain⟨a1,a2,a3,a4⟩:=ko e q2 hE hl;exact⟨a,xs,rfl,q1,a4,mj a4 (kk _ a1 a2 a3)⟩
theorem jO{α β:Type}{W:β -> Hs->List Addr->Hp->Prop}{W':α -> Hs->List Addr->Hp->Prop}{m:M α}{f:α -> M β}(g:Gr ρ H ρ' H')(p:Post B EX ρ H W (bnd m f h))
  (kk:∀v h1 ρ2 H2,m h=.ok v h1->Post B EX ρ H W (f v h1)->Gr ρ' H' ρ2 H2->HR B ρ2 h1 H2->W' v h1 ρ2 H2):Post B EX ρ' H' W' (m h):=by
 unfold bnd at p;cases e:m h with
 |ok v h1=>rw[e]at p;exact λρ2 H2 g2 r2=>kk v h1 ρ2 H2 e p g2 r2
 |exc c vs h1=>rw[e]at p;exact λρ2 H2 xs g2 r2 q=>p ρ2 H2 xs (g.trans g2) r2 q
 |no=>rw[e]at p;exact p
theorem HR.adopt(r:HR B ρ h H)(hD:D ∉ ρ)(q:OR B (ρ ++ [D]) H D u):HR B (ρ ++ [D]) (h++[u]) H where
 len:=by simp[r.len]
 nd:=by rw[Xq];refine⟨r.nd,by simp,λa ha b hb=>?_⟩;rw[WD.mp hb];rintro rfl;exact hD ha
 ob i v a q1 q2:=by
  by_cases hi:i<h.length
  ·rw[WE hi]at q1;rw[WE (by rw[r.len];exact hi)]at q2;exact OR.j4 ⟨Xi _ _,λ_ _ e _=>e⟩ rfl (r.ob i v a q1 q2)
  ·rw[WX (by omega)]at q1
   rw[WX (by rw[r.len];omega)]at q2;have hi0:i-h.length=0:=by have:=(Wo.mp q1).1;simp at this;omega
   rw[hi0]at q1;rw[r.len,hi0]at q2;simp at q1 q2;subst q1;subst q2;exact q
theorem Gr.over(g:Gr ρ H ρ' H')(hD:H D=none):Gr ρ H ρ' (upd H' D o) where
 pre:=g.pre
 keep a u e n:=by rw[aG (aR e hD)];exact g.keep a u e n
 firm a u e n:=by rw[aG (aR e hD)];exact g.firm a u e n
 fresh:=g.fresh
theorem Gr.adopt(g:Gr ρ H ρ' H')(hD:H D=none):Gr ρ H (ρ'++[D]) H' where
 pre:=g.pre.trans (Xi _ _)
 keep:=g.keep
 firm:=g.firm
 fresh a z n:=by
  rcases W3.mp z with z|z
  ·exact g.fresh a z n
  ·rw[WD.mp z];exact hD
theorem EG{K:Frag}{ρ:List Addr}{env:Env}{σ:L2.St}{H:Hp}{js:List (Option Nat)}(e:cM K ρ env σ H):cM K ρ (jg js env) (iK js σ) H:=λi v q=>by
 unfold jg at q;rw[WO]at q;cases hj:js[i]? with
 |none=>rw[hj]at q;cases q
 |some o=>
  rw[hj]at q;simp only[map_some]at q;cases o with
  |none=>cases q
  |some j=>
   dsimp only at q;cases ej:env[j]? with
   |none=>rw[ej]at q;cases q
   |some w=>
    cases w with
    |none=>rw[ej]at q;cases q
    |some d=>rw[ej]at q;cases q;obtain⟨x,q1,q2⟩:=e j _ ej;refine⟨x,?_,q2⟩;unfold iK;rw[WO,hj];simp only[map_some];rw[q1]
theorem BV{K:Frag}{ρ:List Addr}{env:Env}{σ σ':L2.St}{H:Hp}{js:List (Option Nat)}{pat:v9}(hp:(uu pat).all (λi=>js[i]?==some none)=true)(e:cM K ρ (jg js env) σ H)(hs:∀i,i∉uu pat -> σ'[i]? = σ[i]?):cM K ρ (jg js env) σ' H:=λi v q=>by
 have hi:i∉uu pat:=λz=>by
  have h1:=YT.mp hp i z;have h2:js[i]?=some none:=eq_of_beq h1;unfold jg at q;rw[WO,h2]at q;cases q
 obtain⟨x,q1,q2⟩:=e i v q;exact⟨x,(hs i hi).trans q1,q2⟩
theorem oK:∀{is:List Nat} {xs:List V} {σ:L2.St} {i:Nat},i∉is->(gX is xs σ)[i]? = σ[i]?
 |[],xs,σ,i,_=>by cases xs<;>rfl
 |j::is,[],σ,i,_=>rfl
 | j::is,x::xs,σ,i,h=>by
  rw[show gX (j::is) (x::xs) σ = gX is xs (σ.set j (some x)) from rfl,oK λz=>h (Ww _ z),Ws λz=>h (by rw[z];exact Wx)]
theorem BW{K:Frag}{ρ:List Addr}{H:Hp}{pat:v9}{v:Val}{x:V}{env env':Env}{σ:L2.St}{Q:L2.St->Hp->Prop}(e:eZ pat v env=some env')(q:VR K ρ H v x)(hE:cM K ρ env σ H)(hl:env.length = σ.length)
  (kk:∀σ',cM K ρ env' σ' H -> σ'.length = σ.length->(∀i,i∉uu pat -> σ'[i]? = σ[i]?)->Q σ' H):zN K pat x σ H Q:=by
 cases pat with
 |one i=>simp only[eZ]at e;cases e;exact kk _ (hE.set hl q) (by simp) λj hj=>Ws λz=>hj (by rw[z];exact WD.mpr rfl)
 |tup is=>
  cases v<;>simp only[eZ]at e<;>first|cases e|skip
  rw[VR]at q;obtain⟨a,xs,rfl,q1,q2⟩:=q;obtain⟨a1,a2,a3,a4⟩:=ko e q2 hE hl;exact⟨a,xs,rfl,q1,a4,mj a4 (kk _ a1 a3 λj hj=>oK hj)⟩
theorem oM(hs:jS Φ it)(hc:bX Φ t)(he:bX Φ elt)(c:Ctx Φ Γ k X cl EX)(h:bD Γ (.comp N' js pat ik it t elt) e=true) :
  ∃e' tg iter ifs scope pos wi g tt te,e=.ListComp e' [⟨tg,iter,ifs,0⟩] scope pos/\jJ X.N X.env.scope scope N' js=true/\PI X tg iter wi/\(∀cls C s H fp,PG (bO X scope N' cls C s H fp) tg g)/\(∀cls C s H fp,DZ (bO X scope N' cls C s H fp) ifs tt) /\
   (∀cls C s H fp,PE (bO X scope N' cls C s H fp) e' te)/\(∀x,foldedSetIterable iter X.env x=pure x)/\∀σ H Q,tV Φ (bd X cl) EX (.comp N' js pat ik it t elt) σ H Q->AS wi js g tt te σ H Q:=by
 apply Em h;intro e' q1 scope pos h;apply l8 h;intro q2 h;apply Jp h;intro tg iter ifs q3 h;apply ur h;intro h;simp only[and_eq_true]at h;obtain⟨⟨⟨⟨⟨⟨⟨h1,h2⟩,h3⟩,h4⟩,h5⟩,h6⟩,h7⟩,h8⟩:=h;have hnd:N'.Nodup:=WQ h3;have hen:ik=.enum\/ik=.zip->∃es kk pos,tg=.Tuple es kk pos:=by
  intro hz;cases pat with
  |one i=>rcases hz with rfl|rfl<;>cases h6
  |tup is=>exact uA h4
 obtain⟨hi,hf⟩:=GH hs c h2 hen
 let tt:TT:=if cV t=true then tU else tT Φ (bd X cl) EX t
 have Qt:∀cls C s H fp,DZ (bO X scope N' cls C s H fp) ifs tt:=λcls C s H fp=>by
  have c':=c.GF scope N' cls C s H fp;cases ifs with
  |nil=>have:cV t=true:=h7;show DZ _ [] (if cV t=true then tU else tT Φ (bd X cl) EX t);rw[Wu this];exact D0
  |cons a r=>
   cases r with
   |cons _ _=>cases h7
   |nil=>simp only[and_eq_true,not_eq_true']at h7;show DZ _ [a] (if cV t=true then tU else tT Φ (bd X cl) EX t);rw[Wt (by rw[h7.1];exact Wm)];exact D3 (hc _ _ _ _ _ _ c' h7.2).2
 refine⟨e',tg,iter,ifs,scope,pos,_,zN X.K pat,tt,tV Φ (bd X cl) EX elt,rfl,by rw[c.N,c.sc];exact h1,hi,λcls C s H fp=>JZ (c.GF scope N' cls C s H fp) hnd h4,Qt,λcls C s H fp=>(he _ _ _ _ _ _ (c.GF scope N' cls C s H fp) h8).1,hf,λσ H Q ⟨ρ,env,h,hE,r,p⟩=>?_⟩
 ·skip
  simp only[aJ]at p
  let f:Val->M (Option Val):=λd=>bnd (bf (eZ pat d (jg js env))) λenv'=>bnd (if cV t=true then ret true else bnd (aJ Φ t env') λv=>ask λh=>cC h v) λt=>
    if t=true then bnd (aJ Φ elt env') λe=>ret (some e) else ret none
  have p':Post (bd X cl) EX ρ H (WV X.K Q) (bnd (LP Φ ik it env) (λsrc=>bnd (ask λh=>src.items h) λxs=>aH (decide (xs.length<=100000)) (bnd (e9 src f xs.length 0 []) λys=>new (.lst ys))) h):=by unfold LP;rw[bw];exact p
  refine⟨ρ,env,h,hE,r,bI p' λsrc h1 ρ1 H1 g1 r1 p1=>?_⟩;obtain⟨xs,e1,p2⟩:=aE p1;obtain⟨e2,p3⟩:=aN p2;have e2:=WQ e2;refine⟨⟨xs,e1⟩,λJ wk D hD=>?_⟩;have We:(100000:Nat)<sizeLine:=by rw[Xy];decide
  refine⟨λi m σ' H'=>∃ρ' h' acc ys,Gr ρ1 H1 ρ' H'/\HR (bd X cl) ρ' h' H'/\D ∉ ρ'/\H' D=some (.lst ys)/\aC X.K ρ' H' acc ys/\cM X.K ρ' (jg js env) σ' H' /\ σ'.length=js.length/\acc.length<=i/\i+m=xs.length /\
   Post (bd X cl) EX ρ1 H1 (WV X.K Q) (bnd (e9 src f m i acc) (λys=>new (.lst ys)) h'),⟨xs.length,ρ1,h1,[],[],Gr.side hD,r1.side hD,r1.out hD,aZ,aC.nil,(EG (hE.up g1)).up (Gr.side hD),jY js σ,Wy _,by omega,p3⟩,?_⟩
  rintro i m σ' H' ⟨ρ',h',acc,ys,w1,w2,w3,w4,w5,w6,w7,w8,w9,r8⟩;have fin:∀p:Post (bd X cl) EX ρ1 H1 (WV X.K Q) (new (.lst acc) h'),Q (.ref D) H':=λp=>by
   refine p (ρ'++[D]) H' (w1.adopt hD) (w2.adopt w3 ⟨ys,w4,aC.j4 ⟨Xi _ _,λ_ _ e _=>e⟩ _ _ w5⟩) _ (VR.ref (by rw[<-w2.len];simp))
  cases m with
  |zero=>
   simp only[e9,bw]at r8;obtain⟨xs',k1,r8⟩:=aE r8;have Nn:Post (bd X cl) EX ρ1 H1 (WV X.K Q) (bnd (aH (decide (xs'.length<=i)) (ret acc)) (λys=>new (.lst ys)) h'):=r8;unfold aH at Nn
   by_cases hl:xs'.length<=i
   ·have:bnd (λh=>if decide (xs'.length<=i)=true then ret acc h else Out.no) (λys=>new (.lst ys)) h'=new (.lst acc) h':=by
     unfold bnd;dsimp only;rw[Wu (decide_eq_true hl)];rfl
    rw[this] at Nn;exact .inl ⟨wk.stop w1.w w2 k1 hl,fin Nn⟩
   ·have:bnd (λh=>if decide (xs'.length<=i)=true then ret acc h else Out.no) (λys=>new (.lst ys)) h'=Out.no:=by
     unfold bnd;dsimp only;rw[Wt (by rw[decide_eq_false hl];exact Wm)]
    rw[this] at Nn;exact Nn.elim
  |succ m=>
   simp only[e9,bw]at r8;obtain⟨xs',k1,r8⟩:=aE r8;cases hx:xs'[i]? with
   |none=>rw[hx]at r8;exact .inl ⟨wk.stop w1.w w2 k1 (XJ.mp hx),fin r8⟩
   |some v=>
    rw[hx]at r8;dsimp only at r8;refine .inr ⟨wk.go w1.w w2 k1 hx,_,λAh ID w=>⟨m,Xa _,w⟩,λy H2 hy=>?_⟩;obtain⟨z1,z2,z3⟩:=wk.vA w1.w w2 k1 hx hy;simp only[bw]at r8;simp only[f,bw]at r8;obtain⟨env',k2,r8⟩:=b6 r8;refine BW k2 z3 (w6.up z1) (by rw[w7];simp[jg]) λσ2 PN hl2 hout=>?_;have Np:H2 D=some (.lst ys):=z1.keep _ _ w4 w3;have G2:Gr ρ1 H1 ρ' H2:=w1.trans z1;have body:∀(b:Bool) (h3:Hs) (ρ3:List Addr) (H3:Hp),Gr ρ' H2 ρ3 H3->HR (bd X cl) ρ3 h3 H3->Post (bd X cl) EX ρ1 H1 (WV X.K Q) (bnd (if b=true then bnd (aJ Φ elt env') λe=>ret (some e) else ret none) (λo=>bnd (e9 src f m (i+1) (match o with|some e=>acc++[e]|none=>acc)) λys=>new (.lst ys)) h3) ->
      (if b=true then tV Φ (bd X cl) EX elt σ2 H3 (λy H4=>∃ys,H4 D=some (.lst ys)/\ys.length<sizeLine/\(λσ' H'=>∃ρ' h' acc ys,Gr ρ1 H1 ρ' H'/\HR (bd X cl) ρ' h' H'/\D ∉ ρ'/\H' D=some (.lst ys)/\aC X.K ρ' H' acc ys/\cM X.K ρ' (jg js env) σ' H' /\ σ'.length=js.length/\acc.length<=i+1/\i+1+m=xs.length /\
       Post (bd X cl) EX ρ1 H1 (WV X.K Q) (bnd (e9 src f m (i+1) acc) (λys=>new (.lst ys)) h')) σ2 (upd H4 D (.lst (ys++[y]))))
      else (λσ' H'=>∃ρ' h' acc ys,Gr ρ1 H1 ρ' H'/\HR (bd X cl) ρ' h' H'/\D ∉ ρ'/\H' D=some (.lst ys)/\aC X.K ρ' H' acc ys/\cM X.K ρ' (jg js env) σ' H' /\ σ'.length=js.length/\acc.length<=i+1/\i+1+m=xs.length /\
       Post (bd X cl) EX ρ1 H1 (WV X.K Q) (bnd (e9 src f m (i+1) acc) (λys=>new (.lst ys)) h')) σ2 H3):=by
     intro b h3 ρ3 H3 g3 r3 p5;have Q6:D ∉ ρ3:=λz=>by have:=g3.fresh D z w3;rw[Np]at this;cases this
     have Q7:H3 D=some (.lst ys):=g3.keep _ _ Np w3;have E3:cM X.K ρ3 (jg js env) σ2 H3:=(BV h5 (w6.up z1) hout).up g3;cases b with
     |true=>
      rw[Wu rfl]at p5 |-;simp only[bw,cW]at p5;refine⟨ρ3,env',h3,PN.up g3,r3,jO (G2.trans g3) p5 λv4 h4 ρ4 H4 _ p6 g4 r4 y4 q4=>?_⟩;have Sh:D ∉ ρ4:=λz=>by have:=g4.fresh D z Q6;rw[Q7]at this;cases this
      have Q8:H4 D=some (.lst ys):=g4.keep _ _ Q7 Q6;have gw:Gw ρ4 H4 ρ4 (upd H4 D (.lst (ys++[y4]))):=Gw.other Q8 rfl;have la:=w5.length;refine⟨ys,Q8,by omega,ρ4,h4,acc++[v4],ys++[y4],((G2.trans g3).trans g4).over hD,r4.other Sh Q8 rfl,Sh,aZ,aC.append (aC.j4 gw _ _ (aC.up ((z1.trans g3).trans g4) _ _ w5)) (aC.j4 gw _ _ (aC.cons q4 aC.nil)),(E3.up g4).j4 gw,by rw[hl2,w7],by simp;omega,by omega,p6⟩
     |false=>rw[Wt Wm]at p5 |-;exact⟨ρ3,h3,acc,ys,G2.trans g3,r3,Q6,Q7,aC.up (z1.trans g3) _ _ w5,E3,by rw[hl2,w7],by omega,by omega,p5⟩
    show (if cV t=true then tU else tT Φ (bd X cl) EX t) σ2 H2 _
    by_cases hn:cV t=true
    ·rw[Wu hn];rw[Wu hn,cW]at r8;exact body true h' ρ' H2 Gr.refl z2 r8
    ·rw[Wt hn];rw[Wt hn]at r8;exact⟨ρ',env',h',PN,z2,jO G2 r8 λb h3 ρ3 H3 _ p5 g3 r3=>body b h3 ρ3 H3 g3 r3 p5⟩
theorem EH(hs:jS Φ it)(hc:bX Φ t)(he:bX Φ elt):bX Φ (.comp N' js pat ik it t elt):=by
 intro Γ k X cl EX e c h;obtain⟨e',tg,iter,ifs,scope,pos,wi,g,tt,te,rfl,h1,h2,h3,h4,h5,h6,h7⟩:=oM hs hc he c h;have q:=(D4 (pos:=pos) h1 c.calm h2 h3 h4 h5 h6).imp h7;exact⟨q,cX q λ_=>rfl⟩
theorem EI{k v:IE}(hk:bX Φ k)(hv:bX Φ v):bX Φ (.dct1 k v):=by
 intro Γ n X cl EX e c h;apply xZ h;intro q1 q2 pos h;apply l8 h;intro q3 h;apply x8 h;intro a h;apply l8 h;intro b h;simp only[and_eq_true]at h;have q:PE X (.Dict [some a] [b] pos) (tV Φ (bd X cl) EX (.dct1 k v)):=by
  refine(DX (AL (hk Γ n X cl EX a c h.1).1 (hv Γ n X cl EX b c h.2).1 DW) rfl rfl (by simp) (by simp)).imp λσ H Q aL=>?_;obtain⟨ρ,env,h,hE,r,p⟩:=aL;intro D hD;have g0:Gr ρ H ρ (upd H D (.dK [])):=Gr.side hD;simp only[aJ]at p;refine⟨ρ,env,h,hE.up g0,r.side hD,jO g0 p λx h1 ρ1 H1 _ p1 g1 r1 y1 q1=>?_⟩;obtain⟨kk,e1,p1⟩:=b6 p1;refine⟨ρ1,env,h1,(hE.up g0).up g1,r1,jO (g0.trans g1) p1 λy h2 ρ2 H2 _ p2 g2 r2 y2 q2=>?_⟩;have Si:D ∉ ρ:=r.out hD;have Np:D ∉ ρ2:=λz=>by have:=(g1.trans g2).fresh D z Si;rw[aZ]at this;cases this
  have e2:H2 D=some (.dK []):=(g1.trans g2).keep D _ aZ Si;have ek:y1=kV kk:=by
   cases x<;>first|(cases e1;done)|skip
   ·cases e1;rw[VR]at q1;exact q1
   ·cases e1;rw[VR]at q1;exact q1
  refine⟨e2,[(kk,y2)],by rw[ek];rfl,by simp,?_⟩;have gw:Gw ρ2 H2 (ρ2++[D]) (upd H2 D (.dK (lX [] [(kk,y2)]))):=⟨Xi _ _,(Gw.other (ρ:=ρ2) e2 rfl).firm⟩;exact p2 (ρ2++[D]) _ ((((g0.trans g1).trans g2).over hD).adopt hD) ((r2.other Np e2 rfl).adopt Np ⟨[(kk,y2)],aZ,y2,[],rfl,VR.j4 gw _ _ q2,rfl⟩) _ (xR r2)
 exact⟨q,cX q λ_=>rfl⟩
theorem EJ{p q:Nat}:bX Φ (.dflt N' js p q d w):=iN λ_ _=>rfl
theorem J0(ha:bX Φ a):bX Φ (.isc a x bs):=iN λ_ _=>rfl
theorem mq:(∀ir,bX Φ ir)/\∀eu,jS Φ eu:=by
 have one:∀ir,bX Φ ir:=by
  intro ir;exact IE.rec (motive_1:=λir=>bX Φ ir) (motive_2:=λeu=>jS Φ eu) (λ_=>JB) (λ_=>JC) (λ_ _=>JD) Nj (λ_ _ _ a b=>JE a b) (λ_ a=>JF a) (λ_ _ _ a b=>JG a b) (λ_ _ _ _ _ a b c=>JH a b c)
   (λ_ _ a b=>JI a b) (λ_ _ a b=>Nk a b) (λ_ a=>JJ a) (λ_ _ _ a b c=>JK a b c) (λ_ a=>JL a) (λ_ a=>JM a) (λ_ _ a b=>JN a b) (λ_ _ _ a b c=>JO a b c) (λ_ _ a=>Ew a) (λ_ _ a=>JX a)
   (λ_ _ _ a b=>JY a b) (λ_ _ _ _ _ _ _ a b c=>EH a b c) Et (λ_ a=>EC a) (λ_ _ _ a b c=>ED a b c) (λ_ _ a b=>EI a b) (λ_ a=>BP a) (λ_ _ _ a b c=>EE a b c) (λ_ a=>BR a) (λ_ a=>BQ a) (λ_ _ _ a=>JQ a) (λ_ _ _ _ a b=>JR a b) (λ_ _ a b=>JP a b) (λ_ _ _ _ _ _ _ _=>EJ) (λ_ _ _ a=>J0 a) BL (λ_ _ a b=>yc a b) ir
 refine⟨one,λeu=>?_⟩
 induction eu using kg.rec (motive_1:=λ_=>True) with
 |nil=>exact BL
 |cons e es _ ih=>exact yc (one e) ih
 |_=>trivial
end
def oN:Expr->Bool
 |.ListComp ..=>false|.SetComp ..=>false|.DictComp ..=>false
 |_=>true
def Nq:Expr->Bool
 |.Tuple ..=>false
 |_=>true
def Nr:Expr->Bool
 |.SetComp ..=>false|.DictComp ..=>false
 |_=>true
mutual
noncomputable def Nt(Γ:pP):IS->Stmt->Bool
 |.expr e,s=>BF (λx _=>oN x&&bD Γ e x) s
 |.asg p e,s=>En (λq1 x _=>k1 (λtg=>r6 Γ p tg&&bD Γ e x&&(match p with|.one _=>Nr x|.tup _=>oN x&&Nq x)) q1) s
 |.aug i o e,s=>Q3 (λq1 op v _=>oF (λx _=>Γ.N[i]?==some x&&(Γ.sc.names.lookup x==some .local || Γ.sc.names.lookup x==some .cell)&&Jz o op&&(match o with|.pow=>false|_=>true)&&bD Γ e v) q1) s
 |.g9 o i v,s=>En (λq1 x _=>k1 (λq2=>Ek (λa b _=>nM b&&oN x&&bD Γ o a&&bD Γ i b&&bD Γ v x) q2) q1) s
 |.iff c a b,s=>Sb (λt x y _=>bD Γ c t&&aT Γ a x&&aT Γ b y) s
 |.for p k it body,s=>Nc (λtg iter x q1 _=>pW q1 (r6 Γ p tg&&yb Γ k it iter&&(match k,p with|.enum,.one _=>false|.zip,.one _=>false|_,_=>true)&&aT Γ body x)) s
 |.whl _ c body,s=>Js (λt x q1 _=>pW q1 (bD Γ c t&&aT Γ body x)) s
 |.ret e,s=>Jt (λq1 _=>BD (λx=>bD Γ e x) q1) s
 |.Bp,s=>Jt (λq1 _=>BC q1 (true)) s
 |.brk,s=>Nd (λ_=>true) s
 |.cnt,s=>Nf (λ_=>true) s
 |.pass,s=>GC (λ_=>true) s||BF (λq1 _=>we (λq2 _ _=>Na (λ_=>true) q2) q1) s
 |.never,_=>true
 |.setF n a _ _,s=>En (λq1 x _=>k1 (λtg=>r6 Γ (.one n) tg&&bD Γ a x&&Nr x) q1) s
noncomputable def aT(Γ:pP):cE->List Stmt->Bool
 |.nil,ls=>ls.isEmpty
 | .cons s r,ls=>match ls with
  |l::ls=>Nt Γ s l&&aT Γ r ls
  |[]=>false
end
structure J1 (Φ:Fn) (Γ:pP) (k:Nat) (X:Cx) (cl:Nat->Addr) (EX:Nat->List V->Hp->Prop):Prop extends Ctx Φ Γ k X cl EX where
 fn:∀x,X.fn x=true
 nd:X.N.Nodup
 kind:X.env.scope.kind=.function
 xe:PassesOwn (model X.prog X.w) X.A X.env X.xe
def WF(K:Frag)(D:Ends):Fl->Hs->List Addr->Hp->Prop
 |.nx env',_,ρ',H'=>∀σ',cM K ρ' env' σ' H'->env'.length = σ'.length->D.nx σ' H'
 |.rt v,_,ρ',H'=>∀x,VR K ρ' H' v x->D.rt x H'
 |.bk env',_,ρ',H'=>∀σ',cM K ρ' env' σ' H'->env'.length = σ'.length->D.bk σ' H'
 |.ct env',_,ρ',H'=>∀σ',cM K ρ' env' σ' H'->env'.length = σ'.length->D.ct σ' H'
def tS(Φ:Fn)(B:Bd)(EX:Nat->List V->Hp->Prop)(ir:IS):TS:=λD σ H=>∃ρ env h,cM B.K ρ env σ H/\env.length = σ.length/\HR B ρ h H/\Post B EX ρ H (WF B.K D) (fW Φ ir env h)
def UA(Φ:Fn)(B:Bd)(EX:Nat->List V->Hp->Prop)(ir:cE):TS:=λD σ H=>∃ρ env h,cM B.K ρ env σ H/\env.length = σ.length/\HR B ρ h H/\Post B EX ρ H (WF B.K D) (jh Φ ir env h)
theorem _root_.L2.PS.imp(h:PS X e t)(i:∀D σ H,t' D σ H->t D σ H):PS X e t':=λpins s σ H D I hw=>h pins s σ H D I (i D σ H hw)
theorem _root_.L2.vz.imp(h:vz X e t)(i:∀D σ H,t' D σ H->t D σ H):vz X e t':=λpins s σ H D I hw=>h pins s σ H D I (i D σ H hw)
section
variable {Φ:Fn} {Γ:pP} {k:Nat} {X:Cx} {cl:Nat->Addr} {EX:Nat->List V->Hp->Prop}
def uB(Φ:Fn)(ir:IS):Prop:=∀(Γ:pP) (k:Nat) (X:Cx) (cl:Nat->Addr) (EX:Nat->List V->Hp->Prop) (st:Stmt),J1 Φ Γ k X cl EX->Nt Γ ir st=true->PS X st (tS Φ (bd X cl) EX ir)
def r9(Φ:Fn)(eu:cE):Prop:=∀(Γ:pP) (k:Nat) (X:Cx) (cl:Nat->Addr) (EX:Nat->List V->Hp->Prop) (st:List Stmt),J1 Φ Γ k X cl EX->aT Γ eu st=true->vz X st (UA Φ (bd X cl) EX eu)
theorem ly{n:Nat}(h:oN e=true):swapsWith e t n env=pure false:=by
 cases e<;>first|rfl|(exact absurd h Wm)
theorem LQ(ir:IE)(c:Ctx Φ Γ k X cl EX)(h:bD Γ ir e=true):PE X e (tV Φ (bd X cl) EX ir):=(mq.1 ir Γ k X cl EX e c h).1
theorem UB(ir:IE)(c:Ctx Φ Γ k X cl EX)(h:bD Γ ir e=true):PT X e (tT Φ (bd X cl) EX ir):=(mq.1 ir Γ k X cl EX e c h).2
theorem GI(hs:∀env h,fW Φ ir env h=.no):uB Φ ir:=by
 intro Γ k X cl EX st c h;refine nT.imp λD σ H ⟨ρ,env,h,hE,hl,r,p⟩=>?_;rw[hs]at p;exact p.elim
theorem J2:uB Φ (.expr e):=by
 intro Γ k X cl EX st c h;apply ya h;intro x _ h;simp only[and_eq_true]at h;refine(Dz (LQ e c.toCtx h.2) (ly h.1)).imp λD σ H aL=>?_;obtain⟨ρ,env,h,hE,hl,r,p⟩:=aL;simp only[fW]at p;exact⟨ρ,env,h,hE,r,aB p λv h1 ρ1 x H1 g1 r1 q1 p1=>aj r1 p1 σ (hE.up g1) hl⟩
theorem GJ:uB Φ (.asg p e):=by
 intro Γ k X cl EX st c h;apply BG h;intro q1 x pos h;apply l8 h;intro tg h;simp only[and_eq_true]at h;obtain⟨⟨h1,h2⟩,h3⟩:=h;have hg:=yh c.toCtx c.fn c.nd h1;have he:=LQ e c.toCtx h2;have fin:∀D σ H,tS Φ (bd X cl) EX (.asg p e) D σ H->DC (tV Φ (bd X cl) EX e) (zN X.K p) D σ H:=λD σ H ⟨ρ,env,h,hE,hl,r,pp⟩=>by
  simp only[fW]at pp;refine⟨ρ,env,h,hE,r,aB pp λv h1 ρ1 x H1 g1 r1 q1 p1=>?_⟩;obtain⟨env',e1,p2⟩:=b6 p1;exact yi e1 q1 (hE.up g1) hl λσ' Q9 hl' _=>aj r1 p2 σ' Q9 hl'
 have UC:(assignEach [tg] X.env).map (·.2)=[assign tg X.env]:=by
  cases p with
  |one i=>obtain⟨t,tp,rfl⟩:=oJ h1;rfl
  |tup is=>obtain⟨es,kk,tp,rfl⟩:=lu h1;rfl
 cases p with
 |tup is=>
  simp only[and_eq_true]at h3;refine(Au he hg ?_ ?_ UC).imp fin
  ·show swapsWith x (some tg) _ _=_;exact ly h3.1
  ·obtain⟨es,kk,tp,rfl⟩:=lu h1;cases x<;>first|rfl|(exact absurd h3.2 Wm)
 |one i=>
  obtain⟨t,tp,rfl⟩:=oJ h1
  ·
   simp only[r6,and_eq_true,beq_iff_eq]at h1;have loc:L2.Loc X.env.scope t:=by unfold L2.Loc;rw[c.sc];simpa using h1.2
   have pl:oN x=true->PS X (.Assign [.Name t tp] x pos) (tS Φ (bd X cl) EX (.asg (.one i) e)):=λhx=>(Av c.nd (by rw[c.N];exact h1.1) loc he (ly hx) (.inl (c.fn t))).imp fin;cases x with
   |ListComp e' gens scope p2=>
    cases hb:(X.env.kindOf t==some .local&&tp.line==p2.line && !(scope.names.any λ(n,k)=>n==t&&(k==.local||k==.cell))) with
    |false=>
     refine(Av c.nd (by rw[c.N];exact h1.1) loc he ?_ (.inl (c.fn t))).imp fin;have bk:(X.env.blockKind==.function)=true:=by unfold Env.blockKind;rw[c.kind];rfl
     show (pure (X.env.blockKind==.function&&X.env.kindOf t==some .local&&tp.line==p2.line && !(scope.names.any λ(n,k)=>n==t&&(k==.local||k==.cell))):Sem Bool)=pure false;rw[bk,XZ,hb]
    |true=>
     have bk:(X.env.blockKind==.function)=true:=by unfold Env.blockKind;rw[c.kind];rfl
     have hsw:swapsWith (.ListComp e' gens scope p2) (some (.Name t tp)) pos.line X.env=pure true:=by show (pure (X.env.blockKind==.function&&X.env.kindOf t==some .local&&tp.line==p2.line && !(scope.names.any λ(n,k)=>n==t&&(k==.local||k==.cell))):Sem Bool)=pure true;rw[bk,XZ,hb]
     cases e with
     |comp N' js pat ik it Nu elt=>obtain⟨e2,Wf,iter,ifs,Ra,pos2,wi,g,tt,te,q0,q1,q2,q3,q4,q5,q6,q7⟩:=oM (mq.2 it) (mq.1 Nu) (mq.1 elt) c.toCtx h2;cases q0;refine(D5 c.nd (by rw[c.N];exact h1.1) loc q1 c.calm q2 q3 q4 q5 hsw (.inl (c.fn t)) q6).imp λD σ H hh=>?_;exact q7 σ H _ (fin D σ H hh)
     |dflt N' js p q d w=>refine nT.imp λD σ H hh=>?_;obtain⟨ρ,env,h,hE,hl,r,pp⟩:=hh;simp only[fW,aJ]at pp;exact pp.elim
     |_=>first|exact absurd h2 Wm|(rw[bD.eq_def]at h2;cases h2)
   |SetComp _ _ _ _=>exact absurd h3 Wm
   |DictComp _ _ _ _ _=>exact absurd h3 Wm
   |_=>exact pl rfl
theorem Nv{i:Nat}:uB Φ (.aug i o e):=GI λ_ _=>rfl
def Nx(B:Bd)(EX:Nat->List V->Hp->Prop):HL:=λo i v H Q=>∃ρ h a b w,HR B ρ h H/\VR B.K ρ H a o/\VR B.K ρ H b i/\VR B.K ρ H w v/\Post B EX ρ H (λ_ _ _ H'=>Q H') (ue a b w h)
theorem J3(hu:X.A.units+64<cLine):HM X (Nx (bd X cl) EX):=by
 intro pins s σ H o i v ov iv u Q I ro ri rv hh;obtain⟨ρ,h,a,b,w,r,ha,hb,hw,p⟩:=hh;cases a with
 |ref j=>
  simp only[ue]at p;obtain⟨ob,e1,p⟩:=aE p;have dict:∀kvs,ob=.dct kvs->Post (bd X cl) EX ρ H (λ_ _ _ H'=>Q H') (bnd (bf (keyOf b)) (λk=>aH (decide (kvs.length<sizeLine)) (put j (.dct (gU kvs k w)))) h)->wpAny (model X.prog X.w) X.A (setItem ov iv u) (λ_ s'=>∃H',L2.Inv X pins σ H' s'/\Q H') X.xe s:=by rintro kvs rfl p;obtain⟨kk,e2,p⟩:=b6 p;obtain⟨e3,p⟩:=aN p;have e3:=WQ e3;rw[VR]at ha;obtain⟨A,rfl,k1⟩:=ha;obtain⟨ks,k2,k3⟩:=r.ob j _ A e1 k1;cases ro;have ek:=IY hb e2;subst ek;refine zc (by omega) I (DV.k (v:=v) k2 (by rw[<-k3.length];exact e3)) ri rv λs' I'=>⟨_,I',?_⟩;have g:Gr ρ H ρ (upd H A (.dK (putK ks kk v))):=Gr.put (WM k1) k2 rfl;exact p ρ _ g (r.put k1 e1 (u:=.dct (gU kvs kk w)) ⟨_,aZ,fJ.put kk (VR.up g _ _ hw) (fJ.up g _ _ k3)⟩)
  cases ob with
  |lst xs=>
   cases b<;>first|(exact p.elim)|skip
   rename_i n _;obtain⟨jj,e2,p⟩:=b6 p;obtain⟨A,ys,rfl,k1,k2,k3⟩:=jM r ha e1;rw[VR]at hb;subst hb;refine set_list pins s σ H _ _ v ov iv u Q I ro ri rv ⟨A,ys,n,jj,rfl,rfl,k2,by rw[<-k3.length];exact e2,?_⟩;have g:Gr ρ H ρ (upd H A (.lst (ys.set jj v))):=Gr.put (WM k1) k2 rfl;exact p ρ _ g (r.put k1 e1 (u:=.lst (xs.set jj w)) ⟨_,aZ,aC.set jj (aC.up g _ _ k3) (VR.up g _ _ hw)⟩)
  |dct kvs=>exact dict kvs rfl (by cases b<;>exact p)
  |ins c fs=>cases b<;>exact p.elim
 |_=>exact p.elim
theorem J4:uB Φ (.g9 o i v):=by
 intro Γ k X cl EX st c h;apply BG h;intro q1 x pos h;apply l8 h;intro q2 h;apply wg h;intro a b sp h;simp only[and_eq_true]at h;obtain⟨⟨⟨⟨h1,h2⟩,h3⟩,h4⟩,h5⟩:=h;have UD:PG X (.Subscript a b sp) (Ml (tV Φ (bd X cl) EX o) (tV Φ (bd X cl) EX i) (Nx (bd X cl) EX)):=HN (LQ o c.toCtx h3) (LQ i c.toCtx h4) (J3 c.units) (by
  intro v;cases b<;>first|rfl|(exact absurd h1 Wm))
 refine(Au (LQ v c.toCtx h5) UD (ly (t:=some (.Subscript a b sp)) (n:=pos.line) (env:=X.env) h2) (by cases x<;>rfl) rfl).imp λD σ H aL=>?_;obtain⟨ρ,env,h,hE,hl,r,p⟩:=aL;simp only[fW]at p;refine⟨ρ,env,h,hE,r,aB p λw h1 ρ1 x1 H1 g1 r1 q1 p1=>⟨ρ1,env,h1,hE.up g1,r1,aB p1 λw2 h2 ρ2 x2 H2 g2 r2 q2 p2=>⟨ρ2,env,h2,(hE.up g1).up g2,r2,aB p2 λw3 h3 ρ3 x3 H3 g3 r3 q3 p3=>?_⟩⟩⟩;refine⟨ρ3,h3,w2,w3,w,r3,VR.up g3 _ _ q2,q3,VR.up (g2.trans g3) _ _ q1,bI p3 λ_ h4 ρ4 H4 g4 r4 p4=>?_⟩;exact aj r4 p4 σ (((hE.up g1).up g2).up g3 |>.up g4) hl
theorem Ny(ha:r9 Φ a)(hb:r9 Φ b):uB Φ (.iff t a b):=by
 intro Γ k X cl EX st c h;apply Nb h;intro tt x y pos h;simp only[and_eq_true]at h;refine(Mh (UB t c.toCtx h.1.1) (ha Γ k X cl EX x c h.1.2) (hb Γ k X cl EX y c h.2)).imp λD σ H aL=>?_;obtain⟨ρ,env,h,hE,hl,r,p⟩:=aL;simp only[fW]at p;refine⟨ρ,env,h,hE,r,l9 p λv h1 p1=>?_⟩;obtain⟨s,e1,p2⟩:=aE p1;refine⟨s,e1,λρ1 H1 g1 r1=>?_⟩;have p2:=Post.up g1 p2;cases s with
 |true=>rw[Wu rfl]at p2 |-;exact⟨ρ1,env,h1,hE.up g1,hl,r1,p2⟩
 |false=>rw[Wt Wm]at p2 |-;exact⟨ρ1,env,h1,hE.up g1,hl,r1,p2⟩
theorem Nz(hb:r9 Φ body):uB Φ (.for p ik it body):=by
 intro Γ k X cl EX st c h;apply Jr h;intro tg iter x q1 pos h;apply kj h;intro h;simp only[and_eq_true]at h;obtain⟨⟨⟨h1,h2⟩,h3⟩,h4⟩:=h;have hen:ik=.enum\/ik=.zip->∃es kk pos,tg=.Tuple es kk pos:=by
  intro hz;cases p with
  |one i=>rcases hz with rfl|rfl<;>cases h3
  |tup is=>exact lu h1
 obtain⟨hi,hf⟩:=GH (mq.2 it) c.toCtx h2 hen;refine(HQ c.xe c.calm hi (yh c.toCtx c.fn c.nd h1) (hb Γ k X cl EX x c h4) hf).imp λD σ H aL=>?_;obtain⟨ρ,env,h,hE,hl,r,pp⟩:=aL;simp only[fW]at pp;have p':Post (bd X cl) EX ρ H (WF X.K D) (bnd (LP Φ ik it env) (λsrc=>bnd (ask λh=>src.items h) λxs=>forM src (λx env=>bnd (bf (eZ p x env)) λenv'=>jh Φ body env') xs.length 0 env) h):=by unfold LP;rw[bw];exact pp
 refine⟨ρ,env,h,hE,r,bI p' λsrc h1 ρ1 H1 g1 r1 p1=>?_⟩;obtain⟨xs,e1,p2⟩:=aE p1;refine⟨⟨xs,e1⟩,λJ wk=>?_⟩;refine⟨λi m σ' H'=>∃ρ' env' h',Gr ρ1 H1 ρ' H'/\cM X.K ρ' env' σ' H'/\env'.length = σ'.length/\HR (bd X cl) ρ' h' H'/\Post (bd X cl) EX ρ' H' (WF X.K D) (forM src (λx env=>bnd (bf (eZ p x env)) λenv'=>jh Φ body env') m i env' h'),
  ⟨xs.length,ρ1,env,h1,Gr.refl,hE.up g1,hl,r1,p2⟩,?_⟩
 rintro i m σ' H' ⟨ρ',env',h',w1,w2,w3,w4,w5⟩;cases m with
 |zero=>simp only[forM]at w5;obtain⟨xs',k1,w5⟩:=aE w5;obtain⟨k2,w5⟩:=aN w5;exact .inl ⟨wk.stop w1.w w4 k1 (WQ k2),aj w4 w5 σ' w2 w3⟩
 |succ m=>
  simp only[forM]at w5;obtain⟨xs',k1,w5⟩:=aE w5;cases hx:xs'[i]? with
  |none=>rw[hx]at w5;exact .inl ⟨wk.stop w1.w w4 k1 (XJ.mp hx),aj w4 w5 σ' w2 w3⟩
  |some v=>
   rw[hx]at w5;dsimp only at w5;refine .inr ⟨wk.go w1.w w4 k1 hx,_,λAh ID w=>⟨m,Xa _,w⟩,λy H2 hy=>?_⟩;obtain⟨z1,z2,z3⟩:=wk.vA w1.w w4 k1 hx hy;rw[bw]at w5;obtain⟨iP,k2,w5⟩:=b6 w5;refine yi k2 z3 (w2.up z1) w3 λσ2 PN hl2 _=>⟨ρ',iP,h',PN,hl2,z2,bI (Post.up z1 w5) λf h3 ρ3 H3 g3 r3 p3=>?_⟩;cases f with
   |nx EK=>exact λσ3 NB hl3=>⟨ρ3,EK,h3,(w1.trans z1).trans g3,NB,hl3,r3,p3⟩
   |ct EK=>exact λσ3 NB hl3=>⟨ρ3,EK,h3,(w1.trans z1).trans g3,NB,hl3,r3,p3⟩
   |bk EK=>exact λσ3 NB hl3=>aj r3 p3 σ3 NB hl3
   |rt v=>exact(aj r3 p3:WF X.K D (.rt v) h3 ρ3 H3)
theorem NC{n:Nat}(hb:r9 Φ body):uB Φ (.whl n t body):=GI λ_ _=>rfl
theorem ND:uB Φ (.ret e):=by
 intro Γ k X cl EX st c h;apply BH h;intro q1 _ h;apply x8 h;intro x h;refine(HJ (LQ e c.toCtx h)).imp λD σ H aL=>?_;obtain⟨ρ,env,h,hE,hl,r,p⟩:=aL;simp only[fW]at p;exact⟨ρ,env,h,hE,r,aB p λv h1 ρ1 x H1 g1 r1 q1 p1=>aj r1 p1 x q1⟩
theorem J5:uB Φ .Bp:=by
 intro Γ k X cl EX st c h;apply BH h;intro q1 _ h;apply x6 h;intro h;refine DA.imp λD σ H aL=>?_;obtain⟨ρ,env,h,hE,hl,r,p⟩:=aL;simp only[fW]at p;exact aj r p _ VR.non
theorem NF:uB Φ .brk:=by
 intro Γ k X cl EX st c h;apply Ju h;intro _ h;refine Ar.imp λD σ H aL=>?_;obtain⟨ρ,env,h,hE,hl,r,p⟩:=aL;simp only[fW]at p;exact aj r p σ hE hl
theorem NG:uB Φ .cnt:=by
 intro Γ k X cl EX st c h;apply Jv h;intro _ h;refine tu.imp λD σ H aL=>?_;obtain⟨ρ,env,h,hE,hl,r,p⟩:=aL;simp only[fW]at p;exact aj r p σ hE hl
theorem J6:uB Φ .pass:=by
 intro Γ k X cl EX st c h
 rcases Sa h with h|h
 ·apply Eo h;intro _ h;refine Dy.imp λD σ H aL=>?_;obtain⟨ρ,env,h,hE,hl,r,p⟩:=aL;simp only[fW]at p;exact aj r p σ hE hl
 ·apply ya h;intro q1 _ h;apply uq h;intro q2 _ _ h;apply Jq h;intro _ h;refine HH.imp λD σ H aL=>?_;obtain⟨ρ,env,h,hE,hl,r,p⟩:=aL;simp only[fW]at p;exact aj r p σ hE hl
theorem EL:uB Φ .never:=by
 intro Γ k X cl EX st c h;refine nT.imp λD σ H aL=>?_;obtain⟨ρ,env,h,hE,hl,r,p⟩:=aL;simp only[fW]at p;exact p.elim
theorem J7{n:Nat}:uB Φ (.setF n a x v):=GJ (p:=.one n) (e:=a)
theorem J8:r9 Φ .nil:=by
 intro Γ k X cl EX st c h;rw[aT]at h;cases st with
 |cons _ _=>cases h
 |nil=>refine Dw.imp λD σ H aL=>?_;obtain⟨ρ,env,h,hE,hl,r,p⟩:=aL;simp only[jh]at p;exact aj r p σ hE hl
theorem EM(h1:uB Φ s)(h2:r9 Φ ss):r9 Φ (.cons s ss):=by
 intro Γ k X cl EX st c h;rw[aT.eq_def]at h;dsimp only at h;cases st with
 |nil=>cases h
 |cons l ls=>
  simp only[and_eq_true]at h;refine(Aq (h1 Γ k X cl EX l c h.1) (h2 Γ k X cl EX ls c h.2)).imp λD σ H aL=>?_;obtain⟨ρ,env,h,hE,hl,r,p⟩:=aL;simp only[jh]at p;refine⟨ρ,env,h,hE,hl,r,bI p λf h1 ρ1 H1 g1 r1 p1=>?_⟩;cases f with
  |nx env'=>exact λσ' Q9 hl'=>⟨ρ1,env',h1,Q9,hl',r1,p1⟩
  |rt v=>exact(aj r1 p1:WF X.K D (.rt v) h1 ρ1 H1)
  |bk env'=>exact(aj r1 p1:WF X.K D (.bk env') h1 ρ1 H1)
  |ct env'=>exact(aj r1 p1:WF X.K D (.ct env') h1 ρ1 H1)
theorem BX:∀eu,r9 Φ eu:=by
 intro eu;exact cE.rec (motive_1:=λs=>uB Φ s) (motive_2:=λss=>r9 Φ ss) (λ_=>J2) (λ_ _=>GJ) (λ_ _ _=>Nv) (λ_ _ _=>J4) (λ_ _ _ a b=>Ny a b) (λ_ _ _ _ a=>Nz a) (λ_ _ _ a=>NC a) (λ_=>ND) J5 NF NG J6 EL (λ_ _ _ _=>J7)
  J8 (λ_ _ a b=>EM a b) eu
end
abbrev Row:=Str×Nat×(List Val->M Val)
def look(fs:List Row)(j:Nat):List Val->M Val:=match fs[j]? with
 |some r=>r.2.2
 |none=>λ_=>bf none
def b9(P:Program)(w:World)(B:Bd)(mg:Str->Option Value)(base:Heap)(k:Nat)(fs:List Row):Prop:=∀(j:Nat) (r:Row),fs[j]?=some r->LO P w B mg base k j r.1 r.2.1 r.2.2
def aO(N P:List Str)(sc:Scope):Bool :=
 sc.kind==.function && !sc.isCoroutine && !sc.isGenerator&&decide N.Nodup&&N.take P.length==P&&(P.all λx=>sc.names.lookup x==some .local||sc.names.lookup x==some .cell)&&(sc.names.all λy=>y.2 != .free)
theorem BY(h:aO N P sc=true):nI N P sc:=by
 unfold aO at h;simp only[and_eq_true,beq_iff_eq,not_eq_true',decide_eq_true_eq,all_eq_true,or_eq_true,bne_iff_ne]at h;obtain⟨⟨⟨⟨⟨⟨h1,h2⟩,h3⟩,h4⟩,h5⟩,h6⟩,h7⟩:=h;exact⟨h1,h2,h3,h4,h5,h6,h7⟩
structure Base (K:Frag) (cl:Nat->Addr) (mg:Str->Option Value) (cons:List (Str×Val)) (tb:Tb):Prop where
 blt:∀x∈bltNames,mg x=none
 cons:∀p∈cons,∃v u,mg p.1=some u/\RelV v u/\∀K ρ H,VR K ρ H p.2 v
 cls:∀c,c<tb.nc->RK K (cl c)/\∀x∈tb.Ng,AA K (cl c) x
 Jw:∀p∈tb.Jw,Meth K (cl p.1) p.2.1 (cl (1000+p.2.2))
 Jx:∀p∈tb.Jx,∃C,mg p.1=some (.ref C)/\MX K C p.2.1 (cl (1000+p.2.2))
 isc:∀p∈tb.isc,∃C,mg p.1=some (.ref C)/\∀c b,p.2[c]?=some b->R7 K (cl c)/\kitOne K (.ref (cl c)) (.ref C)=some b
section
variable {P:Program} {w:World} {K:Frag} {cl:Nat->Addr} {mg:Str->Option Value} {base:Heap} {k:Nat} {fs:List Row} {cons:List (Str×Val)} {tb:Tb}
theorem GK{x qual:Str}{st:Stmt}{f:Addr}{fd:FuncData}{N ps:List Str}{body:cE}(T:Base K cl mg cons tb)(A:b9 P w ⟨K,cl⟩ mg base k fs)(F:Gq K x qual st f fd)(hS:aO N ps (af st)=true)
  (hc:aT ⟨N,af st,fs.map (λr=>(r.1,r.2.1)),cons,tb⟩ body (aA st)=true):gu P w K mg base AQ (k+2) f fd ps (wu ⟨K,cl⟩ ps.length (iM (look fs) N.length body)):=by
 have S:=BY hS;refine F.ok S (λvs H Q E h=>?_) (λcdv A' outer s H vs Q E hr h=>?_)
 ·obtain⟨ρ,h,ws,h1,_,h2,_⟩:=h;rw[<-h2.length,h1]
 ·obtain⟨ρ,h,ws,hl,r,hv,p⟩:=h
  have lv:=hv.length
  let X:Cx:=(vI AQ P w K mg base N qual (af st) f cdv A' outer s H E).Mb
  have c:J1 (look fs) ⟨N,af st,fs.map (λr=>(r.1,r.2.1)),cons,tb⟩ k X cl (λ_ _ _=>False):=by
   refine { N:=rfl,sc:=rfl,calm:=rfl,room:=hr,nj:=λ_ _ _ z=>z,fns:=λj x n e=>?_,cls:=T.cls,Jw:=T.Jw,Jx:=T.Jx,isc:=T.isc,cons:=T.cons,blt:=T.blt,fn:=λ_=>rfl,nd:=S.nd,kind:=S.kind,xe:=PassesOwn.never };have e':(fs.map (λr=>(r.1,r.2.1)))[j]?=some (x,n):=e;rw[WO]at e';cases er:fs[j]? with
   |none=>rw[er]at e';cases e'
   |some r=>rw[er]at e';cases e';have:=A j r er;unfold look;rw[er];exact this
  refine⟨_,BX body _ k X cl _ (aA st) c hc,ρ,ws.map some++replicate (N.length-ws.length) none,h,λi v e=>?_,?_,r,bI p λfl h1 ρ1 H1 g1 r1 p1=>?_⟩
  ·by_cases hi:i<ws.length
   ·rw[WE (by simpa using hi)]at e
    rw[WO]at e;cases ei:ws[i]? with
    |none=>rw[ei]at e;cases e
    |some w'=>rw[ei]at e;cases e;obtain⟨y,q1,q2⟩:=hv.get ei;refine⟨y,?_,q2⟩;show (vs.map some++_)[i]?=_;rw[WE (by rw[Wr,<-lv];exact hi),WO,q1];rfl
   ·rw[WX (by simp;omega)]at e;have:=WM e;rw[YK]at this;exact absurd this.2 (by simp)
  ·show _=(vs.map some++_).length;simp[lv]
  ·cases fl with
   |nx env'=>exact λσ' _ _=>aj r1 p1 _ VR.non
   |rt v=>exact(aj r1 p1:WV K Q v h1 ρ1 H1)
   |bk env'=>exact p1.elim
   |ct env'=>exact p1.elim
theorem _root_.Hv.LO.mono{j:Nat}{n:Nat}(g:LO P w B mg base k j x n φ):LO P w B mg base (k+2) j x n φ:=by
 have le:k<=k+2:=Nat.le_add_right _ _
 rcases g with ⟨h,⟨f,fd,ps,q1,q2,q3,q4,q5⟩|⟨c,f,fd,ps,φ0,q0,q1,q2,q3,q4,q5⟩⟩|⟨h,fd,ps,q1,q4,q5⟩
 ·exact .inl ⟨h,.inl ⟨f,fd,ps,q1,q2,q3,q4,q5.mono le⟩⟩
 ·exact .inl ⟨h,.inr ⟨c,f,fd,ps,φ0,q0,q1,q2,q3,q4,q5.mono le⟩⟩
 ·exact .inr ⟨h,fd,ps,q1,q4,q5.mono le⟩
theorem all_nil:b9 P w ⟨K,cl⟩ mg base k []:=λj r e=>by simp at e
theorem EN{r0:Row}(A:b9 P w ⟨K,cl⟩ mg base k fs)(g:LO P w ⟨K,cl⟩ mg base (k+2) fs.length r0.1 r0.2.1 r0.2.2):b9 P w ⟨K,cl⟩ mg base (k+2) (fs++[r0]):=λj r e=>by
 by_cases hj:j<fs.length
 ·rw[WE hj]at e;exact(A j r e).mono
 ·rw[WX (by omega)]at e
  have hj0:j-fs.length=0:=by have:=(Wo.mp e).1;simp at this;omega
  rw[hj0]at e;simp at e;subst e;rw[show j=fs.length by omega];exact g
theorem BZ{x qual:Str}{st:Stmt}{f:Addr}{fd:FuncData}{N ps:List Str}{body:cE}(T:Base K cl mg cons tb)(A:b9 P w ⟨K,cl⟩ mg base k fs)(F:Gq K x qual st f fd)(hm:mg x=some (.ref f))(hb:Binds K fd ps [])(B0:ps.length<1000)(hS:aO N ps (af st)=true)
  (hc:aT ⟨N,af st,fs.map (λr=>(r.1,r.2.1)),cons,tb⟩ body (aA st)=true):b9 P w ⟨K,cl⟩ mg base (k+2) (fs++[(x,ps.length,iM (look fs) N.length body)]) :=
 EN (r0:=(x,ps.length,iM (look fs) N.length body)) A (.inl ⟨B0,.inl ⟨f,fd,ps,rfl,hm,F.kp,hb,GK T A F hS hc⟩⟩)
end
def jT(K:Frag)(x qual:Str)(st:Stmt)(f:Addr):Prop:=∃fd,Gq K x qual st f fd
section
variable {α:Type} {p:List α -> Prop}
theorem GL:∀{us:List α},us.length=1->(∀a,p [a])->p us
 |[a],_,h=>h a
theorem ln2:∀{us:List α},us.length=2->(∀a b,p [a,b])->p us
 |[a,b],_,h=>h a b
theorem Sj:∀{us:List α},us.length=3->(∀a b c,p [a,b,c])->p us
 |[a,b,c],_,h=>h a b c
theorem NH:∀{us:List α},us.length=4->(∀a b c d,p [a,b,c,d])->p us
 |[a,b,c,d],_,h=>h a b c d
end
def UE(x qual:Str)(st:Stmt)(ps:List Str):Prop:=∀(kV doc pm:Value) (an:Option Addr) (cdv ct:Value) (us:List Value),us.length=ps.length->bindArgs (fnOf x qual (kU st) (aA st) (af st) .none kV doc pm an cdv ct) ⟨us,[]⟩=pure (ps.zip us)
section
variable {P:Program} {w:World} {K:Frag} {cl:Nat->Addr} {mg:Str->Option Value} {base:Heap} {k:Nat} {fs:List Row} {cons:List (Str×Val)} {tb:Tb} {x i y qual:Str} {st:Stmt} {f:Addr} {N ps:List Str} {body:cE} (T:Base K cl mg cons tb) (A:b9 P w ⟨K,cl⟩ mg base k fs)
include T A
theorem bQ(F:jT K x qual st f)(hm:mg x=some (.ref f))(hS:aO N ps (af st)=true)
  (hc:aT ⟨N,af st,fs.map (λr=>(r.1,r.2.1)),cons,tb⟩ body (aA st)=true) (B0:ps.length<1000) (hb:UE x qual st ps):b9 P w ⟨K,cl⟩ mg base (k+2) (fs++[(x,ps.length,iM (look fs) N.length body)]):=F.elim λ_ F=>BZ T A F hm (F.binds hb) B0 hS hc
end
theorem J9{K:Frag}{cl:Nat->Addr}{φ:List Val->M Val}{H:Hp}{a:Addr}{ns:List Int}(hO:AN H)(hS:gR K H a (ns.map V.int))(h:∃h',φ [.rl (ns.map .int)] []=.ok (.bl true) h') :
  wu ⟨K,cl⟩ 1 φ [.ref a] H (λv _=>v=.bl true) λ_ _ _=>False:=by
 obtain⟨h',e⟩:=h;have sr:Gx K H a (ns.map V.int):=by
  rcases hS with (z|z)|z
  ·rcases hO a with y|⟨o,xs,y⟩
   ·rw[y]at z;cases z
   ·rw[y]at z;cases z
  ·exact .inl z
  ·exact .inr (.inr z)
 refine⟨[],[],[.rl (ns.map .int)],rfl,⟨rfl,YJ,λi o a e=>by simp at e⟩,aC.cons (by rw[VR];exact⟨a,_,rfl,sr,aC.ints.mpr rfl⟩) aC.nil,?_⟩;rw[e];intro ρ' H' g r x q;rw[VR]at q;exact q
def PR(K:Frag):Sp:=λvs H Q _=>∃(a:Addr) (ns:List Int),vs=[.ref a]/\AN H/\gR K H a (ns.map V.int)/\ns.length<=63/\∀H',Q (.bl true) H'
theorem Ka{K:Frag}{cl:Nat->Addr}{φ:List Val->M Val}(hφ:∀ns:List Int,ns.length<=63->∃h',φ [.rl (ns.map .int)] []=.ok (.bl true) h')(vs:List V)(H:Hp)(Q:VK)(E:XK)(h:PR K vs H Q E):wu ⟨K,cl⟩ 1 φ vs H Q E:=by
 obtain⟨a,ns,rfl,hO,hS,hl,hq⟩:=h;obtain⟨ρ,h,vs,q1,q2,q3,q4⟩:=J9 (cl:=cl) hO hS (hφ ns hl);refine⟨ρ,h,vs,q1,q2,q3,?_⟩;revert q4;cases φ vs h with
 |ok v h'=>exact λq4 ρ' H' g r x hx=>by rw[show x=_ from q4 ρ' H' g r x hx];exact hq H'
 |exc c ws h'=>exact λq4=>q4
 |no=>exact λq4=>q4
theorem walk{l:PySem.W.OpenLaw}{q:Program}{loose:List Str}{XP:(Str->Option Value)->Heap->Prop}{YP:World->Heap->Prop}{d:DefRec}{K:Params->Frag}{k:Nat}{x:Str}(hn:l.most=some 63)(hdf:d.params.defaults=[])(hr:eE k callerA)
  (hY:∀(w:World) (h:Heap),YP w h->(K w.params).In h)
  (F:∀(w:World) (mg:Str->Option Value) (fa:Addr) (h:Heap),(K w.params).In h->h.Ns mainGlobals mg->mg d.name=some (.ref fa) ->
   ∃fd:FuncData,(∀(s:Shared) (u:Value),BindsTo s fd ⟨[u],[]⟩ [(x,u)])/\∀base:Heap,(K w.params).In base->base.Ns mainGlobals mg->gu l.prog w (K w.params) mg base AQ k fa fd [x] (PR (K w.params))) :
  PySem.W.WalkO q loose XP YP l.row.toRowW d [] (λf vs=>PySem.call f vs) :=
 L2.DY (n:=63) (k:=k) (x:=x) (CX:=λ_=>AQ) (sp:=λw=>PR (K w.params)) hn (by decide) hdf hr hY F (λ_ _ a ns hl hO hS=>⟨a,ns,rfl,hO,hS,hl,λ_=>rfl⟩) λ_ _ _ _ _ z=>z
end Hv
end
section
namespace Hv
open PySem L2
inductive Pr (α:Type)
 |ok (a:α)|exc (c:Nat) (ds:List Val)|no
def pb{α β:Type}(m:Pr α)(f:α -> Pr β):Pr β:=match m with
 |.ok a=>f a
 |.exc c ds=>.exc c ds
 |.no=>.no
def pl{α:Type}(o:Option α):Pr α:=match o with
 |some a=>.ok a
 |none=>.no
def pg{α:Type}(c:Bool)(m:Pr α):Pr α:=if c=true then m else .no
inductive Mk
 |sh|nw|ow
def pX:Mk->Bool
 |.ow=>false
 |_=>true
def LR:Mk->Bool
 |.nw=>true
 |_=>false
abbrev aP:=List (Option (Mk×Val))
abbrev FV:=Bool×Val
mutual
noncomputable def j5:Val->Bool
 |.rl _=>false
 |.dc _ _=>false
 |.ob _ _ _=>false
 |.ref _=>false
 |.tup vs=>bR vs
 |.non=>true
 |.bl _=>true
 |.int _=>true
 |.str _=>true
noncomputable def bR:List Val->Bool
 |[]=>true
 |v::vs=>j5 v&&bR vs
end
def fc(f:Bool)(d:Val):Mk:=if (f && !j5 d)=true then .nw else .sh
def putD(ks:List Key)(ds:List Val)(k:Key)(d:Val):Val:=.dc ((gU (ks.zip ds) k d).map (·.1)) ((gU (ks.zip ds) k d).map (·.2))
def jU:Gu->Val->Val->Pr FV
 |.add,.int a,.int b=>.ok (true,.int (a+b))
 |.add,.str a,.str b=>pg (decide (a.length+b.length<=sizeLine)) (.ok (true,.str (a++b)))
 |.add,.tup a,.tup b=>pg (!a.isEmpty&&decide (a.length+b.length<=sizeLine)) (.ok (bR (a++b),.tup (a++b)))
 |.add,.rl a,.rl b=>pg (decide (a.length+b.length<=sizeLine)) (.ok (bR (a++b),.rl (a++b)))
 |.sub,.int a,.int b=>.ok (true,.int (a-b))
 |.mul,.int a,.int b=>pg (j3 a b) (.ok (true,.int (a*b)))
 |.fdiv,.int a,.int b=>pg (ki b) (.ok (true,.int (a/b)))
 |.mod,.int a,.int b=>pg (decide (0<b)) (.ok (true,.int (a%b)))
 |.pow,.int a,.int b=>pg (decide (0<=b/\b<=1000000/\a.natAbs<2 ^ 64)) (.ok (true,.int (a ^ b.toNat)))
 |_,_,_=>.no
def zO(v:Val)(lo hi:Option Int):Pr FV:=match v with
 |.tup vs=>pg (!(decide (HT.dF vs.length 0 lo=0)&&decide (HT.dF vs.length vs.length hi=vs.length))) (.ok (bR (cU vs lo hi),.tup (cU vs lo hi)))
 |.rl vs=>.ok (bR (cU vs lo hi),.rl (cU vs lo hi))
 |_=>.no
def jk:Bl->List Val->Pr FV
 |.len,[v]=>pb (pl (k8 [] v)) λn=>.ok (true,.int n)
 |.min,[.int a,.int b]=>.ok (true,.int (if b<a then b else a))
 |.max,[.int a,.int b]=>.ok (true,.int (if b>a then b else a))
 |.min,[v]=>pb (pl (cP [] v)) λxs=>pb (pl ((aS xs).bind rW)) λm=>.ok (true,m)
 |.max,[v]=>pb (pl (cP [] v)) λxs=>pb (pl ((aS xs).bind rX)) λm=>.ok (true,m)
 |.sorted,[.rl xs]=>pb (pl (gg xs)) λys=>.ok (true,.rl ys)
 |.list,[v]=>pb (pl (cP [] v)) λxs=>.ok (bR xs,.rl xs)
 |.int,[.bl b]=>.ok (true,.int (if b=true then 1 else 0))
 |.int,[.int i]=>.ok (true,.int i)
 |.isin T,[v]=>pb (pl (zy [] v)) λt=>pb (pl (Bs T t)) λb=>.ok (true,.bl b)
 |_,_=>.no
def gx:Ik->List Val->Option (List Val)
 |.seq,[.tup vs]=>some vs
 |.seq,[.rl vs]=>some vs
 |.range,[.int n]=>if inR n then some (bZ 0 n.toNat) else none
 |.range,[.int a,.int b]=>if inR a&&inR b then some (bZ a (b-a).toNat) else none
 |.enum,[.rl vs]=>some (cD 0 vs)
 |_,_=>none
def B3(k:Ik)(ds:List Val):Option (List Val):=match k with
 |.zip=>none
 |k=>gx k ds
def bE:List Nat->List Val->aP->Option aP
 |[],[],env=>some env
 |i::is,d::ds,env=>bE is ds (env.set i (some (.sh,d)))
 |_,_,_=>none
def cQ:v9->Val->aP->Option aP
 |.one i,d,env=>some (env.set i (some (.sh,d)))
 |.tup is,.tup ds,env=>bE is ds env
 |_,_,_=>none
def iW(js:List (Option Nat))(env:aP):aP:=js.map λo=>match o with
 |none=>none
 | some j=>match env[j]? with
  |some (some d)=>some d
  |_=>none
def iX(f:Val->Pr (Option FV)):List Val->Pr (Bool×List Val)
 |[]=>.ok (true,[])
 |x::r=>pb (f x) λo=>pb (iX f r) λp=>.ok (match o with|some e=>(e.1&&p.1,e.2::p.2)|none=>p)
def oO:Val->Pr Bool
 |.bl b=>.ok b
 |_=>.no
def jb(env:aP):IE->Option FV
 | .var i=>match env[i]? with
  |some (some (_,d))=>some (j5 d,d)
  |_=>none
 |_=>none
def isVar:IE->Bool
 |.var _=>true
 |_=>false
mutual
noncomputable def aX(Ψ:Nat->List Val->Pr FV):IE->aP->Pr FV
 | .var i,env=>match env[i]? with
  |some (some (m,d))=>pg (pX m) (.ok (j5 d,d))
  |_=>.no
 |.cst d,_=>.ok (j5 d,d)
 |.con _ d,_=>.ok (j5 d,d)
 |.no,_=>.no
 |.bin o a b,env=>pb (if isVar a=true then pl (jb env a) else aX Ψ a env) λx=>pb (if isVar b=true then pl (jb env b) else aX Ψ b env) λy=>jU o x.2 y.2
 | .neg a,env=>pb (aX Ψ a env) λx=>match x.2 with
  |.int i=>.ok (true,.int (-i))
  |_=>.no
 |.cmp o a b,env=>pb (if isVar a=true then pl (jb env a) else aX Ψ a env) λx=>pb (if isVar b=true then pl (jb env b) else aX Ψ b env) λy=>pb (pl (cop [] o x.2 y.2)) λt=>.ok (true,.bl t)
 |.chn _ _ _ _ _,_=>.no
 |.and a b,env=>pb (aX Ψ a env) λx=>pb (oO x.2) λt=>if t=true then pb (aX Ψ b env) λy=>pb (oO y.2) λu=>.ok (true,.bl u) else .ok (true,.bl false)
 |.or a b,env=>pb (aX Ψ a env) λx=>pb (oO x.2) λt=>if t=true then .ok (true,.bl true) else pb (aX Ψ b env) λy=>pb (oO y.2) λu=>.ok (true,.bl u)
 |.not a,env=>pb (aX Ψ a env) λx=>pb (oO x.2) λt=>.ok (true,.bl (!t))
 |.ite _ _ _,_=>.no
 |.tup es,env=>pb (uC Ψ es env) λp=>pg (decide (p.2.length<=sizeLine)) (.ok (p.1,.tup p.2))
 |.lst es,env=>pb (uC Ψ es env) λp=>pg (decide (p.2.length<=sizeLine)) (.ok (p.1,.rl p.2))
 |.idx a b,env=>pb (if isVar a=true then pl (jb env a) else aX Ψ a env) λx=>pb (aX Ψ b env) λy=>pb (pl (jf [] x.2 y.2)) λz=>.ok (j5 z,z)
 |.slc a lo hi,env=>pb (if isVar a=true then pl (jb env a) else aX Ψ a env) λx=>pb (if cV lo=true then .ok none else pb (aX Ψ lo env) λv=>pb (pl (gh v.2)) λi=>.ok (some i)) λl=>
   pb (if cV hi=true then .ok none else pb (aX Ψ hi env) λv=>pb (pl (gh v.2)) λi=>.ok (some i)) λu=>zO x.2 l u
 |.call j es,env=>pb (uC Ψ es env) λp=>Ψ j p.2
 |.blt b es,env=>pb (fH Ψ es env) λds=>jk b ds
 | .met m a es,env=>match m with
  |.join=>.no
  |_=>.no
 | .comp _ js pat k it c elt,env=>pb (fH Ψ it env) λits=>pb (pl (B3 k its)) λxs=>pg (decide (xs.length<=100000))
   (pb (iX (λd=>pb (pl (cQ pat d (iW js env))) λenv'=>pb (if cV c=true then .ok true else pb (aX Ψ c env') λv=>pl (cC [] v.2)) λt=>
    if t=true then pb (aX Ψ elt env') λe=>.ok (some e) else .ok none) xs) λp=>.ok (p.1,.rl p.2))
 |.dct0,_=>.ok (true,.dc [] [])
 | .sset a,env=>pb (if isVar a=true then pl (jb env a) else aX Ψ a env) λx=>match x.2 with
  |.rl xs=>pb (pl (aS xs)) λns=>pg (decide (ns.length<64)) (.ok (true,.rl ((sortI (L2.gS [] ns)).map .int)))
  |_=>.no
 |.dget d k x,env=>pb (if isVar d=true then pl (jb env d) else aX Ψ d env) λo=>pb (pl (rY [] o.2)) λ_=>pb (aX Ψ k env) λi=>pb (pl (keyOf i.2)) λkk=>pb (aX Ψ x env) λz=>pb (pl (zx [] o.2 kk)) λr=>.ok (j5 (r.getD z.2),r.getD z.2)
 |.dct1 k v,env=>pb (aX Ψ k env) λx=>pb (pl (keyOf x.2)) λkk=>pb (aX Ψ v env) λy=>.ok (y.1,.dc [kk] [y.2])
 |.lkeys d,env=>pb (if isVar d=true then pl (jb env d) else aX Ψ d env) λo=>pb (pl (ud [] o.2)) λks=>.ok (true,.rl (ks.map Bq))
 |.sdef ..,_=>.no
 |.svals _,_=>.no
 |.skeys _,_=>.no
 |.fld _ _ _,_=>.no
 |.mth _ _ _ _,_=>.no
 |.rev _ _,_=>.no
 |.dflt _ _ _ _ _ _,_=>.no
 |.isc _ _ _,_=>.no
noncomputable def uC(Ψ:Nat->List Val->Pr FV):kg->aP->Pr (Bool×List Val)
 |.nil,_=>.ok (true,[])
 |.cons e es,env=>pb (aX Ψ e env) λd=>pb (uC Ψ es env) λp=>.ok (d.1&&p.1,d.2::p.2)
noncomputable def fH(Ψ:Nat->List Val->Pr FV):kg->aP->Pr (List Val)
 |.nil,_=>.ok []
 |.cons e es,env=>pb (if isVar e=true then pl (jb env e) else aX Ψ e env) λd=>pb (fH Ψ es env) λp=>.ok (d.2::p)
end
def LS(Ψ:Nat->List Val->Pr FV)(e:IE)(env:aP):Pr FV:=if isVar e=true then pl (jb env e) else aX Ψ e env
inductive wD
 |nx (env:aP)|rt (p:FV)|bk (env:aP)|ct (env:aP)
mutual
noncomputable def oQ:IS->List Nat
 |.expr (.met .append (.var i) _)=>[i]
 |.expr (.met .extend (.var i) _)=>[i]
 |.g9 (.var i) _ _=>[i]
 |.setF _ (.sdef (.var j) _ _) _ _=>[j]
 |.iff _ a b=>ig a++ig b
 |.for _ _ _ b=>ig b
 |.whl _ _ b=>ig b
 |_=>[]
noncomputable def ig:cE->List Nat
 |.nil=>[]
 |.cons s r=>oQ s++ig r
end
def stored:v9->List Nat
 |.one i=>[i]
 |.tup is=>is
mutual
noncomputable def lz:IS->List Nat
 |.asg p _=>stored p
 |.aug i _ _=>[i]
 |.setF i _ _ _=>[i]
 |.iff _ a b=>j6 a++j6 b
 |.for p _ _ b=>stored p++j6 b
 |.whl _ _ b=>j6 b
 |_=>[]
noncomputable def j6:cE->List Nat
 |.nil=>[]
 |.cons s r=>lz s++j6 r
end
def Rb:IE->Bool
 |.lst _=>true
 |.comp ..=>true
 |.slc ..=>true
 |.blt .list _=>true
 |.blt .sorted _=>true
 |.dct0=>true
 |.dct1 ..=>true
 |_=>false
def fN(body:Val->aP->Pr wD):List Val->aP->Pr wD
 |[],env=>.ok (.nx env)
 | x::r,env=>pb (body x env) λf=>match f with
  |.nx env'=>fN body r env'
  |.ct env'=>fN body r env'
  |.bk env'=>.ok (.nx env')
  |.rt p=>.ok (.rt p)
def Sk:Mk->Mk
 |.ow=>.sh
 |m=>m
def Sl:Option (Mk×Val)->Option (Mk×Val)
 |none=>none
 |some (m,d)=>some (Sk m,d)
def qZ(env:aP):aP:=env.map Sl
def EO(env:aP):kg->Option (Val×Val)
 | .cons (.var i) #[.var j]=>match env[i]?,env[j]? with
  |some (some (.nw,d)),some (some (.nw,e))=>some (d,e)
  |_,_=>none
 |_=>none
def ES(Ψ:Nat->List Val->Pr FV)(es:kg)(env:aP):Pr FV:=match EO env es with
 |some p=>.ok (true,.tup [p.1,p.2])
 |none=>aX Ψ (.tup es) (qZ env)
def PU(Ψ:Nat->List Val->Pr FV)(e:IE)(env:aP):Pr FV:=match e with
 | .var i=>match env[i]? with
  | some (some (m,d))=>if pX m=true then .ok (j5 d||LR m,d) else match d with
   |.rl ds=>.ok (bR ds,.rl ds)
   |.dc ks ds=>.ok (bR ds,.dc ks ds)
   |_=>.no
  |_=>.no
 |.call j es=>aX Ψ (.call j es) (qZ env)
 |.tup es=>ES Ψ es env
 |e=>aX Ψ e env
def uD(p:v9)(it:kg)(body:cE):Bool:=match it with
 |.cons (.var i) .nil=>!(ig body).contains i && !(j6 body).contains i && !(stored p).contains i
 |_=>true
def LU:IE->Option (Nat×IE×IE)
 |.sdef (.var j) k z=>some (j,k,z)
 |_=>none
def PV(Ψ:Nat->List Val->Pr FV)(i j:Nat)(k z:IE)(env:aP):Pr wD:=match env[j]? with
 | some (some (.ow,.dc ks ds))=>pb (aX Ψ k env) λy=>pb (pl (keyOf y.2)) λkk=>pb (aX Ψ z env) λx=>pg (j5 x.2&&decide (ks.length<sizeLine)) (match bP (ks.zip ds) kk with
  |some v=>pg (j5 v) (.ok (.nx (env.set i (some (.sh,v)))))
  |none=>.ok (.nx ((env.set j (some (.ow,putD ks ds kk x.2))).set i (some (.sh,x.2)))))
 |_=>.no
mutual
noncomputable def bL(Ψ:Nat->List Val->Pr FV)(ms:List Nat):IS->aP->Pr wD
 | .expr e,env=>match e with
  | .met .append (.var i) #[a]=>match env[i]? with
   |some (some (.ow,.rl ds))=>pb (aX Ψ a env) λx=>pg (decide (ds.length<sizeLine)) (.ok (.nx (env.set i (some (.ow,.rl (ds++[x.2]))))))
   |_=>.no
  | .met .extend (.var i) #[a]=>match env[i]? with
   | some (some (.ow,.rl ds))=>pb (aX Ψ a env) λx=>match x.2 with
    |.tup vs=>pg (decide (ds.length+vs.length<=sizeLine)) (.ok (.nx (env.set i (some (.ow,.rl (ds++vs))))))
    |_=>.no
   |_=>.no
  |e=>pb (aX Ψ e env) λ_=>.ok (.nx env)
 | .asg p e,env=>match p with
  | .one i=>if ms.contains i=true then pg (Rb e) (pb (aX Ψ e env) λx=>match x.2 with
    |.rl ds=>.ok (.nx (env.set i (some (.ow,.rl ds))))
    |.dc ks ds=>.ok (.nx (env.set i (some (.ow,.dc ks ds))))
    |_=>.no) else pb (aX Ψ e env) λx=>.ok (.nx (env.set i (some (fc x.1 x.2,x.2))))
  |.tup is=>pg (is.all λi=>!ms.contains i) (pb (aX Ψ e env) λx=>pb (pl (cQ (.tup is) x.2 env)) λenv'=>.ok (.nx env'))
 |.aug _ _ _,_=>.no
 | .g9 o i v,env=>match o with
  | .var j=>pb (aX Ψ v env) λx=>match env[j]? with
   |some (some (.ow,.rl ds))=>pb (aX Ψ i env) λz=>pb (pl (gh z.2)) λk=>pb (pl (tH ds.length k)) λn=>.ok (.nx (env.set j (some (.ow,.rl (ds.set n x.2)))))
   |some (some (.ow,.dc ks ds))=>pb (aX Ψ i env) λz=>pb (pl (keyOf z.2)) λk=>pg (decide (ks.length<sizeLine)) (.ok (.nx (env.set j (some (.ow,putD ks ds k x.2)))))
   |_=>.no
  |_=>.no
 |.iff c a b,env=>pb (LS Ψ c env) λx=>pb (pl (cC [] x.2)) λt=>if t=true then aU Ψ ms a env else aU Ψ ms b env
 |.for p k it body,env=>pg (uD p it body&&(stored p).all λi=>!ms.contains i) (pb (fH Ψ it env) λits=>pb (pl (gx k its)) λxs=>
   fN (λx env=>pb (pl (cQ p x env)) λenv'=>aU Ψ ms body env') xs env)
 |.whl _ _ _,_=>.no
 |.ret e,env=>pb (PU Ψ e env) λp=>.ok (.rt p)
 |.Bp,_=>.ok (.rt (true,.non))
 |.brk,env=>.ok (.bk env)
 |.cnt,env=>.ok (.ct env)
 |.pass,env=>.ok (.nx env)
 |.never,_=>.no
 | .setF i a _ _,env=>match LU a with
  |some y=>pg (!ms.contains i&&decide (i≠y.1)) (PV Ψ i y.1 y.2.1 y.2.2 env)
  |none=>.no
noncomputable def aU(Ψ:Nat->List Val->Pr FV)(ms:List Nat):cE->aP->Pr wD
 |.nil,env=>.ok (.nx env)
 | .cons s r,env=>pb (bL Ψ ms s env) λf=>match f with
  |.nx env'=>aU Ψ ms r env'
  |f=>.ok f
end
def cF(Ψ:Nat->List Val->Pr FV)(n:Nat)(body:cE)(ds:List Val):Pr FV :=
 pb (aU Ψ (ig body) body (ds.map (λd=>some (.sh,d))++replicate (n-ds.length) none)) λf=>match f with
  |.nx _=>.ok (true,.non)
  |.rt p=>.ok p
  |_=>.no
abbrev AP:=Option Nat->Prop
def Fr(n:Nat):AP:=λo=>match o with
 |none=>False
 |some k=>n<=k
theorem Fr.le{n m:Nat}(h:n<=m):∀o,Fr m o->Fr n o
 |none,e=>e
 |some k,e=>WZ h e
mutual
noncomputable def Dn(A:AP)(h:Hs):Val->Val->Prop
 |.non,v=>v=.non
 |.bl b,v=>v=.bl b
 |.int i,v=>v=.int i
 |.str x,v=>v=.str x
 |.tup ds,v=>∃vs,v=.tup vs/\av A h ds vs
 |.rl ds,v=>(∃vs,v=.rl vs/\A none/\av A h ds vs)\/∃i vs,v=.ref i/\A (some i)/\h[i]?=some (.lst vs)/\av A h ds vs
 |.dc ks ds,v=>∃i kvs,v=.ref i/\A (some i)/\h[i]?=some (.dct kvs)/\kvs.map (·.1)=ks/\av A h ds (kvs.map (·.2))
 |.ob c xs ds,v=>∃i fs,v=.ref i/\A (some i)/\h[i]?=some (.ins c fs)/\fs.map (·.1)=xs/\av A h ds (fs.map (·.2))
 |.ref _,_=>False
noncomputable def av(A:AP)(h:Hs):List Val->List Val->Prop
 |[],vs=>vs=[]
 |d::ds,vs=>∃v r,vs=v::r/\Dn A h d v/\av A h ds r
end
section
variable {A A':AP} {h h' h1:Hs}
mutual
theorem Dn.mono(hA:∀i,A i->A' i)(hh:∀(i:Nat) (o:Ob),A (some i)->h[i]?=some o->h'[i]?=some o):∀(d v:Val),Dn A h d v->Dn A' h' d v
 |.non,v,e=>by rw[Dn]at e |-;exact e
 |.bl _,v,e=>by rw[Dn]at e |-;exact e
 |.int _,v,e=>by rw[Dn]at e |-;exact e
 |.str _,v,e=>by rw[Dn]at e |-;exact e
 | .tup ds,v,e=>by
  rw[Dn]at e |-;obtain⟨vs,rfl,q⟩:=e;exact⟨vs,rfl,av.mono hA hh ds vs q⟩
 | .rl ds,v,e=>by
  rw[Dn]at e |-
  rcases e with ⟨vs,rfl,n,q⟩|⟨i,vs,rfl,a,g,q⟩
  ·exact .inl ⟨vs,rfl,hA _ n,av.mono hA hh ds vs q⟩
  ·exact .inr ⟨i,vs,rfl,hA _ a,hh i _ a g,av.mono hA hh ds vs q⟩
 | .dc ks ds,v,e=>by
  rw[Dn]at e |-;obtain⟨i,kvs,rfl,a,g,k,q⟩:=e;exact⟨i,kvs,rfl,hA _ a,hh i _ a g,k,av.mono hA hh ds _ q⟩
 | .ob c xs ds,v,e=>by
  rw[Dn]at e |-;obtain⟨i,kvs,rfl,a,g,k,q⟩:=e;exact⟨i,kvs,rfl,hA _ a,hh i _ a g,k,av.mono hA hh ds _ q⟩
 |.ref _,v,e=>by rw[Dn]at e;exact e.elim
theorem av.mono(hA:∀i,A i->A' i)(hh:∀(i:Nat) (o:Ob),A (some i)->h[i]?=some o->h'[i]?=some o):∀(ds vs:List Val),av A h ds vs->av A' h' ds vs
 |[],vs,e=>by rw[av]at e |-;exact e
 | d::ds,vs,e=>by
  rw[av]at e |-;obtain⟨v,r,rfl,q1,q2⟩:=e;exact⟨v,r,rfl,Dn.mono hA hh d v q1,av.mono hA hh ds r q2⟩
end
theorem bx{i:Nat}(p:h<+:h')(e:h[i]?=some o):h'[i]?=some o:=by
 obtain⟨t,rfl⟩:=p;have hi:i<h.length:=(Wo.mp e).1;rw[WE hi];exact e
theorem Dn.ext(p:h<+:h')(e:Dn A h d v):Dn A h' d v:=Dn.mono (λ_ a=>a) (λ_ _ _ q=>bx p q) d v e
theorem av.ext(p:h<+:h')(e:av A h d v):av A h' d v:=av.mono (λ_ a=>a) (λ_ _ _ q=>bx p q) d v e
theorem Dn.dH(hA:∀i,A i->A' i)(e:Dn A h d v):Dn A' h d v:=Dn.mono hA (λ_ _ _ q=>q) d v e
theorem av.dH(hA:∀i,A i->A' i)(e:av A h d v):av A' h d v:=av.mono hA (λ_ _ _ q=>q) d v e
mutual
theorem gj:∀(d v:Val),j5 d=true->(Dn A h d v↔v=d)
 |.non,v,_=>by rw[Dn]
 |.bl _,v,_=>by rw[Dn]
 |.int _,v,_=>by rw[Dn]
 |.str _,v,_=>by rw[Dn]
 | .tup ds,v,e=>by
  rw[j5]at e;rw[Dn];constructor
  ·rintro⟨vs,rfl,q⟩;rw[(bq ds vs e).mp q]
  ·rintro rfl;exact⟨ds,rfl,(bq ds ds e).mpr rfl⟩
 |.rl _,v,e=>by rw[j5]at e;cases e
 |.dc _ _,v,e=>by rw[j5]at e;cases e
 |.ob _ _ _,v,e=>by rw[j5]at e;cases e
 |.ref _,v,e=>by rw[j5]at e;cases e
theorem bq:∀(ds vs:List Val),bR ds=true->(av A h ds vs↔vs=ds)
 |[],vs,_=>by rw[av]
 | d::ds,vs,e=>by
  rw[bR,X8]at e;rw[av];constructor
  ·rintro⟨v,r,rfl,q1,q2⟩;rw[(gj d v e.1).mp q1,(bq ds r e.2).mp q2]
  ·rintro rfl;exact⟨d,ds,rfl,(gj d d e.1).mpr rfl,(bq ds ds e.2).mpr rfl⟩
end
theorem av.nil:av A h [] []:=by rw[av]
theorem av.cons{d v:Val}{ds vs:List Val}(a:Dn A h d v)(b:av A h ds vs):av A h (d::ds) (v::vs):=by rw[av];exact⟨v,vs,rfl,a,b⟩
theorem av.length:∀{ds vs:List Val},av A h ds vs->ds.length=vs.length
 |[],vs,e=>by rw[av]at e;subst e;rfl
 |d::ds,vs,e=>by rw[av]at e;obtain⟨v,r,rfl,_,q⟩:=e;simp[av.length q]
theorem av.get:∀{ds vs:List Val} {i:Nat} {d:Val},av A h ds vs->ds[i]?=some d->∃v,vs[i]?=some v/\Dn A h d v
 |[],vs,i,d,e,q=>by simp at q
 | c::ds,vs,0,d,e,q=>by
  rw[av]at e;obtain⟨v,r,rfl,a,_⟩:=e;simp at q;subst q;exact⟨v,rfl,a⟩
 | c::ds,vs,i+1,d,e,q=>by
  rw[av]at e;obtain⟨v,r,rfl,_,b⟩:=e;simp at q;obtain⟨w,q1,q2⟩:=av.get b q;exact⟨w,by simpa using q1,q2⟩
theorem av.append:∀{ds es vs ws:List Val},av A h ds vs->av A h es ws->av A h (ds++es) (vs++ws)
 |[],es,vs,ws,e,q=>by rw[av]at e;subst e;exact q
 | d::ds,es,vs,ws,e,q=>by
  rw[av]at e;obtain⟨v,r,rfl,a,b⟩:=e;exact av.cons a (av.append b q)
theorem av.take:∀{ds vs:List Val} (n:Nat),av A h ds vs->av A h (ds.take n) (vs.take n)
 |_,_,0,_=>by simp;exact av.nil
 |[],vs,n+1,e=>by rw[av]at e;subst e;simp;exact av.nil
 | d::ds,vs,n+1,e=>by
  rw[av]at e;obtain⟨v,r,rfl,a,b⟩:=e;exact av.cons a (av.take n b)
theorem av.drop:∀{ds vs:List Val} (n:Nat),av A h ds vs->av A h (ds.drop n) (vs.drop n)
 |_,_,0,e=>by simpa using e
 |[],vs,n+1,e=>by rw[av]at e;subst e;simp;exact av.nil
 | d::ds,vs,n+1,e=>by
  rw[av]at e;obtain⟨v,r,rfl,a,b⟩:=e;exact av.drop n b
theorem av.cut(lo hi:Option Int)(e:av A h ds vs):av A h (cU ds lo hi) (cU vs lo hi):=by
 unfold cU;rw[e.length];exact av.take _ (av.drop _ e)
theorem av.set:∀{ds vs:List Val} (n:Nat) {d v:Val},av A h ds vs->Dn A h d v->av A h (ds.set n d) (vs.set n v)
 |[],vs,n,d,v,e,q=>by rw[av]at e;subst e;simp;exact av.nil
 | c::ds,vs,0,d,v,e,q=>by
  rw[av]at e;obtain⟨w,r,rfl,a,b⟩:=e;exact av.cons q b
 | c::ds,vs,n+1,d,v,e,q=>by
  rw[av]at e;obtain⟨w,r,rfl,a,b⟩:=e;exact av.cons a (av.set n b q)
theorem av.gA{i:Int}(e:av A h ds vs)(q:L2.gA ds i=some d):∃v,L2.gA vs i=some v/\Dn A h d v:=by
 unfold L2.gA at q |-;rw[e.length]at q;cases hi:L2.tH vs.length i with
 |none=>rw[hi]at q;cases q
 |some n=>rw[hi]at q;exact av.get e q
def OD(A:AP)(h:Hs)(d:Val)(a:Nat):Prop:=match d with
 |.rl ds=>∃vs,h[a]?=some (.lst vs)/\av A h ds vs
 |.dc ks ds=>∃kvs,h[a]?=some (.dct kvs)/\kvs.map (·.1)=ks/\av A h ds (kvs.map (·.2))
 |_=>False
theorem OD.mono{a:Nat}(e:OD A h d a)(ho:∀o,h[a]?=some o->h'[a]?=some o)(hq:∀ds vs,av A h ds vs->av A' h' ds vs):OD A' h' d a:=by
 cases d with
 |rl ds=>obtain⟨vs,g,q⟩:=e;exact⟨vs,ho _ g,hq _ _ q⟩
 |dc ks ds=>obtain⟨kvs,g,k,q⟩:=e;exact⟨kvs,ho _ g,k,hq _ _ q⟩
 |_=>exact False.elim e
theorem OD.ext{a:Nat}(p:h<+:h')(e:OD A h d a):OD A h' d a:=e.mono (λ_ g=>bx p g) λ_ _ q=>q.ext p
theorem OD.lt{a:Nat}(e:OD A h d a):a<h.length:=by
 cases d with
 |rl ds=>obtain⟨vs,g,q⟩:=e;exact(Wo.mp g).1
 |dc ks ds=>obtain⟨kvs,g,k,q⟩:=e;exact(Wo.mp g).1
 |_=>exact False.elim e
theorem OD.dn{a:Nat}(e:OD A h d a)(ha:A (.some a)):Dn A h d (.ref a):=by
 cases d with
 |rl ds=>obtain⟨vs,g,q⟩:=e;rw[Dn];exact .inr ⟨a,vs,rfl,ha,g,q⟩
 |dc ks ds=>obtain⟨kvs,g,k,q⟩:=e;rw[Dn];exact⟨a,kvs,rfl,ha,g,k,q⟩
 |_=>exact False.elim e
def OB(A:AP)(h:Hs)(d:Val)(o:Ob):Prop:=match d with
 |.rl ds=>∃vs,o=.lst vs/\av A h ds vs
 |.dc ks ds=>∃kvs,o=.dct kvs/\kvs.map (·.1)=ks/\av A h ds (kvs.map (·.2))
 |_=>False
theorem OB.od{a:Nat}(e:OB A h d o)(g:h'[a]?=.some o)(hq:∀ds vs,av A h ds vs->av A' h' ds vs):OD A' h' d a:=by
 cases d with
 |rl ds=>obtain⟨vs,rfl,q⟩:=e;exact⟨vs,g,hq _ _ q⟩
 |dc ks ds=>obtain⟨kvs,rfl,k,q⟩:=e;exact⟨kvs,g,k,hq _ _ q⟩
 |_=>exact False.elim e
def DB(A:AP)(h:Hs)(d v:Val):Prop:=Dn A h d v\/∃i,v=.ref i/\OD A h d i
theorem DB.all(e:DB A h d v):Dn (λ_=>True) h d v:=by
 rcases e with e|⟨i,rfl,q⟩
 ·exact e.dH λ_ _=>trivial
 ·exact(q.mono (A':=λ_=>True) (λ_ g=>g) λ_ _ z=>z.dH λ_ _=>trivial).dn trivial
theorem DB.ext(p:h<+:h')(e:DB A h d v):DB A h' d v:=by
 rcases e with e|⟨i,rfl,q⟩
 ·exact .inl (e.ext p)
 ·exact .inr ⟨i,rfl,q.ext p⟩
theorem DB.dc(e:DB A h (.dc ks ds) v):∃i kvs,v=.ref i/\h[i]?=some (.dct kvs)/\kvs.map (·.1)=ks/\av A h ds (kvs.map (·.2)):=by
 rcases e with e|⟨i,rfl,kvs,g,k,q⟩
 ·rw[Dn]at e;obtain⟨i,kvs,rfl,_,g,k,q⟩:=e;exact⟨i,kvs,rfl,g,k,q⟩
 ·exact⟨i,kvs,rfl,g,k,q⟩
theorem DB.lst(e:DB A h (.rl ds) v):∃vs,aF h v=some vs/\av A h ds vs:=by
 rcases e with e|⟨i,rfl,vs,g,q⟩
 ·rw[Dn]at e
  rcases e with ⟨vs,rfl,_,q⟩|⟨i,vs,rfl,_,g,q⟩
  ·exact⟨vs,rfl,q⟩
  ·exact⟨vs,by simp[aF,g],q⟩
 ·exact⟨vs,by simp[aF,g],q⟩
theorem DB.seq(e:DB A h d v)(q:cP [] d=some ds):∃vs,cP h v=some vs/\av A h ds vs:=by
 cases d with
 |tup es=>
  simp only[cP]at q;cases q
  rcases e with e|⟨_,_,e1⟩
  ·rw[Dn]at e;obtain⟨vs,rfl,q⟩:=e;exact⟨vs,rfl,q⟩
  ·exact False.elim e1
 |rl es=>simp only[cP,aF]at q;cases q;obtain⟨vs,q1,q2⟩:=e.lst;refine⟨vs,?_,q2⟩;cases v<;>first|(simp[aF]at q1;done)|exact q1
 |ref i=>simp[cP,aF]at q
 |_=>simp[cP,aF]at q
theorem DB.int{i:Int}(e:DB A h (.int i) v):v=.int i:=by
 rcases e with e|⟨_,_,e1⟩
 ·rw[Dn]at e;exact e
 ·exact False.elim e1
theorem DB.str(e:DB A h (.str i) v):v=.str i:=by
 rcases e with e|⟨_,_,e1⟩
 ·rw[Dn]at e;exact e
 ·exact False.elim e1
theorem DB.bl{i:Bool}(e:DB A h (.bl i) v):v=.bl i:=by
 rcases e with e|⟨_,_,e1⟩
 ·rw[Dn]at e;exact e
 ·exact False.elim e1
theorem DB.tup(e:DB A h (.tup ds) v):∃vs,v=.tup vs/\av A h ds vs:=by
 rcases e with e|⟨_,_,e1⟩
 ·rw[Dn]at e;exact e
 ·exact False.elim e1
theorem sd:∀(n:Nat) (d v:Val) (p:PyData),Dn (λ_=>True) h d v->toD n [] d=some p->toD n h v=some p:=by
 intro n
 induction n with
 |zero=>intro d v p _ e;simp[toD]at e
 |succ n ih=>
  have all:∀(ds vs:List Val) (ps:List PyData),av (λ_=>True) h ds vs->cJ (toD n []) ds=some ps->cJ (toD n h) vs=some ps:=by
   intro ds
   induction ds with
   |nil=>intro vs ps q e;rw[av]at q;subst q;exact e
   |cons d ds UG=>intro vs ps q e;rw[av]at q;obtain⟨v,r,rfl,q1,q2⟩:=q;simp only[cJ]at e |-;obtain⟨x,e1,e⟩:=Wn.mp e;obtain⟨xs,e2,e⟩:=Wn.mp e;rw[ih d v x q1 e1,UG r xs q2 e2];exact e
  intro d v p q e;cases d with
  |non=>rw[Dn]at q;subst q;exact e
  |bl b=>rw[Dn]at q;subst q;exact e
  |int b=>rw[Dn]at q;subst q;exact e
  |str b=>rw[Dn]at q;subst q;exact e
  |tup ds=>rw[Dn]at q;obtain⟨vs,rfl,q⟩:=q;simp only[toD]at e |-;obtain⟨ps,e1,e⟩:=Wn.mp e;rw[all ds vs ps q e1];exact e
  |rl ds=>
   rw[Dn]at q;simp only[toD]at e;obtain⟨ps,e1,e⟩:=Wn.mp e
   rcases q with ⟨vs,rfl,_,q⟩|⟨i,vs,rfl,_,g,q⟩
   ·simp only[toD];rw[all ds vs ps q e1];exact e
   ·simp only[toD,aF,g,bind_some];rw[all ds vs ps q e1];exact e
  |dc ks ds=>simp[toD]at e
  |ob c xs ds=>simp[toD]at e
  |ref i=>rw[Dn]at q;exact q.elim
theorem GN{b:Bool}(a:DB A h d v)(c:DB A h e w)(q:xP [] d e=some b):xP h v w=some b:=by
 unfold xP at q |-;obtain⟨x,e1,q⟩:=Wn.mp q;obtain⟨y,e2,q⟩:=Wn.mp q;rw[sd 16 d v x a.all e1,sd 16 e w y c.all e2];exact q
theorem B4(a:DB A h d v):k7 v=k7 d:=by
 rcases a with a|⟨i,rfl,q⟩
 ·cases d<;>rw[Dn]at a
  ·subst a;rfl
  ·subst a;rfl
  ·subst a;rfl
  ·subst a;rfl
  ·obtain⟨vs,rfl,_⟩:=a;rfl
  ·rcases a with ⟨vs,rfl,_⟩|⟨i,vs,rfl,_⟩<;>rfl
  ·obtain⟨i,kvs,rfl,_⟩:=a;rfl
  ·obtain⟨i,kvs,rfl,_⟩:=a;rfl
  ·exact a.elim
 ·cases d<;>first|exact False.elim q|rfl
theorem B5{b:Bool}(a:DB A h d v)(c:DB A h e w)(q:uc [] d e=some b):uc h v w=some b:=by
 have data:memD [] d e=some b->memD h v w=some b:=λq=>by
  unfold memD at q |-;obtain⟨x,e1,q⟩:=Wn.mp q;obtain⟨y,e2,q⟩:=Wn.mp q;rw[sd 16 e w x c.all e1,sd 16 d v y a.all e2];exact q
 exact data q
theorem B6{b:Bool}(a:DB A h d v)(c:DB A h e w)(q:Gv d e=some b):Gv v w=some b:=by
 cases e<;>first|(cases q;done)|skip
 ·have:w=.non:=by
   rcases c with c|⟨_,_,e1⟩
   ·rw[Dn]at c;exact c
   ·exact False.elim e1
  subst this;show some (k7 v)=_;rw[B4 a];exact q
 ·have:=c.bl;subst this
  cases d<;>first|(cases q;done)|skip
  have:=a.bl;subst this;exact q
theorem Kc{b:Bool}(a:DB A h d v)(c:DB A h e w)(q:cop [] o d e=some b):cop h o v w=some b:=by
 cases o with
 |eq=>exact GN a c q
 |ne=>obtain⟨x,e1,e2⟩:=WW.mp (show (xP [] d e).map _=some b from q);show (xP h v w).map _=_;rw[GN a c e1];exact Xf some e2
 |isn=>exact B6 a c q
 |ntn=>obtain⟨x,e1,e2⟩:=WW.mp (show (Gv d e).map _=some b from q);show (Gv v w).map _=_;rw[B6 a c e1];exact Xf some e2
 |IT=>exact B5 a c q
 |nin=>obtain⟨x,e1,e2⟩:=WW.mp (show (uc [] d e).map _=some b from q);show (uc h v w).map _=_;rw[B5 a c e1];exact Xf some e2
 |lt=>obtain⟨i,j,rfl,rfl⟩:=ji (.inl rfl) q;have:=a.int;subst this;have:=c.int;subst this;exact q
 |le=>obtain⟨i,j,rfl,rfl⟩:=ji (.inr (.inl rfl)) q;have:=a.int;subst this;have:=c.int;subst this;exact q
 |gt=>obtain⟨i,j,rfl,rfl⟩:=ji (.inr (.inr (.inl rfl))) q;have:=a.int;subst this;have:=c.int;subst this;exact q
 |ge=>obtain⟨i,j,rfl,rfl⟩:=ji (.inr (.inr (.inr rfl))) q;have:=a.int;subst this;have:=c.int;subst this;exact q
theorem se{b:Bool}(a:DB A h d v)(q:cC [] d=some b):cC h v=some b:=by
 cases d with
 |rl ds=>
  obtain⟨vs,q1,q2⟩:=a.lst;have l:=q2.length;have e:(!ds.isEmpty) = !vs.isEmpty:=by cases ds<;>cases vs<;>simp_all
  simp only[cC]at q;rw[e]at q;cases v<;>simp only[aF]at q1<;>first|(cases q1;done)|skip
  ·cases q1;exact q
  ·split at q1<;>cases q1;rename_i g;simp only[cC,g];exact q
 |tup ds=>
  obtain⟨vs,rfl,q2⟩:=a.tup;have l:=q2.length;have e:(!ds.isEmpty) = !vs.isEmpty:=by cases ds<;>cases vs<;>simp_all
  simp only[cC]at q |-;rw[<-e];exact q
 |dc ks ds=>obtain⟨i,kvs,rfl,g,hk,_⟩:=a.dc;subst hk;simp only[cC,g]at q |-;rw[<-q];cases kvs<;>rfl
 |ob c xs ds=>cases q
 |ref i=>
  rcases a with a|⟨_,_,e1⟩
  ·rw[Dn]at a;exact a.elim
  ·exact False.elim e1
 |non=>
  rcases a with a|⟨_,_,e1⟩
  ·rw[Dn]at a;subst a;exact q
  ·exact False.elim e1
 |bl b=>have:=a.bl;subst this;exact q
 |int b=>have:=a.int;subst this;exact q
 |str b=>have:=a.str;subst this;exact q
theorem Kd{n:Nat}(a:DB A h d v)(q:k8 [] d=some n):k8 h v=some n:=by
 cases d with
 |rl ds=>
  obtain⟨vs,q1,q2⟩:=a.lst;have l:=q2.length;simp only[k8]at q;rw[l]at q;cases v<;>simp only[aF]at q1<;>first|(cases q1;done)|skip
  ·cases q1;exact q
  ·split at q1<;>cases q1;rename_i g;simp only[k8,g];exact q
 |tup ds=>obtain⟨vs,rfl,q2⟩:=a.tup;simp only[k8]at q |-;rw[<-q2.length];exact q
 |dc ks ds=>obtain⟨i,kvs,rfl,g,hk,_⟩:=a.dc;subst hk;simp only[k8,g]at q |-;rw[<-q];simp
 |str b=>have:=a.str;subst this;exact q
 |_=>simp[k8]at q
theorem NI{t:String}(a:DB A h d v)(q:zy [] d=some t):zy h v=some t:=by
 cases d with
 |rl ds=>
  obtain⟨vs,q1,q2⟩:=a.lst;cases v<;>simp only[aF]at q1<;>first|(cases q1;done)|skip
  ·exact q
  ·split at q1<;>cases q1;rename_i g;simp only[zy,g];exact q
 |tup ds=>obtain⟨vs,rfl,q2⟩:=a.tup;exact q
 |dc ks ds=>obtain⟨i,kvs,rfl,g,hk,_⟩:=a.dc;simp only[zy,g]at q |-;exact q
 |ob c xs ds=>cases q
 |ref i=>
  rcases a with a|⟨_,_,e1⟩
  ·rw[Dn]at a;exact a.elim
  ·exact False.elim e1
 |non=>
  rcases a with a|⟨_,_,e1⟩
  ·rw[Dn]at a;subst a;exact q
  ·exact False.elim e1
 |bl b=>have:=a.bl;subst this;exact q
 |int b=>have:=a.int;subst this;exact q
 |str b=>have:=a.str;subst this;exact q
theorem lA:∀{kvs:List (Key×Val)} {ks:List Key} {ds:List Val} {z:Val},kvs.map (·.1)=ks->av A h ds (kvs.map (·.2))->bP (ks.zip ds) k=some z->∃v,bP kvs k=some v/\Dn A h z v
 |[],ks,ds,z,hk,q,e=>by subst hk;simp[bP]at e
 | (k',v')::kvs,ks,ds,z,hk,q,e=>by
  subst hk;have l:=q.length;cases ds with
  |nil=>simp at l
  |cons d ds=>
   simp only[map_cons]at q;rw[av]at q;obtain⟨v,r,e1,q1,q2⟩:=q;cases e1
   by_cases hkk:k'=k
   ·subst hkk;simp[bP]at e |-;subst e;exact q1
   ·have e':bP ((kvs.map (·.1)).zip ds) k=some z:=by simpa [bP,hkk] using e
    obtain⟨w,a1,a2⟩:=lA rfl q2 e';exact⟨w,by simpa [bP,hkk] using a1,a2⟩
theorem DB.qN{j:Nat}(c:DB A h (.ref j) v):False:=by
 rcases c with c|⟨_,_,e1⟩
 ·rw[Dn]at c;exact c
 ·exact e1
theorem sf:∀{kvs:List (Key×Val)} {ds:List Val},av A h ds (kvs.map (·.2))->bP ((kvs.map (·.1)).zip ds) k=none->bP kvs k=none
 |[],ds,q,e=>rfl
 | (k',v')::kvs,ds,q,e=>by
  cases ds with
  |nil=>rw[av]at q;cases q
  |cons d ds=>
   rw[WI,av]at q;obtain⟨v,r,eq,q1,q2⟩:=q;cases eq;unfold bP at e |-;rw[WI,zip_cons_cons,YZ]at e;rw[YZ]
   by_cases hk:k'=k
   ·simp[hk]at e
   ·simp only[hk,decide_false]at e |-;exact sf q2 e
theorem wG(a:Dn A h d v)(e:keyOf d=some kk):keyOf v=some kk:=by
 cases d<;>first|(cases e;done)|skip
 ·rw[Dn]at a;subst a;exact e
 ·rw[Dn]at a;subst a;exact e
theorem Ke(a:DB A h o v)(e:zx [] o k=some r):∃r',zx h v k=some r'/\∀z z',Dn A h z z'->Dn A h (r.getD z) (r'.getD z'):=by
 cases o<;>first|(cases e;done)|(exact(DB.qN a).elim)|skip
 rename_i ks ds;obtain⟨i,kvs,rfl,g,hk,q⟩:=a.dc;cases e;have eg:zx h (.ref i) k=some (bP kvs k):=by show (match h[i]? with|some (.dct kvs)=>some (bP kvs k)|_=>none)=_;rw[g]
 refine⟨_,eg,λz z' hz=>?_⟩;cases ev:bP (ks.zip ds) k with
 |none=>subst hk;rw[sf q ev];exact hz
 |some d=>obtain⟨u,e1,e2⟩:=lA hk q ev;rw[e1];exact e2
theorem B7(a:DB A h o v)(e:ud [] o=some ks):ud h v=some ks:=by
 cases o<;>first|(cases e;done)|(exact(DB.qN a).elim)|skip
 obtain⟨i,kvs,rfl,g,hk,q⟩:=a.dc;cases e;show (match h[i]? with|some (.dct kvs)=>some (kvs.map (λkv:Key×Val=>kv.1))|_=>none)=_;rw[g];exact Xf some hk
theorem lC:∀ks:List Key,bR (ks.map Bq)=true
 |[]=>rfl
 |.inl _::ks=>by rw[WI,bR,lC ks];rfl
 |.inr _::ks=>by rw[WI,bR,lC ks];rfl
theorem ET{u:Unit}(a:DB A h o v)(e:rY [] o=some u):rY h v=some u:=by
 cases o<;>first|(cases e;done)|(exact(DB.qN a).elim)|skip
 obtain⟨i,kvs,rfl,g,hk,q⟩:=a.dc;show (match h[i]? with|some (.dct _)=>some ()|_=>none)=_;rw[g]
theorem Kf(a:DB A h d v)(c:Dn A h e w)(q:jf [] d e=some z):∃u,jf h v w=some u/\Dn A h z u:=by
 cases e with
 |int i=>
  rw[Dn]at c;subst c;cases d with
  |str x=>
   have:=a.str;subst this;refine⟨z,q,?_⟩;change (if x.length<=sizeLine then (gA x.cps.toList i).map (λc=>Val.str ⟨[c].toArray⟩) else none)=some z at q;split at q
   ·obtain⟨c,_,rfl⟩:=WW.mp q;rw[Dn]
   ·cases q
  |tup ds=>obtain⟨vs,rfl,q2⟩:=a.tup;exact q2.gA q
  |rl ds=>
   obtain⟨vs,q1,q2⟩:=a.lst;obtain⟨u,q3,q4⟩:=q2.gA q;refine⟨u,?_,q4⟩;cases v<;>simp only[aF]at q1<;>first|(cases q1;done)|skip
   ·cases q1;exact q3
   ·split at q1<;>cases q1;rename_i g;unfold jf;simp only[aF,g,bind_some];exact q3
  |dc ks ds=>obtain⟨i',kvs,rfl,g,hk,q2⟩:=a.dc;obtain⟨u,q3,q4⟩:=lA hk q2 q;refine⟨u,?_,q4⟩;show (match h[i']? with|some (.dct kvs)=>bP kvs (.inl i)|_=>(aF h (.ref i')).bind λxs=>gA xs i)=_;rw[g];exact q3
  |ref j=>exact(DB.qN a).elim
  |_=>cases q
 |str x=>
  rw[Dn]at c;subst c;cases d with
  |dc ks ds=>obtain⟨i',kvs,rfl,g,hk,q2⟩:=a.dc;obtain⟨u,q3,q4⟩:=lA hk q2 q;refine⟨u,?_,q4⟩;show (match h[i']? with|some (.dct kvs)=>bP kvs (.inr x)|_=>none)=_;rw[g];exact q3
  |ref j=>exact(DB.qN a).elim
  |_=>cases q
 |_=>cases d<;>first|(cases q;done)|exact(DB.qN a).elim
end
def Up(A:AP)(h:Hs):Prop:=∀k,h.length<=k->A (some k)
def Rel(A:AP)(h:Hs){α β:Type}(R:α -> Hs -> β -> Prop)(o:Out β):Pr α -> Prop
 |.ok a=>∃b h',o=.ok b h'/\h<+:h'/\R a h' b
 |.exc c es=>∃ws h',o=.exc c ws h'/\h<+:h'/\av A h' es ws
 |.no=>True
def RV(A:AP)(h:Hs):FV->Hs->Val->Prop:=λx h' v=>Dn A h' x.2 v/\(x.1=true->Dn (Fr h.length) h' x.2 v)
def UH(A:AP)(h:Hs):Bool×List Val->Hs->List Val->Prop:=λx h' v=>av A h' x.2 v/\(x.1=true->av (Fr h.length) h' x.2 v)
def Rc(A:AP):FV->Hs->Val->Prop:=λx h' v=>DB A h' x.2 v
def EU(A:AP)(h:Hs):List Val->List Val->Prop
 |[],vs=>vs=[]
 |d::ds,vs=>∃v r,vs=v::r/\DB A h d v/\EU A h ds r
def ER(A:AP)(aa:aP)(env:Env)(h:Hs):Prop:=∀(i:Nat) (f:Mk) (d:Val),aa[i]?=some (some (f,d)) ->
 if pX f=false then ∃a,env[i]?=some (some (.ref a))/\OD A h d a else ∃v,env[i]?=some (some v)/\Dn A h d v
section
variable {A:AP} {h h1:Hs} {α β γ δ:Type}
theorem Up.ext(u:Up A h)(p:h<+:h1):Up A h1:=λk hk=>u k (WZ p.length_le hk)
theorem ER.ext(e:ER A aa env h)(p:h<+:h1):ER A aa env h1:=λi f d q=>by
 have:=e i f d q;revert this;generalize pX f=t;intro this;cases t with
 |false=>rw[Wu rfl]at this |-;obtain⟨a,k2,k3⟩:=this;exact⟨a,k2,k3.ext p⟩
 |true=>rw[Wt (by decide)]at this |-;obtain⟨v,k1,k2⟩:=this;exact⟨v,k1,k2.ext p⟩
theorem ai(r:Rel A h R (m h) p)(k:∀a h1 b,h<+:h1->R a h1 b->Rel A h1 R' (f b h1) (F a)):Rel A h R' (bnd m f h) (pb p F):=by
 unfold bnd;cases p with
 |ok a=>
  obtain⟨b,h1,e,q,r⟩:=r;rw[e];show Rel A h R' (f b h1) (F a);have:=k a h1 b q r;cases e2:F a with
  |ok c=>rw[e2]at this;obtain⟨d,h2,e3,q2,r2⟩:=this;exact⟨d,h2,e3,q.trans q2,r2⟩
  |exc c es=>rw[e2]at this;obtain⟨d,h2,e3,q2,r2⟩:=this;exact⟨d,h2,e3,q.trans q2,r2⟩
  |no=>trivial
 |exc c es=>obtain⟨ws,h1,e,q,r⟩:=r;rw[e];exact⟨ws,h1,rfl,q,r⟩
 |no=>trivial
theorem aD(r:R a h b):Rel A h R (ret b h) (.ok a):=⟨b,h,rfl,WK _,r⟩
theorem bJ(r:∀a,o=some a->∃b,o'=some b/\R a h b):Rel A h R (bf o' h) (pl o):=by
 cases o with
 |none=>trivial
 |some a=>obtain⟨b,rfl,q⟩:=r a rfl;exact⟨b,h,rfl,WK _,q⟩
theorem cN(r:∀a,o=some a->∃b,f h=some b/\R a h b):Rel A h R (ask f h) (pl o):=bJ r
theorem bT{c c':Bool}(e:c=true->c'=true)(r:c=true->Rel A h R (m h) p):Rel A h R (aH c' m h) (pg c p):=by
 unfold aH pg;cases c with
 |true=>rw[Wu (e rfl),Wu rfl];exact r rfl
 |false=>rw[Wt Wm];trivial
theorem uE(r:Rel A h R o p)(k:∀a h' b,h<+:h'->R a h' b->R' a h' b):Rel A h R' o p:=by
 cases p with
 |ok a=>obtain⟨b,h',e,q,r⟩:=r;exact⟨b,h',e,q,k a h' b q r⟩
 |exc c es=>exact r
 |no=>trivial
theorem cY(o:Ob):h<+:h++[o]:=Xi _ _
theorem iu(o:Ob):(h++[o])[h.length]?=some o:=by simp
theorem gE{f:Bool}{h0:Hs}(u:Up A h)(p:h0<+:h)(q:av A h xs vs)(g:f=true->av (Fr h0.length) h xs vs):Rel A h (RV A h0) (new (.lst vs) h) (.ok (f,.rl xs)):=by
 refine⟨_,_,rfl,cY _,?_,λhf=>?_⟩
 ·show Dn A _ (.rl xs) _;rw[Dn];exact .inr ⟨_,vs,rfl,u _ (Wy _),iu _,q.ext (cY _)⟩
 ·show Dn _ _ (.rl xs) _;rw[Dn];exact .inr ⟨_,vs,rfl,p.length_le,iu _,(g hf).ext (cY _)⟩
theorem oR{h0:Hs}(q:Dn A h d v):RV A h0 (j5 d,d) h v:=⟨q,λhi=>(gj d v hi).mpr ((gj d v hi).mp q)⟩
theorem gk(q:av A h ds vs)(hi:bR ds=true):av A' h' ds vs:=(bq ds vs hi).mpr ((bq ds vs hi).mp q)
theorem gY{i:Int}{h0:Hs}{f:Bool}:RV A h0 (f,.int i) h (.int i):=⟨by rw[Dn],λ_=>by rw[Dn]⟩
theorem oS{i:Bool}{h0:Hs}{f:Bool}:RV A h0 (f,.bl i) h (.bl i):=⟨by rw[Dn],λ_=>by rw[Dn]⟩
theorem Kg{h0:Hs}{f:Bool}:RV A h0 (f,.str i) h (.str i):=⟨by rw[Dn],λ_=>by rw[Dn]⟩
theorem RV.br{h0:Hs}(r:RV A h0 x h v):Rc A x h v:=.inl r.1
theorem EW(ho:o≠.add)(v w:Val):(∃i j,v=.int i/\w=.int j)\/jU o v w=.no:=by
 cases v with
 |int i=>
  cases w with
  |int j=>exact .inl ⟨i,j,rfl,rfl⟩
  |_=>right;cases o<;>first|rfl|exact absurd rfl ho
 |_=>right;cases o<;>first|rfl|exact absurd rfl ho
theorem EY{h0:Hs}(u:Up A h)(p:h0<+:h)(a:DB A h d v)(c:DB A h e w):Rel A h (RV A h0) (LL o v w h) (jU o d e):=by
 have ii:o≠.add->(∃i j,d=.int i/\e=.int j)\/jU o d e=.no:=λho=>EW ho d e;cases o with
 |add=>
  cases d<;>cases e<;>first|trivial|skip
  ·have:=a.int;subst this;have:=c.int;subst this;exact aD gY
  ·have:=a.str;subst this;have:=c.str;subst this;exact bT (λz=>z) λ_=>aD Kg
  ·rename_i xs ys
   obtain⟨vs,rfl,q1⟩:=a.tup;obtain⟨ws,rfl,q2⟩:=c.tup;have l1:=q1.length;have l2:=q2.length;refine bT (λz=>?_) λ_=>aD ⟨?_,λhi=>?_⟩
   ·rw[l1,l2]at z
    have:xs.isEmpty=vs.isEmpty:=by cases xs<;>cases vs<;>simp_all
    rw[<-this];exact z
   ·show Dn A h (.tup _) _;rw[Dn];exact⟨_,rfl,q1.append q2⟩
   ·show Dn _ h (.tup _) _;rw[Dn];exact⟨_,rfl,gk (q1.append q2) hi⟩
  ·rename_i xs ys
   obtain⟨vs,e1,q1⟩:=a.lst;obtain⟨ws,e2,q2⟩:=c.lst;have eb:LL .add v w=bnd (ask λh=>aF h v) λa=>bnd (ask λh=>aF h w) λb=>aH (decide (a.length+b.length<=sizeLine)) (new (.lst (a++b))):=by
    cases v<;>simp only[aF]at e1<;>first|(cases e1;done)|skip
    all_goals cases w<;>simp only[aF]at e2<;>first|(cases e2;done)|rfl
   have ev:LL .add v w h=aH (decide (vs.length+ws.length<=sizeLine)) (new (.lst (vs++ws))) h:=by rw[eb];unfold bnd ask bf;dsimp only;rw[e1];dsimp only;rw[e2]
   rw[ev];refine bT (λz=>?_) λ_=>gE u p (q1.append q2) λhi=>gk (q1.append q2) hi;rw[<-q1.length,<-q2.length];exact z
 |_=>
  rcases ii (by intro z;cases z) with ⟨i,j,rfl,rfl⟩|z
  case inr=>rw[z];trivial
  have:=a.int;subst this;have:=c.int;subst this
  first
   |exact aD gY
   |exact bT (λz=>z) λ_=>aD gY
theorem EZ{lo hi:Option Int}{h0:Hs}(u:Up A h)(p:h0<+:h)(a:DB A h d v):Rel A h (RV A h0) (pV v lo hi h) (zO d lo hi):=by
 cases d with
 |tup ds=>
  obtain⟨vs,rfl,q⟩:=a.tup;have l:=q.length;simp only[zO,pV];refine bT (λz=>?_) λ_=>aD ⟨?_,λhi=>?_⟩
  ·rw[l]at z;exact z
  ·show Dn A h (.tup _) _;rw[Dn];exact⟨_,rfl,q.cut lo hi⟩
  ·show Dn _ h (.tup _) _;rw[Dn];exact⟨_,rfl,gk (q.cut _ _) hi⟩
 |rl ds=>
  obtain⟨vs,e1,q⟩:=a.lst;have ev:pV v lo hi h=new (.lst (cU vs lo hi)) h:=by
   have:pV v lo hi=bnd (ask λh=>aF h v) λxs=>new (.lst (cU xs lo hi)):=by cases v<;>simp only[aF]at e1<;>first|(cases e1;done)|rfl
   rw[this];unfold bnd ask bf;dsimp only;rw[e1]
  rw[ev];exact gE u p (q.cut lo hi) λhh=>gk (q.cut lo hi) hh
 |_=>trivial
theorem EU.one(e:EU A h [d] vs):∃v,vs=[v]/\DB A h d v:=by
 obtain⟨v,r,rfl,a,b⟩:=e;cases (show r=[] from b);exact⟨v,rfl,a⟩
theorem E1{ns:List Int}(q:av A h ds vs)(e:aS ds=some ns):vs=ds:=by
 have:bR ds=true:=by
  clear q
  induction ds generalizing ns with
  |nil=>rfl
  |cons d ds ih=>
   simp only[aS,cJ]at e;obtain⟨i,e1,e⟩:=Wn.mp e;obtain⟨is,e2,e⟩:=Wn.mp e;cases d<;>first|(cases e1;done)|skip
   rw[bR,j5,XZ];exact ih e2
 exact(bq ds vs this).mp q
theorem oU:∀{ds:List Val} {ns:List Int},aS ds=some ns->bR ds=true
 |[],_,_=>rfl
 | d::ds,ns,e=>by
  simp only[aS,cJ]at e;obtain⟨i,e1,e⟩:=Wn.mp e;obtain⟨is,e2,e⟩:=Wn.mp e;cases d<;>first|(cases e1;done)|skip
  rw[bR,j5,XZ];exact oU (show aS ds=some is from e2)
theorem uF:∀{ds:List Val} {ns:List (List Int)},jZ ds=some ns->bR ds=true
 |[],_,_=>rfl
 | d::ds,ns,e=>by
  simp only[jZ,cJ]at e;obtain⟨i,e1,e⟩:=Wn.mp e;obtain⟨is,e2,e⟩:=Wn.mp e;cases d<;>first|(cases e1;done)|skip
  rename_i vs;dsimp only at e1;split at e1
  ·cases e1
  ·rw[bR,j5,oU e1,XZ];exact uF (show jZ ds=some is from e2)
theorem bU:∀ns:List Int,bR (ns.map .int)=true
 |[]=>rfl
 |n::ns=>by rw[WI,bR,j5,XZ];exact bU ns
theorem lD:∀nK:List (List Int),bR (nK.map kh)=true
 |[]=>rfl
 |n::ns=>by rw[WI,bR,kh,j5,bU,XZ];exact lD ns
theorem qO(e:gg xs=some ys):bR xs=true/\bR ys=true:=by
 unfold gg at e;split at e
 ·cases e2:aS xs with
  |some ns=>rw[e2]at e;cases e;exact⟨oU e2,bU _⟩
  |none=>rw[e2]at e;obtain⟨nK,e3,e4⟩:=Wn.mp e;cases e4;exact⟨uF e3,lD _⟩
 ·cases e
theorem E2{h0:Hs}(u:Up A h)(p:h0<+:h)(a:EU A h ds vs):Rel A h (RV A h0) (blt b vs h) (jk b ds):=by
 have mm:∀(f:List Int->Option Val) (d:Val),(∀ns m,f ns=some m->∃i,m=.int i)->∀v,DB A h d v->Rel A h (RV A h0) (bnd (ask λh=>cP h v) (λxs=>bf ((aS xs).bind f)) h) (pb (pl (cP [] d)) λxs=>pb (pl ((aS xs).bind f)) λm=>.ok (true,m)):=by
  intro f d hf v hv;refine ai (R:=λxs h' ws=>av A h' xs ws) (cN λxs e=>hv.seq e) λxs h1 ws q1 q=>?_;have:bf ((aS ws).bind f) h1=bnd (bf ((aS ws).bind f)) (λm=>ret m) h1:=by unfold bnd bf;cases (aS ws).bind f<;>rfl
  rw[this];refine ai (R:=λm _ m'=>m'=m/\∃i,m=.int i) (bJ λm e=>?_) λm h2 m' _ hm=>?_
  ·obtain⟨ns,e1,e2⟩:=Wn.mp e;rw[E1 q e1];exact⟨m,e,rfl,hf ns m e2⟩
  ·obtain⟨rfl,i,rfl⟩:=hm;exact aD gY
 have hmin:∀ns m,rW ns=some m->∃i,m=Val.int i:=λns m e=>by cases ns<;>simp[rW]at e;exact⟨_,e.symm⟩
 have Rf:∀ns m,rX ns=some m->∃i,m=Val.int i:=λns m e=>by cases ns<;>simp[rX]at e;exact⟨_,e.symm⟩
 match ds,a with
 |[],a=>cases b<;>trivial
 |[d],a=>
  obtain⟨v,rfl,hv⟩:=a.one;cases b with
  |len=>exact ai (R:=λn _ m=>m=n) (cN λn e=>⟨n,Kd hv e,rfl⟩) λn h1 m _ e=>by subst e;exact aD gY
  |min=>
   have e1:jk .min [d]=pb (pl (cP [] d)) λxs=>pb (pl ((aS xs).bind rW)) λm=>.ok (true,m):=by cases d<;>rfl
   have e2:blt .min [v]=bnd (ask λh=>cP h v) λxs=>bf ((aS xs).bind rW):=by cases v<;>rfl
   rw[e1,e2];exact mm rW d hmin v hv
  |max=>
   have e1:jk .max [d]=pb (pl (cP [] d)) λxs=>pb (pl ((aS xs).bind rX)) λm=>.ok (true,m):=by cases d<;>rfl
   have e2:blt .max [v]=bnd (ask λh=>cP h v) λxs=>bf ((aS xs).bind rX):=by cases v<;>rfl
   rw[e1,e2];exact mm rX d Rf v hv
  |sorted=>
   cases d<;>first|trivial|skip
   rename_i xs;obtain⟨ws,e1,q⟩:=hv.lst;have ev:bnd (ask λh=>aF h v) (λxs=>bnd (bf (gg xs)) λys=>new (.lst ys)) h=bnd (bf (gg ws)) (λys=>new (.lst ys)) h:=by unfold bnd ask bf;dsimp only;rw[e1]
   show Rel A h (RV A h0) (bnd (ask λh=>aF h v) (λxs=>bnd (bf (gg xs)) λys=>new (.lst ys)) h) _;rw[ev];refine ai (R:=λys _ zs=>zs=ys/\bR ys=true) (bJ λys e=>?_) λys h1 zs q1 hz=>?_
   ·obtain⟨i1,i2⟩:=qO e;rw[(bq xs ws i1).mp q];exact⟨ys,e,rfl,i2⟩
   ·obtain⟨rfl,hi⟩:=hz;exact gE (u.ext q1) (p.trans q1) ((bq _ _ hi).mpr rfl) λ_=>(bq _ _ hi).mpr rfl
  |list=>refine ai (R:=λxs h' ws=>av A h' xs ws) (cN λxs e=>hv.seq e) λxs h1 ws q1 q=>?_;exact gE (u.ext q1) (p.trans q1) q λhi=>gk q hi
  |tuple=>trivial
  |str=>trivial
  |int=>
   cases d<;>first|trivial|skip
   ·have:=hv.bl;subst this;exact aD gY
   ·have:=hv.int;subst this;exact aD gY
  |all=>trivial
  |any=>trivial
  |isin T=>refine ai (R:=λn _ m=>m=n) (cN λn e=>⟨n,NI hv e,rfl⟩) λn h1 m _ e=>?_;subst e;exact ai (R:=λn _ m=>m=n) (bJ λn e=>⟨n,e,rfl⟩) λn h1 m _ e=>by subst e;exact aD oS
 |[d,e],a=>
  obtain⟨v,r,rfl,hv,hr⟩:=a;obtain⟨w,rfl,hw⟩:=EU.one hr;cases b<;>first|trivial|(cases d<;>trivial)|skip
  ·cases d<;>cases e<;>first|trivial|skip
   have:=hv.int;subst this;have:=hw.int;subst this;exact aD gY
  ·cases d<;>cases e<;>first|trivial|skip
   have:=hv.int;subst this;have:=hw.int;subst this;exact aD gY
 |x::y::z::t,a=>cases b<;>first|trivial|(cases x<;>trivial)|(cases x<;>cases y<;>trivial)
end
def Imp(φ:List Val->M Val)(ψ:List Val->Pr FV):Prop:=∀(A:AP) (h:Hs) (ds vs:List Val),Up A h->av A h ds vs->Rel A h (RV A h) (φ vs h) (ψ ds)
section
variable {Φ:Nat->List Val->M Val} {Ψ:Nat->List Val->Pr FV} {A:AP} {h h1:Hs}
theorem bW{x y:Bool}(f:(x&&y)=true):x=true/\y=true:=Bool.and_eq_true_iff.mp f
theorem nC{x y z:Bool}(f:(x&&y&&z)=true):(x=true/\y=true)/\z=true:=⟨bW (bW f).1,(bW f).2⟩
def bK(Φ:Nat->List Val->M Val)(Ψ:Nat->List Val->Pr FV)(ir:IE):Prop:=∀(aa:aP) (env:Env) (A:AP) (h:Hs),Up A h->ER A aa env h->Rel A h (RV A h) (aJ Φ ir env h) (aX Ψ ir aa)
def jV(Φ:Nat->List Val->M Val)(Ψ:Nat->List Val->Pr FV)(eu:kg):Prop:=(∀(aa:aP) (env:Env) (A:AP) (h:Hs),Up A h->ER A aa env h->Rel A h (UH A h) (bC Φ eu env h) (uC Ψ eu aa)) /\
 ∀(aa:aP) (env:Env) (A:AP) (h:Hs),Up A h->ER A aa env h->Rel A h (λds h' vs=>EU A h' ds vs) (bC Φ eu env h) (fH Ψ eu aa)
theorem RV.up{h0 h':Hs}(p:h0<+:h)(r:RV A h x h' v):RV A h0 x h' v:=⟨r.1,λf=>(r.2 f).dH (Fr.le p.length_le)⟩
theorem Kh{h0:Hs}(p:h0<+:h)(r:Rel A h (RV A h) o x):Rel A h (RV A h0) o x:=uE r λ_ _ _ _ q=>q.up p
theorem NJ{i:Nat}(e:ER A aa env h):Rel A h (Rc A) (aJ Φ (.var i) env h) (pl (jb aa (.var i))):=by
 rw[aJ];refine bJ λx hx=>?_;simp only[jb]at hx;split at hx
 ·rename_i f d hd
  cases hx;have:=e i f d hd;revert this;generalize pX f=t;intro this;cases t with
  |false=>rw[Wu rfl]at this;obtain⟨a,k2,k3⟩:=this;exact⟨.ref a,by rw[k2],.inr ⟨a,rfl,k3⟩⟩
  |true=>rw[Wt (by decide)]at this;obtain⟨v,k1,k2⟩:=this;exact⟨v,by rw[k1],.inl k2⟩
 ·cases hx
theorem nD(o:bK Φ Ψ ir)(u:Up A h)(e:ER A aa env h):Rel A h (Rc A) (aJ Φ ir env h) (if isVar ir=true then pl (jb aa ir) else aX Ψ ir aa):=by
 by_cases hv:isVar ir=true
 ·rw[Wu hv];cases ir<;>first|(cases hv;done)|exact NJ e
 ·rw[Wt hv];exact uE (o aa env A h u e) λ_ _ _ _ q=>q.br
theorem E4{α β:Type}{R:α -> Hs -> β -> Prop}{c:Bool}{o:Out β}{p:Pr α}(r:c=true->Rel A h R o p):Rel A h R o (pg c p):=by
 unfold pg;cases c with
 |true=>rw[Wu rfl];exact r rfl
 |false=>rw[Wt Wm];trivial
theorem v_var{i:Nat}:bK Φ Ψ (.var i):=λaa env A h u e=>by
 rw[aJ,aX];cases hv:aa[i]? with
 |none=>trivial
 |some o=>
  cases o with
  |none=>trivial
  |some fd=>
   obtain⟨f,d⟩:=fd;refine E4 λhf=>?_
   ·have:=e i f d hv;rw[Wt (by simp[hf])]at this;obtain⟨v,k1,k2⟩:=this;rw[k1];exact⟨v,h,rfl,WK _,oR k2⟩
theorem E5{α:Type}{f:Hs->Option α}:ask f h=bnd (ask f) (λz=>ret z) h:=by unfold bnd ask bf;cases f h<;>rfl
theorem yj(f:j5 d=true):Dn A h d d:=(gj d d f).mpr rfl
theorem NK(f:j5 d=true):bK Φ Ψ (.cst d):=λaa env A h u e=>by rw[aJ,aX];exact aD (oR (yj f))
theorem NL(f:j5 d=true):bK Φ Ψ (.con x d):=λaa env A h u e=>by rw[aJ,aX];exact aD (oR (yj f))
theorem Rg:bK Φ Ψ .no:=λaa env A h u e=>by rw[aX];trivial
theorem NO(ha:bK Φ Ψ a)(hb:bK Φ Ψ b):bK Φ Ψ (.bin o a b):=λaa env A h u e=>by
 rw[aJ,aX];exact ai (nD ha u e) λx h1 v p1 q1=>ai (nD hb (u.ext p1) (e.ext p1)) λy h2 w p2 q2=>EY ((u.ext p1).ext p2) (p1.trans p2) (DB.ext p2 q1) q2
theorem NP(ha:bK Φ Ψ a):bK Φ Ψ (.neg a):=λaa env A h u e=>by
 rw[aJ,aX];refine ai (ha aa env A h u e) λx h1 v p1 q1=>?_;obtain⟨f,d⟩:=x;have q:=q1.1;cases d<;>dsimp only<;>first|trivial|skip
 dsimp only at q;rw[Dn]at q;subst q;exact aD gY
theorem NR(ha:bK Φ Ψ a)(hb:bK Φ Ψ b):bK Φ Ψ (.cmp o a b):=λaa env A h u e=>by
 rw[aJ,aX];exact ai (nD ha u e) λx h1 v p1 q1=>ai (nD hb (u.ext p1) (e.ext p1)) λy h2 w p2 q2=>
  ai (R:=λt _ t'=>t'=t) (cN λt et=>⟨t,Kc (DB.ext p2 q1) q2 et,rfl⟩) λt h3 t' p3 et=>by subst et;exact aD oS
theorem NS(ha:bK Φ Ψ a)(hb:bK Φ Ψ b)(hc:bK Φ Ψ c):bK Φ Ψ (.chn o o' a b c):=λaa env A h u e=>by rw[aX];trivial
theorem jl(q:Dn A h d v):Rel A h (λt _ t'=>t'=t) (ou v h) (oO d):=by
 cases d<;>first|trivial|skip
 rw[Dn]at q;subst q;exact aD rfl
theorem v_and(ha:bK Φ Ψ a)(hb:bK Φ Ψ b):bK Φ Ψ (.and a b):=λaa env A h u e=>by
 rw[aJ,aX];refine ai (ha aa env A h u e) λx h1 v p1 q1=>ai (jl q1.1) λt h2 t' p2 et=>?_;subst et;cases t' with
 |true=>rw[Wu rfl,Wu rfl];exact ai (hb aa env A h2 ((u.ext p1).ext p2) ((e.ext p1).ext p2)) λy h3 w p3 q3=>ai (jl q3.1) λt h2 t' p2 et=>by subst et;exact aD oS
 |false=>rw[Wt Wm,Wt Wm];exact aD oS
theorem v_or(ha:bK Φ Ψ a)(hb:bK Φ Ψ b):bK Φ Ψ (.or a b):=λaa env A h u e=>by
 rw[aJ,aX];refine ai (ha aa env A h u e) λx h1 v p1 q1=>ai (jl q1.1) λt h2 t' p2 et=>?_;subst et;cases t' with
 |false=>rw[Wt Wm,Wt Wm];exact ai (hb aa env A h2 ((u.ext p1).ext p2) ((e.ext p1).ext p2)) λy h3 w p3 q3=>ai (jl q3.1) λt h2 t' p2 et=>by subst et;exact aD oS
 |true=>rw[Wu rfl,Wu rfl];exact aD oS
theorem v_not(ha:bK Φ Ψ a):bK Φ Ψ (.not a):=λaa env A h u e=>by
 rw[aJ,aX];exact ai (ha aa env A h u e) λx h1 v p1 q1=>ai (jl q1.1) λt h2 t' p2 et=>by subst et;exact aD oS
theorem v_ite(hc:bK Φ Ψ c)(ha:bK Φ Ψ a)(hb:bK Φ Ψ b):bK Φ Ψ (.ite c a b):=λaa env A h u e=>by rw[aX];trivial
theorem GO:jV Φ Ψ .nil:=⟨λaa env A h u e=>by rw[bC,uC];exact aD ⟨av.nil,λ_=>av.nil⟩,λaa env A h u e=>by rw[bC,fH];exact aD rfl⟩
theorem B8(he:bK Φ Ψ e)(hs:jV Φ Ψ es):jV Φ Ψ (.cons e es):=by
 refine⟨λaa env A h u er=>?_,λaa env A h u er=>?_⟩
 ·rw[bC,uC]
  refine ai (he aa env A h u er) λx h1 v p1 q1=>ai (hs.1 aa env A h1 (u.ext p1) (er.ext p1)) λy h2 vs p2 q2=>?_;refine aD ⟨av.cons (q1.1.ext p2) q2.1,λhf=>?_⟩;have hf':x.1=true/\y.1=true:=by simpa using hf
  exact av.cons ((q1.2 hf'.1).ext p2) ((q2.2 hf'.2).dH (Fr.le p1.length_le))
 ·rw[bC,fH];refine ai (nD he u er) λx h1 v p1 q1=>ai (hs.2 aa env A h1 (u.ext p1) (er.ext p1)) λy h2 vs p2 q2=>?_;exact aD ⟨v,vs,rfl,DB.ext p2 q1,q2⟩
theorem NU(hs:jV Φ Ψ es):bK Φ Ψ (.tup es):=λaa env A h u e=>by
 rw[aJ,aX];refine ai (hs.1 aa env A h u e) λx h1 vs p1 q1=>bT (λz=>by rw[<-q1.1.length];exact z) λ_=>aD ⟨?_,λhf=>?_⟩
 ·show Dn A h1 (.tup _) _;rw[Dn];exact⟨vs,rfl,q1.1⟩
 ·show Dn _ h1 (.tup _) _;rw[Dn];exact⟨vs,rfl,q1.2 hf⟩
theorem Kl:bK Φ Ψ .dct0:=λaa env A h u e=>by
 rw[aJ,aX];refine⟨_,_,rfl,cY _,?_,λhf=>?_⟩
 ·show Dn A _ (.dc [] []) _;rw[Dn];exact⟨_,[],rfl,u _ (Wy _),iu _,rfl,av.nil⟩
 ·show Dn _ _ (.dc [] []) _;rw[Dn];exact⟨_,[],rfl,Wy _,iu _,rfl,av.nil⟩
theorem Km(hk:bK Φ Ψ k)(hv:bK Φ Ψ v):bK Φ Ψ (.dct1 k v):=λaa env A h u e=>by
 rw[aJ,aX];refine ai (hk aa env A h u e) λx h1 w p1 q1=>ai (R:=λkk _ kk'=>kk'=kk) (bJ λkk ek=>⟨kk,wG q1.1 ek,rfl⟩) λkk h2 kk' p2 hkk=>?_;subst hkk;refine ai (hv aa env A h2 ((u.ext p1).ext p2) ((e.ext p1).ext p2)) λy h3 z p3 q3=>?_;have p:=(p1.trans p2).trans p3;refine⟨_,_,rfl,cY _,?_,λhf=>?_⟩
 ·show Dn A _ (.dc [kk'] [y.2]) _;rw[Dn];exact⟨_,[(kk',z)],rfl,u _ p.length_le,iu _,rfl,av.cons (q3.1.ext (cY _)) av.nil⟩
 ·show Dn _ _ (.dc [kk'] [y.2]) _;rw[Dn];exact⟨_,[(kk',z)],rfl,p.length_le,iu _,rfl,av.cons (((q3.2 hf).dH (Fr.le (p1.trans p2).length_le)).ext (cY _)) av.nil⟩
theorem Kn(hd:bK Φ Ψ d)(hk:bK Φ Ψ k)(hx:bK Φ Ψ x):bK Φ Ψ (.dget d k x):=λaa env A h u e=>by
 rw[aJ,aX];refine ai (nD hd u e) λo h1 v p1 q1=>ai (R:=λ_ _ _=>True) (cN λt et=>⟨t,ET q1 et,trivial⟩) λ_ h2 _ p2 _=>?_;refine ai (hk aa env A h2 ((u.ext p1).ext p2) ((e.ext p1).ext p2)) λi h3 w p3 q3=>ai (R:=λkk _ kk'=>kk'=kk) (bJ λkk ek=>⟨kk,wG q3.1 ek,rfl⟩) λkk h4 kk' p4 hkk=>?_;subst hkk;have Sm:=((p1.trans p2).trans p3).trans p4;refine ai (hx aa env A h4 (u.ext Sm) (e.ext Sm)) λz h5 z' p5 q5=>?_;refine ai (R:=λr h' r'=>∀a b,Dn A h5 a b->Dn A h' (r.getD a) (r'.getD b)) (cN λr er=>?_) λr h6 r' p6 hr=>aD (oR (hr _ _ q5.1));obtain⟨r',e1,e2⟩:=Ke (DB.ext ((p2.trans p3).trans (p4.trans p5)) q1) er;exact⟨r',e1,e2⟩
theorem E6(hd:bK Φ Ψ d):bK Φ Ψ (.lkeys d):=λaa env A h u e=>by
 rw[aJ,aX];refine ai (nD hd u e) λo h1 v p1 q1=>ai (R:=λks _ ks'=>ks'=ks) (cN λks ek=>⟨ks,B7 q1 ek,rfl⟩) λks h2 ks' p2 hk=>?_;subst hk;exact gE ((u.ext p1).ext p2) (p1.trans p2) ((bq _ _ (lC ks')).mpr rfl) λ_=>(bq _ _ (lC ks')).mpr rfl
theorem E7(hd:bK Φ Ψ d):bK Φ Ψ (.skeys d):=λaa env A h u e=>by rw[aX];trivial
theorem uG:∀{xs:List Val} {ns:List Int},aS xs=some ns->xs=ns.map .int
 |[],ns,e=>by cases e;rfl
 | x::xs,ns,e=>by
  unfold aS at e;rw[cJ]at e;obtain⟨i,e1,e⟩:=Wn.mp e;obtain⟨r,e2,e⟩:=Wn.mp e;cases e;cases x<;>simp at e1;subst e1;rw[uG e2];rfl
theorem Ko{p q:Nat}(hd:bK Φ Ψ d)(hw:bK Φ Ψ w):bK Φ Ψ (.dflt N' js p q d w):=λaa env A h u e=>by rw[aX];trivial
theorem NV(ha:bK Φ Ψ a):bK Φ Ψ (.isc a x bs):=λaa env A h u e=>by rw[aX];trivial
theorem Kp(ha:bK Φ Ψ a):bK Φ Ψ (.sset a):=λaa env A h u e=>by
 rw[aJ,aX];refine ai (nD ha u e) λx h1 v p1 q1=>?_;obtain⟨f,d⟩:=x;cases d<;>first|trivial|skip
 rename_i xs;obtain⟨vs,e1,e2⟩:=DB.lst q1;have ea:∀(F:List Val->M Val),bnd (ask λh=>aF h v) F h1=F vs h1:=λF=>by unfold bnd ask bf;dsimp only;rw[e1]
 rw[ea];show Rel A h1 _ _ (pb (pl (aS xs)) _);refine ai (R:=λns h' ns'=>ns'=ns) (bJ λns en=>⟨ns,?_,rfl⟩) λns h2 ns' p2 en=>?_
 ·have ei:=uG en;subst ei;rw[(bq _ _ (bU ns)).mp e2];exact en
 ·subst en;refine bT (λz=>z) λ_=>?_;have hi:∀ms:List Int,av A h2 (ms.map Val.int) (ms.map Val.int):=λms=>(bq _ _ (bU ms)).mpr rfl;exact gE ((u.ext p1).ext p2) (p1.trans p2) (hi _) λ_=>(bq _ _ (bU _)).mpr rfl
theorem NW(hs:jV Φ Ψ es):bK Φ Ψ (.lst es):=λaa env A h u e=>by
 rw[aJ,aX];exact ai (hs.1 aa env A h u e) λx h1 vs p1 q1=>bT (λz=>by rw[<-q1.1.length];exact z) λ_=>gE (u.ext p1) p1 q1.1 q1.2
theorem NX(ha:bK Φ Ψ a)(hb:bK Φ Ψ b):bK Φ Ψ (.idx a b):=λaa env A h u e=>by
 rw[aJ,aX];refine ai (nD ha u e) λx h1 v p1 q1=>ai (hb aa env A h1 (u.ext p1) (e.ext p1)) λy h2 w p2 q2=>?_;rw[E5];exact ai (R:=λz h' z'=>Dn A h' z z') (cN λz ez=>Kf (DB.ext p2 q1) q2.1 ez) λz h3 z' p3 q3=>aD (oR q3)
theorem lE(o:bK Φ Ψ ir)(u:Up A h)(e:ER A aa env h) :
  Rel A h (λ(t:Option Int) _ t'=>t'=t) ((if cV ir=true then ret none else bnd (aJ Φ ir env) λv=>bnd (bf (gh v)) λi=>ret (some i)) h) (if cV ir=true then .ok none else pb (aX Ψ ir aa) λv=>pb (pl (gh v.2)) λi=>.ok (some i)):=by
 by_cases hn:cV ir=true
 ·rw[Wu hn,Wu hn];exact aD rfl
 ·rw[Wt hn,Wt hn]
  refine ai (o aa env A h u e) λx h1 v p1 q1=>ai (R:=λt _ t'=>t'=t) (bJ λi ei=>?_) λt h2 t' p2 et=>by subst et;exact aD rfl
  obtain⟨f,d⟩:=x;have q:=q1.1;cases d<;>first|(cases ei;done)|skip
  dsimp only at q;rw[Dn]at q;subst q;exact⟨i,ei,rfl⟩
theorem NY(ha:bK Φ Ψ a)(hl:bK Φ Ψ lo)(hh:bK Φ Ψ hi):bK Φ Ψ (.slc a lo hi):=λaa env A h u e=>by
 rw[aJ,aX];refine ai (nD ha u e) λx h1 v p1 q1=>ai (lE hl (u.ext p1) (e.ext p1)) λl h2 l' p2 el=>ai (lE hh ((u.ext p1).ext p2) ((e.ext p1).ext p2)) λr h3 r' p3 er=>?_;subst el;subst er;exact EZ (((u.ext p1).ext p2).ext p3) ((p1.trans p2).trans p3) (DB.ext (p2.trans p3) q1)
theorem NZ(ha:bK Φ Ψ a)(hs:bK Φ Ψ sx):bK Φ Ψ (.rev a sx):=λaa env A h u e=>by rw[aX];trivial
theorem Kq{j:Nat}(hΦ:∀j,Imp (Φ j) (Ψ j))(hs:jV Φ Ψ es):bK Φ Ψ (.call j es):=λaa env A h u e=>by
 rw[aJ,aX];exact ai (hs.1 aa env A h u e) λx h1 vs p1 q1=>Kh p1 (hΦ j A h1 x.2 vs (u.ext p1) q1.1)
theorem N1{n:Nat}(ha:bK Φ Ψ a):bK Φ Ψ (.fld n a x):=λaa env A h u e=>by rw[aX];trivial
theorem N2(hΦ:∀j,Imp (Φ j) (Ψ j))(ha:bK Φ Ψ a)(hs:jV Φ Ψ es):bK Φ Ψ (.mth a m js es):=λaa env A h u e=>by rw[aX];trivial
theorem N3(hs:jV Φ Ψ es):bK Φ Ψ (.blt b es):=λaa env A h u e=>by
 rw[aJ,aX];exact ai (hs.2 aa env A h u e) λx h1 vs p1 q1=>E2 (u.ext p1) p1 q1
theorem N4(ha:bK Φ Ψ a)(hs:jV Φ Ψ es):bK Φ Ψ (.met m a es):=λaa env A h u e=>by
 cases m with
 |join=>rw[aX];trivial
 |_=>rw[aX]<;>first|trivial|(intro z;cases z)
def SrcR(A:AP)(h:Hs)(xs:List Val)(src:Src):Prop:=∃ws,av A h xs ws/\∀h',h<+:h'->src.items h'=some ws
theorem iw{lo:Int}{n:Nat}:av A h (bZ lo n) (bZ lo n):=by
 unfold bZ;generalize List.range n=l
 induction l with
 |nil=>exact av.nil
 |cons a l ih=>exact av.cons (by rw[Dn]) ih
theorem ff:∀{xs ws:List Val} (i:Nat),av A h xs ws->av A h (cD i xs) (cD i ws)
 |[],ws,i,q=>by rw[av]at q;subst q;exact av.nil
 | x::xs,ws,i,q=>by
  rw[av]at q;obtain⟨w,r,rfl,a,b⟩:=q;exact av.cons (by rw[Dn];exact⟨_,rfl,av.cons (by rw[Dn]) (av.cons a av.nil)⟩) (ff (i+1) b)
theorem yk{ds vs:List Val}(a:DB A h (.rl ds) v):∃ws,av A h ds ws/\((v=.rl ws)\/∃i,v=.ref i/\∀h',h<+:h'->aF h' (.ref i)=some ws):=by
 rcases a with a|⟨i,rfl,vs,g,q⟩
 ·rw[Dn]at a
  rcases a with ⟨vs,rfl,_,q⟩|⟨i,vs,rfl,_,g,q⟩
  ·exact⟨vs,q,.inl rfl⟩
  ·exact⟨vs,q,.inr ⟨i,rfl,λh' p=>by simp[aF,bx p g]⟩⟩
 ·exact⟨vs,q,.inr ⟨i,rfl,λh' p=>by simp[aF,bx p g]⟩⟩
theorem yl(a:EU A h ds vs):Rel A h (λxs h' src=>SrcR A h' xs src) (bf (srcOf k vs) h) (pl (B3 k ds)):=by
 refine bJ λxs e=>?_;cases k with
 |seq=>
  match ds,e with
  |[.tup es],e=>cases e;obtain⟨v,rfl,hv⟩:=a.one;obtain⟨ws,rfl,q⟩:=hv.tup;exact⟨.fix ws,rfl,ws,q,λ_ _=>rfl⟩
  |[.rl es],e=>
   cases e;obtain⟨v,rfl,hv⟩:=a.one;obtain⟨ws,q,rfl|⟨i,rfl,g⟩⟩:=yk (vs:=[]) hv
   ·exact⟨.fix ws,rfl,ws,q,λ_ _=>rfl⟩
   ·exact⟨.live i,rfl,ws,q,λh' p=>g h' p⟩
 |range=>
  match ds,e with
  |[.int n],e=>
   obtain⟨v,rfl,hv⟩:=a.one;have:=hv.int;subst this;change (if inR n=true then some (bZ 0 n.toNat) else none)=some _ at e;split at e
   ·rename_i hn;cases e;exact⟨.fix _,Wu hn,_,iw,λ_ _=>rfl⟩
   ·cases e
  |[.int n,.int m],e=>
   obtain⟨v,r,rfl,hv,hr⟩:=a;obtain⟨w,rfl,hw⟩:=EU.one hr;have:=hv.int;subst this;have:=hw.int;subst this;change (if (inR n&&inR m)=true then some (bZ n (m-n).toNat) else none)=some _ at e;split at e
   ·rename_i hn;cases e;exact⟨.fix _,Wu hn,_,iw,λ_ _=>rfl⟩
   ·cases e
 |enum=>
  match ds,e with
  |[.rl es],e=>
   cases e;obtain⟨v,rfl,hv⟩:=a.one;obtain⟨ws,q,rfl|⟨i,rfl,g⟩⟩:=yk (vs:=[]) hv
   ·exact⟨.fix _,rfl,_,ff 0 q,λ_ _=>rfl⟩
   ·exact⟨.enum i,rfl,_,ff 0 q,λh' p=>by simp[Src.items,g h' p]⟩
 |zip=>cases e
theorem ym:∀{is:List Nat} {ds vs:List Val} {aa au:aP} {env:Env},bE is ds aa=some au->av A h ds vs->ER A aa env h->(∀i∈is,i<aa.length->i<env.length)->∃env',bindAll is vs env=some env'/\ER A au env' h
 | [],[],vs,aa,au,env,e,q,er,_=>by
  rw[av]at q;subst q;simp only[bE]at e;cases e;exact⟨env,rfl,er⟩
 | i::is,d::ds,vs,aa,au,env,e,q,er,hl=>by
  rw[av]at q;obtain⟨v,r,rfl,q1,q2⟩:=q;simp only[bE]at e;have UI:ER A (aa.set i (some (.sh,d))) (env.set i (some v)) h:=λj f d' hj=>by
   by_cases hij:i=j
   ·subst hij
    have hi:i<aa.length:=by have:=(Wo.mp hj).1;simpa using this
    rw[Wz hi]at hj;cases hj;rw[Wt (by decide)];exact⟨v,by rw[Wz (hl i Wx hi)],q1⟩
   ·rw[Ws hij]at hj;rw[Ws hij];exact er j f d' hj
  simp only[bindAll];exact ym e q2 UI λj hj hl'=>by simpa using hl j (Ww _ hj) (by simpa using hl')
 |[],_::_,_,_,_,_,e,_,_,_=>by simp[bE]at e
 |_::_,[],_,_,_,_,e,_,_,_=>by simp[bE]at e
theorem uH(e:cQ p d aa=some au)(q:Dn A h d v)(er:ER A aa env h)(hl:aa.length<=env.length):∃env',eZ p v env=some env'/\ER A au env' h:=by
 cases p with
 |one i=>
  simp only[cQ]at e;cases e;refine⟨_,rfl,λj f d' hj=>?_⟩
  by_cases hij:i=j
  ·subst hij
   have hi:i<aa.length:=by have:=(Wo.mp hj).1;simpa using this
   rw[Wz hi]at hj;cases hj;rw[Wt (by decide)];exact⟨v,by rw[Wz (by omega)],q⟩
  ·rw[Ws hij]at hj;rw[Ws hij];exact er j f d' hj
 |tup is=>
  cases d<;>simp only[cQ]at e<;>first|(cases e;done)|skip
  rw[Dn]at q;obtain⟨vs,rfl,q⟩:=q;exact ym e q er λi _ hi=>by omega
theorem yo(e:ER A aa env h):ER A (iW js aa) (jg js env) h:=λi f d q=>by
 unfold iW at q;rw[WO]at q;cases hj:js[i]? with
 |none=>rw[hj]at q;cases q
 |some o=>
  rw[hj]at q;simp only[map_some]at q;cases o with
  |none=>cases q
  |some j=>
   dsimp only at q;cases ej:aa[j]? with
   |none=>rw[ej]at q;cases q
   |some w=>
    cases w with
    |none=>rw[ej]at q;cases q
    |some fd=>
     rw[ej]at q;cases q;have:=e j f d ej;revert this;generalize pX f=t;intro this;cases t with
     |false=>rw[Wu rfl]at this |-;obtain⟨a,k2,k3⟩:=this;refine⟨a,?_,k3⟩;unfold jg;rw[WO,hj];simp only[map_some];rw[k2]
     |true=>rw[Wt (by decide)]at this |-;obtain⟨v,k1,k2⟩:=this;refine⟨v,?_,k2⟩;unfold jg;rw[WO,hj];simp only[map_some];rw[k1]
theorem oV :
  ∀(xs:List Val) (vs:List Val) (i:Nat) (acc:List Val) (h:Hs),hb<+:h->Up A h->(∀h',h<+:h'->src.items h'=some ws)->ws.drop i=vs->av A h xs vs ->
   (∀x v h',h<+:h'->Dn A h' x v->Rel A h' (λo h'' o'=>match o,o' with|some e,some e'=>RV A hb e h'' e'|none,none=>True|_,_=>False) (f v h') (g x)) ->
   Rel A h (λp h' ys=>∃zs,ys=acc++zs/\av A h' p.2 zs/\(p.1=true->av (Fr hb.length) h' p.2 zs)) (e9 src f vs.length i acc h) (iX g xs)
 | [],vs,i,acc,h,Sn,u,hi,hd,q,hf=>by
  rw[av]at q;subst q;have hl:ws.length<=i:=YF.mp hd;have ev:e9 src f ([]:List Val).length i acc h=.ok acc h:=by show e9 src f 0 i acc h=_;simp only[e9];unfold bnd ask bf aH;dsimp only;rw[hi h (WK _)];dsimp only;rw[Wu (decide_eq_true hl)];rfl
  rw[ev,iX];exact⟨acc,h,rfl,WK _,[],by simp,av.nil,λ_=>av.nil⟩
 | x::xs,vs,i,acc,h,Sn,u,hi,hd,q,hf=>by
  rw[av]at q;obtain⟨v,r,rfl,q1,q2⟩:=q;have hv:ws[i]?=some v:=by have:=Xf (λl=>l[0]?) hd;simpa using this
  have hr:ws.drop (i+1)=r:=by
   have:ws.drop (i+1)=(ws.drop i).drop 1:=by rw[Y4]
   rw[this,hd];rfl
  have ev:e9 src f (v::r).length i acc h=bnd (f v) (λo=>e9 src f r.length (i+1) (match o with|some e=>acc++[e]|none=>acc)) h:=by show e9 src f (r.length+1) i acc h=_;simp only[e9];unfold bnd ask bf;dsimp only;rw[hi h (WK _)];dsimp only;rw[hv];try rfl
  rw[ev,iX];refine ai (hf x v h (WK _) q1) λo h1 o' p1 ho=>?_;have ih:=λacc'=>oV xs r (i+1) acc' h1 (Sn.trans p1) (u.ext p1) (λh' p=>hi h' (p1.trans p)) hr (q2.ext p1) λx v h' p=>hf x v h' (p1.trans p);cases o' with
  |some e'=>
   cases o with
   |none=>exact ho.elim
   |some e=>
    have ih:=ih (acc++[e']);cases e2:iX g xs with
    |ok p=>
     rw[e2]at ih;obtain⟨ys,h2,e3,p2,zs,rfl,z1,z2⟩:=ih;refine⟨_,h2,e3,p2,e'::zs,by simp,av.cons (ho.1.ext p2) z1,λhp=>?_⟩;have So:e.1=true/\p.1=true:=by simpa using hp
     exact av.cons ((ho.2 So.1).ext p2) (z2 So.2)
    |exc c es=>rw[e2]at ih;exact ih
    |no=>trivial
  |none=>
   cases o with
   |some e'=>exact ho.elim
   |none=>
    have ih:=ih acc;cases e2:iX g xs with
    |ok p=>rw[e2]at ih;obtain⟨ys,h2,e3,p2,zs,rfl,z1,z2⟩:=ih;exact⟨_,h2,e3,p2,zs,rfl,z1,z2⟩
    |exc c es=>rw[e2]at ih;exact ih
    |no=>trivial
theorem Kr(hs:jV Φ Ψ it)(hc:bK Φ Ψ c)(he:bK Φ Ψ elt):bK Φ Ψ (.comp N js pat k it c elt):=λaa env A h u e=>by
 rw[aJ,aX];refine ai (hs.2 aa env A h u e) λds h1 vs p1 q1=>ai (yl q1) λxs h2 src p2 q2=>?_;obtain⟨ws,q3,q4⟩:=q2;have l:=q3.length;have ev:∀(F:List Val->M Val),bnd (ask λh=>src.items h) F h2=F ws h2:=λF=>by unfold bnd ask bf;dsimp only;rw[q4 h2 (WK _)]
 rw[ev];refine bT (λz=>by rw[<-l];exact z) λ_=>?_;have u2:=(u.ext p1).ext p2;have e2:=(e.ext p1).ext p2;refine ai (oV (hb:=h) xs ws 0 [] h2 (p1.trans p2) u2 q4 rfl q3 λx v h' p' qx=>?_) λp h3 ys p3 hp=>?_
 ·refine ai (R:=λau _ env'=>∃_:ER A au env' h',True) (bJ λau ev'=>?_) λau h4 env' p4 he'=>?_
  ·obtain⟨env',a1,a2⟩:=uH ev' qx (yo (e2.ext p')) (by simp[iW,jg]);exact⟨env',a1,a2,trivial⟩
  ·obtain⟨er,_⟩:=he'
   have er:=er.ext p4;have u4:=(u2.ext p').ext p4;have Nu:Rel A h4 (λt _ t'=>t'=t) ((if cV c=true then ret true else bnd (aJ Φ c env') λv=>ask λh=>cC h v) h4) (if cV c=true then .ok true else pb (aX Ψ c au) λv=>pl (cC [] v.2)):=by
    by_cases hn:cV c=true
    ·rw[Wu hn,Wu hn];exact aD rfl
    ·rw[Wt hn,Wt hn];exact ai (hc au env' A h4 u4 er) λy h5 w p5 q5=>cN λt et=>⟨t,se q5.br et,rfl⟩
   refine ai Nu λt h5 t' p5 et=>?_;subst et;cases t' with
   |true=>rw[Wu rfl,Wu rfl];exact ai (he au env' A h5 (u4.ext p5) (er.ext p5)) λy h6 w p6 q6=>aD (q6.up ((p1.trans p2).trans (p'.trans (p4.trans p5))))
   |false=>rw[Wt Wm,Wt Wm];exact aD trivial
 ·obtain⟨zs,rfl,z1,z2⟩:=hp;exact gE (u2.ext p3) ((p1.trans p2).trans p3) z1 z2
mutual
noncomputable def cR:IE->Bool
 |.cst d=>j5 d
 |.con _ d=>j5 d
 |.bin _ a b=>cR a&&cR b
 |.neg a=>cR a
 |.cmp _ a b=>cR a&&cR b
 |.chn _ _ a b c=>cR a&&cR b&&cR c
 |.and a b=>cR a&&cR b
 |.or a b=>cR a&&cR b
 |.not a=>cR a
 |.ite a b c=>cR a&&cR b&&cR c
 |.tup es=>lF es
 |.lst es=>lF es
 |.idx a b=>cR a&&cR b
 |.slc a b c=>cR a&&cR b&&cR c
 |.call _ es=>lF es
 |.blt _ es=>lF es
 |.met _ a es=>cR a&&lF es
 |.comp _ _ _ _ es a b=>lF es&&cR a&&cR b
 |.var _=>true
 |.no=>true
 |.dct0=>true
 |.sset a=>cR a
 |.dget a b c=>cR a&&cR b&&cR c
 |.dct1 a b=>cR a&&cR b
 |.lkeys a=>cR a
 |.sdef ..=>false
 |.svals _=>false
 |.skeys a=>cR a
 |.fld _ a _=>cR a
 |.mth a _ _ es=>cR a&&lF es
 |.rev a b=>cR a&&cR b
 |.dflt _ _ _ _ a b=>cR a&&cR b
 |.isc a _ _=>cR a
noncomputable def lF:kg->Bool
 |.nil=>true
 |.cons e es=>cR e&&lF es
end
theorem v_all(hΦ:∀j,Imp (Φ j) (Ψ j)):(∀ir,cR ir=true->bK Φ Ψ ir)/\∀eu,lF eu=true->jV Φ Ψ eu:=by
 have one:∀ir,cR ir=true->bK Φ Ψ ir:=by
  intro ir;refine IE.rec (motive_1:=λir=>cR ir=true->bK Φ Ψ ir) (motive_2:=λeu=>lF eu=true->jV Φ Ψ eu) ?_ ?_ ?_ ?_ ?_ ?_ ?_ ?_ ?_ ?_ ?_ ?_ ?_ ?_ ?_ ?_ ?_ ?_ ?_ ?_ ?_ ?_ ?_ ?_ ?_ ?_ ?_ ?_ ?_ ?_ ?_ ?_ ?_ ?_ ?_ ir
  ·exact λ_ _=>v_var
  ·exact λ_ f=>NK f
  ·exact λ_ _ f=>NL f
  ·exact λ_=>Rg
  ·intro _ _ _ a b f;have f:=bW f;exact NO (a f.1) (b f.2)
  ·intro _ a f;exact NP (a f)
  ·intro _ _ _ a b f;have f:=bW f;exact NR (a f.1) (b f.2)
  ·intro _ _ _ _ _ a b c f;have f:=nC f;exact NS (a f.1.1) (b f.1.2) (c f.2)
  ·intro _ _ a b f;have f:=bW f;exact v_and (a f.1) (b f.2)
  ·intro _ _ a b f;have f:=bW f;exact v_or (a f.1) (b f.2)
  ·intro _ a f;exact v_not (a f)
  ·intro _ _ _ a b c f;have f:=nC f;exact v_ite (a f.1.1) (b f.1.2) (c f.2)
  ·intro _ a f;exact NU (a f)
  ·intro _ a f;exact NW (a f)
  ·intro _ _ a b f;have f:=bW f;exact NX (a f.1) (b f.2)
  ·intro _ _ _ a b c f;have f:=nC f;exact NY (a f.1.1) (b f.1.2) (c f.2)
  ·intro _ _ a f;exact Kq hΦ (a f)
  ·intro _ _ a f;exact N3 (a f)
  ·intro _ _ _ a b f;have f:=bW f;exact N4 (a f.1) (b f.2)
  ·intro _ _ _ _ _ _ _ a b c f;have f:=nC f;exact Kr (a f.1.1) (b f.1.2) (c f.2)
  ·exact λ_=>Kl
  ·intro _ a f;exact Kp (a f)
  ·intro _ _ _ a b c f;have f:=nC f;exact Kn (a f.1.1) (b f.1.2) (c f.2)
  ·intro _ _ a b f;have f:=bW f;exact Km (a f.1) (b f.2)
  ·intro _ a f;exact E6 (a f)
  ·intro _ _ _ _ _ _ f;exact nomatch (show false=true from f)
  ·intro _ _ f;exact nomatch (show false=true from f)
  ·intro _ a f;exact E7 (a f)
  ·intro _ _ _ a f;exact N1 (a f)
  ·intro _ _ _ _ a b f;have f:=bW f;exact N2 hΦ (a f.1) (b f.2)
  ·intro _ _ a b f;have f:=bW f;exact NZ (a f.1) (b f.2)
  ·intro _ _ _ _ _ _ a b f;have f:=bW f;exact Ko (a f.1) (b f.2)
  ·intro _ _ _ a f;exact NV (a f)
  ·exact λ_=>GO
  ·intro _ _ a b f;have f:=bW f;exact B8 (a f.1) (b f.2)
 refine⟨one,λeu=>?_⟩
 induction eu using kg.rec (motive_1:=λ_=>True) with
 |nil=>exact λ_=>GO
 |cons e es _ ih=>exact λf=>by have f:=bW f;exact B8 (one e f.1) (ih f.2)
 |_=>trivial
end
section
variable {A A':AP} {h h':Hs}
mutual
theorem Dn.move(hn:A none->A' none)(hh:∀(i:Nat) (o:Ob),A (some i)->h[i]?=some o->A' (some i)/\h'[i]?=some o):∀(d v:Val),Dn A h d v->Dn A' h' d v
 |.non,v,e=>by rw[Dn]at e |-;exact e
 |.bl _,v,e=>by rw[Dn]at e |-;exact e
 |.int _,v,e=>by rw[Dn]at e |-;exact e
 |.str _,v,e=>by rw[Dn]at e |-;exact e
 | .tup ds,v,e=>by
  rw[Dn]at e |-;obtain⟨vs,rfl,q⟩:=e;exact⟨vs,rfl,av.move hn hh ds vs q⟩
 | .rl ds,v,e=>by
  rw[Dn]at e |-
  rcases e with ⟨vs,rfl,n,q⟩|⟨i,vs,rfl,a,g,q⟩
  ·exact .inl ⟨vs,rfl,hn n,av.move hn hh ds vs q⟩
  ·exact .inr ⟨i,vs,rfl,(hh i _ a g).1,(hh i _ a g).2,av.move hn hh ds vs q⟩
 | .dc ks ds,v,e=>by
  rw[Dn]at e |-;obtain⟨i,kvs,rfl,a,g,k,q⟩:=e;exact⟨i,kvs,rfl,(hh i _ a g).1,(hh i _ a g).2,k,av.move hn hh ds _ q⟩
 | .ob c xs ds,v,e=>by
  rw[Dn]at e |-;obtain⟨i,kvs,rfl,a,g,k,q⟩:=e;exact⟨i,kvs,rfl,(hh i _ a g).1,(hh i _ a g).2,k,av.move hn hh ds _ q⟩
 |.ref _,v,e=>by rw[Dn]at e;exact e.elim
theorem av.move(hn:A none->A' none)(hh:∀(i:Nat) (o:Ob),A (some i)->h[i]?=some o->A' (some i)/\h'[i]?=some o):∀(ds vs:List Val),av A h ds vs->av A' h' ds vs
 |[],vs,e=>by rw[av]at e |-;exact e
 | d::ds,vs,e=>by
  rw[av]at e |-;obtain⟨v,r,rfl,q1,q2⟩:=e;exact⟨v,r,rfl,Dn.move hn hh d v q1,av.move hn hh ds r q2⟩
end
end
def Al(A0:AP)(O:Nat->Option Nat):AP:=λo=>A0 o/\∀i,o.isSome=true->O i≠o
structure SR (A0:AP) (h0:Hs) (aa:aP) (env:Env) (h:Hs) (O:Nat->Option Nat):Prop where
 len:aa.length=env.length
 sh:∀(i:Nat) (m:Mk) (d:Val),aa[i]?=some (some (m,d))->pX m=true->∃v,env[i]?=some (some v)/\Dn (Al A0 O) h d v/\(LR m=true->Dn (Al (Fr h0.length) O) h d v)
 ow:∀(i:Nat) (d:Val),aa[i]?=some (some (.ow,d))->∃a,env[i]?=some (some (.ref a))/\O i=some a/\OD (Al A0 O) h d a
 own:∀i a,O i=some a->h0.length<=a/\a<h.length/\∃d,aa[i]?=some (some (.ow,d))
 inj:∀i j a,O i=some a->O j=some a->i=j
 pre:h0<+:h
 up:Up A0 h0
structure Fm (m:List Nat) (aa:aP) (env:Env) (h:Hs) (O:Nat->Option Nat) (au:aP) (env':Env) (h':Hs) (O':Nat->Option Nat):Prop where
 le:h.length<=h'.length
 keep:∀k,k<h.length->(∀i,O i≠some k)->h'[k]?=h[k]?/\∀i,O' i≠some k
 stay:∀i,i∉m->O' i=O i/\au[i]?=aa[i]?/\env'[i]?=env[i]?/\∀a,O i=some a->h'[a]?=h[a]?
def RF(A0:AP)(h0:Hs)(m:List Nat)(aa:aP)(env:Env)(h:Hs)(O:Nat->Option Nat):wD->Hs->Fl->Prop
 |.nx au,h',.nx env'=>∃O',SR A0 h0 au env' h' O'/\Fm m aa env h O au env' h' O'
 |.bk au,h',.bk env'=>∃O',SR A0 h0 au env' h' O'/\Fm m aa env h O au env' h' O'
 |.ct au,h',.ct env'=>∃O',SR A0 h0 au env' h' O'/\Fm m aa env h O au env' h' O'
 |.rt p,h',.rt v=>Dn A0 h' p.2 v/\(p.1=true->Dn (Fr h0.length) h' p.2 v)/\h0<+:h'
 |_,_,_=>False
def fO(A0:AP)(h0:Hs){α β:Type}(R:α -> Hs -> β -> Prop)(o:Out β):Pr α -> Prop
 |.ok f=>∃g h',o=.ok g h'/\R f h' g
 |.exc c es=>∃ws h',o=.exc c ws h'/\h0<+:h'/\av A0 h' es ws
 |.no=>True
section
variable {A0:AP} {h0:Hs} {aa:aP} {env:Env} {h h1:Hs} {O:Nat->Option Nat} {m:List Nat}
theorem SR.er(s:SR A0 h0 aa env h O):ER (Al A0 O) aa env h:=λi f d e=>by
 cases f with
 |ow=>rw[Wu (show pX .ow=false by decide)];obtain⟨a,k2,_,k3⟩:=s.ow i d e;exact⟨a,k2,k3⟩
 |sh=>rw[Wt (by decide)];obtain⟨v,k1,k2,_⟩:=s.sh i _ d e rfl;exact⟨v,k1,k2⟩
 |nw=>rw[Wt (by decide)];obtain⟨v,k1,k2,_⟩:=s.sh i _ d e rfl;exact⟨v,k1,k2⟩
theorem SR.wI(s:SR A0 h0 aa env h O):Up (Al A0 O) h:=λk hk=>⟨s.up k (WZ s.pre.length_le hk),λi _ e=>by have:=(s.own i k e).2.1;omega⟩
theorem SR.ext(s:SR A0 h0 aa env h O)(p:h<+:h1):SR A0 h0 aa env h1 O where
 len:=s.len
 sh i m d e hm:=by obtain⟨v,k1,k2,k3⟩:=s.sh i m d e hm;exact⟨v,k1,k2.ext p,λz=>(k3 z).ext p⟩
 ow i d e:=by obtain⟨a,k2,k3,k4⟩:=s.ow i d e;exact⟨a,k2,k3,k4.ext p⟩
 own i a e:=by obtain⟨k1,k2,k3⟩:=s.own i a e;exact⟨k1,WC k2 p.length_le,k3⟩
 inj:=s.inj
 pre:=s.pre.trans p
 up:=s.up
theorem iy(p:h<+:h1){k:Nat}(hk:k<h.length):h1[k]?=h[k]?:=by
 obtain⟨t,rfl⟩:=p;rw[WE hk]
theorem Fm.refl(s:SR A0 h0 aa env h O)(p:h<+:h1):Fm m aa env h O aa env h1 O where
 le:=p.length_le
 keep k hk n:=⟨iy p hk,n⟩
 stay i _:=⟨rfl,rfl,rfl,λa e=>iy p (s.own i a e).2.1⟩
theorem Fm.trans{lG iz:aP}{sj iP:Env}{h2:Hs}{O1 O2:Nat->Option Nat}(a:Fm m aa env h O lG sj h1 O1)(b:Fm m lG sj h1 O1 iz iP h2 O2):Fm m aa env h O iz iP h2 O2 where
 le:=WZ a.le b.le
 keep k hk n:=by obtain⟨a1,a2⟩:=a.keep k hk n;obtain⟨b1,b2⟩:=b.keep k (WC hk a.le) a2;exact⟨b1.trans a1,b2⟩
 stay i hi:=by obtain⟨a1,a2,a3,a4⟩:=a.stay i hi;obtain⟨b1,b2,b3,b4⟩:=b.stay i hi;exact⟨b1.trans a1,b2.trans a2,b3.trans a3,λc e=>(b4 c (a1.trans e)).trans (a4 c e)⟩
theorem Fm.dH{m':List Nat}(hm:∀i∈m,i∈m')(a:Fm m aa env h O au env' h1 O'):Fm m' aa env h O au env' h1 O':=⟨a.le,a.keep,λi hi=>a.stay i λz=>hi (hm i z)⟩
theorem RF.pre(s:SR A0 h0 aa env h O)(p:h<+:h1)(r:RF A0 h0 m aa env h1 O f h' g):RF A0 h0 m aa env h O f h' g:=by
 cases f<;>cases g<;>first|exact r.elim|exact r|(obtain⟨O',a,b⟩:=r;exact⟨O',a,(Fm.refl s p).trans b⟩)
theorem RF.dH{m':List Nat}(hm:∀i∈m,i∈m')(r:RF A0 h0 m aa env h O f h' g):RF A0 h0 m' aa env h O f h' g:=by
 cases f<;>cases g<;>first|exact r.elim|exact r|(obtain⟨O',a,b⟩:=r;exact⟨O',a,b.dH hm⟩)
theorem RF.seq{lG:aP}{sj:Env}{O1:Nat->Option Nat}(a:Fm m aa env h O lG sj h1 O1)(r:RF A0 h0 m lG sj h1 O1 f h' g):RF A0 h0 m aa env h O f h' g:=by
 cases f<;>cases g<;>first|exact r.elim|exact r|(obtain⟨O',b,c⟩:=r;exact⟨O',b,a.trans c⟩)
theorem bG{α β γ δ:Type}{R:α -> Hs -> β -> Prop}{R':γ -> Hs -> δ -> Prop}{mm:M β}{f:β -> M δ}{p:Pr α}{F:α -> Pr γ}(s:SR A0 h0 aa env h O)(r:Rel (Al A0 O) h R (mm h) p)(k:∀a h1 b,h<+:h1->R a h1 b->fO A0 h0 R' (f b h1) (F a)):fO A0 h0 R' (bnd mm f h) (pb p F):=by
 unfold bnd;cases p with
 |ok a=>obtain⟨b,h1,e,q,r⟩:=r;rw[e];exact k a h1 b q r
 |exc c es=>obtain⟨ws,h1,e,q,r⟩:=r;rw[e];exact⟨ws,h1,rfl,s.pre.trans q,r.dH λ_ z=>z.1⟩
 |no=>trivial
theorem bH{α β:Type}{R:α -> Hs -> β -> Prop}{a:α}{b:β}(r:R a h b):fO A0 h0 R (ret b h) (.ok a):=⟨b,h,rfl,r⟩
theorem iA{α β:Type}{R R':α -> Hs -> β -> Prop}{o:Out β}{p:Pr α}(r:fO A0 h0 R o p)(k:∀a h' b,R a h' b->R' a h' b):fO A0 h0 R' o p:=by
 cases p with
 |ok a=>obtain⟨b,h',e,r⟩:=r;exact⟨b,h',e,k a h' b r⟩
 |exc c es=>exact r
 |no=>trivial
theorem oW{α β γ δ:Type}{R:α -> Hs -> β -> Prop}{R':γ -> Hs -> δ -> Prop}{mm:M β}{f:β -> M δ}{p:Pr α}{F:α -> Pr γ}(r:fO A0 h0 R (mm h) p)(k:∀a h1 b,R a h1 b->fO A0 h0 R' (f b h1) (F a)):fO A0 h0 R' (bnd mm f h) (pb p F):=by
 unfold bnd;cases p with
 |ok a=>obtain⟨b,h1,e,r⟩:=r;rw[e];exact k a h1 b r
 |exc c es=>obtain⟨ws,h1,e,q,r⟩:=r;rw[e];exact⟨ws,h1,rfl,q,r⟩
 |no=>trivial
theorem fP{α β:Type}{R:α -> Hs -> β -> Prop}{c:Bool}{o:Out β}{p:Pr α}(r:c=true->fO A0 h0 R o p):fO A0 h0 R o (pg c p):=by
 unfold pg;cases c with
 |true=>rw[Wu rfl];exact r rfl
 |false=>rw[Wt Wm];trivial
def fK(O:Nat->Option Nat)(i:Nat):Nat->Option Nat:=λj=>if j=i then none else O j
theorem nO:Al A0 O none->Al A0 O none:=id
theorem jm:Al A0 O none->Al A0 O' none:=λh=>⟨h.1,λ_ z=>by cases z⟩
theorem iQ{i:Nat}:∀k,Al A0 O k->Al A0 (fK O i) k:=λk ⟨a,b⟩=>⟨a,λj z=>by unfold fK;split;(cases k<;>simp_all);exact b j z⟩
theorem SR.setM(s:SR A0 h0 aa env h O){i:Nat}{mk:Mk}{d v:Val}(UJ:pX mk=true)(q:Dn (Al A0 O) h d v)(qn:LR mk=true->Dn (Al (Fr h0.length) O) h d v):SR A0 h0 (aa.set i (some (mk,d))) (env.set i (some v)) h (fK O i)/\Fm [i] aa env h O (aa.set i (some (mk,d))) (env.set i (some v)) h (fK O i):=by
 refine⟨⟨by simp[s.len],λj m' d' e hm'=>?_,λj d' e=>?_,λj a e=>?_,λj l a e1 e2=>?_,s.pre,s.up⟩,Wy _,λk hk n=>⟨rfl,λj=>?_⟩,λj hj=>?_⟩
 ·by_cases hij:i=j
  ·subst hij
   have hi:i<aa.length:=by have:=(Wo.mp e).1;simpa using this
   rw[Wz hi]at e;cases e;exact⟨v,by rw[Wz (by rw[<-s.len];exact hi)],q.dH iQ,λz=>(qn z).dH iQ⟩
  ·rw[Ws hij]at e;rw[Ws hij];obtain⟨w,k1,k2,k3⟩:=s.sh j m' d' e hm';exact⟨w,k1,k2.dH iQ,λz=>(k3 z).dH iQ⟩
 ·by_cases hij:i=j
  ·subst hij
   have hi:i<aa.length:=by have:=(Wo.mp e).1;simpa using this
   rw[Wz hi]at e;cases e;cases UJ
  ·rw[Ws hij]at e;rw[Ws hij];obtain⟨a,k2,k3,k4⟩:=s.ow j d' e;exact⟨a,k2,by unfold fK;rw[Wt (λz=>hij z.symm)];exact k3,k4.mono (λ_ g=>g) λ_ _ z=>z.dH iQ⟩
 ·unfold fK at e
  split at e
  ·cases e
  ·rename_i hj;obtain⟨k1,k2,d',k3⟩:=s.own j a e;exact⟨k1,k2,d',by rw[Ws (λz=>hj z.symm)];exact k3⟩
 ·unfold fK at e1 e2
  split at e1
  ·cases e1
  ·split at e2
   ·cases e2
   ·exact s.inj j l a e1 e2
 ·unfold fK;split;simp;exact n j
 ·have hj':j≠i:=by simpa using hj
  exact⟨by unfold fK;rw[Wt hj'],Ws (λz=>hj' z.symm),Ws (λz=>hj' z.symm),λ_ _=>rfl⟩
theorem SR.set(s:SR A0 h0 aa env h O){i:Nat}(q:Dn (Al A0 O) h d v):SR A0 h0 (aa.set i (some (.sh,d))) (env.set i (some v)) h (fK O i)/\Fm [i] aa env h O (aa.set i (some (.sh,d))) (env.set i (some v)) h (fK O i):=s.setM rfl q λz=>nomatch z
theorem SR.binds:∀{is:List Nat} {ds vs:List Val} {aa:aP} {env:Env} {O:Nat->Option Nat} {au:aP},SR A0 h0 aa env h O->bE is ds aa=some au->av (Al A0 O) h ds vs ->
  ∃env' O',bindAll is vs env=some env'/\SR A0 h0 au env' h O'/\Fm is aa env h O au env' h O'
 | [],[],vs,aa,env,O,au,s,e,q=>by
  rw[av]at q;subst q;simp only[bE]at e;cases e;exact⟨env,O,rfl,s,Fm.refl s (WK _)⟩
 | i::is,d::ds,vs,aa,env,O,au,s,e,q=>by
  rw[av]at q;obtain⟨v,r,rfl,q1,q2⟩:=q;simp only[bE]at e;obtain⟨s1,f1⟩:=s.set (i:=i) q1;obtain⟨env',O',b1,b2,b3⟩:=SR.binds s1 e (q2.dH iQ);refine⟨env',O',by simp only[bindAll];exact b1,b2,(f1.dH λj hj=>?_).trans (b3.dH λj hj=>Ww _ hj)⟩;rw[WD.mp hj];exact Wx
 |[],_::_,_,_,_,_,_,_,e,_=>by simp[bE]at e
 |_::_,[],_,_,_,_,_,_,e,_=>by simp[bE]at e
theorem SR.bind(s:SR A0 h0 aa env h O)(e:cQ p d aa=some au)(q:Dn (Al A0 O) h d v):∃env' O',eZ p v env=some env'/\SR A0 h0 au env' h O'/\Fm (stored p) aa env h O au env' h O':=by
 cases p with
 |one i=>simp only[cQ]at e;cases e;obtain⟨s1,f1⟩:=s.set (i:=i) q;exact⟨_,_,rfl,s1,f1⟩
 |tup is=>
  cases d<;>simp only[cQ]at e<;>first|(cases e;done)|skip
  rw[Dn]at q;obtain⟨vs,rfl,q⟩:=q;exact s.binds e q
theorem E8{a:Nat}(p:h0<+:h)(ha:h0.length<=a):h0<+:h.set a o:=by
 obtain⟨t,rfl⟩:=p;rw[List.set_append_right _ _ ha];exact Xi _ _
theorem SR.put(s:SR A0 h0 aa env h O){i a:Nat}{d d1:Val}(e:aa[i]?=some (some (.ow,d)))(ha:O i=some a)(q:OB (Al A0 O) h d1 ob) :
  SR A0 h0 (aa.set i (some (.ow,d1))) env (h.set a ob) O/\Fm [i] aa env h O (aa.set i (some (.ow,d1))) env (h.set a ob) O:=by
 obtain⟨o1,o2,_⟩:=s.own i a ha;have hi:i<aa.length:=(Wo.mp e).1;have mv:∀{A0:AP} (k:Nat) (o:Ob),Al A0 O k->h[k]?=some o->Al A0 O k/\(h.set a ob)[k]?=some o:=λk o hk g=>⟨hk,by rw[Ws λz=>hk.2 i rfl (by rw[<-z];exact ha)];exact g⟩;obtain⟨a0,e2,e3,_⟩:=s.ow i d e;refine⟨⟨by simp[s.len],λj m' d' ej hm'=>?_,λj d' ej=>?_,λj b ej=>?_,s.inj,E8 s.pre o1,s.up⟩,by simp,λk hk n=>⟨?_,n⟩,λj hj=>?_⟩
 ·by_cases hij:i=j
  ·subst hij;rw[Wz hi]at ej;cases ej;cases hm'
  ·rw[Ws hij]at ej;obtain⟨w,k1,k2,k3⟩:=s.sh j m' d' ej hm';exact⟨w,k1,Dn.move nO mv _ _ k2,λz=>Dn.move nO mv _ _ (k3 z)⟩
 ·by_cases hij:i=j
  ·subst hij;rw[Wz hi]at ej;cases ej;rw[ha]at e3;cases e3;exact⟨a,e2,ha,q.od (by rw[Wz o2]) λ_ _ z=>av.move nO mv _ _ z⟩
  ·rw[Ws hij]at ej;obtain⟨a1,k2,k3,k4⟩:=s.ow j d' ej;have:a≠a1:=λz=>hij (s.inj i j a ha (by rw[z];exact k3));exact⟨a1,k2,k3,k4.mono (λ_ g=>by rw[Ws this];exact g) λ_ _ z=>av.move nO mv _ _ z⟩
 ·obtain⟨k1,k2,d',k3⟩:=s.own j b ej
  refine⟨k1,by simp[k2],?_⟩
  by_cases hij:i=j
  ·subst hij;exact⟨_,by rw[Wz hi]⟩
  ·exact⟨d',by rw[Ws hij];exact k3⟩
 ·rw[Ws λz=>n i (by rw[<-z];exact ha)]
 ·have hj':j≠i:=by simpa using hj
  exact⟨rfl,Ws (λz=>hj' z.symm),rfl,λb eb=>by rw[Ws λz=>hj' (s.inj j i b eb (by rw[<-z];exact ha))]⟩
def pY(O:Nat->Option Nat)(i a:Nat):Nat->Option Nat:=λj=>if j=i then some a else O j
theorem SR.fresh(s:SR A0 h0 aa env h O){i:Nat}{d1:Val}{h2:Hs}(p:h<+:h2)(q:OB (Al A0 O) h2 d1 ob) :
  SR A0 h0 (aa.set i (some (.ow,d1))) (env.set i (some (.ref h2.length))) (h2++[ob]) (if i<aa.length then pY O i h2.length else fK O i) /\
   Fm [i] aa env h O (aa.set i (some (.ow,d1))) (env.set i (some (.ref h2.length))) (h2++[ob]) (if i<aa.length then pY O i h2.length else fK O i):=by
 have pp:h<+:h2++[ob]:=p.trans (Xi _ _);have s2:=s.ext p;have mv:∀{A0:AP} (j:Nat),∀(k:Nat) (o:Ob),Al A0 O k->h2[k]?=some o->Al A0 (if i<aa.length then pY O i h2.length else fK O i) k/\(h2++[ob])[k]?=some o:=λ{A0} j k o hk g=>by
  have hlt:k<h2.length:=(Wo.mp g).1;refine⟨?_,by rw[WE hlt];exact g⟩
  split
  ·refine⟨hk.1,λl _=>?_⟩
   unfold pY
   split
   ·intro z;cases z;omega
   ·exact hk.2 l rfl
  ·exact iQ k hk
 by_cases hi:i<aa.length
 ·rw[Wu hi]at mv |-
  refine⟨⟨by simp[s.len],λj m' d' ej hm'=>?_,λj d' ej=>?_,λj b ej=>?_,λj l b e1 e2=>?_,s.pre.trans pp,s.up⟩,pp.length_le,λk hk n=>⟨iy pp hk,λl=>?_⟩,λj hj=>?_⟩
  ·by_cases hij:i=j
   ·subst hij;rw[Wz hi]at ej;cases ej;cases hm'
   ·rw[Ws hij]at ej;rw[Ws hij];obtain⟨w,k1,k2,k3⟩:=s2.sh j m' d' ej hm';exact⟨w,k1,Dn.move jm (mv 0) _ _ k2,λz=>Dn.move jm (mv 0) _ _ (k3 z)⟩
  ·by_cases hij:i=j
   ·subst hij;rw[Wz hi]at ej;cases ej;exact⟨h2.length,by rw[Wz (by rw[<-s.len];exact hi)],by unfold pY;rw[Wu rfl],q.od (by simp) λ_ _ z=>av.move jm (mv 0) _ _ z⟩
   ·rw[Ws hij]at ej;rw[Ws hij];obtain⟨a1,k2,k3,k4⟩:=s2.ow j d' ej;have hlt:a1<h2.length:=k4.lt;exact⟨a1,k2,by unfold pY;rw[Wt λz=>hij z.symm];exact k3,k4.mono (λ_ g=>by rw[WE hlt];exact g) λ_ _ z=>av.move jm (mv 0) _ _ z⟩
  ·unfold pY at ej
   split at ej
   ·rename_i hj;cases ej;subst hj;exact⟨WZ s.pre.length_le p.length_le,by simp,_,by rw[Wz hi]⟩
   ·rename_i hj;obtain⟨k1,k2,d',k3⟩:=s2.own j b ej;exact⟨k1,by simp;omega,d',by rw[Ws λz=>hj z.symm];exact k3⟩
  ·unfold pY at e1 e2
   split at e1
   ·rename_i h1;cases e1
    split at e2
    ·rename_i h3;rw[h1,h3]
    ·have:=(s2.own l _ e2).2.1;omega
   ·split at e2
    ·cases e2;have:=(s2.own j _ e1).2.1;omega
    ·exact s.inj j l b e1 e2
  ·unfold pY;split
   ·intro z;cases z;have:=p.length_le;omega
   ·exact n l
  ·have hj':j≠i:=by simpa using hj
   exact⟨by unfold pY;rw[Wt hj'],Ws (λz=>hj' z.symm),Ws (λz=>hj' z.symm),λb eb=>iy pp (s.own j b eb).2.1⟩
 ·rw[Wt hi]at mv |-
  have e1:aa.set i (some (.ow,d1))=aa:=Yd (by omega);have e2:env.set i (some (.ref h2.length))=env:=Yd (by rw[<-s.len];omega);have e3:fK O i=O:=by
   funext j;unfold fK;split
   ·rename_i hj;subst hj
    cases e:O j with
    |none=>rfl
    |some a=>obtain⟨_,_,d,k⟩:=s.own j a e;exact absurd (Wo.mp k).1 hi
   ·rfl
  rw[e1,e2,e3];exact⟨s.ext pp,Fm.refl s pp⟩
end
section
variable {Φ:Nat->List Val->M Val} {Ψ:Nat->List Val->Pr FV} {A:AP} {h h1:Hs}
def isRef:Val->Bool
 |.rl _=>true
 |.dc _ _=>true
 |_=>false
def RN(A:AP)(h:Hs):FV->Hs->Val->Prop:=λx h' v=>isRef x.2=true->∃h2 o,h'=h2++[o]/\v=.ref h2.length/\h<+:h2/\OB A h2 x.2 o
def GP(Φ:Nat->List Val->M Val)(Ψ:Nat->List Val->Pr FV)(ir:IE):Prop:=∀(aa:aP) (env:Env) (A:AP) (h:Hs),Up A h->ER A aa env h->Rel A h (RN A h) (aJ Φ ir env h) (aX Ψ ir aa)
theorem jn{f:Bool}{h0:Hs}(p:h0<+:h)(q:av A h xs vs):Rel A h (RN A h0) (new (.lst vs) h) (.ok (f,.rl xs)) :=
 ⟨_,_,rfl,cY _,λ_=>⟨h,.lst vs,rfl,rfl,p,vs,rfl,q⟩⟩
theorem Ks:GP Φ Ψ .dct0:=λaa env A h u e=>by
 rw[aJ,aX];exact⟨_,_,rfl,cY _,λ_=>⟨h,.dct [],rfl,rfl,WK _,[],rfl,rfl,av.nil⟩⟩
theorem Ku(hk:bK Φ Ψ k)(hv:bK Φ Ψ v):GP Φ Ψ (.dct1 k v):=λaa env A h u e=>by
 rw[aJ,aX];refine ai (hk aa env A h u e) λx h1 w p1 q1=>ai (R:=λkk _ kk'=>kk'=kk) (bJ λkk ek=>⟨kk,wG q1.1 ek,rfl⟩) λkk h2 kk' p2 hkk=>?_;subst hkk;refine ai (hv aa env A h2 ((u.ext p1).ext p2) ((e.ext p1).ext p2)) λy h3 z p3 q3=>?_;exact⟨_,_,rfl,cY _,λ_=>⟨h3,.dct [(kk',z)],rfl,rfl,(p1.trans p2).trans p3,[(kk',z)],rfl,rfl,av.cons q3.1 av.nil⟩⟩
theorem N5(hs:jV Φ Ψ es):GP Φ Ψ (.lst es):=λaa env A h u e=>by
 rw[aJ,aX];exact ai (hs.1 aa env A h u e) λx h1 vs p1 q1=>bT (λz=>by rw[<-q1.1.length];exact z) λ_=>jn p1 q1.1
theorem N6(ha:bK Φ Ψ a)(hl:bK Φ Ψ lo)(hh:bK Φ Ψ hi):GP Φ Ψ (.slc a lo hi):=λaa env A h u e=>by
 rw[aJ,aX];refine ai (nD ha u e) λx h1 v p1 q1=>ai (lE hl (u.ext p1) (e.ext p1)) λl h2 l' p2 el=>ai (lE hh ((u.ext p1).ext p2) ((e.ext p1).ext p2)) λr h3 r' p3 er=>?_;subst el;subst er;have q1:=DB.ext (p2.trans p3) q1;obtain⟨f,d⟩:=x;cases d with
 |tup ds=>obtain⟨vs,rfl,q⟩:=DB.tup q1;have l:=q.length;simp only[zO,pV];exact bT (λz=>by rw[l]at z;exact z) λ_=>aD λe=>by cases e
 |rl ds=>
  obtain⟨vs,e1,q⟩:=DB.lst q1;have ev:pV v l' r' h3=new (.lst (cU vs l' r')) h3:=by
   have:pV v l' r'=bnd (ask λh=>aF h v) λxs=>new (.lst (cU xs l' r')):=by cases v<;>simp only[aF]at e1<;>first|(cases e1;done)|rfl
   rw[this];unfold bnd ask bf;dsimp only;rw[e1]
  rw[ev];exact jn ((p1.trans p2).trans p3) (q.cut l' r')
 |_=>trivial
theorem Kv(hs:jV Φ Ψ es):GP Φ Ψ (.blt .list es):=λaa env A h u e=>by
 rw[aJ,aX];refine ai (hs.2 aa env A h u e) λds h1 vs p1 q1=>?_
 match ds,q1 with
 |[],q1=>trivial
 |[d],q1=>obtain⟨v,rfl,hv⟩:=q1.one;exact ai (R:=λxs h' ws=>av A h' xs ws) (cN λxs e=>hv.seq e) λxs h2 ws p2 q=>jn (p1.trans p2) q
 |_::_::_,_=>trivial
theorem B9(hs:jV Φ Ψ es):GP Φ Ψ (.blt .sorted es):=λaa env A h u e=>by
 rw[aJ,aX];refine ai (hs.2 aa env A h u e) λds h1 vs p1 q1=>?_
 match ds,q1 with
 |[],q1=>trivial
 |[d],q1=>
  obtain⟨v,rfl,hv⟩:=q1.one;cases d<;>first|trivial|skip
  rename_i xs;obtain⟨ws,e1,q⟩:=hv.lst;have ev:bnd (ask λh=>aF h v) (λxs=>bnd (bf (gg xs)) λys=>new (.lst ys)) h1=bnd (bf (gg ws)) (λys=>new (.lst ys)) h1:=by unfold bnd ask bf;dsimp only;rw[e1]
  show Rel A h1 (RN A h) (bnd (ask λh=>aF h v) (λxs=>bnd (bf (gg xs)) λys=>new (.lst ys)) h1) _;rw[ev];refine ai (R:=λys _ zs=>zs=ys/\bR ys=true) (bJ λys e=>?_) λys h2 zs p2 hz=>?_
  ·obtain⟨i1,i2⟩:=qO e;rw[(bq xs ws i1).mp q];exact⟨ys,e,rfl,i2⟩
  ·obtain⟨rfl,hi⟩:=hz;exact jn (p1.trans p2) ((bq _ _ hi).mpr rfl)
 |x::_::_,_=>cases x<;>trivial
theorem Kw(hs:jV Φ Ψ it)(hc:bK Φ Ψ c)(he:bK Φ Ψ elt):GP Φ Ψ (.comp N js pat k it c elt):=λaa env A h u e=>by
 rw[aJ,aX];refine ai (hs.2 aa env A h u e) λds h1 vs p1 q1=>ai (yl q1) λxs h2 src p2 q2=>?_;obtain⟨ws,q3,q4⟩:=q2;have l:=q3.length;have ev:∀(F:List Val->M Val),bnd (ask λh=>src.items h) F h2=F ws h2:=λF=>by unfold bnd ask bf;dsimp only;rw[q4 h2 (WK _)]
 rw[ev];refine bT (λz=>by rw[<-l];exact z) λ_=>?_;have u2:=(u.ext p1).ext p2;have e2:=(e.ext p1).ext p2;refine ai (oV (hb:=h) xs ws 0 [] h2 (p1.trans p2) u2 q4 rfl q3 λx v h' p' qx=>?_) λp h3 ys p3 hp=>?_
 ·refine ai (R:=λau _ env'=>∃_:ER A au env' h',True) (bJ λau ev'=>?_) λau h4 env' p4 he'=>?_
  ·obtain⟨env',a1,a2⟩:=uH ev' qx (yo (e2.ext p')) (by simp[iW,jg]);exact⟨env',a1,a2,trivial⟩
  ·obtain⟨er,_⟩:=he'
   have er:=er.ext p4;have u4:=(u2.ext p').ext p4;have Nu:Rel A h4 (λt _ t'=>t'=t) ((if cV c=true then ret true else bnd (aJ Φ c env') λv=>ask λh=>cC h v) h4) (if cV c=true then .ok true else pb (aX Ψ c au) λv=>pl (cC [] v.2)):=by
    by_cases hn:cV c=true
    ·rw[Wu hn,Wu hn];exact aD rfl
    ·rw[Wt hn,Wt hn];exact ai (hc au env' A h4 u4 er) λy h5 w p5 q5=>cN λt et=>⟨t,se q5.br et,rfl⟩
   refine ai Nu λt h5 t' p5 et=>?_;subst et;cases t' with
   |true=>rw[Wu rfl,Wu rfl];exact ai (he au env' A h5 (u4.ext p5) (er.ext p5)) λy h6 w p6 q6=>aD (q6.up ((p1.trans p2).trans (p'.trans (p4.trans p5))))
   |false=>rw[Wt Wm,Wt Wm];exact aD trivial
 ·obtain⟨zs,rfl,z1,z2⟩:=hp;exact jn ((p1.trans p2).trans p3) z1
theorem N7(hΦ:∀j,Imp (Φ j) (Ψ j))(hf:Rb e=true)(ho:cR e=true):GP Φ Ψ e:=by
 have V:=v_all hΦ;cases e<;>first|(cases hf;done)|skip
 ·exact N5 (V.2 _ ho)
 ·have ho:=nC ho;exact N6 (V.1 _ ho.1.1) (V.1 _ ho.1.2) (V.1 _ ho.2)
 ·rename_i b es
  change lF _=true at ho;cases b<;>first|(cases hf;done)|skip
  ·exact B9 (V.2 _ ho)
  ·exact Kv (V.2 _ ho)
 ·have ho:=nC ho;exact Kw (V.2 _ ho.1.1) (V.1 _ ho.1.2) (V.1 _ ho.2)
 ·exact Ks
 ·have ho:=bW ho;exact Ku (V.1 _ ho.1) (V.1 _ ho.2)
mutual
noncomputable def PX:IS->Bool
 |.expr e=>cR e
 |.asg _ e=>cR e
 |.aug _ _ e=>cR e
 |.g9 o i v=>cR o&&cR i&&cR v
 |.setF _ (.sdef _ k z) _ _=>cR k&&cR z
 |.iff c a b=>cR c&&oX a&&oX b
 |.for _ _ it b=>lF it&&oX b
 |.whl _ c b=>cR c&&oX b
 |.ret e=>cR e
 |_=>true
noncomputable def oX:cE->Bool
 |.nil=>true
 |.cons s r=>PX s&&oX r
end
def mS(s:IS):List Nat:=oQ s++lz s
def E9(s:cE):List Nat:=ig s++j6 s
variable {ms:List Nat}
def wJ(Φ:Nat->List Val->M Val)(Ψ:Nat->List Val->Pr FV)(ms:List Nat)(s:IS):Prop:=∀(A0:AP) (h0:Hs) (aa:aP) (env:Env) (h:Hs) (O:Nat->Option Nat),SR A0 h0 aa env h O->fO A0 h0 (RF A0 h0 (mS s) aa env h O) (fW Φ s env h) (bL Ψ ms s aa)
def su(Φ:Nat->List Val->M Val)(Ψ:Nat->List Val->Pr FV)(ms:List Nat)(s:cE):Prop:=∀(A0:AP) (h0:Hs) (aa:aP) (env:Env) (h:Hs) (O:Nat->Option Nat),SR A0 h0 aa env h O->fO A0 h0 (RF A0 h0 (E9 s) aa env h O) (jh Φ s env h) (aU Ψ ms s aa)
theorem Ca(he:bK Φ Ψ e)(hx:∀aa,bL Ψ ms (.expr e) aa=pb (aX Ψ e aa) λ_=>.ok (.nx aa)):wJ Φ Ψ ms (.expr e):=λA0 h0 aa env h O s=>by
 rw[fW,hx];exact bG s (he aa env _ h s.wI s.er) λx h1 v p1 q1=>bH ⟨O,s.ext p1,Fm.refl s p1⟩
theorem ak{α β γ:Type}(m:M α)(f:α -> M β)(g:β -> M γ):bnd (bnd m f) g=bnd m λx=>bnd (f x) g:=by
 funext h;show (match (match m h with|.ok a h'=>f a h'|.exc c vs h'=>.exc c vs h'|.no=>.no) with|.ok a h'=>g a h'|.exc c vs h'=>.exc c vs h'|.no=>.no)=(match m h with|.ok a h'=>bnd (f a) g h'|.exc c vs h'=>.exc c vs h'|.no=>.no);cases m h<;>rfl
theorem bu{α β:Type}{m:M α}{f:α -> M β}{a:α}{h h1:Hs}(e:m h=.ok a h1):bnd m f h=f a h1:=by unfold bnd;rw[e]
theorem cT{i:Nat}(e:env[i]?=some (some v)):aJ Φ (.var i) env h=.ok v h:=by rw[aJ,e];rfl
theorem zP{i:Nat}(ha:bK Φ Ψ a):wJ Φ Ψ ms (.expr (.met .append (.var i) #[a])):=λA0 h0 aa env h O s=>by
 rw[fW,bL];try dsimp only
 split
 ·rename_i ds hv
  obtain⟨b,e2,e3,vs,e4,e5⟩:=s.ow i _ hv;have ev:bnd (aJ Φ (.met .append (.var i) #[a]) env) (λ_=>ret (Fl.nx env)) h=bnd (aJ Φ a env) (λv=>bnd (met .append (.ref b) [v]) λ_=>ret (Fl.nx env)) h:=by
   rw[aJ,ak,bu (cT e2)];rw[ak,bu (a:=()) (h1:=h) (by unfold ask bf;simp[recv,e4])];rw[ak,bC,ak]
   congr 1
  rw[ev];refine bG s (ha aa env _ h s.wI s.er) λx h1 v p1 q1=>fP λhg=>?_;have s1:=s.ext p1;obtain⟨s2,f2⟩:=s1.put (d1:=.rl (ds++[x.2])) (ob:=.lst (vs++[v])) hv e3 ⟨_,rfl,(e5.ext p1).append (av.cons q1.1 av.nil)⟩;have l:=e5.length;refine⟨.nx env,h1.set b (.lst (vs++[v])),?_,O,s2,(Fm.refl s p1).trans (f2.dH λj hj=>?_)⟩
  ·have g:=bx p1 e4;unfold met bnd ask bf aH put ret;dsimp only;rw[g];dsimp only;rw[Wu (by rw[<-l];exact hg)]
  ·rw[WD.mp hj];exact W0 _ Wx
 ·trivial
theorem zQ{i:Nat}(ha:bK Φ Ψ a):wJ Φ Ψ ms (.expr (.met .extend (.var i) #[a])):=λA0 h0 aa env h O s=>by
 rw[fW,bL];try dsimp only
 split
 ·rename_i ds hv
  obtain⟨b,e2,e3,vs,e4,e5⟩:=s.ow i _ hv;have ev:bnd (aJ Φ (.met .extend (.var i) #[a]) env) (λ_=>ret (Fl.nx env)) h=bnd (aJ Φ a env) (λv=>bnd (met .extend (.ref b) [v]) λ_=>ret (Fl.nx env)) h:=by
   rw[aJ,ak,bu (cT e2)];rw[ak,bu (a:=()) (h1:=h) (by unfold ask bf;simp[recv,e4])];rw[ak,bC,ak]
   congr 1
  rw[ev];refine bG s (ha aa env _ h s.wI s.er) λx h1 v p1 q1=>?_;obtain⟨f,d⟩:=x;cases d<;>first|trivial|skip
  rename_i ts;have q:=q1.1;dsimp only at q;rw[Dn]at q;obtain⟨ws,rfl,q⟩:=q;refine fP λhg=>?_;have s1:=s.ext p1;obtain⟨s2,f2⟩:=s1.put (d1:=.rl (ds++ts)) (ob:=.lst (vs++ws)) hv e3 ⟨_,rfl,(e5.ext p1).append q⟩;have l:=e5.length;have l2:=q.length;refine⟨.nx env,h1.set b (.lst (vs++ws)),?_,O,s2,(Fm.refl s p1).trans (f2.dH λj hj=>?_)⟩
  ·have g:=bx p1 e4;unfold met bnd ask bf aH put ret qG;dsimp only;rw[g];dsimp only;rw[Wu (by rw[<-l,<-l2];exact hg)]
  ·rw[WD.mp hj];exact W0 _ Wx
 ·trivial
theorem Fb(hΦ:∀j,Imp (Φ j) (Ψ j))(ho:cR e=true):wJ Φ Ψ ms (.expr e):=by
 have V:=v_all hΦ;have gen:(∀aa,bL Ψ ms (.expr e) aa=pb (aX Ψ e aa) λ_=>.ok (.nx aa))->wJ Φ Ψ ms (.expr e):=λhx=>Ca (V.1 e ho) hx;cases e with
 |met m a es=>
  cases m with
  |join=>exact gen λaa=>by rw[bL]<;>(intros;simp_all)
  |append=>
   cases a with
   |var i=>
    cases es with
    |nil=>exact gen λaa=>by rw[bL]<;>(intros;simp_all)
    |cons x r=>
     cases r with
     |nil=>exact zP (V.1 x (bW (bW ho).2).1)
     |cons _ _=>exact gen λaa=>by rw[bL]<;>(intros;simp_all)
   |_=>exact gen λaa=>by rw[bL]<;>(intros;simp_all)
  |extend=>
   cases a with
   |var i=>
    cases es with
    |nil=>exact gen λaa=>by rw[bL]<;>(intros;simp_all)
    |cons x r=>
     cases r with
     |nil=>exact zQ (V.1 x (bW (bW ho).2).1)
     |cons _ _=>exact gen λaa=>by rw[bL]<;>(intros;simp_all)
   |_=>exact gen λaa=>by rw[bL]<;>(intros;simp_all)
  |remove=>exact gen λaa=>by rw[bL]<;>(intros;simp_all)
 |_=>exact gen λaa=>by rw[bL]<;>(intros;simp_all)
end
section
variable {Φ:Nat->List Val->M Val} {Ψ:Nat->List Val->Pr FV} {ms:List Nat}
theorem uI{i:Nat}{l:List Nat}(h:i∈l):∀j∈[i],j∈l:=λj hj=>by rw[WD.mp hj];exact h
theorem Ky(hΦ:∀j,Imp (Φ j) (Ψ j))(ho:cR e=true):wJ Φ Ψ ms (.asg p e):=λA0 h0 aa env h O s=>by
 have V:=(v_all hΦ).1 e ho;cases p with
 |one i=>
  rw[fW,bL];try dsimp only
  split
  ·refine fP λhf=>?_
   refine bG s (N7 hΦ hf ho aa env _ h s.wI s.er) λx h1 v p1 q1=>?_;obtain⟨f,d⟩:=x;cases d<;>first|trivial|skip
   ·obtain⟨h2,vs,rfl,rfl,p2,q2⟩:=q1 rfl;obtain⟨s2,f2⟩:=s.fresh (i:=i) p2 q2;exact⟨_,_,rfl,_,s2,f2.dH (uI (by simp[mS,lz,stored]))⟩
   ·obtain⟨h2,vs,rfl,rfl,p2,q2⟩:=q1 rfl;obtain⟨s2,f2⟩:=s.fresh (i:=i) p2 q2;exact⟨_,_,rfl,_,s2,f2.dH (uI (by simp[mS,lz,stored]))⟩
  ·refine bG s (V aa env _ h s.wI s.er) λx h1 v p1 q1=>?_
   have hnw:LR (fc x.1 x.2)=true->Dn (Al (Fr h0.length) O) h1 x.2 v:=λz=>by
    have hx:x.1=true:=by
     unfold fc at z;split at z
     ·rename_i hh;simp only[and_eq_true]at hh;exact hh.1
     ·cases z
    refine(q1.2 hx).dH λo ho=>?_;cases o with
    |none=>exact ho.elim
    |some k=>exact⟨WZ s.pre.length_le ho,λj _ e=>by have:=(s.own j k e).2.1;have ho':h.length<=k:=ho;omega⟩
   have hrd:pX (fc x.1 x.2)=true:=by unfold fc;split<;>rfl
   obtain⟨s2,f2⟩:=(s.ext p1).setM (i:=i) hrd q1.1 hnw;exact⟨_,_,rfl,_,s2,(Fm.refl s p1).trans (f2.dH (uI (by simp[mS,lz,stored])))⟩
 |tup is=>
  rw[fW,bL];try dsimp only
  refine fP λhf=>bG s (V aa env _ h s.wI s.er) λx h1 v p1 q1=>?_;have s1:=s.ext p1;refine bG s1 (R:=λau h' env'=>∃O',SR A0 h0 au env' h' O'/\Fm (stored (.tup is)) aa env h1 O au env' h' O') (bJ λau ev=>?_) λau h2 env' p2 hh=>?_
  ·obtain⟨env',O',b1,b2,b3⟩:=s1.bind ev q1.1;exact⟨env',b1,O',b2,b3⟩
  ·obtain⟨O',b2,b3⟩:=hh;exact bH ⟨O',b2,(Fm.refl s p1).trans (b3.dH λj hj=>by simp only[mS,lz];exact WU _ hj)⟩
theorem Kz{i:Nat}(hΦ:∀j,Imp (Φ j) (Ψ j))(ho:cR e=true):wJ Φ Ψ ms (.aug i o e):=λA0 h0 aa env h O s=>by rw[bL];trivial
theorem yq(k:Key)(l:List (Key×Val)):(l.any λkv=>decide (kv.1=k))=((l.map (·.1)).any λx=>decide (x=k)):=by
 rw[List.any_map];rfl
theorem yr(e:Dn A h d v):∀{kvs:List (Key×Val)} {ds:List Val},av A h ds (kvs.map (·.2)) ->
  av A h ((((kvs.map (·.1)).zip ds).map λkv=>if kv.1=k then (kv.1,d) else kv).map (·.2)) ((kvs.map λkv=>if kv.1=k then (kv.1,v) else kv).map (·.2))
 |[],ds,q=>by simp only[map_nil,List.zip_nil_left];exact av.nil
 | (k',v')::kvs,ds,q=>by
  have l:=q.length;cases ds with
  |nil=>simp at l
  |cons d' ds=>
   simp only[map_cons]at q;rw[av]at q;obtain⟨v1,r,e1,q1,q2⟩:=q;cases e1;simp only[map_cons,zip_cons_cons];refine av.cons ?_ (yr e q2)
   by_cases hk:k'=k
   ·rw[Wu hk,Wu hk];exact e
   ·rw[Wt hk,Wt hk];exact q1
theorem mQ(k:Key)(d:Val)(l:List (Key×Val)):(l.map λkv=>if kv.1=k then (kv.1,d) else kv).map (·.1)=l.map (·.1):=by
 rw[W4];refine Xc λx _=>?_;show (if x.1=k then (x.1,d) else x).1=x.1
 split<;>rfl
theorem yt(hk:kvs.map (·.1)=ks)(q:av A h ds (kvs.map (·.2)))(e:Dn A h d v) :
  (gU kvs k v).map (·.1)=(gU (ks.zip ds) k d).map (·.1)/\av A h ((gU (ks.zip ds) k d).map (·.2)) ((gU kvs k v).map (·.2)):=by
 subst hk;have l:=q.length;rw[Wr]at l;have z1:((kvs.map (·.1)).zip ds).map (·.1)=kvs.map (·.1):=List.map_fst_zip (by rw[Wr];omega);have z2:((kvs.map (·.1)).zip ds).map (·.2)=ds:=List.map_snd_zip (by rw[Wr];omega);unfold gU;rw[yq,yq,z1]
 split
 ·rw[mQ,mQ,z1];exact⟨rfl,yr e q⟩
 ·rw[XM,XM,XM,XM,z1,z2];exact⟨rfl,q.append (av.cons e av.nil)⟩
theorem Fc(hΦ:∀j,Imp (Φ j) (Ψ j))(ho:cR o=true)(hi:cR i=true)(hv:cR v=true):wJ Φ Ψ ms (.g9 o i v):=λA0 h0 aa env h O s=>by
 have V:=(v_all hΦ).1;cases o with
 |var j=>
  rw[fW,bL];refine bG s (V v hv aa env _ h s.wI s.er) λx h1 w p1 q1=>?_;have s1:=s.ext p1
  split
  ·rename_i ds hj
   obtain⟨b,e2,e3,vs,e4,e5⟩:=s1.ow j _ hj;rw[bu (cT e2)];refine bG s1 (V i hi aa env _ h1 s1.wI s1.er) λz h2 u p2 q2=>?_;have s2:=s1.ext p2;obtain⟨f,d⟩:=z;have q:=q2.1;cases d<;>first|trivial|skip
   dsimp only at q;rw[Dn]at q;subst q;rename_i kk;have g:=bx p2 e4;have l:=e5.length;show fO A0 h0 _ _ (pb (pl (tH ds.length kk)) _);cases hn:tH ds.length kk with
   |none=>trivial
   |some n=>obtain⟨s3,f3⟩:=s2.put (d1:=.rl (ds.set n x.2)) (ob:=.lst (vs.set n w)) hj e3 ⟨_,rfl,(e5.ext p2).set n (q1.1.ext p2)⟩;refine⟨.nx env,h2.set b (.lst (vs.set n w)),?_,O,s3,(Fm.refl s (p1.trans p2)).trans (f3.dH (uI (by simp[mS,oQ])))⟩;rw[l]at hn;simp only[ue];unfold bnd ask bf put ret;dsimp only;rw[g];dsimp only;rw[hn]
  ·rename_i ks ds hj
   obtain⟨b,e2,e3,kvs,e4,ek,e5⟩:=s1.ow j _ hj;rw[bu (cT e2)];refine bG s1 (V i hi aa env _ h1 s1.wI s1.er) λz h2 u p2 q2=>?_;have s2:=s1.ext p2;obtain⟨f,d⟩:=z;have q:=q2.1;dsimp only at q;show fO A0 h0 _ _ (pb (pl (keyOf d)) _);cases hk:keyOf d with
   |none=>trivial
   |some kk=>
    have hu:keyOf u=some kk:=by
     cases d<;>simp only[keyOf]at hk<;>first|(cases hk;done)|skip
     all_goals (rw[Dn]at q;subst q;exact hk)
    show fO A0 h0 _ _ (pg _ _);refine fP λhl=>?_;have g:=bx p2 e4;obtain⟨k1,k2⟩:=yt (k:=kk) ek (e5.ext p2) (q1.1.ext p2);obtain⟨s3,f3⟩:=s2.put (d1:=putD ks ds kk x.2) (ob:=.dct (gU kvs kk w)) hj e3 ⟨_,rfl,k1,k2⟩;refine⟨.nx env,h2.set b (.dct (gU kvs kk w)),?_,O,s3,(Fm.refl s (p1.trans p2)).trans (f3.dH (uI (by simp[mS,oQ])))⟩;have hl':decide (kvs.length<sizeLine)=true:=by rw[<-ek,Wr]at hl;exact hl
    simp only[ue];unfold bnd ask bf put ret aH;dsimp only;rw[g];dsimp only;rw[hu];dsimp only;rw[Wu hl']
  ·trivial
 |_=>rw[bL]<;>first|trivial|(intros;simp_all)
theorem KA(hΦ:∀j,Imp (Φ j) (Ψ j))(hc:cR c=true)(ha:su Φ Ψ ms a)(hb:su Φ Ψ ms b):wJ Φ Ψ ms (.iff c a b):=λA0 h0 aa env h O s=>by
 have V:=(v_all hΦ).1 c hc;rw[fW,bL];refine bG s (nD V s.wI s.er) λx h1 v p1 q1=>?_;have s1:=s.ext p1;refine bG s1 (R:=λt _ t'=>t'=t) (cN λt et=>⟨t,se q1 et,rfl⟩) λt h2 t' p2 et=>?_;subst et;have s2:=s1.ext p2;cases t' with
 |true=>
  rw[Wu rfl,Wu rfl];refine iA (ha A0 h0 aa env h2 O s2) λf h' g r=>(r.pre s (p1.trans p2)).dH λi hi=>?_;simp only[E9,mS,oQ,lz,mem_append]at hi |-
  rcases hi with z|z
  ·exact .inl (.inl z)
  ·exact .inr (.inl z)
 |false=>
  rw[Wt Wm,Wt Wm];refine iA (hb A0 h0 aa env h2 O s2) λf h' g r=>(r.pre s (p1.trans p2)).dH λi hi=>?_;simp only[E9,mS,oQ,lz,mem_append]at hi |-
  rcases hi with z|z
  ·exact .inl (.inr z)
  ·exact .inr (.inr z)
def wK(h:Hs)(O:Nat->Option Nat)(m:List Nat)(src:Src)(ws:List Val):Prop :=
 ∀h':Hs,(∀k,k<h.length->(∀i,O i≠some k)->h'[k]?=h[k]?)->(∀i,i∉m->∀a,O i=some a->h'[a]?=h[a]?)->src.items h'=some ws
theorem eN{i:Nat}(e:h[i]?=some (.lst ws)):(Src.live i).items h=some ws:=by simp[Src.items,aF,e]
theorem eO{i:Nat}(e:h[i]?=some (.lst ws)):(Src.enum i).items h=some (cD 0 ws):=by simp[Src.items,aF,e]
theorem uJ{A0:AP}{h0:Hs}{m:List Nat}(hb:∀aa env h O x v,SR A0 h0 aa env h O->Dn (Al A0 O) h x v->fO A0 h0 (RF A0 h0 m aa env h O) (body v env h) (bodyV x aa))
  {lG:aP} {sj:Env} {h1:Hs} {O1:Nat->Option Nat} (st:wK h1 O1 m src ws) :
  ∀(xs vs:List Val) (i:Nat) (aa:aP) (env:Env) (h:Hs) (O:Nat->Option Nat),SR A0 h0 aa env h O->Fm m lG sj h1 O1 aa env h O->ws.drop i=vs->av (Al A0 O) h xs vs ->
   fO A0 h0 (RF A0 h0 m lG sj h1 O1) (forM src body vs.length i env h) (fN bodyV xs aa)
 | [],vs,i,aa,env,h,O,s,f,hd,q=>by
  rw[av]at q;subst q;have hl:ws.length<=i:=YF.mp hd;have hi:=st h (λk hk n=>(f.keep k hk n).1) (λj hj a e=>(f.stay j hj).2.2.2 a e);rw[fN];refine⟨.nx env,h,?_,O,s,f⟩;show forM src body 0 i env h=_;simp only[forM];unfold bnd ask bf aH;dsimp only;rw[hi];dsimp only;rw[Wu (decide_eq_true hl)];rfl
 | x::xs,vs,i,aa,env,h,O,s,f,hd,q=>by
  rw[av]at q;obtain⟨v,r,rfl,q1,q2⟩:=q;have hv:ws[i]?=some v:=by have:=Xf (λl=>l[0]?) hd;simpa using this
  have hr:ws.drop (i+1)=r:=by
   have:ws.drop (i+1)=(ws.drop i).drop 1:=by rw[Y4]
   rw[this,hd];rfl
  have hi:=st h (λk hk n=>(f.keep k hk n).1) (λj hj a e=>(f.stay j hj).2.2.2 a e);have ev:forM src body (v::r).length i env h=bnd (body v env) (λf=>match f with
   |.nx env'=>forM src body r.length (i+1) env'
   |.ct env'=>forM src body r.length (i+1) env'
   |.bk env'=>ret (.nx env')
   |.rt v=>ret (.rt v)) h:=by
   show forM src body (r.length+1) i env h=_;simp only[forM];unfold bnd ask bf;dsimp only;rw[hi];dsimp only;rw[hv];try rfl
  rw[ev,fN];refine oW (hb aa env h O x v s q1) λfl h2 gl hr2=>?_;have go:∀au env' O',SR A0 h0 au env' h2 O'->Fm m aa env h O au env' h2 O'->fO A0 h0 (RF A0 h0 m lG sj h1 O1) (forM src body r.length (i+1) env' h2) (fN bodyV xs au):=λau env' O' s' f'=>by
   refine uJ hb st xs r (i+1) au env' h2 O' s' (f.trans f') hr (av.move jm (λk o hk g=>?_) _ _ q2);have hlt:k<h.length:=(Wo.mp g).1;obtain⟨a1,a2⟩:=f'.keep k hlt λi=>hk.2 i rfl;exact⟨⟨hk.1,λi _=>a2 i⟩,a1.trans g⟩
  cases fl<;>cases gl<;>first|exact hr2.elim|skip
  ·obtain⟨O',s',f'⟩:=hr2;exact go _ _ O' s' f'
  ·exact bH hr2
  ·obtain⟨O',s',f'⟩:=hr2;exact bH ⟨O',s',f.trans f'⟩
  ·obtain⟨O',s',f'⟩:=hr2;exact go _ _ O' s' f'
theorem Cb{A0:AP}{m:List Nat}(q:Dn (Al A0 O) h d v)(e:gx k [d]=some xs):∃src ws,srcOf k [v]=some src/\av (Al A0 O) h xs ws/\src.items h=some ws/\wK h O m src ws:=by
 have lst:∀es,d=.rl es->(∃ws,v=.rl ws/\av (Al A0 O) h es ws)\/∃a ws,v=.ref a/\h[a]?=some (.lst ws)/\av (Al A0 O) h es ws/\∀h':Hs,(∀k,k<h.length->(∀i,O i≠some k)->h'[k]?=h[k]?)->h'[a]?=some (Ob.lst ws):=by
  rintro es rfl;rw[Dn]at q
  rcases q with ⟨ws,rfl,_,q⟩|⟨a,ws,rfl,al,g,q⟩
  ·exact .inl ⟨ws,rfl,q⟩
  ·exact .inr ⟨a,ws,rfl,g,q,λh' hk=>(hk a (Wo.mp g).1 λi=>al.2 i rfl).trans g⟩
 cases k with
 |seq=>
  cases d<;>first|(cases e;done)|skip
  ·cases e;rw[Dn]at q;obtain⟨ws,rfl,q⟩:=q;exact⟨.fix ws,ws,rfl,q,rfl,λ_ _ _=>rfl⟩
  ·cases e
   rcases lst _ rfl with ⟨ws,rfl,q'⟩|⟨a,ws,rfl,g,q',st⟩
   ·exact⟨.fix ws,ws,rfl,q',rfl,λ_ _ _=>rfl⟩
   ·exact⟨.live a,ws,rfl,q',eN g,λh' hk _=>eN (st h' hk)⟩
 |range=>
  cases d<;>first|(cases e;done)|skip
  rw[Dn]at q;subst q;rename_i n;change (if inR n=true then some (bZ 0 n.toNat) else none)=some _ at e;split at e
  ·rename_i hn;cases e;exact⟨.fix _,_,Wu hn,iw,rfl,λ_ _ _=>rfl⟩
  ·cases e
 |enum=>
  cases d<;>first|(cases e;done)|skip
  cases e
  rcases lst _ rfl with ⟨ws,rfl,q'⟩|⟨a,ws,rfl,g,q',st⟩
  ·exact⟨.fix _,_,rfl,ff 0 q',rfl,λ_ _ _=>rfl⟩
  ·exact⟨.enum a,_,rfl,ff 0 q',eO g,λh' hk _=>eO (st h' hk)⟩
 |zip=>cases e
theorem Cc{α β γ δ:Type}{R:α -> Hs -> β -> Prop}{R':γ -> Hs -> δ -> Prop}{m:M β}{f:β -> M δ}{p:Pr α}{F:α -> Pr γ}(r:Rel A h R (m h) p)(k:∀a h1 b,p=.ok a->h<+:h1->R a h1 b->Rel A h1 R' (f b h1) (F a)):Rel A h R' (bnd m f h) (pb p F):=by
 unfold bnd;cases p with
 |ok a=>
  obtain⟨b,h1,e,q,r⟩:=r;rw[e];show Rel A h R' (f b h1) (F a);have:=k a h1 b rfl q r;cases e2:F a with
  |ok c=>rw[e2]at this;obtain⟨d,h2,e3,q2,r2⟩:=this;exact⟨d,h2,e3,q.trans q2,r2⟩
  |exc c es=>rw[e2]at this;obtain⟨d,h2,e3,q2,r2⟩:=this;exact⟨d,h2,e3,q.trans q2,r2⟩
  |no=>trivial
 |exc c es=>obtain⟨ws,h1,e,q,r⟩:=r;rw[e];exact⟨ws,h1,rfl,q,r⟩
 |no=>trivial
theorem Cd{e e2:IE}(h:fH Ψ (.cons e (.cons e2 r)) aa=.ok ds):2<=ds.length:=by
 rw[fH,fH]at h;cases h1:(if isVar e=true then pl (jb aa e) else aX Ψ e aa) with
 |ok a=>
  rw[h1]at h;cases h2:(if isVar e2=true then pl (jb aa e2) else aX Ψ e2 aa) with
  |ok b=>
   rw[h2]at h;cases h3:fH Ψ r aa with
   |ok c=>rw[h3]at h;cases h;simp
   |exc _ _=>rw[h3]at h;cases h
   |no=>rw[h3]at h;cases h
  |exc _ _=>rw[h2]at h;cases h
  |no=>rw[h2]at h;cases h
 |exc _ _=>rw[h1]at h;cases h
 |no=>rw[h1]at h;cases h
theorem Ce{d1 d2:Val}(ex:gx k [d1,d2]=some xs):k=.range/\∃n m,d1=.int n/\d2=.int m/\(inR n&&inR m)=true/\xs=bZ n (m-n).toNat:=by
 cases k with
 |seq=>cases d1<;>cases ex
 |enum=>cases d1<;>cases ex
 |zip=>cases ex
 |range=>
  cases d1<;>first|(cases ex;done)|skip
  cases d2<;>first|(cases ex;done)|skip
  rename_i n m;change (if (inR n&&inR m)=true then some (bZ n (m-n).toNat) else none)=some xs at ex
  by_cases hn:(inR n&&inR m)=true
  ·rw[Wu hn]at ex;cases ex;exact⟨rfl,n,m,rfl,rfl,hn,rfl⟩
  ·rw[Wt hn]at ex;cases ex
theorem wL{d1 d2 d3:Val}:gx k (d1::d2::d3::r)=none:=by
 cases k with
 |seq=>cases d1<;>rfl
 |enum=>cases d1<;>rfl
 |zip=>rfl
 |range=>cases d1<;>first|rfl|(cases d2<;>rfl)
theorem Fd{A0:AP}{h0:Hs}{m:List Nat}(hΦ:∀j,Imp (Φ j) (Ψ j))(hi:lF it=true)(s:SR A0 h0 aa env h O)(hm:∀i,it=.cons (.var i) .nil->i∉m) :
  Rel (Al A0 O) h (λxs h' src=>∃ws,av (Al A0 O) h' xs ws/\src.items h'=some ws/\wK h' O m src ws) (bnd (bC Φ it env) (λits=>bf (srcOf k its)) h) (pb (fH Ψ it aa) λits=>pl (gx k its)):=by
 have V:=v_all hΦ;cases it with
 |nil=>rw[fH];cases k<;>trivial
 |cons e es=>
  cases es with
  |nil=>
   replace hi:=bW hi
   by_cases hv:isVar e=true
   ·cases e<;>first|(cases hv;done)|skip
    rename_i i;rw[fH,fH,Wu hv];simp only[jb];cases hx:aa[i]? with
    |none=>trivial
    |some o=>
     cases o with
     |none=>trivial
     |some fd=>
      obtain⟨f,d⟩:=fd;show Rel _ _ _ _ (pl (gx k [d]));cases hf:pX f with
      |false=>
       have hf:f=.ow:=by cases f<;>first|rfl|cases hf
       subst hf;obtain⟨a,e2,e3,e4⟩:=s.ow i d hx;have ev:bnd (bC Φ #[.var i] env) (λits=>bf (srcOf k its)) h=bf (srcOf k [.ref a]) h:=by rw[bC,bC,ak,bu (cT e2)];rfl
       rw[ev];refine bJ λxs ex=>?_;have hd:∃ds,d=.rl ds:=by cases d<;>first|exact⟨_,rfl⟩|exact False.elim e4|(cases k<;>cases ex)
       obtain⟨ds,rfl⟩:=hd;obtain⟨vs,e4,e5⟩:=e4;have st:∀h':Hs,(∀i,i∉m->∀a,O i=some a->h'[a]?=h[a]?)->h'[a]?=some (Ob.lst vs):=λh' hs=>(hs i (hm i rfl) a e3).trans e4;cases k with
       |seq=>cases ex;exact⟨.live a,rfl,vs,e5,eN e4,λh' _ hs=>eN (st h' hs)⟩
       |range=>cases ex
       |enum=>cases ex;exact⟨.enum a,rfl,_,ff 0 e5,eO e4,λh' _ hs=>eO (st h' hs)⟩
       |zip=>cases ex
      |true=>
       obtain⟨v,e1,e2,_⟩:=s.sh i f d hx hf;have ev:bnd (bC Φ #[.var i] env) (λits=>bf (srcOf k its)) h=bf (srcOf k [v]) h:=by rw[bC,bC,ak,bu (cT e1)];rfl
       rw[ev];refine bJ λxs ex=>?_;obtain⟨src,ws,a1,a2,a3,a4⟩:=Cb (m:=m) e2 ex;exact⟨src,a1,ws,a2,a3,a4⟩
   ·rw[fH,fH,Wt hv]
    have ev:bnd (bC Φ #[e] env) (λits=>bf (srcOf k its)) h=bnd (aJ Φ e env) (λv=>bf (srcOf k [v])) h:=by rw[bC,bC,ak];rfl
    rw[ev];have ep:(pb (pb (aX Ψ e aa) λd=>pb (Pr.ok ([]:List Val)) λp=>Pr.ok (d.2::p)) λits=>pl (gx k its))=pb (aX Ψ e aa) λd=>pl (gx k [d.2]):=by cases aX Ψ e aa<;>rfl
    rw[ep];refine ai (V.1 e hi.1 aa env _ h s.wI s.er) λx h1 v p1 q1=>bJ λxs ex=>?_;obtain⟨src,ws,a1,a2,a3,a4⟩:=Cb (m:=m) q1.1 ex;exact⟨src,a1,ws,a2,a3,a4⟩
  |cons e2 r=>
   have V2:=V.2 _ hi;refine Cc (V2.2 aa env _ h s.wI s.er) λds h1 vs eb p1 q1=>bJ λxs ex=>?_;have hl:2<=ds.length:=Cd eb
   match ds,q1 with
   |[],q1=>cases k<;>cases ex
   |[d],q1=>simp at hl
   |[d1,d2],q1=>obtain⟨v,rr,rfl,hv,hr⟩:=q1;obtain⟨w,rfl,hw⟩:=EU.one hr;obtain⟨rfl,n,m',rfl,rfl,hn,rfl⟩:=Ce ex;have:=hv.int;subst this;have:=hw.int;subst this;exact⟨.fix _,Wu hn,_,iw,rfl,λ_ _ _=>rfl⟩
   |d1::d2::d3::dr,q1=>rw[wL]at ex;cases ex
theorem KC(hΦ:∀j,Imp (Φ j) (Ψ j))(hi:lF it=true)(hb:su Φ Ψ ms body):wJ Φ Ψ ms (.for p k it body):=λA0 h0 aa env h O s=>by
 rw[fW,bL];refine fP λhg=>?_;rw[X8]at hg;have hm:∀i,it=.cons (.var i) .nil->i∉mS (.for p k it body):=by
  rintro i rfl z;simp only[uD,and_eq_true,not_eq_true',List.contains_eq_mem,decide_eq_false_iff_not]at hg;simp only[mS,oQ,lz,mem_append]at z
  rcases z with z|z|z
  ·exact hg.1.1.1 z
  ·exact hg.1.2 z
  ·exact hg.1.1.2 z
 have ev:∀(F:Src->M Fl),bnd (bC Φ it env) (λits=>bnd (bf (srcOf k its)) F) h=bnd (bnd (bC Φ it env) λits=>bf (srcOf k its)) F h:=λF=>by rw[ak]
 have ep:∀(F:List Val->Pr wD),pb (fH Ψ it aa) (λits=>pb (pl (gx k its)) F)=pb (pb (fH Ψ it aa) λits=>pl (gx k its)) F:=λF=>by cases fH Ψ it aa<;>rfl
 rw[ev,ep];refine bG s (Fd (m:=mS (.for p k it body)) hΦ hi s hm) λxs h1 src p1 hx=>?_;obtain⟨ws,q1,q2,st⟩:=hx;have s1:=s.ext p1;have l:=q1.length;have Rh:∀(F:List Val->M Fl),bnd (ask λh=>src.items h) F h1=F ws h1:=λF=>by unfold bnd ask bf;dsimp only;rw[q2]
 rw[Rh];refine iA (uJ (m:=mS (.for p k it body)) (λau env' h' O' x v s' qx=>?_) st xs ws 0 aa env h1 O s1 (Fm.refl s1 (WK _)) rfl q1) λf h' g r=>r.pre s p1;refine bG s' (R:=λiz h2 iP=>∃O2,SR A0 h0 iz iP h2 O2/\Fm (stored p) au env' h' O' iz iP h2 O2) (bJ λiz e2=>?_) λiz h2 iP p2 hh=>?_
 ·obtain⟨iP,O2,b1,b2,b3⟩:=s'.bind e2 qx;exact⟨iP,b1,O2,b2,b3⟩
 ·obtain⟨O2,b2,b3⟩:=hh
  refine iA (hb A0 h0 iz iP h2 O2 b2) λf h'' g r=>RF.seq (b3.dH λi hi=>?_) (r.dH λi hi=>?_)
  ·simp only[mS,oQ,lz,mem_append];exact .inr (.inl hi)
  ·simp only[E9,mS,oQ,lz,mem_append]at hi |-
   rcases hi with z|z
   ·exact .inl z
   ·exact .inr (.inr z)
theorem KD{n:Nat}(hΦ:∀j,Imp (Φ j) (Ψ j))(hc:cR c=true)(hb:su Φ Ψ ms body):wJ Φ Ψ ms (.whl n c body):=λA0 h0 aa env h O s=>by rw[bL];trivial
theorem GQ:pX (Sk m)=true:=by cases m<;>rfl
theorem SR.fr{A0:AP}{h0:Hs}(s:SR A0 h0 aa env h O):ER A0 (qZ aa) env h:=λi f d e=>by
 unfold qZ at e;rw[WO]at e;cases hx:aa[i]? with
 |none=>rw[hx]at e;cases e
 |some o=>
  rw[hx]at e;cases o with
  |none=>cases e
  |some fd=>
   obtain⟨m,d'⟩:=fd;cases e;rw[Wt (by rw[GQ];decide)];cases hm:pX m with
   |false=>
    have hm:m=.ow:=by cases m<;>first|rfl|cases hm
    subst hm;obtain⟨a,e2,e3,e4⟩:=s.ow i d hx;exact⟨_,e2,(e4.mono (A':=A0) (λ_ g=>g) λ_ _ z=>z.dH λ_ y=>y.1).dn (s.up a (s.own i a e3).1)⟩
   |true=>obtain⟨v,e1,e2,_⟩:=s.sh i m d hx hm;exact⟨v,e1,e2.dH λ_ z=>z.1⟩
theorem qP{A0:AP}{h0:Hs}{α β γ δ:Type}{R:α -> Hs -> β -> Prop}{R':γ -> Hs -> δ -> Prop}{mm:M β}{f:β -> M δ}{p:Pr α}{F:α -> Pr γ}(s:SR A0 h0 aa env h O)(r:Rel A0 h R (mm h) p)(k:∀a h1 b,h<+:h1->R a h1 b->fO A0 h0 R' (f b h1) (F a)):fO A0 h0 R' (bnd mm f h) (pb p F):=by
 unfold bnd;cases p with
 |ok a=>obtain⟨b,h1,e,q,r⟩:=r;rw[e];exact k a h1 b q r
 |exc c es=>obtain⟨ws,h1,e,q,r⟩:=r;rw[e];exact⟨ws,h1,rfl,s.pre.trans q,r⟩
 |no=>trivial
theorem zR(h:EO env es=some p):∃i j,es=.cons (.var i) #[.var j]/\env[i]?=some (some (.nw,p.1))/\env[j]?=some (some (.nw,p.2)):=by
 unfold EO at h;split at h
 ·split at h
  ·rename_i a b;cases h;exact⟨_,_,rfl,a,b⟩
  ·cases h
 ·cases h
theorem KG(hΦ:∀j,Imp (Φ j) (Ψ j))(ho:cR e=true):wJ Φ Ψ ms (.ret e):=λA0 h0 aa env h O s=>by
 have V:=(v_all hΦ).1 e ho;have gen:PU Ψ e aa=aX Ψ e aa->fO A0 h0 (RF A0 h0 (mS (.ret e)) aa env h O) (fW Φ (.ret e) env h) (bL Ψ ms (.ret e) aa):=λhe=>by
  rw[fW,bL,he];exact bG s (V aa env _ h s.wI s.er) λx h1 v p1 q1=>bH ⟨q1.1.dH λ_ z=>z.1,λf=>(q1.2 f).dH (Fr.le s.pre.length_le),s.pre.trans p1⟩
 cases e with
 |var i=>
  rw[fW,bL];simp only[PU];cases hx:aa[i]? with
  |none=>trivial
  |some o=>
   cases o with
   |none=>trivial
   |some fd=>
    obtain⟨f,d⟩:=fd;cases hf:pX f with
    |false=>
     have hf:f=.ow:=by cases f<;>first|rfl|cases hf
     subst hf;obtain⟨a,e2,e3,e4⟩:=s.ow i d hx;rw[bu (cT e2)];have ha:=s.own i a e3;cases d<;>first|exact False.elim e4|skip
     ·refine⟨_,h,rfl,?_,λhi=>?_,s.pre⟩
      ·exact(e4.mono (A':=A0) (λ_ g=>g) λ_ _ z=>z.dH λ_ y=>y.1).dn (s.up a ha.1)
      ·obtain⟨vs,e4,e5⟩:=e4;show Dn _ h (.rl _) (.ref a);rw[Dn];exact .inr ⟨a,vs,rfl,ha.1,e4,gk e5 hi⟩
     ·refine⟨_,h,rfl,?_,λhi=>?_,s.pre⟩
      ·exact(e4.mono (A':=A0) (λ_ g=>g) λ_ _ z=>z.dH λ_ y=>y.1).dn (s.up a ha.1)
      ·obtain⟨kvs,e4,ek,e5⟩:=e4;show Dn _ h (.dc _ _) (.ref a);rw[Dn];exact⟨a,kvs,rfl,ha.1,e4,ek,gk e5 hi⟩
    |true=>
     obtain⟨v,e1,e2,e3⟩:=s.sh i f d hx hf;rw[bu (cT e1)];dsimp only;rw[Wu hf];refine⟨_,h,rfl,e2.dH λ_ z=>z.1,λhi=>?_,s.pre⟩
     rcases(YY _ _).mp hi with hi|hi
     ·exact(gj d v hi).mpr ((gj d v hi).mp e2)
     ·exact(e3 hi).dH λ_ z=>z.1
 |call j es=>rw[fW,bL];exact qP s (V (qZ aa) env A0 h (s.up.ext s.pre) s.fr) λx h1 v p1 q1=>bH ⟨q1.1,λf=>(q1.2 f).dH (Fr.le s.pre.length_le),s.pre.trans p1⟩
 |tup es=>
  rw[fW,bL];change fO A0 h0 _ _ (pb (ES Ψ es aa) _);unfold ES
  split
  ·rename_i pp hp
   obtain⟨i,j,he,hi,hj⟩:=zR hp;subst he;obtain⟨v,e1,e2,e3⟩:=s.sh i .nw _ hi rfl;obtain⟨w,k1,k2,k3⟩:=s.sh j .nw _ hj rfl;have ev:aJ Φ (.tup #[.var i,.var j]) env h=.ok (.tup [v,w]) h:=by rw[aJ,bC,bC,bC];rw[bu (a:=[v,w]) (h1:=h) (by rw[bu (cT e1),bu (a:=[w]) (h1:=h) (by rw[bu (cT k1)];rfl)];rfl)];rfl
   rw[bu ev];refine⟨_,h,rfl,?_,λ_=>?_,s.pre⟩
   ·show Dn A0 h (.tup _) _;rw[Dn];exact⟨_,rfl,av.cons (e2.dH λ_ z=>z.1) (av.cons (k2.dH λ_ z=>z.1) av.nil)⟩
   ·show Dn (Fr h0.length) h (.tup _) _;rw[Dn];exact⟨_,rfl,av.cons ((e3 rfl).dH λ_ z=>z.1) (av.cons ((k3 rfl).dH λ_ z=>z.1) av.nil)⟩
  exact qP s (V (qZ aa) env A0 h (s.up.ext s.pre) s.fr) λx h1 v p1 q1=>bH ⟨q1.1,λf=>(q1.2 f).dH (Fr.le s.pre.length_le),s.pre.trans p1⟩
 |_=>exact gen rfl
theorem KH:su Φ Ψ ms .nil:=λA0 h0 aa env h O s=>by rw[jh,aU];exact bH ⟨O,s,Fm.refl s (WK _)⟩
theorem Fe(ha:wJ Φ Ψ ms a)(hr:su Φ Ψ ms r):su Φ Ψ ms (.cons a r):=λA0 h0 aa env h O s=>by
 rw[jh,aU];have w1:∀i∈mS a,i∈E9 (.cons a r):=λi hi=>by
  simp only[mS,E9,ig,j6,mem_append]at hi |-
  rcases hi with z|z
  ·exact .inl (.inl z)
  ·exact .inr (.inl z)
 have w2:∀i∈E9 r,i∈E9 (.cons a r):=λi hi=>by
  simp only[E9,ig,j6,mem_append]at hi |-
  rcases hi with z|z
  ·exact .inl (.inr z)
  ·exact .inr (.inr z)
 refine oW (ha A0 h0 aa env h O s) λf h1 g rr=>?_;have rr:=rr.dH w1;cases f<;>cases g<;>first|exact rr.elim|skip
 ·obtain⟨O',s',f'⟩:=rr;exact iA (hr A0 h0 _ _ h1 O' s') λf h' g r'=>RF.seq f' (r'.dH w2)
 ·exact bH rr
 ·exact bH rr
 ·exact bH rr
theorem N8(h:LU a=some y):a=.sdef (.var y.1) y.2.1 y.2.2:=by
 unfold LU at h;split at h
 ·cases h;rfl
 ·cases h
theorem oY{α β γ:Type}{m:M α}{f:α -> M β}{g:β -> M γ}:bnd (bnd m f) g=bnd m λx=>bnd (f x) g:=by
 funext h;unfold bnd;cases m h<;>rfl
theorem Ff{i:Nat}(hΦ:∀j,Imp (Φ j) (Ψ j))(ho:PX (.setF i a x v)=true):wJ Φ Ψ ms (.setF i a x v):=λA0 h0 aa env h O s=>by
 have V:=(v_all hΦ).1;cases hp:LU a with
 |none=>rw[bL,hp];trivial
 |some y=>
  obtain⟨j,k,z⟩:=y;have ea:=N8 hp;subst ea;have ho:=bW ho;rw[fW,bL,hp];try dsimp only
  refine fP λhf=>?_;unfold PV
  split
  ·rename_i ks ds hj
   obtain⟨b,e2,e3,kvs,e4,ek,e5⟩:=s.ow j _ hj;have ed:rY h (.ref b)=some ():=by unfold rY;dsimp only;rw[e4]
   rw[aJ,oY,bu (cT e2),oY];rw[show ∀(f:Unit->M Fl),bnd (ask λh=>rY h (.ref b)) f h=f () h from λf=>by unfold bnd ask;dsimp only;rw[ed];rfl];rw[oY];refine bG s (V k ho.1 aa env _ h s.wI s.er) λy h1 u p1 q1=>?_;have s1:=s.ext p1;obtain⟨f1,dk⟩:=y;have q:=q1.1;dsimp only at q;show fO A0 h0 _ _ (pb (pl (keyOf dk)) _);cases hk:keyOf dk with
   |none=>trivial
   |some kk=>
    have hu:keyOf u=some kk:=by
     cases dk<;>simp only[keyOf]at hk<;>first|(cases hk;done)|skip
     all_goals (rw[Dn]at q;subst q;exact hk)
    rw[hu,oY];show fO A0 h0 _ (bnd (bnd (aJ Φ z env) _) _ h1) (pb (aX Ψ z aa) _);rw[oY];refine bG s1 (V z ho.2 aa env _ h1 s1.wI s1.er) λw h2 w' p2 q2=>?_;have s2:=s1.ext p2;refine fP λhg=>?_;have Sq:j5 w.2=true:=(bW hg).1;have g:=bx p2 (bx p1 e4);have hl':decide (kvs.length<sizeLine)=true:=by have:=(bW hg).2;rw[<-ek,Wr]at this;exact this
    have e6:=(e5.ext p1).ext p2;cases ev:bP (ks.zip ds) kk with
    |some v0=>dsimp only;refine fP λhi0=>?_;obtain⟨v1,a1,a2⟩:=lA ek e6 ev;obtain⟨s3,f3⟩:=s2.set (i:=i) a2;refine⟨.nx (env.set i (some v1)),h2,?_,_,s3,(Fm.refl s (p1.trans p2)).trans (f3.dH (uI (by simp[mS,lz])))⟩;unfold Br bnd ask bf aH ret;dsimp only;rw[g];dsimp only;rw[Wu hl',a1];rfl
    |none=>
     dsimp only;obtain⟨k1,k2⟩:=yt (k:=kk) ek e6 q2.1;obtain⟨s3,f3⟩:=s2.put (d1:=putD ks ds kk w.2) (ob:=.dct (gU kvs kk w')) hj e3 ⟨_,rfl,k1,k2⟩;have qi:w'=w.2:=(gj w.2 w' Sq).mp q2.1;obtain⟨s4,f4⟩:=s3.set (i:=i) (d:=w.2) (v:=w') ((gj w.2 w' Sq).mpr qi);refine⟨.nx (env.set i (some w')),h2.set b (.dct (gU kvs kk w')),?_,_,s4,((Fm.refl s (p1.trans p2)).trans (f3.dH (uI (by simp[mS,oQ])))).trans (f4.dH (uI (by simp[mS,lz])))⟩;have en:bP kvs kk=none:=by subst ek;exact sf e6 ev
     unfold Br bnd ask bf aH put ret;dsimp only;rw[g];dsimp only;rw[Wu hl',en];rfl
  ·trivial
theorem N9(hΦ:∀j,Imp (Φ j) (Ψ j)):∀ss,oX ss=true->su Φ Ψ ms ss:=by
 intro ss;refine cE.rec (motive_1:=λs=>PX s=true->wJ Φ Ψ ms s) (motive_2:=λss=>oX ss=true->su Φ Ψ ms ss) ?_ ?_ ?_ ?_ ?_ ?_ ?_ ?_ ?_ ?_ ?_ ?_ ?_ ?_ ?_ ?_ ss
 ·exact λe f=>Fb hΦ f
 ·exact λp e f=>Ky hΦ f
 ·exact λi o e f=>Kz hΦ f
 ·intro o i v f;have f:=nC f;exact Fc hΦ f.1.1 f.1.2 f.2
 ·intro c a b ia ib f;have f:=nC f;exact KA hΦ f.1.1 (ia f.1.2) (ib f.2)
 ·intro p k it b ib f;have f:=bW f;exact KC hΦ f.1 (ib f.2)
 ·intro n c b ib f;have f:=bW f;exact KD hΦ f.1 (ib f.2)
 ·exact λe f=>KG hΦ f
 ·exact λ_ A0 h0 aa env h O s=>by rw[fW,bL];exact bH ⟨by rw[Dn],λ_=>by rw[Dn],s.pre⟩
 ·exact λ_ A0 h0 aa env h O s=>by rw[fW,bL];exact bH ⟨O,s,Fm.refl s (WK _)⟩
 ·exact λ_ A0 h0 aa env h O s=>by rw[fW,bL];exact bH ⟨O,s,Fm.refl s (WK _)⟩
 ·exact λ_ A0 h0 aa env h O s=>by rw[fW,bL];exact bH ⟨O,s,Fm.refl s (WK _)⟩
 ·exact λ_ A0 h0 aa env h O s=>by rw[bL];trivial
 ·exact λ_ _ _ _ f=>Ff hΦ f
 ·exact λ_=>KH
 ·intro a r ia ir f;have f:=bW f;exact Fe (ia f.1) (ir f.2)
theorem Oa{n:Nat}(u:Up A h)(q:av A h ds vs):SR A h (ds.map (λd=>some (.sh,d))++replicate (n-ds.length) none) (vs.map some++replicate (n-vs.length) none) h (λ_=>none):=by
 have l:=q.length;have al:∀k,A k->Al A (λ_=>none) k:=λk hk=>⟨hk,λi z e=>by subst e;cases z⟩;have get:∀(i:Nat) (f:Mk) (d:Val),(ds.map (λd=>some (.sh,d))++replicate (n-ds.length) none:aP)[i]?=some (some (f,d))->f=.sh/\ds[i]?=some d:=λi f d e=>by
  by_cases hi:i<ds.length
  ·rw[WE (by simpa using hi),WO]at e
   cases ei:ds[i]? with
   |none=>rw[ei]at e;cases e
   |some d'=>rw[ei]at e;cases e;exact⟨rfl,rfl⟩
  ·rw[WX (by simp;omega)]at e;have:=WM e;rw[YK]at this;exact absurd this.2 (by simp)
 refine⟨by simp[l],λi m d e hm=>?_,λi d e=>?_,(λi a e=>nomatch e),(λi j a e=>nomatch e),WK _,u⟩
 ·obtain⟨hm',e⟩:=get i m d e;obtain⟨v,k1,k2⟩:=q.get e;have hi:i<vs.length:=(Wo.mp k1).1;exact⟨v,by rw[WE (by simpa using hi),WO,k1];rfl,k2.dH al,λz=>by subst hm';cases z⟩
 ·obtain⟨z,_⟩:=get i .ow d e;cases z
theorem aY{n:Nat}(hΦ:∀j,Imp (Φ j) (Ψ j))(ho:oX body=true):Imp (iM Φ n body) (cF Ψ n body):=λA h ds vs u q=>by
 have l:=q.length;have s:=Oa (n:=n) u q;unfold iM cF;have r:=oW (R':=λx h' v=>h<+:h'/\RV A h x h' v) (N9 (ms:=ig body) hΦ body ho A h _ _ h _ s) (f:=λf=>match f with
  |.nx _=>ret .non
  |.rt v=>ret v
  |_=>bf none) (F:=λf=>match f with
  |.nx _=>.ok (true,.non)
  |.rt p=>.ok p
  | _=>.no) λf h1 g rr=>by
   cases f<;>cases g<;>first|exact rr.elim|skip
   ·obtain⟨O',s',_⟩:=rr;exact bH ⟨s'.pre,by show Dn _ _ Val.non _;rw[Dn],λ_=>by show Dn _ _ Val.non _;rw[Dn]⟩
   ·exact bH ⟨rr.2.2,rr.1,rr.2.1⟩
   ·trivial
   ·trivial
 revert r;generalize (pb (aU Ψ (ig body) body (ds.map (λd=>some (.sh,d))++replicate (n-ds.length) none)) _)=p;intro r;cases p with
 |ok x=>obtain⟨v,h',e,a,b⟩:=r;exact⟨v,h',e,a,b⟩
 |exc c es=>exact r
 |no=>trivial
end
abbrev aQ:=List Val->Pr FV
def aq(gs:List aQ)(j:Nat):aQ:=match gs[j]? with
 |some g=>g
 |none=>λ_=>.no
def cG(fs:List Row)(gs:List aQ):Prop:=fs.length=gs.length/\∀(j:Nat) (r:Row) (g:aQ),fs[j]?=some r->gs[j]?=some g->Imp r.2.2 g
theorem Cf:cG [] []:=⟨rfl,λj r g e=>by simp at e⟩
theorem ay(a:cG fs gs)(j:Nat):Imp (look fs j) (aq gs j):=by
 unfold look aq;cases e:fs[j]? with
 |none=>
  have:gs[j]?=none:=by have:=XJ.mp e;exact XJ.mpr (by rw[<-a.1];exact this)
  rw[this];exact λ_ _ _ _ _ _=>trivial
 |some r=>
  cases e2:gs[j]? with
  |none=>exact λ_ _ _ _ _ _=>trivial
  |some g=>exact a.2 j r g e e2
theorem az{k:Nat}(a:cG fs gs)(i:Imp f g):cG (fs++[(x,k,f)]) (gs++[g]):=by
 refine⟨by simp[a.1],λj r g' e1 e2=>?_⟩
 by_cases hj:j<fs.length
 ·rw[WE hj]at e1;rw[WE (by rw[<-a.1];exact hj)]at e2;exact a.2 j r g' e1 e2
 ·rw[WX (by omega)]at e1
  rw[WX (by rw[<-a.1];omega)]at e2;have hj0:j-fs.length=0:=by have:=(Wo.mp e1).1;simp at this;omega
  rw[<-a.1]at e2;rw[hj0]at e1 e2;simp at e1 e2;subst e1;subst e2;exact i
section
variable {α β γ:Type}
theorem aK(a:α)(f:α -> Pr β):pb (.ok a) f=f a:=rfl
theorem KI(c:Prop)[Decidable c](m n:Pr α)(f:α -> Pr β):pb (if c then m else n) f=if c then pb m f else pb n f:=by split<;>rfl
theorem mT(m:Pr α)(f:α -> Pr β)(g:β -> Pr γ):pb (pb m f) g=pb m λx=>pb (f x) g:=by cases m<;>rfl
theorem ck(a:α):pl (some a)=.ok a:=rfl
theorem Fg(m:Pr α):pg true m=m:=rfl
theorem KJ(c:Prop)[Decidable c](m:Pr α):pg (decide c) m=if c then m else .no:=by unfold pg;simp
theorem kq{c:Bool}(h:c=true)(m:Pr α):pg c m=m:=by rw[h];rfl
end
theorem uK{f:Bool}:pX (fc f d)=true:=by unfold fc;split<;>rfl
theorem Oc:pX .sh=true:=rfl
theorem Od:pX .nw=true:=rfl
theorem Oe:pX .ow=false:=rfl
theorem Of:LR .sh=false:=rfl
theorem Og:LR .nw=true:=rfl
theorem KL{f:Bool}{i:Int}:fc f (.int i)=.sh:=by cases f<;>rfl
theorem Oh{f:Bool}{i:Bool}:fc f (.bl i)=.sh:=by cases f<;>rfl
theorem KN{f:Bool}:fc f (.str i)=.sh:=by cases f<;>rfl
theorem KO{f:Bool}:fc f .non=.sh:=by cases f<;>rfl
theorem Ri:fc false d=.sh:=rfl
theorem Oi:fc true (.rl ds)=.nw:=rfl
theorem Oj:fc true (.dc ks ds)=.nw:=rfl
section
variable {a b:Int} {x y:Str} {t:Bool} {vs ws:List Val} {v:Val}
theorem Ol:jU .add (.int a) (.int b)=.ok (true,.int (a+b)):=rfl
theorem Om:jU .sub (.int a) (.int b)=.ok (true,.int (a-b)):=rfl
theorem yu(h:j3 a b=true):jU .mul (.int a) (.int b)=.ok (true,.int (a*b)):=by simp only[jU];exact kq h _
theorem kr(h:ki b=true):jU .fdiv (.int a) (.int b)=.ok (true,.int (a/b)):=by simp only[jU];exact kq h _
theorem gF(h:decide (0<b)=true):jU .mod (.int a) (.int b)=.ok (true,.int (a%b)):=by simp only[jU];exact kq h _
theorem Oo(h:decide (0<=b/\b<=1000000/\a.natAbs<2 ^ 64)=true):jU .pow (.int a) (.int b)=.ok (true,.int (a ^ b.toNat)):=by simp only[jU];exact kq h _
theorem Rj:cop [] .lt (.int a) (.int b)=some (decide (a<b)):=rfl
theorem Rk:cop [] .le (.int a) (.int b)=some (decide (a<=b)):=rfl
theorem Rm:cop [] .gt (.int a) (.int b)=some (decide (b<a)):=rfl
theorem Rn:cop [] .ge (.int a) (.int b)=some (decide (b<=a)):=rfl
theorem Ro:cop [] .eq (.int a) (.int b)=some (decide (a=b)):=by
 show some (a==b)=_
 congr 1
theorem Rp:cop [] .ne (.int a) (.int b)=some (!decide (a=b)):=by
 show some (!(a==b))=_
 congr 1
theorem Oq:cop [] .isn v .non=some (k7 v):=by cases v<;>rfl
theorem Ot:cop [] .ntn v .non=some (!k7 v):=by cases v<;>rfl
theorem oZ:cC [] (.bl t)=some t:=rfl
theorem Ou:cC [] (.int a)=some (a != 0):=rfl
theorem Ov:cC [] (.rl vs)=some (!vs.isEmpty):=rfl
theorem Ow:cC [] (.tup vs)=some (!vs.isEmpty):=rfl
theorem GR:jk .len [.rl vs]=.ok (true,.int vs.length):=rfl
theorem Ox:jk .len [.tup vs]=.ok (true,.int vs.length):=rfl
theorem Oz:jk .min [.int a,.int b]=.ok (true,.int (if b<a then b else a)):=rfl
theorem OA:jk .max [.int a,.int b]=.ok (true,.int (if b>a then b else a)):=rfl
theorem KP:jk .min [.tup [.int a,.int b]]=.ok (true,.int (min a b)):=rfl
theorem KQ:jk .max [.tup [.int a,.int b]]=.ok (true,.int (max a b)):=rfl
theorem KR:jk .list [.rl vs]=.ok (bR vs,.rl vs):=rfl
theorem KS:jk .list [.tup vs]=.ok (bR vs,.rl vs):=rfl
theorem OC:jk .int [.bl t]=.ok (true,.int (if t=true then 1 else 0)):=rfl
theorem iB(h:gA vs a=some v):jf [] (.rl vs) (.int a)=some v:=h
theorem cS(h:gA vs a=some v):jf [] (.tup vs) (.int a)=some v:=h
end
theorem pZ:gA (v::vs) (0:Int)=some v:=by
 have:=kT (xs:=v::vs) (j:=0) (v:=v) rfl;exact this
theorem nE:gA (u::v::vs) (1:Int)=some v:=by
 have:=kT (xs:=u::v::vs) (j:=1) (v:=v) rfl;exact this
theorem ne_self(h:toD 16 [] d=some p)(hp:p.canLay0=true):cop [] .ne d d=some false:=by
 simp only[cop,xP,h,bind_some];rw[SeqAt.eqv_refl p hp];rfl
theorem fL:gx .seq [.rl vs]=some vs:=rfl
theorem KW:B3 .seq ds=gx .seq ds:=rfl
theorem KY:B3 .range ds=gx .range ds:=rfl
theorem KZ:B3 .enum ds=gx .enum ds:=rfl
theorem OE:gx .enum [.rl vs]=some (cD 0 vs):=rfl
theorem Cg{lo hi:Option Int}:zO (.rl vs) lo hi=.ok (bR (cU vs lo hi),.rl (cU vs lo hi)):=rfl
theorem b7{i:Nat}:cQ (.one i) d env=some (env.set i (some (.sh,d))):=rfl
theorem K0{i j:Nat}:cQ (.tup [i,j]) (.tup [d,e]) env=some ((env.set i (some (.sh,d))).set j (some (.sh,e))):=rfl
theorem o4{α β:Type}(f:α -> β)(ds:List α)(lo hi:Option Int):cU (ds.map f) lo hi=(cU ds lo hi).map f:=by
 unfold cU;simp only[length_map,List.map_take,List.map_drop]
theorem mw:∀(i:Nat) (ds:List Val),(cD i ds).length=ds.length
 |_,[]=>rfl
 |i,d::r=>by rw[cD,W7,mw (i+1) r,W7]
theorem jo{α β γ:Type}{f:β -> Option γ}{g:α -> β}{k:α -> γ}:∀(xs:List α),(∀x∈xs,f (g x)=some (k x))->cJ f (xs.map g)=some (xs.map k)
 |[],_=>rfl
 | x::r,h=>by
  rw[WI,cJ,h x Wx,jo r λy hy=>h y (Ww _ hy)];rfl
theorem ints_map(xs:List Int):aS (xs.map .int)=some xs:=by
 have:=jo (f:=λv=>match v with|.int i=>some i|_=>none) (g:=Val.int) (k:=id) xs λ_ _=>rfl;rw[YQ]at this;exact this
theorem wM(nK:List (List Int))(h:∀k∈nK,k≠[])(hl:nK.length<64):gg (nK.map kh)=some ((kZ nK).map kh):=by
 unfold gg;rw[Wu (by rw[Wr];exact hl)];cases nK with
 |nil=>rfl
 |cons k r=>
  have e:aS (List.map kh (k::r))=none:=by unfold aS ;rw[WI,cJ];rfl
  rw[e];have e2:jZ (List.map kh (k::r))=some (k::r):=by
   have:=jo (f:=λv=>match v with|.tup vs=>if vs.isEmpty then none else aS vs|_=>none) (g:=kh) (k:=id) (k::r) λx hx=>by
    have hx:=h x hx;show (if (x.map Val.int).isEmpty=true then none else aS (x.map .int))=some x;rw[Wt (by simpa using hx),ints_map]
   rw[YQ]at this;exact this
  show (jZ (List.map kh (k::r))).bind _=_;rw[e2];rfl
theorem cz(s:String):PyData.strOk (Str.ofString s)=true:=by
 have:=PyProof.Rows.signs_ofString s;unfold PyData.strOk;rw[<-Array.all_toList,this,YT];intro c hc;obtain⟨d,_,rfl⟩:=Xm.mp hc;have:=d.valid;simp only[decide_eq_true_eq];show d.val.toNat<1114112;unfold UInt32.isValidChar Nat.isValidChar at this;omega
theorem yv{n:Nat}(e:PyData.strOk x=true):toD (n+1) h (.str x)=some (.str x):=Wu e
theorem K1{α:Type}{n:Nat}(f:α -> Val)(g:α -> PyData)(xs:List α)(e:∀x∈xs,toD n h (f x)=some (g x)):toD (n+1) h (.rl (xs.map f))=some (.list (xs.map g)):=by
 show (cJ (toD n h) _).bind _=_;rw[jo xs e];rfl
theorem Fi{α:Type}{n:Nat}(f:α -> Val)(g:α -> PyData)(xs:List α)(e:∀x∈xs,toD n h (f x)=some (g x)):toD (n+1) h (.tup (xs.map f))=some (.tuple (xs.map g)):=by
 show (cJ (toD n h) _).bind _=_;rw[jo xs e];rfl
theorem Ci{n:Nat}(ks:List Int):toD (n+2) h (kh ks)=some (.tuple (ks.map .int)):=Fi _ _ ks λ_ _=>rfl
theorem ku{α:Type}(g:α -> PyData):∀(xs:List α),(∀x∈xs,(g x).canLay0=true)->PyData.canLayAll0 (xs.map g)=true
 |[],_=>by simp[PyData.canLayAll0]
 | x::r,h=>by
  rw[WI,PyData.canLayAll0,h x Wx,ku g r λy hy=>h y (Ww _ hy)];rfl
theorem qQ{α:Type}(enc:α -> Val)(Q:List α -> aP->Prop):∀(us done:List α) (env:aP),Q done env->(∀(pre:List α) (u:α) (post:List α) (env:aP),done++us=pre++u::post->Q pre env->∃env',body (enc u) env=.ok (.nx env')/\Q (pre++[u]) env')->∃env',fN body (us.map enc) env=.ok (.nx env')/\Q (done++us) env'
 |[],done,env,q,_=>⟨env,rfl,by rw[XE];exact q⟩
 | x::xs,done,env,q,h=>by
  obtain⟨env',e,q'⟩:=h done x xs env rfl q;have eq:done++x::xs=done++[x]++xs:=by simp
  obtain⟨iP,e2,q2⟩:=qQ enc Q xs (done++[x]) env' q' (by rw[<-eq];exact h);refine⟨iP,?_,by rw[eq];exact q2⟩;rw[WI,fN,e,aK];exact e2
theorem cO{α:Type}(enc:α -> Val){us:List α}{rE:aP}{β:Type}{k:wD->Pr β}(G:Pr β -> Prop)(Q:List α -> aP->Prop)(h0:Q [] rE)
  (step:∀(pre:List α) (u:α) (post:List α) (env:aP),us=pre++u::post->Q pre env->∃env',body (enc u) env=.ok (.nx env')/\Q (pre++[u]) env')
  (post:∀env',Q us env'->G (k (.nx env'))):G (pb (fN body (us.map enc) rE) k):=by
 obtain⟨env',e,q⟩:=qQ enc Q us [] rE h0 (λpre x post env ep q=>step pre x post env ep q);rw[e,aK];exact post env' q
abbrev lU(xs:List Int)(g:Int->Val):Val:=.dc (xs.map Sum.inl) (xs.map g)
def o5(g:Int->Val)(x:Int)(v:Val):Int->Val:=λy=>if y=x then v else g y
theorem sy(xs:List Int)(g:Int->Val):(xs.map (Sum.inl:Int->Key)).zip (xs.map g)=xs.map λx=>((Sum.inl x:Key),g x):=by
 induction xs with
 |nil=>rfl
 |cons x r ih=>simp only[map_cons,zip_cons_cons,ih]
theorem kB{xs:List Int}{x:Int}(h:x∈xs):jf [] (lU xs g) (.int x)=some (g x):=by
 show bP _ _=_;rw[sy];unfold bP
 induction xs with
 |nil=>simp at h
 |cons y r ih=>
  rw[WI,YZ]
  by_cases e:y=x
  ·subst e;simp
  ·have:((Sum.inl y:Key)=Sum.inl x)=False:=by simp[e]
   simp only[this,decide_false];exact ih (by rcases WH.mp h with h|h;exact absurd h.symm e;exact h)
theorem Cj(xs:List Int)(g:Int->Val)(x:Int):((xs.map λx=>((Sum.inl x:Key),g x)).any λkv=>decide (kv.1=Sum.inl x))=decide (x∈xs):=by
 induction xs with
 |nil=>rfl
 |cons y r ih=>
  rw[WI,YS,ih]
  by_cases e:y=x
  ·subst e;simp
  ·have e':¬ x=y:=λh=>e h.symm;simp[e,e']
theorem yw{xs:List Int}{x:Int}(h:x∈xs):putD (xs.map Sum.inl) (xs.map g) (.inl x) v=lU xs (o5 g x v):=by
 unfold putD gU;rw[sy,Cj,Wu (by simpa using h)];unfold lU;rw[W4,W4]
 congr 1
 ·refine Xc λy _=>?_
  show ((if (Sum.inl y:Key)=Sum.inl x then ((Sum.inl y:Key),v) else (Sum.inl y,g y)).1)=_
  split<;>rfl
 ·rw[W4,W4]
  refine Xc λy _=>?_;show ((if (Sum.inl y:Key)=Sum.inl x then ((Sum.inl y:Key),v) else (Sum.inl y,g y)).2)=_;unfold o5
  by_cases e:y=x
  ·rw[Wu (by rw[e]),Wu e]
  ·rw[Wt (by simpa using e),Wt e]
theorem yx{xs:List Int}{x:Int}(h:x∉xs):putD (xs.map Sum.inl) (xs.map g) (.inl x) v=lU (xs++[x]) (o5 g x v):=by
 unfold putD gU;rw[sy,Cj,Wt (by simpa using h)];unfold lU;simp only[map_append,List.map_map,map_cons,map_nil]
 congr 1
 congr 1
 ·refine Xc λy hy=>?_;show g y=o5 g x v y;unfold o5;rw[Wt (λe:y=x=>h (e▸hy))]
 ·simp[o5]
theorem dz{xs:List Int}(h:∀x∈xs,g x=g' x):lU xs g=lU xs g':=by
 unfold lU;rw[Xc h]
theorem uL{x:Int}:keyOf (.int x)=some (.inl x):=rfl
theorem uM(x:Int):∀(ns ks:List Int),x∈gS ks ns↔x∈ks\/x∈ns
 |[],ks=>by simp[gS]
 | k::r,ks=>by
  rw[gS,uM x r,bS]
  split
  ·rename_i h
   constructor
   ·rintro(h'|h')
    ·exact .inl h'
    ·exact .inr (Ww _ h')
   ·rintro(h'|h')
    ·exact .inl h'
    ·rcases WH.mp h' with h'|h'
     ·exact .inl (h'▸h)
     ·exact .inr h'
  ·simp[or_assoc]
theorem o6:∀(ns ks:List Int),ks.Nodup->(gS ks ns).Nodup
 |[],ks,h=>h
 | k::r,ks,h=>by
  rw[gS];refine o6 r _ ?_;rw[bS]
  split
  ·exact h
  ·rename_i hk;rw[Xq];exact⟨h,by simp,λa ha b hb=>by simp at hb;subst hb;exact λe=>hk (e▸ha)⟩
def g9(ns:List Int):List Int:=sortI (gS [] ns)
theorem Ck(x:Int)(ns:List Int):x∈g9 ns↔x∈ns:=by
 unfold g9;rw[(XX _).mem_iff,uM];simp
theorem wN(ns:List Int):(g9 ns).Nodup:=by
 unfold g9;rw[(XX _).nodup_iff];exact o6 ns [] YJ
inductive Way (es:List (Int×Int)):Int->Int->Prop
 |refl (a:Int):Way es a a
 |fwd {a b c:Int}:Way es a b->(b,c)∈es->Way es a c
 |bwd {a b c:Int}:Way es a b->(c,b)∈es->Way es a c
theorem Way.trans{a b c:Int}(h:Way es a b)(k:Way es b c):Way es a c:=by
 induction k with
 |refl=>exact h
 |fwd _ m ih=>exact .fwd ih m
 |bwd _ m ih=>exact .bwd ih m
theorem Way.symm{a b:Int}(h:Way es a b):Way es b a:=by
 induction h with
 |refl=>exact .refl _
 |fwd _ m ih=>exact(Way.bwd (.refl _) m).trans ih
 |bwd _ m ih=>exact(Way.fwd (.refl _) m).trans ih
theorem Way.mono(hs:∀e∈es,e∈fs){a b:Int}(h:Way es a b):Way fs a b:=by
 induction h with
 |refl=>exact .refl _
 |fwd _ m ih=>exact .fwd ih (hs _ m)
 |bwd _ m ih=>exact .bwd ih (hs _ m)
theorem Way.const{α:Type}(f:Int -> α)(hf:∀e∈es,f e.1=f e.2){a b:Int}(h:Way es a b):f a=f b:=by
 induction h with
 |refl=>rfl
 |fwd _ m ih=>exact ih.trans (hf _ m)
 |bwd _ m ih=>exact ih.trans (hf _ m).symm
structure zS (ps:List Int) (es:List (Int×Int)) (f:Int->Int):Prop where
 IT:∀x∈ps,f x∈ps
 way:∀x∈ps,Way es x (f x)
 same:∀e∈es,f e.1=f e.2
theorem zS.iff{ps:List Int}(h:zS ps es f){x y:Int}(hx:x∈ps)(hy:y∈ps):f x=f y↔Way es x y:=by
 constructor
 ·intro e;have:=(h.way y hy).symm;rw[<-e]at this;exact(h.way x hx).trans this
 ·exact λw=>w.const f h.same
theorem zS.start(ps:List Int):zS ps [] id:=⟨λx h=>h,λx _=>.refl x,λe h=>by simp at h⟩
theorem zS.step{ps:List Int}(h:zS ps es f){a b:Int}(ha:a∈ps)(hb:b∈ps)(kept gone:Int)(hk:(kept=f a/\gone=f b)\/(kept=f b/\gone=f a)):zS ps (es++[(a,b)]) (λx=>if f x=gone then kept else f x):=by
 have up:∀{x y},Way es x y->Way (es++[(a,b)]) x y:=λw=>w.mono λe he=>W0 _ he;have ab:Way (es++[(a,b)]) a b:=.fwd (.refl _) (by simp);refine⟨λx hx=>?_,λx hx=>?_,λe he=>?_⟩
 ·split
  ·rcases hk with ⟨k,_⟩|⟨k,_⟩<;>rw[k]<;>exact h.IT _ (by assumption)
  ·exact h.IT x hx
 ·split
  ·rename_i e
   have w1:=up (h.way x hx);rw[e]at w1;refine w1.trans ?_
   rcases hk with ⟨k,g⟩|⟨k,g⟩
   ·rw[k,g];exact((up (h.way b hb)).symm.trans ab.symm).trans (up (h.way a ha))
   ·rw[k,g];exact((up (h.way a ha)).symm.trans ab).trans (up (h.way b hb))
  ·exact up (h.way x hx)
 ·rcases W3.mp he with he|he
  ·rw[h.same e he]
  ·rw[WD]at he
   subst he
   rcases hk with ⟨k,g⟩|⟨k,g⟩
   ·rw[k,g];rw[Wu (rfl:f b=f b)];split<;>rfl
   ·rw[k,g];rw[Wu (rfl:f a=f a)];split<;>rfl
abbrev T3:=Int×Int×Int
def l3(t:T3):List Int:=[t.1,t.2.1,t.2.2]
def bM(t:T3):Val:=.tup [.int t.1,.int t.2.1,.int t.2.2]
def sD(x:T3):List T3->List T3
 |[]=>[x]
 |y::r=>if HT.lexLt (l3 y) (l3 x)=true then y::sD x r else x::y::r
def eB:List T3->List T3
 |[]=>[]
 |x::r=>sD x (eB r)
theorem uN(x:T3):∀l:List T3,rV (l3 x) (l.map l3)=(sD x l).map l3
 |[]=>rfl
 | y::r=>by
  rw[WI,rV,sD]
  split
  ·rw[WI,uN x r]
  ·rfl
theorem qR:∀l:List T3,kZ (l.map l3)=(eB l).map l3
 |[]=>rfl
 |x::r=>by rw[WI,kZ,qR r,uN];rfl
theorem mz(x:T3):∀l:List T3,(sD x l).Perm (x::l)
 |[]=>.refl _
 | y::r=>by
  rw[sD]
  split
  ·exact((mz x r).cons y).trans (List.Perm.swap ..)
  ·exact .refl _
theorem bA:∀l:List T3,(eB l).Perm l
 |[]=>.refl _
 |x::r=>(mz x _).trans ((bA r).cons x)
theorem Fj(ts:List T3)(hl:ts.length<64):gg (ts.map bM)=some ((eB ts).map bM):=by
 have e:∀us:List T3,us.map bM=(us.map l3).map kh:=λus=>by rw[W4];rfl
 rw[e,wM _ (λk hk=>by obtain⟨t,_,rfl⟩:=Xm.mp hk;simp[l3]) (by rw[Wr];exact hl),qR,e]
theorem uO(hl:ts.length<64):jk .sorted [.rl (ts.map bM)]=.ok (true,.rl ((eB ts).map bM)):=by
 show pb (pl (gg _)) _=_;rw[Fj ts hl];rfl
def zT(ts:List T3):Prop:=ts.Pairwise λa b=>a.1<b.1
theorem yy(x:T3):∀l:List T3,zT l->(∀y∈l,y.1≠x.1)->zT (sD x l)
 |[],_,_=>by simp[sD,zT]
 | y::r,h,hn=>by
  unfold zT at *;rw[Xh]at h;have ny:y.1≠x.1:=hn y Wx;rw[sD];have lx:HT.lexLt (l3 y) (l3 x)=decide (y.1<x.1):=by show HT.lexLt (y.1::_) (x.1::_)=_;rw[HT.f9,Wt ny]
  rw[lx]
  by_cases c:y.1<x.1
  ·rw[Wu (by simpa using c),Xh]
   refine⟨λz hz=>?_,yy x r h.2 λz hz=>hn z (Ww _ hz)⟩
   rcases WH.mp ((mz x r).mem_iff.mp hz) with hz|hz
   ·rw[hz];exact c
   ·exact h.1 z hz
  ·rw[Wt (by simpa using c),Xh,Xh]
   refine⟨λz hz=>?_,h⟩;have:x.1<y.1:=by omega
   rcases WH.mp hz with hz|hz
   ·rw[hz];exact this
   ·have:=h.1 z hz;omega
theorem jq:∀l:List T3,(l.map (·.1)).Nodup->zT (eB l)
 |[],_=>.nil
 | x::r,h=>by
  rw[WI,W6]at h;refine yy x _ (jq r h.2) λy hy e=>h.1 ?_;rw[(bA r).mem_iff]at hy;exact Xm.mpr ⟨y,hy,e⟩
def turnT(t:T3):T3:=(t.1,if t.2.2<t.2.1 then t.2.2 else t.2.1,if t.2.2>t.2.1 then t.2.2 else t.2.1)
def aI(p q:Int)(ts:List T3):Val:=.tup [.tup [.int p,.int q],.rl (ts.map bM)]
theorem Fo(p q:Int)(ts:List T3):cop [] .ne (aI p q ts) (aI p q ts)=some false:=by
 have h1:toD 15 [] (.tup [.int p,.int q])=some (.tuple [.int p,.int q]):=rfl;have h2:toD 15 [] (.rl (ts.map bM))=some (.list (ts.map λt=>.tuple ((l3 t).map .int))):=K1 bM _ ts λt _=>Ci (l3 t);have h:toD 16 [] (aI p q ts)=some (.tuple [.tuple [.int p,.int q],.list (ts.map λt=>.tuple ((l3 t).map .int))]):=by show (cJ (toD 15 []) _).bind _=_;rw[cJ,h1,cJ,h2,cJ];rfl
 refine ne_self h ?_;have hi:∀xs:List Int,PyData.canLayAll0 (xs.map PyData.int)=true:=λxs=>ku _ _ λ_ _=>by rw[PyData.canLay0]
 have h3:PyData.canLayAll0 (ts.map λt=>.tuple ((l3 t).map .int))=true:=ku _ _ λt _=>by rw[PyData.canLay0];exact hi _
 have h4:=hi [p,q];simp only[map_cons,map_nil]at h4;rw[PyData.canLay0,PyData.canLayAll0,PyData.canLay0,h4,PyData.canLayAll0,PyData.canLay0,h3,PyData.canLayAll0];rfl
theorem jP{i j k:Nat}:cQ (.tup [i,j,k]) (bM t) env=some (((env.set i (some (.sh,.int t.1))).set j (some (.sh,.int t.2.1))).set k (some (.sh,.int t.2.2))):=rfl
theorem zU{α:Type}(ds:List α)(lo:Int)(n:Nat)(h:0<=lo):(cU ds (some lo) (some (lo+n))).length<=n:=by
 unfold cU HT.dF;dsimp only;rw[Wt (by omega),Wt (by omega)];simp only[List.length_take,List.length_drop];omega
theorem Cm:zO (bM t) (some 1) none=.ok (true,.tup [.int t.2.1,.int t.2.2]):=rfl
theorem o7{α:Type}(enc:α -> Val)(g:α -> FV):∀(us:List α),(∀u∈us,f (enc u)=.ok (some (g u)))->iX f (us.map enc)=.ok (us.all λu=>(g u).1,us.map λu=>(g u).2)
 |[],_=>rfl
 | x::xs,h=>by
  rw[WI,iX,h x Wx,aK,o7 enc g xs λy hy=>h y (Ww _ hy),aK];rfl
theorem eT{α:Type}(enc dec:α -> Val)(us:List α)(h:∀u∈us,f (enc u)=.ok (some (true,dec u))):iX f (us.map enc)=.ok (true,us.map dec):=by
 rw[o7 enc (λu=>(true,dec u)) us h];simp
theorem o8{α:Type}(enc dec:α -> Val)(t:α -> Bool):∀(us:List α),(∀u∈us,f (enc u)=.ok (if t u=true then some (true,dec u) else none))->iX f (us.map enc)=.ok (true,(us.filter t).map dec)
 |[],_=>rfl
 | x::xs,h=>by
  rw[WI,iX,h x Wx,aK,o8 enc dec t xs λy hy=>h y (Ww _ hy),aK]
  by_cases hx:t x=true
  ·rw[Wu hx,List.filter_cons_of_pos hx];rfl
  ·rw[Wt hx,List.filter_cons_of_neg hx]
theorem Fp:∀m,m<67->∀d,d<67->0<m->0<d->(m*d)%67≠0:=by decide +kernel
theorem Fq{m c i j:Int}(hm:0<m/\m<67)(hi:0<=i/\i<67)(hj:0<=j/\j<67)(e:(m*i+c)%67=(m*j+c)%67):i=j:=by
 have key:∀i j:Int,0<=i->j<67->i<j->(m*i+c)%67=(m*j+c)%67->False:=by
  intro i j h0 h1 hlt e;obtain⟨a,ha⟩:=Yn (show 0<=m by omega);obtain⟨d,hd⟩:=Yn (show 0<=j-i by omega);have p:=Fp a (by omega) d (by omega) (by omega) (by omega);have:m*j=m*i+m*(j-i):=by rw[Int.mul_sub];omega
  rw[this]at e;have e2:(m*(j-i))%67=0:=by omega
  rw[ha,hd]at e2;apply p;have:((a*d:Nat):Int)%67=0:=by rw[Int.natCast_mul];exact e2
  omega
 rcases Int.lt_trichotomy i j with h|h|h
 ·exact(key i j hi.1 hj.2 h e).elim
 ·exact h
 ·exact(key j i hj.1 hi.2 h e.symm).elim
def bz(aa:aP):aP:=aa.map λo=>match o with
 |some (.nw,.tup _)=>none
 |some (_,d)=>some (.sh,d)
 |none=>none
def iC(aa:aP):aP:=aa.map λo=>match o with
 |some (.sh,d)=>some (.sh,d)
 |_=>none
def Ft(Ψ:Nat->List Val->Pr FV)(e:IE)(env:aP):Pr FV:=match aX Ψ e (iC env) with
 |.ok x=>.ok x
 |_=>pb (aX Ψ e (bz env)) λx=>pg x.1 (.ok x)
def Fv(_:IE)(_:v9)(_:Ik)(_:cE):Option (Nat×Nat):=none
def iD:List Val->Option (List (List Int)):=cJ λv=>match v with
 |.rl es=>aS es
 |_=>none
def Rq(env:aP)(iq:Nat×Nat):Pr wD:=match env[iq.1]? with
 |some (some (.ow,.rl ds))=>pb (pl (iD ds)) λls=>pg ((ls.all λl=>decide (l.length+ls.length<sizeLine))&&decide (iq.2<env.length)) (.ok (.nx ((env.set iq.1 none).set iq.2 none)))
 |_=>.no
def new2:IE->Option (IE×IE)
 |.lst #[a,b]=>some (a,b)
 |_=>none
def Cn:List Val->Option Nat
 |[]=>some 0
 |.rl es::r=>(Cn r).bind λn=>some (max es.length n)
 |_=>none
def OF(ds:List Val):Option (Mk×Val):=match Cn ds with
 |some n=>some (.nw,.tup [.int ((n+1:Nat):Int),.int ds.length])
 |none=>none
def K2:List Val->Int->Option Int
 |[.int n,.int l],j=>if 0<=j/\j<l then some n else none
 |_,_=>none
inductive XK
 |app (i:Nat) (a:IE)
 |apI (i:Nat) (j:Int) (a:IE)
 |ext (i:Nat) (a:IE)
 |rem (i:Nat) (j a:IE)
def XK.ie:XK->IE
 |.app i a=>.met .append (.var i) #[a]
 |.apI i j a=>.met .append (.idx (.var i) (.cst (.int j))) #[a]
 |.ext i a=>.met .extend (.var i) #[a]
 |.rem i j a=>.met .remove (.idx (.var i) j) #[a]
def XK.at:XK->Nat
 |.app i _=>i
 |.apI i _ _=>i
 |.ext i _=>i
 |.rem i _ _=>i
def xV:IE->Option Nat
 |.var i=>some i
 |_=>none
def xX:IE->Option (IE×IE)
 |.idx a b=>some (a,b)
 |_=>none
def xI:IE->Option Val
 |.cst d=>some d
 |_=>none
def xM:IE->Option (Me×IE×kg)
 |.met m a es=>some (m,a,es)
 |_=>none
def xO:kg->Option IE
 |.cons a .nil=>some a
 |_=>none
def xJ(o:IE):Option (Nat×Int):=(xX o).bind λy=>(xV y.1).bind λx=>(xI y.2).bind λd=>(gh d).bind λj=>some (x,j)
def UK:Me->IE->IE->Option XK
 |.append,a,x=>(match xV a with|some i=>some (.app i x)|none=>(xJ a).bind λy=>some (.apI y.1 y.2 x))
 |.extend,a,x=>(xV a).bind λi=>some (.ext i x)
 |.remove,a,x=>(xX a).bind λy=>(xV y.1).bind λi=>some (.rem i y.2 x)
 |_,_,_=>none
def OG(e:IE):Option XK:=(xM e).bind λm=>(xO m.2.2).bind λx=>UK m.1 m.2.1 x
section
variable {e:IE}
theorem Fw{i:Nat}(h:xV e=some i):e=.var i:=by
 cases e<;>first|(cases h;rfl)|exact nomatch (show none=some _ from h)
theorem OH(h:xX e=some y):e=.idx y.1 y.2:=by
 cases e<;>first|(cases h;rfl)|exact nomatch (show none=some _ from h)
theorem Rt(h:xI e=some d):e=.cst d:=by
 cases e<;>first|(cases h;rfl)|exact nomatch (show none=some _ from h)
theorem Ru(h:xM e=some y):e=.met y.1 y.2.1 y.2.2:=by
 cases e<;>first|(cases h;rfl)|exact nomatch (show none=some _ from h)
theorem Rv(h:xO es=some e):es=.cons e .nil:=by
 cases es with
 |nil=>cases h
 |cons a r=>
  cases r with
  |nil=>cases h;rfl
  |cons _ _=>cases h
theorem Rw(h:xJ e=some y):e=.idx (.var y.1) (.cst (.int y.2)):=by
 obtain⟨z,h1,h⟩:=Wn.mp h;obtain⟨x,h2,h⟩:=Wn.mp h;obtain⟨d,h3,h⟩:=Wn.mp h;obtain⟨j,h4,h⟩:=Wn.mp h;cases h;rw[OH h1,Fw h2,Rt h3];cases d<;>first|(cases h4;rfl)|cases h4
theorem OI(h:OG e=some k):e=k.ie:=by
 obtain⟨⟨m,a,es⟩,h1,h⟩:=Wn.mp h;obtain⟨x,h2,h⟩:=Wn.mp h;rw[Ru h1,Rv h2];clear h1 h2;cases m with
 |append=>
  cases h3:xV a with
  |some i=>change (match xV a with|some i=>some (XK.app i x)|none=>(xJ a).bind λy=>some (XK.apI y.1 y.2 x))=some k at h;rw[h3]at h;cases h;rw[Fw h3];rfl
  |none=>change (match xV a with|some i=>some (XK.app i x)|none=>(xJ a).bind λy=>some (XK.apI y.1 y.2 x))=some k at h;rw[h3]at h;obtain⟨y,h4,h⟩:=Wn.mp h;cases h;rw[Rw h4];rfl
 |extend=>obtain⟨i,h3,h⟩:=Wn.mp h;cases h;rw[Fw h3];rfl
 |remove=>obtain⟨y,h3,h⟩:=Wn.mp h;obtain⟨i,h4,h⟩:=Wn.mp h;cases h;rw[OH h3,Fw h4];rfl
 |_=>cases h
end
def Co(Ψ:Nat->List Val->Pr FV):XK->aP->Pr wD
 | .app i a,env=>match env[i]? with
  |some (some (.ow,.rl ds))=>pb (aX Ψ a (bz env)) λx=>pg (decide (ds.length<sizeLine)) (.ok (.nx (env.set i (if bR (ds++[x.2])=true then some (.ow,.rl (ds++[x.2])) else none))))
  |_=>.no
 | .apI i j a,env=>match env[i]? with
  | some (some (.ow,.tup ds))=>match gA ds j with
   |some (.rl es)=>pb (aX Ψ a (bz env)) λx=>pg (decide (es.length<sizeLine)) (.ok (.nx (env.set i (OF ds))))
   |_=>.no
  |some (some (.nw,.tup ds))=>pb (pl (K2 ds j)) λn=>pb (aX Ψ a (bz env)) λx=>pg (decide (n<sizeLine)) (.ok (.nx (env.set i none)))
  |_=>.no
 | .ext i a,env=>match env[i]? with
  | some (some (.ow,.rl ds))=>pb (aX Ψ a (bz env)) λx=>match x.2 with
   |.rl es=>pg (x.1&&bR (ds++es)&&decide (ds.length+es.length<=sizeLine)) (.ok (.nx (env.set i (some (.ow,.rl (ds++es))))))
   |_=>.no
  |_=>.no
 | .rem i j a,env=>match env[i]? with
  |some (some (.nw,.rl ds))=>pb (aX Ψ j (bz env)) λz=>pb (pl (gh z.2)) λk=>pb (pl (tH ds.length k)) λn=>pb (pl (iD ds)) λls=>pb (pl ls[n]?) λl=>
    pb (aX Ψ a (bz env)) λx=>pb (pl (gh x.2)) λm=>pg (decide (m∈l)) (.ok (.nx (env.set i (some (.nw,.rl (ds.set n (.rl ((l.eraseIdx (l.idxOf m)).map .int))))))))
  |_=>.no
mutual
noncomputable def bY(Ψ:Nat->List Val->Pr FV)(sp:List Nat):IS->aP->Pr wD
 | .expr e,env=>match OG e with
  |some k=>Co Ψ k env
  |none=>.no
 | .asg p e,env=>match p with
  | .one i=>if sp.contains i=true then (match new2 e with
    |some ab=>pb (aX Ψ ab.1 (bz env)) λx=>pb (aX Ψ ab.2 (bz env)) λy=>pb (pl (iD [x.2,y.2])) λ_=>pg (x.1&&y.1) (.ok (.nx (env.set i (some (.nw,.rl [x.2,y.2])))))
    |none=>pb (aX Ψ e (bz env)) λx=>pg x.1 (.ok (.nx (env.set i (some (.ow,x.2))))))
    else pb (Ft Ψ e env) λx=>.ok (.nx (env.set i (some (.sh,x.2))))
  |.tup is=>pb (Ft Ψ e env) λx=>pb (pl (cQ (.tup is) x.2 env)) λenv'=>.ok (.nx env')
 |.g9 _ _ _,_=>.no
 |.iff c a b,env=>pb (aX Ψ c (bz env)) λx=>pb (pl (cC [] x.2)) λt=>if t=true then dB Ψ sp a env else dB Ψ sp b env
 | .for p k it body,env=>match it with
  | .cons e .nil=>match Fv e p k body with
   |some iq=>Rq env iq
   |none=>pb (Ft Ψ e env) λx=>pb (pl (gx k [x.2])) λxs=>fN (λx env=>pb (pl (cQ p x env)) λenv'=>dB Ψ sp body env') xs env
  |_=>.no
 |.ret e,env=>pb (aX Ψ e (bz env)) λp=>.ok (.rt p)
 |.brk,env=>.ok (.bk env)
 |.cnt,env=>.ok (.ct env)
 |.pass,env=>.ok (.nx env)
 |.aug ..,_=>.no
 |.whl ..,_=>.no
 |.Bp,_=>.no
 |.never,_=>.no
 |.setF ..,_=>.no
noncomputable def dB(Ψ:Nat->List Val->Pr FV)(sp:List Nat):cE->aP->Pr wD
 |.nil,env=>.ok (.nx env)
 | .cons s r,env=>pb (bY Ψ sp s env) λf=>match f with
  |.nx env'=>dB Ψ sp r env'
  |f=>.ok f
end
mutual
noncomputable def Rx:IS->List Nat
 |.expr e=>(match OG e with|some k=>[k.at]|none=>[])
 |.g9 o _ _=>(match xJ o with|some y=>[y.1]|none=>[])
 |.iff _ a b=>jr a++jr b
 | .for p k it b=>match it with
  | .cons e .nil=>match Fv e p k b with
   |some iq=>[iq.1]
   |none=>jr b
  |_=>jr b
 |_=>[]
noncomputable def jr:cE->List Nat
 |.nil=>[]
 |.cons s r=>Rx s++jr r
end
theorem Ry{sp:List Nat}(h:OG e=some k):bY Ψ sp (.expr e) env=Co Ψ k env:=by rw[bY,h]
def K3(Ψ:Nat->List Val->Pr FV)(n:Nat)(body:cE)(ds:List Val):Pr FV :=
 pb (dB Ψ (jr body) body (ds.map (λd=>some (.sh,d))++replicate (n-ds.length) none)) λf=>match f with
  |.nx _=>.ok (true,.non)
  |.rt p=>.ok p
  |_=>.no
abbrev UR:=Nat->Nat->Prop
def AU(U:UR):AP:=λo=>match o with
 |none=>True
 |some k=>∀i,¬ U i k
def RU(U:UR)(i:Nat):AP:=λo=>match o with
 |none=>False
 |some k=>U i k
def NN(U:UR)(i:Nat)(h:Hs)(d v:Val):Prop:=∃(b:Nat) (bs:List Nat) (ds:List Val) (ls:List (List Int)),v=.ref b/\d=.rl ds/\iD ds=some ls/\U i b/\h[b]?=some (.lst (bs.map .ref))/\bs.length=ls.length/\(b::bs).Nodup /\
 ∀(k c:Nat) (l:List Int),bs[k]?=some c->ls[k]?=some l->U i c/\h[c]?=some (.lst (l.map .int))
theorem NN.move{i:Nat}(q:NN U i h d v)(m:∀(c:Nat) (o:Ob),U i c->h[c]?=some o->U' i c/\h'[c]?=some o):NN U' i h' d v:=by
 obtain⟨b,bs,ds,ls,e1,e2,e3,e4,e5,e6,e7,e8⟩:=q;exact⟨b,bs,ds,ls,e1,e2,e3,(m b _ e4 e5).1,(m b _ e4 e5).2,e6,e7,λk c l a z=>m c _ (e8 k c l a z).1 (e8 k c l a z).2⟩
theorem jt:∀{ds:List Val} {ls:List (List Int)},iD ds=some ls->ds=ls.map λl=>.rl (l.map .int)
 |[],ls,e=>by simp only[iD,cJ]at e;cases e;rfl
 | d::ds,ls,e=>by
  simp only[iD,cJ]at e;obtain⟨x,e1,e⟩:=Wn.mp e;obtain⟨y,e2,e⟩:=Wn.mp e;cases e;rw[jt (show iD ds=some y from e2)];cases d<;>first|(cases e1;done)|skip
  rw[dw e1];rfl
theorem yz:∀(l:List Int),aS (l.map .int)=some l
 |[]=>rfl
 |a::l=>by have ih:=yz l;simp only[aS,map_cons,cJ]at ih |-;rw[ih];rfl
theorem yC:∀(ls:List (List Int)),iD (ls.map λl=>.rl (l.map .int))=some ls
 |[]=>rfl
 | l::ls=>by
  have h1:aS (l.map .int)=some l:=by
   induction l with
   |nil=>rfl
   |cons a l ih=>simp only[aS,map_cons,cJ]at ih |-;rw[ih];rfl
  have h2:=yC ls;simp only[iD,map_cons,cJ]at h2 |-;rw[h1,h2];rfl
theorem NN.dn{i:Nat}(q:NN U i h d v)(hA:∀k,U i k->A (some k)):Dn A h d v:=by
 obtain⟨b,bs,ds,ls,rfl,rfl,e3,e4,e5,e6,e7,e8⟩:=q;rw[jt e3,Dn];refine .inr ⟨b,_,rfl,hA _ e4,e5,?_⟩;clear e5 e7 e3 e4
 induction ls generalizing bs with
 | nil=>cases bs with
  |nil=>rw[XT,XT,av]
  |cons _ _=>cases e6
 |cons l ls ih=>
  cases bs with
  |nil=>cases e6
  |cons c bs=>refine av.cons ?_ (ih bs (Nat.succ.inj e6) λk c l a z=>e8 (k+1) c l a z);rw[Dn];exact .inr ⟨c,_,rfl,hA _ (e8 0 c l rfl rfl).1,(e8 0 c l rfl rfl).2,(bq _ _ (bU l)).mpr rfl⟩
def NT(U:UR)(i:Nat)(h:Hs)(d v:Val):Prop:=∃(n:Int) (ws:List Val),d=.tup [.int n,.int ws.length]/\v=.tup ws/\∀w∈ws,∃(b:Nat) (xs:List Val),w=.ref b/\U i b/\h[b]?=some (.lst xs)/\(xs.length:Int)<=n
def NQ(U:UR)(i:Nat)(h:Hs)(d v:Val):Prop:=NN U i h d v\/NT U i h d v
theorem NQ.move{i:Nat}(q:NQ U i h d v)(m:∀(c:Nat) (o:Ob),U i c->h[c]?=some o->U' i c/\h'[c]?=some o):NQ U' i h' d v:=by
 rcases q with q|⟨n,ws,e1,e2,e3⟩
 ·exact .inl (q.move m)
 ·refine .inr ⟨n,ws,e1,e2,λw hw=>?_⟩;obtain⟨b,xs,k1,k2,k3,k4⟩:=e3 w hw;exact⟨b,xs,k1,(m b _ k2 k3).1,(m b _ k2 k3).2,k4⟩
theorem NQ.dn{i:Nat}(q:NQ U i h d v)(n:∀ds,d≠.tup ds)(hA:∀k,U i k->A (some k)):Dn A h d v:=by
 rcases q with q|⟨_,_,e1,_⟩
 ·exact q.dn hA
 ·exact(n _ e1).elim
structure SL (aa:aP) (env:Env) (h:Hs) (U:UR):Prop where
 len:aa.length=env.length
 sh:∀(i:Nat) (d:Val),aa[i]?=some (some (.sh,d))->∃v,env[i]?=some (some v)/\Dn (AU U) h d v
 un:∀(i:Nat) (d:Val),aa[i]?=some (some (.ow,d))->∃v,env[i]?=some (some v)/\Dn (RU U i) h d v
 nn:∀(i:Nat) (d:Val),aa[i]?=some (some (.nw,d))->∃v,env[i]?=some (some v)/\NQ U i h d v
 ub:∀i k,U i k->k<h.length
 Fx:∀i j k,U i k->U j k->i=j
structure KU (h:Hs) (U:UR) (h':Hs) (U':UR):Prop where
 le:h.length<=h'.length
 keep:∀k,k<h.length->(∀i,¬ U i k)->h'[k]?=h[k]?/\∀i,¬ U' i k
def Rz(U:UR)(i:Nat):UR:=λj k=>j≠i/\U j k
def zV(U:UR)(i n m:Nat):UR:=λj k=>if j=i then n<=k/\k<m else U j k
def dh{α β:Type}(R:α -> Hs -> β -> Prop)(o:Out β):Pr α -> Prop
 |.ok a=>∃b h',o=.ok b h'/\R a h' b
 |_=>True
def RL(h:Hs)(U:UR):wD->Hs->Fl->Prop
 |.nx au,h',.nx env'=>∃U',SL au env' h' U'/\KU h U h' U'
 |.bk au,h',.bk env'=>∃U',SL au env' h' U'/\KU h U h' U'
 |.ct au,h',.ct env'=>∃U',SL au env' h' U'/\KU h U h' U'
 |.rt p,h',.rt v=>RV (λ_=>True) h p h' v/\∃U',KU h U h' U'
 |_,_,_=>False
section
variable {α β γ δ:Type} {h h1 h2:Hs} {U U1 U2:UR} {aa:aP} {env:Env}
theorem bg(r:dh R (m h) p)(k:∀a h1 b,R a h1 b->dh R' (f b h1) (F a)):dh R' (bnd m f h) (pb p F):=by
 unfold bnd;cases p with
 |ok a=>obtain⟨b,h1,e,q⟩:=r;rw[e];exact k a h1 b q
 |exc c es=>trivial
 |no=>trivial
theorem Fy(r:Rel A h R o p):dh (λa h' b=>h<+:h'/\R a h' b) o p:=by
 cases p with
 |ok a=>exact r
 |exc c es=>trivial
 |no=>trivial
theorem cK(r:R a h b):dh R (ret b h) (.ok a):=⟨b,h,rfl,r⟩
theorem lH(r:∀a,o=some a->∃b,o'=some b/\R a h b):dh R (bf o' h) (pl o):=by
 cases o with
 |none=>trivial
 |some a=>obtain⟨b,rfl,q⟩:=r a rfl;exact⟨b,h,rfl,q⟩
theorem gG{c:Bool}(r:c=true->dh R o p):dh R o (pg c p):=by
 unfold pg;cases c with
 |true=>rw[Wu rfl];exact r rfl
 |false=>rw[Wt Wm];trivial
theorem iE(r:dh R o p)(k:∀a h' b,R a h' b->R' a h' b):dh R' o p:=by
 cases p with
 |ok a=>obtain⟨b,h',e,r⟩:=r;exact⟨b,h',e,k a h' b r⟩
 |exc c es=>trivial
 |no=>trivial
theorem KU.refl(s:SL aa env h U)(p:h<+:h1):KU h U h1 U:=⟨p.length_le,λk hk n=>⟨iy p hk,n⟩⟩
theorem KU.trans(a:KU h U h1 U1)(b:KU h1 U1 h2 U2):KU h U h2 U2 where
 le:=WZ a.le b.le
 keep k hk n:=by obtain⟨a1,a2⟩:=a.keep k hk n;obtain⟨b1,b2⟩:=b.keep k (WC hk a.le) a2;exact⟨b1.trans a1,b2⟩
theorem RL.seq(a:KU h U h1 U1)(r:RL h1 U1 f h' g):RL h U f h' g:=by
 cases f<;>cases g<;>first|exact r.elim|(obtain⟨O',b,c⟩:=r;exact⟨O',b,a.trans c⟩)|(obtain⟨⟨b,c⟩,O',d⟩:=r;exact⟨⟨b,λz=>(c z).dH (Fr.le a.le)⟩,O',a.trans d⟩)
theorem SL.ext(s:SL aa env h U)(p:h<+:h1):SL aa env h1 U where
 len:=s.len
 sh i d e:=by obtain⟨v,k1,k2⟩:=s.sh i d e;exact⟨v,k1,k2.ext p⟩
 un i d e:=by obtain⟨v,k1,k2⟩:=s.un i d e;exact⟨v,k1,k2.ext p⟩
 nn i d e:=by obtain⟨v,k1,k2⟩:=s.nn i d e;exact⟨v,k1,k2.move λ_ _ a g=>⟨a,bx p g⟩⟩
 ub i k e:=WC (s.ub i k e) p.length_le
 Fx:=s.Fx
theorem SL.flat(s:SL aa env h U):ER (λ_=>True) (bz aa) env h:=λi f d q=>by
 unfold bz at q;rw[WO]at q;cases e:aa[i]? with
 |none=>rw[e]at q;cases q
 |some o=>
  rw[e]at q;cases o with
  |none=>cases q
  |some fd=>
   obtain⟨g,d'⟩:=fd;cases g with
   |nw=>cases d'<;>first|(cases q;done)|(cases q;rw[Wt (by decide)];obtain⟨v,k1,k2⟩:=s.nn i _ e;exact⟨v,k1,k2.dn (λ_ z=>nomatch z) λ_ _=>trivial⟩)
   |ow=>cases q;rw[Wt (by decide)];obtain⟨v,k1,k2⟩:=s.un i _ e;exact⟨v,k1,k2.dH λ_ _=>trivial⟩
   |sh=>cases q;rw[Wt (by decide)];obtain⟨v,k1,k2⟩:=s.sh i _ e;exact⟨v,k1,k2.dH λ_ _=>trivial⟩
theorem SL.hide(s:SL aa env h U):ER (AU U) (iC aa) env h:=λi f d q=>by
 unfold iC at q;rw[WO]at q;cases e:aa[i]? with
 |none=>rw[e]at q;cases q
 |some o=>
  rw[e]at q;cases o with
  |none=>cases q
  |some fd=>
   obtain⟨g,d'⟩:=fd;cases g with
   |ow=>cases q
   |nw=>cases q
   |sh=>cases q;rw[Wt (by decide)];exact s.sh i _ e
theorem SL.up(s:SL aa env h U):Up (AU U) h:=λk hk i z=>by have:=s.ub i k z;omega
theorem wO{i:Nat}:∀o,AU U o->AU (Rz U i) o
 |none,_=>trivial
 |some k,n=>λj z=>n j z.2
theorem SL.gen(s:SL aa env h U){i:Nat}(hl:env'.length=env.length)(he:∀j,j≠i->env'[j]?=env[j]?)
  (mA:∀(k:Nat) (b:Ob),AU U (some k)->h[k]?=some b->AU U' (some k)/\h'[k]?=some b) (mR:∀j,j≠i->∀(k:Nat) (b:Ob),U j k->h[k]?=some b->U' j k/\h'[k]?=some b)
  (ub:∀j k,U' j k->k<h'.length) (Fx:∀j l k,U' j k->U' l k->j=l)
  (at':∀m d,i<aa.length->o=some (m,d)->∃v,env'[i]?=some (some v)/\match m with
   |.sh=>Dn (AU U') h' d v
   |.ow=>Dn (RU U' i) h' d v
   |.nw=>NQ U' i h' d v):SL (aa.set i o) env' h' U':=by
 have off:∀(j:Nat) (m:Mk) (d:Val),(aa.set i o)[j]?=some (some (m,d))->(j=i/\i<aa.length/\o=some (m,d))\/(j≠i/\aa[j]?=some (some (m,d))):=λj m d e=>by
  by_cases hij:i=j
  ·subst hij
   have hi:i<aa.length:=by have:=(Wo.mp e).1;simpa using this
   rw[Wz hi]at e;cases e;exact .inl ⟨rfl,hi,rfl⟩
  ·rw[Ws hij]at e;exact .inr ⟨λz=>hij z.symm,e⟩
 refine⟨by simp[s.len,hl],λj d e=>?_,λj d e=>?_,λj d e=>?_,ub,Fx⟩
 ·rcases off j _ _ e with ⟨rfl,a,b⟩|⟨n,e⟩
  ·exact at' _ _ a b
  ·obtain⟨w,k1,k2⟩:=s.sh j d e;exact⟨w,(he j n).trans k1,Dn.move (λ_=>trivial) mA _ _ k2⟩
 ·rcases off j _ _ e with ⟨rfl,a,b⟩|⟨n,e⟩
  ·exact at' _ _ a b
  ·obtain⟨w,k1,k2⟩:=s.un j d e;exact⟨w,(he j n).trans k1,Dn.move (A:=RU U j) (A':=RU U' j) (λz=>False.elim z) (λk b a g=>mR j n k b a g) _ _ k2⟩
 ·rcases off j _ _ e with ⟨rfl,a,b⟩|⟨n,e⟩
  ·exact at' _ _ a b
  ·obtain⟨w,k1,k2⟩:=s.nn j d e;exact⟨w,(he j n).trans k1,k2.move λk b=>mR j n k b⟩
theorem yD{i:Nat}:∀j,j≠i->(env.set i v)[j]?=env[j]?:=λj n=>Ws λz=>n z.symm
theorem SL.at_(s:SL aa env h U){i:Nat}(hi:i<aa.length):(env.set i (some v))[i]?=some (some v):=Wz (by rw[<-s.len];exact hi)
theorem SL.set(s:SL aa env h U){i:Nat}(q:Dn (AU U) h d v):SL (aa.set i (some (.sh,d))) (env.set i (some v)) h (Rz U i)/\KU h U h (Rz U i) :=
 ⟨s.gen (by simp) yD (λk b a g=>⟨wO _ a,g⟩) (λj n k b a g=>⟨⟨n,a⟩,g⟩) (λj k e=>s.ub j k e.2) (λj l k a b=>s.Fx j l k a.2 b.2) (λm d' hi e=>by cases e;exact⟨v,s.at_ hi,q.dH wO⟩),Wy _,λk hk n=>⟨rfl,λj z=>n j z.2⟩⟩
theorem SL.OJ(s:SL aa env h U)(p:h<+:h1){i:Nat}(q:Dn (Fr h.length) h1 d v):SL (aa.set i (some (.ow,d))) (env.set i (some v)) h1 (zV U i h.length h1.length)/\KU h U h1 (zV U i h.length h1.length):=by
 have no:∀k j,k<h.length->¬ U j k->¬ zV U i h.length h1.length j k:=λk j hk n z=>by
  unfold zV at z;split at z
  ·omega
  ·exact n z
 refine⟨s.gen (by simp) yD (λk o a g=>⟨λj=>no k j (Wo.mp g).1 (a j),bx p g⟩) (λj n k b a g=>⟨?_,bx p g⟩) (λj k e=>?_) (λj l k e1 e2=>?_) (λm d' hi e=>?_),p.length_le,λk hk n=>⟨iy p hk,λj=>no k j hk (n j)⟩⟩
 ·unfold zV;rw[Wt n];exact a
 ·unfold zV at e
  split at e
  ·exact e.2
  ·exact WC (s.ub j k e) p.length_le
 ·unfold zV at e1 e2
  split at e1<;>split at e2
  ·rename_i a b;rw[a,b]
  ·have:=s.ub l k e2;omega
  ·have:=s.ub j k e1;omega
  ·exact s.Fx j l k e1 e2
 ·cases e;refine⟨v,s.at_ hi,Dn.move (A:=Fr h.length) (λz=>False.elim z) (λk o a g=>⟨?_,g⟩) _ _ q⟩;show zV U i h.length h1.length i k;unfold zV;rw[Wu rfl];exact⟨a,(Wo.mp g).1⟩
theorem SL.binds:∀{is:List Nat} {ds vs:List Val} {aa:aP} {env:Env} {U:UR} {au:aP},SL aa env h U->bE is ds aa=some au->av (AU U) h ds vs ->
  ∃env' U',bindAll is vs env=some env'/\SL au env' h U'/\KU h U h U'
 | [],[],vs,aa,env,U,au,s,e,q=>by
  rw[av]at q;subst q;simp only[bE]at e;cases e;exact⟨env,U,rfl,s,KU.refl s (WK _)⟩
 | i::is,d::ds,vs,aa,env,U,au,s,e,q=>by
  rw[av]at q;obtain⟨v,r,rfl,q1,q2⟩:=q;simp only[bE]at e;obtain⟨s1,f1⟩:=s.set (i:=i) q1;obtain⟨env',U',b1,b2,b3⟩:=SL.binds s1 e (q2.dH wO);exact⟨env',U',by simp only[bindAll];exact b1,b2,f1.trans b3⟩
 |[],_::_,_,_,_,_,_,_,e,_=>by simp[bE]at e
 |_::_,[],_,_,_,_,_,_,e,_=>by simp[bE]at e
theorem SL.bind(s:SL aa env h U)(e:cQ p d aa=some au)(q:Dn (AU U) h d v):∃env' U',eZ p v env=some env'/\SL au env' h U'/\KU h U h U':=by
 cases p with
 |one i=>simp only[cQ]at e;cases e;obtain⟨s1,f1⟩:=s.set (i:=i) q;exact⟨_,_,rfl,s1,f1⟩
 |tup is=>
  cases d<;>simp only[cQ]at e<;>first|(cases e;done)|skip
  rw[Dn]at q;obtain⟨vs,rfl,q⟩:=q;exact s.binds e q
theorem SL.OL(s:SL aa env h U){i b:Nat}(hb:U i b) (at':∀m d,i<aa.length->x=some (m,d)->∃v,env[i]?=some (some v)/\match m with
   |.sh=>Dn (AU U) (h.set b o) d v
   |.ow=>Dn (RU U i) (h.set b o) d v
   |.nw=>NQ U i (h.set b o) d v):SL (aa.set i x) env (h.set b o) U/\KU h U (h.set b o) U :=
 ⟨s.gen rfl (λ_ _=>rfl) (λk b' a g=>⟨a,by rw[Ws λz=>a i (by rw[<-z];exact hb)];exact g⟩) (λj n k b' a g=>⟨a,by rw[Ws λz=>n (s.Fx j i k a (by rw[<-z];exact hb))];exact g⟩)
  (λj k e=>by rw[YX];exact s.ub j k e) s.Fx at',by simp,λk hk n=>⟨by rw[Ws λz=>n i (by rw[<-z];exact hb)],n⟩⟩
theorem SL.OM(s:SL aa env h U){i b:Nat}(hb:U i b):SL (aa.set i none) env (h.set b o) U/\KU h U (h.set b o) U:=s.OL hb λ_ _ _ e=>nomatch e
theorem SL.Cp(s:SL aa env h U){i b:Nat}(hb:U i b):SL (aa.set i none) env (h.set b o) U/\KU h U (h.set b o) U:=s.OM hb
theorem SL.regrow(s:SL aa env h U){i b:Nat}{mk:Mk}{d dn w:Val}{o:Ob}(e:aa[i]?=some (some (mk,d)))(ee:env[i]?=some (some w))(hb:U i b)(nw:Dn (RU U i) (h.set b o) dn w) :
  SL (aa.set i (some (.ow,dn))) env (h.set b o) U/\KU h U (h.set b o) U:=s.OL hb λ_ _ _ e=>by cases e;exact⟨w,ee,nw⟩
theorem SL.toN(s:SL aa env h U){i:Nat}(hlt:i<aa.length)(ee:env[i]?=some (some w))(q:NQ U i h d w):SL (aa.set i (some (.nw,d))) env h U :=
 s.gen rfl (λ_ _=>rfl) (λ_ _ a g=>⟨a,g⟩) (λ_ _ _ _ a g=>⟨a,g⟩) s.ub s.Fx λ_ _ _ e=>by cases e;exact⟨w,ee,q⟩
theorem SL.grow(s:SL aa env h U){i b:Nat}(e:aa[i]?=some (some (.ow,d)))(ee:env[i]?=some (some (.ref b)))(hb:U i b)(hi:bR ds=true)(hv:vs=ds) :
  SL (aa.set i (some (.ow,.rl ds))) env (h.set b (.lst vs)) U/\KU h U (h.set b (.lst vs)) U :=
 s.regrow e ee hb (by rw[Dn];exact .inr ⟨b,vs,rfl,hb,by rw[Wz (s.ub i b hb)],(bq _ _ hi).mpr hv⟩)
end
section
variable {Φ:Nat->List Val->M Val} {Ψ:Nat->List Val->Pr FV} {sp:List Nat} {aa:aP} {env:Env} {h:Hs} {U:UR}
theorem sE(V:bK Φ Ψ e)(s:SL aa env h U):dh (λx h' v=>h<+:h'/\Dn (AU U) h' x.2 v) (aJ Φ e env h) (Ft Ψ e aa):=by
 have r1:=V (iC aa) env (AU U) h s.up s.hide;have r2:=V (bz aa) env (λ_=>True) h (λ_ _=>trivial) s.flat
 have go:dh (λx h' v=>h<+:h'/\Dn (AU U) h' x.2 v) (aJ Φ e env h) (pb (aX Ψ e (bz aa)) λx=>pg x.1 (.ok x)):=by
  cases e2:aX Ψ e (bz aa) with
  |ok x=>
   rw[e2]at r2;obtain⟨v,h',ev,p,q⟩:=r2;show dh _ _ (pg x.1 (.ok x));refine gG λhx=>⟨v,h',ev,p,(q.2 hx).dH λo z=>?_⟩;cases o with
   |none=>exact False.elim z
   |some k=>exact s.up k z
  |exc c es=>trivial
  |no=>trivial
 unfold Ft;cases e1:aX Ψ e (iC aa) with
 |ok x=>rw[e1]at r1;obtain⟨v,h',ev,p,q⟩:=r1;exact⟨v,h',ev,p,q.1⟩
 |exc c es=>exact go
 |no=>exact go
theorem cL(V:bK Φ Ψ e)(s:SL aa env h U):dh (λx h' v=>h<+:h'/\RV (λ_=>True) h x h' v) (aJ Φ e env h) (aX Ψ e (bz aa)):=Fy (V (bz aa) env (λ_=>True) h (λ_ _=>trivial) s.flat)
def zW(Φ:Nat->List Val->M Val)(Ψ:Nat->List Val->Pr FV)(sp:List Nat)(s:IS):Prop:=∀(aa:aP) (env:Env) (h:Hs) (U:UR),SL aa env h U->dh (RL h U) (fW Φ s env h) (bY Ψ sp s aa)
def uP(Φ:Nat->List Val->M Val)(Ψ:Nat->List Val->Pr FV)(sp:List Nat)(s:cE):Prop:=∀(aa:aP) (env:Env) (h:Hs) (U:UR),SL aa env h U->dh (RL h U) (jh Φ s env h) (dB Ψ sp s aa)
theorem sG{b:Nat}{h1:Hs}(g:h1[b]?=some (.lst vs))(hl:decide (vs.length<sizeLine)=true):bnd (met .append (.ref b) [v]) (λ_=>ret (Fl.nx env)) h1=.ok (.nx env) (h1.set b (.lst (vs++[v]))):=by
 simp only[met];unfold bnd ask bf aH put ret;dsimp only;rw[g];dsimp only;rw[Wu hl]
theorem Cq{i:Nat}(ha:bK Φ Ψ a):zW Φ Ψ sp (.expr (.met .append (.var i) #[a])):=λaa env h U s=>by
 rw[fW,bY];try dsimp only
 change dh (RL h U) _ (Co Ψ (.app i a) aa);unfold Co;try dsimp only
 split
 ·rename_i ds hv
  obtain⟨w,e2,q⟩:=s.un i _ hv;rw[Dn]at q
  rcases q with ⟨_,_,n,_⟩|⟨b,vs,rfl,hb,e4,e5⟩
  ·exact False.elim n
  have ev:bnd (aJ Φ (.met .append (.var i) #[a]) env) (λ_=>ret (Fl.nx env)) h=bnd (aJ Φ a env) (λv=>bnd (met .append (.ref b) [v]) λ_=>ret (Fl.nx env)) h:=by
   rw[aJ,ak,bu (cT e2)];rw[ak,bu (a:=()) (h1:=h) (by unfold ask bf;simp[recv,e4])];rw[ak,bC,ak]
   congr 1
  rw[ev];refine bg (cL ha s) λx h1 v ⟨p1,q1⟩=>gG λhg=>?_;have s1:=s.ext p1;have l:=e5.length;have run:=sG (env:=env) (v:=v) (bx p1 e4) (by rw[<-l];exact hg)
  by_cases hi:bR (ds++[x.2])=true
  ·rw[Wu hi];have eq:vs++[v]=ds++[x.2]:=(bq (A:=λ_=>True) (h:=h1) _ _ hi).mp (((e5.dH λ_ _=>trivial).ext p1).append (av.cons q1.1 av.nil));obtain⟨s2,f2⟩:=s1.grow hv e2 hb hi eq;exact⟨_,_,run,U,s2,(KU.refl s p1).trans f2⟩
  ·rw[Wt hi];obtain⟨s2,f2⟩:=s1.Cp (o:=.lst (vs++[v])) hb;exact⟨_,_,run,_,s2,(KU.refl s p1).trans f2⟩
 ·trivial
theorem Cr{i:Nat}(ha:bK Φ Ψ a):zW Φ Ψ sp (.expr (.met .extend (.var i) #[a])):=λaa env h U s=>by
 rw[fW,bY];try dsimp only
 change dh (RL h U) _ (Co Ψ (.ext i a) aa);unfold Co;try dsimp only
 split
 ·rename_i ds hv
  obtain⟨w,e2,q⟩:=s.un i _ hv;rw[Dn]at q
  rcases q with ⟨_,_,n,_⟩|⟨b,vs,rfl,hb,e4,e5⟩
  ·exact False.elim n
  have ev:bnd (aJ Φ (.met .extend (.var i) #[a]) env) (λ_=>ret (Fl.nx env)) h=bnd (aJ Φ a env) (λv=>bnd (met .extend (.ref b) [v]) λ_=>ret (Fl.nx env)) h:=by
   rw[aJ,ak,bu (cT e2)];rw[ak,bu (a:=()) (h1:=h) (by unfold ask bf;simp[recv,e4])];rw[ak,bC,ak]
   congr 1
  rw[ev];refine bg (cL ha s) λx h1 v aL=>?_;obtain⟨p1,q1⟩:=aL;obtain⟨f,d⟩:=x;cases d<;>first|trivial|skip
  rename_i es;refine gG λhg=>?_;have hg:=nC hg;have r:=q1.2 hg.1.1;dsimp only at r;rw[Dn]at r
  rcases r with ⟨_,_,n,_⟩|⟨c,ws,rfl,hc,e6,e7⟩
  ·exact False.elim n
  have s1:=s.ext p1;have l:=e5.length;have l2:=e7.length;have g4:=bx p1 e4;have eq:vs++ws=ds++es:=(bq (A:=λ_=>True) (h:=h1) _ _ hg.1.2).mp (((e5.dH λ_ _=>trivial).ext p1).append (e7.dH λ_ _=>trivial));obtain⟨s2,f2⟩:=s1.grow hv e2 hb hg.1.2 eq;refine⟨.nx env,h1.set b (.lst (vs++ws)),?_,U,s2,(KU.refl s p1).trans f2⟩;unfold met bnd ask bf aH put ret qG aF;dsimp only;rw[g4];dsimp only;rw[e6];dsimp only;rw[Wu (by rw[<-l,<-l2];exact hg.2)]
 ·trivial
theorem lI{α β:Type}{f:α -> β}:∀(l:List α) (n:Nat),(l.map f).eraseIdx n=(l.eraseIdx n).map f
 |[],_=>rfl
 |_::_,0=>rfl
 |a::l,n+1=>Xf (f a :: ·) (lI l n)
theorem Cs{i:Nat}(hj:bK Φ Ψ j)(ha:bK Φ Ψ a):zW Φ Ψ sp (.expr (.met .remove (.idx (.var i) j) #[a])):=λaa env h U s=>by
 rw[fW,bY];try dsimp only
 change dh (RL h U) _ (Co Ψ (.rem i j a) aa);unfold Co;try dsimp only
 split
 ·rename_i ds hv
  obtain⟨w,e2,q⟩:=s.nn i _ hv
  rcases q with ⟨b,bs,ds',ls,rfl,ed,el,hb,e5,e6,e7,e8⟩|⟨_,_,ed,_⟩<;>cases ed
  have ev:bnd (aJ Φ (.met .remove (.idx (.var i) j) #[a]) env) (λ_=>ret (Fl.nx env)) h=bnd (aJ Φ j env) (λz=>bnd (ask λh=>jf h (.ref b) z) λo=>bnd (ask λh=>recv h .remove o) λ_=>bnd (aJ Φ a env) λv=>bnd (met .remove o [v]) λ_=>ret (Fl.nx env)) h:=by
   rw[aJ,ak,aJ,ak,bu (cT e2),ak];refine congrFun ?_ h
   congr 1;funext z
   congr 1;funext o
   rw[ak]
   congr 1;funext _
   rw[ak,bC,ak]
   congr 1
  rw[ev];refine bg (cL hj s) λz h1 z' aL=>?_;obtain⟨p1,q1⟩:=aL;cases ek:gh z.2 with
  |none=>trivial
  |some k=>
   obtain⟨f,zz⟩:=z;cases zz<;>first|(cases ek;done)|skip
   cases ek;have ez:z'=.int k:=(gj _ _ rfl).mp q1.1;subst ez;show dh (RL h U) _ (pb (pl (tH ds.length k)) _);cases en:tH ds.length k with
   |none=>trivial
   |some n=>
    show dh (RL h U) _ (pb (pl (iD ds)) _);rw[el];show dh (RL h U) _ (pb (pl ls[n]?) _);cases eL:ls[n]? with
    |none=>trivial
    |some l=>
     have dl:ds.length=ls.length:=by rw[jt el,Wr]
     have hn:n<bs.length:=by rw[e6];exact(Wo.mp eL).1
     have eb:bs[n]?=some bs[n]:=WS hn;obtain⟨hc,gc⟩:=e8 n _ l eb eL;have g1:=bx p1 e5;have Ss:=bx p1 gc;rw[bu (a:=Val.ref bs[n]) (h1:=h1) (by
      unfold ask bf jf aF;dsimp only;rw[g1];dsimp only;rw[bind_some,show gA (bs.map Val.ref) k=some (.ref bs[n]) from by unfold gA;rw[Wr,e6,<-dl,en];simp[hn]])]
     rw[bu (a:=()) (h1:=h1) (by unfold ask bf recv;dsimp only;rw[Ss])];show dh (RL h U) _ (pb (aX Ψ a (bz aa)) _);refine bg (cL ha (s.ext p1)) λx h2 v aL=>?_;obtain⟨p2,q2⟩:=aL;cases em:gh x.2 with
     |none=>trivial
     |some m=>
      obtain⟨f2,xx⟩:=x;cases xx<;>first|(cases em;done)|skip
      cases em;have ex:v=.int m:=(gj _ _ rfl).mp q2.1;subst ex;show dh (RL h U) _ (pg (decide (m∈l)) _);refine gG λhm=>?_;have s2:=(s.ext p1).ext p2;have g2:=bx p2 g1;have Su:=bx p2 Ss;have hl:bs[n]<h2.length:=(Wo.mp Su).1;have nd:=W6.mp e7;have UL:bs[n]≠b:=λz=>nd.1 (z▸Xw hn);have nn:NN U i (h2.set bs[n] (.lst ((l.eraseIdx (l.idxOf m)).map .int))) (.rl (ds.set n (.rl ((l.eraseIdx (l.idxOf m)).map .int)))) (.ref b):=by
       refine⟨b,bs,_,ls.set n (l.eraseIdx (l.idxOf m)),rfl,rfl,?_,hb,by rw[Ws UL];exact g2,by rw[YX];exact e6,e7,λk' c l' a' z'=>?_⟩
       ·rw[jt el,<-yC (ls.set n (l.eraseIdx (l.idxOf m))),List.map_set]
       ·by_cases hk:n=k'
        ·subst hk;rw[eb]at a';cases a';rw[Wz (by rw[<-e6];exact hn)]at z';cases z';exact⟨hc,by rw[Wz hl]⟩
        ·rw[Ws hk]at z'
         obtain⟨y1,y2⟩:=e8 k' c l' a' z';refine⟨y1,?_⟩;have hk':k'<bs.length:=(Wo.mp a').1;have ne:bs[n]≠c:=λz=>hk (by
          have:bs[k']=c:=(Wo.mp a').2;exact(List.getElem_inj nd.2).mp (z.trans this.symm))
         rw[Ws ne];exact bx p2 (bx p1 y2)
      obtain⟨s3,f3⟩:=s2.regrow (o:=.lst ((l.eraseIdx (l.idxOf m)).map .int)) hv e2 hc (nn.dn λk hk=>hk);have hlt:i<aa.length:=(Wo.mp hv).1;have s4:=s3.toN (i:=i) (by simpa using hlt) e2 (.inl nn);rw[set_set]at s4;refine⟨.nx env,_,?_,U,s4,(KU.refl s (p1.trans p2)).trans f3⟩;unfold met bnd ask bf aH put ret;dsimp only;rw[Su];dsimp only;rw[yz];dsimp only;rw[Wu hm,lI]
 ·trivial
theorem uQ{i:Nat}:∀{ds vs:List Val} {m:Nat},Cn ds=some m->av (RU U i) h ds vs->∀w∈vs,∃(b:Nat) (xs:List Val),w=.ref b/\U i b/\h[b]?=some (.lst xs)/\xs.length<=m
 |[],vs,m,e,q,w,hw=>by rw[av]at q;subst q;cases hw
 | d::ds,vs,m,e,q,w,hw=>by
  rw[av]at q;obtain⟨v,r,rfl,q1,q2⟩:=q;cases d<;>first|(cases e;done)|skip
  rename_i es;simp only[Cn]at e;obtain⟨n,e1,e⟩:=Wn.mp e;cases e
  rcases WH.mp hw with rfl|hw
  ·rw[Dn]at q1
   rcases q1 with ⟨_,_,n,_⟩|⟨b,xs,rfl,hb,e4,e5⟩
   ·exact False.elim n
   exact⟨b,xs,rfl,hb,e4,by rw[<-e5.length];exact Nat.le_max_left _ _⟩
  ·obtain⟨b,xs,k1,k2,k3,k4⟩:=uQ e1 q2 w hw;exact⟨b,xs,k1,k2,k3,WZ k4 (Nat.le_max_right _ _)⟩
theorem zX{i:Nat}{j:Int}(ha:bK Φ Ψ a):zW Φ Ψ sp (.expr (.met .append (.idx (.var i) (.cst (.int j))) #[a])):=λaa env h U s=>by
 rw[fW,bY];try dsimp only
 change dh (RL h U) _ (Co Ψ (.apI i j a) aa);unfold Co;try dsimp only
 split
 ·rename_i ds hv
  split
  ·rename_i es hj
   obtain⟨w,e2,q⟩:=s.un i _ hv;rw[Dn]at q;obtain⟨ws,rfl,q⟩:=q;have qq:=q;obtain⟨u,hu,q⟩:=q.gA hj;rw[Dn]at q
   rcases q with ⟨_,_,n,_⟩|⟨b,vs,rfl,hb,e4,e5⟩
   ·exact False.elim n
   have er:aJ Φ (.idx (.var i) (.cst (.int j))) env h=.ok (.ref b) h:=by rw[aJ,bu (cT e2),aJ];unfold bnd ask bf ret;dsimp only;rw[show jf h (.tup ws) (.int j)=some (.ref b) from hu]
   have ev:bnd (aJ Φ (.met .append (.idx (.var i) (.cst (.int j))) #[a]) env) (λ_=>ret (Fl.nx env)) h=bnd (aJ Φ a env) (λv=>bnd (met .append (.ref b) [v]) λ_=>ret (Fl.nx env)) h:=by
    rw[aJ,ak,bu er];rw[ak,bu (a:=()) (h1:=h) (by unfold ask bf;simp[recv,e4])];rw[ak,bC,ak]
    congr 1
   rw[ev];refine bg (cL ha s) λx h1 v ⟨p1,q1⟩=>gG λhg=>?_;have s1:=s.ext p1;have l:=e5.length;have run:=sG (env:=env) (v:=v) (bx p1 e4) (by rw[<-l];exact hg);unfold OF;cases em:Cn ds with
   |none=>obtain⟨s2,f2⟩:=s1.Cp (o:=.lst (vs++[v])) hb;exact⟨_,_,run,_,s2,(KU.refl s p1).trans f2⟩
   |some m=>
    obtain⟨s2,f2⟩:=s1.OM (i:=i) (o:=.lst (vs++[v])) hb;have hlt:i<aa.length:=(Wo.mp hv).1;have UM:b<h1.length:=s1.ub i b hb;have s3:=s2.toN (i:=i) (d:=.tup [.int ((m+1:Nat):Int),.int ds.length]) (by simpa using hlt) e2 (.inr ⟨_,ws,by rw[qq.length],rfl,λw hw=>by
     obtain⟨c,xs,k1,k2,k3,k4⟩:=uQ em qq w hw
     by_cases hcb:b=c
     ·subst hcb;refine⟨b,vs++[v],k1,k2,by rw[Wz UM],?_⟩;rw[k3]at e4;cases e4;simp only[length_append,List.length_singleton];omega
     ·exact⟨c,xs,k1,k2,by rw[Ws hcb];exact bx p1 k3,by omega⟩⟩)
    rw[set_set]at s3;exact⟨_,_,run,_,s3,(KU.refl s p1).trans f2⟩
  ·trivial
 ·rename_i ds hv
  obtain⟨w,e2,q⟩:=s.nn i _ hv
  rcases q with ⟨b,bs,ds',ls,rfl,ed,_⟩|⟨n,ws,ed,rfl,q⟩
  ·cases ed
  cases ed
  by_cases hj:0<=j/\j<(ws.length:Int)
  ·have en:K2 [.int n,.int ws.length] j=some n:=Wu hj
   rw[en];show dh (RL h U) _ (pb (aX Ψ a (bz aa)) _);have hj':j.toNat<ws.length:=by omega
   have hu:gA ws j=some ws[j.toNat]:=by unfold gA tH;rw[Wu hj.1,Wu hj.2];simp[hj']
   obtain⟨b,xs,eb,hb,e4,e5⟩:=q _ (Xw hj');rw[eb]at hu;have er:aJ Φ (.idx (.var i) (.cst (.int j))) env h=.ok (.ref b) h:=by rw[aJ,bu (cT e2),aJ];unfold bnd ask bf ret;dsimp only;rw[show jf h (.tup ws) (.int j)=some (.ref b) from hu]
   have ev:bnd (aJ Φ (.met .append (.idx (.var i) (.cst (.int j))) #[a]) env) (λ_=>ret (Fl.nx env)) h=bnd (aJ Φ a env) (λv=>bnd (met .append (.ref b) [v]) λ_=>ret (Fl.nx env)) h:=by
    rw[aJ,ak,bu er];rw[ak,bu (a:=()) (h1:=h) (by unfold ask bf;simp[recv,e4])];rw[ak,bC,ak]
    congr 1
   rw[ev];refine bg (cL ha s) λx h1 v ⟨p1,q1⟩=>gG λhg=>?_;have s1:=s.ext p1;have hg:=WQ hg;have run:=sG (env:=env) (v:=v) (bx p1 e4) (decide_eq_true (by omega));obtain⟨s2,f2⟩:=s1.Cp (o:=.lst (xs++[v])) hb;exact⟨_,_,run,_,s2,(KU.refl s p1).trans f2⟩
  ·have en:K2 [.int n,.int ws.length] j=none:=Wt hj;rw[en];trivial
 ·trivial
theorem o9{n:Nat}{l:List Int}(q:Dn (Fr n) h (.rl (l.map .int)) v):∃b,v=.ref b/\n<=b/\h[b]?=some (.lst (l.map .int)):=by
 rw[Dn]at q
 rcases q with ⟨_,_,n,_⟩|⟨b,vs,rfl,hb,e4,e5⟩
 ·exact False.elim n
 exact⟨b,rfl,hb,by rw[e4,(bq _ _ (bU l)).mp e5]⟩
theorem K4{i:Nat}(hab:new2 e=some ab)(ha:bK Φ Ψ ab.1)(hb:bK Φ Ψ ab.2)(s:SL aa env h U):dh (RL h U) (bnd (aJ Φ e env) (λv=>bnd (bf (eZ (.one i) v env)) λenv'=>ret (Fl.nx env')) h)
  (pb (aX Ψ ab.1 (bz aa)) λx=>pb (aX Ψ ab.2 (bz aa)) λy=>pb (pl (iD [x.2,y.2])) λ_=>pg (x.1&&y.1) (.ok (.nx (aa.set i (some (.nw,.rl [x.2,y.2])))))):=by
 have ee:e=.lst #[ab.1,ab.2]:=by
  unfold new2 at hab;split at hab
  ·cases hab;rfl
  ·cases hab
 rw[ee];have ev:∀K:Val->M Fl,bnd (aJ Φ (.lst #[ab.1,ab.2]) env) K h=bnd (aJ Φ ab.1 env) (λv=>bnd (aJ Φ ab.2 env) λw=>bnd (new (.lst [v,w])) K) h:=λK=>by
  rw[aJ,bC,bC,bC,ak,ak];refine congrFun ?_ h
  congr 1;funext v;rw[ak,ak]
  congr 1
 rw[ev];refine bg (cL ha s) λx h1 v ⟨p1,q1⟩=>bg (cL hb (s.ext p1)) λy h2 w ⟨p2,q2⟩=>?_;cases el:iD [x.2,y.2] with
 |none=>trivial
 |some ls=>
  show dh _ _ (pg _ _);refine gG λhx=>?_;have hx:=bW hx;have r1:=q1.2 hx.1;have r2:=q2.2 hx.2;have em:=jt el
  match ls,em with
  |[_],em=>exact nomatch (Ye em).2
  |_::_::_::_,em=>exact nomatch (Ye (Ye em).2).2
  |[l1,l2],em=>
   have e1:x.2=.rl (l1.map .int):=(Ye em).1;have e2:y.2=.rl (l2.map .int):=(Ye (Ye em).2).1;rw[e1]at r1;rw[e2]at r2;obtain⟨b1,rfl,n1,g1⟩:=o9 r1;obtain⟨b2,rfl,n2,g2⟩:=o9 r2;have Wg:=(Wo.mp g1).1;have Wh:=(Wo.mp g2).1;have g1:=bx p2 g1;have z1:=p1.length_le;have z2:=p2.length_le;have p3:h2<+:h2++[.lst [.ref b1,.ref b2]]:=Xi _ _;have sz:(h2++[Ob.lst [.ref b1,.ref b2]]).length=h2.length+1:=by simp
   have nn:NN (zV U i h.length (h2++[Ob.lst [.ref b1,.ref b2]]).length) i (h2++[.lst [.ref b1,.ref b2]]) (.rl [x.2,y.2]) (.ref h2.length):=by
    have rg:∀k,h.length<=k->k<h2.length+1->zV U i h.length (h2++[Ob.lst [.ref b1,.ref b2]]).length i k:=λk a b=>by
     unfold zV;rw[Wu rfl,sz];exact⟨a,b⟩
    refine⟨h2.length,[b1,b2],_,_,rfl,rfl,el,rg _ (by omega) (by omega),by simp,rfl,?_,λk c l a z=>?_⟩
    ·simp only[List.nodup_cons,mem_cons,not_mem_nil,List.nodup_nil,or_false,not_false_eq_true,and_true,not_or];omega
    ·match k,a,z with
     |0,a,z=>cases a;cases z;exact⟨rg _ (by omega) (by omega),bx p3 g1⟩
     |1,a,z=>cases a;cases z;exact⟨rg _ (by omega) (by omega),bx p3 g2⟩
   obtain⟨s2,f2⟩:=s.OJ ((p1.trans p2).trans p3) (i:=i) (d:=.rl [x.2,y.2]) (v:=.ref h2.length) (nn.dn λk hk=>by
    unfold zV at hk;rw[Wu rfl]at hk;exact hk.1)
   by_cases hi:i<aa.length
   ·have s3:=s2.toN (i:=i) (by simpa using hi) (by rw[Wz (by rw[<-s.len];exact hi)]) (.inl nn);rw[set_set]at s3;exact⟨_,_,rfl,_,s3,f2⟩
   ·rw[Yd (by omega)]at s2 |-;exact⟨_,_,rfl,_,s2,f2⟩
theorem ON(V:bK Φ Ψ e)(V2:∀ab,new2 e=some ab->bK Φ Ψ ab.1/\bK Φ Ψ ab.2):zW Φ Ψ sp (.asg p e):=λaa env h U s=>by
 cases p with
 |one i=>
  rw[fW,bY];try dsimp only
  split
  ·split
   ·rename_i ab hab;exact K4 hab (V2 _ hab).1 (V2 _ hab).2 s
   ·refine bg (cL V s) λx h1 v ⟨p1,q1⟩=>gG λhx=>?_;obtain⟨s2,f2⟩:=s.OJ p1 (i:=i) (q1.2 hx);exact⟨_,_,rfl,_,s2,f2⟩
  ·refine bg (sE V s) λx h1 v aL=>?_;obtain⟨p1,q1⟩:=aL;obtain⟨s2,f2⟩:=(s.ext p1).set (i:=i) q1;exact⟨_,_,rfl,_,s2,(KU.refl s p1).trans f2⟩
 |tup is=>
  rw[fW,bY];try dsimp only
  refine bg (sE V s) λx h1 v aL=>?_;obtain⟨p1,q1⟩:=aL;have s1:=s.ext p1;refine bg (R:=λau h' env'=>∃U',SL au env' h' U'/\KU h1 U h' U') (lH λau ev=>?_) λau h2 env' hh=>?_
  ·obtain⟨env',U',b1,b2,b3⟩:=s1.bind ev q1;exact⟨env',b1,U',b2,b3⟩
  ·obtain⟨U',b2,b3⟩:=hh;exact cK ⟨U',b2,(KU.refl s p1).trans b3⟩
theorem OO(V:bK Φ Ψ c)(ha:uP Φ Ψ sp a)(hb:uP Φ Ψ sp b):zW Φ Ψ sp (.iff c a b):=λaa env h U s=>by
 rw[fW,bY];refine bg (cL V s) λx h1 v aL=>?_;obtain⟨p1,q1⟩:=aL;refine bg (R:=λt h' t'=>h'=h1/\t'=t) (lH λt ht=>⟨t,se (.inl q1.1) ht,rfl,rfl⟩) λt h2 t' aL=>?_;obtain⟨e1,e2⟩:=aL;subst e1;subst e2;have s1:=s.ext p1;cases t' with
 |true=>rw[Wu rfl,Wu rfl];exact iE (ha aa env _ U s1) λf h' g r=>r.seq (KU.refl s p1)
 |false=>rw[Wt Wm,Wt Wm];exact iE (hb aa env _ U s1) λf h' g r=>r.seq (KU.refl s p1)
theorem OP(V:bK Φ Ψ e):zW Φ Ψ sp (.ret e):=λaa env h U s=>by
 rw[fW,bY];exact bg (cL V s) λx h1 v ⟨p1,q1⟩=>cK ⟨q1,U,KU.refl s p1⟩
def RA(h:Hs)(U:UR)(src:Src)(ws:List Val):Prop:=∀h':Hs,(∀k,k<h.length->(∀i,¬ U i k)->h'[k]?=h[k]?)->src.items h'=some ws
theorem OQ(q:Dn (AU U) h d v)(e:gx k [d]=some xs):∃src ws,srcOf k [v]=some src/\av (AU U) h xs ws/\src.items h=some ws/\RA h U src ws:=by
 have lst:∀es,d=.rl es->(∃ws,v=.rl ws/\av (AU U) h es ws)\/∃a ws,v=.ref a/\h[a]?=some (.lst ws)/\av (AU U) h es ws/\∀h':Hs,(∀k,k<h.length->(∀i,¬ U i k)->h'[k]?=h[k]?)->h'[a]?=some (Ob.lst ws):=by
  rintro es rfl;rw[Dn]at q
  rcases q with ⟨ws,rfl,_,q⟩|⟨a,ws,rfl,al,g,q⟩
  ·exact .inl ⟨ws,rfl,q⟩
  ·exact .inr ⟨a,ws,rfl,g,q,λh' hk=>(hk a (Wo.mp g).1 al).trans g⟩
 cases k with
 |seq=>
  cases d<;>simp only[gx]at e<;>first|(cases e;done)|skip
  ·cases e;rw[Dn]at q;obtain⟨ws,rfl,q⟩:=q;exact⟨.fix ws,ws,rfl,q,rfl,λ_ _=>rfl⟩
  ·cases e
   rcases lst _ rfl with ⟨ws,rfl,q'⟩|⟨a,ws,rfl,g,q',st⟩
   ·exact⟨.fix ws,ws,rfl,q',rfl,λ_ _=>rfl⟩
   ·exact⟨.live a,ws,rfl,q',eN g,λh' hk=>eN (st h' hk)⟩
 |range=>
  cases d<;>simp only[gx]at e<;>first|(cases e;done)|skip
  rw[Dn]at q;subst q;split at e
  ·rename_i hn;cases e;exact⟨.fix _,_,by simp only[srcOf];rw[Wu hn],iw,rfl,λ_ _=>rfl⟩
  ·cases e
 |enum=>
  cases d<;>simp only[gx]at e<;>first|(cases e;done)|skip
  cases e
  rcases lst _ rfl with ⟨ws,rfl,q'⟩|⟨a,ws,rfl,g,q',st⟩
  ·exact⟨.fix _,_,rfl,ff 0 q',rfl,λ_ _=>rfl⟩
  ·exact⟨.enum a,_,rfl,ff 0 q',eO g,λh' hk=>eO (st h' hk)⟩
 |zip=>cases e
theorem uR(hb:∀aa env h U x v,SL aa env h U->Dn (AU U) h x v->dh (RL h U) (body v env h) (bodyV x aa))
  {h1:Hs} {U1:UR} (st:RA h1 U1 src ws) :
  ∀(xs vs:List Val) (i:Nat) (aa:aP) (env:Env) (h:Hs) (U:UR),SL aa env h U->KU h1 U1 h U->ws.drop i=vs->av (AU U) h xs vs ->
   dh (RL h1 U1) (forM src body vs.length i env h) (fN bodyV xs aa)
 | [],vs,i,aa,env,h,U,s,f,hd,q=>by
  rw[av]at q;subst q;have hl:ws.length<=i:=YF.mp hd;have hi:=st h (λk hk n=>(f.keep k hk n).1);rw[fN];refine⟨.nx env,h,?_,U,s,f⟩;show forM src body 0 i env h=_;simp only[forM];unfold bnd ask bf aH;dsimp only;rw[hi];dsimp only;rw[Wu (decide_eq_true hl)];try rfl
 | x::xs,vs,i,aa,env,h,U,s,f,hd,q=>by
  rw[av]at q;obtain⟨v,r,rfl,q1,q2⟩:=q;have hv:ws[i]?=some v:=by have:=Xf (λl=>l[0]?) hd;simpa using this
  have hr:ws.drop (i+1)=r:=by
   have:ws.drop (i+1)=(ws.drop i).drop 1:=by rw[Y4]
   rw[this,hd];rfl
  have hi:=st h (λk hk n=>(f.keep k hk n).1);have ev:forM src body (v::r).length i env h=bnd (body v env) (λf=>match f with
   |.nx env'=>forM src body r.length (i+1) env'
   |.ct env'=>forM src body r.length (i+1) env'
   |.bk env'=>ret (.nx env')
   |.rt v=>ret (.rt v)) h:=by
   show forM src body (r.length+1) i env h=_;simp only[forM];unfold bnd ask bf;dsimp only;rw[hi];dsimp only;rw[hv];try rfl
  rw[ev,fN];refine bg (hb aa env h U x v s q1) λfl h2 gl hr2=>?_;have go:∀au env' U',SL au env' h2 U'->KU h U h2 U'->dh (RL h1 U1) (forM src body r.length (i+1) env' h2) (fN bodyV xs au):=λau env' U' s' f'=>by
   refine uR hb st xs r (i+1) au env' h2 U' s' (f.trans f') hr (av.move (A:=AU U) (λ_=>trivial) (λk o hk g=>?_) _ _ q2);have hlt:k<h.length:=(Wo.mp g).1;obtain⟨a1,a2⟩:=f'.keep k hlt hk;exact⟨a2,a1.trans g⟩
  cases fl<;>cases gl<;>first|exact hr2.elim|skip
  ·obtain⟨U',s',f'⟩:=hr2;exact go _ _ U' s' f'
  ·exact cK (RL.seq (f:=.rt _) (g:=.rt _) f hr2)
  ·obtain⟨U',s',f'⟩:=hr2;exact cK ⟨U',s',f.trans f'⟩
  ·obtain⟨U',s',f'⟩:=hr2;exact go _ _ U' s' f'
theorem OS(V:bK Φ Ψ e)(hb:uP Φ Ψ sp body):zW Φ Ψ sp (.for p k #[e] body):=λaa env h U s=>by
 rw[bY];try dsimp only
 have hsp:Fv e p k body=none:=rfl;rw[hsp];dsimp only;rw[fW];have ev:∀(F:List Val->M Fl),bnd (bC Φ #[e] env) F h=bnd (aJ Φ e env) (λv=>F [v]) h:=λF=>by
  rw[bC,bC,ak];rfl
 rw[ev];refine bg (sE V s) λx h1 v aL=>?_;obtain⟨p1,q1⟩:=aL;have s1:=s.ext p1;refine bg (R:=λxs h' src=>h'=h1/\∃ws,av (AU U) h1 xs ws/\src.items h1=some ws/\RA h1 U src ws) (lH λxs ex=>?_) λxs h2 src ⟨e2,ws,q2,q3,st⟩=>?_
 ·obtain⟨src,ws,a1,a2,a3,a4⟩:=OQ q1 ex;exact⟨src,a1,rfl,ws,a2,a3,a4⟩
 ·subst e2
  have Rh:∀(F:List Val->M Fl),bnd (ask λh=>src.items h) F h2=F ws h2:=λF=>by unfold bnd ask bf;dsimp only;rw[q3]
  rw[Rh];refine iE (uR (λau env' h' U' x v s' qx=>?_) st xs ws 0 aa env h2 U s1 (KU.refl s1 (WK _)) rfl q2) λf h' g r=>r.seq (KU.refl s p1);refine bg (R:=λiz h2 iP=>∃U2,SL iz iP h2 U2/\KU h' U' h2 U2) (lH λiz e2=>?_) λiz h2 iP hh=>?_
  ·obtain⟨iP,U2,b1,b2,b3⟩:=s'.bind e2 qx;exact⟨iP,b1,U2,b2,b3⟩
  ·obtain⟨U2,b2,b3⟩:=hh;exact iE (hb iz iP h2 U2 b2) λf h'' g r=>r.seq b3
theorem OT:uP Φ Ψ sp .nil:=λaa env h U s=>by rw[jh,dB];exact cK ⟨U,s,KU.refl s (WK _)⟩
theorem K5(ha:zW Φ Ψ sp a)(hr:uP Φ Ψ sp r):uP Φ Ψ sp (.cons a r):=λaa env h U s=>by
 rw[jh,dB];refine bg (ha aa env h U s) λf h1 g q=>?_;cases f<;>cases g<;>first|exact q.elim|skip
 ·obtain⟨U1,s1,f1⟩:=q;exact iE (hr _ _ h1 U1 s1) λf h' g r=>r.seq f1
 ·exact cK q
 ·exact cK q
 ·exact cK q
theorem sH(e:∀aa,bY Ψ sp s aa=.no):zW Φ Ψ sp s:=λaa env h U _=>by rw[e];trivial
theorem K6(V:∀e,cR e=true->bK Φ Ψ e)(ho:cR e=true):zW Φ Ψ sp (.expr e):=by
 cases hk:OG e with
 |none=>exact sH λaa=>by rw[bY,hk]
 |some k=>
  cases OI hk;cases k with
  |app i a=>exact Cq (V a (bW (bW ho).2).1)
  |apI i j a=>exact zX (V a (bW (bW ho).2).1)
  |ext i a=>exact Cr (V a (bW (bW ho).2).1)
  |rem i j a=>exact Cs (V j (bW (bW ho).1).2) (V a (bW (bW ho).2).1)
theorem OU(hi:bK Φ Ψ i)(hv:bK Φ Ψ v):zW Φ Ψ sp (.g9 o i v):=sH λaa=>by rw[bY]
theorem OV(hΦ:∀j,Imp (Φ j) (Ψ j)):∀ss,oX ss=true->uP Φ Ψ sp ss:=by
 have V:=(v_all hΦ).1;intro ss;refine cE.rec (motive_1:=λs=>PX s=true->zW Φ Ψ sp s) (motive_2:=λss=>oX ss=true->uP Φ Ψ sp ss) ?_ ?_ ?_ ?_ ?_ ?_ ?_ ?_ ?_ ?_ ?_ ?_ ?_ ?_ ?_ ?_ ss
 ·intro e f;exact K6 V f
 ·intro p e f;exact ON (V e f) λab hab=>by
   have ee:e=.lst #[ab.1,ab.2]:=by
    unfold new2 at hab;split at hab
    ·cases hab;rfl
    ·cases hab
   subst ee;have f:(cR ab.1&&(cR ab.2&&true))=true:=f;have f:=bW f;exact⟨V _ f.1,V _ (bW f.2).1⟩
 ·intro i o e f;exact sH λaa=>by rw[bY]
 ·intro o i v f;have f:=nC f;exact OU (V i f.1.2) (V v f.2)
 ·intro c a b ha hb f;have f:=nC f;exact OO (V c f.1.1) (ha f.1.2) (hb f.2)
 ·intro p k it b hb f
  have f:=bW f;cases it with
  |nil=>exact sH λaa=>by rw[bY.eq_def]<;>rfl
  |cons e es=>
   cases es with
   |nil=>exact OS (V e (bW f.1).1) (hb f.2)
   |cons _ _=>exact sH λaa=>by rw[bY];intro _ z;cases z
 ·intro n c b _ f;exact sH λaa=>by rw[bY]
 ·intro e f;exact OP (V e f)
 ·intro _;exact sH λaa=>by rw[bY]
 ·intro _ aa env h U s;rw[fW,bY];exact cK ⟨U,s,KU.refl s (WK _)⟩
 ·intro _ aa env h U s;rw[fW,bY];exact cK ⟨U,s,KU.refl s (WK _)⟩
 ·intro _ aa env h U s;rw[fW,bY];exact cK ⟨U,s,KU.refl s (WK _)⟩
 ·intro _;exact sH λaa=>by rw[bY]
 ·intro _ _ _ _ _;exact sH λaa=>by rw[bY]
 ·intro _;exact OT
 ·intro a r ha hr f;have f:=bW f;exact K5 (ha f.1) (hr f.2)
theorem av.at:∀{ds vs:List Val} {i:Nat} {d:Val},av A h ds vs->ds[i]?=some d->∃v,vs[i]?=some v/\Dn A h d v
 |[],vs,i,d,q,e=>by cases e
 | d::ds,vs,0,d',q,e=>by
  rw[av]at q;obtain⟨v,r,rfl,q1,q2⟩:=q;cases e;exact⟨v,rfl,q1⟩
 | d::ds,vs,i+1,d',q,e=>by
  rw[av]at q;obtain⟨v,r,rfl,q1,q2⟩:=q;exact av.at (i:=i) q2 e
theorem OW{n:Nat}(q:av A h ds vs):SL (ds.map (λd=>some (.sh,d))++replicate (n-ds.length) none) (vs.map some++replicate (n-vs.length) none) h (λ_ _=>False):=by
 have l:=q.length;have here:∀(i:Nat) (m:Mk) (d:Val),(ds.map (λd=>some (Mk.sh,d))++replicate (n-ds.length) none)[i]?=some (some (m,d))->m=.sh/\ds[i]?=some d:=λi m d e=>by
  by_cases hi:i<ds.length
  ·rw[WE (by simpa using hi),WO,WS hi]at e;cases e;exact⟨rfl,WS hi⟩
  ·rw[WX (by simpa using hi)]at e;cases (YK.mp (WM e)).2
 refine⟨by simp[l],λi d e=>?_,λi d e=>?_,λi d e=>?_,λ_ _ z=>z.elim,λ_ _ _ z=>z.elim⟩
 ·obtain⟨_,e⟩:=here i _ d e;obtain⟨v,e2,q2⟩:=q.at e;refine⟨v,?_,q2.dH λo _=>by cases o<;>first|trivial|exact λ_ z=>z⟩;have hi:=(Wo.mp e2).1;rw[WE (by simpa using hi),WO,e2];rfl
 ·cases (here i _ d e).1
 ·cases (here i _ d e).1
theorem zY{n:Nat}(hΦ:∀j,Imp (Φ j) (Ψ j))(ho:oX body=true){ns:List Int}{f:Bool}(e:K3 Ψ n body [.rl (ns.map .int)]=.ok (f,.bl true)):∃h',iM Φ n body [.rl (ns.map .int)] []=.ok (.bl true) h':=by
 have s:SL ([(Val.rl (ns.map .int))].map (λd=>some (.sh,d))++replicate (n-1) none) ([(Val.rl (ns.map .int))].map some++replicate (n-1) none) [] (λ_ _=>False):=OW (A:=λ_=>True) (h:=[]) (n:=n) (ds:=[.rl (ns.map .int)]) (vs:=[.rl (ns.map .int)]) (av.cons (by rw[Dn];exact .inl ⟨_,rfl,trivial,(bq _ _ (bU ns)).mpr rfl⟩) av.nil);have r:=OV (sp:=jr body) hΦ body ho _ _ [] _ s;unfold K3 at e;show ∃h',bnd (jh Φ body ([(Val.rl (ns.map .int))].map some++replicate (n-1) none)) _ []=_;change pb (dB Ψ (jr body) body ([(Val.rl (ns.map .int))].map (λd=>some (.sh,d))++replicate (n-1) none)) _=_ at e;cases e1:dB Ψ (jr body) body ([(Val.rl (ns.map .int))].map (λd=>some (.sh,d))++replicate (n-1) none) with
 |ok fl=>
  rw[e1]at e r;obtain⟨g,h',eg,q⟩:=r;unfold bnd;rw[eg];cases fl with
  |rt p=>
   cases g<;>first|exact q.elim|skip
   change Pr.ok p=_ at e;cases e;have q:Dn (λ_=>True) h' (.bl true) _:=q.1.1;rw[Dn]at q;subst q;exact⟨h',rfl⟩
  |nx _=>cases e
  |bk _=>cases e
  |ct _=>cases e
 |exc c es=>rw[e1]at e;cases e
 |no=>rw[e1]at e;cases e
end
end Hv
end
section
namespace K71
open PySem L2 Hv
abbrev K7:List PySem.Str:=["_law_one","_law_two","_law_three","_law_step","_law_shift","_law_stride","_law_off"]
abbrev K8:List PySem.Str:=["_law_poles","_law_ties","_law_told"]
abbrev Ct:List PySem.Str:=["_law_script","_law_k"]
abbrev K9:List PySem.Str:=["_law_script","_law_cells","_law_names","_law_places","_law_many","_law_poles","_law_ties","_law_k","_law_cell_here"]
abbrev La:List PySem.Str:=["_law_pairs","_law_group","_law_many","_law_one","_law_other","_law_here","_law_there","_law_place"]
abbrev Cu:List PySem.Str:=["_law_poles","_law_pairs"]
abbrev kD:List PySem.Str:=["_law_poles","_law_kept","_law_left","_law_side","_law_far","_law_k","_law_rest","_law_more"]
abbrev p7:List PySem.Str:=["_law_poles","_law_kept","_law_left","_law_side"]
abbrev gZ:List PySem.Str:=["net"]
abbrev Lc:List PySem.Str:=["places","pairs","firsts","place","one","other","kept","gone"]
abbrev Cv:List PySem.Str:=["net","places","tie"]
abbrev Cw:List PySem.Str:=["poles","ties","named","name","one","other"]
abbrev Cy:List PySem.Str:=["net","tie","name","one","other"]
abbrev gH:List PySem.Str:=["net","tie"]
abbrev Cz:List PySem.Str:=["net","tie","ends","places","poles","ties","name","one","other"]
abbrev uS:List PySem.Str:=["net","side","tie"]
abbrev gm:List PySem.Str:=["net","side","won","other","tie"]
abbrev j7:List PySem.Str:=["net","side"]
abbrev uT:List PySem.Str:=["net","begins"]
abbrev GS:List PySem.Str:=["_law_script","_law_net_here","_law_pairs","_law_handed","_law_due","_law_side","_law_word"]
def top(i:Nat):Stmt:=PySem.Challenge.pw_linkorcut_k71_small_plays.main.body.getD i (.Pass ⟨0,0,0,0⟩)
def cons:List (Str×Val):=[("MOST_TIES_TRIED",(.int 7))]
def tb:Tb:=⟨0,[],[],[],[]⟩
def dM:cE:=#[.asg (.one 3) (¬1),.asg (.one 4) (¬0),.iff (.cmp .gt (.bin .mod (!0) (¬3)) (¬0)) #[.asg (.one 3) (.bin .add (¬1) (.bin .mod (!1) (.bin .pow (¬10) (¬57)))),.asg (.one 4) (.bin .mod (!2) (.bin .pow (¬10) (¬57)))] .nil,.asg (.one 5) (.bin .add (¬1) (.bin .mod (.bin .fdiv (!0) (¬3)) (¬66))),.asg (.one 6) (.bin .mod (.bin .fdiv (!0) (¬198)) (¬67)),.ret (.comp ["_law_k","_law_shift","_law_step","_law_off","_law_stride"] [none,some 4,some 3,some 6,some 5] (.one 0) .range #[¬20] .no (.bin .add (.bin .mul (!2) (.bin .mod (.bin .add (.bin .mul (!4) (!0)) (!3)) (¬67))) (!1)))]
def ju:cE:=#[.asg (.one 2) (.comp ["_law_name","_law_one","_law_other"] [none,none,none] (.tup [0,1,2]) .seq #[!1] .no (.tup #[!0,.blt .min #[!1,!2],.blt .max #[!1,!2]])),.ret (.tup #[.tup #[.blt .min #[!0],.blt .max #[!0]],.blt .sorted #[!2]])]
def iF:cE:=#[.iff (.cmp .lt (!1) (.blt .len #[!0])) #[.ret (.idx (!0) (!1))] .nil,.ret (¬0)]
def iG:cE:=#[.asg (.one 2) (.call 0 #[.call 2 #[!0,¬0],.call 2 #[!0,¬1],.call 2 #[!0,¬2]]),.asg (.one 3) (.call 0 #[.call 2 #[!0,¬3],.call 2 #[!0,¬2],.call 2 #[!0,¬1]]),.asg (.one 4) (.bin .add (¬2) (.bin .mod (.call 2 #[!0,¬4]) (¬4))),.asg (.one 5) (.lst #[.idx (!3) (¬0),.idx (!3) (¬1)]),.iff (.cmp .eq (.bin .mod (.bin .fdiv (.call 2 #[!0,¬4]) (¬4)) (¬12)) (¬1)) #[.asg (.one 5) (.lst #[.idx (!3) (¬0),.idx (!3) (¬0)])] .nil,.asg (.one 6) (.lst .nil),.for (.tup [7,8]) .enum #[!1] #[.expr (.met .append (!6) #[.tup #[.idx (!2) (!7),.idx (!3) (.bin .mod (!8) (!4)),.idx (!3) (.bin .mod (.bin .fdiv (!8) (!4)) (!4))]])],.ret (.call 1 #[!5,!6])]
def iH:cE:=#[.asg (.one 1) .dct0,.asg (.one 2) (¬0),.for (.tup [3,4]) .seq #[!0] #[.setF 5 (.sdef (!1) (!3) (!3)) "" .no,.setF 6 (.sdef (!1) (!4) (!4)) "" .no,.iff (.cmp .ne (!5) (!6)) #[.asg (.one 2) (.bin .add (!2) (¬1)),.for (.one 7) .seq #[.lkeys (!1)] #[.iff (.cmp .eq (.idx (!1) (!7)) (!5)) #[.g9 (!1) (!7) (!6)] .nil]] .nil],.ret (!2)]
def fh:cE:=#[.ret (.cmp .eq (.call 4 #[.bin .add (!1) (.lst #[!0])]) (.call 4 #[!1]))]
def fj:cE:=#[.iff (.call 5 #[!0,!1]) #[.ret (.cst (.str "linker"))] .nil,.iff (.not (.call 5 #[!0,.bin .add (!1) (!2)])) #[.ret (.cst (.str "cutter"))] .nil,.asg (.one 4) (.cst (.str "linker")),.iff (.cmp .eq (!3) (.cst (.str "linker"))) #[.asg (.one 4) (.cst (.str "cutter"))] .nil,.for (.one 5) .range #[.blt .len #[!2]] #[.asg (.one 6) (.bin .add (.slc (!2) .no (!5)) (.slc (!2) (.bin .add (!5) (¬1)) .no)),.asg (.one 7) (!1),.iff (.cmp .eq (!3) (.cst (.str "linker"))) #[.asg (.one 7) (.bin .add (!1) (.lst #[.idx (!2) (!5)]))] .nil,.never],.ret (!4)]
def cj(j:Nat):cE:=#[.iff (.call 5 #[!0,!1]) #[.ret (.cst (.str "linker"))] .nil,.iff (.not (.call 5 #[!0,.bin .add (!1) (!2)])) #[.ret (.cst (.str "cutter"))] .nil,.asg (.one 4) (.cst (.str "linker")),.iff (.cmp .eq (!3) (.cst (.str "linker"))) #[.asg (.one 4) (.cst (.str "cutter"))] .nil,.for (.one 5) .range #[.blt .len #[!2]] #[.asg (.one 6) (.bin .add (.slc (!2) .no (!5)) (.slc (!2) (.bin .add (!5) (¬1)) .no)),.asg (.one 7) (!1),.iff (.cmp .eq (!3) (.cst (.str "linker"))) #[.asg (.one 7) (.bin .add (!1) (.lst #[.idx (!2) (!5)]))] .nil,.iff (.cmp .eq (.call j #[!0,!7,!6,!4]) (!3)) #[.ret (!3)] .nil],.ret (!4)]
def gI:cE:=cj 6
def gJ:cE:=cj 7
def gK:cE:=cj 8
def gM:cE:=cj 9
def dN:cE:=#[.ret (.cmp .eq (.idx (.idx (!0) (¬0)) (¬0)) (.idx (.idx (!0) (¬0)) (¬1)))]
def dO:cE:=#[.asg (.one 2) .dct0,.for (.one 3) .seq #[!0] #[.g9 (!2) (!3) (!3)],.for (.tup [4,5]) .seq #[!1] #[.asg (.one 6) (.blt .min #[.idx (!2) (!4),.idx (!2) (!5)]),.asg (.one 7) (.blt .max #[.idx (!2) (!4),.idx (!2) (!5)]),.for (.one 3) .seq #[!0] #[.iff (.cmp .eq (.idx (!2) (!3)) (!7)) #[.g9 (!2) (!3) (!6)] .nil]],.ret (!2)]
def dP:cE:=#[.asg (.one 1) (.blt .list #[.idx (!0) (¬0)]),.for (.one 2) .seq #[.idx (!0) (¬1)] #[.expr (.met .extend (!1) #[.slc (!2) (¬1) .no])],.ret (.sset (!1))]
def dQ:cE:=#[.asg (.one 1) (.call 12 #[.call 13 #[!0],.comp ["tie"] [none] (.one 0) .seq #[.idx (!0) (¬1)] .no (.slc (!0) (¬1) .no)]),.ret (.cmp .ne (.idx (!1) (.idx (.idx (!0) (¬0)) (¬0))) (.idx (!1) (.idx (.idx (!0) (¬0)) (¬1))))]
def dR:cE:=#[.iff (.call 11 #[!0]) #[.ret (.cst (.str "linker"))] .nil,.iff (.call 14 #[!0]) #[.ret (.cst (.str "cutter"))] .nil,.ret (.cst .non)]
def cZ:cE:=#[.iff (.cmp .eq (!0) (.cst (.str "linker"))) #[.ret (.cst (.str "cutter"))] .nil,.ret (.cst (.str "linker"))]
def fk:cE:=#[.ret (.comp ["tie"] [none] (.one 0) .seq #[.idx (!0) (¬1)] .no (.idx (!0) (¬0)))]
def cA:cE:=#[.asg (.one 2) (.lst .nil),.for (.tup [3,4,5]) .seq #[!1] #[.expr (.met .append (!2) #[.tup #[!3,.blt .min #[!4,!5],.blt .max #[!4,!5]]])],.ret (.tup #[.tup #[.blt .min #[.idx (!0) (¬0),.idx (!0) (¬1)],.blt .max #[.idx (!0) (¬0),.idx (!0) (¬1)]],.blt .sorted #[!2]])]
def gn:cE:=#[.for (.tup [2,3,4]) .seq #[.idx (!0) (¬1)] #[.iff (.cmp .eq (!2) (!1)) #[.ret (.tup #[!3,!4])] .nil],.never]
def gp:cE:=#[.expr (.call 19 #[!0,!1]),.ret (.comp ["each","tie"] [none,some 1] (.one 0) .seq #[.idx (!0) (¬1)] (.cmp .ne (.idx (!0) (¬0)) (!1)) (!0))]
def dS:cE:=#[.ret (.call 18 #[.idx (!0) (¬0),.call 20 #[!0,!1]])]
def jv:cE:=#[.asg (.one 2) (.call 19 #[!0,!1]),.asg (.one 3) (.dct1 (.idx (!2) (¬1)) (.idx (!2) (¬0))),.asg (.one 4) (.tup #[.dget (!3) (.idx (.idx (!0) (¬0)) (¬0)) (.idx (.idx (!0) (¬0)) (¬0)),.dget (!3) (.idx (.idx (!0) (¬0)) (¬1)) (.idx (.idx (!0) (¬0)) (¬1))]),.asg (.one 5) (.lst .nil),.for (.tup [6,7,8]) .seq #[.call 20 #[!0,!1]] #[.expr (.met .append (!5) #[.tup #[!6,.dget (!3) (!7) (!7),.dget (!3) (!8) (!8)]])],.ret (.call 18 #[!4,!5])]
def eV:cE:=#[.iff (.cmp .eq (!1) (.cst (.str "linker"))) #[.ret (.call 22 #[!0,!2])] .nil,.ret (.call 21 #[!0,!2])]
def bV:cE:=#[.asg (.one 2) (.call 15 #[!0]),.iff (.cmp .ntn (!2) (.cst .non)) #[.ret (!2)] .nil,.asg (.one 3) (.call 16 #[!1]),.for (.one 4) .seq #[.call 17 #[!0]] #[.never],.ret (!3)]
def cu(j:Nat):cE:=#[.asg (.one 2) (.call 15 #[!0]),.iff (.cmp .ntn (!2) (.cst .non)) #[.ret (!2)] .nil,.asg (.one 3) (.call 16 #[!1]),.for (.one 4) .seq #[.call 17 #[!0]] #[.iff (.cmp .eq (.call j #[.call 23 #[!0,!1,!4],!3]) (!1)) #[.ret (!1)] .nil],.ret (!3)]
def fQ:cE:=cu 24
def fR:cE:=cu 25
def fS:cE:=cu 26
def fT:cE:=cu 27
def jw:cE:=#[.iff (.cmp .gt (.blt .len #[.idx (!0) (¬1)]) (.con "MOST_TIES_TRIED" (.int 7))) #[.never] .nil,.ret (.call 28 #[!0,!1])]
def dU:cE:=#[.asg (.one 1) (.call 29 #[!0,.cst (.str "linker")]),.iff (.cmp .eq (.call 29 #[!0,.cst (.str "cutter")]) (!1)) #[.ret (!1)] .nil,.ret (.cst (.str "first"))]
def kE:cE:=#[.asg (.one 1) (.call 3 #[!0,.slc (!0) (¬5) (¬9)]),.asg (.one 2) (.comp ["_law_name","_law_one","_law_other"] [none,none,none] (.tup [0,1,2]) .seq #[.idx (!1) (¬1)] .no (.tup #[!1,!2])),.asg (.one 3) (.tup #[.idx (!1) (¬0),.blt .list #[.idx (!1) (¬1)]]),.asg (.one 4) (.lst .nil),.for (.one 5) .seq #[.lst #[.cst (.str "linker"),.cst (.str "cutter")]] #[.expr (.met .append (!4) #[.call 10 #[.idx (!1) (¬0),.lst .nil,!2,!5]]),.iff (.cmp .ne (.call 29 #[!3,!5]) (.idx (!4) (.neg (¬1)))) #[.ret (.cst (.bl false))] .nil],.asg (.one 6) (.cst (.str "first")),.iff (.cmp .eq (.idx (!4) (¬0)) (.idx (!4) (¬1))) #[.asg (.one 6) (.idx (!4) (¬0))] .nil,.ret (.and (.cmp .eq (.call 30 #[!3]) (!6)) (.cmp .eq (!3) (!1)))]
def OX:List Row:=[]
def mU:List Val->M Val:=iM (look OX) 7 dM
def OY:List Row:=OX++[(("_law_numbers":Str),3,mU)]
def yE:List Val->M Val:=iM (look OY) 3 ju
def OZ:List Row:=OY++[(("_law_net":Str),2,yE)]
def uU:List Val->M Val:=iM (look OZ) 2 iF
def O0:List Row:=OZ++[(("_law_cell":Str),2,uU)]
def yF:List Val->M Val:=iM (look O0) 9 iG
def O3:List Row:=O0++[(("_law_any":Str),2,yF)]
def uV:List Val->M Val:=iM (look O3) 8 iH
def O4:List Row:=O3++[(("_law_rank":Str),1,uV)]
def pe:List Val->M Val:=iM (look O4) 2 fh
def O5:List Row:=O4++[(("_law_joined":Str),2,pe)]
def pq:List Val->M Val:=iM (look O5) 8 fj
def O6:List Row:=O5++[(("_law_wins":Str),4,pq)]
def pB:List Val->M Val:=iM (look O6) 8 gI
def O7:List Row:=O6++[(("_law_wins":Str),4,pB)]
def pC:List Val->M Val:=iM (look O7) 8 gJ
def O8:List Row:=O7++[(("_law_wins":Str),4,pC)]
def pD:List Val->M Val:=iM (look O8) 8 gK
def CA:List Row:=O8++[(("_law_wins":Str),4,pD)]
def pF:List Val->M Val:=iM (look CA) 8 gM
def CB:List Row:=CA++[(("_law_wins":Str),4,pF)]
def mV:List Val->M Val:=iM (look CB) 1 dN
def CC:List Row:=CB++[(("is_linked":Str),1,mV)]
def mW:List Val->M Val:=iM (look CC) 8 dO
def CD:List Row:=CC++[(("firsts_by":Str),2,mW)]
def mX:List Val->M Val:=iM (look CD) 3 dP
def CF:List Row:=CD++[(("places_of":Str),1,mX)]
def mY:List Val->M Val:=iM (look CF) 2 dQ
def CG:List Row:=CF++[(("is_parted":Str),1,mY)]
def mZ:List Val->M Val:=iM (look CG) 1 dR
def CH:List Row:=CG++[(("winner_of":Str),1,mZ)]
def lJ:List Val->M Val:=iM (look CH) 1 cZ
def CI:List Row:=CH++[(("other_side":Str),1,lJ)]
def pG:List Val->M Val:=iM (look CI) 1 fk
def CJ:List Row:=CI++[(("names_of":Str),1,pG)]
def jx:List Val->M Val:=iM (look CJ) 6 cA
def CK:List Row:=CJ++[(("put_in_order":Str),2,jx)]
def qS:List Val->M Val:=iM (look CK) 5 gn
def CL:List Row:=CK++[(("ends_of":Str),2,qS)]
def qT:List Val->M Val:=iM (look CL) 2 gp
def CM:List Row:=CL++[(("without":Str),2,qT)]
def m6:List Val->M Val:=iM (look CM) 2 dS
def CN:List Row:=CM++[(("taken_out":Str),2,m6)]
def yG:List Val->M Val:=iM (look CN) 9 jv
def CO:List Row:=CN++[(("drawn":Str),2,yG)]
def qU:List Val->M Val:=iM (look CO) 3 eV
def CP:List Row:=CO++[(("done_by":Str),3,qU)]
def m7:List Val->M Val:=iM (look CP) 5 bV
def CQ:List Row:=CP++[(("best_of":Str),2,m7)]
def m8:List Val->M Val:=iM (look CQ) 5 fQ
def CS:List Row:=CQ++[(("best_of":Str),2,m8)]
def m9:List Val->M Val:=iM (look CS) 5 fR
def CT:List Row:=CS++[(("best_of":Str),2,m9)]
def ng:List Val->M Val:=iM (look CT) 5 fS
def CU:List Row:=CT++[(("best_of":Str),2,ng)]
def nh:List Val->M Val:=iM (look CU) 5 fT
def CV:List Row:=CU++[(("best_of":Str),2,nh)]
def yH:List Val->M Val:=iM (look CV) 2 jw
def CW:List Row:=CV++[(("tried":Str),2,yH)]
def ni:List Val->M Val:=iM (look CW) 2 dU
def Fz:List Row:=CW++[(("all_plays":Str),1,ni)]
def CY:List Val->M Val:=iM (look Fz) 7 kE
def RB:List aQ:=[]
def fm:aQ:=cF (aq RB) 7 dM
def RC:List aQ:=RB++[fm]
def lK:aQ:=cF (aq RC) 3 ju
def RD:List aQ:=RC++[lK]
def dg:aQ:=cF (aq RD) 2 iF
def GU:List aQ:=RD++[dg]
def nP:aQ:=cF (aq GU) 9 iG
def O9:List aQ:=GU++[nP]
def jy:aQ:=cF (aq O9) 8 iH
def PY:List aQ:=O9++[jy]
def eW:aQ:=cF (aq PY) 2 fh
def PZ:List aQ:=PY++[eW]
def iR:aQ:=cF (aq PZ) 8 fj
def P0:List aQ:=PZ++[iR]
def kF:aQ:=cF (aq P0) 8 gI
def P1:List aQ:=P0++[kF]
def kG:aQ:=cF (aq P1) 8 gJ
def P4:List aQ:=P1++[kG]
def kH:aQ:=cF (aq P4) 8 gK
def FA:List aQ:=P4++[kH]
def di:aQ:=cF (aq FA) 8 gM
def Ld:List aQ:=FA++[di]
def fq:aQ:=cF (aq Ld) 1 dN
def Le:List aQ:=Ld++[fq]
def fu:aQ:=cF (aq Le) 8 dO
def Lf:List aQ:=Le++[fu]
def fy:aQ:=cF (aq Lf) 3 dP
def CZ:List aQ:=Lf++[fy]
def fz:aQ:=cF (aq CZ) 2 dQ
def C0:List aQ:=CZ++[fz]
def dD:aQ:=cF (aq C0) 1 dR
def Lg:List aQ:=C0++[dD]
def dW:aQ:=cF (aq Lg) 1 cZ
def Lh:List aQ:=Lg++[dW]
def eX:aQ:=cF (aq Lh) 1 fk
def Li:List aQ:=Lh++[eX]
def b8:aQ:=cF (aq Li) 6 cA
def Lj:List aQ:=Li++[b8]
def fY:aQ:=cF (aq Lj) 5 gn
def FD:List aQ:=Lj++[fY]
def fZ:aQ:=cF (aq FD) 2 gp
def C1:List aQ:=FD++[fZ]
def fD:aQ:=cF (aq C1) 2 dS
def zZ:List aQ:=C1++[fD]
def lM:aQ:=cF (aq zZ) 9 jv
def C2:List aQ:=zZ++[lM]
def f6:aQ:=cF (aq C2) 3 eV
def z4:List aQ:=C2++[f6]
def jz:aQ:=cF (aq z4) 5 bV
def FE:List aQ:=z4++[jz]
def jA:aQ:=cF (aq FE) 5 fQ
def FF:List aQ:=FE++[jA]
def jB:aQ:=cF (aq FF) 5 fR
def FG:List aQ:=FF++[jB]
def jC:aQ:=cF (aq FG) 5 fS
def FH:List aQ:=FG++[jC]
def gO:aQ:=cF (aq FH) 5 fT
def z5:List aQ:=FH++[gO]
def fU:aQ:=cF (aq z5) 2 jw
def wQ:List aQ:=z5++[fU]
def fE:aQ:=cF (aq wQ) 2 dU
def jW:List aQ:=wQ++[fE]
def GV:aQ:=K3 (aq jW) 7 kE
theorem gq:aq GU 0=fm:=rfl
theorem pH:aq GU 1=lK:=rfl
theorem iY:aq GU 2=dg:=rfl
theorem kI:aq PY 4=jy:=rfl
theorem fF:aq PZ 5=eW:=rfl
theorem dX:aq CZ 12=fu:=rfl
theorem iS:aq CZ 13=fy:=rfl
theorem cy:aq C0 11=fq:=rfl
theorem dY:aq C0 14=fz:=rfl
theorem kJ:aq FD 19=fY:=rfl
theorem gy:aq C1 18=b8:=rfl
theorem jD:aq C1 20=fZ:=rfl
theorem jc:aq zZ 18=b8:=rfl
theorem mC:aq zZ 19=fY:=rfl
theorem mD:aq zZ 20=fZ:=rfl
theorem jE:aq C2 21=fD:=rfl
theorem mE:aq C2 22=lM:=rfl
theorem dZ:aq z4 15=dD:=rfl
theorem kK:aq z5 28=gO:=rfl
theorem gr:aq wQ 29=fU:=rfl
theorem sI:aq jW 3=nP:=rfl
theorem nF:aq jW 10=di:=rfl
theorem sJ:aq jW 29=fU:=rfl
theorem mF:aq jW 30=fE:=rfl
theorem i0:cG OX RB:=Cf
theorem uW:Imp mU fm:=aY (ay i0) (by decide +kernel)
theorem i1:cG OY RC:=az i0 uW
theorem FI:Imp yE lK:=aY (ay i1) (by decide +kernel)
theorem i2:cG OZ RD:=az i1 FI
theorem C3:Imp uU dg:=aY (ay i2) (by decide +kernel)
theorem i3:cG O0 GU:=az i2 C3
theorem FJ:Imp yF nP:=aY (ay i3) (by decide +kernel)
theorem i4:cG O3 O9:=az i3 FJ
theorem C4:Imp uV jy:=aY (ay i4) (by decide +kernel)
theorem i5:cG O4 PY:=az i4 C4
theorem wU:Imp pe eW:=aY (ay i5) (by decide +kernel)
theorem i6:cG O5 PZ:=az i5 wU
theorem wV:Imp pq iR:=aY (ay i6) (by decide +kernel)
theorem i7:cG O6 P0:=az i6 wV
theorem wW:Imp pB kF:=aY (ay i7) (by decide +kernel)
theorem i8:cG O7 P1:=az i7 wW
theorem wX:Imp pC kG:=aY (ay i8) (by decide +kernel)
theorem i9:cG O8 P4:=az i8 wX
theorem wY:Imp pD kH:=aY (ay i9) (by decide +kernel)
theorem Sv:cG CA FA:=az i9 wY
theorem wZ:Imp pF di:=aY (ay Sv) (by decide +kernel)
theorem Sw:cG CB Ld:=az Sv wZ
theorem uX:Imp mV fq:=aY (ay Sw) (by decide +kernel)
theorem i12:cG CC Le:=az Sw uX
theorem uY:Imp mW fu:=aY (ay i12) (by decide +kernel)
theorem Sx:cG CD Lf:=az i12 uY
theorem uZ:Imp mX fy:=aY (ay Sx) (by decide +kernel)
theorem Sy:cG CF CZ:=az Sx uZ
theorem u5:Imp mY fz:=aY (ay Sy) (by decide +kernel)
theorem Sz:cG CG C0:=az Sy u5
theorem u6:Imp mZ dD:=aY (ay Sz) (by decide +kernel)
theorem SA:cG CH Lg:=az Sz u6
theorem sL:Imp lJ dW:=aY (ay SA) (by decide +kernel)
theorem SD:cG CI Lh:=az SA sL
theorem xg:Imp pG eX:=aY (ay SD) (by decide +kernel)
theorem SE:cG CJ Li:=az SD xg
theorem pI:Imp jx b8:=aY (ay SE) (by decide +kernel)
theorem SG:cG CK Lj:=az SE pI
theorem z6:Imp qS fY:=aY (ay SG) (by decide +kernel)
theorem SH:cG CL FD:=az SG z6
theorem z7:Imp qT fZ:=aY (ay SH) (by decide +kernel)
theorem SJ:cG CM C1:=az SH z7
theorem u7:Imp m6 fD:=aY (ay SJ) (by decide +kernel)
theorem SK:cG CN zZ:=az SJ u7
theorem FL:Imp yG lM:=aY (ay SK) (by decide +kernel)
theorem SM:cG CO C2:=az SK FL
theorem z8:Imp qU f6:=aY (ay SM) (by decide +kernel)
theorem SN:cG CP z4:=az SM z8
theorem u9:Imp m7 jz:=aY (ay SN) (by decide +kernel)
theorem SO:cG CQ FE:=az SN u9
theorem vc:Imp m8 jA:=aY (ay SO) (by decide +kernel)
theorem SQ:cG CS FF:=az SO vc
theorem vd:Imp m9 jB:=aY (ay SQ) (by decide +kernel)
theorem SS:cG CT FG:=az SQ vd
theorem ve:Imp ng jC:=aY (ay SS) (by decide +kernel)
theorem SV:cG CU FH:=az SS ve
theorem vf:Imp nh gO:=aY (ay SV) (by decide +kernel)
theorem SW:cG CV z5:=az SV vf
theorem FN:Imp yH fU:=aY (ay SW) (by decide +kernel)
theorem SX:cG CW wQ:=az SW FN
theorem vg:Imp ni fE:=aY (ay SX) (by decide +kernel)
theorem UN:cG Fz jW:=az SX vg
theorem FO{ns:List Int}{f:Bool}(e:GV [.rl (ns.map .int)]=.ok (f,.bl true)):∃h',CY [.rl (ns.map .int)] []=.ok (.bl true) h':=zY (ay UN) (by decide +kernel) e
theorem c0:aO K7 ["_law_one","_law_two","_law_three"] (af (top 27))=true:=by decide +kernel
theorem d0:aT ⟨K7,af (top 27),OX.map (λr=>(r.1,r.2.1)),cons,tb⟩ dM (aA (top 27))=true:=by decide +kernel
theorem c1:aO K8 ["_law_poles","_law_ties"] (af (top 28))=true:=by decide +kernel
theorem d1:aT ⟨K8,af (top 28),OY.map (λr=>(r.1,r.2.1)),cons,tb⟩ ju (aA (top 28))=true:=by decide +kernel
theorem c2:aO Ct Ct (af (top 26))=true:=by decide +kernel
theorem d2:aT ⟨Ct,af (top 26),OZ.map (λr=>(r.1,r.2.1)),cons,tb⟩ iF (aA (top 26))=true:=by decide +kernel
theorem c3:aO K9 ["_law_script","_law_cells"] (af (top 29))=true:=by decide +kernel
theorem d3:aT ⟨K9,af (top 29),O0.map (λr=>(r.1,r.2.1)),cons,tb⟩ iG (aA (top 29))=true:=by decide +kernel
theorem c4:aO La ["_law_pairs"] (af (top 30))=true:=by decide +kernel
theorem d4:aT ⟨La,af (top 30),O3.map (λr=>(r.1,r.2.1)),cons,tb⟩ iH (aA (top 30))=true:=by decide +kernel
theorem c5:aO Cu Cu (af (top 33))=true:=by decide +kernel
theorem d5:aT ⟨Cu,af (top 33),O4.map (λr=>(r.1,r.2.1)),cons,tb⟩ fh (aA (top 33))=true:=by decide +kernel
theorem c6:aO kD p7 (af (top 34))=true:=by decide +kernel
theorem d6:aT ⟨kD,af (top 34),O5.map (λr=>(r.1,r.2.1)),cons,tb⟩ fj (aA (top 34))=true:=by decide +kernel
theorem c7:aO kD p7 (af (top 34))=true:=by decide +kernel
theorem d7:aT ⟨kD,af (top 34),O6.map (λr=>(r.1,r.2.1)),cons,tb⟩ gI (aA (top 34))=true:=by decide +kernel
theorem c8:aO kD p7 (af (top 34))=true:=by decide +kernel
theorem d8:aT ⟨kD,af (top 34),O7.map (λr=>(r.1,r.2.1)),cons,tb⟩ gJ (aA (top 34))=true:=by decide +kernel
theorem c9:aO kD p7 (af (top 34))=true:=by decide +kernel
theorem d9:aT ⟨kD,af (top 34),O8.map (λr=>(r.1,r.2.1)),cons,tb⟩ gK (aA (top 34))=true:=by decide +kernel
theorem UO:aO kD p7 (af (top 34))=true:=by decide +kernel
theorem UP:aT ⟨kD,af (top 34),CA.map (λr=>(r.1,r.2.1)),cons,tb⟩ gM (aA (top 34))=true:=by decide +kernel
theorem UQ:aO gZ gZ (af (top 17))=true:=by decide +kernel
theorem US:aT ⟨gZ,af (top 17),CB.map (λr=>(r.1,r.2.1)),cons,tb⟩ dN (aA (top 17))=true:=by decide +kernel
theorem c12:aO Lc ["places","pairs"] (af (top 16))=true:=by decide +kernel
theorem UT:aT ⟨Lc,af (top 16),CC.map (λr=>(r.1,r.2.1)),cons,tb⟩ dO (aA (top 16))=true:=by decide +kernel
theorem UU:aO Cv gZ (af (top 6))=true:=by decide +kernel
theorem UW:aT ⟨Cv,af (top 6),CD.map (λr=>(r.1,r.2.1)),cons,tb⟩ dP (aA (top 6))=true:=by decide +kernel
theorem UX:aO ["net","firsts"] gZ (af (top 18))=true:=by decide +kernel
theorem UY:aT ⟨["net","firsts"],af (top 18),CF.map (λr=>(r.1,r.2.1)),cons,tb⟩ dQ (aA (top 18))=true:=by decide +kernel
theorem UZ:aO gZ gZ (af (top 19))=true:=by decide +kernel
theorem U0:aT ⟨gZ,af (top 19),CG.map (λr=>(r.1,r.2.1)),cons,tb⟩ dR (aA (top 19))=true:=by decide +kernel
theorem U3:aO ["side"] ["side"] (af (top 14))=true:=by decide +kernel
theorem U4:aT ⟨["side"],af (top 14),CH.map (λr=>(r.1,r.2.1)),cons,tb⟩ cZ (aA (top 14))=true:=by decide +kernel
theorem U5:aO gZ gZ (af (top 7))=true:=by decide +kernel
theorem U6:aT ⟨gZ,af (top 7),CI.map (λr=>(r.1,r.2.1)),cons,tb⟩ fk (aA (top 7))=true:=by decide +kernel
theorem U7:aO Cw ["poles","ties"] (af (top 5))=true:=by decide +kernel
theorem U8:aT ⟨Cw,af (top 5),CJ.map (λr=>(r.1,r.2.1)),cons,tb⟩ cA (aA (top 5))=true:=by decide +kernel
theorem U9:aO Cy gH (af (top 8))=true:=by decide +kernel
theorem Va:aT ⟨Cy,af (top 8),CK.map (λr=>(r.1,r.2.1)),cons,tb⟩ gn (aA (top 8))=true:=by decide +kernel
theorem Vb:aO gH gH (af (top 10))=true:=by decide +kernel
theorem Vc:aT ⟨gH,af (top 10),CL.map (λr=>(r.1,r.2.1)),cons,tb⟩ gp (aA (top 10))=true:=by decide +kernel
theorem Vd:aO gH gH (af (top 11))=true:=by decide +kernel
theorem Ve:aT ⟨gH,af (top 11),CM.map (λr=>(r.1,r.2.1)),cons,tb⟩ dS (aA (top 11))=true:=by decide +kernel
theorem Vf:aO Cz gH (af (top 12))=true:=by decide +kernel
theorem Vg:aT ⟨Cz,af (top 12),CN.map (λr=>(r.1,r.2.1)),cons,tb⟩ jv (aA (top 12))=true:=by decide +kernel
theorem Vh:aO uS uS (af (top 13))=true:=by decide +kernel
theorem Vi:aT ⟨uS,af (top 13),CO.map (λr=>(r.1,r.2.1)),cons,tb⟩ eV (aA (top 13))=true:=by decide +kernel
theorem Vj:aO gm j7 (af (top 23))=true:=by decide +kernel
theorem Vk:aT ⟨gm,af (top 23),CP.map (λr=>(r.1,r.2.1)),cons,tb⟩ bV (aA (top 23))=true:=by decide +kernel
theorem Vl:aO gm j7 (af (top 23))=true:=by decide +kernel
theorem Vm:aT ⟨gm,af (top 23),CQ.map (λr=>(r.1,r.2.1)),cons,tb⟩ fQ (aA (top 23))=true:=by decide +kernel
theorem Vn:aO gm j7 (af (top 23))=true:=by decide +kernel
theorem Vo:aT ⟨gm,af (top 23),CS.map (λr=>(r.1,r.2.1)),cons,tb⟩ fR (aA (top 23))=true:=by decide +kernel
theorem Vp:aO gm j7 (af (top 23))=true:=by decide +kernel
theorem Vq:aT ⟨gm,af (top 23),CT.map (λr=>(r.1,r.2.1)),cons,tb⟩ fS (aA (top 23))=true:=by decide +kernel
theorem Vr:aO gm j7 (af (top 23))=true:=by decide +kernel
theorem Vs:aT ⟨gm,af (top 23),CU.map (λr=>(r.1,r.2.1)),cons,tb⟩ fT (aA (top 23))=true:=by decide +kernel
theorem Vt:aO uT uT (af (top 22))=true:=by decide +kernel
theorem Vu:aT ⟨uT,af (top 22),CV.map (λr=>(r.1,r.2.1)),cons,tb⟩ jw (aA (top 22))=true:=by decide +kernel
theorem Vv:aO ["net","word"] gZ (af (top 24))=true:=by decide +kernel
theorem Vw:aT ⟨["net","word"],af (top 24),CW.map (λr=>(r.1,r.2.1)),cons,tb⟩ dU (aA (top 24))=true:=by decide +kernel
theorem Vx:aO GS ["_law_script"] (af (top 35))=true:=by decide +kernel
theorem Vy:aT ⟨GS,af (top 35),Fz.map (λr=>(r.1,r.2.1)),cons,tb⟩ kE (aA (top 35))=true:=by decide +kernel
section
variable {P:Program} {w:World} {K:Frag} {mg:Str->Option Value} {base:Heap}
theorem all_mk{l:PySem.W.OpenLaw}{h:Heap}{fa:Addr}(X:K.In h)(G:h.Ns mainGlobals mg)(Vz:mg "law" = some (.ref fa))(hφ:∀ns:List Int,ns.length<=63->∃h',CY [.rl (ns.map .int)] []=.ok (.bl true) h'){a0:Addr}{a1:Addr}{a2:Addr}{a3:Addr}{a4:Addr}{a5:Addr}{a6:Addr}{a7:Addr}{a8:Addr}{a9:Addr}{SY:Addr}{S0:Addr}{S4:Addr}{S5:Addr}{S6:Addr}{S7:Addr}{S8:Addr}{S9:Addr}{Tc:Addr}{Td:Addr}{Te:Addr}{Tf:Addr}{Tg:Addr}{Th:Addr}{Ti:Addr}{Tj:Addr}{Tn:Addr}{To:Addr}{Tp:Addr}{Tq:Addr}{Tr:Addr}{Tt:Addr}{tk0:Tok}
  (A0:nsIn K mainGlobals "_law_numbers" = some (some (.ref a0)))
  (F0:jT K "_law_numbers" "_law_numbers" (top 27) a0)
  (A1:nsIn K mainGlobals "_law_net" = some (some (.ref a1)))
  (F1:jT K "_law_net" "_law_net" (top 28) a1)
  (A2:nsIn K mainGlobals "_law_cell" = some (some (.ref a2)))
  (F2:jT K "_law_cell" "_law_cell" (top 26) a2)
  (A3:nsIn K mainGlobals "_law_any" = some (some (.ref a3)))
  (F3:jT K "_law_any" "_law_any" (top 29) a3)
  (A4:nsIn K mainGlobals "_law_rank" = some (some (.ref a4)))
  (F4:jT K "_law_rank" "_law_rank" (top 30) a4)
  (A5:nsIn K mainGlobals "_law_joined" = some (some (.ref a5)))
  (F5:jT K "_law_joined" "_law_joined" (top 33) a5)
  (A6:nsIn K mainGlobals "_law_wins" = some (some (.ref a6)))
  (F6:jT K "_law_wins" "_law_wins" (top 34) a6)
  (A7:nsIn K mainGlobals "_law_wins" = some (some (.ref a7)))
  (F7:jT K "_law_wins" "_law_wins" (top 34) a7)
  (A8:nsIn K mainGlobals "_law_wins" = some (some (.ref a8)))
  (F8:jT K "_law_wins" "_law_wins" (top 34) a8)
  (A9:nsIn K mainGlobals "_law_wins" = some (some (.ref a9)))
  (F9:jT K "_law_wins" "_law_wins" (top 34) a9)
  (A10:nsIn K mainGlobals "_law_wins" = some (some (.ref SY)))
  (F10:jT K "_law_wins" "_law_wins" (top 34) SY)
  (A11:nsIn K mainGlobals "is_linked" = some (some (.ref S0)))
  (F11:jT K "is_linked" "is_linked" (top 17) S0)
  (A12:nsIn K mainGlobals "firsts_by" = some (some (.ref S4)))
  (F12:jT K "firsts_by" "firsts_by" (top 16) S4)
  (A13:nsIn K mainGlobals "places_of" = some (some (.ref S5)))
  (F13:jT K "places_of" "places_of" (top 6) S5)
  (A14:nsIn K mainGlobals "is_parted" = some (some (.ref S6)))
  (F14:jT K "is_parted" "is_parted" (top 18) S6)
  (A15:nsIn K mainGlobals "winner_of" = some (some (.ref S7)))
  (F15:jT K "winner_of" "winner_of" (top 19) S7)
  (A16:nsIn K mainGlobals "other_side" = some (some (.ref S8)))
  (F16:jT K "other_side" "other_side" (top 14) S8)
  (A17:nsIn K mainGlobals "names_of" = some (some (.ref S9)))
  (F17:jT K "names_of" "names_of" (top 7) S9)
  (A18:nsIn K mainGlobals "put_in_order" = some (some (.ref Tc)))
  (F18:jT K "put_in_order" "put_in_order" (top 5) Tc)
  (A19:nsIn K mainGlobals "ends_of" = some (some (.ref Td)))
  (F19:jT K "ends_of" "ends_of" (top 8) Td)
  (A20:nsIn K mainGlobals "without" = some (some (.ref Te)))
  (F20:jT K "without" "without" (top 10) Te)
  (A21:nsIn K mainGlobals "taken_out" = some (some (.ref Tf)))
  (F21:jT K "taken_out" "taken_out" (top 11) Tf)
  (A22:nsIn K mainGlobals "drawn" = some (some (.ref Tg)))
  (F22:jT K "drawn" "drawn" (top 12) Tg)
  (A23:nsIn K mainGlobals "done_by" = some (some (.ref Th)))
  (F23:jT K "done_by" "done_by" (top 13) Th)
  (A24:nsIn K mainGlobals "best_of" = some (some (.ref Ti)))
  (F24:jT K "best_of" "best_of" (top 23) Ti)
  (A25:nsIn K mainGlobals "best_of" = some (some (.ref Tj)))
  (F25:jT K "best_of" "best_of" (top 23) Tj)
  (A26:nsIn K mainGlobals "best_of" = some (some (.ref Tn)))
  (F26:jT K "best_of" "best_of" (top 23) Tn)
  (A27:nsIn K mainGlobals "best_of" = some (some (.ref To)))
  (F27:jT K "best_of" "best_of" (top 23) To)
  (A28:nsIn K mainGlobals "best_of" = some (some (.ref Tp)))
  (F28:jT K "best_of" "best_of" (top 23) Tp)
  (A29:nsIn K mainGlobals "tried" = some (some (.ref Tq)))
  (F29:jT K "tried" "tried" (top 22) Tq)
  (A30:nsIn K mainGlobals "all_plays" = some (some (.ref Tr)))
  (F30:jT K "all_plays" "all_plays" (top 24) Tr)
  (A31:nsIn K mainGlobals "law" = some (some (.ref Tt)))
  (F31:jT K "law" "law" (top 35) Tt)
  (Z:∀x∈bltNames,nsIn K mainGlobals x=some none)
  (V0:nsIn K mainGlobals "MOST_TIES_TRIED" = some (some (.int (7) tk0))) :
  ∃fd:FuncData,(∀(s:Shared) (v:Value),BindsTo s fd ⟨[v],[]⟩ [("_law_script",v)])/\∀base:Heap,K.In base->base.Ns mainGlobals mg->gu l.prog w K mg base AQ 64 fa fd ["_law_script"] (PR K):=by
 have e:=Vz.symm.trans (WL X G A31);cases e;obtain⟨cl,hcl⟩:∃cl:Nat->Addr,cl=λn=>0:=⟨_,rfl⟩;have T:Base K cl mg cons tb:=by
  subst hcl;refine⟨λx hx=>?_,λp hp=>?_,λc hc=>?_,λp hp=>?_,λp hp=>?_,λp hp=>?_⟩
  ·exact PySem.W.mg_none_of X G (Z x hx)
  ·simp only[cons,mem_cons,not_mem_nil,or_false]at hp
   rcases hp with rfl
   ·exact⟨.int (7),_,WL X G V0,⟨_,rfl⟩,λ_ _ _=>VR.int⟩
  ·exact absurd hc (Nat.not_lt_zero _)
  ·simp[tb]at hp
  ·simp[tb]at hp
  ·simp[tb]at hp
 obtain⟨fd,F⟩:=F31;obtain⟨_,_,_,_,_,_,_,_,_,e,_⟩:=F.ex;refine⟨fd,λs v=>by rw[e];exact .of_eq rfl,λbase _ _=>?_⟩;have G0:b9 l.prog w ⟨K,cl⟩ mg base 0 OX:=all_nil;have G1:b9 l.prog w ⟨K,cl⟩ mg base 2 OY:=bQ (x:="_law_numbers") (N:=K7) (ps:=["_law_one","_law_two","_law_three"]) (body:=dM) T G0 F0 (WL X G A0) c0 d0 (by decide) (by intro _ _ _ _ _ _ _ l;apply Sj l;intros;rfl);have G2:b9 l.prog w ⟨K,cl⟩ mg base 4 OZ:=bQ (x:="_law_net") (N:=K8) (ps:=["_law_poles","_law_ties"]) (body:=ju) T G1 F1 (WL X G A1) c1 d1 (by decide) (by intro _ _ _ _ _ _ _ l;apply ln2 l;intros;rfl);have G3:b9 l.prog w ⟨K,cl⟩ mg base 6 O0:=bQ (x:="_law_cell") (N:=Ct) (ps:=Ct) (body:=iF) T G2 F2 (WL X G A2) c2 d2 (by decide) (by intro _ _ _ _ _ _ _ l;apply ln2 l;intros;rfl);have G4:b9 l.prog w ⟨K,cl⟩ mg base 8 O3:=bQ (x:="_law_any") (N:=K9) (ps:=["_law_script","_law_cells"]) (body:=iG) T G3 F3 (WL X G A3) c3 d3 (by decide) (by intro _ _ _ _ _ _ _ l;apply ln2 l;intros;rfl);have G5:b9 l.prog w ⟨K,cl⟩ mg base 10 O4:=bQ (x:="_law_rank") (N:=La) (ps:=["_law_pairs"]) (body:=iH) T G4 F4 (WL X G A4) c4 d4 (by decide) (by intro _ _ _ _ _ _ _ l;apply GL l;intros;rfl);have G6:b9 l.prog w ⟨K,cl⟩ mg base 12 O5:=bQ (x:="_law_joined") (N:=Cu) (ps:=Cu) (body:=fh) T G5 F5 (WL X G A5) c5 d5 (by decide) (by intro _ _ _ _ _ _ _ l;apply ln2 l;intros;rfl);have G7:b9 l.prog w ⟨K,cl⟩ mg base 14 O6:=bQ (x:="_law_wins") (N:=kD) (ps:=p7) (body:=fj) T G6 F6 (WL X G A6) c6 d6 (by decide) (by intro _ _ _ _ _ _ _ l;apply NH l;intros;rfl);have G8:b9 l.prog w ⟨K,cl⟩ mg base 16 O7:=bQ (x:="_law_wins") (N:=kD) (ps:=p7) (body:=gI) T G7 F7 (WL X G A7) c7 d7 (by decide) (by intro _ _ _ _ _ _ _ l;apply NH l;intros;rfl);have G9:b9 l.prog w ⟨K,cl⟩ mg base 18 O8:=bQ (x:="_law_wins") (N:=kD) (ps:=p7) (body:=gJ) T G8 F8 (WL X G A8) c8 d8 (by decide) (by intro _ _ _ _ _ _ _ l;apply NH l;intros;rfl);have VA:b9 l.prog w ⟨K,cl⟩ mg base 20 CA:=bQ (x:="_law_wins") (N:=kD) (ps:=p7) (body:=gK) T G9 F9 (WL X G A9) c9 d9 (by decide) (by intro _ _ _ _ _ _ _ l;apply NH l;intros;rfl);have VB:b9 l.prog w ⟨K,cl⟩ mg base 22 CB:=bQ (x:="_law_wins") (N:=kD) (ps:=p7) (body:=gM) T VA F10 (WL X G A10) UO UP (by decide) (by intro _ _ _ _ _ _ _ l;apply NH l;intros;rfl);have VC:b9 l.prog w ⟨K,cl⟩ mg base 24 CC:=bQ (x:="is_linked") (N:=gZ) (ps:=gZ) (body:=dN) T VB F11 (WL X G A11) UQ US (by decide) (by intro _ _ _ _ _ _ _ l;apply GL l;intros;rfl);have VD:b9 l.prog w ⟨K,cl⟩ mg base 26 CD:=bQ (x:="firsts_by") (N:=Lc) (ps:=["places","pairs"]) (body:=dO) T VC F12 (WL X G A12) c12 UT (by decide) (by intro _ _ _ _ _ _ _ l;apply ln2 l;intros;rfl);have VE:b9 l.prog w ⟨K,cl⟩ mg base 28 CF:=bQ (x:="places_of") (N:=Cv) (ps:=gZ) (body:=dP) T VD F13 (WL X G A13) UU UW (by decide) (by intro _ _ _ _ _ _ _ l;apply GL l;intros;rfl);have VF:b9 l.prog w ⟨K,cl⟩ mg base 30 CG:=bQ (x:="is_parted") (N:=["net","firsts"]) (ps:=gZ) (body:=dQ) T VE F14 (WL X G A14) UX UY (by decide) (by intro _ _ _ _ _ _ _ l;apply GL l;intros;rfl);have VG:b9 l.prog w ⟨K,cl⟩ mg base 32 CH:=bQ (x:="winner_of") (N:=gZ) (ps:=gZ) (body:=dR) T VF F15 (WL X G A15) UZ U0 (by decide) (by intro _ _ _ _ _ _ _ l;apply GL l;intros;rfl);have VH:b9 l.prog w ⟨K,cl⟩ mg base 34 CI:=bQ (x:="other_side") (N:=["side"]) (ps:=["side"]) (body:=cZ) T VG F16 (WL X G A16) U3 U4 (by decide) (by intro _ _ _ _ _ _ _ l;apply GL l;intros;rfl);have VI:b9 l.prog w ⟨K,cl⟩ mg base 36 CJ:=bQ (x:="names_of") (N:=gZ) (ps:=gZ) (body:=fk) T VH F17 (WL X G A17) U5 U6 (by decide) (by intro _ _ _ _ _ _ _ l;apply GL l;intros;rfl);have VJ:b9 l.prog w ⟨K,cl⟩ mg base 38 CK:=bQ (x:="put_in_order") (N:=Cw) (ps:=["poles","ties"]) (body:=cA) T VI F18 (WL X G A18) U7 U8 (by decide) (by intro _ _ _ _ _ _ _ l;apply ln2 l;intros;rfl);have VL:b9 l.prog w ⟨K,cl⟩ mg base 40 CL:=bQ (x:="ends_of") (N:=Cy) (ps:=gH) (body:=gn) T VJ F19 (WL X G A19) U9 Va (by decide) (by intro _ _ _ _ _ _ _ l;apply ln2 l;intros;rfl);have VM:b9 l.prog w ⟨K,cl⟩ mg base 42 CM:=bQ (x:="without") (N:=gH) (ps:=gH) (body:=gp) T VL F20 (WL X G A20) Vb Vc (by decide) (by intro _ _ _ _ _ _ _ l;apply ln2 l;intros;rfl);have VN:b9 l.prog w ⟨K,cl⟩ mg base 44 CN:=bQ (x:="taken_out") (N:=gH) (ps:=gH) (body:=dS) T VM F21 (WL X G A21) Vd Ve (by decide) (by intro _ _ _ _ _ _ _ l;apply ln2 l;intros;rfl);have VO:b9 l.prog w ⟨K,cl⟩ mg base 46 CO:=bQ (x:="drawn") (N:=Cz) (ps:=gH) (body:=jv) T VN F22 (WL X G A22) Vf Vg (by decide) (by intro _ _ _ _ _ _ _ l;apply ln2 l;intros;rfl);have VP:b9 l.prog w ⟨K,cl⟩ mg base 48 CP:=bQ (x:="done_by") (N:=uS) (ps:=uS) (body:=eV) T VO F23 (WL X G A23) Vh Vi (by decide) (by intro _ _ _ _ _ _ _ l;apply Sj l;intros;rfl);have VQ:b9 l.prog w ⟨K,cl⟩ mg base 50 CQ:=bQ (x:="best_of") (N:=gm) (ps:=j7) (body:=bV) T VP F24 (WL X G A24) Vj Vk (by decide) (by intro _ _ _ _ _ _ _ l;apply ln2 l;intros;rfl);have VS:b9 l.prog w ⟨K,cl⟩ mg base 52 CS:=bQ (x:="best_of") (N:=gm) (ps:=j7) (body:=fQ) T VQ F25 (WL X G A25) Vl Vm (by decide) (by intro _ _ _ _ _ _ _ l;apply ln2 l;intros;rfl);have VT:b9 l.prog w ⟨K,cl⟩ mg base 54 CT:=bQ (x:="best_of") (N:=gm) (ps:=j7) (body:=fR) T VS F26 (WL X G A26) Vn Vo (by decide) (by intro _ _ _ _ _ _ _ l;apply ln2 l;intros;rfl);have VU:b9 l.prog w ⟨K,cl⟩ mg base 56 CU:=bQ (x:="best_of") (N:=gm) (ps:=j7) (body:=fS) T VT F27 (WL X G A27) Vp Vq (by decide) (by intro _ _ _ _ _ _ _ l;apply ln2 l;intros;rfl);have VW:b9 l.prog w ⟨K,cl⟩ mg base 58 CV:=bQ (x:="best_of") (N:=gm) (ps:=j7) (body:=fT) T VU F28 (WL X G A28) Vr Vs (by decide) (by intro _ _ _ _ _ _ _ l;apply ln2 l;intros;rfl);have VX:b9 l.prog w ⟨K,cl⟩ mg base 60 CW:=bQ (x:="tried") (N:=uT) (ps:=uT) (body:=jw) T VW F29 (WL X G A29) Vt Vu (by decide) (by intro _ _ _ _ _ _ _ l;apply ln2 l;intros;rfl);have VY:b9 l.prog w ⟨K,cl⟩ mg base 62 Fz:=bQ (x:="all_plays") (N:=["net","word"]) (ps:=gZ) (body:=dU) T VX F30 (WL X G A30) Vv Vw (by decide) (by intro _ _ _ _ _ _ _ l;apply GL l;intros;rfl);exact(GK T VY F Vx Vy).imp (Ka hφ)
end
end K71
end
section
open PySem L2 Hv
set_option hygiene false
local macro_rules | `(tactic| simp only[EV,$ls,*] $[$l:location]?)=>`(tactic| simp only[cF,KW,KY,KZ,uK,Oc,Od,Oe,Of,Og,KL,Oh,KN,KO,Ri,Oi,Oj,aU,bL,LS,aX,uC,fH,PU,ES,EO,qZ,Sl,GQ,aK,KI,ck,Fg,KJ,isVar,jb,List.getElem?_cons_zero,List.getElem?_cons_succ,set_cons_zero,set_cons_succ,map_cons,map_nil,length_cons,length_nil,cons_append,List.nil_append,List.replicate_succ,List.replicate_zero,Nat.reduceSub,Nat.reduceAdd,Nat.reduceLeDiff,Ol,Om,Rj,Rk,Rm,Rn,Ro,Rp,Oq,Ot,oZ,Ou,Ov,Ow,GR,Ox,Oz,OA,KP,KQ,KR,KS,OC,j5,bR,oO,Rb,cV,gh,Hv.stored,List.contains_nil,List.contains_cons,List.elem_nil,List.elem_cons,Nat.reduceBEq,Nat.reduceEqDiff,BEq.rfl,List.all_cons,List.all_nil,beq_self_eq_true,uD,ig,oQ,j6,lz,↓reduceIte,Bool.and_true,Bool.true_and,Bool.false_and,Bool.and_false,Bool.or_false,Bool.false_or,Bool.or_true,Bool.true_or,Bool.or_self,Nat.zero_le,Bool.not_true,Bool.not_false,false_eq_true,decide_eq_true_eq,not_eq_true',decide_eq_false_iff_not,List.append_nil,List.nil_append,reduceCtorEq,$ls,*] $[$l:location]?)
section
open PySem L2 Hv
namespace K71
def aM(t:T3):Int×Int:=(t.2.1,t.2.2)
def iZ(p q:Int)(ts:List T3):List Int:=p::q::ts.flatMap λt=>[t.2.1,t.2.2]
def FP(p q:Int)(ts:List T3):List Int:=g9 (iZ p q ts)
theorem mG(p q:Int)(ts:List T3):(iZ p q ts).length=2+2*ts.length:=by
 unfold iZ
 induction ts with
 |nil=>rfl
 |cons t r ih=>simp only[List.flatMap_cons,length_cons,length_append,length_nil] at *;omega
theorem vh:∀(ns ks:List Int),(gS ks ns).length<=ks.length+ns.length
 |[],ks=>Wy _
 | k::r,ks=>by
  rw[gS,W7];have:=vh r (bS ks k);have:=oh ks k;omega
theorem FQ{p q:Int}(h:ts.length<=14):(FP p q ts).length<64:=by
 unfold FP g9;rw[(XX _).length_eq];have:=vh (iZ p q ts) [];rw[mG]at this;simp only[length_nil]at this;omega
theorem nQ{p q x:Int}:x∈FP p q ts↔x=p\/x=q\/∃t∈ts,x=t.2.1\/x=t.2.2:=by
 unfold FP;rw[Ck];unfold iZ;simp only[mem_cons,List.mem_flatMap,not_mem_nil,or_false]
theorem places_eq{p q:Int}(h:ts.length<=14):fy [aI p q ts]=.ok (true,.rl ((FP p q ts).map .int)):=by
 unfold fy dP aI;simp only[EV,cS pZ,cS nE,fL];rw[mT];refine cO bM (λr:Pr FV=>r=.ok (true,.rl ((FP p q ts).map .int)))
  (λdone env=>∃a,env=[some (.sh,aI p q ts),some (.ow,.rl ((iZ p q done).map .int)),a])
  ⟨none,rfl⟩ ?_ ?_
 ·rintro pre t post env hx ⟨a,rfl⟩
  refine⟨[some (.sh,aI p q ts),some (.ow,.rl ((iZ p q (pre++[t])).map .int)),some (.sh,bM t)],?_,_,rfl⟩;have hpl:pre.length<14:=by have:=Xf length hx;rw[WN,W7]at this;omega
  have z:((iZ p q pre).map Val.int).length+2<=sizeLine:=by rw[Wr,mG];unfold sizeLine;omega
  have ea:(iZ p q (pre++[t])).map Val.int=(iZ p q pre).map Val.int++[.int t.2.1,.int t.2.2]:=by unfold iZ;simp
  simp only[EV,b7,Cm,z,ea]
 ·rintro env ⟨a,rfl⟩
  have hl:(iZ p q ts).length<64:=by rw[mG];omega
  simp only[EV,ints_map,hl];rfl
end K71
end
section
open PySem L2 Hv
namespace K71
def ah(e:Int×Int):Val:=.tup [.int e.1,.int e.2]
theorem sM{i j:Nat}:cQ (.tup [i,j]) (ah e) env=some ((env.set i (some (.sh,.int e.1))).set j (some (.sh,.int e.2))):=rfl
theorem z9(ps:List Int)(hn:ps.Nodup)(hl:ps.length<64)(es:List (Int×Int))(he:∀e∈es,e.1∈ps/\e.2∈ps):∃f φ,fu [.rl (ps.map .int),.rl (es.map ah)]=.ok (f,lU ps λx=>.int (φ x))/\zS ps es φ:=by
 unfold fu dO;simp only[EV,fL];rw[mT];have hz:∀pre:List Int,pre.length<=ps.length->(pre.map (Sum.inl:Int->Key)).length<sizeLine:=λpre h=>by rw[Wr];unfold sizeLine;omega
 refine cO Val.int (λr:Pr FV=>∃f φ,r=.ok (f,lU ps λx=>.int (φ x))/\zS ps es φ)
  (λdone env=>∃a,env=[some (.sh,.rl (ps.map .int)),some (.sh,.rl (es.map ah)),some (.ow,lU done λx=>.int x),a,none,none,none,none])
  ⟨none,rfl⟩ ?_ ?_
 ·rintro pre x post env hx ⟨a,rfl⟩
  have RE:x∉pre:=by rw[hx,Xq]at hn;exact λh=>hn.2.2 x h x (by simp) rfl
  refine⟨[some (.sh,.rl (ps.map .int)),some (.sh,.rl (es.map ah)),some (.ow,lU (pre++[x]) λx=>.int x),some (.sh,.int x),none,none,none,none],?_,_,rfl⟩;simp only[EV,b7,uL,hz pre (by rw[hx];simp),yx RE];rw[dz (g':=λx=>Val.int x)];intro y _;unfold o5
  split
  ·rename_i e;rw[e]
  ·rfl
 ·rintro env ⟨a,rfl⟩
  simp only[EV,fL];rw[mT];refine cO ah (λr:Pr FV=>∃f φ,r=.ok (f,lU ps λx=>.int (φ x))/\zS ps es φ)
   (λdone env=>∃(φ:Int->Int) (a b c d e:Option (Mk×Val)),env=[some (.sh,.rl (ps.map .int)),some (.sh,.rl (es.map ah)),some (.ow,lU ps λx=>.int (φ x)),a,b,c,d,e]/\zS ps done φ)
   ⟨id,_,_,_,_,_,rfl,zS.start ps⟩ ?_ ?_
  ·rintro pre e post env hx ⟨φ,a,b,c,d,f,rfl,Lk⟩
   obtain⟨h1,h2⟩:=he e (by rw[hx];simp);simp only[EV,sM,kB h1,kB h2,fL];have hk:∃kept gone:Int,(if φ e.2 < φ e.1 then φ e.2 else φ e.1)=kept/\(if φ e.2 > φ e.1 then φ e.2 else φ e.1)=gone/\((kept = φ e.1/\gone = φ e.2)\/(kept = φ e.2/\gone = φ e.1)):=by
    refine⟨_,_,rfl,rfl,?_⟩
    split<;>split<;>omega
   obtain⟨kept,gone,ek,eg,hk⟩:=hk;rw[ek,eg];refine cO Val.int (λr:Pr wD=>∃env',r=.ok (.nx env')/\∃(φ:Int->Int) (a b c d f:Option (Mk×Val)),env'=[some (.sh,.rl (ps.map .int)),some (.sh,.rl (es.map ah)),some (.ow,lU ps λx=>.int (φ x)),a,b,c,d,f]/\zS ps (pre++[e]) φ)
    (λdone env=>∃a,env=[some (.sh,.rl (ps.map .int)),some (.sh,.rl (es.map ah)),some (.ow,lU ps λx=>.int (if x∈done /\ φ x=gone then kept else φ x)),a,some (.sh,.int e.1),some (.sh,.int e.2),some (.sh,.int kept),some (.sh,.int gone)])
    ⟨a,by simp⟩ ?_ ?_
   ·rintro done x post env hy ⟨a,rfl⟩
    have RE:x∉done:=by rw[hy,Xq]at hn;exact λh=>hn.2.2 x h x (by simp) rfl
    have hxs:x∈ps:=by rw[hy];simp
    refine⟨_,?_,some (.sh,.int x),rfl⟩;simp only[EV,b7,kB hxs,uL,hz ps (Nat.le_refl _),yw hxs,RE,false_and,if_false]
    by_cases hg:φ x=gone
    ·simp only[hg,↓reduceIte]
     rw[dz];intro y _;unfold o5
     by_cases e:y=x
     ·subst e;simp[hg]
     ·simp[e]
    ·simp only[hg,↓reduceIte]
     rw[dz];intro y _
     by_cases e:y=x
     ·subst e;simp[hg]
     ·simp[e]
   ·rintro env ⟨a,rfl⟩;refine⟨_,rfl,(λx=>if φ x=gone then kept else φ x),a,some (.sh,.int e.1),some (.sh,.int e.2),some (.sh,.int kept),some (.sh,.int gone),?_,Lk.step h1 h2 kept gone hk⟩;rw[dz];intro y hy;simp[hy]
  ·rintro env ⟨φ,a,b,c,d,e,rfl,Lk⟩;simp only[EV,aK];exact⟨_,φ,rfl,Lk⟩
end K71
end
section
open PySem L2 Hv
namespace K71
def Apart(p q:Int)(ts:List T3):Prop:=¬ Way (ts.map aM) p q
open Classical in
theorem Aa{p q:Int}(h:ts.length<=14):fz [aI p q ts]=.ok (true,.bl (decide (Apart p q ts))):=by
 have e1:=places_eq (p:=p) (q:=q) h;obtain⟨f,φ,e2,Lk⟩:=z9 (FP p q ts) (wN _) (FQ h) (ts.map aM) (λe he=>by
  obtain⟨t,ht,rfl⟩:=Xm.mp he;exact⟨nQ.mpr (.inr (.inr ⟨t,ht,.inl rfl⟩)),nQ.mpr (.inr (.inr ⟨t,ht,.inr rfl⟩))⟩)
 have hp:p∈FP p q ts:=nQ.mpr (.inl rfl);have hq:q∈FP p q ts:=nQ.mpr (.inr (.inl rfl));unfold fz dQ;have hc:ts.length<=100000:=by omega
 unfold aI at *;simp only[EV,iS,dX,e1,cS pZ,cS nE,fL,iW,length_map,hc];rw[eT bM (λt=>ah (aM t)) ts (λt ht=>by
  simp only[EV,b7,Cm];rfl)]
 have em:ts.map (λt=>ah (aM t))=(ts.map aM).map ah:=by rw[W4];rfl
 rw[em];simp only[EV,dX,e2,kB hp,kB hq,cS pZ,cS nE];have:=Lk.iff hp hq;unfold Apart;rw[<-this]
 by_cases c:φ p = φ q<;>simp[c]
theorem order_eq{p q:Int}{us:List T3}(hl:us.length<=16):b8 [.tup [.int p,.int q],.rl (us.map bM)]=.ok (true,aI (if q<p then q else p) (if q>p then q else p) (eB (us.map turnT))):=by
 unfold b8 cA;have z0:0<=sizeLine:=by decide
 have z2:2<=sizeLine:=by decide
 have z3:3<=sizeLine:=by decide
 simp only[EV,fL];rw[mT];refine cO bM (λr:Pr FV=>r=.ok (true,aI (if q<p then q else p) (if q>p then q else p) (eB (us.map turnT))))
  (λdone env=>∃a b c,env=[some (.sh,.tup [.int p,.int q]),some (.sh,.rl (us.map bM)),some (.ow,.rl ((done.map turnT).map bM)),a,b,c])
  ⟨none,none,none,rfl⟩ ?_ ?_
 ·rintro pre t post env hx ⟨a,b,c,rfl⟩
  have hpl:pre.length<16:=by have:=Xf length hx;rw[WN,W7]at this;omega
  have z:((pre.map turnT).map bM).length<sizeLine:=by rw[Wr,Wr];unfold sizeLine;omega
  refine⟨[some (.sh,.tup [.int p,.int q]),some (.sh,.rl (us.map bM)),some (.ow,.rl (((pre++[t]).map turnT).map bM)),some (.sh,.int t.1),some (.sh,.int t.2.1),some (.sh,.int t.2.2)],?_,_,_,_,rfl⟩;have ea:((pre++[t]).map turnT).map bM=(pre.map turnT).map bM++[bM (turnT t)]:=by simp
  simp only[EV,jP,z3,z,ea];rfl
 ·rintro env ⟨a,b,c,rfl⟩;simp only[EV,cS pZ,cS nE,z2,uO (show (us.map turnT).length<64 by rw[length_map];omega)];rfl
theorem vj{α:Type}(enc:α -> Val)(Q:aP->Prop)(x:α)(res:FV):∀(us:List α) (env:aP),Q env->x∈us ->
  (∀u∈us,∀env,Q env->(body (enc u) env=.ok (.rt res))\/(u≠x/\∃env',body (enc u) env=.ok (.nx env')/\Q env'))->fN body (us.map enc) env=.ok (.rt res)
 | u::us,env,q,hx,h=>by
  rw[WI,fN]
  rcases h u (Wx ..) env q with e|⟨ne,env',e,q'⟩
  ·rw[e,aK]
  ·rw[e,aK]
   rcases WH.mp hx with hx|hx
   ·exact(ne hx.symm).elim
   ·exact vj enc Q x res us env' q' hx λv hv=>h v (Ww _ hv)
def nameV(t:T3):Val:=.int t.1
theorem yI{p q:Int}(hn:(ts.map (·.1)).Nodup)(ht:t∈ts):fY [aI p q ts,.int t.1]=.ok (true,ah (aM t)):=by
 unfold fY gn aI;simp only[EV,cS pZ,cS nE,fL];rw[vj bM (λenv=>∃a b c,env=[some (.sh,.tup [.tup [.int p,.int q],.rl (ts.map bM)]),some (.sh,.int t.1),a,b,c]) t (true,ah (aM t)) ts _ ⟨none,none,none,rfl⟩ ht]
 ·rfl
 ·rintro u hu env ⟨a,b,c,rfl⟩
  by_cases e:u.1=t.1
  ·left
   have:=yg hn u hu t ht e;subst this;simp only[EV,jP,decide_true,↓reduceIte];rfl
  ·right
   refine⟨λz=>e (by rw[z]),[some (.sh,.tup [.tup [.int p,.int q],.rl (ts.map bM)]),some (.sh,.int t.1),some (.sh,.int u.1),some (.sh,.int u.2.1),some (.sh,.int u.2.2)],?_,_,_,_,rfl⟩;simp only[EV,jP];simp[e]
def others(ts:List T3)(t:T3):List T3:=ts.filter λu=>!decide (u.1=t.1)
def vq(e:Int×Int)(a b:Int):Prop:=e=(a,b)\/e=(b,a)
theorem vq.way{a b:Int}(s:vq e a b)(h:e∈es):Way es a b:=by
 rcases s with rfl|rfl
 ·exact .fwd (.refl _) h
 ·exact .bwd (.refl _) h
theorem vq.ne{a b:Int}(s:vq e a b):e.1=e.2↔a=b:=by
 rcases s with rfl|rfl
 ·exact Iff.rfl
 ·exact eq_comm
theorem vq.map{a b:Int}(s:vq e a b)(g:Int->Int):vq (g e.1,g e.2) (g a) (g b):=by
 rcases s with rfl|rfl
 ·exact .inl rfl
 ·exact .inr rfl
theorem vq.trans{a b c d:Int}(s:vq e a b)(k:vq (a,b) c d):vq e c d:=by
 rcases k with k|k<;>(injection k with k1 k2;subst k1;subst k2)
 ·exact s
 ·exact s.symm
def gz(D:List (Int×Int))(f:Int->Int):Prop:=∀x y,f x=f y↔Way D x y
theorem vm(g:gz D f)(h1:∀e∈es,∃e'∈es',vq e' (f e.1) (f e.2))(h2:∀e'∈es',∃e∈es,vq e' (f e.1) (f e.2))(x y:Int):Way es' (f x) (f y)↔Way (es++D) x y:=by
 have up:∀{x y},f x=f y->Way (es++D) x y:=λe=>((g _ _).mp e).mono λe he=>WU _ he;constructor
 ·have aux:∀u v,Way es' u v->∀x,u=f x->∃y,v=f y/\Way (es++D) x y:=by
   intro u v w
   induction w with
   |refl=>exact λx e=>⟨x,e,.refl _⟩
   |fwd _ m ih=>
    intro x e;obtain⟨y,e1,w1⟩:=ih x e;obtain⟨⟨a,b⟩,he,s⟩:=h2 _ m;have m':(a,b)∈es++D:=W0 _ he
    rcases s with s|s<;>(injection s with s1 s2;dsimp only at s1 s2)
    ·exact⟨b,s2,(w1.trans (up (e1.symm.trans s1))).fwd m'⟩
    ·exact⟨a,s2,(w1.trans (up (e1.symm.trans s1))).bwd m'⟩
   |bwd _ m ih=>
    intro x e;obtain⟨y,e1,w1⟩:=ih x e;obtain⟨⟨a,b⟩,he,s⟩:=h2 _ m;have m':(a,b)∈es++D:=W0 _ he
    rcases s with s|s<;>(injection s with s1 s2;dsimp only at s1 s2)
    ·exact⟨a,s1,(w1.trans (up (e1.symm.trans s2))).bwd m'⟩
    ·exact⟨b,s1,(w1.trans (up (e1.symm.trans s2))).fwd m'⟩
  intro w;obtain⟨z,e,w⟩:=aux _ _ w x rfl;exact w.trans (up e.symm)
 ·intro w
  have st:∀a b,(a,b)∈es++D->Way es' (f a) (f b):=λa b m=>by
   rcases W3.mp m with m|m
   ·obtain⟨e',he',s⟩:=h1 _ m;exact s.way he'
   ·rw[(g a b).mpr (.fwd (.refl _) m)];exact .refl _
  induction w with
  |refl=>exact .refl _
  |fwd _ m ih=>exact ih.trans (st _ _ m)
  |bwd _ m ih=>exact ih.trans (st _ _ m).symm
theorem gz.nil:gz [] id:=λx y=>⟨λe=>by cases e;exact .refl _,λw=>w.const id λe he=>by simp at he⟩
def lN(a b x:Int):Int:=if x=b then a else x
theorem gz.one(a b:Int):gz [(a,b)] (lN a b):=λx y=>by
 have ab:Way [(a,b)] a b:=.fwd (.refl _) (by simp);constructor
 ·unfold lN
  intro e;split at e<;>split at e
  ·rename_i h1 h2;rw[h1,h2];exact .refl _
  ·rename_i h1 h2;rw[h1,<-e];exact ab.symm
  ·rename_i h1 h2;rw[h2,e];exact ab
  ·rw[e];exact .refl _
 ·exact λw=>w.const (lN a b) λe he=>by
   rw[WD]at he;subst he;unfold lN;simp
theorem gz.comp{a b c d:Int}(g:gz D f)(s:vq (c,d) (f a) (f b)):gz ((a,b)::D) λx=>lN c d (f x):=λx y=>by
 rw[gz.one c d (f x) (f y),vm (es:=[(a,b)]) (es':=[(c,d)]) g (λe he=>⟨_,WD.mpr rfl,by rw[WD]at he;subst he;exact s⟩) (λe he=>⟨_,WD.mpr rfl,by rw[WD]at he;subst he;exact s⟩)];exact Iff.rfl
theorem qV(h:(ts.map (·.1)).Nodup)(t:T3):((others ts t).map (·.1)).Nodup:=h.sublist (List.filter_sublist.map _)
theorem xh{n:Nat}(h:ts.length<=n):(others ts t).length<=n:=WZ (List.length_filter_le ..) h
theorem sN(t:T3):vq (aM (turnT t)) t.2.1 t.2.2:=by
 unfold vq aM turnT;dsimp only;rw[Yg,Yg]
 split<;>split<;>omega
def jF(g:Int->Int)(t:T3):T3:=(t.1,g t.2.1,g t.2.2)
theorem Ll:j5 (bM t)=true:=rfl
theorem pJ{p q:Int}(h:ts.length<=14)(hn:(ts.map (·.1)).Nodup)(ht:t∈ts):fZ [aI p q ts,.int t.1]=.ok (true,.rl ((others ts t).map bM)):=by
 have e1:=yI (p:=p) (q:=q) hn ht;unfold fZ gp;have hc:ts.length<=100000:=by omega
 unfold aI at *;simp only[EV,kJ,e1,cS nE,fL,iW,length_map,hc];rw[o8 bM bM (λu=>!decide (u.1=t.1)) ts (λu hu=>by
  have i0:jf [] (bM u) (.int 0)=some (.int u.1):=rfl;simp only[EV,b7,i0,Ll]
  by_cases c:u.1=t.1<;>simp[c])]
 rfl
theorem C5{p q:Int}(h:ts.length<=14)(hn:(ts.map (·.1)).Nodup)(ht:t∈ts):fD [aI p q ts,.int t.1]=.ok (true,aI (if q<p then q else p) (if q>p then q else p) (eB ((others ts t).map turnT))):=by
 have e1:=pJ (p:=p) (q:=q) h hn ht;have e2:=order_eq (p:=p) (q:=q) (us:=others ts t) (WZ (xh h) (by decide));unfold fD dS;unfold aI at e1 |-;simp only[EV,jD,gy,e1,cS pZ,e2];rfl
theorem Pa{a b x:Int}:zx [] (.dc [Sum.inl b] [.int a]) (.inl x)=some (if x=b then some (.int a) else none):=by
 show some (bP [((Sum.inl b:Key),Val.int a)] (.inl x))=_;unfold bP
 by_cases c:x=b
 ·subst c;simp
 ·have c':¬ b=x:=λz=>c z.symm;simp[c,c']
theorem GW{a b x:Int}:(if x=b then some (Val.int a) else none).getD (.int x)=.int (lN a b x):=by
 unfold lN;split<;>rfl
theorem GX:rY [] (.dc ks vs)=some ():=rfl
theorem Lm:jf [] (ah e) (.int 0)=some (.int e.1):=rfl
theorem Lo:jf [] (ah e) (.int 1)=some (.int e.2):=rfl
theorem C6{p q:Int}(h:ts.length<=14)(hn:(ts.map (·.1)).Nodup)(ht:t∈ts):lM [aI p q ts,.int t.1]=.ok (true,aI (turnT (0,lN t.2.1 t.2.2 p,lN t.2.1 t.2.2 q)).2.1 (turnT (0,lN t.2.1 t.2.2 p,lN t.2.1 t.2.2 q)).2.2 (eB (((others ts t).map (jF (lN t.2.1 t.2.2))).map turnT))):=by
 have e1:=pJ (p:=p) (q:=q) h hn ht;have e0:=yI (p:=p) (q:=q) hn ht;have e2:=order_eq (p:=lN t.2.1 t.2.2 p) (q:=lN t.2.1 t.2.2 q) (us:=(others ts t).map (jF (lN t.2.1 t.2.2))) (by rw[Wr];exact WZ (xh h) (by decide));have z2:2<=sizeLine:=by decide
 have z3:3<=sizeLine:=by decide
 have z0:0<=sizeLine:=by decide
 unfold lM jv;unfold aI at e1 e0 |-;have ee:∀t:T3,(aM t).1=t.2.1/\(aM t).2=t.2.2:=λ_=>⟨rfl,rfl⟩;simp only[EV,mC,mD,e0,e1,Lm,Lo,ee,cS pZ,cS nE,uL,GX,Pa,GW,fL,z0,z2]
 repeat rw[mT]
 refine cO bM (λr:Pr FV=>r=.ok (true,.tup [.tup [.int (turnT (0,lN t.2.1 t.2.2 p,lN t.2.1 t.2.2 q)).2.1,.int (turnT (0,lN t.2.1 t.2.2 p,lN t.2.1 t.2.2 q)).2.2],.rl ((eB (((others ts t).map (jF (lN t.2.1 t.2.2))).map turnT)).map bM)]))
  (λdone env=>∃m1 m2 a b c,env=[some (.sh,.tup [.tup [.int p,.int q],.rl (ts.map bM)]),some (.sh,.int t.1),some (m1,ah (aM t)),some (.nw,.dc [Sum.inl t.2.2] [.int t.2.1]),some (m2,.tup [.int (lN t.2.1 t.2.2 p),.int (lN t.2.1 t.2.2 q)]),some (.ow,.rl ((done.map (jF (lN t.2.1 t.2.2))).map bM)),a,b,c])
  ⟨_,_,none,none,none,rfl⟩ ?_ ?_
 ·rintro pre u post env hx ⟨m1,m2,a,b,c,rfl⟩
  have hpl:pre.length<14:=by have:=Xf length hx;rw[WN,W7]at this;have:=xh (t:=t) h;omega
  have z:((pre.map (jF (lN t.2.1 t.2.2))).map bM).length<sizeLine:=by rw[Wr,Wr];unfold sizeLine;omega
  have ea:((pre++[u]).map (jF (lN t.2.1 t.2.2))).map bM=(pre.map (jF (lN t.2.1 t.2.2))).map bM++[bM (jF (lN t.2.1 t.2.2) u)]:=by simp
  refine⟨_,?_,m1,m2,some (.sh,.int u.1),some (.sh,.int u.2.1),some (.sh,.int u.2.2),rfl⟩;simp only[EV,jP,uL,GX,Pa,GW,z3,z,ea];rfl
 ·rintro env ⟨m1,m2,a,b,c,rfl⟩;simp only[EV,jc,e2];rfl
theorem qW(g:Int->Int)(x y:Int):turnT (0,g (turnT (0,x,y)).2.1,g (turnT (0,x,y)).2.2)=turnT (0,g x,g y):=by
 by_cases c:y<x
 ·have e1:(turnT (0,x,y)).2.1=y:=Wu c;have e2:(turnT (0,x,y)).2.2=x:=Wt (by dsimp only;omega);rw[e1,e2];unfold turnT;dsimp only;rw[Yg,Yg];refine⟨rfl,?_,?_⟩<;>split<;>split<;>omega
 ·have e1:(turnT (0,x,y)).2.1=x:=Wt c
  have e2:(turnT (0,x,y)).2.2=y:=by
   show (if y>x then y else x)=y
   split<;>omega
  rw[e1,e2]
theorem sO:∀{l l':List T3},zT l->zT l'->l.Perm l'->l=l'
 |[],_,_,_,h=>(List.nil_perm.mp h).symm
 |x::r,[],_,_,h=>absurd h.length_eq (by simp)
 | x::r,y::r',u,u',h=>by
  unfold zT at u u';rw[Xh]at u u';have e:x=y:=by
   rcases WH.mp (h.mem_iff.mp Wx) with e|m
   ·exact e
   ·rcases WH.mp (h.mem_iff.mpr Wx) with e|m'
    ·exact e.symm
    ·have:=u.1 y m';have:=u'.1 x m;omega
  subst e;rw[sO u.2 u'.2 h.cons_inv]
theorem Ab(h:l.Perm l')(hn:(l.map (·.1)).Nodup):eB l=eB l':=sO (jq l hn) (jq l' ((h.map _).nodup_iff.mp hn)) ((bA l).trans (h.trans (bA l').symm))
theorem GY(h:zT l):(l.map (·.1)).Nodup:=by
 unfold zT at h;rw[List.Nodup,X5];exact h.imp λh=>by omega
theorem xj(h:zT l):eB l=l:=sO (jq l (GY h)) h (bA l)
theorem Ac(h:t.2.1<=t.2.2):turnT t=t:=by
 obtain⟨a,b,c⟩:=t;unfold turnT;dsimp only at *
 congr 2<;>split<;>omega
theorem FT(g:Int->Int)(t:T3):turnT (jF g (turnT t))=turnT (jF g t):=by
 have:=qW g t.2.1 t.2.2;unfold turnT jF at *;dsimp only at *;rw[Yg]at this;rw[Yg];exact⟨rfl,this.2⟩
def fV(f:Int->Int)(Z:List T3):List T3:=eB ((Z.map (jF f)).map turnT)
theorem yJ(f:Int->Int)(Z:List T3):((Z.map (jF f)).map turnT).map (·.1)=Z.map (·.1):=by rw[W4,W4];rfl
theorem FU(h:(Z.map (·.1)).Nodup):((fV f Z).map (·.1)).Nodup:=by
 unfold fV;rw[((bA _).map _).nodup_iff,yJ];exact h
theorem lO:(fV f Z).length=Z.length:=by
 unfold fV;rw[(bA _).length_eq,Wr,Wr]
theorem pK(h:u∈Z):turnT (jF f u)∈fV f Z:=(bA _).mem_iff.mpr (Xd (Xd h))
theorem qX(hn:(Z.map (·.1)).Nodup)(e:w.1=u.1):eB (((others (fV f Z) w).map (jF g)).map turnT)=fV (λx=>g (f x)) (others Z u):=by
 have p1:(others (fV f Z) w).Perm (others ((Z.map (jF f)).map turnT) w):=(bA _).filter _;have e1:others ((Z.map (jF f)).map turnT) w=((others Z u).map (jF f)).map turnT:=by
  unfold others;rw[List.filter_map,List.filter_map]
  congr 2
  refine List.filter_congr λt _=>?_;show (!decide (t.1=w.1)) = !decide (t.1=u.1);rw[e]
 have e2:((((others Z u).map (jF f)).map turnT).map (jF g)).map turnT=((others Z u).map (jF λx=>g (f x))).map turnT:=by rw[W4,W4,W4,W4];refine Xc λt _=>?_;exact FT g (jF f t)
 have p2:(((others (fV f Z) w).map (jF g)).map turnT).Perm (((others Z u).map (jF λx=>g (f x))).map turnT):=by rw[<-e2,<-e1];exact(p1.map _).map _
 refine Ab p2 ((p2.map _).nodup_iff.mpr ?_);rw[yJ];exact qV hn u
theorem GZ(Z:List T3):Z.map (jF id)=Z:=(Xc λt _=>rfl).trans (YQ _)
end K71
end
section
open PySem L2 Hv
namespace K71
def cellAt(ns:List Int)(k:Nat):Int:=ns.getD k 0
theorem lP(ns:List Int)(k:Nat):dg [.rl (ns.map .int),.int k]=.ok (true,.int (cellAt ns k)):=by
 unfold dg iF
 by_cases h:k<ns.length
 ·have e:gA (List.map Val.int ns) (k:Int)=some (.int (ns[k])):=kT (by simp[h])
  have h':(k:Int)<ns.length:=by omega
  simp only[EV,iB e,length_map,h',cellAt,List.getD,List.getElem?_eq_getElem h,Option.getD_some]
 ·have h':¬ (k:Int)<ns.length:=by omega
  have e:ns[k]?=none:=by simp;omega
  simp only[EV,length_map,h',cellAt,List.getD,e,getD_none]
theorem Ad(a b:Int)(h:0<=b/\b<67):j3 a b=true:=by
 unfold j3;simp only[or_eq_true,and_eq_true,decide_eq_true_eq];right;omega
theorem xm(a b:Int)(h:0<=a/\a<67):j3 a b=true:=by
 unfold j3;simp only[or_eq_true,and_eq_true,decide_eq_true_eq];left;omega
theorem C7{n:Int}(h:inR n=true):gx .range [.int n]=some ((List.range n.toNat).map λ(i:Nat)=>Val.int (0+(i:Int))):=by
 show (if inR n=true then some (bZ 0 n.toNat) else none)=_;rw[Wu h];rfl
theorem pL:∀(i:Nat) (ms:List Int) (pre post:List Val) (x:Val),cD i (ms.map .int)=pre++x::post->∃c:Int,x=.tup [.int ((i+pre.length:Nat):Int),.int c]
 |_,[],pre,post,x,h=>by simp[cD]at h
 | i,d::r,[],post,x,h=>by
  rw[WI,cD,YG]at h;injection h with h _
  exact⟨d,by rw[<-h];rfl⟩
 | i,d::r,y::pre,post,x,h=>by
  rw[WI,cD,cons_append]at h;injection h with _ h
  obtain⟨c,e⟩:=pL (i+1) r pre post x h;exact⟨c,by rw[e,W7];congr 4;omega⟩
def sP(a b c k:Int):Int:=(if 0<a%3 then 1+b%10 ^ 57 else 1)*(((1+a/3%66)*k+a/198%67)%67)+(if 0<a%3 then c%10 ^ 57 else 0)
theorem C8(a b c i j:Int)(hi:0<=i/\i<67)(hj:0<=j/\j<67)(e:sP a b c i=sP a b c j):i=j:=by
 unfold sP at e;have hs:∃st:Int,(if 0<a%3 then 1+b%10 ^ 57 else 1)=st/\1<=st:=by refine⟨_,rfl,?_⟩;split<;>omega
 obtain⟨st,e1,a1⟩:=hs;rw[e1]at e;have e2:st*(((1+a/3%66)*i+a/198%67)%67)=st*(((1+a/3%66)*j+a/198%67)%67):=by omega
 have e3:=Int.eq_of_mul_eq_mul_left (by omega:st≠0) e2;exact Fq (by omega) hi hj e3
def sQ(a b c:Int):List Val:=(List.range 20).map λi:Nat=>.int (sP a b c (0+(i:Int)))
theorem yK(a b c:Int)(i:Int)(h0:0<=i)(h1:i<20):gA (sQ a b c) i=some (.int (sP a b c i)):=by
 obtain⟨k,rfl⟩:=Yn h0;refine kT ?_;unfold sQ;rw[WO,List.getElem?_range (by omega)];simp
theorem pM(a b c:Int):∃f,fm [.int a,.int b,.int c]=.ok (f,.rl (sQ a b c)):=by
 unfold fm dM;have m1:∀k:Int,j3 (1+a/3%66) k=true:=λk=>xm _ _ (by omega);have m2:∀x k:Int,j3 x (((1+a/3%66)*k+a/198%67)%67)=true:=λx k=>Ad _ _ (by omega);have hR:inR 20=true:=by decide
 have hc:(20:Int).toNat<=100000:=by decide
 have Wi:(20:Int).toNat=20:=rfl
 by_cases h:0<a%3
 ·have en:sQ a b c=(List.range 20).map λi:Nat=>.int ((1+b%10 ^ 57)*(((1+a/3%66)*(0+(i:Int))+a/198%67)%67)+c%10 ^ 57):=by unfold sQ sP;simp only[if_pos h]
  rw[en];simp only[EV,gF (show decide ((0:Int)<3)=true by decide),h,gF (show decide ((0:Int)<66)=true by decide),gF (show decide ((0:Int)<67)=true by decide),kr (show ki 3=true by decide),kr (show ki 198=true by decide),Oo (show decide ((0:Int)<=57/\(57:Int)<=1000000/\(10:Int).natAbs<2 ^ 64)=true by decide),gF (show decide ((0:Int)<10 ^ (57:Int).toNat)=true by decide),C7 hR,iW,length_map,List.length_range,hc];rw[eT (λi:Nat=>Val.int (0+(i:Int))) (λi:Nat=>.int ((1+b%10 ^ 57)*(((1+a/3%66)*(0+(i:Int))+a/198%67)%67)+c%10 ^ 57)) (List.range (20:Int).toNat) (λi hi=>by
   simp only[EV,b7,yu (m1 _),yu (m2 _ _),gF (show decide ((0:Int)<67)=true by decide)];rfl)]
  exact⟨_,rfl⟩
 ·have en:sQ a b c=(List.range 20).map λi:Nat=>.int (1*(((1+a/3%66)*(0+(i:Int))+a/198%67)%67)+0):=by unfold sQ sP;simp only[if_neg h]
  rw[en];simp only[EV,gF (show decide ((0:Int)<3)=true by decide),h,gF (show decide ((0:Int)<66)=true by decide),gF (show decide ((0:Int)<67)=true by decide),kr (show ki 3=true by decide),kr (show ki 198=true by decide),C7 hR,iW,length_map,List.length_range,hc];rw[eT (λi:Nat=>Val.int (0+(i:Int))) (λi:Nat=>.int (1*(((1+a/3%66)*(0+(i:Int))+a/198%67)%67)+0)) (List.range (20:Int).toNat) (λi hi=>by
   simp only[EV,b7,yu (m1 _),yu (m2 _ _),gF (show decide ((0:Int)<67)=true by decide)])]
  exact⟨_,rfl⟩
theorem Lp{a b:Int}:jk .min [.rl [.int a,.int b]]=.ok (true,.int (min a b)):=rfl
theorem Lq{a b:Int}:jk .max [.rl [.int a,.int b]]=.ok (true,.int (max a b)):=rfl
theorem Lr{p q:Int}{ts:List T3}(hl:ts.length<=63):lK [.rl [.int p,.int q],.rl (ts.map bM)]=.ok (true,aI (min p q) (max p q) (eB (ts.map turnT))):=by
 unfold lK ju;have z:2<=sizeLine:=by decide
 have z3:3<=sizeLine:=by decide
 have hc:ts.length<=100000:=by omega
 simp only[EV,fL,length_map,hc,iW];rw[eT bM (λt=>bM (turnT t)) ts (λt ht=>by
  simp only[EV,jP,z3];rfl)]
 have em:ts.map (λt=>bM (turnT t))=(ts.map turnT).map bM:=by rw[W4];rfl
 rw[em];simp only[EV,z,Lp,Lq,uO (show (ts.map turnT).length<64 by rw[length_map];omega)];rfl
structure vn (p q:Int) (ts:List T3):Prop where
 ord:p<=q
 len:ts.length<=4
 up:zT ts
 ends:∀t∈ts,t.2.1<=t.2.2
def FW:cE:=#[.for (.tup [7,8]) .enum #[!1] #[.expr (.met .append (!6) #[.tup #[.idx (!2) (!7),.idx (!3) (.bin .mod (!8) (!4)),.idx (!3) (.bin .mod (.bin .fdiv (!8) (!4)) (!4))]])],.ret (.call 1 #[!5,!6])]
def Pb(T:cE):cE:=(.cons (.asg (.one 2) (.call 0 #[.call 2 #[!0,¬0],.call 2 #[!0,¬1],.call 2 #[!0,¬2]])) (.cons (.asg (.one 3) (.call 0 #[.call 2 #[!0,¬3],.call 2 #[!0,¬2],.call 2 #[!0,¬1]])) (.cons (.asg (.one 4) (.bin .add (¬2) (.bin .mod (.call 2 #[!0,¬4]) (¬4)))) (.cons (.asg (.one 5) (.lst #[.idx (!3) (¬0),.idx (!3) (¬1)])) (.cons (.iff (.cmp .eq (.bin .mod (.bin .fdiv (.call 2 #[!0,¬4]) (¬4)) (¬12)) (¬1)) #[.asg (.one 5) (.lst #[.idx (!3) (¬0),.idx (!3) (¬0)])] .nil) (.cons (.asg (.one 6) (.lst .nil)) T))))))
theorem Ls:iG=Pb FW:=rfl
theorem any_eq(ns ms:List Int)(hm:ms.length<=4):∃p q ts,nP [.rl (ns.map .int),.rl (ms.map .int)]=.ok (true,aI p q ts)/\vn p q ts:=by
 have c0:dg [.rl (ns.map .int),.int 0]=.ok (true,.int (cellAt ns 0)):=lP ns 0;have c1:dg [.rl (ns.map .int),.int 1]=.ok (true,.int (cellAt ns 1)):=lP ns 1;have c2:dg [.rl (ns.map .int),.int 2]=.ok (true,.int (cellAt ns 2)):=lP ns 2;have c3:dg [.rl (ns.map .int),.int 3]=.ok (true,.int (cellAt ns 3)):=lP ns 3;have c4:dg [.rl (ns.map .int),.int 4]=.ok (true,.int (cellAt ns 4)):=lP ns 4;obtain⟨f1,n1⟩:=pM (cellAt ns 0) (cellAt ns 1) (cellAt ns 2);obtain⟨f2,n2⟩:=pM (cellAt ns 3) (cellAt ns 2) (cellAt ns 1);have a1:=yK (cellAt ns 0) (cellAt ns 1) (cellAt ns 2);have a2:=yK (cellAt ns 3) (cellAt ns 2) (cellAt ns 1);have inj:=C8 (cellAt ns 0) (cellAt ns 1) (cellAt ns 2);generalize sQ (cellAt ns 0) (cellAt ns 1) (cellAt ns 2)=Nm at *;generalize sQ (cellAt ns 3) (cellAt ns 2) (cellAt ns 1)=Pl at *;generalize sP (cellAt ns 0) (cellAt ns 1) (cellAt ns 2)=nf at *;generalize sP (cellAt ns 3) (cellAt ns 2) (cellAt ns 1)=pf at *;generalize cellAt ns 0=x0 at *;generalize cellAt ns 1=x1 at *;generalize cellAt ns 2=x2 at *;generalize cellAt ns 3=x3 at *;generalize cellAt ns 4=x4 at *;have Tu:2<=2+x4%4/\2+x4%4<=5:=by omega
 have j0:=a2 0 (by omega) (by omega);have j1:=a2 1 (by omega) (by omega);have z2:2<=sizeLine:=by decide
 have z3:3<=sizeLine:=by decide
 have z0:0<=sizeLine:=by decide
 have fin:∀(many p q:Int) (m2 m3 m5:Mk),2<=many->many<=5->pX m2=true->pX m3=true->pX m5=true->∃p' q' ts,pb (aU (aq GU) [6] FW [some (.sh,.rl (ns.map .int)),some (.sh,.rl (ms.map .int)),some (m2,.rl Nm),some (m3,.rl Pl),some (.sh,.int many),some (m5,.rl [.int p,.int q]),some (.ow,.rl []),none,none]) (λf=>match f with|.nx _=>.ok (true,.non)|.rt p=>.ok p|_=>.no)=.ok (true,aI p' q' ts)/\vn p' q' ts:=by
  intro many p q m2 m3 m5 hm2 Wj r2 r3 r5;unfold FW;simp only[EV,OE]
  repeat rw[mT]
  have hx:cD 0 (ms.map Val.int)=(cD 0 (ms.map Val.int)).map id:=(YQ _).symm;rw[hx];have hmp:decide (0<many)=true:=by rw[Yt];omega
  have VZ:ki many=true:=by unfold ki;rw[Yt];omega
  refine cO id (λr:Pr FV=>∃p q ts,r=.ok (true,aI p q ts)/\vn p q ts)
   (λdone env=>∃(ts:List T3) (a b:Option (Mk×Val)),env=[some (.sh,.rl (ns.map .int)),some (.sh,.rl (ms.map .int)),some (m2,.rl Nm),some (m3,.rl Pl),some (.sh,.int many),some (m5,.rl [.int p,.int q]),some (.ow,.rl (ts.map bM)),a,b]/\ts.length=done.length/\∀i (h:i<ts.length),(ts[i]).1=nf i)
   ⟨[],none,none,rfl,rfl,λi h=>by simp at h⟩ ?_ ?_
  ·rintro pre x post env hx ⟨ts,a,b,rfl,hl,ok⟩
   have V1:pre.length<4:=by have:=Xf length hx;rw[mw,Wr,WN,W7]at this;omega
   obtain⟨cell,rfl⟩:=pL _ _ _ _ _ hx;rw[Nat.zero_add];have b1:=Int.emod_nonneg cell (show many≠0 by omega);have b2:=Int.emod_lt_of_pos cell (show 0<many by omega);have b3:=Int.emod_nonneg (cell/many) (show many≠0 by omega);have b4:=Int.emod_lt_of_pos (cell/many) (show 0<many by omega);have i1:=a2 (cell%many) b1 (by omega);have i2:=a2 (cell/many%many) b3 (by omega);have i3:=a1 (pre.length:Int) (by omega) (by omega);generalize pf (cell%many)=e1 at *;generalize pf (cell/many%many)=e2 at *;have z:ts.length<sizeLine:=by rw[hl];unfold sizeLine;omega
   refine⟨_,?_,ts++[(nf (pre.length:Int),e1,e2)],some (.sh,.int pre.length),some (.sh,.int cell),rfl,by simp[hl],λi hi=>?_⟩
   ·simp only[EV,id,K0,r2,r3,gF hmp,kr VZ,iB i1,iB i2,iB i3,z3,length_map,z,map_append,bM]
   ·rw[List.getElem_append]
    split
    ·exact ok i (by assumption)
    ·simp only[length_append,length_cons,length_nil]at hi
     have:i=pre.length:=by omega
     subst this;simp[hl]
  ·rintro env ⟨ts,a,b,rfl,hl,ok⟩
   have Hf:ts.length<=4:=by rw[hl,mw,Wr];exact hm
   have en:=Lr (p:=p) (q:=q) (ts:=ts) (by omega);have nd:((ts.map turnT).map (·.1)).Nodup:=by rw[W4];unfold List.Nodup;rw[Xs];intro i j hi hj hij;rw[Wr]at hi hj;rw[Xb,Xb];show (ts[i]).1≠(ts[j]).1;rw[ok i hi,ok j hj];intro e;have:=inj i j (by omega) (by omega) e;omega
   refine⟨min p q,max p q,eB (ts.map turnT),?_,⟨by omega,?_,jq _ nd,λt ht=>?_⟩⟩
   ·simp only[EV,r5,pH,en]
   ·rw[(bA _).length_eq,Wr];exact Hf
   ·obtain⟨u,_,rfl⟩:=Xm.mp ((bA _).mem_iff.mp ht);unfold turnT;dsimp only;split<;>split<;>omega
 show ∃p q ts,pb (aU (aq GU) [6] iG [some (.sh,.rl (ns.map .int)),some (.sh,.rl (ms.map .int)),none,none,none,none,none,none,none]) _=_/\_;rw[Ls];generalize FW=T at *;unfold Pb
 by_cases c:x4/4%12=1
 ·have:=fin (2+x4%4) (pf 0) (pf 0) (fc f1 (.rl Nm)) (fc f2 (.rl Pl)) .nw (by omega) (by omega) uK uK rfl;simp only[EV,iY,gq,c0,c1,c2,c3,c4,n1,n2,gF (show decide ((0:Int)<4)=true by decide),gF (show decide ((0:Int)<12)=true by decide),kr (show ki 4=true by decide),iB j0,iB j1,z2,z0,c];exact this
 ·have:=fin (2+x4%4) (pf 0) (pf 1) (fc f1 (.rl Nm)) (fc f2 (.rl Pl)) .nw (by omega) (by omega) uK uK rfl;simp only[EV,iY,gq,c0,c1,c2,c3,c4,n1,n2,gF (show decide ((0:Int)<4)=true by decide),gF (show decide ((0:Int)<12)=true by decide),kr (show ki 4=true by decide),iB j0,iB j1,z2,z0,c];exact this
end K71
end
section
open PySem L2 Hv
namespace K71
theorem Lu{xs:List Int}{x:Int}:bP ((xs.map (Sum.inl:Int->Key)).zip (xs.map g)) (.inl x)=if x∈xs then some (g x) else none:=by
 by_cases h:x∈xs
 ·rw[Wu h];exact kB h
 ·rw[Wt h,sy]
  unfold bP;rw[List.find?_eq_none.mpr]
  ·rfl
  ·intro kv hk;obtain⟨y,hy,rfl⟩:=Xm.mp hk;have:¬ y=x:=λe=>h (e▸hy);simp[this]
theorem p8{ks:List Int}{a x:Int}:x∈bS ks a↔x∈ks\/x=a:=by
 unfold bS
 split
 ·rename_i h;exact⟨.inl,λk=>k.elim id λe=>e▸h⟩
 ·rw[W3,WD]
theorem P5{ks:List Int}(h:ks.Nodup)(a:Int):(bS ks a).Nodup:=by
 unfold bS
 split
 ·exact h
 ·rename_i hn;rw[Xq];exact⟨h,by simp,λx hx y hy e=>hn (by rw[WD.mp hy]at e;exact e▸hx)⟩
theorem FY(ks:List Int)(a:Int):(bS ks a).length<=ks.length+1:=by
 unfold bS;split<;>simp
theorem Hg{Ψ:Nat->List Val->Pr FV}{i j x:Nat}{ks:List Int}{ψ:Int->Int}{a:Int}{env:aP}{f:Bool}(hj:env[j]?=some (some (.ow,lU ks λx=>.int (ψ x))))(hx:aX Ψ (.var x) env=.ok (f,.int a))(ho:a∉ks -> ψ a=a)(hl:ks.length<=100) :
  PV Ψ i j (.var x) (.var x) env=.ok (.nx ((env.set j (some (.ow,lU (bS ks a) λx=>.int (ψ x)))).set i (some (.sh,.int (ψ a))))):=by
 unfold PV;rw[hj];dsimp only;have zz:decide ((ks.map (Sum.inl:Int->Key)).length<sizeLine)=true:=by rw[Wr,Yt];unfold sizeLine;omega
 rw[hx,aK];show pb (pl (some (Sum.inl a:Key))) _=_;rw[ck,aK,aK];dsimp only;rw[zz,Lu];show pg true _=_;unfold pg;rw[Wu rfl]
 by_cases h:a∈ks
 ·rw[Wu h]
  dsimp only;have e2:env.set j (some (.ow,lU (bS ks a) λx=>.int (ψ x)))=env:=by unfold bS;rw[Wu h];have hlt:=(Wo.mp hj).1;have he:=(Wo.mp hj).2;rw[<-he];exact List.set_getElem_self hlt
  rw[e2];rfl
 ·rw[Wt h]
  dsimp only;rw[yx h,ho h];unfold bS;rw[Wt h];rw[show lU (ks++[a]) (o5 (λx=>.int (ψ x)) a (.int a))=lU (ks++[a]) λx=>.int (ψ x) from dz λy _=>by
   unfold o5
   split
   ·rename_i e;rw[e,ho h]
   ·rfl]
def nG(d:List (Int×Int)):List (Int×Int)->Nat
 |[]=>0
 |e::r=>(open Classical in if Way d e.1 e.2 then 0 else 1)+nG (d++[e]) r
theorem sS:∀(a d b:List (Int×Int)),nG d (a++b)=nG d a+nG (d++a) b
 |[],d,b=>by rw[YG,nG,XE,Nat.zero_add]
 | e::a,d,b=>by
  rw[cons_append,nG,nG,sS a (d++[e]) b,List.append_assoc,List.singleton_append,Nat.add_assoc]
structure Lb (ks:List Int) (es:List (Int×Int)) (ψ:Int->Int):Prop where
 nd:ks.Nodup
 len:ks.length<=2*es.length
 Lk:∀x∈ks,ψ x∈ks
 off:∀x,x∉ks -> ψ x=x
 glue:gz es ψ
theorem gz.of(g:gz D f)(h1:∀e∈D,e∈D')(h2:∀e∈D',e∈D):gz D' f:=λx y=>(g x y).trans ⟨Way.mono h1,Way.mono h2⟩
theorem FZ{ks:List Int}(m:Lb ks es ψ)(a b x:Int)(hx:x∈bS (bS ks a) b):ψ x∈bS (bS ks a) b:=by
 by_cases h:x∈ks
 ·exact p8.mpr (.inl (p8.mpr (.inl (m.Lk x h))))
 ·rw[m.off x h];exact hx
theorem Pc{ks:List Int}(m:Lb ks es ψ)(a b:Int):(bS (bS ks a) b).length<=2*(es++[(a,b)]).length:=by
 have:=m.len;have:=FY ks a;have:=FY (bS ks a) b;rw[WN,X0];omega
theorem Lb.stay{ks:List Int}{a b:Int}(m:Lb ks es ψ)(h:ψ a = ψ b):Lb (bS (bS ks a) b) (es++[(a,b)]) ψ:=by
 refine⟨P5 (P5 m.nd _) _,Pc m a b,FZ m a b,λx hx=>m.off x λz=>hx (p8.mpr (.inl (p8.mpr (.inl z)))),λx y=>(m.glue x y).trans ⟨Way.mono λe he=>W0 _ he,λw=>(m.glue x y).mp (w.const ψ λe he=>?_)⟩⟩
 rcases W3.mp he with he|he
 ·exact(m.glue _ _).mpr (.fwd (.refl _) he)
 ·rw[WD]at he;subst he;exact h
theorem Lb.join{ks:List Int}{a b:Int}(m:Lb ks es ψ):Lb (bS (bS ks a) b) (es++[(a,b)]) λy=>if ψ y = ψ a then ψ b else ψ y:=by
 have ha:a∈bS (bS ks a) b:=p8.mpr (.inl (p8.mpr (.inr rfl)));have hb:b∈bS (bS ks a) b:=p8.mpr (.inr rfl);refine⟨P5 (P5 m.nd _) _,Pc m a b,λx hx=>?_,λx hx=>?_,?_⟩
 ·split
  ·exact FZ m a b b hb
  ·exact FZ m a b x hx
 ·have e:ψ x=x:=m.off x λz=>hx (p8.mpr (.inl (p8.mpr (.inl z))));rw[Wt,e];rw[e];intro z;exact hx (z▸FZ m a b a ha)
 ·have:=m.glue.comp (a:=a) (b:=b) (c:=ψ b) (d:=ψ a) (.inr rfl)
  refine gz.of this (λe he=>?_) λe he=>?_
  ·rcases WH.mp he with he|he
   ·exact WU _ (WD.mpr he)
   ·exact W0 _ he
  ·rcases W3.mp he with he|he
   ·exact Ww _ he
   ·rw[WD.mp he];exact Wx
theorem yL(es:List (Int×Int))(hl:es.length<=8):jy [.rl (es.map ah)]=.ok (true,.int (nG [] es)):=by
 unfold jy iH;simp only[EV,fL]
 repeat rw[mT]
 refine cO ah (λr:Pr FV=>r=.ok (true,.int (nG [] es)))
  (λdone env=>∃(ψ:Int->Int) (ks:List Int) (a b c d e:Option (Mk×Val)),env=[some (.sh,.rl (es.map ah)),some (.ow,lU ks λx=>.int (ψ x)),some (.sh,.int (nG [] done:Nat)),a,b,c,d,e]/\Lb ks done ψ)
  ⟨id,[],none,none,none,none,none,rfl,⟨YJ,Xz _,λ_ h=>by simp at h,λ_ _=>rfl,gz.nil⟩⟩ ?_ ?_
 ·rintro pre ⟨a,b⟩ post env hx ⟨ψ,ks,x1,x2,x3,x4,x5,rfl,m⟩
  have hpre:pre.length<=7:=by have:=Xf length hx;rw[WN,W7]at this;omega
  have hks:ks.length<=14:=by have:=m.len;omega
  have V3:(bS ks a).length<=15:=by have:=FY ks a;omega
  have er:nG [] (pre++[(a,b)])=nG [] pre+(open Classical in if Way pre a b then 0 else 1):=by rw[sS,nG,nG,YG,add_zero]
  have s1:=Hg (Ψ:=aq O9) (i:=5) (j:=1) (x:=3) (ks:=ks) (ψ:=ψ) (a:=a) (env:=[some (.sh,.rl (es.map ah)),some (.ow,lU ks λx=>.int (ψ x)),some (.sh,.int (nG [] pre:Nat)),some (.sh,.int a),some (.sh,.int b),x3,x4,x5]) (f:=true) rfl (by simp only[EV,aK]) (m.off a) (by omega);have s2:=Hg (Ψ:=aq O9) (i:=6) (j:=1) (x:=4) (ks:=bS ks a) (ψ:=ψ) (a:=b) (env:=[some (.sh,.rl (es.map ah)),some (.ow,lU (bS ks a) λx=>.int (ψ x)),some (.sh,.int (nG [] pre:Nat)),some (.sh,.int a),some (.sh,.int b),some (.sh,.int (ψ a)),x4,x5]) (f:=true) rfl (by simp only[EV,aK]) (λh=>m.off b λz=>h (p8.mpr (.inl z))) (by omega);have Tv:(5≠1)=True:=by simp
  have Tw:(6≠1)=True:=by simp
  simp only[set_cons_succ,set_cons_zero]at s1 s2
  by_cases c:ψ a = ψ b
  ·refine⟨[some (.sh,.rl (es.map ah)),some (.ow,lU (bS (bS ks a) b) λx=>.int (ψ x)),some (.sh,.int (nG [] pre:Nat)),some (.sh,.int a),some (.sh,.int b),some (.sh,.int (ψ a)),some (.sh,.int (ψ b)),x5],?_,ψ,_,_,_,_,_,_,by rw[er,Wu ((m.glue a b).mp c),add_zero],m.stay c⟩;simp only[EV,sM,LU,Tv,Tw,if_true,s1,s2];simp only[EV,c,not_true,decide_false]
  ·have m2:=m.join (a:=a) (b:=b)
   have hk2:(bS (bS ks a) b).length<=16:=by have:=FY (bS ks a) b;omega
   generalize bS (bS ks a) b=ks' at *;have zz:(ks'.map (Sum.inl:Int->Key)).length<sizeLine:=by rw[Wr];unfold sizeLine;omega
   have ky:ud [] (lU ks' λx=>Val.int (ψ x))=some (ks'.map Sum.inl):=rfl;have kv:(ks'.map (Sum.inl:Int->Key)).map Bq=ks'.map Val.int:=by rw[W4];rfl
   have en:((nG [] pre:Nat):Int)+1=((nG [] (pre++[(a,b)]):Nat):Int):=by rw[er,Wt λz=>c ((m.glue a b).mpr z)];rfl
   simp only[EV,sM,LU,Tv,Tw,if_true,s1,s2,c,not_false_iff,decide_true,ky,kv,fL];rw[en]
   repeat rw[mT]
   refine cO Val.int (λr:Pr wD=>∃env',r=.ok (.nx env')/\∃(ψ:Int->Int) (ks:List Int) (a' b' c d e:Option (Mk×Val)),env'=[some (.sh,.rl (es.map ah)),some (.ow,lU ks λx=>.int (ψ x)),some (.sh,.int (nG [] (pre++[(a,b)]):Nat)),a',b',c,d,e]/\Lb ks (pre++[(a,b)]) ψ)
    (λdone env=>∃e,env=[some (.sh,.rl (es.map ah)),some (.ow,lU ks' λy=>.int (if y∈done /\ ψ y = ψ a then ψ b else ψ y)),some (.sh,.int (nG [] (pre++[(a,b)]):Nat)),some (.sh,.int a),some (.sh,.int b),some (.sh,.int (ψ a)),some (.sh,.int (ψ b)),e])
    ?_ ?_ ?_
   ·exact⟨x5,by simp⟩
   ·rintro done y post env hy ⟨e,rfl⟩
    have hn:=m2.nd;have hyp:y∉done:=by rw[hy,Xq]at hn;exact λh=>hn.2.2 y h y (by simp) rfl
    have hys:y∈ks':=by rw[hy];simp
    refine⟨_,?_,some (.sh,.int y),rfl⟩;simp only[EV,b7,kB hys,uL,zz,yw hys,hyp,false_and,if_false]
    by_cases hg:ψ y = ψ a
    ·simp only[hg,↓reduceIte]
     rw[dz];intro z _;unfold o5
     by_cases e:z=y
     ·subst e;simp[hg]
     ·simp[e]
    ·simp only[hg,↓reduceIte]
     rw[dz];intro z _
     by_cases e:z=y
     ·subst e;simp[hg]
     ·simp[e]
   ·rintro env ⟨e,rfl⟩;refine⟨_,rfl,(λy=>if ψ y = ψ a then ψ b else ψ y),ks',some (.sh,.int a),some (.sh,.int b),some (.sh,.int (ψ a)),some (.sh,.int (ψ b)),e,?_,m2⟩;rw[dz (g':=λy=>.int (if ψ y = ψ a then ψ b else ψ y))];intro z hz;simp[hz]
 ·rintro env ⟨ψ,ks,x1,x2,x3,x4,x5,rfl,m⟩;simp only[EV,aK]
theorem mH(h:a.length+b.length<=sizeLine):jU .add (.rl a) (.rl b)=.ok (bR (a++b),.rl (a++b)):=by
 show pg _ _=_;unfold pg;rw[Wu (decide_eq_true h)]
open Classical in
theorem mJ(p q:Int)(es:List (Int×Int))(hl:es.length<=7):eW [ah (p,q),.rl (es.map ah)]=.ok (true,.bl (decide (Way es p q))):=by
 have e1:=yL es (by omega);have e2:=yL (es++[(p,q)]) (by rw[WN,X0];omega);rw[XM,List.map_singleton]at e2;have z1:1<=sizeLine:=by decide
 have z:(es.map ah).length+1<=sizeLine:=by rw[Wr];unfold sizeLine;omega
 have er:nG [] (es++[(p,q)])=nG [] es+(if Way es p q then 0 else 1):=by rw[sS,nG,nG,YG,add_zero]
 unfold eW fh;simp only[EV,z1,mH (show (es.map ah).length+[ah (p,q)].length<=sizeLine from z),kI,e1,e2,er]
 by_cases c:Way es p q
 ·simp[c]
 ·simp[c];omega
end K71
end
section
open PySem L2 Hv
namespace K71
theorem Ae(hx:PyData.strOk x=true)(hy:PyData.strOk y=true):cop [] .eq (.str x) (.str y)=some (decide (x=y)):=by
 show xP [] (.str x) (.str y)=_;unfold xP;rw[yv hx,yv hy];show some (PyData.eqv (.str x) (.str y))=_
 congr 1
def ao(s:Bool):Val:=if s then .str "linker" else .str "cutter"
theorem jG:∀a b:Bool,cop [] .eq (ao a) (ao b)=some (a==b)
 |true,true=>(Ae (cz _) (cz _)).trans (Xf some (by decide))
 |true,false=>(Ae (cz _) (cz _)).trans (Xf some (by decide))
 |false,true=>(Ae (cz _) (cz _)).trans (Xf some (by decide))
 |false,false=>(Ae (cz _) (cz _)).trans (Xf some (by decide))
theorem C9(a:Bool):cop [] .eq (ao a) (.str "linker")=some a:=(jG a true).trans (by cases a<;>rfl)
theorem gP:∀s,j5 (ao s)=true
 |true=>rfl
 |false=>rfl
def win(p q:Int):Nat->Bool->List (Int×Int)->List (Int×Int)->Bool
 |0,s,D,L=>open Classical in if Way D p q then true else if ¬ Way (D++L) p q then false else s
 | n+1,s,D,L=>open Classical in if Way D p q then true else if ¬ Way (D++L) p q then false else
  if ∃k,∃h:k<L.length,win p q n (!s) (if s then D++[L[k]] else D) (L.eraseIdx k)=s then s else !s
def kL(p q:Int)(n:Nat)(g:aQ):Prop:=∀(s:Bool) (D L:List (Int×Int)),L.length<=n->D.length+L.length<=4->∃f,g [ah (p,q),.rl (D.map ah),.rl (L.map ah),ao s]=.ok (f,ao (win p q n s D L))
theorem pN{α:Type}(enc:α -> Val)(Q:aP->Prop)(P:α -> Prop)(res:FV):∀(us:List α) (env:aP),Q env ->
  (∀u∈us,∀env,Q env->(P u/\body (enc u) env=.ok (.rt res))\/(¬ P u/\∃env',body (enc u) env=.ok (.nx env')/\Q env')) ->
  ((∃u∈us,P u)/\fN body (us.map enc) env=.ok (.rt res))\/((¬ ∃u∈us,P u)/\∃env',fN body (us.map enc) env=.ok (.nx env')/\Q env')
 |[],env,q,h=>.inr ⟨λ⟨_,z,_⟩=>by simp at z,env,rfl,q⟩
 | u::us,env,q,h=>by
  rw[WI,fN]
  rcases h u (Wx ..) env q with ⟨pu,e⟩|⟨np,env',e,q'⟩
  ·exact .inl ⟨⟨u,Wx,pu⟩,by rw[e,aK]⟩
  ·rw[e,aK]
   rcases pN enc Q P res us env' q' λv hv=>h v (Ww _ hv) with ⟨⟨v,hv,pv⟩,e2⟩|⟨nx,e2⟩
   ·exact .inl ⟨⟨v,Ww _ hv,pv⟩,e2⟩
   ·refine .inr ⟨λ⟨v,hv,pv⟩=>?_,e2⟩
    rcases WH.mp hv with rfl|hv
    ·exact np pv
    ·exact nx ⟨v,hv,pv⟩
theorem Af{α:Type}(us:List α)(k:Nat):cU us none (some (k:Int))++cU us (some ((k:Int)+1)) none=us.eraseIdx k:=by
 unfold cU;rw[HT.tF,HT.tF,HT.xw,show (k:Int)+1=((k+1:Nat):Int) from rfl,HT.xw];simp only[List.drop_zero,Nat.sub_zero];rw[List.eraseIdx_eq_take_drop_succ,Yu (l:=us.drop _) (by rw[Yz];omega)]
 by_cases h:k<us.length
 ·rw[Nat.min_eq_left (by omega),Nat.min_eq_left (by omega)]
 ·rw[Nat.min_eq_right (by omega),Nat.min_eq_right (by omega),Yu (Wy _),List.drop_of_length_le (Wy _),Yu (by omega),List.drop_of_length_le (by omega)]
theorem iT{m:List Nat}(h:bL Ψ m st env=.ok (.nx env')):aU Ψ m (.cons st r) env=aU Ψ m r env':=by
 rw[aU,h];rfl
theorem Lv(p q:Int):kL p q 0 iR:=by
 intro s D L hL hT;have e0:L=[]:=List.length_eq_zero_iff.mp (Nat.le_zero.mp hL);subst e0;have e1:=mJ p q D (by omega);have za:(D.map ah).length+([]:List Val).length<=sizeLine:=by rw[Wr];simp at hT |-;unfold sizeLine;omega
 unfold iR fj
 by_cases c1:Way D p q
 ·have:win p q 0 s D []=true:=by rw[win,Wu c1]
  rw[this];refine⟨true,?_⟩;simp only[EV,fF,e1,c1,decide_true];rfl
 ·have:win p q 0 s D []=false:=by rw[win,Wt c1,XE,Wu c1]
  rw[this];refine⟨true,?_⟩;simp only[EV,fF,e1,c1,decide_false,map_nil,mH za,List.append_nil];rfl
def wB(j:Nat):cE:=#[.asg (.one 6) (.bin .add (.slc (!2) .no (!5)) (.slc (!2) (.bin .add (!5) (¬1)) .no)),.asg (.one 7) (!1),.iff (.cmp .eq (!3) (.cst (.str "linker"))) #[.asg (.one 7) (.bin .add (!1) (.lst #[.idx (!2) (!5)]))] .nil,.iff (.cmp .eq (.call j #[!0,!7,!6,!4]) (!3)) #[.ret (!3)] .nil]
def wF(j:Nat):IS:=(.for (.one 5) .range #[.blt .len #[!2]] (wB j))
def wR:cE:=#[.ret (!4)]
def wH(T:cE):cE:=(.cons (.iff (.call 5 #[!0,!1]) #[.ret (.cst (.str "linker"))] .nil) (.cons (.iff (.not (.call 5 #[!0,.bin .add (!1) (!2)])) #[.ret (.cst (.str "cutter"))] .nil) (.cons (.asg (.one 4) (.cst (.str "linker"))) (.cons (.iff (.cmp .eq (!3) (.cst (.str "linker"))) #[.asg (.one 4) (.cst (.str "cutter"))] .nil) T))))
theorem Ga(j:Nat):cj j=wH (.cons (wF j) wR):=rfl
theorem Pd{ms:List Nat}{i:Nat}{n:Nat}(h1:(uD (.one i) #[e] B&&(stored (.one i)).all λi=>!ms.contains i)=true)(h2:fH Ψ #[e] env=.ok [.int (n:Int)])(hn:n<=1000) :
  bL Ψ ms (.for (.one i) .range #[e] B) env=fN (λx env=>pb (pl (cQ (.one i) x env)) λenv'=>aU Ψ ms B env') ((List.range n).map λi:Nat=>Val.int (0+(i:Int))) env:=by
 have hR:inR (n:Int)=true:=by unfold inR;simp only[and_eq_true,decide_eq_true_eq];omega
 rw[bL,h1,kq rfl,h2,aK,C7 hR,ck,aK,Int.toNat_natCast]
theorem jQ{j n:Nat}{p q:Int}(h5:Ψ 5=eW)(hj:kL p q n (Ψ j)):kL p q (n+1) (cF Ψ 8 (cj j)):=by
 intro s D L hL hT;have e1:=mJ p q D (by omega);have e2:=mJ p q (D++L) (by rw[WN];omega);rw[XM]at e2;have za:(D.map ah).length+(L.map ah).length<=sizeLine:=by rw[Wr,Wr];unfold sizeLine;omega
 unfold cj
 by_cases c1:Way D p q
 ·have:win p q (n+1) s D L=true:=by rw[win,Wu c1]
  rw[this];refine⟨true,?_⟩;simp only[EV,h5,e1,c1,decide_true];rfl
 by_cases c2:Way (D++L) p q
 ·have hw:win p q (n+1) s D L=(open Classical in if ∃k,∃h:k<L.length,win p q n (!s) (if s then D++[L[k]] else D) (L.eraseIdx k)=s then s else !s):=by
   rw[win,Wt c1,Wt λh=>h c2]
  have sl:=C9 s;have z1:1<=sizeLine:=by decide
  have zD:(D.map ah).length+1<=sizeLine:=by rw[Wr];unfold sizeLine;omega
  have go:∀k:Nat,∀h:k<L.length,∃f,Ψ j [ah (p,q),.rl ((if s then D++[L[k]] else D).map ah),.rl ((L.eraseIdx k).map ah),ao (!s)]=.ok (f,ao (win p q n (!s) (if s then D++[L[k]] else D) (L.eraseIdx k))):=λk h=>by
   have hle:(L.eraseIdx k).length=L.length-1:=List.length_eraseIdx_of_lt h;refine hj (!s) _ _ (by omega) ?_;rw[hle]
   split
   ·rw[WN,X0];omega
   ·omega
  have ee:∀k:Nat,jU .add (.rl (cU (L.map ah) none (some (k:Int)))) (.rl (cU (L.map ah) (some ((k:Int)+1)) none))=.ok (bR ((L.eraseIdx k).map ah),.rl ((L.eraseIdx k).map ah)):=λk=>by
   have e3:cU (L.map ah) none (some (k:Int))++cU (L.map ah) (some ((k:Int)+1)) none=(L.eraseIdx k).map ah:=by rw[o4,o4,<-XM,Af]
   rw[mH,e3];have:=Xf length e3;rw[WN,Wr]at this;have h2:=List.length_eraseIdx_le L k;rw[this];unfold sizeLine;omega
  have el:fH Ψ #[.blt .len #[!2]] [some (.sh,ah (p,q)),some (.sh,.rl (D.map ah)),some (.sh,.rl (L.map ah)),some (.sh,ao s),some (.sh,ao (!s)),none,none,none]=.ok [.int (L.length:Int)]:=by simp only[EV,length_map]
  have hb:∀k:Nat,∀h:k<L.length,∀a b c:Option (Mk×Val),∃a' b' c':Option (Mk×Val),aU Ψ [] (wB j) [some (.sh,ah (p,q)),some (.sh,.rl (D.map ah)),some (.sh,.rl (L.map ah)),some (.sh,ao s),some (.sh,ao (!s)),some (.sh,.int (k:Int)),b,c]=if win p q n (!s) (if s then D++[L[k]] else D) (L.eraseIdx k)=s then .ok (.rt (true,ao s)) else .ok (.nx [some (.sh,ah (p,q)),some (.sh,.rl (D.map ah)),some (.sh,.rl (L.map ah)),some (.sh,ao s),some (.sh,ao (!s)),a',b',c']):=by
   intro k hk a b c;obtain⟨f,e⟩:=go k hk;have ix:gA (L.map ah) (k:Int)=some (ah L[k]):=kT (by simp[hk]);have sq:=jG (win p q n (!s) (if s then D++[L[k]] else D) (L.eraseIdx k)) s;unfold wB;cases s with
   |true=>simp only[if_true,Bool.not_true,map_append,map_cons,map_nil]at e sq |-;generalize win p q n false (D++[L[k]]) (L.eraseIdx k)=w at *;refine⟨some (.sh,.int (k:Int)),some (fc (bR ((L.eraseIdx k).map ah)) (.rl ((L.eraseIdx k).map ah)),.rl ((L.eraseIdx k).map ah)),some (fc (bR (D.map ah++[ah L[k]])) (.rl (D.map ah++[ah L[k]])),.rl (D.map ah++[ah L[k]])),?_⟩;simp only[EV,Cg,ee,iB ix,z1,mH (show (D.map ah).length+[ah L[k]].length<=sizeLine from zD),e,sl,sq,gP];cases w<;>rfl
   |false=>simp only[false_eq_true,Bool.not_false,if_false]at e sq |-;generalize win p q n true D (L.eraseIdx k)=w at *;refine⟨some (.sh,.int (k:Int)),some (fc (bR ((L.eraseIdx k).map ah)) (.rl ((L.eraseIdx k).map ah)),.rl ((L.eraseIdx k).map ah)),some (.sh,.rl (D.map ah)),?_⟩;simp only[EV,Cg,ee,e,sl,sq,gP];cases w<;>rfl
  have hF:aU Ψ [] (.cons (wF j) wR) [some (.sh,ah (p,q)),some (.sh,.rl (D.map ah)),some (.sh,.rl (L.map ah)),some (.sh,ao s),some (.sh,ao (!s)),none,none,none]=.ok (.rt (true,ao (win p q (n+1) s D L))):=by
   rw[aU];unfold wF;rw[Pd rfl el (by omega)]
   rcases pN (λi:Nat=>Val.int (0+(i:Int))) (body:=λx env=>pb (pl (cQ (.one 5) x env)) λenv'=>aU Ψ [] (wB j) env') (λenv=>∃a b c:Option (Mk×Val),env=[some (.sh,ah (p,q)),some (.sh,.rl (D.map ah)),some (.sh,.rl (L.map ah)),some (.sh,ao s),some (.sh,ao (!s)),a,b,c]) (λk=>∃h:k<L.length,win p q n (!s) (if s then D++[L[k]] else D) (L.eraseIdx k)=s) (true,ao s) (List.range L.length) _ ⟨none,none,none,rfl⟩ (λk hk env he=>by
    obtain⟨a,b,c,rfl⟩:=he;have hk:=Y0.mp hk;obtain⟨a',b',c',e⟩:=hb k hk a b c;rw[b7,ck,aK,Int.zero_add];simp only[set_cons_succ,set_cons_zero]
    by_cases cw:win p q n (!s) (if s then D++[L[k]] else D) (L.eraseIdx k)=s
    ·rw[Wu cw]at e;exact .inl ⟨⟨hk,cw⟩,e⟩
    ·rw[Wt cw]at e;exact .inr ⟨λz=>cw z.2,_,e,_,_,_,rfl⟩) with ⟨⟨k,hk,h,cw⟩,e⟩|⟨nx,env',e,a,b,c,rfl⟩
   ·rw[e,aK,hw,Wu ⟨k,h,cw⟩]
   ·rw[e,aK,hw,Wt λ⟨k,h,cw⟩=>nx ⟨k,Y0.mpr h,h,cw⟩];unfold wR;simp only[EV,gP]
  refine⟨true,?_⟩;show pb (aU Ψ [] (cj j) [some (.sh,ah (p,q)),some (.sh,.rl (D.map ah)),some (.sh,.rl (L.map ah)),some (.sh,ao s),none,none,none,none]) _=_;rw[Ga];generalize (cE.cons (wF j) wR)=T at *;have hH:aU Ψ [] (wH T) [some (.sh,ah (p,q)),some (.sh,.rl (D.map ah)),some (.sh,.rl (L.map ah)),some (.sh,ao s),none,none,none,none]=aU Ψ [] T [some (.sh,ah (p,q)),some (.sh,.rl (D.map ah)),some (.sh,.rl (L.map ah)),some (.sh,ao s),some (.sh,ao (!s)),none,none,none]:=by
   have q1:bL Ψ [] (.iff (.call 5 #[!0,!1]) #[.ret (.cst (.str "linker"))] .nil) [some (.sh,ah (p,q)),some (.sh,.rl (D.map ah)),some (.sh,.rl (L.map ah)),some (.sh,ao s),none,none,none,none]=.ok (.nx [some (.sh,ah (p,q)),some (.sh,.rl (D.map ah)),some (.sh,.rl (L.map ah)),some (.sh,ao s),none,none,none,none]):=by simp only[EV,h5,e1,c1,decide_false]
   have q2:bL Ψ [] (.iff (.not (.call 5 #[!0,.bin .add (!1) (!2)])) #[.ret (.cst (.str "cutter"))] .nil) [some (.sh,ah (p,q)),some (.sh,.rl (D.map ah)),some (.sh,.rl (L.map ah)),some (.sh,ao s),none,none,none,none]=.ok (.nx [some (.sh,ah (p,q)),some (.sh,.rl (D.map ah)),some (.sh,.rl (L.map ah)),some (.sh,ao s),none,none,none,none]):=by simp only[EV,h5,mH za,e2,c2,decide_true]
   have q3:bL Ψ [] (.asg (.one 4) (.cst (.str "linker"))) [some (.sh,ah (p,q)),some (.sh,.rl (D.map ah)),some (.sh,.rl (L.map ah)),some (.sh,ao s),none,none,none,none]=.ok (.nx [some (.sh,ah (p,q)),some (.sh,.rl (D.map ah)),some (.sh,.rl (L.map ah)),some (.sh,ao s),some (.sh,.str "linker"),none,none,none]):=by simp only[EV,aK]
   have q4:bL Ψ [] (.iff (.cmp .eq (!3) (.cst (.str "linker"))) #[.asg (.one 4) (.cst (.str "cutter"))] .nil) [some (.sh,ah (p,q)),some (.sh,.rl (D.map ah)),some (.sh,.rl (L.map ah)),some (.sh,ao s),some (.sh,.str "linker"),none,none,none]=.ok (.nx [some (.sh,ah (p,q)),some (.sh,.rl (D.map ah)),some (.sh,.rl (L.map ah)),some (.sh,ao s),some (.sh,ao (!s)),none,none,none]):=by
    have hq:LS Ψ (.cmp .eq (!3) (.cst (.str "linker"))) [some (.sh,ah (p,q)),some (.sh,.rl (D.map ah)),some (.sh,.rl (L.map ah)),some (.sh,ao s),some (.sh,.str "linker"),none,none,none]=.ok (true,.bl s):=by simp only[EV,sl]
    rw[bL,hq,aK];show pb (pl (cC [] (.bl s))) _=_;rw[oZ,ck,aK];clear hq hF hw go ee e1 e2 h5 hj sl;cases s with
    |true=>rw[Wu rfl,iT (env':=[some (.sh,ah (p,q)),some (.sh,.rl (D.map ah)),some (.sh,.rl (L.map ah)),some (.sh,ao true),some (.sh,.str "cutter"),none,none,none]) (by simp only[EV,aK]),aU];rfl
    |false=>rw[Wt Wm,aU];rfl
   unfold wH;rw[iT q1,iT q2,iT q3,iT q4]
  rw[hH,hF];rfl
 ·have:win p q (n+1) s D L=false:=by rw[win,Wt c1,Wu c2]
  rw[this];refine⟨true,?_⟩;simp only[EV,h5,e1,c1,mH za,e2,c2,decide_false];rfl
end K71
end
section
open PySem L2 Hv
namespace K71
theorem Ag{a b:Int}:fq [aI a b ts]=.ok (true,.bl (decide (a=b))):=by
 unfold fq dN aI;simp only[EV,cS pZ,cS nE]
def Gb(a b:Int)(ts:List T3):Val:=open Classical in if a=b then .str "linker" else if Apart a b ts then .str "cutter" else .non
theorem qY{a b:Int}(h:ts.length<=14):∃f,dD [aI a b ts]=.ok (f,Gb a b ts):=by
 have e1:=Ag (a:=a) (b:=b) (ts:=ts);have e2:=Aa (p:=a) (q:=b) h;unfold dD dR Gb;generalize aI a b ts=N at *
 by_cases c1:a=b
 ·rw[Wu c1];exact⟨true,by simp only[EV,cy,e1,c1,decide_true]⟩
 ·rw[Wt c1]
  by_cases c2:Apart a b ts
  ·rw[Wu c2];exact⟨true,by simp only[EV,cy,dY,e1,e2,c1,c2,decide_true,decide_false]⟩
  ·rw[Wt c2];exact⟨true,by simp only[EV,cy,dY,e1,e2,c1,c2,decide_true,decide_false]⟩
theorem Dc(s:Bool):∃f,dW [ao s]=.ok (f,ao (!s)):=by
 have sl:=C9 s;unfold dW cZ;cases s with
 |true=>exact⟨true,by simp only[EV,sl];rfl⟩
 |false=>exact⟨true,by simp only[EV,sl];rfl⟩
theorem Dd{a b:Int}(h:ts.length<=14):∃f,eX [aI a b ts]=.ok (f,.rl (ts.map nameV)):=by
 unfold eX fk aI;have hc:ts.length<=100000:=by omega
 simp only[EV,cS nE,fL,iW,length_map,hc];rw[eT bM nameV ts (λt ht=>by
  have i0:jf [] (bM t) (.int 0)=some (nameV t):=rfl;simp only[EV,b7,i0];rfl)]
 exact⟨_,rfl⟩
def iI(p q:Int)(f:Int->Int)(Z:List T3):Val:=aI (turnT (0,f p,f q)).2.1 (turnT (0,f p,f q)).2.2 (fV f Z)
theorem yM(x y:Int):(turnT (0,x,y)).2.1=(turnT (0,x,y)).2.2↔x=y:=by
 unfold turnT;dsimp only;constructor<;>(intro h;revert h;split<;>split<;>intro h<;>omega)
theorem Gd(x y:Int):(turnT (0,x,y)).2.1<=(turnT (0,x,y)).2.2:=by
 unfold turnT;dsimp only;split<;>split<;>omega
theorem De{x y:Int}:Way es (turnT (0,x,y)).2.1 (turnT (0,x,y)).2.2↔Way es x y:=by
 by_cases c:y<x
 ·have e1:(turnT (0,x,y)).2.1=y:=Wu c;have e2:(turnT (0,x,y)).2.2=x:=Wt (by dsimp only;omega);rw[e1,e2];exact⟨Way.symm,Way.symm⟩
 ·have e1:(turnT (0,x,y)).2.1=x:=Wt c
  have e2:(turnT (0,x,y)).2.2=y:=by
   show (if y>x then y else x)=y
   split<;>omega
  rw[e1,e2]
theorem vo{p q:Int}(g:gz D f):Apart (turnT (0,f p,f q)).2.1 (turnT (0,f p,f q)).2.2 (fV f Z)↔¬ Way (D++Z.map aM) p q:=by
 unfold Apart;rw[De,vm (es:=Z.map aM) g]
 ·exact not_congr ⟨Way.mono λe he=>by rw[W3]at he |-;exact he.symm,Way.mono λe he=>by rw[W3]at he |-;exact he.symm⟩
 ·intro e he;obtain⟨u,hu,rfl⟩:=Xm.mp he;exact⟨_,Xd (pK hu),sN (jF f u)⟩
 ·intro e' he;obtain⟨w,hw,rfl⟩:=Xm.mp he;obtain⟨v,hv,rfl⟩:=Xm.mp ((bA _).mem_iff.mp hw);obtain⟨u,hu,rfl⟩:=Xm.mp hv;exact⟨_,Xd hu,sN (jF f u)⟩
theorem Df{p q:Int}(g:gz D f):Gb (turnT (0,f p,f q)).2.1 (turnT (0,f p,f q)).2.2 (fV f Z)=(open Classical in if Way D p q then ao true else if ¬ Way (D++Z.map aM) p q then ao false else .non):=by
 unfold Gb
 by_cases c1:Way D p q
 ·rw[Wu c1,Wu ((yM _ _).mpr ((g p q).mpr c1))];rfl
 ·rw[Wt c1,Wt λh=>c1 ((g p q).mp ((yM _ _).mp h))]
  by_cases c2:Way (D++Z.map aM) p q
  ·rw[Wt λh=>(vo g).mp h c2,Wt λh=>h c2]
  ·rw[Wu ((vo g).mpr c2),Wu c2];rfl
theorem mK:∀(Z:List T3) (k:Nat) (h:k<Z.length),(Z.map (·.1)).Nodup->others Z Z[k]=Z.eraseIdx k
 | u::Z,0,h,hn=>by
  rw[WI,W6]at hn;unfold others;rw[List.getElem_cons_zero,List.filter_cons,Wt (by simp),List.eraseIdx_cons_zero,List.filter_eq_self];intro v hv;have:v.1≠u.1:=λe=>hn.1 (e▸Xd hv);simp[this]
 | u::Z,k+1,h,hn=>by
  rw[WI,W6]at hn;have hk:k<Z.length:=by simpa using h
  have ih:=mK Z k hk hn.2;unfold others at ih |-;rw[List.getElem_cons_succ,Yo,List.filter_cons,Wu,ih];have:u.1≠(Z[k]).1:=λe=>hn.1 (e▸Xd (Xw hk));simp[this]
theorem Ge{p q:Int}(g:gz D f)(hn:(Z.map (·.1)).Nodup)(hl:Z.length<=14)(s:Bool)(hu:u∈Z) :
  ∃fl f',f6 [iI p q f Z,ao s,.int u.1]=.ok (fl,iI p q f' (others Z u))/\gz (if s then D++[aM u] else D) f':=by
 have hw:turnT (jF f u)∈fV f Z:=pK hu;have hla:(fV f Z).length<=14:=by rw[lO];exact hl
 have hna:=FU (f:=f) hn;have en:(turnT (jF f u)).1=u.1:=rfl;have sl:=C9 s;cases s with
 |true=>
  have e:=C6 (p:=(turnT (0,f p,f q)).2.1) (q:=(turnT (0,f p,f q)).2.2) hla hna hw;rw[qW (lN _ _),qX hn en]at e;refine⟨true,λx=>lN (turnT (jF f u)).2.1 (turnT (jF f u)).2.2 (f x),?_,?_⟩
  ·unfold f6 eV iI;rw[en]at e;generalize aI (turnT (0,f p,f q)).2.1 (turnT (0,f p,f q)).2.2 (fV f Z)=N at *;simp only[EV,sl,mE,e]
  ·rw[Wu rfl]
   refine gz.of (g.comp (a:=u.2.1) (b:=u.2.2) (sN (jF f u))) (λe he=>?_) λe he=>?_
   ·rcases WH.mp he with he|he
    ·exact WU _ (WD.mpr he)
    ·exact W0 _ he
   ·rcases W3.mp he with he|he
    ·exact Ww _ he
    ·rw[WD.mp he];exact Wx
 |false=>have e:=C5 (p:=(turnT (0,f p,f q)).2.1) (q:=(turnT (0,f p,f q)).2.2) hla hna hw;have o:=(Gd (f p) (f q));rw[Wt (by omega),show (if (turnT (0,f p,f q)).2.2>(turnT (0,f p,f q)).2.1 then (turnT (0,f p,f q)).2.2 else (turnT (0,f p,f q)).2.1)=(turnT (0,f p,f q)).2.2 by split<;>omega]at e;have st:=qX (f:=f) (g:=id) (Z:=Z) (u:=u) (w:=turnT (jF f u)) hn en;rw[GZ]at st;rw[st]at e;refine⟨true,f,?_,by rw[Wt Wm];exact g⟩;unfold f6 eV iI;rw[en]at e;generalize aI (turnT (0,f p,f q)).2.1 (turnT (0,f p,f q)).2.2 (fV f Z)=N at *;simp only[EV,sl,jE,e];rfl
def kM(p q:Int)(n:Nat)(g:aQ):Prop:=∀(s:Bool) (D:List (Int×Int)) (f:Int->Int) (Z:List T3),gz D f->(Z.map (·.1)).Nodup->Z.length<=n->Z.length<=4->∃fl,g [iI p q f Z,ao s]=.ok (fl,ao (win p q n s D (Z.map aM)))
theorem lI{α β:Type}(f:α -> β):∀(l:List α) (k:Nat),(l.eraseIdx k).map f=(l.map f).eraseIdx k
 |[],_=>rfl
 |_::_,0=>rfl
 |x::l,k+1=>by rw[Yo,WI,WI,Yo,lI f l k]
theorem nR{p q:Int}{n:Nat}{s:Bool}:(Way D p q->win p q n s D L=true)/\(¬ Way D p q->¬ Way (D++L) p q->win p q n s D L=false):=by
 cases n<;>exact⟨λh=>by rw[win,Wu h],λh1 h2=>by rw[win,Wt h1,Wu h2]⟩
theorem lQ{s w:Bool}{f:Bool}(Iv:Ψ 15 [N]=.ok (f,ao w)):aU Ψ [] (.cons (.asg (.one 2) (.call 15 #[!0])) (.cons (.iff (.cmp .ntn (!2) (.cst .non)) #[.ret (!2)] .nil) T)) [some (.sh,N),some (.sh,ao s),none,none,none]=.ok (.rt (true,ao w)):=by
 have n1:k7 (ao w)=false:=by cases w<;>rfl
 simp only[EV,Iv,n1,gP,if_true]
theorem Gf{s:Bool}{f:Bool}(Iv:Ψ 15 [N]=.ok (f,.non)):aU Ψ [] (.cons (.asg (.one 2) (.call 15 #[!0])) (.cons (.iff (.cmp .ntn (!2) (.cst .non)) #[.ret (!2)] .nil) T)) [some (.sh,N),some (.sh,ao s),none,none,none]=aU Ψ [] T [some (.sh,N),some (.sh,ao s),some (fc f .non,.non),none,none]:=by
 have n1:k7 .non=true:=rfl;have n2:fc f .non=.sh:=by cases f<;>rfl
 simp only[EV,Iv,n1,n2,Bool.true_eq_false,if_false]
theorem Lw(p q:Int):kM p q 0 jz:=by
 intro s D f Z g hn hl Hf;have e0:Z=[]:=List.length_eq_zero_iff.mp (Nat.le_zero.mp hl);subst e0;obtain⟨fl,e⟩:=qY (a:=(turnT (0,f p,f q)).2.1) (b:=(turnT (0,f p,f q)).2.2) (ts:=fV f []) (by rw[lO];decide);rw[Df g]at e
 by_cases c1:Way D p q
 ·rw[Wu c1]at e;refine⟨true,?_⟩;rw[nR.1 c1];show pb (aU (aq z4) [] bV [some (.sh,iI p q f []),some (.sh,ao s),none,none,none]) _=_;unfold bV;rw[lQ (f:=fl) (w:=true) (by rw[dZ];exact e)];rfl
 ·have c2:¬ Way (D++([]:List T3).map aM) p q:=by rw[XT,XE];exact c1
  rw[Wt c1,Wu c2]at e;refine⟨true,?_⟩;rw[nR.2 c1 c2];show pb (aU (aq z4) [] bV [some (.sh,iI p q f []),some (.sh,ao s),none,none,none]) _=_;unfold bV;rw[lQ (f:=fl) (w:=false) (by rw[dZ];exact e)];rfl
def bB(j:Nat):cE:=#[.iff (.cmp .eq (.call j #[.call 23 #[!0,!1,!4],!3]) (!1)) #[.ret (!1)] .nil]
def bF(j:Nat):IS:=(.for (.one 4) .seq #[.call 17 #[!0]] (bB j))
theorem Gg(j:Nat):cu j=.cons (.asg (.one 2) (.call 15 #[!0])) #[.iff (.cmp .ntn (!2) (.cst .non)) #[.ret (!2)] .nil,.asg (.one 3) (.call 16 #[!1]),bF j,.ret (!3)]:=rfl
theorem Pe{ms:List Nat}{i:Nat}(h1:(uD (.one i) #[e] B&&(stored (.one i)).all λi=>!ms.contains i)=true)(h2:fH Ψ #[e] env=.ok [.rl vs]) :
  bL Ψ ms (.for (.one i) .seq #[e] B) env=fN (λx env=>pb (pl (cQ (.one i) x env)) λenv'=>aU Ψ ms B env') vs env:=by
 rw[bL,h1,kq rfl,h2,aK,fL,ck,aK]
theorem jR{j n:Nat}{p q:Int}(Iv:Ψ 15=dD)(V4:Ψ 16=dW)(V5:Ψ 17=eX)(h23:Ψ 23=f6)(hj:kM p q n (Ψ j)):kM p q (n+1) (cF Ψ 5 (cu j)):=by
 intro s D f Z g hn hl Hf;obtain⟨fl,e⟩:=qY (a:=(turnT (0,f p,f q)).2.1) (b:=(turnT (0,f p,f q)).2.2) (ts:=fV f Z) (by rw[lO];omega);rw[Df g,<-Iv]at e;have e:Ψ 15 [iI p q f Z]=_:=e;refine⟨true,?_⟩;show pb (aU Ψ [] (cu j) [some (.sh,iI p q f Z),some (.sh,ao s),none,none,none]) _=_;rw[Gg]
 by_cases c1:Way D p q
 ·rw[Wu c1]at e;rw[nR.1 c1,lQ e];rfl
 by_cases c2:Way (D++Z.map aM) p q
 ·rw[Wt c1,Wt λh=>h c2]at e
  rw[Gf e];have hw:win p q (n+1) s D (Z.map aM)=(open Classical in if ∃k,∃h:k<(Z.map aM).length,win p q n (!s) (if s then D++[(Z.map aM)[k]] else D) ((Z.map aM).eraseIdx k)=s then s else !s):=by rw[win,Wt c1,Wt λh=>h c2]
  obtain⟨f1,eo⟩:=Dc s;obtain⟨f2,en⟩:=Dd (a:=(turnT (0,f p,f q)).2.1) (b:=(turnT (0,f p,f q)).2.2) (ts:=fV f Z) (by rw[lO];omega);have en:eX [iI p q f Z]=_:=en;have hm:fc f1 (ao (!s))=.sh:=by cases s<;>cases f1<;>rfl
  have q3:∀a:Option (Mk×Val),bL Ψ [] (.asg (.one 3) (.call 16 #[!1])) [some (.sh,iI p q f Z),some (.sh,ao s),a,none,none]=.ok (.nx [some (.sh,iI p q f Z),some (.sh,ao s),a,some (.sh,ao (!s)),none]):=λa=>by
   simp only[EV,V4,eo,hm]
  rw[iT (q3 _)];have el:∀a:Option (Mk×Val),fH Ψ #[.call 17 #[!0]] [some (.sh,iI p q f Z),some (.sh,ao s),a,some (.sh,ao (!s)),none]=.ok [.rl ((fV f Z).map nameV)]:=λa=>by
   simp only[EV,V5,en]
  have hb:∀k:Nat,∀h:k<Z.length,∀a b:Option (Mk×Val),aU Ψ [] (bB j) [some (.sh,iI p q f Z),some (.sh,ao s),a,some (.sh,ao (!s)),some (.sh,.int (Z[k]).1)]=if win p q n (!s) (if s then D++[aM Z[k]] else D) ((Z.map aM).eraseIdx k)=s then .ok (.rt (true,ao s)) else .ok (.nx [some (.sh,iI p q f Z),some (.sh,ao s),a,some (.sh,ao (!s)),some (.sh,.int (Z[k]).1)]):=by
   intro k hk a b;obtain⟨f3,f',ed,g'⟩:=Ge (p:=p) (q:=q) g hn (by omega) s (Xw hk);rw[mK Z k hk hn]at ed;have hle:(Z.eraseIdx k).length=Z.length-1:=List.length_eraseIdx_of_lt hk;obtain⟨f4,er⟩:=hj (!s) _ f' (Z.eraseIdx k) g' (by rw[<-mK Z k hk hn];exact qV hn _) (by omega) (by omega);have em:(Z.eraseIdx k).map aM=(Z.map aM).eraseIdx k:=lI _ _ _;rw[em]at er;have sq:=jG (win p q n (!s) (if s then D++[aM Z[k]] else D) ((Z.map aM).eraseIdx k)) s;generalize win p q n (!s) (if s then D++[aM Z[k]] else D) ((Z.map aM).eraseIdx k)=w at *;generalize iI p q f' (Z.eraseIdx k)=N' at *;generalize iI p q f Z=N at *;unfold bB;have hq:LS Ψ (.cmp .eq (.call j #[.call 23 #[!0,!1,!4],!3]) (!1)) [some (.sh,N),some (.sh,ao s),a,some (.sh,ao (!s)),some (.sh,.int (Z[k]).1)]=.ok (true,.bl (w==s)):=by simp only[EV,h23,ed,er,sq]
   rw[aU,bL,hq,aK];show pb (pb (pl (cC [] (.bl (w==s)))) _) _=_;rw[oZ,ck,aK]
   by_cases c:w=s
   ·rw[Wu c,Wu (by rw[c];exact Xv s)];simp only[EV,gP]
   ·rw[Wt c,Wt (by rw[YU];exact c),aU,aK];rfl
  rw[aU];unfold bF;rw[Pe rfl (el _)];have pos:∀w∈fV f Z,∃k,∃h:k<Z.length,w.1=(Z[k]).1:=λw hw=>by
   obtain⟨v,hv,rfl⟩:=Xm.mp ((bA _).mem_iff.mp hw);obtain⟨u,hu,rfl⟩:=Xm.mp hv;obtain⟨k,hk,rfl⟩:=Yc hu;exact⟨k,hk,rfl⟩
  have V6:∀i k (hi:i<Z.length) (hk:k<Z.length),(Z[i]).1=(Z[k]).1->i=k:=λi k hi hk e=>by
   have nd:=Xs.mp hn;have l:∀i,i<Z.length->i<(Z.map (·.1)).length:=λi h=>by rw[Wr];exact h
   rcases Nat.lt_trichotomy i k with h|h|h
   ·have:=nd i k (l i hi) (l k hk) h;rw[Xb,Xb]at this;exact absurd e this
   ·exact h
   ·have:=nd k i (l k hk) (l i hi) h;rw[Xb,Xb]at this;exact absurd e.symm this
  rcases pN nameV (body:=λx env=>pb (pl (cQ (.one 4) x env)) λenv'=>aU Ψ [] (bB j) env') (λenv=>∃a b:Option (Mk×Val),env=[some (.sh,iI p q f Z),some (.sh,ao s),a,some (.sh,ao (!s)),b]) (λw=>∃k,∃h:k<Z.length,w.1=(Z[k]).1/\win p q n (!s) (if s then D++[aM Z[k]] else D) ((Z.map aM).eraseIdx k)=s) (true,ao s) (fV f Z) _ ⟨_,none,rfl⟩ (λw hw env he=>by
    obtain⟨a,b,rfl⟩:=he;obtain⟨k,hk,ek⟩:=pos w hw;have e:=hb k hk a none;rw[b7,ck,aK];unfold nameV;rw[ek];simp only[set_cons_succ,set_cons_zero]
    by_cases cw:win p q n (!s) (if s then D++[aM Z[k]] else D) ((Z.map aM).eraseIdx k)=s
    ·rw[Wu cw]at e;exact .inl ⟨⟨k,hk,rfl,cw⟩,e⟩
    ·rw[Wt cw]at e;refine .inr ⟨λ⟨i,hi,ei,ci⟩=>cw ?_,_,e,_,_,rfl⟩;have:=V6 i k hi hk ei.symm;subst this;exact ci) with ⟨⟨w,Wk,k,hk,ek,cw⟩,e⟩|⟨nx,env',e,a,b,rfl⟩
  ·rw[e,aK,hw,Wu ⟨k,by rw[Wr];exact hk,by rw[Xb];exact cw⟩];rfl
  ·rw[e,aK,hw,Wt]
   ·simp only[EV,gP]
   ·rintro⟨k,hk,cw⟩;rw[Wr]at hk;rw[Xb]at cw;exact nx ⟨turnT (jF f Z[k]),pK (Xw hk),k,hk,rfl,cw⟩
 ·rw[Wt c1,Wu c2]at e;rw[nR.2 c1 c2,lQ e];rfl
end K71
end
section
open PySem L2 Hv
namespace K71
theorem eY{sp:List Nat}(h:bY Ψ sp st env=.ok (.nx env')):dB Ψ sp (.cons st r) env=dB Ψ sp r env':=by
 rw[dB,h];rfl
theorem Lx{sp:List Nat}{i:Nat}(hi:sp.contains i=true)(hn:new2 e=none)(h:aX Ψ e (bz env)=.ok (true,v)):bY Ψ sp (.asg (.one i) e) env=.ok (.nx (env.set i (some (.ow,v)))):=by
 rw[bY]
 try dsimp only
 rw[Wu hi,hn]
 try dsimp only
 rw[h];rfl
theorem sU{sp:List Nat}{i:Nat}{f:Bool}(hi:sp.contains i=false)(h:aX Ψ e (iC env)=.ok (f,v)):bY Ψ sp (.asg (.one i) e) env=.ok (.nx (env.set i (some (.sh,v)))):=by
 rw[bY]
 try dsimp only
 unfold Ft;rw[Wt (by rw[hi];exact Wm),h];rfl
theorem Ly{sp:List Nat}{i:Nat}(hi:sp.contains i=false)(h1:aX Ψ e (iC env)=.no)(h:aX Ψ e (bz env)=.ok (true,v)):bY Ψ sp (.asg (.one i) e) env=.ok (.nx (env.set i (some (.sh,v)))):=by
 rw[bY]
 try dsimp only
 unfold Ft;rw[Wt (by rw[hi];exact Wm),h1]
 try dsimp only
 rw[h];rfl
theorem Dg(p q:Int):kL p q 4 di:=by
 have w1:kL p q 1 kF:=jQ (Ψ:=aq P0) (j:=6) rfl (Lv p q);have w2:kL p q 2 kG:=jQ (Ψ:=aq P1) (j:=7) rfl w1;have w3:kL p q 3 kH:=jQ (Ψ:=aq P4) (j:=8) rfl w2;exact jQ (Ψ:=aq FA) (j:=9) rfl w3
theorem Lz(p q:Int):kM p q 4 gO:=by
 have w1:kM p q 1 jA:=jR (Ψ:=aq FE) (j:=24) rfl rfl rfl rfl (Lw p q);have w2:kM p q 2 jB:=jR (Ψ:=aq FF) (j:=25) rfl rfl rfl rfl w1;have w3:kM p q 3 jC:=jR (Ψ:=aq FG) (j:=26) rfl rfl rfl rfl w2;exact jR (Ψ:=aq FH) (j:=27) rfl rfl rfl rfl w3
theorem Dh(hup:zT ts)(ho:∀t∈ts,t.2.1<=t.2.2):fV id ts=ts:=by
 unfold fV;have e:(ts.map (jF id)).map turnT=ts:=by rw[GZ];exact(Xc λt ht=>Ac (ho t ht)).trans (YQ _)
 rw[e,xj hup]
theorem lR{p q:Int}(ok:vn p q ts)(s:Bool):∃f,fU [aI p q ts,ao s]=.ok (f,ao (win p q 4 s [] (ts.map aM))):=by
 obtain⟨f,e⟩:=Lz p q s [] id ts gz.nil (GY ok.up) ok.len ok.len;have e0:iI p q id ts=aI p q ts:=by unfold iI;rw[Dh ok.up ok.ends];have:=ok.ord;show aI (if q<p then q else p) (if q>p then q else p) ts=_;rw[Wt (by omega),show (if q>p then q else p)=q by split<;>omega]
 rw[e0]at e;refine⟨f,?_⟩;have hl:¬ (ts.length:Int)>7:=by have:=ok.len;omega
 have el:jk .len [.rl (ts.map bM)]=.ok (true,.int (ts.length:Int)):=by rw[GR,Wr]
 have hq:LS (aq z5) (.cmp .gt (.blt .len #[.idx (!0) (¬1)]) (.con "MOST_TIES_TRIED" (.int 7))) [some (.sh,aI p q ts),some (.sh,ao s)]=.ok (true,.bl false):=by unfold aI;simp only[EV,cS nE,length_map,hl,decide_false]
 unfold fU jw;show pb (aU (aq z5) [] #[.iff _ _ _,.ret _] [some (.sh,aI p q ts),some (.sh,ao s)]) _=_;rw[aU,bL,hq,aK];show pb (pb (pb (pl (cC [] (.bl false))) _) _) _=_;rw[oZ,ck,aK,Wt Wm,aU,aK];generalize aI p q ts=N at *;simp only[EV,kK,e]
def pO(a b:Bool):Val:=if a=b then ao a else .str "first"
theorem Gh:∀a b,cop [] .eq (pO a b) (pO a b)=some true
 |true,true=>jG true true
 |false,false=>jG false false
 |true,false=>(Ae (cz _) (cz _)).trans (Xf some (decide_eq_true rfl))
 |false,true=>(Ae (cz _) (cz _)).trans (Xf some (decide_eq_true rfl))
theorem Di{p q:Int}(ok:vn p q ts):∃f,fE [aI p q ts]=.ok (f,pO (win p q 4 true [] (ts.map aM)) (win p q 4 false [] (ts.map aM))):=by
 obtain⟨f1,e1⟩:=lR ok true;obtain⟨f2,e2⟩:=lR ok false;generalize win p q 4 true [] (ts.map aM)=a at *;generalize win p q 4 false [] (ts.map aM)=b at *;have e1:fU [aI p q ts,.str "linker"]=.ok (f1,ao a):=e1;have e2:fU [aI p q ts,.str "cutter"]=.ok (f2,ao b):=e2;generalize aI p q ts=N at *;have sq:=jG b a;have q1:bL (aq wQ) [] (.asg (.one 1) (.call 29 #[!0,.cst (.str "linker")])) [some (.sh,N),none]=.ok (.nx [some (.sh,N),some (fc f1 (ao a),ao a)]):=by simp only[EV,gr,e1]
 have hq:LS (aq wQ) (.cmp .eq (.call 29 #[!0,.cst (.str "cutter")]) (!1)) [some (.sh,N),some (fc f1 (ao a),ao a)]=.ok (true,.bl (b==a)):=by simp only[EV,gr,e2,sq]
 refine⟨true,?_⟩;unfold fE dU;show pb (aU (aq wQ) [] #[.asg _ _,.iff _ _ _,.ret _] [some (.sh,N),none]) _=_;rw[iT q1,aU,bL,hq,aK];show pb (pb (pb (pl (cC [] (.bl (b==a)))) _) _) _=_;rw[oZ,ck,aK];unfold pO
 by_cases c:a=b
 ·subst c;rw[Wu rfl,Wu (Xv a)];simp only[EV,gP]
 ·rw[Wt c,Wt (by rw[YU];exact λh=>c h.symm),aU,aK];simp only[EV,aK]
def Pf:IE:=(.call 3 #[!0,.slc (!0) (¬5) (¬9)])
def Pg:IE:=(.comp ["_law_name","_law_one","_law_other"] [none,none,none] (.tup [0,1,2]) .seq #[.idx (!1) (¬1)] .no (.tup #[!1,!2]))
def Ph:IE:=(.tup #[.idx (!1) (¬0),.blt .list #[.idx (!1) (¬1)]])
def Dj:IE:=(.lst #[.cst (.str "linker"),.cst (.str "cutter")])
def RG:IS:=(.expr (.met .append (!4) #[.call 10 #[.idx (!1) (¬0),.lst .nil,!2,!5]]))
def Tz:IE:=(.cmp .ne (.call 29 #[!3,!5]) (.idx (!4) (.neg (¬1))))
def P6:IE:=(.cmp .eq (.idx (!4) (¬0)) (.idx (!4) (¬1)))
def LA:IE:=(.and (.cmp .eq (.call 30 #[!3]) (!6)) (.cmp .eq (!3) (!1)))
def fB:cE:=.cons (.ret (.cst (.bl false))) .nil
def lB:cE:=.cons RG #[.iff Tz fB .nil]
theorem LB:kE=.cons (.asg (.one 1) Pf) #[.asg (.one 2) Pg,.asg (.one 3) Ph,.asg (.one 4) (.lst .nil),.for (.one 5) .seq #[Dj] lB,.asg (.one 6) (.cst (.str "first")),.iff P6 #[.asg (.one 6) (.idx (!4) (¬0))] .nil,.ret LA]:=rfl
theorem Pj{p q:Int}{L:List (Int×Int)}{ts:List T3}{env:aP}{ds:List Val}{s w f:Bool}{c0 c6:Option (Mk×Val)}(hi:bR (ds++[ao w])=true)(hl:ds.length<=3)(he:di [ah (p,q),.rl [],.rl (L.map ah),ao s]=.ok (f,ao w))(h:env=[c0,some (.sh,aI p q ts),some (.sh,.rl (L.map ah)),some (.sh,aI p q ts),some (.ow,.rl ds),some (.sh,ao s),c6]) :
  bY (aq jW) [4] RG env=.ok (.nx [c0,some (.sh,aI p q ts),some (.sh,.rl (L.map ah)),some (.sh,aI p q ts),some (.ow,.rl (ds++[ao w])),some (.sh,ao s),c6]):=by
 subst h;have z0:0<=sizeLine:=by decide
 have hz:ds.length<sizeLine:=by unfold sizeLine;omega
 have ev:aX (aq jW) (.call 10 #[.idx (!1) (¬0),.lst .nil,!2,!5]) (bz [c0,some (.sh,aI p q ts),some (.sh,.rl (L.map ah)),some (.sh,aI p q ts),some (.ow,.rl ds),some (.sh,ao s),c6])=.ok (f,ao w):=by unfold aI;have he:di [.tup [.int p,.int q],.rl [],.rl (L.map ah),ao s]=.ok (f,ao w):=he;simp only[EV,Hv.bz,cS pZ,z0,nF,he]
 unfold RG;rw[Ry rfl];unfold Co
 try dsimp only
 show pb (aX (aq jW) _ _) _=_;rw[ev,aK]
 try dsimp only
 rw[kq (decide_eq_true hz),hi];rfl
theorem Hh{sp:List Nat}{f:Bool}(h:aX Ψ c (bz env)=.ok (f,.bl false)):bY Ψ sp (.iff c a .nil) env=.ok (.nx env):=by
 rw[bY,h,aK];show pb (pl (cC [] (.bl false))) _=_;rw[oZ,ck,aK,Wt Wm,dB]
theorem Pk{sp:List Nat}{f:Bool}(h:aX Ψ c (bz env)=.ok (f,.bl true)):bY Ψ sp (.iff c a .nil) env=dB Ψ sp a env:=by
 rw[bY,h,aK];show pb (pl (cC [] (.bl true))) _=_;rw[oZ,ck,aK,Wu rfl]
theorem LC(a:Bool):cop [] .ne (ao a) (ao a)=some false:=by
 show (cop [] .eq (ao a) (ao a)).map (λb=>!b)=_;rw[jG];cases a<;>rfl
theorem vp{p q:Int}{L:List (Int×Int)}{ts:List T3}{ds:List Val}{s w f f2:Bool}{c0 c6:Option (Mk×Val)}(hi:bR (ds++[ao w])=true)(hl:ds.length<=3)(he:di [ah (p,q),.rl [],.rl (L.map ah),ao s]=.ok (f,ao w))(ht:fU [aI p q ts,ao s]=.ok (f2,ao w))(hx:gA (ds++[ao w]) (-1)=some (ao w)) :
  dB (aq jW) [4] lB [c0,some (.sh,aI p q ts),some (.sh,.rl (L.map ah)),some (.sh,aI p q ts),some (.ow,.rl ds),some (.sh,ao s),c6]=.ok (.nx [c0,some (.sh,aI p q ts),some (.sh,.rl (L.map ah)),some (.sh,aI p q ts),some (.ow,.rl (ds++[ao w])),some (.sh,ao s),c6]):=by
 have sn:=LC w;unfold lB;rw[eY (Pj hi hl he rfl)];rw[eY (Hh (f:=true) (by
  unfold Tz;generalize aI p q ts=N at *;generalize ds++[ao w]=ds' at *;simp only[EV,Hv.bz,sJ,ht,iB hx,sn]))]
 rw[dB]
theorem Dk(ns:List Int):(cU ns (some 5) (some 9)).length<=4:=zU ns 5 4 (by decide)
theorem LD(ns:List Int)(hn:ns.length<=63):∃f,GV [.rl (ns.map .int)]=.ok (f,.bl true):=by
 obtain⟨p,q,ts,ea,ok⟩:=any_eq ns (cU ns (some 5) (some 9)) (Dk ns);have Hf:(ts.map aM).length<=4:=by rw[Wr];exact ok.len
 obtain⟨f1,w1⟩:=Dg p q true [] (ts.map aM) Hf (by simpa using Hf);obtain⟨f2,w2⟩:=Dg p q false [] (ts.map aM) Hf (by simpa using Hf);obtain⟨f3,t1⟩:=lR ok true;obtain⟨f4,t2⟩:=lR ok false;obtain⟨f5,pl⟩:=Di ok;generalize win p q 4 true [] (ts.map aM)=a at *;generalize win p q 4 false [] (ts.map aM)=b at *;have hc:ts.length<=100000:=by have:=ok.len;omega
 have z2:2<=sizeLine:=by decide
 have z0:0<=sizeLine:=by decide
 rw[XT]at w1 w2;have V7:cop [] .eq (aI p q ts) (aI p q ts)=some true:=by
  have:=Fo p q ts;change (cop [] .eq (aI p q ts) (aI p q ts)).map _=_ at this;cases h:cop [] .eq (aI p q ts) (aI p q ts) with
  |none=>rw[h]at this;cases this
  |some b=>rw[h]at this;cases b<;>simp_all
 have em:ts.map (λt=>ah (aM t))=(ts.map aM).map ah:=by rw[W4];rfl
 show ∃f,pb (dB (aq jW) (jr kE) kE [some (.sh,.rl (ns.map .int)),none,none,none,none,none,none]) _=_;rw[show jr kE=[4] from rfl,LB];rw[eY (sU (f:=true) (v:=aI p q ts) rfl (by
  unfold Pf;simp only[EV,Hv.iC,Cg,o4,sI,ea]))]
 simp only[set_cons_succ,set_cons_zero];rw[eY (sU (f:=true) (v:=.rl ((ts.map aM).map ah)) rfl (by
  unfold Pg aI;simp only[EV,Hv.iC,cS nE,fL,iW,length_map,hc];rw[eT bM (λt=>ah (aM t)) ts (λt ht=>by
   simp only[EV,jP,z2];rfl),em]
  rfl))]
 simp only[set_cons_succ,set_cons_zero];rw[eY (sU (f:=bR (ts.map bM)) (v:=aI p q ts) rfl (by unfold Ph aI;simp only[EV,Hv.iC,cS pZ,cS nE,z2]))];simp only[set_cons_succ,set_cons_zero];rw[eY (Lx (v:=.rl []) rfl rfl (by simp only[EV,Hv.bz,z0]))];simp only[set_cons_succ,set_cons_zero];generalize ts.map aM=L at *;have i1:bR ([]++[ao a])=true:=by cases a<;>rfl
 have i2:bR (([]++[ao a])++[ao b])=true:=by cases a<;>cases b<;>rfl
 have ef:bY (aq jW) [4] (.for (.one 5) .seq #[Dj] lB) [some (.sh,.rl (ns.map .int)),some (.sh,aI p q ts),some (.sh,.rl (L.map ah)),some (.sh,aI p q ts),some (.ow,.rl []),none,none]=.ok (.nx [some (.sh,.rl (ns.map .int)),some (.sh,aI p q ts),some (.sh,.rl (L.map ah)),some (.sh,aI p q ts),some (.ow,.rl [ao a,ao b]),some (.sh,ao false),none]):=by
  rw[bY];rw[show Fv Dj (.one 5) .seq lB=none from rfl]
  try dsimp only
  have en:Ft (aq jW) Dj [some (.sh,.rl (ns.map .int)),some (.sh,aI p q ts),some (.sh,.rl (L.map ah)),some (.sh,aI p q ts),some (.ow,.rl []),none,none]=.ok (true,.rl [ao true,ao false]):=by unfold Ft Dj;rw[show Val.rl [ao true,ao false]=.rl [.str "linker",.str "cutter"] from rfl];simp only[EV,Hv.iC,z2]
  rw[en,aK,fL,ck,aK,fN,b7,ck,aK];simp only[set_cons_succ,set_cons_zero];rw[vp i1 (by decide) w1 t1 (by rfl),aK]
  try dsimp only
  rw[fN,b7,ck,aK];simp only[set_cons_succ,set_cons_zero];rw[vp i2 (by simp) w2 t2 (by rfl),aK];rfl
 rw[eY ef];rw[eY (sU (f:=true) (v:=.str "first") rfl (by simp only[EV,Hv.iC]))];simp only[set_cons_succ,set_cons_zero];have sq:=jG a b;have j0:gA [ao a,ao b] 0=some (ao a):=rfl;have j1:gA [ao a,ao b] 1=some (ao b):=rfl;have e7:∀N:Val,aX (aq jW) P6 (bz [some (.sh,.rl (ns.map .int)),some (.sh,N),some (.sh,.rl (L.map ah)),some (.sh,N),some (.ow,.rl [ao a,ao b]),some (.sh,ao false),some (.sh,.str "first")])=.ok (true,.bl (a==b)):=λN=>by
  unfold P6;simp only[EV,Hv.bz,iB j0,iB j1,sq]
 have wd:=Gh a b;have e8:∃W:Val,W=pO a b/\bY (aq jW) [4] (.iff P6 #[.asg (.one 6) (.idx (!4) (¬0))] .nil) [some (.sh,.rl (ns.map .int)),some (.sh,aI p q ts),some (.sh,.rl (L.map ah)),some (.sh,aI p q ts),some (.ow,.rl [ao a,ao b]),some (.sh,ao false),some (.sh,.str "first")]=.ok (.nx [some (.sh,.rl (ns.map .int)),some (.sh,aI p q ts),some (.sh,.rl (L.map ah)),some (.sh,aI p q ts),some (.ow,.rl [ao a,ao b]),some (.sh,ao false),some (.sh,W)]):=by
  have e7:=e7 (aI p q ts);generalize aI p q ts=N at *
  by_cases c:a=b
  ·refine⟨ao a,by unfold pO;rw[Wu c],?_⟩;rw[show (a==b)=true by rw[c];exact Xv b]at e7;rw[Pk e7,eY (Ly (v:=ao a) rfl (by simp only[EV,Hv.iC];rfl) (by simp only[EV,Hv.bz,iB j0,gP])),dB];rfl
  ·refine⟨.str "first",by unfold pO;rw[Wt c],?_⟩;rw[show (a==b)=false from Xj.mpr c]at e7;rw[Hh e7]
 obtain⟨W,hW,e8⟩:=e8;rw[eY e8];refine⟨true,?_⟩;have er:aX (aq jW) LA (bz [some (.sh,.rl (ns.map .int)),some (.sh,aI p q ts),some (.sh,.rl (L.map ah)),some (.sh,aI p q ts),some (.ow,.rl [ao a,ao b]),some (.sh,ao false),some (.sh,W)])=.ok (true,.bl true):=by rw[<-hW]at pl wd;unfold LA;generalize aI p q ts=N at *;simp only[EV,Hv.bz,mF,pl,wd,V7]
 rw[dB,bY,er,aK];rfl
theorem true(ns:List Int)(hn:ns.length<=63):∃h',CY [.rl (ns.map .int)] []=.ok (.bl true) h':=by
 obtain⟨f,e⟩:=LD ns hn;exact FO e
end K71
end
end
section
namespace PySem.W.Fast
theorem tw130740100396552565:True:=trivial
theorem tw13409167643768453420:True:=trivial
theorem tw1794546061820226136:True:=trivial
theorem tw13803586577829729065:True:=trivial
theorem tw252482291666718545:True:=trivial
theorem tw5706968561486778766:True:=trivial
theorem tw9473719033329252397:True:=trivial
theorem tw17070057411861679596:True:=trivial
theorem tw13843259858432722039:True:=trivial
theorem tw11899584291906263212:True:=trivial
theorem tw5935383678201238781:True:=trivial
theorem tw16449424443046222306:True:=trivial
theorem tw156810365155989783:True:=trivial
theorem tw13628281047528789721:True:=trivial
theorem tw4028610043922124679:True:=trivial
theorem tw1763726373202410851:True:=trivial
theorem tw14784783527437924776:True:=trivial
theorem tw6638561216049566082:True:=trivial
theorem tw465047789895234225:True:=trivial
theorem tw12681491604078197401:True:=trivial
theorem tw2716507079574573533:True:=trivial
theorem tw3885256321899623422:True:=trivial
theorem tw1470923567047251561:True:=trivial
theorem tw1630637488126910141:True:=trivial
theorem tw5775235657141742864:True:=trivial
theorem tw6786250485989075819:True:=trivial
theorem tw1112858012315575182:True:=trivial
theorem tw15073348672060915889:True:=trivial
theorem tw1888176219342167200:True:=trivial
theorem tw7044871549615963288:True:=trivial
theorem tw13916628487898868889:True:=trivial
theorem tw10029549325047709976:True:=trivial
theorem tw11993490129841258672:True:=trivial
theorem tw17809904150906357766:True:=trivial
theorem tw1930525749495761037:True:=trivial
theorem tw2796402782175008761:True:=trivial
theorem tw5351180596080127897:True:=trivial
theorem tw17628112433513289137:True:=trivial
theorem tw1823603561643258557:True:=trivial
theorem tw7588416145607473518:True:=trivial
theorem tw4569849430224916535:True:=trivial
theorem tw1196108106647029865:True:=trivial
theorem tw2594836137507082019:True:=trivial
theorem tw12266825910786405227:True:=trivial
theorem tw9142129873011172084:True:=trivial
theorem tw4541883559629088567:True:=trivial
theorem tw14383813592344455531:True:=trivial
theorem tw9004935082127469695:True:=trivial
theorem tw9528092148311958026:True:=trivial
theorem tw17806921694473587651:True:=trivial
theorem tw102084027484669033:True:=trivial
theorem tw5968557842320051758:True:=trivial
theorem tw7212714653428488262:True:=trivial
theorem tw18421951086329899126:True:=trivial
theorem tw3789214206150953778:True:=trivial
theorem tw7787384434986794386:True:=trivial
theorem tw10134862873705382387:True:=trivial
theorem tw3806687481767206188:True:=trivial
theorem tw12009668414336674320:True:=trivial
theorem tw17948368918688674527:True:=trivial
theorem tw8102518013137028193:True:=trivial
theorem tw13404865796930034362:True:=trivial
theorem tw16077203647729888668:True:=trivial
theorem tw4933812963759548481:True:=trivial
theorem tw8193314467844876289:True:=trivial
theorem tw12505542569603034519:True:=trivial
theorem tw14324423491224106904:True:=trivial
theorem tw3039068920912039616:True:=trivial
theorem tw17384973882889521056:True:=trivial
theorem tw5359504824647167269:True:=trivial
theorem tw13468910034019089643:True:=trivial
theorem tw12465803953471130351:True:=trivial
theorem tw345284948579097192:True:=trivial
theorem tw15747334053240476649:True:=trivial
theorem tw11077725752043022648:True:=trivial
theorem tw3007190756793141328:True:=trivial
theorem tw206598544962165905:True:=trivial
theorem tw10946166069188328326:True:=trivial
theorem tw6411559202661011174:True:=trivial
theorem tw2603186622308978709:True:=trivial
theorem tw7816312104774111295:True:=trivial
theorem tw2728004295644843683:True:=trivial
theorem tw2709632755478924906:True:=trivial
theorem tw1704537321279789301:True:=trivial
end PySem.W.Fast
open PySem PySem.W PyProof.Rows
set_option maxRecDepth 100000 in
set_option maxHeartbeats 0 in
theorem PySem.Challenge.cw_linkorcut_k71_small_plays_holds : PySem.Challenge.rw_linkorcut_k71_small_plays.Holds := by
 w_on;o_law;k_head;(case hw=>w_witness2)
 k_fill
 refine Hv.walk (l:=PySem.Challenge.rw_linkorcut_k71_small_plays) (k:=64) (x:="_law_script") rfl rfl ⟨rfl,by decide,by decide⟩ (λw h Y=>PySem.W.kIn_of Y) ?F
 case F=>
  intro w mg fa h KX G hmg;refine' K71.all_mk KX G hmg K71.true ?_ ?_ ?_ ?_ ?_ ?_ ?_ ?_ ?_ ?_ ?_ ?_ ?_ ?_ ?_ ?_ ?_ ?_ ?_ ?_ ?_ ?_ ?_ ?_ ?_ ?_ ?_ ?_ ?_ ?_ ?_ ?_ ?_ ?_ ?_ ?_ ?_ ?_ ?_ ?_ ?_ ?_ ?_ ?_ ?_ ?_ ?_ ?_ ?_ ?_ ?_ ?_ ?_ ?_ ?_ ?_ ?_ ?_ ?_ ?_ ?_ ?_ ?_ ?_ ?_ ?_
  all_goals try first|k_is|exact⟨_,L2.fun_mk (by k_is) (by k_is) (by k_is)⟩|(intro x hx;simp only[Hv.bltNames,List.mem_cons,List.not_mem_nil,or_false]at hx;rcases hx with rfl|rfl|rfl|rfl|rfl|rfl|rfl|rfl|rfl|rfl|rfl|rfl|rfl|rfl|rfl|rfl|rfl<;>k_is)
#print axioms PySem.Challenge.cw_linkorcut_k71_small_plays_holds
end
